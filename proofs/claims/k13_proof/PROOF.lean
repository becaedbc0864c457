import PyProof.Rows.All
import Wide.All
import OpenK.AllK
import Wide.FinOn
import Lean
import PyProof.EqAt
import PyProof.EqKinds
import PyProof.TupleCall
import PySem.Challenge.RW_warnloop_k13_whole_mended_as_at_first
set_option linter.all false
set_option Elab.async false
set_option maxRecDepth 100000
set_option maxHeartbeats 4000000
set_option hygiene false
local macro_rules|`($i∣$n)=>`(Ai (i:=$i) ($n).nd rfl (Or.inl rfl))
local macro_rules|`($i∪$n∪$e)=>`(Ba (i:=$i) ($n).nd rfl (Or.inl rfl) $e)
local macro_rules|`(nofun)=>`(Bk.plain rfl (by trivial) (by trivial) (by trivial))
local macro_rules|`($s|||$a|||$b)=>`(Bk.of (src:=$s) $a $b rfl rfl rfl (by trivial) (by trivial) (by trivial) rfl (by trivial))
local macro_rules|`($i∩$n)=>`(Ai (i:=$i) (show List.Nodup (($n):YF) by trivial) rfl (Or.inl rfl))
local macro_rules|`(tactic|intros $xs:ident*)=>`(tactic|intro jb s U H $xs*)
local macro_rules|`($h^^^$s)=>`(Inv X jb U $h $s)
local macro_rules|`(~~~$e)=>`(λ_ _ _ _=>$e)
local macro_rules|`(0&&&$r $s)=>`(@Aa _ _ _ _ _ (@Af _ _ _ _) $r $s)
local macro_rules|`(⋯)=>`(Good P w K mg base)
local macro_rules|`(‹$x›)=>`(wpAny (model ($x).prog ($x).w) ($x).A)
local macro_rules|`($f⁻¹)=>`($f (P:=l.prog) (w:=w) (base:=base))
local macro_rules|`(tactic|exists $c,$s)=>`(tactic|refine ($c).good $s (by nofun) λ_ _ _ _ _ H vs Q E hr h=>?_)
local macro_rules|`(∅)=>`(s.heap.objs.size)
set_option hygiene true
abbrev YA:=PySem.Value→PySem.Shared→Prop
abbrev YH:=Unit→PySem.Shared→Prop
abbrev YB:=PySem.Str→Option PySem.Value
abbrev YC:=List (PySem.Addr×PySem.Obj)
abbrev YD:=PySem.W.Frag
abbrev YI:=Array (Option PySem.Value)
abbrev YE:=List PySem.Value
abbrev YF:=List PySem.Str
abbrev YJ:=List PySem.Expr
abbrev YK:=Array PySem.DictEntry
theorem rq{α:Sort _}{a:α}:a=a:=rfl
local macro_rules|`(tactic|trivial)=>`(tactic|decide +kernel)
local macro_rules | `(tactic|nofun) => `(tactic|(intro _ _ _ _ h;first|(cases h;subst_vars;rfl)|repeat (first|(obtain ⟨e,_⟩:=h;subst e;rfl)|obtain ⟨_,h⟩:=h)))
local macro_rules | `(tactic|ac_rfl) => `(tactic|exact ⟨rfl,rfl,rfl,by decide +kernel,rfl,by decide +kernel,by decide +kernel⟩)
open PySem.W (instObj hideAll hideAll_get lookIn plainGet hasDictIn findIn isFn makesIn emptyDict looks_findIn keepIn kitOne kia_one callWith_K fnOf codeIn nsIn mg_of excIn subIn looks_subIn kat_cons mg_none_of)
abbrev Qaa:=@PyProof.Rows.slot_tupleiter_next
abbrev Qab:=@PyProof.Rows.slot_tuple_getitem
abbrev Qac:=@PySem.F.slot_dict_itemiterator_next
abbrev Qad:=@PySem.F.slot_dict_keyiterator_next
abbrev Qae:=@PyProof.Rows.callWith_type1
abbrev Qaf:=@Array.getElem?_eq_some_iff
abbrev Qag:=@List.getElem?_append_right
abbrev Qah:=@List.nodup_iff_pairwise_ne
abbrev Qai:=@List.getElem?_eq_some_iff
abbrev Qaj:=@Classical.byContradiction
abbrev Qak:=@List.getElem?_append_left
abbrev Qal:=@List.drop_eq_getElem_cons
abbrev Qam:=@List.pairwise_iff_getElem
abbrev Qan:=@List.getElem?_eq_getElem
abbrev Qao:=@PySem.F.slot_list_append
abbrev Qap:=@PySem.F.type_list_append
abbrev Qaq:=@PySem.F.slot_list_extend
abbrev Qar:=@PySem.F.type_list_extend
abbrev Qas:=@PySem.F.plainAttrs_list
abbrev Qat:=@PySem.wpAny_callSpecial?_slot
abbrev Qau:=@List.filter_cons_of_neg
abbrev Qav:=@List.filter_cons_of_pos
abbrev Qaw:=@PySem.wpAny_getItem_str_slice
abbrev Qax:=@List.pairwise_singleton
abbrev Qay:=@PySem.Heap.get?_push_of_some
abbrev Qaz:=@List.find?_cons_of_neg
abbrev QaA:=@Option.map_eq_some_iff
abbrev QaB:=@PySem.Heap.get?_update_other
abbrev QaC:=@List.find?_cons_of_pos
abbrev QaD:=@List.mem_append_right
abbrev QaE:=@List.length_singleton
abbrev QaF:=@PySem.Heap.get?_update_self
abbrev QaG:=@List.length_replicate
abbrev QaH:=@PySem.F.slot_dict_get
abbrev QaI:=@List.mem_of_getElem?
abbrev QaJ:=@List.mem_cons_of_mem
abbrev QaK:=@List.mem_append_left
abbrev QaL:=@List.getElem?_of_mem
abbrev QaM:=@List.mem_of_mem_take
abbrev QaN:=@PySem.Heap.get?_push_size
abbrev QaO:=@beq_eq_false_iff_ne
abbrev QaP:=@List.flatMap_append
abbrev QaQ:=@List.map_congr_left
abbrev QaR:=@Array.length_toList
abbrev QaS:=@PySem.mem_of_lookup
abbrev QaT:=@PySem.Heap.SameBut.update
abbrev QaU:=@Int.toNat_of_nonneg
abbrev QaV:=@List.length_append
abbrev QaW:=@List.mem_cons_self
abbrev QaX:=@List.set_cons_zero
abbrev QaY:=@List.set_cons_succ
abbrev QaZ:=@Bool.false_ne_true
abbrev Qbb:=@Nat.lt_of_lt_of_le
abbrev Qbc:=@List.mem_singleton
abbrev Qbd:=@PySem.wpAny_pyIter_tuple
abbrev Qbe:=@PySem.wpAny_setField_rec
abbrev Qbf:=@decide_eq_true_iff
abbrev Qbg:=@List.filter_append
abbrev Qbh:=@PySem.wpAny_Call_Name_kw
abbrev Qbi:=@Int.emod_lt_of_pos
abbrev Qbj:=@PySem.tupleKind_room_in1
abbrev Qbl:=@List.size_toArray
abbrev Qbm:=@List.getElem?_map
abbrev Qbn:=@List.append_assoc
abbrev Qbo:=@Int.toNat_natCast
abbrev Qbp:=@List.flatMap_cons
abbrev Qbq:=@PySem.wpAny_truthy_bool
abbrev Qbr:=@PySem.wpAny_newObj_type
abbrev Qbs:=@of_decide_eq_true
abbrev Qbt:=@List.length_range
abbrev Qbu:=@List.nodup_append
abbrev Qbv:=@PySem.wpAny_pyIter_list
abbrev Qbw:=@PySem.wpAny_loadPart_at
abbrev Qbx:=@List.pairwise_map
abbrev Qby:=@List.take_length
abbrev Qbz:=@List.length_cons
abbrev QbA:=@List.length_take
abbrev QbB:=@List.not_mem_nil
abbrev QbC:=@PySem.wpAny_call_entry
abbrev QbD:=@List.length_drop
abbrev QbE:=@Nat.lt_succ_self
abbrev QbF:=@Bool.and_eq_true
abbrev QbG:=@List.mem_flatMap
abbrev QbH:=@List.length_map
abbrev QbI:=@List.mem_append
abbrev QbJ:=@List.map_append
abbrev QbK:=@PySem.PassesOwn.never
abbrev QbL:=@decide_eq_false
abbrev QbM:=@List.append_nil
abbrev QbN:=@Option.some.inj
abbrev QbO:=@List.nodup_cons
abbrev QbQ:=@List.mem_filter
abbrev QbR:=@Bool.eq_iff_iff
abbrev QbT:=@PySem.wpAny_passesOwn
abbrev QbU:=@Nat.not_lt_zero
abbrev QbV:=@Int.emod_nonneg
abbrev QbW:=@List.find?_cons
abbrev QbX:=@decide_eq_true
abbrev QbY:=@PySem.Heap.size_push
abbrev QbZ:=@List.nodup_nil
abbrev Qca:=@List.mem_range
abbrev Qcb:=@PySem.wpAny_seqItems
abbrev Qcc:=@PySem.Paired.length
abbrev Qcd:=@List.mem_cons
abbrev Qce:=@List.map_cons
abbrev Qcg:=@Nat.lt_irrefl
abbrev Qch:=@PySem.wpAny_holding
abbrev Qci:=@List.any_cons
abbrev Qcj:=@PySem.wpAny_standAt
abbrev Qck:=@PySem.wpAny_attempt
abbrev Qcl:=@List.mem_map
abbrev Qcm:=@PySem.Heap.lt_size
abbrev Qcn:=@Nat.ne_of_lt
abbrev Qco:=@Nat.le_trans
abbrev Qcp:=@List.map_map
abbrev Qcq:=@Nat.ne_of_gt
abbrev Qcr:=@Int.zero_add
abbrev Qcs:=@Nat.le_of_lt
abbrev Qct:=@PySem.codeAny_mono
abbrev Qcu:=@List.map_nil
abbrev Qcv:=@Nat.le_refl
abbrev Qcw:=@Nat.zero_le
abbrev Qcx:=@PySem.Paired.snoc
abbrev Qcy:=@PySem.wpAny_field
abbrev Qcz:=@PySem.sizeLine_eq
abbrev QcA:=@Nat.le_succ
abbrev QcB:=@Int.le_refl
abbrev QcC:=@PySem.wpAny_bind
abbrev QcD:=@PySem.wpAny_pure
abbrev QcE:=@PySem.wpAny_mono
abbrev QcF:=@PyProof.Rows.take_snoc
abbrev QcG:=@or_false
namespace L2
open PySem PySem.Spec PyProof.Rows
abbrev Key:=Sum Int Str
def Ue:Key->Value->Bool
 | .inl k,v=>Value.isInt k v
 | .inr x,v=>Value.isStrOf x v
def MT (w:World):Key->Int
 | .inl k=>hashInt k
 | .inr x=>hashStr w x
theorem Eu:∀{k:Key} {v:Value},Ue k v=true->(∃i t,k=Sum.inl i/\v=Value.int i t)\/(∃x t,k=Sum.inr x/\v=Value.str x t)
 | .inl i,v,h=>by
  obtain⟨t,e⟩:=Value.isInt_shape (k:=i) (v:=v) h;exact .inl ⟨i,t,rq,e⟩
 | .inr x,v,h=>by
  obtain⟨t,e⟩:=Value.isStrOf_shape (x:=x) (v:=v) h;exact .inr ⟨x,t,rq,e⟩
theorem qL (i:Int) (t:Tok):Ue (.inl i) (.int i t)=true:=by simp[Ue,Value.isInt]
theorem qK (x:Str) (t:Tok):Ue (.inr x) (.str x t)=true:=by simp[Ue,Value.isStrOf]
theorem DE (a b:Int):decide ((Sum.inl a:Key)=Sum.inl b)=(a == b):=by
 by_cases e:a=b
 ·subst e;simp
 ·have h:¬(Sum.inl a:Key)=Sum.inl b:=λq=>e (Sum.inl.inj q);rw[QbL h];exact (QaO.mpr e).symm
theorem DB (a b:Str):decide ((Sum.inr a:Key)=Sum.inr b)=decide (a=b):=by
 by_cases e:a=b
 ·subst e;simp
 ·have h:¬(Sum.inr a:Key)=Sum.inr b:=λq=>e (Sum.inr.inj q);rw[QbL h,QbL e]
theorem DD (a:Int) (b:Str):decide ((Sum.inl a:Key)=Sum.inr b)=false:=QbL (λq=>nomatch q)
theorem DC (a:Str) (b:Int):decide ((Sum.inr a:Key)=Sum.inl b)=false:=QbL (λq=>nomatch q)
def Dm (prog:Program) (w:World):PySem.KeyKind prog w Key where
 is:=Ue
 hash:=MT w
 inj:=λv a b ha hb=>by
  rcases Eu ha with⟨i,t,rfl,rfl⟩|⟨x,t,rfl,rfl⟩
  ·rcases Eu hb with⟨j,u,rfl,e⟩|⟨y,u,rfl,e⟩
   ·injection e with e1 _;rw[e1]
   ·exact nomatch e
  ·rcases Eu hb with⟨j,u,rfl,e⟩|⟨y,u,rfl,e⟩
   ·exact nomatch e
   ·injection e with e1 _;rw[e1]
 byValue:=λk v h=>by
  rcases Eu h with⟨i,t,rfl,rfl⟩|⟨x,t,rfl,rfl⟩ <;> rfl
 pyHash:=λhv h=>by
  rcases Eu hv with⟨i,t,rfl,rfl⟩|⟨x,t,rfl,rfl⟩
  ·exact wpAny_pyHash_int h
  ·exact wpAny_pyHash_str h
 eqBool:=λhu hv h=>by
  rcases Eu hu with⟨i,t,rfl,rfl⟩|⟨x,t,rfl,rfl⟩
  ·rcases Eu hv with⟨j,u,rfl,rfl⟩|⟨y,u,rfl,rfl⟩
   ·rw[DE] at h;exact wpAny_eqBool_int h
   ·rw[DD] at h;exact SeqAt.EqAt.int_str i t y u _ _ _ _ h
  ·rcases Eu hv with⟨j,u,rfl,rfl⟩|⟨y,u,rfl,rfl⟩
   ·rw[DC] at h;exact SeqAt.EqAt.str_int x t j u _ _ _ _ h
   ·rw[DB] at h;exact wpAny_eqBool_str h
 «strs»:=λk x t v h=>by
  rcases Eu h with⟨i,u,rfl,e⟩|⟨y,u,rfl,e⟩
  ·exact nomatch e
  ·injection e with e1 _;subst e1;cases v <;> rfl
theorem iu (prog:Program) (w:World) (i:Int) (t:Tok):(Dm prog w).is (.inl i) (.int i t)=true:=qL i t
theorem ig (prog:Program) (w:World) (x:Str) (t:Tok):(Dm prog w).is (.inr x) (.str x t)=true:=qK x t
inductive V where
 | non | bl (b:Bool) | int (i:Int) | str (x:Str) | byt (b:Array UInt8) | flt (b:UInt64) | ref (a:Addr) | ty (n:String)
 deriving DecidableEq
def RelV:V->Value->Prop
 | .non,u=>u=Value.none
 | .bl b,u=>u=Value.bool b
 | .int i,u=>∃t,u=Value.int i t
 | .str x,u=>∃t,u=Value.str x t
 | .byt b,u=>∃t,u=Value.bytes b t
 | .flt b,u=>∃t,u=Value.float b t
 | .ref a,u=>u=Value.ref a
 | .ty n,u=>u=Value.type n
abbrev YG:=List V
abbrev Vals:YG->YE->Prop:=Paired RelV
theorem Vals.length {xs:YG} {us:YE} (r:Vals xs us):xs.length=us.length:=Qcc r
theorem Vals.get:∀{xs:YG} {us:YE} {i:Nat} {x:V},Vals xs us->xs[i]?=some x->∃u,us[i]?=some u/\RelV x u
 | _,_,_,_,.nil,e=>by simp at e
 | _,_,0,_,.cons r _,e=>by simp at e;subst e;exact⟨_,rfl,r⟩
 | _,_,i+1,x,.cons _ t,e=>by
  obtain⟨u,h1,h2⟩:=Vals.get (i:=i) (x:=x) t (by simpa using e);exact⟨u,by simpa using h1,h2⟩
theorem Vals.set {x:V} {u:Value} (r:RelV x u):∀{xs:YG} {us:YE} (i:Nat),Vals xs us->Vals (xs.set i x) (us.set i u)
 | _,_,_,.nil=>.nil
 | _,_,0,.cons _ t=>.cons r t
 | _,_,i+1,.cons q t=>.cons q (Vals.set r i t)
theorem Vals.append:∀{xs ys:YG} {us ws:YE},Vals xs us->Vals ys ws->Vals (xs++ys) (us++ws)
 | _,_,_,_,.nil,s=>s
 | _,_,_,_,.cons r t,s=>.cons r (Vals.append t s)
theorem Vals.take:∀{xs:YG} {us:YE} (n:Nat),Vals xs us->Vals (xs.take n) (us.take n)
 | _,_,0,_=>.nil
 | _,_,_+1,.nil=>.nil
 | _,_,n+1,.cons r t=>.cons r (Vals.take n t)
theorem Vals.drop:∀{xs:YG} {us:YE} (n:Nat),Vals xs us->Vals (xs.drop n) (us.drop n)
 | _,_,0,r=>r
 | _,_,_+1,.nil=>.nil
 | _,_,n+1,.cons _ t=>Vals.drop n t
def Ip:Option V->Option Value->Prop
 | some v,some u=>RelV v u
 | none,none=>True
 | _,_=>False
def KV {κ : Type}:List (κ×V)->List (κ×Value)->Prop:=Paired λ(p:κ×V) (q:κ×Value)=>p.1=q.1/\RelV p.2 q.2
def kV:Key->V
 | .inl i=>.int i
 | .inr x=>.str x
inductive HO where
 | lst (xs:YG)
 | tup (xs:YG)
 | dK (kvs:List (Key×V)) | dT (kvs:List (List Key×V))
 | set (S:Int->Bool) (n:Nat)
 | ins (C dx:Addr) (fs:List (Str×V))
 | own (x:Addr)
 | xd (fs:List (Str×V))
 | met (f x:Addr)
 | rng (lo hi:Int)
 | frz (o:Obj) (u:HO)
 | tbl (ps:Array Value)
 | ext (φ : Heap->Prop)
abbrev Hp:=Addr->Option HO
def upd (H:Hp) (a:Addr) (o:HO):Hp:=λb=>if b=a then some o else H b
theorem Ab {H:Hp} {a:Addr} {o:HO}:upd H a o a=some o:=by unfold upd;rw[if_pos rfl]
theorem Am {H:Hp} {a b:Addr} {o:HO} (h:b≠a):upd H a o b=H b:=by unfold upd;rw[if_neg h]
theorem TF {H:Hp} {a:Addr} {o u:HO}:upd (upd H a o) a u=upd H a u:=by
 funext b;unfold upd;split <;> rfl
theorem zc {H:Hp} {a b:Addr} {o u:HO} (h:H a=some o) (h':H b=some u) (d:o≠u):a≠b:=by
 intro e;subst e;rw[h] at h';exact d (QbN h')
theorem Aq {H:Hp} {a b:Addr} {o:HO} (h:H a=some o) (h':H b=none):a≠b:=by
 intro e;subst e;rw[h] at h';cases h'
section
variable (P:Program) (w:World)
def Bx (H:Hp) (h:Heap) (a:Addr):HO->Prop
 | .lst xs=>xs.length<=sizeLine/\∃(its:YE) (n:Nat),Vals xs its/\h.get? a=some { cls:=.type "list",data:=.seq its.toArray n }
 | .tup xs=>xs.length<=sizeLine/\∃its:YE,Vals xs its/\IsTup h a its.toArray
 | .dK kvs=>kvs.length<=sizeLine/\(a == sysModules)=false/\∃vs,KV kvs vs/\h.DictOf (Dm P w) a vs
 | .dT kvs=>kvs.length<=sizeLine/\(a == sysModules)=false/\∃xs:List (List Key×Addr×Value),
   Paired (λ(p:List Key×V) (q:List Key×Addr×Value)=>p.1=q.1/\H q.2.1=some (.tup (p.1.map kV))/\RelV p.2 q.2.2) kvs xs /\
   ∃o es ep,h.get? a=some o/\o.ExactDict/\o.data=.dict es ep/\es.toList=xs.map (entryOfKey (tupleKind (Dm P w)))/\(xs.map (·.1)).Nodup
 | .set S n=>h.SetOf (intKind P w) a S n
 | .ins C dx fs=>H dx=some (.own a)/\fs.length<=1000/\dx≠a/\h.get? a=some (instObj C dx) /\
   ∃mA,h.Ns1 dx mA/\(∀f,Ip (fs.lookup f) (mA f))/\PySem.Within mA (fs.map (·.1))
 | .own _=>∃o,h.get? a=some o
 | .xd fs=>∃mA,h.Ns1 a mA/\∀f,Ip (fs.lookup f) (mA f)
 | .rng lo hi=>∃t u v,h.get? a=some { cls:=.type "range",data:=.fields #[.int lo t,.int hi u,.int 1 v] }
 | .frz o u=>h.get? a=some o/\Bx H h a u
 | .tbl ps=>h.get? a=some { cls:=.none,data:=.fields ps }
 | .met f x=>h.get? a=some (PySem.W.methodObj (.ref f) (.ref x))
 | .ext φ=>φ h/\(∃o,h.get? a=some o)/\∀h1 h2:Heap,φ h1->(∀o,h1.get? a=some o->h2.get? a=some o)->φ h2
def HOk (H:Hp) (h:Heap):Prop:=∀a o,H a=some o->Bx P w H h a o
end
section
variable {P:Program} {w:World} {H H':Hp} {h h':Heap} {a:Addr} {o:HO}
theorem Bx.lt (x:Bx P w H h a o):a < h.objs.size:=by
 cases o with
 | lst xs=>obtain⟨_,_,_,_,e⟩:=x;exact Qcm e
 | tup xs=>obtain⟨_,_,_,p⟩:=x;exact p.lt
 | dK kvs=>obtain⟨_,_,_,_,o,_,_,e,_⟩:=x;exact Qcm e
 | dT kvs=>obtain⟨_,_,_,_,o,_,_,e,_⟩:=x;exact Qcm e
 | set S n=>obtain⟨o,_,_,_,e,_⟩:=x;exact Qcm e
 | ins C dx fs=>obtain⟨_,_,_,e,_⟩:=x;exact Qcm e
 | own y=>obtain⟨_,e⟩:=x;exact Qcm e
 | xd fs=>obtain⟨_,⟨_,_,_,e,_⟩,_⟩:=x;exact Qcm e
 | rng lo hi=>obtain⟨_,_,_,e⟩:=x;exact Qcm e
 | frz ob u=>obtain⟨e,_⟩:=x;exact Qcm e
 | tbl ps=>exact Qcm (show h.get? a=some _ from x)
 | met f y=>exact Qcm (show h.get? a=some _ from x)
 | ext φ=>obtain⟨_,⟨_,e⟩,_⟩:=x;exact Qcm e
theorem Paired.Ax {α β : Type} {F G:α->β->Prop}:∀{l₁ : List α} {l₂ : List β},Paired F l₁ l₂->(∀a b,F a b->G a b)->Paired G l₁ l₂
 | _,_,.nil,_=>.nil
 | _,_,.cons r t,f=>.cons (f _ _ r) (Paired.Ax t f)
theorem Bx.stay (x:Bx P w H h a o) (k:∀b u,(b=a\/H b=some (.own a))->h.get? b=some u->h'.get? b=some u)
  (ho:∀b,H b=some (.own a)->H' b=some (.own a)) (ht:∀b xs,H b=some (.tup xs)->H' b=some (.tup xs)):Bx P w H' h' a o:=by
 induction o with
 | lst xs=>obtain⟨z,its,n,r,e⟩:=x;exact⟨z,its,n,r,k _ _ (.inl rfl) e⟩
 | tup xs=>obtain⟨z,its,r,ob,e,c⟩:=x;exact⟨z,its,r,ob,k _ _ (.inl rfl) e,c⟩
 | dK kvs=>obtain⟨z,y,vs,r,ob,es,ep,e,c⟩:=x;exact⟨z,y,vs,r,ob,es,ep,k _ _ (.inl rfl) e,c⟩
 | dT kvs=>
  obtain⟨z,y,xs,r,ob,es,ep,e,c⟩:=x;exact⟨z,y,xs,Paired.Ax r λp q z=>⟨z.1,ht _ _ z.2.1,z.2.2⟩,ob,es,ep,k _ _ (.inl rfl) e,c⟩
 | set S n=>obtain⟨ob,es,ep,t,e,c⟩:=x;exact⟨ob,es,ep,t,k _ _ (.inl rfl) e,c⟩
 | ins C dx fs=>
  obtain⟨d,z,ne,e,mA,⟨od,es,ep,e2,c⟩,r⟩:=x;exact⟨ho _ d,z,ne,k _ _ (.inl rfl) e,mA,⟨od,es,ep,k _ _ (.inr d) e2,c⟩,r⟩
 | own y=>obtain⟨ob,e⟩:=x;exact⟨ob,k _ _ (.inl rfl) e⟩
 | xd fs=>obtain⟨mA,⟨od,es,ep,e,c⟩,r⟩:=x;exact⟨mA,⟨od,es,ep,k _ _ (.inl rfl) e,c⟩,r⟩
 | rng lo hi=>obtain⟨t,u,v,e⟩:=x;exact⟨t,u,v,k _ _ (.inl rfl) e⟩
 | frz ob u ih=>obtain⟨e,q⟩:=x;exact⟨k _ _ (.inl rfl) e,ih q⟩
 | tbl ps=>
  have e:h.get? a=some { cls:=.none,data:=.fields ps }:=x;show h'.get? a=some { cls:=.none,data:=.fields ps };exact k a _ (.inl rfl) e
 | met f y=>
  have e:h.get? a=some (PySem.W.methodObj (.ref f) (.ref y)):=x;show h'.get? a=some (PySem.W.methodObj (.ref f) (.ref y));exact k a _ (.inl rfl) e
 | ext φ=>obtain⟨p,⟨o,e⟩,st⟩:=x;exact⟨st _ _ p λo q=>k _ _ (.inl rfl) q,⟨o,k _ _ (.inl rfl) e⟩,st⟩
theorem HOk.lt (x:HOk P w H h) (e:H a=some o):a < h.objs.size:=(x a o e).lt
theorem HOk.fresh (x:HOk P w H h) (e:h.objs.size<=a):H a=none:=by
 cases q:H a with
 | none=>rfl
 | some u=>exact absurd (Qbb (x.lt q) e) (Qcg _)
theorem HOk.kept (x:HOk P w H h) (k:∀b u,h.get? b=some u->h'.get? b=some u):HOk P w H h':=λa o e=>
 (x a o e).stay (λb u _ q=>k b u q) (λ_ q=>q) λ_ _ q=>q
theorem HOk.laid (x:HOk P w H h) (k:∀b u,h.get? b=some u->h'.get? b=some u) (hp:h.objs.size<=a) (new:Bx P w (upd H a o) h' a o):HOk P w (upd H a o) h':=λb u e=>by
 have hn:=x.fresh hp;by_cases hb:b=a
 ·subst hb;rw[Ab] at e;cases e;exact new
 ·rw[Am hb] at e;exact (x b u e).stay (λc v _ q=>k c v q) (λc q=>by rw[Am (Aq q hn)];exact q) λc xs q=>by rw[Am (Aq q hn)];exact q
end
def Rd (H:Hp) (a:Addr) (u:HO):Prop:=H a=some u\/∃o,H a=some (.frz o u)
theorem Rd.ok {P:Program} {w:World} {H:Hp} {h:Heap} {a:Addr} {u:HO} (r:Rd H a u) (x:HOk P w H h):Bx P w H h a u:=by
 rcases r with r |⟨o,r⟩
 ·exact x a u r
 ·obtain⟨_,q⟩:=x a _ r;exact q
def Mut:Option HO->Prop
 | some (.lst _)=>True
 | some (.dK _)=>True
 | some (.dT _)=>True
 | some (.set _ _)=>True
 | some (.ins _ _ _)=>True
 | some (.ext _)=>True
 | _=>False
section
variable {P:Program} {w:World} {H:Hp} {h h':Heap} {x e:Addr} {o':HO}
theorem HOk.write (ok:HOk P w H h) (mu:Mut (H x)) (he:e=x\/H e=some (.own x)) (k:∀b u,b≠e->h.get? b=some u->h'.get? b=some u) (heo:∃u,h'.get? e=some u)
  (new:Bx P w (upd H x o') h' x o'):HOk P w (upd H x o') h':=λb u q=>by
 have C5:∀c y,H c=some (.own y)->c≠x:=λc y r z=>by subst z;rw[r] at mu;exact mu
 have DG:∀c xs,H c=some (.tup xs)->c≠x:=λc xs r z=>by subst z;rw[r] at mu;exact mu
 by_cases hb:b=x
 ·subst hb;rw[Ab] at q;cases q;exact new
 ·rw[Am hb] at q;by_cases hbe:b=e
  ·have q':H b=some (.own x):=by
    rcases he with z | z
    ·exact absurd (hbe.trans z) hb
    ·rw[hbe];exact z
   rw[q] at q';cases q';obtain⟨v,hv⟩:=heo;exact⟨v,by rw[hbe];exact hv⟩
  ·refine (ok b u q).stay (λc v hc r=>k c v ?_ r) (λc r=>by rw[Am (C5 c b r)];exact r) λc xs r=>by rw[Am (DG c xs r)];exact r
   rcases hc with rfl | hc
   ·exact hbe
   ·rintro rfl;rcases he with z | z
    ·exact C5 c b hc z
    ·rw[hc] at z;cases z;exact hb rfl
end
structure Un (fs ex:List Addr) (H H':Hp) (h h':Heap):Prop where
 keep:∀b o,h.get? b=some o->H b=none->b∉fs->b∉ex->h'.get? b=some o
 slot:∀b o,h.get? b=some o->H b=none->b∈fs->b∉ex->∃sl,h'.get? b=some { o with slots:=sl }
 free:∀b o,h.get? b=some o->H b=none->b∉ex->H' b=none
 there:∀b o,h.get? b=some o->b∉ex->∃o',h'.get? b=some o'
 tups:∀b xs,H b=some (.tup xs)->H' b=some (.tup xs)
 Io:∀b o u,H b=some (.frz o u)->H' b=some (.frz o u)
 Ju:∀b ps,H b=some (.tbl ps)->∃more,H' b=some (.tbl (ps++more))
section
variable {fs fs' ex ex':List Addr} {H H1 H2:Hp} {h h1 h2 h':Heap} {a x e:Addr} {o:HO}
theorem Un.any (u:Un fs ex H H1 h h1) {b:Addr} {ob:Obj} (q:h.get? b=some ob) (n:H b=none) (hx:b∉ex):∃sl,h1.get? b=some { ob with slots:=sl }:=by
 by_cases hb:b∈fs
 ·exact u.slot b ob q n hb hx
 ·exact⟨ob.slots,u.keep b ob q n hb hx⟩
theorem Un.kept (k:∀b u,h.get? b=some u->h'.get? b=some u):Un fs ex H H h h':=
 ⟨λb ob q _ _ _=>k b ob q,λb ob q _ _ _=>⟨ob.slots,k b ob q⟩,λ_ _ _ n _=>n,λb ob q _=>⟨ob,k b ob q⟩,λ_ _ q=>q,λ_ _ _ q=>q,λ_ ps q=>⟨#[],by rw[q];simp⟩⟩
theorem Un.refl:Un fs ex H H h h:=Un.kept λ_ _ q=>q
theorem Un.laid (k:∀b u,h.get? b=some u->h'.get? b=some u) (hp:h.objs.size<=a) (hn:H a=none):Un fs ex H (upd H a o) h h' where
 keep:=λb u q _ _ _=>k b u q
 slot:=λb u q _ _ _=>⟨u.slots,k b u q⟩
 free:=λb u q n _=>by rw[Am (Qcn (Qbb (Qcm q) hp))];exact n
 there:=λb u q _=>⟨u,k b u q⟩
 tups:=λb xs q=>by rw[Am (Aq q hn)];exact q
 Io:=λb u xs q=>by rw[Am (Aq q hn)];exact q
 Ju:=λb ps q=>⟨#[],by rw[Am (Aq q hn),q];simp⟩
theorem Un.write (mu:Mut (H x)) (he:e=x\/H e=some (.own x)) (k:∀b u,b≠e->h.get? b=some u->h'.get? b=some u) (heo:∃u,h'.get? e=some u):Un fs ex H (upd H x o) h h':=by
 have hx:∀b,H b=none->b≠x:=λb n z=>by subst z;rw[n] at mu;exact mu
 have hb:∀b,H b=none->b≠e:=λb n z=>by
  subst z;rcases he with r | r
  ·exact hx b n r
  ·rw[n] at r;cases r
 have hm:∀b u,H b=some u->¬Mut (some u)->b≠x:=λb u q nm z=>by subst z;rw[q] at mu;exact nm mu
 refine⟨λb u q n _ _=>k b u (hb b n) q,λb u q n _ _=>⟨u.slots,k b u (hb b n) q⟩,λb u q n _=>by rw[Am (hx b n)];exact n,λb u q _=>?_,
  λb xs q=>by rw[Am (hm b _ q λz=>z)];exact q,λb u xs q=>by rw[Am (hm b _ q λz=>z)];exact q,λb ps q=>⟨#[],by rw[Am (hm b _ q λz=>z),q];simp⟩⟩
 by_cases hbe:b=e
 ·subst hbe;exact heo
 ·exact⟨u,k b u hbe q⟩
end
def trk (h:Heap) (H:Hp):List Addr:=(List.range h.objs.size).filter λa=>(H a).isSome
def Rk (h:Heap) (H:Hp):Heap:=hideAll h (trk h H)
theorem qT (h:Heap) (H:Hp):(Rk h H).objs.size=h.objs.size:=PySem.W.hideAll_size _ _
theorem xW {h:Heap} {H:Hp} {b:Addr} {o:Obj} (e:h.get? b=some o) (n:H b=none):(Rk h H).get? b=some o:=
 hideAll_get _ e λhm=>by
  have q:(H b).isSome=true:=(QbQ.mp hm).2;rw[n] at q;simp at q
theorem AI {h:Heap} {H:Hp} {b:Addr} {o:Obj} (e:(Rk h H).get? b=some o):h.get? b=some o/\H b=none:=by
 have e':h.get? b=some o:=PySem.W.of_hideAll (trk h H) e;refine⟨e',?_⟩;cases q:H b with
 | none=>rfl
 | some x=>
  have hm:b∈trk h H:=QbQ.mpr ⟨Qca.mpr (Qcm e'),by simp[q]⟩;have z:(Rk h H).get? b=none:=PySem.W.hideAll_none (trk h H) hm;rw[z] at e;cases e
def Ur (g h:Heap) (L:Addr):YC:=(List.range h.objs.size).filterMap λa=>if a=L\/(g.get? a).isSome=true then none else (h.get? a).map λo=>(a,o)
theorem Qm {g h:Heap} {L a:Addr} {o:Obj} (h1:a≠L) (h2:g.get? a=none) (h3:h.get? a=some o):(a,o)∈Ur g h L:=
 List.mem_filterMap.mpr ⟨a,Qca.mpr (Qcm h3),by simp[h1,h2,h3]⟩
theorem Ys {g h:Heap} {L:Addr} {p:Addr×Obj} (hp:p∈Ur g h L):p.1≠L/\g.get? p.1=none/\h.get? p.1=some p.2:=by
 obtain⟨b,_,e⟩:=List.mem_filterMap.mp hp;split at e
 ·cases e
 ·rename_i hn;cases q:h.get? b with
  | none=>rw[q] at e;simp at e
  | some u=>
   rw[q] at e;simp only[Option.map_some,Option.some.injEq] at e;subst e;refine⟨λz=>hn (.inl z),?_,q⟩;show g.get? b=none;cases r:g.get? b with
   | none=>rfl
   | some v=>exact (hn (.inr (by simp[r]))).elim
def rest (g h:Heap) (L d:Addr):YC:=(Ur g h L).filter λp=>decide (p.1≠d)
theorem wB {g h:Heap} {L:Addr}:News g L h (Ur g h L):=λp hp=>let ⟨a,b,c⟩:=Ys hp;⟨c,a,b⟩
structure Mod (K:YD) (mg:YB) (base:Heap):Prop where
 kin:K.In base
 glob:base.Ns mainGlobals mg
 blt:∃mb,base.Ns builtinsNs mb/\∀x:Str,x≠"__name__"->mb x=bootBuiltins x
 nolimit:base.NoLimit
structure Cx where
 prog:Program
 w:World
 K:YD
 mg:YB
 base:Heap
 A:Around
 N:YF
 s₀ : Shared
 H₀ : Hp
 env:Env
 outer:List Env
 stack:List Env
 ex:List Addr
 fn:Str->Bool
 calm:Bool
 pn:YC
 xe:YA
def frs (l:List Env):List Addr:=l.filterMap (·.frame)
abbrev Cx.fs (X:Cx):List Addr:=frs X.outer
def Vis (sc:Scope) (x:Str):Prop:=sc.names.lookup x=some .local\/sc.names.lookup x=some .cell\/sc.names.lookup x=some .free
def Loc (sc:Scope) (x:Str):Prop:=sc.names.lookup x=some .local\/sc.names.lookup x=some .cell
def Look (env:Env) (h:Heap) (m:YB) (x:Str) (u:Value):Prop:=
 (env.kindOf x=some .local/\m x=some u)\/((env.kindOf x=some .cell\/env.kindOf x=some .free)/\∃c,env.cells.lookup x=some c/\h.IsCell c (some u))
structure Cx.Ok (X:Cx):Prop where
 mod:Mod X.K X.mg X.base
 kind:X.env.scope.kind=.function
 glob:X.env.globals=mainGlobals
 blt:X.env.builtins=builtinsNs
 above:X.s₀.heap.objs.size<=X.env.locals
 inj:∀x y c,X.env.cells.lookup x=some c->X.env.cells.lookup y=some c->x=y
 has:∀x,(X.env.kindOf x=some .cell\/X.env.kindOf x=some .free)->∃c,X.env.cells.lookup x=some c
 cab:∀x c,X.fn x=true->X.env.cells.lookup x=some c->X.s₀.heap.objs.size<=c
 hd:X.calm=true->X.A.handled=none
 frames:X.A.frames=some X.stack
 stk:X.stack=X.outer\/(X.stack=X.env::X.outer/\X.env.frame=some X.env.locals)
 exf:∀b∈X.ex,b≠X.env.locals/\∀x c,X.env.cells.lookup x=some c->c≠b
 bs:∀b o,X.base.get? b=some o->X.s₀.heap.get? b=some o/\X.H₀ b=none
 bsz:X.base.objs.size<=X.s₀.heap.objs.size
 O1:∀b o,X.base.get? b=some o->b∉X.ex
 LC:∀b∈X.ex,b∉X.fs
 Hg:X.s₀.heap.FunFrames X.base X.outer
 frf:∀b∈X.fs,X.H₀ b=none
structure Inv (X:Cx) (jb:YC) (U : List (Option V)) (H:Hp) (s:Shared):Prop where
 ok:X.Ok
 os:s.os=X.s₀.os
 bare:AllBare s.gens
 base:Un X.fs X.ex X.H₀ H X.s₀.heap s.heap
 loc:∃m,s.heap.Ns X.env.locals m/\∀(i:Nat) (x:Str) (v:V),X.N[i]?=some x->U[i]?=some (some v)->Vis X.env.scope x->∃u,RelV v u/\Look X.env s.heap m x u
 cell:∀x c,X.env.cells.lookup x=some c->∃v,s.heap.IsCell c v
 free:H X.env.locals=none
 FP:∀x c,X.env.cells.lookup x=some c->H c=none
 pin:∀p∈X.pn++jb,s.heap.get? p.1=some p.2/\H p.1=none/\p.1≠X.env.locals/\p.1∉X.fs/\∀v,p.2.data≠.cell v
 hok:HOk X.prog X.w H s.heap
 len:U.length=X.N.length
section
variable {X:Cx} {jb:YC} {U : List (Option V)} {H H':Hp} {s:Shared} {h':Heap}
theorem Cx.Ok.IN (ok:X.Ok) {b:Addr} {o:Obj} (e:X.base.get? b=some o):b∉X.fs:=λhb=>by
 have:=(ok.Hg.mem hb).1;rw[e] at this;cases this
theorem Inv.bs (I:H^^^s):∀b o,X.base.get? b=some o->s.heap.get? b=some o/\H b=none:=λb o e=>
 ⟨I.base.keep b o (I.ok.bs b o e).1 (I.ok.bs b o e).2 (I.ok.IN e) (I.ok.O1 b o e),I.base.free b o (I.ok.bs b o e).1 (I.ok.bs b o e).2 (I.ok.O1 b o e)⟩
theorem Inv.bk (I:H^^^s):∀b o,X.base.get? b=some o->s.heap.get? b=some o:=λb o e=>(I.bs b o e).1
theorem Inv.mod (I:H^^^s):Mod X.K X.mg X.base:=I.ok.mod
theorem Inv.kIn (I:H^^^s):X.K.In s.heap:=I.ok.mod.kin.keeps I.bk
theorem Inv.nolimit (I:H^^^s):s.heap.NoLimit:=I.ok.mod.nolimit.keeps I.bk
theorem Inv.lt (I:H^^^s):X.env.locals < ∅:=let ⟨_,hn,_⟩:=I.loc;hn.lt
theorem Inv.sz (I:H^^^s):X.s₀.heap.objs.size<=∅:=Qco I.ok.above (Qcs I.lt)
theorem Inv.wz (I:H^^^s) {a:Addr} (h:∅<=a):a∉X.fs:=λhb=>by
 obtain⟨_,o,ho,_⟩:=I.ok.Hg.mem hb;exact absurd (Qbb (Qcm ho) (Qco I.sz h)) (Qcg _)
theorem Inv.cne (I:H^^^s):∀x c,X.env.cells.lookup x=some c->c≠X.env.locals:=λx c e z=>by
 obtain⟨v,o,ho,hd⟩:=I.cell x c e;obtain⟨m,⟨o',es,ep,ho',hd',_⟩,_⟩:=I.loc;rw[z,ho'] at ho;cases ho;rw[hd'] at hd;cases hd
theorem Inv.Hg (I:H^^^s):s.heap.FunFrames X.base X.outer:=by
 have all:∀(l:List Env),(∀b∈frs l,b∈X.fs)->X.s₀.heap.FunFrames X.base l->s.heap.FunFrames X.base l:=by
  intro l
  induction l with
  | nil=>intro _ _;trivial
  | cons env r ih=>
   intro hs hl;obtain⟨hk,⟨L,o,hf,hn,ho,hd⟩,hr⟩:=hl;have hL:L∈X.fs:=hs L (by unfold frs;rw[List.filterMap_cons,hf];exact QaW);obtain⟨sl,e⟩:=I.base.slot L o ho (I.ok.frf L hL) hL λz=>I.ok.LC L z hL;exact⟨hk,⟨L,_,hf,hn,e,hd⟩,ih (λb hb=>hs b (by unfold frs;rw[List.filterMap_cons,hf];exact QaJ _ hb)) hr⟩
 exact all X.outer (λ_ hb=>hb) I.ok.Hg
theorem Inv.stack (I:H^^^s):s.heap.FunFrames X.base X.stack:=by
 rcases I.ok.stk with e |⟨e,hf⟩
 ·rw[e];exact I.Hg
 ·rw[e];obtain⟨m,hn,_⟩:=I.loc;refine .cons (by rw[I.ok.kind];decide) hf hn ?_ I.Hg;exact Heap.get?_none_of_le (Qco I.ok.bsz I.ok.above)
theorem Inv.Wa (I:H^^^s):∀b∈frs X.stack,b∈X.env.locals::X.fs:=λb hb=>by
 rcases I.ok.stk with e |⟨e,hf⟩
 ·rw[e] at hb;exact QaJ _ hb
 ·rw[e] at hb;unfold frs at hb;rw[List.filterMap_cons,hf] at hb;exact hb
theorem Inv.Xx (I:H^^^s):∀b∈frs X.stack,H b=none:=λb hb=>by
 rcases Qcd.mp (I.Wa b hb) with e | hb
 ·rw[e];exact I.free
 ·obtain⟨_,o,ho,_⟩:=I.ok.Hg.mem hb;exact I.base.free b o ho (I.ok.frf b hb) λz=>I.ok.LC b z hb
theorem Inv.step {g':Array GenState} {t':Nat} {d':Drawn} {ch:List Addr} (I:H^^^s)
  (hch:∀b∈ch,(b∈X.ex\/X.s₀.heap.objs.size<=b)/\b≠X.env.locals/\(∀x c,X.env.cells.lookup x=some c->c≠b)/\∀p∈X.pn++jb,p.1≠b)
  (keep:∀b o,b≠X.env.locals->b∉X.fs->b∉ch->s.heap.get? b=some o->H b=none->h'.get? b=some o)
  (slot:∀b o,b≠X.env.locals->b∈X.fs->b∉ch->s.heap.get? b=some o->H b=none->∃sl,h'.get? b=some { o with slots:=sl }) (free:∀b o,b∉ch->s.heap.get? b=some o->H b=none->H' b=none)
  (there:∀b o,b∉ch->s.heap.get? b=some o->∃o',h'.get? b=some o')
  (tups:∀b xs,H b=some (.tup xs)->H' b=some (.tup xs)) (Io:∀b o u,H b=some (.frz o u)->H' b=some (.frz o u)) (Ju:∀b ps,H b=some (.tbl ps)->∃more,H' b=some (.tbl (ps++more)))
  (ns:∀m,s.heap.Ns X.env.locals m->h'.Ns X.env.locals m) (hok:HOk X.prog X.w H' h') (hg:AllBare g') :
  Inv X jb U H' { s with heap:=h',gens:=g',drawn:=d',toks:=t' }:=by
 have neL:∀b o,X.s₀.heap.get? b=some o->b≠X.env.locals:=λb o e=>Qcn (Qbb (Qcm e) I.ok.above);have neC:∀b o,X.s₀.heap.get? b=some o->b∉X.ex->b∉ch:=λb o e hx hb=>by
  rcases (hch b hb).1 with z | z
  ·exact hx z
  ·exact absurd (Qbb (Qcm e) z) (Qcg _)
 have cellK:∀x c,X.env.cells.lookup x=some c->∀v,s.heap.IsCell c v->h'.IsCell c v:=λx c e v ⟨o,ho,hd⟩=>by
  have nch:c∉ch:=λz=>(hch c z).2.2.1 x c e rfl;by_cases hc:c∈X.fs
  ·obtain⟨sl,q⟩:=slot c o (I.cne x c e) hc nch ho (I.FP x c e);exact⟨_,q,hd⟩
  ·exact⟨o,keep c o (I.cne x c e) hc nch ho (I.FP x c e),hd⟩
 refine⟨I.ok,I.os,hg,⟨λb o e n hb hx=>?_,λb o e n hb hx=>?_,λb o e n hx=>?_,λb o e hx=>?_,λb xs e=>tups b xs (I.base.tups b xs e),λb o xs e=>Io b o xs (I.base.Io b o xs e),λb ps e=>?_⟩,?_,λx c e=>?_,?_,λx c e=>?_,λp hp=>?_,hok,I.len⟩
 ·exact keep b o (neL b o e) hb (neC b o e hx) (I.base.keep b o e n hb hx) (I.base.free b o e n hx)
 ·obtain⟨sl,e1⟩:=I.base.slot b o e n hb hx;obtain⟨sl',e2⟩:=slot b _ (neL b o e) hb (neC b o e hx) e1 (I.base.free b o e n hx);exact⟨sl',e2⟩
 ·obtain⟨o',e1⟩:=I.base.there b o e hx;exact free b o' (neC b o e hx) e1 (I.base.free b o e n hx)
 ·obtain⟨o',e1⟩:=I.base.there b o e hx;exact there b o' (neC b o e hx) e1
 ·obtain⟨m1,e1⟩:=I.base.Ju b ps e;obtain⟨m2,e2⟩:=Ju b _ e1;exact⟨m1++m2,by rw[e2,Array.append_assoc]⟩
 ·obtain⟨m,hn,hl⟩:=I.loc;refine⟨m,ns m hn,λi x v e1 e2 e3=>?_⟩;obtain⟨u,r,l⟩:=hl i x v e1 e2 e3;refine⟨u,r,?_⟩;rcases l with l |⟨k,c,e,z⟩
  ·exact .inl l
  ·exact .inr ⟨k,c,e,cellK x c e _ z⟩
 ·obtain⟨v,z⟩:=I.cell x c e;exact⟨v,cellK x c e v z⟩
 ·obtain⟨m,⟨o,_,_,ho,_⟩,_⟩:=I.loc;exact free _ o (λz=>(hch _ z).2.1 rfl) ho I.free
 ·obtain⟨v,o,ho,hd⟩:=I.cell x c e;exact free c o (λz=>(hch c z).2.2.1 x c e rfl) ho (I.FP x c e)
 ·obtain⟨e,n,ne,nf,d⟩:=I.pin p hp;have nch:p.1∉ch:=λz=>(hch p.1 z).2.2.2 p hp rfl;exact⟨keep p.1 p.2 ne nf nch e n,free p.1 p.2 nch e n,ne,nf,d⟩
theorem Inv.un {t':Nat} (I:H^^^s) (u:Un X.fs [] H H' s.heap h') (hok:HOk X.prog X.w H' h'):Inv X jb U H' { s with heap:=h',toks:=t' }:=by
 obtain⟨m,⟨o,es,ep,ho,r⟩,_⟩:=id I.loc;obtain⟨sl,hL⟩:=u.any ho I.free (by simp);exact I.step (g':=s.gens) (d':=s.drawn) (ch:=[]) (λ_ z=>nomatch z) (λb o _ hb _ e n=>u.keep b o e n hb (by simp)) (λb o _ hb _ e n=>u.slot b o e n hb (by simp)) (λb o _ e n=>u.free b o e n (by simp)) (λb o _ e=>u.there b o e (by simp)) u.tups u.Io u.Ju (λm' hm=>by
  obtain⟨o',es',ep',ho',r'⟩:=hm;rw[ho] at ho';cases ho';exact⟨_,es',ep',hL,r'⟩) hok I.bare
theorem Inv.call {g':Array GenState} {t':Nat} {d':Drawn} {ch:List Addr} (I:H^^^s) (u:Un (frs X.stack) ch H H' s.heap h') (hok:HOk X.prog X.w H' h') (hg:AllBare g')
  (hch:∀b∈ch,(b∈X.ex\/X.s₀.heap.objs.size<=b)/\b≠X.env.locals/\(∀x c,X.env.cells.lookup x=some c->c≠b)/\∀p∈X.pn++jb,p.1≠b) :
  Inv X jb U H' { s with heap:=h',gens:=g',drawn:=d',toks:=t' }:=by
 obtain⟨m,⟨o,es,ep,ho,r⟩,_⟩:=id I.loc;obtain⟨sl,hL⟩:=u.any ho I.free λz=>(hch _ z).2.1 rfl;exact I.step (ch:=ch) hch (λb o hL hb hc e n=>u.keep b o e n (λz=>(Qcd.mp (I.Wa b z)).elim hL hb) hc) (λb o _ _ hc e n=>u.any e n hc) (λb o hc e n=>u.free b o e n hc) (λb o hc e=>u.there b o e hc) u.tups u.Io u.Ju (λm' hm=>by
  obtain⟨o',es',ep',ho',r'⟩:=hm;rw[ho] at ho';cases ho';exact⟨_,es',ep',hL,r'⟩) hok hg
theorem Inv.turned {t':Nat} {it:Addr} (I:H^^^s) (k:∀b o,b≠it->s.heap.get? b=some o->h'.get? b=some o) (hn:H it=none) (hL:it≠X.env.locals)
  (h1:it∈X.ex\/X.s₀.heap.objs.size<=it) (h2:∀x c,X.env.cells.lookup x=some c->c≠it) (h3:∀p∈X.pn++jb,p.1≠it):Inv X jb U H { s with heap:=h',toks:=t' }:=by
 have nit:∀b u,H b=some u->b≠it:=λb u e z=>by rw[z,hn] at e;cases e
 refine I.step (g':=s.gens) (d':=s.drawn) (ch:=[it]) (λb hb=>?_) (λb o _ _ hc e _=>k b o (λz=>hc (by simp[z])) e) (λb o _ _ hc e _=>⟨o.slots,k b o (λz=>hc (by simp[z])) e⟩) (λ_ _ _ _ n=>n)
  (λb o hc e=>⟨o,k b o (λz=>hc (by simp[z])) e⟩) (λ_ _ e=>e) (λ_ _ _ e=>e) (λb ps e=>⟨#[],by rw[e];simp⟩) (λm hm=>?_) (λb u e=>?_) I.bare
 ·have e:b=it:=by simpa using hb
  subst e;exact⟨h1,hL,h2,h3⟩
 ·obtain⟨o,es,ep,ho,r⟩:=hm;exact⟨o,es,ep,k _ o (Ne.symm hL) ho,r⟩
 ·refine (I.hok b u e).stay (λc v hc q=>k c v ?_ q) (λ_ q=>q) λ_ _ q=>q;rcases hc with z | z
  ·rw[z];exact nit b u e
  ·exact nit c _ z
theorem Inv.tok (I:H^^^s) (t:Nat):Inv X jb U H { s with toks:=t }:=I.un (h':=s.heap) (t':=t) Un.refl I.hok
theorem Inv.kept {t':Nat} (I:H^^^s) (k:∀b u,s.heap.get? b=some u->h'.get? b=some u):Inv X jb U H { s with heap:=h',toks:=t' }:=I.un (Un.kept k) (I.hok.kept k)
theorem Inv.laid {a:Addr} {o:HO} {t':Nat} (I:H^^^s) (k:∀b u,s.heap.get? b=some u->h'.get? b=some u) (hp:∅<=a) (new:Bx X.prog X.w (upd H a o) h' a o) :
  Inv X jb U (upd H a o) { s with heap:=h',toks:=t' }:=I.un (Un.laid k hp (I.hok.fresh hp)) (I.hok.laid k hp new)
theorem Inv.write {x e:Addr} {o:HO} {t':Nat} (I:H^^^s) (mu:Mut (H x)) (he:e=x\/H e=some (.own x)) (k:∀b u,b≠e->s.heap.get? b=some u->h'.get? b=some u) (heo:∃u,h'.get? e=some u)
  (new:Bx X.prog X.w (upd H x o) h' x o):Inv X jb U (upd H x o) { s with heap:=h',toks:=t' }:=I.un (Un.write mu he k heo) (I.hok.write mu he k heo new)
theorem Inv.Ua {Iw:YC} (I:H^^^s) (h:∀p∈Iw,s.heap.get? p.1=some p.2/\H p.1=none/\p.1≠X.env.locals/\p.1∉X.fs/\∀v,p.2.data≠.cell v):Inv X Iw U H s:=
 ⟨I.ok,I.os,I.bare,I.base,I.loc,I.cell,I.free,I.FP,λp hp=>(QbI.mp hp).elim (λz=>I.pin p (QaK _ z)) (h p),I.hok,I.len⟩
theorem Vw {N:YF} (hN:N.Nodup) {i j:Nat} {x:Str} (a:N[i]?=some x) (b:N[j]?=some x):i=j:=by
 obtain⟨h1,e1⟩:=Qai.mp a;obtain⟨h2,e2⟩:=Qai.mp b;exact (List.getElem_inj hN).mp (e1.trans e2.symm)
theorem o8 {M:Model} {A:Around} {E:YA} {i:Nat} {x:Str} {v:V} {u:Value} {Q:YH} (I:H^^^s) (hN:X.N.Nodup) (hi:X.N[i]?=some x) (hx:Loc X.env.scope x) (r:RelV v u)
  (h:∀s',Inv X jb (U.set i (some v)) H s'->(∃a,Heap.SameBut a s.heap s'.heap/\(a=X.env.locals\/X.env.cells.lookup x=some a))->Q () s') (hf:X.fn x=true\/X.env.scope.names.lookup x=some .local:=by first | exact .inl rfl | exact .inr rfl | assumption):wpAny M A (storeName X.env x u) Q E s:=by
 obtain⟨m,hn,hl⟩:=id I.loc;have hcls:(X.env.scope.kind == .class || (X.env.scope.kind == .module&&X.env.locals != X.env.globals))=false:=by rw[I.ok.kind];rfl
 have hiσ : i < U.length:=by rw[I.len];exact (Qai.mp hi).1
 have cne:=I.cne;have tracked:∀{a:Addr} {h':Heap},(∃o,s.heap.get? a=some o/\H a=none)->Heap.SameBut a s.heap h'->HOk X.prog X.w H h':=λ{a h'} ha hs b ob e=>by
  obtain⟨_,_,hfree⟩:=ha;refine (I.hok b ob e).stay (λc w' hc q=>(hs.2 c ?_).trans q) (λ_ q=>q) λ_ _ q=>q;rintro rfl;rcases hc with rfl | hc
  ·rw[hfree] at e;cases e
  ·rw[hfree] at hc;cases hc
 rcases hx with hk | hk
 ·refine wpAny_storeName_local hk hn (λh' hn' hs=>?_) hcls;obtain⟨oL,_,_,hoL,_⟩:=id hn;refine h _ ⟨I.ok,I.os,I.bare,⟨λb o e n hb hx=>?_,λb o e n hb hx=>?_,I.base.free,λb o e hx=>?_,I.base.tups,I.base.Io,I.base.Ju⟩,⟨_,hn',λj y v' e1 e2 e3=>?_⟩,λy c e=>?_,I.free,I.FP,λp hp=>?_,tracked ⟨oL,hoL,I.free⟩ hs,by simpa using I.len⟩ ⟨_,hs,.inl rfl⟩
  ·exact (hs.2 b (Qcn (Qbb (Qcm e) I.ok.above))).trans (I.base.keep b o e n hb hx)
  ·obtain⟨sl,e1⟩:=I.base.slot b o e n hb hx;exact⟨sl,(hs.2 b (Qcn (Qbb (Qcm e) I.ok.above))).trans e1⟩
  ·obtain⟨o',e1⟩:=I.base.there b o e hx;exact⟨o',(hs.2 b (Qcn (Qbb (Qcm e) I.ok.above))).trans e1⟩
  ·by_cases hj:j=i
   ·subst hj;rw[hi] at e1;cases e1;rw[List.getElem?_set_self hiσ] at e2;cases e2;exact⟨u,r,.inl ⟨hk,by simp⟩⟩
   ·rw[List.getElem?_set_ne (Ne.symm hj)] at e2;obtain⟨u',r',q⟩:=hl j y v' e1 e2 e3;refine⟨u',r',?_⟩;rcases q with⟨k,e⟩|⟨k,c,e,z⟩
    ·refine .inl ⟨k,?_⟩;have:y≠x:=λe=>hj (Vw hN e1 (e ▸ hi));simp[this,e]
    ·exact .inr ⟨k,c,e,z.sameBut hs (cne y c e)⟩
  ·obtain⟨w',z⟩:=I.cell y c e;exact⟨w',z.sameBut hs (cne y c e)⟩
  ·obtain⟨e,n,ne,nf,d⟩:=I.pin p hp;exact⟨(hs.2 p.1 ne).trans e,n,ne,nf,d⟩
 ·have hfn:X.fn x=true:=by
   rcases hf with z | z
   ·exact z
   ·rw[z] at hk;cases hk
  obtain⟨c,hc⟩:=I.ok.has x (.inl hk);obtain⟨w',z⟩:=I.cell x c hc;refine wpAny_storeName_cell I.ok.kind hk hc z (λh' hc' hs=>?_);obtain⟨oc,hoc,Nn⟩:=id z;refine h { s with heap:=h' } ⟨I.ok,I.os,I.bare,⟨λb o e n hb hx=>?_,λb o e n hb hx=>?_,I.base.free,λb o e hx=>?_,I.base.tups,I.base.Io,I.base.Ju⟩,⟨m,hn.sameBut hs (Ne.symm (cne x c hc)),λj y v' e1 e2 e3=>?_⟩,λy c' e=>?_,I.free,I.FP,λp hp=>?_,tracked ⟨oc,hoc,I.FP x c hc⟩ hs,by simpa using I.len⟩ ⟨c,hs,.inr hc⟩
  ·exact (hs.2 b (Qcn (Qbb (Qcm e) (I.ok.cab x c hfn hc)))).trans (I.base.keep b o e n hb hx)
  ·obtain⟨sl,e1⟩:=I.base.slot b o e n hb hx;exact⟨sl,(hs.2 b (Qcn (Qbb (Qcm e) (I.ok.cab x c hfn hc)))).trans e1⟩
  ·obtain⟨o',e1⟩:=I.base.there b o e hx;exact⟨o',(hs.2 b (Qcn (Qbb (Qcm e) (I.ok.cab x c hfn hc)))).trans e1⟩
  ·by_cases hj:j=i
   ·subst hj;rw[hi] at e1;cases e1;rw[List.getElem?_set_self hiσ] at e2;cases e2;exact⟨u,r,.inr ⟨.inl hk,c,hc,hc'⟩⟩
   ·rw[List.getElem?_set_ne (Ne.symm hj)] at e2;obtain⟨u',r',q⟩:=hl j y v' e1 e2 e3;refine⟨u',r',?_⟩;rcases q with q |⟨k,c',e,z'⟩
    ·exact .inl q
    ·refine .inr ⟨k,c',e,z'.sameBut hs ?_⟩;rintro rfl;exact hj (Vw hN e1 (I.ok.inj _ _ _ e hc ▸ hi))
  ·by_cases hcc:c'=c
   ·subst hcc;exact⟨_,hc'⟩
   ·obtain⟨w2,z2⟩:=I.cell y c' e;exact⟨w2,z2.sameBut hs hcc⟩
  ·obtain⟨e,n,ne,nf,d⟩:=I.pin p hp;refine⟨(hs.2 p.1 ?_).trans e,n,ne,nf,d⟩;intro q;rw[q,hoc] at e;have q':oc=p.2:=QbN e;exact d w' (by rw[<-q'];exact Nn)
theorem Lb {M:Model} {A:Around} {E:YA} {i:Nat} {x:Str} {v:V} {u:Value} {Q:YH} (I:H^^^s) (hN:X.N.Nodup) (hi:X.N[i]?=some x) (hx:Loc X.env.scope x) (r:RelV v u)
  (h:∀s',Inv X jb (U.set i (some v)) H s'->Q () s') (hf:X.fn x=true\/X.env.scope.names.lookup x=some .local:=by first | exact .inl rfl | exact .inr rfl | assumption):wpAny M A (storeName X.env x u) Q E s:=
 o8 I hN hi hx r (λs' I' _=>h s' I') hf
theorem Inv.call' {s':Shared} {ch:List Addr} (I:H^^^s) (ho:s'.os=s.os) (u:Un (frs X.stack) ch H H' s.heap s'.heap) (hok:HOk X.prog X.w H' s'.heap) (hg:AllBare s'.gens)
  (hch:∀b∈ch,(b∈X.ex\/X.s₀.heap.objs.size<=b)/\b≠X.env.locals/\(∀x c,X.env.cells.lookup x=some c->c≠b)/\∀p∈X.pn++jb,p.1≠b):Inv X jb U H' s':=by
 obtain⟨h',g',d',t',o'⟩:=s';have e:o'=s.os:=ho;subst e;exact I.call (g':=g') (t':=t') (d':=d') u hok hg hch
end
abbrev XK:=Value->Option Addr->Hp->Prop
abbrev St:=List (Option V)
abbrev VK:=V->Hp->Prop
abbrev TE:=St->Hp->VK->Prop
abbrev TT:=St->Hp->(Bool->Hp->Prop)->Prop
abbrev TA:=St->Hp->(YG->Hp->Prop)->Prop
structure Ends where
 nx:St->Hp->Prop
 rt:VK
 bk:St->Hp->Prop:=λ_ _=>False
 ct:St->Hp->Prop:=λ_ _=>False
abbrev YO:=St->Hp->Prop
abbrev TS:=Ends->YO
def EP (X:Cx) (jb:YC) (U : St) (Q:VK) (u:Value) (s':Shared):Prop:=∃v H',Inv X jb U H' s'/\RelV v u/\Q v H'
def TP (X:Cx) (jb:YC) (U : St) (Q:Bool->Hp->Prop) (b:Bool) (s':Shared):Prop:=∃H',Inv X jb U H' s'/\Q b H'
def AP (X:Cx) (jb:YC) (U : St) (Q:YG->Hp->Prop) (us:YE) (s':Shared):Prop:=∃vs H',Inv X jb U H' s'/\Vals vs us/\Q vs H'
def SP (X:Cx) (jb:YC) (D:Ends) (f:Flow) (s':Shared):Prop:=
 match f with
 | .next=>∃ σ' H',Inv X jb σ' H' s'/\D.nx σ' H'
 | .brk=>∃ σ' H',Inv X jb σ' H' s'/\D.bk σ' H'
 | .cont=>∃ σ' H',Inv X jb σ' H' s'/\D.ct σ' H'
 | .ret u=>∃v σ' H',Inv X jb σ' H' s'/\RelV v u/\D.rt v H'
def PE (X:Cx) (e:Expr) (t:TE):Prop:=
 ∀(jb:YC) (s:Shared) (U : St) (H:Hp) (Q:VK),H^^^s->t U H Q->‹X› (eval e X.env) (EP X jb U Q) X.xe s
def PT (X:Cx) (e:Expr) (t:TT):Prop:=
 ∀(jb:YC) (s:Shared) (U : St) (H:Hp) (Q:Bool->Hp->Prop),H^^^s->t U H Q->‹X› (isTrue e X.env (eval e X.env)) (TP X jb U Q) X.xe s
def PW (X:Cx) (e:Expr) (t:TT):Prop:=
 ∀(whole:Sem Value) (jb:YC) (s:Shared) (U : St) (H:Hp) (Q:Bool->Hp->Prop),H^^^s->t U H Q->‹X› (isTrue e X.env whole) (TP X jb U Q) X.xe s
theorem PW.pt {X:Cx} {e:Expr} {t:TT} (h:PW X e t):PT X e t:=h _
def PA (X:Cx) (es:YJ) (t:TA):Prop:=
 ∀(pos:Pos) (jb:YC) (s:Shared) (U : St) (H:Hp) (Q:YG->Hp->Prop),H^^^s->t U H Q->‹X› (spliced (backTo pos (starEach es X.env))) (AP X jb U Q) X.xe s
def PS (X:Cx) (st:Stmt) (t:TS):Prop:=
 ∀(jb:YC) (s:Shared) (U : St) (H:Hp) (D:Ends),H^^^s->t D U H->‹X› (exec st X.env) (SP X jb D) X.xe s
def PSs (X:Cx) (st:List Stmt) (t:TS):Prop:=
 ∀(jb:YC) (s:Shared) (U : St) (H:Hp) (D:Ends),H^^^s->t D U H->‹X› (execs st X.env) (SP X jb D) X.xe s
theorem thn {α : Type} {t:Sem α} {Q Q':α->Shared->Prop} {M:Model} {A:Around} {E:YA} {s:Shared} (h:wpAny M A t Q E s) (hQ:∀a s,Q a s->Q' a s):wpAny M A t Q' E s:=QcE h hQ λ_ _ x=>x
section
variable {X:Cx}
theorem bin {a b:Expr} {ta tb:TE} (ha:PE X a ta) (hb:PE X b tb) {jb:YC} {s:Shared} {U : St} {H:Hp} {R:V->V->Hp->Prop} (I:H^^^s) (h:ta U H λx H1=>tb U H1 λy H2=>R x y H2)
  {α : Type} {Q:α->Shared->Prop} {f:Value->Value->Sem α}
  (hf:∀v u s2 x y H2,H2^^^s2->RelV x v->RelV y u->R x y H2->‹X› (f v u) Q X.xe s2) :
  ‹X› (eval a X.env) (λv s₁=>‹X› (eval b X.env) (λu s₂=>‹X› (f v u) Q X.xe s₂) X.xe s₁) X.xe s:=by
 refine thn (ha jb s U H _ I h) λv s1 zz=>?_;obtain⟨x,H1,I1,r1,q1⟩:=zz;refine thn (hb jb s1 U H1 _ I1 q1) λu s2 zz=>?_;obtain⟨y,H2,I2,r2,q2⟩:=zz;exact hf v u s2 x y H2 I2 r1 r2 q2
inductive uI (i:Nat) (U : St) (H:Hp) (Q:VK):Prop
 | mk (v:V) (_:U[i]?=some (some v)) (_:Q v H):uI i U H Q
def tC (v:V):TE:=λ_ H Q=>Q v H
theorem CF {i:Nat} {x:Str} {pos:Pos} (hN:X.N[i]?=some x) (hv:Vis X.env.scope x) (hd:(x == ("__debug__":Str))=false:=by decide) (hcd:(x == ("__classdict__":Str))=false:=by decide):PE X (.Name x pos) (uI i):=by
 intros Q I h;obtain⟨v,e,h⟩:=h;obtain⟨m,hn,hl⟩:=I.loc;obtain⟨u,r,l⟩:=hl i x v hN e hv;have fin:EP X jb U Q u s:=⟨v,H,I,r,h⟩;rcases l with⟨hk,hm⟩|⟨hk,c,hc,hcell⟩
 ·exact wpAny_Name (wpAny_loadName_local I.ok.kind hk hn hm fin) hd
 ·rcases hk with hk | hk
  ·exact wpAny_Name (wpAny_loadName_cell I.ok.kind hk hc hcell fin) hd
  ·exact wpAny_Name (wpAny_loadName_free I.ok.kind hk hc hcell fin hcd) hd
theorem Af {i j pos}:PE X (.Constant (.int i) j pos) (tC (.int i)):=λ_ _ _ H _ I h=>wpAny_Constant_int ⟨.int i,H,I.tok _,⟨_,rfl⟩,h⟩
theorem DY {b j pos}:PE X (.Constant (.bool b) j pos) (tC (.bl b)):=λ_ _ _ H _ I h=>Constant_bool ⟨.bl b,H,I,rfl,h⟩
theorem Jf {j pos}:PE X (.Constant .none j pos) (tC .non):=λ_ _ _ H _ I h=>Constant_none ⟨.non,H,I,rfl,h⟩
theorem Bd {x j pos}:PE X (.Constant (.str x) j pos) (tC (.str x)):=λ_ _ _ H _ I h=>Calls.Constant_str ⟨.str x,H,I.tok _,⟨_,rfl⟩,h⟩
def Gl (X:Cx) (x:Str):Prop:=X.env.kindOf x=some .globalImplicit
theorem Lp {E:YA} {jb:YC} {s:Shared} {U : St} {H:Hp} {x:Str} {u:Value} {pos:Pos} {Q:YA} (I:H^^^s) (hg:Gl X x) (hm:X.mg x=some u) (h:Q u s)
  (hd:(x == ("__debug__":Str))=false:=by decide):‹X› (eval (.Name x pos) X.env) Q E s:=
 Calls.Name_function_global I.ok.kind hg (Calls.loadGlobal_global (by rw[I.ok.glob];exact I.mod.glob.keeps I.bk) hm h) hd
theorem M8 {E:YA} {jb:YC} {s:Shared} {U : St} {H:Hp} {x:Str} {u:Value} {pos:Pos} {Q:YA} (I:H^^^s) (hg:Gl X x) (hm:X.mg x=none) (hv:bootBuiltins x=some u) (h:Q u s)
  (hn:x≠"__name__":=by decide) (hd:(x == ("__debug__":Str))=false:=by decide):‹X› (eval (.Name x pos) X.env) Q E s:=by
 obtain⟨mb,h1,h2⟩:=I.mod.blt;exact Calls.Name_function_global I.ok.kind hg (Calls.loadGlobal_builtin (by rw[I.ok.glob];exact I.mod.glob.keeps I.bk) hm (by rw[I.ok.blt];exact h1.keeps I.bk) ((h2 x hn).trans hv) h) hd
theorem Fo {x:Str} {v:V} {u:Value} {pos:Pos} (hg:Gl X x) (hm:X.mg x=some u) (r:RelV v u) (hd:(x == ("__debug__":Str))=false:=by decide):PE X (.Name x pos) (tC v):=
 λ_ _ _ H _ I h=>Lp I hg hm ⟨v,H,I,r,h⟩ hd
theorem QB {x:Str} {v:V} {u:Value} {pos:Pos} (hg:Gl X x) (hm:X.mg x=none) (hv:bootBuiltins x=some u) (r:RelV v u) (hn:x≠"__name__":=by decide) (hd:(x == ("__debug__":Str))=false:=by decide):PE X (.Name x pos) (tC v):=
 λ_ _ _ H _ I h=>M8 I hg hm hv ⟨v,H,I,r,h⟩ hn hd
variable {a b:Expr} {ta tb:TE} {pos:Pos}
def PC (X:Cx) (op:CmpOp) (a b:Expr) (t:TE):Prop:=
 ∀(jb:YC) (s:Shared) (U : St) (H:Hp) (Q:VK),H^^^s->t U H Q ->
  ‹X› (eval a X.env) (λv s₁=>‹X› (eval b X.env) (λu s₂=>‹X› (compareOp op v u) (EP X jb U Q) X.xe s₂) X.xe s₁) X.xe s
theorem wA (b:Expr) {op:CmpOp} (h:op≠.In) (h2:op≠.NotIn):behindInMarks op b=false:=by
 have e1:(op == CmpOp.In)=false:=by cases op <;> first | rfl | exact absurd rfl h
 have e2:(op == CmpOp.NotIn)=false:=by cases op <;> first | rfl | exact absurd rfl h2
 cases b <;> simp[behindInMarks,e1,e2]
def tB (t:TE):TT:=fun U H Q=>t U H λx H1=>∃c,x=.bl c/\Q c H1
theorem Om {op:CmpOp} {t:TE} (h:PC X op a b t) (h1:behindInMarks op b=false:=by first | exact wA _ (by decide) (by decide) | rfl):PT X (.Compare a [op] [b] pos) (tB t):=by
 intros Q I hw;refine wpAny_isTrue_Compare1 (thn (h jb s U H _ I hw) λv s1 h1=>thn h1 λu s2 h2=>thn h2 λc s3 zz=>?_) h1;obtain⟨x,H1,I1,r1,q1⟩:=zz;obtain⟨d,rfl,q⟩:=q1;cases r1;exact Qbq ⟨H1,I1,q⟩
theorem Cz {e:Expr} {t:TE} (h:PE X e t) (he:∀whole,isTrue e X.env whole=(do let v <-whole;standAt e.pos;holding [v] (truthy v)):=by intro _;rfl):PT X e (tB t):=by
 intros Q I hw;refine isTrue_plain (thn (h jb s U H _ I hw) λv s1 zz=>?_) (he _);obtain⟨x,H1,I1,r1,q1⟩:=zz;obtain⟨d,rfl,q⟩:=q1;cases r1;exact Qbq ⟨H1,I1,q⟩
variable {tA tB':TT} {rest:YJ}
def Iy (t u:TT):TT:=fun U H Q=>t U H λc H1=>if c=true then u U H1 Q else Q false H1
def tOr (t u:TT):TT:=fun U H Q=>t U H λc H1=>if c=true then Q true H1 else u U H1 Q
def HR (t:TT):TT:=fun U H Q=>t U H λc H1=>Q (!c) H1
theorem jw (ha:PT X a tA):PW X (.BoolOp .And [a] pos) tA:=by
 intro wh jb s U H Q I h;refine isTrue_and (thn (ha jb s U H Q I h) λc s1 e=>?_);cases c with
 | true=>exact isTrue_and_nil e
 | false=>exact e
theorem Jz (ha:PT X a tA):PW X (.BoolOp .Or [a] pos) tA:=by
 intro wh jb s U H Q I h;refine isTrue_or (thn (ha jb s U H Q I h) λc s1 e=>?_);cases c with
 | false=>exact isTrue_or_nil e
 | true=>exact e
theorem pO (ha:PT X a tA) (hb:PW X (.BoolOp .And (b::rest) pos) tB'):PW X (.BoolOp .And (a::b::rest) pos) (Iy tA tB'):=by
 intro wh jb s U H Q I h;refine isTrue_and (thn (ha jb s U H _ I h) λc s1 zz=>?_);obtain⟨H1,I1,q1⟩:=zz;cases c with
 | true=>exact hb wh jb s1 U H1 Q I1 q1
 | false=>exact⟨H1,I1,q1⟩
theorem Jr (ha:PT X a tA) (hb:PW X (.BoolOp .Or (b::rest) pos) tB'):PW X (.BoolOp .Or (a::b::rest) pos) (tOr tA tB'):=by
 intro wh jb s U H Q I h;refine isTrue_or (thn (ha jb s U H _ I h) λc s1 zz=>?_);obtain⟨H1,I1,q1⟩:=zz;cases c with
 | true=>exact⟨H1,I1,q1⟩
 | false=>exact hb wh jb s1 U H1 Q I1 q1
theorem Dp (ha:PT X a tA):PT X (.UnaryOp .Not a pos) (HR tA):=by
 intros Q I h;exact isTrue_not (ha jb s U H (λc H1=>Q (!c) H1) I h)
def FD (ta tb:TE):TE:=fun U H Q=>ta U H λx H1=>∃c,x=.bl c/\if c=true then tb U H1 Q else Q (.bl false) H1
def HI (ta tb:TE):TE:=fun U H Q=>ta U H λx H1=>∃c,x=.bl c/\if c=true then Q (.bl true) H1 else tb U H1 Q
def Fu (ta:TE):TE:=fun U H Q=>ta U H λx H1=>∃c,x=.bl c/\Q (.bl (!c)) H1
theorem El {op} {t:TE} (h:PE X a t):PE X (.BoolOp op [a] pos) t:=λjb s U H Q I hw=>BoolOp_one (h jb s U H Q I hw)
theorem EY (ha:PE X a ta) (hb:PE X (.BoolOp .And (b::rest) pos) tb):PE X (.BoolOp .And (a::b::rest) pos) (FD ta tb):=by
 intros Q I h;refine BoolOp_and (thn (ha jb s U H _ I h) λv s1 zz=>?_);obtain⟨x,H1,I1,r1,q1⟩:=zz;obtain⟨c,rfl,q1⟩:=q1;cases r1;refine Qbq ?_;cases c with
 | true=>exact hb jb s1 U H1 Q I1 q1
 | false=>exact⟨.bl false,H1,I1,rfl,q1⟩
theorem FL (ha:PE X a ta) (hb:PE X (.BoolOp .Or (b::rest) pos) tb):PE X (.BoolOp .Or (a::b::rest) pos) (HI ta tb):=by
 intros Q I h;refine BoolOp_or (thn (ha jb s U H _ I h) λv s1 zz=>?_);obtain⟨x,H1,I1,r1,q1⟩:=zz;obtain⟨c,rfl,q1⟩:=q1;cases r1;refine Qbq ?_;cases c with
 | false=>exact hb jb s1 U H1 Q I1 q1
 | true=>exact⟨.bl true,H1,I1,rfl,q1⟩
theorem CI (ha:PE X a ta):PE X (.UnaryOp .Not a pos) (Fu ta):=by
 intros Q I h;refine UnaryOp_ (thn (ha jb s U H _ I h) λv s1 zz=>?_);obtain⟨x,H1,I1,r1,q1⟩:=zz;obtain⟨c,rfl,q1⟩:=q1;cases r1;exact not_of (Qbq ⟨.bl (!c),H1,I1,rq,q1⟩)
def tIf (t:TT) (ta tb:TE):TE:=fun U H Q=>t U H λc H1=>if c=true then ta U H1 Q else tb U H1 Q
theorem cN {c:Expr} (hc:PT X c tA) (ha:PE X a ta) (hb:PE X b tb):PE X (.IfExp c a b pos) (tIf tA ta tb):=by
 intros Q I h;refine wpAny_IfExp (thn (hc jb s U H _ I h) λd s1 zz=>?_);obtain⟨H1,I1,q1⟩:=zz;cases d with
 | true=>exact ha jb s1 U H1 Q I1 q1
 | false=>exact hb jb s1 U H1 Q I1 q1
end
def SqL (K:YD) (H:Hp) (a:Addr) (xs:YG):Prop:=
 Rd H a (.lst xs) \/
  ∃(o:Obj) (its:Array Value) (n:Nat),K.lookup a=some o/\o.cls=.type "list"/\o.dict=none/\o.data=.seq its n/\its.size<=sizeLine/\Vals xs its.toList
def SqT (K:YD) (H:Hp) (a:Addr) (xs:YG):Prop:=
 Rd H a (.tup xs) \/
  ∃(o:Obj) (its:Array Value) (n:Nat),K.lookup a=some o/\o.cls=.type "tuple"/\o.data=.seq its n/\its.size<=sizeLine/\Vals xs its.toList
def Sr:Value->Option V
 | .none=>some .non
 | .bool b=>some (.bl b)
 | .int i _=>some (.int i)
 | .str x _=>some (.str x)
 | .bytes b _=>some (.byt b)
 | .float b _=>some (.flt b)
 | .ref a=>some (.ref a)
 | .type n=>some (.ty n)
 | _=>none
theorem RelV.abs {x:V} {u:Value} (r:RelV x u):Sr u=some x:=by
 cases x with
 | non=>cases r;rfl
 | bl _=>cases r;rfl
 | int _=>obtain⟨t,rfl⟩:=r;rfl
 | str _=>obtain⟨t,rfl⟩:=r;rfl
 | byt _=>obtain⟨t,rfl⟩:=r;rfl
 | flt _=>obtain⟨t,rfl⟩:=r;rfl
 | ref _=>cases r;rfl
 | ty _=>cases r;rfl
theorem RelV.inj {x y:V} {u:Value} (r:RelV x u) (q:RelV y u):x=y:=QbN (r.abs.symm.trans q.abs)
theorem Vals.inj:∀{xs ys:YG} {us:YE},Vals xs us->Vals ys us->xs=ys
 | _,_,_,.nil,.nil=>rfl
 | _,_,_,.cons r t,.cons r' t'=>by rw[r.inj r',Vals.inj t t']
section
variable {X:Cx} {jb:YC} {U : St} {H:Hp} {s:Shared} {a:Addr} {xs ys:YG}
theorem SqL.of {K:YD} (h:H a=some (.lst xs)):SqL K H a xs:=.inl (.inl h)
theorem SqT.of {K:YD} (h:H a=some (.tup xs)):SqT K H a xs:=.inl (.inl h)
theorem Inv.list (I:H^^^s) (h:SqL X.K H a xs):∃its:YE,Vals xs its/\PlainL s.heap a its.toArray/\xs.length<=sizeLine:=by
 rcases h with h |⟨o,its,n,hk,hc,hd,hs,hz,r⟩
 ·obtain⟨z,its,n,r,e⟩:=h.ok I.hok;exact⟨its,r,⟨_,n,e,rq,rq,rq⟩,z⟩
 ·refine⟨its.toList,r,⟨o,n,I.kIn a o hk,hc,hd,by simpa using hs⟩,?_⟩;have e:=r.length;simp only[QaR] at e;omega
theorem Inv.tuple (I:H^^^s) (h:SqT X.K H a xs):∃its:YE,Vals xs its/\IsTup s.heap a its.toArray/\xs.length<=sizeLine:=by
 rcases h with h |⟨o,its,n,hk,hc,hs,hz,r⟩
 ·obtain⟨z,its,r,p⟩:=h.ok I.hok;exact⟨its,r,p,z⟩
 ·refine⟨its.toList,r,⟨o,I.kIn a o hk,hc,n,by simpa using hs⟩,?_⟩;have e:=r.length;simp only[QaR] at e;omega
theorem Inv.dH (I:H^^^s) (h:SqL X.K H a xs) (h':SqL X.K H a ys):xs=ys:=by
 obtain⟨its,r,⟨o,n,e,_,_,d⟩,_⟩:=I.list h;obtain⟨its',r',⟨o',n',e',_,_,d'⟩,_⟩:=I.list h';rw[e] at e';cases e';rw[d] at d';injection d' with d1 _;have:its=its':=by simpa using congrArg Array.toList d1
 subst this;exact r.inj r'
theorem Inv.Zk (I:H^^^s) (h:SqT X.K H a xs) (h':SqT X.K H a ys):xs=ys:=by
 obtain⟨its,r,⟨o,e,_,n,d⟩,_⟩:=I.tuple h;obtain⟨its',r',⟨o',e',_,n',d'⟩,_⟩:=I.tuple h';rw[e] at e';cases e';rw[d] at d';injection d' with d1 _;have:its=its':=by simpa using congrArg Array.toList d1
 subst this;exact r.inj r'
end
abbrev Cx.wish (X:Cx) (E:YA):Cx:={ X with xe:=E }
abbrev Cx.nox (X:Cx):Cx:=X.wish λ_ _=>False
theorem Cx.Ok.wish {X:Cx} (ok:X.Ok) (E:YA):(X.wish E).Ok:=
 ⟨ok.mod,ok.kind,ok.glob,ok.blt,ok.above,ok.inj,ok.has,ok.cab,ok.hd,ok.frames,ok.stk,ok.exf,ok.bs,ok.bsz,ok.O1,ok.LC,ok.Hg,ok.frf⟩
theorem Cx.Ok.Mw {X:Cx} {E:YA} (ok:(X.wish E).Ok):X.Ok:=
 ⟨ok.mod,ok.kind,ok.glob,ok.blt,ok.above,ok.inj,ok.has,ok.cab,ok.hd,ok.frames,ok.stk,ok.exf,ok.bs,ok.bsz,ok.O1,ok.LC,ok.Hg,ok.frf⟩
section
variable {X:Cx} {jb:YC} {U : St} {H:Hp} {s:Shared} {E:YA}
theorem Inv.wish (I:H^^^s) (E:YA):Inv (X.wish E) jb U H s:=⟨I.ok.wish E,I.os,I.bare,I.base,I.loc,I.cell,I.free,I.FP,I.pin,I.hok,I.len⟩
theorem Inv.Mw (I:Inv (X.wish E) jb U H s):Inv X jb U H s:=⟨I.ok.Mw,I.os,I.bare,I.base,I.loc,I.cell,I.free,I.FP,I.pin,I.hok,I.len⟩
theorem SP.Mw {D:Ends} {f:Flow} {s':Shared} (h:SP (X.wish E) jb D f s'):SP X jb D f s':=by
 cases f with
 | next=>obtain⟨σ',H',I,q⟩:=h;exact⟨σ',H',I.Mw,q⟩
 | brk=>obtain⟨σ',H',I,q⟩:=h;exact⟨σ',H',I.Mw,q⟩
 | cont=>obtain⟨σ',H',I,q⟩:=h;exact⟨σ',H',I.Mw,q⟩
 | ret u=>obtain⟨v,σ',H',I,r,q⟩:=h;exact⟨v,σ',H',I.Mw,r,q⟩
theorem PSs.nox {st:List Stmt} {t:TS} (h:PSs X.nox st t):PSs X st t:=λjb s U H D I hw=>
 QcE (h jb s U H D (I.wish _) hw) (λ_ _ q=>q.Mw) λ_ _ z=>False.elim z
end
section
variable {X:Cx} {st:Stmt} {rest:List Stmt} {t u:TS} {e:Expr} {te:TE} {pos:Pos}
def FA:TS:=λD U H=>D.nx U H
def Ao (t u:TS):TS:=λD U H=>t { D with nx:=u D } U H
theorem Bt:PSs X [] FA:=λ_ _ U H _ I h=>wpAny_execs_nil ⟨U,H,I,h⟩
theorem Ae (h1:PS X st t) (h2:PSs X rest u):PSs X (st::rest) (Ao t u):=by
 intros D I h;refine wpAny_execs_cons (thn (h1 jb s U H { D with nx:=u D } I h) λf s1 q=>?_);cases f with
 | next=>
  obtain⟨σ',H',I',q⟩:=q;exact h2 jb s1 σ' H' D I' q
 | ret v=>exact q
 | brk=>exact q
 | cont=>exact q
theorem Ag (h1:PS X st t):PSs X [st] t:=by
 intros D I h;refine wpAny_execs_cons (thn (h1 jb s U H D I h) λf s1 q=>?_);cases f with
 | next=>exact wpAny_execs_nil q
 | ret v=>exact q
 | brk=>exact q
 | cont=>exact q
def B5:TS:=λD U H=>D.bk U H
theorem vD:PS X (.Break pos) B5:=λ_ _ U H _ I h=>wpAny_Break ⟨U,H,I,h⟩
theorem Inv.quiet {jb:YC} {U : St} {H:Hp} {s:Shared} (I:H^^^s):interactive X.env=false:=by simp[interactive,I.ok.kind]
def FB (te:TE):TS:=λD U H=>te U H λ_ H1=>D.nx U H1
theorem Bc (he:PE X e te) (hs:swapsWith e none pos.line X.env=pure false:=by rfl):PS X (.Expr e pos) (FB te):=by
 intros D I h;refine wpAny_Expr_any (thn (he jb s U H _ I h) λv s1 zz=>?_) I.quiet hs;obtain⟨x,H1,I1,r1,q1⟩:=zz;exact⟨U,H1,I1,q1⟩
def HG (te:TE):TS:=λD U H=>te U H D.rt
theorem Az (he:PE X e te):PS X (.Return (some e) pos) (HG te):=by
 intros D I h;refine wpAny_Return_some (thn (he jb s U H _ I h) λv s1 zz=>?_);obtain⟨x,H1,I1,r1,q1⟩:=zz;exact⟨x,U,H1,I1,r1,q1⟩
def Hr (c:TT) (t u:TS):TS:=λD U H=>c U H λb H1=>if b=true then t D U H1 else u D U H1
theorem Ce {c:Expr} {a b:List Stmt} {tc:TT} (hc:PT X c tc) (ha:PSs X a t) (hb:PSs X b u):PS X (.If c a b pos) (Hr tc t u):=by
 intros D I h;refine wpAny_If (thn (hc jb s U H _ I h) λd s1 zz=>?_);obtain⟨H1,I1,q1⟩:=zz;cases d with
 | true=>exact ha jb s1 U H1 D I1 q1
 | false=>exact hb jb s1 U H1 D I1 q1
def BT:TS:=λ_ _ _=>False
theorem Rh:PS X st BT:=λ_ _ _ _ _ _ h=>h.elim
end
abbrev TG:=V->St->Hp->(YO)->Prop
abbrev TGs:=YG->St->Hp->(YO)->Prop
def PG (X:Cx) (target:Expr) (t:TG):Prop:=
 ∀(jb:YC) (s:Shared) (U : St) (H:Hp) (v:V) (u:Value) (Q:YO),H^^^s->RelV v u->t v U H Q ->
  ‹X› (assign target X.env u) (λ_ s'=>∃ σ' H',Inv X jb σ' H' s'/\Q σ' H') X.xe s
def PGs (X:Cx) (ts:YJ) (t:TGs):Prop:=
 ∀(jb:YC) (s:Shared) (U : St) (H:Hp) (vs:YG) (us:YE) (Q:YO),H^^^s->Vals vs us->t vs U H Q ->
  ‹X› (assignInOrder ((assignEach ts X.env).map (·.2)) us) (λ_ s'=>∃ σ' H',Inv X jb σ' H' s'/\Q σ' H') X.xe s
abbrev yD:=V->V->V->Hp->(Hp->Prop)->Prop
def E9 (X:Cx) (t:yD):Prop:=
 ∀(jb:YC) (s:Shared) (U : St) (H:Hp) (o i v:V) (ov iv u:Value) (Q:Hp->Prop),H^^^s->RelV o ov->RelV i iv->RelV v u->t o i v H Q ->
  ‹X› (setItem ov iv u) (λ_ s'=>∃H',Inv X jb U H' s'/\Q H') X.xe s
abbrev TIp:=V->V->Hp->VK->Prop
def PIp (X:Cx) (op:Operator) (t:TIp):Prop:=
 ∀(jb:YC) (s:Shared) (U : St) (H:Hp) (x y:V) (v u:Value) (Q:VK),H^^^s->RelV x v->RelV y u->t x y H Q ->
  ‹X› (inplaceOp op v u) (EP X jb U Q) X.xe s
section
variable {X:Cx} {pos:Pos}
def FN (i:Nat):TG:=λv U H Q=>Q (U.set i (some v)) H
theorem Ai {i:Nat} {x:Str} (hN:X.N.Nodup) (hi:X.N[i]?=some x) (hx:Loc X.env.scope x) (hf:X.fn x=true\/X.env.scope.names.lookup x=some .local:=by first | exact .inl rfl | exact .inr rfl | assumption):PG X (.Name x pos) (FN i):=by
 intros v u Q I r h;exact wpAny_assign_Name (Lb I hN hi hx r (λs' I'=>⟨_,H,I',h⟩) hf)
def OO:TGs:=λvs U H Q=>vs=[]/\Q U H
def GS (t:TG) (u:TGs):TGs:=λvs U H Q=>∃v r,vs=v::r/\t v U H fun σ' H'=>u r σ' H' Q
theorem Bo:PGs X [] OO:=by
 intros vs us Q I r h;obtain⟨e,h⟩:=h;subst e;cases r;exact assignInOrder_nil ⟨U,H,I,h⟩
theorem Ak {e:Expr} {es:YJ} {t:TG} {u:TGs} (h1:PG X e t) (h2:PGs X es u)
  (hs:(assignEach (e::es) X.env).map (·.2)=assign e X.env::(assignEach es X.env).map (·.2):=by rfl):PGs X (e::es) (GS t u):=by
 intros vs us Q I r h;obtain⟨v,vr,e1,h⟩:=h;subst e1;cases r with
 | cons r rr=>
  rw[hs];refine assignInOrder_cons (thn (h1 jb s U H _ _ _ I r h) λ_ s1 zz=>?_);obtain⟨σ1,H1,I1,q1⟩:=zz;exact h2 jb s1 σ1 H1 _ _ Q I1 rr q1
def EL (K:YD) (n:Nat) (t:TGs):TG:=λv U H Q=>∃a xs,v=.ref a/\SqT K H a xs/\xs.length=n/\t xs U H Q
theorem CK {es:YJ} {k:Nat} {t:TGs} {n:Nat} (hc:X.calm=true) (h:PGs X es t)
  (hn:(assignEach es X.env).length=n:=by rfl) (hst:(assignEach es X.env).findIdx? (·.1)=none:=by rfl):PG X (.Tuple es k pos) (EL X.K n t):=by
 intros v u Q I r hw;obtain⟨a,xs,e1,hq,hl,hw⟩:=hw;subst e1;cases r;obtain⟨its,rv,ht,hz⟩:=I.tuple hq;refine assign_Tuple_tuple (I.ok.hd hc) ht (by simp[hn,<-hl,rv.length]) hst λh' hx=>?_;have I1:Inv X jb U H { s with heap:=h' }:=I.kept (t':=s.toks) λb o e=>hx b o (Qcn (Qcm e)) e;exact h jb _ U H xs _ Q I1 (by simpa using rv) hw
def ON (to ti:TE) (t:yD):TG:=λv U H Q=>to U H λo H1=>ti U H1 λi H2=>t o i v H2 λH3=>Q U H3
theorem cL {o i:Expr} {to ti:TE} {t:yD} (ho:PE X o to) (hi:PE X i ti) (hs:E9 X t)
  (ha:∀v,assign (.Subscript o i pos) X.env v=(do
   let ov <-holding [v] (eval o X.env);let iv <-holding [v,ov] (eval i X.env)
   standAt pos
   holding [v,ov,iv] (setItem ov iv v)
   release [v,ov,iv] []):=by intro _;rfl):PG X (.Subscript o i pos) (ON to ti t):=by
 intros v u Q I r h;rw[ha];refine QcC (Qch (thn (ho jb s U H _ I h) λov s1 zz=>?_));obtain⟨x,H1,I1,r1,q1⟩:=zz;refine QcC (Qch (thn (hi jb s1 U H1 _ I1 q1) λiv s2 zz=>?_));obtain⟨y,H2,I2,r2,q2⟩:=zz;refine QcC (Qcj (QcC (Qch (thn (hs jb s2 U H2 x y v ov iv u _ I2 r1 r2 r q2) λ_ s3 zz=>?_))));obtain⟨H3,I3,q3⟩:=zz;exact wpAny_release ⟨U,H3,I3,q3⟩
def aY (te:TE) (g:TG):TS:=λD U H=>te U H λx H1=>g x U H1 D.nx
theorem GZ {tg e:Expr} {te:TE} {g:TG} (he:PE X e te) (hg:PG X tg g) (hs:swapsWithSole [tg] e pos.line X.env=pure false:=by rfl) (hw:swappedStores [tg] e X.env=pure none:=by rfl)
  (h1:(assignEach [tg] X.env).map (·.2)=[assign tg X.env]:=by rfl):PS X (.Assign [tg] e pos) (aY te g):=by
 intros D I h;refine wpAny_Assign_stores (thn (he jb s U H _ I h) λv s1 zz=>?_) hs hw;obtain⟨x,H1,I1,r1,q1⟩:=zz;rw[h1];exact thn (hg jb s1 U H1 x v _ I1 r1 q1) λ_ s2 q=>q
theorem Ba {i:Nat} {x:Str} {e:Expr} {te:TE} {pos':Pos} (hN:X.N.Nodup) (hi:X.N[i]?=some x) (hx:Loc X.env.scope x) (he:PE X e te) (hs:swapsWith e (some (.Name x pos')) pos.line X.env=pure false:=by rfl) (hf:X.fn x=true\/X.env.scope.names.lookup x=some .local:=by first | exact .inl rfl | exact .inr rfl | assumption) :
  PS X (.Assign [.Name x pos'] e pos) (aY te (FN i)):=by
 intros D I h;refine wpAny_Assign_Name (thn (he jb s U H _ I h) λv s1 zz=>?_) hs;obtain⟨y,H1,I1,r1,q1⟩:=zz;exact Lb I1 hN hi hx r1 (λs2 I2=>⟨_,H1,I2,q1⟩) hf
def Ix (i:Nat) (te:TE) (ti:TIp):TS:=λD U H=>∃x,U[i]?=some (some x)/\te U H λy H1=>ti x y H1 λz H2=>D.nx (U.set i (some z)) H2
theorem pQ {i:Nat} {x:Str} {e:Expr} {te:TE} {op:Operator} {ti:TIp} {pos':Pos} (hN:X.N.Nodup) (hi:X.N[i]?=some x) (hx:Loc X.env.scope x) (he:PE X e te) (ho:PIp X op ti) (hf:X.fn x=true\/X.env.scope.names.lookup x=some .local:=by first | exact .inl rfl | exact .inr rfl | assumption) :
  PS X (.AugAssign (.Name x pos') op e pos) (Ix i te ti):=by
 intros D I h;obtain⟨v,e1,h⟩:=h;obtain⟨m,hn,hl⟩:=I.loc;have vis:Vis X.env.scope x:=by rcases hx with k | k;exact .inl k;exact .inr (.inl k)
 obtain⟨u,r,l⟩:=hl i x v hi e1 vis;refine wpAny_AugAssign_Name ?_;have go:‹X› (eval e X.env) (λw s₂=>‹X› (inplaceOp op u w) (λr s₃=>‹X› (storeName X.env x r) (λ_=>SP X jb D .next) X.xe s₃) X.xe s₂) X.xe s:=by
  refine thn (he jb s U H _ I h) λw s1 zz=>?_;obtain⟨y,H1,I1,r1,q1⟩:=zz;refine thn (ho jb s1 U H1 v y u w _ I1 r r1 q1) λz s2 zz=>?_;obtain⟨zv,H2,I2,r2,q2⟩:=zz;exact Lb I2 hN hi hx r2 (λs3 I3=>⟨_,H2,I3,q2⟩) hf
 rcases l with⟨hk,hm⟩|⟨hk,c,hc,hcell⟩
 ·exact wpAny_loadName_local I.ok.kind hk hn hm go
 ·rcases hk with hk | hk
  ·exact wpAny_loadName_cell I.ok.kind hk hc hcell go
  ·rcases hx with k | k
   ·have:X.env.scope.names.lookup x=some .free:=hk;rw[k] at this;cases this
   ·have:X.env.scope.names.lookup x=some .free:=hk;rw[k] at this;cases this
def ipI (f:Int->Int->Int):TIp:=λx y H Q=>∃i j,x=.int i/\y=.int j/\Q (.int (f i j)) H
theorem qO:PIp X .Add (ipI λi j=>i+j):=by
 intros x y v u Q I r1 r2 h;obtain⟨i,j,e1,e2,q⟩:=h;subst e1;subst e2;obtain⟨t,rfl⟩:=r1;obtain⟨t',rfl⟩:=r2;exact iadd_int ⟨.int _,H,I.tok _,⟨_,rq⟩,q⟩
end
section
variable {X:Cx} {pos:Pos}
abbrev YN:=Nat->YO
def aW (c:TT) (tb:TS):TS:=λD U H=>∃W:YN,(∃m,W m U H)/\∀m U H,W m U H ->
 c U H λb H1=>if b=true then ∃N:YO,(∀ σ' H',N σ' H'->∃m',m' < m/\W m' σ' H')/\tb { D with nx:=N,ct:=N,bk:=D.nx } U H1 else D.nx U H1
theorem cG {c:Expr} {body:List Stmt} {tc:TT} {tb:TS} (hp:PassesOwn (model X.prog X.w) X.A X.env X.xe) (hc:PT X c tc) (hb:PSs X body tb):PS X (.While c body [] pos) (aW tc tb):=by
 intros D I h;obtain⟨W,⟨m0,w0⟩,turn⟩:=h;refine wpAny_While (codeAny_whileLoop (λn s'=>∃ σ' H',Inv X jb σ' H' s'/\W n σ' H') ?_ m0 ⟨U,H,I,w0⟩);rintro n s1 ⟨σ1,H1,I1,w1⟩;refine QbT hp (thn (hc jb s1 σ1 H1 _ I1 (turn n σ1 H1 w1)) λb s2 zz=>?_);obtain⟨H2,I2,q2⟩:=zz;cases b with
 | true=>
  obtain⟨N,hN,q2⟩:=q2;rw[if_pos rfl];refine QbT hp (thn (hb jb s2 σ1 H2 _ I2 q2) λf s3 q3=>?_);cases f with
  | next=>
   obtain⟨σ3,H3,I3,n3⟩:=q3;obtain⟨m',hm,w3⟩:=hN σ3 H3 n3;exact⟨m',hm,σ3,H3,I3,w3⟩
  | cont=>
   obtain⟨σ3,H3,I3,n3⟩:=q3;obtain⟨m',hm,w3⟩:=hN σ3 H3 n3;exact⟨m',hm,σ3,H3,I3,w3⟩
  | brk=>exact q3
  | ret v=>exact q3
 | false=>
  rw[if_neg QaZ];exact wpAny_execs_nil ⟨σ1,H2,I2,q2⟩
end
structure It where
 go:Nat->Hp->Prop
 yld:Nat->Hp->V->Hp->Prop
 stop:Nat->Hp->Prop
def Hh (X:Cx) (jb:YC) (H:Hp) (b:Addr):Prop:=
 H b=none/\b≠X.env.locals/\b∉X.fs/\(b∈X.ex\/X.s₀.heap.objs.size<=b)/\(∀x c,X.env.cells.lookup x=some c->c≠b)/\∀p∈X.pn++jb,p.1≠b
theorem Inv.Ro {X:Cx} {jb:YC} {U : St} {H H':Hp} {s:Shared} {b:Addr} (I:H^^^s) (hb:∅<=b) (hn:H' b=none):Hh X jb H' b:=by
 refine⟨hn,Qcq (Qbb I.lt hb),I.wz hb,.inr (Qco I.sz hb),λx c e z=>?_,λp hp z=>?_⟩
 ·obtain⟨v,q⟩:=I.cell x c e;exact absurd (Qbb q.lt (by rw[z];exact hb)) (Qcg _)
 ·exact absurd (Qbb (Qcm (I.pin p hp).1) (by rw[z];exact hb)) (Qcg _)
structure Turn (P:Program) (w:World) (K:YD) (tg:Expr) (J:It) (fp:List Addr) (it:Addr) (tn:Nat->Heap->Prop):Prop where
 mem:it∈fp
 obj:∀i h,tn i h->∀b∈fp,∃o,h.get? b=some o/\∀v,o.data≠.cell v
 keep:∀i h h',tn i h->(∀b∈fp,∀o,h.get? b=some o->h'.get? b=some o)->tn i h'
 item:∀(X:Cx),X.prog=P->X.w=w->X.K=K->X.calm=true->∀(i:Nat) (jb:YC) (s:Shared) (U : St) (H:Hp) (E:YA),H^^^s->(∀b∈fp,Hh X jb H b)->tn i s.heap->J.go i H ->
  wpAny (model P w) X.A (pyNext (.ref it)) (λr s1=>∃u,r=some u /\
   wpAny (model P w) X.A (letOwnedTupleGo tg (.ref it) u) (λ_ s2=>∃x H',Inv X jb U H' s2/\RelV x u/\J.yld i H x H'/\tn (i+1) s2.heap/\∀b∈fp,H' b=none) E s1) E s
 done:∀(X:Cx),X.prog=P->X.w=w->X.K=K->X.calm=true->∀(i:Nat) (jb:YC) (s:Shared) (U : St) (H:Hp) (E:YA),H^^^s->(∀b∈fp,Hh X jb H b)->tn i s.heap->J.stop i H ->
  wpAny (model P w) X.A (pyNext (.ref it)) (λr s1=>r=none/\Inv X jb U H s1) E s
 self:∀(A:Around) (i:Nat) (s:Shared) (Q:YA) (E:YA),tn i s.heap->Q (.ref it) s->wpAny (model P w) A (pyIter (.ref it)) Q E s
abbrev TI:=St->Hp->(It->Hp->Prop)->Prop
def PIE (X:Cx) (jb:YC) (U : St) (tg:Expr) (R:It->Hp->Prop) (itv:Value) (s2:Shared):Prop:=
 ∃(it:Addr) (fp:List Addr) (tn:Nat->Heap->Prop) (J:It) (H':Hp),itv=.ref it/\Inv X jb U H' s2/\Turn X.prog X.w X.K tg J fp it tn/\tn 0 s2.heap/\(∀b∈fp,Hh X jb H' b)/\R J H'
def PI (X:Cx) (tg iter:Expr) (wi:TI):Prop:=
 ∀(jb:YC) (s:Shared) (U : St) (H:Hp) (R:It->Hp->Prop),H^^^s->wi U H R ->
  ‹X› (eval iter X.env) (λv s1=>‹X› (pyIter v) (PIE X jb U tg R) X.xe s1) X.xe s
theorem Xh {M:Model} {A:Around} {E:YA} {s:Shared} {tg:Expr} {it:Addr} {u:Value} {o:Obj} {n:String} {vs:Array Value} {Q:YH} (ho:s.heap.get? it=some o) (hc:o.cls=.type n) (hd:o.data=.fields vs)
    (hn:["enumerate","zip","dict_itemiterator","dict_reverseitemiterator","odict_iterator","itertools.zip_longest","itertools.pairwise"].contains n=false) (hQ:Q () s):wpAny M A (letOwnedTupleGo tg (.ref it) u) Q E s:=by
  unfold letOwnedTupleGo;cases tg <;> first
    | exact QcD hQ
    | (cases u <;> first
        | exact QcD hQ
        | (refine QcC (wpAny_load ho ?_)
           rw[hc,hd];show wpAny M A (if (["enumerate","zip","dict_itemiterator","dict_reverseitemiterator","odict_iterator","itertools.zip_longest","itertools.pairwise"].contains n&&vs[0]? == some (rawInt _))=true then _ else _) Q E s
           rw[if_neg (by intro h;rw[hn,Bool.false_and] at h;cases h)];exact QcD hQ))
def Itl (K:YD) (a:Addr):It:=
 ⟨λi H=>∃xs x,SqL K H a xs/\xs[i]?=some x,λi H x H'=>H'=H/\∀xs,SqL K H a xs->xs[i]?=some x,λi H=>∃xs,SqL K H a xs/\xs.length<=i⟩
def Itt (K:YD) (a:Addr):It:=
 ⟨λi H=>∃xs x,SqT K H a xs/\xs[i]?=some x,λi H x H'=>H'=H/\∀xs,SqT K H a xs->xs[i]?=some x,λi H=>∃xs,SqT K H a xs/\xs.length<=i⟩
def Itr (lo:Int) (n:Nat):It:=⟨λi _=>i < n,λi H x H'=>H'=H/\x=.int (lo+i),λi _=>n<=i⟩
theorem oZ {P:Program} {w:World} {K:YD} {tg:Expr} (a it:Addr):Turn P w K tg (Itl K a) [it] it (λi h=>h.IsListIter it a i) where
 mem:=by simp
 obj:=λi h st b hb=>by
  have e:b=it:=by simpa using hb
  subst e;obtain⟨o,e,c,d⟩:=st;exact⟨o,e,λv z=>by rw[d] at z;cases z⟩
 keep:=λi h h' st k=>st.at λo e=>k it (by simp) o e
 item:=by
  intro X hP hw hK hc i jb s U H E I hf st hg;subst hP hw hK;obtain⟨xs,x,hq,hx⟩:=hg;obtain⟨its,rv,p,hz⟩:=I.list hq;obtain⟨u,hu,ru⟩:=rv.get hx;obtain⟨f0,f1,f2,f3,f4,f5⟩:=hf it (by simp);refine wpAny_pyNext_list_item st p.isList (x:=u) (by simpa using hu) λh' st' sb=>?_;have I1:Inv X jb U H { s with heap:=h' }:=I.turned (t':=s.toks) (λb o hb e=>(sb.2 b hb).trans e) f0 f1 f3 f4 f5;obtain⟨o,e,c,d⟩:=id st';exact⟨u,rq,Xh (s:={ s with heap:=h' }) e c d (by decide) ⟨x,H,I1,ru,⟨rq,λys hy=>by rw[I.dH hy hq];exact hx⟩,st',λb hb=>(hf b hb).1⟩⟩
 done:=by
  intro X hP hw hK hc i jb s U H E I hf st hg;subst hP hw hK;obtain⟨xs,hq,hx⟩:=hg;obtain⟨its,rv,p,hz⟩:=I.list hq;obtain⟨f0,f1,f2,f3,f4,f5⟩:=hf it (by simp);have hl:=rv.length;exact wpAny_pyNext_list_end (I.ok.hd hc) st p.isList (by simp;omega) λh' eb=>⟨rq,I.turned (t':=s.toks) (λb o hb e=>eb b o hb e) f0 f1 f3 f4 f5⟩
 self:=λ_ _ _ _ _ st h=>wpAny_pyIter_listiter st h
theorem kI {P:Program} {w:World} {K:YD} {tg:Expr} (a it:Addr):Turn P w K tg (Itt K a) [it] it (λi h=>h.IsTupleIter it a i) where
 mem:=by simp
 obj:=λi h st b hb=>by
  have e:b=it:=by simpa using hb
  subst e;obtain⟨o,e,c,d⟩:=st;exact⟨o,e,λv z=>by rw[d] at z;cases z⟩
 keep:=λi h h' st k=>st.at λo e=>k it (by simp) o e
 item:=by
  intro X hP hw hK hc i jb s U H E I hf st hg;subst hP hw hK;obtain⟨xs,x,hq,hx⟩:=hg;obtain⟨its,rv,p,hz⟩:=I.tuple hq;obtain⟨u,hu,ru⟩:=rv.get hx;obtain⟨f0,f1,f2,f3,f4,f5⟩:=hf it (by simp);refine wpAny_pyNext_tuple_item st (show s.heap.IsTuple a its.toArray from p) (x:=u) (by simpa using hu) λh' st' sb=>?_
  have I1:Inv X jb U H { s with heap:=h' }:=I.turned (t':=s.toks) (λb o hb e=>(sb.2 b hb).trans e) f0 f1 f3 f4 f5;obtain⟨o,e,c,d⟩:=id st';exact⟨u,rq,Xh (s:={ s with heap:=h' }) e c d (by decide) ⟨x,H,I1,ru,⟨rq,λys hy=>by rw[I.Zk hy hq];exact hx⟩,st',λb hb=>(hf b hb).1⟩⟩
 done:=by
  intro X hP hw hK hc i jb s U H E I hf st hg;subst hP hw hK;obtain⟨xs,hq,hx⟩:=hg;obtain⟨its,rv,p,hz⟩:=I.tuple hq;obtain⟨f0,f1,f2,f3,f4,f5⟩:=hf it (by simp);have hl:=rv.length;exact wpAny_pyNext_tuple_end (I.ok.hd hc) st (show s.heap.IsTuple a its.toArray from p) (by simp;omega) λh' eb=>⟨rq,I.turned (t':=s.toks) (λb o hb e=>eb b o hb e) f0 f1 f3 f4 f5⟩
 self:=λ_ _ _ _ _ st h=>wpAny_pyIter_tupleiter st h
theorem kJ {P:Program} {w:World} {K:YD} {tg:Expr} (it:Addr) (lo:Int) (n:Nat):Turn P w K tg (Itr lo n) [it] it (λi h=>IsRangeIter h it (lo+(i:Nat)*1) ((n:Int) - (i:Nat)) 1) where
 mem:=by simp
 obj:=λi h st b hb=>by
  have e:b=it:=by simpa using hb
  subst e;exact⟨_,st,λv z=>by
   have z':Data.fields _=Data.cell v:=z;cases z'⟩
 keep:=λi h h' st k=>k it (by simp) _ st
 item:=by
  intro X hP hw hK hc i jb s U H E I hf st hg;subst hP hw hK;obtain⟨f0,f1,f2,f3,f4,f5⟩:=hf it (by simp);have W:=Walks.range (prog:=X.prog) (w:=X.w) (I.ok.hd hc) it lo 1 n;refine W.item i s _ _ hg st λv h' tk hv st' kk=>?_;obtain⟨t,rfl⟩:=hv;have I1:Inv X jb U H { s with heap:=h',toks:=tk }:=I.turned (λb o hb e=>kk b o (by simpa using hb) e) f0 f1 f3 f4 f5;refine⟨_,rq,Xh (s:={ s with heap:=h',toks:=tk }) (n:="range_iterator") st' rfl rfl (by decide) ⟨.int (lo+i),H,I1,⟨t,?_⟩,⟨rq,rq⟩,st',λb hb=>(hf b hb).1⟩⟩;rw[Int.mul_one]
 done:=by
  intro X hP hw hK hc i jb s U H E I hf st hg;subst hP hw hK;obtain⟨f0,f1,f2,f3,f4,f5⟩:=hf it (by simp);exact wpAny_pyNext_range_end (I.ok.hd hc) st (by have:n<=i:=hg;omega) λh' eb=>⟨rq,I.turned (t':=s.toks) (λb o hb e=>eb b o hb e) f0 f1 f3 f4 f5⟩
 self:=λ_ _ _ _ _ st h=>wpAny_pyIter_rangeiter st h
section
variable {X:Cx} {tg:Expr}
def F8 (K:YD) (tl:TE):TI:=fun U H R=>tl U H λx H1=>∃a,x=.ref a/\(∃xs,SqL K H1 a xs)/\R (Itl K a) H1
def MW (K:YD) (tl:TE):TI:=fun U H R=>tl U H λx H1=>∃a,x=.ref a/\(∃xs,SqT K H1 a xs)/\R (Itt K a) H1
theorem Dc {l:Expr} {tl:TE} (hl:PE X l tl):PI X tg l (F8 X.K tl):=by
 intros R I h;refine thn (hl jb s U H _ I h) λv s1 zz=>?_;obtain⟨x,H1,I1,r1,q1⟩:=zz;obtain⟨a,e,⟨xs,hq⟩,q⟩:=q1;subst e;cases r1;obtain⟨its,rv,p,hz⟩:=I1.list hq;refine Qbv p.isList ?_;refine⟨s1.heap.objs.size,[s1.heap.objs.size],_,_,H1,rq,I1.kept (t':=s1.toks) λb o e=>Qay _ e,oZ a _,⟨_,QaN _ rfl,rq,rq⟩,λb hb=>?_,q⟩;have e:b=s1.heap.objs.size:=by simpa using hb
 subst e;exact I1.Ro (Qcv _) (I1.hok.fresh (Qcv _))
theorem Ga {l:Expr} {tl:TE} (hl:PE X l tl):PI X tg l (MW X.K tl):=by
 intros R I h;refine thn (hl jb s U H _ I h) λv s1 zz=>?_;obtain⟨x,H1,I1,r1,q1⟩:=zz;obtain⟨a,e,⟨xs,hq⟩,q⟩:=q1;subst e;cases r1;obtain⟨its,rv,p,hz⟩:=I1.tuple hq;refine Qbd (show s1.heap.IsTuple a its.toArray from p) ?_
 refine⟨s1.heap.objs.size,[s1.heap.objs.size],_,_,H1,rq,I1.kept (t':=s1.toks) λb o e=>Qay _ e,kI a _,⟨_,QaN _ rfl,rq,rq⟩,λb hb=>?_,q⟩;have e:b=s1.heap.objs.size:=by simpa using hb
 subst e;exact I1.Ro (Qcv _) (I1.hok.fresh (Qcv _))
theorem vf {jb:YC} {U : St} {H:Hp} {s:Shared} {R:It->Hp->Prop} {E:YA} {lo hi:Int} {t u v:Tok} {tk:Nat} (I:H^^^s) (h1:-(2 ^ 62)<=lo) (h2:lo < 2 ^ 62) (h3:-(2 ^ 62)<=hi) (h4:hi < 2 ^ 62)
  (q:R (Itr lo (hi - lo).toNat) H):‹X› (pyIter (.ref ∅)) (PIE X jb U tg R) E { s with heap:=s.heap.push { cls:=.type "range",data:=.fields #[.int lo t,.int hi u,.int 1 v] },toks:=tk }:=by
 refine wpAny_pyIter_range (IsRange.new ..) (small_one h1 h2 h3 h4) ?_;have I1:Inv X jb U H { s with heap:=s.heap.push { cls:=.type "range",data:=.fields #[.int lo t,.int hi u,.int 1 v] },toks:=tk }:=I.kept λb o e=>Qay _ e;refine⟨(s.heap.push { cls:=.type "range",data:=.fields #[.int lo t,.int hi u,.int 1 v] }).objs.size,[(s.heap.push { cls:=.type "range",data:=.fields #[.int lo t,.int hi u,.int 1 v] }).objs.size],_,_,H,rq,
  I1.kept (t':=tk) λb o e=>Qay _ e,kJ _ lo (hi - lo).toNat,?_,λb hb=>?_,q⟩
 ·have e1:lo+((0:Nat):Int)*1=lo:=by simp
  have e2:(((hi - lo).toNat:Nat):Int) - ((0:Nat):Int)=Builtin.Range.rangeSize lo hi 1:=by rw[rangeSize_one];split <;> omega
  show IsRangeIter _ _ (lo+((0:Nat):Int)*1) ((((hi - lo).toNat:Nat):Int) - ((0:Nat):Int)) 1;rw[e1,e2];exact QaN _ rfl
 ·have e:b=(s.heap.push { cls:=.type "range",data:=.fields #[.int lo t,.int hi u,.int 1 v] }).objs.size:=by simpa using hb
  subst e;exact I1.Ro (Qcv _) (I1.hok.fresh (Qcv _))
def F7 (ta:TA):TI:=fun U H R=>ta U H λvs H1=>∃j:Int,vs=[.int j]/\-(2 ^ 62)<=j/\j < 2 ^ 62/\R (Itr 0 j.toNat) H1
theorem Dd {a:Expr} {ta:TA} {p pos:Pos} (hg:Gl X "range") (hm:X.mg "range"=none) (ha:PA X [a] ta) (hs:starEach [a] X.env=[(false,eval a X.env)]:=by rfl):PI X tg (.Call (.Name "range" p) [a] [] pos) (F7 ta):=by
 intros R I h;refine Call_ (M8 I hg hm boot_range (Qae (thn (ha pos jb s U H _ I h) λus s1 zz=>?_) hs rfl));obtain⟨vs,H1,I1,r1,q1⟩:=zz;obtain⟨j,e,q1,q2,q⟩:=q1;subst e;cases r1 with
 | cons r rr=>
  cases rr;obtain⟨t,rfl⟩:=r;exact call_range_1 (vf I1 (by omega) (by omega) q1 q2 (by simpa using q))
def Dq (wi:TI) (g:TG) (tb:TS):TS:=λD U H=>wi U H λJ H1=>∃W:Nat->YN,(∃m,W 0 m U H1)/\∀i m U H,W i m U H ->
 (J.stop i H/\D.nx U H)\/(J.go i H/\∃N:YO,(∀ σ' H',N σ' H'->∃m',m' < m/\W (i+1) m' σ' H')/\∀x H',J.yld i H x H'->g x U H' fun σ2 H2=>tb { D with nx:=N,ct:=N,bk:=D.nx } σ2 H2)
def Oq (fp:List Addr) (h:Heap):YC:=fp.filterMap λb=>(h.get? b).map λo=>(b,o)
theorem K3 {fp:List Addr} {h:Heap} {b:Addr} {o:Obj} (hb:b∈fp) (e:h.get? b=some o):(b,o)∈Oq fp h:=List.mem_filterMap.mpr ⟨b,hb,by rw[e];rfl⟩
theorem qx {fp:List Addr} {h:Heap} {p:Addr×Obj} (hp:p∈Oq fp h):p.1∈fp/\h.get? p.1=some p.2:=by
 obtain⟨b,hb,e⟩:=List.mem_filterMap.mp hp;cases q:h.get? b with
 | none=>rw[q] at e;cases e
 | some o=>
  rw[q] at e;have e':(b,o)=p:=QbN e;subst e';exact⟨hb,q⟩
theorem Inv.pinned {jb:YC} {U : St} {H:Hp} {s:Shared} {fp:List Addr} (I:H^^^s) (hf:∀b∈fp,Hh X jb H b) (ho:∀b∈fp,∃o,s.heap.get? b=some o/\∀v,o.data≠.cell v):Inv X (jb++Oq fp s.heap) U H s:=
 I.Ua λp hp=>(QbI.mp hp).elim (λz=>I.pin p (QaD _ z)) λz=>by
  obtain⟨hb,e⟩:=qx z;obtain⟨f0,f1,f2,_⟩:=hf p.1 hb;obtain⟨o,e',d⟩:=ho p.1 hb;rw[e] at e';cases e';exact⟨e,f0,f1,f2,d⟩
theorem Inv.IW {jb pl:YC} {U : St} {H:Hp} {s:Shared} (I:Inv X (jb++pl) U H s):Inv X jb U H s:=I.Ua λp hp=>I.pin p (QaD _ (QaK _ hp))
theorem Cj {iter:Expr} {body:List Stmt} {wi:TI} {g:TG} {tb:TS} {pos:Pos} (hp:PassesOwn (model X.prog X.w) X.A X.env X.xe) (hc:X.calm=true) (hi:PI X tg iter wi) (hg:PG X tg g) (hb:PSs X body tb)
  (hs:∀x,foldedSetIterable iter X.env x=pure x:=by intro _;rfl):PS X (.For tg iter body [] pos) (Dq wi g tb):=by
 intros D I h;refine wpAny_For (thn (hi jb s U H _ I h) λv s1 h1=>thn h1 λitv s2 h2=>?_) hs;obtain⟨it,fp,tn,J,H2,e,I2,T,st2,f2,W,⟨m0,w0⟩,turn⟩:=h2;subst e;have stat:∀{H':Hp},(∀b∈fp,H' b=none)->∀b∈fp,Hh X jb H' b:=λhn b hb=>⟨hn b hb,(f2 b hb).2⟩;refine codeAny_forLoop_any (λn s'=>∃i σ' H',Inv X jb σ' H' s'/\tn i s'.heap/\(∀b∈fp,H' b=none)/\W i n σ' H') ?_ m0 ⟨0,U,H2,I2,st2,λb hb=>(f2 b hb).1,w0⟩;rintro n s3 ⟨i,σ3,H3,I3,st3,fr3,w3⟩;rcases turn i n σ3 H3 w3 with⟨stop,qn⟩|⟨go,N,hN,step⟩
 ·refine QbT hp (thn (T.done X rfl rfl rfl hc i jb s3 σ3 H3 X.xe I3 (stat fr3) st3 stop) λr s4 zz=>?_);obtain⟨hr,I4⟩:=zz;subst hr;exact wpAny_execs_nil ⟨σ3,H3,I4,qn⟩
 ·refine QbT hp (thn (T.item X rfl rfl rfl hc i jb s3 σ3 H3 X.xe I3 (stat fr3) st3 go) λr s4 zz=>?_);obtain⟨u,hr,h4⟩:=zz;subst hr;refine QbT hp (thn h4 λ_ s5 zz=>?_);obtain⟨x,H5,I5,r5,y5,st5,fr5⟩:=zz;have I5':=I5.pinned (stat fr5) (T.obj _ _ st5);refine QbT hp (thn (hg _ s5 σ3 H5 x u _ I5' r5 (step x H5 y5)) λ_ s6 zz=>?_);obtain⟨σ6,H6,I6,q6⟩:=zz;refine QbT hp (thn (hb _ s6 σ6 H6 _ I6 q6) λf s7 q7=>?_);have again:∀{σ7:St} {H7:Hp},Inv X (jb++Oq fp s5.heap) σ7 H7 s7->N σ7 H7->∃m,m < n/\∃i σ' H',Inv X jb σ' H' s7/\tn i s7.heap/\(∀b∈fp,H' b=none)/\W i m σ' H':=λ{σ7 H7} I7 n7=>by
   obtain⟨m',hm,w7⟩:=hN σ7 H7 n7;refine⟨m',hm,i+1,σ7,H7,I7.IW,T.keep _ _ _ st5 λb hb o e=>(I7.pin (b,o) (QaD _ (QaD _ (K3 hb e)))).1,λb hb=>?_,w7⟩;obtain⟨o,e,d⟩:=T.obj _ _ st5 b hb;exact (I7.pin (b,o) (QaD _ (QaD _ (K3 hb e)))).2.1
  cases f with
  | next=>obtain⟨σ7,H7,I7,n7⟩:=q7;exact again I7 n7
  | cont=>obtain⟨σ7,H7,I7,n7⟩:=q7;exact again I7 n7
  | brk=>obtain⟨σ7,H7,I7,q7⟩:=q7;exact⟨σ7,H7,I7.IW,q7⟩
  | ret v=>obtain⟨x7,σ7,H7,I7,r7,q7⟩:=q7;exact⟨x7,σ7,H7,I7.IW,r7,q7⟩
end
theorem Lz {K:YD} {a:Addr} {xs:YG} {g:TG} {tb:TS} {D:Ends} {U : St} {H:Hp} (Pv:YN) (h0:Pv 0 U H) (hl:∀i U H,i<=xs.length->Pv i U H->SqL K H a xs)
  (hs:∀i x U H,xs[i]?=some x->Pv i U H->g x U H fun σ2 H2=>tb { D with nx:=Pv (i+1),ct:=Pv (i+1),bk:=D.nx } σ2 H2) (hd:∀ U H,Pv xs.length U H->D.nx U H) :
  ∃W:Nat->YN,(∃m,W 0 m U H)/\∀i m U H,W i m U H ->
   ((Itl K a).stop i H/\D.nx U H)\/((Itl K a).go i H/\∃N:YO,(∀ σ' H',N σ' H'->∃m',m' < m/\W (i+1) m' σ' H')/\∀x H',(Itl K a).yld i H x H'->g x U H' fun σ2 H2=>tb { D with nx:=N,ct:=N,bk:=D.nx } σ2 H2):=by
 refine⟨λi m U H=>m=xs.length - i/\i<=xs.length/\Pv i U H,⟨xs.length,by simp,Qcw _,h0⟩,?_⟩;rintro i m U H ⟨rfl,hi,p⟩;have q:=hl i U H hi p;by_cases hlt:i < xs.length
 ·refine .inr ⟨⟨xs,xs[i],q,by simp[hlt]⟩,Pv (i+1),fun σ' H' p'=>⟨xs.length - (i+1),by omega,rq,hlt,p'⟩,λx H' y=>?_⟩;obtain⟨e,y⟩:=y;subst e;exact hs i x U _ (y xs q) p
 ·have e:i=xs.length:=by omega
  subst e;exact .inl ⟨⟨xs,q,Qcv _⟩,hd U H p⟩
theorem Ly {K:YD} {a:Addr} {xs:YG} {g:TG} {tb:TS} {D:Ends} {U : St} {H:Hp} (Pv:YN) (h0:Pv 0 U H) (hl:∀i U H,i<=xs.length->Pv i U H->SqT K H a xs)
  (hs:∀i x U H,xs[i]?=some x->Pv i U H->g x U H fun σ2 H2=>tb { D with nx:=Pv (i+1),ct:=Pv (i+1),bk:=D.nx } σ2 H2) (hd:∀ U H,Pv xs.length U H->D.nx U H) :
  ∃W:Nat->YN,(∃m,W 0 m U H)/\∀i m U H,W i m U H ->
   ((Itt K a).stop i H/\D.nx U H)\/((Itt K a).go i H/\∃N:YO,(∀ σ' H',N σ' H'->∃m',m' < m/\W (i+1) m' σ' H')/\∀x H',(Itt K a).yld i H x H'->g x U H' fun σ2 H2=>tb { D with nx:=N,ct:=N,bk:=D.nx } σ2 H2):=by
 refine⟨λi m U H=>m=xs.length - i/\i<=xs.length/\Pv i U H,⟨xs.length,by simp,Qcw _,h0⟩,?_⟩;rintro i m U H ⟨rfl,hi,p⟩;have q:=hl i U H hi p;by_cases hlt:i < xs.length
 ·refine .inr ⟨⟨xs,xs[i],q,by simp[hlt]⟩,Pv (i+1),fun σ' H' p'=>⟨xs.length - (i+1),by omega,rq,hlt,p'⟩,λx H' y=>?_⟩;obtain⟨e,y⟩:=y;subst e;exact hs i x U _ (y xs q) p
 ·have e:i=xs.length:=by omega
  subst e;exact .inl ⟨⟨xs,q,Qcv _⟩,hd U H p⟩
theorem Fi {lo:Int} {n:Nat} {g:TG} {tb:TS} {D:Ends} {U : St} {H:Hp} (Pv:YN) (h0:Pv 0 U H)
  (hs:∀i U H,i < n->Pv i U H->g (.int (lo+i)) U H fun σ2 H2=>tb { D with nx:=Pv (i+1),ct:=Pv (i+1),bk:=D.nx } σ2 H2) (hd:∀ U H,Pv n U H->D.nx U H) :
  ∃W:Nat->YN,(∃m,W 0 m U H)/\∀i m U H,W i m U H ->
   ((Itr lo n).stop i H/\D.nx U H)\/((Itr lo n).go i H/\∃N:YO,(∀ σ' H',N σ' H'->∃m',m' < m/\W (i+1) m' σ' H')/\∀x H',(Itr lo n).yld i H x H'->g x U H' fun σ2 H2=>tb { D with nx:=N,ct:=N,bk:=D.nx } σ2 H2):=by
 refine⟨λi m U H=>m=n - i/\i<=n/\Pv i U H,⟨n,by simp,Qcw _,h0⟩,?_⟩;rintro i m U H ⟨rfl,hi,p⟩;by_cases hlt:i < n
 ·refine .inr ⟨hlt,Pv (i+1),fun σ' H' p'=>⟨n - (i+1),by omega,rq,hlt,p'⟩,λx H' y=>?_⟩;obtain⟨e,y⟩:=y;subst e y;exact hs i U _ hlt p
 ·have e:i=n:=by omega
  subst e;exact .inl ⟨Qcv _,hd U H p⟩
abbrev R2:=V->V->Hp->VK->Prop
def OpR (X:Cx) (f:Value->Value->Sem Value) (r:R2):Prop:=
 ∀(jb:YC) (s:Shared) (U : St) (H:Hp) (x y:V) (v u:Value) (Q:VK),H^^^s->RelV x v->RelV y u->r x y H Q ->
  ‹X› (f v u) (EP X jb U Q) X.xe s
def UnR (X:Cx) (f:Value->Sem Value) (r:V->Hp->VK->Prop):Prop:=
 ∀(jb:YC) (s:Shared) (U : St) (H:Hp) (x:V) (v:Value) (Q:VK),H^^^s->RelV x v->r x H Q ->
  ‹X› (f v) (EP X jb U Q) X.xe s
def Ft (X:Cx) (f:Value) (r:YG->Hp->VK->Prop):Prop:=
 ∀(jb:YC) (s:Shared) (U : St) (H:Hp) (xs:YG) (us:YE) (Q:VK),H^^^s->Vals xs us->r xs H Q ->
  ‹X› (call f us) (EP X jb U Q) X.xe s
def Su (X:Cx) (r:V->Hp->(Bool->Hp->Prop)->Prop):Prop:=
 ∀(jb:YC) (s:Shared) (U : St) (H:Hp) (x:V) (v:Value) (Q:Bool->Hp->Prop),H^^^s->RelV x v->r x H Q ->
  ‹X› (truthy v) (TP X jb U Q) X.xe s
def tOp (r:R2) (ta tb:TE):TE:=fun U H Q=>ta U H λx H1=>tb U H1 λy H2=>r x y H2 Q
def tUn (r:V->Hp->VK->Prop) (ta:TE):TE:=fun U H Q=>ta U H λx H1=>r x H1 Q
inductive rI (C:Int->Int->Prop) (g:Int->Int->V) (x:V) (y:V) (H:Hp) (Q:VK):Prop
 | mk (i:Int) (j:Int) (_:x=.int i) (_:y=.int j) (_:C i j) (_:Q (g i j) H):rI C g x y H Q
inductive rI0 (g:Int->Int->V) (x:V) (y:V) (H:Hp) (Q:VK):Prop
 | mk (i:Int) (j:Int) (_:x=.int i) (_:y=.int j) (_:Q (g i j) H):rI0 g x y H Q
inductive rU (g:Int->V) (x:V) (H:Hp) (Q:VK):Prop
 | mk (i:Int) (_:x=.int i) (_:Q (g i) H):rU g x H Q
section
variable {X:Cx} {a b c:Expr} {ta tb tc:TE} {pos:Pos}
theorem yx (ha:PE X a ta) (hb:PE X b tb) {jb:YC} {s:Shared} {U : St} {H:Hp} {R:V->V->Hp->Prop} (I:H^^^s)
  (h:ta U H λx H1=>tb U H1 λy H2=>R x y H2) {Q:YA} {f:Value->Value->Sem Value}
  (hf:∀v u s2 x y H2,H2^^^s2->RelV x v->RelV y u->R x y H2->‹X› (f v u) Q X.xe s2) :
  ‹X› (eval a X.env) (λv s₁=>‹X› (eval b X.env) (λu s₂=>‹X› (f v u) Q X.xe s₂) X.xe s₁) X.xe s:=by
 refine thn (ha jb s U H _ I h) λv s1 zz=>?_;obtain⟨x,H1,I1,r1,q1⟩:=zz;refine thn (hb jb s1 U H1 _ I1 q1) λu s2 zz=>?_;obtain⟨y,H2,I2,r2,q2⟩:=zz;exact hf v u s2 x y H2 I2 r1 r2 q2
theorem Bf {op:Operator} {r:R2} (ho:OpR X (binaryOp op) r) (ha:PE X a ta) (hb:PE X b tb):PE X (.BinOp a op b pos) (tOp r ta tb):=by
 intros Q I h;exact wpAny_BinOp (yx ha hb I h λv u s2 x y H2 I2 rx ry q=>ho jb s2 U H2 x y v u Q I2 rx ry q)
theorem Wu {op:UnaryOp} {r:V->Hp->VK->Prop} (ho:UnR X (unaryOp op) r) (ha:PE X a ta):PE X (.UnaryOp op a pos) (tUn r ta):=by
 intros Q I h;refine UnaryOp_ (thn (ha jb s U H _ I h) λv s1 zz=>?_);obtain⟨x,H1,I1,r1,q1⟩:=zz;exact ho jb s1 U H1 x v Q I1 r1 q1
theorem opI {f:Value->Value->Sem Value} {C:Int->Int->Prop} {g:Int->Int->Int}
  (rule:∀(i j:Int) (t u:Tok) (s:Shared) (Q:YA) (E:YA),C i j->Q (.int (g i j) s.toks) { s with toks:=s.toks+1 }->‹X› (f (.int i t) (.int j u)) Q E s) :
  OpR X f (rI C λi j=>.int (g i j)):=by
 intros x y v u Q I rx ry h;obtain⟨i,j,rfl,rfl,hc,q⟩:=h;obtain⟨t,rfl⟩:=rx;obtain⟨t',rfl⟩:=ry;exact rule i j t t' s _ _ hc ⟨.int (g i j),H,I.tok _,⟨_,rq⟩,q⟩
theorem CU {f:Value->Value->Sem Value} {g:Int->Int->Int}
  (rule:∀(i j:Int) (t u:Tok) (s:Shared) (Q:YA) (E:YA),Q (.int (g i j) s.toks) { s with toks:=s.toks+1 }->‹X› (f (.int i t) (.int j u)) Q E s) :
  OpR X f (rI0 λi j=>.int (g i j)):=by
 intros x y v u Q I rx ry h;obtain⟨i,j,rfl,rfl,q⟩:=h;obtain⟨t,rfl⟩:=rx;obtain⟨t',rfl⟩:=ry;exact rule i j t t' s _ _ ⟨.int (g i j),H,I.tok _,⟨_,rq⟩,q⟩
theorem mj {f:Value->Value->Sem Value} {g:Int->Int->Bool}
  (rule:∀(i j:Int) (t u:Tok) (s:Shared) (Q:YA) (E:YA),Q (.bool (g i j)) s->‹X› (f (.int i t) (.int j u)) Q E s) :
  OpR X f (rI0 λi j=>.bl (g i j)):=by
 intros x y v u Q I rx ry h;obtain⟨i,j,rfl,rfl,q⟩:=h;obtain⟨t,rfl⟩:=rx;obtain⟨t',rfl⟩:=ry;exact rule i j t t' s _ _ ⟨.bl (g i j),H,I,rq,q⟩
def SD (i j:Int):Prop:=0 < j/\j < 1073741824
def SC (i j:Int):Prop:=0<=j/\j<=1000000/\i.natAbs < 2 ^ 64
def oU (i j:Int):Prop:=(-(2 ^ 64) < i/\i < 2 ^ 64)\/(-(2 ^ 64) < j/\j < 2 ^ 64)
theorem oU.ok {i j:Int} (h:oU i j):IntMulOk i j:=by
 rcases h with⟨h1,h2⟩|⟨h1,h2⟩
 ·exact .of_left (intBits_le_64 h1 h2)
 ·exact .of_right (intBits_le_64 h1 h2)
theorem CG:OpR X (binaryOp .Add) (rI0 λi j=>.int (i+j)):=CU λ_ _ _ _ _ _ _ q=>add_int q
theorem CM:OpR X (binaryOp .Sub) (rI0 λi j=>.int (i - j)):=CU λ_ _ _ _ _ _ _ q=>sub_int q
theorem Ji:OpR X (binaryOp .Mult) (rI oU λi j=>.int (i*j)):=opI λ_ _ _ _ _ _ _ hc q=>mul_int q hc.ok
theorem Yq:OpR X (binaryOp .FloorDiv) (rI SD λi j=>.int (i / j)):=opI λi j _ _ _ _ _ hc q=>by
 have h1:(0:Int) < j:=hc.1;have h2:j < 1073741824:=hc.2;exact floordiv_int (by omega) (by rw[Int.fdiv_eq_ediv_of_nonneg i (by omega)];exact q) (.inl (PyProof.noPylong_small (by omega)))
theorem M6:OpR X (binaryOp .Mod) (rI (λ_ j=>0 < j) λi j=>.int (i % j)):=opI λi j _ _ _ _ _ hc q=>by
 have h1:(0:Int) < j:=hc;exact mod_int' (by omega) (by rw[Int.fmod_eq_emod_of_nonneg i (by omega)];exact q)
theorem p8:OpR X (binaryOp .Pow) (rI SC λi j=>.int (i ^ j.toNat)):=opI λ_ _ _ _ _ _ _ hc q=>pow_int_small hc.1 hc.2.1 hc.2.2 q
theorem unI {f:Value->Sem Value} {g:Int->Int}
  (rule:∀(i:Int) (t:Tok) (s:Shared) (Q:YA) (E:YA),Q (.int (g i) s.toks) { s with toks:=s.toks+1 }->‹X› (f (.int i t)) Q E s) :
  UnR X f (rU λi=>.int (g i)):=by
 intros x v Q I rx h;obtain⟨i,rfl,q⟩:=h;obtain⟨t,rfl⟩:=rx;exact rule i t s _ _ ⟨.int (g i),H,I.tok _,⟨_,rq⟩,q⟩
theorem RT:UnR X (unaryOp .USub) (rU λi=>.int (-i)):=unI λ_ _ _ _ _ q=>neg_int q
end
def Cl:V->V->Bool
 | .non,.non=>true | .non,.int _=>true | .int _,.non=>true | .non,.bl _=>true | .bl _,.non=>true | .non,.str _=>true | .str _,.non=>true
 | .int _,.int _=>true | .bl _,.bl _=>true | .str _,.str _=>true | .byt _,.byt _=>true
 | .int _,.str _=>true | .str _,.int _=>true | .bl _,.str _=>true | .str _,.bl _=>true
 | _,_=>false
def rEq:R2:=λx y H Q=>Cl x y=true/\Q (.bl (decide (x=y))) H
def rNe:R2:=λx y H Q=>Cl x y=true/\Q (.bl (!decide (x=y))) H
theorem jV {i j:Int}:decide (V.int i=V.int j)=(i == j):=by
 rw[QbR];simp
theorem rR {i j:Bool}:decide (V.bl i=V.bl j)=(i == j):=by
 rw[QbR];simp
theorem jU {i j:Str}:decide (V.str i=V.str j)=(i == j):=by
 rw[QbR];simp
theorem jW {i j:Array UInt8}:decide (V.byt i=V.byt j)=(i.toList == j.toList):=by
 rw[QbR];cases i;cases j;simp
section
variable {X:Cx} {a b c:Expr} {ta tb tc:TE} {pos:Pos}
theorem Ca {jb:YC} {U : St} {H:Hp} {s:Shared} {Q:VK} {k k':Bool} (I:H^^^s) (q:Q (.bl k) H) (e:k=k'):EP X jb U Q (.bool k') s:=by
 subst e;exact⟨.bl k,H,I,rq,q⟩
theorem Js:OpR X (compareOp .Eq) rEq:=by
 intros x y v u Q I rx ry h;obtain⟨hs,q⟩:=h;cases x with
 | non=>
  cases rx;cases y with
  | non=>cases ry;exact PySem.EqNone.eq_none_none (Ca I q (by simp))
  | bl j=>cases ry;exact PySem.EqNone.eq_none_bool (Ca I q (by simp))
  | int j=>obtain⟨t',rfl⟩:=ry;exact PySem.EqNone.eq_none_int (Ca I q (by simp))
  | str j=>obtain⟨t',rfl⟩:=ry;exact PySem.EqNone.eq_none_str (Ca I q (by simp))
  | _=>exact absurd (show false=true from hs) QaZ
 | bl i=>
  cases rx;cases y with
  | non=>cases ry;exact PySem.EqNone.eq_bool_none (Ca I q (by simp))
  | bl j=>cases ry;exact eq_bool (Ca I q rR)
  | str j=>obtain⟨t',rfl⟩:=ry;exact PySem.EqMixed.eq_bool_str (Ca I q (by simp))
  | _=>exact absurd (show false=true from hs) QaZ
 | int i=>
  obtain⟨t,rfl⟩:=rx;cases y with
  | non=>cases ry;exact PySem.EqNone.eq_int_none (Ca I q (by simp))
  | int j=>obtain⟨t',rfl⟩:=ry;exact eq_int (Ca I q jV)
  | str j=>obtain⟨t',rfl⟩:=ry;exact PySem.EqMixed.eq_int_str (Ca I q (by simp))
  | _=>exact absurd (show false=true from hs) QaZ
 | str i=>
  obtain⟨t,rfl⟩:=rx;cases y with
  | non=>cases ry;exact PySem.EqNone.eq_str_none (Ca I q (by simp))
  | bl j=>cases ry;exact PySem.EqMixed.eq_str_bool (Ca I q (by simp))
  | int j=>obtain⟨t',rfl⟩:=ry;exact PySem.EqMixed.eq_str_int (Ca I q (by simp))
  | str j=>obtain⟨t',rfl⟩:=ry;exact eq_str (Ca I q jU)
  | _=>exact absurd (show false=true from hs) QaZ
 | byt i=>
  obtain⟨t,rfl⟩:=rx;cases y with
  | byt j=>obtain⟨t',rfl⟩:=ry;exact PySem.W.eq_bytes (Ca I q jW)
  | _=>exact absurd (show false=true from hs) QaZ
 | _=>cases y <;> exact absurd (show false=true from hs) QaZ
theorem Wz:OpR X (compareOp .NotEq) rNe:=by
 intros x y v u Q I rx ry h;obtain⟨hs,q⟩:=h;cases x with
 | non=>
  cases rx;cases y with
  | non=>cases ry;exact PySem.EqNone.ne_none_none (Ca I q (by simp))
  | bl j=>cases ry;exact PySem.EqNone.ne_none_bool (Ca I q (by simp))
  | int j=>obtain⟨t',rfl⟩:=ry;exact PySem.EqNone.ne_none_int (Ca I q (by simp))
  | str j=>obtain⟨t',rfl⟩:=ry;exact PySem.EqNone.ne_none_str (Ca I q (by simp))
  | _=>exact absurd (show false=true from hs) QaZ
 | bl i=>
  cases rx;cases y with
  | non=>cases ry;exact PySem.EqNone.ne_bool_none (Ca I q (by simp))
  | bl j=>cases ry;exact ne_bool (Ca I q (congrArg not rR))
  | str j=>obtain⟨t',rfl⟩:=ry;exact PySem.EqMixed.ne_bool_str (Ca I q (by simp))
  | _=>exact absurd (show false=true from hs) QaZ
 | int i=>
  obtain⟨t,rfl⟩:=rx;cases y with
  | non=>cases ry;exact PySem.EqNone.ne_int_none (Ca I q (by simp))
  | int j=>obtain⟨t',rfl⟩:=ry;exact ne_int (Ca I q (congrArg not jV))
  | str j=>obtain⟨t',rfl⟩:=ry;exact PySem.EqMixed.ne_int_str (Ca I q (by simp))
  | _=>exact absurd (show false=true from hs) QaZ
 | str i=>
  obtain⟨t,rfl⟩:=rx;cases y with
  | non=>cases ry;exact PySem.EqNone.ne_str_none (Ca I q (by simp))
  | bl j=>cases ry;exact PySem.EqMixed.ne_str_bool (Ca I q (by simp))
  | int j=>obtain⟨t',rfl⟩:=ry;exact PySem.EqMixed.ne_str_int (Ca I q (by simp))
  | str j=>obtain⟨t',rfl⟩:=ry;exact ne_str (Ca I q (congrArg not jU))
  | _=>exact absurd (show false=true from hs) QaZ
 | byt i=>
  obtain⟨t,rfl⟩:=rx;cases y with
  | byt j=>obtain⟨t',rfl⟩:=ry;exact PySem.W.ne_bytes (Ca I q (congrArg not jW))
  | _=>exact absurd (show false=true from hs) QaZ
 | _=>cases y <;> exact absurd (show false=true from hs) QaZ
theorem WD:OpR X (compareOp .Lt) (rI0 λi j=>.bl (decide (i < j))):=mj λ_ _ _ _ _ _ _ q=>lt_int q
theorem Mp:OpR X (compareOp .LtE) (rI0 λi j=>.bl (decide (i<=j))):=mj λ_ _ _ _ _ _ _ q=>le_int q
theorem WL:OpR X (compareOp .Gt) (rI0 λi j=>.bl (decide (j < i))):=mj λ_ _ _ _ _ _ _ q=>gt_int q
theorem FS:OpR X (compareOp .GtE) (rI0 λi j=>.bl (decide (j<=i))):=mj λ_ _ _ _ _ _ _ q=>ge_int q
theorem qd:OpR X (compareOp .In) (λx y H Q=>∃i j,x=.str i/\y=.str j/\Q (.bl (!(Builtin.Str.occurrences j i 0 j.length 1).isEmpty)) H):=by
 intros x y v u Q I rx ry h;obtain⟨i,j,rfl,rfl,q⟩:=h;obtain⟨t,rfl⟩:=rx;obtain⟨t',rfl⟩:=ry;exact in_str (Ca I q rfl)
theorem qb:OpR X (compareOp .Is) (λx y H Q=>y=.non/\Q (.bl (decide (x=.non))) H):=by
 intros x y v u Q I rx ry h;obtain⟨rfl,q⟩:=h;cases ry;refine is_none_gen (Ca I q ?_);cases x <;> first
  | (cases rx;rfl)
  | (obtain⟨t,rfl⟩:=rx;rfl)
theorem jB:OpR X (compareOp .IsNot) (λx y H Q=>y=.non/\Q (.bl (!decide (x=.non))) H):=by
 intros x y v u Q I rx ry h;obtain⟨rfl,q⟩:=h;cases ry;refine isnot_none_gen (Ca I q ?_);cases x <;> first
  | (cases rx;rfl)
  | (obtain⟨t,rfl⟩:=rx;rfl)
theorem Bv (b:Expr) {op:CmpOp} (h:op≠.In:=by decide) (h2:op≠.NotIn:=by decide):behindInMarks op b=false:=by
 have e1:(op == CmpOp.In)=false:=by cases op <;> first | rfl | exact absurd rfl h
 have e2:(op == CmpOp.NotIn)=false:=by cases op <;> first | rfl | exact absurd rfl h2
 cases b <;> simp[behindInMarks,e1,e2]
theorem G4 {op:CmpOp} {r:R2} (ho:OpR X (compareOp op) r) (ha:PE X a ta) (hb:PE X b tb) (hm:behindInMarks op b=false):PE X (.Compare a [op] [b] pos) (tOp r ta tb):=by
 intros Q I h;exact wpAny_Compare1 (yx ha hb I h λv u s2 x y H2 I2 rx ry q=>ho jb s2 U H2 x y v u Q I2 rx ry q) hm
inductive TBl (x:V) (H':Hp) (Q:Bool->Hp->Prop):Prop
 | mk (k:Bool) (_:x=.bl k) (_:Q k H'):TBl x H' Q
def Fn (t:TE):TT:=fun U H Q=>t U H λx H'=>TBl x H' Q
theorem Br {op:CmpOp} {r:R2} (ho:OpR X (compareOp op) r) (ha:PE X a ta) (hb:PE X b tb) (hm:behindInMarks op b=false):PT X (.Compare a [op] [b] pos) (Fn (tOp r ta tb)):=by
 intros Q I h;refine wpAny_isTrue_Compare1 (thn (ha jb s U H _ I h) λv s1 ⟨x,H1,I1,r1,q1⟩=>thn (hb jb s1 U H1 _ I1 q1) λu s2 ⟨y,H2,I2,r2,q2⟩=>
  thn (ho jb s2 U H2 x y v u _ I2 r1 r2 q2) λc s3 ⟨z,H3,I3,r3,k,e,q3⟩=>?_) hm
 subst e;cases r3;exact Qbq ⟨H3,I3,q3⟩
def B4 (r r':R2) (ta tb tc:TE):TE:=fun U H Q=>ta U H λx H1=>tb U H1 λy H2=>r x y H2 λz H3=>∃k,z=.bl k /\
 (if k=true then tc U H3 λw' H4=>r' y w' H4 Q else Q (.bl false) H3)
theorem Ov {op op':CmpOp} {r r':R2} (ho:OpR X (compareOp op) r) (ho':OpR X (compareOp op') r') (ha:PE X a ta) (hb:PE X b tb) (hc:PE X c tc)
  (hm:lastMarks [op,op'] [b,c]=false:=by with_unfolding_all rfl):PE X (.Compare a [op,op'] [b,c] pos) (B4 r r' ta tb tc):=by
 intros Q I h;refine Compare_chain (thn (ha jb s U H _ I h) λv s1 ⟨x,H1,I1,r1,q1⟩=>chain_link (thn (hb jb s1 U H1 _ I1 q1) λu s2 ⟨y,H2,I2,r2,q2⟩=>
  thn (ho jb s2 U H2 x y v u _ I2 r1 r2 q2) λd s3 ⟨z,H3,I3,r3,k,e,q3⟩=>?_)) hm
 subst e;cases r3;refine Qbq ?_;cases k with
 | false=>exact ite_ff ⟨.bl false,H3,I3,rfl,q3⟩
 | true=>exact ite_tt (chain_last (thn (hc jb s3 U H3 _ I3 q3) λw' s4 ⟨z',H4,I4,r4,q4⟩=>ho' jb s4 U H4 y z' u w' Q I4 r2 r4 q4))
def E8 (K:YD) (x:V) (H:Hp) (k:Bool):Prop:=
 match x with
 | .non=>k=false
 | .bl b=>k=b
 | .int i=>k=(i != 0)
 | .str y=>y.length<=sizeLine/\k=((y.length:Int) != 0)
 | .byt y=>y.size<=sizeLine/\k=((y.size:Int) != 0)
 | .ref p=>(∃xs,SqL K H p xs/\k=!xs.isEmpty)\/(∃xs,SqT K H p xs/\k=!xs.isEmpty)\/∃kvs,H p=some (.dK kvs)/\k=!kvs.isEmpty
 | _=>False
theorem nA {κ : Type} {kvs:List (κ×V)} {vs:List (κ×Value)} (r:KV kvs vs):(!vs.isEmpty)=!kvs.isEmpty:=by
 cases r <;> rfl
theorem Ri {xs:YG} {its:YE} (r:Vals xs its):(!its.toArray.isEmpty)=!xs.isEmpty:=by
 cases r <;> simp
theorem M7:(sizeLine:Nat) < 2 ^ 63:=by rw[Qcz];decide
theorem BN:Su X (λx H Q=>∃k,E8 X.K x H k/\Q k H):=by
 intros x v Q I rx h;obtain⟨k,e,q⟩:=h;have hl:=M7;have hs:sizeLine=16777216:=Qcz;cases x with
 | non=>
  cases rx;have e':k=false:=e;subst e';exact truthy_none ⟨H,I,q⟩
 | bl b=>
  cases rx;have e':k=b:=e;subst e';exact Qbq ⟨H,I,q⟩
 | int i=>
  obtain⟨t,rfl⟩:=rx;have e':k=(i != 0):=e;subst e';exact PySem.P.truthy_int ⟨H,I,q⟩
 | str y=>
  obtain⟨t,rfl⟩:=rx;obtain⟨hy,e'⟩ : y.length<=sizeLine/\k=((y.length:Int) != 0):=e;subst e';exact PySem.P.truthy_str (by omega) ⟨H,I.tok _,q⟩
 | byt y=>
  obtain⟨t,rfl⟩:=rx;obtain⟨hy,e'⟩ : y.size<=sizeLine/\k=((y.size:Int) != 0):=e;subst e';exact PySem.W.truthy_bytes (by omega) ⟨H,I.tok _,q⟩
 | ref p=>
  cases rx;have e':(∃xs,SqL X.K H p xs/\k=!xs.isEmpty)\/(∃xs,SqT X.K H p xs/\k=!xs.isEmpty)\/∃kvs,H p=some (.dK kvs)/\k=!kvs.isEmpty:=e;rcases e' with⟨xs,hx,e'⟩|⟨xs,hx,e'⟩|⟨kvs,hx,e'⟩
  ·subst e';obtain⟨its,r,pl,hz⟩:=I.list hx;have hlen:=r.length;exact wpAny_truthy_list pl.isList (by simp only[Qbl];omega) ⟨H,I.tok _,by rw[Ri r];exact q⟩
  ·subst e';obtain⟨its,r,pl,hz⟩:=I.tuple hx;have hlen:=r.length;exact truthy_tuple pl (by simp only[Qbl];omega) ⟨H,I.tok _,by rw[Ri r];exact q⟩
  ·subst e';obtain⟨hz,hS,vs,r,m⟩ : kvs.length<=sizeLine/\(p == sysModules)=false/\∃vs,KV kvs vs/\s.heap.DictOf (Dm X.prog X.w) p vs:=I.hok p _ hx;have hlen:kvs.length=vs.length:=Qcc r;exact wpAny_truthy_dict hS m (by omega) ⟨H,I.tok _,by rw[nA r];exact q⟩
 | _=>exact (show False from e).elim
theorem vo (ha:PE X a ta) (he:∀whole,isTrue a X.env whole=(do let v <-whole;standAt a.pos;holding [v] (truthy v))) :
  PT X a (fun U H Q=>ta U H λx H'=>∃k,E8 X.K x H' k/\Q k H'):=by
 intros Q I h;refine isTrue_plain (thn (ha jb s U H _ I h) λv s1 zz=>?_) (he _);obtain⟨x,H1,I1,r1,q1⟩:=zz;exact BN jb s1 U H1 x v Q I1 r1 q1
theorem WM:OpR X (binaryOp .Add) (λx y H Q=>∃i j,x=.str i/\y=.str j/\i.length+j.length<=sizeLine/\Q (.str (i++j)) H):=by
 intros x y v u Q I rx ry h;obtain⟨i,j,rfl,rfl,hz,q⟩:=h;obtain⟨t,rfl⟩:=rx;obtain⟨t',rfl⟩:=ry;exact add_str (λt' tk=>⟨.str (i++j),H,I.tok _,⟨_,rq⟩,q⟩) hz
theorem vals1 {x:V} {us:YE} (r:Vals [x] us):∃u,us=[u]/\RelV x u:=by
 cases r with
 | cons r1 r2=>cases r2;exact⟨_,rfl,r1⟩
theorem vals2 {x y:V} {us:YE} (r:Vals [x,y] us):∃u w',us=[u,w']/\RelV x u/\RelV y w':=by
 cases r with
 | cons r1 r2=>
  cases r2 with
  | cons r3 r4=>cases r4;exact⟨_,_,rfl,r1,r3⟩
theorem fV:Ft X (.builtin "abs") (λxs H Q=>∃i,xs=[.int i]/\Q (.int (if i < 0 then -i else i)) H):=by
 intros xs us Q I r h;obtain⟨i,rfl,q⟩:=h;obtain⟨u,rfl,t,rfl⟩:=vals1 r;exact call_abs_int λu tk=>⟨.int (if i < 0 then -i else i),H,I.tok _,⟨_,rq⟩,q⟩
theorem sO (hc:X.calm=true):Ft X (.builtin "max") (λxs H Q=>∃i j,xs=[.int i,.int j]/\Q (.int (if j > i then j else i)) H):=by
 intros xs us Q I r h;obtain⟨i,j,rfl,q⟩:=h;obtain⟨u,w',rfl,⟨t,rfl⟩,⟨t',rfl⟩⟩:=vals2 r;refine max_two_ints (I.ok.hd hc) λh' tk k=>⟨_,H,I.kept k,?_,q⟩;by_cases hj:j > i
 ·rw[if_pos hj,if_pos hj];exact⟨_,rq⟩
 ·rw[if_neg hj,if_neg hj];exact⟨_,rq⟩
theorem PJ (hc:X.calm=true):Ft X (.builtin "min") (λxs H Q=>∃i j,xs=[.int i,.int j]/\Q (.int (if j < i then j else i)) H):=by
 intros xs us Q I r h;obtain⟨i,j,rfl,q⟩:=h;obtain⟨u,w',rfl,⟨t,rfl⟩,⟨t',rfl⟩⟩:=vals2 r;refine min_two_ints (I.ok.hd hc) λh' tk k=>⟨_,H,I.kept k,?_,q⟩;by_cases hj:j < i
 ·rw[if_pos hj,if_pos hj];exact⟨_,rq⟩
 ·rw[if_neg hj,if_neg hj];exact⟨_,rq⟩
theorem tH:Ft X (.type "int") (λxs H Q=>(∃i,xs=[.int i]/\Q (.int i) H)\/∃k,xs=[.bl k]/\Q (.int (if k then 1 else 0)) H):=by
 intros xs us Q I r h;rcases h with⟨i,rfl,q⟩|⟨k,rfl,q⟩
 ·obtain⟨u,rfl,t,rfl⟩:=vals1 r;exact call_int_int ⟨.int i,H,I,⟨_,rq⟩,q⟩
 ·obtain⟨u,rfl,r1⟩:=vals1 r;cases r1;exact call_int_bool ⟨.int (if k then 1 else 0),H,I.tok _,⟨_,rq⟩,q⟩
end
structure V5 (h:Heap) (x dx C:Addr) (mA:YB):Prop where
 obj:h.get? x=some (instObj C dx)
 ns:h.Ns1 dx mA
 ne:dx≠x
theorem qH {h:Heap} {dx:Addr} {mA:YB} (n:h.Ns1 dx mA):∃od,h.get? dx=some od/\∀name,lookIn name od=some (mA name):=by
 obtain⟨o,es,ep,ho,hd,hk,_,hm⟩:=n;refine⟨o,ho,λname=>?_⟩;have e:=hm name;unfold nsFind findBy at e;rw[<-Array.find?_toList] at e;unfold lookIn;rw[hd];dsimp only;split
 ·rename_i y q;rw[q] at e;exact congrArg some e
 ·rename_i q;rw[q] at e;have a:es.toList.any (·.refKey)=false:=by
   rw[List.any_eq_false];intro y hy;obtain⟨z,t,hkey⟩:=hk y (Array.mem_toList_iff.mp hy);simp[DictEntry.refKey,hkey]
  have a':¬es.toList.any (·.refKey)=true:=by rw[a];exact QaZ
  rw[if_neg a'];exact congrArg some e
theorem V5.look {h:Heap} {x dx C:Addr} {mA:YB} (I:V5 h x dx C mA):∃od,PySem.W.InstAt h x (instObj C dx) C (some od)/\∀name,lookIn name od=some (mA name):=
 let ⟨od,ho,hl⟩:=qH I.ns
 ⟨od,⟨I.obj,rq,rq,ho⟩,hl⟩
section
variable {prog:Program} {w:World} {A:Around} {E:YA} {s:Shared} {K:YD} {x dx C f:Addr} {mA:YB} {name:Str} {v:Value}
theorem get_map {expr:Bool} {Q:YA} (X:K.In s.heap) (I:V5 s.heap x dx C mA) (hg:plainGet K C name=true) (hh:hasDictIn K C=true)
  (ha:findIn K (.ref C) name=some none) (hv:mA name=some v) (hv':PySem.W.handedIn v=true) (h:Q v { s with toks:=s.toks+1 }) :
  wpAny (model prog w) A (getAttr (.ref x) name expr) Q E s:=by
 obtain⟨od,J,hl⟩:=I.look;exact PySem.W.get_value X J (PySem.W.plainGet_of hg).1 (PySem.W.findObj_own hh ha rfl (by rw[hl,hv])) hv' h
theorem xZ {pl:Sem Bool} {Q:Value×YE->Shared->Prop} (X:K.In s.heap) (I:V5 s.heap x dx C mA) (hg:plainGet K C name=true)
  (hf:findIn K (.ref C) name=some (some (.ref f))) (ht:isFn K (.ref f)=true) (hv:mA name=none) (h:Q (.ref f,[.ref x]) s) :
  wpAny (model prog w) A (getMethod (.ref x) name pl) Q E s:=by
 obtain⟨od,J,hl⟩:=I.look;exact PySem.W.method_fn X J (PySem.W.plainGet_of hg).1 (PySem.W.plainGet_of hg).2 hf (beq_iff_eq.mp ht) (by show (lookIn name od).map (·.isSome)=some false;rw[hl,hv];rfl) h
theorem zZ {ns:YF} {Q:YH} (X:K.In s.heap) (I:V5 s.heap x dx C mA)
  (hs:findIn K (.ref C) "__setattr__"=some (some (.builtin "object.__setattr__"))) (hp:PySem.W.plainOver K C=true) (ht:PySem.W.takerIn K C name=some none) (hh:hasDictIn K C=true)
  (hw:PySem.Within mA ns) (hsz:ns.length<=sizeLine)
  (h:∀h',V5 h' x dx C (λy=>if y=name then some v else mA y)->Heap.SameBut dx s.heap h'->Q () { s with heap:=h',toks:=s.toks+2 }) :
  wpAny (model prog w) A (setAttr (.ref x) name v) Q E s:=by
 obtain⟨od,J,hl⟩:=I.look;refine PySem.W.set_plain X J hs (PySem.W.osa_open (s:={ s with toks:=s.toks+1 }) (r:=none) X J hp ht λb=>?_);obtain⟨cd,hc,hd'⟩:=PySem.W.any_some hh;have hx:s.heap.get? x=some ⟨.ref C,some dx,.plain,#[]⟩:=I.obj;refine QcC (QcD (QcC (QcC (wpAny_loadPart hx (QcC (PySem.W.Looks.here (s:={ s with toks:=s.toks+1 }) (PySem.W.looks_clsIn X hc) ?_))))));rw[hd'];refine QcD (a:=some dx) (QcC (QcD (QcC ?_)));refine wpAny_nsSet1 (s:={ s with toks:=s.toks+1 }) I.ns λh' hn2 hs2=>?_;obtain⟨oD,esD,epD,hoD,hdD,hcD⟩:=hn2.count (PySem.Within.cons name v hw);refine QcC (wpAny_lookBehind hoD (by rw[hdD];exact pastItsLine_dict (Qco hcD (by rw[Qbz];omega))) ?_);exact QcD (h _ ⟨(hs2.2 _ (Ne.symm I.ne)).trans I.obj,hn2,I.ne⟩ hs2)
theorem dG {R:Result->Shared->Prop} {vs:YE} {kw:List (Str×Value)} (X:K.In s.heap) (hm:makesIn K C=true)
  (hi:findIn K (.ref C) "__init__"=some (some (.ref f))) (hf:PySem.W.typeIn K (.ref f)=some (.type "function"))
  (h:codeAny (model prog w) (A.under (.builtin "type.__call__" ⟨.ref C::vs,kw⟩)) (.call (.ref f) ⟨.ref (∅+1)::vs,kw⟩) (PySem.W.InitBack (∅+1) R)
   { s with heap:=(s.heap.push emptyDict).push (instObj C ∅) }) :
  codeAny (model prog w) A (.call (.ref C) ⟨vs,kw⟩) R s:=by
 obtain⟨hh,g,d,t,os⟩:=s;exact PySem.W.make_core (PySem.W.makes_of X hm) (looks_findIn X hi) (λself=>PySem.W.bind_fn X self hf) (.inl rfl) h
end
def Im (f:Str) (v:V):List (Str×V)->List (Str×V)
 | []=>[(f,v)]
 | (g,x)::r=>if g=f then (g,v)::r else (g,x)::Im f v r
theorem U8 (f g:Str) (v:V):∀fs:List (Str×V),(Im f v fs).lookup g=if g=f then some v else fs.lookup g
 | []=>by
  show List.lookup g [(f,v)]=_;by_cases h:g=f
  ·have hb:(g == f)=true:=beq_iff_eq.mpr h;simp only[List.lookup,hb,if_pos h]
  ·have hb:(g == f)=false:=QaO.mpr h;simp only[List.lookup,hb,if_neg h]
 | (k,x)::r=>by
  have ih:=U8 f g v r;rw[show Im f v ((k,x)::r)=(if k=f then (k,v)::r else (k,x)::Im f v r) from rfl]
  by_cases hk:k=f
  ·rw[if_pos hk];by_cases h:g=k
   ·have hb:(g == k)=true:=beq_iff_eq.mpr h;simp only[List.lookup,hb,if_pos (h.trans hk)]
   ·have hb:(g == k)=false:=QaO.mpr h;simp only[List.lookup,hb,if_neg (λe:g=f=>h (e.trans hk.symm))]
  ·rw[if_neg hk];by_cases h:g=k
   ·have hb:(g == k)=true:=beq_iff_eq.mpr h;simp only[List.lookup,hb,if_neg (λe:g=f=>hk (h.symm.trans e))]
   ·have hb:(g == k)=false:=QaO.mpr h;simp only[List.lookup,hb];exact ih
theorem Tc (f:Str) (v:V):∀fs:List (Str×V),f∈(Im f v fs).map (·.1)/\∀g,g∈fs.map (·.1)->g∈(Im f v fs).map (·.1)
 | []=>⟨by simp[Im],λg h=>by simp at h⟩
 | (k,x)::r=>by
  obtain⟨i1,i2⟩:=Tc f v r;rw[show Im f v ((k,x)::r)=(if k=f then (k,v)::r else (k,x)::Im f v r) from rfl]
  by_cases hk:k=f
  ·rw[if_pos hk];subst hk;exact⟨by simp,λg h=>by simpa using h⟩
  ·rw[if_neg hk];refine⟨?_,λg h=>?_⟩
   ·rw[Qce];exact QaJ _ i1
   ·rw[Qce] at h ⊢;rcases Qcd.mp h with e | e
    ·exact Qcd.mpr (.inl e)
    ·exact QaJ _ (i2 g e)
theorem U9 (f:Str) (v:V):∀fs:List (Str×V),(Im f v fs).length<=fs.length+1
 | []=>by simp[Im]
 | (k,x)::r=>by
  have ih:=U9 f v r;rw[show Im f v ((k,x)::r)=(if k=f then (k,v)::r else (k,x)::Im f v r) from rfl]
  by_cases hk:k=f
  ·rw[if_pos hk,Qbz,Qbz];omega
  ·rw[if_neg hk,Qbz,Qbz];omega
theorem Ip.some_of {v:V} {o:Option Value} (r:Ip (some v) o):∃u,o=some u/\RelV v u:=by
 cases o with
 | none=>exact (show False from r).elim
 | some u=>exact⟨u,rfl,r⟩
theorem Ip.none_of {o:Option Value} (r:Ip none o):o=none:=by
 cases o with
 | none=>rfl
 | some u=>exact (show False from r).elim
theorem qU {v:V} {u:Value} (r:RelV v u):PySem.W.handedIn u=true:=by
 cases v with
 | non=>cases (show u=Value.none from r);rfl
 | bl b=>cases (show u=Value.bool b from r);rfl
 | int i=>obtain⟨t,e⟩:=(show ∃t,u=Value.int i t from r);cases e;rfl
 | str x=>obtain⟨t,e⟩:=(show ∃t,u=Value.str x t from r);cases e;rfl
 | byt b=>obtain⟨t,e⟩:=(show ∃t,u=Value.bytes b t from r);cases e;rfl
 | flt b=>obtain⟨t,e⟩:=(show ∃t,u=Value.float b t from r);cases e;rfl
 | ref a=>cases (show u=Value.ref a from r);rfl
 | ty n=>cases (show u=Value.type n from r);rfl
section
variable {P:Program} {w:World} {H H':Hp} {h h':Heap} {a C dx:Addr} {fs fs':List (Str×V)}
theorem Ug (hok:HOk P w H h) (e:H a=some (.ins C dx fs)):∃mA,V5 h a dx C mA/\(∀f,Ip (fs.lookup f) (mA f))/\PySem.Within mA (fs.map (·.1))/\fs.length<=1000/\H dx=some (.own a):=by
 obtain⟨d,z,ne,ob,mA,n,r,q⟩:=(show Bx P w H h a (.ins C dx fs) from hok a _ e)
 exact⟨mA,⟨ob,n,ne⟩,r,q,z,d⟩
end
structure Cls (K:YD) (C:Addr):Prop where
 pg:plainGet K C Str.empty=true
 hd:hasDictIn K C=true
 po:PySem.W.plainOver K C=true
 sa:findIn K (.ref C) "__setattr__"=some (some (.builtin "object.__setattr__"))
theorem Cls.get {K:YD} {C:Addr} (c:Cls K C) (f:Str):plainGet K C f=true:=c.pg
def JL (K:YD) (C:Addr) (f:Str):Prop:=findIn K (.ref C) f=some none
theorem JL.taker {K:YD} {C:Addr} {f:Str} (n:JL K C f):PySem.W.takerIn K C f=some none:=by
 unfold PySem.W.takerIn;rw[show findIn K (.ref C) f=some none from n]
 rfl
structure Meth (K:YD) (C:Addr) (m:Str) (f:Addr):Prop where
 at_:findIn K (.ref C) m=some (some (.ref f))
 fn:isFn K (.ref f)=true
 kp:keepIn K (.ref f)=true
section
variable {X:Cx} {jb:YC} {U : St} {H:Hp} {s:Shared} {a C dx:Addr} {fs:List (Str×V)} {f:Str} {v:V} {A:Around} {E:YA}
theorem nH {b:Bool} {Q:YA} (I:H^^^s) (e:H a=some (.ins C dx fs)) (c:Cls X.K C) (n:JL X.K C f) (l:fs.lookup f=some v)
  (h:∀u s',Inv X jb U H s'->RelV v u->Q u s'):wpAny (model X.prog X.w) A (getAttr (.ref a) f b) Q E s:=by
 obtain⟨mA,O,r,_,_,_⟩:=Ug I.hok e;obtain⟨u,hu,ru⟩:=Ip.some_of (v:=v) (o:=mA f) (by rw[<-l];exact r f);exact get_map I.kIn O (c.get f) c.hd n hu (qU ru) (h u _ (I.tok _) ru)
theorem Rm {m:Str} {g:Addr} {pl:Sem Bool} {Q:Value×YE->Shared->Prop} (I:H^^^s) (e:H a=some (.ins C dx fs)) (c:Cls X.K C) (k:Meth X.K C m g) (l:fs.lookup m=none)
  (h:Q (.ref g,[.ref a]) s):wpAny (model X.prog X.w) A (getMethod (.ref a) m pl) Q E s:=by
 obtain⟨mA,O,r,_,_,_⟩:=Ug I.hok e;have hn:mA m=none:=Ip.none_of (by rw[<-l];exact r m);exact xZ I.kIn O (c.get m) k.at_ k.fn hn h
theorem lM {y:V} {u:Value} {Q:YH} (I:H^^^s) (e:H a=some (.ins C dx fs)) (c:Cls X.K C) (n:JL X.K C f) (hl:fs.length < 1000) (ry:RelV y u)
  (h:∀s',Inv X jb U (upd H a (.ins C dx (Im f y fs))) s'->Q () s'):wpAny (model X.prog X.w) A (setAttr (.ref a) f u) Q E s:=by
 obtain⟨mA,O,r,wi,_,ho⟩:=Ug I.hok e;have hz:(fs.map (·.1)).length<=sizeLine:=by rw[QbH,Qcz];omega
 refine zZ I.kIn O c.sa c.po n.taker c.hd wi hz λh' O' sb=>h _ ?_;have hd:∃o,h'.get? dx=some o:=let ⟨o,_,_,e',_⟩:=O'.ns;⟨o,e'⟩;refine I.write (x:=a) (e:=dx) (by rw[e];exact True.intro) (.inr ho) (λb q hb z=>(sb.2 b hb).trans z) hd ?_;refine⟨by rw[Am O.ne];exact ho,?_,O.ne,O'.obj,_,O'.ns,λg=>?_,λg hg=>?_⟩
 ·have:=U9 f y fs;omega
 ·show Ip ((Im f y fs).lookup g) (if g=f then some u else mA g)
  rw[U8];by_cases q:g=f
  ·rw[if_pos q,if_pos q];exact ry
  ·rw[if_neg q,if_neg q];exact r g
 ·by_cases q:g=f
  ·rw[q];exact (Tc f y fs).1
  ·refine (Tc f y fs).2 g (wi g λz=>hg ?_);show (if g=f then some u else mA g)=none
   rw[if_neg q];exact z
theorem Inv.made (I:H^^^s):Inv X jb U (upd (upd H ∅ (.own (∅+1))) (∅+1) (.ins C ∅ []))
  { s with heap:=(s.heap.push emptyDict).push (instObj C ∅) }:=by
 have e1:(s.heap.push emptyDict).get? ∅=some emptyDict:=QaN s.heap rfl;have e2:((s.heap.push emptyDict).push (instObj C ∅)).get? (∅+1)=some (instObj C ∅):=by
  have:=QaN (s.heap.push emptyDict) (o:=instObj C ∅) rfl
  rwa [QbY] at this
 have e3:(s.heap.push emptyDict).Ns ∅ (λ_=>none):=⟨emptyDict,#[],_,e1,rq,(λe he=>absurd he (by simp)),λ_=>rfl⟩;have I1:=I.laid (a:=∅) (o:=.own (∅+1)) (h':=s.heap.push emptyDict) (t':=s.toks) (λb u q=>Qay _ q) (Qcv _) ⟨_,e1⟩;refine I1.laid (a:=∅+1) (o:=.ins C ∅ []) (t':=s.toks) (λb u q=>Qay _ q) (Nat.le_of_eq (QbY _ _)) ?_;have ne:∅≠∅+1:=Qcn (QbE _);refine⟨by rw[Am ne,Ab],Qcw _,ne,e2,λ_=>none,(Heap.Ns1.of_empty e3).at λo q=>Qay _ q,λ_=>True.intro,λy hy=>absurd rfl hy⟩
theorem By {prog:Program} {w:World} {env:Env} {e:Expr} {f:Str} {pos:Pos} {s:Shared} {Q:YA} (hb:attributeBase e f env (eval e env)=eval e env)
  (h:wpAny (model prog w) A (eval e env) (λo s₁=>wpAny (model prog w) A (getAttr o f true) Q E s₁) E s):wpAny (model prog w) A (eval (.Attribute e f pos) env) Q E s:=
 Attribute_any_ h (by rw[arm_eval_Attribute,hb])
end
def BV (K:YD) (ta:TE) (f:Str):TE:=fun U H Q=>ta U H λx H1=>∃a C dx fs v,x=.ref a/\H1 a=some (.ins C dx fs)/\Cls K C/\JL K C f/\fs.lookup f=some v/\Q v H1
section
variable {X:Cx} {o e value:Expr} {f:Str} {pos pos' tpos:Pos} {ta tv:TE}
theorem CV (he:PE X e ta) (hb:attributeBase e f X.env (eval e X.env)=eval e X.env):PE X (.Attribute e f pos) (BV X.K ta f):=by
 intros Q I h;refine By hb (thn (he jb s U H _ I h) λu s1 zz=>?_);obtain⟨x,H1,I1,rx,a,C,dx,fs,v,ex,ea,c,n,l,q⟩:=zz;subst ex;obtain rfl:u=Value.ref a:=rx;exact nH I1 ea c n l λu' s2 I2 ru=>⟨v,H1,I2,ru,q⟩
theorem Fh {pl:Sem Bool} {m:Str} {apos:Pos} {args:YJ} {jb:YC} {s:Shared} {U : St} {H:Hp} {Q:YA} {te:TE} (he:PE X e te) (I:H^^^s)
  (h:te U H λx H1=>∃a C dx fs g,x=.ref a/\H1 a=some (.ins C dx fs)/\Cls X.K C/\Meth X.K C m g/\fs.lookup m=none /\
   ∀s1,H1^^^s1->‹X› (callWith pos (.ref g) [.ref a] (backTo pos (starEach args X.env)) (backToKw pos (keywordEach [] X.env))) Q X.xe s1)
  (ht:eval (.Call (.Attribute e m apos) args [] pos) X.env=(do
   let ov <-eval e X.env
   standAt apos.atName
   let (f,first) <-holding [ov] (getMethod ov m pl)
   callWith pos f first (backTo pos (starEach args X.env)) (backToKw pos (keywordEach [] X.env)))) :
  ‹X› (eval (.Call (.Attribute e m apos) args [] pos) X.env) Q X.xe s:=by
 refine PySem.W.methodCall_KW (pl:=pl) (thn (he jb s U H _ I h) λu s1 zz=>?_) ht;obtain⟨x,H1,I1,rx,a,C,dx,fs,g,ex,ea,c,k,l,q⟩:=zz;subst ex;obtain rfl:u=Value.ref a:=rx;exact Rm I1 ea c k l (q s1 I1)
end
section
variable {X:Cx} {jb:YC} {U : St} {H:Hp} {s:Shared} {A:Around} {E:YA} {Q:YA} {c:Value} {b:Bool}
inductive LQ (K:YD) (H:Hp):V->Value->Prop where
 | non:LQ K H .non (.type "NoneType")
 | bl (x:Bool):LQ K H (.bl x) (.type "bool")
 | int (i:Int):LQ K H (.int i) (.type "int")
 | str (x:Str):LQ K H (.str x) (.type "str")
 | flt (x:UInt64):LQ K H (.flt x) (.type "float")
 | lst {a:Addr} {xs:YG} (e:H a=some (.lst xs)):LQ K H (.ref a) (.type "list")
 | frz {a:Addr} {o:Obj} {xs:YG} (e:H a=some (.frz o (.lst xs))):LQ K H (.ref a) (.type "list")
 | tup {a:Addr} {xs:YG} (e:H a=some (.tup xs)):LQ K H (.ref a) (.type "tuple")
 | dK {a:Addr} {kvs:List (Key×V)} (e:H a=some (.dK kvs)):LQ K H (.ref a) (.type "dict")
 | dT {a:Addr} {kvs:List (List Key×V)} (e:H a=some (.dT kvs)):LQ K H (.ref a) (.type "dict")
 | ins {a C dx:Addr} {fs:List (Str×V)} (e:H a=some (.ins C dx fs)) (cl:Cls K C) (ha:findIn K (.ref C) "__class__"=some (some (.builtin "object.__class__")))
   (hn:PySem.W.specialIn K (.builtin "object.__class__") "__get__"=some (some (.builtin "getset_descriptor.__get__"))) (htk:PySem.W.takesIn K (.builtin "object.__class__")=some true)
   (hm:PySem.W.mroIn K C (.type "object")=some true):LQ K H (.ref a) (.ref C)
theorem qM {x:V} {u t:Value} (I:H^^^s) (rx:RelV x u) (ty:LQ X.K H x t) (e:kitOne X.K t c=some b) (h:∀tk,Q (.bool b) { s with toks:=tk }) :
  wpAny (model X.prog X.w) A (call (.builtin "isinstance") [u,c]) Q E s:=by
 cases ty with
 | non=>cases (show u=Value.none from rx);exact kia_one PySem.W.kitx_none I.kIn True.intro e (λz=>nomatch z) h
 | bl y=>cases (show u=Value.bool y from rx);exact kia_one PySem.W.kitx_bool I.kIn True.intro e (λz=>nomatch z) h
 | int i=>obtain⟨t,q⟩:=(show ∃t,u=Value.int i t from rx);cases q;exact kia_one PySem.W.kitx_int I.kIn True.intro e (λz=>nomatch z) h
 | str y=>obtain⟨t,q⟩:=(show ∃t,u=Value.str y t from rx);cases q;exact kia_one PySem.W.kitx_str I.kIn True.intro e (λz=>nomatch z) h
 | flt y=>obtain⟨t,q⟩:=(show ∃t,u=Value.float y t from rx);cases q;exact kia_one PySem.W.kitx_float I.kIn True.intro e (λz=>nomatch z) h
 | @lst a xs ea=>
  cases (show u=Value.ref a from rx)
  obtain⟨_,_,n,_,h1⟩:=(show Bx X.prog X.w H s.heap a (.lst xs) from I.hok a _ ea)
  exact kia_one PySem.W.kitx_list I.kIn ⟨_,h1,rq⟩ e (λz=>nomatch z) h
 | @frz a ob xs ea=>
  cases (show u=Value.ref a from rx)
  obtain⟨_,_,_,n,_,h1⟩:=(show Bx X.prog X.w H s.heap a (.frz ob (.lst xs)) from I.hok a _ ea)
  exact kia_one PySem.W.kitx_list I.kIn ⟨_,h1,rq⟩ e (λz=>nomatch z) h
 | @tup a xs ea=>
  cases (show u=Value.ref a from rx)
  obtain⟨_,_,_,p⟩:=(show Bx X.prog X.w H s.heap a (.tup xs) from I.hok a _ ea)
  obtain⟨o,h1,h2,_⟩:=p;exact kia_one PySem.W.kitx_tuple I.kIn ⟨o,h1,h2⟩ e (λz=>nomatch z) h
 | @dK a kvs ea=>
  cases (show u=Value.ref a from rx)
  obtain⟨_,_,vs,_,p⟩:=(show Bx X.prog X.w H s.heap a (.dK kvs) from I.hok a _ ea)
  obtain⟨o,es,ep,h1,h2,_⟩:=p;exact kia_one PySem.W.kitx_dict I.kIn ⟨o,h1,h2.1⟩ e (λz=>nomatch z) h
 | @dT a kvs ea=>
  cases (show u=Value.ref a from rx)
  obtain⟨_,_,xs,_,o,es,ep,h1,h2,_⟩:=(show Bx X.prog X.w H s.heap a (.dT kvs) from I.hok a _ ea)
  exact kia_one PySem.W.kitx_dict I.kIn ⟨o,h1,h2.1⟩ e (λz=>nomatch z) h
 | @ins a C dx fs ea cl ha hn htk hm=>
  cases (show u=Value.ref a from rx)
  obtain⟨mA,O,_⟩:=Ug I.hok ea;obtain⟨od,J,_⟩:=O.look;exact kia_one (PySem.W.kitx_own (cl.get _) cl.hd ha hn htk hm) I.kIn J e (λz=>nomatch z) h
end
structure Cm (k:Nat) (A:Around):Prop where
 hd:A.handled=none
 dp:A.depth+3*k+5 < recursionLimit
 un:A.units+16*k+200 < cLine
theorem Cm.mono {j k:Nat} {A:Around} (r:Cm k A) (h:j<=k):Cm j A:=⟨r.hd,by have:=r.dp;omega,by have:=r.un;omega⟩
theorem Cm.deeper {k:Nat} {A:Around} (r:Cm (k+1) A) (env:Env):Cm k (A.deeper env):=
 ⟨r.hd,by have:=r.dp;show A.depth+1+3*k+5 < _;omega,by have:=r.un;show A.units+3+16*k+200 < _;omega⟩
theorem Cm.in1 {k:Nat} {A:Around} (r:Cm (k+1) A):Cm k A.in1:=
 ⟨r.hd,by have:=r.dp;show A.depth+3*k+5 < _;omega,by have:=r.un;show A.units+1+16*k+200 < _;omega⟩
theorem mW {A:Around} {C:Addr} {us:YE} {kw:List (Str×Value)}:(A.under (.builtin "type.__call__" ⟨.ref C::us,kw⟩)).depth=A.depth+1:=by
 first | rfl | simp[Around.under,Code.weight,Code.isCreation,Code.isGuard,Code.isCaller,Code.frames,Code.isFrame,guardIds]
theorem mV {A:Around} {C:Addr} {us:YE} {kw:List (Str×Value)}:(A.under (.builtin "type.__call__" ⟨.ref C::us,kw⟩)).units=A.units+1:=by
 first | rfl | simp[Around.under,Code.cUnits,Code.frames,Code.isFrame]
theorem Cm.make {k:Nat} {A:Around} (r:Cm (k+1) A) (C:Addr) (us:YE) (kw:List (Str×Value)):Cm k (A.under (.builtin "type.__call__" ⟨.ref C::us,kw⟩)):=
 ⟨r.hd,by have:=r.dp;rw[mW];omega,by have:=r.un;rw[mV];omega⟩
theorem Cm.depth {k:Nat} {A:Around} (r:Cm k A):A.depth < recursionLimit:=by have:=r.dp;omega
theorem Cm.units {k:Nat} {A:Around} (r:Cm k A):A.units+64 < cLine:=by have:=r.un;omega
def Nj:TA:=λ_ H Q=>Q [] H
def Ea (ta:TE) (tr:TA):TA:=fun U H Q=>ta U H λx H1=>tr U H1 λxs H2=>Q (x::xs) H2
section
variable {X:Cx} {e:Expr} {es:YJ} {te:TE} {t:TA} {pos:Pos}
theorem Ac:PA X [] Nj:=λ_ _ _ _ H Q I h=>Calls.spliced_nil ⟨[],H,I,.nil,h⟩
theorem Aa (ha:PE X e te) (hr:PA X es t) (hs:starEach (e::es) X.env=(false,eval e X.env)::starEach es X.env:=by rfl):PA X (e::es) (Ea te t):=by
 intro pos jb s U H Q I h;rw[hs];show wpAny _ _ (spliced ((false,eval e X.env)::backTo pos (starEach es X.env))) _ _ s;refine Calls.spliced_cons (thn (ha jb s U H _ I h) λu s1 zz=>?_);obtain⟨x,H1,I1,r1,q1⟩:=zz;refine thn (hr pos jb s1 U H1 _ I1 q1) λus s2 zz=>?_;obtain⟨xs,H2,I2,r2,q2⟩:=zz;exact⟨x::xs,H2,I2,.cons r1 r2,q2⟩
def Hm (t:TA):TE:=fun U H Q=>t U H λxs H1=>xs.length<=sizeLine/\∀p,H1 p=none->Q (.ref p) (upd H1 p (.tup xs))
def Ic (t:TA):TE:=fun U H Q=>t U H λxs H1=>xs.length<=sizeLine/\∀p,H1 p=none->Q (.ref p) (upd H1 p (.lst xs))
theorem Bb {x1} (h:PA X es t):PE X (.Tuple es x1 pos) (Hm t):=by
 intros Q I hq;refine wpAny_Tuple_spliced (thn (h pos jb s U H _ I hq) λus s1 zz=>?_);obtain⟨xs,H1,I1,r,z,q⟩:=zz;refine⟨by rw[<-r.length];exact z,?_⟩;have hf:H1 s1.heap.objs.size=none:=I1.hok.fresh (Qcv _);refine⟨.ref s1.heap.objs.size,upd H1 s1.heap.objs.size (.tup xs),I1.laid (t':=s1.toks) (λb u e=>Qay _ e) (Qcv _) ?_,rq,q _ hf⟩;exact⟨z,us,r,⟨_,QaN _ rfl,rq,_,rq⟩⟩
theorem BZ (h:PA X es t):PE X (.List es pos) (Ic t):=by
 intros Q I hq;refine wpAny_List_spliced (thn (h pos jb s U H _ I hq) λus s1 zz=>?_);obtain⟨xs,H1,I1,r,z,q⟩:=zz;refine⟨by rw[<-r.length];exact z,?_⟩;have hf:H1 s1.heap.objs.size=none:=I1.hok.fresh (Qcv _);refine⟨.ref s1.heap.objs.size,upd H1 s1.heap.objs.size (.lst xs),I1.laid (t':=s1.toks) (λb u e=>Qay _ e) (Qcv _) ?_,rq,q _ hf⟩;exact⟨z,us,0,r,QaN _ rfl⟩
end
abbrev Sp:=YG->Hp->VK->XK->Prop
abbrev CXT:=List Env->Hp->Shared->XK->YA
structure Nt (P:Program) (w:World) (K:YD) (mg:YB) (base:Heap) (A:Around) (outer:List Env) (s:Shared) (H:Hp):Prop where
 frames:A.frames=some outer
 mod:Mod K mg base
 bs:∀b o,base.get? b=some o->s.heap.get? b=some o/\H b=none
 bsz:base.objs.size<=∅
 Hg:s.heap.FunFrames base outer
 frf:∀b∈frs outer,H b=none
 hok:HOk P w H s.heap
 bare:AllBare s.gens
def CE (outer:List Env) (P:Program) (w:World) (H:Hp) (s:Shared) (Q:VK) (u:Value) (s':Shared):Prop:=
 ∃v H',s'.os=s.os/\AllBare s'.gens/\Un (frs outer) [] H H' s.heap s'.heap/\HOk P w H' s'.heap/\RelV v u/\Q v H'
def CR (CX:CXT) (outer:List Env) (P:Program) (w:World) (H:Hp) (s:Shared) (Q:VK) (E:XK) (r:Result) (s':Shared):Prop:=
 match r with
 | .ok (.ret u)=>CE outer P w H s Q u s'
 | .ok _=>False
 | .error e=>CX outer H s E e s'
structure Hi (P:Program) (w:World) (K:YD) (mg:YB) (base:Heap) (CX:CXT) (k:Nat) (f:Addr) (fd:FuncData) (ps:YF) (sp:Sp):Prop where
 len:∀vs H Q E,sp vs H Q E->vs.length=ps.length
 run:∀(A:Around) (outer:List Env) (s:Shared) (H:Hp) (args:Args) (us:YE) (vs:YG) (Q:VK) (E:XK),Cm k A->Nt P w K mg base A outer s H->BindsTo s fd args (ps.zip us)->Vals vs us->sp vs H Q E ->
  codeAny (model P w) A (.call (.ref f) args) (CR CX outer P w H s Q E) s
theorem Hi.imp {P:Program} {w:World} {K:YD} {mg:YB} {base:Heap} {CX:CXT} {k:Nat} {f:Addr} {fd:FuncData} {ps:YF} {sp sp':Sp} (F:Hi P w K mg base CX k f fd ps sp)
  (h:∀vs H Q E,sp' vs H Q E->sp vs H Q E):Hi P w K mg base CX k f fd ps sp':=
 ⟨λvs H Q E q=>F.len vs H Q E (h _ _ _ _ q),λA outer s H args us vs Q E hr he hb hv hs=>F.run A outer s H args us vs Q E hr he hb hv (h _ _ _ _ hs)⟩
theorem Nt.make {P:Program} {w:World} {K:YD} {mg:YB} {base:Heap} {A:Around} {outer:List Env} {s:Shared} {H:Hp} (e:Nt P w K mg base A outer s H) (C:Addr) (us:YE) (kw:List (Str×Value)) :
  Nt P w K mg base (A.under (.builtin "type.__call__" ⟨.ref C::us,kw⟩)) outer s H:=⟨by first | exact e.frames | (simpa [Around.under,Code.envs,Code.isFrame,pushEnvs] using e.frames),e.mod,e.bs,e.bsz,e.Hg,e.frf,e.hok,e.bare⟩
theorem Nt.in1 {P:Program} {w:World} {K:YD} {mg:YB} {base:Heap} {A:Around} {outer:List Env} {s:Shared} {H:Hp} (e:Nt P w K mg base A outer s H) :
  Nt P w K mg base A.in1 outer s H:=⟨e.frames,e.mod,e.bs,e.bsz,e.Hg,e.frf,e.hok,e.bare⟩
section
variable {X:Cx} {jb:YC} {U : St} {H:Hp} {s s':Shared}
theorem Inv.env0 (I:H^^^s):Nt X.prog X.w X.K X.mg X.base X.A X.stack s H:=
 ⟨I.ok.frames,I.ok.mod,I.bs,Qco I.ok.bsz I.sz,I.stack,I.Xx,I.hok,I.bare⟩
theorem Inv.after {Q:VK} {u:Value} (I:H^^^s) (h:CE X.stack X.prog X.w H s Q u s'):EP X jb U Q u s':=by
 obtain⟨v,H',os,bare,un,hok,r,q⟩:=h;obtain⟨hh,g,d,t,os'⟩:=s';obtain rfl:os'=s.os:=os;exact⟨v,H',I.call (h':=hh) (g':=g) (d':=d) (t':=t) (ch:=[]) un hok bare (λb z=>absurd z (by simp)),r,q⟩
end
def lE (sp:Sp) (dvs:YG) (E:XK) (t:TA):TE:=fun U H Q=>t U H λvs H1=>sp (vs++dvs) H1 Q E
def aD (C:Addr) (m:Str) (sp:Sp) (dvs:YG) (E:XK) (ta:TE) (t:TA):TE:=fun U H Q=>ta U H λx H1=>∃a dx fs,x=.ref a/\H1 a=some (.ins C dx fs)/\fs.lookup m=none /\
 t U H1 λvs H2=>sp (x::(vs++dvs)) H2 Q E
def yP (C:Addr) (sp:Sp) (dvs:YG) (E:XK) (t:TA):TE:=fun U H Q=>t U H λvs H1=>∀x dx,H1 x=none->H1 dx=none->dx≠x ->
 sp (.ref x::(vs++dvs)) (upd (upd H1 dx (.own x)) x (.ins C dx [])) (λv H2=>v=.non/\Q (.ref x) H2) E
def Binds (K:YD) (fd:FuncData) (ps:YF) (ds:YE):Prop:=
 ∀(s:Shared) (us:YE),K.In s.heap->(us++ds).length=ps.length->BindsTo s fd ⟨us,[]⟩ (ps.zip (us++ds))
theorem Binds.all {K:YD} {fd:FuncData} {ps:YF} (h:∀us:YE,us.length=ps.length->bindArgs fd ⟨us,[]⟩=pure (ps.zip us)):Binds K fd ps []:=λs us _ hl=>by
 rw[QbM] at hl ⊢;exact .of_eq (h us hl)
def Passes (CX:CXT) (X:Cx) (E:XK):Prop:=∀(jb:YC) (U : St) (H:Hp) (s:Shared) (e:Value) (s':Shared),H^^^s->CX X.stack H s E e s'->X.xe e s'
section
variable {X:Cx} {CX:CXT} {k:Nat} {f C:Addr} {fd:FuncData} {ps:YF} {sp:Sp} {dvs:YG} {ds:YE} {E:XK} {x m:Str} {p pos apos:Pos} {e o:Expr} {es:YJ} {ta:TE} {t:TA}
theorem cA {jb:YC} {U : St} {H:Hp} {s:Shared} {Q:VK} {us:YE} {vs:YG} (F:Hi X.prog X.w X.K X.mg X.base CX k f fd ps sp) (hr:Cm k X.A) (hb:Binds X.K fd ps ds) (hd:Vals dvs ds) (hx:Passes CX X E)
  (I:H^^^s) (r:Vals vs us) (h:sp (vs++dvs) H Q E):‹X› (call (.ref f) us) (EP X jb U Q) X.xe s:=by
 have r2:Vals (vs++dvs) (us++ds):=r.append hd;have hl:(us++ds).length=ps.length:=by rw[<-r2.length];exact F.len _ _ _ _ h
 refine wpAny_call (Qct (F.run X.A X.stack s H ⟨us,[]⟩ (us++ds) (vs++dvs) Q E hr I.env0 (hb s us I.kIn hl) r2 h) λr s' hq=>?_);cases r with
 | error e=>exact hx jb U H s e s' I hq
 | ok fl=>
  cases fl with
  | ret u=>exact I.after hq
  | next=>exact False.elim hq
  | brk=>exact False.elim hq
  | cont=>exact False.elim hq
theorem AB (F:Hi X.prog X.w X.K X.mg X.base CX k f fd ps sp) (hr:Cm k X.A) (hg:Gl X x) (hm:X.mg x=some (.ref f)) (hk:keepIn X.K (.ref f)=true) (hb:Binds X.K fd ps ds) (hd:Vals dvs ds) (hx:Passes CX X E)
  (ha:PA X (e::es) t) (hdb:(x == ("__debug__":Str))=false:=by decide) (he:starEach (e::es) X.env=(false,eval e X.env)::starEach es X.env:=by rfl) (hpl:(backTo pos (starEach es X.env)).any (·.1)=false:=by rfl) :
  PE X (.Call (.Name x p) (e::es) [] pos) (lE sp dvs E t):=by
 intros Q I h;refine Qbh (Lp I hg hm ?_ hdb);refine callWith_K (h₀:=X.base) I.ok.mod.kin hk (thn (ha pos jb s U H _ I h) λus s1 zz=>?_) he hpl;obtain⟨vs,H1,I1,r,q⟩:=zz;refine⟨I1.kIn,?_⟩;exact cA F hr hb hd hx I1 r q
theorem Au {pl:Sem Bool} (he:PE X o ta) (c:Cls X.K C) (hm:Meth X.K C m f) (F:Hi X.prog X.w X.K X.mg X.base CX k f fd ps sp) (hr:Cm k X.A) (hb:Binds X.K fd ps ds) (hd:Vals dvs ds) (hx:Passes CX X E) (ha:PA X (e::es) t)
  (hst:starEach (e::es) X.env=(false,eval e X.env)::starEach es X.env:=by rfl) (hpl:(backTo pos (starEach es X.env)).any (·.1)=false:=by rfl)
  (ht:eval (.Call (.Attribute o m apos) (e::es) [] pos) X.env=(do
   let ov <-eval o X.env
   standAt apos.atName
   let (f,first) <-holding [ov] (getMethod ov m pl)
   callWith pos f first (backTo pos (starEach (e::es) X.env)) (backToKw pos (keywordEach [] X.env))):=by rfl) :
  PE X (.Call (.Attribute o m apos) (e::es) [] pos) (aD C m sp dvs E ta t):=by
 intros Q I h;refine PySem.W.methodCall_KW (pl:=pl) (thn (he jb s U H _ I h) λu s1 zz=>?_) ht;obtain⟨x,H1,I1,rx,a,dx,fs,ex,ea,l,q⟩:=zz;subst ex;obtain rfl:u=Value.ref a:=rx;refine Rm I1 ea c hm l ?_;refine callWith_K (first:=[.ref a]) (h₀:=X.base) I.ok.mod.kin hm.kp (thn (ha pos jb s1 U H1 _ I1 q) λus s2 zz=>?_) hst hpl
 obtain⟨vs,H2,I2,r,q2⟩:=zz;refine⟨I2.kIn,?_⟩;exact cA (us:=.ref a::us) (vs:=.ref a::vs) F hr hb hd hx I2 (.cons rfl r) q2
theorem vI {pl:Sem Bool} (he:PE X o ta) (c:Cls X.K C) (hm:Meth X.K C m f) (F:Hi X.prog X.w X.K X.mg X.base CX k f fd ps sp) (hr:Cm k X.A) (hb:Binds X.K fd ps ds) (hd:Vals dvs ds) (hx:Passes CX X E)
  (ht:eval (.Call (.Attribute o m apos) [] [] pos) X.env=(do
   let ov <-eval o X.env
   standAt apos.atName
   let (f,first) <-holding [ov] (getMethod ov m pl)
   callWith pos f first (backTo pos (starEach [] X.env)) (backToKw pos (keywordEach [] X.env))):=by rfl) :
  PE X (.Call (.Attribute o m apos) [] [] pos) (aD C m sp dvs E ta Nj):=by
 intros Q I h;refine PySem.W.methodCall_KW (pl:=pl) (thn (he jb s U H _ I h) λu s1 zz=>?_) ht;obtain⟨x,H1,I1,rx,a,dx,fs,ex,ea,l,q⟩:=zz;subst ex;obtain rfl:u=Value.ref a:=rx;refine Rm I1 ea c hm l ?_;exact PySem.W.callWith_K0 (first:=[.ref a]) I1.kIn hm.kp (cA (us:=[.ref a]) (vs:=[.ref a]) F hr hb hd hx I1 (.cons rfl .nil) q)
structure Mk (K:YD) (C f:Addr):Prop where
 makes:makesIn K C=true
 init:findIn K (.ref C) "__init__"=some (some (.ref f))
 fn:isFn K (.ref f)=true
 kp:keepIn K (.ref C)=true
theorem uU {jb:YC} {U : St} {H:Hp} {s:Shared} {Q:VK} {us:YE} {vs:YG} (M:Mk X.K C f) (F:Hi X.prog X.w X.K X.mg X.base CX k f fd ps sp) (hr:Cm (k+1) X.A) (hb:Binds X.K fd ps ds) (hd:Vals dvs ds)
  (hx:Passes CX X E) (I:H^^^s) (r:Vals vs us)
  (h:∀x dx,H x=none->H dx=none->dx≠x->sp (.ref x::(vs++dvs)) (upd (upd H dx (.own x)) x (.ins C dx [])) (λv H2=>v=.non/\Q (.ref x) H2) E) :
  ‹X› (call (.ref C) us) (EP X jb U Q) X.xe s:=by
 have hq:=h (∅+1) ∅ (I.hok.fresh (QcA _)) (I.hok.fresh (Qcv _)) (Qcn (QbE _));have I2:=Inv.made (C:=C) I;have r2:Vals (V.ref (∅+1)::(vs++dvs)) (Value.ref (∅+1)::(us++ds)):=.cons rfl (r.append hd);have hl:(Value.ref (∅+1)::us++ds).length=ps.length:=by
  have e:=r2.length;rw[F.len _ _ _ _ hq] at e;exact e.symm
 refine wpAny_call (dG (f:=f) I.kIn M.makes M.init (beq_iff_eq.mp M.fn) (Qct (F.run _ X.stack _ _ ⟨Value.ref (∅+1)::us,[]⟩ (Value.ref (∅+1)::(us++ds)) _ _ E (hr.make C us [])
  (I2.env0.make C us []) (hb _ (Value.ref (∅+1)::us) I2.kIn hl) r2 hq) λr s' hq'=>?_))
 cases r with
 | error e=>exact hx jb U _ _ e s' I2 hq'
 | ok fl=>
  cases fl with
  | ret u=>
   obtain⟨v,H',I3,rv,ev,q3⟩:=I2.after hq';subst ev;exact⟨rv,⟨V.ref (∅+1),H',I3,rq,q3⟩⟩
  | next=>exact False.elim hq'
  | brk=>exact False.elim hq'
  | cont=>exact False.elim hq'
theorem AA (M:Mk X.K C f) (F:Hi X.prog X.w X.K X.mg X.base CX k f fd ps sp) (hr:Cm (k+1) X.A) (hg:Gl X x) (hm:X.mg x=some (.ref C)) (hb:Binds X.K fd ps ds) (hd:Vals dvs ds) (hx:Passes CX X E)
  (ha:PA X (e::es) t) (hdb:(x == ("__debug__":Str))=false:=by decide) (he:starEach (e::es) X.env=(false,eval e X.env)::starEach es X.env:=by rfl) (hpl:(backTo pos (starEach es X.env)).any (·.1)=false:=by rfl) :
  PE X (.Call (.Name x p) (e::es) [] pos) (yP C sp dvs E t):=by
 intros Q I h;refine Qbh (Lp I hg hm ?_ hdb);refine callWith_K (h₀:=X.base) I.ok.mod.kin M.kp (thn (ha pos jb s U H _ I h) λus s1 zz=>?_) he hpl;obtain⟨vs,H1,I1,r,q⟩:=zz;refine⟨I1.kIn,?_⟩;exact uU M F hr hb hd hx I1 r q
end
def PK (X:Cx) (kws:List Keyword) (t:TA):Prop:=
 ∀(pos:Pos) (jb:YC) (s:Shared) (U : St) (H:Hp) (Q:YG->Hp->Prop),H^^^s->t U H Q->‹X› (evalAll ((backToKw pos (keywordEach kws X.env)).map (·.2))) (AP X jb U Q) X.xe s
section
variable {X:Cx} {CX:CXT} {k:Nat} {f C:Addr} {fd:FuncData} {ps ks:YF} {sp:Sp} {E:XK} {x m:Str} {p pos apos kpos:Pos} {e o:Expr} {es:YJ} {kws:List Keyword} {te ta:TE} {t tk:TA} {nm:Option Str}
theorem CD:PK X [] Nj:=λ_ _ _ _ H Q I h=>wpAny_evalAll_nil ⟨[],H,I,.nil,h⟩
theorem At (ha:PE X e te) (hr:PK X kws t):PK X (⟨nm,e,kpos⟩::kws) (Ea te t):=by
 intro pos jb s U H Q I h;show wpAny _ _ (evalAll ((do let v <-eval e X.env;standAt pos;pure v)::(backToKw pos (keywordEach kws X.env)).map (·.2))) _ _ s
 refine wpAny_evalAll_cons (QcC (thn (ha jb s U H _ I h) λu s1 zz=>?_));obtain⟨x,H1,I1,r1,q1⟩:=zz;refine QcC (Qcj (QcD ?_));refine thn (hr pos jb s1 U H1 _ I1 q1) λus s2 zz=>?_;obtain⟨xs,H2,I2,r2,q2⟩:=zz;exact⟨x::xs,H2,I2,.cons r1 r2,q2⟩
variable {g:YE->YE->YE} {gV:YG->YG->YG}
end
structure Ay (N P:YF) (sc:Scope):Prop where
 kind:sc.kind=.function
 co:sc.isCoroutine=false
 gen:sc.isGenerator=false
 nd:N.Nodup
 pre:N.take P.length=P
 par:∀x∈P,sc.names.lookup x=some .local\/sc.names.lookup x=some .cell
 dw:∀y∈sc.names,y.2≠.free
theorem ZL {kindOf:Str->Option NameKind} {x:Str}:∀{binds:List (Str×Value)} {m:YB},(∀v,(x,v)∉binds)->bindL kindOf binds m x=m x
 | [],_,_=>rfl
 | (n,v)::r,m,h=>by
  unfold bindL;rw[ZL λw hw=>h w (QaJ _ hw)];split
  ·have:x≠n:=by rintro rfl;exact h v QaW
   simp[this]
  ·rfl
theorem ZP {kindOf:Str->Option NameKind} {x:Str}:∀{binds:List (Str×Value)} {m:YB},(∀v,(x,v)∉binds)->bindC kindOf binds m x=m x
 | [],_,_=>rfl
 | (n,v)::r,m,h=>by
  unfold bindC;rw[ZP λw hw=>h w (QaJ _ hw)];split
  ·rfl
  ·have:x≠n:=by rintro rfl;exact h v QaW
   simp[this]
theorem ZM {kindOf:Str->Option NameKind} {x:Str} {v:Value}:∀{P:YF} {vs:YE} {i:Nat} {m:YB},P.Nodup->P[i]?=some x->vs[i]?=some v->kindOf x=some .local ->
  bindL kindOf (P.zip vs) m x=some v
 | [],_,_,_,_,h,_,_=>by simp at h
 | _::_,[],_,_,_,_,h,_=>by simp at h
 | p::P,w::vs,0,m,nd,h1,h2,hk=>by
  simp at h1 h2;subst h1;subst h2;show bindL kindOf ((p,w)::P.zip vs) m p=_;unfold bindL;rw[ZL λv hv=>(QbO.mp nd).1 (List.of_mem_zip hv).1,if_pos hk];simp
 | p::P,w::vs,i+1,m,nd,h1,h2,hk=>by
  show bindL kindOf ((p,w)::P.zip vs) m x=_;unfold bindL;exact ZM (i:=i) (QbO.mp nd).2 (by simpa using h1) (by simpa using h2) hk
theorem ZQ {kindOf:Str->Option NameKind} {x:Str} {v:Value}:∀{P:YF} {vs:YE} {i:Nat} {m:YB},P.Nodup->P[i]?=some x->vs[i]?=some v->kindOf x≠some .local ->
  bindC kindOf (P.zip vs) m x=some v
 | [],_,_,_,_,h,_,_=>by simp at h
 | _::_,[],_,_,_,_,h,_=>by simp at h
 | p::P,w::vs,0,m,nd,h1,h2,hk=>by
  simp at h1 h2;subst h1;subst h2;show bindC kindOf ((p,w)::P.zip vs) m p=_;unfold bindC;rw[ZP λv hv=>(QbO.mp nd).1 (List.of_mem_zip hv).1,if_neg hk];simp
 | p::P,w::vs,i+1,m,nd,h1,h2,hk=>by
  show bindC kindOf ((p,w)::P.zip vs) m x=_;unfold bindC;exact ZQ (i:=i) (QbO.mp nd).2 (by simpa using h1) (by simpa using h2) hk
def start (N:YF) (vs:YG):St:=vs.map some++List.replicate (N.length - vs.length) none
def Nr (CX:CXT) (P:Program) (w:World) (K:YD) (mg:YB) (base:Heap) (N:YF) (qual:Str) (scope:Scope) (f:Addr) (cd:Value) (A:Around) (outer:List Env) (s:Shared) (H:Hp) (E:XK):Cx where
 prog:=P
 w:=w
 K:=K
 mg:=mg
 base:=base
 A:=A.deeper (envOfC qual scope ∅ f cd)
 N:=N
 s₀:=s
 H₀:=H
 env:=envOfC qual scope ∅ f cd
 outer:=outer
 stack:=envOfC qual scope ∅ f cd::outer
 ex:=[]
 calm:=true
 fn:=λ_=>true
 pn:=[]
 xe:=λe s'=>wpAny (model P w) (A.deeper (envOfC qual scope ∅ f cd)) (leaving (envOfC qual scope ∅ f cd) e) (λ_ s''=>CX outer H s E e s'') (λe' s''=>CX outer H s E e' s'') s'
theorem fL {sc:Scope} {n:Nat} {x:Str} (h:sc.names.lookup x=some .cell):∃c,(cellsFrom n sc.names []).lookup x=some c:=by
 have q:=PySem.W.cellsFrom_some sc.names n [] (.inl h);exact Option.isSome_iff_exists.mp q
theorem Zw {CX:CXT} {P:Program} {w:World} {K:YD} {mg:YB} {base:Heap} {N ps:YF} {qual:Str} {scope:Scope} {f:Addr} {cd:Value} {A:Around} {outer:List Env} {s s1:Shared} {H:Hp} {E:XK} {us:YE} {vs:YG}
  (S:Ay N ps scope) (hd:A.handled=none) (e0:Nt P w K mg base A outer s H) (hl:vs.length=ps.length) (r:Vals vs us)
  (x:InCallC s ∅ (bindL (envOfC qual scope ∅ f cd).kindOf (ps.zip us) λ_=>none) (cellsFrom (∅+1) scope.names []) (bindC (envOfC qual scope ∅ f cd).kindOf (ps.zip us) λ_=>none) s1) :
  Inv (Nr CX P w K mg base N qual scope f cd A outer s H E) [] (start N vs) H s1:=by
 have hpl:ps.length<=N.length:=by have:=congrArg List.length S.pre;rw[QbA] at this;omega
 obtain⟨h1,tk,rfl,hk⟩:=x.done;have noA:∀b:Addr,b∉(Nr CX P w K mg base N qual scope f cd A outer s H E).ex:=λb z=>absurd (show b∈([]:List Addr) from z) (by simp)
 refine⟨⟨e0.mod,S.kind,rq,rq,Qcv _,λy z c h1 h2=>?_,λy hy=>?_,λy c _ h=>?_,λ_=>hd,Around.frames_deeper e0.frames,.inr ⟨rq,rq⟩,λb z=>absurd z (noA b),e0.bs,e0.bsz,λb _ _=>noA b,λb z=>absurd z (noA b),e0.Hg,e0.frf⟩,
  rfl,e0.bare,Un.kept hk,⟨_,x.toInCall.ns,λi y v h1 h2 h3=>?_⟩,λy c h=>⟨_,x.cell y c h⟩,e0.hok.fresh (Qcv _),λy c h=>?_,λp hp=>absurd (show p∈([]:YC) from hp) (by simp),e0.hok.kept hk,?_⟩
 ·exact name_of_addr x.apart (QaS h1) (QaS h2)
 ·have hy:scope.names.lookup y=some .cell\/scope.names.lookup y=some .free:=hy;rcases hy with hy | hy
  ·exact fL hy
  ·exact absurd rfl (S.dw _ (QaS hy))
 ·exact Qcs (x.above y c (QaS h))
 ·have hi:i < vs.length:=by
   unfold start at h2;by_cases hi:i < vs.length
   ·exact hi
   ·rw[Qag (by simpa using hi)] at h2;rw[List.getElem?_replicate] at h2;split at h2 <;> cases h2
  have ha:vs[i]?=some v:=by
   unfold start at h2;rw[Qak (by simpa using hi),Qbm] at h2;cases e:vs[i]? with
   | none=>rw[e] at h2;cases h2
   | some a=>rw[e] at h2;cases h2;rfl
  obtain⟨u,hu,rv⟩:=r.get ha;have hp:ps[i]?=some y:=by
   rw[<-S.pre,List.getElem?_take_of_lt (by omega)];exact h1
  have ndP:ps.Nodup:=by rw[<-S.pre];exact S.nd.sublist (List.take_sublist _ _)
  refine⟨u,rv,?_⟩;rcases S.par y (QaI hp) with k | k
  ·exact .inl ⟨k,ZM ndP hp hu k⟩
  ·obtain⟨c,e⟩:=fL (n:=∅+1) k;refine .inr ⟨.inl k,c,e,?_⟩;have q:=x.cell y c e;rw[ZQ ndP hp hu (by show scope.names.lookup y≠_;rw[k];decide)] at q;exact q
 ·exact e0.hok.fresh (Qcs (x.above y c (QaS h)))
 ·unfold start;show _=N.length;rw[QaV,QbH,QaG];omega
theorem zB {CX:CXT} {P:Program} {w:World} {K:YD} {mg:YB} {base:Heap} {k:Nat} {f:Addr} {name qual:Str} {params:Arguments} {body:List Stmt} {scope:Scope} {dV kV doc pm cdv ct oc:Value} {an od:Option Addr}
  {osl:YI} {N ps:YF} {sp:Sp} (lk:K.lookup f=some ⟨oc,od,.func (fnOf name qual params body scope dV kV doc pm an cdv ct),osl⟩) (hcd:codeIn K cdv qual=true) (S:Ay N ps scope)
  (len:∀vs H Q E,sp vs H Q E->vs.length=ps.length)
  (hbody:∀(A:Around) (outer:List Env) (s:Shared) (H:Hp) (vs:YG) (Q:VK) (E:XK),Cm k (A.deeper (envOfC qual scope ∅ f cdv))->sp vs H Q E ->
   ∃t,PSs (Nr CX P w K mg base N qual scope f cdv A outer s H E) body t/\t { nx:=λ_ H'=>Q .non H',rt:=Q } (start N vs) H) :
  Hi P w K mg base CX (k+1) f (fnOf name qual params body scope dV kV doc pm an cdv ct) ps sp:=by
 refine⟨len,λA outer s H args us vs Q E hr e0 hb r hsp=>?_⟩;have hl:=len _ _ _ _ hsp;have KX:K.In s.heap:=e0.mod.kin.keeps λb o e=>(e0.bs b o e).1;have lim:s.heap.NoLimit:=e0.mod.nolimit.keeps λb o e=>(e0.bs b o e).1;have hkind:∀y∈ps.zip us,scope.names.lookup y.1=some .local\/(scope.names.lookup y.1=some .cell/\((cellsFrom (∅+1) scope.names []).lookup y.1).isSome=true):=λ⟨n,v⟩ hy=>by
  rcases S.par n (List.of_mem_zip hy).1 with q | q
  ·exact .inl q
  ·exact .inr ⟨q,PySem.W.cellsFrom_some _ _ _ (.inl q)⟩
 refine codeAny_call_function hr.depth (KX _ _ lk) rfl S.co S.gen rfl (PySem.W.codeRec_of KX hcd) (hb _ _ _ _ ?_);refine wpAny_newFunctionEnv_cells S.kind hkind λenv he s1 x=>?_;subst he;refine⟨lim.keeps x.toInCall.keep,codeAny_func ?_⟩;obtain⟨t,ht,hq⟩:=hbody A outer s H vs Q E (hr.deeper _) hsp;have I:Inv (Nr CX P w K mg base N qual scope f cdv A outer s H E) [] (start N vs) H s1:=Zw S hr.hd e0 hl r x;refine QcE (ht [] s1 (start N vs) H _ I hq) (λfl s' hs=>?_) λe s' hs=>hs;have fin:∀{σ':St} {H':Hp} {v:V} {u:Value},Inv (Nr CX P w K mg base N qual scope f cdv A outer s H E) [] σ' H' s'->RelV v u->Q v H'->CE outer P w H s Q u s':=
  λ{σ' H' v u} J rv q=>⟨v,H',J.os,J.bare,J.base,J.hok,rv,q⟩
 cases fl with
 | ret u=>
  obtain⟨v,σ',H',J,rv,q⟩:=hs;exact fin J rv q
 | next=>
  obtain⟨σ',H',J,q⟩:=hs;exact fin (v:=V.non) (u:=Value.none) J rfl q
 | brk=>
  obtain⟨_,_,_,q⟩:=hs;exact False.elim q
 | cont=>
  obtain⟨_,_,_,q⟩:=hs;exact False.elim q
section
variable {X:Cx} {x:Str} {p pos:Pos} {e:Expr} {es:YJ} {t:TA} {id T:String} {r:YG->Hp->VK->Prop}
def tCB (r:YG->Hp->VK->Prop) (t:TA):TE:=fun U H Q=>t U H λvs H1=>r vs H1 Q
theorem Aw (hc:Ft X (.builtin id) r) (hg:Gl X x) (hm:X.mg x=none) (hv:bootBuiltins x=some (.builtin id)) (ha:PA X (e::es) t) (hn:x≠"__name__":=by decide) (hdb:(x == ("__debug__":Str))=false:=by decide)
  (he:starEach (e::es) X.env=(false,eval e X.env)::starEach es X.env:=by rfl) (hpl:(backTo pos (starEach es X.env)).any (·.1)=false:=by rfl):PE X (.Call (.Name x p) (e::es) [] pos) (tCB r t):=by
 intros Q I h;refine Qbh (M8 I hg hm hv ?_ hn hdb);refine PyProof.Rows.callWith_builtin1 (thn (ha pos jb s U H _ I h) λus s1 zz=>?_) he hpl;obtain⟨vs,H1,I1,r1,q1⟩:=zz;exact hc jb s1 U H1 vs us Q I1 r1 q1
theorem Jg (hc:Ft X (.type T) r) (hg:Gl X x) (hm:X.mg x=none) (hv:bootBuiltins x=some (.type T)) (ha:PA X (e::es) t) (hn:x≠"__name__":=by decide) (hdb:(x == ("__debug__":Str))=false:=by decide)
  (he:starEach (e::es) X.env=(false,eval e X.env)::starEach es X.env:=by rfl) (hpl:(backTo pos (starEach es X.env)).any (·.1)=false:=by rfl):PE X (.Call (.Name x p) (e::es) [] pos) (tCB r t):=by
 intros Q I h;refine Qbh (M8 I hg hm hv ?_ hn hdb);refine Qae (thn (ha pos jb s U H _ I h) λus s1 zz=>?_) he hpl;obtain⟨vs,H1,I1,r1,q1⟩:=zz;exact hc jb s1 U H1 vs us Q I1 r1 q1
end
end L2
namespace HT
open PySem PyProof.Rows
section
open PySem.SeqAt
open PySem.AutoSeq1 (wpAny_loadPart')
open PySem.MeetsSeq PySem.MeetsSeq2 PySem.MeetsSeq3
end
section
variable {prog:Program} {w:World} {A:Around} {E:YA} {s:Shared}
theorem A9 {t b:Addr} {vs ws:YE} {Q:YA} (ht:IsTup s.heap t vs.toArray) (hb:IsTup s.heap b ws.toArray) (hv:vs≠[])
  (h1:ws=[]->Q (.ref t) s) (h2:ws≠[]->Q (.ref ∅) { s with heap:=s.heap.push { cls:=.type "tuple",data:=.seq (vs++ws).toArray } })
  (hsz:vs.length+ws.length<=sizeLine):wpAny (model prog w) A (binaryOp .Add (.ref t) (.ref b)) Q E s:=by
 obtain⟨⟨cls,dd,data,sl⟩,ho,hc,n,hd⟩:=id ht;obtain⟨⟨cls2,dd2,data2,sl2⟩,ho2,hc2,n2,hd2⟩:=id hb;simp only at hc hd hc2 hd2;subst hc hd hc2 hd2;have e:vs.toArray++ws.toArray=(vs++ws).toArray:=by simp
 by_cases hw:ws=[]
 ·exact concat_meets ⟨_,ho,rq⟩ ⟨_,ho2,rq⟩ noFill_tuple_add seq_tuple_add PySem.F.slot_tuple_add PySem.F.entry_tuple_add (PySem.F.args_tuple_add_2 _ _)
   (tuple_addW1 t b vs.toArray ws.toArray n n2 dd dd2 sl sl2 (by simpa using hv) (by simp[hw])) ⟨ho,ho2,h1 hw⟩
 ·refine concat_meets ⟨_,ho,rq⟩ ⟨_,ho2,rq⟩ noFill_tuple_add seq_tuple_add PySem.F.slot_tuple_add PySem.F.entry_tuple_add (PySem.F.args_tuple_add_2 _ _)
   (tuple_addW2 t b vs.toArray ws.toArray n n2 dd dd2 sl sl2 (by simpa using hv) (by simpa using hw) (by rw[Qbl,Qbl];exact hsz)) ⟨ho,ho2,?_⟩
  rw[e];exact h2 hw
def sIx (n d:Nat):Option Int->Nat
 | none=>d
 | some v=>if v < 0 then (v+(n:Int)).toNat else min v.toNat n
theorem Rb (n d:Nat):sIx n d none=d:=rfl
theorem T6 (n d k:Nat):sIx n d (some (k:Int))=min k n:=by
 show (if (k:Int) < 0 then ((k:Int)+(n:Int)).toNat else min (k:Int).toNat n)=min k n
 rw[if_neg (by omega),Qbo]
theorem Cn (n d:Nat) (hd:d<=n) (o:Option Int):sIx n d o<=n:=by
 cases o with
 | none=>exact hd
 | some v=>
  show (if v < 0 then (v+(n:Int)).toNat else min v.toNat n)<=n
  by_cases hv:v < 0
  ·rw[if_pos hv];omega
  ·rw[if_neg hv];exact Nat.min_le_right _ _
theorem jY (v:Int) (n d:Nat):(if v < 0 then max (v+(n:Int)) 0 else min v (n:Int))=((sIx n d (some v):Nat):Int):=by
 show (if v < 0 then max (v+(n:Int)) 0 else min v (n:Int))=(((if v < 0 then (v+(n:Int)).toNat else min v.toNat n):Nat):Int)
 by_cases hv:v < 0
 ·simp only[if_pos hv];omega
 ·simp only[if_neg hv];omega
theorem oG (lo hi:Option Int) (n:Nat):Builtin.Slice.sliceAdjust lo hi 1 (n:Int)=(((sIx n 0 lo:Nat):Int),((sIx n n hi:Nat):Int)):=by
 have h1:¬((1:Int) < 0):=by omega
 unfold Builtin.Slice.sliceAdjust;simp only[h1,if_false];refine Prod.ext ?_ ?_
 ·cases lo with
  | none=>rfl
  | some v=>exact jY v n 0
 ·cases hi with
  | none=>rfl
  | some v=>exact jY v n n
theorem lZ (i j:Nat):Builtin.Slice.slicePlaces (i:Int) (j:Int) 1=j - i:=by
 unfold Builtin.Slice.slicePlaces;have h1:(1:Int) > 0:=by omega
 simp only[h1,if_true,Int.ediv_one];split <;> omega
theorem Wm {v:Value} {o:Option Int} {Q:Option Int->Shared->Prop} (p:IsPart v o) (h:Q o s):wpAny (model prog w) A (Builtin.Slice.slicePartIndex v) Q E s:=by
 cases p with
 | none=>exact slicePart_none h
 | int i t=>exact slicePart_int h
theorem Oe {sl:Addr} {vl vu:Value} {lo hi:Option Int} {n:Nat} {Q:Int×Int×Nat->Shared->Prop} (hs:s.heap.IsSliceOf sl vl vu .none) (pl:IsPart vl lo) (pu:IsPart vu hi)
  (h:Q (((sIx n 0 lo:Nat):Int),1,sIx n n hi - sIx n 0 lo) s):wpAny (model prog w) A (Builtin.Slice.sliceApplied (.ref sl) (pure (n:Int))) Q E s:=by
 obtain⟨os,hos,hcs,hds⟩:=id hs;unfold Builtin.Slice.sliceApplied Builtin.Slice.sliceFields;refine QcC (QcC (Qcy hos hds (x:=vl) rfl (QcC (Qcy hos hds (x:=vu) rfl (QcC (Qcy hos hds (x:=.none) rfl (QcD ?_)))))));refine QcC (slicePart_none ?_);show wpAny _ _ (if ((1:Int) == 0)=true then _ else _) _ _ s
 rw[if_neg (by decide)];refine QcC (Wm pl (QcC (Wm pu (QcC (QcD ?_)))));show wpAny _ _ (match Builtin.Slice.sliceAdjust lo hi 1 (n:Int) with | (lo,hi)=>pure (lo,(1:Int),Builtin.Slice.slicePlaces lo hi 1)) _ _ s
 rw[oG lo hi n];show wpAny _ _ (pure (((sIx n 0 lo:Nat):Int),(1:Int),Builtin.Slice.slicePlaces ((sIx n 0 lo:Nat):Int) ((sIx n n hi:Nat):Int) 1)) _ _ s;rw[lZ];exact QcD h
theorem vG (xs:Array Value) (i k:Nat):((List.range k).filterMap λ(m:Nat)=>xs[((i:Int)+(m:Int)*1).toNat]?).toArray=((xs.toList.drop i).take k).toArray:=by
 have e:(λ(m:Nat)=>xs[((i:Int)+(m:Int)*1).toNat]?)=λm=>xs[i+m]?:=by
  funext m
  have:((i:Int)+(m:Int)*1).toNat=i+m:=by omega
  rw[this]
 rw[e];have:=pick_run xs i k;rw[List.filterMap_map] at this;have e2:((λx=>xs[x]?) ∘ λx=>i+x)=λm=>xs[i+m]?:=rfl;rw[e2] at this;rw[this]
theorem UL {t sl:Addr} {items:Array Value} {vl vu:Value} {lo hi:Option Int} {Q:YA} (ht:IsTup s.heap t items) (hs:s.heap.IsSliceOf sl vl vu .none) (pl:IsPart vl lo) (pu:IsPart vu hi)
  (hw:¬(sIx items.size 0 lo=0/\sIx items.size items.size hi=items.size))
  (h:Q (.ref ∅) { s with heap:=s.heap.push { cls:=.type "tuple",data:=.seq ((items.toList.drop (sIx items.size 0 lo)).take (sIx items.size items.size hi - sIx items.size 0 lo)).toArray } })
  (hsz:items.size<=sizeLine):wpAny (model prog w) A (getItem (.ref t) (.ref sl)) Q E s:=by
 have aK:sizeOk (.seq ((items.toList.drop (sIx items.size 0 lo)).take (sIx items.size items.size hi - sIx items.size 0 lo)).toArray):=by
  show ((items.toList.drop (sIx items.size 0 lo)).take (sIx items.size items.size hi - sIx items.size 0 lo)).toArray.size<=sizeLine;rw[Qbl,QbA,QbD,QaR];omega
 have hj:sIx items.size items.size hi<=items.size:=Cn _ _ (Qcv _) hi;obtain⟨os,hos,hcs,hds⟩:=id hs;have hTs:s.TypeIs (.ref sl) "slice":=⟨os,hos,hcs⟩;unfold getItem
 try with_reducible refine Qch ?_
 first | refine QcC (QcD ?_) | skip
 refine QcC (wpAny_sequenceKey ht.typeIs (by decide) ?_);refine QcC (Qat (name:=Str.ofString "__getitem__") ht.typeIs Qab
  (QbC Qab ht.typeIs entry_tuple_getitem ?_ (args_tuple_getitem _ _)))
 show wpAny _ _ (Builtin.Tuple.tupleItemsOf (.ref t) >>= _) _ _ s;refine QcC (tupleItemsOf_ ht ?_);refine QcC (wpAny_typeOf hTs ?_);rw[if_pos (by decide)];refine QcC (Oe hs pl pu ?_);have hno:¬((((sIx items.size 0 lo:Nat):Int) == 0&&(1:Int) == 1&&(sIx items.size items.size hi - sIx items.size 0 lo) == items.size)=true):=by
  intro q;rw[QbF,QbF] at q;have q1:((sIx items.size 0 lo:Nat):Int)=0:=eq_of_beq q.1.1;have q2:sIx items.size items.size hi - sIx items.size 0 lo=items.size:=eq_of_beq q.2;exact hw ⟨by omega,by omega⟩
 show wpAny _ _ (if (((sIx items.size 0 lo:Nat):Int) == 0&&(1:Int) == 1&&(sIx items.size items.size hi - sIx items.size 0 lo) == items.size)=true then _ else _) _ _ s
 rw[if_neg hno,vG]
 first
  | exact QcC (m:=Builtin.Tuple.tupleExact _) (Qbr (QcD ⟨_,rfl,QcD h⟩) aK)
  | exact QcC (m:=Builtin.Tuple.tupleExact _) (Qbr (QcC (QcD (QcD ⟨_,rfl,QcD h⟩))) aK)
  | exact QcC (QcC (m:=Builtin.Tuple.tupleExact _) (Qbr (QcD (QcD ⟨_,rfl,QcD h⟩)) aK))
  | exact QcC (QcC (m:=Builtin.Tuple.tupleExact _) (Qbr (QcD ⟨_,rfl,QcD h⟩) aK))
end
end HT
namespace L2
open PySem PySem.Spec PyProof.Rows
abbrev TO:=St->Hp->(Option Int->Hp->Prop)->Prop
def PO (X:Cx) (e:Option Expr) (t:TO):Prop:=
 ∀(jb:YC) (s:Shared) (U : St) (H:Hp) (Q:Option Int->Hp->Prop),H^^^s->t U H Q ->
  ‹X› (evalPart e X.env) (λu s'=>∃o H',Inv X jb U H' s'/\IsPart u o/\Q o H') X.xe s
def zR:TO:=λ_ H Q=>Q none H
def Fs (t:TE):TO:=fun U H Q=>t U H λx H1=>∃i,x=.int i/\Q (some i) H1
theorem intsAre_of {ns:List Int}:∀{us:YE},Vals (ns.map V.int) us->IntsAre us ns:=by
 induction ns with
 | nil=>intro us r;rw[Qcu] at r;cases r;exact .nil
 | cons n ns ih=>
  intro us r;rw[Qce] at r;cases r with
  | cons r1 r2=>
   obtain⟨t,e⟩:=r1;subst e;exact .cons n t (ih r2)
section
variable {X:Cx} {e:Expr} {te:TE} {lo hi:Option Expr} {tl th:TO} {pos p2:Pos}
theorem Ks:PO X none zR:=by
 intros Q I h;rw[evalPart_none];exact QcD ⟨none,H,I,.none,h⟩
theorem Kr (h:PE X e te):PO X (some e) (Fs te):=by
 intros Q I hw;rw[evalPart_some];refine thn (h jb s U H _ I hw) λu s1 zz=>?_;obtain⟨x,H1,I1,r1,q1⟩:=zz;obtain⟨i,rfl,q⟩:=q1;obtain⟨t,rfl⟩:=r1;exact⟨some i,H1,I1,.int i t,q⟩
def SlR (X:Cx) (r:V->Option Int->Option Int->Hp->VK->Prop):Prop:=
 ∀(jb:YC) (s:Shared) (U : St) (H:Hp) (x:V) (v vl vu:Value) (lo hi:Option Int) (sl:Addr) (Q:VK),H^^^s->RelV x v->s.heap.IsSliceOf sl vl vu .none->IsPart vl lo->IsPart vu hi->r x lo hi H Q ->
  ∃T id,typeLookup (.type T) "__getitem__"=pure (some (.builtin id))/\s.TypeIs v T/\‹X› (getItem v (.ref sl)) (EP X jb U Q) X.xe s
def tSl (r:V->Option Int->Option Int->Hp->VK->Prop) (te:TE) (tl th:TO):TE:=fun U H Q=>te U H λx H1=>tl U H1 λl H2=>th U H2 λu H3=>r x l u H3 Q
theorem Je {r:V->Option Int->Option Int->Hp->VK->Prop} (hr:SlR X r) (he:PE X e te) (hl:PO X lo tl) (hu:PO X hi th):PE X (.Subscript e (.Slice lo hi none p2) pos) (tSl r te tl th):=by
 intros Q I h;refine Subscript_ (thn (he jb s U H _ I h) λv s1 zz=>?_);obtain⟨x,H1,I1,r1,q1⟩:=zz;refine wpAny_Slice (thn (hl jb s1 U H1 _ I1 q1) λvl s2 zz=>?_);obtain⟨l,H2,I2,pl,q2⟩:=zz;refine thn (hu jb s2 U H2 _ I2 q2) λvu s3 zz=>?_;obtain⟨u,H3,I3,pu,q3⟩:=zz;rw[evalPart_none];refine QcD ?_;have I4:Inv X jb U H3 { s3 with heap:=s3.heap.push { cls:=.type "slice",data:=.fields #[vl,vu,.none] } }:=I3.kept (t':=s3.toks) λb ob q=>Qay _ q;obtain⟨T,id,hT,ht,hg⟩:=hr jb { s3 with heap:=s3.heap.push { cls:=.type "slice",data:=.fields #[vl,vu,.none] } } U H3 x v vl vu l u s3.heap.objs.size Q I4 r1 (Heap.IsSliceOf.new ..) pl pu q3;show ‹X› (subscriptTail e (.Slice lo hi none p2) v (.ref s3.heap.objs.size)) (EP X jb U Q) X.xe { s3 with heap:=s3.heap.push { cls:=.type "slice",data:=.fields #[vl,vu,.none] } };exact tail_any (ops:=[.ref s3.heap.objs.size,v]) ht hT hg (by with_unfolding_all rfl)
def Hu (xs:YG) (lo hi:Option Int):YG:=(xs.drop (HT.sIx xs.length 0 lo)).take (HT.sIx xs.length xs.length hi - HT.sIx xs.length 0 lo)
theorem Va (xs:YG) (lo hi:Option Int):(Hu xs lo hi).length<=xs.length:=by
 unfold Hu;rw[QbA,QbD];omega
def IB (K:YD):V->Option Int->Option Int->Hp->VK->Prop:=λx lo hi H Q=>∃a xs,x=.ref a/\SqT K H a xs /\
 ¬(HT.sIx xs.length 0 lo=0/\HT.sIx xs.length xs.length hi=xs.length)/\∀p,H p=none->Q (.ref p) (upd H p (.tup (Hu xs lo hi)))
theorem Cf:SlR X (IB X.K):=by
 intros x v vl vu lo hi sl Q I rx hs pl pu h;obtain⟨a,xs,rfl,hx,hw,q⟩:=h;cases rx;obtain⟨its,r,ht,hz⟩:=I.tuple hx;have hlen:its.toArray.size=xs.length:=by rw[Qbl];exact r.length.symm
 refine⟨"tuple",_,Qab.lookup,ht.typeIs,?_⟩;refine HT.UL ht hs pl pu (by rw[hlen];exact hw) ?_ (by rw[hlen];exact hz);rw[hlen];refine⟨.ref ∅,_,I.laid (t':=s.toks) (o:=.tup (Hu xs lo hi)) (λb ob q=>Qay _ q) (Qcv _) ?_,rq,q _ (I.hok.fresh (Qcv _))⟩;exact⟨Qco (Va xs lo hi) hz,_,(r.drop (HT.sIx xs.length 0 lo)).take (HT.sIx xs.length xs.length hi - HT.sIx xs.length 0 lo),IsTup.new _ _⟩
def FI (K:YD):R2:=λx y H Q=>∃a b xs ys,x=.ref a/\y=.ref b/\SqT K H a xs/\SqT K H b ys/\xs≠[]/\xs.length+ys.length<=sizeLine /\
 (ys=[]->Q (.ref a) H)/\(ys≠[]->∀p,H p=none->Q (.ref p) (upd H p (.tup (xs++ys))))
theorem Vals.Yu {xs:YG} {us:YE} (r:Vals xs us):us=[] ↔ xs=[]:=by
 cases r with
 | nil=>simp
 | cons _ _=>simp
theorem AC:OpR X (binaryOp .Add) (FI X.K):=by
 intros x y v u Q I rx ry h;obtain⟨a,b,xs,ys,rfl,rfl,ha,hb,hx,hz,q1,q2⟩:=h;cases rx;cases ry;obtain⟨its,r1,p1,_⟩:=I.tuple ha;obtain⟨its2,r2,p2,_⟩:=I.tuple hb;refine HT.A9 p1 p2 (λz=>hx (r1.Yu.mp z)) (λz=>⟨.ref a,H,I,rq,q1 (r2.Yu.mp z)⟩) (λz=>?_) (by rw[<-r1.length,<-r2.length];exact hz);refine⟨.ref ∅,_,I.laid (t':=s.toks) (o:=.tup (xs++ys)) (λb ob q=>Qay _ q) (Qcv _) ?_,rq,q2 (λw=>z (r2.Yu.mpr w)) _ (I.hok.fresh (Qcv _))⟩;exact⟨by rw[QaV];exact hz,_,r1.append r2,IsTup.new _ _⟩
end
def ixN (n:Nat) (i:Int):Option Nat:=if 0<=i then (if i < n then some i.toNat else none) else if -(n:Int)<=i then some (i+n).toNat else none
def atI {α : Type} (xs:List α) (i:Int):Option α:=(ixN xs.length i).bind λj=>xs[j]?
theorem jH {n:Nat} {i:Int} {j:Nat} (h:ixN n i=some j):seqIndex? i n=some j/\j < n/\-(n:Int)<=i/\i < n:=by
 unfold ixN at h;by_cases h0:0<=i
 ·rw[if_pos h0] at h;by_cases h1:i < n
  ·rw[if_pos h1] at h;have e:i.toNat=j:=QbN h;exact⟨by rw[seqIndex_of h0 h1,e],by omega,by omega,h1⟩
  ·rw[if_neg h1] at h;cases h
 ·rw[if_neg h0] at h;by_cases h1:-(n:Int)<=i
  ·rw[if_pos h1] at h;have e:(i+n).toNat=j:=QbN h;exact⟨by rw[seqIndex_neg (by omega) h1,e],by omega,h1,by omega⟩
  ·rw[if_neg h1] at h;cases h
theorem Zc {α : Type} {xs:List α} {i:Int} {v:α} (h:atI xs i=some v):∃j,seqIndex? i xs.length=some j/\xs[j]?=some v/\j < xs.length/\-(xs.length:Int)<=i/\i < xs.length:=by
 unfold atI at h;cases e:ixN xs.length i with
 | none=>rw[e] at h;cases h
 | some j=>
  rw[e] at h;obtain⟨h1,h2,h3,h4⟩:=jH e;exact⟨j,h1,h,h2,h3,h4⟩
theorem Fq {α : Type} {xs:List α} {j:Nat} {v:α} (h:xs[j]?=some v):atI xs (j:Int)=some v:=by
 have hj:j < xs.length:=(Qai.mp h).1;have e:ixN xs.length (j:Int)=some j:=by
  unfold ixN;rw[if_pos (by omega),if_pos (by omega)];simp
 unfold atI;rw[e];exact h
def BB (b:Expr):Prop:=∀o i,subscripted b false o i=operate [o,i] (getItem o i)
def IxR (X:Cx) (r:R2):Prop:=
 ∀(value slice:Expr) (jb:YC) (s:Shared) (U : St) (H:Hp) (x y:V) (v u:Value) (Q:VK),H^^^s->RelV x v->RelV y u->r x y H Q ->
  subscripted slice false v u=operate [v,u] (getItem v u)->‹X› (subscriptTail value slice v u) (EP X jb U Q) X.xe s
def MtR (X:Cx) (id:String) (r:V->YG->Hp->VK->Prop):Prop:=
 ∀(jb:YC) (s:Shared) (U : St) (H:Hp) (x:V) (xs:YG) (v:Value) (us:YE) (Q:VK),H^^^s->RelV x v->Vals xs us->r x xs H Q ->
  ‹X› (call (.builtin id) (v::us)) (EP X jb U Q) X.xe s
section
variable {X:Cx} {a b:Expr} {ta tb:TE} {pos:Pos}
theorem Bj {r:R2} (hr:IxR X r) (ha:PE X a ta) (hb:PE X b tb) (hs:BB b):PE X (.Subscript a b pos) (tOp r ta tb):=by
 intros Q I h;exact Subscript_ (yx ha hb I h λv u s2 x y H2 I2 rx ry q=>hr a b jb s2 U H2 x y v u Q I2 rx ry q (hs _ _))
inductive vh (K:YD) (x:V) (y:V) (H:Hp) (Q:VK):Prop
 | mk (p:Addr) (xs:YG) (i:Int) (v:V) (_:x=.ref p) (_:y=.int i) (_:SqL K H p xs) (_:atI xs i=some v) (_:Q v H):vh K x y H Q
inductive vg (K:YD) (x:V) (y:V) (H:Hp) (Q:VK):Prop
 | mk (p:Addr) (xs:YG) (i:Int) (v:V) (_:x=.ref p) (_:y=.int i) (_:SqT K H p xs) (_:atI xs i=some v) (_:Q v H):vg K x y H Q
def ID:R2:=λx y H Q=>∃z i c,x=.str z/\y=.int i/\z.length<=sizeLine/\atI z.cps.toList i=some c/\Q (.str ⟨#[c]⟩) H
theorem Dn:IxR X (vh X.K):=by
 intro value slice jb s U H x y v u Q I rx ry h hs;obtain⟨p,xs,i,z,rfl,rfl,hq,he,q⟩:=h;cases rx;obtain⟨t,rfl⟩:=ry;obtain⟨its,r,pl,hz⟩:=I.list hq;obtain⟨j,h1,h2,h3,h4,h5⟩:=Zc he;obtain⟨w,ew,rw'⟩:=r.get h2;have hl:=r.length;have hn:=M7;have fin:EP X jb U Q w s:=⟨z,H,I,rw',q⟩;by_cases h0:0<=i
 ·have hj:i.toNat=j:=by
   rw[seqIndex_of h0 h5] at h1;exact QbN h1
  exact item_listR pl.isList h0 (by omega) (by rw[hj];simpa using ew) fin hs
 ·have hj:(i+(its.toArray.size:Int)).toNat=j:=by
   rw[seqIndex_neg (by omega) h4] at h1;rw[Qbl,<-hl];exact QbN h1
  exact subscriptTail_builtinR (x:=w) pl.isList.typeIs slot_list_getitem.lookup
   (wpAny_getItem_list_neg (Q:=λr s'=>r=w/\EP X jb U Q r s') pl.isList (by omega) (by rw[Qbl] <;> omega) (by omega) (by rw[hj];simpa using ew) ⟨rq,fin⟩) hs
theorem Bw:IxR X (vg X.K):=by
 intro value slice jb s U H x y v u Q I rx ry h hs;obtain⟨p,xs,i,z,rfl,rfl,hq,he,q⟩:=h;cases rx;obtain⟨t,rfl⟩:=ry;obtain⟨its,r,pl,hz⟩:=I.tuple hq;obtain⟨j,h1,h2,h3,h4,h5⟩:=Zc he;obtain⟨w,ew,rw'⟩:=r.get h2;have hl:=r.length;have hn:=M7;have fin:EP X jb U Q w s:=⟨z,H,I,rw',q⟩;exact subscriptTail_builtinR (x:=w) pl.typeIs slot_tuple_getitem.lookup
  (getItem_tuple (j:=j) (Q:=λr s'=>r=w/\EP X jb U Q r s') pl (by omega) (by omega) (by rw[Qbl,<-hl];exact h1) (by simpa using ew) ⟨rq,fin⟩) hs
theorem DF:IxR X ID:=by
 intro value slice jb s U H x y v u Q I rx ry h hs;obtain⟨z,i,c,rfl,rfl,hz,he,q⟩:=h;obtain⟨t,rfl⟩:=rx;obtain⟨t',rfl⟩:=ry;obtain⟨j,h1,h2,h3,h4,h5⟩:=Zc he;have hl:z.cps.toList.length=z.length:=by simp[Str.length]
 rw[hl] at h1 h4 h5;have hn:=M7;exact tail_any (typeIs_str s z t) slot_str_getitem.lookup (getItem_str (c:=c) (by
  have e1:decide (i < -(2 ^ 63:Int))=false:=QbL (by omega);have e2:decide (i ≥ 2 ^ 63)=false:=QbL (by omega);rw[e1,e2,Bool.or_false]) (by rw[h1];simpa using h2) ⟨.str ⟨#[c]⟩,H,I.tok _,⟨_,rq⟩,q⟩) hs
theorem mU (its:YE) (n j:Nat) (u:Value):Obj.mapSeq (·.setIfInBounds j u) { cls:=.type "list",data:=.seq its.toArray n }={ cls:=.type "list",data:=.seq (its.set j u).toArray n }:=by
 simp[Obj.mapSeq]
theorem Inv.lst {jb:YC} {U : St} {H:Hp} {s:Shared} {p:Addr} {xs:YG} (I:H^^^s) (h:H p=some (.lst xs)) :
  ∃(its:YE) (n:Nat),Vals xs its/\s.heap.get? p=some { cls:=.type "list",data:=.seq its.toArray n }/\xs.length<=sizeLine:=by
 obtain⟨z,its,n,r,e⟩:=I.hok p _ h;exact⟨its,n,r,e,z⟩
theorem Inv.Dx {jb:YC} {U : St} {H:Hp} {s:Shared} {p:Addr} {xs ys:YG} {its its':YE} {n n':Nat} {f:Obj->Obj} (I:H^^^s) (h:H p=some (.lst xs))
  (ho:s.heap.get? p=some { cls:=.type "list",data:=.seq its.toArray n }) (hf:f { cls:=.type "list",data:=.seq its.toArray n }={ cls:=.type "list",data:=.seq its'.toArray n' }) (r:Vals ys its') (hz:ys.length<=sizeLine) (t:Nat) :
  Inv X jb U (upd H p (.lst ys)) { s with heap:=s.heap.update p f,toks:=t }:=by
 have e:(s.heap.update p f).get? p=some { cls:=.type "list",data:=.seq its'.toArray n' }:=by
  rw[QaF f ho (by rw[hf] <;> rfl),hf]
 refine I.write (x:=p) (e:=p) (by rw[h];trivial) (.inl rfl) (λb u hb q=>(QaB _ _ (Ne.symm hb)).trans q) ⟨_,e⟩ ?_;exact⟨hz,its',n',r,e⟩
def FH:V->V->V->Hp->(Hp->Prop)->Prop:=λo i v H Q=>∃p xs k j,o=.ref p/\i=.int k/\H p=some (.lst xs)/\ixN xs.length k=some j/\Q (upd H p (.lst (xs.set j v)))
theorem set_list:E9 X FH:=by
 intros o i v ov iv u Q I ro ri rv h;obtain⟨p,xs,k,j,rfl,rfl,hp,hj,q⟩:=h;cases ro;obtain⟨t,rfl⟩:=ri;obtain⟨its,n,r,ho,hz⟩:=I.lst hp;obtain⟨h1,h2,h3,h4⟩:=jH hj;have hl:=r.length;have hn:=M7;have I':Inv X jb U (upd H p (.lst (xs.set j v))) { s with heap:=s.heap.update p (Obj.mapSeq (·.setIfInBounds j u)) }:=
  I.Dx hp ho (mU its n j u) (r.set rv j) (by rw[List.length_set];exact hz) s.toks
 by_cases h0:0<=k
 ·have hk:k.toNat=j:=by
   rw[seqIndex_of h0 h4] at h1;exact QbN h1
  exact PySem.W.ki_setAt ho h0 (by omega) (by rw[Qbl,<-hl];exact h4) (by rw[hk];exact⟨_,I',q⟩)
 ·have hk:(k+(its.toArray.size:Int)).toNat=j:=by
   rw[seqIndex_neg (by omega) h3] at h1;rw[Qbl,<-hl];exact QbN h1
  exact PySem.W.ki_setBack ho (by omega) (by rw[Qbl,<-hl];exact h3) (by omega) (by rw[hk];exact⟨_,I',q⟩)
theorem bO (lo hi:Option Int) (n:Nat):(sliceBounds lo hi none n).1=((HT.sIx n 0 lo:Nat):Int)/\(sliceBounds lo hi none n).2.1=((HT.sIx n n hi:Nat):Int)/\(sliceBounds lo hi none n).2.2=1:=by
 refine⟨?_,?_,rq⟩
 ·cases lo with
  | none=>simp[sliceBounds,HT.sIx]
  | some i=>
   simp only[sliceBounds,HT.sIx,Option.getD_none,show (1:Int) > 0 by decide,if_true];by_cases h:i < 0
   ·simp only[h,if_true] <;> omega
   ·simp only[h,if_false] <;> omega
 ·cases hi with
  | none=>simp[sliceBounds,HT.sIx]
  | some i=>
   simp only[sliceBounds,HT.sIx,Option.getD_none,show (1:Int) > 0 by decide,if_true];by_cases h:i < 0
   ·simp only[h,if_true] <;> omega
   ·simp only[h,if_false] <;> omega
theorem ZX (its:YE) (lo hi:Option Int):slicePick its.toArray lo hi none=((its.drop (HT.sIx its.length 0 lo)).take (HT.sIx its.length its.length hi - HT.sIx its.length 0 lo)).toArray:=by
 obtain⟨h1,h2,h3⟩:=bO lo hi its.toArray.size;unfold slicePick;rw[h1,h2,h3];simp only[sliceRange_one,pick_run,Qbl] <;> rfl
def IC (K:YD):V->Option Int->Option Int->Hp->VK->Prop:=λx lo hi H Q=>∃a xs,x=.ref a/\SqL K H a xs/\∀p,H p=none->Q (.ref p) (upd H p (.lst (Hu xs lo hi)))
theorem Yd:SlR X (IC X.K):=by
 intros x v vl vu lo hi sl Q I rx hs pl pu h;obtain⟨a,xs,rfl,hx,q⟩:=h;cases rx;obtain⟨its,r,ht,hz⟩:=I.list hx;have hlen:=r.length;refine⟨"list",_,slot_list_getitem.lookup,ht.isList.typeIs,?_⟩;refine wpAny_getItem_list_slice ht.isList hs pl pu .none (by simp) ?_ (by rw[Qbl] <;> omega);rw[ZX,<-hlen];refine⟨.ref ∅,_,I.laid (t':=s.toks) (o:=.lst (Hu xs lo hi)) (λb ob q=>Qay _ q) (Qcv _) ?_,rq,q _ (I.hok.fresh (Qcv _))⟩;exact⟨Qco (Va xs lo hi) hz,_,0,(r.drop (HT.sIx xs.length 0 lo)).take (HT.sIx xs.length xs.length hi - HT.sIx xs.length 0 lo),QaN _ rfl⟩
def Ms:V->Bool
 | .non=>true
 | .bl _=>true
 | .int _=>true
 | .str _=>true
 | _=>false
def eqV:V->V->Bool
 | .non,.non=>true
 | .bl a,.bl b=>a == b
 | .bl a,.int b=>(if a then 1 else 0) == b
 | .int a,.bl b=>a == (if b then 1 else 0)
 | .int a,.int b=>a == b
 | .str a,.str b=>a == b
 | _,_=>false
theorem EQ {A:Around} {s:Shared} {y x:V} {u v:Value} (ry:RelV y u) (rx:RelV x v) (fy:Ms y=true) (fx:Ms x=true):SeqAt.EqAt A s u v (eqV y x):=by
 cases y with
 | non=>
  cases ry;cases x with
  | non=>cases rx;exact SeqAt.EqAt.same _
  | bl b=>cases rx;exact SeqAt.EqAt.none_bool b
  | int b=>obtain⟨t,rfl⟩:=rx;exact SeqAt.EqAt.none_int b t
  | str b=>obtain⟨t,rfl⟩:=rx;exact SeqAt.EqAt.none_str b t
  | _=>exact absurd (show false=true from fx) QaZ
 | bl a=>
  cases ry;cases x with
  | non=>cases rx;exact SeqAt.EqAt.bool_none a
  | bl b=>cases rx;exact SeqAt.EqAt.bool_bool a b
  | int b=>obtain⟨t,rfl⟩:=rx;exact SeqAt.EqAt.bool_int a b t
  | str b=>obtain⟨t,rfl⟩:=rx;exact SeqAt.EqAt.bool_str a b t
  | _=>exact absurd (show false=true from fx) QaZ
 | int a=>
  obtain⟨t',rfl⟩:=ry;cases x with
  | non=>cases rx;exact SeqAt.EqAt.int_none a t'
  | bl b=>cases rx;exact SeqAt.EqAt.int_bool a t' b
  | int b=>obtain⟨t,rfl⟩:=rx;exact SeqAt.EqAt.int_int a t' b t
  | str b=>obtain⟨t,rfl⟩:=rx;exact SeqAt.EqAt.int_str a t' b t
  | _=>exact absurd (show false=true from fx) QaZ
 | str a=>
  obtain⟨t',rfl⟩:=ry;cases x with
  | non=>cases rx;exact SeqAt.EqAt.str_none a t'
  | bl b=>cases rx;exact SeqAt.EqAt.str_bool a t' b
  | int b=>obtain⟨t,rfl⟩:=rx;exact SeqAt.EqAt.str_int a t' b t
  | str b=>obtain⟨t,rfl⟩:=rx;exact SeqAt.EqAt.str_str a t' b t
  | _=>exact absurd (show false=true from fx) QaZ
 | _=>exact absurd (show false=true from fy) QaZ
def eqU (x:V) (u:Value):Bool:=match u with
 | .none=>eqV .non x
 | .bool b=>eqV (.bl b) x
 | .int i _=>eqV (.int i) x
 | .str z _=>eqV (.str z) x
 | _=>false
theorem rM {x y:V} {u:Value} (r:RelV y u) (f:Ms y=true):eqU x u=eqV y x:=by
 cases y with
 | non=>cases r;rfl
 | bl b=>cases r;rfl
 | int i=>obtain⟨t,rfl⟩:=r;rfl
 | str z=>obtain⟨t,rfl⟩:=r;rfl
 | _=>exact absurd (show false=true from f) QaZ
theorem QK {x:V}:∀{xs:YG} {us:YE},Vals xs us->xs.all Ms=true->us.any (eqU x)=xs.any λy=>eqV y x
 | _,_,.nil,_=>rfl
 | y::xs,u::us,.cons r t,f=>by
  rw[List.all_cons,QbF] at f;rw[Qci,Qci,rM r f.1,QK t f.2]
theorem O2 {A:Around} {s:Shared} {x:V} {v:Value} (rx:RelV x v) (fx:Ms x=true):∀{xs:YG} {us:YE},Vals xs us->xs.all Ms=true->∀u∈us,SeqAt.EqAt A s u v (eqU x u)
 | _,_,.nil,_=>λu hu=>by cases hu
 | y::xs,u::us,.cons r t,f=>λu' hu=>by
  rw[List.all_cons,QbF] at f;rcases Qcd.mp hu with rfl | hu
  ·rw[rM r f.1];exact EQ r rx f.1 fx
  ·exact O2 rx fx t f.2 u' hu
def inV (x:V) (xs:YG):Bool:=xs.any λy=>eqV y x
def rIn (K:YD) (neg:Bool):R2:=λx y H Q=>∃p xs,y=.ref p/\(SqL K H p xs\/SqT K H p xs)/\Ms x=true/\xs.all Ms=true/\Q (.bl (if neg then !inV x xs else inV x xs)) H
theorem S6:OpR X (compareOp .In) (rIn X.K false):=by
 intros x y v u Q I rx ry h;obtain⟨p,xs,rfl,hq,fx,fs,q⟩:=h;cases ry;rcases hq with hq | hq
 ·obtain⟨its,r,pl,hz⟩:=I.list hq;refine SeqAt.in_listAt (eqU x) pl.isList (λw hw=>O2 rx fx r fs w (by simpa using hw)) ⟨.bl _,H,I,rq,?_⟩;rw[show its.toArray.any (eqU x)=its.any (eqU x) by simp,QK r fs];exact q
 ·obtain⟨its,r,pl,hz⟩:=I.tuple hq;refine SeqAt.in_tupleAt (eqU x) pl (λw hw=>O2 rx fx r fs w (by simpa using hw)) ⟨.bl _,H,I,rq,?_⟩;rw[show its.toArray.any (eqU x)=its.any (eqU x) by simp,QK r fs];exact q
theorem cP:OpR X (compareOp .NotIn) (rIn X.K true):=by
 intros x y v u Q I rx ry h;obtain⟨p,xs,rfl,hq,fx,fs,q⟩:=h;cases ry;rcases hq with hq | hq
 ·obtain⟨its,r,pl,hz⟩:=I.list hq;refine SeqAt.notIn_listAt (eqU x) pl.isList (λw hw=>O2 rx fx r fs w (by simpa using hw)) ⟨.bl _,H,I,rq,?_⟩;rw[show its.toArray.any (eqU x)=its.any (eqU x) by simp,QK r fs];exact q
 ·obtain⟨its,r,pl,hz⟩:=I.tuple hq;refine SeqAt.notIn_tupleAt (eqU x) pl (λw hw=>O2 rx fx r fs w (by simpa using hw)) ⟨.bl _,H,I,rq,?_⟩;rw[show its.toArray.any (eqU x)=its.any (eqU x) by simp,QK r fs];exact q
theorem Bh:Ft X (.builtin "len") (λxs H Q=>∃p ys,xs=[.ref p]/\(SqL X.K H p ys\/SqT X.K H p ys)/\Q (.int ys.length) H):=by
 intros xs us Q I r h;obtain⟨p,ys,rfl,hq,q⟩:=h;obtain⟨u,rfl,rx⟩:=vals1 r;cases rx;have hn:=M7;rcases hq with hq | hq
 ·obtain⟨its,r',pl,hz⟩:=I.list hq;have hlen:=r'.length;exact Calls.call_len_list pl.isList (by simp only[Qbl] <;> omega) ⟨.int ys.length,H,I.tok _,⟨s.toks+1,by rw[Qbl,hlen]⟩,q⟩
 ·obtain⟨its,r',pl,hz⟩:=I.tuple hq;have hlen:=r'.length;exact len_tuple pl (by simp only[Qbl] <;> omega) ⟨.int ys.length,H,I.tok _,⟨s.toks+1,by rw[Qbl,hlen]⟩,q⟩
theorem fQ:Ft X (.builtin "len") (λxs H Q=>∃z,xs=[.str z]/\z.length<=sizeLine/\Q (.int z.length) H):=by
 intros xs us Q I r h;obtain⟨z,rfl,hz,q⟩:=h;obtain⟨u,rfl,t,rfl⟩:=vals1 r;have hn:=M7;exact len_str (by omega) ⟨.int z.length,H,I.tok _,⟨_,rq⟩,q⟩
theorem fP:Ft X (.type "list") (λxs H Q=>∃p ys,xs=[.ref p]/\(SqL X.K H p ys\/SqT X.K H p ys)/\∀l,H l=none->Q (.ref l) (upd H l (.lst ys))):=by
 intros xs us Q I r h;obtain⟨p,ys,rfl,hq,q⟩:=h;obtain⟨u,rfl,rx⟩:=vals1 r;cases rx;have fin:∀(its:YE),Vals ys its->ys.length<=sizeLine->∀(h':Heap) (c':Nat),(∀b o',s.heap.get? b=some o'->h'.get? b=some o') ->
   h'.get? ∅=some { cls:=.type "list",dict:=none,data:=.seq its.toArray c',slots:=#[] }->EP X jb U Q (.ref ∅) { s with heap:=h' }:=λits r' hz h' c' kp e=>
  ⟨.ref ∅,_,I.laid (t':=s.toks) kp (Qcv _) (show Bx X.prog X.w _ h' _ (.lst ys) from⟨hz,its,c',r',e⟩),rq,q _ (I.hok.fresh (Qcv _))⟩
 rcases hq with hq | hq
 ·obtain⟨its,r',pl,hz⟩:=I.list hq;have hlen:=r'.length;obtain⟨o,ho,hc,n,hd⟩:=pl.isList;exact call_list_seq p (.inl rfl) ho hc hd (λh' c' kp e=>fin its r' hz h' c' kp e) (by simp only[Qbl] <;> omega)
 ·obtain⟨its,r',pl,hz⟩:=I.tuple hq;have hlen:=r'.length;obtain⟨o,ho,hc,n,hd⟩:=pl;exact call_list_seq p (.inr rfl) ho hc hd (λh' c' kp e=>fin its r' hz h' c' kp e) (by simp only[Qbl] <;> omega)
theorem Ib:Ft X (.type "tuple") (λxs H Q=>∃p ys,xs=[.ref p]/\((SqL X.K H p ys/\∀l,H l=none->Q (.ref l) (upd H l (.tup ys)))\/(SqT X.K H p ys/\Q (.ref p) H))):=by
 intros xs us Q I r h;obtain⟨p,ys,rfl,h⟩:=h;obtain⟨u,rfl,rx⟩:=vals1 r;cases rx;rcases h with⟨hq,q⟩|⟨hq,q⟩
 ·obtain⟨its,r',pl,hz⟩:=I.list hq;have hlen:=r'.length;refine call_tuple_list pl.isList (λh' kp=>?_) (by simp only[Qbl] <;> omega);have I1:Inv X jb U H { s with heap:=h' }:=I.kept (t':=s.toks) kp;have I2:Inv X jb U (upd H h'.objs.size (.tup ys)) { s with heap:=h'.push { cls:=.type "tuple",data:=.seq its.toArray } }:=
   I1.laid (t':=s.toks) (λb o e=>Qay _ e) (Qcv _) (show Bx X.prog X.w _ _ _ (.tup ys) from⟨hz,its,r',IsTup.new _ _⟩)
  exact⟨.ref h'.objs.size,_,I2,rq,q _ (I1.hok.fresh (Qcv _))⟩
 ·obtain⟨its,r',pl,hz⟩:=I.tuple hq;exact call_tuple_same pl ⟨.ref p,H,I,rq,q⟩
def tyV (K:YD) (T:String) (x:V) (H:Hp):Prop:=match x with
 | .str _=>T="str"
 | .int _=>T="int"
 | .ref p=>(T="list"/\∃xs,SqL K H p xs)\/(T="tuple"/\∃o,K.lookup p=some o/\o.cls=.type "tuple"/\o.dict=none) \/
   (T="dict"/\((∃kvs,H p=some (.dK kvs))\/∃kvs,H p=some (.dT kvs)))\/(T="set"/\∃S n,H p=some (.set S n))
 | _=>False
theorem BM {jb:YC} {U : St} {H:Hp} {s:Shared} {T:String} {x:V} {v:Value} (I:H^^^s) (r:RelV x v) (ty:tyV X.K T x H) :
  s.TypeIs v T/\∀a,v=.ref a->∃ob,s.heap.get? a=some ob/\ob.dict=none:=by
 cases x with
 | str z=>
  obtain⟨t,rfl⟩:=r;cases (show T="str" from ty)
  exact⟨typeIs_str s z t,λ_ e=>nomatch e⟩
 | int i=>
  obtain⟨t,rfl⟩:=r;cases (show T="int" from ty)
  exact⟨typeIs_int s i t,λ_ e=>nomatch e⟩
 | ref p=>
  cases r;rcases ty with⟨rfl,xs,hq⟩|⟨rfl,o,hk,hc,hd⟩|⟨rfl,hk⟩|⟨rfl,S,n,hk⟩
  ·obtain⟨its,_,pl,_⟩:=I.list hq;refine⟨pl.isList.typeIs,λa e=>?_⟩;cases e;obtain⟨o,n,e,c,hd,_⟩:=pl;exact⟨o,e,hd⟩
  ·refine⟨⟨o,I.kIn p o hk,hc⟩,λa e=>?_⟩;cases e;exact⟨o,I.kIn _ o hk,hd⟩
  ·have z:∃o,s.heap.get? p=some o/\o.ExactDict:=by
    rcases hk with⟨kvs,hk⟩|⟨kvs,hk⟩
    ·obtain⟨_,_,_,_,o,_,_,e,ex,_⟩:=I.hok p _ hk;exact⟨o,e,ex⟩
    ·obtain⟨_,_,_,_,o,_,_,e,ex,_⟩:=I.hok p _ hk;exact⟨o,e,ex⟩
   obtain⟨o,e,ex⟩:=z;refine⟨⟨o,e,ex.1⟩,λa e2=>?_⟩;cases e2;exact⟨o,e,ex.2.1⟩
  ·obtain⟨o,_,_,_,e,ex,_⟩:=I.hok p _ hk;refine⟨⟨o,e,ex.1⟩,λa e2=>?_⟩;cases e2;exact⟨o,e,ex.2.1⟩
 | _=>exact False.elim ty
def tBM (K:YD) (T:String) (r:V->YG->Hp->VK->Prop) (to:TE) (t:TA):TE:=fun U H Q=>to U H λx H1=>tyV K T x H1/\t U H1 λxs H2=>r x xs H2 Q
variable {o e:Expr} {es:YJ} {to:TE} {t:TA} {name:Str} {apos cpos:Pos} {T id:String} {r:V->YG->Hp->VK->Prop}
theorem Cy (pa:PlainAttrs T) (slot:Slot T name id) (hty:typeOf (.builtin id)=pure (.type "method_descriptor")) (hm:MtR X id r) (ho:PE X o to) (ha:PA X (e::es) t)
  (hbase:attributeBase o name X.env (eval o X.env)=eval o X.env:=by rfl)
  (hfew:((backTo cpos (starEach (e::es) X.env)).all (λx=>!x.1)&&(backToKw cpos (keywordEach [] X.env)).all (λx=>x.1.isSome)
  &&decide ((e::es).length+([]:List Keyword).length+(if ([]:List Keyword).isEmpty then 0 else 1) < 30))=true:=by rfl)
  (hline:(apos.endLine == cpos.line)=true:=by rfl) (hs:starEach (e::es) X.env=(false,eval e X.env)::starEach es X.env:=by rfl) (hplain:(backTo cpos (starEach es X.env)).any (·.1)=false:=by rfl) :
  PE X (.Call (.Attribute o name apos) (e::es) [] cpos) (tBM X.K T r to t):=by
 intros Q I h;refine wpAny_Call_method_late hbase hfew hline rfl (thn (ho jb s U H _ I h) λv s1 zz=>?_);obtain⟨x,H1,I1,r1,ty,q1⟩:=zz;obtain⟨h1,h2⟩:=BM I1 r1 ty;refine⟨T,id,pa,slot,hty,h1,h2,?_⟩;have hA:=ha cpos jb s1 U H1 _ I1 q1;rw[hs] at hA ⊢;refine Calls.callWith_builtin (by show (false || (backTo cpos (starEach es X.env)).any (·.1))=false;rw[hplain] <;> rfl) (Calls.evalArgs_plain ?_);refine thn hA λus s2 zz=>?_;obtain⟨vs,H2,I2,r2,q2⟩:=zz;exact hm jb s2 U H2 x vs v us Q I2 r1 r2 q2
end
def MtM (X:Cx) (id:String) (r:V->YG->Hp->VK->Prop):Prop:=
 ∀(jb:YC) (s:Shared) (U : St) (H:Hp) (x:V) (xs:YG) (v:Value) (us:YE) (Q:VK),H^^^s->RelV x v->Vals xs us->r x xs H Q ->
  ‹X› (call (.builtin id) (v::us)) (EP X jb U Q) X.xe s
theorem Vals.one:∀{x:V} {us:YE},Vals [x] us->∃u,us=[u]/\RelV x u
 | _,_,.cons r .nil=>⟨_,rfl,r⟩
theorem Vals.zero:∀{us:YE},Vals [] us->us=[]
 | _,.nil=>rfl
theorem Vals.dropLast {xs:YG} {us:YE} (h:Vals xs us):Vals xs.dropLast us.dropLast:=by
 induction h with
 | nil=>exact .nil
 | cons r t ih=>
  cases t with
  | nil=>exact .nil
  | cons q t'=>exact .cons r ih
theorem Vals.eraseIdx:∀{xs:YG} {us:YE} (i:Nat),Vals xs us->Vals (xs.eraseIdx i) (us.eraseIdx i)
 | _,_,_,.nil=>.nil
 | _,_,0,.cons _ t=>t
 | _,_,i+1,.cons r t=>.cons r (Vals.eraseIdx i t)
theorem Zu {α : Type}:∀(l:List α) (i:Nat),(l.eraseIdx i).length<=l.length
 | [],_=>Qcv _
 | _::_,0=>QcA _
 | _::r,i+1=>Nat.succ_le_succ (Zu r i)
section
variable {X:Cx} {jb:YC} {U : St} {H:Hp} {s:Shared} {l b:Addr} {xs ys zs:YG}
theorem Inv.wH {its its':YE} {n:Nat} {f:Array Value->Array Value} {t':Nat} (I:H^^^s) (hH:H l=some (.lst xs))
  (e:s.heap.get? l=some { cls:=.type "list",data:=.seq its.toArray n }) (hf:f its.toArray=its'.toArray) (hv:Vals ys its') (hz:ys.length<=sizeLine) :
  Inv X jb U (upd H l (.lst ys)) { s with heap:=s.heap.update l (Obj.mapSeq f),toks:=t' }:=by
 have q:=PySem.IsL.update e f;rw[hf] at q;refine I.write (x:=l) (e:=l) (by rw[hH];exact trivial) (.inl rfl) (λb' u hb hu=>(QaB s.heap (Obj.mapSeq f) (Ne.symm hb)).trans hu) ⟨_,q⟩ ?_;exact⟨hz,its',_,hv,q⟩
theorem Inv.IU {its:YE} {t':Nat} (I:H^^^s) (hv:Vals ys its) (hz:ys.length<=sizeLine) :
  Inv X jb U (upd H ∅ (.lst ys)) { s with heap:=s.heap.push { cls:=.type "list",data:=.seq its.toArray },toks:=t' }:=
 I.laid (λ_ _ q=>Qay _ q) (Qcv _) ⟨hz,its,0,hv,QaN _ rfl⟩
theorem Inv.fresh (I:H^^^s):H ∅=none:=I.hok.fresh (Qcv _)
theorem Inv.S9 (I:H^^^s) (hH:H l=some (.lst xs)):xs.length<=sizeLine/\∃(its:YE) (n:Nat),Vals xs its/\xs.length=its.length/\s.heap.get? l=some { cls:=.type "list",data:=.seq its.toArray n }:=by
 obtain⟨z,its,n,r,e⟩:=I.hok l _ hH;exact⟨z,its,n,r,r.length,e⟩
theorem wu {n:Nat} (h:n<=sizeLine):Builtin.List.listTooLong n=false:=by
 unfold Builtin.List.listTooLong;exact QbL (by omega)
end
section
variable {X:Cx}
def As:V->YG->Hp->VK->Prop:=λx vs H Q=>∃l xs y,x=.ref l/\vs=[y]/\H l=some (.lst xs)/\xs.length < sizeLine/\Q .non (upd H l (.lst (xs++[y])))
theorem Cv:MtM X "list.append" As:=by
 intros x vs v us Q I rx rv h;obtain⟨l,xs,y,rfl,rfl,hH,hz,q⟩:=h;cases rx;obtain⟨u,rfl,ru⟩:=rv.one;obtain⟨z,its,n,r,hl,e⟩:=I.S9 hH;refine call_meets F.slot_list_append ⟨_,e,rq⟩ F.entry_list_append (F.args_list_append_2 _ _) (PySem.list_append l its.toArray n u (by rw[Qbl];omega)) ⟨e,?_⟩;refine⟨.non,_,I.wH (its':=its++[u]) hH e (by simp) (r.append (.cons ru .nil)) ?_,rq,q⟩;rw[QaV,QaE];omega
def Ap:V->YG->Hp->VK->Prop:=λx vs H Q=>∃l b xs zs,x=.ref l/\vs=[.ref b]/\H l=some (.lst xs)/\H b=some (.lst zs)/\xs.length+zs.length<=sizeLine/\Q .non (upd H l (.lst (xs++zs)))
theorem Fe:MtM X "list.extend" Ap:=by
 intros x vs v us Q I rx rv h;obtain⟨l,b,xs,zs,rfl,rfl,hH,hB,hz,q⟩:=h;cases rx;obtain⟨u,rfl,ru⟩:=rv.one;cases ru;obtain⟨z,its,n,r,hl,e⟩:=I.S9 hH;obtain⟨z2,its2,n2,r2,hl2,e2⟩:=I.S9 hB;have hsz:its.toArray.size+its2.toArray.size<=sizeLine:=by rw[Qbl,Qbl];omega
 have Gc:¬(!its.toArray.isEmpty&&Builtin.List.listTooLong (its.toArray.size+its2.toArray.size))=true:=by
  rw[wu hsz,Bool.and_false];exact QaZ
 refine call_meets F.slot_list_extend ⟨_,e,rq⟩ F.entry_list_extend (F.args_list_extend_2 _ _)
  (AutoSeq1.list_extend_list_list_0 l its.toArray n b its2.toArray n2 Gc (by rw[Qbl];omega) (by omega)) ⟨e,e2,?_⟩
 refine⟨.non,_,I.wH (its':=its++its2) hH e (by simp) (r.append r2) ?_,rq,q⟩;rw[QaV];omega
def Co:V->YG->Hp->VK->Prop:=λx vs H Q=>∃l xs i k y,x=.ref l/\vs=[.int i]/\H l=some (.lst xs)/\-(2 ^ 63)<=i/\i < 2 ^ 63/\seqIndex? i xs.length=some k/\xs[k]?=some y/\Q y (upd H l (.lst (xs.eraseIdx k)))
theorem dD:MtM X "list.pop" Co:=by
 intros x vs v us Q I rx rv h;obtain⟨l,xs,i,k,y,rfl,rfl,hH,h1,h2,hk,hy,q⟩:=h;cases rx;obtain⟨u,rfl,ru⟩:=rv.one;obtain⟨t,rfl⟩:=ru;obtain⟨z,its,n,r,hl,e⟩:=I.S9 hH;obtain⟨w,hw,rw'⟩:=r.get hy;refine call_meets F.slot_list_pop ⟨_,e,rq⟩ F.entry_list_pop (F.args_list_pop_2 _ _)
  (MeetsSeq.list_pop_at l its.toArray n i t k w (fitsIndex_both h1 h2) (by rw[Qbl,<-hl];exact hk) (by rw[<-Array.getElem?_toList];exact hw) (by rw[Qbl];omega)) ⟨e,?_⟩
 refine⟨y,_,I.wH (its':=its.eraseIdx k) hH e ?_ (r.eraseIdx k) ?_,rw',q⟩
 ·show its.toArray.eraseIdxIfInBounds k=(its.eraseIdx k).toArray;rw[List.eraseIdxIfInBounds_toArray]
 ·have:=Zu xs k;omega
def IE:R2:=λx y H Q=>∃l b xs zs,x=.ref l/\y=.ref b/\H l=some (.lst xs)/\H b=some (.lst zs)/\xs.length+zs.length<=sizeLine/\∀p,H p=none->Q (.ref p) (upd H p (.lst (xs++zs)))
theorem cQ:OpR X (binaryOp .Add) IE:=by
 intros x y v u Q I rx ry h;obtain⟨l,b,xs,zs,rfl,rfl,hH,hB,hz,q⟩:=h;cases rx;cases ry;obtain⟨z,its,n,r,hl,e⟩:=I.S9 hH;obtain⟨z2,its2,n2,r2,hl2,e2⟩:=I.S9 hB;refine PySem.P.add_list e e2 ?_ (by rw[Qbl,Qbl];omega);have ea:its.toArray++its2.toArray=(its++its2).toArray:=by simp
 rw[ea];exact⟨.ref _,_,I.IU (t':=s.toks) (r.append r2) (by rw[QaV];omega),rq,q _ I.fresh⟩
end
section
variable {prog:Program} {w:World} {A:Around} {E:YA} {s:Shared}
set_option maxRecDepth 100000 in
end
section
variable {X:Cx}
end
end L2
namespace Att
open PySem PySem.W PySem.Calls PyProof.Rows
theorem Xe {P:Params} {h:Heap}:∀(ns:List Int) (vs:YE),WellAll P h vs (ns.map WData.int)->IntsAre vs ns:=by
 intro ns
 induction ns with
 | nil=>
  intro vs w;rw[Qcu] at w;cases w;exact .nil
 | cons n ns ih=>
  intro vs w;rw[Qce] at w;cases w with
  | cons a b=>
   cases a;exact .cons _ _ (ih _ b)
theorem pH {l:OpenLaw} {n:Nat} (hn:l.most=some n) {P:Params} {h:Heap} {args:List WData} {vals:YE}
  (hpre:l.row.toRowW.claim.pre args=true) (hwl:WellAll P h vals args) :
  ∃a vs ns,vals=[Value.ref a]/\args=[WData.list (ns.map WData.int)]/\h.get? a=some { cls:=.type "list",data:=.seq vs.toArray }/\IntsAre vs ns/\ns.length<=n:=by
 have hsh:WShape.hasAll [] args [.list .int]=true:=(pre_splitW hpre).1;have hc:l.pre.holds [] { args:=args }=true:=(pre_splitW hpre).2;obtain⟨d,r,rfl,h1,h2⟩:=hasAllW_cons hsh;obtain rfl:=hasAllW_nil h2;obtain⟨xs,rfl,h3⟩:=hasW_list h1;obtain⟨ns,rfl⟩:=items_int h3;have hlen:ns.length<=n:=by
  unfold OpenLaw.pre at hc;have h4:(WTm.not (.lt (.lit (.int (n:Int))) (.len (.arg 0)))).holds [] { args:=[.list (ns.map .int)] }=true:=by
   have h4:=(holds_andW hc).1;rw[hn] at h4;exact h4
  have h5:=condW_of h4 (w_not (w_lt w_lit (w_len_list (w_arg rfl))));rw[QbH] at h5;refine Nat.le_of_not_lt λq=>?_;have q':(n:Int) < ((ns.length:Nat):Int):=by omega
  first
   | (rw[QbX q'] at h5;exact absurd h5 (by decide))
   | (simp at h5;omega)
 cases hwl with
 | cons w1 w2=>
  cases w2;cases w1 with
  | list ho hall=>exact⟨_,_,ns,rfl,rfl,ho,Xe ns _ hall,hlen⟩
theorem pR (l:OpenLaw) (args:List WData):l.row.toRowW.claim.post args (.bool true) args=true:=
 postW_of (r:=l.row.toRowW) (X:=(true == true))
  (show WShape.has [] (.bool true) .bool=true by first | rfl | decide | simp[WShape.has,WShape.arms,WShape.armsAll])
  (show (WTm.eq .res (.lit (.bool true))).value [] { args:=args,res:=some (.bool true),after:=args }=some (.bool (true == true)) from w_eq_bool (w_res rfl) w_lit) rfl
theorem iK {l:OpenLaw} {n:Nat} {q:Program} {loose:YF} {XP:(YB)->Heap->Prop} {YP:World->Heap->Prop} {d:DefRec}
  (hn:l.most=some n) (hdf:d.params.defaults=[])
  (call:∀(w:World) (s₀ s₁ : Shared) (mg mb:YB) (fa:Addr) (o:Obj) (pm cd doc:Value) (a:Addr) (vs:YE) (ns:List Int),
   Ground q loose [] XP w s₀ mg mb s₁.heap->YP w s₁.heap ->
   s₁.heap.get? fa=some o->o.data=.func (docDef d.name d.params d.body d.scope pm cd doc)->s₁.heap.CodeRec cd d.name->mg d.name=some (.ref fa) ->
   s₁.heap.get? a=some { cls:=.type "list",data:=.seq vs.toArray }->IntsAre vs ns->ns.length<=n->s₁.gens=#[] ->
   codeAny (model l.prog w) callerA (.call (.ref fa) ⟨[.ref a],[]⟩) (λr s'=>r=.ok (.ret (.bool true))/\OldK s₁.heap s'.heap/\s'.os=s₁.os/\AllBare s'.gens) s₁) :
  WalkO q loose XP YP l.row.toRowW d [] (λf vs=>PySem.call f vs):=by
 intro w s₀ s₁ mg mb G Y fa o pm cd doc dV kV ho hd hcd hD hmg hg args vals as hpre hlay hrd hwl hlo;obtain rfl:dV=.none:=Dflts.none hD hdf;obtain rfl:kV=.none:=Dflts.noKw hD;obtain⟨a,vs,ns,rfl,rfl,hobj,hints,hlen⟩:=pH hn hpre hwl;refine enter_call (Qct (call w s₀ s₁ mg mb fa o pm cd doc a vs ns G Y ho (fd_plain hd) hcd hmg hobj hints hlen hg) λr s' hq=>?_);obtain⟨rfl,h2,h3,h4⟩:=hq;exact⟨.inl ⟨.bool true,.bool true,[],rq,λ_=>rfl,.bool true,pR l _,λ_=>⟨List.Pairwise.nil,λ_ hm=>(nomatch hm)⟩⟩,h2,h3,h4⟩
section
variable {prog:Program} {w:World} {A:Around} {E:YA} {s:Shared} {K:Frag}
def WY (h:Heap):Heap:={ h with objs:=#[] }
theorem NK (h:Heap) (b:Addr):(WY h).get? b=none:=by
 cases e:(WY h).get? b with
 | none=>rfl
 | some o=>exact absurd (Qcm e) (QbU _)
theorem EN {h:Heap} {L:Addr} {m:YB} (n:h.Ns L m):Fr (WY h) L h m:=
 ⟨n,λb o e=>(by rw[NK] at e;cases e),Qcw _⟩
end
end Att
namespace L2
open PySem PySem.Spec PyProof.Rows
theorem RQ:∀{vs:YE} {ns:List Int},IntsAre vs ns->Vals (ns.map V.int) vs
 | _,_,.nil=>.nil
 | _,_,.cons n t h=>.cons ⟨t,rfl⟩ (RQ h)
def Only (H:Hp):Prop:=∀b,H b=none\/∃o xs,H b=some (.frz o (.lst xs))
theorem wJ {P:Program} {w:World} {K:YD} {mg mb:YB} {CX:CXT} {k:Nat} {fa a:Addr} {fd:FuncData} {x:Str} {sp:Sp} {s₁ : Shared} {vs:YE} {ns:List Int}
  (KX:K.In s₁.heap) (hns:s₁.heap.Ns mainGlobals mg) (hb:s₁.heap.Ns builtinsNs mb) (hbb:∀x:Str,x≠"__name__"->mb x=bootBuiltins x) (hlim:s₁.heap.NoLimit) (hg:s₁.gens=#[])
  (ha:s₁.heap.get? a=some { cls:=.type "list",data:=.seq vs.toArray }) (hi:IntsAre vs ns) (hl:ns.length<=sizeLine) (hr:Cm k callerA)
  (F:∀base:Heap,K.In base->base.Ns mainGlobals mg->Hi P w K mg base CX k fa fd [x] sp) (hbind:∀(s:Shared) (u:Value),BindsTo s fd ⟨[u],[]⟩ [(x,u)])
  (hsp:∀H:Hp,Only H->SqL K H a (ns.map V.int)->sp [.ref a] H (λv _=>v=.bl true) λ_ _ _=>False)
  (hCX:∀H e s',CX [] H s₁ (λ_ _ _=>False) e s'->False) :
  codeAny (model P w) callerA (.call (.ref fa) ⟨[.ref a],[]⟩) (λr s'=>r=.ok (.ret (.bool true))/\OldK s₁.heap s'.heap/\s'.os=s₁.os/\AllBare s'.gens) s₁:=by
 have rv:=RQ hi;have lenV:=hi.length;have core:∀H:Hp,Only H->SqL K H a (ns.map V.int)->HOk P w H s₁.heap->(∀b,H b≠none->b=a)->(H a≠none->K.lookup a=none) ->
   codeAny (model P w) callerA (.call (.ref fa) ⟨[.ref a],[]⟩) (λr s'=>r=.ok (.ret (.bool true))/\OldK s₁.heap s'.heap/\s'.os=s₁.os/\AllBare s'.gens) s₁:=by
  intro H hO hS hok hA hK;have j6:∀{b:Addr} {o:Obj},s₁.heap.get? b=some o->H b=none->(Rk s₁.heap H).get? b=some o:=λe n=>xW e n;have noA:∀{b:Addr} {o:Obj} {es:YK} {ep:Nat},s₁.heap.get? b=some o->o.data=.dict es ep->H b=none:=λ{b o es ep} e d=>by
   cases q:H b with
   | none=>rfl
   | some u=>
    have e':b=a:=hA b (by rw[q];simp);subst e';rw[ha] at e;cases e;have d':Data.seq vs.toArray _=Data.dict es ep:=d;cases d'
  have nsK:∀{b:Addr} {m:YB},s₁.heap.Ns b m->(Rk s₁.heap H).Ns b m:=λ{b m} ⟨o,es,ep,e,d,r⟩=>⟨o,es,ep,j6 e (noA e d),d,r⟩;have hKb:K.In (Rk s₁.heap H):=λb o e=>j6 (KX b o e) (by
   cases q:H b with
   | none=>rfl
   | some u=>
    have e':b=a:=hA b (by rw[q];simp);subst e';rw[hK (by rw[q];simp)] at e;cases e)
  have hM:Mod K mg (Rk s₁.heap H):=⟨hKb,nsK hns,⟨mb,nsK hb,hbb⟩,let ⟨mc,h1,h2⟩:=hlim;⟨mc,nsK h1,h2⟩⟩;have e0:Nt P w K mg (Rk s₁.heap H) callerA [] s₁ H:=⟨rq,hM,λb o e=>AI e,Nat.le_of_eq (qT _ _),trivial,λb hb=>absurd (show b∈([]:List Addr) from hb) (by simp),hok,.of_eq hg⟩
  refine Qct ((F _ hKb (nsK hns)).run callerA [] s₁ H ⟨[.ref a],[]⟩ [.ref a] [.ref a] _ _ hr e0 (hbind s₁ (.ref a)) (.cons rfl .nil) (hsp H hO hS)) λr s' h=>?_;cases r with
  | error e=>exact (hCX H e s' h).elim
  | ok fl=>
   cases fl with
   | next=>exact False.elim h
   | brk=>exact False.elim h
   | cont=>exact False.elim h
   | ret u=>
    obtain⟨v,H',os,bare,un,hok',r',q⟩:=h;have q':v=.bl true:=q;subst q';obtain rfl:u=Value.bool true:=r';refine⟨rq,OldK.of_keep λb o e=>?_,os,bare⟩;cases q:H b with
    | none=>exact un.keep b o e q (by intro z;exact absurd (show b∈([]:List Addr) from z) (by simp)) (by simp)
    | some u=>
     rcases hO b with z |⟨ob,xs,z⟩
     ·rw[q] at z;cases z
     ·have z2:=un.Io b ob _ z;obtain⟨e1,_⟩:=hok b _ z;obtain⟨e2,_⟩:=hok' b _ z2;rw[e] at e1;cases e1;exact e2
 cases hk:K.lookup a with
 | some o=>
  have e:=KX a o hk;rw[ha] at e;cases e;refine core (λ_=>none) (λ_=>.inl rfl) (.inr ⟨_,vs.toArray,_,hk,rq,rq,rq,by rw[Qbl,lenV];exact hl,by simpa using rv⟩) (λb u z=>by have z':(none:Option HO)=some u:=z;cases z') (λb z=>absurd rfl z) λz=>absurd rfl z
 | none=>
  refine core (λb=>if b=a then some (.frz { cls:=.type "list",data:=.seq vs.toArray } (.lst (ns.map V.int))) else none) (λb=>?_) (.inl (.inr ⟨{ cls:=.type "list",data:=.seq vs.toArray },if_pos rfl⟩)) (λb u z=>?_) (λb z=>?_) λ_=>hk
  ·by_cases hb:b=a
   ·exact .inr ⟨_,_,if_pos hb⟩
   ·exact .inl (if_neg hb)
  ·by_cases hb:b=a
   ·have z':=(if_pos hb).symm.trans z;cases z';subst hb;exact⟨ha,by rw[QbH];exact hl,vs,_,rv,ha⟩
   ·have z':=(if_neg hb).symm.trans z;cases z'
  ·by_cases hb:b=a
   ·exact hb
   ·exact absurd (if_neg hb) z
theorem zO {l:PySem.W.OpenLaw} {n k:Nat} {q:Program} {loose:YF} {XP:(YB)->Heap->Prop} {YP:World->Heap->Prop} {d:DefRec} {K:Params->YD} {CX:World->CXT} {sp:World->Sp} {x:Str}
  (hn:l.most=some n) (hn2:n<=sizeLine) (hdf:d.params.defaults=[]) (hr:Cm k callerA)
  (hY:∀(w:World) (h:Heap),YP w h->(K w.params).In h)
  (F:∀(w:World) (mg:YB) (fa:Addr) (h:Heap),(K w.params).In h->h.Ns mainGlobals mg->mg d.name=some (.ref fa) ->
   ∃fd:FuncData,(∀(s:Shared) (u:Value),BindsTo s fd ⟨[u],[]⟩ [(x,u)]) /\
    ∀base:Heap,(K w.params).In base->base.Ns mainGlobals mg->Hi l.prog w (K w.params) mg base (CX w) k fa fd [x] (sp w))
  (hsp:∀(w:World) (H:Hp) (a:Addr) (ns:List Int),ns.length<=n->Only H->SqL (K w.params) H a (ns.map V.int)->sp w [.ref a] H (λv _=>v=.bl true) λ_ _ _=>False)
  (hCX:∀(w:World) (H:Hp) (s:Shared) (e:Value) (s':Shared),CX w [] H s (λ_ _ _=>False) e s'->False) :
  PySem.W.WalkO q loose XP YP l.row.toRowW d [] (λf vs=>PySem.call f vs):=by
 refine Att.iK hn hdf λw s₀ s₁ mg mb fa o pm cd doc a vs ns G Y ho hd hcd hmg hobj hints hlen hg=>?_;have KX:=hY w _ Y;obtain⟨fd,hb,hF⟩:=F w mg fa _ KX G.T.g hmg;exact wJ KX G.T.g G.T.b G.T.builtins G.T.nolimit hg hobj hints (Qco hlen hn2) hr hF hb (λH hO hS=>hsp w H a ns hlen hO hS) λH e s'=>hCX w H s₁ e s'
def inClass (s:Stmt) (j:Nat):Stmt:=match s with
 | .ClassDef _ _ _ body _ _ _ _ _ _ _=>body.getD j (.Pass ⟨0,0,0,0⟩)
 | _=>.Pass ⟨0,0,0,0⟩
def Eo (s:Stmt):Arguments:=match s with
 | .FunctionDef _ a _ _ _ _ _ _ _ _=>a
 | _=>{ posonlyargs:=[],args:=[],vararg:=none,kwonlyargs:=[],kw_defaults:=[],kwarg:=none,defaults:=[] }
def Dg (s:Stmt):List Stmt:=match s with
 | .FunctionDef _ _ b _ _ _ _ _ _ _=>b
 | _=>[]
def Aj (s:Stmt):Scope:=match s with
 | .FunctionDef _ _ _ _ _ _ sc _ _ _=>sc
 | _=>{ kind:=.function,names:=[],isGenerator:=false,isCoroutine:=false }
abbrev CX0:CXT:=λ_ _ _ _ _ _=>False
abbrev E0:XK:=λ_ _ _=>False
theorem aJ {X:Cx}:Passes CX0 X E0:=λ_ _ _ _ _ _ _ h=>h.elim
structure Fun (K:YD) (x qual:Str) (st:Stmt) (f:Addr) (fd:FuncData):Prop where
 ex:∃(oc:Value) (od:Option Addr) (kV doc pm:Value) (an:Option Addr) (cdv ct:Value) (osl:YI),
  fd=fnOf x qual (Eo st) (Dg st) (Aj st) .none kV doc pm an cdv ct/\K.lookup f=some ⟨oc,od,.func fd,osl⟩/\codeIn K cdv qual=true
 kp:keepIn K (.ref f)=true
variable {P:Program} {w:World} {K:YD} {mg:YB} {base:Heap} {op oe kd wk C:Addr} {hc c0 c1 c2 c3 c4 c5 c6 c7 c8 c9 c10 c11 c12:Addr}
theorem Fun.ok {x qual:Str} {st:Stmt} {f:Addr} {fd:FuncData} {N ps:YF} {k:Nat} {sp:Sp} (F:Fun K x qual st f fd) (S:Ay N ps (Aj st)) (len:∀vs H Q E,sp vs H Q E->vs.length=ps.length)
  (hbody:∀(cdv:Value) (A:Around) (outer:List Env) (s:Shared) (H:Hp) (vs:YG) (Q:VK) (E:XK),Cm k (A.deeper (envOfC qual (Aj st) ∅ f cdv))->sp vs H Q E ->
   ∃t,PSs (Nr CX0 P w K mg base N qual (Aj st) f cdv A outer s H E).nox (Dg st) t/\t { nx:=λ_ H'=>Q .non H',rt:=Q } (start N vs) H):Hi P w K mg base CX0 (k+1) f fd ps sp:=by
 obtain⟨oc,od,kV,doc,pm,an,cdv,ct,osl,rfl,lk,hcd⟩:=F.ex;refine zB lk hcd S len λA outer s H vs Q E hr hsp=>?_;obtain⟨t,h,q⟩:=hbody cdv A outer s H vs Q E hr hsp;exact⟨t,h.nox,q⟩
theorem Fun.binds {x qual:Str} {st:Stmt} {f:Addr} {fd:FuncData} {ps:YF} (F:Fun K x qual st f fd)
  (h:∀(kV doc pm:Value) (an:Option Addr) (cdv ct:Value) (us:YE),us.length=ps.length->bindArgs (fnOf x qual (Eo st) (Dg st) (Aj st) .none kV doc pm an cdv ct) ⟨us,[]⟩=pure (ps.zip us)):Binds K fd ps []:=by
 obtain⟨oc,od,kV,doc,pm,an,cdv,ct,osl,rfl,lk,hcd⟩:=F.ex;exact .all (h kV doc pm an cdv ct)
theorem Xi {x qual:Str} {st:Stmt} {f:Addr} {oc:Value} {od an:Option Addr} {osl:YI} {kV doc pm cdv ct:Value} (l:K.lookup f=some ⟨oc,od,.func (fnOf x qual (Eo st) (Dg st) (Aj st) .none kV doc pm an cdv ct),osl⟩)
  (c:codeIn K cdv qual=true) (k:keepIn K (.ref f)=true):Fun K x qual st f (fnOf x qual (Eo st) (Dg st) (Aj st) .none kV doc pm an cdv ct):=⟨⟨oc,od,kV,doc,pm,an,cdv,ct,osl,rq,l,c⟩,k⟩
theorem Cq {A:Around} {k:Nat} (hr:Cm k A):A.units+1 < cLine:=Nat.lt_of_le_of_lt (Nat.add_le_add_left (by decide:1<=64) _) hr.units
theorem Ar {n:Nat} (h:n<=1000):n < sizeLine:=Nat.lt_of_le_of_lt h (by decide)
section
variable {X:Cx}
theorem pv (i:Nat) {x:Str} {pos:Pos} (hN:X.N[i]?=some x:=by rfl) (hv:Vis X.env.scope x:=by first | exact Or.inl rfl | exact Or.inr (Or.inl rfl) | exact Or.inr (Or.inr rfl)) (hd:(x == ("__debug__":Str))=false:=by decide)
  (hcd:(x == ("__classdict__":Str))=false:=by decide):PE X (.Name x pos) (uI i):=CF hN hv hd hcd
end
theorem BK {A B:Prop} (h:B):if false=true then A else B:=by
 rw[if_neg QaZ];exact h
theorem BL {A B:Prop} (h:A):if true=true then A else B:=by
 rw[if_pos rfl];exact h
theorem Jx {c A B:Prop} [Decidable c] (h1:c->A) (h2:¬c->B):if c then A else B:=by
 by_cases h:c
 ·rw[if_pos h];exact h1 h
 ·rw[if_neg h];exact h2 h
theorem F4 {c A B:Prop} [Decidable c] (hc:c) (h:B):if (!decide c)=true then A else B:=by
 rw[QbX hc];exact BK h
def Same (H H':Hp):Prop:=∀b o,H b=some o->H' b=some o
theorem Same.refl (H:Hp):Same H H:=λ_ _ h=>h
theorem Same.trans {H H1 H2:Hp} (a:Same H H1) (b:Same H1 H2):Same H H2:=λc o h=>b c o (a c o h)
theorem Same.free {H H':Hp} (e:Same H H') {l:Addr} (h:H' l=Option.none):H l=Option.none:=by
 cases q:H l with
 | none=>rfl
 | some o=>
  rw[e l o q] at h;cases h
theorem Same.seq {K:YD} {H H':Hp} {a:Addr} {xs:YG} (e:Same H H') (h:SqL K H a xs):SqL K H' a xs:=by
 rcases h with (h |⟨o,h⟩) | h
 ·exact .inl (.inl (e _ _ h))
 ·exact .inl (.inr ⟨o,e _ _ h⟩)
 ·exact .inr h
def FQ (env:Env):List (Str×NameKind)->List (Str×Addr)->List (Str×Addr)
 | [],cs=>cs
 | (n,k)::r,cs=>FQ env r (if (k == .free)=true then (match env.cells.lookup n with | some c=>(n,c)::cs | none=>cs) else cs)
theorem fK {env:Env}:∀(names:List (Str×NameKind)) (cs:List (Str×Addr)),(∀p∈names,p.2=.free->∃c,env.cells.lookup p.1=some c) ->
  (forIn names cs λ(p:Str×NameKind) (r:List (Str×Addr))=>(if (p.2 == .free)=true then do
    let c <-cellOf env p.1
    pure (ForInStep.yield ((p.1,c)::r))
   else pure (ForInStep.yield r):Sem (ForInStep (List (Str×Addr)))))=pure (FQ env names cs)
 | [],cs,_=>rfl
 | (n,k)::rest,cs,h=>by
  have ih:=λcs'=>fK rest cs' λp hp=>h p (QaJ _ hp);rw[List.forIn_cons];cases hk:(k == NameKind.free) with
  | true=>
   obtain⟨c,hc⟩:=h (n,k) QaW (eq_of_beq hk);have e1:cellOf env n=pure c:=by unfold cellOf;rw[hc]
   have e2:FQ env ((n,k)::rest) cs=FQ env rest ((n,c)::cs):=by simp only[FQ,hk,if_true,hc]
   rw[e2,<-ih];simp only[hk,if_true,e1,pure_bind]
  | false=>
   have e2:FQ env ((n,k)::rest) cs=FQ env rest cs:=by simp only[FQ,hk,Bool.false_eq_true,if_false]
   rw[e2,<-ih];simp only[hk,Bool.false_eq_true,if_false,pure_bind]
theorem Ru {env:Env} {scope:Scope} (h:∀p∈scope.names,p.2=.free->∃c,env.cells.lookup p.1=some c):closureFor scope env=pure (FQ env scope.names []):=by
 have e:=fK (env:=env) scope.names [] h;unfold closureFor;simp only[bind_pure];exact e
theorem fJ {env:Env}:∀(names:List (Str×NameKind)) (cs:List (Str×Addr)),(∀x c,cs.lookup x=some c->env.cells.lookup x=some c) ->
  ∀x c,(FQ env names cs).lookup x=some c->env.cells.lookup x=some c
 | [],cs,h,x,c,e=>h x c e
 | (n,k)::rest,cs,h,x,c,e=>by
  refine fJ rest _ (λy d z=>?_) x c e;split at z
  ·split at z
   ·rename_i c' hc';rw[List.lookup_cons] at z;cases q:y == n with
    | true=>rw[q] at z;cases z;rw[eq_of_beq q];exact hc'
    | false=>rw[q] at z;exact h y d z
   ·exact h y d z
  ·exact h y d z
theorem V1 {env:Env}:∀(names:List (Str×NameKind)) (cs:List (Str×Addr)) (x:Str),((cs.lookup x).isSome=true\/((x,NameKind.free)∈names/\∃c,env.cells.lookup x=some c)) ->
  ∃c,(FQ env names cs).lookup x=some c
 | [],cs,x,h=>by
  rcases h with h |⟨h,_⟩
  ·exact Option.isSome_iff_exists.mp h
  ·cases h
 | (n,k)::rest,cs,x,h=>by
  refine V1 rest _ x ?_;have grow:(cs.lookup x).isSome=true->(List.lookup x (if (k == .free)=true then (match env.cells.lookup n with | some c=>(n,c)::cs | none=>cs) else cs)).isSome=true:=λz=>by
   split
   ·split
    ·rw[List.lookup_cons];cases x == n with
     | true=>rfl
     | false=>exact z
    ·exact z
   ·exact z
  rcases h with h |⟨h,c,hc⟩
  ·exact .inl (grow h)
  ·rcases Qcd.mp h with z | z
   ·cases z;refine .inl ?_;simp[hc,List.lookup_cons]
   ·exact .inr ⟨z,c,hc⟩
def Oj (env:Env) (n:Str) (k:NameKind):NameKind:=if (k == .free&&env.scope.kind == .function&&env.kindOf n == some .cell)=true then .cell else k
theorem W8 (env:Env):∀(l:List (Str×NameKind)) (x:Str),
  (l.map λ(n,k)=>if (k == NameKind.free&&env.scope.kind == .function&&env.kindOf n == some .cell) then (n,NameKind.cell) else (n,k)).lookup x=(l.lookup x).map (Oj env x)
 | [],_=>rfl
 | (n,k)::r,x=>by
  have ih:=W8 env r x;have e:(if (k == NameKind.free&&env.scope.kind == .function&&env.kindOf n == some .cell)=true then (n,NameKind.cell) else (n,k))=(n,Oj env n k):=by
   unfold Oj;split <;> rfl
  rw[Qce];show List.lookup x ((if (k == NameKind.free&&env.scope.kind == .function&&env.kindOf n == some .cell)=true then (n,NameKind.cell) else (n,k))::_)=_
  rw[e,List.lookup_cons,List.lookup_cons];cases q:x == n with
  | true=>rw[eq_of_beq q];rfl
  | false=>exact ih
theorem uX {env:Env} {n:Str} {k:NameKind} (h:Oj env n k=.cell\/Oj env n k=.free):k=.cell\/k=.free:=by
 unfold Oj at h;split at h
 ·rename_i q;simp only[QbF] at q;exact .inr (eq_of_beq q.1.1)
 ·exact h
theorem sH {prog:Program} {w:World} {A:Around} {R:Result->Shared->Prop} {s:Shared} {elt target iter:Expr} {ifs:YJ} {scope:Scope} {pos:Pos} {it acc:Value} {env:Env} (J:Nat->Shared->Prop)
  (turn:∀n s,J n s->wpAny (model prog w) A (pyNext it) (λr s1=>match r with
   | none=>R (.ok .next) s1
   | some v=>wpAny (model prog w) A (letOwnedTupleGo target it v) (λ_ s2=>wpAny (model prog w) A (assign target env v) (λ_ s3=>
     wpAny (model prog w) A (forIn ifs true λc r=>if r=true then do let ok <-isTrue c env (eval c env);pure (ForInStep.yield ok) else pure (ForInStep.yield r)) (λok s4=>
      if ok=true then wpAny (model prog w) A (eval elt env) (λx s5=>wpAny (model prog w) A (call (.builtin "list.append") [acc,x]) (λ_ s6=>∃m,m < n/\J m s6) (λ_ _=>False) s5) (λ_ _=>False) s4
      else ∃m,m < n/\J m s4) (λ_ _=>False) s3) (λ_ _=>False) s2) (λ_ _=>False) s1) (λ_ _=>False) s)
  (n:Nat) (h:J n s):codeAny (model prog w) A (.compLoop (.ListComp elt [⟨target,iter,ifs,0⟩] scope pos) 0 it acc env) R s:=by
 refine codeAny_loop rfl J (λk s' hk=>?_) n h;show wpAny _ A (Sem.onRaise (compTurn (.ListComp elt [⟨target,iter,ifs,0⟩] scope pos) 0 it acc env) (λx=>do noteFrame x env;theTreesLotGoes x)) _ _ s'
 refine wpAny_noted ?_;rw[compTurn_list];refine QcC (Qcj (QcC (QcE (turn k s' hk) (λr s1 q1=>?_) λ_ _ f=>f.elim)));cases r with
 | none=>exact QcD q1
 | some v=>
  refine QcC (QcE q1 (λ_ s2 q2=>QcC (QcE q2 (λ_ s3 q3=>QcC (QcE q3 (λok s4 q4=>?_) λ_ _ f=>f.elim)) λ_ _ f=>f.elim)) λ_ _ f=>f.elim);cases ok with
  | false=>exact QcD ⟨rfl,q4⟩
  | true=>exact QcC (QcC (QcE q4 (λx s5 q5=>QcC (QcE q5 (λ_ s6 q6=>QcD (QcD ⟨rfl,q6⟩)) λ_ _ f=>f.elim)) λ_ _ f=>f.elim))
def cxC (X:Cx) (N':YF) (scope:Scope) (s3:Shared) (H3:Hp) (fp:List Addr) (pn:YC):Cx where
 prog:=X.prog
 w:=X.w
 K:=X.K
 mg:=X.mg
 base:=X.base
 A:=X.A
 N:=N'
 s₀:=s3
 H₀:=H3
 env:=compEnvC scope (FQ X.env scope.names []) s3.heap.objs.size X.env
 outer:=X.stack
 stack:=X.stack
 ex:=fp
 fn:=λ_=>false
 calm:=X.calm
 pn:=pn
 xe:=λ_ _=>False
structure Bk (X:Cx) (N':YF) (src:List (Option Nat)) (sc:Scope):Prop where
 kind:sc.kind=.function
 JH:∀y∈sc.names,y.2≠.cell
 loc:∀y∈sc.names,y.2=.local->sc.names.lookup y.1=some .local
 fv:∀y∈sc.names,y.2=.free->X.env.kindOf y.1=some .cell\/X.env.kindOf y.1=some .free
 len:src.length=N'.length
 src:∀(i:Nat) (x:Str) (j:Nat),N'[i]?=some x->src[i]?=some (some j)->X.N[j]?=some x/\sc.names.lookup x=some .free
def KD (src:List (Option Nat)) (U : St):St:=src.map λo=>match o with | none=>none | some j=>(U[j]?).join
def PF (X:Cx) (ifs:YJ) (t:TT):Prop:=
 ∀(jb:YC) (s:Shared) (U : St) (H:Hp) (Q:Bool->Hp->Prop),H^^^s->t U H Q ->
  ‹X› (forIn ifs true λc r=>if r=true then do let ok <-isTrue c X.env (eval c X.env);pure (ForInStep.yield ok) else pure (ForInStep.yield r)) (TP X jb U Q) X.xe s
theorem CT {X:Cx}:PF X [] (λ_ H Q=>Q true H):=λ_ _ _ H _ I h=>wpAny_tests_nil ⟨H,I,h⟩
theorem G3 {X:Cx} {c:Expr} {t:TT} (hc:PT X c t):PF X [c] t:=λjb s U H Q I h=>wpAny_tests_one (hc jb s U H Q I h)
theorem Un.ahead {fs ex:List Addr} {H H':Hp} {h h1 h':Heap} (u:Un fs ex H H' h h1) (k:∀b o,b < h.objs.size->h1.get? b=some o->h'.get? b=some o):Un fs ex H H' h h' where
 keep:=λb o e n hb hx=>k b o (Qcm e) (u.keep b o e n hb hx)
 slot:=λb o e n hb hx=>by
  obtain⟨sl,q⟩:=u.slot b o e n hb hx;exact⟨sl,k b _ (Qcm e) q⟩
 free:=u.free
 there:=λb o e hx=>by
  obtain⟨o',q⟩:=u.there b o e hx;exact⟨o',k b _ (Qcm e) q⟩
 tups:=u.tups
 Io:=u.Io
 Ju:=u.Ju
section
variable {X:Cx} {N':YF} {src:List (Option Nat)} {sc:Scope} {jb:YC} {U : St} {H:Hp} {s3:Shared} {fp:List Addr} {h1:Heap} {tk:Nat}
theorem VR (S:Bk X N' src sc) (I:H^^^s3) (hf:∀b∈fp,Hh X jb H b) (ht:∀b∈fp,b < s3.heap.objs.size)
  (ns:h1.Ns s3.heap.objs.size λ_=>none) (kp:∀b o,s3.heap.get? b=some o->h1.get? b=some o) :
  Inv (cxC X N' sc s3 H fp (X.pn++jb)) [] (KD src U) H { s3 with heap:=h1,toks:=tk }:=by
 have hcl:∀x c,(FQ X.env sc.names []).lookup x=some c->X.env.cells.lookup x=some c:=fJ sc.names [] λx c e=>by cases e
 have old:∀x c,(FQ X.env sc.names []).lookup x=some c->∃o,s3.heap.get? c=some o:=λx c e=>by
  obtain⟨v,o,ho,_⟩:=I.cell x c (hcl x c e);exact⟨o,ho⟩
 have fvh:∀x,(x,NameKind.free)∈sc.names->∃c,X.env.cells.lookup x=some c:=λx hx=>I.ok.has x (S.fv _ hx rfl);have B6:∀b,b≠X.env.locals->b∉X.fs->b∉frs X.stack:=λb h1 h2 hb=>(Qcd.mp (I.Wa b hb)).elim h1 h2;have kindOf_eq:∀x,(compEnvC sc (FQ X.env sc.names []) s3.heap.objs.size X.env).kindOf x=(sc.names.lookup x).map (Oj X.env x):=λx=>W8 X.env sc.names x;refine⟨⟨I.ok.mod,S.kind,I.ok.glob,I.ok.blt,Qcv _,λx y c e1 e2=>I.ok.inj x y c (hcl x c e1) (hcl y c e2),λx hx=>?_,λx c hf=>absurd hf QaZ,I.ok.hd,I.ok.frames,.inl rfl,λb hb=>?_,I.bs,Qco I.ok.bsz I.sz,
  λb o e hb=>?_,λb hb=>?_,I.stack,I.Xx⟩,rq,I.bare,Un.kept kp,⟨_,ns,λi x v e1 e2 e3=>?_⟩,λx c e=>?_,I.hok.fresh (Qcv _),λx c e=>I.FP x c (hcl x c e),λp hp=>?_,I.hok.kept kp,?_⟩
 ·
  have hx':(sc.names.lookup x).map (Oj X.env x)=some .cell\/(sc.names.lookup x).map (Oj X.env x)=some .free:=by
   rw[<-kindOf_eq x];exact hx
  cases q:sc.names.lookup x with
  | none=>rw[q] at hx';rcases hx' with z | z <;> cases z
  | some k=>
   rw[q] at hx';have hk:k=.cell\/k=.free:=uX (env:=X.env) (n:=x) (hx'.imp (λz=>QbN z) λz=>QbN z);have hm:=QaS q;rcases hk with rfl | rfl
   ·exact absurd rfl (S.JH _ hm)
   ·exact V1 sc.names [] x (.inr ⟨hm,fvh x hm⟩)
 ·
  obtain⟨f0,f1,f2,f3,f4,f5⟩:=hf b hb;exact⟨Qcn (ht b hb),λx c e=>f4 x c (hcl x c e)⟩
 ·
  obtain⟨f0,f1,f2,f3,f4,f5⟩:=hf b hb;rcases f3 with z | z
  ·exact I.ok.O1 b o e z
  ·exact absurd (Qbb (Qcm e) (Qco I.ok.bsz z)) (Qcg _)
 ·
  obtain⟨f0,f1,f2,f3,f4,f5⟩:=hf b hb;exact B6 b f1 f2
 ·
  have e2':(KD src U)[i]?=some (some v):=e2;unfold KD at e2';rw[Qbm] at e2';cases q:src[i]? with
  | none=>rw[q] at e2';cases e2'
  | some oj=>
   rw[q] at e2';cases oj with
   | none=>cases e2'
   | some j=>
    have e4:(U[j]?).join=some v:=QbN e2';have e5:U[j]?=some (some v):=by
     cases r:U[j]? with
     | none=>rw[r] at e4;cases e4
     | some z=>rw[r] at e4;cases z with
      | none=>cases e4
      | some y=>cases e4;rfl
    obtain⟨hN,hfr⟩:=S.src i x j e1 q;have hm:=QaS hfr;have kx:=S.fv _ hm rfl;obtain⟨m,hn,hl⟩:=I.loc;obtain⟨u,r,l⟩:=hl j x v hN e5 (.inr kx);refine⟨u,r,?_⟩;rcases l with⟨k1,_⟩|⟨_,c,hc,hcell⟩
    ·rcases kx with z | z <;> (rw[z] at k1;cases k1)
    ·obtain⟨c',hc'⟩:=V1 (env:=X.env) sc.names [] x (.inr ⟨hm,c,hc⟩);have e6:c'=c:=by
      have:=hcl x c' hc';rw[hc] at this;exact (QbN this).symm
     subst e6;refine .inr ⟨?_,c',hc',?_⟩
     ·have:(compEnvC sc (FQ X.env sc.names []) s3.heap.objs.size X.env).kindOf x=some (Oj X.env x .free):=by rw[kindOf_eq x,hfr];rfl
      show (compEnvC sc (FQ X.env sc.names []) s3.heap.objs.size X.env).kindOf x=some .cell\/(compEnvC sc (FQ X.env sc.names []) s3.heap.objs.size X.env).kindOf x=some .free;rw[this];unfold Oj;split
      ·exact .inl rfl
      ·exact .inr rfl
     ·obtain⟨o,ho,hd⟩:=hcell;exact⟨o,kp _ o ho,hd⟩
 ·
  obtain⟨v,o,ho,hd⟩:=I.cell x c (hcl x c e);exact⟨v,o,kp _ o ho,hd⟩
 ·
  have hp':p∈X.pn++jb:=(QbI.mp hp).elim id λz=>by cases z
  obtain⟨a1,a2,a3,a4,a5⟩:=I.pin p hp';exact⟨kp _ _ a1,a2,Qcn (Qcm a1),B6 p.1 a3 a4,a5⟩
 ·show (KD src U).length=N'.length;unfold KD;rw[QbH];exact S.len
theorem Tj {s1:Shared} {σ':St} {H':Hp} {h':Heap} (I:H^^^s3) (hf:∀b∈fp,Hh X jb H b) (I':Inv (cxC X N' sc s3 H fp (X.pn++jb)) [] σ' H' s1)
  (sb:Heap.SameBut s3.heap.objs.size s1.heap h'):Inv X jb U H' { s1 with heap:=h' }:=by
 have fr:H' s3.heap.objs.size=none:=I'.free;refine I.call' (s':={ s1 with heap:=h' }) (ch:=fp) I'.os ?_ ?_ I'.bare λb hb=>?_
 ·exact Un.ahead (h:=s3.heap) (h1:=s1.heap) I'.base λb o hb e=>sb.extBut b o (Qcn hb) e
 ·exact λb u e=>(I'.hok b u e).stay (λc v hc q=>sb.extBut c v (by
   intro z;rcases hc with y | y
   ·rw[<-y,z,fr] at e;cases e
   ·rw[z,fr] at y;cases y) q) (λ_ q=>q) λ_ _ q=>q
 ·obtain⟨f0,f1,f2,f3,f4,f5⟩:=hf b hb;exact⟨f3,f1,f4,λp hp=>f5 p hp⟩
end
@[irreducible] def Gp (J:It) (g:TG) (tt:TT) (te:TE) (Q:VK) (σ0:St) (H0:Hp) (l:Addr):Prop:=∃W:Nat->YN,(∃m,W 0 m σ0 H0) /\
 ∀i m σ' H',W i m σ' H'->(J.stop i H'/\Q (.ref l) H')\/(J.go i H'/\∃N:YO,(∀ σ3 H3,N σ3 H3->∃m',m' < m/\W (i+1) m' σ3 H3)/\∀x H2,J.yld i H' x H2->g x σ' H2 fun σ3 H3=>tt σ3 H3 λb H4=>
  if b=true then te σ3 H4 λy H5=>∃xs,H5 l=some (.lst xs)/\xs.length < sizeLine/\N σ3 (upd H5 l (.lst (xs++[y]))) else N σ3 H4)
def lD (wi:TI) (src:List (Option Nat)) (g:TG) (tt:TT) (te:TE):TE:=fun U H Q=>wi U H λJ H1=>∀l,H1 l=none->Gp J g tt te Q (KD src U) (upd H1 l (.lst [])) l
theorem ZF {X:Cx} {N':YF} {src:List (Option Nat)} {sc:Scope} {elt tg iter:Expr} {ifs:YJ} {pos pos':Pos} {wi:TI} {g:TG} {tt:TT} {te:TE} {use:Option (Value->Sem Unit)} {R:YA} (hc:X.calm=true) (S:Bk X N' src sc)
  (hi:PI X tg iter wi) (hg:∀s3 H3 fp pn,PG (cxC X N' sc s3 H3 fp pn) tg g) (ht:∀s3 H3 fp pn,PF (cxC X N' sc s3 H3 fp pn) ifs tt) (he:∀s3 H3 fp pn,PE (cxC X N' sc s3 H3 fp pn) elt te)
  (hs:∀x,foldedSetIterable iter X.env x=pure x) {jb:YC} {s:Shared} {U : St} {H:Hp} {Q:VK} (I:H^^^s) (h:lD wi src g tt te U H Q)
  (fin:∀s3 H3 fp σ4 H4 s5 l,H3^^^s3->(∀b∈fp,Hh X jb H3 b)->Inv (cxC X N' sc s3 H3 fp (X.pn++jb)) [] σ4 H4 s5->Q (.ref l) H4 ->
   compPost (model X.prog X.w) X.A X.xe use R (.ref l) s3.heap.objs.size (.ok .next) s5) :
  ‹X› (comprehension (.ListComp elt [⟨tg,iter,ifs,0⟩] sc pos) sc X.env pos' (newList []) false (eval iter X.env) use) R X.xe s:=by
 refine wpAny_comprehension_free (use:=use) (cl:=FQ X.env sc.names []) rfl hs (Ru λp hp e=>I.ok.has p.1 (S.fv p hp e)) S.kind S.loc ?_;refine thn (hi jb s U H _ I h) λv s1 h1=>thn h1 λitv s2 h2=>?_;obtain⟨it,fp,tn,J,H2,rfl,I2,T,st2,f2,q⟩:=h2;have q':=q s2.heap.objs.size (I2.hok.fresh (Qcv _));unfold Gp at q';obtain⟨W,⟨m0,w0⟩,turn⟩:=q';refine Qbr (wpAny_newFunctionEnv S.JH (by intro y hy;simp at hy) (λha hns hsb=>?_) S.kind);have I3:Inv X jb U (upd H2 s2.heap.objs.size (.lst [])) { s2 with heap:=s2.heap.push { cls:=.type "list",dict:=none,data:=.seq ([]:YE).toArray } }:=
  I2.laid (t':=s2.toks) (λb u e=>Qay _ e) (Qcv _) ⟨Qcw _,[],0,.nil,QaN _ rfl⟩
 have hfl:∀b∈fp,b < s2.heap.objs.size:=λb hb=>by
  obtain⟨o,e,_⟩:=T.obj 0 _ st2 b hb;exact Qcm e
 have f3:∀b∈fp,Hh X jb (upd H2 s2.heap.objs.size (.lst [])) b:=λb hb=>⟨by rw[Am (Qcn (hfl b hb))];exact (f2 b hb).1,(f2 b hb).2⟩;generalize hs3:({ s2 with heap:=s2.heap.push { cls:=.type "list",dict:=none,data:=.seq ([]:YE).toArray } }:Shared)=s3 at *;have hsz:s2.heap.objs.size < s3.heap.objs.size:=by rw[<-hs3];show s2.heap.objs.size < (s2.heap.push _).objs.size;rw[QbY];exact QbE _
 have kp:∀b o,s3.heap.get? b=some o->ha.get? b=some o:=λb o e=>hsb.extBut b o (Qcn (Qcm e)) (Qay _ e);have st3:tn 0 ha:=T.keep 0 _ _ st2 λb hb o e=>kp b o (by rw[<-hs3];exact Qay _ e);have I4:Inv (cxC X N' sc s3 (upd H2 s2.heap.objs.size (.lst [])) fp (X.pn++jb)) [] (KD src U) (upd H2 s2.heap.objs.size (.lst [])) { s3 with heap:=ha,toks:=s3.toks+([]:List (Str×Value)).length }:=
  VR S I3 f3 (λb hb=>Nat.lt_trans (hfl b hb) hsz) hns kp
 have loop:codeAny (model X.prog X.w) X.A (.compLoop (.ListComp elt [⟨tg,iter,ifs,0⟩] sc pos) 0 (.ref it) (.ref s2.heap.objs.size) (compEnvC sc (FQ X.env sc.names []) s3.heap.objs.size X.env))
   (compPost (model X.prog X.w) X.A X.xe use R (.ref s2.heap.objs.size) s3.heap.objs.size) { s3 with heap:=ha,toks:=s3.toks+([]:List (Str×Value)).length }:=by
  refine sH (λn s'=>∃i σ' H',Inv (cxC X N' sc s3 (upd H2 s2.heap.objs.size (.lst [])) fp (X.pn++jb)) [] σ' H' s'/\tn i s'.heap/\(∀b∈fp,H' b=none)/\W i n σ' H') ?_ m0 ⟨0,_,_,I4,st3,λb hb=>(f3 b hb).1,w0⟩;rintro n s4 ⟨i,σ4,H4,J4,st4,fr4,w4⟩;have stat:∀{H':Hp},(∀b∈fp,H' b=none)->∀b∈fp,Hh (cxC X N' sc s3 (upd H2 s2.heap.objs.size (.lst [])) fp (X.pn++jb)) [] H' b:=λhn b hb=>
   ⟨hn b hb,(I4.ok.exf b hb).1,I4.ok.LC b hb,.inl hb,λx c e=>(I4.ok.exf b hb).2 x c e,λp hp=>(f3 b hb).2.2.2.2.2 p ((QbI.mp hp).elim id λz=>by cases z)⟩
  rcases turn i n σ4 H4 w4 with⟨stop,qn⟩|⟨go,N,hN,step⟩
  ·refine thn (T.done (cxC X N' sc s3 (upd H2 s2.heap.objs.size (.lst [])) fp (X.pn++jb)) rfl rfl rfl hc i [] s4 σ4 H4 _ J4 (stat fr4) st4 stop) λr s5 zz=>?_;obtain⟨hr,J5⟩:=zz;subst hr;exact fin s3 _ fp σ4 H4 s5 _ I3 f3 J5 qn
  ·refine thn (T.item (cxC X N' sc s3 (upd H2 s2.heap.objs.size (.lst [])) fp (X.pn++jb)) rfl rfl rfl hc i [] s4 σ4 H4 _ J4 (stat fr4) st4 go) λr s5 zz=>?_;obtain⟨u,hr,h5⟩:=zz;subst hr;refine thn h5 λ_ s6 zz=>?_;obtain⟨x,H6,J6,r6,y6,st6,fr6⟩:=zz;have J6':=J6.pinned (stat fr6) (T.obj _ _ st6);have back:∀{pl:YC} {σ7:St} {H7:Hp} {s7:Shared},Inv (cxC X N' sc s3 (upd H2 s2.heap.objs.size (.lst [])) fp (X.pn++jb)) ([]++Oq fp s6.heap) σ7 H7 s7->N σ7 H7 ->
     ∃m',m' < n/\∃i σ' H',Inv (cxC X N' sc s3 (upd H2 s2.heap.objs.size (.lst [])) fp (X.pn++jb)) [] σ' H' s7/\tn i s7.heap/\(∀b∈fp,H' b=none)/\W i m' σ' H':=λ{pl σ7 H7 s7} J7 w7=>by
    obtain⟨m',hm,w7⟩:=hN _ _ w7;have pinned:∀b∈fp,∀o,s6.heap.get? b=some o->s7.heap.get? b=some o/\H7 b=none:=λb hb o e=>by
     have:=J7.pin (b,o) (QaD _ (QaD _ (K3 hb e)));exact⟨this.1,this.2.1⟩
    refine⟨m',hm,i+1,σ7,H7,J7.IW,T.keep _ _ _ st6 λb hb o e=>(pinned b hb o e).1,λb hb=>?_,w7⟩;obtain⟨o,e,_⟩:=T.obj _ _ st6 b hb;exact (pinned b hb o e).2
   refine thn (hg s3 _ fp _ _ s6 σ4 H6 x u _ J6' r6 (step x H6 y6)) λ_ s7 zz=>?_;obtain⟨σ7,H7,J7,q7⟩:=zz;refine thn (ht s3 _ fp _ _ s7 σ7 H7 _ J7 q7) λok s8 zz=>?_;obtain⟨H8,J8,q8⟩:=zz;cases ok with
   | false=>
    rw[if_neg QaZ] at q8 ⊢;exact back (pl:=[]) J8 q8
   | true=>
    rw[if_pos rfl] at q8 ⊢;refine thn (he s3 _ fp _ _ s8 σ7 H8 _ J8 q8) λy s9 zz=>?_;obtain⟨yv,H9,J9,r9,xs,hl9,hz9,q9⟩:=zz;refine thn (Cv _ s9 σ7 H9 (.ref s2.heap.objs.size) [yv] (.ref s2.heap.objs.size) [y] (λ_ H'=>N σ7 H') J9 rfl (.cons r9 .nil) ⟨_,xs,yv,rq,rq,hl9,hz9,q9⟩) λ_ s10 zz=>?_;obtain⟨_,H10,J10,_,q10⟩:=zz;exact back (pl:=[]) J10 q10
 exact codeAny_compStart_list loop (T.self X.A 0 _ _ _ st3 loop)
theorem Cw {X:Cx} {N':YF} {src:List (Option Nat)} {sc:Scope} {elt tg iter:Expr} {ifs:YJ} {pos:Pos} {wi:TI} {g:TG} {tt:TT} {te:TE} (hc:X.calm=true) (S:Bk X N' src sc)
  (hi:PI X tg iter wi) (hg:∀s3 H3 fp pn,PG (cxC X N' sc s3 H3 fp pn) tg g) (ht:∀s3 H3 fp pn,PF (cxC X N' sc s3 H3 fp pn) ifs tt) (he:∀s3 H3 fp pn,PE (cxC X N' sc s3 H3 fp pn) elt te)
  (hs:∀x,foldedSetIterable iter X.env x=pure x:=by intro _;rfl):PE X (.ListComp elt [⟨tg,iter,ifs,0⟩] sc pos) (lD wi src g tt te):=by
 intros Q I h;rw[eval_ListComp];refine ZF (use:=none) hc S hi hg ht he hs I h λs3 H3 fp σ4 H4 s5 l I3 f3 J5 q=>?_;obtain⟨m,hn,_⟩:=J5.loc;exact⟨m,hn,λh' sb=>⟨.ref l,H4,Tj I3 f3 J5 sb,rq,q⟩⟩
theorem T9 {X:Cx} {N':YF} {src:List (Option Nat)} {sc:Scope} {elt tg iter:Expr} {ifs:YJ} {pos spos px:Pos} {wi:TI} {g:TG} {tt:TT} {te:TE} {i:Nat} {x:Str} (hN:X.N.Nodup) (hi0:X.N[i]?=some x) (hx:Loc X.env.scope x) (hc:X.calm=true) (S:Bk X N' src sc)
  (hi:PI X tg iter wi) (hg:∀s3 H3 fp pn,PG (cxC X N' sc s3 H3 fp pn) tg g) (ht:∀s3 H3 fp pn,PF (cxC X N' sc s3 H3 fp pn) ifs tt) (he:∀s3 H3 fp pn,PE (cxC X N' sc s3 H3 fp pn) elt te)
  (hsw:swapsWith (.ListComp elt [⟨tg,iter,ifs,0⟩] sc pos) (some (.Name x px)) spos.line X.env=pure true:=by rfl) (hs:∀x,foldedSetIterable iter X.env x=pure x:=by intro _;rfl)
  (hf:X.fn x=true\/X.env.scope.names.lookup x=some .local:=by first | exact .inl rfl | exact .inr rfl | assumption) :
  PS X (.Assign [.Name x px] (.ListComp elt [⟨tg,iter,ifs,0⟩] sc pos) spos) (aY (lD wi src g tt te) (FN i)):=by
 intros D I h;rw[exec_Assign_Name_used _ _ _ _ hsw];refine QcC (Qcj (QcC ?_));show wpAny _ X.A (do let _ <-comprehension (.ListComp elt [⟨tg,iter,ifs,0⟩] sc pos) sc X.env _ (newList []) false (eval iter X.env) (some (assign (.Name x px) X.env))) _ _ s
 refine QcC (thn (ZF (R:=λ_ s'=>SP X jb D .next s') hc S hi hg ht he hs I h λs3 H3 fp σ4 H4 s5 l I3 f3 J5 q=>?_) λ_ s' hq=>QcD (QcD hq));obtain⟨m,⟨oC,es,ep,hoC,r⟩,_⟩:=J5.loc;have I6:Inv X jb U H4 { s5 with heap:=s5.heap }:=Tj I3 f3 J5 (Heap.SameBut.refl _ _);have hCn:H4 s3.heap.objs.size=none:=J5.free;have neL:s3.heap.objs.size≠X.env.locals:=Qcq I3.lt;have wC:∀v,oC.data≠.cell v:=λv z=>by rw[r.1] at z;cases z
 have I7:Inv X (jb++[(s3.heap.objs.size,oC)]) U H4 s5:=I6.Ua λp hp=>(QbI.mp hp).elim (λz=>I6.pin p (QaD _ z)) λz=>by
  cases Qbc.mp z;exact⟨hoC,hCn,neL,I3.wz (Qcv _),wC⟩
 show wpAny _ X.A (assign (.Name x px) X.env (.ref l)) _ _ s5;refine wpAny_assign_Name (Lb (v:=.ref l) I7 hN hi0 hx rfl (λs6 I8=>?_) hf);have k8:=(I8.pin (s3.heap.objs.size,oC) (QaD _ (QaD _ (Qbc.mpr rfl)))).1;refine⟨m,⟨oC,es,ep,k8,r⟩,λh' sb=>⟨_,H4,?_,q⟩⟩;have I9:=I8.IW;refine I9.turned (t':=s6.toks) (λb o hb e=>sb.extBut b o hb e) hCn neL (.inr I3.sz) (λy c e z=>?_) (λp hp z=>?_)
 ·obtain⟨v,o,ho,_⟩:=I3.cell y c e;exact absurd (Qcm ho) (by rw[z];exact Qcg _)
 ·have:=(I3.pin p hp).1;exact absurd (Qcm this) (by rw[z];exact Qcg _)
theorem Bk.of {X:Cx} {N':YF} {src:List (Option Nat)} {sc:Scope} (fsc:Scope) (N:YF) (hX:X.env.scope=fsc) (hN:X.N=N) (kind:sc.kind=.function) (JH:∀y∈sc.names,y.2≠.cell) (loc:∀y∈sc.names,y.2=.local->sc.names.lookup y.1=some .local)
  (fv:∀y∈sc.names,y.2=.free->fsc.names.lookup y.1=some .cell) (len:src.length=N'.length)
  (sr:((N'.zip src).all λp=>match p.2 with | none=>true | some j=>decide (N[j]?=some p.1)&&decide (sc.names.lookup p.1=some .free))=true):Bk X N' src sc where
 kind:=kind
 JH:=JH
 loc:=loc
 fv:=λy hy e=>.inl (by show X.env.scope.names.lookup y.1=some .cell;rw[hX];exact fv y hy e)
 len:=len
 src:=λi x j e1 e2=>by
  rw[List.all_eq_true] at sr;have hm:(x,some j)∈N'.zip src:=by
   refine QaI (i:=i) ?_;rw[List.getElem?_zip_eq_some];exact⟨e1,e2⟩
  have:=sr _ hm;simp only[QbF,decide_eq_true_eq] at this;rw[hN];exact this
section
variable {X:Cx}
@[irreducible] def Qj (K:YD):YG->Hp->VK->Prop:=λxs H Q=>∃x T t b,xs=[x,.ty T]/\LQ K H x t/\kitOne K t (.type T)=some b/\Q (.bl b) H
theorem Rv:Ft X (.builtin "isinstance") (Qj X.K):=by
 intros xs us Q I r h;unfold Qj at h;obtain⟨x,T,t,b,rfl,ty,e,q⟩:=h;obtain⟨u,w',rfl,rx,rt⟩:=vals2 r;cases rt;exact qM I rx ty e λtk=>⟨.bl b,H,I.tok tk,rq,q⟩
theorem iz {K:YD}:kitOne K (.type "int") (.type "int")=some true:=by rfl
theorem dO {K:YD}:kitOne K (.type "int") (.type "bool")=some false:=by rfl
theorem dR {K:YD}:kitOne K (.type "bool") (.type "int")=some true:=by rfl
theorem aj {K:YD}:kitOne K (.type "bool") (.type "bool")=some true:=by rfl
theorem dJ {K:YD}:kitOne K (.type "NoneType") (.type "int")=some false:=by rfl
theorem iw {K:YD}:kitOne K (.type "str") (.type "int")=some false:=by rfl
theorem dM {K:YD}:kitOne K (.type "list") (.type "int")=some false:=by rfl
theorem Z7 {K:YD}:kitOne K (.type "tuple") (.type "int")=some false:=by rfl
theorem Yw {K:YD}:kitOne K (.type "NoneType") (.type "tuple")=some false:=by rfl
theorem Yy {K:YD}:kitOne K (.type "bool") (.type "tuple")=some false:=by rfl
theorem Z9 {K:YD}:kitOne K (.type "int") (.type "tuple")=some false:=by rfl
theorem Z8 {K:YD}:kitOne K (.type "str") (.type "tuple")=some false:=by rfl
theorem Yx {K:YD}:kitOne K (.type "list") (.type "tuple")=some false:=by rfl
theorem W9 {K:YD}:kitOne K (.type "tuple") (.type "tuple")=some true:=by rfl
def Kn (H:Hp):V->Prop
 | .non=>True
 | .bl _=>True
 | .int _=>True
 | .str _=>True
 | .ref a=>(∃xs,H a=some (.lst xs))\/∃xs,H a=some (.tup xs)
 | _=>False
def isI:V->Bool
 | .int _=>true
 | .bl _=>true
 | _=>false
def isB:V->Bool
 | .bl _=>true
 | _=>false
def isW:V->Bool
 | .int _=>true
 | _=>false
def Ir (H:Hp):V->Option (YG)
 | .ref a=>match H a with
  | some (.tup xs)=>some xs
  | _=>none
 | _=>none
theorem Cd {H:Hp} {a:Addr} {xs:YG} (h:H a=some (.tup xs)):Ir H (.ref a)=some xs:=by
 show (match H a with | some (.tup xs)=>some xs | _=>none)=some xs
 rw[h]
theorem Pa {H:Hp} {a:Addr} {xs:YG} (h:H a=some (.lst xs)):Ir H (.ref a)=none:=by
 show (match H a with | some (.tup xs)=>some xs | _=>none)=none
 rw[h]
theorem dg {H:Hp} {v:V} {xs:YG} (h:Ir H v=some xs):∃a,v=.ref a/\H a=some (.tup xs):=by
 cases v with
 | ref a=>
  refine⟨a,rq,?_⟩;have h':(match H a with | some (.tup xs)=>some xs | _=>none)=some xs:=h
  split at h'
  ·rename_i e;cases h';exact e
  ·cases h'
 | _=>cases h
theorem Kn.same {H H':Hp} {v:V} (s:Same H H') (k:Kn H v):Kn H' v:=by
 cases v with
 | ref a=>exact k.imp (λ⟨xs,e⟩=>⟨xs,s _ _ e⟩) λ⟨xs,e⟩=>⟨xs,s _ _ e⟩
 | _=>exact k
theorem kY {H H':Hp} {v:V} (s:Same H H') (k:Kn H v):Ir H' v=Ir H v:=by
 cases v with
 | ref a=>
  rcases k with⟨xs,e⟩|⟨xs,e⟩
  ·rw[Pa e,Pa (s _ _ e)]
  ·rw[Cd e,Cd (s _ _ e)]
 | _=>rfl
theorem AX {K:YD} {H:Hp} {x:V} {Q:VK} (k:Kn H x) (q:Q (.bl (isI x)) H):Qj K [x,.ty "int"] H Q:=by
 unfold Qj;cases x with
 | non=>exact⟨_,_,_,_,rfl,.non,dJ,q⟩
 | bl b=>exact⟨_,_,_,_,rfl,.bl b,dR,q⟩
 | int i=>exact⟨_,_,_,_,rfl,.int i,iz,q⟩
 | str z=>exact⟨_,_,_,_,rfl,.str z,iw,q⟩
 | ref a=>
  rcases k with⟨xs,e⟩|⟨xs,e⟩
  ·exact⟨_,_,_,_,rq,.lst e,dM,q⟩
  ·exact⟨_,_,_,_,rq,.tup e,Z7,q⟩
 | _=>exact k.elim
theorem xP {K:YD} {H:Hp} {x:V} {Q:VK} (k:isI x=true) (q:Q (.bl (isB x)) H):Qj K [x,.ty "bool"] H Q:=by
 unfold Qj;cases x with
 | bl b=>exact⟨_,_,_,_,rfl,.bl b,aj,q⟩
 | int i=>exact⟨_,_,_,_,rfl,.int i,dO,q⟩
 | _=>cases k
theorem qN {K:YD} {H:Hp} {x:V} {Q:VK} (k:Kn H x) (q:Q (.bl (Ir H x).isSome) H):Qj K [x,.ty "tuple"] H Q:=by
 unfold Qj;cases x with
 | non=>exact⟨_,_,_,_,rfl,.non,Yw,q⟩
 | bl b=>exact⟨_,_,_,_,rfl,.bl b,Yy,q⟩
 | int i=>exact⟨_,_,_,_,rfl,.int i,Z9,q⟩
 | str z=>exact⟨_,_,_,_,rfl,.str z,Z8,q⟩
 | ref a=>
  rcases k with⟨xs,e⟩|⟨xs,e⟩
  ·rw[Pa e] at q;exact⟨_,_,_,_,rq,.lst e,Yx,q⟩
  ·rw[Cd e] at q;exact⟨_,_,_,_,rq,.tup e,W9,q⟩
 | _=>exact k.elim
theorem V2:∀{bs:List Bool} {us:YE},Vals (bs.map V.bl) us->LSm.BoolsAre us bs
 | [],_,.nil=>.nil
 | b::r,_,.cons h t=>by
  cases (show _=Value.bool b from h)
  exact .cons b (V2 t)
theorem Jl (hc:X.calm=true):Ft X (.builtin "all") (λxs H Q=>∃(p:Addr) (bs:List Bool),xs=[.ref p]/\SqL X.K H p (bs.map V.bl)/\Q (.bl (bs.all id)) H):=by
 intros xs us Q I r h;obtain⟨p,bs,rfl,hq,q⟩:=h;obtain⟨u,rfl,rx⟩:=vals1 r;cases rx;obtain⟨its,rv,pl,hz⟩:=I.list hq;have hb:=V2 rv;have hl:=pl.isList;have hlt:p < ∅:=by obtain⟨_,e,_⟩:=hl;exact Qcm e
 refine call_all_walk (Qbv hl ?_);refine⟨∅,[∅,p],[∅],its.toArray.size,_,_,λi=>(bs[i]?).getD true,rq,Walks.list (A:=X.A.in1) (I.ok.hd hc) _ p (Qcn hlt) its.toArray,
  ⟨⟨_,QaN _ rfl,rq,rq⟩,hl.push _⟩,λi v s' Q' E' hP hQ=>?_,λh' tk hk=>?_⟩
 ·obtain⟨b,e,rfl⟩:=hb.get i v (by simpa using hP);simp only[e,Option.getD_some] at hQ;exact Qbq hQ
 ·have e:((List.range its.toArray.size).all λi=>(bs[i]?).getD true)=bs.all id:=by
   rw[Qbl,hb.length];exact LSm.range_all bs
  rw[e];exact⟨.bl (bs.all id),H,I.kept (LSm.kept_iter hk),rq,q⟩
def Cs (K:YD):R2:=λx y H Q=>∃a b ys,x=.ref a/\y=.ref b/\SqT K H a []/\SqT K H b ys/\Q (.ref b) H
theorem vR:OpR X (binaryOp .Add) (Cs X.K):=by
 intros x y v u Q I rx ry h;obtain⟨a,b,ys,rfl,rfl,ha,hb,q⟩:=h;cases rx;cases ry;obtain⟨its,r1,p1,_⟩:=I.tuple ha;obtain⟨its2,r2,p2,_⟩:=I.tuple hb;cases r1;obtain⟨⟨cls,dd,data,sl⟩,ho,hc,n,hd⟩:=id p1;obtain⟨⟨cls2,dd2,data2,sl2⟩,ho2,hc2,n2,hd2⟩:=id p2;simp only at hc hd hc2 hd2;subst hc hd hc2 hd2;exact concat_meets ⟨_,ho,rq⟩ ⟨_,ho2,rq⟩ noFill_tuple_add seq_tuple_add PySem.F.slot_tuple_add PySem.F.entry_tuple_add (PySem.F.args_tuple_add_2 _ _)
  (tuple_addW0 a b #[] its2.toArray n n2 dd dd2 sl sl2 rfl) ⟨ho,ho2,⟨.ref b,H,I,rq,q⟩⟩
theorem Ka:OpR X (binaryOp .Add) (λx y H Q=>∃a b xs ys,x=.ref a/\y=.ref b/\H a=some (.tup xs)/\H b=some (.tup ys)/\xs.length+ys.length<=sizeLine /\
  ∀p H',H' p=some (.tup (xs++ys))->Same H H'->Q (.ref p) H'):=by
 intros x y v u Q I rx ry h;obtain⟨a,b,xs,ys,rfl,rfl,ha,hb,hz,q⟩:=h;cases xs with
 | nil=>exact vR jb s U H _ _ v u Q I rx ry ⟨a,b,ys,rfl,rfl,SqT.of ha,SqT.of hb,q b H hb (Same.refl H)⟩
 | cons x0 xr=>
  refine AC jb s U H _ _ v u Q I rx ry ⟨a,b,x0::xr,ys,rq,rq,SqT.of ha,SqT.of hb,(λz=>by cases z),hz,λz=>?_,λz p hp=>?_⟩
  ·subst z;exact q a H (by rw[QbM];exact ha) (Same.refl H)
  ·refine q p _ Ab λc o e=>?_;rw[Am (Aq e hp)];exact e
mutual
inductive Rep (H:Hp):V->PyData->Prop
 | non:Rep H .non .none
 | bl (b:Bool):Rep H (.bl b) (.bool b)
 | int (i:Int):Rep H (.int i) (.int i)
 | str (x:Str):Rep H (.str x) (.str x)
 | tup {a:Addr} {xs:YG} {ds:List PyData}:H a=some (.tup xs)->LR H xs ds->Rep H (.ref a) (.tuple ds)
 | lst {a:Addr} {xs:YG} {ds:List PyData}:H a=some (.lst xs)->LR H xs ds->Rep H (.ref a) (.list ds)
inductive LR (H:Hp):YG->List PyData->Prop
 | nil:LR H [] []
 | cons {x:V} {d:PyData} {xs:YG} {ds:List PyData}:Rep H x d->LR H xs ds->LR H (x::xs) (d::ds)
end
mutual
theorem Rep.reads {P:Program} {w:World} {H:Hp} {h:Heap} (ok:HOk P w H h):∀{v:V} {d:PyData} {u:Value},Rep H v d->RelV v u->∃as,Reads h u d as
 | _,_,_,.non,r=>by cases (show _=Value.none from r);exact⟨_,.none⟩
 | _,_,_,.bl b,r=>by cases (show _=Value.bool b from r);exact⟨_,.bool b⟩
 | _,_,_,.int i,r=>by obtain⟨t,rfl⟩:=(show ∃t,_=Value.int i t from r);exact⟨_,.int i t⟩
 | _,_,_,.str x,r=>by obtain⟨t,rfl⟩:=(show ∃t,_=Value.str x t from r);exact⟨_,.str x t⟩
 | _,_,_,.tup (a:=a) (xs:=xs) e q,r=>by
  cases (show _=Value.ref a from r)
  obtain⟨_,its,rv,o,ho,hc,n,hd⟩:=(show Bx P w H h a (.tup xs) from ok a _ e)
  obtain⟨as,z⟩:=LR.reads ok q rv;exact⟨_,.tuple ho hc hd (by simpa using z)⟩
 | _,_,_,.lst (a:=a) (xs:=xs) e q,r=>by
  cases (show _=Value.ref a from r)
  obtain⟨_,its,n,rv,ho⟩:=(show Bx P w H h a (.lst xs) from ok a _ e)
  obtain⟨as,z⟩:=LR.reads ok q rv;exact⟨_,.list ho rfl rfl (by simpa using z)⟩
theorem LR.reads {P:Program} {w:World} {H:Hp} {h:Heap} (ok:HOk P w H h):∀{xs:YG} {ds:List PyData} {us:YE},LR H xs ds->Vals xs us->∃as,ReadsAll h us ds as
 | _,_,_,.nil,.nil=>⟨_,.nil⟩
 | _,_,_,.cons p q,.cons r t=>by
  obtain⟨as,a1⟩:=Rep.reads ok p r;obtain⟨bs,b1⟩:=LR.reads ok q t;exact⟨_,.cons a1 b1⟩
end
theorem Wy (hu:X.A.units+64 < cLine):OpR X (compareOp .NotEq) (λx y H Q=>∃d e,Rep H x d/\Rep H y e/\SeqAt.shaped d=true/\SeqAt.shaped e=true/\Q (.bl (!PyData.eqv d e)) H):=by
 intros x y v u Q I rx ry h;obtain⟨d,e,p,p',sd,se,q⟩:=h;obtain⟨as,r1⟩:=p.reads I.hok rx;obtain⟨bs,r2⟩:=p'.reads I.hok ry;exact ne_dataH r1 r2 sd se hu ⟨.bl (!PyData.eqv d e),H,I,rq,q⟩
end
structure Code (K:YD) (mg:YB) (x:Str) (st:Stmt) (ps:YF):Prop where
 ex:∃(f:Addr) (fd:FuncData),Fun K x x st f fd/\mg x=some (.ref f)/\Binds K fd ps []
structure Good (P:Program) (w:World) (K:YD) (mg:YB) (base:Heap) (x:Str) (k:Nat) (ps:YF) (sp:Sp):Prop where
 ex:∃(f:Addr) (fd:FuncData),mg x=some (.ref f)/\keepIn K (.ref f)=true/\Binds K fd ps []/\Hi P w K mg base CX0 k f fd ps sp
theorem Code.good {P:Program} {w:World} {K:YD} {mg:YB} {base:Heap} {x:Str} {st:Stmt} {ps N:YF} {k:Nat} {sp:Sp} (C:Code K mg x st ps) (S:Ay N ps (Aj st)) (len:∀vs H Q E,sp vs H Q E->vs.length=ps.length)
  (hbody:∀(f:Addr) (cdv:Value) (A:Around) (outer:List Env) (s:Shared) (H:Hp) (vs:YG) (Q:VK) (E:XK),Cm k (A.deeper (envOfC x (Aj st) ∅ f cdv))->sp vs H Q E ->
   ∃t,PSs (Nr CX0 P w K mg base N x (Aj st) f cdv A outer s H E).nox (Dg st) t/\t { nx:=λ_ H'=>Q .non H',rt:=Q } (start N vs) H):⋯ x (k+1) ps sp:=by
 obtain⟨f,fd,F,m,b⟩:=C.ex;exact⟨f,fd,m,F.kp,b,F.ok S len λcdv A outer s H vs Q E hr h=>hbody f cdv A outer s H vs Q E hr h⟩
theorem Ub {X:Cx} {k k':Nat} {ps:YF} {sp:Sp} {x:Str} {p pos:Pos} {e:Expr} {es:YJ} {t:TA} (g:Good X.prog X.w X.K X.mg X.base x k ps sp) (hr:Cm k' X.A) (ha:PA X (e::es) t) (hk:k<=k':=by decide) (hg:Gl X x:=by rfl)
  (hdb:(x == ("__debug__":Str))=false:=by decide) (he:starEach (e::es) X.env=(false,eval e X.env)::starEach es X.env:=by rfl) (hpl:(backTo pos (starEach es X.env)).any (·.1)=false:=by rfl) :
  PE X (.Call (.Name x p) (e::es) [] pos) (lE sp [] E0 t):=by
 intros Q I h;obtain⟨f,fd,m,kp,b,F⟩:=g.ex;exact AB F (hr.mono hk) hg m kp b .nil aJ ha hdb he hpl jb s U H Q I h
theorem Code.of {K:YD} {mg:YB} {h:Heap} {x:Str} {st:Stmt} {ps:YF} {f:Addr} {oc:Value} {od an:Option Addr} {osl:YI} {kV doc pm cdv ct:Value} (X:K.In h) (G:h.Ns mainGlobals mg)
  (a:nsIn K mainGlobals x=some (some (.ref f))) (l:K.lookup f=some ⟨oc,od,.func (fnOf x x (Eo st) (Dg st) (Aj st) .none kV doc pm an cdv ct),osl⟩) (c:codeIn K cdv x=true) (k:keepIn K (.ref f)=true)
  (hb:∀(kV doc pm:Value) (an:Option Addr) (cdv ct:Value) (us:YE),us.length=ps.length->bindArgs (fnOf x x (Eo st) (Dg st) (Aj st) .none kV doc pm an cdv ct) ⟨us,[]⟩=pure (ps.zip us)):Code K mg x st ps:=by
 have F:=Xi (st:=st) l c k;exact⟨f,_,F,mg_of X G a,F.binds hb⟩
theorem Ad {H:Hp} {p:Addr} (h:H p=none) (o:HO):Same H (upd H p o):=λb u q=>by rw[Am (Aq q h)];exact q
theorem Bk.plain {X:Cx} {N':YF} {sc:Scope} (kind:sc.kind=.function) (JH:∀y∈sc.names,y.2≠.cell) (loc:∀y∈sc.names,y.2=.local->sc.names.lookup y.1=some .local) (dw:∀y∈sc.names,y.2≠.free) :
  Bk X N' (N'.map λ_=>none) sc where
 kind:=kind
 JH:=JH
 loc:=loc
 fv:=λy hy e=>absurd e (dw y hy)
 len:=by simp
 src:=λi x j _ e=>by
  rw[Qbm] at e;cases q:N'[i]? with
  | none=>rw[q] at e;cases e
  | some z=>rw[q] at e;cases e
theorem Rp {K:YD} {a l:Addr} {xs:YG} {g:TG} {tt:TT} {te:TE} {Q:VK} {σ0:St} {H0:Hp} (Pv:YN)
  (h0:Pv 0 σ0 H0) (hl:∀i U H',i<=xs.length->Pv i U H'->SqT K H' a xs)
  (hs:∀i x U H',xs[i]?=some x->Pv i U H'->g x U H' fun σ3 H3=>tt σ3 H3 λb H4=>if b=true then te σ3 H4 λy H5=>∃ys,H5 l=some (.lst ys)/\ys.length < sizeLine/\Pv (i+1) σ3 (upd H5 l (.lst (ys++[y]))) else Pv (i+1) σ3 H4)
  (hd:∀ U H',Pv xs.length U H'->Q (.ref l) H'):Gp (Itt K a) g tt te Q σ0 H0 l:=by
 unfold Gp;refine⟨λi m U H'=>m=xs.length - i/\i<=xs.length/\Pv i U H',⟨xs.length,by simp,Qcw _,h0⟩,?_⟩;rintro i m U H' ⟨rfl,hi,p⟩;have q:=hl i U H' hi p;by_cases hlt:i < xs.length
 ·refine .inr ⟨⟨xs,xs[i],q,by simp[hlt]⟩,Pv (i+1),fun σ3 H3 p'=>⟨xs.length - (i+1),by omega,rq,hlt,p'⟩,λx H2 y=>?_⟩;obtain⟨e,y⟩:=y;subst e;exact hs i x U _ (y xs q) p
 ·have e:i=xs.length:=by omega
  subst e;exact .inl ⟨⟨xs,q,Qcv _⟩,hd U H' p⟩
theorem Hq {K:YD} {a l:Addr} {xs:YG} {g:TG} {tt:TT} {te:TE} {Q:VK} {σ0:St} {H0:Hp} (Pv:YN)
  (h0:Pv 0 σ0 H0) (hl:∀i U H',i<=xs.length->Pv i U H'->SqL K H' a xs)
  (hs:∀i x U H',xs[i]?=some x->Pv i U H'->g x U H' fun σ3 H3=>tt σ3 H3 λb H4=>if b=true then te σ3 H4 λy H5=>∃ys,H5 l=some (.lst ys)/\ys.length < sizeLine/\Pv (i+1) σ3 (upd H5 l (.lst (ys++[y]))) else Pv (i+1) σ3 H4)
  (hd:∀ U H',Pv xs.length U H'->Q (.ref l) H'):Gp (Itl K a) g tt te Q σ0 H0 l:=by
 unfold Gp;refine⟨λi m U H'=>m=xs.length - i/\i<=xs.length/\Pv i U H',⟨xs.length,by simp,Qcw _,h0⟩,?_⟩;rintro i m U H' ⟨rfl,hi,p⟩;have q:=hl i U H' hi p;by_cases hlt:i < xs.length
 ·refine .inr ⟨⟨xs,xs[i],q,by simp[hlt]⟩,Pv (i+1),fun σ3 H3 p'=>⟨xs.length - (i+1),by omega,rq,hlt,p'⟩,λx H2 y=>?_⟩;obtain⟨e,y⟩:=y;subst e;exact hs i x U _ (y xs q) p
 ·have e:i=xs.length:=by omega
  subst e;exact .inl ⟨⟨xs,q,Qcv _⟩,hd U H' p⟩
theorem K7 {lo:Int} {n:Nat} {l:Addr} {g:TG} {tt:TT} {te:TE} {Q:VK} {σ0:St} {H0:Hp} (Pv:YN) (h0:Pv 0 σ0 H0)
  (hs:∀i U H',i < n->Pv i U H'->g (.int (lo+i)) U H' fun σ3 H3=>tt σ3 H3 λb H4=>if b=true then te σ3 H4 λy H5=>∃ys,H5 l=some (.lst ys)/\ys.length < sizeLine/\Pv (i+1) σ3 (upd H5 l (.lst (ys++[y]))) else Pv (i+1) σ3 H4)
  (hd:∀ U H',Pv n U H'->Q (.ref l) H'):Gp (Itr lo n) g tt te Q σ0 H0 l:=by
 unfold Gp;refine⟨λi m U H'=>m=n - i/\i<=n/\Pv i U H',⟨n,by simp,Qcw _,h0⟩,?_⟩;rintro i m U H' ⟨rfl,hi,p⟩;by_cases hlt:i < n
 ·refine .inr ⟨hlt,Pv (i+1),fun σ3 H3 p'=>⟨n - (i+1),by omega,rq,hlt,p'⟩,λx H2 y=>?_⟩;obtain⟨e,y⟩:=y;subst e y;exact hs i U _ hlt p
 ·have e:i=n:=by omega
  subst e;exact .inl ⟨Qcv _,hd U H' p⟩
section
variable {X:Cx}
theorem ZJ (hc:X.calm=true):Ft X (.builtin "max") (λxs H Q=>∃(p:Addr) (ns:List Int),xs=[.ref p]/\SqL X.K H p (ns.map V.int)/\0 < ns.length/\∀M,M∈ns->(∀a,a∈ns->a<=M)->Q (.int M) H):=by
 intros xs us Q I r h;obtain⟨p,ns,rfl,hq,hne,q⟩:=h;obtain⟨u,rfl,rx⟩:=vals1 r;cases rx;obtain⟨its,rv,pl,hz⟩:=I.list hq;have hi:IntsAre its ns:=intsAre_of rv;obtain⟨zs,e⟩:=hi.allInts.items;have hl:=pl.isList;rw[e] at hl;have hns:ns=zs.toList.map (·.1):=by rw[<-hi.numsOf,<-nums_intItems,<-e]
 have hsz:0 < zs.size:=by
  have h3:=hne;rw[hns,QbH,QaR] at h3;exact h3
 refine max_intList (I.ok.hd hc) hl hsz λv h' tk hv hk=>?_;obtain⟨t,rfl⟩:=intItems_at hv;obtain⟨_,h2⟩:=argBest_gt (numAt zs) (zs.size - 1);refine⟨.int _,H,I.kept hk,⟨t,rq⟩,q _ ?_ λa ha=>?_⟩
 ·rw[hns,numAt_eq];exact getD_mem (by rw[QbH,QaR];have:=(argBest_gt (numAt zs) (zs.size - 1)).1;omega)
 ·rw[hns] at ha;obtain⟨j,hj,rfl⟩:=mem_getD ha;rw[QbH,QaR] at hj;rw[<-numAt_eq];exact h2 j (by omega)
theorem qP:∀{us:YE} {ns:List Int},IntsAre us ns->Vals (ns.map V.int) us:=λh=>RQ h
theorem fM:Ft X (.builtin "sorted") (λxs H Q=>∃(p:Addr) (ns:List Int),xs=[.ref p]/\SqL X.K H p (ns.map V.int)/\ns.length < 64 /\
  ∀(ms:List Int) l,ms.Perm ns->ms.Pairwise (·<=·)->H l=none->Q (.ref l) (upd H l (.lst (ms.map V.int)))):=by
 intros xs us Q I r h;obtain⟨p,ns,rfl,hq,h64,q⟩:=h;obtain⟨u,rfl,rx⟩:=vals1 r;cases rx;obtain⟨its,rv,pl,hz⟩:=I.list hq;have hi:IntsAre its ns:=intsAre_of rv;have hlen:=hi.length;refine sorted_ints pl.isList hi (by omega) λout ms a1 a2 a3=>?_;obtain⟨e,he⟩:=sortedAll_at s.heap its out;have hml:=a2.length_eq;refine⟨.ref (∅+1),_,I.laid (t':=s.toks) (o:=.lst (ms.map V.int)) (λb o q=>sortedAll_old q) (QcA _) ?_,rq,q ms _ a2 a3 (I.hok.fresh (QcA _))⟩;exact⟨by rw[QbH];exact Qcs (Ar (by omega)),out.toList,e,qP a1,he⟩
theorem jg:∀{ys:YF} {us:YE},Vals (ys.map V.str) us->StrsAre us ys
 | [],_,.nil=>.nil
 | y::r,_,.cons h t=>by
  obtain⟨t',e⟩:=(show ∃t,_=Value.str y t from h)
  cases e;exact .cons y t' (jg t)
def rJoin (K:YD):V->YG->Hp->VK->Prop:=λx vs H Q=>∃(z:Str) (p:Addr) (ys:YF),x=.str z/\vs=[.ref p]/\SqL K H p (ys.map V.str)/\(ys.map (·.length)).sum+ys.length*z.length<=16777216/\Q (.str (Txt.join z ys)) H
theorem AS:MtR X "str.join" (rJoin X.K):=by
 intros x vs v us Q I rx rv h;obtain⟨z,p,ys,rfl,rfl,hq,hz,q⟩:=h;obtain⟨t,rfl⟩:=rx;obtain⟨u,rfl,ru⟩:=rv.one;cases ru;obtain⟨its,r',pl,_⟩:=I.list hq;exact join_list pl.isList (jg r') hz λt' k=>⟨.str (Txt.join z ys),H,I.tok k,⟨t',rq⟩,q⟩
def Its (z:Str):It:=⟨λi _=>i < z.cps.size,λi H x H'=>H'=H/\∃c,z.cps[i]?=some c/\x=.str ⟨#[c]⟩,λi _=>i=z.cps.size⟩
def MX (tl:TE):TI:=fun U H R=>tl U H λx H1=>∃z,x=.str z/\R (Its z) H1
end
section
variable {X:Cx} {tg:Expr}
theorem aV {P:Program} {w:World} {K:YD} {tg:Expr} (z:Str) (t:Tok) (it:Addr) (ty:String) (hty:["enumerate","zip","dict_itemiterator","dict_reverseitemiterator","odict_iterator","itertools.zip_longest","itertools.pairwise"].contains ty=false)
  (W:∀A':Around,A'.handled=none->Walks P w A' it [it] [it] z.cps.size (SignAt z) (λi h=>h.IsStrIter it ty z t i))
  (hself:∀(A:Around) (i:Nat) (s:Shared) (Q:YA) (E:YA),s.heap.IsStrIter it ty z t i->Q (.ref it) s->wpAny (model P w) A (pyIter (.ref it)) Q E s) :
  Turn P w K tg (Its z) [it] it (λi h=>h.IsStrIter it ty z t i) where
 mem:=Qbc.mpr rfl
 obj:=λi h st b hb=>by
  cases Qbc.mp hb;obtain⟨o,e,c,d⟩:=st;exact⟨o,e,λv z'=>by rw[d] at z';cases z'⟩
 keep:=λi h h' st k=>by
  obtain⟨o,e,r⟩:=st;exact⟨o,k it (Qbc.mpr rfl) o e,r⟩
 item:=by
  intro X hP hw hK hc i jb s U H E I hf st hg;subst hP hw hK;obtain⟨f0,f1,f2,f3,f4,f5⟩:=hf it (Qbc.mpr rfl);refine (W X.A (I.ok.hd hc)).item i s _ _ hg st λv h' tk hv st' kk=>?_;obtain⟨c,u,hcu,rfl⟩:=hv;have I1:Inv X jb U H { s with heap:=h',toks:=tk }:=I.turned (λb o hb e=>kk b o (λhm=>hb (Qbc.mp hm)) e) f0 f1 f3 f4 f5;obtain⟨o,e,cl,d⟩:=id st';exact⟨_,rq,Xh (s:={ s with heap:=h',toks:=tk }) e cl d hty ⟨.str ⟨#[c]⟩,H,I1,⟨u,rq⟩,⟨rq,c,hcu,rq⟩,st',λb hb=>(hf b hb).1⟩⟩
 done:=by
  intro X hP hw hK hc i jb s U H E I hf st hg;subst hP hw hK;obtain⟨f0,f1,f2,f3,f4,f5⟩:=hf it (Qbc.mpr rfl);cases (show i=z.cps.size from hg)
  exact (W X.A (I.ok.hd hc)).done s _ _ st λh' tk kk=>⟨rq,I.turned (λb o hb e=>kk b o (λhm=>hb (Qbc.mp hm)) e) f0 f1 f3 f4 f5⟩
 self:=λA i s Q E st h=>hself A i s Q E st h
theorem pU {l:Expr} {tl:TE} (hl:PE X l tl):PI X tg l (MX tl):=by
 intros R I h;refine thn (hl jb s U H _ I h) λv s1 zz=>?_;obtain⟨x,H1,I1,r1,z,e,q⟩:=zz;subst e;obtain⟨t,rfl⟩:=r1;have fp:∀o:Obj,∀b∈[s1.heap.objs.size],Hh X jb H1 b:=λo b hb=>by
  cases Qbc.mp hb;exact I1.Ro (Qcv _) (I1.hok.fresh (Qcv _))
 cases ha:z.cps.all (· < 128) with
 | true=>
  refine wpAny_pyIter_ascii ha ?_;exact⟨s1.heap.objs.size,[s1.heap.objs.size],_,_,H1,rq,I1.kept (t':=s1.toks) λb o e=>Qay _ e,aV z t _ "str_ascii_iterator" (by decide) (λA' hA=>Walks.strAscii hA _ z t) (λ_ _ _ _ _ st h=>wpAny_pyIter_striter_ascii st h),
   ⟨_,QaN _ rfl,rq,rq⟩,fp { cls:=.none,data:=.fields #[] },q⟩
 | false=>
  refine wpAny_pyIter_wide ha ?_;exact⟨s1.heap.objs.size,[s1.heap.objs.size],_,_,H1,rq,I1.kept (t':=s1.toks) λb o e=>Qay _ e,aV z t _ "str_iterator" (by decide) (λA' hA=>Walks.strWide hA _ z t) (λ_ _ _ _ _ st h=>wpAny_pyIter_striter_wide st h),
   ⟨_,QaN _ rfl,rq,rq⟩,fp { cls:=.none,data:=.fields #[] },q⟩
theorem fH {z:Str} {l:Addr} {g:TG} {tt:TT} {te:TE} {Q:VK} {σ0:St} {H0:Hp} (Pv:YN) (h0:Pv 0 σ0 H0)
  (hs:∀i c U H',z.cps[i]?=some c->Pv i U H'->g (.str ⟨#[c]⟩) U H' fun σ3 H3=>tt σ3 H3 λb H4=>if b=true then te σ3 H4 λy H5=>∃ys,H5 l=some (.lst ys)/\ys.length < sizeLine/\Pv (i+1) σ3 (upd H5 l (.lst (ys++[y]))) else Pv (i+1) σ3 H4)
  (hd:∀ U H',Pv z.cps.size U H'->Q (.ref l) H'):Gp (Its z) g tt te Q σ0 H0 l:=by
 unfold Gp;refine⟨λi m U H'=>m=z.cps.size - i/\i<=z.cps.size/\Pv i U H',⟨z.cps.size,by simp,Qcw _,h0⟩,?_⟩;rintro i m U H' ⟨rfl,hi,p⟩;by_cases hlt:i < z.cps.size
 ·refine .inr ⟨hlt,Pv (i+1),fun σ3 H3 p'=>⟨z.cps.size - (i+1),by omega,rq,hlt,p'⟩,λx H2 y=>?_⟩;obtain⟨e,c,hc,rfl⟩:=y;subst e;exact hs i c U _ hc p
 ·have e:i=z.cps.size:=by omega
  subst e;exact .inl ⟨rq,hd U H' p⟩
end
end L2
namespace HT
open PySem PyProof.Rows
section
variable {prog:Program} {w:World} {A:Around} {E:YA} {s:Shared}
theorem UW {t sl:Addr} {items:Array Value} {vl vu:Value} {lo hi:Option Int} {Q:YA} (ht:IsTup s.heap t items) (hs:s.heap.IsSliceOf sl vl vu .none) (pl:IsPart vl lo) (pu:IsPart vu hi)
  (hw:sIx items.size 0 lo=0/\sIx items.size items.size hi=items.size) (h:Q (.ref t) s):wpAny (model prog w) A (getItem (.ref t) (.ref sl)) Q E s:=by
 obtain⟨os,hos,hcs,hds⟩:=id hs;have hTs:s.TypeIs (.ref sl) "slice":=⟨os,hos,hcs⟩;unfold getItem
 try with_reducible refine Qch ?_
 first | refine QcC (QcD ?_) | skip
 refine QcC (wpAny_sequenceKey ht.typeIs (by decide) ?_);refine QcC (Qat (name:=Str.ofString "__getitem__") ht.typeIs Qab (QbC Qab ht.typeIs entry_tuple_getitem ?_ (args_tuple_getitem _ _)));show wpAny _ _ (Builtin.Tuple.tupleItemsOf (.ref t) >>= _) _ _ s;refine QcC (tupleItemsOf_ ht ?_);refine QcC (wpAny_typeOf hTs ?_);rw[if_pos (by decide)];refine QcC (Oe hs pl pu ?_);rw[hw.1,hw.2];show wpAny _ _ (if (((0:Nat):Int) == 0&&(1:Int) == 1&&(items.size - 0) == items.size)=true then _ else _) _ _ s
 rw[if_pos (by simp)];refine QcC ?_;unfold Builtin.Tuple.tupleIsExact;refine QcC (wpAny_typeOf ht.typeIs (QcD ?_));rw[if_pos (by decide)];exact QcC (wpAny_rule (QcD ⟨_,rq,QcD h⟩))
end
end HT
namespace L2
open PySem PySem.Spec PyProof.Rows
section
variable {X:Cx}
theorem Yc:SlR X (λx lo hi H Q=>∃a xs,x=.ref a/\H a=some (.tup xs)/\∀p H',H' p=some (.tup (Hu xs lo hi))->Same H H'->Q (.ref p) H'):=by
 intros x v vl vu lo hi sl Q I rx hs pl pu h;obtain⟨a,xs,rfl,hx,q⟩:=h;by_cases hw:HT.sIx xs.length 0 lo=0/\HT.sIx xs.length xs.length hi=xs.length
 ·cases rx;obtain⟨its,r,ht,hz⟩:=I.tuple (SqT.of hx);have hlen:its.toArray.size=xs.length:=by rw[Qbl];exact r.length.symm
  refine⟨"tuple",_,Qab.lookup,ht.typeIs,?_⟩;refine HT.UW ht hs pl pu (by rw[hlen];exact hw) ⟨.ref a,H,I,rq,q a H ?_ (Same.refl H)⟩;have e:Hu xs lo hi=xs:=by unfold Hu;rw[hw.1,hw.2];simp
  rw[e];exact hx
 ·exact Cf jb s U H _ v vl vu lo hi sl Q I rx hs pl pu ⟨a,xs,rq,SqT.of hx,hw,λp hp=>q p _ Ab (λc o e=>by rw[Am (Aq e hp)];exact e)⟩
theorem pC:SlR X (λx lo hi H Q=>∃z,x=.str z/\z.length<=sizeLine/\Q (.str (Txt.slice z lo hi)) H):=by
 intros x v vl vu lo hi sl Q I rx hs pl pu h;obtain⟨z,rfl,hz,q⟩:=h;obtain⟨t,rfl⟩:=rx;refine⟨"str",_,F.slot_str_getitem.lookup,typeIs_str _ _ _,?_⟩;have fin:∀t' k,EP X jb U Q (.str (Txt.slice z lo hi) t') { s with toks:=k }:=λt' k=>⟨.str (Txt.slice z lo hi),H,I.tok k,⟨t',rq⟩,q⟩;cases pl with
 | none=>
  cases pu with
  | none=>exact Qaw (l:=none) (u:=none) (st:=none) hs rfl (post_val_or_str ⟨Qco (Txt.slice_le z _ _) hz,fin⟩)
  | int j tj=>exact Qaw (l:=none) (u:=some (j,tj)) (st:=none) hs rfl (post_val_or_str ⟨Qco (Txt.slice_le z _ _) hz,fin⟩)
 | int i ti=>
  cases pu with
  | none=>exact Qaw (l:=some (i,ti)) (u:=none) (st:=none) hs rfl (post_val_or_str ⟨Qco (Txt.slice_le z _ _) hz,fin⟩)
  | int j tj=>exact Qaw (l:=some (i,ti)) (u:=some (j,tj)) (st:=none) hs rfl (post_val_or_str ⟨Qco (Txt.slice_le z _ _) hz,fin⟩)
end
structure GJ (K:YD) (C:Addr) (m qn:Str) (st:Stmt) (ps:YF):Prop where
 ex:∃(f:Addr) (fd:FuncData),Fun K m qn st f fd/\Meth K C m f/\Binds K fd ps []
structure BX (P:Program) (w:World) (K:YD) (mg:YB) (base:Heap) (C:Addr) (m:Str) (k:Nat) (ps:YF) (sp:Sp):Prop where
 ex:∃(f:Addr) (fd:FuncData),Meth K C m f/\Binds K fd ps []/\Hi P w K mg base CX0 k f fd ps sp
structure oN (P:Program) (w:World) (K:YD) (mg:YB) (base:Heap) (C:Addr) (k:Nat) (ps:YF) (sp:Sp):Prop where
 ex:∃(f:Addr) (fd:FuncData),Mk K C f/\Binds K fd ps []/\Hi P w K mg base CX0 k f fd ps sp
theorem GJ.good {P:Program} {w:World} {K:YD} {mg:YB} {base:Heap} {C:Addr} {m qn:Str} {st:Stmt} {ps N:YF} {k:Nat} {sp:Sp} (c:GJ K C m qn st ps) (S:Ay N ps (Aj st)) (len:∀vs H Q E,sp vs H Q E->vs.length=ps.length)
  (hbody:∀(f:Addr) (cdv:Value) (A:Around) (outer:List Env) (s:Shared) (H:Hp) (vs:YG) (Q:VK) (E:XK),Cm k (A.deeper (envOfC qn (Aj st) ∅ f cdv))->sp vs H Q E ->
   ∃t,PSs (Nr CX0 P w K mg base N qn (Aj st) f cdv A outer s H E).nox (Dg st) t/\t { nx:=λ_ H'=>Q .non H',rt:=Q } (start N vs) H):BX P w K mg base C m (k+1) ps sp:=by
 obtain⟨f,fd,F,M,b⟩:=c.ex;exact⟨f,fd,M,b,F.ok S len λcdv A outer s H vs Q E hr h=>hbody f cdv A outer s H vs Q E hr h⟩
theorem lY {X:Cx} {pl:Sem Bool} {k k':Nat} {C:Addr} {ps:YF} {sp:Sp} {m:Str} {apos pos:Pos} {o e:Expr} {es:YJ} {ta:TE} {t:TA} (he:PE X o ta) (c:Cls X.K C) (g:BX X.prog X.w X.K X.mg X.base C m k ps sp) (hr:Cm k' X.A) (ha:PA X (e::es) t) (hk:k<=k':=by decide)
  (hst:starEach (e::es) X.env=(false,eval e X.env)::starEach es X.env:=by rfl) (hpl:(backTo pos (starEach es X.env)).any (·.1)=false:=by rfl)
  (ht:eval (.Call (.Attribute o m apos) (e::es) [] pos) X.env=(do
   let ov <-eval o X.env
   standAt apos.atName
   let (f,first) <-holding [ov] (getMethod ov m pl)
   callWith pos f first (backTo pos (starEach (e::es) X.env)) (backToKw pos (keywordEach [] X.env))):=by rfl) :
  PE X (.Call (.Attribute o m apos) (e::es) [] pos) (aD C m sp [] E0 ta t):=by
 intros Q I h;obtain⟨f,fd,M,b,F⟩:=g.ex;exact Au (pl:=pl) he c M F (hr.mono hk) b .nil aJ ha hst hpl ht jb s U H Q I h
theorem CA {X:Cx} {pl:Sem Bool} {k k':Nat} {C:Addr} {ps:YF} {sp:Sp} {m:Str} {apos pos:Pos} {o:Expr} {ta:TE} (he:PE X o ta) (c:Cls X.K C) (g:BX X.prog X.w X.K X.mg X.base C m k ps sp) (hr:Cm k' X.A) (hk:k<=k':=by decide)
  (ht:eval (.Call (.Attribute o m apos) [] [] pos) X.env=(do
   let ov <-eval o X.env
   standAt apos.atName
   let (f,first) <-holding [ov] (getMethod ov m pl)
   callWith pos f first (backTo pos (starEach [] X.env)) (backToKw pos (keywordEach [] X.env))):=by rfl) :
  PE X (.Call (.Attribute o m apos) [] [] pos) (aD C m sp [] E0 ta Nj):=by
 intros Q I h;obtain⟨f,fd,M,b,F⟩:=g.ex;exact vI (pl:=pl) he c M F (hr.mono hk) b .nil aJ ht jb s U H Q I h
theorem yW {X:Cx} {k k':Nat} {C:Addr} {ps:YF} {sp:Sp} {x:Str} {p pos:Pos} {e:Expr} {es:YJ} {t:TA} (g:oN X.prog X.w X.K X.mg X.base C k ps sp) (hr:Cm k' X.A) (hm:X.mg x=some (.ref C)) (ha:PA X (e::es) t) (hk:k+1<=k':=by decide) (hg:Gl X x:=by rfl)
  (hdb:(x == ("__debug__":Str))=false:=by decide) (he:starEach (e::es) X.env=(false,eval e X.env)::starEach es X.env:=by rfl) (hpl:(backTo pos (starEach es X.env)).any (·.1)=false:=by rfl) :
  PE X (.Call (.Name x p) (e::es) [] pos) (yP C sp [] E0 t):=by
 intros Q I h;obtain⟨f,fd,M,b,F⟩:=g.ex;exact AA M F (hr.mono hk) hg hm b .nil aJ ha hdb he hpl jb s U H Q I h
theorem SX {X:Cx} {x:Str} {v:V} {pos:Pos} (hg:Gl X x) (hm:∃u,X.mg x=some u/\RelV v u) (hd:(x == ("__debug__":Str))=false:=by decide):PE X (.Name x pos) (tC v):=by
 obtain⟨u,h,r⟩:=hm;exact Fo hg h r hd
theorem Ti:∀{fs:List (Str×V)} {i:Nat} {f:Str} {v:V},(fs.map (·.1)).Nodup->fs[i]?=some (f,v)->fs.lookup f=some v
 | [],_,_,_,_,h=>by simp at h
 | (g,u)::fs,0,f,v,_,h=>by simp at h;obtain⟨rfl,rfl⟩:=h;simp[List.lookup]
 | (g,u)::fs,i+1,f,v,hn,h=>by
  rw[Qce,QbO] at hn;have h':fs[i]?=some (f,v):=by simpa using h
  have hm:f∈fs.map (·.1):=Qcl.mpr ⟨(f,v),QaI h',rq⟩;have hne:(f == g)=false:=QaO.mpr λe=>hn.1 (e ▸ hm);rw[List.lookup,hne];exact Ti hn.2 h'
theorem zE:∀{fs:List (Str×V)} {m:Str},m∉fs.map (·.1)->fs.lookup m=none
 | [],_,_=>rfl
 | (g,u)::fs,m,h=>by
  rw[Qce,Qcd] at h;have hne:(m == g)=false:=QaO.mpr λe=>h (.inl e);rw[List.lookup,hne];exact zE λz=>h (.inr z)
theorem Tg {y:V}:∀{fs:List (Str×V)} {f:Str},f∉fs.map (·.1)->Im f y fs=fs++[(f,y)]
 | [],_,_=>rfl
 | (g,u)::fs,f,h=>by
  rw[Qce,Qcd] at h;show (if g=f then (g,y)::fs else (g,u)::Im f y fs)=_
  rw[if_neg λe=>h (.inl e.symm),Tg λz=>h (.inr z)];rfl
def Al (H H':Hp):Prop:=∀c xs,H c=some (.tup xs)->H' c=some (.tup xs)
theorem Al.trans {H H1 H2:Hp} (a:Al H H1) (b:Al H1 H2):Al H H2:=λc xs e=>b c xs (a c xs e)
theorem Al.of {H H1:Hp} (s:Same H H1):Al H H1:=λc xs e=>s c _ e
theorem Al.upd {H:Hp} {b:Addr} {o:HO} (h:∀xs,H b≠some (.tup xs)):Al H (upd H b o):=λc xs e=>by
 have n:c≠b:=λz=>h xs (z ▸ e);rw[Am n];exact e
def Ah (b:Addr) (H H':Hp):Prop:=∀c o,H c=some o->c≠b->H' c=some o
theorem Ah.trans {b:Addr} {H H1 H2:Hp} (x:Ah b H H1) (y:Ah b H1 H2):Ah b H H2:=λc o e n=>y c o (x c o e n) n
theorem Ah.of {b:Addr} {H H1:Hp} (x:Same H H1):Ah b H H1:=λc o e _=>x c o e
theorem Ah.refl (b:Addr) (H:Hp):Ah b H H:=λ_ _ e _=>e
theorem Ah.upd {b:Addr} {H:Hp} {o:HO}:Ah b H (upd H b o):=λc u e n=>by rw[Am n];exact e
theorem Ah.tup {b:Addr} {H H':Hp} (x:Ah b H H') (h:∀xs,H b≠some (.tup xs)):Al H H':=λc xs e=>x c _ e λz=>h xs (z ▸ e)
theorem Ah.free {b:Addr} {H H':Hp} (x:Ah b H H') (hb:∃o,H' b=some o) {l:Addr} (h:H' l=none):H l=none:=by
 cases e:H l with
 | none=>rfl
 | some o=>
  by_cases n:l=b
  ·obtain⟨o',e'⟩:=hb;rw[n,e'] at h;cases h
  ·rw[x l o e n] at h;cases h
def FF (K:YD) (ta tv:TE) (f:Str):TS:=λD U H=>tv U H λy H1=>ta U H1 λx H2=>∃a C dx fs fs',x=.ref a/\H2 a=some (.ins C dx fs)/\Cls K C/\JL K C f/\fs.length < 1000/\Im f y fs=fs' /\
 ∀H',H' a=some (.ins C dx fs')->Ah a H2 H'->D.nx U H'
section
variable {X:Cx} {o e value:Expr} {f:Str} {pos pos' tpos:Pos} {ta tv:TE}
theorem PE.weak {ta ta':TE} (h:PE X e ta) (i:∀ U H Q,ta' U H Q->ta U H Q):PE X e ta':=λjb s U H Q I q=>h jb s U H Q I (i U H Q q)
theorem Kq (ha:PE X o ta) (hv:PE X value tv) (hs:swapsWith value (some (.Attribute o f pos')) pos.line X.env=pure false):PS X (.Assign [.Attribute o f pos'] value pos) (FF X.K ta tv f):=by
 intros D I h;refine plainObj_wpAny_Assign_Attribute (thn (hv jb s U H _ I h) λu s1 zz=>?_) hs;obtain⟨y,H1,I1,ry,q⟩:=zz;refine thn (ha jb s1 U H1 _ I1 q) λov s2 zz=>?_;obtain⟨x,H2,I2,rx,a,C,dx,fs,fs',ex,ea,c,n,l,ep,q2⟩:=zz;subst ex;obtain rfl:ov=Value.ref a:=rx;refine lM I2 ea c n l ry λs3 I3=>⟨U,_,I3,q2 _ ?_ Ah.upd⟩;rw[Ab,ep]
end
theorem PS.weak {X:Cx} {s:Stmt} {t t':TS} (h:PS X s t) (i:∀D U H,t' D U H->t D U H):PS X s t':=λjb sh U H D I q=>h jb sh U H D I (i D U H q)
section
variable {X:Cx} {K:YD}
theorem QG (h:X.K=K):IxR X (vg K):=h ▸ Bw
theorem xM (h:X.K=K):IxR X (vh K):=h ▸ Dn
theorem WK (h:X.K=K):OpR X (compareOp .In) (rIn K false):=h ▸ S6
theorem RD (h:X.K=K):OpR X (compareOp .NotIn) (rIn K true):=h ▸ cP
theorem jy {e:Expr} {f:Str} {pos:Pos} {ta:TE} (h:X.K=K) (he:PE X e ta) (hb:attributeBase e f X.env (eval e X.env)=eval e X.env):PE X (.Attribute e f pos) (BV K ta f):=h ▸ CV he hb
end
end L2
namespace PySem
open Sem (wp)
section
variable {prog:Program} {w:World} {A:Around} {E:YA} {s:Shared}
end
end PySem
namespace L2
open PySem PySem.Spec PyProof.Rows
section
variable {X:Cx} {pos:Pos}
end
structure Has (H:Hp) (l:List (Addr×HO)):Prop where
 nd:(l.map (·.1)).Nodup
 at_:∀x∈l,H x.1=some x.2
theorem Has.FU {H:Hp} {l:List (Addr×HO)} {a:Addr} (h:Has H l) (e:H a=none):a∉l.map (·.1):=λz=>by
 obtain⟨x,hx,rfl⟩:=Qcl.mp z;rw[h.at_ x hx] at e;cases e
theorem Has.new {H H':Hp} {l:List (Addr×HO)} {a:Addr} {o:HO} (h:Has H l) (n:H a=none) (s:Same H H') (e:H' a=some o):Has H' (l++[(a,o)]):=by
 refine⟨?_,λx hx=>?_⟩
 ·rw[QbJ,Qbu];refine⟨h.nd,by simp,λx hx y hy z=>?_⟩;have:y=a:=by simpa using hy
  subst this;exact h.FU n (z ▸ hx)
 ·rcases QbI.mp hx with z | z
  ·exact s _ _ (h.at_ x z)
  ·have:x=(a,o):=by simpa using z
   subst this;exact e
theorem Has.nil (H:Hp):Has H []:=⟨QbZ,λx hx=>by cases hx⟩
theorem Same.Bp {H0 H H':Hp} {a:Addr} (s:Same H0 H) (b:Ah a H H') (f:H0 a=none):Same H0 H':=λc o e=>b _ _ (s _ _ e) λz=>by rw[z,f] at e;cases e
section
variable {κ : Type} [DecidableEq κ]
def Dv (kvs:List (κ×V)) (k:κ):Option V:=(kvs.find? λkv=>decide (kv.1=k)).map (·.2)
def putK (kvs:List (κ×V)) (k:κ) (v:V):List (κ×V):=
 if (kvs.any λkv=>decide (kv.1=k))=true then kvs.map (λkv=>if kv.1=k then (kv.1,v) else kv) else kvs++[(k,v)]
theorem IV {p:κ×V} {r:List (κ×V)} {k:κ} (e:p.1=k):Dv (p::r) k=some p.2:=by simp[Dv,QbW,e]
theorem GC {p:κ×V} {r:List (κ×V)} {k:κ} (e:¬p.1=k):Dv (p::r) k=Dv r k:=by simp[Dv,QbW,e]
theorem K9 (k:κ):∀kvs:List (κ×V),(kvs.any λkv=>decide (kv.1=k))=(Dv kvs k).isSome
 | []=>rfl
 | p::r=>by
  rw[Qci];by_cases e:p.1=k
  ·simp only[IV e,QbX e,Bool.true_or,Option.isSome_some]
  ·rw[GC e,QbL e,Bool.false_or];exact K9 k r
theorem Mq (kvs:List (κ×V)) (k:κ) (v:V):(putK kvs k v).length<=kvs.length+1:=by
 unfold putK;split
 ·rw[QbH];omega
 ·rw[QaV,Qbz,List.length_nil];omega
theorem Ol {kvs:List (κ×V)} {k:κ} (v:V) (h:Dv kvs k=none):putK kvs k v=kvs++[(k,v)]:=by
 unfold putK;rw[K9,h];exact if_neg (by decide)
theorem Ip.Nf {o:Option V} {u:Option Value} (r:Ip o u):o.isSome=u.isSome:=by
 cases o with
 | none=>cases u with
  | none=>rfl
  | some _=>exact (show False from r).elim
 | some _=>cases u with
  | none=>exact (show False from r).elim
  | some _=>rfl
theorem Ip.getD {o:Option V} {u:Option Value} {d:V} {d':Value} (r:Ip o u) (rd:RelV d d'):RelV (o.getD d) (u.getD d'):=by
 cases o with
 | none=>cases u with
  | none=>exact rd
  | some _=>exact (show False from r).elim
 | some _=>cases u with
  | none=>exact (show False from r).elim
  | some _=>exact r
theorem KV.val {kvs:List (κ×V)} {vs:List (κ×Value)} (r:KV kvs vs) (k:κ):Ip (Dv kvs k) (valueAt vs k):=by
 unfold KV at r
 induction r with
 | nil=>exact True.intro
 | @cons p q ps qs h t ih=>
  obtain⟨h1,h2⟩:=h;by_cases e:p.1=k
  ·have e':q.1=k:=h1.symm.trans e;have b:valueAt (q::qs) k=some q.2:=by simp[valueAt,QbW,e']
   rw[IV e,b];exact h2
  ·have e':¬q.1=k:=λz=>e (h1.trans z);have b:valueAt (q::qs) k=valueAt qs k:=by simp[valueAt,QbW,e']
   rw[GC e,b];exact ih
theorem KV.any {kvs:List (κ×V)} {vs:List (κ×Value)} (r:KV kvs vs) (k:κ):(kvs.any λkv=>decide (kv.1=k))=vs.any λkv=>decide (kv.1=k):=by
 unfold KV at r
 induction r with
 | nil=>rfl
 | cons h t ih=>rw[Qci,Qci,ih,h.1]
theorem KV.repl {kvs:List (κ×V)} {vs:List (κ×Value)} (r:KV kvs vs) (k:κ) {y:V} {u:Value} (ry:RelV y u) :
  KV (kvs.map λkv=>if kv.1=k then (kv.1,y) else kv) (vs.map λkv=>if kv.1=k then (kv.1,u) else kv):=by
 unfold KV at r ⊢
 induction r with
 | nil=>exact .nil
 | @cons p q ps qs h t ih=>
  rw[Qce,Qce];refine .cons ?_ ih;obtain⟨h1,h2⟩:=h;by_cases e:p.1=k
  ·rw[if_pos e,if_pos (h1.symm.trans e)];exact⟨h1,ry⟩
  ·rw[if_neg e,if_neg (λz=>e (h1.trans z))];exact⟨h1,h2⟩
theorem KV.put {kvs:List (κ×V)} {vs:List (κ×Value)} (r:KV kvs vs) (k:κ) {y:V} {u:Value} (ry:RelV y u):KV (putK kvs k y) (stored vs k u):=by
 unfold putK stored;rw[r.any k];by_cases e:(vs.any λkv=>decide (kv.1=k))=true
 ·rw[if_pos e,if_pos e];exact r.repl k ry
 ·rw[if_neg e,if_neg e];exact Qcx r ⟨rq,ry⟩
theorem KV.length {kvs:List (κ×V)} {vs:List (κ×Value)} (r:KV kvs vs):kvs.length=vs.length:=Qcc r
end
theorem Pu {P:Program} {w:World} {k:Key} {u:Value} (r:RelV (kV k) u):(Dm P w).is k u=true:=by
 cases k with
 | inl i=>obtain⟨t,e⟩:=(show ∃t,u=Value.int i t from r);subst e;exact iu P w i t
 | inr x=>obtain⟨t,e⟩:=(show ∃t,u=Value.str x t from r);subst e;exact ig P w x t
theorem Zv {P:Program} {w:World}:∀{ks:List Key} {us:YE},Vals (ks.map kV) us->ItemsAre (Dm P w) ks us
 | [],_,r=>by rw[Qcu] at r;cases r;exact .nil
 | k::ks,_,r=>by
  rw[Qce] at r;cases r with
  | cons h t=>exact .cons (Pu h) (Zv t)
abbrev YL:=List (List Key×V)
abbrev KT (H:Hp):YL->List (List Key×Addr×Value)->Prop:=Paired λp q=>p.1=q.1/\H q.2.1=some (.tup (p.1.map kV))/\RelV p.2 q.2.2
theorem KT.val {H:Hp} {kvs:YL} {xs:List (List Key×Addr×Value)} (r:KT H kvs xs) (k:List Key):Ip (Dv kvs k) ((atKey xs k).map (·.2)):=by
 induction r with
 | nil=>exact True.intro
 | @cons p q ps qs h t ih=>
  obtain⟨h1,_,h2⟩:=h;by_cases e:p.1=k
  ·have e':q.1=k:=h1.symm.trans e;have b:atKey (q::qs) k=some q.2:=by simp[atKey,QbW,e']
   rw[IV e,b];exact h2
  ·have e':¬q.1=k:=λz=>e (h1.trans z);have b:atKey (q::qs) k=atKey qs k:=by simp[atKey,QbW,e']
   rw[GC e,b];exact ih
theorem KT.repl {H:Hp} {kvs:YL} {xs:List (List Key×Addr×Value)} (r:KT H kvs xs) (k:List Key) {y:V} {u:Value} (ry:RelV y u) :
  KT H (kvs.map λkv=>if kv.1=k then (kv.1,y) else kv) (xs.map (putAt k u)):=by
 induction r with
 | nil=>exact .nil
 | @cons p q ps qs h t ih=>
  rw[Qce,Qce];refine .cons ?_ ih;obtain⟨h1,h2,h3⟩:=h;unfold putAt;by_cases e:p.1=k
  ·rw[if_pos e,if_pos (h1.symm.trans e)];exact⟨h1,h2,ry⟩
  ·rw[if_neg e,if_neg (λz=>e (h1.trans z))];exact⟨h1,h2,h3⟩
theorem KT.put {H:Hp} {kvs:YL} {xs:List (List Key×Addr×Value)} (r:KT H kvs xs) (k:List Key) {b:Addr} {y:V} {u:Value} (hb:H b=some (.tup (k.map kV))) (ry:RelV y u) :
  KT H (putK kvs k y) (storedH xs k b u):=by
 have e:(kvs.any λkv=>decide (kv.1=k))=(atKey xs k).isSome:=by
  rw[K9,(r.val k).Nf,Option.isSome_map]
 unfold putK storedH;rw[e];by_cases q:(atKey xs k).isSome=true
 ·rw[if_pos q,if_pos q];exact r.repl k ry
 ·rw[if_neg q,if_neg q];exact Qcx r ⟨rq,hb,ry⟩
theorem KT.keeps {H H':Hp} {kvs:YL} {xs:List (List Key×Addr×Value)} (r:KT H kvs xs) (ht:∀b ys,H b=some (.tup ys)->H' b=some (.tup ys)):KT H' kvs xs:=
 Paired.Ax r λ_ _ z=>⟨z.1,ht _ _ z.2.1,z.2.2⟩
section
variable {P:Program} {w:World} {H:Hp} {h:Heap} {a:Addr}
theorem yU {u:HO} (ok:HOk P w H h) (e:Rd H a u):Bx P w H h a u:=e.ok ok
abbrev YM:=List (Key×V)
theorem NQ {kvs:YM} (ok:HOk P w H h) (e:Rd H a (.dK kvs)):kvs.length<=sizeLine/\(a == sysModules)=false/\∃vs,KV kvs vs/\h.DictOf (Dm P w) a vs:=
 show Bx P w H h a (.dK kvs) from yU ok e
theorem zH {kvs:YM} (ok:HOk P w H h) (e:H a=some (.dK kvs)):kvs.length<=sizeLine/\(a == sysModules)=false/\∃vs,KV kvs vs/\h.DictOf (Dm P w) a vs:=NQ ok (.inl e)
theorem M9 {ks:List Key} (ok:HOk P w H h) (e:H a=some (.tup (ks.map kV))):(tupleKind (Dm P w)).is h ks a:=by
 obtain⟨_,its,r,o,h1,h2,n,h3⟩:=(show Bx P w H h a (.tup (ks.map kV)) from ok a _ e)
 exact⟨o,its.toArray,n,h1,h2,h3,by simpa using Zv r⟩
theorem PB {kvs:YL} (ok:HOk P w H h) (e:Rd H a (.dT kvs)):kvs.length<=sizeLine/\(a == sysModules)=false /\
  ∃xs,KT H kvs xs/\h.DictOfH (tupleKind (Dm P w)) a xs:=by
 obtain⟨z,y,xs,r,o,es,ep,h1,h2,h3,h4,h5⟩:=(show Bx P w H h a (.dT kvs) from yU ok e)
 refine⟨z,y,xs,r,o,es,ep,h1,h2,h3,h4,λx hx=>?_,h5⟩;have all:∀{l:YL} {m:List (List Key×Addr×Value)},KT H l m->∀x∈m,(tupleKind (Dm P w)).is h x.1 x.2.1:=by
  intro l m q
  induction q with
  | nil=>intro x hx;exact nomatch hx
  | @cons p q ps qs hq t ih=>
   intro x hx;rcases Qcd.mp hx with e | hx
   ·subst e;exact M9 ok (by rw[<-hq.1];exact hq.2.1)
   ·exact ih x hx
 exact all r x hx
theorem zG {kvs:YL} (ok:HOk P w H h) (e:H a=some (.dT kvs)):kvs.length<=sizeLine/\(a == sysModules)=false /\
  ∃xs,KT H kvs xs/\h.DictOfH (tupleKind (Dm P w)) a xs:=PB ok (.inl e)
end
def Dw (H:Hp) (a:Addr) (y:V) (r:Option V):Prop:=
 (∃kvs k,Rd H a (.dK kvs)/\y=kV k/\r=Dv kvs k)\/∃kvs k b,Rd H a (.dT kvs)/\y=.ref b/\H b=some (.tup (k.map kV))/\r=Dv kvs k
def Jm (H:Hp) (a:Addr) (y v:V) (H':Hp):Prop:=
 (∃kvs k,H a=some (.dK kvs)/\y=kV k/\kvs.length < sizeLine/\H'=upd H a (.dK (putK kvs k v))) \/
 ∃kvs k b,H a=some (.dT kvs)/\y=.ref b/\H b=some (.tup (k.map kV))/\kvs.length < sizeLine/\H'=upd H a (.dT (putK kvs k v))
theorem Dw.k {H:Hp} {a:Addr} {kvs:YM} {k:Key} (e:H a=some (.dK kvs)):Dw H a (kV k) (Dv kvs k):=.inl ⟨kvs,k,.inl e,rfl,rfl⟩
theorem Dw.t {H:Hp} {a b:Addr} {kvs:YL} {k:List Key} (e:H a=some (.dT kvs)) (eb:H b=some (.tup (k.map kV))):Dw H a (.ref b) (Dv kvs k):=.inr ⟨kvs,k,b,.inl e,rfl,eb,rfl⟩
theorem Jm.k {H:Hp} {a:Addr} {kvs:YM} {k:Key} {v:V} (e:H a=some (.dK kvs)) (hl:kvs.length < sizeLine):Jm H a (kV k) v (upd H a (.dK (putK kvs k v))):=.inl ⟨kvs,k,e,rfl,hl,rfl⟩
theorem Jm.t {H:Hp} {a b:Addr} {kvs:YL} {k:List Key} {v:V} (e:H a=some (.dT kvs)) (eb:H b=some (.tup (k.map kV))) (hl:kvs.length < sizeLine) :
  Jm H a (.ref b) v (upd H a (.dT (putK kvs k v))):=.inr ⟨kvs,k,b,e,rq,eb,hl,rq⟩
section
variable {X:Cx} {jb:YC} {U : St} {H:Hp} {s:Shared} {a:Addr} {y v:V} {u r:Value} {o:Option V} {A:Around} {E:YA}
theorem Inv.big (I:H^^^s):sysModules < ∅:=by
 have h:mainGlobals < ∅:=(I.mod.glob.keeps I.bk).lt;exact Nat.lt_trans (by decide) h
theorem rY {Q:YA} (hu:A.units+1 < cLine) (I:H^^^s) (g:Dw H a y (some v)) (ry:RelV y u) (h:∀w' s',Inv X jb U H s'->RelV v w'->Q w' s') :
  wpAny (model X.prog X.w) A (getItem (.ref a) u) Q E s:=by
 rcases g with⟨kvs,k,e,ey,l⟩|⟨kvs,k,b,e,ey,eb,l⟩
 ·subst ey;obtain⟨z,hd,vs,rel,dd⟩:=NQ I.hok e;obtain⟨w',hw,rw'⟩:=Ip.some_of (v:=v) (o:=valueAt vs k) (by rw[l];exact rel.val k);exact wpAny_getItem_of (Pu ry) dd.mapOf hw (h w' _ (I.tok _) rw')
 ·subst ey;cases (show u=Value.ref b from ry)
  obtain⟨z,hd,xs,rel,dd⟩:=PB I.hok e;obtain⟨w',hw,rw'⟩:=Ip.some_of (v:=v) (o:=(atKey xs k).map (·.2)) (by rw[l];exact rel.val k);obtain⟨p,hp,hp2⟩:=QaA.mp hw;refine wpAny_getItem_heap (Qbj hu) (M9 I.hok eb) dd hp ?_;rw[hp2];exact h w' _ (I.tok _) rw'
theorem OT {Q:YA} (hu:A.units+1 < cLine) (I:H^^^s) (g:Dw H a y o) (ry:RelV y u) (h:∀s',Inv X jb U H s'->Q (.bool o.isSome) s') :
  wpAny (model X.prog X.w) A (compareOp .In u (.ref a)) Q E s:=by
 rcases g with⟨kvs,k,e,ey,l⟩|⟨kvs,k,b,e,ey,eb,l⟩
 ·subst ey;obtain⟨z,hd,vs,rel,dd⟩:=NQ I.hok e;refine wpAny_in_of (Pu ry) hd dd.mapOf ?_;rw[<-(rel.val k).Nf,<-l];exact h _ (I.tok _)
 ·subst ey;cases (show u=Value.ref b from ry)
  obtain⟨z,hd,xs,rel,dd⟩:=PB I.hok e;refine wpAny_in_heap (Qbj hu) (M9 I.hok eb) hd dd ?_;have q:=(rel.val k).Nf;rw[Option.isSome_map] at q;rw[<-q,<-l];exact h _ (I.tok _)
theorem A7 {Q:YA} (hu:A.units+1 < cLine) (I:H^^^s) (g:Dw H a y o) (ry:RelV y u) (h:∀s',Inv X jb U H s'->Q (.bool (!o.isSome)) s') :
  wpAny (model X.prog X.w) A (compareOp .NotIn u (.ref a)) Q E s:=by
 rcases g with⟨kvs,k,e,ey,l⟩|⟨kvs,k,b,e,ey,eb,l⟩
 ·subst ey;obtain⟨z,hd,vs,rel,dd⟩:=NQ I.hok e;refine wpAny_notIn_of (Pu ry) hd dd.mapOf ?_;rw[<-(rel.val k).Nf,<-l];exact h _ (I.tok _)
 ·subst ey;cases (show u=Value.ref b from ry)
  obtain⟨z,hd,xs,rel,dd⟩:=PB I.hok e;refine wpAny_notIn_heap (Qbj hu) (M9 I.hok eb) hd dd ?_;have q:=(rel.val k).Nf;rw[Option.isSome_map] at q;rw[<-q,<-l];exact h _ (I.tok _)
theorem Uq {h':Heap} {t':Nat} {ob:HO} (I:H^^^s) (mu:Mut (H a)) (hs:Heap.SameBut a s.heap h') (he:∃q,h'.get? a=some q) (new:Bx X.prog X.w (upd H a ob) h' a ob) :
  Inv X jb U (upd H a ob) { s with heap:=h',toks:=t' }:=
 I.write (x:=a) (e:=a) mu (.inl rfl) (λb q hb z=>(hs.2 b hb).trans z) he new
theorem rQ {P:Program} {w:World} {H':Hp} {h':Heap} {kvs:YM} {vs:List (Key×Value)} (z:kvs.length<=sizeLine) (hd:(a == sysModules)=false) (rel:KV kvs vs) (dd:h'.DictOf (Dm P w) a vs) :
  Bx P w H' h' a (.dK kvs):=⟨z,hd,vs,rel,dd⟩
theorem rW {H':Hp} {Q:YH} (hu:A.units+1 < cLine) (I:H^^^s) (g:Jm H a y v H') (ry:RelV y u) (rv:RelV v r) (h:∀s',Inv X jb U H' s'->Q () s') :
  wpAny (model X.prog X.w) A (setItem (.ref a) u r) Q E s:=by
 rcases g with⟨kvs,k,e,ey,l,eH⟩|⟨kvs,k,b,e,ey,eb,l,eH⟩
 ·subst ey eH;obtain⟨z,hd,vs,rel,dd⟩:=zH I.hok e;have hz:vs.length<=sizeLine:=by rw[<-rel.length];exact z
  have hl:(putK kvs k v).length<=sizeLine:=by have:=Mq kvs k v;omega
  refine wpAny_setItem_pairs (hsz:=hz) (Pu ry) dd λh' dd' hs=>h _ ?_;have he:∃q,h'.get? a=some q:=let ⟨q,_,_,hq,_⟩:=dd';⟨q,hq⟩;exact Uq I (by rw[e];exact True.intro) hs he (rQ hl hd (rel.put k rv) dd')
 ·subst ey eH;cases (show u=Value.ref b from ry)
  obtain⟨z,hd,xs,rel,dd⟩:=zG I.hok e;have hz:xs.length<=sizeLine:=by rw[<-Qcc rel];exact z
  have hl:(putK kvs k v).length<=sizeLine:=by have:=Mq kvs k v;omega
  refine wpAny_setItem_heap (hsz:=hz) (Qbj hu) (M9 I.hok eb) dd λh' dd' hs=>h _ ?_;obtain⟨q,es,ep,hq,h2,h3,h4,_,h5⟩:=dd';refine Uq I (by rw[e];exact True.intro) hs ⟨q,hq⟩ ⟨hl,hd,_,(rel.put k eb rv).keeps λc ys ec=>?_,q,es,ep,hq,h2,h3,h4,h5⟩;rw[Am (zc ec e (λz=>nomatch z))];exact ec
end
section
variable {X:Cx} {jb:YC} {U : St} {H:Hp} {s:Shared} {a:Addr} {kvs:YM} {k:Key} {u:Value} {A:Around} {E:YA}
theorem GU {Q:YA} (I:H^^^s) (e:Rd H a (.dK kvs)) (h:∀t s',Inv X jb U H s'->Q (.int kvs.length t) s'):wpAny (model X.prog X.w) A (call (.builtin "len") [.ref a]) Q E s:=by
 obtain⟨z,hd,vs,rel,dd⟩:=NQ I.hok e;refine call_len_dict hd dd (by rw[<-rel.length];rw[Qcz] at z;omega) ?_;rw[<-rel.length];exact h _ _ (I.tok _)
end
def Fa (i:Expr):Prop:=∀ov iv,subscripted i false ov iv=operate [ov,iv] (getItem ov iv)
theorem zU {prog:Program} {w:World} {A:Around} {E:YA} {s:Shared} {env:Env} {value slice:Expr} {pos:Pos} {T id:String} {Q:YA}
  (hl:typeLookup (.type T) "__getitem__"=pure (some (.builtin id))) (hs:Fa slice)
  (h:wpAny (model prog w) A (eval value env) (λo s₁=>wpAny (model prog w) A (eval slice env) (λi s₂=>s₂.TypeIs o T/\wpAny (model prog w) A (getItem o i) Q E s₂) E s₁) E s) :
  wpAny (model prog w) A (eval (.Subscript value slice pos) env) Q E s:=by
 refine Subscript_ (QcE h (λo s₁ h₁=>QcE h₁ (λi s₂ h₂=>?_) λ_ _ x=>x) λ_ _ x=>x);obtain⟨hT,h₂⟩:=h₂;unfold subscriptTail;refine QcC ?_;rw[getitemInPython_of_ne hT.not_modules];refine QcC (wpAny_specialOf hT hl ?_);have fin:wpAny (model prog w) A (subscripted slice false o i) (λr s₃=>wpAny (model prog w) A (letTemporaryGo value o r >>= λ_=>pure r) Q E s₃) E s₂:=by
  rw[hs o i];exact wpAny_operating (QcE h₂ (λr s₃ h₃=>QcC (wpAny_letTemporaryGo (QcD h₃))) λ_ _ x=>x)
 first
  | exact QcD (QcC fin)
  | exact QcC (QcD (QcC fin))
  | exact QcC fin
theorem iG {X:Cx} {jb:YC} {U : St} {H:Hp} {s:Shared} {a:Addr} {y:V} {o:Option V} (I:H^^^s) (g:Dw H a y o):s.TypeIs (.ref a) "dict":=by
 rcases g with⟨kvs,k,e,_,_⟩|⟨kvs,k,b,e,_,_,_⟩
 ·obtain⟨_,_,vs,_,dd⟩:=NQ I.hok e;exact dd.typeIs
 ·obtain⟨_,_,xs,_,dd⟩:=PB I.hok e;exact dd.typeIs
def FC (td ty:TE):TE:=fun U H Q=>td U H λx H1=>ty U H1 λy H2=>∃a v,x=.ref a/\Dw H2 a y (some v)/\Q v H2
def Iq (ty td:TE):TE:=fun U H Q=>ty U H λy H1=>td U H1 λx H2=>∃a o,x=.ref a/\Dw H2 a y o/\Q (.bl o.isSome) H2
def zT (ty td:TE):TE:=fun U H Q=>ty U H λy H1=>td U H1 λx H2=>∃a o,x=.ref a/\Dw H2 a y o/\Q (.bl (!o.isSome)) H2
def FG (td ty tv:TE):TS:=λD U H=>tv U H λv H1=>td U H1 λx H2=>ty U H2 λy H3=>∃a H4,x=.ref a/\Jm H3 a y v H4/\D.nx U H4
section
variable {X:Cx} {o i e value:Expr} {pos pos' tpos:Pos} {td ty tv:TE}
theorem N6 (hu:X.A.units+1 < cLine) (ho:PE X o td) (hi:PE X i ty) (hs:Fa i):PE X (.Subscript o i pos) (FC td ty):=by
 intros Q I h;refine zU PySem.F.slot_dict_getitem.lookup hs (thn (ho jb s U H _ I h) λu s1 zz=>?_);obtain⟨x,H1,I1,rx,q1⟩:=zz;refine thn (hi jb s1 U H1 _ I1 q1) λiv s2 zz=>?_;obtain⟨y,H2,I2,ry,a,v,ex,g,q2⟩:=zz;subst ex;obtain rfl:u=Value.ref a:=rx;exact⟨iG I2 g,rY hu I2 g ry λw' s3 I3 rw'=>⟨v,H2,I3,rw',q2⟩⟩
theorem cO (hu:X.A.units+1 < cLine) (hi:PE X i ty) (ho:PE X o td):PC X .In i o (Iq ty td):=by
 intros Q I h;refine thn (hi jb s U H _ I h) λiv s1 zz=>?_;obtain⟨y,H1,I1,ry,q1⟩:=zz;refine thn (ho jb s1 U H1 _ I1 q1) λu s2 zz=>?_;obtain⟨x,H2,I2,rx,a,ov,ex,g,q2⟩:=zz;subst ex;obtain rfl:u=Value.ref a:=rx;exact OT hu I2 g ry λs3 I3=>⟨.bl ov.isSome,H2,I3,rq,q2⟩
theorem Pq (hu:X.A.units+1 < cLine) (hi:PE X i ty) (ho:PE X o td):PC X .NotIn i o (zT ty td):=by
 intros Q I h;refine thn (hi jb s U H _ I h) λiv s1 zz=>?_;obtain⟨y,H1,I1,ry,q1⟩:=zz;refine thn (ho jb s1 U H1 _ I1 q1) λu s2 zz=>?_;obtain⟨x,H2,I2,rx,a,ov,ex,g,q2⟩:=zz;subst ex;obtain rfl:u=Value.ref a:=rx;exact A7 hu I2 g ry λs3 I3=>⟨.bl (!ov.isSome),H2,I3,rq,q2⟩
theorem Gs (hu:X.A.units+1 < cLine) (ho:PE X o td) (hi:PE X i ty) (hv:PE X value tv) (hs:swapsWith value (some (.Subscript o i pos')) pos.line X.env=pure false) :
  PS X (.Assign [.Subscript o i pos'] value pos) (FG td ty tv):=by
 intros D I h;refine wpAny_Assign_Subscript (thn (hv jb s U H _ I h) λr s1 zz=>?_) hs;obtain⟨v,H1,I1,rv,q1⟩:=zz;refine thn (ho jb s1 U H1 _ I1 q1) λu s2 zz=>?_;obtain⟨x,H2,I2,rx,q2⟩:=zz;refine thn (hi jb s2 U H2 _ I2 q2) λiv s3 zz=>?_;obtain⟨y,H3,I3,ry,a,H4,ex,g,q3⟩:=zz;subst ex;obtain rfl:u=Value.ref a:=rx;exact rW hu I3 g ry rv λs4 I4=>⟨U,H4,I4,q3⟩
end
theorem fu {P:Program} {w:World} {H:Hp} (h:Heap) (hb:sysModules < h.objs.size):Bx P w H (h.push { cls:=.type "dict",data:=.dict #[] }) h.objs.size (.dK []):=
 ⟨Qcw _,QaO.mpr (Ne.symm (Qcn hb)),[],.nil,Heap.DictOf.new h⟩
theorem fj {P:Program} {w:World} {H:Hp} (h:Heap) (hb:sysModules < h.objs.size):Bx P w H (h.push { cls:=.type "dict",data:=.dict #[] }) h.objs.size (.dT []):=
 ⟨Qcw _,QaO.mpr (Ne.symm (Qcn hb)),[],.nil,_,#[],0,QaN _ rfl,⟨rq,rq,rq⟩,rq,rq,QbZ⟩
def B1:TE:=λ_ H Q=>∀p,H p=none->Q (.ref p) (upd H p (.dK []))
def B0:TE:=λ_ H Q=>∀p,H p=none->Q (.ref p) (upd H p (.dT []))
section
variable {X:Cx} {pos:Pos}
theorem Vr:PE X (.Dict [] [] pos) B1:=λjb s U H Q I h=>
 wpAny_Dict_empty ⟨.ref ∅,_,I.laid (a:=∅) (o:=.dK []) (t':=s.toks) (λ_ _ q=>Qay _ q) (Qcv _) (fu s.heap I.big),rq,h _ (I.hok.fresh (Qcv _))⟩
theorem vJ:PE X (.Dict [] [] pos) B0:=λjb s U H Q I h=>
 wpAny_Dict_empty ⟨.ref ∅,_,I.laid (a:=∅) (o:=.dT []) (t':=s.toks) (λ_ _ q=>Qay _ q) (Qcv _) (fj s.heap I.big),rq,h _ (I.hok.fresh (Qcv _))⟩
end
structure M1 (X:Cx) (o:Expr) (m:Str) (apos:Pos) (e:Expr) (cpos:Pos):Prop where
 base:attributeBase o m X.env (eval o X.env)=eval o X.env
 few:((backTo cpos (starEach [e] X.env)).all (λx=>!x.1)&&(backToKw cpos (keywordEach [] X.env)).all (λx=>x.1.isSome)
 &&decide (([e]:YJ).length+([]:List Keyword).length+(if ([]:List Keyword).isEmpty then 0 else 1) < 30))=true
 line:(apos.endLine == cpos.line)=true
 trees:backTo cpos (starEach [e] X.env)=[(false,eval e X.env)]
structure M2 (X:Cx) (o:Expr) (m:Str) (apos:Pos) (e f:Expr) (cpos:Pos):Prop where
 base:attributeBase o m X.env (eval o X.env)=eval o X.env
 few:((backTo cpos (starEach [e,f] X.env)).all (λx=>!x.1)&&(backToKw cpos (keywordEach [] X.env)).all (λx=>x.1.isSome)
 &&decide (([e,f]:YJ).length+([]:List Keyword).length+(if ([]:List Keyword).isEmpty then 0 else 1) < 30))=true
 line:(apos.endLine == cpos.line)=true
 trees:backTo cpos (starEach [e,f] X.env)=[(false,eval e X.env),(false,eval f X.env)]
def IsD (H:Hp) (a:Addr):Prop:=(∃kvs,Rd H a (.dK kvs))\/∃kvs,Rd H a (.dT kvs)
theorem Xd {X:Cx} {jb:YC} {U : St} {H:Hp} {s:Shared} {a:Addr} (I:H^^^s) (d:IsD H a) :
  s.TypeIs (.ref a) "dict"/\(∀b,Value.ref a=.ref b->∃ob,s.heap.get? b=some ob/\ob.dict=none)/\(a == sysModules)=false:=by
 rcases d with⟨kvs,e⟩|⟨kvs,e⟩
 ·obtain⟨_,hd,vs,_,dd⟩:=NQ I.hok e;refine⟨dd.typeIs,λb q=>?_,hd⟩;cases q;obtain⟨ob,_,_,h1,h2,_⟩:=dd;exact⟨ob,h1,h2.2.1⟩
 ·obtain⟨_,hd,xs,_,dd⟩:=PB I.hok e;refine⟨dd.typeIs,λb q=>?_,hd⟩;cases q;obtain⟨ob,_,_,h1,h2,_⟩:=dd;exact⟨ob,h1,h2.2.1⟩
section
variable {X:Cx} {jb:YC} {U : St} {H:Hp} {s:Shared} {a:Addr} {y d:V} {u r:Value} {o:Option V} {A:Around} {E:YA}
theorem ET {Q:YA} (hu:A.units+1 < cLine) (I:H^^^s) (g:Dw H a y o) (ry:RelV y u) (h:∀w' s',Inv X jb U H s'->RelV (o.getD .non) w'->Q w' s') :
  wpAny (model X.prog X.w) A (call (.builtin "dict.get") [.ref a,u]) Q E s:=by
 rcases g with⟨kvs,k,e,ey,l⟩|⟨kvs,k,b,e,ey,eb,l⟩
 ·subst ey;obtain⟨z,hd,vs,rel,dd⟩:=NQ I.hok e;refine call_meetsIn QaH dd.typeIs PySem.F.entry_dict_get (PySem.F.args_dict_get_2 _ _) (meets_dict_get (Dm X.prog X.w) a (Pu ry) hd) ⟨_,dd.mapOf,h _ _ (I.tok _) ?_⟩;rw[l];exact (rel.val k).getD rfl
 ·subst ey;cases (show u=Value.ref b from ry)
  obtain⟨z,hd,xs,rel,dd⟩:=PB I.hok e;refine call_meetsIn QaH dd.typeIs PySem.F.entry_dict_get (PySem.F.args_dict_get_2 _ _) (meetsH_dict_get (tupleKind (Dm X.prog X.w)) a b hd) ⟨Qbj hu,k,xs,M9 I.hok eb,dd,h _ _ (I.tok _) ?_⟩;rw[l];exact (rel.val k).getD rfl
theorem ES {Q:YA} (hu:A.units+1 < cLine) (I:H^^^s) (g:Dw H a y o) (ry:RelV y u) (rd:RelV d r) (h:∀w' s',Inv X jb U H s'->RelV (o.getD d) w'->Q w' s') :
  wpAny (model X.prog X.w) A (call (.builtin "dict.get") [.ref a,u,r]) Q E s:=by
 rcases g with⟨kvs,k,e,ey,l⟩|⟨kvs,k,b,e,ey,eb,l⟩
 ·subst ey;obtain⟨z,hd,vs,rel,dd⟩:=NQ I.hok e;refine call_meetsIn QaH dd.typeIs PySem.F.entry_dict_get (PySem.F.args_dict_get_3 _ _ _) (meets_dict_get_default (Dm X.prog X.w) a (Pu ry) hd r) ⟨_,dd.mapOf,h _ _ (I.tok _) ?_⟩;rw[l];exact (rel.val k).getD rd
 ·subst ey;cases (show u=Value.ref b from ry)
  obtain⟨z,hd,xs,rel,dd⟩:=PB I.hok e;refine call_meetsIn QaH dd.typeIs PySem.F.entry_dict_get (PySem.F.args_dict_get_3 _ _ _) (meetsH_dict_get_default (tupleKind (Dm X.prog X.w)) a b hd r) ⟨Qbj hu,k,xs,M9 I.hok eb,dd,h _ _ (I.tok _) ?_⟩;rw[l];exact (rel.val k).getD rd
end
def B3 (td ty:TE):TE:=fun U H Q=>td U H λx H1=>∃a,x=.ref a/\IsD H1 a/\ty U H1 λy H2=>∃o,Dw H2 a y o/\Q (o.getD .non) H2
def B2 (td ty tx:TE):TE:=fun U H Q=>td U H λx H1=>∃a,x=.ref a/\IsD H1 a/\ty U H1 λy H2=>tx U H2 λz H3=>∃o,Dw H3 a y o/\Q (o.getD z) H3
section
variable {X:Cx} {o e f:Expr} {apos cpos:Pos} {td ty tx:TE}
theorem vK (hu:X.A.units+1 < cLine) (ho:PE X o td) (he:PE X e ty) (m:M1 X o "get" apos e cpos):PE X (.Call (.Attribute o "get" apos) [e] [] cpos) (B3 td ty):=by
 intros Q I h;refine wpAny_Call_method m.base m.few m.line PySem.F.plainAttrs_dict QaH PySem.F.type_dict_get (thn (ho jb s U H _ I h) λu s1 zz=>?_);obtain⟨x,H1,I1,rx,a,ex,d,q1⟩:=zz;subst ex;obtain rfl:u=Value.ref a:=rx;obtain⟨t1,t2,_⟩:=Xd I1 d;refine⟨t1,t2,?_⟩;rw[m.trees];refine Calls.callWith_builtin rfl (Calls.evalArgs_plain (Calls.spliced_cons (thn (he jb s1 U H1 _ I1 q1) λiv s2 zz=>?_)));obtain⟨y,H2,I2,ry,ov,g,q2⟩:=zz;refine Calls.spliced_nil ?_;exact ET hu I2 g ry λw' s3 I3 rw'=>⟨_,H2,I3,rw',q2⟩
theorem Vs (hu:X.A.units+1 < cLine) (ho:PE X o td) (he:PE X e ty) (hf:PE X f tx) (m:M2 X o "get" apos e f cpos):PE X (.Call (.Attribute o "get" apos) [e,f] [] cpos) (B2 td ty tx):=by
 intros Q I h;refine wpAny_Call_method m.base m.few m.line PySem.F.plainAttrs_dict QaH PySem.F.type_dict_get (thn (ho jb s U H _ I h) λu s1 zz=>?_);obtain⟨x,H1,I1,rx,a,ex,d,q1⟩:=zz;subst ex;obtain rfl:u=Value.ref a:=rx;obtain⟨t1,t2,_⟩:=Xd I1 d;refine⟨t1,t2,?_⟩;rw[m.trees];refine Calls.callWith_builtin rfl (Calls.evalArgs_plain (Calls.spliced_cons (thn (he jb s1 U H1 _ I1 q1) λiv s2 ⟨y,H2,I2,ry,q2⟩=>
  Calls.spliced_cons (thn (hf jb s2 U H2 _ I2 q2) λfv s3 ⟨z,H3,I3,rz,ov,g,q3⟩=>Calls.spliced_nil ?_))))
 exact ES hu I3 g ry rz λw' s4 I4 rw'=>⟨_,H3,I4,rw',q3⟩
end
section
variable {X:Cx} {jb:YC} {U : St} {H:Hp} {s:Shared} {a:Addr} {kvs:YM} {A:Around} {E:YA}
end
section
variable {X:Cx} {jb:YC} {U : St} {H:Hp} {s:Shared} {a:Addr} {y:V} {u:Value} {A:Around} {E:YA}
end
section
variable {X:Cx}
theorem tD:Ft X (.builtin "len") (λxs H Q=>∃a kvs,xs=[V.ref a]/\H a=some (.dK kvs)/\Q (.int kvs.length) H):=by
 intros xs us Q I r h;obtain⟨a,kvs,rfl,ha,q⟩:=h;obtain⟨u,rfl,ru⟩:=vals1 r;cases ru;exact GU I (.inl ha) λt s' I'=>⟨.int kvs.length,H,I',⟨t,rq⟩,q⟩
end
section
variable {κ : Type} [DecidableEq κ]
theorem jD:∀{l:List κ} {k:κ},l.Nodup->¬k∈l->(l++[k]).Nodup
 | [],k,_,_=>by simp
 | a::r,k,h,hk=>by
  obtain⟨h1,h2⟩:=QbO.mp h;show (a::(r++[k])).Nodup;refine QbO.mpr ⟨λm=>?_,jD h2 λm=>hk (Qcd.mpr (Or.inr m))⟩;rcases QbI.mp m with q | q
  ·exact h1 q
  ·exact hk (Qcd.mpr (Or.inl (Qbc.mp q).symm))
end
theorem Xj {prog:Program} {w:World} {A:Around} {R:Result->Shared->Prop} {s:Shared} {kx vx target iter:Expr} {ifs:YJ} {scope:Scope} {pos:Pos} {it:Value} {D:Addr} {env:Env} (J:Nat->Shared->Prop)
  (turn:∀n s,J n s->wpAny (model prog w) A (pyNext it) (λr s1=>match r with
   | none=>R (.ok .next) s1
   | some v=>wpAny (model prog w) A (letOwnedTupleGo target it v) (λ_ s2=>wpAny (model prog w) A (assign target env v) (λ_ s3=>
     wpAny (model prog w) A (forIn ifs true λc r=>if r=true then do let ok <-isTrue c env (eval c env);pure (ForInStep.yield ok) else pure (ForInStep.yield r)) (λok s4=>
      if ok=true then wpAny (model prog w) A (eval kx env) (λkv s5=>wpAny (model prog w) A (eval vx env) (λvv s6=>wpAny (model prog w) A (dictSet D kv vv) (λ_ s7=>∃m,m < n/\J m s7) (λ_ _=>False) s6) (λ_ _=>False) s5) (λ_ _=>False) s4
      else ∃m,m < n/\J m s4) (λ_ _=>False) s3) (λ_ _=>False) s2) (λ_ _=>False) s1) (λ_ _=>False) s)
  (n:Nat) (h:J n s):codeAny (model prog w) A (.compLoop (.DictComp kx vx [⟨target,iter,ifs,0⟩] scope pos) 0 it (.ref D) env) R s:=by
 refine codeAny_loop rfl J (λk s' hk=>?_) n h;show wpAny _ A (Sem.onRaise (compTurn (.DictComp kx vx [⟨target,iter,ifs,0⟩] scope pos) 0 it (.ref D) env) (λx=>do noteFrame x env;theTreesLotGoes x)) _ _ s'
 refine wpAny_noted ?_;rw[compTurn_dict];refine QcC (Qcj (QcC (QcE (turn k s' hk) (λr s1 q1=>?_) λ_ _ f=>f.elim)));cases r with
 | none=>exact QcD q1
 | some v=>
  refine QcC (QcE q1 (λ_ s2 q2=>QcC (QcE q2 (λ_ s3 q3=>QcC (QcE q3 (λok s4 q4=>?_) λ_ _ f=>f.elim)) λ_ _ f=>f.elim)) λ_ _ f=>f.elim);cases ok with
  | false=>exact QcD ⟨rfl,q4⟩
  | true=>exact QcC (QcC (QcE q4 (λkv s5 q5=>QcC (Qch (QcE q5 (λvv s6 q6=>QcC (Qcj (Qch (QcE q6 (λ_ s7 q7=>QcD ⟨rfl,q7⟩) λ_ _ f=>f.elim)))) λ_ _ f=>f.elim))) λ_ _ f=>f.elim))
theorem rZ {X:Cx} {jb:YC} {U : St} {H:Hp} {s:Shared} {A:Around} {E:YA} {a:Addr} {kvs:YM} {k:Key} {v:V} {u r:Value} {Q:YH} (I:H^^^s) (e:H a=some (.dK kvs)) (l:kvs.length < sizeLine) (ry:RelV (kV k) u) (rv:RelV v r)
  (h:∀s',Inv X jb U (upd H a (.dK (putK kvs k v))) s'->Q () s'):wpAny (model X.prog X.w) A (dictSet a u r) Q E s:=by
 obtain⟨z,hd,vs,rel,dd⟩:=zH I.hok e;have hz:vs.length<=sizeLine:=by rw[<-rel.length];exact z
 have hl:(putK kvs k v).length<=sizeLine:=by have:=Mq kvs k v;omega
 refine wpAny_dictSet_pairs (hsz:=hz) (Pu ry) dd λh' dd' hs=>h _ ?_;have he:∃q,h'.get? a=some q:=let ⟨q,_,_,hq,_⟩:=dd';⟨q,hq⟩;exact Uq I (by rw[e];exact True.intro) hs he (rQ hl hd (rel.put k rv) dd')
@[irreducible] def Uv (J:It) (g:TG) (tt:TT) (tk tv:TE) (Q:VK) (σ0:St) (H0:Hp) (l:Addr):Prop:=∃W:Nat->YN,(∃m,W 0 m σ0 H0) /\
 ∀i m σ' H',W i m σ' H'->(J.stop i H'/\Q (.ref l) H')\/(J.go i H'/\∃N:YO,(∀ σ3 H3,N σ3 H3->∃m',m' < m/\W (i+1) m' σ3 H3)/\∀x H2,J.yld i H' x H2->g x σ' H2 fun σ3 H3=>tt σ3 H3 λb H4=>
  if b=true then tk σ3 H4 λy H5=>tv σ3 H5 λz H6=>∃(kvs:YM) (k:Key),H6 l=some (.dK kvs)/\y=kV k/\kvs.length < sizeLine/\N σ3 (upd H6 l (.dK (putK kvs k z))) else N σ3 H4)
def aX (wi:TI) (src:List (Option Nat)) (g:TG) (tt:TT) (tk tv:TE):TE:=fun U H Q=>wi U H λJ H1=>∀l,H1 l=none->Uv J g tt tk tv Q (KD src U) (upd H1 l (.dK [])) l
theorem Xk {X:Cx} {N':YF} {src:List (Option Nat)} {sc:Scope} {kx vx tg iter:Expr} {ifs:YJ} {pos pos':Pos} {wi:TI} {g:TG} {tt:TT} {tk tv:TE} {use:Option (Value->Sem Unit)} {R:YA} (hc:X.calm=true) (S:Bk X N' src sc)
  (hi:PI X tg iter wi) (hg:∀s3 H3 fp pn,PG (cxC X N' sc s3 H3 fp pn) tg g) (ht:∀s3 H3 fp pn,PF (cxC X N' sc s3 H3 fp pn) ifs tt) (hk:∀s3 H3 fp pn,PE (cxC X N' sc s3 H3 fp pn) kx tk) (hv:∀s3 H3 fp pn,PE (cxC X N' sc s3 H3 fp pn) vx tv)
  (hs:∀x,foldedSetIterable iter X.env x=pure x) {jb:YC} {s:Shared} {U : St} {H:Hp} {Q:VK} (I:H^^^s) (h:aX wi src g tt tk tv U H Q)
  (fin:∀s3 H3 fp σ4 H4 s5 l,H3^^^s3->(∀b∈fp,Hh X jb H3 b)->Inv (cxC X N' sc s3 H3 fp (X.pn++jb)) [] σ4 H4 s5->Q (.ref l) H4 ->
   compPost (model X.prog X.w) X.A X.xe use R (.ref l) s3.heap.objs.size (.ok .next) s5) :
  ‹X› (comprehension (.DictComp kx vx [⟨tg,iter,ifs,0⟩] sc pos) sc X.env pos' newDict false (eval iter X.env) use) R X.xe s:=by
 refine wpAny_comprehension_free (use:=use) (cl:=FQ X.env sc.names []) rfl hs (Ru λp hp e=>I.ok.has p.1 (S.fv p hp e)) S.kind S.loc ?_;refine thn (hi jb s U H _ I h) λv s1 h1=>thn h1 λitv s2 h2=>?_;obtain⟨it,fp,tn,J,H2,rfl,I2,T,st2,f2,q⟩:=h2;have q':=q s2.heap.objs.size (I2.hok.fresh (Qcv _));unfold Uv at q';obtain⟨W,⟨m0,w0⟩,turn⟩:=q';refine Qbr (wpAny_newFunctionEnv S.JH (by intro y hy;simp at hy) (λha hns hsb=>?_) S.kind);have I3:Inv X jb U (upd H2 s2.heap.objs.size (.dK [])) { s2 with heap:=s2.heap.push { cls:=.type "dict",data:=.dict #[] } }:=
  I2.laid (t':=s2.toks) (λb u e=>Qay _ e) (Qcv _) (fu s2.heap I2.big)
 have hfl:∀b∈fp,b < s2.heap.objs.size:=λb hb=>by
  obtain⟨o,e,_⟩:=T.obj 0 _ st2 b hb;exact Qcm e
 have f3:∀b∈fp,Hh X jb (upd H2 s2.heap.objs.size (.dK [])) b:=λb hb=>⟨by rw[Am (Qcn (hfl b hb))];exact (f2 b hb).1,(f2 b hb).2⟩;generalize hs3:({ s2 with heap:=s2.heap.push { cls:=.type "dict",data:=.dict #[] } }:Shared)=s3 at *;have hsz:s2.heap.objs.size < s3.heap.objs.size:=by rw[<-hs3];show s2.heap.objs.size < (s2.heap.push _).objs.size;rw[QbY];exact QbE _
 have kp:∀b o,s3.heap.get? b=some o->ha.get? b=some o:=λb o e=>hsb.extBut b o (Qcn (Qcm e)) (Qay _ e);have st3:tn 0 ha:=T.keep 0 _ _ st2 λb hb o e=>kp b o (by rw[<-hs3];exact Qay _ e);have I4:Inv (cxC X N' sc s3 (upd H2 s2.heap.objs.size (.dK [])) fp (X.pn++jb)) [] (KD src U) (upd H2 s2.heap.objs.size (.dK [])) { s3 with heap:=ha,toks:=s3.toks+([]:List (Str×Value)).length }:=
  VR S I3 f3 (λb hb=>Nat.lt_trans (hfl b hb) hsz) hns kp
 have loop:codeAny (model X.prog X.w) X.A (.compLoop (.DictComp kx vx [⟨tg,iter,ifs,0⟩] sc pos) 0 (.ref it) (.ref s2.heap.objs.size) (compEnvC sc (FQ X.env sc.names []) s3.heap.objs.size X.env))
   (compPost (model X.prog X.w) X.A X.xe use R (.ref s2.heap.objs.size) s3.heap.objs.size) { s3 with heap:=ha,toks:=s3.toks+([]:List (Str×Value)).length }:=by
  refine Xj (λn s'=>∃i σ' H',Inv (cxC X N' sc s3 (upd H2 s2.heap.objs.size (.dK [])) fp (X.pn++jb)) [] σ' H' s'/\tn i s'.heap/\(∀b∈fp,H' b=none)/\W i n σ' H') ?_ m0 ⟨0,_,_,I4,st3,λb hb=>(f3 b hb).1,w0⟩;rintro n s4 ⟨i,σ4,H4,J4,st4,fr4,w4⟩;have stat:∀{H':Hp},(∀b∈fp,H' b=none)->∀b∈fp,Hh (cxC X N' sc s3 (upd H2 s2.heap.objs.size (.dK [])) fp (X.pn++jb)) [] H' b:=λhn b hb=>
   ⟨hn b hb,(I4.ok.exf b hb).1,I4.ok.LC b hb,.inl hb,λx c e=>(I4.ok.exf b hb).2 x c e,λp hp=>(f3 b hb).2.2.2.2.2 p ((QbI.mp hp).elim id λz=>by cases z)⟩
  rcases turn i n σ4 H4 w4 with⟨stop,qn⟩|⟨go,N,hN,step⟩
  ·refine thn (T.done (cxC X N' sc s3 (upd H2 s2.heap.objs.size (.dK [])) fp (X.pn++jb)) rfl rfl rfl hc i [] s4 σ4 H4 _ J4 (stat fr4) st4 stop) λr s5 zz=>?_;obtain⟨hr,J5⟩:=zz;subst hr;exact fin s3 _ fp σ4 H4 s5 _ I3 f3 J5 qn
  ·refine thn (T.item (cxC X N' sc s3 (upd H2 s2.heap.objs.size (.dK [])) fp (X.pn++jb)) rfl rfl rfl hc i [] s4 σ4 H4 _ J4 (stat fr4) st4 go) λr s5 zz=>?_;obtain⟨u,hr,h5⟩:=zz;subst hr;refine thn h5 λ_ s6 zz=>?_;obtain⟨x,H6,J6,r6,y6,st6,fr6⟩:=zz;have J6':=J6.pinned (stat fr6) (T.obj _ _ st6);have back:∀{pl:YC} {σ7:St} {H7:Hp} {s7:Shared},Inv (cxC X N' sc s3 (upd H2 s2.heap.objs.size (.dK [])) fp (X.pn++jb)) ([]++Oq fp s6.heap) σ7 H7 s7->N σ7 H7 ->
     ∃m',m' < n/\∃i σ' H',Inv (cxC X N' sc s3 (upd H2 s2.heap.objs.size (.dK [])) fp (X.pn++jb)) [] σ' H' s7/\tn i s7.heap/\(∀b∈fp,H' b=none)/\W i m' σ' H':=λ{pl σ7 H7 s7} J7 w7=>by
    obtain⟨m',hm,w7⟩:=hN _ _ w7;have pinned:∀b∈fp,∀o,s6.heap.get? b=some o->s7.heap.get? b=some o/\H7 b=none:=λb hb o e=>by
     have:=J7.pin (b,o) (QaD _ (QaD _ (K3 hb e)));exact⟨this.1,this.2.1⟩
    refine⟨m',hm,i+1,σ7,H7,J7.IW,T.keep _ _ _ st6 λb hb o e=>(pinned b hb o e).1,λb hb=>?_,w7⟩;obtain⟨o,e,_⟩:=T.obj _ _ st6 b hb;exact (pinned b hb o e).2
   refine thn (hg s3 _ fp _ _ s6 σ4 H6 x u _ J6' r6 (step x H6 y6)) λ_ s7 zz=>?_;obtain⟨σ7,H7,J7,q7⟩:=zz;refine thn (ht s3 _ fp _ _ s7 σ7 H7 _ J7 q7) λok s8 zz=>?_;obtain⟨H8,J8,q8⟩:=zz;cases ok with
   | false=>
    rw[if_neg QaZ] at q8 ⊢;exact back (pl:=[]) J8 q8
   | true=>
    rw[if_pos rfl] at q8 ⊢;refine thn (hk s3 _ fp _ _ s8 σ7 H8 _ J8 q8) λy s9 zz=>?_;obtain⟨yv,H9,J9,r9,q9⟩:=zz;refine thn (hv s3 _ fp _ _ s9 σ7 H9 _ J9 q9) λz s10 zz=>?_;obtain⟨zv,H10,J10,r10,kvs,k,hl,ey,hz,q10⟩:=zz;subst ey;refine rZ (X:=cxC X N' sc s3 (upd H2 s2.heap.objs.size (.dK [])) fp (X.pn++jb)) J10 hl hz r9 r10 λs11 J11=>?_;exact back (pl:=[]) J11 q10
 exact codeAny_compStart_dict loop (T.self X.A 0 _ _ _ st3 loop)
theorem vL {X:Cx} {N':YF} {src:List (Option Nat)} {sc:Scope} {kx vx tg iter:Expr} {ifs:YJ} {pos:Pos} {wi:TI} {g:TG} {tt:TT} {tk tv:TE} (hc:X.calm=true) (S:Bk X N' src sc)
  (hi:PI X tg iter wi) (hg:∀s3 H3 fp pn,PG (cxC X N' sc s3 H3 fp pn) tg g) (ht:∀s3 H3 fp pn,PF (cxC X N' sc s3 H3 fp pn) ifs tt) (hk:∀s3 H3 fp pn,PE (cxC X N' sc s3 H3 fp pn) kx tk) (hv:∀s3 H3 fp pn,PE (cxC X N' sc s3 H3 fp pn) vx tv)
  (hs:∀x,foldedSetIterable iter X.env x=pure x:=by intro _;rfl):PE X (.DictComp kx vx [⟨tg,iter,ifs,0⟩] sc pos) (aX wi src g tt tk tv):=by
 intros Q I h;rw[arm_eval_DictComp];refine Xk (use:=none) hc S hi hg ht hk hv hs I h λs3 H3 fp σ4 H4 s5 l I3 f3 J5 q=>?_;obtain⟨m,hn,_⟩:=J5.loc;exact⟨m,hn,λh' sb=>⟨.ref l,H4,Tj I3 f3 J5 sb,rq,q⟩⟩
end L2
namespace PySem
open Sem (wp)
section
variable {prog:Program} {w:World} {A:Around} {E:YA} {s:Shared}
theorem Pr {it l:Addr} {i:Nat} {items:Array Value} {x:Value} {Q:YA} (hit:s.heap.IsTupleIter it l i) (hl:s.heap.IsTuple l items) (hx:items[i]?=some x)
  (hQ:∀h',h'.IsTupleIter it l (i+1)->Heap.SameBut it s.heap h'->Q x { s with heap:=h' }):wpAny (model prog w) A (Builtin.SmallTypes.nextOf (.ref it)) Q E s:=by
 obtain⟨o,ho,hc,hd⟩:=id hit;obtain⟨ol,hol,_,nl,hdl⟩:=hl;unfold Builtin.SmallTypes.nextOf;refine QcC (Qat (name:=Str.ofString "__next__") hit.typeIs Qaa (QbC Qaa hit.typeIs PyProof.Rows.entry_tupleiter_next ?_ (PyProof.Rows.args_tupleiter_next _)));show wpAny _ _ (field (.ref it) 0 >>= _) _ _ s;refine QcC (Qcy ho hd (x:=.ref l) rfl ?_);show wpAny _ _ (if (Value.ref l == Value.none)=true then _ else _) _ _ s
 rw[if_neg (show ¬((Value.ref l == Value.none)=true) from QaZ)]
 show wpAny _ _ (field (.ref it) 1 >>= _) _ _ s;refine QcC (Qcy ho hd (x:=.int i 0) rfl ?_);show wpAny _ _ (seqItems? (.ref l) >>= _) _ _ s;refine QcC (Qcb hol hdl ?_);simp only[Qbo,hx];refine QcC (wpAny_setField ho hd (by simp) (QcD ⟨x,rq,QcD (hQ _ ?_ (QaT ..))⟩));exact⟨_,QaF _ ho (Obj.isFreed_of_fields (Obj.data_mapFields hd _)),(Obj.cls_mapFields ..).trans hc,by rw[Obj.data_mapFields hd];simp[rawInt]⟩
theorem Lj {it l:Addr} {i:Nat} {items:Array Value} {Q:YA} (hh:A.handled=none) (hit:s.heap.IsTupleIter it l i) (hl:s.heap.IsTuple l items) (hx:items[i]?=none)
  (hE:∀h' e,Heap.ExtBut it s.heap h'->(∃o,h'.get? e=some o/\o.cls=.type "StopIteration")->E (.ref e) { s with heap:=h' }):wpAny (model prog w) A (Builtin.SmallTypes.nextOf (.ref it)) Q E s:=by
 obtain⟨o,ho,hc,hd⟩:=id hit;obtain⟨ol,hol,_,nl,hdl⟩:=hl;unfold Builtin.SmallTypes.nextOf;refine QcC (Qat (name:=Str.ofString "__next__") hit.typeIs Qaa (QbC Qaa hit.typeIs PyProof.Rows.entry_tupleiter_next ?_ (PyProof.Rows.args_tupleiter_next _)));show wpAny _ _ (field (.ref it) 0 >>= _) _ _ s;refine QcC (Qcy ho hd (x:=.ref l) rfl ?_);show wpAny _ _ (if (Value.ref l == Value.none)=true then _ else _) _ _ s
 rw[if_neg (show ¬((Value.ref l == Value.none)=true) from QaZ)]
 show wpAny _ _ (field (.ref it) 1 >>= _) _ _ s;refine QcC (Qcy ho hd (x:=.int i 0) rfl ?_);show wpAny _ _ (seqItems? (.ref l) >>= _) _ _ s;refine QcC (Qcb hol hdl ?_);simp only[Qbo,hx];refine QcC (wpAny_rule (QcC (wpAny_setField ho hd (by simp) ?_)));show wpAny _ _ (newExc (.type "StopIteration") [] >>= _) _ _ _;refine QcC ?_;simp only[newExc,newTuple];refine QcC (Qbr ?_ (by size_fits));refine QcC (m:=firstArgMember _ _) (wpAny_of_eq (a:=Value.none) (by first | rfl | (simp only[firstArgMember];rfl)) ?_)
 refine Qbr ?_ (by size_fits);simp only[raiseNew];refine QcC (wpAny_handled ?_)
 first | rw[show A.in1.handled=none from hh] | rw[hh]
 refine QcC (QcD (wpAny_throw ?_));exact hE _ _ (((QaT ..).extBut.push _).push _) ⟨_,QaN _ rfl,rq⟩
theorem eZ {e it l:Addr} {i:Nat} {j:Int} {items:Array Value} {old:Value} {Q:Option Value->Shared->Prop} (hh:A.handled=none) (he:IsEnum s.heap e it j old) (hit:s.heap.IsTupleIter it l i) (hl:s.heap.IsTuple l items) (hx:items[i]?=none)
  (hQ:∀h',Heap.ExtBut it s.heap h'->Q none { s with heap:=h' }):wpAny (model prog w) A (pyNext (.ref e)) Q E s:=by
 have hT:s.TypeIs (.ref e) "enumerate":=⟨_,he,rq⟩;unfold pyNext;refine QcC (Qck (Qat (name:=Str.ofString "__next__") hT F.slot_enumerate_next (QbC F.slot_enumerate_next hT F.entry_enumerate_next ?_ (F.args_enumerate_next_1 _))));show wpAny _ _ (field (.ref e) 2 >>= _) _ _ _;refine QcC (Qcy he rfl (x:=.ref it) rfl (QcC (Lj hh hit hl hx λh' x he' hx'=>?_)));obtain⟨o,ho,hc⟩:=hx';exact QcC (wpAny_isInstance (T:="StopIteration") (b:=true) ⟨o,ho,hc⟩ isSubtype_stop (QcD (hQ _ he')))
end
theorem Draws.tup {prog:Program} {w:World} {A:Around} (hh:A.handled=none) (it l:Addr) (hne:l≠it) (items:Array Value) :
  Draws prog w A it [it,l] items.size (λi v=>items[i]?=some v) (λi h=>h.IsTupleIter it l i/\h.IsTuple l items) where
 live:=λ_ _ st=>let ⟨o,ho,_⟩:=st.1;⟨o,ho⟩
 frame:=λ_ _ _ st hk=>⟨st.1.at λo e=>hk it (by simp) o e,let ⟨o,e,r⟩:=st.2;⟨o,hk l (by simp) o e,r⟩⟩
 item:=λi s Q E hi st hQ=>Pr st.1 st.2 (x:=items[i]) (by simp[hi]) λh' hit' hs'=>hQ _ h' s.toks (by simp[hi]) ⟨hit',let ⟨o,e,r⟩:=st.2;⟨o,hs'.extBut _ _ hne e,r⟩⟩ hs'
 done:=λs Q E st hE=>Lj hh st.1 st.2 (by simp) hE
theorem Draws.from {prog:Program} {w:World} {A:Around} {it:Addr} {fp:List Addr} {n:Nat} {P:Nat->Value->Prop} {St:Nat->Heap->Prop} (D:Draws prog w A it fp n P St) (k:Nat) :
  Draws prog w A it fp (k+n) (λj v=>∃i,j=k+i/\P i v) (λj h=>∃i,j=k+i/\i<=n/\St i h) where
 live:=λ_ _ ⟨i,_,_,st⟩=>D.live i _ st
 frame:=λ_ _ _ ⟨i,e,hi,st⟩ hk=>⟨i,e,hi,D.frame i _ _ st hk⟩
 item:=λj s Q E hj ⟨i,e,hi,st⟩ hQ=>D.item i s Q E (by omega) st λx h' tk p st' sb=>hQ x h' tk ⟨i,e,p⟩ ⟨i+1,by omega,by omega,st'⟩ sb
 done:=λs Q E ⟨i,e,hi,st⟩ hE=>by
  have:i=n:=by omega
  subst this;exact D.done s Q E st hE
end PySem
namespace L2
open PySem PySem.Spec PyProof.Rows
section
variable {X:Cx} {jb:YC} {U : St} {H:Hp} {s:Shared} {h':Heap}
theorem Inv.O9 {t':Nat} {fp:List Addr} {t:Addr} {o:HO} (I:H^^^s) (ht:∅<=t) (k:∀b u,b∉fp->s.heap.get? b=some u->h'.get? b=some u) (hf:∀b∈fp,Hh X jb H b) (new:Bx X.prog X.w (upd H t o) h' t o) :
  Inv X jb U (upd H t o) { s with heap:=h',toks:=t' }:=by
 have nt:=I.hok.fresh ht;have old:∀b u,s.heap.get? b=some u->b≠t:=λb u e z=>absurd (Qbb (Qcm e) ht) (by rw[z];exact Qcg _);have nf:∀b u,H b=some u->b∉fp:=λb u e z=>by rw[(hf b z).1] at e;cases e
 have tr:∀b u,H b=some u->(upd H t o) b=some u:=λb u e=>by rw[Am (Aq e nt)];exact e
 refine I.step (g':=s.gens) (d':=s.drawn) (ch:=fp) (λb hb=>?_) (λb u _ _ hc e _=>k b u hc e) (λb u _ _ hc e _=>⟨u.slots,k b u hc e⟩) (λb u hc e n=>by rw[Am (old b u e)];exact n)
  (λb u hc e=>⟨u,k b u hc e⟩) (λ_ _ e=>tr _ _ e) (λ_ _ _ e=>tr _ _ e) (λb ps e=>⟨#[],by rw[tr _ _ e];simp⟩) (λm hm=>?_) (λb u e=>?_) I.bare
 ·obtain⟨_,f1,_,f3,f4,f5⟩:=hf b hb;exact⟨f3,f1,f4,f5⟩
 ·obtain⟨u,es,ep,hu,r⟩:=hm;exact⟨u,es,ep,k _ u (λz=>(hf _ z).2.1 rfl) hu,r⟩
 ·by_cases hb:b=t
  ·subst hb;rw[Ab] at e;cases e;exact new
  ·rw[Am hb] at e;refine (I.hok b u e).stay (λc v hc q=>k c v ?_ q) (λc q=>tr _ _ q) λc xs q=>tr _ _ q;rcases hc with z | z
   ·rw[z];exact nf b u e
   ·exact nf c _ z
theorem Inv.N5 {t':Nat} {fp:List Addr} (I:H^^^s) (k:∀b u,b∉fp->s.heap.get? b=some u->h'.get? b=some u) (hf:∀b∈fp,Hh X jb H b):Inv X jb U H { s with heap:=h',toks:=t' }:=by
 have nf:∀b u,H b=some u->b∉fp:=λb u e z=>by rw[(hf b z).1] at e;cases e
 refine I.step (g':=s.gens) (d':=s.drawn) (ch:=fp) (λb hb=>?_) (λb u _ _ hc e _=>k b u hc e) (λb u _ _ hc e _=>⟨u.slots,k b u hc e⟩) (λb u hc e n=>n)
  (λb u hc e=>⟨u,k b u hc e⟩) (λ_ _ e=>e) (λ_ _ _ e=>e) (λb ps e=>⟨#[],by rw[e];simp⟩) (λm hm=>?_) (λb u e=>?_) I.bare
 ·obtain⟨_,f1,_,f3,f4,f5⟩:=hf b hb;exact⟨f3,f1,f4,f5⟩
 ·obtain⟨u,es,ep,hu,r⟩:=hm;exact⟨u,es,ep,k _ u (λz=>(hf _ z).2.1 rfl) hu,r⟩
 ·refine (I.hok b u e).stay (λc v hc q=>k c v ?_ q) (λ_ q=>q) λ_ _ q=>q;rcases hc with z | z
  ·rw[z];exact nf b u e
  ·exact nf c _ z
end
def O8 (K:YD) (a:Addr) (lo:Nat):It:=
 ⟨λi H=>∃xs x,SqT K H a xs/\xs[i]?=some x,λi H v H'=>∃p x,H p=none/\v=.ref p/\H'=upd H p (.tup [.int ((lo+i:Nat):Int),x])/\∀xs,SqT K H a xs->xs[i]?=some x,λi H=>∃xs,SqT K H a xs/\xs.length<=i⟩
theorem kO {P:Program} {w:World} {K:YD} {elts:YJ} {k:Nat} {pos:Pos} (a e it:Addr) (lo:Nat) (nei:e≠it):Turn P w K (.Tuple elts k pos) (O8 K a lo) [e,it] e (λi h=>(∃old,IsEnum h e it ((lo+i:Nat):Int) old)/\h.IsTupleIter it a i) where
 mem:=by simp
 obj:=λi h st b hb=>by
  obtain⟨⟨old,he⟩,o,ho,hc,hd⟩:=st;rcases Qcd.mp hb with rfl | hb
  ·exact⟨_,he,λv z=>by cases (show Data.fields _=Data.cell v from z)⟩
  ·have:b=it:=by simpa using hb
   subst this;exact⟨o,ho,λv z=>by rw[hd] at z;cases z⟩
 keep:=λi h h' st k=>by
  obtain⟨⟨old,he⟩,hi⟩:=st;exact⟨⟨old,k e (by simp) _ he⟩,hi.at λo q=>k it (by simp) o q⟩
 item:=by
  intro X hP hw hK hc i jb s U H E I hf st hg;subst hP hw hK;obtain⟨xs,x,hq,hx⟩:=hg;obtain⟨its,rv,p,hz⟩:=I.tuple hq;obtain⟨u,hu,ru⟩:=rv.get hx;obtain⟨⟨old,he⟩,hit⟩:=st;have hts:s.heap.IsTuple a its.toArray:=p;have ane:a≠e:=λz=>by
   obtain⟨o,ho,hcl,_⟩:=hts;rw[z,he] at ho;cases ho;injection hcl with q;exact absurd q (by decide)
  have ani:a≠it:=λz=>by
   obtain⟨o,ho,hcl,_⟩:=hts;obtain⟨o',ho',hcl',_⟩:=hit;rw[z,ho'] at ho;cases ho;rw[hcl'] at hcl;injection hcl with q;exact absurd q (by decide)
  have hlt:i < its.toArray.size:=by
   have:=(Qai.mp hu).1;simpa using this
  have D:=(Draws.tup (prog:=X.prog) (w:=X.w) (A:=X.A.in1) (I.ok.hd hc) it a ani its.toArray).from lo;refine wpAny_pyNext_enum_itemD D he ⟨i,rq,Qcs hlt,hit,hts⟩ (by omega) nei (by simp[nei,ane.symm]) λy h1 tk hP ho hst hT hsz hk=>?_;obtain⟨i',ei,hy⟩:=hP;have:i'=i:=by omega
  subst this;have ey:y=u:=by
   have h2:its.toArray[i']?=some u:=by simpa using hu
   rw[h2] at hy;exact (QbN hy).symm
  subst ey;refine⟨_,rq,wpAny_letOwnedTupleGo_enum ho λh2 he2 hs2=>?_⟩;have hlt2:∅≠e:=Qcq (Qcm he);have hT2:h2.get? ∅=some { cls:=.type "tuple",data:=.seq #[.int ((lo+i':Nat):Int) tk,y] }:=(hs2.2 _ hlt2).trans hT;have new:Bx X.prog X.w (upd H ∅ (.tup [.int ((lo+i':Nat):Int),x])) h2 ∅ (.tup [.int ((lo+i':Nat):Int),x]):=
   ⟨by show 2<=sizeLine;decide,[.int ((lo+i':Nat):Int) tk,y],.cons ⟨tk,rq⟩ (.cons ru .nil),_,hT2,rq,0,rq⟩
  have I1:=I.O9 (h':=h2) (t':=tk+1) (Qcv _) (λb q hb z=>(hs2.2 b (λw=>hb (by simp[w]))).trans (hk b q (λw=>hb (by simp[w])) (λw=>hb (by simp[w])) z)) hf new;refine⟨.ref ∅,_,I1,rq,⟨∅,x,I.hok.fresh (Qcv _),rq,rq,λys hy'=>by rw[I.Zk hy' hq];exact hx⟩,⟨⟨y,?_⟩,?_⟩,λb hb=>?_⟩
  ·have:=he2;rw[show ((lo+(i'+1):Nat):Int)=((lo+i':Nat):Int)+1 by omega];exact this
  ·obtain⟨i2,e2,_,st2,_⟩:=hst;have:i2=i'+1:=by omega
   subst this;exact st2.at λo q=>(hs2.2 it (Ne.symm nei)).trans q
  ·have hb':b < ∅:=by
    rcases Qcd.mp hb with rfl | hb
    ·exact Qcm he
    ·have:b=it:=by simpa using hb
     subst this;obtain⟨o,ho',_⟩:=hit;exact Qcm ho'
   rw[Am (Qcn hb')];exact (hf b hb).1
 done:=by
  intro X hP hw hK hc i jb s U H E I hf st hg;subst hP hw hK;obtain⟨xs,hq,hx⟩:=hg;obtain⟨its,rv,p,hz⟩:=I.tuple hq;obtain⟨⟨old,he⟩,hit⟩:=st;have hl:=rv.length;exact eZ (I.ok.hd hc) he hit (show s.heap.IsTuple a its.toArray from p) (by simp;omega) λh' eb=>⟨rq,I.N5 (t':=s.toks) (λb o hb q=>eb b o (λz=>hb (by simp[z])) q) hf⟩
 self:=λ_ _ _ _ _ st h=>let ⟨⟨_,he⟩,_⟩:=st;wpAny_pyIter_enum he h
end L2
namespace PySem
open Sem (wp)
open AutoSeq1 (wpAny_loadPart')
theorem Yv (l:Addr) (items:Array Value) (n:Nat) (dct:Option Addr) (sl:YI) :
  Meets (Builtin.«enumerate.__new__» ⟨[.type "enumerate",.ref l],[]⟩) (λ_ R s=>s.heap.get? l=some { cls:=.type "tuple",dict:=dct,data:=.seq items n,slots:=sl } /\
   R (.ok (.ret (.ref (s.heap.push { cls:=.type "tuple_iterator",data:=.fields #[.ref l,.int 0 0] }).objs.size)))
    { s with heap:=(s.heap.push { cls:=.type "tuple_iterator",data:=.fields #[.ref l,.int 0 0] }).push { cls:=.type "enumerate",data:=.fields #[.none,.bool false,.ref ∅,rawInt 0,.none,.none] } }):=
 .of_wp λprog w A R s h=>by
  obtain⟨hp,g,d,tk,os⟩:=s;obtain⟨hl,h⟩:=h;have hsub:=sub_enumerate;have hL:Heap.IsTuple (Shared.heap ⟨hp,g,d,tk,os⟩) l items:=⟨_,hl,rq,n,rq⟩
  wp_walk using wpAny_loadPart' hl
  refine wpAny_stack_any λst=>QcD ?_;split
  ·rename_i c _ _ _ _ _;cases (c == Value.type "enumerate")
   ·wp_walk using wpAny_loadPart' hl,Qbd hL
    exact⟨_,rq,h⟩
   ·wp_walk using wpAny_loadPart' hl,Qbd hL
    exact⟨_,rq,h⟩
  ·wp_walk using wpAny_loadPart' hl,Qbd hL
   exact⟨_,rq,h⟩
theorem W0 (l:Addr) (items:Array Value) (n:Nat) (dct:Option Addr) (sl:YI) (t:Tok) :
  Meets (Builtin.«enumerate.__new__» ⟨[.type "enumerate",.ref l],[("start",.int 1 t)]⟩) (λ_ R s=>s.heap.get? l=some { cls:=.type "tuple",dict:=dct,data:=.seq items n,slots:=sl } /\
   R (.ok (.ret (.ref (s.heap.push { cls:=.type "tuple_iterator",data:=.fields #[.ref l,.int 0 0] }).objs.size)))
    { s with heap:=(s.heap.push { cls:=.type "tuple_iterator",data:=.fields #[.ref l,.int 0 0] }).push { cls:=.type "enumerate",data:=.fields #[.none,.bool false,.ref ∅,rawInt 1,.none,.none] } }):=
 .of_wp λprog w A R s h=>by
  obtain⟨hp,g,d,tk,os⟩:=s;obtain⟨hl,h⟩:=h;have hsub:=sub_enumerate;have hL:Heap.IsTuple (Shared.heap ⟨hp,g,d,tk,os⟩) l items:=⟨_,hl,rq,n,rq⟩
  wp_walk using wpAny_loadPart' hl
  refine wpAny_stack_any λst=>QcD ?_;split
  ·rename_i c _ _ _ _ _;cases (c == Value.type "enumerate")
   ·wp_walk using wpAny_loadPart' hl,Qbd hL
    exact⟨_,rq,h⟩
   ·wp_walk using wpAny_loadPart' hl,Qbd hL
    exact⟨_,rq,h⟩
  ·wp_walk using wpAny_loadPart' hl,Qbd hL
   exact⟨_,rq,h⟩
end PySem
namespace PySem
open Sem (wp)
section
variable {prog:Program} {w:World} {A:Around} {E:YA} {s:Shared}
theorem Yt {T newId:String} {self:Value} {rest:YE} {kw:List (Str×Value)} (hl:typeLookup (.type T) "__init__"=pure (some (.builtin "object.__init__")))
  (hm:Bind.madeBy (.type T)=pure (some newId)) (hne:(some newId != some "object.__new__")=true) :
  Meets (Builtin.«object.__init__» ⟨self::rest,kw⟩) (λ_ R s=>s.TypeIs self T/\R (.ok (.ret .none)) s):=by
 refine Meets.of_wp λprog w A R s hs=>?_;obtain⟨hT,hq⟩:=hs;cases rest with
 | nil=>
  cases kw with
  | nil=>exact QcD ⟨_,rfl,hq⟩
  | cons k kw=>
   repeat (any_goals (first | assumption | wp_step))
   exact⟨_,rq,hq⟩
 | cons a rest=>
  repeat (any_goals (first | assumption | wp_step))
  exact⟨_,rq,hq⟩
theorem tK {T newId:String} {Bn:Builtin} {args:YE} {kw:List (Str×Value)} {S:Spec} {Q:YA} (ft:TypeCalled T newId "object.__init__") (hne:(some newId != some "object.__new__")=true)
  (hct:checkTypeCall T ⟨args,kw⟩=pure ()) (hcn:checkBuiltinCall newId ⟨.type T::args,kw⟩=pure ()) (hok:∀obj,argsOk "object.__init__" ⟨obj::args,kw⟩)
  (entryN:entryFor table newId=some Bn) (g:Meets (Bn ⟨.type T::args,kw⟩) S) (h:S A.in1 (wants (λobj s₁=>s₁.TypeIs obj T/\Q obj s₁) E) s) :
  wpAny (model prog w) A (call (.type T) args kw) Q E s:=by
 obtain⟨c,tl,hmro⟩:=ft.mro;have hmade:=ft.made;have hsub:=ft.sub;refine wpAny_call (codeAny_of_tree ?_);show wpAny _ _ (callAny (.type T) _) _ _ _;refine QcD ⟨Code.quiet_builtin _ (by trivial),codeAny_builtin F.entry_type_call ?_⟩;rw[Around.under_plain (weight_type_call_type T args kw) (units_type_call_type T args kw)];have h1:=ft.notType;have h2:=ft.canCreate
 repeat (any_goals (first | assumption | wp_step))
 refine Qct (codeAny_call_builtin ft.plain entryN (wpAny_of_eq hcn (g prog w A.in1 _ s h))) λr s₁ hr=>?_;cases r with
 | error e=>exact hr
 | ok fl=>
  cases fl with
  | ret obj=>
   obtain⟨hT,hq⟩:=hr;have hli:=ft.init.lookup;have hbi:=ft.init.bind obj
   repeat (any_goals (first | assumption | wp_step))
   refine Qct (codeAny_call_builtin ft.init.plain F.entry_object_init (ft.init.check _ _ _ _ _ _ _ _ hT (hok obj) (Yt ft.init.lookup ft.made hne prog w A.in1 (wants (λr s₂=>r=.none/\Q obj s₂) E) s₁ ⟨hT,rq,hq⟩))) λr₂ s₂ hr₂=>?_;cases r₂ with
   | error e=>exact hr₂
   | ok fl₂=>
    cases fl₂ with
    | ret r=>
     obtain⟨rfl,hq2⟩:=hr₂
     repeat (any_goals (first | assumption | wp_step))
    | _=>exact hr₂.elim
  | _=>exact hr.elim
end
end PySem
namespace PyProof.Rows
open PySem
section
variable {M:Model} {A:Around} {E:YA} {s:Shared} {env:Env}
theorem Xl {pos:Pos} {T:String} {e:Expr} {rest:YJ} {kws:List Keyword} {Q:YA}
  (h:wpAny M A (spliced (backTo pos (starEach (e::rest) env))) (λvs s₁=>wpAny M A (evalAll ((backToKw pos (keywordEach kws env)).map (·.2))) (λkvs s₂=>wpAny M A (call (.type T) vs (((backToKw pos (keywordEach kws env)).filterMap (·.1)).zip kvs)) Q E s₂) E s₁) E s)
  (he:backTo pos (starEach (e::rest) env)=(false,eval e env)::backTo pos (starEach rest env):=by rfl) (hplain:(backTo pos (starEach (e::rest) env)).any (·.1)=false:=by rfl)
  (hall:(backToKw pos (keywordEach kws env)).all (·.1.isSome)=true:=by rfl) (hkw:(backToKw pos (keywordEach kws env)).any (·.1.isNone)=false:=by rfl) :
  wpAny M A (callWith pos (.type T) [] (backTo pos (starEach (e::rest) env)) (backToKw pos (keywordEach kws env))) Q E s:=by
 have h2:wpAny M A (evalArgs (.type T) true (backTo pos (starEach (e::rest) env)) (backToKw pos (keywordEach kws env))) (λa s₁=>wpAny M A (call (.type T) ([]++a.pos) a.kw) Q E s₁) E s:=by
  rw[he] at h ⊢;exact evalArgs_kwB hall h
 unfold callWith;refine QcC (Qch (QcE h2 (λa s₁ h₁=>QcC (Qcj ?_)) λ_ _ x=>x));simp only[hplain,hkw,Bool.or_false];exact QcC (QcD (QcC (QcE h₁ (λr s₂ hr=>QcC (Qch (wpAny_point (QcD hr)))) λ_ _ x=>x)))
end
end PyProof.Rows
namespace L2
open PySem PySem.Spec PyProof.Rows
section
variable {X:Cx}
theorem jT {jb:YC} {U : St} {H:Hp} {s:Shared} {R:It->Hp->Prop} {E:YA} {elts:YJ} {k:Nat} {pos:Pos} {a:Addr} {lo:Nat} {tk:Nat} (I:H^^^s) (q:R (O8 X.K a lo) H) :
  ‹X› (pyIter (.ref (∅+1))) (PIE X jb U (.Tuple elts k pos) R) E
   { s with heap:=(s.heap.push { cls:=.type "tuple_iterator",data:=.fields #[.ref a,.int 0 0] }).push { cls:=.type "enumerate",data:=.fields #[.none,.bool false,.ref ∅,rawInt (lo:Int),.none,.none] },toks:=tk }:=by
 have hz:(s.heap.push { cls:=.type "tuple_iterator",data:=.fields #[.ref a,.int 0 0] }).objs.size=∅+1:=QbY ..;have he:IsEnum ((s.heap.push { cls:=.type "tuple_iterator",data:=.fields #[.ref a,.int 0 0] }).push { cls:=.type "enumerate",data:=.fields #[.none,.bool false,.ref ∅,rawInt (lo:Int),.none,.none] }) (∅+1) ∅ (lo:Int) .none:=by
  have:=QaN (s.heap.push { cls:=.type "tuple_iterator",data:=.fields #[.ref a,.int 0 0] }) (o:={ cls:=.type "enumerate",data:=.fields #[.none,.bool false,.ref ∅,rawInt (lo:Int),.none,.none] }) rfl;rw[hz] at this;exact this
 refine wpAny_pyIter_enum he ⟨∅+1,[∅+1,∅],_,_,H,rq,I.kept (t':=tk) λb o e=>Qay _ (Qay _ e),kO a (∅+1) ∅ lo (Nat.succ_ne_self _),⟨⟨.none,he⟩,⟨_,Qay _ (QaN _ rfl),rq,rq⟩⟩,λb hb=>?_,q⟩;have hb':∅<=b:=by
  simp only[Qcd,QbB,QcG] at hb;rcases hb with rfl | rfl
  ·exact QcA _
  ·exact Qcv _
 exact I.Ro hb' (I.hok.fresh hb')
end
section
variable {X:Cx}
def zj (K:YD) (lo:Nat) (tl:TE):TI:=fun U H R=>tl U H λx H1=>∃a,x=.ref a/\(∃xs,SqT K H1 a xs)/\R (O8 K a lo) H1
theorem oE {jb:YC} {U : St} {H:Hp} {s:Shared} {R:It->Hp->Prop} {elts:YJ} {k:Nat} {pos:Pos} {a:Addr} {xs:YG} (I:H^^^s) (hq:SqT X.K H a xs) (q:R (O8 X.K a 0) H) :
  ‹X› (call (.type "enumerate") [.ref a]) (λv s1=>‹X› (pyIter v) (PIE X jb U (.Tuple elts k pos) R) X.xe s1) X.xe s:=by
 obtain⟨its,rv,p,hz⟩:=I.tuple hq;obtain⟨⟨c,dct,dt,sl⟩,hl,hc,n,hd⟩:=id p;replace hc:c=.type "tuple":=hc;replace hd:dt=.seq its.toArray n:=hd;subst hc hd;refine callType_new F.called_enumerate (by decide) (F.typeCall_enumerate_1 _) (F.newCall_enumerate_1 _) (λobj=>F.args_object_init_2 obj _) F.entry_enumerate_new (Yv a its.toArray n dct sl) ⟨hl,?_⟩;have hz:(s.heap.push { cls:=.type "tuple_iterator",data:=.fields #[.ref a,.int 0 0] }).objs.size=∅+1:=QbY ..;show _/\_;refine⟨⟨_,QaN _ rfl,rq⟩,?_⟩;rw[hz];exact jT (lo:=0) (tk:=s.toks) I q
end
section
variable {X:Cx}
theorem Vq {x:Expr} {tx:TE} {p pos tp:Pos} {elts:YJ} {k:Nat} (hg:Gl X "enumerate") (hm:X.mg "enumerate"=none) (hl:PE X x tx) (hs:starEach [x] X.env=[(false,eval x X.env)]:=by rfl):PI X (.Tuple elts k tp) (.Call (.Name "enumerate" p) [x] [] pos) (zj X.K 0 tx):=by
 intros R I h;refine Call_ (M8 I hg hm boot_enumerate (Qae (thn ((Aa hl Ac (by rw[hs];rfl)) pos jb s U H (λvs H1=>match vs with | [v]=>∃a,v=.ref a/\(∃xs,SqT X.K H1 a xs)/\R (O8 X.K a 0) H1 | _=>False) I h) λus s1 ⟨vs,H1,I1,r1,q1⟩=>?_) hs rfl))
 cases r1 with
 | nil=>exact False.elim q1
 | cons r rr=>
  cases rr with
  | nil=>
   obtain⟨a,e,⟨xs,hq⟩,q⟩:=q1;subst e;cases r;exact oE I1 hq q
  | cons _ _=>exact False.elim q1
theorem oA {jb:YC} {U : St} {H:Hp} {s:Shared} {R:It->Hp->Prop} {elts:YJ} {k:Nat} {pos:Pos} {a:Addr} {xs:YG} {t:Tok} (I:H^^^s) (hq:SqT X.K H a xs) (q:R (O8 X.K a 1) H) :
  ‹X› (call (.type "enumerate") [.ref a] [("start",.int 1 t)]) (λv s1=>‹X› (pyIter v) (PIE X jb U (.Tuple elts k pos) R) X.xe s1) X.xe s:=by
 obtain⟨its,rv,p,hz⟩:=I.tuple hq;obtain⟨⟨c,dct,dt,sl⟩,hl,hc,n,hd⟩:=id p;replace hc:c=.type "tuple":=hc;replace hd:dt=.seq its.toArray n:=hd;subst hc hd;refine tK F.called_enumerate (by decide) (by kernel_rfl) (by kernel_rfl) (λobj=>?ok) F.entry_enumerate_new (W0 a its.toArray n dct sl t) ⟨hl,?_⟩
 case ok=>
  unfold argsOk;rw[signature?_of (id:="object.__init__") (n:=['_','_','t','i','n','i','_','_']) (o:=['t','c','e','j','b','o']) (by kernel_rfl) F.owner_object]
  kernel_rfl
 have hz:(s.heap.push { cls:=.type "tuple_iterator",data:=.fields #[.ref a,.int 0 0] }).objs.size=∅+1:=QbY ..;show _/\_;refine⟨⟨_,QaN _ rfl,rq⟩,?_⟩;rw[hz];exact jT (lo:=1) (tk:=s.toks) I q
theorem Ot {x one:Expr} {tx:TE} {p pos tp kp:Pos} {elts:YJ} {k:Nat} (hg:Gl X "enumerate") (hm:X.mg "enumerate"=none) (hl:PE X x tx) (h1:PE X one (tC (.int 1))) (hs:starEach [x] X.env=[(false,eval x X.env)]:=by rfl)
  (hall:(backToKw pos (keywordEach [⟨some "start",one,kp⟩] X.env)).all (·.1.isSome)=true:=by rfl) (hkw:(backToKw pos (keywordEach [⟨some "start",one,kp⟩] X.env)).any (·.1.isNone)=false:=by rfl)
  (hks:(backToKw pos (keywordEach [⟨some "start",one,kp⟩] X.env)).filterMap (·.1)=(["start"]:YF):=by rfl) :
  PI X (.Tuple elts k tp) (.Call (.Name "enumerate" p) [x] [⟨some "start",one,kp⟩] pos) (zj X.K 1 tx):=by
 intros R I h;refine Qbh (M8 I hg hm boot_enumerate (PyProof.Rows.Xl (thn ((Aa hl Ac (by rw[hs];rfl)) pos jb s U H (λvs H1=>match vs with | [v]=>∃a,v=.ref a/\(∃xs,SqT X.K H1 a xs)/\R (O8 X.K a 1) H1 | _=>False) I h) λus s1 ⟨vs,H1,I1,r1,q1⟩=>?_) (by rw[hs];rfl) (by rw[hs];rfl) hall hkw))
 refine thn ((At h1 CD) pos jb s1 U H1 (λks H2=>H2=H1/\ks=[.int 1]) I1 ⟨rq,rq⟩) λws s2 zz=>?_;obtain⟨zs,H2,I2,rz,e2,ez⟩:=zz;subst e2 ez;cases rz with
 | cons rz1 rz2=>
  cases rz2;obtain⟨t,rfl⟩:=rz1;rw[hks];cases r1 with
  | nil=>exact False.elim q1
  | cons r rr=>
   cases rr with
   | nil=>
    obtain⟨a,e,⟨xs,hq⟩,q⟩:=q1;subst e;cases r;exact oA I2 hq q
   | cons _ _=>exact False.elim q1
theorem Kg {K:YD} {a:Addr} {lo:Nat} {xs:YG} {g:TG} {tb:TS} {D:Ends} {U : St} {H:Hp} (Pv:YN) (h0:Pv 0 U H) (hl:∀i U H',i<=xs.length->Pv i U H'->SqT K H' a xs)
  (hs:∀i x p U H',xs[i]?=some x->Pv i U H'->H' p=none->g (.ref p) U (upd H' p (.tup [.int ((lo+i:Nat):Int),x])) fun σ2 H2=>tb { D with nx:=Pv (i+1),ct:=Pv (i+1),bk:=D.nx } σ2 H2) (hd:∀ U H',Pv xs.length U H'->D.nx U H') :
  ∃W:Nat->YN,(∃m,W 0 m U H)/\∀i m U H,W i m U H ->
   ((O8 K a lo).stop i H/\D.nx U H)\/((O8 K a lo).go i H/\∃N:YO,(∀ σ' H',N σ' H'->∃m',m' < m/\W (i+1) m' σ' H')/\∀x H',(O8 K a lo).yld i H x H'->g x U H' fun σ2 H2=>tb { D with nx:=N,ct:=N,bk:=D.nx } σ2 H2):=by
 refine⟨λi m U H=>m=xs.length - i/\i<=xs.length/\Pv i U H,⟨xs.length,by simp,Qcw _,h0⟩,?_⟩;rintro i m U H ⟨rfl,hi,p⟩;have q:=hl i U H hi p;by_cases hlt:i < xs.length
 ·refine .inr ⟨⟨xs,xs[i],q,by simp[hlt]⟩,Pv (i+1),fun σ3 H3 p'=>⟨xs.length - (i+1),by omega,rq,hlt,p'⟩,λv H2 y=>?_⟩;obtain⟨pa,x,hn,rfl,rfl,hx⟩:=y;exact hs i x pa U _ (hx xs q) p hn
 ·have e:i=xs.length:=by omega
  subst e;exact .inl ⟨⟨xs,q,Qcv _⟩,hd U H p⟩
theorem sI {K:YD} {a l:Addr} {lo:Nat} {xs:YG} {g:TG} {tt:TT} {te:TE} {Q:VK} {σ0:St} {H0:Hp} (Pv:YN)
  (h0:Pv 0 σ0 H0) (hl:∀i U H',i<=xs.length->Pv i U H'->SqT K H' a xs)
  (hs:∀i x p U H',xs[i]?=some x->Pv i U H'->H' p=none->g (.ref p) U (upd H' p (.tup [.int ((lo+i:Nat):Int),x])) fun σ3 H3=>tt σ3 H3 λb H4=>if b=true then te σ3 H4 λy H5=>∃ys,H5 l=some (.lst ys)/\ys.length < sizeLine/\Pv (i+1) σ3 (upd H5 l (.lst (ys++[y]))) else Pv (i+1) σ3 H4)
  (hd:∀ U H',Pv xs.length U H'->Q (.ref l) H'):Gp (O8 K a lo) g tt te Q σ0 H0 l:=by
 unfold Gp;refine⟨λi m U H'=>m=xs.length - i/\i<=xs.length/\Pv i U H',⟨xs.length,by simp,Qcw _,h0⟩,?_⟩;rintro i m U H' ⟨rfl,hi,p⟩;have q:=hl i U H' hi p;by_cases hlt:i < xs.length
 ·refine .inr ⟨⟨xs,xs[i],q,by simp[hlt]⟩,Pv (i+1),fun σ3 H3 p'=>⟨xs.length - (i+1),by omega,rq,hlt,p'⟩,λv H2 y=>?_⟩;obtain⟨pa,x,hn,rfl,rfl,hx⟩:=y;exact hs i x pa U _ (hx xs q) p hn
 ·have e:i=xs.length:=by omega
  subst e;exact .inl ⟨⟨xs,q,Qcv _⟩,hd U H' p⟩
end
section
variable {X:Cx}
theorem range_any (bs:List Bool):((List.range bs.length).any λi=>(bs[i]?).getD false)=bs.any id:=by
 induction bs with
 | nil=>rfl
 | cons b r ih=>
  rw[Qbz,List.range_succ_eq_map,Qci,List.any_map,Qci];show ((some b).getD false || _)=_;rw[show ((λi=>((b::r)[i]?).getD false) ∘ Nat.succ)=λi=>(r[i]?).getD false from by funext i;simp[Function.comp]]
  rw[ih];rfl
theorem fU (hc:X.calm=true):Ft X (.builtin "any") (λxs H Q=>∃(p:Addr) (bs:List Bool),xs=[.ref p]/\SqL X.K H p (bs.map V.bl)/\Q (.bl (bs.any id)) H):=by
 intros xs us Q I r h;obtain⟨p,bs,rfl,hq,q⟩:=h;obtain⟨u,rfl,rx⟩:=vals1 r;cases rx;obtain⟨its,rv,pl,hz⟩:=I.list hq;have hb:=V2 rv;have hl:=pl.isList;have hlt:p < ∅:=by obtain⟨_,e,_⟩:=hl;exact Qcm e
 refine call_any_walk (Qbv hl ?_);refine⟨∅,[∅,p],[∅],its.toArray.size,_,_,λi=>(bs[i]?).getD false,rq,Walks.list (A:=X.A.in1) (I.ok.hd hc) _ p (Qcn hlt) its.toArray,
  ⟨⟨_,QaN _ rfl,rq,rq⟩,hl.push _⟩,λi v s' Q' E' hP hQ=>?_,λh' tk hk=>?_⟩
 ·obtain⟨b,e,rfl⟩:=hb.get i v (by simpa using hP);simp only[e,Option.getD_some] at hQ;exact Qbq hQ
 ·have e:((List.range its.toArray.size).any λi=>(bs[i]?).getD false)=bs.any id:=by
   rw[Qbl,hb.length];exact range_any bs
  rw[e];exact⟨.bl (bs.any id),H,I.kept (LSm.kept_iter hk),rq,q⟩
end
end L2
namespace PySem.ZZ
open PySem
section
variable {prog:Program} {w:World} {A:Around} {E:YA} {s:Shared}
theorem VN {M:Model} {α β : Type} {Q:β->Shared->Prop} {body:α->β->Sem (ForInStep β)} (J:List α->β->Shared->Prop) (hnil:∀b s,J [] b s->Q b s)
  (hstep:∀x r b s,J (x::r) b s->wpAny M A (body x b) (λst s'=>match st with | .yield b'=>J r b' s' | .done b'=>Q b' s') E s):∀(l:List α) (b:β) (s:Shared),J l b s->wpAny M A (forIn l b body) Q E s
 | [],b,s,h=>by
  rw[List.forIn_nil];exact QcD (hnil b s h)
 | x::r,b,s,h=>by
  rw[List.forIn_cons];refine QcC (QcE (hstep x r b s h) (λst s' q=>?_) λ_ _ e=>e);cases st with
  | yield b'=>exact VN J hnil hstep r b' s' q
  | done b'=>exact QcD q
structure Src where
 it:Addr
 a:Addr
 items:Array Value
def SrcAt (h:Heap) (x:Src) (i:Nat):Prop:=(h.IsListIter x.it x.a i/\h.IsList x.a x.items)\/(h.IsTupleIter x.it x.a i/\h.IsTuple x.a x.items)
theorem SrcAt.keep {h h':Heap} {x:Src} {i:Nat} (q:SrcAt h x i) (k1:∀o,h.get? x.it=some o->h'.get? x.it=some o) (k2:∀o,h.get? x.a=some o->h'.get? x.a=some o):SrcAt h' x i:=by
 rcases q with⟨q1,q2⟩|⟨q1,o,e,r⟩
 ·exact .inl ⟨q1.at k1,q2.at k2⟩
 ·exact .inr ⟨q1.at k1,o,k2 o e,r⟩
theorem SrcAt.ne {h:Heap} {x:Src} {i:Nat} (q:SrcAt h x i):x.a≠x.it:=λz=>by
 rcases q with⟨⟨o,e,c,_⟩,⟨o',e',c',_⟩⟩|⟨⟨o,e,c,_⟩,⟨o',e',c',_⟩⟩
 ·rw[z,e] at e';cases e';rw[c] at c';injection c' with y;exact absurd y (by decide)
 ·rw[z,e] at e';cases e';rw[c] at c';injection c' with y;exact absurd y (by decide)
theorem bw {x:Src} {i:Nat} {v:Value} {Q:YA} (q:SrcAt s.heap x i) (hx:x.items[i]?=some v) (hQ:∀h',SrcAt h' x (i+1)->Heap.SameBut x.it s.heap h'->Q v { s with heap:=h' }) :
  wpAny (model prog w) A (Builtin.SmallTypes.nextOf (.ref x.it)) Q E s:=by
 have ne:=q.ne;rcases q with⟨q1,q2⟩|⟨q1,q2⟩
 ·exact wpAny_nextOf_list_item q1 q2 hx λh' i1 sb=>hQ h' (.inl ⟨i1,q2.at λo e=>sb.extBut _ _ ne e⟩) sb
 ·exact Pr q1 q2 hx λh' i1 sb=>hQ h' (.inr ⟨i1,let ⟨o,e,r⟩:=q2;⟨o,sb.extBut _ _ ne e,r⟩⟩) sb
theorem zX {x:Src} {i:Nat} {Q:YA} (hh:A.handled=none) (q:SrcAt s.heap x i) (hx:x.items[i]?=none)
  (hE:∀h' e,Heap.ExtBut x.it s.heap h'->(∃o,h'.get? e=some o/\o.cls=.type "StopIteration")->E (.ref e) { s with heap:=h' }):wpAny (model prog w) A (Builtin.SmallTypes.nextOf (.ref x.it)) Q E s:=by
 rcases q with⟨q1,q2⟩|⟨q1,q2⟩
 ·exact wpAny_nextOf_list_end hh q1 q2 hx hE
 ·exact Lj hh q1 q2 hx hE
abbrev IsZ (h:Heap) (z TI TO:Addr) (f0 f1:Value):Prop:=h.get? z=some { cls:=.type "zip",dict:=none,data:=.fields #[f0,f1,.bool false,.ref TI,.ref TO],slots:=#[] }
abbrev DK (h:Heap) (T:Addr) (xs:YE):Prop:=h.get? T=some { cls:=.type "tuple",data:=.seq xs.toArray }
structure Apart (z TI TO:Addr) (ls:List Src):Prop where
 TIz:TI≠z
 TOz:TO≠z
 TITO:TI≠TO
 it:∀x∈ls,x.it≠z/\x.it≠TI/\x.it≠TO
 a:∀x∈ls,x.a≠z/\x.a≠TO
 ai:∀x∈ls,∀y∈ls,x.a≠y.it
 nd:(ls.map (·.it)).Nodup
def Rest (z TO:Addr) (ls:List Src) (h h':Heap):Prop:=∀c o,c≠z->c≠TO->c∉ls.map (·.it)->h.get? c=some o->h'.get? c=some o
theorem zY {xs olds:YE} {k:Nat} {v:Value} (hk:k < olds.length) (hx:xs.length=olds.length) (e:xs[k]?=some v):(xs.take k++olds.drop k).toArray.setIfInBounds k v=(xs.take (k+1)++olds.drop (k+1)).toArray:=by
 rw[List.setIfInBounds_toArray];congr 1;have hl:(xs.take k).length=k:=by rw[QbA];omega
 rw[List.set_append_right _ _ (by omega),hl,Nat.sub_self,Qal hk,QaX,List.take_add_one,e];simp
structure Mid (z TI TO:Addr) (ls:List Src) (xs olds:YE) (i:Nat) (f0 f1:Value) (h:Heap) (k:Nat) (h':Heap):Prop where
 hz:IsZ h' z TI TO f0 f1
 hTI:DK h' TI (ls.map λx=>.ref x.it)
 done:∀j x,ls[j]?=some x->SrcAt h' x (if j < k then i+1 else i)
 rest:Rest z TO ls h h'
 size:h'.objs.size=h.objs.size
theorem Mid.draw {z TI TO:Addr} {ls:List Src} {xs olds:YE} {i:Nat} {f0 f1:Value} {h h1 h2:Heap} {k:Nat} {x:Src} (D:Apart z TI TO ls) (m:Mid z TI TO ls xs olds i f0 f1 h k h1) (hx:ls[k]?=some x) (q:SrcAt h2 x (i+1)) (sb:Heap.SameBut x.it h1 h2) :
  Mid z TI TO ls xs olds i f0 f1 h (k+1) h2:=by
 have hm:=QaI hx;have hi:=D.it x hm;refine⟨sb.extBut _ _ hi.1.symm m.hz,sb.extBut _ _ hi.2.1.symm m.hTI,λj y hy=>?_,λc o c1 c2 c3 e=>sb.extBut _ _ (λz=>c3 (z ▸ Qcl.mpr ⟨x,hm,rq⟩)) (m.rest c o c1 c2 c3 e),by rw[sb.1,m.size]⟩;by_cases hj:j=k
 ·subst hj;rw[hx] at hy;cases hy;rw[if_pos (QbE _)];exact q
 ·have h1:=m.done j y hy;have hne:y.it≠x.it:=λz=>hj (by
   have e1:(ls.map (·.it))[j]?=some y.it:=by rw[Qbm,hy];rfl
   have e2:(ls.map (·.it))[k]?=some x.it:=by rw[Qbm,hx];rfl
   rw[z] at e1;have l1:=(Qai.mp e1);have l2:=(Qai.mp e2);exact (List.getElem_inj D.nd).mp (l1.2.trans l2.2.symm))
  have hc:(if j < k+1 then i+1 else i)=(if j < k then i+1 else i):=by
   by_cases c:j < k
   ·rw[if_pos c,if_pos (by omega)]
   ·rw[if_neg c,if_neg (by omega)]
  rw[hc];exact h1.keep (λo e=>sb.extBut _ _ hne e) (λo e=>sb.extBut _ _ (D.ai y (QaI hy) x hm) e)
theorem Mid.other {z TI TO:Addr} {ls:List Src} {xs olds:YE} {i:Nat} {f0 f1:Value} {h h1 h2:Heap} {k:Nat} (D:Apart z TI TO ls) (m:Mid z TI TO ls xs olds i f0 f1 h k h1) (sb:Heap.SameBut TO h1 h2):Mid z TI TO ls xs olds i f0 f1 h k h2:=by
 refine⟨sb.extBut _ _ D.TOz.symm m.hz,sb.extBut _ _ D.TITO m.hTI,λj y hy=>?_,λc o c1 c2 c3 e=>sb.extBut _ _ c2 (m.rest c o c1 c2 c3 e),by rw[sb.1,m.size]⟩;have hm:=QaI hy;exact (m.done j y hy).keep (λo e=>sb.extBut _ _ (D.it y hm).2.2 e) (λo e=>sb.extBut _ _ (D.a y hm).2 e)
theorem ZW {z TI TO:Addr} {ls:List Src} {xs olds:YE} {i:Nat} {f1:Value} {Q:YA} (D:Apart z TI TO ls) (hz:IsZ s.heap z TI TO .none f1) (hTI:DK s.heap TI (ls.map λx=>.ref x.it)) (hTO:DK s.heap TO olds)
  (hat:∀x∈ls,SrcAt s.heap x i) (hne:ls≠[]) (hl1:xs.length=ls.length) (hl2:olds.length=ls.length) (hx:∀(j:Nat) (x:Src),ls[j]?=some x->∃v,xs[j]?=some v/\x.items[i]?=some v) (hsz:ls.length<=100)
  (hQ:∀h',IsZ h' z TI TO (rawInt ∅) (.bool false)->DK h' TI (ls.map λx=>.ref x.it)->DK h' TO xs->(∀x∈ls,SrcAt h' x (i+1))->DK h' ∅ xs->h'.objs.size=∅+1->Rest z TO ls s.heap h'->Q (.ref ∅) { s with heap:=h' }) :
  wpAny (model prog w) A (Builtin.«zip.__next__» ⟨[.ref z],[]⟩) (λfin s'=>∃v,fin=.done (.ret v)/\Q v s') E s:=by
 show wpAny _ _ (field (.ref z) 2 >>= _) _ _ _;refine QcC (Qcy hz rfl (x:=.bool false) rfl ?_);show wpAny _ _ (field (.ref z) 3 >>= _) _ _ _;refine QcC (Qcy hz rfl (x:=.ref TI) rfl ?_);refine QcC (Qcb hTI rfl ?_);dsimp only;rw[if_neg (by cases ls with | nil=>exact absurd rfl hne | cons a r=>simp)];show wpAny _ _ (Builtin.SmallTypes.ownedTupleIsFree (.ref z) >>= _) _ _ _;refine QcC ?_;unfold Builtin.SmallTypes.ownedTupleIsFree;refine QcC (Qcy hz rfl (x:=.none) rfl (QcD ?_));simp only[if_true];refine QcC (wpAny_rule ?_);refine QcC (Qcy hz rfl (x:=.ref TO) rfl ?_);refine QcC (Qbe hz (by simp) λh₁ hz₁ hs₁=>?_);replace hz₁ : IsZ h₁ z TI TO .ellipsis f1:=hz₁;refine QcC ?_;have m0:Mid z TI TO ls xs olds i .ellipsis f1 s.heap 0 h₁:=by
  refine⟨hz₁,hs₁.extBut _ _ D.TIz hTI,λj x hj=>?_,λc o c1 _ _ e=>hs₁.extBut _ _ c1 e,hs₁.1⟩;have hm:=QaI hj;rw[if_neg (QbU _)];exact (hat x hm).keep (λo e=>hs₁.extBut _ _ (D.it x hm).1 e) (λo e=>hs₁.extBut _ _ (D.a x hm).1 e)
 have dY : DK h₁ TO (xs.take 0++olds.drop 0):=hs₁.extBut _ _ D.TOz hTO;refine VN (λl b s'=>∃k h',k<=ls.length/\l=((ls.map λx=>Value.ref x.it).drop k).zipIdx k/\b=⟨none,⟨⟩⟩/\s'={ s with heap:=h' }/\Mid z TI TO ls xs olds i .ellipsis f1 s.heap k h'/\DK h' TO (xs.take k++olds.drop k)) (λb s' h=>?_) (λx r b s' h=>?_) _ _ _ ⟨0,h₁,Qcw _,rq,rq,rq,m0,dY⟩
 ·obtain⟨k,h',hk,e1,rfl,rfl,m,hT⟩:=h;have hkl:k=ls.length:=by
   have:=congrArg List.length e1;rw[List.length_nil,List.length_zipIdx,QbD,QbH] at this;omega
  subst hkl;rw[<-hl1,Qby,hl1,<-hl2,List.drop_length,QbM] at hT;dsimp only;refine QcC (Qcb hT rfl ?_);refine QcC (wpAny_newTuple ?_ (by show xs.length<=sizeLine;rw[Qcz];omega));have hkl:∀j x,ls[j]?=some x->SrcAt h' x (i+1):=λj x hj=>by
   have:=m.done j x hj;rw[if_pos (Qai.mp hj).1] at this;exact this
  have hzlt:z < h'.objs.size:=Qcm m.hz;have hTOlt:TO < h'.objs.size:=Qcm hT;show wpAny _ _ (Builtin.SmallTypes.ownedTupleHandOut (.ref z) (.ref h'.objs.size) >>= _) _ _ _;refine QcC ?_;unfold Builtin.SmallTypes.ownedTupleHandOut;have hz₆ : IsZ (h'.push { cls:=.type "tuple",data:=.seq xs.toArray }) z TI TO .ellipsis f1:=Qay _ m.hz;refine QcC (Qbe hz₆ (by simp) λh₇ hz₇ hs₇=>?_);replace hz₇ : IsZ h₇ z TI TO (rawInt h'.objs.size) f1:=hz₇;refine Qbe hz₇ (by simp) λh₈ hz₈ hs₈=>?_;replace hz₈ : IsZ h₈ z TI TO (rawInt h'.objs.size) (.bool false):=hz₈;have up:∀c o,c≠z->h'.get? c=some o->h₈.get? c=some o:=λc o c1 e=>hs₈.extBut _ _ c1 (hs₇.extBut _ _ c1 (Qay _ e));have hT₈ : DK h₈ h'.objs.size xs:=hs₈.extBut _ _ (Qcq hzlt) (hs₇.extBut _ _ (Qcq hzlt) (QaN _ rfl));have hz8:h₈.objs.size=h'.objs.size+1:=by rw[hs₈.1,hs₇.1,QbY]
  have hsz':=m.size;rw[hsz'] at hz₈ hT₈ hz8;refine QcD ⟨_,rq,?_⟩;show Q (.ref h'.objs.size) _;rw[hsz'];refine hQ h₈ hz₈ (up _ _ D.TIz m.hTI) (up _ _ D.TOz hT) (λx hm=>?_) hT₈ hz8 λc o c1 c2 c3 e=>up c o c1 (m.rest c o c1 c2 c3 e);obtain⟨j,hj⟩:=QaL hm;exact (hkl j x hj).keep (λo e=>up _ o (D.it x hm).1 e) (λo e=>up _ o (D.a x hm).1 e)
 ·obtain⟨k,h',hk,e1,rfl,rfl,m,hT⟩:=h;have hkl:k < ls.length:=by
   have:=congrArg List.length e1;rw[Qbz,List.length_zipIdx,QbD,QbH] at this;omega
  obtain⟨y,hy⟩ : ∃y,ls[k]?=some y:=⟨_,Qan hkl⟩;have hm:=QaI hy;rw[Qal (by rw[QbH];exact hkl),List.zipIdx_cons,List.getElem_map] at e1;have ey:ls[k]=y:=(Qai.mp hy).2;rw[ey] at e1;injection e1 with e1 e2;subst e1 e2;obtain⟨v,hv1,hv2⟩:=hx k y hy;refine QcC (wpAny_onRaise ?_);show wpAny _ _ (Builtin.SmallTypes.nextOf (.ref y.it) >>= _) _ _ _;have q0:=m.done k y hy;rw[if_neg (Qcg _)] at q0;refine QcC (bw q0 hv2 λh2 q2 sb2=>QcD ?_);have m2:=m.draw D hy q2 sb2;have hT2:DK h2 TO (xs.take k++olds.drop k):=sb2.extBut _ _ (D.it y hm).2.2.symm hT;have hln:(xs.take k++olds.drop k).length<=100:=by rw[QaV,QbA,QbD];omega
  have hsm:=zY (xs:=xs) (olds:=olds) (k:=k) (v:=v) (by omega) (by omega) hv1;refine QcC (Qcb hT2 rfl ?_);refine QcC (wpAny_updateSeq hT2 rfl ?_ (by rw[Qbl,Qcz];omega) (by rw[hsm,Qbl,Qcz,QaV,QbA,QbD];omega));have sb3:Heap.SameBut TO h2 (h2.update TO (Obj.mapSeq λx=>x.setIfInBounds k v)):=QaT ..;have hT3:DK (h2.update TO (Obj.mapSeq λx=>x.setIfInBounds k v)) TO (xs.take (k+1)++olds.drop (k+1)):=by
   show (h2.update TO _).get? TO=_;rw[QaF _ hT2 rfl,<-hsm];simp[Obj.mapSeq]
  refine QcC (wpAny_letGo (QcD ?_));exact⟨k+1,_,hkl,rq,rq,rq,m2.other D sb3,hT3⟩
theorem aN {z TI TO:Addr} {ls:List Src} {olds:YE} {i:Nat} {f1:Value} {Q:Fin->Shared->Prop} (hh:A.handled=none) (D:Apart z TI TO ls) (hz:IsZ s.heap z TI TO .none f1) (hTI:DK s.heap TI (ls.map λx=>.ref x.it)) (hTO:DK s.heap TO olds)
  (hat:∀x∈ls,SrcAt s.heap x i) (hne:ls≠[]) (hl2:olds.length=ls.length) (hsz:ls.length<=100) (hend:∃x∈ls,x.items[i]?=none)
  (hE:∀h' e,Rest z TO ls s.heap h'->(∃o,h'.get? e=some o/\o.cls=.type "StopIteration")->E (.ref e) { s with heap:=h' }) :
  wpAny (model prog w) A (Builtin.«zip.__next__» ⟨[.ref z],[]⟩) Q E s:=by
 show wpAny _ _ (field (.ref z) 2 >>= _) _ _ _;refine QcC (Qcy hz rfl (x:=.bool false) rfl ?_);show wpAny _ _ (field (.ref z) 3 >>= _) _ _ _;refine QcC (Qcy hz rfl (x:=.ref TI) rfl ?_);refine QcC (Qcb hTI rfl ?_);dsimp only;rw[if_neg (by cases ls with | nil=>exact absurd rfl hne | cons a r=>simp)];show wpAny _ _ (Builtin.SmallTypes.ownedTupleIsFree (.ref z) >>= _) _ _ _;refine QcC ?_;unfold Builtin.SmallTypes.ownedTupleIsFree;refine QcC (Qcy hz rfl (x:=.none) rfl (QcD ?_));simp only[if_true];refine QcC (wpAny_rule ?_);refine QcC (Qcy hz rfl (x:=.ref TO) rfl ?_);refine QcC (Qbe hz (by simp) λh₁ hz₁ hs₁=>?_);replace hz₁ : IsZ h₁ z TI TO .ellipsis f1:=hz₁;refine QcC ?_;have m0:Mid z TI TO ls [] olds i .ellipsis f1 s.heap 0 h₁:=by
  refine⟨hz₁,hs₁.extBut _ _ D.TIz hTI,λj x hj=>?_,λc o c1 _ _ e=>hs₁.extBut _ _ c1 e,hs₁.1⟩;have hm:=QaI hj;rw[if_neg (QbU _)];exact (hat x hm).keep (λo e=>hs₁.extBut _ _ (D.it x hm).1 e) (λo e=>hs₁.extBut _ _ (D.a x hm).1 e)
 have dY : DK h₁ TO olds:=hs₁.extBut _ _ D.TOz hTO;refine VN (λl b s'=>∃k h' ys,k<=ls.length/\l=((ls.map λx=>Value.ref x.it).drop k).zipIdx k/\b=⟨none,⟨⟩⟩/\s'={ s with heap:=h' }/\Mid z TI TO ls [] olds i .ellipsis f1 s.heap k h'/\DK h' TO ys/\ys.length=ls.length/\∃x∈ls.drop k,x.items[i]?=none) (λb s' h=>?_) (λx r b s' h=>?_) _ _ _ ⟨0,h₁,olds,Qcw _,rq,rq,rq,m0,dY,hl2,hend⟩
 ·obtain⟨k,h',ys,hk,e1,rfl,rfl,m,hT,hy,x,hx,_⟩:=h;have:k=ls.length:=by
   have:=congrArg List.length e1;rw[List.length_nil,List.length_zipIdx,QbD,QbH] at this;omega
  subst this;rw[List.drop_length] at hx;cases hx
 ·obtain⟨k,h',ys,hk,e1,rfl,rfl,m,hT,hys,xe,hxe,hxn⟩:=h;have hkl:k < ls.length:=by
   have:=congrArg List.length e1;rw[Qbz,List.length_zipIdx,QbD,QbH] at this;omega
  obtain⟨y,hy⟩ : ∃y,ls[k]?=some y:=⟨_,Qan hkl⟩;have hm:=QaI hy;rw[Qal (by rw[QbH];exact hkl),List.zipIdx_cons,List.getElem_map] at e1;have ey:ls[k]=y:=(Qai.mp hy).2;rw[ey] at e1;injection e1 with e1 e2;subst e1 e2;refine QcC (wpAny_onRaise ?_);show wpAny _ _ (Builtin.SmallTypes.nextOf (.ref y.it) >>= _) _ _ _;have q0:=m.done k y hy;rw[if_neg (Qcg _)] at q0;cases hv:y.items[i]? with
  | none=>
   refine QcC (zX hh q0 hv λh₂ e hs₂ he=>?_);obtain⟨oe,hoe,hce⟩:=he;have hz₂ : IsZ h₂ z TI TO .ellipsis f1:=hs₂ _ _ (D.it y hm).1.symm m.hz;have hez:e≠z:=λx=>by subst x;rw[hz₂] at hoe;cases hoe;simp at hce
   refine Qbe hz₂ (by simp) λh₃ _ hs₃=>hE h₃ e (λc o c1 c2 c3 x=>hs₃.extBut _ _ c1 (hs₂ _ _ (λq=>c3 (q ▸ Qcl.mpr ⟨y,hm,rq⟩)) (m.rest c o c1 c2 c3 x))) ⟨oe,hs₃.extBut _ _ hez hoe,hce⟩
  | some v=>
   refine QcC (bw q0 hv λh2 q2 sb2=>QcD ?_);have m2:=m.draw D hy q2 sb2;have hT2:DK h2 TO ys:=sb2.extBut _ _ (D.it y hm).2.2.symm hT;refine QcC (Qcb hT2 rfl ?_);refine QcC (wpAny_updateSeq hT2 rfl ?_ (by rw[Qbl,Qcz];omega) (by rw[Array.size_setIfInBounds,Qbl,Qcz];omega));have sb3:Heap.SameBut TO h2 (h2.update TO (Obj.mapSeq λx=>x.setIfInBounds k v)):=QaT ..;have hT3:DK (h2.update TO (Obj.mapSeq λx=>x.setIfInBounds k v)) TO (ys.set k v):=by
    show (h2.update TO _).get? TO=_;rw[QaF _ hT2 rfl,<-List.setIfInBounds_toArray];simp[Obj.mapSeq]
   refine QcC (wpAny_letGo (QcD ?_));refine⟨k+1,_,ys.set k v,hkl,rq,rq,rq,m2.other D sb3,hT3,by rw[List.length_set];exact hys,xe,?_,hxn⟩;rw[Qal hkl,ey] at hxe;rcases Qcd.mp hxe with z | z
   ·subst z;rw[hv] at hxn;cases hxn
   ·exact z
theorem lX {z TI TO:Addr} {f0 f1:Value} {Q:Option Value->Shared->Prop} (hz:IsZ s.heap z TI TO f0 f1) {Qi:YA} (h:wpAny (model prog w) A.in1 (Builtin.«zip.__next__» ⟨[.ref z],[]⟩) (λfin s'=>∃v,fin=.done (.ret v)/\Qi v s') (λ_ _=>False) s) (hQ:∀v s',Qi v s'->Q (some v) s') :
  wpAny (model prog w) A (pyNext (.ref z)) Q E s:=by
 have hT:s.TypeIs (.ref z) "zip":=⟨_,hz,rq⟩;unfold pyNext;refine QcC (Qck (Qat (name:=Str.ofString "__next__") hT F.slot_zip_next (QbC F.slot_zip_next hT F.entry_zip_next (QcE h (λfin s' q=>?_) λ_ _ f=>f.elim) (F.args_zip_next_1 _))));obtain⟨v,e,q⟩:=q;exact⟨v,e,QcD (hQ v s' q)⟩
theorem Yo {z TI TO:Addr} {f0 f1:Value} {Q:Option Value->Shared->Prop} {R:Heap->Prop} (hz:IsZ s.heap z TI TO f0 f1)
  (h:wpAny (model prog w) A.in1 (Builtin.«zip.__next__» ⟨[.ref z],[]⟩) (λ_ _=>False) (λv s'=>∃h' e,v=.ref e/\s'={ s with heap:=h' }/\R h'/\∃o,h'.get? e=some o/\o.cls=.type "StopIteration") s) (hQ:∀h',R h'->Q none { s with heap:=h' }) :
  wpAny (model prog w) A (pyNext (.ref z)) Q E s:=by
 have hT:s.TypeIs (.ref z) "zip":=⟨_,hz,rq⟩;unfold pyNext;refine QcC (Qck (Qat (name:=Str.ofString "__next__") hT F.slot_zip_next (QbC F.slot_zip_next hT F.entry_zip_next (QcE h (λ_ _ f=>f.elim) λv s' q=>?_) (F.args_zip_next_1 _))));obtain⟨h',e,rfl,rfl,r,o,ho,hc⟩:=q;exact QcC (wpAny_isInstance (T:="StopIteration") (b:=true) ⟨o,ho,hc⟩ isSubtype_stop (QcD (hQ _ r)))
theorem Wr {z TI TO:Addr} {f0 f1:Value} {Q:YA} (hz:IsZ s.heap z TI TO f0 f1) (h:Q (.ref z) s):wpAny (model prog w) A (pyIter (.ref z)) Q E s:=by
 have hT:s.TypeIs (.ref z) "zip":=⟨_,hz,rq⟩;refine wpAny_pyIter_slot hT F.slot_zip_iter (QbC F.slot_zip_iter hT F.entry_zip_iter ?_ (F.args_zip_iter_1 _));show wpAny _ _ (ret (.ref z)) _ _ s;exact QcD ⟨_,rq,"zip",_,hT,F.slot_zip_next.lookup,h⟩
theorem qI {elts:YJ} {x1} {pos:Pos} {z TI TO T:Addr} {f1:Value} {Q:YH} (hz:IsZ s.heap z TI TO (rawInt T) f1)
  (hQ:∀h',IsZ h' z TI TO .none f1->Heap.SameBut z s.heap h'->Q () { s with heap:=h' }):wpAny (model prog w) A (letOwnedTupleGo (.Tuple elts x1 pos) (.ref z) (.ref T)) Q E s:=by
 unfold letOwnedTupleGo;refine QcC (wpAny_load hz ?_);show wpAny _ _ (if (["enumerate","zip","dict_itemiterator","dict_reverseitemiterator","odict_iterator","itertools.zip_longest","itertools.pairwise"].contains "zip" &&
   (#[rawInt T,f1,.bool false,.ref TI,.ref TO]:Array Value)[0]? == some (rawInt T))=true then _ else _) Q E s
 rw[if_pos (by simp)];refine QcC (wpAny_rule ?_);show wpAny _ _ (setField (.ref z) 0 .none) Q E s;exact Qbe hz (by simp) λh' hz' hs'=>hQ h' hz' hs'
end
end PySem.ZZ
namespace PySem
namespace F
end F
end PySem
namespace PySem.ZZ
open PySem
def Tr (h:Heap) (a:Addr) (xs:Array Value) (c:String):Prop:=(c="list_iterator"/\h.IsList a xs)\/(c="tuple_iterator"/\h.IsTuple a xs)
theorem Tr.src {h h':Heap} {a it:Addr} {xs:Array Value} {c:String} (q:Tr h a xs c) (k:∀o,h.get? a=some o->h'.get? a=some o) (e:h'.get? it=some { cls:=.type c,data:=.fields #[.ref a,.int 0 0] }):SrcAt h' ⟨it,a,xs⟩ 0:=by
 rcases q with⟨rfl,q⟩|⟨rfl,o,ho,r⟩
 ·exact .inl ⟨⟨_,e,rq,rq⟩,q.at k⟩
 ·exact .inr ⟨⟨_,e,rq,rq⟩,o,k o ho,r⟩
theorem Tr.lt {h:Heap} {a:Addr} {xs:Array Value} {c:String} (q:Tr h a xs c):a < h.objs.size:=by
 rcases q with⟨rfl,o,e,_⟩|⟨rfl,o,e,_⟩
 ·exact Qcm e
 ·exact Qcm e
abbrev itO (c:String) (l:Addr):Obj:={ cls:=.type c,data:=.fields #[.ref l,.int 0 0] }
abbrev tuO (xs:Array Value):Obj:={ cls:=.type "tuple",data:=.seq xs }
abbrev z2a (h:Heap) (c1 c2:String) (l1 l2:Addr):Heap:=((((h.push (itO c1 l1)).push (itO c2 l2)).push (tuO #[.ref h.objs.size,.ref (h.push (itO c1 l1)).objs.size])).push (tuO #[.none,.none]))
abbrev z2 (h:Heap) (c1 c2:String) (l1 l2:Addr):Heap:=(z2a h c1 c2 l1 l2).push
 { cls:=.type "zip",data:=.fields #[.none,.bool false,.bool false,.ref ((h.push (itO c1 l1)).push (itO c2 l2)).objs.size,.ref (((h.push (itO c1 l1)).push (itO c2 l2)).push (tuO #[.ref h.objs.size,.ref (h.push (itO c1 l1)).objs.size])).objs.size] }
theorem mR (l1 l2:Addr) (xs ys:Array Value) (c1 c2:String):Meets (Builtin.«zip.__new__» ⟨[.type "zip",.ref l1,.ref l2],[]⟩) (λ_ R s=>Tr s.heap l1 xs c1/\Tr s.heap l2 ys c2/\R (.ok (.ret (.ref (z2a s.heap c1 c2 l1 l2).objs.size))) { s with heap:=z2 s.heap c1 c2 l1 l2 }):=
 .of_wp λprog w A R s h=>by
  obtain⟨hp,g,d,tk,os⟩:=s;obtain⟨hl1,hl2,h⟩:=h;have hsub:=sub_zip;rcases hl1 with⟨rfl,hl1⟩|⟨rfl,hl1⟩
  ·have hL1:Heap.IsList (Shared.heap ⟨hp,g,d,tk,os⟩) l1 xs:=hl1;rcases hl2 with⟨rfl,hl2⟩|⟨rfl,hl2⟩
   ·have hL2:Heap.IsList (Shared.heap ⟨hp.push (itO "list_iterator" l1),g,d,tk,os⟩) l2 ys:=Heap.IsList.push hl2 _
    wp_walk using Qbv hL1,Qbv hL2
    exact⟨_,rq,h⟩
   ·have hL2:Heap.IsTuple (Shared.heap ⟨hp.push (itO "list_iterator" l1),g,d,tk,os⟩) l2 ys:=Heap.IsTuple.push hl2 _
    wp_walk using Qbv hL1,Qbd hL2
    exact⟨_,rq,h⟩
  ·have hL1:Heap.IsTuple (Shared.heap ⟨hp,g,d,tk,os⟩) l1 xs:=hl1;rcases hl2 with⟨rfl,hl2⟩|⟨rfl,hl2⟩
   ·have hL2:Heap.IsList (Shared.heap ⟨hp.push (itO "tuple_iterator" l1),g,d,tk,os⟩) l2 ys:=Heap.IsList.push hl2 _
    wp_walk using Qbd hL1,Qbv hL2
    exact⟨_,rq,h⟩
   ·have hL2:Heap.IsTuple (Shared.heap ⟨hp.push (itO "tuple_iterator" l1),g,d,tk,os⟩) l2 ys:=Heap.IsTuple.push hl2 _
    wp_walk using Qbd hL1,Qbd hL2
    exact⟨_,rq,h⟩
abbrev z3a (h:Heap) (c1 c2 c3:String) (l1 l2 l3:Addr):Heap:=(((((h.push (itO c1 l1)).push (itO c2 l2)).push (itO c3 l3)).push (tuO #[.ref h.objs.size,.ref (h.push (itO c1 l1)).objs.size,.ref ((h.push (itO c1 l1)).push (itO c2 l2)).objs.size])).push (tuO #[.none,.none,.none]))
abbrev z3 (h:Heap) (c1 c2 c3:String) (l1 l2 l3:Addr):Heap:=(z3a h c1 c2 c3 l1 l2 l3).push
 { cls:=.type "zip",data:=.fields #[.none,.bool false,.bool false,.ref (((h.push (itO c1 l1)).push (itO c2 l2)).push (itO c3 l3)).objs.size,.ref ((((h.push (itO c1 l1)).push (itO c2 l2)).push (itO c3 l3)).push (tuO #[.ref h.objs.size,.ref (h.push (itO c1 l1)).objs.size,.ref ((h.push (itO c1 l1)).push (itO c2 l2)).objs.size])).objs.size] }
structure Ha (h:Heap) (z TI TO:Addr) (ls:List Src) (h':Heap):Prop where
 hz:IsZ h' z TI TO .none (.bool false)
 hTI:DK h' TI (ls.map λx=>.ref x.it)
 hTO:DK h' TO (ls.map λ_=>.none)
 at_:∀x∈ls,SrcAt h' x 0
 ap:Apart z TI TO ls
 new:h.objs.size<=z/\h.objs.size<=TI/\h.objs.size<=TO/\∀x∈ls,h.objs.size<=x.it
 keep:∀c o,h.get? c=some o->h'.get? c=some o
theorem na {a b:Nat} (h:a≠b):@Ne Addr a b:=h
theorem apart2 {n l1 l2:Nat} {xs ys:Array Value} (a1:l1 < n) (a2:l2 < n):Apart (n+1+1+1+1:Nat) (n+1+1:Nat) (n+1+1+1:Nat) [⟨n,l1,xs⟩,⟨(n+1:Nat),l2,ys⟩]:=by
 refine⟨na (by omega),na (by omega),na (by omega),λx hx=>?_,λx hx=>?_,λx hx y hy=>?_,?_⟩
 ·rcases Qcd.mp hx with rfl | hx
  ·exact⟨na (by dsimp only;omega),na (by dsimp only;omega),na (by dsimp only;omega)⟩
  ·cases Qbc.mp hx;exact⟨na (by dsimp only;omega),na (by dsimp only;omega),na (by dsimp only;omega)⟩
 ·rcases Qcd.mp hx with rfl | hx
  ·exact⟨na (by dsimp only;omega),na (by dsimp only;omega)⟩
  ·cases Qbc.mp hx;exact⟨na (by dsimp only;omega),na (by dsimp only;omega)⟩
 ·rcases Qcd.mp hx with rfl | hx
  ·rcases Qcd.mp hy with rfl | hy
   ·exact na (by dsimp only;omega)
   ·cases Qbc.mp hy;exact na (by dsimp only;omega)
  ·cases Qbc.mp hx;rcases Qcd.mp hy with rfl | hy
   ·exact na (by dsimp only;omega)
   ·cases Qbc.mp hy;exact na (by dsimp only;omega)
 ·show List.Nodup ([n,n+1]:List Nat);simp
section
variable {prog:Program} {w:World} {A:Around} {E:YA} {s:Shared}
theorem sJ {l1 l2:Addr} {xs ys:Array Value} {c1 c2:String} {Q:YA} (hl1:Tr s.heap l1 xs c1) (hl2:Tr s.heap l2 ys c2)
  (h:∀h' z TI TO i1 i2,Ha s.heap z TI TO [⟨i1,l1,xs⟩,⟨i2,l2,ys⟩] h'->Q (.ref z) { s with heap:=h' }):wpAny (model prog w) A (call (.type "zip") [.ref l1,.ref l2]) Q E s:=by
 refine callType_new F.called_zip (by decide) (F.typeCall_zip_2 _ _) (F.newCall_zip_2 _ _) (λobj=>F.args_object_init_3 obj _ _) F.entry_zip_new (mR l1 l2 xs ys c1 c2) ⟨hl1,hl2,?_⟩;have g5:(z2 s.heap c1 c2 l1 l2).get? (z2a s.heap c1 c2 l1 l2).objs.size=some _:=QaN _ rfl;have g4:(z2 s.heap c1 c2 l1 l2).get? (((s.heap.push (itO c1 l1)).push (itO c2 l2)).push (tuO #[.ref ∅,.ref (s.heap.push (itO c1 l1)).objs.size])).objs.size=some (tuO #[.none,.none]):=Qay _ (QaN _ rfl);have g3:(z2 s.heap c1 c2 l1 l2).get? ((s.heap.push (itO c1 l1)).push (itO c2 l2)).objs.size=some (tuO #[.ref ∅,.ref (s.heap.push (itO c1 l1)).objs.size]):=Qay _ (Qay _ (QaN _ rfl));have g2:(z2 s.heap c1 c2 l1 l2).get? (s.heap.push (itO c1 l1)).objs.size=some (itO c2 l2):=Qay _ (Qay _ (Qay _ (QaN _ rfl)));have g1:(z2 s.heap c1 c2 l1 l2).get? ∅=some (itO c1 l1):=Qay _ (Qay _ (Qay _ (Qay _ (QaN _ rfl))));have kp:∀c o,s.heap.get? c=some o->(z2 s.heap c1 c2 l1 l2).get? c=some o:=λc o x=>Qay _ (Qay _ (Qay _ (Qay _ (Qay _ x))));have a1:=hl1.lt;have a2:=hl2.lt;refine⟨⟨_,g5,rq⟩,h _ _ _ _ ∅ (s.heap.push (itO c1 l1)).objs.size ⟨g5,g3,g4,?_,?_,?_,kp⟩⟩
 ·intro x hx;rcases Qcd.mp hx with rfl | hx
  ·exact hl1.src (λo e=>kp _ _ e) g1
  ·rcases Qcd.mp hx with rfl | hx
   ·exact hl2.src (λo e=>kp _ _ e) g2
   ·cases hx
 ·simp only[QbY];exact apart2 a1 a2
 ·simp only[QbY,Qcd,QbB,QcG,forall_eq_or_imp,forall_eq];omega
end
end PySem.ZZ
namespace PySem
namespace F
end F
end PySem
namespace PySem.ZZ
open PySem
section
variable {prog:Program} {w:World} {A:Around} {E:YA} {s:Shared}
structure Run (hb:Heap) (z TI TO:Addr) (ls:List Src) (rows:Nat->YE) (S:Addr) (ts:List Addr) (h:Heap):Prop where
 inc:ts.Pairwise (· < ·)
 lo:∀t∈ts,S < t/\t < h.objs.size
 at_:∀j t,ts[j]?=some t->DK h t (rows j)
 keep:∀c o,hb.get? c=some o->h.get? c=some o
 hTI:DK h TI (ls.map λx=>.ref x.it)
 hTO:∃olds,DK h TO olds/\olds.length=ls.length
 src:∀x∈ls,SrcAt h x ts.length
 hz:(ts=[]/\IsZ h z TI TO .none (.bool false))\/∃(T:Addr) (f1:Value),ts[0]?=some T/\IsZ h z TI TO (rawInt T) f1
structure Below (hb:Heap) (z TI TO:Addr) (ls:List Src) (S:Addr):Prop where
 ap:Apart z TI TO ls
 old:hb.objs.size<=z/\hb.objs.size<=TI/\hb.objs.size<=TO/\∀x∈ls,hb.objs.size<=x.it
 lz:z < S
 lTI:TI < S
 lTO:TO < S
 it:∀x∈ls,x.it < S/\x.a < S
 base:hb.objs.size<=S
theorem Run.frame {hb:Heap} {z TI TO:Addr} {ls:List Src} {rows:Nat->YE} {S:Addr} {ts:List Addr} {h h':Heap} (B:Below hb z TI TO ls S) (r:Run hb z TI TO ls rows S ts h) (hs:h'.objs.size=h.objs.size) (k:∀c o,c≠S->h.get? c=some o->h'.get? c=some o):Run hb z TI TO ls rows S ts h':=by
 obtain⟨olds,o1,o2⟩:=r.hTO;refine⟨r.inc,λt ht=>by rw[hs];exact r.lo t ht,λj t e=>k _ _ (Qcq (r.lo t (QaI e)).1) (r.at_ j t e),λc o e=>k _ _ (Qcn (Qbb (Qcm e) B.base)) (r.keep c o e),k _ _ (Qcn B.lTI) r.hTI,⟨olds,k _ _ (Qcn B.lTO) o1,o2⟩,λx hx=>?_,?_⟩
 ·exact (r.src x hx).keep (λo e=>k _ _ (Qcn (B.it x hx).1) e) (λo e=>k _ _ (Qcn (B.it x hx).2) e)
 ·rcases r.hz with⟨e,q⟩|⟨T,f1,e,q⟩
  ·exact .inl ⟨e,k _ _ (Qcn B.lz) q⟩
  ·exact .inr ⟨T,f1,e,k _ _ (Qcn B.lz) q⟩
theorem Run.more {hb:Heap} {z TI TO:Addr} {ls:List Src} {rows:Nat->YE} {S:Addr} {ts:List Addr} {h h':Heap} (B:Below hb z TI TO ls S) (r:Run hb z TI TO ls rows S ts h) (hS:S < h.objs.size) (hs:h'.objs.size=h.objs.size+1) (hr:Rest z TO ls h h')
  (hTI:DK h' TI (ls.map λx=>.ref x.it)) (hTO:∃olds,DK h' TO olds/\olds.length=ls.length) (src:∀x∈ls,SrcAt h' x (ts.length+1)) (new:DK h' h.objs.size (rows ts.length)) (hz:∃(T:Addr) (f1:Value),(ts++[h.objs.size])[0]?=some T/\IsZ h' z TI TO (rawInt T) f1):Run hb z TI TO ls rows S (ts++[h.objs.size]) h':=by
 have fr:∀t,S < t->t≠z/\t≠TO/\t∉ls.map (·.it):=λt ht=>⟨λe=>by rw[e] at ht;exact Nat.lt_asymm ht B.lz,λe=>by rw[e] at ht;exact Nat.lt_asymm ht B.lTO,λe=>by
  obtain⟨x,hx,e'⟩:=Qcl.mp e;rw[<-e'] at ht;exact Nat.lt_asymm ht (B.it x hx).1⟩
 refine⟨?_,λt ht=>?_,λj t e=>?_,λc o e=>?_,hTI,hTO,λx hx=>by rw[QaV];exact src x hx,.inr hz⟩
 ·exact List.pairwise_append.mpr ⟨r.inc,Qax _ _,λa ha b hb'=>by
   have:b=h.objs.size:=by simpa using hb'
   rw[this];exact (r.lo a ha).2⟩
 ·rw[hs];rcases QbI.mp ht with ht | ht
  ·have:=r.lo t ht;exact⟨this.1,Nat.lt_succ_of_lt this.2⟩
  ·have:t=h.objs.size:=by simpa using ht
   rw[this];exact⟨hS,QbE _⟩
 ·by_cases c:j < ts.length
  ·rw[Qak c] at e;have hlo:=r.lo t (QaI e);obtain⟨f1,f2,f3⟩:=fr t hlo.1;exact hr t _ f1 f2 f3 (r.at_ j t e)
  ·rw[Qag (Nat.le_of_not_lt c)] at e;have hj:j - ts.length=0:=by
    have:=(Qai.mp e).1;rw[QaE] at this;omega
   rw[hj] at e;cases e;have:j=ts.length:=by omega
   rw[this];exact new
 ·have hlt:=Qcm e;refine hr c o (λq=>?_) (λq=>?_) (λq=>?_) (r.keep c o e)
  ·rw[q] at hlt;exact absurd hlt (Nat.not_lt.mpr B.old.1)
  ·rw[q] at hlt;exact absurd hlt (Nat.not_lt.mpr B.old.2.2.1)
  ·obtain⟨x,hx,e'⟩:=Qcl.mp q;rw[<-e'] at hlt;exact absurd hlt (Nat.not_lt.mpr (B.old.2.2.2 x hx))
end
end PySem.ZZ
namespace PySem.ZZ
open PySem
section
variable {prog:Program} {w:World} {A:Around} {E:YA} {s:Shared}
structure Rows (ls:List Src) (n:Nat) (rows:Nat->YE):Prop where
 row:∀j,j < n->(rows j).length=ls.length/\∀(k:Nat) (x:Src),ls[k]?=some x->∃v,(rows j)[k]?=some v/\x.items[j]?=some v
 stop:∃x∈ls,x.items[n]?=none
 ne:ls≠[]
 few:ls.length<=100
 most:n<=1000
end
end PySem.ZZ
namespace L2
open PySem PySem.Spec PyProof.Rows
theorem Ia {h:Heap} {p q:Addr} {o o':Obj} (e:h.get? p=some o) (e':h.get? q=some o') (n:o.cls≠o'.cls):p≠q:=λz=>by
 rw[z,e'] at e;cases e;exact n rfl
theorem Lk {h:Heap} {a:Addr} {xs ys:Array Value} (h1:h.IsList a xs) (h2:h.IsTuple a ys):False:=by
 obtain⟨o,e,c,_⟩:=h1;obtain⟨o',e',c',_⟩:=h2;rw[e'] at e;cases e;rw[c'] at c;injection c with q;exact absurd q (by decide)
section
variable {X:Cx}
end
mutual
inductive Ma (K:YD) (H:Hp):V->PyData->Prop
 | non:Ma K H .non .none
 | bl (b:Bool):Ma K H (.bl b) (.bool b)
 | int (i:Int):Ma K H (.int i) (.int i)
 | str (x:Str):Ma K H (.str x) (.str x)
 | tup {a:Addr} {xs:YG} {ds:List PyData}:SqT K H a xs->NT K H xs ds->Ma K H (.ref a) (.tuple ds)
inductive NT (K:YD) (H:Hp):YG->List PyData->Prop
 | nil:NT K H [] []
 | cons {x:V} {d:PyData} {xs:YG} {ds:List PyData}:Ma K H x d->NT K H xs ds->NT K H (x::xs) (d::ds)
end
section
variable {X:Cx} {jb:YC} {U : St} {H:Hp} {s:Shared}
mutual
theorem Ma.reads (I:H^^^s):∀{v:V} {d:PyData} {u:Value},Ma X.K H v d->RelV v u->∃as,Reads s.heap u d as
 | _,_,_,.non,r=>by cases (show _=Value.none from r);exact⟨_,.none⟩
 | _,_,_,.bl b,r=>by cases (show _=Value.bool b from r);exact⟨_,.bool b⟩
 | _,_,_,.int i,r=>by obtain⟨t,rfl⟩:=(show ∃t,_=Value.int i t from r);exact⟨_,.int i t⟩
 | _,_,_,.str x,r=>by obtain⟨t,rfl⟩:=(show ∃t,_=Value.str x t from r);exact⟨_,.str x t⟩
 | _,_,_,.tup (a:=a) (xs:=xs) e q,r=>by
  cases (show _=Value.ref a from r)
  obtain⟨its,rv,⟨o,ho,hc,n,hd⟩,_⟩:=I.tuple e;obtain⟨as,z⟩:=NT.reads I q rv;exact⟨_,.tuple ho hc hd (by simpa using z)⟩
theorem NT.reads (I:H^^^s):∀{xs:YG} {ds:List PyData} {us:YE},NT X.K H xs ds->Vals xs us->∃as,ReadsAll s.heap us ds as
 | _,_,_,.nil,.nil=>⟨_,.nil⟩
 | _,_,_,.cons p q,.cons r t=>by
  obtain⟨as,a1⟩:=Ma.reads I p r;obtain⟨bs,b1⟩:=NT.reads I q t;exact⟨_,.cons a1 b1⟩
end
end
section
variable {X:Cx} {K:YD}
theorem qe (h:X.K=K) (hu:X.A.units+64 < cLine):OpR X (compareOp .Eq) (λx y H Q=>∃d e,Ma K H x d/\Ma K H y e/\SeqAt.shaped d=true/\SeqAt.shaped e=true/\Q (.bl (PyData.eqv d e)) H):=by
 subst h;intros x y v u Q I rx ry h;obtain⟨d,e,p,p',sd,se,q⟩:=h;obtain⟨as,r1⟩:=p.reads I rx;obtain⟨bs,r2⟩:=p'.reads I ry;exact eq_dataH r1 r2 sd se hu ⟨.bl (PyData.eqv d e),H,I,rq,q⟩
theorem FW {es:YJ} {k:Nat} {pos:Pos} {t:TGs} {n:Nat} (hK:X.K=K) (hc:X.calm=true) (h:PGs X es t)
  (hn:(assignEach es X.env).length=n:=by rfl) (hst:(assignEach es X.env).findIdx? (·.1)=none:=by rfl):PG X (.Tuple es k pos) (EL K n t):=hK ▸ CK hc h hn hst
end
end L2
namespace L2
open PySem PySem.Spec PyProof.Rows
abbrev yM:YE:=[.type "ValueError",.type "Exception",.type "BaseException",.type "object"]
structure XCl (K:YD) (C:Addr):Prop where
 ex:excIn K C yM "ValueError.__new__"=true
 ga:findIn K (.ref C) "__getattribute__"=some (some (.builtin "BaseException.__getattribute__"))
 gn:findIn K (.ref C) "__getattr__"=some none
 ca:findIn K (.ref C) "__class__"=some (some (.builtin "object.__class__"))
 mo:subIn K (.ref C) (.type "object")=some true
 mb:subIn K (.ref C) (.type "BaseException")=some true
 kp:keepIn K (.ref C)=true
section
variable {K:YD} {C:Addr}
theorem XCl.look (T:XCl K C):∃dd cd sl,K.lookup C=some ⟨.type "type",dd,.cls cd,sl⟩:=by
 have q:=T.ex;unfold excIn at q;split at q
 ·rename_i dd cd sl ho;exact⟨dd,cd,sl,ho⟩
 ·cases q
theorem XCl.obj (T:XCl K C) {h:Heap} (X:K.In h):∃bm N nm q bs hdct sn sub ab col dd k0 k1 k2 k3 k5 mN,h.get? C=some (excClassObj nm q C N bs bm hdct sn sub ab col dd k0 k1 k2 k3 k5 "ValueError.__new__")/\h.Ns N mN/\mN "__init__"=none/\OwnTail h yM bm:=by
 have q:=T.ex;unfold excIn at q;split at q
 ·rename_i dd cd sl ho;split at q
  ·rename_i C' bm k0 k1 k2 k3 n k5 hm hs;simp only[QbF,beq_iff_eq,Bool.not_eq_true'] at q;obtain⟨⟨⟨⟨⟨rfl,rfl⟩,hdel⟩,ht⟩,hok⟩,hni⟩:=q;obtain⟨nm,bs,mro,ns,qn,hd,sn,sub,ab,col,del⟩:=cd;dsimp only at hm hdel hok hni;subst hm hdel;have hsl:sl=#[k0,k1,k2,k3,some (.builtin "ValueError.__new__"),k5]:=by
    obtain⟨l⟩:=sl;simp only at hs;rw[hs]
   subst hsl;exact⟨bm,ns,nm,qn,bs,hd,sn,sub,ab,col,dd,k0,k1,k2,k3,k5,_,X _ _ ho,.of_isNs (PySem.W.isNs_of_in X hok),PySem.W.nsMap_none_of_in X hok hni,PySem.W.tail_of_in X ht⟩
  ·cases q
 ·cases q
end
def XAt (a C:Addr) (h:Heap):Prop:=∃o vs,h.get? a=some o/\o.cls=.ref C/\o.data=.fields vs/\vs[2]?=some .none
section
variable {prog:Program} {w:World} {A:Around} {E:YA} {h:Heap} {g:Array GenState} {d:Drawn} {t:Nat} {os:OsState} {K:YD} {a C:Addr} {o:Obj}
theorem kh {R:Result->Shared->Prop} (X:K.In h) (T:XCl K C) (hx:h.get? a=some o) (hc:o.cls=.ref C) (hq:R (.ok (.ret (.ref C))) ⟨h,g,d,t,os⟩) :
  codeAny (model prog w) A (.call (.builtin "getset_descriptor.__get__") ⟨[.builtin "object.__class__",.ref a,.ref C],[]⟩) R ⟨h,g,d,t,os⟩:=by
 have hT5:(⟨h,g,d,t,os⟩ : Shared).TypeIs (.builtin "object.__class__") "getset_descriptor":=F.typeOf_object_class;have f8:PySem.W.Looks (model prog w) h (isSubtype (.ref C) (.type (".".intercalate ("object.__class__".cutAt '.').dropLast))) true:=by
  rw[F.owner_object_class];exact looks_subIn X T.mo
 refine codeAny_call_builtin F.slot_gs_get.plain F.entry_gs_get (F.slot_gs_get.check _ _ _ _ _ _ _ _ hT5 (F.args_gs_get _ _ _) ?_)
 repeat (any_goals (first | assumption | (with_reducible refine Qbw hx ?_;rw[hc]) | with_reducible refine f8.at ?_ | wp_step))
 refine⟨Code.quiet_builtin _ (by trivial),codeAny_builtin F.entry_object_class ?_⟩
 repeat (any_goals (first | assumption | (with_reducible refine Qbw hx ?_;rw[hc]) | wp_step))
theorem aP {tk:Tok} {Q:Fin->Shared->Prop} (X:K.In h) (T:XCl K C) (hx:h.get? a=some o) (hc:o.cls=.ref C) (hq:Q (.done (.ret (.ref C))) ⟨h,g,d,t,os⟩) :
  wpAny (model prog w) A (Builtin.«object.__getattribute__» ⟨[.ref a,.str "__class__" tk],[]⟩) Q E ⟨h,g,d,t,os⟩:=by
 have hT5:(⟨h,g,d,t,os⟩ : Shared).TypeIs (.builtin "object.__class__") "getset_descriptor":=F.typeOf_object_class;have f4:=looks_findIn (M:=model prog w) X T.ca;have f5:=F.typeOf_object_class;have f6:=F.slot_gs_get.lookup;have f7:=F.slot_gs_set.lookup
 repeat (any_goals (first | assumption | (with_reducible refine Qbw hx ?_;rw[hc]) | with_reducible refine f4.at ?_ | wp_step))
 refine kh X T hx hc ?_
 repeat (any_goals (first | assumption | wp_step))
theorem oW {M:Model} {nameV:Value} {Q:YH} (X:K.In h) (T:XCl K C) (hx:h.get? a=some o) (hc:o.cls=.ref C) (hq:Q () ⟨h,g,d,t,os⟩) :
  wpAny M A (checkBuiltinCall "BaseException.__getattribute__" ⟨[.ref a,nameV],[]⟩) Q E ⟨h,g,d,t,os⟩:=by
 have hk:builtinKind "BaseException.__getattribute__"=some .slot:=by trivial
 have hsplit:splitId "BaseException.__getattribute__"=some ("BaseException","__getattribute__"):=by trivial
 have f1:=looks_subIn (M:=M) X T.mb;have ha:=F.args_bexc_ga (.ref a) nameV;simp only[checkBuiltinCall,hk,hsplit];refine QcC ?_
 ·unfold isInstance
  repeat (first | (with_reducible refine Qbw hx ?_;rw[hc]) | with_reducible refine f1.at ?_ | wp_step)
  exact hq
theorem gF {tk:Tok} {R:Result->Shared->Prop} (X:K.In h) (T:XCl K C) (hx:h.get? a=some o) (hc:o.cls=.ref C) (hq:R (.ok (.ret (.ref C))) ⟨h,g,d,t,os⟩) :
  codeAny (model prog w) A (.call (.builtin "BaseException.__getattribute__") ⟨[.ref a,.str "__class__" tk],[]⟩) R ⟨h,g,d,t,os⟩:=
 codeAny_call_builtin F.attr_ValueError.ga.plain F.entry_bexc_ga (oW X T hx hc (aP X T hx hc hq))
theorem oV {tk:Tok} {fill expr:Bool} {Q:YA} (X:K.In h) (T:XCl K C) (hx:h.get? a=some o) (hc:o.cls=.ref C) (hq:Q (.ref C) ⟨h,g,d,t,os⟩) :
  wpAny (model prog w) A (getAttrBy (.ref a) (.str "__class__" tk) fill expr) Q E ⟨h,g,d,t,os⟩:=by
 have f1:=looks_findIn (M:=model prog w) X T.ga;have f2:=looks_findIn (M:=model prog w) X T.gn;have f3:=F.attr_ValueError.ga.bind (.ref a);have hx0:(expr&&onTheHeap (Value.builtin "BaseException.__getattribute__"))=false:=by cases expr <;> rfl
 have hx2:(Value.builtin "BaseException.__getattribute__" == Value.builtin "object.__getattribute__")=false:=by trivial
 have hx1:(onTheHeap (Value.ref C)&&Value.builtin "BaseException.__getattribute__" == Value.builtin "object.__getattribute__")=false:=by rw[hx2];rfl
 repeat (any_goals (first | assumption | (with_reducible refine Qbw hx ?_;rw[hc]) | with_reducible refine f1.at ?_ | with_reducible refine f2.at ?_ | wp_step))
 refine gF X T hx hc ?_
 repeat (any_goals (first | assumption | wp_step))
theorem gG {Q:Option Value->Shared->Prop} (X:K.In h) (T:XCl K C) (hx:h.get? a=some o) (hc:o.cls=.ref C) (hq:Q (some (.ref C)) ⟨h,g,d,t+1,os⟩):wpAny (model prog w) A (getAttr? (.ref a) "__class__") Q E ⟨h,g,d,t,os⟩:=by
 unfold getAttr? getAttrBy?
 repeat (any_goals (first | assumption | with_reducible apply oV X T hx hc | wp_step))
end
theorem wK {K:YD} {a C:Addr} (T:XCl K C):PySem.W.KitX K (.ref a) (.ref C) (XAt a C) where
 ty:=λM h X p=>by
  obtain⟨o,vs,h1,h2,_⟩:=p;exact h2 ▸ (PySem.W.Looks.ld h1).andThen .now
 it:=λ_ _ X _=>by
  obtain⟨dd,cd,sl,ho⟩:=T.look;intro A' Q' E' s' k q;unfold isType loadHead;exact QcC (wpAny_loadPart (k _ _ (X _ _ ho)) (QcD q))
 ne:=λh tp dd its n sl X htp=>by
  obtain⟨_,cd,_,ho⟩:=T.look;refine Bool.eq_false_iff.mpr λq=>?_;have e:C=tp:=Value.ref.inj (beq_iff_eq.mp q);subst e;have z:=congrArg Obj.data (QbN ((X _ _ ho).symm.trans htp));cases z
 ca:=λ{_ _ _ _ _ s} X p k=>by
  obtain⟨h,g,d,t,os⟩:=s;obtain⟨o,vs,h1,h2,_⟩:=p;exact gG X T h1 h2 k
def xo (a C:Addr):HO:=.ext (XAt a C)
section
variable {X:Cx} {jb:YC} {U : St} {H:Hp} {s:Shared}
theorem Fk {a C:Addr} (I:H^^^s) (e:H a=some (xo a C)):XAt a C s.heap:=(show Bx X.prog X.w H s.heap a (xo a C) from I.hok a _ e).1
theorem Xc {A:Around} {E:YA} {Q:YA} {a C:Addr} {c:Value} {b:Bool} (I:H^^^s) (T:XCl X.K C) (e:H a=some (xo a C)) (k:kitOne X.K (.ref C) c=some b) (h:∀tk,Q (.bool b) { s with toks:=tk }) :
  wpAny (model X.prog X.w) A (call (.builtin "isinstance") [.ref a,c]) Q E s:=
 kia_one (wK T) I.kIn (Fk I e) k (λz=>nomatch z) h
end
def XT (B:Heap) (e C:Addr) (fl:Option Value) (h:Heap):Prop:=
 ∃oe vs,h.get? e=some oe/\oe.cls=.ref C/\oe.data=.fields vs/\vs[2]?=some .none /\
  match fl with
  | none=>vs[1]?=some .none
  | some f=>∃T oT ts,vs[1]?=some (.ref T)/\B.get? T=none/\T≠e/\h.get? T=some oT/\oT.data=.fields ts/\ts[3]?=some f
structure Fl (B:Heap) (l:List Env) (e C:Addr) (fl:Option Value) (h:Heap):Prop where
 stays:B.StaysIn h
 new:B.get? e=none
 fr:h.FunFrames B l
 tr:XT B e C fl h
theorem XT.at {B h:Heap} {e C:Addr} {fl:Option Value} (x:XT B e C fl h):XAt e C h:=by
 obtain⟨oe,vs,h1,h2,h3,h4,_⟩:=x;exact⟨oe,vs,h1,h2,h3,h4⟩
section
variable {M:Model} {A:Around} {E:YA} {s:Shared} {B:Heap} {env:Env} {outer l:List Env} {L e C:Addr} {Q:YH}
theorem eV {oe:Obj} {vs:Array Value} {head:Value} {hadNext:Bool} (hfr:A.frames=some (env::outer)) (hf:env.frame=some L) (st:B.StaysIn s.heap) (new:B.get? e=none) (fr:s.heap.FunFrames B (env::outer))
  (he:s.heap.get? e=some oe) (hc:oe.cls=.ref C) (hd:oe.data=.fields vs) (h2:vs[2]?=some .none) (hq:∀h',Fl B (env::outer) e C (some (rawInt L)) h'->s.heap.UpToSlots h'->Q () { s with heap:=h' }) :
  wpAny M A (do let fo <-frameOf env;let pl <-entryPlaceOf L hadNext;let tb <-EntryCells.newEntry head fo .none (rawInt L) .none pl;setField (.ref e) 1 tb) Q E s:=by
 have hsz:2 < vs.size:=(Qaf.mp h2).1;have nf:e∉(env::outer).filterMap (·.frame):=λhm=>by
  obtain⟨_,of,hof,nof⟩:=fr.mem hm;rw[he] at hof;cases hof;exact nof vs hd
 refine QcC (wpAny_frameOf_fun hfr fr hf λhA sA=>?_);refine QcC (wpAny_entryPlaceOf λpl ipl=>?_);unfold EntryCells.newEntry newFields;refine QcC (Qbr ?_ (ipl.sizeOk5 _ _ _ _ _));have eA:hA.get? e=some oe:=(sA.2.1 e nf).trans he;have stA:B.StaysIn hA:=λb o q=>(sA.2.1 b λhm=>by rw[(fr.mem hm).1] at q;cases q).trans (st b o q);have key:∀(ob:Obj) (ts:Array Value),ob.data=.fields ts->ob.isFreed=false->ts[3]?=some (rawInt L)->wpAny M A (setField (.ref e) 1 (.ref hA.objs.size)) Q E { s with heap:=hA.push ob }:=λob ts dT nfr iT=>by
  have eP:=Qay (h:=hA) ob eA;refine wpAny_setField eP hd (by omega) (hq _ ?_ ?_)
  ·have hTe:hA.objs.size≠e:=Qcq (Qcm eA);have dN:=Obj.data_mapFields hd (·.setIfInBounds 1 (Value.ref hA.objs.size));have eN:=QaF (Obj.mapFields (·.setIfInBounds 1 (Value.ref hA.objs.size))) eP (Obj.isFreed_of_fields dN);have keep:∀b o,b≠e->hA.get? b=some o->((hA.push ob).update e (Obj.mapFields (·.setIfInBounds 1 (Value.ref hA.objs.size)))).get? b=some o:=λb o hb q=>by
    rw[QaB _ _ (Ne.symm hb)];exact Qay _ q
   refine⟨λb o q=>keep b o (λz=>by rw[z,new] at q;cases q) (stA b o q),new,fr.of_keeps λb o q nb=>?_,⟨_,_,eN,(Obj.cls_mapFields _ _).trans hc,dN,?_,hA.objs.size,ob,ts,?_,stA.fresh,hTe,?_,dT,iT⟩⟩
   ·obtain⟨sl,q'⟩:=sA.2.2 b o q;exact⟨_,keep b _ (λz=>by rw[z,he] at q;cases q;exact nb vs hd) q',rq⟩
   ·rw[Array.getElem?_setIfInBounds_ne (by decide)];exact h2
   ·simp[show 1 < vs.size by omega]
   ·rw[QaB _ _ (Ne.symm hTe)];exact QaN hA nfr
  ·intro b o q nb;obtain⟨sl,q'⟩:=sA.2.2 b o q;refine⟨sl,?_⟩;rw[QaB _ _ (λz=>by rw[<-z,he] at q;cases q;exact nb vs hd)];exact Qay _ q'
 refine key _ _ rfl rfl ?_
 first | (simp;done) | (rcases ipl with rfl |⟨_,_,_,_,_,_,_,rfl⟩ <;> simp)
theorem jQ {fl:Option Value} (hfl:fl=none\/fl=some .none) (hfr:A.frames=some (env::outer)) (hf:env.frame=some L) (x:Fl B (env::outer) e C fl s.heap)
  (hq:∀h',Fl B (env::outer) e C (some (rawInt L)) h'->s.heap.UpToSlots h'->Q () { s with heap:=h' }):wpAny M A (noteFrame (.ref e) env) Q E s:=by
 obtain⟨st,new,fr,oe,vs,he,hc,hd,h2,ht⟩:=x;unfold noteFrame;simp only[hf];rcases hfl with rfl | rfl
 ·refine QcC (Qcy he hd (show vs[1]?=some .none from ht) ?_)
  rw[if_neg (by decide)];exact eV hfr hf st new fr he hc hd h2 hq
 ·obtain⟨T,oT,ts,h1,nT,hTe,hT,dT,iT⟩:=ht;refine QcC (Qcy he hd h1 ?_);rw[if_pos (show (Value.ref T != Value.none)=true from by simp)]
  refine QcC (Qcy hT dT iT ?_);rw[if_neg (show ¬((Value.none == rawInt L)=true) from by simp[rawInt])]
  refine QcC (wpAny_setField hT dT (Qaf.mp iT).1 ?_);have oth:∀b o,b≠T->s.heap.get? b=some o->(s.heap.update T (Obj.mapFields (·.setIfInBounds 3 Value.none))).get? b=some o:=λb o hb q=>(QaB _ _ (Ne.symm hb)).trans q;have dj:∀b o,s.heap.get? b=some o->(∀ws,o.data≠.fields ws)->b≠T:=λb o q nb z=>by rw[z,hT] at q;cases q;exact nb ts dT
  refine eV (s:={ s with heap:=s.heap.update T (Obj.mapFields (·.setIfInBounds 3 Value.none)) }) hfr hf (λb o q=>oth b o (λz=>by rw[z,nT] at q;cases q) (st b o q)) new
   (fr.of_keeps λb o q nb=>⟨o,oth b o (dj b o q nb) q,rq⟩) (oth e oe (Ne.symm hTe) he) hc hd h2 λh' y u=>hq h' y ?_
  exact λb o q nb=>u b o (oth b o (dj b o q nb) q) nb
theorem eU {f:Value} (x:Fl B l e C (some f) s.heap) (hq:∀h',Fl B l e C (some .none) h'->s.heap.UpToSlots h'->Q () { s with heap:=h' }):wpAny M A (setFlight (.ref e) none) Q E s:=by
 obtain⟨st,new,fr,oe,vs,he,hc,hd,h2,T,oT,ts,h1,nT,hTe,hT,dT,iT⟩:=x;have hsz:3 < ts.size:=(Qaf.mp iT).1;have oth:∀b o,b≠T->s.heap.get? b=some o->(s.heap.update T (Obj.mapFields (·.setIfInBounds 3 Value.none))).get? b=some o:=λb o hb q=>(QaB _ _ (Ne.symm hb)).trans q;have dj:∀b o,s.heap.get? b=some o->(∀ws,o.data≠.fields ws)->b≠T:=λb o q nb z=>by rw[z,hT] at q;cases q;exact nb ts dT
 unfold setFlight;refine QcC (Qcy he hd h1 ?_);rw[if_pos (show (Value.ref T != Value.none)=true from by simp)]
 refine wpAny_setField hT dT hsz (hq (s.heap.update T (Obj.mapFields (·.setIfInBounds 3 Value.none))) ⟨λb o q=>oth b o (λz=>by rw[z,nT] at q;cases q) (st b o q),new,fr.of_keeps λb o q nb=>⟨o,oth b o (dj b o q nb) q,rq⟩,?_⟩
  λb o q nb=>⟨o.slots,oth b o (dj b o q nb) q⟩)
 have dN:=Obj.data_mapFields dT (·.setIfInBounds 3 Value.none);exact⟨oe,vs,oth e oe (Ne.symm hTe) he,hc,hd,h2,T,_,_,h1,nT,hTe,QaF _ hT (Obj.isFreed_of_fields dN),dN,by simp[hsz]⟩
theorem yq {fl:Option Value} (hfl:fl=none\/fl=some .none) (hfr:A.frames=some (env::outer)) (hf:env.frame=some L) (x:Fl B (env::outer) e C fl s.heap)
  (hq:∀h',Fl B outer e C (some .none) h'->s.heap.UpToSlots h'->Q () { s with heap:=h' }):wpAny M A (leaving env (.ref e)) Q E s:=by
 unfold leaving;refine QcC (jQ hfl hfr hf x λh1 y u1=>?_);refine eU y λh2 z u2=>hq h2 ⟨z.stays,z.new,z.fr.2.2,z.tr⟩ (u1.trans u2)
end
theorem Bx.there {P:Program} {w:World} {H:Hp} {h:Heap} {a:Addr} {o:HO} (x:Bx P w H h a o):∃u,h.get? a=some u:=by
 cases o with
 | lst xs=>obtain⟨_,its,n,_,q⟩:=x;exact⟨_,q⟩
 | tup xs=>obtain⟨_,its,_,ob,q,_⟩:=x;exact⟨_,q⟩
 | dK kvs=>obtain⟨_,_,vs,_,ob,es,ep,q,_⟩:=x;exact⟨_,q⟩
 | dT kvs=>obtain⟨_,_,xs,_,ob,es,ep,q,_⟩:=x;exact⟨_,q⟩
 | set S n=>obtain⟨ob,es,ep,t,q,_⟩:=x;exact⟨_,q⟩
 | ins C dx fs=>obtain⟨_,_,_,q,_⟩:=x;exact⟨_,q⟩
 | own y=>exact x
 | xd fs=>obtain⟨mA,⟨od,es,ep,q,_⟩,_⟩:=x;exact⟨_,q⟩
 | rng lo hi=>obtain⟨t,u,v,q⟩:=x;exact⟨_,q⟩
 | frz ob u=>exact⟨_,x.1⟩
 | tbl ps=>exact⟨_,x⟩
 | met f y=>exact⟨_,x⟩
 | ext φ=>exact x.2.1
structure Exc (P:Program) (w:World) (outer:List Env) (H:Hp) (s:Shared) (e C:Addr) (B:Heap) (H':Hp) (s':Shared):Prop where
 os:s'.os=s.os
 bare:AllBare s'.gens
 fl:∃fl,(fl=none\/fl=some .none)/\Fl B outer e C fl s'.heap
 un:Un (frs outer) [] H H' s.heap s'.heap
 hok:HOk P w H' s'.heap
 tin:∀b o,s'.heap.get? b=some o->H' b≠none->B.get? b=some o
 old:∀b o,s.heap.get? b=some o->H b=none->b∉frs outer->B.get? b=some o
 ex:∀b o,s.heap.get? b=some o->b∉frs outer->∃o',B.get? b=some o'
def CX1 (P:Program) (w:World):CXT:=λouter H s E ev s'=>∃e C B H',ev=.ref e/\Exc P w outer H s e C B H' s'/\E (.ref C) none H'
section
variable {P:Program} {w:World} {outer:List Env} {H H':Hp} {s s':Shared} {e C:Addr} {B h2:Heap} {fl:Option Value}
theorem Exc.zm (x:Exc P w outer H s e C B H' s') (st:B.StaysIn h2):HOk P w H' h2:=λa o q=>
 (x.hok a o q).stay (λb u hb hu=>st b u (x.tin b u hu (by
  rcases hb with rfl | hb
  ·rw[q];exact λz=>nomatch z
  ·rw[hb];exact λz=>nomatch z))) (λ_ z=>z) λ_ _ z=>z
theorem Exc.He (x:Exc P w outer H s e C B H' s') (f:Fl B outer e C fl h2) (u:s'.heap.UpToSlots h2):Un (frs outer) [] H H' s.heap h2:=by
 refine⟨λb o q n hb _=>f.stays b o (x.old b o q n hb),λb o q n hb hx=>?_,x.un.free,λb o q hx=>?_,x.un.tups,x.un.Io,x.un.Ju⟩
 ·obtain⟨sl,q1⟩:=x.un.slot b o q n hb hx;obtain⟨_,_,g⟩:=x.fl;obtain⟨_,o1,q2,nf⟩:=g.fr.mem hb;rw[q1] at q2;cases q2;obtain⟨sl2,q3⟩:=u b _ q1 nf;exact⟨sl2,q3⟩
 ·by_cases hb:b∈frs outer
  ·obtain⟨_,o1,q2,_⟩:=f.fr.mem hb;exact⟨o1,q2⟩
  ·obtain⟨o1,q1⟩:=x.ex b o q hb;exact⟨o1,f.stays b o1 q1⟩
theorem Exc.Fm (x:Exc P w outer H s e C B H' s') (st:B.StaysIn h2):∀b o,h2.get? b=some o->H' b≠none->B.get? b=some o:=λb o q hb=>by
 cases hq:H' b with
 | none=>exact absurd hq hb
 | some v=>
  obtain⟨o1,q1⟩:=(x.hok b v hq).there;have q2:=x.tin b o1 q1 hb;have q3:=st b o1 q2;rw[q] at q3;cases q3;exact q2
theorem Exc.free (x:Exc P w outer H s e C B H' s'):H' e=none:=by
 cases hq:H' e with
 | none=>rfl
 | some v=>
  obtain⟨o1,q1⟩:=(x.hok e v hq).there;have q2:=x.tin e o1 q1 (by rw[hq];exact λz=>nomatch z);obtain⟨_,_,g⟩:=x.fl;rw[g.new] at q2;cases q2
theorem Exc.fresh (x:Exc P w outer H s e C B H' s'):s.heap.get? e=none:=by
 cases hq:s.heap.get? e with
 | none=>rfl
 | some o=>
  obtain⟨_,_,g⟩:=x.fl;by_cases hb:e∈frs outer
  ·obtain⟨_,o1,q1,nf⟩:=g.fr.mem hb;obtain⟨oe,vs,q2,_,q3,_⟩:=g.tr;rw[q1] at q2;cases q2;exact absurd q3 (nf vs)
  ·obtain⟨o1,q1⟩:=x.ex e o hq hb;rw[g.new] at q1;cases q1
end
section
variable {X:Cx} {jb:YC} {U : St} {H H':Hp} {s s':Shared} {e C:Addr} {B h2:Heap} {fl:Option Value}
theorem Exc.made {args:YE} {h':Heap} (I:H^^^s) (hx:Heap.MadeExcOf s.heap h' e (.ref C) args):Exc X.prog X.w X.stack H s e C (hideAll s.heap (frs X.stack)) H { s with heap:=h' }:=by
 have st:(hideAll s.heap (frs X.stack)).StaysIn s.heap:=λb o q=>PySem.W.of_hideAll _ q;refine⟨rq,I.bare,⟨none,.inl rfl,⟨λb o q=>hx.keeps b o (st b o q),?_,?_,?_⟩⟩,Un.kept hx.keeps,I.hok.kept hx.keeps,λb o q hb=>?_,λb o q n hb=>hideAll_get _ q hb,λb o q hb=>⟨o,hideAll_get _ q hb⟩⟩
 ·cases hq:(hideAll s.heap (frs X.stack)).get? e with
  | none=>rfl
  | some o=>
   have q:=st e o hq;rw[hx.new] at q;cases q
 ·have f0:s.heap.FunFrames (hideAll s.heap (frs X.stack)) X.stack:=PySem.W.funFrames_hide I.stack λenv he a ha=>List.mem_filterMap.mpr ⟨env,he,ha⟩;exact f0.of_keeps λb o q _=>⟨o,hx.keeps b o q,rq⟩
 ·obtain⟨t,q,_⟩:=hx.there;exact⟨_,_,q,rq,rq,rq,rq⟩
 ·cases hq:H b with
  | none=>exact absurd hq hb
  | some v=>
   obtain⟨o1,q1⟩:=(I.hok b v hq).there;have q2:=hx.keeps b o1 q1;have q':h'.get? b=some o:=q;rw[q'] at q2;cases q2;refine hideAll_get _ q1 λhm=>?_;rw[I.Xx b hm] at hq;cases hq
theorem Exc.leave {M:Model} {E1:YA} {Q:YH} (I:H^^^s) (hs:X.stack=X.env::X.outer) (hf:X.env.frame=some X.env.locals) (hx:X.ex=[]) (x:Exc X.prog X.w X.stack H s e C B H' s')
  (hq:∀h2,Exc X.prog X.w X.outer X.H₀ X.s₀ e C B H' { s' with heap:=h2 }->Q () { s' with heap:=h2 }):wpAny M X.A (leaving X.env (.ref e)) Q E1 s':=by
 obtain⟨fl,hfl,f⟩:=x.fl;have f':=f;rw[hs] at f';have nl:∀b o,X.s₀.heap.get? b=some o->b≠X.env.locals:=λb o q=>Qcn (Qbb (Qcm q) I.ok.above);have ns:∀b o,X.s₀.heap.get? b=some o->b∉X.fs->b∉frs X.stack:=λb o q hb hm=>(Qcd.mp (I.Wa b hm)).elim (nl b o q) hb;have EM:∀b,b∈X.fs->b∈frs X.stack:=λb hb=>by
  rw[hs];unfold frs;rw[List.filterMap_cons,hf];exact QaJ _ hb
 have nx:∀b:Addr,b∉X.ex:=λb=>by rw[hx];simp
 refine yq hfl (I.ok.frames.trans (congrArg some hs)) hf f' λh2 g u=>hq h2 ⟨x.os.trans I.os,x.bare,⟨_,.inr rfl,g⟩,?_,x.zm g.stays,x.Fm g.stays,λb o q n hb=>?_,λb o q hb=>?_⟩
 ·refine⟨λb o q n hb _=>?_,λb o q n hb _=>?_,λb o q n _=>?_,λb o q _=>?_,λb xs q=>x.un.tups b xs (I.base.tups b xs q),λb o v q=>x.un.Io b o v (I.base.Io b o v q),λb ps q=>?_⟩
  ·exact g.stays b o (x.old b o (I.base.keep b o q n hb (nx b)) (I.base.free b o q n (nx b)) (ns b o q hb))
  ·obtain⟨sl,q1⟩:=I.base.slot b o q n hb (nx b);obtain⟨sl2,q2⟩:=x.un.slot b _ q1 (I.base.free b o q n (nx b)) (EM b hb) (by simp);obtain⟨_,o1,q3,nf⟩:=f.fr.mem (EM b hb);rw[q2] at q3;cases q3;obtain⟨sl3,q4⟩:=u b _ q2 nf;exact⟨sl3,q4⟩
  ·obtain⟨o1,q1⟩:=I.base.there b o q (nx b);exact x.un.free b o1 q1 (I.base.free b o q n (nx b)) (by simp)
  ·by_cases hb:b∈X.fs
   ·obtain⟨_,o1,q1,_⟩:=g.fr.mem hb;exact⟨o1,q1⟩
   ·obtain⟨o1,q1⟩:=I.base.there b o q (nx b);obtain⟨o2,q2⟩:=x.ex b o1 q1 (ns b o q hb);exact⟨o2,g.stays b o2 q2⟩
  ·obtain⟨m1,q1⟩:=I.base.Ju b ps q;obtain⟨m2,q2⟩:=x.un.Ju b _ q1;exact⟨m1++m2,by rw[q2,Array.append_assoc]⟩
 ·exact x.old b o (I.base.keep b o q n hb (nx b)) (I.base.free b o q n (nx b)) (ns b o q hb)
 ·obtain⟨o1,q1⟩:=I.base.there b o q (nx b);exact x.ex b o1 q1 (ns b o q hb)
theorem Exc.caught (I:H^^^s) (x:Exc X.prog X.w X.stack H s e C B H' s') (f:Fl B X.stack e C fl h2) (u:s'.heap.UpToSlots h2):Inv X jb U (upd H' e (xo e C)) { s' with heap:=h2 }:=by
 have v:=x.He f u;have he:=x.fresh;have hn:=x.free;have ne:∀b o,s.heap.get? b=some o->b≠e:=λb o q z=>by rw[z,he] at q;cases q
 have un:Un (frs X.stack) [] H (upd H' e (xo e C)) s.heap h2:=⟨v.keep,v.slot,λb o q n hx=>by rw[Am (ne b o q)];exact v.free b o q n hx,v.there,λb xs q=>by rw[Am (Aq (v.tups b xs q) hn)];exact v.tups b xs q,
  λb o w q=>by rw[Am (Aq (v.Io b o w q) hn)];exact v.Io b o w q,λb ps q=>by
   obtain⟨m,q1⟩:=v.Ju b ps q;exact⟨m,by rw[Am (Aq q1 hn)];exact q1⟩⟩
 have hok:HOk X.prog X.w (upd H' e (xo e C)) h2:=λb o q=>by
  by_cases hb:b=e
  ·subst hb;rw[Ab] at q;cases q;have at_:=f.tr.at;refine⟨at_,?_,λh1 h3 p k=>?_⟩
   ·obtain⟨oe,vs,q1,_⟩:=at_;exact⟨oe,q1⟩
   ·obtain⟨oe,vs,q1,q2⟩:=p;exact⟨oe,vs,k oe q1,q2⟩
  ·rw[Am hb] at q;exact (x.zm f.stays b o q).stay (λc w _ q1=>q1) (λc q1=>by rw[Am (Aq q1 hn)];exact q1) λc xs q1=>by rw[Am (Aq q1 hn)];exact q1
 exact I.call' (s':={ s' with heap:=h2 }) x.os un hok x.bare λb z=>absurd z (by simp)
end
def Ut (X:Cx) (EX:St->XK):Prop:=∀(jb:YC) (U : St) (H:Hp) (s:Shared) (ev:Value) (s':Shared),H^^^s->CX1 X.prog X.w X.stack H s (EX U) ev s'->X.xe ev s'
theorem vM {P:Program} {w:World} {K:YD} {mg:YB} {base:Heap} {N:YF} {qual:Str} {scope:Scope} {f:Addr} {cd:Value} {A:Around} {outer:List Env} {s:Shared} {H:Hp} {E:XK} :
  Ut (Nr (CX1 P w) P w K mg base N qual scope f cd A outer s H E) (λ_=>E):=λjb U H1 s1 ev s' I h=>by
 obtain⟨e,C,B,H',rfl,x,q⟩:=h;exact x.leave I rfl rfl rfl λh2 y=>⟨e,C,B,H',rq,y,q⟩
def BS (C:Addr) (EX:St->XK) (t:TA):TS:=λ_ U H=>t U H λvs H1=>vs.length<=sizeLine/\EX U (.ref C) none H1
theorem vB {X:Cx} {EX:St->XK} {C:Addr} {x:Str} {np cpos pos:Pos} {e:Expr} {es:YJ} {t:TA} (hc:X.calm=true) (T:XCl X.K C) (hg:Gl X x) (hm:X.mg x=some (.ref C)) (hx:Ut X EX) (ha:PA X (e::es) t)
  (hdb:(x == ("__debug__":Str))=false:=by decide) (he:starEach (e::es) X.env=(false,eval e X.env)::starEach es X.env:=by rfl) (hpl:(backTo cpos (starEach es X.env)).any (·.1)=false:=by rfl) :
  PS X (.Raise (some (.Call (.Name x np) (e::es) [] cpos)) none pos) (BS C EX t):=by
 intros D I h;obtain⟨bm,N,nm,q,bs,hdct,sn,sub,ab,col,dd,k0,k1,k2,k3,k5,mN,hC,hN,hni,TL⟩:=T.obj I.mod.kin;refine wpAny_Raise_call_subT F.excBase_ValueError (bm:=bm) (nm:=nm) (C:=C) (q:=q) (bs:=bs) (N:=N) (sn:=sn) (hdct:=hdct) (sub:=sub) (col:=col) (ab:=ab) (dd:=dd) (k5:=k5) (k3:=k3) (k2:=k2) (k1:=k1) (k0:=k0) (TL.hasType (by trivial)) (I.ok.hd hc) (by rw[he];show (false || (backTo cpos (starEach es X.env)).any (·.1))=false;rw[hpl];rfl) hni (Lp I hg hm ⟨rfl,?_⟩ hdb);have h2:=ha cpos jb s U H _ I h;rw[he] at h2 ⊢;refine Calls.evalArgs_plain (thn h2 λus s2 zz=>?_);obtain⟨vs,H2,I2,r,hl,hE⟩:=zz;refine⟨rq,?_⟩;refine⟨by rw[<-r.length];exact hl,I2.bk _ _ hC,hN.keeps I2.bk,TL.keeps I2.bk,λh' ea mx=>?_⟩;exact hx jb U H2 s2 (.ref ea) { s2 with heap:=h' } I2 ⟨ea,C,_,H2,rq,Exc.made I2 mx,hE⟩
section
variable {M:Model} {A:Around} {E:YA} {h:Heap} {g:Array GenState} {d:Drawn} {t:Nat} {os:OsState} {K:YD} {e C HC:Addr}
theorem BH {Q:Bool->Shared->Prop} (X:K.In h) (TH:XCl K HC) (hs:subIn K (.ref C) (.ref HC)=some true) (x:XAt e C h) (hq:Q true ⟨h,g,d,t,os⟩):wpAny M A (excMatches (.ref e) (.ref HC)) Q E ⟨h,g,d,t,os⟩:=by
 obtain⟨oe,vs,he,hc,_⟩:=x;obtain⟨dd,cd,sl,ho⟩:=TH.look;have hH:=X _ _ ho;have f1:=looks_subIn (M:=M) X TH.mb;have f2:=looks_subIn (M:=M) X hs;have f3:=tc_notTuple;unfold excMatches
 repeat (first | (with_reducible refine Qbw he ?_;rw[hc]) | with_reducible refine Qbw hH ?_ | with_reducible refine f1.at ?_ | with_reducible refine f2.at ?_ | wp_step)
 exact hq
end
abbrev Cx.by (X:Cx) (pn:YC) (E:YA):Cx:={ X with pn:=pn,xe:=E }
abbrev Cx.suite (X:Cx) (pn:YC) (ev:Value):Cx:={ X with pn:=pn,xe:=λ_ _=>False,A:=X.A.mark (some ev),calm:=false }
section
variable {X:Cx} {jb Iw pn:YC} {U : St} {H:Hp} {s:Shared} {E:YA} {ev:Value}
theorem Inv.by (I:H^^^s) (E:YA):Inv (X.by (X.pn++jb) E) [] U H s:=
 ⟨⟨I.ok.mod,I.ok.kind,I.ok.glob,I.ok.blt,I.ok.above,I.ok.inj,I.ok.has,I.ok.cab,I.ok.hd,I.ok.frames,I.ok.stk,I.ok.exf,I.ok.bs,I.ok.bsz,I.ok.O1,I.ok.LC,I.ok.Hg,I.ok.frf⟩,I.os,I.bare,I.base,I.loc,I.cell,I.free,I.FP,
  λp hp=>I.pin p (by simpa using hp),I.hok,I.len⟩
theorem Inv.QS (I:Inv (X.by (X.pn++jb) E) Iw U H s):Inv X jb U H s:=
 ⟨⟨I.ok.mod,I.ok.kind,I.ok.glob,I.ok.blt,I.ok.above,I.ok.inj,I.ok.has,I.ok.cab,I.ok.hd,I.ok.frames,I.ok.stk,I.ok.exf,I.ok.bs,I.ok.bsz,I.ok.O1,I.ok.LC,I.ok.Hg,I.ok.frf⟩,I.os,I.bare,I.base,I.loc,I.cell,I.free,I.FP,
  λp hp=>I.pin p (QaK _ hp),I.hok,I.len⟩
theorem Inv.suite (I:Inv (X.by pn E) Iw U H s) (ev:Value):Inv (X.suite pn ev) Iw U H s:=
 ⟨⟨I.ok.mod,I.ok.kind,I.ok.glob,I.ok.blt,I.ok.above,I.ok.inj,I.ok.has,I.ok.cab,(λz=>nomatch z),I.ok.frames,I.ok.stk,I.ok.exf,I.ok.bs,I.ok.bsz,I.ok.O1,I.ok.LC,I.ok.Hg,I.ok.frf⟩,I.os,I.bare,I.base,I.loc,I.cell,I.free,I.FP,
  I.pin,I.hok,I.len⟩
theorem Inv.TQ (hd:X.calm=true->X.A.handled=none) (I:Inv (X.suite (X.pn++jb) ev) Iw U H s):Inv X jb U H s:=
 ⟨⟨I.ok.mod,I.ok.kind,I.ok.glob,I.ok.blt,I.ok.above,I.ok.inj,I.ok.has,I.ok.cab,hd,I.ok.frames,I.ok.stk,I.ok.exf,I.ok.bs,I.ok.bsz,I.ok.O1,I.ok.LC,I.ok.Hg,I.ok.frf⟩,I.os,I.bare,I.base,I.loc,I.cell,I.free,I.FP,
  λp hp=>I.pin p (QaK _ hp),I.hok,I.len⟩
theorem SP.QS {D:Ends} {f:Flow} (h:SP (X.by (X.pn++jb) E) Iw D f s):SP X jb D f s:=by
 cases f with
 | next=>obtain⟨σ',H',I,q⟩:=h;exact⟨σ',H',I.QS,q⟩
 | brk=>obtain⟨σ',H',I,q⟩:=h;exact⟨σ',H',I.QS,q⟩
 | cont=>obtain⟨σ',H',I,q⟩:=h;exact⟨σ',H',I.QS,q⟩
 | ret u=>obtain⟨v,σ',H',I,r,q⟩:=h;exact⟨v,σ',H',I.QS,r,q⟩
theorem Uk {M:Model} {A:Around} {E1:YA} {i:Nat} {n:Str} {pos:Pos} {Q:YH} (I:H^^^s) (hN:X.N.Nodup) (hi:X.N[i]?=some n) (hl:X.env.scope.names.lookup n=some .local)
  (hq:∀s',Inv X jb (U.set i none) H s'->Q () s'):wpAny M A (do bindName X.env n .none;unbindBehindTheSuite X.env n pos) Q E1 s:=by
 obtain⟨m,hn,hm⟩:=id I.loc;have hcls:(X.env.scope.kind == .class || (X.env.scope.kind == .module&&X.env.locals != X.env.globals))=false:=by rw[I.ok.kind];rfl
 refine wpAny_nameGoes_keeps hl hn hcls λh' v nsv sb=>?_;have hiσ : i < U.length:=by rw[I.len];exact (Qai.mp hi).1
 obtain⟨oL,_,_,hoL,_⟩:=id hn;have below:∀b o,X.s₀.heap.get? b=some o->b≠X.env.locals:=λb o q=>Qcn (Qbb (Qcm q) I.ok.above);refine hq _ ⟨I.ok,I.os,I.bare,⟨λb o q nn hb hx=>?_,λb o q nn hb hx=>?_,I.base.free,λb o q hx=>?_,I.base.tups,I.base.Io,I.base.Ju⟩,⟨_,nsv,λj y w e1 e2 e3=>?_⟩,λy c q=>?_,I.free,I.FP,λp hp=>?_,λb ob q=>?_,?_⟩
 ·exact (sb.2 b (below b o q)).trans (I.base.keep b o q nn hb hx)
 ·obtain⟨sl,q1⟩:=I.base.slot b o q nn hb hx;exact⟨sl,(sb.2 b (below b o q)).trans q1⟩
 ·obtain⟨o',q1⟩:=I.base.there b o q hx;exact⟨o',(sb.2 b (below b o q)).trans q1⟩
 ·by_cases hj:j=i
  ·subst hj;rw[List.getElem?_set_self hiσ] at e2;cases e2
  ·rw[List.getElem?_set_ne (Ne.symm hj)] at e2;obtain⟨u,r,q⟩:=hm j y w e1 e2 e3;refine⟨u,r,?_⟩;rcases q with⟨k,q⟩|⟨k,c,q,z⟩
   ·have ny:y≠n:=λz=>hj (Vw hN e1 (z ▸ hi));exact .inl ⟨k,by simp[ny,q]⟩
   ·exact .inr ⟨k,c,q,z.sameBut sb (I.cne y c q)⟩
 ·obtain⟨u,z⟩:=I.cell y c q;exact⟨u,z.sameBut sb (I.cne y c q)⟩
 ·obtain⟨q,nn,ne,nf,dd⟩:=I.pin p hp;exact⟨(sb.2 p.1 ne).trans q,nn,ne,nf,dd⟩
 ·refine (I.hok b ob q).stay (λc u hc q1=>(sb.2 c ?_).trans q1) (λ_ z=>z) λ_ _ z=>z;rintro rfl;rcases hc with rfl | hc
  ·rw[I.free] at q;cases q
  ·rw[I.free] at hc;cases hc
 ·rw[List.length_set];exact I.len
end
def Ends.drop (D:Ends) (i:Nat):Ends where
 nx:=fun U H=>D.nx (U.set i none) H
 rt:=D.rt
 bk:=fun U H=>D.bk (U.set i none) H
 ct:=fun U H=>D.ct (U.set i none) H
def nW (K:YD) (HC:Addr) (i:Nat) (th:Addr->TS) (D:Ends):St->XK:=fun U cls _ H=>∃C,cls=.ref C/\XCl K C/\subIn K (.ref C) (.ref HC)=some true/\∀e,H e=none->th e (D.drop i) (U.set i (some (.ref e))) (upd H e (xo e C))
def Hn (K:YD) (HC:Addr) (i:Nat) (tb:(St->XK)->TS) (th:Addr->TS):TS:=λD U H=>tb (nW K HC i th D) D U H
theorem Ct {X:Cx} {HC:Addr} {i:Nat} {n x:Str} {tb:(St->XK)->TS} {th:Addr->TS} {body suite:List Stmt} {b₀ : Stmt} {np hpos pos:Pos} (hN:X.N.Nodup) (hi:X.N[i]?=some n) (hl:X.env.scope.names.lookup n=some .local) (hst:X.stack=X.env::X.outer)
  (hf:X.env.frame=some X.env.locals) (hg:Gl X x) (hm:X.mg x=some (.ref HC)) (TH:XCl X.K HC)
  (h1:∀pn E1 EX,Ut (X.by pn E1) EX->PSs (X.by pn E1) body (tb EX)) (h2:∀pn (e:Addr),PSs (X.suite pn (.ref e)) (b₀::suite) (th e)) (hdb:(x == ("__debug__":Str))=false:=by decide) :
  PS X (.Try body [.ExceptHandler (some (.Name x np)) (some n) (b₀::suite) hpos] [] [] pos) (Hn X.K HC i tb th):=by
 intros D I h;have hfr:X.A.frames=some (X.env::X.outer):=I.ok.frames.trans (congrArg some hst);let E1:YA:=λev s''=>∃(Iw:YC) (σ':St) (H':Hp) (s':Shared),Inv (X.by (X.pn++jb) λ_ _=>False) Iw σ' H' s'/\CX1 X.prog X.w X.stack H' s' (nW X.K HC i th D σ') ev s'';have hp:Ut (X.by (X.pn++jb) E1) (nW X.K HC i th D):=λIw σ' H' s' ev s'' I' c=>⟨Iw,σ',H',s',⟨⟨I'.ok.mod,I'.ok.kind,I'.ok.glob,I'.ok.blt,I'.ok.above,I'.ok.inj,I'.ok.has,I'.ok.cab,I'.ok.hd,I'.ok.frames,I'.ok.stk,I'.ok.exf,I'.ok.bs,I'.ok.bsz,I'.ok.O1,I'.ok.LC,I'.ok.Hg,I'.ok.frf⟩,I'.os,I'.bare,I'.base,I'.loc,I'.cell,I'.free,I'.FP,I'.pin,I'.hok,I'.len⟩,c⟩;refine wpAny_Try_except (QcE (h1 _ E1 _ hp [] s U H D (I.by E1) h) (λf s1 q=>?_) λev s1 q=>?_)
 ·cases f with
  | next=>exact wpAny_execs_nil q.QS
  | brk=>exact q.QS
  | cont=>exact q.QS
  | ret u=>exact q.QS
 ·obtain⟨Iw,σ',H',s',I',e,C,B,H2,rfl,x1,D1,hC,T,hs,hth⟩:=q;cases hC;obtain⟨fl,hfl,f0⟩:=x1.fl;rw[hst] at f0;refine jQ hfl hfr hf f0 λha fa ua=>?_;refine eU fa λhb fb ub=>?_;have fb':Fl B X.stack e C (some .none) hb:=by rw[hst];exact fb
  have J:=Exc.caught I' x1 fb' (ua.trans ub);have JS:=J.suite (Value.ref e);refine wpAny_handleBy_cons (codeAny_handlers_test (Lp JS hg hm ?_ hdb)) (by intro q;cases q);refine BH JS.kIn TH hs fb.tr.at (codeAny_handlers_suite_as ?_);refine eU fb λhc fc uc=>?_;have fc':Fl B X.stack e C (some .none) hc:=by rw[hst];exact fc
  have J2:=(Exc.caught I' x1 fc' ((ua.trans ub).trans uc)).suite (Value.ref e);refine Lb (X:=X.suite (X.pn++jb) (.ref e)) (v:=.ref e) (i:=i) J2 hN hi (.inl hl) rfl (λs4 J4=>?_) (.inr hl);refine QcE (h2 _ _ Iw s4 _ _ (D.drop i) J4 (hth e x1.free)) (λf s5 q=>?_) λ_ _ z=>z.elim;cases f with
  | next=>
   obtain⟨σ5,H5,I5,q5⟩:=q;exact Uk (I5.TQ I.ok.hd) hN hi hl λs6 I6=>⟨_,_,I6,q5⟩
  | brk=>
   obtain⟨σ5,H5,I5,q5⟩:=q;exact Uk (I5.TQ I.ok.hd) hN hi hl λs6 I6=>⟨_,_,I6,q5⟩
  | cont=>
   obtain⟨σ5,H5,I5,q5⟩:=q;exact Uk (I5.TQ I.ok.hd) hN hi hl λs6 I6=>⟨_,_,I6,q5⟩
  | ret u=>
   obtain⟨v5,σ5,H5,I5,r5,q5⟩:=q;exact Uk (I5.TQ I.ok.hd) hN hi hl λs6 I6=>⟨v5,_,_,I6,r5,q5⟩
structure Mt (k:Nat) (A:Around):Prop where
 dp:A.depth+3*k+5 < recursionLimit
 un:A.units+16*k+200 < cLine
theorem Cm.inH {k:Nat} {A:Around} (r:Cm k A) (h:Option Value):Mt k (A.mark h):=⟨r.dp,r.un⟩
theorem Mt.deeper {k:Nat} {A:Around} (r:Mt (k+1) A) (env:Env):Mt k (A.deeper env):=
 ⟨by have:=r.dp;show A.depth+1+3*k+5 < _;omega,by have:=r.un;show A.units+3+16*k+200 < _;omega⟩
theorem Mt.mono {j k:Nat} {A:Around} (r:Mt k A) (h:j<=k):Mt j A:=⟨by have:=r.dp;omega,by have:=r.un;omega⟩
structure aL (P:Program) (w:World) (K:YD) (mg:YB) (base:Heap) (x:Str) (k:Nat) (ps:YF) (sp:Sp):Prop where
 ex:∃(f:Addr) (fd:FuncData),mg x=some (.ref f)/\keepIn K (.ref f)=true/\Binds K fd ps []/\(∀vs H Q E,sp vs H Q E->vs.length=ps.length) /\
  ∀(A:Around) (outer:List Env) (s:Shared) (H:Hp) (args:Args) (us:YE) (vs:YG) (Q:VK),Mt k A->Nt P w K mg base A outer s H->BindsTo s fd args (ps.zip us)->Vals vs us->sp vs H Q E0 ->
   codeAny (model P w) A (.call (.ref f) args) (CR CX0 outer P w H s Q E0) s
abbrev cxH (P:Program) (w:World) (K:YD) (mg:YB) (base:Heap) (N:YF) (qual:Str) (scope:Scope) (f:Addr) (cd:Value) (A:Around) (outer:List Env) (s:Shared) (H:Hp):Cx:=
 { Nr CX0 P w K mg base N qual scope f cd A outer s H E0 with calm:=false,xe:=λ_ _=>False }
theorem Code.GA {P:Program} {w:World} {K:YD} {mg:YB} {base:Heap} {x:Str} {st:Stmt} {ps N:YF} {k:Nat} {sp:Sp} (C:Code K mg x st ps) (S:Ay N ps (Aj st)) (len:∀vs H Q E,sp vs H Q E->vs.length=ps.length)
  (hbody:∀(f:Addr) (cdv:Value) (A:Around) (outer:List Env) (s:Shared) (H:Hp) (vs:YG) (Q:VK),Mt k (A.deeper (envOfC x (Aj st) ∅ f cdv))->sp vs H Q E0 ->
   ∃t,PSs (cxH P w K mg base N x (Aj st) f cdv A outer s H) (Dg st) t/\t { nx:=λ_ H'=>Q .non H',rt:=Q } (start N vs) H):aL P w K mg base x (k+1) ps sp:=by
 obtain⟨f,fd,F,m,b⟩:=C.ex;refine⟨f,fd,m,F.kp,b,len,λA outer s H args us vs Q hr e0 hb r hsp=>?_⟩;obtain⟨oc,od,kV,doc,pm,an,cdv,ct,osl,rfl,lk,hcd⟩:=F.ex;have hlen:=len _ _ _ _ hsp;have KX:K.In s.heap:=e0.mod.kin.keeps λb o q=>(e0.bs b o q).1;have lim:s.heap.NoLimit:=e0.mod.nolimit.keeps λb o q=>(e0.bs b o q).1;have hkind:∀y∈ps.zip us,(Aj st).names.lookup y.1=some .local\/((Aj st).names.lookup y.1=some .cell/\((cellsFrom (∅+1) (Aj st).names []).lookup y.1).isSome=true):=λ⟨n,v⟩ hy=>by
  rcases S.par n (List.of_mem_zip hy).1 with q | q
  ·exact .inl q
  ·exact .inr ⟨q,PySem.W.cellsFrom_some _ _ _ (.inl q)⟩
 refine codeAny_call_function (by have:=hr.dp;omega) (KX _ _ lk) rfl S.co S.gen rfl (PySem.W.codeRec_of KX hcd) (hb _ _ _ _ ?_);refine wpAny_newFunctionEnv_cells S.kind hkind λenv he s1 ic=>?_;subst he;refine⟨lim.keeps ic.toInCall.keep,codeAny_func ?_⟩;obtain⟨t,ht,hq⟩:=hbody f cdv A outer s H vs Q (hr.deeper _) hsp;have e1:Nt P w K mg base { A with handled:=none } outer s H:=⟨e0.frames,e0.mod,e0.bs,e0.bsz,e0.Hg,e0.frf,e0.hok,e0.bare⟩;have I0:Inv (Nr CX0 P w K mg base N x (Aj st) f cdv { A with handled:=none } outer s H E0) [] (start N vs) H s1:=Zw S rfl e1 hlen r ic;have I:Inv (cxH P w K mg base N x (Aj st) f cdv A outer s H) [] (start N vs) H s1:=
  ⟨⟨I0.ok.mod,I0.ok.kind,I0.ok.glob,I0.ok.blt,I0.ok.above,I0.ok.inj,I0.ok.has,I0.ok.cab,(λz=>nomatch z),Around.frames_deeper e0.frames,I0.ok.stk,I0.ok.exf,I0.ok.bs,I0.ok.bsz,I0.ok.O1,I0.ok.LC,I0.ok.Hg,I0.ok.frf⟩,I0.os,I0.bare,I0.base,I0.loc,I0.cell,I0.free,I0.FP,
   I0.pin,I0.hok,I0.len⟩
 refine QcE (ht [] s1 (start N vs) H _ I hq) (λfl s' hs=>?_) λe s' z=>z.elim;have fin:∀{σ':St} {H':Hp} {v:V} {u:Value},Inv (cxH P w K mg base N x (Aj st) f cdv A outer s H) [] σ' H' s'->RelV v u->Q v H'->CE outer P w H s Q u s':=λ{σ' H' v u} J rv q=>⟨v,H',J.os,J.bare,J.base,J.hok,rv,q⟩;cases fl with
 | ret u=>
  obtain⟨v,σ',H',J,rv,q⟩:=hs;exact fin J rv q
 | next=>
  obtain⟨σ',H',J,q⟩:=hs;exact fin (v:=V.non) (u:=Value.none) J rfl q
 | brk=>obtain⟨_,_,_,q⟩:=hs;exact False.elim q
 | cont=>obtain⟨_,_,_,q⟩:=hs;exact False.elim q
theorem CL {X:Cx} {k k':Nat} {ps:YF} {sp:Sp} {x:Str} {p pos:Pos} {e:Expr} {es:YJ} {t:TA} (g:aL X.prog X.w X.K X.mg X.base x k ps sp) (hr:Mt k' X.A) (ha:PA X (e::es) t) (hk:k<=k':=by decide)
  (hg:Gl X x:=by rfl) (hdb:(x == ("__debug__":Str))=false:=by decide) (he:starEach (e::es) X.env=(false,eval e X.env)::starEach es X.env:=by rfl) (hpl:(backTo pos (starEach es X.env)).any (·.1)=false:=by rfl) :
  PE X (.Call (.Name x p) (e::es) [] pos) (lE sp [] E0 t):=by
 intros Q I h;obtain⟨f,fd,m,kp,b,len,run⟩:=g.ex;refine Qbh (Lp I hg m ?_ hdb);refine callWith_K (h₀:=X.base) I.ok.mod.kin kp (thn (ha pos jb s U H _ I h) λus s1 zz=>?_) he hpl;obtain⟨vs,H1,I1,r,q⟩:=zz;refine⟨I1.kIn,?_⟩;have q:sp (vs++[]) H1 Q E0:=q;rw[QbM] at q;have hl:us.length=ps.length:=by rw[<-r.length];exact len _ _ _ _ q
 have bd:=b s1 us I1.kIn (by rw[QbM];exact hl);rw[QbM] at bd;refine wpAny_call (Qct (run X.A X.stack s1 H1 ⟨us,[]⟩ us vs Q (hr.mono hk) I1.env0 bd r q) λrr s' hq=>?_);cases rr with
 | error ev=>exact False.elim hq
 | ok fl=>
  cases fl with
  | ret u=>exact I1.after hq
  | next=>exact False.elim hq
  | brk=>exact False.elim hq
  | cont=>exact False.elim hq
@[irreducible] def lW (K:YD):YG->Hp->VK->Prop:=λxs H Q=>∃a D C b,xs=[.ref a,.ref D]/\H a=some (xo a C)/\XCl K C/\kitOne K (.ref C) (.ref D)=some b/\Q (.bl b) H
theorem Ep {X:Cx}:Ft X (.builtin "isinstance") (lW X.K):=by
 intros xs us Q I r h;unfold lW at h;obtain⟨a,D,C,b,rfl,ea,T,k,q⟩:=h;obtain⟨u,w',rfl,rx,rt⟩:=vals2 r;cases rx;cases rt;exact Xc I T ea k λtk=>⟨.bl b,H,I.tok tk,rq,q⟩
@[irreducible] def aH (K:YD):YG->Hp->VK->Prop:=λxs H Q=>∃a T C b,xs=[.ref a,.ty T]/\H a=some (xo a C)/\XCl K C/\kitOne K (.ref C) (.type T)=some b/\Q (.bl b) H
theorem tG {X:Cx}:Ft X (.builtin "isinstance") (aH X.K):=by
 intros xs us Q I r h;unfold aH at h;obtain⟨a,T,C,b,rfl,ea,TC,k,q⟩:=h;obtain⟨u,w',rfl,rx,rt⟩:=vals2 r;cases rx;cases rt;exact Xc I TC ea k λtk=>⟨.bl b,H,I.tok tk,rq,q⟩
end L2
namespace L2
open PySem PySem.Spec PyProof.Rows PySem.SeqAt
theorem Bg {c:Const} {k:Nat} {p:Pos} {es:YJ} {env:Env}:starEach (.Constant c k p::es) env=(false,eval (.Constant c k p) env)::starEach es env:=by rfl
theorem zW {f:Expr} {as:YJ} {ks:List Keyword} {p:Pos} {es:YJ} {env:Env}:starEach (.Call f as ks p::es) env=(false,eval (.Call f as ks p) env)::starEach es env:=by rfl
theorem RV {as:YJ} {k:Nat} {p:Pos} {es:YJ} {env:Env}:starEach (.Tuple as k p::es) env=(false,eval (.Tuple as k p) env)::starEach es env:=by rfl
def isT:Value->Bool
 | .bool b=>b
 | _=>false
theorem fX:∀{bs:List Bool} {us:YE},Vals (bs.map V.bl) us->us=bs.map Value.bool
 | [],_,.nil=>rfl
 | b::bs,_,.cons r t=>by
  cases (show _=Value.bool b from r)
  rw[fX t];rfl
section
variable {X:Cx}
@[irreducible] def T8:V->YG->Hp->VK->Prop:=λx xs H Q=>∃(l:Addr) (bs:List Bool),x=.ref l/\xs=[.bl true]/\H l=some (.lst (bs.map V.bl))/\Q (.int ((bs.countP id:Nat):Int)) H
theorem eqT {A:Around} {s:Shared} {bs:List Bool}:∀y,y∈(bs.map Value.bool).toArray->EqAt A s y (.bool true) (isT y):=λy hy=>by
 have hy':y∈bs.map Value.bool:=by simpa using hy
 obtain⟨b,_,rfl⟩:=Qcl.mp hy';have:=EqAt.bool_bool (A:=A) (s:=s) b true;rw[show (b == true)=isT (.bool b) by cases b <;> rfl] at this;exact this
theorem sG {l:Addr} {bs:List Bool} {H:Hp} {Q:VK} (h:H l=some (.lst (bs.map V.bl))) (q:Q (.int ((bs.countP id:Nat):Int)) H):T8 (.ref l) [.bl true] H Q:=by
 unfold T8;exact⟨l,bs,rq,rq,h,q⟩
theorem qF:MtM X "list.count" T8:=by
 intros x vs v us Q I rx rv h;unfold T8 at h;obtain⟨l,bs,rfl,rfl,hH,q⟩:=h;cases rx;obtain⟨u,rfl,ru⟩:=rv.one;cases (show _=Value.bool true from ru)
 obtain⟨z,its,n,r,hl,e⟩:=I.S9 hH;have hi:=fX r;subst hi;refine call_meets F.slot_list_count ⟨_,e,rq⟩ F.entry_list_count (F.args_list_count_2 _ _) (list_countAt l (bs.map Value.bool).toArray n none #[] (.bool true) isT) ⟨e,eqT,?_⟩;refine⟨.int ((bs.countP id:Nat):Int),H,I.tok _,⟨s.toks,?_⟩,q⟩;have hc:(bs.map Value.bool).countP isT=bs.countP id:=by
  rw[List.countP_map];congr 1
 simp only[hc]
@[irreducible] def T7:V->YG->Hp->VK->Prop:=λx xs H Q=>∃(l:Addr) (bs:List Bool) (j:Nat),x=.ref l/\xs=[.bl true]/\H l=some (.lst (bs.map V.bl))/\j<=1000/\bs[j]?=some true/\(∀m,m < j->bs[m]?=some false)/\Q (.int (j:Int)) H
theorem qQ {l:Addr} {bs:List Bool} {j:Nat} {H:Hp} {Q:VK} (h:H l=some (.lst (bs.map V.bl))) (h1:j<=1000) (h2:bs[j]?=some true) (h3:∀m,m < j->bs[m]?=some false) (q:Q (.int (j:Int)) H):T7 (.ref l) [.bl true] H Q:=by
 unfold T7;exact⟨l,bs,j,rq,rq,h,h1,h2,h3,q⟩
theorem qD:MtM X "list.index" T7:=by
 intros x vs v us Q I rx rv h;unfold T7 at h;obtain⟨l,bs,j,rfl,rfl,hH,hj1,hj,hno,q⟩:=h;cases rx;obtain⟨u,rfl,ru⟩:=rv.one;cases (show _=Value.bool true from ru)
 obtain⟨z,its,n,r,hl,e⟩:=I.S9 hH;have hi:=fX r;subst hi;have hjl:j < bs.length:=(Qai.mp hj).1;have hj2:j < (bs.map Value.bool).toArray.size:=by simpa using hjl
 have hit:isT ((bs.map Value.bool).toArray[j]'hj2)=true:=by
  have h1:bs[j]=true:=(Qai.mp hj).2;simp[h1,isT]
 have hn:∀m (hm:m < (bs.map Value.bool).toArray.size),m < j->isT (bs.map Value.bool).toArray[m]=false:=λm hm hmj=>by
  have h1:=(Qai.mp (hno m hmj)).2;simp[h1,isT]
 refine call_meets F.slot_list_index ⟨_,e,rq⟩ F.entry_list_index (F.args_list_index_2 _ _) (list_indexAt l (bs.map Value.bool).toArray n none #[] (.bool true) isT j hj2 (Int.lt_of_le_of_lt (b:=1000) (by omega) (by trivial)) hit hn) ⟨e,eqT,?_⟩;exact⟨.int (j:Int),H,I.tok _,⟨_,rq⟩,q⟩
end
theorem Hf {K:YD} {a D C:Addr} {b:Bool} {H:Hp} {Q:VK} (h:H a=some (xo a C)) (T:XCl K C) (k:kitOne K (.ref C) (.ref D)=some b) (q:Q (.bl b) H):lW K [.ref a,.ref D] H Q:=by
 unfold lW;exact⟨a,D,C,b,rq,h,T,k,q⟩
theorem AV {K:YD} {a C:Addr} {T:String} {b:Bool} {H:Hp} {Q:VK} (h:H a=some (xo a C)) (TC:XCl K C) (k:kitOne K (.ref C) (.type T)=some b) (q:Q (.bl b) H):aH K [.ref a,.ty T] H Q:=by
 unfold aH;exact⟨a,T,C,b,rq,h,TC,k,q⟩
section
variable {prog:Program} {w:World} {A:Around} {E:YA} {s:Shared}
end
end L2
namespace L2
open PySem PySem.Spec PyProof.Rows
section
variable {X:Cx} {jb:YC} {U : St} {H:Hp} {s:Shared} {a:Addr} {kvs:YM} {o:Obj}
end
theorem RL:entryFor table "dict_itemiterator.__iter__"=some Builtin.«dict_keyiterator.__iter__»:=entryFor_alias (id':="dict_keyiterator.__iter__") (by kernel_rfl) rfl (by trivial) (by kernel_rfl)
theorem ak {prog:Program} {w:World} {A:Around} {E:YA} {s:Shared} {it d:Addr} {i n ep:Nat} {ok ov:Value} {Q:YA} (hit:IsItemIter s.heap it d i n ep ok ov) (h:Q (.ref it) s) :
  wpAny (model prog w) A (pyIter (.ref it)) Q E s:=by
 have hT:s.TypeIs (.ref it) "dict_itemiterator":=⟨_,hit,rq⟩;refine wpAny_pyIter_slot hT F.slot_dict_itemiterator_iter (QbC F.slot_dict_itemiterator_iter hT RL ?_ (F.args_dict_itemiterator_iter_1 _));exact QcD ⟨_,rq,"dict_itemiterator",_,hT,Qac.lookup,h⟩
section
variable {a l:Addr} {o:Obj} {kvs:YM} {g:TG} {tb:TS} {D:Ends} {U : St} {H:Hp} {tt:TT} {te tk tv:TE} {Q:VK}
theorem rT {K:YD} {xs:YG} {σ0:St} {H0:Hp} (Pv:YN) (h0:Pv 0 σ0 H0) (hl:∀i U H',i<=xs.length->Pv i U H'->SqT K H' a xs)
  (hs:∀i x U H',xs[i]?=some x->Pv i U H'->g x U H' fun σ3 H3=>tt σ3 H3 λb H4=>if b=true then tk σ3 H4 λy H5=>tv σ3 H5 λz H6=>∃(kvs:YM) (k:Key),H6 l=some (.dK kvs)/\y=kV k/\kvs.length < sizeLine/\Pv (i+1) σ3 (upd H6 l (.dK (putK kvs k z))) else Pv (i+1) σ3 H4)
  (hd:∀ U H',Pv xs.length U H'->Q (.ref l) H'):Uv (Itt K a) g tt tk tv Q σ0 H0 l:=by
 unfold Uv;refine⟨λi m U H'=>m=xs.length - i/\i<=xs.length/\Pv i U H',⟨xs.length,by simp,Qcw _,h0⟩,?_⟩;rintro i m U H' ⟨rfl,hi,p⟩;have q:=hl i U H' hi p;by_cases hlt:i < xs.length
 ·refine .inr ⟨⟨xs,xs[i],q,by simp[hlt]⟩,Pv (i+1),fun σ3 H3 p'=>⟨xs.length - (i+1),by omega,rq,hlt,p'⟩,λx H2 y=>?_⟩;obtain⟨e,y⟩:=y;subst e;exact hs i x U _ (y xs q) p
 ·have e:i=xs.length:=by omega
  subst e;exact .inl ⟨⟨xs,q,Qcv _⟩,hd U H' p⟩
end
open PySem.W (KasT kas_asc kas_desc kas_rev kas_tail3 kas_descPart kas_count kas_place kas_bin kas_sort)
def Ht {α : Type} (n:Nat) (P:α->Prop):KasT α->Prop
 | .ret a=>P a
 | .ask i j k=>i < n/\j < n/\∀b,Ht n P (k b)
theorem KC {α β : Type} {n:Nat} {P:α->Prop} {Q:β->Prop} {f:α->KasT β}:∀t:KasT α,Ht n P t->(∀a,P a->Ht n Q (f a))->Ht n Q (t.bind f)
 | .ret a,h,q=>q a h
 | .ask i j k,h,q=>⟨h.1,h.2.1,λb=>KC (k b) (h.2.2 b) q⟩
def Pm (n:Nat) (p:Array Nat):Prop:=p.toList.Perm (List.range n)
theorem Pm.rev {n:Nat} {p:Array Nat} (h:Pm n p) (i j:Nat):Pm n (kas_rev p i j):=(Array.perm_iff_toList_perm.mp (mirror_perm p i j ((j - i) / 2))).trans h
theorem Pm.bub {n:Nat} {p:Array Nat} (h:Pm n p) (k d:Nat):Pm n (bubble p k d):=(Array.perm_iff_toList_perm.mp (bubble_perm p k d)).trans h
theorem Pm.lt {n:Nat} {p:Array Nat} (h:Pm n p) (n0:0 < n) (i:Nat):p.getD i 0 < n:=by
 by_cases hi:i < p.size
 ·have e:p.getD i 0=p[i]:=by simp[hi]
  rw[e];have hm:p[i]∈p.toList:=by simp
  exact Qca.mp (h.mem_iff.mp hm)
 ·have e:p.getD i 0=0:=by simp[hi]
  rw[e];exact n0
section
variable {n:Nat} (n0:0 < n)
include n0
theorem Zd {p:Array Nat} (h:Pm n p):∀f k,Ht n (λ_=>True) (kas_asc p f k)
 | 0,k=>trivial
 | f+1,k=>⟨h.lt n0 _,h.lt n0 _,λb=>by
  cases b with
  | true=>exact trivial
  | false=>exact Zd h f (k+1)⟩
theorem Rx:∀f (p:Array Nat),Pm n p->∀k q,Ht n (λr:Array Nat×Nat×Nat=>Pm n r.1) (kas_desc f p k q)
 | 0,p,h,k,q=>h
 | f+1,p,h,k,q=>⟨h.lt n0 _,h.lt n0 _,λb=>by
  cases b with
  | true=>
   show Ht n _ (if q > 0 then kas_desc f (kas_rev p (k - (q+1)) k) (k+1) 0 else kas_desc f p (k+1) 0)
   split
   ·exact Rx f _ (h.rev _ _) _ _
   ·exact Rx f _ h _ _
  | false=>exact⟨h.lt n0 _,h.lt n0 _,λd=>by
    cases d with
    | true=>exact h
    | false=>exact Rx f _ h _ _⟩⟩
theorem f9 {p:Array Nat} (h:Pm n p) (a b:Nat):Ht n (λr:Nat×Array Nat=>Pm n r.2) (kas_tail3 a b p):=
 KC _ (Zd n0 (h.rev 0 a) _ _) λm _=>h.rev 0 a
theorem Tq {p:Array Nat} (h:Pm n p) (a b:Nat):Ht n (λr:Nat×Array Nat=>Pm n r.2) (kas_descPart a b p):=
 KC _ (Rx n0 _ p h _ _) λr hr=>by
  show Ht n _ (if r.2.2 > 0 then _ else _)
  split
  ·exact f9 n0 (Pm.rev hr _ _) _ _
  ·exact f9 n0 hr _ _
theorem ZR {p:Array Nat} (h:Pm n p) (a:Nat):Ht n (λr:Nat×Array Nat=>Pm n r.2) (kas_count a p):=
 KC _ (Zd n0 h _ _) λm _=>by
  show Ht n _ (if (m == a)=true then _ else if m > 1 then _ else _)
  split
  ·exact h
  ·split
   ·refine⟨h.lt n0 _,h.lt n0 _,λb=>?_⟩;cases b with
    | true=>exact h
    | false=>exact Tq n0 (h.rev _ _) _ _
   ·exact Tq n0 h _ _
theorem Tp {p:Array Nat} (h:Pm n p) (k:Nat):∀f l r,Ht n (λ_=>True) (kas_place p k f l r)
 | 0,_,_=>trivial
 | f+1,l,r=>by
  show Ht n _ (if l ≥ r then _ else _)
  split
  ·exact trivial
  ·refine⟨h.lt n0 _,h.lt n0 _,λb=>?_⟩;cases b with
   | true=>exact Tp h k f _ _
   | false=>exact Tp h k f _ _
theorem j7:∀f (p:Array Nat),Pm n p->∀k,Ht n (Pm n) (kas_bin f p k)
 | 0,p,h,_=>h
 | f+1,p,h,k=>KC _ (Tp n0 h k _ _ _) λl _=>j7 f _ (h.bub _ _) _
theorem gk:Ht n (Pm n) (kas_sort n):=
 KC _ (ZR n0 (p:=List.toArray (List.range n)) (show Pm n _ by unfold Pm;exact List.Perm.refl _) n) λr hr=>by
  show Ht n _ (if r.1 < n then _ else _)
  split
  ·exact j7 n0 _ _ hr _
  ·exact hr
end
section
variable {prog:Program} {w:World} {A:Around} {E:YA} {s:Shared}
theorem bN {l:Addr} {vs:YE} {Q:YA} (hl:s.heap.IsList l vs.toArray) (h1:vs.length < 2)
  (h:∀D h' c,∅<=D->h'.get? D=some (seqObj "list" vs.toArray c)->(∀b o,s.heap.get? b=some o->h'.get? b=some o)->Q (.ref D) { s with heap:=h' }):wpAny (model prog w) A (call (.builtin "sorted") [.ref l]) Q E s:=by
 have h2:vs.toArray.size < 2:=by rw[Qbl];exact h1
 have hz:vs.length<=sizeLine:=Qcs (Ar (by omega));refine Calls.call_function_entry (Q:=Q) kind_sorted plain_sorted entry_sorted (args_sorted1 (.ref l)) ?_;unfold Builtin.«sorted»;refine QcC (m:=checkCount "sorted" 1 1 [Value.ref l].length) (QcD ?_);refine QcC (collect_list (vs:=vs) hl ?_ hz);have k1:∀b o,s.heap.get? b=some o->((s.heap.push (seqObj "list" #[] 0)).update ∅ (Obj.mapSeq (·++vs.toArray))).get? b=some o:=λb o q=>by
  rw[QaB _ _ (Qcq (Qcm q))];exact Qay _ q
 have z1:((s.heap.push (seqObj "list" #[] 0)).update ∅ (Obj.mapSeq (·++vs.toArray))).objs.size=∅+1:=by rw[Heap.size_update,QbY]
 generalize ((s.heap.push (seqObj "list" #[] 0)).update ∅ (Obj.mapSeq (·++vs.toArray)))=g1 at k1 z1;refine QcC (wpAny_newList ?_ hz);have oD:(g1.push (seqObj "list" vs.toArray 0)).get? g1.objs.size=some (seqObj "list" vs.toArray 0):=QaN _ rfl;have k2:∀b o,s.heap.get? b=some o->b≠g1.objs.size/\(g1.push (seqObj "list" vs.toArray 0)).get? b=some o:=λb o q=>⟨by rw[z1];exact Qcn (Nat.lt_succ_of_lt (Qcm q)),Qay _ (k1 b o q)⟩;refine QcC (Qch (QbC slot_list_sort ⟨_,oD,rq⟩ entry_list_sort ?_ (args_list_sort _)));rw[list_sort_plain];have zD:∅<=g1.objs.size:=by rw[z1];exact QcA _
 generalize g1.objs.size=D at oD k2 zD;generalize hg2:g1.push (seqObj "list" vs.toArray 0)=g2 at oD k2;refine QcC (listItems_at (a:=D) oD rfl ?_);refine QcC (listUpdate_at (a:=D) oD rfl ?_ (by rw[Qbl];exact hz) (Qcw _));obtain⟨e1,o1⟩ : ∃e1,(g2.update D (Obj.mapSeq λ_=>(#[]:Array Value))).get? D=some (seqObj "list" #[] e1):=⟨_,get?_update_seq oD λ_=>#[]⟩;have k3:∀b o,s.heap.get? b=some o->b≠D/\(g2.update D (Obj.mapSeq λ_=>(#[]:Array Value))).get? b=some o:=λb o q=>⟨(k2 b o q).1,by rw[QaB _ _ (Ne.symm (k2 b o q).1)];exact (k2 b o q).2⟩;have zip2:(arrOf (SortSt.mk' general' (vs.toArray.zip vs.toArray) #[] 7 none)).map (·.2)=vs.toArray:=by
  show (vs.toArray.zip vs.toArray).map (·.2)=vs.toArray;apply Array.toList_inj.mp;simp[Array.toList_zip,List.map_snd_zip]
 dsimp only;generalize g2.update D (Obj.mapSeq λ_=>(#[]:Array Value))=g3 at o1 k3 ⊢;refine QcC (seqEpoch_at (a:=D) o1 rfl ?_);refine QcC (wpAny_newTuple ?_ (by simpa using hz));refine QcC (wpAny_newList (items:=[]) ?_ (Qcw _));refine Qch ?_;have o5:∀x y:Obj,((g3.push x).push y).get? D=some (seqObj "list" #[] e1):=λx y=>Qay _ (Qay _ o1);have k5:∀x y:Obj,∀b o,s.heap.get? b=some o->b≠D/\((g3.push x).push y).get? b=some o:=λx y b o q=>⟨(k3 b o q).1,Qay _ (Qay _ (k3 b o q).2)⟩;dsimp only;rw[if_pos h2,if_pos h2];refine QcC (QcD ?_);rw[StateT.run_pure];refine QcC (QcD ?_);dsimp only;refine QcC (seqEpoch_at (a:=D) (o5 _ _) rfl ?_);rw[zip2];refine QcC (listUpdate_at (a:=D) (o5 _ _) rfl ?_ (Qcw _) (by first | (rw[Qbl];exact hz) | (rw[Qbl];omega)))
 simp only[bne_self_eq_false,Bool.false_eq_true,if_false];obtain⟨c,oF⟩ : ∃c,(((g3.push { cls:=.type "tuple",data:=.seq vs.toArray }).push { cls:=.type "list",data:=.seq #[] }).update D (Obj.mapSeq λ_=>vs.toArray)).get? D=some (seqObj "list" vs.toArray c):=⟨_,get?_update_seq (o5 _ _) λ_=>vs.toArray⟩;refine QcD ⟨_,rq,QcD ⟨_,rq,h D _ c zD oF λb o q=>?_⟩⟩;rw[QaB _ _ (Ne.symm (k3 b o q).1)];exact (k5 _ _ b o q).2
end
theorem AL {h:Heap} {a:Addr} {m m':YB} (x:h.Ns a m) (y:h.Ns a m'):m=m':=by
 obtain⟨o,es,ep,h1,h2,_,h3⟩:=x;obtain⟨o',es',ep',g1,g2,_,g3⟩:=y;rw[h1] at g1;cases g1;rw[h2] at g2;cases g2
 funext k
 rw[<-h3,<-g3]
theorem Zq {α β : Type} (d:α) (e:β):∀{vs:List α} {its:List β} {F:α->β->Prop} {is:List Nat},Paired F vs its->(∀i∈is,i < vs.length)->Paired F (is.map λi=>vs.getD i d) (is.map λi=>its.getD i e)
 | vs,its,F,[],_,_=>.nil
 | vs,its,F,i::is,r,h=>by
  refine .cons ?_ (Zq d e r λj hj=>h j (QaJ _ hj));have hi:=h i (QaW ..);have go:∀{l:List α} {m:List β} {i:Nat},Paired F l m->i < l.length->F (l.getD i d) (m.getD i e):=by
   intro l m i r
   induction r generalizing i with
   | nil=>intro h;exact absurd h (QbU _)
   | cons a t ih=>
    intro h;cases i with
    | zero=>exact a
    | succ i=>exact ih (Nat.lt_of_succ_lt_succ h)
  exact go r hi
theorem range_getD {α : Type} (d:α) (vs:List α):(List.range vs.length).map (λi=>vs.getD i d)=vs:=by
 apply List.ext_getElem
 ·simp
 ·intro i h1 h2;simp[h2]
def oH (K:YD) (H:Hp) (vs:YG):Prop:=∀v∈vs,∃t ns,v=.ref t/\SqT K H t ((ns:List Int).map V.int)/\0 < ns.length
theorem jF {X:Cx} {jb:YC} {U : St} {H:Hp} {s:Shared} {h':Heap} (I:H^^^s) (k:∀b o,H b≠none\/(∃u,X.base.get? b=some u)->s.heap.get? b=some o->h'.get? b=some o):∀{vs:YG} {its:YE},Vals vs its->oH X.K H vs ->
  ∃fs,PySem.W.KatTups h' its fs/\fs.length=its.length/\∀f∈fs,∃i t,f=Value.int i t
 | _,_,.nil,_=>⟨[],trivial,rfl,λf h=>nomatch h⟩
 | _,_,.cons r t,h=>by
  obtain⟨fs,f1,f2,f3⟩:=jF I k t λv hv=>h v (QaJ _ hv);obtain⟨tp,ns,rfl,hq,hn⟩:=h _ (QaW ..);cases r;obtain⟨its,rv,⟨o,ho,hc,n,hd⟩,_⟩:=I.tuple hq;have ho':h'.get? tp=some o:=by
   refine k tp o ?_ ho;rcases hq with (e |⟨_,e⟩) |⟨_,_,_,e,_⟩
   ·exact .inl (by rw[e];exact λz=>nomatch z)
   ·exact .inl (by rw[e];exact λz=>nomatch z)
   ·exact .inr ⟨_,I.mod.kin _ _ e⟩
  cases ns with
  | nil=>exact absurd hn (Qcg _)
  | cons n0 nr=>
   cases rv with
   | cons r0 rr=>
    obtain⟨tk,rfl⟩:=r0;exact⟨Value.int n0 tk::fs,PySem.W.KatTups.cons ho' hc hd (by simp) f1,by simp[f2],λf hf=>by
     rcases Qcd.mp hf with rfl | hf
     ·exact⟨_,_,rq⟩
     ·exact f3 f hf⟩
end L2
namespace L2
open PySem PySem.Spec PyProof.Rows
open PySem.W (KasT kas_asc kas_desc kas_rev kas_tail3 kas_descPart kas_count kas_place kas_bin kas_sort)
def Gi {α : Type} (lt:Nat->Nat->Bool):KasT α->α
 | .ret a=>a
 | .ask i j k=>Gi lt (k (lt i j))
theorem Kz {α β : Type} {lt:Nat->Nat->Bool} {f:α->KasT β}:∀t:KasT α,Gi lt (t.bind f)=Gi lt (f (Gi lt t))
 | .ret a=>rfl
 | .ask i j k=>Kz (k (lt i j))
theorem Vz {α : Type} {lt:Nat->Nat->Bool} {n:Nat} {P:α->Prop}:∀t:KasT α,Ht n P t->P (Gi lt t)
 | .ret a,h=>h
 | .ask i j k,h=>Vz (k (lt i j)) (h.2.2 _)
theorem jG {α : Type} {lt:Nat->Nat->Bool} {n:Nat} {P:α->Prop} {Q:α->Shared->Prop} {s:Shared} {cmp:Nat->Nat->(Bool->Shared->Prop)->Shared->Prop} (hc:∀i j C,i < n->j < n->C (lt i j) s->cmp i j C s):∀t:KasT α,Ht n P t->Q (Gi lt t) s->t.kasWp cmp Q s
 | .ret a,h,q=>q
 | .ask i j k,h,q=>hc i j _ h.1 h.2.1 (jG hc (k (lt i j)) (h.2.2 _) q)
section
variable {n:Nat} {ky:Nat->Int}
def Gk (ky:Nat->Int) (p:Array Nat) (i:Nat):Int:=ky (p.getD i 0)
def ltK (ky:Nat->Int) (i j:Nat):Bool:=decide (ky i < ky j)
def Inj (n:Nat) (ky:Nat->Int):Prop:=∀i j,i < n->j < n->ky i=ky j->i=j
def Zf (ky:Nat->Int) (p:Array Nat) (m:Nat):Prop:=∀i,i+1 < m->Gk ky p i < Gk ky p (i+1)
def Fall (ky:Nat->Int) (p:Array Nat) (m:Nat):Prop:=∀i,i+1 < m->Gk ky p (i+1) < Gk ky p i
def Mu (ky:Nat->Int) (p:Array Nat) (m:Nat):Prop:=∀i j,i < j->j < m->Gk ky p i < Gk ky p j
theorem Zf.all {p:Array Nat} {m:Nat} (h:Zf ky p m):Mu ky p m:=λi j hij hj=>by
 induction j with
 | zero=>omega
 | succ j ih=>
  have h1:=h j hj;by_cases e:i=j
  ·rw[e];exact h1
  ·exact Int.lt_trans (ih (by omega) (by omega)) h1
theorem qz {α : Type} {l:List α} (nd:l.Nodup) {i j:Nat} (hi:i < l.length) (hj:j < l.length) (e:l[i]=l[j]):i=j:=by
 rcases Nat.lt_trichotomy i j with h | h | h
 ·exact absurd e (Qam.mp nd i j hi hj h)
 ·exact h
 ·exact absurd e.symm (Qam.mp nd j i hj hi h)
theorem Pm.size {p:Array Nat} (h:Pm n p):p.size=n:=by
 have:=List.Perm.length_eq h;simpa using this
theorem Pm.ne (hi:Inj n ky) {p:Array Nat} (h:Pm n p) {i j:Nat} (a:i < n) (b:j < n) (ne:i≠j):Gk ky p i≠Gk ky p j:=λe=>by
 have n0:0 < n:=by omega
 have hs:=h.size;have e:=hi _ _ (h.lt n0 i) (h.lt n0 j) e;have nd:p.toList.Nodup:=(List.Perm.nodup_iff h).mpr List.nodup_range;have e1:p.getD i 0=p.toList[i]'(by simp[hs,a]):=by simp[hs,a]
 have e2:p.getD j 0=p.toList[j]'(by simp[hs,b]):=by simp[hs,b]
 rw[e1,e2] at e;exact ne (qz nd _ _ e)
theorem Yk (hi:Inj n ky) {p:Array Nat} (h:Pm n p):∀f k,1<=k->k+f<=n->Zf ky p k->∃m,Gi (ltK ky) (kas_asc p f k)=m/\k<=m/\m<=k+f/\Zf ky p m/\(m < k+f->Gk ky p m < Gk ky p (m - 1))
 | 0,k,_,_,r=>⟨k,rfl,Qcv _,Qcv _,r,λz=>absurd z (Qcg _)⟩
 | f+1,k,h1,h2,r=>by
  show ∃m,Gi (ltK ky) (if ltK ky (p.getD k 0) (p.getD (k - 1) 0)=true then KasT.ret k else kas_asc p f (k+1))=m/\_
  by_cases c:Gk ky p k < Gk ky p (k - 1)
  ·rw[if_pos (show ltK ky _ _=true from QbX c)]
   exact⟨k,rq,Qcv _,by omega,r,λ_=>c⟩
  ·rw[if_neg (show ¬ltK ky _ _=true from λz=>c (Qbs z))]
   obtain⟨m,e,a,b,d,g⟩:=Yk hi h f (k+1) (by omega) (by omega) (λi hi'=>by
    by_cases e:i+1=k
    ·have:=h.ne hi (i:=i) (j:=i+1) (by omega) (by omega) (by omega);have c:¬Gk ky p (i+1) < Gk ky p i:=by rw[<-e] at c;exact c
     omega
    ·exact r i (by omega))
   exact⟨m,e,by omega,by omega,d,λz=>g (by omega)⟩
theorem cB (hi:Inj n ky) {p:Array Nat} (h:Pm n p):∀f k,1<=k->k+f<=n->Fall ky p k->∃m,Gi (ltK ky) (kas_desc f p k 0)=(p,m,0)/\k<=m/\m<=k+f/\Fall ky p m
 | 0,k,_,_,r=>⟨k,rfl,Qcv _,Qcv _,r⟩
 | f+1,k,h1,h2,r=>by
  show ∃m,Gi (ltK ky) (if ltK ky (p.getD k 0) (p.getD (k - 1) 0)=true then (if 0 > 0 then kas_desc f (kas_rev p (k - (0+1)) k) (k+1) 0 else kas_desc f p (k+1) 0) else KasT.ask (p.getD (k - 1) 0) (p.getD k 0) λd=>if d=true then KasT.ret (p,k,0) else kas_desc f p (k+1) (0+1))=(p,m,0)/\_
  by_cases c:Gk ky p k < Gk ky p (k - 1)
  ·rw[if_pos (show ltK ky _ _=true from QbX c),if_neg (Qcg 0)]
   obtain⟨m,e,a,b,d⟩:=cB hi h f (k+1) (by omega) (by omega) (λi hi'=>by
    by_cases e:i+1=k
    ·rw[<-e] at c;exact c
    ·exact r i (by omega))
   exact⟨m,e,by omega,by omega,d⟩
  ·rw[if_neg (show ¬ltK ky _ _=true from λz=>c (Qbs z))]
   have ne:=h.ne hi (i:=k) (j:=k - 1) (by omega) (by omega) (by omega);show ∃m,Gi (ltK ky) (if ltK ky (p.getD (k - 1) 0) (p.getD k 0)=true then KasT.ret (p,k,0) else kas_desc f p (k+1) (0+1))=(p,m,0)/\_
   rw[if_pos (show ltK ky _ _=true from QbX (show Gk ky p (k - 1) < Gk ky p k by omega))]
   exact⟨k,rq,Qcv _,by omega,r⟩
theorem aM {p q:Array Nat} {i j:Nat} (e:p[i]?=q[j]?):Gk ky p i=Gk ky q j:=by
 unfold Gk;rw[Array.getD_eq_getD_getElem?,Array.getD_eq_getD_getElem?,e]
theorem tV {p:Array Nat} {m i:Nat} (hm:m<=p.size) (hi:i < m):Gk ky (kas_rev p 0 m) i=Gk ky p (m - 1 - i):=by
 apply aM;unfold kas_rev;rw[getElem?_mirror_all hm,if_pos ⟨Qcw _,hi⟩];congr 1;omega
theorem tW {p:Array Nat} {k l i:Nat} (hk:k < p.size) (hl:l<=k):Gk ky (bubble p k (k - l)) i=if i=l then Gk ky p k else if l < i/\i<=k then Gk ky p (i - 1) else Gk ky p i:=by
 have e:=getElem?_bubble hk (k - l) (by omega) i;rw[show k - (k - l)=l by omega] at e;split at e
 ·rename_i h;rw[if_pos h];exact aM e
 ·rename_i h;rw[if_neg h];split at e
  ·rename_i h;rw[if_pos h];exact aM e
  ·rename_i h;rw[if_neg h];exact aM e
def Done (n:Nat) (ky:Nat->Int) (r:Nat×Array Nat):Prop:=1<=r.1/\r.1<=n/\Zf ky r.2 r.1
theorem uR (hi:Inj n ky) {p:Array Nat} (h:Pm n p) {m:Nat} (h1:1<=m) (h2:m<=n) (f:Fall ky p m):Done n ky (Gi (ltK ky) (kas_tail3 m n p)):=by
 have hs:=h.size;have r0:Zf ky (kas_rev p 0 m) m:=λi hi'=>by
  rw[tV (by omega) (by omega),tV (by omega) (by omega)];have:=f (m - 1 - (i+1)) (by omega);rw[show m - 1 - (i+1)+1=m - 1 - i by omega] at this;exact this
 obtain⟨k,e,a,b,d,_⟩:=Yk hi (h.rev 0 m) (n - m) m h1 (by omega) r0;unfold kas_tail3;rw[Kz,e];exact⟨by show 1<=k;omega,by show k<=n;omega,d⟩
theorem pJ (hi:Inj n ky) {p:Array Nat} (h:Pm n p) (n0:2<=n):Done n ky (Gi (ltK ky) (kas_count n p)):=by
 obtain⟨m,e,a,b,d,g⟩:=Yk hi h (n - 1) 1 (Qcv _) (by omega) (λi hi'=>by omega);unfold kas_count;rw[Kz,e];by_cases c1:m=n
 ·rw[if_pos (by rw[c1];exact beq_self_eq_true n)];exact⟨a,by show m<=n;omega,d⟩
 ·rw[if_neg (λz=>c1 (eq_of_beq z))];by_cases c2:m > 1
  ·rw[if_pos c2];show Done n ky (Gi (ltK ky) (if ltK ky (p.getD 0 0) (p.getD (m - 1) 0)=true then KasT.ret (m,p) else kas_descPart m n (kas_rev p 0 m)))
   rw[if_pos (show ltK ky _ _=true from QbX (d.all 0 (m - 1) (by omega) (by omega)))]
   exact⟨a,by show m<=n;omega,d⟩
  ·rw[if_neg c2];have m1:m=1:=by omega
   subst m1;have g:=g (by omega);obtain⟨k,e,a,b,d⟩:=cB hi h (n - (1+1)) (1+1) (by omega) (by omega) (λi hi'=>by
    have:i=0:=by omega
    subst this;exact g)
   unfold kas_descPart;rw[Kz,e];show Done n ky (Gi (ltK ky) (if 0 > 0 then _ else kas_tail3 k n p))
   rw[if_neg (Qcg 0)];exact uR hi h (by omega) (by omega) d
theorem SN (hi:Inj n ky) {p:Array Nat} (h:Pm n p) {k:Nat} (hk:k < n) (R:Mu ky p k):∀f l r,r<=l+f->l<=r->r<=k->(∀i,i < l->Gk ky p i < Gk ky p k)->(∀i,r<=i->i < k->Gk ky p k < Gk ky p i)->∃m,Gi (ltK ky) (kas_place p k f l r)=m/\m<=k/\(∀i,i < m->Gk ky p i < Gk ky p k)/\∀i,m<=i->i < k->Gk ky p k < Gk ky p i
 | 0,l,r,h1,h2,h3,h4,h5=>⟨l,rfl,by omega,h4,λi a b=>h5 i (by omega) b⟩
 | f+1,l,r,h1,h2,h3,h4,h5=>by
  unfold kas_place;by_cases c:l ≥ r
  ·rw[if_pos c];exact⟨l,rq,by omega,h4,λi a b=>h5 i (by omega) b⟩
  ·rw[if_neg c];show ∃m,Gi (ltK ky) (if ltK ky (p.getD k 0) (p.getD ((l+r) / 2) 0)=true then kas_place p k f l ((l+r) / 2) else kas_place p k f ((l+r) / 2+1) r)=m/\_
   have hm:(l+r) / 2 < r/\l<=(l+r) / 2:=by omega
   generalize (l+r) / 2=q at hm ⊢;by_cases d:Gk ky p k < Gk ky p q
   ·rw[if_pos (show ltK ky _ _=true from QbX d)]
    refine SN hi h hk R f l q (by omega) (by omega) (by omega) h4 λi a b=>?_;by_cases e:i=q
    ·rw[e];exact d
    ·exact Int.lt_trans d (R q i (by omega) b)
   ·rw[if_neg (show ¬ltK ky _ _=true from λz=>d (Qbs z))]
    refine SN hi h hk R f (q+1) r (by omega) (by omega) (by omega) (λi a=>?_) h5;have ne:=h.ne hi (i:=q) (j:=k) (by omega) (by omega) (by omega);have lt:Gk ky p q < Gk ky p k:=by omega
    by_cases e:i=q
    ·rw[e];exact lt
    ·exact Int.lt_trans (R i q (by omega) (by omega)) lt
theorem jt (hi:Inj n ky):∀f (p:Array Nat),Pm n p->∀k,k+f=n->Mu ky p k->Mu ky (Gi (ltK ky) (kas_bin f p k)) n
 | 0,p,h,k,e,R=>by rw[<-e];exact R
 | f+1,p,h,k,e,R=>by
  have hs:=h.size;show Mu ky (Gi (ltK ky) ((kas_place p k k 0 k).bind λl=>kas_bin f (bubble p k (k - l)) (k+1))) n;rw[Kz];obtain⟨l,el,a,b,c⟩:=SN hi h (k:=k) (by omega) R k 0 k (by omega) (Qcw _) (Qcv _) (λi z=>absurd z (QbU _)) (λi x y=>by omega);rw[el];refine jt hi f _ (h.bub _ _) (k+1) (by omega) λi j hij hj=>?_;rw[tW (by omega) a,tW (by omega) a];by_cases ei:i=l
  ·rw[if_pos ei,if_neg (by omega),if_pos ⟨by omega,by omega⟩];exact c _ (by omega) (by omega)
  ·rw[if_neg ei];by_cases ej:j=l
   ·rw[if_neg (by omega),if_pos ej];exact b _ (by omega)
   ·rw[if_neg ej];by_cases gi:l < i
    ·rw[if_pos ⟨gi,by omega⟩,if_pos ⟨by omega,by omega⟩];exact R _ _ (by omega) (by omega)
    ·rw[if_neg (λz=>gi z.1)];by_cases gj:l < j
     ·rw[if_pos ⟨gj,by omega⟩];exact R _ _ (by omega) (by omega)
     ·rw[if_neg (λz=>gj z.1)];exact R _ _ (by omega) (by omega)
theorem uT (hi:Inj n ky) (n0:2<=n):Mu ky (Gi (ltK ky) (kas_sort n)) n:=by
 have h0:Pm n (List.toArray (List.range n)):=by unfold Pm;exact List.Perm.refl _
 obtain⟨a,b,c⟩:=pJ hi h0 n0;have hp:=Vz (lt:=ltK ky) _ (ZR (by omega) h0 n);unfold kas_sort;rw[Kz];generalize Gi (ltK ky) (kas_count n (List.toArray (List.range n)))=r at a b c hp;show Mu ky (Gi (ltK ky) (if r.1 < n then kas_bin (n - max r.1 1) r.2 (max r.1 1) else KasT.ret r.2)) n
 have em:max r.1 1=r.1:=by omega
 by_cases d:r.1 < n
 ·rw[if_pos d,em];exact jt hi _ _ hp _ (by omega) c.all
 ·rw[if_neg d];have:r.1=n:=by omega
  rw[<-this];exact c.all
theorem Mu.list {p:Array Nat} (h:Pm n p) (R:Mu ky p n):(p.toList.map ky).Pairwise (· < ·):=by
 have hs:=h.size;rw[Qam];intro i j hi hj hij;have hi':i < n:=by simpa [hs] using hi
 have hj':j < n:=by simpa [hs] using hj
 have:=R i j hij hj';unfold Gk at this;have e1:p.getD i 0=p[i]'(by omega):=by simp[hs,hi']
 have e2:p.getD j 0=p[j]'(by omega):=by simp[hs,hj']
 rw[e1,e2] at this;simpa using this
end
theorem gO {α β : Type} (d:α) (e:β) {F:α->β->Prop}:∀{l:List α} {m:List β} {i:Nat},Paired F l m->i < l.length->F (l.getD i d) (m.getD i e):=by
 intro l m i r
 induction r generalizing i with
 | nil=>intro h;exact absurd h (QbU _)
 | cons a t ih=>
  intro h;cases i with
  | zero=>exact a
  | succ i=>exact ih (Nat.lt_of_succ_lt_succ h)
section
variable {prog:Program} {w:World} {A:Around} {s:Shared}
theorem DA {fin:Bool} {C:Bool->Shared->Prop} (hC:C fin s):∀(l:YE),(∀y∈l,∃a t,y=Value.int a t)->∀i,PySem.W.KatLex prog w A true fin C (l.zip l) i s
 | [],_,_=>hC
 | y::r,h,i=>by
  obtain⟨a,t,rfl⟩:=h y (QaW ..);rw[List.zip_cons_cons];refine kat_cons (wpAny_eqBool_int ?_);rw[show (a == a)=true from beq_self_eq_true a]
  exact PySem.W.kat_yes (DA hC r (λy hy=>h y (QaJ _ hy)) (i+1))
end
end L2
namespace PySem
open Sem (wp)
open AutoSeq1 (wpAny_loadPart')
section
variable {prog:Program} {w:World} {A:Around} {E:YA} {s:Shared}
theorem Y6 {e it l:Addr} {i:Nat} {j:Int} {items:Array Value} {old:Value} {Q:Option Value->Shared->Prop} (hh:A.handled=none) (he:IsEnum s.heap e it j old) (hit:s.heap.IsListIter it l i) (hl:s.heap.IsList l items) (hx:items[i]?=none)
  (hQ:∀h',Heap.ExtBut it s.heap h'->Q none { s with heap:=h' }):wpAny (model prog w) A (pyNext (.ref e)) Q E s:=by
 have hT:s.TypeIs (.ref e) "enumerate":=⟨_,he,rq⟩;unfold pyNext;refine QcC (Qck (Qat (name:=Str.ofString "__next__") hT F.slot_enumerate_next (QbC F.slot_enumerate_next hT F.entry_enumerate_next ?_ (F.args_enumerate_next_1 _))));show wpAny _ _ (field (.ref e) 2 >>= _) _ _ _;refine QcC (Qcy he rfl (x:=.ref it) rfl (QcC (wpAny_nextOf_list_end hh hit hl hx λh' x he' hx'=>?_)));obtain⟨o,ho,hc⟩:=hx';exact QcC (wpAny_isInstance (T:="StopIteration") (b:=true) ⟨o,ho,hc⟩ isSubtype_stop (QcD (hQ _ he')))
end
end PySem
namespace L2
open PySem PySem.Spec PyProof.Rows
def Tt (K:YD) (a:Addr) (lo:Nat):It:=
 ⟨λi H=>∃xs x,SqL K H a xs/\xs[i]?=some x,λi H v H'=>∃p x,H p=none/\v=.ref p/\H'=upd H p (.tup [.int ((lo+i:Nat):Int),x])/\∀xs,SqL K H a xs->xs[i]?=some x,λi H=>∃xs,SqL K H a xs/\xs.length<=i⟩
theorem kW {P:Program} {w:World} {K:YD} {elts:YJ} {k:Nat} {pos:Pos} (a e it:Addr) (lo:Nat) (nei:e≠it):Turn P w K (.Tuple elts k pos) (Tt K a lo) [e,it] e (λi h=>(∃old,IsEnum h e it ((lo+i:Nat):Int) old)/\h.IsListIter it a i) where
 mem:=by simp
 obj:=λi h st b hb=>by
  obtain⟨⟨old,he⟩,o,ho,hc,hd⟩:=st;rcases Qcd.mp hb with rfl | hb
  ·exact⟨_,he,λv z=>by cases (show Data.fields _=Data.cell v from z)⟩
  ·have:b=it:=by simpa using hb
   subst this;exact⟨o,ho,λv z=>by rw[hd] at z;cases z⟩
 keep:=λi h h' st k=>by
  obtain⟨⟨old,he⟩,hi⟩:=st;exact⟨⟨old,k e (by simp) _ he⟩,hi.at λo q=>k it (by simp) o q⟩
 item:=by
  intro X hP hw hK hc i jb s U H E I hf st hg;subst hP hw hK;obtain⟨xs,x,hq,hx⟩:=hg;obtain⟨its,rv,p,hz⟩:=I.list hq;obtain⟨u,hu,ru⟩:=rv.get hx;obtain⟨⟨old,he⟩,hit⟩:=st;have hts:s.heap.IsList a its.toArray:=p.isList;have ane:a≠e:=λz=>by
   obtain⟨o,ho,hcl,_⟩:=hts;rw[z,he] at ho;cases ho;injection hcl with q;exact absurd q (by decide)
  have ani:a≠it:=λz=>by
   obtain⟨o,ho,hcl,_⟩:=hts;obtain⟨o',ho',hcl',_⟩:=hit;rw[z,ho'] at ho;cases ho;rw[hcl'] at hcl;injection hcl with q;exact absurd q (by decide)
  have hlt:i < its.toArray.size:=by
   have:=(Qai.mp hu).1;simpa using this
  have D:=(Draws.list (prog:=X.prog) (w:=X.w) (A:=X.A.in1) (I.ok.hd hc) it a ani its.toArray).from lo;refine wpAny_pyNext_enum_itemD D he ⟨i,rq,Qcs hlt,hit,hts⟩ (by omega) nei (by simp[nei,ane.symm]) λy h1 tk hP ho hst hT hsz hk=>?_;obtain⟨i',ei,hy⟩:=hP;have:i'=i:=by omega
  subst this;have ey:y=u:=by
   have h2:its.toArray[i']?=some u:=by simpa using hu
   rw[h2] at hy;exact (QbN hy).symm
  subst ey;refine⟨_,rq,wpAny_letOwnedTupleGo_enum ho λh2 he2 hs2=>?_⟩;have hlt2:∅≠e:=Qcq (Qcm he);have hT2:h2.get? ∅=some { cls:=.type "tuple",data:=.seq #[.int ((lo+i':Nat):Int) tk,y] }:=(hs2.2 _ hlt2).trans hT;have new:Bx X.prog X.w (upd H ∅ (.tup [.int ((lo+i':Nat):Int),x])) h2 ∅ (.tup [.int ((lo+i':Nat):Int),x]):=
   ⟨by show 2<=sizeLine;decide,[.int ((lo+i':Nat):Int) tk,y],.cons ⟨tk,rq⟩ (.cons ru .nil),_,hT2,rq,0,rq⟩
  have I1:=I.O9 (h':=h2) (t':=tk+1) (Qcv _) (λb q hb z=>(hs2.2 b (λw=>hb (by simp[w]))).trans (hk b q (λw=>hb (by simp[w])) (λw=>hb (by simp[w])) z)) hf new;refine⟨.ref ∅,_,I1,rq,⟨∅,x,I.hok.fresh (Qcv _),rq,rq,λys hy'=>by rw[I.dH hy' hq];exact hx⟩,⟨⟨y,?_⟩,?_⟩,λb hb=>?_⟩
  ·have:=he2;rw[show ((lo+(i'+1):Nat):Int)=((lo+i':Nat):Int)+1 by omega];exact this
  ·obtain⟨i2,e2,_,st2,_⟩:=hst;have:i2=i'+1:=by omega
   subst this;exact st2.at λo q=>(hs2.2 it (Ne.symm nei)).trans q
  ·have hb':b < ∅:=by
    rcases Qcd.mp hb with rfl | hb
    ·exact Qcm he
    ·have:b=it:=by simpa using hb
     subst this;obtain⟨o,ho',_⟩:=hit;exact Qcm ho'
   rw[Am (Qcn hb')];exact (hf b hb).1
 done:=by
  intro X hP hw hK hc i jb s U H E I hf st hg;subst hP hw hK;obtain⟨xs,hq,hx⟩:=hg;obtain⟨its,rv,p,hz⟩:=I.list hq;obtain⟨⟨old,he⟩,hit⟩:=st;have hl:=rv.length;exact Y6 (I.ok.hd hc) he hit p.isList (by simp;omega) λh' eb=>⟨rq,I.N5 (t':=s.toks) (λb o hb q=>eb b o (λz=>hb (by simp[z])) q) hf⟩
 self:=λ_ _ _ _ _ st h=>let ⟨⟨_,he⟩,_⟩:=st;wpAny_pyIter_enum he h
section
variable {X:Cx}
theorem yr {jb:YC} {U : St} {H:Hp} {s:Shared} {R:It->Hp->Prop} {E:YA} {elts:YJ} {k:Nat} {pos:Pos} {a:Addr} {lo:Nat} {tk:Nat} (I:H^^^s) (q:R (Tt X.K a lo) H) :
  ‹X› (pyIter (.ref (∅+1))) (PIE X jb U (.Tuple elts k pos) R) E
   { s with heap:=(s.heap.push { cls:=.type "list_iterator",data:=.fields #[.ref a,.int 0 0] }).push { cls:=.type "enumerate",data:=.fields #[.none,.bool false,.ref ∅,rawInt (lo:Int),.none,.none] },toks:=tk }:=by
 have hz:(s.heap.push { cls:=.type "list_iterator",data:=.fields #[.ref a,.int 0 0] }).objs.size=∅+1:=QbY ..;have he:IsEnum ((s.heap.push { cls:=.type "list_iterator",data:=.fields #[.ref a,.int 0 0] }).push { cls:=.type "enumerate",data:=.fields #[.none,.bool false,.ref ∅,rawInt (lo:Int),.none,.none] }) (∅+1) ∅ (lo:Int) .none:=by
  have:=QaN (s.heap.push { cls:=.type "list_iterator",data:=.fields #[.ref a,.int 0 0] }) (o:={ cls:=.type "enumerate",data:=.fields #[.none,.bool false,.ref ∅,rawInt (lo:Int),.none,.none] }) rfl;rw[hz] at this;exact this
 refine wpAny_pyIter_enum he ⟨∅+1,[∅+1,∅],_,_,H,rq,I.kept (t':=tk) λb o e=>Qay _ (Qay _ e),kW a (∅+1) ∅ lo (Nat.succ_ne_self _),⟨⟨.none,he⟩,⟨_,Qay _ (QaN _ rfl),rq,rq⟩⟩,λb hb=>?_,q⟩;have hb':∅<=b:=by
  simp only[Qcd,QbB,QcG] at hb;rcases hb with rfl | rfl
  ·exact QcA _
  ·exact Qcv _
 exact I.Ro hb' (I.hok.fresh hb')
end
section
variable {X:Cx}
def DO (K:YD) (lo:Nat) (tl:TE):TI:=fun U H R=>tl U H λx H1=>∃a,x=.ref a/\(∃xs,SqL K H1 a xs)/\R (Tt K a lo) H1
theorem iJ {jb:YC} {U : St} {H:Hp} {s:Shared} {R:It->Hp->Prop} {elts:YJ} {k:Nat} {pos:Pos} {a:Addr} {xs:YG} (I:H^^^s) (hq:SqL X.K H a xs) (q:R (Tt X.K a 0) H) :
  ‹X› (call (.type "enumerate") [.ref a]) (λv s1=>‹X› (pyIter v) (PIE X jb U (.Tuple elts k pos) R) X.xe s1) X.xe s:=by
 obtain⟨its,rv,p,hz⟩:=I.list hq;obtain⟨⟨c,dct,dt,sl⟩,hl,hc,n,hd⟩:=p.isList;replace hc:c=.type "list":=hc;replace hd:dt=.seq its.toArray n:=hd;subst hc hd;refine callType_new F.called_enumerate (by decide) (F.typeCall_enumerate_1 _) (F.newCall_enumerate_1 _) (λobj=>F.args_object_init_2 obj _) F.entry_enumerate_new (meets_enumerate_newL a its.toArray n dct sl) ⟨hl,?_⟩;have hz:(s.heap.push { cls:=.type "list_iterator",data:=.fields #[.ref a,.int 0 0] }).objs.size=∅+1:=QbY ..;show _/\_;refine⟨⟨_,QaN _ rfl,rq⟩,?_⟩;rw[hz];exact yr (lo:=0) (tk:=s.toks) I q
end
section
variable {X:Cx}
theorem pW {x:Expr} {tx:TE} {p pos tp:Pos} {elts:YJ} {k:Nat} (hg:Gl X "enumerate") (hm:X.mg "enumerate"=none) (hl:PE X x tx) (hs:starEach [x] X.env=[(false,eval x X.env)]:=by rfl):PI X (.Tuple elts k tp) (.Call (.Name "enumerate" p) [x] [] pos) (DO X.K 0 tx):=by
 intros R I h;refine Call_ (M8 I hg hm boot_enumerate (Qae (thn ((Aa hl Ac (by rw[hs];rfl)) pos jb s U H (λvs H1=>match vs with | [v]=>∃a,v=.ref a/\(∃xs,SqL X.K H1 a xs)/\R (Tt X.K a 0) H1 | _=>False) I h) λus s1 ⟨vs,H1,I1,r1,q1⟩=>?_) hs rfl))
 cases r1 with
 | nil=>exact False.elim q1
 | cons r rr=>
  cases rr with
  | nil=>
   obtain⟨a,e,⟨xs,hq⟩,q⟩:=q1;subst e;cases r;exact iJ I1 hq q
  | cons _ _=>exact False.elim q1
theorem rG {K:YD} {a:Addr} {lo:Nat} {xs:YG} {g:TG} {tb:TS} {D:Ends} {U : St} {H:Hp} (Pv:YN) (h0:Pv 0 U H) (hl:∀i U H',i<=xs.length->Pv i U H'->SqL K H' a xs)
  (hs:∀i x p U H',xs[i]?=some x->Pv i U H'->H' p=none->g (.ref p) U (upd H' p (.tup [.int ((lo+i:Nat):Int),x])) fun σ2 H2=>tb { D with nx:=Pv (i+1),ct:=Pv (i+1),bk:=D.nx } σ2 H2) (hd:∀ U H',Pv xs.length U H'->D.nx U H') :
  ∃W:Nat->YN,(∃m,W 0 m U H)/\∀i m U H,W i m U H ->
   ((Tt K a lo).stop i H/\D.nx U H)\/((Tt K a lo).go i H/\∃N:YO,(∀ σ' H',N σ' H'->∃m',m' < m/\W (i+1) m' σ' H')/\∀x H',(Tt K a lo).yld i H x H'->g x U H' fun σ2 H2=>tb { D with nx:=N,ct:=N,bk:=D.nx } σ2 H2):=by
 refine⟨λi m U H=>m=xs.length - i/\i<=xs.length/\Pv i U H,⟨xs.length,by simp,Qcw _,h0⟩,?_⟩;rintro i m U H ⟨rfl,hi,p⟩;have q:=hl i U H hi p;by_cases hlt:i < xs.length
 ·refine .inr ⟨⟨xs,xs[i],q,by simp[hlt]⟩,Pv (i+1),fun σ3 H3 p'=>⟨xs.length - (i+1),by omega,rq,hlt,p'⟩,λv H2 y=>?_⟩;obtain⟨pa,x,hn,rfl,rfl,hx⟩:=y;exact hs i x pa U _ (hx xs q) p hn
 ·have e:i=xs.length:=by omega
  subst e;exact .inl ⟨⟨xs,q,Qcv _⟩,hd U H p⟩
end
theorem vA {X:Cx} {N':YF} {src:List (Option Nat)} {sc:Scope} {kx vx tg iter:Expr} {ifs:YJ} {pos spos px:Pos} {wi:TI} {g:TG} {tt:TT} {tk tv:TE} {i:Nat} {x:Str} (hN:X.N.Nodup) (hi0:X.N[i]?=some x) (hx:Loc X.env.scope x) (hc:X.calm=true) (S:Bk X N' src sc)
  (hi:PI X tg iter wi) (hg:∀s3 H3 fp pn,PG (cxC X N' sc s3 H3 fp pn) tg g) (ht:∀s3 H3 fp pn,PF (cxC X N' sc s3 H3 fp pn) ifs tt) (hk:∀s3 H3 fp pn,PE (cxC X N' sc s3 H3 fp pn) kx tk) (hv:∀s3 H3 fp pn,PE (cxC X N' sc s3 H3 fp pn) vx tv)
  (hsw:swapsWith (.DictComp kx vx [⟨tg,iter,ifs,0⟩] sc pos) (some (.Name x px)) spos.line X.env=pure true:=by rfl) (hs:∀x,foldedSetIterable iter X.env x=pure x:=by intro _;rfl)
  (hf:X.fn x=true\/X.env.scope.names.lookup x=some .local:=by first | exact .inl rfl | exact .inr rfl | assumption) :
  PS X (.Assign [.Name x px] (.DictComp kx vx [⟨tg,iter,ifs,0⟩] sc pos) spos) (aY (aX wi src g tt tk tv) (FN i)):=by
 intros D I h;rw[exec_Assign_Name_used _ _ _ _ hsw];refine QcC (Qcj (QcC ?_));show wpAny _ X.A (do let _ <-comprehension (.DictComp kx vx [⟨tg,iter,ifs,0⟩] sc pos) sc X.env _ newDict false (eval iter X.env) (some (assign (.Name x px) X.env))) _ _ s
 refine QcC (thn (Xk (R:=λ_ s'=>SP X jb D .next s') hc S hi hg ht hk hv hs I h λs3 H3 fp σ4 H4 s5 l I3 f3 J5 q=>?_) λ_ s' hq=>QcD (QcD hq));obtain⟨m,⟨oC,es,ep,hoC,r⟩,_⟩:=J5.loc;have I6:Inv X jb U H4 { s5 with heap:=s5.heap }:=Tj I3 f3 J5 (Heap.SameBut.refl _ _);have hCn:H4 s3.heap.objs.size=none:=J5.free;have neL:s3.heap.objs.size≠X.env.locals:=Qcq I3.lt;have wC:∀v,oC.data≠.cell v:=λv z=>by rw[r.1] at z;cases z
 have I7:Inv X (jb++[(s3.heap.objs.size,oC)]) U H4 s5:=I6.Ua λp hp=>(QbI.mp hp).elim (λz=>I6.pin p (QaD _ z)) λz=>by
  cases Qbc.mp z;exact⟨hoC,hCn,neL,I3.wz (Qcv _),wC⟩
 show wpAny _ X.A (assign (.Name x px) X.env (.ref l)) _ _ s5;refine wpAny_assign_Name (Lb (v:=.ref l) I7 hN hi0 hx rfl (λs6 I8=>?_) hf);have k8:=(I8.pin (s3.heap.objs.size,oC) (QaD _ (QaD _ (Qbc.mpr rfl)))).1;refine⟨m,⟨oC,es,ep,k8,r⟩,λh' sb=>⟨_,H4,?_,q⟩⟩;have I9:=I8.IW;refine I9.turned (t':=s6.toks) (λb o hb e=>sb.extBut b o hb e) hCn neL (.inr I3.sz) (λy c e z=>?_) (λp hp z=>?_)
 ·obtain⟨v,o,ho,_⟩:=I3.cell y c e;exact absurd (Qcm ho) (by rw[z];exact Qcg _)
 ·have:=(I3.pin p hp).1;exact absurd (Qcm this) (by rw[z];exact Qcg _)
end L2
namespace L2
open PySem
theorem Cc {a b:Expr} {op:Operator} {p:Pos} {es:YJ} {env:Env}:starEach (.BinOp a op b p::es) env=(false,eval (.BinOp a op b p) env)::starEach es env:=by rfl
theorem Qx {x:Str} {p:Pos} {es:YJ} {env:Env}:starEach (.Name x p::es) env=(false,eval (.Name x p) env)::starEach es env:=by rfl
theorem B9 {a b:Expr} {p:Pos} {es:YJ} {env:Env}:starEach (.Subscript a b p::es) env=(false,eval (.Subscript a b p) env)::starEach es env:=by rfl
end L2
namespace L2
open PySem PySem.Spec PyProof.Rows
def oK (K:YD) (a b:Addr):It:=
  ⟨λi H=>∃xs ys x y,H a=some (.tup xs)/\H b=some (.tup ys)/\xs[i]?=some x/\ys[i]?=some y,
   λi H v H'=>∃p x y,H p=none/\v=.ref p/\H'=upd H p (.tup [x,y])/\(∀xs,H a=some (.tup xs)->xs[i]?=some x)/\∀ys,H b=some (.tup ys)->ys[i]?=some y,
   λi H=>∃xs ys,H a=some (.tup xs)/\H b=some (.tup ys)/\(xs.length<=i\/ys.length<=i)⟩
theorem kE {P:Program} {w:World} {K:YD} {elts:YJ} {k:Nat} {pos:Pos} (a b z TI TO i1 i2:Addr) (nd:[z,TI,TO,i1,i2].Nodup) :
  Turn P w K (.Tuple elts k pos) (oK K a b) [z,TI,TO,i1,i2] z (λi h=>(∃f1,ZZ.IsZ h z TI TO .none f1)/\ZZ.DK h TI [.ref i1,.ref i2]/\(∃olds:YE,ZZ.DK h TO olds/\olds.length=2)/\h.IsTupleIter i1 a i/\h.IsTupleIter i2 b i) where
 mem:=by simp
 obj:=λi h st c hc=>by
  obtain⟨⟨f1,hz⟩,hTI,⟨olds,hTO,_⟩,⟨o1,e1,_,d1⟩,o2,e2,_,d2⟩:=st;simp only[Qcd,QbB,QcG] at hc;rcases hc with rfl | rfl | rfl | rfl | rfl
  ·exact⟨_,hz,λv q=>by cases (show Data.fields _=Data.cell v from q)⟩
  ·exact⟨_,hTI,λv q=>by cases (show Data.seq _ _=Data.cell v from q)⟩
  ·exact⟨_,hTO,λv q=>by cases (show Data.seq _ _=Data.cell v from q)⟩
  ·exact⟨o1,e1,λv q=>by rw[d1] at q;cases q⟩
  ·exact⟨o2,e2,λv q=>by rw[d2] at q;cases q⟩
 keep:=λi h h' st k=>by
  obtain⟨⟨f1,hz⟩,hTI,⟨olds,hTO,l⟩,h1,h2⟩:=st;exact⟨⟨f1,k z (by simp) _ hz⟩,k TI (by simp) _ hTI,⟨olds,k TO (by simp) _ hTO,l⟩,h1.at λo e=>k i1 (by simp) o e,h2.at λo e=>k i2 (by simp) o e⟩
 item:=by
  intro X hP hw hK hc i jb s U H E I hf st hg;subst hP hw hK;obtain⟨xs,ys,x,y,hq1,hq2,hx,hy⟩:=hg;obtain⟨us,ru,p1,z1⟩:=I.tuple (SqT.of hq1);obtain⟨ws,rw',p2,z2⟩:=I.tuple (SqT.of hq2);obtain⟨u,hu,ru'⟩:=ru.get hx;obtain⟨v,hv,rv'⟩:=rw'.get hy;obtain⟨⟨f1,hz⟩,hTI,⟨olds,hTO,lo⟩,hi1,hi2⟩:=st;simp only[QbO,Qcd,QbB,QcG,not_or,QbZ,not_false_eq_true,and_true] at nd;obtain⟨⟨n1,n2,n3,n4⟩,⟨n5,n6,n7⟩,⟨n8,n9⟩,n10⟩:=nd;have D:ZZ.Apart z TI TO [⟨i1,a,us.toArray⟩,⟨i2,b,ws.toArray⟩]:=by
   obtain⟨oa,ea,ca,_⟩:=id p1;obtain⟨ob,eb,cb,_⟩:=id p2;obtain⟨o1,e1,c1,_⟩:=id hi1;obtain⟨o2,e2,c2,_⟩:=id hi2;have aTO:a≠TO:=λq=>by
    have:=(hf TO (by simp)).1;rw[<-q,hq1] at this;cases this
   have bTO:b≠TO:=λq=>by
    have:=(hf TO (by simp)).1;rw[<-q,hq2] at this;cases this
   have t1:Value.type "tuple"≠Value.type "zip":=λq=>absurd (by injection q) (show ¬("tuple"="zip") by decide);have t2:Value.type "tuple"≠Value.type "tuple_iterator":=λq=>absurd (by injection q) (show ¬("tuple"="tuple_iterator") by decide);refine⟨Ne.symm n1,Ne.symm n2,n5,λq hq=>?_,λq hq=>?_,λq hq r hr=>?_,?_⟩
   ·simp only[Qcd,QbB,QcG] at hq;rcases hq with rfl | rfl
    ·exact⟨Ne.symm n3,Ne.symm n6,Ne.symm n8⟩
    ·exact⟨Ne.symm n4,Ne.symm n7,Ne.symm n9⟩
   ·simp only[Qcd,QbB,QcG] at hq;rcases hq with rfl | rfl
    ·exact⟨Ia ea hz (by rw[ca];exact t1),aTO⟩
    ·exact⟨Ia eb hz (by rw[cb];exact t1),bTO⟩
   ·simp only[Qcd,QbB,QcG] at hq hr;rcases hq with rfl | rfl <;> rcases hr with rfl | rfl
    ·exact Ia ea e1 (by rw[ca,c1];exact t2)
    ·exact Ia ea e2 (by rw[ca,c2];exact t2)
    ·exact Ia eb e1 (by rw[cb,c1];exact t2)
    ·exact Ia eb e2 (by rw[cb,c2];exact t2)
   ·simp[n10]
  have hat:∀q∈([⟨i1,a,us.toArray⟩,⟨i2,b,ws.toArray⟩]:List ZZ.Src),ZZ.SrcAt s.heap q i:=λq hq=>by
   simp only[Qcd,QbB,QcG] at hq;rcases hq with rfl | rfl
   ·exact .inr ⟨hi1,p1⟩
   ·exact .inr ⟨hi2,p2⟩
  refine ZZ.lX hz (Qi:=λr s'=>∃h',r=.ref ∅/\s'={ s with heap:=h' }/\ZZ.IsZ h' z TI TO (rawInt ∅) (.bool false)/\ZZ.DK h' TI [.ref i1,.ref i2]/\ZZ.DK h' TO [u,v]/\(∀q∈([⟨i1,a,us.toArray⟩,⟨i2,b,ws.toArray⟩]:List ZZ.Src),ZZ.SrcAt h' q (i+1))/\ZZ.DK h' ∅ [u,v]/\ZZ.Rest z TO [⟨i1,a,us.toArray⟩,⟨i2,b,ws.toArray⟩] s.heap h')
   (ZZ.ZW (xs:=[u,v]) D hz hTI hTO hat (by simp) rfl lo (λj q hj=>?_) (by show 2<=100;decide) λh' a1 a2 a3 a4 a5 a6 a7=>⟨h',rq,rq,a1,a2,a3,a4,a5,a7⟩) λr s' hQ=>?_
  ·match j,hj with
   | 0,hj=>cases hj;exact⟨u,rfl,by simpa using hu⟩
   | 1,hj=>cases hj;exact⟨v,rfl,by simpa using hv⟩
  obtain⟨h',rfl,rfl,a1,a2,a3,a4,a5,a7⟩:=hQ;refine⟨_,rq,ZZ.qI (s:={ s with heap:=h' }) a1 λh2 hz2 sb=>?_⟩;have hlt2:∅≠z:=Qcq (Qcm hz);have hT2:ZZ.DK h2 ∅ [u,v]:=(sb.2 _ hlt2).trans a5;have new:Bx X.prog X.w (upd H ∅ (.tup [x,y])) h2 ∅ (.tup [x,y]):=
   ⟨by show 2<=sizeLine;decide,[u,v],.cons ru' (.cons rv' .nil),_,hT2,rq,0,rq⟩
  have I1:=I.O9 (h':=h2) (t':=s.toks) (Qcv _) (λc q hc e=>(sb.2 c (λw=>hc (by simp[w]))).trans (a7 c q (λw=>hc (by simp[w])) (λw=>hc (by simp[w])) (λw=>hc (by simp only[Qce,Qcu,Qcd,QbB,QcG] at w;rcases w with w | w <;> simp[w])) e)) hf new;have zJ:∀{it l:Addr} {items:Array Value},l≠z->l≠TO->l≠i1->l≠i2->it≠z->s.heap.IsTuple l items->ZZ.SrcAt h' ⟨it,l,items⟩ (i+1)->h2.IsTupleIter it l (i+1):=λm1 m2 m3 m4 m5 hl q=>by
   rcases q with⟨_,q2⟩|⟨q1,_⟩
   ·obtain⟨o,e,r⟩:=hl;exact (Lk q2 ⟨o,a7 _ o m1 m2 (by simp[m3,m4]) e,r⟩).elim
   ·exact q1.at λo e=>(sb.2 _ m5).trans e
  refine⟨.ref ∅,_,I1,rq,⟨∅,x,y,I.hok.fresh (Qcv _),rq,rq,λys' hy'=>by (rw[hq1] at hy';cases hy';exact hx),λys' hy'=>by (rw[hq2] at hy';cases hy';exact hy)⟩,⟨⟨_,hz2⟩,(sb.2 _ (Ne.symm n1)).trans a2,⟨[u,v],(sb.2 _ (Ne.symm n2)).trans a3,rq⟩,?_,?_⟩,λc hc=>?_⟩
  ·exact zJ (D.a ⟨i1,a,us.toArray⟩ (by simp)).1 (D.a ⟨i1,a,us.toArray⟩ (by simp)).2 (D.ai ⟨i1,a,us.toArray⟩ (by simp) ⟨i1,a,us.toArray⟩ (by simp)) (D.ai ⟨i1,a,us.toArray⟩ (by simp) ⟨i2,b,ws.toArray⟩ (by simp)) (Ne.symm n3) p1 (a4 _ (by simp))
  ·exact zJ (D.a ⟨i2,b,ws.toArray⟩ (by simp)).1 (D.a ⟨i2,b,ws.toArray⟩ (by simp)).2 (D.ai ⟨i2,b,ws.toArray⟩ (by simp) ⟨i1,a,us.toArray⟩ (by simp)) (D.ai ⟨i2,b,ws.toArray⟩ (by simp) ⟨i2,b,ws.toArray⟩ (by simp)) (Ne.symm n4) p2 (a4 _ (by simp))
  ·have hlc:c≠∅:=by
    have hmem:∃o,s.heap.get? c=some o:=by
     simp only[Qcd,QbB,QcG] at hc;rcases hc with rfl | rfl | rfl | rfl | rfl
     ·exact⟨_,hz⟩
     ·exact⟨_,hTI⟩
     ·exact⟨_,hTO⟩
     ·obtain⟨o,e,_⟩:=hi1;exact⟨o,e⟩
     ·obtain⟨o,e,_⟩:=hi2;exact⟨o,e⟩
    obtain⟨o,e⟩:=hmem;exact Qcn (Qcm e)
   rw[Am hlc];exact (hf c hc).1
 done:=by
  intro X hP hw hK hc i jb s U H E I hf st hg;subst hP hw hK;obtain⟨xs,ys,hq1,hq2,hend⟩:=hg;obtain⟨us,ru,p1,z1⟩:=I.tuple (SqT.of hq1);obtain⟨ws,rw',p2,z2⟩:=I.tuple (SqT.of hq2);obtain⟨⟨f1,hz⟩,hTI,⟨olds,hTO,lo⟩,hi1,hi2⟩:=st;simp only[QbO,Qcd,QbB,QcG,not_or,QbZ,not_false_eq_true,and_true] at nd;obtain⟨⟨n1,n2,n3,n4⟩,⟨n5,n6,n7⟩,⟨n8,n9⟩,n10⟩:=nd;have D:ZZ.Apart z TI TO [⟨i1,a,us.toArray⟩,⟨i2,b,ws.toArray⟩]:=by
   obtain⟨oa,ea,ca,_⟩:=id p1;obtain⟨ob,eb,cb,_⟩:=id p2;obtain⟨o1,e1,c1,_⟩:=id hi1;obtain⟨o2,e2,c2,_⟩:=id hi2;have aTO:a≠TO:=λq=>by
    have:=(hf TO (by simp)).1;rw[<-q,hq1] at this;cases this
   have bTO:b≠TO:=λq=>by
    have:=(hf TO (by simp)).1;rw[<-q,hq2] at this;cases this
   have t1:Value.type "tuple"≠Value.type "zip":=λq=>absurd (by injection q) (show ¬("tuple"="zip") by decide);have t2:Value.type "tuple"≠Value.type "tuple_iterator":=λq=>absurd (by injection q) (show ¬("tuple"="tuple_iterator") by decide);refine⟨Ne.symm n1,Ne.symm n2,n5,λq hq=>?_,λq hq=>?_,λq hq r hr=>?_,?_⟩
   ·simp only[Qcd,QbB,QcG] at hq;rcases hq with rfl | rfl
    ·exact⟨Ne.symm n3,Ne.symm n6,Ne.symm n8⟩
    ·exact⟨Ne.symm n4,Ne.symm n7,Ne.symm n9⟩
   ·simp only[Qcd,QbB,QcG] at hq;rcases hq with rfl | rfl
    ·exact⟨Ia ea hz (by rw[ca];exact t1),aTO⟩
    ·exact⟨Ia eb hz (by rw[cb];exact t1),bTO⟩
   ·simp only[Qcd,QbB,QcG] at hq hr;rcases hq with rfl | rfl <;> rcases hr with rfl | rfl
    ·exact Ia ea e1 (by rw[ca,c1];exact t2)
    ·exact Ia ea e2 (by rw[ca,c2];exact t2)
    ·exact Ia eb e1 (by rw[cb,c1];exact t2)
    ·exact Ia eb e2 (by rw[cb,c2];exact t2)
   ·simp[n10]
  have hat:∀q∈([⟨i1,a,us.toArray⟩,⟨i2,b,ws.toArray⟩]:List ZZ.Src),ZZ.SrcAt s.heap q i:=λq hq=>by
   simp only[Qcd,QbB,QcG] at hq;rcases hq with rfl | rfl
   ·exact .inr ⟨hi1,p1⟩
   ·exact .inr ⟨hi2,p2⟩
  have l1:=ru.length;have l2:=rw'.length;refine ZZ.Yo hz (R:=λh'=>ZZ.Rest z TO [⟨i1,a,us.toArray⟩,⟨i2,b,ws.toArray⟩] s.heap h') (ZZ.aN (I.ok.hd hc) D hz hTI hTO hat (by simp) lo (by show 2<=100;decide) ?_ λh' e r st=>⟨h',e,rfl,rfl,r,st⟩) λh' r=>⟨rfl,I.N5 (h':=h') (t':=s.toks) (λc q hc e=>r c q (λw=>hc (by simp[w])) (λw=>hc (by simp[w])) (λw=>hc (by simp only[Qce,Qcu,Qcd,QbB,QcG] at w;rcases w with w | w <;> simp[w])) e) hf⟩;rcases hend with h | h
  ·exact⟨_,QaW ..,by simp;omega⟩
  ·exact⟨_,QaJ _ (QaW ..),by simp;omega⟩
 self:=λ_ _ _ _ _ st h=>ZZ.Wr st.1.choose_spec h
def DM (K:YD) (ta:TA):TI:=fun U H R=>ta U H λvs H1=>∃a b,vs=[.ref a,.ref b]/\(∃xs,H1 a=some (.tup xs))/\(∃ys,H1 b=some (.tup ys))/\R (oK K a b) H1
section
variable {X:Cx}
theorem vH {a b:Expr} {ta:TA} {p pos tp:Pos} {elts:YJ} {k:Nat} (hg:Gl X "zip") (hm:X.mg "zip"=none) (ha:PA X [a,b] ta)
  (hs:starEach [a,b] X.env=[(false,eval a X.env),(false,eval b X.env)]:=by rfl) (hs2:starEach [b] X.env=[(false,eval b X.env)]:=by rfl):PI X (.Tuple elts k tp) (.Call (.Name "zip" p) [a,b] [] pos) (DM X.K ta):=by
 intros R I h;refine Call_ (M8 I hg hm (u:=.type "zip") (by trivial) (Qae (thn (ha pos jb s U H _ I h) λus s1 ⟨vs,H1,I1,r1,q1⟩=>?_) (by rw[hs,hs2]) (by rw[hs2];rfl)));obtain⟨a,b,e,⟨xs,hx⟩,⟨ys,hy⟩,q⟩:=q1;subst e;cases r1 with
 | cons r rr=>
  cases rr with
  | cons r' rr=>
   cases rr;cases r;cases r';obtain⟨us,ru,k1,z1⟩:=I1.tuple (SqT.of hx);obtain⟨ws,rw',k2,z2⟩:=I1.tuple (SqT.of hy);refine ZZ.sJ (c1:="tuple_iterator") (c2:="tuple_iterator") (.inr ⟨rq,k1⟩) (.inr ⟨rq,k2⟩) λh' z TI TO i1 i2 f=>?_;refine ZZ.Wr (s:={ s1 with heap:=h' }) f.hz ?_;have nd:[z,TI,TO,i1,i2].Nodup:=by
    have a1:=f.ap.it ⟨i1,a,us.toArray⟩ (by simp);have a2:=f.ap.it ⟨i2,b,ws.toArray⟩ (by simp);have a3:i1≠i2:=by
     have:=f.ap.nd;simpa using this
    simp only[QbO,Qcd,QbB,QcG,not_or,QbZ,not_false_eq_true,and_true];exact⟨⟨Ne.symm f.ap.TIz,Ne.symm f.ap.TOz,Ne.symm a1.1,Ne.symm a2.1⟩,⟨f.ap.TITO,Ne.symm a1.2.1,Ne.symm a2.2.1⟩,⟨Ne.symm a1.2.2,Ne.symm a2.2.2⟩,a3⟩
   have at1:h'.IsTupleIter i1 a 0:=by
    rcases f.at_ ⟨i1,a,us.toArray⟩ (by simp) with⟨_,x2⟩|⟨x1,_⟩
    ·obtain⟨o,e,r⟩:=id k1;exact (Lk x2 ⟨o,f.keep _ o e,r⟩).elim
    ·exact x1
   have at2:h'.IsTupleIter i2 b 0:=by
    rcases f.at_ ⟨i2,b,ws.toArray⟩ (by simp) with⟨_,x2⟩|⟨x1,_⟩
    ·obtain⟨o,e,r⟩:=id k2;exact (Lk x2 ⟨o,f.keep _ o e,r⟩).elim
    ·exact x1
   refine⟨z,[z,TI,TO,i1,i2],_,_,H1,rq,I1.kept (t':=s1.toks) λc o e=>f.keep c o e,kE a b z TI TO i1 i2 nd,⟨⟨_,f.hz⟩,f.hTI,⟨_,f.hTO,rq⟩,at1,at2⟩,λc hc=>?_,q⟩;have hn:=f.new;have hcs:s1.heap.objs.size<=c:=by
    simp only[Qcd,QbB,QcG] at hc;rcases hc with rfl | rfl | rfl | rfl | rfl
    ·exact hn.1
    ·exact hn.2.1
    ·exact hn.2.2.1
    ·exact hn.2.2.2 ⟨c,a,us.toArray⟩ (by simp)
    ·exact hn.2.2.2 ⟨c,b,ws.toArray⟩ (by simp)
   exact I1.Ro hcs (I1.hok.fresh hcs)
end
theorem oh {K:YD} {a b l:Addr} {xs ys:YG} {g:TG} {tt:TT} {te:TE} {Q:VK} {σ0:St} {H0:Hp} (n:Nat) (hx:n<=xs.length) (hy:n<=ys.length) (hn:xs.length<=n\/ys.length<=n) (Pv:YN)
  (h0:Pv 0 σ0 H0) (hl:∀i U H',i<=n->Pv i U H'->H' a=some (.tup xs)/\H' b=some (.tup ys))
  (hs:∀i x y p U H',xs[i]?=some x->ys[i]?=some y->Pv i U H'->H' p=none->g (.ref p) U (upd H' p (.tup [x,y])) fun σ3 H3=>tt σ3 H3 λb H4=>if b=true then te σ3 H4 λy H5=>∃ys,H5 l=some (.lst ys)/\ys.length < sizeLine/\Pv (i+1) σ3 (upd H5 l (.lst (ys++[y]))) else Pv (i+1) σ3 H4)
  (hd:∀ U H',Pv n U H'->Q (.ref l) H'):Gp (oK K a b) g tt te Q σ0 H0 l:=by
 unfold Gp;refine⟨λi m U H'=>m=n - i/\i<=n/\Pv i U H',⟨n,by simp,Qcw _,h0⟩,?_⟩;rintro i m U H' ⟨rfl,hi,p⟩;obtain⟨q1,q2⟩:=hl i U H' hi p;by_cases hlt:i < n
 ·have hlt1:i < xs.length:=by omega
  have hlt2:i < ys.length:=by omega
  refine .inr ⟨⟨xs,ys,xs[i],ys[i],q1,q2,Qan hlt1,Qan hlt2⟩,Pv (i+1),fun σ3 H3 p'=>⟨n - (i+1),by omega,rq,hlt,p'⟩,λv H2 y=>?_⟩;obtain⟨pp,x',y',hp,rfl,rfl,e1,e2⟩:=y;exact hs i x' y' pp U _ (e1 xs q1) (e2 ys q2) p hp
 ·exact .inl ⟨⟨xs,ys,q1,q2,by omega⟩,by
   have:i=n:=by omega
   subst this;exact hd _ _ p⟩
section
variable {X:Cx}
def HQ (ta tb:TE):TE:=fun U H Q=>ta U H λx H1=>x=.non/\tb U H1 Q
theorem cM {a b:Expr} {rest:YJ} {pos:Pos} {ta tb:TE} (ha:PE X a ta) (hb:PE X (.BoolOp .Or (b::rest) pos) tb):PE X (.BoolOp .Or (a::b::rest) pos) (HQ ta tb):=by
 intros Q I h;refine BoolOp_or (thn (ha jb s U H _ I h) λv s1 zz=>?_);obtain⟨x,H1,I1,r1,e,q1⟩:=zz;subst e;cases r1;exact truthy_none (hb jb s1 U H1 Q I1 q1)
end
theorem nZ {X:Cx} {jb:YC} {U : St} {H:Hp} {s:Shared} {A:Around} {E:YA} {a b:Addr} {kvs:YL} {k:List Key} {v:V} {u r:Value} {Q:YH} (hu:A.units < cLine) (I:H^^^s) (e:H a=some (.dT kvs)) (eb:H b=some (.tup (k.map kV))) (l:kvs.length < sizeLine) (ry:RelV (.ref b) u) (rv:RelV v r)
  (h:∀s',Inv X jb U (upd H a (.dT (putK kvs k v))) s'->Q () s'):wpAny (model X.prog X.w) A (dictSet a u r) Q E s:=by
 cases (show u=Value.ref b from ry)
 obtain⟨z,hd,xs,rel,dd⟩:=zG I.hok e;have hz:xs.length<=sizeLine:=by rw[<-Qcc rel];exact z
 have hl:(putK kvs k v).length<=sizeLine:=by have:=Mq kvs k v;omega
 refine wpAny_dictSet_heap (hsz:=hz) hu (M9 I.hok eb) dd λh' dd' hs=>h _ ?_;obtain⟨q,es,ep,hq,h2,h3,h4,_,h5⟩:=dd';refine Uq I (by rw[e];exact True.intro) hs ⟨q,hq⟩ ⟨hl,hd,_,(rel.put k eb rv).keeps λc ys ec=>?_,q,es,ep,hq,h2,h3,h4,h5⟩;rw[Am (zc ec e (λz=>nomatch z))];exact ec
@[irreducible] def QM (J:It) (g:TG) (tt:TT) (tk tv:TE) (Q:VK) (σ0:St) (H0:Hp) (l:Addr):Prop:=∃W:Nat->YN,(∃m,W 0 m σ0 H0) /\
 ∀i m σ' H',W i m σ' H'->(J.stop i H'/\Q (.ref l) H')\/(J.go i H'/\∃N:YO,(∀ σ3 H3,N σ3 H3->∃m',m' < m/\W (i+1) m' σ3 H3)/\∀x H2,J.yld i H' x H2->g x σ' H2 fun σ3 H3=>tt σ3 H3 λb H4=>
  if b=true then tk σ3 H4 λy H5=>tv σ3 H5 λz H6=>∃(kvs:YL) (k:List Key) (b:Addr),H6 l=some (.dT kvs)/\y=.ref b/\H6 b=some (.tup (k.map kV))/\kvs.length < sizeLine/\N σ3 (upd H6 l (.dT (putK kvs k z))) else N σ3 H4)
def je (wi:TI) (src:List (Option Nat)) (g:TG) (tt:TT) (tk tv:TE):TE:=fun U H Q=>wi U H λJ H1=>∀l,H1 l=none->QM J g tt tk tv Q (KD src U) (upd H1 l (.dT [])) l
theorem iI {X:Cx} {N':YF} {src:List (Option Nat)} {sc:Scope} {kx vx tg iter:Expr} {ifs:YJ} {pos pos':Pos} {wi:TI} {g:TG} {tt:TT} {tk tv:TE} {use:Option (Value->Sem Unit)} {R:YA} (hu:X.A.units+1 < cLine) (hc:X.calm=true) (S:Bk X N' src sc)
  (hi:PI X tg iter wi) (hg:∀s3 H3 fp pn,PG (cxC X N' sc s3 H3 fp pn) tg g) (ht:∀s3 H3 fp pn,PF (cxC X N' sc s3 H3 fp pn) ifs tt) (hk:∀s3 H3 fp pn,PE (cxC X N' sc s3 H3 fp pn) kx tk) (hv:∀s3 H3 fp pn,PE (cxC X N' sc s3 H3 fp pn) vx tv)
  (hs:∀x,foldedSetIterable iter X.env x=pure x) {jb:YC} {s:Shared} {U : St} {H:Hp} {Q:VK} (I:H^^^s) (h:je wi src g tt tk tv U H Q)
  (fin:∀s3 H3 fp σ4 H4 s5 l,H3^^^s3->(∀b∈fp,Hh X jb H3 b)->Inv (cxC X N' sc s3 H3 fp (X.pn++jb)) [] σ4 H4 s5->Q (.ref l) H4 ->
   compPost (model X.prog X.w) X.A X.xe use R (.ref l) s3.heap.objs.size (.ok .next) s5) :
  ‹X› (comprehension (.DictComp kx vx [⟨tg,iter,ifs,0⟩] sc pos) sc X.env pos' newDict false (eval iter X.env) use) R X.xe s:=by
 refine wpAny_comprehension_free (use:=use) (cl:=FQ X.env sc.names []) rfl hs (Ru λp hp e=>I.ok.has p.1 (S.fv p hp e)) S.kind S.loc ?_;refine thn (hi jb s U H _ I h) λv s1 h1=>thn h1 λitv s2 h2=>?_;obtain⟨it,fp,tn,J,H2,rfl,I2,T,st2,f2,q⟩:=h2;have q':=q s2.heap.objs.size (I2.hok.fresh (Qcv _));unfold QM at q';obtain⟨W,⟨m0,w0⟩,turn⟩:=q';refine Qbr (wpAny_newFunctionEnv S.JH (by intro y hy;simp at hy) (λha hns hsb=>?_) S.kind);have I3:Inv X jb U (upd H2 s2.heap.objs.size (.dT [])) { s2 with heap:=s2.heap.push { cls:=.type "dict",data:=.dict #[] } }:=
  I2.laid (t':=s2.toks) (λb u e=>Qay _ e) (Qcv _) (fj s2.heap I2.big)
 have hfl:∀b∈fp,b < s2.heap.objs.size:=λb hb=>by
  obtain⟨o,e,_⟩:=T.obj 0 _ st2 b hb;exact Qcm e
 have f3:∀b∈fp,Hh X jb (upd H2 s2.heap.objs.size (.dT [])) b:=λb hb=>⟨by rw[Am (Qcn (hfl b hb))];exact (f2 b hb).1,(f2 b hb).2⟩;generalize hs3:({ s2 with heap:=s2.heap.push { cls:=.type "dict",data:=.dict #[] } }:Shared)=s3 at *;have hsz:s2.heap.objs.size < s3.heap.objs.size:=by rw[<-hs3];show s2.heap.objs.size < (s2.heap.push _).objs.size;rw[QbY];exact QbE _
 have kp:∀b o,s3.heap.get? b=some o->ha.get? b=some o:=λb o e=>hsb.extBut b o (Qcn (Qcm e)) (Qay _ e);have st3:tn 0 ha:=T.keep 0 _ _ st2 λb hb o e=>kp b o (by rw[<-hs3];exact Qay _ e);have I4:Inv (cxC X N' sc s3 (upd H2 s2.heap.objs.size (.dT [])) fp (X.pn++jb)) [] (KD src U) (upd H2 s2.heap.objs.size (.dT [])) { s3 with heap:=ha,toks:=s3.toks+([]:List (Str×Value)).length }:=
  VR S I3 f3 (λb hb=>Nat.lt_trans (hfl b hb) hsz) hns kp
 have loop:codeAny (model X.prog X.w) X.A (.compLoop (.DictComp kx vx [⟨tg,iter,ifs,0⟩] sc pos) 0 (.ref it) (.ref s2.heap.objs.size) (compEnvC sc (FQ X.env sc.names []) s3.heap.objs.size X.env))
   (compPost (model X.prog X.w) X.A X.xe use R (.ref s2.heap.objs.size) s3.heap.objs.size) { s3 with heap:=ha,toks:=s3.toks+([]:List (Str×Value)).length }:=by
  refine Xj (λn s'=>∃i σ' H',Inv (cxC X N' sc s3 (upd H2 s2.heap.objs.size (.dT [])) fp (X.pn++jb)) [] σ' H' s'/\tn i s'.heap/\(∀b∈fp,H' b=none)/\W i n σ' H') ?_ m0 ⟨0,_,_,I4,st3,λb hb=>(f3 b hb).1,w0⟩;rintro n s4 ⟨i,σ4,H4,J4,st4,fr4,w4⟩;have stat:∀{H':Hp},(∀b∈fp,H' b=none)->∀b∈fp,Hh (cxC X N' sc s3 (upd H2 s2.heap.objs.size (.dT [])) fp (X.pn++jb)) [] H' b:=λhn b hb=>
   ⟨hn b hb,(I4.ok.exf b hb).1,I4.ok.LC b hb,.inl hb,λx c e=>(I4.ok.exf b hb).2 x c e,λp hp=>(f3 b hb).2.2.2.2.2 p ((QbI.mp hp).elim id λz=>by cases z)⟩
  rcases turn i n σ4 H4 w4 with⟨stop,qn⟩|⟨go,N,hN,step⟩
  ·refine thn (T.done (cxC X N' sc s3 (upd H2 s2.heap.objs.size (.dT [])) fp (X.pn++jb)) rfl rfl rfl hc i [] s4 σ4 H4 _ J4 (stat fr4) st4 stop) λr s5 zz=>?_;obtain⟨hr,J5⟩:=zz;subst hr;exact fin s3 _ fp σ4 H4 s5 _ I3 f3 J5 qn
  ·refine thn (T.item (cxC X N' sc s3 (upd H2 s2.heap.objs.size (.dT [])) fp (X.pn++jb)) rfl rfl rfl hc i [] s4 σ4 H4 _ J4 (stat fr4) st4 go) λr s5 zz=>?_;obtain⟨u,hr,h5⟩:=zz;subst hr;refine thn h5 λ_ s6 zz=>?_;obtain⟨x,H6,J6,r6,y6,st6,fr6⟩:=zz;have J6':=J6.pinned (stat fr6) (T.obj _ _ st6);have back:∀{pl:YC} {σ7:St} {H7:Hp} {s7:Shared},Inv (cxC X N' sc s3 (upd H2 s2.heap.objs.size (.dT [])) fp (X.pn++jb)) ([]++Oq fp s6.heap) σ7 H7 s7->N σ7 H7 ->
     ∃m',m' < n/\∃i σ' H',Inv (cxC X N' sc s3 (upd H2 s2.heap.objs.size (.dT [])) fp (X.pn++jb)) [] σ' H' s7/\tn i s7.heap/\(∀b∈fp,H' b=none)/\W i m' σ' H':=λ{pl σ7 H7 s7} J7 w7=>by
    obtain⟨m',hm,w7⟩:=hN _ _ w7;have pinned:∀b∈fp,∀o,s6.heap.get? b=some o->s7.heap.get? b=some o/\H7 b=none:=λb hb o e=>by
     have:=J7.pin (b,o) (QaD _ (QaD _ (K3 hb e)));exact⟨this.1,this.2.1⟩
    refine⟨m',hm,i+1,σ7,H7,J7.IW,T.keep _ _ _ st6 λb hb o e=>(pinned b hb o e).1,λb hb=>?_,w7⟩;obtain⟨o,e,_⟩:=T.obj _ _ st6 b hb;exact (pinned b hb o e).2
   refine thn (hg s3 _ fp _ _ s6 σ4 H6 x u _ J6' r6 (step x H6 y6)) λ_ s7 zz=>?_;obtain⟨σ7,H7,J7,q7⟩:=zz;refine thn (ht s3 _ fp _ _ s7 σ7 H7 _ J7 q7) λok s8 zz=>?_;obtain⟨H8,J8,q8⟩:=zz;cases ok with
   | false=>
    rw[if_neg QaZ] at q8 ⊢;exact back (pl:=[]) J8 q8
   | true=>
    rw[if_pos rfl] at q8 ⊢;refine thn (hk s3 _ fp _ _ s8 σ7 H8 _ J8 q8) λy s9 zz=>?_;obtain⟨yv,H9,J9,r9,q9⟩:=zz;refine thn (hv s3 _ fp _ _ s9 σ7 H9 _ J9 q9) λz s10 zz=>?_;obtain⟨zv,H10,J10,r10,kvs,k,bb,hl,ey,eb,hz,q10⟩:=zz;subst ey;refine nZ (X:=cxC X N' sc s3 (upd H2 s2.heap.objs.size (.dT [])) fp (X.pn++jb)) (show X.A.units < cLine by omega) J10 hl eb hz r9 r10 λs11 J11=>?_;exact back (pl:=[]) J11 q10
 exact codeAny_compStart_dict loop (T.self X.A 0 _ _ _ st3 loop)
theorem Hj {X:Cx} {N':YF} {src:List (Option Nat)} {sc:Scope} {kx vx tg iter:Expr} {ifs:YJ} {pos:Pos} {wi:TI} {g:TG} {tt:TT} {tk tv:TE} (hu:X.A.units+1 < cLine) (hc:X.calm=true) (S:Bk X N' src sc)
  (hi:PI X tg iter wi) (hg:∀s3 H3 fp pn,PG (cxC X N' sc s3 H3 fp pn) tg g) (ht:∀s3 H3 fp pn,PF (cxC X N' sc s3 H3 fp pn) ifs tt) (hk:∀s3 H3 fp pn,PE (cxC X N' sc s3 H3 fp pn) kx tk) (hv:∀s3 H3 fp pn,PE (cxC X N' sc s3 H3 fp pn) vx tv)
  (hs:∀x,foldedSetIterable iter X.env x=pure x:=by intro _;rfl):PE X (.DictComp kx vx [⟨tg,iter,ifs,0⟩] sc pos) (je wi src g tt tk tv):=by
 intros Q I h;rw[arm_eval_DictComp];refine iI (use:=none) hu hc S hi hg ht hk hv hs I h λs3 H3 fp σ4 H4 s5 l I3 f3 J5 q=>?_;obtain⟨m,hn,_⟩:=J5.loc;exact⟨m,hn,λh' sb=>⟨.ref l,H4,Tj I3 f3 J5 sb,rq,q⟩⟩
section
variable {a l:Addr} {g:TG} {tt:TT} {tk tv:TE} {Q:VK}
theorem iH {K:YD} {xs:YG} {σ0:St} {H0:Hp} (Pv:YN) (h0:Pv 0 σ0 H0) (hl:∀i U H',i<=xs.length->Pv i U H'->SqL K H' a xs)
  (hs:∀i x U H',xs[i]?=some x->Pv i U H'->g x U H' fun σ3 H3=>tt σ3 H3 λb H4=>if b=true then tk σ3 H4 λy H5=>tv σ3 H5 λz H6=>∃(kvs:YM) (k:Key),H6 l=some (.dK kvs)/\y=kV k/\kvs.length < sizeLine/\Pv (i+1) σ3 (upd H6 l (.dK (putK kvs k z))) else Pv (i+1) σ3 H4)
  (hd:∀ U H',Pv xs.length U H'->Q (.ref l) H'):Uv (Itl K a) g tt tk tv Q σ0 H0 l:=by
 unfold Uv;refine⟨λi m U H'=>m=xs.length - i/\i<=xs.length/\Pv i U H',⟨xs.length,by simp,Qcw _,h0⟩,?_⟩;rintro i m U H' ⟨rfl,hi,p⟩;have q:=hl i U H' hi p;by_cases hlt:i < xs.length
 ·refine .inr ⟨⟨xs,xs[i],q,by simp[hlt]⟩,Pv (i+1),fun σ3 H3 p'=>⟨xs.length - (i+1),by omega,rq,hlt,p'⟩,λx H2 y=>?_⟩;obtain⟨rfl,y⟩:=y;exact hs i x U _ (y xs q) p
 ·exact .inl ⟨⟨xs,q,by omega⟩,by
   have:i=xs.length:=by omega
   subst this;exact hd _ _ p⟩
theorem Qu {K:YD} {xs:YG} {σ0:St} {H0:Hp} (Pv:YN) (h0:Pv 0 σ0 H0) (hl:∀i U H',i<=xs.length->Pv i U H'->SqL K H' a xs)
  (hs:∀i x U H',xs[i]?=some x->Pv i U H'->g x U H' fun σ3 H3=>tt σ3 H3 λb H4=>if b=true then tk σ3 H4 λy H5=>tv σ3 H5 λz H6=>∃(kvs:YL) (k:List Key) (b:Addr),H6 l=some (.dT kvs)/\y=.ref b/\H6 b=some (.tup (k.map kV))/\kvs.length < sizeLine/\Pv (i+1) σ3 (upd H6 l (.dT (putK kvs k z))) else Pv (i+1) σ3 H4)
  (hd:∀ U H',Pv xs.length U H'->Q (.ref l) H'):QM (Itl K a) g tt tk tv Q σ0 H0 l:=by
 unfold QM;refine⟨λi m U H'=>m=xs.length - i/\i<=xs.length/\Pv i U H',⟨xs.length,by simp,Qcw _,h0⟩,?_⟩;rintro i m U H' ⟨rfl,hi,p⟩;have q:=hl i U H' hi p;by_cases hlt:i < xs.length
 ·refine .inr ⟨⟨xs,xs[i],q,by simp[hlt]⟩,Pv (i+1),fun σ3 H3 p'=>⟨xs.length - (i+1),by omega,rq,hlt,p'⟩,λx H2 y=>?_⟩;obtain⟨rfl,y⟩:=y;exact hs i x U _ (y xs q) p
 ·exact .inl ⟨⟨xs,q,by omega⟩,by
   have:i=xs.length:=by omega
   subst this;exact hd _ _ p⟩
end
def Qv (h:Heap) (d:Addr) (es:YK) (ep:Nat):Prop:=∃o,h.get? d=some o/\o.ExactDict/\o.data=.dict es ep
section
variable {prog:Program} {w:World} {A:Around} {E:YA} {s:Shared}
theorem uY {it d:Addr} {i ep:Nat} {es:YK} {en:DictEntry} {Q:Option Value->Shared->Prop} (K:s.heap.IsKeyIter it d i es.size ep) (R:Qv s.heap d es ep) (hx:es[i]?=some en)
  (q:∀h',h'.IsKeyIter it d (i+1) es.size ep->Heap.SameBut it s.heap h'->Q (some en.key) { s with heap:=h' }):wpAny (model prog w) A (pyNext (.ref it)) Q E s:=by
 have T:=K.typeIs;obtain⟨oi,hoi,ci,di⟩:=K;obtain⟨od,hod,xd,dd⟩:=R;have hlt:i < es.size:=(Qaf.mp hx).1;obtain⟨MV,F5,F6,DH⟩:=oi;obtain⟨Y9,Um,Uo,QJ⟩:=od;dsimp only at ci di dd;subst ci di dd;obtain⟨hp,g,dr,tk,os⟩:=s;unfold pyNext;refine QcC (Qck (Qat (name:=Str.ofString "__next__") T Qad (QbC Qad T F.entry_dict_keyiterator_next ?_ (F.args_dict_keyiterator_next_1 _))));have e1:typeName (.type "dict_keyiterator")=pure "dict_keyiterator":=by unfold typeName;rw[find?_eq_fast];kernel_rfl
 have e2:=mroOf_keyiter
 wp_walk
 have hidx:(if (i:Int) < 0 then none else es[((i:Int)).toNat]?)=some en:=by rw[if_neg (by omega),Qbo];exact hx
 simp only[hidx]
 wp_walk
 refine⟨_,rq,QcD (q _ ⟨_,QaF _ hoi ?_,rq,?_⟩ (QaT ..))⟩
 all_goals first | rfl | trace_state
theorem An {it d:Addr} {i ep:Nat} {es:YK} {Q:Option Value->Shared->Prop} (hh:A.handled=none) (K:s.heap.IsKeyIter it d i es.size ep) (R:Qv s.heap d es ep) (hx:es[i]?=none)
  (q:∀h',Heap.ExtBut it s.heap h'->Q none { s with heap:=h' }):wpAny (model prog w) A (pyNext (.ref it)) Q E s:=by
 have T:=K.typeIs;obtain⟨oi,hoi,ci,di⟩:=K;obtain⟨od,hod,xd,dd⟩:=R;obtain⟨MV,F5,F6,DH⟩:=oi;obtain⟨Y9,Um,Uo,QJ⟩:=od;dsimp only at ci di dd;subst ci di dd;obtain⟨hp,g,dr,tk,os⟩:=s;unfold pyNext;refine QcC (Qck (Qat (name:=Str.ofString "__next__") T Qad (QbC Qad T F.entry_dict_keyiterator_next ?_ (F.args_dict_keyiterator_next_1 _))));have e1:typeName (.type "dict_keyiterator")=pure "dict_keyiterator":=by unfold typeName;rw[find?_eq_fast];kernel_rfl
 have e2:=mroOf_keyiter;have hh1:A.in1.handled=none:=hh
 wp_walk
 have hidx:(if (i:Int) < 0 then none else es[((i:Int)).toNat]?)=none:=by rw[if_neg (by omega),Qbo];exact hx
 simp only[hidx]
 wp_walk
 unfold raiseNew
 wp_walk
 refine wpAny_of_eq isSubtype_stop ?_
 wp_walk
 exact q _ (((QaT ..).extBut.push _).push _)
theorem uZ {d:Addr} {ep:Nat} {es:YK} {Q:YA} (lo:(d == sysModules)=false) (R:Qv s.heap d es ep)
  (q:Q (.ref ∅) { s with heap:=s.heap.push { cls:=.type "dict_keyiterator",data:=.fields #[.ref d,.int 0 0,.int es.size 0,.int ep 0] } }):wpAny (model prog w) A (pyIter (.ref d)) Q E s:=by
 obtain⟨od,hod,xd,dd⟩:=R;have T:s.TypeIs (.ref d) "dict":=⟨od,hod,xd.1⟩;obtain⟨Y9,Um,Uo,QJ⟩:=od;obtain⟨x1,x2⟩:=xd;dsimp only at dd x1;subst dd x1;refine wpAny_pyIter_slot T F.slot_dict_iter (QbC F.slot_dict_iter T F.entry_dict_iter ?_ (F.args_dict_iter_1 _));unfold Builtin.«dict.__iter__»
 wp_walk
 exact⟨_,rq,"dict_keyiterator",_,⟨_,QaN _ rfl,rq⟩,Qad.lookup,q⟩
theorem pN {d:Addr} {ep:Nat} {es:YK} (lo:(d == sysModules)=false) :
  MeetsIn prog w (Builtin.«dict.items» ⟨[.ref d],[]⟩) (λ_ R s=>Qv s.heap d es ep/\R (.ok (.ret (.ref ∅))) { s with heap:=s.heap.push { cls:=.type "dict_items",data:=.fields #[.ref d] } }):=
 .of_wp λA R s ⟨hm,h⟩=>by
  obtain⟨od,hod,xd,dd⟩:=hm;have T:s.TypeIs (.ref d) "dict":=⟨od,hod,xd.1⟩;obtain⟨Y9,Um,Uo,QJ⟩:=od;obtain⟨x1,x2⟩:=xd;dsimp only at dd x1;subst dd x1;unfold Builtin.«dict.items»
  wp_walk
  exact⟨_,rq,h⟩
theorem Yn {v d:Addr} {es:YK} {ep:Nat} {Q:YA} (hv:s.heap.IsItemsView v d) (R:Qv s.heap d es ep)
  (q:Q (.ref ∅) { s with heap:=s.heap.push { cls:=.type "dict_itemiterator",data:=.fields #[.none,.bool false,.ref d,.int 0 0,.int es.size 0,.int ep 0,.none,.none] } }) :
  wpAny (model prog w) A (pyIter (.ref v)) Q E s:=by
 have T:=hv.typeIs;obtain⟨ov,hov,hcv,hdv⟩:=hv;obtain⟨od,hod,xd,dd⟩:=R;obtain⟨SR,SH,SI,SF⟩:=ov;obtain⟨Y9,Um,Uo,QJ⟩:=od;dsimp only at hcv hdv dd;subst hcv hdv dd;refine wpAny_pyIter_slot T F.slot_dict_items_iter (QbC F.slot_dict_items_iter T F.entry_dict_items_iter ?_ (F.args_dict_items_iter_1 _));unfold Builtin.«dict_items.__iter__»
 wp_walk
 have hown:Builtin.Dict_items.ownsTuple "dict_itemiterator"=true:=by decide
 refine⟨_,rq,"dict_itemiterator",_,⟨_,QaN _ rfl,rq⟩,Qac.lookup,?_⟩;simpa [rawInt,hown,Builtin.Dict_items.ownedTupleFields] using q
theorem vd {it d:Addr} {i ep:Nat} {es:YK} {en:DictEntry} {ok ov:Value} {Q:Option Value->Shared->Prop} (K:IsItemIter s.heap it d i es.size ep ok ov) (R:Qv s.heap d es ep) (hx:es[i]?=some en)
  (q:∀h',IsItemIterOut h' it d (i+1) es.size ep en.key en.val ∅->h'.get? ∅=some { cls:=.type "tuple",data:=.seq #[en.key,en.val] }->(∀b o,b≠it->s.heap.get? b=some o->h'.get? b=some o)->Q (some (.ref ∅)) { s with heap:=h' }) :
  wpAny (model prog w) A (pyNext (.ref it)) Q E s:=by
 have hT:s.TypeIs (.ref it) "dict_itemiterator":=⟨_,K,rq⟩;obtain⟨od,hod,xd,dd⟩:=R;have hlt:i < es.size:=(Qaf.mp hx).1;obtain⟨Y9,Um,Uo,QJ⟩:=od;dsimp only at dd;subst dd;obtain⟨hp,g,dr,tk,os⟩:=s;unfold pyNext;refine QcC (Qck (Qat (name:=Str.ofString "__next__") hT Qac (QbC Qac hT F.entry_dict_itemiterator_next ?_ (F.args_dict_itemiterator_next_1 _))));have e1:typeName (.type "dict_itemiterator")=pure "dict_itemiterator":=by unfold typeName;rw[find?_eq_fast];kernel_rfl
 have e2:=mroOf_itemiter
 wp_walk
 have hidx:(if (i:Int) < 0 then none else es[((i:Int)).toNat]?)=some en:=by rw[if_neg (by omega),Qbo];exact hx
 simp only[hidx];have hown:Builtin.Dict_items.ownsTuple "dict_itemiterator"=true:=by decide
 refine QcC ?_
 first | refine QcC (wpAny_typeNameOfWhole_itemiter hT (QcD ?_)) | refine QcC (wpAny_typeNameOf_itemiter hT (QcD ?_))
 refine QcC (wpAny_isOneOf_itemiter hT ?_);simp only[hown,if_true];show wpAny _ _ (setField (.ref it) 3 (rawInt ((i:Int)+1)) >>= _) _ _ _;refine QcC (Qbe K (by simp) λh1 k1 s1=>?_);have s1:Heap.SameBut it hp h1:=s1;have k1:IsItemIter h1 it d (i+1) es.size ep ok ov:=by
  have e:((i+1:Nat):Int)=(i:Int)+1:=by omega
  unfold IsItemIter;rw[e];simpa [rawInt] using k1
 have hT1:Shared.TypeIs ⟨h1,g,dr,tk,os⟩ (.ref it) "dict_itemiterator":=⟨_,k1,rq⟩;refine QcC (Qch (QcC (wpAny_isOneOf_itemiter hT1 (QcC (wpAny_isOneOf_itemiter hT1 ?_)))));show wpAny _ _ (Builtin.Dict_items.pairFromOwner (.ref it) 6 en.key en.val) _ _ ⟨h1,g,dr,tk,os⟩;unfold Builtin.Dict_items.pairFromOwner;refine QcC (wpAny_newTuple ?_);have k2:IsItemIter (h1.push { cls:=.type "tuple",data:=.seq #[en.key,en.val] }) it d (i+1) es.size ep ok ov:=Qay _ k1;have z1:h1.objs.size=hp.objs.size:=s1.1;have n1:(h1.push { cls:=.type "tuple",data:=.seq #[en.key,en.val] }).get? hp.objs.size=some { cls:=.type "tuple",data:=.seq #[en.key,en.val] }:=by rw[<-z1];exact QaN _ rfl
 have p1:∀b o,b≠it->hp.get? b=some o->(h1.push { cls:=.type "tuple",data:=.seq #[en.key,en.val] }).get? b=some o:=λb o hb e=>Qay _ (s1.extBut b o hb e);have nit:hp.objs.size≠it:=Qcq (Qcm K);rw[z1];show wpAny _ _ (Builtin.Dict_items.ownedTupleIsFree (.ref it) >>= _) _ _ ⟨h1.push { cls:=.type "tuple",data:=.seq #[en.key,en.val] },g,dr,tk,os⟩;generalize h1.push { cls:=.type "tuple",data:=.seq #[en.key,en.val] }=h2 at k2 n1 p1;refine QcC ?_;unfold Builtin.Dict_items.ownedTupleIsFree;refine QcC (Qcy k2 rfl (x:=.none) rfl (QcD ?_));simp only[if_true];refine QcC (Qcy k2 rfl (x:=ok) rfl ?_);refine QcC (Qcy k2 rfl (x:=ov) rfl ?_);refine QcC (Qbe k2 (by simp) λh3 k3 s3=>?_);refine QcC (Qbe k3 (by simp) λh4 k4 s4=>?_);refine QcC (Qbe k4 (by simp) λh5 k5 s5=>?_);refine QcC (Qbe k5 (by simp) λh6 k6 s6=>?_);have f:∀b o,b≠it->h2.get? b=some o->h6.get? b=some o:=λb o hb e=>s6.extBut b o hb (s5.extBut b o hb (s4.extBut b o hb (s3.extBut b o hb e)));exact QcC (wpAny_letGo (QcD (QcD ⟨_,rq,QcD (q h6 k6 (f _ _ nit n1) λb o hb e=>f b o hb (p1 b o hb e))⟩)))
theorem cD {it d:Addr} {i ep:Nat} {es:YK} {ok ov:Value} {Q:Option Value->Shared->Prop} (hh:A.handled=none) (K:IsItemIter s.heap it d i es.size ep ok ov) (R:Qv s.heap d es ep) (hx:es[i]?=none)
  (q:∀h',Heap.ExtBut it s.heap h'->Q none { s with heap:=h' }):wpAny (model prog w) A (pyNext (.ref it)) Q E s:=by
 have hT:s.TypeIs (.ref it) "dict_itemiterator":=⟨_,K,rq⟩;obtain⟨od,hod,xd,dd⟩:=R;obtain⟨Y9,Um,Uo,QJ⟩:=od;dsimp only at dd;subst dd;obtain⟨hp,g,dr,tk,os⟩:=s;unfold pyNext;refine QcC (Qck (Qat (name:=Str.ofString "__next__") hT Qac (QbC Qac hT F.entry_dict_itemiterator_next ?_ (F.args_dict_itemiterator_next_1 _))));have e1:typeName (.type "dict_itemiterator")=pure "dict_itemiterator":=by unfold typeName;rw[find?_eq_fast];kernel_rfl
 have e2:=mroOf_itemiter;have hh1:A.in1.handled=none:=hh
 wp_walk
 have hidx:(if (i:Int) < 0 then none else es[((i:Int)).toNat]?)=none:=by rw[if_neg (by omega),Qbo];exact hx
 simp only[hidx]
 wp_walk
 unfold raiseNew
 wp_walk
 refine wpAny_of_eq isSubtype_stop ?_
 wp_walk
 exact q _ (((QaT ..).extBut.push _).push _)
end
section
variable {X:Cx} {jb:YC} {U : St} {H:Hp} {s:Shared} {a:Addr} {kvs:YL} {o:Obj}
theorem Inv.jO (I:H^^^s) (e:H a=some (.dT kvs)):∃o,s.heap.get? a=some o/\Inv X jb U (upd H a (.frz o (.dT kvs))) s:=by
 obtain⟨o,ho⟩:=(I.hok a _ e).there;have n0:∀b,H b=none->b≠a:=λb n z=>by rw[z,e] at n;cases n
 have n1:∀b u,H b=some u->u≠.dT kvs->b≠a:=λb u q nu z=>by rw[z,e] at q;exact nu (QbN q).symm
 refine⟨o,ho,I.step (h':=s.heap) (g':=s.gens) (d':=s.drawn) (t':=s.toks) (ch:=[]) (λb hb=>absurd hb (by simp)) (λb u _ _ _ q _=>q) (λb u _ _ _ q _=>⟨u.slots,q⟩) (λb u _ q n=>by rw[Am (n0 b n)];exact n)
  (λb u _ q=>⟨u,q⟩) (λb xs q=>by rw[Am (n1 b _ q (by intro z;cases z))];exact q) (λb u v q=>by rw[Am (n1 b _ q (by intro z;cases z))];exact q)
  (λb ps q=>⟨#[],by rw[Am (n1 b _ q (by intro z;cases z)),q];simp⟩) (λm hm=>hm) (λb u q=>?_) I.bare⟩
 have st:∀b u,Bx X.prog X.w H s.heap b u->Bx X.prog X.w (upd H a (.frz o (.dT kvs))) s.heap b u:=λb u x=>
  x.stay (λ_ _ _ q=>q) (λc q=>by rw[Am (n1 c _ q (by intro z;cases z))];exact q) λc xs q=>by rw[Am (n1 c _ q (by intro z;cases z))];exact q
 by_cases hb:b=a
 ·subst hb;rw[Ab] at q;cases q;exact⟨ho,st _ _ (I.hok _ _ e)⟩
 ·rw[Am hb] at q;exact st _ _ (I.hok b u q)
theorem Inv.QT (I:H^^^s) (e:H a=some (.frz o (.dT kvs))) (h0:∀o' u,X.H₀ a≠some (.frz o' u)):Inv X jb U (upd H a (.dT kvs)) s:=by
 have n0:∀b,H b=none->b≠a:=λb n z=>by rw[z,e] at n;cases n
 have n1:∀b u,H b=some u->u≠.frz o (.dT kvs)->b≠a:=λb u q nu z=>by rw[z,e] at q;exact nu (QbN q).symm
 refine⟨I.ok,I.os,I.bare,⟨I.base.keep,I.base.slot,λb u q n hx=>?_,I.base.there,λb xs q=>?_,λb u v q=>?_,λb ps q=>?_⟩,I.loc,I.cell,?_,λx c q=>?_,λp hp=>?_,λb u q=>?_,I.len⟩
 ·rw[Am (n0 b (I.base.free b u q n hx))];exact I.base.free b u q n hx
 ·have z:=I.base.tups b xs q;rw[Am (n1 b _ z (by intro w;cases w))];exact z
 ·have z:=I.base.Io b u v q;have nb:b≠a:=λw=>h0 u v (by rw[<-w];exact q);rw[Am nb];exact z
 ·obtain⟨m,z⟩:=I.base.Ju b ps q;exact⟨m,by rw[Am (n1 b _ z (by intro w;cases w))];exact z⟩
 ·rw[Am (n0 _ I.free)];exact I.free
 ·rw[Am (n0 _ (I.FP x c q))];exact I.FP x c q
 ·obtain⟨p1,p2,p3⟩:=I.pin p hp;exact⟨p1,by rw[Am (n0 _ p2)];exact p2,p3⟩
 ·have st:∀b u,Bx X.prog X.w H s.heap b u->Bx X.prog X.w (upd H a (.dT kvs)) s.heap b u:=λb u x=>
   x.stay (λ_ _ _ q=>q) (λc q=>by rw[Am (n1 c _ q (by intro z;cases z))];exact q) λc xs q=>by rw[Am (n1 c _ q (by intro z;cases z))];exact q
  by_cases hb:b=a
  ·subst hb;rw[Ab] at q;cases q;exact st _ _ (show Bx X.prog X.w H s.heap b (.frz o (.dT kvs)) from I.hok _ _ e).2
  ·rw[Am hb] at q;exact st _ _ (I.hok b u q)
end
def Xn (H0 H:Hp) (P:Hp->Prop):Prop:=∃a o kvs,H a=some (.frz o (.dT kvs))/\(∀o' u,H0 a≠some (.frz o' u))/\P (upd H a (.dT kvs))
def Ends.QT (D:Ends) (H0:Hp):Ends where
 nx:=fun U H=>Xn H0 H (D.nx U)
 rt:=λv H=>Xn H0 H (D.rt v)
 bk:=fun U H=>Xn H0 H (D.bk U)
 ct:=fun U H=>Xn H0 H (D.ct U)
def BQ (H0:Hp) (t:TS):TS:=λD U H=>t (D.QT H0) U H
def zQ (H0:Hp) (t:TE):TE:=fun U H Q=>t U H λv H1=>Xn H0 H1 (Q v)
theorem vp {X:Cx} {st:Stmt} {t:TS} {H0:Hp} (h0:X.H₀=H0) (h:PS X st t):PS X st (BQ H0 t):=by
 subst h0;intros D I q;refine thn (h jb s U H _ I q) λf s1 z=>?_;cases f with
 | next=>obtain⟨σ',H',I',a,o,kvs,e,n,q'⟩:=z;exact⟨σ',_,I'.QT e n,q'⟩
 | brk=>obtain⟨σ',H',I',a,o,kvs,e,n,q'⟩:=z;exact⟨σ',_,I'.QT e n,q'⟩
 | cont=>obtain⟨σ',H',I',a,o,kvs,e,n,q'⟩:=z;exact⟨σ',_,I'.QT e n,q'⟩
 | ret u=>obtain⟨v,σ',H',I',r,a,o,kvs,e,n,q'⟩:=z;exact⟨v,σ',_,I'.QT e n,r,q'⟩
theorem Ou {X:Cx} {x:Expr} {t:TE} {H0:Hp} (h0:X.H₀=H0) (h:PE X x t):PE X x (zQ H0 t):=by
 subst h0;intros Q I q;refine thn (h jb s U H _ I q) λu s1 zz=>?_;obtain⟨v,H',I',r,a,o,kvs,e,n,q'⟩:=zz;exact⟨v,_,I'.QT e n,r,q'⟩
def oM (a:Addr) (o:Obj) (kvs:YL):It:=
 ⟨λi H=>i < kvs.length/\H a=some (.frz o (.dT kvs)),λi H x H'=>∃p b kv,H p=none/\kvs[i]?=some kv/\H b=some (.tup (kv.1.map kV))/\x=.ref p/\H'=upd H p (.tup [.ref b,kv.2]),λi H=>i=kvs.length/\H a=some (.frz o (.dT kvs))⟩
def KTr (P:Program) (w:World) (H:Hp) (kvs:YL) (es:YK):Prop:=es.size=kvs.length/\∀(i:Nat) (kv:List Key×V),kvs[i]?=some kv->∃b en,es[i]?=some en/\en.key=.ref b/\H b=some (.tup (kv.1.map kV))/\RelV kv.2 en.val
theorem dI {P:Program} {w:World} {H:Hp} {kvs:YL} {xs:List (List Key×Addr×Value)} {es:YK} (r:Paired (λ(p:List Key×V) (q:List Key×Addr×Value)=>p.1=q.1/\H q.2.1=some (.tup (p.1.map kV))/\RelV p.2 q.2.2) kvs xs) (e:es.toList=xs.map (entryOfKey (tupleKind (Dm P w)))):KTr P w H kvs es:=by
 refine⟨by rw[size_of_entries e,Qcc r],λi kv hkv=>?_⟩;have go:∀{l:YL} {m:List (List Key×Addr×Value)} {i:Nat} {p:List Key×V},Paired (λ(p:List Key×V) (q:List Key×Addr×Value)=>p.1=q.1/\H q.2.1=some (.tup (p.1.map kV))/\RelV p.2 q.2.2) l m->l[i]?=some p->∃x,m[i]?=some x/\H x.2.1=some (.tup (p.1.map kV))/\RelV p.2 x.2.2:=by
  intro l m i p r
  induction r generalizing i with
  | nil=>intro h;cases h
  | cons a t ih=>
   intro h;cases i with
   | zero=>cases h;exact⟨_,rfl,a.2⟩
   | succ i=>exact ih h
 obtain⟨x,hx,h1,h2⟩:=go r hkv;exact⟨x.2.1,_,by rw[entry_at e i,hx];rfl,rq,h1,h2⟩
theorem Pz {X:Cx} {jb:YC} {U : St} {H:Hp} {s:Shared} {a:Addr} {kvs:YL} {o:Obj} {es:YK} {ep:Nat} (I:H^^^s) (e:H a=some (.frz o (.dT kvs))) (ho:o.data=.dict es ep) :
  (a == sysModules)=false/\KTr X.prog X.w H kvs es/\Qv s.heap a es ep:=by
 obtain⟨h1,_,h2,xs,h3,ob,es',ep',h4,h5,h6,h7,_⟩:=(show Bx X.prog X.w H s.heap a (.frz o (.dT kvs)) from I.hok a _ e)
 have z:=h1.symm.trans h4;cases z;rw[ho] at h6;cases h6;exact⟨h2,dI h3 h7,o,h1,h5,ho⟩
theorem uG {P:Program} {w:World} {K:YD} {elts:YJ} {k:Nat} {pos:Pos} (a it:Addr) (o:Obj) (kvs:YL) {es:YK} {ep:Nat} (ho:o.data=.dict es ep) (hes:es.size=kvs.length) :
  Turn P w K (.Tuple elts k pos) (oM a o kvs) [it] it (λi h=>∃ok ov,IsItemIter h it a i kvs.length ep ok ov) where
 mem:=by simp
 obj:=λi h st b hb=>by
  have e:b=it:=by simpa using hb
  subst e;obtain⟨ok,ov,q⟩:=st;exact⟨_,q,λv z=>by cases (show Data.fields _=Data.cell v from z)⟩
 keep:=λi h h' st k=>by
  obtain⟨ok,ov,q⟩:=st;exact⟨ok,ov,k it (by simp) _ q⟩
 item:=by
  intro X hP hw hK hc i jb s U H E I hf st hg;subst hP hw hK;obtain⟨hi,hfz⟩:=hg;obtain⟨ok,ov,st⟩:=st;obtain⟨_,⟨hz,rel⟩,da⟩:=Pz I hfz ho;obtain⟨kv,hkv⟩ : ∃kv,kvs[i]?=some kv:=⟨kvs[i],by simp[hi]⟩;obtain⟨b,en,hen,hkey,hb,hval⟩:=rel i kv hkv;rw[<-hes] at st;refine vd st da hen λh' hout htup hkeep=>?_;refine⟨_,rq,wpAny_letOwnedTupleGo_items hout λh2 he2 hs2=>?_⟩;have nit:∅≠it:=Qcq (Qcm st);have new:Bx X.prog X.w (upd H ∅ (.tup [.ref b,kv.2])) h2 ∅ (.tup [.ref b,kv.2]):=
   ⟨by show 2<=sizeLine;decide,[en.key,en.val],.cons (by rw[hkey];exact rfl) (.cons hval .nil),_,(hs2.2 _ nit).trans htup,rq,0,rq⟩
  have I1:=I.O9 (h':=h2) (t':=s.toks) (Qcv _) (λb q hb z=>(hs2.2 b (λw=>hb (by simp[w]))).trans (hkeep b q (λw=>hb (by simp[w])) z)) hf new;refine⟨.ref ∅,_,I1,rq,⟨∅,b,kv,I.hok.fresh (Qcv _),hkv,hb,rq,rq⟩,⟨en.key,en.val,?_⟩,λb hb=>?_⟩
  ·rw[<-hes];exact he2
  ·have z:b=it:=by simpa using hb
   subst z;rw[Am (Ne.symm nit)];exact (hf b hb).1
 done:=by
  intro X hP hw hK hc i jb s U H E I hf st hg;subst hP hw hK;obtain⟨hi,hfz⟩:=hg;obtain⟨ok,ov,st⟩:=st;obtain⟨_,⟨hz,rel⟩,da⟩:=Pz I hfz ho;rw[<-hes] at st;exact cD (I.ok.hd hc) st da (by simp;omega) λh' ext=>⟨rq,I.N5 (t':=s.toks) (λb ob hb q=>ext b ob (λz=>hb (by simp[z])) q) hf⟩
 self:=λA i s Q E st q=>by
  obtain⟨ok,ov,st⟩:=st;exact ak st q
def AY (td:TE):TI:=fun U H R=>td U H λx H1=>∃a kvs,x=.ref a/\H1 a=some (.dT kvs)/\∀o,R (oM a o kvs) (upd H1 a (.frz o (.dT kvs)))
theorem Pk {X:Cx} {d:Expr} {td:TE} {elts:YJ} {k:Nat} {tp apos cpos:Pos} (hd:PE X d td) (hbase:attributeBase d "items" X.env (eval d X.env)=eval d X.env:=by rfl) (hline:(apos.endLine == cpos.line)=true:=by rfl) :
  PI X (.Tuple elts k tp) (.Call (.Attribute d "items" apos) [] [] cpos) (AY td):=by
 intros R I h;refine wpAny_Call_method0_late hbase hline (thn (hd jb s U H _ I h) λv s1 zz=>?_);obtain⟨x,H1,I1,r1,a,kvs,ex,e,q⟩:=zz;subst ex;cases r1;obtain⟨t1,t2,hsm⟩:=Xd I1 (.inr ⟨kvs,.inl e⟩);obtain⟨o,ho,I2⟩:=I1.jO e;obtain⟨_,_,xs,h3,ob,es,ep,h4,h5,h6,h7,_⟩:=(show Bx X.prog X.w H1 s1.heap a (.dT kvs) from I1.hok a _ e)
 rw[ho] at h4;cases h4;have hes:=(dI h3 h7).1;have da:Qv s1.heap a es ep:=⟨o,ho,h5,h6⟩;refine⟨"dict","dict.items",F.plainAttrs_dict,F.slot_dict_items,F.type_dict_items,t1,t2,Calls.callWith_builtin rfl (PySem.evalArgs_none ?_)⟩;refine call_meetsIn F.slot_dict_items t1 F.entry_dict_items (F.args_dict_items_1 _) (pN (es:=es) (ep:=ep) hsm) ⟨da,?_⟩;have hz:(s1.heap.push { cls:=.type "dict_items",data:=.fields #[.ref a] }).objs.size=s1.heap.objs.size+1:=QbY ..;refine Yn (d:=a) (es:=es) (ep:=ep) ⟨_,QaN _ rfl,rq,rq⟩ ⟨o,Qay _ ho,h5,h6⟩ ?_;refine⟨(s1.heap.push { cls:=.type "dict_items",data:=.fields #[.ref a] }).objs.size,[(s1.heap.push { cls:=.type "dict_items",data:=.fields #[.ref a] }).objs.size],_,_,_,rq,
  I2.kept (t':=s1.toks) λb u q=>Qay _ (Qay _ q),uG a _ o kvs h6 hes,?_,λb hb=>?_,q o⟩
 ·rw[<-hes];exact⟨_,_,QaN _ rfl⟩
 ·have z:b=(s1.heap.push { cls:=.type "dict_items",data:=.fields #[.ref a] }).objs.size:=by simpa using hb
  have z2:s1.heap.objs.size<=b:=by rw[z,hz];exact QcA _
  exact I2.Ro z2 (I2.hok.fresh z2)
theorem Rq {a l:Addr} {o:Obj} {kvs:YL} {g:TG} {tt:TT} {te:TE} {Q:VK} {σ0:St} {H0:Hp} (Pv:YN) (h0:Pv 0 σ0 H0) (hl:∀i U H',i<=kvs.length->Pv i U H'->H' a=some (.frz o (.dT kvs)))
  (hs:∀i kv p b U H',kvs[i]?=some kv->Pv i U H'->H' p=none->H' b=some (.tup (kv.1.map kV))->g (.ref p) U (upd H' p (.tup [.ref b,kv.2])) fun σ3 H3=>tt σ3 H3 λb H4=>if b=true then te σ3 H4 λy H5=>∃ys,H5 l=some (.lst ys)/\ys.length < sizeLine/\Pv (i+1) σ3 (upd H5 l (.lst (ys++[y]))) else Pv (i+1) σ3 H4)
  (hd:∀ U H',Pv kvs.length U H'->Q (.ref l) H'):Gp (oM a o kvs) g tt te Q σ0 H0 l:=by
 unfold Gp;refine⟨λi m U H'=>m=kvs.length - i/\i<=kvs.length/\Pv i U H',⟨kvs.length,by simp,Qcw _,h0⟩,?_⟩;rintro i m U H' ⟨rfl,hi,p⟩;have q:=hl i U H' hi p;by_cases hlt:i < kvs.length
 ·refine .inr ⟨⟨hlt,q⟩,Pv (i+1),fun σ3 H3 p'=>⟨kvs.length - (i+1),by omega,rq,hlt,p'⟩,λx H2 y=>?_⟩;obtain⟨pa,b,kv,hp,hkv,hb,rfl,rfl⟩:=y;exact hs i kv pa b U H' hkv p hp hb
 ·have e:i=kvs.length:=by omega
  subst e;exact .inl ⟨⟨rq,q⟩,hd U H' p⟩
open PySem.W (KasT kas_asc kas_desc kas_rev kas_tail3 kas_descPart kas_count kas_place kas_bin kas_sort)
structure C3 (a b c k:Int):Prop where
 b0:0<=b
 b1:b < 100
 c0:0<=c
 c1:c < 100
 k:k=a*10000+b*100+c
def Xr (K:YD) (H:Hp) (v:V) (k:Int):Prop:=∃t a b c,v=.ref t/\SqT K H t [.int a,.int b,.int c]/\C3 a b c k
theorem yS {K:YD} {H:Hp}:∀{vs:YG} {ks:List Int},Paired (Xr K H) vs ks->oH K H vs
 | _,_,.nil,_,h=>nomatch h
 | _,_,.cons x r,v,h=>by
  rcases Qcd.mp h with rfl | h
  ·obtain⟨t,a,b,c,e,q,_⟩:=x;exact⟨t,[a,b,c],e,q,Nat.succ_pos _⟩
  ·exact yS r v h
section
variable {prog:Program} {w:World} {A:Around} {s:Shared}
theorem Lo {fin:Bool} {C:Bool->Shared->Prop} {a b c k a' b' c' k':Int} {t1 t2 t3 u1 u2 u3:Tok} (x:C3 a b c k) (y:C3 a' b' c' k') (ne:k≠k') (hC:C (decide (k < k')) s):PySem.W.KatLex prog w A true fin C ([Value.int a t1,Value.int b t2,Value.int c t3].zip [Value.int a' u1,Value.int b' u2,Value.int c' u3]) 0 s:=by
 have x1:=x.b0;have x2:=x.b1;have x3:=x.c0;have x4:=x.c1;have x5:=x.k;have y1:=y.b0;have y2:=y.b1;have y3:=y.c0;have y4:=y.c1;have y5:=y.k;rw[List.zip_cons_cons];refine kat_cons (wpAny_eqBool_int ?_);by_cases ha:a=a'
 ·rw[show (a == a')=true by rw[ha];exact beq_self_eq_true a'];refine PySem.W.kat_yes ?_;rw[List.zip_cons_cons];refine kat_cons (wpAny_eqBool_int ?_);by_cases hb:b=b'
  ·rw[show (b == b')=true by rw[hb];exact beq_self_eq_true b'];refine PySem.W.kat_yes ?_;rw[List.zip_cons_cons];refine kat_cons (wpAny_eqBool_int ?_);have hc:c≠c':=λz=>ne (by rw[x5,y5,ha,hb,z]);rw[show (c == c')=false from QaO.mpr hc]
   refine PySem.W.kat_no (PySem.W.kat_one _ _ (lt_int ?_));rw[show decide (c < c')=decide (k < k') by rw[QbR,Qbf,Qbf];subst ha hb;constructor <;> intro h <;> omega];exact hC
  ·rw[show (b == b')=false from QaO.mpr hb]
   refine PySem.W.kat_no (PySem.W.kat_one _ _ (lt_int ?_));rw[show decide (b < b')=decide (k < k') by rw[QbR,Qbf,Qbf];subst ha;constructor <;> intro h <;> omega];exact hC
 ·rw[show (a == a')=false from QaO.mpr ha]
  refine PySem.W.kat_no (oneLt_int ?_);rw[show decide (a < a')=decide (k < k') by rw[QbR,Qbf,Qbf];constructor <;> intro h <;> omega];exact hC
end
@[irreducible] def Wq (K:YD):YG->Hp->VK->Prop:=λxs H Q=>∃(p:Addr) (vs:YG) (ks:List Int),xs=[.ref p]/\SqL K H p vs/\vs.length < 64/\Paired (Xr K H) vs ks/\ks.Nodup /\
 ∀(is:List Nat) l,is.Perm (List.range vs.length)->(is.map λi=>ks.getD i 0).Pairwise (· < ·)->H l=none->Q (.ref l) (upd H l (.lst (is.map λi=>vs.getD i .non)))
theorem uL {K:YD} {p:Addr} {vs:YG} {ks:List Int} {H:Hp} {Q:VK} (h1:SqL K H p vs) (h2:vs.length < 64) (h3:Paired (Xr K H) vs ks) (h4:ks.Nodup)
  (q:∀(is:List Nat) l,is.Perm (List.range vs.length)->(is.map λi=>ks.getD i 0).Pairwise (· < ·)->H l=none->Q (.ref l) (upd H l (.lst (is.map λi=>vs.getD i .non)))):Wq K [.ref p] H Q:=by
 unfold Wq;exact⟨p,vs,ks,rq,h1,h2,h3,h4,q⟩
theorem fO {X:Cx}:Ft X (.builtin "sorted") (Wq X.K):=by
 intros xs us Q I r h;unfold Wq at h;obtain⟨p,vs,ks,rfl,hq,h64,hK,hnd,q⟩:=h;have hR:oH X.K H vs:=yS hK;have hkl:vs.length=ks.length:=Qcc hK;obtain⟨u,rfl,rx⟩:=vals1 r;cases rx;obtain⟨its,rv,pl,hz⟩:=I.list hq;have hlen:vs.length=its.length:=rv.length;by_cases h2:2<=its.length
 ·obtain⟨m,hn,_⟩:=id I.loc;refine PySem.W.kat_sorted (Att.EN hn) (wB (g:=Att.WY s.heap) (h:=s.heap) (L:=X.env.locals)) pl.isList h2 (by omega) λD e1 h' F' N' hD=>?_;have kp:∀b o,b≠X.env.locals->s.heap.get? b=some o->h'.get? b=some o:=λb o hb e=>(N' (b,o) (QaJ _ (Qm hb (Att.NK _ _) e))).1;have nl:∀b,H b≠none\/(∃u,X.base.get? b=some u)->b≠X.env.locals:=λb hb z=>by
   rcases hb with hb |⟨u,hb⟩
   ·exact hb (by rw[z];exact I.free)
   ·have:=Qcm hb;rw[z] at this;exact absurd (Qbb this (Qco I.ok.bsz I.ok.above)) (Qcg _)
  obtain⟨fs,f1,f2,f3⟩:=jF (h':=h') I (λb o hb e=>kp b o (nl b hb) e) rv hR;refine PySem.W.kat_kind f1 (by omega) (λv hv=>by obtain⟨i,t,rfl⟩:=f3 v hv;exact PySem.W.Looks.of_pure rfl) (T:=.type "int") (by decide) ?_;have inj:Inj its.length (λi=>ks.getD i 0):=λi j hi hj e=>by
   have e:ks.getD i 0=ks.getD j 0:=e;have e1:ks.getD i 0=ks[i]'(by omega):=by simp[show i < ks.length by omega]
   have e2:ks.getD j 0=ks[j]'(by omega):=by simp[show j < ks.length by omega]
   rw[e1,e2] at e;exact qz hnd _ _ e
  have hp:=Vz (lt:=ltK λi=>ks.getD i 0) _ (gk (n:=its.length) (by omega));have Uh:=Mu.list hp (uT inj h2);refine jG (lt:=ltK λi=>ks.getD i 0) (n:=its.length) (λi j C hi hj hC=>?_) _ (gk (by omega)) ?_
  ·have yN:∀i,i < its.length->∃(x:Addr) (ox:Obj) (ws:Array Value) (n:Nat),its.getD i Value.none=.ref x/\h'.get? x=some ox/\ox.data=.seq ws n/\(∃a b c t1 t2 t3,ws.toList=[Value.int a t1,Value.int b t2,Value.int c t3]/\C3 a b c (ks.getD i 0))/\∀y∈ws.toList,∃a t,y=Value.int a t:=λi hi=>by
    have hvi:i < vs.length:=by omega
    obtain⟨u,hu,ru⟩:=rv.get (x:=vs[i]) (i:=i) (by simp[hvi]);obtain⟨tp,ka,kb,kc,e,hq',hC3⟩:=gO V.non (0:Int) hK hvi;have hq':SqT X.K H tp (([ka,kb,kc]:List Int).map V.int):=hq';have ev:vs.getD i V.non=vs[i]:=by simp[hvi]
    rw[ev] at e;rw[e] at ru;cases ru;obtain⟨ws,rw',⟨o,ho,hc,n,hd⟩,_⟩:=I.tuple hq';have go:∀{ns:List Int} {ws:YE},Vals (ns.map V.int) ws->∀y∈ws,∃a t,y=Value.int a t:=by
     intro ns
     induction ns with
     | nil=>intro ws r;cases r;exact λy hy=>nomatch hy
     | cons n0 nr ih=>
      intro ws r;cases r with
      | cons r0 rr=>
       intro y hy;rcases Qcd.mp hy with rfl | hy
       ·obtain⟨t,e⟩:=r0;exact⟨_,_,e⟩
       ·exact ih rr y hy
    refine⟨tp,o,ws.toArray,n,?_,kp tp o (nl tp ?_) ho,hd,?_,λy hy=>go rw' y (by simpa using hy)⟩
    ·rw[List.getD_eq_getElem?_getD,hu];rfl
    ·rcases hq' with (z |⟨_,z⟩) |⟨_,_,_,z,_⟩
     ·exact .inl (by rw[z];exact λz=>nomatch z)
     ·exact .inl (by rw[z];exact λz=>nomatch z)
     ·exact .inr ⟨_,I.mod.kin _ _ z⟩
    ·cases rw' with
     | cons r0 rr=>
      cases rr with
      | cons r1 rr=>
       cases rr with
       | cons r2 rr=>
        cases rr;obtain⟨t0,e0⟩:=r0;obtain⟨t1,e1⟩:=r1;obtain⟨t2,e2⟩:=r2;exact⟨ka,kb,kc,t0,t1,t2,by rw[e0,e1,e2],hC3⟩
   obtain⟨x,ox,wx,nx,ex,hx,dx,⟨xa,xb,xc,x1,x2,x3,fx,cx⟩,ix⟩:=yN i hi;obtain⟨y,oy,wy,ny,ey,hy,dy,⟨ya,yb,yc,y1,y2,y3,fy,cy⟩,iy⟩:=yN j hj;unfold PySem.W.kas_ask;rw[ex,ey];refine PySem.W.kat_lt hx dx hy dy ?_;by_cases ne:i=j
   ·subst ne;rw[ex] at ey;cases ey;rw[hx] at hy;cases hy;rw[dx] at dy;cases dy;have e0:ltK (λi=>ks.getD i 0) i i=false:=QbL (Int.lt_irrefl _);rw[e0] at hC;have e1:decide (wx.size < wx.size)=false:=QbL (Qcg _);rw[e1];exact DA hC _ ix 0
   ·rw[fx,fy];exact Lo cx cy (λz=>ne (inj i j hi hj z)) hC
  ·refine PySem.W.KasFin.intro F' N' (.head λq hq=>Qcn (hD q hq)) λh2' c F2 N2=>?_;generalize Gi (ltK λi=>ks.getD i 0) (kas_sort its.length)=pp at hp Uh N2 ⊢;have kp2:∀b o,b≠X.env.locals->s.heap.get? b=some o->h2'.get? b=some o:=λb o hb e=>(N2 (b,o) (QaJ _ (Qm hb (Att.NK _ _) e))).1;obtain⟨oD,DL,_⟩:=N2 (D,_) (QaW ..);have nD:∀b o,s.heap.get? b=some o->b≠D:=λb o e z=>by
    by_cases hb:b=X.env.locals
    ·exact DL (by rw[<-z];exact hb)
    ·have:=hD (b,o) (Qm hb (Att.NK _ _) e);rw[z] at this;exact Qcg _ this
   have hDn:H D=none:=by
    cases e:H D with
    | none=>rfl
    | some v=>
     obtain⟨o,ho⟩:=(I.hok D v e).there;exact absurd rfl (nD D o ho)
   have tr:∀(o:HO) b u,H b=some u->(upd H D o) b=some u:=λo b u e=>by rw[Am (Aq e hDn)];exact e
   have hmem:∀i∈pp.toList,i < vs.length:=λi hi=>by rw[hlen];exact Qca.mp (hp.mem_iff.mp hi)
   have rv2:Vals (pp.toList.map λi=>vs.getD i .non) (pp.toList.map λi=>its.getD i Value.none):=Zq V.non Value.none rv hmem;have pm:(pp.toList.map λi=>vs.getD i .non).Perm vs:=by
    have:=hp.map λi=>vs.getD i V.non;rw[<-hlen,range_getD] at this;exact this
   have I2:Inv X jb U (upd H D (.lst (pp.toList.map λi=>vs.getD i .non))) { s with heap:=h2' }:=by
    refine I.step (h':=h2') (g':=s.gens) (d':=s.drawn) (t':=s.toks) (ch:=[]) (λb hb=>absurd hb (by simp)) (λb u hb _ _ e _=>kp2 b u hb e) (λb u hb _ _ e _=>⟨u.slots,kp2 b u hb e⟩) (λb u _ e n=>by rw[Am (nD b u e)];exact n)
     (λb u _ e=>?_) (λb ys e=>tr _ _ _ e) (λb u v e=>tr _ _ _ e) (λb ps e=>⟨#[],by rw[tr _ _ _ e];simp⟩) (λm' hm'=>by rw[AL hm' hn];exact F2.ns) (λb u e=>?_) I.bare
    ·by_cases hb:b=X.env.locals
     ·obtain⟨o,_,_,ho,_⟩:=F2.ns;exact⟨o,by rw[hb];exact ho⟩
     ·exact⟨u,kp2 b u hb e⟩
    ·by_cases hb:b=D
     ·subst hb;rw[Ab] at e;cases e;exact⟨by rw[pm.length_eq];exact Qcs (Ar (by omega)),_,c,rv2,oD⟩
     ·rw[Am hb] at e;refine (I.hok b u e).stay (λx v hx e1=>kp2 x v ?_ e1) (λx e1=>tr _ _ _ e1) λx ys e1=>tr _ _ _ e1;intro z;rcases hx with hx | hx
      ·rw[<-hx,z,I.free] at e;cases e
      ·rw[z,I.free] at hx;cases hx
   exact⟨.ref D,_,I2,rq,q _ D (by rw[hlen];exact hp) Uh hDn⟩
 ·refine bN pl.isList (by omega) λD h' c hD oD kp=>?_;refine⟨.ref D,_,I.laid (t':=s.toks) (o:=.lst vs) kp hD ?_,rq,?_⟩
  ·exact⟨Qcs (Ar (by omega)),its,c,rv,oD⟩
  ·have z:=q (List.range vs.length) D (List.Perm.refl _) (by
    rw[hkl,range_getD]
    match ks,(show ks.length < 2 by omega) with
    | [],_=>exact List.Pairwise.nil
    | [k],_=>exact Qax _ _) (I.hok.fresh hD)
   rw[range_getD] at z;exact z
end L2
namespace L2
open PySem PySem.Spec PyProof.Rows
def Uu (a:Addr) (o:Obj) (kvs:YL):It:=
 ⟨λi H=>i < kvs.length/\H a=some (.frz o (.dT kvs)),λi H x H'=>H'=H/\∃b kv,kvs[i]?=some kv/\H b=some (.tup (kv.1.map kV))/\x=.ref b,λi H=>i=kvs.length/\H a=some (.frz o (.dT kvs))⟩
theorem uF {P:Program} {w:World} {K:YD} {tg:Expr} (a it:Addr) (o:Obj) (kvs:YL) {es:YK} {ep:Nat} (ho:o.data=.dict es ep) (hes:es.size=kvs.length):Turn P w K tg (Uu a o kvs) [it] it (λi h=>h.IsKeyIter it a i kvs.length ep) where
 mem:=by simp
 obj:=λi h st b hb=>by
  have e:b=it:=by simpa using hb
  subst e;obtain⟨oi,q,c,d⟩:=st;exact⟨oi,q,λv z=>by rw[d] at z;cases z⟩
 keep:=λi h h' st k=>st.at λob q=>k it (by simp) ob q
 item:=by
  intro X hP hw hK hc i jb s U H E I hf st hg;subst hP hw hK;obtain⟨hi,hfz⟩:=hg;obtain⟨_,⟨hz,rel⟩,da⟩:=Pz I hfz ho;obtain⟨kv,hkv⟩ : ∃kv,kvs[i]?=some kv:=⟨kvs[i],by simp[hi]⟩;obtain⟨b,en,hen,hkey,hb,hval⟩:=rel i kv hkv;rw[<-hes] at st;refine uY st da hen λh' st' sb=>?_;have I1:Inv X jb U H { s with heap:=h' }:=I.N5 (t':=s.toks) (λb ob hb q=>(sb.2 b (λz=>hb (by simp[z]))).trans q) hf;obtain⟨oi,q,c,d⟩:=id st';rw[hes] at st';exact⟨en.key,rq,Xh (s:={ s with heap:=h' }) q c d (by decide) ⟨.ref b,H,I1,by rw[hkey];exact rfl,⟨rq,b,kv,hkv,hb,rq⟩,st',λb hb=>(hf b hb).1⟩⟩
 done:=by
  intro X hP hw hK hc i jb s U H E I hf st hg;subst hP hw hK;obtain⟨hi,hfz⟩:=hg;obtain⟨_,⟨hz,rel⟩,da⟩:=Pz I hfz ho;rw[<-hes] at st;exact An (I.ok.hd hc) st da (by simp;omega) λh' ext=>⟨rq,I.N5 (t':=s.toks) (λb ob hb q=>ext b ob (λz=>hb (by simp[z])) q) hf⟩
 self:=λA i s Q E st q=>wpAny_pyIter_keyiter st q
def DS (td:TE):TI:=fun U H R=>td U H λx H1=>∃a kvs,x=.ref a/\H1 a=some (.dT kvs)/\∀o,R (Uu a o kvs) (upd H1 a (.frz o (.dT kvs)))
theorem cJ {X:Cx} {tg d:Expr} {td:TE} (hd:PE X d td):PI X tg d (DS td):=by
 intros R I h;refine thn (hd jb s U H _ I h) λv s1 zz=>?_;obtain⟨x,H1,I1,r1,a,kvs,ex,e,q⟩:=zz;subst ex;cases r1;obtain⟨t1,t2,hsm⟩:=Xd I1 (.inr ⟨kvs,.inl e⟩);obtain⟨o,ho,I2⟩:=I1.jO e;obtain⟨_,_,xs,h3,ob,es,ep,h4,h5,h6,h7,_⟩:=(show Bx X.prog X.w H1 s1.heap a (.dT kvs) from I1.hok a _ e)
 rw[ho] at h4;cases h4;have hes:=(dI h3 h7).1;have da:Qv s1.heap a es ep:=⟨o,ho,h5,h6⟩;refine uZ hsm da ?_;refine⟨s1.heap.objs.size,[s1.heap.objs.size],_,_,_,rq,I2.kept (t':=s1.toks) λb u q=>Qay _ q,uF a _ o kvs h6 hes,?_,λb hb=>?_,q o⟩
 ·rw[<-hes];exact⟨_,QaN _ rfl,rq,rq⟩
 ·have z:b=s1.heap.objs.size:=by simpa using hb
  subst z;exact I2.Ro (Qcv _) (I2.hok.fresh (Qcv _))
section
variable {a l:Addr} {o:Obj} {kvs:YL} {g:TG} {tt:TT} {tk tv:TE} {tb:TS} {Q:VK} {D:Ends} {U : St} {H:Hp}
theorem SE (Pv:YN) (h0:Pv 0 U H) (hl:∀i U H',i<=kvs.length->Pv i U H'->H' a=some (.frz o (.dT kvs)))
  (hs:∀i kv b U H',kvs[i]?=some kv->Pv i U H'->H' b=some (.tup (kv.1.map kV))->g (.ref b) U H' fun σ2 H2=>tb { D with nx:=Pv (i+1),ct:=Pv (i+1),bk:=D.nx } σ2 H2) (hd:∀ U H',Pv kvs.length U H'->D.nx U H') :
  ∃W:Nat->YN,(∃m,W 0 m U H)/\∀i m U H,W i m U H ->
   ((Uu a o kvs).stop i H/\D.nx U H)\/((Uu a o kvs).go i H/\∃N:YO,(∀ σ' H',N σ' H'->∃m',m' < m/\W (i+1) m' σ' H')/\∀x H',(Uu a o kvs).yld i H x H'->g x U H' fun σ2 H2=>tb { D with nx:=N,ct:=N,bk:=D.nx } σ2 H2):=by
 refine⟨λi m U H=>m=kvs.length - i/\i<=kvs.length/\Pv i U H,⟨kvs.length,by simp,Qcw _,h0⟩,?_⟩;rintro i m U H ⟨rfl,hi,p⟩;have q:=hl i U H hi p;by_cases hlt:i < kvs.length
 ·refine .inr ⟨⟨hlt,q⟩,Pv (i+1),fun σ' H' p'=>⟨kvs.length - (i+1),by omega,rq,hlt,p'⟩,λx H' y=>?_⟩;obtain⟨rfl,b,kv,hkv,hb,rfl⟩:=y;exact hs i kv b U _ hkv p hb
 ·have e:i=kvs.length:=by omega
  subst e;exact .inl ⟨⟨rq,q⟩,hd U H p⟩
theorem ZD {σ0:St} {H0:Hp} (Pv:YN) (h0:Pv 0 σ0 H0) (hl:∀i U H',i<=kvs.length->Pv i U H'->H' a=some (.frz o (.dT kvs)))
  (hs:∀i kv b U H',kvs[i]?=some kv->Pv i U H'->H' b=some (.tup (kv.1.map kV))->g (.ref b) U H' fun σ3 H3=>tt σ3 H3 λc H4=>if c=true then tk σ3 H4 λy H5=>tv σ3 H5 λz H6=>∃(ks:YL) (k:List Key) (b:Addr),H6 l=some (.dT ks)/\y=.ref b/\H6 b=some (.tup (k.map kV))/\ks.length < sizeLine/\Pv (i+1) σ3 (upd H6 l (.dT (putK ks k z))) else Pv (i+1) σ3 H4)
  (hd:∀ U H',Pv kvs.length U H'->Q (.ref l) H'):QM (Uu a o kvs) g tt tk tv Q σ0 H0 l:=by
 unfold QM;refine⟨λi m U H'=>m=kvs.length - i/\i<=kvs.length/\Pv i U H',⟨kvs.length,by simp,Qcw _,h0⟩,?_⟩;rintro i m U H' ⟨rfl,hi,p⟩;have q:=hl i U H' hi p;by_cases hlt:i < kvs.length
 ·refine .inr ⟨⟨hlt,q⟩,Pv (i+1),fun σ3 H3 p'=>⟨kvs.length - (i+1),by omega,rq,hlt,p'⟩,λx H2 y=>?_⟩;obtain⟨rfl,b,kv,hkv,hb,rfl⟩:=y;exact hs i kv b U _ hkv p hb
 ·have e:i=kvs.length:=by omega
  subst e;exact .inl ⟨⟨rq,q⟩,hd U H' p⟩
end
structure Xu (P:Program) (w:World) (K:YD) (mg:YB) (base:Heap) (C:Addr) (k:Nat) (ps:YF) (sp:Sp):Prop where
 ex:∃(f:Addr) (fd:FuncData),Mk K C f/\Binds K fd ps []/\Hi P w K mg base (CX1 P w) k f fd ps sp
theorem EB {P:Program} {w:World} {K:YD} {mg:YB} {base:Heap} {C:Addr} {m qn:Str} {st:Stmt} {ps N:YF} {k:Nat} {sp:Sp} (c:∃f fd,Fun K m qn st f fd/\Mk K C f/\Binds K fd ps []) (S:Ay N ps (Aj st)) (len:∀vs H Q E,sp vs H Q E->vs.length=ps.length)
  (hbody:∀(X:Cx) (f:Addr) (cdv:Value) (A:Around) (outer:List Env) (s:Shared) (H:Hp) (vs:YG) (Q:VK) (E:XK),X=Nr (CX1 P w) P w K mg base N qn (Aj st) f cdv A outer s H E->Ut X (λ_=>E)->Cm k X.A->sp vs H Q E ->
   ∃t,PSs X (Dg st) t/\t { nx:=λ_ H'=>Q .non H',rt:=Q } (start N vs) H):Xu P w K mg base C (k+1) ps sp:=by
 obtain⟨f,fd,F,M,b⟩:=c;refine⟨f,fd,M,b,?_⟩;obtain⟨oc,od,kV,doc,pm,an,cdv,ct,osl,rfl,lk,hcd⟩:=F.ex;exact zB lk hcd S len λA outer s H vs Q E hr hsp=>hbody _ f cdv A outer s H vs Q E rfl vM hr hsp
def BU (C:Addr) (sp:Sp) (EX:St->XK) (t:TA):TE:=fun U H Q=>t U H λvs H1=>∀x dx,H1 x=none->H1 dx=none->dx≠x ->
 sp (.ref x::vs) (upd (upd H1 dx (.own x)) x (.ins C dx [])) (λv H2=>v=.non/\Q (.ref x) H2) (EX U)
theorem CB {X:Cx} {EX:St->XK} {k k':Nat} {C:Addr} {ps:YF} {sp:Sp} {x:Str} {p pos:Pos} {e:Expr} {es:YJ} {t:TA} (g:Xu X.prog X.w X.K X.mg X.base C k ps sp) (hr:Cm k' X.A) (hm:X.mg x=some (.ref C)) (hx:Ut X EX) (ha:PA X (e::es) t) (hk:k+1<=k':=by decide) (hg:Gl X x:=by rfl)
  (hdb:(x == ("__debug__":Str))=false:=by decide) (he:starEach (e::es) X.env=(false,eval e X.env)::starEach es X.env:=by rfl) (hpl:(backTo pos (starEach es X.env)).any (·.1)=false:=by rfl) :
  PE X (.Call (.Name x p) (e::es) [] pos) (BU C sp EX t):=by
 intros Q I h;obtain⟨f,fd,M,b,F⟩:=g.ex;refine Qbh (Lp I hg hm ?_ hdb);refine callWith_K (h₀:=X.base) I.ok.mod.kin M.kp (thn (ha pos jb s U H _ I h) λus s1 zz=>?_) he hpl;obtain⟨vs,H1,I1,r,q⟩:=zz;refine⟨I1.kIn,?_⟩;have hq:=q (s1.heap.objs.size+1) s1.heap.objs.size (I1.hok.fresh (QcA _)) (I1.hok.fresh (Qcv _)) (Qcn (QbE _));have I2:=Inv.made (C:=C) I1;have r2:Vals (V.ref (s1.heap.objs.size+1)::vs) (Value.ref (s1.heap.objs.size+1)::us):=.cons rfl r;have hl:(Value.ref (s1.heap.objs.size+1)::us).length=ps.length:=by rw[<-r2.length];exact F.len _ _ _ _ hq
 have bd:=b _ (Value.ref (s1.heap.objs.size+1)::us) I2.kIn (by rw[QbM];exact hl);rw[QbM] at bd;refine wpAny_call (dG (f:=f) I1.kIn M.makes M.init (beq_iff_eq.mp M.fn) (Qct (F.run _ X.stack _ _ ⟨Value.ref (s1.heap.objs.size+1)::us,[]⟩ (Value.ref (s1.heap.objs.size+1)::us) _ _ (EX U) ((hr.mono hk).make C us [])
  (I2.env0.make C us []) bd r2 hq) λr s' hq'=>?_))
 cases r with
 | error e=>exact hx jb U _ _ e s' I2 hq'
 | ok fl=>
  cases fl with
  | ret u=>
   obtain⟨v,H',I3,rv,ev,q3⟩:=I2.after hq';subst ev;exact⟨rv,⟨V.ref (s1.heap.objs.size+1),H',I3,rq,q3⟩⟩
  | next=>exact False.elim hq'
  | brk=>exact False.elim hq'
  | cont=>exact False.elim hq'
def tC1 (sp:Sp) (t0:TE):TE:=fun U H Q=>t0 U H λv0 H0=>sp [v0] H0 Q E0
def tC2 (sp:Sp) (t0 t1:TE):TE:=fun U H Q=>t0 U H λv0 H0=>t1 U H0 λv1 H1=>sp [v0,v1] H1 Q E0
def tC3 (sp:Sp) (t0 t1 t2:TE):TE:=fun U H Q=>t0 U H λv0 H0=>t1 U H0 λv1 H1=>t2 U H1 λv2 H2=>sp [v0,v1,v2] H2 Q E0
def tC4 (sp:Sp) (t0 t1 t2 t3:TE):TE:=fun U H Q=>t0 U H λv0 H0=>t1 U H0 λv1 H1=>t2 U H1 λv2 H2=>t3 U H2 λv3 H3=>sp [v0,v1,v2,v3] H3 Q E0
def tC5 (sp:Sp) (t0 t1 t2 t3 t4:TE):TE:=fun U H Q=>t0 U H λv0 H0=>t1 U H0 λv1 H1=>t2 U H1 λv2 H2=>t3 U H2 λv3 H3=>t4 U H3 λv4 H4=>sp [v0,v1,v2,v3,v4] H4 Q E0
def tM0 (C:Addr) (m:Str) (sp:Sp) (ta:TE):TE:=fun U H Q=>ta U H λx G=>∃a dx fs,x=.ref a/\G a=some (.ins C dx fs)/\fs.lookup m=none/\sp [x] G Q E0
def tM1 (C:Addr) (m:Str) (sp:Sp) (ta t0:TE):TE:=fun U H Q=>ta U H λx G=>∃a dx fs,x=.ref a/\G a=some (.ins C dx fs)/\fs.lookup m=none/\t0 U G λv0 H0=>sp [x,v0] H0 Q E0
def tM2 (C:Addr) (m:Str) (sp:Sp) (ta t0 t1:TE):TE:=fun U H Q=>ta U H λx G=>∃a dx fs,x=.ref a/\G a=some (.ins C dx fs)/\fs.lookup m=none/\t0 U G λv0 H0=>t1 U H0 λv1 H1=>sp [x,v0,v1] H1 Q E0
def tM3 (C:Addr) (m:Str) (sp:Sp) (ta t0 t1 t2:TE):TE:=fun U H Q=>ta U H λx G=>∃a dx fs,x=.ref a/\G a=some (.ins C dx fs)/\fs.lookup m=none/\t0 U G λv0 H0=>t1 U H0 λv1 H1=>t2 U H1 λv2 H2=>sp [x,v0,v1,v2] H2 Q E0
section
variable {X:Cx} {pl:Sem Bool} {k k':Nat} {C:Addr} {ps:YF} {sp:Sp} {x m:Str} {p apos pos:Pos} {o e0 e1 e2 e3 e4 e5:Expr} {ta t0 t1 t2 t3 t4 t5:TE}
theorem BJ (g:Good X.prog X.w X.K X.mg X.base x k ps sp) (hr:Cm k' X.A) (ha:PA X [e0] (Ea t0 Nj)) (hk:k<=k':=by decide) (hg:Gl X x:=by rfl) (hdb:(x == ("__debug__":Str))=false:=by decide) (he:starEach [e0] X.env=(false,eval e0 X.env)::starEach [] X.env:=by rfl) (hpl:(backTo pos (starEach [] X.env)).any (·.1)=false:=by rfl):PE X (.Call (.Name x p) [e0] [] pos) (tC1 sp t0):=Ub g hr ha hk hg hdb he hpl
theorem BP (g:Good X.prog X.w X.K X.mg X.base x k ps sp) (hr:Cm k' X.A) (ha:PA X [e0,e1] (Ea t0 (Ea t1 Nj))) (hk:k<=k':=by decide) (hg:Gl X x:=by rfl) (hdb:(x == ("__debug__":Str))=false:=by decide) (he:starEach [e0,e1] X.env=(false,eval e0 X.env)::starEach [e1] X.env:=by rfl) (hpl:(backTo pos (starEach [e1] X.env)).any (·.1)=false:=by rfl):PE X (.Call (.Name x p) [e0,e1] [] pos) (tC2 sp t0 t1):=Ub g hr ha hk hg hdb he hpl
theorem CW (g:Good X.prog X.w X.K X.mg X.base x k ps sp) (hr:Cm k' X.A) (ha:PA X [e0,e1,e2] (Ea t0 (Ea t1 (Ea t2 Nj)))) (hk:k<=k':=by decide) (hg:Gl X x:=by rfl) (hdb:(x == ("__debug__":Str))=false:=by decide) (he:starEach [e0,e1,e2] X.env=(false,eval e0 X.env)::starEach [e1,e2] X.env:=by rfl) (hpl:(backTo pos (starEach [e1,e2] X.env)).any (·.1)=false:=by rfl):PE X (.Call (.Name x p) [e0,e1,e2] [] pos) (tC3 sp t0 t1 t2):=Ub g hr ha hk hg hdb he hpl
theorem Wv (g:Good X.prog X.w X.K X.mg X.base x k ps sp) (hr:Cm k' X.A) (ha:PA X [e0,e1,e2,e3] (Ea t0 (Ea t1 (Ea t2 (Ea t3 Nj))))) (hk:k<=k':=by decide) (hg:Gl X x:=by rfl) (hdb:(x == ("__debug__":Str))=false:=by decide) (he:starEach [e0,e1,e2,e3] X.env=(false,eval e0 X.env)::starEach [e1,e2,e3] X.env:=by rfl) (hpl:(backTo pos (starEach [e1,e2,e3] X.env)).any (·.1)=false:=by rfl):PE X (.Call (.Name x p) [e0,e1,e2,e3] [] pos) (tC4 sp t0 t1 t2 t3):=Ub g hr ha hk hg hdb he hpl
theorem pX (g:Good X.prog X.w X.K X.mg X.base x k ps sp) (hr:Cm k' X.A) (ha:PA X [e0,e1,e2,e3,e4] (Ea t0 (Ea t1 (Ea t2 (Ea t3 (Ea t4 Nj)))))) (hk:k<=k':=by decide) (hg:Gl X x:=by rfl) (hdb:(x == ("__debug__":Str))=false:=by decide) (he:starEach [e0,e1,e2,e3,e4] X.env=(false,eval e0 X.env)::starEach [e1,e2,e3,e4] X.env:=by rfl) (hpl:(backTo pos (starEach [e1,e2,e3,e4] X.env)).any (·.1)=false:=by rfl):PE X (.Call (.Name x p) [e0,e1,e2,e3,e4] [] pos) (tC5 sp t0 t1 t2 t3 t4):=Ub g hr ha hk hg hdb he hpl
theorem Wt (he:PE X o ta) (c:Cls X.K C) (g:BX X.prog X.w X.K X.mg X.base C m k ps sp) (hr:Cm k' X.A) (hk:k<=k':=by decide) (ht:eval (.Call (.Attribute o m apos) [] [] pos) X.env=(do
   let ov <-eval o X.env
   standAt apos.atName
   let (f,first) <-holding [ov] (getMethod ov m pl)
   callWith pos f first (backTo pos (starEach [] X.env)) (backToKw pos (keywordEach [] X.env))):=by rfl):PE X (.Call (.Attribute o m apos) [] [] pos) (tM0 C m sp ta):=CA (pl:=pl) he c g hr hk ht
theorem Iv (he:PE X o ta) (c:Cls X.K C) (g:BX X.prog X.w X.K X.mg X.base C m k ps sp) (hr:Cm k' X.A) (ha:PA X [e0] (Ea t0 Nj)) (hk:k<=k':=by decide) (hst:starEach [e0] X.env=(false,eval e0 X.env)::starEach [] X.env:=by rfl) (hpl:(backTo pos (starEach [] X.env)).any (·.1)=false:=by rfl) (ht:eval (.Call (.Attribute o m apos) [e0] [] pos) X.env=(do
   let ov <-eval o X.env
   standAt apos.atName
   let (f,first) <-holding [ov] (getMethod ov m pl)
   callWith pos f first (backTo pos (starEach [e0] X.env)) (backToKw pos (keywordEach [] X.env))):=by rfl):PE X (.Call (.Attribute o m apos) [e0] [] pos) (tM1 C m sp ta t0):=lY (pl:=pl) he c g hr ha hk hst hpl ht
theorem yV (he:PE X o ta) (c:Cls X.K C) (g:BX X.prog X.w X.K X.mg X.base C m k ps sp) (hr:Cm k' X.A) (ha:PA X [e0,e1] (Ea t0 (Ea t1 Nj))) (hk:k<=k':=by decide) (hst:starEach [e0,e1] X.env=(false,eval e0 X.env)::starEach [e1] X.env:=by rfl) (hpl:(backTo pos (starEach [e1] X.env)).any (·.1)=false:=by rfl) (ht:eval (.Call (.Attribute o m apos) [e0,e1] [] pos) X.env=(do
   let ov <-eval o X.env
   standAt apos.atName
   let (f,first) <-holding [ov] (getMethod ov m pl)
   callWith pos f first (backTo pos (starEach [e0,e1] X.env)) (backToKw pos (keywordEach [] X.env))):=by rfl):PE X (.Call (.Attribute o m apos) [e0,e1] [] pos) (tM2 C m sp ta t0 t1):=lY (pl:=pl) he c g hr ha hk hst hpl ht
theorem FK (he:PE X o ta) (c:Cls X.K C) (g:BX X.prog X.w X.K X.mg X.base C m k ps sp) (hr:Cm k' X.A) (ha:PA X [e0,e1,e2] (Ea t0 (Ea t1 (Ea t2 Nj)))) (hk:k<=k':=by decide) (hst:starEach [e0,e1,e2] X.env=(false,eval e0 X.env)::starEach [e1,e2] X.env:=by rfl) (hpl:(backTo pos (starEach [e1,e2] X.env)).any (·.1)=false:=by rfl) (ht:eval (.Call (.Attribute o m apos) [e0,e1,e2] [] pos) X.env=(do
   let ov <-eval o X.env
   standAt apos.atName
   let (f,first) <-holding [ov] (getMethod ov m pl)
   callWith pos f first (backTo pos (starEach [e0,e1,e2] X.env)) (backToKw pos (keywordEach [] X.env))):=by rfl):PE X (.Call (.Attribute o m apos) [e0,e1,e2] [] pos) (tM3 C m sp ta t0 t1 t2):=lY (pl:=pl) he c g hr ha hk hst hpl ht
end
end L2
namespace K13
open PySem L2
def top (i:Nat):Stmt:=PySem.Challenge.pw_warnloop_k13_whole_mended_as_at_first.main.body.getD i (.Pass ⟨0,0,0,0⟩)
theorem Bs:bootBuiltins "isinstance"=some (.builtin "isinstance"):=by trivial
theorem tL:bootBuiltins "int"=some (.type "int"):=by trivial
theorem Bi:bootBuiltins "bool"=some (.type "bool"):=by trivial
theorem LK:bootBuiltins "tuple"=some (.type "tuple"):=by trivial
theorem Be:bootBuiltins "list"=some (.type "list"):=by trivial
theorem EZ:bootBuiltins "str"=some (.type "str"):=by trivial
theorem CJ:bootBuiltins "len"=some (.builtin "len"):=by trivial
theorem Nh:bootBuiltins "all"=some (.builtin "all"):=by trivial
theorem tQ:bootBuiltins "abs"=some (.builtin "abs"):=by trivial
theorem fW:bootBuiltins "max"=some (.builtin "max"):=by trivial
theorem tO:bootBuiltins "any"=some (.builtin "any"):=by trivial
theorem ZK:bootBuiltins "sorted"=some (.builtin "sorted"):=by trivial
theorem Xm:bootBuiltins "min"=some (.builtin "min"):=by trivial
structure Nm (mg:YB):Prop where
 isinstance:mg "isinstance"=none
 int:mg "int"=none
 bool:mg "bool"=none
 tuple:mg "tuple"=none
 list:mg "list"=none
 str:mg "str"=none
 len:mg "len"=none
 all:mg "all"=none
 abs:mg "abs"=none
 max:mg "max"=none
 min:mg "min"=none
 range:mg "range"=none
 sorted:mg "sorted"=none
 any:mg "any"=none
 sum:mg "sum"=none
 enumerate:mg "enumerate"=none
 zip:mg "zip"=none
 reversed:mg "reversed"=none
 dict:mg "dict"=none
 ord:mg "ord"=none
abbrev Yj:Stmt:=top 56
abbrev QD:YF:=["_law_script","_law_k"]
theorem Vl:Ay ["_law_script","_law_k","_law_cell"] QD (Aj Yj):=by ac_rfl
abbrev Vm:Stmt:=top 57
abbrev Gb:YF:=["_law_bag_here","_law_many"]
theorem Km:Ay ["_law_bag_here","_law_many","_law_digit","_law_primes","_law_step","_law_base","_law_found"] Gb (Aj Vm):=by ac_rfl
theorem DI (v:V):isW v=(isI v&&!isB v):=by cases v <;> rfl
def Bu (H:Hp) (b:Addr) (n:Nat):Prop:=∃x y z:Int,H b=some (.lst [.int x,.int y,.int z])/\0<=x/\0<=y/\y<=4294967296/\0<=z/\z<=n
theorem Bu.same {H H':Hp} {b:Addr} {n:Nat} (h:Bu H b n) (s:Same H H'):Bu H' b n:=by
 obtain⟨x,y,z,e,r⟩:=h;exact⟨x,y,z,s _ _ e,r⟩
theorem Bu.mono {H:Hp} {b:Addr} {n m:Nat} (h:Bu H b n) (l:n<=m):Bu H b m:=by
 obtain⟨x,y,z,e,h1,h2,h3,h4,h5⟩:=h;exact⟨x,y,z,e,h1,h2,h3,h4,by omega⟩
theorem Bu.nb {H:Hp} {b p:Addr} {n:Nat} (h:Bu H b n) (hp:H p=none):b≠p:=by obtain⟨_,_,_,e,_⟩:=h;exact Aq e hp
theorem Bu.DG {H:Hp} {b:Addr} {n:Nat} (h:Bu H b n):∀xs,H b≠some (.tup xs):=λxs z=>by obtain⟨_,_,_,e,_⟩:=h;rw[e] at z;cases z
theorem Bu.ex {H:Hp} {b:Addr} {n:Nat} (h:Bu H b n):∃o,H b=some o:=by obtain⟨_,_,_,e,_⟩:=h;exact⟨_,e⟩
theorem Bu.Gw {H H':Hp} {a b:Addr} {n:Nat} (h:Bu H b n) (s:Ah a H H') (ne:b≠a):Bu H' b n:=by
 obtain⟨x,y,z,e,r⟩:=h;exact⟨x,y,z,s _ _ e ne,r⟩
theorem Av {n:Nat} (h:n<=1000):n<=sizeLine:=Qcs (Ar h)
theorem js:0<=sizeLine:=Av (by decide)
theorem jv:1<=sizeLine:=Av (by decide)
theorem ke:2<=sizeLine:=Av (by decide)
theorem kf:3<=sizeLine:=Av (by decide)
theorem ki:4<=sizeLine:=Av (by decide)
inductive lK (K:YD) (vs:YG) (H:Hp) (Q:VK) (E:XK):Prop
 | mk (a:Addr) (ns:List Int) (k:Int) (_:vs=[.ref a,.int k]) (_:SqL K H a (ns.map V.int)) (_:ns.length<=63) (_:0<=k) (_:k<=100) (_:∀p o,H p=none->Bu (upd H p o) p 0->Q (.ref p) (upd H p o)):lK K vs H Q E
inductive KH (vs:YG) (H:Hp) (Q:VK) (E:XK):Prop
 | mk (b:Addr) (n:Nat) (m:Int) (_:vs=[.ref b,.int m]) (_:Bu H b n) (_:n<=10000) (_:0 < m) (_:m < 1073741824) (_:∀r H',0<=r->r < m->Bu H' b (n+1)->Ah b H H'->Q (.int r) H'):KH vs H Q E
inductive Wf (K:YD) (vs:YG) (H:Hp) (Q:VK) (E:XK):Prop
 | mk (a:Addr) (ns:List Int) (_:vs=[.ref a]) (_:SqL K H a (ns.map V.int)) (_:ns.length<=63) (_:∀H',Q (.bl true) H'):Wf K vs H Q E
theorem at7 {i:Int} (h0:0<=i) (h7:i < 7) {a b c d e f g:Int} (P:Int->Prop) (ha:P a) (hb:P b) (hc:P c) (hd:P d) (he:P e) (hf:P f) (hg:P g):∃p,atI [V.int a,.int b,.int c,.int d,.int e,.int f,.int g] i=some (.int p)/\P p:=by
 have:i=0\/i=1\/i=2\/i=3\/i=4\/i=5\/i=6:=by omega
 rcases this with rfl | rfl | rfl | rfl | rfl | rfl | rfl
 ·exact⟨_,rq,ha⟩
 ·exact⟨_,rq,hb⟩
 ·exact⟨_,rq,hc⟩
 ·exact⟨_,rq,hd⟩
 ·exact⟨_,rq,he⟩
 ·exact⟨_,rq,hf⟩
 ·exact⟨_,rq,hg⟩
theorem EV {x:Int} {b:Bool}:oU x (if b=true then 1 else 0):=.inr (by cases b <;> exact⟨by decide,by decide⟩)
theorem v7 (C:Code K mg "_law_bag" Yj QD) (T:Nm mg):⋯ "_law_bag" 1 QD (lK K):=by
 exists C,Vl
 obtain⟨a,ns,k,rfl,hS,h63,h0,h1,q⟩:=h;refine⟨_,(Ae (2∪Vl∪(Bf CG (Bf CG (Bf Ji (Bf Ji Af (pv 1)) (pv 1)) (Bf Ji Af (pv 1))) Af))
 (Ae (Ce (Br WD (pv 1) (Aw Bh rfl T.len CJ (Aa (pv 0) Ac)) (Bv _)) (Ag (2∪Vl∪(Bj Dn (pv 0) (pv 1) (λ_ _=>rfl)))) Bt)
 (Ag (Az (BZ (Aa (Bf Ji (Aw fV rfl T.abs tQ (Aa (pv 2) Ac)) (Jg tH rfl T.int tL (Aa (G4 FS (Aw fV rfl T.abs tQ (Aa (pv 2) Ac)) (Bf p8 Af Af) (Bv _)) Ac))) (Aa (Bf CG (Bf M6 (pv 2) Af) (Bf Ji Af (pv 1))) (Aa Af Ac)))))))),?_⟩
 show let R0:TS:=_;let R1:TS:=_;let R2:TS:=Ao (Hr _ R1 _) R0;Ao _ R2 _ _ _;intro R0 R1 R2;refine⟨_,rq,_,_,rq,rq,.inl ⟨by decide,by decide⟩,_,rq,_,_,rq,rq,.inr ⟨by omega,by omega⟩,_,rq,_,_,rq,rq,.inl ⟨by decide,by decide⟩,_,_,rq,rq,_,_,rq,rq,?_⟩;refine⟨_,rq,_,rq,a,_,rq,.inl hS,_,_,rq,rq,_,rq,?_⟩;have hl:(ns.map V.int).length=ns.length:=QbH _;have fin:∀(c:Int) (p:Addr),H p=none->Q (.ref p) (upd H p (.lst [.int ((if c < 0 then -c else c)*(if decide ((10:Int) ^ (18:Int).toNat<=(if c < 0 then -c else c))=true then 1 else 0)),.int (c % 2147483647+37*k),.int 0])):=λc p hp=>by
  refine q p _ hp ⟨_,_,_,Ab,?_,?_,?_,by omega,by omega⟩
  ·refine Int.mul_nonneg ?_ ?_
   ·split <;> omega
   ·split <;> omega
  ·have:=QbV c (show (2147483647:Int)≠0 by decide);omega
  ·have:=Qbi c (show (0:Int) < 2147483647 by decide);omega
 refine Jx (λc1=>?_) (λc1=>?_)
 ·have c':k < (((ns.map V.int).length:Nat):Int):=Qbs c1;rw[hl] at c';have hk:k.toNat < ns.length:=by omega
  have hat:atI (ns.map V.int) ((k.toNat:Nat):Int)=some (.int ns[k.toNat]):=Fq (by rw[Qbm];simp[hk]);rw[QaU h0] at hat;refine⟨_,rq,_,rq,a,_,_,_,rq,rq,hS,hat,?_⟩;exact⟨_,rq,_,rq,_,rq,_,rq,_,_,rq,rq,⟨by decide,by decide,by decide⟩,_,_,rq,rq,.inr ⟨_,rq,_,_,rq,rq,EV,_,rq,_,_,rq,rq,(by show (0:Int) < 2147483647;decide),_,rq,_,_,rq,rq,.inl ⟨by decide,by decide⟩,_,_,rq,rq,
   (by show 3<=sizeLine;decide),λl hl'=>fin _ l hl'⟩⟩
 ·exact⟨_,rq,_,rq,_,rq,_,rq,_,_,rq,rq,⟨by decide,by decide,by decide⟩,_,_,rq,rq,.inr ⟨_,rq,_,_,rq,rq,EV,_,rq,_,_,rq,rq,(by show (0:Int) < 2147483647;decide),_,rq,_,_,rq,rq,.inl ⟨by decide,by decide⟩,_,_,rq,rq,
   (by show 3<=sizeLine;decide),λl hl'=>fin _ l hl'⟩⟩
theorem qt (C:Code K mg "_law_take" Vm Gb) (T:Nm mg):⋯ "_law_take" 1 Gb KH:=by
 exists C,Km
 obtain⟨b,n,m,rfl,⟨x,y,z,hb,x0,y0,y1,z0,z1⟩,hn,m0,m1,q⟩:=h;refine⟨_,(Ae (Ce (Br WL (Bj Dn (pv 0) Af (λ_ _=>rfl)) Af (Bv _)) (Ae (2∪Km∪(Bf M6 (Bj Dn (pv 0) Af (λ_ _=>rfl)) (pv 1)))
 (Ae (GZ (Bf Yq (Bj Dn (pv 0) Af (λ_ _=>rfl)) (pv 1)) (cL (pv 0) Af set_list))
 (Ag (Az (pv 2))))) Bt)
 (Ae (3∪Km∪(@Bb _ _ _ _ _ (0&&&(0&&&(0&&&(0&&&(0&&&(0&&&(0&&&(@Ac _) Bg) Bg) Bg) Bg) Bg) Bg) Bg)))
 (Ae (GZ (Bf CG (Bj Dn (pv 0) Af (λ_ _=>rfl)) Af) (cL (pv 0) Af set_list))
 (Ae (4∪Km∪(Bj Dn (pv 0) Af (λ_ _=>rfl)))
 (Ae (5∪Km∪(Bf CG (Bf CG (Bf Ji (Bj Dn (pv 0) Af (λ_ _=>rfl)) (Bf CG (Bf Ji Af (pv 4)) Af)) (Bf Ji (Bf Ji Af (pv 4)) (pv 4))) Af))
 (Ae (6∪Km∪(Bf M6 (Bf p8 (pv 5) Af) (Bj Bw (pv 3) (Bf M6 (pv 4) Af) (λ_ _=>rfl))))
 (Ag (Az (Bf M6 (Bf Yq (Bf M6 (Bf Ji (pv 6) (Bf CG (Bf Yq (pv 6) Af) Af)) (Bj Bw (pv 3) (Bf M6 (Bf CG (pv 4) Af) Af) (λ_ _=>rfl))) Af) (pv 1)))))))))),?_⟩
 show let R0:TS:=_;let R1:TS:=Ao _ R0;let R2:TS:=Ao _ R1;let R3:TS:=Ao _ R2;let R4:TS:=Ao _ R3;let R5:TS:=Ao _ R4;let R6:TS:=Ao _ _;let R7:TS:=Ao _ R6;Ao (Hr _ R7 _) R5 _ _ _;intro R0 R1 R2 R3 R4 R5 R6 R7;refine⟨_,rq,b,_,_,_,rq,rq,SqL.of hb,rq,_,_,rq,rq,_,rq,?_⟩;refine Jx (λc1=>?_) (λc1=>?_)
 ·have c':0 < x:=Qbs c1;refine⟨_,rq,b,_,_,_,rq,rq,SqL.of hb,rq,_,rq,_,_,rq,rq,m0,?_⟩;refine⟨_,rq,b,_,_,_,rq,rq,SqL.of hb,rq,_,rq,_,_,rq,rq,⟨m0,m1⟩,_,rq,b,_,_,_,rq,rq,hb,rq,?_⟩;exact⟨_,rq,q _ _ (QbV x (by omega)) (Qbi x m0) ⟨x / m,y,z,Ab,Int.ediv_nonneg x0 (by omega),y0,y1,z0,by omega⟩ Ah.upd⟩
 ·refine⟨(by show 7<=sizeLine;decide),λtp htp=>?_⟩;have nbt:b≠tp:=Aq hb htp;have hb1:∀o,(upd H tp o) b=some (.lst [.int x,.int y,.int z]):=λo=>by rw[Am nbt];exact hb
  have ht1:∀o u,(upd (upd H tp o) b u) tp=some o:=λo u=>by rw[Am nbt.symm,Ab]
  refine⟨_,rq,b,_,_,_,rq,rq,SqL.of (hb1 _),rq,_,_,rq,rq,_,rq,b,_,_,_,rq,rq,hb1 _,rq,?_⟩;refine⟨_,rq,b,_,_,_,rq,rq,SqL.of Ab,rq,?_⟩;have s0:0<=z+1:=by omega
  have s1:z+1<=10001:=by omega
  refine⟨_,rq,b,_,_,_,rq,rq,SqL.of Ab,rq,_,rq,_,_,rq,rq,.inl ⟨by decide,by decide⟩,_,_,rq,rq,_,_,rq,rq,.inl ⟨by omega,by omega⟩,_,rq,_,_,rq,rq,.inl ⟨by decide,by decide⟩,_,rq,_,_,rq,rq,.inr ⟨by omega,by omega⟩,
   _,_,rq,rq,_,_,rq,rq,?_⟩
  have hbase:(y*(2*(z+1)+1)+6007*(z+1)*(z+1)+29).natAbs < 2 ^ 64:=by
   have h1:0<=y*(2*(z+1)+1):=Int.mul_nonneg y0 (by omega);have h2:y*(2*(z+1)+1)<=4294967296*20003:=Int.mul_le_mul y1 (by omega) (by omega) (by omega);have h3:0<=6007*(z+1)*(z+1):=Int.mul_nonneg (by omega) s0;have h4:6007*(z+1)*(z+1)<=(6007*10001)*10001:=Int.mul_le_mul (by omega) s1 s0 (by omega);omega
  obtain⟨p1,e1,p10,p11⟩:=at7 (i:=(z+1) % 7) (QbV _ (by decide)) (Qbi _ (by decide)) (a:=2147483629) (b:=2147483587) (c:=2147483579) (d:=2147483563) (e:=2147483549) (f:=2147483543) (g:=2147483497)
   (λp=>0 < p/\p < 2147483648) (by decide) (by decide) (by decide) (by decide) (by decide) (by decide) (by decide)
  obtain⟨p2,e2,p20,p21⟩:=at7 (i:=(z+1+3) % 7) (QbV _ (by decide)) (Qbi _ (by decide)) (a:=2147483629) (b:=2147483587) (c:=2147483579) (d:=2147483563) (e:=2147483549) (f:=2147483543) (g:=2147483497)
   (λp=>0 < p/\p < 2147483648) (by decide) (by decide) (by decide) (by decide) (by decide) (by decide) (by decide)
  refine⟨_,rq,_,_,rq,rq,⟨by decide,by decide,hbase⟩,_,rq,_,rq,_,_,rq,rq,(by show (0:Int) < 7;decide),tp,_,_,_,rq,rq,SqT.of (ht1 _ _),e1,_,_,rq,rq,p10,?_⟩;generalize hF:(y*(2*(z+1)+1)+6007*(z+1)*(z+1)+29) ^ (3:Int).toNat % p1=F;have F0:0<=F:=by rw[<-hF];exact QbV _ (by omega)
  have F1:F < p1:=by rw[<-hF];exact Qbi _ p10
  refine⟨_,rq,_,rq,_,_,rq,rq,⟨by decide,by decide⟩,_,_,rq,rq,_,_,rq,rq,.inl ⟨by omega,by omega⟩,_,rq,_,rq,_,_,rq,rq,_,_,rq,rq,(by show (0:Int) < 7;decide),tp,_,_,_,rq,rq,SqT.of (ht1 _ _),e2,_,_,rq,rq,p20,
   _,_,rq,rq,⟨by decide,by decide⟩,_,rq,_,_,rq,rq,m0,?_⟩
  refine q _ _ (QbV _ (by omega)) (Qbi _ m0) ⟨x,y,z+1,Ab,x0,y0,y1,s0,by omega⟩ λc o e nc=>?_;rw[Am nc,Am (Aq e htp)];exact e
abbrev Q8:Stmt:=top 58
abbrev Ox:YF:=["_law_bag_here"]
abbrev xD:YF:=["_law_bag_here","_law_letters"]
theorem Zn:Ay xD Ox (Aj Q8):=by ac_rfl
abbrev Ph:Stmt:=top 59
abbrev MK:YF:=["_law_bag_here","_law_many"]
abbrev xE:YF:=["_law_bag_here","_law_many","_law_found","_law_place","_law_name_here"]
theorem KQ:Ay xE MK (Aj Ph):=by ac_rfl
theorem AW {K:YD} {H:Hp} {z:Str} {Q:VK} (q:Q (.bl true) H):Qj K [.str z,.ty "str"] H Q:=by
 unfold Qj;exact⟨_,_,_,_,rq,.str z,by rfl,q⟩
def abc:Str:="abcdefghijklmnopqrstuvwxyz"
def okS (z:Str):Prop:=∀c∈z.cps.toList,c∈abc.cps.toList
theorem okS.append {x y:Str} (h:okS x) (h':okS y):okS (x++y):=by
 intro c hc;have:c∈x.cps.toList++y.cps.toList:=by
  have e:(x++y).cps=x.cps++y.cps:=rfl;rw[e,Array.toList_append] at hc;exact hc
 rcases QbI.mp this with z | z
 ·exact h c z
 ·exact h' c z
theorem okS.slice {x:Str} (h:okS x) (l u:Option Int):okS (Txt.slice x l u):=by
 unfold Txt.slice;split
 ·exact h
 ·intro c hc;have hc':c∈(Builtin.Str.strSliceIndices l u 1 x.length).filterMap (x.cps[·]?):=by simpa using hc
  obtain⟨i,_,e⟩:=List.mem_filterMap.mp hc';exact h c (Array.mem_toList_iff.mpr (Array.mem_of_getElem? e))
theorem okS.join {sep:Str} (hs:okS sep):∀{ts:YF},(∀t∈ts,okS t)->okS (Str.join sep ts)
 | [],_=>λc hc=>by cases hc
 | [x],h=>h x (QaW ..)
 | x::y::r,h=>((h x (QaW ..)).append hs).append (okS.join hs (ts:=y::r) λt ht=>h t (QaJ _ ht))
theorem Us:abc.cps.toList.length=26:=by trivial
theorem E6:abc.cps.toList.Nodup:=by trivial
theorem tU:okS abc:=λc hc=>hc
theorem dW:∀ts:YF,(Str.join "" ts).length=(ts.map (·.length)).sum
 | []=>rfl
 | [x]=>by show x.length=_;simp
 | x::y::r=>by
  show ((x++"")++Str.join "" (y::r)).length=_;rw[Str.length_append,Str.length_append,dW (y::r),Qce (a:=x),List.sum_cons];have:(Str.ofString "").length=0:=by trivial
  rw[this];omega
theorem MU (n:Nat):(Builtin.Str.strSliceIndices (some 1) none 1 n).length<=n - 1:=by
 unfold Builtin.Str.strSliceIndices sliceRange;simp only[show (1:Int) > 0 by decide,if_true,QbH,Qbt,show ¬((1:Int) < 0) by decide,if_false];split
 ·rw[Int.ediv_one];omega
 ·exact Qcw _
theorem pB (z:Str):(Txt.slice z (some 1) none).length<=z.length - 1:=by
 have h:=MU z.length;unfold Txt.slice;split
 ·rename_i hc;rw[QbF] at hc;have:=eq_of_beq hc.2;omega
 ·show (List.filterMap _ _).toArray.size<=_;rw[Qbl];exact Qco (List.length_filterMap_le _ _) h
theorem E7 {r:Int} (h0:0<=r) (h1:r < 26):∃c,atI abc.cps.toList r=some c/\okS ⟨#[c]⟩:=by
 have hl:r.toNat < abc.cps.toList.length:=by rw[Us];omega
 refine⟨abc.cps.toList[r.toNat],?_,λc hc=>?_⟩
 ·have:=Fq (xs:=abc.cps.toList) (j:=r.toNat) (Qan hl);rw[QaU h0] at this;exact this
 ·have:c=abc.cps.toList[r.toNat]:=by simpa using hc
  rw[this];exact tU _ (List.getElem_mem hl)
theorem aZ:∀{ys:YF},(∀y∈ys,y.length=1)->(ys.map (·.length)).sum=ys.length
 | [],_=>rfl
 | y::r,h=>by
  rw[Qce,List.sum_cons,h y (QaW ..),aZ (ys:=r) λt ht=>h t (QaJ _ ht),Qbz];omega
theorem ZC (ys:YF):(ys.map V.str).all Ms=true:=by
 rw[List.all_map,List.all_eq_true];intro _ _;rfl
theorem Rj (z:Str):∀ys:YF,inV (.str z) (ys.map V.str)=true ↔ z∈ys
 | []=>by constructor <;> intro h <;> cases h
 | y::r=>by
  have ih:=Rj z r;unfold inV at ih ⊢;rw[Qce,Qci,Bool.or_eq_true,ih,Qcd];have:eqV (.str y) (.str z)=true ↔ z=y:=by
   show (y == z)=true ↔ z=y;rw[beq_iff_eq];exact⟨λh=>h.symm,λh=>h.symm⟩
  rw[this]
theorem Zt:∀{l m:YF},l.Nodup->(∀x∈l,x∈m)->l.length<=m.length
 | [],_,_,_=>Qcw _
 | a::r,m,nd,h=>by
  have ha:=h a (QaW ..);obtain⟨n1,n2⟩:=QbO.mp nd;have:=Zt (l:=r) (m:=m.erase a) n2 λx hx=>(List.mem_erase_of_ne (λe=>n1 (by rw[<-e];exact hx))).mpr (h x (QaJ _ hx));rw[List.length_erase_of_mem ha] at this;have hp:=List.length_pos_of_mem ha;rw[Qbz];omega
theorem iD (rest:Str) {ys:YF} (h:ys.length < 26):∃(i c:Nat),abc.cps[i]?=some c/\((⟨#[c]⟩ : Str)++rest)∉ys:=by
 refine Qaj λhn=>?_;have hall:∀x∈abc.cps.toList.map (λc=>(⟨#[c]⟩ : Str)++rest),x∈ys:=λx hx=>by
  obtain⟨c,hc,rfl⟩:=Qcl.mp hx;obtain⟨i,hi⟩:=QaL hc;refine Qaj λhm=>hn ⟨i,c,by simpa using hi,hm⟩
 have nd:(abc.cps.toList.map (λc=>(⟨#[c]⟩ : Str)++rest)).Nodup:=by
  refine Qbx.mpr (E6.imp λ{c d} hne e=>hne ?_);have e1:(#[c]++rest.cps:Array Nat)=#[d]++rest.cps:=congrArg Str.cps e;have e2:=congrArg Array.toList e1;rw[Array.toList_append,Array.toList_append] at e2;injection e2
 have:=Zt nd hall;rw[QbH,Us] at this;omega
theorem QcF {α : Type} {l:List α} {i:Nat} {x:α} (h:l[i]?=some x):l.take (i+1)=l.take i++[x]:=by rw[List.take_add_one,h];rfl
theorem ou {X:Cx} {K:YD} (h:X.K=K) (hc:X.calm=true):Ft X (.builtin "max") (λxs H Q=>∃(p:Addr) (ns:List Int),xs=[.ref p]/\SqL K H p (ns.map V.int)/\0 < ns.length/\∀M,M∈ns->(∀a,a∈ns->a<=M)->Q (.int M) H):=h ▸ ZJ hc
theorem Ah.QV {a b:Addr} {H HH H':Hp} (s:Ah b H HH) (t:Ah a HH H') (f:H a=none):Ah b H H':=λc o e n=>t _ _ (s _ _ e n) λz=>by rw[z,f] at e;cases e
theorem QI {i:Int} (h0:0<=i) (h6:i < 6) {a b c d e f:Int} (P:Int->Prop) (ha:P a) (hb:P b) (hc:P c) (hd:P d) (he:P e) (hf:P f):∃p,atI [V.int a,.int b,.int c,.int d,.int e,.int f] i=some (.int p)/\P p:=by
 have:i=0\/i=1\/i=2\/i=3\/i=4\/i=5:=by omega
 rcases this with rfl | rfl | rfl | rfl | rfl | rfl
 ·exact⟨_,rq,ha⟩
 ·exact⟨_,rq,hb⟩
 ·exact⟨_,rq,hc⟩
 ·exact⟨_,rq,hd⟩
 ·exact⟨_,rq,he⟩
 ·exact⟨_,rq,hf⟩
inductive bJ (vs:YG) (H:Hp) (Q:VK) (E:XK):Prop
 | mk (b:Addr) (n:Nat) (_:vs=[.ref b]) (_:Bu H b n) (_:n<=9000) (_:∀z H',1<=z.length->z.length<=8->okS z->Bu H' b (n+9)->Ah b H H'->Q (.str z) H'):bJ vs H Q E
inductive X5 (vs:YG) (H:Hp) (Q:VK) (E:XK):Prop
 | mk (b:Addr) (n many:Nat) (_:vs=[.ref b,.int many]) (_:Bu H b n) (_:n<=8000) (_:many<=20) (_:∀l (ys:YF) H',H l=none->ys.length=many->(∀y∈ys,(1<=y.length/\y.length<=8)/\okS y)->ys.Nodup->H' l=some (.lst (ys.map V.str))->Bu H' b (n+9*many)->Ah b H H'->Q (.ref l) H'):X5 vs H Q E
abbrev jp(a:PySem.Addr):Option L2.V:=some (.ref a)
abbrev xF:YF:=["_law_place","_law_letters","_law_bag_here"]
theorem AE (C:Code K mg "_law_name" Q8 Ox) (T:Nm mg) (Bl:⋯ "_law_take" 1 Gb KH):⋯ "_law_name" 2 Ox bJ:=by
 exists C,Zn
 obtain⟨b,n,rfl,hb,hn,q⟩:=h;refine⟨_,(Ae (Ba (i:=1) Zn.nd rfl (Or.inr rfl) Bd)
 (Ag (Az (Cy PySem.F.plainAttrs_str PySem.F.slot_str_join PySem.F.type_str_join AS Bd (Aa (Cw (N':=xF) rfl ([none,some 1,some 0]|||(Aj Q8)|||xD) (Dd rfl T.range (Aa (Bf CG Af (BP Bl hr (Aa (pv 0) (Aa Af Ac)))) Ac)) (~~~(0∩xF)) (λ_ _ _ _=>CT) (~~~(Bj DF (pv 1) (BP Bl hr (Aa (pv 2) (Aa Af Ac))) (λ_ _=>rfl)))) Ac))))),?_⟩
 show let R0:TS:=_;Ao _ R0 _ _ _;intro R0;refine⟨rq,_,rq,b,n,8,rq,hb,by omega,by decide,by decide,λr H1 r0 r1 hb1 sb1=>⟨_,_,rq,rq,_,rq,by omega,by omega,λl hl=>?_⟩⟩;have nbl:b≠l:=hb1.nb hl;have fl:H l=none:=sb1.free hb1.ex hl;let J0:YN:=λi U HH=>∃(u:Option V) (ys:YF),U=[u,some (.str abc),jp b]/\HH l=some (.lst (ys.map V.str))/\ys.length=i/\(∀y∈ys,y.length=1/\okS y)/\Bu HH b (n+1+i)/\Ah b H HH;refine K7 J0
  ⟨none,[],rq,Ab,rq,(λy hy=>by cases hy),hb1.same (Ad hl _),sb1.trans (Ah.of (Ad hl _))⟩ (λi U HH hi h=>?_) (fun U HH h=>?_)
 ·obtain⟨u,ys,rfl,e1,e2,e3,e4,e5⟩:=h;refine⟨_,rq,_,rq,b,_,26,rq,e4,by omega,by decide,by decide,λr' HA r0' r1' hbA sA=>?_⟩;obtain⟨c,ec,oc⟩:=E7 r0' r1';have eA:=sA _ _ e1 nbl.symm;refine⟨_,_,c,rq,rq,Av (by show abc.cps.size<=1000;rw[<-QaR,Us];decide),ec,_,eA,Ar (by rw[QbH];omega),_,ys++[⟨#[c]⟩],rq,?_,?_,λy hy=>?_,hbA.Gw Ah.upd nbl,?_⟩
  ·rw[Ab,QbJ];rfl
  ·rw[QaV,e2];rfl
  ·rcases QbI.mp hy with h | h
   ·exact e3 y h
   ·have:y=⟨#[c]⟩:=by simpa using h
    rw[this];exact⟨rq,oc⟩
  ·exact λc o e ne=>Ah.upd _ _ (sA _ _ (e5 _ _ e ne) ne) λz=>by rw[z,fl] at e;cases e
 obtain⟨u,ys,rfl,e1,e2,e3,e4,e5⟩:=h;have hs:=aZ λy hy=>(e3 y hy).1;refine⟨_,l,ys,rq,rq,SqL.of e1,?_,?_⟩
 ·rw[hs];have:(Str.ofString "").length=0:=by trivial
  rw[this];omega
 ·have hj:=dW ys;rw[hs] at hj;refine q _ HH ?_ ?_ ?_ (e4.mono (by omega)) e5
  ·show 1<=(Builtin.Str.glued _ ys).length;rw[StrLaws.glued_eq_join];show 1<=(Str.join "" ys).length;omega
  ·show (Builtin.Str.glued _ ys).length<=8;rw[StrLaws.glued_eq_join];show (Str.join "" ys).length<=8;omega
  ·show okS (Builtin.Str.glued _ ys);rw[StrLaws.glued_eq_join];exact okS.join (λc hc=>by cases hc) λy hy=>(e3 y hy).2
abbrev xI:YF:=["_law_one","_law_name_here","_law_found"]
theorem vZ (C:Code K mg "_law_names" Ph MK) (T:Nm mg) (yg:⋯ "_law_name" 2 Ox bJ):⋯ "_law_names" 3 MK X5:=by
 exists C,KQ
 obtain⟨b,n,many,rfl,hb,hn,hm,q⟩:=h;refine⟨_,(Ae (Ba (i:=2) KQ.nd rfl (Or.inr rfl) (BZ Ac))
 (Ae (Cj QbK rfl (Dd rfl T.range (Aa (pv 1) Ac)) (3∣KQ)
 (Ae (Ba (i:=4) KQ.nd rfl (Or.inr rfl) (BJ yg hr (Aa (pv 0) Ac)))
 (Ae (Ce (Br S6 (pv 4) (pv 2) (by with_unfolding_all rfl)) (Ag (Ba (i:=4) KQ.nd rfl (Or.inr rfl) (Bj Dn (Cw (N':=xI) rfl ([none,some 4,some 2]|||(Aj Ph)|||xE) (pU Bd) (~~~(0∩xI)) (~~~(G3 (Br (RD (K:=K) rfl) (Bf WM (pv 0) (Je pC (pv 1) (Kr Af) Ks)) (pv 2) (by with_unfolding_all rfl)))) (~~~(Bf WM (pv 0) (Je pC (pv 1) (Kr Af) Ks)))) Af (λ_ _=>rfl)))) Bt)
 (Ag (Bc (Cy Qas Qao Qap Cv (pv 2) (Aa (pv 4) Ac)))))))
 (Ag (Az (pv 2))))),?_⟩
 show let R0:TS:=_;let R1:TS:=_;let R2:TS:=Ao (Hr _ R1 _) R0;let R3:TS:=Ao _ R2;let R4:TS:=Ao (Dq _ _ R3) _;Ao _ R4 _ _ _;intro R0 R1 R2 R3 R4;refine⟨js,λlf hlf=>?_⟩;have s1:=Ad hlf (.lst []);have nbf:b≠lf:=hb.nb hlf;refine⟨_,rq,_,rq,by omega,by omega,?_⟩;rw[Qbo];let J1:YN:=λi U HH=>∃(u3 u4:Option V) (ys:YF),U=[jp b,some (.int many),jp lf,u3,u4]/\HH lf=some (.lst (ys.map V.str))/\ys.length=i/\(∀y∈ys,(1<=y.length/\y.length<=8)/\okS y)/\Bu HH b (n+9*i)/\Ah b H HH/\ys.Nodup;refine Fi J1
  ⟨_,_,[],rq,Ab,rq,(λy hy=>by cases hy),hb.same s1,Ah.of s1,QbZ⟩ (λi U HH hi h=>?_) (fun U HH h=>?_)
 ·obtain⟨u3,u4,ys,rfl,e1,e2,e3,e4,e5,e6⟩:=h;refine⟨_,rq,b,_,rq,e4,by omega,λz HA hz1 hz oz hbA sA=>?_⟩;have eA:=sA _ _ e1 nbf.symm;have s5:Ah b H HA:=e5.trans sA;have fin:∀(y:Str) (HB:Hp),(1<=y.length/\y.length<=8)->okS y->y∉ys->HB lf=some (.lst (ys.map V.str))->Bu HB b (n+9*i+9)->Ah b H HB->∃(u3 u4:Option V) (ys':YF),[some (V.ref b),some (.int many),jp lf,some (.int (0+(i:Int))),some (.str y)]=[jp b,some (.int many),jp lf,u3,u4] /\
    upd HB lf (.lst (ys.map V.str++[.str y])) lf=some (.lst (ys'.map V.str))/\ys'.length=i+1/\(∀y∈ys',(1<=y.length/\y.length<=8)/\okS y)/\Bu (upd HB lf (.lst (ys.map V.str++[.str y]))) b (n+9*(i+1))/\Ah b H (upd HB lf (.lst (ys.map V.str++[.str y])))/\ys'.Nodup:=λy HB hy oy hny hB bB sB=>by
   refine⟨_,_,ys++[y],rq,?_,?_,λx hx=>?_,(bB.Gw Ah.upd nbf).mono (by omega),Ah.QV sB Ah.upd hlf,jD e6 hny⟩
   ·rw[Ab,QbJ];rfl
   ·rw[QaV,e2];rfl
   ·rcases QbI.mp hx with h | h
    ·exact e3 x h
    ·have:x=y:=by simpa using h
     rw[this];exact⟨hy,oy⟩
  refine⟨_,rq,_,rq,lf,_,rq,.inl (SqL.of eA),rq,ZC ys,_,rq,Jx (λ_=>?_) (λhnz=>?_)⟩
  ·refine⟨_,rq,λl2 hl2=>?_⟩;have nfl:lf≠l2:=Aq eA hl2;have hsl:(Txt.slice z (some 1) none).length<=7:=Qco (pB z) (by omega);have osl:=oz.slice (some 1) none;let J2:YN:=λi U HH=>∃(u:Option V) (ws:YF),U=[u,some (.str z),jp lf]/\HH=upd HA l2 (.lst (ws.map V.str))/\ws.length<=i/\(∀y∈ws,((1<=y.length/\y.length<=8)/\okS y)/\y∉ys)/\((∃j c,j < i/\abc.cps[j]?=some c/\((⟨#[c]⟩ : Str)++Txt.slice z (some 1) none)∉ys)->ws≠[]);refine fH J2
    ⟨none,[],rfl,rfl,Qcv _,(λy hy=>by cases hy),λ⟨j,c,hj,_⟩=>absurd hj (QbU _)⟩ (λj c U HH hc h=>?_) (fun U HH h=>?_)
   ·obtain⟨u,ws,rfl,rfl,l1,l2',l3⟩:=h;have hj:j < 26:=by
     have:=(Qaf.mp hc).1;rw[<-QaR] at this;have e:=Us;unfold abc at e;omega
    have oc:okS ⟨#[c]⟩:=λd hd=>by
     have:d=c:=by simpa using hd
     rw[this];exact tU c (Array.mem_toList_iff.mpr (Array.mem_of_getElem? hc))
    have hlen:(⟨#[c]⟩ : Str).length+(Txt.slice z (some 1) none).length<=sizeLine:=by
     show 1+_<=sizeLine;rw[Qcz];omega
    have hzl:z.length<=sizeLine:=by rw[Qcz];omega
    have eB:upd HA l2 (.lst (ws.map V.str)) lf=some (.lst (ys.map V.str)):=by rw[Am nfl];exact eA
    refine⟨_,rq,_,rq,_,rq,_,rq,hzl,_,_,rq,rq,hlen,_,rq,lf,_,rq,.inl (SqL.of eB),rq,ZC ys,_,rq,Jx (λt=>?_) (λt=>?_)⟩
    ·refine⟨_,rq,_,rq,_,rq,_,rq,hzl,_,_,rq,rq,hlen,_,Ab,Ar (by rw[QbH];omega),_,ws++[(⟨#[c]⟩ : Str)++Txt.slice z (some 1) none],rq,?_,?_,λy hy=>?_,λ_ e=>?_⟩
     ·rw[TF,QbJ];rfl
     ·rw[QaV];show _+1<=_;omega
     ·rcases QbI.mp hy with h | h
      ·exact l2' y h
      ·have e:y=(⟨#[c]⟩ : Str)++Txt.slice z (some 1) none:=by simpa using h
       rw[e];refine⟨⟨⟨by rw[Str.length_append];show 1<=1+_;omega,by rw[Str.length_append];show 1+_<=8;omega⟩,oc.append osl⟩,λhin=>?_⟩;have t:(!inV (.str ((⟨#[c]⟩ : Str)++Txt.slice z (some 1) none)) (ys.map V.str))=true:=t;rw[(Rj _ ys).mpr hin] at t;cases t
     ·have:=congrArg List.length e;rw[QaV] at this;simp at this
    ·refine⟨_,ws,rfl,rfl,by omega,l2',λ⟨j',c',hj',hc',hn'⟩=>?_⟩;by_cases ej:j'=j
     ·subst ej;have ec:c'=c:=by
       have e1:abc.cps[j']?=some c:=hc;rw[hc'] at e1;exact QbN e1
      subst ec;exfalso;apply t;show (!inV (.str ((⟨#[c']⟩ : Str)++Txt.slice z (some 1) none)) (ys.map V.str))=true;cases e:inV (.str ((⟨#[c']⟩ : Str)++Txt.slice z (some 1) none)) (ys.map V.str) with
      | false=>rfl
      | true=>exact absurd ((Rj _ ys).mp e) hn'
     ·exact l3 ⟨j',c',by omega,hc',hn'⟩
   ·obtain⟨u,ws,rfl,rfl,l1,l2',l3⟩:=h;obtain⟨j,c,hc,hnot⟩:=iD (Txt.slice z (some 1) none) (ys:=ys) (by omega);have hws:=l3 ⟨j,c,(Qaf.mp hc).1,hc,hnot⟩;cases ws with
    | nil=>exact absurd rfl hws
    | cons w0 wr=>
     obtain⟨⟨y1,y2⟩,y3⟩:=l2' w0 (QaW ..);have s2:=Ad hl2 (.lst ((w0::wr).map V.str));have eB:=s2 _ _ eA;refine⟨l2,_,_,_,rq,rq,SqL.of Ab,Fq (xs:=(w0::wr).map V.str) (j:=0) rfl,?_⟩;refine⟨_,rq,.inl ⟨rq,_,SqL.of eB⟩,_,rq,lf,_,_,rq,rq,eB,Ar (by rw[QbH];omega),?_⟩;exact fin w0 _ y1 y2 y3 eB (hbA.same s2) (s5.trans (Ah.of s2))
  ·refine⟨_,rq,.inl ⟨rq,_,SqL.of eA⟩,_,rq,lf,_,_,rq,rq,eA,Ar (by rw[QbH];omega),?_⟩;exact fin z HA ⟨hz1,hz⟩ oz (λhin=>hnz ((Rj _ ys).mpr hin)) eA hbA s5
 ·obtain⟨u3,u4,ys,rfl,e1,e2,e3,e4,e5,e6⟩:=h;exact⟨_,rq,q lf ys HH hlf e2 e3 e6 e1 e4 e5⟩
structure Dev where
 kind:Str
 addr:Int
structure Place where
 kind:Str
 addr:Int
 spur:List Dev
def K8 (H:Hp) (v:V) (d:Dev):Prop:=∃t,v=.ref t/\H t=some (.tup [.str d.kind,.int d.addr])
def Eh (H:Hp) (v:V) (p:Place):Prop:=∃t u vs,v=.ref t/\H t=some (.tup [.str p.kind,.int p.addr,.ref u])/\H u=some (.tup vs)/\Paired (K8 H) vs p.spur
def LoopAt (H:Hp) (v:V) (ps:List Place):Prop:=∃t vs,v=.ref t/\H t=some (.tup vs)/\Paired (Eh H) vs ps
theorem K8.tups {H H':Hp} (s:Al H H') {v:V} {d:Dev} (h:K8 H v d):K8 H' v d:=by
 obtain⟨t,e,q⟩:=h;exact⟨t,e,s _ _ q⟩
theorem Eh.tups {H H':Hp} (s:Al H H') {v:V} {d:Place} (h:Eh H v d):Eh H' v d:=by
 obtain⟨t,u,vs,e,q1,q2,q3⟩:=h;exact⟨t,u,vs,e,s _ _ q1,s _ _ q2,Paired.Ax q3 λ_ _ z=>z.tups s⟩
theorem LoopAt.tups {H H':Hp} (s:Al H H') {v:V} {d:List Place} (h:LoopAt H v d):LoopAt H' v d:=by
 obtain⟨t,vs,e,q1,q2⟩:=h;exact⟨t,vs,e,s _ _ q1,Paired.Ax q2 λ_ _ z=>z.tups s⟩
theorem Paired.Ck {α β : Type} {F:α->β->Prop}:∀{l₁ : List α} {l₂ : List β} {i:Nat} {x:α},Paired F l₁ l₂->l₁[i]?=some x->∃y,l₂[i]?=some y/\F x y
 | _,_,_,_,.nil,h=>by simp at h
 | _,_,0,_,.cons a _,h=>by simp at h;subst h;exact⟨_,rfl,a⟩
 | _,_,i+1,x,.cons _ t,h=>by
  obtain⟨y,h1,h2⟩:=Paired.Ck (i:=i) (x:=x) t (by simpa using h);exact⟨y,by simpa using h1,h2⟩
theorem Qcx {α β : Type} {F:α->β->Prop} {a:α} {b:β} (h:F a b):∀{l₁ : List α} {l₂ : List β},Paired F l₁ l₂->Paired F (l₁++[a]) (l₂++[b])
 | _,_,.nil=>.cons h .nil
 | _,_,.cons x t=>.cons x (Qcx h t)
def Fg (k:Str):Prop:=k="seeker"\/k="knob"\/k="bell"\/k="door"
structure OkP (p:Place):Prop where
 spur:p.spur.length<=3
 kinds:∀d∈p.spur,Fg d.kind
 form:(p.kind="opener"/\p.addr=0/\p.spur=[])\/Fg p.kind
structure Zone where
 name:Str
 adr:List Int
def Gz (H:Hp) (v:V) (z:Zone):Prop:=∃t u,v=.ref t/\H t=some (.tup [.str z.name,.ref u])/\H u=some (.tup (z.adr.map V.int))
theorem Gz.tups {H H':Hp} (s:Al H H') {v:V} {z:Zone} (h:Gz H v z):Gz H' v z:=by
 obtain⟨t,u,e,q1,q2⟩:=h;exact⟨t,u,e,s _ _ q1,s _ _ q2⟩
def Fv (k:Str):Bool:=inV (.str k) [.str "seeker",.str "knob"]
def Gn (p:Place):List Dev:=⟨p.kind,p.addr⟩::p.spur
def Jt (ds:List Dev):List Int:=(ds.filter λd=>Fv d.kind).map (·.addr)
def JR (ps:List Place):List Int:=ps.flatMap λp=>Jt (Gn p)
abbrev YU:=List (List Place)
def Fy (ls:YU):List Int:=ls.flatMap JR
theorem oY (ds:List Dev) (d:Dev):Jt (ds++[d])=Jt ds++(if Fv d.kind=true then [d.addr] else []):=by
 unfold Jt;rw[Qbg,QbJ];congr 1;by_cases h:Fv d.kind=true
 ·rw[if_pos h];simp[List.filter,h]
 ·rw[if_neg h];simp[List.filter,h]
theorem oX (ps:List Place) (p:Place):JR (ps++[p])=JR ps++Jt (Gn p):=by unfold JR;rw[QaP];simp
theorem kj (ls:YU) (ps:List Place):Fy (ls++[ps])=Fy ls++JR ps:=by unfold Fy;rw[QaP];simp
def ptS (a:List Int×Int) (p:Place):List Int×Int:=if V.str p.kind=V.str "opener" then (a.1++[a.2],0) else (a.1,a.2+1+(p.spur.length:Int))
def pst (ps:List Place):List Int×Int:=ps.foldl ptS ([],0)
def Iz (ps:List Place):List Int:=(pst ps).1++[(pst ps).2]
theorem cF (ps:List Place) (p:Place):pst (ps++[p])=ptS (pst ps) p:=by unfold pst;rw[List.foldl_append];rfl
abbrev Vn:Stmt:=top 60
abbrev Oz:YF:=["_law_bag_here","_law_numbers","_law_most_places"]
theorem Ko:Ay ["_law_bag_here","_law_numbers","_law_most_places","_law_places","_law_at","_law_many","_law_some","_law_way"] Oz (Aj Vn):=by ac_rfl
abbrev Ss:Stmt:=top 61
abbrev MJ:YF:=["_law_places"]
theorem KN:Ay ["_law_places","_law_found","_law_kind_here","_law_address","_law_spur"] MJ (Aj Ss):=by ac_rfl
def Dy (a b:Addr) (H H':Hp):Prop:=∀c o,H c=some o->c≠a->c≠b->H' c=some o
theorem Dy.trans {a b:Addr} {H H1 H2:Hp} (x:Dy a b H H1) (y:Dy a b H1 H2):Dy a b H H2:=λc o e n m=>y _ _ (x _ _ e n m) n m
theorem Dy.l {a b:Addr} {H H1:Hp} (x:Ah a H H1):Dy a b H H1:=λc o e n _=>x _ _ e n
theorem Dy.r {a b:Addr} {H H1:Hp} (x:Ah b H H1):Dy a b H H1:=λc o e _ m=>x _ _ e m
theorem Dy.of {a b:Addr} {H H1:Hp} (x:Same H H1):Dy a b H H1:=λc o e _ _=>x _ _ e
theorem Dy.QV {a b p:Addr} {H HH H':Hp} (s:Dy a b H HH) (t:Ah p HH H') (f:H p=none):Dy a b H H':=λc o e n m=>t _ _ (s _ _ e n m) λz=>by rw[z,f] at e;cases e
def adP (p:Place):List Int:=if V.str p.kind=V.str "opener" then [] else p.addr::p.spur.map (·.addr)
def adL (ps:List Place):List Int:=ps.flatMap adP
theorem V4 (ps:List Place) (p:Place):adL (ps++[p])=adL ps++adP p:=by unfold adL;rw[QaP];simp
def opP:Place:=⟨"opener",0,[]⟩
theorem FR:OkP opP:=⟨by show 0<=3;decide,(λd hd=>by cases hd),.inl ⟨rfl,rfl,rfl⟩⟩
theorem E5:adP opP=[]:=if_pos rfl
theorem Xa {k:Str} (h:Fg k):¬V.str k=V.str "opener":=by
 rcases h with rfl | rfl | rfl | rfl <;> decide +kernel
theorem Bz {i:Int} (h0:0<=i) (h4:i < 4):∃k,atI [V.str "seeker",.str "knob",.str "bell",.str "door"] i=some (.str k)/\Fg k:=by
 have:i=0\/i=1\/i=2\/i=3:=by omega
 rcases this with rfl | rfl | rfl | rfl
 ·exact⟨_,rq,.inl rfl⟩
 ·exact⟨_,rq,.inr (.inl rfl)⟩
 ·exact⟨_,rq,.inr (.inr (.inl rfl))⟩
 ·exact⟨_,rq,.inr (.inr (.inr rfl))⟩
theorem V0 {xs:YG} {k:Nat} (h:k<=xs.length):Hu xs (some (k:Int)) none=xs.drop k:=by
 unfold Hu;rw[HT.Rb,HT.T6,Nat.min_eq_left h];exact List.take_of_length_le (by rw[QbD];omega)
theorem pG {n:Nat} (h:0 < n):seqIndex? 0 n=some 0:=by
 unfold seqIndex?;simp only[if_neg (show ¬(0:Int) < 0 by decide)];rw[if_pos (by simp;omega)];rfl
inductive bK (vs:YG) (H:Hp) (Q:VK) (E:XK):Prop
 | mk (b nb:Addr) (n mp:Nat) (ns:List Int) (_:vs=[.ref b,.ref nb,.int mp]) (_:Bu H b n) (_:n<=5000) (_:b≠nb) (_:H nb=some (.lst (ns.map V.int))) (_:1<=mp) (_:mp<=12) (_:ns.length<=100) (_:∀t ps ns' H',LoopAt H' (.ref t) ps->(∀p∈ps,OkP p)->1<=ps.length->ps.length<=mp->ns=adL ps++ns'->H' nb=some (.lst (ns'.map V.int))->Bu H' b (n+100)->Dy b nb H H'->Q (.ref t) H'):bK vs H Q E
inductive Vg (vs:YG) (H:Hp) (Q:VK) (E:XK):Prop
 | mk (t:Addr) (ps:List Place) (_:vs=[.ref t]) (_:LoopAt H (.ref t) ps) (_:(∀p∈ps,OkP p)) (_:ps.length<=100) (_:∀l H',H' l=some (.lst ((Iz ps).map V.int))->Same H H'->Q (.ref l) H'):Vg vs H Q E
def zN (b nb lp:Addr) (mp:Int) (H:Hp) (n:Nat) (ns:List Int) (i:Nat) (U : St) (HH:Hp):Prop:=
 ∃u4 u5 u6 u7 vs ps ns',U=[jp b,jp nb,some (.int mp),jp lp,u4,u5,u6,u7]/\HH lp=some (.lst vs)/\Paired (Eh HH) vs ps/\ps.length=i/\(∀p∈ps,OkP p)/\ns=adL ps++ns'/\HH nb=some (.lst (ns'.map V.int))/\Bu HH b (n+1+7*i)/\Dy b nb H HH
theorem AG (C:Code K mg "_law_loop" Vn Oz) (T:Nm mg) (Bl:⋯ "_law_take" 1 Gb KH):⋯ "_law_loop" 2 Oz bK:=by
 exists C,Ko
 obtain⟨b,nb,n,mp,ns,rfl,hb,hn,nbn,hnb,SV,hmp,hns,q⟩:=h;refine⟨_,(Ae (3∪Ko∪(BZ Ac))
 (Ae (Cj QbK rfl (Dd rfl T.range (Aa (Bf CG Af (BP Bl hr (Aa (pv 0) (Aa (pv 2) Ac)))) Ac)) (4∣Ko)
 (Ae (5∪Ko∪(Bf CG Af (Bj Dn (@BZ _ _ _ _ (0&&&(0&&&(0&&&(0&&&(0&&&(0&&&(@Ac _) Bg) Bg) Bg) Bg) Bg) Bg)) (BP Bl hr (Aa (pv 0) (Aa Af Ac))) (λ_ _=>rfl))))
 (Ag (Ce (PW.pt (Jr (Br Js (BP Bl hr (Aa (pv 0) (Aa Af Ac))) Af (Bv _)) (Jz (Br WD (Aw Bh rfl T.len CJ (Aa (pv 1) Ac)) (pv 5) (Bv _))))) (Ag (Bc (Cy Qas Qao Qap Cv (pv 3) (Aa (Bb (Aa Bd (Aa Af (Aa (Bb Ac) Ac)))) Ac)))) (Ae (6∪Ko∪(BZ Ac))
 (Ae (Cj QbK rfl (Dd rfl T.range (Aa (pv 5) Ac)) (7∣Ko)
 (Ag (Bc (Cy Qas Qao Qap Cv (pv 6) (Aa (Bb (Aa (Bj Dn (BZ (Aa Bd (Aa Bd (Aa Bd (Aa Bd Ac))))) (BP Bl hr (Aa (pv 0) (Aa Af Ac))) (λ_ _=>rfl)) (Aa (Cy Qas PySem.F.slot_list_pop PySem.F.type_list_pop dD (pv 1) (Aa Af Ac)) Ac))) Ac)))))
 (Ag (Bc (Cy Qas Qao Qap Cv (pv 3) (Aa (Bf Ka (Bj Dn (pv 6) Af (λ_ _=>rfl)) (Bb (Aa (Jg Ib rfl T.tuple LK (Aa (Je Yd (pv 6) (Kr Af) Ks) Ac)) Ac))) Ac))))))))))
 (Ag (Az (Jg Ib rfl T.tuple LK (Aa (pv 3) Ac)))))),?_⟩
 show let R0:TS:=_;let R1:TS:=_;let R2:TS:=_;let R3:TS:=_;let R4:TS:=Ao (Dq _ _ R3) R2;let R5:TS:=Ao _ R4;let R6:TS:=Hr _ R1 R5;let R7:TS:=Ao _ R6;let R8:TS:=Ao (Dq _ _ R7) R0;Ao _ R8 _ _ _;intro R0 R1 R2 R3 R4 R5 R6 R7 R8;refine⟨js,λlp hlp=>?_⟩;have s0:=Ad hlp (.lst []);have nlb:b≠lp:=hb.nb hlp;have nln:nb≠lp:=Aq hnb hlp;refine⟨_,rq,_,rq,b,n,_,rq,hb.same s0,by omega,by omega,by omega,λr H1 r0 r1 hb1 sb1=>⟨_,_,rq,rq,_,rq,by omega,by omega,?_⟩⟩;obtain⟨rn,hrn⟩ : ∃rn:Nat,r=rn:=⟨r.toNat,by omega⟩;subst hrn;rw[show ((1:Int)+(rn:Int)).toNat=rn+1 by omega];have SG:∀{H2 H3:Hp},H2 lp=some (.lst [])->True:=λ_=>True.intro;refine Fi (zN b nb lp mp H n ns) ⟨_,_,_,_,[],[],ns,rq,sb1 _ _ Ab nlb.symm,.nil,rq,(λp hp=>by cases hp),rq,sb1 _ _ (s0 _ _ hnb) nbn.symm,hb1,(Dy.of s0).trans (Dy.l sb1)⟩ (λi U HH hi h=>?_) (fun U HH h=>?_)
 ·obtain⟨u4,u5,u6,u7,vs,ps,ns',rfl,e1,e2,e3,e4,e5,e6,e7,e8⟩:=h;have NE:i < 12:=by omega
  have hlv:=Qcc e2;refine⟨Av (by show 6<=1000;decide),λl6 hl6=>?_⟩;have s6:=Ad hl6 (.lst [.int 0,.int 0,.int 0,.int 1,.int 2,.int 3]);refine⟨_,rq,b,_,6,rq,e7.same s6,by omega,by decide,by decide,λr2 HA r20 r21 hbA sA=>?_⟩;obtain⟨m,em,m0,m3⟩:=QI r20 r21 (a:=0) (b:=0) (c:=0) (d:=1) (e:=2) (f:=3) (λp=>0<=p/\p<=3) (by decide) (by decide) (by decide) (by decide) (by decide) (by decide);obtain⟨mn,hmn⟩ : ∃mn:Nat,m=mn:=⟨m.toNat,by omega⟩;subst hmn;refine⟨l6,_,_,_,rq,rq,SqL.of (sA _ _ Ab (e7.nb hl6).symm),em,_,_,rq,rq,?_⟩;refine⟨_,rq,b,_,4,rq,hbA,by omega,by decide,by decide,λr3 HB r30 r31 hbB sB=>⟨rq,_,rq,?_⟩⟩;have sHB:Ah b HH HB:=((Ah.of s6).trans sA).trans sB;have tHB:Al HH HB:=sHB.tup e7.DG;have f1:=sHB _ _ e1 nlb.symm;have f2:Paired (Eh HB) vs ps:=Paired.Ax e2 λ_ _ z=>z.tups tHB;have f6:=sHB _ _ e6 nbn.symm;have f8:Dy b nb H HB:=e8.trans (Dy.l sHB);have opn:∀eo,HB eo=none->∀t,upd HB eo (.tup []) t=none->zN b nb lp mp H n ns (i+1) [jp b,jp nb,some (.int mp),jp lp,some (.int (0+(i:Int))),some (.int (1+(mn:Int))),u6,u7] (upd (upd (upd HB eo (.tup [])) t (.tup [.str "opener",.int 0,.ref eo])) lp (.lst (vs++[.ref t]))):=λeo heo t ht=>by
   have t1:=Ad heo (.tup []);have t2:=Ad ht (.tup [.str "opener",.int 0,.ref eo]);have f1':=t2 _ _ (t1 _ _ f1);have nt:∀zs,(upd (upd HB eo (.tup [])) t (.tup [.str "opener",.int 0,.ref eo])) lp≠some (.tup zs):=λzs z=>by rw[f1'] at z;cases z
   have tu:=Al.upd (o:=.lst (vs++[.ref t])) nt;refine⟨_,_,_,_,vs++[.ref t],ps++[opP],ns',rq,Ab,?_,by rw[QaV,e3];rfl,λp hp=>?_,?_,?_,?_,?_⟩
   ·refine Qcx ⟨t,eo,[],rq,tu _ _ Ab,tu _ _ (t2 _ _ Ab),.nil⟩ (Paired.Ax f2 λ_ _ z=>(z.tups (Al.of (t1.trans t2))).tups tu)
   ·rcases QbI.mp hp with z | z
    ·exact e4 p z
    ·have:p=opP:=by simpa using z
     rw[this];exact FR
   ·rw[V4,E5,QbM];exact e5
   ·rw[Am nln];exact t2 _ _ (t1 _ _ f6)
   ·exact (((hbB.same t1).same t2).Gw Ah.upd nlb).mono (by omega)
   ·exact (f8.trans (Dy.of (t1.trans t2))).QV Ah.upd hlp
  refine Jx (λ_=>?_) (λ_=>?_)
  ·refine⟨_,rq,.inl ⟨rq,_,SqL.of f1⟩,js,λeo heo=>⟨kf,λt ht=>⟨lp,_,_,rq,rq,Ad ht _ _ _ (Ad heo _ _ _ f1),Ar (by omega),opn eo heo t ht⟩⟩⟩
  ·refine⟨_,rq,nb,_,rq,.inl (SqL.of f6),_,rq,_,_,rq,rq,_,rq,Jx (λ_=>?_) (λcc=>?_)⟩
   ·refine⟨_,rq,.inl ⟨rq,_,SqL.of f1⟩,js,λeo heo=>⟨kf,λt ht=>⟨lp,_,_,rq,rq,Ad ht _ _ _ (Ad heo _ _ _ f1),Ar (by omega),opn eo heo t ht⟩⟩⟩
   ·have cc:¬(((ns'.map V.int).length:Nat):Int) < 1+(mn:Int):=λz=>cc (QbX z);rw[QbH] at cc;refine⟨js,λls hls=>?_⟩;have sl:=Ad hls (.lst []);have IO:lp≠ls:=Aq f1 hls;have C7:nb≠ls:=Aq f6 hls;have C8:b≠ls:=hbB.nb hls;refine⟨_,rq,_,rq,by omega,by omega,?_⟩;rw[show ((1:Int)+(mn:Int)).toNat=mn+1 by omega];have SY:H ls=none->True:=λ_=>True.intro;let J0:YN:=λj U HC=>∃u7 xs ds ns2,U=[jp b,jp nb,some (.int mp),jp lp,some (.int (0+(i:Int))),some (.int (1+(mn:Int))),jp ls,u7]/\HC ls=some (.lst xs)/\Paired (K8 HC) xs ds/\ds.length=j/\(∀d∈ds,Fg d.kind)/\ns'=ds.map (·.addr)++ns2/\HC nb=some (.lst (ns2.map V.int))/\Bu HC b (n+1+7*i+1+1+j)/\HC lp=some (.lst vs)/\Paired (Eh HC) vs ps/\(∀c o,HB c=some o->c≠b->c≠nb->HC c=some o);refine Fi J0
     ⟨_,[],[],ns',rq,Ab,.nil,rq,(λd hd=>by cases hd),rq,sl _ _ f6,hbB.same sl,sl _ _ f1,Paired.Ax f2 λ_ _ z=>z.tups (Al.of sl),λc o e _ _=>sl _ _ e⟩ (λj U HC hj h=>?_) (fun U HC h=>?_)
    ·obtain⟨u7,xs,ds,ns2,rfl,g1,g2,g3,g4,g5,g6,g7,g8,g9,g10⟩:=h;refine⟨_,rq,.inl ⟨rq,_,SqL.of g1⟩,ki,λl4 hl4=>?_⟩;have s4:=Ad hl4 (.lst [.str "seeker",.str "knob",.str "bell",.str "door"]);refine⟨_,rq,b,_,4,rq,g7.same s4,by omega,by decide,by decide,λr4 HD r40 r41 hbD sD=>?_⟩;obtain⟨k,ek,hk⟩:=Bz r40 r41;have sCD:Ah b HC HD:=(Ah.of s4).trans sD;have tCD:Al HC HD:=sCD.tup g7.DG;have g6':=sCD _ _ g6 nbn.symm;cases ns2 with
     | nil=>
      rw[QbM] at g5;have:=congrArg List.length g5;rw[QbH,g3] at this;omega
     | cons a0 ns3=>
      refine⟨l4,_,_,_,rq,rq,SqL.of (sD _ _ Ab (g7.nb hl4).symm),ek,_,rq,.inl ⟨rq,_,SqL.of g6'⟩,nb,_,0,0,.int a0,rq,rq,g6',by decide,by decide,pG (by rw[QbH];show 0 < _+1;omega),rq,ke,λt ht=>?_⟩;have tn:Al HD (upd HD nb (.lst (((a0::ns3).map V.int).eraseIdx 0))):=Al.upd λzs z=>by rw[g6'] at z;cases z
      have tt:=Ad ht (.tup [.str k,.int a0]);have gls:upd HD nb (.lst (((a0::ns3).map V.int).eraseIdx 0)) ls=some (.lst xs):=by rw[Am C7.symm];exact sCD _ _ g1 C8.symm
      refine⟨ls,_,_,rq,rq,tt _ _ gls,Ar (by rw[Qcc g2];omega),?_⟩;have nt:∀zs,(upd (upd HD nb (.lst (((a0::ns3).map V.int).eraseIdx 0))) t (.tup [.str k,.int a0])) ls≠some (.tup zs):=λzs z=>by rw[tt _ _ gls] at z;cases z
      have tu:=Al.upd (o:=.lst (xs++[.ref t])) nt;have BO:Al HC (upd (upd (upd HD nb (.lst (((a0::ns3).map V.int).eraseIdx 0))) t (.tup [.str k,.int a0])) ls (.lst (xs++[.ref t]))):=(tCD.trans tn).trans ((Al.of tt).trans tu);refine⟨_,xs++[.ref t],ds++[⟨k,a0⟩],ns3,rq,Ab,Qcx ⟨t,rq,tu _ _ Ab⟩ (Paired.Ax g2 λ_ _ z=>z.tups BO),by rw[QaV,g3];rfl,λd hd=>?_,?_,?_,?_,?_,Paired.Ax g9 λ_ _ z=>z.tups BO,λc o e n1 n2=>?_⟩
      ·rcases QbI.mp hd with z | z
       ·exact g4 d z
       ·have:d=⟨k,a0⟩:=by simpa using z
        rw[this];exact hk
      ·rw[g5,QbJ,Qbn];rfl
      ·rw[Am C7,tt _ _ Ab];rfl
      ·exact ((hbD.Gw Ah.upd nbn).same tt).Gw Ah.upd C8
      ·rw[Am IO,tt _ _ (by rw[Am nln.symm];exact sCD _ _ g8 nlb.symm)]
      ·have e':=sCD _ _ (g10 _ _ e n1 n2) n1;rw[Am (λz=>by rw[z,hls] at e;cases e),tt _ _ (by rw[Am n2];exact e')]
    ·obtain⟨u7,xs,ds,ns2,rfl,g1,g2,g3,g4,g5,g6,g7,g8,g9,g10⟩:=h;cases ds with
     | nil=>cases g3
     | cons d0 dr=>
      cases g2 with
      | @cons x0 _ xr _ hd0 hdr=>
       obtain⟨t0,rfl,ht0⟩:=hd0;have lxr:=Qcc hdr;have ldr:dr.length=mn:=by simpa using g3
       refine⟨_,rq,.inl ⟨rq,_,SqL.of g8⟩,_,rq,ls,_,_,_,rq,rq,SqL.of g1,Fq (xs:=.ref t0::xr) (j:=0) rfl,_,rq,_,rq,ls,_,rq,SqL.of g1,λp1 hp1=>?_⟩;have ec:Hu (.ref t0::xr) (some 1) none=xr:=V0 (xs:=.ref t0::xr) (k:=1) (by simp);rw[ec] at *;have sp1:=Ad hp1 (.lst xr);refine⟨p1,_,rq,.inl ⟨SqL.of Ab,λtu htu=>⟨jv,λt1 ht1=>?_⟩⟩⟩;have sp2:=Ad htu (.tup xr);have sp3:=Ad ht1 (.tup [.ref tu]);have sp:=(sp1.trans sp2).trans sp3;refine⟨t0,t1,_,_,rq,rq,sp _ _ ht0,Ab,Av (by show 2+1<=1000;decide),λtp HE hE sE=>?_⟩;have spE:=sp.trans sE;have g8':=spE _ _ g8;refine⟨lp,_,_,rq,rq,g8',Ar (by omega),?_⟩;have nt:∀zs,HE lp≠some (.tup zs):=λzs z=>by rw[g8'] at z;cases z
       have tv:=Al.upd (o:=.lst (vs++[.ref tp])) nt;have okp:OkP ⟨d0.kind,d0.addr,dr⟩:=⟨by show dr.length<=3;omega,λd hd=>g4 d (QaJ _ hd),.inr (g4 d0 (QaW ..))⟩;refine⟨_,_,_,_,vs++[.ref tp],ps++[⟨d0.kind,d0.addr,dr⟩],ns2,rq,Ab,?_,by rw[QaV,e3];rfl,λp hp=>?_,?_,?_,?_,?_⟩
       ·refine Qcx ⟨tp,tu,xr,rq,tv _ _ hE,tv _ _ (sE _ _ (sp3 _ _ Ab)),Paired.Ax hdr λ_ _ z=>(z.tups (Al.of spE)).tups tv⟩ (Paired.Ax g9 λ_ _ z=>(z.tups (Al.of spE)).tups tv)
       ·rcases QbI.mp hp with z | z
        ·exact e4 p z
        ·have:p=⟨d0.kind,d0.addr,dr⟩:=by simpa using z
         rw[this];exact okp
       ·rw[V4,e5,g5,Qbn];congr 1;have:adP ⟨d0.kind,d0.addr,dr⟩=d0.addr::dr.map (·.addr):=if_neg (Xa (g4 d0 (QaW ..)));rw[this];rfl
       ·rw[Am nln];exact spE _ _ g6
       ·exact ((g7.same spE).Gw Ah.upd nlb).mono (by omega)
       ·refine Dy.QV (λc o e n1 n2=>spE _ _ (g10 _ _ (f8 _ _ e n1 n2) n1 n2)) Ah.upd hlp
 ·obtain⟨u4,u5,u6,u7,vs,ps,ns',rfl,e1,e2,e3,e4,e5,e6,e7,e8⟩:=h;refine⟨_,rq,lp,_,rq,.inl ⟨SqL.of e1,λt ht=>?_⟩⟩;have st:=Ad ht (.tup vs);exact q t ps ns' _ ⟨t,vs,rq,Ab,Paired.Ax e2 λ_ _ z=>z.tups (Al.of st)⟩ e4 (by omega) (by omega) e5 (st _ _ e6) ((e7.same st).mono (by omega)) (e8.trans (Dy.of st))
abbrev Lf:Stmt:=top 62
abbrev Ow:YF:=["_law_bag_here","_law_most_loops","_law_most_places"]
abbrev xk:YF:=["_law_bag_here","_law_most_loops","_law_most_places","_law_start","_law_stride","_law_numbers","_law_own","_law_first","_law_at","_law_loops","_law_loop_here","_law_most","_law_told","_law_places","_law_kind_here","_law_address","_law_spur","_law_zones","_law_names_here","_law_name_here","_law_some"]
theorem Ci:Ay xk Ow (Aj Lf):=by ac_rfl
theorem fY (xs:YG) (y:V):atI (xs++[y]) (-1)=some y:=by
 unfold atI ixN;rw[if_neg (by decide),QaV,QaE,if_pos (by omega),show (-1+((xs.length+1:Nat):Int)).toNat=xs.length by omega];show (xs++[y])[xs.length]?=some y;rw[Qag (Qcv _),Nat.sub_self];rfl
theorem xO (xs:YG) (y:V):ixN (xs++[y]).length (-1)=some xs.length:=by
 unfold ixN;rw[if_neg (by decide),QaV,QaE,if_pos (by omega),show (-1+((xs.length+1:Nat):Int)).toNat=xs.length by omega]
theorem uM (xs:YG) (y z:V):(xs++[y]).set xs.length z=xs++[z]:=by
 rw[List.set_append_right _ _ (Qcv _),Nat.sub_self];rfl
theorem QE {i:Int} (h0:0<=i) (h9:i < 9) {a b c d e f g h k:Int} (P:Int->Prop) (ha:P a) (hb:P b) (hc:P c) (hd:P d) (he:P e) (hf:P f) (hg:P g) (hh:P h) (hk:P k):∃p,atI [V.int a,.int b,.int c,.int d,.int e,.int f,.int g,.int h,.int k] i=some (.int p)/\P p:=by
 have:i=0\/i=1\/i=2\/i=3\/i=4\/i=5\/i=6\/i=7\/i=8:=by omega
 rcases this with rfl | rfl | rfl | rfl | rfl | rfl | rfl | rfl | rfl
 ·exact⟨_,rq,ha⟩
 ·exact⟨_,rq,hb⟩
 ·exact⟨_,rq,hc⟩
 ·exact⟨_,rq,hd⟩
 ·exact⟨_,rq,he⟩
 ·exact⟨_,rq,hf⟩
 ·exact⟨_,rq,hg⟩
 ·exact⟨_,rq,hh⟩
 ·exact⟨_,rq,hk⟩
theorem rH (ns:List Int):(ns.map V.int).all Ms=true:=by
 rw[List.all_map,List.all_eq_true];intro _ _;rfl
theorem EU {xs:YG} {m:Nat} (h:m<=xs.length):Hu xs none (some (m:Int))=xs.take m:=by
 unfold Hu;rw[HT.Rb,HT.T6,Nat.min_eq_left h];rfl
theorem Paired.lC {α β : Type} {F:α->β->Prop}:∀{l:List α} {r:List β} (n:Nat),Paired F l r->Paired F (l.take n) (r.take n)
 | _,_,0,_=>.nil
 | _,_,_+1,.nil=>.nil
 | _,_,n+1,.cons h t=>.cons h (Paired.lC n t)
theorem Paired.nY {α β : Type} {F:α->β->Prop}:∀{l:List α} {r:List β} (n:Nat),Paired F l r->Paired F (l.drop n) (r.drop n)
 | _,_,0,h=>h
 | _,_,_+1,.nil=>.nil
 | _,_,n+1,.cons h t=>Paired.nY n t
theorem Paired.app {α β : Type} {F:α->β->Prop}:∀{a₁ b₁ : List α} {a₂ b₂ : List β},Paired F a₁ a₂->Paired F b₁ b₂->Paired F (a₁++b₁) (a₂++b₂)
 | _,_,_,_,.nil,t=>t
 | _,_,_,_,.cons r s,t=>.cons r (Paired.app s t)
theorem jx:∀(ps:List Place) (a:List Int×Int),(ps.foldl ptS a).1.sum+(ps.foldl ptS a).2=a.1.sum+a.2+((adL ps).length:Int)
 | [],a=>by show _=_+_+((0:Nat):Int);simp
 | p::r,a=>by
  rw[List.foldl_cons,jx r];have e:adL (p::r)=adP p++adL r:=by unfold adL;rw[Qbp]
  rw[e,QaV];unfold ptS adP;by_cases h:V.str p.kind=V.str "opener"
  ·rw[if_pos h,if_pos h,List.sum_append];simp
  ·rw[if_neg h,if_neg h,Qbz,QbH];simp only;omega
theorem pP:∀(ps:List Place) (a:List Int×Int),(∀m∈a.1,0<=m)->0<=a.2->(∀m∈(ps.foldl ptS a).1,0<=m)/\0<=(ps.foldl ptS a).2
 | [],a,h1,h2=>⟨h1,h2⟩
 | p::r,a,h1,h2=>by
  rw[List.foldl_cons];refine pP r _ ?_ ?_
  ·unfold ptS;split
   ·intro m hm;rcases QbI.mp hm with z | z
    ·exact h1 m z
    ·have:m=a.2:=by simpa using z
     rw[this];exact h2
   ·exact h1
  ·unfold ptS;split
   ·exact QcB _
   ·show 0<=a.2+1+(p.spur.length:Int);omega
theorem o7:∀{l:List Int},(∀m∈l,0<=m)->0<=l.sum/\∀m∈l,m<=l.sum
 | [],_=>⟨QcB _,λm h=>by cases h⟩
 | x::r,h=>by
  obtain⟨h1,h2⟩:=o7 (l:=r) λm hm=>h m (QaJ _ hm);have h0:=h x (QaW ..);rw[List.sum_cons];refine⟨by omega,λm hm=>?_⟩;rcases Qcd.mp hm with rfl | hm
  ·omega
  ·have:=h2 m hm;omega
theorem vO (ps:List Place):∀m∈Iz ps,0<=m:=by
 have h:=pP ps ([],0) (λm hm=>by cases hm) (QcB _);intro m hm;rcases QbI.mp hm with z | z
 ·exact h.1 m z
 ·have:m=(pst ps).2:=by simpa using z
  rw[this];exact h.2
theorem Zr (ps:List Place):(Iz ps).sum=((adL ps).length:Int):=by
 have h:=jx ps ([],0);unfold Iz;rw[List.sum_append];have:(pst ps).1.sum+(pst ps).2=((adL ps).length:Int):=by
  have e:(pst ps).1.sum+(pst ps).2=([]:List Int).sum+0+((adL ps).length:Int):=h;rw[e];simp
 simp;omega
theorem vP (ps:List Place):∀m∈Iz ps,m<=((adL ps).length:Int):=λm hm=>by
 have:=(o7 (vO ps)).2 m hm;rw[Zr] at this;exact this
theorem jf:∀{l:List Int},1<=l.sum->∃m∈l,1<=m
 | [],h=>by simp at h
 | x::r,h=>by
  rw[List.sum_cons] at h;by_cases hx:1<=x
  ·exact⟨x,QaW ..,hx⟩
  ·obtain⟨m,h1,h2⟩:=jf (l:=r) (by omega);exact⟨m,QaJ _ h1,h2⟩
structure OkL (ps:List Place):Prop where
 lo:1<=ps.length
 hi:ps.length<=12
 ok:∀p∈ps,OkP p
def Cg (ls:YU):List Int:=ls.flatMap adL
structure gw (most:Int) (ja:YU) (jn:List Zone):Prop where
 nd:(Cg ja).Nodup
 bd:∀x∈Cg ja,1<=x/\x<=99
 cnt:1<=(Cg ja).length/\(Cg ja).length<=30
 mo:1<=most/\most<=30
 few:∀ps∈ja,∀m∈Iz ps,m<=most
 zin:∀z∈jn,∀x∈z.adr,x∈Fy ja
 znd:(jn.flatMap (·.adr)).Nodup
 zup:∀z∈jn,z.adr.Pairwise (· < ·)/\1<=z.adr.length/\z.adr.length<=30
 aO:jn.length<=8
 znm:∀z∈jn,(1<=z.name.length/\z.name.length<=8)/\okS z.name
 zdi:(jn.map (·.name)).Nodup
inductive bH (vs:YG) (H:Hp) (Q:VK) (E:XK):Prop
 | mk (b:Addr) (n ml mp:Nat) (_:vs=[.ref b,.int ml,.int mp]) (_:Bu H b n) (_:n<=1000) (_:1<=ml) (_:ml<=3) (_:2<=mp) (_:mp<=12) (_:∀t Ls zs vs zvs ja jn most H',H' t=some (.tup [.int most,.ref Ls,.ref zs])->H' Ls=some (.tup vs)->Paired (LoopAt H') vs ja->(∀ps∈ja,OkL ps)->1<=ja.length->ja.length<=3->H' zs=some (.tup zvs)->Paired (Gz H') zvs jn->gw most ja jn->Bu H' b (n+3000)->Ah b H H'->Q (.ref t) H'):bH vs H Q E
def BY:TS:=λD U H=>∃(b nb f0:Addr) (n mp:Nat) (ns:List Int),U[0]?=some (some (.ref b))/\U[5]?=some (some (.ref nb))/\U[2]?=some (some (.int mp))/\U[7]?=some (some (.ref f0))/\H f0=some (.tup [])/\Bu H b n/\n<=4000/\b≠nb/\H nb=some (.lst (ns.map V.int))/\2<=mp/\mp<=12/\ns.length<=100 /\
 ∀t vs ps ns' H',H' t=some (.tup vs)->Paired (Eh H') vs ps->(∀p∈ps,OkP p)->ps.length+1<=mp->ns=adL ps++ns'->H' nb=some (.lst (ns'.map V.int))->Bu H' b (n+101)->Dy b nb H H'->D.nx (U.set 7 (some (.ref t))) H'
theorem qm (C:Code K mg "_law_parts" Ss MJ) (T:Nm mg):⋯ "_law_parts" 1 MJ Vg:=by
 exists C,KN
 obtain⟨t,ps,rfl,⟨t',vs,et,ht,hps⟩,hok,h100,q⟩:=h;cases et;refine⟨_,(Ae (1∪KN∪(BZ (Aa Af Ac)))
 (Ae (Cj QbK rfl (Ga (pv 0)) (CK rfl (Ak (2∣KN) (Ak (3∣KN) (Ak (4∣KN) Bo))))
 (Ag (Ce (Br Js (pv 2) Bd (Bv _)) (Ag (Bc (Cy Qas Qao Qap Cv (pv 1) (Aa Af Ac)))) (Ag (GZ (Bf CG (Bf CG (Bj Dn (pv 1) (Wu RT Af) (λ_ _=>rfl)) Af) (Aw Bh rfl T.len CJ (Aa (pv 4) Ac))) (cL (pv 1) (Wu RT Af) set_list))))))
 (Ag (Az (pv 1))))),?_⟩
 show let R0:TS:=_;let R1:TS:=_;let R2:TS:=Hr _ R0 R1;let R3:TS:=Ao (Dq _ _ R2) _;Ao _ R3 _ _ _;intro R0 R1 R2 R3;refine⟨jv,λlf hlf=>?_⟩;have s1:=Ad hlf (.lst [.int 0]);have lvs:=Qcc hps;refine⟨_,rq,t,rq,⟨_,SqT.of (s1 _ _ ht)⟩,?_⟩;let J0:YN:=λi U HH=>∃(u2 u3 u4:Option V),U=[jp t,jp lf,u2,u3,u4]/\HH lf=some (.lst ((pst (ps.take i)).1.map V.int++[.int (pst (ps.take i)).2]))/\(pst (ps.take i)).1.length<=i/\Same H HH;refine Ly (xs:=vs) J0 ⟨_,_,_,rq,Ab,Qcv _,s1⟩ (λi U HH _ h=>?_) (λi x U HH hx h=>?_) (fun U HH h=>?_)
 ·obtain⟨u2,u3,u4,rfl,e1,e2,e3⟩:=h;exact SqT.of (e3 _ _ ht)
 ·obtain⟨u2,u3,u4,rfl,e1,e2,e3⟩:=h;obtain⟨p,hp,tp,up,ws,rfl,h1,h2,h3⟩:=Paired.Ck hps hx;have hi:=(Qai.mp hx).1;have et:pst (ps.take (i+1))=ptS (pst (ps.take i)) p:=by rw[QcF hp,cF]
  have lws:=Qcc h3;generalize pst (ps.take i)=a at *;refine⟨tp,_,rq,SqT.of (e3 _ _ h1),rq,_,_,rq,_,_,rq,_,_,rq,rq,?_⟩;refine⟨_,rq,rq,_,rq,Jx (λhc=>?_) (λhc=>?_)⟩
  ·have hc:V.str p.kind=V.str "opener":=Qbs hc;have et:pst (ps.take (i+1))=(a.1++[a.2],0):=by rw[et];exact if_pos hc
   refine⟨_,rq,.inl ⟨rq,_,SqL.of e1⟩,lf,_,_,rq,rq,e1,Ar (by rw[QaV,QbH];show _+1<=_;omega),_,_,_,rq,?_,?_,e3.Bp Ah.upd hlf⟩
   ·rw[Ab,et,QbJ];rfl
   ·rw[et,QaV];show _+1<=_;omega
  ·have hc:¬V.str p.kind=V.str "opener":=λz=>hc (QbX z);have et:pst (ps.take (i+1))=(a.1,a.2+1+(p.spur.length:Int)):=by rw[et];exact if_neg hc
   refine⟨_,rq,_,rq,lf,_,_,_,rq,rq,SqL.of e1,fY _ _,_,_,rq,rq,_,rq,up,_,rq,.inr (SqT.of (e3 _ _ h2)),_,_,rq,rq,_,rq,_,rq,lf,_,_,_,rq,rq,e1,xO _ _,_,_,_,rq,?_,by rw[et];show a.1.length<=_;omega,e3.Bp Ah.upd hlf⟩;rw[Ab,uM,et,<-lws]
 ·obtain⟨u2,u3,u4,rfl,e1,e2,e3⟩:=h;rw[lvs,Qby] at e1;refine⟨_,rq,q lf HH (by unfold Iz;rw[QbJ];exact e1) e3⟩
theorem Ch {α : Type} {l:List α} {i:Nat} {x:α} (h:l[i]?=some x):l.set i x=l:=by
 obtain⟨hi,e⟩:=Qai.mp h;subst e;exact List.set_getElem_self hi
theorem Ln.tups {H H':Hp} {vs:YG} {ls:YU} (s:Al H H') (h:Paired (LoopAt H) vs ls):Paired (LoopAt H') vs ls:=Paired.Ax h λ_ _ z=>z.tups s
theorem Pn.tups {H H':Hp} {vs:YG} {ls:List Place} (s:Al H H') (h:Paired (Eh H) vs ls):Paired (Eh H') vs ls:=Paired.Ax h λ_ _ z=>z.tups s
theorem Oc (a b:List Place):adL (a++b)=adL a++adL b:=by unfold adL;rw[QaP]
theorem ZS (ls:YU) (ps:List Place):Cg (ls++[ps])=Cg ls++adL ps:=by unfold Cg;rw[QaP];simp
def wr (ds:List Dev):Nat:=(ds.filter λd=>!decide (V.str d.kind=V.str "opener")).length
theorem VB (w:Int):∀ws:List Int,inV (.int w) (ws.map V.int)=decide (w∈ws)
 | []=>rfl
 | x::r=>by
  have ih:=VB w r;unfold inV at ih ⊢;rw[Qce,Qci,ih];have h2:eqV (.int x) (.int w)=decide (w=x):=by
   show (x == w)=decide (w=x);rw[QbR,beq_iff_eq,Qbf];exact⟨λh=>h.symm,λh=>h.symm⟩
  rw[h2,QbR,Bool.or_eq_true,Qbf,Qbf,Qbf,Qcd]
def Fw (p:Int):Prop:=p=1\/p=2\/p=4\/p=5\/p=7\/p=8\/p=10\/p=13\/p=98
def Ql (r sd:Int) (n:Nat):List Int:=(List.range n).map λk:Nat=>(r+sd*(0+(k:Int))) % 99+1
theorem qy (r sd:Int) (n:Nat):Ql r sd (n+1)=Ql r sd n++[(r+sd*(0+(n:Int))) % 99+1]:=by
 unfold Ql;rw[List.range_succ,QbJ];rfl
theorem AK (r sd:Int) (n:Nat):∀x∈Ql r sd n,1<=x/\x<=99:=λx hx=>by
 obtain⟨k,_,rfl⟩:=Qcl.mp hx;have h1:=QbV (r+sd*(0+(k:Int))) (show (99:Int)≠0 by decide);have h2:=Qbi (r+sd*(0+(k:Int))) (show (0:Int) < 99 by decide);omega
theorem AJ {r sd:Int} (h:Fw sd):(Ql r sd 30).Nodup:=by
 unfold Ql;refine Qbx.mpr ?_;refine List.Pairwise.imp_of_mem (λ{i j} hi hj hlt=>?_) (List.pairwise_lt_range (n:=30));have hi:=Qca.mp hi;have hj:=Qca.mp hj;intro e;unfold Fw at h;rcases h with rfl | rfl | rfl | rfl | rfl | rfl | rfl | rfl | rfl <;> omega
theorem jc:∀{ds:List Dev},(Jt ds).Sublist (ds.map (·.addr))
 | ds=>by unfold Jt;exact List.Sublist.map _ (List.filter_sublist ..)
theorem aR {p:Place} (h:OkP p):(Jt (Gn p)).Sublist (adP p):=by
 rcases h.form with⟨f1,f2,f3⟩| f1
 ·have e:adP p=[]:=if_pos (by rw[f1]);have e2:Jt (Gn p)=[]:=by
   unfold Gn Jt;rw[f3,f1];have:Fv "opener"=false:=by trivial
   rw[Qau (by rw[this];decide)];rfl
  rw[e,e2];exact .slnil
 ·have e:adP p=(Gn p).map (·.addr):=if_neg (Xa f1);rw[e];exact jc
theorem Vc:∀{ps:List Place},(∀p∈ps,OkP p)->(JR ps).Sublist (adL ps)
 | [],_=>.slnil
 | p::r,h=>by
  have e1:JR (p::r)=Jt (Gn p)++JR r:=by unfold JR;rw[Qbp]
  have e2:adL (p::r)=adP p++adL r:=by unfold adL;rw[Qbp]
  rw[e1,e2];exact (aR (h p (QaW ..))).append (Vc λq hq=>h q (QaJ _ hq))
theorem RP:∀{ls:YU},(∀ps∈ls,OkL ps)->(Fy ls).Sublist (Cg ls)
 | [],_=>.slnil
 | ps::r,h=>by
  have e1:Fy (ps::r)=JR ps++Fy r:=by unfold Fy;rw[Qbp]
  have e2:Cg (ps::r)=adL ps++Cg r:=by unfold Cg;rw[Qbp]
  rw[e1,e2];exact (Vc (h ps (QaW ..)).ok).append (RP λq hq=>h q (QaJ _ hq))
theorem jP {ps:List Place}:∀(ja:YU),ps∈ja->(adL ps).length<=(Cg ja).length
 | [],h=>by cases h
 | a::r,h=>by
  have e:Cg (a::r)=adL a++Cg r:=by unfold Cg;rw[Qbp]
  rw[e,QaV];rcases Qcd.mp h with rfl | h
  ·omega
  ·have:=jP r h;omega
structure Rz (ws:List Int) (ts:List Int) (jn:List Zone) (ys:YF):Prop where
 nd:(jn.flatMap (·.adr)++ts).Nodup
 sub:∀x∈jn.flatMap (·.adr)++ts,x∈ws
 up:∀z∈jn,z.adr.Pairwise (· < ·)/\1<=z.adr.length/\z.adr.length<=30
 nm:(jn.map (·.name)).Sublist ys
theorem Rz.next {ws ts ms ss:List Int} {jn:List Zone} {ys:YF} {y:Str} (h:Rz ws ts jn ys) (hp:ms.Perm ss) (hsub:ss.Sublist ts) (hr:ms.Pairwise (·<=·)) (h30:ms.length<=30) (y1:1<=ms.length):Rz ws (ts.filter λx=>!decide (x∈ms)) (jn++[⟨y,ms⟩]) (ys++[y]):=by
 obtain⟨n1,n2,n3⟩:=Qbu.mp h.nd;have nms:ms.Nodup:=hp.nodup_iff.mpr (hsub.nodup n2);have hin:∀x∈ms,x∈ts:=λx hx=>hsub.subset (hp.mem_iff.mp hx);have e:(jn++[(⟨y,ms⟩ : Zone)]).flatMap (·.adr)=jn.flatMap (·.adr)++ms:=by rw[QaP];simp
 refine⟨?_,λx hx=>?_,λz hz=>?_,?_⟩
 ·rw[e,Qbu];refine⟨Qbu.mpr ⟨n1,nms,λa ha b hb=>n3 a ha b (hin b hb)⟩,n2.filter _,λa ha b hb=>?_⟩;obtain⟨hb1,hb2⟩:=QbQ.mp hb;rcases QbI.mp ha with ha | ha
  ·exact n3 a ha b hb1
  ·rintro rfl;rw[QbX ha] at hb2;cases hb2
 ·rw[e] at hx;rcases QbI.mp hx with hx | hx
  ·rcases QbI.mp hx with hx | hx
   ·exact h.sub x (QaK _ hx)
   ·exact h.sub x (QaD _ (hin x hx))
  ·exact h.sub x (QaD _ (QbQ.mp hx).1)
 ·rcases QbI.mp hz with hz | hz
  ·exact h.up z hz
  ·have:z=⟨y,ms⟩:=by simpa using hz
   rw[this];refine⟨?_,y1,h30⟩;refine List.Pairwise.imp₂ (S:=λa b:Int=>a≠b) (λa b h1 h2=>by omega) hr nms
 ·rw[QbJ];exact h.nm.append (List.Sublist.refl _)
theorem Rz.none {ws ts:List Int} {jn:List Zone} {ys:YF} {y:Str} {g:Int->Bool} (h:Rz ws ts jn ys):Rz ws (ts.filter g) jn (ys++[y]):=by
 obtain⟨n1,n2,n3⟩:=Qbu.mp h.nd;refine⟨Qbu.mpr ⟨n1,n2.filter _,λa ha b hb=>n3 a ha b (QbQ.mp hb).1⟩,λx hx=>?_,h.up,h.nm.trans (List.sublist_append_left ..)⟩;rcases QbI.mp hx with hx | hx
 ·exact h.sub x (QaK _ hx)
 ·exact h.sub x (QaD _ (QbQ.mp hx).1)
abbrev xx:YF:=["_law_other","_law_number"]
abbrev xL:YF:=["_law_k","_law_start","_law_stride"]
abbrev xN:YF:=["_law_number","_law_bag_here"]
theorem AD (C:Code K mg "_law_plan" Lf Ow) (T:Nm mg) (Bl:⋯ "_law_take" 1 Gb KH) (eO:⋯ "_law_loop" 2 Oz bK) (qZ:⋯ "_law_parts" 1 MJ Vg) (rm:⋯ "_law_names" 3 MK X5) :
  ⋯ "_law_plan" 4 Ow bH:=by
 exists C,Ci
 obtain⟨b,n,ml,mp,rfl,hb,hn,SW,hml,NB,hmp,q⟩:=h;refine⟨_,(Ae (Ba (i:=3) Ci.nd rfl (Or.inr rfl) (BP Bl hr (Aa (pv 0) (Aa Af Ac))))
 (Ae (Ba (i:=4) Ci.nd rfl (Or.inr rfl) (Bj Dn (@BZ _ _ _ _ (0&&&(0&&&(0&&&(0&&&(0&&&(0&&&(0&&&(0&&&(0&&&(@Ac _) Bg) Bg) Bg) Bg) Bg) Bg) Bg) Bg) Bg)) (BP Bl hr (Aa (pv 0) (Aa Af Ac))) (λ_ _=>rfl)))
 (Ae (T9 (i:=5) Ci.nd rfl (Or.inl rfl) (N':=xL) rfl ([none,some 3,some 4]|||(Aj Lf)|||xk) (Dd rfl T.range (Aa Af Ac)) (~~~(0∩xL)) (λ_ _ _ _=>CT) (~~~(Bf CG (Bf M6 (Bf CG (pv 1) (Bf Ji (pv 2) (pv 0))) Af) Af)))
 (Ae (6∪Ci∪(Cy Qas PySem.F.slot_list_pop PySem.F.type_list_pop dD (pv 5) (Aa Af Ac)))
 (Ae (7∪Ci∪(Bb Ac))
 (Ae (PS.weak (t':=BY) (Ce (Br WL (BP Bl hr (Aa (pv 0) (Aa Af Ac))) Af (Bv _)) (Ag (7∪Ci∪(CW eO hr (Aa (pv 0) (Aa (pv 5) (Aa (Bf CM (pv 2) Af) Ac)))))) Bt) (λD U H h=>by
    obtain⟨b,nb,f0,n,mp,ns,e0,e5,e2,e7,hf0,hb,hn,nbn,hnb,hmp,SL,hns,q⟩:=h;refine⟨_,e0,b,n,8,rq,hb,by omega,by decide,by decide,λr H1 r0 r1 hb1 sb1=>⟨_,_,rq,rq,_,rq,Jx (λ_=>?_) (λ_=>?_)⟩⟩
    ·refine⟨_,e0,_,e5,_,e2,_,_,rq,rq,b,nb,n+1,mp - 1,ns,?_,hb1,by omega,nbn,sb1 _ _ hnb nbn.symm,by omega,by omega,hns,λt ps ns' H2 ⟨t',vs,et,ht,hp⟩ hok h1 h2 hns' hnb' hb2 s2=>?_⟩
     ·show [V.ref b,.ref nb,.int ((mp:Int) - 1)]++[]=_;rw[show ((mp:Int) - 1)=((mp - 1:Nat):Int) by omega];rfl
     ·cases et;exact q t vs ps ns' H2 ht hp hok (by omega) hns' hnb' (hb2.mono (by omega)) ((Dy.l sb1).trans s2)
    ·have q:=q f0 [] [] ns H1 (sb1.tup hb.DG _ _ hf0) .nil (λp hp=>by cases hp) (by show 0+1<=mp;omega) rfl (sb1 _ _ hnb nbn.symm) (hb1.mono (by omega)) (Dy.l sb1);rw[Ch e7] at q;exact q))
 (Ae (8∪Ci∪(BP Bl hr (Aa (pv 0) (Aa (Bf CG (Aw Bh rfl T.len CJ (Aa (pv 7) Ac)) Af) Ac))))
 (Ae (9∪Ci∪(BZ (Aa (Bf Ka (Bf Ka (Je Yc (pv 7) Ks (Kr (pv 8))) (Bb (Aa (Bb (Aa Bd (Aa (pv 6) (Aa (Bb Ac) Ac)))) Ac))) (Je Yc (pv 7) (Kr (pv 8)) Ks)) Ac)))
 (Ae (Cj QbK rfl (Dd rfl T.range (Aa (BP Bl hr (Aa (pv 0) (Aa (pv 1) Ac))) Ac)) (10∣Ci)
 (Ag (Bc (Cy Qas Qao Qap Cv (pv 9) (Aa (CW eO hr (Aa (pv 0) (Aa (pv 5) (Aa (pv 2) Ac)))) Ac)))))
 (Ae (11∪Ci∪(Aw (ZJ rfl) rfl T.max fW (Aa (Cw (N':=MJ) rfl nofun (Dc (pv 9)) (~~~(0∩MJ)) (λ_ _ _ _=>CT) (~~~(Aw (ou (K:=K) rfl rfl) rfl T.max fW (Aa (BJ qZ hr (Aa (pv 0) Ac)) Ac)))) Ac)))
 (Ae (12∪Ci∪(BZ Ac))
 (Ae (Cj QbK rfl (Dc (pv 9)) (13∣Ci)
 (Ag (Cj QbK rfl (Ga (pv 13)) (CK rfl (Ak (14∣Ci) (Ak (15∣Ci) (Ak (16∣Ci) Bo))))
 (Ag (Bc (Cy Qas Qaq Qar Fe (pv 12) (Aa (Cw (N':=xx) rfl nofun (Ga (Bf Ka (Bb (Aa (Bb (Aa (pv 14) (Aa (pv 15) Ac))) Ac)) (pv 16))) (~~~(FW (K:=K) (n:=2) rfl rfl (Ak (0∩xx) (Ak (1∩xx) Bo)))) (~~~(G3 (Br (WK (K:=K) rfl) (pv 0) (Bb (Aa Bd (Aa Bd Ac))) (by with_unfolding_all rfl)))) (~~~(pv 1))) Ac)))))))
 (Ae (17∪Ci∪(BZ Ac))
 (Ae (18∪Ci∪(BP rm hr (Aa (pv 0) (Aa (BP Bl hr (Aa (pv 0) (Aa Af Ac))) Ac))))
 (Ae (Cj QbK rfl (Dc (pv 18)) (19∣Ci)
 (Ae (Ba (i:=20) Ci.nd rfl (Or.inr rfl) (Aw fM rfl T.sorted ZK (Aa (Cw (N':=xN) rfl ([none,some 0]|||(Aj Lf)|||xk) (Dc (pv 12)) (~~~(0∩xN)) (~~~(G3 (Br Js (BP Bl hr (Aa (pv 1) (Aa Af Ac))) Af (Bv _)))) (~~~(pv 0))) Ac)))
 (Ae (T9 (i:=12) Ci.nd rfl (Or.inl rfl) (N':=["_law_number","_law_some"]) rfl ([none,some 20]|||(Aj Lf)|||xk) (Dc (pv 12)) (~~~(Ai (i:=0) (show List.Nodup (["_law_number","_law_some"]:YF) by trivial) rfl (Or.inl rfl))) (~~~(G3 (Br (RD (K:=K) rfl) (pv 0) (pv 1) (by with_unfolding_all rfl)))) (~~~(pv 0)))
 (Ag (Ce (Br WL (Aw Bh rfl T.len CJ (Aa (pv 20) Ac)) Af (Bv _)) (Ag (Bc (Cy Qas Qao Qap Cv (pv 17) (Aa (Bb (Aa (pv 19) (Aa (Jg Ib rfl T.tuple LK (Aa (pv 20) Ac)) Ac))) Ac)))) Bt)))))
 (Ag (Az (Bb (Aa (Aw (PJ rfl) rfl T.min Xm (Aa Af (Aa (Bf CG (pv 11) (BP Bl hr (Aa (pv 0) (Aa Af Ac)))) Ac))) (Aa (Jg Ib rfl T.tuple LK (Aa (pv 9) Ac)) (Aa (Jg Ib rfl T.tuple LK (Aa (pv 17) Ac)) Ac))))))))))))))))))))),?_⟩
 show let R0:TS:=_;let R1:TS:=_;let R2:TS:=Hr _ R1 _;let R3:TS:=Ao _ R2;let R4:TS:=Ao _ R3;let R5:TS:=Ao (Dq _ _ R4) R0;let R6:TS:=Ao _ R5;let R7:TS:=Ao _ R6;let R8:TS:=_;let R9:TS:=Dq _ _ R8;let R10:TS:=Ao (Dq _ _ R9) R7;let R11:TS:=Ao _ R10;let R12:TS:=Ao _ R11;let R13:TS:=_;let R14:TS:=Ao (Dq _ _ R13) R12;let R15:TS:=Ao _ R14;let R16:TS:=Ao _ R15;let R17:TS:=Ao _ R16;let R18:TS:=Ao _ R17;let R19:TS:=Ao _ R18;let R20:TS:=Ao _ R19;let R21:TS:=Ao _ R20;Ao _ R21 _ _ _;intro R0 R1 R2 R3 R4 R5 R6 R7 R8 R9 R10 R11 R12 R13 R14 R15 R16 R17 R18 R19 R20 R21;generalize hst:L2.start _ _=σ0;have e0:σ0=[jp b,some (.int ml),some (.int mp),none,none,none,none,none,none,none,none,none,none,none,none,none,none,none,none,none,none]:=hst.symm;clear hst;subst e0;refine⟨_,rq,b,n,99,rq,hb,by omega,by decide,by decide,λr1 H1 r10 r11 hb1 sb1=>?_⟩;simp only[QaY,QaX];refine⟨Av (by show 9<=1000;decide),λl9 hl9=>?_⟩;have s9:=Ad hl9 (.lst [.int 1,.int 2,.int 4,.int 5,.int 7,.int 8,.int 10,.int 13,.int 98]);refine⟨_,rq,b,_,9,rq,hb1.same s9,by omega,by decide,by decide,λr2 H2 r20 r21 hb2 sb2=>?_⟩;obtain⟨sd,esd,⟨sd0,sd1⟩,sdk⟩:=QE r20 r21 (a:=1) (b:=2) (c:=4) (d:=5) (e:=7) (f:=8) (g:=10) (h:=13) (k:=98) (λp=>(0<=p/\p<=98)/\Fw p) (by unfold Fw;decide) (by unfold Fw;decide) (by unfold Fw;decide) (by unfold Fw;decide) (by unfold Fw;decide) (by unfold Fw;decide) (by unfold Fw;decide) (by unfold Fw;decide) (by unfold Fw;decide);refine⟨l9,_,_,_,rq,rq,SqL.of (sb2 _ _ Ab (hb1.nb hl9).symm),esd,?_⟩;simp only[QaY,QaX];have sB2:Ah b H H2:=(sb1.trans (Ah.of s9)).trans sb2;refine⟨_,rq,by decide,by decide,λnb xR=>?_⟩;have nbn:b≠nb:=hb2.nb xR;have fnb:H nb=none:=sB2.free hb2.ex xR;let J0:YN:=λi U HH=>∃(u:Option V) (ns:List Int),U=[u,some (.int r1),some (.int sd)]/\HH=upd H2 nb (.lst (ns.map V.int))/\ns=Ql r1 sd i;refine K7 J0 ⟨none,[],rq,rq,rq⟩ (λi U HH hi h=>?_) (fun U HH h=>?_)
 ·obtain⟨u,ns,rfl,rfl,e1⟩:=h;have hi:i < 30:=hi;have e1l:ns.length=i:=by rw[e1];unfold Ql;rw[QbH,Qbt]
  refine⟨_,rq,_,rq,_,rq,_,_,rq,rq,.inl ⟨by omega,by omega⟩,_,_,rq,rq,_,_,rq,rq,(by show (0:Int) < 99;decide),_,_,rq,rq,_,Ab,Ar (by rw[QbH];omega),_,ns++[(r1+sd*(0+(i:Int))) % 99+1],rq,?_,by rw[qy,e1]⟩;rw[TF,QbJ];rfl
 obtain⟨u,wj,rfl,rfl,e30⟩:=h;have yt:wj=Ql r1 sd 30:=e30;have e30:wj.length=30:=by rw[yt];unfold Ql;rw[QbH,Qbt]
 simp only[QaY,QaX];cases wj with
 | nil=>cases e30
 | cons own Jw=>
 have e29:Jw.length=29:=by simpa using e30
 have FM:(own::Jw).Nodup:=by rw[yt];exact AJ sdk
 have FO:∀x∈own::Jw,1<=x/\x<=99:=by rw[yt];exact AK r1 sd 30
 have sN:=Ad xR (.lst ((own::Jw).map V.int));refine⟨_,rq,.inl ⟨rq,_,SqL.of Ab⟩,nb,_,0,0,.int own,rq,rq,Ab,by decide,by decide,pG (by rw[QbH];show 0 < _+1;omega),rq,?_⟩;simp only[QaY,QaX];have D8:upd (upd H2 nb (.lst ((own::Jw).map V.int))) nb (.lst (((own::Jw).map V.int).eraseIdx 0)) nb=some (.lst (Jw.map V.int)):=by rw[Ab];rfl
 have hb4:Bu (upd (upd H2 nb (.lst ((own::Jw).map V.int))) nb (.lst (((own::Jw).map V.int).eraseIdx 0))) b (n+1+1):=(hb2.same sN).Gw Ah.upd nbn;have sB4:Ah b H (upd (upd H2 nb (.lst ((own::Jw).map V.int))) nb (.lst (((own::Jw).map V.int).eraseIdx 0))):=Ah.QV (sB2.trans (Ah.of sN)) Ah.upd fnb;generalize upd (upd H2 nb (.lst ((own::Jw).map V.int))) nb (.lst (((own::Jw).map V.int).eraseIdx 0))=H4 at D8 hb4 sB4;refine⟨js,λf0 hf0=>?_⟩;simp only[QaY,QaX];have s5:=Ad hf0 (.tup []);refine⟨b,nb,f0,_,mp,Jw,rq,rq,rq,rq,Ab,hb4.same s5,by omega,nbn,s5 _ _ D8,NB,hmp,by omega,λft fv fp ns1 H5 hft hfp Ev hfl No Nw hb5 s45=>?_⟩;simp only[QaY,QaX];have sB5:Ah b H H5:=λc o e nc=>s45 _ _ (s5 _ _ (sB4 _ _ e nc)) nc (λz=>by rw[z,fnb] at e;cases e);have lfv:=Qcc hfp;refine⟨_,rq,_,rq,ft,_,rq,.inr (SqT.of hft),_,_,rq,rq,b,_,_,rq,hb5,by omega,by omega,by omega,λr4 H6 r40 r41 hb6 sb6=>?_⟩;simp only[QaY,QaX];obtain⟨an,han⟩ : ∃an:Nat,r4=an:=⟨r4.toNat,by omega⟩;subst han;have Ee:=(sb6.tup hb5.DG) _ _ hft;have Eg:=Pn.tups (sb6.tup hb5.DG) hfp;have D7:=sb6 _ _ Nw nbn.symm;have sB6:=sB5.trans sb6;refine⟨_,rq,_,rq,_,rq,ft,fv,rq,Ee,λp1 H7 hp1 s7=>?_⟩;rw[EU (by omega)] at hp1;refine⟨_,rq,js,λe0 he0=>⟨kf,λt3 ht3=>⟨jv,λt1 ht1=>?_⟩⟩⟩;have q1:=Ad he0 (.tup []);have q2:=Ad ht3 (.tup [.str "seeker",.int own,.ref e0]);have q3:=Ad ht1 (.tup [.ref t3]);have q13:=(q1.trans q2).trans q3;have hown:Eh (upd (upd (upd H7 e0 (.tup [])) t3 (.tup [.str "seeker",.int own,.ref e0])) t1 (.tup [.ref t3])) (.ref t3) ⟨"seeker",own,[]⟩:=⟨t3,e0,[],rq,q3 _ _ Ab,q3 _ _ (q2 _ _ Ab),.nil⟩;refine⟨p1,t1,_,_,rq,rq,q13 _ _ hp1,Ab,Av (by rw[QbA];show _+1<=1000;omega),λp2 H8 hp2 s8=>?_⟩;have s68:=(s7.trans q13).trans s8;refine⟨_,rq,_,rq,_,rq,ft,fv,rq,s68 _ _ Ee,λp3 H9 hp3 s9'=>?_⟩;rw[V0 (by omega)] at hp3;refine⟨p2,p3,_,_,rq,rq,s9' _ _ hp2,hp3,Av (by rw[QaV,QbA,QbD];show _+1+_<=1000;omega),λp4 H10 hp4 s10=>⟨jv,λll hll=>?_⟩⟩;simp only[QaY,QaX];have cu:=(s68.trans s9').trans s10;have s11:=Ad hll (.lst [.ref p4]);have cj:=cu.trans s11;have hL0:LoopAt (upd H10 ll (.lst [.ref p4])) (.ref p4) ((fp.take an++[⟨"seeker",own,[]⟩])++fp.drop an):=by
  refine⟨p4,_,rq,s11 _ _ hp4,Paired.app (Paired.app (Pn.tups (Al.of cj) (Paired.lC an Eg)) (.cons ?_ .nil)) (Pn.tups (Al.of cj) (Paired.nY an Eg))⟩;exact hown.tups (Al.of (((s8.trans s9').trans s10).trans s11))
 have C4:OkL ((fp.take an++[⟨"seeker",own,[]⟩])++fp.drop an):=by
  refine⟨?_,?_,λp hp=>?_⟩
  ·rw[QaV,QaV];show 1<=_+1+_;omega
  ·rw[QaV,QaV,QbA,QbD];show _+1+_<=12;omega
  ·rcases QbI.mp hp with z | z
   ·rcases QbI.mp z with z | z
    ·exact Ev p (QaM z)
    ·have:p=⟨"seeker",own,[]⟩:=by simpa using z
     rw[this];exact⟨by show 0<=3;decide,(λd hd=>by cases hd),.inr (.inl rfl)⟩
   ·exact Ev p (List.mem_of_mem_drop z)
 have pm0:(adL ((fp.take an++[⟨"seeker",own,[]⟩])++fp.drop an)++ns1).Perm (own::Jw):=by
  have h2:adL fp=adL (fp.take an)++adL (fp.drop an):=by rw[<-Oc,List.take_append_drop]
  have h3:adL [(⟨"seeker",own,[]⟩ : Place)]=[own]:=by
   have:adP ⟨"seeker",own,[]⟩=[own]:=if_neg (Xa (.inl rfl));show [(⟨"seeker",own,[]⟩ : Place)].flatMap adP=[own];simp[this]
  rw[Oc,Oc,h3,No,h2,Qbn,Qbn,Qbn];exact (List.perm_middle (l₁:=adL (fp.take an)) (a:=own) (l₂:=adL (fp.drop an)++ns1))
 have GY:1<=(adL ((fp.take an++[⟨"seeker",own,[]⟩])++fp.drop an)).length:=by
  have h3:adL [(⟨"seeker",own,[]⟩ : Place)]=[own]:=by
   have:adP ⟨"seeker",own,[]⟩=[own]:=if_neg (Xa (.inl rfl));show [(⟨"seeker",own,[]⟩ : Place)].flatMap adP=[own];simp[this]
  rw[Oc,Oc,h3,QaV,QaV];show 1<=_+1+_;omega
 generalize S0:(fp.take an++[⟨"seeker",own,[]⟩])++fp.drop an=L0 at hL0 C4 pm0 GY;have hbL:Bu (upd H10 ll (.lst [.ref p4])) b (n+1+1+101+1):=hb6.same cj;have D6:=cj _ _ D7;have sBL:Ah b H (upd H10 ll (.lst [.ref p4])):=sB6.trans (Ah.of cj);have D9:upd H10 ll (.lst [.ref p4]) ll=some (.lst [.ref p4]):=Ab;have fll:H ll=none:=(sB6.trans (Ah.of cu)).free (hb6.same cu).ex hll;have nbl:b≠ll:=(hb6.same cu).nb hll;have nnl:nb≠ll:=Aq (cu _ _ D7) hll;generalize upd H10 ll (.lst [.ref p4])=HL at hL0 hbL D6 sBL D9;refine⟨_,rq,_,rq,b,_,_,rq,hbL,by omega,by omega,by omega,λr5 HM r50 r51 hbM sbM=>⟨_,rq,by omega,by omega,?_⟩⟩;obtain⟨lnn,NC⟩ : ∃lnn:Nat,r5=lnn:=⟨r5.toNat,by omega⟩;subst NC;rw[Qbo];have tM:=sbM.tup hbL.DG;have II:∀ps∈[L0],OkL ps:=λps hps=>by
  have:ps=L0:=by simpa using hps
  rw[this];exact C4
 let J1:YN:=λi U HH=>∃(u10:Option V) (vs:YG) (ja:YU) (ns':List Int),U=[jp b,some (.int ml),some (.int mp),some (.int r1),some (.int sd),jp nb,some (.int own),jp ft,some (.int (an:Int)),jp ll,u10,none,none,none,none,none,none,none,none,none,none]/\HH ll=some (.lst vs)/\Paired (LoopAt HH) vs ja/\ja.length=1+i/\(∀ps∈ja,OkL ps)/\((Cg ja++ns').Perm (own::Jw)/\∃L,ja=L0::L)/\HH nb=some (.lst (ns'.map V.int))/\Bu HH b (n+105+101*i)/\Ah b H HH;refine Fi J1
  ⟨_,[.ref p4],[L0],ns1,rq,sbM _ _ D9 nbl.symm,.cons (hL0.tups tM) .nil,rq,II,⟨(by show ([L0].flatMap adL++_).Perm _;simpa using pm0),[],rq⟩,sbM _ _ D6 nbn.symm,hbM.mono (by omega),sBL.trans sbM⟩ (λi U HH hi h=>?_) (fun U HH h=>?_)
 ·obtain⟨u10,vs,ja,ns',rfl,e1,e2,e3,e4,⟨e5p,Lr,hLr⟩,e6,e7,e8⟩:=h;have e5:(Cg ja).length+ns'.length=30:=by
   have:=e5p.length_eq;rw[QaV,Qbz,e29] at this;exact this
  simp only[QaY,QaX];refine⟨_,rq,.inl ⟨rq,_,SqL.of e1⟩,_,rq,_,rq,_,rq,b,nb,_,mp,ns',rq,e7,by omega,nbn,e6,by omega,by omega,by omega,λt ps IM H' hL hok h1 h2 hns hnb' hb' s2=>?_⟩;have e1':=s2 _ _ e1 nbl.symm nnl.symm;have t2:Al HH H':=λc xs e=>s2 _ _ e (λz=>e7.DG _ (z ▸ e)) (λz=>by rw[z,e6] at e;cases e);refine⟨ll,_,_,rq,rq,e1',Ar (by rw[Qcc e2];omega),?_⟩;have tv0:∀zs,H' ll≠some (.tup zs):=λzs z=>by rw[e1'] at z;cases z
  have tv:=Al.upd (o:=.lst (vs++[.ref t])) tv0;refine⟨_,vs++[.ref t],ja++[ps],IM,rq,Ab,Qcx (hL.tups tv) (Ln.tups tv (Ln.tups t2 e2)),by rw[QaV,e3];show _+1=_;omega,λp hp=>?_,?_,by rw[Am nnl];exact hnb',(hb'.Gw Ah.upd nbl).mono (by omega),λc o e nc=>?_⟩
  ·rcases QbI.mp hp with z | z
   ·exact e4 p z
   ·have:p=ps:=by simpa using z
    rw[this];exact⟨h1,by omega,hok⟩
  ·refine⟨?_,Lr++[ps],by rw[hLr];rfl⟩;rw[ZS,Qbn,<-hns];exact e5p
  ·rw[Am (λz=>by rw[z,fll] at e;cases e)];exact s2 _ _ (e8 _ _ e nc) nc (λz=>by rw[z,fnb] at e;cases e)
 obtain⟨u10,vs,ja,ns',rfl,e1,e2,e3,e4,⟨e5p,qR⟩,e6,e7,e8⟩:=h;have e5:(Cg ja).length+ns'.length=30:=by
  have:=e5p.length_eq;rw[QaV,Qbz,e29] at this;exact this
 have lvs:=Qcc e2;have ndA:(Cg ja).Nodup:=(Qbu.mp (e5p.nodup_iff.mpr FM)).1;have bdA:∀x∈Cg ja,1<=x/\x<=99:=λx hx=>FO x (e5p.mem_iff.mp (QaK _ hx));have BI:=RP e4;refine⟨_,rq,ll,rq,⟨_,SqL.of e1⟩,λlm hlm=>?_⟩;have nlm:ll≠lm:=Aq e1 hlm;let J2:YN:=λi U H'=>∃(u:Option V) (ms:List Int),U=[u]/\H' lm=some (.lst (ms.map V.int))/\ms.length=i/\Same HH H'/\∀ps∈ja.take i,∀m∈Iz ps,∃M∈ms,m<=M;refine Hq (xs:=vs) J2 ⟨none,[],rq,Ab,rq,Ad hlm _,(λps hps=>by cases hps)⟩ (λi U H' _ h=>?_) (λi x U H' hx h=>?_) (fun U H' h=>?_)
 ·obtain⟨u,ms,rfl,m1,m2,m3,m4⟩:=h;exact SqL.of (m3 _ _ e1)
 ·obtain⟨u,ms,rfl,m1,m2,m3,m4⟩:=h;obtain⟨ps,hps,hL⟩:=Paired.Ck e2 hx;obtain⟨tx,wx,rfl,hx1,hx2⟩:=id hL;have okl:=e4 ps (QaI hps);refine⟨_,rq,tx,ps,rq,hL.tups (Al.of m3),okl.ok,by have:=okl.hi;omega,λlq H'' hq s'=>⟨lq,Iz ps,rq,SqL.of hq,(by unfold Iz;rw[QaV];show 0 < _+1;omega),λM hMi hMm=>?_⟩⟩;have hi:=(Qai.mp hx).1;refine⟨_,s' _ _ m1,Ar (by rw[QbH];omega),_,ms++[M],rq,by rw[Ab,QbJ];rfl,by rw[QaV,m2];rfl,(m3.trans s').Bp Ah.upd hlm,λqs hqs m hm=>?_⟩;rw[QcF hps] at hqs;rcases QbI.mp hqs with hqs | hqs
  ·obtain⟨M',h1,h2⟩:=m4 qs hqs m hm;exact⟨M',QaK _ h1,h2⟩
  ·have:qs=ps:=by simpa using hqs
   rw[this] at hm;exact⟨M,QaD _ (QaW ..),hMm m hm⟩
 obtain⟨u,ms,rfl,m1,m2,m3,m4⟩:=h;refine⟨lm,ms,rq,SqL.of m1,by omega,λM hMi hMm=>?_⟩;have Do:∀ps∈ja,∀m∈Iz ps,m<=M:=λps hps m hm=>by
  obtain⟨M',h1,h2⟩:=m4 ps (by rw[lvs,Qby];exact hps) m hm;have:=hMm M' h1;omega
 simp only[QaY,QaX];have e1:=m3 _ _ e1;have e2:=Ln.tups (Al.of m3) e2;have e7:=e7.same m3;have e8:=e8.trans (Ah.of m3);clear m1 m2;refine⟨js,λlt hlt=>?_⟩;simp only[QaY,QaX];have sT:=Ad hlt (.lst []);have nbt:b≠lt:=e7.nb hlt;refine⟨_,rq,ll,rq,⟨_,SqL.of (sT _ _ e1)⟩,?_⟩;let J3:YN:=λi U HT=>∃(u13 u14 u15 u16:Option V) (ts:List Int),U=[jp b,some (.int ml),some (.int mp),some (.int r1),some (.int sd),jp nb,some (.int own),jp ft,some (.int (an:Int)),jp ll,u10,some (.int M),jp lt,u13,u14,u15,u16,none,none,none,none]/\HT lt=some (.lst (ts.map V.int))/\ts=Fy (ja.take i)/\Same H' HT;refine Lz (xs:=vs) J3 ⟨_,_,_,_,[],rq,Ab,rq,sT⟩ (λi U HT _ h=>?_) (λi x U HT hx h=>?_) (fun U HT h=>?_)
 ·obtain⟨u13,u14,u15,u16,ts,rfl,t1,t2,t3⟩:=h;exact SqL.of (t3 _ _ e1)
 ·obtain⟨u13,u14,u15,u16,ts,rfl,t1,t2,t3⟩:=h;simp only[QaY,QaX];obtain⟨ps,hps,hL⟩:=Paired.Ck e2 hx;obtain⟨tx,wx,rfl,hx1,hx2⟩:=id hL;have okl:=e4 ps (QaI hps);have lwx:=Qcc hx2;have etk:Cg (ja.take (i+1))=Cg (ja.take i)++adL ps:=by rw[QcF hps,ZS]
  have tot:(Cg (ja.take (i+1))).length<=30:=by
   have:Cg ja=Cg (ja.take (i+1))++Cg (ja.drop (i+1)):=by unfold Cg;rw[<-QaP,List.take_append_drop]
   have h2:=congrArg List.length this;rw[QaV] at h2;omega
  rw[etk,QaV] at tot;have wle:(Fy (ja.take i)).length<=(Cg (ja.take i)).length:=(RP λqs hqs=>e4 qs (QaM hqs)).length_le;have wtk:Fy (ja.take (i+1))=Fy (ja.take i)++JR ps:=by rw[QcF hps,kj]
  refine⟨_,rq,tx,rq,⟨_,SqT.of (t3 _ _ hx1)⟩,?_⟩;let J4:YN:=λj U HT=>∃(u14 u15 u16:Option V) (ts:List Int),U=[jp b,some (.int ml),some (.int mp),some (.int r1),some (.int sd),jp nb,some (.int own),jp ft,some (.int (an:Int)),jp ll,u10,some (.int M),jp lt,jp tx,u14,u15,u16,none,none,none,none]/\HT lt=some (.lst (ts.map V.int))/\ts=Fy (ja.take i)++JR (ps.take j)/\Same H' HT;refine Ly (xs:=wx) J4 ⟨_,_,_,ts,rq,t1,(by rw[t2];show _=_++[];rw[QbM]),t3⟩ (λj U HT _ h=>?_) (λj y U HT hy h=>?_) (fun U HT h=>?_)
  ·obtain⟨u14,u15,u16,ts,rfl,t1,t2,t3⟩:=h;exact SqT.of (t3 _ _ hx1)
  ·obtain⟨u14,u15,u16,ts,rfl,t1,t2,t3⟩:=h;obtain⟨p,hp,hP⟩:=Paired.Ck hx2 hy;obtain⟨tp,up,wp',rfl,hp1,hp2,hp3⟩:=hP.tups (Al.of t3);have okp:=okl.ok p (QaI hp);have etj:adL (ps.take (j+1))=adL (ps.take j)++adP p:=by rw[QcF hp,V4]
   have tj:(adL (ps.take (j+1))).length<=(adL ps).length:=by
    have:adL ps=adL (ps.take (j+1))++adL (ps.drop (j+1)):=by rw[<-Oc,List.take_append_drop]
    have h2:=congrArg List.length this;rw[QaV] at h2;omega
   rw[etj,QaV] at tj;have wlj:(JR (ps.take j)).length<=(adL (ps.take j)).length:=(Vc λqs hqs=>okl.ok qs (QaM hqs)).length_le;have wtj:JR (ps.take (j+1))=JR (ps.take j)++Jt (Gn p):=by rw[QcF hp,oX]
   have t2l:ts.length<=(Cg (ja.take i)).length+(adL (ps.take j)).length:=by rw[t2,QaV];omega
   refine⟨tp,_,rq,SqT.of hp1,rq,_,_,rq,_,_,rq,_,_,rq,rq,?_⟩;simp only[QaY,QaX];refine⟨_,rq,.inl ⟨rq,_,SqL.of t1⟩,_,rq,_,rq,ke,λta hta=>⟨jv,λtb htb=>?_⟩⟩;have v1:=Ad hta (.tup [.str p.kind,.int p.addr]);have v2:=Ad htb (.tup [.ref ta]);have v12:=v1.trans v2;refine⟨_,rq,tb,up,_,_,rq,rq,Ab,v12 _ _ hp2,Av (by have:=okp.spur;show 1+_<=1000;rw[Qcc hp3];omega),λtc HC hC sC=>⟨tc,rq,⟨_,SqT.of hC⟩,λl hl=>?_⟩⟩;have vC:=v12.trans sC;have hds:Paired (K8 HC) ([.ref ta]++wp') (⟨p.kind,p.addr⟩::p.spur):=.cons ⟨ta,rq,sC _ _ (v2 _ _ Ab)⟩ (Paired.Ax hp3 λ_ _ z=>z.tups (Al.of vC));have lds:=Qcc hds;let J5:YN:=λk U H5=>∃(u v:Option V) (ys:List Int),U=[u,v]/\H5 l=some (.lst (ys.map V.int))/\ys=Jt ((Gn p).take k)/\Same HC H5;refine Rp (xs:=[.ref ta]++wp') J5 ⟨none,none,[],rq,Ab,rq,Ad hl _⟩ (λk U H5 _ h=>?_) (λk x U H5 hk h=>?_) (fun U H5 h=>?_)
   ·obtain⟨u,v,ys,rfl,y1,y2,y3⟩:=h;exact SqT.of (y3 _ _ hC)
   ·obtain⟨u,v,ys,rfl,y1,y2,y3⟩:=h;obtain⟨d,hd,td,rfl,htd⟩:=Paired.Ck hds hk;have hkl:=(Qai.mp hd).1;have hsp:=okp.spur;have hkk:k < 4:=by rw[Qbz] at hkl;omega
    have hdv:(Gn p)[k]?=some d:=hd;have hws:Jt ((Gn p).take (k+1))=Jt ((Gn p).take k)++(if Fv d.kind=true then [d.addr] else []):=by rw[QcF hdv,oY]
    have y2l:ys.length<=k:=by
     rw[y2];have:=(jc (ds:=(Gn p).take k)).length_le;rw[QbH,QbA] at this;omega
    refine⟨td,_,rq,SqT.of (y3 _ _ htd),rq,_,_,rq,_,_,rq,rq,?_⟩;refine⟨_,rq,ke,λtq htq=>?_⟩;have vq:=Ad htq (.tup [.str "seeker",.str "knob"]);refine⟨tq,_,rq,.inr (SqT.of Ab),rq,rq,_,rq,Jx (λcc=>?_) (λcc=>?_)⟩
    ·have cc:Fv d.kind=true:=cc;rw[if_pos cc] at hws;refine⟨_,rq,_,vq _ _ y1,Ar (by rw[QbH];omega),_,_,ys++[d.addr],rq,by rw[Ab,QbJ];rfl,by rw[hws,y2],(y3.trans vq).Bp Ah.upd hl⟩
    ·have cc:¬Fv d.kind=true:=cc;rw[if_neg cc,QbM] at hws;refine⟨_,_,ys,rq,vq _ _ y1,by rw[hws];exact y2,y3.trans vq⟩
   obtain⟨u,v,ys,rfl,y1,y2,y3⟩:=h;have y2':ys=Jt (Gn p):=by
    rw[y2,lds];congr 1;exact Qby ..
   have y2l:ys.length<=(adP p).length:=by rw[y2'];exact (aR okp).length_le
   have t1':=y3 _ _ (vC _ _ t1);refine⟨lt,l,_,_,rq,rq,t1',y1,Av (by rw[QbH,QbH];omega),?_⟩;refine⟨_,_,_,ts++ys,rq,by rw[Ab,QbJ],?_,((t3.trans vC).trans y3).Bp Ah.upd hlt⟩;rw[wtj,t2,y2',Qbn]
  ·obtain⟨u14,u15,u16,ts,rfl,t1,t2,t3⟩:=h;rw[lwx,Qby] at t2;exact⟨_,_,_,_,ts,rq,t1,by rw[wtk];exact t2,t3⟩
 obtain⟨u13,u14,u15,u16,ts,rfl,t1,t2,t3⟩:=h;rw[lvs,Qby] at t2;have uH:ts.length<=30:=by rw[t2];have:=BI.length_le;omega
 have zk0:Rz (Fy ja) ts [] []:=by
  rw[t2];exact⟨BI.nodup ndA,(λx hx=>hx),(λz hz=>by cases hz),List.Sublist.refl _⟩
 have e1:=t3 _ _ e1;have e2:=Ln.tups (Al.of t3) e2;have e7:=e7.same t3;have e8:=e8.trans (Ah.of t3);refine⟨js,λlz hlz=>?_⟩;simp only[QaY,QaX];have sZ:=Ad hlz (.lst []);have nzl:ll≠lz:=Aq e1 hlz;have nzt:lt≠lz:=Aq t1 hlz;have nzb:b≠lz:=e7.nb hlz;have flz:H lz=none:=e8.free e7.ex hlz;refine⟨_,rq,_,rq,b,_,5,rq,e7.same sZ,by omega,by decide,by decide,λr6 HU r60 r61 hbU sU=>?_⟩;obtain⟨rn,hrn⟩ : ∃rn:Nat,r6=rn:=⟨r6.toNat,by omega⟩;subst hrn;refine⟨b,_,rn,rq,hbU,by omega,by omega,λln ys HV hln ly hys Hd nF hbV sV=>?_⟩;simp only[QaY,QaX];have sUV:Ah b _ HV:=((Ah.of sZ).trans sU).trans sV;have nzn:ln≠lz:=λz=>by rw[z,sU _ _ Ab nzb.symm] at hln;cases hln
 have e1:=sUV _ _ e1 nbl.symm;have e2:=Ln.tups (sUV.tup e7.DG) e2;have e8:=e8.trans sUV;have hzV:HV lz=some (.lst []):=sV _ _ (sU _ _ Ab nzb.symm) nzb.symm;have t1:=sUV _ _ t1 nbt.symm;have hbV:=hbV.mono (show _<=n+500 by omega);have tl3:ja.length<=3:=by omega
 have nln:b≠ln:=hbU.nb hln;refine⟨_,rq,ln,rq,⟨_,SqL.of nF⟩,?_⟩;let J6:YN:=λi U HH=>∃(lt:Addr) (u19 u20:Option V) (ts:List Int) (zs:YG),U=[jp b,some (.int ml),some (.int mp),some (.int r1),some (.int sd),jp nb,some (.int own),jp ft,some (.int (an:Int)),jp ll,u10,some (.int M),jp lt,u13,u14,u15,u16,jp lz,jp ln,u19,u20]/\HH lt=some (.lst (ts.map V.int))/\ts.length<=30/\b≠lt/\lt≠lz/\HH lz=some (.lst zs)/\(∃jn,Paired (Gz HH) zs jn/\Rz (Fy ja) ts jn (ys.take i))/\HH ln=some (.lst (ys.map V.str))/\HH ll=some (.lst vs)/\Paired (LoopAt HH) vs ja/\Bu HH b (n+500+30*i)/\Ah b H HH;refine Lz (xs:=ys.map V.str) J6
  ⟨lt,_,_,ts,[],rq,t1,uH,nbt,nzt,hzV,⟨[],.nil,zk0⟩,nF,e1,e2,hbV,e8⟩ (λi U HH _ h=>?_) (λi x U HH hx h=>?_) (fun U HH h=>?_)
 ·obtain⟨lt,u19,u20,ts,zs,rfl,z1,z2,z3,z4,z5,z6,z7,z8,z9,z10,z11⟩:=h;exact SqL.of z7
 ·clear t1 t2 t3 uH nbt nzt hzV nF e1 e2 hbV e8;obtain⟨lt,u19,u20,ts,zs,rfl,z1,z2,z3,z4,z5,z6,z7,z8,z9,z10,z11⟩:=h;obtain⟨jn,zp,zk⟩:=z6;have Hc:zs.length<=5:=by
   have h1:=Qcc zp;have h2:=zk.nm.length_le;rw[QbH,QbA] at h2;omega
  obtain⟨yi,hyi,rfl⟩ : ∃yi,ys[i]?=some yi/\x=.str yi:=by
   rw[Qbm] at hx;obtain⟨yi,h1,h2⟩:=QaA.mp hx;exact⟨yi,h1,h2.symm⟩
  have ytk:ys.take (i+1)=ys.take i++[yi]:=QcF hyi;have hil:i < 5:=by
   have:=(Qai.mp hx).1;rw[QbH] at this;omega
  simp only[QaY,QaX];refine⟨_,rq,lt,rq,⟨_,SqL.of z1⟩,λlc hlc=>?_⟩;have nbc:b≠lc:=z10.nb hlc;have ntc:lt≠lc:=Aq z1 hlc;have sC:=Ad hlc (.lst []);let J7:YN:=λk U HC=>∃(u:Option V) (ss:List Int),U=[u,jp b]/\HC lc=some (.lst (ss.map V.int))/\ss.Sublist (ts.take k)/\Bu HC b (n+500+30*i+k)/\Ah b HH HC;refine Hq (xs:=ts.map V.int) J7 ⟨none,[],rq,Ab,List.Sublist.refl _,z10.same sC,Ah.of sC⟩ (λk U HC _ h=>?_) (λk x U HC hk h=>?_) (fun U HC h=>?_)
  ·obtain⟨u,ss,rfl,c1,c2,c3,c4⟩:=h;exact SqL.of (c4 _ _ z1 z3.symm)
  ·obtain⟨u,ss,rfl,c1,c2,c3,c4⟩:=h;have hkl:k < 30:=by
    have:=(Qai.mp hk).1;rw[QbH] at this;omega
   refine⟨_,rq,b,_,3,rq,c3,by omega,by decide,by decide,λr HD _ _ hbD sD=>⟨rq,_,rq,?_⟩⟩;have c1':=sD _ _ c1 nbc.symm;rw[Qbm] at hk;obtain⟨a,hka,rfl⟩:=QaA.mp hk;have tka:ts.take (k+1)=ts.take k++[a]:=QcF hka;have ssl:ss.length<=k:=Qco c2.length_le (by rw[QbA];omega);refine Jx (λcc=>?_) (λcc=>?_)
   ·refine⟨_,rq,_,c1',Ar (by rw[QbH];omega),_,ss++[a],rq,by rw[Ab,QbJ];rfl,by rw[tka];exact c2.append (List.Sublist.refl _),hbD.Gw Ah.upd nbc,Ah.QV (c4.trans sD) Ah.upd hlc⟩
   ·exact⟨_,ss,rq,c1',by rw[tka];exact c2.trans (List.sublist_append_left ..),hbD,c4.trans sD⟩
  obtain⟨u,ss,rfl,c1,c2,c3,c4⟩:=h;rw[QbH] at c2 c3;rw[Qby] at c2;have ssl:ss.length<=30:=Qco c2.length_le z2;refine⟨lc,ss,rq,SqL.of c1,by omega,λms ls hperm Uh hls=>?_⟩;simp only[QaY,QaX];have sS:=Ad hls (.lst (ms.map V.int));have c5:Ah b HH (upd HC ls (.lst (ms.map V.int))):=c4.trans (Ah.of sS);have c6:=c3.same sS;have c7:(upd HC ls (.lst (ms.map V.int))) ls=some (.lst (ms.map V.int)):=Ab;generalize upd HC ls (.lst (ms.map V.int))=HS at c5 c6 c7;have lms:ms.length<=30:=by have:=hperm.length_eq;omega
  have z1:=c5 _ _ z1 z3.symm;refine⟨_,rq,lt,rq,⟨_,SqL.of z1⟩,λlw hlw=>?_⟩;have nbw:b≠lw:=c6.nb hlw;have nsw:ls≠lw:=Aq c7 hlw;have nzw:lw≠lz:=(Aq (c5 _ _ z5 nzb.symm) hlw).symm;let J8:YN:=λk U HC=>∃(u:Option V) (ss:List Int),U=[u,jp ls]/\HC lw=some (.lst (ss.map V.int))/\ss=(ts.take k).filter (λx=>!decide (x∈ms))/\Same HS HC;refine Hq (xs:=ts.map V.int) J8 ⟨none,[],rq,Ab,rq,Ad hlw _⟩ (λk U HC _ h=>?_) (λk x U HC hk h=>?_) (fun U HC h=>?_)
  ·obtain⟨u,ss,rfl,d1,d2,d3⟩:=h;exact SqL.of (d3 _ _ z1)
  ·obtain⟨u,ss,rfl,d1,d2,d3⟩:=h;have hkl:k < 30:=by
    have:=(Qai.mp hk).1;rw[QbH] at this;omega
   rw[Qbm] at hk;obtain⟨a,hka,rfl⟩:=QaA.mp hk;have tka:(ts.take (k+1)).filter (λx=>!decide (x∈ms))=(ts.take k).filter (λx=>!decide (x∈ms))++[a].filter (λx=>!decide (x∈ms)):=by rw[QcF hka,Qbg]
   have ssl:ss.length<=30:=by
    rw[d2];have h1:=List.length_filter_le (λx=>!decide (x∈ms)) (ts.take k);rw[QbA] at h1;omega
   refine⟨_,rq,_,rq,ls,_,rq,.inl (SqL.of (d3 _ _ c7)),rq,rH ms,_,rq,Jx (λcc=>?_) (λcc=>?_)⟩
   ·have cc:(!inV (.int a) (ms.map V.int))=true:=cc;rw[VB] at cc;rw[show List.filter (λx=>!decide (x∈ms)) [a]=[a] from Qav (p:=λx=>!decide (x∈ms)) cc] at tka
    refine⟨_,rq,_,d1,Ar (by rw[QbH];omega),_,ss++[a],rq,by rw[Ab,QbJ];rfl,by rw[tka,d2],d3.Bp Ah.upd hlw⟩
   ·have cc:¬(!inV (.int a) (ms.map V.int))=true:=cc;rw[VB] at cc;rw[show List.filter (λx=>!decide (x∈ms)) [a]=[] from Qau (p:=λx=>!decide (x∈ms)) cc] at tka
    exact⟨_,ss,rq,d1,by rw[tka,d2];exact (QbM _).symm,d3⟩
  obtain⟨u,ws,rfl,d1,d2,d3⟩:=h;rw[QbH,Qby] at d2;have wsl:ws.length<=30:=by rw[d2];exact Qco (List.length_filter_le _ _) z2
  simp only[QaY,QaX];have c8:=c5.trans (Ah.of d3);have z5:=c8 _ _ z5 nzb.symm;have z7:=c8 _ _ z7 nln.symm;have z8:=c8 _ _ z8 nbl.symm;have z9:=Ln.tups (c8.tup z10.DG) z9;have zp:Paired (Gz HC) zs jn:=Paired.Ax zp λ_ _ z=>z.tups (c8.tup z10.DG);have z10:=(c6.same d3).mono (show _<=n+500+30*(i+1) by omega);have z11:=z11.trans c8;have c7:=d3 _ _ c7;have zkn:(ms.map V.int).length=ms.length:=QbH _;refine⟨_,rq,ls,_,rq,.inl (SqL.of c7),_,_,rq,rq,_,rq,Jx (λcc=>?_) (λcc=>?_)⟩
  ·refine⟨_,rq,.inl ⟨rq,_,SqL.of z5⟩,_,rq,_,rq,ls,_,rq,.inl ⟨SqL.of c7,λtt htt=>⟨ke,λta hta=>?_⟩⟩⟩;have f1:=Ad htt (.tup (ms.map V.int));have f2:=Ad hta (.tup [.str yi,.ref tt]);have f12:=f1.trans f2;have z5:=f12 _ _ z5;refine⟨lz,_,_,rq,rq,z5,Ar (by omega),?_⟩;have tz0:∀zs',(upd (upd HC tt (.tup (ms.map V.int))) ta (.tup [.str yi,.ref tt])) lz≠some (.tup zs'):=λzs' z=>by rw[z5] at z;cases z
   have tz:=Al.upd (o:=.lst (zs++[.ref ta])) tz0;have NA:1<=ms.length:=by
    have cc:=Qbs cc;rw[zkn] at cc;omega
   have zp':Paired (Gz (upd (upd (upd HC tt (.tup (ms.map V.int))) ta (.tup [.str yi,.ref tt])) lz (.lst (zs++[.ref ta])))) (zs++[.ref ta]) (jn++[⟨yi,ms⟩]):=Qcx ⟨ta,tt,rq,tz _ _ Ab,tz _ _ (f2 _ _ Ab)⟩ (Paired.Ax zp λ_ _ z=>(z.tups (Al.of f12)).tups tz);have zk':Rz (Fy ja) ws (jn++[⟨yi,ms⟩]) (ys.take (i+1)):=by rw[d2,ytk];exact zk.next hperm c2 Uh lms NA
   exact⟨lw,_,_,ws,zs++[.ref ta],rq,by rw[Am nzw];exact f12 _ _ d1,by omega,nbw,nzw,Ab,⟨_,zp',zk'⟩,by rw[Am nzn];exact f12 _ _ z7,by rw[Am nzl];exact f12 _ _ z8,Ln.tups tz (Ln.tups (Al.of f12) z9),(z10.same f12).Gw Ah.upd nzb,Ah.QV (z11.trans (Ah.of f12)) Ah.upd flz⟩
  ·exact⟨lw,_,_,ws,zs,rq,d1,by omega,nbw,nzw,z5,⟨jn,zp,by rw[d2,ytk];exact zk.none⟩,z7,z8,z9,z10,z11⟩
 clear t1 t2 t3 uH nbt nzt hzV nF e1 e2 hbV e8;obtain⟨lt,u19,u20,ts,zs,rfl,z1,z2,z3,z4,z5,z6,z7,z8,z9,z10,z11⟩:=h;rw[QbH] at z10;obtain⟨jn,zp,zk⟩:=z6;rw[QbH,Qby] at zk;have Hc:zs.length<=5:=by
  have h1:=Qcc zp;have h2:=zk.nm.length_le;rw[QbH] at h2;omega
 refine⟨_,rq,_,rq,b,_,3,rq,z10,by omega,by decide,by decide,λr7 HX _ _ hbX sX=>⟨_,_,rq,rq,_,_,rq,_,rq,ll,_,rq,.inl ⟨SqL.of (sX _ _ z8 nbl.symm),λtl htl=>?_⟩⟩⟩;have g1:=Ad htl (.tup vs);refine⟨_,rq,lz,_,rq,.inl ⟨SqL.of (g1 _ _ (sX _ _ z5 nzb.symm)),λtz htz=>⟨kf,λt ht=>?_⟩⟩⟩;have g2:=Ad htz (.tup zs);have g3:=Ad ht (.tup [.int (if M+r7 < 30 then M+r7 else 30),.ref tl,.ref tz])
 have nU:=(g1.trans g2).trans g3;have cnt:1<=(Cg ja).length:=by
  obtain⟨L,hL⟩ : ∃L,ja=L0::L:=qR;rw[hL];have:Cg (L0::L)=adL L0++Cg L:=by unfold Cg;rw[Qbp]
  rw[this,QaV];omega
 have M1:1<=M:=by
  obtain⟨L,hL⟩ : ∃L,ja=L0::L:=qR;obtain⟨m,h1,h2⟩:=jf (l:=Iz L0) (by rw[Zr];omega);have:=Do L0 (by rw[hL];exact QaW ..) m h1;omega
 have pok:gw (if M+r7 < 30 then M+r7 else 30) ja jn:=by
  refine⟨ndA,bdA,⟨cnt,by omega⟩,⟨by split <;> omega,by split <;> omega⟩,λps hps m hm=>?_,λz hz x hx=>?_,(Qbu.mp zk.nd).1,zk.up,?_,λz hz=>?_,zk.nm.nodup Hd⟩
  ·have h1:=Do ps hps m hm;have h2:=vP ps m hm;have h3:(adL ps).length<=(Cg ja).length:=by
    exact jP ja hps
   split <;> omega
  ·exact zk.sub x (QaK _ (QbG.mpr ⟨z,hz,hx⟩))
  ·have h1:=Qcc zp;omega
  ·exact hys z.name (zk.nm.subset (Qcl.mpr ⟨z,hz,rq⟩))
 exact q t tl tz vs zs ja jn _ _ Ab (g3 _ _ (g2 _ _ Ab)) (Ln.tups (Al.of nU) (Ln.tups (sX.tup z10.DG) z9)) e4 (by omega) tl3 (g3 _ _ Ab) (Paired.Ax zp λ_ _ z=>(z.tups (sX.tup z10.DG)).tups (Al.of nU)) pok ((hbX.same nU).mono (by omega)) ((z11.trans sX).trans (Ah.of nU))
abbrev KY:Stmt:=top 38
abbrev Fp:YF:=["loop","at","place"]
theorem Dh:Ay ["loop","at","place","kind","address","spur","told","number","spur_kind","spur_address"] Fp (Aj KY):=by ac_rfl
structure Sd where
 lp:Int
 at_:Int
 n:Int
 kind:Str
 addr:Int
def Kh (H:Hp) (v:V) (d:Sd):Prop:=∃t u,v=.ref t/\H t=some (.tup [.ref u,.str d.kind,.int d.addr])/\H u=some (.tup [.int d.lp,.int d.at_,.int d.n])
theorem Kh.tups {H H':Hp} (s:Al H H') {v:V} {d:Sd} (h:Kh H v d):Kh H' v d:=by
 obtain⟨t,u,e,q1,q2⟩:=h;exact⟨t,u,e,s _ _ q1,s _ _ q2⟩
def DQ (lp at_:Int):Nat->List Dev->List Sd
 | _,[]=>[]
 | n,d::r=>⟨lp,at_,n,d.kind,d.addr⟩::DQ lp at_ (n+1) r
def BR (lp at_:Int) (p:Place):List Sd:=if V.str p.kind=V.str "opener" then [] else ⟨lp,at_,0,p.kind,p.addr⟩::DQ lp at_ 1 p.spur
theorem U0 (lp at_:Int):∀(n:Nat) (ds:List Dev) (i:Nat) (d:Dev),ds[i]?=some d->DQ lp at_ n (ds.take (i+1))=DQ lp at_ n (ds.take i)++[⟨lp,at_,(n+i:Nat),d.kind,d.addr⟩]
 | n,[],i,d,h=>by simp at h
 | n,x::r,0,d,h=>by
  simp at h;subst h;simp[DQ]
 | n,x::r,i+1,d,h=>by
  have h':r[i]?=some d:=by simpa using h
  have ih:=U0 lp at_ (n+1) r i d h';rw[List.take_succ_cons,List.take_succ_cons];show _::DQ lp at_ (n+1) (r.take (i+1))=(_::DQ lp at_ (n+1) (r.take i))++_;rw[ih,show n+1+i=n+(i+1) by omega];rfl
structure Tx (K:YD) (mg:YB) (op oe:Addr):Prop extends Nm mg where
 OPENER:∃u,mg "OPENER"=some u/\RelV (.ref op) u
 opT:∀H,SqT K H op [.str "opener",.int 0,.ref oe]
 opE:∀H,SqT K H oe []
inductive lH (vs:YG) (H:Hp) (Q:VK) (E:XK):Prop
 | mk (lp at_:Int) (v:V) (p:Place) (_:vs=[.int lp,.int at_,v]) (_:Eh H v p) (_:p.spur.length<=3) (_:∀l xs H',H l=none->H' l=some (.lst xs)->Paired (Kh H') xs (BR lp at_ p)->Same H H'->Q (.ref l) H'):lH vs H Q E
theorem Vt (c:Code K mg "place_devices" KY Fp) (T:Tx K mg op oe):⋯ "place_devices" 1 Fp lH:=by
 exists c,Dh
 obtain⟨lp,at_,v,p,rfl,⟨t,u,vs,rfl,ht,hu,hd⟩,h3,q⟩:=h;refine⟨_,(Ae (GZ (pv 2) (CK rfl (Ak (3∣Dh) (Ak (4∣Dh) (Ak (5∣Dh) Bo)))))
 (Ae (Ce (Br Js (pv 3) Bd (Bv _)) (Ag (Az (BZ Ac))) Bt)
 (Ae (6∪Dh∪(BZ (Aa (Bb (Aa (Bb (Aa (pv 0) (Aa (pv 1) (Aa Af Ac)))) (Aa (pv 3) (Aa (pv 4) Ac)))) Ac)))
 (Ae (Cj QbK rfl (Ot rfl T.enumerate (pv 5) Af) (CK rfl (Ak (7∣Dh) (Ak (CK rfl (Ak (8∣Dh) (Ak (9∣Dh) Bo))) Bo)))
 (Ag (Bc (Cy Qas Qao Qap Cv (pv 6) (Aa (Bb (Aa (Bb (Aa (pv 0) (Aa (pv 1) (Aa (pv 7) Ac)))) (Aa (pv 8) (Aa (pv 9) Ac)))) Ac)))))
 (Ag (Az (pv 6))))))),?_⟩
 show let R0:TS:=_;let R1:TS:=Ao (Dq _ _ R0) _;let R2:TS:=Ao _ R1;let R3:TS:=Ao _ R2;Ao _ R3 _ _ _;intro R0 R1 R2 R3;generalize hst:L2.start _ _=σ0;have e0:σ0=[some (.int lp),some (.int at_),jp t,none,none,none,none,none,none,none]:=hst.symm;clear hst;subst e0;refine⟨_,rq,t,_,rq,SqT.of ht,rq,_,_,rq,_,_,rq,_,_,rq,rq,?_⟩;simp only[QaY,QaX];refine⟨_,rq,rq,_,rq,?_⟩;by_cases ck:V.str p.kind=V.str "opener"
 ·rw[QbX ck];have e:BR lp at_ p=[]:=if_pos ck;rw[e] at q;exact BL ⟨(by show 0<=sizeLine;decide),λl hl=>q l [] _ hl Ab .nil (Ad hl _)⟩
 ·rw[QbL ck];have e:BR lp at_ p=⟨lp,at_,0,p.kind,p.addr⟩::DQ lp at_ 1 p.spur:=if_neg ck;rw[e] at q;refine BK ⟨_,rq,_,rq,(by show 3<=sizeLine;decide),λus hus=>⟨_,rq,_,rq,(by show 3<=sizeLine;decide),λts hts=>⟨(by show 1<=sizeLine;decide),λl hl=>?_⟩⟩⟩;have s1:=Ad hus (.tup [.int lp,.int at_,.int 0]);have s2:=Ad hts (.tup [.ref us,.str p.kind,.int p.addr]);have s3:=Ad hl (.lst [.ref ts]);have sm:=s1.trans (s2.trans s3);have hl0:=s1.free (s2.free hl);have el:_=some (HO.lst [.ref ts]):=Ab (H:=upd (upd H us (.tup [.int lp,.int at_,.int 0])) ts (.tup [.ref us,.str p.kind,.int p.addr])) (a:=l) (o:=.lst [.ref ts]);have es:Kh _ (.ref ts) ⟨lp,at_,0,p.kind,p.addr⟩:=⟨ts,us,rq,s3 _ _ Ab,s3 _ _ (s2 _ _ Ab)⟩;generalize hX:upd (upd (upd H us (.tup [.int lp,.int at_,.int 0])) ts (.tup [.ref us,.str p.kind,.int p.addr])) l (.lst [.ref ts])=H1 at sm el es;simp only[QaY,QaX];have hu1:=sm _ _ hu;have sd0:Paired (Kh H1) [.ref ts] (⟨lp,at_,0,p.kind,p.addr⟩::DQ lp at_ 1 (p.spur.take 0)):=.cons es .nil;have Lv:vs.length=p.spur.length:=Qcc hd;refine⟨_,rq,u,rq,⟨vs,SqT.of hu1⟩,Kg (xs:=vs) (lo:=1) (λi U HH=>∃ys u7 u8 u9,U=[some (.int lp),some (.int at_),jp t,some (.str p.kind),some (.int p.addr),jp u,jp l,u7,u8,u9]/\Ah l H1 HH/\HH l=some (.lst ys)/\Paired (Kh HH) ys (⟨lp,at_,0,p.kind,p.addr⟩::DQ lp at_ 1 (p.spur.take i))/\ys.length<=i+1)
   ⟨[.ref ts],_,_,_,rq,Ah.refl l H1,el,sd0,Qcv _⟩ (λi U HH _ h=>?_) (λi x pt U HH hx h hpt=>?_) (fun U HH h=>?_)⟩
  ·obtain⟨ys,_,_,_,_,sb,_⟩:=h;exact SqT.of (sb _ _ hu1 (λz=>by rw[z,el] at hu1;cases hu1))
  ·obtain⟨ys,u7,u8,u9,rfl,sb,hy,pd,ly⟩:=h;obtain⟨d,hdi,td,rfl,htd⟩:=Paired.Ck hd hx;have nl:∀zs,H1 l≠some (.tup zs):=λzs z=>by rw[el] at z;cases z
   have nl2:∀zs,HH l≠some (.tup zs):=λzs z=>by rw[hy] at z;cases z
   have Nc:=(sb.tup nl) _ _ (sm _ _ htd);have t0:=Ad hpt (.tup [.int ((1+i:Nat):Int),.ref td]);refine⟨pt,_,rq,SqT.of Ab,rq,_,_,rq,_,_,rq,td,_,rq,SqT.of (t0 _ _ Nc),rq,_,_,rq,_,_,rq,rq,rq,?_⟩;simp only[QaY,QaX];have hy0:=t0 _ _ hy;refine⟨_,rq,.inl ⟨rq,_,SqL.of hy0⟩,_,rq,_,rq,_,rq,(by show 3<=sizeLine;decide),λus2 M3=>⟨_,rq,_,rq,(by show 3<=sizeLine;decide),λts2 Na=>?_⟩⟩;have t1:=Ad M3 (.tup [.int lp,.int at_,.int ((1+i:Nat):Int)]);have t2:=Ad Na (.tup [.ref us2,.str d.kind,.int d.addr]);have hy2:=t2 _ _ (t1 _ _ hy0);have il:=(Qai.mp hx).1;refine⟨l,_,_,rq,rq,hy2,Ar (by omega),?_⟩;refine⟨ys++[.ref ts2],_,_,_,rq,sb.trans ((Ah.of (t0.trans (t1.trans t2))).trans Ah.upd),Ab,?_,by rw[QaV];simp only[QaE];omega⟩;rw[U0 lp at_ 1 p.spur i d hdi];have nlx:∀zs,(upd (upd (upd HH pt (.tup [.int ((1+i:Nat):Int),.ref td])) us2 (.tup [.int lp,.int at_,.int ((1+i:Nat):Int)])) ts2 (.tup [.ref us2,.str d.kind,.int d.addr])) l≠some (.tup zs):=λzs z=>by rw[hy2] at z;cases z
   have tt:=Al.upd (o:=.lst (ys++[.ref ts2])) nlx;exact Qcx (l₂:=_::DQ lp at_ 1 (p.spur.take i)) ⟨ts2,us2,rq,tt _ _ Ab,tt _ _ (t2 _ _ Ab)⟩ (Paired.Ax pd λ_ _ z=>(z.tups (Al.of (t0.trans (t1.trans t2)))).tups tt)
  ·obtain⟨ys,u7,u8,u9,rfl,sb,hy,pd,ly⟩:=h;rw[Lv,Qby] at pd;exact⟨_,rq,q l ys HH hl0 hy pd λc o e=>sb _ _ (sm _ _ e) (Aq e hl0)⟩
structure Sp3 where
 lp:Int
 at_:Int
 n:Int
def Sd.spot (d:Sd):Sp3:=⟨d.lp,d.at_,d.n⟩
def CN (H:Hp) (v:V) (d:Sp3):Prop:=∃u,v=.ref u/\H u=some (.tup [.int d.lp,.int d.at_,.int d.n])
theorem CN.tups {H H':Hp} (s:Al H H') {v:V} {d:Sp3} (h:CN H v d):CN H' v d:=by
 obtain⟨u,e,q⟩:=h;exact⟨u,e,s _ _ q⟩
theorem N8 {k:Str} (h:Fg k):¬V.str k=V.str "opener":=by
 rcases h with rfl | rfl | rfl | rfl <;> decide +kernel
theorem Vy {k:Str} (h:Fg k):(PyData.str k).canLay0=true:=by
 rcases h with rfl | rfl | rfl | rfl <;> decide +kernel
def Qt (d:Dev):PyData:=.tuple [.str d.kind,.int d.addr]
def Oo (p:Place):PyData:=.tuple [.str p.kind,.int p.addr,.tuple (p.spur.map Qt)]
def opD:PyData:=.tuple [.str "opener",.int 0,.tuple []]
theorem fD:∀{ds:List Dev},(∀d∈ds,Fg d.kind)->PyData.canLayAll0 (ds.map Qt)=true/\PyData.depthAll (ds.map Qt)<=1
 | [],_=>⟨rfl,by show 0<=1;decide⟩
 | d::ds,h=>by
  have ih:=fD (ds:=ds) λx hx=>h x (QaJ _ hx);refine⟨?_,?_⟩
  ·show ((PyData.canLay0 (.str d.kind)&&(true&&true))&&PyData.canLayAll0 (ds.map Qt))=true;rw[Vy (h d QaW),ih.1];rfl
  ·show max (max 0 (max 0 0)+1) (PyData.depthAll (ds.map Qt))<=1;exact Nat.max_le.mpr ⟨by decide,ih.2⟩
theorem CS:PyData.canLay0 (.str "opener")=true:=by trivial
theorem SQ {p:Place} (h:OkP p):SeqAt.shaped (Oo p)=true:=by
 have hk:PyData.canLay0 (.str p.kind)=true:=by
  rcases h.form with⟨e,_⟩| e
  ·rw[e];exact CS
  ·exact Vy e
 have hd:=fD h.kinds;show ((PyData.canLay0 (.str p.kind)&&(true&&(PyData.canLayAll0 (p.spur.map Qt)&&true)))&&decide (max 0 (max 0 (max (PyData.depthAll (p.spur.map Qt)+1) 0))+1<=64))=true;rw[hk,hd.1];have:max 0 (max 0 (max (PyData.depthAll (p.spur.map Qt)+1) 0))+1<=64:=by omega
 rw[QbX this];rfl
theorem Zo {p:Place} (h:OkP p):PyData.eqv (Oo p) opD=decide (V.str p.kind=V.str "opener"):=by
 rcases h.form with⟨e1,e2,e3⟩| e
 ·rw[show Oo p=opD by unfold Oo opD;rw[e1,e2,e3];rfl,e1]
  decide +kernel
 ·rw[QbL (N8 e)];have:(p.kind == ("opener":Str))=false:=QaO.mpr λz=>N8 e (by rw[z]);show (((p.kind == ("opener":Str))&&_))=false;rw[this];rfl
theorem K8.rep {K:YD} {H:Hp} {v:V} {d:Dev} (h:K8 H v d):Ma K H v (Qt d):=by
 obtain⟨t,rfl,e⟩:=h;exact .tup (SqT.of e) (.cons (.str _) (.cons (.int _) .nil))
theorem fC {K:YD} {H:Hp}:∀{vs:YG} {ds:List Dev},Paired (K8 H) vs ds->NT K H vs (ds.map Qt)
 | _,_,.nil=>.nil
 | _,_,.cons h t=>.cons h.rep (fC t)
theorem Eh.rep {K:YD} {H:Hp} {v:V} {p:Place} (h:Eh H v p):Ma K H v (Oo p):=by
 obtain⟨t,u,vs,rfl,e1,e2,e3⟩:=h;exact .tup (SqT.of e1) (.cons (.str _) (.cons (.int _) (.cons (.tup (SqT.of e2) (fC e3)) .nil)))
theorem Nv (lp at_:Int):∀(n:Nat) (ds:List Dev),(DQ lp at_ n ds).length=ds.length
 | _,[]=>rfl
 | n,d::r=>by show (DQ lp at_ (n+1) r).length+1=r.length+1;rw[Nv]
abbrev SJ:Stmt:=top 39
abbrev Fb:YF:=["plan"]
theorem Jq:Ay ["plan","told","loop","places","at","place"] Fb (Aj SJ):=by ac_rfl
abbrev Mh:Stmt:=top 40
abbrev Ig:YF:=Fb
abbrev xS:YF:=["plan","told","loop","places","at","kind","address","spur"]
theorem Ez:Ay xS Ig (Aj Mh):=by ac_rfl
abbrev Pg:Stmt:=top 41
abbrev Kv:YF:=Fb
abbrev x6:YF:=["plan","told","loop","places"]
theorem Ny:Ay x6 Kv (Aj Pg):=by ac_rfl
def up {α : Type} (f:Nat->List α) (i:Nat):List α:=(List.range i).flatMap f
theorem DN {α : Type} (f:Nat->List α) (i:Nat):up f (i+1)=up f i++f i:=by
 unfold up;rw[List.range_succ,QaP];simp
theorem NZ {α : Type} (f:Nat->List α):up f 0=[]:=rfl
theorem DP {α : Type} {f:Nat->List α} {c:Nat} (h:∀i,(f i).length<=c):∀i,(up f i).length<=c*i
 | 0=>Qcv _
 | i+1=>by
  have:=DP h i;have:=h i;rw[DN,QaV,Nat.mul_succ];omega
def ifs {α β : Type} (o:Option α) (g:α->List β):List β:=match o with | none=>[] | some x=>g x
theorem CQ {α β : Type} {o:Option α} {g:α->List β} {x:α} (h:o=some x):ifs o g=g x:=by rw[h];rfl
structure Gt where
 lp:Int
 at_:Int
def Ei (H:Hp) (v:V) (d:Gt):Prop:=∃u,v=.ref u/\H u=some (.tup [.int d.lp,.int d.at_])
theorem Ei.tups {H H':Hp} (s:Al H H') {v:V} {d:Gt} (h:Ei H v d):Ei H' v d:=by
 obtain⟨u,e,q⟩:=h;exact⟨u,e,s _ _ q⟩
def pd1 (lp:Int) (ps:List Place) (i:Nat):List Sd:=ifs ps[i]? λp=>BR lp ((1+i:Nat):Int) p
def pdL (ja:YU) (k:Nat):List Sd:=ifs ja[k]? λps=>up (pd1 k ps) ps.length
abbrev YV:=List Sp3
def st1 (lp:Int) (ps:List Place) (i:Nat):YV:=ifs ps[i]? λp=>(List.range (p.spur.length+1)).map λn:Nat=>⟨lp,((1+i:Nat):Int),(n:Int)⟩
def stL (ja:YU) (k:Nat):YV:=ifs ja[k]? λps=>⟨k,0,0⟩::up (st1 k ps) ps.length
def gt1 (lp:Int) (ps:List Place) (i:Nat):List Gt:=ifs ps[i]? λp=>if V.str p.kind=V.str "opener" then [⟨lp,((1+i:Nat):Int)⟩] else []
def gtL (ja:YU) (k:Nat):List Gt:=ifs ja[k]? λps=>(⟨k,0⟩::up (gt1 k ps) ps.length)++[⟨k,(ps.length:Int)+1⟩]
structure Dj (ja:YU):Prop where
 ok:∀ps∈ja,OkL ps
 hi:ja.length<=3
theorem U7 {lp a:Int} {p:Place} (h:OkP p):(BR lp a p).length<=4:=by
 unfold BR;have:=h.spur;split
 ·exact Qcw _
 ·rw[Qbz,Nv];omega
theorem jz {lp:Int} {ps:List Place} (h:∀p∈ps,OkP p) (i:Nat):(pd1 lp ps i).length<=4:=by
 unfold pd1;cases e:ps[i]? with
 | none=>exact Qcw _
 | some p=>exact U7 (h p (QaI e))
theorem XF {lp:Int} {ps:List Place} (h:∀p∈ps,OkP p) (i:Nat):(st1 lp ps i).length<=4:=by
 unfold st1;cases e:ps[i]? with
 | none=>exact Qcw _
 | some p=>
  have:=(h p (QaI e)).spur;show ((List.range _).map _).length<=4;rw[QbH,Qbt];omega
theorem QH {lp:Int} {ps:List Place} (i:Nat):(gt1 lp ps i).length<=1:=by
 unfold gt1;cases e:ps[i]? with
 | none=>exact Qcw _
 | some p=>
  show (if _ then _ else _:List Gt).length<=1
  split
  ·exact Qcv _
  ·exact Qcw _
theorem Yp {ja:YU} (h:Dj ja) (k:Nat):(pdL ja k).length<=48:=by
 unfold pdL;cases e:ja[k]? with
 | none=>exact Qcw _
 | some ps=>
  have o:=h.ok ps (QaI e);have:=DP (jz (lp:=k) o.ok) ps.length;have:=o.hi;show (up _ _).length<=48;omega
theorem Xz {ja:YU} (h:Dj ja) (k:Nat):(stL ja k).length<=49:=by
 unfold stL;cases e:ja[k]? with
 | none=>exact Qcw _
 | some ps=>
  have o:=h.ok ps (QaI e);have:=DP (XF (lp:=k) o.ok) ps.length;have:=o.hi;show (up _ _).length+1<=49;omega
theorem jL {ja:YU} (h:Dj ja) (k:Nat):(gtL ja k).length<=14:=by
 unfold gtL;cases e:ja[k]? with
 | none=>exact Qcw _
 | some ps=>
  have o:=h.ok ps (QaI e);have:=DP (QH (lp:=k) (ps:=ps)) ps.length;have:=o.hi;show ((_::up _ _)++[_]).length<=14;rw[QaV,Qbz];show _+1+1<=14;omega
def QL (H:Hp) (pl:Addr) (ja:YU):Prop:=∃v0 v2 Ls vs,H pl=some (.tup [v0,.ref Ls,v2])/\H Ls=some (.tup vs)/\Paired (LoopAt H) vs ja
inductive Nx (vs:YG) (H:Hp) (Q:VK) (E:XK):Prop
 | mk (pl:Addr) (ja:YU) (_:vs=[.ref pl]) (_:QL H pl ja) (_:Dj ja) (_:∀l xs H',H l=none->H' l=some (.lst xs)->Paired (Kh H') xs (up (pdL ja) ja.length)->Same H H'->Q (.ref l) H'):Nx vs H Q E
inductive aF (vs:YG) (H:Hp) (Q:VK) (E:XK):Prop
 | mk (pl:Addr) (ja:YU) (_:vs=[.ref pl]) (_:QL H pl ja) (_:Dj ja) (_:∀l xs H',H l=none->H' l=some (.lst xs)->Paired (CN H') xs (up (stL ja) ja.length)->Same H H'->Q (.ref l) H'):aF vs H Q E
inductive aG (vs:YG) (H:Hp) (Q:VK) (E:XK):Prop
 | mk (pl:Addr) (ja:YU) (_:vs=[.ref pl]) (_:QL H pl ja) (_:Dj ja) (_:∀l xs H',H l=none->H' l=some (.lst xs)->Paired (Ei H') xs (up (gtL ja) ja.length)->Same H H'->Q (.ref l) H'):aG vs H Q E
theorem mJ (c:Code K mg "devices" SJ Fb) (T:Tx K mg op oe) (K5:⋯ "place_devices" 1 Fp lH):⋯ "devices" 2 Fb Nx:=by
 exists c,Jq
 obtain⟨pl,ja,rfl,⟨v0,v2,Ls,vs,hpl,hLs,hlo⟩,ok,q⟩:=h;refine⟨_,(Ae (1∪Jq∪(BZ Ac))
 (Ae (Cj QbK rfl (Vq rfl T.enumerate (Bj Bw (pv 0) Af (λ_ _=>rfl))) (CK rfl (Ak (2∣Jq) (Ak (3∣Jq) Bo)))
 (Ag (Cj QbK rfl (Ot rfl T.enumerate (pv 3) Af) (CK rfl (Ak (4∣Jq) (Ak (5∣Jq) Bo)))
 (Ag (Bc (Cy Qas Qaq Qar Fe (pv 1) (Aa (CW K5 hr (Aa (pv 2) (Aa (pv 4) (Aa (pv 5) Ac)))) Ac)))))))
 (Ag (Az (pv 1))))),?_⟩
 show let R0:TS:=_;let R1:TS:=Dq _ _ R0;let R2:TS:=Ao (Dq _ _ R1) _;Ao _ R2 _ _ _;intro R0 R1 R2;generalize hst:L2.start _ _=σ0;have e0:σ0=[jp pl,none,none,none,none,none]:=hst.symm;clear hst;subst e0;refine⟨js,λl fl=>?_⟩;simp only[QaY,QaX];have s1:=Ad fl (.lst []);have lvs:=Qcc hlo;refine⟨_,rq,pl,_,_,_,rq,rq,SqT.of (s1 _ _ hpl),rq,Ls,rq,⟨vs,SqT.of (s1 _ _ hLs)⟩,?_⟩;let J0:YN:=λi U HH=>∃(ys:YG) (u2 u3 u4 u5:Option V),U=[jp pl,jp l,u2,u3,u4,u5]/\Same H HH/\HH l=some (.lst ys)/\Paired (Kh HH) ys (up (pdL ja) i);refine Kg (xs:=vs) (lo:=0) J0 ⟨[],_,_,_,_,rq,s1,Ab,.nil⟩ (λi U HH _ h=>?_) (λi x pt U HH hx h hpt=>?_) (fun U HH h=>?_)
 ·obtain⟨ys,_,_,_,_,_,sm,_⟩:=h;exact SqT.of (sm _ _ hLs)
 ·obtain⟨ys,u2,u3,u4,u5,rfl,sm,hy,py⟩:=h;obtain⟨ps,hps,hL⟩:=Paired.Ck hlo hx;obtain⟨t,ws,rfl,ht,hws⟩:=id hL;have okl:=ok.ok ps (QaI hps);have ek:pdL ja i=up (pd1 i ps) ps.length:=CQ hps;have lws:=Qcc hws;have t0:=Ad hpt (.tup [.int ((0+i:Nat):Int),.ref t]);refine⟨pt,_,rq,SqT.of Ab,rq,_,_,rq,_,_,rq,rq,?_⟩;have sm0:=sm.trans t0;have hy0:=t0 _ _ hy;have py0:=Paired.Ax py λ_ _ (z:Kh HH _ _)=>z.tups (Al.of t0);generalize upd HH pt (.tup [.int ((0+i:Nat):Int),.ref t])=HA at sm0 hy0 py0;simp only[QaY,QaX,Nat.zero_add];have hil:=(Qai.mp hps).1;have lu:=DP (Yp ok) i;have hhi:=ok.hi;refine⟨_,rq,t,rq,⟨ws,SqT.of (sm0 _ _ ht)⟩,?_⟩;let J1:YN:=λj U HJ=>∃(ys:YG) (u4 u5:Option V),U=[jp pl,jp l,some (.int (i:Int)),jp t,u4,u5]/\Same H HJ/\HJ l=some (.lst ys)/\Paired (Kh HJ) ys (up (pdL ja) i++up (pd1 i ps) j);refine Kg (xs:=ws) (lo:=1) J1 ⟨ys,_,_,rq,sm0,hy0,by rw[NZ,QbM];exact py0⟩ (λj U HJ _ h=>?_) (λj x pt U HJ hx h hpt=>?_) (fun U HJ h=>?_)
  ·obtain⟨ys,_,_,_,sj,_⟩:=h;exact SqT.of (sj _ _ ht)
  ·obtain⟨ys,u4,u5,rfl,sj,hyj,pj⟩:=h;obtain⟨p,hp,hP⟩:=Paired.Ck hws hx;have okp:=okl.ok p (QaI hp);have ej:pd1 i ps j=BR i ((1+j:Nat):Int) p:=CQ hp;have t1:=Ad hpt (.tup [.int ((1+j:Nat):Int),x]);refine⟨pt,_,rq,SqT.of Ab,rq,_,_,rq,_,_,rq,rq,?_⟩;simp only[QaY,QaX];have hjl:=(Qai.mp hp).1;have lj:=DP (jz (lp:=i) okl.ok) j;have lys:=Qcc pj;rw[QaV] at lys;have h12:=okl.hi;refine⟨_,rq,.inl ⟨rq,_,SqL.of (t1 _ _ hyj)⟩,_,rq,_,rq,_,rq,(i:Int),((1+j:Nat):Int),x,p,rq,hP.tups (Al.of (sj.trans t1)),okp.spur,λld xs' HB fld hld pdd sB=>?_⟩;have t2:=t1.trans sB;have hyB:=t2 _ _ hyj;have lx:=Qcc pdd;have lpl:=U7 (lp:=i) (a:=((1+j:Nat):Int)) okp;refine⟨l,ld,_,_,rq,rq,hyB,hld,Av (by omega),?_⟩;have n0:∀zs,HB l≠some (.tup zs):=λzs z=>by rw[hyB] at z;cases z
   have tt:=Al.upd (o:=.lst (ys++xs')) n0;refine⟨ys++xs',_,_,rq,(sj.trans t2).Bp Ah.upd fl,Ab,?_⟩;rw[DN,ej,<-Qbn];exact Paired.app (Paired.Ax pj λ_ _ z=>(z.tups (Al.of t2)).tups tt) (Paired.Ax pdd λ_ _ z=>z.tups tt)
  ·obtain⟨ys,u4,u5,rfl,sj,hyj,pj⟩:=h;exact⟨ys,_,_,_,_,rq,sj,hyj,by rw[DN,ek,<-lws];exact pj⟩
 ·obtain⟨ys,u2,u3,u4,u5,rfl,sm,hy,py⟩:=h;rw[lvs] at py;exact⟨_,rq,q l ys HH fl hy py sm⟩
theorem cR (c:Code K mg "stretches" Mh Ig) (T:Tx K mg op oe):⋯ "stretches" 1 Ig aF:=by
 exists c,Ez
 obtain⟨pl,ja,rfl,⟨v0,v2,Ls,vs,hpl,hLs,hlo⟩,ok,q⟩:=h;refine⟨_,(Ae (1∪Ez∪(BZ Ac))
 (Ae (Cj QbK rfl (Vq rfl T.enumerate (Bj Bw (pv 0) Af (λ_ _=>rfl))) (CK rfl (Ak (Ai (i:=2) Ez.nd rfl (Or.inr rfl)) (Ak (3∣Ez) Bo)))
 (Ae (Bc (Cy Qas Qao Qap Cv (pv 1) (Aa (Bb (Aa (pv 2) (Aa Af (Aa Af Ac)))) Ac)))
 (Ag (Cj QbK rfl (Ot rfl T.enumerate (pv 3) Af) (CK rfl (Ak (Ai (i:=4) Ez.nd rfl (Or.inr rfl)) (Ak (CK rfl (Ak (5∣Ez) (Ak (6∣Ez) (Ak (7∣Ez) Bo)))) Bo)))
 (Ag (Bc (Cy Qas Qaq Qar Fe (pv 1) (Aa (Cw (N':=["number","loop","at"]) rfl ([none,some 2,some 4]|||(Aj Mh)|||xS) (Dd rfl T.range (Aa (Bf CG (Aw Bh rfl T.len CJ (Aa (pv 7) Ac)) Af) Ac)) (~~~(Ai (i:=0) (show List.Nodup (["number","loop","at"]:YF) by trivial) rfl (Or.inl rfl))) (λ_ _ _ _=>CT) (~~~(Bb (Aa (pv 1) (Aa (pv 2) (Aa (pv 0) Ac)))))) Ac))))))))
 (Ag (Az (pv 1))))),?_⟩
 show let R0:TS:=_;let R1:TS:=Dq _ _ R0;let R2:TS:=Ao _ R1;let R3:TS:=Ao (Dq _ _ R2) _;Ao _ R3 _ _ _;intro R0 R1 R2 R3;generalize hst:L2.start _ _=σ0;have e0:σ0=[jp pl,none,none,none,none,none,none,none]:=hst.symm;clear hst;subst e0;refine⟨js,λl fl=>?_⟩;simp only[QaY,QaX];have s1:=Ad fl (.lst []);have lvs:=Qcc hlo;refine⟨_,rq,pl,_,_,_,rq,rq,SqT.of (s1 _ _ hpl),rq,Ls,rq,⟨vs,SqT.of (s1 _ _ hLs)⟩,?_⟩;let J2:YN:=λi U HH=>∃(ys:YG) (u2 u3 u4 u5 u6 u7:Option V),U=[jp pl,jp l,u2,u3,u4,u5,u6,u7]/\Same H HH/\HH l=some (.lst ys)/\Paired (CN HH) ys (up (stL ja) i);refine Kg (xs:=vs) (lo:=0) J2 ⟨[],_,_,_,_,_,_,rq,s1,Ab,.nil⟩ (λi U HH _ h=>?_) (λi x pt U HH hx h hpt=>?_) (fun U HH h=>?_)
 ·obtain⟨ys,_,_,_,_,_,_,_,sm,_⟩:=h;exact SqT.of (sm _ _ hLs)
 ·obtain⟨ys,u2,u3,u4,u5,u6,u7,rfl,sm,hy,py⟩:=h;obtain⟨ps,hps,hL⟩:=Paired.Ck hlo hx;obtain⟨t,ws,rfl,ht,hws⟩:=id hL;have okl:=ok.ok ps (QaI hps);have ek:stL ja i=⟨i,0,0⟩::up (st1 i ps) ps.length:=CQ hps;have lws:=Qcc hws;have t0:=Ad hpt (.tup [.int ((0+i:Nat):Int),.ref t]);refine⟨pt,_,rq,SqT.of Ab,rq,_,_,rq,_,_,rq,rq,?_⟩;have sm0:=sm.trans t0;have hy0:=t0 _ _ hy;have py0:=Paired.Ax py λ_ _ (z:CN HH _ _)=>z.tups (Al.of t0);generalize upd HH pt (.tup [.int ((0+i:Nat):Int),.ref t])=HA at sm0 hy0 py0;simp only[QaY,QaX,Nat.zero_add];have hil:=(Qai.mp hps).1;have lu:=DP (Xz ok) i;have hhi:=ok.hi;have ly0:=Qcc py0;refine⟨_,rq,.inl ⟨rq,_,SqL.of hy0⟩,_,rq,kf,λtz htz=>?_⟩;have t3:=Ad htz (.tup [.int (i:Int),.int 0,.int 0]);refine⟨l,_,_,rq,rq,t3 _ _ hy0,Ar (by omega),?_⟩;have n0:∀zs,(upd HA tz (.tup [.int (i:Int),.int 0,.int 0])) l≠some (.tup zs):=λzs z=>by rw[t3 _ _ hy0] at z;cases z
  have tt:=Al.upd (o:=.lst (ys++[.ref tz])) n0;have sm1:Same H (upd (upd HA tz (.tup [.int (i:Int),.int 0,.int 0])) l (.lst (ys++[.ref tz]))):=(sm0.trans t3).Bp Ah.upd fl;have py1:Paired (CN _) (ys++[.ref tz]) (up (stL ja) i++[⟨(i:Int),0,0⟩]):=Qcx ⟨tz,rq,tt _ _ Ab⟩ (Paired.Ax py0 λ_ _ z=>(z.tups (Al.of t3)).tups tt);have hy1:(upd (upd HA tz (.tup [.int (i:Int),.int 0,.int 0])) l (.lst (ys++[.ref tz]))) l=some (.lst (ys++[.ref tz])):=Ab;generalize upd (upd HA tz (.tup [.int (i:Int),.int 0,.int 0])) l (.lst (ys++[.ref tz]))=HB at sm1 py1 hy1;generalize ys++[.ref tz]=ys1 at py1 hy1;refine⟨_,rq,t,rq,⟨ws,SqT.of (sm1 _ _ ht)⟩,?_⟩;let J3:YN:=λj U HJ=>∃(ys:YG) (u4 u5 u6 u7:Option V),U=[jp pl,jp l,some (.int (i:Int)),jp t,u4,u5,u6,u7]/\Same H HJ/\HJ l=some (.lst ys)/\Paired (CN HJ) ys (up (stL ja) i++⟨(i:Int),0,0⟩::up (st1 i ps) j);refine Kg (xs:=ws) (lo:=1) J3 ⟨ys1,_,_,_,_,rq,sm1,hy1,by rw[NZ];exact py1⟩ (λj U HJ _ h=>?_) (λj x pt U HJ hx h hpt=>?_) (fun U HJ h=>?_)
  ·obtain⟨ys,_,_,_,_,_,sj,_⟩:=h;exact SqT.of (sj _ _ ht)
  ·obtain⟨ys,u4,u5,u6,u7,rfl,sj,hyj,pj⟩:=h;obtain⟨p,hp,hP⟩:=Paired.Ck hws hx;have okp:=okl.ok p (QaI hp);have ej:st1 i ps j=(List.range (p.spur.length+1)).map λn:Nat=>⟨(i:Int),((1+j:Nat):Int),(n:Int)⟩:=CQ hp;have t1:=Ad hpt (.tup [.int ((1+j:Nat):Int),x]);obtain⟨tp,ua,wp',rfl,hp1,hp2,hp3⟩:=hP.tups (Al.of (sj.trans t1));refine⟨pt,_,rq,SqT.of Ab,rq,_,_,rq,_,_,rq,tp,_,rq,SqT.of hp1,rq,_,_,rq,_,_,rq,_,_,rq,rq,rq,?_⟩;simp only[QaY,QaX];have hjl:=(Qai.mp hp).1;have lj:=DP (XF (lp:=i) okl.ok) j;have lys:=Qcc pj;rw[QaV,Qbz] at lys;have h12:=okl.hi;have lwp:=Qcc hp3;have hsp:=okp.spur;refine⟨_,rq,.inl ⟨rq,_,SqL.of (t1 _ _ hyj)⟩,_,rq,ua,_,rq,.inr (SqT.of hp2),_,_,rq,rq,_,rq,by omega,by omega,λl2 hl2=>?_⟩;rw[show ((wp'.length:Int)+1).toNat=p.spur.length+1 by omega];have sjt:=sj.trans t1;have hyt:=t1 _ _ hyj;have pjt:=Paired.Ax pj λ_ _ (z:CN HJ _ _)=>z.tups (Al.of t1);generalize upd HJ pt (.tup [.int ((1+j:Nat):Int),.ref tp])=HT at sjt hyt pjt hl2;let J4:YN:=λk U HC=>∃(u:Option V) (zs:YG),U=[u,some (.int (i:Int)),some (.int ((1+j:Nat):Int))]/\HC l2=some (.lst zs)/\Same HT HC/\Paired (CN HC) zs ((List.range k).map λn:Nat=>⟨(i:Int),((1+j:Nat):Int),(n:Int)⟩);refine K7 J4 ⟨none,[],rq,Ab,Ad hl2 _,.nil⟩ (λk U HC hk h=>?_) (fun U HC h=>?_)
   ·obtain⟨u,zs,rfl,c1,c2,c3⟩:=h;refine⟨_,rq,_,rq,_,rq,kf,λtq htq=>?_⟩;have s3:=Ad htq (.tup [.int (i:Int),.int ((1+j:Nat):Int),.int (0+(k:Int))]);have c1':=s3 _ _ c1;have lz:=Qcc c3;rw[QbH,Qbt] at lz;have n1:∀zs',(upd HC tq (.tup [.int (i:Int),.int ((1+j:Nat):Int),.int (0+(k:Int))])) l2≠some (.tup zs'):=λzs' z=>by rw[c1'] at z;cases z
    have t4:=Al.upd (o:=.lst (zs++[.ref tq])) n1;refine⟨_,c1',Ar (by omega),_,zs++[.ref tq],rq,Ab,(c2.trans s3).Bp Ah.upd hl2,?_⟩;rw[List.range_succ,QbJ];refine Qcx ⟨tq,rq,?_⟩ (Paired.Ax c3 λ_ _ z=>(z.tups (Al.of s3)).tups t4);refine t4 _ _ ?_;rw[Ab,Qcr]
   obtain⟨u,zs,rfl,c1,c2,c3⟩:=h;have lz:=Qcc c3;rw[QbH,Qbt] at lz;have hyC:=c2 _ _ hyt;refine⟨l,l2,_,_,rq,rq,hyC,c1,Av (by omega),?_⟩;have n2:∀zs',HC l≠some (.tup zs'):=λzs' z=>by rw[hyC] at z;cases z
   have t5:=Al.upd (o:=.lst (ys++zs)) n2;refine⟨ys++zs,_,_,_,_,rq,(sjt.trans c2).Bp Ah.upd fl,Ab,?_⟩;rw[DN,ej,show ∀(a:YV) (x:Sp3) (b c:YV),a++x::(b++c)=(a++x::b)++c from λa x b c=>by simp]
   exact Paired.app (Paired.Ax pjt λ_ _ z=>(z.tups (Al.of c2)).tups t5) (Paired.Ax c3 λ_ _ z=>z.tups t5)
  ·obtain⟨ys,u4,u5,u6,u7,rfl,sj,hyj,pj⟩:=h;exact⟨ys,_,_,_,_,_,_,rq,sj,hyj,by rw[DN,ek,<-lws];exact pj⟩
 ·obtain⟨ys,u2,u3,u4,u5,u6,u7,rfl,sm,hy,py⟩:=h;rw[lvs] at py;exact⟨_,rq,q l ys HH fl hy py sm⟩
abbrev xy:YF:=["at","place","loop"]
theorem mz (c:Code K mg "openers" Pg Kv) (T:Tx K mg op oe):⋯ "openers" 1 Kv aG:=by
 exists c,Ny
 obtain⟨pl,ja,rfl,⟨v0,v2,Ls,vs,hpl,hLs,hlo⟩,ok,q⟩:=h;refine⟨_,(Ae (1∪Ny∪(BZ Ac))
 (Ae (Cj QbK rfl (Vq rfl T.enumerate (Bj Bw (pv 0) Af (λ_ _=>rfl))) (CK rfl (Ak (Ai (i:=2) Ny.nd rfl (Or.inr rfl)) (Ak (3∣Ny) Bo)))
 (Ae (Bc (Cy Qas Qao Qap Cv (pv 1) (Aa (Bb (Aa (pv 2) (Aa Af Ac))) Ac)))
 (Ae (Bc (Cy Qas Qaq Qar Fe (pv 1) (Aa (Cw (N':=xy) rfl ([none,none,some 2]|||(Aj Pg)|||x6) (Ot rfl T.enumerate (pv 3) Af) (~~~(FW (K:=K) (n:=2) rfl rfl (Ak (0∩xy) (Ak (1∩xy) Bo)))) (~~~(G3 (Br (qe (K:=K) rfl hr.units) (pv 1) (SX rfl T.OPENER) (Bv _)))) (~~~(Bb (Aa (pv 2) (Aa (pv 0) Ac))))) Ac)))
 (Ag (Bc (Cy Qas Qao Qap Cv (pv 1) (Aa (Bb (Aa (pv 2) (Aa (Bf CG (Aw Bh rfl T.len CJ (Aa (pv 3) Ac)) Af) Ac))) Ac)))))))
 (Ag (Az (pv 1))))),?_⟩
 show let R0:TS:=_;let R1:TS:=Ao _ R0;let R2:TS:=Ao _ R1;let R3:TS:=Ao (Dq _ _ R2) _;Ao _ R3 _ _ _;intro R0 R1 R2 R3;generalize hst:L2.start _ _=σ0;have e0:σ0=[jp pl,none,none,none]:=hst.symm;clear hst;subst e0;refine⟨js,λl fl=>?_⟩;simp only[QaY,QaX];have s1:=Ad fl (.lst []);have lvs:=Qcc hlo;refine⟨_,rq,pl,_,_,_,rq,rq,SqT.of (s1 _ _ hpl),rq,Ls,rq,⟨vs,SqT.of (s1 _ _ hLs)⟩,?_⟩;let J5:YN:=λi U HH=>∃(ys:YG) (u2 u3:Option V),U=[jp pl,jp l,u2,u3]/\Same H HH/\HH l=some (.lst ys)/\Paired (Ei HH) ys (up (gtL ja) i);refine Kg (xs:=vs) (lo:=0) J5 ⟨[],_,_,rq,s1,Ab,.nil⟩ (λi U HH _ h=>?_) (λi x pt U HH hx h hpt=>?_) (fun U HH h=>?_)
 ·obtain⟨ys,_,_,_,sm,_⟩:=h;exact SqT.of (sm _ _ hLs)
 ·obtain⟨ys,u2,u3,rfl,sm,hy,py⟩:=h;obtain⟨ps,hps,hL⟩:=Paired.Ck hlo hx;obtain⟨t,ws,rfl,ht,hws⟩:=id hL;have okl:=ok.ok ps (QaI hps);have ek:gtL ja i=(⟨i,0⟩::up (gt1 i ps) ps.length)++[⟨(i:Int),(ps.length:Int)+1⟩]:=CQ hps;have lws:=Qcc hws;have t0:=Ad hpt (.tup [.int ((0+i:Nat):Int),.ref t]);refine⟨pt,_,rq,SqT.of Ab,rq,_,_,rq,_,_,rq,rq,?_⟩;have sm0:=sm.trans t0;have hy0:=t0 _ _ hy;have py0:=Paired.Ax py λ_ _ (z:Ei HH _ _)=>z.tups (Al.of t0);generalize upd HH pt (.tup [.int ((0+i:Nat):Int),.ref t])=HA at sm0 hy0 py0;simp only[QaY,QaX,Nat.zero_add];have hil:=(Qai.mp hps).1;have lu:=DP (jL ok) i;have hhi:=ok.hi;have ly0:=Qcc py0;refine⟨_,rq,.inl ⟨rq,_,SqL.of hy0⟩,_,rq,ke,λtz htz=>?_⟩;have t3:=Ad htz (.tup [.int (i:Int),.int 0]);refine⟨l,_,_,rq,rq,t3 _ _ hy0,Ar (by omega),?_⟩;have n0:∀zs,(upd HA tz (.tup [.int (i:Int),.int 0])) l≠some (.tup zs):=λzs z=>by rw[t3 _ _ hy0] at z;cases z
  have tt:=Al.upd (o:=.lst (ys++[.ref tz])) n0;have sm1:Same H (upd (upd HA tz (.tup [.int (i:Int),.int 0])) l (.lst (ys++[.ref tz]))):=(sm0.trans t3).Bp Ah.upd fl;have py1:Paired (Ei _) (ys++[.ref tz]) (up (gtL ja) i++[⟨(i:Int),0⟩]):=Qcx ⟨tz,rq,tt _ _ Ab⟩ (Paired.Ax py0 λ_ _ z=>(z.tups (Al.of t3)).tups tt);have hy1:(upd (upd HA tz (.tup [.int (i:Int),.int 0])) l (.lst (ys++[.ref tz]))) l=some (.lst (ys++[.ref tz])):=Ab;generalize upd (upd HA tz (.tup [.int (i:Int),.int 0])) l (.lst (ys++[.ref tz]))=HB at sm1 py1 hy1;generalize ys++[.ref tz]=ys1 at py1 hy1;have ly1:=Qcc py1;rw[QaV] at ly1;have ly1:ys1.length<=14*i+1:=by rw[ly1];show _+1<=_;omega
  refine⟨_,rq,.inl ⟨rq,_,SqL.of hy1⟩,_,rq,t,rq,⟨ws,SqT.of (sm1 _ _ ht)⟩,λl2 hl2=>?_⟩;let J6:YN:=λk U HC=>∃(u v:Option V) (zs:YG),U=[u,v,some (.int (i:Int))]/\HC l2=some (.lst zs)/\Same HB HC/\Paired (Ei HC) zs (up (gt1 i ps) k);refine sI (xs:=ws) (lo:=1) J6 ⟨none,none,[],rq,Ab,Ad hl2 _,.nil⟩ (λk U HC _ h=>?_) (λk x pt U HC hx h hpt=>?_) (fun U HC h=>?_)
  ·obtain⟨_,_,zs,_,_,sc,_⟩:=h;exact SqT.of (sc _ _ (sm1 _ _ ht))
  ·obtain⟨u,v,zs,rfl,c1,c2,c3⟩:=h;obtain⟨p,hp,hP⟩:=Paired.Ck hws hx;have okp:=okl.ok p (QaI hp);have ej:gt1 i ps k=if V.str p.kind=V.str "opener" then [⟨(i:Int),((1+k:Nat):Int)⟩] else []:=CQ hp
   have hkl:=(Qai.mp hp).1;have h12:=okl.hi;have lk:=DP (QH (lp:=i) (ps:=ps)) k;have lz:=Qcc c3;have t1:=Ad hpt (.tup [.int ((1+k:Nat):Int),x]);have hpa:=hP.tups (Al.of ((sm1.trans c2).trans t1));refine⟨pt,_,rq,SqT.of Ab,rq,_,_,rq,_,_,rq,rq,?_⟩;refine⟨_,rq,Oo p,opD,hpa.rep,.tup (T.opT _) (.cons (.str _) (.cons (.int _) (.cons (.tup (T.opE _) .nil) .nil))),SQ okp,(by trivial),_,rq,?_⟩;rw[Zo okp];by_cases ck:V.str p.kind=V.str "opener"
   ·rw[QbX ck];rw[if_pos ck] at ej;refine BL ⟨_,rq,_,rq,ke,λtq htq=>?_⟩;have s3:=Ad htq (.tup [.int (i:Int),.int ((1+k:Nat):Int)]);have t13:=t1.trans s3;have c1':=t13 _ _ c1;have n1:∀zs',(upd (upd HC pt (.tup [.int ((1+k:Nat):Int),x])) tq (.tup [.int (i:Int),.int ((1+k:Nat):Int)])) l2≠some (.tup zs'):=λzs' z=>by rw[c1'] at z;cases z
    have t4:=Al.upd (o:=.lst (zs++[.ref tq])) n1;refine⟨_,c1',Ar (by omega),_,_,zs++[.ref tq],rq,Ab,(c2.trans t13).Bp Ah.upd hl2,?_⟩;rw[DN,ej];exact Qcx ⟨tq,rq,t4 _ _ Ab⟩ (Paired.Ax c3 λ_ _ z=>(z.tups (Al.of t13)).tups t4)
   ·rw[QbL ck];rw[if_neg ck] at ej;refine BK ⟨_,_,zs,rq,t1 _ _ c1,c2.trans t1,?_⟩;rw[DN,ej,QbM];exact Paired.Ax c3 λ_ _ z=>z.tups (Al.of t1)
  obtain⟨u,v,zs,rfl,c1,c2,c3⟩:=h;have lz:=Qcc c3;have lk:=DP (QH (lp:=i) (ps:=ps)) ws.length;have h12:=okl.hi;have hyC:=c2 _ _ hy1;refine⟨l,l2,_,_,rq,rq,hyC,c1,Av (by omega),?_⟩;have n2:∀zs',HC l≠some (.tup zs'):=λzs' z=>by rw[hyC] at z;cases z
  have t5:=Al.upd (o:=.lst (ys1++zs)) n2;have sm2:Same H (upd HC l (.lst (ys1++zs))):=(sm1.trans c2).Bp Ah.upd fl;have py2:Paired (Ei _) (ys1++zs) ((up (gtL ja) i++[⟨(i:Int),0⟩])++up (gt1 i ps) ws.length):=Paired.app (Paired.Ax py1 λ_ _ z=>(z.tups (Al.of c2)).tups t5) (Paired.Ax c3 λ_ _ z=>z.tups t5);have hy2:(upd HC l (.lst (ys1++zs))) l=some (.lst (ys1++zs)):=Ab;have ly2:(ys1++zs).length<=100:=by rw[QaV];omega
  generalize upd HC l (.lst (ys1++zs))=HD at sm2 py2 hy2;generalize ys1++zs=ys2 at py2 hy2 ly2;refine⟨_,rq,.inl ⟨rq,_,SqL.of hy2⟩,_,rq,_,rq,t,_,rq,.inr (SqT.of (sm2 _ _ ht)),_,_,rq,rq,ke,λte hte=>?_⟩;have t6:=Ad hte (.tup [.int (i:Int),.int ((ws.length:Int)+1)]);have hy3:=t6 _ _ hy2;refine⟨l,_,_,rq,rq,hy3,Ar (by omega),?_⟩;have n3:∀zs',(upd HD te (.tup [.int (i:Int),.int ((ws.length:Int)+1)])) l≠some (.tup zs'):=λzs' z=>by rw[hy3] at z;cases z
  have t7:=Al.upd (o:=.lst (ys2++[.ref te])) n3;refine⟨ys2++[.ref te],_,_,rq,(sm2.trans t6).Bp Ah.upd fl,Ab,?_⟩;rw[DN,ek,<-lws,show ∀(a:List Gt) (x:Gt) (b c:List Gt),a++(x::b++c)=(a++[x]++b)++c from λa x b c=>by simp]
  exact Qcx ⟨te,rq,t7 _ _ Ab⟩ (Paired.Ax py2 λ_ _ z=>(z.tups (Al.of t6)).tups t7)
 ·obtain⟨ys,u2,u3,rfl,sm,hy,py⟩:=h;rw[lvs] at py;exact⟨_,rq,q l ys HH fl hy py sm⟩
abbrev Yi:Stmt:=top 42
abbrev QC:YF:=["plan","loop"]
theorem Q6:Ay ["plan","loop","told","at","place"] QC (Aj Yi):=by ac_rfl
def stP (lp:Int) (ps:List Place):Nat->List (YV)×YV
 | 0=>([],[])
 | i+1=>match ps[i]? with
  | none=>stP lp ps i
  | some p=>if V.str p.kind=V.str "opener" then ((stP lp ps i).1++[(stP lp ps i).2],[]) else ((stP lp ps i).1,(stP lp ps i).2++(BR lp ((1+i:Nat):Int) p).map Sd.spot)
theorem Wc {lp:Int} {ps:List Place} {i:Nat} {p:Place} (h:ps[i]?=some p) (k:V.str p.kind=V.str "opener"):stP lp ps (i+1)=((stP lp ps i).1++[(stP lp ps i).2],[]):=by
 show (match ps[i]? with | none=>stP lp ps i | some p=>if V.str p.kind=V.str "opener" then ((stP lp ps i).1++[(stP lp ps i).2],[]) else ((stP lp ps i).1,(stP lp ps i).2++(BR lp ((1+i:Nat):Int) p).map Sd.spot))=_
 rw[h];exact if_pos k
theorem TV {lp:Int} {ps:List Place} {i:Nat} {p:Place} (h:ps[i]?=some p) (k:¬V.str p.kind=V.str "opener"):stP lp ps (i+1)=((stP lp ps i).1,(stP lp ps i).2++(BR lp ((1+i:Nat):Int) p).map Sd.spot):=by
 show (match ps[i]? with | none=>stP lp ps i | some p=>if V.str p.kind=V.str "opener" then ((stP lp ps i).1++[(stP lp ps i).2],[]) else ((stP lp ps i).1,(stP lp ps i).2++(BR lp ((1+i:Nat):Int) p).map Sd.spot))=_
 rw[h];exact if_neg k
theorem Qk {α β : Type} {F G:α->β->Prop}:∀{l₁ : List α} {l₂ : List β},Paired F l₁ l₂->(∀a∈l₁,∀b,F a b->G a b)->Paired G l₁ l₂
 | _,_,.nil,_=>.nil
 | _,_,.cons r t,f=>.cons (f _ QaW _ r) (Qk t λa ha b=>f a (QaJ _ ha) b)
theorem Wx {α β : Type} {F:α->β->Prop}:∀{l₁ : List α} {l₂ : List β} {a:α},Paired F l₁ l₂->a∈l₁->∃b,F a b
 | _,_,_,.nil,h=>by cases h
 | _,_,_,.cons r t,h=>by
  rcases Qcd.mp h with rfl | h
  ·exact⟨_,r⟩
  ·exact Wx t h
theorem RB {α β : Type} {F:α->β->Prop}:∀{a₁ b₁ : List α} {a₂ b₂ : List β},Paired F a₁ a₂->Paired F b₁ b₂->Paired F (a₁++b₁) (a₂++b₂)
 | _,_,_,_,.nil,t=>t
 | _,_,_,_,.cons r s,t=>.cons r (RB s t)
def Ni (H:Hp) (v:V) (sp:YV):Prop:=∃q ys,v=.ref q/\H q=some (.lst ys)/\Paired (CN H) ys sp
inductive X4 (vs:YG) (H:Hp) (Q:VK) (E:XK):Prop
 | mk (pl Ls t:Addr) (v0 v2:V) (ls ws:YG) (k:Nat) (ps:List Place) (_:vs=[.ref pl,.int (k:Int)]) (_:H pl=some (.tup [v0,.ref Ls,v2])) (_:H Ls=some (.tup ls)) (_:ls[k]?=some (.ref t)) (_:H t=some (.tup ws)) (_:Paired (Eh H) ws ps) (_:(∀p∈ps,OkP p)) (_:ps.length<=12) (_:∀l xs H',H l=none->H' l=some (.lst xs)->Paired (Ni H') xs ((stP k ps ps.length).1++[(stP k ps ps.length).2])->(∀x∈xs,∃q,x=.ref q/\H q=none/\q≠l)->Same H H'->Q (.ref l) H'):X4 vs H Q E
abbrev xf:YF:=["spot","kind","address"]
theorem vY (c:Code K mg "parts" Yi QC) (T:Tx K mg op oe) (K5:⋯ "place_devices" 1 Fp lH):⋯ "parts" 2 QC X4:=by
 exists c,Q6
 obtain⟨pl,Ls,t,v0,v2,ls,ws,k,ps,rfl,hpl,hLs,hk,ht,hps,hok,h12,q⟩:=h;refine⟨_,(Ae (2∪Q6∪(BZ (Aa (BZ Ac) Ac)))
 (Ae (Cj QbK rfl (Ot rfl T.enumerate (Bj Bw (Bj Bw (pv 0) Af (λ_ _=>rfl)) (pv 1) (λ_ _=>rfl)) Af) (CK rfl (Ak (3∣Q6) (Ak (4∣Q6) Bo)))
 (Ag (Ce (Br (qe (K:=K) rfl hr.units) (pv 4) (SX rfl T.OPENER) (Bv _)) (Ag (Bc (Cy Qas Qao Qap Cv (pv 2) (Aa (BZ Ac) Ac)))) (Ag (Bc (Cy Qas Qaq Qar Fe (Bj Dn (pv 2) (Wu RT Af) (λ_ _=>rfl)) (Aa (Cw (N':=xf) rfl nofun (Dc (CW K5 hr (Aa (pv 1) (Aa (pv 3) (Aa (pv 4) Ac))))) (~~~(FW (K:=K) (n:=3) rfl rfl (Ak (0∩xf) (Ak (1∩xf) (Ak (2∩xf) Bo))))) (λ_ _ _ _=>CT) (~~~(pv 0))) Ac)))))))
 (Ag (Az (pv 2))))),?_⟩
 show let R0:TS:=_;let R1:TS:=_;let R2:TS:=Hr _ R0 R1;let R3:TS:=Ao (Dq _ _ R2) _;Ao _ R3 _ _ _;intro R0 R1 R2 R3;generalize hst:L2.start _ _=σ0;have e0:σ0=[jp pl,some (.int (k:Int)),none,none,none]:=hst.symm;clear hst;subst e0;refine⟨(by show 0<=sizeLine;decide),λq0 hq0=>⟨(by show 1<=sizeLine;decide),λl hl=>?_⟩⟩;have s1:=Ad hq0 (.lst []);have s2:=Ad hl (.lst [.ref q0]);have sm:=s1.trans s2;have hl0:=s1.free hl;have el:_=some (HO.lst [.ref q0]):=Ab (H:=upd H q0 (.lst [])) (a:=l) (o:=.lst [.ref q0]);have eq0:_=some (HO.lst []):=s2 _ _ (Ab (H:=H) (a:=q0) (o:=.lst []));have nq:q0≠l:=Aq (Ab (H:=H) (a:=q0) (o:=.lst [])) hl;generalize hX:upd (upd H q0 (.lst [])) l (.lst [.ref q0])=H1 at sm el eq0;simp only[QaY,QaX];have Lu:ws.length=ps.length:=Qcc hps;refine⟨_,rq,pl,_,_,_,rq,rq,SqT.of (sm _ _ hpl),rq,_,rq,Ls,_,_,_,rq,rq,SqT.of (sm _ _ hLs),Fq hk,t,rq,⟨ws,SqT.of (sm _ _ ht)⟩,?_⟩;let J0:YN:=λi U HH=>∃qs ql u3 u4,U=[jp pl,some (.int (k:Int)),jp l,u3,u4]/\Same H HH/\HH l=some (.lst (qs++[.ref ql]))/\Paired (Ni HH) qs (stP k ps i).1/\Ni HH (.ref ql) (stP k ps i).2/\(∀x∈qs,∃q,x=.ref q/\H q=none/\q≠l/\q≠ql)/\H ql=none/\ql≠l/\qs.length<=i/\(stP k ps i).2.length<=4*i;refine Kg (xs:=ws) (lo:=1) J0
  ⟨[],q0,_,_,rq,sm,el,.nil,⟨q0,[],rq,eq0,.nil⟩,λx hx=>(by cases hx),hq0,nq,Qcv _,Qcv _⟩ (λi U HH _ h=>?_) (λi x pt U HH hx h hpt=>?_) (fun U HH h=>?_)
 ·obtain⟨qs,ql,_,_,_,sb,_⟩:=h;exact SqT.of (sb _ _ ht)
 ·obtain⟨qs,ql,u3,u4,rfl,sb,hy,pd,pc,fq,fl,nl,lq,lc⟩:=h;obtain⟨p,hpi,hpa⟩:=Paired.Ck hps hx;have okp:=hok p (QaI hpi);have hpa:=hpa.tups (Al.of sb);have t0:=Ad hpt (.tup [.int ((1+i:Nat):Int),x]);have xQ:=hpa.tups (Al.of t0);have il:i < ps.length:=(Qai.mp hpi).1;have sb0:=sb.trans t0;have hy0:=t0 _ _ hy;have pd0:=Paired.Ax pd λ_ _ (z:Ni HH _ _)=>(show Ni (upd HH pt (.tup [.int ((1+i:Nat):Int),x])) _ _ from let ⟨a,ys,e1,e2,e3⟩:=z;⟨a,ys,e1,t0 _ _ e2,Paired.Ax e3 λ_ _ y=>y.tups (Al.of t0)⟩)
  have pc0:Ni (upd HH pt (.tup [.int ((1+i:Nat):Int),x])) (.ref ql) (stP k ps i).2:=let ⟨a,ys,e1,e2,e3⟩:=pc;⟨a,ys,e1,t0 _ _ e2,Paired.Ax e3 λ_ _ y=>y.tups (Al.of t0)⟩;refine⟨pt,_,rq,SqT.of Ab,rq,_,_,rq,_,_,rq,rq,?_⟩;generalize upd HH pt (.tup [.int ((1+i:Nat):Int),x])=HA at xQ sb0 hy0 pd0 pc0;simp only[QaY,QaX];refine⟨_,rq,Oo p,opD,xQ.rep,.tup (T.opT HA) (.cons (.str _) (.cons (.int _) (.cons (.tup (T.opE HA) .nil) .nil))),SQ okp,(by trivial),_,rq,?_⟩;rw[Zo okp];by_cases ck:V.str p.kind=V.str "opener"
  ·rw[QbX ck];refine BL ⟨_,rq,.inl ⟨rq,_,SqL.of hy0⟩,(by show 0<=sizeLine;decide),λqn hqn=>?_⟩;have t1:=Ad hqn (.lst []);refine⟨l,_,_,rq,rq,t1 _ _ hy0,Ar (by rw[QaV];simp only[QaE];omega),?_⟩;have nln:l≠qn:=Aq hy0 hqn;have sS:Ah l HA (upd (upd HA qn (.lst [])) l (.lst (qs++[.ref ql]++[.ref qn]))):=(Ah.of t1).trans Ah.upd;have eqn:(upd (upd HA qn (.lst [])) l (.lst (qs++[.ref ql]++[.ref qn]))) qn=some (.lst []):=by rw[Am nln.symm,Ab]
   have ell:(upd (upd HA qn (.lst [])) l (.lst (qs++[.ref ql]++[.ref qn]))) l=some (.lst (qs++[.ref ql]++[.ref qn])):=Ab;have nlt:∀zs,HA l≠some (.tup zs):=λzs z=>by rw[hy0] at z;cases z
   generalize upd (upd HA qn (.lst [])) l (.lst (qs++[.ref ql]++[.ref qn]))=HB at sS eqn ell;have keep:∀v sp,Ni HA v sp->v≠.ref l->Ni HB v sp:=λv sp z n=>by
    obtain⟨a,ys,e1,e2,e3⟩:=z;exact⟨a,ys,e1,sS _ _ e2 (λw=>n (by rw[e1,w])),Paired.Ax e3 λ_ _ y=>y.tups (sS.tup nlt)⟩
   have fqn:=sb0.free hqn;refine⟨qs++[.ref ql],qn,_,_,rq,sb0.Bp sS hl0,ell,?_,⟨qn,[],rq,eqn,?_⟩,λy hy'=>?_,fqn,nln.symm,by rw[QaV];simp only[QaE];omega,?_⟩
   ·rw[Wc hpi ck];refine Qcx (keep _ _ pc0 λz=>nl (by injection z)) ?_;exact Qk pd0 λy hy' sp z=>keep _ _ z λw=>by
     obtain⟨a,e,_,n,_⟩:=fq y hy';rw[e] at w;injection w with w;exact n w
   ·rw[Wc hpi ck];exact .nil
   ·rcases QbI.mp hy' with z | z
    ·obtain⟨a,e,f1,n1,n2⟩:=fq y z;have hm:y∈qs:=z;refine⟨a,e,f1,n1,λw=>?_⟩;obtain⟨sp,Nd⟩:=Wx pd0 hm;obtain⟨a',ys,e1,e2,_⟩:=Nd;rw[e] at e1;injection e1 with e1;rw[<-e1,w,hqn] at e2;cases e2
    ·have hz:y=.ref ql:=by simpa using z
     refine⟨ql,hz,fl,nl,λw=>?_⟩;obtain⟨a',ys,e1,e2,_⟩:=pc0;injection e1 with e1;rw[<-e1,w,hqn] at e2;cases e2
   ·rw[Wc hpi ck];exact Qcw _
  ·rw[QbL ck];obtain⟨a,yc,ea,eyc,pcs⟩:=id pc0;injection ea with ea;subst ea;refine BK ⟨_,rq,_,rq,l,_,_,_,rq,rq,SqL.of hy0,fY qs (.ref ql),.inl ⟨rq,_,SqL.of eyc⟩,?_⟩;refine⟨_,rq,_,rq,_,rq,(k:Int),((1+i:Nat):Int),x,p,rq,xQ,okp.spur,λld xs' HB fld hld pdd sB=>⟨ld,rq,⟨xs',SqL.of hld⟩,λl2 hl2=>?_⟩⟩;have lsd:(BR k ((1+i:Nat):Int) p).length<=4:=by
    unfold BR;rw[if_neg ck,Qbz,Nv];have:=okp.spur;omega
   have lx:xs'.length<=4:=by rw[Qcc pdd];exact lsd
   let J1:YN:=λj U HH2=>∃u v w ys,U=[u,v,w]/\HH2=upd HB l2 (.lst ys)/\ys.length<=j/\Paired (CN HB) ys (((BR k ((1+i:Nat):Int) p).take j).map Sd.spot);refine Hq (xs:=xs') J1 ⟨none,none,none,[],rq,rq,Qcv _,.nil⟩ (λj U HH2 _ h=>?_) (λj y U HH2 hyj h=>?_) (fun U HH2 h=>?_)
   ·obtain⟨u,v,w,ys,rfl,rfl,_⟩:=h;exact SqL.of (Ad hl2 _ _ _ hld)
   ·obtain⟨u,v,w,ys,rfl,rfl,lys,pys⟩:=h;obtain⟨d,hdj,td,ud,rfl,e1,e2⟩:=Paired.Ck pdd hyj;have jl:=(Qai.mp hyj).1;refine⟨td,_,rq,SqT.of (Ad hl2 _ _ _ e1),rq,_,_,rq,_,_,rq,_,_,rq,rq,_,rq,ys,Ab,Ar (by omega),_,_,_,ys++[.ref ud],rq,TF,by rw[QaV];simp only[QaE];omega,?_⟩;rw[List.take_succ,hdj,QbJ];exact Qcx ⟨ud,rq,e2⟩ pys
   ·obtain⟨u,v,w,ys,rfl,rfl,lys,pys⟩:=h;rw[Qcc pdd,Qby] at pys;have t2:=Ad hl2 (.lst ys);have s02:=sB.trans t2;have nq2:ql≠l2:=Aq (sB _ _ eyc) hl2;have lyc:yc.length<=4*i:=by rw[Qcc pcs];exact lc
    refine⟨ql,l2,_,_,rq,rq,s02 _ _ eyc,Ab,Av (by omega),?_⟩;have sS:Ah ql HA (upd (upd HB l2 (.lst ys)) ql (.lst (yc++ys))):=(Ah.of s02).trans Ah.upd;have eql:(upd (upd HB l2 (.lst ys)) ql (.lst (yc++ys))) ql=some (.lst (yc++ys)):=Ab;have nqt:∀zs,(upd HB l2 (.lst ys)) ql≠some (.tup zs):=λzs z=>by rw[s02 _ _ eyc] at z;cases z
    have tE:Al HB (upd (upd HB l2 (.lst ys)) ql (.lst (yc++ys))):=(Al.of t2).trans (Al.upd nqt);have nqa:∀zs,HA ql≠some (.tup zs):=λzs z=>by rw[eyc] at z;cases z
    generalize upd (upd HB l2 (.lst ys)) ql (.lst (yc++ys))=HC at sS eql tE;refine⟨qs,ql,_,_,rq,sb0.Bp sS fl,sS _ _ hy0 nl.symm,?_,⟨ql,yc++ys,rq,eql,?_⟩,fq,fl,nl,by omega,?_⟩
    ·rw[TV hpi ck];exact Qk pd0 λy hy' sp z=>by
      obtain⟨a',ys',e1,e2,e3⟩:=z;obtain⟨b',f1,_,_,f4⟩:=fq y hy';refine⟨a',ys',e1,sS _ _ e2 (λw=>f4 ?_),Paired.Ax e3 λ_ _ y=>y.tups (sS.tup nqa)⟩;rw[e1] at f1;injection f1 with f1;rw[<-f1,w]
    ·rw[TV hpi ck];exact RB (Paired.Ax pcs λ_ _ y=>y.tups (sS.tup nqa)) (Paired.Ax pys λ_ _ y=>y.tups tE)
    ·rw[TV hpi ck,QaV,QbH];omega
 ·obtain⟨qs,ql,u3,u4,rfl,sb,hy,pd,pc,fq,fl,nl,_⟩:=h;rw[Lu] at pd pc;refine⟨_,rq,q l _ HH hl0 hy (Qcx pc pd) (λx hx=>?_) sb⟩;rcases QbI.mp hx with z | z
  ·obtain⟨a,e,n,m,_⟩:=fq x z;exact⟨a,e,n,m⟩
  ·have:x=.ref ql:=by simpa using z
   exact⟨ql,this,fl,nl⟩
abbrev Nz:Stmt:=top 18
abbrev Gx:YF:=["thing"]
theorem gK:Ay Gx Gx (Aj Nz):=by ac_rfl
abbrev P0:Stmt:=top 19
abbrev Et:YF:=["thing","low","high"]
theorem bR:Ay ["thing","low","high"] Et (Aj P0):=by ac_rfl
abbrev Vp:Stmt:=top 20
abbrev Dz:YF:=["thing","least","most"]
theorem pI:Ay ["thing","least","most"] Dz (Aj Vp):=by ac_rfl
abbrev Oh:Stmt:=top 21
abbrev Ge:YF:=["thing","many"]
theorem Z0:Ay ["thing","many"] Ge (Aj Oh):=by ac_rfl
theorem Kd {b:Bool} {A B:Prop} (h1:b=true->A) (h2:b=false->B):if b=true then A else B:=by
 cases b with
 | true=>exact BL (h1 rfl)
 | false=>exact BK (h2 rfl)
theorem Sh {I R:TS} {D:Ends} {U : St} {H:Hp} (P:YO) (hR:∀ σ' H',P σ' H'->R D σ' H') (hI:∀D':Ends,(∀ σ' H',P σ' H'->D'.nx σ' H')->I D' U H):Ao I R D U H:=hI { D with nx:=fun U H=>R D U H } hR
def iv (xs:List Int):YG:=xs.map V.int
inductive spW (vs:YG) (H:Hp) (Q:VK) (E:XK):Prop
 | mk (i:Int) (_:vs=[.int i]) (_:Q (.bl true) H):spW vs H Q E
inductive JT (vs:YG) (H:Hp) (Q:VK) (E:XK):Prop
 | mk (x lo hi:Int) (_:vs=[.int x,.int lo,.int hi]) (_:Q (.bl (decide (lo<=x/\x<=hi))) H):JT vs H Q E
inductive uJ (vs:YG) (H:Hp) (Q:VK) (E:XK):Prop
 | mk (v) (_:vs=[v]) (_:Kn H v) (_:Q (.bl (isW v)) H):uJ vs H Q E
def Rf (o:Option (YG)) (a b:Int):Bool:=match o with
 | some xs=>decide (a<=xs.length)&&decide ((xs.length:Int)<=b)
 | none=>false
inductive GK (vs:YG) (H:Hp) (Q:VK) (E:XK):Prop
 | mk (v a b) (_:vs=[v,.int a,.int b]) (_:Kn H v) (_:Q (.bl (Rf (Ir H v) a b)) H):GK vs H Q E
structure Th (H:Hp) (v:V):Prop where
 kn:Kn H v
 parts:∀xs,Ir H v=some xs->xs.length<=100/\∀y∈xs,Kn H y
def Tz (o:Option (YG)) (n:Int):Bool:=match o with
 | some xs=>Rf (some xs) n n&&xs.all isW
 | none=>false
theorem RN {xs:YG} {n:Int}:Tz (some xs) n=(Rf (some xs) n n&&xs.all isW):=rfl
inductive Mz (vs:YG) (H:Hp) (Q:VK) (E:XK):Prop
 | mk (v n) (_:vs=[v,.int n]) (_:Th H v) (_:∀H',Same H H'->Q (.bl (Tz (Ir H v) n)) H'):Mz vs H Q E
theorem YX {P:Program} {w:World} {K:YD} {mg:YB} {base:Heap} {x:Str} {k:Nat} {ps:YF} {sp sp':Sp} (g:⋯ x k ps sp) (h:∀vs H Q E,sp' vs H Q E->sp vs H Q E):⋯ x k ps sp':=⟨let ⟨f,fd,a,b,c,F⟩:=g.ex;⟨f,fd,a,b,c,F.imp h⟩⟩
theorem S7 (c:Code K mg "is_whole" Nz Gx) (T:Nm mg):⋯ "is_whole" 1 Gx uJ:=by
 exists c,gK
 obtain⟨v,rfl,k,q⟩:=h;refine⟨_,(Ag (Az (EY (Aw Rv rfl T.isinstance Bs (Aa (pv 0) (Aa (QB (v:=.ty "int") rfl T.int tL rfl) Ac))) (El (CI (Aw Rv rfl T.isinstance Bs (Aa (pv 0) (Aa (QB (v:=.ty "bool") rfl T.bool Bi rfl) Ac)))))))),?_⟩;refine⟨_,rq,AX k ⟨_,rq,?_⟩⟩;rw[DI] at q;cases e:isI v with
 | false=>rw[e] at q;exact BK q
 | true=>rw[e] at q;exact BL ⟨_,rfl,xP e ⟨_,rfl,q⟩⟩
theorem gU (c:Code K mg "is_whole" Nz Gx) (T:Nm mg):⋯ "is_whole" 1 Gx spW:=YX (S7 c T) λvs H Q E h=>let ⟨i,e,q⟩:=h;⟨.int i,e,True.intro,q⟩
theorem cT (c:Code K mg "is_within" P0 Et) (T:Nm mg) (Rn:⋯ "is_whole" 1 Gx spW):⋯ "is_within" 2 Et JT:=by
 exists c,bR
 obtain⟨x,lo,hi,rfl,q⟩:=h;refine⟨_,(Ag (Az (EY (BJ Rn hr (Aa (pv 0) Ac)) (El (Ov Mp Mp (pv 1) (pv 0) (pv 2)))))),?_⟩;refine⟨_,rq,x,rq,_,rq,BL ⟨_,rq,_,rq,_,_,rq,rq,_,rq,?_⟩⟩;by_cases h1:lo<=x
 ·rw[QbX h1];refine BL ⟨_,rq,_,_,rq,rq,?_⟩;by_cases h2:x<=hi
  ·rw[QbX ⟨h1,h2⟩] at q;show Q (.bl (decide (x<=hi))) H;rw[QbX h2];exact q
  ·rw[QbL (λz=>h2 z.2)] at q;show Q (.bl (decide (x<=hi))) H;rw[QbL h2];exact q
 ·rw[QbL (λz=>h1 z.1)] at q;rw[QbL h1];exact BK q
theorem qu (c:Code K mg "is_row" Vp Dz) (T:Nm mg):⋯ "is_row" 1 Dz GK:=by
 exists c,pI
 obtain⟨v,a,b,rfl,k,q⟩:=h;refine⟨_,(Ag (Az (EY (Aw Rv rfl T.isinstance Bs (Aa (pv 0) (Aa (QB (v:=.ty "tuple") rfl T.tuple LK rfl) Ac))) (El (Ov Mp Mp (pv 1) (Aw Bh rfl T.len CJ (Aa (pv 0) Ac)) (pv 2)))))),?_⟩;refine⟨_,rq,qN k ⟨_,rq,?_⟩⟩;cases e:Ir H v with
 | none=>rw[e] at q;exact BK q
 | some xs=>
  rw[e] at q;obtain⟨p,rfl,hp⟩:=dg e;refine BL ⟨_,rq,_,rq,p,xs,rq,.inr (SqT.of hp),_,_,rq,rq,_,rq,?_⟩;by_cases h1:a<=(xs.length:Int)
  ·rw[QbX h1];refine BL ⟨_,rq,_,_,rq,rq,?_⟩;simpa [Rf,h1] using q
  ·rw[QbL h1];refine BK ?_;simpa [Rf,h1] using q
abbrev xh:YF:=["part"]
theorem Z5 (c:Code K mg "are_wholes" Oh Ge) (T:Nm mg) (Rn:⋯ "is_whole" 1 Gx uJ) (Cu:⋯ "is_row" 1 Dz GK):⋯ "are_wholes" 2 Ge Mz:=by
 exists c,Z0
 obtain⟨v,n,rfl,t,q⟩:=h;refine⟨_,(Ag (Az (EY (CW Cu hr (Aa (pv 0) (Aa (pv 1) (Aa (pv 1) Ac)))) (El (Aw (Jl rfl) rfl T.all Nh (Aa (Cw (N':=xh) rfl nofun (Ga (pv 0)) (~~~(0∩xh)) (λ_ _ _ _=>CT) (~~~(BJ Rn hr (Aa (pv 0) Ac)))) Ac)))))),?_⟩;refine⟨_,rq,_,rq,_,rq,v,n,n,rq,t.kn,_,rq,?_⟩;cases e:Ir H v with
 | none=>exact BK (by have:=q H (Same.refl H);rw[e] at this;exact this)
 | some xs=>
  obtain⟨p,rfl,hp⟩:=dg e;have tp:=t.parts xs e;cases eb:Rf (some xs) n n with
  | false=>exact BK (by have:=q H (Same.refl H);rw[e,RN,eb] at this;exact this)
  | true=>
   refine BL ⟨_,rq,p,rq,⟨xs,SqT.of hp⟩,λl hl=>?_⟩;have hpl:p≠l:=Aq hp hl;let J0:YN:=λi U H'=>∃u,U=[u]/\H'=upd H l (.lst ((xs.take i).map λy=>V.bl (isW y)));refine Rp (xs:=xs) J0 ⟨none,rq,rq⟩ (λi U H' _ h=>?_) (λi x U H' hx h=>?_) (fun U H' h=>?_)
   ·obtain⟨u,rfl,rfl⟩:=h;exact SqT.of (by rw[Am hpl];exact hp)
   ·obtain⟨u,rfl,rfl⟩:=h;have sm:Same H (upd H l (.lst ((xs.take i).map λy=>V.bl (isW y)))):=Ad hl _;have et:(xs.take (i+1)).map (λy=>V.bl (isW y))=(xs.take i).map (λy=>V.bl (isW y))++[V.bl (isW x)]:=by rw[List.take_succ,hx];simp
    refine⟨_,rq,x,rq,(tp.2 x (QaI hx)).same sm,_,Ab,Ar (by rw[QbH,QbA];omega),_,rq,?_⟩;rw[TF,et]
   ·obtain⟨u,rfl,rfl⟩:=h;refine⟨l,xs.map isW,rq,SqL.of ?_,?_⟩
    ·rw[Ab,Qby,Qcp];rfl
    ·have:=q _ (Ad hl (.lst ((xs.take xs.length).map λy=>V.bl (isW y))));rw[e,RN,eb,Bool.true_and] at this;rw[List.all_map];exact this
abbrev Qa:Stmt:=top 22
abbrev JD:YF:=["row"]
theorem bT:Ay ["row"] JD (Aj Qa):=by ac_rfl
abbrev Gm:Stmt:=top 23
abbrev Em:YF:=["thing","least","most","low","high"]
theorem Q7:Ay Em Em (Aj Gm):=by ac_rfl
abbrev Sx:Stmt:=top 24
abbrev M4:YF:=Gx
theorem lQ:Ay Gx M4 (Aj Sx):=by ac_rfl
abbrev Qc:Stmt:=top 29
abbrev Ih:YF:=["kind","address"]
theorem bU:Ay ["kind","address"] Ih (Aj Qc):=by ac_rfl
abbrev JV:Stmt:=top 30
abbrev Gd:YF:=Gx
theorem Uw:Ay Gx Gd (Aj JV):=by ac_rfl
abbrev Sw:Stmt:=top 31
abbrev MP:YF:=Gx
theorem lO:Ay Gx MP (Aj Sw):=by ac_rfl
abbrev Ra:Stmt:=top 32
abbrev K1:YF:=Gx
theorem Jy:Ay ["thing","kind","address","spur"] K1 (Aj Ra):=by ac_rfl
abbrev Sy:Stmt:=top 33
abbrev M5:YF:=Gx
theorem lR:Ay Gx M5 (Aj Sy):=by ac_rfl
abbrev Sv:Stmt:=top 34
abbrev MN:YF:=Gx
theorem lN:Ay Gx MN (Aj Sv):=by ac_rfl
abbrev Qe:Stmt:=top 35
abbrev Ik:YF:=Gx
theorem bY:Ay Gx Ik (Aj Qe):=by ac_rfl
abbrev Qd:Stmt:=top 36
abbrev Ij:YF:=Gx
theorem bW:Ay Gx Ij (Aj Qd):=by ac_rfl
abbrev Pj:Stmt:=top 37
abbrev Hl:YF:=Gx
theorem Es:Ay ["thing","most","loops","zones"] Hl (Aj Pj):=by ac_rfl
structure Ty (K:YD) (mg:YB) (op oe kd wk:Addr):Prop extends Tx K mg op oe where
 KINDS:∃u,mg "KINDS"=some u/\RelV (.ref kd) u
 kdT:∀H,SqT K H kd [.str "seeker",.str "knob",.str "bell",.str "door"]
 WARNING_KINDS:∃u,mg "WARNING_KINDS"=some u/\RelV (.ref wk) u
 wkT:∀H,SqT K H wk [.str "seeker",.str "knob"]
 SMALL_LETTERS:∃u,mg "SMALL_LETTERS"=some u/\RelV (.str abc) u
theorem BA:∀c∈abc.cps.toList,(!(Builtin.Str.occurrences abc ⟨#[c]⟩ 0 abc.length 1).isEmpty)=true:=by
 have h:abc.cps.toList.all (λc=>!(Builtin.Str.occurrences abc ⟨#[c]⟩ 0 abc.length 1).isEmpty)=true:=by trivial
 exact λc hc=>List.all_eq_true.mp h c hc
theorem AU {k:Str} (h:Fg k):inV (.str k) [.str "seeker",.str "knob",.str "bell",.str "door"]=true:=by
 rcases h with rfl | rfl | rfl | rfl <;> decide +kernel
theorem Ng {K:YD} {a l:Addr} {xs:YG} {te:TE} {Q:VK} {r:St} {H:Hp} (hl:H l=none) (ha:H a=some (.tup xs)) (h100:xs.length<=100)
  (hs:∀(i:Nat) (x:V) (HH:Hp),xs[i]?=some x->Same H HH->∀R:VK,(∀H',Same HH H'->R (.bl true) H')->te (some x::r) HH R)
  (hq:∀H',H' l=some (.lst ((List.replicate xs.length true).map V.bl))->Same H H'->Q (.ref l) H'):Gp (Itt K a) (FN 0) (λ_ H Q=>Q true H) te Q (none::r) (upd H l (.lst [])) l:=by
 let J0:YN:=λi U HH=>∃u,U=u::r/\HH l=some (.lst ((List.replicate i true).map V.bl))/\Same H HH;refine Rp (xs:=xs) J0 ⟨_,rq,Ab,Ad hl _⟩ (λi U HH _ h=>?_) (λi x U HH hx h=>?_) (fun U HH h=>?_)
 ·obtain⟨u,rfl,_,s⟩:=h;exact SqT.of (s _ _ ha)
 ·obtain⟨u,rfl,e,s⟩:=h;have hi:=(Qai.mp hx).1;unfold FN;dsimp only;refine BL (hs i x HH hx s _ λH' s'=>⟨_,s' _ _ e,Ar (by rw[QbH,QaG];omega),_,rq,?_,(s.trans s').Bp Ah.upd hl⟩);rw[Ab,List.replicate_succ',QbJ];rfl
 ·obtain⟨u,rfl,e,s⟩:=h;exact hq _ e s
theorem jX {K:YD} {a l:Addr} {xs:YG} {te:TE} {Q:VK} {r:St} {H:Hp} (bs:List Bool) (lb:bs.length=xs.length) (hl:H l=none) (ha:H a=some (.tup xs)) (h100:xs.length<=100)
  (hs:∀(i:Nat) (x:V) (b:Bool) (HH:Hp),xs[i]?=some x->bs[i]?=some b->Same H HH->∀R:VK,(∀H',Same HH H'->R (.bl b) H')->te (some x::r) HH R)
  (hq:∀H',H' l=some (.lst (bs.map V.bl))->Same H H'->Q (.ref l) H'):Gp (Itt K a) (FN 0) (λ_ H Q=>Q true H) te Q (none::r) (upd H l (.lst [])) l:=by
 let J1:YN:=λi U HH=>∃u,U=u::r/\HH l=some (.lst ((bs.take i).map V.bl))/\Same H HH;refine Rp (xs:=xs) J1 ⟨_,rq,Ab,Ad hl _⟩ (λi U HH _ h=>?_) (λi x U HH hx h=>?_) (fun U HH h=>?_)
 ·obtain⟨u,rfl,_,s⟩:=h;exact SqT.of (s _ _ ha)
 ·obtain⟨u,rfl,e,s⟩:=h;have hi:=(Qai.mp hx).1;have hb:bs[i]?=some bs[i]:=Qan (by omega);unfold FN;dsimp only;refine BL (hs i x _ HH hx hb s _ λH' s'=>⟨_,s' _ _ e,Ar (by rw[QbH,QbA];omega),_,rq,?_,(s.trans s').Bp Ah.upd hl⟩);rw[Ab,QcF hb,QbJ];rfl
 ·obtain⟨u,rfl,e,s⟩:=h;rw[<-lb,Qby] at e;exact hq _ e s
def RZ (s1 s2:Sp):Sp:=λvs H Q E=>s1 vs H Q E\/s2 vs H Q E
theorem Yl {xs:YG} {a b:Int} (h:(xs.length:Int) < a\/b < (xs.length:Int)):Rf (some xs) a b=false:=by
 show (decide (a<=xs.length)&&decide ((xs.length:Int)<=b))=false;rcases h with h | h
 ·rw[QbL (by omega)];rfl
 ·rw[QbL (show ¬(xs.length:Int)<=b by omega),Bool.and_false]
theorem Fx {H:Hp} {a:Addr} {xs:YG} (h:H a=some (.tup xs)):Kn H (.ref a):=by
 unfold Kn
 first
  | exact⟨_,h,True.intro⟩
  | exact .inr ⟨_,h⟩
  | exact⟨xs,.inr h⟩
theorem Ds {xs:YG} {a b:Int} (h1:a<=xs.length) (h2:(xs.length:Int)<=b):Rf (some xs) a b=true:=by
 show (decide (a<=xs.length)&&decide ((xs.length:Int)<=b))=true;rw[QbX h1,QbX h2];rfl
theorem V3 {n:Nat}:(List.replicate n true).all id=true:=by simp
structure SB (p:Place):Prop where
 ok:OkP p
 bd:∀x∈adP p,1<=x/\x<=99
inductive X6 (vs:YG) (H:Hp) (Q:VK) (E:XK):Prop
 | mk (z:Str) (_:vs=[.str z]) (_:1<=z.length) (_:z.length<=8) (_:okS z) (_:∀H',Same H H'->Q (.bl true) H'):X6 vs H Q E
inductive bF (vs:YG) (H:Hp) (Q:VK) (E:XK):Prop
 | mk (a:Addr) (ns:List Int) (_:vs=[.ref a]) (_:H a=some (.tup (ns.map V.int))) (_:ns.Pairwise (· < ·)) (_:ns.length<=100) (_:∀H',Same H H'->Q (.bl true) H'):bF vs H Q E
inductive bD (vs:YG) (H:Hp) (Q:VK) (E:XK):Prop
 | mk (a:Addr) (ns:List Int) (lo hi l h:Int) (_:vs=[.ref a,.int lo,.int hi,.int l,.int h]) (_:H a=some (.tup (ns.map V.int))) (_:ns.Pairwise (· < ·)) (_:ns.length<=100) (_:lo<=ns.length) (_:(ns.length:Int)<=hi) (_:(∀x∈ns,l<=x/\x<=h)) (_:∀H',Same H H'->Q (.bl true) H'):bD vs H Q E
inductive Wh (vs:YG) (H:Hp) (Q:VK) (E:XK):Prop
 | mk (k:Str) (x:Int) (_:vs=[.str k,.int x]) (_:Fg k) (_:1<=x) (_:x<=99) (_:Q (.bl true) H):Wh vs H Q E
inductive Ve (vs:YG) (H:Hp) (Q:VK) (E:XK):Prop
 | mk (v d) (_:vs=[v]) (_:K8 H v d) (_:Fg d.kind) (_:1<=d.addr) (_:d.addr<=99) (_:Q (.bl true) H):Ve vs H Q E
inductive XR (vs:YG) (H:Hp) (Q:VK) (E:XK):Prop
 | mk (u ws ds) (_:vs=[.ref u]) (_:H u=some (.tup ws)) (_:Paired (K8 H) ws ds) (_:ds.length<=3) (_:(∀d∈ds,Fg d.kind/\1<=d.addr/\d.addr<=99)) (_:∀H',Same H H'->Q (.bl true) H'):XR vs H Q E
inductive Vf (vs:YG) (H:Hp) (Q:VK) (E:XK):Prop
 | mk (v p) (_:vs=[v]) (_:Eh H v p) (_:SB p) (_:∀H',Same H H'->Q (.bl true) H'):Vf vs H Q E
inductive X7 (vs:YG) (H:Hp) (Q:VK) (E:XK):Prop
 | mk (v ps) (_:vs=[v]) (_:LoopAt H v ps) (_:OkL ps) (_:(∀x∈adL ps,1<=x/\x<=99)) (_:∀H',Same H H'->Q (.bl true) H'):X7 vs H Q E
inductive Q0 (vs:YG) (H:Hp) (Q:VK) (E:XK):Prop
 | mk (Ls ws ja) (_:vs=[.ref Ls]) (_:H Ls=some (.tup ws)) (_:Paired (LoopAt H) ws ja) (_:(∀ps∈ja,OkL ps)) (_:(∀x∈Cg ja,1<=x/\x<=99)) (_:1<=ja.length) (_:ja.length<=3) (_:∀H',Same H H'->Q (.bl true) H'):Q0 vs H Q E
structure ZnB (z:Zone):Prop where
 nm:(1<=z.name.length/\z.name.length<=8)/\okS z.name
 up:z.adr.Pairwise (· < ·)/\1<=z.adr.length/\z.adr.length<=30
 bd:∀x∈z.adr,1<=x/\x<=99
inductive XH (vs:YG) (H:Hp) (Q:VK) (E:XK):Prop
 | mk (v z) (_:vs=[v]) (_:Gz H v z) (_:ZnB z) (_:∀H',Same H H'->Q (.bl true) H'):XH vs H Q E
inductive QZ (vs:YG) (H:Hp) (Q:VK) (E:XK):Prop
 | mk (zs ws jn) (_:vs=[.ref zs]) (_:H zs=some (.tup ws)) (_:Paired (Gz H) ws jn) (_:(∀z∈jn,ZnB z)) (_:jn.length<=8) (_:(jn.map (·.name)).Nodup) (_:∀H',Same H H'->Q (.bl true) H'):QZ vs H Q E
inductive bG (vs:YG) (H:Hp) (Q:VK) (E:XK):Prop
 | mk (a:Addr) (_:vs=[.ref a,.int 1,.int 30,.int 1,.int 99]) (_:H a=some (.tup [.int 100])) (_:∀H',Same H H'->Q (.bl false) H'):bG vs H Q E
inductive Vi (vs:YG) (H:Hp) (Q:VK) (E:XK):Prop
 | mk (Ls ws) (_:vs=[.ref Ls]) (_:H Ls=some (.tup ws)) (_:(ws.length=0\/3 < ws.length)) (_:Q (.bl false) H):Vi vs H Q E
def Zj (H:Hp) (t:Addr):Prop:=∃u,H t=some (.tup [.str "q",.ref u])/\H u=some (.tup [.int 100])
theorem Zj.tups {H H':Hp} {t:Addr} (h:Zj H t) (s:Al H H'):Zj H' t:=by
 obtain⟨u,h1,h2⟩:=h;exact⟨u,s _ _ h1,s _ _ h2⟩
inductive XJ (vs:YG) (H:Hp) (Q:VK) (E:XK):Prop
 | mk (t) (_:vs=[.ref t]) (_:Zj H t) (_:∀H',Same H H'->Q (.bl false) H'):XJ vs H Q E
inductive Vd (vs:YG) (H:Hp) (Q:VK) (E:XK):Prop
 | mk (zs ws jn tz) (_:vs=[.ref zs]) (_:H zs=some (.tup (ws++[.ref tz]))) (_:Paired (Gz H) ws jn) (_:(∀z∈jn,ZnB z)) (_:jn.length<=8) (_:Zj H tz) (_:∀H',Same H H'->Q (.bl false) H'):Vd vs H Q E
structure GF (H:Hp) (pl:Addr) (most:Int) (ja:YU) (jn:List Zone):Prop where
 at_:∃Ls zs vs zvs,H pl=some (.tup [.int most,.ref Ls,.ref zs])/\H Ls=some (.tup vs)/\Paired (LoopAt H) vs ja/\H zs=some (.tup zvs)/\Paired (Gz H) zvs jn
 ok:Dj ja
 lo:1<=ja.length
 pok:gw most ja jn
theorem GF.tups {H H':Hp} {pl:Addr} {most:Int} {ja:YU} {jn:List Zone} (h:GF H pl most ja jn) (s:Al H H'):GF H' pl most ja jn:=by
 obtain⟨Ls,zs,vs,zvs,e1,e2,e3,e4,e5⟩:=h.at_;exact⟨⟨Ls,zs,vs,zvs,s _ _ e1,s _ _ e2,Paired.Ax e3 λ_ _ z=>z.tups s,s _ _ e4,Paired.Ax e5 λ_ _ z=>z.tups s⟩,h.ok,h.lo,h.pok⟩
theorem GF.same {H H':Hp} {pl:Addr} {most:Int} {ja:YU} {jn:List Zone} (h:GF H pl most ja jn) (s:Same H H'):GF H' pl most ja jn:=h.tups (Al.of s)
theorem GF.plan {H:Hp} {pl:Addr} {most:Int} {ja:YU} {jn:List Zone} (h:GF H pl most ja jn):QL H pl ja:=by
 obtain⟨Ls,zs,vs,zvs,e1,e2,e3,e4,e5⟩:=h.at_;exact⟨_,_,Ls,vs,e1,e2,e3⟩
inductive Qy (vs:YG) (H:Hp) (Q:VK) (E:XK):Prop
 | mk (pl most ja jn) (_:vs=[.ref pl]) (_:GF H pl most ja jn) (_:∀H',Same H H'->Q (.bl true) H'):Qy vs H Q E
theorem aU {α β γ : Type} {h:α->List β} {φ : γ->β} {g:Nat->α->List γ} (l:List α) (hg:∀i x,l[i]?=some x->(g i x).map φ=h x):∀n,n<=l.length->(up (λi=>ifs l[i]? (g i)) n).map φ=(l.take n).flatMap h
 | 0,_=>by rw[NZ];simp
 | n+1,hn=>by
  have hi:l[n]?=some l[n]:=Qan (by omega);rw[DN,QbJ,aU l hg n (by omega),QcF hi,QaP,CQ hi,hg n _ hi];simp
theorem U4 (lp a:Int):∀(n:Nat) (ds:List Dev),(DQ lp a n ds).map (·.addr)=ds.map (·.addr)
 | _,[]=>rfl
 | n,d::r=>by
  show d.addr::(DQ lp a (n+1) r).map (·.addr)=d.addr::r.map (·.addr);rw[U4]
theorem cI (lp a:Int) (p:Place):(BR lp a p).map (·.addr)=adP p:=by
 unfold BR adP;split
 ·rfl
 ·rw[Qce,U4]
theorem Ho (ja:YU):(up (pdL ja) ja.length).map (·.addr)=Cg ja:=by
 have:=aU (φ:=Sd.addr) (h:=adL) (g:=λk ps=>up (pd1 (k:Int) ps) ps.length) ja (λk ps _=>by
  have:=aU (φ:=Sd.addr) (h:=adP) (g:=λi p=>BR (k:Int) ((1+i:Nat):Int) p) ps (λi p _=>cI _ _ p) ps.length (Qcv _);rw[Qby] at this;exact this) ja.length (Qcv _)
 rw[Qby] at this;exact this
theorem aQ {ja:YU} (h:Dj ja) {x:Int} (hx:x∈Fy ja):x∈Cg ja:=by
 obtain⟨ps,hps,hx⟩:=QbG.mp hx;obtain⟨p,hp,hx⟩:=QbG.mp hx;refine QbG.mpr ⟨ps,hps,QbG.mpr ⟨p,hp,?_⟩⟩;obtain⟨d,hd,rfl⟩:=Qcl.mp hx;obtain⟨hd,hw⟩:=QbQ.mp hd;rcases ((h.ok ps hps).ok p hp).form with⟨e1,e2,e3⟩| hk
 ·have:d=⟨p.kind,p.addr⟩:=by
   unfold Gn at hd;rw[e3] at hd;simpa using hd
  rw[this] at hw;have hw:Fv p.kind=true:=hw;rw[e1] at hw;exact absurd hw (by trivial)
 ·unfold adP;rw[if_neg (N8 hk)];unfold Gn at hd;rcases Qcd.mp hd with rfl | hd
  ·exact QaW ..
  ·exact QaJ _ (Qcl.mpr ⟨d,hd,rq⟩)
theorem mG (C:Code K mg "is_name" Sx M4) (T:Ty K mg op oe kd wk):⋯ "is_name" 1 M4 X6:=by
 exists C,lQ
 obtain⟨z,rfl,h1,h8,oz,q⟩:=h;refine⟨_,(Ae (Ce (Dp (Cz (Aw Rv rfl T.isinstance Bs (Aa (pv 0) (Aa (QB (v:=.ty "str") rfl T.str EZ rfl) Ac))))) (Ag (Az DY)) Bt)
 (Ag (Az (EY (Ov Mp Mp Af (Aw fQ rfl T.len CJ (Aa (pv 0) Ac)) Af) (El (Aw (Jl rfl) rfl T.all Nh (Aa (Cw (N':=["sign"]) rfl nofun (pU (pv 0)) (~~~(Ai (i:=0) (show List.Nodup (["sign"]:YF) by trivial) rfl (Or.inl rfl))) (λ_ _ _ _=>CT) (~~~(G4 qd (pv 0) (SX rfl T.SMALL_LETTERS) (by with_unfolding_all rfl)))) Ac))))))),?_⟩
 show let R0:TS:=_;Ao _ R0 _ _ _;intro R0;refine⟨_,rq,AW ⟨_,rq,BK ⟨_,rq,z,rq,Av (by show z.length<=1000;omega),_,_,rq,rq,_,rq,?_⟩⟩⟩;have g1:decide ((1:Int)<=(z.length:Int))=true:=QbX (by omega);rw[g1];refine BL ⟨_,_,rq,rq,_,rq,?_⟩;have g2:decide ((z.length:Int)<=8)=true:=QbX (by omega);rw[g2];refine BL ⟨_,rq,z,rq,λl hl'=>?_⟩;let J2:YN:=λi U HH=>∃u,U=[u]/\HH l=some (.lst ((List.replicate i true).map V.bl))/\Same H HH;refine fH J2 ⟨_,rq,Ab,Ad hl' _⟩ (λi c U HH hc h=>?_) (fun U HH h=>?_)
 ·obtain⟨u,rfl,e1,e2⟩:=h;have hi:i < z.cps.size:=(Qaf.mp hc).1;have hz:z.cps.size<=8:=h8;unfold FN;dsimp only;refine BL ⟨_,rq,_,_,rq,rq,_,e1,Ar (by simp;omega),_,rq,?_,e2.Bp Ah.upd hl'⟩;rw[Ab,BA c (oz c (Array.mem_toList_iff.mpr (Array.mem_of_getElem? hc))),List.replicate_succ',QbJ];rfl
 ·obtain⟨u,rfl,e1,e2⟩:=h;refine⟨l,List.replicate z.cps.size true,rq,SqL.of e1,?_⟩;rw[V3];exact q _ e2
abbrev xz:YF:=["one","other"]
theorem cU (C:Code K mg "is_rising" Qa JD) (T:Ty K mg op oe kd wk):⋯ "is_rising" 1 JD bF:=by
 exists C,bT
 obtain⟨a,ns,rfl,ha,hp,h100,q⟩:=h;refine⟨_,(Ag (Az (Aw (Jl rfl) rfl T.all Nh (Aa (Cw (N':=xz) rfl nofun (vH rfl T.zip (Aa (pv 0) (Aa (Je Yc (pv 0) (Kr Af) Ks) Ac))) (~~~(FW (K:=K) (n:=2) rfl rfl (Ak (0∩xz) (Ak (1∩xz) Bo)))) (λ_ _ _ _=>CT) (~~~(G4 WD (pv 0) (pv 1) (Bv _)))) Ac)))),?_⟩;refine⟨_,rq,_,rq,_,rq,a,_,rq,ha,λb H1 hb s1=>?_⟩;have ha1:=s1 _ _ ha;refine⟨a,b,rq,⟨_,ha1⟩,⟨_,hb⟩,λl hl=>?_⟩;have hlen:(ns.map V.int).length=ns.length:=QbH ..;have ec:Hu (ns.map V.int) (some (1:Int)) none=(ns.map V.int).drop 1:=by
  by_cases h0:1<=(ns.map V.int).length
  ·exact V0 (k:=1) h0
  ·have:ns.map V.int=[]:=List.length_eq_zero_iff.mp (by omega);rw[this];rfl
 rw[ec] at hb;refine oh (xs:=ns.map V.int) (ys:=(ns.map V.int).drop 1) (ns.length - 1) (by omega) (by rw[QbD];omega) (.inr (by rw[QbD];omega)) (λi U HH=>∃u1 u2,U=[u1,u2]/\HH l=some (.lst ((List.replicate i true).map V.bl))/\Same H1 HH) ⟨_,_,rq,Ab,Ad hl _⟩ (λi U HH _ h=>?_) (λi x y p U HH hx hy h hpn=>?_) (fun U HH h=>?_)
 ·obtain⟨u1,u2,rfl,e1,e2⟩:=h;exact⟨e2 _ _ ha1,e2 _ _ hb⟩
 ·obtain⟨u1,u2,rfl,e1,e2⟩:=h;rw[List.getElem?_drop] at hy;rw[Qbm] at hx hy;obtain⟨n1,hn1,rfl⟩:=QaA.mp hx;obtain⟨n2,hn2,rfl⟩:=QaA.mp hy;obtain⟨i1,g1⟩:=Qai.mp hn1;obtain⟨i2,g2⟩:=Qai.mp hn2;have lt:n1 < n2:=by
   rw[<-g1,<-g2];exact Qam.mp hp i (1+i) i1 i2 (by omega)
  have s2:=Ad hpn (.tup [.int n1,.int n2]);refine⟨p,_,rq,SqT.of Ab,rq,_,_,rq,_,_,rq,rq,?_⟩;refine BL ⟨_,rq,_,rq,_,_,rq,rq,_,s2 _ _ e1,Ar (by simp;omega),_,_,rq,?_,(e2.trans s2).Bp Ah.upd hl⟩;rw[Ab];show some (HO.lst (_++[V.bl (decide (n1 < n2))]))=_;rw[QbX lt,List.replicate_succ',QbJ];rfl
 ·obtain⟨u1,u2,rfl,e1,e2⟩:=h;refine⟨l,List.replicate (ns.length - 1) true,rq,SqL.of e1,?_⟩;rw[V3];exact q _ (s1.trans e2)
theorem Z6 (C:Code K mg "are_rising_within" Gm Em) (T:Ty K mg op oe kd wk) (Cu:⋯ "is_row" 1 Dz GK) (Ew:⋯ "is_within" 2 Et JT) (iC:⋯ "is_rising" 1 JD bF):⋯ "are_rising_within" 3 Em (RZ bD bG):=by
 refine C.good Q7 (λvs H Q E h=>?_) (λ_ _ _ _ _ H vs Q E hr h=>?_)
 ·rcases h with⟨a,ns,lo,hi,l,h,rfl,_⟩|⟨a,rfl,_⟩ <;> rfl
 refine⟨_,(Ae (Ce (Dp (Cz (CW Cu hr (Aa (pv 0) (Aa (pv 1) (Aa (pv 2) Ac)))))) (Ag (Az DY)) Bt)
 (Ag (Az (EY (Aw (Jl rfl) rfl T.all Nh (Aa (Cw (N':=["part","low","high"]) rfl ([none,some 3,some 4]|||(Aj Gm)|||Em) (Ga (pv 0)) (~~~(Ai (i:=0) (show List.Nodup (["part","low","high"]:YF) by trivial) rfl (Or.inl rfl))) (λ_ _ _ _=>CT) (~~~(CW Ew hr (Aa (pv 0) (Aa (pv 1) (Aa (pv 2) Ac)))))) Ac)) (El (BJ iC hr (Aa (pv 0) Ac))))))),?_⟩
 show let R0:TS:=_;Ao _ R0 _ _ _;intro R0;rcases h with⟨a,ns,lo,hi,l,h,rfl,ha,hp,h100,h1,h2,h3,q⟩|⟨a,rfl,ha,q⟩;rotate_left 1
 ·refine⟨_,rq,_,rq,_,rq,.ref a,1,30,rq,Fx ha,_,rq,?_⟩;rw[Cd ha,Ds (by show (1:Int)<=1;decide) (by show (1:Int)<=30;decide)];refine BK ⟨_,rq,a,rq,⟨_,SqT.of ha⟩,λl2 hl2=>?_⟩;refine jX (r:=[some (.int 1),some (.int 99)]) [false] rfl hl2 ha (by decide) (λi x b HH hx hb s1 R hR=>?_) (λH' e s1=>?_)
  ·match i,hx,hb with
   | 0,hx,hb=>
    cases hx;cases hb;exact⟨_,rq,_,rq,_,rq,100,1,99,rq,hR _ (Same.refl _)⟩
   | n+1,hx,_=>cases hx
  ·exact⟨l2,[false],rq,SqL.of e,_,rq,BK (q _ s1)⟩
 have hlen:(ns.map V.int).length=ns.length:=QbH ..;refine⟨_,rq,_,rq,_,rq,.ref a,lo,hi,rq,Fx ha,_,rq,?_⟩;rw[Cd ha,Ds (by rw[hlen];exact h1) (by rw[hlen];exact h2)];refine BK ⟨_,rq,a,rq,⟨_,SqT.of ha⟩,λl2 hl2=>?_⟩;refine Ng (r:=[some (.int l),some (.int h)]) hl2 ha (by omega) (λi x HH hx s1 R hR=>?_) (λH' e s1=>?_)
 ·rw[Qbm] at hx;obtain⟨n1,hn1,rfl⟩:=QaA.mp hx;refine⟨_,rq,_,rq,_,rq,n1,l,h,rq,?_⟩;rw[QbX (h3 n1 (QaI hn1))];exact hR _ (Same.refl _)
 ·refine⟨l2,List.replicate (ns.map V.int).length true,rq,SqL.of e,_,rq,?_⟩;rw[V3];exact BL ⟨_,rq,a,ns,rq,s1 _ _ ha,hp,h100,λH2 s2=>q _ (s1.trans s2)⟩
theorem cW (C:Code K mg "is_device" Qc Ih) (T:Ty K mg op oe kd wk) (Ew:⋯ "is_within" 2 Et JT):⋯ "is_device" 3 Ih Wh:=by
 exists C,bU
 obtain⟨k,x,rfl,hk,h1,h2,q⟩:=h;refine⟨_,(Ag (Az (EY (G4 S6 (pv 0) (SX rfl T.KINDS) (by with_unfolding_all rfl)) (El (CW Ew hr (Aa (pv 1) (Aa Af (Aa Af Ac)))))))),?_⟩;refine⟨_,rq,kd,_,rq,.inr (T.kdT H),rq,rq,_,rq,?_⟩;rw[if_neg QaZ,AU hk];refine BL ⟨_,rq,x,1,99,rq,?_⟩;rw[QbX ⟨h1,h2⟩];exact q
theorem Uy (C:Code K mg "is_spur_device" JV Gd) (T:Ty K mg op oe kd wk) (Cu:⋯ "is_row" 1 Dz GK) (Qp:⋯ "is_device" 3 Ih Wh):⋯ "is_spur_device" 4 Gd Ve:=by
 exists C,Uw
 obtain⟨v,d,rfl,⟨t,rfl,ht⟩,hk,h1,h2,q⟩:=h;refine⟨_,(Ag (Az (EY (CW Cu hr (Aa (pv 0) (Aa Af (Aa Af Ac)))) (El (BP Qp hr (Aa (Bj Bw (pv 0) Af (λ_ _=>rfl)) (Aa (Bj Bw (pv 0) Af (λ_ _=>rfl)) Ac))))))),?_⟩;refine⟨_,rq,.ref t,2,2,rq,Fx ht,_,rq,?_⟩;rw[Cd ht,Ds (by show (2:Int)<=2;decide) (by show (2:Int)<=2;decide)];exact BL ⟨_,rq,t,_,_,_,rq,rq,SqT.of ht,rq,_,rq,t,_,_,_,rq,rq,SqT.of ht,rq,d.kind,d.addr,rq,hk,h1,h2,q⟩
theorem mD (C:Code K mg "is_spur" Sw MP) (T:Ty K mg op oe kd wk) (Cu:⋯ "is_row" 1 Dz GK) (VH:⋯ "is_spur_device" 4 Gd Ve):⋯ "is_spur" 5 MP XR:=by
 exists C,lO
 obtain⟨u,ws,ds,rfl,hu,hd,h3,hk,q⟩:=h;have lw:=Qcc hd;refine⟨_,(Ag (Az (EY (CW Cu hr (Aa (pv 0) (Aa Af (Aa Af Ac)))) (El (Aw (Jl rfl) rfl T.all Nh (Aa (Cw (N':=xh) rfl nofun (Ga (pv 0)) (~~~(0∩xh)) (λ_ _ _ _=>CT) (~~~(BJ VH hr (Aa (pv 0) Ac)))) Ac)))))),?_⟩;refine⟨_,rq,.ref u,0,3,rq,Fx hu,_,rq,?_⟩;rw[Cd hu,Ds (by omega) (by omega)];refine BL ⟨_,rq,u,rq,⟨_,SqT.of hu⟩,λl2 hl2=>?_⟩;refine Ng (r:=[]) hl2 hu (by omega) (λi x HH hx s1 R hR=>?_) (λH' e s1=>?_)
 ·obtain⟨d,hdi,had⟩:=Paired.Ck hd hx;have:=hk d (QaI hdi);exact⟨_,rq,x,d,rq,had.tups (Al.of s1),this.1,this.2.1,this.2.2,hR _ (Same.refl _)⟩
 ·refine⟨l2,List.replicate ws.length true,rq,SqL.of e,?_⟩;rw[V3];exact q _ s1
theorem gY (C:Code K mg "is_place" Ra K1) (T:Ty K mg op oe kd wk) (Cu:⋯ "is_row" 1 Dz GK) (Ew:⋯ "is_within" 2 Et JT) (Qp:⋯ "is_device" 3 Ih Wh) (rD:⋯ "is_spur" 5 MP XR):⋯ "is_place" 6 K1 Vf:=by
 have sc:=Jy;exists C,Jy
 obtain⟨v,p,rfl,⟨t,u,ws,rfl,ht,hu,hd⟩,⟨ok,bd⟩,q⟩:=h;have lw:=Qcc hd;have h3:=ok.spur;refine⟨_,(Ae (Ce (Dp (Cz (CW Cu hr (Aa (pv 0) (Aa Af (Aa Af Ac)))))) (Ag (Az DY)) Bt)
 (Ae (GZ (pv 0) (CK rfl (Ak (1∣Jy) (Ak (2∣Jy) (Ak (3∣Jy) Bo)))))
 (Ae (Ce (Br Js (pv 1) Bd (Bv _)) (Ag (Az (EY (CW Ew hr (Aa (pv 2) (Aa Af (Aa Af Ac)))) (El (CW Cu hr (Aa (pv 3) (Aa Af (Aa Af Ac)))))))) Bt)
 (Ag (Az (EY (BP Qp hr (Aa (pv 1) (Aa (pv 2) Ac))) (El (BJ rD hr (Aa (pv 3) Ac))))))))),?_⟩
 show let R0:TS:=_;let R1:TS:=_;let R2:TS:=Ao (Hr _ R1 _) R0;let R3:TS:=Ao _ R2;Ao _ R3 _ _ _;intro R0 R1 R2 R3;refine⟨_,rq,.ref t,3,3,rq,Fx ht,_,rq,?_⟩;rw[Cd ht,Ds (by show (3:Int)<=3;decide) (by show (3:Int)<=3;decide)];refine BK ⟨_,rq,t,_,rq,SqT.of ht,rq,_,_,rq,_,_,rq,_,_,rq,rq,?_⟩;refine⟨_,rq,rq,_,rq,?_⟩;rcases ok.form with⟨e1,e2,e3⟩| hk
 ·rw[show decide (V.str p.kind=V.str "opener")=true by rw[e1];rfl];have lw0:ws.length=0:=by rw[lw,e3];rfl
  refine BL ⟨_,rq,p.addr,0,0,rq,_,rq,?_⟩;rw[show decide ((0:Int)<=p.addr/\p.addr<=0)=true by rw[e2];rfl];refine BL ⟨_,rq,.ref u,0,0,rq,Fx hu,?_⟩;rw[Cd hu,Ds (by omega) (by omega)];exact q _ (Same.refl _)
 ·have ea:adP p=p.addr::p.spur.map (·.addr):=if_neg (N8 hk);rw[ea] at bd;rw[QbL (N8 hk)];have b0:=bd p.addr (QaW ..);refine BK ⟨_,rq,_,rq,p.kind,p.addr,rq,hk,b0.1,b0.2,_,rq,?_⟩;exact BL ⟨_,rq,u,ws,p.spur,rq,hu,hd,h3,λd hdm=>⟨ok.kinds d hdm,bd d.addr (QaJ _ (Qcl.mpr ⟨d,hdm,rq⟩))⟩,q⟩
theorem mH (C:Code K mg "is_loop" Sy M5) (T:Ty K mg op oe kd wk) (Cu:⋯ "is_row" 1 Dz GK) (nQ:⋯ "is_place" 6 K1 Vf):⋯ "is_loop" 7 M5 X7:=by
 exists C,lR
 obtain⟨v,ps,rfl,⟨t,ws,rfl,ht,hd⟩,ok,bd,q⟩:=h;have lw:=Qcc hd;have l1:=ok.lo;have l2:=ok.hi;refine⟨_,(Ag (Az (EY (CW Cu hr (Aa (pv 0) (Aa Af (Aa Af Ac)))) (El (Aw (Jl rfl) rfl T.all Nh (Aa (Cw (N':=xh) rfl nofun (Ga (pv 0)) (~~~(0∩xh)) (λ_ _ _ _=>CT) (~~~(BJ nQ hr (Aa (pv 0) Ac)))) Ac)))))),?_⟩;refine⟨_,rq,.ref t,1,12,rq,Fx ht,_,rq,?_⟩;rw[Cd ht,Ds (by omega) (by omega)];refine BL ⟨_,rq,t,rq,⟨_,SqT.of ht⟩,λl2 hl2=>?_⟩;refine Ng (r:=[]) hl2 ht (by omega) (λi x HH hx s1 R hR=>?_) (λH' e s1=>?_)
 ·obtain⟨p,hpi,hap⟩:=Paired.Ck hd hx;have hm:=QaI hpi;exact⟨_,rq,x,p,rq,hap.tups (Al.of s1),⟨ok.ok p hm,λy hy=>bd y (QbG.mpr ⟨p,hm,hy⟩)⟩,λH2 s2=>hR _ s2⟩
 ·refine⟨l2,List.replicate ws.length true,rq,SqL.of e,?_⟩;rw[V3];exact q _ s1
theorem cZ (C:Code K mg "are_loops" Qe Ik) (T:Ty K mg op oe kd wk) (Cu:⋯ "is_row" 1 Dz GK) (rF:⋯ "is_loop" 7 M5 X7):⋯ "are_loops" 8 Ik (RZ Q0 Vi):=by
 refine C.good bY (λvs H Q E h=>?_) (λ_ _ _ _ _ H vs Q E hr h=>?_)
 ·rcases h with⟨Ls,ws,ja,rfl,_⟩|⟨Ls,ws,rfl,_⟩ <;> rfl
 refine⟨_,(Ag (Az (EY (CW Cu hr (Aa (pv 0) (Aa Af (Aa Af Ac)))) (El (Aw (Jl rfl) rfl T.all Nh (Aa (Cw (N':=xh) rfl nofun (Ga (pv 0)) (~~~(0∩xh)) (λ_ _ _ _=>CT) (~~~(BJ rF hr (Aa (pv 0) Ac)))) Ac)))))),?_⟩;rcases h with⟨t,ws,ja,rfl,ht,hd,ok,bd,l1,l2,q⟩|⟨t,ws,rfl,ht,hn,q⟩;rotate_left 1
 ·refine⟨_,rq,.ref t,1,3,rq,Fx ht,_,rq,?_⟩;rw[Cd ht,Yl (by omega)];exact BK q
 have lw:=Qcc hd;refine⟨_,rq,.ref t,1,3,rq,Fx ht,_,rq,?_⟩;rw[Cd ht,Ds (by omega) (by omega)];refine BL ⟨_,rq,t,rq,⟨_,SqT.of ht⟩,λl2 hl2=>?_⟩;refine Ng (r:=[]) hl2 ht (by omega) (λi x HH hx s1 R hR=>?_) (λH' e s1=>?_)
 ·obtain⟨p,hpi,hap⟩:=Paired.Ck hd hx;have hm:=QaI hpi;exact⟨_,rq,x,p,rq,hap.tups (Al.of s1),ok p hm,λy hy=>bd y (QbG.mpr ⟨p,hm,hy⟩),λH2 s2=>hR _ s2⟩
 ·refine⟨l2,List.replicate ws.length true,rq,SqL.of e,?_⟩;rw[V3];exact q _ s1
theorem mC (C:Code K mg "is_zone" Sv MN) (T:Ty K mg op oe kd wk) (Cu:⋯ "is_row" 1 Dz GK) (rE:⋯ "is_name" 1 M4 X6) (RK:⋯ "are_rising_within" 3 Em (RZ bD bG)):⋯ "is_zone" 4 MN (RZ XH XJ):=by
 refine C.good lN (λvs H Q E h=>?_) (λ_ _ _ _ _ H vs Q E hr h=>?_)
 ·rcases h with⟨v,z,rfl,_⟩|⟨t,rfl,_⟩ <;> rfl
 refine⟨_,(Ag (Az (EY (CW Cu hr (Aa (pv 0) (Aa Af (Aa Af Ac)))) (EY (BJ rE hr (Aa (Bj Bw (pv 0) Af (λ_ _=>rfl)) Ac)) (El (pX RK hr (@Aa _ _ _ _ _ (Bj Bw (pv 0) Af (λ_ _=>rfl)) (0&&&(0&&&(0&&&(0&&&(@Ac _) Bg) Bg) Bg) Bg) B9))))))),?_⟩;rcases h with⟨v,z,rfl,⟨t,u,rfl,ht,hu⟩,ok,q⟩|⟨t,rfl,⟨u,ht,hu⟩,q⟩;rotate_left 1
 ·refine⟨_,rq,.ref t,2,2,rq,Fx ht,_,rq,?_⟩;rw[Cd ht,Ds (by show (2:Int)<=2;decide) (by show (2:Int)<=2;decide)];refine BL ⟨_,rq,t,_,_,_,rq,rq,SqT.of ht,rq,"q",rq,by trivial,by trivial,(λc hc=>by
   have e:("q":Str).cps.toList=("q":Str).cps.toList:=rfl;revert hc c
   decide +kernel),λH1 s1=>⟨_,rq,BL ?_⟩⟩
  exact⟨_,rq,t,_,_,_,rq,rq,SqT.of (s1 _ _ ht),rq,.inr ⟨u,rq,s1 _ _ hu,λH2 s2=>q _ (s1.trans s2)⟩⟩
 refine⟨_,rq,.ref t,2,2,rq,Fx ht,_,rq,?_⟩;rw[Cd ht,Ds (by show (2:Int)<=2;decide) (by show (2:Int)<=2;decide)];refine BL ⟨_,rq,t,_,_,_,rq,rq,SqT.of ht,rq,z.name,rq,ok.nm.1.1,ok.nm.1.2,ok.nm.2,λH1 s1=>⟨_,rq,BL ?_⟩⟩;have u1:=ok.up.2.1;have u2:=ok.up.2.2;exact⟨_,rq,t,_,_,_,rq,rq,SqT.of (s1 _ _ ht),rq,.inl ⟨u,z.adr,1,30,1,99,rq,s1 _ _ hu,ok.up.1,by omega,by omega,by omega,ok.bd,λH2 s2=>q _ (s1.trans s2)⟩⟩
abbrev Iu:Stmt:=top 43
abbrev Dt:YF:=Fb
theorem BW:Ay ["plan","seen","spot","kind","address"] Dt (Aj Iu):=by ac_rfl
abbrev Le:Stmt:=top 44
abbrev G5:YF:=Fb
theorem Gu:Ay ["plan","loop","number","spots"] G5 (Aj Le):=by ac_rfl
abbrev Jc:Stmt:=top 45
abbrev Fd:YF:=Fb
theorem Du:Ay ["plan","warners","name","addresses","address"] Fd (Aj Jc):=by ac_rfl
abbrev JX:Stmt:=top 46
abbrev Gf:YF:=Fb
theorem Ef:Ay ["plan","seen","name","addresses","address"] Gf (Aj JX):=by ac_rfl
abbrev T5:Stmt:=top 47
abbrev Ku:YF:=Fb
theorem bQ:Ay Fb Ku (Aj T5):=by ac_rfl
abbrev Mi:Stmt:=top 48
abbrev FT:YF:=Gx
theorem Sq:Ay Gx FT (Aj Mi):=by ac_rfl
inductive Ja (vs:YG) (H:Hp) (Q:VK) (E:XK):Prop
 | mk (pl most ja jn) (_:vs=[.ref pl]) (_:GF H pl most ja jn) (_:∀H',Same H H'->Q .non H'):Ja vs H Q E
def Gy {α : Type} (f:α->Key) (xs:List α):YM:=xs.map λx=>(f x,V.bl true)
theorem Px {α : Type} {f:α->Key} {k:Key}:∀{xs:List α},(∀x∈xs,f x≠k)->Dv (Gy f xs) k=none
 | [],_=>rfl
 | x::r,h=>by
  have:Gy f (x::r)=(f x,V.bl true)::Gy f r:=rfl;rw[this,GC (p:=(f x,V.bl true)) (h x (QaW ..))];exact Px λy hy=>h y (QaJ _ hy)
theorem Ky {α : Type} (f:α->Key) (xs:List α):(Gy f xs).length=xs.length:=QbH ..
theorem Nb {α : Type} {f:α->Key} {xs:List α} {x:α} (h:∀y∈xs,f y≠f x):putK (Gy f xs) (f x) (.bl true)=Gy f (xs++[x]):=by
 rw[Ol _ (Px h)];unfold Gy;rw[QbJ];rfl
theorem Ud {α : Type} {l:List α} (h:l.Nodup) {i:Nat} {x:α} (hx:l[i]?=some x):∀y∈l.take i,y≠x:=λy hy e=>by
 subst e;obtain⟨j,hj⟩:=QaL hy;rw[List.getElem?_take] at hj;split at hj
 ·rename_i hji;obtain⟨h1,e1⟩:=Qai.mp hj;obtain⟨h2,e2⟩:=Qai.mp hx;have:=Qam.mp h j i h1 h2 hji;exact this (by rw[e1,e2])
 ·cases hj
theorem JK {α β : Type} {f:α->β} {l:List α} (h:(l.map f).Nodup) {i:Nat} {x:α} (hx:l[i]?=some x):∀y∈l.take i,f y≠f x:=λy hy e=>by
 have:=Ud h (i:=i) (x:=f x) (by rw[Qbm,hx];rfl) (f y) (by rw[<-List.map_take];exact Qcl.mpr ⟨y,hy,rq⟩);exact this e
theorem jh {lp:Int} {ps:List Place}:∀i,i<=ps.length->(stP lp ps i).1.map (λz=>(z.length:Int))=(pst (ps.take i)).1/\((stP lp ps i).2.length:Int)=(pst (ps.take i)).2
 | 0,_=>⟨rfl,rfl⟩
 | i+1,h=>by
  have hi:ps[i]?=some ps[i]:=Qan (by omega);obtain⟨h1,h2⟩:=jh (lp:=lp) (ps:=ps) i (by omega);rw[QcF hi,cF];unfold ptS;by_cases k:V.str ps[i].kind=V.str "opener"
  ·rw[Wc hi k,if_pos k];refine⟨?_,rq⟩;rw[QbJ,h1,<-h2];rfl
  ·rw[TV hi k,if_neg k];refine⟨h1,?_⟩;show (((stP lp ps i).2++(BR lp ((1+i:Nat):Int) ps[i]).map Sd.spot).length:Int)=_;rw[QaV,QbH,<-h2];have:(BR lp ((1+i:Nat):Int) ps[i]).length=1+ps[i].spur.length:=by
    unfold BR;rw[if_neg k,Qbz,Nv];omega
   rw[this];push_cast;omega
theorem vN {lp:Int} {ps:List Place}:∀z∈(stP lp ps ps.length).1++[(stP lp ps ps.length).2],(z.length:Int)∈Iz ps:=λz hz=>by
 obtain⟨h1,h2⟩:=jh (lp:=lp) (ps:=ps) ps.length (Qcv _);rw[Qby] at h1 h2;unfold Iz;rw[<-h1,<-h2];rcases QbI.mp hz with h | h
 ·exact QaK _ (Qcl.mpr ⟨z,h,rq⟩)
 ·have:z=(stP lp ps ps.length).2:=by simpa using h
  rw[this];exact QaD _ (Qbc.mpr rfl)
theorem yp {jn:List Zone} (h:∀z∈jn,z.adr.length<=30):(jn.flatMap (·.adr)).length<=30*jn.length:=by
 induction jn with
 | nil=>exact Qcv _
 | cons a r ih=>
  have h1:=ih λz hz=>h z (QaJ _ hz);have h2:=h a (QaW ..);rw[Qbp,QaV,Qbz];omega
theorem yj {a b:List Zone} (h:a.Sublist b):(a.flatMap (·.adr)).Sublist (b.flatMap (·.adr)):=by
 induction h with
 | slnil=>exact .slnil
 | cons x _ ih=>rw[Qbp];exact List.Sublist.trans ih (List.sublist_append_right _ _)
 | cons_cons x _ ih=>rw[Qbp,Qbp];exact List.Sublist.append_left ih _
theorem Zm (lp a:Int):∀(n:Nat) (ds:List Dev) (d:Dev),d∈ds->∃z∈DQ lp a n ds,z.kind=d.kind/\z.addr=d.addr
 | _,[],d,h=>by cases h
 | n,x::r,d,h=>by
  rcases Qcd.mp h with rfl | h
  ·exact⟨_,QaW ..,rq,rq⟩
  ·obtain⟨z,h1,h2⟩:=Zm lp a (n+1) r d h;exact⟨z,QaJ _ h1,h2⟩
theorem TJ {α : Type} {f:Nat->List α} {x:α} {i:Nat} (h:x∈f i):∀{n:Nat},i < n->x∈up f n
 | 0,hn=>by omega
 | n+1,hn=>by
  rw[DN];by_cases e:i=n
  ·subst e;exact QaD _ h
  ·exact QaK _ (TJ h (by omega))
theorem zP {ja:YU} (h:Dj ja) {x:Int} (hx:x∈Fy ja):∃z∈(up (pdL ja) ja.length).filter (λz=>Fv z.kind),z.addr=x:=by
 obtain⟨ps,hps,hx⟩:=QbG.mp hx;obtain⟨p,hp,hx⟩:=QbG.mp hx;obtain⟨d,hd,rfl⟩:=Qcl.mp hx;obtain⟨hd,hw⟩:=QbQ.mp hd;obtain⟨k,hk⟩:=QaL hps;obtain⟨i,hi⟩:=QaL hp;have hkl:=(Qai.mp hk).1;have hil:=(Qai.mp hi).1;have hop:¬V.str p.kind=V.str "opener":=by
  rcases ((h.ok ps hps).ok p hp).form with⟨e1,e2,e3⟩| hk
  ·have:d=⟨p.kind,p.addr⟩:=by
    unfold Gn at hd;rw[e3] at hd;simpa using hd
   rw[this] at hw;have hw:Fv p.kind=true:=hw;rw[e1] at hw;exact absurd hw (by trivial)
  ·exact N8 hk
 have key:∃z∈BR (k:Int) ((1+i:Nat):Int) p,z.kind=d.kind/\z.addr=d.addr:=by
  unfold BR;rw[if_neg hop];unfold Gn at hd;rcases Qcd.mp hd with rfl | hd
  ·exact⟨_,QaW ..,rq,rq⟩
  ·obtain⟨z,h1,h2⟩:=Zm (k:Int) ((1+i:Nat):Int) 1 p.spur d hd;exact⟨z,QaJ _ h1,h2⟩
 obtain⟨z,hz,e1,e2⟩:=key;refine⟨z,QbQ.mpr ⟨TJ (i:=k) ?_ hkl,by show Fv z.kind=true;rw[e1];exact hw⟩,e2⟩;unfold pdL;rw[CQ hk];refine TJ (i:=i) ?_ hil;unfold pd1;rw[CQ hi];exact hz
abbrev xA:YF:=["name","addresses"]
theorem cY (C:Code K mg "are_zones" Qd Ij) (T:Ty K mg op oe kd wk) (Cu:⋯ "is_row" 1 Dz GK) (rC:⋯ "is_zone" 4 MN (RZ XH XJ)):⋯ "are_zones" 5 Ij (RZ QZ Vd):=by
 refine C.good bW (λvs H Q E h=>?_) (λ_ _ _ _ _ H vs Q E hr h=>?_)
 ·rcases h with⟨zs,ws,jn,rfl,_⟩|⟨zs,ws,jn,tz,rfl,_⟩ <;> rfl
 refine⟨_,(Ae (Ce (PW.pt (Jr (Dp (Cz (CW Cu hr (Aa (pv 0) (Aa Af (Aa Af Ac)))))) (Jz (Dp (Cz (Aw (Jl rfl) rfl T.all Nh (Aa (Cw (N':=xh) rfl nofun (Ga (pv 0)) (~~~(0∩xh)) (λ_ _ _ _=>CT) (~~~(BJ rC hr (Aa (pv 0) Ac)))) Ac))))))) (Ag (Az DY)) Bt)
 (Ag (Az (G4 Js (Aw tD rfl T.len CJ (Aa (vL (N':=xA) rfl nofun (Ga (pv 0)) (~~~(FW (K:=K) (n:=2) rfl rfl (Ak (0∩xA) (Ak (1∩xA) Bo)))) (λ_ _ _ _=>CT) (~~~(pv 0)) (λ_ _ _ _=>DY)) Ac)) (Aw Bh rfl T.len CJ (Aa (pv 0) Ac)) (Bv _))))),?_⟩
 show let R0:TS:=_;Ao _ R0 _ _ _;intro R0;rcases h with⟨t,ws,jn,rfl,ht,hd,ok,l8,nd,q⟩|⟨t,ws,jn,tz,rfl,ht,hd,ok,l7,bz,q⟩;rotate_left 1
 ·have lw:=Qcc hd;have ll:(ws++[V.ref tz]).length=ws.length+1:=by rw[QaV];rfl
  refine⟨_,rq,.ref t,0,8,rq,Fx ht,_,rq,?_⟩;by_cases h9:ws.length=8
  ·rw[Cd ht,Yl (by omega)];exact BL (BL (q _ (Same.refl _)))
  rw[Cd ht,Ds (by omega) (by omega)];refine BK ⟨_,rq,t,rq,⟨_,SqT.of ht⟩,λl2 hl2=>?_⟩;refine jX (r:=[]) (List.replicate ws.length true++[false]) (by simp) hl2 ht (by omega) (λi x b HH hx hb s1 R hR=>?_) (λH' e s1=>?_)
  ·by_cases hi:i < ws.length
   ·rw[Qak hi] at hx;rw[Qak (by rw[QaG];exact hi),List.getElem?_replicate,if_pos hi] at hb;cases hb;obtain⟨z,hzi,haz⟩:=Paired.Ck hd hx;exact⟨_,rq,.inl ⟨x,z,rq,haz.tups (Al.of s1),ok z (QaI hzi),λH2 s2=>hR _ s2⟩⟩
   ·have h2:=(Qai.mp hx).1;have e:i=ws.length:=by omega
    subst e;rw[Qag (Qcv _),Nat.sub_self] at hx;rw[Qag (by rw[QaG];exact Qcv _),QaG,Nat.sub_self] at hb;cases hx;cases hb;exact⟨_,rq,.inr ⟨tz,rq,bz.tups (Al.of s1),λH2 s2=>hR _ s2⟩⟩
  ·refine⟨l2,List.replicate ws.length true++[false],rq,SqL.of e,_,rq,?_⟩;rw[show (List.replicate ws.length true++[false]).all id=false by simp];exact BL (q _ s1)
 have lw:=Qcc hd;refine⟨_,rq,.ref t,0,8,rq,Fx ht,_,rq,?_⟩;rw[Cd ht,Ds (by omega) (by omega)];refine BK ⟨_,rq,t,rq,⟨_,SqT.of ht⟩,λl2 hl2=>?_⟩;refine Ng (r:=[]) hl2 ht (by omega) (λi x HH hx s1 R hR=>?_) (λH' e s1=>?_)
 ·obtain⟨z,hzi,haz⟩:=Paired.Ck hd hx;exact⟨_,rq,.inl ⟨x,z,rq,haz.tups (Al.of s1),ok z (QaI hzi),λH2 s2=>hR _ s2⟩⟩
 refine⟨l2,List.replicate ws.length true,rq,SqL.of e,_,rq,?_⟩;rw[V3];have ht1:=s1 _ _ ht;refine BK ⟨_,rq,t,rq,⟨_,SqT.of ht1⟩,λl hl=>?_⟩;let J0:YN:=λi U HH=>∃u1 u2,U=[u1,u2]/\HH l=some (.dK (Gy (λz:Zone=>Sum.inr z.name) (jn.take i)))/\Same H' HH;refine rT (xs:=ws) J0 ⟨_,_,rq,Ab,Ad hl _⟩ (λi U HH _ h=>?_) (λi x U HH hx h=>?_) (fun U HH h=>?_)
 ·obtain⟨u1,u2,rfl,e1,e2⟩:=h;exact SqT.of (e2 _ _ ht1)
 ·obtain⟨u1,u2,rfl,e1,e2⟩:=h;obtain⟨z,hzi,tz,uz,rfl,h1,h2⟩:=Paired.Ck hd hx;refine⟨tz,_,rq,SqT.of (e2 _ _ (s1 _ _ h1)),rq,_,_,rq,_,_,rq,rq,?_⟩;refine BL ⟨_,rq,_,Sum.inr z.name,e1,rq,Ar (by rw[Ky,QbA];omega),_,_,rq,?_,e2.Bp Ah.upd hl⟩;rw[Ab,Nb (f:=λz:Zone=>Sum.inr z.name) (x:=z),QcF hzi];exact λy hy e=>JK nd hzi y hy (Sum.inr.inj e)
 ·obtain⟨u1,u2,rfl,e1,e2⟩:=h;rw[lw,Qby] at e1;refine⟨l,_,rq,e1,_,rq,t,_,rq,.inr (SqT.of (e2 _ _ ht1)),rq,?_⟩;rw[Ky,lw];have:decide (V.int (jn.length:Int)=V.int (jn.length:Int))=true:=QbX rfl;rw[this];exact q _ (s1.trans e2)
theorem mF (C:Code K mg "is_plan" Pj Hl) (T:Ty K mg op oe kd wk) (Cu:⋯ "is_row" 1 Dz GK) (Ew:⋯ "is_within" 2 Et JT) (Qs:⋯ "are_loops" 8 Ik Q0) (Qq:⋯ "are_zones" 5 Ij QZ) (DW:⋯ "devices" 2 Fb Nx):⋯ "is_plan" 9 Hl Qy:=by
 have sc:=Es;exists C,Es
 obtain⟨pl,most,ja,jn,rfl,pa,q⟩:=h;obtain⟨Ls,zs,ws,zvs,e1,e2,e3,e4,e5⟩:=pa.at_;refine⟨_,(Ae (Ce (Dp (Cz (CW Cu hr (Aa (pv 0) (Aa Af (Aa Af Ac)))))) (Ag (Az DY)) Bt)
 (Ae (GZ (pv 0) (CK rfl (Ak (1∣Es) (Ak (2∣Es) (Ak (3∣Es) Bo)))))
 (Ae (Ce (PW.pt (Jr (Dp (Cz (CW Ew hr (Aa (pv 1) (Aa Af (Aa Af Ac)))))) (Jr (Dp (Cz (BJ Qs hr (Aa (pv 2) Ac)))) (Jz (Dp (Cz (BJ Qq hr (Aa (pv 3) Ac)))))))) (Ag (Az DY)) Bt)
 (Ag (Az (Ov Mp Mp Af (Aw Bh rfl T.len CJ (Aa (BJ DW hr (Aa (pv 0) Ac)) Ac)) Af)))))),?_⟩
 show let R0:TS:=_;let R1:TS:=Ao _ R0;let R2:TS:=Ao _ R1;Ao _ R2 _ _ _;intro R0 R1 R2;refine⟨_,rq,.ref pl,3,3,rq,Fx e1,_,rq,?_⟩;rw[Cd e1,Ds (by show (3:Int)<=3;decide) (by show (3:Int)<=3;decide)];refine BK ⟨_,rq,pl,_,rq,SqT.of e1,rq,_,_,rq,_,_,rq,_,_,rq,rq,?_⟩;refine⟨_,rq,most,1,30,rq,_,rq,?_⟩;rw[QbX pa.pok.mo];refine BK ⟨_,rq,Ls,ws,ja,rq,e2,e3,pa.ok.ok,pa.pok.bd,pa.lo,pa.ok.hi,λH1 s1=>⟨_,rq,BK ?_⟩⟩;refine⟨_,rq,zs,zvs,jn,rq,s1 _ _ e4,Paired.Ax e5 λ_ _ z=>z.tups (Al.of s1),λz hz=>⟨pa.pok.znm z hz,pa.pok.zup z hz,λx hx=>pa.pok.bd x (aQ pa.ok (pa.pok.zin z hz x hx))⟩,pa.pok.aO,pa.pok.zdi,λH2 s2=>⟨_,rq,BK ?_⟩⟩;have s12:=s1.trans s2;refine⟨_,rq,pl,ja,rq,(pa.same s12).plan,pa.ok,λl xs H3 hl hx hp s3=>?_⟩;have lx:=Qcc hp;have la:(up (pdL ja) ja.length).length=(Cg ja).length:=by rw[<-Ho ja,QbH]
 have c1:=pa.pok.cnt.1;have c2:=pa.pok.cnt.2;refine⟨l,_,rq,.inl (SqL.of hx),_,_,rq,rq,_,rq,?_⟩;have g1:decide ((1:Int)<=(xs.length:Int))=true:=QbX (by omega);rw[g1];refine BL ⟨_,_,rq,rq,?_⟩;have g2:decide ((xs.length:Int)<=30)=true:=QbX (by omega);show Q (.bl (decide ((xs.length:Int)<=30))) H3;rw[g2];exact q _ (s12.trans s3)
theorem Vv (C:Code K mg "address_twice" Iu Dt) (T:Ty K mg op oe kd wk) (DW:⋯ "devices" 2 Fb Nx):⋯ "address_twice" 3 Dt Ja:=by
 have sc:=BW;exists C,BW
 obtain⟨pl,most,ja,jn,rfl,pa,q⟩:=h;refine⟨_,(Ae (1∪BW∪Vr)
 (Ae (Cj QbK rfl (Dc (BJ DW hr (Aa (pv 0) Ac))) (CK rfl (Ak (2∣BW) (Ak (3∣BW) (Ak (4∣BW) Bo))))
 (Ae (Ce (Om (cO (Cq hr) (pv 4) (pv 1))) (Ag (Az (Bb (Aa Bd (Aa (pv 4) Ac))))) Bt)
 (Ag (Gs (Cq hr) (pv 1) (pv 4) DY rfl))))
 (Ag (Az Jf)))),?_⟩
 show let R0:TS:=_;let R1:TS:=Ao (Hr _ R0 _) _;let R2:TS:=Ao (Dq _ _ R1) _;Ao _ R2 _ _ _;intro R0 R1 R2;refine λd hd=>?_;have s0:=Ad hd (.dK []);refine⟨_,rq,pl,ja,rq,(pa.same s0).plan,pa.ok,λl xs H1 hl hx hp s1=>⟨l,rq,⟨_,SqL.of hx⟩,?_⟩⟩;have lx:=Qcc hp;have la:(up (pdL ja) ja.length).length=(Cg ja).length:=by rw[<-Ho ja,QbH]
 have c2:=pa.pok.cnt.2;have nd:((up (pdL ja) ja.length).map (·.addr)).Nodup:=by rw[Ho];exact pa.pok.nd
 generalize up (pdL ja) ja.length=ds at *;have hd1:H1 d=some (.dK []):=s1 _ _ Ab;have nld:l≠d:=λz=>by rw[z,hd1] at hx;cases hx
 have nt:∀HH:Hp,(∃kvs,HH d=some (.dK kvs))->∀zs,HH d≠some (.tup zs):=λHH ⟨kvs,e⟩ zs z=>by rw[e] at z;cases z
 let J1:YN:=λi U HH=>∃u2 u3 u4,U=[jp pl,jp d,u2,u3,u4]/\HH d=some (.dK (Gy (λz:Sd=>Sum.inl z.addr) (ds.take i)))/\Ah d H1 HH;refine Lz (xs:=xs) J1 ⟨_,_,_,rq,hd1,Ah.refl d H1⟩ (λi U HH _ h=>?_) (λi x U HH hx' h=>?_) (fun U HH h=>?_)
 ·obtain⟨u2,u3,u4,rfl,e1,e2⟩:=h;exact SqL.of (e2 _ _ hx nld)
 ·obtain⟨u2,u3,u4,rfl,e1,e2⟩:=h;obtain⟨z,hzi,tz,uz,rfl,h1,h2⟩:=Paired.Ck hp hx';have sT:=e2.tup (nt H1 ⟨_,hd1⟩);have fr:∀y∈ds.take i,(Sum.inl y.addr:Key)≠Sum.inl z.addr:=λy hy e=>JK nd hzi y hy (Sum.inl.inj e);refine⟨tz,_,rq,SqT.of (sT _ _ h1),rq,_,_,rq,_,_,rq,_,_,rq,rq,?_⟩;refine⟨_,rq,_,rq,d,_,rq,Dw.k (k:=Sum.inl z.addr) e1,_,rq,?_⟩;rw[Px fr];refine BK ⟨_,rq,_,rq,d,_,rq,Jm.k (k:=Sum.inl z.addr) e1 (Ar (by rw[Ky,QbA];omega)),_,_,_,rq,?_,e2.trans Ah.upd⟩;rw[Ab,Nb (f:=λz:Sd=>Sum.inl z.addr) (x:=z) fr,QcF hzi]
 ·obtain⟨u2,u3,u4,rfl,e1,e2⟩:=h;exact q _ ((s0.trans s1).Bp e2 hd)
theorem RJ (C:Code K mg "address_stranger" Jc Fd) (T:Ty K mg op oe kd wk) (DW:⋯ "devices" 2 Fb Nx):⋯ "address_stranger" 3 Fd Ja:=by
 have sc:=Du;exists C,Du
 obtain⟨pl,most,ja,jn,rfl,pa,q⟩:=h;refine⟨_,(Ae (vA (i:=1) Du.nd rfl (Or.inl rfl) (N':=xf) rfl nofun (Dc (BJ DW hr (Aa (pv 0) Ac))) (~~~(FW (K:=K) (n:=3) rfl rfl (Ak (0∩xf) (Ak (1∩xf) (Ak (2∩xf) Bo))))) (~~~(G3 (Br (WK (K:=K) rfl) (pv 1) (SX rfl T.WARNING_KINDS) (by with_unfolding_all rfl)))) (~~~(pv 2)) (λ_ _ _ _=>DY))
 (Ae (Cj QbK rfl (Ga (Bj Bw (pv 0) Af (λ_ _=>rfl))) (CK rfl (Ak (2∣Du) (Ak (3∣Du) Bo)))
 (Ag (Cj QbK rfl (Ga (pv 3)) (4∣Du)
 (Ag (Ce (Om (Pq (Cq hr) (pv 4) (pv 1))) (Ag (Az (Bb (Aa Bd (Aa (pv 2) (Aa (pv 4) Ac)))))) Bt)))))
 (Ag (Az Jf)))),?_⟩
 show let R0:TS:=_;let R1:TS:=Hr _ R0 _;let R2:TS:=Dq _ _ R1;let R3:TS:=Ao (Dq _ _ R2) _;Ao _ R3 _ _ _;intro R0 R1 R2 R3;refine⟨_,rq,pl,ja,rq,pa.plan,pa.ok,λl xs H1 hl hx hp s1=>⟨l,rq,⟨_,SqL.of hx⟩,λd hd=>?_⟩⟩;have lx:=Qcc hp;have la:(up (pdL ja) ja.length).length=(Cg ja).length:=by rw[<-Ho ja,QbH]
 have c2:=pa.pok.cnt.2;have nd:((up (pdL ja) ja.length).map (·.addr)).Nodup:=by rw[Ho];exact pa.pok.nd
 have hw:∀x∈Fy ja,∃z∈(up (pdL ja) ja.length).filter (λz=>Fv z.kind),z.addr=x:=λx hx=>zP pa.ok hx;generalize up (pdL ja) ja.length=ds at *;have nld:l≠d:=Aq hx hd;let J2:YN:=λi U HH=>∃u2 u3 u4,U=[u2,u3,u4]/\HH d=some (.dK (Gy (λz:Sd=>Sum.inl z.addr) ((ds.take i).filter λz=>Fv z.kind)))/\Same H1 HH;refine iH (xs:=xs) J2 ⟨_,_,_,rq,Ab,Ad hd _⟩ (λi U HH _ h=>?_) (λi x U HH hx' h=>?_) (fun U HH h=>?_)
 ·obtain⟨u2,u3,u4,rfl,e1,e2⟩:=h;exact SqL.of (e2 _ _ hx)
 ·obtain⟨u2,u3,u4,rfl,e1,e2⟩:=h;obtain⟨z,hzi,tz,uz,rfl,h1,h2⟩:=Paired.Ck hp hx';have fr:∀y∈(ds.take i).filter (λz=>Fv z.kind),(Sum.inl y.addr:Key)≠Sum.inl z.addr:=λy hy e=>JK nd hzi y (QbQ.mp hy).1 (Sum.inl.inj e);have et:(ds.take (i+1)).filter (λz=>Fv z.kind)=(ds.take i).filter (λz=>Fv z.kind)++[z].filter (λz=>Fv z.kind):=by rw[QcF hzi,Qbg]
  refine⟨tz,_,rq,SqT.of (e2 _ _ h1),rq,_,_,rq,_,_,rq,_,_,rq,rq,?_⟩;refine⟨_,rq,wk,_,rq,.inr (T.wkT HH),rq,rq,_,rq,?_⟩;rw[if_neg QaZ];refine Kd (λhc=>?_) (λhc=>?_)
  ·refine⟨_,rq,_,Sum.inl z.addr,e1,rq,Ar ?_,_,_,_,rq,?_,e2.Bp Ah.upd hd⟩
   ·rw[Ky];have:=List.length_filter_le (λz:Sd=>Fv z.kind) (ds.take i);rw[QbA] at this;omega
   ·rw[Ab,Nb (f:=λz:Sd=>Sum.inl z.addr) (x:=z) fr,et,show [z].filter (λz=>Fv z.kind)=[z] from Qav (p:=λz:Sd=>Fv z.kind) hc]
  ·refine⟨_,_,_,rq,?_,e2⟩;rw[et,show [z].filter (λz=>Fv z.kind)=[] from Qau (p:=λz:Sd=>Fv z.kind) (by show ¬Fv z.kind=true;rw[show Fv z.kind=false from hc];decide),QbM]
   exact e1
 obtain⟨u2,u3,u4,rfl,e1,e2⟩:=h;rw[lx,Qby] at e1;have s2:=s1.trans e2;obtain⟨Ls,zs,ws,zvs,f1,f2,f3,f4,f5⟩:=pa.at_;refine⟨_,rq,pl,_,_,_,rq,rq,SqT.of (s2 _ _ f1),rq,zs,rq,⟨_,SqT.of (s2 _ _ f4)⟩,?_⟩;let J3:YN:=λi U HX=>∃u2 u3 u4,U=[jp pl,jp d,u2,u3,u4]/\HX=HH;refine Ly (xs:=zvs) J3 ⟨_,_,_,rq,rq⟩ (λi U HX _ h=>?_) (λi x U HX hx' h=>?_) (fun U HX h=>?_)
 ·obtain⟨u2,u3,u4,rfl,rfl⟩:=h;exact SqT.of (s2 _ _ f4)
 ·obtain⟨u2,u3,u4,rfl,rfl⟩:=h;obtain⟨z,hzi,tz,uz,rfl,h1,h2⟩:=Paired.Ck f5 hx';refine⟨tz,_,rq,SqT.of (s2 _ _ h1),rq,_,_,rq,_,_,rq,rq,?_⟩;refine⟨_,rq,uz,rq,⟨_,SqT.of (s2 _ _ h2)⟩,?_⟩;let J4:YN:=λi U HY=>∃u4,U=[jp pl,jp d,some (.str z.name),jp uz,u4]/\HY=HX;refine Ly (xs:=z.adr.map V.int) J4 ⟨_,rq,rq⟩ (λi U HY _ h=>?_) (λi x U HY hx2 h=>?_) (fun U HY h=>?_)
  ·obtain⟨u4,rfl,rfl⟩:=h;exact SqT.of (s2 _ _ h2)
  ·obtain⟨u4,rfl,rfl⟩:=h;rw[Qbm] at hx2;obtain⟨n1,hn1,rfl⟩:=QaA.mp hx2;obtain⟨y,hy,ey⟩:=hw n1 (pa.pok.zin z (QaI hzi) n1 (QaI hn1));have hs:(Dv (Gy (λz:Sd=>Sum.inl z.addr) (ds.filter λz=>Fv z.kind)) (Sum.inl n1)).isSome=true:=by
    rw[<-K9,List.any_eq_true];exact⟨_,Qcl.mpr ⟨y,hy,rq⟩,QbX (by show (Sum.inl y.addr:Key)=_;rw[ey])⟩
   refine⟨_,rq,_,rq,d,_,rq,Dw.k (k:=Sum.inl n1) e1,_,rq,?_⟩;rw[hs];exact BK ⟨_,rq,rq⟩
  ·obtain⟨u4,rfl,rfl⟩:=h;exact⟨_,_,_,rq,rq⟩
 ·obtain⟨u2,u3,u4,rfl,rfl⟩:=h;exact q _ s2
theorem UJ (C:Code K mg "address_shared" JX Gf) (T:Ty K mg op oe kd wk):⋯ "address_shared" 1 Gf Ja:=by
 have sc:=Ef;exists C,Ef
 obtain⟨pl,most,ja,jn,rfl,pa,q⟩:=h;refine⟨_,(Ae (1∪Ef∪Vr)
 (Ae (Cj QbK rfl (Ga (Bj Bw (pv 0) Af (λ_ _=>rfl))) (CK rfl (Ak (2∣Ef) (Ak (3∣Ef) Bo)))
 (Ag (Cj QbK rfl (Ga (pv 3)) (4∣Ef)
 (Ae (Ce (Om (cO (Cq hr) (pv 4) (pv 1))) (Ag (Az (Bb (Aa Bd (Aa (pv 2) (Aa (pv 4) Ac)))))) Bt)
 (Ag (Gs (Cq hr) (pv 1) (pv 4) DY rfl))))))
 (Ag (Az Jf)))),?_⟩
 show let R0:TS:=_;let R1:TS:=Ao (Hr _ R0 _) _;let R2:TS:=Dq _ _ R1;let R3:TS:=Ao (Dq _ _ R2) _;Ao _ R3 _ _ _;intro R0 R1 R2 R3;refine λd hd=>?_;have s0:=Ad hd (.dK []);obtain⟨Ls,zs,ws,zvs,f1,f2,f3,f4,f5⟩:=pa.at_;have nd:=pa.pok.znd;have zl:=Qcc f5;have c8:=pa.pok.aO;have NG:∀i,((jn.take i).flatMap (·.adr)).length<=30*(jn.take i).length:=λi=>yp λz hz=>(pa.pok.zup z (QaM hz)).2.2;refine⟨_,rq,pl,_,_,_,rq,rq,SqT.of (s0 _ _ f1),rq,zs,rq,⟨_,SqT.of (s0 _ _ f4)⟩,?_⟩;let J5:YN:=λi U HX=>∃u2 u3 u4,U=[jp pl,jp d,u2,u3,u4]/\HX d=some (.dK (Gy Sum.inl ((jn.take i).flatMap (·.adr))))/\Same H HX;refine Ly (xs:=zvs) J5 ⟨_,_,_,rq,Ab,s0⟩ (λi U HX _ h=>?_) (λi x U HX hx' h=>?_) (fun U HX h=>?_)
 ·obtain⟨u2,u3,u4,rfl,e1,e2⟩:=h;exact SqT.of (e2 _ _ f4)
 ·obtain⟨u2,u3,u4,rfl,e1,e2⟩:=h;obtain⟨z,hzi,tz,uz,rfl,h1,h2⟩:=Paired.Ck f5 hx';have hm:=QaI hzi;refine⟨tz,_,rq,SqT.of (e2 _ _ h1),rq,_,_,rq,_,_,rq,rq,?_⟩;refine⟨_,rq,uz,rq,⟨_,SqT.of (e2 _ _ h2)⟩,?_⟩;have SZ:=(pa.pok.zup z hm).2.2;have hlen:(z.adr.map V.int).length=z.adr.length:=QbH ..;have hsp:(jn.take (i+1)).flatMap (·.adr)=(jn.take i).flatMap (·.adr)++z.adr:=by rw[QcF hzi,QaP];simp
  have ndz:((jn.take i).flatMap (·.adr)++z.adr).Nodup:=by
   rw[<-hsp];exact (yj (List.take_sublist (i+1) jn)).nodup nd
  have hc:=NG i;have hti:(jn.take i).length<=8:=by rw[QbA];omega
  let J6:YN:=λj U HY=>∃u4,U=[jp pl,jp d,some (.str z.name),jp uz,u4]/\HY d=some (.dK (Gy Sum.inl ((jn.take i).flatMap (·.adr)++z.adr.take j)))/\Same H HY;refine Ly (xs:=z.adr.map V.int) J6 ⟨_,rq,by rw[List.take_zero,QbM];exact e1,e2⟩ (λj U HY _ h=>?_) (λj x U HY hx2 h=>?_) (fun U HY h=>?_)
  ·obtain⟨u4,rfl,_,e⟩:=h;exact SqT.of (e _ _ h2)
  ·obtain⟨u4,rfl,g1,g2⟩:=h;rw[Qbm] at hx2;obtain⟨n1,hn1,rfl⟩:=QaA.mp hx2;have fr:∀y∈(jn.take i).flatMap (·.adr)++z.adr.take j,(Sum.inl y:Key)≠Sum.inl n1:=λy hy e=>by
    have e:=Sum.inl.inj e;subst e;obtain⟨_,n2,n3⟩:=Qbu.mp ndz;rcases QbI.mp hy with h | h
    ·exact n3 y h y (QaI hn1) rfl
    ·exact Ud n2 hn1 y h rfl
   refine⟨_,rq,_,rq,d,_,rq,Dw.k (k:=Sum.inl n1) g1,_,rq,?_⟩;rw[Px fr];refine BK ⟨_,rq,_,rq,d,_,rq,Jm.k (k:=Sum.inl n1) g1 (Ar ?_),_,rq,?_,g2.Bp Ah.upd hd⟩
   ·rw[Ky,QaV,QbA];omega
   ·rw[Ab,Nb (f:=Sum.inl) (x:=n1) fr,QcF hn1,Qbn]
  ·obtain⟨u4,rfl,g1,g2⟩:=h;rw[hlen,Qby,<-hsp] at g1;exact⟨_,_,_,rq,g1,g2⟩
 ·obtain⟨u2,u3,u4,rfl,e1,e2⟩:=h;exact q _ e2
theorem WQ (C:Code K mg "part_crowded" Le G5) (T:Ty K mg op oe kd wk) (A4:⋯ "parts" 2 QC X4):⋯ "part_crowded" 3 G5 Ja:=by
 have sc:=Gu;exists C,Gu
 obtain⟨pl,most,ja,jn,rfl,pa,q⟩:=h;refine⟨_,(Ae (Cj QbK rfl (Dd rfl T.range (Aa (Aw Bh rfl T.len CJ (Aa (Bj Bw (pv 0) Af (λ_ _=>rfl)) Ac)) Ac)) (1∣Gu)
 (Ag (Cj QbK rfl (pW rfl T.enumerate (BP A4 hr (Aa (pv 0) (Aa (pv 1) Ac)))) (CK rfl (Ak (2∣Gu) (Ak (3∣Gu) Bo)))
 (Ag (Ce (Br WL (Aw Bh rfl T.len CJ (Aa (pv 3) Ac)) (Bj Bw (pv 0) Af (λ_ _=>rfl)) (Bv _)) (Ag (Az (Bb (Aa Bd (Aa (pv 1) (Aa (pv 2) Ac)))))) Bt)))))
 (Ag (Az Jf))),?_⟩
 show let R0:TS:=_;let R1:TS:=Hr _ R0 _;let R2:TS:=Dq _ _ R1;Ao (Dq _ _ R2) _ _ _ _;intro R0 R1 R2;obtain⟨Ls,zs,ws,zvs,f1,f2,f3,f4,f5⟩:=pa.at_;have lw:=Qcc f3;have l3:=pa.ok.hi;refine⟨_,rq,pl,_,_,_,rq,rq,SqT.of f1,rq,Ls,_,rq,.inr (SqT.of f2),_,rq,by omega,by omega,?_⟩;rw[Qbo];refine Fi (λi U HX=>∃u1 u2 u3,U=[jp pl,u1,u2,u3]/\Same H HX) ⟨_,_,_,rq,Same.refl H⟩ (λi U HX hi h=>?_) (fun U HX h=>?_)
 ·obtain⟨u1,u2,u3,rfl,e1⟩:=h;have hwi:ws[i]?=some ws[i]:=Qan hi;obtain⟨ps,hpi,t,vs',ev,ht,hps⟩:=Paired.Ck f3 hwi;have hm:=QaI hpi;have okl:=pa.ok.ok ps hm;refine⟨_,rq,_,rq,pl,Ls,t,_,_,ws,vs',i,ps,?_,e1 _ _ f1,e1 _ _ f2,by rw[hwi,ev],e1 _ _ ht,Paired.Ax hps λ_ _ z=>z.tups (Al.of e1),okl.ok,okl.hi,λl xs H1 hl hx hp hfr s1=>⟨l,rq,⟨_,SqL.of hx⟩,?_⟩⟩
  ·show [V.ref pl,.int (0+(i:Int))]++[]=_;rw[Qcr];rfl
  let J7:YN:=λj U HY=>∃u2 u3,U=[jp pl,some (.int (0+(i:Int))),u2,u3]/\Same H1 HY;refine rG (xs:=xs) (lo:=0) J7 ⟨_,_,rq,Same.refl H1⟩ (λj U HY _ h=>?_) (λj x p U HY hx' h hp'=>?_) (fun U HY h=>?_)
  ·obtain⟨u2,u3,rfl,g1⟩:=h;exact SqL.of (g1 _ _ hx)
  ·obtain⟨u2,u3,rfl,g1⟩:=h;obtain⟨sps,hsi,qq,ys,rfl,hq1,hq2⟩:=Paired.Ck hp hx';have ly:=Qcc hq2;have s2:=Ad hp' (.tup [.int ((0+j:Nat):Int),.ref qq]);have g2:=g1.trans s2;have hfew:(sps.length:Int)<=most:=pa.pok.few ps hm _ (vN (lp:=i) sps (QaI hsi));refine⟨p,_,rq,SqT.of Ab,rq,_,_,rq,_,_,rq,rq,?_⟩;refine⟨_,rq,qq,_,rq,.inl (SqL.of (g2 _ _ hq1)),_,rq,pl,_,_,_,rq,rq,SqT.of (g2 _ _ (s1 _ _ (e1 _ _ f1))),rq,_,_,rq,rq,_,rq,?_⟩;have hg:decide ((ys.length:Int) > most)=false:=QbL (by omega);rw[show decide (most < (ys.length:Int))=false from hg]
   exact BK ⟨_,_,rq,g2⟩
  ·obtain⟨u2,u3,rfl,g1⟩:=h;exact⟨_,_,_,rq,e1.trans (s1.trans g1)⟩
 ·obtain⟨u1,u2,u3,rfl,e1⟩:=h;exact q _ e1
theorem vU (C:Code K mg "wrong" T5 Ku) (T:Ty K mg op oe kd wk) (K6:⋯ "address_twice" 3 Dt Ja) (Y4:⋯ "part_crowded" 3 G5 Ja) (Tf:⋯ "address_stranger" 3 Fd Ja) (VL:⋯ "address_shared" 1 Gf Ja):⋯ "wrong" 4 Ku Ja:=by
 exists C,bQ
 obtain⟨pl,most,ja,jn,rfl,pa,q⟩:=h;refine⟨_,(Ag (Az (cM (BJ K6 hr (Aa (pv 0) Ac)) (cM (BJ Y4 hr (Aa (pv 0) Ac)) (cM (BJ Tf hr (Aa (pv 0) Ac)) (El (BJ VL hr (Aa (pv 0) Ac)))))))),?_⟩;exact⟨_,rq,pl,most,ja,jn,rq,pa,λH1 s1=>⟨rq,_,rq,pl,most,ja,jn,rq,pa.same s1,λH2 s2=>⟨rq,_,rq,pl,most,ja,jn,rq,(pa.same s1).same s2,λH3 s3=>⟨rq,_,rq,pl,most,ja,jn,rq,((pa.same s1).same s2).same s3,λH4 s4=>q _ (s1.trans (s2.trans (s3.trans s4)))⟩⟩⟩⟩
theorem cV (C:Code K mg "is_let_by" Mi FT) (T:Ty K mg op oe kd wk) (Te:⋯ "is_plan" 9 Hl Qy) (Y0:⋯ "wrong" 4 Ku Ja):⋯ "is_let_by" 10 FT Qy:=by
 exists C,Sq
 obtain⟨pl,most,ja,jn,rfl,pa,q⟩:=h;refine⟨_,(Ag (Az (EY (BJ Te hr (Aa (pv 0) Ac)) (El (G4 qb (BJ Y0 hr (Aa (pv 0) Ac)) Jf (Bv _)))))),?_⟩;exact⟨_,rq,pl,most,ja,jn,rq,pa,λH1 s1=>⟨_,rq,BL ⟨_,rq,pl,most,ja,jn,rq,pa.same s1,λH2 s2=>⟨rq,q _ (s1.trans s2)⟩⟩⟩⟩
abbrev Vo:Stmt:=top 63
abbrev OD:YF:=["_law_e"]
theorem MF:Ay ["_law_e","_law_kinds","_law_names_here"] OD (Aj Vo):=by ac_rfl
structure Er (K:YD) (mg:YB) (hc c0 c1 c2 c3 c4 c5 c6 c7 c8 c9 c10 c11 c12:Addr):Prop where
 ve:mg "ValueError"=none
 gZ:mg "HouseError"=some (.ref hc)
 gH:XCl K hc
 jE:mg "NoPlan"=some (.ref c0)
 AM:mg "NoText"=some (.ref c1)
 mL:mg "NoStretch"=some (.ref c2)
 AN:mg "NoSpot"=some (.ref c3)
 qC:mg "NoOpener"=some (.ref c4)
 mO:mg "NoAddress"=some (.ref c5)
 wF:mg "NoRules"=some (.ref c6)
 AQ:mg "NoHand"=some (.ref c7)
 wG:mg "NoPanel"=some (.ref c8)
 AO:mg "NoLink"=some (.ref c9)
 De:mg "NoLog"=some (.ref c10)
 AR:mg "NoDeed"=some (.ref c11)
 Db:mg "NoRow"=some (.ref c12)
structure Knd (K:YD) (hc C:Addr) (cs:List Addr) (j:Nat):Prop where
 xc:XCl K C
 sub:subIn K (.ref C) (.ref hc)=some true
 kit:∀i d,cs[i]?=some d->kitOne K (.ref C) (.ref d)=some (decide (i=j))
 kv:kitOne K (.ref C) (.type "ValueError")=some true
def zf (j:Nat):Str:=(["plan","text","stretch","spot","opener","address","rules","hand","panel","link","log","deed","row"]:YF).getD j ""
def bsl (j:Nat):List Bool:=[decide (0=j),decide (1=j),decide (2=j),decide (3=j),decide (4=j),decide (5=j),decide (6=j),decide (7=j),decide (8=j),decide (9=j),decide (10=j),decide (11=j),decide (12=j)]
theorem tR:∀j,j < 13->(bsl j).countP id=1:=by decide
theorem E3:∀j,j < 13->(bsl j)[j]?=some true:=by decide
theorem E2:∀j,j < 13->∀m,m < j->(bsl j)[m]?=some false:=by decide
theorem wordAt:∀j,j < 13->([.str "plan",.str "text",.str "stretch",.str "spot",.str "opener",.str "address",.str "rules",.str "hand",.str "panel",.str "link",.str "log",.str "deed",.str "row"]:YG)[j]?=some (.str (zf j))
 | 0,_=>rfl
 | 1,_=>rfl
 | 2,_=>rfl
 | 3,_=>rfl
 | 4,_=>rfl
 | 5,_=>rfl
 | 6,_=>rfl
 | 7,_=>rfl
 | 8,_=>rfl
 | 9,_=>rfl
 | 10,_=>rfl
 | 11,_=>rfl
 | 12,_=>rfl
 | n+13,h=>absurd h (by omega)
inductive bM (K:YD) (hc:Addr) (cs:List Addr) (vs:YG) (H:Hp) (Q:VK) (E:XK):Prop
 | mk (e C:Addr) (j:Nat) (_:vs=[.ref e]) (_:H e=some (xo e C)) (_:Knd K hc C cs j) (_:j < 13) (_:∀H',Same H H'->Q (.str (zf j)) H'):bM K hc cs vs H Q E
theorem AH (C:Code K mg "_law_kind" Vo OD) (T:Nm mg) (XE:Er K mg hc c0 c1 c2 c3 c4 c5 c6 c7 c8 c9 c10 c11 c12):aL P w K mg base "_law_kind" 1 OD (bM K hc [c0,c1,c2,c3,c4,c5,c6,c7,c8,c9,c10,c11,c12]):=by
 refine C.GA MF (λvs H Q E h=>?_) (λf cdv A outer s H vs Q hr h=>?_)
 ·obtain⟨e,C,j,rfl,_⟩:=h;rfl
 obtain⟨e,C,j,rfl,he,k,hj,q⟩:=h;refine⟨_,(@Ae _ _ _ _ _ (@Ba _ _ 1 _ _ _ _ MF.nd rfl (Or.inl rfl) (BZ (Aa (Aw Ep rfl T.isinstance Bs (Aa (pv 0) (Aa (Fo (v:=.ref _) rfl XE.jE rfl) Ac))) (Aa (Aw Ep rfl T.isinstance Bs (Aa (pv 0) (Aa (Fo (v:=.ref _) rfl XE.AM rfl) Ac))) (Aa (Aw Ep rfl T.isinstance Bs (Aa (pv 0) (Aa (Fo (v:=.ref _) rfl XE.mL rfl) Ac))) (Aa (Aw Ep rfl T.isinstance Bs (Aa (pv 0) (Aa (Fo (v:=.ref _) rfl XE.AN rfl) Ac))) Ac))))) (by rfl) (by first | exact .inl rfl | exact .inr rfl))
 (@Ae _ _ _ _ _ (@Ba _ _ 1 _ _ _ _ MF.nd rfl (Or.inl rfl) (@Bf _ _ _ _ _ _ _ _ cQ (pv 1) (BZ (Aa (Aw Ep rfl T.isinstance Bs (Aa (pv 0) (Aa (Fo (v:=.ref _) rfl XE.qC rfl) Ac))) (Aa (Aw Ep rfl T.isinstance Bs (Aa (pv 0) (Aa (Fo (v:=.ref _) rfl XE.mO rfl) Ac))) (Aa (Aw Ep rfl T.isinstance Bs (Aa (pv 0) (Aa (Fo (v:=.ref _) rfl XE.wF rfl) Ac))) (Aa (Aw Ep rfl T.isinstance Bs (Aa (pv 0) (Aa (Fo (v:=.ref _) rfl XE.AQ rfl) Ac))) Ac)))))) (by rfl) (by first | exact .inl rfl | exact .inr rfl))
 (@Ae _ _ _ _ _ (@Ba _ _ 1 _ _ _ _ MF.nd rfl (Or.inl rfl) (@Bf _ _ _ _ _ _ _ _ cQ (pv 1) (BZ (Aa (Aw Ep rfl T.isinstance Bs (Aa (pv 0) (Aa (Fo (v:=.ref _) rfl XE.wG rfl) Ac))) (Aa (Aw Ep rfl T.isinstance Bs (Aa (pv 0) (Aa (Fo (v:=.ref _) rfl XE.AO rfl) Ac))) (Aa (Aw Ep rfl T.isinstance Bs (Aa (pv 0) (Aa (Fo (v:=.ref _) rfl XE.De rfl) Ac))) (Aa (Aw Ep rfl T.isinstance Bs (Aa (pv 0) (Aa (Fo (v:=.ref _) rfl XE.AR rfl) Ac))) Ac)))))) (by rfl) (by first | exact .inl rfl | exact .inr rfl))
 (@Ae _ _ _ _ _ (Bc (Cy Qas Qao Qap Cv (pv 1) (Aa (Aw Ep rfl T.isinstance Bs (Aa (pv 0) (Aa (Fo (v:=.ref _) rfl XE.Db rfl) Ac))) Ac)))
 (@Ae _ _ _ _ _ (@Ba _ _ 2 _ _ _ _ MF.nd rfl (Or.inl rfl) (@BZ _ _ _ _ (@Aa _ _ _ _ _ (@Bd _ _ _ _) (@Aa _ _ _ _ _ (@Bd _ _ _ _) (@Aa _ _ _ _ _ (@Bd _ _ _ _) (@Aa _ _ _ _ _ (@Bd _ _ _ _) (@Aa _ _ _ _ _ (@Bd _ _ _ _) (@Aa _ _ _ _ _ (@Bd _ _ _ _) (@Aa _ _ _ _ _ (@Bd _ _ _ _) (@Aa _ _ _ _ _ (@Bd _ _ _ _) (@Aa _ _ _ _ _ (@Bd _ _ _ _) (@Aa _ _ _ _ _ (@Bd _ _ _ _) (@Aa _ _ _ _ _ (@Bd _ _ _ _) (@Aa _ _ _ _ _ (@Bd _ _ _ _) (@Ac _) Bg) Bg) Bg) Bg) Bg) Bg) Bg) Bg) Bg) Bg) Bg) Bg)) (by rfl) (by first | exact .inl rfl | exact .inr rfl))
 (@Ae _ _ _ _ _ (Bc (Cy Qas Qao Qap Cv (pv 2) (Aa Bd Ac)))
 (@Ae _ _ _ _ _ (Ce (PW.pt (Jr (Dp (Cz (Aw tG rfl T.isinstance Bs (Aa (pv 0) (Aa (QB (v:=.ty "ValueError") rfl XE.ve PyProof.Rows.Boot.«ValueError» rfl) Ac))))) (Jz (Br Wz (Cy Qas PySem.F.slot_list_count PySem.F.type_list_count qF (pv 1) (Aa DY Ac)) Af (Bv _))))) (@Ag _ _ _ (Az Bd)) Bt)
 (@Ag _ _ _ (Az (Bj Dn (pv 2) (Cy Qas PySem.F.slot_list_index PySem.F.type_list_index qD (pv 1) (Aa DY Ac)) (λ_ _=>rfl))))))))))),?_⟩
 show let R0:TS:=_;let R1:TS:=Ao _ R0;let R2:TS:=Ao _ R1;let R3:TS:=Ao _ R2;let R4:TS:=Ao _ R3;let R5:TS:=Ao _ R4;let R6:TS:=Ao _ R5;Ao _ R6 _ _ _;intro R0 R1 R2 R3 R4 R5 R6;refine⟨_,rq,Hf he k.xc (k.kit 0 _ rfl) ⟨_,rq,Hf he k.xc (k.kit 1 _ rfl) ⟨_,rq,Hf he k.xc (k.kit 2 _ rfl) ⟨_,rq,Hf he k.xc (k.kit 3 _ rfl) ⟨ki,λl1 hl1=>?_⟩⟩⟩⟩⟩;have s1:=Ad hl1 (.lst [V.bl (decide (0=j)),.bl (decide (1=j)),.bl (decide (2=j)),.bl (decide (3=j))]);have e1:upd H l1 (.lst [V.bl (decide (0=j)),.bl (decide (1=j)),.bl (decide (2=j)),.bl (decide (3=j))]) l1=some (.lst [V.bl (decide (0=j)),.bl (decide (1=j)),.bl (decide (2=j)),.bl (decide (3=j))]):=Ab;generalize upd H l1 (.lst [V.bl (decide (0=j)),.bl (decide (1=j)),.bl (decide (2=j)),.bl (decide (3=j))])=H1 at s1 e1 ⊢;have he1:=s1 _ _ he;refine⟨_,rq,⟨_,rq,Hf he1 k.xc (k.kit 4 _ rfl) ⟨_,rq,Hf he1 k.xc (k.kit 5 _ rfl) ⟨_,rq,Hf he1 k.xc (k.kit 6 _ rfl) ⟨_,rq,Hf he1 k.xc (k.kit 7 _ rfl) ⟨ki,λla hla=>⟨l1,la,_,_,rq,rq,Ad hla _ _ _ e1,Ab,Av (by show 8<=1000;decide),λlb hlb=>?_⟩⟩⟩⟩⟩⟩⟩;have sa:=Ad hla (.lst [V.bl (decide (4=j)),.bl (decide (5=j)),.bl (decide (6=j)),.bl (decide (7=j))]);have sb:=Ad hlb (.lst ([V.bl (decide (0=j)),.bl (decide (1=j)),.bl (decide (2=j)),.bl (decide (3=j))]++[V.bl (decide (4=j)),.bl (decide (5=j)),.bl (decide (6=j)),.bl (decide (7=j))]));have e2:upd (upd H1 la (.lst [V.bl (decide (4=j)),.bl (decide (5=j)),.bl (decide (6=j)),.bl (decide (7=j))])) lb (.lst ([V.bl (decide (0=j)),.bl (decide (1=j)),.bl (decide (2=j)),.bl (decide (3=j))]++[V.bl (decide (4=j)),.bl (decide (5=j)),.bl (decide (6=j)),.bl (decide (7=j))])) lb=some (.lst ([V.bl (decide (0=j)),.bl (decide (1=j)),.bl (decide (2=j)),.bl (decide (3=j))]++[V.bl (decide (4=j)),.bl (decide (5=j)),.bl (decide (6=j)),.bl (decide (7=j))])):=Ab;have s2:=s1.trans (sa.trans sb);generalize upd (upd H1 la (.lst [V.bl (decide (4=j)),.bl (decide (5=j)),.bl (decide (6=j)),.bl (decide (7=j))])) lb (.lst ([V.bl (decide (0=j)),.bl (decide (1=j)),.bl (decide (2=j)),.bl (decide (3=j))]++[V.bl (decide (4=j)),.bl (decide (5=j)),.bl (decide (6=j)),.bl (decide (7=j))]))=H2 at sb e2 s2 ⊢;have he2:=s2 _ _ he;refine⟨_,rq,⟨_,rq,Hf he2 k.xc (k.kit 8 _ rfl) ⟨_,rq,Hf he2 k.xc (k.kit 9 _ rfl) ⟨_,rq,Hf he2 k.xc (k.kit 10 _ rfl) ⟨_,rq,Hf he2 k.xc (k.kit 11 _ rfl) ⟨ki,λlc hlc=>⟨lb,lc,_,_,rq,rq,Ad hlc _ _ _ e2,Ab,Av (by show 12<=1000;decide),λld hld=>?_⟩⟩⟩⟩⟩⟩⟩;have sc:=Ad hlc (.lst [V.bl (decide (8=j)),.bl (decide (9=j)),.bl (decide (10=j)),.bl (decide (11=j))]);have sd:=Ad hld (.lst ([V.bl (decide (0=j)),.bl (decide (1=j)),.bl (decide (2=j)),.bl (decide (3=j))]++[V.bl (decide (4=j)),.bl (decide (5=j)),.bl (decide (6=j)),.bl (decide (7=j))]++[V.bl (decide (8=j)),.bl (decide (9=j)),.bl (decide (10=j)),.bl (decide (11=j))]));have e3:upd (upd H2 lc (.lst [V.bl (decide (8=j)),.bl (decide (9=j)),.bl (decide (10=j)),.bl (decide (11=j))])) ld (.lst ([V.bl (decide (0=j)),.bl (decide (1=j)),.bl (decide (2=j)),.bl (decide (3=j))]++[V.bl (decide (4=j)),.bl (decide (5=j)),.bl (decide (6=j)),.bl (decide (7=j))]++[V.bl (decide (8=j)),.bl (decide (9=j)),.bl (decide (10=j)),.bl (decide (11=j))])) ld=some (.lst ([V.bl (decide (0=j)),.bl (decide (1=j)),.bl (decide (2=j)),.bl (decide (3=j))]++[V.bl (decide (4=j)),.bl (decide (5=j)),.bl (decide (6=j)),.bl (decide (7=j))]++[V.bl (decide (8=j)),.bl (decide (9=j)),.bl (decide (10=j)),.bl (decide (11=j))])):=Ab;have s3:=s2.trans (sc.trans sd);have fd:H ld=none:=s2.free (sc.free hld);generalize upd (upd H2 lc (.lst [V.bl (decide (8=j)),.bl (decide (9=j)),.bl (decide (10=j)),.bl (decide (11=j))])) ld (.lst ([V.bl (decide (0=j)),.bl (decide (1=j)),.bl (decide (2=j)),.bl (decide (3=j))]++[V.bl (decide (4=j)),.bl (decide (5=j)),.bl (decide (6=j)),.bl (decide (7=j))]++[V.bl (decide (8=j)),.bl (decide (9=j)),.bl (decide (10=j)),.bl (decide (11=j))]))=H3 at sd e3 s3 ⊢;have he3:=s3 _ _ he;refine⟨_,rq,.inl ⟨rq,_,SqL.of e3⟩,_,rq,Hf he3 k.xc (k.kit 12 _ rfl) ⟨ld,_,_,rq,rq,e3,Ar (by show 12<=1000;decide),?_⟩⟩;have e4:upd H3 ld (.lst ([V.bl (decide (0=j)),.bl (decide (1=j)),.bl (decide (2=j)),.bl (decide (3=j))]++[V.bl (decide (4=j)),.bl (decide (5=j)),.bl (decide (6=j)),.bl (decide (7=j))]++[V.bl (decide (8=j)),.bl (decide (9=j)),.bl (decide (10=j)),.bl (decide (11=j))]++[.bl (decide (12=j))])) ld=some (.lst ((bsl j).map V.bl)):=Ab;have s4:Same H (upd H3 ld (.lst ([V.bl (decide (0=j)),.bl (decide (1=j)),.bl (decide (2=j)),.bl (decide (3=j))]++[V.bl (decide (4=j)),.bl (decide (5=j)),.bl (decide (6=j)),.bl (decide (7=j))]++[V.bl (decide (8=j)),.bl (decide (9=j)),.bl (decide (10=j)),.bl (decide (11=j))]++[.bl (decide (12=j))]))):=s3.Bp Ah.upd fd;generalize upd H3 ld (.lst ([V.bl (decide (0=j)),.bl (decide (1=j)),.bl (decide (2=j)),.bl (decide (3=j))]++[V.bl (decide (4=j)),.bl (decide (5=j)),.bl (decide (6=j)),.bl (decide (7=j))]++[V.bl (decide (8=j)),.bl (decide (9=j)),.bl (decide (10=j)),.bl (decide (11=j))]++[.bl (decide (12=j))]))=H4 at e4 s4 ⊢;have he4:=s4 _ _ he;refine⟨Av (by show 12<=1000;decide),λln hln=>?_⟩;have nd:ld≠ln:=Aq e4 hln;have fn:H ln=none:=s4.free hln;have s5:=s4.trans (Ad hln (.lst [V.str "plan",.str "text",.str "stretch",.str "spot",.str "opener",.str "address",.str "rules",.str "hand",.str "panel",.str "link",.str "log",.str "deed"]));have e5:=Ad hln (.lst [V.str "plan",.str "text",.str "stretch",.str "spot",.str "opener",.str "address",.str "rules",.str "hand",.str "panel",.str "link",.str "log",.str "deed"]) _ _ e4;refine⟨_,rq,.inl ⟨rq,_,SqL.of Ab⟩,ln,_,_,rq,rq,Ab,Ar (by show 12<=1000;decide),?_⟩;generalize upd H4 ln (.lst [V.str "plan",.str "text",.str "stretch",.str "spot",.str "opener",.str "address",.str "rules",.str "hand",.str "panel",.str "link",.str "log",.str "deed"])=H5 at s5 e5 ⊢;have e6:∀o,upd H5 ln o ld=some (.lst ((bsl j).map V.bl)):=λo=>by rw[Am nd];exact e5
 have s6:∀o,Same H (upd H5 ln o):=λo=>s5.Bp Ah.upd fn;refine⟨_,rq,AV (s6 _ _ _ he) k.xc k.kv ⟨_,rq,BK ?_⟩⟩;refine⟨_,rq,.inl ⟨rq,_,SqL.of (e6 _)⟩,sG (e6 _) ⟨rq,_,rq,?_⟩⟩;rw[tR j hj];refine F4 rfl ?_;refine⟨_,rq,_,rq,.inl ⟨rq,_,SqL.of (e6 _)⟩,qQ (e6 _) (by omega) (E3 j hj) (E2 j hj) ⟨ln,_,_,_,rq,rq,SqL.of Ab,Fq (wordAt j hj),q _ (s6 _)⟩⟩
instance:DecidableEq Sp3:=λa b=>if h:a.lp=b.lp/\a.at_=b.at_/\a.n=b.n then isTrue (by cases a;cases b;simp at h;obtain⟨h1,h2,h3⟩:=h;subst h1 h2 h3;rfl) else isFalse λe=>h (by rw[e];exact⟨rfl,rfl,rfl⟩)
def cd3 (s:Sp3):Int:=s.lp*10000+s.at_*100+s.n
structure Bd3 (s:Sp3):Prop where
 l0:0<=s.lp
 l1:s.lp<=2
 a0:0<=s.at_
 a1:s.at_<=12
 n0:0<=s.n
 n1:s.n<=3
theorem Bd3.inj {s t:Sp3} (h:Bd3 s) (k:Bd3 t) (e:cd3 s=cd3 t):s=t:=by
 unfold cd3 at e;have h1:=h.l0;have h2:=h.l1;have h3:=h.a0;have h4:=h.a1;have h5:=h.n0;have h6:=h.n1;have k1:=k.l0;have k2:=k.l1;have k3:=k.a0;have k4:=k.a1;have k5:=k.n0;have k6:=k.n1;cases s;cases t;dsimp only at *;congr 1 <;> omega
theorem Bd3.c3 {s:Sp3} (h:Bd3 s):C3 s.lp s.at_ s.n (cd3 s):=⟨h.a0,by have:=h.a1;omega,h.n0,by have:=h.n1;omega,rfl⟩
theorem La {α : Type} {c:α->Int} {f:Nat->List α} {g:Nat->Int} (hg:∀i,g i<=g (i+1)) (h1:∀i,((f i).map c).Pairwise (· < ·)) (h2:∀i,∀x∈f i,g i<=c x/\c x < g (i+1)):∀n,((up f n).map c).Pairwise (· < ·)/\∀x∈up f n,g 0<=c x/\c x < g n
 | 0=>by rw[NZ];exact⟨List.Pairwise.nil,λx h=>by cases h⟩
 | n+1=>by
  obtain⟨a,b⟩:=La hg h1 h2 n;have g0:∀m,g 0<=g m:=λm=>by
   induction m with
   | zero=>exact QcB _
   | succ m ih=>exact Int.le_trans ih (hg m)
  rw[DN,QbJ];refine⟨List.pairwise_append.mpr ⟨a,h1 n,λx hx y hy=>?_⟩,λx hx=>?_⟩
  ·obtain⟨x',hx',rfl⟩:=Qcl.mp hx;obtain⟨y',hy',rfl⟩:=Qcl.mp hy;have:=b x' hx';have:=h2 n y' hy';omega
  ·rcases QbI.mp hx with h | h
   ·have:=b x h;have:=hg n;omega
   ·have:=h2 n x h;have:=g0 n;omega
theorem lV (k:Int):∀m:Nat,((List.range m).map λn:Nat=>k+(n:Int)).Pairwise (· < ·):=λm=>by
 rw[Qbx];exact List.pairwise_lt_range.imp λ{a b} h=>by omega
theorem U3 (lp a:Int):∀(n:Nat) (ds:List Dev),(DQ lp a n ds).map (λd=>cd3 d.spot)=(List.range' n ds.length).map λj:Nat=>lp*10000+a*100+(j:Int)
 | _,[]=>rfl
 | n,d::r=>by
  rw[Qbz,List.range'_succ,Qce,<-U3 lp a (n+1) r];rfl
theorem cH (lp a:Int) (p:Place):((BR lp a p).map λd=>cd3 d.spot).Pairwise (· < ·):=by
 unfold BR;split
 ·exact List.Pairwise.nil
 ·rw[Qce,U3];refine List.pairwise_cons.mpr ⟨λx hx=>?_,?_⟩
  ·obtain⟨j,hj,rfl⟩:=Qcl.mp hx;have:=List.mem_range'_1.mp hj;show lp*10000+a*100+0 < _;omega
  ·rw[Qbx];exact (List.pairwise_lt_range').imp λ{x y} h=>by omega
theorem QX (lp a:Int):∀(n:Nat) (ds:List Dev) (d:Sd),d∈DQ lp a n ds->d.lp=lp/\d.at_=a/\(n:Int)<=d.n/\d.n < (n:Int)+ds.length
 | _,[],d,h=>by cases h
 | n,x::r,d,h=>by
  rcases Qcd.mp h with rfl | h
  ·exact⟨rq,rq,QcB _,by show (n:Int) < (n:Int)+((r.length+1:Nat):Int);omega⟩
  ·obtain⟨h1,h2,h3,h4⟩:=QX lp a (n+1) r d h;exact⟨h1,h2,by omega,by rw[Qbz];omega⟩
theorem U6 {lp a:Int} {p:Place} (h:p.spur.length<=3) {d:Sd} (hd:d∈BR lp a p):d.lp=lp/\d.at_=a/\0<=d.n/\d.n<=3:=by
 unfold BR at hd;split at hd
 ·cases hd
 ·rcases Qcd.mp hd with rfl | hd
  ·exact⟨rq,rq,QcB _,by show (0:Int)<=3;decide⟩
  ·obtain⟨h1,h2,h3,h4⟩:=QX lp a 1 p.spur d hd;exact⟨h1,h2,by omega,by omega⟩
theorem FZ {α β : Type} {o:Option α} {g:α->List β} {x:β} (h:x∈ifs o g):∃a,o=some a/\x∈g a:=by
 cases o with
 | none=>cases h
 | some a=>exact⟨a,rfl,h⟩
theorem Ec {α : Type} {f:Nat->List α} {x:α}:∀{n:Nat},x∈up f n->∃i,i < n/\x∈f i
 | 0,h=>by rw[NZ] at h;cases h
 | n+1,h=>by
  rw[DN] at h;rcases QbI.mp h with h | h
  ·obtain⟨i,a,b⟩:=Ec h;exact⟨i,by omega,b⟩
  ·exact⟨n,QbE n,h⟩
theorem Lq {α β : Type} {c:β->Int} {o:Option α} {g:α->List β} (h:∀a,o=some a->((g a).map c).Pairwise (· < ·)):((ifs o g).map c).Pairwise (· < ·):=by
 cases o with
 | none=>exact List.Pairwise.nil
 | some a=>exact h a rfl
theorem Y8 {ja:YU} (ok:Dj ja) {k:Nat} {d:Sd} (h:d∈pdL ja k):d.lp=(k:Int)/\1<=d.at_/\d.at_<=12/\0<=d.n/\d.n<=3:=by
 obtain⟨ps,hps,h⟩:=FZ h;have okl:=ok.ok ps (QaI hps);obtain⟨i,hi,h⟩:=Ec h;obtain⟨p,hp,h⟩:=FZ h;obtain⟨h1,h2,h3,h4⟩:=U6 (okl.ok p (QaI hp)).spur h;have:=okl.hi;exact⟨h1,by rw[h2];omega,by rw[h2];omega,h3,h4⟩
theorem fG {ja:YU} (ok:Dj ja):((up (pdL ja) ja.length).map λd=>cd3 d.spot).Pairwise (· < ·):=by
 refine (La (g:=λi=>(i:Int)*10000) (λi=>by omega) (λk=>Lq λps hps=>?_) (λk d hd=>?_) ja.length).1
 ·have okl:=ok.ok ps (QaI hps);refine (La (g:=λi=>(k:Int)*10000+(1+i:Int)*100) (λi=>by omega) (λi=>Lq λp hp=>cH _ _ p) (λi d hd=>?_) ps.length).1;obtain⟨p,hp,hd⟩:=FZ hd;obtain⟨h1,h2,h3,h4⟩:=U6 (okl.ok p (QaI hp)).spur hd;show (k:Int)*10000+(1+i:Int)*100<=d.lp*10000+d.at_*100+d.n/\d.lp*10000+d.at_*100+d.n < (k:Int)*10000+(1+((i+1:Nat):Int))*100;rw[h1,h2];push_cast;omega
 ·obtain⟨h1,h2,h3,h4,h5⟩:=Y8 ok hd;show (k:Int)*10000<=d.lp*10000+d.at_*100+d.n/\d.lp*10000+d.at_*100+d.n < ((k+1:Nat):Int)*10000;rw[h1];push_cast;omega
theorem ER {ja:YU} (ok:Dj ja):∀d∈up (pdL ja) ja.length,Bd3 d.spot:=λd hd=>by
 obtain⟨k,hk,hd⟩:=Ec hd;obtain⟨h1,h2,h3,h4,h5⟩:=Y8 ok hd;have:=ok.hi;exact⟨by show 0<=d.lp;omega,by show d.lp<=2;omega,by show 0<=d.at_;omega,h3,h4,h5⟩
theorem jj {lp:Int} {ps:List Place} (ok:OkL ps) {i:Nat} {s:Sp3} (h:s∈st1 lp ps i):s.lp=lp/\s.at_=((1+i:Nat):Int)/\i < ps.length/\0<=s.n/\s.n<=3:=by
 obtain⟨p,hp,h⟩:=FZ h;have h3:=(ok.ok p (QaI hp)).spur;obtain⟨n,hn,rfl⟩:=Qcl.mp h;have:=Qca.mp hn;exact⟨rq,rq,(Qai.mp hp).1,by show (0:Int)<=(n:Int);omega,by show (n:Int)<=3;omega⟩
theorem o9 {ja:YU} (ok:Dj ja) {k:Nat} {s:Sp3} (h:s∈stL ja k):s.lp=(k:Int)/\0<=s.at_/\s.at_<=12/\0<=s.n/\s.n<=3:=by
 obtain⟨ps,hps,h⟩:=FZ h;have okl:=ok.ok ps (QaI hps);have NE:=okl.hi;rcases Qcd.mp h with rfl | h
 ·exact⟨rq,by show (0:Int)<=0;decide,by show (0:Int)<=12;decide,by show (0:Int)<=0;decide,by show (0:Int)<=3;decide⟩
 ·obtain⟨i,hi,h⟩:=Ec h;obtain⟨h1,h2,h3,h4,h5⟩:=jj okl h;exact⟨h1,by rw[h2];omega,by rw[h2];omega,h4,h5⟩
theorem zV {ja:YU} (ok:Dj ja):((up (stL ja) ja.length).map cd3).Pairwise (· < ·):=by
 refine (La (g:=λi=>(i:Int)*10000) (λi=>by omega) (λk=>Lq λps hps=>?_) (λk d hd=>?_) ja.length).1
 ·have okl:=ok.ok ps (QaI hps);obtain⟨a,b⟩:=La (c:=cd3) (f:=st1 (k:Int) ps) (g:=λi=>(k:Int)*10000+(1+i:Int)*100) (λi=>by omega) (λi=>Lq λp hp=>by
   rw[Qcp];have:=lV ((k:Int)*10000+((1+i:Nat):Int)*100) (p.spur.length+1);exact this) (λi s hs=>by
   obtain⟨h1,h2,h3,h4,h5⟩:=jj okl hs;show (k:Int)*10000+(1+i:Int)*100<=s.lp*10000+s.at_*100+s.n/\s.lp*10000+s.at_*100+s.n < (k:Int)*10000+(1+((i+1:Nat):Int))*100;rw[h1,h2];push_cast;omega) ps.length
  rw[Qce];refine List.pairwise_cons.mpr ⟨λx hx=>?_,a⟩;obtain⟨s,hs,rfl⟩:=Qcl.mp hx;have h0:=(b s hs).1;have h0:(k:Int)*10000+(1+((0:Nat):Int))*100<=cd3 s:=h0;show (k:Int)*10000+0*100+0 < cd3 s;omega
 ·obtain⟨h1,h2,h3,h4,h5⟩:=o9 ok hd;show (k:Int)*10000<=d.lp*10000+d.at_*100+d.n/\d.lp*10000+d.at_*100+d.n < ((k+1:Nat):Int)*10000;rw[h1];push_cast;omega
theorem yQ {ja:YU} (ok:Dj ja):∀s∈up (stL ja) ja.length,Bd3 s:=λs hs=>by
 obtain⟨k,hk,hs⟩:=Ec hs;obtain⟨h1,h2,h3,h4,h5⟩:=o9 ok hs;have:=ok.hi;exact⟨by omega,by omega,h2,h3,h4,h5⟩
theorem Ym {α : Type} {c:α->Int} {l:List α} (h:(l.map c).Pairwise (· < ·)):l.Nodup:=by
 rw[Qbx] at h;exact h.imp λ{a b} hab e=>by rw[e] at hab;omega
abbrev Hs:Stmt:=(inClass (top 54) 0)
abbrev Di:YF:=["self","plan"]
theorem Jv:Ay ["self","plan"] Di (Aj Hs):=by ac_rfl
abbrev GX:Stmt:=(inClass (top 54) 1)
abbrev Cr:YF:=["self","stretch"]
theorem PN:Ay Cr Cr (Aj GX):=by ac_rfl
abbrev Qg:Stmt:=(inClass (top 54) 3)
abbrev JG:YF:=Cr
theorem cg:Ay Cr JG (Aj Qg):=by ac_rfl
abbrev Nq:Stmt:=(inClass (top 54) 4)
abbrev HF:YF:=Cr
theorem Yh:Ay Cr HF (Aj Nq):=by ac_rfl
abbrev Oi:Stmt:=(inClass (top 54) 5)
abbrev G8:YF:=Cr
theorem Z1:Ay Cr G8 (Aj Oi):=by ac_rfl
abbrev Jd:Stmt:=(inClass (top 54) 2)
abbrev DR:YF:=["self","spot"]
theorem RG:Ay DR DR (Aj Jd):=by ac_rfl
abbrev JZ:Stmt:=(inClass (top 54) 7)
abbrev Gg:YF:=DR
theorem Ux:Ay DR Gg (Aj JZ):=by ac_rfl
abbrev Lg:Stmt:=(inClass (top 54) 8)
abbrev G6:YF:=["self","spot","kind","address"]
theorem Wn:Ay G6 G6 (Aj Lg):=by ac_rfl
abbrev Np:Stmt:=(inClass (top 54) 9)
abbrev Hz:YF:=["self"]
theorem Yg:Ay ["self"] Hz (Aj Np):=by ac_rfl
structure Tw (K:YD) (mg:YB) (op oe kd wk C:Addr):Prop extends Ty K mg op oe kd wk where
 cl:Cls K C
 mgC:mg "Wires"=some (.ref C)
 dB:JL K C "plan"
 Gh:JL K C "states"
 Kc:JL K C "filled"
 G9:JL K C "gaps"
def ff (pl d1 d2 d3:Addr):List (Str×V):=[("plan",.ref pl),("states",.ref d1),("filled",.ref d2),("gaps",.ref d3)]
abbrev x8:YF:=["plan","states","filled","gaps"]
theorem wD:(x8:YF).Nodup:=by trivial
section
variable (pl d1 d2 d3:Addr)
theorem fnd:((ff pl d1 d2 d3).map (·.1)).Nodup:=wD
theorem FJ:List.lookup ("states":Str) (ff pl d1 d2 d3)=some (V.ref d1):=Ti (i:=1) (fnd pl d1 d2 d3) rfl
theorem K4:List.lookup ("filled":Str) (ff pl d1 d2 d3)=some (V.ref d2):=Ti (i:=2) (fnd pl d1 d2 d3) rfl
end
theorem fno {pl d1 d2 d3:Addr} {x:Str} (h:x∉(x8:YF)):(ff pl d1 d2 d3).lookup x=none:=zE h
def k3 (s:Sp3):List Key:=[.inl s.lp,.inl s.at_,.inl s.n]
theorem O4 {s t:Sp3} (h:k3 s=k3 t):s=t:=by
 cases s;cases t;simp[k3] at h;obtain⟨h1,h2,h3⟩:=h;subst h1 h2 h3;rfl
abbrev YR:=List (Sp3×Str)
def stV (hs:YR):YL:=hs.map λx=>(k3 x.1,.str x.2)
theorem jd {α : Type} {f:α->List Key×V}:∀{l:List α} {i:Nat} {x:α},(l.map λy=>(f y).1).Nodup->l[i]?=some x->Dv (l.map f) (f x).1=some (f x).2
 | [],_,_,_,h=>by simp at h
 | a::r,0,x,nd,h=>by
  simp at h;subst h;exact IV (p:=f a) rfl
 | a::r,i+1,x,nd,h=>by
  have h:r[i]?=some x:=by simpa using h
  obtain⟨n1,n2⟩:=QbO.mp nd;rw[Qce,GC (p:=f a) (λe=>n1 (by show (f a).1∈_;rw[e];exact Qcl.mpr ⟨x,QaI h,rq⟩))];exact jd n2 h
theorem Qw {κ : Type} [DecidableEq κ]:∀{l:List (κ×V)} {k:κ},(∀x∈l,x.1≠k)->Dv l k=none
 | [],_,_=>rfl
 | a::r,k,h=>by rw[GC (h a (QaW ..))];exact Qw λx hx=>h x (QaJ _ hx)
theorem Rg {κ : Type} [DecidableEq κ] {l:List (κ×V)} {k:κ} {v:V} (h:∃x∈l,x.1=k):putK l k v=l.map λkv=>if kv.1=k then (kv.1,v) else kv:=by
 unfold putK;obtain⟨x,hx,e⟩:=h;exact if_pos (List.any_eq_true.mpr ⟨x,hx,QbX e⟩)
def GD {β : Type} (l:List (Sp3×β)) (s:Sp3) (v:β):List (Sp3×β):=l.map λx=>if x.1=s then (x.1,v) else x
theorem Jb {β : Type} (l:List (Sp3×β)) (s:Sp3) (v:β):(GD l s v).map (·.1)=l.map (·.1):=by
 unfold GD;rw[Qcp];refine QaQ λx _=>?_;show (if x.1=s then (x.1,v) else x).1=x.1
 split <;> rfl
theorem Vj {β : Type} (l:List (Sp3×β)) (s:Sp3) (v:β):(GD l s v).length=l.length:=QbH ..
theorem Xy {hs:YR} {s:Sp3} {z:Str} (h:s∈hs.map (·.1)):putK (stV hs) (k3 s) (.str z)=stV (GD hs s z):=by
 obtain⟨x,hx,e⟩:=Qcl.mp h;rw[Rg (l:=stV hs) ⟨_,Qcl.mpr ⟨x,hx,rq⟩,by show k3 x.1=_;rw[e]⟩];unfold stV GD;rw[Qcp,Qcp];refine QaQ λy _=>?_;show (if k3 y.1=k3 s then (k3 y.1,V.str z) else (k3 y.1,V.str y.2))=(k3 (if y.1=s then (y.1,z) else y).1,V.str (if y.1=s then (y.1,z) else y).2)
 by_cases e:y.1=s
 ·rw[if_pos (by rw[e]),if_pos e]
 ·rw[if_neg (λz=>e (O4 z)),if_neg e]
def HeldAt (H:Hp) (v:V):Option (Str×Int)->Prop
 | none=>v=.non
 | some d=>∃t,v=.ref t/\H t=some (.tup [.str d.1,.int d.2])
def Ie (H:Hp) (kv:List Key×V) (x:Sp3×Option (Str×Int)):Prop:=kv.1=k3 x.1/\HeldAt H kv.2 x.2
theorem Ie.tups {H H':Hp} (s:Al H H') {kv:List Key×V} {x:Sp3×Option (Str×Int)} (h:Ie H kv x):Ie H' kv x:=by
 obtain⟨h1,h2⟩:=h;refine⟨h1,?_⟩;cases e:x.2 with
 | none=>rw[e] at h2;exact h2
 | some d=>
  rw[e] at h2;obtain⟨t,a,b⟩:=h2;exact⟨t,a,s _ _ b⟩
def k2 (g:Gt):List Key:=[.inl g.lp,.inl g.at_]
theorem Xb {s t:Gt} (h:k2 s=k2 t):s=t:=by
 cases s;cases t;simp[k2] at h;obtain⟨h1,h2⟩:=h;subst h1 h2;rfl
abbrev YT:=List (Gt×Bool)
def gpV (gs:YT):YL:=gs.map λx=>(k2 x.1,.bl x.2)
structure WAt (C:Addr) (H:Hp) (p pl d1 d2 d3:Addr) (hs:YR) (fl:List (Sp3×Option (Str×Int))) (gs:YT):Prop where
 ins:∃dx,H p=some (.ins C dx (ff pl d1 d2 d3))
 st:H d1=some (.dT (stV hs))
 fi:∃kvs,H d2=some (.dT kvs)/\Paired (Ie H) kvs fl
 nd1:(hs.map (·.1)).Nodup
 nd2:(fl.map (·.1)).Nodup
 l1:hs.length<=200
 l2:fl.length<=200
 gp:H d3=some (.dT (gpV gs))
 nd3:(gs.map (·.1)).Nodup
 l3:gs.length<=200
 n13:d1≠d3
 n23:d2≠d3
abbrev YQ:=List (Sp3×Option (Str×Int))
theorem WAt.same {C:Addr} {H H':Hp} {p pl d1 d2 d3:Addr} {hs:YR} {fl:YQ} {gs:YT} (h:WAt C H p pl d1 d2 d3 hs fl gs) (s:Same H H'):WAt C H' p pl d1 d2 d3 hs fl gs:=by
 obtain⟨dx,e⟩:=h.ins;obtain⟨kvs,e2,e3⟩:=h.fi;exact⟨⟨dx,s _ _ e⟩,s _ _ h.st,⟨kvs,s _ _ e2,Paired.Ax e3 λ_ _ z=>z.tups (Al.of s)⟩,h.nd1,h.nd2,h.l1,h.l2,s _ _ h.gp,h.nd3,h.l3,h.n13,h.n23⟩
theorem WAt.Gw {C b:Addr} {H H':Hp} {p pl d1 d2 d3:Addr} {hs:YR} {fl:YQ} {gs:YT} (h:WAt C H p pl d1 d2 d3 hs fl gs) (s:Ah b H H') (nt:∀zs,H b≠some (.tup zs)) (n0:p≠b) (n1:d1≠b) (n2:d2≠b) (n3:d3≠b):WAt C H' p pl d1 d2 d3 hs fl gs:=by
 obtain⟨dx,e⟩:=h.ins;obtain⟨kvs,e2,e3⟩:=h.fi;exact⟨⟨dx,s _ _ e n0⟩,s _ _ h.st n1,⟨kvs,s _ _ e2 n2,Paired.Ax e3 λ_ _ z=>z.tups (s.tup nt)⟩,h.nd1,h.nd2,h.l1,h.l2,s _ _ h.gp n3,h.nd3,h.l3,h.n13,h.n23⟩
def Sz (H:Hp) (v:V) (ss:YV):Prop:=∃b s,v=.ref b/\H b=some (.tup [.int s.lp,.int s.at_,.int s.n])/\s∈ss
def Jo (fl:YQ):List Sd:=fl.filterMap λx=>x.2.map λd=>⟨x.1.lp,x.1.at_,x.1.n,d.1,d.2⟩
theorem U5 {H:Hp} {v:V} {ss:YV} (h:Sz H v ss):Tz (Ir H v) 3=true:=by
 obtain⟨b,s,rfl,hb,_⟩:=h;rw[Cd hb];rfl
theorem O6 {H:Hp}:∀{kvs:YL} {fl:YQ},Paired (Ie H) kvs fl->kvs.map (·.1)=fl.map λx=>k3 x.1
 | _,_,.nil=>rfl
 | _,_,.cons h t=>by rw[Qce,Qce,h.1,O6 t]
theorem VP {H':Hp} {s:Sp3} {v:V} {o:Option (Str×Int)} (hv:HeldAt H' v o):∀{kvs:YL} {fl:YQ},Paired (Ie H') kvs fl->Paired (Ie H') (kvs.map λkv=>if kv.1=k3 s then (kv.1,v) else kv) (GD fl s o)
 | _,_,.nil=>.nil
 | _,_,.cons (a:=kv) (b:=x) h t=>by
  have ih:=VP (s:=s) hv t;refine .cons ?_ ih;show Ie H' (if kv.1=k3 s then (kv.1,v) else kv) (if x.1=s then (x.1,o) else x)
  by_cases e:x.1=s
  ·rw[if_pos e,if_pos (by rw[h.1,e])];exact⟨h.1,hv⟩
  ·rw[if_neg e,if_neg (λz=>e (O4 (by rw[<-h.1,z])))];exact h
theorem uN {C:Addr} {H H':Hp} {p pl d1 d2 d3:Addr} {hs:YR} {fl:YQ} {gs:YT} {s:Sp3} {z:Str} (R:WAt C H p pl d1 d2 d3 hs fl gs) (n12:d1≠d2) (e:H' d1=some (.dT (stV (GD hs s z)))) (sb:Ah d1 H H') (nt:∀zs,H d1≠some (.tup zs)) (npd:p≠d1):WAt C H' p pl d1 d2 d3 (GD hs s z) fl gs:=by
 obtain⟨dx,hp⟩:=R.ins;obtain⟨kvs,hk,hf⟩:=R.fi;exact⟨⟨dx,sb _ _ hp npd⟩,e,⟨kvs,sb _ _ hk n12.symm,Paired.Ax hf λ_ _ y=>y.tups (sb.tup nt)⟩,by rw[Jb];exact R.nd1,R.nd2,by rw[Vj];exact R.l1,R.l2,sb _ _ R.gp R.n13.symm,R.nd3,R.l3,R.n13,R.n23⟩
inductive Qz (C:Addr) (vs:YG) (H:Hp) (Q:VK) (E:XK):Prop
 | mk (p pl d1 d2 d3 hs fl gs b s) (_:vs=[.ref p,.ref b]) (_:WAt C H p pl d1 d2 d3 hs fl gs) (_:H b=some (.tup [.int s.lp,.int s.at_,.int s.n])) (_:s∈hs.map (·.1)) (_:∀H',Same H H'->Q .non H'):Qz C vs H Q E
inductive Pb (C:Addr) (z:Str) (vs:YG) (H:Hp) (Q:VK) (E:XK):Prop
 | mk (p pl d1 d2 d3 hs fl gs b s) (_:vs=[.ref p,.ref b]) (_:WAt C H p pl d1 d2 d3 hs fl gs) (_:d1≠d2) (_:H b=some (.tup [.int s.lp,.int s.at_,.int s.n])) (_:s∈hs.map (·.1)) (_:∀H',WAt C H' p pl d1 d2 d3 (GD hs s z) fl gs->Ah d1 H H'->Q .non H'):Pb C z vs H Q E
inductive Wj (C:Addr) (vs:YG) (H:Hp) (Q:VK) (E:XK):Prop
 | mk (p pl d1 d2 d3 hs fl gs b s) (_:vs=[.ref p,.ref b]) (_:WAt C H p pl d1 d2 d3 hs fl gs) (_:H b=some (.tup [.int s.lp,.int s.at_,.int s.n])) (_:s∈fl.map (·.1)) (_:∀H',Same H H'->Q .non H'):Wj C vs H Q E
inductive bI (C:Addr) (vs:YG) (H:Hp) (Q:VK) (E:XK):Prop
 | mk (p pl d1 d2 d3 hs fl gs b s) (_:vs=[.ref p,.ref b]) (_:WAt C H p pl d1 d2 d3 hs fl gs) (_:d1≠d2) (_:H b=some (.tup [.int s.lp,.int s.at_,.int s.n])) (_:s∈fl.map (·.1)) (_:∀H',WAt C H' p pl d1 d2 d3 hs (GD fl s none) gs->Ah d2 H H'->Q .non H'):bI C vs H Q E
inductive lJ (C:Addr) (vs:YG) (H:Hp) (Q:VK) (E:XK):Prop
 | mk (p pl d1 d2 d3 hs fl gs b s k x) (_:vs=[.ref p,.ref b,.str k,.int x]) (_:WAt C H p pl d1 d2 d3 hs fl gs) (_:d1≠d2) (_:H b=some (.tup [.int s.lp,.int s.at_,.int s.n])) (_:s∈fl.map (·.1)) (_:∀H',WAt C H' p pl d1 d2 d3 hs (GD fl s (some (k,x))) gs->Ah d2 H H'->Q .non H'):lJ C vs H Q E
inductive XM (C:Addr) (vs:YG) (H:Hp) (Q:VK) (E:XK):Prop
 | mk (p pl d1 d2 d3 hs fl gs) (_:vs=[.ref p]) (_:WAt C H p pl d1 d2 d3 hs fl gs) (_:∀l xs H',H l=none->H' l=some (.lst xs)->Paired (Kh H') xs (Jo fl)->Same H H'->Q (.ref l) H'):XM C vs H Q E
theorem jq {H:Hp} {v:V} {s:Sp3} (h:CN H v s):Th H v:=by
 obtain⟨u,rfl,e⟩:=h;refine⟨.inr ⟨_,e⟩,λxs ex=>?_⟩;rw[Cd e] at ex;cases ex;refine⟨by show 3<=100;decide,λy hy=>?_⟩;have:y=.int s.lp\/y=.int s.at_\/y=.int s.n:=by simpa using hy
 rcases this with rfl | rfl | rfl <;> exact True.intro
theorem Vu (c:GJ K C "check_stretch" "Wires.check_stretch" GX Cr) (T:Tw K mg op oe kd wk C) (Jk:⋯ "are_wholes" 2 Ge Mz):BX P w K mg base C "check_stretch" 3 Cr (Qz C):=by
 exists c,PN
 obtain⟨p,pl,d1,d2,d3,hs,fl,gs,b,s',rfl,R,hb,hin,q⟩:=h;refine⟨_,(Ag (Ce (PW.pt (Jr (Dp (Cz (BP Jk hr (Aa (pv 1) (Aa Af Ac))))) (Jz (Om (Pq (Cq hr) (pv 1) (CV (pv 0) rfl)))))) (Ag Rh) Bt)),?_⟩;refine⟨_,rq,.ref b,3,rq,jq ⟨b,rq,hb⟩,λH1 s1=>⟨_,rq,?_⟩⟩;rw[U5 ⟨b,s',rq,hb,hin⟩];have R1:=R.same s1;obtain⟨dx,hp⟩:=R1.ins;refine BK ⟨_,rq,_,rq,p,C,dx,_,_,rq,hp,T.cl,T.Gh,FJ pl d1 d2 d3,d1,_,rq,Dw.t (k:=k3 s') R1.st (s1 _ _ hb),_,rq,?_⟩;have hs':(Dv (stV hs) (k3 s')).isSome=true:=by
  obtain⟨x,hx,e⟩:=Qcl.mp hin;rw[<-K9,List.any_eq_true];exact⟨_,Qcl.mpr ⟨x,hx,rq⟩,QbX (by show k3 x.1=_;rw[e])⟩
 rw[hs'];exact BK (q _ s1)
theorem C1 (c:GJ K C "cut" "Wires.cut" Qg JG) (T:Tw K mg op oe kd wk C) (Dr:BX P w K mg base C "check_stretch" 3 Cr (Qz C)):BX P w K mg base C "cut" 4 JG (Pb C "cut"):=by
 exists c,cg
 obtain⟨p,pl,d1,d2,d3,hs,fl,gs,b,s',rfl,R,n12,hb,hin,q⟩:=h;refine⟨_,(Ae (Bc (Iv (pv 0) T.cl Dr hr (Aa (pv 1) Ac)))
 (Ag (Gs (Cq hr) (CV (pv 0) rfl) (pv 1) Bd rfl))),?_⟩
 show let R0:TS:=_;Ao _ R0 _ _ _;intro R0;obtain⟨dx,hp⟩:=R.ins;refine⟨_,rq,p,dx,_,rq,hp,fno (by trivial),_,rq,p,pl,d1,d2,d3,hs,fl,gs,b,s',rq,R,hb,hin,λH1 s1=>?_⟩;have R1:=R.same s1;obtain⟨dx1,hp1⟩:=R1.ins;have hd1:=R1.st;have npd:p≠d1:=λz=>by rw[z,hd1] at hp1;cases hp1
 have nt:∀zs,H1 d1≠some (.tup zs):=λzs z=>by rw[hd1] at z;cases z
 have l1:=R.l1;refine⟨_,rq,p,C,dx1,_,_,rq,hp1,T.cl,T.Gh,FJ pl d1 d2 d3,_,rq,d1,_,rq,Jm.t (k:=k3 s') hd1 (s1 _ _ hb) (Ar (by unfold stV;rw[QbH];omega)),?_⟩;rw[Xy hin];exact q _ (uN R1 n12 (H':=upd H1 d1 _) Ab (Ah.upd) nt npd) ((Ah.of s1).trans Ah.upd)
theorem vX (c:GJ K C "short" "Wires.short" Nq HF) (T:Tw K mg op oe kd wk C) (Dr:BX P w K mg base C "check_stretch" 3 Cr (Qz C)):BX P w K mg base C "short" 4 HF (Pb C "short"):=by
 exists c,Yh
 obtain⟨p,pl,d1,d2,d3,hs,fl,gs,b,s',rfl,R,n12,hb,hin,q⟩:=h;refine⟨_,(Ae (Bc (Iv (pv 0) T.cl Dr hr (Aa (pv 1) Ac)))
 (Ag (Gs (Cq hr) (CV (pv 0) rfl) (pv 1) Bd rfl))),?_⟩
 show let R0:TS:=_;Ao _ R0 _ _ _;intro R0;obtain⟨dx,hp⟩:=R.ins;refine⟨_,rq,p,dx,_,rq,hp,fno (by trivial),_,rq,p,pl,d1,d2,d3,hs,fl,gs,b,s',rq,R,hb,hin,λH1 s1=>?_⟩;have R1:=R.same s1;obtain⟨dx1,hp1⟩:=R1.ins;have hd1:=R1.st;have npd:p≠d1:=λz=>by rw[z,hd1] at hp1;cases hp1
 have nt:∀zs,H1 d1≠some (.tup zs):=λzs z=>by rw[hd1] at z;cases z
 have l1:=R.l1;refine⟨_,rq,p,C,dx1,_,_,rq,hp1,T.cl,T.Gh,FJ pl d1 d2 d3,_,rq,d1,_,rq,Jm.t (k:=k3 s') hd1 (s1 _ _ hb) (Ar (by unfold stV;rw[QbH];omega)),?_⟩;rw[Xy hin];exact q _ (uN R1 n12 (H':=upd H1 d1 _) Ab (Ah.upd) nt npd) ((Ah.of s1).trans Ah.upd)
theorem AF (c:GJ K C "mend" "Wires.mend" Oi G8) (T:Tw K mg op oe kd wk C) (Dr:BX P w K mg base C "check_stretch" 3 Cr (Qz C)):BX P w K mg base C "mend" 4 G8 (Pb C "whole"):=by
 exists c,Z1
 obtain⟨p,pl,d1,d2,d3,hs,fl,gs,b,s',rfl,R,n12,hb,hin,q⟩:=h;refine⟨_,(Ae (Bc (Iv (pv 0) T.cl Dr hr (Aa (pv 1) Ac)))
 (Ag (Gs (Cq hr) (CV (pv 0) rfl) (pv 1) Bd rfl))),?_⟩
 show let R0:TS:=_;Ao _ R0 _ _ _;intro R0;obtain⟨dx,hp⟩:=R.ins;refine⟨_,rq,p,dx,_,rq,hp,fno (by trivial),_,rq,p,pl,d1,d2,d3,hs,fl,gs,b,s',rq,R,hb,hin,λH1 s1=>?_⟩;have R1:=R.same s1;obtain⟨dx1,hp1⟩:=R1.ins;have hd1:=R1.st;have npd:p≠d1:=λz=>by rw[z,hd1] at hp1;cases hp1
 have nt:∀zs,H1 d1≠some (.tup zs):=λzs z=>by rw[hd1] at z;cases z
 have l1:=R.l1;refine⟨_,rq,p,C,dx1,_,_,rq,hp1,T.cl,T.Gh,FJ pl d1 d2 d3,_,rq,d1,_,rq,Jm.t (k:=k3 s') hd1 (s1 _ _ hb) (Ar (by unfold stV;rw[QbH];omega)),?_⟩;rw[Xy hin];exact q _ (uN R1 n12 (H':=upd H1 d1 _) Ab (Ah.upd) nt npd) ((Ah.of s1).trans Ah.upd)
theorem Z4 (c:GJ K C "check_spot" "Wires.check_spot" Jd DR) (T:Tw K mg op oe kd wk C) (Jk:⋯ "are_wholes" 2 Ge Mz):BX P w K mg base C "check_spot" 3 DR (Wj C):=by
 exists c,RG
 obtain⟨p,pl,d1,d2,d3,hs,fl,gs,b,s',rfl,R,hb,hin,q⟩:=h;refine⟨_,(Ag (Ce (PW.pt (Jr (Dp (Cz (BP Jk hr (Aa (pv 1) (Aa Af Ac))))) (Jz (Om (Pq (Cq hr) (pv 1) (CV (pv 0) rfl)))))) (Ag Rh) Bt)),?_⟩;refine⟨_,rq,.ref b,3,rq,jq ⟨b,rq,hb⟩,λH1 s1=>⟨_,rq,?_⟩⟩;rw[U5 ⟨b,s',rq,hb,hin⟩];have R1:=R.same s1;obtain⟨dx,hp⟩:=R1.ins;obtain⟨kvs,hk,hf⟩:=R1.fi;refine BK ⟨_,rq,_,rq,p,C,dx,_,_,rq,hp,T.cl,T.Kc,K4 pl d1 d2 d3,d2,_,rq,Dw.t (k:=k3 s') hk (s1 _ _ hb),_,rq,?_⟩;have hs':(Dv kvs (k3 s')).isSome=true:=by
  obtain⟨x,hx,e⟩:=Qcl.mp hin;have:k3 x.1∈kvs.map (·.1):=by rw[O6 hf];exact Qcl.mpr ⟨x,hx,rq⟩
  obtain⟨kv,hkv,ekv⟩:=Qcl.mp this;rw[<-K9,List.any_eq_true];exact⟨kv,hkv,QbX (by rw[ekv,e])⟩
 rw[hs'];exact BK (q _ s1)
theorem gR (c:GJ K C "take_out" "Wires.take_out" JZ Gg) (T:Tw K mg op oe kd wk C) (Lx:BX P w K mg base C "check_spot" 3 DR (Wj C)):BX P w K mg base C "take_out" 4 Gg (bI C):=by
 exists c,Ux
 obtain⟨p,pl,d1,d2,d3,hs,fl,gs,b,s',rfl,R,n12,hb,hin,q⟩:=h;refine⟨_,(Ae (Bc (Iv (pv 0) T.cl Lx hr (Aa (pv 1) Ac)))
 (Ag (Gs (Cq hr) (CV (pv 0) rfl) (pv 1) Jf rfl))),?_⟩
 show let R0:TS:=_;Ao _ R0 _ _ _;intro R0;obtain⟨dx,hp⟩:=R.ins;refine⟨_,rq,p,dx,_,rq,hp,fno (by trivial),_,rq,p,pl,d1,d2,d3,hs,fl,gs,b,s',rq,R,hb,hin,λH1 s1=>?_⟩;have R1:=R.same s1;obtain⟨dx1,hp1⟩:=R1.ins;obtain⟨kvs,hk,hf⟩:=R1.fi;have lk:=Qcc hf;have l2:=R.l2;have npd:p≠d2:=λz=>by rw[z,hk] at hp1;cases hp1
 have nt:∀zs,H1 d2≠some (.tup zs):=λzs z=>by rw[hk] at z;cases z
 refine⟨_,rq,p,C,dx1,_,_,rq,hp1,T.cl,T.Kc,K4 pl d1 d2 d3,_,rq,d2,_,rq,Jm.t (k:=k3 s') hk (s1 _ _ hb) (Ar (by omega)),?_⟩;have hold:∃x∈kvs,x.1=k3 s':=by
  obtain⟨y,hy,e⟩:=Qcl.mp hin;have:k3 y.1∈kvs.map (·.1):=by rw[O6 hf];exact Qcl.mpr ⟨y,hy,rq⟩
  obtain⟨kv,hkv,ekv⟩:=Qcl.mp this;exact⟨kv,hkv,by rw[ekv,e]⟩
 rw[Rg hold];have sT:=Al.upd (o:=.dT (kvs.map λkv=>if kv.1=k3 s' then (kv.1,V.non) else kv)) nt
 refine q _ ⟨⟨dx1,by rw[Am npd];exact hp1⟩,by rw[Am n12];exact R1.st,⟨_,Ab,VP (s:=s') (v:=.non) (o:=none) rfl (Paired.Ax hf λ_ _ z=>z.tups sT)⟩,R.nd1,by rw[Jb];exact R.nd2,R.l1,by rw[Vj];exact l2,by rw[Am R.n23.symm];exact R1.gp,R.nd3,R.l3,R.n13,R.n23⟩ ((Ah.of s1).trans Ah.upd)
theorem qj (c:GJ K C "put_in" "Wires.put_in" Lg G6) (T:Tw K mg op oe kd wk C) (Lx:BX P w K mg base C "check_spot" 3 DR (Wj C)):BX P w K mg base C "put_in" 4 G6 (lJ C):=by
 exists c,Wn
 obtain⟨p,pl,d1,d2,d3,hs,fl,gs,b,s',k,x,rfl,R,n12,hb,hin,q⟩:=h;refine⟨_,(Ae (Bc (Iv (pv 0) T.cl Lx hr (Aa (pv 1) Ac)))
 (Ag (Gs (Cq hr) (CV (pv 0) rfl) (pv 1) (Bb (Aa (pv 2) (Aa (pv 3) Ac))) rfl))),?_⟩
 show let R0:TS:=_;Ao _ R0 _ _ _;intro R0;obtain⟨dx,hp⟩:=R.ins;refine⟨_,rq,p,dx,_,rq,hp,fno (by trivial),_,rq,p,pl,d1,d2,d3,hs,fl,gs,b,s',rq,R,hb,hin,λH0 s0=>?_⟩;refine⟨_,rq,_,rq,ke,λt ht=>?_⟩;have s1:Same H (upd H0 t (.tup [.str k,.int x])):=s0.trans (Ad ht _);have ht1:(upd H0 t (.tup [.str k,.int x])) t=some (.tup [.str k,.int x]):=Ab;generalize upd H0 t (.tup [.str k,.int x])=H1 at *;have R1:=R.same s1;obtain⟨dx1,hp1⟩:=R1.ins;obtain⟨kvs,hk,hf⟩:=R1.fi;have lk:=Qcc hf;have l2:=R.l2;have npd:p≠d2:=λz=>by rw[z,hk] at hp1;cases hp1
 have nt:∀zs,H1 d2≠some (.tup zs):=λzs z=>by rw[hk] at z;cases z
 refine⟨_,rq,p,C,dx1,_,_,rq,hp1,T.cl,T.Kc,K4 pl d1 d2 d3,_,rq,d2,_,rq,Jm.t (k:=k3 s') hk (s1 _ _ hb) (Ar (by omega)),?_⟩;have hold:∃x∈kvs,x.1=k3 s':=by
  obtain⟨y,hy,e⟩:=Qcl.mp hin;have:k3 y.1∈kvs.map (·.1):=by rw[O6 hf];exact Qcl.mpr ⟨y,hy,rq⟩
  obtain⟨kv,hkv,ekv⟩:=Qcl.mp this;exact⟨kv,hkv,by rw[ekv,e]⟩
 rw[Rg hold];have sT:=Al.upd (o:=.dT (kvs.map λkv=>if kv.1=k3 s' then (kv.1,V.ref t) else kv)) nt
 refine q _ ⟨⟨dx1,by rw[Am npd];exact hp1⟩,by rw[Am n12];exact R1.st,⟨_,Ab,VP (s:=s') (v:=.ref t) (o:=some (k,x)) (show HeldAt _ (.ref t) (some (k,x)) from⟨t,rq,sT _ _ ht1⟩) (Paired.Ax hf λ_ _ z=>z.tups sT)⟩,R.nd1,by rw[Jb];exact R.nd2,R.l1,by rw[Vj];exact l2,by rw[Am R.n23.symm];exact R1.gp,R.nd3,R.l3,R.n13,R.n23⟩ ((Ah.of s1).trans Ah.upd)
theorem Kl {H HH:Hp} {d:Addr} {o:Obj} {u:HO} (s:Same (upd H d (.frz o u)) HH) (h:H d=some u):Same H (upd HH d u):=λc x e=>by
 by_cases z:c=d
 ·subst z;rw[Ab,<-h,e]
 ·rw[Am z];exact s _ _ (by rw[Am z];exact e)
theorem lA (fl:YQ) (x:Sp3×Option (Str×Int)):Jo (fl++[x])=Jo fl++Jo [x]:=by unfold Jo;rw[List.filterMap_append]
theorem lB (s:Sp3):Jo [(s,none)]=[]:=rfl
theorem kZ (s:Sp3) (d:Str×Int):Jo [(s,some d)]=[⟨s.lp,s.at_,s.n,d.1,d.2⟩]:=rfl
def hs0 (ja:YU):YR:=(up (stL ja) ja.length).map λs=>(s,"whole")
def fl0 (ja:YU):YQ:=(up (pdL ja) ja.length).map λd=>(d.spot,some (d.kind,d.addr))
theorem Yz (ja:YU):(hs0 ja).map (·.1)=up (stL ja) ja.length:=by unfold hs0;rw[Qcp];exact List.map_id _
theorem Oa (ja:YU):(fl0 ja).map (·.1)=(up (pdL ja) ja.length).map Sd.spot:=by unfold fl0;rw[Qcp];rfl
theorem Cb {ja:YU} (ok:Dj ja):(up (stL ja) ja.length).length<=200:=by
 have:=DP (f:=stL ja) (c:=49) (Xz ok) ja.length;have:=ok.hi;omega
theorem rP {ja:YU} (ok:Dj ja):(up (pdL ja) ja.length).length<=200:=by
 have:=DP (f:=pdL ja) (c:=48) (Yp ok) ja.length;have:=ok.hi;omega
theorem CO {ja:YU} (ok:Dj ja):(up (gtL ja) ja.length).length<=200:=by
 have:=DP (f:=gtL ja) (c:=14) (jL ok) ja.length;have:=ok.hi;omega
theorem FE {ja:YU} (ok:Dj ja):(up (stL ja) ja.length).Nodup:=Ym (zV ok)
theorem zF {ja:YU} (ok:Dj ja):((up (pdL ja) ja.length).map Sd.spot).Nodup:=Ym (c:=cd3) (by rw[Qcp];exact fG ok)
def gs0 (ja:YU):YT:=(up (gtL ja) ja.length).map λg=>(g,false)
theorem YS (ja:YU):(gs0 ja).map (·.1)=up (gtL ja) ja.length:=by unfold gs0;rw[Qcp];exact List.map_id _
def cd2 (g:Gt):Int:=g.lp*100+g.at_
theorem jM {lp:Int} {ps:List Place} {i:Nat} {g:Gt} (h:g∈gt1 lp ps i):g.lp=lp/\g.at_=((1+i:Nat):Int)/\i < ps.length:=by
 obtain⟨p,hp,h⟩:=FZ h;split at h
 ·have:g=⟨lp,((1+i:Nat):Int)⟩:=by simpa using h
  rw[this];exact⟨rq,rq,(Qai.mp hp).1⟩
 ·cases h
theorem qW {ja:YU} (ok:Dj ja) {k:Nat} {g:Gt} (h:g∈gtL ja k):g.lp=(k:Int)/\0<=g.at_/\g.at_<=13:=by
 obtain⟨ps,hps,h⟩:=FZ h;have hi:=(ok.ok ps (QaI hps)).hi;rcases QbI.mp h with h | h
 ·rcases Qcd.mp h with rfl | h
  ·exact⟨rq,by show (0:Int)<=0;decide,by show (0:Int)<=13;decide⟩
  ·obtain⟨i,hi',h⟩:=Ec h;obtain⟨h1,h2,h3⟩:=jM h;exact⟨h1,by rw[h2];omega,by rw[h2];omega⟩
 ·have:g=⟨(k:Int),(ps.length:Int)+1⟩:=by simpa using h
  rw[this];exact⟨rq,by show (0:Int)<=(ps.length:Int)+1;omega,by show (ps.length:Int)+1<=13;omega⟩
theorem AZ {ja:YU} (ok:Dj ja):((up (gtL ja) ja.length).map cd2).Pairwise (· < ·):=by
 refine (La (g:=λi=>(i:Int)*100) (λi=>by omega) (λk=>Lq λps hps=>?_) (λk g hg=>?_) ja.length).1
 ·obtain⟨a,b⟩:=La (c:=cd2) (f:=gt1 (k:Int) ps) (g:=λi=>(k:Int)*100+(1+i:Int)) (λi=>by omega) (λi=>Lq λp hp=>by
   split
   ·exact Qax _ _
   ·exact List.Pairwise.nil) (λi g hg=>by
   obtain⟨h1,h2,h3⟩:=jM hg;show (k:Int)*100+(1+i:Int)<=g.lp*100+g.at_/\g.lp*100+g.at_ < (k:Int)*100+(1+((i+1:Nat):Int));rw[h1,h2];push_cast;omega) ps.length
  rw[QbJ,Qce];have hb:∀x∈up (gt1 (k:Int) ps) ps.length,(k:Int)*100+(1+((0:Nat):Int))<=cd2 x/\cd2 x < (k:Int)*100+(1+((ps.length:Nat):Int)):=b;refine List.pairwise_append.mpr ⟨List.pairwise_cons.mpr ⟨λx hx=>?_,a⟩,Qax _ _,λx hx y hy=>?_⟩
  ·obtain⟨z,hz,rfl⟩:=Qcl.mp hx;have:=hb z hz;show (k:Int)*100+0 < cd2 z;omega
  ·have hy:y=(k:Int)*100+((ps.length:Int)+1):=by simpa [cd2] using hy
   rcases Qcd.mp hx with rfl | hx
   ·show (k:Int)*100+0 < y;omega
   ·obtain⟨z,hz,rfl⟩:=Qcl.mp hx;have:=hb z hz;omega
 ·obtain⟨h1,h2,h3⟩:=qW ok hg;show (k:Int)*100<=g.lp*100+g.at_/\g.lp*100+g.at_ < ((k+1:Nat):Int)*100;rw[h1];push_cast;omega
theorem nG {ja:YU} (ok:Dj ja):(up (gtL ja) ja.length).Nodup:=Ym (AZ ok)
inductive Yb (C:Addr) (vs:YG) (H:Hp) (Q:VK) (E:XK):Prop
 | mk (p dx pl most ja jn) (_:vs=[.ref p,.ref pl]) (_:H p=some (.ins C dx [])) (_:GF H pl most ja jn) (_:∀d1 d2 d3 H',H d1=none->H d2=none->H d3=none->d1≠d2->WAt C H' p pl d1 d2 d3 (hs0 ja) (fl0 ja) (gs0 ja)->Ah p H H'->Q .non H'):Yb C vs H Q E
abbrev xB:YF:=["spot","held"]
theorem vV (c:GJ K C "there" "Wires.there" Np Hz) (T:Tw K mg op oe kd wk C):BX P w K mg base C "there" 1 Hz (XM C):=by
 exists c,Yg
 obtain⟨p,pl,d1,d2,d3,hs,fl,gs,rfl,R,q⟩:=h;refine⟨_,(Ag (Az (Ou rfl (Cw (N':=xB) rfl nofun (Pk (CV (pv 0) rfl)) (~~~(FW (K:=K) (n:=2) rfl rfl (Ak (0∩xB) (Ak (1∩xB) Bo)))) (~~~(G3 (Br jB (pv 1) Jf (Bv _)))) (~~~(Bb (Aa (pv 0) (Aa (Bj (QG (K:=K) rfl) (pv 1) Af (λ_ _=>rfl)) (Aa (Bj (QG (K:=K) rfl) (pv 1) Af (λ_ _=>rfl)) Ac))))))))),?_⟩;obtain⟨dx,hp⟩:=R.ins;obtain⟨kvs,hk,hf⟩:=R.fi;have lk:=Qcc hf;have l2:=R.l2;have nfz:∀o' u,H d2≠some (.frz o' u):=λo' u z=>by rw[hk] at z;cases z
 have nt:∀zs,H d2≠some (.tup zs):=λzs z=>by rw[hk] at z;cases z
 refine⟨_,rq,p,C,dx,_,_,rq,hp,T.cl,T.Kc,K4 pl d1 d2 d3,d2,kvs,rq,hk,λo l hl=>?_⟩;have nl:l≠d2:=λz=>by rw[z,Ab] at hl;cases hl
 have OR:H l=none:=by rw[Am nl] at hl;exact hl
 have sT:Al H (upd H d2 (.frz o (.dT kvs))):=Al.upd nt;let J0:YN:=λi U HH=>(∃u v,U=[u,v])/\(∃tv,HH l=some (.lst tv)/\Paired (Kh HH) tv (Jo (fl.take i))/\tv.length<=i)/\Same (upd H d2 (.frz o (.dT kvs))) HH;refine Rq J0 ⟨⟨none,none,rq⟩,⟨[],Ab,.nil,Qcv _⟩,Ad hl _⟩ (λi U HH _ h=>h.2.2 _ _ Ab) (λi kv p' b U HH hkv h hp' hb=>?_) (fun U HH h=>?_)
 ·obtain⟨⟨u,v,rfl⟩,⟨tv,e1,e2,e3⟩,s1⟩:=h;obtain⟨x,hx,hfx⟩:=Paired.Ck hf hkv;have hi:=(Qai.mp hkv).1;have t1:=Ad hp' (.tup [.ref b,kv.2]);have et:Jo (fl.take (i+1))=Jo (fl.take i)++Jo [x]:=by rw[QcF hx,lA]
  refine⟨p',_,rq,SqT.of Ab,rq,_,_,rq,_,_,rq,rq,?_⟩;refine⟨_,rq,rq,_,rq,?_⟩;obtain⟨k1,k2⟩:=hfx;obtain⟨xs,xo⟩:=x;cases xo with
  | none=>
   have k2:kv.2=.non:=k2;rw[k2];refine BK ⟨⟨_,_,rq⟩,⟨tv,?_,?_,by omega⟩,?_⟩
   ·rw[k2] at t1;exact t1 _ _ e1
   ·rw[et,lB,QbM];rw[k2] at t1;exact Paired.Ax e2 λ_ _ z=>z.tups (Al.of t1)
   ·rw[k2] at t1;exact s1.trans t1
  | some d=>
   obtain⟨t,k2,ht⟩ : ∃t,kv.2=.ref t/\H t=some (.tup [.str d.1,.int d.2]):=k2;rw[k2] at t1 ⊢;have s2:=s1.trans t1;have ht1:=s2 _ _ (sT _ _ ht);have hb1:=t1 _ _ hb;rw[k1] at hb1;refine BL ⟨_,rq,_,rq,t,_,_,_,rq,rq,SqT.of ht1,rq,_,rq,t,_,_,_,rq,rq,SqT.of ht1,rq,kf,λtt htt=>?_⟩;have t2:=Ad htt (.tup [.ref b,.str d.1,.int d.2]);have e1':=t2 _ _ (t1 _ _ e1);have ntl:∀zs,(upd (upd HH p' (.tup [.ref b,.ref t])) tt (.tup [.ref b,.str d.1,.int d.2])) l≠some (.tup zs):=λzs z=>by rw[e1'] at z;cases z
   have sL:=Al.upd (o:=.lst (tv++[.ref tt])) ntl;refine⟨tv,e1',Ar (by omega),⟨_,_,rq⟩,⟨tv++[.ref tt],Ab,?_,by rw[QaV];show _+1<=_;omega⟩,(s2.trans t2).Bp Ah.upd hl⟩;rw[et,kZ];exact Qcx ⟨tt,b,rq,sL _ _ Ab,sL _ _ (t2 _ _ hb1)⟩ (Paired.Ax e2 λ_ _ z=>(z.tups (Al.of (t1.trans t2))).tups sL)
 ·obtain⟨_,⟨tv,e1,e2,e3⟩,s1⟩:=h;rw[lk,Qby] at e2;have hfz:=s1 _ _ Ab;have ntz:∀zs,HH d2≠some (.tup zs):=λzs z=>by rw[hfz] at z;cases z
  exact⟨d2,o,kvs,hfz,nfz,q l tv _ OR (by rw[Am nl];exact e1) (Paired.Ax e2 λ_ _ z=>z.tups (Al.upd ntz)) (Kl s1 hk)⟩
abbrev xi:YF:=["opener"]
abbrev xl:YF:=["stretch"]
theorem v9 (F:∃f fd,Fun K "__init__" "Wires.__init__" Hs f fd/\Mk K C f/\Binds K fd Di []) (T:Tw K mg op oe kd wk C) (Qo:⋯ "is_let_by" 10 FT Qy) (Qn:⋯ "stretches" 1 Ig aF) (DW:⋯ "devices" 2 Fb Nx) (Td:⋯ "openers" 1 Kv aG):oN P w K mg base C 11 Di (Yb C):=by
 obtain⟨f,fd,F,Mk,b⟩:=F;refine⟨f,fd,Mk,b,F.ok Jv (λvs H Q E h=>?_) (λ_ _ _ _ H vs Q E hr h=>?_)⟩
 ·obtain⟨p,dx,pl,most,ja,jn,rfl,_⟩:=h;rfl
 obtain⟨p,dx,pl,most,ja,jn,rfl,hp,pa,q⟩:=h;refine⟨_,(Ae (Ce (Dp (Cz (BJ Qo hr (Aa (pv 1) Ac)))) (Ag Rh) Bt)
 (Ae (Kq (pv 0) (pv 1) rfl)
 (Ae (Kq (pv 0) (Hj (Cq hr) (N':=xl) rfl nofun (Dc (BJ Qn hr (Aa (pv 1) Ac))) (~~~(0∩xl)) (λ_ _ _ _=>CT) (~~~(pv 0)) (λ_ _ _ _=>Bd)) rfl)
 (Ae (Kq (pv 0) (Hj (Cq hr) (N':=xf) rfl nofun (Dc (BJ DW hr (Aa (pv 1) Ac))) (~~~(FW (K:=K) (n:=3) rfl rfl (Ak (0∩xf) (Ak (1∩xf) (Ak (2∩xf) Bo))))) (λ_ _ _ _=>CT) (~~~(pv 0)) (~~~(Bb (Aa (pv 1) (Aa (pv 2) Ac))))) rfl)
 (Ag (Kq (pv 0) (Hj (Cq hr) (N':=xi) rfl nofun (Dc (BJ Td hr (Aa (pv 1) Ac))) (~~~(0∩xi)) (λ_ _ _ _=>CT) (~~~(pv 0)) (λ_ _ _ _=>DY)) rfl)))))),?_⟩
 show let R0:TS:=_;let R1:TS:=Ao _ R0;let R2:TS:=Ao _ R1;let R3:TS:=Ao _ R2;Ao _ R3 _ _ _;intro R0 R1 R2 R3;have ok:=pa.ok;have ntp:∀zs,H p≠some (.tup zs):=λzs z=>by rw[hp] at z;cases z
 refine⟨_,rq,pl,most,ja,jn,rq,pa,λH0 s0=>⟨_,rq,BK ?_⟩⟩;refine⟨_,rq,_,rq,p,C,dx,_,_,rq,s0 _ _ hp,T.cl,T.dB,(by show 0 < 1000;decide),Tg (by show _∉([]:YF);decide +kernel),λH1 h1 s1=>?_⟩;have r1:Ah p H H1:=(Ah.of s0).trans s1;have pa1:=pa.tups (r1.tup ntp);refine⟨_,rq,pl,ja,rq,pa1.plan,ok,λla xa H2 hla hxa hpa s2=>⟨la,rq,⟨_,SqL.of hxa⟩,λd1 f1=>?_⟩⟩;have lxa:=Qcc hpa;have FY:=Cb ok;have nda:=FE ok;let J1:YN:=λi U HH=>(∃u,U=[u])/\HH d1=some (.dT (stV (((up (stL ja) ja.length).take i).map λs=>(s,"whole"))))/\Same H2 HH;refine Qu (xs:=xa) J1 ⟨⟨_,rq⟩,Ab,Ad f1 _⟩ (λi U HH _ h=>SqL.of (h.2.2 _ _ hxa)) (λi x U HH hx h=>?_) (fun U HH h=>?_)
 ·obtain⟨⟨u,rfl⟩,e1,e2⟩:=h;obtain⟨sp,hsp,t,rfl,ht⟩:=Paired.Ck hpa hx;have hi:=(Qai.mp hx).1;unfold FN;dsimp only;refine BL ⟨_,rq,_,k3 sp,t,e1,rq,e2 _ _ ht,Ar (by unfold stV;rw[QbH,QbH,QbA];omega),⟨_,rq⟩,?_,e2.Bp Ah.upd f1⟩;rw[Ab,Ol,QcF hsp]
  ·unfold stV;rw[QbJ,QbJ];rfl
  ·refine Qw λy hy e=>?_;unfold stV at hy;rw[Qcp] at hy;obtain⟨z,hz,rfl⟩:=Qcl.mp hy;exact Ud nda hsp z hz (O4 e)
 obtain⟨_,e1,e2⟩:=h;rw[lxa,Qby] at e1;have e1:HH d1=some (.dT (stV (hs0 ja))):=e1;have r2:Ah p H HH:=r1.trans (Ah.of (s2.trans e2));refine⟨_,rq,p,C,dx,_,_,rq,e2 _ _ (s2 _ _ h1),T.cl,T.Gh,(by show 1 < 1000;decide),Tg (by show _∉(Fb:YF);decide +kernel),λH3 h3 s3=>?_⟩;have np1:d1≠p:=λz=>by rw[z,s2 _ _ h1] at f1;cases f1
 have u1:=s3 _ _ e1 np1;have r3:Ah p H H3:=r2.trans s3;have f1':H d1=none:=by
  cases e:H d1 with
  | none=>rfl
  | some v=>have:=r1.trans (Ah.of s2) _ _ e np1;rw[f1] at this;cases this
 clear s3 e1 e2 r2;have pa3:=pa.tups (r3.tup ntp);refine⟨_,rq,pl,ja,rq,pa3.plan,ok,λlb xb H4 hlb hxb hpb s4=>⟨lb,rq,⟨_,SqL.of hxb⟩,λd2 f2=>?_⟩⟩;have lxb:=Qcc hpb;have FX:=rP ok;have ndb:=zF ok;let J2:YN:=λi U HH=>(∃u v t,U=[u,v,t])/\(∃kvs,HH d2=some (.dT kvs)/\Paired (Ie HH) kvs (((up (pdL ja) ja.length).take i).map λd=>(d.spot,some (d.kind,d.addr))))/\Same H4 HH;refine Qu (xs:=xb) J2 ⟨⟨_,_,_,rq⟩,⟨[],Ab,.nil⟩,Ad f2 _⟩ (λi U HH _ h=>SqL.of (h.2.2 _ _ hxb)) (λi x U HH hx h=>?_) (fun U HH h=>?_)
 ·obtain⟨⟨u,v,t,rfl⟩,⟨kvs,e1,e3⟩,e2⟩:=h;obtain⟨d,hd,tt,uu,rfl,h5,h6⟩:=Paired.Ck hpb hx;have hi:=(Qai.mp hx).1;have lk:=Qcc e3;rw[QbH,QbA] at lk;refine⟨tt,_,rq,SqT.of (e2 _ _ h5),rq,_,_,rq,_,_,rq,_,_,rq,rq,?_⟩;refine BL ⟨_,rq,_,rq,_,rq,ke,λtn htn=>?_⟩;have t1:=Ad htn (.tup [.str d.kind,.int d.addr]);have e1':=t1 _ _ e1;have ntd:∀zs,(upd HH tn (.tup [.str d.kind,.int d.addr])) d2≠some (.tup zs):=λzs z=>by rw[e1'] at z;cases z
  refine⟨kvs,k3 d.spot,uu,e1',rq,t1 _ _ (e2 _ _ h6),Ar (by omega),⟨_,_,_,rq⟩,⟨_,Ab,?_⟩,(e2.trans t1).Bp Ah.upd f2⟩;rw[Ol,QcF hd,QbJ]
  ·have sL:=Al.upd (o:=.dT (kvs++[(k3 d.spot,V.ref tn)])) ntd;exact Qcx ⟨rq,⟨tn,rq,sL _ _ Ab⟩⟩ (Paired.Ax e3 λ_ _ z=>(z.tups (Al.of t1)).tups sL)
  ·refine Qw λy hy e=>?_;have:y.1∈kvs.map (·.1):=Qcl.mpr ⟨y,hy,rq⟩;rw[O6 e3,Qcp] at this;obtain⟨z,hz,ez⟩:=Qcl.mp this;exact JK ndb hd z hz (O4 (by rw[<-e,<-ez];rfl))
 obtain⟨_,⟨kvs,e1,e3⟩,e2⟩:=h;rw[lxb,Qby] at e3;have e3:Paired (Ie HH) kvs (fl0 ja):=e3;have h4:=e2 _ _ (s4 _ _ h3);have IL:∀zs,HH p≠some (.tup zs):=λzs z=>by rw[h4] at z;cases z
 have u2:=e2 _ _ (s4 _ _ u1);refine⟨_,rq,p,C,dx,_,_,rq,h4,T.cl,T.Kc,(by show 2 < 1000;decide),Tg (by show _∉(["plan","states"]:YF);decide +kernel),λH5 h5 s5=>?_⟩;have np2:d2≠p:=λz=>by rw[z,s4 _ _ h3] at f2;cases f2
 have n12:d1≠d2:=Aq (s4 _ _ u1) f2;have u3:=s5 _ _ u2 np1;have v3:=s5 _ _ e1 np2;have w3:Paired (Ie H5) kvs (fl0 ja):=Paired.Ax e3 λ_ _ z=>z.tups (s5.tup IL);have r5:Ah p H H5:=r3.trans ((Ah.of (s4.trans e2)).trans s5);have f2':H d2=none:=by
  cases e:H d2 with
  | none=>rfl
  | some v=>have:=r3.trans (Ah.of s4) _ _ e np2;rw[f2] at this;cases this
 clear s5 e1 e2 e3 u1 u2 h3 h4;have pa5:=pa.tups (r5.tup ntp);have ST:∀zs,H5 p≠some (.tup zs):=λzs z=>by rw[h5] at z;cases z
 refine⟨_,rq,pl,ja,rq,pa5.plan,ok,λlc xc H6 hlc hxc hpc s6=>⟨lc,rq,⟨_,SqL.of hxc⟩,λd3 f3=>?_⟩⟩;have lxc:=Qcc hpc;have FV:=CO ok;let J3:YN:=λi U HH=>(∃u,U=[u])/\HH d3=some (.dT (gpV (((up (gtL ja) ja.length).take i).map λg=>(g,false))))/\Same H6 HH;refine Qu (xs:=xc) J3 ⟨⟨_,rq⟩,Ab,Ad f3 _⟩ (λi U HH _ h=>SqL.of (h.2.2 _ _ hxc)) (λi x U HH hx h=>?_) (fun U HH h=>?_)
 ·obtain⟨⟨u,rfl⟩,e1,e2⟩:=h;obtain⟨g,hg,t,rfl,ht⟩:=Paired.Ck hpc hx;have hi:=(Qai.mp hx).1;unfold FN;dsimp only;refine BL ⟨_,rq,_,k2 g,t,e1,rq,e2 _ _ ht,Ar (by unfold gpV;rw[QbH,QbH,QbA];omega),⟨_,rq⟩,?_,e2.Bp Ah.upd f3⟩;rw[Ab,Ol,QcF hg]
  ·unfold gpV;rw[QbJ,QbJ];rfl
  ·refine Qw λy hy e=>?_;unfold gpV at hy;rw[Qcp] at hy;obtain⟨z,hz,rfl⟩:=Qcl.mp hy;exact Ud (nG ok) hg z hz (Xb e)
 obtain⟨_,e1,e2⟩:=h;rw[lxc,Qby] at e1;have e1:HH d3=some (.dT (gpV (gs0 ja))):=e1;have s7:=s6.trans e2;refine⟨_,rq,p,C,dx,_,_,rq,s7 _ _ h5,T.cl,T.G9,(by show 3 < 1000;decide),Tg (by show _∉(["plan","states","filled"]:YF);decide +kernel),λH8 h8 s8=>?_⟩;have np3:d3≠p:=λz=>by rw[z,s6 _ _ h5] at f3;cases f3
 have f3':H d3=none:=by
  cases e:H d3 with
  | none=>rfl
  | some v=>have:=r5.trans (Ah.of s6) _ _ e np3;rw[f3] at this;cases this
 have n13:d1≠d3:=Aq (s6 _ _ u3) f3;have n23:d2≠d3:=Aq (s6 _ _ v3) f3;have IJ:∀zs,HH p≠some (.tup zs):=λzs z=>by rw[s7 _ _ h5] at z;cases z
 exact q d1 d2 d3 H8 f1' f2' f3' n12 ⟨⟨dx,h8⟩,s8 _ _ (s7 _ _ u3) np1,⟨kvs,s8 _ _ (s7 _ _ v3) np2,Paired.Ax w3 λ_ _ z=>(z.tups (Al.of s7)).tups (s8.tup IJ)⟩,by rw[Yz];exact nda,by rw[Oa];exact ndb,by unfold hs0;rw[QbH];exact FY,by unfold fl0;rw[QbH];exact FX,s8 _ _ e1 np3,by rw[YS];exact nG ok,by unfold gs0;rw[QbH];exact FV,n13,n23⟩ (r5.trans ((Ah.of s7).trans s8))
section
variable {X:Cx}
def HP (ta:TE):TE:=fun U H Q=>ta U H λx H1=>∃t xs,x=.ref t/\H1 t=some (.tup xs)/\xs.isEmpty=false/\Q x H1
theorem CH {a b:Expr} {rest:YJ} {pos:Pos} {ta:TE} (ha:PE X a ta):PE X (.BoolOp .Or (a::b::rest) pos) (HP ta):=by
 intros Q I h;refine PyProof.Rows.BoolOp_or (thn (ha jb s U H _ I h) λv s1 zz=>?_);obtain⟨x,H1,I1,r1,t,xs,e,et,ne,q1⟩:=zz;subst e;cases r1;obtain⟨its,r,pl,hz⟩:=I1.tuple (SqT.of et);have hlen:=r.length;have hl:=M7;have hs:sizeLine=16777216:=Qcz;refine PyProof.Rows.truthy_tuple pl (by simp only[Qbl];omega) ?_;rw[Ri r,ne];exact⟨.ref t,H1,I1.tok _,rq,q1⟩
end
theorem dU {α : Type} {f:α->Key} {k:Key}:∀{xs:List α},(Dv (Gy f xs) k).isSome=false->∀x∈xs,f x≠k
 | y::r,h,x,hx=>by
  have e:Gy f (y::r)=(f y,V.bl true)::Gy f r:=rfl;rw[e] at h;by_cases hy:f y=k
  ·rw[IV (p:=(f y,V.bl true)) hy] at h;cases h
  ·rw[GC (p:=(f y,V.bl true)) hy] at h;rcases Qcd.mp hx with rfl | hx
   ·exact hy
   ·exact dU h x hx
def Dbl (H:Hp) (t:Addr):Prop:=∃ja,QL H t ja/\Dj ja/\¬(Cg ja).Nodup
def Ff (ja:YU):Prop:=(∀ps∈ja,OkL ps)/\(∀x∈Cg ja,1<=x/\x<=99)/\1<=ja.length/\ja.length<=3
def Mv (H:Hp) (v:V):Prop:=(Kn H v/\Rf (Ir H v) 3 3=false)\/∃(t:Addr) (x:Int) (Ls zs:Addr),v=.ref t/\H t=some (.tup [.int x,.ref Ls,.ref zs])/\(¬(1<=x/\x<=30)\/(1<=x/\x<=30)/\((∃ws,H Ls=some (.tup ws)/\(ws.length=0\/3 < ws.length)) \/
 ∃ws ja,H Ls=some (.tup ws)/\Paired (LoopAt H) ws ja/\Ff ja/\((∃zvs jn tz,H zs=some (.tup (zvs++[.ref tz]))/\Paired (Gz H) zvs jn/\(∀z∈jn,ZnB z)/\jn.length<=8/\Zj H tz) \/
  ∃zvs jn,H zs=some (.tup zvs)/\Paired (Gz H) zvs jn/\(∀z∈jn,ZnB z)/\jn.length<=8/\(jn.map (·.name)).Nodup/\¬(Cg ja).Nodup)))
theorem Mv.same {H H':Hp} {v:V} (h:Mv H v) (s:Same H H'):Mv H' v:=by
 have t:=Al.of s;rcases h with⟨h1,h2⟩|⟨t0,x,Ls,zs,e,h1,h2 |⟨hx,⟨ws,h3,h4⟩|⟨ws,ja,h3,h4,h5,h6⟩⟩⟩
 ·exact .inl ⟨h1.same s,by rw[kY s h1];exact h2⟩
 ·exact .inr ⟨t0,x,Ls,zs,e,s _ _ h1,.inl h2⟩
 ·exact .inr ⟨t0,x,Ls,zs,e,s _ _ h1,.inr ⟨hx,.inl ⟨ws,s _ _ h3,h4⟩⟩⟩
 ·refine .inr ⟨t0,x,Ls,zs,e,s _ _ h1,.inr ⟨hx,.inr ⟨ws,ja,s _ _ h3,Paired.Ax h4 λ_ _ z=>z.tups t,h5,?_⟩⟩⟩;rcases h6 with⟨zvs,jn,tz,g1,g2,g3,g4,g5⟩|⟨zvs,jn,g1,g2,g3⟩
  ·exact .inl ⟨zvs,jn,tz,s _ _ g1,Paired.Ax g2 λ_ _ z=>z.tups t,g3,g4,g5.tups t⟩
  ·exact .inr ⟨zvs,jn,s _ _ g1,Paired.Ax g2 λ_ _ z=>z.tups t,g3⟩
inductive X3 (vs:YG) (H:Hp) (Q:VK) (E:XK):Prop
 | mk (v) (_:vs=[v]) (_:Mv H v) (_:∀b H',Same H H'->(b=true->∃t,v=.ref t/\Dbl H t)->Q (.bl b) H'):X3 vs H Q E
inductive Wd (vs:YG) (H:Hp) (Q:VK) (E:XK):Prop
 | mk (t) (_:vs=[.ref t]) (_:Dbl H t) (_:∀tw xs H',H' tw=some (.tup xs)->xs.isEmpty=false->Same H H'->Q (.ref tw) H'):Wd vs H Q E
inductive bL (vs:YG) (H:Hp) (Q:VK) (E:XK):Prop
 | mk (v) (_:vs=[v]) (_:Mv H v) (_:∀H',Same H H'->Q (.bl false) H'):bL vs H Q E
theorem Dbl.same {H H':Hp} {t:Addr} (h:Dbl H t) (s:Same H H'):Dbl H' t:=by
 obtain⟨ja,⟨v0,v2,Ls,vs,a,b,c⟩,d⟩:=h;exact⟨ja,⟨v0,v2,Ls,vs,s _ _ a,s _ _ b,Paired.Ax c λ_ _ z=>z.tups (Al.of s)⟩,d⟩
theorem gW (C:Code K mg "is_plan" Pj Hl) (T:Ty K mg op oe kd wk) (Cu:⋯ "is_row" 1 Dz GK) (Ew:⋯ "is_within" 2 Et JT) (Qs:⋯ "are_loops" 8 Ik (RZ Q0 Vi)) (Qq:⋯ "are_zones" 5 Ij (RZ QZ Vd)) (DW:⋯ "devices" 2 Fb Nx):⋯ "is_plan" 9 Hl X3:=by
 have sc:=Es;exists C,Es
 obtain⟨v,rfl,nl,q⟩:=h;refine⟨_,(Ae (Ce (Dp (Cz (CW Cu hr (Aa (pv 0) (Aa Af (Aa Af Ac)))))) (Ag (Az DY)) Bt)
 (Ae (GZ (pv 0) (CK rfl (Ak (1∣Es) (Ak (2∣Es) (Ak (3∣Es) Bo)))))
 (Ae (Ce (PW.pt (Jr (Dp (Cz (CW Ew hr (Aa (pv 1) (Aa Af (Aa Af Ac)))))) (Jr (Dp (Cz (BJ Qs hr (Aa (pv 2) Ac)))) (Jz (Dp (Cz (BJ Qq hr (Aa (pv 3) Ac)))))))) (Ag (Az DY)) Bt)
 (Ag (Az (Ov Mp Mp Af (Aw Bh rfl T.len CJ (Aa (BJ DW hr (Aa (pv 0) Ac)) Ac)) Af)))))),?_⟩
 show let R0:TS:=_;let R1:TS:=Ao _ R0;let R2:TS:=Ao _ R1;Ao _ R2 _ _ _;intro R0 R1 R2;have nf:∀H',Same H H'->Q (.bl false) H':=λH' s=>q false H' s λz=>by cases z
 rcases nl with⟨k,r⟩|⟨t,x,Ls,zs,rfl,e1,nl⟩
 ·refine⟨_,rq,v,3,3,rq,k,_,rq,?_⟩;rw[r];exact BL (nf _ (Same.refl _))
 refine⟨_,rq,.ref t,3,3,rq,Fx e1,_,rq,?_⟩;rw[Cd e1,Ds (by show (3:Int)<=3;decide) (by show (3:Int)<=3;decide)];refine BK ⟨_,rq,t,_,rq,SqT.of e1,rq,_,_,rq,_,_,rq,_,_,rq,rq,?_⟩;refine⟨_,rq,x,1,30,rq,_,rq,?_⟩;rcases nl with hx |⟨hx,nl⟩
 ·rw[QbL hx];exact BL (BL (nf _ (Same.refl _)))
 rw[QbX hx];rcases nl with⟨ws,e2,hl⟩|⟨ws,ja,e2,e3,⟨k1,k2,k3,k4⟩,nl⟩
 ·exact BK ⟨_,rq,.inr ⟨Ls,ws,rq,e2,hl,_,rq,BL (BL (nf _ (Same.refl _)))⟩⟩
 refine BK ⟨_,rq,.inl ⟨Ls,ws,ja,rq,e2,e3,k1,k2,k3,k4,λH1 s1=>⟨_,rq,BK ?_⟩⟩⟩;rcases nl with⟨zvs,jn,tz,g1,g2,g3,g4,g5⟩|⟨zvs,jn,g1,g2,g3,g4,g5,g6⟩
 ·exact⟨_,rq,.inr ⟨zs,zvs,jn,tz,rq,s1 _ _ g1,Paired.Ax g2 λ_ _ z=>z.tups (Al.of s1),g3,g4,g5.tups (Al.of s1),λH2 s2=>⟨_,rq,BL (nf _ (s1.trans s2))⟩⟩⟩
 refine⟨_,rq,.inl ⟨zs,zvs,jn,rq,s1 _ _ g1,Paired.Ax g2 λ_ _ z=>z.tups (Al.of s1),g3,g4,g5,λH2 s2=>⟨_,rq,BK ?_⟩⟩⟩;have s12:=s1.trans s2;have hD:Dbl H t:=⟨ja,⟨.int x,.ref zs,Ls,ws,e1,e2,e3⟩,⟨k1,k4⟩,g6⟩;obtain⟨v0,v2,L0,vs0,a,b,c⟩ : QL H2 t ja:=⟨.int x,.ref zs,Ls,ws,s12 _ _ e1,s12 _ _ e2,Paired.Ax e3 λ_ _ z=>z.tups (Al.of s12)⟩;refine⟨_,rq,t,ja,rq,⟨v0,v2,L0,vs0,a,b,c⟩,⟨k1,k4⟩,λl xs H3 hl hx hp s3=>?_⟩;refine⟨l,_,rq,.inl (SqL.of hx),_,_,rq,rq,_,rq,Kd (λh1=>⟨_,_,rq,rq,?_⟩) (λh1=>?_)⟩
 ·exact q _ _ (s12.trans s3) λ_=>⟨t,rq,hD⟩
 ·exact q _ _ (s12.trans s3) λ_=>⟨t,rq,hD⟩
theorem UG (C:Code K mg "address_twice" Iu Dt) (T:Ty K mg op oe kd wk) (DW:⋯ "devices" 2 Fb Nx):⋯ "address_twice" 3 Dt Wd:=by
 have sc:=BW;exists C,BW
 obtain⟨t,rfl,⟨ja,⟨v0,v2,Ls,vs,a,b,c⟩,ok,nn⟩,q⟩:=h;refine⟨_,(Ae (1∪BW∪Vr)
 (Ae (Cj QbK rfl (Dc (BJ DW hr (Aa (pv 0) Ac))) (CK rfl (Ak (2∣BW) (Ak (3∣BW) (Ak (4∣BW) Bo))))
 (Ae (Ce (Om (cO (Cq hr) (pv 4) (pv 1))) (Ag (Az (Bb (Aa Bd (Aa (pv 4) Ac))))) Bt)
 (Ag (Gs (Cq hr) (pv 1) (pv 4) DY rfl))))
 (Ag (Az Jf)))),?_⟩
 show let R0:TS:=_;let R1:TS:=Ao (Hr _ R0 _) _;let R2:TS:=Ao (Dq _ _ R1) _;Ao _ R2 _ _ _;intro R0 R1 R2;refine λd hd=>?_;have s0:=Ad hd (.dK []);refine⟨_,rq,t,ja,rq,⟨v0,v2,Ls,vs,s0 _ _ a,s0 _ _ b,Paired.Ax c λ_ _ z=>z.tups (Al.of s0)⟩,ok,λl xs H1 hl hx hp s1=>⟨l,rq,⟨_,SqL.of hx⟩,?_⟩⟩;have lx:=Qcc hp;have LD:(up (pdL ja) ja.length).length<=200:=by
  have:=DP (f:=pdL ja) (c:=48) (Yp ok) ja.length;have:=ok.hi;omega
 have nd:¬((up (pdL ja) ja.length).map (·.addr)).Nodup:=by rw[Ho];exact nn
 generalize up (pdL ja) ja.length=ds at *;have hd1:H1 d=some (.dK []):=s1 _ _ Ab;have nld:l≠d:=λz=>by rw[z,hd1] at hx;cases hx
 have nt:∀HH:Hp,(∃kvs,HH d=some (.dK kvs))->∀zs,HH d≠some (.tup zs):=λHH ⟨kvs,e⟩ zs z=>by rw[e] at z;cases z
 let J0:YN:=λi U HH=>∃(u2 u3 u4:Option V),U=[jp t,jp d,u2,u3,u4]/\HH d=some (.dK (Gy (λz:Sd=>Sum.inl z.addr) (ds.take i)))/\((ds.take i).map (·.addr)).Nodup/\Ah d H1 HH;refine Lz (xs:=xs) J0 ⟨_,_,_,rq,hd1,QbZ,Ah.refl d H1⟩ (λi U HH _ h=>?_) (λi x U HH hx' h=>?_) (fun U HH h=>?_)
 ·obtain⟨u2,u3,u4,rfl,e1,e0,e2⟩:=h;exact SqL.of (e2 _ _ hx nld)
 ·obtain⟨u2,u3,u4,rfl,e1,e0,e2⟩:=h;obtain⟨z,hzi,tz,uz,rfl,h1,h2⟩:=Paired.Ck hp hx';have hi:=(Qai.mp hzi).1;have sT:=e2.tup (nt H1 ⟨_,hd1⟩);refine⟨tz,_,rq,SqT.of (sT _ _ h1),rq,_,_,rq,_,_,rq,_,_,rq,rq,?_⟩;refine⟨_,rq,_,rq,d,_,rq,Dw.k (k:=Sum.inl z.addr) e1,_,rq,Kd (λhc=>?_) (λhc=>?_)⟩
  ·refine⟨_,rq,ke,λtw htw=>?_⟩;exact q tw _ _ Ab rfl (((s0.trans s1).Bp e2 hd).trans (Ad htw _))
  ·have fr:∀y∈ds.take i,(Sum.inl y.addr:Key)≠Sum.inl z.addr:=dU hc;refine⟨_,rq,_,rq,d,_,rq,Jm.k (k:=Sum.inl z.addr) e1 (Ar (by rw[Ky,QbA];omega)),_,_,_,rq,?_,?_,e2.trans Ah.upd⟩
   ·rw[Ab,Nb (f:=λz:Sd=>Sum.inl z.addr) (x:=z) fr,QcF hzi]
   ·rw[QcF hzi,QbJ];refine Qbu.mpr ⟨e0,QbO.mpr ⟨by simp,QbZ⟩,λp hp p' hp' e=>?_⟩;obtain⟨y,hy,rfl⟩:=Qcl.mp hp;have hp':p'=z.addr:=by simpa using hp'
    exact fr y hy (by rw[e,hp'])
 ·obtain⟨u2,u3,u4,rfl,e1,e0,e2⟩:=h;rw[lx,Qby] at e0;exact absurd e0 nd
theorem qg (C:Code K mg "wrong" T5 Ku) (T:Ty K mg op oe kd wk) (K6:⋯ "address_twice" 3 Dt Wd):⋯ "wrong" 4 Ku Wd:=by
 exists C,bQ
 obtain⟨t,rfl,d,q⟩:=h;refine⟨_,(Ag (Az (CH (Ub K6 hr (Aa (pv 0) Ac))))),?_⟩;exact⟨_,rq,t,rq,d,λtw xs H' h1 h2 s1=>⟨tw,xs,rq,h1,h2,q tw xs H' h1 h2 s1⟩⟩
theorem Z2 (C:Code K mg "is_let_by" Mi FT) (T:Ty K mg op oe kd wk) (Te:⋯ "is_plan" 9 Hl X3) (Y0:⋯ "wrong" 4 Ku Wd):⋯ "is_let_by" 10 FT bL:=by
 exists C,Sq
 obtain⟨v,rfl,nl,q⟩:=h;refine⟨_,(Ag (Az (EY (BJ Te hr (Aa (pv 0) Ac)) (El (G4 qb (BJ Y0 hr (Aa (pv 0) Ac)) Jf (Bv _)))))),?_⟩;refine⟨_,rq,v,rq,nl,λb H1 s1 hb=>⟨b,rq,Kd (λe=>?_) (λe=>?_)⟩⟩
 ·obtain⟨t,rfl,d⟩:=hb e;exact⟨_,rq,t,rq,d.same s1,λtw xs H2 _ _ s2=>⟨rq,q _ (s1.trans s2)⟩⟩
 ·exact q _ s1
abbrev Nk:Stmt:=top 50
abbrev Hv:YF:=["states","loop","at"]
theorem GP:Ay ["states","loop","at","told","number"] Hv (Aj Nk):=by ac_rfl
def stC (hs:YR) (s:Sp3):Str:=((hs.find? λx=>decide (x.1=s)).map (·.2)).getD "cut"
theorem XC (s:Sp3):∀hs:YR,Dv (stV hs) (k3 s)=(hs.find? λx=>decide (x.1=s)).map λx=>V.str x.2
 | []=>rfl
 | a::r=>by
  by_cases e:a.1=s
  ·rw[QaC (p:=λx:Sp3×Str=>decide (x.1=s)) (QbX e)];exact IV (p:=(k3 a.1,V.str a.2)) (by rw[e])
  ·rw[Qaz (p:=λx:Sp3×Str=>decide (x.1=s)) (by simpa using e),<-XC s r];exact GC (p:=(k3 a.1,V.str a.2)) λz=>e (O4 z)
theorem ji (hs:YR) (s:Sp3):(Dv (stV hs) (k3 s)).getD (.str "cut")=.str (stC hs s):=by
 rw[XC];unfold stC;cases hs.find? λx=>decide (x.1=s) <;> rfl
theorem bh {hs:YR} {s:Sp3} (h:s∉hs.map (·.1)):stC hs s="cut":=by
 unfold stC;rw[List.find?_eq_none.mpr λx hx=>by simpa using λe=>h (Qcl.mpr ⟨x,hx,e⟩)];rfl
def Fj (hs:YR) (lp a:Int):Nat->Nat->YV
 | 0,_=>[]
 | f+1,n=>if stC hs ⟨lp,a,(n:Int)⟩="cut" then [] else ⟨lp,a,(n:Int)⟩::Fj hs lp a f (n+1)
def Cp (hs:YR) (lp a:Int):YV:=Fj hs lp a 4 1
theorem RW (hs:YR) (lp a:Int):∀f n,(Fj hs lp a f n).length<=f
 | 0,_=>Qcv _
 | f+1,n=>by
  unfold Fj;split
  ·exact Qcw _
  ·rw[Qbz];have:=RW hs lp a f (n+1);omega
inductive XS (vs:YG) (H:Hp) (Q:VK) (E:XK):Prop
 | mk (d1 hs lp a) (_:vs=[.ref d1,.int lp,.int a]) (_:Rd H d1 (.dT (stV hs))) (_:(∀s∈hs.map (·.1),Bd3 s)) (_:∀l xs H',H l=none->H' l=some (.lst xs)->Paired (CN H') xs (Cp hs lp a)->Same H H'->Q (.ref l) H'):XS vs H Q E
theorem Yr (c:Code K mg "spur_pieces" Nk Hv) (T:Tw K mg op oe kd wk C):⋯ "spur_pieces" 1 Hv XS:=by
 have sc:=GP;exists c,GP
 obtain⟨d1,hs,lp,a,rfl,hd,hb,q⟩:=h;refine⟨_,(Ae (3∪GP∪(BZ Ac))
 (Ae (4∪GP∪Af)
 (Ae (cG QbK (Br Wz (Vs (Cq hr) (pv 0) (Bb (Aa (pv 1) (Aa (pv 2) (Aa (pv 4) Ac)))) Bd ⟨rq,rq,rq,rq⟩) Bd (Bv _)) (Ae (Bc (Cy Qas Qao Qap Cv (pv 3) (Aa (Bb (Aa (pv 1) (Aa (pv 2) (Aa (pv 4) Ac)))) Ac)))
 (Ag (pQ (i:=4) GP.nd rfl (Or.inl rfl) Af qO))))
 (Ag (Az (pv 3)))))),?_⟩
 show let R0:TS:=_;let R1:TS:=Ao _ R0;let R2:TS:=Ao (aW _ R1) _;let R3:TS:=Ao _ R2;Ao _ R3 _ _ _;intro R0 R1 R2 R3;refine⟨js,λl hl=>?_⟩;refine⟨λm U HH=>∃n:Nat,1<=n/\n+m=5/\U=[jp d1,some (.int lp),some (.int a),jp l,some (.int (n:Int))]/\(∃xs pre,HH l=some (.lst xs)/\Paired (CN HH) xs pre/\pre.length < n/\pre++Fj hs lp a m n=Cp hs lp a)/\Same H HH,⟨4,1,Qcv _,rq,rq,⟨[],[],Ab,.nil,by decide,rq⟩,Ad hl _⟩,λm U HH h=>?_⟩;obtain⟨n,n1,nm,rfl,⟨xs,pre,e1,e2,e3,e4⟩,e5⟩:=h;have hdH:Rd HH d1 (.dT (stV hs)):=by
  rcases hd with hd |⟨o,hd⟩
  ·exact .inl (e5 _ _ hd)
  ·exact .inr ⟨o,e5 _ _ hd⟩
 refine⟨_,rq,d1,rq,.inr ⟨_,hdH⟩,_,rq,_,rq,_,rq,kf,λtk htk=>?_⟩;have k1:=Ad htk (.tup [.int lp,.int a,.int (n:Int)]);have hdK:Rd (upd HH tk (.tup [.int lp,.int a,.int (n:Int)])) d1 (.dT (stV hs)):=by
  rcases hdH with hd |⟨o,hd⟩
  ·exact .inl (k1 _ _ hd)
  ·exact .inr ⟨o,k1 _ _ hd⟩
 have g:Dw (upd HH tk (.tup [.int lp,.int a,.int (n:Int)])) d1 (.ref tk) (Dv (stV hs) (k3 ⟨lp,a,(n:Int)⟩)):=.inr ⟨_,_,tk,hdK,rq,Ab,rq⟩;refine⟨_,g,?_⟩;dsimp only;rw[ji];have e1k:=k1 _ _ e1;have e2k:Paired (CN (upd HH tk (.tup [.int lp,.int a,.int (n:Int)]))) xs pre:=Paired.Ax e2 λ_ _ z=>z.tups (Al.of k1);generalize upd HH tk (.tup [.int lp,.int a,.int (n:Int)])=HK at *;have e5k:=e5.trans k1;refine⟨rq,_,rq,?_⟩;by_cases hc:stC hs ⟨lp,a,(n:Int)⟩="cut"
 ·rw[show (!decide (V.str (stC hs ⟨lp,a,(n:Int)⟩)=V.str "cut"))=false by rw[hc];decide +kernel];refine BK ⟨_,rq,q l xs HK hl e1k ?_ e5k⟩;have:Fj hs lp a m n=[]:=by
   cases m with
   | zero=>rfl
   | succ m=>exact if_pos hc
  rw[this,QbM] at e4;rw[<-e4];exact e2k
 ·have hne:¬V.str (stC hs ⟨lp,a,(n:Int)⟩)=V.str "cut":=λz=>hc (V.str.inj z);rw[show (!decide (V.str (stC hs ⟨lp,a,(n:Int)⟩)=V.str "cut"))=true by rw[QbL hne];rfl];obtain⟨m',rfl⟩ : ∃m',m=m'+1:=by
   cases m with
   | succ m=>exact⟨m,rfl⟩
   | zero=>
    refine absurd (bh λhin=>?_) hc;have:=(hb _ hin).n1;have h5:n=5:=by omega
    subst h5;have this:((5:Nat):Int)<=3:=this;omega
  have e4':(pre++[⟨lp,a,(n:Int)⟩])++Fj hs lp a m' (n+1)=Cp hs lp a:=by
   rw[<-e4,Qbn];show _=pre++Fj hs lp a (m'+1) n;rw[show Fj hs lp a (m'+1) n=⟨lp,a,(n:Int)⟩::Fj hs lp a m' (n+1) from if_neg hc]
   rfl
  have lx:=Qcc e2k;refine BL ⟨_,fun σ' H' h=>⟨m',QbE _,h⟩,?_⟩;refine⟨_,rq,.inl ⟨rq,_,SqL.of e1k⟩,_,rq,_,rq,_,rq,kf,λtp htp=>?_⟩;have k2':=Ad htp (.tup [.int lp,.int a,.int (n:Int)]);have e1p:=k2' _ _ e1k;have ntl:∀zs,(upd HK tp (.tup [.int lp,.int a,.int (n:Int)])) l≠some (.tup zs):=λzs z=>by rw[e1p] at z;cases z
  have sL:=Al.upd (o:=.lst (xs++[.ref tp])) ntl;refine⟨l,_,_,rq,rq,e1p,Ar (by omega),?_⟩;refine⟨_,rq,_,_,rq,rq,n+1,by omega,by omega,?_,⟨xs++[.ref tp],pre++[⟨lp,a,(n:Int)⟩],Ab,Qcx ⟨tp,rq,sL _ _ Ab⟩ (Paired.Ax e2k λ_ _ z=>(z.tups (Al.of k2')).tups sL),by rw[QaV];show _+1 < _;omega,e4'⟩,(e5k.trans k2').Bp Ah.upd hl⟩;show [some (V.ref d1),some (.int lp),some (.int a),jp l,some (.int ((n:Int)+1))]=_;rw[Int.natCast_add];rfl
abbrev SM:Stmt:=top 51
abbrev Kw:YF:=["states","gaps","opener","step"]
theorem Gv:Ay ["states","gaps","opener","step","loop","at","wires","places","pieces"] Kw (Aj SM):=by ac_rfl
abbrev Mj:Stmt:=top 52
abbrev Ii:YF:=["states","wires"]
theorem bV:Ay Ii Ii (Aj Mj):=by ac_rfl
abbrev JW:Stmt:=top 53
abbrev En:YF:=["states","gaps","opener"]
theorem Ed:Ay ["states","gaps","opener","to_b","places_to_b","to_a","places_to_a"] En (Aj JW):=by ac_rfl
instance:DecidableEq Gt:=λa b=>if h:a.lp=b.lp/\a.at_=b.at_ then isTrue (by cases a;cases b;simp at h;obtain⟨h1,h2⟩:=h;subst h1 h2;rfl) else isFalse λe=>h (by rw[e];exact⟨rfl,rfl⟩)
def gpC (gs:YT) (g:Gt):Bool:=((gs.find? λx=>decide (x.1=g)).map (·.2)).getD false
theorem YW (g:Gt):∀gs:YT,Dv (gpV gs) (k2 g)=(gs.find? λx=>decide (x.1=g)).map λx=>V.bl x.2
 | []=>rfl
 | a::r=>by
  by_cases e:a.1=g
  ·rw[QaC (p:=λx:Gt×Bool=>decide (x.1=g)) (QbX e)];exact IV (p:=(k2 a.1,V.bl a.2)) (by rw[e])
  ·rw[Qaz (p:=λx:Gt×Bool=>decide (x.1=g)) (by simpa using e),<-YW g r];exact GC (p:=(k2 a.1,V.bl a.2)) λz=>e (Xb z)
theorem A3 (gs:YT) (g:Gt):(Dv (gpV gs) (k2 g)).getD (.bl false)=.bl (gpC gs g):=by
 rw[YW];unfold gpC;cases gs.find? λx=>decide (x.1=g) <;> rfl
def CP (a b:Int):Int:=if b < a then b else a
def Bm (hs:YR) (gs:YT) (lp st:Int):Nat->Int->YV×YV
 | 0,_=>([],[])
 | f+1,a=>if stC hs ⟨lp,CP a (a+st),0⟩="cut" then ([],[]) else
  if gpC gs ⟨lp,a+st⟩=true then (⟨lp,CP a (a+st),0⟩::Cp hs lp (a+st),⟨lp,a+st,0⟩::Cp hs lp (a+st))
  else ((⟨lp,CP a (a+st),0⟩::Cp hs lp (a+st))++(Bm hs gs lp st f (a+st)).1,(⟨lp,a+st,0⟩::Cp hs lp (a+st))++(Bm hs gs lp st f (a+st)).2)
structure Ws (H0 H:Hp) (l1 l2:Addr) (wa pa:YV):Prop where
 w:∃xs,H l1=some (.lst xs)/\Paired (CN H) xs wa
 p:∃ys,H l2=some (.lst ys)/\Paired (CN H) ys pa
 sm:Same H0 H
theorem Ws.same {H0 H H':Hp} {l1 l2:Addr} {wa pa:YV} (h:Ws H0 H l1 l2 wa pa) (s:Same H H'):Ws H0 H' l1 l2 wa pa:=by
 obtain⟨xs,a1,a2⟩:=h.w;obtain⟨ys,b1,b2⟩:=h.p;exact⟨⟨xs,s _ _ a1,Paired.Ax a2 λ_ _ z=>z.tups (Al.of s)⟩,⟨ys,s _ _ b1,Paired.Ax b2 λ_ _ z=>z.tups (Al.of s)⟩,h.sm.trans s⟩
theorem Ws.E4 {H0 H:Hp} {l1 l2:Addr} {wa pa ss:YV} {zs xs:YG} (h:Ws H0 H l1 l2 wa pa) (n:l1≠l2) (f:H0 l1=none) (hx:H l1=some (.lst xs)) (hz:Paired (CN H) zs ss):Ws H0 (upd H l1 (.lst (xs++zs))) l1 l2 (wa++ss) pa:=by
 obtain⟨xs',a1,a2⟩:=h.w;obtain⟨ys,b1,b2⟩:=h.p;rw[hx] at a1;cases a1;have nt:∀us,H l1≠some (.tup us):=λus z=>by rw[hx] at z;cases z
 have t:=Al.upd (o:=.lst (xs++zs)) nt;exact⟨⟨_,Ab,Paired.app (Paired.Ax a2 λ_ _ z=>z.tups t) (Paired.Ax hz λ_ _ z=>z.tups t)⟩,⟨ys,by rw[Am n.symm];exact b1,Paired.Ax b2 λ_ _ z=>z.tups t⟩,h.sm.Bp Ah.upd f⟩
theorem Ws.add2 {H0 H:Hp} {l1 l2:Addr} {wa pa ss:YV} {zs ys:YG} (h:Ws H0 H l1 l2 wa pa) (n:l1≠l2) (f:H0 l2=none) (hy:H l2=some (.lst ys)) (hz:Paired (CN H) zs ss):Ws H0 (upd H l2 (.lst (ys++zs))) l1 l2 wa (pa++ss):=by
 obtain⟨xs,a1,a2⟩:=h.w;obtain⟨ys',b1,b2⟩:=h.p;rw[hy] at b1;cases b1;have nt:∀us,H l2≠some (.tup us):=λus z=>by rw[hy] at z;cases z
 have t:=Al.upd (o:=.lst (ys++zs)) nt;exact⟨⟨xs,by rw[Am n];exact a1,Paired.Ax a2 λ_ _ z=>z.tups t⟩,⟨_,Ab,Paired.app (Paired.Ax b2 λ_ _ z=>z.tups t) (Paired.Ax hz λ_ _ z=>z.tups t)⟩,h.sm.Bp Ah.upd f⟩
inductive Wi (vs:YG) (H:Hp) (Q:VK) (E:XK):Prop
 | mk (d1 d3 o:Addr) (hs:YR) (gs:YT) (g:Gt) (st:Int) (_:vs=[.ref d1,.ref d3,.ref o,.int st]) (_:Rd H d1 (.dT (stV hs))) (_:Rd H d3 (.dT (gpV gs))) (_:H o=some (.tup [.int g.lp,.int g.at_])) (_:(∀s∈hs.map (·.1),Bd3 s)) (_:(st=1\/st=-1)) (_:-1<=g.at_) (_:g.at_<=14) (_:∀t l1 l2 xs ys H',H' t=some (.tup [.ref l1,.ref l2])->H' l1=some (.lst xs)->Paired (CN H') xs (Bm hs gs g.lp st 16 g.at_).1->H' l2=some (.lst ys)->Paired (CN H') ys (Bm hs gs g.lp st 16 g.at_).2->Same H H'->Q (.ref t) H'):Wi vs H Q E
theorem mK (c:Code K mg "come_to" SM Kw) (T:Tw K mg op oe kd wk C) (aq:⋯ "spur_pieces" 1 Hv XS):⋯ "come_to" 2 Kw Wi:=by
 have sc:=Gv;exists c,Gv
 obtain⟨d1,d3,o,hs,gs,g,st,rfl,hd,hd3,ho,hb,hst,ga,gb,q⟩:=h;refine⟨_,(Ae (GZ (pv 2) (CK rfl (Ak (4∣Gv) (Ak (5∣Gv) Bo))))
 (Ae (6∪Gv∪(BZ Ac))
 (Ae (7∪Gv∪(BZ Ac))
 (Ae (cG QbK (Br Wz (Vs (Cq hr) (pv 0) (Bb (Aa (pv 4) (Aa (Aw (PJ rfl) rfl T.min Xm (Aa (pv 5) (Aa (Bf CG (pv 5) (pv 3)) Ac))) (Aa Af Ac)))) Bd ⟨rq,rq,rq,rq⟩) Bd (Bv _)) (Ae (Bc (Cy Qas Qao Qap Cv (pv 6) (Aa (Bb (Aa (pv 4) (Aa (Aw (PJ rfl) rfl T.min Xm (Aa (pv 5) (Aa (Bf CG (pv 5) (pv 3)) Ac))) (Aa Af Ac)))) Ac)))
 (Ae (pQ (i:=5) Gv.nd rfl (Or.inl rfl) (pv 3) qO)
 (Ae (8∪Gv∪(CW aq hr (Aa (pv 0) (Aa (pv 4) (Aa (pv 5) Ac)))))
 (Ae (Bc (Cy Qas Qaq Qar Fe (pv 6) (Aa (pv 8) Ac)))
 (Ae (Bc (Cy Qas Qao Qap Cv (pv 7) (Aa (Bb (Aa (pv 4) (Aa (pv 5) (Aa Af Ac)))) Ac)))
 (Ae (Bc (Cy Qas Qaq Qar Fe (pv 7) (Aa (pv 8) Ac)))
 (Ag (Ce (vo (Vs (Cq hr) (pv 1) (Bb (Aa (pv 4) (Aa (pv 5) Ac))) DY ⟨rq,rq,rq,rq⟩) (λ_=>rfl)) (Ag vD) Bt)))))))))
 (Ag (Az (Bb (Aa (pv 6) (Aa (pv 7) Ac))))))))),?_⟩
 show let R0:TS:=_;let R1:TS:=_;let R2:TS:=Ao _ R1;let R3:TS:=Ao _ R2;let R4:TS:=Ao _ R3;let R5:TS:=Ao _ R4;let R6:TS:=Ao _ R5;let R7:TS:=Ao _ R6;let R8:TS:=Ao (aW _ R7) R0;let R9:TS:=Ao _ R8;let R10:TS:=Ao _ R9;Ao _ R10 _ _ _;intro R0 R1 R2 R3 R4 R5 R6 R7 R8 R9 R10;refine⟨_,rq,o,_,rq,SqT.of ho,rq,_,_,rq,_,_,rq,rq,?_⟩;refine⟨js,λl1 hl1=>?_⟩;refine⟨js,λl2 hl2=>?_⟩;have n1:=Ad hl1 (.lst []);have n2:=Ad hl2 (.lst []);have hl2':H l2=none:=n1.free hl2;have n12:l1≠l2:=Aq Ab hl2;have rdS:∀{HA HB:Hp} {d:Addr} {u:HO},Rd HA d u->Same HA HB->Rd HB d u:=λh s=>by
  rcases h with h |⟨o,h⟩
  ·exact .inl (s _ _ h)
  ·exact .inr ⟨o,s _ _ h⟩
 have hm0:(st=1/\g.at_+((16:Nat):Int)=g.at_+16)\/(st=-1/\g.at_ - ((16:Nat):Int)=g.at_ - 16):=by
  rcases hst with h | h
  ·exact .inl ⟨h,by omega⟩
  ·exact .inr ⟨h,by omega⟩
 refine⟨λm U HH=>∃(a:Int) (u8:Option V) (wa pa:YV),((st=1/\a+m=g.at_+16)\/(st=-1/\a - m=g.at_ - 16))/\U=[jp d1,jp d3,jp o,some (.int st),some (.int g.lp),some (.int a),jp l1,jp l2,u8]/\Ws H HH l1 l2 wa pa/\wa.length+10*m<=160/\pa.length+10*m<=160/\wa++(Bm hs gs g.lp st m a).1=(Bm hs gs g.lp st 16 g.at_).1/\pa++(Bm hs gs g.lp st m a).2=(Bm hs gs g.lp st 16 g.at_).2,⟨16,g.at_,_,[],[],hm0,rq,⟨⟨[],n2 _ _ Ab,.nil⟩,⟨[],Ab,.nil⟩,n1.trans n2⟩,by decide,by decide,rq,rq⟩,λm U HH h=>?_⟩;obtain⟨a,u8,wa,pa,hm,rfl,W,e5,e6,e7,e8⟩:=h;refine⟨_,rq,d1,rq,.inr ⟨_,rdS hd W.sm⟩,_,rq,_,rq,_,rq,_,rq,_,_,rq,rq,_,_,rq,kf,λtk htk=>?_⟩;rw[show (if a+st < a then a+st else a)=CP a (a+st) from rfl]
 have k1:=Ad htk (.tup [.int g.lp,.int (CP a (a+st)),.int 0]);have W1:=W.same k1;have gg:Dw (upd HH tk (.tup [.int g.lp,.int (CP a (a+st)),.int 0])) d1 (.ref tk) (Dv (stV hs) (k3 ⟨g.lp,CP a (a+st),0⟩)):=.inr ⟨_,_,tk,rdS hd W1.sm,rq,Ab,rq⟩;refine⟨_,gg,?_⟩;dsimp only;rw[ji];generalize upd HH tk (.tup [.int g.lp,.int (CP a (a+st)),.int 0])=HK at *;refine⟨rq,_,rq,?_⟩;have done:∀(HX:Hp) (wx px:YV) (u:Option V) (aa:Int),Ws H HX l1 l2 wx px->wx=(Bm hs gs g.lp st 16 g.at_).1->px=(Bm hs gs g.lp st 16 g.at_).2->∀t,HX t=none->Q (.ref t) (upd HX t (.tup [.ref l1,.ref l2])):=λHX wx px u aa WX ew ep t ht=>by
  have kt:=Ad ht (.tup [.ref l1,.ref l2]);have WT:=WX.same kt;obtain⟨xs,a1,a2⟩:=WT.w;obtain⟨ys,b1,b2⟩:=WT.p;rw[ew] at a2;rw[ep] at b2;exact q t l1 l2 xs ys _ Ab a1 a2 b1 b2 WT.sm
 by_cases hc:stC hs ⟨g.lp,CP a (a+st),0⟩="cut"
 ·rw[show (!decide (V.str (stC hs ⟨g.lp,CP a (a+st),0⟩)=V.str "cut"))=false by rw[hc];decide +kernel];have hz:Bm hs gs g.lp st m a=([],[]):=by
   cases m with
   | zero=>rfl
   | succ m=>exact if_pos hc
  rw[hz,QbM] at e7 e8;exact BK ⟨_,rq,_,rq,ke,λt ht=>done HK wa pa u8 a W1 e7 e8 t ht⟩
 ·have hne:¬V.str (stC hs ⟨g.lp,CP a (a+st),0⟩)=V.str "cut":=λz=>hc (V.str.inj z);rw[show (!decide (V.str (stC hs ⟨g.lp,CP a (a+st),0⟩)=V.str "cut"))=true by rw[QbL hne];rfl];have hin:(⟨g.lp,CP a (a+st),0⟩ : Sp3)∈hs.map (·.1):=Qaj λz=>hc (bh z);have hB:=hb _ hin;have hB0:0<=CP a (a+st):=hB.a0;have hB1:CP a (a+st)<=12:=hB.a1;obtain⟨m',rfl⟩ : ∃m',m=m'+1:=by
   cases m with
   | succ m=>exact⟨m,rfl⟩
   | zero=>
    exfalso;unfold CP at hB0 hB1;rcases hm with⟨h1,h2⟩|⟨h1,h2⟩
    ·rw[h1] at hB0 hB1;split at hB1 <;> omega
    ·rw[h1] at hB0 hB1;split at hB0 <;> omega
  have lsp:(Cp hs g.lp (a+st)).length<=4:=RW _ _ _ 4 1;obtain⟨xs,a1,a2⟩:=W1.w;have lx:=Qcc a2;refine BL ⟨_,fun σ' H' h=>⟨m',QbE _,h⟩,?_⟩;refine⟨_,rq,.inl ⟨rq,_,SqL.of a1⟩,_,rq,_,rq,_,rq,_,rq,_,_,rq,rq,_,_,rq,kf,λtp htp=>?_⟩;rw[show (if a+st < a then a+st else a)=CP a (a+st) from rfl]
  have k2':=Ad htp (.tup [.int g.lp,.int (CP a (a+st)),.int 0]);have W2:=(W1.same k2').E4 n12 hl1 (k2' _ _ a1) (zs:=[.ref tp]) (ss:=[⟨g.lp,CP a (a+st),0⟩]) (.cons ⟨tp,rq,Ab⟩ .nil);refine⟨l1,_,_,rq,rq,k2' _ _ a1,Ar (by omega),?_⟩;generalize upd (upd HK tp (.tup [.int g.lp,.int (CP a (a+st)),.int 0])) l1 (.lst (xs++[.ref tp]))=H2 at *;refine⟨_,rq,_,rq,_,_,rq,rq,?_⟩;refine⟨_,rq,_,rq,_,rq,d1,hs,g.lp,a+st,rq,rdS hd W2.sm,hb,λlq xq H3 hlq hxq pxq s3=>?_⟩;have W3:=W2.same s3;obtain⟨xs3,a13,a23⟩:=W3.w;have lx3:=Qcc a23;rw[QaV] at lx3;have lxq:=Qcc pxq;have IQ:lq≠l1:=λz=>by obtain⟨xs',e,_⟩:=W2.w;rw[z,e] at hlq;cases hlq
  have IP:lq≠l2:=λz=>by obtain⟨xs',e,_⟩:=W2.p;rw[z,e] at hlq;cases hlq
  refine⟨_,rq,.inl ⟨rq,_,SqL.of a13⟩,_,rq,l1,lq,_,_,rq,rq,a13,hxq,Av (by rw[lx3,lxq];show _+1+_<=1000;omega),?_⟩;have W4:=W3.E4 n12 hl1 a13 pxq;have nt3:∀us,H3 l1≠some (.tup us):=λus z=>by rw[a13] at z;cases z
  have IG:Paired (CN (upd H3 l1 (.lst (xs3++xq)))) xq (Cp hs g.lp (a+st)):=Paired.Ax pxq λ_ _ z=>z.tups (Al.upd nt3);have MZ:(upd H3 l1 (.lst (xs3++xq))) lq=some (.lst xq):=by rw[Am IQ];exact hxq
  generalize upd H3 l1 (.lst (xs3++xq))=H4 at *;obtain⟨ys4,b14,b24⟩:=W4.p;have ly4:=Qcc b24;refine⟨_,rq,.inl ⟨rq,_,SqL.of b14⟩,_,rq,_,rq,kf,λtr htr=>?_⟩;have k5:=Ad htr (.tup [.int g.lp,.int (a+st),.int 0]);have W5:=(W4.same k5).add2 n12 hl2' (k5 _ _ b14) (zs:=[.ref tr]) (ss:=[⟨g.lp,a+st,0⟩]) (.cons ⟨tr,rq,Ab⟩ .nil);refine⟨l2,_,_,rq,rq,k5 _ _ b14,Ar (by omega),?_⟩;have nt5:∀us,(upd H4 tr (.tup [.int g.lp,.int (a+st),.int 0])) l2≠some (.tup us):=λus z=>by rw[k5 _ _ b14] at z;cases z
  have IF:Paired (CN (upd (upd H4 tr (.tup [.int g.lp,.int (a+st),.int 0])) l2 (.lst (ys4++[.ref tr])))) xq (Cp hs g.lp (a+st)):=Paired.Ax IG λ_ _ z=>(z.tups (Al.of k5)).tups (Al.upd nt5);have MY:(upd (upd H4 tr (.tup [.int g.lp,.int (a+st),.int 0])) l2 (.lst (ys4++[.ref tr]))) lq=some (.lst xq):=by rw[Am IP];exact k5 _ _ MZ
  generalize upd (upd H4 tr (.tup [.int g.lp,.int (a+st),.int 0])) l2 (.lst (ys4++[.ref tr]))=H5 at *;obtain⟨ys5,b15,b25⟩:=W5.p;have ly5:=Qcc b25;rw[QaV] at ly5;refine⟨_,rq,.inl ⟨rq,_,SqL.of b15⟩,_,rq,l2,lq,_,_,rq,rq,b15,MY,Av (by rw[ly5,lxq];show _+1+_<=1000;omega),?_⟩;have W6:=W5.add2 n12 hl2' b15 IF;generalize upd H5 l2 (.lst (ys5++xq))=H6 at *;refine⟨_,rq,d3,rq,.inr ⟨_,rdS hd3 W6.sm⟩,_,rq,_,rq,ke,λtg htg=>?_⟩;have k7:=Ad htg (.tup [.int g.lp,.int (a+st)]);have W7:=W6.same k7;have gg7:Dw (upd H6 tg (.tup [.int g.lp,.int (a+st)])) d3 (.ref tg) (Dv (gpV gs) (k2 ⟨g.lp,a+st⟩)):=.inr ⟨_,_,tg,rdS hd3 W7.sm,rq,Ab,rq⟩;refine⟨_,gg7,?_⟩;dsimp only;rw[A3];generalize upd H6 tg (.tup [.int g.lp,.int (a+st)])=H7 at *;refine⟨_,rq,Kd (λhg=>?_) (λhg=>?_)⟩
  ·have hz:Bm hs gs g.lp st (m'+1) a=(⟨g.lp,CP a (a+st),0⟩::Cp hs g.lp (a+st),⟨g.lp,a+st,0⟩::Cp hs g.lp (a+st)):=by
    unfold Bm;rw[if_neg hc,if_pos hg]
   rw[hz] at e7 e8;exact⟨_,rq,_,rq,ke,λt ht=>done H7 _ _ u8 a W7 (by rw[<-e7,Qbn];rfl) (by rw[<-e8,Qbn];rfl) t ht⟩
  ·have hz:Bm hs gs g.lp st (m'+1) a=((⟨g.lp,CP a (a+st),0⟩::Cp hs g.lp (a+st))++(Bm hs gs g.lp st m' (a+st)).1,(⟨g.lp,a+st,0⟩::Cp hs g.lp (a+st))++(Bm hs gs g.lp st m' (a+st)).2):=by
    conv=>lhs;unfold Bm
    rw[if_neg hc,if_neg (by rw[hg];decide)]
   rw[hz] at e7 e8;refine⟨a+st,_,_,_,?_,rq,W7,?_,?_,by rw[<-e7];simp only[Qbn,List.cons_append,List.nil_append],by rw[<-e8];simp only[Qbn,List.cons_append,List.nil_append]⟩
   ·rcases hm with⟨h1,h2⟩|⟨h1,h2⟩
    ·exact .inl ⟨h1,by rw[h1];omega⟩
    ·exact .inr ⟨h1,by rw[h1];omega⟩
   ·rw[QaV,QaV];show wa.length+1+_+_<=_;omega
   ·rw[QaV,QaV];show pa.length+1+_+_<=_;omega
theorem pq {hs:YR} {s:Sp3} (h:¬stC hs s="cut"):s∈hs.map (·.1):=Qaj λz=>h (bh z)
theorem bC (hs:YR) (lp a:Int):∀f n,∀s∈Fj hs lp a f n,s∈hs.map (·.1)
 | 0,_,s,h=>by cases h
 | f+1,n,s,h=>by
  unfold Fj at h;split at h
  ·cases h
  ·rename_i hc;rcases Qcd.mp h with rfl | h
   ·exact pq hc
   ·exact bC hs lp a f (n+1) s h
theorem Rt (hs:YR) (gs:YT) (lp st:Int):∀f a,∀s∈(Bm hs gs lp st f a).1,s∈hs.map (·.1)
 | 0,_,s,h=>by cases h
 | f+1,a,s,h=>by
  unfold Bm at h;split at h
  ·cases h
  ·rename_i hc;have hw:∀s∈(⟨lp,CP a (a+st),0⟩::Cp hs lp (a+st):YV),s∈hs.map (·.1):=λs h=>by
    rcases Qcd.mp h with rfl | h
    ·exact pq hc
    ·exact bC hs lp _ 4 1 s h
   split at h
   ·exact hw s h
   ·rcases QbI.mp h with h | h
    ·exact hw s h
    ·exact Rt hs gs lp st f (a+st) s h
theorem Tn (hs:YR) (gs:YT) (lp st:Int):∀f a,(Bm hs gs lp st f a).1.length<=5*f
 | 0,_=>Qcv _
 | f+1,a=>by
  have ih:=Tn hs gs lp st f (a+st);have ls:(Cp hs lp (a+st)).length<=4:=RW _ _ _ 4 1;unfold Bm;split
  ·exact Qcw _
  ·split
   ·show (Cp hs lp (a+st)).length+1<=_;omega
   ·have:((⟨lp,CP a (a+st),0⟩::Cp hs lp (a+st))++(Bm hs gs lp st f (a+st)).1).length=(Cp hs lp (a+st)).length+1+(Bm hs gs lp st f (a+st)).1.length:=by rw[QaV,Qbz]
    show ((⟨lp,CP a (a+st),0⟩::Cp hs lp (a+st))++(Bm hs gs lp st f (a+st)).1).length<=_;omega
def Ey (hs:YR) (ws:YV):Bool:=ws.any λs=>decide (V.str (stC hs s)=V.str "short")
def Eb (hs:YR) (gs:YT) (g:Gt):Bool:=Ey hs (Bm hs gs g.lp 1 16 g.at_).1 || Ey hs (Bm hs gs g.lp (-1) 16 g.at_).1
inductive T3 (vs:YG) (H:Hp) (Q:VK) (E:XK):Prop
 | mk (d1 l:Addr) (hs:YR) (xs:YG) (ws:YV) (_:vs=[.ref d1,.ref l]) (_:Rd H d1 (.dT (stV hs))) (_:H l=some (.lst xs)) (_:Paired (CN H) xs ws) (_:(∀s∈ws,s∈hs.map (·.1))) (_:ws.length<=200) (_:∀H',Same H H'->Q (.bl (Ey hs ws)) H'):T3 vs H Q E
inductive Wg (vs:YG) (H:Hp) (Q:VK) (E:XK):Prop
 | mk (d1 d3 o:Addr) (hs:YR) (gs:YT) (g:Gt) (_:vs=[.ref d1,.ref d3,.ref o]) (_:Rd H d1 (.dT (stV hs))) (_:Rd H d3 (.dT (gpV gs))) (_:H o=some (.tup [.int g.lp,.int g.at_])) (_:(∀s∈hs.map (·.1),Bd3 s)) (_:-1<=g.at_) (_:g.at_<=14) (_:∀H',Same H H'->Q (.bl (Eb hs gs g)) H'):Wg vs H Q E
theorem rdS {HA HB:Hp} {d:Addr} {u:HO} (h:Rd HA d u) (s:Same HA HB):Rd HB d u:=by
 rcases h with h |⟨o,h⟩
 ·exact .inl (s _ _ h)
 ·exact .inr ⟨o,s _ _ h⟩
theorem cX (c:Code K mg "has_short" Mj Ii) (T:Tw K mg op oe kd wk C):⋯ "has_short" 1 Ii T3:=by
 exists c,bV
 obtain⟨d1,l,hs,xs,ws,rfl,hd,hl,hx,hin,S1,q⟩:=h;refine⟨_,(Ag (Az (Aw (fU rfl) rfl T.any tO (Aa (Cw (N':=["stretch","states"]) rfl ([none,some 0]|||(Aj Mj)|||Ii) (Dc (pv 1)) (~~~(Ai (i:=0) (show List.Nodup (["stretch","states"]:YF) by trivial) rfl (Or.inl rfl))) (λ_ _ _ _=>CT) (~~~(G4 Js (N6 (Cq hr) (pv 1) (pv 0) (λ_ _=>rfl)) Bd (Bv _)))) Ac)))),?_⟩;have lx:=Qcc hx;refine⟨_,rq,l,rq,⟨_,SqL.of hl⟩,λlc hlc=>?_⟩;let J0:YN:=λi U HH=>(∃u,U=[u,jp d1])/\HH lc=some (.lst (((ws.take i).map λs=>decide (V.str (stC hs s)=V.str "short")).map V.bl))/\Same H HH;refine Hq (xs:=xs) J0 ⟨⟨_,rq⟩,Ab,Ad hlc _⟩ (λi U HH _ h=>SqL.of (h.2.2 _ _ hl)) (λi x U HH hxi h=>?_) (fun U HH h=>?_)
 ·obtain⟨⟨u,rfl⟩,e1,e2⟩:=h;obtain⟨sp,hsp,t,rfl,ht⟩:=Paired.Ck hx hxi;have hi:=(Qai.mp hxi).1;have hv:Dv (stV hs) (k3 sp)=some (.str (stC hs sp)):=by
   have h1:=XC sp hs;obtain⟨y,hy,ey⟩:=Qcl.mp (hin sp (QaI hsp));unfold stC;rw[h1];cases e:hs.find? λx=>decide (x.1=sp) with
   | none=>exact absurd ey (by simpa using List.find?_eq_none.mp e y hy)
   | some z=>rfl
  have gg:Dw HH d1 (.ref t) (Dv (stV hs) (k3 sp)):=.inr ⟨stV hs,k3 sp,t,rdS hd e2,rq,e2 _ _ ht,rq⟩;rw[hv] at gg;unfold FN;dsimp only;refine BL ⟨_,rq,_,rq,d1,_,rq,gg,rq,_,e1,Ar (by rw[QbH,QbH,QbA];omega),⟨_,rq⟩,?_,e2.Bp Ah.upd hlc⟩;rw[Ab,QcF hsp,QbJ,QbJ];rfl
 ·obtain⟨_,e1,e2⟩:=h;rw[lx,Qby] at e1;refine⟨lc,_,rq,SqL.of e1,?_⟩;have:(ws.map λs=>decide (V.str (stC hs s)=V.str "short")).any id=Ey hs ws:=by unfold Ey;rw[List.any_map];rfl
  rw[this];exact q _ e2
theorem Uz (c:Code K mg "comes_to_short" JW En) (T:Tw K mg op oe kd wk C) (Py:⋯ "come_to" 2 Kw Wi) (Mr:⋯ "has_short" 1 Ii T3):⋯ "comes_to_short" 3 En Wg:=by
 have sc:=Ed;exists c,Ed
 obtain⟨d1,d3,o,hs,gs,g,rfl,hd,hd3,ho,hb,ga,gb,q⟩:=h;refine⟨_,(Ae (GZ (Wv Py hr (Aa (pv 0) (Aa (pv 1) (Aa (pv 2) (Aa Af Ac))))) (CK rfl (Ak (3∣Ed) (Ak (4∣Ed) Bo))))
 (Ae (GZ (Wv Py hr (Aa (pv 0) (Aa (pv 1) (Aa (pv 2) (Aa (Wu RT Af) Ac))))) (CK rfl (Ak (5∣Ed) (Ak (6∣Ed) Bo))))
 (Ag (Az (FL (BP Mr hr (Aa (pv 0) (Aa (pv 3) Ac))) (El (BP Mr hr (Aa (pv 0) (Aa (pv 5) Ac))))))))),?_⟩
 show let R0:TS:=_;let R1:TS:=Ao _ R0;Ao _ R1 _ _ _;intro R0 R1;have mX:∀st,(Bm hs gs g.lp st 16 g.at_).1.length<=200:=λst=>Qco (Tn hs gs g.lp st 16 g.at_) (by decide);refine⟨_,rq,_,rq,_,rq,d1,d3,o,hs,gs,g,1,rq,hd,hd3,ho,hb,.inl rfl,ga,gb,λt1 l1 l2 xs1 ys1 H1 ht1 hl1 hx1 _ _ s1=>⟨t1,_,rq,SqT.of ht1,rq,_,_,rq,_,_,rq,rq,?_⟩⟩;refine⟨_,rq,_,rq,_,rq,_,rq,d1,d3,o,hs,gs,g,-1,rq,rdS hd s1,rdS hd3 s1,s1 _ _ ho,hb,.inr rfl,ga,gb,λt2 l3 l4 xs2 ys2 H2 ht2 hl3 hx2 _ _ s2=>⟨t2,_,rq,SqT.of ht2,rq,_,_,rq,_,_,rq,rq,?_⟩⟩;have s12:=s1.trans s2;have M0:Paired (CN H2) xs1 (Bm hs gs g.lp 1 16 g.at_).1:=Paired.Ax hx1 λ_ _ z=>z.tups (Al.of s2);refine⟨_,rq,_,rq,d1,l1,hs,xs1,_,rq,rdS hd s12,s2 _ _ hl1,M0,Rt hs gs g.lp 1 16 g.at_,mX 1,λH3 s3=>⟨_,rq,?_⟩⟩;cases e:Ey hs (Bm hs gs g.lp 1 16 g.at_).1 with
 | true=>
  refine BL ?_;have:=q H3 (s12.trans s3);unfold Eb at this;rw[e] at this;exact this
 | false=>
  refine BK ⟨_,rq,_,rq,d1,l3,hs,xs2,_,rq,rdS hd (s12.trans s3),s3 _ _ hl3,Paired.Ax hx2 λ_ _ z=>z.tups (Al.of s3),Rt hs gs g.lp (-1) 16 g.at_,mX (-1),λH4 s4=>?_⟩;have:=q H4 (s12.trans (s3.trans s4));unfold Eb at this;rw[e] at this;exact this
abbrev Lh:Stmt:=(inClass (top 54) 10)
abbrev G7:YF:=["self"]
theorem Wo:Ay ["self"] G7 (Aj Lh):=by ac_rfl
theorem Gj (pl d1 d2 d3:Addr):List.lookup ("gaps":Str) (ff pl d1 d2 d3)=some (V.ref d3):=Ti (i:=3) (fnd pl d1 d2 d3) rfl
def Zh (gs:YT):Prop:=∀x∈gs,-1<=x.1.at_/\x.1.at_<=14
inductive Vh (C:Addr) (vs:YG) (H:Hp) (Q:VK) (E:XK):Prop
 | mk (p pl d1 d2 d3 hs fl gs) (_:vs=[.ref p]) (_:WAt C H p pl d1 d2 d3 hs fl gs) (_:∀l xs H',H l=none->H' l=some (.lst xs)->Paired (Ei H') xs ((gs.filter (·.2)).map (·.1))->Same H H'->Q (.ref l) H'):Vh C vs H Q E
abbrev xC:YF:=["opener","gap"]
theorem qp (c:GJ K C "parted" "Wires.parted" Lh G7) (T:Tw K mg op oe kd wk C):BX P w K mg base C "parted" 1 G7 (Vh C):=by
 exists c,Wo
 obtain⟨p,pl,d1,d2,d3,hs,fl,gs,rfl,R,q⟩:=h;refine⟨_,(Ag (Az (Ou rfl (Cw (N':=xC) rfl nofun (Pk (CV (pv 0) rfl)) (~~~(FW (K:=K) (n:=2) rfl rfl (Ak (0∩xC) (Ak (1∩xC) Bo)))) (~~~(G3 (Cz (pv 1)))) (~~~(pv 0)))))),?_⟩;obtain⟨dx,hp⟩:=R.ins;have hd3:=R.gp;have l3:=R.l3;have nfz:∀o' u,H d3≠some (.frz o' u):=λo' u z=>by rw[hd3] at z;cases z
 have lgs:(gpV gs).length=gs.length:=by unfold gpV;rw[QbH]
 refine⟨_,rq,p,C,dx,_,_,rq,hp,T.cl,T.G9,Gj pl d1 d2 d3,d3,gpV gs,rq,hd3,λo l hl=>?_⟩;have nl:l≠d3:=λz=>by rw[z,Ab] at hl;cases hl
 have fl':H l=none:=by rw[Am nl] at hl;exact hl
 let J0:YN:=λi U HH=>(∃u v,U=[u,v])/\(∃ys,HH l=some (.lst ys)/\Paired (Ei HH) ys (((gs.take i).filter (·.2)).map (·.1))/\ys.length<=i)/\Same (upd H d3 (.frz o (.dT (gpV gs)))) HH;refine Rq J0 ⟨⟨none,none,rq⟩,⟨[],Ab,.nil,Qcv _⟩,Ad hl _⟩ (λi U HH _ h=>h.2.2 _ _ Ab) (λi kv p' b U HH hkv h hp' hb'=>?_) (fun U HH h=>?_)
 ·obtain⟨⟨u,v,rfl⟩,⟨ys,e1,e3,e4⟩,e2⟩:=h;have hi:=(Qai.mp hkv).1;unfold gpV at hkv;rw[Qbm] at hkv;obtain⟨x,hx,rfl⟩:=QaA.mp hkv;have t1:=Ad hp' (.tup [.ref b,.bl x.2]);have e2':=e2.trans t1;have et:((gs.take (i+1)).filter (·.2)).map (·.1)=((gs.take i).filter (·.2)).map (·.1)++([x].filter (·.2)).map (·.1):=by rw[QcF hx,Qbg,QbJ]
  refine⟨p',_,rq,SqT.of Ab,rq,_,_,rq,_,_,rq,rq,?_⟩;refine⟨_,rq,_,rq,Kd (λhc=>?_) (λhc=>?_)⟩
  ·have e1':=t1 _ _ e1;have ntl:∀zs,(upd HH p' (.tup [.ref b,.bl x.2])) l≠some (.tup zs):=λzs z=>by rw[e1'] at z;cases z
   have sL:=Al.upd (o:=.lst (ys++[.ref b])) ntl;refine⟨_,rq,ys,e1',Ar (by omega),⟨_,_,rq⟩,⟨_,Ab,?_,by rw[QaV];show _+1<=_;omega⟩,e2'.Bp Ah.upd hl⟩;rw[et,show [x].filter (·.2)=[x] from Qav (p:=λy:Gt×Bool=>y.2) hc]
   exact Qcx ⟨b,rq,sL _ _ (t1 _ _ hb')⟩ (Paired.Ax e3 λ_ _ z=>(z.tups (Al.of t1)).tups sL)
  ·refine⟨⟨_,_,rq⟩,⟨ys,t1 _ _ e1,?_,by omega⟩,e2'⟩;rw[et,show [x].filter (·.2)=[] from Qau (p:=λy:Gt×Bool=>y.2) (by rw[hc];decide),Qcu,QbM]
   exact Paired.Ax e3 λ_ _ z=>z.tups (Al.of t1)
 ·obtain⟨_,⟨ys,e1,e3,e4⟩,e2⟩:=h;rw[lgs,Qby] at e3;have hfz:=e2 _ _ Ab;have ntz:∀zs,HH d3≠some (.tup zs):=λzs z=>by rw[hfz] at z;cases z
  exact⟨d3,o,gpV gs,hfz,nfz,q l ys _ fl' (by rw[Am nl];exact e1) (Paired.Ax e3 λ_ _ z=>z.tups (Al.upd ntz)) (Kl e2 hd3)⟩
abbrev Qh:Stmt:=(inClass (top 54) 11)
abbrev Il:YF:=["self","opener"]
theorem KR:Ay ["self","opener","gap","changed"] Il (Aj Qh):=by ac_rfl
def setG (gs:YT) (g:Gt) (b:Bool):YT:=gs.map λx=>if x.1=g then (x.1,b) else x
theorem Ld (gs:YT) (g:Gt) (b:Bool):(setG gs g b).map (·.1)=gs.map (·.1):=by
 unfold setG;rw[Qcp];refine QaQ λx _=>?_;show (if x.1=g then (x.1,b) else x).1=x.1
 split <;> rfl
theorem uO (gs:YT) (g:Gt) (b:Bool):(setG gs g b).length=gs.length:=QbH ..
theorem A2 {gs:YT} {g:Gt} {b:Bool} (h:g∈gs.map (·.1)):putK (gpV gs) (k2 g) (.bl b)=gpV (setG gs g b):=by
 obtain⟨x,hx,e⟩:=Qcl.mp h;rw[Rg (l:=gpV gs) ⟨_,Qcl.mpr ⟨x,hx,rq⟩,by show k2 x.1=_;rw[e]⟩];unfold gpV setG;rw[Qcp,Qcp];refine QaQ λy _=>?_;show (if k2 y.1=k2 g then (k2 y.1,V.bl b) else (k2 y.1,V.bl y.2))=(k2 (if y.1=g then (y.1,b) else y).1,V.bl (if y.1=g then (y.1,b) else y).2)
 by_cases e:y.1=g
 ·rw[if_pos (by rw[e]),if_pos e]
 ·rw[if_neg (λz=>e (Xb z)),if_neg e]
theorem Xg {gs:YT} {g:Gt} (h:g∈gs.map (·.1)):Dv (gpV gs) (k2 g)=some (.bl (gpC gs g)):=by
 obtain⟨y,hy,ey⟩:=Qcl.mp h;unfold gpC;rw[YW];cases e:gs.find? λx=>decide (x.1=g) with
 | none=>exact absurd ey (by simpa using List.find?_eq_none.mp e y hy)
 | some z=>rfl
def SA (H:Hp) (v:V) (gs:List Gt):Prop:=∃b g,v=.ref b/\H b=some (.tup [.int g.lp,.int g.at_])/\g∈gs
theorem gP {H:Hp} {v:V} {ss:List Gt} (h:SA H v ss):Tz (Ir H v) 2=true:=by
 obtain⟨b,s,rfl,hb,_⟩:=h;rw[Cd hb];rfl
theorem A1 {H:Hp} {v:V} {s:Gt} (h:Ei H v s):Th H v:=by
 obtain⟨u,rfl,e⟩:=h;refine⟨.inr ⟨_,e⟩,λxs ex=>?_⟩;rw[Cd e] at ex;cases ex;refine⟨by show 2<=100;decide,λy hy=>?_⟩;have:y=.int s.lp\/y=.int s.at_:=by simpa using hy
 rcases this with rfl | rfl <;> exact True.intro
inductive Wk (C:Addr) (vs:YG) (H:Hp) (Q:VK) (E:XK):Prop
 | mk (p pl d1 d2 d3 hs fl gs b g) (_:vs=[.ref p,.ref b]) (_:WAt C H p pl d1 d2 d3 hs fl gs) (_:(∀s∈hs.map (·.1),Bd3 s)) (_:Zh gs) (_:H b=some (.tup [.int g.lp,.int g.at_])) (_:g∈gs.map (·.1)) (_:∀H',WAt C H' p pl d1 d2 d3 hs fl (setG gs g (Eb hs gs g))->Ah d3 H H'->Q (.bl (!decide (V.bl (Eb hs gs g)=V.bl (gpC gs g)))) H'):Wk C vs H Q E
theorem C2 (c:GJ K C "act" "Wires.act" Qh Il) (T:Tw K mg op oe kd wk C) (Jk:⋯ "are_wholes" 2 Ge Mz) (Kf:⋯ "comes_to_short" 3 En Wg):BX P w K mg base C "act" 4 Il (Wk C):=by
 have sc:=KR;exists c,KR
 obtain⟨p,pl,d1,d2,d3,hs,fl,gs,b,g,rfl,R,hb,hg,hbt,hin,q⟩:=h;refine⟨_,(Ae (Ce (PW.pt (Jr (Dp (Cz (BP Jk hr (Aa (pv 1) (Aa Af Ac))))) (Jz (Om (Pq (Cq hr) (pv 1) (CV (pv 0) rfl)))))) (Ag Rh) Bt)
 (Ae (2∪KR∪(CW Kf hr (Aa (CV (pv 0) rfl) (Aa (CV (pv 0) rfl) (Aa (pv 1) Ac)))))
 (Ae (3∪KR∪(G4 Wz (pv 2) (N6 (Cq hr) (CV (pv 0) rfl) (pv 1) (λ_ _=>rfl)) (Bv _)))
 (Ae (Gs (Cq hr) (CV (pv 0) rfl) (pv 1) (pv 2) rfl)
 (Ag (Az (pv 3))))))),?_⟩
 show let R0:TS:=Ao _ _;let R1:TS:=Ao _ R0;let R2:TS:=Ao _ R1;Ao _ R2 _ _ _;intro R0 R1 R2;refine⟨_,rq,.ref b,2,rq,A1 ⟨b,rq,hbt⟩,λH1 s1=>⟨_,rq,?_⟩⟩;rw[gP ⟨b,g,rq,hbt,hin⟩];have R1:=R.same s1;obtain⟨dx,hp⟩:=R1.ins;refine BK ⟨_,rq,_,rq,p,C,dx,_,_,rq,hp,T.cl,T.G9,Gj pl d1 d2 d3,d3,_,rq,Dw.t (k:=k2 g) R1.gp (s1 _ _ hbt),_,rq,?_⟩;rw[Xg hin];obtain⟨x,hx',ex⟩:=Qcl.mp hin;have gb:=hg x hx';rw[ex] at gb;refine BK ⟨_,rq,p,C,dx,_,_,rq,hp,T.cl,T.Gh,FJ pl d1 d2 d3,_,rq,p,C,dx,_,_,rq,hp,T.cl,T.G9,Gj pl d1 d2 d3,_,rq,d1,d3,b,hs,gs,g,rq,.inl R1.st,.inl R1.gp,s1 _ _ hbt,hb,gb.1,gb.2,λH2 s2=>?_⟩;have R2:=R1.same s2;obtain⟨dx2,hp2⟩:=R2.ins;have s12:=s1.trans s2;have gg:=Dw.t (k:=k2 g) R2.gp (s12 _ _ hbt);rw[Xg hin] at gg;refine⟨_,rq,_,rq,p,C,dx2,_,_,rq,hp2,T.cl,T.G9,Gj pl d1 d2 d3,_,rq,d3,_,rq,gg,rq,?_⟩;have l3:=R2.l3;have hd3:=R2.gp;have npd:p≠d3:=λz=>by rw[z,hd3] at hp2;cases hp2
 have nt:∀zs,H2 d3≠some (.tup zs):=λzs z=>by rw[hd3] at z;cases z
 refine⟨_,rq,_,rq,p,C,dx2,_,_,rq,hp2,T.cl,T.G9,Gj pl d1 d2 d3,_,rq,d3,_,rq,Jm.t (k:=k2 g) hd3 (s12 _ _ hbt) (Ar (by unfold gpV;rw[QbH];omega)),?_⟩;rw[A2 hin];obtain⟨kvs,hk,hf⟩:=R2.fi;have sT:=Al.upd (o:=.dT (gpV (setG gs g (Eb hs gs g)))) nt;exact⟨_,rq,q _ ⟨⟨dx2,by rw[Am npd];exact hp2⟩,by rw[Am R2.n13];exact R2.st,⟨kvs,by rw[Am R2.n23];exact hk,Paired.Ax hf λ_ _ z=>z.tups sT⟩,R.nd1,R.nd2,R.l1,R.l2,Ab,by rw[Ld];exact R.nd3,by rw[uO];exact R.l3,R.n13,R.n23⟩ ((Ah.of s12).trans Ah.upd)⟩
abbrev Dk:Stmt:=(inClass (top 54) 13)
abbrev Dl:YF:=["self"]
abbrev xm:YF:=["self","lone","near","row","opener"]
theorem Df:Ay xm Dl (Aj Dk):=by ac_rfl
def lone (gs:YT):YT:=gs.map λx=>(x.1,true)
def Bq (hs:YR) (gs:YT) (g:Gt):Bool:=Eb hs (lone gs) g
def DX (hs:YR) (gs:YT):YT:=gs.map λx=>(x.1,Bq hs gs x.1)
def IK (hs:YR) (gs:YT) (L:List Gt):YT:=L.foldl (λgs g=>setG gs g (Eb hs gs g)) gs
def cS (hs:YR) (gs:YT) (lp st:Int) (f:Nat) (a:Int):Bool:=Ey hs (Bm hs gs lp st f a).1
theorem Ob {hs:YR} {gs:YT} {lp st:Int} {f:Nat} {a:Int}:cS hs gs lp st (f+1) a=true ↔ ¬stC hs ⟨lp,CP a (a+st),0⟩="cut"/\(Ey hs (⟨lp,CP a (a+st),0⟩::Cp hs lp (a+st))=true\/gpC gs ⟨lp,a+st⟩=false/\cS hs gs lp st f (a+st)=true):=by
 unfold cS;by_cases hc:stC hs ⟨lp,CP a (a+st),0⟩="cut"
 ·rw[show Bm hs gs lp st (f+1) a=([],[]) from if_pos hc]
  constructor
  ·intro h;cases h
  ·rintro ⟨h,_⟩;exact absurd hc h
 ·cases hg:gpC gs ⟨lp,a+st⟩ with
  | true=>
   rw[show Bm hs gs lp st (f+1) a=(⟨lp,CP a (a+st),0⟩::Cp hs lp (a+st),⟨lp,a+st,0⟩::Cp hs lp (a+st)) from (if_neg hc).trans (if_pos hg)]
   constructor
   ·intro h;exact⟨hc,.inl h⟩
   ·rintro ⟨_,h |⟨h,_⟩⟩
    ·exact h
    ·cases h
  | false=>
   rw[show Bm hs gs lp st (f+1) a=((⟨lp,CP a (a+st),0⟩::Cp hs lp (a+st))++(Bm hs gs lp st f (a+st)).1,(⟨lp,a+st,0⟩::Cp hs lp (a+st))++(Bm hs gs lp st f (a+st)).2) from (if_neg hc).trans (if_neg (by rw[hg];decide))]
   show Ey hs (_++_)=true ↔ _;unfold Ey;rw[List.any_append,Bool.or_eq_true];constructor
   ·rintro (h | h)
    ·exact⟨hc,.inl h⟩
    ·exact⟨hc,.inr ⟨rq,h⟩⟩
   ·rintro ⟨_,h |⟨_,h⟩⟩
    ·exact .inl h
    ·exact .inr h
theorem jZ {hs:YR} {gs:YT} {lp st:Int}:∀{f F:Nat} {a:Int},f<=F->cS hs gs lp st f a=true->cS hs gs lp st F a=true
 | 0,_,_,_,h=>by cases h
 | f+1,F+1,a,hF,h=>by
  obtain⟨h1,h2⟩:=Ob.mp h;refine Ob.mpr ⟨h1,h2.imp id λzz=>?_⟩;obtain⟨h3,h4⟩:=zz;exact⟨h3,jZ (by omega) h4⟩
theorem Zb {hs:YR} {gs ls:YT} {lp st:Int} (hl:∀g,gpC ls g=false->gpC gs g=false):∀{f:Nat} {a:Int},cS hs ls lp st f a=true->cS hs gs lp st f a=true
 | 0,_,h=>by cases h
 | f+1,a,h=>by
  obtain⟨h1,h2⟩:=Ob.mp h;refine Ob.mpr ⟨h1,h2.imp id λzz=>?_⟩;obtain⟨h3,h4⟩:=zz;exact⟨hl _ h3,Zb hl h4⟩
theorem O7 {hs:YR} {gs:YT} {g:Gt}:Eb hs gs g=true ↔ cS hs gs g.lp 1 16 g.at_=true\/cS hs gs g.lp (-1) 16 g.at_=true:=by
 unfold Eb cS;rw[Bool.or_eq_true]
theorem Za {hs:YR} {gs ls:YT} {lp st:Int} (hst:st=1\/st=-1) (hn:∀g,gpC ls g=true->Eb hs ls g=true->gpC gs g=true):∀{f:Nat} {a:Int},f<=16->cS hs gs lp st f a=true->cS hs ls lp st f a=true
 | 0,_,_,h=>by cases h
 | f+1,a,hf,h=>by
  obtain⟨h1,h2⟩:=Ob.mp h;refine Ob.mpr ⟨h1,?_⟩;rcases h2 with h2 |⟨h3,h4⟩
  ·exact .inl h2
  ·have ih:=Za hst hn (by omega) h4;cases hg:gpC ls ⟨lp,a+st⟩ with
   | false=>exact .inr ⟨rfl,ih⟩
   | true=>
    have:=hn ⟨lp,a+st⟩ hg (O7.mpr (by
     have:=jZ (F:=16) (by omega) ih;rcases hst with rfl | rfl
     ·exact .inl this
     ·exact .inr this))
    rw[h3] at this;cases this
theorem find_key {β : Type} {gs:List (Gt×β)} {g:Gt} (h:g∉gs.map (·.1)):gs.find? (λx=>decide (x.1=g))=none:=List.find?_eq_none.mpr λx hx=>by simpa using λe=>h (Qcl.mpr ⟨x,hx,e⟩)
theorem Uj {gs:YT} {g:Gt} (h:gpC gs g=true):g∈gs.map (·.1):=Qaj λc=>by
 unfold gpC at h;rw[find_key c] at h;cases h
theorem d8 {gs:YT} (nd:(gs.map (·.1)).Nodup) {x:Gt×Bool} (h:x∈gs):gpC gs x.1=x.2:=by
 unfold gpC
 induction gs with
 | nil=>cases h
 | cons a r ih=>
  obtain⟨n1,n2⟩:=QbO.mp nd;rcases Qcd.mp h with rfl | h
  ·rw[QaC (by exact QbX rfl)];rfl
  ·rw[Qaz (by simpa using λe=>n1 (Qcl.mpr ⟨x,h,by exact Eq.symm e⟩))];exact ih n2 h
theorem Lw (f:Gt->Bool) (g:Gt):∀gs:YT,g∈gs.map (·.1)->gpC (gs.map λx=>(x.1,f x.1)) g=f g
 | [],h=>by cases h
 | a::r,h=>by
  unfold gpC;by_cases e:a.1=g
  ·rw[Qce,QaC (by exact QbX e),e];rfl
  ·rw[Qce,Qaz (by simpa using e)];refine Lw f g r ?_;rcases Qcd.mp h with z | z
   ·exact absurd z.symm e
   ·exact z
theorem wI (gs:YT):(lone gs).map (·.1)=gs.map (·.1):=by unfold lone;rw[Qcp];rfl
theorem Kp (hs:YR) (gs:YT):(DX hs gs).map (·.1)=gs.map (·.1):=by unfold DX;rw[Qcp];rfl
theorem AT {gs gs':YT} (h:gs.map (·.1)=gs'.map (·.1)):lone gs=lone gs':=by
 have:∀l:YT,lone l=(l.map (·.1)).map λg=>(g,true):=λl=>by unfold lone;rw[Qcp];rfl
 rw[this,this,h]
theorem d7 {gs:YT} {g:Gt}:gpC (lone gs) g=true ↔ g∈gs.map (·.1):=⟨λh=>by rw[<-wI];exact Uj h,λh=>Lw (λ_=>true) g gs h⟩
theorem S8 {hs:YR} {gs:YT} {g:Gt} (h:Bq hs gs g=true):Eb hs gs g=true:=by
 have hl:∀g,gpC (lone gs) g=false->gpC gs g=false:=λg h=>by
  cases c:gpC gs g with
  | false=>rfl
  | true=>rw[d7.mpr (Uj c)] at h;cases h
 exact O7.mpr ((O7.mp h).imp (Zb hl) (Zb hl))
def Xo (hs:YR) (gs:YT):Prop:=∀g,g∈gs.map (·.1)->Bq hs gs g=true->gpC gs g=true
theorem rK {hs:YR} {gs:YT} (hn:Xo hs gs) (g:Gt):Eb hs gs g=Bq hs gs g:=by
 cases c:Bq hs gs g with
 | true=>exact S8 c
 | false=>
  cases c':Eb hs gs g with
  | false=>rfl
  | true=>
   have hn':∀g,gpC (lone gs) g=true->Eb hs (lone gs) g=true->gpC gs g=true:=λg h1 h2=>hn g (d7.mp h1) h2;have:Bq hs gs g=true:=O7.mpr ((O7.mp c').imp (Za (.inl rfl) hn' (Qcv _)) (Za (.inr rfl) hn' (Qcv _)));rw[c] at this;cases this
theorem Ui {gs:YT} {g:Gt} (h:g∈gs.map (·.1)) (b:Bool) (g':Gt):gpC (setG gs g b) g'=if g'=g then b else gpC gs g':=by
 induction gs with
 | nil=>cases h
 | cons a r ih=>
  by_cases e:a.1=g
  ·by_cases e':g'=g
   ·rw[if_pos e'];unfold gpC setG;rw[Qce,if_pos e,QaC (by rw[e'];exact QbX e)];rfl
   ·have n:¬a.1=g':=λz=>e' (by rw[<-z,e]);rw[if_neg e'];by_cases hr:g∈r.map (·.1)
    ·have:=ih hr;rw[if_neg e'] at this;unfold gpC setG at this ⊢;rw[Qce,if_pos e,Qaz (by simpa using n),Qaz (by simpa using n)];exact this
    ·unfold gpC setG;rw[Qce,if_pos e,Qaz (by simpa using n),Qaz (by simpa using n),show (r.map λx=>if x.1=g then (x.1,b) else x)=r from (QaQ λx hx=>if_neg λz=>hr (Qcl.mpr ⟨x,hx,z⟩)).trans (List.map_id r)]
  ·have hr:g∈r.map (·.1):=by
    rcases Qcd.mp h with z | z
    ·exact absurd z.symm e
    ·exact z
   have:=ih hr;unfold gpC setG at this ⊢;rw[Qce,if_neg e];by_cases n:a.1=g'
   ·rw[QaC (by exact QbX n),QaC (by exact QbX n),if_neg (λz=>e (by rw[n,z]))]
   ·rw[Qaz (by simpa using n),Qaz (by simpa using n)];exact this
theorem N7 {hs:YR} {gs gs':YT} (h:gs.map (·.1)=gs'.map (·.1)) (g:Gt):Bq hs gs g=Bq hs gs' g:=by unfold Bq;rw[AT h]
theorem Ry (hs:YR):∀(L:List Gt) (gs:YT),(IK hs gs L).map (·.1)=gs.map (·.1)
 | [],_=>rfl
 | g::r,gs=>(Ry hs r _).trans (Ld _ _ _)
theorem gq (hs:YR) (gs:YT) (L M:List Gt):IK hs gs (L++M)=IK hs (IK hs gs L) M:=List.foldl_append ..
theorem zL {hs:YR}:∀{L:List Gt} {gs:YT},(∀g∈L,g∈gs.map (·.1))->∀g,(g∈L\/gpC gs g=true)->Bq hs gs g=true->gpC (IK hs gs L) g=true
 | [],gs,_,g,h,_=>by
  rcases h with h | h
  ·cases h
  ·exact h
 | x::r,gs,hk,g,h,hn=>by
  have e1:=Ld gs x (Eb hs gs x);have hx:=hk x QaW;show gpC (IK hs (setG gs x (Eb hs gs x)) r) g=true;refine zL (λg' hg'=>by rw[e1];exact hk g' (QaJ _ hg')) g ?_ (by rw[N7 e1];exact hn);rw[Ui hx];by_cases e:g=x
  ·rw[if_pos e,<-e];exact .inr (S8 hn)
  ·rw[if_neg e];rcases h with h | h
   ·rcases Qcd.mp h with h | h
    ·exact absurd h e
    ·exact .inl h
   ·exact .inr h
theorem zM {hs:YR}:∀{L:List Gt} {gs:YT},(∀g∈L,g∈gs.map (·.1))->∀g,g∉L->gpC (IK hs gs L) g=gpC gs g
 | [],gs,_,g,_=>rfl
 | x::r,gs,hk,g,h=>by
  have e1:=Ld gs x (Eb hs gs x);show gpC (IK hs (setG gs x (Eb hs gs x)) r) g=_;rw[zM (λg' hg'=>by rw[e1];exact hk g' (QaJ _ hg')) g (λz=>h (QaJ _ z)),Ui (hk x QaW),if_neg (λz=>h (by rw[z];exact QaW))]
theorem zK {hs:YR}:∀{L:List Gt} {gs:YT},(∀g∈L,g∈gs.map (·.1))->Xo hs gs->∀g,gpC (IK hs gs L) g=if g∈L then Bq hs gs g else gpC gs g
 | [],gs,_,_,g=>rfl
 | x::r,gs,hk,hn,g=>by
  have e1:=Ld gs x (Eb hs gs x);have hx:=hk x QaW;have hn':Xo hs (setG gs x (Eb hs gs x)):=λg' h1 h2=>by
   rw[e1] at h1;rw[N7 e1] at h2;rw[Ui hx];by_cases e:g'=x
   ·rw[if_pos e,<-e];exact S8 h2
   ·rw[if_neg e];exact hn g' h1 h2
  show gpC (IK hs (setG gs x (Eb hs gs x)) r) g=_;rw[zK (λg' hg'=>by rw[e1];exact hk g' (QaJ _ hg')) hn' g,N7 e1,Ui hx];by_cases h:g∈r
  ·rw[if_pos h,if_pos (QaJ _ h)]
  ·rw[if_neg h];by_cases e:g=x
   ·rw[if_pos e,if_pos (by rw[e];exact QaW),e,rK hn]
   ·rw[if_neg e,if_neg (λz=>by rcases Qcd.mp z with z | z;exact e z;exact h z)]
theorem EA {gs gs':YT} (nd:(gs.map (·.1)).Nodup) (k:gs.map (·.1)=gs'.map (·.1)) (h:∀g∈gs.map (·.1),gpC gs g=gpC gs' g):gs=gs':=by
 have e:∀l:YT,(l.map (·.1)).Nodup->l=(l.map (·.1)).map λg=>(g,gpC l g):=λl n=>by
  rw[Qcp];refine (List.map_id l).symm.trans (QaQ λx hx=>?_);show x=(x.1,gpC l x.1);rw[d8 n hx]
 rw[e gs nd,e gs' (by rw[<-k];exact nd),<-k];exact QaQ λg hg=>by rw[h g hg]
def Li (hs:YR) (gs:YT):List Gt:=(gs.filter λx=>Bq hs gs x.1&&!x.2).map (·.1)
def row2 (hs:YR) (gs:YT):List Gt:=(gs.filter λx=>x.2&&!Bq hs gs x.1).map (·.1)
theorem QF {gs:YT} (nd:(gs.map (·.1)).Nodup) {p:Gt->Bool->Bool} {g:Gt}:g∈(gs.filter λx=>p x.1 x.2).map (·.1) ↔ g∈gs.map (·.1)/\p g (gpC gs g)=true:=by
 constructor
 ·intro h;obtain⟨x,hx,rfl⟩:=Qcl.mp h;obtain⟨h1,h2⟩:=QbQ.mp hx;exact⟨Qcl.mpr ⟨x,h1,rq⟩,by rw[d8 nd h1];exact h2⟩
 ·rintro ⟨h1,h2⟩;obtain⟨x,hx,rfl⟩:=Qcl.mp h1;rw[d8 nd hx] at h2;exact Qcl.mpr ⟨x,QbQ.mpr ⟨hx,h2⟩,rq⟩
theorem uV {hs:YR} {gs:YT} (nd:(gs.map (·.1)).Nodup):IK hs gs (Li hs gs++row2 hs gs)=DX hs gs:=by
 have m1:∀g,g∈Li hs gs ↔ g∈gs.map (·.1)/\(Bq hs gs g&&!gpC gs g)=true:=λg=>QF nd (p:=λg b=>Bq hs gs g&&!b);have m2:∀g,g∈row2 hs gs ↔ g∈gs.map (·.1)/\(gpC gs g&&!Bq hs gs g)=true:=λg=>QF nd (p:=λg b=>b&&!Bq hs gs g);rw[gq];have h1:∀g∈Li hs gs,g∈gs.map (·.1):=λg h=>((m1 g).mp h).1;have h2:∀g∈row2 hs gs,g∈gs.map (·.1):=λg h=>((m2 g).mp h).1;have k1:=Ry hs (Li hs gs) gs;have k2:=(Ry hs (row2 hs gs) (IK hs gs (Li hs gs))).trans k1;have hn:Xo hs (IK hs gs (Li hs gs)):=λg z1 z2=>by
  rw[k1] at z1;rw[N7 k1] at z2;refine zL h1 g ?_ z2;cases c:gpC gs g with
  | true=>exact .inr rfl
  | false=>exact .inl ((m1 g).mpr ⟨z1,by rw[z2,c];rfl⟩)
 refine EA (by rw[k2];exact nd) (by rw[k2,Kp]) λg hg=>?_;rw[k2] at hg;rw[zK (λg h=>by rw[k1];exact h2 g h) hn g,N7 k1,show gpC (DX hs gs) g=Bq hs gs g from Lw (Bq hs gs) g gs hg]
 by_cases h:g∈row2 hs gs
 ·rw[if_pos h]
 ·rw[if_neg h];cases c:Bq hs gs g with
  | true=>exact hn g (by rw[k1];exact hg) (by rw[N7 k1];exact c)
  | false=>
   rw[zM h1 g λz=>by have:=((m1 g).mp z).2;rw[c] at this;cases this];cases d:gpC gs g with
   | false=>rfl
   | true=>exact absurd ((m2 g).mpr ⟨hg,by rw[c,d];rfl⟩) h
theorem Zh.keys {gs gs':YT} (h:Zh gs) (k:gs'.map (·.1)=gs.map (·.1)):Zh gs':=λx hx=>by
 have:x.1∈gs.map (·.1):=by rw[<-k];exact Qcl.mpr ⟨x,hx,rq⟩
 obtain⟨y,hy,e⟩:=Qcl.mp this;rw[<-e];exact h y hy
inductive T4 (C:Addr) (vs:YG) (H:Hp) (Q:VK) (E:XK):Prop
 | mk (p pl d1 d2 d3 hs fl gs) (_:vs=[.ref p]) (_:WAt C H p pl d1 d2 d3 hs fl gs) (_:(∀s∈hs.map (·.1),Bd3 s)) (_:Zh gs) (_:∀l xs H',H l=none->H' l=some (.lst xs)->Paired (Ei H') xs (Li hs gs++row2 hs gs)->WAt C H' p pl d1 d2 d3 hs fl (DX hs gs)->Ah d3 H H'->Q (.ref l) H'):T4 C vs H Q E
theorem jN {gs:YT} {f:Gt×Bool->Bool} (nd:(gs.map (·.1)).Nodup) {i:Nat} {x:Gt×Bool} (hx:gs[i]?=some x):putK (gpV ((gs.take i).map λy=>(y.1,f y))) (k2 x.1) (.bl (f x))=gpV ((gs.take (i+1)).map λy=>(y.1,f y)):=by
 rw[Ol,QcF hx]
 ·unfold gpV;rw[QbJ,QbJ];rfl
 ·refine Qw λy hy e=>?_;unfold gpV at hy;rw[Qcp] at hy;obtain⟨z,hz,rfl⟩:=Qcl.mp hy;exact JK (f:=λy:Gt×Bool=>y.1) nd hx z hz (Xb e)
abbrev xj:YF:=["opener","gap","near"]
theorem WR (c:GJ K C "come_to_rest" "Wires.come_to_rest" Dk Dl) (T:Tw K mg op oe kd wk C) (Kf:⋯ "comes_to_short" 3 En Wg) (Y5:BX P w K mg base C "act" 4 Il (Wk C)):BX P w K mg base C "come_to_rest" 5 Dl (T4 C):=by
 have sc:=Df;exists c,Df
 obtain⟨p,pl,d1,d2,d3,hs,fl,gs,rfl,R,hb,hg,q⟩:=h;refine⟨_,(Ae (Ba (i:=1) Df.nd rfl (Or.inr rfl) (Ou rfl (Hj (Cq hr) (N':=xi) rfl nofun (cJ (CV (pv 0) rfl)) (~~~(0∩xi)) (λ_ _ _ _=>CT) (~~~(pv 0)) (λ_ _ _ _=>DY))))
 (Ae (Ba (i:=2) Df.nd rfl (Or.inr rfl) (Ou rfl (Hj (Cq hr) (N':=["opener","lone","self"]) rfl ([none,some 1,some 0]|||(Aj Dk)|||xm) (cJ (CV (pv 0) rfl)) (~~~(Ai (i:=0) (show List.Nodup (["opener","lone","self"]:YF) by trivial) rfl (Or.inl rfl))) (λ_ _ _ _=>CT) (~~~(pv 0)) (~~~(CW Kf hr (Aa (jy (K:=K) rfl (pv 2) rfl) (Aa (pv 1) (Aa (pv 0) Ac))))))))
 (Ae (vp rfl (T9 (i:=3) Df.nd rfl (Or.inl rfl) (N':=xj) rfl ([none,none,some 2]|||(Aj Dk)|||xm) (Pk (CV (pv 0) rfl)) (~~~(FW (K:=K) (n:=2) rfl rfl (Ak (0∩xj) (Ak (1∩xj) Bo)))) (~~~(G3 (PW.pt (pO (Cz (N6 (Cq hr) (pv 2) (pv 0) (λ_ _=>rfl))) (jw (Dp (Cz (pv 1)))))))) (~~~(pv 0))))
 (Ae (Bc (Cy Qas Qaq Qar Fe (pv 3) (Aa (Ou rfl (Cw (N':=xj) rfl ([none,none,some 2]|||(Aj Dk)|||xm) (Pk (CV (pv 0) rfl)) (~~~(FW (K:=K) (n:=2) rfl rfl (Ak (0∩xj) (Ak (1∩xj) Bo)))) (~~~(G3 (PW.pt (pO (Cz (pv 1)) (jw (Dp (Cz (N6 (Cq hr) (pv 2) (pv 0) (λ_ _=>rfl))))))))) (~~~(pv 0)))) Ac)))
 (Ae (Cj QbK rfl (Dc (pv 3)) (4∣Df)
 (Ag (Bc (Iv (pv 0) T.cl Y5 hr (Aa (pv 4) Ac)))))
 (Ag (Az (pv 3)))))))),?_⟩
 show let R0:TS:=_;let R1:TS:=Ao (Dq _ _ R0) _;let R2:TS:=Ao _ R1;let R3:TS:=Ao _ R2;let R4:TS:=Ao _ R3;Ao _ R4 _ _ _;intro R0 R1 R2 R3 R4;obtain⟨dx,hp⟩:=R.ins;have hd3:=R.gp;have l3:=R.l3;have nd3:=R.nd3;have nfz:∀o' u,H d3≠some (.frz o' u):=λo' u z=>by rw[hd3] at z;cases z
 have lgs:(gpV gs).length=gs.length:=by unfold gpV;rw[QbH]
 have mY:∀{i:Nat} {kv:List Key×V},(gpV gs)[i]?=some kv->∃x,gs[i]?=some x/\kv=(k2 x.1,.bl x.2):=λ{i kv} h=>by
  unfold gpV at h;rw[Qbm] at h;obtain⟨x,hx,rfl⟩:=QaA.mp h;exact⟨x,hx,rq⟩
 refine⟨_,rq,p,C,dx,_,_,rq,hp,T.cl,T.G9,Gj pl d1 d2 d3,d3,gpV gs,rq,hd3,λo l hl=>?_⟩;have nl:l≠d3:=λz=>by rw[z,Ab] at hl;cases hl
 have fl1:H l=none:=by rw[Am nl] at hl;exact hl
 let J0:YN:=λi U HH=>(∃u,U=[u])/\HH l=some (.dT (gpV ((gs.take i).map λx=>(x.1,true))))/\Same (upd H d3 (.frz o (.dT (gpV gs)))) HH;refine ZD J0 ⟨⟨none,rq⟩,Ab,Ad hl _⟩ (λi U HH _ h=>h.2.2 _ _ Ab) (λi kv b U HH hkv h hb'=>?_) (fun U HH h=>?_)
 ·obtain⟨⟨u,rfl⟩,e1,e2⟩:=h;obtain⟨x,hx,rfl⟩:=mY hkv;have hi:=(Qai.mp hkv).1;unfold FN;dsimp only;refine BL ⟨_,rq,_,k2 x.1,b,e1,rq,hb',Ar (by unfold gpV;rw[QbH,QbH,QbA];omega),⟨_,rq⟩,?_,e2.Bp Ah.upd hl⟩;rw[Ab,jN (f:=λ_=>true) nd3 hx]
 obtain⟨_,e1,e2⟩:=h;rw[lgs,Qby] at e1;have e1:HH l=some (.dT (gpV (lone gs))):=e1;refine⟨d3,o,gpV gs,e2 _ _ Ab,nfz,?_⟩;have s1:=Kl e2 hd3;have h1l:(upd HH d3 (.dT (gpV gs))) l=some (.dT (gpV (lone gs))):=by rw[Am nl];exact e1
 generalize upd HH d3 (.dT (gpV gs))=H1 at *;clear e1 e2 hl;have R1:=R.same s1;obtain⟨dx1,hp1⟩:=R1.ins;refine⟨_,rq,p,C,dx1,_,_,rq,hp1,T.cl,T.G9,Gj pl d1 d2 d3,d3,gpV gs,rq,R1.gp,λo2 ln hl2=>?_⟩;have nln:ln≠d3:=λz=>by rw[z,Ab] at hl2;cases hl2
 have f2:H1 ln=none:=by rw[Am nln] at hl2;exact hl2
 have IT:(lone gs).length=gs.length:=QbH ..;let J1:YN:=λi U HH=>(∃u,U=[u,jp l,jp p])/\HH ln=some (.dT (gpV ((gs.take i).map λx=>(x.1,Bq hs gs x.1))))/\Same (upd H1 d3 (.frz o2 (.dT (gpV gs)))) HH;refine ZD J1 ⟨⟨none,rq⟩,Ab,Ad hl2 _⟩ (λi U HH _ h=>h.2.2 _ _ Ab) (λi kv b U HH hkv h hb'=>?_) (fun U HH h=>?_)
 ·obtain⟨⟨u,rfl⟩,e1,e2⟩:=h;obtain⟨x,hx,rfl⟩:=mY hkv;have hi:=(Qai.mp hkv).1;have gb:=hg x (QaI hx);have z3:∀c v,H1 c=some v->c≠d3->HH c=some v:=λc v e n=>e2 _ _ (by rw[Am n];exact e);have np3:p≠d3:=λz=>by rw[z,R1.gp] at hp1;cases hp1
  unfold FN;dsimp only;refine BL ⟨_,rq,_,rq,p,C,dx1,_,_,rq,z3 _ _ hp1 np3,T.cl,T.Gh,FJ pl d1 d2 d3,_,rq,_,rq,d1,l,b,hs,lone gs,x.1,rq,.inl (z3 _ _ R1.st R1.n13),.inl (z3 _ _ h1l nl),hb',hb,gb.1,gb.2,λH2 s2=>?_⟩;refine⟨_,k2 x.1,b,s2 _ _ e1,rq,s2 _ _ hb',Ar (by unfold gpV;rw[QbH,QbH,QbA];omega),⟨_,rq⟩,?_,(e2.trans s2).Bp Ah.upd hl2⟩;rw[Ab];exact congrArg (λz=>some (HO.dT z)) (jN (f:=λx=>Bq hs gs x.1) nd3 hx)
 obtain⟨_,e1,e2⟩:=h;rw[lgs,Qby] at e1;have e1:HH ln=some (.dT (gpV (DX hs gs))):=e1;have IR:∀o' u,H1 d3≠some (.frz o' u):=λo' u z=>by rw[R1.gp] at z;cases z
 refine⟨d3,o2,gpV gs,e2 _ _ Ab,nfz,?_⟩;have s2:=s1.trans (Kl e2 R1.gp);have h2n:(upd HH d3 (.dT (gpV gs))) ln=some (.dT (gpV (DX hs gs))):=by rw[Am nln];exact e1
 have fln:H ln=none:=s1.free f2;generalize upd HH d3 (.dT (gpV gs))=H2 at *;clear e1 e2 hl2 IR hp1 f2;have R2:=R.same s2;obtain⟨dx2,hp2⟩:=R2.ins;have dz:∀{HX:Hp} {b:Addr} {x:Gt×Bool},HX ln=some (.dT (gpV (DX hs gs)))->HX b=some (.tup [.int x.1.lp,.int x.1.at_])->x∈gs->Dw HX ln (.ref b) (some (.bl (Bq hs gs x.1))):=λ{HX b x} h1 h2 h3=>by
  have g:=Dw.t (k:=k2 x.1) h1 h2;have hin:x.1∈gs.map (·.1):=Qcl.mpr ⟨x,h3,rq⟩;rw[Xg (by rw[Kp];exact hin),show gpC (DX hs gs) x.1=Bq hs gs x.1 from Lw (Bq hs gs) x.1 gs hin] at g
  exact g
 refine⟨_,rq,p,C,dx2,_,_,rq,hp2,T.cl,T.G9,Gj pl d1 d2 d3,d3,gpV gs,rq,R2.gp,λo3 lr hl3=>?_⟩;have nlr:lr≠d3:=λz=>by rw[z,Ab] at hl3;cases hl3
 have OP:H2 lr=none:=by rw[Am nlr] at hl3;exact hl3
 have z2:∀{HH:Hp},Same (upd H2 d3 (.frz o3 (.dT (gpV gs)))) HH->HH ln=some (.dT (gpV (DX hs gs))):=λs=>s _ _ (by rw[Am nln];exact h2n);have lF:∀{HH:Hp} {lc p' b:Addr} {i:Nat} {x:Gt×Bool} {ys:YG} {ps:List Gt} {H0:Hp},HH lc=some (.lst ys)->Paired (Ei HH) ys ps->HH p'=none->HH b=some (.tup [.int x.1.lp,.int x.1.at_])->H0 lc=none->Same H0 HH->((upd (upd HH p' (.tup [.ref b,.bl x.2])) lc (.lst (ys++[.ref b]))) lc=some (.lst (ys++[.ref b]))/\Paired (Ei (upd (upd HH p' (.tup [.ref b,.bl x.2])) lc (.lst (ys++[.ref b])))) (ys++[.ref b]) (ps++[x.1])/\Same H0 (upd (upd HH p' (.tup [.ref b,.bl x.2])) lc (.lst (ys++[.ref b])))):=λ{HH lc p' b i x ys ps H0} h1 h2 h3 h4 h5 h6=>by
  have t1:=Ad h3 (.tup [.ref b,.bl x.2]);have e1':=t1 _ _ h1;have ntl:∀zs,(upd HH p' (.tup [.ref b,.bl x.2])) lc≠some (.tup zs):=λzs z=>by rw[e1'] at z;cases z
  have sL:=Al.upd (o:=.lst (ys++[.ref b])) ntl;exact⟨Ab,Qcx ⟨b,rq,sL _ _ (t1 _ _ h4)⟩ (Paired.Ax h2 λ_ _ z=>(z.tups (Al.of t1)).tups sL),(h6.trans t1).Bp Ah.upd h5⟩
 let J2:YN:=λi U HH=>(∃u v,U=[u,v,jp ln])/\(∃ys,HH lr=some (.lst ys)/\Paired (Ei HH) ys (((gs.take i).filter λx=>Bq hs gs x.1&&!x.2).map (·.1))/\ys.length<=i)/\Same (upd H2 d3 (.frz o3 (.dT (gpV gs)))) HH;refine Rq J2 ⟨⟨none,none,rq⟩,⟨[],Ab,.nil,Qcv _⟩,Ad hl3 _⟩ (λi U HH _ h=>h.2.2 _ _ Ab) (λi kv p' b U HH hkv h hp' hb'=>?_) (fun U HH h=>?_)
 ·obtain⟨⟨u,v,rfl⟩,⟨ys,e1,e3,e4⟩,e2⟩:=h;obtain⟨x,hx,rfl⟩:=mY hkv;have hi:=(Qai.mp hkv).1;have t1:=Ad hp' (.tup [.ref b,.bl x.2]);have e2':=e2.trans t1;have et:((gs.take (i+1)).filter λx=>Bq hs gs x.1&&!x.2).map (·.1)=((gs.take i).filter λx=>Bq hs gs x.1&&!x.2).map (·.1)++([x].filter λx=>Bq hs gs x.1&&!x.2).map (·.1):=by rw[QcF hx,Qbg,QbJ]
  have no:(Bq hs gs x.1&&!x.2)=false->∃ys,(upd HH p' (.tup [.ref b,.bl x.2])) lr=some (.lst ys)/\Paired (Ei (upd HH p' (.tup [.ref b,.bl x.2]))) ys (((gs.take (i+1)).filter λx=>Bq hs gs x.1&&!x.2).map (·.1))/\ys.length<=i+1:=λhc=>by
   refine⟨ys,t1 _ _ e1,?_,by omega⟩;rw[et,show ([x].filter λx=>Bq hs gs x.1&&!x.2)=[] from Qau (by rw[hc];decide),Qcu,QbM]
   exact Paired.Ax e3 λ_ _ z=>z.tups (Al.of t1)
  refine⟨p',_,rq,SqT.of Ab,rq,_,_,rq,_,_,rq,rq,?_⟩;refine⟨_,rq,_,rq,ln,_,rq,dz (z2 e2') (t1 _ _ hb') (QaI hx),_,rq,Kd (λhn=>⟨_,rq,_,rq,Kd (λhx2=>?_) (λhx2=>?_)⟩) (λhn=>BK ⟨⟨_,_,rq⟩,no (by rw[hn];rfl),e2'⟩)⟩
  ·have hx2:x.2=false:=by simpa using hx2
   obtain⟨a1,a2,a3⟩:=lF (i:=i) e1 e3 hp' hb' hl3 e2;refine⟨_,rq,ys,t1 _ _ e1,Ar (by omega),⟨_,_,rq⟩,⟨_,a1,?_,by rw[QaV];show _+1<=_;omega⟩,a3⟩;rw[et,show ([x].filter λx=>Bq hs gs x.1&&!x.2)=[x] from Qav (by rw[hn,hx2];rfl)]
   exact a2
  ·exact⟨⟨_,_,rq⟩,no (by rw[hn,hx2];rfl),e2'⟩
 obtain⟨_,⟨ys,e1,e3,e4⟩,e2⟩:=h;rw[lgs] at e4;rw[lgs,Qby] at e3;refine⟨d3,o3,gpV gs,e2 _ _ Ab,nfz,?_⟩;have s3:=Kl e2 R2.gp;have nt3:∀zs,HH d3≠some (.tup zs):=λzs z=>by rw[e2 _ _ Ab] at z;cases z
 have h3r:(upd HH d3 (.dT (gpV gs))) lr=some (.lst ys):=by rw[Am nlr];exact e1
 have p3:Paired (Ei (upd HH d3 (.dT (gpV gs)))) ys (Li hs gs):=Paired.Ax e3 λ_ _ z=>z.tups (Al.upd nt3);have sH3:=s2.trans s3;have flr:H lr=none:=s2.free OP;have h3n:=s3 _ _ h2n;generalize upd HH d3 (.dT (gpV gs))=H3 at *;clear e1 e2 e3 hl3 z2 nt3;have R3:=R.same sH3;obtain⟨dx3,hp3⟩:=R3.ins;refine⟨_,rq,.inl ⟨rq,_,SqL.of h3r⟩,_,rq,p,C,dx3,_,_,rq,hp3,T.cl,T.G9,Gj pl d1 d2 d3,d3,gpV gs,rq,R3.gp,λo4 lc hl4=>?_⟩;have nlc:lc≠d3:=λz=>by rw[z,Ab] at hl4;cases hl4
 have z3:∀{HH:Hp},Same (upd H3 d3 (.frz o4 (.dT (gpV gs)))) HH->HH ln=some (.dT (gpV (DX hs gs))):=λs=>s _ _ (by rw[Am nln];exact h3n);let J3:YN:=λi U HH=>(∃u v,U=[u,v,jp ln])/\(∃ys,HH lc=some (.lst ys)/\Paired (Ei HH) ys (((gs.take i).filter λx=>x.2&&!Bq hs gs x.1).map (·.1))/\ys.length<=i)/\Same (upd H3 d3 (.frz o4 (.dT (gpV gs)))) HH;refine Rq J3 ⟨⟨none,none,rq⟩,⟨[],Ab,.nil,Qcv _⟩,Ad hl4 _⟩ (λi U HH _ h=>h.2.2 _ _ Ab) (λi kv p' b U HH hkv h hp' hb'=>?_) (fun U HH h=>?_)
 ·obtain⟨⟨u,v,rfl⟩,⟨ys,e1,e3,e4⟩,e2⟩:=h;obtain⟨x,hx,rfl⟩:=mY hkv;have hi:=(Qai.mp hkv).1;have t1:=Ad hp' (.tup [.ref b,.bl x.2]);have e2':=e2.trans t1;have et:((gs.take (i+1)).filter λx=>x.2&&!Bq hs gs x.1).map (·.1)=((gs.take i).filter λx=>x.2&&!Bq hs gs x.1).map (·.1)++([x].filter λx=>x.2&&!Bq hs gs x.1).map (·.1):=by rw[QcF hx,Qbg,QbJ]
  have no:(x.2&&!Bq hs gs x.1)=false->∃ys,(upd HH p' (.tup [.ref b,.bl x.2])) lc=some (.lst ys)/\Paired (Ei (upd HH p' (.tup [.ref b,.bl x.2]))) ys (((gs.take (i+1)).filter λx=>x.2&&!Bq hs gs x.1).map (·.1))/\ys.length<=i+1:=λhc=>by
   refine⟨ys,t1 _ _ e1,?_,by omega⟩;rw[et,show ([x].filter λx=>x.2&&!Bq hs gs x.1)=[] from Qau (by rw[hc];decide),Qcu,QbM]
   exact Paired.Ax e3 λ_ _ z=>z.tups (Al.of t1)
  refine⟨p',_,rq,SqT.of Ab,rq,_,_,rq,_,_,rq,rq,?_⟩;refine⟨_,rq,_,rq,Kd (λhx2=>⟨_,rq,_,rq,ln,_,rq,dz (z3 e2') (t1 _ _ hb') (QaI hx),_,rq,Kd (λhn=>?_) (λhn=>?_)⟩) (λhx2=>BK ⟨⟨_,_,rq⟩,no (by rw[hx2];rfl),e2'⟩)⟩
  ·have hn:Bq hs gs x.1=false:=by simpa using hn
   obtain⟨a1,a2,a3⟩:=lF (i:=i) e1 e3 hp' hb' hl4 e2;refine⟨_,rq,ys,t1 _ _ e1,Ar (by omega),⟨_,_,rq⟩,⟨_,a1,?_,by rw[QaV];show _+1<=_;omega⟩,a3⟩;rw[et,show ([x].filter λx=>x.2&&!Bq hs gs x.1)=[x] from Qav (by rw[hn,hx2];rfl)]
   exact a2
  ·have hn:Bq hs gs x.1=true:=by simpa using hn
   exact⟨⟨_,_,rq⟩,no (by rw[hn,hx2];rfl),e2'⟩
 obtain⟨_,⟨zs,e1,e3,e5⟩,e2⟩:=h;rw[lgs] at e5;rw[lgs,Qby] at e3;refine⟨d3,o4,gpV gs,e2 _ _ Ab,nfz,?_⟩;have s4:=Kl e2 R3.gp;have nt3:∀zs,HH d3≠some (.tup zs):=λzs z=>by rw[e2 _ _ Ab] at z;cases z
 have h4c:(upd HH d3 (.dT (gpV gs))) lc=some (.lst zs):=by rw[Am nlc];exact e1
 have p4:Paired (Ei (upd HH d3 (.dT (gpV gs)))) zs (row2 hs gs):=Paired.Ax e3 λ_ _ z=>z.tups (Al.upd nt3);have h4r:=s4 _ _ h3r;have p4r:Paired (Ei (upd HH d3 (.dT (gpV gs)))) ys (Li hs gs):=Paired.Ax p3 λ_ _ z=>z.tups (Al.of s4);have sH4:=sH3.trans s4;generalize upd HH d3 (.dT (gpV gs))=H4 at *;clear e1 e2 e3 hl4 z3 nt3 h3r p3 dz lF;refine⟨lr,lc,_,_,rq,rq,h4r,h4c,Av (by omega),?_⟩;have ntr:∀zs,H4 lr≠some (.tup zs):=λzs z=>by rw[h4r] at z;cases z
 have t5:=Al.upd (o:=.lst (ys++zs)) ntr;have p5:Paired (Ei (upd H4 lr (.lst (ys++zs)))) (ys++zs) (Li hs gs++row2 hs gs):=Paired.app (Paired.Ax p4r λ_ _ z=>z.tups t5) (Paired.Ax p4 λ_ _ z=>z.tups t5);have h5r:(upd H4 lr (.lst (ys++zs))) lr=some (.lst (ys++zs)):=Ab;have sH5:Same H (upd H4 lr (.lst (ys++zs))):=sH4.Bp Ah.upd flr;generalize upd H4 lr (.lst (ys++zs))=H5 at *;have R5:=R.same sH5;have l5:=Qcc p5;have C9:lr≠d3:=nlr;have kin:∀g∈Li hs gs++row2 hs gs,g∈gs.map (·.1):=λg h=>by
  rcases QbI.mp h with h | h
  ·exact ((QF nd3 (p:=λg b=>Bq hs gs g&&!b)).mp h).1
  ·exact ((QF nd3 (p:=λg b=>b&&!Bq hs gs g)).mp h).1
 refine⟨_,rq,lr,rq,⟨_,SqL.of h5r⟩,?_⟩;let J4:YN:=λi U HH=>(∃u,U=[jp p,jp l,jp ln,jp lr,u])/\WAt C HH p pl d1 d2 d3 hs fl (IK hs gs ((Li hs gs++row2 hs gs).take i))/\Ah d3 H5 HH;refine Lz (xs:=ys++zs) J4 ⟨⟨_,rq⟩,R5,Ah.of (Same.refl _)⟩ (λi U HH _ h=>SqL.of (h.2.2 _ _ h5r C9)) (λi x U HH hx h=>?_) (fun U HH h=>?_)
 ·obtain⟨⟨u,rfl⟩,W,sB⟩:=h;obtain⟨g,hgi,b,rfl,hbt⟩:=Paired.Ck p5 hx;obtain⟨dx6,hp6⟩:=W.ins;have k6:=Ry hs ((Li hs gs++row2 hs gs).take i) gs;have nt5:∀zs,H5 d3≠some (.tup zs):=λzs z=>by rw[R5.gp] at z;cases z
  unfold FN;dsimp only;refine⟨_,rq,p,dx6,_,rq,hp6,fno (by trivial),_,rq,p,pl,d1,d2,d3,hs,fl,_,b,g,rq,W,hb,hg.keys k6,(sB.tup nt5) _ _ hbt,by rw[k6];exact kin g (QaI hgi),λH' W' sB'=>⟨⟨_,rq⟩,?_,sB.trans sB'⟩⟩;rw[QcF hgi,gq];exact W'
 ·obtain⟨⟨u,rfl⟩,W,sB⟩:=h;rw[l5,Qby,uV nd3] at W;have nt5:∀zs,H5 d3≠some (.tup zs):=λzs z=>by rw[R5.gp] at z;cases z
  exact⟨_,rq,q lr _ HH flr (sB _ _ h5r C9) (Paired.Ax p5 λ_ _ z=>z.tups (sB.tup nt5)) W ((Ah.of sH5).trans sB)⟩
abbrev JQ:Stmt:=(inClass (top 54) 14)
abbrev HN:YF:=["self","loop","end"]
abbrev x9:YF:=["self","loop","end","opener","wires","places"]
theorem GR:Ay x9 HN (Aj JQ):=by ac_rfl
def flC (fl:YQ) (s:Sp3):Bool:=(fl.find? λx=>decide (x.1=s)).any λx=>x.2.isSome
theorem jR {H:Hp} (s:Sp3):∀{kvs:YL} {fl:YQ},Paired (Ie H) kvs fl->(!decide ((Dv kvs (k3 s)).getD .non=.non))=flC fl s
 | [],[],.nil=>by show (!decide (V.non=V.non))=false;rw[QbX rfl];rfl
 | kv::_,x::_,.cons h t=>by
  unfold flC;by_cases e:x.1=s
  ·rw[IV (p:=kv) (by rw[h.1,e]),QaC (by exact QbX e)];obtain⟨h1,h2⟩:=h;obtain⟨xs,xo⟩:=x;cases xo with
   | none=>
    have h2:kv.2=.non:=h2;show (!decide (kv.2=.non))=false;rw[h2,QbX rfl];rfl
   | some d=>
    obtain⟨u,h2,_⟩:=h2;show (!decide (kv.2=.non))=true;rw[h2,QbL (by intro z;cases z)];rfl
  ·rw[GC (p:=kv) (λz=>e (O4 (by rw[<-h.1,z]))),Qaz (by simpa using e)];exact jR s t
theorem rJ {fl:YQ} {s:Sp3} (h:flC fl s=true):s∈fl.map (·.1):=by
 unfold flC at h;cases e:fl.find? λx=>decide (x.1=s) with
 | none=>rw[e] at h;cases h
 | some y=>exact Qcl.mpr ⟨y,List.mem_of_find?_eq_some e,by have:=List.find?_some e;simpa using this⟩
theorem QW (hs:YR) (lp a:Int):∀f n,∀s∈Fj hs lp a f n,s.at_=a/\(n:Int)<=s.n
 | 0,_,s,h=>by cases h
 | f+1,n,s,h=>by
  unfold Fj at h;split at h
  ·cases h
  ·rcases Qcd.mp h with rfl | h
   ·exact⟨rq,QcB _⟩
   ·have:=QW hs lp a f (n+1) s h;exact⟨this.1,by omega⟩
theorem bA (hs:YR) (lp a:Int):∀f n,(Fj hs lp a f n).Nodup
 | 0,_=>QbZ
 | f+1,n=>by
  unfold Fj;split
  ·exact QbZ
  ·refine QbO.mpr ⟨λh=>?_,bA hs lp a f (n+1)⟩;have:=(QW hs lp a f (n+1) _ h).2;dsimp only at this;omega
theorem ZG (hs:YR) (gs:YT) (lp st:Int) (hst:st=1\/st=-1):∀f a,(Bm hs gs lp st f a).2.Nodup/\∀s∈(Bm hs gs lp st f a).2,0 < (s.at_ - a)*st
 | 0,_=>⟨QbZ,λs h=>by cases h⟩
 | f+1,a=>by
  obtain⟨n1,n2⟩:=ZG hs gs lp st hst f (a+st);have at1:∀s∈(⟨lp,a+st,0⟩::Cp hs lp (a+st):YV),s.at_=a+st:=λs h=>by
   rcases Qcd.mp h with rfl | h
   ·rfl
   ·exact (QW hs lp (a+st) 4 1 s h).1
  have nd1:(⟨lp,a+st,0⟩::Cp hs lp (a+st):YV).Nodup:=by
   refine QbO.mpr ⟨λh=>?_,bA hs lp (a+st) 4 1⟩;have:=(QW hs lp (a+st) 4 1 _ h).2;dsimp only at this;omega
  have pos1:∀s∈(⟨lp,a+st,0⟩::Cp hs lp (a+st):YV),0 < (s.at_ - a)*st:=λs h=>by
   rw[at1 s h];rcases hst with rfl | rfl <;> omega
  unfold Bm;split
  ·exact⟨QbZ,λs h=>by cases h⟩
  ·split
   ·exact⟨nd1,pos1⟩
   ·have n2':∀s∈(Bm hs gs lp st f (a+st)).2,0 < (s.at_ - (a+st))*st:=n2;refine⟨Qbu.mpr ⟨nd1,n1,λx hx y hy e=>?_⟩,λs h=>?_⟩
    ·have h1:=at1 x hx;have h2:=n2' y hy;rw[<-e,h1] at h2;rcases hst with rfl | rfl <;> omega
    ·rcases QbI.mp h with h | h
     ·exact pos1 s h
     ·have h2:=n2' s h;rcases hst with rfl | rfl <;> omega
def Y7 (e:Str):Bool:=decide (V.str e=V.str "A")
def CZ (lp:Int) (n:Nat) (e:Str):Gt:=⟨lp,if Y7 e=true then 0 else (n:Int)+1⟩
def Fz (e:Str):Int:=if Y7 e=true then 1 else -1
def NP (hs:YR) (gs:YT) (fl:YQ) (lp:Int) (n:Nat) (e:Str):YV:=
 if gpC gs (CZ lp n e)=true then [] else if Ey hs (Bm hs gs lp (Fz e) 16 (CZ lp n e).at_).1=true then [] else (Bm hs gs lp (Fz e) 16 (CZ lp n e).at_).2.filter (flC fl)
theorem Ww {α β : Type} {R:α->β->Prop} {xs:List α} {ys:List β} {d:α} {e:β} (h:Paired R xs ys):∀is:List Nat,(∀i∈is,i < xs.length)->Paired R (is.map λi=>xs.getD i d) (is.map λi=>ys.getD i e)
 | [],_=>.nil
 | i::r,hi=>by
  have h1:xs[i]?=some (xs[i]'(hi i QaW)):=Qan _;obtain⟨y,hy,hr⟩:=Paired.Ck h h1;refine .cons ?_ (Ww h r λj hj=>hi j (QaJ _ hj));show R (xs.getD i d) (ys.getD i e);rw[List.getD_eq_getElem?_getD,List.getD_eq_getElem?_getD,h1,hy];exact hr
theorem qJ {K:YD} {H:Hp}:∀{vs:YG} {ss:YV},Paired (CN H) vs ss->(∀s∈ss,Bd3 s)->Paired (Xr K H) vs (ss.map cd3)
 | _,_,.nil,_=>.nil
 | _,_,.cons (b:=s) ⟨t,e,h1⟩ r,hb=>.cons ⟨t,s.lp,s.at_,s.n,e,SqT.of h1,(hb s QaW).c3⟩ (qJ r λx hx=>hb x (QaJ _ hx))
theorem EW {ss:YV} (nd:ss.Nodup) (hb:∀s∈ss,Bd3 s):(ss.map cd3).Nodup:=by
 rw[Qah,Qbx];rw[Qah] at nd;exact nd.imp_of_mem λ{a b} ha hb' ne e=>ne ((hb a ha).inj (hb b hb') e)
instance:DecidableEq Sp3:=λa b=>if h:a.lp=b.lp/\a.at_=b.at_/\a.n=b.n then isTrue (by cases a;cases b;simp at h;obtain⟨h1,h2,h3⟩:=h;subst h1 h2 h3;rfl) else isFalse λe=>h (by rw[e];exact⟨rfl,rfl,rfl⟩)
theorem WW:∀{l m:YV},l.Nodup->(∀x∈l,x∈m)->l.length<=m.length
 | [],_,_,_=>Qcw _
 | a::r,m,nd,h=>by
  have ha:=h a (QaW ..);obtain⟨n1,n2⟩:=QbO.mp nd;have:=WW (l:=r) (m:=m.erase a) n2 λx hx=>(List.mem_erase_of_ne (λe=>n1 (by rw[<-e];exact hx))).mpr (h x (QaJ _ hx));rw[List.length_erase_of_mem ha] at this;have hp:=List.length_pos_of_mem ha;rw[Qbz];omega
theorem uP {α : Type} {d:α} {l:List α} {is:List Nat} (h:is.Perm (List.range l.length)):(is.map λi=>l.getD i d).Perm l:=by
 refine (h.map _).trans ?_;have:(List.range l.length).map (λi=>l.getD i d)=l:=by
  apply List.ext_getElem
  ·simp
  ·intro i h1 h2;simp at h1;simp[h1]
 rw[this]
theorem uQ {α : Type} {d:α} {c:α->Int} {l:List α} {is:List Nat} (h:is.Perm (List.range l.length)):(is.map λi=>l.getD i d).map c=is.map λi=>(l.map c).getD i 0:=by
 rw[Qcp];exact QaQ λi hi=>by
  have:=Qca.mp (h.mem_iff.mp hi);simp[this]
def Id:TE:=fun U H Q=>∃e,U[2]?=some (some (.str e))/\Q (.int (Fz e)) H
def jo (C:Addr):Sp:=λvs H Q _=>∃(p pl d1 d2 d3:Addr) (hs:YR) (fl:YQ) (gs:YT) (most:Int) (ja:YU) (jn:List Zone) (k:Nat) (ps:List Place) (e:Str),vs=[.ref p,.int (k:Int),.str e]/\WAt C H p pl d1 d2 d3 hs fl gs/\GF H pl most ja jn/\ja[k]?=some ps/\(∀s∈hs.map (·.1),Bd3 s)/\(∀s∈fl.map (·.1),Bd3 s)/\fl.length<=30/\CZ k ps.length e∈gs.map (·.1) /\
 ∀l xs L H',H l=none->H' l=some (.lst xs)->Paired (CN H') xs L->L.Perm (NP hs gs fl k ps.length e)->(L.map cd3).Pairwise (· < ·)->Same H H'->Q (.ref l) H'
theorem wg (c:GJ K C "heard" "Wires.heard" JQ HN) (T:Tw K mg op oe kd wk C) (Py:⋯ "come_to" 2 Kw Wi) (Mr:⋯ "has_short" 1 Ii T3):BX P w K mg base C "heard" 3 HN (jo C):=by
 have sc:=GR;exists c,GR
 obtain⟨p,pl,d1,d2,d3,hs,fl,gs,most,ja,jn,k,ps,e,rfl,R,pa,hps,hb,hbf,l30,NF,q⟩:=h;refine⟨_,(Ae (3∪GR∪(cN (Br Js (pv 2) Bd (Bv _)) (Bb (Aa (pv 1) (Aa Af Ac))) (Bb (Aa (pv 1) (Aa (Bf CG (Aw Bh rfl T.len CJ (Aa (Bj Bw (Bj Bw (CV (pv 0) rfl) Af (λ_ _=>rfl)) (pv 1) (λ_ _=>rfl)) Ac)) Af) Ac)))))
 (Ae (Ce (Cz (N6 (Cq hr) (CV (pv 0) rfl) (pv 3) (λ_ _=>rfl))) (Ag (Az (BZ Ac))) Bt)
 (Ae (GZ (Wv Py hr (Aa (CV (pv 0) rfl) (Aa (CV (pv 0) rfl) (Aa (pv 3) (Aa (PE.weak (ta':=Id) (cN (Br Js (pv 2) Bd (Bv _)) Af (Wu RT Af)) (fun U H Q h=>by
    obtain⟨e,e1,q⟩:=h;refine⟨_,e1,rq,_,rq,?_⟩;unfold Fz Y7 at q;split at q
    ·rename_i h;rw[h];exact BL q
    ·rename_i h;rw[show decide (V.str e=V.str "A")=false by simpa using h];exact BK ⟨_,rq,q⟩)) Ac))))) (CK rfl (Ak (4∣GR) (Ak (5∣GR) Bo))))
 (Ae (Ce (Cz (BP Mr hr (Aa (CV (pv 0) rfl) (Aa (pv 4) Ac)))) (Ag (Az (BZ Ac))) Bt)
 (Ag (Az (Aw fO rfl T.sorted ZK (Aa (Cw (N':=["spot","self"]) rfl ([none,some 0]|||(Aj JQ)|||x9) (Dc (pv 5)) (~~~(Ai (i:=0) (show List.Nodup (["spot","self"]:YF) by trivial) rfl (Or.inl rfl))) (~~~(G3 (Br jB (vK (Cq hr) (jy (K:=K) rfl (pv 1) rfl) (pv 0) ⟨rq,rq,rq,rq⟩) Jf (Bv _)))) (~~~(pv 0))) Ac)))))))),?_⟩
 show let R0:TS:=_;let R1:TS:=Ao _ R0;let R2:TS:=Ao _ R1;let R3:TS:=Ao _ R2;Ao _ R3 _ _ _;intro R0 R1 R2 R3;obtain⟨dx,hp⟩:=R.ins;have ok:=pa.ok;obtain⟨Ls,zs,ws,zvs,f1,f2,f3,f4,f5⟩:=pa.at_;have lw:=Qcc f3;have hkl:=(Qai.mp hps).1;have hwk:ws[k]?=some ws[k]:=Qan (by omega);obtain⟨ps',D5,t,vs',ev,ht,hpp⟩:=Paired.Ck f3 hwk;rw[hps] at D5;cases D5;have lv:=Qcc hpp;have l12:=(ok.ok ps (QaI hps)).hi;have VF:atI ws (k:Int)=some (.ref t):=Fq (by rw[hwk,ev]);have hst:Fz e=1\/Fz e=-1:=by unfold Fz;split;exact .inl rfl;exact .inr rfl
 have ga:0<=(CZ k ps.length e).at_/\(CZ k ps.length e).at_<=13:=by
  unfold CZ;dsimp only;split <;> omega
 have qn:NP hs gs fl k ps.length e=[]->∀HX l,Same H HX->HX l=none->Q (.ref l) (upd HX l (.lst [])):=λhz HX l sX hl=>by
  refine q l [] [] _ (sX.free hl) Ab .nil ?_ .nil (sX.trans (Ad hl _));rw[hz]
 show Ao (aY _ _) _ _ _ _;refine Sh (fun U HH=>∃to,U=[jp p,some (.int (k:Int)),some (.str e),jp to,none,none]/\HH to=some (.tup [.int (k:Int),.int (CZ k ps.length e).at_])/\Same H HH) (fun U HH h=>?_) (λD' hn=>?_);rotate_left 1
 ·refine⟨_,rq,rq,_,rq,Kd (λh=>?_) (λh=>?_)⟩
  ·have hg:(CZ k ps.length e).at_=0:=if_pos h;rw[hg] at hn;refine⟨_,rq,ke,λto hto=>?_⟩;exact hn _ _ ⟨to,rq,Ab,Ad hto _⟩
  ·have hg:(CZ k ps.length e).at_=(ps.length:Int)+1:=if_neg (by unfold Y7;rw[h];decide);rw[hg] at hn;refine⟨_,rq,_,rq,p,C,dx,_,_,rq,hp,T.cl,T.dB,Ti (i:=0) (fnd pl d1 d2 d3) rfl,pl,_,_,_,rq,rq,SqT.of f1,rq,_,rq,Ls,_,_,_,rq,rq,SqT.of f2,VF,t,_,rq,.inr (SqT.of ht),_,_,rq,rq,ke,λto hto=>?_⟩;rw[lv];exact hn _ _ ⟨to,rq,Ab,Ad hto _⟩
 obtain⟨to,rfl,hto,s1⟩:=h;have R1:=R.same s1;obtain⟨dx1,hp1⟩:=R1.ins;have gg:=Dw.t (k:=k2 (CZ k ps.length e)) R1.gp hto;rw[Xg NF] at gg;refine⟨_,rq,p,C,dx1,_,_,rq,hp1,T.cl,T.G9,Gj pl d1 d2 d3,_,rq,d3,_,rq,gg,_,rq,Kd (λhg=>?_) (λhg=>?_)⟩
 ·exact⟨js,λl hl=>qn (if_pos hg) _ l s1 hl⟩
 have hg':¬gpC gs (CZ k ps.length e)=true:=by rw[hg];decide
 refine⟨_,rq,p,C,dx1,_,_,rq,hp1,T.cl,T.Gh,FJ pl d1 d2 d3,_,rq,p,C,dx1,_,_,rq,hp1,T.cl,T.G9,Gj pl d1 d2 d3,_,rq,e,rq,d1,d3,to,hs,gs,CZ k ps.length e,Fz e,rq,.inl R1.st,.inl R1.gp,hto,hb,hst,by omega,by omega,λtt l1 l2 xs ys H2 htt hl1 hx1 hl2 hy2 s2=>⟨tt,_,rq,SqT.of htt,rq,_,_,rq,_,_,rq,rq,?_⟩⟩;have s12:=s1.trans s2;have R2:=R.same s12;obtain⟨dx2,hp2⟩:=R2.ins;have mX:(Bm hs gs (CZ k ps.length e).lp (Fz e) 16 (CZ k ps.length e).at_).1.length<=200:=Qco (Tn hs gs _ _ 16 _) (by decide);refine⟨_,rq,p,C,dx2,_,_,rq,hp2,T.cl,T.Gh,FJ pl d1 d2 d3,_,rq,d1,l1,hs,xs,_,rq,.inl R2.st,hl1,hx1,Rt hs gs _ _ 16 _,mX,λH3 s3=>⟨_,rq,Kd (λhsh=>?_) (λhsh=>?_)⟩⟩
 ·exact⟨js,λl hl=>qn ((if_neg hg').trans (if_pos hsh)) _ l (s12.trans s3) hl⟩
 have hw:NP hs gs fl k ps.length e=(Bm hs gs k (Fz e) 16 (CZ k ps.length e).at_).2.filter (flC fl):=(if_neg hg').trans (if_neg (by
  have:Ey hs (Bm hs gs k (Fz e) 16 (CZ k ps.length e).at_).1=false:=hsh;rw[this];decide))
 have s13:=s12.trans s3;have R3:=R.same s13;obtain⟨dx3,hp3⟩:=R3.ins;have hl2':=s3 _ _ hl2;have hy3:Paired (CN H3) ys (Bm hs gs k (Fz e) 16 (CZ k ps.length e).at_).2:=Paired.Ax hy2 λ_ _ z=>z.tups (Al.of s3);generalize hcw:(Bm hs gs k (Fz e) 16 (CZ k ps.length e).at_).2=cw at *;have cnd:cw.Nodup:=by rw[<-hcw];exact (ZG hs gs k (Fz e) hst 16 _).1
 have EO:(cw.filter (flC fl)).Nodup:=List.Nodup.sublist List.filter_sublist cnd;have fin:∀s∈cw.filter (flC fl),s∈fl.map (·.1):=λs h=>rJ (QbQ.mp h).2;have OQ:(cw.filter (flC fl)).length<=30:=by
  have:=WW EO fin;rw[QbH] at this;omega
 have fbd:∀s∈cw.filter (flC fl),Bd3 s:=λs h=>hbf s (fin s h);have ly:=Qcc hy3;refine⟨_,rq,l2,rq,⟨_,SqL.of hl2'⟩,λlc hlc=>?_⟩;let J0:YN:=λi U HH=>(∃u,U=[u,jp p])/\(∃zs,HH lc=some (.lst zs)/\Paired (CN HH) zs ((cw.take i).filter (flC fl)))/\Same H3 HH;refine Hq (xs:=ys) J0 ⟨⟨_,rq⟩,⟨[],Ab,.nil⟩,Ad hlc _⟩ (λi U HH _ h=>SqL.of (h.2.2 _ _ hl2')) (λi x U HH hx h=>?_) (fun U HH h=>?_)
 ·obtain⟨⟨u,rfl⟩,⟨zs,e1,e3⟩,e2⟩:=h;obtain⟨sp,hsp,b,rfl,hbt⟩:=Paired.Ck hy3 hx;have RX:=R3.same e2;obtain⟨dxx,hpx⟩:=RX.ins;obtain⟨kvs,hk,hf⟩:=RX.fi;have lz:=Qcc e3;have IS:zs.length<=30:=by
   rw[lz];exact Qco ((List.Sublist.filter _ (List.take_sublist i cw)).length_le) OQ
  have et:(cw.take (i+1)).filter (flC fl)=(cw.take i).filter (flC fl)++[sp].filter (flC fl):=by rw[QcF hsp,Qbg]
  unfold FN;dsimp only;refine⟨_,rq,p,C,dxx,_,_,rq,hpx,T.cl,T.Kc,K4 pl d1 d2 d3,d2,rq,.inr ⟨_,.inl hk⟩,_,rq,_,Dw.t (k:=k3 sp) hk (e2 _ _ hbt),rq,_,rq,?_⟩;rw[jR sp hf];refine Kd (λhc=>?_) (λhc=>?_)
  ·have ntl:∀us,HH lc≠some (.tup us):=λus z=>by rw[e1] at z;cases z
   have sL:=Al.upd (o:=.lst (zs++[.ref b])) ntl;refine⟨_,rq,zs,e1,Ar (by omega),⟨_,rq⟩,⟨_,Ab,?_⟩,e2.Bp Ah.upd hlc⟩;rw[et,Qav hc];exact Qcx ⟨b,rq,sL _ _ (e2 _ _ hbt)⟩ (Paired.Ax e3 λ_ _ z=>z.tups sL)
  ·refine⟨⟨_,rq⟩,⟨zs,e1,?_⟩,e2⟩;rw[et,Qau (by rw[hc];decide)];show Paired _ _ (_++[]);rw[QbM];exact e3
 obtain⟨_,⟨zs,e1,e3⟩,e2⟩:=h;rw[ly,Qby] at e3;have lz:=Qcc e3;refine uL (ks:=(cw.filter (flC fl)).map cd3) (SqL.of e1) (by omega) (qJ e3 fbd) (EW EO fbd) λis ls hperm Uh hls=>?_;rw[lz] at hperm;have s5:=Ad hls (.lst (is.map λi=>zs.getD i .non));have lU:=(s13.trans e2).trans s5;refine q ls _ (is.map λi=>(cw.filter (flC fl)).getD i ⟨0,0,0⟩) _ ((s13.trans e2).free hls) Ab (Ww (Paired.Ax e3 λ_ _ z=>z.tups (Al.of s5)) is λi hi=>by rw[lz];exact Qca.mp (hperm.mem_iff.mp hi)) ?_ ?_ lU
 ·rw[hw];exact uP hperm
 ·rw[uQ hperm];exact Uh
theorem pos_succ (a st:Int) (i:Nat):a+st+(i:Int)*st=a+((i+1:Nat):Int)*st:=by
 rw[Int.natCast_add,Int.add_mul,show ((1:Nat):Int)=1 from rfl,Int.one_mul]
 omega
def Mf (lp a st:Int) (i:Nat):Sp3:=⟨lp,CP (a+(i:Int)*st) (a+((i+1:Nat):Int)*st),0⟩
def Ek (a st:Int) (i:Nat):Int:=a+((i+1:Nat):Int)*st
theorem Nu (lp a st:Int):Mf lp a st 0=⟨lp,CP a (a+st),0⟩:=by
 unfold Mf;rw[show ((0:Nat):Int)*st=0 from Int.zero_mul st,Int.add_zero,show ((0+1:Nat):Int)*st=st from Int.one_mul st]
theorem JB (a st:Int):Ek a st 0=a+st:=by
 unfold Ek;rw[show ((0+1:Nat):Int)*st=st from Int.one_mul st]
theorem Wb (lp a st:Int) (i:Nat):Mf lp (a+st) st i=Mf lp a st (i+1):=by
 unfold Mf;rw[pos_succ,pos_succ]
theorem Ml (a st:Int) (i:Nat):Ek (a+st) st i=Ek a st (i+1):=by
 unfold Ek;rw[pos_succ]
def Open (hs:YR) (gs:YT) (lp st a:Int) (j:Nat):Prop:=(∀i,i<=j->¬stC hs (Mf lp a st i)="cut")/\∀i,i < j->gpC gs ⟨lp,Ek a st i⟩=false
theorem pZ {hs:YR} {gs:YT} {lp st a:Int}:Open hs gs lp st a 0 ↔ ¬stC hs ⟨lp,CP a (a+st),0⟩="cut":=by
 rw[<-Nu];constructor
 ·intro h;exact h.1 0 (Qcv _)
 ·intro h;refine⟨λi hi=>?_,λi hi=>by omega⟩;rw[show i=0 by omega];exact h
theorem S5 {hs:YR} {gs:YT} {lp st a:Int} {j:Nat}:Open hs gs lp st a (j+1) ↔ ¬stC hs ⟨lp,CP a (a+st),0⟩="cut"/\gpC gs ⟨lp,a+st⟩=false/\Open hs gs lp st (a+st) j:=by
 constructor
 ·rintro ⟨h1,h2⟩;refine⟨by rw[<-Nu];exact h1 0 (by omega),by have:=h2 0 (by omega);rw[JB] at this;exact this,λi hi=>?_,λi hi=>?_⟩
  ·rw[Wb];exact h1 (i+1) (by omega)
  ·rw[Ml];exact h2 (i+1) (by omega)
 ·rintro ⟨h1,h2,h3,h4⟩;refine⟨λi hi=>?_,λi hi=>?_⟩
  ·cases i with
   | zero=>rw[Nu];exact h1
   | succ i=>rw[<-Wb];exact h3 i (by omega)
  ·cases i with
   | zero=>rw[JB];exact h2
   | succ i=>rw[<-Ml];exact h4 i (by omega)
theorem Rr {hs:YR} {gs:YT} {lp st:Int} {s:Sp3}:∀{f:Nat} {a:Int},s∈(Bm hs gs lp st f a).2 ↔ ∃j,j < f/\Open hs gs lp st a j/\s∈(⟨lp,Ek a st j,0⟩::Cp hs lp (Ek a st j):YV)
 | 0,a=>by
  constructor
  ·intro h;cases h
  ·rintro ⟨j,h,_⟩;omega
 | f+1,a=>by
  by_cases hc:stC hs ⟨lp,CP a (a+st),0⟩="cut"
  ·rw[show Bm hs gs lp st (f+1) a=([],[]) from if_pos hc]
   constructor
   ·intro h;cases h
   ·rintro ⟨j,_,ho,_⟩;have:=ho.1 0 (Qcw _);rw[Nu] at this;exact absurd hc this
  ·have zero:s∈(⟨lp,a+st,0⟩::Cp hs lp (a+st):YV)->∃j,j < f+1/\Open hs gs lp st a j/\s∈(⟨lp,Ek a st j,0⟩::Cp hs lp (Ek a st j):YV):=λh=>⟨0,by omega,pZ.mpr hc,by rw[JB];exact h⟩;cases hg:gpC gs ⟨lp,a+st⟩ with
   | true=>
    rw[show Bm hs gs lp st (f+1) a=(⟨lp,CP a (a+st),0⟩::Cp hs lp (a+st),⟨lp,a+st,0⟩::Cp hs lp (a+st)) from (if_neg hc).trans (if_pos hg)]
    constructor
    ·exact zero
    ·rintro ⟨j,_,ho,h⟩;cases j with
     | zero=>rw[JB] at h;exact h
     | succ j=>rw[(S5.mp ho).2.1] at hg;cases hg
   | false=>
    rw[show Bm hs gs lp st (f+1) a=((⟨lp,CP a (a+st),0⟩::Cp hs lp (a+st))++(Bm hs gs lp st f (a+st)).1,(⟨lp,a+st,0⟩::Cp hs lp (a+st))++(Bm hs gs lp st f (a+st)).2) from (if_neg hc).trans (if_neg (by rw[hg];decide))]
    show s∈_++_ ↔ _;rw[QbI,Rr (f:=f) (a:=a+st)];constructor
    ·rintro (h |⟨j,hj,ho,h⟩)
     ·exact zero h
     ·exact⟨j+1,by omega,S5.mpr ⟨hc,hg,ho⟩,by rw[<-Ml];exact h⟩
    ·rintro ⟨j,hj,ho,h⟩;cases j with
     | zero=>rw[JB] at h;exact .inl h
     | succ j=>exact .inr ⟨j,by omega,(S5.mp ho).2.2,by rw[Ml];exact h⟩
theorem bx {hs:YR} {lp x:Int} {s:Sp3}:∀{f n:Nat},s∈Fj hs lp x f n ↔ ∃i,i < f/\s=⟨lp,x,((n+i:Nat):Int)⟩/\∀m,m<=i->¬stC hs ⟨lp,x,((n+m:Nat):Int)⟩="cut"
 | 0,n=>by
  constructor
  ·intro h;cases h
  ·rintro ⟨i,h,_⟩;omega
 | f+1,n=>by
  by_cases hc:stC hs ⟨lp,x,(n:Int)⟩="cut"
  ·rw[show Fj hs lp x (f+1) n=[] from if_pos hc]
   constructor
   ·intro h;cases h
   ·rintro ⟨i,_,_,h⟩;exact absurd hc (h 0 (Qcw _))
  ·rw[show Fj hs lp x (f+1) n=⟨lp,x,(n:Int)⟩::Fj hs lp x f (n+1) from if_neg hc,Qcd,bx (f:=f) (n:=n+1)]
   constructor
   ·rintro (h |⟨i,hi,h,hm⟩)
    ·exact⟨0,by omega,h,λm hm=>by rw[show n+m=n by omega];exact hc⟩
    ·refine⟨i+1,by omega,by rw[h,show n+1+i=n+(i+1) by omega],λm hm'=>?_⟩;cases m with
     | zero=>exact hc
     | succ m=>rw[show n+(m+1)=n+1+m by omega];exact hm m (by omega)
   ·rintro ⟨i,hi,h,hm⟩;cases i with
    | zero=>exact .inl h
    | succ i=>exact .inr ⟨i,by omega,by rw[h,show n+1+i=n+(i+1) by omega],λm hm'=>by rw[show n+1+m=n+(m+1) by omega];exact hm (m+1) (by omega)⟩
theorem V9 {α : Type} {f:Nat->List α} {n:Nat} {x:α}:x∈up f n ↔ ∃i,i < n/\x∈f i:=⟨Ec,λ⟨i,a,b⟩=>QbG.mpr ⟨i,Qca.mpr a,b⟩⟩
theorem Rw {α : Type} {l:List α} {i:Nat} {x:α} (h:l[i]?=some x):i < l.length:=(Qai.mp h).1
def InL (ps:List Place) (a n:Int):Prop:=(a=0/\n=0)\/∃(i:Nat) (p:Place),ps[i]?=some p/\a=(i:Int)+1/\0<=n/\n<=(p.spur.length:Int)
theorem qG {ja:YU} {k:Nat} {ps:List Place} (hk:ja[k]?=some ps) {a n:Int}:(⟨k,a,n⟩ : Sp3)∈up (stL ja) ja.length ↔ InL ps a n:=by
 rw[V9];constructor
 ·rintro ⟨i,hi,h⟩;obtain⟨qs,e,h⟩:=FZ h;rcases Qcd.mp h with h | h
  ·injection h with h1 h2 h3;exact .inl ⟨h2,h3⟩
  ·obtain⟨j,hj,h⟩:=Ec h;obtain⟨p,e2,h⟩:=FZ h;obtain⟨m,hm,h⟩:=Qcl.mp h;injection h with h1 h2 h3;have:i=k:=by omega
   subst this;rw[hk] at e;cases e;have:=Qca.mp hm;exact .inr ⟨j,p,e2,by omega,by omega,by omega⟩
 ·rintro (⟨rfl,rfl⟩|⟨i,p,e,rfl,h0,h1⟩)
  ·exact⟨k,Rw hk,by rw[show stL ja k=_ from CQ hk];exact QaW⟩
  ·refine⟨k,Rw hk,?_⟩;rw[show stL ja k=_ from CQ hk]
   refine QaJ _ (V9.mpr ⟨i,Rw e,?_⟩);rw[show st1 k ps i=_ from CQ e]
   refine Qcl.mpr ⟨n.toNat,Qca.mpr (by omega),?_⟩;rw[show ((1+i:Nat):Int)=(i:Int)+1 by omega,show ((n.toNat:Nat):Int)=n by omega]
def DvL (ps:List Place) (a n:Int):Prop:=∃(i:Nat) (p:Place),ps[i]?=some p/\a=(i:Int)+1/\0<=n/\n<=(p.spur.length:Int)/\¬V.str p.kind=V.str "opener"
theorem jk (lp a:Int):∀(ds:List Dev) (n m:Nat),n<=m->m < n+ds.length->∃d∈DQ lp a n ds,d.spot=⟨lp,a,(m:Int)⟩
 | [],n,m,h,h'=>by rw[List.length_nil] at h';omega
 | d::ds,n,m,h,h'=>by
  by_cases e:m=n
  ·subst e;exact⟨_,QaW,rq⟩
  ·rw[Qbz] at h';obtain⟨x,hx,q⟩:=jk lp a ds (n+1) m (by omega) (by omega);exact⟨x,QaJ _ hx,q⟩
theorem dF {ja:YU} {k:Nat} {ps:List Place} (hk:ja[k]?=some ps) {a n:Int}:(⟨k,a,n⟩ : Sp3)∈(up (pdL ja) ja.length).map Sd.spot ↔ DvL ps a n:=by
 constructor
 ·intro h;obtain⟨d,hd,q⟩:=Qcl.mp h;obtain⟨i,hi,h⟩:=Ec hd;obtain⟨qs,e,h⟩:=FZ h;obtain⟨j,hj,h⟩:=Ec h;obtain⟨p,e2,h⟩:=FZ h;injection q with q1 q2 q3;unfold BR at h;split at h
  ·cases h
  ·rename_i hn;have key:d.lp=(i:Int)/\d.at_=((1+j:Nat):Int)/\0<=d.n/\d.n<=(p.spur.length:Int):=by
    rcases Qcd.mp h with rfl | h
    ·exact⟨rq,rq,QcB _,by show (0:Int)<=_;omega⟩
    ·obtain⟨z1,z2,z3,z4⟩:=QX _ _ _ _ _ h;exact⟨z1,z2,by omega,by omega⟩
   obtain⟨z1,z2,z3,z4⟩:=key;have:i=k:=by omega
   subst this;rw[hk] at e;cases e;exact⟨j,p,e2,by omega,by omega,by omega,hn⟩
 ·rintro ⟨i,p,e,rfl,h0,h1,hn⟩;have ex:∃d∈BR (k:Int) ((1+i:Nat):Int) p,d.spot=⟨k,(i:Int)+1,n⟩:=by
   unfold BR;rw[if_neg hn];by_cases z:n=0
   ·subst z;exact⟨_,QaW,by show (⟨_,_,_⟩ : Sp3)=_;rw[show ((1+i:Nat):Int)=(i:Int)+1 by omega]⟩
   ·obtain⟨x,hx,q⟩:=jk (k:Int) ((1+i:Nat):Int) p.spur 1 n.toNat (by omega) (by omega);exact⟨x,QaJ _ hx,by rw[q,show ((1+i:Nat):Int)=(i:Int)+1 by omega,show ((n.toNat:Nat):Int)=n by omega]⟩
  obtain⟨d,hd,q⟩:=ex;refine Qcl.mpr ⟨d,V9.mpr ⟨k,Rw hk,?_⟩,q⟩;rw[show pdL ja k=_ from CQ hk]
  refine V9.mpr ⟨i,Rw e,?_⟩;rw[show pd1 k ps i=_ from CQ e]
  exact hd
theorem DJ {ps:List Place} {y:Int}:InL ps y 0 ↔ 0<=y/\y<=ps.length:=by
 constructor
 ·rintro (⟨rfl,_⟩|⟨i,p,e,rfl,_⟩)
  ·omega
  ·have:=Rw e;omega
 ·rintro ⟨h0,h1⟩;by_cases z:y=0
  ·exact .inl ⟨z,rq⟩
  ·have hl:(y - 1).toNat < ps.length:=by omega
   exact .inr ⟨(y - 1).toNat,ps[(y - 1).toNat],Qan hl,by omega,QcB _,by omega⟩
def OJ (ja:YU) (c:Sp3) (z:Str):YR:=(up (stL ja) ja.length).map λs=>(s,if s=c then z else ("whole":Str))
theorem Uc (ja:YU) (c:Sp3):OJ ja c "whole"=hs0 ja:=by
 unfold hs0 OJ;refine QaQ λs _=>?_;split <;> rfl
theorem XD (f:Sp3->Str) (s:Sp3):∀L:YV,stC (L.map λs=>(s,f s)) s=if s∈L then f s else "cut"
 | []=>rfl
 | x::L=>by
  by_cases e:x=s
  ·rw[if_pos (by rw[e];exact QaW)];unfold stC;rw[Qce,QaC (by exact QbX e)];rw[e];rfl
  ·have ih:=XD f s L;unfold stC at ih ⊢;rw[Qce,Qaz (by simpa using e),ih];by_cases m:s∈L
   ·rw[if_pos m,if_pos (QaJ _ m)]
   ·rw[if_neg m,if_neg λh=>(Qcd.mp h).elim (λh=>e h.symm) m]
theorem A8 {ja:YU} {c:Sp3} {z:Str} {s:Sp3}:¬stC (OJ ja c z) s="cut" ↔ s∈up (stL ja) ja.length/\¬(s=c/\z="cut"):=by
 unfold OJ;rw[XD (λs=>if s=c then z else ("whole":Str))]
 split
 ·rename_i h;split
  ·rename_i e;exact⟨λq=>⟨h,λz=>q z.2⟩,λq w=>q.2 ⟨e,w⟩⟩
  ·rename_i e;exact⟨λq=>⟨h,λz=>e z.1⟩,λq w=>absurd w (by decide)⟩
 ·rename_i h;exact⟨λq=>absurd rfl q,λq=>absurd q.1 h⟩
theorem pD {ja:YU} {c:Sp3} {z:Str} {s:Sp3}:stC (OJ ja c z) s="short" ↔ s∈up (stL ja) ja.length/\s=c/\z="short":=by
 unfold OJ;rw[XD (λs=>if s=c then z else ("whole":Str))]
 split
 ·rename_i h;split
  ·rename_i e;exact⟨λq=>⟨h,e,q⟩,λq=>q.2.2⟩
  ·rename_i e;exact⟨λq=>absurd q (by decide),λq=>absurd q.2.1 e⟩
 ·rename_i h;exact⟨λq=>absurd q (by decide),λq=>absurd q.1 h⟩
theorem pF {hs:YR} {ws:YV}:Ey hs ws=true ↔ ∃s∈ws,stC hs s="short":=by
 unfold Ey;rw[List.any_eq_true];constructor
 ·rintro ⟨s,h,e⟩;have:=Qbs e;injection this with this;exact⟨s,h,this⟩
 ·rintro ⟨s,h,e⟩;exact⟨s,h,QbX (by rw[e])⟩
theorem Vx {ja:YU} {c:Sp3} {z:Str} (hz:¬z="short") (ws:YV):Ey (OJ ja c z) ws=false:=by
 cases h:Ey (OJ ja c z) ws with
 | false=>rfl
 | true=>
  obtain⟨s,_,e⟩:=pF.mp h;exact absurd (pD.mp e).2.2 hz
theorem jC {ja:YU} {c:Sp3} {z:Str} (hz:¬z="short") (gs:YT) (g:Gt):Bq (OJ ja c z) gs g=false:=by
 unfold Bq Eb;rw[Vx hz,Vx hz];rfl
theorem yZ {hs:YR} {gs:YT} {lp a:Int} {j:Nat}:Open hs gs lp 1 a j ↔ (∀y,a<=y->y<=a+j->¬stC hs ⟨lp,y,0⟩="cut")/\∀y,a < y->y<=a+j->gpC gs ⟨lp,y⟩=false:=by
 have st:∀i:Nat,Mf lp a 1 i=⟨lp,a+i,0⟩:=λi=>by
  unfold Mf CP;rw[if_neg (by omega),Int.mul_one]
 have pw:∀i:Nat,Ek a 1 i=a+i+1:=λi=>by
  unfold Ek;omega
 constructor
 ·rintro ⟨h1,h2⟩;refine⟨λy h h'=>?_,λy h h'=>?_⟩
  ·have:=h1 (y - a).toNat (by omega);rw[st,show a+(((y - a).toNat:Nat):Int)=y by omega] at this;exact this
  ·have:=h2 (y - a - 1).toNat (by omega);rw[pw,show a+(((y - a - 1).toNat:Nat):Int)+1=y by omega] at this;exact this
 ·rintro ⟨h1,h2⟩;exact⟨λi hi=>by rw[st];exact h1 _ (by omega) (by omega),λi hi=>by rw[pw];exact h2 _ (by omega) (by omega)⟩
theorem za {hs:YR} {gs:YT} {lp a:Int} {j:Nat}:Open hs gs lp (-1) a j ↔ (∀y,a - j<=y+1->y < a->¬stC hs ⟨lp,y,0⟩="cut")/\∀y,a - j<=y->y < a->gpC gs ⟨lp,y⟩=false:=by
 have st:∀i:Nat,Mf lp a (-1) i=⟨lp,a - i - 1,0⟩:=λi=>by
  unfold Mf CP;rw[if_pos (by omega),show a+(((i+1:Nat)):Int)*(-1)=a - i - 1 by omega]
 have pw:∀i:Nat,Ek a (-1) i=a - i - 1:=λi=>by
  unfold Ek;omega
 constructor
 ·rintro ⟨h1,h2⟩;refine⟨λy h h'=>?_,λy h h'=>?_⟩
  ·have:=h1 (a - y - 1).toNat (by omega);rw[st,show a - (((a - y - 1).toNat:Nat):Int) - 1=y by omega] at this;exact this
  ·have:=h2 (a - y - 1).toNat (by omega);rw[pw,show a - (((a - y - 1).toNat:Nat):Int) - 1=y by omega] at this;exact this
 ·rintro ⟨h1,h2⟩;exact⟨λi hi=>by rw[st];exact h1 _ (by omega) (by omega),λi hi=>by rw[pw];exact h2 _ (by omega) (by omega)⟩
theorem Mx {hs:YR} {lp x:Int} {s:Sp3}:s∈(⟨lp,x,0⟩::Cp hs lp x:YV) ↔ s.lp=lp/\s.at_=x/\0<=s.n/\s.n<=4/\∀t,1<=t->t<=s.n->¬stC hs ⟨lp,x,t⟩="cut":=by
 obtain⟨l',x',n'⟩:=s;dsimp only;rw[Qcd];unfold Cp;rw[bx];constructor
 ·rintro (h |⟨i,hi,h,hm⟩)
  ·injection h with h1 h2 h3;exact⟨h1,h2,by omega,by omega,λt _ _=>by omega⟩
  ·injection h with h1 h2 h3;refine⟨h1,h2,by omega,by omega,λt ht ht'=>?_⟩;have:=hm (t - 1).toNat (by omega);rw[show ((1+(t - 1).toNat:Nat):Int)=t by omega] at this;exact this
 ·rintro ⟨rfl,rfl,h0,h4,h⟩;by_cases z:n'=0
  ·exact .inl (by rw[z])
  ·exact .inr ⟨(n' - 1).toNat,by omega,by rw[show ((1+(n' - 1).toNat:Nat):Int)=n' by omega],λm hm=>h _ (by omega) (by omega)⟩
theorem GV {hs:YR} {gs:YT} {lp a:Int} {s:Sp3}:s∈(Bm hs gs lp 1 16 a).2 ↔ s.lp=lp/\a < s.at_/\s.at_<=a+16/\(∀y,a<=y->y < s.at_->¬stC hs ⟨lp,y,0⟩="cut")/\(∀y,a < y->y < s.at_->gpC gs ⟨lp,y⟩=false)/\0<=s.n/\s.n<=4/\∀t,1<=t->t<=s.n->¬stC hs ⟨lp,s.at_,t⟩="cut":=by
 rw[Rr];have pw:∀i:Nat,Ek a 1 i=a+i+1:=λi=>by
  unfold Ek;omega
 constructor
 ·rintro ⟨j,hj,ho,h⟩;rw[Mx,pw] at h;obtain⟨h1,h2,h3,h4,h5⟩:=h;obtain⟨o1,o2⟩:=yZ.mp ho;exact⟨h1,by omega,by omega,λy q q'=>o1 y q (by omega),λy q q'=>o2 y q (by omega),h3,h4,by rw[h2];exact h5⟩
 ·rintro ⟨h1,h2,h3,o1,o2,h4,h5,h6⟩;refine⟨(s.at_ - a - 1).toNat,by omega,yZ.mpr ⟨λy q q'=>o1 y q (by omega),λy q q'=>o2 y q (by omega)⟩,?_⟩;rw[pw,show a+(((s.at_ - a - 1).toNat:Nat):Int)+1=s.at_ by omega,Mx];exact⟨h1,rq,h4,h5,h6⟩
theorem GW {hs:YR} {gs:YT} {lp a:Int} {s:Sp3}:s∈(Bm hs gs lp (-1) 16 a).2 ↔ s.lp=lp/\s.at_ < a/\a<=s.at_+16/\(∀y,s.at_<=y->y < a->¬stC hs ⟨lp,y,0⟩="cut")/\(∀y,s.at_ < y->y < a->gpC gs ⟨lp,y⟩=false)/\0<=s.n/\s.n<=4/\∀t,1<=t->t<=s.n->¬stC hs ⟨lp,s.at_,t⟩="cut":=by
 rw[Rr];have pw:∀i:Nat,Ek a (-1) i=a - i - 1:=λi=>by
  unfold Ek;omega
 constructor
 ·rintro ⟨j,hj,ho,h⟩;rw[Mx,pw] at h;obtain⟨h1,h2,h3,h4,h5⟩:=h;obtain⟨o1,o2⟩:=za.mp ho;exact⟨h1,by omega,by omega,λy q q'=>o1 y (by omega) q',λy q q'=>o2 y (by omega) q',h3,h4,by rw[h2];exact h5⟩
 ·rintro ⟨h1,h2,h3,o1,o2,h4,h5,h6⟩;refine⟨(a - s.at_ - 1).toNat,by omega,za.mpr ⟨λy q q'=>o1 y (by omega) q',λy q q'=>o2 y (by omega) q'⟩,?_⟩;rw[pw,show a - (((a - s.at_ - 1).toNat:Nat):Int) - 1=s.at_ by omega,Mx];exact⟨h1,rq,h4,h5,h6⟩
theorem InL.lo {ps:List Place} {a n:Int} (h:InL ps a n):0<=a/\a<=(ps.length:Int)/\0<=n:=by
 rcases h with⟨rfl,rfl⟩|⟨i,p,e,rfl,h0,_⟩
 ·omega
 ·have:=Rw e;omega
theorem InL.n3 {ps:List Place} (ok:OkL ps) {a n:Int} (h:InL ps a n):n<=3:=by
 rcases h with⟨rfl,rfl⟩|⟨i,p,e,rfl,h0,h1⟩
 ·decide
 ·have:=(ok.ok p (QaI e)).spur;omega
theorem InL.less {ps:List Place} {a n t:Int} (h:InL ps a n) (ht:1<=t) (h':t<=n):InL ps a t:=by
 rcases h with⟨rfl,rfl⟩|⟨i,p,e,rfl,h0,h1⟩
 ·omega
 ·exact .inr ⟨i,p,e,rq,by omega,by omega⟩
theorem DvL.in_ {ps:List Place} {a n:Int} (h:DvL ps a n):InL ps a n:=by
 obtain⟨i,p,e,rfl,h0,h1,_⟩:=h;exact .inr ⟨i,p,e,rq,h0,h1⟩
theorem DvL.lo {ps:List Place} {a n:Int} (h:DvL ps a n):1<=a:=by
 obtain⟨i,p,e,rfl,_⟩:=h;omega
theorem ju {hs:YR} {gs:YT} {g:Gt}:gpC (DX hs gs) g=true ↔ g∈gs.map (·.1)/\Bq hs gs g=true:=by
 constructor
 ·intro h;have hm:g∈gs.map (·.1):=by rw[<-Kp hs gs];exact Uj h
  refine⟨hm,?_⟩;rw[<-h];exact (Lw (λg=>Bq hs gs g) g gs hm).symm
 ·rintro ⟨hm,h⟩;rw[<-h];exact Lw (λg=>Bq hs gs g) g gs hm
section
variable {ja:YU} {k:Nat} {ps:List Place} {a0 n0:Int} {gs:YT}
theorem uE (hk:ja[k]?=some ps) {c:Sp3} {z:Str} (hz:¬z="cut") {a n:Int} (h:InL ps a n):¬stC (OJ ja c z) ⟨k,a,n⟩="cut":=A8.mpr ⟨(qG hk).mpr h,λq=>hz q.2⟩
end
theorem eY {ja:YU} {s:Sp3}:flC (fl0 ja) s=true ↔ s∈(up (pdL ja) ja.length).map Sd.spot:=by
 constructor
 ·intro h;rw[<-Oa];exact rJ h
 ·intro h;unfold flC;cases e:(fl0 ja).find? λx=>decide (x.1=s) with
  | none=>
   rw[<-Oa] at h;obtain⟨x,hx,q⟩:=Qcl.mp h;have:=List.find?_eq_none.mp e x hx;exact absurd (QbX q) this
  | some y=>
   have hy:=List.mem_of_find?_eq_some e;unfold fl0 at hy;obtain⟨d,_,rfl⟩:=Qcl.mp hy;rfl
theorem VD {hs:YR} {gs:YT} {fl:YQ} {lp:Int} {n:Nat} {e:Str} {s:Sp3}:s∈NP hs gs fl lp n e ↔ gpC gs (CZ lp n e)=false/\cS hs gs lp (Fz e) 16 (CZ lp n e).at_=false/\s∈(Bm hs gs lp (Fz e) 16 (CZ lp n e).at_).2/\flC fl s=true:=by
 unfold NP cS;cases gpC gs (CZ lp n e) with
 | true=>
  rw[if_pos rfl];exact⟨(λh=>by cases h),(λh=>by cases h.1)⟩
 | false=>
  rw[if_neg (by decide)];cases Ey hs (Bm hs gs lp (Fz e) 16 (CZ lp n e).at_).1 with
  | true=>
   rw[if_pos rfl];exact⟨(λh=>by cases h),(λh=>by cases h.2.1)⟩
  | false=>
   rw[if_neg (by decide),QbQ];exact⟨λh=>⟨rq,rq,h.1,h.2⟩,λh=>⟨h.2.2.1,h.2.2.2⟩⟩
theorem rO:Y7 "A"=true:=QbX rfl
theorem rN:¬Y7 "B"=true:=λz=>by
 have:=Qbs z;injection this with this;exact absurd this (by decide)
theorem qX (lp:Int) (n:Nat):CZ lp n "A"=⟨lp,0⟩:=by unfold CZ;rw[if_pos rO]
theorem EC (lp:Int) (n:Nat):CZ lp n "B"=⟨lp,(n:Int)+1⟩:=by unfold CZ;rw[if_neg rN]
theorem B8:Fz "A"=1:=if_pos rO
theorem B7:Fz "B"=-1:=if_neg rN
section
variable {ja:YU} {k:Nat} {ps:List Place} {gs:YT} {hs:YR} {x m:Int}
theorem Gr (hk:ja[k]?=some ps) (ok:OkL ps) (dv:DvL ps x m):(⟨k,x,m⟩ : Sp3)∈NP hs gs (fl0 ja) k ps.length "A" ↔ gpC gs ⟨k,0⟩=false/\cS hs gs k 1 16 0=false/\(∀y,0<=y->y < x->¬stC hs ⟨k,y,0⟩="cut")/\(∀y,0 < y->y < x->gpC gs ⟨k,y⟩=false)/\∀t,1<=t->t<=m->¬stC hs ⟨k,x,t⟩="cut":=by
 have l12:=ok.hi;have i:=dv.in_.lo;have n3:=dv.in_.n3 ok;have x1:=dv.lo;rw[VD,qX,B8,GV,eY,dF hk];dsimp only;exact⟨λ⟨h1,h2,⟨_,_,_,h3,h4,_,_,h5⟩,_⟩=>⟨h1,h2,h3,h4,h5⟩,λ⟨h1,h2,h3,h4,h5⟩=>⟨h1,h2,⟨rfl,by omega,by omega,h3,h4,by omega,by omega,h5⟩,dv⟩⟩
theorem Go (hk:ja[k]?=some ps) (ok:OkL ps) (dv:DvL ps x m):(⟨k,x,m⟩ : Sp3)∈NP hs gs (fl0 ja) k ps.length "B" ↔ gpC gs ⟨k,(ps.length:Int)+1⟩=false/\cS hs gs k (-1) 16 ((ps.length:Int)+1)=false/\(∀y,x<=y->y<=ps.length->¬stC hs ⟨k,y,0⟩="cut")/\(∀y,x < y->y<=ps.length->gpC gs ⟨k,y⟩=false)/\∀t,1<=t->t<=m->¬stC hs ⟨k,x,t⟩="cut":=by
 have l12:=ok.hi;have i:=dv.in_.lo;have n3:=dv.in_.n3 ok;have x1:=dv.lo;rw[VD,EC,B7,GW,eY,dF hk];dsimp only;exact⟨λ⟨h1,h2,⟨_,_,_,h3,h4,_,_,h5⟩,_⟩=>⟨h1,h2,λy q q'=>h3 y q (by omega),λy q q'=>h4 y q (by omega),h5⟩,λ⟨h1,h2,h3,h4,h5⟩=>⟨h1,h2,⟨rfl,by omega,by omega,λy q q'=>h3 y q (by omega),λy q q'=>h4 y q (by omega),by omega,by omega,h5⟩,dv⟩⟩
theorem uW {g:Gt}:gpC (DX hs gs) g=false ↔ ¬(g∈gs.map (·.1)/\Bq hs gs g=true):=by
 rw[<-ju];cases gpC (DX hs gs) g <;> decide
variable {a0 n0 F L:Int}
end
theorem cC {α : Type} {c:α->Int}:∀{l m:List α},(l.map c).Pairwise (· < ·)->(m.map c).Pairwise (· < ·)->(∀x,x∈l ↔ x∈m)->l=m
 | [],[],_,_,_=>rfl
 | [],y::m,_,_,h=>by cases (h y).mpr QaW
 | x::l,[],_,_,h=>by cases (h x).mp QaW
 | x::l,y::m,p,q,h=>by
  rw[Qce,List.pairwise_cons] at p q;have p1:∀z∈l,c x < c z:=λz hz=>p.1 _ (Qcl.mpr ⟨z,hz,rq⟩);have q1:∀z∈m,c y < c z:=λz hz=>q.1 _ (Qcl.mpr ⟨z,hz,rq⟩);have e:x=y:=by
   rcases Qcd.mp ((h x).mp QaW) with e | h1
   ·exact e
   ·rcases Qcd.mp ((h y).mpr QaW) with e | h2
    ·exact e.symm
    ·have:=q1 _ h1;have:=p1 _ h2;omega
  subst e;rw[cC p.2 q.2 λz=>?_];constructor
  ·intro hz;rcases Qcd.mp ((h z).mp (QaJ _ hz)) with e | h1
   ·have:=p1 _ hz;rw[e] at this;omega
   ·exact h1
  ·intro hz;rcases Qcd.mp ((h z).mpr (QaJ _ hz)) with e | h1
   ·have:=q1 _ hz;rw[e] at this;omega
   ·exact h1
section
variable {ja:YU} {k:Nat} {ps:List Place} {gs:YT} {a0 n0 F L:Int}
theorem mQ {hs:YR} (ok:Dj ja) (kg:gs.map (·.1)=up (gtL ja) ja.length) {g:Gt}:g∈((DX hs gs).filter (·.2)).map (·.1) ↔ gpC (DX hs gs) g=true:=by
 have nd:((DX hs gs).map (·.1)).Nodup:=by rw[Kp,kg];exact nG ok
 rw[show ((DX hs gs).filter (·.2)).map (·.1)=((DX hs gs).filter λx=>(λ_ b=>b) x.1 x.2).map (·.1) from rfl,QF nd (p:=λ_ b=>b)]
 exact⟨λh=>h.2,λh=>⟨Uj h,h⟩⟩
theorem gM {c:Sp3} {z:Str} (hz:¬z="short") (ok:Dj ja) (kg:gs.map (·.1)=up (gtL ja) ja.length):((DX (OJ ja c z) gs).filter (·.2)).map (·.1)=[]:=by
 refine List.eq_nil_iff_forall_not_mem.mpr λg h=>?_;have:=(ju.mp ((mQ ok kg).mp h)).2;rw[jC hz] at this;cases this
end
section
variable {ja:YU} {j:Nat} {ps:List Place} {gs:YT} {x m:Int}
end
abbrev Qf:Stmt:=(inClass (top 54) 6)
abbrev JF:YF:=Cr
theorem bZ:Ay Cr JF (Aj Qf):=by ac_rfl
def pA (C:Addr):Sp:=λvs H Q _=>∃(p pl d1 d2 d3:Addr) (hs:YR) (fl:YQ) (gs:YT) (b:Addr) (x:Sp3×Str),vs=[.ref p,.ref b]/\WAt C H p pl d1 d2 d3 hs fl gs/\H b=some (.tup [.int x.1.lp,.int x.1.at_,.int x.1.n])/\x∈hs/\∀H',Same H H'->Q (.str x.2) H'
theorem C0 (c:GJ K C "how" "Wires.how" Qf JF) (T:Tw K mg op oe kd wk C) (Dr:BX P w K mg base C "check_stretch" 3 Cr (Qz C)):BX P w K mg base C "how" 4 JF (pA C):=by
 exists c,bZ
 obtain⟨p,pl,d1,d2,d3,hs,fl,gs,b,x,rfl,R,hb,hx,q⟩:=h;refine⟨_,(Ae (Bc (Iv (pv 0) T.cl Dr hr (Aa (pv 1) Ac)))
 (Ag (Az (N6 (Cq hr) (CV (pv 0) rfl) (pv 1) (λ_ _=>rfl))))),?_⟩
 show let R0:TS:=_;Ao _ R0 _ _ _;intro R0;obtain⟨dx,hp⟩:=R.ins;refine⟨_,rq,p,dx,_,rq,hp,fno (by trivial),_,rq,p,pl,d1,d2,d3,hs,fl,gs,b,x.1,rq,R,hb,Qcl.mpr ⟨x,hx,rq⟩,λH1 s1=>?_⟩;obtain⟨i,hi⟩:=QaL hx;have hv:Dv (stV hs) (k3 x.1)=some (.str x.2):=jd (f:=λx:Sp3×Str=>(k3 x.1,V.str x.2)) (by
  have:=R.nd1;rw[Qah,Qbx] at this;rw[Qah,Qbx];exact this.imp λ{a b} h e=>h (O4 e)) hi
 have R1:=R.same s1;obtain⟨dx1,hp1⟩:=R1.ins;have g:=Dw.t (k:=k3 x.1) R1.st (s1 _ _ hb);rw[hv] at g;exact⟨_,rq,p,C,dx1,_,_,rq,hp1,T.cl,T.Gh,FJ pl d1 d2 d3,_,rq,d1,_,rq,g,q _ s1⟩
abbrev JN:Stmt:=top 64
abbrev Hw:YF:=["_law_plan_here"]
abbrev ye:YF:=["_law_plan_here","_law_found","_law_loop_here","_law_at"]
theorem GQ:Ay ye Hw (Aj JN):=by ac_rfl
inductive XQ (vs:YG) (H:Hp) (Q:VK) (E:XK):Prop
 | mk (pl most ja jn) (_:vs=[.ref pl]) (_:GF H pl most ja jn) (_:∀l xs H',H l=none->H' l=some (.lst xs)->Paired (CN H') xs (up (stL ja) ja.length)->Same H H'->Q (.ref l) H'):XQ vs H Q E
abbrev yf:YF:=["_law_way","_law_loop_here","_law_at"]
theorem vW (c:Code K mg "_law_stretches" JN Hw) (T:Tw K mg op oe kd wk C):⋯ "_law_stretches" 1 Hw XQ:=by
 have sc:=GQ;exists c,GQ
 obtain⟨pl,most,ja,jn,rfl,pa,q⟩:=h;refine⟨_,(Ae (1∪GQ∪(BZ Ac))
 (Ae (Cj QbK rfl (Dd rfl T.range (Aa (Aw Bh rfl T.len CJ (Aa (Bj Bw (pv 0) Af (λ_ _=>rfl)) Ac)) Ac)) (Ai (i:=2) GQ.nd rfl (Or.inr rfl))
 (Ae (Bc (Cy Qas Qao Qap Cv (pv 1) (Aa (Bb (Aa (pv 2) (Aa Af (Aa Af Ac)))) Ac)))
 (Ag (Cj QbK rfl (Dd rfl T.range (Aa (Aw Bh rfl T.len CJ (Aa (Bj Bw (Bj Bw (pv 0) Af (λ_ _=>rfl)) (pv 2) (λ_ _=>rfl)) Ac)) Ac)) (Ai (i:=3) GQ.nd rfl (Or.inr rfl))
 (Ag (Bc (Cy Qas Qaq Qar Fe (pv 1) (Aa (Cw (N':=yf) rfl ([none,some 2,some 3]|||(Aj JN)|||ye) (Dd rfl T.range (Aa (Bf CG (Aw Bh rfl T.len CJ (Aa (Bj Bw (Bj Bw (Bj Bw (Bj Bw (pv 0) Af (λ_ _=>rfl)) (pv 2) (λ_ _=>rfl)) (pv 3) (λ_ _=>rfl)) Af (λ_ _=>rfl)) Ac)) Af) Ac)) (~~~(0∩yf)) (λ_ _ _ _=>CT) (~~~(Bb (Aa (pv 1) (Aa (Bf CG (pv 2) Af) (Aa (pv 0) Ac)))))) Ac))))))))
 (Ag (Az (pv 1))))),?_⟩
 show let R0:TS:=_;let R1:TS:=Dq _ _ R0;let R2:TS:=Ao _ R1;let R3:TS:=Ao (Dq _ _ R2) _;Ao _ R3 _ _ _;intro R0 R1 R2 R3;have ok:=pa.ok;obtain⟨Ls,zs,ws,zvs,f1,f2,f3,f4,f5⟩:=pa.at_;have lw:=Qcc f3;have l3:=ok.hi;refine⟨js,λl hl=>?_⟩;have n1:=Ad hl (.lst []);refine⟨_,rq,pl,_,_,_,rq,rq,SqT.of (n1 _ _ f1),rq,Ls,_,rq,.inr (SqT.of (n1 _ _ f2)),_,rq,by omega,by omega,?_⟩;rw[Qbo];let J0:YN:=λk U HH=>∃u2 u3,U=[jp pl,jp l,u2,u3]/\(∃xs,HH l=some (.lst xs)/\Paired (CN HH) xs (up (stL ja) k))/\Same H HH;refine Fi J0 ⟨_,_,rq,⟨[],Ab,.nil⟩,n1⟩ (λk U HH hk h=>?_) (fun U HH h=>?_)
 ·obtain⟨u2,u3,rfl,⟨xs,e1,e2⟩,sm⟩:=h;have hwk:ws[k]?=some ws[k]:=Qan hk;obtain⟨ps,hps,t,vs',ev,ht,hpp⟩:=Paired.Ck f3 hwk;have lv:=Qcc hpp;have hkl:k < ja.length:=by omega
  have okl:=ok.ok ps (QaI hps);have l12:=okl.hi;have est:stL ja k=⟨k,0,0⟩::up (st1 k ps) ps.length:=CQ hps;have VF:atI ws ((0:Int)+(k:Int))=some (.ref t):=by rw[Qcr];exact Fq (by rw[hwk,ev])
  have lx:=Qcc e2;have lst:=DP (Xz ok) k;refine⟨_,rq,.inl ⟨rq,_,SqL.of e1⟩,_,rq,kf,λta hta=>?_⟩;rw[Qcr];have a1:=Ad hta (.tup [.int (k:Int),.int 0,.int 0]);have e1a:=a1 _ _ e1;refine⟨l,_,_,rq,rq,e1a,Ar (by omega),?_⟩;have ntl:∀zs,(upd HH ta (.tup [.int (k:Int),.int 0,.int 0])) l≠some (.tup zs):=λzs z=>by rw[e1a] at z;cases z
  have sL:=Al.upd (o:=.lst (xs++[.ref ta])) ntl;have p2:Paired (CN (upd (upd HH ta (.tup [.int (k:Int),.int 0,.int 0])) l (.lst (xs++[.ref ta])))) (xs++[.ref ta]) (up (stL ja) k++[⟨k,0,0⟩]):=Qcx ⟨ta,rq,sL _ _ Ab⟩ (Paired.Ax e2 λ_ _ z=>(z.tups (Al.of a1)).tups sL);have hl2:(upd (upd HH ta (.tup [.int (k:Int),.int 0,.int 0])) l (.lst (xs++[.ref ta]))) l=_:=Ab;have sm2:Same H (upd (upd HH ta (.tup [.int (k:Int),.int 0,.int 0])) l (.lst (xs++[.ref ta]))):=(sm.trans a1).Bp Ah.upd hl;generalize upd (upd HH ta (.tup [.int (k:Int),.int 0,.int 0])) l (.lst (xs++[.ref ta]))=H2 at *;rw[Qcr] at VF;refine⟨_,rq,pl,_,_,_,rq,rq,SqT.of (sm2 _ _ f1),rq,_,rq,Ls,_,_,_,rq,rq,SqT.of (sm2 _ _ f2),VF,t,_,rq,.inr (SqT.of (sm2 _ _ ht)),_,rq,by omega,by omega,?_⟩;rw[Qbo];let J1:YN:=λj U HJ=>∃u3,U=[jp pl,jp l,some (.int (k:Int)),u3]/\(∃ys,HJ l=some (.lst ys)/\Paired (CN HJ) ys ((up (stL ja) k++[⟨k,0,0⟩])++up (st1 k ps) j))/\Same H HJ;refine Fi J1 ⟨_,rq,⟨_,hl2,by rw[NZ,QbM];exact p2⟩,sm2⟩ (λj U HJ hj h=>?_) (fun U HJ h=>?_)
  ·obtain⟨u3,rfl,⟨ys,hyj,pj⟩,sj⟩:=h;have hvj:vs'[j]?=some vs'[j]:=Qan hj;obtain⟨p,hp,tp,ua,wp',ep,hp1,hp2,hp3⟩:=Paired.Ck hpp hvj;have okp:=okl.ok p (QaI hp);have ej:st1 k ps j=(List.range (p.spur.length+1)).map λn:Nat=>⟨(k:Int),((1+j:Nat):Int),(n:Int)⟩:=CQ hp;have NH:atI vs' ((0:Int)+(j:Int))=some (.ref tp):=by rw[Qcr];exact Fq (by rw[hvj,ep])
   have lj:=DP (XF (lp:=k) okl.ok) j;have lys:=Qcc pj;rw[QaV,QaV,QaE] at lys;have lwp:=Qcc hp3;have hsp:=okp.spur;refine⟨_,rq,.inl ⟨rq,_,SqL.of hyj⟩,_,rq,pl,_,_,_,rq,rq,SqT.of (sj _ _ f1),rq,_,rq,Ls,_,_,_,rq,rq,SqT.of (sj _ _ f2),VF,_,rq,t,_,_,_,rq,rq,SqT.of (sj _ _ ht),NH,tp,_,_,_,rq,rq,SqT.of (sj _ _ hp1),rq,ua,_,rq,.inr (SqT.of (sj _ _ hp2)),_,_,rq,rq,_,rq,by omega,by omega,λl2 hl3=>?_⟩;rw[show ((wp'.length:Int)+1).toNat=p.spur.length+1 by omega];let J2:YN:=λn U HC=>∃(u:Option V) (zs:YG),U=[u,some (.int (k:Int)),some (.int ((0:Int)+(j:Int)))]/\HC l2=some (.lst zs)/\Same HJ HC/\Paired (CN HC) zs ((List.range n).map λn:Nat=>⟨(k:Int),((1+j:Nat):Int),(n:Int)⟩);refine K7 J2 ⟨none,[],rq,Ab,Ad hl3 _,.nil⟩ (λn U HC hn h=>?_) (fun U HC h=>?_)
   ·obtain⟨u,zs,rfl,c1,c2,c3⟩:=h;refine⟨_,rq,_,rq,_,_,rq,rq,_,rq,kf,λtq htq=>?_⟩
    first | rw[show (λi j:Int=>V.int (i+j)) ((0:Int)+(j:Int)) 1=V.int ((1+j:Nat):Int) from congrArg V.int (by omega)] | rw[show V.int ((0:Int)+(j:Int)+1)=V.int ((1+j:Nat):Int) from congrArg V.int (by omega)]
    have s3:=Ad htq (.tup [.int (k:Int),.int ((1+j:Nat):Int),.int (0+(n:Int))]);have c1':=s3 _ _ c1;have lz:=Qcc c3;rw[QbH,Qbt] at lz;have n1:∀zs',(upd HC tq (.tup [.int (k:Int),.int ((1+j:Nat):Int),.int (0+(n:Int))])) l2≠some (.tup zs'):=λzs' z=>by rw[c1'] at z;cases z
    have t4:=Al.upd (o:=.lst (zs++[.ref tq])) n1;refine⟨_,c1',Ar (by omega),_,zs++[.ref tq],rq,Ab,(c2.trans s3).Bp Ah.upd hl3,?_⟩;rw[List.range_succ,QbJ];refine Qcx ⟨tq,rq,?_⟩ (Paired.Ax c3 λ_ _ z=>(z.tups (Al.of s3)).tups t4);refine t4 _ _ ?_;rw[Ab,Qcr]
   obtain⟨u,zs,rfl,c1,c2,c3⟩:=h;have lz:=Qcc c3;rw[QbH,Qbt] at lz;have hyC:=c2 _ _ hyj;refine⟨l,l2,_,_,rq,rq,hyC,c1,Av (by omega),?_⟩;have n2:∀zs',HC l≠some (.tup zs'):=λzs' z=>by rw[hyC] at z;cases z
   have t5:=Al.upd (o:=.lst (ys++zs)) n2;refine⟨_,rq,⟨ys++zs,Ab,?_⟩,(sj.trans c2).Bp Ah.upd hl⟩;rw[DN,ej,<-Qbn];exact Paired.app (Paired.Ax pj λ_ _ z=>(z.tups (Al.of c2)).tups t5) (Paired.Ax c3 λ_ _ z=>z.tups t5)
  obtain⟨u3,rfl,⟨ys,hyj,pj⟩,sj⟩:=h;rw[lv] at pj;refine⟨_,_,rq,⟨ys,hyj,?_⟩,sj⟩;rw[DN,est,show up (stL ja) k++(⟨k,0,0⟩::up (st1 k ps) ps.length)=(up (stL ja) k++[⟨k,0,0⟩])++up (st1 k ps) ps.length from by simp only[Qbn,List.cons_append,List.nil_append]]
  exact pj
 ·obtain⟨u2,u3,rfl,⟨xs,e1,e2⟩,sm⟩:=h;rw[lw] at e2;exact⟨_,rq,q l xs HH hl e1 e2 sm⟩
abbrev Q9:Stmt:=top 65
abbrev KZ:YF:=["_law_bag_here","_law_wires","_law_hows","_law_wire_names"]
theorem Mg:Ay ["_law_bag_here","_law_wires","_law_hows","_law_wire_names","_law_stretch","_law_way"] KZ (Aj Q9):=by ac_rfl
def yR (C:Addr):Sp:=λvs H Q _=>∃(b:Addr) (n:Nat) (p pl d1 d2 d3 h w:Addr) (hs:YR) (fl:YQ) (gs:YT) (kv:YL),vs=[.ref b,.ref p,.ref h,.ref w]/\Bu H b n/\n<=9000/\WAt C H p pl d1 d2 d3 hs fl gs/\d1≠d2/\H h=some (.dT kv)/\kv.length<=200/\(h≠d1/\h≠d2/\h≠d3)/\(∃xs,H w=some (.lst xs)/\Paired (CN H) xs (hs.map (·.1)))/\w≠b/\1<=hs.length /\
 ∀s z H',s∈hs.map (·.1)->(z=("short":Str)\/z=("cut":Str)\/z=("whole":Str))->Bu H' b (n+2)->WAt C H' p pl d1 d2 d3 (GD hs s z) fl gs->H' h=some (.dT (putK kv (k3 s) (.str z)))->Al H H'->(∀c o,H c=some o->c≠b->c≠d1->c≠h->H' c=some o)->Q .non H'
theorem qw (c:Code K mg "_law_befall" Q9 KZ) (T:Tw K mg op oe kd wk C)
  (Bl:⋯ "_law_take" 1 Gb KH) (A6:BX P w K mg base C "cut" 4 JG (Pb C "cut")) (qY:BX P w K mg base C "short" 4 HF (Pb C "short")) (VG:BX P w K mg base C "mend" 4 G8 (Pb C "whole")):⋯ "_law_befall" 5 KZ (yR C):=by
 have sc:=Mg;exists c,Mg
 obtain⟨b,n,p,pl,d1,d2,d3,h,w,hs,fl,gs,kv,rfl,hb,hn,R,n12,hh,LD,nh,⟨xs,x1,x2⟩,nwb,l1,q⟩:=h;refine⟨_,(Ae (4∪Mg∪(Bj Dn (pv 3) (BP Bl hr (Aa (pv 0) (Aa (Aw Bh rfl T.len CJ (Aa (pv 3) Ac)) Ac))) (λ_ _=>rfl)))
 (Ae (5∪Mg∪(BP Bl hr (Aa (pv 0) (Aa Af Ac))))
 (Ag (Ce (Br WD (pv 5) Af (Bv _)) (Ae (Bc (Iv (pv 1) T.cl qY hr (Aa (pv 4) Ac)))
 (Ag (Gs (Cq hr) (pv 2) (pv 4) Bd rfl))) (Ag (Ce (Br WD (pv 5) Af (Bv _)) (Ae (Bc (Iv (pv 1) T.cl A6 hr (Aa (pv 4) Ac)))
 (Ag (Gs (Cq hr) (pv 2) (pv 4) Bd rfl))) (Ae (Bc (Iv (pv 1) T.cl VG hr (Aa (pv 4) Ac)))
 (Ag (Gs (Cq hr) (pv 2) (pv 4) Bd rfl))))))))),?_⟩
 show let R0:TS:=Ao _ _;let R1:TS:=Ao _ _;let R2:TS:=Ao _ _;let R3:TS:=Hr _ R1 R2;let R4:TS:=Hr _ R0 R3;let R5:TS:=Ao _ R4;Ao _ R5 _ _ _;intro R0 R1 R2 R3 R4 R5;have lx:=Qcc x2;rw[QbH] at lx;have l2:=R.l1;obtain⟨_,_,_,eb,_⟩:=id hb;obtain⟨dx,hp⟩:=R.ins;obtain⟨kvs,hd2,_⟩:=R.fi;have npb:p≠b:=λz=>by rw[z,eb] at hp;cases hp
 have n1b:d1≠b:=λz=>by have:=R.st;rw[z,eb] at this;cases this
 have n2b:d2≠b:=λz=>by rw[z,eb] at hd2;cases hd2
 have n3b:d3≠b:=λz=>by have:=R.gp;rw[z,eb] at this;cases this
 have nhb:h≠b:=λz=>by rw[z,eb] at hh;cases hh
 refine⟨_,rq,_,rq,_,rq,w,_,rq,.inl (SqL.of x1),b,n,_,rq,hb,by omega,by omega,by omega,λi H1 i0 i1 hb1 sb1=>?_⟩;obtain⟨m,rfl⟩ : ∃m:Nat,i=(m:Int):=⟨i.toNat,(QaU i0).symm⟩;have hxm:xs[m]?=some xs[m]:=Qan (by omega);obtain⟨s1,hs1,b1,eb1,hbt⟩:=Paired.Ck x2 hxm;refine⟨w,_,_,_,rq,rq,SqL.of (sb1 _ _ x1 nwb),Fq (xs:=xs) (j:=m) hxm,?_⟩;rw[eb1];refine⟨_,rq,b,n+1,5,rq,hb1,by omega,by decide,by decide,λr H4 r0 r1 hb4 sb4=>?_⟩;have sb:=sb1.trans sb4;have nt:=hb.DG;have R4:=R.Gw sb nt npb n1b n2b n3b;have nC:=(sb.tup nt) _ _ hbt;have hh4:=sb _ _ hh nhb;have sIn:s1∈hs.map (·.1):=QaI hs1;obtain⟨dx4,hp4⟩:=R4.ins;have fin:∀(z:Str) (H5:Hp),(z=("short":Str)\/z=("cut":Str)\/z=("whole":Str))->WAt C H5 p pl d1 d2 d3 (GD hs s1 z) fl gs->Ah d1 H4 H5->∃H6,Jm H5 h (.ref b1) (.str z) H6/\Q .non H6:=λz H5 hz W5 sB=>by
  have nt4:∀zs,H4 d1≠some (.tup zs):=λzs e=>by rw[R4.st] at e;cases e
  have hh5:=sB _ _ hh4 nh.1;have nth:∀zs,H5 h≠some (.tup zs):=λzs e=>by rw[hh5] at e;cases e
  refine⟨_,Jm.t (k:=k3 s1) hh5 ((sB.tup nt4) _ _ nC) (Ar (by omega)),?_⟩;obtain⟨dx5,hp5⟩:=W5.ins;have nph:p≠h:=λe=>by rw[e,hh5] at hp5;cases hp5
  refine q s1 z _ sIn hz (((hb4.Gw sB n1b.symm).Gw Ah.upd nhb.symm).mono (by omega)) (W5.Gw Ah.upd nth nph nh.1.symm nh.2.1.symm nh.2.2.symm) Ab ((sb.tup nt).trans ((sB.tup nt4).trans (Al.upd nth))) λc o e n1 n2 n3=>?_;rw[Am n3];exact sB _ _ (sb _ _ e n1) n2
 refine⟨_,rq,_,_,rq,rq,_,rq,Jx (λ_=>?_) (λ_=>⟨_,rq,_,_,rq,rq,_,rq,Jx (λ_=>?_) (λ_=>?_)⟩)⟩
 ·refine⟨_,rq,p,dx4,_,rq,hp4,fno (by trivial),_,rq,p,pl,d1,d2,d3,hs,fl,gs,b1,s1,rq,R4,n12,nC,sIn,λH5 W5 sB=>?_⟩;obtain⟨H6,dX,hq⟩:=fin "short" H5 (.inl rfl) W5 sB;exact⟨_,rq,_,rq,h,H6,rq,dX,hq⟩
 ·refine⟨_,rq,p,dx4,_,rq,hp4,fno (by trivial),_,rq,p,pl,d1,d2,d3,hs,fl,gs,b1,s1,rq,R4,n12,nC,sIn,λH5 W5 sB=>?_⟩;obtain⟨H6,dX,hq⟩:=fin "cut" H5 (.inr (.inl rfl)) W5 sB;exact⟨_,rq,_,rq,h,H6,rq,dX,hq⟩
 ·refine⟨_,rq,p,dx4,_,rq,hp4,fno (by trivial),_,rq,p,pl,d1,d2,d3,hs,fl,gs,b1,s1,rq,R4,n12,nC,sIn,λH5 W5 sB=>?_⟩;obtain⟨H6,dX,hq⟩:=fin "whole" H5 (.inr (.inr rfl)) W5 sB;exact⟨_,rq,_,rq,h,H6,rq,dX,hq⟩
inductive X8 (C ca:Addr) (vs:YG) (H:Hp) (Q:VK) (E:XK):Prop
 | mk (p dx v) (_:vs=[.ref p,v]) (_:H p=some (.ins C dx [])) (_:Mv H v) (_:∀H',Same H H'->E (.ref ca) none H'):X8 C ca vs H Q E
theorem v8 (F:∃f fd,Fun K "__init__" "Wires.__init__" Hs f fd/\Mk K C f/\Binds K fd Di []) (T:Tw K mg op oe kd wk C) (XE:Er K mg hc c0 c1 c2 c3 c4 c5 c6 c7 c8 c9 c10 c11 c12) (Jj:Knd K hc c0 [c0,c1,c2,c3,c4,c5,c6,c7,c8,c9,c10,c11,c12] 0) (Qo:⋯ "is_let_by" 10 FT bL) (Qn:⋯ "stretches" 1 Ig aF) (DW:⋯ "devices" 2 Fb Nx) (Td:⋯ "openers" 1 Kv aG):Xu P w K mg base C 11 Di (X8 C c0):=by
 have sc:=Jv;refine EB F Jv (by nofun) λX _ _ _ _ _ H vs Q E eX hx hr h=>?_
 subst eX;obtain⟨p,dx,v,rfl,hp,nl,q⟩:=h;refine⟨_,(Ae (Ce (Dp (Cz (BJ Qo hr (Aa (pv 1) Ac)))) (Ag (vB rfl Jj.xc rfl XE.jE hx (Aa Bd Ac))) Bt)
 (Ae (Kq (pv 0) (pv 1) rfl)
 (Ae (Kq (pv 0) (Hj (Cq hr) (N':=xl) rfl nofun (Dc (BJ Qn hr (Aa (pv 1) Ac))) (~~~(0∩xl)) (λ_ _ _ _=>CT) (~~~(pv 0)) (λ_ _ _ _=>Bd)) rfl)
 (Ae (Kq (pv 0) (Hj (Cq hr) (N':=xf) rfl nofun (Dc (BJ DW hr (Aa (pv 1) Ac))) (~~~(FW (K:=K) (n:=3) rfl rfl (Ak (0∩xf) (Ak (1∩xf) (Ak (2∩xf) Bo))))) (λ_ _ _ _=>CT) (~~~(pv 0)) (~~~(Bb (Aa (pv 1) (Aa (pv 2) Ac))))) rfl)
 (Ag (Kq (pv 0) (Hj (Cq hr) (N':=xi) rfl nofun (Dc (BJ Td hr (Aa (pv 1) Ac))) (~~~(0∩xi)) (λ_ _ _ _=>CT) (~~~(pv 0)) (λ_ _ _ _=>DY)) rfl)))))),?_⟩
 exact⟨_,rq,v,rq,nl,λH1 s1=>⟨_,rq,BL ⟨jv,q _ s1⟩⟩⟩
abbrev Og:Stmt:=top 66
abbrev Jh:YF:=["_law_bag_here","_law_wires","_law_told","_law_wire_names","_law_gates"]
theorem Gq:Ay ["_law_bag_here","_law_wires","_law_told","_law_wire_names","_law_gates","_law_again","_law_spot","_law_kind_here","_law_address"] Jh (Aj Og):=by ac_rfl
structure TR (C:Addr) (H:Hp) (b p pl d1 d2 d3 lt lw lg:Addr) (n:Nat) (ja:YU) (hs:YR) (fl:YQ) (gs:YT):Prop where
 bag:Bu H b n
 wi:WAt C H p pl d1 d2 d3 hs fl gs
 ok:Dj ja
 lo:1<=ja.length
 dv1:1<=(up (pdL ja) ja.length).length
 n12:d1≠d2
 k1:hs.map (·.1)=up (stL ja) ja.length
 k2:fl.map (·.1)=(up (pdL ja) ja.length).map Sd.spot
 k3:gs.map (·.1)=up (gtL ja) ja.length
 tl:∃xs,H lt=some (.lst xs)/\Paired (Kh H) xs (up (pdL ja) ja.length)
 wn:∃xs,H lw=some (.lst xs)/\Paired (CN H) xs (up (stL ja) ja.length)
 gv:∃xs G,H lg=some (.lst xs)/\Paired (Ei H) xs G/\(∀g∈G,g∈up (gtL ja) ja.length)/\1<=G.length/\G.length<=200
 nb:lt≠b/\lw≠b/\lg≠b
def FrT (b d1 d2 d3:Addr) (H H':Hp):Prop:=∀c o,H c=some o->c≠b->c≠d1->c≠d2->c≠d3->H' c=some o
section
variable {C:Addr} {H H':Hp} {b p pl d1 d2 d3 lt lw lg:Addr} {n n':Nat} {ja:YU} {hs hs':YR} {fl fl':YQ} {gs gs':YT}
theorem FrT.of (s:Same H H'):FrT b d1 d2 d3 H H':=λc o e _ _ _ _=>s _ _ e
theorem FrT.trans {H'':Hp} (s:FrT b d1 d2 d3 H H') (t:FrT b d1 d2 d3 H' H''):FrT b d1 d2 d3 H H'':=λc o e n1 n2 n3 n4=>t _ _ (s _ _ e n1 n2 n3 n4) n1 n2 n3 n4
theorem TR.moved (L:TR C H b p pl d1 d2 d3 lt lw lg n ja hs fl gs) (s:Al H H') (wi:WAt C H' p pl d1 d2 d3 hs' fl' gs') (bag:Bu H' b n') (hl:∀c,c=lt\/c=lw\/c=lg->∀o,H c=some o->H' c=some o) (k1:hs'.map (·.1)=hs.map (·.1)) (k2:fl'.map (·.1)=fl.map (·.1)) (k3:gs'.map (·.1)=gs.map (·.1)):TR C H' b p pl d1 d2 d3 lt lw lg n' ja hs' fl' gs':=by
 obtain⟨xs,x1,x2⟩:=L.tl;obtain⟨ys,y1,y2⟩:=L.wn;obtain⟨zs,G,z1,z2,z3⟩:=L.gv;exact⟨bag,wi,L.ok,L.lo,L.dv1,L.n12,k1.trans L.k1,k2.trans L.k2,k3.trans L.k3,⟨xs,hl _ (.inl rfl) _ x1,Paired.Ax x2 λ_ _ z=>z.tups s⟩,⟨ys,hl _ (.inr (.inl rfl)) _ y1,Paired.Ax y2 λ_ _ z=>z.tups s⟩,⟨zs,G,hl _ (.inr (.inr rfl)) _ z1,Paired.Ax z2 λ_ _ z=>z.tups s,z3⟩,L.nb⟩
theorem TR.same (L:TR C H b p pl d1 d2 d3 lt lw lg n ja hs fl gs) (s:Same H H'):TR C H' b p pl d1 d2 d3 lt lw lg n ja hs fl gs:=L.moved (Al.of s) (L.wi.same s) (L.bag.same s) (λc _ o e=>s _ _ e) rfl rfl rfl
theorem TR.mono (L:TR C H b p pl d1 d2 d3 lt lw lg n ja hs fl gs) (h:n<=n'):TR C H b p pl d1 d2 d3 lt lw lg n' ja hs fl gs:=L.moved (Al.of (Same.refl H)) L.wi (L.bag.mono h) (λc _ o e=>e) rfl rfl rfl
theorem TR.nbl (L:TR C H b p pl d1 d2 d3 lt lw lg n ja hs fl gs) {c:Addr} (h:c=lt\/c=lw\/c=lg):c≠b:=by
 rcases h with rfl | rfl | rfl
 ·exact L.nb.1
 ·exact L.nb.2.1
 ·exact L.nb.2.2
theorem TR.nlc (L:TR C H b p pl d1 d2 d3 lt lw lg n ja hs fl gs) {x c:Addr} {kv:YL} (hx:H x=some (.dT kv)) (h:c=lt\/c=lw\/c=lg):c≠x:=by
 obtain⟨_,x1,_⟩:=L.tl;obtain⟨_,y1,_⟩:=L.wn;obtain⟨_,_,z1,_⟩:=L.gv;rcases h with rfl | rfl | rfl
 ·exact λz=>by rw[z,hx] at x1;cases x1
 ·exact λz=>by rw[z,hx] at y1;cases y1
 ·exact λz=>by rw[z,hx] at z1;cases z1
theorem TR.drawn (L:TR C H b p pl d1 d2 d3 lt lw lg n ja hs fl gs) (s:Ah b H H') (hb:Bu H' b n'):TR C H' b p pl d1 d2 d3 lt lw lg n' ja hs fl gs:=by
 obtain⟨_,_,_,eb,_⟩:=L.bag;have hd:∀{x kv},H x=some (.dT kv)->x≠b:=λh z=>by rw[z,eb] at h;cases h
 obtain⟨dx,e0⟩:=L.wi.ins;obtain⟨_,e2,_⟩:=L.wi.fi;exact L.moved (s.tup L.bag.DG) (L.wi.Gw s L.bag.DG (λz=>by rw[z,eb] at e0;cases e0) (hd L.wi.st) (hd e2) (hd L.wi.gp)) hb (λc h o e=>s _ _ e (L.nbl h)) rfl rfl rfl
theorem TR.Ye (L:TR C H b p pl d1 d2 d3 lt lw lg n ja hs fl gs) {x:Addr} {kv:YL} (hx:H x=some (.dT kv)) (W:WAt C H' p pl d1 d2 d3 hs' fl' gs') (s:Ah x H H') (k1:hs'.map (·.1)=hs.map (·.1)) (k2:fl'.map (·.1)=fl.map (·.1)) (k3:gs'.map (·.1)=gs.map (·.1)):TR C H' b p pl d1 d2 d3 lt lw lg n ja hs' fl' gs':=by
 have nt:∀zs,H x≠some (.tup zs):=λzs e=>by rw[hx] at e;cases e
 obtain⟨_,_,_,eb,_⟩:=L.bag;exact L.moved (s.tup nt) W (L.bag.Gw s λz=>by rw[z,hx] at eb;cases eb) (λc h o e=>s _ _ e (L.nlc hx h)) k1 k2 k3
theorem TR.bs (L:TR C H b p pl d1 d2 d3 lt lw lg n ja hs fl gs):∀s∈hs.map (·.1),Bd3 s:=by rw[L.k1];exact yQ L.ok
theorem TR.bg (L:TR C H b p pl d1 d2 d3 lt lw lg n ja hs fl gs):Zh gs:=λx hx=>by
 have:x.1∈up (gtL ja) ja.length:=by rw[<-L.k3];exact Qcl.mpr ⟨x,hx,rq⟩
 obtain⟨i,hi,h⟩:=Ec this;have:=qW L.ok h;omega
theorem TR.hs1 (L:TR C H b p pl d1 d2 d3 lt lw lg n ja hs fl gs):1<=hs.length:=by
 have hl:=L.lo;have h0:ja[0]?=some ja[0]:=Qan (by omega);have:(⟨((0:Nat):Int),0,0⟩ : Sp3)∈up (stL ja) ja.length:=(qG h0).mpr (.inl ⟨rq,rq⟩);rw[<-L.k1] at this;have:=List.length_pos_of_mem this
 rwa [QbH] at this
end
theorem vm {ja:YU} (ok:Dj ja) {d:Sd} (h:d∈up (pdL ja) ja.length):GD (GD (fl0 ja) d.spot none) d.spot (some (d.kind,d.addr))=fl0 ja:=by
 have nd:=zF ok;unfold fl0 GD;rw[Qcp,Qcp];refine QaQ λx hx=>?_;show (if (if x.spot=d.spot then (x.spot,none) else (x.spot,some (x.kind,x.addr)):Sp3×Option (Str×Int)).1=d.spot then _ else _)=_
 by_cases e:x.spot=d.spot
 ·rw[if_pos e];have:x=d:=by
   obtain⟨i,hi⟩:=QaL hx;obtain⟨j,hj⟩:=QaL h;have hi':((up (pdL ja) ja.length).map Sd.spot)[i]?=some x.spot:=by rw[Qbm,hi];rfl
   have hj':((up (pdL ja) ja.length).map Sd.spot)[j]?=some x.spot:=by rw[Qbm,hj,e];rfl
   have:=(List.getElem?_inj (Qai.mp hi').1 nd).mp (hi'.trans hj'.symm);subst this;rw[hi] at hj;exact QbN hj
  subst this;rw[if_pos rfl];show ((if x.spot=x.spot then (x.spot,(none:Option (Str×Int))) else (x.spot,some (x.kind,x.addr))).1,some (x.kind,x.addr))=_
  rw[if_pos rfl]
 ·rw[if_neg e,if_neg e]
inductive uK (C:Addr) (vs:YG) (H:Hp) (Q:VK) (E:XK):Prop
 | mk (b p pl d1 d2 d3 lt lw lg:Addr) (n:Nat) (ja:YU) (hs:YR) (gs:YT) (_:vs=[.ref b,.ref p,.ref lt,.ref lw,.ref lg]) (_:TR C H b p pl d1 d2 d3 lt lw lg n ja hs (fl0 ja) gs) (_:n<=5000) (_:∀hs' gs' H',TR C H' b p pl d1 d2 d3 lt lw lg (n+30) ja hs' (fl0 ja) gs'->Al H H'->FrT b d1 d2 d3 H H'->Q .non H'):uK C vs H Q E
theorem gQ (c:Code K mg "_law_troubled" Og Jh) (T:Tw K mg op oe kd wk C) (Bl:⋯ "_law_take" 1 Gb KH) (nO:⋯ "_law_befall" 5 KZ (yR C)) (Y5:BX P w K mg base C "act" 4 Il (Wk C)) (eE:BX P w K mg base C "take_out" 4 Gg (bI C)) (nJ:BX P w K mg base C "put_in" 4 G6 (lJ C)) (Ke:BX P w K mg base C "come_to_rest" 5 Dl (T4 C)):⋯ "_law_troubled" 6 Jh (uK C):=by
 have sc:=Gq;exists c,Gq
 obtain⟨b,p,pl,d1,d2,d3,lt,lw,lg,n,ja,hs,gs,rfl,L,hn,q⟩:=h;refine⟨_,(Ae (Cj QbK rfl (Dd rfl T.range (Aa (Bf CG Af (BP Bl hr (Aa (pv 0) (Aa Af Ac)))) Ac)) (5∣Gq)
 (Ae (Bc (Wv nO hr (Aa (pv 0) (Aa (pv 1) (Aa vJ (Aa (pv 3) Ac))))))
 (Ag (Ce (Br WL (BP Bl hr (Aa (pv 0) (Aa Af Ac))) Af (Bv _)) (Ag (Bc (Iv (pv 1) T.cl Y5 hr (Aa (Bj Dn (pv 4) (BP Bl hr (Aa (pv 0) (Aa (Aw Bh rfl T.len CJ (Aa (pv 4) Ac)) Ac))) (λ_ _=>rfl)) Ac)))) Bt))))
 (Ae (GZ (Bj Dn (pv 2) (BP Bl hr (Aa (pv 0) (Aa (Aw Bh rfl T.len CJ (Aa (pv 2) Ac)) Ac))) (λ_ _=>rfl)) (CK rfl (Ak (6∣Gq) (Ak (7∣Gq) (Ak (8∣Gq) Bo)))))
 (Ae (Bc (Iv (pv 1) T.cl eE hr (Aa (pv 6) Ac)))
 (Ae (Ce (Br Js (BP Bl hr (Aa (pv 0) (Aa Af Ac))) Af (Bv _)) (Ag (Bc (Wt (pv 1) T.cl Ke hr))) Bt)
 (Ag (Bc (FK (pv 1) T.cl nJ hr (Aa (pv 6) (Aa (pv 7) (Aa (pv 8) Ac)))))))))),?_⟩
 show let R0:TS:=_;let R1:TS:=Ao _ R0;let R2:TS:=Ao _ R1;let R3:TS:=Ao _ R2;let R4:TS:=_;let R5:TS:=Hr _ R4 _;let R6:TS:=Ao _ R5;Ao (Dq _ _ R6) R3 _ _ _;intro R0 R1 R2 R3 R4 R5 R6;refine⟨_,rq,b,n,4,rq,L.bag,by omega,by decide,by decide,λr H1 r0 r1 hb1 sb1=>⟨_,_,rq,rq,_,rq,by omega,by omega,?_⟩⟩;have L1:=L.drawn sb1 hb1;have t1:=sb1.tup L.bag.DG;have f1:FrT b d1 d2 d3 H H1:=λc o e n1 _ _ _=>sb1 _ _ e n1;clear sb1 hb1;have hm:(1+r).toNat<=4:=by omega
 generalize (1+r).toNat=m at hm;let J0:YN:=λi U HH=>∃(u5:Option V) (hs:YR) (gs:YT),U=[jp b,jp p,jp lt,jp lw,jp lg,u5,none,none,none]/\TR C HH b p pl d1 d2 d3 lt lw lg (n+1+5*i) ja hs (fl0 ja) gs/\Al H HH/\FrT b d1 d2 d3 H HH;refine Fi J0 ⟨_,hs,gs,rq,L1,t1,f1⟩ (λi U HH hi h=>?_) (fun U HH h=>?_)
 ·obtain⟨u5,hs,gs,rfl,L,tt,ff⟩:=h;refine⟨_,rq,_,rq,λdh fh=>?_⟩;have s2:=Ad fh (.dT []);have L2:=L.same s2;have hdh:(upd HH dh (.dT [])) dh=some (.dT []):=Ab;obtain⟨kv,e2,_⟩:=L.wi.fi;have neh:dh≠d1/\dh≠d2/\dh≠d3:=⟨(λz=>by rw[z,L.wi.st] at fh;cases fh),(λz=>by rw[z,e2] at fh;cases fh),λz=>by rw[z,L.wi.gp] at fh;cases fh⟩;have tt2:=tt.trans (Al.of s2);have ff2:=ff.trans (FrT.of (b:=b) (d1:=d1) (d2:=d2) (d3:=d3) s2);have C6:∀c o,HH c=some o->c≠dh:=λc o e=>Aq e fh;clear e2;refine⟨_,rq,b,_,p,pl,d1,d2,d3,dh,lw,hs,fl0 ja,gs,[],rq,L2.bag,by omega,L2.wi,L2.n12,hdh,by decide,neh,(by rw[L2.k1];exact L2.wn),L2.nb.2.1,L2.hs1,λs z H3 sIn hz hb3 W3 hd3 ts fr=>?_⟩;have ff3:FrT b d1 d2 d3 H H3:=λc o e n1 n2 n3 n4=>by
   have e':=ff _ _ e n1 n2 n3 n4;exact fr _ _ (s2 _ _ e') n1 n2 (C6 _ _ e')
  have L3:TR C H3 b p pl d1 d2 d3 lt lw lg (n+1+5*i+2) ja (GD hs s z) (fl0 ja) gs:=L2.moved ts W3 hb3 (λc h o e=>fr _ _ e (L2.nbl h) (L2.nlc L2.wi.st h) (L2.nlc hdh h)) (Jb _ _ _) rfl rfl;have tt3:=tt2.trans ts;clear L2 L hd3 fr ts s2 hdh W3 hb3 ff2 tt2 ff tt C6 fh;generalize GD hs s z=hs3 at *;refine⟨_,rq,b,_,3,rq,L3.bag,by omega,by decide,by decide,λr4 H4 q0 q1 hb4 sb4=>⟨_,_,rq,rq,_,rq,Jx (λ_=>?_) (λ_=>?_)⟩⟩
  ·have L4:=L3.drawn sb4 hb4;have tt4:=tt3.trans (sb4.tup L3.bag.DG);have ff4:FrT b d1 d2 d3 H H4:=ff3.trans λc o e n1 _ _ _=>sb4 _ _ e n1;obtain⟨xg,G,y1,y2,y3,y4,y5⟩:=L4.gv;have lgn:=Qcc y2;obtain⟨dx4,hp4⟩:=L4.wi.ins;refine⟨_,rq,p,dx4,_,rq,hp4,fno (by trivial),_,rq,_,rq,_,rq,lg,_,rq,.inl (SqL.of y1),b,_,_,rq,L4.bag,by omega,by omega,by omega,λi5 H5 w0 w1 hb5 sb5=>?_⟩;obtain⟨m5,rfl⟩ : ∃m:Nat,i5=(m:Int):=⟨i5.toNat,(QaU w0).symm⟩;have L5:=L4.drawn sb5 hb5;have hgm:xg[m5]?=some xg[m5]:=Qan (by omega);obtain⟨g,hg,b5,eb5,hbt⟩:=Paired.Ck y2 hgm;refine⟨lg,_,_,_,rq,rq,SqL.of (sb5 _ _ y1 L4.nb.2.2),Fq (xs:=xg) (j:=m5) hgm,?_⟩;rw[eb5];refine⟨p,pl,d1,d2,d3,hs3,fl0 ja,gs,b5,g,rq,L5.wi,L5.bs,L5.bg,(sb5.tup L4.bag.DG) _ _ hbt,by rw[L5.k3];exact y3 g (QaI hg),λH6 W6 sB=>?_⟩;have nt:∀zs,H5 d3≠some (.tup zs):=λzs e=>by rw[L5.wi.gp] at e;cases e
   exact⟨_,_,_,rq,(L5.Ye L5.wi.gp W6 sB rfl rfl (Ld _ _ _)).mono (by omega),(tt4.trans (sb5.tup L4.bag.DG)).trans (sB.tup nt),(ff4.trans λc o e n1 _ _ _=>sb5 _ _ e n1).trans λc o e _ _ _ n4=>sB _ _ e n4⟩
  ·exact⟨_,_,_,rq,(L3.drawn sb4 hb4).mono (by omega),tt3.trans (sb4.tup L3.bag.DG),ff3.trans λc o e n1 _ _ _=>sb4 _ _ e n1⟩
 obtain⟨u5,hs,gs,rfl,L,tt,ff⟩:=h;obtain⟨xs,x1,x2⟩:=L.tl;have lx:=Qcc x2;have S3:=rP L.ok;have dv1:=L.dv1;refine⟨_,rq,_,rq,_,rq,lt,_,rq,.inl (SqL.of x1),b,_,_,rq,L.bag,by omega,by omega,by omega,λi2 H2 j0 j1 hb2 sb2=>?_⟩;obtain⟨k,rfl⟩ : ∃m:Nat,i2=(m:Int):=⟨i2.toNat,(QaU j0).symm⟩;have L2:=L.drawn sb2 hb2;have tt2:=tt.trans (sb2.tup L.bag.DG);have ff2:FrT b d1 d2 d3 H H2:=ff.trans λc o e n1 _ _ _=>sb2 _ _ e n1;have hxk:xs[k]?=some xs[k]:=Qan (by omega);obtain⟨d,hd,td,ud,ed,h1,h2⟩:=Paired.Ck x2 hxk;have hdm:=QaI hd;refine⟨lt,_,_,_,rq,rq,SqL.of (sb2 _ _ x1 L.nb.1),Fq (xs:=xs) (j:=k) hxk,?_⟩;rw[ed];have h1':=(sb2.tup L.bag.DG) _ _ h1;have h2':=(sb2.tup L.bag.DG) _ _ h2;refine⟨td,_,rq,SqT.of h1',rq,_,_,rq,_,_,rq,_,_,rq,rq,?_⟩;have sIn:d.spot∈(fl0 ja).map (·.1):=by rw[Oa];exact Qcl.mpr ⟨d,hdm,rq⟩
 obtain⟨dx2,hp2⟩:=L2.wi.ins;obtain⟨kv2,e2,_⟩:=L2.wi.fi;refine⟨_,rq,p,dx2,_,rq,hp2,fno (by trivial),_,rq,p,pl,d1,d2,d3,hs,fl0 ja,gs,ud,d.spot,rq,L2.wi,L2.n12,h2',sIn,λH3 W3 sB3=>?_⟩;have nt2:∀zs,H2 d2≠some (.tup zs):=λzs e=>by rw[e2] at e;cases e
 have L3:=L2.Ye e2 W3 sB3 rfl (Jb _ _ _) rfl;have tt3:=tt2.trans (sB3.tup nt2);have ff3:FrT b d1 d2 d3 H H3:=ff2.trans λc o e _ _ n3 _=>sB3 _ _ e n3;have h23:=(sB3.tup nt2) _ _ h2';clear L L2 sB3 W3 ff2 tt2 ff tt h1 h2 h1' h2' e2 L1 t1 f1;dsimp only;show Ao (Hr _ _ _) _ _ _ _;refine Sh (fun U HZ=>∃gs,U=[jp b,jp p,jp lt,jp lw,jp lg,u5,jp ud,some (.str d.kind),some (.int d.addr)]/\TR C HZ b p pl d1 d2 d3 lt lw lg (n+30) ja hs (GD (fl0 ja) d.spot none) gs/\Al H HZ/\FrT b d1 d2 d3 H HZ/\HZ ud=some (.tup [.int d.spot.lp,.int d.spot.at_,.int d.spot.n])) (fun U HZ h=>?_) (λD' hn'=>?_);rotate_left 1
 ·refine⟨_,rq,b,_,2,rq,L3.bag,by omega,by decide,by decide,λr4 H4 q0 q1 hb4 sb4=>⟨rq,_,rq,Jx (λ_=>?_) (λ_=>?_)⟩⟩
  ·have L4:=L3.drawn sb4 hb4;obtain⟨dx4,hp4⟩:=L4.wi.ins;refine⟨_,rq,p,dx4,_,rq,hp4,fno (by trivial),p,pl,d1,d2,d3,hs,_,gs,rq,L4.wi,L4.bs,L4.bg,λlr xr H5 flr hlr _ W5 sB5=>?_⟩;have nt:∀zs,H4 d3≠some (.tup zs):=λzs e=>by rw[L4.wi.gp] at e;cases e
   exact hn' _ _ ⟨_,rq,(L4.Ye L4.wi.gp W5 sB5 rfl rfl (Kp _ _)).mono (by omega),(tt3.trans (sb4.tup L3.bag.DG)).trans (sB5.tup nt),(ff3.trans λc o e n1 _ _ _=>sb4 _ _ e n1).trans λc o e _ _ _ n4=>sB5 _ _ e n4,(sB5.tup nt) _ _ ((sb4.tup L3.bag.DG) _ _ h23)⟩
  ·exact hn' _ _ ⟨_,rq,(L3.drawn sb4 hb4).mono (by omega),tt3.trans (sb4.tup L3.bag.DG),ff3.trans λc o e n1 _ _ _=>sb4 _ _ e n1,(sb4.tup L3.bag.DG) _ _ h23⟩
 obtain⟨gs,rfl,L4,tt4,ff4,hu4⟩:=h;obtain⟨dx4,hp4⟩:=L4.wi.ins;obtain⟨kv4,e4,_⟩:=L4.wi.fi;refine⟨_,rq,p,dx4,_,rq,hp4,fno (by trivial),_,rq,_,rq,_,rq,p,pl,d1,d2,d3,hs,_,gs,ud,d.spot,d.kind,d.addr,rq,L4.wi,L4.n12,hu4,by rw[Jb];exact sIn,λH5 W5 sB5=>?_⟩;have nt:∀zs,HZ d2≠some (.tup zs):=λzs e=>by rw[e4] at e;cases e
 rw[vm L4.ok hdm] at W5;exact q _ _ _ (L4.Ye e4 W5 sB5 rfl (by rw[Jb]) rfl) (tt4.trans (sB5.tup nt)) (ff4.trans λc o e _ _ n3 _=>sB5 _ _ e n3)
abbrev PX:Stmt:=top 67
abbrev JC:YF:=["_law_bag_here","_law_plan_here"]
theorem KJ:Ay ["_law_bag_here","_law_plan_here","_law_odd","_law_e"] JC (Aj PX):=by ac_rfl
theorem QN {i:Int} (h0:0<=i) (h9:i < 9) {a b c d e f g h k:V} (P:V->Prop) (ha:P a) (hb:P b) (hc:P c) (hd:P d) (he:P e) (hf:P f) (hg:P g) (hh:P h) (hk:P k):∃p,atI [a,b,c,d,e,f,g,h,k] i=some p/\P p:=by
 have:i=0\/i=1\/i=2\/i=3\/i=4\/i=5\/i=6\/i=7\/i=8:=by omega
 rcases this with rfl | rfl | rfl | rfl | rfl | rfl | rfl | rfl | rfl <;> exact⟨_,rfl,by assumption⟩
theorem Mv.tup {H:Hp} {t:Addr} {xs:YG} (h:H t=some (.tup xs)) (n:xs.length≠3):Mv H (.ref t):=.inl ⟨Fx h,by rw[Cd h];exact Yl (by omega)⟩
inductive lG (C:Addr) (vs:YG) (H:Hp) (Q:VK) (E:XK):Prop
 | mk (b pl:Addr) (n:Nat) (most:Int) (ja:YU) (jn:List Zone) (_:vs=[.ref b,.ref pl]) (_:Bu H b n) (_:n<=5000) (_:GF H pl most ja jn) (_:∀H',Bu H' b (n+1)->Ah b H H'->Q (.bl true) H'):lG C vs H Q E
theorem mq (c:Code K mg "_law_refused" PX JC) (T:Tw K mg op oe kd wk C) (XE:Er K mg hc c0 c1 c2 c3 c4 c5 c6 c7 c8 c9 c10 c11 c12) (Jj:Knd K hc c0 [c0,c1,c2,c3,c4,c5,c6,c7,c8,c9,c10,c11,c12] 0)
  (Bl:⋯ "_law_take" 1 Gb KH) (nP:Xu P w K mg base C 11 Di (X8 C c0)) (xX:aL P w K mg base "_law_kind" 1 OD (bM K hc [c0,c1,c2,c3,c4,c5,c6,c7,c8,c9,c10,c11,c12])):⋯ "_law_refused" 13 JC (lG C):=by
 have sc:=KJ;exists c,KJ
 obtain⟨b,pl,n,most,ja,jn,rfl,hb,hn,pa,q⟩:=h;refine⟨_,(@Ae _ _ _ _ _ (@Ba _ _ 2 _ _ _ _ KJ.nd rfl (Or.inl rfl) (@BZ _ _ _ _ (@Aa _ _ _ _ _ Jf (@Aa _ _ _ _ _ (Bb Ac) (@Aa _ _ _ _ _ (@Bf _ _ _ _ _ _ _ _ Ka (pv 1) (Bb (Aa Af Ac))) (@Aa _ _ _ _ _ (Jg fP rfl T.list Be (Aa (pv 1) Ac)) (@Aa _ _ _ _ _ (Bb (Aa Af (Aa (Bj Bw (pv 1) Af (λ_ _=>rfl)) (Aa (Bj Bw (pv 1) Af (λ_ _=>rfl)) Ac)))) (@Aa _ _ _ _ _ (Bb (Aa (Bj Bw (pv 1) Af (λ_ _=>rfl)) (Aa (@Bf _ _ _ _ _ _ _ _ Ka (Bj Bw (pv 1) Af (λ_ _=>rfl)) (Bj Bw (pv 1) Af (λ_ _=>rfl))) (Aa (Bj Bw (pv 1) Af (λ_ _=>rfl)) Ac)))) (@Aa _ _ _ _ _ (Bb (Aa (Bj Bw (pv 1) Af (λ_ _=>rfl)) (Aa (Bb Ac) (Aa (Bb Ac) Ac)))) (@Aa _ _ _ _ _ (Bb (Aa (Bj Bw (pv 1) Af (λ_ _=>rfl)) (Aa (Bj Bw (pv 1) Af (λ_ _=>rfl)) (Aa (@Bf _ _ _ _ _ _ _ _ Ka (Bj Bw (pv 1) Af (λ_ _=>rfl)) (Bb (Aa (Bb (Aa Bd (Aa (Bb (Aa Af Ac)) Ac))) Ac))) Ac)))) (@Aa _ _ _ _ _ (@Bd _ _ _ _) (@Ac _) Bg) RV) RV) RV) RV) zW) Cc) RV) Bg)) (by rfl) (by first | exact .inl rfl | exact .inr rfl))
 (@Ae _ _ _ _ _ (Ct (i:=3) KJ.nd rfl rfl rfl rfl rfl XE.gZ XE.gH (λpn E1 EX hx=>(@Ag _ _ _ (Bc (CB nP hr T.mgC hx (Aa (Bj (xM (K:=K) rfl) (pv 2) (BP Bl hr (Aa (pv 0) (Aa Af Ac))) (λ_ _=>rfl)) Ac)))))
 (λpn ea=>(@Ag _ _ _ (Az (G4 Js (CL xX (hr.inH _) (Aa (pv 3) Ac)) Bd (Bv _))))))
 (@Ag _ _ _ (Az DY)))),?_⟩
 show let R0:TS:=Ao _ _;Ao _ R0 _ _ _;intro R0;obtain⟨Ls,zs,ws,zvs,e1,e2,e3,e4,e5⟩:=pa.at_;have lw:=Qcc e3;have lz:=Qcc e5;have z8:=pa.pok.aO;have l3:=pa.ok.hi;have z0:0<=sizeLine:=Av (by decide);have z1:1<=sizeLine:=Av (by decide);have z2:2<=sizeLine:=Av (by decide);have z3:3<=sizeLine:=Av (by decide);refine⟨z0,λt1 ht1=>?_⟩;have s1:=Ad ht1 (.tup []);have k1:(upd H t1 (.tup [])) t1=_:=Ab;generalize upd H t1 (.tup [])=H1 at *;refine⟨_,rq,z1,λt2 ht2=>?_⟩;have s2:=Ad ht2 (.tup [.int 0]);have k2:(upd H1 t2 (.tup [.int 0])) t2=_:=Ab;generalize upd H1 t2 (.tup [.int 0])=H2 at *;have p2:=s1.trans s2;refine⟨pl,t2,_,_,rq,rq,p2 _ _ e1,k2,ki,λt3 H3 k3 s3=>?_⟩;have p3:=p2.trans s3;refine⟨_,rq,pl,_,rq,.inr (SqT.of (p3 _ _ e1)),λl4 hl4=>?_⟩;have s4:=Ad hl4 (.lst [.int most,.ref Ls,.ref zs]);have k4:(upd H3 l4 (.lst [.int most,.ref Ls,.ref zs])) l4=_:=Ab;have n4:l4≠b:=((hb.same p3).nb hl4).symm;generalize upd H3 l4 (.lst [.int most,.ref Ls,.ref zs])=H4 at *;have p4:=p3.trans s4;refine⟨_,rq,pl,_,_,_,rq,rq,SqT.of (p4 _ _ e1),rq,_,rq,pl,_,_,_,rq,rq,SqT.of (p4 _ _ e1),rq,z3,λt5 ht5=>?_⟩;have s5:=Ad ht5 (.tup [.int 0,.ref Ls,.ref zs]);have k5:(upd H4 t5 (.tup [.int 0,.ref Ls,.ref zs])) t5=_:=Ab;generalize upd H4 t5 (.tup [.int 0,.ref Ls,.ref zs])=H5 at *;have p5:=p4.trans s5;refine⟨_,rq,pl,_,_,_,rq,rq,SqT.of (p5 _ _ e1),rq,_,rq,pl,_,_,_,rq,rq,SqT.of (p5 _ _ e1),rq,_,rq,pl,_,_,_,rq,rq,SqT.of (p5 _ _ e1),rq,Ls,Ls,_,_,rq,rq,p5 _ _ e2,p5 _ _ e2,Av (by omega),λt6 H6 k6 s6=>?_⟩;have p6:=p5.trans s6;refine⟨_,rq,pl,_,_,_,rq,rq,SqT.of (p6 _ _ e1),rq,z3,λt7 ht7=>?_⟩;have s7:=Ad ht7 (.tup [.int most,.ref t6,.ref zs]);have k7:(upd H6 t7 (.tup [.int most,.ref t6,.ref zs])) t7=_:=Ab;generalize upd H6 t7 (.tup [.int most,.ref t6,.ref zs])=H7 at *;have p7:=p6.trans s7;refine⟨_,rq,pl,_,_,_,rq,rq,SqT.of (p7 _ _ e1),rq,z0,λt8 ht8=>?_⟩;have s8:=Ad ht8 (.tup []);have k8:(upd H7 t8 (.tup [])) t8=_:=Ab;generalize upd H7 t8 (.tup [])=H8 at *;refine⟨z0,λt9 ht9=>?_⟩;have s9:=Ad ht9 (.tup []);generalize upd H8 t9 (.tup [])=H9 at *;refine⟨z3,λt10 D4=>?_⟩;have s10:=Ad D4 (.tup [.int most,.ref t8,.ref t9]);have k10:(upd H9 t10 (.tup [.int most,.ref t8,.ref t9])) t10=_:=Ab;generalize upd H9 t10 (.tup [.int most,.ref t8,.ref t9])=H10 at *;have p10:=p7.trans (s8.trans (s9.trans s10));refine⟨_,rq,pl,_,_,_,rq,rq,SqT.of (p10 _ _ e1),rq,_,rq,pl,_,_,_,rq,rq,SqT.of (p10 _ _ e1),rq,_,rq,pl,_,_,_,rq,rq,SqT.of (p10 _ _ e1),rq,z1,λt11 D3=>?_⟩;have s11:=Ad D3 (.tup [.int 100]);have k11:(upd H10 t11 (.tup [.int 100])) t11=_:=Ab;generalize upd H10 t11 (.tup [.int 100])=H11 at *;refine⟨z2,λt12 D2=>?_⟩;have s12:=Ad D2 (.tup [.str "q",.ref t11]);have k12:(upd H11 t12 (.tup [.str "q",.ref t11])) t12=_:=Ab;generalize upd H11 t12 (.tup [.str "q",.ref t11])=H12 at *;refine⟨z1,λt13 D0=>?_⟩;have s13:=Ad D0 (.tup [.ref t12]);have k13:(upd H12 t13 (.tup [.ref t12])) t13=_:=Ab;generalize upd H12 t13 (.tup [.ref t12])=H13 at *;have p13:=p10.trans (s11.trans (s12.trans s13));refine⟨zs,t13,_,_,rq,rq,p13 _ _ e4,k13,Av (by show zvs.length+1<=1000;omega),λt14 H14 k14 s14=>?_⟩;refine⟨z3,λt15 DZ=>?_⟩;have s15:=Ad DZ (.tup [.int most,.ref Ls,.ref t14]);have k15:(upd H14 t15 (.tup [.int most,.ref Ls,.ref t14])) t15=_:=Ab;generalize upd H14 t15 (.tup [.int most,.ref Ls,.ref t14])=H15 at *;refine⟨Av (by show 9<=1000;decide),λlo hlo=>?_⟩;have s16:=Ad hlo (.lst [.non,.ref t1,.ref t3,.ref l4,.ref t5,.ref t7,.ref t10,.ref t15,.str "plan"]);have k16:(upd H15 lo (.lst [.non,.ref t1,.ref t3,.ref l4,.ref t5,.ref t7,.ref t10,.ref t15,.str "plan"])) lo=_:=Ab;have p15:=p13.trans (s14.trans s15);have n16:lo≠b:=((hb.same p15).nb hlo).symm;generalize upd H15 lo (.lst [.non,.ref t1,.ref t3,.ref l4,.ref t5,.ref t7,.ref t10,.ref t15,.str "plan"])=HL at *;have r14:=s15.trans s16;have r13:=s14.trans r14;have r12:=s13.trans r13;have r11:=s12.trans r12;have r10:=s11.trans r11;have r8:=s9.trans (s10.trans r10);have r7:=s8.trans r8;have r6:=s7.trans r7;have r5:=s6.trans r6;have r4:=s5.trans r5;have r3:=s4.trans r4;have r1:=s2.trans (s3.trans r3);have pL:=s1.trans r1;have hbL:=hb.same pL;have zok:∀z∈jn,ZnB z:=λz hz=>⟨pa.pok.znm z hz,pa.pok.zup z hz,λx hx=>pa.pok.bd x (aQ pa.ok (pa.pok.zin z hz x hx))⟩;have lok:Ff ja:=⟨pa.ok.ok,pa.pok.bd,pa.lo,pa.ok.hi⟩;have odd:∀HX,Ah b HL HX->∀i:Int,0<=i->i < 9->∃v,atI [.non,.ref t1,.ref t3,.ref l4,.ref t5,.ref t7,.ref t10,.ref t15,.str "plan"] i=some v/\Mv HX v:=λHX sb i h0 h9=>by
  have tp:=sb.tup hbL.DG;have a1:=tp _ _ (pL _ _ e1);have a2:=tp _ _ (pL _ _ e2);have a4:=tp _ _ (pL _ _ e4);have a3:Paired (LoopAt HX) ws ja:=Paired.Ax e3 λ_ _ z=>(z.tups (Al.of pL)).tups tp;have a5:Paired (Gz HX) zvs jn:=Paired.Ax e5 λ_ _ z=>(z.tups (Al.of pL)).tups tp;refine QN h0 h9 (Mv HX) (.inl ⟨True.intro,rq⟩) (.tup (tp _ _ (r1 _ _ k1)) (by decide)) (.tup (tp _ _ (r3 _ _ k3)) (by show 4≠3;decide)) (.inl ⟨.inl ⟨_,sb _ _ (r4 _ _ k4) n4⟩,by rw[Pa (sb _ _ (r4 _ _ k4) n4)];rfl⟩) (.inr ⟨t5,0,Ls,zs,rq,tp _ _ (r5 _ _ k5),.inl (by omega)⟩) (.inr ⟨t7,most,t6,zs,rq,tp _ _ (r7 _ _ k7),.inr ⟨pa.pok.mo,?_⟩⟩) (.inr ⟨t10,most,t8,t9,rq,tp _ _ (r10 _ _ k10),.inr ⟨pa.pok.mo,.inl ⟨[],tp _ _ (r8 _ _ k8),.inl rfl⟩⟩⟩) (.inr ⟨t15,most,Ls,t14,rq,tp _ _ (s16 _ _ k15),.inr ⟨pa.pok.mo,.inr ⟨ws,ja,a2,a3,lok,.inl ⟨zvs,jn,t12,tp _ _ (r14 _ _ k14),a5,zok,pa.pok.aO,t11,tp _ _ (r12 _ _ k12),tp _ _ (r11 _ _ k11)⟩⟩⟩⟩) (.inl ⟨True.intro,rq⟩);have a6:=tp _ _ (r6 _ _ k6);by_cases h3:3 < (ws++ws).length
  ·exact .inl ⟨_,a6,.inr h3⟩
  rw[QaV] at h3;refine .inr ⟨ws++ws,ja++ja,a6,Paired.app a3 a3,⟨λps hp=>?_,λx hx=>?_,?_,?_⟩,.inr ⟨zvs,jn,a4,a5,zok,pa.pok.aO,pa.pok.zdi,λnd=>?_⟩⟩
  ·rcases QbI.mp hp with h | h <;> exact pa.ok.ok ps h
  ·unfold Cg at hx;rw[QaP] at hx;rcases QbI.mp hx with h | h <;> exact pa.pok.bd x h
  ·rw[QaV];have:=pa.lo;omega
  ·rw[QaV];omega
  ·unfold Cg at nd;rw[QaP] at nd;have c1:=pa.pok.cnt.1;have:=(Qbu.mp nd).2.2;have h0:(Cg ja)[0]?=some (Cg ja)[0]:=Qan (by omega);have hm:=QaI h0;exact this _ hm _ hm rfl
 clear k1 k2 k3 k4 k5 k6 k7 k8 k10 k11 k12 k13 k14 k15 r14 r13 r12 r11 r10 r8 r7 r6 r5 r4 r3 r1 p2 p3 p4 p5 p6 p7 p10 p13 p15 s1 s2 s3 s4 s5 s6 s7 s8 s9 s10 s11 s12 s13 s14 s15 s16 ht1 ht2 hl4 ht5 ht7 ht8 ht9 D4 D3 D2 D0 DZ hlo;refine⟨_,rq,_,rq,b,n,9,rq,hbL,by omega,by decide,by decide,λr HX r0 r9 hbX sbX=>?_⟩;obtain⟨v,hv,nl⟩:=odd HX sbX r r0 r9;refine⟨lo,_,_,_,rq,rq,SqL.of (sbX _ _ k16 n16),hv,λx dx hx hdx ndx=>?_⟩;have s2:Same HX (upd (upd HX dx (.own x)) x (.ins C dx [])):=(Ad hdx _).trans (Ad (by rw[Am ndx.symm];exact hx) _);refine⟨x,dx,v,rq,Ab,nl.same s2,λH' s'=>?_⟩;refine⟨_,rq,Jj.xc,Jj.sub,λe he=>?_⟩;have s3:=Ad he (xo e c0);refine⟨_,rq,e,_,0,rq,Ab,Jj,by decide,λHB sB=>⟨rq,?_⟩⟩;have lU:=s2.trans (s'.trans (s3.trans sB));exact q HB (hbX.same lU) (((Ah.of pL).trans sbX).trans (Ah.of lU))
abbrev JM:Stmt:=top 68
abbrev yX:YF:=["_law_script"]
abbrev xn:YF:=["_law_script","_law_bag_here","_law_plan_here","_law_wires","_law_fresh","_law_told","_law_gates","_law_loop_here","_law_places","_law_wire_names","_law_k","_law_turn","_law_stretch","_law_end","_law_own"]
theorem Ej:Ay xn yX (Aj JM):=by ac_rfl
def Sg (s:Sp3):PyData:=.tuple [.int s.lp,.int s.at_,.int s.n]
def gtD (g:Gt):PyData:=.tuple [.int g.lp,.int g.at_]
theorem dZ {H:Hp}:∀{vs:YG} {gs:List Gt},Paired (Ei H) vs gs->LR H vs (gs.map gtD)
 | _,_,.nil=>.nil
 | _,_,.cons ⟨t,e,h1⟩ r=>by
  subst e;exact .cons (.tup h1 (.cons (.int _) (.cons (.int _) .nil))) (dZ r)
theorem jJ:∀gs:List Gt,PyData.canLayAll0 (gs.map gtD)=true/\PyData.depthAll (gs.map gtD)<=2
 | []=>⟨rfl,by show 0<=2;decide⟩
 | d::r=>by
  have ih:=jJ r;refine⟨?_,?_⟩
  ·show ((true&&(true&&true))&&PyData.canLayAll0 (r.map gtD))=true;rw[ih.1];rfl
  ·show max (max 0 (max 0 0)+1) (PyData.depthAll (r.map gtD))<=2;exact Nat.max_le.mpr ⟨by decide,ih.2⟩
theorem Xf (gs:List Gt):SeqAt.shaped (.list (gs.map gtD))=true:=by
 have h1:=jJ gs;show (PyData.canLayAll0 (gs.map gtD)&&decide (PyData.depthAll (gs.map gtD)+1<=64))=true;rw[h1.1,Bool.true_and];exact QbX (by omega)
theorem Od {H:Hp}:∀{vs:YG} {ss:YV},Paired (CN H) vs ss->LR H vs (ss.map Sg)
 | _,_,.nil=>.nil
 | _,_,.cons ⟨t,e,h1⟩ r=>by
  subst e;exact .cons (.tup h1 (.cons (.int _) (.cons (.int _) (.cons (.int _) .nil)))) (Od r)
theorem jm:∀ss:YV,PyData.canLayAll0 (ss.map Sg)=true/\PyData.depthAll (ss.map Sg)<=2
 | []=>⟨rfl,by show 0<=2;decide⟩
 | d::r=>by
  have ih:=jm r;refine⟨?_,?_⟩
  ·show ((true&&(true&&(true&&true)))&&PyData.canLayAll0 (r.map Sg))=true;rw[ih.1];rfl
  ·show max (max 0 (max 0 (max 0 0))+1) (PyData.depthAll (r.map Sg))<=2;exact Nat.max_le.mpr ⟨by decide,ih.2⟩
theorem Jp (ss:YV):SeqAt.shaped (.list (ss.map Sg))=true:=by
 have h1:=jm ss;show (PyData.canLayAll0 (ss.map Sg)&&decide (PyData.depthAll (ss.map Sg)+1<=64))=true;rw[h1.1,Bool.true_and];exact QbX (by omega)
def sdD (d:Sd):PyData:=.tuple [.tuple [.int d.lp,.int d.at_,.int d.n],.str d.kind,.int d.addr]
theorem Vk {H:Hp}:∀{vs:YG} {ds:List Sd},Paired (Kh H) vs ds->LR H vs (ds.map sdD)
 | _,_,.nil=>.nil
 | _,_,.cons ⟨t,u,e,h1,h2⟩ r=>by
  subst e;exact .cons (.tup h1 (.cons (.tup h2 (.cons (.int _) (.cons (.int _) (.cons (.int _) .nil)))) (.cons (.str _) (.cons (.int _) .nil)))) (Vk r)
theorem jr:∀{ds:List Sd},(∀d∈ds,Fg d.kind)->PyData.canLayAll0 (ds.map sdD)=true/\PyData.depthAll (ds.map sdD)<=2
 | [],_=>⟨rfl,by show 0<=2;decide⟩
 | d::r,h=>by
  have ih:=jr (ds:=r) λx hx=>h x (QaJ _ hx);refine⟨?_,?_⟩
  ·show (((true&&(true&&(true&&true)))&&(PyData.canLay0 (.str d.kind)&&(true&&true)))&&PyData.canLayAll0 (r.map sdD))=true;rw[Vy (h d QaW),ih.1];rfl
  ·show max (max (max 0 (max 0 (max 0 0))+1) (max 0 (max 0 0))+1) (PyData.depthAll (r.map sdD))<=2;exact Nat.max_le.mpr ⟨by decide,ih.2⟩
theorem Q5 {ds:List Sd} (h:∀d∈ds,Fg d.kind):SeqAt.shaped (.list (ds.map sdD))=true:=by
 have h1:=jr h;show (PyData.canLayAll0 (ds.map sdD)&&decide (PyData.depthAll (ds.map sdD)+1<=64))=true;rw[h1.1,Bool.true_and];exact QbX (by omega)
theorem gJ (lp a:Int) {ds:List Dev} (h:∀d∈ds,Fg d.kind):∀n,∀d∈DQ lp a n ds,Fg d.kind:=by
 induction ds with
 | nil=>intro n d hd;cases hd
 | cons x r ih=>
  intro n d hd;rcases Qcd.mp hd with rfl | hd
  ·exact h x QaW
  ·exact ih (λy hy=>h y (QaJ _ hy)) (n+1) d hd
theorem yw {ja:YU} (ok:Dj ja):∀d∈up (pdL ja) ja.length,Fg d.kind:=λd hd=>by
 obtain⟨k,hk,hd⟩:=Ec hd;obtain⟨ps,hps,hd⟩:=FZ hd;obtain⟨i,hi,hd⟩:=Ec hd;obtain⟨p,hp,hd⟩:=FZ hd;have okp:=(ok.ok ps (QaI hps)).ok p (QaI hp);unfold BR at hd;split at hd
 ·cases hd
 ·rename_i hop;rcases Qcd.mp hd with rfl | hd
  ·rcases okp.form with⟨e,_⟩| h
   ·exact absurd (by rw[e]) hop
   ·exact h
  ·exact gJ _ _ okp.kinds 1 d hd
def gtX (ja:YU) (k:Nat):List Gt:=ifs ja[k]? λps=>[⟨(k:Int),0⟩,⟨(k:Int),(ps.length:Int)+1⟩]++up (gt1 k ps) ps.length
theorem jK {ja:YU} {g:Gt}:g∈up (gtX ja) ja.length ↔ g∈up (gtL ja) ja.length:=by
 have h:∀k,g∈gtX ja k ↔ g∈gtL ja k:=λk=>by
  unfold gtX gtL;cases ja[k]? with
  | none=>exact Iff.rfl
  | some ps=>
   show g∈[⟨(k:Int),0⟩,⟨(k:Int),(ps.length:Int)+1⟩]++up (gt1 k ps) ps.length ↔ g∈(⟨k,0⟩::up (gt1 k ps) ps.length)++[⟨k,(ps.length:Int)+1⟩];simp only[QbI,Qcd,QbB,QcG];constructor
   ·rintro ((h | h) | h)
    ·exact .inl (.inl h)
    ·exact .inr h
    ·exact .inl (.inr h)
   ·rintro ((h | h) | h)
    ·exact .inl (.inl h)
    ·exact .inr h
    ·exact .inl (.inr h)
 constructor
 ·intro z;obtain⟨k,hk,z⟩:=Ec z;exact TJ ((h k).mp z) hk
 ·intro z;obtain⟨k,hk,z⟩:=Ec z;exact TJ ((h k).mpr z) hk
theorem A0 {ja:YU} (ok:Dj ja) (k:Nat):(gtX ja k).length<=14:=by
 unfold gtX;cases e:ja[k]? with
 | none=>exact Qcw _
 | some ps=>
  have o:=ok.ok ps (QaI e);have:=DP (f:=gt1 (k:Int) ps) (c:=1) QH ps.length;have:=o.hi;show (_::_::_).length<=14;rw[Qbz,Qbz];show (up (gt1 k ps) ps.length).length+1+1<=14;omega
def dvS (ja:YU):YV:=(up (pdL ja) ja.length).map Sd.spot
theorem YZ {ja:YU} {k:Nat} {ps:List Place} (hps:ja[k]?=some ps) (e:Str):CZ k ps.length e∈up (gtL ja) ja.length:=by
 refine TJ (i:=k) ?_ (Qai.mp hps).1;unfold gtL;rw[CQ hps];unfold CZ;split
 ·exact QaK _ (QaW ..)
 ·exact QaD _ (QaW ..)
theorem GT {ja:YU} (ok:Dj ja) {s:Sp3} (h:s∈dvS ja):∃(j:Nat) (ps:List Place) (x m:Int),ja[j]?=some ps/\s=⟨(j:Int),x,m⟩/\DvL ps x m:=by
 have h':=h;obtain⟨d,hd,rfl⟩:=Qcl.mp h;obtain⟨j,hj,hd⟩:=Ec hd;have e:=(Y8 ok hd).1;have hps:ja[j]?=some ja[j]:=Qan hj;have es:d.spot=⟨(j:Int),d.at_,d.n⟩:=by
  show (⟨d.lp,d.at_,d.n⟩ : Sp3)=_;rw[e]
 rw[es] at h' ⊢;exact⟨j,_,_,_,hps,rq,(dF hps).mp h'⟩
theorem yu {ja:YU} (ok:Dj ja):((dvS ja).map cd3).Pairwise (· < ·):=by
 unfold dvS;rw[Qcp];exact fG ok
theorem WAt.fr {C:Addr} {H H':Hp} {p pl d1 d2 d3:Addr} {hs:YR} {fl:YQ} {gs:YT} (R:WAt C H p pl d1 d2 d3 hs fl gs) (t:Al H H') (f0:∀o,H p=some o->H' p=some o) (f1:∀o,H d1=some o->H' d1=some o) (f2:∀o,H d2=some o->H' d2=some o) (f3:∀o,H d3=some o->H' d3=some o):WAt C H' p pl d1 d2 d3 hs fl gs:=by
 obtain⟨dx,e⟩:=R.ins;obtain⟨kvs,e2,e3⟩:=R.fi;exact⟨⟨dx,f0 _ e⟩,f1 _ R.st,⟨kvs,f2 _ e2,Paired.Ax e3 λ_ _ z=>z.tups t⟩,R.nd1,R.nd2,R.l1,R.l2,f3 _ R.gp,R.nd3,R.l3,R.n13,R.n23⟩
theorem pY {ja:YU} {j:Nat} {ps:List Place} {gs:YT} (oks:Dj ja) (hps:ja[j]?=some ps) (hg:∀g,gpC gs g=false) {e:Str} (he:e="A"\/e="B") {s:Sp3}:s∈NP (hs0 ja) gs (fl0 ja) j ps.length e ↔ s∈dvS ja/\s.lp=(j:Int):=by
 constructor
 ·intro h;obtain⟨_,_,h1,h2⟩:=VD.mp h;obtain⟨i,_,_,h3⟩:=Rr.mp h1;exact⟨eY.mp h2,(Mx.mp h3).1⟩
 ·rintro ⟨h1,h2⟩;obtain⟨i,qs,x,m,hi,rfl,dv⟩:=GT oks h1;have h2:(i:Int)=(j:Int):=h2;have:i=j:=by omega
  subst this;rw[hps] at hi;cases hi;have ok:=oks.ok ps (QaI hps);have nc:∀{a n:Int},InL ps a n->¬stC (hs0 ja) ⟨i,a,n⟩="cut":=λh=>by
   rw[<-Uc ja ⟨0,0,0⟩];exact uE hps (by decide) h
  have ns:∀st a,cS (hs0 ja) gs i st 16 a=false:=λst a=>by
   unfold cS;rw[<-Uc ja ⟨0,0,0⟩];exact Vx (by decide) _
  have il:=dv.in_.lo;rcases he with rfl | rfl
  ·exact (Gr hps ok dv).mpr ⟨hg _,ns _ _,λy h1 h2=>nc (DJ.mpr ⟨h1,by omega⟩),λy _ _=>hg _,λt h1 h2=>nc (dv.in_.less h1 h2)⟩
  ·exact (Go hps ok dv).mpr ⟨hg _,ns _ _,λy h1 h2=>nc (DJ.mpr ⟨by omega,h2⟩),λy _ _=>hg _,λt h1 h2=>nc (dv.in_.less h1 h2)⟩
def vQ (ja:YU) (j:Nat):YV:=(dvS ja).filter λs=>decide (s.lp=(j:Int))
theorem jA {ja:YU} {j:Nat} {ps:List Place} {gs:YT} (oks:Dj ja) (hps:ja[j]?=some ps) (hg:∀g,gpC gs g=false) {e:Str} (he:e="A"\/e="B") {L:YV} (pm:L.Perm (NP (hs0 ja) gs (fl0 ja) j ps.length e)) (rL:(L.map cd3).Pairwise (· < ·)):L=vQ ja j:=by
 refine cC rL (List.Pairwise.sublist (List.Sublist.map _ List.filter_sublist) (yu oks)) λs=>?_;unfold vQ;rw[pm.mem_iff,pY oks hps hg he,QbQ,Qbf]
theorem pK {ja:YU} (gs:YT) (g:Gt):gpC (DX (hs0 ja) gs) g=false:=uW.mpr λh=>by
 rw[<-Uc ja ⟨0,0,0⟩,jC (by decide)] at h;cases h.2
theorem xY (ja:YU) (g:Gt):gpC (gs0 ja) g=false:=by
 unfold gpC;cases e:(gs0 ja).find? λx=>decide (x.1=g) with
 | none=>rfl
 | some y=>
  have hy:=List.mem_of_find?_eq_some e;unfold gs0 at hy;obtain⟨d,_,rfl⟩:=Qcl.mp hy;rfl
def Ze (hs:YR) (L:YV):Prop:=∀x∈hs,x.1∈L->x.2="whole"
theorem Ze.set {hs:YR} {L:YV} (h:Ze hs L) (s:Sp3):Ze (GD hs s "whole") (L++[s]):=λx hx hl=>by
 unfold GD at hx;obtain⟨y,hy,rfl⟩:=Qcl.mp hx;by_cases e:y.1=s
 ·rw[if_pos e]
 ·rw[if_neg e] at hl ⊢;rcases QbI.mp hl with hl | hl
  ·exact h y hy hl
  ·exact absurd (by simpa using hl) e
theorem Ze.hs0 {ja:YU} {hs:YR} {L:YV} (h:Ze hs L) (k1:hs.map (·.1)=up (stL ja) ja.length) (hL:∀s∈up (stL ja) ja.length,s∈L):hs=hs0 ja:=by
 have e:hs=(hs.map (·.1)).map λs=>(s,("whole":Str)):=by
  rw[Qcp]
  conv=>lhs;rw[<-List.map_id hs]
  refine QaQ λx hx=>?_;have hx1:x.1∈up (stL ja) ja.length:=by rw[<-k1];exact Qcl.mpr ⟨x,hx,rq⟩
  show x=(x.1,("whole":Str));rw[<-h x hx (hL _ hx1)]
 rw[e,k1];rfl
theorem su (xs:YG) (n:Nat):Hu xs none (some (n:Int))=xs.take n:=by
 unfold Hu;rw[HT.Rb,HT.T6,List.drop_zero,Nat.sub_zero];by_cases h:n<=xs.length
 ·rw[Nat.min_eq_left h]
 ·rw[Nat.min_eq_right (by omega),Qby,List.take_of_length_le (by omega)]
theorem sy {xs:YG} {k:Nat} (h:k<=xs.length):Hu xs (some (k:Int)) none=xs.drop k:=by
 unfold Hu;rw[HT.T6,HT.Rb,Nat.min_eq_left h,List.take_of_length_le (by rw[QbD];omega)]
structure LS (C:Addr) (H:Hp) (b p t d1 d2 d3 q e1 e2 e3 lt lw lg:Addr) (n:Nat) (most:Int) (ja:YU) (jn:List Zone) (hs:YR) (gs:YT):Prop where
 tr:TR C H b p t d1 d2 d3 lt lw lg n ja hs (fl0 ja) gs
 w2:WAt C H q t e1 e2 e3 (hs0 ja) (fl0 ja) (gs0 ja)
 pa:GF H t most ja jn
 x:∀c,c=q\/c=e1\/c=e2\/c=e3->c≠b/\c≠d1/\c≠d2/\c≠d3
section
variable {C:Addr} {H H':Hp} {b p t d1 d2 d3 q e1 e2 e3 lt lw lg:Addr} {n n':Nat} {most:Int} {ja:YU} {jn:List Zone} {hs hs':YR} {gs gs':YT}
theorem LS.step (L:LS C H b p t d1 d2 d3 q e1 e2 e3 lt lw lg n most ja jn hs gs) (tr:TR C H' b p t d1 d2 d3 lt lw lg n' ja hs' (fl0 ja) gs') (s:Al H H') (ff:FrT b d1 d2 d3 H H'):LS C H' b p t d1 d2 d3 q e1 e2 e3 lt lw lg n' most ja jn hs' gs':=by
 have k:∀c,c=q\/c=e1\/c=e2\/c=e3->∀o,H c=some o->H' c=some o:=λc h o e=>by
  obtain⟨n0,n1,n2,n3⟩:=L.x c h;exact ff _ _ e n0 n1 n2 n3
 exact⟨tr,L.w2.fr s (k _ (.inl rfl)) (k _ (.inr (.inl rfl))) (k _ (.inr (.inr (.inl rfl)))) (k _ (.inr (.inr (.inr rfl)))),L.pa.tups s,L.x⟩
theorem LS.same (L:LS C H b p t d1 d2 d3 q e1 e2 e3 lt lw lg n most ja jn hs gs) (s:Same H H'):LS C H' b p t d1 d2 d3 q e1 e2 e3 lt lw lg n most ja jn hs gs:=L.step (L.tr.same s) (Al.of s) (FrT.of s)
theorem LS.drawn (L:LS C H b p t d1 d2 d3 q e1 e2 e3 lt lw lg n most ja jn hs gs) (s:Ah b H H') (hb:Bu H' b n'):LS C H' b p t d1 d2 d3 q e1 e2 e3 lt lw lg n' most ja jn hs gs:=L.step (L.tr.drawn s hb) (s.tup L.tr.bag.DG) λc o e n1 _ _ _=>s _ _ e n1
theorem LS.Da {c:Addr} (L:LS C H b p t d1 d2 d3 q e1 e2 e3 lt lw lg n most ja jn hs gs) (s:Same H H') (hb:H c=none) (bag:Bu H' c n'):LS C H' c p t d1 d2 d3 q e1 e2 e3 lt lw lg n' most ja jn hs gs:=by
 have L':=L.same s;obtain⟨_,x1,_⟩:=L.tr.tl;obtain⟨_,y1,_⟩:=L.tr.wn;obtain⟨_,_,z1,_⟩:=L.tr.gv;obtain⟨dx,q0⟩:=L.w2.ins;obtain⟨_,q2,_⟩:=L.w2.fi;refine⟨⟨bag,L'.tr.wi,L'.tr.ok,L'.tr.lo,L'.tr.dv1,L'.tr.n12,L'.tr.k1,L'.tr.k2,L'.tr.k3,L'.tr.tl,L'.tr.wn,L'.tr.gv,⟨Aq x1 hb,Aq y1 hb,Aq z1 hb⟩⟩,L'.w2,L'.pa,λz hz=>⟨?_,(L.x z hz).2⟩⟩;rcases hz with rfl | rfl | rfl | rfl
 ·exact Aq q0 hb
 ·exact Aq L.w2.st hb
 ·exact Aq q2 hb
 ·exact Aq L.w2.gp hb
theorem LS.f30 (L:LS C H b p t d1 d2 d3 q e1 e2 e3 lt lw lg n most ja jn hs gs):(fl0 ja).length<=30/\(dvS ja).length<=30:=by
 have c2:=L.pa.pok.cnt.2;have la:(up (pdL ja) ja.length).length=(Cg ja).length:=by rw[<-Ho ja,QbH]
 unfold fl0 dvS;rw[QbH,QbH];omega
theorem LS.bf (L:LS C H b p t d1 d2 d3 q e1 e2 e3 lt lw lg n most ja jn hs gs):∀s∈(fl0 ja).map (·.1),Bd3 s:=by
 rw[Oa];intro s hs;obtain⟨x,hx,rfl⟩:=Qcl.mp hs;exact ER L.tr.ok x hx
end
theorem yO (ja:YU):Jo (fl0 ja)=up (pdL ja) ja.length:=by
 unfold Jo fl0;rw[List.filterMap_map];show (up (pdL ja) ja.length).filterMap some=_;exact List.filterMap_some
abbrev xp:YF:=["_law_spot","_law_kind_here","_law_address","_law_loop_here"]
abbrev yk:YF:=["_law_at","_law_loop_here","_law_places"]
theorem CY {f:Addr} {fd:FuncData} (F:Fun K "law" "law" JM f fd) (T:Tw K mg op oe kd wk C) (Ul:⋯ "_law_bag" 1 QD (lK K)) (Bl:⋯ "_law_take" 1 Gb KH) (yd:⋯ "_law_plan" 4 Ow bH) (Zz:oN P w K mg base C 11 Di (Yb C)) (au:⋯ "_law_stretches" 1 Hw XQ) (eF:⋯ "_law_troubled" 6 Jh (uK C)) (iB:⋯ "_law_refused" 13 JC (lG C))
  (Zx:BX P w K mg base C "there" 1 Hz (XM C)) (VG:BX P w K mg base C "mend" 4 G8 (Pb C "whole")) (A5:BX P w K mg base C "how" 4 JF (pA C)) (Ke:BX P w K mg base C "come_to_rest" 5 Dl (T4 C)) (nM:BX P w K mg base C "parted" 1 G7 (Vh C)) (Zy:BX P w K mg base C "heard" 3 HN (jo C)):Hi P w K mg base CX0 14 f fd yX (Wf K):=by
 have sc:=Ej;refine F.ok Ej (by nofun) λ_ _ _ _ H vs Q E hr h=>?_
 obtain⟨sa,ns,rfl,hS,h63,q⟩:=h;refine⟨_,(Ae (1∪Ej∪(BP Ul hr (Aa (pv 0) (Aa Af Ac))))
 (Ae (2∪Ej∪(CW yd hr (Aa (pv 1) (Aa Af (Aa Af Ac)))))
 (Ae (GZ (Bb (Aa (yW Zz hr T.mgC (Aa (pv 2) Ac)) (Aa (yW Zz hr T.mgC (Aa (pv 2) Ac)) Ac))) (CK rfl (Ak (Ai (i:=3) Ej.nd rfl (Or.inr rfl)) (Ak (4∣Ej) Bo))))
 (Ae (5∪Ej∪(Wt (pv 4) T.cl Zx hr))
 (Ae (6∪Ej∪(BZ Ac))
 (Ae (Cj QbK rfl (Dd rfl T.range (Aa (Aw Bh rfl T.len CJ (Aa (Bj Bw (pv 2) Af (λ_ _=>rfl)) Ac)) Ac)) (Ai (i:=7) Ej.nd rfl (Or.inr rfl))
 (Ae (Ba (i:=8) Ej.nd rfl (Or.inr rfl) (Bj Bw (Bj Bw (pv 2) Af (λ_ _=>rfl)) (pv 7) (λ_ _=>rfl)))
 (Ae (Bc (Cy Qas Qaq Qar Fe (pv 6) (Aa (BZ (Aa (Bb (Aa (pv 7) (Aa Af Ac))) (Aa (Bb (Aa (pv 7) (Aa (Bf CG (Aw Bh rfl T.len CJ (Aa (pv 8) Ac)) Af) Ac))) Ac))) Ac)))
 (Ag (Bc (Cy Qas Qaq Qar Fe (pv 6) (Aa (Cw (N':=yk) rfl ([none,some 7,some 8]|||(Aj JM)|||xn) (Dd rfl T.range (Aa (Aw Bh rfl T.len CJ (Aa (pv 8) Ac)) Ac)) (~~~(0∩yk)) (~~~(G3 (Br Js (Bj (QG (K:=K) rfl) (Bj (QG (K:=K) rfl) (pv 2) (pv 0) (λ_ _=>rfl)) Af (λ_ _=>rfl)) Bd (Bv _)))) (~~~(Bb (Aa (pv 1) (Aa (Bf CG (pv 0) Af) Ac))))) Ac)))))))
 (Ae (9∪Ej∪(BJ au hr (Aa (pv 2) Ac)))
 (Ae (Cj QbK rfl (Dd rfl T.range (Aa (Aw (sO rfl) rfl T.max fW (Aa Af (Aa (Aw (PJ rfl) rfl T.min Xm (Aa Af (Aa (Aw Bh rfl T.len CJ (Aa (pv 0) Ac)) Ac))) Ac))) Ac)) (10∣Ej)
 (Ae (1∪Ej∪(BP Ul hr (Aa (pv 0) (Aa (pv 10) Ac))))
 (Ae (Bc (pX eF hr (@Aa _ _ _ _ _ (pv 1) (@Aa _ _ _ _ _ (pv 3) (@Aa _ _ _ _ _ (pv 5) (@Aa _ _ _ _ _ (pv 9) (@Aa _ _ _ _ _ (pv 6) (@Ac _) Qx) Qx) Qx) Qx) Qx)))
 (Ae (11∪Ej∪(BP Bl hr (Aa (pv 1) (Aa (Aw Bh rfl T.len CJ (Aa (pv 9) Ac)) Ac))))
 (Ae (Cj QbK rfl (Dc (Bf cQ (Je Yd (pv 9) (Kr (pv 11)) Ks) (Je Yd (pv 9) Ks (Kr (pv 11))))) (12∣Ej)
 (Ag (Bc (Iv (pv 3) T.cl VG hr (Aa (pv 12) Ac)))))
 (Ae (Bc (Wt (pv 3) T.cl Ke hr))
 (Ae (Ce (PW.pt (Jr (Br (Wy hr.units) (Wt (pv 3) T.cl nM hr) (BZ Ac) (Bv _)) (Jr (Br (Wy hr.units) (Wt (pv 3) T.cl Zx hr) (pv 5) (Bv _)) (Jz (Dp (Cz (BP iB hr (Aa (pv 1) (Aa (pv 2) Ac))))))))) (Ag (Az DY)) Bt)
 (Ae (Ce (Cz (Aw (fU rfl) rfl T.any tO (Aa (Cw (N':=["_law_stretch","_law_wires"]) rfl ([none,some 3]|||(Aj JM)|||xn) (Dc (pv 9)) (~~~(Ai (i:=0) (show List.Nodup (["_law_stretch","_law_wires"]:YF) by trivial) rfl (Or.inl rfl))) (λ_ _ _ _=>CT) (~~~(G4 Wz (Iv (pv 1) T.cl A5 hr (Aa (pv 0) Ac)) Bd (Bv _)))) Ac))) (Ag (Az DY)) Bt)
 (Ag (Cj QbK rfl (Dd rfl T.range (Aa (Aw Bh rfl T.len CJ (Aa (Bj Bw (pv 2) Af (λ_ _=>rfl)) Ac)) Ac)) (Ai (i:=7) Ej.nd rfl (Or.inr rfl))
 (Ag (Cj QbK rfl (Ga (Bb (Aa Bd (Aa Bd Ac)))) (13∣Ej)
 (Ae (T9 (i:=14) Ej.nd rfl (Or.inl rfl) (N':=xp) rfl ([none,none,none,some 7]|||(Aj JM)|||xn) (Dc (pv 5)) (~~~(FW (K:=K) (n:=3) rfl rfl (Ak (0∩xp) (Ak (1∩xp) (Ak (2∩xp) Bo))))) (~~~(G3 (Br Js (Bj (QG (K:=K) rfl) (pv 0) Af (λ_ _=>rfl)) (pv 3) (Bv _)))) (~~~(pv 0)))
 (Ag (Ce (PW.pt (Jr (Br (Wy hr.units) (yV (pv 3) T.cl Zy hr (Aa (pv 7) (Aa (pv 13) Ac))) (pv 14) (Bv _)) (Jz (Br (Wy hr.units) (yV (pv 4) T.cl Zy hr (Aa (pv 7) (Aa (pv 13) Ac))) (pv 14) (Bv _))))) (Ag (Az DY)) Bt)))))))))))))))
 (Ag (Az DY)))))))))),?_⟩
 show let R0:TS:=_;let R1:TS:=Ao _ R0;let R2:TS:=Dq _ _ R1;let R3:TS:=Dq _ _ R2;let R4:TS:=Ao _ R3;let R5:TS:=Ao _ R4;let R6:TS:=Ao _ R5;let R7:TS:=_;let R8:TS:=Ao (Dq _ _ R7) R6;let R9:TS:=Ao _ R8;let R10:TS:=Ao _ R9;let R11:TS:=Ao _ R10;let R12:TS:=Ao (Dq _ _ R11) _;let R13:TS:=Ao _ R12;let R14:TS:=_;let R15:TS:=Ao _ R14;let R16:TS:=Ao _ R15;let R17:TS:=Ao (Dq _ _ R16) R13;let R18:TS:=Ao _ R17;let R19:TS:=Ao _ R18;let R20:TS:=Ao _ R19;let R21:TS:=Ao _ R20;Ao _ R21 _ _ _;intro R0 R1 R2 R3 R4 R5 R6 R7 R8 R9 R10 R11 R12 R13 R14 R15 R16 R17 R18 R19 R20 R21;refine⟨_,rq,sa,ns,0,rq,hS,h63,by decide,by decide,λb0 o hb0 hb=>?_⟩;have sb0:=Ad hb0 o;generalize upd H b0 o=H0 at *;refine⟨_,rq,b0,0,3,12,rq,hb,by omega,by omega,by omega,by omega,by omega,λt Ls zs vs zvs ja jn most H1 e1 e2 e3 e4 e5 e6 e7 e8 e9 hb1 sb1=>?_⟩;have ok:Dj ja:=⟨e4,e6⟩;have pa:GF H1 t most ja jn:=⟨⟨Ls,zs,vs,zvs,e1,e2,e3,e7,e8⟩,ok,e5,e9⟩;have s1:Same H H1:=sb0.Bp sb1 hb0;clear sb1 e4 e7 e8;have lw:=Qcc e3;have l3:=ok.hi;refine⟨_,rq,λp dx hp hdx ndx=>?_⟩;have s2:Same H1 (upd (upd H1 dx (.own p)) p (.ins C dx [])):=(Ad hdx _).trans (Ad (by rw[Am ndx.symm];exact hp) _);have hpx:(upd (upd H1 dx (.own p)) p (.ins C dx [])) p=some (.ins C dx []):=Ab;generalize upd (upd H1 dx (.own p)) p (.ins C dx [])=Hx at *;refine⟨p,dx,t,most,ja,jn,rq,hpx,pa.same s2,λd1 d2 d3 H3 f1 f2 f3 n12 W1 sb=>⟨rq,?_⟩⟩;have s3:Same H1 H3:=s2.Bp sb hp;have fd1:H d1=none:=(s1.trans s2).free f1;have fd3:H d3=none:=(s1.trans s2).free f3;have fd2:H d2=none:=(s1.trans s2).free f2;have pa3:=pa.same s3;clear f1 f2 f3 sb hpx s2 hp hdx ndx;refine⟨_,rq,λp2 dy hp2 hdy ndy=>?_⟩;have s4:Same H3 (upd (upd H3 dy (.own p2)) p2 (.ins C dy [])):=(Ad hdy _).trans (Ad (by rw[Am ndy.symm];exact hp2) _);have hpy:(upd (upd H3 dy (.own p2)) p2 (.ins C dy [])) p2=some (.ins C dy []):=Ab;generalize upd (upd H3 dy (.own p2)) p2 (.ins C dy [])=Hy at *;refine⟨p2,dy,t,most,ja,jn,rq,hpy,pa3.same s4,λc1 c2 c3 H5 g1 g2 g3 m12 W2 sb=>⟨rq,?_⟩⟩;have s5:Same H3 H5:=s4.Bp sb hp2;have W1y:=W1.same s4;obtain⟨kvy,w2y,_⟩:=W1y.fi;have x1:d1≠c1/\d1≠c2/\d1≠c3:=⟨Aq W1y.st g1,Aq W1y.st g2,Aq W1y.st g3⟩;have x3:d3≠c1/\d3≠c2/\d3≠c3:=⟨Aq W1y.gp g1,Aq W1y.gp g2,Aq W1y.gp g3⟩;have x2:d2≠c1/\d2≠c3:=⟨Aq w2y g1,Aq w2y g3⟩;have X22:c2≠d2:=(Aq w2y g2).symm;have fc1:H c1=none:=((s1.trans s3).trans s4).free g1;have fc3:H c3=none:=((s1.trans s3).trans s4).free g3;have W15:=W1.same s5;have sH5:=(s1.trans s3).trans s5;have hb5:=hb1.same (s3.trans s5);have pa5:=pa3.same s5;clear g1 g2 g3 sb hpy hp2 hdy ndy;refine⟨ke,λtt htt=>⟨tt,_,rq,SqT.of Ab,rq,_,_,rq,_,_,rq,rq,?_⟩⟩;have s6':=Ad htt (.tup [.ref p,.ref p2]);generalize upd H5 tt (.tup [.ref p,.ref p2])=H6' at *;have W26:=W2.same s6';obtain⟨dx6,hp6⟩:=W26.ins;refine⟨_,rq,p2,dx6,_,rq,hp6,fno (by trivial),p2,t,c1,c2,c3,hs0 ja,fl0 ja,gs0 ja,rq,W26,λlt xt H6 flt hlt plt IA=>?_⟩;rw[yO] at plt;have nlt:lt≠b0:=((hb5.same s6').nb flt).symm;have s6:=s6'.trans IA;refine⟨js,λlv hlv=>?_⟩;have nvb:lv≠b0:=((hb5.same s6).nb hlv).symm;have s7:=Ad hlv (.lst []);have s57:=s6.trans s7;have sP:Same H1 (upd H6 lv (.lst [])):=(s3.trans s5).trans s57;refine⟨_,rq,t,_,_,_,rq,rq,SqT.of (sP _ _ e1),rq,Ls,_,rq,.inr (SqT.of (sP _ _ e2)),_,rq,by omega,by omega,?_⟩;rw[Qbo];have o200:∀k,k<=ja.length->(up (gtX ja) k).length<=42:=λk hk=>by
  have:=DP (f:=gtX ja) (c:=14) (A0 ok) k;omega
 let J0:YN:=λk U HH=>∃(u6 u7:Option V),U=[jp sa,jp b0,jp t,jp p,jp p2,jp lt,jp lv,u6,u7,none,none,none,none,none,none]/\(∃xs,HH lv=some (.lst xs)/\Paired (Ei HH) xs (up (gtX ja) k))/\Same H6 HH;refine Fi J0 ⟨_,_,rq,⟨[],Ab,.nil⟩,s7⟩ (λk U HH hk h=>?_) (fun U HH h=>?_)
 ·obtain⟨u6,u7,rfl,⟨xs,a1,a2⟩,sm⟩:=h;have smP:Same H1 HH:=((s3.trans s5).trans s6).trans sm;have hwk:vs[k]?=some vs[k]:=Qan hk;obtain⟨ps,hps,tp,vs',ev,ht,hpp⟩:=Paired.Ck e3 hwk;have lv':=Qcc hpp;have l12:=(ok.ok ps (QaI hps)).hi;have hkl:k < ja.length:=by omega
  have egt:gtX ja k=[⟨(k:Int),0⟩,⟨(k:Int),(ps.length:Int)+1⟩]++up (gt1 k ps) ps.length:=CQ hps;have VF:atI vs ((0:Int)+(k:Int))=some (.ref tp):=by rw[Qcr];exact Fq (by rw[hwk,ev])
  have lx:=Qcc a2;have l42:=o200 k (by omega);have lgt:(up (gt1 (k:Int) ps) ps.length).length<=12:=by
   have:=DP (f:=gt1 (k:Int) ps) (c:=1) QH ps.length;omega
  refine⟨_,rq,t,_,_,_,rq,rq,SqT.of (smP _ _ e1),rq,_,rq,Ls,_,_,_,rq,rq,SqT.of (smP _ _ e2),VF,?_⟩;refine⟨_,rq,.inl ⟨rq,_,SqL.of a1⟩,_,rq,ke,λta hta=>?_⟩;rw[Qcr];have b1:=Ad hta (.tup [.int (k:Int),.int 0]);refine⟨_,rq,_,rq,tp,_,rq,.inr (SqT.of (b1 _ _ (smP _ _ ht))),_,_,rq,rq,ke,λtb htb=>?_⟩;rw[lv'];have b2:=Ad htb (.tup [.int (k:Int),.int ((ps.length:Int)+1)]);refine⟨ke,λl2 hl2=>?_⟩;have b3:=Ad hl2 (.lst [.ref ta,.ref tb]);have b13:=b1.trans (b2.trans b3);have nl2:lv≠l2:=Aq (b2 _ _ (b1 _ _ a1)) hl2;refine⟨lv,l2,_,_,rq,rq,b13 _ _ a1,Ab,Av (by show xs.length+2<=1000;omega),?_⟩;have DV:=b3 _ _ (b2 _ _ (Ab (H:=HH) (a:=ta) (o:=.tup [.int (k:Int),.int 0])));have DU:=b3 _ _ (Ab (H:=upd HH ta (.tup [.int (k:Int),.int 0])) (a:=tb) (o:=.tup [.int (k:Int),.int ((ps.length:Int)+1)]));have a13:=b13 _ _ a1;generalize upd (upd (upd HH ta (.tup [.int (k:Int),.int 0])) tb (.tup [.int (k:Int),.int ((ps.length:Int)+1)])) l2 (.lst [.ref ta,.ref tb])=HB at *;have ntl:∀zs,HB lv≠some (.tup zs):=λzs z=>by rw[a13] at z;cases z
  have sL:=Al.upd (o:=.lst (xs++[.ref ta,.ref tb])) ntl;have p2':Paired (Ei (upd HB lv (.lst (xs++[.ref ta,.ref tb])))) (xs++[.ref ta,.ref tb]) (up (gtX ja) k++[⟨(k:Int),0⟩,⟨(k:Int),(ps.length:Int)+1⟩]):=Paired.app (Paired.Ax a2 λ_ _ z=>(z.tups (Al.of b13)).tups sL) (.cons ⟨ta,rq,sL _ _ DV⟩ (.cons ⟨tb,rq,sL _ _ DU⟩ .nil));have hl2':(upd HB lv (.lst (xs++[.ref ta,.ref tb]))) lv=some (.lst (xs++[.ref ta,.ref tb])):=Ab;have sm2:Same H6 (upd HB lv (.lst (xs++[.ref ta,.ref tb]))):=(sm.trans b13).Bp Ah.upd hlv;generalize upd HB lv (.lst (xs++[.ref ta,.ref tb]))=H2 at *;clear b1 b2 b3 b13 DV DU a13 ntl sL hta htb hl2 nl2 smP;have smQ:Same H1 H2:=((s3.trans s5).trans s6).trans sm2;refine⟨_,rq,.inl ⟨rq,_,SqL.of hl2'⟩,_,rq,tp,_,rq,.inr (SqT.of (smQ _ _ ht)),_,rq,by omega,by omega,λlc hlc=>?_⟩;rw[Qbo];let J1:YN:=λi U HY=>(∃u,U=[u,some (.int (k:Int)),jp tp])/\(∃ys,HY lc=some (.lst ys)/\Paired (Ei HY) ys (up (gt1 (k:Int) ps) i)/\ys.length<=i)/\Same H2 HY;refine K7 J1 ⟨⟨_,rq⟩,⟨[],Ab,.nil,Qcv _⟩,Ad hlc _⟩ (λi U HY hi h=>?_) (fun U HY h=>?_)
  ·obtain⟨⟨u,rfl⟩,⟨ys,g1,g2,g4⟩,g3⟩:=h;have hvi:vs'[i]?=some vs'[i]:=Qan hi;obtain⟨pp,hp',tq,up',wsp,ep,hpt,hpu,hpd⟩:=Paired.Ck hpp hvi;have NI:atI vs' ((0:Int)+(i:Int))=some (.ref tq):=by rw[Qcr];exact Fq (by rw[hvi,ep])
   have eg1:gt1 (k:Int) ps i=if V.str pp.kind=V.str "opener" then [⟨(k:Int),((1+i:Nat):Int)⟩] else []:=CQ hp'
   have s2:=smQ.trans g3;refine⟨_,rq,_,rq,tp,_,_,_,rq,rq,SqT.of (s2 _ _ ht),NI,tq,_,_,_,rq,rq,SqT.of (s2 _ _ hpt),rq,rq,_,rq,?_⟩;by_cases hop:V.str pp.kind=V.str "opener"
   ·rw[QbX hop];refine BL ⟨_,rq,_,rq,_,_,rq,rq,ke,λtk htk=>?_⟩;rw[Qcr];have c1':=Ad htk (.tup [.int (k:Int),.int ((i:Int)+1)]);have g1':=c1' _ _ g1;have ntc:∀zs,(upd HY tk (.tup [.int (k:Int),.int ((i:Int)+1)])) lc≠some (.tup zs):=λzs z=>by rw[g1'] at z;cases z
    have sC:=Al.upd (o:=.lst (ys++[.ref tk])) ntc;refine⟨ys,g1',Ar (by omega),⟨_,rq⟩,⟨_,Ab,?_,by rw[QaV];show _+1<=_;omega⟩,(g3.trans c1').Bp Ah.upd hlc⟩;rw[DN,eg1,if_pos hop];refine Qcx ⟨tk,rq,?_⟩ (Paired.Ax g2 λ_ _ z=>(z.tups (Al.of c1')).tups sC);rw[sC _ _ Ab];show _=some (HO.tup [.int (k:Int),.int ((1+i:Nat):Int)]);rw[show ((1+i:Nat):Int)=(i:Int)+1 by omega]
   ·rw[QbL hop];refine BK ⟨⟨_,rq⟩,⟨ys,g1,?_,by omega⟩,g3⟩;rw[DN,eg1,if_neg hop,QbM];exact g2
  obtain⟨_,⟨ys,g1,g2,g4⟩,g3⟩:=h;rw[lv'] at g2;have hlY:=g3 _ _ hl2';refine⟨lv,lc,_,_,rq,rq,hlY,g1,Av (by rw[QaV];show _+2+_<=_;omega),?_⟩;have ntY:∀zs,HY lv≠some (.tup zs):=λzs z=>by rw[hlY] at z;cases z
  have sY:=Al.upd (o:=.lst ((xs++[.ref ta,.ref tb])++ys)) ntY;refine⟨_,_,rq,⟨_,Ab,?_⟩,(sm2.trans g3).Bp Ah.upd hlv⟩;rw[DN,egt,<-Qbn];exact Paired.app (Paired.Ax p2' λ_ _ z=>(z.tups (Al.of g3)).tups sY) (Paired.Ax g2 λ_ _ z=>z.tups sY)
 obtain⟨u6,u7,rfl,⟨xv,hv7,pv7⟩,s67⟩:=h;rw[lw] at pv7;have s57:=s6.trans s67;refine⟨_,rq,t,most,ja,jn,rq,pa5.same s57,λlw' xw H8 fw hw pw s8=>?_⟩;have s58:=s57.trans s8;have nwb:lw'≠b0:=((hb5.same s57).nb fw).symm;have la:(up (pdL ja) ja.length).length=(Cg ja).length:=by rw[<-Ho ja,QbH]
 have cn:=pa.pok.cnt.1;have W25:=W2.same s58;obtain⟨dq,q0⟩:=W2.ins;obtain⟨kq,q2,_⟩:=W2.fi;obtain⟨dp,p0⟩:=W15.ins;have lx7:=Qcc pv7;have L0:LS C H8 b0 p t d1 d2 d3 p2 c1 c2 c3 lt lw' lv 3000 most ja jn (hs0 ja) (gs0 ja):=by
  refine⟨⟨(hb5.same s58).mono (by omega),W15.same s58,ok,e5,by omega,n12,Yz ja,Oa ja,YS ja,⟨xt,(s67.trans s8) _ _ hlt,Paired.Ax plt λ_ _ z=>z.tups (Al.of (s67.trans s8))⟩,⟨xw,hw,pw⟩,⟨xv,_,s8 _ _ hv7,Paired.Ax pv7 λ_ _ z=>z.tups (Al.of s8),λg hg=>jK.mp hg,?_,?_⟩,nlt,nwb,nvb⟩,W25,pa5.same s58,λc hc=>?_⟩
  ·have h0:ja[0]?=some ja[0]:=Qan (by omega);have:(⟨((0:Nat):Int),0⟩ : Gt)∈up (gtX ja) ja.length:=jK.mpr (by have:=YZ h0 "A";rw[qX] at this;exact this);exact List.length_pos_of_mem this
  ·have:=o200 ja.length (Qcv _);omega
  ·obtain⟨_,_,_,eb,_⟩:=hb5;rcases hc with rfl | rfl | rfl | rfl
   ·exact⟨(λz=>by rw[z,eb] at q0;cases q0),(λz=>by rw[z,W15.st] at q0;cases q0),(λz=>by obtain⟨_,k,_⟩:=W15.fi;rw[z,k] at q0;cases q0),λz=>by rw[z,W15.gp] at q0;cases q0⟩
   ·exact⟨(λz=>by have:=W2.st;rw[z,eb] at this;cases this),x1.1.symm,x2.1.symm,x3.1.symm⟩
   ·exact⟨(λz=>by rw[z,eb] at q2;cases q2),x1.2.1.symm,X22,x3.2.1.symm⟩
   ·exact⟨(λz=>by have:=W2.gp;rw[z,eb] at this;cases this),x1.2.2.symm,x2.2.symm,x3.2.2.symm⟩
 have sH8:=sH5.trans s58;clear s57 s58 s8 s67 s6 hw pw hv7 pv7 W25 W15 W2 q0 q2 p0 hb5 pa5 plt hlt;have hl':(ns.map V.int).length=ns.length:=QbH _;refine⟨_,rq,sa,_,rq,.inl (sH8.seq hS),_,_,rq,_,_,rq,_,rq,?_,?_,?_⟩
 ·rw[hl'];split <;> split <;> omega
 ·rw[hl'];split <;> split <;> omega
 let J2:YN:=λi U HX=>∃(u1 u7 u8 u10 u11 u12 u13 u14:Option V) (b:Addr) (hs:YR) (gs:YT),U=[jp sa,u1,jp t,jp p,jp p2,jp lt,jp lv,u7,u8,some (.ref lw'),u10,u11,u12,u13,u14]/\LS C HX b p t d1 d2 d3 p2 c1 c2 c3 lt lw' lv 3000 most ja jn hs gs/\Same H HX;refine Fi J2 ⟨_,_,_,_,_,_,_,_,b0,_,_,rq,L0,sH8⟩ (λi U HX hi h=>?_) (fun U HX h=>?_)
 ·obtain⟨u1,u7,u8,u10,u11,u12,u13,u14,bp,hs,gs,rfl,L,sm⟩:=h;rw[hl'] at hi;have hi':(i:Int)<=100:=by
   revert hi;split <;> split <;> omega
  clear L0 sH8;refine⟨_,rq,_,rq,sa,ns,_,rq,sm.seq hS,h63,by omega,by omega,λb o hbn Ex=>?_⟩;have s7:=Ad hbn o;have L1:=L.Da s7 hbn Ex;have fb:H b=none:=sm.free hbn;have sm1:=sm.trans s7;generalize upd HX b o=H1' at *;clear L s7 hbn Ex sm;have nxt:∀{HA HB:Hp},Same H HA->FrT b d1 d2 d3 HA HB->Same H HB:=λs f c o e=>f _ _ (s _ _ e) (Aq e fb) (Aq e fd1) (Aq e fd2) (Aq e fd3);refine⟨_,rq,_,rq,_,rq,_,rq,_,rq,b,p,t,d1,d2,d3,lt,lw',lv,_,ja,hs,gs,rq,L1.tr,by omega,λhs2 gs2 H2 TR2 ts2 ff2=>?_⟩;have L2:=L1.step TR2 ts2 ff2;have sm2:=nxt sm1 ff2;clear L1 sm1 TR2 ts2 ff2;obtain⟨xw,hw,pw⟩:=L2.tr.wn;have lxw:=Qcc pw;have SK:=L2.tr.wi.l1;have lhs:hs2.length=(up (stL ja) ja.length).length:=by rw[<-L2.tr.k1,QbH]
  have hs1:=L2.tr.hs1;refine⟨_,rq,_,rq,lw',_,rq,.inl (SqL.of hw),b,_,_,rq,L2.tr.bag,by omega,by omega,by omega,λr H3 r0 r1 hb3 sb3=>?_⟩;obtain⟨k,rfl⟩ : ∃k:Nat,r=(k:Int):=⟨r.toNat,(QaU r0).symm⟩;have L3:=L2.drawn sb3 hb3;have sm3:Same H H3:=sm2.Bp sb3 fb;clear L2 sm2 sb3 hb3 hw pw;obtain⟨xw,hw,pw⟩:=L3.tr.wn;have lxw:=Qcc pw;refine⟨_,rq,_,rq,_,rq,lw',xw,rq,SqL.of hw,λla' hla=>?_⟩;rw[sy (by omega)];have n1:=Ad hla (.lst (xw.drop k));refine⟨_,rq,_,rq,_,rq,lw',xw,rq,SqL.of (n1 _ _ hw),λlb hlb=>?_⟩;rw[su];have n2:=Ad hlb (.lst (xw.take k));refine⟨la',lb,_,_,rq,rq,n2 _ _ Ab,Ab,Av (by rw[QbD,QbA];omega),λlc hlc=>?_⟩;have n3:=Ad hlc (.lst (xw.drop k++xw.take k));have n13:=(n1.trans n2).trans n3;have L4:=L3.same n13;have xU:(upd (upd (upd H3 la' (.lst (xw.drop k))) lb (.lst (xw.take k))) lc (.lst (xw.drop k++xw.take k))) lc=some (.lst (xw.drop k++xw.take k)):=Ab;have pc:Paired (CN (upd (upd (upd H3 la' (.lst (xw.drop k))) lb (.lst (xw.take k))) lc (.lst (xw.drop k++xw.take k)))) (xw.drop k++xw.take k) ((up (stL ja) ja.length).drop k++(up (stL ja) ja.length).take k):=Paired.app (Paired.nY k (Paired.Ax pw λ_ _ z=>z.tups (Al.of n13))) (Paired.lC k (Paired.Ax pw λ_ _ z=>z.tups (Al.of n13)));have sm4:=sm3.trans n13;have SU:lc≠b:=((L3.tr.bag.same (n1.trans n2)).nb hlc).symm;have fls:∀c o,(upd (upd H3 la' (.lst (xw.drop k))) lb (.lst (xw.take k))) c=some o->c≠lc:=λc o e=>Aq e hlc;clear n1 n2 n3 n13 hla hlb hlc hw pw L3 sm3;generalize upd (upd (upd H3 la' (.lst (xw.drop k))) lb (.lst (xw.take k))) lc (.lst (xw.drop k++xw.take k))=H4 at *;have F9:∀s∈up (stL ja) ja.length,s∈(up (stL ja) ja.length).drop k++(up (stL ja) ja.length).take k:=λs hs=>by
   rw[QbI];have:s∈(up (stL ja) ja.length).take k++(up (stL ja) ja.length).drop k:=by rw[List.take_append_drop];exact hs
   rcases QbI.mp this with h | h
   ·exact .inr h
   ·exact .inl h
  have ND:∀s∈(up (stL ja) ja.length).drop k++(up (stL ja) ja.length).take k,s∈up (stL ja) ja.length:=λs hs=>by
   rcases QbI.mp hs with h | h
   ·exact List.mem_of_mem_drop h
   ·exact QaM h
  generalize (up (stL ja) ja.length).drop k++(up (stL ja) ja.length).take k=SS at *;generalize xw.drop k++xw.take k=xc at *;have lxc:=Qcc pc;refine⟨lc,rq,⟨_,SqL.of xU⟩,?_⟩;let J3:YN:=λj U HY=>∃(u12:Option V) (hs:YR),U=[jp sa,jp b,jp t,jp p,jp p2,jp lt,jp lv,u7,u8,some (.ref lw'),some (.int (0+(i:Int))),some (.int (k:Int)),u12,u13,u14]/\LS C HY b p t d1 d2 d3 p2 c1 c2 c3 lt lw' lv 100 most ja jn hs gs2/\Ze hs (SS.take j)/\HY lc=some (.lst xc)/\Al H4 HY/\Same H HY;refine Lz (xs:=xc) J3 ⟨_,hs2,rfl,L4.step (L4.tr.mono (by omega)) (Al.of (Same.refl _)) (FrT.of (Same.refl _)),(λx _ hl=>by cases hl),xU,Al.of (Same.refl _),sm4⟩ (λj U HY _ h=>by obtain⟨_,_,_,_,_,h,_⟩:=h;exact SqL.of h) (λj x U HY hx h=>?_) (fun U HY h=>?_)
  ·obtain⟨u12,hs,rfl,LY,aw,xT,tY,smY⟩:=h;obtain⟨s',hs',bs,rfl,hbs⟩:=Paired.Ck pc hx;obtain⟨dxY,hpY⟩:=LY.tr.wi.ins;unfold FN;dsimp only;refine⟨_,rq,p,dxY,_,rq,hpY,fno (by trivial),_,rq,p,t,d1,d2,d3,hs,fl0 ja,gs2,bs,s',rq,LY.tr.wi,n12,tY _ _ hbs,by rw[LY.tr.k1];exact ND s' (QaI hs'),λHZ WZ sB=>?_⟩;have nt:∀zs,HY d1≠some (.tup zs):=λzs e=>by rw[LY.tr.wi.st] at e;cases e
   have tZ:=LY.tr.Ye LY.tr.wi.st WZ sB (Jb _ _ _) rfl rfl;have fZ:FrT b d1 d2 d3 HY HZ:=λc o e _ n2 _ _=>sB _ _ e n2;refine⟨_,_,rq,LY.step tZ (sB.tup nt) fZ,?_,sB _ _ xT (λz=>by rw[z,LY.tr.wi.st] at xT;cases xT),tY.trans (sB.tup nt),nxt smY fZ⟩;rw[QcF hs'];exact aw.set s'
  obtain⟨u12,hs,rfl,LY,aw,_,_,smY⟩:=h;rw[lxc,Qby] at aw;have ehs:=aw.hs0 LY.tr.k1 F9;subst ehs;clear aw L4 sm4 pc xU fls;obtain⟨dxY,hpY⟩:=LY.tr.wi.ins;refine⟨_,rq,p,dxY,_,rq,hpY,fno (by trivial),p,t,d1,d2,d3,_,fl0 ja,gs2,rq,LY.tr.wi,LY.tr.bs,LY.tr.bg,λlr xr H5' flr hlr _ W5 sB5=>?_⟩;have nt3:∀zs,HY d3≠some (.tup zs):=λzs e=>by rw[LY.tr.wi.gp] at e;cases e
  have f5:FrT b d1 d2 d3 HY H5':=λc o e _ _ _ n4=>sB5 _ _ e n4;have L5:=LY.step (LY.tr.Ye LY.tr.wi.gp W5 sB5 rfl rfl (Kp _ _)) (sB5.tup nt3) f5;have sm5:=nxt smY f5;have kg:=LY.tr.k3;clear LY smY W5 sB5 f5 hlr flr hpY nt3;have eG:((DX (hs0 ja) gs2).filter (·.2)).map (·.1)=[]:=by
   have:=gM (z:="whole") (c:=⟨0,0,0⟩) (by decide) ok kg;rw[Uc] at this;exact this
  have hgN:∀g,gpC (DX (hs0 ja) gs2) g=false:=pK gs2;generalize DX (hs0 ja) gs2=gB at *;dsimp only;show Ao (Hr _ _ _) _ _ _ _;refine Sh (fun U HZ=>U=[jp sa,jp b,jp t,jp p,jp p2,jp lt,jp lv,u7,u8,some (.ref lw'),some (.int (0+(i:Int))),some (.int (k:Int)),u12,u13,u14]/\LS C HZ b p t d1 d2 d3 p2 c1 c2 c3 lt lw' lv 200 most ja jn (hs0 ja) gB/\Same H HZ) (fun U HZ h=>?_) (λD' hn=>?_);rotate_left 1
  ·obtain⟨dx5,hp5⟩:=L5.tr.wi.ins;refine⟨_,rq,p,dx5,_,rq,hp5,fno (by trivial),p,t,d1,d2,d3,_,fl0 ja,_,rq,L5.tr.wi,λlg' xg HA flg hlg plg sA=>?_⟩;rw[eG] at plg;refine⟨js,λle hle=>?_⟩;have sE:=Ad hle (.lst []);refine⟨_,_,.lst (sE _ _ hlg) (dZ (Paired.Ax plg λ_ _ z=>z.tups (Al.of sE))),.lst Ab .nil,Xf _,Xf [],_,rq,?_⟩;rw[show PyData.eqv (.list (([]:List Gt).map gtD)) (.list [])=true from rfl]
   have sAE:=sA.trans sE;have L6:=L5.same sAE;obtain⟨OS,Nl⟩:=L6.tr.wi.ins;refine BK ⟨_,rq,p,OS,_,rq,Nl,fno (by trivial),p,t,d1,d2,d3,_,fl0 ja,_,rq,L6.tr.wi,λlt2 xt2 HB S2 hlt2 CC sB=>?_⟩;rw[yO] at CC;have L7:=L6.same sB;obtain⟨xt1,hlt1,IH⟩:=L7.tr.tl;have dk:=yw ok;refine⟨_,rq,_,_,.lst hlt2 (Vk CC),.lst hlt1 (Vk IH),Q5 dk,Q5 dk,_,rq,?_⟩;rw[SeqAt.eqv_refl _ (SeqAt.canLay_of_shaped (Q5 dk))];refine BK ⟨_,rq,_,rq,b,t,_,most,ja,jn,rq,L7.tr.bag,by omega,L7.pa,λHC hbC sbC=>⟨_,rq,?_⟩⟩;exact BK (hn _ _ ⟨rq,(L7.drawn sbC hbC).step ((L7.drawn sbC hbC).tr.mono (by omega)) (Al.of (Same.refl _)) (FrT.of (Same.refl _)),((sm5.trans sAE).trans sB).Bp sbC fb⟩)
  obtain⟨rfl,L6,sm6⟩:=h;clear L5 sm5 eG;obtain⟨xw2,hw2,pw2⟩:=L6.tr.wn;have lw2:=Qcc pw2;refine⟨_,rq,lw',rq,⟨_,SqL.of hw2⟩,λla2 xV=>?_⟩;let J4:YN:=λj U HY=>(∃u,U=[u,jp p])/\HY la2=some (.lst ((List.replicate j false).map V.bl))/\Same HZ HY;refine Hq (xs:=xw2) J4 ⟨⟨_,rq⟩,Ab,Ad xV _⟩ (λj U HY _ h=>SqL.of (h.2.2 _ _ hw2)) (λj x U HY hx h=>?_) (fun U HY h=>?_)
  ·obtain⟨⟨u,rfl⟩,e1',g3⟩:=h;have hj:=(Qai.mp hx).1;obtain⟨s',hs',bs,rfl,hbs⟩:=Paired.Ck pw2 hx;have LYY:=L6.same g3;obtain⟨dxY,hpY⟩:=LYY.tr.wi.ins;have hin:(s',("whole":Str))∈hs0 ja:=Qcl.mpr ⟨s',QaI hs',rq⟩;unfold FN;dsimp only;refine BL ⟨_,rq,p,dxY,_,rq,hpY,fno (by trivial),_,rq,p,t,d1,d2,d3,_,fl0 ja,_,bs,(s',"whole"),rq,LYY.tr.wi,g3 _ _ hbs,hin,λHW sW=>⟨rq,?_⟩⟩;have hw0:(!decide (V.str ("whole":Str)=V.str "whole"))=false:=by trivial
   rw[show (!decide (V.str ((s',("whole":Str)):Sp3×Str).2=V.str "whole"))=false from hw0]
   refine⟨_,sW _ _ e1',Ar (by rw[QbH,QaG];omega),⟨_,rq⟩,?_,(g3.trans sW).Bp Ah.upd xV⟩;rw[Ab,List.replicate_succ',QbJ];rfl
  obtain⟨_,e1',g3⟩:=h;refine⟨la2,List.replicate xw2.length false,rq,SqL.of e1',_,rq,?_⟩;rw[show (List.replicate xw2.length false).any id=false by simp];have L7:=L6.same g3;have sm7:=sm6.trans g3;clear L6 sm6 g3 e1' hw2 pw2 xV;refine BK ?_;obtain⟨Ls',zs',ws',SO,j1,j2,j3,j4,j5⟩:=L7.pa.at_;have lw3:=Qcc j3;refine⟨_,rq,t,_,_,_,rq,rq,SqT.of j1,rq,Ls',_,rq,.inr (SqT.of j2),_,rq,by omega,by omega,?_⟩;rw[Qbo];let J5:YN:=λj U HV=>∃(u7 u13 u14:Option V),U=[jp sa,jp b,jp t,jp p,jp p2,jp lt,jp lv,u7,u8,some (.ref lw'),some (.int (0+(i:Int))),some (.int (k:Int)),u12,u13,u14]/\LS C HV b p t d1 d2 d3 p2 c1 c2 c3 lt lw' lv 200 most ja jn (hs0 ja) gB/\Same H HV;refine Fi J5 ⟨_,_,_,rq,L7,sm7⟩ (λj U HV hj h=>?_) (fun U HV h=>?_)
  ·obtain⟨u7,u13,u14,rfl,LV,smV⟩:=h;have hpj:ja[j]?=some ja[j]:=Qan (by omega);generalize ja[j]=qs at hpj;rw[Qcr];refine⟨ke,λtt htt=>?_⟩;have n1:=Ad htt (.tup [.str "A",.str "B"]);have DT:(upd HV tt (.tup [.str "A",.str "B"])) tt=some (.tup [.str "A",.str "B"]):=Ab;have LT:=LV.same n1;have smT:=smV.trans n1;generalize upd HV tt (.tup [.str "A",.str "B"])=HT at *;refine⟨tt,rq,⟨_,SqT.of DT⟩,?_⟩;let J6:YN:=λm U HU=>∃(u13 u14:Option V),U=[jp sa,jp b,jp t,jp p,jp p2,jp lt,jp lv,some (.int (j:Int)),u8,some (.ref lw'),some (.int (0+(i:Int))),some (.int (k:Int)),u12,u13,u14]/\LS C HU b p t d1 d2 d3 p2 c1 c2 c3 lt lw' lv 200 most ja jn (hs0 ja) gB/\Same HT HU;refine Ly (xs:=[.str "A",.str "B"]) J6 ⟨_,_,rfl,LT,Same.refl _⟩ (λm U HU _ h=>by obtain⟨_,_,_,_,h⟩:=h;exact SqT.of (h _ _ DT)) (λm x U HU hx h=>?_) (fun U HU h=>?_)
   ·obtain⟨u13,u14,rfl,LU,sU⟩:=h;obtain⟨e,rfl,he⟩ : ∃e:Str,x=.str e/\(e=("A":Str)\/e=("B":Str)):=by
     match m,hx with
     | 0,hx=>cases hx;exact⟨_,rfl,.inl rfl⟩
     | 1,hx=>cases hx;exact⟨_,rfl,.inr rfl⟩
     | n+2,hx=>cases hx
    obtain⟨xt,hxt,pxt⟩:=LU.tr.tl;have lx:=Qcc pxt;have d30:=LU.f30.2;have ldv:(up (pdL ja) ja.length).length=(dvS ja).length:=by unfold dvS;rw[QbH]
    unfold FN;dsimp only;refine⟨_,rq,lt,rq,⟨_,SqL.of hxt⟩,λlo' hlo=>?_⟩;have fB:∀i,((((up (pdL ja) ja.length).take i).map Sd.spot).filter λs=>decide (s.lp=(j:Int))).length<=30:=λi=>by
     refine Qco List.filter_sublist.length_le ?_;rw[QbH,QbA];omega
    let J7:YN:=λi U HX=>(∃u v y,U=[u,v,y,some (.int (j:Int))])/\(∃zs,HX lo'=some (.lst zs)/\Paired (CN HX) zs ((((up (pdL ja) ja.length).take i).map Sd.spot).filter λs=>decide (s.lp=(j:Int))))/\Same HU HX;refine Hq (xs:=xt) J7 ⟨⟨_,_,_,rq⟩,⟨[],Ab,.nil⟩,Ad hlo _⟩ (λi U HX _ h=>SqL.of (h.2.2 _ _ hxt)) (λi x U HX hx h=>?_) (fun U HX h=>?_)
    ·obtain⟨⟨u,v,y,rfl⟩,⟨zs,g1,g2⟩,g3⟩:=h;obtain⟨d,hd,td,ud,rfl,h5,h6⟩:=Paired.Ck pxt hx;have lz:=Qcc g2;have IS:=fB i;have et:(((up (pdL ja) ja.length).take (i+1)).map Sd.spot).filter (λs=>decide (s.lp=(j:Int)))=(((up (pdL ja) ja.length).take i).map Sd.spot).filter (λs=>decide (s.lp=(j:Int)))++[d.spot].filter (λs=>decide (s.lp=(j:Int))):=by
      rw[QcF hd,QbJ,Qbg];rfl
     refine⟨td,_,rq,SqT.of (g3 _ _ h5),rq,_,_,rq,_,_,rq,_,_,rq,rq,?_⟩;refine⟨_,rq,ud,_,_,_,rq,rq,SqT.of (g3 _ _ h6),rq,_,rq,rq,_,rq,Kd (λh1=>?_) (λh1=>?_)⟩
     ·have h1:d.spot.lp=(j:Int):=V.int.inj (Qbs h1);have ntl:∀us,HX lo'≠some (.tup us):=λus z=>by rw[g1] at z;cases z
      have sL:=Al.upd (o:=.lst (zs++[.ref ud])) ntl;refine⟨_,rq,zs,g1,Ar (by omega),⟨_,_,_,rq⟩,⟨_,Ab,?_⟩,g3.Bp Ah.upd hlo⟩;rw[et,Qav (p:=λs:Sp3=>decide (s.lp=(j:Int))) (QbX h1)];exact Qcx ⟨ud,rq,sL _ _ (g3 _ _ h6)⟩ (Paired.Ax g2 λ_ _ z=>z.tups sL)
     ·have h1:¬d.spot.lp=(j:Int):=λz=>of_decide_eq_false h1 (by
       have z:d.lp=(j:Int):=z;rw[z])
      refine⟨⟨_,_,_,rq⟩,⟨zs,g1,?_⟩,g3⟩;rw[et,Qau (p:=λs:Sp3=>decide (s.lp=(j:Int))) (by rw[QbL h1];decide)];show Paired _ _ (_++[]);rw[QbM];exact g2
    obtain⟨_,⟨zs,g1,g2⟩,g3⟩:=h;rw[lx,Qby] at g2;have g2:Paired (CN HX) zs (vQ ja j):=g2;have LX:=LU.same g3;obtain⟨dx1,hp1⟩:=LX.tr.wi.ins;refine⟨_,rq,p,dx1,_,rq,hp1,fno (by trivial),_,rq,_,rq,p,t,d1,d2,d3,_,fl0 ja,_,most,ja,jn,j,qs,e,rq,LX.tr.wi,LX.pa,hpj,LX.tr.bs,LX.bf,LX.f30.1,by rw[LX.tr.k3];exact YZ hpj e,λla3 xa LA HA fla hla pla pmA rA sA=>?_⟩;have eA:=jA ok hpj hgN he pmA rA;subst eA;refine⟨_,rq,_,_,.lst hla (Od pla),.lst (sA _ _ g1) (Od (Paired.Ax g2 λ_ _ z=>z.tups (Al.of sA))),Jp _,Jp _,_,rq,?_⟩;rw[SeqAt.eqv_refl _ (SeqAt.canLay_of_shaped (Jp _))];have LA2:=LX.same sA;obtain⟨dx2,hp2⟩:=LA2.w2.ins;have bs0:∀s∈(hs0 ja).map (·.1),Bd3 s:=by rw[Yz];exact yQ ok
    refine BK ⟨_,rq,p2,dx2,_,rq,hp2,fno (by trivial),_,rq,_,rq,p2,t,c1,c2,c3,_,fl0 ja,_,most,ja,jn,j,qs,e,rq,LA2.w2,LA2.pa,hpj,bs0,LA2.bf,LA2.f30.1,by rw[YS];exact YZ hpj e,λlb3 xb LB HB flb hlb plb pmB rB sB=>?_⟩;have eB:=jA ok hpj (xY ja) he pmB rB;subst eB;refine⟨_,rq,_,_,.lst hlb (Od plb),.lst (sB _ _ (sA _ _ g1)) (Od (Paired.Ax g2 λ_ _ z=>z.tups (Al.of (sA.trans sB)))),Jp _,Jp _,_,rq,?_⟩;rw[SeqAt.eqv_refl _ (SeqAt.canLay_of_shaped (Jp _))];exact BK ⟨_,_,rq,LA2.same sB,sU.trans ((g3.trans sA).trans sB)⟩
   ·obtain⟨u13,u14,rfl,LU,sU⟩:=h;exact⟨_,_,_,rq,LU,smT.trans sU⟩
  ·obtain⟨u7,u13,u14,rfl,LV,smV⟩:=h;exact⟨_,_,_,_,_,_,_,_,b,_,_,rq,LV.step (LV.tr.mono (by omega)) (Al.of (Same.refl _)) (FrT.of (Same.refl _)),smV⟩
 ·exact q HX
theorem F3 {K:YD} {C c0 c1 c2 c3 c4 c5 c6 c7 c8 c9 c10 c11 c12:Addr} {j:Nat} (q0:kitOne K (.ref C) (.ref c0)=some (decide (0=j))) (q1:kitOne K (.ref C) (.ref c1)=some (decide (1=j))) (q2:kitOne K (.ref C) (.ref c2)=some (decide (2=j))) (q3:kitOne K (.ref C) (.ref c3)=some (decide (3=j))) (q4:kitOne K (.ref C) (.ref c4)=some (decide (4=j))) (q5:kitOne K (.ref C) (.ref c5)=some (decide (5=j))) (q6:kitOne K (.ref C) (.ref c6)=some (decide (6=j))) (q7:kitOne K (.ref C) (.ref c7)=some (decide (7=j))) (q8:kitOne K (.ref C) (.ref c8)=some (decide (8=j))) (q9:kitOne K (.ref C) (.ref c9)=some (decide (9=j))) (q10:kitOne K (.ref C) (.ref c10)=some (decide (10=j))) (q11:kitOne K (.ref C) (.ref c11)=some (decide (11=j))) (q12:kitOne K (.ref C) (.ref c12)=some (decide (12=j))) :
  ∀i d,([c0,c1,c2,c3,c4,c5,c6,c7,c8,c9,c10,c11,c12]:List Addr)[i]?=some d->kitOne K (.ref C) (.ref d)=some (decide (i=j)):=λi d h=>by
 match i,h with
 | 0,h=>cases h;exact q0
 | 1,h=>cases h;exact q1
 | 2,h=>cases h;exact q2
 | 3,h=>cases h;exact q3
 | 4,h=>cases h;exact q4
 | 5,h=>cases h;exact q5
 | 6,h=>cases h;exact q6
 | 7,h=>cases h;exact q7
 | 8,h=>cases h;exact q8
 | 9,h=>cases h;exact q9
 | 10,h=>cases h;exact q10
 | 11,h=>cases h;exact q11
 | 12,h=>cases h;exact q12
 | n+13,h=>cases h
structure FnI (K:YD) (x:Str) (st:Stmt):Prop where
 ex:∃(f:Addr) (oc:Value) (od an:Option Addr) (sl:YI) (kV dc pm cd ct:Value),nsIn K mainGlobals x=some (some (.ref f))/\K.lookup f=some ⟨oc,od,.func (fnOf x x (Eo st) (Dg st) (Aj st) .none kV dc pm an cd ct),sl⟩/\codeIn K cd x=true/\keepIn K (.ref f)=true
theorem FnI.of {K:YD} {x:Str} {st:Stmt} {f:Addr} {oc:Value} {od an:Option Addr} {sl:YI} {kV dc pm cd ct:Value} (a:nsIn K mainGlobals x=some (some (.ref f))) (l:K.lookup f=some ⟨oc,od,.func (fnOf x x (Eo st) (Dg st) (Aj st) .none kV dc pm an cd ct),sl⟩) (c:codeIn K cd x=true) (k:keepIn K (.ref f)=true):FnI K x st:=⟨f,oc,od,an,sl,kV,dc,pm,cd,ct,a,l,c,k⟩
theorem FnI.code {K:YD} {mg:YB} {h:Heap} {x:Str} {st:Stmt} {ps:YF} (I:FnI K x st) (X:K.In h) (G:h.Ns mainGlobals mg) (hb:∀(kV doc pm:Value) (an:Option Addr) (cdv ct:Value) (us:YE),us.length=ps.length->bindArgs (fnOf x x (Eo st) (Dg st) (Aj st) .none kV doc pm an cdv ct) ⟨us,[]⟩=pure (ps.zip us)):Code K mg x st ps:=by
 obtain⟨f,oc,od,an,sl,kV,dc,pm,cd,ct,a,l,c,k⟩:=I.ex;exact Code.of X G a l c k hb
structure MtI (K:YD) (C:Addr) (x q:Str) (st:Stmt):Prop where
 ex:∃(f:Addr) (oc:Value) (od an:Option Addr) (sl:YI) (kV dc pm cd ct:Value),findIn K (.ref C) x=some (some (.ref f))/\isFn K (.ref f)=true/\K.lookup f=some ⟨oc,od,.func (fnOf x q (Eo st) (Dg st) (Aj st) .none kV dc pm an cd ct),sl⟩/\codeIn K cd q=true/\keepIn K (.ref f)=true
theorem MtI.of {K:YD} {C:Addr} {x q:Str} {st:Stmt} {f:Addr} {oc:Value} {od an:Option Addr} {sl:YI} {kV dc pm cd ct:Value} (a:findIn K (.ref C) x=some (some (.ref f))) (i:isFn K (.ref f)=true) (l:K.lookup f=some ⟨oc,od,.func (fnOf x q (Eo st) (Dg st) (Aj st) .none kV dc pm an cd ct),sl⟩) (c:codeIn K cd q=true) (k:keepIn K (.ref f)=true):MtI K C x q st:=⟨f,oc,od,an,sl,kV,dc,pm,cd,ct,a,i,l,c,k⟩
theorem MtI.code {K:YD} {C:Addr} {x q:Str} {st:Stmt} {ps:YF} (I:MtI K C x q st) (hb:∀(kV doc pm:Value) (an:Option Addr) (cdv ct:Value) (us:YE),us.length=ps.length->bindArgs (fnOf x q (Eo st) (Dg st) (Aj st) .none kV doc pm an cdv ct) ⟨us,[]⟩=pure (ps.zip us)):GJ K C x q st ps:=by
 obtain⟨f,oc,od,an,sl,kV,dc,pm,cd,ct,a,i,l,c,k⟩:=I.ex;have F:=Xi (st:=st) l c k;exact⟨f,_,F,⟨a,i,k⟩,F.binds hb⟩
theorem MtI.init {K:YD} {C:Addr} {q:Str} {st:Stmt} {ps:YF} (I:MtI K C "__init__" q st) (mk:makesIn K C=true) (kc:keepIn K (.ref C)=true) (hb:∀(kV doc pm:Value) (an:Option Addr) (cdv ct:Value) (us:YE),us.length=ps.length->bindArgs (fnOf "__init__" q (Eo st) (Dg st) (Aj st) .none kV doc pm an cdv ct) ⟨us,[]⟩=pure (ps.zip us)):∃f fd,Fun K "__init__" q st f fd/\Mk K C f/\Binds K fd ps []:=by
 obtain⟨f,oc,od,an,sl,kV,dc,pm,cd,ct,a,i,l,c,k⟩:=I.ex;have F:=Xi (st:=st) l c k;exact⟨f,_,F,⟨mk,a,i,kc⟩,F.binds hb⟩
def yC:YF->(YE->Prop)->Prop
 | [],P=>P []
 | _::r,P=>∀a,yC r λt=>P (a::t)
theorem j8:∀(ps:YF) {P:YE->Prop},yC ps P->∀us:YE,us.length=ps.length->P us
 | [],_,h,[],_=>h
 | _::r,_,h,a::t,e=>j8 r (h a) t (Nat.succ.inj e)
theorem fnA {F:Value->Value->Value->Option Addr->Value->Value->FuncData} {ps:YF} (h:∀kV dc pm an cd ct,yC ps λus=>bindArgs (F kV dc pm an cd ct) ⟨us,[]⟩=pure (ps.zip us)) (kV dc pm:Value) (an:Option Addr) (cd ct:Value) (us:YE) (hu:us.length=ps.length):bindArgs (F kV dc pm an cd ct) ⟨us,[]⟩=pure (ps.zip us):=j8 ps (h kV dc pm an cd ct) us hu
theorem all_mk {l:PySem.W.OpenLaw} {w:World} {K:YD} {h:Heap} {mg:YB} {fa C fl:Addr} (X:K.In h) (G:h.Ns mainGlobals mg) (hfa:mg "law"=some (.ref fa))
  {odl anl:Option Addr} {sll:YI} {ocl kVl dcl pml cdl ctl:Value}
  (aC:nsIn K mainGlobals "Wires"=some (some (.ref C)))
  (m0:MtI K C "__init__" "Wires.__init__" Hs)
  (m1:MtI K C "check_stretch" "Wires.check_stretch" GX)
  (m2:MtI K C "check_spot" "Wires.check_spot" Jd)
  (m3:MtI K C "cut" "Wires.cut" Qg)
  (m4:MtI K C "short" "Wires.short" Nq)
  (m5:MtI K C "mend" "Wires.mend" Oi)
  (m6:MtI K C "how" "Wires.how" Qf)
  (m7:MtI K C "take_out" "Wires.take_out" JZ)
  (m8:MtI K C "put_in" "Wires.put_in" Lg)
  (m9:MtI K C "there" "Wires.there" Np)
  (m10:MtI K C "parted" "Wires.parted" Lh)
  (m11:MtI K C "act" "Wires.act" Qh)
  (m12:MtI K C "come_to_rest" "Wires.come_to_rest" Dk)
  (m13:MtI K C "heard" "Wires.heard" JQ)
  (i0:FnI K "is_whole" Nz)
  (i1:FnI K "is_within" P0)
  (i2:FnI K "is_row" Vp)
  (i3:FnI K "are_wholes" Oh)
  (i4:FnI K "is_rising" Qa)
  (i5:FnI K "are_rising_within" Gm)
  (i6:FnI K "is_name" Sx)
  (i7:FnI K "is_device" Qc)
  (i8:FnI K "is_spur_device" JV)
  (i9:FnI K "is_spur" Sw)
  (i10:FnI K "is_place" Ra)
  (i11:FnI K "is_loop" Sy)
  (i12:FnI K "is_zone" Sv)
  (i13:FnI K "are_loops" Qe)
  (i14:FnI K "are_zones" Qd)
  (i15:FnI K "is_plan" Pj)
  (i16:FnI K "place_devices" KY)
  (i17:FnI K "devices" SJ)
  (i18:FnI K "stretches" Mh)
  (i19:FnI K "openers" Pg)
  (i20:FnI K "parts" Yi)
  (i21:FnI K "address_twice" Iu)
  (i22:FnI K "part_crowded" Le)
  (i23:FnI K "address_stranger" Jc)
  (i24:FnI K "address_shared" JX)
  (i25:FnI K "wrong" T5)
  (i26:FnI K "is_let_by" Mi)
  (i27:FnI K "spur_pieces" Nk)
  (i28:FnI K "come_to" SM)
  (i29:FnI K "has_short" Mj)
  (i30:FnI K "comes_to_short" JW)
  (i31:FnI K "_law_bag" Yj)
  (i32:FnI K "_law_take" Vm)
  (i33:FnI K "_law_name" Q8)
  (i34:FnI K "_law_names" Ph)
  (i35:FnI K "_law_loop" Vn)
  (i36:FnI K "_law_parts" Ss)
  (i37:FnI K "_law_plan" Lf)
  (i38:FnI K "_law_kind" Vo)
  (i39:FnI K "_law_stretches" JN)
  (i40:FnI K "_law_befall" Q9)
  (i41:FnI K "_law_troubled" Og)
  (i42:FnI K "_law_refused" PX)
  (al:nsIn K mainGlobals "law"=some (some (.ref fl))) (ll:K.lookup fl=some ⟨ocl,odl,.func (fnOf "law" "law" (Eo JM) (Dg JM) (Aj JM) .none kVl dcl pml anl cdl ctl),sll⟩) (cl:codeIn K cdl "law"=true) (kl:keepIn K (.ref fl)=true)
  (pg:plainGet K C Str.empty=true) (hd:hasDictIn K C=true) (po:PySem.W.plainOver K C=true) (sa:findIn K (.ref C) "__setattr__"=some (some (.builtin "object.__setattr__"))) (mk:makesIn K C=true) (kc:keepIn K (.ref C)=true)
  (n0:findIn K (.ref C) "plan"=some none)
  (n1:findIn K (.ref C) "states"=some none)
  (n2:findIn K (.ref C) "filled"=some none)
  (n3:findIn K (.ref C) "gaps"=some none)
  (z0:nsIn K mainGlobals "isinstance"=some none)
  (z1:nsIn K mainGlobals "int"=some none)
  (z2:nsIn K mainGlobals "bool"=some none)
  (z3:nsIn K mainGlobals "tuple"=some none)
  (z4:nsIn K mainGlobals "list"=some none)
  (z5:nsIn K mainGlobals "str"=some none)
  (z6:nsIn K mainGlobals "len"=some none)
  (z7:nsIn K mainGlobals "all"=some none)
  (z8:nsIn K mainGlobals "abs"=some none)
  (z9:nsIn K mainGlobals "max"=some none)
  (z10:nsIn K mainGlobals "min"=some none)
  (z11:nsIn K mainGlobals "range"=some none)
  (z12:nsIn K mainGlobals "sorted"=some none)
  (z13:nsIn K mainGlobals "any"=some none)
  (z14:nsIn K mainGlobals "sum"=some none)
  (z15:nsIn K mainGlobals "enumerate"=some none)
  (z16:nsIn K mainGlobals "zip"=some none)
  (z17:nsIn K mainGlobals "reversed"=some none)
  (z18:nsIn K mainGlobals "dict"=some none)
  (z19:nsIn K mainGlobals "ord"=some none)
  {op oe:Addr} {odo ode:Option Addr} {no ne:Nat} {slo sle:YI} {tks tko:Tok} {kd wk:Addr} {odk odw:Option Addr} {nk nw:Nat} {slk slw:YI} {tq1 tq2 tq3 tq4 tq5 tq6 Hk:Tok} {hc u0 u1 u2 u3 u4 u5 u6 u7 u8 u9 u10 u11 u12:Addr}
  (ao:nsIn K mainGlobals "OPENER"=some (some (.ref op)))
  (lo:K.lookup op=some ⟨.type "tuple",odo,.seq #[.str "opener" tks,.int 0 tko,.ref oe] no,slo⟩)
  (lq2:K.lookup oe=some ⟨.type "tuple",ode,.seq #[] ne,sle⟩)
  (aKd:nsIn K mainGlobals "KINDS"=some (some (.ref kd)))
  (lKd:K.lookup kd=some ⟨.type "tuple",odk,.seq #[.str "seeker" tq1,.str "knob" tq2,.str "bell" tq3,.str "door" tq4] nk,slk⟩)
  (aWk:nsIn K mainGlobals "WARNING_KINDS"=some (some (.ref wk)))
  (lWk:K.lookup wk=some ⟨.type "tuple",odw,.seq #[.str "seeker" tq5,.str "knob" tq6] nw,slw⟩)
  (aSL:nsIn K mainGlobals "SMALL_LETTERS"=some (some (.str "abcdefghijklmnopqrstuvwxyz" Hk)))
  (xzv:nsIn K mainGlobals "ValueError"=some none)
  (xeh:nsIn K mainGlobals "HouseError"=some (some (.ref hc)))
  (xe0:nsIn K mainGlobals "NoPlan"=some (some (.ref u0)))
  (xe1:nsIn K mainGlobals "NoText"=some (some (.ref u1)))
  (xe2:nsIn K mainGlobals "NoStretch"=some (some (.ref u2)))
  (xe3:nsIn K mainGlobals "NoSpot"=some (some (.ref u3)))
  (xe4:nsIn K mainGlobals "NoOpener"=some (some (.ref u4)))
  (xe5:nsIn K mainGlobals "NoAddress"=some (some (.ref u5)))
  (xe6:nsIn K mainGlobals "NoRules"=some (some (.ref u6)))
  (xe7:nsIn K mainGlobals "NoHand"=some (some (.ref u7)))
  (xe8:nsIn K mainGlobals "NoPanel"=some (some (.ref u8)))
  (xe9:nsIn K mainGlobals "NoLink"=some (some (.ref u9)))
  (uD:nsIn K mainGlobals "NoLog"=some (some (.ref u10)))
  (uy:nsIn K mainGlobals "NoDeed"=some (some (.ref u11)))
  (ux:nsIn K mainGlobals "NoRow"=some (some (.ref u12)))
  (xhx:excIn K hc [.type "ValueError",.type "Exception",.type "BaseException",.type "object"] "ValueError.__new__"=true)
  (xha:findIn K (.ref hc) "__getattribute__"=some (some (.builtin "BaseException.__getattribute__")))
  (xhn:findIn K (.ref hc) "__getattr__"=some none)
  (xhc:findIn K (.ref hc) "__class__"=some (some (.builtin "object.__class__")))
  (xho:subIn K (.ref hc) (.type "object")=some true)
  (xhb:subIn K (.ref hc) (.type "BaseException")=some true)
  (xhk:keepIn K (.ref hc)=true)
  (w5:excIn K u0 [.type "ValueError",.type "Exception",.type "BaseException",.type "object"] "ValueError.__new__"=true)
  (xK:findIn K (.ref u0) "__getattribute__"=some (some (.builtin "BaseException.__getattribute__")))
  (xu:findIn K (.ref u0) "__getattr__"=some none)
  (xH:findIn K (.ref u0) "__class__"=some (some (.builtin "object.__class__")))
  (w6:subIn K (.ref u0) (.type "object")=some true)
  (xJ:subIn K (.ref u0) (.type "BaseException")=some true)
  (xG:keepIn K (.ref u0)=true)
  (wL:subIn K (.ref u0) (.ref hc)=some true)
  (wZ:kitOne K (.ref u0) (.ref u0)=some true)
  (wY:kitOne K (.ref u0) (.ref u1)=some false)
  (wX:kitOne K (.ref u0) (.ref u2)=some false)
  (wW:kitOne K (.ref u0) (.ref u3)=some false)
  (wV:kitOne K (.ref u0) (.ref u4)=some false)
  (wU:kitOne K (.ref u0) (.ref u5)=some false)
  (wR:kitOne K (.ref u0) (.ref u6)=some false)
  (wQ:kitOne K (.ref u0) (.ref u7)=some false)
  (wO:kitOne K (.ref u0) (.ref u8)=some false)
  (wN:kitOne K (.ref u0) (.ref u9)=some false)
  (nj:kitOne K (.ref u0) (.ref u10)=some false)
  (ni:kitOne K (.ref u0) (.ref u11)=some false)
  (mZ:kitOne K (.ref u0) (.ref u12)=some false)
  (wM:kitOne K (.ref u0) (.type "ValueError")=some true)
  : ∃fd:FuncData,(∀(s:Shared) (v:Value),BindsTo s fd ⟨[v],[]⟩ [("_law_script",v)])/\∀base:Heap,K.In base->base.Ns mainGlobals mg->Hi l.prog w K mg base CX0 14 fa fd yX (Wf K):=by
 have e:=hfa.symm.trans (mg_of X G al);cases e;have TN:Nm mg:=⟨mg_none_of X G z0,mg_none_of X G z1,mg_none_of X G z2,mg_none_of X G z3,mg_none_of X G z4,mg_none_of X G z5,mg_none_of X G z6,mg_none_of X G z7,mg_none_of X G z8,mg_none_of X G z9,mg_none_of X G z10,mg_none_of X G z11,mg_none_of X G z12,mg_none_of X G z13,mg_none_of X G z14,mg_none_of X G z15,mg_none_of X G z16,mg_none_of X G z17,mg_none_of X G z18,mg_none_of X G z19⟩;have TX:Tx K mg op oe:=⟨TN,⟨_,mg_of X G ao,rq⟩,λH=>.inr ⟨_,_,_,lo,rq,rq,(by show 3<=sizeLine;decide),.cons ⟨_,rq⟩ (.cons ⟨_,rq⟩ (.cons rfl .nil))⟩,λH=>.inr ⟨_,_,_,lq2,rq,rq,(by show 0<=sizeLine;decide),.nil⟩⟩;have TY:Ty K mg op oe kd wk:={ toTx:=TX,KINDS:=⟨_,mg_of X G aKd,rq⟩,kdT:=λH=>.inr ⟨_,_,_,lKd,rq,rq,(by show 4<=sizeLine;decide),.cons ⟨_,rq⟩ (.cons ⟨_,rq⟩ (.cons ⟨_,rq⟩ (.cons ⟨_,rq⟩ .nil)))⟩,WARNING_KINDS:=⟨_,mg_of X G aWk,rq⟩,wkT:=λH=>.inr ⟨_,_,_,lWk,rq,rq,(by show 2<=sizeLine;decide),.cons ⟨_,rq⟩ (.cons ⟨_,rq⟩ .nil)⟩,SMALL_LETTERS:=⟨_,mg_of X G aSL,⟨_,rq⟩⟩ };have T:Tw K mg op oe kd wk C:={ toTy:=TY,cl:=⟨pg,hd,po,sa⟩,mgC:=mg_of X G aC,dB:=n0,Gh:=n1,Kc:=n2,G9:=n3 };have XE:Er K mg hc u0 u1 u2 u3 u4 u5 u6 u7 u8 u9 u10 u11 u12:=⟨mg_none_of X G xzv,mg_of X G xeh,⟨xhx,xha,xhn,xhc,xho,xhb,xhk⟩,mg_of X G xe0,mg_of X G xe1,mg_of X G xe2,mg_of X G xe3,mg_of X G xe4,mg_of X G xe5,mg_of X G xe6,mg_of X G xe7,mg_of X G xe8,mg_of X G xe9,mg_of X G uD,mg_of X G uy,mg_of X G ux⟩;have Jj:Knd K hc u0 [u0,u1,u2,u3,u4,u5,u6,u7,u8,u9,u10,u11,u12] 0:=⟨⟨w5,xK,xu,xH,w6,xJ,xG⟩,wL,F3 (j:=0) wZ wY wX wW wV wU wR wQ wO wN nj ni mZ,wM⟩;have Xq:=m0.init (ps:=Di) mk kc (fnA λ_ _ _ _ _ _ _ _=>rfl);have Xp:=m1.code (ps:=Cr) (fnA λ_ _ _ _ _ _ _ _=>rfl);have gA:=m2.code (ps:=DR) (fnA λ_ _ _ _ _ _ _ _=>rfl);have G1:=m3.code (ps:=JG) (fnA λ_ _ _ _ _ _ _ _=>rfl);have BD:=m4.code (ps:=HF) (fnA λ_ _ _ _ _ _ _ _=>rfl);have Fc:=m5.code (ps:=G8) (fnA λ_ _ _ _ _ _ _ _=>rfl);have G0:=m6.code (ps:=JF) (fnA λ_ _ _ _ _ _ _ _=>rfl);have oJ:=m7.code (ps:=Gg) (fnA λ_ _ _ _ _ _ _ _=>rfl);have yE:=m8.code (ps:=G6) (fnA λ_ _ _ _ _ _ _ _ _ _=>rfl);have BC:=m9.code (ps:=Hz) (fnA λ_ _ _ _ _ _ _=>rfl);have yF:=m10.code (ps:=G7) (fnA λ_ _ _ _ _ _ _=>rfl);have G2:=m11.code (ps:=Il) (fnA λ_ _ _ _ _ _ _ _=>rfl);have Zg:=m12.code (ps:=Dl) (fnA λ_ _ _ _ _ _ _=>rfl);have BE:=m13.code (ps:=HN) (fnA λ_ _ _ _ _ _ _ _ _=>rfl);have Xw:=i0.code (ps:=Gx) X G (fnA λ_ _ _ _ _ _ _=>rfl);have iR:=i1.code (ps:=Et) X G (fnA λ_ _ _ _ _ _ _ _ _=>rfl);have yL:=i2.code (ps:=Dz) X G (fnA λ_ _ _ _ _ _ _ _ _=>rfl);have gD:=i3.code (ps:=Ge) X G (fnA λ_ _ _ _ _ _ _ _=>rfl);have iU:=i4.code (ps:=JD) X G (fnA λ_ _ _ _ _ _ _=>rfl);have RM:=i5.code (ps:=Em) X G (fnA λ_ _ _ _ _ _ _ _ _ _ _=>rfl);have uo:=i6.code (ps:=M4) X G (fnA λ_ _ _ _ _ _ _=>rfl);have iV:=i7.code (ps:=Ih) X G (fnA λ_ _ _ _ _ _ _ _=>rfl);have V6:=i8.code (ps:=Gd) X G (fnA λ_ _ _ _ _ _ _=>rfl);have um:=i9.code (ps:=MP) X G (fnA λ_ _ _ _ _ _ _=>rfl);have oR:=i10.code (ps:=K1) X G (fnA λ_ _ _ _ _ _ _=>rfl);have uq:=i11.code (ps:=M5) X G (fnA λ_ _ _ _ _ _ _=>rfl);have uh:=i12.code (ps:=MN) X G (fnA λ_ _ _ _ _ _ _=>rfl);have iZ:=i13.code (ps:=Ik) X G (fnA λ_ _ _ _ _ _ _=>rfl);have iY:=i14.code (ps:=Ij) X G (fnA λ_ _ _ _ _ _ _=>rfl);have ZV:=i15.code (ps:=Hl) X G (fnA λ_ _ _ _ _ _ _=>rfl);have Xv:=i16.code (ps:=Fp) X G (fnA λ_ _ _ _ _ _ _ _ _=>rfl);have ur:=i17.code (ps:=Fb) X G (fnA λ_ _ _ _ _ _ _=>rfl);have iM:=i18.code (ps:=Ig) X G (fnA λ_ _ _ _ _ _ _=>rfl);have tX:=i19.code (ps:=Kv) X G (fnA λ_ _ _ _ _ _ _=>rfl);have BF:=i20.code (ps:=QC) X G (fnA λ_ _ _ _ _ _ _ _=>rfl);have PL:=i21.code (ps:=Dt) X G (fnA λ_ _ _ _ _ _ _=>rfl);have Zi:=i22.code (ps:=G5) X G (fnA λ_ _ _ _ _ _ _=>rfl);have Tv:=i23.code (ps:=Fd) X G (fnA λ_ _ _ _ _ _ _=>rfl);have V8:=i24.code (ps:=Gf) X G (fnA λ_ _ _ _ _ _ _=>rfl);have j9:=i25.code (ps:=Ku) X G (fnA λ_ _ _ _ _ _ _=>rfl);have Vb:=i26.code (ps:=FT) X G (fnA λ_ _ _ _ _ _ _=>rfl);have aA:=i27.code (ps:=Hv) X G (fnA λ_ _ _ _ _ _ _ _ _=>rfl);have uw:=i28.code (ps:=Kw) X G (fnA λ_ _ _ _ _ _ _ _ _ _=>rfl);have iW:=i29.code (ps:=Ii) X G (fnA λ_ _ _ _ _ _ _ _=>rfl);have V7:=i30.code (ps:=En) X G (fnA λ_ _ _ _ _ _ _ _ _=>rfl);have BG:=i31.code (ps:=QD) X G (fnA λ_ _ _ _ _ _ _ _=>rfl);have yG:=i32.code (ps:=Gb) X G (fnA λ_ _ _ _ _ _ _ _=>rfl);have yI:=i33.code (ps:=Ox) X G (fnA λ_ _ _ _ _ _ _=>rfl);have ug:=i34.code (ps:=MK) X G (fnA λ_ _ _ _ _ _ _ _=>rfl);have yJ:=i35.code (ps:=Oz) X G (fnA λ_ _ _ _ _ _ _ _ _=>rfl);have uf:=i36.code (ps:=MJ) X G (fnA λ_ _ _ _ _ _ _=>rfl);have yH:=i37.code (ps:=Ow) X G (fnA λ_ _ _ _ _ _ _ _ _=>rfl);have yK:=i38.code (ps:=OD) X G (fnA λ_ _ _ _ _ _ _=>rfl);have aB:=i39.code (ps:=Hw) X G (fnA λ_ _ _ _ _ _ _=>rfl);have oO:=i40.code (ps:=KZ) X G (fnA λ_ _ _ _ _ _ _ _ _ _=>rfl);have gC:=i41.code (ps:=Jh) X G (fnA λ_ _ _ _ _ _ _ _ _ _ _=>rfl);have iQ:=i42.code (ps:=JC) X G (fnA λ_ _ _ _ _ _ _ _=>rfl);have Hb:=Xi (st:=JM) ll cl kl;refine⟨fnOf "law" "law" (Eo JM) (Dg JM) (Aj JM) .none kVl dcl pml anl cdl ctl,λs v=>.of_eq rfl,λbase _ _=>?_⟩;have Ul:=v7⁻¹ BG TN;have Bl:=qt⁻¹ yG TN;have GM:=S7⁻¹ Xw TN;have OE:=gU⁻¹ Xw TN;have d9:=cT⁻¹ iR TN OE;have O5:=qu⁻¹ yL TN;have yh:=Z5⁻¹ gD TN GM O5;have NX:=cU⁻¹ iU TY;have NW:=Z6⁻¹ RM TY O5 d9 NX;have Op:=mG⁻¹ uo TY;have EJ:=cW⁻¹ iV TY d9;have NV:=Uy⁻¹ V6 TY O5 EJ;have NR:=mD⁻¹ um TY O5 NV;have Of:=gY⁻¹ oR TY O5 d9 EJ NR;have Oy:=mH⁻¹ uq TY O5 Of;have NJ:=mC⁻¹ uh TY O5 Op NW;have EI:=cZ⁻¹ iZ TY O5 Oy;have ED:=cY⁻¹ iY TY O5 NJ;have EF:=Vt⁻¹ Xv TX;have VJ:=mJ⁻¹ ur TX EF;have EE:=cR⁻¹ iM TX;have EG:=mz⁻¹ tX TX;have N0:=vY⁻¹ BF TX EF;have N4:=mF⁻¹ ZV TY O5 d9 (YX EI λ_ _ _ _ h=>.inl h) (YX ED λ_ _ _ _ h=>.inl h) VJ;have OL:=Vv⁻¹ PL TY VJ;have OI:=WQ⁻¹ Zi TY N0;have OM:=RJ⁻¹ Tv TY VJ;have NU:=UJ⁻¹ V8 TY;have NL:=vU⁻¹ j9 TY OL OI OM NU;have OB:=cV⁻¹ Vb TY N4 NL;have nR:=Vu⁻¹ Xp T yh;have OH:=C1⁻¹ G1 T nR;have NS:=vX⁻¹ BD T nR;have EH:=AF⁻¹ Fc T nR;have OF:=v9⁻¹ Xq T OB EE VJ EG;have GG:=Yr⁻¹ aA T;have zy:=mK⁻¹ uw T GG;have zq:=cX⁻¹ iW T;have zu:=Uz⁻¹ V7 T zy zq;have GI:=qp⁻¹ yF T;have zA:=C2⁻¹ G2 T yh zu;have zx:=WR⁻¹ Zg T zu zA;have GN:=wg⁻¹ BE T zy zq;have Os:=AE⁻¹ yI TN Bl;have On:=vZ⁻¹ ug TN Os;have OA:=AG⁻¹ yJ TN Bl;have N1:=qm⁻¹ uf TN;have N3:=AD⁻¹ yH TN Bl OA N1 On;have GE:=vW⁻¹ aB T;have OK:=qw⁻¹ oO T Bl OH NS EH;have EK:=Z4⁻¹ gA T yh;have NN:=gR⁻¹ oJ T EK;have N9:=qj⁻¹ yE T EK;have NO:=vV⁻¹ BC T;have GH:=gW⁻¹ ZV TY O5 d9 EI ED VJ;have GO:=UG⁻¹ PL TY VJ;have GB:=qg⁻¹ j9 TY GO;have GL:=Z2⁻¹ Vb TY GH GB;have h_kind:=AH⁻¹ yK TN XE;have OC:=v8⁻¹ Xq T XE Jj GL EE VJ EG;have NY:=mq⁻¹ iQ T XE Jj Bl OC h_kind;have OG:=C0⁻¹ G0 T nR;have NM:=gQ⁻¹ gC T Bl OK zA NN N9 zx;exact CY Hb T Ul Bl N3 OF GE NM NY NO EH OG zx GI GN
theorem walk {l:PySem.W.OpenLaw} {q:Program} {loose:YF} {XP:(YB)->Heap->Prop} {YP:World->Heap->Prop} {d:DefRec} {K:Params->YD} (hn:l.most=some 63) (hdf:d.params.defaults=[])
  (hY:∀(w:World) (h:Heap),YP w h->(K w.params).In h)
  (F:∀(w:World) (mg:YB) (fa:Addr) (h:Heap),(K w.params).In h->h.Ns mainGlobals mg->mg d.name=some (.ref fa) ->
   ∃fd:FuncData,(∀(s:Shared) (u:Value),BindsTo s fd ⟨[u],[]⟩ [("_law_script",u)])/\∀base:Heap,(K w.params).In base->base.Ns mainGlobals mg->Hi l.prog w (K w.params) mg base CX0 14 fa fd yX (Wf (K w.params))) :
  PySem.W.WalkO q loose XP YP l.row.toRowW d [] (λf vs=>PySem.call f vs):=
 L2.zO (n:=63) (k:=14) (x:="_law_script") (CX:=λ_=>CX0) (sp:=λw=>Wf (K w.params)) hn (by decide) hdf ⟨rq,by decide,by decide⟩ hY F (λ_ _ a ns hl _ hS=>⟨a,ns,rq,hS,hl,λ_=>rfl⟩) λ_ _ _ _ _ z=>z
end K13
namespace PySem.W.Fast
def tw18353519841579774701:=0
def tw10815714435368910644:=0
def tw3449483820496262948:=0
def tw8806782748867757278:=0
def tw16811769188367013076:=0
def tw3023430662751121529:=0
def tw10684345071726465747:=0
def tw11601554663276449:=0
def tw13817697538723298832:=0
def tw8229039558104840665:=0
def tw13313601082463597712:=0
def tw15758817503370461024:=0
def tw3628357369287929345:=0
def tw15697720288612773367:=0
def tw1835183110471523685:=0
def tw4680929528172896717:=0
def tw10562998572109465204:=0
def tw7538688025105258344:=0
def tw6455112535415428848:=0
def tw13868590928476839626:=0
def tw14283027168662228678:=0
def tw16617258673431732184:=0
def tw17615235250500503396:=0
def tw18367525759515243465:=0
def tw14316080738456875769:=0
def tw5712353127091722578:=0
def tw10019372581712419283:=0
def tw9554729251076717562:=0
def tw16691235302501007122:=0
def tw14390092412305710119:=0
def tw2982680212866411097:=0
def tw11035577962980253614:=0
def tw4407600581089072069:=0
def tw17338418261744670089:=0
def tw52258302282420772:=0
def tw7056633693660523292:=0
def tw8833410576580380985:=0
def tw15806490025867890294:=0
def tw18000406129400948804:=0
def tw6382902099637577645:=0
def tw1843667977120550602:=0
def tw13249643276619516600:=0
def tw15214312688277325814:=0
def tw4336773619808132294:=0
def tw17769477330697476681:=0
def tw14878407597695506241:=0
def tw4897004976401385404:=0
def tw2508960663715720893:=0
def tw2108946218030873865:=0
def tw7810784641420595450:=0
def tw1891651151651571871:=0
def tw6999568350781540024:=0
def tw500082435018370641:=0
def tw15248084374780334571:=0
def tw15940367652563672153:=0
def tw2468674540027980389:=0
def tw17992251234833990215:=0
def tw12641126318380715037:=0
def tw11185499583438584942:=0
def tw16520361567705472807:=0
def tw10187097443879413326:=0
def tw11392275957397223553:=0
def tw10521908329378500851:=0
def tw10212362071868055392:=0
def tw151938209586990602:=0
def tw7403479566994808844:=0
def tw9722770763439221849:=0
def tw5534663103550309518:=0
def tw4654895163571248059:=0
def tw2859011707369486995:=0
def tw6659257301142462392:=0
def tw4175513688344485547:=0
def tw720638871598137074:=0
def tw7716880155410150977:=0
def tw1511382931760408484:=0
def tw9752178826053148229:=0
def tw15290622298448938142:=0
def tw5052560719674279370:=0
def tw11946203015285268835:=0
def tw7631579043621431266:=0
def tw11097189744560456119:=0
def tw11723786274558804869:=0
def tw16744707089059599376:=0
def tw1816999362268708354:=0
def tw3975216291428223245:=0
def tw16573122756825305956:=0
def tw2973073979172886984:=0
def tw9335479032351171376:=0
def tw10780147902988042585:=0
def tw13361519186481866293:=0
def tw5007795943126793532:=0
def tw16397406921362097908:=0
def tw7297406437295417094:=0
def tw1160845493246407872:=0
def tw8737155526612213417:=0
def tw8722527986367359004:=0
def tw2356722310104495267:=0
def tw5106508550295473938:=0
def tw6776527438319814050:=0
def tw13261521660980620731:=0
def tw17305191876279323963:=0
def tw4913038020117434088:=0
def tw1851564093471711071:=0
def tw12239564902835752241:=0
def tw7207823930795289699:=0
def tw10245137050099043723:=0
def tw13586681062424769838:=0
def tw11460573455239453363:=0
def tw1922035269963177494:=0
def tw18031566476963398314:=0
def tw16824078966478581106:=0
def tw2856191611505442732:=0
def tw5933262321978043746:=0
def tw14246256459441722542:=0
def tw5064851619902562717:=0
def tw15291656650401540525:=0
def tw10333252103051451570:=0
def tw12452202458815769632:=0
def tw10500829696893800030:=0
def tw6222966048010186947:=0
def tw4026011314148516895:=0
def tw3072989097432543071:=0
def tw17109767076744209241:=0
def tw363524539105427401:=0
def tw2773869680765558391:=0
def tw10567024052416079316:=0
end PySem.W.Fast
open PySem PySem.W PyProof.Rows
set_option maxRecDepth 100000 in
set_option maxHeartbeats 0 in
theorem PySem.Challenge.cw_warnloop_k13_whole_mended_as_at_first_holds : PySem.Challenge.rw_warnloop_k13_whole_mended_as_at_first.Holds := by
 w_on;o_law;k_head;(case hw=>w_witness2)
 k_fill
 refine K13.walk (l:=PySem.Challenge.rw_warnloop_k13_whole_mended_as_at_first) rfl rfl (λw h Y=>PySem.W.kIn_of Y) ?F
 case F=>
  intro w mg fa h KX G hmg
  refine' K13.all_mk KX G hmg ?aC (.of ?am0 ?bm0 ?lm0 ?cm0 ?km0) (.of ?am1 ?bm1 ?lm1 ?cm1 ?km1) (.of ?am2 ?bm2 ?lm2 ?cm2 ?km2) (.of ?am3 ?bm3 ?lm3 ?cm3 ?km3) (.of ?am4 ?bm4 ?lm4 ?cm4 ?km4) (.of ?am5 ?bm5 ?lm5 ?cm5 ?km5) (.of ?am6 ?bm6 ?lm6 ?cm6 ?km6) (.of ?am7 ?bm7 ?lm7 ?cm7 ?km7) (.of ?am8 ?bm8 ?lm8 ?cm8 ?km8) (.of ?am9 ?bm9 ?lm9 ?cm9 ?km9) (.of ?QR ?QA ?Jn ?OX ?LH) (.of ?QQ ?Qr ?IZ ?OW ?LG) (.of ?QP ?Qb ?IY ?OV ?LF) (.of ?QO ?P9 ?IX ?OU ?LE) (.of ?ai0 ?li0 ?ci0 ?ki0) (.of ?ai1 ?li1 ?ci1 ?ki1) (.of ?ai2 ?li2 ?ci2 ?ki2) (.of ?ai3 ?li3 ?ci3 ?ki3) (.of ?ai4 ?li4 ?ci4 ?ki4) (.of ?ai5 ?li5 ?ci5 ?ki5) (.of ?ai6 ?li6 ?ci6 ?ki6) (.of ?ai7 ?li7 ?ci7 ?ki7) (.of ?ai8 ?li8 ?ci8 ?ki8) (.of ?ai9 ?li9 ?ci9 ?ki9) (.of ?So ?Lm ?P8 ?MS) (.of ?Sn ?Ll ?P7 ?MR) (.of ?Sm ?Lc ?P6 ?MQ) (.of ?Sl ?K2 ?P5 ?MO) (.of ?Sk ?K0 ?P4 ?MM) (.of ?Sj ?KW ?P3 ?ML) (.of ?Si ?KU ?P2 ?MI) (.of ?Sf ?KS ?P1 ?MH) (.of ?Se ?KP ?PZ ?MG) (.of ?Sc ?KO ?PY ?ME) (.of ?Sb ?KM ?PV ?MD) (.of ?Sa ?KL ?PU ?MC) (.of ?RY ?KK ?PR ?MB) (.of ?RU ?KI ?PQ ?MA) (.of ?RS ?KG ?PP ?My) (.of ?RR ?KF ?PM ?Mo) (.of ?RO ?KE ?PH ?Mn) (.of ?RI ?KB ?PD ?Mm) (.of ?RH ?KA ?Pw ?Me) (.of ?RF ?Kx ?Pt ?Md) (.of ?RE ?Kt ?Ps ?Mc) (.of ?RC ?Kk ?Pp ?Mb) (.of ?RA ?Kj ?Po ?L9) (.of ?Rs ?Ki ?Pl ?L8) (.of ?Rl ?Kb ?Pi ?LZ) (.of ?Re ?JY ?Pf ?LW) (.of ?Rc ?JU ?Pe ?LP) (.of ?Q4 ?JP ?Pd ?LO) (.of ?Q3 ?JO ?Pc ?LN) (.of ?Q2 ?JJ ?O3 ?LM) (.of ?Q1 ?JI ?O0 ?LL) (.of ?QY ?JE ?OZ ?LJ) (.of ?QU ?JA ?OY ?LI) ?al ?ll ?cl ?kl ?pg ?hd ?po ?sa ?mk ?kc ?n0 ?n1 ?n2 ?n3 ?z0 ?z1 ?z2 ?z3 ?z4 ?z5 ?z6 ?z7 ?z8 ?z9 ?z10 ?z11 ?z12 ?z13 ?z14 ?z15 ?z16 ?z17 ?z18 ?z19 ?ao ?lo ?lq2 ?aKd ?lKd ?aWk ?lWk ?aSL ?xzv ?xeh ?xe0 ?xe1 ?xe2 ?xe3 ?xe4 ?xe5 ?xe6 ?xe7 ?xe8 ?xe9 ?uD ?uy ?ux ?xhx ?xha ?xhn ?xhc ?xho ?xhb ?xhk ?w5 ?xK ?xu ?xH ?w6 ?xJ ?xG ?wL ?wZ ?wY ?wX ?wW ?wV ?wU ?wR ?wQ ?wO ?wN ?nj ?ni ?mZ ?wM
  (case aC | am0 | bm0 | lm0 | cm0 | km0 | am1 | bm1 | lm1 | cm1 | km1 | am2 | bm2 | lm2 | cm2 | km2 | am3 | bm3 | lm3 | cm3 | km3 | am4 | bm4 | lm4 | cm4 | km4 | am5 | bm5 | lm5 | cm5 | km5 | am6 | bm6 | lm6 | cm6 | km6 | am7 | bm7 | lm7 | cm7 | km7 | am8 | bm8 | lm8 | cm8 | km8 | am9 | bm9 | lm9 | cm9 | km9 | QR | QA | Jn | OX | LH | QQ | Qr | IZ | OW | LG | QP | Qb | IY | OV | LF | QO | P9 | IX | OU | LE | ai0 | li0 | ci0 | ki0 | ai1 | li1 | ci1 | ki1 | ai2 | li2 | ci2 | ki2 | ai3 | li3 | ci3 | ki3 | ai4 | li4 | ci4 | ki4 | ai5 | li5 | ci5 | ki5 | ai6 | li6 | ci6 | ki6 | ai7 | li7 | ci7 | ki7 | ai8 | li8 | ci8 | ki8 | ai9 | li9 | ci9 | ki9 | So | Lm | P8 | MS | Sn | Ll | P7 | MR | Sm | Lc | P6 | MQ | Sl | K2 | P5 | MO | Sk | K0 | P4 | MM | Sj | KW | P3 | ML | Si | KU | P2 | MI | Sf | KS | P1 | MH | Se | KP | PZ | MG | Sc | KO | PY | ME | Sb | KM | PV | MD | Sa | KL | PU | MC | RY | KK | PR | MB | RU | KI | PQ | MA | RS | KG | PP | My | RR | KF | PM | Mo | RO | KE | PH | Mn | RI | KB | PD | Mm | RH | KA | Pw | Me | RF | Kx | Pt | Md | RE | Kt | Ps | Mc | RC | Kk | Pp | Mb | RA | Kj | Po | L9 | Rs | Ki | Pl | L8 | Rl | Kb | Pi | LZ | Re | JY | Pf | LW | Rc | JU | Pe | LP | Q4 | JP | Pd | LO | Q3 | JO | Pc | LN | Q2 | JJ | O3 | LM | Q1 | JI | O0 | LL | QY | JE | OZ | LJ | QU | JA | OY | LI=>k_is)
  (case al | ll | cl | kl | pg | hd | po | sa | mk | kc | n0 | n1 | n2 | n3 | z0 | z1 | z2 | z3 | z4 | z5 | z6 | z7 | z8 | z9 | z10 | z11 | z12 | z13 | z14 | z15 | z16 | z17 | z18 | z19 | ao | lo | lq2 | aKd | lKd | aWk | lWk | aSL | xzv | xeh | xe0 | xe1 | xe2 | xe3 | xe4 | xe5 | xe6 | xe7 | xe8 | xe9 | uD | uy | ux=>k_is)
  (case xhx=>k_exc)
  (case xha | xhn | xhc | xho | xhb | xhk=>k_is)
  (case w5=>k_exc)
  (case xK | xu | xH | w6 | xJ | xG | wL=>k_is)
  (case wZ | wY | wX | wW | wV | wU | wR | wQ | wO | wN | nj | ni | mZ | wM=>kit_is)
