import PyProof.Rows.All
import Wide.All
import OpenK.AllK
import Wide.FinOn
import Lean
import PyProof.EqAt
import PyProof.EqKinds
import PyProof.TupleCall
import PySem.Challenge.RW_warnloop_k44_heard_with
set_option compiler.extract_closed false
local macro_rules|`(command|def $n:declId $s:optDeclSig $v:declVal)=>`(command|noncomputable def $n $s:optDeclSig $v:declVal)|`(command|abbrev $n:declId $s:optDeclSig $v:declVal)=>`(command|noncomputable abbrev $n $s:optDeclSig $v:declVal)
local macro_rules|`(universe $x*)=>return Lean.mkNullNode (← x.mapM λx=>`(command|def $x:ident:=0))
local macro_rules|`({$x:term,$y:term,*})=>`(⟨$x,$y,*⟩)
local macro_rules|`(tactic|lia)=>`(tactic|omega)
set_option linter.all false
set_option Elab.async false
set_option maxRecDepth 100000
set_option maxHeartbeats 4000000
set_option hygiene false
local macro_rules|`($i∣$n)=>`(Aj (i:=$i) ($n).nd rfl (Or.inl rfl))
local macro_rules|`($i∪$n∪$e)=>`(Az (i:=$i) ($n).nd rfl (Or.inl rfl) $e)
local macro_rules|`(nofun)=>`(Bj.plain rfl (by trivial) (by trivial) (by trivial))
local macro_rules|`($s|||$a|||$b)=>`(Bj.of (src:=$s) $a $b rfl rfl rfl (by trivial) (by trivial) (by trivial) rfl (by trivial))
local macro_rules|`($i∩$n)=>`(Aj (i:=$i) (show List.Nodup (($n):YF) by trivial) rfl (Or.inl rfl))
local macro_rules|`(tactic|intros $xs:ident*)=>`(tactic|intro jb s U H $xs*)
local macro_rules|`($h^^^$s)=>`(Inv X jb U $h $s)
local macro_rules|`(~~~$e)=>`(λ_ _ _ _=>$e)
local macro_rules|`(0&&&$r $s)=>`(@Aa _ _ _ _ _ (@Af _ _ _ _) $r $s)
local macro_rules|`(⋯)=>`(Good P w K mg base)
local macro_rules|`(‹$x›)=>`(wpAny (model ($x).prog ($x).w) ($x).A)
local macro_rules|`($f⁻¹)=>`($f (P:=l.prog) (w:=w) (base:=base))
local macro_rules|`(tactic|exists $c,$s)=>`(tactic|refine ($c).good $s (by nofun) λ_ _ _ _ _ H vs Q E hr h=>?_)
local macro_rules|`(∅)=>`(s.heap.objs.size)
set_option hygiene true
abbrev YA:=PySem.Value→PySem.Shared→Prop
abbrev YH:=Unit→PySem.Shared→Prop
abbrev YB:=PySem.Str→Option PySem.Value
abbrev YC:=List (PySem.Addr×PySem.Obj)
abbrev YD:=PySem.W.Frag
abbrev YI:=Array (Option PySem.Value)
abbrev YE:=List PySem.Value
abbrev YF:=List PySem.Str
abbrev YJ:=List PySem.Expr
abbrev YK:=Array PySem.DictEntry
theorem rq{j:Sort _}{a:j}:a=a:=rfl
local macro_rules|`(tactic|trivial)=>`(tactic|decide +kernel)
local macro_rules | `(tactic|nofun) => `(tactic|(intro _ _ _ _ h;first|(cases h;subst_vars;rfl)|repeat (first|(obtain ⟨e,_⟩:=h;subst e;rfl)|obtain ⟨_,h⟩:=h)))
local macro_rules | `(tactic|ac_rfl) => `(tactic|exact ⟨rfl,rfl,rfl,by decide +kernel,rfl,by decide +kernel,by decide +kernel⟩)
set_option hygiene false
local macro_rules|`('a')=>`((fnA λ_ _ _ _ _ _ _=>rfl))|`('d')=>`((Bu k ps.length e))|`('f')=>`((x == ("__debug__":Str)))|`('g')=>`([V.bl (decide (8=j)),.bl (decide (9=j)),.bl (decide (10=j)),.bl (decide (11=j))])|`('h')=>`((Dg hw lp a (spN ps a) 1 (b || bS (CT hw ⟨lp,Bb a (a - st),0⟩))))|`('k')=>`((tupleKind (Bp prog w)))|`('l')=>`((cxC X N' sc s3 (upd H2 j.heap.objs.size (.lst [])) fp (X.pn++jb)))|`('m')=>`((λs=>!decide ((⟨s.lp,s.at_⟩ : Gt)∈gK ja k)))|`('p')=>`((s.heap.push { cls:=.type "tuple_iterator",data:=.fields #[.ref a,.int 0 0] }))
local macro_rules|`(00)=>`((by lia))|`(01)=>`((model prog w))|`(02)=>`([V.bl (decide (4=j)),.bl (decide (5=j)),.bl (decide (6=j)),.bl (decide (7=j))])|`(03)=>`([V.bl (decide (0=j)),.bl (decide (1=j)),.bl (decide (2=j)),.bl (decide (3=j))])|`(04)=>`((by simp))|`(05)=>`((by decide))|`(06)=>`(((1+j:Nat):Int))|`(07)=>`((λ_ _=>rfl))|`(08)=>`((Dg hw lp a (spN ps a) 1 (b || bS (CT hw ⟨lp,Bb a (a - st),0⟩))))|`(09)=>`((ps.length:Int))
set_option hygiene true
open PySem.W (instObj hideAll hideAll_get lookIn plainGet hasDictIn findIn isFn makesIn emptyDict looks_findIn keepIn kitOne kia_one callWith_K fnOf codeIn nsIn mg_of excIn subIn looks_subIn kat_cons mg_none_of)
abbrev Qaa:=@PyProof.Rows.slot_tupleiter_next
abbrev Qab:=@PyProof.Rows.slot_tuple_getitem
abbrev Qac:=@PySem.F.slot_dict_itemiterator_next
abbrev Qad:=@PySem.F.slot_dict_keyiterator_next
abbrev Qae:=@PyProof.Rows.callWith_type1
abbrev Qaf:=@Array.getElem?_eq_some_iff
abbrev Qag:=@List.nodup_iff_pairwise_ne
abbrev Qah:=@List.getElem?_eq_some_iff
abbrev Qai:=@Classical.byContradiction
abbrev Qaj:=@List.drop_eq_getElem_cons
abbrev Qak:=@List.pairwise_iff_getElem
abbrev Qal:=@List.mem_of_find?_eq_some
abbrev Qam:=@List.getElem?_eq_getElem
abbrev Qan:=@PySem.F.slot_list_append
abbrev Qao:=@PySem.F.type_list_append
abbrev Qap:=@PySem.F.slot_list_extend
abbrev Qaq:=@PySem.F.type_list_extend
abbrev Qar:=@PySem.F.plainAttrs_list
abbrev Qas:=@PySem.wpAny_callSpecial?_slot
abbrev Qat:=@List.filter_cons_of_neg
abbrev Qau:=@List.filter_cons_of_pos
abbrev Qav:=@PySem.wpAny_getItem_str_slice
abbrev Qaw:=@List.pairwise_singleton
abbrev Qax:=@PySem.Heap.get?_push_of_some
abbrev Qay:=@List.find?_cons_of_neg
abbrev Qaz:=@PySem.Heap.get?_update_other
abbrev QaA:=@List.find?_cons_of_pos
abbrev QaB:=@Option.map_eq_some_iff
abbrev QaC:=@List.mem_append_right
abbrev QaD:=@PySem.Heap.get?_update_self
abbrev QaE:=@List.length_singleton
abbrev QaF:=@List.length_filter_le
abbrev QaG:=@PySem.F.slot_dict_get
abbrev QaH:=@List.mem_of_getElem?
abbrev QaI:=@List.mem_cons_of_mem
abbrev QaJ:=@List.mem_append_left
abbrev QaK:=@PySem.codeAny_call_builtin
abbrev QaL:=@List.getElem?_of_mem
abbrev QaM:=@PySem.Heap.get?_push_size
abbrev QaN:=@beq_eq_false_iff_ne
abbrev QaO:=@List.flatMap_append
abbrev QaP:=@Array.length_toList
abbrev QaQ:=@List.map_congr_left
abbrev QaR:=@PySem.mem_of_lookup
abbrev QaS:=@PySem.Heap.SameBut.update
abbrev QaT:=@Int.toNat_of_nonneg
abbrev QaU:=@List.filter_sublist
abbrev QaV:=@List.length_append
abbrev QaW:=@List.mem_cons_self
abbrev QaX:=@Bool.false_ne_true
abbrev QaY:=@List.set_cons_zero
abbrev QaZ:=@List.set_cons_succ
abbrev Qba:=@Nat.lt_of_lt_of_le
abbrev Qbc:=@List.mem_singleton
abbrev Qbd:=@decide_eq_true_iff
abbrev Qbe:=@PySem.wpAny_pyIter_tuple
abbrev Qbf:=@PySem.wpAny_setField_rec
abbrev Qbg:=@List.filter_append
abbrev Qbh:=@PySem.wpAny_Call_Name_kw
abbrev Qbi:=@PySem.tupleKind_room_in1
abbrev Qbj:=@Int.emod_lt_of_pos
abbrev Qbl:=@List.size_toArray
abbrev Qbm:=@List.append_assoc
abbrev Qbn:=@List.getElem?_map
abbrev Qbo:=@Int.toNat_natCast
abbrev Qbp:=@PySem.wpAny_newObj_type
abbrev Qbq:=@of_decide_eq_true
abbrev Qbr:=@List.flatMap_cons
abbrev Qbs:=@PySem.wpAny_truthy_bool
abbrev Qbt:=@List.pairwise_map
abbrev Qbu:=@List.nodup_append
abbrev Qbv:=@PySem.wpAny_pyIter_list
abbrev Qbw:=@List.length_range
abbrev Qbx:=@PySem.wpAny_loadPart_at
abbrev Qby:=@List.take_length
abbrev Qbz:=@List.length_cons
abbrev QbA:=@List.length_take
abbrev QbB:=@List.not_mem_nil
abbrev QbC:=@PySem.wpAny_call_entry
abbrev QbD:=@List.length_drop
abbrev QbE:=@Nat.lt_succ_self
abbrev QbF:=@Bool.and_eq_true
abbrev QbG:=@List.mem_flatMap
abbrev QbH:=@PySem.wpAny_isInstance
abbrev QbI:=@List.cons_append
abbrev QbJ:=@List.length_map
abbrev QbK:=@List.mem_append
abbrev QbL:=@List.map_append
abbrev QbM:=@List.append_nil
abbrev QbN:=@PySem.PassesOwn.never
abbrev QbO:=@decide_eq_false
abbrev QbP:=@Option.some.inj
abbrev QbQ:=@List.nodup_cons
abbrev QbR:=@List.mem_filter
abbrev QbS:=@Bool.eq_iff_iff
abbrev QbV:=@PySem.wpAny_passesOwn
abbrev QbW:=@Nat.not_lt_zero
abbrev QbX:=@Int.emod_nonneg
abbrev QbY:=@List.find?_cons
abbrev QbZ:=@PySem.codeAny_builtin
abbrev Qca:=@decide_eq_true
abbrev Qcb:=@PySem.Heap.size_push
abbrev Qcc:=@List.nodup_nil
abbrev Qcd:=@List.mem_range
abbrev Qce:=@PySem.wpAny_seqItems
abbrev Qcf:=@PySem.Paired.length
abbrev Qcg:=@List.mem_cons
abbrev Qch:=@List.map_cons
abbrev Qcj:=@Nat.lt_irrefl
abbrev Qck:=@PySem.wpAny_holding
abbrev Qcl:=@List.any_cons
abbrev Qcm:=@PySem.wpAny_attempt
abbrev Qcn:=@PySem.wpAny_standAt
abbrev Qco:=@Bool.or_false
abbrev Qcp:=@PySem.Heap.lt_size
abbrev Qcq:=@List.mem_map
abbrev Qcr:=@Nat.ne_of_lt
abbrev Qcs:=@Nat.le_trans
abbrev Qct:=@List.map_map
abbrev Qcu:=@Nat.le_of_lt
abbrev Qcv:=@Nat.ne_of_gt
abbrev Qcw:=@PySem.codeAny_mono
abbrev Qcx:=@List.map_nil
abbrev Qcy:=@PySem.wpAny_typeOf
abbrev Qcz:=@Int.zero_add
abbrev QcA:=@Nat.le_refl
abbrev QcB:=@Nat.zero_le
abbrev QcC:=@PySem.Paired.snoc
abbrev QcD:=@PySem.wpAny_field
abbrev QcE:=@PySem.sizeLine_eq
abbrev QcF:=@Nat.le_succ
abbrev QcG:=@PySem.wpAny_bind
abbrev QcH:=@PySem.wpAny_pure
abbrev QcI:=@PySem.wpAny_mono
abbrev QcJ:=@PyProof.Rows.take_snoc
abbrev QcK:=@or_false
namespace L2
open PySem PySem.Spec PyProof.Rows
abbrev Key:=Sum Int Str
def Uo:Key->Value->Bool
 | .inl k,v=>Value.isInt k v
 | .inr x,v=>Value.isStrOf x v
def MS(w:World):Key->Int
 | .inl k=>hashInt k
 | .inr x=>hashStr w x
theorem Ew:∀{k:Key} {v:Value},Uo k v=true->(∃i t,k=Sum.inl i/\v=Value.int i t)\/(∃x t,k=Sum.inr x/\v=Value.str x t)
 | .inl i,v,h=>by
  obtain⟨t,e⟩:=Value.isInt_shape (k:=i) (v:=v) h;exact .inl ⟨i,t,rq,e⟩
 | .inr x,v,h=>by
  obtain⟨t,e⟩:=Value.isStrOf_shape (x:=x) (v:=v) h;exact .inr ⟨x,t,rq,e⟩
theorem qP(i:Int)(t:Tok):Uo (.inl i) (.int i t)=true:=by simp[Uo,Value.isInt]
theorem qO(x:Str)(t:Tok):Uo (.inr x) (.str x t)=true:=by simp[Uo,Value.isStrOf]
theorem DU(a b:Int):decide ((Sum.inl a:Key)=Sum.inl b)=(a == b):=by
 by_cases e:a=b
 .subst e;simp
 .have h:¬(Sum.inl a:Key)=Sum.inl b:=λq=>e (Sum.inl.inj q);rw[QbO h];exact (QaN.mpr e).symm
theorem DO(a b:Str):decide ((Sum.inr a:Key)=Sum.inr b)=decide (a=b):=by
 by_cases e:a=b
 .subst e;simp
 .have h:¬(Sum.inr a:Key)=Sum.inr b:=λq=>e (Sum.inr.inj q);rw[QbO h,QbO e]
theorem DT(a:Int)(b:Str):decide ((Sum.inl a:Key)=Sum.inr b)=false:=QbO (λq=>nomatch q)
theorem DS(a:Str)(b:Int):decide ((Sum.inr a:Key)=Sum.inl b)=false:=QbO (λq=>nomatch q)
def Bp(prog:Program)(w:World):PySem.KeyKind prog w Key where
 is:=Uo
 hash:=MS w
 inj:=λv a b G z=>by
  rcases Ew G with⟨i,t,rfl,rfl⟩|⟨x,t,rfl,rfl⟩
  .rcases Ew z with⟨j,u,rfl,e⟩|⟨y,u,rfl,e⟩
   .injection e with e1 _;rw[e1]
   .exact nomatch e
  .rcases Ew z with⟨j,u,rfl,e⟩|⟨y,u,rfl,e⟩
   .exact nomatch e
   .injection e with e1 _;rw[e1]
 byValue:=λk v h=>by
  rcases Ew h with⟨i,t,rfl,rfl⟩|⟨x,t,rfl,rfl⟩ <;> rfl
 pyHash:=λq h=>by
  rcases Ew q with⟨i,t,rfl,rfl⟩|⟨x,t,rfl,rfl⟩
  .exact wpAny_pyHash_int h
  .exact wpAny_pyHash_str h
 eqBool:=λI q h=>by
  rcases Ew I with⟨i,t,rfl,rfl⟩|⟨x,t,rfl,rfl⟩
  .rcases Ew q with⟨j,u,rfl,rfl⟩|⟨y,u,rfl,rfl⟩
   .rw[DU] at h;exact wpAny_eqBool_int h
   .rw[DT] at h;exact SeqAt.EqAt.int_str i t y u _ _ _ _ h
  .rcases Ew q with⟨j,u,rfl,rfl⟩|⟨y,u,rfl,rfl⟩
   .rw[DS] at h;exact SeqAt.EqAt.str_int x t j u _ _ _ _ h
   .rw[DO] at h;exact wpAny_eqBool_str h
 «strs»:=λk x t v h=>by
  rcases Ew h with⟨i,u,rfl,e⟩|⟨y,u,rfl,e⟩
  .exact nomatch e
  .injection e with e1 _;subst e1;cases v <;> rfl
theorem iR(prog:Program)(w:World)(i:Int)(t:Tok):(Bp prog w).is (.inl i) (.int i t)=true:=qP i t
theorem iQ(prog:Program)(w:World)(x:Str)(t:Tok):(Bp prog w).is (.inr x) (.str x t)=true:=qO x t
inductive V where
 | non | bl (b:Bool) | int (i:Int) | str (x:Str) | byt (b:Array UInt8) | flt (b:UInt64) | ref (a:Addr) | ty (n:String)
 deriving DecidableEq
def RelV:V->Value->Prop
 | .non,u=>u=Value.none
 | .bl b,u=>u=Value.bool b
 | .int i,u=>∃t,u=Value.int i t
 | .str x,u=>∃t,u=Value.str x t
 | .byt b,u=>∃t,u=Value.bytes b t
 | .flt b,u=>∃t,u=Value.float b t
 | .ref a,u=>u=Value.ref a
 | .ty n,u=>u=Value.type n
abbrev YG:=List V
abbrev Vals:YG->YE->Prop:=Paired RelV
theorem Vals.length{xs:YG}{us:YE}(r:Vals xs us):xs.length=us.length:=Qcf r
theorem Vals.get:∀{xs:YG} {us:YE} {i:Nat} {x:V},Vals xs us->xs[i]?=some x->∃u,us[i]?=some u/\RelV x u
 | _,_,_,_,.nil,e=>by simp at e
 | _,_,0,_,.cons r _,e=>by simp at e;subst e;exact⟨_,rfl,r⟩
 | _,_,i+1,x,.cons _ t,e=>by
  obtain⟨u,h1,h2⟩:=Vals.get (i:=i) (x:=x) t (by simpa using e);exact⟨u,by simpa using h1,h2⟩
theorem Vals.set{x:V}{u:Value}(r:RelV x u):∀{xs:YG} {us:YE} (i:Nat),Vals xs us->Vals (xs.set i x) (us.set i u)
 | _,_,_,.nil=>.nil
 | _,_,0,.cons _ t=>.cons r t
 | _,_,i+1,.cons q t=>.cons q (Vals.set r i t)
theorem Vals.append:∀{xs ys:YG} {us j:YE},Vals xs us->Vals ys j->Vals (xs++ys) (us++j)
 | _,_,_,_,.nil,s=>s
 | _,_,_,_,.cons r t,s=>.cons r (Vals.append t s)
theorem Vals.take:∀{xs:YG} {us:YE} (n:Nat),Vals xs us->Vals (xs.take n) (us.take n)
 | _,_,0,_=>.nil
 | _,_,_+1,.nil=>.nil
 | _,_,n+1,.cons r t=>.cons r (Vals.take n t)
theorem Vals.drop:∀{xs:YG} {us:YE} (n:Nat),Vals xs us->Vals (xs.drop n) (us.drop n)
 | _,_,0,r=>r
 | _,_,_+1,.nil=>.nil
 | _,_,n+1,.cons _ t=>Vals.drop n t
def Ih:Option V->Option Value->Prop
 | some v,some u=>RelV v u
 | none,none=>True
 | _,_=>False
def KV{κ : Type}:List (κ×V)->List (κ×Value)->Prop:=Paired λ(p:κ×V) (q:κ×Value)=>p.1=q.1/\RelV p.2 q.2
def kV:Key->V
 | .inl i=>.int i
 | .inr x=>.str x
inductive HO where
 | lst (xs:YG)
 | tup (xs:YG)
 | dK (kvs:List (Key×V)) | dT (kvs:List (List Key×V))
 | set (S:Int->Bool) (n:Nat)
 | ins (C dx:Addr) (fs:List (Str×V))
 | own (x:Addr)
 | xd (fs:List (Str×V))
 | met (f x:Addr)
 | rng (lo hi:Int)
 | frz (o:Obj) (u:HO)
 | tbl (ps:Array Value)
 | ext (φ : Heap->Prop)
abbrev Hp:=Addr->Option HO
def upd(H:Hp)(a:Addr)(o:HO):Hp:=λb=>if b=a then some o else H b
theorem Ab{H:Hp}{a:Addr}{o:HO}:upd H a o a=some o:=by unfold upd;rw[if_pos rfl]
theorem Ao{H:Hp}{a b:Addr}{o:HO}(h:b≠a):upd H a o b=H b:=by unfold upd;rw[if_neg h]
theorem T8{H:Hp}{a:Addr}{o u:HO}:upd (upd H a o) a u=upd H a u:=by
 funext b;unfold upd;split <;> rfl
theorem yV{H:Hp}{a b:Addr}{o u:HO}(h:H a=some o)(h':H b=some u)(d:o≠u):a≠b:=by
 intro e;subst e;rw[h] at h';exact d (QbP h')
theorem Aw{H:Hp}{a b:Addr}{o:HO}(h:H a=some o)(h':H b=none):a≠b:=by
 intro e;subst e;rw[h] at h';cases h'
section
variable(P:Program)(w:World)
def Bs(H:Hp)(h:Heap)(a:Addr):HO->Prop
 | .lst xs=>xs.length<=sizeLine/\∃(j:YE) (n:Nat),Vals xs j/\h.get? a=some { cls:=.type "list",data:=.seq j.toArray n }
 | .tup xs=>xs.length<=sizeLine/\∃j:YE,Vals xs j/\IsTup h a j.toArray
 | .dK kvs=>kvs.length<=sizeLine/\(a == sysModules)=false/\∃vs,KV kvs vs/\h.DictOf (Bp P w) a vs
 | .dT kvs=>kvs.length<=sizeLine/\(a == sysModules)=false/\∃xs:List (List Key×Addr×Value),
   Paired (λ(p:List Key×V) (q:List Key×Addr×Value)=>p.1=q.1/\H q.2.1=some (.tup (p.1.map kV))/\RelV p.2 q.2.2) kvs xs /\
   ∃o es ep,h.get? a=some o/\o.ExactDict/\o.data=.dict es ep/\es.toList=xs.map (entryOfKey (tupleKind (Bp P w)))/\(xs.map (·.1)).Nodup
 | .set S n=>h.SetOf (intKind P w) a S n
 | .ins C dx fs=>H dx=some (.own a)/\fs.length<=1000/\dx≠a/\h.get? a=some (instObj C dx) /\
   ∃mA,h.Ns1 dx mA/\(∀f,Ih (fs.lookup f) (mA f))/\PySem.Within mA (fs.map (·.1))
 | .own _=>∃o,h.get? a=some o
 | .xd fs=>∃mA,h.Ns1 a mA/\∀f,Ih (fs.lookup f) (mA f)
 | .rng lo hi=>∃t u v,h.get? a=some { cls:=.type "range",data:=.fields #[.int lo t,.int hi u,.int 1 v] }
 | .frz o u=>h.get? a=some o/\Bs H h a u
 | .tbl ps=>h.get? a=some { cls:=.none,data:=.fields ps }
 | .met f x=>h.get? a=some (PySem.W.methodObj (.ref f) (.ref x))
 | .ext φ=>φ h/\(∃o,h.get? a=some o)/\∀h1 h2:Heap,φ h1->(∀o,h1.get? a=some o->h2.get? a=some o)->φ h2
def HOk(H:Hp)(h:Heap):Prop:=∀a o,H a=some o->Bs P w H h a o
end
section
variable{P:Program}{w:World}{H H':Hp}{h h':Heap}{a:Addr}{o:HO}
theorem Bs.lt(x:Bs P w H h a o):a < h.objs.size:=by
 cases o with
 | lst xs=>obtain⟨_,_,_,_,e⟩:=x;exact Qcp e
 | tup xs=>obtain⟨_,_,_,p⟩:=x;exact p.lt
 | dK kvs=>obtain⟨_,_,_,_,o,_,_,e,_⟩:=x;exact Qcp e
 | dT kvs=>obtain⟨_,_,_,_,o,_,_,e,_⟩:=x;exact Qcp e
 | set S n=>obtain⟨o,_,_,_,e,_⟩:=x;exact Qcp e
 | ins C dx fs=>obtain⟨_,_,_,e,_⟩:=x;exact Qcp e
 | own y=>obtain⟨_,e⟩:=x;exact Qcp e
 | xd fs=>obtain⟨_,⟨_,_,_,e,_⟩,_⟩:=x;exact Qcp e
 | rng lo hi=>obtain⟨_,_,_,e⟩:=x;exact Qcp e
 | frz ob u=>obtain⟨e,_⟩:=x;exact Qcp e
 | tbl ps=>exact Qcp (show h.get? a=some _ from x)
 | met f y=>exact Qcp (show h.get? a=some _ from x)
 | ext j=>obtain⟨_,⟨_,e⟩,_⟩:=x;exact Qcp e
theorem Paired.Ax{j q : Type}{F G:j->q->Prop}:∀{l₁ : List j} {l₂ : List q},Paired F l₁ l₂->(∀a b,F a b->G a b)->Paired G l₁ l₂
 | _,_,.nil,_=>.nil
 | _,_,.cons r t,f=>.cons (f _ _ r) (Paired.Ax t f)
theorem Bs.stay(x:Bs P w H h a o)(k:∀b u,(b=a\/H b=some (.own a))->h.get? b=some u->h'.get? b=some u)
  (J:∀b,H b=some (.own a)->H' b=some (.own a)) (N:∀b xs,H b=some (.tup xs)->H' b=some (.tup xs)):Bs P w H' h' a o:=by
 induction o with
 | lst xs=>obtain⟨z,G,n,r,e⟩:=x;exact⟨z,G,n,r,k _ _ (.inl rfl) e⟩
 | tup xs=>obtain⟨z,G,r,ob,e,c⟩:=x;exact⟨z,G,r,ob,k _ _ (.inl rfl) e,c⟩
 | dK kvs=>obtain⟨z,y,O,r,ob,es,j,e,c⟩:=x;exact⟨z,y,O,r,ob,es,j,k _ _ (.inl rfl) e,c⟩
 | dT kvs=>
  obtain⟨z,y,xs,r,ob,es,j,e,c⟩:=x;exact⟨z,y,xs,Paired.Ax r λp q z=>⟨z.1,N _ _ z.2.1,z.2.2⟩,ob,es,j,k _ _ (.inl rfl) e,c⟩
 | set S n=>obtain⟨ob,es,j,t,e,c⟩:=x;exact⟨ob,es,j,t,k _ _ (.inl rfl) e,c⟩
 | ins C dx fs=>
  obtain⟨d,z,Y,e,mA,⟨I,es,j,e2,c⟩,r⟩:=x;exact{J _ d,z,Y,k _ _ (.inl rfl) e,mA,⟨I,es,j,k _ _ (.inr d) e2,c⟩,r}
 | own y=>obtain⟨ob,e⟩:=x;exact⟨ob,k _ _ (.inl rfl) e⟩
 | xd fs=>obtain⟨mA,⟨I,es,j,e,c⟩,r⟩:=x;exact⟨mA,⟨I,es,j,k _ _ (.inl rfl) e,c⟩,r⟩
 | rng lo hi=>obtain⟨t,u,v,e⟩:=x;exact⟨t,u,v,k _ _ (.inl rfl) e⟩
 | frz ob u ih=>obtain⟨e,q⟩:=x;exact{k _ _ (.inl rfl) e,ih q}
 | tbl ps=>
  have e:h.get? a=some { cls:=.none,data:=.fields ps }:=x;show h'.get? a=some { cls:=.none,data:=.fields ps };exact k a _ (.inl rfl) e
 | met f y=>
  have e:h.get? a=some (PySem.W.methodObj (.ref f) (.ref y)):=x;show h'.get? a=some (PySem.W.methodObj (.ref f) (.ref y));exact k a _ (.inl rfl) e
 | ext aa=>obtain⟨p,⟨o,e⟩,st⟩:=x;exact{st _ _ p λo q=>k _ _ (.inl rfl) q,⟨o,k _ _ (.inl rfl) e⟩,st}
theorem HOk.lt(x:HOk P w H h)(e:H a=some o):a < h.objs.size:=(x a o e).lt
theorem HOk.fresh(x:HOk P w H h)(e:h.objs.size<=a):H a=none:=by
 cases q:H a with
 | none=>rfl
 | some u=>exact absurd (Qba (x.lt q) e) (Qcj _)
theorem HOk.kept(x:HOk P w H h)(k:∀b u,h.get? b=some u->h'.get? b=some u):HOk P w H h':=λa o e=>
 (x a o e).stay (λb u _ q=>k b u q) (λ_ q=>q) λ_ _ q=>q
theorem HOk.laid(x:HOk P w H h)(k:∀b u,h.get? b=some u->h'.get? b=some u)(I:h.objs.size<=a)(G:Bs P w (upd H a o) h' a o):HOk P w (upd H a o) h':=λb u e=>by
 have j:=x.fresh I;by_cases z:b=a
 .subst z;rw[Ab] at e;cases e;exact G
 .rw[Ao z] at e;exact (x b u e).stay (λc v _ q=>k c v q) (λc q=>by rw[Ao (Aw q j)];exact q) λc xs q=>by rw[Ao (Aw q j)];exact q
end
def Rd(H:Hp)(a:Addr)(u:HO):Prop:=H a=some u\/∃o,H a=some (.frz o u)
theorem Rd.ok{P:Program}{w:World}{H:Hp}{h:Heap}{a:Addr}{u:HO}(r:Rd H a u)(x:HOk P w H h):Bs P w H h a u:=by
 rcases r with r |⟨o,r⟩
 .exact x a u r
 .obtain⟨_,q⟩:=x a _ r;exact q
def Mut:Option HO->Prop
 | some (.lst _)=>True
 | some (.dK _)=>True
 | some (.dT _)=>True
 | some (.set _ _)=>True
 | some (.ins _ _ _)=>True
 | some (.ext _)=>True
 | _=>False
section
variable{P:Program}{w:World}{H:Hp}{h h':Heap}{x e:Addr}{o':HO}
theorem HOk.write(ok:HOk P w H h)(G:Mut (H x))(J:e=x\/H e=some (.own x))(k:∀b u,b≠e->h.get? b=some u->h'.get? b=some u)(Y:∃u,h'.get? e=some u)
  (aa:Bs P w (upd H x o') h' x o'):HOk P w (upd H x o') h':=λb u q=>by
 have N:∀c y,H c=some (.own y)->c≠x:=λc y r z=>by subst z;rw[r] at G;exact G
 have Ie:∀c xs,H c=some (.tup xs)->c≠x:=λc xs r z=>by subst z;rw[r] at G;exact G
 by_cases I:b=x
 .subst I;rw[Ab] at q;cases q;exact aa
 .rw[Ao I] at q;by_cases j:b=e
  .have O:H b=some (.own x):=by
    rcases J with z | z
    .exact absurd (j.trans z) I
    .rw[j];exact z
   rw[q] at O;cases O;obtain⟨v,hv⟩:=Y;exact⟨v,by rw[j];exact hv⟩
  .refine (ok b u q).stay (λc v hc r=>k c v ?_ r) (λc r=>by rw[Ao (N c b r)];exact r) λc xs r=>by rw[Ao (Ie c xs r)];exact r
   rcases hc with rfl | hc
   .exact j
   .rintro rfl;rcases J with z | z
    .exact N c b hc z
    .rw[hc] at z;cases z;exact I rfl
end
structure Un(fs ex:List Addr)(H H':Hp)(h h':Heap):Prop where
 keep:∀b o,h.get? b=some o->H b=none->b∉fs->b∉ex->h'.get? b=some o
 slot:∀b o,h.get? b=some o->H b=none->b∈fs->b∉ex->∃sl,h'.get? b=some { o with slots:=sl }
 free:∀b o,h.get? b=some o->H b=none->b∉ex->H' b=none
 there:∀b o,h.get? b=some o->b∉ex->∃o',h'.get? b=some o'
 tups:∀b xs,H b=some (.tup xs)->H' b=some (.tup xs)
 Ig:∀b o u,H b=some (.frz o u)->H' b=some (.frz o u)
 Jb:∀b ps,H b=some (.tbl ps)->∃more,H' b=some (.tbl (ps++more))
section
variable{fs fs' ex ex':List Addr}{H H1 H2:Hp}{h h1 h2 h':Heap}{a x e:Addr}{o:HO}
theorem Un.any(u:Un fs ex H H1 h h1){b:Addr}{ob:Obj}(q:h.get? b=some ob)(n:H b=none)(j:b∉ex):∃G,h1.get? b=some { ob with slots:=G }:=by
 by_cases z:b∈fs
 .exact u.slot b ob q n z j
 .exact⟨ob.slots,u.keep b ob q n z j⟩
theorem Un.kept(k:∀b u,h.get? b=some u->h'.get? b=some u):Un fs ex H H h h':=
 {λb ob q _ _ _=>k b ob q,λb ob q _ _ _=>⟨ob.slots,k b ob q⟩,λ_ _ _ n _=>n,λb ob q _=>⟨ob,k b ob q⟩,λ_ _ q=>q,λ_ _ _ q=>q,λ_ ps q=>{#[],by rw[q];simp}}
theorem Un.refl:Un fs ex H H h h:=Un.kept λ_ _ q=>q
theorem Un.laid(k:∀b u,h.get? b=some u->h'.get? b=some u)(z:h.objs.size<=a)(j:H a=none):Un fs ex H (upd H a o) h h' where
 keep:=λb u q _ _ _=>k b u q
 slot:=λb u q _ _ _=>⟨u.slots,k b u q⟩
 free:=λb u q n _=>by rw[Ao (Qcr (Qba (Qcp q) z))];exact n
 there:=λb u q _=>⟨u,k b u q⟩
 tups:=λb xs q=>by rw[Ao (Aw q j)];exact q
 Ig:=λb u xs q=>by rw[Ao (Aw q j)];exact q
 Jb:=λb ps q=>{#[],by rw[Ao (Aw q j),q];simp}
theorem Un.write(j:Mut (H x))(Y:e=x\/H e=some (.own x))(k:∀b u,b≠e->h.get? b=some u->h'.get? b=some u)(O:∃u,h'.get? e=some u):Un fs ex H (upd H x o) h h':=by
 have J:∀b,H b=none->b≠x:=λb n z=>by subst z;rw[n] at j;exact j
 have N:∀b,H b=none->b≠e:=λb n z=>by
  subst z;rcases Y with r | r
  .exact J b n r
  .rw[n] at r;cases r
 have G:∀b u,H b=some u->¬Mut (some u)->b≠x:=λb u q nm z=>by subst z;rw[q] at j;exact nm j
 refine⟨λb u q n _ _=>k b u (N b n) q,λb u q n _ _=>⟨u.slots,k b u (N b n) q⟩,λb u q n _=>by rw[Ao (J b n)];exact n,λb u q _=>?_,
  λb xs q=>by rw[Ao (G b _ q λz=>z)];exact q,λb u xs q=>by rw[Ao (G b _ q λz=>z)];exact q,λb ps q=>{#[],by rw[Ao (G b _ q λz=>z),q];simp}⟩
 by_cases I:b=e
 .subst I;exact O
 .exact⟨u,k b u I q⟩
end
def trk(h:Heap)(H:Hp):List Addr:=(List.range h.objs.size).filter λa=>(H a).isSome
def Rn(h:Heap)(H:Hp):Heap:=hideAll h (trk h H)
theorem qY(h:Heap)(H:Hp):(Rn h H).objs.size=h.objs.size:=PySem.W.hideAll_size _ _
theorem xP{h:Heap}{H:Hp}{b:Addr}{o:Obj}(e:h.get? b=some o)(n:H b=none):(Rn h H).get? b=some o:=
 hideAll_get _ e λj=>by
  have q:(H b).isSome=true:=(QbR.mp j).2;rw[n] at q;simp at q
theorem AM{h:Heap}{H:Hp}{b:Addr}{o:Obj}(e:(Rn h H).get? b=some o):h.get? b=some o/\H b=none:=by
 have j:h.get? b=some o:=PySem.W.of_hideAll (trk h H) e;refine⟨j,?_⟩;cases q:H b with
 | none=>rfl
 | some x=>
  have G:b∈trk h H:=QbR.mpr {Qcd.mpr (Qcp j),by simp[q]};have z:(Rn h H).get? b=none:=PySem.W.hideAll_none (trk h H) G;rw[z] at e;cases e
def UW(g h:Heap)(L:Addr):YC:=(List.range h.objs.size).filterMap λa=>if a=L\/(g.get? a).isSome=true then none else (h.get? a).map λo=>(a,o)
theorem Qw{g h:Heap}{L a:Addr}{o:Obj}(h1:a≠L)(h2:g.get? a=none)(j:h.get? a=some o):(a,o)∈UW g h L:=
 List.mem_filterMap.mpr ⟨a,Qcd.mpr (Qcp j),by simp[h1,h2,j]⟩
theorem Yr{g h:Heap}{L:Addr}{p:Addr×Obj}(G:p∈UW g h L):p.1≠L/\g.get? p.1=none/\h.get? p.1=some p.2:=by
 obtain⟨b,_,e⟩:=List.mem_filterMap.mp G;split at e
 .cases e
 .rename_i j;cases q:h.get? b with
  | none=>rw[q] at e;simp at e
  | some u=>
   rw[q] at e;simp only[Option.map_some,Option.some.injEq] at e;subst e;refine⟨λz=>j (.inl z),?_,q⟩;show g.get? b=none;cases r:g.get? b with
   | none=>rfl
   | some v=>exact (j (.inr (by simp[r]))).elim
def rest(g h:Heap)(L d:Addr):YC:=(UW g h L).filter λp=>decide (p.1≠d)
theorem v8{g h:Heap}{L:Addr}:News g L h (UW g h L):=λp j=>let ⟨a,b,c⟩:=Yr j;⟨c,a,b⟩
structure Mod(K:YD)(mg:YB)(base:Heap):Prop where
 kin:K.In base
 glob:base.Ns mainGlobals mg
 blt:∃mb,base.Ns builtinsNs mb/\∀x:Str,x≠"__name__"->mb x=bootBuiltins x
 nolimit:base.NoLimit
structure Cx where
 prog:Program
 w:World
 K:YD
 mg:YB
 base:Heap
 A:Around
 N:YF
 s₀ : Shared
 H₀ : Hp
 env:Env
 outer:List Env
 stack:List Env
 ex:List Addr
 fn:Str->Bool
 calm:Bool
 pn:YC
 xe:YA
def frs(l:List Env):List Addr:=l.filterMap (·.frame)
abbrev Cx.fs(X:Cx):List Addr:=frs X.outer
def Vis(sc:Scope)(x:Str):Prop:=sc.names.lookup x=some .local\/sc.names.lookup x=some .cell\/sc.names.lookup x=some .free
def Loc(sc:Scope)(x:Str):Prop:=sc.names.lookup x=some .local\/sc.names.lookup x=some .cell
def Look(env:Env)(h:Heap)(m:YB)(x:Str)(u:Value):Prop:=
 (env.kindOf x=some .local/\m x=some u)\/((env.kindOf x=some .cell\/env.kindOf x=some .free)/\∃c,env.cells.lookup x=some c/\h.IsCell c (some u))
structure Cx.Ok(X:Cx):Prop where
 mod:Mod X.K X.mg X.base
 kind:X.env.scope.kind=.function
 glob:X.env.globals=mainGlobals
 blt:X.env.builtins=builtinsNs
 above:X.s₀.heap.objs.size<=X.env.locals
 inj:∀x y c,X.env.cells.lookup x=some c->X.env.cells.lookup y=some c->x=y
 has:∀x,(X.env.kindOf x=some .cell\/X.env.kindOf x=some .free)->∃c,X.env.cells.lookup x=some c
 cab:∀x c,X.fn x=true->X.env.cells.lookup x=some c->X.s₀.heap.objs.size<=c
 hd:X.calm=true->X.A.handled=none
 frames:X.A.frames=some X.stack
 stk:X.stack=X.outer\/(X.stack=X.env::X.outer/\X.env.frame=some X.env.locals)
 exf:∀b∈X.ex,b≠X.env.locals/\∀x c,X.env.cells.lookup x=some c->c≠b
 bs:∀b o,X.base.get? b=some o->X.s₀.heap.get? b=some o/\X.H₀ b=none
 bsz:X.base.objs.size<=X.s₀.heap.objs.size
 OD:∀b o,X.base.get? b=some o->b∉X.ex
 Lf:∀b∈X.ex,b∉X.fs
 G7:X.s₀.heap.FunFrames X.base X.outer
 frf:∀b∈X.fs,X.H₀ b=none
structure Inv(X:Cx)(jb:YC)(U : List (Option V))(H:Hp)(s:Shared):Prop where
 ok:X.Ok
 os:s.os=X.s₀.os
 bare:AllBare s.gens
 base:Un X.fs X.ex X.H₀ H X.s₀.heap s.heap
 loc:∃m,s.heap.Ns X.env.locals m/\∀(i:Nat) (x:Str) (v:V),X.N[i]?=some x->U[i]?=some (some v)->Vis X.env.scope x->∃u,RelV v u/\Look X.env s.heap m x u
 cell:∀x c,X.env.cells.lookup x=some c->∃v,s.heap.IsCell c v
 free:H X.env.locals=none
 FJ:∀x c,X.env.cells.lookup x=some c->H c=none
 pin:∀p∈X.pn++jb,s.heap.get? p.1=some p.2/\H p.1=none/\p.1≠X.env.locals/\p.1∉X.fs/\∀v,p.2.data≠.cell v
 hok:HOk X.prog X.w H s.heap
 len:U.length=X.N.length
section
variable{X:Cx}{jb:YC}{U : List (Option V)}{H H':Hp}{s:Shared}{h':Heap}
theorem Cx.Ok.JE(j:X.Ok){b:Addr}{o:Obj}(e:X.base.get? b=some o):b∉X.fs:=λq=>by
 have:=(j.G7.mem q).1;rw[e] at this;cases this
theorem Inv.bs(I:H^^^s):∀b o,X.base.get? b=some o->s.heap.get? b=some o/\H b=none:=λb o e=>
 {I.base.keep b o (I.ok.bs b o e).1 (I.ok.bs b o e).2 (I.ok.JE e) (I.ok.OD b o e),I.base.free b o (I.ok.bs b o e).1 (I.ok.bs b o e).2 (I.ok.OD b o e)}
theorem Inv.bk(I:H^^^s):∀b o,X.base.get? b=some o->s.heap.get? b=some o:=λb o e=>(I.bs b o e).1
theorem Inv.mod(I:H^^^s):Mod X.K X.mg X.base:=I.ok.mod
theorem Inv.kIn(I:H^^^s):X.K.In s.heap:=I.ok.mod.kin.keeps I.bk
theorem Inv.nolimit(I:H^^^s):s.heap.NoLimit:=I.ok.mod.nolimit.keeps I.bk
theorem Inv.fr(I:H^^^s):∃m,Fr X.base X.env.locals s.heap m:=
 let ⟨m,j,_⟩:=I.loc
 ⟨m,j,I.bk,Qcs I.ok.bsz I.ok.above⟩
theorem Inv.lt(I:H^^^s):X.env.locals < ∅:=let ⟨_,j,_⟩:=I.loc;j.lt
theorem Inv.sz(I:H^^^s):X.s₀.heap.objs.size<=∅:=Qcs I.ok.above (Qcu I.lt)
theorem Inv.vY(I:H^^^s){a:Addr}(h:∅<=a):a∉X.fs:=λj=>by
 obtain⟨_,o,q,_⟩:=I.ok.G7.mem j;exact absurd (Qba (Qcp q) (Qcs I.sz h)) (Qcj _)
theorem Inv.cne(I:H^^^s):∀x c,X.env.cells.lookup x=some c->c≠X.env.locals:=λx c e z=>by
 obtain⟨v,o,j,q⟩:=I.cell x c e;obtain⟨m,⟨o',es,N,G,J,_⟩,_⟩:=I.loc;rw[z,G] at j;cases j;rw[J] at q;cases q
theorem Inv.G7(I:H^^^s):s.heap.FunFrames X.base X.outer:=by
 have G:∀(l:List Env),(∀b∈frs l,b∈X.fs)->X.s₀.heap.FunFrames X.base l->s.heap.FunFrames X.base l:=by
  intro l
  induction l with
  | nil=>intro _ _;trivial
  | cons env r J=>
   intro hs N;obtain⟨O,⟨L,o,j,Y,ho,hd⟩,hr⟩:=N;have q:L∈X.fs:=hs L (by unfold frs;rw[List.filterMap_cons,j];exact QaW);obtain⟨sl,e⟩:=I.base.slot L o ho (I.ok.frf L q) q λaa=>I.ok.Lf L aa q;exact⟨O,⟨L,_,j,Y,e,hd⟩,J (λb z=>hs b (by unfold frs;rw[List.filterMap_cons,j];exact QaI _ z)) hr⟩
 exact G X.outer (λ_ z=>z) I.ok.G7
theorem Inv.stack(I:H^^^s):s.heap.FunFrames X.base X.stack:=by
 rcases I.ok.stk with e |⟨e,j⟩
 .rw[e];exact I.G7
 .rw[e];obtain⟨m,q,_⟩:=I.loc;refine .cons (by rw[I.ok.kind];decide) j q ?_ I.G7;exact Heap.get?_none_of_le (Qcs I.ok.bsz I.ok.above)
theorem Inv.Wm(I:H^^^s):∀b∈frs X.stack,b∈X.env.locals::X.fs:=λb j=>by
 rcases I.ok.stk with e |⟨e,q⟩
 .rw[e] at j;exact QaI _ j
 .rw[e] at j;unfold frs at j;rw[List.filterMap_cons,q] at j;exact j
theorem Inv.XD(I:H^^^s):∀b∈frs X.stack,H b=none:=λb j=>by
 rcases Qcg.mp (I.Wm b j) with e | j
 .rw[e];exact I.free
 .obtain⟨_,o,q,_⟩:=I.ok.G7.mem j;exact I.base.free b o q (I.ok.frf b j) λz=>I.ok.Lf b z j
theorem Inv.step{g':Array GenState}{t':Nat}{d':Drawn}{ch:List Addr}(I:H^^^s)
  (J:∀b∈ch,(b∈X.ex\/X.s₀.heap.objs.size<=b)/\b≠X.env.locals/\(∀x c,X.env.cells.lookup x=some c->c≠b)/\∀p∈X.pn++jb,p.1≠b)
  (keep:∀b o,b≠X.env.locals->b∉X.fs->b∉ch->s.heap.get? b=some o->H b=none->h'.get? b=some o)
  (slot:∀b o,b≠X.env.locals->b∈X.fs->b∉ch->s.heap.get? b=some o->H b=none->∃Y,h'.get? b=some { o with slots:=Y }) (free:∀b o,b∉ch->s.heap.get? b=some o->H b=none->H' b=none)
  (there:∀b o,b∉ch->s.heap.get? b=some o->∃o',h'.get? b=some o')
  (tups:∀b xs,H b=some (.tup xs)->H' b=some (.tup xs)) (Ig:∀b o u,H b=some (.frz o u)->H' b=some (.frz o u)) (Jb:∀b ps,H b=some (.tbl ps)->∃ae,H' b=some (.tbl (ps++ae)))
  (ns:∀m,s.heap.Ns X.env.locals m->h'.Ns X.env.locals m) (hok:HOk X.prog X.w H' h') (hg:AllBare g') :
  Inv X jb U H' { s with heap:=h',gens:=g',drawn:=d',toks:=t' }:=by
 have ab:∀b o,X.s₀.heap.get? b=some o->b≠X.env.locals:=λb o e=>Qcr (Qba (Qcp e) I.ok.above);have O:∀b o,X.s₀.heap.get? b=some o->b∉X.ex->b∉ch:=λb o e j q=>by
  rcases (J b q).1 with z | z
  .exact j z
  .exact absurd (Qba (Qcp e) z) (Qcj _)
 have aa:∀x c,X.env.cells.lookup x=some c->∀v,s.heap.IsCell c v->h'.IsCell c v:=λx c e v ⟨o,G,hd⟩=>by
  have N:c∉ch:=λz=>(J c z).2.2.1 x c e rfl;by_cases hc:c∈X.fs
  .obtain⟨Y,ag⟩:=slot c o (I.cne x c e) hc N G (I.FJ x c e);exact⟨_,ag,hd⟩
  .exact⟨o,keep c o (I.cne x c e) hc N G (I.FJ x c e),hd⟩
 refine⟨I.ok,I.os,hg,{λb o e n q j=>?_,λb o e n q j=>?_,λb o e n j=>?_,λb o e j=>?_,λb xs e=>tups b xs (I.base.tups b xs e),λb o xs e=>Ig b o xs (I.base.Ig b o xs e),λb ps e=>?_},?_,λx c e=>?_,?_,λx c e=>?_,λp hp=>?_,hok,I.len⟩
 .exact keep b o (ab b o e) q (O b o e j) (I.base.keep b o e n q j) (I.base.free b o e n j)
 .obtain⟨Y,e1⟩:=I.base.slot b o e n q j;obtain⟨af,e2⟩:=slot b _ (ab b o e) q (O b o e j) e1 (I.base.free b o e n j);exact⟨af,e2⟩
 .obtain⟨o',e1⟩:=I.base.there b o e j;exact free b o' (O b o e j) e1 (I.base.free b o e n j)
 .obtain⟨o',e1⟩:=I.base.there b o e j;exact there b o' (O b o e j) e1
 .obtain⟨m1,e1⟩:=I.base.Jb b ps e;obtain⟨m2,e2⟩:=Jb b _ e1;exact{m1++m2,by rw[e2,Array.append_assoc]}
 .obtain⟨m,hn,hl⟩:=I.loc;refine⟨m,ns m hn,λi x v e1 e2 e3=>?_⟩;obtain⟨u,r,l⟩:=hl i x v e1 e2 e3;refine⟨u,r,?_⟩;rcases l with l |⟨k,c,e,z⟩
  .exact .inl l
  .exact .inr ⟨k,c,e,aa x c e _ z⟩
 .obtain⟨v,z⟩:=I.cell x c e;exact⟨v,aa x c e v z⟩
 .obtain⟨m,⟨o,_,_,G,_⟩,_⟩:=I.loc;exact free _ o (λz=>(J _ z).2.1 rfl) G I.free
 .obtain⟨v,o,G,hd⟩:=I.cell x c e;exact free c o (λz=>(J c z).2.2.1 x c e rfl) G (I.FJ x c e)
 .obtain⟨e,n,ne,nf,d⟩:=I.pin p hp;have N:p.1∉ch:=λz=>(J p.1 z).2.2.2 p hp rfl;exact{keep p.1 p.2 ne nf N e n,free p.1 p.2 N e n,ne,nf,d}
theorem Inv.un{t':Nat}(I:H^^^s)(u:Un X.fs [] H H' s.heap h')(hok:HOk X.prog X.w H' h'):Inv X jb U H' { s with heap:=h',toks:=t' }:=by
 obtain⟨m,⟨o,es,ep,z,r⟩,_⟩:=id I.loc;obtain⟨sl,N⟩:=u.any z I.free 04;exact I.step (g':=s.gens) (d':=s.drawn) (ch:=[]) (λ_ aa=>nomatch aa) (λb o _ j _ e n=>u.keep b o e n j 04) (λb o _ j _ e n=>u.slot b o e n j 04) (λb o _ e n=>u.free b o e n 04) (λb o _ e=>u.there b o e 04) u.tups u.Ig u.Jb (λm' O=>by
  obtain⟨o',G,J,q,Y⟩:=O;rw[z] at q;cases q;exact⟨_,G,J,N,Y⟩) hok I.bare
theorem Inv.call{g':Array GenState}{t':Nat}{d':Drawn}{ch:List Addr}(I:H^^^s)(u:Un (frs X.stack) ch H H' s.heap h')(hok:HOk X.prog X.w H' h')(Y:AllBare g')
  (q:∀b∈ch,(b∈X.ex\/X.s₀.heap.objs.size<=b)/\b≠X.env.locals/\(∀x c,X.env.cells.lookup x=some c->c≠b)/\∀p∈X.pn++jb,p.1≠b) :
  Inv X jb U H' { s with heap:=h',gens:=g',drawn:=d',toks:=t' }:=by
 obtain⟨m,⟨o,es,ep,J,r⟩,_⟩:=id I.loc;obtain⟨sl,j⟩:=u.any J I.free λz=>(q _ z).2.1 rfl;exact I.step (ch:=ch) q (λb o j hb hc e n=>u.keep b o e n (λz=>(Qcg.mp (I.Wm b z)).elim j hb) hc) (λb o _ _ hc e n=>u.any e n hc) (λb o hc e n=>u.free b o e n hc) (λb o hc e=>u.there b o e hc) u.tups u.Ig u.Jb (λm' hm=>by
  obtain⟨o',N,O,G,r'⟩:=hm;rw[J] at G;cases G;exact⟨_,N,O,j,r'⟩) hok Y
theorem Inv.turned{t':Nat}{it:Addr}(I:H^^^s)(k:∀b o,b≠it->s.heap.get? b=some o->h'.get? b=some o)(J:H it=none)(G:it≠X.env.locals)
  (h1:it∈X.ex\/X.s₀.heap.objs.size<=it) (h2:∀x c,X.env.cells.lookup x=some c->c≠it) (N:∀p∈X.pn++jb,p.1≠it):Inv X jb U H { s with heap:=h',toks:=t' }:=by
 have j:∀b u,H b=some u->b≠it:=λb u e z=>by rw[z,J] at e;cases e
 refine I.step (g':=s.gens) (d':=s.drawn) (ch:=[it]) (λb O=>?_) (λb o _ _ hc e _=>k b o (λz=>hc (by simp[z])) e) (λb o _ _ hc e _=>⟨o.slots,k b o (λz=>hc (by simp[z])) e⟩) (λ_ _ _ _ n=>n)
  (λb o hc e=>⟨o,k b o (λz=>hc (by simp[z])) e⟩) (λ_ _ e=>e) (λ_ _ _ e=>e) (λb ps e=>{#[],by rw[e];simp}) (λm Y=>?_) (λb u e=>?_) I.bare
 .have e:b=it:=by simpa using O
  subst e;exact⟨h1,G,h2,N⟩
 .obtain⟨o,es,ep,ho,r⟩:=Y;exact⟨o,es,ep,k _ o (Ne.symm G) ho,r⟩
 .refine (I.hok b u e).stay (λc v hc q=>k c v ?_ q) (λ_ q=>q) λ_ _ q=>q;rcases hc with z | z
  .rw[z];exact j b u e
  .exact j c _ z
theorem Inv.tok(I:H^^^s)(t:Nat):Inv X jb U H { s with toks:=t }:=I.un (h':=s.heap) (t':=t) Un.refl I.hok
theorem Inv.kept{t':Nat}(I:H^^^s)(k:∀b u,s.heap.get? b=some u->h'.get? b=some u):Inv X jb U H { s with heap:=h',toks:=t' }:=I.un (Un.kept k) (I.hok.kept k)
theorem Inv.laid{a:Addr}{o:HO}{t':Nat}(I:H^^^s)(k:∀b u,s.heap.get? b=some u->h'.get? b=some u)(j:∅<=a)(q:Bs X.prog X.w (upd H a o) h' a o) :
  Inv X jb U (upd H a o) { s with heap:=h',toks:=t' }:=I.un (Un.laid k j (I.hok.fresh j)) (I.hok.laid k j q)
theorem Inv.write{x e:Addr}{o:HO}{t':Nat}(I:H^^^s)(q:Mut (H x))(z:e=x\/H e=some (.own x))(k:∀b u,b≠e->s.heap.get? b=some u->h'.get? b=some u)(j:∃u,h'.get? e=some u)
  (G:Bs X.prog X.w (upd H x o) h' x o):Inv X jb U (upd H x o) { s with heap:=h',toks:=t' }:=I.un (Un.write q z k j) (I.hok.write q z k j G)
theorem Inv.Ui{Ij:YC}(I:H^^^s)(h:∀p∈Ij,s.heap.get? p.1=some p.2/\H p.1=none/\p.1≠X.env.locals/\p.1∉X.fs/\∀v,p.2.data≠.cell v):Inv X Ij U H s:=
 ⟨I.ok,I.os,I.bare,I.base,I.loc,I.cell,I.free,I.FJ,λp j=>(QbK.mp j).elim (λz=>I.pin p (QaJ _ z)) (h p),I.hok,I.len⟩
theorem VP{N:YF}(q:N.Nodup){i j:Nat}{x:Str}(a:N[i]?=some x)(b:N[j]?=some x):i=j:=by
 obtain⟨h1,e1⟩:=Qah.mp a;obtain⟨h2,e2⟩:=Qah.mp b;exact (List.getElem_inj q).mp (e1.trans e2.symm)
theorem pK{M:Model}{A:Around}{E:YA}{i:Nat}{x:Str}{v:V}{u:Value}{Q:YH}(I:H^^^s)(hN:X.N.Nodup)(hi:X.N[i]?=some x)(G:Loc X.env.scope x)(r:RelV v u)
  (h:∀s',Inv X jb (U.set i (some v)) H s'->(∃a,Heap.SameBut a s.heap s'.heap/\(a=X.env.locals\/X.env.cells.lookup x=some a))->Q () s') (hf:X.fn x=true\/X.env.scope.names.lookup x=some .local:=by first | exact .inl rfl | exact .inr rfl | assumption):wpAny M A (storeName X.env x u) Q E s:=by
 obtain⟨m,hn,hl⟩:=id I.loc;have am:(X.env.scope.kind == .class || (X.env.scope.kind == .module&&X.env.locals != X.env.globals))=false:=by rw[I.ok.kind];rfl
 have ag : i < U.length:=by rw[I.len];exact (Qah.mp hi).1
 have aa:=I.cne;have ae:∀{a:Addr} {h':Heap},(∃o,s.heap.get? a=some o/\H a=none)->Heap.SameBut a s.heap h'->HOk X.prog X.w H h':=λ{a h'} ha hs b ob e=>by
  obtain⟨_,_,af⟩:=ha;refine (I.hok b ob e).stay (λc w' hc q=>(hs.2 c ?_).trans q) (λ_ q=>q) λ_ _ q=>q;rintro rfl;rcases hc with rfl | hc
  .rw[af] at e;cases e
  .rw[af] at hc;cases hc
 rcases G with J | J
 .refine wpAny_storeName_local J hn (λh' an hs=>?_) am;obtain⟨oL,_,_,ao,_⟩:=id hn;refine h _ ⟨I.ok,I.os,I.bare,{λb o e n O G=>?_,λb o e n O G=>?_,I.base.free,λb o e G=>?_,I.base.tups,I.base.Ig,I.base.Jb},{_,an,λj y v' e1 e2 e3=>?_},λy c e=>?_,I.free,I.FJ,λp hp=>?_,ae ⟨oL,ao,I.free⟩ hs,by simpa using I.len⟩ {_,hs,.inl rfl}
  .exact (hs.2 b (Qcr (Qba (Qcp e) I.ok.above))).trans (I.base.keep b o e n O G)
  .obtain⟨sl,e1⟩:=I.base.slot b o e n O G;exact⟨sl,(hs.2 b (Qcr (Qba (Qcp e) I.ok.above))).trans e1⟩
  .obtain⟨o',e1⟩:=I.base.there b o e G;exact⟨o',(hs.2 b (Qcr (Qba (Qcp e) I.ok.above))).trans e1⟩
  .by_cases Y:j=i
   .subst Y;rw[hi] at e1;cases e1;rw[List.getElem?_set_self ag] at e2;cases e2;exact⟨u,r,.inl ⟨J,by simp⟩⟩
   .rw[List.getElem?_set_ne (Ne.symm Y)] at e2;obtain⟨u',r',q⟩:=hl j y v' e1 e2 e3;refine⟨u',r',?_⟩;rcases q with⟨k,e⟩|⟨k,c,e,z⟩
    .refine .inl ⟨k,?_⟩;have:y≠x:=λe=>Y (VP hN e1 (e ▸ hi));simp[this,e]
    .exact .inr ⟨k,c,e,z.sameBut hs (aa y c e)⟩
  .obtain⟨w',z⟩:=I.cell y c e;exact⟨w',z.sameBut hs (aa y c e)⟩
  .obtain⟨e,n,ne,nf,d⟩:=I.pin p hp;exact{(hs.2 p.1 ne).trans e,n,ne,nf,d}
 .have ab:X.fn x=true:=by
   rcases hf with z | z
   .exact z
   .rw[z] at J;cases J
  obtain⟨c,hc⟩:=I.ok.has x (.inl J);obtain⟨w',z⟩:=I.cell x c hc;refine wpAny_storeName_cell I.ok.kind J hc z (λh' ah hs=>?_);obtain⟨oc,ai,Nw⟩:=id z;refine h { s with heap:=h' } ⟨I.ok,I.os,I.bare,{λb o e n O G=>?_,λb o e n O G=>?_,I.base.free,λb o e G=>?_,I.base.tups,I.base.Ig,I.base.Jb},⟨m,hn.sameBut hs (Ne.symm (aa x c hc)),λj y v' e1 e2 e3=>?_⟩,λy c' e=>?_,I.free,I.FJ,λp hp=>?_,ae ⟨oc,ai,I.FJ x c hc⟩ hs,by simpa using I.len⟩ ⟨c,hs,.inr hc⟩
  .exact (hs.2 b (Qcr (Qba (Qcp e) (I.ok.cab x c ab hc)))).trans (I.base.keep b o e n O G)
  .obtain⟨sl,e1⟩:=I.base.slot b o e n O G;exact⟨sl,(hs.2 b (Qcr (Qba (Qcp e) (I.ok.cab x c ab hc)))).trans e1⟩
  .obtain⟨o',e1⟩:=I.base.there b o e G;exact⟨o',(hs.2 b (Qcr (Qba (Qcp e) (I.ok.cab x c ab hc)))).trans e1⟩
  .by_cases Y:j=i
   .subst Y;rw[hi] at e1;cases e1;rw[List.getElem?_set_self ag] at e2;cases e2;exact⟨u,r,.inr {.inl J,c,hc,ah}⟩
   .rw[List.getElem?_set_ne (Ne.symm Y)] at e2;obtain⟨u',r',q⟩:=hl j y v' e1 e2 e3;refine⟨u',r',?_⟩;rcases q with q |⟨k,c',e,z'⟩
    .exact .inl q
    .refine .inr ⟨k,c',e,z'.sameBut hs ?_⟩;rintro rfl;exact Y (VP hN e1 (I.ok.inj _ _ _ e hc ▸ hi))
  .by_cases al:c'=c
   .subst al;exact⟨_,ah⟩
   .obtain⟨w2,z2⟩:=I.cell y c' e;exact⟨w2,z2.sameBut hs al⟩
  .obtain⟨e,n,ne,nf,d⟩:=I.pin p hp;refine{(hs.2 p.1 ?_).trans e,n,ne,nf,d};intro q;rw[q,ai] at e;have q':oc=p.2:=QbP e;exact d w' (by rw[<-q'];exact Nw)
theorem KY{M:Model}{A:Around}{E:YA}{i:Nat}{x:Str}{v:V}{u:Value}{Q:YH}(I:H^^^s)(j:X.N.Nodup)(hi:X.N[i]?=some x)(q:Loc X.env.scope x)(r:RelV v u)
  (h:∀s',Inv X jb (U.set i (some v)) H s'->Q () s') (z:X.fn x=true\/X.env.scope.names.lookup x=some .local:=by first | exact .inl rfl | exact .inr rfl | assumption):wpAny M A (storeName X.env x u) Q E s:=
 pK I j hi q r (λs' G _=>h s' G) z
theorem Inv.call'{s':Shared}{ch:List Addr}(I:H^^^s)(q:s'.os=s.os)(u:Un (frs X.stack) ch H H' s.heap s'.heap)(hok:HOk X.prog X.w H' s'.heap)(z:AllBare s'.gens)
  (j:∀b∈ch,(b∈X.ex\/X.s₀.heap.objs.size<=b)/\b≠X.env.locals/\(∀x c,X.env.cells.lookup x=some c->c≠b)/\∀p∈X.pn++jb,p.1≠b):Inv X jb U H' s':=by
 obtain⟨h',G,J,N,o'⟩:=s';have e:o'=s.os:=q;subst e;exact I.call (g':=G) (t':=N) (d':=J) u hok z j
end
abbrev XK:=Value->Option Addr->Hp->Prop
abbrev St:=List (Option V)
abbrev VK:=V->Hp->Prop
abbrev TE:=St->Hp->VK->Prop
abbrev TT:=St->Hp->(Bool->Hp->Prop)->Prop
abbrev TA:=St->Hp->(YG->Hp->Prop)->Prop
structure Ends where
 nx:St->Hp->Prop
 rt:VK
 bk:St->Hp->Prop:=λ_ _=>False
 ct:St->Hp->Prop:=λ_ _=>False
abbrev YO:=St->Hp->Prop
abbrev TS:=Ends->YO
def EP(X:Cx)(jb:YC)(U : St)(Q:VK)(u:Value)(s':Shared):Prop:=∃v H',Inv X jb U H' s'/\RelV v u/\Q v H'
def TP(X:Cx)(jb:YC)(U : St)(Q:Bool->Hp->Prop)(b:Bool)(s':Shared):Prop:=∃H',Inv X jb U H' s'/\Q b H'
def AP(X:Cx)(jb:YC)(U : St)(Q:YG->Hp->Prop)(us:YE)(s':Shared):Prop:=∃vs H',Inv X jb U H' s'/\Vals vs us/\Q vs H'
def SP(X:Cx)(jb:YC)(D:Ends)(f:Flow)(s':Shared):Prop:=
 match f with
 | .next=>∃ j H',Inv X jb j H' s'/\D.nx j H'
 | .brk=>∃ j H',Inv X jb j H' s'/\D.bk j H'
 | .cont=>∃ j H',Inv X jb j H' s'/\D.ct j H'
 | .ret u=>∃v j H',Inv X jb j H' s'/\RelV v u/\D.rt v H'
def PE(X:Cx)(e:Expr)(t:TE):Prop:=
 ∀(jb:YC) (s:Shared) (U : St) (H:Hp) (Q:VK),H^^^s->t U H Q->‹X› (eval e X.env) (EP X jb U Q) X.xe s
def PT(X:Cx)(e:Expr)(t:TT):Prop:=
 ∀(jb:YC) (s:Shared) (U : St) (H:Hp) (Q:Bool->Hp->Prop),H^^^s->t U H Q->‹X› (isTrue e X.env (eval e X.env)) (TP X jb U Q) X.xe s
def PW(X:Cx)(e:Expr)(t:TT):Prop:=
 ∀(j:Sem Value) (jb:YC) (s:Shared) (U : St) (H:Hp) (Q:Bool->Hp->Prop),H^^^s->t U H Q->‹X› (isTrue e X.env j) (TP X jb U Q) X.xe s
theorem PW.pt{X:Cx}{e:Expr}{t:TT}(h:PW X e t):PT X e t:=h _
def PA(X:Cx)(es:YJ)(t:TA):Prop:=
 ∀(pos:Pos) (jb:YC) (s:Shared) (U : St) (H:Hp) (Q:YG->Hp->Prop),H^^^s->t U H Q->‹X› (spliced (backTo pos (starEach es X.env))) (AP X jb U Q) X.xe s
def PS(X:Cx)(st:Stmt)(t:TS):Prop:=
 ∀(jb:YC) (s:Shared) (U : St) (H:Hp) (D:Ends),H^^^s->t D U H->‹X› (exec st X.env) (SP X jb D) X.xe s
def PSs(X:Cx)(st:List Stmt)(t:TS):Prop:=
 ∀(jb:YC) (s:Shared) (U : St) (H:Hp) (D:Ends),H^^^s->t D U H->‹X› (execs st X.env) (SP X jb D) X.xe s
theorem thn{j : Type}{t:Sem j}{Q q:j->Shared->Prop}{M:Model}{A:Around}{E:YA}{s:Shared}(h:wpAny M A t Q E s)(z:∀a s,Q a s->q a s):wpAny M A t q E s:=QcI h z λ_ _ x=>x
section
variable{X:Cx}
theorem bin{a b:Expr}{ta tb:TE}(I:PE X a ta)(J:PE X b tb){jb:YC}{s:Shared}{U : St}{H:Hp}{R:V->V->Hp->Prop}(aa:H^^^s)(h:ta U H λx H1=>tb U H1 λy H2=>R x y H2)
  {q : Type} {Q:q->Shared->Prop} {f:Value->Value->Sem q}
  (N:∀v u j x y H2,H2^^^j->RelV x v->RelV y u->R x y H2->‹X› (f v u) Q X.xe j) :
  ‹X› (eval a X.env) (λv z=>‹X› (eval b X.env) (λu G=>‹X› (f v u) Q X.xe G) X.xe z) X.xe s:=by
 refine thn (I jb s U H _ aa h) λv O zz=>?_;obtain⟨x,H1,Y,r1,q1⟩:=zz;refine thn (J jb O U H1 _ Y q1) λu j zz=>?_;obtain⟨y,H2,I2,r2,q2⟩:=zz;exact N v u j x y H2 I2 r1 r2 q2
def B3(i:Nat):TE:=fun U H Q=>∃v,U[i]?=some (some v)/\Q v H
def tC(v:V):TE:=λ_ H Q=>Q v H
theorem C1{i:Nat}{x:Str}{pos:Pos}(O:X.N[i]?=some x)(Y:Vis X.env.scope x)(z:'f'=false:=by decide)(J:(x == ("__classdict__":Str))=false:=by decide):PE X (.Name x pos) (B3 i):=by
 intros Q I h;obtain⟨v,e,h⟩:=h;obtain⟨m,hn,hl⟩:=I.loc;obtain⟨u,r,l⟩:=hl i x v O e Y;have q:EP X jb U Q u s:=⟨v,H,I,r,h⟩;rcases l with⟨j,hm⟩|⟨j,c,hc,G⟩
 .exact wpAny_Name (wpAny_loadName_local I.ok.kind j hn hm q) z
 .rcases j with j | j
  .exact wpAny_Name (wpAny_loadName_cell I.ok.kind j hc G q) z
  .exact wpAny_Name (wpAny_loadName_free I.ok.kind j hc G q J) z
theorem Af {i j pos}:PE X (.Constant (.int i) j pos) (tC (.int i)):=λ_ _ _ H _ I h=>wpAny_Constant_int {.int i,H,I.tok _,⟨_,rfl⟩,h}
theorem DY {b j pos}:PE X (.Constant (.bool b) j pos) (tC (.bl b)):=λ_ _ _ H _ I h=>Constant_bool {.bl b,H,I,rfl,h}
theorem Oq {j pos}:PE X (.Constant .none j pos) (tC .non):=λ_ _ _ H _ I h=>Constant_none ⟨.non,H,I,rfl,h⟩
theorem Bf {x j pos}:PE X (.Constant (.str x) j pos) (tC (.str x)):=λ_ _ _ H _ I h=>Calls.Constant_str {.str x,H,I.tok _,⟨_,rfl⟩,h}
def Gl(X:Cx)(x:Str):Prop:=X.env.kindOf x=some .globalImplicit
theorem JZ{E:YA}{jb:YC}{s:Shared}{U : St}{H:Hp}{x:Str}{u:Value}{pos:Pos}{Q:YA}(I:H^^^s)(j:Gl X x)(q:X.mg x=some u)(h:Q u s)
  (z:'f'=false:=by decide):‹X› (eval (.Name x pos) X.env) Q E s:=
 Calls.Name_function_global I.ok.kind j (Calls.loadGlobal_global (by rw[I.ok.glob];exact I.mod.glob.keeps I.bk) q h) z
theorem Jp{E:YA}{jb:YC}{s:Shared}{U : St}{H:Hp}{x:Str}{u:Value}{pos:Pos}{Q:YA}(I:H^^^s)(j:Gl X x)(q:X.mg x=none)(z:bootBuiltins x=some u)(h:Q u s)
  (G:x≠"__name__":=by decide) (J:'f'=false:=by decide):‹X› (eval (.Name x pos) X.env) Q E s:=by
 obtain⟨N,h1,h2⟩:=I.mod.blt;exact Calls.Name_function_global I.ok.kind j (Calls.loadGlobal_builtin (by rw[I.ok.glob];exact I.mod.glob.keeps I.bk) q (by rw[I.ok.blt];exact h1.keeps I.bk) ((h2 x G).trans z) h) J
theorem Fj{x:Str}{v:V}{u:Value}{pos:Pos}(j:Gl X x)(q:X.mg x=some u)(r:RelV v u)(z:'f'=false:=by decide):PE X (.Name x pos) (tC v):=
 λ_ _ _ H _ I h=>JZ I j q ⟨v,H,I,r,h⟩ z
theorem QJ{x:Str}{v:V}{u:Value}{pos:Pos}(j:Gl X x)(q:X.mg x=none)(z:bootBuiltins x=some u)(r:RelV v u)(G:x≠"__name__":=by decide)(J:'f'=false:=by decide):PE X (.Name x pos) (tC v):=
 λ_ _ _ H _ I h=>Jp I j q z ⟨v,H,I,r,h⟩ G J
variable{a b:Expr}{ta tb:TE}{pos:Pos}
def PC(X:Cx)(op:CmpOp)(a b:Expr)(t:TE):Prop:=
 ∀(jb:YC) (s:Shared) (U : St) (H:Hp) (Q:VK),H^^^s->t U H Q ->
  ‹X› (eval a X.env) (λv j=>‹X› (eval b X.env) (λu q=>‹X› (compareOp op v u) (EP X jb U Q) X.xe q) X.xe j) X.xe s
theorem vZ(b:Expr){op:CmpOp}(h:op≠.In)(h2:op≠.NotIn):behindInMarks op b=false:=by
 have e1:(op == CmpOp.In)=false:=by cases op <;> first | rfl | exact absurd rfl h
 have e2:(op == CmpOp.NotIn)=false:=by cases op <;> first | rfl | exact absurd rfl h2
 cases b <;> simp[behindInMarks,e1,e2]
def tB(t:TE):TT:=fun U H Q=>t U H λx H1=>∃c,x=.bl c/\Q c H1
theorem Oi{op:CmpOp}{t:TE}(h:PC X op a b t)(h1:behindInMarks op b=false:=by first | exact vZ _ 05 05 | rfl):PT X (.Compare a [op] [b] pos) (tB t):=by
 intros Q I hw;refine wpAny_isTrue_Compare1 (thn (h jb s U H _ I hw) λv J h1=>thn h1 λu N h2=>thn h2 λc s3 zz=>?_) h1;obtain⟨x,H1,j,z,G⟩:=zz;obtain⟨d,rfl,q⟩:=G;cases z;exact Qbs ⟨H1,j,q⟩
theorem Dz{e:Expr}{t:TE}(h:PE X e t)(z:∀j,isTrue e X.env j=(do let v <-j;standAt e.pos;holding [v] (truthy v)):=by intro _;rfl):PT X e (tB t):=by
 intros Q I hw;refine isTrue_plain (thn (h jb s U H _ I hw) λv O zz=>?_) (z _);obtain⟨x,H1,G,J,N⟩:=zz;obtain⟨d,rfl,q⟩:=N;cases J;exact Qbs ⟨H1,G,q⟩
variable{tA tB':TT}{rest:YJ}
def IN(t u:TT):TT:=fun U H Q=>t U H λc H1=>if c=true then u U H1 Q else Q false H1
def tOr(t u:TT):TT:=fun U H Q=>t U H λc H1=>if c=true then Q true H1 else u U H1 Q
def IH(t:TT):TT:=fun U H Q=>t U H λc H1=>Q (!c) H1
theorem jO(j:PT X a tA):PW X (.BoolOp .And [a] pos) tA:=by
 intro q jb s U H Q I h;refine isTrue_and (thn (j jb s U H Q I h) λc z e=>?_);cases c with
 | true=>exact isTrue_and_nil e
 | false=>exact e
theorem Oh(j:PT X a tA):PW X (.BoolOp .Or [a] pos) tA:=by
 intro q jb s U H Q I h;refine isTrue_or (thn (j jb s U H Q I h) λc z e=>?_);cases c with
 | false=>exact isTrue_or_nil e
 | true=>exact e
theorem pZ(z:PT X a tA)(G:PW X (.BoolOp .And (b::rest) pos) tB'):PW X (.BoolOp .And (a::b::rest) pos) (IN tA tB'):=by
 intro J jb s U H Q I h;refine isTrue_and (thn (z jb s U H _ I h) λc N zz=>?_);obtain⟨H1,j,q⟩:=zz;cases c with
 | true=>exact G J jb N U H1 Q j q
 | false=>exact⟨H1,j,q⟩
theorem Pu(z:PT X a tA)(G:PW X (.BoolOp .Or (b::rest) pos) tB'):PW X (.BoolOp .Or (a::b::rest) pos) (tOr tA tB'):=by
 intro J jb s U H Q I h;refine isTrue_or (thn (z jb s U H _ I h) λc N zz=>?_);obtain⟨H1,j,q⟩:=zz;cases c with
 | true=>exact⟨H1,j,q⟩
 | false=>exact G J jb N U H1 Q j q
theorem Fx(j:PT X a tA):PT X (.UnaryOp .Not a pos) (IH tA):=by
 intros Q I h;exact isTrue_not (j jb s U H (λc H1=>Q (!c) H1) I h)
def FR(ta tb:TE):TE:=fun U H Q=>ta U H λx H1=>∃c,x=.bl c/\if c=true then tb U H1 Q else Q (.bl false) H1
def IF(ta tb:TE):TE:=fun U H Q=>ta U H λx H1=>∃c,x=.bl c/\if c=true then Q (.bl true) H1 else tb U H1 Q
def FK(ta:TE):TE:=fun U H Q=>ta U H λx H1=>∃c,x=.bl c/\Q (.bl (!c)) H1
theorem DX {op} {t:TE} (h:PE X a t):PE X (.BoolOp op [a] pos) t:=λjb s U H Q I hw=>BoolOp_one (h jb s U H Q I hw)
theorem Fy(z:PE X a ta)(G:PE X (.BoolOp .And (b::rest) pos) tb):PE X (.BoolOp .And (a::b::rest) pos) (FR ta tb):=by
 intros Q I h;refine BoolOp_and (thn (z jb s U H _ I h) λv J zz=>?_);obtain⟨x,H1,q,N,j⟩:=zz;obtain⟨c,rfl,j⟩:=j;cases N;refine Qbs ?_;cases c with
 | true=>exact G jb J U H1 Q q j
 | false=>exact{.bl false,H1,q,rfl,j}
theorem mK(z:PE X a ta)(G:PE X (.BoolOp .Or (b::rest) pos) tb):PE X (.BoolOp .Or (a::b::rest) pos) (IF ta tb):=by
 intros Q I h;refine BoolOp_or (thn (z jb s U H _ I h) λv J zz=>?_);obtain⟨x,H1,q,N,j⟩:=zz;obtain⟨c,rfl,j⟩:=j;cases N;refine Qbs ?_;cases c with
 | false=>exact G jb J U H1 Q q j
 | true=>exact{.bl true,H1,q,rfl,j}
theorem C2(q:PE X a ta):PE X (.UnaryOp .Not a pos) (FK ta):=by
 intros Q I h;refine UnaryOp_ (thn (q jb s U H _ I h) λv J zz=>?_);obtain⟨x,H1,z,G,j⟩:=zz;obtain⟨c,rfl,j⟩:=j;cases G;exact not_of (Qbs {.bl (!c),H1,z,rq,j})
def tIf(t:TT)(ta tb:TE):TE:=fun U H Q=>t U H λc H1=>if c=true then ta U H1 Q else tb U H1 Q
theorem cX{c:Expr}(hc:PT X c tA)(G:PE X a ta)(J:PE X b tb):PE X (.IfExp c a b pos) (tIf tA ta tb):=by
 intros Q I h;refine wpAny_IfExp (thn (hc jb s U H _ I h) λd j zz=>?_);obtain⟨H1,q,z⟩:=zz;cases d with
 | true=>exact G jb j U H1 Q q z
 | false=>exact J jb j U H1 Q q z
end
def SqL(K:YD)(H:Hp)(a:Addr)(xs:YG):Prop:=
 Rd H a (.lst xs) \/
  ∃(o:Obj) (j:Array Value) (n:Nat),K.lookup a=some o/\o.cls=.type "list"/\o.dict=none/\o.data=.seq j n/\j.size<=sizeLine/\Vals xs j.toList
def SqT(K:YD)(H:Hp)(a:Addr)(xs:YG):Prop:=
 Rd H a (.tup xs) \/
  ∃(o:Obj) (j:Array Value) (n:Nat),K.lookup a=some o/\o.cls=.type "tuple"/\o.data=.seq j n/\j.size<=sizeLine/\Vals xs j.toList
def SA:Value->Option V
 | .none=>some .non
 | .bool b=>some (.bl b)
 | .int i _=>some (.int i)
 | .str x _=>some (.str x)
 | .bytes b _=>some (.byt b)
 | .float b _=>some (.flt b)
 | .ref a=>some (.ref a)
 | .type n=>some (.ty n)
 | _=>none
theorem RelV.abs{x:V}{u:Value}(r:RelV x u):SA u=some x:=by
 cases x with
 | non=>cases r;rfl
 | bl _=>cases r;rfl
 | int _=>obtain⟨t,rfl⟩:=r;rfl
 | str _=>obtain⟨t,rfl⟩:=r;rfl
 | byt _=>obtain⟨t,rfl⟩:=r;rfl
 | flt _=>obtain⟨t,rfl⟩:=r;rfl
 | ref _=>cases r;rfl
 | ty _=>cases r;rfl
theorem RelV.inj{x y:V}{u:Value}(r:RelV x u)(q:RelV y u):x=y:=QbP (r.abs.symm.trans q.abs)
theorem Vals.inj:∀{xs ys:YG} {us:YE},Vals xs us->Vals ys us->xs=ys
 | _,_,_,.nil,.nil=>rfl
 | _,_,_,.cons r t,.cons j q=>by rw[r.inj j,Vals.inj t q]
section
variable{X:Cx}{jb:YC}{U : St}{H:Hp}{s:Shared}{a:Addr}{xs ys:YG}
theorem SqL.of{K:YD}(h:H a=some (.lst xs)):SqL K H a xs:=.inl (.inl h)
theorem SqT.of{K:YD}(h:H a=some (.tup xs)):SqT K H a xs:=.inl (.inl h)
theorem Inv.list(I:H^^^s)(h:SqL X.K H a xs):∃j:YE,Vals xs j/\PlainL s.heap a j.toArray/\xs.length<=sizeLine:=by
 rcases h with h |⟨o,j,n,q,hc,G,hs,J,r⟩
 .obtain⟨z,j,n,r,e⟩:=h.ok I.hok;exact⟨j,r,⟨_,n,e,rq,rq,rq⟩,z⟩
 .refine⟨j.toList,r,⟨o,n,I.kIn a o q,hc,G,by simpa using hs⟩,?_⟩;have e:=r.length;simp only[QaP] at e;lia
theorem Inv.tuple(I:H^^^s)(h:SqT X.K H a xs):∃j:YE,Vals xs j/\IsTup s.heap a j.toArray/\xs.length<=sizeLine:=by
 rcases h with h |⟨o,j,n,q,hc,hs,G,r⟩
 .obtain⟨z,j,r,p⟩:=h.ok I.hok;exact⟨j,r,p,z⟩
 .refine⟨j.toList,r,⟨o,I.kIn a o q,hc,n,by simpa using hs⟩,?_⟩;have e:=r.length;simp only[QaP] at e;lia
theorem Inv.eE(I:H^^^s)(h:SqL X.K H a xs)(h':SqL X.K H a ys):xs=ys:=by
 obtain⟨G,r,⟨o,n,e,_,_,d⟩,_⟩:=I.list h;obtain⟨z,J,⟨o',N,j,_,_,q⟩,_⟩:=I.list h';rw[e] at j;cases j;rw[d] at q;injection q with d1 _;have:G=z:=by simpa using congrArg Array.toList d1
 subst this;exact r.inj J
theorem Inv.Zg(I:H^^^s)(h:SqT X.K H a xs)(h':SqT X.K H a ys):xs=ys:=by
 obtain⟨G,r,⟨o,e,_,n,d⟩,_⟩:=I.tuple h;obtain⟨z,J,⟨o',j,_,N,q⟩,_⟩:=I.tuple h';rw[e] at j;cases j;rw[d] at q;injection q with d1 _;have:G=z:=by simpa using congrArg Array.toList d1
 subst this;exact r.inj J
end
abbrev Cx.wish(X:Cx)(E:YA):Cx:={ X with xe:=E }
abbrev Cx.nox(X:Cx):Cx:=X.wish λ_ _=>False
theorem Cx.Ok.wish{X:Cx}(j:X.Ok)(E:YA):(X.wish E).Ok:=
 ⟨j.mod,j.kind,j.glob,j.blt,j.above,j.inj,j.has,j.cab,j.hd,j.frames,j.stk,j.exf,j.bs,j.bsz,j.OD,j.Lf,j.G7,j.frf⟩
theorem Cx.Ok.LC{X:Cx}{E:YA}(j:(X.wish E).Ok):X.Ok:=
 ⟨j.mod,j.kind,j.glob,j.blt,j.above,j.inj,j.has,j.cab,j.hd,j.frames,j.stk,j.exf,j.bs,j.bsz,j.OD,j.Lf,j.G7,j.frf⟩
section
variable{X:Cx}{jb:YC}{U : St}{H:Hp}{s:Shared}{E:YA}
theorem Inv.wish(I:H^^^s)(E:YA):Inv (X.wish E) jb U H s:={I.ok.wish E,I.os,I.bare,I.base,I.loc,I.cell,I.free,I.FJ,I.pin,I.hok,I.len}
theorem Inv.LC(I:Inv (X.wish E) jb U H s):Inv X jb U H s:=⟨I.ok.LC,I.os,I.bare,I.base,I.loc,I.cell,I.free,I.FJ,I.pin,I.hok,I.len⟩
theorem SP.LC{D:Ends}{f:Flow}{s':Shared}(h:SP (X.wish E) jb D f s'):SP X jb D f s':=by
 cases f with
 | next=>obtain⟨j,H',I,q⟩:=h;exact⟨j,H',I.LC,q⟩
 | brk=>obtain⟨j,H',I,q⟩:=h;exact⟨j,H',I.LC,q⟩
 | cont=>obtain⟨j,H',I,q⟩:=h;exact⟨j,H',I.LC,q⟩
 | ret u=>obtain⟨v,j,H',I,r,q⟩:=h;exact⟨v,j,H',I.LC,r,q⟩
theorem PSs.nox{st:List Stmt}{t:TS}(h:PSs X.nox st t):PSs X st t:=λjb s U H D I hw=>
 QcI (h jb s U H D (I.wish _) hw) (λ_ _ q=>q.LC) λ_ _ z=>False.elim z
end
section
variable{X:Cx}{st:Stmt}{rest:List Stmt}{t u:TS}{e:Expr}{te:TE}{pos:Pos}
def FL:TS:=λD U H=>D.nx U H
def Aq(t u:TS):TS:=λD U H=>t { D with nx:=u D } U H
theorem BR:PSs X [] FL:=λ_ _ U H _ I h=>wpAny_execs_nil ⟨U,H,I,h⟩
theorem Ae(h1:PS X st t)(h2:PSs X rest u):PSs X (st::rest) (Aq t u):=by
 intros D I h;refine wpAny_execs_cons (thn (h1 jb s U H { D with nx:=u D } I h) λf z q=>?_);cases f with
 | next=>
  obtain⟨j,H',G,q⟩:=q;exact h2 jb z j H' D G q
 | ret v=>exact q
 | brk=>exact q
 | cont=>exact q
theorem Ag(h1:PS X st t):PSs X [st] t:=by
 intros D I h;refine wpAny_execs_cons (thn (h1 jb s U H D I h) λf j q=>?_);cases f with
 | next=>exact wpAny_execs_nil q
 | ret v=>exact q
 | brk=>exact q
 | cont=>exact q
def Cs:TS:=λD U H=>D.bk U H
theorem Oj:PS X (.Break pos) Cs:=λ_ _ U H _ I h=>wpAny_Break ⟨U,H,I,h⟩
theorem Inv.quiet{jb:YC}{U : St}{H:Hp}{s:Shared}(I:H^^^s):interactive X.env=false:=by simp[interactive,I.ok.kind]
def FM(te:TE):TS:=λD U H=>te U H λ_ H1=>D.nx U H1
theorem Bo(j:PE X e te)(hs:swapsWith e none pos.line X.env=pure false:=by rfl):PS X (.Expr e pos) (FM te):=by
 intros D I h;refine wpAny_Expr_any (thn (j jb s U H _ I h) λv G zz=>?_) I.quiet hs;obtain⟨x,H1,q,J,z⟩:=zz;exact⟨U,H1,q,z⟩
def IE(te:TE):TS:=λD U H=>te U H D.rt
theorem Ba(j:PE X e te):PS X (.Return (some e) pos) (IE te):=by
 intros D I h;refine wpAny_Return_some (thn (j jb s U H _ I h) λv J zz=>?_);obtain⟨x,H1,q,z,G⟩:=zz;exact⟨x,U,H1,q,z,G⟩
def Jz(c:TT)(t u:TS):TS:=λD U H=>c U H λb H1=>if b=true then t D U H1 else u D U H1
theorem Cw{c:Expr}{a b:List Stmt}{tc:TT}(hc:PT X c tc)(G:PSs X a t)(J:PSs X b u):PS X (.If c a b pos) (Jz tc t u):=by
 intros D I h;refine wpAny_If (thn (hc jb s U H _ I h) λd j zz=>?_);obtain⟨H1,q,z⟩:=zz;cases d with
 | true=>exact G jb j U H1 D q z
 | false=>exact J jb j U H1 D q z
def B7:TS:=λ_ _ _=>False
theorem VF:PS X st B7:=λ_ _ _ _ _ _ h=>h.elim
end
abbrev TG:=V->St->Hp->(YO)->Prop
abbrev TGs:=YG->St->Hp->(YO)->Prop
def PG(X:Cx)(q:Expr)(t:TG):Prop:=
 ∀(jb:YC) (s:Shared) (U : St) (H:Hp) (v:V) (u:Value) (Q:YO),H^^^s->RelV v u->t v U H Q ->
  ‹X› (assign q X.env u) (λ_ s'=>∃ j H',Inv X jb j H' s'/\Q j H') X.xe s
def PGs(X:Cx)(ts:YJ)(t:TGs):Prop:=
 ∀(jb:YC) (s:Shared) (U : St) (H:Hp) (vs:YG) (us:YE) (Q:YO),H^^^s->Vals vs us->t vs U H Q ->
  ‹X› (assignInOrder ((assignEach ts X.env).map (·.2)) us) (λ_ s'=>∃ j H',Inv X jb j H' s'/\Q j H') X.xe s
abbrev yx:=V->V->V->Hp->(Hp->Prop)->Prop
def Fu(X:Cx)(t:yx):Prop:=
 ∀(jb:YC) (s:Shared) (U : St) (H:Hp) (o i v:V) (j iv u:Value) (Q:Hp->Prop),H^^^s->RelV o j->RelV i iv->RelV v u->t o i v H Q ->
  ‹X› (setItem j iv u) (λ_ s'=>∃H',Inv X jb U H' s'/\Q H') X.xe s
abbrev TIp:=V->V->Hp->VK->Prop
def PIp(X:Cx)(op:Operator)(t:TIp):Prop:=
 ∀(jb:YC) (s:Shared) (U : St) (H:Hp) (x y:V) (v u:Value) (Q:VK),H^^^s->RelV x v->RelV y u->t x y H Q ->
  ‹X› (inplaceOp op v u) (EP X jb U Q) X.xe s
section
variable{X:Cx}{pos:Pos}
def Ek(i:Nat):TG:=λv U H Q=>Q (U.set i (some v)) H
theorem Aj{i:Nat}{x:Str}(j:X.N.Nodup)(hi:X.N[i]?=some x)(q:Loc X.env.scope x)(z:X.fn x=true\/X.env.scope.names.lookup x=some .local:=by first | exact .inl rfl | exact .inr rfl | assumption):PG X (.Name x pos) (Ek i):=by
 intros v u Q I r h;exact wpAny_assign_Name (KY I j hi q r (λs' G=>⟨_,H,G,h⟩) z)
def OW:TGs:=λvs U H Q=>vs=[]/\Q U H
def Hm(t:TG)(u:TGs):TGs:=λvs U H Q=>∃v r,vs=v::r/\t v U H fun j H'=>u r j H' Q
theorem Bt:PGs X [] OW:=by
 intros j q Q I r h;obtain⟨e,h⟩:=h;subst e;cases r;exact assignInOrder_nil ⟨U,H,I,h⟩
theorem Am{e:Expr}{es:YJ}{t:TG}{u:TGs}(h1:PG X e t)(h2:PGs X es u)
  (hs:(assignEach (e::es) X.env).map (·.2)=assign e X.env::(assignEach es X.env).map (·.2):=by rfl):PGs X (e::es) (Hm t u):=by
 intros N O Q I r h;obtain⟨v,Y,e1,h⟩:=h;subst e1;cases r with
 | cons r q=>
  rw[hs];refine assignInOrder_cons (thn (h1 jb s U H _ _ _ I r h) λ_ z zz=>?_);obtain⟨j,H1,G,J⟩:=zz;exact h2 jb z j H1 _ _ Q G q J
def EV(K:YD)(n:Nat)(t:TGs):TG:=λv U H Q=>∃a xs,v=.ref a/\SqT K H a xs/\xs.length=n/\t xs U H Q
theorem CV{es:YJ}{k:Nat}{t:TGs}{n:Nat}(hc:X.calm=true)(h:PGs X es t)
  (z:(assignEach es X.env).length=n:=by rfl) (q:(assignEach es X.env).findIdx? (·.1)=none:=by rfl):PG X (.Tuple es k pos) (EV X.K n t):=by
 intros v u Q I r hw;obtain⟨a,xs,e1,G,J,hw⟩:=hw;subst e1;cases r;obtain⟨aa,j,N,hz⟩:=I.tuple G;refine assign_Tuple_tuple (I.ok.hd hc) N (by simp[z,<-J,j.length]) q λh' O=>?_;have Y:Inv X jb U H { s with heap:=h' }:=I.kept (t':=s.toks) λb o e=>O b o (Qcr (Qcp e)) e;exact h jb _ U H xs _ Q Y (by simpa using j) hw
def OV(to j:TE)(t:yx):TG:=λv U H Q=>to U H λo H1=>j U H1 λi H2=>t o i v H2 λq=>Q U q
theorem cV{o i:Expr}{to q:TE}{t:yx}(z:PE X o to)(hi:PE X i q)(hs:Fu X t)
  (G:∀v,assign (.Subscript o i pos) X.env v=(do
   let j <-holding [v] (eval o X.env);let iv <-holding [v,j] (eval i X.env)
   standAt pos
   holding [v,j,iv] (setItem j iv v)
   release [v,j,iv] []):=by intro _;rfl):PG X (.Subscript o i pos) (OV to q t):=by
 intros v u Q aa r h;rw[G];refine QcG (Qck (thn (z jb s U H _ aa h) λj I zz=>?_));obtain⟨x,H1,J,N,O⟩:=zz;refine QcG (Qck (thn (hi jb I U H1 _ J O) λiv Y zz=>?_));obtain⟨y,H2,I2,r2,q2⟩:=zz;refine QcG (Qcn (QcG (Qck (thn (hs jb Y U H2 x y v j iv u _ I2 N r2 r q2) λ_ s3 zz=>?_))));obtain⟨H3,I3,q3⟩:=zz;exact wpAny_release ⟨U,H3,I3,q3⟩
def bf(te:TE)(g:TG):TS:=λD U H=>te U H λx H1=>g x U H1 D.nx
theorem Ir{tg e:Expr}{te:TE}{g:TG}(j:PE X e te)(z:PG X tg g)(hs:swapsWithSole [tg] e pos.line X.env=pure false:=by rfl)(hw:swappedStores [tg] e X.env=pure none:=by rfl)
  (h1:(assignEach [tg] X.env).map (·.2)=[assign tg X.env]:=by rfl):PS X (.Assign [tg] e pos) (bf te g):=by
 intros D I h;refine wpAny_Assign_stores (thn (j jb s U H _ I h) λv G zz=>?_) hs hw;obtain⟨x,H1,J,N,O⟩:=zz;rw[h1];exact thn (z jb G U H1 x v _ J N O) λ_ Y q=>q
theorem Az{i:Nat}{x:Str}{e:Expr}{te:TE}{pos':Pos}(j:X.N.Nodup)(hi:X.N[i]?=some x)(q:Loc X.env.scope x)(z:PE X e te)(hs:swapsWith e (some (.Name x pos')) pos.line X.env=pure false:=by rfl)(G:X.fn x=true\/X.env.scope.names.lookup x=some .local:=by first | exact .inl rfl | exact .inr rfl | assumption) :
  PS X (.Assign [.Name x pos'] e pos) (bf te (Ek i)):=by
 intros D aa h;refine wpAny_Assign_Name (thn (z jb s U H _ aa h) λv s1 zz=>?_) hs;obtain⟨y,H1,I,J,O⟩:=zz;exact KY I j hi q J (λs2 Y=>⟨_,H1,Y,O⟩) G
def IM(i:Nat)(te:TE)(j:TIp):TS:=λD U H=>∃x,U[i]?=some (some x)/\te U H λy H1=>j x y H1 λz H2=>D.nx (U.set i (some z)) H2
theorem p8{i:Nat}{x:Str}{e:Expr}{te:TE}{op:Operator}{z:TIp}{pos':Pos}(hN:X.N.Nodup)(hi:X.N[i]?=some x)(q:Loc X.env.scope x)(he:PE X e te)(ho:PIp X op z)(hf:X.fn x=true\/X.env.scope.names.lookup x=some .local:=by first | exact .inl rfl | exact .inr rfl | assumption) :
  PS X (.AugAssign (.Name x pos') op e pos) (IM i te z):=by
 intros D I h;obtain⟨v,e1,h⟩:=h;obtain⟨m,hn,hl⟩:=I.loc;have aa:Vis X.env.scope x:=by rcases q with k | k;exact .inl k;exact .inr (.inl k)
 obtain⟨u,r,l⟩:=hl i x v hi e1 aa;refine wpAny_AugAssign_Name ?_;have G:‹X› (eval e X.env) (λw O=>‹X› (inplaceOp op u w) (λr Y=>‹X› (storeName X.env x r) (λ_=>SP X jb D .next) X.xe Y) X.xe O) X.xe s:=by
  refine thn (he jb s U H _ I h) λw s1 zz=>?_;obtain⟨y,H1,I1,r1,q1⟩:=zz;refine thn (ho jb s1 U H1 v y u w _ I1 r r1 q1) λab s2 zz=>?_;obtain⟨zv,H2,I2,r2,q2⟩:=zz;exact KY I2 hN hi q r2 (λs3 I3=>⟨_,H2,I3,q2⟩) hf
 rcases l with⟨j,hm⟩|⟨j,c,hc,J⟩
 .exact wpAny_loadName_local I.ok.kind j hn hm G
 .rcases j with j | j
  .exact wpAny_loadName_cell I.ok.kind j hc J G
  .rcases q with k | k
   .have:X.env.scope.names.lookup x=some .free:=j;rw[k] at this;cases this
   .have:X.env.scope.names.lookup x=some .free:=j;rw[k] at this;cases this
def ipI(f:Int->Int->Int):TIp:=λx y H Q=>∃i j,x=.int i/\y=.int j/\Q (.int (f i j)) H
theorem qT:PIp X .Add (ipI λi j=>i+j):=by
 intros x y v u Q I z G h;obtain⟨i,j,e1,e2,q⟩:=h;subst e1;subst e2;obtain⟨t,rfl⟩:=z;obtain⟨J,rfl⟩:=G;exact iadd_int {.int _,H,I.tok _,⟨_,rq⟩,q}
end
section
variable{X:Cx}{pos:Pos}
abbrev YN:=Nat->YO
def aY(c:TT)(tb:TS):TS:=λD U H=>∃W:YN,(∃m,W m U H)/\∀m U H,W m U H ->
 c U H λb H1=>if b=true then ∃N:YO,(∀ j H',N j H'->∃q,q < m/\W q j H')/\tb { D with nx:=N,ct:=N,bk:=D.nx } U H1 else D.nx U H1
theorem cQ{c:Expr}{aa:List Stmt}{tc:TT}{tb:TS}(hp:PassesOwn (model X.prog X.w) X.A X.env X.xe)(hc:PT X c tc)(hb:PSs X aa tb):PS X (.While c aa [] pos) (aY tc tb):=by
 intros D af h;obtain⟨W,⟨m0,w0⟩,ae⟩:=h;refine wpAny_While (codeAny_whileLoop (λn s'=>∃ ab H',Inv X jb ab H' s'/\W n ab H') ?_ m0 ⟨U,H,af,w0⟩);rintro n s1 ⟨z,H1,I1,w1⟩;refine QbV hp (thn (hc jb s1 z H1 _ I1 (ae n z H1 w1)) λb s2 zz=>?_);obtain⟨H2,I2,G⟩:=zz;cases b with
 | true=>
  obtain⟨ag,hN,G⟩:=G;rw[if_pos rfl];refine QbV hp (thn (hb jb s2 z H2 _ I2 G) λf s3 I=>?_);cases f with
  | next=>
   obtain⟨j,q,J,N⟩:=I;obtain⟨O,Y,w3⟩:=hN j q N;exact⟨O,Y,j,q,J,w3⟩
  | cont=>
   obtain⟨j,q,J,N⟩:=I;obtain⟨O,Y,w3⟩:=hN j q N;exact⟨O,Y,j,q,J,w3⟩
  | brk=>exact I
  | ret v=>exact I
 | false=>
  rw[if_neg QaX];exact wpAny_execs_nil ⟨z,H2,I2,G⟩
end
structure It where
 go:Nat->Hp->Prop
 yld:Nat->Hp->V->Hp->Prop
 stop:Nat->Hp->Prop
def G8(X:Cx)(jb:YC)(H:Hp)(b:Addr):Prop:=
 H b=none/\b≠X.env.locals/\b∉X.fs/\(b∈X.ex\/X.s₀.heap.objs.size<=b)/\(∀x c,X.env.cells.lookup x=some c->c≠b)/\∀p∈X.pn++jb,p.1≠b
theorem Inv.QD{X:Cx}{jb:YC}{U : St}{H H':Hp}{s:Shared}{b:Addr}(I:H^^^s)(j:∅<=b)(G:H' b=none):G8 X jb H' b:=by
 refine⟨G,Qcv (Qba I.lt j),I.vY j,.inr (Qcs I.sz j),λx c e z=>?_,λp J z=>?_⟩
 .obtain⟨v,q⟩:=I.cell x c e;exact absurd (Qba q.lt (by rw[z];exact j)) (Qcj _)
 .exact absurd (Qba (Qcp (I.pin p J).1) (by rw[z];exact j)) (Qcj _)
structure Turn(P:Program)(w:World)(K:YD)(tg:Expr)(J:It)(fp:List Addr)(it:Addr)(tn:Nat->Heap->Prop):Prop where
 mem:it∈fp
 obj:∀i h,tn i h->∀b∈fp,∃o,h.get? b=some o/\∀v,o.data≠.cell v
 keep:∀i h h',tn i h->(∀b∈fp,∀o,h.get? b=some o->h'.get? b=some o)->tn i h'
 item:∀(X:Cx),X.prog=P->X.w=w->X.K=K->X.calm=true->∀(i:Nat) (jb:YC) (s:Shared) (U : St) (H:Hp) (E:YA),H^^^s->(∀b∈fp,G8 X jb H b)->tn i s.heap->J.go i H ->
  wpAny (model P w) X.A (pyNext (.ref it)) (λr s1=>∃u,r=some u /\
   wpAny (model P w) X.A (letOwnedTupleGo tg (.ref it) u) (λ_ s2=>∃x H',Inv X jb U H' s2/\RelV x u/\J.yld i H x H'/\tn (i+1) s2.heap/\∀b∈fp,H' b=none) E s1) E s
 done:∀(X:Cx),X.prog=P->X.w=w->X.K=K->X.calm=true->∀(i:Nat) (jb:YC) (s:Shared) (U : St) (H:Hp) (E:YA),H^^^s->(∀b∈fp,G8 X jb H b)->tn i s.heap->J.stop i H ->
  wpAny (model P w) X.A (pyNext (.ref it)) (λr s1=>r=none/\Inv X jb U H s1) E s
 self:∀(A:Around) (i:Nat) (s:Shared) (Q:YA) (E:YA),tn i s.heap->Q (.ref it) s->wpAny (model P w) A (pyIter (.ref it)) Q E s
abbrev TI:=St->Hp->(It->Hp->Prop)->Prop
def PIE(X:Cx)(jb:YC)(U : St)(tg:Expr)(R:It->Hp->Prop)(z:Value)(j:Shared):Prop:=
 ∃(it:Addr) (fp:List Addr) (q:Nat->Heap->Prop) (J:It) (H':Hp),z=.ref it/\Inv X jb U H' j/\Turn X.prog X.w X.K tg J fp it q/\q 0 j.heap/\(∀b∈fp,G8 X jb H' b)/\R J H'
def PI(X:Cx)(tg iter:Expr)(j:TI):Prop:=
 ∀(jb:YC) (s:Shared) (U : St) (H:Hp) (R:It->Hp->Prop),H^^^s->j U H R ->
  ‹X› (eval iter X.env) (λv q=>‹X› (pyIter v) (PIE X jb U tg R) X.xe q) X.xe s
theorem Uy{M:Model}{A:Around}{E:YA}{s:Shared}{tg:Expr}{it:Addr}{u:Value}{o:Obj}{n:String}{vs:Array Value}{Q:YH}(q:s.heap.get? it=some o)(hc:o.cls=.type n)(z:o.data=.fields vs)
    (G:["enumerate","zip","dict_itemiterator","dict_reverseitemiterator","odict_iterator","itertools.zip_longest","itertools.pairwise"].contains n=false) (j:Q () s):wpAny M A (letOwnedTupleGo tg (.ref it) u) Q E s:=by
  unfold letOwnedTupleGo;cases tg <;> first
    | exact QcH j
    | (cases u <;> first
        | exact QcH j
        | (refine QcG (wpAny_load q ?_)
           rw[hc,z];show wpAny M A (if (["enumerate","zip","dict_itemiterator","dict_reverseitemiterator","odict_iterator","itertools.zip_longest","itertools.pairwise"].contains n&&vs[0]? == some (rawInt _))=true then _ else _) Q E s
           rw[if_neg (by intro h;rw[G,Bool.false_and] at h;cases h)];exact QcH j))
def Itl(K:YD)(a:Addr):It:=
 ⟨λi H=>∃xs x,SqL K H a xs/\xs[i]?=some x,λi H x H'=>H'=H/\∀xs,SqL K H a xs->xs[i]?=some x,λi H=>∃xs,SqL K H a xs/\xs.length<=i⟩
def Itt(K:YD)(a:Addr):It:=
 ⟨λi H=>∃xs x,SqT K H a xs/\xs[i]?=some x,λi H x H'=>H'=H/\∀xs,SqT K H a xs->xs[i]?=some x,λi H=>∃xs,SqT K H a xs/\xs.length<=i⟩
def Itr(lo:Int)(n:Nat):It:=⟨λi _=>i < n,λi H x H'=>H'=H/\x=.int (lo+i),λi _=>n<=i⟩
theorem pI{P:Program}{w:World}{K:YD}{tg:Expr}(a it:Addr):Turn P w K tg (Itl K a) [it] it (λi h=>h.IsListIter it a i) where
 mem:=by simp
 obj:=λi h st b j=>by
  have e:b=it:=by simpa using j
  subst e;obtain⟨o,e,c,d⟩:=st;exact⟨o,e,λv ab=>by rw[d] at ab;cases ab⟩
 keep:=λi h h' st k=>st.at λo e=>k it 04 o e
 item:=by
  intro X G hw J hc i jb s U H E I q st N;subst G hw J;obtain⟨xs,x,z,O⟩:=N;obtain⟨ae,Y,p,hz⟩:=I.list z;obtain⟨u,hu,ru⟩:=Y.get O;obtain⟨f0,f1,f2,f3,f4,f5⟩:=q it 04;refine wpAny_pyNext_list_item st p.isList (x:=u) (by simpa using hu) λh' aa sb=>?_;have I1:Inv X jb U H { s with heap:=h' }:=I.turned (t':=s.toks) (λb o j e=>(sb.2 b j).trans e) f0 f1 f3 f4 f5;obtain⟨o,e,c,d⟩:=id aa;exact⟨u,rq,Uy (s:={ s with heap:=h' }) e c d 05 ⟨x,H,I1,ru,⟨rq,λys hy=>by rw[I.eE hy z];exact O⟩,aa,λb j=>(q b j).1⟩⟩
 done:=by
  intro X G hw J hc i jb s U H E I q st N;subst G hw J;obtain⟨xs,z,O⟩:=N;obtain⟨ae,Y,p,hz⟩:=I.list z;obtain⟨f0,f1,f2,f3,f4,f5⟩:=q it 04;have hl:=Y.length;exact wpAny_pyNext_list_end (I.ok.hd hc) st p.isList (by simp;lia) λh' eb=>⟨rq,I.turned (t':=s.toks) (λb o j e=>eb b o j e) f0 f1 f3 f4 f5⟩
 self:=λ_ _ _ _ _ st h=>wpAny_pyIter_listiter st h
theorem lH{P:Program}{w:World}{K:YD}{tg:Expr}(a it:Addr):Turn P w K tg (Itt K a) [it] it (λi h=>h.IsTupleIter it a i) where
 mem:=by simp
 obj:=λi h st b j=>by
  have e:b=it:=by simpa using j
  subst e;obtain⟨o,e,c,d⟩:=st;exact⟨o,e,λv ab=>by rw[d] at ab;cases ab⟩
 keep:=λi h h' st k=>st.at λo e=>k it 04 o e
 item:=by
  intro X J hw N hc i jb s U H E I q st O;subst J hw N;obtain⟨xs,x,z,Y⟩:=O;obtain⟨G,rv,p,hz⟩:=I.tuple z;obtain⟨u,hu,ru⟩:=rv.get Y;obtain⟨f0,f1,f2,f3,f4,f5⟩:=q it 04;refine wpAny_pyNext_tuple_item st (show s.heap.IsTuple a G.toArray from p) (x:=u) (by simpa using hu) λh' aa sb=>?_
  have I1:Inv X jb U H { s with heap:=h' }:=I.turned (t':=s.toks) (λb o j e=>(sb.2 b j).trans e) f0 f1 f3 f4 f5;obtain⟨o,e,c,d⟩:=id aa;exact⟨u,rq,Uy (s:={ s with heap:=h' }) e c d 05 ⟨x,H,I1,ru,⟨rq,λys hy=>by rw[I.Zg hy z];exact Y⟩,aa,λb j=>(q b j).1⟩⟩
 done:=by
  intro X J hw N hc i jb s U H E I q st O;subst J hw N;obtain⟨xs,z,Y⟩:=O;obtain⟨G,rv,p,hz⟩:=I.tuple z;obtain⟨f0,f1,f2,f3,f4,f5⟩:=q it 04;have hl:=rv.length;exact wpAny_pyNext_tuple_end (I.ok.hd hc) st (show s.heap.IsTuple a G.toArray from p) (by simp;lia) λh' eb=>⟨rq,I.turned (t':=s.toks) (λb o j e=>eb b o j e) f0 f1 f3 f4 f5⟩
 self:=λ_ _ _ _ _ st h=>wpAny_pyIter_tupleiter st h
theorem lJ{P:Program}{w:World}{K:YD}{tg:Expr}(it:Addr)(lo:Int)(n:Nat):Turn P w K tg (Itr lo n) [it] it (λi h=>IsRangeIter h it (lo+(i:Nat)*1) ((n:Int) - (i:Nat)) 1) where
 mem:=by simp
 obj:=λi h st b j=>by
  have e:b=it:=by simpa using j
  subst e;exact⟨_,st,λv ab=>by
   have z':Data.fields _=Data.cell v:=ab;cases z'⟩
 keep:=λi h h' st k=>k it 04 _ st
 item:=by
  intro X z hw G hc i jb s U H E I q st J;subst z hw G;obtain⟨N,O,f2,Y,f4,f5⟩:=q it 04;have W:=Walks.range (prog:=X.prog) (w:=X.w) (I.ok.hd hc) it lo 1 n;refine W.item i s _ _ J st λv h' tk hv aa kk=>?_;obtain⟨t,rfl⟩:=hv;have I1:Inv X jb U H { s with heap:=h',toks:=tk }:=I.turned (λb o j e=>kk b o (by simpa using j) e) N O Y f4 f5;refine⟨_,rq,Uy (s:={ s with heap:=h',toks:=tk }) (n:="range_iterator") aa rfl rfl 05 {.int (lo+i),H,I1,⟨t,?_⟩,⟨rq,rq⟩,aa,λb j=>(q b j).1}⟩;rw[Int.mul_one]
 done:=by
  intro X z hw G hc i jb s U H E I q st J;subst z hw G;obtain⟨N,O,f2,Y,f4,f5⟩:=q it 04;exact wpAny_pyNext_range_end (I.ok.hd hc) st (by have:n<=i:=J;lia) λh' eb=>⟨rq,I.turned (t':=s.toks) (λb o j e=>eb b o j e) N O Y f4 f5⟩
 self:=λ_ _ _ _ _ st h=>wpAny_pyIter_rangeiter st h
section
variable{X:Cx}{tg:Expr}
def GT(K:YD)(tl:TE):TI:=fun U H R=>tl U H λx H1=>∃a,x=.ref a/\(∃xs,SqL K H1 a xs)/\R (Itl K a) H1
def MV(K:YD)(tl:TE):TI:=fun U H R=>tl U H λx H1=>∃a,x=.ref a/\(∃xs,SqT K H1 a xs)/\R (Itt K a) H1
theorem CZ{l:Expr}{tl:TE}(G:PE X l tl):PI X tg l (GT X.K tl):=by
 intros R I h;refine thn (G jb s U H _ I h) λv j zz=>?_;obtain⟨x,H1,z,J,N⟩:=zz;obtain⟨a,e,⟨xs,O⟩,q⟩:=N;subst e;cases J;obtain⟨aa,rv,p,hz⟩:=z.list O;refine Qbv p.isList ?_;refine⟨j.heap.objs.size,[j.heap.objs.size],_,_,H1,rq,z.kept (t':=j.toks) λb o e=>Qax _ e,pI a _,{_,QaM _ rfl,rq,rq},λb Y=>?_,q⟩;have e:b=j.heap.objs.size:=by simpa using Y
 subst e;exact z.QD (QcA _) (z.hok.fresh (QcA _))
theorem Fb{l:Expr}{tl:TE}(G:PE X l tl):PI X tg l (MV X.K tl):=by
 intros R I h;refine thn (G jb s U H _ I h) λv j zz=>?_;obtain⟨x,H1,q,J,N⟩:=zz;obtain⟨a,e,⟨xs,O⟩,aa⟩:=N;subst e;cases J;obtain⟨z,rv,p,hz⟩:=q.tuple O;refine Qbe (show j.heap.IsTuple a z.toArray from p) ?_
 refine⟨j.heap.objs.size,[j.heap.objs.size],_,_,H1,rq,q.kept (t':=j.toks) λb o e=>Qax _ e,lH a _,{_,QaM _ rfl,rq,rq},λb Y=>?_,aa⟩;have e:b=j.heap.objs.size:=by simpa using Y
 subst e;exact q.QD (QcA _) (q.hok.fresh (QcA _))
theorem cM{jb:YC}{U : St}{H:Hp}{s:Shared}{R:It->Hp->Prop}{E:YA}{lo hi:Int}{t u v:Tok}{tk:Nat}(I:H^^^s)(h1:-(2 ^ 62)<=lo)(h2:lo < 2 ^ 62)(z:-(2 ^ 62)<=hi)(G:hi < 2 ^ 62)
  (q:R (Itr lo (hi - lo).toNat) H):‹X› (pyIter (.ref ∅)) (PIE X jb U tg R) E { s with heap:=s.heap.push { cls:=.type "range",data:=.fields #[.int lo t,.int hi u,.int 1 v] },toks:=tk }:=by
 refine wpAny_pyIter_range (IsRange.new ..) (small_one h1 h2 z G) ?_;have j:Inv X jb U H { s with heap:=s.heap.push { cls:=.type "range",data:=.fields #[.int lo t,.int hi u,.int 1 v] },toks:=tk }:=I.kept λb o e=>Qax _ e;refine⟨(s.heap.push { cls:=.type "range",data:=.fields #[.int lo t,.int hi u,.int 1 v] }).objs.size,[(s.heap.push { cls:=.type "range",data:=.fields #[.int lo t,.int hi u,.int 1 v] }).objs.size],_,_,H,rq,
  j.kept (t':=tk) λb o e=>Qax _ e,lJ _ lo (hi - lo).toNat,?_,λb J=>?_,q⟩
 .have e1:lo+((0:Nat):Int)*1=lo:=by simp
  have e2:(((hi - lo).toNat:Nat):Int) - ((0:Nat):Int)=Builtin.Range.rangeSize lo hi 1:=by rw[rangeSize_one];split <;> lia
  show IsRangeIter _ _ (lo+((0:Nat):Int)*1) ((((hi - lo).toNat:Nat):Int) - ((0:Nat):Int)) 1;rw[e1,e2];exact QaM _ rfl
 .have e:b=(s.heap.push { cls:=.type "range",data:=.fields #[.int lo t,.int hi u,.int 1 v] }).objs.size:=by simpa using J
  subst e;exact j.QD (QcA _) (j.hok.fresh (QcA _))
def GS(ta:TA):TI:=fun U H R=>ta U H λvs H1=>∃j:Int,vs=[.int j]/\-(2 ^ 62)<=j/\j < 2 ^ 62/\R (Itr 0 j.toNat) H1
def GO(ta:TA):TI:=fun U H R=>ta U H λvs H1=>∃i j:Int,vs=[.int i,.int j]/\(-(2 ^ 62)<=i/\i < 2 ^ 62/\-(2 ^ 62)<=j/\j < 2 ^ 62)/\R (Itr i (j - i).toNat) H1
theorem Dp{a:Expr}{ta:TA}{p pos:Pos}(q:Gl X "range")(z:X.mg "range"=none)(G:PA X [a] ta)(hs:starEach [a] X.env=[(false,eval a X.env)]:=by rfl):PI X tg (.Call (.Name "range" p) [a] [] pos) (GS ta):=by
 intros R I h;refine Call_ (Jp I q z boot_range (Qae (thn (G pos jb s U H _ I h) λus s1 zz=>?_) hs rfl));obtain⟨vs,H1,J,N,j⟩:=zz;obtain⟨ab,e,j,O,aa⟩:=j;subst e;cases N with
 | cons r Y=>
  cases Y;obtain⟨t,rfl⟩:=r;exact call_range_1 (cM J 00 00 j O (by simpa using aa))
theorem qg{a b:Expr}{ta:TA}{p pos:Pos}(G:Gl X "range")(J:X.mg "range"=none)(N:PA X [a,b] ta)(hs:starEach [a,b] X.env=[(false,eval a X.env),(false,eval b X.env)]:=by rfl)(z:starEach [b] X.env=[(false,eval b X.env)]:=by rfl) :
  PI X tg (.Call (.Name "range" p) [a,b] [] pos) (GO ta):=by
 intros R I h;refine Call_ (Jp I G J boot_range (Qae (thn (N pos jb s U H _ I h) λus s1 zz=>?_) (by rw[hs,z]) (by rw[z];rfl)));obtain⟨vs,H1,O,Y,j⟩:=zz;obtain⟨i,ab,e,⟨j,q2,q3,q4⟩,aa⟩:=j;subst e;cases Y with
 | cons r q=>
  cases q with
  | cons r' q=>
   cases q;obtain⟨t,rfl⟩:=r;obtain⟨t',rfl⟩:=r';exact call_range_2 (cM O j q2 q3 q4 aa)
def Dm(G:TI)(g:TG)(tb:TS):TS:=λD U H=>G U H λJ H1=>∃W:Nat->YN,(∃m,W 0 m U H1)/\∀i m U H,W i m U H ->
 (J.stop i H/\D.nx U H)\/(J.go i H/\∃N:YO,(∀ j H',N j H'->∃q,q < m/\W (i+1) q j H')/\∀x H',J.yld i H x H'->g x U H' fun z H2=>tb { D with nx:=N,ct:=N,bk:=D.nx } z H2)
def Om(fp:List Addr)(h:Heap):YC:=fp.filterMap λb=>(h.get? b).map λo=>(b,o)
theorem KC{fp:List Addr}{h:Heap}{b:Addr}{o:Obj}(j:b∈fp)(e:h.get? b=some o):(b,o)∈Om fp h:=List.mem_filterMap.mpr ⟨b,j,by rw[e];rfl⟩
theorem qD{fp:List Addr}{h:Heap}{p:Addr×Obj}(j:p∈Om fp h):p.1∈fp/\h.get? p.1=some p.2:=by
 obtain⟨b,z,e⟩:=List.mem_filterMap.mp j;cases q:h.get? b with
 | none=>rw[q] at e;cases e
 | some o=>
  rw[q] at e;have G:(b,o)=p:=QbP e;subst G;exact⟨z,q⟩
theorem Inv.pinned{jb:YC}{U : St}{H:Hp}{s:Shared}{fp:List Addr}(I:H^^^s)(G:∀b∈fp,G8 X jb H b)(J:∀b∈fp,∃o,s.heap.get? b=some o/\∀v,o.data≠.cell v):Inv X (jb++Om fp s.heap) U H s:=
 I.Ui λp N=>(QbK.mp N).elim (λz=>I.pin p (QaC _ z)) λz=>by
  obtain⟨j,e⟩:=qD z;obtain⟨O,Y,f2,_⟩:=G p.1 j;obtain⟨o,q,d⟩:=J p.1 j;rw[e] at q;cases q;exact⟨e,O,Y,f2,d⟩
theorem Inv.Im{jb pl:YC}{U : St}{H:Hp}{s:Shared}(I:Inv X (jb++pl) U H s):Inv X jb U H s:=I.Ui λp j=>I.pin p (QaC _ (QaJ _ j))
theorem Cj{iter:Expr}{ae:List Stmt}{wi:TI}{g:TG}{tb:TS}{pos:Pos}(O:PassesOwn (model X.prog X.w) X.A X.env X.xe)(hc:X.calm=true)(hi:PI X tg iter wi)(hg:PG X tg g)(q:PSs X ae tb)
  (hs:∀x,foldedSetIterable iter X.env x=pure x:=by intro _;rfl):PS X (.For tg iter ae [] pos) (Dm wi g tb):=by
 intros D ao h;refine wpAny_For (thn (hi jb s U H _ ao h) λv s1 h1=>thn h1 λar s2 h2=>?_) hs;obtain⟨it,fp,tn,as,H2,e,I2,T,ai,f2,W,⟨m0,w0⟩,ah⟩:=h2;subst e;have aa:∀{H':Hp},(∀b∈fp,H' b=none)->∀b∈fp,G8 X jb H' b:=λhn b q=>{hn b q,(f2 b q).2};refine codeAny_forLoop_any (λn s'=>∃i J H',Inv X jb J H' s'/\tn i s'.heap/\(∀b∈fp,H' b=none)/\W i n J H') ?_ m0 {0,U,H2,I2,ai,λb q=>(f2 b q).1,w0};rintro n s3 ⟨i,N,H3,I3,af,ag,w3⟩;rcases ah i n N H3 w3 with⟨stop,qn⟩|⟨go,ap,hN,step⟩
 .refine QbV O (thn (T.done X rfl rfl rfl hc i jb s3 N H3 X.xe I3 (aa ag) af stop) λr s4 zz=>?_);obtain⟨hr,I4⟩:=zz;subst hr;exact wpAny_execs_nil ⟨N,H3,I4,qn⟩
 .refine QbV O (thn (T.item X rfl rfl rfl hc i jb s3 N H3 X.xe I3 (aa ag) af go) λr s4 zz=>?_);obtain⟨u,hr,h4⟩:=zz;subst hr;refine QbV O (thn h4 λ_ s5 zz=>?_);obtain⟨x,H5,I5,r5,y5,ab,al⟩:=zz;have am:=I5.pinned (aa al) (T.obj _ _ ab);refine QbV O (thn (hg _ s5 N H5 x u _ am r5 (step x H5 y5)) λ_ s6 zz=>?_);obtain⟨an,H6,I6,q6⟩:=zz;refine QbV O (thn (q _ s6 an H6 _ I6 q6) λf s7 I=>?_);have again:∀{j:St} {z:Hp},Inv X (jb++Om fp s5.heap) j z s7->ap j z->∃m,m < n/\∃i J H',Inv X jb J H' s7/\tn i s7.heap/\(∀b∈fp,H' b=none)/\W i m J H':=λ{j z} G Y=>by
   obtain⟨m',hm,w7⟩:=hN j z Y;refine⟨m',hm,i+1,j,z,G.Im,T.keep _ _ _ ab λb q o e=>(G.pin (b,o) (QaC _ (QaC _ (KC q e)))).1,λb q=>?_,w7⟩;obtain⟨o,e,d⟩:=T.obj _ _ ab b q;exact (G.pin (b,o) (QaC _ (QaC _ (KC q e)))).2.1
  cases f with
  | next=>obtain⟨j,z,G,Y⟩:=I;exact again G Y
  | cont=>obtain⟨j,z,G,Y⟩:=I;exact again G Y
  | brk=>obtain⟨j,z,G,I⟩:=I;exact⟨j,z,G.Im,I⟩
  | ret v=>obtain⟨x7,j,z,G,r7,I⟩:=I;exact⟨x7,j,z,G.Im,r7,I⟩
end
theorem Rq{K:YD}{a:Addr}{xs:YG}{g:TG}{tb:TS}{D:Ends}{U : St}{H:Hp}(Pv:YN)(J:Pv 0 U H)(O:∀i U H,i<=xs.length->Pv i U H->SqL K H a xs)
  (hs:∀i x U H,xs[i]?=some x->Pv i U H->g x U H fun j H2=>tb { D with nx:=Pv (i+1),ct:=Pv (i+1),bk:=D.nx } j H2) (Y:∀ U H,Pv xs.length U H->D.nx U H) :
  ∃W:Nat->YN,(∃m,W 0 m U H)/\∀i m U H,W i m U H ->
   ((Itl K a).stop i H/\D.nx U H)\/((Itl K a).go i H/\∃N:YO,(∀ z H',N z H'->∃I,I < m/\W (i+1) I z H')/\∀x H',(Itl K a).yld i H x H'->g x U H' fun j H2=>tb { D with nx:=N,ct:=N,bk:=D.nx } j H2):=by
 refine{λi m U H=>m=xs.length - i/\i<=xs.length/\Pv i U H,⟨xs.length,by simp,QcB _,J⟩,?_};rintro i m U H ⟨rfl,hi,p⟩;have q:=O i U H hi p;by_cases G:i < xs.length
 .refine .inr {⟨xs,xs[i],q,by simp[G]⟩,Pv (i+1),fun z H' p'=>{xs.length - (i+1),by lia,rq,G,p'},λx H' y=>?_};obtain⟨e,y⟩:=y;subst e;exact hs i x U _ (y xs q) p
 .have e:i=xs.length:=by lia
  subst e;exact .inl {⟨xs,q,QcA _⟩,Y U H p}
theorem Kd{K:YD}{a:Addr}{xs:YG}{g:TG}{tb:TS}{D:Ends}{U : St}{H:Hp}(Pv:YN)(J:Pv 0 U H)(O:∀i U H,i<=xs.length->Pv i U H->SqT K H a xs)
  (hs:∀i x U H,xs[i]?=some x->Pv i U H->g x U H fun j H2=>tb { D with nx:=Pv (i+1),ct:=Pv (i+1),bk:=D.nx } j H2) (Y:∀ U H,Pv xs.length U H->D.nx U H) :
  ∃W:Nat->YN,(∃m,W 0 m U H)/\∀i m U H,W i m U H ->
   ((Itt K a).stop i H/\D.nx U H)\/((Itt K a).go i H/\∃N:YO,(∀ z H',N z H'->∃I,I < m/\W (i+1) I z H')/\∀x H',(Itt K a).yld i H x H'->g x U H' fun j H2=>tb { D with nx:=N,ct:=N,bk:=D.nx } j H2):=by
 refine{λi m U H=>m=xs.length - i/\i<=xs.length/\Pv i U H,⟨xs.length,by simp,QcB _,J⟩,?_};rintro i m U H ⟨rfl,hi,p⟩;have q:=O i U H hi p;by_cases G:i < xs.length
 .refine .inr {⟨xs,xs[i],q,by simp[G]⟩,Pv (i+1),fun z H' p'=>{xs.length - (i+1),by lia,rq,G,p'},λx H' y=>?_};obtain⟨e,y⟩:=y;subst e;exact hs i x U _ (y xs q) p
 .have e:i=xs.length:=by lia
  subst e;exact .inl {⟨xs,q,QcA _⟩,Y U H p}
theorem Fg{lo:Int}{n:Nat}{g:TG}{tb:TS}{D:Ends}{U : St}{H:Hp}(Pv:YN)(I:Pv 0 U H)
  (hs:∀i U H,i < n->Pv i U H->g (.int (lo+i)) U H fun j H2=>tb { D with nx:=Pv (i+1),ct:=Pv (i+1),bk:=D.nx } j H2) (J:∀ U H,Pv n U H->D.nx U H) :
  ∃W:Nat->YN,(∃m,W 0 m U H)/\∀i m U H,W i m U H ->
   ((Itr lo n).stop i H/\D.nx U H)\/((Itr lo n).go i H/\∃N:YO,(∀ q H',N q H'->∃G,G < m/\W (i+1) G q H')/\∀x H',(Itr lo n).yld i H x H'->g x U H' fun j H2=>tb { D with nx:=N,ct:=N,bk:=D.nx } j H2):=by
 refine{λi m U H=>m=n - i/\i<=n/\Pv i U H,⟨n,by simp,QcB _,I⟩,?_};rintro i m U H ⟨rfl,hi,p⟩;by_cases z:i < n
 .refine .inr ⟨z,Pv (i+1),fun q H' O=>{n - (i+1),by lia,rq,z,O},λx H' y=>?_⟩;obtain⟨e,y⟩:=y;subst e y;exact hs i U _ z p
 .have e:i=n:=by lia
  subst e;exact .inl {QcA _,J U H p}
abbrev R2:=V->V->Hp->VK->Prop
def OpR(X:Cx)(f:Value->Value->Sem Value)(r:R2):Prop:=
 ∀(jb:YC) (s:Shared) (U : St) (H:Hp) (x y:V) (v u:Value) (Q:VK),H^^^s->RelV x v->RelV y u->r x y H Q ->
  ‹X› (f v u) (EP X jb U Q) X.xe s
def UnR(X:Cx)(f:Value->Sem Value)(r:V->Hp->VK->Prop):Prop:=
 ∀(jb:YC) (s:Shared) (U : St) (H:Hp) (x:V) (v:Value) (Q:VK),H^^^s->RelV x v->r x H Q ->
  ‹X› (f v) (EP X jb U Q) X.xe s
def DN(X:Cx)(f:Value)(r:YG->Hp->VK->Prop):Prop:=
 ∀(jb:YC) (s:Shared) (U : St) (H:Hp) (xs:YG) (us:YE) (Q:VK),H^^^s->Vals xs us->r xs H Q ->
  ‹X› (call f us) (EP X jb U Q) X.xe s
def SB(X:Cx)(r:V->Hp->(Bool->Hp->Prop)->Prop):Prop:=
 ∀(jb:YC) (s:Shared) (U : St) (H:Hp) (x:V) (v:Value) (Q:Bool->Hp->Prop),H^^^s->RelV x v->r x H Q ->
  ‹X› (truthy v) (TP X jb U Q) X.xe s
def tOp(r:R2)(ta tb:TE):TE:=fun U H Q=>ta U H λx H1=>tb U H1 λy H2=>r x y H2 Q
def tUn(r:V->Hp->VK->Prop)(ta:TE):TE:=fun U H Q=>ta U H λx H1=>r x H1 Q
def rI(C:Int->Int->Prop)(g:Int->Int->V):R2:=λx y H Q=>∃i j,x=.int i/\y=.int j/\C i j/\Q (g i j) H
def rI0(g:Int->Int->V):R2:=λx y H Q=>∃i j,x=.int i/\y=.int j/\Q (g i j) H
def rU(g:Int->V):V->Hp->VK->Prop:=λx H Q=>∃i,x=.int i/\Q (g i) H
section
variable{X:Cx}{a b c:Expr}{ta tb tc:TE}{pos:Pos}
theorem yu(G:PE X a ta)(I:PE X b tb){jb:YC}{s:Shared}{U : St}{H:Hp}{R:V->V->Hp->Prop}(aa:H^^^s)
  (h:ta U H λx H1=>tb U H1 λy H2=>R x y H2) {Q:YA} {f:Value->Value->Sem Value}
  (J:∀v u j x y H2,H2^^^j->RelV x v->RelV y u->R x y H2->‹X› (f v u) Q X.xe j) :
  ‹X› (eval a X.env) (λv q=>‹X› (eval b X.env) (λu z=>‹X› (f v u) Q X.xe z) X.xe q) X.xe s:=by
 refine thn (G jb s U H _ aa h) λv N zz=>?_;obtain⟨x,H1,O,Y,q1⟩:=zz;refine thn (I jb N U H1 _ O q1) λu j zz=>?_;obtain⟨y,H2,I2,r2,q2⟩:=zz;exact J v u j x y H2 I2 Y r2 q2
theorem Bh{op:Operator}{r:R2}(j:OpR X (binaryOp op) r)(z:PE X a ta)(G:PE X b tb):PE X (.BinOp a op b pos) (tOp r ta tb):=by
 intros Q I h;exact wpAny_BinOp (yu z G I h λv u J x y H2 N O Y q=>j jb J U H2 x y v u Q N O Y q)
theorem Px{op:UnaryOp}{r:V->Hp->VK->Prop}(j:UnR X (unaryOp op) r)(q:PE X a ta):PE X (.UnaryOp op a pos) (tUn r ta):=by
 intros Q I h;refine UnaryOp_ (thn (q jb s U H _ I h) λv z zz=>?_);obtain⟨x,H1,G,J,N⟩:=zz;exact j jb z U H1 x v Q G J N
theorem opI{f:Value->Value->Sem Value}{C:Int->Int->Prop}{g:Int->Int->Int}
  (rule:∀(i j:Int) (t u:Tok) (s:Shared) (Q:YA) (E:YA),C i j->Q (.int (g i j) s.toks) { s with toks:=s.toks+1 }->‹X› (f (.int i t) (.int j u)) Q E s) :
  OpR X f (rI C λi j=>.int (g i j)):=by
 intros x y v u Q I z G h;obtain⟨i,j,rfl,rfl,hc,q⟩:=h;obtain⟨t,rfl⟩:=z;obtain⟨J,rfl⟩:=G;exact rule i j t J s _ _ hc {.int (g i j),H,I.tok _,⟨_,rq⟩,q}
theorem Da{f:Value->Value->Sem Value}{g:Int->Int->Int}
  (rule:∀(i j:Int) (t u:Tok) (s:Shared) (Q:YA) (E:YA),Q (.int (g i j) s.toks) { s with toks:=s.toks+1 }->‹X› (f (.int i t) (.int j u)) Q E s) :
  OpR X f (rI0 λi j=>.int (g i j)):=by
 intros x y v u Q I z G h;obtain⟨i,j,rfl,rfl,q⟩:=h;obtain⟨t,rfl⟩:=z;obtain⟨J,rfl⟩:=G;exact rule i j t J s _ _ {.int (g i j),H,I.tok _,⟨_,rq⟩,q}
theorem mQ{f:Value->Value->Sem Value}{g:Int->Int->Bool}
  (rule:∀(i j:Int) (t u:Tok) (s:Shared) (Q:YA) (E:YA),Q (.bool (g i j)) s->‹X› (f (.int i t) (.int j u)) Q E s) :
  OpR X f (rI0 λi j=>.bl (g i j)):=by
 intros x y v u Q I z G h;obtain⟨i,j,rfl,rfl,q⟩:=h;obtain⟨t,rfl⟩:=z;obtain⟨J,rfl⟩:=G;exact rule i j t J s _ _ {.bl (g i j),H,I,rq,q}
def SG(i j:Int):Prop:=0 < j/\j < 1073741824
def SF(i j:Int):Prop:=0<=j/\j<=1000000/\i.natAbs < 2 ^ 64
def pC(i j:Int):Prop:=(-(2 ^ 64) < i/\i < 2 ^ 64)\/(-(2 ^ 64) < j/\j < 2 ^ 64)
theorem pC.ok{i j:Int}(h:pC i j):IntMulOk i j:=by
 rcases h with⟨h1,h2⟩|⟨h1,h2⟩
 .exact .of_left (intBits_le_64 h1 h2)
 .exact .of_right (intBits_le_64 h1 h2)
theorem Cu:OpR X (binaryOp .Add) (rI0 λi j=>.int (i+j)):=Da λ_ _ _ _ _ _ _ q=>add_int q
theorem dj:OpR X (binaryOp .Sub) (rI0 λi j=>.int (i - j)):=Da λ_ _ _ _ _ _ _ q=>sub_int q
theorem Iu:OpR X (binaryOp .Mult) (rI pC λi j=>.int (i*j)):=opI λ_ _ _ _ _ _ _ hc q=>mul_int q hc.ok
theorem Yo:OpR X (binaryOp .FloorDiv) (rI SG λi j=>.int (i / j)):=opI λi j _ _ _ _ _ hc q=>by
 have h1:(0:Int) < j:=hc.1;have h2:j < 1073741824:=hc.2;exact floordiv_int 00 (by rw[Int.fdiv_eq_ediv_of_nonneg i 00];exact q) (.inl (PyProof.noPylong_small 00))
theorem Mt:OpR X (binaryOp .Mod) (rI (λ_ j=>0 < j) λi j=>.int (i % j)):=opI λi j _ _ _ _ _ hc q=>by
 have h1:(0:Int) < j:=hc;exact mod_int' 00 (by rw[Int.fmod_eq_emod_of_nonneg i 00];exact q)
theorem qp:OpR X (binaryOp .Pow) (rI SF λi j=>.int (i ^ j.toNat)):=opI λ_ _ _ _ _ _ _ hc q=>pow_int_small hc.1 hc.2.1 hc.2.2 q
theorem unI{f:Value->Sem Value}{g:Int->Int}
  (rule:∀(i:Int) (t:Tok) (s:Shared) (Q:YA) (E:YA),Q (.int (g i) s.toks) { s with toks:=s.toks+1 }->‹X› (f (.int i t)) Q E s) :
  UnR X f (rU λi=>.int (g i)):=by
 intros x v Q I j h;obtain⟨i,rfl,q⟩:=h;obtain⟨t,rfl⟩:=j;exact rule i t s _ _ {.int (g i),H,I.tok _,⟨_,rq⟩,q}
theorem LK:UnR X (unaryOp .USub) (rU λi=>.int (-i)):=unI λ_ _ _ _ _ q=>neg_int q
end
def CH:V->V->Bool
 | .non,.non=>true | .non,.int _=>true | .int _,.non=>true | .non,.bl _=>true | .bl _,.non=>true | .non,.str _=>true | .str _,.non=>true
 | .int _,.int _=>true | .bl _,.bl _=>true | .str _,.str _=>true | .byt _,.byt _=>true
 | .int _,.str _=>true | .str _,.int _=>true | .bl _,.str _=>true | .str _,.bl _=>true
 | _,_=>false
def rEq:R2:=λx y H Q=>CH x y=true/\Q (.bl (decide (x=y))) H
def rNe:R2:=λx y H Q=>CH x y=true/\Q (.bl (!decide (x=y))) H
theorem kJ{i j:Int}:decide (V.int i=V.int j)=(i == j):=by
 rw[QbS];simp
theorem rY{i j:Bool}:decide (V.bl i=V.bl j)=(i == j):=by
 rw[QbS];simp
theorem kI{i j:Str}:decide (V.str i=V.str j)=(i == j):=by
 rw[QbS];simp
theorem kO{i j:Array UInt8}:decide (V.byt i=V.byt j)=(i.toList == j.toList):=by
 rw[QbS];cases i;cases j;simp
section
variable{X:Cx}{a b c:Expr}{ta tb tc:TE}{pos:Pos}
theorem Cg{jb:YC}{U : St}{H:Hp}{s:Shared}{Q:VK}{k k':Bool}(I:H^^^s)(q:Q (.bl k) H)(e:k=k'):EP X jb U Q (.bool k') s:=by
 subst e;exact{.bl k,H,I,rq,q}
theorem Gq:OpR X (compareOp .Eq) rEq:=by
 intros x y v u Q I J z h;obtain⟨hs,q⟩:=h;cases x with
 | non=>
  cases J;cases y with
  | non=>cases z;exact PySem.EqNone.eq_none_none (Cg I q 04)
  | bl j=>cases z;exact PySem.EqNone.eq_none_bool (Cg I q 04)
  | int j=>obtain⟨G,rfl⟩:=z;exact PySem.EqNone.eq_none_int (Cg I q 04)
  | str j=>obtain⟨G,rfl⟩:=z;exact PySem.EqNone.eq_none_str (Cg I q 04)
  | _=>exact absurd (show false=true from hs) QaX
 | bl i=>
  cases J;cases y with
  | non=>cases z;exact PySem.EqNone.eq_bool_none (Cg I q 04)
  | bl j=>cases z;exact eq_bool (Cg I q rY)
  | str j=>obtain⟨G,rfl⟩:=z;exact PySem.EqMixed.eq_bool_str (Cg I q 04)
  | _=>exact absurd (show false=true from hs) QaX
 | int i=>
  obtain⟨t,rfl⟩:=J;cases y with
  | non=>cases z;exact PySem.EqNone.eq_int_none (Cg I q 04)
  | int j=>obtain⟨G,rfl⟩:=z;exact eq_int (Cg I q kJ)
  | str j=>obtain⟨G,rfl⟩:=z;exact PySem.EqMixed.eq_int_str (Cg I q 04)
  | _=>exact absurd (show false=true from hs) QaX
 | str i=>
  obtain⟨t,rfl⟩:=J;cases y with
  | non=>cases z;exact PySem.EqNone.eq_str_none (Cg I q 04)
  | bl j=>cases z;exact PySem.EqMixed.eq_str_bool (Cg I q 04)
  | int j=>obtain⟨G,rfl⟩:=z;exact PySem.EqMixed.eq_str_int (Cg I q 04)
  | str j=>obtain⟨G,rfl⟩:=z;exact eq_str (Cg I q kI)
  | _=>exact absurd (show false=true from hs) QaX
 | byt i=>
  obtain⟨t,rfl⟩:=J;cases y with
  | byt j=>obtain⟨G,rfl⟩:=z;exact PySem.W.eq_bytes (Cg I q kO)
  | _=>exact absurd (show false=true from hs) QaX
 | _=>cases y <;> exact absurd (show false=true from hs) QaX
theorem WQ:OpR X (compareOp .NotEq) rNe:=by
 intros x y v u Q I J z h;obtain⟨hs,q⟩:=h;cases x with
 | non=>
  cases J;cases y with
  | non=>cases z;exact PySem.EqNone.ne_none_none (Cg I q 04)
  | bl j=>cases z;exact PySem.EqNone.ne_none_bool (Cg I q 04)
  | int j=>obtain⟨G,rfl⟩:=z;exact PySem.EqNone.ne_none_int (Cg I q 04)
  | str j=>obtain⟨G,rfl⟩:=z;exact PySem.EqNone.ne_none_str (Cg I q 04)
  | _=>exact absurd (show false=true from hs) QaX
 | bl i=>
  cases J;cases y with
  | non=>cases z;exact PySem.EqNone.ne_bool_none (Cg I q 04)
  | bl j=>cases z;exact ne_bool (Cg I q (congrArg not rY))
  | str j=>obtain⟨G,rfl⟩:=z;exact PySem.EqMixed.ne_bool_str (Cg I q 04)
  | _=>exact absurd (show false=true from hs) QaX
 | int i=>
  obtain⟨t,rfl⟩:=J;cases y with
  | non=>cases z;exact PySem.EqNone.ne_int_none (Cg I q 04)
  | int j=>obtain⟨G,rfl⟩:=z;exact ne_int (Cg I q (congrArg not kJ))
  | str j=>obtain⟨G,rfl⟩:=z;exact PySem.EqMixed.ne_int_str (Cg I q 04)
  | _=>exact absurd (show false=true from hs) QaX
 | str i=>
  obtain⟨t,rfl⟩:=J;cases y with
  | non=>cases z;exact PySem.EqNone.ne_str_none (Cg I q 04)
  | bl j=>cases z;exact PySem.EqMixed.ne_str_bool (Cg I q 04)
  | int j=>obtain⟨G,rfl⟩:=z;exact PySem.EqMixed.ne_str_int (Cg I q 04)
  | str j=>obtain⟨G,rfl⟩:=z;exact ne_str (Cg I q (congrArg not kI))
  | _=>exact absurd (show false=true from hs) QaX
 | byt i=>
  obtain⟨t,rfl⟩:=J;cases y with
  | byt j=>obtain⟨G,rfl⟩:=z;exact PySem.W.ne_bytes (Cg I q (congrArg not kO))
  | _=>exact absurd (show false=true from hs) QaX
 | _=>cases y <;> exact absurd (show false=true from hs) QaX
theorem mO:OpR X (compareOp .Lt) (rI0 λi j=>.bl (decide (i < j))):=mQ λ_ _ _ _ _ _ _ q=>lt_int q
theorem Py:OpR X (compareOp .LtE) (rI0 λi j=>.bl (decide (i<=j))):=mQ λ_ _ _ _ _ _ _ q=>le_int q
theorem Uk:OpR X (compareOp .Gt) (rI0 λi j=>.bl (decide (j < i))):=mQ λ_ _ _ _ _ _ _ q=>gt_int q
theorem Go:OpR X (compareOp .GtE) (rI0 λi j=>.bl (decide (j<=i))):=mQ λ_ _ _ _ _ _ _ q=>ge_int q
theorem qt:OpR X (compareOp .In) (λx y H Q=>∃i j,x=.str i/\y=.str j/\Q (.bl (!(Builtin.Str.occurrences j i 0 j.length 1).isEmpty)) H):=by
 intros x y v u Q I z G h;obtain⟨i,j,rfl,rfl,q⟩:=h;obtain⟨t,rfl⟩:=z;obtain⟨J,rfl⟩:=G;exact in_str (Cg I q rfl)
theorem C9:OpR X (compareOp .Is) (λx y H Q=>y=.non/\Q (.bl (decide (x=.non))) H):=by
 intros x y v u Q I j z h;obtain⟨rfl,q⟩:=h;cases z;refine is_none_gen (Cg I q ?_);cases x <;> first
  | (cases j;rfl)
  | (obtain⟨t,rfl⟩:=j;rfl)
theorem AF:OpR X (compareOp .IsNot) (λx y H Q=>y=.non/\Q (.bl (!decide (x=.non))) H):=by
 intros x y v u Q I j z h;obtain⟨rfl,q⟩:=h;cases z;refine isnot_none_gen (Cg I q ?_);cases x <;> first
  | (cases j;rfl)
  | (obtain⟨t,rfl⟩:=j;rfl)
theorem BK(b:Expr){op:CmpOp}(h:op≠.In:=by decide)(h2:op≠.NotIn:=by decide):behindInMarks op b=false:=by
 have e1:(op == CmpOp.In)=false:=by cases op <;> first | rfl | exact absurd rfl h
 have e2:(op == CmpOp.NotIn)=false:=by cases op <;> first | rfl | exact absurd rfl h2
 cases b <;> simp[behindInMarks,e1,e2]
theorem GQ{op:CmpOp}{r:R2}(j:OpR X (compareOp op) r)(q:PE X a ta)(z:PE X b tb)(G:behindInMarks op b=false):PE X (.Compare a [op] [b] pos) (tOp r ta tb):=by
 intros Q I h;exact wpAny_Compare1 (yu q z I h λv u J x y H2 N O Y aa=>j jb J U H2 x y v u Q N O Y aa) G
def FH(t:TE):TT:=fun U H Q=>t U H λx H'=>∃k,x=.bl k/\Q k H'
theorem Bx{op:CmpOp}{r:R2}(j:OpR X (compareOp op) r)(q:PE X a ta)(z:PE X b tb)(G:behindInMarks op b=false):PT X (.Compare a [op] [b] pos) (FH (tOp r ta tb)):=by
 intros Q aa h;refine wpAny_isTrue_Compare1 (thn (q jb s U H _ aa h) λv I ⟨x,H1,J,N,O⟩=>thn (z jb I U H1 _ J O) λu Y ⟨y,H2,I2,r2,q2⟩=>
  thn (j jb Y U H2 x y v u _ I2 N r2 q2) λc s3 ⟨ab,H3,I3,r3,k,e,q3⟩=>?_) G
 subst e;cases r3;exact Qbs ⟨H3,I3,q3⟩
def Cn(r q:R2)(ta tb tc:TE):TE:=fun U H Q=>ta U H λx H1=>tb U H1 λy H2=>r x y H2 λz j=>∃k,z=.bl k /\
 (if k=true then tc U j λG I=>q y G I Q else Q (.bl false) j)
theorem Ri{op j:CmpOp}{r q:R2}(O:OpR X (compareOp op) r)(N:OpR X (compareOp j) q)(Y:PE X a ta)(hb:PE X b tb)(hc:PE X c tc)
  (hm:lastMarks [op,j] [b,c]=false:=by with_unfolding_all rfl):PE X (.Compare a [op,j] [b,c] pos) (Cn r q ta tb tc):=by
 intros Q aa h;refine Compare_chain (thn (Y jb s U H _ aa h) λv s1 ⟨x,H1,I1,r1,q1⟩=>chain_link (thn (hb jb s1 U H1 _ I1 q1) λu s2 ⟨y,H2,I2,z,q2⟩=>
  thn (O jb s2 U H2 x y v u _ I2 r1 z q2) λd s3 ⟨ab,G,I,r3,k,e,J⟩=>?_)) hm
 subst e;cases r3;refine Qbs ?_;cases k with
 | false=>exact ite_ff {.bl false,G,I,rfl,J}
 | true=>exact ite_tt (chain_last (thn (hc jb s3 U G _ I J) λw' s4 ⟨z',H4,I4,r4,q4⟩=>N jb s4 U H4 y z' u w' Q I4 z r4 q4))
def Fs(K:YD)(x:V)(H:Hp)(k:Bool):Prop:=
 match x with
 | .non=>k=false
 | .bl b=>k=b
 | .int i=>k=(i != 0)
 | .str y=>y.length<=sizeLine/\k=((y.length:Int) != 0)
 | .byt y=>y.size<=sizeLine/\k=((y.size:Int) != 0)
 | .ref p=>(∃xs,SqL K H p xs/\k=!xs.isEmpty)\/(∃xs,SqT K H p xs/\k=!xs.isEmpty)\/∃kvs,H p=some (.dK kvs)/\k=!kvs.isEmpty
 | _=>False
theorem nR{κ : Type}{kvs:List (κ×V)}{vs:List (κ×Value)}(r:KV kvs vs):(!vs.isEmpty)=!kvs.isEmpty:=by
 cases r <;> rfl
theorem Xh{xs:YG}{its:YE}(r:Vals xs its):(!its.toArray.isEmpty)=!xs.isEmpty:=by
 cases r <;> simp
theorem O1:(sizeLine:Nat) < 2 ^ 63:=by rw[QcE];decide
theorem B1:SB X (λx H Q=>∃k,Fs X.K x H k/\Q k H):=by
 intros x v Q I z h;obtain⟨k,e,q⟩:=h;have hl:=O1;have hs:sizeLine=16777216:=QcE;cases x with
 | non=>
  cases z;have j:k=false:=e;subst j;exact truthy_none ⟨H,I,q⟩
 | bl b=>
  cases z;have j:k=b:=e;subst j;exact Qbs ⟨H,I,q⟩
 | int i=>
  obtain⟨t,rfl⟩:=z;have j:k=(i != 0):=e;subst j;exact PySem.P.truthy_int ⟨H,I,q⟩
 | str y=>
  obtain⟨t,rfl⟩:=z;obtain⟨hy,j⟩ : y.length<=sizeLine/\k=((y.length:Int) != 0):=e;subst j;exact PySem.P.truthy_str 00 ⟨H,I.tok _,q⟩
 | byt y=>
  obtain⟨t,rfl⟩:=z;obtain⟨hy,j⟩ : y.size<=sizeLine/\k=((y.size:Int) != 0):=e;subst j;exact PySem.W.truthy_bytes 00 ⟨H,I.tok _,q⟩
 | ref p=>
  cases z;have j:(∃xs,SqL X.K H p xs/\k=!xs.isEmpty)\/(∃xs,SqT X.K H p xs/\k=!xs.isEmpty)\/∃kvs,H p=some (.dK kvs)/\k=!kvs.isEmpty:=e;rcases j with⟨xs,G,j⟩|⟨xs,G,j⟩|⟨kvs,G,j⟩
  .subst j;obtain⟨Y,r,pl,O⟩:=I.list G;have N:=r.length;exact wpAny_truthy_list pl.isList (by simp only[Qbl];lia) ⟨H,I.tok _,by rw[Xh r];exact q⟩
  .subst j;obtain⟨Y,r,pl,O⟩:=I.tuple G;have N:=r.length;exact truthy_tuple pl (by simp only[Qbl];lia) ⟨H,I.tok _,by rw[Xh r];exact q⟩
  .subst j;obtain⟨O,hS,J,r,m⟩ : kvs.length<=sizeLine/\(p == sysModules)=false/\∃J,KV kvs J/\s.heap.DictOf (Bp X.prog X.w) p J:=I.hok p _ G;have N:kvs.length=J.length:=Qcf r;exact wpAny_truthy_dict hS m 00 ⟨H,I.tok _,by rw[nR r];exact q⟩
 | _=>exact (show False from e).elim
theorem uZ(q:PE X a ta)(z:∀j,isTrue a X.env j=(do let v <-j;standAt a.pos;holding [v] (truthy v))) :
  PT X a (fun U H Q=>ta U H λx H'=>∃k,Fs X.K x H' k/\Q k H'):=by
 intros Q I h;refine isTrue_plain (thn (q jb s U H _ I h) λv G zz=>?_) (z _);obtain⟨x,H1,J,N,O⟩:=zz;exact B1 jb G U H1 x v Q J N O
theorem WW:OpR X (binaryOp .Add) (λx y H Q=>∃i j,x=.str i/\y=.str j/\i.length+j.length<=sizeLine/\Q (.str (i++j)) H):=by
 intros x y v u Q I z G h;obtain⟨i,j,rfl,rfl,J,q⟩:=h;obtain⟨t,rfl⟩:=z;obtain⟨N,rfl⟩:=G;exact add_str (λN tk=>{.str (i++j),H,I.tok _,⟨_,rq⟩,q}) J
theorem vals1{x:V}{us:YE}(r:Vals [x] us):∃u,us=[u]/\RelV x u:=by
 cases r with
 | cons j q=>cases q;exact⟨_,rfl,j⟩
theorem vals2{x y:V}{us:YE}(r:Vals [x,y] us):∃u j,us=[u,j]/\RelV x u/\RelV y j:=by
 cases r with
 | cons q z=>
  cases z with
  | cons G I=>cases I;exact⟨_,_,rfl,q,G⟩
theorem gF:DN X (.builtin "abs") (λxs H Q=>∃i,xs=[.int i]/\Q (.int (if i < 0 then -i else i)) H):=by
 intros xs j Q I r h;obtain⟨i,rfl,q⟩:=h;obtain⟨u,rfl,t,rfl⟩:=vals1 r;exact call_abs_int λu tk=>{.int (if i < 0 then -i else i),H,I.tok _,⟨_,rq⟩,q}
theorem tD(hc:X.calm=true):DN X (.builtin "max") (λxs H Q=>∃i j,xs=[.int i,.int j]/\Q (.int (if j > i then j else i)) H):=by
 intros xs G Q I r h;obtain⟨i,j,rfl,q⟩:=h;obtain⟨u,J,rfl,⟨t,rfl⟩,⟨N,rfl⟩⟩:=vals2 r;refine max_two_ints (I.ok.hd hc) λh' tk k=>{_,H,I.kept k,?_,q};by_cases z:j > i
 .rw[if_pos z,if_pos z];exact⟨_,rq⟩
 .rw[if_neg z,if_neg z];exact⟨_,rq⟩
theorem Mz(hc:X.calm=true):DN X (.builtin "min") (λxs H Q=>∃i j,xs=[.int i,.int j]/\Q (.int (if j < i then j else i)) H):=by
 intros xs G Q I r h;obtain⟨i,j,rfl,q⟩:=h;obtain⟨u,J,rfl,⟨t,rfl⟩,⟨N,rfl⟩⟩:=vals2 r;refine min_two_ints (I.ok.hd hc) λh' tk k=>{_,H,I.kept k,?_,q};by_cases z:j < i
 .rw[if_pos z,if_pos z];exact⟨_,rq⟩
 .rw[if_neg z,if_neg z];exact⟨_,rq⟩
theorem ZL:DN X (.type "int") (λxs H Q=>(∃i,xs=[.int i]/\Q (.int i) H)\/∃k,xs=[.bl k]/\Q (.int (if k then 1 else 0)) H):=by
 intros xs z Q I r h;rcases h with⟨i,rfl,q⟩|⟨k,rfl,q⟩
 .obtain⟨u,rfl,t,rfl⟩:=vals1 r;exact call_int_int {.int i,H,I,⟨_,rq⟩,q}
 .obtain⟨u,rfl,j⟩:=vals1 r;cases j;exact call_int_bool {.int (if k then 1 else 0),H,I.tok _,⟨_,rq⟩,q}
end
structure Wf(h:Heap)(x dx C:Addr)(mA:YB):Prop where
 obj:h.get? x=some (instObj C dx)
 ns:h.Ns1 dx mA
 ne:dx≠x
theorem qK{h:Heap}{dx:Addr}{mA:YB}(n:h.Ns1 dx mA):∃j,h.get? dx=some j/\∀name,lookIn name j=some (mA name):=by
 obtain⟨o,es,ep,G,I,J,_,N⟩:=n;refine⟨o,G,λname=>?_⟩;have e:=N name;unfold nsFind findBy at e;rw[<-Array.find?_toList] at e;unfold lookIn;rw[I];dsimp only;split
 .rename_i y q;rw[q] at e;exact congrArg some e
 .rename_i q;rw[q] at e;have a:es.toList.any (·.refKey)=false:=by
   rw[List.any_eq_false];intro y O;obtain⟨aa,t,z⟩:=J y (Array.mem_toList_iff.mp O);simp[DictEntry.refKey,z]
  have Y:¬es.toList.any (·.refKey)=true:=by rw[a];exact QaX
  rw[if_neg Y];exact congrArg some e
theorem Wf.look{h:Heap}{x dx C:Addr}{mA:YB}(I:Wf h x dx C mA):∃j,PySem.W.InstAt h x (instObj C dx) C (some j)/\∀name,lookIn name j=some (mA name):=
 let ⟨j,q,z⟩:=qK I.ns
 ⟨j,⟨I.obj,rq,rq,q⟩,z⟩
section
variable{prog:Program}{w:World}{A:Around}{E:YA}{s:Shared}{K:YD}{x dx C f:Addr}{mA:YB}{name:Str}{v:Value}
theorem get_map{j:Bool}{Q:YA}(X:K.In s.heap)(I:Wf s.heap x dx C mA)(z:plainGet K C name=true)(G:hasDictIn K C=true)
  (N:findIn K (.ref C) name=some none) (O:mA name=some v) (q:PySem.W.handedIn v=true) (h:Q v { s with toks:=s.toks+1 }) :
  wpAny 01 A (getAttr (.ref x) name j) Q E s:=by
 obtain⟨od,J,Y⟩:=I.look;exact PySem.W.get_value X J (PySem.W.plainGet_of z).1 (PySem.W.findObj_own G N rfl (by rw[Y,O])) q h
theorem xW{pl:Sem Bool}{Q:Value×YE->Shared->Prop}(X:K.In s.heap)(I:Wf s.heap x dx C mA)(j:plainGet K C name=true)
  (q:findIn K (.ref C) name=some (some (.ref f))) (z:isFn K (.ref f)=true) (G:mA name=none) (h:Q (.ref f,[.ref x]) s) :
  wpAny 01 A (getMethod (.ref x) name pl) Q E s:=by
 obtain⟨N,J,O⟩:=I.look;exact PySem.W.method_fn X J (PySem.W.plainGet_of j).1 (PySem.W.plainGet_of j).2 q (beq_iff_eq.mp z) (by show (lookIn name N).map (·.isSome)=some false;rw[O,G];rfl) h
theorem zY{z:YF}{Q:YH}(X:K.In s.heap)(I:Wf s.heap x dx C mA)
  (hs:findIn K (.ref C) "__setattr__"=some (some (.builtin "object.__setattr__"))) (hp:PySem.W.plainOver K C=true) (ht:PySem.W.takerIn K C name=some none) (hh:hasDictIn K C=true)
  (hw:PySem.Within mA z) (hsz:z.length<=sizeLine)
  (h:∀h',Wf h' x dx C (λy=>if y=name then some v else mA y)->Heap.SameBut dx s.heap h'->Q () { s with heap:=h',toks:=s.toks+2 }) :
  wpAny 01 A (setAttr (.ref x) name v) Q E s:=by
 obtain⟨od,J,hl⟩:=I.look;refine PySem.W.set_plain X J hs (PySem.W.osa_open (s:={ s with toks:=s.toks+1 }) (r:=none) X J hp ht λb=>?_);obtain⟨cd,hc,G⟩:=PySem.W.any_some hh;have hx:s.heap.get? x=some {.ref C,some dx,.plain,#[]}:=I.obj;refine QcG (QcH (QcG (QcG (wpAny_loadPart hx (QcG (PySem.W.Looks.here (s:={ s with toks:=s.toks+1 }) (PySem.W.looks_clsIn X hc) ?_))))));rw[G];refine QcH (a:=some dx) (QcG (QcH (QcG ?_)));refine wpAny_nsSet1 (s:={ s with toks:=s.toks+1 }) I.ns λh' j q=>?_;obtain⟨oD,aa,ab,N,O,Y⟩:=j.count (PySem.Within.cons name v hw);refine QcG (wpAny_lookBehind N (by rw[O];exact pastItsLine_dict (Qcs Y (by rw[Qbz];lia))) ?_);exact QcH (h _ {(q.2 _ (Ne.symm I.ne)).trans I.obj,j,I.ne} q)
theorem dZ{R:Result->Shared->Prop}{vs:YE}{j:List (Str×Value)}(X:K.In s.heap)(q:makesIn K C=true)
  (hi:findIn K (.ref C) "__init__"=some (some (.ref f))) (z:PySem.W.typeIn K (.ref f)=some (.type "function"))
  (h:codeAny 01 (A.under (.builtin "type.__call__" {.ref C::vs,j})) (.call (.ref f) {.ref (∅+1)::vs,j}) (PySem.W.InitBack (∅+1) R)
   { s with heap:=(s.heap.push emptyDict).push (instObj C ∅) }) :
  codeAny 01 A (.call (.ref C) ⟨vs,j⟩) R s:=by
 obtain⟨G,g,d,t,os⟩:=s;exact PySem.W.make_core (PySem.W.makes_of X q) (looks_findIn X hi) (λself=>PySem.W.bind_fn X self z) (.inl rfl) h
end
def Ib(f:Str)(v:V):List (Str×V)->List (Str×V)
 | []=>[(f,v)]
 | (g,x)::r=>if g=f then (g,v)::r else (g,x)::Ib f v r
theorem Vh(f g:Str)(v:V):∀fs:List (Str×V),(Ib f v fs).lookup g=if g=f then some v else fs.lookup g
 | []=>by
  show List.lookup g [(f,v)]=_;by_cases h:g=f
  .have j:(g == f)=true:=beq_iff_eq.mpr h;simp only[List.lookup,j,if_pos h]
  .have j:(g == f)=false:=QaN.mpr h;simp only[List.lookup,j,if_neg h]
 | (k,x)::r=>by
  have z:=Vh f g v r;rw[show Ib f v ((k,x)::r)=(if k=f then (k,v)::r else (k,x)::Ib f v r) from rfl]
  by_cases q:k=f
  .rw[if_pos q];by_cases h:g=k
   .have j:(g == k)=true:=beq_iff_eq.mpr h;simp only[List.lookup,j,if_pos (h.trans q)]
   .have j:(g == k)=false:=QaN.mpr h;simp only[List.lookup,j,if_neg (λe:g=f=>h (e.trans q.symm))]
  .rw[if_neg q];by_cases h:g=k
   .have j:(g == k)=true:=beq_iff_eq.mpr h;simp only[List.lookup,j,if_neg (λe:g=f=>q (h.symm.trans e))]
   .have j:(g == k)=false:=QaN.mpr h;simp only[List.lookup,j];exact z
theorem Td(f:Str)(v:V):∀fs:List (Str×V),f∈(Ib f v fs).map (·.1)/\∀g,g∈fs.map (·.1)->g∈(Ib f v fs).map (·.1)
 | []=>{by simp[Ib],λg h=>by simp at h}
 | (k,x)::r=>by
  obtain⟨i1,i2⟩:=Td f v r;rw[show Ib f v ((k,x)::r)=(if k=f then (k,v)::r else (k,x)::Ib f v r) from rfl]
  by_cases j:k=f
  .rw[if_pos j];subst j;exact{by simp,λg h=>by simpa using h}
  .rw[if_neg j];refine{?_,λg h=>?_}
   .rw[Qch];exact QaI _ i1
   .rw[Qch] at h ⊢;rcases Qcg.mp h with e | e
    .exact Qcg.mpr (.inl e)
    .exact QaI _ (i2 g e)
theorem Vi(f:Str)(v:V):∀fs:List (Str×V),(Ib f v fs).length<=fs.length+1
 | []=>by simp[Ib]
 | (k,x)::r=>by
  have q:=Vi f v r;rw[show Ib f v ((k,x)::r)=(if k=f then (k,v)::r else (k,x)::Ib f v r) from rfl]
  by_cases j:k=f
  .rw[if_pos j,Qbz,Qbz];lia
  .rw[if_neg j,Qbz,Qbz];lia
theorem Ih.some_of{v:V}{o:Option Value}(r:Ih (some v) o):∃u,o=some u/\RelV v u:=by
 cases o with
 | none=>exact (show False from r).elim
 | some u=>exact⟨u,rfl,r⟩
theorem Ih.none_of{o:Option Value}(r:Ih none o):o=none:=by
 cases o with
 | none=>rfl
 | some u=>exact (show False from r).elim
theorem qZ{v:V}{u:Value}(r:RelV v u):PySem.W.handedIn u=true:=by
 cases v with
 | non=>cases (show u=Value.none from r);rfl
 | bl b=>cases (show u=Value.bool b from r);rfl
 | int i=>obtain⟨t,e⟩:=(show ∃t,u=Value.int i t from r);cases e;rfl
 | str x=>obtain⟨t,e⟩:=(show ∃t,u=Value.str x t from r);cases e;rfl
 | byt b=>obtain⟨t,e⟩:=(show ∃t,u=Value.bytes b t from r);cases e;rfl
 | flt b=>obtain⟨t,e⟩:=(show ∃t,u=Value.float b t from r);cases e;rfl
 | ref a=>cases (show u=Value.ref a from r);rfl
 | ty n=>cases (show u=Value.type n from r);rfl
section
variable{P:Program}{w:World}{H H':Hp}{h h':Heap}{a C dx:Addr}{fs fs':List (Str×V)}
theorem Uq(j:HOk P w H h)(e:H a=some (.ins C dx fs)):∃mA,Wf h a dx C mA/\(∀f,Ih (fs.lookup f) (mA f))/\PySem.Within mA (fs.map (·.1))/\fs.length<=1000/\H dx=some (.own a):=by
 obtain⟨d,z,G,ob,mA,n,r,q⟩:=(show Bs P w H h a (.ins C dx fs) from j a _ e)
 exact⟨mA,⟨ob,n,G⟩,r,q,z,d⟩
end
structure Cls(K:YD)(C:Addr):Prop where
 pg:plainGet K C Str.empty=true
 hd:hasDictIn K C=true
 po:PySem.W.plainOver K C=true
 sa:findIn K (.ref C) "__setattr__"=some (some (.builtin "object.__setattr__"))
theorem Cls.get{K:YD}{C:Addr}(c:Cls K C)(f:Str):plainGet K C f=true:=c.pg
def Js(K:YD)(C:Addr)(f:Str):Prop:=findIn K (.ref C) f=some none
theorem Js.taker{K:YD}{C:Addr}{f:Str}(n:Js K C f):PySem.W.takerIn K C f=some none:=by
 unfold PySem.W.takerIn;rw[show findIn K (.ref C) f=some none from n]
 rfl
structure Meth(K:YD)(C:Addr)(m:Str)(f:Addr):Prop where
 at_:findIn K (.ref C) m=some (some (.ref f))
 fn:isFn K (.ref f)=true
 kp:keepIn K (.ref f)=true
section
variable{X:Cx}{jb:YC}{U : St}{H:Hp}{s:Shared}{a C dx:Addr}{fs:List (Str×V)}{f:Str}{v:V}{A:Around}{E:YA}
theorem oA{b:Bool}{Q:YA}(I:H^^^s)(e:H a=some (.ins C dx fs))(c:Cls X.K C)(n:Js X.K C f)(l:fs.lookup f=some v)
  (h:∀u s',Inv X jb U H s'->RelV v u->Q u s'):wpAny (model X.prog X.w) A (getAttr (.ref a) f b) Q E s:=by
 obtain⟨mA,O,r,_,_,_⟩:=Uq I.hok e;obtain⟨u,q,j⟩:=Ih.some_of (v:=v) (o:=mA f) (by rw[<-l];exact r f);exact get_map I.kIn O (c.get f) c.hd n q (qZ j) (h u _ (I.tok _) j)
theorem Ro{m:Str}{g:Addr}{pl:Sem Bool}{Q:Value×YE->Shared->Prop}(I:H^^^s)(e:H a=some (.ins C dx fs))(c:Cls X.K C)(k:Meth X.K C m g)(l:fs.lookup m=none)
  (h:Q (.ref g,[.ref a]) s):wpAny (model X.prog X.w) A (getMethod (.ref a) m pl) Q E s:=by
 obtain⟨mA,O,r,_,_,_⟩:=Uq I.hok e;have j:mA m=none:=Ih.none_of (by rw[<-l];exact r m);exact xW I.kIn O (c.get m) k.at_ k.fn j h
theorem mj{y:V}{u:Value}{Q:YH}(I:H^^^s)(e:H a=some (.ins C dx fs))(c:Cls X.K C)(n:Js X.K C f)(hl:fs.length < 1000)(N:RelV y u)
  (h:∀s',Inv X jb U (upd H a (.ins C dx (Ib f y fs))) s'->Q () s'):wpAny (model X.prog X.w) A (setAttr (.ref a) f u) Q E s:=by
 obtain⟨mA,O,r,G,_,J⟩:=Uq I.hok e;have Y:(fs.map (·.1)).length<=sizeLine:=by rw[QbJ,QcE];lia
 refine zY I.kIn O c.sa c.po n.taker c.hd G Y λh' j sb=>h _ ?_;have hd:∃o,h'.get? dx=some o:=let ⟨o,_,_,e',_⟩:=j.ns;⟨o,e'⟩;refine I.write (x:=a) (e:=dx) (by rw[e];exact True.intro) (.inr J) (λb q hb z=>(sb.2 b hb).trans z) hd ?_;refine{by rw[Ao O.ne];exact J,?_,O.ne,j.obj,_,j.ns,λg=>?_,λg hg=>?_}
 .have:=Vi f y fs;lia
 .show Ih ((Ib f y fs).lookup g) (if g=f then some u else mA g)
  rw[Vh];by_cases q:g=f
  .rw[if_pos q,if_pos q];exact N
  .rw[if_neg q,if_neg q];exact r g
 .by_cases q:g=f
  .rw[q];exact (Td f y fs).1
  .refine (Td f y fs).2 g (G g λz=>hg ?_);show (if g=f then some u else mA g)=none
   rw[if_neg q];exact z
theorem Inv.made(I:H^^^s):Inv X jb U (upd (upd H ∅ (.own (∅+1))) (∅+1) (.ins C ∅ []))
  { s with heap:=(s.heap.push emptyDict).push (instObj C ∅) }:=by
 have e1:(s.heap.push emptyDict).get? ∅=some emptyDict:=QaM s.heap rfl;have e2:((s.heap.push emptyDict).push (instObj C ∅)).get? (∅+1)=some (instObj C ∅):=by
  have:=QaM (s.heap.push emptyDict) (o:=instObj C ∅) rfl
  rwa [Qcb] at this
 have e3:(s.heap.push emptyDict).Ns ∅ (λ_=>none):=⟨emptyDict,#[],_,e1,rq,(λe z=>absurd z 04),λ_=>rfl⟩;have G:=I.laid (a:=∅) (o:=.own (∅+1)) (h':=s.heap.push emptyDict) (t':=s.toks) (λb u q=>Qax _ q) (QcA _) ⟨_,e1⟩;refine G.laid (a:=∅+1) (o:=.ins C ∅ []) (t':=s.toks) (λb u q=>Qax _ q) (Nat.le_of_eq (Qcb _ _)) ?_;have j:∅≠∅+1:=Qcr (QbE _);refine{by rw[Ao j,Ab],QcB _,j,e2,λ_=>none,(Heap.Ns1.of_empty e3).at λo q=>Qax _ q,λ_=>True.intro,λy J=>absurd rfl J}
theorem BE{prog:Program}{w:World}{env:Env}{e:Expr}{f:Str}{pos:Pos}{s:Shared}{Q:YA}(q:attributeBase e f env (eval e env)=eval e env)
  (h:wpAny 01 A (eval e env) (λo j=>wpAny 01 A (getAttr o f true) Q E j) E s):wpAny 01 A (eval (.Attribute e f pos) env) Q E s:=
 Attribute_any_ h (by rw[arm_eval_Attribute,q])
end
def B9(K:YD)(ta:TE)(f:Str):TE:=fun U H Q=>ta U H λx H1=>∃a C dx fs v,x=.ref a/\H1 a=some (.ins C dx fs)/\Cls K C/\Js K C f/\fs.lookup f=some v/\Q v H1
section
variable{X:Cx}{o e value:Expr}{f:Str}{pos pos' tpos:Pos}{ta tv:TE}
theorem El(j:PE X e ta)(z:attributeBase e f X.env (eval e X.env)=eval e X.env):PE X (.Attribute e f pos) (B9 X.K ta f):=by
 intros Q I h;refine BE z (thn (j jb s U H _ I h) λu s1 zz=>?_);obtain⟨x,H1,G,J,a,C,dx,fs,v,ex,N,c,n,l,q⟩:=zz;subst ex;obtain rfl:u=Value.ref a:=J;exact oA G N c n l λu' s2 O Y=>⟨v,H1,O,Y,q⟩
theorem FC{pl:Sem Bool}{m:Str}{apos:Pos}{args:YJ}{jb:YC}{s:Shared}{U : St}{H:Hp}{Q:YA}{te:TE}(J:PE X e te)(I:H^^^s)
  (h:te U H λx H1=>∃a C dx fs g,x=.ref a/\H1 a=some (.ins C dx fs)/\Cls X.K C/\Meth X.K C m g/\fs.lookup m=none /\
   ∀j,H1^^^j->‹X› (callWith pos (.ref g) [.ref a] (backTo pos (starEach args X.env)) (backToKw pos (keywordEach [] X.env))) Q X.xe j)
  (N:eval (.Call (.Attribute e m apos) args [] pos) X.env=(do
   let z <-eval e X.env
   standAt apos.atName
   let (f,first) <-holding [z] (getMethod z m pl)
   callWith pos f first (backTo pos (starEach args X.env)) (backToKw pos (keywordEach [] X.env)))) :
  ‹X› (eval (.Call (.Attribute e m apos) args [] pos) X.env) Q X.xe s:=by
 refine PySem.W.methodCall_KW (pl:=pl) (thn (J jb s U H _ I h) λu j zz=>?_) N;obtain⟨x,H1,G,O,a,C,dx,fs,g,ex,Y,c,k,l,q⟩:=zz;subst ex;obtain rfl:u=Value.ref a:=O;exact Ro G Y c k l (q j G)
end
section
variable{X:Cx}{jb:YC}{U : St}{H:Hp}{s:Shared}{A:Around}{E:YA}{Q:YA}{c:Value}{b:Bool}
inductive Lh(K:YD)(H:Hp):V->Value->Prop where
 | non:Lh K H .non (.type "NoneType")
 | bl (x:Bool):Lh K H (.bl x) (.type "bool")
 | int (i:Int):Lh K H (.int i) (.type "int")
 | str (x:Str):Lh K H (.str x) (.type "str")
 | flt (x:UInt64):Lh K H (.flt x) (.type "float")
 | lst {a:Addr} {xs:YG} (e:H a=some (.lst xs)):Lh K H (.ref a) (.type "list")
 | frz {a:Addr} {o:Obj} {xs:YG} (e:H a=some (.frz o (.lst xs))):Lh K H (.ref a) (.type "list")
 | tup {a:Addr} {xs:YG} (e:H a=some (.tup xs)):Lh K H (.ref a) (.type "tuple")
 | dK {a:Addr} {kvs:List (Key×V)} (e:H a=some (.dK kvs)):Lh K H (.ref a) (.type "dict")
 | dT {a:Addr} {kvs:List (List Key×V)} (e:H a=some (.dT kvs)):Lh K H (.ref a) (.type "dict")
 | ins {a C dx:Addr} {fs:List (Str×V)} (e:H a=some (.ins C dx fs)) (cl:Cls K C) (ha:findIn K (.ref C) "__class__"=some (some (.builtin "object.__class__")))
   (hn:PySem.W.specialIn K (.builtin "object.__class__") "__get__"=some (some (.builtin "getset_descriptor.__get__"))) (htk:PySem.W.takesIn K (.builtin "object.__class__")=some true)
   (hm:PySem.W.mroIn K C (.type "object")=some true):Lh K H (.ref a) (.ref C)
theorem qQ{x:V}{u t:Value}(I:H^^^s)(j:RelV x u)(ty:Lh X.K H x t)(e:kitOne X.K t c=some b)(h:∀tk,Q (.bool b) { s with toks:=tk }) :
  wpAny (model X.prog X.w) A (call (.builtin "isinstance") [u,c]) Q E s:=by
 cases ty with
 | non=>cases (show u=Value.none from j);exact kia_one PySem.W.kitx_none I.kIn True.intro e (λz=>nomatch z) h
 | bl y=>cases (show u=Value.bool y from j);exact kia_one PySem.W.kitx_bool I.kIn True.intro e (λz=>nomatch z) h
 | int i=>obtain⟨t,q⟩:=(show ∃t,u=Value.int i t from j);cases q;exact kia_one PySem.W.kitx_int I.kIn True.intro e (λz=>nomatch z) h
 | str y=>obtain⟨t,q⟩:=(show ∃t,u=Value.str y t from j);cases q;exact kia_one PySem.W.kitx_str I.kIn True.intro e (λz=>nomatch z) h
 | flt y=>obtain⟨t,q⟩:=(show ∃t,u=Value.float y t from j);cases q;exact kia_one PySem.W.kitx_float I.kIn True.intro e (λz=>nomatch z) h
 | @lst a xs G=>
  cases (show u=Value.ref a from j)
  obtain⟨_,_,n,_,h1⟩:=(show Bs X.prog X.w H s.heap a (.lst xs) from I.hok a _ G)
  exact kia_one PySem.W.kitx_list I.kIn ⟨_,h1,rq⟩ e (λz=>nomatch z) h
 | @frz a ob xs G=>
  cases (show u=Value.ref a from j)
  obtain⟨_,_,_,n,_,h1⟩:=(show Bs X.prog X.w H s.heap a (.frz ob (.lst xs)) from I.hok a _ G)
  exact kia_one PySem.W.kitx_list I.kIn ⟨_,h1,rq⟩ e (λz=>nomatch z) h
 | @tup a xs G=>
  cases (show u=Value.ref a from j)
  obtain⟨_,_,_,p⟩:=(show Bs X.prog X.w H s.heap a (.tup xs) from I.hok a _ G)
  obtain⟨o,h1,h2,_⟩:=p;exact kia_one PySem.W.kitx_tuple I.kIn ⟨o,h1,h2⟩ e (λz=>nomatch z) h
 | @dK a kvs G=>
  cases (show u=Value.ref a from j)
  obtain⟨_,_,vs,_,p⟩:=(show Bs X.prog X.w H s.heap a (.dK kvs) from I.hok a _ G)
  obtain⟨o,es,O,h1,h2,_⟩:=p;exact kia_one PySem.W.kitx_dict I.kIn ⟨o,h1,h2.1⟩ e (λz=>nomatch z) h
 | @dT a kvs G=>
  cases (show u=Value.ref a from j)
  obtain⟨_,_,xs,_,o,es,O,h1,h2,_⟩:=(show Bs X.prog X.w H s.heap a (.dT kvs) from I.hok a _ G)
  exact kia_one PySem.W.kitx_dict I.kIn ⟨o,h1,h2.1⟩ e (λz=>nomatch z) h
 | @ins a C dx fs G J Y hn N hm=>
  cases (show u=Value.ref a from j)
  obtain⟨mA,aa,_⟩:=Uq I.hok G;obtain⟨od,ab,_⟩:=aa.look;exact kia_one (PySem.W.kitx_own (J.get _) J.hd Y hn N hm) I.kIn ab e (λz=>nomatch z) h
end
structure Cd(k:Nat)(A:Around):Prop where
 hd:A.handled=none
 dp:A.depth+3*k+5 < recursionLimit
 un:A.units+16*k+200 < cLine
theorem Cd.mono{j k:Nat}{A:Around}(r:Cd k A)(h:j<=k):Cd j A:=⟨r.hd,by have:=r.dp;lia,by have:=r.un;lia⟩
theorem Cd.deeper{k:Nat}{A:Around}(r:Cd (k+1) A)(env:Env):Cd k (A.deeper env):=
 ⟨r.hd,by have:=r.dp;show A.depth+1+3*k+5 < _;lia,by have:=r.un;show A.units+3+16*k+200 < _;lia⟩
theorem Cd.in1{k:Nat}{A:Around}(r:Cd (k+1) A):Cd k A.in1:=
 ⟨r.hd,by have:=r.dp;show A.depth+3*k+5 < _;lia,by have:=r.un;show A.units+1+16*k+200 < _;lia⟩
theorem nG{A:Around}{C:Addr}{us:YE}{j:List (Str×Value)}:(A.under (.builtin "type.__call__" {.ref C::us,j})).depth=A.depth+1:=by
 first | rfl | simp[Around.under,Code.weight,Code.isCreation,Code.isGuard,Code.isCaller,Code.frames,Code.isFrame,guardIds]
theorem nF{A:Around}{C:Addr}{us:YE}{j:List (Str×Value)}:(A.under (.builtin "type.__call__" {.ref C::us,j})).units=A.units+1:=by
 first | rfl | simp[Around.under,Code.cUnits,Code.frames,Code.isFrame]
theorem Cd.make{k:Nat}{A:Around}(r:Cd (k+1) A)(C:Addr)(us:YE)(j:List (Str×Value)):Cd k (A.under (.builtin "type.__call__" {.ref C::us,j})):=
 ⟨r.hd,by have:=r.dp;rw[nG];lia,by have:=r.un;rw[nF];lia⟩
theorem Cd.depth{k:Nat}{A:Around}(r:Cd k A):A.depth < recursionLimit:=by have:=r.dp;lia
theorem Cd.units{k:Nat}{A:Around}(r:Cd k A):A.units+64 < cLine:=by have:=r.un;lia
def MK:TA:=λ_ H Q=>Q [] H
def Dv(ta:TE)(j:TA):TA:=fun U H Q=>ta U H λx H1=>j U H1 λxs H2=>Q (x::xs) H2
section
variable{X:Cx}{e:Expr}{es:YJ}{te:TE}{t:TA}{pos:Pos}
theorem Ac:PA X [] MK:=λ_ _ _ _ H Q I h=>Calls.spliced_nil {[],H,I,.nil,h}
theorem Aa(j:PE X e te)(q:PA X es t)(hs:starEach (e::es) X.env=(false,eval e X.env)::starEach es X.env:=by rfl):PA X (e::es) (Dv te t):=by
 intro pos jb s U H Q aa h;rw[hs];show wpAny _ _ (spliced ((false,eval e X.env)::backTo pos (starEach es X.env))) _ _ s;refine Calls.spliced_cons (thn (j jb s U H _ aa h) λu z zz=>?_);obtain⟨x,H1,G,I,J⟩:=zz;refine thn (q pos jb z U H1 _ G J) λus s2 zz=>?_;obtain⟨xs,H2,N,O,Y⟩:=zz;exact{x::xs,H2,N,.cons I O,Y}
def ID(t:TA):TE:=fun U H Q=>t U H λxs H1=>xs.length<=sizeLine/\∀p,H1 p=none->Q (.ref p) (upd H1 p (.tup xs))
def II(t:TA):TE:=fun U H Q=>t U H λxs H1=>xs.length<=sizeLine/\∀p,H1 p=none->Q (.ref p) (upd H1 p (.lst xs))
theorem Bd {J} (h:PA X es t):PE X (.Tuple es J pos) (ID t):=by
 intros Q I N;refine wpAny_Tuple_spliced (thn (h pos jb s U H _ I N) λO j zz=>?_);obtain⟨xs,H1,G,r,z,q⟩:=zz;refine{by rw[<-r.length];exact z,?_};have Y:H1 j.heap.objs.size=none:=G.hok.fresh (QcA _);refine{.ref j.heap.objs.size,upd H1 j.heap.objs.size (.tup xs),G.laid (t':=j.toks) (λb u e=>Qax _ e) (QcA _) ?_,rq,q _ Y};exact⟨z,O,r,{_,QaM _ rfl,rq,_,rq}⟩
theorem BW(h:PA X es t):PE X (.List es pos) (II t):=by
 intros Q I J;refine wpAny_List_spliced (thn (h pos jb s U H _ I J) λN j zz=>?_);obtain⟨xs,H1,G,r,z,q⟩:=zz;refine{by rw[<-r.length];exact z,?_};have O:H1 j.heap.objs.size=none:=G.hok.fresh (QcA _);refine{.ref j.heap.objs.size,upd H1 j.heap.objs.size (.lst xs),G.laid (t':=j.toks) (λb u e=>Qax _ e) (QcA _) ?_,rq,q _ O};exact⟨z,N,0,r,QaM _ rfl⟩
end
abbrev Sp:=YG->Hp->VK->XK->Prop
abbrev CXT:=List Env->Hp->Shared->XK->YA
structure M6(P:Program)(w:World)(K:YD)(mg:YB)(base:Heap)(A:Around)(outer:List Env)(s:Shared)(H:Hp):Prop where
 frames:A.frames=some outer
 mod:Mod K mg base
 bs:∀b o,base.get? b=some o->s.heap.get? b=some o/\H b=none
 bsz:base.objs.size<=∅
 G7:s.heap.FunFrames base outer
 frf:∀b∈frs outer,H b=none
 hok:HOk P w H s.heap
 bare:AllBare s.gens
def CE(outer:List Env)(P:Program)(w:World)(H:Hp)(s:Shared)(Q:VK)(u:Value)(s':Shared):Prop:=
 ∃v H',s'.os=s.os/\AllBare s'.gens/\Un (frs outer) [] H H' s.heap s'.heap/\HOk P w H' s'.heap/\RelV v u/\Q v H'
def CR(CX:CXT)(outer:List Env)(P:Program)(w:World)(H:Hp)(s:Shared)(Q:VK)(E:XK)(r:Result)(s':Shared):Prop:=
 match r with
 | .ok (.ret u)=>CE outer P w H s Q u s'
 | .ok _=>False
 | .error e=>CX outer H s E e s'
structure Gy(P:Program)(w:World)(K:YD)(mg:YB)(base:Heap)(CX:CXT)(k:Nat)(f:Addr)(fd:FuncData)(ps:YF)(sp:Sp):Prop where
 len:∀vs H Q E,sp vs H Q E->vs.length=ps.length
 run:∀(A:Around) (outer:List Env) (s:Shared) (H:Hp) (args:Args) (us:YE) (vs:YG) (Q:VK) (E:XK),Cd k A->M6 P w K mg base A outer s H->BindsTo s fd args (ps.zip us)->Vals vs us->sp vs H Q E ->
  codeAny (model P w) A (.call (.ref f) args) (CR CX outer P w H s Q E) s
theorem Gy.imp{P:Program}{w:World}{K:YD}{mg:YB}{base:Heap}{CX:CXT}{k:Nat}{f:Addr}{fd:FuncData}{ps:YF}{sp sp':Sp}(F:Gy P w K mg base CX k f fd ps sp)
  (h:∀vs H Q E,sp' vs H Q E->sp vs H Q E):Gy P w K mg base CX k f fd ps sp':=
 {λvs H Q E q=>F.len vs H Q E (h _ _ _ _ q),λA outer s H args j vs Q E z G I J hs=>F.run A outer s H args j vs Q E z G I J (h _ _ _ _ hs)}
theorem M6.make{P:Program}{w:World}{K:YD}{mg:YB}{base:Heap}{A:Around}{outer:List Env}{s:Shared}{H:Hp}(e:M6 P w K mg base A outer s H)(C:Addr)(us:YE)(j:List (Str×Value)) :
  M6 P w K mg base (A.under (.builtin "type.__call__" {.ref C::us,j})) outer s H:={by first | exact e.frames | (simpa [Around.under,Code.envs,Code.isFrame,pushEnvs] using e.frames),e.mod,e.bs,e.bsz,e.G7,e.frf,e.hok,e.bare}
theorem M6.in1{P:Program}{w:World}{K:YD}{mg:YB}{base:Heap}{A:Around}{outer:List Env}{s:Shared}{H:Hp}(e:M6 P w K mg base A outer s H) :
  M6 P w K mg base A.in1 outer s H:=⟨e.frames,e.mod,e.bs,e.bsz,e.G7,e.frf,e.hok,e.bare⟩
section
variable{X:Cx}{jb:YC}{U : St}{H:Hp}{s s':Shared}
theorem Inv.env0(I:H^^^s):M6 X.prog X.w X.K X.mg X.base X.A X.stack s H:=
 ⟨I.ok.frames,I.ok.mod,I.bs,Qcs I.ok.bsz I.sz,I.stack,I.XD,I.hok,I.bare⟩
theorem Inv.after{Q:VK}{u:Value}(I:H^^^s)(h:CE X.stack X.prog X.w H s Q u s'):EP X jb U Q u s':=by
 obtain⟨v,H',os,bare,un,hok,r,q⟩:=h;obtain⟨G,g,d,t,j⟩:=s';obtain rfl:j=s.os:=os;exact⟨v,H',I.call (h':=G) (g':=g) (d':=d) (t':=t) (ch:=[]) un hok bare (λb z=>absurd z 04),r,q⟩
end
def lQ(sp:Sp)(dvs:YG)(E:XK)(t:TA):TE:=fun U H Q=>t U H λvs H1=>sp (vs++dvs) H1 Q E
def aG(C:Addr)(m:Str)(sp:Sp)(dvs:YG)(E:XK)(ta:TE)(t:TA):TE:=fun U H Q=>ta U H λx H1=>∃a dx fs,x=.ref a/\H1 a=some (.ins C dx fs)/\fs.lookup m=none /\
 t U H1 λvs H2=>sp (x::(vs++dvs)) H2 Q E
def yN(C:Addr)(sp:Sp)(dvs:YG)(E:XK)(t:TA):TE:=fun U H Q=>t U H λvs H1=>∀x dx,H1 x=none->H1 dx=none->dx≠x ->
 sp (.ref x::(vs++dvs)) (upd (upd H1 dx (.own x)) x (.ins C dx [])) (λv H2=>v=.non/\Q (.ref x) H2) E
def Binds(K:YD)(fd:FuncData)(ps:YF)(ds:YE):Prop:=
 ∀(s:Shared) (us:YE),K.In s.heap->(us++ds).length=ps.length->BindsTo s fd ⟨us,[]⟩ (ps.zip (us++ds))
theorem Binds.all{K:YD}{fd:FuncData}{ps:YF}(h:∀us:YE,us.length=ps.length->bindArgs fd ⟨us,[]⟩=pure (ps.zip us)):Binds K fd ps []:=λs us _ j=>by
 rw[QbM] at j ⊢;exact .of_eq (h us j)
def Passes(CX:CXT)(X:Cx)(E:XK):Prop:=∀(jb:YC) (U : St) (H:Hp) (s:Shared) (e:Value) (s':Shared),H^^^s->CX X.stack H s E e s'->X.xe e s'
section
variable{X:Cx}{CX:CXT}{k:Nat}{f C:Addr}{fd:FuncData}{ps:YF}{sp:Sp}{dvs:YG}{ds:YE}{E:XK}{x m:Str}{p pos apos:Pos}{e o:Expr}{es:YJ}{ta:TE}{t:TA}
theorem cF{jb:YC}{U : St}{H:Hp}{s:Shared}{Q:VK}{us:YE}{vs:YG}(F:Gy X.prog X.w X.K X.mg X.base CX k f fd ps sp)(z:Cd k X.A)(G:Binds X.K fd ps ds)(J:Vals dvs ds)(N:Passes CX X E)
  (I:H^^^s) (r:Vals vs us) (h:sp (vs++dvs) H Q E):‹X› (call (.ref f) us) (EP X jb U Q) X.xe s:=by
 have q:Vals (vs++dvs) (us++ds):=r.append J;have O:(us++ds).length=ps.length:=by rw[<-q.length];exact F.len _ _ _ _ h
 refine wpAny_call (Qcw (F.run X.A X.stack s H ⟨us,[]⟩ (us++ds) (vs++dvs) Q E z I.env0 (G s us I.kIn O) q h) λr s' j=>?_);cases r with
 | error e=>exact N jb U H s e s' I j
 | ok fl=>
  cases fl with
  | ret u=>exact I.after j
  | next=>exact False.elim j
  | brk=>exact False.elim j
  | cont=>exact False.elim j
theorem AE(F:Gy X.prog X.w X.K X.mg X.base CX k f fd ps sp)(G:Cd k X.A)(J:Gl X x)(N:X.mg x=some (.ref f))(O:keepIn X.K (.ref f)=true)(Y:Binds X.K fd ps ds)(hd:Vals dvs ds)(hx:Passes CX X E)
  (ha:PA X (e::es) t) (q:'f'=false:=by decide) (he:starEach (e::es) X.env=(false,eval e X.env)::starEach es X.env:=by rfl) (z:(backTo pos (starEach es X.env)).any (·.1)=false:=by rfl) :
  PE X (.Call (.Name x p) (e::es) [] pos) (lQ sp dvs E t):=by
 intros Q I h;refine Qbh (JZ I J N ?_ q);refine callWith_K (h₀:=X.base) I.ok.mod.kin O (thn (ha pos jb s U H _ I h) λus s1 zz=>?_) he z;obtain⟨vs,H1,j,r,aa⟩:=zz;refine⟨j.kIn,?_⟩;exact cF F G Y hd hx j r aa
theorem AC{pl:Sem Bool}(O:PE X o ta)(c:Cls X.K C)(j:Meth X.K C m f)(F:Gy X.prog X.w X.K X.mg X.base CX k f fd ps sp)(Y:Cd k X.A)(hb:Binds X.K fd ps ds)(hd:Vals dvs ds)(hx:Passes CX X E)(ha:PA X (e::es) t)
  (J:starEach (e::es) X.env=(false,eval e X.env)::starEach es X.env:=by rfl) (N:(backTo pos (starEach es X.env)).any (·.1)=false:=by rfl)
  (ht:eval (.Call (.Attribute o m apos) (e::es) [] pos) X.env=(do
   let q <-eval o X.env
   standAt apos.atName
   let (f,first) <-holding [q] (getMethod q m pl)
   callWith pos f first (backTo pos (starEach (e::es) X.env)) (backToKw pos (keywordEach [] X.env))):=by rfl) :
  PE X (.Call (.Attribute o m apos) (e::es) [] pos) (aG C m sp dvs E ta t):=by
 intros Q I h;refine PySem.W.methodCall_KW (pl:=pl) (thn (O jb s U H _ I h) λu s1 zz=>?_) ht;obtain⟨x,H1,z,rx,a,dx,fs,ex,ea,l,aa⟩:=zz;subst ex;obtain rfl:u=Value.ref a:=rx;refine Ro z ea c j l ?_;refine callWith_K (first:=[.ref a]) (h₀:=X.base) I.ok.mod.kin j.kp (thn (ha pos jb s1 U H1 _ z aa) λus s2 zz=>?_) J N
 obtain⟨vs,H2,G,r,q2⟩:=zz;refine⟨G.kIn,?_⟩;exact cF (us:=.ref a::us) (vs:=.ref a::vs) F Y hb hd hx G (.cons rfl r) q2
theorem vo{pl:Sem Bool}(G:PE X o ta)(c:Cls X.K C)(q:Meth X.K C m f)(F:Gy X.prog X.w X.K X.mg X.base CX k f fd ps sp)(I:Cd k X.A)(J:Binds X.K fd ps ds)(N:Vals dvs ds)(O:Passes CX X E)
  (Y:eval (.Call (.Attribute o m apos) [] [] pos) X.env=(do
   let z <-eval o X.env
   standAt apos.atName
   let (f,first) <-holding [z] (getMethod z m pl)
   callWith pos f first (backTo pos (starEach [] X.env)) (backToKw pos (keywordEach [] X.env))):=by rfl) :
  PE X (.Call (.Attribute o m apos) [] [] pos) (aG C m sp dvs E ta MK):=by
 intros Q aa h;refine PySem.W.methodCall_KW (pl:=pl) (thn (G jb s U H _ aa h) λu s1 zz=>?_) Y;obtain⟨x,H1,j,rx,a,dx,fs,ex,ea,l,ab⟩:=zz;subst ex;obtain rfl:u=Value.ref a:=rx;refine Ro j ea c q l ?_;exact PySem.W.callWith_K0 (first:=[.ref a]) j.kIn q.kp (cF (us:=[.ref a]) (vs:=[.ref a]) F I J N O j (.cons rfl .nil) ab)
structure Mk(K:YD)(C f:Addr):Prop where
 makes:makesIn K C=true
 init:findIn K (.ref C) "__init__"=some (some (.ref f))
 fn:isFn K (.ref f)=true
 kp:keepIn K (.ref C)=true
theorem uU{jb:YC}{U : St}{H:Hp}{s:Shared}{Q:VK}{us:YE}{vs:YG}(M:Mk X.K C f)(F:Gy X.prog X.w X.K X.mg X.base CX k f fd ps sp)(J:Cd (k+1) X.A)(N:Binds X.K fd ps ds)(O:Vals dvs ds)
  (Y:Passes CX X E) (I:H^^^s) (r:Vals vs us)
  (h:∀x dx,H x=none->H dx=none->dx≠x->sp (.ref x::(vs++dvs)) (upd (upd H dx (.own x)) x (.ins C dx [])) (λv H2=>v=.non/\Q (.ref x) H2) E) :
  ‹X› (call (.ref C) us) (EP X jb U Q) X.xe s:=by
 have z:=h (∅+1) ∅ (I.hok.fresh (QcF _)) (I.hok.fresh (QcA _)) (Qcr (QbE _));have q:=Inv.made (C:=C) I;have G:Vals (V.ref (∅+1)::(vs++dvs)) (Value.ref (∅+1)::(us++ds)):=.cons rfl (r.append O);have hl:(Value.ref (∅+1)::us++ds).length=ps.length:=by
  have e:=G.length;rw[F.len _ _ _ _ z] at e;exact e.symm
 refine wpAny_call (dZ (f:=f) I.kIn M.makes M.init (beq_iff_eq.mp M.fn) (Qcw (F.run _ X.stack _ _ {Value.ref (∅+1)::us,[]} (Value.ref (∅+1)::(us++ds)) _ _ E (J.make C us [])
  (q.env0.make C us []) (N _ (Value.ref (∅+1)::us) q.kIn hl) G z) λr s' j=>?_))
 cases r with
 | error e=>exact Y jb U _ _ e s' q j
 | ok fl=>
  cases fl with
  | ret u=>
   obtain⟨v,H',I3,rv,ev,q3⟩:=q.after j;subst ev;exact⟨rv,{V.ref (∅+1),H',I3,rq,q3}⟩
  | next=>exact False.elim j
  | brk=>exact False.elim j
  | cont=>exact False.elim j
theorem AD(M:Mk X.K C f)(F:Gy X.prog X.w X.K X.mg X.base CX k f fd ps sp)(G:Cd (k+1) X.A)(J:Gl X x)(N:X.mg x=some (.ref C))(O:Binds X.K fd ps ds)(Y:Vals dvs ds)(hx:Passes CX X E)
  (ha:PA X (e::es) t) (q:'f'=false:=by decide) (he:starEach (e::es) X.env=(false,eval e X.env)::starEach es X.env:=by rfl) (z:(backTo pos (starEach es X.env)).any (·.1)=false:=by rfl) :
  PE X (.Call (.Name x p) (e::es) [] pos) (yN C sp dvs E t):=by
 intros Q I h;refine Qbh (JZ I J N ?_ q);refine callWith_K (h₀:=X.base) I.ok.mod.kin M.kp (thn (ha pos jb s U H _ I h) λus s1 zz=>?_) he z;obtain⟨vs,H1,j,r,aa⟩:=zz;refine⟨j.kIn,?_⟩;exact uU M F G O Y hx j r aa
end
def PK(X:Cx)(kws:List Keyword)(t:TA):Prop:=
 ∀(pos:Pos) (jb:YC) (s:Shared) (U : St) (H:Hp) (Q:YG->Hp->Prop),H^^^s->t U H Q->‹X› (evalAll ((backToKw pos (keywordEach kws X.env)).map (·.2))) (AP X jb U Q) X.xe s
section
variable{X:Cx}{CX:CXT}{k:Nat}{f C:Addr}{fd:FuncData}{ps ks:YF}{sp:Sp}{E:XK}{x m:Str}{p pos apos kpos:Pos}{e o:Expr}{es:YJ}{kws:List Keyword}{te ta:TE}{t tk:TA}{nm:Option Str}
theorem C0:PK X [] MK:=λ_ _ _ _ H Q I h=>wpAny_evalAll_nil {[],H,I,.nil,h}
theorem AB(j:PE X e te)(q:PK X kws t):PK X (⟨nm,e,kpos⟩::kws) (Dv te t):=by
 intro pos jb s U H Q aa h;show wpAny _ _ (evalAll ((do let v <-eval e X.env;standAt pos;pure v)::(backToKw pos (keywordEach kws X.env)).map (·.2))) _ _ s
 refine wpAny_evalAll_cons (QcG (thn (j jb s U H _ aa h) λu z zz=>?_));obtain⟨x,H1,G,I,J⟩:=zz;refine QcG (Qcn (QcH ?_));refine thn (q pos jb z U H1 _ G J) λus s2 zz=>?_;obtain⟨xs,H2,N,O,Y⟩:=zz;exact{x::xs,H2,N,.cons I O,Y}
variable{g:YE->YE->YE}{gV:YG->YG->YG}
end
structure Ay(N P:YF)(sc:Scope):Prop where
 kind:sc.kind=.function
 co:sc.isCoroutine=false
 gen:sc.isGenerator=false
 nd:N.Nodup
 pre:N.take P.length=P
 par:∀x∈P,sc.names.lookup x=some .local\/sc.names.lookup x=some .cell
 dU:∀y∈sc.names,y.2≠.free
theorem ZM{kindOf:Str->Option NameKind}{x:Str}:∀{j:List (Str×Value)} {m:YB},(∀v,(x,v)∉j)->bindL kindOf j m x=m x
 | [],_,_=>rfl
 | (n,v)::r,m,h=>by
  unfold bindL;rw[ZM λw hw=>h w (QaI _ hw)];split
  .have:x≠n:=by rintro rfl;exact h v QaW
   simp[this]
  .rfl
theorem ZQ{kindOf:Str->Option NameKind}{x:Str}:∀{j:List (Str×Value)} {m:YB},(∀v,(x,v)∉j)->bindC kindOf j m x=m x
 | [],_,_=>rfl
 | (n,v)::r,m,h=>by
  unfold bindC;rw[ZQ λw hw=>h w (QaI _ hw)];split
  .rfl
  .have:x≠n:=by rintro rfl;exact h v QaW
   simp[this]
theorem ZP{kindOf:Str->Option NameKind}{x:Str}{v:Value}:∀{P:YF} {vs:YE} {i:Nat} {m:YB},P.Nodup->P[i]?=some x->vs[i]?=some v->kindOf x=some .local ->
  bindL kindOf (P.zip vs) m x=some v
 | [],_,_,_,_,h,_,_=>by simp at h
 | _::_,[],_,_,_,_,h,_=>by simp at h
 | p::P,w::vs,0,m,j,h1,h2,q=>by
  simp at h1 h2;subst h1;subst h2;show bindL kindOf ((p,w)::P.zip vs) m p=_;unfold bindL;rw[ZM λv z=>(QbQ.mp j).1 (List.of_mem_zip z).1,if_pos q];simp
 | p::P,w::vs,i+1,m,j,h1,h2,q=>by
  show bindL kindOf ((p,w)::P.zip vs) m x=_;unfold bindL;exact ZP (i:=i) (QbQ.mp j).2 (by simpa using h1) (by simpa using h2) q
theorem ZR{kindOf:Str->Option NameKind}{x:Str}{v:Value}:∀{P:YF} {vs:YE} {i:Nat} {m:YB},P.Nodup->P[i]?=some x->vs[i]?=some v->kindOf x≠some .local ->
  bindC kindOf (P.zip vs) m x=some v
 | [],_,_,_,_,h,_,_=>by simp at h
 | _::_,[],_,_,_,_,h,_=>by simp at h
 | p::P,w::vs,0,m,j,h1,h2,q=>by
  simp at h1 h2;subst h1;subst h2;show bindC kindOf ((p,w)::P.zip vs) m p=_;unfold bindC;rw[ZQ λv z=>(QbQ.mp j).1 (List.of_mem_zip z).1,if_neg q];simp
 | p::P,w::vs,i+1,m,j,h1,h2,q=>by
  show bindC kindOf ((p,w)::P.zip vs) m x=_;unfold bindC;exact ZR (i:=i) (QbQ.mp j).2 (by simpa using h1) (by simpa using h2) q
def start(N:YF)(vs:YG):St:=vs.map some++List.replicate (N.length - vs.length) none
def Lg(CX:CXT)(P:Program)(w:World)(K:YD)(mg:YB)(base:Heap)(N:YF)(j:Str)(scope:Scope)(f:Addr)(q:Value)(A:Around)(outer:List Env)(s:Shared)(H:Hp)(E:XK):Cx where
 prog:=P
 w:=w
 K:=K
 mg:=mg
 base:=base
 A:=A.deeper (envOfC j scope ∅ f q)
 N:=N
 s₀:=s
 H₀:=H
 env:=envOfC j scope ∅ f q
 outer:=outer
 stack:=envOfC j scope ∅ f q::outer
 ex:=[]
 calm:=true
 fn:=λ_=>true
 pn:=[]
 xe:=λe s'=>wpAny (model P w) (A.deeper (envOfC j scope ∅ f q)) (leaving (envOfC j scope ∅ f q) e) (λ_ z=>CX outer H s E e z) (λG z=>CX outer H s E G z) s'
theorem gq{sc:Scope}{n:Nat}{x:Str}(h:sc.names.lookup x=some .cell):∃c,(cellsFrom n sc.names []).lookup x=some c:=by
 have q:=PySem.W.cellsFrom_some sc.names n [] (.inl h);exact Option.isSome_iff_exists.mp q
theorem Zy{CX:CXT}{P:Program}{w:World}{K:YD}{mg:YB}{base:Heap}{N ps:YF}{G:Str}{scope:Scope}{f:Addr}{I:Value}{A:Around}{outer:List Env}{s Y:Shared}{H:Hp}{E:XK}{us:YE}{vs:YG}
  (S:Ay N ps scope) (hd:A.handled=none) (e0:M6 P w K mg base A outer s H) (hl:vs.length=ps.length) (r:Vals vs us)
  (x:InCallC s ∅ (bindL (envOfC G scope ∅ f I).kindOf (ps.zip us) λ_=>none) (cellsFrom (∅+1) scope.names []) (bindC (envOfC G scope ∅ f I).kindOf (ps.zip us) λ_=>none) Y) :
  Inv (Lg CX P w K mg base N G scope f I A outer s H E) [] (start N vs) H Y:=by
 have ab:ps.length<=N.length:=by have:=congrArg List.length S.pre;rw[QbA] at this;lia
 obtain⟨h1,tk,rfl,hk⟩:=x.done;have J:∀b:Addr,b∉(Lg CX P w K mg base N G scope f I A outer s H E).ex:=λb z=>absurd (show b∈([]:List Addr) from z) 04
 refine⟨⟨e0.mod,S.kind,rq,rq,QcA _,λy z c h1 h2=>?_,λy j=>?_,λy c _ h=>?_,λ_=>hd,Around.frames_deeper e0.frames,.inr ⟨rq,rq⟩,λb z=>absurd z (J b),e0.bs,e0.bsz,λb _ _=>J b,λb z=>absurd z (J b),e0.G7,e0.frf⟩,
  rfl,e0.bare,Un.kept hk,{_,x.toInCall.ns,λi y v h1 h2 h3=>?_},λy c h=>{_,x.cell y c h},e0.hok.fresh (QcA _),λy c h=>?_,λp q=>absurd (show p∈([]:YC) from q) 04,e0.hok.kept hk,?_⟩
 .exact name_of_addr x.apart (QaR h1) (QaR h2)
 .have j:scope.names.lookup y=some .cell\/scope.names.lookup y=some .free:=j;rcases j with j | j
  .exact gq j
  .exact absurd rfl (S.dU _ (QaR j))
 .exact Qcu (x.above y c (QaR h))
 .have hi:i < vs.length:=by
   unfold start at h2;by_cases hi:i < vs.length
   .exact hi
   .rw[List.getElem?_append_right (by simpa using hi)] at h2;rw[List.getElem?_replicate] at h2;split at h2 <;> cases h2
  have ha:vs[i]?=some v:=by
   unfold start at h2;rw[List.getElem?_append_left (by simpa using hi),Qbn] at h2;cases e:vs[i]? with
   | none=>rw[e] at h2;cases h2
   | some a=>rw[e] at h2;cases h2;rfl
  obtain⟨u,hu,rv⟩:=r.get ha;have q:ps[i]?=some y:=by
   rw[<-S.pre,List.getElem?_take_of_lt 00];exact h1
  have O:ps.Nodup:=by rw[<-S.pre];exact S.nd.sublist (List.take_sublist _ _)
  refine⟨u,rv,?_⟩;rcases S.par y (QaH q) with k | k
  .exact .inl ⟨k,ZP O q hu k⟩
  .obtain⟨c,e⟩:=gq (n:=∅+1) k;refine .inr {.inl k,c,e,?_};have aa:=x.cell y c e;rw[ZR O q hu (by show scope.names.lookup y≠_;rw[k];decide)] at aa;exact aa
 .exact e0.hok.fresh (Qcu (x.above y c (QaR h)))
 .unfold start;show _=N.length;rw[QaV,QbJ,List.length_replicate];lia
theorem oO{CX:CXT}{P:Program}{w:World}{K:YD}{mg:YB}{base:Heap}{k:Nat}{f:Addr}{name j:Str}{aa:Arguments}{I:List Stmt}{scope:Scope}{dV kV ab pm z ct oc:Value}{an od:Option Addr}
  {ai:YI} {N ps:YF} {sp:Sp} (lk:K.lookup f=some ⟨oc,od,.func (fnOf name j aa I scope dV kV ab pm an z ct),ai⟩) (al:codeIn K z j=true) (S:Ay N ps scope)
  (len:∀vs H Q E,sp vs H Q E->vs.length=ps.length)
  (ag:∀(A:Around) (outer:List Env) (s:Shared) (H:Hp) (vs:YG) (Q:VK) (E:XK),Cd k (A.deeper (envOfC j scope ∅ f z))->sp vs H Q E ->
   ∃t,PSs (Lg CX P w K mg base N j scope f z A outer s H E) I t/\t { nx:=λ_ H'=>Q .non H',rt:=Q } (start N vs) H) :
  Gy P w K mg base CX (k+1) f (fnOf name j aa I scope dV kV ab pm an z ct) ps sp:=by
 refine⟨len,λA outer s H args us vs Q E O e0 hb r ae=>?_⟩;have hl:=len _ _ _ _ ae;have KX:K.In s.heap:=e0.mod.kin.keeps λb o e=>(e0.bs b o e).1;have am:s.heap.NoLimit:=e0.mod.nolimit.keeps λb o e=>(e0.bs b o e).1;have ah:∀y∈ps.zip us,scope.names.lookup y.1=some .local\/(scope.names.lookup y.1=some .cell/\((cellsFrom (∅+1) scope.names []).lookup y.1).isSome=true):=λ⟨n,v⟩ hy=>by
  rcases S.par n (List.of_mem_zip hy).1 with q | q
  .exact .inl q
  .exact .inr ⟨q,PySem.W.cellsFrom_some _ _ _ (.inl q)⟩
 refine codeAny_call_function O.depth (KX _ _ lk) rfl S.co S.gen rfl (PySem.W.codeRec_of KX al) (hb _ _ _ _ ?_);refine wpAny_newFunctionEnv_cells S.kind ah λenv he s1 x=>?_;subst he;refine{am.keeps x.toInCall.keep,codeAny_func ?_};obtain⟨t,ht,hq⟩:=ag A outer s H vs Q E (O.deeper _) ae;have ao:Inv (Lg CX P w K mg base N j scope f z A outer s H E) [] (start N vs) H s1:=Zy S O.hd e0 hl r x;refine QcI (ht [] s1 (start N vs) H _ ao hq) (λfl s' hs=>?_) λe s' hs=>hs;have af:∀{G:St} {H':Hp} {v:V} {u:Value},Inv (Lg CX P w K mg base N j scope f z A outer s H E) [] G H' s'->RelV v u->Q v H'->CE outer P w H s Q u s':=
  λ{G H' v u} J Y q=>⟨v,H',J.os,J.bare,J.base,J.hok,Y,q⟩
 cases fl with
 | ret u=>
  obtain⟨v,G,H',J,Y,q⟩:=hs;exact af J Y q
 | next=>
  obtain⟨G,H',J,q⟩:=hs;exact af (v:=V.non) (u:=Value.none) J rfl q
 | brk=>
  obtain⟨_,_,_,q⟩:=hs;exact False.elim q
 | cont=>
  obtain⟨_,_,_,q⟩:=hs;exact False.elim q
section
variable{X:Cx}{x:Str}{p pos:Pos}{e:Expr}{es:YJ}{t:TA}{id T:String}{r:YG->Hp->VK->Prop}
def tCB(r:YG->Hp->VK->Prop)(t:TA):TE:=fun U H Q=>t U H λvs H1=>r vs H1 Q
theorem Av(hc:DN X (.builtin id) r)(z:Gl X x)(G:X.mg x=none)(J:bootBuiltins x=some (.builtin id))(N:PA X (e::es) t)(O:x≠"__name__":=by decide)(j:'f'=false:=by decide)
  (Y:starEach (e::es) X.env=(false,eval e X.env)::starEach es X.env:=by rfl) (q:(backTo pos (starEach es X.env)).any (·.1)=false:=by rfl):PE X (.Call (.Name x p) (e::es) [] pos) (tCB r t):=by
 intros Q I h;refine Qbh (Jp I z G J ?_ O j);refine PyProof.Rows.callWith_builtin1 (thn (N pos jb s U H _ I h) λus s1 zz=>?_) Y q;obtain⟨vs,H1,I1,r1,q1⟩:=zz;exact hc jb s1 U H1 vs us Q I1 r1 q1
theorem CW(hc:DN X (.type T) r)(z:Gl X x)(G:X.mg x=none)(J:bootBuiltins x=some (.type T))(N:PA X (e::es) t)(O:x≠"__name__":=by decide)(j:'f'=false:=by decide)
  (Y:starEach (e::es) X.env=(false,eval e X.env)::starEach es X.env:=by rfl) (q:(backTo pos (starEach es X.env)).any (·.1)=false:=by rfl):PE X (.Call (.Name x p) (e::es) [] pos) (tCB r t):=by
 intros Q I h;refine Qbh (Jp I z G J ?_ O j);refine Qae (thn (N pos jb s U H _ I h) λus s1 zz=>?_) Y q;obtain⟨vs,H1,I1,r1,q1⟩:=zz;exact hc jb s1 U H1 vs us Q I1 r1 q1
end
end L2
namespace HT
open PySem PyProof.Rows
section
open PySem.SeqAt
open PySem.AutoSeq1 (wpAny_loadPart')
open PySem.MeetsSeq PySem.MeetsSeq2 PySem.MeetsSeq3
end
section
variable{prog:Program}{w:World}{A:Around}{E:YA}{s:Shared}
theorem BC{t b:Addr}{vs j:YE}{Q:YA}(ht:IsTup s.heap t vs.toArray)(hb:IsTup s.heap b j.toArray)(O:vs≠[])
  (h1:j=[]->Q (.ref t) s) (h2:j≠[]->Q (.ref ∅) { s with heap:=s.heap.push { cls:=.type "tuple",data:=.seq (vs++j).toArray } })
  (hsz:vs.length+j.length<=sizeLine):wpAny 01 A (binaryOp .Add (.ref t) (.ref b)) Q E s:=by
 obtain⟨⟨cls,Y,data,sl⟩,z,hc,n,hd⟩:=id ht;obtain⟨⟨aa,G,data2,I⟩,q,J,n2,N⟩:=id hb;simp only at hc hd J N;subst hc hd J N;have e:vs.toArray++j.toArray=(vs++j).toArray:=by simp
 by_cases hw:j=[]
 .exact concat_meets ⟨_,z,rq⟩ ⟨_,q,rq⟩ noFill_tuple_add seq_tuple_add PySem.F.slot_tuple_add PySem.F.entry_tuple_add (PySem.F.args_tuple_add_2 _ _)
   (tuple_addW1 t b vs.toArray j.toArray n n2 Y G sl I (by simpa using O) (by simp[hw])) ⟨z,q,h1 hw⟩
 .refine concat_meets ⟨_,z,rq⟩ ⟨_,q,rq⟩ noFill_tuple_add seq_tuple_add PySem.F.slot_tuple_add PySem.F.entry_tuple_add (PySem.F.args_tuple_add_2 _ _)
   (tuple_addW2 t b vs.toArray j.toArray n n2 Y G sl I (by simpa using O) (by simpa using hw) (by rw[Qbl,Qbl];exact hsz)) ⟨z,q,?_⟩
  rw[e];exact h2 hw
def sIx(n d:Nat):Option Int->Nat
 | none=>d
 | some v=>if v < 0 then (v+(n:Int)).toNat else min v.toNat n
theorem cB(n d:Nat):sIx n d none=d:=rfl
theorem jL(n d k:Nat):sIx n d (some (k:Int))=min k n:=by
 show (if (k:Int) < 0 then ((k:Int)+(n:Int)).toNat else min (k:Int).toNat n)=min k n
 rw[if_neg 00,Qbo]
theorem CI(n d:Nat)(q:d<=n)(o:Option Int):sIx n d o<=n:=by
 cases o with
 | none=>exact q
 | some v=>
  show (if v < 0 then (v+(n:Int)).toNat else min v.toNat n)<=n
  by_cases j:v < 0
  .rw[if_pos j];lia
  .rw[if_neg j];exact Nat.min_le_right _ _
theorem kW(v:Int)(n d:Nat):(if v < 0 then max (v+(n:Int)) 0 else min v (n:Int))=((sIx n d (some v):Nat):Int):=by
 show (if v < 0 then max (v+(n:Int)) 0 else min v (n:Int))=(((if v < 0 then (v+(n:Int)).toNat else min v.toNat n):Nat):Int)
 by_cases j:v < 0
 .simp only[if_pos j];lia
 .simp only[if_neg j];lia
theorem oZ(lo hi:Option Int)(n:Nat):Builtin.Slice.sliceAdjust lo hi 1 (n:Int)=(((sIx n 0 lo:Nat):Int),((sIx n n hi:Nat):Int)):=by
 have h1:¬((1:Int) < 0):=by lia
 unfold Builtin.Slice.sliceAdjust;simp only[h1,if_false];refine Prod.ext ?_ ?_
 .cases lo with
  | none=>rfl
  | some v=>exact kW v n 0
 .cases hi with
  | none=>rfl
  | some v=>exact kW v n n
theorem mJ(i j:Nat):Builtin.Slice.slicePlaces (i:Int) (j:Int) 1=j - i:=by
 unfold Builtin.Slice.slicePlaces;have h1:(1:Int) > 0:=by lia
 simp only[h1,if_true,Int.ediv_one];split <;> lia
theorem Wy{v:Value}{o:Option Int}{Q:Option Int->Shared->Prop}(p:IsPart v o)(h:Q o s):wpAny 01 A (Builtin.Slice.slicePartIndex v) Q E s:=by
 cases p with
 | none=>exact slicePart_none h
 | int i t=>exact slicePart_int h
theorem Oc{I:Addr}{z G:Value}{lo hi:Option Int}{n:Nat}{Q:Int×Int×Nat->Shared->Prop}(hs:s.heap.IsSliceOf I z G .none)(pl:IsPart z lo)(J:IsPart G hi)
  (h:Q (((sIx n 0 lo:Nat):Int),1,sIx n n hi - sIx n 0 lo) s):wpAny 01 A (Builtin.Slice.sliceApplied (.ref I) (pure (n:Int))) Q E s:=by
 obtain⟨os,j,N,q⟩:=id hs;unfold Builtin.Slice.sliceApplied Builtin.Slice.sliceFields;refine QcG (QcG (QcD j q (x:=z) rfl (QcG (QcD j q (x:=G) rfl (QcG (QcD j q (x:=.none) rfl (QcH ?_)))))));refine QcG (slicePart_none ?_);show wpAny _ _ (if ((1:Int) == 0)=true then _ else _) _ _ s
 rw[if_neg 05];refine QcG (Wy pl (QcG (Wy J (QcG (QcH ?_)))));show wpAny _ _ (match Builtin.Slice.sliceAdjust lo hi 1 (n:Int) with | (lo,hi)=>pure (lo,(1:Int),Builtin.Slice.slicePlaces lo hi 1)) _ _ s
 rw[oZ lo hi n];show wpAny _ _ (pure (((sIx n 0 lo:Nat):Int),(1:Int),Builtin.Slice.slicePlaces ((sIx n 0 lo:Nat):Int) ((sIx n n hi:Nat):Int) 1)) _ _ s;rw[mJ];exact QcH h
theorem vh(xs:Array Value)(i k:Nat):((List.range k).filterMap λ(m:Nat)=>xs[((i:Int)+(m:Int)*1).toNat]?).toArray=((xs.toList.drop i).take k).toArray:=by
 have e:(λ(m:Nat)=>xs[((i:Int)+(m:Int)*1).toNat]?)=λm=>xs[i+m]?:=by
  funext m
  have:((i:Int)+(m:Int)*1).toNat=i+m:=by lia
  rw[this]
 rw[e];have:=pick_run xs i k;rw[List.filterMap_map] at this;have e2:((λx=>xs[x]?) ∘ λx=>i+x)=λm=>xs[i+m]?:=rfl;rw[e2] at this;rw[this]
theorem Va{t G:Addr}{items:Array Value}{I J:Value}{lo hi:Option Int}{Q:YA}(j:IsTup s.heap t items)(hs:s.heap.IsSliceOf G I J .none)(pl:IsPart I lo)(pu:IsPart J hi)
  (hw:¬(sIx items.size 0 lo=0/\sIx items.size items.size hi=items.size))
  (h:Q (.ref ∅) { s with heap:=s.heap.push { cls:=.type "tuple",data:=.seq ((items.toList.drop (sIx items.size 0 lo)).take (sIx items.size items.size hi - sIx items.size 0 lo)).toArray } })
  (hsz:items.size<=sizeLine):wpAny 01 A (getItem (.ref t) (.ref G)) Q E s:=by
 have z:sizeOk (.seq ((items.toList.drop (sIx items.size 0 lo)).take (sIx items.size items.size hi - sIx items.size 0 lo)).toArray):=by
  show ((items.toList.drop (sIx items.size 0 lo)).take (sIx items.size items.size hi - sIx items.size 0 lo)).toArray.size<=sizeLine;rw[Qbl,QbA,QbD,QaP];lia
 have hj:sIx items.size items.size hi<=items.size:=CI _ _ (QcA _) hi;obtain⟨os,N,O,ab⟩:=id hs;have Y:s.TypeIs (.ref G) "slice":=⟨os,N,O⟩;unfold getItem
 try with_reducible refine Qck ?_
 first | refine QcG (QcH ?_) | skip
 refine QcG (wpAny_sequenceKey j.typeIs 05 ?_);refine QcG (Qas (name:=Str.ofString "__getitem__") j.typeIs Qab
  (QbC Qab j.typeIs entry_tuple_getitem ?_ (args_tuple_getitem _ _)))
 show wpAny _ _ (Builtin.Tuple.tupleItemsOf (.ref t) >>= _) _ _ s;refine QcG (tupleItemsOf_ j ?_);refine QcG (Qcy Y ?_);rw[if_pos 05];refine QcG (Oc hs pl pu ?_);have aa:¬((((sIx items.size 0 lo:Nat):Int) == 0&&(1:Int) == 1&&(sIx items.size items.size hi - sIx items.size 0 lo) == items.size)=true):=by
  intro q;rw[QbF,QbF] at q;have q1:((sIx items.size 0 lo:Nat):Int)=0:=eq_of_beq q.1.1;have q2:sIx items.size items.size hi - sIx items.size 0 lo=items.size:=eq_of_beq q.2;exact hw {by lia,by lia}
 show wpAny _ _ (if (((sIx items.size 0 lo:Nat):Int) == 0&&(1:Int) == 1&&(sIx items.size items.size hi - sIx items.size 0 lo) == items.size)=true then _ else _) _ _ s
 rw[if_neg aa,vh]
 first
  | exact QcG (m:=Builtin.Tuple.tupleExact _) (Qbp (QcH ⟨_,rfl,QcH h⟩) z)
  | exact QcG (m:=Builtin.Tuple.tupleExact _) (Qbp (QcG (QcH (QcH ⟨_,rfl,QcH h⟩))) z)
  | exact QcG (QcG (m:=Builtin.Tuple.tupleExact _) (Qbp (QcH (QcH ⟨_,rfl,QcH h⟩)) z))
  | exact QcG (QcG (m:=Builtin.Tuple.tupleExact _) (Qbp (QcH ⟨_,rfl,QcH h⟩) z))
end
end HT
namespace L2
open PySem PySem.Spec PyProof.Rows
abbrev TO:=St->Hp->(Option Int->Hp->Prop)->Prop
def PO(X:Cx)(e:Option Expr)(t:TO):Prop:=
 ∀(jb:YC) (s:Shared) (U : St) (H:Hp) (Q:Option Int->Hp->Prop),H^^^s->t U H Q ->
  ‹X› (evalPart e X.env) (λu s'=>∃o H',Inv X jb U H' s'/\IsPart u o/\Q o H') X.xe s
def zO:TO:=λ_ H Q=>Q none H
def FI(t:TE):TO:=fun U H Q=>t U H λx H1=>∃i,x=.int i/\Q (some i) H1
theorem intsAre_of{j:List Int}:∀{us:YE},Vals (j.map V.int) us->IntsAre us j:=by
 induction j with
 | nil=>intro us r;rw[Qcx] at r;cases r;exact .nil
 | cons n j q=>
  intro us r;rw[Qch] at r;cases r with
  | cons z G=>
   obtain⟨t,e⟩:=z;subst e;exact .cons n t (q G)
section
variable{X:Cx}{e:Expr}{te:TE}{lo hi:Option Expr}{tl th:TO}{pos p2:Pos}
theorem NK:PO X none zO:=by
 intros Q I h;rw[evalPart_none];exact QcH ⟨none,H,I,.none,h⟩
theorem Nz(h:PE X e te):PO X (some e) (FI te):=by
 intros Q I hw;rw[evalPart_some];refine thn (h jb s U H _ I hw) λu J zz=>?_;obtain⟨x,H1,j,z,G⟩:=zz;obtain⟨i,rfl,q⟩:=G;obtain⟨t,rfl⟩:=z;exact{some i,H1,j,.int i t,q}
def SlR(X:Cx)(r:V->Option Int->Option Int->Hp->VK->Prop):Prop:=
 ∀(jb:YC) (s:Shared) (U : St) (H:Hp) (x:V) (v j q:Value) (lo hi:Option Int) (z:Addr) (Q:VK),H^^^s->RelV x v->s.heap.IsSliceOf z j q .none->IsPart j lo->IsPart q hi->r x lo hi H Q ->
  ∃T id,typeLookup (.type T) "__getitem__"=pure (some (.builtin id))/\s.TypeIs v T/\‹X› (getItem v (.ref z)) (EP X jb U Q) X.xe s
def tSl(r:V->Option Int->Option Int->Hp->VK->Prop)(te:TE)(tl th:TO):TE:=fun U H Q=>te U H λx H1=>tl U H1 λl H2=>th U H2 λu j=>r x l u j Q
theorem K7{r:V->Option Int->Option Int->Hp->VK->Prop}(G:SlR X r)(I:PE X e te)(J:PO X lo tl)(N:PO X hi th):PE X (.Subscript e (.Slice lo hi none p2) pos) (tSl r te tl th):=by
 intros Q aa h;refine Subscript_ (thn (I jb s U H _ aa h) λv O zz=>?_);obtain⟨x,H1,Y,r1,q1⟩:=zz;refine wpAny_Slice (thn (J jb O U H1 _ Y q1) λj s2 zz=>?_);obtain⟨l,H2,I2,pl,q2⟩:=zz;refine thn (N jb s2 U H2 _ I2 q2) λq s3 zz=>?_;obtain⟨u,z,I3,pu,q3⟩:=zz;rw[evalPart_none];refine QcH ?_;have I4:Inv X jb U z { s3 with heap:=s3.heap.push { cls:=.type "slice",data:=.fields #[j,q,.none] } }:=I3.kept (t':=s3.toks) λb ob ab=>Qax _ ab;obtain⟨T,id,hT,ht,hg⟩:=G jb { s3 with heap:=s3.heap.push { cls:=.type "slice",data:=.fields #[j,q,.none] } } U z x v j q l u s3.heap.objs.size Q I4 r1 (Heap.IsSliceOf.new ..) pl pu q3;show ‹X› (subscriptTail e (.Slice lo hi none p2) v (.ref s3.heap.objs.size)) (EP X jb U Q) X.xe { s3 with heap:=s3.heap.push { cls:=.type "slice",data:=.fields #[j,q,.none] } };exact tail_any (ops:=[.ref s3.heap.objs.size,v]) ht hT hg (by with_unfolding_all rfl)
def JM(xs:YG)(lo hi:Option Int):YG:=(xs.drop (HT.sIx xs.length 0 lo)).take (HT.sIx xs.length xs.length hi - HT.sIx xs.length 0 lo)
theorem Vj(xs:YG)(lo hi:Option Int):(JM xs lo hi).length<=xs.length:=by
 unfold JM;rw[QbA,QbD];lia
def IP(K:YD):V->Option Int->Option Int->Hp->VK->Prop:=λx lo hi H Q=>∃a xs,x=.ref a/\SqT K H a xs /\
 ¬(HT.sIx xs.length 0 lo=0/\HT.sIx xs.length xs.length hi=xs.length)/\∀p,H p=none->Q (.ref p) (upd H p (.tup (JM xs lo hi)))
theorem CC:SlR X (IP X.K):=by
 intros x v vl vu lo hi sl Q I N hs pl O h;obtain⟨a,xs,rfl,Y,hw,q⟩:=h;cases N;obtain⟨J,r,z,G⟩:=I.tuple Y;have j:J.toArray.size=xs.length:=by rw[Qbl];exact r.length.symm
 refine{"tuple",_,Qab.lookup,z.typeIs,?_};refine HT.Va z hs pl O (by rw[j];exact hw) ?_ (by rw[j];exact G);rw[j];refine{.ref ∅,_,I.laid (t':=s.toks) (o:=.tup (JM xs lo hi)) (λb ob q=>Qax _ q) (QcA _) ?_,rq,q _ (I.hok.fresh (QcA _))};exact{Qcs (Vj xs lo hi) G,_,(r.drop (HT.sIx xs.length 0 lo)).take (HT.sIx xs.length xs.length hi - HT.sIx xs.length 0 lo),IsTup.new _ _}
def F4(K:YD):R2:=λx y H Q=>∃a b xs ys,x=.ref a/\y=.ref b/\SqT K H a xs/\SqT K H b ys/\xs≠[]/\xs.length+ys.length<=sizeLine /\
 (ys=[]->Q (.ref a) H)/\(ys≠[]->∀p,H p=none->Q (.ref p) (upd H p (.tup (xs++ys))))
theorem Vals.Yt{xs:YG}{us:YE}(r:Vals xs us):us=[] ↔ xs=[]:=by
 cases r with
 | nil=>simp
 | cons _ _=>simp
theorem AG:OpR X (binaryOp .Add) (F4 X.K):=by
 intros x y v u Q I J N h;obtain⟨a,b,xs,ys,rfl,rfl,O,Y,hx,G,q1,q2⟩:=h;cases J;cases N;obtain⟨ae,q,p1,_⟩:=I.tuple O;obtain⟨ab,j,p2,_⟩:=I.tuple Y;refine HT.BC p1 p2 (λz=>hx (q.Yt.mp z)) (λz=>{.ref a,H,I,rq,q1 (j.Yt.mp z)}) (λz=>?_) (by rw[<-q.length,<-j.length];exact G);refine{.ref ∅,_,I.laid (t':=s.toks) (o:=.tup (xs++ys)) (λb ob aa=>Qax _ aa) (QcA _) ?_,rq,q2 (λw=>z (j.Yt.mpr w)) _ (I.hok.fresh (QcA _))};exact{by rw[QaV];exact G,_,q.append j,IsTup.new _ _}
end
def ixN(n:Nat)(i:Int):Option Nat:=if 0<=i then (if i < n then some i.toNat else none) else if -(n:Int)<=i then some (i+n).toNat else none
def atI{q : Type}(xs:List q)(i:Int):Option q:=(ixN xs.length i).bind λj=>xs[j]?
theorem jY{n:Nat}{i:Int}{j:Nat}(h:ixN n i=some j):seqIndex? i n=some j/\j < n/\-(n:Int)<=i/\i < n:=by
 unfold ixN at h;by_cases q:0<=i
 .rw[if_pos q] at h;by_cases h1:i < n
  .rw[if_pos h1] at h;have e:i.toNat=j:=QbP h;exact{by rw[seqIndex_of q h1,e],by lia,by lia,h1}
  .rw[if_neg h1] at h;cases h
 .rw[if_neg q] at h;by_cases h1:-(n:Int)<=i
  .rw[if_pos h1] at h;have e:(i+n).toNat=j:=QbP h;exact{by rw[seqIndex_neg 00 h1,e],by lia,h1,by lia}
  .rw[if_neg h1] at h;cases h
theorem Y9{q : Type}{xs:List q}{i:Int}{v:q}(h:atI xs i=some v):∃j,seqIndex? i xs.length=some j/\xs[j]?=some v/\j < xs.length/\-(xs.length:Int)<=i/\i < xs.length:=by
 unfold atI at h;cases e:ixN xs.length i with
 | none=>rw[e] at h;cases h
 | some j=>
  rw[e] at h;obtain⟨h1,h2,z,G⟩:=jY e;exact⟨j,h1,h,h2,z,G⟩
theorem Eu{q : Type}{xs:List q}{j:Nat}{v:q}(h:xs[j]?=some v):atI xs (j:Int)=some v:=by
 have z:j < xs.length:=(Qah.mp h).1;have e:ixN xs.length (j:Int)=some j:=by
  unfold ixN;rw[if_pos 00,if_pos 00];simp
 unfold atI;rw[e];exact h
def BH(b:Expr):Prop:=∀o i,subscripted b false o i=operate [o,i] (getItem o i)
def IxR(X:Cx)(r:R2):Prop:=
 ∀(value j:Expr) (jb:YC) (s:Shared) (U : St) (H:Hp) (x y:V) (v u:Value) (Q:VK),H^^^s->RelV x v->RelV y u->r x y H Q ->
  subscripted j false v u=operate [v,u] (getItem v u)->‹X› (subscriptTail value j v u) (EP X jb U Q) X.xe s
def MtR(X:Cx)(id:String)(r:V->YG->Hp->VK->Prop):Prop:=
 ∀(jb:YC) (s:Shared) (U : St) (H:Hp) (x:V) (xs:YG) (v:Value) (us:YE) (Q:VK),H^^^s->RelV x v->Vals xs us->r x xs H Q ->
  ‹X› (call (.builtin id) (v::us)) (EP X jb U Q) X.xe s
section
variable{X:Cx}{a b:Expr}{ta tb:TE}{pos:Pos}
theorem Bm{r:R2}(j:IxR X r)(z:PE X a ta)(G:PE X b tb)(hs:BH b):PE X (.Subscript a b pos) (tOp r ta tb):=by
 intros Q I h;exact Subscript_ (yu z G I h λv u J x y H2 N O Y q=>j a b jb J U H2 x y v u Q N O Y q (hs _ _))
def CO(K:YD):R2:=λx y H Q=>∃p xs i v,x=.ref p/\y=.int i/\SqL K H p xs/\atI xs i=some v/\Q v H
def CM(K:YD):R2:=λx y H Q=>∃p xs i v,x=.ref p/\y=.int i/\SqT K H p xs/\atI xs i=some v/\Q v H
def IR:R2:=λx y H Q=>∃z i c,x=.str z/\y=.int i/\z.length<=sizeLine/\atI z.cps.toList i=some c/\Q (.str ⟨#[c]⟩) H
theorem Ds:IxR X (CO X.K):=by
 intro value ae jb s U H x y v u Q I Y ry h hs;obtain⟨p,xs,i,aa,rfl,rfl,hq,he,ab⟩:=h;cases Y;obtain⟨t,rfl⟩:=ry;obtain⟨N,r,pl,hz⟩:=I.list hq;obtain⟨j,h1,h2,h3,h4,h5⟩:=Y9 he;obtain⟨w,G,O⟩:=r.get h2;have hl:=r.length;have hn:=O1;have z:EP X jb U Q w s:=⟨aa,H,I,O,ab⟩;by_cases J:0<=i
 .have q:i.toNat=j:=by
   rw[seqIndex_of J h5] at h1;exact QbP h1
  exact item_listR pl.isList J 00 (by rw[q];simpa using G) z hs
 .have q:(i+(N.toArray.size:Int)).toNat=j:=by
   rw[seqIndex_neg 00 h4] at h1;rw[Qbl,<-hl];exact QbP h1
  exact subscriptTail_builtinR (x:=w) pl.isList.typeIs slot_list_getitem.lookup
   (wpAny_getItem_list_neg (Q:=λr s'=>r=w/\EP X jb U Q r s') pl.isList 00 (by rw[Qbl] <;> lia) 00 (by rw[q];simpa using G) ⟨rq,z⟩) hs
theorem BX:IxR X (CM X.K):=by
 intro value af jb s U H x y v u Q I z G h hs;obtain⟨p,xs,i,aa,rfl,rfl,J,N,ab⟩:=h;cases z;obtain⟨t,rfl⟩:=G;obtain⟨ag,r,pl,hz⟩:=I.tuple J;obtain⟨ae,h1,h2,h3,h4,h5⟩:=Y9 N;obtain⟨w,O,j⟩:=r.get h2;have Y:=r.length;have hn:=O1;have q:EP X jb U Q w s:=⟨aa,H,I,j,ab⟩;exact subscriptTail_builtinR (x:=w) pl.typeIs slot_tuple_getitem.lookup
  (getItem_tuple (j:=ae) (Q:=λr s'=>r=w/\EP X jb U Q r s') pl 00 00 (by rw[Qbl,<-Y];exact h1) (by simpa using O) ⟨rq,q⟩) hs
theorem DV:IxR X IR:=by
 intro value aa jb s U H x y v u Q I j G h hs;obtain⟨z,i,c,rfl,rfl,hz,J,q⟩:=h;obtain⟨t,rfl⟩:=j;obtain⟨t',rfl⟩:=G;obtain⟨ab,h1,h2,h3,N,O⟩:=Y9 J;have Y:z.cps.toList.length=z.length:=by simp[Str.length]
 rw[Y] at h1 N O;have hn:=O1;exact tail_any (typeIs_str s z t) slot_str_getitem.lookup (getItem_str (c:=c) (by
  have e1:decide (i < -(2 ^ 63:Int))=false:=QbO 00;have e2:decide (i ≥ 2 ^ 63)=false:=QbO 00;rw[e1,e2,Qco]) (by rw[h1];simpa using h2) {.str ⟨#[c]⟩,H,I.tok _,⟨_,rq⟩,q}) hs
theorem nC(q:YE)(n j:Nat)(u:Value):Obj.mapSeq (·.setIfInBounds j u) { cls:=.type "list",data:=.seq q.toArray n }={ cls:=.type "list",data:=.seq (q.set j u).toArray n }:=by
 simp[Obj.mapSeq]
theorem Inv.lst{jb:YC}{U : St}{H:Hp}{s:Shared}{p:Addr}{xs:YG}(I:H^^^s)(h:H p=some (.lst xs)) :
  ∃(j:YE) (n:Nat),Vals xs j/\s.heap.get? p=some { cls:=.type "list",data:=.seq j.toArray n }/\xs.length<=sizeLine:=by
 obtain⟨z,j,n,r,e⟩:=I.hok p _ h;exact⟨j,n,r,e,z⟩
theorem Inv.DJ{jb:YC}{U : St}{H:Hp}{s:Shared}{p:Addr}{xs ys:YG}{z its':YE}{n j:Nat}{f:Obj->Obj}(I:H^^^s)(h:H p=some (.lst xs))
  (J:s.heap.get? p=some { cls:=.type "list",data:=.seq z.toArray n }) (G:f { cls:=.type "list",data:=.seq z.toArray n }={ cls:=.type "list",data:=.seq its'.toArray j }) (r:Vals ys its') (N:ys.length<=sizeLine) (t:Nat) :
  Inv X jb U (upd H p (.lst ys)) { s with heap:=s.heap.update p f,toks:=t }:=by
 have e:(s.heap.update p f).get? p=some { cls:=.type "list",data:=.seq its'.toArray j }:=by
  rw[QaD f J (by rw[G] <;> rfl),G]
 refine I.write (x:=p) (e:=p) (by rw[h];trivial) (.inl rfl) (λb u O q=>(Qaz _ _ (Ne.symm O)).trans q) ⟨_,e⟩ ?_;exact⟨N,its',j,r,e⟩
def F3:V->V->V->Hp->(Hp->Prop)->Prop:=λo i v H Q=>∃p xs k j,o=.ref p/\i=.int k/\H p=some (.lst xs)/\ixN xs.length k=some j/\Q (upd H p (.lst (xs.set j v)))
theorem set_list:Fu X F3:=by
 intros o i v ov iv u Q aa ro ri rv h;obtain⟨p,xs,k,j,rfl,rfl,J,hj,ab⟩:=h;cases ro;obtain⟨t,rfl⟩:=ri;obtain⟨I,n,r,q,hz⟩:=aa.lst J;obtain⟨h1,h2,N,O⟩:=jY hj;have z:=r.length;have hn:=O1;have Y:Inv X jb U (upd H p (.lst (xs.set j v))) { s with heap:=s.heap.update p (Obj.mapSeq (·.setIfInBounds j u)) }:=
  aa.DJ J q (nC I n j u) (r.set rv j) (by rw[List.length_set];exact hz) s.toks
 by_cases h0:0<=k
 .have G:k.toNat=j:=by
   rw[seqIndex_of h0 O] at h1;exact QbP h1
  exact PySem.W.ki_setAt q h0 00 (by rw[Qbl,<-z];exact O) (by rw[G];exact⟨_,Y,ab⟩)
 .have G:(k+(I.toArray.size:Int)).toNat=j:=by
   rw[seqIndex_neg 00 N] at h1;rw[Qbl,<-z];exact QbP h1
  exact PySem.W.ki_setBack q 00 (by rw[Qbl,<-z];exact N) 00 (by rw[G];exact⟨_,Y,ab⟩)
theorem bR(lo hi:Option Int)(n:Nat):(sliceBounds lo hi none n).1=((HT.sIx n 0 lo:Nat):Int)/\(sliceBounds lo hi none n).2.1=((HT.sIx n n hi:Nat):Int)/\(sliceBounds lo hi none n).2.2=1:=by
 refine{?_,?_,rq}
 .cases lo with
  | none=>simp[sliceBounds,HT.sIx]
  | some i=>
   simp only[sliceBounds,HT.sIx,Option.getD_none,show (1:Int) > 0 by decide,if_true];by_cases h:i < 0
   .simp only[h,if_true] <;> lia
   .simp only[h,if_false] <;> lia
 .cases hi with
  | none=>simp[sliceBounds,HT.sIx]
  | some i=>
   simp only[sliceBounds,HT.sIx,Option.getD_none,show (1:Int) > 0 by decide,if_true];by_cases h:i < 0
   .simp only[h,if_true] <;> lia
   .simp only[h,if_false] <;> lia
theorem ZX(j:YE)(lo hi:Option Int):slicePick j.toArray lo hi none=((j.drop (HT.sIx j.length 0 lo)).take (HT.sIx j.length j.length hi - HT.sIx j.length 0 lo)).toArray:=by
 obtain⟨h1,h2,q⟩:=bR lo hi j.toArray.size;unfold slicePick;rw[h1,h2,q];simp only[sliceRange_one,pick_run,Qbl] <;> rfl
def IQ(K:YD):V->Option Int->Option Int->Hp->VK->Prop:=λx lo hi H Q=>∃a xs,x=.ref a/\SqL K H a xs/\∀p,H p=none->Q (.ref p) (upd H p (.lst (JM xs lo hi)))
theorem zW:SlR X (IQ X.K):=by
 intros x v vl vu lo hi sl Q I G hs pl J h;obtain⟨a,xs,rfl,N,q⟩:=h;cases G;obtain⟨Y,r,j,O⟩:=I.list N;have z:=r.length;refine{"list",_,slot_list_getitem.lookup,j.isList.typeIs,?_};refine wpAny_getItem_list_slice j.isList hs pl J .none 04 ?_ (by rw[Qbl] <;> lia);rw[ZX,<-z];refine{.ref ∅,_,I.laid (t':=s.toks) (o:=.lst (JM xs lo hi)) (λb ob q=>Qax _ q) (QcA _) ?_,rq,q _ (I.hok.fresh (QcA _))};exact{Qcs (Vj xs lo hi) O,_,0,(r.drop (HT.sIx xs.length 0 lo)).take (HT.sIx xs.length xs.length hi - HT.sIx xs.length 0 lo),QaM _ rfl}
def Lw:V->Bool
 | .non=>true
 | .bl _=>true
 | .int _=>true
 | .str _=>true
 | _=>false
def eqV:V->V->Bool
 | .non,.non=>true
 | .bl a,.bl b=>a == b
 | .bl a,.int b=>(if a then 1 else 0) == b
 | .int a,.bl b=>a == (if b then 1 else 0)
 | .int a,.int b=>a == b
 | .str a,.str b=>a == b
 | _,_=>false
theorem E4{A:Around}{s:Shared}{y x:V}{u v:Value}(z:RelV y u)(j:RelV x v)(I:Lw y=true)(G:Lw x=true):SeqAt.EqAt A s u v (eqV y x):=by
 cases y with
 | non=>
  cases z;cases x with
  | non=>cases j;exact SeqAt.EqAt.same _
  | bl b=>cases j;exact SeqAt.EqAt.none_bool b
  | int b=>obtain⟨t,rfl⟩:=j;exact SeqAt.EqAt.none_int b t
  | str b=>obtain⟨t,rfl⟩:=j;exact SeqAt.EqAt.none_str b t
  | _=>exact absurd (show false=true from G) QaX
 | bl a=>
  cases z;cases x with
  | non=>cases j;exact SeqAt.EqAt.bool_none a
  | bl b=>cases j;exact SeqAt.EqAt.bool_bool a b
  | int b=>obtain⟨t,rfl⟩:=j;exact SeqAt.EqAt.bool_int a b t
  | str b=>obtain⟨t,rfl⟩:=j;exact SeqAt.EqAt.bool_str a b t
  | _=>exact absurd (show false=true from G) QaX
 | int a=>
  obtain⟨q,rfl⟩:=z;cases x with
  | non=>cases j;exact SeqAt.EqAt.int_none a q
  | bl b=>cases j;exact SeqAt.EqAt.int_bool a q b
  | int b=>obtain⟨t,rfl⟩:=j;exact SeqAt.EqAt.int_int a q b t
  | str b=>obtain⟨t,rfl⟩:=j;exact SeqAt.EqAt.int_str a q b t
  | _=>exact absurd (show false=true from G) QaX
 | str a=>
  obtain⟨q,rfl⟩:=z;cases x with
  | non=>cases j;exact SeqAt.EqAt.str_none a q
  | bl b=>cases j;exact SeqAt.EqAt.str_bool a q b
  | int b=>obtain⟨t,rfl⟩:=j;exact SeqAt.EqAt.str_int a q b t
  | str b=>obtain⟨t,rfl⟩:=j;exact SeqAt.EqAt.str_str a q b t
  | _=>exact absurd (show false=true from G) QaX
 | _=>exact absurd (show false=true from I) QaX
def eqU(x:V)(u:Value):Bool:=match u with
 | .none=>eqV .non x
 | .bool b=>eqV (.bl b) x
 | .int i _=>eqV (.int i) x
 | .str z _=>eqV (.str z) x
 | _=>false
theorem rQ{x y:V}{u:Value}(r:RelV y u)(f:Lw y=true):eqU x u=eqV y x:=by
 cases y with
 | non=>cases r;rfl
 | bl b=>cases r;rfl
 | int i=>obtain⟨t,rfl⟩:=r;rfl
 | str z=>obtain⟨t,rfl⟩:=r;rfl
 | _=>exact absurd (show false=true from f) QaX
theorem QW{x:V}:∀{xs:YG} {us:YE},Vals xs us->xs.all Lw=true->us.any (eqU x)=xs.any λy=>eqV y x
 | _,_,.nil,_=>rfl
 | y::xs,u::us,.cons r t,f=>by
  rw[List.all_cons,QbF] at f;rw[Qcl,Qcl,rQ r f.1,QW t f.2]
theorem OJ{A:Around}{s:Shared}{x:V}{v:Value}(q:RelV x v)(z:Lw x=true):∀{xs:YG} {us:YE},Vals xs us->xs.all Lw=true->∀u∈us,SeqAt.EqAt A s u v (eqU x u)
 | _,_,.nil,_=>λu j=>by cases j
 | y::xs,u::us,.cons r t,f=>λG j=>by
  rw[List.all_cons,QbF] at f;rcases Qcg.mp j with rfl | j
  .rw[rQ r f.1];exact E4 r q f.1 z
  .exact OJ q z t f.2 G j
def inV(x:V)(xs:YG):Bool:=xs.any λy=>eqV y x
def rIn(K:YD)(j:Bool):R2:=λx y H Q=>∃p xs,y=.ref p/\(SqL K H p xs\/SqT K H p xs)/\Lw x=true/\xs.all Lw=true/\Q (.bl (if j then !inV x xs else inV x xs)) H
theorem S6:OpR X (compareOp .In) (rIn X.K false):=by
 intros x y v u Q I G N h;obtain⟨p,xs,rfl,z,J,fs,q⟩:=h;cases N;rcases z with z | z
 .obtain⟨j,r,pl,O⟩:=I.list z;refine SeqAt.in_listAt (eqU x) pl.isList (λw hw=>OJ G J r fs w (by simpa using hw)) {.bl _,H,I,rq,?_};rw[show j.toArray.any (eqU x)=j.any (eqU x) by simp,QW r fs];exact q
 .obtain⟨j,r,pl,O⟩:=I.tuple z;refine SeqAt.in_tupleAt (eqU x) pl (λw hw=>OJ G J r fs w (by simpa using hw)) {.bl _,H,I,rq,?_};rw[show j.toArray.any (eqU x)=j.any (eqU x) by simp,QW r fs];exact q
theorem dw:OpR X (compareOp .NotIn) (rIn X.K true):=by
 intros x y v u Q I G N h;obtain⟨p,xs,rfl,z,J,fs,q⟩:=h;cases N;rcases z with z | z
 .obtain⟨j,r,pl,O⟩:=I.list z;refine SeqAt.notIn_listAt (eqU x) pl.isList (λw hw=>OJ G J r fs w (by simpa using hw)) {.bl _,H,I,rq,?_};rw[show j.toArray.any (eqU x)=j.any (eqU x) by simp,QW r fs];exact q
 .obtain⟨j,r,pl,O⟩:=I.tuple z;refine SeqAt.notIn_tupleAt (eqU x) pl (λw hw=>OJ G J r fs w (by simpa using hw)) {.bl _,H,I,rq,?_};rw[show j.toArray.any (eqU x)=j.any (eqU x) by simp,QW r fs];exact q
theorem Bl:DN X (.builtin "len") (λxs H Q=>∃p ys,xs=[.ref p]/\(SqL X.K H p ys\/SqT X.K H p ys)/\Q (.int ys.length) H):=by
 intros xs Y Q I r h;obtain⟨p,ys,rfl,j,q⟩:=h;obtain⟨u,rfl,N⟩:=vals1 r;cases N;have hn:=O1;rcases j with j | j
 .obtain⟨J,G,pl,O⟩:=I.list j;have z:=G.length;exact Calls.call_len_list pl.isList (by simp only[Qbl] <;> lia) {.int ys.length,H,I.tok _,{s.toks+1,by rw[Qbl,z]},q}
 .obtain⟨J,G,pl,O⟩:=I.tuple j;have z:=G.length;exact len_tuple pl (by simp only[Qbl] <;> lia) {.int ys.length,H,I.tok _,{s.toks+1,by rw[Qbl,z]},q}
theorem gC:DN X (.builtin "len") (λxs H Q=>∃z,xs=[.str z]/\z.length<=sizeLine/\Q (.int z.length) H):=by
 intros xs j Q I r h;obtain⟨z,rfl,G,q⟩:=h;obtain⟨u,rfl,t,rfl⟩:=vals1 r;have J:=O1;exact len_str 00 {.int z.length,H,I.tok _,⟨_,rq⟩,q}
theorem gB:DN X (.type "list") (λxs H Q=>∃p ys,xs=[.ref p]/\(SqL X.K H p ys\/SqT X.K H p ys)/\∀l,H l=none->Q (.ref l) (upd H l (.lst ys))):=by
 intros xs us Q I r h;obtain⟨p,ys,rfl,G,ae⟩:=h;obtain⟨u,rfl,rx⟩:=vals1 r;cases rx;have aa:∀(j:YE),Vals ys j->ys.length<=sizeLine->∀(h':Heap) (q:Nat),(∀b o',s.heap.get? b=some o'->h'.get? b=some o') ->
   h'.get? ∅=some { cls:=.type "list",dict:=none,data:=.seq j.toArray q,slots:=#[] }->EP X jb U Q (.ref ∅) { s with heap:=h' }:=λj z J h' q N e=>
  {.ref ∅,_,I.laid (t':=s.toks) N (QcA _) (show Bs X.prog X.w _ h' _ (.lst ys) from⟨J,j,q,z,e⟩),rq,ae _ (I.hok.fresh (QcA _))}
 rcases G with G | G
 .obtain⟨j,z,pl,J⟩:=I.list G;have ab:=z.length;obtain⟨o,O,hc,n,Y⟩:=pl.isList;exact call_list_seq p (.inl rfl) O hc Y (λh' q N e=>aa j z J h' q N e) (by simp only[Qbl] <;> lia)
 .obtain⟨j,z,pl,J⟩:=I.tuple G;have ab:=z.length;obtain⟨o,O,hc,n,Y⟩:=pl;exact call_list_seq p (.inr rfl) O hc Y (λh' q N e=>aa j z J h' q N e) (by simp only[Qbl] <;> lia)
theorem DG:DN X (.type "tuple") (λxs H Q=>∃p ys,xs=[.ref p]/\((SqL X.K H p ys/\∀l,H l=none->Q (.ref l) (upd H l (.tup ys)))\/(SqT X.K H p ys/\Q (.ref p) H))):=by
 intros xs us Q I r h;obtain⟨p,ys,rfl,h⟩:=h;obtain⟨u,rfl,O⟩:=vals1 r;cases O;rcases h with⟨z,q⟩|⟨z,q⟩
 .obtain⟨j,G,pl,J⟩:=I.list z;have aa:=G.length;refine call_tuple_list pl.isList (λh' Y=>?_) (by simp only[Qbl] <;> lia);have N:Inv X jb U H { s with heap:=h' }:=I.kept (t':=s.toks) Y;have I2:Inv X jb U (upd H h'.objs.size (.tup ys)) { s with heap:=h'.push { cls:=.type "tuple",data:=.seq j.toArray } }:=
   N.laid (t':=s.toks) (λb o e=>Qax _ e) (QcA _) (show Bs X.prog X.w _ _ _ (.tup ys) from⟨J,j,G,IsTup.new _ _⟩)
  exact{.ref h'.objs.size,_,I2,rq,q _ (N.hok.fresh (QcA _))}
 .obtain⟨j,G,pl,J⟩:=I.tuple z;exact call_tuple_same pl {.ref p,H,I,rq,q}
def tyV(K:YD)(T:String)(x:V)(H:Hp):Prop:=match x with
 | .str _=>T="str"
 | .int _=>T="int"
 | .ref p=>(T="list"/\∃xs,SqL K H p xs)\/(T="tuple"/\∃o,K.lookup p=some o/\o.cls=.type "tuple"/\o.dict=none) \/
   (T="dict"/\((∃kvs,H p=some (.dK kvs))\/∃kvs,H p=some (.dT kvs)))\/(T="set"/\∃S n,H p=some (.set S n))
 | _=>False
theorem B0{jb:YC}{U : St}{H:Hp}{s:Shared}{T:String}{x:V}{v:Value}(I:H^^^s)(r:RelV x v)(ty:tyV X.K T x H) :
  s.TypeIs v T/\∀a,v=.ref a->∃ob,s.heap.get? a=some ob/\ob.dict=none:=by
 cases x with
 | str z=>
  obtain⟨t,rfl⟩:=r;cases (show T="str" from ty)
  exact{typeIs_str s z t,λ_ e=>nomatch e}
 | int i=>
  obtain⟨t,rfl⟩:=r;cases (show T="int" from ty)
  exact{typeIs_int s i t,λ_ e=>nomatch e}
 | ref p=>
  cases r;rcases ty with⟨rfl,xs,G⟩|⟨rfl,o,j,hc,q⟩|⟨rfl,j⟩|⟨rfl,S,n,j⟩
  .obtain⟨J,_,pl,_⟩:=I.list G;refine⟨pl.isList.typeIs,λa e=>?_⟩;cases e;obtain⟨o,n,e,c,q,_⟩:=pl;exact⟨o,e,q⟩
  .refine{⟨o,I.kIn p o j,hc⟩,λa e=>?_};cases e;exact⟨o,I.kIn _ o j,q⟩
  .have z:∃o,s.heap.get? p=some o/\o.ExactDict:=by
    rcases j with⟨kvs,j⟩|⟨kvs,j⟩
    .obtain⟨_,_,_,_,o,_,_,e,ex,_⟩:=I.hok p _ j;exact⟨o,e,ex⟩
    .obtain⟨_,_,_,_,o,_,_,e,ex,_⟩:=I.hok p _ j;exact⟨o,e,ex⟩
   obtain⟨o,e,ex⟩:=z;refine{⟨o,e,ex.1⟩,λa e2=>?_};cases e2;exact⟨o,e,ex.2.1⟩
  .obtain⟨o,_,_,_,e,ex,_⟩:=I.hok p _ j;refine{⟨o,e,ex.1⟩,λa e2=>?_};cases e2;exact⟨o,e,ex.2.1⟩
 | _=>exact False.elim ty
def tBM(K:YD)(T:String)(r:V->YG->Hp->VK->Prop)(to:TE)(t:TA):TE:=fun U H Q=>to U H λx H1=>tyV K T x H1/\t U H1 λxs H2=>r x xs H2 Q
variable{o e:Expr}{es:YJ}{to:TE}{t:TA}{name:Str}{apos cpos:Pos}{T id:String}{r:V->YG->Hp->VK->Prop}
theorem Cq(Y:PlainAttrs T)(slot:Slot T name id)(O:typeOf (.builtin id)=pure (.type "method_descriptor"))(hm:MtR X id r)(ho:PE X o to)(ha:PA X (e::es) t)
  (I:attributeBase o name X.env (eval o X.env)=eval o X.env:=by rfl)
  (N:((backTo cpos (starEach (e::es) X.env)).all (λx=>!x.1)&&(backToKw cpos (keywordEach [] X.env)).all (λx=>x.1.isSome)
  &&decide ((e::es).length+([]:List Keyword).length+(if ([]:List Keyword).isEmpty then 0 else 1) < 30))=true:=by rfl)
  (J:(apos.endLine == cpos.line)=true:=by rfl) (hs:starEach (e::es) X.env=(false,eval e X.env)::starEach es X.env:=by rfl) (G:(backTo cpos (starEach es X.env)).any (·.1)=false:=by rfl) :
  PE X (.Call (.Attribute o name apos) (e::es) [] cpos) (tBM X.K T r to t):=by
 intros Q aa h;refine wpAny_Call_method_late I N J rfl (thn (ho jb s U H _ aa h) λv s1 zz=>?_);obtain⟨x,H1,j,q,ty,q1⟩:=zz;obtain⟨h1,h2⟩:=B0 j q ty;refine⟨T,id,Y,slot,O,h1,h2,?_⟩;have z:=ha cpos jb s1 U H1 _ j q1;rw[hs] at z ⊢;refine Calls.callWith_builtin (by show (false || (backTo cpos (starEach es X.env)).any (·.1))=false;rw[G] <;> rfl) (Calls.evalArgs_plain ?_);refine thn z λus s2 zz=>?_;obtain⟨vs,H2,I2,r2,q2⟩:=zz;exact hm jb s2 U H2 x vs v us Q I2 q r2 q2
end
def MtM(X:Cx)(id:String)(r:V->YG->Hp->VK->Prop):Prop:=
 ∀(jb:YC) (s:Shared) (U : St) (H:Hp) (x:V) (xs:YG) (v:Value) (us:YE) (Q:VK),H^^^s->RelV x v->Vals xs us->r x xs H Q ->
  ‹X› (call (.builtin id) (v::us)) (EP X jb U Q) X.xe s
theorem Vals.one:∀{x:V} {us:YE},Vals [x] us->∃u,us=[u]/\RelV x u
 | _,_,.cons r .nil=>⟨_,rfl,r⟩
theorem Vals.zero:∀{us:YE},Vals [] us->us=[]
 | _,.nil=>rfl
theorem Vals.dropLast{xs:YG}{us:YE}(h:Vals xs us):Vals xs.dropLast us.dropLast:=by
 induction h with
 | nil=>exact .nil
 | cons r t j=>
  cases t with
  | nil=>exact .nil
  | cons q z=>exact .cons r j
theorem Vals.eraseIdx:∀{xs:YG} {us:YE} (i:Nat),Vals xs us->Vals (xs.eraseIdx i) (us.eraseIdx i)
 | _,_,_,.nil=>.nil
 | _,_,0,.cons _ t=>t
 | _,_,i+1,.cons r t=>.cons r (Vals.eraseIdx i t)
theorem Zv{j : Type}:∀(l:List j) (i:Nat),(l.eraseIdx i).length<=l.length
 | [],_=>QcA _
 | _::_,0=>QcF _
 | _::r,i+1=>Nat.succ_le_succ (Zv r i)
section
variable{X:Cx}{jb:YC}{U : St}{H:Hp}{s:Shared}{l b:Addr}{xs ys zs:YG}
theorem Inv.wz{j its':YE}{n:Nat}{f:Array Value->Array Value}{t':Nat}(I:H^^^s)(z:H l=some (.lst xs))
  (e:s.heap.get? l=some { cls:=.type "list",data:=.seq j.toArray n }) (G:f j.toArray=its'.toArray) (J:Vals ys its') (N:ys.length<=sizeLine) :
  Inv X jb U (upd H l (.lst ys)) { s with heap:=s.heap.update l (Obj.mapSeq f),toks:=t' }:=by
 have q:=PySem.IsL.update e f;rw[G] at q;refine I.write (x:=l) (e:=l) (by rw[z];exact trivial) (.inl rfl) (λb' u O Y=>(Qaz s.heap (Obj.mapSeq f) (Ne.symm O)).trans Y) ⟨_,q⟩ ?_;exact⟨N,its',_,J,q⟩
theorem Inv.Kb{j:YE}{t':Nat}(I:H^^^s)(z:Vals ys j)(G:ys.length<=sizeLine) :
  Inv X jb U (upd H ∅ (.lst ys)) { s with heap:=s.heap.push { cls:=.type "list",data:=.seq j.toArray },toks:=t' }:=
 I.laid (λ_ _ q=>Qax _ q) (QcA _) ⟨G,j,0,z,QaM _ rfl⟩
theorem Inv.fresh(I:H^^^s):H ∅=none:=I.hok.fresh (QcA _)
theorem Inv.Tc(I:H^^^s)(q:H l=some (.lst xs)):xs.length<=sizeLine/\∃(j:YE) (n:Nat),Vals xs j/\xs.length=j.length/\s.heap.get? l=some { cls:=.type "list",data:=.seq j.toArray n }:=by
 obtain⟨z,j,n,r,e⟩:=I.hok l _ q;exact⟨z,j,n,r,r.length,e⟩
theorem vX{n:Nat}(h:n<=sizeLine):Builtin.List.listTooLong n=false:=by
 unfold Builtin.List.listTooLong;exact QbO 00
end
section
variable{X:Cx}
def Au:V->YG->Hp->VK->Prop:=λx vs H Q=>∃l xs y,x=.ref l/\vs=[y]/\H l=some (.lst xs)/\xs.length < sizeLine/\Q .non (upd H l (.lst (xs++[y])))
theorem BP:MtM X "list.append" Au:=by
 intros x O v Y Q I G J h;obtain⟨l,xs,y,rfl,rfl,z,hz,q⟩:=h;cases G;obtain⟨u,rfl,N⟩:=J.one;obtain⟨aa,j,n,r,hl,e⟩:=I.Tc z;refine call_meets F.slot_list_append ⟨_,e,rq⟩ F.entry_list_append (F.args_list_append_2 _ _) (PySem.list_append l j.toArray n u (by rw[Qbl];lia)) ⟨e,?_⟩;refine{.non,_,I.wz (its':=j++[u]) z e 04 (r.append (.cons N .nil)) ?_,rq,q};rw[QaV,QaE];lia
def Ap:V->YG->Hp->VK->Prop:=λx vs H Q=>∃l b xs zs,x=.ref l/\vs=[.ref b]/\H l=some (.lst xs)/\H b=some (.lst zs)/\xs.length+zs.length<=sizeLine/\Q .non (upd H l (.lst (xs++zs)))
theorem FT:MtM X "list.extend" Ap:=by
 intros x vs v us Q I G J h;obtain⟨l,b,xs,zs,rfl,rfl,q,N,hz,aa⟩:=h;cases G;obtain⟨u,rfl,O⟩:=J.one;cases O;obtain⟨ae,its,n,r,hl,e⟩:=I.Tc q;obtain⟨z2,j,Y,r2,ab,e2⟩:=I.Tc N;have z:its.toArray.size+j.toArray.size<=sizeLine:=by rw[Qbl,Qbl];lia
 have GY:¬(!its.toArray.isEmpty&&Builtin.List.listTooLong (its.toArray.size+j.toArray.size))=true:=by
  rw[vX z,Bool.and_false];exact QaX
 refine call_meets F.slot_list_extend ⟨_,e,rq⟩ F.entry_list_extend (F.args_list_extend_2 _ _)
  (AutoSeq1.list_extend_list_list_0 l its.toArray n b j.toArray Y GY (by rw[Qbl];lia) 00) ⟨e,e2,?_⟩
 refine{.non,_,I.wz (its':=its++j) q e 04 (r.append r2) ?_,rq,aa};rw[QaV];lia
def CL:V->YG->Hp->VK->Prop:=λx vs H Q=>∃l xs i k y,x=.ref l/\vs=[.int i]/\H l=some (.lst xs)/\-(2 ^ 63)<=i/\i < 2 ^ 63/\seqIndex? i xs.length=some k/\xs[k]?=some y/\Q y (upd H l (.lst (xs.eraseIdx k)))
theorem dY:MtM X "list.pop" CL:=by
 intros x vs v us Q I G J h;obtain⟨l,xs,i,k,y,rfl,rfl,q,h1,h2,N,O,aa⟩:=h;cases G;obtain⟨u,rfl,Y⟩:=J.one;obtain⟨t,rfl⟩:=Y;obtain⟨ab,j,n,r,hl,e⟩:=I.Tc q;obtain⟨w,hw,z⟩:=r.get O;refine call_meets F.slot_list_pop ⟨_,e,rq⟩ F.entry_list_pop (F.args_list_pop_2 _ _)
  (MeetsSeq.list_pop_at l j.toArray n i t k w (fitsIndex_both h1 h2) (by rw[Qbl,<-hl];exact N) (by rw[<-Array.getElem?_toList];exact hw) (by rw[Qbl];lia)) ⟨e,?_⟩
 refine⟨y,_,I.wz (its':=j.eraseIdx k) q e ?_ (r.eraseIdx k) ?_,z,aa⟩
 .show j.toArray.eraseIdxIfInBounds k=(j.eraseIdx k).toArray;rw[List.eraseIdxIfInBounds_toArray]
 .have:=Zv xs k;lia
def IS:R2:=λx y H Q=>∃l b xs zs,x=.ref l/\y=.ref b/\H l=some (.lst xs)/\H b=some (.lst zs)/\xs.length+zs.length<=sizeLine/\∀p,H p=none->Q (.ref p) (upd H p (.lst (xs++zs)))
theorem qw:OpR X (binaryOp .Add) IS:=by
 intros x y v u Q I z G h;obtain⟨l,b,xs,zs,rfl,rfl,J,N,hz,aa⟩:=h;cases z;cases G;obtain⟨ae,q,n,r,hl,e⟩:=I.Tc J;obtain⟨z2,j,n2,O,ab,e2⟩:=I.Tc N;refine PySem.P.add_list e e2 ?_ (by rw[Qbl,Qbl];lia);have Y:q.toArray++j.toArray=(q++j).toArray:=by simp
 rw[Y];exact{.ref _,_,I.Kb (t':=s.toks) (r.append O) (by rw[QaV];lia),rq,aa _ I.fresh}
end
section
variable{prog:Program}{w:World}{A:Around}{E:YA}{s:Shared}
set_option maxRecDepth 100000 in
end
section
variable{X:Cx}
end
end L2
namespace Att
open PySem PySem.W PySem.Calls PyProof.Rows
theorem Xj{P:Params}{h:Heap}:∀(j:List Int) (vs:YE),WellAll P h vs (j.map WData.int)->IntsAre vs j:=by
 intro j
 induction j with
 | nil=>
  intro vs w;rw[Qcx] at w;cases w;exact .nil
 | cons n j q=>
  intro vs w;rw[Qch] at w;cases w with
  | cons a b=>
   cases a;exact .cons _ _ (q _ b)
theorem pU{l:OpenLaw}{n:Nat}(hn:l.most=some n){P:Params}{h:Heap}{args:List WData}{G:YE}
  (I:l.row.toRowW.claim.pre args=true) (O:WellAll P h G args) :
  ∃a vs j,G=[Value.ref a]/\args=[WData.list (j.map WData.int)]/\h.get? a=some { cls:=.type "list",data:=.seq vs.toArray }/\IntsAre vs j/\j.length<=n:=by
 have Y:WShape.hasAll [] args [.list .int]=true:=(pre_splitW I).1;have hc:l.pre.holds [] { args:=args }=true:=(pre_splitW I).2;obtain⟨d,r,rfl,h1,h2⟩:=hasAllW_cons Y;obtain rfl:=hasAllW_nil h2;obtain⟨xs,rfl,h3⟩:=hasW_list h1;obtain⟨j,rfl⟩:=items_int h3;have J:j.length<=n:=by
  unfold OpenLaw.pre at hc;have q:(WTm.not (.lt (.lit (.int (n:Int))) (.len (.arg 0)))).holds [] { args:=[.list (j.map .int)] }=true:=by
   have q:=(holds_andW hc).1;rw[hn] at q;exact q
  have z:=condW_of q (w_not (w_lt w_lit (w_len_list (w_arg rfl))));rw[QbJ] at z;refine Nat.le_of_not_lt λaa=>?_;have q':(n:Int) < ((j.length:Nat):Int):=by lia
  first
   | (rw[Qca q'] at z;exact absurd z 05)
   | (simp at z;lia)
 cases O with
 | cons w1 w2=>
  cases w2;cases w1 with
  | list ho N=>exact{_,_,j,rfl,rfl,ho,Xj j _ N,J}
theorem qb(l:OpenLaw)(args:List WData):l.row.toRowW.claim.post args (.bool true) args=true:=
 postW_of (r:=l.row.toRowW) (X:=(true == true))
  (show WShape.has [] (.bool true) .bool=true by first | rfl | decide | simp[WShape.has,WShape.arms,WShape.armsAll])
  (show (WTm.eq .res (.lit (.bool true))).value [] { args:=args,res:=some (.bool true),after:=args }=some (.bool (true == true)) from w_eq_bool (w_res rfl) w_lit) rfl
theorem jk{l:OpenLaw}{n:Nat}{q:Program}{Y:YF}{XP:(YB)->Heap->Prop}{YP:World->Heap->Prop}{d:DefRec}
  (hn:l.most=some n) (ag:d.params.defaults=[])
  (call:∀(w:World) (s₀ j : Shared) (mg N:YB) (z:Addr) (o:Obj) (O G J:Value) (a:Addr) (vs:YE) (I:List Int),
   Ground q Y [] XP w s₀ mg N j.heap->YP w j.heap ->
   j.heap.get? z=some o->o.data=.func (docDef d.name d.params d.body d.scope O G J)->j.heap.CodeRec G d.name->mg d.name=some (.ref z) ->
   j.heap.get? a=some { cls:=.type "list",data:=.seq vs.toArray }->IntsAre vs I->I.length<=n->j.gens=#[] ->
   codeAny (model l.prog w) callerA (.call (.ref z) {[.ref a],[]}) (λr s'=>r=.ok (.ret (.bool true))/\OldK j.heap s'.heap/\s'.os=j.os/\AllBare s'.gens) j) :
  WalkO q Y XP YP l.row.toRowW d [] (λf vs=>PySem.call f vs):=by
 intro w s₀ j mg N am an z o O G J dV kV ho hd ah hD ai hg args ao as ab ap ar al au;obtain rfl:dV=.none:=Dflts.none hD ag;obtain rfl:kV=.none:=Dflts.noKw hD;obtain⟨a,vs,I,rfl,rfl,ae,aa,af⟩:=pU hn ab al;refine enter_call (Qcw (call w s₀ j mg N z o O G J a vs I am an ho (fd_plain hd) ah ai ae aa af hg) λr s' hq=>?_);obtain⟨rfl,h2,h3,h4⟩:=hq;exact{.inl {.bool true,.bool true,[],rq,λ_=>rfl,.bool true,qb l _,λ_=>⟨List.Pairwise.nil,λ_ hm=>(nomatch hm)⟩},h2,h3,h4}
section
variable{prog:Program}{w:World}{A:Around}{E:YA}{s:Shared}{K:Frag}
def W8(h:Heap):Heap:={ h with objs:=#[] }
theorem Ni(h:Heap)(b:Addr):(W8 h).get? b=none:=by
 cases e:(W8 h).get? b with
 | none=>rfl
 | some o=>exact absurd (Qcp e) (QbW _)
theorem E2{h:Heap}{L:Addr}{m:YB}(n:h.Ns L m):Fr (W8 h) L h m:=
 ⟨n,λb o e=>(by rw[Ni] at e;cases e),QcB _⟩
end
end Att
namespace L2
open PySem PySem.Spec PyProof.Rows
theorem RV:∀{vs:YE} {j:List Int},IntsAre vs j->Vals (j.map V.int) vs
 | _,_,.nil=>.nil
 | _,_,.cons n t h=>.cons ⟨t,rfl⟩ (RV h)
def Only(H:Hp):Prop:=∀b,H b=none\/∃o xs,H b=some (.frz o (.lst xs))
theorem wC{P:Program}{w:World}{K:YD}{mg mb:YB}{CX:CXT}{k:Nat}{fa a:Addr}{fd:FuncData}{x:Str}{sp:Sp}{j : Shared}{vs:YE}{I:List Int}
  (KX:K.In j.heap) (ab:j.heap.Ns mainGlobals mg) (G:j.heap.Ns builtinsNs mb) (an:∀x:Str,x≠"__name__"->mb x=bootBuiltins x) (ah:j.heap.NoLimit) (hg:j.gens=#[])
  (Y:j.heap.get? a=some { cls:=.type "list",data:=.seq vs.toArray }) (hi:IntsAre vs I) (hl:I.length<=sizeLine) (hr:Cd k callerA)
  (F:∀base:Heap,K.In base->base.Ns mainGlobals mg->Gy P w K mg base CX k fa fd [x] sp) (ag:∀(s:Shared) (u:Value),BindsTo s fd {[u],[]} [(x,u)])
  (ao:∀H:Hp,Only H->SqL K H a (I.map V.int)->sp [.ref a] H (λv _=>v=.bl true) λ_ _ _=>False)
  (ap:∀H e s',CX [] H j (λ_ _ _=>False) e s'->False) :
  codeAny (model P w) callerA (.call (.ref fa) {[.ref a],[]}) (λr s'=>r=.ok (.ret (.bool true))/\OldK j.heap s'.heap/\s'.os=j.os/\AllBare s'.gens) j:=by
 have rv:=RV hi;have ai:=hi.length;have aa:∀H:Hp,Only H->SqL K H a (I.map V.int)->HOk P w H j.heap->(∀b,H b≠none->b=a)->(H a≠none->K.lookup a=none) ->
   codeAny (model P w) callerA (.call (.ref fa) {[.ref a],[]}) (λr s'=>r=.ok (.ret (.bool true))/\OldK j.heap s'.heap/\s'.os=j.os/\AllBare s'.gens) j:=by
  intro H hO hS ae hA hK;have lA:∀{b:Addr} {o:Obj},j.heap.get? b=some o->H b=none->(Rn j.heap H).get? b=some o:=λe n=>xP e n;have ar:∀{b:Addr} {o:Obj} {es:YK} {J:Nat},j.heap.get? b=some o->o.data=.dict es J->H b=none:=λ{b o es J} e d=>by
   cases q:H b with
   | none=>rfl
   | some u=>
    have e':b=a:=hA b (by rw[q];simp);subst e';rw[Y] at e;cases e;have d':Data.seq vs.toArray _=Data.dict es J:=d;cases d'
  have O:∀{b:Addr} {m:YB},j.heap.Ns b m->(Rn j.heap H).Ns b m:=λ{b m} ⟨o,es,J,e,d,r⟩=>⟨o,es,J,lA e (ar e d),d,r⟩;have af:K.In (Rn j.heap H):=λb o e=>lA (KX b o e) (by
   cases q:H b with
   | none=>rfl
   | some u=>
    have e':b=a:=hA b (by rw[q];simp);subst e';rw[hK (by rw[q];simp)] at e;cases e)
  have hM:Mod K mg (Rn j.heap H):=⟨af,O ab,⟨mb,O G,an⟩,let ⟨mc,h1,h2⟩:=ah;⟨mc,O h1,h2⟩⟩;have e0:M6 P w K mg (Rn j.heap H) callerA [] j H:=⟨rq,hM,λb o e=>AM e,Nat.le_of_eq (qY _ _),trivial,λb G=>absurd (show b∈([]:List Addr) from G) 04,ae,.of_eq hg⟩
  refine Qcw ((F _ af (O ab)).run callerA [] j H {[.ref a],[]} [.ref a] [.ref a] _ _ hr e0 (ag j (.ref a)) (.cons rfl .nil) (ao H hO hS)) λr s' h=>?_;cases r with
  | error e=>exact (ap H e s' h).elim
  | ok fl=>
   cases fl with
   | next=>exact False.elim h
   | brk=>exact False.elim h
   | cont=>exact False.elim h
   | ret u=>
    obtain⟨v,H',os,al,un,am,r',q⟩:=h;have q':v=.bl true:=q;subst q';obtain rfl:u=Value.bool true:=r';refine⟨rq,OldK.of_keep λb o e=>?_,os,al⟩;cases q:H b with
    | none=>exact un.keep b o e q (by intro z;exact absurd (show b∈([]:List Addr) from z) 04) 04
    | some u=>
     rcases hO b with z |⟨ob,xs,z⟩
     .rw[q] at z;cases z
     .have z2:=un.Ig b ob _ z;obtain⟨e1,_⟩:=ae b _ z;obtain⟨e2,_⟩:=am b _ z2;rw[e] at e1;cases e1;exact e2
 cases hk:K.lookup a with
 | some o=>
  have e:=KX a o hk;rw[Y] at e;cases e;refine aa (λ_=>none) (λ_=>.inl rfl) (.inr {_,vs.toArray,_,hk,rq,rq,rq,by rw[Qbl,ai];exact hl,by simpa using rv}) (λb u z=>by have N:(none:Option HO)=some u:=z;cases N) (λb z=>absurd rfl z) λz=>absurd rfl z
 | none=>
  refine aa (λb=>if b=a then some (.frz { cls:=.type "list",data:=.seq vs.toArray } (.lst (I.map V.int))) else none) (λb=>?_) (.inl (.inr {{ cls:=.type "list",data:=.seq vs.toArray },if_pos rfl})) (λb u z=>?_) (λb z=>?_) λ_=>hk
  .by_cases G:b=a
   .exact .inr {_,_,if_pos G}
   .exact .inl (if_neg G)
  .by_cases G:b=a
   .have N:=(if_pos G).symm.trans z;cases N;subst G;exact⟨Y,by rw[QbJ];exact hl,vs,_,rv,Y⟩
   .have N:=(if_neg G).symm.trans z;cases N
  .by_cases G:b=a
   .exact G
   .exact absurd (if_neg G) z
theorem zJ{l:PySem.W.OpenLaw}{n k:Nat}{q:Program}{O:YF}{XP:(YB)->Heap->Prop}{J:World->Heap->Prop}{d:DefRec}{K:Params->YD}{CX:World->CXT}{sp:World->Sp}{x:Str}
  (hn:l.most=some n) (ae:n<=sizeLine) (af:d.params.defaults=[]) (hr:Cd k callerA)
  (hY:∀(w:World) (h:Heap),J w h->(K w.params).In h)
  (F:∀(w:World) (mg:YB) (j:Addr) (h:Heap),(K w.params).In h->h.Ns mainGlobals mg->mg d.name=some (.ref j) ->
   ∃fd:FuncData,(∀(s:Shared) (u:Value),BindsTo s fd {[u],[]} [(x,u)]) /\
    ∀base:Heap,(K w.params).In base->base.Ns mainGlobals mg->Gy l.prog w (K w.params) mg base (CX w) k j fd [x] (sp w))
  (ag:∀(w:World) (H:Hp) (a:Addr) (z:List Int),z.length<=n->Only H->SqL (K w.params) H a (z.map V.int)->sp w [.ref a] H (λv _=>v=.bl true) λ_ _ _=>False)
  (ah:∀(w:World) (H:Hp) (s:Shared) (e:Value) (s':Shared),CX w [] H s (λ_ _ _=>False) e s'->False) :
  PySem.W.WalkO q O XP J l.row.toRowW d [] (λf vs=>PySem.call f vs):=by
 refine Att.jk hn af λw am aa mg mb j o pm cd an a vs z G al ho hd ao ai ab Y I hg=>?_;have N:=hY w _ al;obtain⟨fd,hb,hF⟩:=F w mg j _ N G.T.g ai;exact wC N G.T.g G.T.b G.T.builtins G.T.nolimit hg ab Y (Qcs I ae) hr hF hb (λH hO hS=>ag w H a z I hO hS) λH e s'=>ah w H aa e s'
def inClass(s:Stmt)(j:Nat):Stmt:=match s with
 | .ClassDef _ _ _ q _ _ _ _ _ _ _=>q.getD j (.Pass ⟨0,0,0,0⟩)
 | _=>.Pass ⟨0,0,0,0⟩
def Es(s:Stmt):Arguments:=match s with
 | .FunctionDef _ a _ _ _ _ _ _ _ _=>a
 | _=>{ posonlyargs:=[],args:=[],vararg:=none,kwonlyargs:=[],kw_defaults:=[],kwarg:=none,defaults:=[] }
def Dd(s:Stmt):List Stmt:=match s with
 | .FunctionDef _ _ b _ _ _ _ _ _ _=>b
 | _=>[]
def Ai(s:Stmt):Scope:=match s with
 | .FunctionDef _ _ _ _ _ _ sc _ _ _=>sc
 | _=>{ kind:=.function,names:=[],isGenerator:=false,isCoroutine:=false }
abbrev CX0:CXT:=λ_ _ _ _ _ _=>False
abbrev E0:XK:=λ_ _ _=>False
theorem aL{X:Cx}:Passes CX0 X E0:=λ_ _ _ _ _ _ _ h=>h.elim
structure Fun(K:YD)(x qual:Str)(st:Stmt)(f:Addr)(fd:FuncData):Prop where
 ex:∃(oc:Value) (od:Option Addr) (kV doc pm:Value) (an:Option Addr) (cdv ct:Value) (osl:YI),
  fd=fnOf x qual (Es st) (Dd st) (Ai st) .none kV doc pm an cdv ct/\K.lookup f=some ⟨oc,od,.func fd,osl⟩/\codeIn K cdv qual=true
 kp:keepIn K (.ref f)=true
variable{P:Program}{w:World}{K:YD}{mg:YB}{base:Heap}{op oe kd wk C:Addr}{hc c0 c1 c2 c3 c4 c5 c6 c7 c8 c9 c10 c11 c12:Addr}
theorem Fun.ok{x z:Str}{st:Stmt}{f:Addr}{fd:FuncData}{N ps:YF}{k:Nat}{sp:Sp}(F:Fun K x z st f fd)(S:Ay N ps (Ai st))(len:∀vs H Q E,sp vs H Q E->vs.length=ps.length)
  (G:∀(j:Value) (A:Around) (outer:List Env) (s:Shared) (H:Hp) (vs:YG) (Q:VK) (E:XK),Cd k (A.deeper (envOfC z (Ai st) ∅ f j))->sp vs H Q E ->
   ∃t,PSs (Lg CX0 P w K mg base N z (Ai st) f j A outer s H E).nox (Dd st) t/\t { nx:=λ_ H'=>Q .non H',rt:=Q } (start N vs) H):Gy P w K mg base CX0 (k+1) f fd ps sp:=by
 obtain⟨oc,od,kV,Y,pm,an,j,ct,aa,rfl,lk,I⟩:=F.ex;refine oO lk I S len λA outer s H vs Q E O J=>?_;obtain⟨t,h,q⟩:=G j A outer s H vs Q E O J;exact⟨t,h.nox,q⟩
theorem Fun.binds{x I:Str}{st:Stmt}{f:Addr}{fd:FuncData}{ps:YF}(F:Fun K x I st f fd)
  (h:∀(kV j z:Value) (G:Option Addr) (q ct:Value) (us:YE),us.length=ps.length->bindArgs (fnOf x I (Es st) (Dd st) (Ai st) .none kV j z G q ct) ⟨us,[]⟩=pure (ps.zip us)):Binds K fd ps []:=by
 obtain⟨O,Y,kV,j,z,G,q,ct,J,rfl,lk,N⟩:=F.ex;exact .all (h kV j z G q ct)
theorem Xm{x j:Str}{st:Stmt}{f:Addr}{N:Value}{O G:Option Addr}{J:YI}{kV z I q ct:Value}(l:K.lookup f=some ⟨N,O,.func (fnOf x j (Es st) (Dd st) (Ai st) .none kV z I G q ct),J⟩)
  (c:codeIn K q j=true) (k:keepIn K (.ref f)=true):Fun K x j st f (fnOf x j (Es st) (Dd st) (Ai st) .none kV z I G q ct):={⟨N,O,kV,z,I,G,q,ct,J,rq,l,c⟩,k}
theorem CJ{A:Around}{k:Nat}(j:Cd k A):A.units+1 < cLine:=Nat.lt_of_le_of_lt (Nat.add_le_add_left (by decide:1<=64) _) j.units
theorem Al{n:Nat}(h:n<=1000):n < sizeLine:=Nat.lt_of_le_of_lt h 05
section
variable{X:Cx}
theorem pv(i:Nat){x:Str}{pos:Pos}(q:X.N[i]?=some x:=by rfl)(z:Vis X.env.scope x:=by first | exact Or.inl rfl | exact Or.inr (Or.inl rfl) | exact Or.inr (Or.inr rfl))(G:'f'=false:=by decide)
  (j:(x == ("__classdict__":Str))=false:=by decide):PE X (.Name x pos) (B3 i):=C1 q z G j
end
theorem Cz{A B:Prop}(h:B):if false=true then A else B:=by
 rw[if_neg QaX];exact h
theorem Cm{A B:Prop}(h:A):if true=true then A else B:=by
 rw[if_pos rfl];exact h
theorem M4{c A B:Prop} [Decidable c] (h1:c->A) (h2:¬c->B):if c then A else B:=by
 by_cases h:c
 .rw[if_pos h];exact h1 h
 .rw[if_neg h];exact h2 h
theorem GI{c A B:Prop} [Decidable c] (hc:c) (h:B):if (!decide c)=true then A else B:=by
 rw[Qca hc];exact Cz h
def Same(H H':Hp):Prop:=∀b o,H b=some o->H' b=some o
theorem Same.refl(H:Hp):Same H H:=λ_ _ h=>h
theorem Same.trans{H H1 H2:Hp}(a:Same H H1)(b:Same H1 H2):Same H H2:=λc o h=>b c o (a c o h)
theorem Same.free{H H':Hp}(e:Same H H'){l:Addr}(h:H' l=Option.none):H l=Option.none:=by
 cases q:H l with
 | none=>rfl
 | some o=>
  rw[e l o q] at h;cases h
theorem Same.seq{K:YD}{H H':Hp}{a:Addr}{xs:YG}(e:Same H H')(h:SqL K H a xs):SqL K H' a xs:=by
 rcases h with (h |⟨o,h⟩) | h
 .exact .inl (.inl (e _ _ h))
 .exact .inl (.inr ⟨o,e _ _ h⟩)
 .exact .inr h
def Fv(env:Env):List (Str×NameKind)->List (Str×Addr)->List (Str×Addr)
 | [],j=>j
 | (n,k)::r,j=>Fv env r (if (k == .free)=true then (match env.cells.lookup n with | some c=>(n,c)::j | none=>j) else j)
theorem gk{env:Env}:∀(names:List (Str×NameKind)) (j:List (Str×Addr)),(∀p∈names,p.2=.free->∃c,env.cells.lookup p.1=some c) ->
  (forIn names j λ(p:Str×NameKind) (r:List (Str×Addr))=>(if (p.2 == .free)=true then do
    let c <-cellOf env p.1
    pure (ForInStep.yield ((p.1,c)::r))
   else pure (ForInStep.yield r):Sem (ForInStep (List (Str×Addr)))))=pure (Fv env names j)
 | [],j,_=>rfl
 | (n,k)::rest,j,h=>by
  have z:=λG=>gk rest G λp I=>h p (QaI _ I);rw[List.forIn_cons];cases q:(k == NameKind.free) with
  | true=>
   obtain⟨c,hc⟩:=h (n,k) QaW (eq_of_beq q);have e1:cellOf env n=pure c:=by unfold cellOf;rw[hc]
   have e2:Fv env ((n,k)::rest) j=Fv env rest ((n,c)::j):=by simp only[Fv,q,if_true,hc]
   rw[e2,<-z];simp only[q,if_true,e1,pure_bind]
  | false=>
   have e2:Fv env ((n,k)::rest) j=Fv env rest j:=by simp only[Fv,q,Bool.false_eq_true,if_false]
   rw[e2,<-z];simp only[q,Bool.false_eq_true,if_false,pure_bind]
theorem Rv{env:Env}{scope:Scope}(h:∀p∈scope.names,p.2=.free->∃c,env.cells.lookup p.1=some c):closureFor scope env=pure (Fv env scope.names []):=by
 have e:=gk (env:=env) scope.names [] h;unfold closureFor;simp only[bind_pure];exact e
theorem f9{env:Env}:∀(names:List (Str×NameKind)) (j:List (Str×Addr)),(∀x c,j.lookup x=some c->env.cells.lookup x=some c) ->
  ∀x c,(Fv env names j).lookup x=some c->env.cells.lookup x=some c
 | [],j,h,x,c,e=>h x c e
 | (n,k)::rest,j,h,x,c,e=>by
  refine f9 rest _ (λy d z=>?_) x c e;split at z
  .split at z
   .rename_i I G;rw[List.lookup_cons] at z;cases q:y == n with
    | true=>rw[q] at z;cases z;rw[eq_of_beq q];exact G
    | false=>rw[q] at z;exact h y d z
   .exact h y d z
  .exact h y d z
theorem V9{env:Env}:∀(names:List (Str×NameKind)) (j:List (Str×Addr)) (x:Str),((j.lookup x).isSome=true\/((x,NameKind.free)∈names/\∃c,env.cells.lookup x=some c)) ->
  ∃c,(Fv env names j).lookup x=some c
 | [],j,x,h=>by
  rcases h with h |⟨h,_⟩
  .exact Option.isSome_iff_exists.mp h
  .cases h
 | (n,k)::rest,j,x,h=>by
  refine V9 rest _ x ?_;have q:(j.lookup x).isSome=true->(List.lookup x (if (k == .free)=true then (match env.cells.lookup n with | some c=>(n,c)::j | none=>j) else j)).isSome=true:=λz=>by
   split
   .split
    .rw[List.lookup_cons];cases x == n with
     | true=>rfl
     | false=>exact z
    .exact z
   .exact z
  rcases h with h |⟨h,c,hc⟩
  .exact .inl (q h)
  .rcases Qcg.mp h with z | z
   .cases z;refine .inl ?_;simp[hc,List.lookup_cons]
   .exact .inr ⟨z,c,hc⟩
def K5(env:Env)(n:Str)(k:NameKind):NameKind:=if (k == .free&&env.scope.kind == .function&&env.kindOf n == some .cell)=true then .cell else k
theorem Rk(env:Env):∀(l:List (Str×NameKind)) (x:Str),
  (l.map λ(n,k)=>if (k == NameKind.free&&env.scope.kind == .function&&env.kindOf n == some .cell) then (n,NameKind.cell) else (n,k)).lookup x=(l.lookup x).map (K5 env x)
 | [],_=>rfl
 | (n,k)::r,x=>by
  have j:=Rk env r x;have e:(if (k == NameKind.free&&env.scope.kind == .function&&env.kindOf n == some .cell)=true then (n,NameKind.cell) else (n,k))=(n,K5 env n k):=by
   unfold K5;split <;> rfl
  rw[Qch];show List.lookup x ((if (k == NameKind.free&&env.scope.kind == .function&&env.kindOf n == some .cell)=true then (n,NameKind.cell) else (n,k))::_)=_
  rw[e,List.lookup_cons,List.lookup_cons];cases q:x == n with
  | true=>rw[eq_of_beq q];rfl
  | false=>exact j
theorem uX{env:Env}{n:Str}{k:NameKind}(h:K5 env n k=.cell\/K5 env n k=.free):k=.cell\/k=.free:=by
 unfold K5 at h;split at h
 .rename_i q;simp only[QbF] at q;exact .inr (eq_of_beq q.1.1)
 .exact h
theorem sJ{prog:Program}{w:World}{A:Around}{R:Result->Shared->Prop}{s:Shared}{elt q iter:Expr}{ifs:YJ}{scope:Scope}{pos:Pos}{it acc:Value}{env:Env}(J:Nat->Shared->Prop)
  (aa:∀n s,J n s->wpAny 01 A (pyNext it) (λr z=>match r with
   | none=>R (.ok .next) z
   | some v=>wpAny 01 A (letOwnedTupleGo q it v) (λ_ I=>wpAny 01 A (assign q env v) (λ_ s3=>
     wpAny 01 A (forIn ifs true λc r=>if r=true then do let j <-isTrue c env (eval c env);pure (ForInStep.yield j) else pure (ForInStep.yield r)) (λj G=>
      if j=true then wpAny 01 A (eval elt env) (λx N=>wpAny 01 A (call (.builtin "list.append") [acc,x]) (λ_ O=>∃m,m < n/\J m O) (λ_ _=>False) N) (λ_ _=>False) G
      else ∃m,m < n/\J m G) (λ_ _=>False) s3) (λ_ _=>False) I) (λ_ _=>False) z) (λ_ _=>False) s)
  (n:Nat) (h:J n s):codeAny 01 A (.compLoop (.ListComp elt [⟨q,iter,ifs,0⟩] scope pos) 0 it acc env) R s:=by
 refine codeAny_loop rfl J (λk s' hk=>?_) n h;show wpAny _ A (Sem.onRaise (compTurn (.ListComp elt [⟨q,iter,ifs,0⟩] scope pos) 0 it acc env) (λx=>do noteFrame x env;theTreesLotGoes x)) _ _ s'
 refine wpAny_noted ?_;rw[compTurn_list];refine QcG (Qcn (QcG (QcI (aa k s' hk) (λr z Y=>?_) λ_ _ f=>f.elim)));cases r with
 | none=>exact QcH Y
 | some v=>
  refine QcG (QcI Y (λ_ I q2=>QcG (QcI q2 (λ_ s3 q3=>QcG (QcI q3 (λj G q4=>?_) λ_ _ f=>f.elim)) λ_ _ f=>f.elim)) λ_ _ f=>f.elim);cases j with
  | false=>exact QcH ⟨rfl,q4⟩
  | true=>exact QcG (QcG (QcI q4 (λx N q5=>QcG (QcI q5 (λ_ O q6=>QcH (QcH ⟨rfl,q6⟩)) λ_ _ f=>f.elim)) λ_ _ f=>f.elim))
def cxC(X:Cx)(N':YF)(scope:Scope)(s3:Shared)(j:Hp)(fp:List Addr)(pn:YC):Cx where
 prog:=X.prog
 w:=X.w
 K:=X.K
 mg:=X.mg
 base:=X.base
 A:=X.A
 N:=N'
 s₀:=s3
 H₀:=j
 env:=compEnvC scope (Fv X.env scope.names []) s3.heap.objs.size X.env
 outer:=X.stack
 stack:=X.stack
 ex:=fp
 fn:=λ_=>false
 calm:=X.calm
 pn:=pn
 xe:=λ_ _=>False
structure Bj(X:Cx)(N':YF)(src:List (Option Nat))(sc:Scope):Prop where
 kind:sc.kind=.function
 G3:∀y∈sc.names,y.2≠.cell
 loc:∀y∈sc.names,y.2=.local->sc.names.lookup y.1=some .local
 fv:∀y∈sc.names,y.2=.free->X.env.kindOf y.1=some .cell\/X.env.kindOf y.1=some .free
 len:src.length=N'.length
 src:∀(i:Nat) (x:Str) (j:Nat),N'[i]?=some x->src[i]?=some (some j)->X.N[j]?=some x/\sc.names.lookup x=some .free
def Kf(src:List (Option Nat))(U : St):St:=src.map λo=>match o with | none=>none | some j=>(U[j]?).join
def PF(X:Cx)(ifs:YJ)(t:TT):Prop:=
 ∀(jb:YC) (s:Shared) (U : St) (H:Hp) (Q:Bool->Hp->Prop),H^^^s->t U H Q ->
  ‹X› (forIn ifs true λc r=>if r=true then do let j <-isTrue c X.env (eval c X.env);pure (ForInStep.yield j) else pure (ForInStep.yield r)) (TP X jb U Q) X.xe s
theorem CK{X:Cx}:PF X [] (λ_ H Q=>Q true H):=λ_ _ _ H _ I h=>wpAny_tests_nil ⟨H,I,h⟩
theorem GP{X:Cx}{c:Expr}{t:TT}(hc:PT X c t):PF X [c] t:=λjb s U H Q I h=>wpAny_tests_one (hc jb s U H Q I h)
theorem Un.ahead{fs ex:List Addr}{H H':Hp}{h h1 h':Heap}(u:Un fs ex H H' h h1)(k:∀b o,b < h.objs.size->h1.get? b=some o->h'.get? b=some o):Un fs ex H H' h h' where
 keep:=λb o e n z j=>k b o (Qcp e) (u.keep b o e n z j)
 slot:=λb o e n z j=>by
  obtain⟨G,q⟩:=u.slot b o e n z j;exact⟨G,k b _ (Qcp e) q⟩
 free:=u.free
 there:=λb o e j=>by
  obtain⟨o',q⟩:=u.there b o e j;exact⟨o',k b _ (Qcp e) q⟩
 tups:=u.tups
 Ig:=u.Ig
 Jb:=u.Jb
section
variable{X:Cx}{N':YF}{src:List (Option Nat)}{sc:Scope}{jb:YC}{U : St}{H:Hp}{s3:Shared}{fp:List Addr}{h1:Heap}{tk:Nat}
theorem V7(S:Bj X N' src sc)(I:H^^^s3)(O:∀b∈fp,G8 X jb H b)(ht:∀b∈fp,b < s3.heap.objs.size)
  (ns:h1.Ns s3.heap.objs.size λ_=>none) (Y:∀b o,s3.heap.get? b=some o->h1.get? b=some o) :
  Inv (cxC X N' sc s3 H fp (X.pn++jb)) [] (Kf src U) H { s3 with heap:=h1,toks:=tk }:=by
 have G:∀x c,(Fv X.env sc.names []).lookup x=some c->X.env.cells.lookup x=some c:=f9 sc.names [] λx c e=>by cases e
 have am:∀x c,(Fv X.env sc.names []).lookup x=some c->∃o,s3.heap.get? c=some o:=λx c e=>by
  obtain⟨v,o,ho,_⟩:=I.cell x c (G x c e);exact⟨o,ho⟩
 have ai:∀x,(x,NameKind.free)∈sc.names->∃c,X.env.cells.lookup x=some c:=λx hx=>I.ok.has x (S.fv _ hx rfl);have Ct:∀b,b≠X.env.locals->b∉X.fs->b∉frs X.stack:=λb h1 h2 j=>(Qcg.mp (I.Wm b j)).elim h1 h2;have ae:∀x,(compEnvC sc (Fv X.env sc.names []) s3.heap.objs.size X.env).kindOf x=(sc.names.lookup x).map (K5 X.env x):=λx=>Rk X.env sc.names x;refine⟨⟨I.ok.mod,S.kind,I.ok.glob,I.ok.blt,QcA _,λx y c e1 e2=>I.ok.inj x y c (G x c e1) (G y c e2),λx hx=>?_,λx c O=>absurd O QaX,I.ok.hd,I.ok.frames,.inl rfl,λb j=>?_,I.bs,Qcs I.ok.bsz I.sz,
  λb o e j=>?_,λb j=>?_,I.stack,I.XD⟩,rq,I.bare,Un.kept Y,{_,ns,λi x v e1 e2 e3=>?_},λx c e=>?_,I.hok.fresh (QcA _),λx c e=>I.FJ x c (G x c e),λp hp=>?_,I.hok.kept Y,?_⟩
 .
  have ab:(sc.names.lookup x).map (K5 X.env x)=some .cell\/(sc.names.lookup x).map (K5 X.env x)=some .free:=by
   rw[<-ae x];exact hx
  cases q:sc.names.lookup x with
  | none=>rw[q] at ab;rcases ab with z | z <;> cases z
  | some k=>
   rw[q] at ab;have hk:k=.cell\/k=.free:=uX (env:=X.env) (n:=x) (ab.imp (λz=>QbP z) λz=>QbP z);have N:=QaR q;rcases hk with rfl | rfl
   .exact absurd rfl (S.G3 _ N)
   .exact V9 sc.names [] x (.inr ⟨N,ai x N⟩)
 .
  obtain⟨f0,f1,f2,f3,f4,f5⟩:=O b j;exact{Qcr (ht b j),λx c e=>f4 x c (G x c e)}
 .
  obtain⟨f0,f1,f2,f3,f4,f5⟩:=O b j;rcases f3 with z | z
  .exact I.ok.OD b o e z
  .exact absurd (Qba (Qcp e) (Qcs I.ok.bsz z)) (Qcj _)
 .
  obtain⟨f0,f1,f2,f3,f4,f5⟩:=O b j;exact Ct b f1 f2
 .
  have J:(Kf src U)[i]?=some (some v):=e2;unfold Kf at J;rw[Qbn] at J;cases q:src[i]? with
  | none=>rw[q] at J;cases J
  | some oj=>
   rw[q] at J;cases oj with
   | none=>cases J
   | some aa=>
    have e4:(U[aa]?).join=some v:=QbP J;have e5:U[aa]?=some (some v):=by
     cases r:U[aa]? with
     | none=>rw[r] at e4;cases e4
     | some z=>rw[r] at e4;cases z with
      | none=>cases e4
      | some y=>cases e4;rfl
    obtain⟨hN,af⟩:=S.src i x aa e1 q;have N:=QaR af;have kx:=S.fv _ N rfl;obtain⟨m,hn,hl⟩:=I.loc;obtain⟨u,r,l⟩:=hl aa x v hN e5 (.inr kx);refine⟨u,r,?_⟩;rcases l with⟨k1,_⟩|⟨_,c,hc,ah⟩
    .rcases kx with z | z <;> (rw[z] at k1;cases k1)
    .obtain⟨c',ag⟩:=V9 (env:=X.env) sc.names [] x (.inr ⟨N,c,hc⟩);have e6:c'=c:=by
      have:=G x c' ag;rw[hc] at this;exact (QbP this).symm
     subst e6;refine .inr {?_,c',ag,?_}
     .have:(compEnvC sc (Fv X.env sc.names []) s3.heap.objs.size X.env).kindOf x=some (K5 X.env x .free):=by rw[ae x,af];rfl
      show (compEnvC sc (Fv X.env sc.names []) s3.heap.objs.size X.env).kindOf x=some .cell\/(compEnvC sc (Fv X.env sc.names []) s3.heap.objs.size X.env).kindOf x=some .free;rw[this];unfold K5;split
      .exact .inl rfl
      .exact .inr rfl
     .obtain⟨o,ho,hd⟩:=ah;exact⟨o,Y _ o ho,hd⟩
 .
  obtain⟨v,o,ho,hd⟩:=I.cell x c (G x c e);exact⟨v,o,Y _ o ho,hd⟩
 .
  have al:p∈X.pn++jb:=(QbK.mp hp).elim id λz=>by cases z
  obtain⟨a1,a2,a3,a4,a5⟩:=I.pin p al;exact{Y _ _ a1,a2,Qcr (Qcp a1),Ct p.1 a3 a4,a5}
 .show (Kf src U).length=N'.length;unfold Kf;rw[QbJ];exact S.len
theorem Tr{j:Shared}{O:St}{H':Hp}{h':Heap}(aa:H^^^s3)(Y:∀b∈fp,G8 X jb H b)(G:Inv (cxC X N' sc s3 H fp (X.pn++jb)) [] O H' j)
  (J:Heap.SameBut s3.heap.objs.size j.heap h'):Inv X jb U H' { j with heap:=h' }:=by
 have N:H' s3.heap.objs.size=none:=G.free;refine aa.call' (s':={ j with heap:=h' }) (ch:=fp) G.os ?_ ?_ G.bare λb I=>?_
 .exact Un.ahead (h:=s3.heap) (h1:=j.heap) G.base λb o I e=>J.extBut b o (Qcr I) e
 .exact λb u e=>(G.hok b u e).stay (λc v hc q=>J.extBut c v (by
   intro z;rcases hc with y | y
   .rw[<-y,z,N] at e;cases e
   .rw[z,N] at y;cases y) q) (λ_ q=>q) λ_ _ q=>q
 .obtain⟨f0,f1,f2,f3,f4,f5⟩:=Y b I;exact⟨f3,f1,f4,λp hp=>f5 p hp⟩
end
@[irreducible] def Gu(J:It)(g:TG)(tt:TT)(te:TE)(Q:VK)(Y:St)(H0:Hp)(l:Addr):Prop:=∃W:Nat->YN,(∃m,W 0 m Y H0) /\
 ∀i m z H',W i m z H'->(J.stop i H'/\Q (.ref l) H')\/(J.go i H'/\∃N:YO,(∀ j q,N j q->∃G,G < m/\W (i+1) G j q)/\∀x H2,J.yld i H' x H2->g x z H2 fun j q=>tt j q λb I=>
  if b=true then te j I λy O=>∃xs,O l=some (.lst xs)/\xs.length < sizeLine/\N j (upd O l (.lst (xs++[y]))) else N j I)
def lO(j:TI)(src:List (Option Nat))(g:TG)(tt:TT)(te:TE):TE:=fun U H Q=>j U H λJ H1=>∀l,H1 l=none->Gu J g tt te Q (Kf src U) (upd H1 l (.lst [])) l
theorem ZJ{X:Cx}{N':YF}{src:List (Option Nat)}{sc:Scope}{elt tg iter:Expr}{ifs:YJ}{pos pos':Pos}{wi:TI}{g:TG}{tt:TT}{te:TE}{use:Option (Value->Sem Unit)}{R:YA}(hc:X.calm=true)(S:Bj X N' src sc)
  (hi:PI X tg iter wi) (hg:∀s3 G fp pn,PG (cxC X N' sc s3 G fp pn) tg g) (ht:∀s3 G fp pn,PF (cxC X N' sc s3 G fp pn) ifs tt) (he:∀s3 G fp pn,PE (cxC X N' sc s3 G fp pn) elt te)
  (hs:∀x,foldedSetIterable iter X.env x=pure x) {jb:YC} {s:Shared} {U : St} {H:Hp} {Q:VK} (ap:H^^^s) (h:lO wi src g tt te U H Q)
  (au:∀s3 G fp I J s5 l,G^^^s3->(∀b∈fp,G8 X jb G b)->Inv (cxC X N' sc s3 G fp (X.pn++jb)) [] I J s5->Q (.ref l) J ->
   compPost (model X.prog X.w) X.A X.xe use R (.ref l) s3.heap.objs.size (.ok .next) s5) :
  ‹X› (comprehension (.ListComp elt [⟨tg,iter,ifs,0⟩] sc pos) sc X.env pos' (newList []) false (eval iter X.env) use) R X.xe s:=by
 refine wpAny_comprehension_free (use:=use) (cl:=Fv X.env sc.names []) rfl hs (Rv λp hp e=>ap.ok.has p.1 (S.fv p hp e)) S.kind S.loc ?_;refine thn (hi jb s U H _ ap h) λv s1 h1=>thn h1 λa6 j h2=>?_;obtain⟨it,fp,tn,a9,H2,rfl,I2,T,ah,f2,a4⟩:=h2;have q':=a4 j.heap.objs.size (I2.hok.fresh (QcA _));unfold Gu at q';obtain⟨W,⟨m0,w0⟩,as⟩:=q';refine Qbp (wpAny_newFunctionEnv S.G3 (by intro y hy;simp at hy) (λha av aw=>?_) S.kind);have I3:Inv X jb U (upd H2 j.heap.objs.size (.lst [])) { j with heap:=j.heap.push { cls:=.type "list",dict:=none,data:=.seq ([]:YE).toArray } }:=
  I2.laid (t':=j.toks) (λb u e=>Qax _ e) (QcA _) {QcB _,[],0,.nil,QaM _ rfl}
 have ai:∀b∈fp,b < j.heap.objs.size:=λb q=>by
  obtain⟨o,e,_⟩:=T.obj 0 _ ah b q;exact Qcp e
 have f3:∀b∈fp,G8 X jb (upd H2 j.heap.objs.size (.lst [])) b:=λb q=>{by rw[Ao (Qcr (ai b q))];exact (f2 b q).1,(f2 b q).2};generalize al:({ j with heap:=j.heap.push { cls:=.type "list",dict:=none,data:=.seq ([]:YE).toArray } }:Shared)=s3 at *;have ax:j.heap.objs.size < s3.heap.objs.size:=by rw[<-al];show j.heap.objs.size < (j.heap.push _).objs.size;rw[Qcb];exact QbE _
 have kp:∀b o,s3.heap.get? b=some o->ha.get? b=some o:=λb o e=>aw.extBut b o (Qcr (Qcp e)) (Qax _ e);have am:tn 0 ha:=T.keep 0 _ _ ah λb q o e=>kp b o (by rw[<-al];exact Qax _ e);have I4:Inv 'l' [] (Kf src U) (upd H2 j.heap.objs.size (.lst [])) { s3 with heap:=ha,toks:=s3.toks+([]:List (Str×Value)).length }:=
  V7 S I3 f3 (λb q=>Nat.lt_trans (ai b q) ax) av kp
 have af:codeAny (model X.prog X.w) X.A (.compLoop (.ListComp elt [⟨tg,iter,ifs,0⟩] sc pos) 0 (.ref it) (.ref j.heap.objs.size) (compEnvC sc (Fv X.env sc.names []) s3.heap.objs.size X.env))
   (compPost (model X.prog X.w) X.A X.xe use R (.ref j.heap.objs.size) s3.heap.objs.size) { s3 with heap:=ha,toks:=s3.toks+([]:List (Str×Value)).length }:=by
  refine sJ (λn s'=>∃i Y H',Inv 'l' [] Y H' s'/\tn i s'.heap/\(∀b∈fp,H' b=none)/\W i n Y H') ?_ m0 {0,_,_,I4,am,λb q=>(f3 b q).1,w0};rintro n s4 ⟨i,I,J,J4,an,ao,w4⟩;have aa:∀{H':Hp},(∀b∈fp,H' b=none)->∀b∈fp,G8 'l' [] H' b:=λhn b q=>
   {hn b q,(I4.ok.exf b q).1,I4.ok.Lf b q,.inl q,λx c e=>(I4.ok.exf b q).2 x c e,λp hp=>(f3 b q).2.2.2.2.2 p ((QbK.mp hp).elim id λa5=>by cases a5)}
  rcases as i n I J w4 with⟨stop,qn⟩|⟨go,ar,hN,step⟩
  .refine thn (T.done 'l' rfl rfl rfl hc i [] s4 I J _ J4 (aa ao) an stop) λr s5 zz=>?_;obtain⟨hr,J5⟩:=zz;subst hr;exact au s3 _ fp I J s5 _ I3 f3 J5 qn
  .refine thn (T.item 'l' rfl rfl rfl hc i [] s4 I J _ J4 (aa ao) an go) λr s5 zz=>?_;obtain⟨u,hr,h5⟩:=zz;subst hr;refine thn h5 λ_ s6 zz=>?_;obtain⟨x,H6,J6,r6,y6,ab,ay⟩:=zz;have az:=J6.pinned (aa ay) (T.obj _ _ ab);have ag:∀{pl:YC} {z:St} {N:Hp} {O:Shared},Inv 'l' ([]++Om fp s6.heap) z N O->ar z N ->
     ∃m',m' < n/\∃i Y H',Inv 'l' [] Y H' O/\tn i O.heap/\(∀b∈fp,H' b=none)/\W i m' Y H':=λ{pl z N O} J7 w7=>by
    obtain⟨m',hm,w7⟩:=hN _ _ w7;have ae:∀b∈fp,∀o,s6.heap.get? b=some o->O.heap.get? b=some o/\N b=none:=λb q o e=>by
     have:=J7.pin (b,o) (QaC _ (QaC _ (KC q e)));exact⟨this.1,this.2.1⟩
    refine⟨m',hm,i+1,z,N,J7.Im,T.keep _ _ _ ab λb q o e=>(ae b q o e).1,λb q=>?_,w7⟩;obtain⟨o,e,_⟩:=T.obj _ _ ab b q;exact (ae b q o e).2
   refine thn (hg s3 _ fp _ _ s6 I H6 x u _ az r6 (step x H6 y6)) λ_ O zz=>?_;obtain⟨z,N,J7,q7⟩:=zz;refine thn (ht s3 _ fp _ _ O z N _ J7 q7) λok s8 zz=>?_;obtain⟨H8,J8,q8⟩:=zz;cases ok with
   | false=>
    rw[if_neg QaX] at q8 ⊢;exact ag (pl:=[]) J8 q8
   | true=>
    rw[if_pos rfl] at q8 ⊢;refine thn (he s3 _ fp _ _ s8 z H8 _ J8 q8) λy s9 zz=>?_;obtain⟨yv,H9,J9,r9,xs,a0,a1,q9⟩:=zz;refine thn (BP _ s9 z H9 (.ref j.heap.objs.size) [yv] (.ref j.heap.objs.size) [y] (λ_ H'=>ar z H') J9 rfl (.cons r9 .nil) ⟨_,xs,yv,rq,rq,a0,a1,q9⟩) λ_ a7 zz=>?_;obtain⟨_,a8,a2,_,a3⟩:=zz;exact ag (pl:=[]) a2 a3
 exact codeAny_compStart_list af (T.self X.A 0 _ _ _ am af)
theorem Ck{X:Cx}{N':YF}{src:List (Option Nat)}{sc:Scope}{elt tg iter:Expr}{ifs:YJ}{pos:Pos}{q:TI}{g:TG}{tt:TT}{te:TE}(hc:X.calm=true)(S:Bj X N' src sc)
  (hi:PI X tg iter q) (G:∀s3 j fp pn,PG (cxC X N' sc s3 j fp pn) tg g) (I:∀s3 j fp pn,PF (cxC X N' sc s3 j fp pn) ifs tt) (J:∀s3 j fp pn,PE (cxC X N' sc s3 j fp pn) elt te)
  (hs:∀x,foldedSetIterable iter X.env x=pure x:=by intro _;rfl):PE X (.ListComp elt [⟨tg,iter,ifs,0⟩] sc pos) (lO q src g tt te):=by
 intros Q aa h;rw[eval_ListComp];refine ZJ (use:=none) hc S hi G I J hs aa h λs3 j fp ae N s5 l O Y z ab=>?_;obtain⟨m,hn,_⟩:=z.loc;exact⟨m,hn,λh' sb=>{.ref l,N,Tr O Y z sb,rq,ab}⟩
theorem Yn{X:Cx}{N':YF}{src:List (Option Nat)}{sc:Scope}{elt tg iter:Expr}{ifs:YJ}{pos aa G:Pos}{wi:TI}{g:TG}{tt:TT}{te:TE}{i:Nat}{x:Str}(hN:X.N.Nodup)(af:X.N[i]?=some x)(hx:Loc X.env.scope x)(hc:X.calm=true)(S:Bj X N' src sc)
  (hi:PI X tg iter wi) (hg:∀s3 j fp pn,PG (cxC X N' sc s3 j fp pn) tg g) (ht:∀s3 j fp pn,PF (cxC X N' sc s3 j fp pn) ifs tt) (he:∀s3 j fp pn,PE (cxC X N' sc s3 j fp pn) elt te)
  (ag:swapsWith (.ListComp elt [⟨tg,iter,ifs,0⟩] sc pos) (some (.Name x G)) aa.line X.env=pure true:=by rfl) (hs:∀x,foldedSetIterable iter X.env x=pure x:=by intro _;rfl)
  (hf:X.fn x=true\/X.env.scope.names.lookup x=some .local:=by first | exact .inl rfl | exact .inr rfl | assumption) :
  PS X (.Assign [.Name x G] (.ListComp elt [⟨tg,iter,ifs,0⟩] sc pos) aa) (bf (lO wi src g tt te) (Ek i)):=by
 intros D ai h;rw[exec_Assign_Name_used _ _ _ _ ag];refine QcG (Qcn (QcG ?_));show wpAny _ X.A (do let _ <-comprehension (.ListComp elt [⟨tg,iter,ifs,0⟩] sc pos) sc X.env _ (newList []) false (eval iter X.env) (some (assign (.Name x G) X.env))) _ _ s
 refine QcG (thn (ZJ (R:=λ_ s'=>SP X jb D .next s') hc S hi hg ht he hs ai h λs3 j fp am I J l q f3 Y al=>?_) λ_ s' hq=>QcH (QcH hq));obtain⟨m,⟨O,es,ep,ah,r⟩,_⟩:=Y.loc;have I6:Inv X jb U I { J with heap:=J.heap }:=Tr q f3 Y (Heap.SameBut.refl _ _);have ab:I s3.heap.objs.size=none:=Y.free;have ae:s3.heap.objs.size≠X.env.locals:=Qcv q.lt;have v9:∀v,O.data≠.cell v:=λv z=>by rw[r.1] at z;cases z
 have I7:Inv X (jb++[(s3.heap.objs.size,O)]) U I J:=I6.Ui λp hp=>(QbK.mp hp).elim (λz=>I6.pin p (QaC _ z)) λz=>by
  cases Qbc.mp z;exact⟨ah,ab,ae,q.vY (QcA _),v9⟩
 show wpAny _ X.A (assign (.Name x G) X.env (.ref l)) _ _ J;refine wpAny_assign_Name (KY (v:=.ref l) I7 hN af hx rfl (λs6 I8=>?_) hf);have k8:=(I8.pin (s3.heap.objs.size,O) (QaC _ (QaC _ (Qbc.mpr rfl)))).1;refine⟨m,⟨O,es,ep,k8,r⟩,λh' sb=>{_,I,?_,al}⟩;have I9:=I8.Im;refine I9.turned (t':=s6.toks) (λb o hb e=>sb.extBut b o hb e) ab ae (.inr q.sz) (λy c e z=>?_) (λp hp z=>?_)
 .obtain⟨v,o,ho,_⟩:=q.cell y c e;exact absurd (Qcp ho) (by rw[z];exact Qcj _)
 .have:=(q.pin p hp).1;exact absurd (Qcp this) (by rw[z];exact Qcj _)
theorem Bj.of{X:Cx}{N':YF}{src:List (Option Nat)}{sc:Scope}(q:Scope)(N:YF)(G:X.env.scope=q)(I:X.N=N)(kind:sc.kind=.function)(G3:∀y∈sc.names,y.2≠.cell)(loc:∀y∈sc.names,y.2=.local->sc.names.lookup y.1=some .local)
  (fv:∀y∈sc.names,y.2=.free->q.names.lookup y.1=some .cell) (len:src.length=N'.length)
  (z:((N'.zip src).all λp=>match p.2 with | none=>true | some j=>decide (N[j]?=some p.1)&&decide (sc.names.lookup p.1=some .free))=true):Bj X N' src sc where
 kind:=kind
 G3:=G3
 loc:=loc
 fv:=λy J e=>.inl (by show X.env.scope.names.lookup y.1=some .cell;rw[G];exact fv y J e)
 len:=len
 src:=λi x j e1 e2=>by
  rw[List.all_eq_true] at z;have O:(x,some j)∈N'.zip src:=by
   refine QaH (i:=i) ?_;rw[List.getElem?_zip_eq_some];exact⟨e1,e2⟩
  have:=z _ O;simp only[QbF,decide_eq_true_eq] at this;rw[I];exact this
section
variable{X:Cx}
@[irreducible] def Qs(K:YD):YG->Hp->VK->Prop:=λxs H Q=>∃x T t b,xs=[x,.ty T]/\Lh K H x t/\kitOne K t (.type T)=some b/\Q (.bl b) H
theorem Rw:DN X (.builtin "isinstance") (Qs X.K):=by
 intros xs G Q I r h;unfold Qs at h;obtain⟨x,T,t,b,rfl,ty,e,q⟩:=h;obtain⟨u,J,rfl,j,z⟩:=vals2 r;cases z;exact qQ I j ty e λtk=>{.bl b,H,I.tok tk,rq,q}
theorem iV{K:YD}:kitOne K (.type "int") (.type "int")=some true:=by rfl
theorem eU{K:YD}:kitOne K (.type "int") (.type "bool")=some false:=by rfl
theorem eV{K:YD}:kitOne K (.type "bool") (.type "int")=some true:=by rfl
theorem ak{K:YD}:kitOne K (.type "bool") (.type "bool")=some true:=by rfl
theorem eG{K:YD}:kitOne K (.type "NoneType") (.type "int")=some false:=by rfl
theorem iU{K:YD}:kitOne K (.type "str") (.type "int")=some false:=by rfl
theorem eO{K:YD}:kitOne K (.type "list") (.type "int")=some false:=by rfl
theorem Z8{K:YD}:kitOne K (.type "tuple") (.type "int")=some false:=by rfl
theorem Yv{K:YD}:kitOne K (.type "NoneType") (.type "tuple")=some false:=by rfl
theorem Yx{K:YD}:kitOne K (.type "bool") (.type "tuple")=some false:=by rfl
theorem aj{K:YD}:kitOne K (.type "int") (.type "tuple")=some false:=by rfl
theorem Z9{K:YD}:kitOne K (.type "str") (.type "tuple")=some false:=by rfl
theorem Yw{K:YD}:kitOne K (.type "list") (.type "tuple")=some false:=by rfl
theorem Xc{K:YD}:kitOne K (.type "tuple") (.type "tuple")=some true:=by rfl
def Kn(H:Hp):V->Prop
 | .non=>True
 | .bl _=>True
 | .int _=>True
 | .str _=>True
 | .ref a=>(∃xs,H a=some (.lst xs))\/∃xs,H a=some (.tup xs)
 | _=>False
def isI:V->Bool
 | .int _=>true
 | .bl _=>true
 | _=>false
def isB:V->Bool
 | .bl _=>true
 | _=>false
def isW:V->Bool
 | .int _=>true
 | _=>false
def Ii(H:Hp):V->Option (YG)
 | .ref a=>match H a with
  | some (.tup xs)=>some xs
  | _=>none
 | _=>none
theorem Df{H:Hp}{a:Addr}{xs:YG}(h:H a=some (.tup xs)):Ii H (.ref a)=some xs:=by
 show (match H a with | some (.tup xs)=>some xs | _=>none)=some xs
 rw[h]
theorem Pb{H:Hp}{a:Addr}{xs:YG}(h:H a=some (.lst xs)):Ii H (.ref a)=none:=by
 show (match H a with | some (.tup xs)=>some xs | _=>none)=none
 rw[h]
theorem dO{H:Hp}{v:V}{xs:YG}(h:Ii H v=some xs):∃a,v=.ref a/\H a=some (.tup xs):=by
 cases v with
 | ref a=>
  refine⟨a,rq,?_⟩;have h':(match H a with | some (.tup xs)=>some xs | _=>none)=some xs:=h
  split at h'
  .rename_i e;cases h';exact e
  .cases h'
 | _=>cases h
theorem Kn.same{H H':Hp}{v:V}(s:Same H H')(k:Kn H v):Kn H' v:=by
 cases v with
 | ref a=>exact k.imp (λ⟨xs,e⟩=>⟨xs,s _ _ e⟩) λ⟨xs,e⟩=>⟨xs,s _ _ e⟩
 | _=>exact k
theorem lN{H H':Hp}{v:V}(s:Same H H')(k:Kn H v):Ii H' v=Ii H v:=by
 cases v with
 | ref a=>
  rcases k with⟨xs,e⟩|⟨xs,e⟩
  .rw[Pb e,Pb (s _ _ e)]
  .rw[Df e,Df (s _ _ e)]
 | _=>rfl
theorem A3{K:YD}{H:Hp}{x:V}{Q:VK}(k:Kn H x)(q:Q (.bl (isI x)) H):Qs K [x,.ty "int"] H Q:=by
 unfold Qs;cases x with
 | non=>exact⟨_,_,_,_,rfl,.non,eG,q⟩
 | bl b=>exact{_,_,_,_,rfl,.bl b,eV,q}
 | int i=>exact{_,_,_,_,rfl,.int i,iV,q}
 | str z=>exact{_,_,_,_,rfl,.str z,iU,q}
 | ref a=>
  rcases k with⟨xs,e⟩|⟨xs,e⟩
  .exact{_,_,_,_,rq,.lst e,eO,q}
  .exact{_,_,_,_,rq,.tup e,Z8,q}
 | _=>exact k.elim
theorem xH{K:YD}{H:Hp}{x:V}{Q:VK}(k:isI x=true)(q:Q (.bl (isB x)) H):Qs K [x,.ty "bool"] H Q:=by
 unfold Qs;cases x with
 | bl b=>exact{_,_,_,_,rfl,.bl b,ak,q}
 | int i=>exact{_,_,_,_,rfl,.int i,eU,q}
 | _=>cases k
theorem qR{K:YD}{H:Hp}{x:V}{Q:VK}(k:Kn H x)(q:Q (.bl (Ii H x).isSome) H):Qs K [x,.ty "tuple"] H Q:=by
 unfold Qs;cases x with
 | non=>exact⟨_,_,_,_,rfl,.non,Yv,q⟩
 | bl b=>exact{_,_,_,_,rfl,.bl b,Yx,q}
 | int i=>exact{_,_,_,_,rfl,.int i,aj,q}
 | str z=>exact{_,_,_,_,rfl,.str z,Z9,q}
 | ref a=>
  rcases k with⟨xs,e⟩|⟨xs,e⟩
  .rw[Pb e] at q;exact{_,_,_,_,rq,.lst e,Yw,q}
  .rw[Df e] at q;exact{_,_,_,_,rq,.tup e,Xc,q}
 | _=>exact k.elim
theorem Wa:∀{bs:List Bool} {us:YE},Vals (bs.map V.bl) us->LSm.BoolsAre us bs
 | [],_,.nil=>.nil
 | b::r,_,.cons h t=>by
  cases (show _=Value.bool b from h)
  exact .cons b (Wa t)
theorem Iz(hc:X.calm=true):DN X (.builtin "all") (λxs H Q=>∃(p:Addr) (bs:List Bool),xs=[.ref p]/\SqL X.K H p (bs.map V.bl)/\Q (.bl (bs.all id)) H):=by
 intros xs us Q I r h;obtain⟨p,bs,rfl,N,aa⟩:=h;obtain⟨u,rfl,O⟩:=vals1 r;cases O;obtain⟨j,Y,pl,hz⟩:=I.list N;have z:=Wa Y;have q:=pl.isList;have J:p < ∅:=by obtain⟨_,e,_⟩:=q;exact Qcp e
 refine call_all_walk (Qbv q ?_);refine⟨∅,[∅,p],[∅],j.toArray.size,_,_,λi=>(bs[i]?).getD true,rq,Walks.list (A:=X.A.in1) (I.ok.hd hc) _ p (Qcr J) j.toArray,
  {{_,QaM _ rfl,rq,rq},q.push _},λi v s' Q' E' hP G=>?_,λh' tk hk=>?_⟩
 .obtain⟨b,e,rfl⟩:=z.get i v (by simpa using hP);simp only[e,Option.getD_some] at G;exact Qbs G
 .have e:((List.range j.toArray.size).all λi=>(bs[i]?).getD true)=bs.all id:=by
   rw[Qbl,z.length];exact LSm.range_all bs
  rw[e];exact{.bl (bs.all id),H,I.kept (LSm.kept_iter hk),rq,aa}
def CS(K:YD):R2:=λx y H Q=>∃a b ys,x=.ref a/\y=.ref b/\SqT K H a []/\SqT K H b ys/\Q (.ref b) H
theorem vI:OpR X (binaryOp .Add) (CS X.K):=by
 intros x y v u Q I rx ry h;obtain⟨a,b,ys,rfl,rfl,ha,hb,aa⟩:=h;cases rx;cases ry;obtain⟨af,r1,p1,_⟩:=I.tuple ha;obtain⟨N,r2,p2,_⟩:=I.tuple hb;cases r1;obtain⟨⟨ag,dd,ab,sl⟩,G,hc,n,J⟩:=id p1;obtain⟨⟨ae,O,data2,Y⟩,j,q,n2,z⟩:=id p2;simp only at hc J q z;subst hc J q z;exact concat_meets ⟨_,G,rq⟩ ⟨_,j,rq⟩ noFill_tuple_add seq_tuple_add PySem.F.slot_tuple_add PySem.F.entry_tuple_add (PySem.F.args_tuple_add_2 _ _)
  (tuple_addW0 a b #[] N.toArray n n2 dd O sl Y rfl) ⟨G,j,{.ref b,H,I,rq,aa}⟩
theorem Oz:OpR X (binaryOp .Add) (λx y H Q=>∃a b xs ys,x=.ref a/\y=.ref b/\H a=some (.tup xs)/\H b=some (.tup ys)/\xs.length+ys.length<=sizeLine /\
  ∀p H',H' p=some (.tup (xs++ys))->Same H H'->Q (.ref p) H'):=by
 intros x y v u Q I J N h;obtain⟨a,b,xs,ys,rfl,rfl,j,G,O,q⟩:=h;cases xs with
 | nil=>exact vI jb s U H _ _ v u Q I J N ⟨a,b,ys,rfl,rfl,SqT.of j,SqT.of G,q b H G (Same.refl H)⟩
 | cons Y xr=>
  refine AG jb s U H _ _ v u Q I J N ⟨a,b,Y::xr,ys,rq,rq,SqT.of j,SqT.of G,(λz=>by cases z),O,λz=>?_,λz p hp=>?_⟩
  .subst z;exact q a H (by rw[QbM];exact j) (Same.refl H)
  .refine q p _ Ab λc o e=>?_;rw[Ao (Aw e hp)];exact e
mutual
inductive Rep(H:Hp):V->PyData->Prop
 | non:Rep H .non .none
 | bl (b:Bool):Rep H (.bl b) (.bool b)
 | int (i:Int):Rep H (.int i) (.int i)
 | str (x:Str):Rep H (.str x) (.str x)
 | tup {a:Addr} {xs:YG} {ds:List PyData}:H a=some (.tup xs)->O8 H xs ds->Rep H (.ref a) (.tuple ds)
 | lst {a:Addr} {xs:YG} {ds:List PyData}:H a=some (.lst xs)->O8 H xs ds->Rep H (.ref a) (.list ds)
inductive O8(H:Hp):YG->List PyData->Prop
 | nil:O8 H [] []
 | cons {x:V} {d:PyData} {xs:YG} {ds:List PyData}:Rep H x d->O8 H xs ds->O8 H (x::xs) (d::ds)
end
mutual
theorem Rep.reads{P:Program}{w:World}{H:Hp}{h:Heap}(j:HOk P w H h):∀{v:V} {d:PyData} {u:Value},Rep H v d->RelV v u->∃G,Reads h u d G
 | _,_,_,.non,r=>by cases (show _=Value.none from r);exact⟨_,.none⟩
 | _,_,_,.bl b,r=>by cases (show _=Value.bool b from r);exact{_,.bool b}
 | _,_,_,.int i,r=>by obtain⟨t,rfl⟩:=(show ∃t,_=Value.int i t from r);exact{_,.int i t}
 | _,_,_,.str x,r=>by obtain⟨t,rfl⟩:=(show ∃t,_=Value.str x t from r);exact{_,.str x t}
 | _,_,_,.tup (a:=a) (xs:=xs) e q,r=>by
  cases (show _=Value.ref a from r)
  obtain⟨_,N,I,o,J,hc,n,O⟩:=(show Bs P w H h a (.tup xs) from j a _ e)
  obtain⟨G,z⟩:=O8.reads j q I;exact{_,.tuple J hc O (by simpa using z)}
 | _,_,_,.lst (a:=a) (xs:=xs) e q,r=>by
  cases (show _=Value.ref a from r)
  obtain⟨_,N,n,I,J⟩:=(show Bs P w H h a (.lst xs) from j a _ e)
  obtain⟨G,z⟩:=O8.reads j q I;exact{_,.list J rfl rfl (by simpa using z)}
theorem O8.reads{P:Program}{w:World}{H:Hp}{h:Heap}(j:HOk P w H h):∀{xs:YG} {ds:List PyData} {us:YE},O8 H xs ds->Vals xs us->∃z,ReadsAll h us ds z
 | _,_,_,.nil,.nil=>⟨_,.nil⟩
 | _,_,_,.cons p q,.cons r t=>by
  obtain⟨z,G⟩:=Rep.reads j p r;obtain⟨J,I⟩:=O8.reads j q t;exact{_,.cons G I}
end
theorem C7(j:X.A.units+64 < cLine):OpR X (compareOp .NotEq) (λx y H Q=>∃d e,Rep H x d/\Rep H y e/\SeqAt.shaped d=true/\SeqAt.shaped e=true/\Q (.bl (!PyData.eqv d e)) H):=by
 intros x y v u Q I q z h;obtain⟨d,e,p,G,J,N,aa⟩:=h;obtain⟨as,O⟩:=p.reads I.hok q;obtain⟨bs,Y⟩:=G.reads I.hok z;exact ne_dataH O Y J N j {.bl (!PyData.eqv d e),H,I,rq,aa}
end
structure Code(K:YD)(mg:YB)(x:Str)(st:Stmt)(ps:YF):Prop where
 ex:∃(f:Addr) (fd:FuncData),Fun K x x st f fd/\mg x=some (.ref f)/\Binds K fd ps []
structure Good(P:Program)(w:World)(K:YD)(mg:YB)(base:Heap)(x:Str)(k:Nat)(ps:YF)(sp:Sp):Prop where
 ex:∃(f:Addr) (fd:FuncData),mg x=some (.ref f)/\keepIn K (.ref f)=true/\Binds K fd ps []/\Gy P w K mg base CX0 k f fd ps sp
theorem Code.good{P:Program}{w:World}{K:YD}{mg:YB}{base:Heap}{x:Str}{st:Stmt}{ps N:YF}{k:Nat}{sp:Sp}(C:Code K mg x st ps)(S:Ay N ps (Ai st))(len:∀vs H Q E,sp vs H Q E->vs.length=ps.length)
  (q:∀(f:Addr) (j:Value) (A:Around) (outer:List Env) (s:Shared) (H:Hp) (vs:YG) (Q:VK) (E:XK),Cd k (A.deeper (envOfC x (Ai st) ∅ f j))->sp vs H Q E ->
   ∃t,PSs (Lg CX0 P w K mg base N x (Ai st) f j A outer s H E).nox (Dd st) t/\t { nx:=λ_ H'=>Q .non H',rt:=Q } (start N vs) H):⋯ x (k+1) ps sp:=by
 obtain⟨f,fd,F,m,b⟩:=C.ex;exact⟨f,fd,m,F.kp,b,F.ok S len λj A outer s H vs Q E z h=>q f j A outer s H vs Q E z h⟩
theorem Uj{X:Cx}{k k':Nat}{ps:YF}{sp:Sp}{x:Str}{p pos:Pos}{e:Expr}{es:YJ}{t:TA}(g:Good X.prog X.w X.K X.mg X.base x k ps sp)(z:Cd k' X.A)(G:PA X (e::es) t)(J:k<=k':=by decide)(N:Gl X x:=by rfl)
  (j:'f'=false:=by decide) (O:starEach (e::es) X.env=(false,eval e X.env)::starEach es X.env:=by rfl) (q:(backTo pos (starEach es X.env)).any (·.1)=false:=by rfl) :
  PE X (.Call (.Name x p) (e::es) [] pos) (lQ sp [] E0 t):=by
 intros Q I h;obtain⟨f,fd,m,Y,b,F⟩:=g.ex;exact AE F (z.mono J) N m Y b .nil aL G j O q jb s U H Q I h
theorem Code.of{K:YD}{mg:YB}{h:Heap}{x:Str}{st:Stmt}{ps:YF}{f:Addr}{N:Value}{O z:Option Addr}{J:YI}{kV q I j ct:Value}(X:K.In h)(G:h.Ns mainGlobals mg)
  (a:nsIn K mainGlobals x=some (some (.ref f))) (l:K.lookup f=some ⟨N,O,.func (fnOf x x (Es st) (Dd st) (Ai st) .none kV q I z j ct),J⟩) (c:codeIn K j x=true) (k:keepIn K (.ref f)=true)
  (Y:∀(kV q I:Value) (z:Option Addr) (j ct:Value) (us:YE),us.length=ps.length->bindArgs (fnOf x x (Es st) (Dd st) (Ai st) .none kV q I z j ct) ⟨us,[]⟩=pure (ps.zip us)):Code K mg x st ps:=by
 have F:=Xm (st:=st) l c k;exact⟨f,_,F,mg_of X G a,F.binds Y⟩
theorem Ad{H:Hp}{p:Addr}(h:H p=none)(o:HO):Same H (upd H p o):=λb u q=>by rw[Ao (Aw q h)];exact q
theorem Bj.plain{X:Cx}{N':YF}{sc:Scope}(kind:sc.kind=.function)(G3:∀y∈sc.names,y.2≠.cell)(loc:∀y∈sc.names,y.2=.local->sc.names.lookup y.1=some .local)(G:∀y∈sc.names,y.2≠.free) :
  Bj X N' (N'.map λ_=>none) sc where
 kind:=kind
 G3:=G3
 loc:=loc
 fv:=λy I e=>absurd e (G y I)
 len:=by simp
 src:=λi x j _ e=>by
  rw[Qbn] at e;cases q:N'[i]? with
  | none=>rw[q] at e;cases e
  | some z=>rw[q] at e;cases e
theorem Rr{K:YD}{a l:Addr}{xs:YG}{g:TG}{tt:TT}{te:TE}{Q:VK}{z:St}{I:Hp}(Pv:YN)
  (Y:Pv 0 z I) (hl:∀i U H',i<=xs.length->Pv i U H'->SqT K H' a xs)
  (hs:∀i x U H',xs[i]?=some x->Pv i U H'->g x U H' fun j J=>tt j J λb N=>if b=true then te j N λy O=>∃ys,O l=some (.lst ys)/\ys.length < sizeLine/\Pv (i+1) j (upd O l (.lst (ys++[y]))) else Pv (i+1) j N)
  (hd:∀ U H',Pv xs.length U H'->Q (.ref l) H'):Gu (Itt K a) g tt te Q z I l:=by
 unfold Gu;refine{λi m U H'=>m=xs.length - i/\i<=xs.length/\Pv i U H',⟨xs.length,by simp,QcB _,Y⟩,?_};rintro i m U H' ⟨rfl,hi,p⟩;have q:=hl i U H' hi p;by_cases G:i < xs.length
 .refine .inr {⟨xs,xs[i],q,by simp[G]⟩,Pv (i+1),fun j J p'=>{xs.length - (i+1),by lia,rq,G,p'},λx H2 y=>?_};obtain⟨e,y⟩:=y;subst e;exact hs i x U _ (y xs q) p
 .have e:i=xs.length:=by lia
  subst e;exact .inl {⟨xs,q,QcA _⟩,hd U H' p}
theorem Fi{K:YD}{a l:Addr}{xs:YG}{g:TG}{tt:TT}{te:TE}{Q:VK}{z:St}{I:Hp}(Pv:YN)
  (Y:Pv 0 z I) (hl:∀i U H',i<=xs.length->Pv i U H'->SqL K H' a xs)
  (hs:∀i x U H',xs[i]?=some x->Pv i U H'->g x U H' fun j J=>tt j J λb N=>if b=true then te j N λy O=>∃ys,O l=some (.lst ys)/\ys.length < sizeLine/\Pv (i+1) j (upd O l (.lst (ys++[y]))) else Pv (i+1) j N)
  (hd:∀ U H',Pv xs.length U H'->Q (.ref l) H'):Gu (Itl K a) g tt te Q z I l:=by
 unfold Gu;refine{λi m U H'=>m=xs.length - i/\i<=xs.length/\Pv i U H',⟨xs.length,by simp,QcB _,Y⟩,?_};rintro i m U H' ⟨rfl,hi,p⟩;have q:=hl i U H' hi p;by_cases G:i < xs.length
 .refine .inr {⟨xs,xs[i],q,by simp[G]⟩,Pv (i+1),fun j J p'=>{xs.length - (i+1),by lia,rq,G,p'},λx H2 y=>?_};obtain⟨e,y⟩:=y;subst e;exact hs i x U _ (y xs q) p
 .have e:i=xs.length:=by lia
  subst e;exact .inl {⟨xs,q,QcA _⟩,hd U H' p}
theorem KJ{lo:Int}{n:Nat}{l:Addr}{g:TG}{tt:TT}{te:TE}{Q:VK}{z:St}{G:Hp}(Pv:YN)(O:Pv 0 z G)
  (hs:∀i U H',i < n->Pv i U H'->g (.int (lo+i)) U H' fun j I=>tt j I λb J=>if b=true then te j J λy N=>∃ys,N l=some (.lst ys)/\ys.length < sizeLine/\Pv (i+1) j (upd N l (.lst (ys++[y]))) else Pv (i+1) j J)
  (Y:∀ U H',Pv n U H'->Q (.ref l) H'):Gu (Itr lo n) g tt te Q z G l:=by
 unfold Gu;refine{λi m U H'=>m=n - i/\i<=n/\Pv i U H',⟨n,by simp,QcB _,O⟩,?_};rintro i m U H' ⟨rfl,hi,p⟩;by_cases q:i < n
 .refine .inr ⟨q,Pv (i+1),fun j I p'=>{n - (i+1),by lia,rq,q,p'},λx H2 y=>?_⟩;obtain⟨e,y⟩:=y;subst e y;exact hs i U _ q p
 .have e:i=n:=by lia
  subst e;exact .inl {QcA _,Y U H' p}
section
variable{X:Cx}
theorem ZK(hc:X.calm=true):DN X (.builtin "max") (λxs H Q=>∃(p:Addr) (j:List Int),xs=[.ref p]/\SqL X.K H p (j.map V.int)/\0 < j.length/\∀M,M∈j->(∀a,a∈j->a<=M)->Q (.int M) H):=by
 intros xs us Q I r h;obtain⟨p,j,rfl,hq,N,aa⟩:=h;obtain⟨u,rfl,rx⟩:=vals1 r;cases rx;obtain⟨O,rv,pl,hz⟩:=I.list hq;have hi:IntsAre O j:=intsAre_of rv;obtain⟨zs,e⟩:=hi.allInts.items;have z:=pl.isList;rw[e] at z;have q:j=zs.toList.map (·.1):=by rw[<-hi.numsOf,<-nums_intItems,<-e]
 have Y:0 < zs.size:=by
  have G:=N;rw[q,QbJ,QaP] at G;exact G
 refine max_intList (I.ok.hd hc) z Y λv h' tk hv hk=>?_;obtain⟨t,rfl⟩:=intItems_at hv;obtain⟨_,h2⟩:=argBest_gt (numAt zs) (zs.size - 1);refine{.int _,H,I.kept hk,⟨t,rq⟩,aa _ ?_ λa J=>?_}
 .rw[q,numAt_eq];exact getD_mem (by rw[QbJ,QaP];have:=(argBest_gt (numAt zs) (zs.size - 1)).1;lia)
 .rw[q] at J;obtain⟨ab,hj,rfl⟩:=mem_getD J;rw[QbJ,QaP] at hj;rw[<-numAt_eq];exact h2 ab 00
theorem qU:∀{us:YE} {j:List Int},IntsAre us j->Vals (j.map V.int) us:=λh=>RV h
theorem gA:DN X (.builtin "sorted") (λxs H Q=>∃(p:Addr) (z:List Int),xs=[.ref p]/\SqL X.K H p (z.map V.int)/\z.length < 64 /\
  ∀(j:List Int) l,j.Perm z->j.Pairwise (·<=·)->H l=none->Q (.ref l) (upd H l (.lst (j.map V.int)))):=by
 intros xs us Q I r h;obtain⟨p,z,rfl,O,ab,q⟩:=h;obtain⟨u,rfl,Y⟩:=vals1 r;cases Y;obtain⟨G,rv,pl,hz⟩:=I.list O;have hi:IntsAre G z:=intsAre_of rv;have aa:=hi.length;refine sorted_ints pl.isList hi 00 λJ j a1 N a3=>?_;obtain⟨e,he⟩:=sortedAll_at s.heap G J;have ae:=N.length_eq;refine{.ref (∅+1),_,I.laid (t':=s.toks) (o:=.lst (j.map V.int)) (λb o q=>sortedAll_old q) (QcF _) ?_,rq,q j _ N a3 (I.hok.fresh (QcF _))};exact{by rw[QbJ];exact Qcu (Al 00),J.toList,e,qU a1,he}
theorem jD:∀{ys:YF} {us:YE},Vals (ys.map V.str) us->StrsAre us ys
 | [],_,.nil=>.nil
 | y::r,_,.cons h t=>by
  obtain⟨j,e⟩:=(show ∃t,_=Value.str y t from h)
  cases e;exact .cons y j (jD t)
def rJoin(K:YD):V->YG->Hp->VK->Prop:=λx vs H Q=>∃(z:Str) (p:Addr) (ys:YF),x=.str z/\vs=[.ref p]/\SqL K H p (ys.map V.str)/\(ys.map (·.length)).sum+ys.length*z.length<=16777216/\Q (.str (Txt.join z ys)) H
theorem AY:MtR X "str.join" (rJoin X.K):=by
 intros x vs v us Q I j q h;obtain⟨z,p,ys,rfl,rfl,G,J,aa⟩:=h;obtain⟨t,rfl⟩:=j;obtain⟨u,rfl,N⟩:=q.one;cases N;obtain⟨ab,O,pl,_⟩:=I.list G;exact join_list pl.isList (jD O) J λY k=>{.str (Txt.join z ys),H,I.tok k,⟨Y,rq⟩,aa}
def Its(z:Str):It:={λi _=>i < z.cps.size,λi H x H'=>H'=H/\∃c,z.cps[i]?=some c/\x=.str ⟨#[c]⟩,λi _=>i=z.cps.size}
def MW(tl:TE):TI:=fun U H R=>tl U H λx H1=>∃z,x=.str z/\R (Its z) H1
end
section
variable{X:Cx}{tg:Expr}
theorem aX{P:Program}{w:World}{K:YD}{tg:Expr}(z:Str)(t:Tok)(it:Addr)(ty:String)(ae:["enumerate","zip","dict_itemiterator","dict_reverseitemiterator","odict_iterator","itertools.zip_longest","itertools.pairwise"].contains ty=false)
  (W:∀A':Around,A'.handled=none->Walks P w A' it [it] [it] z.cps.size (SignAt z) (λi h=>h.IsStrIter it ty z t i))
  (ab:∀(A:Around) (i:Nat) (s:Shared) (Q:YA) (E:YA),s.heap.IsStrIter it ty z t i->Q (.ref it) s->wpAny (model P w) A (pyIter (.ref it)) Q E s) :
  Turn P w K tg (Its z) [it] it (λi h=>h.IsStrIter it ty z t i) where
 mem:=Qbc.mpr rfl
 obj:=λi h st b j=>by
  cases Qbc.mp j;obtain⟨o,e,c,d⟩:=st;exact⟨o,e,λv z'=>by rw[d] at z';cases z'⟩
 keep:=λi h h' st k=>by
  obtain⟨o,e,r⟩:=st;exact⟨o,k it (Qbc.mpr rfl) o e,r⟩
 item:=by
  intro X G hw J hc i jb s U H E I q st N;subst G hw J;obtain⟨O,Y,f2,f3,f4,f5⟩:=q it (Qbc.mpr rfl);refine (W X.A (I.ok.hd hc)).item i s _ _ N st λv h' tk hv aa kk=>?_;obtain⟨c,u,af,rfl⟩:=hv;have I1:Inv X jb U H { s with heap:=h',toks:=tk }:=I.turned (λb o j e=>kk b o (λhm=>j (Qbc.mp hm)) e) O Y f3 f4 f5;obtain⟨o,e,cl,d⟩:=id aa;exact⟨_,rq,Uy (s:={ s with heap:=h',toks:=tk }) e cl d ae {.str ⟨#[c]⟩,H,I1,⟨u,rq⟩,⟨rq,c,af,rq⟩,aa,λb j=>(q b j).1}⟩
 done:=by
  intro X G hw J hc i jb s U H E I q st N;subst G hw J;obtain⟨O,Y,f2,f3,f4,f5⟩:=q it (Qbc.mpr rfl);cases (show i=z.cps.size from N)
  exact (W X.A (I.ok.hd hc)).done s _ _ st λh' tk kk=>⟨rq,I.turned (λb o j e=>kk b o (λhm=>j (Qbc.mp hm)) e) O Y f3 f4 f5⟩
 self:=λA i s Q E st h=>ab A i s Q E st h
theorem qd{l:Expr}{tl:TE}(N:PE X l tl):PI X tg l (MW tl):=by
 intros R aa h;refine thn (N jb s U H _ aa h) λv j zz=>?_;obtain⟨x,H1,G,O,z,e,q⟩:=zz;subst e;obtain⟨t,rfl⟩:=O;have fp:∀o:Obj,∀b∈[j.heap.objs.size],G8 X jb H1 b:=λo b Y=>by
  cases Qbc.mp Y;exact G.QD (QcA _) (G.hok.fresh (QcA _))
 cases J:z.cps.all (· < 128) with
 | true=>
  refine wpAny_pyIter_ascii J ?_;exact⟨j.heap.objs.size,[j.heap.objs.size],_,_,H1,rq,G.kept (t':=j.toks) λb o e=>Qax _ e,aX z t _ "str_ascii_iterator" 05 (λA' I=>Walks.strAscii I _ z t) (λ_ _ _ _ _ st h=>wpAny_pyIter_striter_ascii st h),
   {_,QaM _ rfl,rq,rq},fp { cls:=.none,data:=.fields #[] },q⟩
 | false=>
  refine wpAny_pyIter_wide J ?_;exact⟨j.heap.objs.size,[j.heap.objs.size],_,_,H1,rq,G.kept (t':=j.toks) λb o e=>Qax _ e,aX z t _ "str_iterator" 05 (λA' I=>Walks.strWide I _ z t) (λ_ _ _ _ _ st h=>wpAny_pyIter_striter_wide st h),
   {_,QaM _ rfl,rq,rq},fp { cls:=.none,data:=.fields #[] },q⟩
theorem fY{z:Str}{l:Addr}{g:TG}{tt:TT}{te:TE}{Q:VK}{q:St}{I:Hp}(Pv:YN)(Y:Pv 0 q I)
  (hs:∀i c U H',z.cps[i]?=some c->Pv i U H'->g (.str ⟨#[c]⟩) U H' fun j J=>tt j J λb N=>if b=true then te j N λy O=>∃ys,O l=some (.lst ys)/\ys.length < sizeLine/\Pv (i+1) j (upd O l (.lst (ys++[y]))) else Pv (i+1) j N)
  (hd:∀ U H',Pv z.cps.size U H'->Q (.ref l) H'):Gu (Its z) g tt te Q q I l:=by
 unfold Gu;refine{λi m U H'=>m=z.cps.size - i/\i<=z.cps.size/\Pv i U H',⟨z.cps.size,by simp,QcB _,Y⟩,?_};rintro i m U H' ⟨rfl,hi,p⟩;by_cases G:i < z.cps.size
 .refine .inr ⟨G,Pv (i+1),fun j J p'=>{z.cps.size - (i+1),by lia,rq,G,p'},λx H2 y=>?_⟩;obtain⟨e,c,hc,rfl⟩:=y;subst e;exact hs i c U _ hc p
 .have e:i=z.cps.size:=by lia
  subst e;exact .inl ⟨rq,hd U H' p⟩
end
end L2
namespace HT
open PySem PyProof.Rows
section
variable{prog:Program}{w:World}{A:Around}{E:YA}{s:Shared}
theorem Vb{t q:Addr}{items:Array Value}{z G:Value}{lo hi:Option Int}{Q:YA}(j:IsTup s.heap t items)(hs:s.heap.IsSliceOf q z G .none)(pl:IsPart z lo)(O:IsPart G hi)
  (hw:sIx items.size 0 lo=0/\sIx items.size items.size hi=items.size) (h:Q (.ref t) s):wpAny 01 A (getItem (.ref t) (.ref q)) Q E s:=by
 obtain⟨os,I,J,Y⟩:=id hs;have N:s.TypeIs (.ref q) "slice":=⟨os,I,J⟩;unfold getItem
 try with_reducible refine Qck ?_
 first | refine QcG (QcH ?_) | skip
 refine QcG (wpAny_sequenceKey j.typeIs 05 ?_);refine QcG (Qas (name:=Str.ofString "__getitem__") j.typeIs Qab (QbC Qab j.typeIs entry_tuple_getitem ?_ (args_tuple_getitem _ _)));show wpAny _ _ (Builtin.Tuple.tupleItemsOf (.ref t) >>= _) _ _ s;refine QcG (tupleItemsOf_ j ?_);refine QcG (Qcy N ?_);rw[if_pos 05];refine QcG (Oc hs pl O ?_);rw[hw.1,hw.2];show wpAny _ _ (if (((0:Nat):Int) == 0&&(1:Int) == 1&&(items.size - 0) == items.size)=true then _ else _) _ _ s
 rw[if_pos 04];refine QcG ?_;unfold Builtin.Tuple.tupleIsExact;refine QcG (Qcy j.typeIs (QcH ?_));rw[if_pos 05];exact QcG (wpAny_rule (QcH {_,rq,QcH h}))
end
end HT
namespace L2
open PySem PySem.Spec PyProof.Rows
section
variable{X:Cx}
theorem Yc:SlR X (λx lo hi H Q=>∃a xs,x=.ref a/\H a=some (.tup xs)/\∀p H',H' p=some (.tup (JM xs lo hi))->Same H H'->Q (.ref p) H'):=by
 intros x v Y vu lo hi sl Q I z hs pl G h;obtain⟨a,xs,rfl,j,q⟩:=h;by_cases hw:HT.sIx xs.length 0 lo=0/\HT.sIx xs.length xs.length hi=xs.length
 .cases z;obtain⟨O,r,J,hz⟩:=I.tuple (SqT.of j);have N:O.toArray.size=xs.length:=by rw[Qbl];exact r.length.symm
  refine{"tuple",_,Qab.lookup,J.typeIs,?_};refine HT.Vb J hs pl G (by rw[N];exact hw) {.ref a,H,I,rq,q a H ?_ (Same.refl H)};have e:JM xs lo hi=xs:=by unfold JM;rw[hw.1,hw.2];simp
  rw[e];exact j
 .exact CC jb s U H _ v Y vu lo hi sl Q I z hs pl G ⟨a,xs,rq,SqT.of j,hw,λp hp=>q p _ Ab (λc o e=>by rw[Ao (Aw e hp)];exact e)⟩
theorem pQ:SlR X (λx lo hi H Q=>∃z,x=.str z/\z.length<=sizeLine/\Q (.str (Txt.slice z lo hi)) H):=by
 intros x v vl vu lo hi sl Q aa Y hs pl N h;obtain⟨z,rfl,G,ab⟩:=h;obtain⟨t,rfl⟩:=Y;refine{"str",_,F.slot_str_getitem.lookup,typeIs_str _ _ _,?_};have q:∀I k,EP X jb U Q (.str (Txt.slice z lo hi) I) { s with toks:=k }:=λI k=>{.str (Txt.slice z lo hi),H,aa.tok k,⟨I,rq⟩,ab};cases pl with
 | none=>
  cases N with
  | none=>exact Qav (l:=none) (u:=none) (st:=none) hs rfl (post_val_or_str {Qcs (Txt.slice_le z _ _) G,q})
  | int j J=>exact Qav (l:=none) (u:=some (j,J)) (st:=none) hs rfl (post_val_or_str {Qcs (Txt.slice_le z _ _) G,q})
 | int i O=>
  cases N with
  | none=>exact Qav (l:=some (i,O)) (u:=none) (st:=none) hs rfl (post_val_or_str {Qcs (Txt.slice_le z _ _) G,q})
  | int j J=>exact Qav (l:=some (i,O)) (u:=some (j,J)) (st:=none) hs rfl (post_val_or_str {Qcs (Txt.slice_le z _ _) G,q})
end
structure Nq(K:YD)(C:Addr)(m qn:Str)(st:Stmt)(ps:YF):Prop where
 ex:∃(f:Addr) (fd:FuncData),Fun K m qn st f fd/\Meth K C m f/\Binds K fd ps []
structure FN(P:Program)(w:World)(K:YD)(mg:YB)(base:Heap)(C:Addr)(m:Str)(k:Nat)(ps:YF)(sp:Sp):Prop where
 ex:∃(f:Addr) (fd:FuncData),Meth K C m f/\Binds K fd ps []/\Gy P w K mg base CX0 k f fd ps sp
structure pq(P:Program)(w:World)(K:YD)(mg:YB)(base:Heap)(C:Addr)(k:Nat)(ps:YF)(sp:Sp):Prop where
 ex:∃(f:Addr) (fd:FuncData),Mk K C f/\Binds K fd ps []/\Gy P w K mg base CX0 k f fd ps sp
theorem Nq.good{P:Program}{w:World}{K:YD}{mg:YB}{base:Heap}{C:Addr}{m q:Str}{st:Stmt}{ps N:YF}{k:Nat}{sp:Sp}(c:Nq K C m q st ps)(S:Ay N ps (Ai st))(len:∀vs H Q E,sp vs H Q E->vs.length=ps.length)
  (z:∀(f:Addr) (j:Value) (A:Around) (outer:List Env) (s:Shared) (H:Hp) (vs:YG) (Q:VK) (E:XK),Cd k (A.deeper (envOfC q (Ai st) ∅ f j))->sp vs H Q E ->
   ∃t,PSs (Lg CX0 P w K mg base N q (Ai st) f j A outer s H E).nox (Dd st) t/\t { nx:=λ_ H'=>Q .non H',rt:=Q } (start N vs) H):FN P w K mg base C m (k+1) ps sp:=by
 obtain⟨f,fd,F,M,b⟩:=c.ex;exact⟨f,fd,M,b,F.ok S len λj A outer s H vs Q E G h=>z f j A outer s H vs Q E G h⟩
theorem yR{X:Cx}{pl:Sem Bool}{k k':Nat}{C:Addr}{ps:YF}{sp:Sp}{m:Str}{apos pos:Pos}{o e:Expr}{es:YJ}{ta:TE}{t:TA}(G:PE X o ta)(c:Cls X.K C)(g:FN X.prog X.w X.K X.mg X.base C m k ps sp)(J:Cd k' X.A)(N:PA X (e::es) t)(O:k<=k':=by decide)
  (q:starEach (e::es) X.env=(false,eval e X.env)::starEach es X.env:=by rfl) (z:(backTo pos (starEach es X.env)).any (·.1)=false:=by rfl)
  (Y:eval (.Call (.Attribute o m apos) (e::es) [] pos) X.env=(do
   let j <-eval o X.env
   standAt apos.atName
   let (f,first) <-holding [j] (getMethod j m pl)
   callWith pos f first (backTo pos (starEach (e::es) X.env)) (backToKw pos (keywordEach [] X.env))):=by rfl) :
  PE X (.Call (.Attribute o m apos) (e::es) [] pos) (aG C m sp [] E0 ta t):=by
 intros Q I h;obtain⟨f,fd,M,b,F⟩:=g.ex;exact AC (pl:=pl) G c M F (J.mono O) b .nil aL N q z Y jb s U H Q I h
theorem CU{X:Cx}{pl:Sem Bool}{k k':Nat}{C:Addr}{ps:YF}{sp:Sp}{m:Str}{apos pos:Pos}{o:Expr}{ta:TE}(q:PE X o ta)(c:Cls X.K C)(g:FN X.prog X.w X.K X.mg X.base C m k ps sp)(z:Cd k' X.A)(G:k<=k':=by decide)
  (J:eval (.Call (.Attribute o m apos) [] [] pos) X.env=(do
   let j <-eval o X.env
   standAt apos.atName
   let (f,first) <-holding [j] (getMethod j m pl)
   callWith pos f first (backTo pos (starEach [] X.env)) (backToKw pos (keywordEach [] X.env))):=by rfl) :
  PE X (.Call (.Attribute o m apos) [] [] pos) (aG C m sp [] E0 ta MK):=by
 intros Q I h;obtain⟨f,fd,M,b,F⟩:=g.ex;exact vo (pl:=pl) q c M F (z.mono G) b .nil aL J jb s U H Q I h
theorem F6{X:Cx}{k k':Nat}{C:Addr}{ps:YF}{sp:Sp}{x:Str}{p pos:Pos}{e:Expr}{es:YJ}{t:TA}(g:pq X.prog X.w X.K X.mg X.base C k ps sp)(z:Cd k' X.A)(G:X.mg x=some (.ref C))(J:PA X (e::es) t)(N:k+1<=k':=by decide)(O:Gl X x:=by rfl)
  (j:'f'=false:=by decide) (Y:starEach (e::es) X.env=(false,eval e X.env)::starEach es X.env:=by rfl) (q:(backTo pos (starEach es X.env)).any (·.1)=false:=by rfl) :
  PE X (.Call (.Name x p) (e::es) [] pos) (yN C sp [] E0 t):=by
 intros Q I h;obtain⟨f,fd,M,b,F⟩:=g.ex;exact AD M F (z.mono N) O G b .nil aL J j Y q jb s U H Q I h
theorem SQ{X:Cx}{x:Str}{v:V}{pos:Pos}(j:Gl X x)(q:∃u,X.mg x=some u/\RelV v u)(z:'f'=false:=by decide):PE X (.Name x pos) (tC v):=by
 obtain⟨u,h,r⟩:=q;exact Fj j h r z
theorem Tn:∀{fs:List (Str×V)} {i:Nat} {f:Str} {v:V},(fs.map (·.1)).Nodup->fs[i]?=some (f,v)->fs.lookup f=some v
 | [],_,_,_,_,h=>by simp at h
 | (g,u)::fs,0,f,v,_,h=>by simp at h;obtain⟨rfl,rfl⟩:=h;simp[List.lookup]
 | (g,u)::fs,i+1,f,v,j,h=>by
  rw[Qch,QbQ] at j;have h':fs[i]?=some (f,v):=by simpa using h
  have z:f∈fs.map (·.1):=Qcq.mpr {(f,v),QaH h',rq};have q:(f == g)=false:=QaN.mpr λe=>j.1 (e ▸ z);rw[List.lookup,q];exact Tn j.2 h'
theorem zm:∀{fs:List (Str×V)} {m:Str},m∉fs.map (·.1)->fs.lookup m=none
 | [],_,_=>rfl
 | (g,u)::fs,m,h=>by
  rw[Qch,Qcg] at h;have j:(m == g)=false:=QaN.mpr λe=>h (.inl e);rw[List.lookup,j];exact zm λz=>h (.inr z)
theorem Tj{y:V}:∀{fs:List (Str×V)} {f:Str},f∉fs.map (·.1)->Ib f y fs=fs++[(f,y)]
 | [],_,_=>rfl
 | (g,u)::fs,f,h=>by
  rw[Qch,Qcg] at h;show (if g=f then (g,y)::fs else (g,u)::Ib f y fs)=_
  rw[if_neg λe=>h (.inl e.symm),Tj λz=>h (.inr z)];rfl
def Ak(H H':Hp):Prop:=∀c xs,H c=some (.tup xs)->H' c=some (.tup xs)
theorem Ak.trans{H H1 H2:Hp}(a:Ak H H1)(b:Ak H1 H2):Ak H H2:=λc xs e=>b c xs (a c xs e)
theorem Ak.of{H H1:Hp}(s:Same H H1):Ak H H1:=λc xs e=>s c _ e
theorem Ak.upd{H:Hp}{b:Addr}{o:HO}(h:∀xs,H b≠some (.tup xs)):Ak H (upd H b o):=λc xs e=>by
 have n:c≠b:=λz=>h xs (z ▸ e);rw[Ao n];exact e
def Ah(b:Addr)(H H':Hp):Prop:=∀c o,H c=some o->c≠b->H' c=some o
theorem Ah.trans{b:Addr}{H H1 H2:Hp}(x:Ah b H H1)(y:Ah b H1 H2):Ah b H H2:=λc o e n=>y c o (x c o e n) n
theorem Ah.of{b:Addr}{H H1:Hp}(x:Same H H1):Ah b H H1:=λc o e _=>x c o e
theorem Ah.refl(b:Addr)(H:Hp):Ah b H H:=λ_ _ e _=>e
theorem Ah.upd{b:Addr}{H:Hp}{o:HO}:Ah b H (upd H b o):=λc u e n=>by rw[Ao n];exact e
theorem Ah.tup{b:Addr}{H H':Hp}(x:Ah b H H')(h:∀xs,H b≠some (.tup xs)):Ak H H':=λc xs e=>x c _ e λz=>h xs (z ▸ e)
theorem Ah.free{b:Addr}{H H':Hp}(x:Ah b H H')(j:∃o,H' b=some o){l:Addr}(h:H' l=none):H l=none:=by
 cases e:H l with
 | none=>rfl
 | some o=>
  by_cases n:l=b
  .obtain⟨o',q⟩:=j;rw[n,q] at h;cases h
  .rw[x l o e n] at h;cases h
def FU(K:YD)(ta tv:TE)(f:Str):TS:=λD U H=>tv U H λy H1=>ta U H1 λx H2=>∃a C dx fs fs',x=.ref a/\H2 a=some (.ins C dx fs)/\Cls K C/\Js K C f/\fs.length < 1000/\Ib f y fs=fs' /\
 ∀H',H' a=some (.ins C dx fs')->Ah a H2 H'->D.nx U H'
section
variable{X:Cx}{o e value:Expr}{f:Str}{pos pos' tpos:Pos}{ta tv:TE}
theorem PE.weak{ta ta':TE}(h:PE X e ta)(i:∀ U H Q,ta' U H Q->ta U H Q):PE X e ta':=λjb s U H Q I q=>h jb s U H Q I (i U H Q q)
theorem JT(j:PE X o ta)(q:PE X value tv)(hs:swapsWith value (some (.Attribute o f pos')) pos.line X.env=pure false):PS X (.Assign [.Attribute o f pos'] value pos) (FU X.K ta tv f):=by
 intros D aa h;refine plainObj_wpAny_Assign_Attribute (thn (q jb s U H _ aa h) λu z zz=>?_) hs;obtain⟨y,H1,G,I,ab⟩:=zz;refine thn (j jb z U H1 _ G ab) λJ s2 zz=>?_;obtain⟨x,H2,N,O,a,C,dx,fs,fs',ex,Y,c,n,l,ep,q2⟩:=zz;subst ex;obtain rfl:J=Value.ref a:=O;refine mj N Y c n l I λs3 I3=>⟨U,_,I3,q2 _ ?_ Ah.upd⟩;rw[Ab,ep]
end
theorem PS.weak{X:Cx}{s:Stmt}{t t':TS}(h:PS X s t)(i:∀D U H,t' D U H->t D U H):PS X s t':=λjb j U H D I q=>h jb j U H D I (i D U H q)
section
variable{X:Cx}{K:YD}
theorem NT(h:X.K=K):IxR X (CM K):=h ▸ BX
theorem xu(h:X.K=K):IxR X (CO K):=h ▸ Ds
theorem WR(h:X.K=K):OpR X (compareOp .In) (rIn K false):=h ▸ S6
theorem RG(h:X.K=K):OpR X (compareOp .NotIn) (rIn K true):=h ▸ dw
theorem jQ{e:Expr}{f:Str}{pos:Pos}{ta:TE}(h:X.K=K)(j:PE X e ta)(q:attributeBase e f X.env (eval e X.env)=eval e X.env):PE X (.Attribute e f pos) (B9 K ta f):=h ▸ El j q
end
end L2
namespace PySem
open Sem (wp)
section
variable{prog:Program}{w:World}{A:Around}{E:YA}{s:Shared}
end
end PySem
namespace L2
open PySem PySem.Spec PyProof.Rows
section
variable{X:Cx}{pos:Pos}
end
structure Has(H:Hp)(l:List (Addr×HO)):Prop where
 nd:(l.map (·.1)).Nodup
 at_:∀x∈l,H x.1=some x.2
theorem Has.Gr{H:Hp}{l:List (Addr×HO)}{a:Addr}(h:Has H l)(e:H a=none):a∉l.map (·.1):=λz=>by
 obtain⟨x,j,rfl⟩:=Qcq.mp z;rw[h.at_ x j] at e;cases e
theorem Has.new{H H':Hp}{l:List (Addr×HO)}{a:Addr}{o:HO}(h:Has H l)(n:H a=none)(s:Same H H')(e:H' a=some o):Has H' (l++[(a,o)]):=by
 refine{?_,λx j=>?_}
 .rw[QbL,Qbu];refine⟨h.nd,by simp,λx j y q z=>?_⟩;have:y=a:=by simpa using q
  subst this;exact h.Gr n (z ▸ j)
 .rcases QbK.mp j with z | z
  .exact s _ _ (h.at_ x z)
  .have:x=(a,o):=by simpa using z
   subst this;exact e
theorem Has.nil(H:Hp):Has H []:=⟨Qcc,λx j=>by cases j⟩
theorem Same.Bq{j H H':Hp}{a:Addr}(s:Same j H)(b:Ah a H H')(f:j a=none):Same j H':=λc o e=>b _ _ (s _ _ e) λz=>by rw[z,f] at e;cases e
section
variable{κ : Type} [DecidableEq κ]
def Dj(kvs:List (κ×V))(k:κ):Option V:=(kvs.find? λj=>decide (j.1=k)).map (·.2)
def putK(kvs:List (κ×V))(k:κ)(v:V):List (κ×V):=
 if (kvs.any λj=>decide (j.1=k))=true then kvs.map (λj=>if j.1=k then (j.1,v) else j) else kvs++[(k,v)]
theorem Jy{p:κ×V}{r:List (κ×V)}{k:κ}(e:p.1=k):Dj (p::r) k=some p.2:=by simp[Dj,QbY,e]
theorem Hf{p:κ×V}{r:List (κ×V)}{k:κ}(e:¬p.1=k):Dj (p::r) k=Dj r k:=by simp[Dj,QbY,e]
theorem N6(k:κ):∀kvs:List (κ×V),(kvs.any λj=>decide (j.1=k))=(Dj kvs k).isSome
 | []=>rfl
 | p::r=>by
  rw[Qcl];by_cases e:p.1=k
  .simp only[Jy e,Qca e,Bool.true_or,Option.isSome_some]
  .rw[Hf e,QbO e,Bool.false_or];exact N6 k r
theorem Lp(kvs:List (κ×V))(k:κ)(v:V):(putK kvs k v).length<=kvs.length+1:=by
 unfold putK;split
 .rw[QbJ];lia
 .rw[QaV,Qbz,List.length_nil];lia
theorem K6{kvs:List (κ×V)}{k:κ}(v:V)(h:Dj kvs k=none):putK kvs k v=kvs++[(k,v)]:=by
 unfold putK;rw[N6,h];exact if_neg 05
theorem Ih.Mw{o:Option V}{u:Option Value}(r:Ih o u):o.isSome=u.isSome:=by
 cases o with
 | none=>cases u with
  | none=>rfl
  | some _=>exact (show False from r).elim
 | some _=>cases u with
  | none=>exact (show False from r).elim
  | some _=>rfl
theorem Ih.getD{o:Option V}{u:Option Value}{d:V}{d':Value}(r:Ih o u)(j:RelV d d'):RelV (o.getD d) (u.getD d'):=by
 cases o with
 | none=>cases u with
  | none=>exact j
  | some _=>exact (show False from r).elim
 | some _=>cases u with
  | none=>exact (show False from r).elim
  | some _=>exact r
theorem KV.val{kvs:List (κ×V)}{vs:List (κ×Value)}(r:KV kvs vs)(k:κ):Ih (Dj kvs k) (valueAt vs k):=by
 unfold KV at r
 induction r with
 | nil=>exact True.intro
 | @cons p q ps j h t I=>
  obtain⟨h1,h2⟩:=h;by_cases e:p.1=k
  .have G:q.1=k:=h1.symm.trans e;have b:valueAt (q::j) k=some q.2:=by simp[valueAt,QbY,G]
   rw[Jy e,b];exact h2
  .have G:¬q.1=k:=λz=>e (h1.trans z);have b:valueAt (q::j) k=valueAt j k:=by simp[valueAt,QbY,G]
   rw[Hf e,b];exact I
theorem KV.any{kvs:List (κ×V)}{vs:List (κ×Value)}(r:KV kvs vs)(k:κ):(kvs.any λj=>decide (j.1=k))=vs.any λj=>decide (j.1=k):=by
 unfold KV at r
 induction r with
 | nil=>rfl
 | cons h t q=>rw[Qcl,Qcl,q,h.1]
theorem KV.repl{kvs:List (κ×V)}{vs:List (κ×Value)}(r:KV kvs vs)(k:κ){y:V}{u:Value}(G:RelV y u) :
  KV (kvs.map λj=>if j.1=k then (j.1,y) else j) (vs.map λj=>if j.1=k then (j.1,u) else j):=by
 unfold KV at r ⊢
 induction r with
 | nil=>exact .nil
 | @cons p q ps J h t I=>
  rw[Qch,Qch];refine .cons ?_ I;obtain⟨h1,h2⟩:=h;by_cases e:p.1=k
  .rw[if_pos e,if_pos (h1.symm.trans e)];exact⟨h1,G⟩
  .rw[if_neg e,if_neg (λz=>e (h1.trans z))];exact⟨h1,h2⟩
theorem KV.put{kvs:List (κ×V)}{vs:List (κ×Value)}(r:KV kvs vs)(k:κ){y:V}{u:Value}(j:RelV y u):KV (putK kvs k y) (stored vs k u):=by
 unfold putK stored;rw[r.any k];by_cases e:(vs.any λq=>decide (q.1=k))=true
 .rw[if_pos e,if_pos e];exact r.repl k j
 .rw[if_neg e,if_neg e];exact QcC r ⟨rq,j⟩
theorem KV.length{kvs:List (κ×V)}{vs:List (κ×Value)}(r:KV kvs vs):kvs.length=vs.length:=Qcf r
end
theorem PB{P:Program}{w:World}{k:Key}{u:Value}(r:RelV (kV k) u):(Bp P w).is k u=true:=by
 cases k with
 | inl i=>obtain⟨t,e⟩:=(show ∃t,u=Value.int i t from r);subst e;exact iR P w i t
 | inr x=>obtain⟨t,e⟩:=(show ∃t,u=Value.str x t from r);subst e;exact iQ P w x t
theorem Zx{P:Program}{w:World}:∀{ks:List Key} {us:YE},Vals (ks.map kV) us->ItemsAre (Bp P w) ks us
 | [],_,r=>by rw[Qcx] at r;cases r;exact .nil
 | k::ks,_,r=>by
  rw[Qch] at r;cases r with
  | cons h t=>exact .cons (PB h) (Zx t)
abbrev YL:=List (List Key×V)
abbrev KT(H:Hp):YL->List (List Key×Addr×Value)->Prop:=Paired λp q=>p.1=q.1/\H q.2.1=some (.tup (p.1.map kV))/\RelV p.2 q.2.2
theorem KT.val{H:Hp}{kvs:YL}{xs:List (List Key×Addr×Value)}(r:KT H kvs xs)(k:List Key):Ih (Dj kvs k) ((atKey xs k).map (·.2)):=by
 induction r with
 | nil=>exact True.intro
 | @cons p q ps j h t I=>
  obtain⟨h1,_,h2⟩:=h;by_cases e:p.1=k
  .have G:q.1=k:=h1.symm.trans e;have b:atKey (q::j) k=some q.2:=by simp[atKey,QbY,G]
   rw[Jy e,b];exact h2
  .have G:¬q.1=k:=λz=>e (h1.trans z);have b:atKey (q::j) k=atKey j k:=by simp[atKey,QbY,G]
   rw[Hf e,b];exact I
theorem KT.repl{H:Hp}{kvs:YL}{xs:List (List Key×Addr×Value)}(r:KT H kvs xs)(k:List Key){y:V}{u:Value}(G:RelV y u) :
  KT H (kvs.map λj=>if j.1=k then (j.1,y) else j) (xs.map (putAt k u)):=by
 induction r with
 | nil=>exact .nil
 | @cons p q ps N h t I=>
  rw[Qch,Qch];refine .cons ?_ I;obtain⟨h1,h2,J⟩:=h;unfold putAt;by_cases e:p.1=k
  .rw[if_pos e,if_pos (h1.symm.trans e)];exact⟨h1,h2,G⟩
  .rw[if_neg e,if_neg (λz=>e (h1.trans z))];exact⟨h1,h2,J⟩
theorem KT.put{H:Hp}{kvs:YL}{xs:List (List Key×Addr×Value)}(r:KT H kvs xs)(k:List Key){b:Addr}{y:V}{u:Value}(z:H b=some (.tup (k.map kV)))(j:RelV y u) :
  KT H (putK kvs k y) (storedH xs k b u):=by
 have e:(kvs.any λG=>decide (G.1=k))=(atKey xs k).isSome:=by
  rw[N6,(r.val k).Mw,Option.isSome_map]
 unfold putK storedH;rw[e];by_cases q:(atKey xs k).isSome=true
 .rw[if_pos q,if_pos q];exact r.repl k j
 .rw[if_neg q,if_neg q];exact QcC r ⟨rq,z,j⟩
theorem KT.keeps{H H':Hp}{kvs:YL}{xs:List (List Key×Addr×Value)}(r:KT H kvs xs)(j:∀b ys,H b=some (.tup ys)->H' b=some (.tup ys)):KT H' kvs xs:=
 Paired.Ax r λ_ _ z=>⟨z.1,j _ _ z.2.1,z.2.2⟩
section
variable{P:Program}{w:World}{H:Hp}{h:Heap}{a:Addr}
theorem yQ{u:HO}(j:HOk P w H h)(e:Rd H a u):Bs P w H h a u:=e.ok j
abbrev YM:=List (Key×V)
theorem Nk{kvs:YM}(j:HOk P w H h)(e:Rd H a (.dK kvs)):kvs.length<=sizeLine/\(a == sysModules)=false/\∃vs,KV kvs vs/\h.DictOf (Bp P w) a vs:=
 show Bs P w H h a (.dK kvs) from yQ j e
theorem zx{kvs:YM}(j:HOk P w H h)(e:H a=some (.dK kvs)):kvs.length<=sizeLine/\(a == sysModules)=false/\∃vs,KV kvs vs/\h.DictOf (Bp P w) a vs:=Nk j (.inl e)
theorem KD{ks:List Key}(q:HOk P w H h)(e:H a=some (.tup (ks.map kV))):(tupleKind (Bp P w)).is h ks a:=by
 obtain⟨_,j,r,o,h1,h2,n,z⟩:=(show Bs P w H h a (.tup (ks.map kV)) from q a _ e)
 exact⟨o,j.toArray,n,h1,h2,z,by simpa using Zx r⟩
theorem Qd{kvs:YL}(z:HOk P w H h)(e:Rd H a (.dT kvs)):kvs.length<=sizeLine/\(a == sysModules)=false /\
  ∃xs,KT H kvs xs/\h.DictOfH (tupleKind (Bp P w)) a xs:=by
 obtain⟨aa,y,xs,r,o,es,J,h1,h2,N,O,Y⟩:=(show Bs P w H h a (.dT kvs) from yQ z e)
 refine⟨aa,y,xs,r,o,es,J,h1,h2,N,O,λx j=>?_,Y⟩;have I:∀{l:YL} {m:List (List Key×Addr×Value)},KT H l m->∀x∈m,(tupleKind (Bp P w)).is h x.1 x.2.1:=by
  intro l m q
  induction q with
  | nil=>intro x j;exact nomatch j
  | @cons p q ps qs G t ih=>
   intro x j;rcases Qcg.mp j with e | j
   .subst e;exact KD z (by rw[<-G.1];exact G.2.1)
   .exact ih x j
 exact I r x j
theorem zq{kvs:YL}(j:HOk P w H h)(e:H a=some (.dT kvs)):kvs.length<=sizeLine/\(a == sysModules)=false /\
  ∃xs,KT H kvs xs/\h.DictOfH (tupleKind (Bp P w)) a xs:=Qd j (.inl e)
end
def Dt(H:Hp)(a:Addr)(y:V)(r:Option V):Prop:=
 (∃kvs k,Rd H a (.dK kvs)/\y=kV k/\r=Dj kvs k)\/∃kvs k b,Rd H a (.dT kvs)/\y=.ref b/\H b=some (.tup (k.map kV))/\r=Dj kvs k
def M7(H:Hp)(a:Addr)(y v:V)(H':Hp):Prop:=
 (∃kvs k,H a=some (.dK kvs)/\y=kV k/\kvs.length < sizeLine/\H'=upd H a (.dK (putK kvs k v))) \/
 ∃kvs k b,H a=some (.dT kvs)/\y=.ref b/\H b=some (.tup (k.map kV))/\kvs.length < sizeLine/\H'=upd H a (.dT (putK kvs k v))
theorem Dt.k{H:Hp}{a:Addr}{kvs:YM}{k:Key}(e:H a=some (.dK kvs)):Dt H a (kV k) (Dj kvs k):=.inl ⟨kvs,k,.inl e,rfl,rfl⟩
theorem Dt.t{H:Hp}{a b:Addr}{kvs:YL}{k:List Key}(e:H a=some (.dT kvs))(j:H b=some (.tup (k.map kV))):Dt H a (.ref b) (Dj kvs k):=.inr ⟨kvs,k,b,.inl e,rfl,j,rfl⟩
theorem M7.k{H:Hp}{a:Addr}{kvs:YM}{k:Key}{v:V}(e:H a=some (.dK kvs))(j:kvs.length < sizeLine):M7 H a (kV k) v (upd H a (.dK (putK kvs k v))):=.inl ⟨kvs,k,e,rfl,j,rfl⟩
theorem M7.t{H:Hp}{a b:Addr}{kvs:YL}{k:List Key}{v:V}(e:H a=some (.dT kvs))(j:H b=some (.tup (k.map kV)))(q:kvs.length < sizeLine) :
  M7 H a (.ref b) v (upd H a (.dT (putK kvs k v))):=.inr ⟨kvs,k,b,e,rq,j,q,rq⟩
section
variable{X:Cx}{jb:YC}{U : St}{H:Hp}{s:Shared}{a:Addr}{y v:V}{u r:Value}{o:Option V}{A:Around}{E:YA}
theorem Inv.big(I:H^^^s):sysModules < ∅:=by
 have h:mainGlobals < ∅:=(I.mod.glob.keeps I.bk).lt;exact Nat.lt_trans 05 h
theorem sy{Q:YA}(Y:A.units+1 < cLine)(I:H^^^s)(g:Dt H a y (some v))(N:RelV y u)(h:∀j s',Inv X jb U H s'->RelV v j->Q j s') :
  wpAny (model X.prog X.w) A (getItem (.ref a) u) Q E s:=by
 rcases g with⟨kvs,k,e,G,l⟩|⟨kvs,k,b,e,G,eb,l⟩
 .subst G;obtain⟨aa,hd,vs,q,J⟩:=Nk I.hok e;obtain⟨j,hw,z⟩:=Ih.some_of (v:=v) (o:=valueAt vs k) (by rw[l];exact q.val k);exact wpAny_getItem_of (PB N) J.mapOf hw (h j _ (I.tok _) z)
 .subst G;cases (show u=Value.ref b from N)
  obtain⟨aa,hd,xs,q,J⟩:=Qd I.hok e;obtain⟨j,hw,z⟩:=Ih.some_of (v:=v) (o:=(atKey xs k).map (·.2)) (by rw[l];exact q.val k);obtain⟨p,hp,O⟩:=QaB.mp hw;refine wpAny_getItem_heap (Qbi Y) (KD I.hok eb) J hp ?_;rw[O];exact h j _ (I.tok _) z
theorem O0{Q:YA}(O:A.units+1 < cLine)(I:H^^^s)(g:Dt H a y o)(N:RelV y u)(h:∀s',Inv X jb U H s'->Q (.bool o.isSome) s') :
  wpAny (model X.prog X.w) A (compareOp .In u (.ref a)) Q E s:=by
 rcases g with⟨kvs,k,e,z,l⟩|⟨kvs,k,b,e,z,Y,l⟩
 .subst z;obtain⟨aa,G,vs,j,J⟩:=Nk I.hok e;refine wpAny_in_of (PB N) G J.mapOf ?_;rw[<-(j.val k).Mw,<-l];exact h _ (I.tok _)
 .subst z;cases (show u=Value.ref b from N)
  obtain⟨aa,G,xs,j,J⟩:=Qd I.hok e;refine wpAny_in_heap (Qbi O) (KD I.hok Y) G J ?_;have q:=(j.val k).Mw;rw[Option.isSome_map] at q;rw[<-q,<-l];exact h _ (I.tok _)
theorem BB{Q:YA}(O:A.units+1 < cLine)(I:H^^^s)(g:Dt H a y o)(N:RelV y u)(h:∀s',Inv X jb U H s'->Q (.bool (!o.isSome)) s') :
  wpAny (model X.prog X.w) A (compareOp .NotIn u (.ref a)) Q E s:=by
 rcases g with⟨kvs,k,e,z,l⟩|⟨kvs,k,b,e,z,Y,l⟩
 .subst z;obtain⟨aa,G,vs,j,J⟩:=Nk I.hok e;refine wpAny_notIn_of (PB N) G J.mapOf ?_;rw[<-(j.val k).Mw,<-l];exact h _ (I.tok _)
 .subst z;cases (show u=Value.ref b from N)
  obtain⟨aa,G,xs,j,J⟩:=Qd I.hok e;refine wpAny_notIn_heap (Qbi O) (KD I.hok Y) G J ?_;have q:=(j.val k).Mw;rw[Option.isSome_map] at q;rw[<-q,<-l];exact h _ (I.tok _)
theorem UL{h':Heap}{t':Nat}{ob:HO}(I:H^^^s)(G:Mut (H a))(hs:Heap.SameBut a s.heap h')(J:∃q,h'.get? a=some q)(j:Bs X.prog X.w (upd H a ob) h' a ob) :
  Inv X jb U (upd H a ob) { s with heap:=h',toks:=t' }:=
 I.write (x:=a) (e:=a) G (.inl rfl) (λb q N z=>(hs.2 b N).trans z) J j
theorem rR{P:Program}{w:World}{H':Hp}{h':Heap}{kvs:YM}{vs:List (Key×Value)}(z:kvs.length<=sizeLine)(q:(a == sysModules)=false)(j:KV kvs vs)(dd:h'.DictOf (Bp P w) a vs) :
  Bs P w H' h' a (.dK kvs):=⟨z,q,vs,j,dd⟩
theorem su{H':Hp}{Q:YH}(hu:A.units+1 < cLine)(I:H^^^s)(g:M7 H a y v H')(ry:RelV y u)(rv:RelV v r)(h:∀s',Inv X jb U H' s'->Q () s') :
  wpAny (model X.prog X.w) A (setItem (.ref a) u r) Q E s:=by
 rcases g with⟨kvs,k,e,N,l,O⟩|⟨kvs,k,b,e,N,eb,l,O⟩
 .subst N O;obtain⟨z,Y,vs,j,dd⟩:=zx I.hok e;have hz:vs.length<=sizeLine:=by rw[<-j.length];exact z
  have hl:(putK kvs k v).length<=sizeLine:=by have:=Lp kvs k v;lia
  refine wpAny_setItem_pairs (hsz:=hz) (PB ry) dd λh' G hs=>h _ ?_;have he:∃q,h'.get? a=some q:=let ⟨q,_,_,J,_⟩:=G;⟨q,J⟩;exact UL I (by rw[e];exact True.intro) hs he (rR hl Y (j.put k rv) G)
 .subst N O;cases (show u=Value.ref b from ry)
  obtain⟨z,Y,xs,j,dd⟩:=zq I.hok e;have hz:xs.length<=sizeLine:=by rw[<-Qcf j];exact z
  have hl:(putK kvs k v).length<=sizeLine:=by have:=Lp kvs k v;lia
  refine wpAny_setItem_heap (hsz:=hz) (Qbi hu) (KD I.hok eb) dd λh' G hs=>h _ ?_;obtain⟨q,es,ep,J,h2,h3,h4,_,h5⟩:=G;refine UL I (by rw[e];exact True.intro) hs ⟨q,J⟩ ⟨hl,Y,_,(j.put k eb rv).keeps λc ys ec=>?_,q,es,ep,J,h2,h3,h4,h5⟩;rw[Ao (yV ec e (λz=>nomatch z))];exact ec
end
section
variable{X:Cx}{jb:YC}{U : St}{H:Hp}{s:Shared}{a:Addr}{kvs:YM}{k:Key}{u:Value}{A:Around}{E:YA}
theorem HP{Q:YA}(I:H^^^s)(e:Rd H a (.dK kvs))(h:∀t s',Inv X jb U H s'->Q (.int kvs.length t) s'):wpAny (model X.prog X.w) A (call (.builtin "len") [.ref a]) Q E s:=by
 obtain⟨z,q,J,j,G⟩:=Nk I.hok e;refine call_len_dict q G (by rw[<-j.length];rw[QcE] at z;lia) ?_;rw[<-j.length];exact h _ _ (I.tok _)
end
def FA(i:Expr):Prop:=∀j iv,subscripted i false j iv=operate [j,iv] (getItem j iv)
theorem zQ{prog:Program}{w:World}{A:Around}{E:YA}{s:Shared}{env:Env}{value j:Expr}{pos:Pos}{T id:String}{Q:YA}
  (hl:typeLookup (.type T) "__getitem__"=pure (some (.builtin id))) (hs:FA j)
  (h:wpAny 01 A (eval value env) (λo I=>wpAny 01 A (eval j env) (λi q=>q.TypeIs o T/\wpAny 01 A (getItem o i) Q E q) E I) E s) :
  wpAny 01 A (eval (.Subscript value j pos) env) Q E s:=by
 refine Subscript_ (QcI h (λo I O=>QcI O (λi q z=>?_) λ_ _ x=>x) λ_ _ x=>x);obtain⟨N,z⟩:=z;unfold subscriptTail;refine QcG ?_;rw[getitemInPython_of_ne N.not_modules];refine QcG (wpAny_specialOf N hl ?_);have G:wpAny 01 A (subscripted j false o i) (λr J=>wpAny 01 A (letTemporaryGo value o r >>= λ_=>pure r) Q E J) E q:=by
  rw[hs o i];exact wpAny_operating (QcI z (λr J Y=>QcG (wpAny_letTemporaryGo (QcH Y))) λ_ _ x=>x)
 first
  | exact QcH (QcG G)
  | exact QcG (QcH (QcG G))
  | exact QcG G
theorem jd{X:Cx}{jb:YC}{U : St}{H:Hp}{s:Shared}{a:Addr}{y:V}{o:Option V}(I:H^^^s)(g:Dt H a y o):s.TypeIs (.ref a) "dict":=by
 rcases g with⟨kvs,k,e,_,_⟩|⟨kvs,k,b,e,_,_,_⟩
 .obtain⟨_,_,q,_,j⟩:=Nk I.hok e;exact j.typeIs
 .obtain⟨_,_,xs,_,j⟩:=Qd I.hok e;exact j.typeIs
def FO(td ty:TE):TE:=fun U H Q=>td U H λx H1=>ty U H1 λy H2=>∃a v,x=.ref a/\Dt H2 a y (some v)/\Q v H2
def IL(ty td:TE):TE:=fun U H Q=>ty U H λy H1=>td U H1 λx H2=>∃a o,x=.ref a/\Dt H2 a y o/\Q (.bl o.isSome) H2
def zP(ty td:TE):TE:=fun U H Q=>ty U H λy H1=>td U H1 λx H2=>∃a o,x=.ref a/\Dt H2 a y o/\Q (.bl (!o.isSome)) H2
def FV(td ty tv:TE):TS:=λD U H=>tv U H λv H1=>td U H1 λx H2=>ty U H2 λy q=>∃a j,x=.ref a/\M7 q a y v j/\D.nx U j
section
variable{X:Cx}{o i e value:Expr}{pos pos' tpos:Pos}{td ty tv:TE}
theorem NP(z:X.A.units+1 < cLine)(G:PE X o td)(hi:PE X i ty)(hs:FA i):PE X (.Subscript o i pos) (FO td ty):=by
 intros Q aa h;refine zQ PySem.F.slot_dict_getitem.lookup hs (thn (G jb s U H _ aa h) λu I zz=>?_);obtain⟨x,H1,J,N,O⟩:=zz;refine thn (hi jb I U H1 _ J O) λiv s2 zz=>?_;obtain⟨y,H2,j,Y,a,v,ex,g,q2⟩:=zz;subst ex;obtain rfl:u=Value.ref a:=N;exact{jd j g,sy z j g Y λw' s3 I3 q=>⟨v,H2,I3,q,q2⟩}
theorem WL(j:X.A.units+1 < cLine)(hi:PE X i ty)(q:PE X o td):PC X .In i o (IL ty td):=by
 intros Q aa h;refine thn (hi jb s U H _ aa h) λiv z zz=>?_;obtain⟨y,H1,G,I,J⟩:=zz;refine thn (q jb z U H1 _ G J) λu s2 zz=>?_;obtain⟨x,H2,N,O,a,Y,ex,g,q2⟩:=zz;subst ex;obtain rfl:u=Value.ref a:=O;exact O0 j N g I λs3 I3=>{.bl Y.isSome,H2,I3,rq,q2}
theorem S5(j:X.A.units+1 < cLine)(hi:PE X i ty)(q:PE X o td):PC X .NotIn i o (zP ty td):=by
 intros Q aa h;refine thn (hi jb s U H _ aa h) λiv z zz=>?_;obtain⟨y,H1,G,I,J⟩:=zz;refine thn (q jb z U H1 _ G J) λu s2 zz=>?_;obtain⟨x,H2,N,O,a,ov,ex,g,Y⟩:=zz;subst ex;obtain rfl:u=Value.ref a:=O;exact BB j N g I λs3 I3=>{.bl (!ov.isSome),H2,I3,rq,Y}
theorem Ny(j:X.A.units+1 < cLine)(q:PE X o td)(hi:PE X i ty)(z:PE X value tv)(hs:swapsWith value (some (.Subscript o i pos')) pos.line X.env=pure false) :
  PS X (.Assign [.Subscript o i pos'] value pos) (FV td ty tv):=by
 intros D aa h;refine wpAny_Assign_Subscript (thn (z jb s U H _ aa h) λr G zz=>?_) hs;obtain⟨v,H1,I,J,N⟩:=zz;refine thn (q jb G U H1 _ I N) λu O zz=>?_;obtain⟨x,H2,Y,rx,q2⟩:=zz;refine thn (hi jb O U H2 _ Y q2) λiv s3 zz=>?_;obtain⟨y,H3,I3,ry,a,H4,ex,g,q3⟩:=zz;subst ex;obtain rfl:u=Value.ref a:=rx;exact su j I3 g ry J λs4 I4=>⟨U,H4,I4,q3⟩
end
theorem fV{P:Program}{w:World}{H:Hp}(h:Heap)(j:sysModules < h.objs.size):Bs P w H (h.push { cls:=.type "dict",data:=.dict #[] }) h.objs.size (.dK []):=
 {QcB _,QaN.mpr (Ne.symm (Qcr j)),[],.nil,Heap.DictOf.new h}
theorem fU{P:Program}{w:World}{H:Hp}(h:Heap)(j:sysModules < h.objs.size):Bs P w H (h.push { cls:=.type "dict",data:=.dict #[] }) h.objs.size (.dT []):=
 {QcB _,QaN.mpr (Ne.symm (Qcr j)),[],.nil,_,#[],0,QaM _ rfl,⟨rq,rq,rq⟩,rq,rq,Qcc}
def Cf:TE:=λ_ H Q=>∀p,H p=none->Q (.ref p) (upd H p (.dK []))
def Cc:TE:=λ_ H Q=>∀p,H p=none->Q (.ref p) (upd H p (.dT []))
section
variable{X:Cx}{pos:Pos}
theorem cY:PE X (.Dict [] [] pos) Cf:=λjb s U H Q I h=>
 wpAny_Dict_empty {.ref ∅,_,I.laid (a:=∅) (o:=.dK []) (t':=s.toks) (λ_ _ q=>Qax _ q) (QcA _) (fV s.heap I.big),rq,h _ (I.hok.fresh (QcA _))}
theorem vp:PE X (.Dict [] [] pos) Cc:=λjb s U H Q I h=>
 wpAny_Dict_empty {.ref ∅,_,I.laid (a:=∅) (o:=.dT []) (t':=s.toks) (λ_ _ q=>Qax _ q) (QcA _) (fU s.heap I.big),rq,h _ (I.hok.fresh (QcA _))}
end
structure M1(X:Cx)(o:Expr)(m:Str)(apos:Pos)(e:Expr)(cpos:Pos):Prop where
 base:attributeBase o m X.env (eval o X.env)=eval o X.env
 few:((backTo cpos (starEach [e] X.env)).all (λx=>!x.1)&&(backToKw cpos (keywordEach [] X.env)).all (λx=>x.1.isSome)
 &&decide (([e]:YJ).length+([]:List Keyword).length+(if ([]:List Keyword).isEmpty then 0 else 1) < 30))=true
 line:(apos.endLine == cpos.line)=true
 trees:backTo cpos (starEach [e] X.env)=[(false,eval e X.env)]
structure M2(X:Cx)(o:Expr)(m:Str)(apos:Pos)(e f:Expr)(cpos:Pos):Prop where
 base:attributeBase o m X.env (eval o X.env)=eval o X.env
 few:((backTo cpos (starEach [e,f] X.env)).all (λx=>!x.1)&&(backToKw cpos (keywordEach [] X.env)).all (λx=>x.1.isSome)
 &&decide (([e,f]:YJ).length+([]:List Keyword).length+(if ([]:List Keyword).isEmpty then 0 else 1) < 30))=true
 line:(apos.endLine == cpos.line)=true
 trees:backTo cpos (starEach [e,f] X.env)=[(false,eval e X.env),(false,eval f X.env)]
def IsD(H:Hp)(a:Addr):Prop:=(∃kvs,Rd H a (.dK kvs))\/∃kvs,Rd H a (.dT kvs)
theorem Xi{X:Cx}{jb:YC}{U : St}{H:Hp}{s:Shared}{a:Addr}(I:H^^^s)(d:IsD H a) :
  s.TypeIs (.ref a) "dict"/\(∀b,Value.ref a=.ref b->∃ob,s.heap.get? b=some ob/\ob.dict=none)/\(a == sysModules)=false:=by
 rcases d with⟨kvs,e⟩|⟨kvs,e⟩
 .obtain⟨_,z,G,_,j⟩:=Nk I.hok e;refine⟨j.typeIs,λb q=>?_,z⟩;cases q;obtain⟨ob,_,_,h1,h2,_⟩:=j;exact⟨ob,h1,h2.2.1⟩
 .obtain⟨_,z,xs,_,j⟩:=Qd I.hok e;refine⟨j.typeIs,λb q=>?_,z⟩;cases q;obtain⟨ob,_,_,h1,h2,_⟩:=j;exact⟨ob,h1,h2.2.1⟩
section
variable{X:Cx}{jb:YC}{U : St}{H:Hp}{s:Shared}{a:Addr}{y d:V}{u r:Value}{o:Option V}{A:Around}{E:YA}
theorem E7{Q:YA}(O:A.units+1 < cLine)(I:H^^^s)(g:Dt H a y o)(J:RelV y u)(h:∀N s',Inv X jb U H s'->RelV (o.getD .non) N->Q N s') :
  wpAny (model X.prog X.w) A (call (.builtin "dict.get") [.ref a,u]) Q E s:=by
 rcases g with⟨kvs,k,e,z,l⟩|⟨kvs,k,b,e,z,Y,l⟩
 .subst z;obtain⟨aa,G,vs,q,j⟩:=Nk I.hok e;refine call_meetsIn QaG j.typeIs PySem.F.entry_dict_get (PySem.F.args_dict_get_2 _ _) (meets_dict_get (Bp X.prog X.w) a (PB J) G) {_,j.mapOf,h _ _ (I.tok _) ?_};rw[l];exact (q.val k).getD rfl
 .subst z;cases (show u=Value.ref b from J)
  obtain⟨aa,G,xs,q,j⟩:=Qd I.hok e;refine call_meetsIn QaG j.typeIs PySem.F.entry_dict_get (PySem.F.args_dict_get_2 _ _) (meetsH_dict_get (tupleKind (Bp X.prog X.w)) a b G) {Qbi O,k,xs,KD I.hok Y,j,h _ _ (I.tok _) ?_};rw[l];exact (q.val k).getD rfl
theorem E6{Q:YA}(Y:A.units+1 < cLine)(I:H^^^s)(g:Dt H a y o)(J:RelV y u)(N:RelV d r)(h:∀O s',Inv X jb U H s'->RelV (o.getD d) O->Q O s') :
  wpAny (model X.prog X.w) A (call (.builtin "dict.get") [.ref a,u,r]) Q E s:=by
 rcases g with⟨kvs,k,e,z,l⟩|⟨kvs,k,b,e,z,eb,l⟩
 .subst z;obtain⟨aa,G,vs,q,j⟩:=Nk I.hok e;refine call_meetsIn QaG j.typeIs PySem.F.entry_dict_get (PySem.F.args_dict_get_3 _ _ _) (meets_dict_get_default (Bp X.prog X.w) a (PB J) G r) {_,j.mapOf,h _ _ (I.tok _) ?_};rw[l];exact (q.val k).getD N
 .subst z;cases (show u=Value.ref b from J)
  obtain⟨aa,G,xs,q,j⟩:=Qd I.hok e;refine call_meetsIn QaG j.typeIs PySem.F.entry_dict_get (PySem.F.args_dict_get_3 _ _ _) (meetsH_dict_get_default (tupleKind (Bp X.prog X.w)) a b G r) {Qbi Y,k,xs,KD I.hok eb,j,h _ _ (I.tok _) ?_};rw[l];exact (q.val k).getD N
end
def Cl(td ty:TE):TE:=fun U H Q=>td U H λx H1=>∃a,x=.ref a/\IsD H1 a/\ty U H1 λy H2=>∃o,Dt H2 a y o/\Q (o.getD .non) H2
def Ch(td ty tx:TE):TE:=fun U H Q=>td U H λx H1=>∃a,x=.ref a/\IsD H1 a/\ty U H1 λy H2=>tx U H2 λz j=>∃o,Dt j a y o/\Q (o.getD z) j
section
variable{X:Cx}{o e f:Expr}{apos cpos:Pos}{td ty tx:TE}
theorem vA(z:X.A.units+1 < cLine)(G:PE X o td)(I:PE X e ty)(m:M1 X o "get" apos e cpos):PE X (.Call (.Attribute o "get" apos) [e] [] cpos) (Cl td ty):=by
 intros Q aa h;refine wpAny_Call_method m.base m.few m.line PySem.F.plainAttrs_dict QaG PySem.F.type_dict_get (thn (G jb s U H _ aa h) λu J zz=>?_);obtain⟨x,H1,j,N,a,ex,d,O⟩:=zz;subst ex;obtain rfl:u=Value.ref a:=N;obtain⟨t1,t2,_⟩:=Xi j d;refine⟨t1,t2,?_⟩;rw[m.trees];refine Calls.callWith_builtin rfl (Calls.evalArgs_plain (Calls.spliced_cons (thn (I jb J U H1 _ j O) λiv s2 zz=>?_)));obtain⟨y,H2,Y,ry,ov,g,q2⟩:=zz;refine Calls.spliced_nil ?_;exact E7 z Y g ry λw' s3 I3 q=>⟨_,H2,I3,q,q2⟩
theorem Ot(z:X.A.units+1 < cLine)(G:PE X o td)(I:PE X e ty)(J:PE X f tx)(m:M2 X o "get" apos e f cpos):PE X (.Call (.Attribute o "get" apos) [e,f] [] cpos) (Ch td ty tx):=by
 intros Q aa h;refine wpAny_Call_method m.base m.few m.line PySem.F.plainAttrs_dict QaG PySem.F.type_dict_get (thn (G jb s U H _ aa h) λu N zz=>?_);obtain⟨x,H1,j,O,a,ex,d,Y⟩:=zz;subst ex;obtain rfl:u=Value.ref a:=O;obtain⟨t1,t2,_⟩:=Xi j d;refine⟨t1,t2,?_⟩;rw[m.trees];refine Calls.callWith_builtin rfl (Calls.evalArgs_plain (Calls.spliced_cons (thn (I jb N U H1 _ j Y) λiv s2 ⟨y,H2,I2,ry,q2⟩=>
  Calls.spliced_cons (thn (J jb s2 U H2 _ I2 q2) λfv s3 ⟨ab,H3,I3,rz,ov,g,q3⟩=>Calls.spliced_nil ?_))))
 exact E6 z I3 g ry rz λw' s4 I4 q=>⟨_,H3,I4,q,q3⟩
end
section
variable{X:Cx}{jb:YC}{U : St}{H:Hp}{s:Shared}{a:Addr}{kvs:YM}{A:Around}{E:YA}
end
section
variable{X:Cx}{jb:YC}{U : St}{H:Hp}{s:Shared}{a:Addr}{y:V}{u:Value}{A:Around}{E:YA}
end
section
variable{X:Cx}
theorem tG:DN X (.builtin "len") (λxs H Q=>∃a kvs,xs=[V.ref a]/\H a=some (.dK kvs)/\Q (.int kvs.length) H):=by
 intros xs J Q I r h;obtain⟨a,kvs,rfl,j,q⟩:=h;obtain⟨u,rfl,z⟩:=vals1 r;cases z;exact HP I (.inl j) λt s' G=>{.int kvs.length,H,G,⟨t,rq⟩,q}
end
section
variable{κ : Type} [DecidableEq κ]
theorem jU:∀{l:List κ} {k:κ},l.Nodup->¬k∈l->(l++[k]).Nodup
 | [],k,_,_=>by simp
 | a::r,k,h,j=>by
  obtain⟨h1,h2⟩:=QbQ.mp h;show (a::(r++[k])).Nodup;refine QbQ.mpr ⟨λm=>?_,jU h2 λm=>j (Qcg.mpr (Or.inr m))⟩;rcases QbK.mp m with q | q
  .exact h1 q
  .exact j (Qcg.mpr (Or.inl (Qbc.mp q).symm))
end
theorem Xn{prog:Program}{w:World}{A:Around}{R:Result->Shared->Prop}{s:Shared}{z G q iter:Expr}{ifs:YJ}{scope:Scope}{pos:Pos}{it:Value}{D:Addr}{env:Env}(J:Nat->Shared->Prop)
  (aa:∀n s,J n s->wpAny 01 A (pyNext it) (λr I=>match r with
   | none=>R (.ok .next) I
   | some v=>wpAny 01 A (letOwnedTupleGo q it v) (λ_ O=>wpAny 01 A (assign q env v) (λ_ s3=>
     wpAny 01 A (forIn ifs true λc r=>if r=true then do let j <-isTrue c env (eval c env);pure (ForInStep.yield j) else pure (ForInStep.yield r)) (λj N=>
      if j=true then wpAny 01 A (eval z env) (λY s5=>wpAny 01 A (eval G env) (λvv s6=>wpAny 01 A (dictSet D Y vv) (λ_ s7=>∃m,m < n/\J m s7) (λ_ _=>False) s6) (λ_ _=>False) s5) (λ_ _=>False) N
      else ∃m,m < n/\J m N) (λ_ _=>False) s3) (λ_ _=>False) O) (λ_ _=>False) I) (λ_ _=>False) s)
  (n:Nat) (h:J n s):codeAny 01 A (.compLoop (.DictComp z G [⟨q,iter,ifs,0⟩] scope pos) 0 it (.ref D) env) R s:=by
 refine codeAny_loop rfl J (λk s' hk=>?_) n h;show wpAny _ A (Sem.onRaise (compTurn (.DictComp z G [⟨q,iter,ifs,0⟩] scope pos) 0 it (.ref D) env) (λx=>do noteFrame x env;theTreesLotGoes x)) _ _ s'
 refine wpAny_noted ?_;rw[compTurn_dict];refine QcG (Qcn (QcG (QcI (aa k s' hk) (λr I q1=>?_) λ_ _ f=>f.elim)));cases r with
 | none=>exact QcH q1
 | some v=>
  refine QcG (QcI q1 (λ_ O q2=>QcG (QcI q2 (λ_ s3 q3=>QcG (QcI q3 (λj N q4=>?_) λ_ _ f=>f.elim)) λ_ _ f=>f.elim)) λ_ _ f=>f.elim);cases j with
  | false=>exact QcH ⟨rfl,q4⟩
  | true=>exact QcG (QcG (QcI q4 (λY s5 q5=>QcG (Qck (QcI q5 (λvv s6 q6=>QcG (Qcn (Qck (QcI q6 (λ_ s7 q7=>QcH ⟨rfl,q7⟩) λ_ _ f=>f.elim)))) λ_ _ f=>f.elim))) λ_ _ f=>f.elim))
theorem sH{X:Cx}{jb:YC}{U : St}{H:Hp}{s:Shared}{A:Around}{E:YA}{a:Addr}{kvs:YM}{k:Key}{v:V}{u r:Value}{Q:YH}(I:H^^^s)(e:H a=some (.dK kvs))(l:kvs.length < sizeLine)(G:RelV (kV k) u)(J:RelV v r)
  (h:∀s',Inv X jb U (upd H a (.dK (putK kvs k v))) s'->Q () s'):wpAny (model X.prog X.w) A (dictSet a u r) Q E s:=by
 obtain⟨aa,N,O,j,Y⟩:=zx I.hok e;have hz:O.length<=sizeLine:=by rw[<-j.length];exact aa
 have hl:(putK kvs k v).length<=sizeLine:=by have:=Lp kvs k v;lia
 refine wpAny_dictSet_pairs (hsz:=hz) (PB G) Y λh' z hs=>h _ ?_;have he:∃q,h'.get? a=some q:=let ⟨q,_,_,hq,_⟩:=z;⟨q,hq⟩;exact UL I (by rw[e];exact True.intro) hs he (rR hl N (j.put k J) z)
@[irreducible] def U5(J:It)(g:TG)(tt:TT)(tk tv:TE)(Q:VK)(Y:St)(H0:Hp)(l:Addr):Prop:=∃W:Nat->YN,(∃m,W 0 m Y H0) /\
 ∀i m z H',W i m z H'->(J.stop i H'/\Q (.ref l) H')\/(J.go i H'/\∃N:YO,(∀ j q,N j q->∃G,G < m/\W (i+1) G j q)/\∀x H2,J.yld i H' x H2->g x z H2 fun j q=>tt j q λb I=>
  if b=true then tk j I λy H5=>tv j H5 λaa O=>∃(kvs:YM) (k:Key),O l=some (.dK kvs)/\y=kV k/\kvs.length < sizeLine/\N j (upd O l (.dK (putK kvs k aa))) else N j I)
def aZ(j:TI)(src:List (Option Nat))(g:TG)(tt:TT)(tk tv:TE):TE:=fun U H Q=>j U H λJ H1=>∀l,H1 l=none->U5 J g tt tk tv Q (Kf src U) (upd H1 l (.dK [])) l
theorem Xo{X:Cx}{N':YF}{src:List (Option Nat)}{sc:Scope}{kx vx tg iter:Expr}{ifs:YJ}{pos pos':Pos}{wi:TI}{g:TG}{tt:TT}{tk tv:TE}{use:Option (Value->Sem Unit)}{R:YA}(hc:X.calm=true)(S:Bj X N' src sc)
  (hi:PI X tg iter wi) (hg:∀s3 z fp pn,PG (cxC X N' sc s3 z fp pn) tg g) (ht:∀s3 z fp pn,PF (cxC X N' sc s3 z fp pn) ifs tt) (hk:∀s3 z fp pn,PE (cxC X N' sc s3 z fp pn) kx tk) (hv:∀s3 z fp pn,PE (cxC X N' sc s3 z fp pn) vx tv)
  (hs:∀x,foldedSetIterable iter X.env x=pure x) {jb:YC} {s:Shared} {U : St} {H:Hp} {Q:VK} (ap:H^^^s) (h:aZ wi src g tt tk tv U H Q)
  (au:∀s3 z fp I J s5 l,z^^^s3->(∀b∈fp,G8 X jb z b)->Inv (cxC X N' sc s3 z fp (X.pn++jb)) [] I J s5->Q (.ref l) J ->
   compPost (model X.prog X.w) X.A X.xe use R (.ref l) s3.heap.objs.size (.ok .next) s5) :
  ‹X› (comprehension (.DictComp kx vx [⟨tg,iter,ifs,0⟩] sc pos) sc X.env pos' newDict false (eval iter X.env) use) R X.xe s:=by
 refine wpAny_comprehension_free (use:=use) (cl:=Fv X.env sc.names []) rfl hs (Rv λp hp e=>ap.ok.has p.1 (S.fv p hp e)) S.kind S.loc ?_;refine thn (hi jb s U H _ ap h) λv s1 h1=>thn h1 λa6 j h2=>?_;obtain⟨it,fp,tn,ba,H2,rfl,I2,T,ah,f2,a4⟩:=h2;have q':=a4 j.heap.objs.size (I2.hok.fresh (QcA _));unfold U5 at q';obtain⟨W,⟨m0,w0⟩,as⟩:=q';refine Qbp (wpAny_newFunctionEnv S.G3 (by intro y hy;simp at hy) (λha av aw=>?_) S.kind);have I3:Inv X jb U (upd H2 j.heap.objs.size (.dK [])) { j with heap:=j.heap.push { cls:=.type "dict",data:=.dict #[] } }:=
  I2.laid (t':=j.toks) (λb u e=>Qax _ e) (QcA _) (fV j.heap I2.big)
 have ai:∀b∈fp,b < j.heap.objs.size:=λb q=>by
  obtain⟨o,e,_⟩:=T.obj 0 _ ah b q;exact Qcp e
 have f3:∀b∈fp,G8 X jb (upd H2 j.heap.objs.size (.dK [])) b:=λb q=>{by rw[Ao (Qcr (ai b q))];exact (f2 b q).1,(f2 b q).2};generalize al:({ j with heap:=j.heap.push { cls:=.type "dict",data:=.dict #[] } }:Shared)=s3 at *;have ax:j.heap.objs.size < s3.heap.objs.size:=by rw[<-al];show j.heap.objs.size < (j.heap.push _).objs.size;rw[Qcb];exact QbE _
 have kp:∀b o,s3.heap.get? b=some o->ha.get? b=some o:=λb o e=>aw.extBut b o (Qcr (Qcp e)) (Qax _ e);have am:tn 0 ha:=T.keep 0 _ _ ah λb q o e=>kp b o (by rw[<-al];exact Qax _ e);have I4:Inv (cxC X N' sc s3 (upd H2 j.heap.objs.size (.dK [])) fp (X.pn++jb)) [] (Kf src U) (upd H2 j.heap.objs.size (.dK [])) { s3 with heap:=ha,toks:=s3.toks+([]:List (Str×Value)).length }:=
  V7 S I3 f3 (λb q=>Nat.lt_trans (ai b q) ax) av kp
 have af:codeAny (model X.prog X.w) X.A (.compLoop (.DictComp kx vx [⟨tg,iter,ifs,0⟩] sc pos) 0 (.ref it) (.ref j.heap.objs.size) (compEnvC sc (Fv X.env sc.names []) s3.heap.objs.size X.env))
   (compPost (model X.prog X.w) X.A X.xe use R (.ref j.heap.objs.size) s3.heap.objs.size) { s3 with heap:=ha,toks:=s3.toks+([]:List (Str×Value)).length }:=by
  refine Xn (λn s'=>∃i Y H',Inv (cxC X N' sc s3 (upd H2 j.heap.objs.size (.dK [])) fp (X.pn++jb)) [] Y H' s'/\tn i s'.heap/\(∀b∈fp,H' b=none)/\W i n Y H') ?_ m0 {0,_,_,I4,am,λb q=>(f3 b q).1,w0};rintro n s4 ⟨i,I,J,J4,an,ao,w4⟩;have aa:∀{H':Hp},(∀b∈fp,H' b=none)->∀b∈fp,G8 (cxC X N' sc s3 (upd H2 j.heap.objs.size (.dK [])) fp (X.pn++jb)) [] H' b:=λhn b q=>
   {hn b q,(I4.ok.exf b q).1,I4.ok.Lf b q,.inl q,λx c e=>(I4.ok.exf b q).2 x c e,λp hp=>(f3 b q).2.2.2.2.2 p ((QbK.mp hp).elim id λar=>by cases ar)}
  rcases as i n I J w4 with⟨stop,qn⟩|⟨go,a5,hN,step⟩
  .refine thn (T.done (cxC X N' sc s3 (upd H2 j.heap.objs.size (.dK [])) fp (X.pn++jb)) rfl rfl rfl hc i [] s4 I J _ J4 (aa ao) an stop) λr s5 zz=>?_;obtain⟨hr,J5⟩:=zz;subst hr;exact au s3 _ fp I J s5 _ I3 f3 J5 qn
  .refine thn (T.item (cxC X N' sc s3 (upd H2 j.heap.objs.size (.dK [])) fp (X.pn++jb)) rfl rfl rfl hc i [] s4 I J _ J4 (aa ao) an go) λr s5 zz=>?_;obtain⟨u,hr,h5⟩:=zz;subst hr;refine thn h5 λ_ s6 zz=>?_;obtain⟨x,H6,J6,r6,y6,ab,ay⟩:=zz;have az:=J6.pinned (aa ay) (T.obj _ _ ab);have ag:∀{pl:YC} {G:St} {N:Hp} {O:Shared},Inv (cxC X N' sc s3 (upd H2 j.heap.objs.size (.dK [])) fp (X.pn++jb)) ([]++Om fp s6.heap) G N O->a5 G N ->
     ∃m',m' < n/\∃i Y H',Inv (cxC X N' sc s3 (upd H2 j.heap.objs.size (.dK [])) fp (X.pn++jb)) [] Y H' O/\tn i O.heap/\(∀b∈fp,H' b=none)/\W i m' Y H':=λ{pl G N O} J7 w7=>by
    obtain⟨m',hm,w7⟩:=hN _ _ w7;have ae:∀b∈fp,∀o,s6.heap.get? b=some o->O.heap.get? b=some o/\N b=none:=λb q o e=>by
     have:=J7.pin (b,o) (QaC _ (QaC _ (KC q e)));exact⟨this.1,this.2.1⟩
    refine⟨m',hm,i+1,G,N,J7.Im,T.keep _ _ _ ab λb q o e=>(ae b q o e).1,λb q=>?_,w7⟩;obtain⟨o,e,_⟩:=T.obj _ _ ab b q;exact (ae b q o e).2
   refine thn (hg s3 _ fp _ _ s6 I H6 x u _ az r6 (step x H6 y6)) λ_ O zz=>?_;obtain⟨G,N,J7,q7⟩:=zz;refine thn (ht s3 _ fp _ _ O G N _ J7 q7) λok s8 zz=>?_;obtain⟨H8,J8,q8⟩:=zz;cases ok with
   | false=>
    rw[if_neg QaX] at q8 ⊢;exact ag (pl:=[]) J8 q8
   | true=>
    rw[if_pos rfl] at q8 ⊢;refine thn (hk s3 _ fp _ _ s8 G H8 _ J8 q8) λy s9 zz=>?_;obtain⟨yv,H9,J9,r9,q9⟩:=zz;refine thn (hv s3 _ fp _ _ s9 G H9 _ J9 q9) λar a7 zz=>?_;obtain⟨zv,a8,a0,a1,kvs,k,hl,ey,hz,a2⟩:=zz;subst ey;refine sH (X:=cxC X N' sc s3 (upd H2 j.heap.objs.size (.dK [])) fp (X.pn++jb)) a0 hl hz r9 a1 λa9 a3=>?_;exact ag (pl:=[]) a3 a2
 exact codeAny_compStart_dict af (T.self X.A 0 _ _ _ am af)
theorem vB{X:Cx}{N':YF}{src:List (Option Nat)}{sc:Scope}{q z tg iter:Expr}{ifs:YJ}{pos:Pos}{G:TI}{g:TG}{tt:TT}{tk tv:TE}(hc:X.calm=true)(S:Bj X N' src sc)
  (hi:PI X tg iter G) (J:∀s3 j fp pn,PG (cxC X N' sc s3 j fp pn) tg g) (N:∀s3 j fp pn,PF (cxC X N' sc s3 j fp pn) ifs tt) (O:∀s3 j fp pn,PE (cxC X N' sc s3 j fp pn) q tk) (Y:∀s3 j fp pn,PE (cxC X N' sc s3 j fp pn) z tv)
  (hs:∀x,foldedSetIterable iter X.env x=pure x:=by intro _;rfl):PE X (.DictComp q z [⟨tg,iter,ifs,0⟩] sc pos) (aZ G src g tt tk tv):=by
 intros Q aa h;rw[arm_eval_DictComp];refine Xo (use:=none) hc S hi J N O Y hs aa h λs3 j fp ae H4 s5 l I3 f3 I ab=>?_;obtain⟨m,hn,_⟩:=I.loc;exact⟨m,hn,λh' sb=>{.ref l,H4,Tr I3 f3 I sb,rq,ab}⟩
end L2
namespace PySem
open Sem (wp)
section
variable{prog:Program}{w:World}{A:Around}{E:YA}{s:Shared}
theorem Pz{it l:Addr}{i:Nat}{items:Array Value}{x:Value}{Q:YA}(z:s.heap.IsTupleIter it l i)(J:s.heap.IsTuple l items)(N:items[i]?=some x)
  (O:∀h',h'.IsTupleIter it l (i+1)->Heap.SameBut it s.heap h'->Q x { s with heap:=h' }):wpAny 01 A (Builtin.SmallTypes.nextOf (.ref it)) Q E s:=by
 obtain⟨o,q,hc,j⟩:=id z;obtain⟨Y,G,_,nl,I⟩:=J;unfold Builtin.SmallTypes.nextOf;refine QcG (Qas (name:=Str.ofString "__next__") z.typeIs Qaa (QbC Qaa z.typeIs PyProof.Rows.entry_tupleiter_next ?_ (PyProof.Rows.args_tupleiter_next _)));show wpAny _ _ (field (.ref it) 0 >>= _) _ _ s;refine QcG (QcD q j (x:=.ref l) rfl ?_);show wpAny _ _ (if (Value.ref l == Value.none)=true then _ else _) _ _ s
 rw[if_neg (show ¬((Value.ref l == Value.none)=true) from QaX)]
 show wpAny _ _ (field (.ref it) 1 >>= _) _ _ s;refine QcG (QcD q j (x:=.int i 0) rfl ?_);show wpAny _ _ (seqItems? (.ref l) >>= _) _ _ s;refine QcG (Qce G I ?_);simp only[Qbo,N];refine QcG (wpAny_setField q j 04 (QcH ⟨x,rq,QcH (O _ ?_ (QaS ..))⟩));exact{_,QaD _ q (Obj.isFreed_of_fields (Obj.data_mapFields j _)),(Obj.cls_mapFields ..).trans hc,by rw[Obj.data_mapFields j];simp[rawInt]}
theorem K9{it l:Addr}{i:Nat}{items:Array Value}{Q:YA}(G:A.handled=none)(j:s.heap.IsTupleIter it l i)(N:s.heap.IsTuple l items)(O:items[i]?=none)
  (Y:∀h' e,Heap.ExtBut it s.heap h'->(∃o,h'.get? e=some o/\o.cls=.type "StopIteration")->E (.ref e) { s with heap:=h' }):wpAny 01 A (Builtin.SmallTypes.nextOf (.ref it)) Q E s:=by
 obtain⟨o,q,hc,z⟩:=id j;obtain⟨ol,I,_,nl,J⟩:=N;unfold Builtin.SmallTypes.nextOf;refine QcG (Qas (name:=Str.ofString "__next__") j.typeIs Qaa (QbC Qaa j.typeIs PyProof.Rows.entry_tupleiter_next ?_ (PyProof.Rows.args_tupleiter_next _)));show wpAny _ _ (field (.ref it) 0 >>= _) _ _ s;refine QcG (QcD q z (x:=.ref l) rfl ?_);show wpAny _ _ (if (Value.ref l == Value.none)=true then _ else _) _ _ s
 rw[if_neg (show ¬((Value.ref l == Value.none)=true) from QaX)]
 show wpAny _ _ (field (.ref it) 1 >>= _) _ _ s;refine QcG (QcD q z (x:=.int i 0) rfl ?_);show wpAny _ _ (seqItems? (.ref l) >>= _) _ _ s;refine QcG (Qce I J ?_);simp only[Qbo,O];refine QcG (wpAny_rule (QcG (wpAny_setField q z 04 ?_)));show wpAny _ _ (newExc (.type "StopIteration") [] >>= _) _ _ _;refine QcG ?_;simp only[newExc,newTuple];refine QcG (Qbp ?_ (by size_fits));refine QcG (m:=firstArgMember _ _) (wpAny_of_eq (a:=Value.none) (by first | rfl | (simp only[firstArgMember];rfl)) ?_)
 refine Qbp ?_ (by size_fits);simp only[raiseNew];refine QcG (wpAny_handled ?_)
 first | rw[show A.in1.handled=none from G] | rw[G]
 refine QcG (QcH (wpAny_throw ?_));exact Y _ _ (((QaS ..).extBut.push _).push _) {_,QaM _ rfl,rq}
theorem fQ{e it l:Addr}{i:Nat}{j:Int}{items:Array Value}{z:Value}{Q:Option Value->Shared->Prop}(N:A.handled=none)(q:IsEnum s.heap e it j z)(G:s.heap.IsTupleIter it l i)(O:s.heap.IsTuple l items)(Y:items[i]?=none)
  (hQ:∀h',Heap.ExtBut it s.heap h'->Q none { s with heap:=h' }):wpAny 01 A (pyNext (.ref e)) Q E s:=by
 have hT:s.TypeIs (.ref e) "enumerate":=⟨_,q,rq⟩;unfold pyNext;refine QcG (Qcm (Qas (name:=Str.ofString "__next__") hT F.slot_enumerate_next (QbC F.slot_enumerate_next hT F.entry_enumerate_next ?_ (F.args_enumerate_next_1 _))));show wpAny _ _ (field (.ref e) 2 >>= _) _ _ _;refine QcG (QcD q rfl (x:=.ref it) rfl (QcG (K9 N G O Y λh' x I J=>?_)));obtain⟨o,ho,hc⟩:=J;exact QcG (QbH (T:="StopIteration") (b:=true) ⟨o,ho,hc⟩ isSubtype_stop (QcH (hQ _ I)))
end
theorem Draws.tup{prog:Program}{w:World}{A:Around}(I:A.handled=none)(it l:Addr)(G:l≠it)(items:Array Value) :
  Draws prog w A it [it,l] items.size (λi v=>items[i]?=some v) (λi h=>h.IsTupleIter it l i/\h.IsTuple l items) where
 live:=λ_ _ st=>let ⟨o,J,_⟩:=st.1;⟨o,J⟩
 frame:=λ_ _ _ st q=>{st.1.at λo e=>q it 04 o e,let ⟨o,e,r⟩:=st.2;⟨o,q l 04 o e,r⟩}
 item:=λi s Q E hi st N=>Pz st.1 st.2 (x:=items[i]) (by simp[hi]) λh' z j=>N _ h' s.toks (by simp[hi]) ⟨z,let ⟨o,e,r⟩:=st.2;⟨o,j.extBut _ _ G e,r⟩⟩ j
 done:=λs Q E st O=>K9 I st.1 st.2 04 O
theorem Draws.from{prog:Program}{w:World}{A:Around}{it:Addr}{fp:List Addr}{n:Nat}{P:Nat->Value->Prop}{St:Nat->Heap->Prop}(D:Draws prog w A it fp n P St)(k:Nat) :
  Draws prog w A it fp (k+n) (λj v=>∃i,j=k+i/\P i v) (λj h=>∃i,j=k+i/\i<=n/\St i h) where
 live:=λ_ _ ⟨i,_,_,st⟩=>D.live i _ st
 frame:=λ_ _ _ ⟨i,e,hi,st⟩ z=>⟨i,e,hi,D.frame i _ _ st z⟩
 item:=λj s Q E N ⟨i,e,hi,st⟩ G=>D.item i s Q E 00 st λx h' tk p q I=>G x h' tk ⟨i,e,p⟩ {i+1,by lia,by lia,q} I
 done:=λs Q E ⟨i,e,hi,st⟩ J=>by
  have:i=n:=by lia
  subst this;exact D.done s Q E st J
end PySem
namespace L2
open PySem PySem.Spec PyProof.Rows
section
variable{X:Cx}{jb:YC}{U : St}{H:Hp}{s:Shared}{h':Heap}
theorem Inv.Pa{t':Nat}{fp:List Addr}{t:Addr}{o:HO}(I:H^^^s)(N:∅<=t)(k:∀b u,b∉fp->s.heap.get? b=some u->h'.get? b=some u)(J:∀b∈fp,G8 X jb H b)(Y:Bs X.prog X.w (upd H t o) h' t o) :
  Inv X jb U (upd H t o) { s with heap:=h',toks:=t' }:=by
 have nt:=I.hok.fresh N;have aa:∀b u,s.heap.get? b=some u->b≠t:=λb u e z=>absurd (Qba (Qcp e) N) (by rw[z];exact Qcj _);have O:∀b u,H b=some u->b∉fp:=λb u e z=>by rw[(J b z).1] at e;cases e
 have j:∀b u,H b=some u->(upd H t o) b=some u:=λb u e=>by rw[Ao (Aw e nt)];exact e
 refine I.step (g':=s.gens) (d':=s.drawn) (ch:=fp) (λb G=>?_) (λb u _ _ hc e _=>k b u hc e) (λb u _ _ hc e _=>⟨u.slots,k b u hc e⟩) (λb u hc e n=>by rw[Ao (aa b u e)];exact n)
  (λb u hc e=>⟨u,k b u hc e⟩) (λ_ _ e=>j _ _ e) (λ_ _ _ e=>j _ _ e) (λb ps e=>{#[],by rw[j _ _ e];simp}) (λm hm=>?_) (λb u e=>?_) I.bare
 .obtain⟨_,f1,_,f3,f4,f5⟩:=J b G;exact⟨f3,f1,f4,f5⟩
 .obtain⟨u,es,ep,hu,r⟩:=hm;exact⟨u,es,ep,k _ u (λz=>(J _ z).2.1 rfl) hu,r⟩
 .by_cases G:b=t
  .subst G;rw[Ab] at e;cases e;exact Y
  .rw[Ao G] at e;refine (I.hok b u e).stay (λc v hc q=>k c v ?_ q) (λc q=>j _ _ q) λc xs q=>j _ _ q;rcases hc with z | z
   .rw[z];exact O b u e
   .exact O c _ z
theorem Inv.Nu{t':Nat}{fp:List Addr}(I:H^^^s)(k:∀b u,b∉fp->s.heap.get? b=some u->h'.get? b=some u)(j:∀b∈fp,G8 X jb H b):Inv X jb U H { s with heap:=h',toks:=t' }:=by
 have G:∀b u,H b=some u->b∉fp:=λb u e z=>by rw[(j b z).1] at e;cases e
 refine I.step (g':=s.gens) (d':=s.drawn) (ch:=fp) (λb J=>?_) (λb u _ _ hc e _=>k b u hc e) (λb u _ _ hc e _=>⟨u.slots,k b u hc e⟩) (λb u hc e n=>n)
  (λb u hc e=>⟨u,k b u hc e⟩) (λ_ _ e=>e) (λ_ _ _ e=>e) (λb ps e=>{#[],by rw[e];simp}) (λm N=>?_) (λb u e=>?_) I.bare
 .obtain⟨_,O,_,Y,f4,f5⟩:=j b J;exact⟨Y,O,f4,f5⟩
 .obtain⟨u,es,ep,hu,r⟩:=N;exact⟨u,es,ep,k _ u (λz=>(j _ z).2.1 rfl) hu,r⟩
 .refine (I.hok b u e).stay (λc v hc q=>k c v ?_ q) (λ_ q=>q) λ_ _ q=>q;rcases hc with z | z
  .rw[z];exact G b u e
  .exact G c _ z
end
def O9(K:YD)(a:Addr)(lo:Nat):It:=
 {λi H=>∃xs x,SqT K H a xs/\xs[i]?=some x,λi H v H'=>∃p x,H p=none/\v=.ref p/\H'=upd H p (.tup [.int ((lo+i:Nat):Int),x])/\∀xs,SqT K H a xs->xs[i]?=some x,λi H=>∃xs,SqT K H a xs/\xs.length<=i}
theorem lK{P:Program}{w:World}{K:YD}{ai:YJ}{k:Nat}{pos:Pos}(a e it:Addr)(lo:Nat)(ae:e≠it):Turn P w K (.Tuple ai k pos) (O9 K a lo) [e,it] e (λi h=>(∃O,IsEnum h e it ((lo+i:Nat):Int) O)/\h.IsTupleIter it a i) where
 mem:=by simp
 obj:=λi h st b j=>by
  obtain⟨⟨O,G⟩,o,J,hc,hd⟩:=st;rcases Qcg.mp j with rfl | j
  .exact{_,G,λv z=>by cases (show Data.fields _=Data.cell v from z)}
  .have:b=it:=by simpa using j
   subst this;exact⟨o,J,λv z=>by rw[hd] at z;cases z⟩
 keep:=λi h h' st k=>by
  obtain⟨⟨O,G⟩,hi⟩:=st;exact{⟨O,k e 04 _ G⟩,hi.at λo q=>k it 04 o q}
 item:=by
  intro X hP hw hK hc i jb s U H E I hf st hg;subst hP hw hK;obtain⟨xs,x,hq,hx⟩:=hg;obtain⟨Y,rv,p,hz⟩:=I.tuple hq;obtain⟨u,hu,ru⟩:=rv.get hx;obtain⟨⟨O,G⟩,aa⟩:=st;have af:s.heap.IsTuple a Y.toArray:=p;have an:a≠e:=λz=>by
   obtain⟨o,J,ab,_⟩:=af;rw[z,G] at J;cases J;injection ab with q;exact absurd q 05
  have ao:a≠it:=λz=>by
   obtain⟨o,J,ab,_⟩:=af;obtain⟨o',ag,al,_⟩:=aa;rw[z,ag] at J;cases J;rw[al] at ab;injection ab with q;exact absurd q 05
  have ap:i < Y.toArray.size:=by
   have:=(Qah.mp hu).1;simpa using this
  have D:=(Draws.tup (prog:=X.prog) (w:=X.w) (A:=X.A.in1) (I.ok.hd hc) it a ao Y.toArray).from lo;refine wpAny_pyNext_enum_itemD D G ⟨i,rq,Qcu ap,aa,af⟩ 00 ae (by simp[ae,an.symm]) λy h1 tk hP J ar hT az hk=>?_;obtain⟨N,ei,hy⟩:=hP;have:N=i:=by lia
  subst this;have ey:y=u:=by
   have h2:Y.toArray[N]?=some u:=by simpa using hu
   rw[h2] at hy;exact (QbP hy).symm
  subst ey;refine{_,rq,wpAny_letOwnedTupleGo_enum J λh2 as ah=>?_};have am:∅≠e:=Qcv (Qcp G);have au:h2.get? ∅=some { cls:=.type "tuple",data:=.seq #[.int ((lo+N:Nat):Int) tk,y] }:=(ah.2 _ am).trans hT;have av:Bs X.prog X.w (upd H ∅ (.tup [.int ((lo+N:Nat):Int),x])) h2 ∅ (.tup [.int ((lo+N:Nat):Int),x]):=
   {by show 2<=sizeLine;decide,[.int ((lo+N:Nat):Int) tk,y],.cons ⟨tk,rq⟩ (.cons ru .nil),_,au,rq,0,rq}
  have I1:=I.Pa (h':=h2) (t':=tk+1) (QcA _) (λb q j z=>(ah.2 b (λw=>j (by simp[w]))).trans (hk b q (λw=>j (by simp[w])) (λw=>j (by simp[w])) z)) hf av;refine{.ref ∅,_,I1,rq,{∅,x,I.hok.fresh (QcA _),rq,rq,λys aw=>by rw[I.Zg aw hq];exact hx},{⟨y,?_⟩,?_},λb j=>?_}
  .have:=as;rw[show ((lo+(N+1):Nat):Int)=((lo+N:Nat):Int)+1 by lia];exact this
  .obtain⟨i2,e2,_,ax,_⟩:=ar;have:i2=N+1:=by lia
   subst this;exact ax.at λo q=>(ah.2 it (Ne.symm ae)).trans q
  .have ay:b < ∅:=by
    rcases Qcg.mp j with rfl | j
    .exact Qcp G
    .have:b=it:=by simpa using j
     subst this;obtain⟨o,ag,_⟩:=aa;exact Qcp ag
   rw[Ao (Qcr ay)];exact (hf b j).1
 done:=by
  intro X hP hw hK hc i jb s U H E I hf st hg;subst hP hw hK;obtain⟨xs,hq,hx⟩:=hg;obtain⟨Y,rv,p,hz⟩:=I.tuple hq;obtain⟨⟨O,G⟩,aa⟩:=st;have hl:=rv.length;exact fQ (I.ok.hd hc) G aa (show s.heap.IsTuple a Y.toArray from p) (by simp;lia) λh' eb=>⟨rq,I.Nu (t':=s.toks) (λb o j q=>eb b o (λz=>j (by simp[z])) q) hf⟩
 self:=λ_ _ _ _ _ st h=>let ⟨⟨_,G⟩,_⟩:=st;wpAny_pyIter_enum G h
end L2
namespace PySem
open Sem (wp)
open AutoSeq1 (wpAny_loadPart')
theorem Yu(l:Addr)(items:Array Value)(n:Nat)(z:Option Addr)(G:YI) :
  Meets (Builtin.«enumerate.__new__» {[.type "enumerate",.ref l],[]}) (λ_ R s=>s.heap.get? l=some { cls:=.type "tuple",dict:=z,data:=.seq items n,slots:=G } /\
   R (.ok (.ret (.ref (s.heap.push { cls:=.type "tuple_iterator",data:=.fields #[.ref l,.int 0 0] }).objs.size)))
    { s with heap:=(s.heap.push { cls:=.type "tuple_iterator",data:=.fields #[.ref l,.int 0 0] }).push { cls:=.type "enumerate",data:=.fields #[.none,.bool false,.ref ∅,rawInt 0,.none,.none] } }):=
 .of_wp λprog w A R s h=>by
  obtain⟨I,g,d,tk,os⟩:=s;obtain⟨j,h⟩:=h;have J:=sub_enumerate;have q:Heap.IsTuple (Shared.heap ⟨I,g,d,tk,os⟩) l items:=⟨_,j,rq,n,rq⟩
  wp_walk using wpAny_loadPart' j
  refine wpAny_stack_any λst=>QcH ?_;split
  .rename_i c _ _ _ _ _;cases (c == Value.type "enumerate")
   .wp_walk using wpAny_loadPart' j,Qbe q
    exact⟨_,rq,h⟩
   .wp_walk using wpAny_loadPart' j,Qbe q
    exact⟨_,rq,h⟩
  .wp_walk using wpAny_loadPart' j,Qbe q
   exact⟨_,rq,h⟩
theorem Xa(l:Addr)(items:Array Value)(n:Nat)(z:Option Addr)(G:YI)(t:Tok) :
  Meets (Builtin.«enumerate.__new__» {[.type "enumerate",.ref l],[("start",.int 1 t)]}) (λ_ R s=>s.heap.get? l=some { cls:=.type "tuple",dict:=z,data:=.seq items n,slots:=G } /\
   R (.ok (.ret (.ref (s.heap.push { cls:=.type "tuple_iterator",data:=.fields #[.ref l,.int 0 0] }).objs.size)))
    { s with heap:=(s.heap.push { cls:=.type "tuple_iterator",data:=.fields #[.ref l,.int 0 0] }).push { cls:=.type "enumerate",data:=.fields #[.none,.bool false,.ref ∅,rawInt 1,.none,.none] } }):=
 .of_wp λprog w A R s h=>by
  obtain⟨I,g,d,tk,os⟩:=s;obtain⟨j,h⟩:=h;have J:=sub_enumerate;have q:Heap.IsTuple (Shared.heap ⟨I,g,d,tk,os⟩) l items:=⟨_,j,rq,n,rq⟩
  wp_walk using wpAny_loadPart' j
  refine wpAny_stack_any λst=>QcH ?_;split
  .rename_i c _ _ _ _ _;cases (c == Value.type "enumerate")
   .wp_walk using wpAny_loadPart' j,Qbe q
    exact⟨_,rq,h⟩
   .wp_walk using wpAny_loadPart' j,Qbe q
    exact⟨_,rq,h⟩
  .wp_walk using wpAny_loadPart' j,Qbe q
   exact⟨_,rq,h⟩
end PySem
namespace PySem
open Sem (wp)
section
variable{prog:Program}{w:World}{A:Around}{E:YA}{s:Shared}
theorem Ys{T z:String}{self:Value}{rest:YE}{j:List (Str×Value)}(I:typeLookup (.type T) "__init__"=pure (some (.builtin "object.__init__")))
  (J:Bind.madeBy (.type T)=pure (some z)) (G:(some z != some "object.__new__")=true) :
  Meets (Builtin.«object.__init__» {self::rest,j}) (λ_ R s=>s.TypeIs self T/\R (.ok (.ret .none)) s):=by
 refine Meets.of_wp λprog w A R s hs=>?_;obtain⟨N,q⟩:=hs;cases rest with
 | nil=>
  cases j with
  | nil=>exact QcH ⟨_,rfl,q⟩
  | cons k j=>
   repeat (any_goals (first | assumption | wp_step))
   exact⟨_,rq,q⟩
 | cons a rest=>
  repeat (any_goals (first | assumption | wp_step))
  exact⟨_,rq,q⟩
theorem tK{T z:String}{O:Builtin}{args:YE}{q:List (Str×Value)}{S:Spec}{Q:YA}(j:TypeCalled T z "object.__init__")(af:(some z != some "object.__new__")=true)
  (an:checkTypeCall T ⟨args,q⟩=pure ()) (ag:checkBuiltinCall z {.type T::args,q}=pure ()) (ah:∀obj,argsOk "object.__init__" {obj::args,q})
  (aa:entryFor table z=some O) (g:Meets (O {.type T::args,q}) S) (h:S A.in1 (wants (λobj G=>G.TypeIs obj T/\Q obj G) E) s) :
  wpAny 01 A (call (.type T) args q) Q E s:=by
 obtain⟨c,tl,al⟩:=j.mro;have ai:=j.made;have am:=j.sub;refine wpAny_call (codeAny_of_tree ?_);show wpAny _ _ (callAny (.type T) _) _ _ _;refine QcH {Code.quiet_builtin _ (by trivial),QbZ F.entry_type_call ?_};rw[Around.under_plain (weight_type_call_type T args q) (units_type_call_type T args q)];have h1:=j.notType;have h2:=j.canCreate
 repeat (any_goals (first | assumption | wp_step))
 refine Qcw (QaK j.plain aa (wpAny_of_eq ag (g prog w A.in1 _ s h))) λr G J=>?_;cases r with
 | error e=>exact J
 | ok fl=>
  cases fl with
  | ret obj=>
   obtain⟨Y,hq⟩:=J;have ao:=j.init.lookup;have ap:=j.init.bind obj
   repeat (any_goals (first | assumption | wp_step))
   refine Qcw (QaK j.init.plain F.entry_object_init (j.init.check _ _ _ _ _ _ _ _ Y (ah obj) (Ys j.init.lookup j.made af prog w A.in1 (wants (λr N=>r=.none/\Q obj N) E) G ⟨Y,rq,hq⟩))) λae N I=>?_;cases ae with
   | error e=>exact I
   | ok ab=>
    cases ab with
    | ret r=>
     obtain⟨rfl,ar⟩:=I
     repeat (any_goals (first | assumption | wp_step))
    | _=>exact I.elim
  | _=>exact J.elim
end
end PySem
namespace PyProof.Rows
open PySem
section
variable{M:Model}{A:Around}{E:YA}{s:Shared}{env:Env}
theorem Xp{pos:Pos}{T:String}{e:Expr}{rest:YJ}{kws:List Keyword}{Q:YA}
  (h:wpAny M A (spliced (backTo pos (starEach (e::rest) env))) (λvs j=>wpAny M A (evalAll ((backToKw pos (keywordEach kws env)).map (·.2))) (λkvs q=>wpAny M A (call (.type T) vs (((backToKw pos (keywordEach kws env)).filterMap (·.1)).zip kvs)) Q E q) E j) E s)
  (N:backTo pos (starEach (e::rest) env)=(false,eval e env)::backTo pos (starEach rest env):=by rfl) (z:(backTo pos (starEach (e::rest) env)).any (·.1)=false:=by rfl)
  (G:(backToKw pos (keywordEach kws env)).all (·.1.isSome)=true:=by rfl) (J:(backToKw pos (keywordEach kws env)).any (·.1.isNone)=false:=by rfl) :
  wpAny M A (callWith pos (.type T) [] (backTo pos (starEach (e::rest) env)) (backToKw pos (keywordEach kws env))) Q E s:=by
 have h2:wpAny M A (evalArgs (.type T) true (backTo pos (starEach (e::rest) env)) (backToKw pos (keywordEach kws env))) (λa j=>wpAny M A (call (.type T) ([]++a.pos) a.kw) Q E j) E s:=by
  rw[N] at h ⊢;exact evalArgs_kwB G h
 unfold callWith;refine QcG (Qck (QcI h2 (λa j I=>QcG (Qcn ?_)) λ_ _ x=>x));simp only[z,J,Qco];exact QcG (QcH (QcG (QcI I (λr q O=>QcG (Qck (wpAny_point (QcH O)))) λ_ _ x=>x)))
end
end PyProof.Rows
namespace L2
open PySem PySem.Spec PyProof.Rows
section
variable{X:Cx}
theorem kE{jb:YC}{U : St}{H:Hp}{s:Shared}{R:It->Hp->Prop}{E:YA}{J:YJ}{k:Nat}{pos:Pos}{a:Addr}{lo:Nat}{tk:Nat}(I:H^^^s)(q:R (O9 X.K a lo) H) :
  ‹X› (pyIter (.ref (∅+1))) (PIE X jb U (.Tuple J k pos) R) E
   { s with heap:='p'.push { cls:=.type "enumerate",data:=.fields #[.none,.bool false,.ref ∅,rawInt (lo:Int),.none,.none] },toks:=tk }:=by
 have N:'p'.objs.size=∅+1:=Qcb ..;have z:IsEnum ('p'.push { cls:=.type "enumerate",data:=.fields #[.none,.bool false,.ref ∅,rawInt (lo:Int),.none,.none] }) (∅+1) ∅ (lo:Int) .none:=by
  have:=QaM 'p' (o:={ cls:=.type "enumerate",data:=.fields #[.none,.bool false,.ref ∅,rawInt (lo:Int),.none,.none] }) rfl;rw[N] at this;exact this
 refine wpAny_pyIter_enum z {∅+1,[∅+1,∅],_,_,H,rq,I.kept (t':=tk) λb o e=>Qax _ (Qax _ e),lK a (∅+1) ∅ lo (Nat.succ_ne_self _),{⟨.none,z⟩,{_,Qax _ (QaM _ rfl),rq,rq}},λb G=>?_,q};have j:∅<=b:=by
  simp only[Qcg,QbB,QcK] at G;rcases G with rfl | rfl
  .exact QcF _
  .exact QcA _
 exact I.QD j (I.hok.fresh j)
end
section
variable{X:Cx}
def yX(K:YD)(lo:Nat)(tl:TE):TI:=fun U H R=>tl U H λx H1=>∃a,x=.ref a/\(∃xs,SqT K H1 a xs)/\R (O9 K a lo) H1
theorem oY{jb:YC}{U : St}{H:Hp}{s:Shared}{R:It->Hp->Prop}{J:YJ}{k:Nat}{pos:Pos}{a:Addr}{xs:YG}(I:H^^^s)(Y:SqT X.K H a xs)(q:R (O9 X.K a 0) H) :
  ‹X› (call (.type "enumerate") [.ref a]) (λv s1=>‹X› (pyIter v) (PIE X jb U (.Tuple J k pos) R) X.xe s1) X.xe s:=by
 obtain⟨z,rv,p,G⟩:=I.tuple Y;obtain⟨⟨c,N,dt,sl⟩,hl,hc,n,j⟩:=id p;replace hc:c=.type "tuple":=hc;replace j:dt=.seq z.toArray n:=j;subst hc j;refine callType_new F.called_enumerate 05 (F.typeCall_enumerate_1 _) (F.newCall_enumerate_1 _) (λO=>F.args_object_init_2 O _) F.entry_enumerate_new (Yu a z.toArray n N sl) ⟨hl,?_⟩;have G:'p'.objs.size=∅+1:=Qcb ..;show _/\_;refine{{_,QaM _ rfl,rq},?_};rw[G];exact kE (lo:=0) (tk:=s.toks) I q
end
section
variable{X:Cx}
theorem VG{x:Expr}{tx:TE}{p pos G:Pos}{z:YJ}{k:Nat}(J:Gl X "enumerate")(N:X.mg "enumerate"=none)(O:PE X x tx)(hs:starEach [x] X.env=[(false,eval x X.env)]:=by rfl):PI X (.Tuple z k G) (.Call (.Name "enumerate" p) [x] [] pos) (yX X.K 0 tx):=by
 intros R I h;refine Call_ (Jp I J N boot_enumerate (Qae (thn ((Aa O Ac (by rw[hs];rfl)) pos jb s U H (λq H1=>match q with | [v]=>∃a,v=.ref a/\(∃xs,SqT X.K H1 a xs)/\R (O9 X.K a 0) H1 | _=>False) I h) λus s1 ⟨q,H1,Y,r1,j⟩=>?_) hs rfl))
 cases r1 with
 | nil=>exact False.elim j
 | cons r rr=>
  cases rr with
  | nil=>
   obtain⟨a,e,⟨xs,hq⟩,aa⟩:=j;subst e;cases r;exact oY Y hq aa
  | cons _ _=>exact False.elim j
theorem oX{jb:YC}{U : St}{H:Hp}{s:Shared}{R:It->Hp->Prop}{J:YJ}{k:Nat}{pos:Pos}{a:Addr}{xs:YG}{t:Tok}(I:H^^^s)(O:SqT X.K H a xs)(q:R (O9 X.K a 1) H) :
  ‹X› (call (.type "enumerate") [.ref a] [("start",.int 1 t)]) (λv Y=>‹X› (pyIter v) (PIE X jb U (.Tuple J k pos) R) X.xe Y) X.xe s:=by
 obtain⟨z,rv,p,G⟩:=I.tuple O;obtain⟨⟨c,N,dt,sl⟩,hl,hc,n,j⟩:=id p;replace hc:c=.type "tuple":=hc;replace j:dt=.seq z.toArray n:=j;subst hc j;refine tK F.called_enumerate 05 (by kernel_rfl) (by kernel_rfl) (λaa=>?ok) F.entry_enumerate_new (Xa a z.toArray n N sl t) ⟨hl,?_⟩
 case ok=>
  unfold argsOk;rw[signature?_of (id:="object.__init__") (n:=['_','_','t','i','n','i','_','_']) (o:=['t','c','e','j','b','o']) (by kernel_rfl) F.owner_object]
  kernel_rfl
 have G:'p'.objs.size=∅+1:=Qcb ..;show _/\_;refine{{_,QaM _ rfl,rq},?_};rw[G];exact kE (lo:=1) (tk:=s.toks) I q
theorem Oo{x j:Expr}{tx:TE}{p pos tp q:Pos}{J:YJ}{k:Nat}(hg:Gl X "enumerate")(hm:X.mg "enumerate"=none)(hl:PE X x tx)(h1:PE X j (tC (.int 1)))(hs:starEach [x] X.env=[(false,eval x X.env)]:=by rfl)
  (N:(backToKw pos (keywordEach [{some "start",j,q}] X.env)).all (·.1.isSome)=true:=by rfl) (O:(backToKw pos (keywordEach [{some "start",j,q}] X.env)).any (·.1.isNone)=false:=by rfl)
  (Y:(backToKw pos (keywordEach [{some "start",j,q}] X.env)).filterMap (·.1)=(["start"]:YF):=by rfl) :
  PI X (.Tuple J k tp) (.Call (.Name "enumerate" p) [x] [{some "start",j,q}] pos) (yX X.K 1 tx):=by
 intros R I h;refine Qbh (Jp I hg hm boot_enumerate (PyProof.Rows.Xp (thn ((Aa hl Ac (by rw[hs];rfl)) pos jb s U H (λG H1=>match G with | [v]=>∃a,v=.ref a/\(∃xs,SqT X.K H1 a xs)/\R (O9 X.K a 1) H1 | _=>False) I h) λus s1 ⟨G,H1,I1,r1,z⟩=>?_) (by rw[hs];rfl) (by rw[hs];rfl) N O))
 refine thn ((AB h1 C0) pos jb s1 U H1 (λks H2=>H2=H1/\ks=[.int 1]) I1 ⟨rq,rq⟩) λws s2 zz=>?_;obtain⟨zs,H2,I2,rz,e2,ez⟩:=zz;subst e2 ez;cases rz with
 | cons aa ab=>
  cases ab;obtain⟨t,rfl⟩:=aa;rw[Y];cases r1 with
  | nil=>exact False.elim z
  | cons r rr=>
   cases rr with
   | nil=>
    obtain⟨a,e,⟨xs,hq⟩,ae⟩:=z;subst e;cases r;exact oX I2 hq ae
   | cons _ _=>exact False.elim z
theorem JL{K:YD}{a:Addr}{lo:Nat}{xs:YG}{g:TG}{tb:TS}{D:Ends}{U : St}{H:Hp}(Pv:YN)(J:Pv 0 U H)(O:∀i U H',i<=xs.length->Pv i U H'->SqT K H' a xs)
  (hs:∀i x p U H',xs[i]?=some x->Pv i U H'->H' p=none->g (.ref p) U (upd H' p (.tup [.int ((lo+i:Nat):Int),x])) fun j H2=>tb { D with nx:=Pv (i+1),ct:=Pv (i+1),bk:=D.nx } j H2) (Y:∀ U H',Pv xs.length U H'->D.nx U H') :
  ∃W:Nat->YN,(∃m,W 0 m U H)/\∀i m U H,W i m U H ->
   ((O9 K a lo).stop i H/\D.nx U H)\/((O9 K a lo).go i H/\∃N:YO,(∀ z H',N z H'->∃I,I < m/\W (i+1) I z H')/\∀x H',(O9 K a lo).yld i H x H'->g x U H' fun j H2=>tb { D with nx:=N,ct:=N,bk:=D.nx } j H2):=by
 refine{λi m U H=>m=xs.length - i/\i<=xs.length/\Pv i U H,⟨xs.length,by simp,QcB _,J⟩,?_};rintro i m U H ⟨rfl,hi,p⟩;have q:=O i U H hi p;by_cases G:i < xs.length
 .refine .inr {⟨xs,xs[i],q,by simp[G]⟩,Pv (i+1),fun aa H3 p'=>{xs.length - (i+1),by lia,rq,G,p'},λv H2 y=>?_};obtain⟨pa,x,hn,rfl,rfl,hx⟩:=y;exact hs i x pa U _ (hx xs q) p hn
 .have e:i=xs.length:=by lia
  subst e;exact .inl {⟨xs,q,QcA _⟩,Y U H p}
theorem sO{K:YD}{a l:Addr}{lo:Nat}{xs:YG}{g:TG}{tt:TT}{te:TE}{Q:VK}{z:St}{I:Hp}(Pv:YN)
  (Y:Pv 0 z I) (hl:∀i U H',i<=xs.length->Pv i U H'->SqT K H' a xs)
  (hs:∀i x p U H',xs[i]?=some x->Pv i U H'->H' p=none->g (.ref p) U (upd H' p (.tup [.int ((lo+i:Nat):Int),x])) fun j J=>tt j J λb N=>if b=true then te j N λy O=>∃ys,O l=some (.lst ys)/\ys.length < sizeLine/\Pv (i+1) j (upd O l (.lst (ys++[y]))) else Pv (i+1) j N)
  (hd:∀ U H',Pv xs.length U H'->Q (.ref l) H'):Gu (O9 K a lo) g tt te Q z I l:=by
 unfold Gu;refine{λi m U H'=>m=xs.length - i/\i<=xs.length/\Pv i U H',⟨xs.length,by simp,QcB _,Y⟩,?_};rintro i m U H' ⟨rfl,hi,p⟩;have q:=hl i U H' hi p;by_cases G:i < xs.length
 .refine .inr {⟨xs,xs[i],q,by simp[G]⟩,Pv (i+1),fun j J p'=>{xs.length - (i+1),by lia,rq,G,p'},λv H2 y=>?_};obtain⟨pa,x,hn,rfl,rfl,hx⟩:=y;exact hs i x pa U _ (hx xs q) p hn
 .have e:i=xs.length:=by lia
  subst e;exact .inl {⟨xs,q,QcA _⟩,hd U H' p}
end
section
variable{X:Cx}
theorem range_any(bs:List Bool):((List.range bs.length).any λi=>(bs[i]?).getD false)=bs.any id:=by
 induction bs with
 | nil=>rfl
 | cons b r j=>
  rw[Qbz,List.range_succ_eq_map,Qcl,List.any_map,Qcl];show ((some b).getD false || _)=_;rw[show ((λi=>((b::r)[i]?).getD false) ∘ Nat.succ)=λi=>(r[i]?).getD false from by funext i;simp[Function.comp]]
  rw[j];rfl
theorem gD(hc:X.calm=true):DN X (.builtin "any") (λxs H Q=>∃(p:Addr) (bs:List Bool),xs=[.ref p]/\SqL X.K H p (bs.map V.bl)/\Q (.bl (bs.any id)) H):=by
 intros xs us Q I r h;obtain⟨p,bs,rfl,N,aa⟩:=h;obtain⟨u,rfl,O⟩:=vals1 r;cases O;obtain⟨j,Y,pl,hz⟩:=I.list N;have z:=Wa Y;have q:=pl.isList;have J:p < ∅:=by obtain⟨_,e,_⟩:=q;exact Qcp e
 refine call_any_walk (Qbv q ?_);refine⟨∅,[∅,p],[∅],j.toArray.size,_,_,λi=>(bs[i]?).getD false,rq,Walks.list (A:=X.A.in1) (I.ok.hd hc) _ p (Qcr J) j.toArray,
  {{_,QaM _ rfl,rq,rq},q.push _},λi v s' Q' E' hP G=>?_,λh' tk hk=>?_⟩
 .obtain⟨b,e,rfl⟩:=z.get i v (by simpa using hP);simp only[e,Option.getD_some] at G;exact Qbs G
 .have e:((List.range j.toArray.size).any λi=>(bs[i]?).getD false)=bs.any id:=by
   rw[Qbl,z.length];exact range_any bs
  rw[e];exact{.bl (bs.any id),H,I.kept (LSm.kept_iter hk),rq,aa}
end
end L2
namespace PySem.ZZ
open PySem
section
variable{prog:Program}{w:World}{A:Around}{E:YA}{s:Shared}
theorem V6{M:Model}{G z : Type}{Q:z->Shared->Prop}{N:G->z->Sem (ForInStep z)}(J:List G->z->Shared->Prop)(O:∀b s,J [] b s->Q b s)
  (I:∀x r b s,J (x::r) b s->wpAny M A (N x b) (λst s'=>match st with | .yield j=>J r j s' | .done j=>Q j s') E s):∀(l:List G) (b:z) (s:Shared),J l b s->wpAny M A (forIn l b N) Q E s
 | [],b,s,h=>by
  rw[List.forIn_nil];exact QcH (O b s h)
 | x::r,b,s,h=>by
  rw[List.forIn_cons];refine QcG (QcI (I x r b s h) (λst s' q=>?_) λ_ _ e=>e);cases st with
  | yield j=>exact V6 J O I r j s' q
  | done j=>exact QcH q
structure Src where
 it:Addr
 a:Addr
 items:Array Value
def SrcAt(h:Heap)(x:Src)(i:Nat):Prop:=(h.IsListIter x.it x.a i/\h.IsList x.a x.items)\/(h.IsTupleIter x.it x.a i/\h.IsTuple x.a x.items)
theorem SrcAt.keep{h h':Heap}{x:Src}{i:Nat}(q:SrcAt h x i)(k1:∀o,h.get? x.it=some o->h'.get? x.it=some o)(k2:∀o,h.get? x.a=some o->h'.get? x.a=some o):SrcAt h' x i:=by
 rcases q with⟨j,z⟩|⟨j,o,e,r⟩
 .exact .inl {j.at k1,z.at k2}
 .exact .inr {j.at k1,o,k2 o e,r}
theorem SrcAt.ne{h:Heap}{x:Src}{i:Nat}(q:SrcAt h x i):x.a≠x.it:=λz=>by
 rcases q with⟨⟨o,e,c,_⟩,⟨o',j,G,_⟩⟩|⟨⟨o,e,c,_⟩,⟨o',j,G,_⟩⟩
 .rw[z,e] at j;cases j;rw[c] at G;injection G with y;exact absurd y 05
 .rw[z,e] at j;cases j;rw[c] at G;injection G with y;exact absurd y 05
theorem bA{x:Src}{i:Nat}{v:Value}{Q:YA}(q:SrcAt s.heap x i)(I:x.items[i]?=some v)(J:∀h',SrcAt h' x (i+1)->Heap.SameBut x.it s.heap h'->Q v { s with heap:=h' }) :
  wpAny 01 A (Builtin.SmallTypes.nextOf (.ref x.it)) Q E s:=by
 have N:=q.ne;rcases q with⟨G,j⟩|⟨G,j⟩
 .exact wpAny_nextOf_list_item G j I λh' i1 z=>J h' (.inl ⟨i1,j.at λo e=>z.extBut _ _ N e⟩) z
 .exact Pz G j I λh' i1 z=>J h' (.inr ⟨i1,let ⟨o,e,r⟩:=j;⟨o,z.extBut _ _ N e,r⟩⟩) z
theorem zU{x:Src}{i:Nat}{Q:YA}(G:A.handled=none)(q:SrcAt s.heap x i)(I:x.items[i]?=none)
  (J:∀h' e,Heap.ExtBut x.it s.heap h'->(∃o,h'.get? e=some o/\o.cls=.type "StopIteration")->E (.ref e) { s with heap:=h' }):wpAny 01 A (Builtin.SmallTypes.nextOf (.ref x.it)) Q E s:=by
 rcases q with⟨j,z⟩|⟨j,z⟩
 .exact wpAny_nextOf_list_end G j z I J
 .exact K9 G j z I J
abbrev IsZ(h:Heap)(z TI TO:Addr)(f0 f1:Value):Prop:=h.get? z=some { cls:=.type "zip",dict:=none,data:=.fields #[f0,f1,.bool false,.ref TI,.ref TO],slots:=#[] }
abbrev DP(h:Heap)(T:Addr)(xs:YE):Prop:=h.get? T=some { cls:=.type "tuple",data:=.seq xs.toArray }
structure Apart(z TI TO:Addr)(ls:List Src):Prop where
 TIz:TI≠z
 TOz:TO≠z
 TITO:TI≠TO
 it:∀x∈ls,x.it≠z/\x.it≠TI/\x.it≠TO
 a:∀x∈ls,x.a≠z/\x.a≠TO
 ai:∀x∈ls,∀y∈ls,x.a≠y.it
 nd:(ls.map (·.it)).Nodup
def Rest(z TO:Addr)(j:List Src)(h h':Heap):Prop:=∀c o,c≠z->c≠TO->c∉j.map (·.it)->h.get? c=some o->h'.get? c=some o
theorem zX{xs olds:YE}{k:Nat}{v:Value}(j:k < olds.length)(z:xs.length=olds.length)(e:xs[k]?=some v):(xs.take k++olds.drop k).toArray.setIfInBounds k v=(xs.take (k+1)++olds.drop (k+1)).toArray:=by
 rw[List.setIfInBounds_toArray];congr 1;have q:(xs.take k).length=k:=by rw[QbA];lia
 rw[List.set_append_right _ _ 00,q,Nat.sub_self,Qaj j,QaY,List.take_add_one,e];simp
structure Mid(z TI TO:Addr)(ls:List Src)(xs olds:YE)(i:Nat)(f0 f1:Value)(h:Heap)(k:Nat)(h':Heap):Prop where
 hz:IsZ h' z TI TO f0 f1
 hTI:DP h' TI (ls.map λx=>.ref x.it)
 done:∀j x,ls[j]?=some x->SrcAt h' x (if j < k then i+1 else i)
 rest:Rest z TO ls h h'
 size:h'.objs.size=h.objs.size
theorem Mid.draw{z TI TO:Addr}{G:List Src}{xs olds:YE}{i:Nat}{Y f1:Value}{h h1 h2:Heap}{k:Nat}{x:Src}(D:Apart z TI TO G)(m:Mid z TI TO G xs olds i Y f1 h k h1)(N:G[k]?=some x)(q:SrcAt h2 x (i+1))(I:Heap.SameBut x.it h1 h2) :
  Mid z TI TO G xs olds i Y f1 h (k+1) h2:=by
 have O:=QaH N;have hi:=D.it x O;refine{I.extBut _ _ hi.1.symm m.hz,I.extBut _ _ hi.2.1.symm m.hTI,λj y J=>?_,λc o c1 c2 c3 e=>I.extBut _ _ (λz=>c3 (z ▸ Qcq.mpr ⟨x,O,rq⟩)) (m.rest c o c1 c2 c3 e),by rw[I.1,m.size]};by_cases hj:j=k
 .subst hj;rw[N] at J;cases J;rw[if_pos (QbE _)];exact q
 .have h1:=m.done j y J;have aa:y.it≠x.it:=λz=>hj (by
   have e1:(G.map (·.it))[j]?=some y.it:=by rw[Qbn,J];rfl
   have e2:(G.map (·.it))[k]?=some x.it:=by rw[Qbn,N];rfl
   rw[z] at e1;have l1:=(Qah.mp e1);have l2:=(Qah.mp e2);exact (List.getElem_inj D.nd).mp (l1.2.trans l2.2.symm))
  have hc:(if j < k+1 then i+1 else i)=(if j < k then i+1 else i):=by
   by_cases c:j < k
   .rw[if_pos c,if_pos 00]
   .rw[if_neg c,if_neg 00]
  rw[hc];exact h1.keep (λo e=>I.extBut _ _ aa e) (λo e=>I.extBut _ _ (D.ai y (QaH J) x O) e)
theorem Mid.other{z TI TO:Addr}{G:List Src}{xs olds:YE}{i:Nat}{I J:Value}{h h1 h2:Heap}{k:Nat}(D:Apart z TI TO G)(m:Mid z TI TO G xs olds i I J h k h1)(q:Heap.SameBut TO h1 h2):Mid z TI TO G xs olds i I J h k h2:=by
 refine{q.extBut _ _ D.TOz.symm m.hz,q.extBut _ _ D.TITO m.hTI,λj y N=>?_,λc o c1 c2 c3 e=>q.extBut _ _ c2 (m.rest c o c1 c2 c3 e),by rw[q.1,m.size]};have O:=QaH N;exact (m.done j y N).keep (λo e=>q.extBut _ _ (D.it y O).2.2 e) (λo e=>q.extBut _ _ (D.a y O).2 e)
theorem ZW{z TI TO:Addr}{q:List Src}{xs olds:YE}{i:Nat}{N:Value}{Q:YA}(D:Apart z TI TO q)(hz:IsZ s.heap z TI TO .none N)(ap:DP s.heap TI (q.map λx=>.ref x.it))(ay:DP s.heap TO olds)
  (az:∀x∈q,SrcAt s.heap x i) (a0:q≠[]) (ar:xs.length=q.length) (a1:olds.length=q.length) (hx:∀(j:Nat) (x:Src),q[j]?=some x->∃v,xs[j]?=some v/\x.items[i]?=some v) (hsz:q.length<=100)
  (hQ:∀h',IsZ h' z TI TO (rawInt ∅) (.bool false)->DP h' TI (q.map λx=>.ref x.it)->DP h' TO xs->(∀x∈q,SrcAt h' x (i+1))->DP h' ∅ xs->h'.objs.size=∅+1->Rest z TO q s.heap h'->Q (.ref ∅) { s with heap:=h' }) :
  wpAny 01 A (Builtin.«zip.__next__» {[.ref z],[]}) (λa2 s'=>∃v,a2=.done (.ret v)/\Q v s') E s:=by
 show wpAny _ _ (field (.ref z) 2 >>= _) _ _ _;refine QcG (QcD hz rfl (x:=.bool false) rfl ?_);show wpAny _ _ (field (.ref z) 3 >>= _) _ _ _;refine QcG (QcD hz rfl (x:=.ref TI) rfl ?_);refine QcG (Qce ap rfl ?_);dsimp only;rw[if_neg (by cases q with | nil=>exact absurd rfl a0 | cons a r=>simp)];show wpAny _ _ (Builtin.SmallTypes.ownedTupleIsFree (.ref z) >>= _) _ _ _;refine QcG ?_;unfold Builtin.SmallTypes.ownedTupleIsFree;refine QcG (QcD hz rfl (x:=.none) rfl (QcH ?_));simp only[if_true];refine QcG (wpAny_rule ?_);refine QcG (QcD hz rfl (x:=.ref TO) rfl ?_);refine QcG (Qbf hz 04 λae af J=>?_);replace af : IsZ ae z TI TO .ellipsis N:=af;refine QcG ?_;have m0:Mid z TI TO q xs olds i .ellipsis N s.heap 0 ae:=by
  refine⟨af,J.extBut _ _ D.TIz ap,λj x O=>?_,λc o c1 _ _ e=>J.extBut _ _ c1 e,J.1⟩;have G:=QaH O;rw[if_neg (QbW _)];exact (az x G).keep (λo e=>J.extBut _ _ (D.it x G).1 e) (λo e=>J.extBut _ _ (D.a x G).1 e)
 have fB : DP ae TO (xs.take 0++olds.drop 0):=J.extBut _ _ D.TOz ay;refine V6 (λl b s'=>∃k h',k<=q.length/\l=((q.map λx=>Value.ref x.it).drop k).zipIdx k/\b=⟨none,⟨⟩⟩/\s'={ s with heap:=h' }/\Mid z TI TO q xs olds i .ellipsis N s.heap k h'/\DP h' TO (xs.take k++olds.drop k)) (λb s' h=>?_) (λx r b s' h=>?_) _ _ _ {0,ae,QcB _,rq,rq,rq,m0,fB}
 .obtain⟨k,h',hk,e1,rfl,rfl,m,Y⟩:=h;have I:k=q.length:=by
   have:=congrArg List.length e1;rw[List.length_nil,List.length_zipIdx,QbD,QbJ] at this;lia
  subst I;rw[<-ar,Qby,ar,<-a1,List.drop_length,QbM] at Y;dsimp only;refine QcG (Qce Y rfl ?_);refine QcG (wpAny_newTuple ?_ (by show xs.length<=sizeLine;rw[QcE];lia));have I:∀j x,q[j]?=some x->SrcAt h' x (i+1):=λj x O=>by
   have:=m.done j x O;rw[if_pos (Qah.mp O).1] at this;exact this
  have an:z < h'.objs.size:=Qcp m.hz;have a7:TO < h'.objs.size:=Qcp Y;show wpAny _ _ (Builtin.SmallTypes.ownedTupleHandOut (.ref z) (.ref h'.objs.size) >>= _) _ _ _;refine QcG ?_;unfold Builtin.SmallTypes.ownedTupleHandOut;have aw : IsZ (h'.push { cls:=.type "tuple",data:=.seq xs.toArray }) z TI TO .ellipsis N:=Qax _ m.hz;refine QcG (Qbf aw 04 λax ag ah=>?_);replace ag : IsZ ax z TI TO (rawInt h'.objs.size) N:=ag;refine Qbf ag 04 λaa ab ai=>?_;replace ab : IsZ aa z TI TO (rawInt h'.objs.size) (.bool false):=ab;have up:∀c o,c≠z->h'.get? c=some o->aa.get? c=some o:=λc o c1 e=>ai.extBut _ _ c1 (ah.extBut _ _ c1 (Qax _ e));have am : DP aa h'.objs.size xs:=ai.extBut _ _ (Qcv an) (ah.extBut _ _ (Qcv an) (QaM _ rfl));have as:aa.objs.size=h'.objs.size+1:=by rw[ai.1,ah.1,Qcb]
  have ao:=m.size;rw[ao] at ab am as;refine QcH {_,rq,?_};show Q (.ref h'.objs.size) _;rw[ao];refine hQ aa ab (up _ _ D.TIz m.hTI) (up _ _ D.TOz Y) (λx G=>?_) am as λc o c1 c2 c3 e=>up c o c1 (m.rest c o c1 c2 c3 e);obtain⟨j,O⟩:=QaL G;exact (I j x O).keep (λo e=>up _ o (D.it x G).1 e) (λo e=>up _ o (D.a x G).1 e)
 .obtain⟨k,h',hk,e1,rfl,rfl,m,Y⟩:=h;have I:k < q.length:=by
   have:=congrArg List.length e1;rw[Qbz,List.length_zipIdx,QbD,QbJ] at this;lia
  obtain⟨y,hy⟩ : ∃y,q[k]?=some y:={_,Qam I};have G:=QaH hy;rw[Qaj (by rw[QbJ];exact I),List.zipIdx_cons,List.getElem_map] at e1;have ey:q[k]=y:=(Qah.mp hy).2;rw[ey] at e1;injection e1 with e1 e2;subst e1 e2;obtain⟨v,a3,a4⟩:=hx k y hy;refine QcG (wpAny_onRaise ?_);show wpAny _ _ (Builtin.SmallTypes.nextOf (.ref y.it) >>= _) _ _ _;have q0:=m.done k y hy;rw[if_neg (Qcj _)] at q0;refine QcG (bA q0 a4 λh2 q2 au=>QcH ?_);have m2:=m.draw D hy q2 au;have al:DP h2 TO (xs.take k++olds.drop k):=au.extBut _ _ (D.it y G).2.2.symm Y;have a8:(xs.take k++olds.drop k).length<=100:=by rw[QaV,QbA,QbD];lia
  have av:=zX (xs:=xs) (olds:=olds) (k:=k) (v:=v) 00 00 a3;refine QcG (Qce al rfl ?_);refine QcG (wpAny_updateSeq al rfl ?_ (by rw[Qbl,QcE];lia) (by rw[av,Qbl,QcE,QaV,QbA,QbD];lia));have a5:Heap.SameBut TO h2 (h2.update TO (Obj.mapSeq λx=>x.setIfInBounds k v)):=QaS ..;have a6:DP (h2.update TO (Obj.mapSeq λx=>x.setIfInBounds k v)) TO (xs.take (k+1)++olds.drop (k+1)):=by
   show (h2.update TO _).get? TO=_;rw[QaD _ al rfl,<-av];simp[Obj.mapSeq]
  refine QcG (wpAny_letGo (QcH ?_));exact{k+1,_,I,rq,rq,rq,m2.other D a5,a6}
theorem aQ{z TI TO:Addr}{j:List Src}{olds:YE}{i:Nat}{I:Value}{Q:Fin->Shared->Prop}(hh:A.handled=none)(D:Apart z TI TO j)(J:IsZ s.heap z TI TO .none I)(al:DP s.heap TI (j.map λx=>.ref x.it))(au:DP s.heap TO olds)
  (av:∀x∈j,SrcAt s.heap x i) (aw:j≠[]) (ax:olds.length=j.length) (hsz:j.length<=100) (ap:∃x∈j,x.items[i]?=none)
  (hE:∀h' e,Rest z TO j s.heap h'->(∃o,h'.get? e=some o/\o.cls=.type "StopIteration")->E (.ref e) { s with heap:=h' }) :
  wpAny 01 A (Builtin.«zip.__next__» {[.ref z],[]}) Q E s:=by
 show wpAny _ _ (field (.ref z) 2 >>= _) _ _ _;refine QcG (QcD J rfl (x:=.bool false) rfl ?_);show wpAny _ _ (field (.ref z) 3 >>= _) _ _ _;refine QcG (QcD J rfl (x:=.ref TI) rfl ?_);refine QcG (Qce al rfl ?_);dsimp only;rw[if_neg (by cases j with | nil=>exact absurd rfl aw | cons a r=>simp)];show wpAny _ _ (Builtin.SmallTypes.ownedTupleIsFree (.ref z) >>= _) _ _ _;refine QcG ?_;unfold Builtin.SmallTypes.ownedTupleIsFree;refine QcG (QcD J rfl (x:=.none) rfl (QcH ?_));simp only[if_true];refine QcG (wpAny_rule ?_);refine QcG (QcD J rfl (x:=.ref TO) rfl ?_);refine QcG (Qbf J 04 λO aa G=>?_);replace aa : IsZ O z TI TO .ellipsis I:=aa;refine QcG ?_;have m0:Mid z TI TO j [] olds i .ellipsis I s.heap 0 O:=by
  refine⟨aa,G.extBut _ _ D.TIz al,λa3 x hj=>?_,λc o c1 _ _ e=>G.extBut _ _ c1 e,G.1⟩;have q:=QaH hj;rw[if_neg (QbW _)];exact (av x q).keep (λo e=>G.extBut _ _ (D.it x q).1 e) (λo e=>G.extBut _ _ (D.a x q).1 e)
 have fB : DP O TO olds:=G.extBut _ _ D.TOz au;refine V6 (λl b s'=>∃k h' ys,k<=j.length/\l=((j.map λx=>Value.ref x.it).drop k).zipIdx k/\b=⟨none,⟨⟩⟩/\s'={ s with heap:=h' }/\Mid z TI TO j [] olds i .ellipsis I s.heap k h'/\DP h' TO ys/\ys.length=j.length/\∃x∈j.drop k,x.items[i]?=none) (λb s' h=>?_) (λx r b s' h=>?_) _ _ _ {0,O,olds,QcB _,rq,rq,rq,m0,fB,ax,ap}
 .obtain⟨k,h',ys,hk,e1,rfl,rfl,m,hT,N,x,hx,_⟩:=h;have:k=j.length:=by
   have:=congrArg List.length e1;rw[List.length_nil,List.length_zipIdx,QbD,QbJ] at this;lia
  subst this;rw[List.drop_length] at hx;cases hx
 .obtain⟨k,h',ys,hk,e1,rfl,rfl,m,hT,ay,xe,am,ab⟩:=h;have Y:k < j.length:=by
   have:=congrArg List.length e1;rw[Qbz,List.length_zipIdx,QbD,QbJ] at this;lia
  obtain⟨y,N⟩ : ∃y,j[k]?=some y:={_,Qam Y};have q:=QaH N;rw[Qaj (by rw[QbJ];exact Y),List.zipIdx_cons,List.getElem_map] at e1;have ey:j[k]=y:=(Qah.mp N).2;rw[ey] at e1;injection e1 with e1 e2;subst e1 e2;refine QcG (wpAny_onRaise ?_);show wpAny _ _ (Builtin.SmallTypes.nextOf (.ref y.it) >>= _) _ _ _;have q0:=m.done k y N;rw[if_neg (Qcj _)] at q0;cases hv:y.items[i]? with
  | none=>
   refine QcG (zU hh q0 hv λar e ag he=>?_);obtain⟨oe,ae,an⟩:=he;have ah : IsZ ar z TI TO .ellipsis I:=ag _ _ (D.it y q).1.symm m.hz;have az:e≠z:=λx=>by subst x;rw[ah] at ae;cases ae;simp at an
   refine Qbf ah 04 λas _ ai=>hE as e (λc o c1 c2 c3 x=>ai.extBut _ _ c1 (ag _ _ (λa2=>c3 (a2 ▸ Qcq.mpr ⟨y,q,rq⟩)) (m.rest c o c1 c2 c3 x))) ⟨oe,ai.extBut _ _ az ae,an⟩
  | some v=>
   refine QcG (bA q0 hv λh2 q2 ao=>QcH ?_);have m2:=m.draw D N q2 ao;have af:DP h2 TO ys:=ao.extBut _ _ (D.it y q).2.2.symm hT;refine QcG (Qce af rfl ?_);refine QcG (wpAny_updateSeq af rfl ?_ (by rw[Qbl,QcE];lia) (by rw[Array.size_setIfInBounds,Qbl,QcE];lia));have a0:Heap.SameBut TO h2 (h2.update TO (Obj.mapSeq λx=>x.setIfInBounds k v)):=QaS ..;have a1:DP (h2.update TO (Obj.mapSeq λx=>x.setIfInBounds k v)) TO (ys.set k v):=by
    show (h2.update TO _).get? TO=_;rw[QaD _ af rfl,<-List.setIfInBounds_toArray];simp[Obj.mapSeq]
   refine QcG (wpAny_letGo (QcH ?_));refine{k+1,_,ys.set k v,Y,rq,rq,rq,m2.other D a0,a1,by rw[List.length_set];exact ay,xe,?_,ab};rw[Qaj Y,ey] at am;rcases Qcg.mp am with z | z
   .subst z;rw[hv] at ab;cases ab
   .exact z
theorem mH{z TI TO:Addr}{G I:Value}{Q:Option Value->Shared->Prop}(J:IsZ s.heap z TI TO G I){Qi:YA}(h:wpAny 01 A.in1 (Builtin.«zip.__next__» {[.ref z],[]}) (λj s'=>∃v,j=.done (.ret v)/\Qi v s') (λ_ _=>False) s)(N:∀v s',Qi v s'->Q (some v) s') :
  wpAny 01 A (pyNext (.ref z)) Q E s:=by
 have hT:s.TypeIs (.ref z) "zip":=⟨_,J,rq⟩;unfold pyNext;refine QcG (Qcm (Qas (name:=Str.ofString "__next__") hT F.slot_zip_next (QbC F.slot_zip_next hT F.entry_zip_next (QcI h (λj s' q=>?_) λ_ _ f=>f.elim) (F.args_zip_next_1 _))));obtain⟨v,e,q⟩:=q;exact⟨v,e,QcH (N v s' q)⟩
theorem Ym{z TI TO:Addr}{j G:Value}{Q:Option Value->Shared->Prop}{R:Heap->Prop}(I:IsZ s.heap z TI TO j G)
  (h:wpAny 01 A.in1 (Builtin.«zip.__next__» {[.ref z],[]}) (λ_ _=>False) (λv s'=>∃h' e,v=.ref e/\s'={ s with heap:=h' }/\R h'/\∃o,h'.get? e=some o/\o.cls=.type "StopIteration") s) (J:∀h',R h'->Q none { s with heap:=h' }) :
  wpAny 01 A (pyNext (.ref z)) Q E s:=by
 have hT:s.TypeIs (.ref z) "zip":=⟨_,I,rq⟩;unfold pyNext;refine QcG (Qcm (Qas (name:=Str.ofString "__next__") hT F.slot_zip_next (QbC F.slot_zip_next hT F.entry_zip_next (QcI h (λ_ _ f=>f.elim) λv s' q=>?_) (F.args_zip_next_1 _))));obtain⟨h',e,rfl,rfl,r,o,N,hc⟩:=q;exact QcG (QbH (T:="StopIteration") (b:=true) ⟨o,N,hc⟩ isSubtype_stop (QcH (J _ r)))
theorem WD{z TI TO:Addr}{q G:Value}{Q:YA}(I:IsZ s.heap z TI TO q G)(h:Q (.ref z) s):wpAny 01 A (pyIter (.ref z)) Q E s:=by
 have j:s.TypeIs (.ref z) "zip":=⟨_,I,rq⟩;refine wpAny_pyIter_slot j F.slot_zip_iter (QbC F.slot_zip_iter j F.entry_zip_iter ?_ (F.args_zip_iter_1 _));show wpAny _ _ (ret (.ref z)) _ _ s;exact QcH {_,rq,"zip",_,j,F.slot_zip_next.lookup,h}
theorem qM{G:YJ} {N} {pos:Pos} {z TI TO T:Addr} {j:Value} {Q:YH} (q:IsZ s.heap z TI TO (rawInt T) j)
  (O:∀h',IsZ h' z TI TO .none j->Heap.SameBut z s.heap h'->Q () { s with heap:=h' }):wpAny 01 A (letOwnedTupleGo (.Tuple G N pos) (.ref z) (.ref T)) Q E s:=by
 unfold letOwnedTupleGo;refine QcG (wpAny_load q ?_);show wpAny _ _ (if (["enumerate","zip","dict_itemiterator","dict_reverseitemiterator","odict_iterator","itertools.zip_longest","itertools.pairwise"].contains "zip" &&
   (#[rawInt T,j,.bool false,.ref TI,.ref TO]:Array Value)[0]? == some (rawInt T))=true then _ else _) Q E s
 rw[if_pos 04];refine QcG (wpAny_rule ?_);show wpAny _ _ (setField (.ref z) 0 .none) Q E s;exact Qbf q 04 λh' I J=>O h' I J
end
end PySem.ZZ
namespace PySem
namespace F
end F
end PySem
namespace PySem.ZZ
open PySem
def TV(h:Heap)(a:Addr)(xs:Array Value)(c:String):Prop:=(c="list_iterator"/\h.IsList a xs)\/(c="tuple_iterator"/\h.IsTuple a xs)
theorem TV.src{h h':Heap}{a it:Addr}{xs:Array Value}{c:String}(q:TV h a xs c)(k:∀o,h.get? a=some o->h'.get? a=some o)(e:h'.get? it=some { cls:=.type c,data:=.fields #[.ref a,.int 0 0] }):SrcAt h' ⟨it,a,xs⟩ 0:=by
 rcases q with⟨rfl,q⟩|⟨rfl,o,j,r⟩
 .exact .inl {⟨_,e,rq,rq⟩,q.at k}
 .exact .inr {⟨_,e,rq,rq⟩,o,k o j,r}
theorem TV.lt{h:Heap}{a:Addr}{xs:Array Value}{c:String}(q:TV h a xs c):a < h.objs.size:=by
 rcases q with⟨rfl,o,e,_⟩|⟨rfl,o,e,_⟩
 .exact Qcp e
 .exact Qcp e
abbrev itO(c:String)(l:Addr):Obj:={ cls:=.type c,data:=.fields #[.ref l,.int 0 0] }
abbrev tuO(xs:Array Value):Obj:={ cls:=.type "tuple",data:=.seq xs }
abbrev z2a(h:Heap)(c1 c2:String)(l1 l2:Addr):Heap:=((((h.push (itO c1 l1)).push (itO c2 l2)).push (tuO #[.ref h.objs.size,.ref (h.push (itO c1 l1)).objs.size])).push (tuO #[.none,.none]))
abbrev z2(h:Heap)(c1 c2:String)(l1 l2:Addr):Heap:=(z2a h c1 c2 l1 l2).push
 { cls:=.type "zip",data:=.fields #[.none,.bool false,.bool false,.ref ((h.push (itO c1 l1)).push (itO c2 l2)).objs.size,.ref (((h.push (itO c1 l1)).push (itO c2 l2)).push (tuO #[.ref h.objs.size,.ref (h.push (itO c1 l1)).objs.size])).objs.size] }
theorem nA(q z:Addr)(xs ys:Array Value)(c1 c2:String):Meets (Builtin.«zip.__new__» {[.type "zip",.ref q,.ref z],[]}) (λ_ R s=>TV s.heap q xs c1/\TV s.heap z ys c2/\R (.ok (.ret (.ref (z2a s.heap c1 c2 q z).objs.size))) { s with heap:=z2 s.heap c1 c2 q z }):=
 .of_wp λprog w A R s h=>by
  obtain⟨I,g,d,tk,os⟩:=s;obtain⟨J,j,h⟩:=h;have O:=sub_zip;rcases J with⟨rfl,J⟩|⟨rfl,J⟩
  .have N:Heap.IsList (Shared.heap ⟨I,g,d,tk,os⟩) q xs:=J;rcases j with⟨rfl,j⟩|⟨rfl,j⟩
   .have G:Heap.IsList (Shared.heap {I.push (itO "list_iterator" q),g,d,tk,os}) z ys:=Heap.IsList.push j _
    wp_walk using Qbv N,Qbv G
    exact⟨_,rq,h⟩
   .have G:Heap.IsTuple (Shared.heap {I.push (itO "list_iterator" q),g,d,tk,os}) z ys:=Heap.IsTuple.push j _
    wp_walk using Qbv N,Qbe G
    exact⟨_,rq,h⟩
  .have N:Heap.IsTuple (Shared.heap ⟨I,g,d,tk,os⟩) q xs:=J;rcases j with⟨rfl,j⟩|⟨rfl,j⟩
   .have G:Heap.IsList (Shared.heap {I.push (itO "tuple_iterator" q),g,d,tk,os}) z ys:=Heap.IsList.push j _
    wp_walk using Qbe N,Qbv G
    exact⟨_,rq,h⟩
   .have G:Heap.IsTuple (Shared.heap {I.push (itO "tuple_iterator" q),g,d,tk,os}) z ys:=Heap.IsTuple.push j _
    wp_walk using Qbe N,Qbe G
    exact⟨_,rq,h⟩
abbrev z3a(h:Heap)(c1 c2 c3:String)(l1 l2 l3:Addr):Heap:=(((((h.push (itO c1 l1)).push (itO c2 l2)).push (itO c3 l3)).push (tuO #[.ref h.objs.size,.ref (h.push (itO c1 l1)).objs.size,.ref ((h.push (itO c1 l1)).push (itO c2 l2)).objs.size])).push (tuO #[.none,.none,.none]))
abbrev z3(h:Heap)(c1 c2 c3:String)(l1 l2 l3:Addr):Heap:=(z3a h c1 c2 c3 l1 l2 l3).push
 { cls:=.type "zip",data:=.fields #[.none,.bool false,.bool false,.ref (((h.push (itO c1 l1)).push (itO c2 l2)).push (itO c3 l3)).objs.size,.ref ((((h.push (itO c1 l1)).push (itO c2 l2)).push (itO c3 l3)).push (tuO #[.ref h.objs.size,.ref (h.push (itO c1 l1)).objs.size,.ref ((h.push (itO c1 l1)).push (itO c2 l2)).objs.size])).objs.size] }
structure Iq(h:Heap)(z TI TO:Addr)(ls:List Src)(h':Heap):Prop where
 hz:IsZ h' z TI TO .none (.bool false)
 hTI:DP h' TI (ls.map λx=>.ref x.it)
 hTO:DP h' TO (ls.map λ_=>.none)
 at_:∀x∈ls,SrcAt h' x 0
 ap:Apart z TI TO ls
 new:h.objs.size<=z/\h.objs.size<=TI/\h.objs.size<=TO/\∀x∈ls,h.objs.size<=x.it
 keep:∀c o,h.get? c=some o->h'.get? c=some o
theorem na{a b:Nat}(h:a≠b):@Ne Addr a b:=h
theorem apart2{n z G:Nat}{xs ys:Array Value}(I:z < n)(J:G < n):Apart (n+1+1+1+1:Nat) (n+1+1:Nat) (n+1+1+1:Nat) [⟨n,z,xs⟩,{(n+1:Nat),G,ys}]:=by
 refine{na 00,na 00,na 00,λx j=>?_,λx j=>?_,λx j y q=>?_,?_}
 .rcases Qcg.mp j with rfl | j
  .exact{na (by dsimp only;lia),na (by dsimp only;lia),na (by dsimp only;lia)}
  .cases Qbc.mp j;exact{na (by dsimp only;lia),na (by dsimp only;lia),na (by dsimp only;lia)}
 .rcases Qcg.mp j with rfl | j
  .exact{na (by dsimp only;lia),na (by dsimp only;lia)}
  .cases Qbc.mp j;exact{na (by dsimp only;lia),na (by dsimp only;lia)}
 .rcases Qcg.mp j with rfl | j
  .rcases Qcg.mp q with rfl | q
   .exact na (by dsimp only;lia)
   .cases Qbc.mp q;exact na (by dsimp only;lia)
  .cases Qbc.mp j;rcases Qcg.mp q with rfl | q
   .exact na (by dsimp only;lia)
   .cases Qbc.mp q;exact na (by dsimp only;lia)
 .show List.Nodup ([n,n+1]:List Nat);simp
section
variable{prog:Program}{w:World}{A:Around}{E:YA}{s:Shared}
theorem sW{j q:Addr}{xs ys:Array Value}{c1 c2:String}{Q:YA}(I:TV s.heap j xs c1)(J:TV s.heap q ys c2)
  (h:∀h' z TI TO i1 i2,Iq s.heap z TI TO [⟨i1,j,xs⟩,⟨i2,q,ys⟩] h'->Q (.ref z) { s with heap:=h' }):wpAny 01 A (call (.type "zip") [.ref j,.ref q]) Q E s:=by
 refine callType_new F.called_zip 05 (F.typeCall_zip_2 _ _) (F.newCall_zip_2 _ _) (λY=>F.args_object_init_3 Y _ _) F.entry_zip_new (nA j q xs ys c1 c2) ⟨I,J,?_⟩;have O:(z2 s.heap c1 c2 j q).get? (z2a s.heap c1 c2 j q).objs.size=some _:=QaM _ rfl;have g4:(z2 s.heap c1 c2 j q).get? (((s.heap.push (itO c1 j)).push (itO c2 q)).push (tuO #[.ref ∅,.ref (s.heap.push (itO c1 j)).objs.size])).objs.size=some (tuO #[.none,.none]):=Qax _ (QaM _ rfl);have g3:(z2 s.heap c1 c2 j q).get? ((s.heap.push (itO c1 j)).push (itO c2 q)).objs.size=some (tuO #[.ref ∅,.ref (s.heap.push (itO c1 j)).objs.size]):=Qax _ (Qax _ (QaM _ rfl));have g2:(z2 s.heap c1 c2 j q).get? (s.heap.push (itO c1 j)).objs.size=some (itO c2 q):=Qax _ (Qax _ (Qax _ (QaM _ rfl)));have g1:(z2 s.heap c1 c2 j q).get? ∅=some (itO c1 j):=Qax _ (Qax _ (Qax _ (Qax _ (QaM _ rfl))));have N:∀c o,s.heap.get? c=some o->(z2 s.heap c1 c2 j q).get? c=some o:=λc o x=>Qax _ (Qax _ (Qax _ (Qax _ (Qax _ x))));have a1:=I.lt;have a2:=J.lt;refine{⟨_,O,rq⟩,h _ _ _ _ ∅ (s.heap.push (itO c1 j)).objs.size ⟨O,g3,g4,?_,?_,?_,N⟩}
 .intro x G;rcases Qcg.mp G with rfl | G
  .exact I.src (λo e=>N _ _ e) g1
  .rcases Qcg.mp G with rfl | G
   .exact J.src (λo e=>N _ _ e) g2
   .cases G
 .simp only[Qcb];exact apart2 a1 a2
 .simp only[Qcb,Qcg,QbB,QcK,forall_eq_or_imp,forall_eq];lia
end
end PySem.ZZ
namespace PySem
namespace F
end F
end PySem
namespace PySem.ZZ
open PySem
section
variable{prog:Program}{w:World}{A:Around}{E:YA}{s:Shared}
structure Run(hb:Heap)(z TI TO:Addr)(ls:List Src)(rows:Nat->YE)(S:Addr)(ts:List Addr)(h:Heap):Prop where
 inc:ts.Pairwise (· < ·)
 lo:∀t∈ts,S < t/\t < h.objs.size
 at_:∀j t,ts[j]?=some t->DP h t (rows j)
 keep:∀c o,hb.get? c=some o->h.get? c=some o
 hTI:DP h TI (ls.map λx=>.ref x.it)
 hTO:∃olds,DP h TO olds/\olds.length=ls.length
 src:∀x∈ls,SrcAt h x ts.length
 hz:(ts=[]/\IsZ h z TI TO .none (.bool false))\/∃(T:Addr) (f1:Value),ts[0]?=some T/\IsZ h z TI TO (rawInt T) f1
structure Below(hb:Heap)(z TI TO:Addr)(ls:List Src)(S:Addr):Prop where
 ap:Apart z TI TO ls
 old:hb.objs.size<=z/\hb.objs.size<=TI/\hb.objs.size<=TO/\∀x∈ls,hb.objs.size<=x.it
 lz:z < S
 lTI:TI < S
 lTO:TO < S
 it:∀x∈ls,x.it < S/\x.a < S
 base:hb.objs.size<=S
theorem Run.frame{j:Heap}{z TI TO:Addr}{G:List Src}{J:Nat->YE}{S:Addr}{ts:List Addr}{h h':Heap}(B:Below j z TI TO G S)(r:Run j z TI TO G J S ts h)(hs:h'.objs.size=h.objs.size)(k:∀c o,c≠S->h.get? c=some o->h'.get? c=some o):Run j z TI TO G J S ts h':=by
 obtain⟨N,O,Y⟩:=r.hTO;refine⟨r.inc,λt ht=>by rw[hs];exact r.lo t ht,λaa t e=>k _ _ (Qcv (r.lo t (QaH e)).1) (r.at_ aa t e),λc o e=>k _ _ (Qcr (Qba (Qcp e) B.base)) (r.keep c o e),k _ _ (Qcr B.lTI) r.hTI,⟨N,k _ _ (Qcr B.lTO) O,Y⟩,λx I=>?_,?_⟩
 .exact (r.src x I).keep (λo e=>k _ _ (Qcr (B.it x I).1) e) (λo e=>k _ _ (Qcr (B.it x I).2) e)
 .rcases r.hz with⟨e,q⟩|⟨T,f1,e,q⟩
  .exact .inl ⟨e,k _ _ (Qcr B.lz) q⟩
  .exact .inr ⟨T,f1,e,k _ _ (Qcr B.lz) q⟩
theorem Run.more{Y:Heap}{z TI TO:Addr}{I:List Src}{O:Nat->YE}{S:Addr}{ts:List Addr}{h h':Heap}(B:Below Y z TI TO I S)(r:Run Y z TI TO I O S ts h)(hS:S < h.objs.size)(hs:h'.objs.size=h.objs.size+1)(hr:Rest z TO I h h')
  (hTI:DP h' TI (I.map λx=>.ref x.it)) (hTO:∃olds,DP h' TO olds/\olds.length=I.length) (src:∀x∈I,SrcAt h' x (ts.length+1)) (aa:DP h' h.objs.size (O ts.length)) (hz:∃(T:Addr) (f1:Value),(ts++[h.objs.size])[0]?=some T/\IsZ h' z TI TO (rawInt T) f1):Run Y z TI TO I O S (ts++[h.objs.size]) h':=by
 have fr:∀t,S < t->t≠z/\t≠TO/\t∉I.map (·.it):=λt G=>⟨λe=>by rw[e] at G;exact Nat.lt_asymm G B.lz,λe=>by rw[e] at G;exact Nat.lt_asymm G B.lTO,λe=>by
  obtain⟨x,N,e'⟩:=Qcq.mp e;rw[<-e'] at G;exact Nat.lt_asymm G (B.it x N).1⟩
 refine{?_,λt G=>?_,λj t e=>?_,λc o e=>?_,hTI,hTO,λx N=>by rw[QaV];exact src x N,.inr hz}
 .exact List.pairwise_append.mpr ⟨r.inc,Qaw _ _,λa ha b ab=>by
   have:b=h.objs.size:=by simpa using ab
   rw[this];exact (r.lo a ha).2⟩
 .rw[hs];rcases QbK.mp G with G | G
  .have:=r.lo t G;exact⟨this.1,Nat.lt_succ_of_lt this.2⟩
  .have:t=h.objs.size:=by simpa using G
   rw[this];exact⟨hS,QbE _⟩
 .by_cases c:j < ts.length
  .rw[List.getElem?_append_left c] at e;have ae:=r.lo t (QaH e);obtain⟨f1,f2,f3⟩:=fr t ae.1;exact hr t _ f1 f2 f3 (r.at_ j t e)
  .rw[List.getElem?_append_right (Nat.le_of_not_lt c)] at e;have hj:j - ts.length=0:=by
    have:=(Qah.mp e).1;rw[QaE] at this;lia
   rw[hj] at e;cases e;have:j=ts.length:=by lia
   rw[this];exact aa
 .have J:=Qcp e;refine hr c o (λq=>?_) (λq=>?_) (λq=>?_) (r.keep c o e)
  .rw[q] at J;exact absurd J (Nat.not_lt.mpr B.old.1)
  .rw[q] at J;exact absurd J (Nat.not_lt.mpr B.old.2.2.1)
  .obtain⟨x,N,e'⟩:=Qcq.mp q;rw[<-e'] at J;exact absurd J (Nat.not_lt.mpr (B.old.2.2.2 x N))
end
end PySem.ZZ
namespace PySem.ZZ
open PySem
section
variable{prog:Program}{w:World}{A:Around}{E:YA}{s:Shared}
structure Rows(ls:List Src)(n:Nat)(rows:Nat->YE):Prop where
 row:∀j,j < n->(rows j).length=ls.length/\∀(k:Nat) (x:Src),ls[k]?=some x->∃v,(rows j)[k]?=some v/\x.items[j]?=some v
 stop:∃x∈ls,x.items[n]?=none
 ne:ls≠[]
 few:ls.length<=100
 most:n<=1000
end
end PySem.ZZ
namespace L2
open PySem PySem.Spec PyProof.Rows
section
variable{X:Cx}{jb:YC}{U : St}{H:Hp}{s:Shared}{h':Heap}
end
section
variable{X:Cx}
end
theorem Hw{h:Heap}{p q:Addr}{o o':Obj}(e:h.get? p=some o)(j:h.get? q=some o')(n:o.cls≠o'.cls):p≠q:=λz=>by
 rw[z,j] at e;cases e;exact n rfl
theorem La{h:Heap}{a:Addr}{xs ys:Array Value}(h1:h.IsList a xs)(h2:h.IsTuple a ys):False:=by
 obtain⟨o,e,c,_⟩:=h1;obtain⟨o',j,z,_⟩:=h2;rw[j] at e;cases e;rw[z] at c;injection c with q;exact absurd q 05
section
variable{X:Cx}
end
mutual
inductive JN(K:YD)(H:Hp):V->PyData->Prop
 | non:JN K H .non .none
 | bl (b:Bool):JN K H (.bl b) (.bool b)
 | int (i:Int):JN K H (.int i) (.int i)
 | str (x:Str):JN K H (.str x) (.str x)
 | tup {a:Addr} {xs:YG} {ds:List PyData}:SqT K H a xs->Jw K H xs ds->JN K H (.ref a) (.tuple ds)
inductive Jw(K:YD)(H:Hp):YG->List PyData->Prop
 | nil:Jw K H [] []
 | cons {x:V} {d:PyData} {xs:YG} {ds:List PyData}:JN K H x d->Jw K H xs ds->Jw K H (x::xs) (d::ds)
end
section
variable{X:Cx}{jb:YC}{U : St}{H:Hp}{s:Shared}
mutual
theorem JN.reads(I:H^^^s):∀{v:V} {d:PyData} {u:Value},JN X.K H v d->RelV v u->∃j,Reads s.heap u d j
 | _,_,_,.non,r=>by cases (show _=Value.none from r);exact⟨_,.none⟩
 | _,_,_,.bl b,r=>by cases (show _=Value.bool b from r);exact{_,.bool b}
 | _,_,_,.int i,r=>by obtain⟨t,rfl⟩:=(show ∃t,_=Value.int i t from r);exact{_,.int i t}
 | _,_,_,.str x,r=>by obtain⟨t,rfl⟩:=(show ∃t,_=Value.str x t from r);exact{_,.str x t}
 | _,_,_,.tup (a:=a) (xs:=xs) e q,r=>by
  cases (show _=Value.ref a from r)
  obtain⟨O,G,⟨o,J,hc,n,N⟩,_⟩:=I.tuple e;obtain⟨j,z⟩:=Jw.reads I q G;exact{_,.tuple J hc N (by simpa using z)}
theorem Jw.reads(I:H^^^s):∀{xs:YG} {ds:List PyData} {us:YE},Jw X.K H xs ds->Vals xs us->∃j,ReadsAll s.heap us ds j
 | _,_,_,.nil,.nil=>⟨_,.nil⟩
 | _,_,_,.cons p q,.cons r t=>by
  obtain⟨j,z⟩:=JN.reads I p r;obtain⟨J,G⟩:=Jw.reads I q t;exact{_,.cons z G}
end
end
section
variable{X:Cx}{K:YD}
theorem qu(h:X.K=K)(j:X.A.units+64 < cLine):OpR X (compareOp .Eq) (λx y H Q=>∃d e,JN K H x d/\JN K H y e/\SeqAt.shaped d=true/\SeqAt.shaped e=true/\Q (.bl (PyData.eqv d e)) H):=by
 subst h;intros x y v u Q I q z h;obtain⟨d,e,p,G,J,N,aa⟩:=h;obtain⟨as,O⟩:=p.reads I q;obtain⟨bs,Y⟩:=G.reads I z;exact eq_dataH O Y J N j {.bl (PyData.eqv d e),H,I,rq,aa}
theorem Hz{es:YJ}{k:Nat}{pos:Pos}{t:TGs}{n:Nat}(q:X.K=K)(hc:X.calm=true)(h:PGs X es t)
  (z:(assignEach es X.env).length=n:=by rfl) (j:(assignEach es X.env).findIdx? (·.1)=none:=by rfl):PG X (.Tuple es k pos) (EV K n t):=q ▸ CV hc h z j
end
end L2
namespace L2
open PySem PySem.Spec PyProof.Rows
abbrev yK:YE:=[.type "ValueError",.type "Exception",.type "BaseException",.type "object"]
structure XCl(K:YD)(C:Addr):Prop where
 ex:excIn K C yK "ValueError.__new__"=true
 ga:findIn K (.ref C) "__getattribute__"=some (some (.builtin "BaseException.__getattribute__"))
 gn:findIn K (.ref C) "__getattr__"=some none
 ca:findIn K (.ref C) "__class__"=some (some (.builtin "object.__class__"))
 mo:subIn K (.ref C) (.type "object")=some true
 mb:subIn K (.ref C) (.type "BaseException")=some true
 kp:keepIn K (.ref C)=true
section
variable{K:YD}{C:Addr}
theorem XCl.look(T:XCl K C):∃dd j z,K.lookup C=some {.type "type",dd,.cls j,z}:=by
 have q:=T.ex;unfold excIn at q;split at q
 .rename_i dd j z G;exact⟨dd,j,z,G⟩
 .cases q
theorem XCl.obj(T:XCl K C){h:Heap}(X:K.In h):∃bm N nm q bs hdct sn sub ab col dd k0 k1 k2 k3 k5 I,h.get? C=some (excClassObj nm q C N bs bm hdct sn sub ab col dd k0 k1 k2 k3 k5 "ValueError.__new__")/\h.Ns N I/\I "__init__"=none/\OwnTail h yK bm:=by
 have q:=T.ex;unfold excIn at q;split at q
 .rename_i dd cd J ho;split at q
  .rename_i C' bm k0 k1 k2 k3 n k5 O hs;simp only[QbF,beq_iff_eq,Bool.not_eq_true'] at q;obtain⟨⟨⟨⟨⟨rfl,rfl⟩,z⟩,ht⟩,j⟩,G⟩:=q;obtain⟨nm,bs,aa,ns,qn,hd,sn,sub,ab,col,ae⟩:=cd;dsimp only at O z j G;subst O z;have Y:J=#[k0,k1,k2,k3,some (.builtin "ValueError.__new__"),k5]:=by
    obtain⟨l⟩:=J;simp only at hs;rw[hs]
   subst Y;exact⟨bm,ns,nm,qn,bs,hd,sn,sub,ab,col,dd,k0,k1,k2,k3,k5,_,X _ _ ho,.of_isNs (PySem.W.isNs_of_in X j),PySem.W.nsMap_none_of_in X j G,PySem.W.tail_of_in X ht⟩
  .cases q
 .cases q
end
def XAt(a C:Addr)(h:Heap):Prop:=∃o vs,h.get? a=some o/\o.cls=.ref C/\o.data=.fields vs/\vs[2]?=some .none
section
variable{prog:Program}{w:World}{A:Around}{E:YA}{h:Heap}{g:Array GenState}{d:Drawn}{t:Nat}{os:OsState}{K:YD}{a C:Addr}{o:Obj}
theorem lE{R:Result->Shared->Prop}(X:K.In h)(T:XCl K C)(j:h.get? a=some o)(hc:o.cls=.ref C)(G:R (.ok (.ret (.ref C))) ⟨h,g,d,t,os⟩) :
  codeAny 01 A (.call (.builtin "getset_descriptor.__get__") {[.builtin "object.__class__",.ref a,.ref C],[]}) R ⟨h,g,d,t,os⟩:=by
 have q:(⟨h,g,d,t,os⟩ : Shared).TypeIs (.builtin "object.__class__") "getset_descriptor":=F.typeOf_object_class;have z:PySem.W.Looks 01 h (isSubtype (.ref C) (.type (".".intercalate ("object.__class__".cutAt '.').dropLast))) true:=by
  rw[F.owner_object_class];exact looks_subIn X T.mo
 refine QaK F.slot_gs_get.plain F.entry_gs_get (F.slot_gs_get.check _ _ _ _ _ _ _ _ q (F.args_gs_get _ _ _) ?_)
 repeat (any_goals (first | assumption | (with_reducible refine Qbx j ?_;rw[hc]) | with_reducible refine z.at ?_ | wp_step))
 refine{Code.quiet_builtin _ (by trivial),QbZ F.entry_object_class ?_}
 repeat (any_goals (first | assumption | (with_reducible refine Qbx j ?_;rw[hc]) | wp_step))
theorem aR{tk:Tok}{Q:Fin->Shared->Prop}(X:K.In h)(T:XCl K C)(j:h.get? a=some o)(hc:o.cls=.ref C)(G:Q (.done (.ret (.ref C))) ⟨h,g,d,t,os⟩) :
  wpAny 01 A (Builtin.«object.__getattribute__» {[.ref a,.str "__class__" tk],[]}) Q E ⟨h,g,d,t,os⟩:=by
 have z:(⟨h,g,d,t,os⟩ : Shared).TypeIs (.builtin "object.__class__") "getset_descriptor":=F.typeOf_object_class;have q:=looks_findIn (M:=model prog w) X T.ca;have I:=F.typeOf_object_class;have J:=F.slot_gs_get.lookup;have N:=F.slot_gs_set.lookup
 repeat (any_goals (first | assumption | (with_reducible refine Qbx j ?_;rw[hc]) | with_reducible refine q.at ?_ | wp_step))
 refine lE X T j hc ?_
 repeat (any_goals (first | assumption | wp_step))
theorem pF{M:Model}{j:Value}{Q:YH}(X:K.In h)(T:XCl K C)(z:h.get? a=some o)(hc:o.cls=.ref C)(G:Q () ⟨h,g,d,t,os⟩) :
  wpAny M A (checkBuiltinCall "BaseException.__getattribute__" {[.ref a,j],[]}) Q E ⟨h,g,d,t,os⟩:=by
 have I:builtinKind "BaseException.__getattribute__"=some .slot:=by trivial
 have q:splitId "BaseException.__getattribute__"=some ("BaseException","__getattribute__"):=by trivial
 have J:=looks_subIn (M:=M) X T.mb;have N:=F.args_bexc_ga (.ref a) j;simp only[checkBuiltinCall,I,q];refine QcG ?_
 .unfold isInstance
  repeat (first | (with_reducible refine Qbx z ?_;rw[hc]) | with_reducible refine J.at ?_ | wp_step)
  exact G
theorem iu{tk:Tok}{R:Result->Shared->Prop}(X:K.In h)(T:XCl K C)(j:h.get? a=some o)(hc:o.cls=.ref C)(q:R (.ok (.ret (.ref C))) ⟨h,g,d,t,os⟩) :
  codeAny 01 A (.call (.builtin "BaseException.__getattribute__") {[.ref a,.str "__class__" tk],[]}) R ⟨h,g,d,t,os⟩:=
 QaK F.attr_ValueError.ga.plain F.entry_bexc_ga (pF X T j hc (aR X T j hc q))
theorem pD{tk:Tok}{fill j:Bool}{Q:YA}(X:K.In h)(T:XCl K C)(q:h.get? a=some o)(hc:o.cls=.ref C)(O:Q (.ref C) ⟨h,g,d,t,os⟩) :
  wpAny 01 A (getAttrBy (.ref a) (.str "__class__" tk) fill j) Q E ⟨h,g,d,t,os⟩:=by
 have G:=looks_findIn (M:=model prog w) X T.ga;have I:=looks_findIn (M:=model prog w) X T.gn;have Y:=F.attr_ValueError.ga.bind (.ref a);have J:(j&&onTheHeap (Value.builtin "BaseException.__getattribute__"))=false:=by cases j <;> rfl
 have z:(Value.builtin "BaseException.__getattribute__" == Value.builtin "object.__getattribute__")=false:=by trivial
 have N:(onTheHeap (Value.ref C)&&Value.builtin "BaseException.__getattribute__" == Value.builtin "object.__getattribute__")=false:=by rw[z];rfl
 repeat (any_goals (first | assumption | (with_reducible refine Qbx q ?_;rw[hc]) | with_reducible refine G.at ?_ | with_reducible refine I.at ?_ | wp_step))
 refine iu X T q hc ?_
 repeat (any_goals (first | assumption | wp_step))
theorem iw{Q:Option Value->Shared->Prop}(X:K.In h)(T:XCl K C)(j:h.get? a=some o)(hc:o.cls=.ref C)(q:Q (some (.ref C)) ⟨h,g,d,t+1,os⟩):wpAny 01 A (getAttr? (.ref a) "__class__") Q E ⟨h,g,d,t,os⟩:=by
 unfold getAttr? getAttrBy?
 repeat (any_goals (first | assumption | with_reducible apply pD X T j hc | wp_step))
end
theorem wD{K:YD}{a C:Addr}(T:XCl K C):PySem.W.KitX K (.ref a) (.ref C) (XAt a C) where
 ty:=λM h X p=>by
  obtain⟨o,I,h1,h2,_⟩:=p;exact h2 ▸ (PySem.W.Looks.ld h1).andThen .now
 it:=λ_ _ X _=>by
  obtain⟨J,N,O,j⟩:=T.look;intro A' Q' E' s' k q;unfold isType loadHead;exact QcG (wpAny_loadPart (k _ _ (X _ _ j)) (QcH q))
 ne:=λh Y J aa n O X G=>by
  obtain⟨_,N,_,j⟩:=T.look;refine Bool.eq_false_iff.mpr λq=>?_;have e:C=Y:=Value.ref.inj (beq_iff_eq.mp q);subst e;have z:=congrArg Obj.data (QbP ((X _ _ j).symm.trans G));cases z
 ca:=λ{_ _ _ _ _ s} X p k=>by
  obtain⟨h,g,d,t,os⟩:=s;obtain⟨o,I,h1,h2,_⟩:=p;exact iw X T h1 h2 k
def xo(a C:Addr):HO:=.ext (XAt a C)
section
variable{X:Cx}{jb:YC}{U : St}{H:Hp}{s:Shared}
theorem FD{a C:Addr}(I:H^^^s)(e:H a=some (xo a C)):XAt a C s.heap:=(show Bs X.prog X.w H s.heap a (xo a C) from I.hok a _ e).1
theorem Xg{A:Around}{E:YA}{Q:YA}{a C:Addr}{c:Value}{b:Bool}(I:H^^^s)(T:XCl X.K C)(e:H a=some (xo a C))(k:kitOne X.K (.ref C) c=some b)(h:∀tk,Q (.bool b) { s with toks:=tk }) :
  wpAny (model X.prog X.w) A (call (.builtin "isinstance") [.ref a,c]) Q E s:=
 kia_one (wD T) I.kIn (FD I e) k (λz=>nomatch z) h
end
def XT(B:Heap)(e C:Addr)(fl:Option Value)(h:Heap):Prop:=
 ∃oe vs,h.get? e=some oe/\oe.cls=.ref C/\oe.data=.fields vs/\vs[2]?=some .none /\
  match fl with
  | none=>vs[1]?=some .none
  | some f=>∃T j ts,vs[1]?=some (.ref T)/\B.get? T=none/\T≠e/\h.get? T=some j/\j.data=.fields ts/\ts[3]?=some f
structure Fl(B:Heap)(l:List Env)(e C:Addr)(fl:Option Value)(h:Heap):Prop where
 stays:B.StaysIn h
 new:B.get? e=none
 fr:h.FunFrames B l
 tr:XT B e C fl h
theorem XT.at{B h:Heap}{e C:Addr}{fl:Option Value}(x:XT B e C fl h):XAt e C h:=by
 obtain⟨oe,j,h1,h2,q,z,_⟩:=x;exact⟨oe,j,h1,h2,q,z⟩
section
variable{M:Model}{A:Around}{E:YA}{s:Shared}{B:Heap}{env:Env}{outer l:List Env}{L e C:Addr}{Q:YH}
theorem fO{oe:Obj}{vs:Array Value}{ai:Value}{ah:Bool}(al:A.frames=some (env::outer))(hf:env.frame=some L)(st:B.StaysIn s.heap)(aa:B.get? e=none)(I:s.heap.FunFrames B (env::outer))
  (J:s.heap.get? e=some oe) (hc:oe.cls=.ref C) (G:oe.data=.fields vs) (h2:vs[2]?=some .none) (hq:∀h',Fl B (env::outer) e C (some (rawInt L)) h'->s.heap.UpToSlots h'->Q () { s with heap:=h' }) :
  wpAny M A (do let fo <-frameOf env;let pl <-entryPlaceOf L ah;let tb <-EntryCells.newEntry ai fo .none (rawInt L) .none pl;setField (.ref e) 1 tb) Q E s:=by
 have ap:2 < vs.size:=(Qaf.mp h2).1;have nf:e∉(env::outer).filterMap (·.frame):=λY=>by
  obtain⟨_,of,ab,am⟩:=I.mem Y;rw[J] at ab;cases ab;exact am vs G
 refine QcG (wpAny_frameOf_fun al I hf λj N=>?_);refine QcG (wpAny_entryPlaceOf λpl ae=>?_);unfold EntryCells.newEntry newFields;refine QcG (Qbp ?_ (ae.sizeOk5 _ _ _ _ _));have eA:j.get? e=some oe:=(N.2.1 e nf).trans J;have af:B.StaysIn j:=λb o q=>(N.2.1 b λY=>by rw[(I.mem Y).1] at q;cases q).trans (st b o q);have an:∀(ob:Obj) (O:Array Value),ob.data=.fields O->ob.isFreed=false->O[3]?=some (rawInt L)->wpAny M A (setField (.ref e) 1 (.ref j.objs.size)) Q E { s with heap:=j.push ob }:=λob O dT ao iT=>by
  have eP:=Qax (h:=j) ob eA;refine wpAny_setField eP G 00 (hq _ ?_ ?_)
  .have ag:j.objs.size≠e:=Qcv (Qcp eA);have dN:=Obj.data_mapFields G (·.setIfInBounds 1 (Value.ref j.objs.size));have eN:=QaD (Obj.mapFields (·.setIfInBounds 1 (Value.ref j.objs.size))) eP (Obj.isFreed_of_fields dN);have keep:∀b o,b≠e->j.get? b=some o->((j.push ob).update e (Obj.mapFields (·.setIfInBounds 1 (Value.ref j.objs.size)))).get? b=some o:=λb o hb q=>by
    rw[Qaz _ _ (Ne.symm hb)];exact Qax _ q
   refine{λb o q=>keep b o (λz=>by rw[z,aa] at q;cases q) (af b o q),aa,I.of_keeps λb o q nb=>?_,{_,_,eN,(Obj.cls_mapFields _ _).trans hc,dN,?_,j.objs.size,ob,O,?_,af.fresh,ag,?_,dT,iT}}
   .obtain⟨sl,q'⟩:=N.2.2 b o q;exact{_,keep b _ (λz=>by rw[z,J] at q;cases q;exact nb vs G) q',rq}
   .rw[Array.getElem?_setIfInBounds_ne 05];exact h2
   .simp[show 1 < vs.size by lia]
   .rw[Qaz _ _ (Ne.symm ag)];exact QaM j ao
  .intro b o q nb;obtain⟨sl,q'⟩:=N.2.2 b o q;refine⟨sl,?_⟩;rw[Qaz _ _ (λz=>by rw[<-z,J] at q;cases q;exact nb vs G)];exact Qax _ q'
 refine an _ _ rfl rfl ?_
 first | (simp;done) | (rcases ae with rfl |⟨_,_,_,_,_,_,_,rfl⟩ <;> simp)
theorem kh{fl:Option Value}(ae:fl=none\/fl=some .none)(aa:A.frames=some (env::outer))(N:env.frame=some L)(x:Fl B (env::outer) e C fl s.heap)
  (hq:∀h',Fl B (env::outer) e C (some (rawInt L)) h'->s.heap.UpToSlots h'->Q () { s with heap:=h' }):wpAny M A (noteFrame (.ref e) env) Q E s:=by
 obtain⟨st,ab,fr,oe,vs,I,hc,J,h2,ht⟩:=x;unfold noteFrame;simp only[N];rcases ae with rfl | rfl
 .refine QcG (QcD I J (show vs[1]?=some .none from ht) ?_)
  rw[if_neg 05];exact fO aa N st ab fr I hc J h2 hq
 .obtain⟨T,oT,ts,h1,nT,af,O,Y,iT⟩:=ht;refine QcG (QcD I J h1 ?_);rw[if_pos (show (Value.ref T != Value.none)=true from by simp)]
  refine QcG (QcD O Y iT ?_);rw[if_neg (show ¬((Value.none == rawInt L)=true) from by simp[rawInt])]
  refine QcG (wpAny_setField O Y (Qaf.mp iT).1 ?_);have G:∀b o,b≠T->s.heap.get? b=some o->(s.heap.update T (Obj.mapFields (·.setIfInBounds 3 Value.none))).get? b=some o:=λb o hb q=>(Qaz _ _ (Ne.symm hb)).trans q;have dR:∀b o,s.heap.get? b=some o->(∀ws,o.data≠.fields ws)->b≠T:=λb o q j z=>by rw[z,O] at q;cases q;exact j ts Y
  refine fO (s:={ s with heap:=s.heap.update T (Obj.mapFields (·.setIfInBounds 3 Value.none)) }) aa N (λb o q=>G b o (λz=>by rw[z,nT] at q;cases q) (st b o q)) ab
   (fr.of_keeps λb o q j=>⟨o,G b o (dR b o q j) q,rq⟩) (G e oe (Ne.symm af) I) hc J h2 λh' y u=>hq h' y ?_
  exact λb o q j=>u b o (G b o (dR b o q j) q) j
theorem fM{f:Value}(x:Fl B l e C (some f) s.heap)(hq:∀h',Fl B l e C (some .none) h'->s.heap.UpToSlots h'->Q () { s with heap:=h' }):wpAny M A (setFlight (.ref e) none) Q E s:=by
 obtain⟨st,aa,fr,oe,vs,Y,hc,hd,h2,T,oT,ts,h1,nT,N,I,J,iT⟩:=x;have O:3 < ts.size:=(Qaf.mp iT).1;have G:∀b o,b≠T->s.heap.get? b=some o->(s.heap.update T (Obj.mapFields (·.setIfInBounds 3 Value.none))).get? b=some o:=λb o hb q=>(Qaz _ _ (Ne.symm hb)).trans q;have dR:∀b o,s.heap.get? b=some o->(∀ws,o.data≠.fields ws)->b≠T:=λb o q j z=>by rw[z,I] at q;cases q;exact j ts J
 unfold setFlight;refine QcG (QcD Y hd h1 ?_);rw[if_pos (show (Value.ref T != Value.none)=true from by simp)]
 refine wpAny_setField I J O (hq (s.heap.update T (Obj.mapFields (·.setIfInBounds 3 Value.none))) {λb o q=>G b o (λz=>by rw[z,nT] at q;cases q) (st b o q),aa,fr.of_keeps λb o q j=>⟨o,G b o (dR b o q j) q,rq⟩,?_}
  λb o q j=>⟨o.slots,G b o (dR b o q j) q⟩)
 have dN:=Obj.data_mapFields J (·.setIfInBounds 3 Value.none);exact⟨oe,vs,G e oe (Ne.symm N) Y,hc,hd,h2,T,_,_,h1,nT,N,QaD _ I (Obj.isFreed_of_fields dN),dN,by simp[O]⟩
theorem yh{fl:Option Value}(j:fl=none\/fl=some .none)(q:A.frames=some (env::outer))(G:env.frame=some L)(x:Fl B (env::outer) e C fl s.heap)
  (I:∀h',Fl B outer e C (some .none) h'->s.heap.UpToSlots h'->Q () { s with heap:=h' }):wpAny M A (leaving env (.ref e)) Q E s:=by
 unfold leaving;refine QcG (kh j q G x λh1 y J=>?_);refine fM y λh2 z N=>I h2 ⟨z.stays,z.new,z.fr.2.2,z.tr⟩ (J.trans N)
end
theorem Bs.there{P:Program}{w:World}{H:Hp}{h:Heap}{a:Addr}{o:HO}(x:Bs P w H h a o):∃u,h.get? a=some u:=by
 cases o with
 | lst xs=>obtain⟨_,z,n,_,q⟩:=x;exact⟨_,q⟩
 | tup xs=>obtain⟨_,z,_,ob,q,_⟩:=x;exact⟨_,q⟩
 | dK kvs=>obtain⟨_,_,G,_,ob,es,j,q,_⟩:=x;exact⟨_,q⟩
 | dT kvs=>obtain⟨_,_,xs,_,ob,es,j,q,_⟩:=x;exact⟨_,q⟩
 | set S n=>obtain⟨ob,es,j,t,q,_⟩:=x;exact⟨_,q⟩
 | ins C dx fs=>obtain⟨_,_,_,q,_⟩:=x;exact⟨_,q⟩
 | own y=>exact x
 | xd fs=>obtain⟨mA,⟨I,es,j,q,_⟩,_⟩:=x;exact⟨_,q⟩
 | rng lo hi=>obtain⟨t,u,v,q⟩:=x;exact⟨_,q⟩
 | frz ob u=>exact⟨_,x.1⟩
 | tbl ps=>exact⟨_,x⟩
 | met f y=>exact⟨_,x⟩
 | ext J=>exact x.2.1
structure Exc(P:Program)(w:World)(outer:List Env)(H:Hp)(s:Shared)(e C:Addr)(B:Heap)(H':Hp)(s':Shared):Prop where
 os:s'.os=s.os
 bare:AllBare s'.gens
 fl:∃fl,(fl=none\/fl=some .none)/\Fl B outer e C fl s'.heap
 un:Un (frs outer) [] H H' s.heap s'.heap
 hok:HOk P w H' s'.heap
 tin:∀b o,s'.heap.get? b=some o->H' b≠none->B.get? b=some o
 old:∀b o,s.heap.get? b=some o->H b=none->b∉frs outer->B.get? b=some o
 ex:∀b o,s.heap.get? b=some o->b∉frs outer->∃o',B.get? b=some o'
def CX1(P:Program)(w:World):CXT:=λouter H s E ev s'=>∃e C B H',ev=.ref e/\Exc P w outer H s e C B H' s'/\E (.ref C) none H'
section
variable{P:Program}{w:World}{outer:List Env}{H H':Hp}{s s':Shared}{e C:Addr}{B h2:Heap}{fl:Option Value}
theorem Exc.yZ(x:Exc P w outer H s e C B H' s')(st:B.StaysIn h2):HOk P w H' h2:=λa o q=>
 (x.hok a o q).stay (λb u j G=>st b u (x.tin b u G (by
  rcases j with rfl | j
  .rw[q];exact λz=>nomatch z
  .rw[j];exact λz=>nomatch z))) (λ_ z=>z) λ_ _ z=>z
theorem Exc.IB(x:Exc P w outer H s e C B H' s')(f:Fl B outer e C fl h2)(u:s'.heap.UpToSlots h2):Un (frs outer) [] H H' s.heap h2:=by
 refine{λb o q n j _=>f.stays b o (x.old b o q n j),λb o q n j J=>?_,x.un.free,λb o q J=>?_,x.un.tups,x.un.Ig,x.un.Jb}
 .obtain⟨sl,G⟩:=x.un.slot b o q n j J;obtain⟨_,_,g⟩:=x.fl;obtain⟨_,z,I,O⟩:=g.fr.mem j;rw[G] at I;cases I;obtain⟨N,Y⟩:=u b _ G O;exact⟨N,Y⟩
 .by_cases j:b∈frs outer
  .obtain⟨_,z,I,_⟩:=f.fr.mem j;exact⟨z,I⟩
  .obtain⟨z,G⟩:=x.ex b o q j;exact⟨z,f.stays b z G⟩
theorem Exc.FF(x:Exc P w outer H s e C B H' s')(st:B.StaysIn h2):∀b o,h2.get? b=some o->H' b≠none->B.get? b=some o:=λb o q j=>by
 cases z:H' b with
 | none=>exact absurd z j
 | some v=>
  obtain⟨G,N⟩:=(x.hok b v z).there;have I:=x.tin b G N j;have J:=st b G I;rw[q] at J;cases J;exact I
theorem Exc.free(x:Exc P w outer H s e C B H' s'):H' e=none:=by
 cases j:H' e with
 | none=>rfl
 | some v=>
  obtain⟨G,I⟩:=(x.hok e v j).there;have q:=x.tin e G I (by rw[j];exact λz=>nomatch z);obtain⟨_,_,g⟩:=x.fl;rw[g.new] at q;cases q
theorem Exc.fresh(x:Exc P w outer H s e C B H' s'):s.heap.get? e=none:=by
 cases G:s.heap.get? e with
 | none=>rfl
 | some o=>
  obtain⟨_,_,g⟩:=x.fl;by_cases q:e∈frs outer
  .obtain⟨_,I,j,J⟩:=g.fr.mem q;obtain⟨oe,N,z,_,O,_⟩:=g.tr;rw[j] at z;cases z;exact absurd O (J N)
  .obtain⟨I,j⟩:=x.ex e o G q;rw[g.new] at j;cases j
end
section
variable{X:Cx}{jb:YC}{U : St}{H H':Hp}{s s':Shared}{e C:Addr}{B h2:Heap}{fl:Option Value}
theorem Exc.made{args:YE}{h':Heap}(I:H^^^s)(j:Heap.MadeExcOf s.heap h' e (.ref C) args):Exc X.prog X.w X.stack H s e C (hideAll s.heap (frs X.stack)) H { s with heap:=h' }:=by
 have st:(hideAll s.heap (frs X.stack)).StaysIn s.heap:=λb o q=>PySem.W.of_hideAll _ q;refine⟨rq,I.bare,⟨none,.inl rfl,{λb o q=>j.keeps b o (st b o q),?_,?_,?_}⟩,Un.kept j.keeps,I.hok.kept j.keeps,λb o q G=>?_,λb o q n G=>hideAll_get _ q G,λb o q G=>⟨o,hideAll_get _ q G⟩⟩
 .cases z:(hideAll s.heap (frs X.stack)).get? e with
  | none=>rfl
  | some o=>
   have q:=st e o z;rw[j.new] at q;cases q
 .have O:s.heap.FunFrames (hideAll s.heap (frs X.stack)) X.stack:=PySem.W.funFrames_hide I.stack λenv Y a ha=>List.mem_filterMap.mpr ⟨env,Y,ha⟩;exact O.of_keeps λb o q _=>⟨o,j.keeps b o q,rq⟩
 .obtain⟨t,q,_⟩:=j.there;exact⟨_,_,q,rq,rq,rq,rq⟩
 .cases z:H b with
  | none=>exact absurd z G
  | some v=>
   obtain⟨o1,J⟩:=(I.hok b v z).there;have N:=j.keeps b o1 J;have q':h'.get? b=some o:=q;rw[q'] at N;cases N;refine hideAll_get _ J λhm=>?_;rw[I.XD b hm] at z;cases z
theorem Exc.leave{M:Model}{E1:YA}{Q:YH}(I:H^^^s)(hs:X.stack=X.env::X.outer)(Y:X.env.frame=some X.env.locals)(hx:X.ex=[])(x:Exc X.prog X.w X.stack H s e C B H' s')
  (hq:∀h2,Exc X.prog X.w X.outer X.H₀ X.s₀ e C B H' { s' with heap:=h2 }->Q () { s' with heap:=h2 }):wpAny M X.A (leaving X.env (.ref e)) Q E1 s':=by
 obtain⟨fl,aa,f⟩:=x.fl;have f':=f;rw[hs] at f';have nl:∀b o,X.s₀.heap.get? b=some o->b≠X.env.locals:=λb o q=>Qcr (Qba (Qcp q) I.ok.above);have O:∀b o,X.s₀.heap.get? b=some o->b∉X.fs->b∉frs X.stack:=λb o q j hm=>(Qcg.mp (I.Wm b hm)).elim (nl b o q) j;have EZ:∀b,b∈X.fs->b∈frs X.stack:=λb j=>by
  rw[hs];unfold frs;rw[List.filterMap_cons,Y];exact QaI _ j
 have G:∀b:Addr,b∉X.ex:=λb=>by rw[hx];simp
 refine yh aa (I.ok.frames.trans (congrArg some hs)) Y f' λh2 g u=>hq h2 {x.os.trans I.os,x.bare,{_,.inr rfl,g},?_,x.yZ g.stays,x.FF g.stays,λb o q n j=>?_,λb o q j=>?_}
 .refine{λb o q n j _=>?_,λb o q n j _=>?_,λb o q n _=>?_,λb o q _=>?_,λb xs q=>x.un.tups b xs (I.base.tups b xs q),λb o v q=>x.un.Ig b o v (I.base.Ig b o v q),λb ps q=>?_}
  .exact g.stays b o (x.old b o (I.base.keep b o q n j (G b)) (I.base.free b o q n (G b)) (O b o q j))
  .obtain⟨sl,z⟩:=I.base.slot b o q n j (G b);obtain⟨ae,N⟩:=x.un.slot b _ z (I.base.free b o q n (G b)) (EZ b j) 04;obtain⟨_,J,q3,nf⟩:=f.fr.mem (EZ b j);rw[N] at q3;cases q3;obtain⟨ab,q4⟩:=u b _ N nf;exact⟨ab,q4⟩
  .obtain⟨J,z⟩:=I.base.there b o q (G b);exact x.un.free b J z (I.base.free b o q n (G b)) 04
  .by_cases j:b∈X.fs
   .obtain⟨_,J,z,_⟩:=g.fr.mem j;exact⟨J,z⟩
   .obtain⟨J,z⟩:=I.base.there b o q (G b);obtain⟨o2,N⟩:=x.ex b J z (O b o q j);exact⟨o2,g.stays b o2 N⟩
  .obtain⟨m1,z⟩:=I.base.Jb b ps q;obtain⟨m2,N⟩:=x.un.Jb b _ z;exact{m1++m2,by rw[N,Array.append_assoc]}
 .exact x.old b o (I.base.keep b o q n j (G b)) (I.base.free b o q n (G b)) (O b o q j)
 .obtain⟨J,z⟩:=I.base.there b o q (G b);exact x.ex b J z (O b o q j)
theorem Exc.caught(aa:H^^^s)(x:Exc X.prog X.w X.stack H s e C B H' s')(f:Fl B X.stack e C fl h2)(u:s'.heap.UpToSlots h2):Inv X jb U (upd H' e (xo e C)) { s' with heap:=h2 }:=by
 have v:=x.IB f u;have O:=x.fresh;have G:=x.free;have Y:∀b o,s.heap.get? b=some o->b≠e:=λb o q z=>by rw[z,O] at q;cases q
 have un:Un (frs X.stack) [] H (upd H' e (xo e C)) s.heap h2:=⟨v.keep,v.slot,λb o q n hx=>by rw[Ao (Y b o q)];exact v.free b o q n hx,v.there,λb xs q=>by rw[Ao (Aw (v.tups b xs q) G)];exact v.tups b xs q,
  λb o w q=>by rw[Ao (Aw (v.Ig b o w q) G)];exact v.Ig b o w q,λb ps q=>by
   obtain⟨m,j⟩:=v.Jb b ps q;exact⟨m,by rw[Ao (Aw j G)];exact j⟩⟩
 have hok:HOk X.prog X.w (upd H' e (xo e C)) h2:=λb o q=>by
  by_cases J:b=e
  .subst J;rw[Ab] at q;cases q;have I:=f.tr.at;refine⟨I,?_,λh1 h3 p k=>?_⟩
   .obtain⟨oe,N,j,_⟩:=I;exact⟨oe,j⟩
   .obtain⟨oe,N,j,q2⟩:=p;exact⟨oe,N,k oe j,q2⟩
  .rw[Ao J] at q;exact (x.yZ f.stays b o q).stay (λc w _ j=>j) (λc j=>by rw[Ao (Aw j G)];exact j) λc xs j=>by rw[Ao (Aw j G)];exact j
 exact aa.call' (s':={ s' with heap:=h2 }) x.os un hok x.bare λb z=>absurd z 04
end
def Qg(X:Cx)(j:St->XK):Prop:=∀(jb:YC) (U : St) (H:Hp) (s:Shared) (ev:Value) (s':Shared),H^^^s->CX1 X.prog X.w X.stack H s (j U) ev s'->X.xe ev s'
theorem cZ{P:Program}{w:World}{K:YD}{mg:YB}{base:Heap}{N:YF}{j:Str}{scope:Scope}{f:Addr}{z:Value}{A:Around}{outer:List Env}{s:Shared}{H:Hp}{E:XK} :
  Qg (Lg (CX1 P w) P w K mg base N j scope f z A outer s H E) (λ_=>E):=λjb U H1 G ev s' I h=>by
 obtain⟨e,C,B,H',rfl,x,q⟩:=h;exact x.leave I rfl rfl rfl λh2 y=>⟨e,C,B,H',rq,y,q⟩
def B5(C:Addr)(j:St->XK)(t:TA):TS:=λ_ U H=>t U H λvs H1=>vs.length<=sizeLine/\j U (.ref C) none H1
theorem vg{X:Cx}{q:St->XK}{C:Addr}{x:Str}{np cpos pos:Pos}{e:Expr}{es:YJ}{t:TA}(hc:X.calm=true)(T:XCl X.K C)(hg:Gl X x)(hm:X.mg x=some (.ref C))(hx:Qg X q)(ha:PA X (e::es) t)
  (Y:'f'=false:=by decide) (z:starEach (e::es) X.env=(false,eval e X.env)::starEach es X.env:=by rfl) (aa:(backTo cpos (starEach es X.env)).any (·.1)=false:=by rfl) :
  PS X (.Raise (some (.Call (.Name x np) (e::es) [] cpos)) none pos) (B5 C q t):=by
 intros D I h;obtain⟨bm,ag,nm,ah,bs,O,sn,sub,ab,ae,dd,k0,k1,k2,k3,k5,mN,hC,hN,af,G⟩:=T.obj I.mod.kin;refine wpAny_Raise_call_subT F.excBase_ValueError (bm:=bm) (nm:=nm) (C:=C) (q:=ah) (bs:=bs) (N:=ag) (sn:=sn) (hdct:=O) (sub:=sub) (col:=ae) (ab:=ab) (dd:=dd) (k5:=k5) (k3:=k3) (k2:=k2) (k1:=k1) (k0:=k0) (G.hasType (by trivial)) (I.ok.hd hc) (by rw[z];show (false || (backTo cpos (starEach es X.env)).any (·.1))=false;rw[aa];rfl) af (JZ I hg hm ⟨rfl,?_⟩ Y);have h2:=ha cpos jb s U H _ I h;rw[z] at h2 ⊢;refine Calls.evalArgs_plain (thn h2 λus J zz=>?_);obtain⟨vs,H2,j,r,hl,hE⟩:=zz;refine⟨rq,?_⟩;refine{by rw[<-r.length];exact hl,j.bk _ _ hC,hN.keeps j.bk,G.keeps j.bk,λh' N mx=>?_};exact hx jb U H2 J (.ref N) { J with heap:=h' } j ⟨N,C,_,H2,rq,Exc.made j mx,hE⟩
structure aN(P:Program)(w:World)(K:YD)(mg:YB)(base:Heap)(x:Str)(k:Nat)(ps:YF)(sp:Sp):Prop where
 ex:∃(f:Addr) (fd:FuncData),mg x=some (.ref f)/\keepIn K (.ref f)=true/\Binds K fd ps []/\Gy P w K mg base (CX1 P w) k f fd ps sp
theorem Code.G1{P:Program}{w:World}{K:YD}{mg:YB}{base:Heap}{x:Str}{st:Stmt}{ps N:YF}{k:Nat}{sp:Sp}(C:Code K mg x st ps)(S:Ay N ps (Ai st))(len:∀vs H Q E,sp vs H Q E->vs.length=ps.length)
  (q:∀(X:Cx) (f:Addr) (j:Value) (A:Around) (outer:List Env) (s:Shared) (H:Hp) (vs:YG) (Q:VK) (E:XK),X=Lg (CX1 P w) P w K mg base N x (Ai st) f j A outer s H E->Qg X (λ_=>E)->Cd k X.A->sp vs H Q E ->
   ∃t,PSs X (Dd st) t/\t { nx:=λ_ H'=>Q .non H',rt:=Q } (start N vs) H):aN P w K mg base x (k+1) ps sp:=by
 obtain⟨f,fd,F,m,b⟩:=C.ex;refine⟨f,fd,m,F.kp,b,?_⟩;obtain⟨Y,od,kV,J,pm,an,j,ct,O,rfl,lk,z⟩:=F.ex;exact oO lk z S len λA outer s H vs Q E I G=>q _ f j A outer s H vs Q E rfl cZ I G
def Co(sp:Sp)(j:St->XK)(t:TA):TE:=fun U H Q=>t U H λvs H1=>sp vs H1 Q (j U)
theorem C4{X:Cx}{J:St->XK}{k k':Nat}{ps:YF}{sp:Sp}{x:Str}{p pos:Pos}{e:Expr}{es:YJ}{t:TA}(g:aN X.prog X.w X.K X.mg X.base x k ps sp)(hr:Cd k' X.A)(hx:Qg X J)(ha:PA X (e::es) t)(hk:k<=k':=by decide)
  (hg:Gl X x:=by rfl) (Y:'f'=false:=by decide) (he:starEach (e::es) X.env=(false,eval e X.env)::starEach es X.env:=by rfl) (aa:(backTo pos (starEach es X.env)).any (·.1)=false:=by rfl) :
  PE X (.Call (.Name x p) (e::es) [] pos) (Co sp J t):=by
 intros Q I h;obtain⟨f,fd,m,kp,b,F⟩:=g.ex;refine Qbh (JZ I hg m ?_ Y);refine callWith_K (h₀:=X.base) I.ok.mod.kin kp (thn (ha pos jb s U H _ I h) λG N zz=>?_) he aa;obtain⟨vs,H1,j,r,q⟩:=zz;refine⟨j.kIn,?_⟩;have hl:G.length=ps.length:=by rw[<-r.length];exact F.len _ _ _ _ q
 have O:=b N G j.kIn (by rw[QbM];exact hl);rw[QbM] at O;refine wpAny_call (Qcw (F.run X.A X.stack N H1 ⟨G,[]⟩ G vs Q (J U) (hr.mono hk) j.env0 O r q) λrr s' z=>?_);cases rr with
 | error ev=>exact hx jb U H1 N ev s' j z
 | ok fl=>
  cases fl with
  | ret u=>exact j.after z
  | next=>exact False.elim z
  | brk=>exact False.elim z
  | cont=>exact False.elim z
section
variable{M:Model}{A:Around}{E:YA}{h:Heap}{g:Array GenState}{d:Drawn}{t:Nat}{os:OsState}{K:YD}{e C HC:Addr}
theorem BU{Q:Bool->Shared->Prop}(X:K.In h)(j:XCl K HC)(hs:subIn K (.ref C) (.ref HC)=some true)(x:XAt e C h)(q:Q true ⟨h,g,d,t,os⟩):wpAny M A (excMatches (.ref e) (.ref HC)) Q E ⟨h,g,d,t,os⟩:=by
 obtain⟨oe,O,z,hc,_⟩:=x;obtain⟨Y,cd,sl,G⟩:=j.look;have I:=X _ _ G;have J:=looks_subIn (M:=M) X j.mb;have N:=looks_subIn (M:=M) X hs;have f3:=tc_notTuple;unfold excMatches
 repeat (first | (with_reducible refine Qbx z ?_;rw[hc]) | with_reducible refine Qbx I ?_ | with_reducible refine J.at ?_ | with_reducible refine N.at ?_ | wp_step)
 exact q
end
abbrev Cx.by(X:Cx)(pn:YC)(E:YA):Cx:={ X with pn:=pn,xe:=E }
abbrev Cx.suite(X:Cx)(pn:YC)(ev:Value):Cx:={ X with pn:=pn,xe:=λ_ _=>False,A:=X.A.mark (some ev),calm:=false }
section
variable{X:Cx}{jb Ij pn:YC}{U : St}{H:Hp}{s:Shared}{E:YA}{ev:Value}
theorem Inv.by(I:H^^^s)(E:YA):Inv (X.by (X.pn++jb) E) [] U H s:=
 ⟨⟨I.ok.mod,I.ok.kind,I.ok.glob,I.ok.blt,I.ok.above,I.ok.inj,I.ok.has,I.ok.cab,I.ok.hd,I.ok.frames,I.ok.stk,I.ok.exf,I.ok.bs,I.ok.bsz,I.ok.OD,I.ok.Lf,I.ok.G7,I.ok.frf⟩,I.os,I.bare,I.base,I.loc,I.cell,I.free,I.FJ,
  λp j=>I.pin p (by simpa using j),I.hok,I.len⟩
theorem Inv.Q0(I:Inv (X.by (X.pn++jb) E) Ij U H s):Inv X jb U H s:=
 ⟨⟨I.ok.mod,I.ok.kind,I.ok.glob,I.ok.blt,I.ok.above,I.ok.inj,I.ok.has,I.ok.cab,I.ok.hd,I.ok.frames,I.ok.stk,I.ok.exf,I.ok.bs,I.ok.bsz,I.ok.OD,I.ok.Lf,I.ok.G7,I.ok.frf⟩,I.os,I.bare,I.base,I.loc,I.cell,I.free,I.FJ,
  λp j=>I.pin p (QaJ _ j),I.hok,I.len⟩
theorem Inv.suite(I:Inv (X.by pn E) Ij U H s)(ev:Value):Inv (X.suite pn ev) Ij U H s:=
 ⟨⟨I.ok.mod,I.ok.kind,I.ok.glob,I.ok.blt,I.ok.above,I.ok.inj,I.ok.has,I.ok.cab,(λz=>nomatch z),I.ok.frames,I.ok.stk,I.ok.exf,I.ok.bs,I.ok.bsz,I.ok.OD,I.ok.Lf,I.ok.G7,I.ok.frf⟩,I.os,I.bare,I.base,I.loc,I.cell,I.free,I.FJ,
  I.pin,I.hok,I.len⟩
theorem Inv.T9(j:X.calm=true->X.A.handled=none)(I:Inv (X.suite (X.pn++jb) ev) Ij U H s):Inv X jb U H s:=
 ⟨⟨I.ok.mod,I.ok.kind,I.ok.glob,I.ok.blt,I.ok.above,I.ok.inj,I.ok.has,I.ok.cab,j,I.ok.frames,I.ok.stk,I.ok.exf,I.ok.bs,I.ok.bsz,I.ok.OD,I.ok.Lf,I.ok.G7,I.ok.frf⟩,I.os,I.bare,I.base,I.loc,I.cell,I.free,I.FJ,
  λp q=>I.pin p (QaJ _ q),I.hok,I.len⟩
theorem SP.Q0{D:Ends}{f:Flow}(h:SP (X.by (X.pn++jb) E) Ij D f s):SP X jb D f s:=by
 cases f with
 | next=>obtain⟨j,H',I,q⟩:=h;exact⟨j,H',I.Q0,q⟩
 | brk=>obtain⟨j,H',I,q⟩:=h;exact⟨j,H',I.Q0,q⟩
 | cont=>obtain⟨j,H',I,q⟩:=h;exact⟨j,H',I.Q0,q⟩
 | ret u=>obtain⟨v,j,H',I,r,q⟩:=h;exact⟨v,j,H',I.Q0,r,q⟩
theorem Ux{M:Model}{A:Around}{E1:YA}{i:Nat}{n:Str}{pos:Pos}{Q:YH}(I:H^^^s)(hN:X.N.Nodup)(hi:X.N[i]?=some n)(hl:X.env.scope.names.lookup n=some .local)
  (hq:∀s',Inv X jb (U.set i none) H s'->Q () s'):wpAny M A (do bindName X.env n .none;unbindBehindTheSuite X.env n pos) Q E1 s:=by
 obtain⟨m,hn,hm⟩:=id I.loc;have ab:(X.env.scope.kind == .class || (X.env.scope.kind == .module&&X.env.locals != X.env.globals))=false:=by rw[I.ok.kind];rfl
 refine wpAny_nameGoes_keeps hl hn ab λh' v af j=>?_;have ae : i < U.length:=by rw[I.len];exact (Qah.mp hi).1
 obtain⟨oL,_,_,ag,_⟩:=id hn;have below:∀b o,X.s₀.heap.get? b=some o->b≠X.env.locals:=λb o q=>Qcr (Qba (Qcp q) I.ok.above);refine hq _ ⟨I.ok,I.os,I.bare,{λb o q G Y J=>?_,λb o q G Y J=>?_,I.base.free,λb o q J=>?_,I.base.tups,I.base.Ig,I.base.Jb},{_,af,λaa y w e1 e2 e3=>?_},λy c q=>?_,I.free,I.FJ,λp hp=>?_,λb ob q=>?_,?_⟩
 .exact (j.2 b (below b o q)).trans (I.base.keep b o q G Y J)
 .obtain⟨sl,O⟩:=I.base.slot b o q G Y J;exact⟨sl,(j.2 b (below b o q)).trans O⟩
 .obtain⟨o',O⟩:=I.base.there b o q J;exact⟨o',(j.2 b (below b o q)).trans O⟩
 .by_cases hj:aa=i
  .subst hj;rw[List.getElem?_set_self ae] at e2;cases e2
  .rw[List.getElem?_set_ne (Ne.symm hj)] at e2;obtain⟨u,r,q⟩:=hm aa y w e1 e2 e3;refine⟨u,r,?_⟩;rcases q with⟨k,q⟩|⟨k,c,q,z⟩
   .have ny:y≠n:=λz=>hj (VP hN e1 (z ▸ hi));exact .inl ⟨k,by simp[ny,q]⟩
   .exact .inr ⟨k,c,q,z.sameBut j (I.cne y c q)⟩
 .obtain⟨u,z⟩:=I.cell y c q;exact⟨u,z.sameBut j (I.cne y c q)⟩
 .obtain⟨q,G,ne,nf,dd⟩:=I.pin p hp;exact{(j.2 p.1 ne).trans q,G,ne,nf,dd}
 .refine (I.hok b ob q).stay (λc u hc O=>(j.2 c ?_).trans O) (λ_ z=>z) λ_ _ z=>z;rintro rfl;rcases hc with rfl | hc
  .rw[I.free] at q;cases q
  .rw[I.free] at hc;cases hc
 .rw[List.length_set];exact I.len
end
def Ends.drop(D:Ends)(i:Nat):Ends where
 nx:=fun U H=>D.nx (U.set i none) H
 rt:=D.rt
 bk:=fun U H=>D.bk (U.set i none) H
 ct:=fun U H=>D.ct (U.set i none) H
def oR(K:YD)(HC:Addr)(i:Nat)(th:Addr->TS)(D:Ends):St->XK:=fun U cls _ H=>∃C,cls=.ref C/\XCl K C/\subIn K (.ref C) (.ref HC)=some true/\∀e,H e=none->th e (D.drop i) (U.set i (some (.ref e))) (upd H e (xo e C))
structure Lx(k:Nat)(A:Around):Prop where
 dp:A.depth+3*k+5 < recursionLimit
 un:A.units+16*k+200 < cLine
theorem Cd.inH{k:Nat}{A:Around}(r:Cd k A)(h:Option Value):Lx k (A.mark h):=⟨r.dp,r.un⟩
theorem Lx.deeper{k:Nat}{A:Around}(r:Lx (k+1) A)(env:Env):Lx k (A.deeper env):=
 {by have:=r.dp;show A.depth+1+3*k+5 < _;lia,by have:=r.un;show A.units+3+16*k+200 < _;lia}
theorem Lx.mono{j k:Nat}{A:Around}(r:Lx k A)(h:j<=k):Lx j A:={by have:=r.dp;lia,by have:=r.un;lia}
structure aO(P:Program)(w:World)(K:YD)(mg:YB)(base:Heap)(x:Str)(k:Nat)(ps:YF)(sp:Sp):Prop where
 ex:∃(f:Addr) (fd:FuncData),mg x=some (.ref f)/\keepIn K (.ref f)=true/\Binds K fd ps []/\(∀vs H Q E,sp vs H Q E->vs.length=ps.length) /\
  ∀(A:Around) (outer:List Env) (s:Shared) (H:Hp) (args:Args) (us:YE) (vs:YG) (Q:VK),Lx k A->M6 P w K mg base A outer s H->BindsTo s fd args (ps.zip us)->Vals vs us->sp vs H Q E0 ->
   codeAny (model P w) A (.call (.ref f) args) (CR CX0 outer P w H s Q E0) s
abbrev cxH(P:Program)(w:World)(K:YD)(mg:YB)(base:Heap)(N:YF)(qual:Str)(scope:Scope)(f:Addr)(cd:Value)(A:Around)(outer:List Env)(s:Shared)(H:Hp):Cx:=
 { Lg CX0 P w K mg base N qual scope f cd A outer s H E0 with calm:=false,xe:=λ_ _=>False }
theorem Code.G2{P:Program}{w:World}{K:YD}{mg:YB}{base:Heap}{x:Str}{st:Stmt}{ps N:YF}{k:Nat}{sp:Sp}(C:Code K mg x st ps)(S:Ay N ps (Ai st))(len:∀vs H Q E,sp vs H Q E->vs.length=ps.length)
  (ae:∀(f:Addr) (G:Value) (A:Around) (outer:List Env) (s:Shared) (H:Hp) (vs:YG) (Q:VK),Lx k (A.deeper (envOfC x (Ai st) ∅ f G))->sp vs H Q E0 ->
   ∃t,PSs (cxH P w K mg base N x (Ai st) f G A outer s H) (Dd st) t/\t { nx:=λ_ H'=>Q .non H',rt:=Q } (start N vs) H):aO P w K mg base x (k+1) ps sp:=by
 obtain⟨f,fd,F,m,b⟩:=C.ex;refine⟨f,fd,m,F.kp,b,len,λA outer s H args us vs Q hr e0 hb r aa=>?_⟩;obtain⟨oc,od,kV,am,pm,an,G,ct,ao,rfl,lk,ah⟩:=F.ex;have ag:=len _ _ _ _ aa;have KX:K.In s.heap:=e0.mod.kin.keeps λb o q=>(e0.bs b o q).1;have ai:s.heap.NoLimit:=e0.mod.nolimit.keeps λb o q=>(e0.bs b o q).1;have af:∀y∈ps.zip us,(Ai st).names.lookup y.1=some .local\/((Ai st).names.lookup y.1=some .cell/\((cellsFrom (∅+1) (Ai st).names []).lookup y.1).isSome=true):=λ⟨n,v⟩ hy=>by
  rcases S.par n (List.of_mem_zip hy).1 with q | q
  .exact .inl q
  .exact .inr ⟨q,PySem.W.cellsFrom_some _ _ _ (.inl q)⟩
 refine codeAny_call_function (by have:=hr.dp;lia) (KX _ _ lk) rfl S.co S.gen rfl (PySem.W.codeRec_of KX ah) (hb _ _ _ _ ?_);refine wpAny_newFunctionEnv_cells S.kind af λenv he O ic=>?_;subst he;refine{ai.keeps ic.toInCall.keep,codeAny_func ?_};obtain⟨t,ht,hq⟩:=ae f G A outer s H vs Q (hr.deeper _) aa;have e1:M6 P w K mg base { A with handled:=none } outer s H:=⟨e0.frames,e0.mod,e0.bs,e0.bsz,e0.G7,e0.frf,e0.hok,e0.bare⟩;have j:Inv (Lg CX0 P w K mg base N x (Ai st) f G { A with handled:=none } outer s H E0) [] (start N vs) H O:=Zy S rfl e1 ag r ic;have al:Inv (cxH P w K mg base N x (Ai st) f G A outer s H) [] (start N vs) H O:=
  ⟨⟨j.ok.mod,j.ok.kind,j.ok.glob,j.ok.blt,j.ok.above,j.ok.inj,j.ok.has,j.ok.cab,(λz=>nomatch z),Around.frames_deeper e0.frames,j.ok.stk,j.ok.exf,j.ok.bs,j.ok.bsz,j.ok.OD,j.ok.Lf,j.ok.G7,j.ok.frf⟩,j.os,j.bare,j.base,j.loc,j.cell,j.free,j.FJ,
   j.pin,j.hok,j.len⟩
 refine QcI (ht [] O (start N vs) H _ al hq) (λfl s' hs=>?_) λe s' z=>z.elim;have ab:∀{I:St} {H':Hp} {v:V} {u:Value},Inv (cxH P w K mg base N x (Ai st) f G A outer s H) [] I H' s'->RelV v u->Q v H'->CE outer P w H s Q u s':=λ{I H' v u} J Y q=>⟨v,H',J.os,J.bare,J.base,J.hok,Y,q⟩;cases fl with
 | ret u=>
  obtain⟨v,I,H',J,Y,q⟩:=hs;exact ab J Y q
 | next=>
  obtain⟨I,H',J,q⟩:=hs;exact ab (v:=V.non) (u:=Value.none) J rfl q
 | brk=>obtain⟨_,_,_,q⟩:=hs;exact False.elim q
 | cont=>obtain⟨_,_,_,q⟩:=hs;exact False.elim q
theorem C5{X:Cx}{k k':Nat}{ps:YF}{sp:Sp}{x:Str}{p pos:Pos}{e:Expr}{es:YJ}{t:TA}(g:aO X.prog X.w X.K X.mg X.base x k ps sp)(hr:Lx k' X.A)(ha:PA X (e::es) t)(hk:k<=k':=by decide)
  (hg:Gl X x:=by rfl) (Y:'f'=false:=by decide) (he:starEach (e::es) X.env=(false,eval e X.env)::starEach es X.env:=by rfl) (aa:(backTo pos (starEach es X.env)).any (·.1)=false:=by rfl) :
  PE X (.Call (.Name x p) (e::es) [] pos) (lQ sp [] E0 t):=by
 intros Q I h;obtain⟨f,fd,m,kp,b,ab,run⟩:=g.ex;refine Qbh (JZ I hg m ?_ Y);refine callWith_K (h₀:=X.base) I.ok.mod.kin kp (thn (ha pos jb s U H _ I h) λz J zz=>?_) he aa;obtain⟨N,H1,G,r,q⟩:=zz;refine⟨G.kIn,?_⟩;have q:sp (N++[]) H1 Q E0:=q;rw[QbM] at q;have hl:z.length=ps.length:=by rw[<-r.length];exact ab _ _ _ _ q
 have O:=b J z G.kIn (by rw[QbM];exact hl);rw[QbM] at O;refine wpAny_call (Qcw (run X.A X.stack J H1 ⟨z,[]⟩ z N Q (hr.mono hk) G.env0 O r q) λrr s' j=>?_);cases rr with
 | error ev=>exact False.elim j
 | ok fl=>
  cases fl with
  | ret u=>exact G.after j
  | next=>exact False.elim j
  | brk=>exact False.elim j
  | cont=>exact False.elim j
@[irreducible] def mG(K:YD):YG->Hp->VK->Prop:=λxs H Q=>∃a D C b,xs=[.ref a,.ref D]/\H a=some (xo a C)/\XCl K C/\kitOne K (.ref C) (.ref D)=some b/\Q (.bl b) H
theorem Et{X:Cx}:DN X (.builtin "isinstance") (mG X.K):=by
 intros xs J Q I r h;unfold mG at h;obtain⟨a,D,C,b,rfl,j,T,k,q⟩:=h;obtain⟨u,N,rfl,z,G⟩:=vals2 r;cases z;cases G;exact Xg I T j k λtk=>{.bl b,H,I.tok tk,rq,q}
@[irreducible] def aK(K:YD):YG->Hp->VK->Prop:=λxs H Q=>∃a T C b,xs=[.ref a,.ty T]/\H a=some (xo a C)/\XCl K C/\kitOne K (.ref C) (.type T)=some b/\Q (.bl b) H
theorem tH{X:Cx}:DN X (.builtin "isinstance") (aK X.K):=by
 intros xs N Q I r h;unfold aK at h;obtain⟨a,T,C,b,rfl,j,z,k,q⟩:=h;obtain⟨u,O,rfl,G,J⟩:=vals2 r;cases G;cases J;exact Xg I z j k λtk=>{.bl b,H,I.tok tk,rq,q}
end L2
namespace L2
open PySem PySem.Spec PyProof.Rows PySem.SeqAt
theorem Bk{c:Const}{k:Nat}{p:Pos}{es:YJ}{env:Env}:starEach (.Constant c k p::es) env=(false,eval (.Constant c k p) env)::starEach es env:=by rfl
def isT:Value->Bool
 | .bool b=>b
 | _=>false
theorem gJ:∀{bs:List Bool} {us:YE},Vals (bs.map V.bl) us->us=bs.map Value.bool
 | [],_,.nil=>rfl
 | b::bs,_,.cons r t=>by
  cases (show _=Value.bool b from r)
  rw[gJ t];rfl
section
variable{X:Cx}
@[irreducible] def Uh:V->YG->Hp->VK->Prop:=λx xs H Q=>∃(l:Addr) (bs:List Bool),x=.ref l/\xs=[.bl true]/\H l=some (.lst (bs.map V.bl))/\Q (.int ((bs.countP id:Nat):Int)) H
theorem eqT{A:Around}{s:Shared}{bs:List Bool}:∀y,y∈(bs.map Value.bool).toArray->EqAt A s y (.bool true) (isT y):=λy q=>by
 have j:y∈bs.map Value.bool:=by simpa using q
 obtain⟨b,_,rfl⟩:=Qcq.mp j;have:=EqAt.bool_bool (A:=A) (s:=s) b true;rw[show (b == true)=isT (.bool b) by cases b <;> rfl] at this;exact this
theorem sI{l:Addr}{bs:List Bool}{H:Hp}{Q:VK}(h:H l=some (.lst (bs.map V.bl)))(q:Q (.int ((bs.countP id:Nat):Int)) H):Uh (.ref l) [.bl true] H Q:=by
 unfold Uh;exact⟨l,bs,rq,rq,h,q⟩
theorem qJ:MtM X "list.count" Uh:=by
 intros x Y v us Q I z G h;unfold Uh at h;obtain⟨l,j,rfl,rfl,J,q⟩:=h;cases z;obtain⟨u,rfl,N⟩:=G.one;cases (show _=Value.bool true from N)
 obtain⟨aa,O,n,r,hl,e⟩:=I.Tc J;have hi:=gJ r;subst hi;refine call_meets F.slot_list_count ⟨_,e,rq⟩ F.entry_list_count (F.args_list_count_2 _ _) (list_countAt l (j.map Value.bool).toArray n none #[] (.bool true) isT) ⟨e,eqT,?_⟩;refine{.int ((j.countP id:Nat):Int),H,I.tok _,⟨s.toks,?_⟩,q};have hc:(j.map Value.bool).countP isT=j.countP id:=by
  rw[List.countP_map];congr 1
 simp only[hc]
@[irreducible] def Ug:V->YG->Hp->VK->Prop:=λx xs H Q=>∃(l:Addr) (bs:List Bool) (j:Nat),x=.ref l/\xs=[.bl true]/\H l=some (.lst (bs.map V.bl))/\j<=1000/\bs[j]?=some true/\(∀m,m < j->bs[m]?=some false)/\Q (.int (j:Int)) H
theorem qW{l:Addr}{bs:List Bool}{j:Nat}{H:Hp}{Q:VK}(h:H l=some (.lst (bs.map V.bl)))(h1:j<=1000)(h2:bs[j]?=some true)(z:∀m,m < j->bs[m]?=some false)(q:Q (.int (j:Int)) H):Ug (.ref l) [.bl true] H Q:=by
 unfold Ug;exact⟨l,bs,j,rq,rq,h,h1,h2,z,q⟩
theorem qI:MtM X "list.index" Ug:=by
 intros x vs v us Q I Y rv h;unfold Ug at h;obtain⟨l,q,j,rfl,rfl,hH,ab,z,G,aa⟩:=h;cases Y;obtain⟨u,rfl,ru⟩:=rv.one;cases (show _=Value.bool true from ru)
 obtain⟨af,ae,n,r,hl,e⟩:=I.Tc hH;have hi:=gJ r;subst hi;have J:j < q.length:=(Qah.mp z).1;have hj2:j < (q.map Value.bool).toArray.size:=by simpa using J
 have N:isT ((q.map Value.bool).toArray[j]'hj2)=true:=by
  have h1:q[j]=true:=(Qah.mp z).2;simp[h1,isT]
 have hn:∀m (hm:m < (q.map Value.bool).toArray.size),m < j->isT (q.map Value.bool).toArray[m]=false:=λm hm O=>by
  have h1:=(Qah.mp (G m O)).2;simp[h1,isT]
 refine call_meets F.slot_list_index ⟨_,e,rq⟩ F.entry_list_index (F.args_list_index_2 _ _) (list_indexAt l (q.map Value.bool).toArray n none #[] (.bool true) isT j hj2 (Int.lt_of_le_of_lt (b:=1000) 00 (by trivial)) N hn) ⟨e,eqT,?_⟩;exact{.int (j:Int),H,I.tok _,⟨_,rq⟩,aa}
end
theorem G5{K:YD}{a D C:Addr}{b:Bool}{H:Hp}{Q:VK}(h:H a=some (xo a C))(T:XCl K C)(k:kitOne K (.ref C) (.ref D)=some b)(q:Q (.bl b) H):mG K [.ref a,.ref D] H Q:=by
 unfold mG;exact⟨a,D,C,b,rq,h,T,k,q⟩
theorem A1{K:YD}{a C:Addr}{T:String}{b:Bool}{H:Hp}{Q:VK}(h:H a=some (xo a C))(j:XCl K C)(k:kitOne K (.ref C) (.type T)=some b)(q:Q (.bl b) H):aK K [.ref a,.ty T] H Q:=by
 unfold aK;exact⟨a,T,C,b,rq,h,j,k,q⟩
section
variable{prog:Program}{w:World}{A:Around}{E:YA}{s:Shared}
end
end L2
namespace L2
open PySem PySem.Spec PyProof.Rows
section
variable{X:Cx}{jb:YC}{U : St}{H:Hp}{s:Shared}{a:Addr}{kvs:YM}{o:Obj}
end
theorem RL:entryFor table "dict_itemiterator.__iter__"=some Builtin.«dict_keyiterator.__iter__»:=entryFor_alias (id':="dict_keyiterator.__iter__") (by kernel_rfl) rfl (by trivial) (by kernel_rfl)
theorem aq{prog:Program}{w:World}{A:Around}{E:YA}{s:Shared}{it d:Addr}{i n ep:Nat}{z G:Value}{Q:YA}(q:IsItemIter s.heap it d i n ep z G)(h:Q (.ref it) s) :
  wpAny 01 A (pyIter (.ref it)) Q E s:=by
 have j:s.TypeIs (.ref it) "dict_itemiterator":=⟨_,q,rq⟩;refine wpAny_pyIter_slot j F.slot_dict_itemiterator_iter (QbC F.slot_dict_itemiterator_iter j RL ?_ (F.args_dict_itemiterator_iter_1 _));exact QcH {_,rq,"dict_itemiterator",_,j,Qac.lookup,h}
section
variable{a l:Addr}{o:Obj}{kvs:YM}{g:TG}{tb:TS}{D:Ends}{U : St}{H:Hp}{tt:TT}{te tk tv:TE}{Q:VK}
theorem rZ{K:YD}{xs:YG}{z:St}{I:Hp}(Pv:YN)(Y:Pv 0 z I)(hl:∀i U H',i<=xs.length->Pv i U H'->SqT K H' a xs)
  (hs:∀i x U H',xs[i]?=some x->Pv i U H'->g x U H' fun j J=>tt j J λb N=>if b=true then tk j N λy H5=>tv j H5 λaa O=>∃(kvs:YM) (k:Key),O l=some (.dK kvs)/\y=kV k/\kvs.length < sizeLine/\Pv (i+1) j (upd O l (.dK (putK kvs k aa))) else Pv (i+1) j N)
  (hd:∀ U H',Pv xs.length U H'->Q (.ref l) H'):U5 (Itt K a) g tt tk tv Q z I l:=by
 unfold U5;refine{λi m U H'=>m=xs.length - i/\i<=xs.length/\Pv i U H',⟨xs.length,by simp,QcB _,Y⟩,?_};rintro i m U H' ⟨rfl,hi,p⟩;have q:=hl i U H' hi p;by_cases G:i < xs.length
 .refine .inr {⟨xs,xs[i],q,by simp[G]⟩,Pv (i+1),fun j J p'=>{xs.length - (i+1),by lia,rq,G,p'},λx H2 y=>?_};obtain⟨e,y⟩:=y;subst e;exact hs i x U _ (y xs q) p
 .have e:i=xs.length:=by lia
  subst e;exact .inl {⟨xs,q,QcA _⟩,hd U H' p}
end
open PySem.W (KasT kas_asc kas_desc kas_rev kas_tail3 kas_descPart kas_count kas_place kas_bin kas_sort)
def Hj{q : Type}(n:Nat)(P:q->Prop):KasT q->Prop
 | .ret a=>P a
 | .ask i j k=>i < n/\j < n/\∀b,Hj n P (k b)
theorem Kc{z G : Type}{n:Nat}{P:z->Prop}{Q:G->Prop}{f:z->KasT G}:∀t:KasT z,Hj n P t->(∀a,P a->Hj n Q (f a))->Hj n Q (t.bind f)
 | .ret a,h,q=>q a h
 | .ask i j k,h,q=>⟨h.1,h.2.1,λb=>Kc (k b) (h.2.2 b) q⟩
def Pm(n:Nat)(p:Array Nat):Prop:=p.toList.Perm (List.range n)
theorem Pm.rev{n:Nat}{p:Array Nat}(h:Pm n p)(i j:Nat):Pm n (kas_rev p i j):=(Array.perm_iff_toList_perm.mp (mirror_perm p i j ((j - i) / 2))).trans h
theorem Pm.bub{n:Nat}{p:Array Nat}(h:Pm n p)(k d:Nat):Pm n (bubble p k d):=(Array.perm_iff_toList_perm.mp (bubble_perm p k d)).trans h
theorem Pm.lt{n:Nat}{p:Array Nat}(h:Pm n p)(n0:0 < n)(i:Nat):p.getD i 0 < n:=by
 by_cases hi:i < p.size
 .have e:p.getD i 0=p[i]:=by simp[hi]
  rw[e];have j:p[i]∈p.toList:=by simp
  exact Qcd.mp (h.mem_iff.mp j)
 .have e:p.getD i 0=0:=by simp[hi]
  rw[e];exact n0
section
variable{n:Nat}(n0:0 < n)
include n0
theorem Za{p:Array Nat}(h:Pm n p):∀f k,Hj n (λ_=>True) (kas_asc p f k)
 | 0,k=>trivial
 | f+1,k=>⟨h.lt n0 _,h.lt n0 _,λb=>by
  cases b with
  | true=>exact trivial
  | false=>exact Za h f (k+1)⟩
theorem Rx:∀f (p:Array Nat),Pm n p->∀k q,Hj n (λr:Array Nat×Nat×Nat=>Pm n r.1) (kas_desc f p k q)
 | 0,p,h,k,q=>h
 | f+1,p,h,k,q=>⟨h.lt n0 _,h.lt n0 _,λb=>by
  cases b with
  | true=>
   show Hj n _ (if q > 0 then kas_desc f (kas_rev p (k - (q+1)) k) (k+1) 0 else kas_desc f p (k+1) 0)
   split
   .exact Rx f _ (h.rev _ _) _ _
   .exact Rx f _ h _ _
  | false=>exact⟨h.lt n0 _,h.lt n0 _,λd=>by
    cases d with
    | true=>exact h
    | false=>exact Rx f _ h _ _⟩⟩
theorem gP{p:Array Nat}(h:Pm n p)(a b:Nat):Hj n (λr:Nat×Array Nat=>Pm n r.2) (kas_tail3 a b p):=
 Kc _ (Za n0 (h.rev 0 a) _ _) λm _=>h.rev 0 a
theorem TQ{p:Array Nat}(h:Pm n p)(a b:Nat):Hj n (λr:Nat×Array Nat=>Pm n r.2) (kas_descPart a b p):=
 Kc _ (Rx n0 _ p h _ _) λr j=>by
  show Hj n _ (if r.2.2 > 0 then _ else _)
  split
  .exact gP n0 (Pm.rev j _ _) _ _
  .exact gP n0 j _ _
theorem ZS{p:Array Nat}(h:Pm n p)(a:Nat):Hj n (λr:Nat×Array Nat=>Pm n r.2) (kas_count a p):=
 Kc _ (Za n0 h _ _) λm _=>by
  show Hj n _ (if (m == a)=true then _ else if m > 1 then _ else _)
  split
  .exact h
  .split
   .refine{h.lt n0 _,h.lt n0 _,λb=>?_};cases b with
    | true=>exact h
    | false=>exact TQ n0 (h.rev _ _) _ _
   .exact TQ n0 h _ _
theorem TJ{p:Array Nat}(h:Pm n p)(k:Nat):∀f l r,Hj n (λ_=>True) (kas_place p k f l r)
 | 0,_,_=>trivial
 | f+1,l,r=>by
  show Hj n _ (if l ≥ r then _ else _)
  split
  .exact trivial
  .refine{h.lt n0 _,h.lt n0 _,λb=>?_};cases b with
   | true=>exact TJ h k f _ _
   | false=>exact TJ h k f _ _
theorem lB:∀f (p:Array Nat),Pm n p->∀k,Hj n (Pm n) (kas_bin f p k)
 | 0,p,h,_=>h
 | f+1,p,h,k=>Kc _ (TJ n0 h k _ _ _) λl _=>lB f _ (h.bub _ _) _
theorem gQ:Hj n (Pm n) (kas_sort n):=
 Kc _ (ZS n0 (p:=List.toArray (List.range n)) (show Pm n _ by unfold Pm;exact List.Perm.refl _) n) λr j=>by
  show Hj n _ (if r.1 < n then _ else _)
  split
  .exact lB n0 _ _ j _
  .exact j
end
section
variable{prog:Program}{w:World}{A:Around}{E:YA}{s:Shared}
theorem bQ{l:Addr}{vs:YE}{Q:YA}(hl:s.heap.IsList l vs.toArray)(h1:vs.length < 2)
  (h:∀D h' c,∅<=D->h'.get? D=some (seqObj "list" vs.toArray c)->(∀b o,s.heap.get? b=some o->h'.get? b=some o)->Q (.ref D) { s with heap:=h' }):wpAny 01 A (call (.builtin "sorted") [.ref l]) Q E s:=by
 have h2:vs.toArray.size < 2:=by rw[Qbl];exact h1
 have G:vs.length<=sizeLine:=Qcu (Al 00);refine Calls.call_function_entry (Q:=Q) kind_sorted plain_sorted entry_sorted (args_sorted1 (.ref l)) ?_;unfold Builtin.«sorted»;refine QcG (m:=checkCount "sorted" 1 1 [Value.ref l].length) (QcH ?_);refine QcG (collect_list (vs:=vs) hl ?_ G);have k1:∀b o,s.heap.get? b=some o->((s.heap.push (seqObj "list" #[] 0)).update ∅ (Obj.mapSeq (·++vs.toArray))).get? b=some o:=λb o q=>by
  rw[Qaz _ _ (Qcv (Qcp q))];exact Qax _ q
 have I:((s.heap.push (seqObj "list" #[] 0)).update ∅ (Obj.mapSeq (·++vs.toArray))).objs.size=∅+1:=by rw[Heap.size_update,Qcb]
 generalize ((s.heap.push (seqObj "list" #[] 0)).update ∅ (Obj.mapSeq (·++vs.toArray)))=j at k1 I;refine QcG (wpAny_newList ?_ G);have z:(j.push (seqObj "list" vs.toArray 0)).get? j.objs.size=some (seqObj "list" vs.toArray 0):=QaM _ rfl;have k2:∀b o,s.heap.get? b=some o->b≠j.objs.size/\(j.push (seqObj "list" vs.toArray 0)).get? b=some o:=λb o q=>{by rw[I];exact Qcr (Nat.lt_succ_of_lt (Qcp q)),Qax _ (k1 b o q)};refine QcG (Qck (QbC slot_list_sort ⟨_,z,rq⟩ entry_list_sort ?_ (args_list_sort _)));rw[list_sort_plain];have zD:∅<=j.objs.size:=by rw[I];exact QcF _
 generalize j.objs.size=D at z k2 zD;generalize ab:j.push (seqObj "list" vs.toArray 0)=J at z k2;refine QcG (listItems_at (a:=D) z rfl ?_);refine QcG (listUpdate_at (a:=D) z rfl ?_ (by rw[Qbl];exact G) (QcB _));obtain⟨e1,N⟩ : ∃e1,(J.update D (Obj.mapSeq λ_=>(#[]:Array Value))).get? D=some (seqObj "list" #[] e1):={_,get?_update_seq z λ_=>#[]};have k3:∀b o,s.heap.get? b=some o->b≠D/\(J.update D (Obj.mapSeq λ_=>(#[]:Array Value))).get? b=some o:=λb o q=>{(k2 b o q).1,by rw[Qaz _ _ (Ne.symm (k2 b o q).1)];exact (k2 b o q).2};have aa:(arrOf (SortSt.mk' general' (vs.toArray.zip vs.toArray) #[] 7 none)).map (·.2)=vs.toArray:=by
  show (vs.toArray.zip vs.toArray).map (·.2)=vs.toArray;apply Array.toList_inj.mp;simp[Array.toList_zip,List.map_snd_zip]
 dsimp only;generalize J.update D (Obj.mapSeq λ_=>(#[]:Array Value))=O at N k3 ⊢;refine QcG (seqEpoch_at (a:=D) N rfl ?_);refine QcG (wpAny_newTuple ?_ (by simpa using G));refine QcG (wpAny_newList (items:=[]) ?_ (QcB _));refine Qck ?_;have Y:∀x y:Obj,((O.push x).push y).get? D=some (seqObj "list" #[] e1):=λx y=>Qax _ (Qax _ N);have k5:∀x y:Obj,∀b o,s.heap.get? b=some o->b≠D/\((O.push x).push y).get? b=some o:=λx y b o q=>{(k3 b o q).1,Qax _ (Qax _ (k3 b o q).2)};dsimp only;rw[if_pos h2,if_pos h2];refine QcG (QcH ?_);rw[StateT.run_pure];refine QcG (QcH ?_);dsimp only;refine QcG (seqEpoch_at (a:=D) (Y _ _) rfl ?_);rw[aa];refine QcG (listUpdate_at (a:=D) (Y _ _) rfl ?_ (QcB _) (by first | (rw[Qbl];exact G) | (rw[Qbl];lia)))
 simp only[bne_self_eq_false,Bool.false_eq_true,if_false];obtain⟨c,oF⟩ : ∃c,(((O.push { cls:=.type "tuple",data:=.seq vs.toArray }).push { cls:=.type "list",data:=.seq #[] }).update D (Obj.mapSeq λ_=>vs.toArray)).get? D=some (seqObj "list" vs.toArray c):={_,get?_update_seq (Y _ _) λ_=>vs.toArray};refine QcH {_,rq,QcH {_,rq,h D _ c zD oF λb o q=>?_}};rw[Qaz _ _ (Ne.symm (k3 b o q).1)];exact (k5 _ _ b o q).2
end
theorem AQ{h:Heap}{a:Addr}{m j:YB}(x:h.Ns a m)(y:h.Ns a j):m=j:=by
 obtain⟨o,es,O,h1,h2,_,G⟩:=x;obtain⟨o',J,N,q,z,_,I⟩:=y;rw[h1] at q;cases q;rw[h2] at z;cases z
 funext k
 rw[<-G,<-I]
theorem Zr{z G : Type}(d:z)(e:G):∀{vs:List z} {q:List G} {F:z->G->Prop} {is:List Nat},Paired F vs q->(∀i∈is,i < vs.length)->Paired F (is.map λi=>vs.getD i d) (is.map λi=>q.getD i e)
 | vs,q,F,[],_,_=>.nil
 | vs,q,F,i::is,r,h=>by
  refine .cons ?_ (Zr d e r λj I=>h j (QaI _ I));have hi:=h i (QaW ..);have J:∀{l:List z} {m:List G} {i:Nat},Paired F l m->i < l.length->F (l.getD i d) (m.getD i e):=by
   intro l m i r
   induction r generalizing i with
   | nil=>intro h;exact absurd h (QbW _)
   | cons a t N=>
    intro h;cases i with
    | zero=>exact a
    | succ i=>exact N (Nat.lt_of_succ_lt_succ h)
  exact J r hi
theorem range_getD{j : Type}(d:j)(vs:List j):(List.range vs.length).map (λi=>vs.getD i d)=vs:=by
 apply List.ext_getElem
 .simp
 .intro i h1 h2;simp[h2]
def o7(K:YD)(H:Hp)(vs:YG):Prop:=∀v∈vs,∃t j,v=.ref t/\SqT K H t ((j:List Int).map V.int)/\0 < j.length
theorem jW{X:Cx}{jb:YC}{U : St}{H:Hp}{s:Shared}{h':Heap}(I:H^^^s)(k:∀b o,H b≠none\/(∃u,X.base.get? b=some u)->s.heap.get? b=some o->h'.get? b=some o):∀{vs:YG} {j:YE},Vals vs j->o7 X.K H vs ->
  ∃fs,PySem.W.KatTups h' j fs/\fs.length=j.length/\∀f∈fs,∃i t,f=Value.int i t
 | _,_,.nil,_=>{[],trivial,rfl,λf h=>nomatch h}
 | _,_,.cons r t,h=>by
  obtain⟨fs,O,Y,f3⟩:=jW I k t λv hv=>h v (QaI _ hv);obtain⟨G,ns,rfl,J,hn⟩:=h _ (QaW ..);cases r;obtain⟨j,rv,⟨o,ho,hc,n,hd⟩,_⟩:=I.tuple J;have N:h'.get? G=some o:=by
   refine k G o ?_ ho;rcases J with (e |⟨_,e⟩) |⟨_,_,_,e,_⟩
   .exact .inl (by rw[e];exact λz=>nomatch z)
   .exact .inl (by rw[e];exact λz=>nomatch z)
   .exact .inr {_,I.mod.kin _ _ e}
  cases ns with
  | nil=>exact absurd hn (Qcj _)
  | cons n0 nr=>
   cases rv with
   | cons r0 rr=>
    obtain⟨tk,rfl⟩:=r0;exact⟨Value.int n0 tk::fs,PySem.W.KatTups.cons N hc hd 04 O,by simp[Y],λf q=>by
     rcases Qcg.mp q with rfl | q
     .exact⟨_,_,rq⟩
     .exact f3 f q⟩
end L2
namespace L2
open PySem PySem.Spec PyProof.Rows
theorem d8:typeLookup (.type "list") "keys"=pure none:=by rw[typeLookup_type,builtinLookup_eq_fast];kernel_rfl
theorem d9:typeLookup (.type "list") "__getattr__"=pure none:=by rw[typeLookup_type,builtinLookup_eq_fast];kernel_rfl
theorem RW:isSubtype (.type "AttributeError") (.type "AttributeError")=pure true:=by rw[isSubtype_type];kernel_rfl
section
variable{M:Model}{A:Around}{E:YA}{s:Shared}
theorem vW{e:Addr}{o:Obj}{x nm T:Value}{Q:YH}(j:s.heap.get? e=some o)(hc:o.cls=.type "AttributeError")(G:o.data=.fields #[T,.none,.none,.none,.bool false,.none,unsetMember,unsetMember])
  (h:∀h',(∀b u,b≠e->s.heap.get? b=some u->h'.get? b=some u)->(∃o',h'.get? e=some o'/\o'.cls=.type "AttributeError")->Q () { s with heap:=h' }):wpAny M A (noteAttr (.ref e) x nm) Q E s:=by
 obtain⟨J,N,O,os⟩:=o;cases hc;cases G;have z:s.TypeIs (.ref e) "AttributeError":=⟨_,j,rq⟩;unfold noteAttr;refine QcG ?_;unfold lacksNameAndObj;refine QcG (QbH z RW ?_);simp only[Bool.not_true,Bool.false_eq_true,if_false];refine QcG (wpAny_load j ?_);refine QcH ?_;rw[if_pos rfl];refine QcG (wpAny_rule ?_);refine QcG (Qcy z ?_);show wpAny _ _ (layMembers e 6 #[nm,x]) _ _ _;unfold layMembers;refine QcG (wpAny_load j ?_);refine wpAny_update j ?_;refine h _ (λb u I q=>?_) {_,QaD _ j rfl,rq};rw[Qaz _ _ (Ne.symm I)];exact q
end
section
variable{prog:Program}{w:World}{A:Around}{E:YA}{s:Shared}
theorem cN{z : Type}{x:Value}{nm j:Str}{Q:z->Shared->Prop}(I:j.length<=sizeLine)(J:A.handled=none)(N:∀h' G e o,(∀b u,s.heap.get? b=some u->h'.get? b=some u)->h'.get? e=some o->o.cls=.type "AttributeError"->E (.ref e) { s with heap:=h',toks:=G }) :
  wpAny 01 A (raiseAttrError x nm j:Sem z) Q E s:=by
 unfold raiseAttrError;refine QcG (wpAny_mkStr (QcG ?_) I);unfold newExc newTuple;refine QcG (Qbp ?_);refine QcG (m:=firstArgMember _ _) (wpAny_of_eq (a:=Value.none) (by kernel_rfl) ?_);refine Qbp ?_;refine QcG (wpAny_mkText (QcG ?_));refine vW (QaM _ rfl) rfl rfl λh' O ⟨o',k2,k3⟩=>?_;unfold raiseNew;refine QcG (wpAny_handled ?_);rw[J]
 first
  | refine wpAny_throw ?_
  | refine QcG (QcH (wpAny_throw ?_))
 exact N _ _ _ o' (λb u q=>O b u (Qcr (by rw[Qcb];exact Nat.lt_succ_of_lt (Qcp q))) (Qax _ (Qax _ q))) k2 k3
end
section
variable{prog:Program}{w:World}{A:Around}{E:YA}{h:Heap}{g:Array GenState}{d:Drawn}{t:Nat}{os:OsState}{a:Addr}{xs:Array Value}{c:Nat}
theorem v7{tk:Tok}{Q:Fin->Shared->Prop}(q:A.handled=none)(z:h.get? a=some (seqObj "list" xs c))(G:∀h' j e o,(∀b u,h.get? b=some u->h'.get? b=some u)->h'.get? e=some o->o.cls=.type "AttributeError"->E (.ref e) ⟨h',g,d,j,os⟩) :
  wpAny 01 A (Builtin.«object.__getattribute__» ⟨[.ref a,.str "keys" tk],[]⟩) Q E ⟨h,g,d,t,os⟩:=by
 have J:(⟨h,g,d,t,os⟩ : Shared).TypeIs (.ref a) "list":=⟨_,z,rq⟩;have N:=d8
 repeat (any_goals (first | assumption | wp_step))
 exact cN (Qcu (Al (by trivial))) q λh' j e o I k2 k3=>G h' j e o I k2 k3
theorem AR{tk:Tok}{R:Result->Shared->Prop}(z:A.handled=none)(j:h.get? a=some (seqObj "list" xs c))(G:∀h' q e o,(∀b u,h.get? b=some u->h'.get? b=some u)->h'.get? e=some o->o.cls=.type "AttributeError"->R (.error (.ref e)) ⟨h',g,d,q,os⟩) :
  codeAny 01 A (.call (.builtin "list.__getattribute__") {[.ref a,.str "keys" tk],[]}) R ⟨h,g,d,t,os⟩:=
 QaK F.slot_list_getattribute.plain F.entry_list_ga (F.slot_list_getattribute.check _ _ _ _ _ _ _ _ (show (⟨h,g,d,t,os⟩ : Shared).TypeIs (.ref a) "list" from⟨_,j,rq⟩) (F.args_list_getattribute_2 _ _) (v7 z j G))
theorem GA{tk:Tok}{Q:YA}(z:A.handled=none)(q:h.get? a=some (seqObj "list" xs c))(G:∀h' j e o,(∀b u,h.get? b=some u->h'.get? b=some u)->h'.get? e=some o->o.cls=.type "AttributeError"->E (.ref e) ⟨h',g,d,j,os⟩):wpAny 01 A (getAttrBy (.ref a) (.str "keys" tk) false) Q E ⟨h,g,d,t,os⟩:=by
 have N:(⟨h,g,d,t,os⟩ : Shared).TypeIs (.ref a) "list":=⟨_,q,rq⟩;have O:=F.slot_list_getattribute.lookup;have Y:=F.slot_list_getattribute.bind (.ref a);have f5:=d9
 repeat (any_goals (first | assumption | wp_step))
 refine AR z q λh' j e o I k2 k3=>?_;have J:(⟨h',g,d,j,os⟩ : Shared).TypeIs (.ref e) "AttributeError":=⟨_,k2,k3⟩;have f6:=RW
 repeat (any_goals (first | assumption | wp_step))
 all_goals exact G h' j e o I k2 k3
theorem AS{Q:Option Value->Shared->Prop}(z:A.handled=none)(G:h.get? a=some (seqObj "list" xs c))(I:∀h' j,(∀b u,h.get? b=some u->h'.get? b=some u)->Q none ⟨h',g,d,j,os⟩):wpAny 01 A (getAttr? (.ref a) "keys") Q E ⟨h,g,d,t,os⟩:=by
 unfold getAttr? getAttrBy?;refine QcG (wpAny_mkText (QcG (Qcm ?_)));refine GA z G λh' j e o J k2 k3=>?_;have q:(⟨h',g,d,j,os⟩ : Shared).TypeIs (.ref e) "AttributeError":=⟨_,k2,k3⟩;refine QcG (QbH q RW ?_);rw[if_pos rfl];exact QcH (I _ _ J)
end
theorem DR:plainId "dict.update.loop"=true:=by trivial
theorem IW:entryFor table "dict.update.loop"=some Builtin.«dict.update.loop»:=entryFor_of_fast (by kernel_rfl)
section
variable{prog:Program}{w:World}{κ : Type} [DecidableEq κ] {knd:KeyKind prog w κ} {A:Around} {E:YA} {s:Shared} {R:Result->Shared->Prop}
end
section
variable{prog:Program}{w:World}{κ : Type} [DecidableEq κ] {knd:KeyKind prog w κ} {A:Around} {E:YA} {s:Shared}
end
theorem Z6:typeLookup (.type "tuple") "keys"=pure none:=by rw[typeLookup_type,builtinLookup_eq_fast];kernel_rfl
theorem Z7:typeLookup (.type "tuple") "__getattr__"=pure none:=by rw[typeLookup_type,builtinLookup_eq_fast];kernel_rfl
section
variable{prog:Program}{w:World}{A:Around}{E:YA}{h:Heap}{g:Array GenState}{d:Drawn}{t:Nat}{os:OsState}{a:Addr}{xs:Array Value}{c:Nat}{ob:Obj}
theorem uK{tk:Tok}{Q:Fin->Shared->Prop}(I:A.handled=none)(J:h.get? a=some ob)(q:ob.cls=.type "tuple")(z:ob.dict=none)(G:ob.data=.seq xs c)(N:∀h' j e o,(∀b u,h.get? b=some u->h'.get? b=some u)->h'.get? e=some o->o.cls=.type "AttributeError"->E (.ref e) ⟨h',g,d,j,os⟩) :
  wpAny 01 A (Builtin.«object.__getattribute__» {[.ref a,.str "keys" tk],[]}) Q E ⟨h,g,d,t,os⟩:=by
 obtain⟨oc,od,oa,Y⟩:=ob;cases q;cases z;cases G;have hT:(⟨h,g,d,t,os⟩ : Shared).TypeIs (.ref a) "tuple":=⟨_,J,rq⟩;have f4:=Z6
 repeat (any_goals (first | assumption | wp_step))
 exact cN (Qcu (Al (by trivial))) I λh' j e o O k2 k3=>N h' j e o O k2 k3
theorem zL{tk:Tok}{R:Result->Shared->Prop}(J:A.handled=none)(q:h.get? a=some ob)(j:ob.cls=.type "tuple")(z:ob.dict=none)(G:ob.data=.seq xs c)(N:∀h' I e o,(∀b u,h.get? b=some u->h'.get? b=some u)->h'.get? e=some o->o.cls=.type "AttributeError"->R (.error (.ref e)) ⟨h',g,d,I,os⟩) :
  codeAny 01 A (.call (.builtin "tuple.__getattribute__") {[.ref a,.str "keys" tk],[]}) R ⟨h,g,d,t,os⟩:=
 QaK F.slot_tuple_getattribute.plain F.entry_tuple_ga (F.slot_tuple_getattribute.check _ _ _ _ _ _ _ _ (show (⟨h,g,d,t,os⟩ : Shared).TypeIs (.ref a) "tuple" from⟨_,q,j⟩) (F.args_tuple_getattribute_2 _ _) (uK J q j z G N))
theorem FE{tk:Tok}{Q:YA}(J:A.handled=none)(z:h.get? a=some ob)(q:ob.cls=.type "tuple")(G:ob.dict=none)(I:ob.data=.seq xs c)(N:∀h' j e o,(∀b u,h.get? b=some u->h'.get? b=some u)->h'.get? e=some o->o.cls=.type "AttributeError"->E (.ref e) ⟨h',g,d,j,os⟩):wpAny 01 A (getAttrBy (.ref a) (.str "keys" tk) false) Q E ⟨h,g,d,t,os⟩:=by
 have hT:(⟨h,g,d,t,os⟩ : Shared).TypeIs (.ref a) "tuple":=⟨_,z,q⟩;have f2:=F.slot_tuple_getattribute.lookup;have f3:=F.slot_tuple_getattribute.bind (.ref a);have f5:=Z7
 repeat (any_goals (first | assumption | wp_step))
 refine zL J z q G I λh' j e o O k2 k3=>?_;have Y:(⟨h',g,d,j,os⟩ : Shared).TypeIs (.ref e) "AttributeError":=⟨_,k2,k3⟩;have f6:=RW
 repeat (any_goals (first | assumption | wp_step))
 all_goals exact N h' j e o O k2 k3
theorem zM{Q:Option Value->Shared->Prop}(J:A.handled=none)(N:h.get? a=some ob)(q:ob.cls=.type "tuple")(z:ob.dict=none)(G:ob.data=.seq xs c)(O:∀h' j,(∀b u,h.get? b=some u->h'.get? b=some u)->Q none ⟨h',g,d,j,os⟩):wpAny 01 A (getAttr? (.ref a) "keys") Q E ⟨h,g,d,t,os⟩:=by
 unfold getAttr? getAttrBy?;refine QcG (wpAny_mkText (QcG (Qcm ?_)));refine FE J N q z G λh' j e o Y k2 k3=>?_;have I:(⟨h',g,d,j,os⟩ : Shared).TypeIs (.ref e) "AttributeError":=⟨_,k2,k3⟩;refine QcG (QbH I RW ?_);rw[if_pos rfl];exact QcH (O _ _ Y)
end
section
variable{prog:Program}{w:World}{κ : Type} [DecidableEq κ] {knd:KeyKind prog w κ} {A:Around} {E:YA} {s:Shared} {R:Result->Shared->Prop}
end
def Tp(o:Obj):Prop:=o.cls=.type "tuple"/\o.dict=none
def FY(K:YD):YG->Hp->VK->Prop:=λxs H Q=>∃p ys,xs=[.ref p]/\SqL K H p ys/\∀l o,H l=none->Tp o->Q (.ref l) (upd H l (.frz o (.tup ys)))
theorem Y5{X:Cx}:DN X (.type "tuple") (FY X.K):=by
 intros xs us Q I r h;obtain⟨p,ys,rfl,G,aa⟩:=h;obtain⟨u,rfl,J⟩:=vals1 r;cases J;obtain⟨j,q,pl,N⟩:=I.list G;have ab:=q.length;refine call_tuple_list pl.isList (λh' O=>?_) (by simp only[Qbl] <;> lia);have z:Inv X jb U H { s with heap:=h' }:=I.kept (t':=s.toks) O;have Y:Inv X jb U (upd H h'.objs.size (.frz { cls:=.type "tuple",data:=.seq j.toArray } (.tup ys))) { s with heap:=h'.push { cls:=.type "tuple",data:=.seq j.toArray } }:=
  z.laid (t':=s.toks) (λb o e=>Qax _ e) (QcA _) {QaM _ rfl,show Bs X.prog X.w _ _ _ (.tup ys) from⟨N,j,q,IsTup.new _ _⟩}
 exact{.ref h'.objs.size,_,Y,rq,aa _ _ (z.hok.fresh (QcA _)) ⟨rq,rq⟩}
open PySem.W (KasT kas_asc kas_desc kas_rev kas_tail3 kas_descPart kas_count kas_place kas_bin kas_sort)
def Ga{q : Type}(lt:Nat->Nat->Bool):KasT q->q
 | .ret a=>a
 | .ask i j k=>Ga lt (k (lt i j))
theorem Ka{q z : Type}{lt:Nat->Nat->Bool}{f:q->KasT z}:∀t:KasT q,Ga lt (t.bind f)=Ga lt (f (Ga lt t))
 | .ret a=>rfl
 | .ask i j k=>Ka (k (lt i j))
theorem V0{q : Type}{lt:Nat->Nat->Bool}{n:Nat}{P:q->Prop}:∀t:KasT q,Hj n P t->P (Ga lt t)
 | .ret a,h=>h
 | .ask i j k,h=>V0 (k (lt i j)) (h.2.2 _)
theorem jX{z : Type}{lt:Nat->Nat->Bool}{n:Nat}{P:z->Prop}{Q:z->Shared->Prop}{s:Shared}{G:Nat->Nat->(Bool->Shared->Prop)->Shared->Prop}(hc:∀i j C,i < n->j < n->C (lt i j) s->G i j C s):∀t:KasT z,Hj n P t->Q (Ga lt t) s->t.kasWp G Q s
 | .ret a,h,q=>q
 | .ask i j k,h,q=>hc i j _ h.1 h.2.1 (jX hc (k (lt i j)) (h.2.2 _) q)
section
variable{n:Nat}{ky:Nat->Int}
def Gk(ky:Nat->Int)(p:Array Nat)(i:Nat):Int:=ky (p.getD i 0)
def ltK(ky:Nat->Int)(i j:Nat):Bool:=decide (ky i < ky j)
def Inj(n:Nat)(ky:Nat->Int):Prop:=∀i j,i < n->j < n->ky i=ky j->i=j
def Zb(ky:Nat->Int)(p:Array Nat)(m:Nat):Prop:=∀i,i+1 < m->Gk ky p i < Gk ky p (i+1)
def Fall(ky:Nat->Int)(p:Array Nat)(m:Nat):Prop:=∀i,i+1 < m->Gk ky p (i+1) < Gk ky p i
def Ly(ky:Nat->Int)(p:Array Nat)(m:Nat):Prop:=∀i j,i < j->j < m->Gk ky p i < Gk ky p j
theorem Zb.all{p:Array Nat}{m:Nat}(h:Zb ky p m):Ly ky p m:=λi j G q=>by
 induction j with
 | zero=>lia
 | succ j z=>
  have h1:=h j q;by_cases e:i=j
  .rw[e];exact h1
  .exact Int.lt_trans (z 00 00) h1
theorem qG{G : Type}{l:List G}(q:l.Nodup){i j:Nat}(hi:i < l.length)(z:j < l.length)(e:l[i]=l[j]):i=j:=by
 rcases Nat.lt_trichotomy i j with h | h | h
 .exact absurd e (Qak.mp q i j hi z h)
 .exact h
 .exact absurd e.symm (Qak.mp q j i z hi h)
theorem Pm.size{p:Array Nat}(h:Pm n p):p.size=n:=by
 have:=List.Perm.length_eq h;simpa using this
theorem Pm.ne(hi:Inj n ky){p:Array Nat}(h:Pm n p){i j:Nat}(a:i < n)(b:j < n)(ne:i≠j):Gk ky p i≠Gk ky p j:=λe=>by
 have n0:0 < n:=by lia
 have hs:=h.size;have e:=hi _ _ (h.lt n0 i) (h.lt n0 j) e;have q:p.toList.Nodup:=(List.Perm.nodup_iff h).mpr List.nodup_range;have e1:p.getD i 0=p.toList[i]'(by simp[hs,a]):=by simp[hs,a]
 have e2:p.getD j 0=p.toList[j]'(by simp[hs,b]):=by simp[hs,b]
 rw[e1,e2] at e;exact ne (qG q _ _ e)
theorem Yj(hi:Inj n ky){p:Array Nat}(h:Pm n p):∀f k,1<=k->k+f<=n->Zb ky p k->∃m,Ga (ltK ky) (kas_asc p f k)=m/\k<=m/\m<=k+f/\Zb ky p m/\(m < k+f->Gk ky p m < Gk ky p (m - 1))
 | 0,k,_,_,r=>⟨k,rfl,QcA _,QcA _,r,λz=>absurd z (Qcj _)⟩
 | f+1,k,h1,h2,r=>by
  show ∃m,Ga (ltK ky) (if ltK ky (p.getD k 0) (p.getD (k - 1) 0)=true then KasT.ret k else kas_asc p f (k+1))=m/\_
  by_cases c:Gk ky p k < Gk ky p (k - 1)
  .rw[if_pos (show ltK ky _ _=true from Qca c)]
   exact⟨k,rq,QcA _,by lia,r,λ_=>c⟩
  .rw[if_neg (show ¬ltK ky _ _=true from λz=>c (Qbq z))]
   obtain⟨m,e,a,b,d,g⟩:=Yj hi h f (k+1) 00 00 (λi q=>by
    by_cases e:i+1=k
    .have:=h.ne hi (i:=i) (j:=i+1) 00 00 00;have c:¬Gk ky p (i+1) < Gk ky p i:=by rw[<-e] at c;exact c
     lia
    .exact r i 00)
   exact⟨m,e,by lia,by lia,d,λz=>g 00⟩
theorem cG(hi:Inj n ky){p:Array Nat}(h:Pm n p):∀f k,1<=k->k+f<=n->Fall ky p k->∃m,Ga (ltK ky) (kas_desc f p k 0)=(p,m,0)/\k<=m/\m<=k+f/\Fall ky p m
 | 0,k,_,_,r=>⟨k,rfl,QcA _,QcA _,r⟩
 | f+1,k,h1,h2,r=>by
  show ∃m,Ga (ltK ky) (if ltK ky (p.getD k 0) (p.getD (k - 1) 0)=true then (if 0 > 0 then kas_desc f (kas_rev p (k - (0+1)) k) (k+1) 0 else kas_desc f p (k+1) 0) else KasT.ask (p.getD (k - 1) 0) (p.getD k 0) λd=>if d=true then KasT.ret (p,k,0) else kas_desc f p (k+1) (0+1))=(p,m,0)/\_
  by_cases c:Gk ky p k < Gk ky p (k - 1)
  .rw[if_pos (show ltK ky _ _=true from Qca c),if_neg (Qcj 0)]
   obtain⟨m,e,a,b,d⟩:=cG hi h f (k+1) 00 00 (λi q=>by
    by_cases e:i+1=k
    .rw[<-e] at c;exact c
    .exact r i 00)
   exact⟨m,e,by lia,by lia,d⟩
  .rw[if_neg (show ¬ltK ky _ _=true from λz=>c (Qbq z))]
   have G:=h.ne hi (i:=k) (j:=k - 1) 00 00 00;show ∃m,Ga (ltK ky) (if ltK ky (p.getD (k - 1) 0) (p.getD k 0)=true then KasT.ret (p,k,0) else kas_desc f p (k+1) (0+1))=(p,m,0)/\_
   rw[if_pos (show ltK ky _ _=true from Qca (show Gk ky p (k - 1) < Gk ky p k by lia))]
   exact⟨k,rq,QcA _,by lia,r⟩
theorem aP{p q:Array Nat}{i j:Nat}(e:p[i]?=q[j]?):Gk ky p i=Gk ky q j:=by
 unfold Gk;rw[Array.getD_eq_getD_getElem?,Array.getD_eq_getD_getElem?,e]
theorem tV{p:Array Nat}{m i:Nat}(j:m<=p.size)(hi:i < m):Gk ky (kas_rev p 0 m) i=Gk ky p (m - 1 - i):=by
 apply aP;unfold kas_rev;rw[getElem?_mirror_all j,if_pos {QcB _,hi}];congr 1;lia
theorem tW{p:Array Nat}{k l i:Nat}(j:k < p.size)(q:l<=k):Gk ky (bubble p k (k - l)) i=if i=l then Gk ky p k else if l < i/\i<=k then Gk ky p (i - 1) else Gk ky p i:=by
 have e:=getElem?_bubble j (k - l) 00 i;rw[show k - (k - l)=l by lia] at e;split at e
 .rename_i h;rw[if_pos h];exact aP e
 .rename_i h;rw[if_neg h];split at e
  .rename_i h;rw[if_pos h];exact aP e
  .rename_i h;rw[if_neg h];exact aP e
def Done(n:Nat)(ky:Nat->Int)(r:Nat×Array Nat):Prop:=1<=r.1/\r.1<=n/\Zb ky r.2 r.1
theorem uR(hi:Inj n ky){p:Array Nat}(h:Pm n p){m:Nat}(h1:1<=m)(h2:m<=n)(f:Fall ky p m):Done n ky (Ga (ltK ky) (kas_tail3 m n p)):=by
 have hs:=h.size;have j:Zb ky (kas_rev p 0 m) m:=λi q=>by
  rw[tV 00 00,tV 00 00];have:=f (m - 1 - (i+1)) 00;rw[show m - 1 - (i+1)+1=m - 1 - i by lia] at this;exact this
 obtain⟨k,e,a,b,d,_⟩:=Yj hi (h.rev 0 m) (n - m) m h1 00 j;unfold kas_tail3;rw[Ka,e];exact{by show 1<=k;lia,by show k<=n;lia,d}
theorem pX(hi:Inj n ky){p:Array Nat}(h:Pm n p)(n0:2<=n):Done n ky (Ga (ltK ky) (kas_count n p)):=by
 obtain⟨m,e,a,b,d,g⟩:=Yj hi h (n - 1) 1 (QcA _) 00 (λi j=>by lia);unfold kas_count;rw[Ka,e];by_cases c1:m=n
 .rw[if_pos (by rw[c1];exact beq_self_eq_true n)];exact⟨a,by show m<=n;lia,d⟩
 .rw[if_neg (λz=>c1 (eq_of_beq z))];by_cases c2:m > 1
  .rw[if_pos c2];show Done n ky (Ga (ltK ky) (if ltK ky (p.getD 0 0) (p.getD (m - 1) 0)=true then KasT.ret (m,p) else kas_descPart m n (kas_rev p 0 m)))
   rw[if_pos (show ltK ky _ _=true from Qca (d.all 0 (m - 1) 00 00))]
   exact⟨a,by show m<=n;lia,d⟩
  .rw[if_neg c2];have q:m=1:=by lia
   subst q;have g:=g 00;obtain⟨k,e,a,b,d⟩:=cG hi h (n - (1+1)) (1+1) 00 00 (λi j=>by
    have:i=0:=by lia
    subst this;exact g)
   unfold kas_descPart;rw[Ka,e];show Done n ky (Ga (ltK ky) (if 0 > 0 then _ else kas_tail3 k n p))
   rw[if_neg (Qcj 0)];exact uR hi h 00 00 d
theorem SM(hi:Inj n ky){p:Array Nat}(h:Pm n p){k:Nat}(J:k < n)(R:Ly ky p k):∀f l r,r<=l+f->l<=r->r<=k->(∀i,i < l->Gk ky p i < Gk ky p k)->(∀i,r<=i->i < k->Gk ky p k < Gk ky p i)->∃m,Ga (ltK ky) (kas_place p k f l r)=m/\m<=k/\(∀i,i < m->Gk ky p i < Gk ky p k)/\∀i,m<=i->i < k->Gk ky p k < Gk ky p i
 | 0,l,r,h1,h2,O,G,I=>⟨l,rfl,by lia,G,λi a b=>I i 00 b⟩
 | f+1,l,r,h1,h2,O,G,I=>by
  unfold kas_place;by_cases c:l ≥ r
  .rw[if_pos c];exact⟨l,rq,by lia,G,λi a b=>I i 00 b⟩
  .rw[if_neg c];show ∃m,Ga (ltK ky) (if ltK ky (p.getD k 0) (p.getD ((l+r) / 2) 0)=true then kas_place p k f l ((l+r) / 2) else kas_place p k f ((l+r) / 2+1) r)=m/\_
   have Y:(l+r) / 2 < r/\l<=(l+r) / 2:=by lia
   generalize (l+r) / 2=q at Y ⊢;by_cases d:Gk ky p k < Gk ky p q
   .rw[if_pos (show ltK ky _ _=true from Qca d)]
    refine SM hi h J R f l q 00 00 00 G λi a b=>?_;by_cases e:i=q
    .rw[e];exact d
    .exact Int.lt_trans d (R q i 00 b)
   .rw[if_neg (show ¬ltK ky _ _=true from λz=>d (Qbq z))]
    refine SM hi h J R f (q+1) r 00 00 00 (λi a=>?_) I;have ne:=h.ne hi (i:=q) (j:=k) 00 00 00;have N:Gk ky p q < Gk ky p k:=by lia
    by_cases e:i=q
    .rw[e];exact N
    .exact Int.lt_trans (R i q 00 00) N
theorem jM(hi:Inj n ky):∀f (p:Array Nat),Pm n p->∀k,k+f=n->Ly ky p k->Ly ky (Ga (ltK ky) (kas_bin f p k)) n
 | 0,p,h,k,e,R=>by rw[<-e];exact R
 | f+1,p,h,k,e,R=>by
  have hs:=h.size;show Ly ky (Ga (ltK ky) ((kas_place p k k 0 k).bind λl=>kas_bin f (bubble p k (k - l)) (k+1))) n;rw[Ka];obtain⟨l,N,a,b,c⟩:=SM hi h (k:=k) 00 R k 0 k 00 (QcB _) (QcA _) (λi z=>absurd z (QbW _)) (λi x y=>by lia);rw[N];refine jM hi f _ (h.bub _ _) (k+1) 00 λi j O Y=>?_;rw[tW 00 a,tW 00 a];by_cases q:i=l
  .rw[if_pos q,if_neg 00,if_pos {by lia,by lia}];exact c _ 00 00
  .rw[if_neg q];by_cases G:j=l
   .rw[if_neg 00,if_pos G];exact b _ 00
   .rw[if_neg G];by_cases I:l < i
    .rw[if_pos ⟨I,by lia⟩,if_pos {by lia,by lia}];exact R _ _ 00 00
    .rw[if_neg (λz=>I z.1)];by_cases J:l < j
     .rw[if_pos ⟨J,by lia⟩];exact R _ _ 00 00
     .rw[if_neg (λz=>J z.1)];exact R _ _ 00 00
theorem uT(hi:Inj n ky)(n0:2<=n):Ly ky (Ga (ltK ky) (kas_sort n)) n:=by
 have j:Pm n (List.toArray (List.range n)):=by unfold Pm;exact List.Perm.refl _
 obtain⟨a,b,c⟩:=pX hi j n0;have q:=V0 (lt:=ltK ky) _ (ZS 00 j n);unfold kas_sort;rw[Ka];generalize Ga (ltK ky) (kas_count n (List.toArray (List.range n)))=r at a b c q;show Ly ky (Ga (ltK ky) (if r.1 < n then kas_bin (n - max r.1 1) r.2 (max r.1 1) else KasT.ret r.2)) n
 have z:max r.1 1=r.1:=by lia
 by_cases d:r.1 < n
 .rw[if_pos d,z];exact jM hi _ _ q _ 00 c.all
 .rw[if_neg d];have:r.1=n:=by lia
  rw[<-this];exact c.all
theorem Ly.list{p:Array Nat}(h:Pm n p)(R:Ly ky p n):(p.toList.map ky).Pairwise (· < ·):=by
 have hs:=h.size;rw[Qak];intro i j hi I z;have G:i < n:=by simpa [hs] using hi
 have q:j < n:=by simpa [hs] using I
 have:=R i j z q;unfold Gk at this;have e1:p.getD i 0=p[i]' 00:=by simp[hs,G]
 have e2:p.getD j 0=p[j]' 00:=by simp[hs,q]
 rw[e1,e2] at this;simpa using this
end
theorem iH{j q : Type}(d:j)(e:q){F:j->q->Prop}:∀{l:List j} {m:List q} {i:Nat},Paired F l m->i < l.length->F (l.getD i d) (m.getD i e):=by
 intro l m i r
 induction r generalizing i with
 | nil=>intro h;exact absurd h (QbW _)
 | cons a t z=>
  intro h;cases i with
  | zero=>exact a
  | succ i=>exact z (Nat.lt_of_succ_lt_succ h)
section
variable{prog:Program}{w:World}{A:Around}{s:Shared}
theorem DM{j:Bool}{C:Bool->Shared->Prop}(q:C j s):∀(l:YE),(∀y∈l,∃a t,y=Value.int a t)->∀i,PySem.W.KatLex prog w A true j C (l.zip l) i s
 | [],_,_=>q
 | y::r,h,i=>by
  obtain⟨a,t,rfl⟩:=h y (QaW ..);rw[List.zip_cons_cons];refine kat_cons (wpAny_eqBool_int ?_);rw[show (a == a)=true from beq_self_eq_true a]
  exact PySem.W.kat_yes (DM q r (λy z=>h y (QaI _ z)) (i+1))
end
end L2
namespace L2
open PySem PySem.Spec PyProof.Rows
theorem Cd.BY{k:Nat}{A:Around}(r:Cd k A):A.units+66 < cLine:=by have:=r.un;lia
section
variable{X:Cx}{K:YD}
end
end L2
namespace PySem
open Sem (wp)
open AutoSeq1 (wpAny_loadPart')
section
variable{prog:Program}{w:World}{A:Around}{E:YA}{s:Shared}
theorem YX{e it l:Addr}{i:Nat}{j:Int}{items:Array Value}{z:Value}{Q:Option Value->Shared->Prop}(N:A.handled=none)(q:IsEnum s.heap e it j z)(G:s.heap.IsListIter it l i)(O:s.heap.IsList l items)(Y:items[i]?=none)
  (hQ:∀h',Heap.ExtBut it s.heap h'->Q none { s with heap:=h' }):wpAny 01 A (pyNext (.ref e)) Q E s:=by
 have hT:s.TypeIs (.ref e) "enumerate":=⟨_,q,rq⟩;unfold pyNext;refine QcG (Qcm (Qas (name:=Str.ofString "__next__") hT F.slot_enumerate_next (QbC F.slot_enumerate_next hT F.entry_enumerate_next ?_ (F.args_enumerate_next_1 _))));show wpAny _ _ (field (.ref e) 2 >>= _) _ _ _;refine QcG (QcD q rfl (x:=.ref it) rfl (QcG (wpAny_nextOf_list_end N G O Y λh' x I J=>?_)));obtain⟨o,ho,hc⟩:=J;exact QcG (QbH (T:="StopIteration") (b:=true) ⟨o,ho,hc⟩ isSubtype_stop (QcH (hQ _ I)))
end
end PySem
namespace L2
open PySem PySem.Spec PyProof.Rows
def T4(K:YD)(a:Addr)(lo:Nat):It:=
 {λi H=>∃xs x,SqL K H a xs/\xs[i]?=some x,λi H v H'=>∃p x,H p=none/\v=.ref p/\H'=upd H p (.tup [.int ((lo+i:Nat):Int),x])/\∀xs,SqL K H a xs->xs[i]?=some x,λi H=>∃xs,SqL K H a xs/\xs.length<=i}
theorem lM{P:Program}{w:World}{K:YD}{ai:YJ}{k:Nat}{pos:Pos}(a e it:Addr)(lo:Nat)(ae:e≠it):Turn P w K (.Tuple ai k pos) (T4 K a lo) [e,it] e (λi h=>(∃O,IsEnum h e it ((lo+i:Nat):Int) O)/\h.IsListIter it a i) where
 mem:=by simp
 obj:=λi h st b j=>by
  obtain⟨⟨O,G⟩,o,J,hc,hd⟩:=st;rcases Qcg.mp j with rfl | j
  .exact{_,G,λv z=>by cases (show Data.fields _=Data.cell v from z)}
  .have:b=it:=by simpa using j
   subst this;exact⟨o,J,λv z=>by rw[hd] at z;cases z⟩
 keep:=λi h h' st k=>by
  obtain⟨⟨O,G⟩,hi⟩:=st;exact{⟨O,k e 04 _ G⟩,hi.at λo q=>k it 04 o q}
 item:=by
  intro X hP hw hK hc i jb s U H E I hf st hg;subst hP hw hK;obtain⟨xs,x,hq,hx⟩:=hg;obtain⟨Y,rv,p,hz⟩:=I.list hq;obtain⟨u,hu,ru⟩:=rv.get hx;obtain⟨⟨O,G⟩,aa⟩:=st;have af:s.heap.IsList a Y.toArray:=p.isList;have an:a≠e:=λz=>by
   obtain⟨o,J,ab,_⟩:=af;rw[z,G] at J;cases J;injection ab with q;exact absurd q 05
  have ao:a≠it:=λz=>by
   obtain⟨o,J,ab,_⟩:=af;obtain⟨o',ag,al,_⟩:=aa;rw[z,ag] at J;cases J;rw[al] at ab;injection ab with q;exact absurd q 05
  have ap:i < Y.toArray.size:=by
   have:=(Qah.mp hu).1;simpa using this
  have D:=(Draws.list (prog:=X.prog) (w:=X.w) (A:=X.A.in1) (I.ok.hd hc) it a ao Y.toArray).from lo;refine wpAny_pyNext_enum_itemD D G ⟨i,rq,Qcu ap,aa,af⟩ 00 ae (by simp[ae,an.symm]) λy h1 tk hP J ar hT az hk=>?_;obtain⟨N,ei,hy⟩:=hP;have:N=i:=by lia
  subst this;have ey:y=u:=by
   have h2:Y.toArray[N]?=some u:=by simpa using hu
   rw[h2] at hy;exact (QbP hy).symm
  subst ey;refine{_,rq,wpAny_letOwnedTupleGo_enum J λh2 as ah=>?_};have am:∅≠e:=Qcv (Qcp G);have au:h2.get? ∅=some { cls:=.type "tuple",data:=.seq #[.int ((lo+N:Nat):Int) tk,y] }:=(ah.2 _ am).trans hT;have av:Bs X.prog X.w (upd H ∅ (.tup [.int ((lo+N:Nat):Int),x])) h2 ∅ (.tup [.int ((lo+N:Nat):Int),x]):=
   {by show 2<=sizeLine;decide,[.int ((lo+N:Nat):Int) tk,y],.cons ⟨tk,rq⟩ (.cons ru .nil),_,au,rq,0,rq}
  have I1:=I.Pa (h':=h2) (t':=tk+1) (QcA _) (λb q j z=>(ah.2 b (λw=>j (by simp[w]))).trans (hk b q (λw=>j (by simp[w])) (λw=>j (by simp[w])) z)) hf av;refine{.ref ∅,_,I1,rq,{∅,x,I.hok.fresh (QcA _),rq,rq,λys aw=>by rw[I.eE aw hq];exact hx},{⟨y,?_⟩,?_},λb j=>?_}
  .have:=as;rw[show ((lo+(N+1):Nat):Int)=((lo+N:Nat):Int)+1 by lia];exact this
  .obtain⟨i2,e2,_,ax,_⟩:=ar;have:i2=N+1:=by lia
   subst this;exact ax.at λo q=>(ah.2 it (Ne.symm ae)).trans q
  .have ay:b < ∅:=by
    rcases Qcg.mp j with rfl | j
    .exact Qcp G
    .have:b=it:=by simpa using j
     subst this;obtain⟨o,ag,_⟩:=aa;exact Qcp ag
   rw[Ao (Qcr ay)];exact (hf b j).1
 done:=by
  intro X hP hw hK hc i jb s U H E I hf st hg;subst hP hw hK;obtain⟨xs,hq,hx⟩:=hg;obtain⟨Y,rv,p,hz⟩:=I.list hq;obtain⟨⟨O,G⟩,aa⟩:=st;have hl:=rv.length;exact YX (I.ok.hd hc) G aa p.isList (by simp;lia) λh' eb=>⟨rq,I.Nu (t':=s.toks) (λb o j q=>eb b o (λz=>j (by simp[z])) q) hf⟩
 self:=λ_ _ _ _ _ st h=>let ⟨⟨_,G⟩,_⟩:=st;wpAny_pyIter_enum G h
section
variable{X:Cx}
theorem yq{jb:YC}{U : St}{H:Hp}{s:Shared}{R:It->Hp->Prop}{E:YA}{J:YJ}{k:Nat}{pos:Pos}{a:Addr}{lo:Nat}{tk:Nat}(I:H^^^s)(q:R (T4 X.K a lo) H) :
  ‹X› (pyIter (.ref (∅+1))) (PIE X jb U (.Tuple J k pos) R) E
   { s with heap:=(s.heap.push { cls:=.type "list_iterator",data:=.fields #[.ref a,.int 0 0] }).push { cls:=.type "enumerate",data:=.fields #[.none,.bool false,.ref ∅,rawInt (lo:Int),.none,.none] },toks:=tk }:=by
 have N:(s.heap.push { cls:=.type "list_iterator",data:=.fields #[.ref a,.int 0 0] }).objs.size=∅+1:=Qcb ..;have z:IsEnum ((s.heap.push { cls:=.type "list_iterator",data:=.fields #[.ref a,.int 0 0] }).push { cls:=.type "enumerate",data:=.fields #[.none,.bool false,.ref ∅,rawInt (lo:Int),.none,.none] }) (∅+1) ∅ (lo:Int) .none:=by
  have:=QaM (s.heap.push { cls:=.type "list_iterator",data:=.fields #[.ref a,.int 0 0] }) (o:={ cls:=.type "enumerate",data:=.fields #[.none,.bool false,.ref ∅,rawInt (lo:Int),.none,.none] }) rfl;rw[N] at this;exact this
 refine wpAny_pyIter_enum z {∅+1,[∅+1,∅],_,_,H,rq,I.kept (t':=tk) λb o e=>Qax _ (Qax _ e),lM a (∅+1) ∅ lo (Nat.succ_ne_self _),{⟨.none,z⟩,{_,Qax _ (QaM _ rfl),rq,rq}},λb G=>?_,q};have j:∅<=b:=by
  simp only[Qcg,QbB,QcK] at G;rcases G with rfl | rfl
  .exact QcF _
  .exact QcA _
 exact I.QD j (I.hok.fresh j)
end
section
variable{X:Cx}
def D5(K:YD)(lo:Nat)(tl:TE):TI:=fun U H R=>tl U H λx H1=>∃a,x=.ref a/\(∃xs,SqL K H1 a xs)/\R (T4 K a lo) H1
theorem jh{jb:YC}{U : St}{H:Hp}{s:Shared}{R:It->Hp->Prop}{J:YJ}{k:Nat}{pos:Pos}{a:Addr}{xs:YG}(I:H^^^s)(Y:SqL X.K H a xs)(q:R (T4 X.K a 0) H) :
  ‹X› (call (.type "enumerate") [.ref a]) (λv s1=>‹X› (pyIter v) (PIE X jb U (.Tuple J k pos) R) X.xe s1) X.xe s:=by
 obtain⟨z,rv,p,G⟩:=I.list Y;obtain⟨⟨c,N,dt,sl⟩,hl,hc,n,j⟩:=p.isList;replace hc:c=.type "list":=hc;replace j:dt=.seq z.toArray n:=j;subst hc j;refine callType_new F.called_enumerate 05 (F.typeCall_enumerate_1 _) (F.newCall_enumerate_1 _) (λO=>F.args_object_init_2 O _) F.entry_enumerate_new (meets_enumerate_newL a z.toArray n N sl) ⟨hl,?_⟩;have G:(s.heap.push { cls:=.type "list_iterator",data:=.fields #[.ref a,.int 0 0] }).objs.size=∅+1:=Qcb ..;show _/\_;refine{{_,QaM _ rfl,rq},?_};rw[G];exact yq (lo:=0) (tk:=s.toks) I q
end
section
variable{X:Cx}
theorem qj{x:Expr}{tx:TE}{p pos G:Pos}{z:YJ}{k:Nat}(J:Gl X "enumerate")(N:X.mg "enumerate"=none)(O:PE X x tx)(hs:starEach [x] X.env=[(false,eval x X.env)]:=by rfl):PI X (.Tuple z k G) (.Call (.Name "enumerate" p) [x] [] pos) (D5 X.K 0 tx):=by
 intros R I h;refine Call_ (Jp I J N boot_enumerate (Qae (thn ((Aa O Ac (by rw[hs];rfl)) pos jb s U H (λq H1=>match q with | [v]=>∃a,v=.ref a/\(∃xs,SqL X.K H1 a xs)/\R (T4 X.K a 0) H1 | _=>False) I h) λus s1 ⟨q,H1,Y,r1,j⟩=>?_) hs rfl))
 cases r1 with
 | nil=>exact False.elim j
 | cons r rr=>
  cases rr with
  | nil=>
   obtain⟨a,e,⟨xs,hq⟩,aa⟩:=j;subst e;cases r;exact jh Y hq aa
  | cons _ _=>exact False.elim j
theorem rM{K:YD}{a:Addr}{lo:Nat}{xs:YG}{g:TG}{tb:TS}{D:Ends}{U : St}{H:Hp}(Pv:YN)(J:Pv 0 U H)(O:∀i U H',i<=xs.length->Pv i U H'->SqL K H' a xs)
  (hs:∀i x p U H',xs[i]?=some x->Pv i U H'->H' p=none->g (.ref p) U (upd H' p (.tup [.int ((lo+i:Nat):Int),x])) fun j H2=>tb { D with nx:=Pv (i+1),ct:=Pv (i+1),bk:=D.nx } j H2) (Y:∀ U H',Pv xs.length U H'->D.nx U H') :
  ∃W:Nat->YN,(∃m,W 0 m U H)/\∀i m U H,W i m U H ->
   ((T4 K a lo).stop i H/\D.nx U H)\/((T4 K a lo).go i H/\∃N:YO,(∀ z H',N z H'->∃I,I < m/\W (i+1) I z H')/\∀x H',(T4 K a lo).yld i H x H'->g x U H' fun j H2=>tb { D with nx:=N,ct:=N,bk:=D.nx } j H2):=by
 refine{λi m U H=>m=xs.length - i/\i<=xs.length/\Pv i U H,⟨xs.length,by simp,QcB _,J⟩,?_};rintro i m U H ⟨rfl,hi,p⟩;have q:=O i U H hi p;by_cases G:i < xs.length
 .refine .inr {⟨xs,xs[i],q,by simp[G]⟩,Pv (i+1),fun aa H3 p'=>{xs.length - (i+1),by lia,rq,G,p'},λv H2 y=>?_};obtain⟨pa,x,hn,rfl,rfl,hx⟩:=y;exact hs i x pa U _ (hx xs q) p hn
 .have e:i=xs.length:=by lia
  subst e;exact .inl {⟨xs,q,QcA _⟩,Y U H p}
end
section
variable{prog:Program}{w:World}{A:Around}{R:Result->Shared->Prop}{s:Shared}{elt t1 i1 t2 i2:Expr}{scope:Scope}{pos:Pos}{it acc:Value}{env:Env}
end
theorem vf{X:Cx}{N':YF}{src:List (Option Nat)}{sc:Scope}{G I tg iter:Expr}{ifs:YJ}{pos aa J:Pos}{wi:TI}{g:TG}{tt:TT}{tk tv:TE}{i:Nat}{x:Str}(hN:X.N.Nodup)(af:X.N[i]?=some x)(hx:Loc X.env.scope x)(hc:X.calm=true)(S:Bj X N' src sc)
  (hi:PI X tg iter wi) (hg:∀s3 j fp pn,PG (cxC X N' sc s3 j fp pn) tg g) (ht:∀s3 j fp pn,PF (cxC X N' sc s3 j fp pn) ifs tt) (hk:∀s3 j fp pn,PE (cxC X N' sc s3 j fp pn) G tk) (hv:∀s3 j fp pn,PE (cxC X N' sc s3 j fp pn) I tv)
  (ag:swapsWith (.DictComp G I [⟨tg,iter,ifs,0⟩] sc pos) (some (.Name x J)) aa.line X.env=pure true:=by rfl) (hs:∀x,foldedSetIterable iter X.env x=pure x:=by intro _;rfl)
  (hf:X.fn x=true\/X.env.scope.names.lookup x=some .local:=by first | exact .inl rfl | exact .inr rfl | assumption) :
  PS X (.Assign [.Name x J] (.DictComp G I [⟨tg,iter,ifs,0⟩] sc pos) aa) (bf (aZ wi src g tt tk tv) (Ek i)):=by
 intros D ai h;rw[exec_Assign_Name_used _ _ _ _ ag];refine QcG (Qcn (QcG ?_));show wpAny _ X.A (do let _ <-comprehension (.DictComp G I [⟨tg,iter,ifs,0⟩] sc pos) sc X.env _ newDict false (eval iter X.env) (some (assign (.Name x J) X.env))) _ _ s
 refine QcG (thn (Xo (R:=λ_ s'=>SP X jb D .next s') hc S hi hg ht hk hv hs ai h λs3 j fp am O Y l q f3 J5 al=>?_) λ_ s' hq=>QcH (QcH hq));obtain⟨m,⟨oC,es,ep,ah,r⟩,_⟩:=J5.loc;have I6:Inv X jb U O { Y with heap:=Y.heap }:=Tr q f3 J5 (Heap.SameBut.refl _ _);have ab:O s3.heap.objs.size=none:=J5.free;have ae:s3.heap.objs.size≠X.env.locals:=Qcv q.lt;have v9:∀v,oC.data≠.cell v:=λv z=>by rw[r.1] at z;cases z
 have I7:Inv X (jb++[(s3.heap.objs.size,oC)]) U O Y:=I6.Ui λp hp=>(QbK.mp hp).elim (λz=>I6.pin p (QaC _ z)) λz=>by
  cases Qbc.mp z;exact⟨ah,ab,ae,q.vY (QcA _),v9⟩
 show wpAny _ X.A (assign (.Name x J) X.env (.ref l)) _ _ Y;refine wpAny_assign_Name (KY (v:=.ref l) I7 hN af hx rfl (λs6 I8=>?_) hf);have k8:=(I8.pin (s3.heap.objs.size,oC) (QaC _ (QaC _ (Qbc.mpr rfl)))).1;refine⟨m,⟨oC,es,ep,k8,r⟩,λh' sb=>{_,O,?_,al}⟩;have I9:=I8.Im;refine I9.turned (t':=s6.toks) (λb o hb e=>sb.extBut b o hb e) ab ae (.inr q.sz) (λy c e z=>?_) (λp hp z=>?_)
 .obtain⟨v,o,ho,_⟩:=q.cell y c e;exact absurd (Qcp ho) (by rw[z];exact Qcj _)
 .have:=(q.pin p hp).1;exact absurd (Qcp this) (by rw[z];exact Qcj _)
end L2
namespace L2
open PySem
theorem Gf{x:Str}{p:Pos}{es:YJ}{env:Env}:starEach (.Name x p::es) env=(false,eval (.Name x p) env)::starEach es env:=by rfl
theorem CA{a b:Expr}{p:Pos}{es:YJ}{env:Env}:starEach (.Subscript a b p::es) env=(false,eval (.Subscript a b p) env)::starEach es env:=by rfl
end L2
namespace L2
open PySem PySem.Spec PyProof.Rows
def o8(K:YD)(a b:Addr):It:=
  ⟨λi H=>∃xs ys x y,H a=some (.tup xs)/\H b=some (.tup ys)/\xs[i]?=some x/\ys[i]?=some y,
   λi H v H'=>∃p x y,H p=none/\v=.ref p/\H'=upd H p (.tup [x,y])/\(∀xs,H a=some (.tup xs)->xs[i]?=some x)/\∀ys,H b=some (.tup ys)->ys[i]?=some y,
   λi H=>∃xs ys,H a=some (.tup xs)/\H b=some (.tup ys)/\(xs.length<=i\/ys.length<=i)⟩
theorem lG{P:Program}{w:World}{K:YD}{ar:YJ}{k:Nat}{pos:Pos}(a b z TI TO i1 i2:Addr)(nd:[z,TI,TO,i1,i2].Nodup) :
  Turn P w K (.Tuple ar k pos) (o8 K a b) [z,TI,TO,i1,i2] z (λi h=>(∃f1,ZZ.IsZ h z TI TO .none f1)/\ZZ.DP h TI [.ref i1,.ref i2]/\(∃olds:YE,ZZ.DP h TO olds/\olds.length=2)/\h.IsTupleIter i1 a i/\h.IsTupleIter i2 b i) where
 mem:=by simp
 obj:=λi h st c hc=>by
  obtain⟨⟨f1,G⟩,O,⟨olds,Y,_⟩,⟨o1,e1,_,d1⟩,o2,e2,_,d2⟩:=st;simp only[Qcg,QbB,QcK] at hc;rcases hc with rfl | rfl | rfl | rfl | rfl
  .exact{_,G,λv q=>by cases (show Data.fields _=Data.cell v from q)}
  .exact{_,O,λv q=>by cases (show Data.seq _ _=Data.cell v from q)}
  .exact{_,Y,λv q=>by cases (show Data.seq _ _=Data.cell v from q)}
  .exact⟨o1,e1,λv q=>by rw[d1] at q;cases q⟩
  .exact⟨o2,e2,λv q=>by rw[d2] at q;cases q⟩
 keep:=λi h h' st k=>by
  obtain⟨⟨f1,G⟩,O,⟨olds,Y,l⟩,h1,h2⟩:=st;exact{⟨f1,k z 04 _ G⟩,k TI 04 _ O,⟨olds,k TO 04 _ Y,l⟩,h1.at λo e=>k i1 04 o e,h2.at λo e=>k i2 04 o e}
 item:=by
  intro X hP hw hK hc i jb s U H E I hf st hg;subst hP hw hK;obtain⟨xs,ys,x,y,aa,ab,hx,hy⟩:=hg;obtain⟨J,ru,p1,z1⟩:=I.tuple (SqT.of aa);obtain⟨N,ah,p2,z2⟩:=I.tuple (SqT.of ab);obtain⟨u,hu,aw⟩:=ru.get hx;obtain⟨v,hv,ax⟩:=ah.get hy;obtain⟨⟨f1,G⟩,O,⟨olds,Y,lo⟩,ae,af⟩:=st;simp only[QbQ,Qcg,QbB,QcK,not_or,Qcc,not_false_eq_true,and_true] at nd;obtain⟨⟨n1,n2,n3,n4⟩,⟨n5,n6,n7⟩,⟨n8,n9⟩,al⟩:=nd;have D:ZZ.Apart z TI TO [⟨i1,a,J.toArray⟩,⟨i2,b,N.toArray⟩]:=by
   obtain⟨oa,ea,ca,_⟩:=id p1;obtain⟨ob,eb,cb,_⟩:=id p2;obtain⟨o1,e1,c1,_⟩:=id ae;obtain⟨o2,e2,c2,_⟩:=id af;have am:a≠TO:=λq=>by
    have:=(hf TO 04).1;rw[<-q,aa] at this;cases this
   have an:b≠TO:=λq=>by
    have:=(hf TO 04).1;rw[<-q,ab] at this;cases this
   have t1:Value.type "tuple"≠Value.type "zip":=λq=>absurd (by injection q) (show ¬("tuple"="zip") by decide);have t2:Value.type "tuple"≠Value.type "tuple_iterator":=λq=>absurd (by injection q) (show ¬("tuple"="tuple_iterator") by decide);refine{Ne.symm n1,Ne.symm n2,n5,λq j=>?_,λq j=>?_,λq j r hr=>?_,?_}
   .simp only[Qcg,QbB,QcK] at j;rcases j with rfl | rfl
    .exact{Ne.symm n3,Ne.symm n6,Ne.symm n8}
    .exact{Ne.symm n4,Ne.symm n7,Ne.symm n9}
   .simp only[Qcg,QbB,QcK] at j;rcases j with rfl | rfl
    .exact{Hw ea G (by rw[ca];exact t1),am}
    .exact{Hw eb G (by rw[cb];exact t1),an}
   .simp only[Qcg,QbB,QcK] at j hr;rcases j with rfl | rfl <;> rcases hr with rfl | rfl
    .exact Hw ea e1 (by rw[ca,c1];exact t2)
    .exact Hw ea e2 (by rw[ca,c2];exact t2)
    .exact Hw eb e1 (by rw[cb,c1];exact t2)
    .exact Hw eb e2 (by rw[cb,c2];exact t2)
   .simp[al]
  have ao:∀q∈([⟨i1,a,J.toArray⟩,⟨i2,b,N.toArray⟩]:List ZZ.Src),ZZ.SrcAt s.heap q i:=λq j=>by
   simp only[Qcg,QbB,QcK] at j;rcases j with rfl | rfl
   .exact .inr ⟨ae,p1⟩
   .exact .inr ⟨af,p2⟩
  refine ZZ.mH G (Qi:=λr s'=>∃h',r=.ref ∅/\s'={ s with heap:=h' }/\ZZ.IsZ h' z TI TO (rawInt ∅) (.bool false)/\ZZ.DP h' TI [.ref i1,.ref i2]/\ZZ.DP h' TO [u,v]/\(∀q∈([⟨i1,a,J.toArray⟩,⟨i2,b,N.toArray⟩]:List ZZ.Src),ZZ.SrcAt h' q (i+1))/\ZZ.DP h' ∅ [u,v]/\ZZ.Rest z TO [⟨i1,a,J.toArray⟩,⟨i2,b,N.toArray⟩] s.heap h')
   (ZZ.ZW (xs:=[u,v]) D G O Y ao 04 rfl lo (λba q hj=>?_) (by show 2<=100;decide) λh' a1 a2 a3 a4 a5 a6 a7=>⟨h',rq,rq,a1,a2,a3,a4,a5,a7⟩) λr s' hQ=>?_
  .match ba,hj with
   | 0,hj=>cases hj;exact⟨u,rfl,by simpa using hu⟩
   | 1,hj=>cases hj;exact⟨v,rfl,by simpa using hv⟩
  obtain⟨h',rfl,rfl,a1,a2,a3,a4,a5,a7⟩:=hQ;refine⟨_,rq,ZZ.qM (s:={ s with heap:=h' }) a1 λh2 ay sb=>?_⟩;have as:∅≠z:=Qcv (Qcp G);have az:ZZ.DP h2 ∅ [u,v]:=(sb.2 _ as).trans a5;have a0:Bs X.prog X.w (upd H ∅ (.tup [x,y])) h2 ∅ (.tup [x,y]):=
   {by show 2<=sizeLine;decide,[u,v],.cons aw (.cons ax .nil),_,az,rq,0,rq}
  have I1:=I.Pa (h':=h2) (t':=s.toks) (QcA _) (λc q hc e=>(sb.2 c (λw=>hc (by simp[w]))).trans (a7 c q (λw=>hc (by simp[w])) (λw=>hc (by simp[w])) (λw=>hc (by simp only[Qch,Qcx,Qcg,QbB,QcK] at w;rcases w with w | w <;> simp[w])) e)) hf a0;have zA:∀{it l:Addr} {ap:Array Value},l≠z->l≠TO->l≠i1->l≠i2->it≠z->s.heap.IsTuple l ap->ZZ.SrcAt h' ⟨it,l,ap⟩ (i+1)->h2.IsTupleIter it l (i+1):=λm1 m2 m3 m4 m5 hl q=>by
   rcases q with⟨_,q2⟩|⟨q1,_⟩
   .obtain⟨o,e,r⟩:=hl;exact (La q2 ⟨o,a7 _ o m1 m2 (by simp[m3,m4]) e,r⟩).elim
   .exact q1.at λo e=>(sb.2 _ m5).trans e
  refine{.ref ∅,_,I1,rq,{∅,x,y,I.hok.fresh (QcA _),rq,rq,λa8 ag=>by (rw[aa] at ag;cases ag;exact hx),λa8 ag=>by (rw[ab] at ag;cases ag;exact hy)},{⟨_,ay⟩,(sb.2 _ (Ne.symm n1)).trans a2,{[u,v],(sb.2 _ (Ne.symm n2)).trans a3,rq},?_,?_},λc hc=>?_}
  .exact zA (D.a ⟨i1,a,J.toArray⟩ 04).1 (D.a ⟨i1,a,J.toArray⟩ 04).2 (D.ai ⟨i1,a,J.toArray⟩ 04 ⟨i1,a,J.toArray⟩ 04) (D.ai ⟨i1,a,J.toArray⟩ 04 ⟨i2,b,N.toArray⟩ 04) (Ne.symm n3) p1 (a4 _ 04)
  .exact zA (D.a ⟨i2,b,N.toArray⟩ 04).1 (D.a ⟨i2,b,N.toArray⟩ 04).2 (D.ai ⟨i2,b,N.toArray⟩ 04 ⟨i1,a,J.toArray⟩ 04) (D.ai ⟨i2,b,N.toArray⟩ 04 ⟨i2,b,N.toArray⟩ 04) (Ne.symm n4) p2 (a4 _ 04)
  .have a9:c≠∅:=by
    have au:∃o,s.heap.get? c=some o:=by
     simp only[Qcg,QbB,QcK] at hc;rcases hc with rfl | rfl | rfl | rfl | rfl
     .exact⟨_,G⟩
     .exact⟨_,O⟩
     .exact⟨_,Y⟩
     .obtain⟨o,e,_⟩:=ae;exact⟨o,e⟩
     .obtain⟨o,e,_⟩:=af;exact⟨o,e⟩
    obtain⟨o,e⟩:=au;exact Qcr (Qcp e)
   rw[Ao a9];exact (hf c hc).1
 done:=by
  intro X hP hw hK hc i jb s U H E I hf st hg;subst hP hw hK;obtain⟨xs,ys,aa,ab,av⟩:=hg;obtain⟨J,ru,p1,z1⟩:=I.tuple (SqT.of aa);obtain⟨N,ah,p2,z2⟩:=I.tuple (SqT.of ab);obtain⟨⟨f1,G⟩,O,⟨olds,Y,lo⟩,ae,af⟩:=st;simp only[QbQ,Qcg,QbB,QcK,not_or,Qcc,not_false_eq_true,and_true] at nd;obtain⟨⟨n1,n2,n3,n4⟩,⟨n5,n6,n7⟩,⟨n8,n9⟩,al⟩:=nd;have D:ZZ.Apart z TI TO [⟨i1,a,J.toArray⟩,⟨i2,b,N.toArray⟩]:=by
   obtain⟨oa,ea,ca,_⟩:=id p1;obtain⟨ob,eb,cb,_⟩:=id p2;obtain⟨o1,e1,c1,_⟩:=id ae;obtain⟨o2,e2,c2,_⟩:=id af;have am:a≠TO:=λq=>by
    have:=(hf TO 04).1;rw[<-q,aa] at this;cases this
   have an:b≠TO:=λq=>by
    have:=(hf TO 04).1;rw[<-q,ab] at this;cases this
   have t1:Value.type "tuple"≠Value.type "zip":=λq=>absurd (by injection q) (show ¬("tuple"="zip") by decide);have t2:Value.type "tuple"≠Value.type "tuple_iterator":=λq=>absurd (by injection q) (show ¬("tuple"="tuple_iterator") by decide);refine{Ne.symm n1,Ne.symm n2,n5,λq j=>?_,λq j=>?_,λq j r hr=>?_,?_}
   .simp only[Qcg,QbB,QcK] at j;rcases j with rfl | rfl
    .exact{Ne.symm n3,Ne.symm n6,Ne.symm n8}
    .exact{Ne.symm n4,Ne.symm n7,Ne.symm n9}
   .simp only[Qcg,QbB,QcK] at j;rcases j with rfl | rfl
    .exact{Hw ea G (by rw[ca];exact t1),am}
    .exact{Hw eb G (by rw[cb];exact t1),an}
   .simp only[Qcg,QbB,QcK] at j hr;rcases j with rfl | rfl <;> rcases hr with rfl | rfl
    .exact Hw ea e1 (by rw[ca,c1];exact t2)
    .exact Hw ea e2 (by rw[ca,c2];exact t2)
    .exact Hw eb e1 (by rw[cb,c1];exact t2)
    .exact Hw eb e2 (by rw[cb,c2];exact t2)
   .simp[al]
  have ao:∀q∈([⟨i1,a,J.toArray⟩,⟨i2,b,N.toArray⟩]:List ZZ.Src),ZZ.SrcAt s.heap q i:=λq j=>by
   simp only[Qcg,QbB,QcK] at j;rcases j with rfl | rfl
   .exact .inr ⟨ae,p1⟩
   .exact .inr ⟨af,p2⟩
  have l1:=ru.length;have l2:=ah.length;refine ZZ.Ym G (R:=λh'=>ZZ.Rest z TO [⟨i1,a,J.toArray⟩,⟨i2,b,N.toArray⟩] s.heap h') (ZZ.aQ (I.ok.hd hc) D G O Y ao 04 lo (by show 2<=100;decide) ?_ λh' e r st=>⟨h',e,rfl,rfl,r,st⟩) λh' r=>⟨rfl,I.Nu (h':=h') (t':=s.toks) (λc q hc e=>r c q (λw=>hc (by simp[w])) (λw=>hc (by simp[w])) (λw=>hc (by simp only[Qch,Qcx,Qcg,QbB,QcK] at w;rcases w with w | w <;> simp[w])) e) hf⟩;rcases av with h | h
  .exact{_,QaW ..,by simp;lia}
  .exact{_,QaI _ (QaW ..),by simp;lia}
 self:=λ_ _ _ _ _ st h=>ZZ.WD st.1.choose_spec h
def D4(K:YD)(ta:TA):TI:=fun U H R=>ta U H λvs H1=>∃a b,vs=[.ref a,.ref b]/\(∃xs,H1 a=some (.tup xs))/\(∃ys,H1 b=some (.tup ys))/\R (o8 K a b) H1
section
variable{X:Cx}
theorem vm{a b:Expr}{ta:TA}{p pos tp:Pos}{af:YJ}{k:Nat}(hg:Gl X "zip")(hm:X.mg "zip"=none)(ha:PA X [a,b] ta)
  (hs:starEach [a,b] X.env=[(false,eval a X.env),(false,eval b X.env)]:=by rfl) (aa:starEach [b] X.env=[(false,eval b X.env)]:=by rfl):PI X (.Tuple af k tp) (.Call (.Name "zip" p) [a,b] [] pos) (D4 X.K ta):=by
 intros R ae h;refine Call_ (Jp ae hg hm (u:=.type "zip") (by trivial) (Qae (thn (ha pos jb s U H _ ae h) λG I ⟨vs,H1,j,r1,q1⟩=>?_) (by rw[hs,aa]) (by rw[aa];rfl)));obtain⟨a,b,e,⟨xs,hx⟩,⟨ys,hy⟩,ai⟩:=q1;subst e;cases r1 with
 | cons r J=>
  cases J with
  | cons r' J=>
   cases J;cases r;cases r';obtain⟨G,ru,k1,z1⟩:=j.tuple (SqT.of hx);obtain⟨N,al,k2,z2⟩:=j.tuple (SqT.of hy);refine ZZ.sW (c1:="tuple_iterator") (c2:="tuple_iterator") (.inr ⟨rq,k1⟩) (.inr ⟨rq,k2⟩) λh' z TI TO i1 i2 f=>?_;refine ZZ.WD (s:={ I with heap:=h' }) f.hz ?_;have nd:[z,TI,TO,i1,i2].Nodup:=by
    have O:=f.ap.it ⟨i1,a,G.toArray⟩ 04;have Y:=f.ap.it ⟨i2,b,N.toArray⟩ 04;have a3:i1≠i2:=by
     have:=f.ap.nd;simpa using this
    simp only[QbQ,Qcg,QbB,QcK,not_or,Qcc,not_false_eq_true,and_true];exact{{Ne.symm f.ap.TIz,Ne.symm f.ap.TOz,Ne.symm O.1,Ne.symm Y.1},⟨f.ap.TITO,Ne.symm O.2.1,Ne.symm Y.2.1⟩,{Ne.symm O.2.2,Ne.symm Y.2.2},a3}
   have ag:h'.IsTupleIter i1 a 0:=by
    rcases f.at_ ⟨i1,a,G.toArray⟩ 04 with⟨_,x2⟩|⟨x1,_⟩
    .obtain⟨o,e,r⟩:=id k1;exact (La x2 ⟨o,f.keep _ o e,r⟩).elim
    .exact x1
   have ah:h'.IsTupleIter i2 b 0:=by
    rcases f.at_ ⟨i2,b,N.toArray⟩ 04 with⟨_,x2⟩|⟨x1,_⟩
    .obtain⟨o,e,r⟩:=id k2;exact (La x2 ⟨o,f.keep _ o e,r⟩).elim
    .exact x1
   refine⟨z,[z,TI,TO,i1,i2],_,_,H1,rq,j.kept (t':=I.toks) λc o e=>f.keep c o e,lG a b z TI TO i1 i2 nd,{⟨_,f.hz⟩,f.hTI,⟨_,f.hTO,rq⟩,ag,ah},λc hc=>?_,ai⟩;have q:=f.new;have ab:I.heap.objs.size<=c:=by
    simp only[Qcg,QbB,QcK] at hc;rcases hc with rfl | rfl | rfl | rfl | rfl
    .exact q.1
    .exact q.2.1
    .exact q.2.2.1
    .exact q.2.2.2 ⟨c,a,G.toArray⟩ 04
    .exact q.2.2.2 ⟨c,b,N.toArray⟩ 04
   exact j.QD ab (j.hok.fresh ab)
end
theorem oV{K:YD}{a b l:Addr}{xs ys:YG}{g:TG}{tt:TT}{te:TE}{Q:VK}{G:St}{I:Hp}(n:Nat)(hx:n<=xs.length)(hy:n<=ys.length)(hn:xs.length<=n\/ys.length<=n)(Pv:YN)
  (h0:Pv 0 G I) (hl:∀i U H',i<=n->Pv i U H'->H' a=some (.tup xs)/\H' b=some (.tup ys))
  (hs:∀i x y p U H',xs[i]?=some x->ys[i]?=some y->Pv i U H'->H' p=none->g (.ref p) U (upd H' p (.tup [x,y])) fun j J=>tt j J λb N=>if b=true then te j N λy O=>∃ys,O l=some (.lst ys)/\ys.length < sizeLine/\Pv (i+1) j (upd O l (.lst (ys++[y]))) else Pv (i+1) j N)
  (hd:∀ U H',Pv n U H'->Q (.ref l) H'):Gu (o8 K a b) g tt te Q G I l:=by
 unfold Gu;refine{λi m U H'=>m=n - i/\i<=n/\Pv i U H',⟨n,by simp,QcB _,h0⟩,?_};rintro i m U H' ⟨rfl,hi,p⟩;obtain⟨q,z⟩:=hl i U H' hi p;by_cases ab:i < n
 .have Y:i < xs.length:=by lia
  have aa:i < ys.length:=by lia
  refine .inr {⟨xs,ys,xs[i],ys[i],q,z,Qam Y,Qam aa⟩,Pv (i+1),fun j J p'=>{n - (i+1),by lia,rq,ab,p'},λv H2 y=>?_};obtain⟨pp,x',y',hp,rfl,rfl,e1,e2⟩:=y;exact hs i x' y' pp U _ (e1 xs q) (e2 ys z) p hp
 .exact .inl ⟨⟨xs,ys,q,z,by lia⟩,by
   have:i=n:=by lia
   subst this;exact hd _ _ p⟩
section
variable{X:Cx}
def IG(ta tb:TE):TE:=fun U H Q=>ta U H λx H1=>x=.non/\tb U H1 Q
theorem cW{a b:Expr}{rest:YJ}{pos:Pos}{ta tb:TE}(j:PE X a ta)(q:PE X (.BoolOp .Or (b::rest) pos) tb):PE X (.BoolOp .Or (a::b::rest) pos) (IG ta tb):=by
 intros Q I h;refine BoolOp_or (thn (j jb s U H _ I h) λv z zz=>?_);obtain⟨x,H1,G,J,e,N⟩:=zz;subst e;cases J;exact truthy_none (q jb z U H1 Q G N)
end
theorem oU{X:Cx}{jb:YC}{U : St}{H:Hp}{s:Shared}{A:Around}{E:YA}{a b:Addr}{kvs:YL}{k:List Key}{v:V}{u r:Value}{Q:YH}(Y:A.units < cLine)(I:H^^^s)(e:H a=some (.dT kvs))(G:H b=some (.tup (k.map kV)))(l:kvs.length < sizeLine)(ry:RelV (.ref b) u)(rv:RelV v r)
  (h:∀s',Inv X jb U (upd H a (.dT (putK kvs k v))) s'->Q () s'):wpAny (model X.prog X.w) A (dictSet a u r) Q E s:=by
 cases (show u=Value.ref b from ry)
 obtain⟨z,hd,xs,j,dd⟩:=zq I.hok e;have hz:xs.length<=sizeLine:=by rw[<-Qcf j];exact z
 have hl:(putK kvs k v).length<=sizeLine:=by have:=Lp kvs k v;lia
 refine wpAny_dictSet_heap (hsz:=hz) Y (KD I.hok G) dd λh' O hs=>h _ ?_;obtain⟨q,es,ep,J,h2,h3,h4,_,h5⟩:=O;refine UL I (by rw[e];exact True.intro) hs ⟨q,J⟩ ⟨hl,hd,_,(j.put k G rv).keeps λc ys N=>?_,q,es,ep,J,h2,h3,h4,h5⟩;rw[Ao (yV N e (λz=>nomatch z))];exact N
@[irreducible] def QX(J:It)(g:TG)(tt:TT)(tk tv:TE)(Q:VK)(Y:St)(H0:Hp)(l:Addr):Prop:=∃W:Nat->YN,(∃m,W 0 m Y H0) /\
 ∀i m G H',W i m G H'->(J.stop i H'/\Q (.ref l) H')\/(J.go i H'/\∃N:YO,(∀ j q,N j q->∃I,I < m/\W (i+1) I j q)/\∀x H2,J.yld i H' x H2->g x G H2 fun j q=>tt j q λb O=>
  if b=true then tk j O λy H5=>tv j H5 λaa z=>∃(kvs:YL) (k:List Key) (b:Addr),z l=some (.dT kvs)/\y=.ref b/\z b=some (.tup (k.map kV))/\kvs.length < sizeLine/\N j (upd z l (.dT (putK kvs k aa))) else N j O)
def jB(j:TI)(src:List (Option Nat))(g:TG)(tt:TT)(tk tv:TE):TE:=fun U H Q=>j U H λJ H1=>∀l,H1 l=none->QX J g tt tk tv Q (Kf src U) (upd H1 l (.dT [])) l
theorem jf{X:Cx}{N':YF}{src:List (Option Nat)}{sc:Scope}{kx vx tg iter:Expr}{ifs:YJ}{pos pos':Pos}{wi:TI}{g:TG}{tt:TT}{tk tv:TE}{use:Option (Value->Sem Unit)}{R:YA}(hu:X.A.units+1 < cLine)(hc:X.calm=true)(S:Bj X N' src sc)
  (hi:PI X tg iter wi) (hg:∀s3 z fp pn,PG (cxC X N' sc s3 z fp pn) tg g) (ht:∀s3 z fp pn,PF (cxC X N' sc s3 z fp pn) ifs tt) (hk:∀s3 z fp pn,PE (cxC X N' sc s3 z fp pn) kx tk) (hv:∀s3 z fp pn,PE (cxC X N' sc s3 z fp pn) vx tv)
  (hs:∀x,foldedSetIterable iter X.env x=pure x) {jb:YC} {s:Shared} {U : St} {H:Hp} {Q:VK} (ap:H^^^s) (h:jB wi src g tt tk tv U H Q)
  (au:∀s3 z fp I J s5 l,z^^^s3->(∀b∈fp,G8 X jb z b)->Inv (cxC X N' sc s3 z fp (X.pn++jb)) [] I J s5->Q (.ref l) J ->
   compPost (model X.prog X.w) X.A X.xe use R (.ref l) s3.heap.objs.size (.ok .next) s5) :
  ‹X› (comprehension (.DictComp kx vx [⟨tg,iter,ifs,0⟩] sc pos) sc X.env pos' newDict false (eval iter X.env) use) R X.xe s:=by
 refine wpAny_comprehension_free (use:=use) (cl:=Fv X.env sc.names []) rfl hs (Rv λp hp e=>ap.ok.has p.1 (S.fv p hp e)) S.kind S.loc ?_;refine thn (hi jb s U H _ ap h) λv s1 h1=>thn h1 λa6 j h2=>?_;obtain⟨it,fp,tn,ba,H2,rfl,I2,T,ah,f2,a4⟩:=h2;have q':=a4 j.heap.objs.size (I2.hok.fresh (QcA _));unfold QX at q';obtain⟨W,⟨m0,w0⟩,as⟩:=q';refine Qbp (wpAny_newFunctionEnv S.G3 (by intro y hy;simp at hy) (λha av aw=>?_) S.kind);have I3:Inv X jb U (upd H2 j.heap.objs.size (.dT [])) { j with heap:=j.heap.push { cls:=.type "dict",data:=.dict #[] } }:=
  I2.laid (t':=j.toks) (λb u e=>Qax _ e) (QcA _) (fU j.heap I2.big)
 have ai:∀b∈fp,b < j.heap.objs.size:=λb q=>by
  obtain⟨o,e,_⟩:=T.obj 0 _ ah b q;exact Qcp e
 have f3:∀b∈fp,G8 X jb (upd H2 j.heap.objs.size (.dT [])) b:=λb q=>{by rw[Ao (Qcr (ai b q))];exact (f2 b q).1,(f2 b q).2};generalize al:({ j with heap:=j.heap.push { cls:=.type "dict",data:=.dict #[] } }:Shared)=s3 at *;have ax:j.heap.objs.size < s3.heap.objs.size:=by rw[<-al];show j.heap.objs.size < (j.heap.push _).objs.size;rw[Qcb];exact QbE _
 have kp:∀b o,s3.heap.get? b=some o->ha.get? b=some o:=λb o e=>aw.extBut b o (Qcr (Qcp e)) (Qax _ e);have am:tn 0 ha:=T.keep 0 _ _ ah λb q o e=>kp b o (by rw[<-al];exact Qax _ e);have I4:Inv (cxC X N' sc s3 (upd H2 j.heap.objs.size (.dT [])) fp (X.pn++jb)) [] (Kf src U) (upd H2 j.heap.objs.size (.dT [])) { s3 with heap:=ha,toks:=s3.toks+([]:List (Str×Value)).length }:=
  V7 S I3 f3 (λb q=>Nat.lt_trans (ai b q) ax) av kp
 have af:codeAny (model X.prog X.w) X.A (.compLoop (.DictComp kx vx [⟨tg,iter,ifs,0⟩] sc pos) 0 (.ref it) (.ref j.heap.objs.size) (compEnvC sc (Fv X.env sc.names []) s3.heap.objs.size X.env))
   (compPost (model X.prog X.w) X.A X.xe use R (.ref j.heap.objs.size) s3.heap.objs.size) { s3 with heap:=ha,toks:=s3.toks+([]:List (Str×Value)).length }:=by
  refine Xn (λn s'=>∃i Y H',Inv (cxC X N' sc s3 (upd H2 j.heap.objs.size (.dT [])) fp (X.pn++jb)) [] Y H' s'/\tn i s'.heap/\(∀b∈fp,H' b=none)/\W i n Y H') ?_ m0 {0,_,_,I4,am,λb q=>(f3 b q).1,w0};rintro n s4 ⟨i,I,J,J4,an,ao,w4⟩;have aa:∀{H':Hp},(∀b∈fp,H' b=none)->∀b∈fp,G8 (cxC X N' sc s3 (upd H2 j.heap.objs.size (.dT [])) fp (X.pn++jb)) [] H' b:=λhn b q=>
   {hn b q,(I4.ok.exf b q).1,I4.ok.Lf b q,.inl q,λx c e=>(I4.ok.exf b q).2 x c e,λp hp=>(f3 b q).2.2.2.2.2 p ((QbK.mp hp).elim id λar=>by cases ar)}
  rcases as i n I J w4 with⟨stop,qn⟩|⟨go,a5,hN,step⟩
  .refine thn (T.done (cxC X N' sc s3 (upd H2 j.heap.objs.size (.dT [])) fp (X.pn++jb)) rfl rfl rfl hc i [] s4 I J _ J4 (aa ao) an stop) λr s5 zz=>?_;obtain⟨hr,J5⟩:=zz;subst hr;exact au s3 _ fp I J s5 _ I3 f3 J5 qn
  .refine thn (T.item (cxC X N' sc s3 (upd H2 j.heap.objs.size (.dT [])) fp (X.pn++jb)) rfl rfl rfl hc i [] s4 I J _ J4 (aa ao) an go) λr s5 zz=>?_;obtain⟨u,hr,h5⟩:=zz;subst hr;refine thn h5 λ_ s6 zz=>?_;obtain⟨x,H6,J6,r6,y6,ab,ay⟩:=zz;have az:=J6.pinned (aa ay) (T.obj _ _ ab);have ag:∀{pl:YC} {G:St} {N:Hp} {O:Shared},Inv (cxC X N' sc s3 (upd H2 j.heap.objs.size (.dT [])) fp (X.pn++jb)) ([]++Om fp s6.heap) G N O->a5 G N ->
     ∃m',m' < n/\∃i Y H',Inv (cxC X N' sc s3 (upd H2 j.heap.objs.size (.dT [])) fp (X.pn++jb)) [] Y H' O/\tn i O.heap/\(∀b∈fp,H' b=none)/\W i m' Y H':=λ{pl G N O} J7 w7=>by
    obtain⟨m',hm,w7⟩:=hN _ _ w7;have ae:∀b∈fp,∀o,s6.heap.get? b=some o->O.heap.get? b=some o/\N b=none:=λb q o e=>by
     have:=J7.pin (b,o) (QaC _ (QaC _ (KC q e)));exact⟨this.1,this.2.1⟩
    refine⟨m',hm,i+1,G,N,J7.Im,T.keep _ _ _ ab λb q o e=>(ae b q o e).1,λb q=>?_,w7⟩;obtain⟨o,e,_⟩:=T.obj _ _ ab b q;exact (ae b q o e).2
   refine thn (hg s3 _ fp _ _ s6 I H6 x u _ az r6 (step x H6 y6)) λ_ O zz=>?_;obtain⟨G,N,J7,q7⟩:=zz;refine thn (ht s3 _ fp _ _ O G N _ J7 q7) λok s8 zz=>?_;obtain⟨H8,J8,q8⟩:=zz;cases ok with
   | false=>
    rw[if_neg QaX] at q8 ⊢;exact ag (pl:=[]) J8 q8
   | true=>
    rw[if_pos rfl] at q8 ⊢;refine thn (hk s3 _ fp _ _ s8 G H8 _ J8 q8) λy s9 zz=>?_;obtain⟨yv,H9,J9,r9,q9⟩:=zz;refine thn (hv s3 _ fp _ _ s9 G H9 _ J9 q9) λar a7 zz=>?_;obtain⟨zv,a8,a0,a1,kvs,k,bb,hl,ey,eb,hz,a2⟩:=zz;subst ey;refine oU (X:=cxC X N' sc s3 (upd H2 j.heap.objs.size (.dT [])) fp (X.pn++jb)) (show X.A.units < cLine by lia) a0 hl eb hz r9 a1 λa9 a3=>?_;exact ag (pl:=[]) a3 a2
 exact codeAny_compStart_dict af (T.self X.A 0 _ _ _ am af)
theorem G9{X:Cx}{N':YF}{src:List (Option Nat)}{sc:Scope}{q z tg iter:Expr}{ifs:YJ}{pos:Pos}{G:TI}{g:TG}{tt:TT}{tk tv:TE}(J:X.A.units+1 < cLine)(hc:X.calm=true)(S:Bj X N' src sc)
  (hi:PI X tg iter G) (N:∀s3 j fp pn,PG (cxC X N' sc s3 j fp pn) tg g) (O:∀s3 j fp pn,PF (cxC X N' sc s3 j fp pn) ifs tt) (Y:∀s3 j fp pn,PE (cxC X N' sc s3 j fp pn) q tk) (hv:∀s3 j fp pn,PE (cxC X N' sc s3 j fp pn) z tv)
  (hs:∀x,foldedSetIterable iter X.env x=pure x:=by intro _;rfl):PE X (.DictComp q z [⟨tg,iter,ifs,0⟩] sc pos) (jB G src g tt tk tv):=by
 intros Q aa h;rw[arm_eval_DictComp];refine jf (use:=none) J hc S hi N O Y hv hs aa h λs3 j fp ae H4 s5 l I3 f3 I ab=>?_;obtain⟨m,hn,_⟩:=I.loc;exact⟨m,hn,λh' sb=>{.ref l,H4,Tr I3 f3 I sb,rq,ab}⟩
section
variable{a l:Addr}{g:TG}{tt:TT}{tk tv:TE}{Q:VK}
theorem je{K:YD}{xs:YG}{z:St}{I:Hp}(Pv:YN)(Y:Pv 0 z I)(hl:∀i U H',i<=xs.length->Pv i U H'->SqL K H' a xs)
  (hs:∀i x U H',xs[i]?=some x->Pv i U H'->g x U H' fun j J=>tt j J λb N=>if b=true then tk j N λy H5=>tv j H5 λaa O=>∃(kvs:YM) (k:Key),O l=some (.dK kvs)/\y=kV k/\kvs.length < sizeLine/\Pv (i+1) j (upd O l (.dK (putK kvs k aa))) else Pv (i+1) j N)
  (hd:∀ U H',Pv xs.length U H'->Q (.ref l) H'):U5 (Itl K a) g tt tk tv Q z I l:=by
 unfold U5;refine{λi m U H'=>m=xs.length - i/\i<=xs.length/\Pv i U H',⟨xs.length,by simp,QcB _,Y⟩,?_};rintro i m U H' ⟨rfl,hi,p⟩;have q:=hl i U H' hi p;by_cases G:i < xs.length
 .refine .inr {⟨xs,xs[i],q,by simp[G]⟩,Pv (i+1),fun j J p'=>{xs.length - (i+1),by lia,rq,G,p'},λx H2 y=>?_};obtain⟨rfl,y⟩:=y;exact hs i x U _ (y xs q) p
 .exact .inl ⟨⟨xs,q,by lia⟩,by
   have:i=xs.length:=by lia
   subst this;exact hd _ _ p⟩
theorem QG{K:YD}{xs:YG}{G:St}{J:Hp}(Pv:YN)(Y:Pv 0 G J)(hl:∀i U H',i<=xs.length->Pv i U H'->SqL K H' a xs)
  (hs:∀i x U H',xs[i]?=some x->Pv i U H'->g x U H' fun j N=>tt j N λb O=>if b=true then tk j O λy H5=>tv j H5 λaa z=>∃(kvs:YL) (k:List Key) (b:Addr),z l=some (.dT kvs)/\y=.ref b/\z b=some (.tup (k.map kV))/\kvs.length < sizeLine/\Pv (i+1) j (upd z l (.dT (putK kvs k aa))) else Pv (i+1) j O)
  (hd:∀ U H',Pv xs.length U H'->Q (.ref l) H'):QX (Itl K a) g tt tk tv Q G J l:=by
 unfold QX;refine{λi m U H'=>m=xs.length - i/\i<=xs.length/\Pv i U H',⟨xs.length,by simp,QcB _,Y⟩,?_};rintro i m U H' ⟨rfl,hi,p⟩;have q:=hl i U H' hi p;by_cases I:i < xs.length
 .refine .inr {⟨xs,xs[i],q,by simp[I]⟩,Pv (i+1),fun j N p'=>{xs.length - (i+1),by lia,rq,I,p'},λx H2 y=>?_};obtain⟨rfl,y⟩:=y;exact hs i x U _ (y xs q) p
 .exact .inl ⟨⟨xs,q,by lia⟩,by
   have:i=xs.length:=by lia
   subst this;exact hd _ _ p⟩
end
def M5(h:Heap)(d:Addr)(es:YK)(ep:Nat):Prop:=∃o,h.get? d=some o/\o.ExactDict/\o.data=.dict es ep
section
variable{prog:Program}{w:World}{A:Around}{E:YA}{s:Shared}
theorem cI{it d:Addr}{i ep:Nat}{es:YK}{j:DictEntry}{Q:Option Value->Shared->Prop}(K:s.heap.IsKeyIter it d i es.size ep)(R:M5 s.heap d es ep)(z:es[i]?=some j)
  (q:∀h',h'.IsKeyIter it d (i+1) es.size ep->Heap.SameBut it s.heap h'->Q (some j.key) { s with heap:=h' }):wpAny 01 A (pyNext (.ref it)) Q E s:=by
 have T:=K.typeIs;obtain⟨Y,O,G,I⟩:=K;obtain⟨od,aa,xd,J⟩:=R;have ab:i < es.size:=(Qaf.mp z).1;obtain⟨MU,GL,GM,DZ⟩:=Y;obtain⟨Y4,UG,UJ,QV⟩:=od;dsimp only at G I J;subst G I J;obtain⟨hp,g,dr,tk,os⟩:=s;unfold pyNext;refine QcG (Qcm (Qas (name:=Str.ofString "__next__") T Qad (QbC Qad T F.entry_dict_keyiterator_next ?_ (F.args_dict_keyiterator_next_1 _))));have e1:typeName (.type "dict_keyiterator")=pure "dict_keyiterator":=by unfold typeName;rw[find?_eq_fast];kernel_rfl
 have e2:=mroOf_keyiter
 wp_walk
 have N:(if (i:Int) < 0 then none else es[((i:Int)).toNat]?)=some j:=by rw[if_neg 00,Qbo];exact z
 simp only[N]
 wp_walk
 refine{_,rq,QcH (q _ {_,QaD _ O ?_,rq,?_} (QaS ..))}
 all_goals first | rfl | trace_state
theorem jN{it d:Addr}{i ep:Nat}{es:YK}{Q:Option Value->Shared->Prop}(J:A.handled=none)(K:s.heap.IsKeyIter it d i es.size ep)(R:M5 s.heap d es ep)(N:es[i]?=none)
  (q:∀h',Heap.ExtBut it s.heap h'->Q none { s with heap:=h' }):wpAny 01 A (pyNext (.ref it)) Q E s:=by
 have T:=K.typeIs;obtain⟨O,aa,j,z⟩:=K;obtain⟨Y,ab,xd,G⟩:=R;obtain⟨MU,GL,GM,DZ⟩:=O;obtain⟨Y4,UG,UJ,QV⟩:=Y;dsimp only at j z G;subst j z G;obtain⟨hp,g,dr,tk,os⟩:=s;unfold pyNext;refine QcG (Qcm (Qas (name:=Str.ofString "__next__") T Qad (QbC Qad T F.entry_dict_keyiterator_next ?_ (F.args_dict_keyiterator_next_1 _))));have e1:typeName (.type "dict_keyiterator")=pure "dict_keyiterator":=by unfold typeName;rw[find?_eq_fast];kernel_rfl
 have e2:=mroOf_keyiter;have ae:A.in1.handled=none:=J
 wp_walk
 have I:(if (i:Int) < 0 then none else es[((i:Int)).toNat]?)=none:=by rw[if_neg 00,Qbo];exact N
 simp only[I]
 wp_walk
 unfold raiseNew
 wp_walk
 refine wpAny_of_eq isSubtype_stop ?_
 wp_walk
 exact q _ (((QaS ..).extBut.push _).push _)
theorem cJ{d:Addr}{ep:Nat}{es:YK}{Q:YA}(lo:(d == sysModules)=false)(R:M5 s.heap d es ep)
  (q:Q (.ref ∅) { s with heap:=s.heap.push { cls:=.type "dict_keyiterator",data:=.fields #[.ref d,.int 0 0,.int es.size 0,.int ep 0] } }):wpAny 01 A (pyIter (.ref d)) Q E s:=by
 obtain⟨j,J,z,G⟩:=R;have T:s.TypeIs (.ref d) "dict":=⟨j,J,z.1⟩;obtain⟨N,O,Y,QV⟩:=j;obtain⟨I,x2⟩:=z;dsimp only at G I;subst G I;refine wpAny_pyIter_slot T F.slot_dict_iter (QbC F.slot_dict_iter T F.entry_dict_iter ?_ (F.args_dict_iter_1 _));unfold Builtin.«dict.__iter__»
 wp_walk
 exact{_,rq,"dict_keyiterator",_,{_,QaM _ rfl,rq},Qad.lookup,q}
theorem pY{d:Addr}{ep:Nat}{es:YK}(lo:(d == sysModules)=false) :
  MeetsIn prog w (Builtin.«dict.items» {[.ref d],[]}) (λ_ R s=>M5 s.heap d es ep/\R (.ok (.ret (.ref ∅))) { s with heap:=s.heap.push { cls:=.type "dict_items",data:=.fields #[.ref d] } }):=
 .of_wp λA R s ⟨J,h⟩=>by
  obtain⟨j,I,q,z⟩:=J;have T:s.TypeIs (.ref d) "dict":=⟨j,I,q.1⟩;obtain⟨N,O,Y,QV⟩:=j;obtain⟨G,x2⟩:=q;dsimp only at z G;subst z G;unfold Builtin.«dict.items»
  wp_walk
  exact⟨_,rq,h⟩
theorem Yl{v d:Addr}{es:YK}{ep:Nat}{Q:YA}(G:s.heap.IsItemsView v d)(R:M5 s.heap d es ep)
  (q:Q (.ref ∅) { s with heap:=s.heap.push { cls:=.type "dict_itemiterator",data:=.fields #[.none,.bool false,.ref d,.int 0 0,.int es.size 0,.int ep 0,.none,.none] } }) :
  wpAny 01 A (pyIter (.ref v)) Q E s:=by
 have T:=G.typeIs;obtain⟨N,Y,j,z⟩:=G;obtain⟨O,aa,xd,I⟩:=R;obtain⟨SS,SL,SO,SI⟩:=N;obtain⟨Y4,UG,UJ,QV⟩:=O;dsimp only at j z I;subst j z I;refine wpAny_pyIter_slot T F.slot_dict_items_iter (QbC F.slot_dict_items_iter T F.entry_dict_items_iter ?_ (F.args_dict_items_iter_1 _));unfold Builtin.«dict_items.__iter__»
 wp_walk
 have J:Builtin.Dict_items.ownsTuple "dict_itemiterator"=true:=by decide
 refine{_,rq,"dict_itemiterator",_,{_,QaM _ rfl,rq},Qac.lookup,?_};simpa [rawInt,J,Builtin.Dict_items.ownedTupleFields] using q
theorem uY{it d:Addr}{i ep:Nat}{es:YK}{j:DictEntry}{J N:Value}{Q:Option Value->Shared->Prop}(K:IsItemIter s.heap it d i es.size ep J N)(R:M5 s.heap d es ep)(hx:es[i]?=some j)
  (q:∀h',IsItemIterOut h' it d (i+1) es.size ep j.key j.val ∅->h'.get? ∅=some { cls:=.type "tuple",data:=.seq #[j.key,j.val] }->(∀b o,b≠it->s.heap.get? b=some o->h'.get? b=some o)->Q (some (.ref ∅)) { s with heap:=h' }) :
  wpAny 01 A (pyNext (.ref it)) Q E s:=by
 have G:s.TypeIs (.ref it) "dict_itemiterator":=⟨_,K,rq⟩;obtain⟨od,ag,xd,dd⟩:=R;have ah:i < es.size:=(Qaf.mp hx).1;obtain⟨Y4,UG,UJ,QV⟩:=od;dsimp only at dd;subst dd;obtain⟨I,g,dr,tk,os⟩:=s;unfold pyNext;refine QcG (Qcm (Qas (name:=Str.ofString "__next__") G Qac (QbC Qac G F.entry_dict_itemiterator_next ?_ (F.args_dict_itemiterator_next_1 _))));have e1:typeName (.type "dict_itemiterator")=pure "dict_itemiterator":=by unfold typeName;rw[find?_eq_fast];kernel_rfl
 have e2:=mroOf_itemiter
 wp_walk
 have ab:(if (i:Int) < 0 then none else es[((i:Int)).toNat]?)=some j:=by rw[if_neg 00,Qbo];exact hx
 simp only[ab];have ae:Builtin.Dict_items.ownsTuple "dict_itemiterator"=true:=by decide
 refine QcG ?_
 first | refine QcG (wpAny_typeNameOfWhole_itemiter G (QcH ?_)) | refine QcG (wpAny_typeNameOf_itemiter G (QcH ?_))
 refine QcG (wpAny_isOneOf_itemiter G ?_);simp only[ae,if_true];show wpAny _ _ (setField (.ref it) 3 (rawInt ((i:Int)+1)) >>= _) _ _ _;refine QcG (Qbf K 04 λh1 O Y=>?_);have Y:Heap.SameBut it I h1:=Y;have O:IsItemIter h1 it d (i+1) es.size ep J N:=by
  have e:((i+1:Nat):Int)=(i:Int)+1:=by lia
  unfold IsItemIter;rw[e];simpa [rawInt] using O
 have aa:Shared.TypeIs ⟨h1,g,dr,tk,os⟩ (.ref it) "dict_itemiterator":=⟨_,O,rq⟩;refine QcG (Qck (QcG (wpAny_isOneOf_itemiter aa (QcG (wpAny_isOneOf_itemiter aa ?_)))));show wpAny _ _ (Builtin.Dict_items.pairFromOwner (.ref it) 6 j.key j.val) _ _ ⟨h1,g,dr,tk,os⟩;unfold Builtin.Dict_items.pairFromOwner;refine QcG (wpAny_newTuple ?_);have k2:IsItemIter (h1.push { cls:=.type "tuple",data:=.seq #[j.key,j.val] }) it d (i+1) es.size ep J N:=Qax _ O;have z1:h1.objs.size=I.objs.size:=Y.1;have n1:(h1.push { cls:=.type "tuple",data:=.seq #[j.key,j.val] }).get? I.objs.size=some { cls:=.type "tuple",data:=.seq #[j.key,j.val] }:=by rw[<-z1];exact QaM _ rfl
 have p1:∀b o,b≠it->I.get? b=some o->(h1.push { cls:=.type "tuple",data:=.seq #[j.key,j.val] }).get? b=some o:=λb o z e=>Qax _ (Y.extBut b o z e);have af:I.objs.size≠it:=Qcv (Qcp K);rw[z1];show wpAny _ _ (Builtin.Dict_items.ownedTupleIsFree (.ref it) >>= _) _ _ {h1.push { cls:=.type "tuple",data:=.seq #[j.key,j.val] },g,dr,tk,os};generalize h1.push { cls:=.type "tuple",data:=.seq #[j.key,j.val] }=h2 at k2 n1 p1;refine QcG ?_;unfold Builtin.Dict_items.ownedTupleIsFree;refine QcG (QcD k2 rfl (x:=.none) rfl (QcH ?_));simp only[if_true];refine QcG (QcD k2 rfl (x:=J) rfl ?_);refine QcG (QcD k2 rfl (x:=N) rfl ?_);refine QcG (Qbf k2 04 λh3 k3 s3=>?_);refine QcG (Qbf k3 04 λh4 k4 s4=>?_);refine QcG (Qbf k4 04 λh5 k5 s5=>?_);refine QcG (Qbf k5 04 λh6 k6 s6=>?_);have f:∀b o,b≠it->h2.get? b=some o->h6.get? b=some o:=λb o z e=>s6.extBut b o z (s5.extBut b o z (s4.extBut b o z (s3.extBut b o z e)));exact QcG (wpAny_letGo (QcH (QcH {_,rq,QcH (q h6 k6 (f _ _ af n1) λb o z e=>f b o z (p1 b o z e))})))
theorem cL{it d:Addr}{i ep:Nat}{es:YK}{I J:Value}{Q:Option Value->Shared->Prop}(N:A.handled=none)(K:IsItemIter s.heap it d i es.size ep I J)(R:M5 s.heap d es ep)(O:es[i]?=none)
  (q:∀h',Heap.ExtBut it s.heap h'->Q none { s with heap:=h' }):wpAny 01 A (pyNext (.ref it)) Q E s:=by
 have j:s.TypeIs (.ref it) "dict_itemiterator":=⟨_,K,rq⟩;obtain⟨Y,aa,xd,z⟩:=R;obtain⟨Y4,UG,UJ,QV⟩:=Y;dsimp only at z;subst z;obtain⟨hp,g,dr,tk,os⟩:=s;unfold pyNext;refine QcG (Qcm (Qas (name:=Str.ofString "__next__") j Qac (QbC Qac j F.entry_dict_itemiterator_next ?_ (F.args_dict_itemiterator_next_1 _))));have e1:typeName (.type "dict_itemiterator")=pure "dict_itemiterator":=by unfold typeName;rw[find?_eq_fast];kernel_rfl
 have e2:=mroOf_itemiter;have ab:A.in1.handled=none:=N
 wp_walk
 have G:(if (i:Int) < 0 then none else es[((i:Int)).toNat]?)=none:=by rw[if_neg 00,Qbo];exact O
 simp only[G]
 wp_walk
 unfold raiseNew
 wp_walk
 refine wpAny_of_eq isSubtype_stop ?_
 wp_walk
 exact q _ (((QaS ..).extBut.push _).push _)
end
section
variable{X:Cx}{jb:YC}{U : St}{H:Hp}{s:Shared}{a:Addr}{kvs:YL}{o:Obj}
theorem Inv.j8(I:H^^^s)(e:H a=some (.dT kvs)):∃o,s.heap.get? a=some o/\Inv X jb U (upd H a (.frz o (.dT kvs))) s:=by
 obtain⟨o,J⟩:=(I.hok a _ e).there;have n0:∀b,H b=none->b≠a:=λb n z=>by rw[z,e] at n;cases n
 have j:∀b u,H b=some u->u≠.dT kvs->b≠a:=λb u q N z=>by rw[z,e] at q;exact N (QbP q).symm
 refine⟨o,J,I.step (h':=s.heap) (g':=s.gens) (d':=s.drawn) (t':=s.toks) (ch:=[]) (λb G=>absurd G 04) (λb u _ _ _ q _=>q) (λb u _ _ _ q _=>⟨u.slots,q⟩) (λb u _ q n=>by rw[Ao (n0 b n)];exact n)
  (λb u _ q=>⟨u,q⟩) (λb xs q=>by rw[Ao (j b _ q (by intro z;cases z))];exact q) (λb u v q=>by rw[Ao (j b _ q (by intro z;cases z))];exact q)
  (λb ps q=>{#[],by rw[Ao (j b _ q (by intro z;cases z)),q];simp}) (λm O=>O) (λb u q=>?_) I.bare⟩
 have st:∀b u,Bs X.prog X.w H s.heap b u->Bs X.prog X.w (upd H a (.frz o (.dT kvs))) s.heap b u:=λb u x=>
  x.stay (λ_ _ _ q=>q) (λc q=>by rw[Ao (j c _ q (by intro z;cases z))];exact q) λc xs q=>by rw[Ao (j c _ q (by intro z;cases z))];exact q
 by_cases G:b=a
 .subst G;rw[Ab] at q;cases q;exact⟨J,st _ _ (I.hok _ _ e)⟩
 .rw[Ao G] at q;exact st _ _ (I.hok b u q)
theorem Inv.Q6(I:H^^^s)(e:H a=some (.frz o (.dT kvs)))(N:∀o' u,X.H₀ a≠some (.frz o' u)):Inv X jb U (upd H a (.dT kvs)) s:=by
 have n0:∀b,H b=none->b≠a:=λb n z=>by rw[z,e] at n;cases n
 have j:∀b u,H b=some u->u≠.frz o (.dT kvs)->b≠a:=λb u q O z=>by rw[z,e] at q;exact O (QbP q).symm
 refine⟨I.ok,I.os,I.bare,⟨I.base.keep,I.base.slot,λb u q n G=>?_,I.base.there,λb xs q=>?_,λb u v q=>?_,λb ps q=>?_⟩,I.loc,I.cell,?_,λx c q=>?_,λp Y=>?_,λb u q=>?_,I.len⟩
 .rw[Ao (n0 b (I.base.free b u q n G))];exact I.base.free b u q n G
 .have z:=I.base.tups b xs q;rw[Ao (j b _ z (by intro w;cases w))];exact z
 .have z:=I.base.Ig b u v q;have nb:b≠a:=λw=>N u v (by rw[<-w];exact q);rw[Ao nb];exact z
 .obtain⟨m,z⟩:=I.base.Jb b ps q;exact⟨m,by rw[Ao (j b _ z (by intro w;cases w))];exact z⟩
 .rw[Ao (n0 _ I.free)];exact I.free
 .rw[Ao (n0 _ (I.FJ x c q))];exact I.FJ x c q
 .obtain⟨p1,p2,p3⟩:=I.pin p Y;exact⟨p1,by rw[Ao (n0 _ p2)];exact p2,p3⟩
 .have st:∀b u,Bs X.prog X.w H s.heap b u->Bs X.prog X.w (upd H a (.dT kvs)) s.heap b u:=λb u x=>
   x.stay (λ_ _ _ q=>q) (λc q=>by rw[Ao (j c _ q (by intro z;cases z))];exact q) λc xs q=>by rw[Ao (j c _ q (by intro z;cases z))];exact q
  by_cases J:b=a
  .subst J;rw[Ab] at q;cases q;exact st _ _ (show Bs X.prog X.w H s.heap b (.frz o (.dT kvs)) from I.hok _ _ e).2
  .rw[Ao J] at q;exact st _ _ (I.hok b u q)
end
def Xq(j H:Hp)(P:Hp->Prop):Prop:=∃a o kvs,H a=some (.frz o (.dT kvs))/\(∀o' u,j a≠some (.frz o' u))/\P (upd H a (.dT kvs))
def Ends.Q6(D:Ends)(j:Hp):Ends where
 nx:=fun U H=>Xq j H (D.nx U)
 rt:=λv H=>Xq j H (D.rt v)
 bk:=fun U H=>Xq j H (D.bk U)
 ct:=fun U H=>Xq j H (D.ct U)
def B4(j:Hp)(t:TS):TS:=λD U H=>t (D.Q6 j) U H
def zN(j:Hp)(t:TE):TE:=fun U H Q=>t U H λv H1=>Xq j H1 (Q v)
theorem vd{X:Cx}{st:Stmt}{t:TS}{N:Hp}(O:X.H₀=N)(h:PS X st t):PS X st (B4 N t):=by
 subst O;intros D I q;refine thn (h jb s U H _ I q) λf Y z=>?_;cases f with
 | next=>obtain⟨j,H',G,a,o,kvs,e,n,J⟩:=z;exact⟨j,_,G.Q6 e n,J⟩
 | brk=>obtain⟨j,H',G,a,o,kvs,e,n,J⟩:=z;exact⟨j,_,G.Q6 e n,J⟩
 | cont=>obtain⟨j,H',G,a,o,kvs,e,n,J⟩:=z;exact⟨j,_,G.Q6 e n,J⟩
 | ret u=>obtain⟨v,j,H',G,r,a,o,kvs,e,n,J⟩:=z;exact⟨v,j,_,G.Q6 e n,r,J⟩
theorem VH{X:Cx}{x:Expr}{t:TE}{j:Hp}(z:X.H₀=j)(h:PE X x t):PE X x (zN j t):=by
 subst z;intros Q I q;refine thn (h jb s U H _ I q) λu N zz=>?_;obtain⟨v,H',G,r,a,o,kvs,e,n,J⟩:=zz;exact⟨v,_,G.Q6 e n,r,J⟩
def o9(a:Addr)(o:Obj)(kvs:YL):It:=
 {λi H=>i < kvs.length/\H a=some (.frz o (.dT kvs)),λi H x H'=>∃p b j,H p=none/\kvs[i]?=some j/\H b=some (.tup (j.1.map kV))/\x=.ref p/\H'=upd H p (.tup [.ref b,j.2]),λi H=>i=kvs.length/\H a=some (.frz o (.dT kvs))}
def KTr(P:Program)(w:World)(H:Hp)(kvs:YL)(es:YK):Prop:=es.size=kvs.length/\∀(i:Nat) (j:List Key×V),kvs[i]?=some j->∃b q,es[i]?=some q/\q.key=.ref b/\H b=some (.tup (j.1.map kV))/\RelV j.2 q.val
theorem Xb{P:Program}{w:World}{H:Hp}{kvs:YL}{xs:List (List Key×Addr×Value)}{es:YK}(r:Paired (λ(p:List Key×V) (q:List Key×Addr×Value)=>p.1=q.1/\H q.2.1=some (.tup (p.1.map kV))/\RelV p.2 q.2.2) kvs xs)(e:es.toList=xs.map (entryOfKey (tupleKind (Bp P w)))):KTr P w H kvs es:=by
 refine{by rw[size_of_entries e,Qcf r],λi J j=>?_};have z:∀{l:YL} {m:List (List Key×Addr×Value)} {i:Nat} {p:List Key×V},Paired (λ(p:List Key×V) (q:List Key×Addr×Value)=>p.1=q.1/\H q.2.1=some (.tup (p.1.map kV))/\RelV p.2 q.2.2) l m->l[i]?=some p->∃x,m[i]?=some x/\H x.2.1=some (.tup (p.1.map kV))/\RelV p.2 x.2.2:=by
  intro l m i p r
  induction r generalizing i with
  | nil=>intro h;cases h
  | cons a t G=>
   intro h;cases i with
   | zero=>cases h;exact⟨_,rfl,a.2⟩
   | succ i=>exact G h
 obtain⟨x,I,h1,h2⟩:=z r j;exact⟨x.2.1,_,by rw[entry_at e i,I];rfl,rq,h1,h2⟩
theorem Qc{X:Cx}{jb:YC}{U : St}{H:Hp}{s:Shared}{a:Addr}{kvs:YL}{o:Obj}{es:YK}{ep:Nat}(I:H^^^s)(e:H a=some (.frz o (.dT kvs)))(j:o.data=.dict es ep) :
  (a == sysModules)=false/\KTr X.prog X.w H kvs es/\M5 s.heap a es ep:=by
 obtain⟨h1,_,h2,xs,G,ob,Y,aa,J,N,q,O,_⟩:=(show Bs X.prog X.w H s.heap a (.frz o (.dT kvs)) from I.hok a _ e)
 have z:=h1.symm.trans J;cases z;rw[j] at q;cases q;exact⟨h2,Xb G O,o,h1,N,j⟩
theorem uI{P:Program}{w:World}{K:YD}{al:YJ}{k:Nat}{pos:Pos}(a it:Addr)(o:Obj)(kvs:YL){es:YK}{ep:Nat}(ho:o.data=.dict es ep)(aa:es.size=kvs.length) :
  Turn P w K (.Tuple al k pos) (o9 a o kvs) [it] it (λi h=>∃G J,IsItemIter h it a i kvs.length ep G J) where
 mem:=by simp
 obj:=λi h st b j=>by
  have e:b=it:=by simpa using j
  subst e;obtain⟨G,J,q⟩:=st;exact{_,q,λv z=>by cases (show Data.fields _=Data.cell v from z)}
 keep:=λi h h' st k=>by
  obtain⟨G,J,q⟩:=st;exact⟨G,J,k it 04 _ q⟩
 item:=by
  intro X hP hw hK hc i jb s U H E I O st hg;subst hP hw hK;obtain⟨hi,ab⟩:=hg;obtain⟨G,J,st⟩:=st;obtain⟨_,⟨hz,ae⟩,da⟩:=Qc I ab ho;obtain⟨N,af⟩ : ∃N,kvs[i]?=some N:={kvs[i],by simp[hi]};obtain⟨b,Y,ar,am,j,an⟩:=ae i N af;rw[<-aa] at st;refine uY st da ar λh' ao ap ai=>?_;refine{_,rq,wpAny_letOwnedTupleGo_items ao λh2 as ag=>?_};have ah:∅≠it:=Qcv (Qcp st);have au:Bs X.prog X.w (upd H ∅ (.tup [.ref b,N.2])) h2 ∅ (.tup [.ref b,N.2]):=
   {by show 2<=sizeLine;decide,[Y.key,Y.val],.cons (by rw[am];exact rfl) (.cons an .nil),_,(ag.2 _ ah).trans ap,rq,0,rq}
  have I1:=I.Pa (h':=h2) (t':=s.toks) (QcA _) (λb q j z=>(ag.2 b (λw=>j (by simp[w]))).trans (ai b q (λw=>j (by simp[w])) z)) O au;refine{.ref ∅,_,I1,rq,{∅,b,N,I.hok.fresh (QcA _),af,j,rq,rq},⟨Y.key,Y.val,?_⟩,λb j=>?_}
  .rw[<-aa];exact as
  .have z:b=it:=by simpa using j
   subst z;rw[Ao (Ne.symm ah)];exact (O b j).1
 done:=by
  intro X hP hw hK hc i jb s U H E I O st hg;subst hP hw hK;obtain⟨hi,ab⟩:=hg;obtain⟨G,J,st⟩:=st;obtain⟨_,⟨hz,ae⟩,da⟩:=Qc I ab ho;rw[<-aa] at st;exact cL (I.ok.hd hc) st da (by simp;lia) λh' ext=>⟨rq,I.Nu (t':=s.toks) (λb ob j q=>ext b ob (λz=>j (by simp[z])) q) O⟩
 self:=λA i s Q E st q=>by
  obtain⟨G,J,st⟩:=st;exact aq st q
def A4(td:TE):TI:=fun U H R=>td U H λx H1=>∃a kvs,x=.ref a/\H1 a=some (.dT kvs)/\∀o,R (o9 a o kvs) (upd H1 a (.frz o (.dT kvs)))
theorem Zq{X:Cx}{d:Expr}{td:TE}{ae:YJ}{k:Nat}{tp apos cpos:Pos}(hd:PE X d td)(aa:attributeBase d "items" X.env (eval d X.env)=eval d X.env:=by rfl)(ab:(apos.endLine == cpos.line)=true:=by rfl) :
  PI X (.Tuple ae k tp) (.Call (.Attribute d "items" apos) [] [] cpos) (A4 td):=by
 intros R ag h;refine wpAny_Call_method0_late aa ab (thn (hd jb s U H _ ag h) λv j zz=>?_);obtain⟨x,H1,z,r1,a,kvs,ex,e,q⟩:=zz;subst ex;cases r1;obtain⟨t1,t2,af⟩:=Xi z (.inr ⟨kvs,.inl e⟩);obtain⟨o,G,I⟩:=z.j8 e;obtain⟨_,_,xs,h3,ob,es,J,Y,h5,N,h7,_⟩:=(show Bs X.prog X.w H1 j.heap a (.dT kvs) from z.hok a _ e)
 rw[G] at Y;cases Y;have O:=(Xb h3 h7).1;have da:M5 j.heap a es J:=⟨o,G,h5,N⟩;refine{"dict","dict.items",F.plainAttrs_dict,F.slot_dict_items,F.type_dict_items,t1,t2,Calls.callWith_builtin rfl (PySem.evalArgs_none ?_)};refine call_meetsIn F.slot_dict_items t1 F.entry_dict_items (F.args_dict_items_1 _) (pY (es:=es) (ep:=J) af) ⟨da,?_⟩;have hz:(j.heap.push { cls:=.type "dict_items",data:=.fields #[.ref a] }).objs.size=j.heap.objs.size+1:=Qcb ..;refine Yl (d:=a) (es:=es) (ep:=J) {_,QaM _ rfl,rq,rq} ⟨o,Qax _ G,h5,N⟩ ?_;refine⟨(j.heap.push { cls:=.type "dict_items",data:=.fields #[.ref a] }).objs.size,[(j.heap.push { cls:=.type "dict_items",data:=.fields #[.ref a] }).objs.size],_,_,_,rq,
  I.kept (t':=j.toks) λb u q=>Qax _ (Qax _ q),uI a _ o kvs N O,?_,λb hb=>?_,q o⟩
 .rw[<-O];exact{_,_,QaM _ rfl}
 .have ah:b=(j.heap.push { cls:=.type "dict_items",data:=.fields #[.ref a] }).objs.size:=by simpa using hb
  have z2:j.heap.objs.size<=b:=by rw[ah,hz];exact QcF _
  exact I.QD z2 (I.hok.fresh z2)
theorem fZ{a l:Addr}{o:Obj}{kvs:YL}{g:TG}{tt:TT}{te:TE}{Q:VK}{G:St}{J:Hp}(Pv:YN)(h0:Pv 0 G J)(hl:∀i U H',i<=kvs.length->Pv i U H'->H' a=some (.frz o (.dT kvs)))
  (hs:∀i z p b U H',kvs[i]?=some z->Pv i U H'->H' p=none->H' b=some (.tup (z.1.map kV))->g (.ref p) U (upd H' p (.tup [.ref b,z.2])) fun j N=>tt j N λb O=>if b=true then te j O λy Y=>∃ys,Y l=some (.lst ys)/\ys.length < sizeLine/\Pv (i+1) j (upd Y l (.lst (ys++[y]))) else Pv (i+1) j O)
  (hd:∀ U H',Pv kvs.length U H'->Q (.ref l) H'):Gu (o9 a o kvs) g tt te Q G J l:=by
 unfold Gu;refine{λi m U H'=>m=kvs.length - i/\i<=kvs.length/\Pv i U H',⟨kvs.length,by simp,QcB _,h0⟩,?_};rintro i m U H' ⟨rfl,hi,p⟩;have q:=hl i U H' hi p;by_cases I:i < kvs.length
 .refine .inr {⟨I,q⟩,Pv (i+1),fun j N p'=>{kvs.length - (i+1),by lia,rq,I,p'},λx H2 y=>?_};obtain⟨pa,b,z,hp,aa,hb,rfl,rfl⟩:=y;exact hs i z pa b U H' aa p hp hb
 .have e:i=kvs.length:=by lia
  subst e;exact .inl {⟨rq,q⟩,hd U H' p}
theorem An{prog:Program}{w:World}{d:Addr}{es:YK}{ep:Nat}(lo:(d == sysModules)=false):PySem.W.KdlSrc prog w "dict" d d es.size (λi v=>∃Y,es[i]?=some Y/\v=Y.key) (λh=>M5 h d es ep) where
 type:=λ_ ⟨o,j,q,_⟩=>⟨o,j,q.1⟩
 there:=λ_ ⟨o,j,_⟩=>{Qcp j,Qcp j}
 keep:=λ_ _ ⟨o,j,q⟩ I=>⟨o,I d (.inl rfl) o j,q⟩
 notList:=by decide
 notTuple:=by decide
 hint:=λ_ _ _ _ ⟨o,j,q,_⟩ J=>PySem.W.kdl_hint_dict ⟨o,j,q.1⟩ J
 iter:=λA s hh N=>⟨_,λi h=>h.IsKeyIter ∅ d i es.size ep/\M5 h d es ep,(λ_ _ J=>cJ lo N J),{
   sub:=λb z=>by simp at z;simp[z]
   frame:=λ_ _ _ st I=>{st.1.at λo e=>I ∅ 04 o e,let ⟨o,j,r⟩:=st.2;⟨o,I d 04 o j,r⟩}
   item:=λi s' Q E hi st G=>by
    have ab:d≠∅:=let ⟨o,j,_⟩:=N;Qcr (Qcp j);have q:es[i]?=some es[i]:=by simp[hi]
    refine cI st.1 st.2 q λh' aa O=>?_;obtain⟨o,j,r⟩:=st.2;exact G es[i].key h' s'.toks {es[i],q,rq} ⟨aa,o,O.extBut d o ab j,r⟩ λb o z e=>O.extBut b o (λh=>z (by simp[h])) e
   done:=λs' Q E st G=>jN hh st.1 st.2 04 λh' ae=>G h' s'.toks λb o z e=>ae b o (λh=>z (by simp[h])) e
   self:=λ_ _ _ _ st G=>wpAny_pyIter_keyiter st.1 G },{{_,QaM _ rfl,rq,rq},let ⟨o,j,r⟩:=N;⟨o,Qax _ j,r⟩}⟩
@[irreducible] def Ue:YG->Hp->VK->Prop:=λxs H Q=>∃(a:Addr) (kvs:YL),xs=[.ref a]/\H a=some (.dT kvs)/\∀l bs,H l=none->Paired (λb (j:List Key×V)=>H b=some (.tup (j.1.map kV))) bs kvs->Q (.ref l) (upd H l (.lst (bs.map V.ref)))
theorem qL{a:Addr}{kvs:YL}{H:Hp}{Q:VK}(h:H a=some (.dT kvs))(q:∀l bs,H l=none->Paired (λb (j:List Key×V)=>H b=some (.tup (j.1.map kV))) bs kvs->Q (.ref l) (upd H l (.lst (bs.map V.ref)))):Ue [.ref a] H Q:=by
 unfold Ue;exact⟨a,kvs,rq,h,q⟩
theorem Xe{H:Hp}:∀{kvs:YL} {us:YE},us.length=kvs.length->(∀(j:Nat) (u:Value),us[j]?=some u->∃(z:List Key×V) (b:Addr),kvs[j]?=some z/\u=.ref b/\H b=some (.tup (z.1.map kV)))->∃bs:List Addr,Vals (bs.map V.ref) us/\Paired (λb (z:List Key×V)=>H b=some (.tup (z.1.map kV))) bs kvs
 | [],[],_,_=>{[],.nil,.nil}
 | [],_::_,h,_=>by simp at h
 | _::_,[],h,_=>by simp at h
 | z::r,u::us,h,g=>by
  obtain⟨bs,h1,h2⟩:=Xe (H:=H) (kvs:=r) (us:=us) (by simpa using h) λj u I=>by
   obtain⟨G,b,e,q⟩:=g (j+1) u (by simpa using I);exact⟨G,b,by simpa using e,q⟩
  obtain⟨G,b,e,e2,q⟩:=g 0 u rfl;cases e;exact{b::bs,.cons e2 h1,.cons q h2}
theorem jg{X:Cx}(hc:X.calm=true):DN X (.type "list") Ue:=by
 intros xs us Q I r h;unfold Ue at h;obtain⟨a,kvs,rfl,e,q⟩:=h;obtain⟨u,rfl,rx⟩:=vals1 r;cases rx;obtain⟨ae,lo,xs,h3,ob,es,ep,h4,h5,h6,h7,_⟩:=(show Bs X.prog X.w H s.heap a (.dT kvs) from I.hok a _ e)
 obtain⟨hz,aa⟩:=Xb h3 h7;refine PySem.W.kdl_call (An (es:=es) (ep:=ep) lo) (I.ok.hd hc) ⟨ob,h4,h5,h6⟩ 00 λh' tk acc c' hk hS z=>?_;obtain⟨J,b1,N⟩:=Xe (H:=H) (kvs:=kvs) (us:=acc.toList) (by rw[QaP,z.1,hz]) λj u hu=>by
  obtain⟨en,G,e2⟩:=z.2 j u (by rw[<-Array.getElem?_toList];exact hu);have O:j < kvs.length:=by
   have:=(Qaf.mp G).1;lia
  obtain⟨b,af,Y,h9,ab,_⟩:=aa j kvs[j] (Qam O);rw[G] at Y;cases Y;exact{kvs[j],b,Qam O,by rw[e2,h9],ab}
 have fr:=I.hok.fresh (QcA ∅);refine{.ref ∅,_,I.laid (t':=tk) (o:=.lst (J.map V.ref)) (λb o q=>hk b o q) (QcA _) ?_,rq,q _ J fr N};exact{by rw[QbJ,Qcf N];exact ae,acc.toList,c',b1,hS}
section
variable{prog:Program}{w:World}{A:Around}{E:YA}{s:Shared}{R:Result->Shared->Prop}
theorem JH{h h':Heap}{k:List Key}{a:Addr}(x:'k'.is h k a)(f:∀o,h.get? a=some o->h'.get? a=some o):'k'.is h' k a:=by
 obtain⟨o,j,n,h1,r⟩:=x;exact⟨o,j,n,f o h1,r⟩
theorem Zw{h:Heap}{k:List Key}{a:Addr}(x:'k'.is h k a):∃o,h.get? a=some o:=by
 obtain⟨o,j,n,h1,r⟩:=x;exact⟨o,h1⟩
theorem Np{h h':Heap}{d:Addr}{xs:List (List Key×Addr×Value)}(m:h.DictOfH 'k' d xs)(f:∀o,h.get? d=some o->h'.get? d=some o)(g:∀x∈xs,∀o,h.get? x.2.1=some o->h'.get? x.2.1=some o):h'.DictOfH 'k' d xs:=by
 obtain⟨o,es,q,h1,h2,z,G,I,J⟩:=m;exact⟨o,es,q,f o h1,h2,z,G,λx j=>JH (I x j) (g x j),J⟩
theorem gM{xs:List (List Key×Addr×Value)}{k:List Key}(h:∀x∈xs,x.1≠k):atKey xs k=none:=atKey_none_of_get λj p q=>h _ (QaH q) rfl
theorem Zf{d it l:Addr}{items:YE}{res:Value}(hu:A.units+1 < cLine)(hh:A.handled=none)(J:d≠it)(ab:l≠d)(ae:l≠it):∀(z:List (Addr×List Key×Addr×Value)) (i:Nat) (acc:List (List Key×Addr×Value)) (s:Shared),s.heap.IsListIter it l i->s.heap.IsList l items.toArray ->
  items.drop i=z.map (λr=>Value.ref r.1)->(∀r∈z,s.heap.IsTuple r.1 #[.ref r.2.2.1,r.2.2.2]/\'k'.is s.heap r.2.1 r.2.2.1/\(r.1≠d/\r.1≠it)/\r.2.2.1≠d/\r.2.2.1≠it)->(∀x∈acc,x.2.1≠d/\x.2.1≠it)->(acc.map (·.1)++z.map (·.2.1)).Nodup->s.heap.DictOfH 'k' d acc->acc.length+z.length<=sizeLine ->
  (∀h' tk,h'.DictOfH 'k' d (acc++z.map λr=>(r.2.1,r.2.2.1,r.2.2.2))->(∀b o,b≠d->b≠it->s.heap.get? b=some o->h'.get? b=some o)->R (.ok (.ret res)) { s with heap:=h',toks:=tk }) ->
  codeAny 01 A (.builtin "dict.update.loop" {[.ref d,.ref it,rawInt i,res],[]}) R s
 | [],i,acc,s,aa,N,O,_,Y,nd,hm,hz,hR=>by
  refine QbZ IW ?_;rw[Around.under_plainId DR _];show wpAny _ A.in1 (pyNext (.ref it) >>= _) _ _ s;have j:items.toArray[i]?=none:=by
   have:items.length<=i:=by simpa using O
   simp[this]
  refine QcG (wpAny_pyNext_list_end (show A.in1.handled=none from hh) aa N j λh' ex=>?_)
  refine QcG (QcH ?_);refine QcH ?_;rw[Qcx,QbM] at hR;exact hR h' s.toks (Np hm (λo e=>ex _ _ J e) λx j o e=>ex _ _ (Y x j).2 e) λb o I nt q=>ex b o nt q
 | (t,k,kb,v)::z,i,acc,s,aa,N,O,hr,Y,af,hm,hz,hR=>by
  refine QbZ IW ?_;rw[Around.under_plainId DR _];show wpAny _ A.in1 (pyNext (.ref it) >>= _) _ _ s;have j:items.toArray[i]?=some (.ref t):=by
   have:=congrArg List.head? O;rw[List.head?_drop] at this;simpa using this
  have am:items.drop (i+1)=z.map (λr=>Value.ref r.1):=by
   rw[<-List.tail_drop,O];rfl
  obtain⟨⟨ot,ho,hc,n,an⟩,hk,⟨nd,ni⟩,kd,ki⟩:=hr _ (QaW ..);refine QcG (wpAny_pyNext_list_item aa N j λh1 ai ao=>?_);have G:∀b o,b≠it->s.heap.get? b=some o->h1.get? b=some o:=λb o I q=>(ao.2 b I).trans q;refine QcG (Qck ?_);refine QcG (wpAny_tryCatch ?_);have hT:(⟨h1,s.gens,s.drawn,s.toks,s.os⟩ : Shared).TypeIs (.ref t) "tuple":=⟨ot,G _ _ ni ho,hc⟩;unfold Builtin.Dict.pairItems;refine QcG (Qcy hT ?_);rw[if_pos 05];refine QcG (Qce (G _ _ ni ho) an (QcH ?_));show wpAny _ A.in1 (holding [.ref kb,v] (dictSet d (.ref kb) v)) _ _ _;have ap:h1.DictOfH 'k' d acc:=Np hm (λo e=>G _ _ J e) λx j o e=>G _ _ (Y x j).2 e;have ar:=JH hk λo e=>G _ _ ki e;have al:atKey acc k=none:=gM λx j e=>by
   have:=(Qbu.mp af).2.2 x.1 (Qcq.mpr ⟨x,j,rq⟩) k (QaW ..);exact this e
  have av:acc.length+(z.length+1)<=sizeLine:=hz;refine Qck (wpAny_dictSet_heap (show 'k'.room A.in1 from Qbi hu) ar ap (λh2 ag as=>?_) 00)
  rw[storedH_new al] at ag;have k2:∀b o,b≠d->h1.get? b=some o->h2.get? b=some o:=λb o I q=>(as.2 b I).trans q;refine QcH {plainId_quiet DR _,?_};have aw:∀ah:Int,rawInt (ah+1)=rawInt (ah+1):=λ_=>rfl;have e1:rawInt ((i:Int)+1)=rawInt ((i+1:Nat):Int):=by rw[Int.natCast_add];rfl
  show codeAny 01 A (.builtin "dict.update.loop" {[.ref d,.ref it,rawInt ((i:Int)+1),res],[]}) R _;rw[e1];obtain⟨oi,b1,b2⟩:=ai;obtain⟨ol,c1,c2⟩:=N;refine Zf hu hh J ab ae z (i+1) (acc++[(k,kb,v)]) _ ⟨oi,k2 _ _ (Ne.symm J) b1,b2⟩ ⟨ol,k2 _ _ ab (G _ _ ae c1),c2⟩ am (λr au=>?_) (λx j=>?_) ?_ ag ?_ λh' tk x y=>hR h' tk (by rw[Qbm] at x;exact x) λb o I nt q=>y b o I nt (k2 _ _ I (G _ _ nt q))
  .obtain⟨⟨ob,d1,d2⟩,d3,⟨d4,d5⟩,d6,d7⟩:=hr r (QaI _ au);exact{⟨ob,k2 _ _ d4 (G _ _ d5 d1),d2⟩,JH d3 λo e=>k2 _ _ d6 (G _ _ d7 e),⟨d4,d5⟩,d6,d7}
  .rcases QbK.mp j with h | h
   .exact Y x h
   .have:x=(k,kb,v):=by simpa using h
    rw[this];exact⟨kd,ki⟩
  .rw[QbL,Qbm];exact af
  .rw[QaV];show acc.length+1+z.length<=sizeLine;lia
end
section
variable{prog:Program}{w:World}{A:Around}{E:YA}{s:Shared}
theorem aB{l:Addr}{items:YE}{c:Nat}{z:List (Addr×List Key×Addr×Value)}{Q:YA}(hu:A.units+2 < cLine)(hh:A.handled=none)(hl:s.heap.get? l=some (seqObj "list" items.toArray c))(hi:items=z.map (λr=>Value.ref r.1))
  (hr:∀r∈z,s.heap.IsTuple r.1 #[.ref r.2.2.1,r.2.2.2]/\'k'.is s.heap r.2.1 r.2.2.1) (nd:(z.map (·.2.1)).Nodup) (hz:z.length<=sizeLine)
  (h:∀d h' tk,∅<=d->h'.DictOfH 'k' d (z.map λr=>(r.2.1,r.2.2.1,r.2.2.2))->(∀b o,s.heap.get? b=some o->h'.get? b=some o)->Q (.ref d) { s with heap:=h',toks:=tk }) :
  wpAny 01 A (call (.type "dict") [.ref l]) Q E s:=by
 refine callType_codes (Q₁:=λab aa=>ab=.ref ∅/\aa={ s with heap:=s.heap.push { cls:=.type "dict",data:=.dict #[] } }) F.kt_called_dict (F.kt_typeCall_dict_1 _) F.entry_dict_init (kt_code_dict_new _ ⟨rq,rq⟩) ?_;rintro ab aa ⟨rfl,rfl⟩;have J:(s.heap.push { cls:=.type "dict",data:=.dict #[] }).DictOfH 'k' ∅ []:=Heap.DictOfH.new s.heap;have j:∀b o,s.heap.get? b=some o->b≠∅/\(s.heap.push { cls:=.type "dict",data:=.dict #[] }).get? b=some o:=λb o q=>{Qcr (Qcp q),Qax _ q};generalize hd:∅=d at J j;have ld:∅<=d:=Nat.le_of_eq hd;generalize s.heap.push { cls:=.type "dict",data:=.dict #[] }=g1 at J j;refine⟨J.typeIs,F.args_dict_init_2 _ _,?_⟩;unfold Builtin.«dict.__init__»;refine QcG ?_;unfold Builtin.Dict.selfAndRest;refine QcG (wpAny_notOrdered_dict J.typeIs ?_);show wpAny _ _ (pure (d,[Value.ref l])) _ _ _;refine QcH ?_;show wpAny _ _ (Builtin.Dict.updateFrom "dict.__init__" d (.ref l) [] .none) _ _ _;unfold Builtin.Dict.updateFrom;have N:=(j _ _ hl).2;refine QcG (Qcy (show (⟨g1,s.gens,s.drawn,s.toks,s.os⟩ : Shared).TypeIs (.ref l) "list" from⟨_,N,rq⟩) ?_)
 rw[if_pos 05];refine QcG (AS (show A.in1.in1.handled=none from hh) N λG tk k2=>?_)
 rw[show (none:Option Value).isNone=true from rfl,if_pos rfl]
 refine QcG (wpAny_rule ?_);have O:=k2 _ _ N;refine QcG (Qbv (items:=items.toArray) ⟨_,O,rq,_,rq⟩ ?_);obtain⟨od,es,ep,a1,a2⟩:=J;have Y:∀b o,G.get? b=some o->b≠G.objs.size:=λb o q=>Qcr (Qcp q);have k3:∀b o,G.get? b=some o->(G.push { cls:=.type "list_iterator",data:=.fields #[.ref l,.int 0 0] }).get? b=some o:=λb o q=>Qax _ q;refine QcH {plainId_quiet DR _,?_};have I:∀b o,s.heap.get? b=some o->(b≠d/\b≠G.objs.size)/\(G.push { cls:=.type "list_iterator",data:=.fields #[.ref l,.int 0 0] }).get? b=some o:=λb o q=>{{(j _ _ q).1,Y _ _ (k2 _ _ (j _ _ q).2)},k3 _ _ (k2 _ _ (j _ _ q).2)};refine Zf (items:=items) (show A.in1.units+1 < cLine from hu) (show A.in1.handled=none from hh) (Y _ _ (k2 _ _ a1)) (j _ _ hl).1 (Y _ _ O) z 0 [] _ {_,QaM _ rfl,rq,rq} {_,k3 _ _ O,rq,_,rq} (by rw[List.drop_zero];exact hi) (λr ae=>?_) (λx hx=>by cases hx) nd ?_ (by rw[List.length_nil];lia) λh' af x y=>⟨rq,h d h' af ld x λb o q=>y b o (j _ _ q).1 (I _ _ q).1.2 (I _ _ q).2⟩
 .obtain⟨⟨ob,d1,d2⟩,d3⟩:=hr r ae;obtain⟨oo,e0⟩:=Zw d3;exact{⟨ob,(I _ _ d1).2,d2⟩,JH d3 λo e=>(I _ _ e).2,(I _ _ d1).1,(I _ _ e0).1}
 .exact⟨od,es,ep,k3 _ _ (k2 _ _ a1),a2.1,a2.2.1,a2.2.2.1,(λx hx=>by cases hx),Qcc⟩
end
def Jr(H:Hp)(v:V)(r:List Key×V):Prop:=∃t b,v=.ref t/\H t=some (.tup [.ref b,r.2])/\H b=some (.tup (r.1.map kV))
theorem VD{P:Program}{w:World}{H:Hp}{h:Heap}(I:HOk P w H h):∀{vs:YG} {G:YL} {us:YE},Paired (Jr H) vs G->Vals vs us ->
  ∃j:List (Addr×List Key×Addr×Value),us=j.map (λr=>Value.ref r.1)/\(∀r∈j,h.IsTuple r.1 #[.ref r.2.2.1,r.2.2.2]/\(tupleKind (Bp P w)).is h r.2.1 r.2.2.1)/\Paired (λ(p:List Key×V) (q:List Key×Addr×Value)=>p.1=q.1/\H q.2.1=some (.tup (p.1.map kV))/\RelV p.2 q.2.2) G (j.map λr=>(r.2.1,r.2.2.1,r.2.2.2))/\j.length=G.length/\j.map (·.2.1)=G.map (·.1)
 | _,_,_,.nil,.nil=>{[],rfl,(λ_ h=>by cases h),.nil,rfl,rfl}
 | _,_,_,.cons (b:=N) ⟨t,b,e,O,J⟩ p,.cons r q=>by
  obtain⟨j,h1,h2,Y,h4,h5⟩:=VD I p q;subst e;cases r;obtain⟨_,aa,z,o,ho,hc,n,hd⟩:=I t _ O;cases z with
  | cons a1 z=>
   rename_i u1 ab;cases z with
   | cons a2 z=>
    rename_i u2 ae;cases z;cases (show u1=Value.ref b from a1)
    refine{(t,N.1,b,u2)::j,by rw[h1];rfl,λr hr=>?_,.cons ⟨rq,J,a2⟩ Y,by rw[Qbz,h4];rfl,by rw[Qch,h5];rfl};rcases Qcg.mp hr with e | e
    .rw[e];exact{⟨o,ho,hc,n,hd⟩,KD I J}
    .exact h2 r e
def At:YG->Hp->VK->Prop:=λxs H Q=>∃l vs j,xs=[.ref l]/\H l=some (.lst vs)/\Paired (Jr H) vs j/\(j.map (·.1)).Nodup/\j.length < 1000/\∀d,H d=none->Q (.ref d) (upd H d (.dT j))
theorem Vk{X:Cx}(hu:X.A.units+64 < cLine)(hc:X.calm=true):DN X (.type "dict") At:=by
 intros xs us Q I r h;obtain⟨l,G,q,rfl,J,N,O,Y,aa⟩:=h;obtain⟨u,rfl,rx⟩:=vals1 r;cases rx;obtain⟨_,ab,n,rv,ho⟩:=(show Bs X.prog X.w H s.heap l (.lst G) from I.hok l _ J)
 obtain⟨rs,h1,h2,h3,h4,h5⟩:=VD I.hok N rv;have zz:q.length<=sizeLine:=Qcu (Al (Qcu Y));refine aB 00 (I.ok.hd hc) ho h1 h2 (by rw[h5];exact O) (by rw[h4];exact zz) λd h' tk ld hd kp=>?_;have z:=I.hok.fresh ld;have hb:=I.big;obtain⟨o,es,ep,g1,g2,g3,g4,_,g6⟩:=hd;refine{.ref d,_,I.laid (t':=tk) (o:=.dT q) kp ld ⟨zz,QaN.mpr (Qcv (Qba hb ld)),_,Paired.Ax h3 λx y j=>⟨j.1,?_,j.2.2⟩,o,es,ep,g1,g2,g3,g4,g6⟩,rq,aa d z};rw[Ao (Aw j.2.1 z)];exact j.2.1
open PySem.W (KasT kas_asc kas_desc kas_rev kas_tail3 kas_descPart kas_count kas_place kas_bin kas_sort)
structure C3(a b c k:Int):Prop where
 b0:0<=b
 b1:b < 100
 c0:0<=c
 c1:c < 100
 k:k=a*10000+b*100+c
def Xw(K:YD)(H:Hp)(v:V)(k:Int):Prop:=∃t a b c,v=.ref t/\SqT K H t [.int a,.int b,.int c]/\C3 a b c k
theorem yP{K:YD}{H:Hp}:∀{vs:YG} {ks:List Int},Paired (Xw K H) vs ks->o7 K H vs
 | _,_,.nil,_,h=>nomatch h
 | _,_,.cons x r,v,h=>by
  rcases Qcg.mp h with rfl | h
  .obtain⟨t,a,b,c,e,q,_⟩:=x;exact⟨t,[a,b,c],e,q,Nat.succ_pos _⟩
  .exact yP r v h
section
variable{prog:Program}{w:World}{A:Around}{s:Shared}
theorem LM{N:Bool}{C:Bool->Shared->Prop}{a b c k j q z k':Int}{t1 t2 t3 O Y u3:Tok}(x:C3 a b c k)(y:C3 j q z k')(ne:k≠k')(J:C (decide (k < k')) s):PySem.W.KatLex prog w A true N C ([Value.int a t1,Value.int b t2,Value.int c t3].zip [Value.int j O,Value.int q Y,Value.int z u3]) 0 s:=by
 have x1:=x.b0;have x2:=x.b1;have x3:=x.c0;have x4:=x.c1;have x5:=x.k;have y1:=y.b0;have y2:=y.b1;have y3:=y.c0;have y4:=y.c1;have y5:=y.k;rw[List.zip_cons_cons];refine kat_cons (wpAny_eqBool_int ?_);by_cases G:a=j
 .rw[show (a == j)=true by rw[G];exact beq_self_eq_true j];refine PySem.W.kat_yes ?_;rw[List.zip_cons_cons];refine kat_cons (wpAny_eqBool_int ?_);by_cases I:b=q
  .rw[show (b == q)=true by rw[I];exact beq_self_eq_true q];refine PySem.W.kat_yes ?_;rw[List.zip_cons_cons];refine kat_cons (wpAny_eqBool_int ?_);have hc:c≠z:=λaa=>ne (by rw[x5,y5,G,I,aa]);rw[show (c == z)=false from QaN.mpr hc]
   refine PySem.W.kat_no (PySem.W.kat_one _ _ (lt_int ?_));rw[show decide (c < z)=decide (k < k') by rw[QbS,Qbd,Qbd];subst G I;constructor <;> intro h <;> lia];exact J
  .rw[show (b == q)=false from QaN.mpr I]
   refine PySem.W.kat_no (PySem.W.kat_one _ _ (lt_int ?_));rw[show decide (b < q)=decide (k < k') by rw[QbS,Qbd,Qbd];subst G;constructor <;> intro h <;> lia];exact J
 .rw[show (a == j)=false from QaN.mpr G]
  refine PySem.W.kat_no (oneLt_int ?_);rw[show decide (a < j)=decide (k < k') by rw[QbS,Qbd,Qbd];constructor <;> intro h <;> lia];exact J
end
@[irreducible] def Wz(K:YD):YG->Hp->VK->Prop:=λxs H Q=>∃(p:Addr) (vs:YG) (ks:List Int),xs=[.ref p]/\SqL K H p vs/\vs.length < 64/\Paired (Xw K H) vs ks/\ks.Nodup /\
 ∀(is:List Nat) l,is.Perm (List.range vs.length)->(is.map λi=>ks.getD i 0).Pairwise (· < ·)->H l=none->Q (.ref l) (upd H l (.lst (is.map λi=>vs.getD i .non)))
theorem Vt{K:YD}{p:Addr}{vs:YG}{ks:List Int}{H:Hp}{Q:VK}(h1:SqL K H p vs)(h2:vs.length < 64)(j:Paired (Xw K H) vs ks)(z:ks.Nodup)
  (q:∀(is:List Nat) l,is.Perm (List.range vs.length)->(is.map λi=>ks.getD i 0).Pairwise (· < ·)->H l=none->Q (.ref l) (upd H l (.lst (is.map λi=>vs.getD i .non)))):Wz K [.ref p] H Q:=by
 unfold Wz;exact⟨p,vs,ks,rq,h1,h2,j,z,q⟩
theorem O6{X:Cx}:DN X (.builtin "sorted") (Wz X.K):=by
 intros xs us Q I r h;unfold Wz at h;obtain⟨p,G,ks,rfl,hq,av,hK,ao,ae⟩:=h;have hR:o7 X.K H G:=yP hK;have ap:G.length=ks.length:=Qcf hK;obtain⟨u,rfl,rx⟩:=vals1 r;cases rx;obtain⟨N,rv,pl,hz⟩:=I.list hq;have af:G.length=N.length:=rv.length;by_cases h2:2<=N.length
 .obtain⟨m,hn,_⟩:=id I.loc;refine PySem.W.kat_sorted (Att.E2 hn) (v8 (g:=Att.W8 s.heap) (h:=s.heap) (L:=X.env.locals)) pl.isList h2 00 λD e1 h' F' N' hD=>?_;have kp:∀b o,b≠X.env.locals->s.heap.get? b=some o->h'.get? b=some o:=λb o q e=>(N' (b,o) (QaI _ (Qw q (Att.Ni _ _) e))).1;have nl:∀b,H b≠none\/(∃u,X.base.get? b=some u)->b≠X.env.locals:=λb q z=>by
   rcases q with q |⟨u,q⟩
   .exact q (by rw[z];exact I.free)
   .have:=Qcp q;rw[z] at this;exact absurd (Qba this (Qcs I.ok.bsz I.ok.above)) (Qcj _)
  obtain⟨fs,f1,f2,f3⟩:=jW (h':=h') I (λb o q e=>kp b o (nl b q) e) rv hR;refine PySem.W.kat_kind f1 00 (λv hv=>by obtain⟨i,t,rfl⟩:=f3 v hv;exact PySem.W.Looks.of_pure rfl) (T:=.type "int") 05 ?_;have ai:Inj N.length (λi=>ks.getD i 0):=λi j hi hj e=>by
   have e:ks.getD i 0=ks.getD j 0:=e;have e1:ks.getD i 0=ks[i]' 00:=by simp[show i < ks.length by lia]
   have e2:ks.getD j 0=ks[j]' 00:=by simp[show j < ks.length by lia]
   rw[e1,e2] at e;exact qG ao _ _ e
  have hp:=V0 (lt:=ltK λi=>ks.getD i 0) _ (gQ (n:=N.length) 00);have Nj:=Ly.list hp (uT ai h2);refine jX (lt:=ltK λi=>ks.getD i 0) (n:=N.length) (λi j C hi hj hC=>?_) _ (gQ 00) ?_
  .have yL:∀i,i < N.length->∃(x:Addr) (ox:Obj) (O:Array Value) (n:Nat),N.getD i Value.none=.ref x/\h'.get? x=some ox/\ox.data=.seq O n/\(∃a b c t1 t2 t3,O.toList=[Value.int a t1,Value.int b t2,Value.int c t3]/\C3 a b c (ks.getD i 0))/\∀y∈O.toList,∃a t,y=Value.int a t:=λi hi=>by
    have ag:i < G.length:=by lia
    obtain⟨u,hu,ru⟩:=rv.get (x:=G[i]) (i:=i) (by simp[ag]);obtain⟨tp,ka,kb,kc,e,aa,ar⟩:=iH V.non (0:Int) hK ag;have aa:SqT X.K H tp (([ka,kb,kc]:List Int).map V.int):=aa;have ev:G.getD i V.non=G[i]:=by simp[ag]
    rw[ev] at e;rw[e] at ru;cases ru;obtain⟨O,al,⟨o,ho,hc,n,hd⟩,_⟩:=I.tuple aa;have go:∀{ns:List Int} {O:YE},Vals (ns.map V.int) O->∀y∈O,∃a t,y=Value.int a t:=by
     intro ns
     induction ns with
     | nil=>intro O r;cases r;exact λy J=>nomatch J
     | cons n0 nr ih=>
      intro O r;cases r with
      | cons r0 rr=>
       intro y J;rcases Qcg.mp J with rfl | J
       .obtain⟨t,e⟩:=r0;exact⟨_,_,e⟩
       .exact ih rr y J
    refine⟨tp,o,O.toArray,n,?_,kp tp o (nl tp ?_) ho,hd,?_,λy J=>go al y (by simpa using J)⟩
    .rw[List.getD_eq_getElem?_getD,hu];rfl
    .rcases aa with (z |⟨_,z⟩) |⟨_,_,_,z,_⟩
     .exact .inl (by rw[z];exact λz=>nomatch z)
     .exact .inl (by rw[z];exact λz=>nomatch z)
     .exact .inr {_,I.mod.kin _ _ z}
    .cases al with
     | cons r0 rr=>
      cases rr with
      | cons r1 rr=>
       cases rr with
       | cons r2 rr=>
        cases rr;obtain⟨t0,e0⟩:=r0;obtain⟨t1,e1⟩:=r1;obtain⟨t2,e2⟩:=r2;exact⟨ka,kb,kc,t0,t1,t2,by rw[e0,e1,e2],ar⟩
   obtain⟨x,ox,wx,nx,ex,Y,dx,⟨xa,xb,xc,x1,x2,x3,fx,cx⟩,ix⟩:=yL i hi;obtain⟨y,oy,wy,ny,ey,J,dy,⟨ya,yb,yc,y1,y2,y3,fy,cy⟩,iy⟩:=yL j hj;unfold PySem.W.kas_ask;rw[ex,ey];refine PySem.W.kat_lt Y dx J dy ?_;by_cases ne:i=j
   .subst ne;rw[ex] at ey;cases ey;rw[Y] at J;cases J;rw[dx] at dy;cases dy;have e0:ltK (λi=>ks.getD i 0) i i=false:=QbO (Int.lt_irrefl _);rw[e0] at hC;have e1:decide (wx.size < wx.size)=false:=QbO (Qcj _);rw[e1];exact DM hC _ ix 0
   .rw[fx,fy];exact LM cx cy (λz=>ne (ai i j hi hj z)) hC
  .refine PySem.W.KasFin.intro F' N' (.head λae hq=>Qcr (hD ae hq)) λah c F2 N2=>?_;generalize Ga (ltK λi=>ks.getD i 0) (kas_sort N.length)=pp at hp Nj N2 ⊢;have ab:∀b o,b≠X.env.locals->s.heap.get? b=some o->ah.get? b=some o:=λb o q e=>(N2 (b,o) (QaI _ (Qw q (Att.Ni _ _) e))).1;obtain⟨oD,DL,_⟩:=N2 (D,_) (QaW ..);have nD:∀b o,s.heap.get? b=some o->b≠D:=λb o e z=>by
    by_cases q:b=X.env.locals
    .exact DL (by rw[<-z];exact q)
    .have:=hD (b,o) (Qw q (Att.Ni _ _) e);rw[z] at this;exact Qcj _ this
   have am:H D=none:=by
    cases e:H D with
    | none=>rfl
    | some v=>
     obtain⟨o,ho⟩:=(I.hok D v e).there;exact absurd rfl (nD D o ho)
   have tr:∀(o:HO) b u,H b=some u->(upd H D o) b=some u:=λo b u e=>by rw[Ao (Aw e am)];exact e
   have an:∀i∈pp.toList,i < G.length:=λi hi=>by rw[af];exact Qcd.mp (hp.mem_iff.mp hi)
   have as:Vals (pp.toList.map λi=>G.getD i .non) (pp.toList.map λi=>N.getD i Value.none):=Zr V.non Value.none rv an;have pm:(pp.toList.map λi=>G.getD i .non).Perm G:=by
    have:=hp.map λi=>G.getD i V.non;rw[<-af,range_getD] at this;exact this
   have I2:Inv X jb U (upd H D (.lst (pp.toList.map λi=>G.getD i .non))) { s with heap:=ah }:=by
    refine I.step (h':=ah) (g':=s.gens) (d':=s.drawn) (t':=s.toks) (ch:=[]) (λb q=>absurd q 04) (λb u q _ _ e _=>ab b u q e) (λb u q _ _ e _=>⟨u.slots,ab b u q e⟩) (λb u _ e n=>by rw[Ao (nD b u e)];exact n)
     (λb u _ e=>?_) (λb ys e=>tr _ _ _ e) (λb u v e=>tr _ _ _ e) (λb ps e=>{#[],by rw[tr _ _ _ e];simp}) (λm' au=>by rw[AQ au hn];exact F2.ns) (λb u e=>?_) I.bare
    .by_cases q:b=X.env.locals
     .obtain⟨o,_,_,ho,_⟩:=F2.ns;exact⟨o,by rw[q];exact ho⟩
     .exact⟨u,ab b u q e⟩
    .by_cases q:b=D
     .subst q;rw[Ab] at e;cases e;exact{by rw[pm.length_eq];exact Qcu (Al 00),_,c,as,oD}
     .rw[Ao q] at e;refine (I.hok b u e).stay (λx v Y e1=>ab x v ?_ e1) (λx e1=>tr _ _ _ e1) λx ys e1=>tr _ _ _ e1;intro z;rcases Y with Y | Y
      .rw[<-Y,z,I.free] at e;cases e
      .rw[z,I.free] at Y;cases Y
   exact{.ref D,_,I2,rq,ae _ D (by rw[af];exact hp) Nj am}
 .refine bQ pl.isList 00 λD h' c hD oD kp=>?_;refine{.ref D,_,I.laid (t':=s.toks) (o:=.lst G) kp hD ?_,rq,?_}
  .exact{Qcu (Al 00),N,c,rv,oD}
  .have z:=ae (List.range G.length) D (List.Perm.refl _) (by
    rw[ap,range_getD]
    match ks,(show ks.length < 2 by lia) with
    | [],_=>exact List.Pairwise.nil
    | [k],_=>exact Qaw _ _) (I.hok.fresh hD)
   rw[range_getD] at z;exact z
end L2
namespace L2
open PySem PySem.Spec PyProof.Rows
def gY(lo st:Int)(n:Nat):It:={λi _=>i < n,λi H x H'=>H'=H/\x=.int (lo+(i:Int)*st),λi _=>n<=i}
theorem iB{P:Program}{w:World}{K:YD}{tg:Expr}(it:Addr)(lo c:Int)(n:Nat):Turn P w K tg (gY lo c n) [it] it (λi h=>IsRangeIter h it (lo+(i:Nat)*c) ((n:Int) - (i:Nat)) c) where
 mem:=by simp
 obj:=λi h st b j=>by
  have e:b=it:=by simpa using j
  subst e;exact⟨_,st,λv ab=>by
   have z':Data.fields _=Data.cell v:=ab;cases z'⟩
 keep:=λi h h' st k=>k it 04 _ st
 item:=by
  intro X z hw G hc i jb s U H E I q st J;subst z hw G;obtain⟨N,O,f2,Y,f4,f5⟩:=q it 04;have W:=Walks.range (prog:=X.prog) (w:=X.w) (I.ok.hd hc) it lo c n;refine W.item i s _ _ J st λv h' tk hv aa kk=>?_;obtain⟨t,rfl⟩:=hv;have I1:Inv X jb U H { s with heap:=h',toks:=tk }:=I.turned (λb o j e=>kk b o (by simpa using j) e) N O Y f4 f5;exact⟨_,rq,Uy (s:={ s with heap:=h',toks:=tk }) (n:="range_iterator") aa rfl rfl 05 {.int (lo+i*c),H,I1,⟨t,rq⟩,⟨rq,rq⟩,aa,λb j=>(q b j).1}⟩
 done:=by
  intro X z hw G hc i jb s U H E I q st J;subst z hw G;obtain⟨N,O,f2,Y,f4,f5⟩:=q it 04;exact wpAny_pyNext_range_end (I.ok.hd hc) st (by have:n<=i:=J;lia) λh' eb=>⟨rq,I.turned (t':=s.toks) (λb o j e=>eb b o j e) N O Y f4 f5⟩
 self:=λ_ _ _ _ _ st h=>wpAny_pyIter_rangeiter st h
theorem RB(a b:Int):Builtin.Range.rangeSize a b (-1)=if b < a then a - b else 0:=by
 unfold Builtin.Range.rangeSize;rw[if_neg (by decide:¬(-1:Int) > 0),show (-(-1):Int)=1 from rfl,Int.ediv_one]
 by_cases h:b < a
 .rw[if_pos h,if_pos (show a > b from h)];lia
 .rw[if_neg h,if_neg (show ¬a > b from h)]
theorem pO{a b:Int}(z:-1000<=a)(j:a<=1000)(G:-1000<=b)(q:b<=1000):Builtin.Range.small a b (-1)=true:=by
 unfold Builtin.Range.small;rw[RB];simp only[Builtin.Range.rangeFitsLong,QbF,Bool.or_eq_true,decide_eq_true_eq,beq_iff_eq,show ¬((-1:Int) > 0) by decide,if_false];split <;> lia
section
variable{X:Cx}{tg:Expr}
def GN(ta:TA):TI:=fun U H R=>ta U H λvs H1=>∃i j c:Int,vs=[.int i,.int j,.int c]/\(c=1\/c=-1)/\(-1000<=i/\i<=1000/\-1000<=j/\j<=1000)/\R (gY i c (if c=1 then (j - i).toNat else (i - j).toNat)) H1
theorem qe{a b d:Expr}{ta:TA}{p pos:Pos}(hg:Gl X "range")(hm:X.mg "range"=none)(ha:PA X [a,b,d] ta)(hs:starEach [a,b,d] X.env=[(false,eval a X.env),(false,eval b X.env),(false,eval d X.env)]:=by rfl)(J:starEach [b,d] X.env=[(false,eval b X.env),(false,eval d X.env)]:=by rfl) :
  PI X tg (.Call (.Name "range" p) [a,b,d] [] pos) (GN ta):=by
 intros R I h;refine Call_ (Jp I hg hm boot_range (Qae (thn (ha pos jb s U H _ I h) λus q zz=>?_) (by rw[hs,J]) (by rw[J];rfl)));obtain⟨vs,H1,I1,r1,q1⟩:=zz;obtain⟨i,j,c,e,hc,⟨b1,b2,b3,b4⟩,aa⟩:=q1;subst e;cases r1 with
 | cons r z=>
  cases z with
  | cons r' z=>
   cases z with
   | cons N z=>
    cases z;obtain⟨t,rfl⟩:=r;obtain⟨u,rfl⟩:=r';obtain⟨v,rfl⟩:=N;have O:Builtin.Range.small i j c=true:=by
     rcases hc with rfl | rfl
     .exact small_one 00 00 00 00
     .exact pO 00 00 00 00
    have Y:Builtin.Range.rangeSize i j c=((if c=1 then (j - i).toNat else (i - j).toNat:Nat):Int):=by
     rcases hc with rfl | rfl
     .rw[rangeSize_one];split <;> simp <;> lia
     .rw[RB,if_neg (by decide:¬(-1:Int)=1)];split <;> lia
    refine call_range_3 (by rcases hc with rfl | rfl <;> decide) ?_ (Or.inl (PyProof.noPylong_small 00));refine wpAny_pyIter_range (IsRange.new ..) O ?_;have G:Inv X jb U H1 { q with heap:=q.heap.push { cls:=.type "range",data:=.fields #[.int i t,.int j u,.int c v] },toks:=q.toks }:=I1.kept λb o e=>Qax _ e;refine{(q.heap.push { cls:=.type "range",data:=.fields #[.int i t,.int j u,.int c v] }).objs.size,[(q.heap.push { cls:=.type "range",data:=.fields #[.int i t,.int j u,.int c v] }).objs.size],_,_,H1,rq,G.kept (t':=q.toks) λb o e=>Qax _ e,iB _ i c _,?_,λb hb=>?_,aa}
    .show IsRangeIter _ _ (i+((0:Nat):Int)*c) (((if c=1 then (j - i).toNat else (i - j).toNat:Nat):Int) - ((0:Nat):Int)) c
     rw[<-Y];simp only[Int.natCast_zero,Int.zero_mul,Int.add_zero,Int.sub_zero];exact QaM _ rfl
    .have e:b=(q.heap.push { cls:=.type "range",data:=.fields #[.int i t,.int j u,.int c v] }).objs.size:=by simpa using hb
     subst e;exact G.QD (QcA _) (G.hok.fresh (QcA _))
end
open PySem.W (KasT kas_asc kas_desc kas_rev kas_tail3 kas_descPart kas_count kas_place kas_bin kas_sort)
section
variable{prog:Program}{w:World}{A:Around}{s:Shared}
end
theorem oN{lo c:Int}{n:Nat}{g:TG}{tb:TS}{D:Ends}{U : St}{H:Hp}(Pv:YN)(I:Pv 0 U H)
  (hs:∀i U H,i < n->Pv i U H->g (.int (lo+(i:Int)*c)) U H fun j H2=>tb { D with nx:=Pv (i+1),ct:=Pv (i+1),bk:=D.nx } j H2) (J:∀ U H,Pv n U H->D.nx U H) :
  ∃W:Nat->YN,(∃m,W 0 m U H)/\∀i m U H,W i m U H ->
   ((gY lo c n).stop i H/\D.nx U H)\/((gY lo c n).go i H/\∃N:YO,(∀ q H',N q H'->∃G,G < m/\W (i+1) G q H')/\∀x H',(gY lo c n).yld i H x H'->g x U H' fun j H2=>tb { D with nx:=N,ct:=N,bk:=D.nx } j H2):=by
 refine{λi m U H=>m=n - i/\i<=n/\Pv i U H,⟨n,by simp,QcB _,I⟩,?_};rintro i m U H ⟨rfl,hi,p⟩;by_cases z:i < n
 .refine .inr ⟨z,Pv (i+1),fun q H' O=>{n - (i+1),by lia,rq,z,O},λx H' y=>?_⟩;obtain⟨rfl,rfl⟩:=y;exact hs i U _ z p
 .have e:i=n:=by lia
  subst e;exact .inl {QcA _,J U H p}
end L2
namespace L2
open PySem PySem.Spec PyProof.Rows
def U3(a:Addr)(o:Obj)(kvs:YL):It:=
 {λi H=>i < kvs.length/\H a=some (.frz o (.dT kvs)),λi H x H'=>H'=H/\∃b j,kvs[i]?=some j/\H b=some (.tup (j.1.map kV))/\x=.ref b,λi H=>i=kvs.length/\H a=some (.frz o (.dT kvs))}
theorem uH{P:Program}{w:World}{K:YD}{tg:Expr}(a it:Addr)(o:Obj)(kvs:YL){es:YK}{ep:Nat}(ho:o.data=.dict es ep)(N:es.size=kvs.length):Turn P w K tg (U3 a o kvs) [it] it (λi h=>h.IsKeyIter it a i kvs.length ep) where
 mem:=by simp
 obj:=λi h st b j=>by
  have e:b=it:=by simpa using j
  subst e;obtain⟨oi,q,c,d⟩:=st;exact⟨oi,q,λv z=>by rw[d] at z;cases z⟩
 keep:=λi h h' st k=>st.at λob q=>k it 04 ob q
 item:=by
  intro X hP hw hK hc i jb s U H E I G st hg;subst hP hw hK;obtain⟨hi,O⟩:=hg;obtain⟨_,⟨hz,aa⟩,da⟩:=Qc I O ho;obtain⟨J,ab⟩ : ∃J,kvs[i]?=some J:={kvs[i],by simp[hi]};obtain⟨b,en,af,ae,j,ag⟩:=aa i J ab;rw[<-N] at st;refine cI st da af λh' Y sb=>?_;have I1:Inv X jb U H { s with heap:=h' }:=I.Nu (t':=s.toks) (λb ob j q=>(sb.2 b (λz=>j (by simp[z]))).trans q) G;obtain⟨oi,q,c,d⟩:=id Y;rw[N] at Y;exact⟨en.key,rq,Uy (s:={ s with heap:=h' }) q c d 05 {.ref b,H,I1,by rw[ae];exact rfl,⟨rq,b,J,ab,j,rq⟩,Y,λb j=>(G b j).1}⟩
 done:=by
  intro X hP hw hK hc i jb s U H E I G st hg;subst hP hw hK;obtain⟨hi,O⟩:=hg;obtain⟨_,⟨hz,aa⟩,da⟩:=Qc I O ho;rw[<-N] at st;exact jN (I.ok.hd hc) st da (by simp;lia) λh' ext=>⟨rq,I.Nu (t':=s.toks) (λb ob j q=>ext b ob (λz=>j (by simp[z])) q) G⟩
 self:=λA i s Q E st q=>wpAny_pyIter_keyiter st q
def D6(td:TE):TI:=fun U H R=>td U H λx H1=>∃a kvs,x=.ref a/\H1 a=some (.dT kvs)/\∀o,R (U3 a o kvs) (upd H1 a (.frz o (.dT kvs)))
theorem cU{X:Cx}{tg d:Expr}{td:TE}(hd:PE X d td):PI X tg d (D6 td):=by
 intros R aa h;refine thn (hd jb s U H _ aa h) λv j zz=>?_;obtain⟨x,H1,z,r1,a,kvs,ex,e,q⟩:=zz;subst ex;cases r1;obtain⟨t1,t2,Y⟩:=Xi z (.inr ⟨kvs,.inl e⟩);obtain⟨o,J,G⟩:=z.j8 e;obtain⟨_,_,xs,h3,ob,es,ep,N,h5,O,h7,_⟩:=(show Bs X.prog X.w H1 j.heap a (.dT kvs) from z.hok a _ e)
 rw[J] at N;cases N;have I:=(Xb h3 h7).1;have da:M5 j.heap a es ep:=⟨o,J,h5,O⟩;refine cJ Y da ?_;refine⟨j.heap.objs.size,[j.heap.objs.size],_,_,_,rq,G.kept (t':=j.toks) λb u q=>Qax _ q,uH a _ o kvs O I,?_,λb hb=>?_,q o⟩
 .rw[<-I];exact{_,QaM _ rfl,rq,rq}
 .have ab:b=j.heap.objs.size:=by simpa using hb
  subst ab;exact G.QD (QcA _) (G.hok.fresh (QcA _))
section
variable{a l:Addr}{o:Obj}{kvs:YL}{g:TG}{tt:TT}{tk tv:TE}{tb:TS}{Q:VK}{D:Ends}{U : St}{H:Hp}
theorem SH(Pv:YN)(Y:Pv 0 U H)(hl:∀i U H',i<=kvs.length->Pv i U H'->H' a=some (.frz o (.dT kvs)))
  (hs:∀i j b U H',kvs[i]?=some j->Pv i U H'->H' b=some (.tup (j.1.map kV))->g (.ref b) U H' fun z H2=>tb { D with nx:=Pv (i+1),ct:=Pv (i+1),bk:=D.nx } z H2) (hd:∀ U H',Pv kvs.length U H'->D.nx U H') :
  ∃W:Nat->YN,(∃m,W 0 m U H)/\∀i m U H,W i m U H ->
   ((U3 a o kvs).stop i H/\D.nx U H)\/((U3 a o kvs).go i H/\∃N:YO,(∀ G H',N G H'->∃J,J < m/\W (i+1) J G H')/\∀x H',(U3 a o kvs).yld i H x H'->g x U H' fun z H2=>tb { D with nx:=N,ct:=N,bk:=D.nx } z H2):=by
 refine{λi m U H=>m=kvs.length - i/\i<=kvs.length/\Pv i U H,⟨kvs.length,by simp,QcB _,Y⟩,?_};rintro i m U H ⟨rfl,hi,p⟩;have q:=hl i U H hi p;by_cases I:i < kvs.length
 .refine .inr {⟨I,q⟩,Pv (i+1),fun G H' p'=>{kvs.length - (i+1),by lia,rq,I,p'},λx H' y=>?_};obtain⟨rfl,b,j,O,hb,rfl⟩:=y;exact hs i j b U _ O p hb
 .have e:i=kvs.length:=by lia
  subst e;exact .inl {⟨rq,q⟩,hd U H p}
theorem ZG{I:St}{N:Hp}(Pv:YN)(h0:Pv 0 I N)(hl:∀i U H',i<=kvs.length->Pv i U H'->H' a=some (.frz o (.dT kvs)))
  (hs:∀i z b U H',kvs[i]?=some z->Pv i U H'->H' b=some (.tup (z.1.map kV))->g (.ref b) U H' fun j O=>tt j O λc Y=>if c=true then tk j Y λy H5=>tv j H5 λab G=>∃(ks:YL) (k:List Key) (b:Addr),G l=some (.dT ks)/\y=.ref b/\G b=some (.tup (k.map kV))/\ks.length < sizeLine/\Pv (i+1) j (upd G l (.dT (putK ks k ab))) else Pv (i+1) j Y)
  (hd:∀ U H',Pv kvs.length U H'->Q (.ref l) H'):QX (U3 a o kvs) g tt tk tv Q I N l:=by
 unfold QX;refine{λi m U H'=>m=kvs.length - i/\i<=kvs.length/\Pv i U H',⟨kvs.length,by simp,QcB _,h0⟩,?_};rintro i m U H' ⟨rfl,hi,p⟩;have q:=hl i U H' hi p;by_cases J:i < kvs.length
 .refine .inr {⟨J,q⟩,Pv (i+1),fun j O p'=>{kvs.length - (i+1),by lia,rq,J,p'},λx H2 y=>?_};obtain⟨rfl,b,z,aa,hb,rfl⟩:=y;exact hs i z b U _ aa p hb
 .have e:i=kvs.length:=by lia
  subst e;exact .inl {⟨rq,q⟩,hd U H' p}
end
section
variable{X:Cx}{K:YD}
theorem mL(h:X.K=K)(hu:X.A.units+66 < cLine):OpR X (compareOp .NotIn) (λx y H Q=>∃l xs d ds,y=.ref l/\SqL K H l xs/\Jw K H xs ds/\JN K H x d/\SeqAt.shaped d=true/\PyData.canLayAll0 ds=true/\Q (.bl (!ds.any λaa=>PyData.eqv aa d)) H):=by
 subst h;intros x y v u Q I z G J;obtain⟨l,xs,d,ds,rfl,N,O,Y,j,hc,ab⟩:=J;cases G;obtain⟨ae,rv,⟨o,n,ho,q,af,hd⟩,_⟩:=I.list N;obtain⟨as,r1⟩:=Jw.reads I O rv;obtain⟨bs,r2⟩:=JN.reads I Y z;refine SeqAt.notIn_list_reads (xs:=ds) (d:=d) (.list ho q hd (by simpa using r1)) r2 hc (SeqAt.canLay_of_shaped j) (room_in_shaped j 00) {.bl _,H,I,rq,ab}
end
structure Xx(P:Program)(w:World)(K:YD)(mg:YB)(base:Heap)(C:Addr)(k:Nat)(ps:YF)(sp:Sp):Prop where
 ex:∃(f:Addr) (fd:FuncData),Mk K C f/\Binds K fd ps []/\Gy P w K mg base (CX1 P w) k f fd ps sp
theorem EK{P:Program}{w:World}{K:YD}{mg:YB}{base:Heap}{C:Addr}{m q:Str}{st:Stmt}{ps N:YF}{k:Nat}{sp:Sp}(c:∃f fd,Fun K m q st f fd/\Mk K C f/\Binds K fd ps [])(S:Ay N ps (Ai st))(len:∀vs H Q E,sp vs H Q E->vs.length=ps.length)
  (z:∀(X:Cx) (f:Addr) (j:Value) (A:Around) (outer:List Env) (s:Shared) (H:Hp) (vs:YG) (Q:VK) (E:XK),X=Lg (CX1 P w) P w K mg base N q (Ai st) f j A outer s H E->Qg X (λ_=>E)->Cd k X.A->sp vs H Q E ->
   ∃t,PSs X (Dd st) t/\t { nx:=λ_ H'=>Q .non H',rt:=Q } (start N vs) H):Xx P w K mg base C (k+1) ps sp:=by
 obtain⟨f,fd,F,M,b⟩:=c;refine⟨f,fd,M,b,?_⟩;obtain⟨oc,od,kV,O,pm,an,j,ct,Y,rfl,lk,G⟩:=F.ex;exact oO lk G S len λA outer s H vs Q E J I=>z _ f j A outer s H vs Q E rfl cZ J I
def B8(C:Addr)(sp:Sp)(j:St->XK)(t:TA):TE:=fun U H Q=>t U H λvs H1=>∀x dx,H1 x=none->H1 dx=none->dx≠x ->
 sp (.ref x::vs) (upd (upd H1 dx (.own x)) x (.ins C dx [])) (λv H2=>v=.non/\Q (.ref x) H2) (j U)
theorem CY{X:Cx}{N:St->XK}{k k':Nat}{C:Addr}{ps:YF}{sp:Sp}{x:Str}{p pos:Pos}{e:Expr}{es:YJ}{t:TA}(g:Xx X.prog X.w X.K X.mg X.base C k ps sp)(hr:Cd k' X.A)(hm:X.mg x=some (.ref C))(hx:Qg X N)(ha:PA X (e::es) t)(hk:k+1<=k':=by decide)(hg:Gl X x:=by rfl)
  (aa:'f'=false:=by decide) (he:starEach (e::es) X.env=(false,eval e X.env)::starEach es X.env:=by rfl) (ab:(backTo pos (starEach es X.env)).any (·.1)=false:=by rfl) :
  PE X (.Call (.Name x p) (e::es) [] pos) (B8 C sp N t):=by
 intros Q I h;obtain⟨f,fd,M,b,F⟩:=g.ex;refine Qbh (JZ I hg hm ?_ aa);refine callWith_K (h₀:=X.base) I.ok.mod.kin M.kp (thn (ha pos jb s U H _ I h) λq j zz=>?_) he ab;obtain⟨vs,H1,G,r,ae⟩:=zz;refine⟨G.kIn,?_⟩;have O:=ae (j.heap.objs.size+1) j.heap.objs.size (G.hok.fresh (QcF _)) (G.hok.fresh (QcA _)) (Qcr (QbE _));have J:=Inv.made (C:=C) G;have Y:Vals (V.ref (j.heap.objs.size+1)::vs) (Value.ref (j.heap.objs.size+1)::q):=.cons rfl r;have hl:(Value.ref (j.heap.objs.size+1)::q).length=ps.length:=by rw[<-Y.length];exact F.len _ _ _ _ O
 have bd:=b _ (Value.ref (j.heap.objs.size+1)::q) J.kIn (by rw[QbM];exact hl);rw[QbM] at bd;refine wpAny_call (dZ (f:=f) G.kIn M.makes M.init (beq_iff_eq.mp M.fn) (Qcw (F.run _ X.stack _ _ {Value.ref (j.heap.objs.size+1)::q,[]} (Value.ref (j.heap.objs.size+1)::q) _ _ (N U) ((hr.mono hk).make C q [])
  (J.env0.make C q []) bd Y O) λr s' z=>?_))
 cases r with
 | error e=>exact hx jb U _ _ e s' J z
 | ok fl=>
  cases fl with
  | ret u=>
   obtain⟨v,H',I3,rv,ev,q3⟩:=J.after z;subst ev;exact⟨rv,{V.ref (j.heap.objs.size+1),H',I3,rq,q3}⟩
  | next=>exact False.elim z
  | brk=>exact False.elim z
  | cont=>exact False.elim z
def tC1(sp:Sp)(t0:TE):TE:=fun U H Q=>t0 U H λj q=>sp [j] q Q E0
def tC2(sp:Sp)(t0 t1:TE):TE:=fun U H Q=>t0 U H λj q=>t1 U q λz H1=>sp [j,z] H1 Q E0
def tC3(sp:Sp)(t0 t1 t2:TE):TE:=fun U H Q=>t0 U H λj q=>t1 U q λz H1=>t2 U H1 λG H2=>sp [j,z,G] H2 Q E0
def tC4(sp:Sp)(t0 t1 t2 t3:TE):TE:=fun U H Q=>t0 U H λj q=>t1 U q λz H1=>t2 U H1 λG H2=>t3 U H2 λI J=>sp [j,z,G,I] J Q E0
def tC5(sp:Sp)(t0 t1 t2 t3 t4:TE):TE:=fun U H Q=>t0 U H λj q=>t1 U q λz H1=>t2 U H1 λG H2=>t3 U H2 λI J=>t4 U J λN O=>sp [j,z,G,I,N] O Q E0
def tC6(sp:Sp)(t0 t1 t2 t3 t4 t5:TE):TE:=fun U H Q=>t0 U H λj q=>t1 U q λz H1=>t2 U H1 λG H2=>t3 U H2 λI J=>t4 U J λN O=>t5 U O λY H5=>sp [j,z,G,I,N,Y] H5 Q E0
def tM0(C:Addr)(m:Str)(sp:Sp)(ta:TE):TE:=fun U H Q=>ta U H λx G=>∃a dx fs,x=.ref a/\G a=some (.ins C dx fs)/\fs.lookup m=none/\sp [x] G Q E0
def tM1(C:Addr)(m:Str)(sp:Sp)(ta t0:TE):TE:=fun U H Q=>ta U H λx G=>∃a dx fs,x=.ref a/\G a=some (.ins C dx fs)/\fs.lookup m=none/\t0 U G λj q=>sp [x,j] q Q E0
def tM2(C:Addr)(m:Str)(sp:Sp)(ta t0 t1:TE):TE:=fun U H Q=>ta U H λx G=>∃a dx fs,x=.ref a/\G a=some (.ins C dx fs)/\fs.lookup m=none/\t0 U G λj q=>t1 U q λz H1=>sp [x,j,z] H1 Q E0
section
variable{X:Cx}{pl:Sem Bool}{k k':Nat}{C:Addr}{ps:YF}{sp:Sp}{x m:Str}{p apos pos:Pos}{o e0 e1 e2 e3 e4 e5:Expr}{ta t0 t1 t2 t3 t4 t5:TE}
theorem Cr(g:Good X.prog X.w X.K X.mg X.base x k ps sp)(z:Cd k' X.A)(G:PA X [e0] (Dv t0 MK))(I:k<=k':=by decide)(J:Gl X x:=by rfl)(j:'f'=false:=by decide)(N:starEach [e0] X.env=(false,eval e0 X.env)::starEach [] X.env:=by rfl)(q:(backTo pos (starEach [] X.env)).any (·.1)=false:=by rfl):PE X (.Call (.Name x p) [e0] [] pos) (tC1 sp t0):=Uj g z G I J j N q
theorem Ce(g:Good X.prog X.w X.K X.mg X.base x k ps sp)(z:Cd k' X.A)(G:PA X [e0,e1] (Dv t0 (Dv t1 MK)))(I:k<=k':=by decide)(J:Gl X x:=by rfl)(j:'f'=false:=by decide)(N:starEach [e0,e1] X.env=(false,eval e0 X.env)::starEach [e1] X.env:=by rfl)(q:(backTo pos (starEach [e1] X.env)).any (·.1)=false:=by rfl):PE X (.Call (.Name x p) [e0,e1] [] pos) (tC2 sp t0 t1):=Uj g z G I J j N q
theorem Dc(g:Good X.prog X.w X.K X.mg X.base x k ps sp)(z:Cd k' X.A)(G:PA X [e0,e1,e2] (Dv t0 (Dv t1 (Dv t2 MK))))(I:k<=k':=by decide)(J:Gl X x:=by rfl)(j:'f'=false:=by decide)(N:starEach [e0,e1,e2] X.env=(false,eval e0 X.env)::starEach [e1,e2] X.env:=by rfl)(q:(backTo pos (starEach [e1,e2] X.env)).any (·.1)=false:=by rfl):PE X (.Call (.Name x p) [e0,e1,e2] [] pos) (tC3 sp t0 t1 t2):=Uj g z G I J j N q
theorem SX(g:Good X.prog X.w X.K X.mg X.base x k ps sp)(z:Cd k' X.A)(G:PA X [e0,e1,e2,e3] (Dv t0 (Dv t1 (Dv t2 (Dv t3 MK)))))(I:k<=k':=by decide)(J:Gl X x:=by rfl)(j:'f'=false:=by decide)(N:starEach [e0,e1,e2,e3] X.env=(false,eval e0 X.env)::starEach [e1,e2,e3] X.env:=by rfl)(q:(backTo pos (starEach [e1,e2,e3] X.env)).any (·.1)=false:=by rfl):PE X (.Call (.Name x p) [e0,e1,e2,e3] [] pos) (tC4 sp t0 t1 t2 t3):=Uj g z G I J j N q
theorem C6(g:Good X.prog X.w X.K X.mg X.base x k ps sp)(z:Cd k' X.A)(G:PA X [e0,e1,e2,e3,e4] (Dv t0 (Dv t1 (Dv t2 (Dv t3 (Dv t4 MK))))))(I:k<=k':=by decide)(J:Gl X x:=by rfl)(j:'f'=false:=by decide)(N:starEach [e0,e1,e2,e3,e4] X.env=(false,eval e0 X.env)::starEach [e1,e2,e3,e4] X.env:=by rfl)(q:(backTo pos (starEach [e1,e2,e3,e4] X.env)).any (·.1)=false:=by rfl):PE X (.Call (.Name x p) [e0,e1,e2,e3,e4] [] pos) (tC5 sp t0 t1 t2 t3 t4):=Uj g z G I J j N q
theorem qm(g:Good X.prog X.w X.K X.mg X.base x k ps sp)(z:Cd k' X.A)(G:PA X [e0,e1,e2,e3,e4,e5] (Dv t0 (Dv t1 (Dv t2 (Dv t3 (Dv t4 (Dv t5 MK)))))))(I:k<=k':=by decide)(J:Gl X x:=by rfl)(j:'f'=false:=by decide)(N:starEach [e0,e1,e2,e3,e4,e5] X.env=(false,eval e0 X.env)::starEach [e1,e2,e3,e4,e5] X.env:=by rfl)(q:(backTo pos (starEach [e1,e2,e3,e4,e5] X.env)).any (·.1)=false:=by rfl):PE X (.Call (.Name x p) [e0,e1,e2,e3,e4,e5] [] pos) (tC6 sp t0 t1 t2 t3 t4 t5):=Uj g z G I J j N q
theorem F5(q:PE X o ta)(c:Cls X.K C)(g:FN X.prog X.w X.K X.mg X.base C m k ps sp)(z:Cd k' X.A)(G:k<=k':=by decide)(I:eval (.Call (.Attribute o m apos) [] [] pos) X.env=(do
   let j <-eval o X.env
   standAt apos.atName
   let (f,first) <-holding [j] (getMethod j m pl)
   callWith pos f first (backTo pos (starEach [] X.env)) (backToKw pos (keywordEach [] X.env))):=by rfl):PE X (.Call (.Attribute o m apos) [] [] pos) (tM0 C m sp ta):=CU (pl:=pl) q c g z G I
theorem WK(G:PE X o ta)(c:Cls X.K C)(g:FN X.prog X.w X.K X.mg X.base C m k ps sp)(I:Cd k' X.A)(J:PA X [e0] (Dv t0 MK))(N:k<=k':=by decide)(q:starEach [e0] X.env=(false,eval e0 X.env)::starEach [] X.env:=by rfl)(z:(backTo pos (starEach [] X.env)).any (·.1)=false:=by rfl)(O:eval (.Call (.Attribute o m apos) [e0] [] pos) X.env=(do
   let j <-eval o X.env
   standAt apos.atName
   let (f,first) <-holding [j] (getMethod j m pl)
   callWith pos f first (backTo pos (starEach [e0] X.env)) (backToKw pos (keywordEach [] X.env))):=by rfl):PE X (.Call (.Attribute o m apos) [e0] [] pos) (tM1 C m sp ta t0):=yR (pl:=pl) G c g I J N q z O
theorem yS(G:PE X o ta)(c:Cls X.K C)(g:FN X.prog X.w X.K X.mg X.base C m k ps sp)(I:Cd k' X.A)(J:PA X [e0,e1] (Dv t0 (Dv t1 MK)))(N:k<=k':=by decide)(q:starEach [e0,e1] X.env=(false,eval e0 X.env)::starEach [e1] X.env:=by rfl)(z:(backTo pos (starEach [e1] X.env)).any (·.1)=false:=by rfl)(O:eval (.Call (.Attribute o m apos) [e0,e1] [] pos) X.env=(do
   let j <-eval o X.env
   standAt apos.atName
   let (f,first) <-holding [j] (getMethod j m pl)
   callWith pos f first (backTo pos (starEach [e0,e1] X.env)) (backToKw pos (keywordEach [] X.env))):=by rfl):PE X (.Call (.Attribute o m apos) [e0,e1] [] pos) (tM2 C m sp ta t0 t1):=yR (pl:=pl) G c g I J N q z O
end
open PySem.W (KasT kas_asc kas_desc kas_rev kas_tail3 kas_descPart kas_count kas_place kas_bin kas_sort)
section
variable{prog:Program}{w:World}{A:Around}{s:Shared}
end
end L2
namespace L2
open PySem PySem.Spec PyProof.Rows
def TOk(b:Bool)(t:SetTable):Prop:=t.led=b/\t.dummies=#[]/\(t.plain=true->t.place.toList.Pairwise (· < ·))
section
variable{prog:Program}{w:World}{KT:Type} [DecidableEq KT] (kn:KeyKind prog w KT)
def SetT(b:Bool)(h:Heap)(a:Addr)(S:KT->Bool)(n:Nat):Prop:=
 ∃ob es ep t,(h.get? a=some ob/\ob.ExactSet/\ob.data=.set es ep t)/\(ElemsOf kn es.toList/\∀k,S k=true ↔ ∃e∈es.toList,kn.is k e.2=true)/\(es.size < scanBound/\t.fits es.size=true/\es.size=n)/\TOk b t
variable {kn}
variable{A:Around}{E:YA}{s:Shared}
theorem SetT.stored{b:Bool}{h:Heap}{a:Addr}{ob:Obj}{es:Array (Int×Value)}{ep:Nat}{t:SetTable}(J:h.get? a=some ob)(z:ob.ExactSet)(N:ob.data=.set es ep t)
  {j:Array (Int×Value)} {t':SetTable} {G:KT->Bool} (k1:ElemsOf kn j.toList) (k2:∀k,G k=true ↔ ∃e∈j.toList,kn.is k e.2=true) (k3:j.size < scanBound) (I:t'.fits j.size=true) (k5:TOk b t') :
  (h.update a (Obj.putSet j t')).get? a=some { ob with data:=.set j (ep+1) t' }/\SetT kn b (h.update a (Obj.putSet j t')) a G j.size:=by
 obtain⟨q,_⟩:=SetOf_store (knd:=kn) J z N k1 k2 k3 I;exact⟨q,_,j,ep+1,t',⟨q,z,rq⟩,⟨k1,k2⟩,⟨k3,I,rq⟩,k5⟩
end
def met{KT:Type} [DecidableEq KT] (j:Nat->KT):Nat->List KT
 | 0=>[]
 | i+1=>if j i∈met j i then met j i else met j i++[j i]
section
variable{KT:Type} [DecidableEq KT]
end
section
variable{prog:Program}{w:World}{KT:Type} [DecidableEq KT] {kn:KeyKind prog w KT} {A:Around} {E:YA} {s:Shared}
end
section
variable{prog:Program}{w:World}{A:Around}{E:YA}{s:Shared}
end
section
variable{prog:Program}{w:World}{A:Around}{E:YA}{s:Shared}
end
section
variable{prog:Program}{w:World}{A:Around}{E:YA}{s:Shared}
end
open PySem.Calls (spliced_cons spliced_nil)
section
variable{prog:Program}{w:World}{A:Around}{E:YA}{s:Shared}
end
end L2
namespace L2
open PySem PySem.Spec PyProof.Rows
section
variable{X:Cx}{K:YD}
end
theorem Rep.kn{H:Hp}{v:V}{d:PyData}(r:Rep H v d):Kn H v:=by
 cases r with
 | non=>exact True.intro
 | bl b=>exact True.intro
 | int i=>exact True.intro
 | str x=>exact True.intro
 | tup e _=>exact .inr ⟨_,e⟩
 | lst e _=>exact .inl ⟨_,e⟩
end L2
namespace PySem.ZZ
open PySem
section
variable{prog:Program}{w:World}{A:Around}{E:YA}{s:Shared}
abbrev itS(x:Str)(t:Tok):Obj:={ cls:=.type "str_ascii_iterator",data:=.fields #[.str x t,.int 0 0] }
abbrev zsa(h:Heap)(x:Str)(t:Tok)(l2:Addr):Heap:=((((h.push (itS x t)).push (itO "tuple_iterator" l2)).push (tuO #[.ref h.objs.size,.ref (h.push (itS x t)).objs.size])).push (tuO #[.none,.none]))
abbrev zs(h:Heap)(x:Str)(t:Tok)(l2:Addr):Heap:=(zsa h x t l2).push
 { cls:=.type "zip",data:=.fields #[.none,.bool false,.bool false,.ref ((h.push (itS x t)).push (itO "tuple_iterator" l2)).objs.size,.ref (((h.push (itS x t)).push (itO "tuple_iterator" l2)).push (tuO #[.ref h.objs.size,.ref (h.push (itS x t)).objs.size])).objs.size] }
end
end PySem.ZZ
namespace L2
open PySem PySem.Spec PyProof.Rows
section
variable{X:Cx}
end
open PySem.Calls (spliced_cons spliced_nil)
theorem StrsAre.len:∀{vs:YE} {j:YF},StrsAre vs j->vs.length=j.length
 | _,_,.nil=>rfl
 | _,_,.cons _ _ r=>by rw[Qbz,Qbz,StrsAre.len r]
theorem StrsAre.at_:∀{vs:YE} {j:YF},StrsAre vs j->∀(i:Nat) (v:Value),vs[i]?=some v->∃t,v=.str (j.getD i Str.empty) t
 | _,_,.nil,i,v,e=>by simp at e
 | _,_,.cons x t r,0,v,e=>by
  simp at e;exact⟨t,by rw[<-e];rfl⟩
 | _,_,.cons x t r,i+1,v,e=>by
  simp at e;obtain⟨q,h⟩:=StrsAre.at_ r i v e;exact⟨q,by rw[h];rfl⟩
section
variable{prog:Program}{w:World}{A:Around}{E:YA}{s:Shared}
end
section
variable{X:Cx}
end
end L2
namespace L2
open PySem PySem.Spec PyProof.Rows
def FG(K:YD)(HC:Addr)(i:Nat)(tb:(St->XK)->TS)(th:Addr->TS)(te:TS):TS:=λD U H=>tb (oR K HC i th D) { D with nx:=fun j H'=>te D j H' } U H
theorem AA{X:Cx}{HC:Addr}{i:Nat}{n x:Str}{tb:(St->XK)->TS}{th:Addr->TS}{te:TS}{ah ag af:List Stmt}{ai : Stmt}{np am pos:Pos}(hN:X.N.Nodup)(hi:X.N[i]?=some n)(O:X.env.scope.names.lookup n=some .local)(ab:X.stack=X.env::X.outer)
  (hf:X.env.frame=some X.env.locals) (hg:Gl X x) (hm:X.mg x=some (.ref HC)) (TH:XCl X.K HC)
  (h1:∀pn Y EX,Qg (X.by pn Y) EX->PSs (X.by pn Y) ah (tb EX)) (h2:∀pn (e:Addr),PSs (X.suite pn (.ref e)) (ai::ag) (th e)) (h3:PSs X af te) (an:'f'=false:=by decide) :
  PS X (.Try ah [.ExceptHandler (some (.Name x np)) (some n) (ai::ag) am] af [] pos) (FG X.K HC i tb th te):=by
 intros D aa h;have ao:X.A.frames=some (X.env::X.outer):=aa.ok.frames.trans (congrArg some ab);let Y:YA:=λev al=>∃(Ij:YC) (z:St) (H':Hp) (s':Shared),Inv (X.by (X.pn++jb) λ_ _=>False) Ij z H' s'/\CX1 X.prog X.w X.stack H' s' (oR X.K HC i th D z) ev al;have hp:Qg (X.by (X.pn++jb) Y) (oR X.K HC i th D):=λIj z H' s' ev al j c=>⟨Ij,z,H',s',{⟨j.ok.mod,j.ok.kind,j.ok.glob,j.ok.blt,j.ok.above,j.ok.inj,j.ok.has,j.ok.cab,j.ok.hd,j.ok.frames,j.ok.stk,j.ok.exf,j.ok.bs,j.ok.bsz,j.ok.OD,j.ok.Lf,j.ok.G7,j.ok.frf⟩,j.os,j.bare,j.base,j.loc,j.cell,j.free,j.FJ,j.pin,j.hok,j.len},c⟩;refine wpAny_Try_except (QcI (h1 _ Y _ hp [] s U H { D with nx:=fun z H'=>te D z H' } (aa.by Y) h) (λf s1 q=>?_) λev s1 q=>?_)
 .cases f with
  | next=>
   obtain⟨ap,H2,I2,q2⟩:=q;exact h3 jb s1 ap H2 D I2.Q0 q2
  | brk=>exact SP.Q0 (f:=.brk) q
  | cont=>exact SP.Q0 (f:=.cont) q
  | ret u=>exact SP.Q0 (f:=.ret u) q
 .obtain⟨Ij,z,H',s',j,e,C,B,H2,rfl,x1,D1,hC,T,hs,ar⟩:=q;cases hC;obtain⟨fl,as,f0⟩:=x1.fl;rw[ab] at f0;refine kh as ao hf f0 λha fa ua=>?_;refine fM fa λhb fb ub=>?_;have au:Fl B X.stack e C (some .none) hb:=by rw[ab];exact fb
  have aw:=Exc.caught j x1 au (ua.trans ub);have JS:=aw.suite (Value.ref e);refine wpAny_handleBy_cons (codeAny_handlers_test (JZ JS hg hm ?_ an)) (by intro q;cases q);refine BU JS.kIn TH hs fb.tr.at (codeAny_handlers_suite_as ?_);refine fM fb λhc fc uc=>?_;have av:Fl B X.stack e C (some .none) hc:=by rw[ab];exact fc
  have J2:=(Exc.caught j x1 av ((ua.trans ub).trans uc)).suite (Value.ref e);refine KY (X:=X.suite (X.pn++jb) (.ref e)) (v:=.ref e) (i:=i) J2 hN hi (.inl O) rfl (λs4 J4=>?_) (.inr O);refine QcI (h2 _ _ Ij s4 _ _ (D.drop i) J4 (ar e x1.free)) (λf s5 q=>?_) λ_ _ ax=>ax.elim;cases f with
  | next=>
   obtain⟨ae,H5,G,I⟩:=q;exact Ux (G.T9 aa.ok.hd) hN hi O λs6 J=>⟨_,_,J,I⟩
  | brk=>
   obtain⟨ae,H5,G,I⟩:=q;exact Ux (G.T9 aa.ok.hd) hN hi O λs6 J=>⟨_,_,J,I⟩
  | cont=>
   obtain⟨ae,H5,G,I⟩:=q;exact Ux (G.T9 aa.ok.hd) hN hi O λs6 J=>⟨_,_,J,I⟩
  | ret u=>
   obtain⟨v5,ae,H5,G,r5,I⟩:=q;exact Ux (G.T9 aa.ok.hd) hN hi O λs6 J=>⟨v5,_,_,J,r5,I⟩
section
variable{prog:Program}{w:World}{A:Around}{E:YA}{s:Shared}{R:Result->Shared->Prop}
theorem Wk{d it l:Addr}{items:YE}{res:Value}(hu:A.units+1 < cLine)(hh:A.handled=none)(J:d≠it)(ab:l≠d)(ae:l≠it):∀(z:List (Addr×List Key×Addr×Value)) (i:Nat) (acc:List (List Key×Addr×Value)) (s:Shared),s.heap.IsTupleIter it l i->s.heap.IsTuple l items.toArray ->
  items.drop i=z.map (λr=>Value.ref r.1)->(∀r∈z,s.heap.IsTuple r.1 #[.ref r.2.2.1,r.2.2.2]/\'k'.is s.heap r.2.1 r.2.2.1/\(r.1≠d/\r.1≠it)/\r.2.2.1≠d/\r.2.2.1≠it)->(∀x∈acc,x.2.1≠d/\x.2.1≠it)->(acc.map (·.1)++z.map (·.2.1)).Nodup->s.heap.DictOfH 'k' d acc->acc.length+z.length<=sizeLine ->
  (∀h' tk,h'.DictOfH 'k' d (acc++z.map λr=>(r.2.1,r.2.2.1,r.2.2.2))->(∀b o,b≠d->b≠it->s.heap.get? b=some o->h'.get? b=some o)->R (.ok (.ret res)) { s with heap:=h',toks:=tk }) ->
  codeAny 01 A (.builtin "dict.update.loop" {[.ref d,.ref it,rawInt i,res],[]}) R s
 | [],i,acc,s,aa,N,O,_,Y,nd,hm,hz,hR=>by
  refine QbZ IW ?_;rw[Around.under_plainId DR _];show wpAny _ A.in1 (pyNext (.ref it) >>= _) _ _ s;have j:items.toArray[i]?=none:=by
   have:items.length<=i:=by simpa using O
   simp[this]
  refine QcG (wpAny_pyNext_tuple_end (show A.in1.handled=none from hh) aa N j λh' ex=>?_)
  refine QcG (QcH ?_);refine QcH ?_;rw[Qcx,QbM] at hR;exact hR h' s.toks (Np hm (λo e=>ex _ _ J e) λx j o e=>ex _ _ (Y x j).2 e) λb o I nt q=>ex b o nt q
 | (t,k,kb,v)::z,i,acc,s,aa,N,O,hr,Y,af,hm,hz,hR=>by
  refine QbZ IW ?_;rw[Around.under_plainId DR _];show wpAny _ A.in1 (pyNext (.ref it) >>= _) _ _ s;have j:items.toArray[i]?=some (.ref t):=by
   have:=congrArg List.head? O;rw[List.head?_drop] at this;simpa using this
  have am:items.drop (i+1)=z.map (λr=>Value.ref r.1):=by
   rw[<-List.tail_drop,O];rfl
  obtain⟨⟨ot,ho,hc,n,an⟩,hk,⟨nd,ni⟩,kd,ki⟩:=hr _ (QaW ..);refine QcG (wpAny_pyNext_tuple_item aa N j λh1 ai ao=>?_);have G:∀b o,b≠it->s.heap.get? b=some o->h1.get? b=some o:=λb o I q=>(ao.2 b I).trans q;refine QcG (Qck ?_);refine QcG (wpAny_tryCatch ?_);have hT:(⟨h1,s.gens,s.drawn,s.toks,s.os⟩ : Shared).TypeIs (.ref t) "tuple":=⟨ot,G _ _ ni ho,hc⟩;unfold Builtin.Dict.pairItems;refine QcG (Qcy hT ?_);rw[if_pos 05];refine QcG (Qce (G _ _ ni ho) an (QcH ?_));show wpAny _ A.in1 (holding [.ref kb,v] (dictSet d (.ref kb) v)) _ _ _;have ap:h1.DictOfH 'k' d acc:=Np hm (λo e=>G _ _ J e) λx j o e=>G _ _ (Y x j).2 e;have ar:=JH hk λo e=>G _ _ ki e;have al:atKey acc k=none:=gM λx j e=>by
   have:=(Qbu.mp af).2.2 x.1 (Qcq.mpr ⟨x,j,rq⟩) k (QaW ..);exact this e
  have av:acc.length+(z.length+1)<=sizeLine:=hz;refine Qck (wpAny_dictSet_heap (show 'k'.room A.in1 from Qbi hu) ar ap (λh2 ag as=>?_) 00)
  rw[storedH_new al] at ag;have k2:∀b o,b≠d->h1.get? b=some o->h2.get? b=some o:=λb o I q=>(as.2 b I).trans q;refine QcH {plainId_quiet DR _,?_};have aw:∀ah:Int,rawInt (ah+1)=rawInt (ah+1):=λ_=>rfl;have e1:rawInt ((i:Int)+1)=rawInt ((i+1:Nat):Int):=by rw[Int.natCast_add];rfl
  show codeAny 01 A (.builtin "dict.update.loop" {[.ref d,.ref it,rawInt ((i:Int)+1),res],[]}) R _;rw[e1];obtain⟨oi,b1,b2⟩:=ai;obtain⟨ol,c1,c2⟩:=N;refine Wk hu hh J ab ae z (i+1) (acc++[(k,kb,v)]) _ ⟨oi,k2 _ _ (Ne.symm J) b1,b2⟩ ⟨ol,k2 _ _ ab (G _ _ ae c1),c2⟩ am (λr au=>?_) (λx j=>?_) ?_ ag ?_ λh' tk x y=>hR h' tk (by rw[Qbm] at x;exact x) λb o I nt q=>y b o I nt (k2 _ _ I (G _ _ nt q))
  .obtain⟨⟨ob,d1,d2⟩,d3,⟨d4,d5⟩,d6,d7⟩:=hr r (QaI _ au);exact{⟨ob,k2 _ _ d4 (G _ _ d5 d1),d2⟩,JH d3 λo e=>k2 _ _ d6 (G _ _ d7 e),⟨d4,d5⟩,d6,d7}
  .rcases QbK.mp j with h | h
   .exact Y x h
   .have:x=(k,kb,v):=by simpa using h
    rw[this];exact⟨kd,ki⟩
  .rw[QbL,Qbm];exact af
  .rw[QaV];show acc.length+1+z.length<=sizeLine;lia
end
section
variable{prog:Program}{w:World}{A:Around}{E:YA}{s:Shared}
theorem YZ{l:Addr}{items:YE}{c:Nat}{z:List (Addr×List Key×Addr×Value)}{Q:YA}(hu:A.units+2 < cLine)(hh:A.handled=none){ob:Obj}(hl:s.heap.get? l=some ob)(N:ob.cls=.type "tuple")(ag:ob.dict=none)(O:ob.data=.seq items.toArray c)(hi:items=z.map (λr=>Value.ref r.1))
  (hr:∀r∈z,s.heap.IsTuple r.1 #[.ref r.2.2.1,r.2.2.2]/\'k'.is s.heap r.2.1 r.2.2.1) (nd:(z.map (·.2.1)).Nodup) (hz:z.length<=sizeLine)
  (h:∀d h' tk,∅<=d->h'.DictOfH 'k' d (z.map λr=>(r.2.1,r.2.2.1,r.2.2.2))->(∀b o,s.heap.get? b=some o->h'.get? b=some o)->Q (.ref d) { s with heap:=h',toks:=tk }) :
  wpAny 01 A (call (.type "dict") [.ref l]) Q E s:=by
 refine callType_codes (Q₁:=λaf ae=>af=.ref ∅/\ae={ s with heap:=s.heap.push { cls:=.type "dict",data:=.dict #[] } }) F.kt_called_dict (F.kt_typeCall_dict_1 _) F.entry_dict_init (kt_code_dict_new _ ⟨rq,rq⟩) ?_;rintro af ae ⟨rfl,rfl⟩;have J:(s.heap.push { cls:=.type "dict",data:=.dict #[] }).DictOfH 'k' ∅ []:=Heap.DictOfH.new s.heap;have j:∀b o,s.heap.get? b=some o->b≠∅/\(s.heap.push { cls:=.type "dict",data:=.dict #[] }).get? b=some o:=λb o q=>{Qcr (Qcp q),Qax _ q};generalize hd:∅=d at J j;have ld:∅<=d:=Nat.le_of_eq hd;generalize s.heap.push { cls:=.type "dict",data:=.dict #[] }=g1 at J j;refine⟨J.typeIs,F.args_dict_init_2 _ _,?_⟩;unfold Builtin.«dict.__init__»;refine QcG ?_;unfold Builtin.Dict.selfAndRest;refine QcG (wpAny_notOrdered_dict J.typeIs ?_);show wpAny _ _ (pure (d,[Value.ref l])) _ _ _;refine QcH ?_;show wpAny _ _ (Builtin.Dict.updateFrom "dict.__init__" d (.ref l) [] .none) _ _ _;unfold Builtin.Dict.updateFrom;have Y:=(j _ _ hl).2;refine QcG (Qcy (show (⟨g1,s.gens,s.drawn,s.toks,s.os⟩ : Shared).TypeIs (.ref l) "tuple" from⟨_,Y,N⟩) ?_)
 rw[if_pos 05];refine QcG (zM (show A.in1.in1.handled=none from hh) Y N ag O λG tk k2=>?_)
 rw[show (none:Option Value).isNone=true from rfl,if_pos rfl]
 refine QcG (wpAny_rule ?_);have aa:=k2 _ _ Y;refine QcG (Qbe (items:=items.toArray) ⟨_,aa,N,_,O⟩ ?_);obtain⟨od,es,ep,a1,a2⟩:=J;have ab:∀b o,G.get? b=some o->b≠G.objs.size:=λb o q=>Qcr (Qcp q);have k3:∀b o,G.get? b=some o->(G.push { cls:=.type "tuple_iterator",data:=.fields #[.ref l,.int 0 0] }).get? b=some o:=λb o q=>Qax _ q;refine QcH {plainId_quiet DR _,?_};have I:∀b o,s.heap.get? b=some o->(b≠d/\b≠G.objs.size)/\(G.push { cls:=.type "tuple_iterator",data:=.fields #[.ref l,.int 0 0] }).get? b=some o:=λb o q=>{{(j _ _ q).1,ab _ _ (k2 _ _ (j _ _ q).2)},k3 _ _ (k2 _ _ (j _ _ q).2)};refine Wk (items:=items) (show A.in1.units+1 < cLine from hu) (show A.in1.handled=none from hh) (ab _ _ (k2 _ _ a1)) (j _ _ hl).1 (ab _ _ aa) z 0 [] _ {_,QaM _ rfl,rq,rq} {_,k3 _ _ aa,N,_,O} (by rw[List.drop_zero];exact hi) (λr ah=>?_) (λx hx=>by cases hx) nd ?_ (by rw[List.length_nil];lia) λh' ai x y=>⟨rq,h d h' ai ld x λb o q=>y b o (j _ _ q).1 (I _ _ q).1.2 (I _ _ q).2⟩
 .obtain⟨⟨ob,d1,d2⟩,d3⟩:=hr r ah;obtain⟨oo,e0⟩:=Zw d3;exact{⟨ob,(I _ _ d1).2,d2⟩,JH d3 λo e=>(I _ _ e).2,(I _ _ d1).1,(I _ _ e0).1}
 .exact⟨od,es,ep,k3 _ _ (k2 _ _ a1),a2.1,a2.2.1,a2.2.2.1,(λx hx=>by cases hx),Qcc⟩
end
def As:YG->Hp->VK->Prop:=λxs H Q=>∃l o vs j,xs=[.ref l]/\H l=some (.frz o (.tup vs))/\Tp o/\Paired (Jr H) vs j/\(j.map (·.1)).Nodup/\j.length < 1000/\∀d,H d=none->Q (.ref d) (upd H d (.dT j))
theorem ji{X:Cx}(hu:X.A.units+64 < cLine)(hc:X.calm=true):DN X (.type "dict") As:=by
 intros xs us Q I r h;obtain⟨l,ob,Y,z,rfl,hl,tp,pr,nd,hz,aa⟩:=h;obtain⟨u,rfl,rx⟩:=vals1 r;cases rx;obtain⟨G,_,ab,rv,o,J,O,n,q⟩:=(show Bs X.prog X.w H s.heap l (.frz ob (.tup Y)) from I.hok l _ hl)
 rw[G] at J;cases J;obtain⟨rs,h1,h2,h3,h4,h5⟩:=VD I.hok pr rv;have zz:z.length<=sizeLine:=Qcu (Al (Qcu hz));refine YZ 00 (I.ok.hd hc) G O tp.2 q h1 h2 (by rw[h5];exact nd) (by rw[h4];exact zz) λd h' tk ld q kp=>?_;have N:=I.hok.fresh ld;have hb:=I.big;obtain⟨o,es,ep,g1,g2,g3,g4,_,g6⟩:=q;refine{.ref d,_,I.laid (t':=tk) (o:=.dT z) kp ld ⟨zz,QaN.mpr (Qcv (Qba hb ld)),_,Paired.Ax h3 λx y j=>⟨j.1,?_,j.2.2⟩,o,es,ep,g1,g2,g3,g4,g6⟩,rq,aa d N};rw[Ao (Aw j.2.1 N)];exact j.2.1
theorem tU{K:YD}{H:Hp}{l:Addr}{o:Obj}{vs:YG}(h:H l=some (.frz o (.tup vs))):SqT K H l vs:=.inl (.inr ⟨o,h⟩)
def clO(env:Env)(sc:Scope)(m:Nat):List (Str×Addr):=cellsFrom (m+1) sc.names (Fv env sc.names [])
def cxO(X:Cx)(N':YF)(scope:Scope)(s3:Shared)(j:Hp)(fp:List Addr)(pn:YC):Cx where
 prog:=X.prog
 w:=X.w
 K:=X.K
 mg:=X.mg
 base:=X.base
 A:=X.A
 N:=N'
 s₀:=s3
 H₀:=j
 env:=compEnvC scope (clO X.env scope s3.heap.objs.size) s3.heap.objs.size X.env
 outer:=X.stack
 stack:=X.stack
 ex:=fp
 fn:=λx=>scope.names.lookup x == some .cell
 calm:=X.calm
 pn:=pn
 xe:=λ_ _=>False
structure lD(X:Cx)(N':YF)(src:List (Option Nat))(sc:Scope):Prop where
 kind:sc.kind=.function
 once:∀y∈sc.names,sc.names.lookup y.1=some y.2
 fv:∀y∈sc.names,y.2=.free->X.env.kindOf y.1=some .cell\/X.env.kindOf y.1=some .free
 len:src.length=N'.length
 src:∀(i:Nat) (x:Str) (j:Nat),N'[i]?=some x->src[i]?=some (some j)->X.N[j]?=some x/\sc.names.lookup x=some .free
section
variable{X:Cx}{N':YF}{src:List (Option Nat)}{sc:Scope}{jb:YC}{U : St}{H:Hp}{s3:Shared}{fp:List Addr}{h1:Heap}{tk:Nat}
theorem lD.loc(S:lD X N' src sc):∀y∈sc.names,y.2=.local->sc.names.lookup y.1=some .local:=λy j e=>by rw[S.once y j,e]
end
theorem Bj.in{X:Cx}{z N':YF}{src:List (Option Nat)}{sc q:Scope}{s3:Shared}{I:Hp}{fp:List Addr}{pn:YC}(kind:sc.kind=.function)(G3:∀y∈sc.names,y.2≠.cell)(loc:∀y∈sc.names,y.2=.local->sc.names.lookup y.1=some .local)
  (fv:∀y∈sc.names,y.2=.free->q.names.lookup y.1=some .cell) (len:src.length=N'.length)
  (G:((N'.zip src).all λp=>match p.2 with | none=>true | some j=>decide (z[j]?=some p.1)&&decide (sc.names.lookup p.1=some .free))=true):Bj (cxO X z q s3 I fp pn) N' src sc where
 kind:=kind
 G3:=G3
 loc:=loc
 fv:=λy J e=>.inl (by
  have k:(compEnvC q (clO X.env q s3.heap.objs.size) s3.heap.objs.size X.env).kindOf y.1=(q.names.lookup y.1).map (K5 X.env y.1):=Rk X.env q.names y.1;show (compEnvC q (clO X.env q s3.heap.objs.size) s3.heap.objs.size X.env).kindOf y.1=some .cell;rw[k,fv y J e];unfold K5;simp)
 len:=len
 src:=λi x j e1 e2=>by
  rw[List.all_eq_true] at G;have N:(x,some j)∈N'.zip src:=by
   refine QaH (i:=i) ?_;rw[List.getElem?_zip_eq_some];exact⟨e1,e2⟩
  have:=G _ N;simp only[QbF,decide_eq_true_eq] at this;exact this
end L2
namespace K44
open PySem L2
def top(i:Nat):Stmt:=PySem.Challenge.pw_warnloop_k44_heard_with.main.body.getD i (.Pass ⟨0,0,0,0⟩)
theorem Bv:bootBuiltins "isinstance"=some (.builtin "isinstance"):=by trivial
theorem gH:bootBuiltins "int"=some (.type "int"):=by trivial
theorem BD:bootBuiltins "bool"=some (.type "bool"):=by trivial
theorem Gb:bootBuiltins "tuple"=some (.type "tuple"):=by trivial
theorem kZ:bootBuiltins "list"=some (.type "list"):=by trivial
theorem Fa:bootBuiltins "str"=some (.type "str"):=by trivial
theorem CP:bootBuiltins "len"=some (.builtin "len"):=by trivial
theorem MF:bootBuiltins "all"=some (.builtin "all"):=by trivial
theorem tO:bootBuiltins "abs"=some (.builtin "abs"):=by trivial
theorem gG:bootBuiltins "max"=some (.builtin "max"):=by trivial
theorem tL:bootBuiltins "any"=some (.builtin "any"):=by trivial
theorem Qf:bootBuiltins "sorted"=some (.builtin "sorted"):=by trivial
theorem TF:bootBuiltins "min"=some (.builtin "min"):=by trivial
theorem Y8:bootBuiltins "dict"=some (.type "dict"):=by trivial
structure Nm(mg:YB):Prop where
 isinstance:mg "isinstance"=none
 int:mg "int"=none
 bool:mg "bool"=none
 tuple:mg "tuple"=none
 list:mg "list"=none
 str:mg "str"=none
 len:mg "len"=none
 all:mg "all"=none
 abs:mg "abs"=none
 max:mg "max"=none
 min:mg "min"=none
 range:mg "range"=none
 sorted:mg "sorted"=none
 any:mg "any"=none
 sum:mg "sum"=none
 enumerate:mg "enumerate"=none
 zip:mg "zip"=none
 reversed:mg "reversed"=none
 dict:mg "dict"=none
 ord:mg "ord"=none
abbrev Yh:Stmt:=top 60
abbrev QS:YF:=["_law_script","_law_k"]
theorem Vv:Ay ["_law_script","_law_k","_law_cell"] QS (Ai Yh):=by ac_rfl
abbrev Vx:Stmt:=top 61
abbrev Hh:YF:=["_law_bag_here","_law_many"]
theorem JQ:Ay ["_law_bag_here","_law_many","_law_digit","_law_primes","_law_step","_law_base","_law_found"] Hh (Ai Vx):=by ac_rfl
theorem D0(v:V):isW v=(isI v&&!isB v):=by cases v <;> rfl
def BZ(H:Hp)(b:Addr)(n:Nat):Prop:=∃x y z:Int,H b=some (.lst [.int x,.int y,.int z])/\0<=x/\0<=y/\y<=4294967296/\0<=z/\z<=n
theorem BZ.same{H H':Hp}{b:Addr}{n:Nat}(h:BZ H b n)(s:Same H H'):BZ H' b n:=by
 obtain⟨x,y,z,e,r⟩:=h;exact⟨x,y,z,s _ _ e,r⟩
theorem BZ.mono{H:Hp}{b:Addr}{n m:Nat}(h:BZ H b n)(l:n<=m):BZ H b m:=by
 obtain⟨x,y,z,e,h1,h2,j,q,G⟩:=h;exact⟨x,y,z,e,h1,h2,j,q,by lia⟩
theorem BZ.nb{H:Hp}{b p:Addr}{n:Nat}(h:BZ H b n)(j:H p=none):b≠p:=by obtain⟨_,_,_,e,_⟩:=h;exact Aw e j
theorem BZ.Ie{H:Hp}{b:Addr}{n:Nat}(h:BZ H b n):∀xs,H b≠some (.tup xs):=λxs z=>by obtain⟨_,_,_,e,_⟩:=h;rw[e] at z;cases z
theorem BZ.ex{H:Hp}{b:Addr}{n:Nat}(h:BZ H b n):∃o,H b=some o:=by obtain⟨_,_,_,e,_⟩:=h;exact⟨_,e⟩
theorem BZ.Kq{H H':Hp}{a b:Addr}{n:Nat}(h:BZ H b n)(s:Ah a H H')(ne:b≠a):BZ H' b n:=by
 obtain⟨x,y,z,e,r⟩:=h;exact⟨x,y,z,s _ _ e ne,r⟩
theorem Ar{n:Nat}(h:n<=1000):n<=sizeLine:=Qcu (Al h)
theorem jv:0<=sizeLine:=Ar 05
theorem ke:1<=sizeLine:=Ar 05
theorem kf:2<=sizeLine:=Ar 05
theorem kg:3<=sizeLine:=Ar 05
theorem km:4<=sizeLine:=Ar 05
inductive lY(K:YD)(vs:YG)(H:Hp)(Q:VK)(E:XK):Prop
 | mk (a:Addr) (ns:List Int) (k:Int) (_:vs=[.ref a,.int k]) (_:SqL K H a (ns.map V.int)) (_:ns.length<=63) (_:0<=k) (_:k<=100) (_:∀p o,H p=none->BZ (upd H p o) p 0->Q (.ref p) (upd H p o)):lY K vs H Q E
inductive Oa(vs:YG)(H:Hp)(Q:VK)(E:XK):Prop
 | mk (b:Addr) (n:Nat) (m:Int) (_:vs=[.ref b,.int m]) (_:BZ H b n) (_:n<=10000) (_:0 < m) (_:m < 1073741824) (_:∀r H',0<=r->r < m->BZ H' b (n+1)->Ah b H H'->Q (.int r) H'):Oa vs H Q E
inductive Wt(K:YD)(vs:YG)(H:Hp)(Q:VK)(E:XK):Prop
 | mk (a:Addr) (ns:List Int) (_:vs=[.ref a]) (_:SqL K H a (ns.map V.int)) (_:ns.length<=63) (_:∀H',Q (.bl true) H'):Wt K vs H Q E
theorem at7{i:Int}(N:0<=i)(O:i < 7){a b c d e f g:Int}(P:Int->Prop)(j:P a)(q:P b)(hc:P c)(z:P d)(G:P e)(I:P f)(J:P g):∃p,atI [V.int a,.int b,.int c,.int d,.int e,.int f,.int g] i=some (.int p)/\P p:=by
 have:i=0\/i=1\/i=2\/i=3\/i=4\/i=5\/i=6:=by lia
 rcases this with rfl | rfl | rfl | rfl | rfl | rfl | rfl
 .exact⟨_,rq,j⟩
 .exact⟨_,rq,q⟩
 .exact⟨_,rq,hc⟩
 .exact⟨_,rq,z⟩
 .exact⟨_,rq,G⟩
 .exact⟨_,rq,I⟩
 .exact⟨_,rq,J⟩
theorem E9{x:Int}{b:Bool}:pC x (if b=true then 1 else 0):=.inr (by cases b <;> exact⟨by decide,by decide⟩)
theorem vN(C:Code K mg "_law_bag" Yh QS)(T:Nm mg):⋯ "_law_bag" 1 QS (lY K):=by
 exists C,Vv
 obtain⟨a,j,k,rfl,I,ab,O,h1,aa⟩:=h;refine⟨_,(Ae (2∪Vv∪(Bh Cu (Bh Cu (Bh Iu (Bh Iu Af (pv 1)) (pv 1)) (Bh Iu Af (pv 1))) Af))
 (Ae (Cw (Bx mO (pv 1) (Av Bl rfl T.len CP (Aa (pv 0) Ac)) (BK _)) (Ag (2∪Vv∪(Bm Ds (pv 0) (pv 1) 07))) BR)
 (Ag (Ba (BW (Aa (Bh Iu (Av gF rfl T.abs tO (Aa (pv 2) Ac)) (CW ZL rfl T.int gH (Aa (GQ Go (Av gF rfl T.abs tO (Aa (pv 2) Ac)) (Bh qp Af Af) (BK _)) Ac))) (Aa (Bh Cu (Bh Mt (pv 2) Af) (Bh Iu Af (pv 1))) (Aa Af Ac)))))))),?_⟩
 show let J:TS:=_;let N:TS:=_;let R2:TS:=Aq (Jz _ N _) J;Aq _ R2 _ _ _;intro J N R2;refine⟨_,rq,_,_,rq,rq,.inl ⟨by decide,by decide⟩,_,rq,_,_,rq,rq,.inr ⟨by lia,by lia⟩,_,rq,_,_,rq,rq,.inl ⟨by decide,by decide⟩,_,_,rq,rq,_,_,rq,rq,?_⟩;refine⟨_,rq,_,rq,a,_,rq,.inl I,_,_,rq,rq,_,rq,?_⟩;have Y:(j.map V.int).length=j.length:=QbJ _;have z:∀(c:Int) (p:Addr),H p=none->Q (.ref p) (upd H p (.lst [.int ((if c < 0 then -c else c)*(if decide ((10:Int) ^ (18:Int).toNat<=(if c < 0 then -c else c))=true then 1 else 0)),.int (c % 2147483647+37*k),.int 0])):=λc p hp=>by
  refine aa p _ hp {_,_,_,Ab,?_,?_,?_,by lia,by lia}
  .refine Int.mul_nonneg ?_ ?_
   .split <;> lia
   .split <;> lia
  .have:=QbX c (show (2147483647:Int)≠0 by decide);lia
  .have:=Qbj c (show (0:Int) < 2147483647 by decide);lia
 refine M4 (λc1=>?_) (λc1=>?_)
 .have c':k < (((j.map V.int).length:Nat):Int):=Qbq c1;rw[Y] at c';have hk:k.toNat < j.length:=by lia
  have G:atI (j.map V.int) ((k.toNat:Nat):Int)=some (.int j[k.toNat]):=Eu (by rw[Qbn];simp[hk]);rw[QaT O] at G;refine{_,rq,_,rq,a,_,_,_,rq,rq,I,G,?_};exact⟨_,rq,_,rq,_,rq,_,rq,_,_,rq,rq,{by decide,by decide,by decide},_,_,rq,rq,.inr ⟨_,rq,_,_,rq,rq,E9,_,rq,_,_,rq,rq,(by show (0:Int) < 2147483647;decide),_,rq,_,_,rq,rq,.inl {by decide,by decide},_,_,rq,rq,
   (by show 3<=sizeLine;decide),λl q=>z _ l q⟩⟩
 .exact⟨_,rq,_,rq,_,rq,_,rq,_,_,rq,rq,{by decide,by decide,by decide},_,_,rq,rq,.inr ⟨_,rq,_,_,rq,rq,E9,_,rq,_,_,rq,rq,(by show (0:Int) < 2147483647;decide),_,rq,_,_,rq,rq,.inl {by decide,by decide},_,_,rq,rq,
   (by show 3<=sizeLine;decide),λl q=>z _ l q⟩⟩
theorem qy(C:Code K mg "_law_take" Vx Hh)(T:Nm mg):⋯ "_law_take" 1 Hh Oa:=by
 exists C,JQ
 obtain⟨b,n,m,rfl,⟨x,y,z,j,x0,I,J,z0,z1⟩,hn,G,m1,af⟩:=h;refine⟨_,(Ae (Cw (Bx Uk (Bm Ds (pv 0) Af 07) Af (BK _)) (Ae (2∪JQ∪(Bh Mt (Bm Ds (pv 0) Af 07) (pv 1)))
 (Ae (Ir (Bh Yo (Bm Ds (pv 0) Af 07) (pv 1)) (cV (pv 0) Af set_list))
 (Ag (Ba (pv 2))))) BR)
 (Ae (3∪JQ∪(@Bd _ _ _ _ _ (0&&&(0&&&(0&&&(0&&&(0&&&(0&&&(0&&&(@Ac _) Bk) Bk) Bk) Bk) Bk) Bk) Bk)))
 (Ae (Ir (Bh Cu (Bm Ds (pv 0) Af 07) Af) (cV (pv 0) Af set_list))
 (Ae (4∪JQ∪(Bm Ds (pv 0) Af 07))
 (Ae (5∪JQ∪(Bh Cu (Bh Cu (Bh Iu (Bm Ds (pv 0) Af 07) (Bh Cu (Bh Iu Af (pv 4)) Af)) (Bh Iu (Bh Iu Af (pv 4)) (pv 4))) Af))
 (Ae (6∪JQ∪(Bh Mt (Bh qp (pv 5) Af) (Bm BX (pv 3) (Bh Mt (pv 4) Af) 07)))
 (Ag (Ba (Bh Mt (Bh Yo (Bh Mt (Bh Iu (pv 6) (Bh Cu (Bh Yo (pv 6) Af) Af)) (Bm BX (pv 3) (Bh Mt (Bh Cu (pv 4) Af) Af) 07)) Af) (pv 1)))))))))),?_⟩
 show let R0:TS:=_;let R1:TS:=Aq _ R0;let R2:TS:=Aq _ R1;let R3:TS:=Aq _ R2;let R4:TS:=Aq _ R3;let R5:TS:=Aq _ R4;let R6:TS:=Aq _ _;let R7:TS:=Aq _ R6;Aq (Jz _ R7 _) R5 _ _ _;intro R0 R1 R2 R3 R4 R5 R6 R7;refine{_,rq,b,_,_,_,rq,rq,SqL.of j,rq,_,_,rq,rq,_,rq,?_};refine M4 (λc1=>?_) (λc1=>?_)
 .have c':0 < x:=Qbq c1;refine{_,rq,b,_,_,_,rq,rq,SqL.of j,rq,_,rq,_,_,rq,rq,G,?_};refine{_,rq,b,_,_,_,rq,rq,SqL.of j,rq,_,rq,_,_,rq,rq,⟨G,m1⟩,_,rq,b,_,_,_,rq,rq,j,rq,?_};exact{_,rq,af _ _ (QbX x 00) (Qbj x G) {x / m,y,z,Ab,Int.ediv_nonneg x0 00,I,J,z0,by lia} Ah.upd}
 .refine{(by show 7<=sizeLine;decide),λq O=>?_};have Y:b≠q:=Aw j O;have aa:∀o,(upd H q o) b=some (.lst [.int x,.int y,.int z]):=λo=>by rw[Ao Y];exact j
  have ab:∀o u,(upd (upd H q o) b u) q=some o:=λo u=>by rw[Ao Y.symm,Ab]
  refine{_,rq,b,_,_,_,rq,rq,SqL.of (aa _),rq,_,_,rq,rq,_,rq,b,_,_,_,rq,rq,aa _,rq,?_};refine{_,rq,b,_,_,_,rq,rq,SqL.of Ab,rq,?_};have N:0<=z+1:=by lia
  have s1:z+1<=10001:=by lia
  refine⟨_,rq,b,_,_,_,rq,rq,SqL.of Ab,rq,_,rq,_,_,rq,rq,.inl {by decide,by decide},_,_,rq,rq,_,_,rq,rq,.inl {by lia,by lia},_,rq,_,_,rq,rq,.inl {by decide,by decide},_,rq,_,_,rq,rq,.inr {by lia,by lia},
   _,_,rq,rq,_,_,rq,rq,?_⟩
  have ag:(y*(2*(z+1)+1)+6007*(z+1)*(z+1)+29).natAbs < 2 ^ 64:=by
   have h1:0<=y*(2*(z+1)+1):=Int.mul_nonneg I 00;have h2:y*(2*(z+1)+1)<=4294967296*20003:=Int.mul_le_mul J 00 00 00;have h3:0<=6007*(z+1)*(z+1):=Int.mul_nonneg 00 N;have h4:6007*(z+1)*(z+1)<=(6007*10001)*10001:=Int.mul_le_mul 00 s1 N 00;lia
  obtain⟨p1,e1,ae,ai⟩:=at7 (i:=(z+1) % 7) (QbX _ 05) (Qbj _ 05) (a:=2147483629) (b:=2147483587) (c:=2147483579) (d:=2147483563) (e:=2147483549) (f:=2147483543) (g:=2147483497)
   (λp=>0 < p/\p < 2147483648) 05 05 05 05 05 05 05
  obtain⟨p2,e2,ah,al⟩:=at7 (i:=(z+1+3) % 7) (QbX _ 05) (Qbj _ 05) (a:=2147483629) (b:=2147483587) (c:=2147483579) (d:=2147483563) (e:=2147483549) (f:=2147483543) (g:=2147483497)
   (λp=>0 < p/\p < 2147483648) 05 05 05 05 05 05 05
  refine{_,rq,_,_,rq,rq,{by decide,by decide,ag},_,rq,_,rq,_,_,rq,rq,(by show (0:Int) < 7;decide),q,_,_,_,rq,rq,SqT.of (ab _ _),e1,_,_,rq,rq,ae,?_};generalize hF:(y*(2*(z+1)+1)+6007*(z+1)*(z+1)+29) ^ (3:Int).toNat % p1=F;have F0:0<=F:=by rw[<-hF];exact QbX _ 00
  have F1:F < p1:=by rw[<-hF];exact Qbj _ ae
  refine⟨_,rq,_,rq,_,_,rq,rq,{by decide,by decide},_,_,rq,rq,_,_,rq,rq,.inl {by lia,by lia},_,rq,_,rq,_,_,rq,rq,_,_,rq,rq,(by show (0:Int) < 7;decide),q,_,_,_,rq,rq,SqT.of (ab _ _),e2,_,_,rq,rq,ah,
   _,_,rq,rq,{by decide,by decide},_,rq,_,_,rq,rq,G,?_⟩
  refine af _ _ (QbX _ 00) (Qbj _ G) ⟨x,y,z+1,Ab,x0,I,J,N,by lia⟩ λc o e nc=>?_;rw[Ao nc,Ao (Aw e O)];exact e
abbrev Rf:Stmt:=top 62
abbrev Ov:YF:=["_law_bag_here"]
abbrev xy:YF:=["_law_bag_here","_law_letters"]
theorem Zn:Ay xy Ov (Ai Rf):=by ac_rfl
abbrev Pk:Stmt:=top 63
abbrev Mh:YF:=["_law_bag_here","_law_many"]
abbrev xz:YF:=["_law_bag_here","_law_many","_law_found","_law_place","_law_name_here"]
theorem Kl:Ay xz Mh (Ai Pk):=by ac_rfl
theorem A2{K:YD}{H:Hp}{z:Str}{Q:VK}(q:Q (.bl true) H):Qs K [.str z,.ty "str"] H Q:=by
 unfold Qs;exact{_,_,_,_,rq,.str z,by rfl,q}
def abc:Str:="abcdefghijklmnopqrstuvwxyz"
def okS(z:Str):Prop:=∀c∈z.cps.toList,c∈abc.cps.toList
theorem okS.append{x y:Str}(h:okS x)(h':okS y):okS (x++y):=by
 intro c hc;have:c∈x.cps.toList++y.cps.toList:=by
  have e:(x++y).cps=x.cps++y.cps:=rfl;rw[e,Array.toList_append] at hc;exact hc
 rcases QbK.mp this with z | z
 .exact h c z
 .exact h' c z
theorem okS.slice{x:Str}(h:okS x)(l u:Option Int):okS (Txt.slice x l u):=by
 unfold Txt.slice;split
 .exact h
 .intro c hc;have j:c∈(Builtin.Str.strSliceIndices l u 1 x.length).filterMap (x.cps[·]?):=by simpa using hc
  obtain⟨i,_,e⟩:=List.mem_filterMap.mp j;exact h c (Array.mem_toList_iff.mpr (Array.mem_of_getElem? e))
theorem okS.join{j:Str}(hs:okS j):∀{ts:YF},(∀t∈ts,okS t)->okS (Str.join j ts)
 | [],_=>λc hc=>by cases hc
 | [x],h=>h x (QaW ..)
 | x::y::r,h=>((h x (QaW ..)).append hs).append (okS.join hs (ts:=y::r) λt q=>h t (QaI _ q))
theorem U0:abc.cps.toList.length=26:=by trivial
theorem Fm:abc.cps.toList.Nodup:=by trivial
theorem tR:okS abc:=λc hc=>hc
theorem eZ:∀ts:YF,(Str.join "" ts).length=(ts.map (·.length)).sum
 | []=>rfl
 | [x]=>by show x.length=_;simp
 | x::y::r=>by
  show ((x++"")++Str.join "" (y::r)).length=_;rw[Str.length_append,Str.length_append,eZ (y::r),Qch (a:=x),List.sum_cons];have:(Str.ofString "").length=0:=by trivial
  rw[this];lia
theorem MT(n:Nat):(Builtin.Str.strSliceIndices (some 1) none 1 n).length<=n - 1:=by
 unfold Builtin.Str.strSliceIndices sliceRange;simp only[show (1:Int) > 0 by decide,if_true,QbJ,Qbw,show ¬((1:Int) < 0) by decide,if_false];split
 .rw[Int.ediv_one];lia
 .exact QcB _
theorem pP(z:Str):(Txt.slice z (some 1) none).length<=z.length - 1:=by
 have h:=MT z.length;unfold Txt.slice;split
 .rename_i hc;rw[QbF] at hc;have:=eq_of_beq hc.2;lia
 .show (List.filterMap _ _).toArray.size<=_;rw[Qbl];exact Qcs (List.length_filterMap_le _ _) h
theorem Fn{r:Int}(z:0<=r)(h1:r < 26):∃c,atI abc.cps.toList r=some c/\okS ⟨#[c]⟩:=by
 have q:r.toNat < abc.cps.toList.length:=by rw[U0];lia
 refine{abc.cps.toList[r.toNat],?_,λc hc=>?_}
 .have:=Eu (xs:=abc.cps.toList) (j:=r.toNat) (Qam q);rw[QaT z] at this;exact this
 .have:c=abc.cps.toList[r.toNat]:=by simpa using hc
  rw[this];exact tR _ (List.getElem_mem q)
theorem bh:∀{ys:YF},(∀y∈ys,y.length=1)->(ys.map (·.length)).sum=ys.length
 | [],_=>rfl
 | y::r,h=>by
  rw[Qch,List.sum_cons,h y (QaW ..),bh (ys:=r) λt j=>h t (QaI _ j),Qbz];lia
theorem ZD(ys:YF):(ys.map V.str).all Lw=true:=by
 rw[List.all_map,List.all_eq_true];intro _ _;rfl
theorem Rm(z:Str):∀ys:YF,inV (.str z) (ys.map V.str)=true ↔ z∈ys
 | []=>by constructor <;> intro h <;> cases h
 | y::r=>by
  have j:=Rm z r;unfold inV at j ⊢;rw[Qch,Qcl,Bool.or_eq_true,j,Qcg];have:eqV (.str y) (.str z)=true ↔ z=y:=by
   show (y == z)=true ↔ z=y;rw[beq_iff_eq];exact⟨λh=>h.symm,λh=>h.symm⟩
  rw[this]
theorem Zu:∀{l m:YF},l.Nodup->(∀x∈l,x∈m)->l.length<=m.length
 | [],_,_,_=>QcB _
 | a::r,m,z,h=>by
  have j:=h a (QaW ..);obtain⟨G,I⟩:=QbQ.mp z;have:=Zu (l:=r) (m:=m.erase a) I λx q=>(List.mem_erase_of_ne (λe=>G (by rw[<-e];exact q))).mpr (h x (QaI _ q));rw[List.length_erase_of_mem j] at this;have J:=List.length_pos_of_mem j;rw[Qbz];lia
theorem jc(rest:Str){ys:YF}(h:ys.length < 26):∃(i c:Nat),abc.cps[i]?=some c/\((⟨#[c]⟩ : Str)++rest)∉ys:=by
 refine Qai λz=>?_;have j:∀x∈abc.cps.toList.map (λc=>(⟨#[c]⟩ : Str)++rest),x∈ys:=λx G=>by
  obtain⟨c,hc,rfl⟩:=Qcq.mp G;obtain⟨i,hi⟩:=QaL hc;refine Qai λI=>z ⟨i,c,by simpa using hi,I⟩
 have J:(abc.cps.toList.map (λc=>(⟨#[c]⟩ : Str)++rest)).Nodup:=by
  refine Qbt.mpr (Fm.imp λ{c d} q e=>q ?_);have e1:(#[c]++rest.cps:Array Nat)=#[d]++rest.cps:=congrArg Str.cps e;have e2:=congrArg Array.toList e1;rw[Array.toList_append,Array.toList_append] at e2;injection e2
 have:=Zu J j;rw[QbJ,U0] at this;lia
theorem QcJ{j : Type}{l:List j}{i:Nat}{x:j}(h:l[i]?=some x):l.take (i+1)=l.take i++[x]:=by rw[List.take_add_one,h];rfl
theorem oW{X:Cx}{K:YD}(h:X.K=K)(hc:X.calm=true):DN X (.builtin "max") (λxs H Q=>∃(p:Addr) (j:List Int),xs=[.ref p]/\SqL K H p (j.map V.int)/\0 < j.length/\∀M,M∈j->(∀a,a∈j->a<=M)->Q (.int M) H):=h ▸ ZK hc
theorem Ah.Q7{a b:Addr}{H j H':Hp}(s:Ah b H j)(t:Ah a j H')(f:H a=none):Ah b H H':=λc o e n=>t _ _ (s _ _ e n) λz=>by rw[z,f] at e;cases e
theorem QP{i:Int}(J:0<=i)(N:i < 6){a b c d e f:Int}(P:Int->Prop)(j:P a)(q:P b)(hc:P c)(z:P d)(G:P e)(I:P f):∃p,atI [V.int a,.int b,.int c,.int d,.int e,.int f] i=some (.int p)/\P p:=by
 have:i=0\/i=1\/i=2\/i=3\/i=4\/i=5:=by lia
 rcases this with rfl | rfl | rfl | rfl | rfl | rfl
 .exact⟨_,rq,j⟩
 .exact⟨_,rq,q⟩
 .exact⟨_,rq,hc⟩
 .exact⟨_,rq,z⟩
 .exact⟨_,rq,G⟩
 .exact⟨_,rq,I⟩
inductive bJ(vs:YG)(H:Hp)(Q:VK)(E:XK):Prop
 | mk (b:Addr) (n:Nat) (_:vs=[.ref b]) (_:BZ H b n) (_:n<=9000) (_:∀z H',1<=z.length->z.length<=8->okS z->BZ H' b (n+9)->Ah b H H'->Q (.str z) H'):bJ vs H Q E
inductive X3(vs:YG)(H:Hp)(Q:VK)(E:XK):Prop
 | mk (b:Addr) (n many:Nat) (_:vs=[.ref b,.int many]) (_:BZ H b n) (_:n<=8000) (_:many<=20) (_:∀l (ys:YF) H',H l=none->ys.length=many->(∀y∈ys,(1<=y.length/\y.length<=8)/\okS y)->ys.Nodup->H' l=some (.lst (ys.map V.str))->BZ H' b (n+9*many)->Ah b H H'->Q (.ref l) H'):X3 vs H Q E
abbrev js(a:PySem.Addr):Option L2.V:=some (.ref a)
abbrev xA:YF:=["_law_place","_law_letters","_law_bag_here"]
theorem AJ(C:Code K mg "_law_name" Rf Ov)(T:Nm mg)(N:⋯ "_law_take" 1 Hh Oa):⋯ "_law_name" 2 Ov bJ:=by
 refine C.good Zn (by nofun) λ_ _ _ _ _ H vs Q E O h=>?_
 obtain⟨b,n,rfl,hb,hn,af⟩:=h;refine⟨_,(Ae (Az (i:=1) Zn.nd rfl (Or.inr rfl) Bf)
 (Ag (Ba (Cq PySem.F.plainAttrs_str PySem.F.slot_str_join PySem.F.type_str_join AY Bf (Aa (Ck (N':=xA) rfl ([none,some 1,some 0]|||(Ai Rf)|||xy) (Dp rfl T.range (Aa (Bh Cu Af (Ce N O (Aa (pv 0) (Aa Af Ac)))) Ac)) (~~~(0∩xA)) (λ_ _ _ _=>CK) (~~~(Bm DV (pv 1) (Ce N O (Aa (pv 2) (Aa Af Ac))) 07))) Ac))))),?_⟩
 show let Y:TS:=_;Aq _ Y _ _ _;intro Y;refine⟨rq,_,rq,b,n,8,rq,hb,by lia,by decide,by decide,λr H1 r0 r1 G I=>{_,_,rq,rq,_,rq,by lia,by lia,λl z=>?_}⟩;have J:b≠l:=G.nb z;have fl:H l=none:=I.free G.ex z;let J0:YN:=λi U q=>∃(u:Option V) (ys:YF),U=[u,some (.str abc),js b]/\q l=some (.lst (ys.map V.str))/\ys.length=i/\(∀y∈ys,y.length=1/\okS y)/\BZ q b (n+1+i)/\Ah b H q;refine KJ J0
  ⟨none,[],rq,Ab,rq,(λy j=>by cases j),G.same (Ad z _),I.trans (Ah.of (Ad z _))⟩ (λi U q hi h=>?_) (fun U q h=>?_)
 .obtain⟨u,ys,rfl,e1,e2,e3,e4,e5⟩:=h;refine{_,rq,_,rq,b,_,26,rq,e4,by lia,by decide,by decide,λr' HA aa ab ae sA=>?_};obtain⟨c,ec,oc⟩:=Fn aa ab;have eA:=sA _ _ e1 J.symm;refine{_,_,c,rq,rq,Ar (by show abc.cps.size<=1000;rw[<-QaP,U0];decide),ec,_,eA,Al (by rw[QbJ];lia),_,ys++[⟨#[c]⟩],rq,?_,?_,λy j=>?_,ae.Kq Ah.upd J,?_}
  .rw[Ab,QbL];rfl
  .rw[QaV,e2];rfl
  .rcases QbK.mp j with h | h
   .exact e3 y h
   .have:y=⟨#[c]⟩:=by simpa using h
    rw[this];exact⟨rq,oc⟩
  .exact λc o e ne=>Ah.upd _ _ (sA _ _ (e5 _ _ e ne) ne) λag=>by rw[ag,fl] at e;cases e
 obtain⟨u,ys,rfl,e1,e2,e3,e4,e5⟩:=h;have hs:=bh λy j=>(e3 y j).1;refine{_,l,ys,rq,rq,SqL.of e1,?_,?_}
 .rw[hs];have:(Str.ofString "").length=0:=by trivial
  rw[this];lia
 .have hj:=eZ ys;rw[hs] at hj;refine af _ q ?_ ?_ ?_ (e4.mono 00) e5
  .show 1<=(Builtin.Str.glued _ ys).length;rw[StrLaws.glued_eq_join];show 1<=(Str.join "" ys).length;lia
  .show (Builtin.Str.glued _ ys).length<=8;rw[StrLaws.glued_eq_join];show (Str.join "" ys).length<=8;lia
  .show okS (Builtin.Str.glued _ ys);rw[StrLaws.glued_eq_join];exact okS.join (λc hc=>by cases hc) λy j=>(e3 y j).2
abbrev xB:YF:=["_law_one","_law_name_here","_law_found"]
theorem vM(C:Code K mg "_law_names" Pk Mh)(T:Nm mg)(xY:⋯ "_law_name" 2 Ov bJ):⋯ "_law_names" 3 Mh X3:=by
 exists C,Kl
 obtain⟨b,n,af,rfl,hb,hn,hm,a0⟩:=h;refine⟨_,(Ae (Az (i:=2) Kl.nd rfl (Or.inr rfl) (BW Ac))
 (Ae (Cj QbN rfl (Dp rfl T.range (Aa (pv 1) Ac)) (3∣Kl)
 (Ae (Az (i:=4) Kl.nd rfl (Or.inr rfl) (Cr xY hr (Aa (pv 0) Ac)))
 (Ae (Cw (Bx S6 (pv 4) (pv 2) (by with_unfolding_all rfl)) (Ag (Az (i:=4) Kl.nd rfl (Or.inr rfl) (Bm Ds (Ck (N':=xB) rfl ([none,some 4,some 2]|||(Ai Pk)|||xz) (qd Bf) (~~~(0∩xB)) (~~~(GP (Bx (RG (K:=K) rfl) (Bh WW (pv 0) (K7 pQ (pv 1) (Nz Af) NK)) (pv 2) (by with_unfolding_all rfl)))) (~~~(Bh WW (pv 0) (K7 pQ (pv 1) (Nz Af) NK)))) Af 07))) BR)
 (Ag (Bo (Cq Qar Qan Qao BP (pv 2) (Aa (pv 4) Ac)))))))
 (Ag (Ba (pv 2))))),?_⟩
 show let R0:TS:=_;let R1:TS:=_;let R2:TS:=Aq (Jz _ R1 _) R0;let R3:TS:=Aq _ R2;let R4:TS:=Aq (Dm _ _ R3) _;Aq _ R4 _ _ _;intro R0 R1 R2 R3 R4;refine⟨jv,λq aa=>?_⟩;have s1:=Ad aa (.lst []);have ai:b≠q:=hb.nb aa;refine{_,rq,_,rq,by lia,by lia,?_};rw[Qbo];let J1:YN:=λi U G=>∃(Y u4:Option V) (ys:YF),U=[js b,some (.int af),js q,Y,u4]/\G q=some (.lst (ys.map V.str))/\ys.length=i/\(∀y∈ys,(1<=y.length/\y.length<=8)/\okS y)/\BZ G b (n+9*i)/\Ah b H G/\ys.Nodup;refine Fg J1
  {_,_,[],rq,Ab,rq,(λy J=>by cases J),hb.same s1,Ah.of s1,Qcc} (λi U G hi h=>?_) (fun U G h=>?_)
 .obtain⟨Y,u4,ys,rfl,e1,e2,e3,e4,e5,e6⟩:=h;refine{_,rq,b,_,rq,e4,by lia,λz HA au hz oz al sA=>?_};have N:=sA _ _ e1 ai.symm;have s5:Ah b H HA:=e5.trans sA;have am:∀(y:Str) (O:Hp),(1<=y.length/\y.length<=8)->okS y->y∉ys->O q=some (.lst (ys.map V.str))->BZ O b (n+9*i+9)->Ah b H O->∃(Y u4:Option V) (ab:YF),[some (V.ref b),some (.int af),js q,some (.int (0+(i:Int))),some (.str y)]=[js b,some (.int af),js q,Y,u4] /\
    upd O q (.lst (ys.map V.str++[.str y])) q=some (.lst (ab.map V.str))/\ab.length=i+1/\(∀y∈ab,(1<=y.length/\y.length<=8)/\okS y)/\BZ (upd O q (.lst (ys.map V.str++[.str y]))) b (n+9*(i+1))/\Ah b H (upd O q (.lst (ys.map V.str++[.str y])))/\ab.Nodup:=λy O J oy av hB bB sB=>by
   refine{_,_,ys++[y],rq,?_,?_,λx hx=>?_,(bB.Kq Ah.upd ai).mono 00,Ah.Q7 sB Ah.upd aa,jU e6 av}
   .rw[Ab,QbL];rfl
   .rw[QaV,e2];rfl
   .rcases QbK.mp hx with h | h
    .exact e3 x h
    .have:x=y:=by simpa using h
     rw[this];exact⟨J,oy⟩
  refine{_,rq,_,rq,q,_,rq,.inl (SqL.of N),rq,ZD ys,_,rq,M4 (λ_=>?_) (λaw=>?_)}
  .refine{_,rq,λl2 an=>?_};have ax:q≠l2:=Aw N an;have a1:(Txt.slice z (some 1) none).length<=7:=Qcs (pP z) 00;have ay:=oz.slice (some 1) none;let J2:YN:=λi U G=>∃(u:Option V) (I:YF),U=[u,some (.str z),js q]/\G=upd HA l2 (.lst (I.map V.str))/\I.length<=i/\(∀y∈I,((1<=y.length/\y.length<=8)/\okS y)/\y∉ys)/\((∃j c,j < i/\abc.cps[j]?=some c/\((⟨#[c]⟩ : Str)++Txt.slice z (some 1) none)∉ys)->I≠[]);refine fY J2
    ⟨none,[],rfl,rfl,QcA _,(λy J=>by cases J),λ⟨j,c,hj,_⟩=>absurd hj (QbW _)⟩ (λj c U G hc h=>?_) (fun U G h=>?_)
   .obtain⟨u,I,rfl,rfl,l1,ae,l3⟩:=h;have hj:j < 26:=by
     have:=(Qaf.mp hc).1;rw[<-QaP] at this;have e:=U0;unfold abc at e;lia
    have oc:okS ⟨#[c]⟩:=λd hd=>by
     have:d=c:=by simpa using hd
     rw[this];exact tR c (Array.mem_toList_iff.mpr (Array.mem_of_getElem? hc))
    have ah:(⟨#[c]⟩ : Str).length+(Txt.slice z (some 1) none).length<=sizeLine:=by
     show 1+_<=sizeLine;rw[QcE];lia
    have ao:z.length<=sizeLine:=by rw[QcE];lia
    have eB:upd HA l2 (.lst (I.map V.str)) q=some (.lst (ys.map V.str)):=by rw[Ao ax];exact N
    refine{_,rq,_,rq,_,rq,_,rq,ao,_,_,rq,rq,ah,_,rq,q,_,rq,.inl (SqL.of eB),rq,ZD ys,_,rq,M4 (λt=>?_) (λt=>?_)}
    .refine{_,rq,_,rq,_,rq,_,rq,ao,_,_,rq,rq,ah,_,Ab,Al (by rw[QbJ];lia),_,I++[(⟨#[c]⟩ : Str)++Txt.slice z (some 1) none],rq,?_,?_,λy J=>?_,λ_ e=>?_}
     .rw[T8,QbL];rfl
     .rw[QaV];show _+1<=_;lia
     .rcases QbK.mp J with h | h
      .exact ae y h
      .have e:y=(⟨#[c]⟩ : Str)++Txt.slice z (some 1) none:=by simpa using h
       rw[e];refine{{{by rw[Str.length_append];show 1<=1+_;lia,by rw[Str.length_append];show 1+_<=8;lia},oc.append ay},λag=>?_};have t:(!inV (.str ((⟨#[c]⟩ : Str)++Txt.slice z (some 1) none)) (ys.map V.str))=true:=t;rw[(Rm _ ys).mpr ag] at t;cases t
     .have:=congrArg List.length e;rw[QaV] at this;simp at this
    .refine{_,I,rfl,rfl,by lia,ae,λ⟨j',c',a2,ap,ar⟩=>?_};by_cases ej:j'=j
     .subst ej;have ec:c'=c:=by
       have e1:abc.cps[j']?=some c:=hc;rw[ap] at e1;exact QbP e1
      subst ec;exfalso;apply t;show (!inV (.str ((⟨#[c']⟩ : Str)++Txt.slice z (some 1) none)) (ys.map V.str))=true;cases e:inV (.str ((⟨#[c']⟩ : Str)++Txt.slice z (some 1) none)) (ys.map V.str) with
      | false=>rfl
      | true=>exact absurd ((Rm _ ys).mp e) ar
     .exact l3 ⟨j',c',by lia,ap,ar⟩
   .obtain⟨u,I,rfl,rfl,l1,ae,l3⟩:=h;obtain⟨j,c,hc,as⟩:=jc (Txt.slice z (some 1) none) (ys:=ys) 00;have az:=l3 ⟨j,c,(Qaf.mp hc).1,hc,as⟩;cases I with
    | nil=>exact absurd rfl az
    | cons w0 wr=>
     obtain⟨⟨y1,y2⟩,y3⟩:=ae w0 (QaW ..);have s2:=Ad an (.lst ((w0::wr).map V.str));have eB:=s2 _ _ N;refine⟨l2,_,_,_,rq,rq,SqL.of Ab,Eu (xs:=(w0::wr).map V.str) (j:=0) rfl,?_⟩;refine{_,rq,.inl ⟨rq,_,SqL.of eB⟩,_,rq,q,_,_,rq,rq,eB,Al (by rw[QbJ];lia),?_};exact am w0 _ y1 y2 y3 eB (al.same s2) (s5.trans (Ah.of s2))
  .refine{_,rq,.inl ⟨rq,_,SqL.of N⟩,_,rq,q,_,_,rq,rq,N,Al (by rw[QbJ];lia),?_};exact am z HA ⟨au,hz⟩ oz (λag=>aw ((Rm _ ys).mpr ag)) N al s5
 .obtain⟨Y,u4,ys,rfl,e1,e2,e3,e4,e5,e6⟩:=h;exact{_,rq,a0 q ys G aa e2 e3 e6 e1 e4 e5}
structure Dev where
 kind:Str
 addr:Int
structure Place where
 kind:Str
 addr:Int
 spur:List Dev
def KQ(H:Hp)(v:V)(d:Dev):Prop:=∃t,v=.ref t/\H t=some (.tup [.str d.kind,.int d.addr])
def Ei(H:Hp)(v:V)(p:Place):Prop:=∃t u vs,v=.ref t/\H t=some (.tup [.str p.kind,.int p.addr,.ref u])/\H u=some (.tup vs)/\Paired (KQ H) vs p.spur
def LoopAt(H:Hp)(v:V)(ps:List Place):Prop:=∃t vs,v=.ref t/\H t=some (.tup vs)/\Paired (Ei H) vs ps
theorem KQ.tups{H H':Hp}(s:Ak H H'){v:V}{d:Dev}(h:KQ H v d):KQ H' v d:=by
 obtain⟨t,e,q⟩:=h;exact⟨t,e,s _ _ q⟩
theorem Ei.tups{H H':Hp}(s:Ak H H'){v:V}{d:Place}(h:Ei H v d):Ei H' v d:=by
 obtain⟨t,u,j,e,q,G,I⟩:=h;exact⟨t,u,j,e,s _ _ q,s _ _ G,Paired.Ax I λ_ _ z=>z.tups s⟩
theorem LoopAt.tups{H H':Hp}(s:Ak H H'){v:V}{d:List Place}(h:LoopAt H v d):LoopAt H' v d:=by
 obtain⟨t,j,e,q,G⟩:=h;exact⟨t,j,e,s _ _ q,Paired.Ax G λ_ _ z=>z.tups s⟩
theorem Paired.Cp{j q : Type}{F:j->q->Prop}:∀{l₁ : List j} {l₂ : List q} {i:Nat} {x:j},Paired F l₁ l₂->l₁[i]?=some x->∃y,l₂[i]?=some y/\F x y
 | _,_,_,_,.nil,h=>by simp at h
 | _,_,0,_,.cons a _,h=>by simp at h;subst h;exact⟨_,rfl,a⟩
 | _,_,i+1,x,.cons _ t,h=>by
  obtain⟨y,h1,h2⟩:=Paired.Cp (i:=i) (x:=x) t (by simpa using h);exact⟨y,by simpa using h1,h2⟩
theorem QcC{j q : Type}{F:j->q->Prop}{a:j}{b:q}(h:F a b):∀{l₁ : List j} {l₂ : List q},Paired F l₁ l₂->Paired F (l₁++[a]) (l₂++[b])
 | _,_,.nil=>.cons h .nil
 | _,_,.cons x t=>.cons x (QcC h t)
def Hv(k:Str):Prop:=k="seeker"\/k="knob"\/k="bell"\/k="door"
structure OkP(p:Place):Prop where
 spur:p.spur.length<=3
 kinds:∀d∈p.spur,Hv d.kind
 form:(p.kind="opener"/\p.addr=0/\p.spur=[])\/Hv p.kind
structure Zone where
 name:Str
 adr:List Int
def Jq(H:Hp)(v:V)(z:Zone):Prop:=∃t u,v=.ref t/\H t=some (.tup [.str z.name,.ref u])/\H u=some (.tup (z.adr.map V.int))
theorem Jq.tups{H H':Hp}(s:Ak H H'){v:V}{z:Zone}(h:Jq H v z):Jq H' v z:=by
 obtain⟨t,u,e,j,q⟩:=h;exact⟨t,u,e,s _ _ j,s _ _ q⟩
def Ft(k:Str):Bool:=inV (.str k) [.str "seeker",.str "knob"]
def Ge(p:Place):List Dev:=⟨p.kind,p.addr⟩::p.spur
def Ja(ds:List Dev):List Int:=(ds.filter λd=>Ft d.kind).map (·.addr)
def Jx(ps:List Place):List Int:=ps.flatMap λp=>Ja (Ge p)
abbrev YU:=List (List Place)
def Fz(j:YU):List Int:=j.flatMap Jx
theorem pH(ds:List Dev)(d:Dev):Ja (ds++[d])=Ja ds++(if Ft d.kind=true then [d.addr] else []):=by
 unfold Ja;rw[Qbg,QbL];congr 1;by_cases h:Ft d.kind=true
 .rw[if_pos h];simp[List.filter,h]
 .rw[if_neg h];simp[List.filter,h]
theorem pG(ps:List Place)(p:Place):Jx (ps++[p])=Jx ps++Ja (Ge p):=by unfold Jx;rw[QaO];simp
theorem lF(j:YU)(ps:List Place):Fz (j++[ps])=Fz j++Jx ps:=by unfold Fz;rw[QaO];simp
def ptS(a:List Int×Int)(p:Place):List Int×Int:=if V.str p.kind=V.str "opener" then (a.1++[a.2],0) else (a.1,a.2+1+(p.spur.length:Int))
def pst(ps:List Place):List Int×Int:=ps.foldl ptS ([],0)
def Ik(ps:List Place):List Int:=(pst ps).1++[(pst ps).2]
theorem cP(ps:List Place)(p:Place):pst (ps++[p])=ptS (pst ps) p:=by unfold pst;rw[List.foldl_append];rfl
abbrev Vy:Stmt:=top 64
abbrev Ow:YF:=["_law_bag_here","_law_numbers","_law_most_places"]
theorem JR:Ay ["_law_bag_here","_law_numbers","_law_most_places","_law_places","_law_at","_law_many","_law_some","_law_way"] Ow (Ai Vy):=by ac_rfl
abbrev Sh:Stmt:=top 65
abbrev Mg:YF:=["_law_places"]
theorem Kh:Ay ["_law_places","_law_found","_law_kind_here","_law_address","_law_spur"] Mg (Ai Sh):=by ac_rfl
def DK(a b:Addr)(H H':Hp):Prop:=∀c o,H c=some o->c≠a->c≠b->H' c=some o
theorem DK.trans{a b:Addr}{H H1 H2:Hp}(x:DK a b H H1)(y:DK a b H1 H2):DK a b H H2:=λc o e n m=>y _ _ (x _ _ e n m) n m
theorem DK.l{a b:Addr}{H H1:Hp}(x:Ah a H H1):DK a b H H1:=λc o e n _=>x _ _ e n
theorem DK.r{a b:Addr}{H H1:Hp}(x:Ah b H H1):DK a b H H1:=λc o e _ m=>x _ _ e m
theorem DK.of{a b:Addr}{H H1:Hp}(x:Same H H1):DK a b H H1:=λc o e _ _=>x _ _ e
theorem DK.Q7{a b p:Addr}{H j H':Hp}(s:DK a b H j)(t:Ah p j H')(f:H p=none):DK a b H H':=λc o e n m=>t _ _ (s _ _ e n m) λz=>by rw[z,f] at e;cases e
def adP(p:Place):List Int:=if V.str p.kind=V.str "opener" then [] else p.addr::p.spur.map (·.addr)
def adL(ps:List Place):List Int:=ps.flatMap adP
theorem Wc(ps:List Place)(p:Place):adL (ps++[p])=adL ps++adP p:=by unfold adL;rw[QaO];simp
def opP:Place:={"opener",0,[]}
theorem Gc:OkP opP:={by show 0<=3;decide,(λd j=>by cases j),.inl ⟨rfl,rfl,rfl⟩}
theorem Fk:adP opP=[]:=if_pos rfl
theorem Xd{k:Str}(h:Hv k):¬V.str k=V.str "opener":=by
 rcases h with rfl | rfl | rfl | rfl <;> decide +kernel
theorem BF{i:Int}(j:0<=i)(q:i < 4):∃k,atI [V.str "seeker",.str "knob",.str "bell",.str "door"] i=some (.str k)/\Hv k:=by
 have:i=0\/i=1\/i=2\/i=3:=by lia
 rcases this with rfl | rfl | rfl | rfl
 .exact{_,rq,.inl rfl}
 .exact{_,rq,.inr (.inl rfl)}
 .exact{_,rq,.inr (.inr (.inl rfl))}
 .exact{_,rq,.inr (.inr (.inr rfl))}
theorem V8{xs:YG}{k:Nat}(h:k<=xs.length):JM xs (some (k:Int)) none=xs.drop k:=by
 unfold JM;rw[HT.cB,HT.jL,Nat.min_eq_left h];exact List.take_of_length_le (by rw[QbD];lia)
theorem pR{n:Nat}(h:0 < n):seqIndex? 0 n=some 0:=by
 unfold seqIndex?;simp only[if_neg (show ¬(0:Int) < 0 by decide)];rw[if_pos (by simp;lia)];rfl
inductive bK(vs:YG)(H:Hp)(Q:VK)(E:XK):Prop
 | mk (b nb:Addr) (n mp:Nat) (ns:List Int) (_:vs=[.ref b,.ref nb,.int mp]) (_:BZ H b n) (_:n<=5000) (_:b≠nb) (_:H nb=some (.lst (ns.map V.int))) (_:1<=mp) (_:mp<=12) (_:ns.length<=100) (_:∀t ps ns' H',LoopAt H' (.ref t) ps->(∀p∈ps,OkP p)->1<=ps.length->ps.length<=mp->ns=adL ps++ns'->H' nb=some (.lst (ns'.map V.int))->BZ H' b (n+100)->DK b nb H H'->Q (.ref t) H'):bK vs H Q E
inductive Vr(vs:YG)(H:Hp)(Q:VK)(E:XK):Prop
 | mk (t:Addr) (ps:List Place) (_:vs=[.ref t]) (_:LoopAt H (.ref t) ps) (_:(∀p∈ps,OkP p)) (_:ps.length<=100) (_:∀l H',H' l=some (.lst ((Ik ps).map V.int))->Same H H'->Q (.ref l) H'):Vr vs H Q E
def zH(b q lp:Addr)(G:Int)(H:Hp)(n:Nat)(I:List Int)(i:Nat)(U : St)(j:Hp):Prop:=
 ∃J N O Y vs ps z,U=[js b,js q,some (.int G),js lp,J,N,O,Y]/\j lp=some (.lst vs)/\Paired (Ei j) vs ps/\ps.length=i/\(∀p∈ps,OkP p)/\I=adL ps++z/\j q=some (.lst (z.map V.int))/\BZ j b (n+1+7*i)/\DK b q H j
theorem AK(C:Code K mg "_law_loop" Vy Ow)(T:Nm mg)(BJ:⋯ "_law_take" 1 Hh Oa):⋯ "_law_loop" 2 Ow bK:=by
 refine C.good JR (by nofun) λ_ _ _ _ _ H G Q E hr h=>?_
 obtain⟨b,j,n,mp,ns,rfl,hb,hn,an,ax,SW,bt,bu,bs⟩:=h;refine⟨_,(Ae (3∪JR∪(BW Ac))
 (Ae (Cj QbN rfl (Dp rfl T.range (Aa (Bh Cu Af (Ce BJ hr (Aa (pv 0) (Aa (pv 2) Ac)))) Ac)) (4∣JR)
 (Ae (5∪JR∪(Bh Cu Af (Bm Ds (@BW _ _ _ _ (0&&&(0&&&(0&&&(0&&&(0&&&(0&&&(@Ac _) Bk) Bk) Bk) Bk) Bk) Bk)) (Ce BJ hr (Aa (pv 0) (Aa Af Ac))) 07)))
 (Ag (Cw (PW.pt (Pu (Bx Gq (Ce BJ hr (Aa (pv 0) (Aa Af Ac))) Af (BK _)) (Oh (Bx mO (Av Bl rfl T.len CP (Aa (pv 1) Ac)) (pv 5) (BK _))))) (Ag (Bo (Cq Qar Qan Qao BP (pv 3) (Aa (Bd (Aa Bf (Aa Af (Aa (Bd Ac) Ac)))) Ac)))) (Ae (6∪JR∪(BW Ac))
 (Ae (Cj QbN rfl (Dp rfl T.range (Aa (pv 5) Ac)) (7∣JR)
 (Ag (Bo (Cq Qar Qan Qao BP (pv 6) (Aa (Bd (Aa (Bm Ds (BW (Aa Bf (Aa Bf (Aa Bf (Aa Bf Ac))))) (Ce BJ hr (Aa (pv 0) (Aa Af Ac))) 07) (Aa (Cq Qar PySem.F.slot_list_pop PySem.F.type_list_pop dY (pv 1) (Aa Af Ac)) Ac))) Ac)))))
 (Ag (Bo (Cq Qar Qan Qao BP (pv 3) (Aa (Bh Oz (Bm Ds (pv 6) Af 07) (Bd (Aa (CW DG rfl T.tuple Gb (Aa (K7 zW (pv 6) (Nz Af) NK) Ac)) Ac))) Ac))))))))))
 (Ag (Ba (CW DG rfl T.tuple Gb (Aa (pv 3) Ac)))))),?_⟩
 show let R0:TS:=_;let R1:TS:=_;let R2:TS:=_;let R3:TS:=_;let R4:TS:=Aq (Dm _ _ R3) R2;let R5:TS:=Aq _ R4;let R6:TS:=Jz _ R1 R5;let R7:TS:=Aq _ R6;let R8:TS:=Aq (Dm _ _ R7) R0;Aq _ R8 _ _ _;intro R0 R1 R2 R3 R4 R5 R6 R7 R8;refine⟨jv,λlp ag=>?_⟩;have s0:=Ad ag (.lst []);have ah:b≠lp:=hb.nb ag;have ap:j≠lp:=Aw ax ag;refine{_,rq,_,rq,b,n,_,rq,hb.same s0,by lia,by lia,by lia,λr H1 r0 r1 a6 ar=>{_,_,rq,rq,_,rq,by lia,by lia,?_}};obtain⟨rn,a7⟩ : ∃rn:Nat,r=rn:=⟨r.toNat,by lia⟩;subst a7;rw[show ((1:Int)+(rn:Int)).toNat=rn+1 by lia];have SK:∀{H2 H3:Hp},H2 lp=some (.lst [])->True:=λ_=>True.intro;refine Fg (zH b j lp mp H n ns) {_,_,_,_,[],[],ns,rq,ar _ _ Ab ah.symm,.nil,rq,(λp hp=>by cases hp),rq,ar _ _ (s0 _ _ ax) an.symm,a6,(DK.of s0).trans (DK.l ar)} (λi U HH hi h=>?_) (fun U HH h=>?_)
 .obtain⟨u4,u5,u6,u7,G,ps,ab,rfl,e1,e2,e3,e4,e5,e6,e7,e8⟩:=h;have NL:i < 12:=by lia
  have bv:=Qcf e2;refine{Ar (by show 6<=1000;decide),λl6 ay=>?_};have s6:=Ad ay (.lst [.int 0,.int 0,.int 0,.int 1,.int 2,.int 3]);refine{_,rq,b,_,6,rq,e7.same s6,by lia,by decide,by decide,λr2 HA a8 a9 ba sA=>?_};obtain⟨m,em,m0,m3⟩:=QP a8 a9 (a:=0) (b:=0) (c:=0) (d:=1) (e:=2) (f:=3) (λp=>0<=p/\p<=3) 05 05 05 05 05 05;obtain⟨mn,bb⟩ : ∃mn:Nat,m=mn:=⟨m.toNat,by lia⟩;subst bb;refine⟨l6,_,_,_,rq,rq,SqL.of (sA _ _ Ab (e7.nb ay).symm),em,_,_,rq,rq,?_⟩;refine{_,rq,b,_,4,rq,ba,by lia,by decide,by decide,λr3 Y bz b0 as sB=>⟨rq,_,rq,?_⟩};have ao:Ah b HH Y:=((Ah.of s6).trans sA).trans sB;have bc:Ak HH Y:=ao.tup e7.Ie;have f1:=ao _ _ e1 ah.symm;have f2:Paired (Ei Y) G ps:=Paired.Ax e2 λ_ _ z=>z.tups bc;have f6:=ao _ _ e6 an.symm;have f8:DK b j H Y:=e8.trans (DK.l ao);have az:∀q,Y q=none->∀t,upd Y q (.tup []) t=none->zH b j lp mp H n ns (i+1) [js b,js j,some (.int mp),js lp,some (.int (0+(i:Int))),some (.int (1+(mn:Int))),u6,u7] (upd (upd (upd Y q (.tup [])) t (.tup [.str "opener",.int 0,.ref q])) lp (.lst (G++[.ref t]))):=λq aa t J=>by
   have t1:=Ad aa (.tup []);have t2:=Ad J (.tup [.str "opener",.int 0,.ref q]);have bd:=t2 _ _ (t1 _ _ f1);have nt:∀zs,(upd (upd Y q (.tup [])) t (.tup [.str "opener",.int 0,.ref q])) lp≠some (.tup zs):=λzs z=>by rw[bd] at z;cases z
   have tu:=Ak.upd (o:=.lst (G++[.ref t])) nt;refine{_,_,_,_,G++[.ref t],ps++[opP],ab,rq,Ab,?_,by rw[QaV,e3];rfl,λp hp=>?_,?_,?_,?_,?_}
   .refine QcC ⟨t,q,[],rq,tu _ _ Ab,tu _ _ (t2 _ _ Ab),.nil⟩ (Paired.Ax f2 λ_ _ z=>(z.tups (Ak.of (t1.trans t2))).tups tu)
   .rcases QbK.mp hp with z | z
    .exact e4 p z
    .have:p=opP:=by simpa using z
     rw[this];exact Gc
   .rw[Wc,Fk,QbM];exact e5
   .rw[Ao ap];exact t2 _ _ (t1 _ _ f6)
   .exact (((as.same t1).same t2).Kq Ah.upd ah).mono 00
   .exact (f8.trans (DK.of (t1.trans t2))).Q7 Ah.upd ag
  refine M4 (λ_=>?_) (λ_=>?_)
  .refine{_,rq,.inl ⟨rq,_,SqL.of f1⟩,jv,λq aa=>⟨kg,λt J=>⟨lp,_,_,rq,rq,Ad J _ _ _ (Ad aa _ _ _ f1),Al 00,az q aa t J⟩⟩}
  .refine{_,rq,j,_,rq,.inl (SqL.of f6),_,rq,_,_,rq,rq,_,rq,M4 (λ_=>?_) (λcc=>?_)}
   .refine{_,rq,.inl ⟨rq,_,SqL.of f1⟩,jv,λq aa=>⟨kg,λt J=>⟨lp,_,_,rq,rq,Ad J _ _ _ (Ad aa _ _ _ f1),Al 00,az q aa t J⟩⟩}
   .have cc:¬(((ab.map V.int).length:Nat):Int) < 1+(mn:Int):=λz=>cc (Qca z);rw[QbJ] at cc;refine⟨jv,λI ai=>?_⟩;have sl:=Ad ai (.lst []);have JI:lp≠I:=Aw f1 ai;have DC:j≠I:=Aw f6 ai;have DD:b≠I:=as.nb ai;refine{_,rq,_,rq,by lia,by lia,?_};rw[show ((1:Int)+(mn:Int)).toNat=mn+1 by lia];have SZ:H I=none->True:=λ_=>True.intro;let J0:YN:=λaw U HC=>∃u7 xs ds ae,U=[js b,js j,some (.int mp),js lp,some (.int (0+(i:Int))),some (.int (1+(mn:Int))),js I,u7]/\HC I=some (.lst xs)/\Paired (KQ HC) xs ds/\ds.length=aw/\(∀d∈ds,Hv d.kind)/\ab=ds.map (·.addr)++ae/\HC j=some (.lst (ae.map V.int))/\BZ HC b (n+1+7*i+1+1+aw)/\HC lp=some (.lst G)/\Paired (Ei HC) G ps/\(∀c o,Y c=some o->c≠b->c≠j->HC c=some o);refine Fg J0
     {_,[],[],ab,rq,Ab,.nil,rq,(λd hd=>by cases hd),rq,sl _ _ f6,as.same sl,sl _ _ f1,Paired.Ax f2 λ_ _ z=>z.tups (Ak.of sl),λc o e _ _=>sl _ _ e} (λaw U HC hj h=>?_) (fun U HC h=>?_)
    .obtain⟨u7,xs,ds,ae,rfl,g1,g2,g3,g4,g5,g6,g7,g8,g9,au⟩:=h;refine{_,rq,.inl ⟨rq,_,SqL.of g1⟩,km,λl4 a1=>?_};have s4:=Ad a1 (.lst [.str "seeker",.str "knob",.str "bell",.str "door"]);refine{_,rq,b,_,4,rq,g7.same s4,by lia,by decide,by decide,λr4 HD be bg bi sD=>?_};obtain⟨k,ek,hk⟩:=BF be bg;have al:Ah b HC HD:=(Ah.of s4).trans sD;have bj:Ak HC HD:=al.tup g7.Ie;have av:=al _ _ g6 an.symm;cases ae with
     | nil=>
      rw[QbM] at g5;have:=congrArg List.length g5;rw[QbJ,g3] at this;lia
     | cons O am=>
      refine⟨l4,_,_,_,rq,rq,SqL.of (sD _ _ Ab (g7.nb a1).symm),ek,_,rq,.inl ⟨rq,_,SqL.of av⟩,j,_,0,0,.int O,rq,rq,av,by decide,by decide,pR (by rw[QbJ];show 0 < _+1;lia),rq,kf,λt J=>?_⟩;have tn:Ak HD (upd HD j (.lst (((O::am).map V.int).eraseIdx 0))):=Ak.upd λzs z=>by rw[av] at z;cases z
      have tt:=Ad J (.tup [.str k,.int O]);have a2:upd HD j (.lst (((O::am).map V.int).eraseIdx 0)) I=some (.lst xs):=by rw[Ao DC.symm];exact al _ _ g1 DD.symm
      refine⟨I,_,_,rq,rq,tt _ _ a2,Al (by rw[Qcf g2];lia),?_⟩;have nt:∀zs,(upd (upd HD j (.lst (((O::am).map V.int).eraseIdx 0))) t (.tup [.str k,.int O])) I≠some (.tup zs):=λzs z=>by rw[tt _ _ a2] at z;cases z
      have tu:=Ak.upd (o:=.lst (xs++[.ref t])) nt;have B2:Ak HC (upd (upd (upd HD j (.lst (((O::am).map V.int).eraseIdx 0))) t (.tup [.str k,.int O])) I (.lst (xs++[.ref t]))):=(bj.trans tn).trans ((Ak.of tt).trans tu);refine{_,xs++[.ref t],ds++[⟨k,O⟩],am,rq,Ab,QcC ⟨t,rq,tu _ _ Ab⟩ (Paired.Ax g2 λ_ _ z=>z.tups B2),by rw[QaV,g3];rfl,λd hd=>?_,?_,?_,?_,?_,Paired.Ax g9 λ_ _ z=>z.tups B2,λc o e n1 n2=>?_}
      .rcases QbK.mp hd with z | z
       .exact g4 d z
       .have:d=⟨k,O⟩:=by simpa using z
        rw[this];exact hk
      .rw[g5,QbL,Qbm];rfl
      .rw[Ao DC,tt _ _ Ab];rfl
      .exact ((bi.Kq Ah.upd an).same tt).Kq Ah.upd DD
      .rw[Ao JI,tt _ _ (by rw[Ao ap.symm];exact al _ _ g8 ah.symm)]
      .have e':=al _ _ (au _ _ e n1 n2) n1;rw[Ao (λz=>by rw[z,ai] at e;cases e),tt _ _ (by rw[Ao n2];exact e')]
    .obtain⟨u7,xs,ds,ae,rfl,g1,g2,g3,g4,g5,g6,g7,g8,g9,au⟩:=h;cases ds with
     | nil=>cases g3
     | cons N dr=>
      cases g2 with
      | @cons x0 _ xr _ bk a3=>
       obtain⟨t0,rfl,bl⟩:=bk;have b1:=Qcf a3;have b2:dr.length=mn:=by simpa using g3
       refine{_,rq,.inl ⟨rq,_,SqL.of g8⟩,_,rq,I,_,_,_,rq,rq,SqL.of g1,Eu (xs:=.ref t0::xr) (j:=0) rfl,_,rq,_,rq,I,_,rq,SqL.of g1,λp1 bm=>?_};have ec:JM (.ref t0::xr) (some 1) none=xr:=V8 (xs:=.ref t0::xr) (k:=1) 04;rw[ec] at *;have bn:=Ad bm (.lst xr);refine⟨p1,_,rq,.inl {SqL.of Ab,λtu bo=>⟨ke,λt1 bp=>?_⟩}⟩;have bq:=Ad bo (.tup xr);have a4:=Ad bp (.tup [.ref tu]);have sp:=(bn.trans bq).trans a4;refine⟨t0,t1,_,_,rq,rq,sp _ _ bl,Ab,Ar (by show 2+1<=1000;decide),λtp HE hE sE=>?_⟩;have af:=sp.trans sE;have a5:=af _ _ g8;refine⟨lp,_,_,rq,rq,a5,Al 00,?_⟩;have nt:∀zs,HE lp≠some (.tup zs):=λzs z=>by rw[a5] at z;cases z
       have tv:=Ak.upd (o:=.lst (G++[.ref tp])) nt;have br:OkP ⟨N.kind,N.addr,dr⟩:={by show dr.length<=3;lia,λd hd=>g4 d (QaI _ hd),.inr (g4 N (QaW ..))};refine{_,_,_,_,G++[.ref tp],ps++[⟨N.kind,N.addr,dr⟩],ae,rq,Ab,?_,by rw[QaV,e3];rfl,λp hp=>?_,?_,?_,?_,?_}
       .refine QcC ⟨tp,tu,xr,rq,tv _ _ hE,tv _ _ (sE _ _ (a4 _ _ Ab)),Paired.Ax a3 λ_ _ z=>(z.tups (Ak.of af)).tups tv⟩ (Paired.Ax g9 λ_ _ z=>(z.tups (Ak.of af)).tups tv)
       .rcases QbK.mp hp with z | z
        .exact e4 p z
        .have:p=⟨N.kind,N.addr,dr⟩:=by simpa using z
         rw[this];exact br
       .rw[Wc,e5,g5,Qbm];congr 1;have:adP ⟨N.kind,N.addr,dr⟩=N.addr::dr.map (·.addr):=if_neg (Xd (g4 N (QaW ..)));rw[this];rfl
       .rw[Ao ap];exact af _ _ g6
       .exact ((g7.same af).Kq Ah.upd ah).mono 00
       .refine DK.Q7 (λc o e n1 n2=>af _ _ (au _ _ (f8 _ _ e n1 n2) n1 n2)) Ah.upd ag
 .obtain⟨u4,u5,u6,u7,G,ps,ab,rfl,e1,e2,e3,e4,e5,e6,e7,e8⟩:=h;refine{_,rq,lp,_,rq,.inl {SqL.of e1,λt J=>?_}};have st:=Ad J (.tup G);exact bs t ps ab _ ⟨t,G,rq,Ab,Paired.Ax e2 λ_ _ z=>z.tups (Ak.of st)⟩ e4 00 00 e5 (st _ _ e6) ((e7.same st).mono 00) (e8.trans (DK.of st))
abbrev K3:Stmt:=top 66
abbrev Ou:YF:=["_law_bag_here","_law_most_loops","_law_most_places"]
abbrev xk:YF:=["_law_bag_here","_law_most_loops","_law_most_places","_law_start","_law_stride","_law_numbers","_law_own","_law_first","_law_at","_law_loops","_law_loop_here","_law_most","_law_told","_law_places","_law_kind_here","_law_address","_law_spur","_law_zones","_law_names_here","_law_name_here","_law_some"]
theorem Ci:Ay xk Ou (Ai K3):=by ac_rfl
theorem gO(xs:YG)(y:V):atI (xs++[y]) (-1)=some y:=by
 unfold atI ixN;rw[if_neg 05,QaV,QaE,if_pos 00,show (-1+((xs.length+1:Nat):Int)).toNat=xs.length by lia];show (xs++[y])[xs.length]?=some y;rw[List.getElem?_append_right (QcA _),Nat.sub_self];rfl
theorem xG(xs:YG)(y:V):ixN (xs++[y]).length (-1)=some xs.length:=by
 unfold ixN;rw[if_neg 05,QaV,QaE,if_pos 00,show (-1+((xs.length+1:Nat):Int)).toNat=xs.length by lia]
theorem uN(xs:YG)(y z:V):(xs++[y]).set xs.length z=xs++[z]:=by
 rw[List.set_append_right _ _ (QcA _),Nat.sub_self];rfl
theorem QO{i:Int}(Y:0<=i)(h9:i < 9){a b c d e f g h k:Int}(P:Int->Prop)(j:P a)(q:P b)(hc:P c)(z:P d)(G:P e)(I:P f)(J:P g)(N:P h)(O:P k):∃p,atI [V.int a,.int b,.int c,.int d,.int e,.int f,.int g,.int h,.int k] i=some (.int p)/\P p:=by
 have:i=0\/i=1\/i=2\/i=3\/i=4\/i=5\/i=6\/i=7\/i=8:=by lia
 rcases this with rfl | rfl | rfl | rfl | rfl | rfl | rfl | rfl | rfl
 .exact⟨_,rq,j⟩
 .exact⟨_,rq,q⟩
 .exact⟨_,rq,hc⟩
 .exact⟨_,rq,z⟩
 .exact⟨_,rq,G⟩
 .exact⟨_,rq,I⟩
 .exact⟨_,rq,J⟩
 .exact⟨_,rq,N⟩
 .exact⟨_,rq,O⟩
theorem rN(j:List Int):(j.map V.int).all Lw=true:=by
 rw[List.all_map,List.all_eq_true];intro _ _;rfl
theorem E8{xs:YG}{m:Nat}(h:m<=xs.length):JM xs none (some (m:Int))=xs.take m:=by
 unfold JM;rw[HT.cB,HT.jL,Nat.min_eq_left h];rfl
theorem Paired.yM{j q : Type}{F:j->q->Prop}:∀{l:List j} {r:List q} (n:Nat),Paired F l r->Paired F (l.take n) (r.take n)
 | _,_,0,_=>.nil
 | _,_,_+1,.nil=>.nil
 | _,_,n+1,.cons h t=>.cons h (Paired.yM n t)
theorem Paired.zu{j q : Type}{F:j->q->Prop}:∀{l:List j} {r:List q} (n:Nat),Paired F l r->Paired F (l.drop n) (r.drop n)
 | _,_,0,h=>h
 | _,_,_+1,.nil=>.nil
 | _,_,n+1,.cons h t=>Paired.zu n t
theorem Paired.app{I J : Type}{F:I->J->Prop}:∀{j q : List I} {z G : List J},Paired F j z->Paired F q G->Paired F (j++q) (z++G)
 | _,_,_,_,.nil,t=>t
 | _,_,_,_,.cons r s,t=>.cons r (Paired.app s t)
theorem jP:∀(ps:List Place) (a:List Int×Int),(ps.foldl ptS a).1.sum+(ps.foldl ptS a).2=a.1.sum+a.2+((adL ps).length:Int)
 | [],a=>by show _=_+_+((0:Nat):Int);simp
 | p::r,a=>by
  rw[List.foldl_cons,jP r];have e:adL (p::r)=adP p++adL r:=by unfold adL;rw[Qbr]
  rw[e,QaV];unfold ptS adP;by_cases h:V.str p.kind=V.str "opener"
  .rw[if_pos h,if_pos h,List.sum_append];simp
  .rw[if_neg h,if_neg h,Qbz,QbJ];simp only;lia
theorem p7:∀(ps:List Place) (a:List Int×Int),(∀m∈a.1,0<=m)->0<=a.2->(∀m∈(ps.foldl ptS a).1,0<=m)/\0<=(ps.foldl ptS a).2
 | [],a,h1,h2=>⟨h1,h2⟩
 | p::r,a,h1,h2=>by
  rw[List.foldl_cons];refine p7 r _ ?_ ?_
  .unfold ptS;split
   .intro m j;rcases QbK.mp j with z | z
    .exact h1 m z
    .have:m=a.2:=by simpa using z
     rw[this];exact h2
   .exact h1
  .unfold ptS;split
   .exact Int.le_refl _
   .show 0<=a.2+1+(p.spur.length:Int);lia
theorem pJ:∀{l:List Int},(∀m∈l,0<=m)->0<=l.sum/\∀m∈l,m<=l.sum
 | [],_=>{Int.le_refl _,λm h=>by cases h}
 | x::r,h=>by
  obtain⟨h1,h2⟩:=pJ (l:=r) λm j=>h m (QaI _ j);have q:=h x (QaW ..);rw[List.sum_cons];refine{by lia,λm j=>?_};rcases Qcg.mp j with rfl | j
  .omega
  .have:=h2 m j;lia
theorem vG(ps:List Place):∀m∈Ik ps,0<=m:=by
 have h:=p7 ps ([],0) (λm j=>by cases j) (Int.le_refl _);intro m j;rcases QbK.mp j with z | z
 .exact h.1 m z
 .have:m=(pst ps).2:=by simpa using z
  rw[this];exact h.2
theorem Zt(ps:List Place):(Ik ps).sum=((adL ps).length:Int):=by
 have h:=jP ps ([],0);unfold Ik;rw[List.sum_append];have:(pst ps).1.sum+(pst ps).2=((adL ps).length:Int):=by
  have e:(pst ps).1.sum+(pst ps).2=([]:List Int).sum+0+((adL ps).length:Int):=h;rw[e];simp
 simp;lia
theorem vH(ps:List Place):∀m∈Ik ps,m<=((adL ps).length:Int):=λm j=>by
 have:=(pJ (vG ps)).2 m j;rw[Zt] at this;exact this
theorem jC:∀{l:List Int},1<=l.sum->∃m∈l,1<=m
 | [],h=>by simp at h
 | x::r,h=>by
  rw[List.sum_cons] at h;by_cases j:1<=x
  .exact⟨x,QaW ..,j⟩
  .obtain⟨m,h1,h2⟩:=jC (l:=r) 00;exact⟨m,QaI _ h1,h2⟩
structure OkL(ps:List Place):Prop where
 lo:1<=ps.length
 hi:ps.length<=12
 ok:∀p∈ps,OkP p
def CQ(j:YU):List Int:=j.flatMap adL
structure gW(most:Int)(ja:YU)(jp:List Zone):Prop where
 nd:(CQ ja).Nodup
 bd:∀x∈CQ ja,1<=x/\x<=99
 cnt:1<=(CQ ja).length/\(CQ ja).length<=30
 mo:1<=most/\most<=30
 few:∀ps∈ja,∀m∈Ik ps,m<=most
 zin:∀z∈jp,∀x∈z.adr,x∈Fz ja
 znd:(jp.flatMap (·.adr)).Nodup
 zup:∀z∈jp,z.adr.Pairwise (· < ·)/\1<=z.adr.length/\z.adr.length<=30
 BT:jp.length<=8
 znm:∀z∈jp,(1<=z.name.length/\z.name.length<=8)/\okS z.name
 zdi:(jp.map (·.name)).Nodup
inductive bI(vs:YG)(H:Hp)(Q:VK)(E:XK):Prop
 | mk (b:Addr) (n ml mp:Nat) (_:vs=[.ref b,.int ml,.int mp]) (_:BZ H b n) (_:n<=1000) (_:1<=ml) (_:ml<=3) (_:2<=mp) (_:mp<=12) (_:∀t Ls zs vs zvs ja jp most H',H' t=some (.tup [.int most,.ref Ls,.ref zs])->H' Ls=some (.tup vs)->Paired (LoopAt H') vs ja->(∀ps∈ja,OkL ps)->1<=ja.length->ja.length<=3->H' zs=some (.tup zvs)->Paired (Jq H') zvs jp->gW most ja jp->BZ H' b (n+3000)->Ah b H H'->Q (.ref t) H'):bI vs H Q E
def Cb:TS:=λD U H=>∃(b j I:Addr) (n q:Nat) (z:List Int),U[0]?=some (some (.ref b))/\U[5]?=some (some (.ref j))/\U[2]?=some (some (.int q))/\U[7]?=some (some (.ref I))/\H I=some (.tup [])/\BZ H b n/\n<=4000/\b≠j/\H j=some (.lst (z.map V.int))/\2<=q/\q<=12/\z.length<=100 /\
 ∀t vs ps G H',H' t=some (.tup vs)->Paired (Ei H') vs ps->(∀p∈ps,OkP p)->ps.length+1<=q->z=adL ps++G->H' j=some (.lst (G.map V.int))->BZ H' b (n+101)->DK b j H H'->D.nx (U.set 7 (some (.ref t))) H'
theorem qx(C:Code K mg "_law_parts" Sh Mg)(T:Nm mg):⋯ "_law_parts" 1 Mg Vr:=by
 refine C.good Kh (by nofun) λ_ _ _ _ _ H Y Q E hr h=>?_
 obtain⟨t,ps,rfl,⟨t',Y,j,ht,O⟩,ah,ag,ae⟩:=h;cases j;refine⟨_,(Ae (1∪Kh∪(BW (Aa Af Ac)))
 (Ae (Cj QbN rfl (Fb (pv 0)) (CV rfl (Am (2∣Kh) (Am (3∣Kh) (Am (4∣Kh) Bt))))
 (Ag (Cw (Bx Gq (pv 2) Bf (BK _)) (Ag (Bo (Cq Qar Qan Qao BP (pv 1) (Aa Af Ac)))) (Ag (Ir (Bh Cu (Bh Cu (Bm Ds (pv 1) (Px LK Af) 07) Af) (Av Bl rfl T.len CP (Aa (pv 4) Ac))) (cV (pv 1) (Px LK Af) set_list))))))
 (Ag (Ba (pv 1))))),?_⟩
 show let R0:TS:=_;let R1:TS:=_;let R2:TS:=Jz _ R0 R1;let R3:TS:=Aq (Dm _ _ R2) _;Aq _ R3 _ _ _;intro R0 R1 R2 R3;refine⟨ke,λq N=>?_⟩;have s1:=Ad N (.lst [.int 0]);have aa:=Qcf O;refine{_,rq,t,rq,{_,SqT.of (s1 _ _ ht)},?_};let J0:YN:=λi U z=>∃(G I J:Option V),U=[js t,js q,G,I,J]/\z q=some (.lst ((pst (ps.take i)).1.map V.int++[.int (pst (ps.take i)).2]))/\(pst (ps.take i)).1.length<=i/\Same H z;refine Kd (xs:=Y) J0 {_,_,_,rq,Ab,QcA _,s1} (λi U z _ h=>?_) (λi x U z hx h=>?_) (fun U z h=>?_)
 .obtain⟨G,I,J,rfl,e1,e2,e3⟩:=h;exact SqT.of (e3 _ _ ht)
 .obtain⟨G,I,J,rfl,e1,e2,e3⟩:=h;obtain⟨p,hp,tp,up,ws,rfl,h1,h2,h3⟩:=Paired.Cp O hx;have hi:=(Qah.mp hx).1;have j:pst (ps.take (i+1))=ptS (pst (ps.take i)) p:=by rw[QcJ hp,cP]
  have ab:=Qcf h3;generalize pst (ps.take i)=a at *;refine⟨tp,_,rq,SqT.of (e3 _ _ h1),rq,_,_,rq,_,_,rq,_,_,rq,rq,?_⟩;refine{_,rq,rq,_,rq,M4 (λhc=>?_) (λhc=>?_)}
  .have hc:V.str p.kind=V.str "opener":=Qbq hc;have j:pst (ps.take (i+1))=(a.1++[a.2],0):=by rw[j];exact if_pos hc
   refine{_,rq,.inl ⟨rq,_,SqL.of e1⟩,q,_,_,rq,rq,e1,Al (by rw[QaV,QbJ];show _+1<=_;lia),_,_,_,rq,?_,?_,e3.Bq Ah.upd N}
   .rw[Ab,j,QbL];rfl
   .rw[j,QaV];show _+1<=_;lia
  .have hc:¬V.str p.kind=V.str "opener":=λaf=>hc (Qca af);have j:pst (ps.take (i+1))=(a.1,a.2+1+(p.spur.length:Int)):=by rw[j];exact if_neg hc
   refine{_,rq,_,rq,q,_,_,_,rq,rq,SqL.of e1,gO _ _,_,_,rq,rq,_,rq,up,_,rq,.inr (SqT.of (e3 _ _ h2)),_,_,rq,rq,_,rq,_,rq,q,_,_,_,rq,rq,e1,xG _ _,_,_,_,rq,?_,by rw[j];show a.1.length<=_;lia,e3.Bq Ah.upd N};rw[Ab,uN,j,<-ab]
 .obtain⟨G,I,J,rfl,e1,e2,e3⟩:=h;rw[aa,Qby] at e1;refine{_,rq,ae q z (by unfold Ik;rw[QbL];exact e1) e3}
theorem CD{j : Type}{l:List j}{i:Nat}{x:j}(h:l[i]?=some x):l.set i x=l:=by
 obtain⟨hi,e⟩:=Qah.mp h;subst e;exact List.set_getElem_self hi
theorem Ln.tups{H H':Hp}{vs:YG}{j:YU}(s:Ak H H')(h:Paired (LoopAt H) vs j):Paired (LoopAt H') vs j:=Paired.Ax h λ_ _ z=>z.tups s
theorem Pn.tups{H H':Hp}{vs:YG}{j:List Place}(s:Ak H H')(h:Paired (Ei H) vs j):Paired (Ei H') vs j:=Paired.Ax h λ_ _ z=>z.tups s
theorem N5(a b:List Place):adL (a++b)=adL a++adL b:=by unfold adL;rw[QaO]
theorem ZV(j:YU)(ps:List Place):CQ (j++[ps])=CQ j++adL ps:=by unfold CQ;rw[QaO];simp
def wr(ds:List Dev):Nat:=(ds.filter λd=>!decide (V.str d.kind=V.str "opener")).length
theorem V1(w:Int):∀j:List Int,inV (.int w) (j.map V.int)=decide (w∈j)
 | []=>rfl
 | x::r=>by
  have q:=V1 w r;unfold inV at q ⊢;rw[Qch,Qcl,q];have h2:eqV (.int x) (.int w)=decide (w=x):=by
   show (x == w)=decide (w=x);rw[QbS,beq_iff_eq,Qbd];exact⟨λh=>h.symm,λh=>h.symm⟩
  rw[h2,QbS,Bool.or_eq_true,Qbd,Qbd,Qbd,Qcg]
def Fw(p:Int):Prop:=p=1\/p=2\/p=4\/p=5\/p=7\/p=8\/p=10\/p=13\/p=98
def Qv(r j:Int)(n:Nat):List Int:=(List.range n).map λk:Nat=>(r+j*(0+(k:Int))) % 99+1
theorem qF(r j:Int)(n:Nat):Qv r j (n+1)=Qv r j n++[(r+j*(0+(n:Int))) % 99+1]:=by
 unfold Qv;rw[List.range_succ,QbL];rfl
theorem AO(r j:Int)(n:Nat):∀x∈Qv r j n,1<=x/\x<=99:=λx q=>by
 obtain⟨k,_,rfl⟩:=Qcq.mp q;have h1:=QbX (r+j*(0+(k:Int))) (show (99:Int)≠0 by decide);have h2:=Qbj (r+j*(0+(k:Int))) (show (0:Int) < 99 by decide);lia
theorem AN{r q:Int}(h:Fw q):(Qv r q 30).Nodup:=by
 unfold Qv;refine Qbt.mpr ?_;refine List.Pairwise.imp_of_mem (λ{i j} hi z G=>?_) (List.pairwise_lt_range (n:=30));have hi:=Qcd.mp hi;have z:=Qcd.mp z;intro e;unfold Fw at h;rcases h with rfl | rfl | rfl | rfl | rfl | rfl | rfl | rfl | rfl <;> lia
theorem jy:∀{ds:List Dev},(Ja ds).Sublist (ds.map (·.addr))
 | ds=>by unfold Ja;exact List.Sublist.map _ (QaU ..)
theorem aV{p:Place}(h:OkP p):(Ja (Ge p)).Sublist (adP p):=by
 rcases h.form with⟨f1,q,j⟩| f1
 .have e:adP p=[]:=if_pos (by rw[f1]);have e2:Ja (Ge p)=[]:=by
   unfold Ge Ja;rw[j,f1];have:Ft "opener"=false:=by trivial
   rw[Qat (by rw[this];decide)];rfl
  rw[e,e2];exact .slnil
 .have e:adP p=(Ge p).map (·.addr):=if_neg (Xd f1);rw[e];exact jy
theorem Vm:∀{ps:List Place},(∀p∈ps,OkP p)->(Jx ps).Sublist (adL ps)
 | [],_=>.slnil
 | p::r,h=>by
  have e1:Jx (p::r)=Ja (Ge p)++Jx r:=by unfold Jx;rw[Qbr]
  have e2:adL (p::r)=adP p++adL r:=by unfold adL;rw[Qbr]
  rw[e1,e2];exact (aV (h p (QaW ..))).append (Vm λq j=>h q (QaI _ j))
theorem RT:∀{j:YU},(∀ps∈j,OkL ps)->(Fz j).Sublist (CQ j)
 | [],_=>.slnil
 | ps::r,h=>by
  have e1:Fz (ps::r)=Jx ps++Fz r:=by unfold Fz;rw[Qbr]
  have e2:CQ (ps::r)=adL ps++CQ r:=by unfold CQ;rw[Qbr]
  rw[e1,e2];exact (Vm (h ps (QaW ..)).ok).append (RT λq z=>h q (QaI _ z))
theorem j9{ps:List Place}:∀(ja:YU),ps∈ja->(adL ps).length<=(CQ ja).length
 | [],h=>by cases h
 | a::r,h=>by
  have e:CQ (a::r)=adL a++CQ r:=by unfold CQ;rw[Qbr]
  rw[e,QaV];rcases Qcg.mp h with rfl | h
  .omega
  .have:=j9 r h;lia
structure Rz(ws:List Int)(ts:List Int)(jp:List Zone)(ys:YF):Prop where
 nd:(jp.flatMap (·.adr)++ts).Nodup
 sub:∀x∈jp.flatMap (·.adr)++ts,x∈ws
 up:∀z∈jp,z.adr.Pairwise (· < ·)/\1<=z.adr.length/\z.adr.length<=30
 nm:(jp.map (·.name)).Sublist ys
theorem Rz.next{ws ts q ss:List Int}{I:List Zone}{ys:YF}{y:Str}(h:Rz ws ts I ys)(hp:q.Perm ss)(N:ss.Sublist ts)(hr:q.Pairwise (·<=·))(ae:q.length<=30)(y1:1<=q.length):Rz ws (ts.filter λx=>!decide (x∈q)) (I++[⟨y,q⟩]) (ys++[y]):=by
 obtain⟨n1,n2,n3⟩:=Qbu.mp h.nd;have O:q.Nodup:=hp.nodup_iff.mpr (N.nodup n2);have Y:∀x∈q,x∈ts:=λx j=>N.subset (hp.mem_iff.mp j);have e:(I++[(⟨y,q⟩ : Zone)]).flatMap (·.adr)=I.flatMap (·.adr)++q:=by rw[QaO];simp
 refine{?_,λx j=>?_,λab G=>?_,?_}
 .rw[e,Qbu];refine{Qbu.mpr ⟨n1,O,λa z b J=>n3 a z b (Y b J)⟩,n2.filter _,λa z b J=>?_};obtain⟨af,aa⟩:=QbR.mp J;rcases QbK.mp z with z | z
  .exact n3 a z b af
  .rintro rfl;rw[Qca z] at aa;cases aa
 .rw[e] at j;rcases QbK.mp j with j | j
  .rcases QbK.mp j with j | j
   .exact h.sub x (QaJ _ j)
   .exact h.sub x (QaC _ (Y x j))
  .exact h.sub x (QaC _ (QbR.mp j).1)
 .rcases QbK.mp G with G | G
  .exact h.up ab G
  .have:ab=⟨y,q⟩:=by simpa using G
   rw[this];refine{?_,y1,ae};refine List.Pairwise.imp₂ (S:=λa b:Int=>a≠b) (λa b h1 h2=>by lia) hr O
 .rw[QbL];exact h.nm.append (List.Sublist.refl _)
theorem Rz.none{q ts:List Int}{z:List Zone}{ys:YF}{y:Str}{g:Int->Bool}(h:Rz q ts z ys):Rz q (ts.filter g) z (ys++[y]):=by
 obtain⟨G,I,J⟩:=Qbu.mp h.nd;refine{Qbu.mpr ⟨G,I.filter _,λa N b O=>J a N b (QbR.mp O).1⟩,λx j=>?_,h.up,h.nm.trans (List.sublist_append_left ..)};rcases QbK.mp j with j | j
 .exact h.sub x (QaJ _ j)
 .exact h.sub x (QaC _ (QbR.mp j).1)
abbrev xp:YF:=["_law_other","_law_number"]
abbrev xC:YF:=["_law_k","_law_start","_law_stride"]
abbrev xD:YF:=["_law_number","_law_bag_here"]
theorem AI(C:Code K mg "_law_plan" K3 Ou)(T:Nm mg)(BJ:⋯ "_law_take" 1 Hh Oa)(fG:⋯ "_law_loop" 2 Ow bK)(rA:⋯ "_law_parts" 1 Mg Vr)(rB:⋯ "_law_names" 3 Mh X3) :
  ⋯ "_law_plan" 4 Ou bI:=by
 exists C,Ci
 obtain⟨b,n,ml,mp,rfl,hb,hn,SY,gm,NE,cf,av⟩:=h;refine⟨_,(Ae (Az (i:=3) Ci.nd rfl (Or.inr rfl) (Ce BJ hr (Aa (pv 0) (Aa Af Ac))))
 (Ae (Az (i:=4) Ci.nd rfl (Or.inr rfl) (Bm Ds (@BW _ _ _ _ (0&&&(0&&&(0&&&(0&&&(0&&&(0&&&(0&&&(0&&&(0&&&(@Ac _) Bk) Bk) Bk) Bk) Bk) Bk) Bk) Bk) Bk)) (Ce BJ hr (Aa (pv 0) (Aa Af Ac))) 07))
 (Ae (Yn (i:=5) Ci.nd rfl (Or.inl rfl) (N':=xC) rfl ([none,some 3,some 4]|||(Ai K3)|||xk) (Dp rfl T.range (Aa Af Ac)) (~~~(0∩xC)) (λ_ _ _ _=>CK) (~~~(Bh Cu (Bh Mt (Bh Cu (pv 1) (Bh Iu (pv 2) (pv 0))) Af) Af)))
 (Ae (6∪Ci∪(Cq Qar PySem.F.slot_list_pop PySem.F.type_list_pop dY (pv 5) (Aa Af Ac)))
 (Ae (7∪Ci∪(Bd Ac))
 (Ae (PS.weak (t':=Cb) (Cw (Bx Uk (Ce BJ hr (Aa (pv 0) (Aa Af Ac))) Af (BK _)) (Ag (7∪Ci∪(Dc fG hr (Aa (pv 0) (Aa (pv 5) (Aa (Bh dj (pv 2) Af) Ac)))))) BR) (λD U H h=>by
    obtain⟨b,J,f0,n,mp,ns,e0,e5,e2,e7,bm,hb,hn,al,ch,cf,SR,bn,av⟩:=h;refine{_,e0,b,n,8,rq,hb,by lia,by decide,by decide,λr H1 r0 r1 az ap=>{_,_,rq,rq,_,rq,M4 (λ_=>?_) (λ_=>?_)}}
    .refine{_,e0,_,e5,_,e2,_,_,rq,rq,b,J,n+1,mp - 1,ns,?_,az,by lia,al,ap _ _ ch al.symm,by lia,by lia,bn,λt ps am H2 ⟨t',vs,et,ht,hp⟩ bo h1 h2 ee bl a0 s2=>?_}
     .show [V.ref b,.ref J,.int ((mp:Int) - 1)]++[]=_;rw[show ((mp:Int) - 1)=((mp - 1:Nat):Int) by lia];rfl
     .cases et;exact av t vs ps am H2 ht hp bo 00 ee bl (a0.mono 00) ((DK.l ap).trans s2)
    .have av:=av f0 [] [] ns H1 (ap.tup hb.Ie _ _ bm) .nil (λp hp=>by cases hp) (by show 0+1<=mp;lia) rfl (ap _ _ ch al.symm) (az.mono 00) (DK.l ap);rw[CD e7] at av;exact av))
 (Ae (8∪Ci∪(Ce BJ hr (Aa (pv 0) (Aa (Bh Cu (Av Bl rfl T.len CP (Aa (pv 7) Ac)) Af) Ac))))
 (Ae (9∪Ci∪(BW (Aa (Bh Oz (Bh Oz (K7 Yc (pv 7) NK (Nz (pv 8))) (Bd (Aa (Bd (Aa Bf (Aa (pv 6) (Aa (Bd Ac) Ac)))) Ac))) (K7 Yc (pv 7) (Nz (pv 8)) NK)) Ac)))
 (Ae (Cj QbN rfl (Dp rfl T.range (Aa (Ce BJ hr (Aa (pv 0) (Aa (pv 1) Ac))) Ac)) (10∣Ci)
 (Ag (Bo (Cq Qar Qan Qao BP (pv 9) (Aa (Dc fG hr (Aa (pv 0) (Aa (pv 5) (Aa (pv 2) Ac)))) Ac)))))
 (Ae (11∪Ci∪(Av (ZK rfl) rfl T.max gG (Aa (Ck (N':=Mg) rfl nofun (CZ (pv 9)) (~~~(0∩Mg)) (λ_ _ _ _=>CK) (~~~(Av (oW (K:=K) rfl rfl) rfl T.max gG (Aa (Cr rA hr (Aa (pv 0) Ac)) Ac)))) Ac)))
 (Ae (12∪Ci∪(BW Ac))
 (Ae (Cj QbN rfl (CZ (pv 9)) (13∣Ci)
 (Ag (Cj QbN rfl (Fb (pv 13)) (CV rfl (Am (14∣Ci) (Am (15∣Ci) (Am (16∣Ci) Bt))))
 (Ag (Bo (Cq Qar Qap Qaq FT (pv 12) (Aa (Ck (N':=xp) rfl nofun (Fb (Bh Oz (Bd (Aa (Bd (Aa (pv 14) (Aa (pv 15) Ac))) Ac)) (pv 16))) (~~~(Hz (K:=K) (n:=2) rfl rfl (Am (0∩xp) (Am (1∩xp) Bt)))) (~~~(GP (Bx (WR (K:=K) rfl) (pv 0) (Bd (Aa Bf (Aa Bf Ac))) (by with_unfolding_all rfl)))) (~~~(pv 1))) Ac)))))))
 (Ae (17∪Ci∪(BW Ac))
 (Ae (18∪Ci∪(Ce rB hr (Aa (pv 0) (Aa (Ce BJ hr (Aa (pv 0) (Aa Af Ac))) Ac))))
 (Ae (Cj QbN rfl (CZ (pv 18)) (19∣Ci)
 (Ae (Az (i:=20) Ci.nd rfl (Or.inr rfl) (Av gA rfl T.sorted Qf (Aa (Ck (N':=xD) rfl ([none,some 0]|||(Ai K3)|||xk) (CZ (pv 12)) (~~~(0∩xD)) (~~~(GP (Bx Gq (Ce BJ hr (Aa (pv 1) (Aa Af Ac))) Af (BK _)))) (~~~(pv 0))) Ac)))
 (Ae (Yn (i:=12) Ci.nd rfl (Or.inl rfl) (N':=["_law_number","_law_some"]) rfl ([none,some 20]|||(Ai K3)|||xk) (CZ (pv 12)) (~~~(Aj (i:=0) (show List.Nodup (["_law_number","_law_some"]:YF) by trivial) rfl (Or.inl rfl))) (~~~(GP (Bx (RG (K:=K) rfl) (pv 0) (pv 1) (by with_unfolding_all rfl)))) (~~~(pv 0)))
 (Ag (Cw (Bx Uk (Av Bl rfl T.len CP (Aa (pv 20) Ac)) Af (BK _)) (Ag (Bo (Cq Qar Qan Qao BP (pv 17) (Aa (Bd (Aa (pv 19) (Aa (CW DG rfl T.tuple Gb (Aa (pv 20) Ac)) Ac))) Ac)))) BR)))))
 (Ag (Ba (Bd (Aa (Av (Mz rfl) rfl T.min TF (Aa Af (Aa (Bh Cu (pv 11) (Ce BJ hr (Aa (pv 0) (Aa Af Ac)))) Ac))) (Aa (CW DG rfl T.tuple Gb (Aa (pv 9) Ac)) (Aa (CW DG rfl T.tuple Gb (Aa (pv 17) Ac)) Ac))))))))))))))))))))),?_⟩
 show let R0:TS:=_;let R1:TS:=_;let R2:TS:=Jz _ R1 _;let R3:TS:=Aq _ R2;let R4:TS:=Aq _ R3;let R5:TS:=Aq (Dm _ _ R4) R0;let R6:TS:=Aq _ R5;let R7:TS:=Aq _ R6;let R8:TS:=_;let R9:TS:=Dm _ _ R8;let ci:TS:=Aq (Dm _ _ R9) R7;let ck:TS:=Aq _ ci;let cl:TS:=Aq _ ck;let cm:TS:=_;let cn:TS:=Aq (Dm _ _ cm) cl;let co:TS:=Aq _ cn;let cp:TS:=Aq _ co;let cq:TS:=Aq _ cp;let cr:TS:=Aq _ cq;let cs:TS:=Aq _ cr;let ct:TS:=Aq _ cs;let cv:TS:=Aq _ ct;Aq _ cv _ _ _;intro R0 R1 R2 R3 R4 R5 R6 R7 R8 R9 ci ck cl cm cn co cp cq cr cs ct cv;generalize cw:L2.start _ _=eg;have e0:eg=[js b,some (.int ml),some (.int mp),none,none,none,none,none,none,none,none,none,none,none,none,none,none,none,none,none,none]:=cw.symm;clear cw;subst e0;refine{_,rq,b,n,99,rq,hb,by lia,by decide,by decide,λr1 H1 gn go az ap=>?_};simp only[QaZ,QaY];refine{Ar (by show 9<=1000;decide),λl9 cx=>?_};have s9:=Ad cx (.lst [.int 1,.int 2,.int 4,.int 5,.int 7,.int 8,.int 10,.int 13,.int 98]);refine{_,rq,b,_,9,rq,az.same s9,by lia,by decide,by decide,λr2 H2 eh ei a0 cy=>?_};obtain⟨sd,ej,⟨gp,gr⟩,ek⟩:=QO eh ei (a:=1) (b:=2) (c:=4) (d:=5) (e:=7) (f:=8) (g:=10) (h:=13) (k:=98) (λp=>(0<=p/\p<=98)/\Fw p) (by unfold Fw;decide) (by unfold Fw;decide) (by unfold Fw;decide) (by unfold Fw;decide) (by unfold Fw;decide) (by unfold Fw;decide) (by unfold Fw;decide) (by unfold Fw;decide) (by unfold Fw;decide);refine⟨l9,_,_,_,rq,rq,SqL.of (cy _ _ Ab (az.nb cx).symm),ej,?_⟩;simp only[QaZ,QaY];have cz:Ah b H H2:=(ap.trans (Ah.of s9)).trans cy;refine{_,rq,by decide,by decide,λJ xK=>?_};have al:b≠J:=a0.nb xK;have bp:H J=none:=cz.free a0.ex xK;let J0:YN:=λi U I=>∃(u:Option V) (ns:List Int),U=[u,some (.int r1),some (.int sd)]/\I=upd H2 J (.lst (ns.map V.int))/\ns=Qv r1 sd i;refine KJ J0 ⟨none,[],rq,rq,rq⟩ (λi U I hi h=>?_) (fun U I h=>?_)
 .obtain⟨u,ns,rfl,rfl,e1⟩:=h;have hi:i < 30:=hi;have gt:ns.length=i:=by rw[e1];unfold Qv;rw[QbJ,Qbw]
  refine{_,rq,_,rq,_,rq,_,_,rq,rq,.inl {by lia,by lia},_,_,rq,rq,_,_,rq,rq,(by show (0:Int) < 99;decide),_,_,rq,rq,_,Ab,Al (by rw[QbJ];lia),_,ns++[(r1+sd*(0+(i:Int))) % 99+1],rq,?_,by rw[qF,e1]};rw[T8,QbL];rfl
 obtain⟨u,vV,rfl,rfl,a8⟩:=h;have yr:vV=Qv r1 sd 30:=a8;have a8:vV.length=30:=by rw[yr];unfold Qv;rw[QbJ,Qbw]
 simp only[QaZ,QaY];cases vV with
 | nil=>cases a8
 | cons j Je=>
 have da:Je.length=29:=by simpa using a8
 have F8:(j::Je).Nodup:=by rw[yr];exact AN ek
 have F9:∀x∈j::Je,1<=x/\x<=99:=by rw[yr];exact AO r1 sd 30
 have sN:=Ad xK (.lst ((j::Je).map V.int));refine{_,rq,.inl ⟨rq,_,SqL.of Ab⟩,J,_,0,0,.int j,rq,rq,Ab,by decide,by decide,pR (by rw[QbJ];show 0 < _+1;lia),rq,?_};simp only[QaZ,QaY];have Ee:upd (upd H2 J (.lst ((j::Je).map V.int))) J (.lst (((j::Je).map V.int).eraseIdx 0)) J=some (.lst (Je.map V.int)):=by rw[Ab];rfl
 have db:BZ (upd (upd H2 J (.lst ((j::Je).map V.int))) J (.lst (((j::Je).map V.int).eraseIdx 0))) b (n+1+1):=(a0.same sN).Kq Ah.upd al;have dc:Ah b H (upd (upd H2 J (.lst ((j::Je).map V.int))) J (.lst (((j::Je).map V.int).eraseIdx 0))):=Ah.Q7 (cz.trans (Ah.of sN)) Ah.upd bp;generalize upd (upd H2 J (.lst ((j::Je).map V.int))) J (.lst (((j::Je).map V.int).eraseIdx 0))=H4 at Ee db dc;refine⟨jv,λf0 bm=>?_⟩;simp only[QaZ,QaY];have s5:=Ad bm (.tup []);refine⟨b,J,f0,_,mp,Je,rq,rq,rq,rq,Ab,db.same s5,by lia,al,s5 _ _ Ee,NE,cf,by lia,λft fv fp bq H5 dd de ED gu NA NC br el=>?_⟩;simp only[QaZ,QaY];have em:Ah b H H5:=λc o e nc=>el _ _ (s5 _ _ (dc _ _ e nc)) nc (λz=>by rw[z,bp] at e;cases e);have gv:=Qcf de;refine{_,rq,_,rq,ft,_,rq,.inr (SqT.of dd),_,_,rq,rq,b,_,_,rq,br,by lia,by lia,by lia,λr4 H6 gx gy bs a9=>?_};simp only[QaZ,QaY];obtain⟨O,en⟩ : ∃O:Nat,r4=O:=⟨r4.toNat,by lia⟩;subst en;have EB:=(a9.tup br.Ie) _ _ dd;have EC:=Pn.tups (a9.tup br.Ie) de;have D9:=a9 _ _ NC al.symm;have df:=em.trans a9;refine{_,rq,_,rq,_,rq,ft,fv,rq,EB,λp1 H7 ba s7=>?_};rw[E8 00] at ba;refine{_,rq,jv,λe0 eo=>⟨kg,λt3 ep=>⟨ke,λt1 eq=>?_⟩⟩};have q1:=Ad eo (.tup []);have q2:=Ad ep (.tup [.str "seeker",.int j,.ref e0]);have q3:=Ad eq (.tup [.ref t3]);have dg:=(q1.trans q2).trans q3;have ef:Ei (upd (upd (upd H7 e0 (.tup [])) t3 (.tup [.str "seeker",.int j,.ref e0])) t1 (.tup [.ref t3])) (.ref t3) {"seeker",j,[]}:=⟨t3,e0,[],rq,q3 _ _ Ab,q3 _ _ (q2 _ _ Ab),.nil⟩;refine⟨p1,t1,_,_,rq,rq,dg _ _ ba,Ab,Ar (by rw[QbA];show _+1<=1000;lia),λp2 H8 bt s8=>?_⟩;have dh:=(s7.trans dg).trans s8;refine{_,rq,_,rq,_,rq,ft,fv,rq,dh _ _ EB,λp3 H9 a1 bu=>?_};rw[V8 00] at a1;refine⟨p2,p3,_,_,rq,rq,bu _ _ bt,a1,Ar (by rw[QaV,QbA,QbD];show _+1+_<=1000;lia),λp4 a2 er di=>⟨ke,λY bb=>?_⟩⟩;simp only[QaZ,QaY];have cD:=(dh.trans bu).trans di;have bv:=Ad bb (.lst [.ref p4]);have cC:=cD.trans bv;have bz:LoopAt (upd a2 Y (.lst [.ref p4])) (.ref p4) ((fp.take O++[{"seeker",j,[]}])++fp.drop O):=by
  refine⟨p4,_,rq,bv _ _ er,Paired.app (Paired.app (Pn.tups (Ak.of cC) (Paired.yM O EC)) (.cons ?_ .nil)) (Pn.tups (Ak.of cC) (Paired.zu O EC))⟩;exact ef.tups (Ak.of (((s8.trans bu).trans di).trans bv))
 have DA:OkL ((fp.take O++[{"seeker",j,[]}])++fp.drop O):=by
  refine{?_,?_,λp hp=>?_}
  .rw[QaV,QaV];show 1<=_+1+_;lia
  .rw[QaV,QaV,QbA,QbD];show _+1+_<=12;lia
  .rcases QbK.mp hp with z | z
   .rcases QbK.mp z with z | z
    .exact ED p (List.mem_of_mem_take z)
    .have:p={"seeker",j,[]}:=by simpa using z
     rw[this];exact{by show 0<=3;decide,(λd hd=>by cases hd),.inr (.inl rfl)}
   .exact ED p (List.mem_of_mem_drop z)
 have dk:(adL ((fp.take O++[{"seeker",j,[]}])++fp.drop O)++bq).Perm (j::Je):=by
  have h2:adL fp=adL (fp.take O)++adL (fp.drop O):=by rw[<-N5,List.take_append_drop]
  have h3:adL [({"seeker",j,[]} : Place)]=[j]:=by
   have:adP {"seeker",j,[]}=[j]:=if_neg (Xd (.inl rfl));show [({"seeker",j,[]} : Place)].flatMap adP=[j];simp[this]
  rw[N5,N5,h3,NA,h2,Qbm,Qbm,Qbm];exact (List.perm_middle (l₁:=adL (fp.take O)) (a:=j) (l₂:=adL (fp.drop O)++bq))
 have HZ:1<=(adL ((fp.take O++[{"seeker",j,[]}])++fp.drop O)).length:=by
  have h3:adL [({"seeker",j,[]} : Place)]=[j]:=by
   have:adP {"seeker",j,[]}=[j]:=if_neg (Xd (.inl rfl));show [({"seeker",j,[]} : Place)].flatMap adP=[j];simp[this]
  rw[N5,N5,h3,QaV,QaV];show 1<=_+1+_;lia
 generalize S2:(fp.take O++[{"seeker",j,[]}])++fp.drop O=L0 at bz DA dk HZ;have b0:BZ (upd a2 Y (.lst [.ref p4])) b (n+1+1+101+1):=bs.same cC;have D8:=cC _ _ D9;have dm:Ah b H (upd a2 Y (.lst [.ref p4])):=df.trans (Ah.of cC);have Eg:upd a2 Y (.lst [.ref p4]) Y=some (.lst [.ref p4]):=Ab;have eu:H Y=none:=(df.trans (Ah.of cD)).free (bs.same cD).ex bb;have aw:b≠Y:=(bs.same cD).nb bb;have dn:J≠Y:=Aw (cD _ _ D9) bb;generalize upd a2 Y (.lst [.ref p4])=HL at bz b0 D8 dm Eg;refine{_,rq,_,rq,b,_,_,rq,b0,by lia,by lia,by lia,λr5 HM gz g0 ew bc=>{_,rq,by lia,by lia,?_}};obtain⟨dp,NF⟩ : ∃dp:Nat,r5=dp:=⟨r5.toNat,by lia⟩;subst NF;rw[Qbo];have tM:=bc.tup b0.Ie;have IX:∀ps∈[L0],OkL ps:=λps aa=>by
  have:ps=L0:=by simpa using aa
  rw[this];exact DA
 let J1:YN:=λi U I=>∃(ax:Option V) (vs:YG) (ja:YU) (am:List Int),U=[js b,some (.int ml),some (.int mp),some (.int r1),some (.int sd),js J,some (.int j),js ft,some (.int (O:Int)),js Y,ax,none,none,none,none,none,none,none,none,none,none]/\I Y=some (.lst vs)/\Paired (LoopAt I) vs ja/\ja.length=1+i/\(∀ps∈ja,OkL ps)/\((CQ ja++am).Perm (j::Je)/\∃L,ja=L0::L)/\I J=some (.lst (am.map V.int))/\BZ I b (n+105+101*i)/\Ah b H I;refine Fg J1
  {_,[.ref p4],[L0],bq,rq,bc _ _ Eg aw.symm,.cons (bz.tups tM) .nil,rq,IX,{(by show ([L0].flatMap adL++_).Perm _;simpa using dk),[],rq},bc _ _ D8 al.symm,ew.mono 00,dm.trans bc} (λi U I hi h=>?_) (fun U I h=>?_)
 .obtain⟨ax,vs,ja,am,rfl,e1,e2,e3,e4,⟨ay,Lr,ey⟩,e6,e7,e8⟩:=h;have e5:(CQ ja).length+am.length=30:=by
   have:=ay.length_eq;rw[QaV,Qbz,da] at this;exact this
  simp only[QaZ,QaY];refine{_,rq,.inl ⟨rq,_,SqL.of e1⟩,_,rq,_,rq,_,rq,b,J,_,mp,am,rq,e7,by lia,al,e6,by lia,by lia,by lia,λt ps JA H' hL bo h1 h2 bn bl ez s2=>?_};have dq:=s2 _ _ e1 aw.symm dn.symm;have t2:Ak I H':=λc xs e=>s2 _ _ e (λz=>e7.Ie _ (z ▸ e)) (λz=>by rw[z,e6] at e;cases e);refine⟨Y,_,_,rq,rq,dq,Al (by rw[Qcf e2];lia),?_⟩;have e9:∀zs,H' Y≠some (.tup zs):=λzs z=>by rw[dq] at z;cases z
  have tv:=Ak.upd (o:=.lst (vs++[.ref t])) e9;refine{_,vs++[.ref t],ja++[ps],JA,rq,Ab,QcC (hL.tups tv) (Ln.tups tv (Ln.tups t2 e2)),by rw[QaV,e3];show _+1=_;lia,λp hp=>?_,?_,by rw[Ao dn];exact bl,(ez.Kq Ah.upd aw).mono 00,λc o e nc=>?_}
  .rcases QbK.mp hp with z | z
   .exact e4 p z
   .have:p=ps:=by simpa using z
    rw[this];exact⟨h1,by lia,bo⟩
  .refine{?_,Lr++[ps],by rw[ey];rfl};rw[ZV,Qbm,<-bn];exact ay
  .rw[Ao (λz=>by rw[z,eu] at e;cases e)];exact s2 _ _ (e8 _ _ e nc) nc (λz=>by rw[z,bp] at e;cases e)
 obtain⟨ax,vs,ja,am,rfl,e1,e2,e3,e4,⟨ay,qX⟩,e6,e7,e8⟩:=h;have e5:(CQ ja).length+am.length=30:=by
  have:=ay.length_eq;rw[QaV,Qbz,da] at this;exact this
 have dr:=Qcf e2;have dt:(CQ ja).Nodup:=(Qbu.mp (ay.nodup_iff.mpr F8)).1;have fa:∀x∈CQ ja,1<=x/\x<=99:=λx hx=>F9 x (ay.mem_iff.mp (QaJ _ hx));have BV:=RT e4;refine{_,rq,Y,rq,{_,SqL.of e1},λlm b1=>?_};have g4:Y≠lm:=Aw e1 b1;let J2:YN:=λi U H'=>∃(u:Option V) (q:List Int),U=[u]/\H' lm=some (.lst (q.map V.int))/\q.length=i/\Same I H'/\∀ps∈ja.take i,∀m∈Ik ps,∃M∈q,m<=M;refine Fi (xs:=vs) J2 ⟨none,[],rq,Ab,rq,Ad b1 _,(λps aa=>by cases aa)⟩ (λi U H' _ h=>?_) (λi x U H' hx h=>?_) (fun U H' h=>?_)
 .obtain⟨u,q,rfl,m1,m2,m3,m4⟩:=h;exact SqL.of (m3 _ _ e1)
 .obtain⟨u,q,rfl,m1,m2,m3,m4⟩:=h;obtain⟨ps,aa,hL⟩:=Paired.Cp e2 hx;obtain⟨tx,wx,rfl,b2,b3⟩:=id hL;have a3:=e4 ps (QaH aa);refine{_,rq,tx,ps,rq,hL.tups (Ak.of m3),a3.ok,by have:=a3.hi;lia,λlq g5 hq s'=>⟨lq,Ik ps,rq,SqL.of hq,(by unfold Ik;rw[QaV];show 0 < _+1;lia),λM fb b4=>?_⟩};have hi:=(Qah.mp hx).1;refine{_,s' _ _ m1,Al (by rw[QbJ];lia),_,q++[M],rq,by rw[Ab,QbL];rfl,by rw[QaV,m2];rfl,(m3.trans s').Bq Ah.upd b1,λqs af m hm=>?_};rw[QcJ aa] at af;rcases QbK.mp af with af | af
  .obtain⟨M',h1,h2⟩:=m4 qs af m hm;exact⟨M',QaJ _ h1,h2⟩
  .have:qs=ps:=by simpa using af
   rw[this] at hm;exact⟨M,QaC _ (QaW ..),b4 m hm⟩
 obtain⟨u,q,rfl,m1,m2,m3,m4⟩:=h;refine⟨lm,q,rq,SqL.of m1,by lia,λM fb b4=>?_⟩;have DI:∀ps∈ja,∀m∈Ik ps,m<=M:=λps aa m hm=>by
  obtain⟨M',h1,h2⟩:=m4 ps (by rw[dr,Qby];exact aa) m hm;have:=b4 M' h1;lia
 simp only[QaZ,QaY];have e1:=m3 _ _ e1;have e2:=Ln.tups (Ak.of m3) e2;have e7:=e7.same m3;have e8:=e8.trans (Ah.of m3);clear m1 m2;refine⟨jv,λlt b5=>?_⟩;simp only[QaZ,QaY];have sT:=Ad b5 (.lst []);have bd:b≠lt:=e7.nb b5;refine{_,rq,Y,rq,{_,SqL.of (sT _ _ e1)},?_};let J3:YN:=λi U HT=>∃(a4 ag ah ai:Option V) (G:List Int),U=[js b,some (.int ml),some (.int mp),some (.int r1),some (.int sd),js J,some (.int j),js ft,some (.int (O:Int)),js Y,ax,some (.int M),js lt,a4,ag,ah,ai,none,none,none,none]/\HT lt=some (.lst (G.map V.int))/\G=Fz (ja.take i)/\Same H' HT;refine Rq (xs:=vs) J3 {_,_,_,_,[],rq,Ab,rq,sT} (λi U HT _ h=>?_) (λi x U HT hx h=>?_) (fun U HT h=>?_)
 .obtain⟨a4,ag,ah,ai,G,rfl,t1,t2,t3⟩:=h;exact SqL.of (t3 _ _ e1)
 .obtain⟨a4,ag,ah,ai,G,rfl,t1,t2,t3⟩:=h;simp only[QaZ,QaY];obtain⟨ps,aa,hL⟩:=Paired.Cp e2 hx;obtain⟨tx,wx,rfl,b2,b3⟩:=id hL;have a3:=e4 ps (QaH aa);have fc:=Qcf b3;have fe:CQ (ja.take (i+1))=CQ (ja.take i)++adL ps:=by rw[QcJ aa,ZV]
  have fg:(CQ (ja.take (i+1))).length<=30:=by
   have:CQ ja=CQ (ja.take (i+1))++CQ (ja.drop (i+1)):=by unfold CQ;rw[<-QaO,List.take_append_drop]
   have h2:=congrArg List.length this;rw[QaV] at h2;lia
  rw[fe,QaV] at fg;have g6:(Fz (ja.take i)).length<=(CQ (ja.take i)).length:=(RT λqs af=>e4 qs (List.mem_of_mem_take af)).length_le;have fh:Fz (ja.take (i+1))=Fz (ja.take i)++Jx ps:=by rw[QcJ aa,lF]
  refine{_,rq,tx,rq,{_,SqT.of (t3 _ _ b2)},?_};let J4:YN:=λae U HT=>∃(ag ah ai:Option V) (G:List Int),U=[js b,some (.int ml),some (.int mp),some (.int r1),some (.int sd),js J,some (.int j),js ft,some (.int (O:Int)),js Y,ax,some (.int M),js lt,js tx,ag,ah,ai,none,none,none,none]/\HT lt=some (.lst (G.map V.int))/\G=Fz (ja.take i)++Jx (ps.take ae)/\Same H' HT;refine Kd (xs:=wx) J4 {_,_,_,G,rq,t1,(by rw[t2];show _=_++[];rw[QbM]),t3} (λae U HT _ h=>?_) (λae y U HT hy h=>?_) (fun U HT h=>?_)
  .obtain⟨ag,ah,ai,G,rfl,t1,t2,t3⟩:=h;exact SqT.of (t3 _ _ b2)
  .obtain⟨ag,ah,ai,G,rfl,t1,t2,t3⟩:=h;obtain⟨p,hp,hP⟩:=Paired.Cp b3 hy;obtain⟨tp,up,du,rfl,ba,bt,a1⟩:=hP.tups (Ak.of t3);have b6:=a3.ok p (QaH hp);have fi:adL (ps.take (ae+1))=adL (ps.take ae)++adP p:=by rw[QcJ hp,Wc]
   have tj:(adL (ps.take (ae+1))).length<=(adL ps).length:=by
    have:adL ps=adL (ps.take (ae+1))++adL (ps.drop (ae+1)):=by rw[<-N5,List.take_append_drop]
    have h2:=congrArg List.length this;rw[QaV] at h2;lia
   rw[fi,QaV] at tj;have g7:(Jx (ps.take ae)).length<=(adL (ps.take ae)).length:=(Vm λqs af=>a3.ok qs (List.mem_of_mem_take af)).length_le;have fj:Jx (ps.take (ae+1))=Jx (ps.take ae)++Ja (Ge p):=by rw[QcJ hp,pG]
   have g8:G.length<=(CQ (ja.take i)).length+(adL (ps.take ae)).length:=by rw[t2,QaV];lia
   refine⟨tp,_,rq,SqT.of ba,rq,_,_,rq,_,_,rq,_,_,rq,rq,?_⟩;simp only[QaZ,QaY];refine{_,rq,.inl ⟨rq,_,SqL.of t1⟩,_,rq,_,rq,kf,λta b7=>⟨ke,λtb fk=>?_⟩};have v1:=Ad b7 (.tup [.str p.kind,.int p.addr]);have v2:=Ad fk (.tup [.ref ta]);have dv:=v1.trans v2;refine{_,rq,tb,up,_,_,rq,rq,Ab,dv _ _ bt,Ar (by have:=b6.spur;show 1+_<=1000;rw[Qcf a1];lia),λtc HC hC sC=>⟨tc,rq,{_,SqT.of hC},λl hl=>?_⟩};have vC:=dv.trans sC;have dy:Paired (KQ HC) ([.ref ta]++du) (⟨p.kind,p.addr⟩::p.spur):=.cons ⟨ta,rq,sC _ _ (v2 _ _ Ab)⟩ (Paired.Ax a1 λ_ _ z=>z.tups (Ak.of vC));have fm:=Qcf dy;let J5:YN:=λk U H5=>∃(u v:Option V) (ys:List Int),U=[u,v]/\H5 l=some (.lst (ys.map V.int))/\ys=Ja ((Ge p).take k)/\Same HC H5;refine Rr (xs:=[.ref ta]++du) J5 ⟨none,none,[],rq,Ab,rq,Ad hl _⟩ (λk U H5 _ h=>?_) (λk x U H5 hk h=>?_) (fun U H5 h=>?_)
   .obtain⟨u,v,ys,rfl,y1,y2,y3⟩:=h;exact SqT.of (y3 _ _ hC)
   .obtain⟨u,v,ys,rfl,y1,y2,y3⟩:=h;obtain⟨d,hd,td,rfl,fn⟩:=Paired.Cp dy hk;have b8:=(Qah.mp hd).1;have g9:=b6.spur;have ha:k < 4:=by rw[Qbz] at b8;lia
    have fo:(Ge p)[k]?=some d:=hd;have be:Ja ((Ge p).take (k+1))=Ja ((Ge p).take k)++(if Ft d.kind=true then [d.addr] else []):=by rw[QcJ fo,pH]
    have fq:ys.length<=k:=by
     rw[y2];have:=(jy (ds:=(Ge p).take k)).length_le;rw[QbJ,QbA] at this;lia
    refine⟨td,_,rq,SqT.of (y3 _ _ fn),rq,_,_,rq,_,_,rq,rq,?_⟩;refine{_,rq,kf,λtq fr=>?_};have vq:=Ad fr (.tup [.str "seeker",.str "knob"]);refine⟨tq,_,rq,.inr (SqT.of Ab),rq,rq,_,rq,M4 (λN=>?_) (λN=>?_)⟩
    .have N:Ft d.kind=true:=N;rw[if_pos N] at be;refine{_,rq,_,vq _ _ y1,Al (by rw[QbJ];lia),_,_,ys++[d.addr],rq,by rw[Ab,QbL];rfl,by rw[be,y2],(y3.trans vq).Bq Ah.upd hl}
    .have N:¬Ft d.kind=true:=N;rw[if_neg N,QbM] at be;refine{_,_,ys,rq,vq _ _ y1,by rw[be];exact y2,y3.trans vq}
   obtain⟨u,v,ys,rfl,y1,y2,y3⟩:=h;have d0:ys=Ja (Ge p):=by
    rw[y2,fm];congr 1;exact Qby ..
   have fq:ys.length<=(adP p).length:=by rw[d0];exact (aV b6).length_le
   have fw:=y3 _ _ (vC _ _ t1);refine⟨lt,l,_,_,rq,rq,fw,y1,Ar (by rw[QbJ,QbJ];lia),?_⟩;refine{_,_,_,G++ys,rq,by rw[Ab,QbL],?_,((t3.trans vC).trans y3).Bq Ah.upd b5};rw[fj,t2,d0,Qbm]
  .obtain⟨ag,ah,ai,G,rfl,t1,t2,t3⟩:=h;rw[fc,Qby] at t2;exact{_,_,_,_,G,rq,t1,by rw[fh];exact t2,t3}
 obtain⟨a4,ag,ah,ai,G,rfl,t1,t2,t3⟩:=h;rw[dr,Qby] at t2;have uJ:G.length<=30:=by rw[t2];have:=BV.length_le;lia
 have fx:Rz (Fz ja) G [] []:=by
  rw[t2];exact{BV.nodup dt,(λx hx=>hx),(λz hz=>by cases hz),List.Sublist.refl _}
 have e1:=t3 _ _ e1;have e2:=Ln.tups (Ak.of t3) e2;have e7:=e7.same t3;have e8:=e8.trans (Ah.of t3);refine⟨jv,λlz a5=>?_⟩;simp only[QaZ,QaY];have sZ:=Ad a5 (.lst []);have fy:Y≠lz:=Aw e1 a5;have b9:lt≠lz:=Aw t1 a5;have ar:b≠lz:=e7.nb a5;have fz:H lz=none:=e8.free e7.ex a5;refine{_,rq,_,rq,b,_,5,rq,e7.same sZ,by lia,by decide,by decide,λr6 HU he hf d4 sU=>?_};obtain⟨rn,f3⟩ : ∃rn:Nat,r6=rn:=⟨r6.toNat,by lia⟩;subst f3;refine⟨b,_,rn,rq,d4,by lia,by lia,λln ys HV ca ly f4 IA nY a6 sV=>?_⟩;simp only[QaZ,QaY];have bg:Ah b _ HV:=((Ah.of sZ).trans sU).trans sV;have f5:ln≠lz:=λz=>by rw[z,sU _ _ Ab ar.symm] at ca;cases ca
 have e1:=bg _ _ e1 aw.symm;have e2:=Ln.tups (bg.tup e7.Ie) e2;have e8:=e8.trans bg;have cb:HV lz=some (.lst []):=sV _ _ (sU _ _ Ab ar.symm) ar.symm;have t1:=bg _ _ t1 bd.symm;have a6:=a6.mono (show _<=n+500 by lia);have f6:ja.length<=3:=by lia
 have f7:b≠ln:=d4.nb ca;refine{_,rq,ln,rq,{_,SqL.of nY},?_};let J6:YN:=λi U I=>∃(lt:Addr) (bi bj:Option V) (G:List Int) (zs:YG),U=[js b,some (.int ml),some (.int mp),some (.int r1),some (.int sd),js J,some (.int j),js ft,some (.int (O:Int)),js Y,ax,some (.int M),js lt,a4,ag,ah,ai,js lz,js ln,bi,bj]/\I lt=some (.lst (G.map V.int))/\G.length<=30/\b≠lt/\lt≠lz/\I lz=some (.lst zs)/\(∃jp,Paired (Jq I) zs jp/\Rz (Fz ja) G jp (ys.take i))/\I ln=some (.lst (ys.map V.str))/\I Y=some (.lst vs)/\Paired (LoopAt I) vs ja/\BZ I b (n+500+30*i)/\Ah b H I;refine Rq (xs:=ys.map V.str) J6
  ⟨lt,_,_,G,[],rq,t1,uJ,bd,b9,cb,{[],.nil,fx},nY,e1,e2,a6,e8⟩ (λi U I _ h=>?_) (λi x U I hx h=>?_) (fun U I h=>?_)
 .obtain⟨lt,bi,bj,G,zs,rfl,z1,z2,z3,z4,z5,z6,z7,z8,z9,ab,as⟩:=h;exact SqL.of z7
 .clear t1 t2 t3 uJ bd b9 cb nY e1 e2 a6 e8;obtain⟨lt,bi,bj,G,zs,rfl,z1,z2,z3,z4,z5,z6,z7,z8,z9,ab,as⟩:=h;obtain⟨jp,zp,zk⟩:=z6;have Iy:zs.length<=5:=by
   have h1:=Qcf zp;have h2:=zk.nm.length_le;rw[QbJ,QbA] at h2;lia
  obtain⟨yi,f8,rfl⟩ : ∃yi,ys[i]?=some yi/\x=.str yi:=by
   rw[Qbn] at hx;obtain⟨yi,h1,h2⟩:=QaB.mp hx;exact⟨yi,h1,h2.symm⟩
  have d5:ys.take (i+1)=ys.take i++[yi]:=QcJ f8;have hg:i < 5:=by
   have:=(Qah.mp hx).1;rw[QbJ] at this;lia
  simp only[QaZ,QaY];refine{_,rq,lt,rq,{_,SqL.of z1},λlc bk=>?_};have d6:b≠lc:=ab.nb bk;have hh:lt≠lc:=Aw z1 bk;have sC:=Ad bk (.lst []);let J7:YN:=λk U HC=>∃(u:Option V) (ss:List Int),U=[u,js b]/\HC lc=some (.lst (ss.map V.int))/\ss.Sublist (G.take k)/\BZ HC b (n+500+30*i+k)/\Ah b I HC;refine Fi (xs:=G.map V.int) J7 ⟨none,[],rq,Ab,List.Sublist.refl _,ab.same sC,Ah.of sC⟩ (λk U HC _ h=>?_) (λk x U HC hk h=>?_) (fun U HC h=>?_)
  .obtain⟨u,ss,rfl,c1,c2,c3,c4⟩:=h;exact SqL.of (c4 _ _ z1 z3.symm)
  .obtain⟨u,ss,rfl,c1,c2,c3,c4⟩:=h;have b8:k < 30:=by
    have:=(Qah.mp hk).1;rw[QbJ] at this;lia
   refine{_,rq,b,_,3,rq,c3,by lia,by decide,by decide,λr HD _ _ d7 sD=>⟨rq,_,rq,?_⟩};have ea:=sD _ _ c1 d6.symm;rw[Qbn] at hk;obtain⟨a,cd,rfl⟩:=QaB.mp hk;have au:G.take (k+1)=G.take k++[a]:=QcJ cd;have eb:ss.length<=k:=Qcs c2.length_le (by rw[QbA];lia);refine M4 (λN=>?_) (λN=>?_)
   .refine{_,rq,_,ea,Al (by rw[QbJ];lia),_,ss++[a],rq,by rw[Ab,QbL];rfl,by rw[au];exact c2.append (List.Sublist.refl _),d7.Kq Ah.upd d6,Ah.Q7 (c4.trans sD) Ah.upd bk}
   .exact{_,ss,rq,ea,by rw[au];exact c2.trans (List.sublist_append_left ..),d7,c4.trans sD}
  obtain⟨u,ss,rfl,c1,c2,c3,c4⟩:=h;rw[QbJ] at c2 c3;rw[Qby] at c2;have eb:ss.length<=30:=Qcs c2.length_le z2;refine⟨lc,ss,rq,SqL.of c1,by lia,λq ls hperm Nj ga=>?_⟩;simp only[QaZ,QaY];have sS:=Ad ga (.lst (q.map V.int));have c5:Ah b I (upd HC ls (.lst (q.map V.int))):=c4.trans (Ah.of sS);have c6:=c3.same sS;have c7:(upd HC ls (.lst (q.map V.int))) ls=some (.lst (q.map V.int)):=Ab;generalize upd HC ls (.lst (q.map V.int))=HS at c5 c6 c7;have gb:q.length<=30:=by have:=hperm.length_eq;lia
  have z1:=c5 _ _ z1 z3.symm;refine{_,rq,lt,rq,{_,SqL.of z1},λlw a7=>?_};have ec:b≠lw:=c6.nb a7;have hj:ls≠lw:=Aw c7 a7;have ce:lw≠lz:=(Aw (c5 _ _ z5 ar.symm) a7).symm;let J8:YN:=λk U HC=>∃(u:Option V) (ss:List Int),U=[u,js ls]/\HC lw=some (.lst (ss.map V.int))/\ss=(G.take k).filter (λx=>!decide (x∈q))/\Same HS HC;refine Fi (xs:=G.map V.int) J8 ⟨none,[],rq,Ab,rq,Ad a7 _⟩ (λk U HC _ h=>?_) (λk x U HC hk h=>?_) (fun U HC h=>?_)
  .obtain⟨u,ss,rfl,d1,d2,d3⟩:=h;exact SqL.of (d3 _ _ z1)
  .obtain⟨u,ss,rfl,d1,d2,d3⟩:=h;have b8:k < 30:=by
    have:=(Qah.mp hk).1;rw[QbJ] at this;lia
   rw[Qbn] at hk;obtain⟨a,cd,rfl⟩:=QaB.mp hk;have au:(G.take (k+1)).filter (λx=>!decide (x∈q))=(G.take k).filter (λx=>!decide (x∈q))++[a].filter (λx=>!decide (x∈q)):=by rw[QcJ cd,Qbg]
   have eb:ss.length<=30:=by
    rw[d2];have h1:=QaF (λx=>!decide (x∈q)) (G.take k);rw[QbA] at h1;lia
   refine{_,rq,_,rq,ls,_,rq,.inl (SqL.of (d3 _ _ c7)),rq,rN q,_,rq,M4 (λN=>?_) (λN=>?_)}
   .have N:(!inV (.int a) (q.map V.int))=true:=N;rw[V1] at N;rw[show List.filter (λx=>!decide (x∈q)) [a]=[a] from Qau (p:=λx=>!decide (x∈q)) N] at au
    refine{_,rq,_,d1,Al (by rw[QbJ];lia),_,ss++[a],rq,by rw[Ab,QbL];rfl,by rw[au,d2],d3.Bq Ah.upd a7}
   .have N:¬(!inV (.int a) (q.map V.int))=true:=N;rw[V1] at N;rw[show List.filter (λx=>!decide (x∈q)) [a]=[] from Qat (p:=λx=>!decide (x∈q)) N] at au
    exact{_,ss,rq,d1,by rw[au,d2];exact (QbM _).symm,d3}
  obtain⟨u,ws,rfl,d1,d2,d3⟩:=h;rw[QbJ,Qby] at d2;have ho:ws.length<=30:=by rw[d2];exact Qcs (QaF _ _) z2
  simp only[QaZ,QaY];have c8:=c5.trans (Ah.of d3);have z5:=c8 _ _ z5 ar.symm;have z7:=c8 _ _ z7 f7.symm;have z8:=c8 _ _ z8 aw.symm;have z9:=Ln.tups (c8.tup ab.Ie) z9;have zp:Paired (Jq HC) zs jp:=Paired.Ax zp λ_ _ z=>z.tups (c8.tup ab.Ie);have ab:=(c6.same d3).mono (show _<=n+500+30*(i+1) by lia);have as:=as.trans c8;have c7:=d3 _ _ c7;have gc:(q.map V.int).length=q.length:=QbJ _;refine{_,rq,ls,_,rq,.inl (SqL.of c7),_,_,rq,rq,_,rq,M4 (λN=>?_) (λN=>?_)}
  .refine{_,rq,.inl ⟨rq,_,SqL.of z5⟩,_,rq,_,rq,ls,_,rq,.inl {SqL.of c7,λtt gd=>⟨kf,λta b7=>?_⟩}};have f1:=Ad gd (.tup (q.map V.int));have f2:=Ad b7 (.tup [.str yi,.ref tt]);have ao:=f1.trans f2;have z5:=ao _ _ z5;refine⟨lz,_,_,rq,rq,z5,Al 00,?_⟩;have ge:∀ed,(upd (upd HC tt (.tup (q.map V.int))) ta (.tup [.str yi,.ref tt])) lz≠some (.tup ed):=λed z=>by rw[z5] at z;cases z
   have tz:=Ak.upd (o:=.lst (zs++[.ref ta])) ge;have ND:1<=q.length:=by
    have N:=Qbq N;rw[gc] at N;lia
   have gf:Paired (Jq (upd (upd (upd HC tt (.tup (q.map V.int))) ta (.tup [.str yi,.ref tt])) lz (.lst (zs++[.ref ta])))) (zs++[.ref ta]) (jp++[⟨yi,q⟩]):=QcC ⟨ta,tt,rq,tz _ _ Ab,tz _ _ (f2 _ _ Ab)⟩ (Paired.Ax zp λ_ _ z=>(z.tups (Ak.of ao)).tups tz);have gg:Rz (Fz ja) ws (jp++[⟨yi,q⟩]) (ys.take (i+1)):=by rw[d2,d5];exact zk.next hperm c2 Nj gb ND
   exact⟨lw,_,_,ws,zs++[.ref ta],rq,by rw[Ao ce];exact ao _ _ d1,by lia,ec,ce,Ab,⟨_,gf,gg⟩,by rw[Ao f5];exact ao _ _ z7,by rw[Ao fy];exact ao _ _ z8,Ln.tups tz (Ln.tups (Ak.of ao) z9),(ab.same ao).Kq Ah.upd ar,Ah.Q7 (as.trans (Ah.of ao)) Ah.upd fz⟩
  .exact⟨lw,_,_,ws,zs,rq,d1,by lia,ec,ce,z5,⟨jp,zp,by rw[d2,d5];exact zk.none⟩,z7,z8,z9,ab,as⟩
 clear t1 t2 t3 uJ bd b9 cb nY e1 e2 a6 e8;obtain⟨lt,bi,bj,G,zs,rfl,z1,z2,z3,z4,z5,z6,z7,z8,z9,ab,as⟩:=h;rw[QbJ] at ab;obtain⟨jp,zp,zk⟩:=z6;rw[QbJ,Qby] at zk;have Iy:zs.length<=5:=by
  have h1:=Qcf zp;have h2:=zk.nm.length_le;rw[QbJ] at h2;lia
 refine{_,rq,_,rq,b,_,3,rq,ab,by lia,by decide,by decide,λr7 HX _ _ gh sX=>{_,_,rq,rq,_,_,rq,_,rq,Y,_,rq,.inl {SqL.of (sX _ _ z8 aw.symm),λtl gi=>?_}}};have g1:=Ad gi (.tup vs);refine{_,rq,lz,_,rq,.inl {SqL.of (g1 _ _ (sX _ _ z5 ar.symm)),λtz gj=>⟨kg,λt ht=>?_⟩}};have g2:=Ad gj (.tup zs);have g3:=Ad ht (.tup [.int (if M+r7 < 30 then M+r7 else 30),.ref tl,.ref tz])
 have oM:=(g1.trans g2).trans g3;have cnt:1<=(CQ ja).length:=by
  obtain⟨L,hL⟩ : ∃L,ja=L0::L:=qX;rw[hL];have:CQ (L0::L)=adL L0++CQ L:=by unfold CQ;rw[Qbr]
  rw[this,QaV];lia
 have M1:1<=M:=by
  obtain⟨L,hL⟩ : ∃L,ja=L0::L:=qX;obtain⟨m,h1,h2⟩:=jC (l:=Ik L0) (by rw[Zt];lia);have:=DI L0 (by rw[hL];exact QaW ..) m h1;lia
 have gl:gW (if M+r7 < 30 then M+r7 else 30) ja jp:=by
  refine⟨dt,fa,⟨cnt,by lia⟩,{by split <;> lia,by split <;> lia},λps aa m hm=>?_,λz hz x hx=>?_,(Qbu.mp zk.nd).1,zk.up,?_,λz hz=>?_,zk.nm.nodup IA⟩
  .have h1:=DI ps aa m hm;have h2:=vH ps m hm;have h3:(adL ps).length<=(CQ ja).length:=by
    exact j9 ja aa
   split <;> lia
  .exact zk.sub x (QaJ _ (QbG.mpr ⟨z,hz,hx⟩))
  .have h1:=Qcf zp;lia
  .exact f4 z.name (zk.nm.subset (Qcq.mpr ⟨z,hz,rq⟩))
 exact av t tl tz vs zs ja jp _ _ Ab (g3 _ _ (g2 _ _ Ab)) (Ln.tups (Ak.of oM) (Ln.tups (sX.tup ab.Ie) z9)) e4 00 f6 (g3 _ _ Ab) (Paired.Ax zp λ_ _ z=>(z.tups (sX.tup ab.Ie)).tups (Ak.of oM)) gl ((gh.same oM).mono 00) ((as.trans sX).trans (Ah.of oM))
abbrev Kr:Stmt:=top 23
abbrev Fo:YF:=["loop","at","place"]
theorem Dn:Ay ["loop","at","place","kind","address","spur","told","number","spur_kind","spur_address"] Fo (Ai Kr):=by ac_rfl
structure Sd where
 lp:Int
 at_:Int
 n:Int
 kind:Str
 addr:Int
def O7(H:Hp)(v:V)(d:Sd):Prop:=∃t u,v=.ref t/\H t=some (.tup [.ref u,.str d.kind,.int d.addr])/\H u=some (.tup [.int d.lp,.int d.at_,.int d.n])
theorem O7.tups{H H':Hp}(s:Ak H H'){v:V}{d:Sd}(h:O7 H v d):O7 H' v d:=by
 obtain⟨t,u,e,j,q⟩:=h;exact⟨t,u,e,s _ _ j,s _ _ q⟩
def DW(lp j:Int):Nat->List Dev->List Sd
 | _,[]=>[]
 | n,d::r=>⟨lp,j,n,d.kind,d.addr⟩::DW lp j (n+1) r
def Ca(lp j:Int)(p:Place):List Sd:=if V.str p.kind=V.str "opener" then [] else ⟨lp,j,0,p.kind,p.addr⟩::DW lp j 1 p.spur
theorem Vd(lp j:Int):∀(n:Nat) (ds:List Dev) (i:Nat) (d:Dev),ds[i]?=some d->DW lp j n (ds.take (i+1))=DW lp j n (ds.take i)++[⟨lp,j,(n+i:Nat),d.kind,d.addr⟩]
 | n,[],i,d,h=>by simp at h
 | n,x::r,0,d,h=>by
  simp at h;subst h;simp[DW]
 | n,x::r,i+1,d,h=>by
  have h':r[i]?=some d:=by simpa using h
  have q:=Vd lp j (n+1) r i d h';rw[List.take_succ_cons,List.take_succ_cons];show _::DW lp j (n+1) (r.take (i+1))=(_::DW lp j (n+1) (r.take i))++_;rw[q,show n+1+i=n+(i+1) by lia];rfl
structure Tx(K:YD)(mg:YB)(op oe:Addr):Prop extends Nm mg where
 OPENER:∃u,mg "OPENER"=some u/\RelV (.ref op) u
 opT:∀H,SqT K H op [.str "opener",.int 0,.ref oe]
 opE:∀H,SqT K H oe []
inductive lU(vs:YG)(H:Hp)(Q:VK)(E:XK):Prop
 | mk (lp at_:Int) (v:V) (p:Place) (_:vs=[.int lp,.int at_,v]) (_:Ei H v p) (_:p.spur.length<=3) (_:∀l xs H',H l=none->H' l=some (.lst xs)->Paired (O7 H') xs (Ca lp at_ p)->Same H H'->Q (.ref l) H'):lU vs H Q E
theorem VJ(c:Code K mg "place_devices" Kr Fo)(T:Tx K mg op oe):⋯ "place_devices" 1 Fo lU:=by
 exists c,Dn
 obtain⟨lp,j,v,p,rfl,⟨t,u,vs,rfl,ht,hu,hd⟩,h3,ab⟩:=h;refine⟨_,(Ae (Ir (pv 2) (CV rfl (Am (3∣Dn) (Am (4∣Dn) (Am (5∣Dn) Bt)))))
 (Ae (Cw (Bx Gq (pv 3) Bf (BK _)) (Ag (Ba (BW Ac))) BR)
 (Ae (6∪Dn∪(BW (Aa (Bd (Aa (Bd (Aa (pv 0) (Aa (pv 1) (Aa Af Ac)))) (Aa (pv 3) (Aa (pv 4) Ac)))) Ac)))
 (Ae (Cj QbN rfl (Oo rfl T.enumerate (pv 5) Af) (CV rfl (Am (7∣Dn) (Am (CV rfl (Am (8∣Dn) (Am (9∣Dn) Bt))) Bt)))
 (Ag (Bo (Cq Qar Qan Qao BP (pv 6) (Aa (Bd (Aa (Bd (Aa (pv 0) (Aa (pv 1) (Aa (pv 7) Ac)))) (Aa (pv 8) (Aa (pv 9) Ac)))) Ac)))))
 (Ag (Ba (pv 6))))))),?_⟩
 show let R0:TS:=_;let R1:TS:=Aq (Dm _ _ R0) _;let R2:TS:=Aq _ R1;let R3:TS:=Aq _ R2;Aq _ R3 _ _ _;intro R0 R1 R2 R3;generalize ae:L2.start _ _=ai;have e0:ai=[some (.int lp),some (.int j),js t,none,none,none,none,none,none,none]:=ae.symm;clear ae;subst e0;refine⟨_,rq,t,_,rq,SqT.of ht,rq,_,_,rq,_,_,rq,_,_,rq,rq,?_⟩;simp only[QaZ,QaY];refine⟨_,rq,rq,_,rq,?_⟩;by_cases ck:V.str p.kind=V.str "opener"
 .rw[Qca ck];have e:Ca lp j p=[]:=if_pos ck;rw[e] at ab;exact Cm ⟨(by show 0<=sizeLine;decide),λl N=>ab l [] _ N Ab .nil (Ad N _)⟩
 .rw[QbO ck];have e:Ca lp j p=⟨lp,j,0,p.kind,p.addr⟩::DW lp j 1 p.spur:=if_neg ck;rw[e] at ab;refine Cz ⟨_,rq,_,rq,(by show 3<=sizeLine;decide),λI al=>⟨_,rq,_,rq,(by show 3<=sizeLine;decide),λq am=>⟨(by show 1<=sizeLine;decide),λl N=>?_⟩⟩⟩;have s1:=Ad al (.tup [.int lp,.int j,.int 0]);have s2:=Ad am (.tup [.ref I,.str p.kind,.int p.addr]);have s3:=Ad N (.lst [.ref q]);have sm:=s1.trans (s2.trans s3);have af:=s1.free (s2.free N);have el:_=some (HO.lst [.ref q]):=Ab (H:=upd (upd H I (.tup [.int lp,.int j,.int 0])) q (.tup [.ref I,.str p.kind,.int p.addr])) (a:=l) (o:=.lst [.ref q]);have es:O7 _ (.ref q) ⟨lp,j,0,p.kind,p.addr⟩:=⟨q,I,rq,s3 _ _ Ab,s3 _ _ (s2 _ _ Ab)⟩;generalize hX:upd (upd (upd H I (.tup [.int lp,.int j,.int 0])) q (.tup [.ref I,.str p.kind,.int p.addr])) l (.lst [.ref q])=H1 at sm el es;simp only[QaZ,QaY];have O:=sm _ _ hu;have an:Paired (O7 H1) [.ref q] (⟨lp,j,0,p.kind,p.addr⟩::DW lp j 1 (p.spur.take 0)):=.cons es .nil;have LO:vs.length=p.spur.length:=Qcf hd;refine⟨_,rq,u,rq,⟨vs,SqT.of O⟩,JL (xs:=vs) (lo:=1) (λi U G=>∃ys u7 u8 u9,U=[some (.int lp),some (.int j),js t,some (.str p.kind),some (.int p.addr),js u,js l,u7,u8,u9]/\Ah l H1 G/\G l=some (.lst ys)/\Paired (O7 G) ys (⟨lp,j,0,p.kind,p.addr⟩::DW lp j 1 (p.spur.take i))/\ys.length<=i+1)
   ⟨[.ref q],_,_,_,rq,Ah.refl l H1,el,an,QcA _⟩ (λi U G _ h=>?_) (λi x pt U G hx h ao=>?_) (fun U G h=>?_)⟩
  .obtain⟨ys,_,_,_,_,J,_⟩:=h;exact SqT.of (J _ _ O (λz=>by rw[z,el] at O;cases O))
  .obtain⟨ys,u7,u8,u9,rfl,J,hy,pd,ly⟩:=h;obtain⟨d,ap,td,rfl,ar⟩:=Paired.Cp hd hx;have nl:∀zs,H1 l≠some (.tup zs):=λzs z=>by rw[el] at z;cases z
   have au:∀zs,G l≠some (.tup zs):=λzs z=>by rw[hy] at z;cases z
   have Nc:=(J.tup nl) _ _ (sm _ _ ar);have t0:=Ad ao (.tup [.int ((1+i:Nat):Int),.ref td]);refine⟨pt,_,rq,SqT.of Ab,rq,_,_,rq,_,_,rq,td,_,rq,SqT.of (t0 _ _ Nc),rq,_,_,rq,_,_,rq,rq,rq,?_⟩;simp only[QaZ,QaY];have ag:=t0 _ _ hy;refine{_,rq,.inl ⟨rq,_,SqL.of ag⟩,_,rq,_,rq,_,rq,(by show 3<=sizeLine;decide),λY M0=>{_,rq,_,rq,(by show 3<=sizeLine;decide),λaa M3=>?_}};have t1:=Ad M0 (.tup [.int lp,.int j,.int ((1+i:Nat):Int)]);have t2:=Ad M3 (.tup [.ref Y,.str d.kind,.int d.addr]);have ah:=t2 _ _ (t1 _ _ ag);have il:=(Qah.mp hx).1;refine⟨l,_,_,rq,rq,ah,Al 00,?_⟩;refine{ys++[.ref aa],_,_,_,rq,J.trans ((Ah.of (t0.trans (t1.trans t2))).trans Ah.upd),Ab,?_,by rw[QaV];simp only[QaE];lia};rw[Vd lp j 1 p.spur i d ap];have as:∀zs,(upd (upd (upd G pt (.tup [.int ((1+i:Nat):Int),.ref td])) Y (.tup [.int lp,.int j,.int ((1+i:Nat):Int)])) aa (.tup [.ref Y,.str d.kind,.int d.addr])) l≠some (.tup zs):=λzs z=>by rw[ah] at z;cases z
   have tt:=Ak.upd (o:=.lst (ys++[.ref aa])) as;exact QcC (l₂:=_::DW lp j 1 (p.spur.take i)) ⟨aa,Y,rq,tt _ _ Ab,tt _ _ (t2 _ _ Ab)⟩ (Paired.Ax pd λ_ _ z=>(z.tups (Ak.of (t0.trans (t1.trans t2)))).tups tt)
  .obtain⟨ys,u7,u8,u9,rfl,J,hy,pd,ly⟩:=h;rw[LO,Qby] at pd;exact{_,rq,ab l ys G af hy pd λc o e=>J _ _ (sm _ _ e) (Aw e af)}
structure Sp3 where
 lp:Int
 at_:Int
 n:Int
def Sd.spot(d:Sd):Sp3:=⟨d.lp,d.at_,d.n⟩
def BL(H:Hp)(v:V)(d:Sp3):Prop:=∃u,v=.ref u/\H u=some (.tup [.int d.lp,.int d.at_,.int d.n])
theorem BL.tups{H H':Hp}(s:Ak H H'){v:V}{d:Sp3}(h:BL H v d):BL H' v d:=by
 obtain⟨u,e,q⟩:=h;exact⟨u,e,s _ _ q⟩
theorem NQ{k:Str}(h:Hv k):¬V.str k=V.str "opener":=by
 rcases h with rfl | rfl | rfl | rfl <;> decide +kernel
theorem eY{k:Str}(h:Hv k):(PyData.str k).canLay0=true:=by
 rcases h with rfl | rfl | rfl | rfl <;> decide +kernel
def QF(d:Dev):PyData:=.tuple [.str d.kind,.int d.addr]
def Ol(p:Place):PyData:=.tuple [.str p.kind,.int p.addr,.tuple (p.spur.map QF)]
def opD:PyData:=.tuple [.str "opener",.int 0,.tuple []]
theorem fX:∀{ds:List Dev},(∀d∈ds,Hv d.kind)->PyData.canLayAll0 (ds.map QF)=true/\PyData.depthAll (ds.map QF)<=1
 | [],_=>⟨rfl,by show 0<=1;decide⟩
 | d::ds,h=>by
  have j:=fX (ds:=ds) λx q=>h x (QaI _ q);refine{?_,?_}
  .show ((PyData.canLay0 (.str d.kind)&&(true&&true))&&PyData.canLayAll0 (ds.map QF))=true;rw[eY (h d QaW),j.1];rfl
  .show max (max 0 (max 0 0)+1) (PyData.depthAll (ds.map QF))<=1;exact Nat.max_le.mpr {by decide,j.2}
theorem C8:PyData.canLay0 (.str "opener")=true:=by trivial
theorem SN{p:Place}(h:OkP p):SeqAt.shaped (Ol p)=true:=by
 have j:PyData.canLay0 (.str p.kind)=true:=by
  rcases h.form with⟨e,_⟩| e
  .rw[e];exact C8
  .exact eY e
 have q:=fX h.kinds;show ((PyData.canLay0 (.str p.kind)&&(true&&(PyData.canLayAll0 (p.spur.map QF)&&true)))&&decide (max 0 (max 0 (max (PyData.depthAll (p.spur.map QF)+1) 0))+1<=64))=true;rw[j,q.1];have:max 0 (max 0 (max (PyData.depthAll (p.spur.map QF)+1) 0))+1<=64:=by lia
 rw[Qca this];rfl
theorem Zo{p:Place}(h:OkP p):PyData.eqv (Ol p) opD=decide (V.str p.kind=V.str "opener"):=by
 rcases h.form with⟨e1,e2,e3⟩| e
 .rw[show Ol p=opD by unfold Ol opD;rw[e1,e2,e3];rfl,e1]
  decide +kernel
 .rw[QbO (NQ e)];have:(p.kind == ("opener":Str))=false:=QaN.mpr λz=>NQ e (by rw[z]);show (((p.kind == ("opener":Str))&&_))=false;rw[this];rfl
theorem KQ.rep{K:YD}{H:Hp}{v:V}{d:Dev}(h:KQ H v d):JN K H v (QF d):=by
 obtain⟨t,rfl,e⟩:=h;exact .tup (SqT.of e) (.cons (.str _) (.cons (.int _) .nil))
theorem fW{K:YD}{H:Hp}:∀{vs:YG} {ds:List Dev},Paired (KQ H) vs ds->Jw K H vs (ds.map QF)
 | _,_,.nil=>.nil
 | _,_,.cons h t=>.cons h.rep (fW t)
theorem Ei.rep{K:YD}{H:Hp}{v:V}{p:Place}(h:Ei H v p):JN K H v (Ol p):=by
 obtain⟨t,u,j,rfl,e1,e2,e3⟩:=h;exact .tup (SqT.of e1) (.cons (.str _) (.cons (.int _) (.cons (.tup (SqT.of e2) (fW e3)) .nil)))
theorem M8(lp j:Int):∀(n:Nat) (ds:List Dev),(DW lp j n ds).length=ds.length
 | _,[]=>rfl
 | n,d::r=>by show (DW lp j (n+1) r).length+1=r.length+1;rw[M8]
abbrev Sy:Stmt:=top 24
abbrev Gn:YF:=["plan"]
theorem IK:Ay ["plan","told","loop","places","at","place"] Gn (Ai Sy):=by ac_rfl
abbrev Lj:Stmt:=top 25
abbrev HF:YF:=Gn
abbrev xE:YF:=["plan","told","loop","places","at","kind","address","spur"]
theorem Ez:Ay xE HF (Ai Lj):=by ac_rfl
abbrev Pj:Stmt:=top 26
abbrev JV:YF:=Gn
abbrev xF:YF:=["plan","told","loop","places"]
theorem M9:Ay xF JV (Ai Pj):=by ac_rfl
def up{j : Type}(f:Nat->List j)(i:Nat):List j:=(List.range i).flatMap f
theorem DQ{j : Type}(f:Nat->List j)(i:Nat):up f (i+1)=up f i++f i:=by
 unfold up;rw[List.range_succ,QaO];simp
theorem Nt{j : Type}(f:Nat->List j):up f 0=[]:=rfl
theorem Ey{j : Type}{f:Nat->List j}{c:Nat}(h:∀i,(f i).length<=c):∀i,(up f i).length<=c*i
 | 0=>QcA _
 | i+1=>by
  have:=Ey h i;have:=h i;rw[DQ,QaV,Nat.mul_succ];lia
def ifs{j q : Type}(o:Option j)(g:j->List q):List q:=match o with | none=>[] | some x=>g x
theorem CG{j q : Type}{o:Option j}{g:j->List q}{x:j}(h:o=some x):ifs o g=g x:=by rw[h];rfl
structure Gt where
 lp:Int
 at_:Int
def Du(H:Hp)(v:V)(d:Gt):Prop:=∃u,v=.ref u/\H u=some (.tup [.int d.lp,.int d.at_])
theorem Du.tups{H H':Hp}(s:Ak H H'){v:V}{d:Gt}(h:Du H v d):Du H' v d:=by
 obtain⟨u,e,q⟩:=h;exact⟨u,e,s _ _ q⟩
def pd1(lp:Int)(ps:List Place)(i:Nat):List Sd:=ifs ps[i]? λp=>Ca lp ((1+i:Nat):Int) p
def pdL(ja:YU)(k:Nat):List Sd:=ifs ja[k]? λps=>up (pd1 k ps) ps.length
abbrev YV:=List Sp3
def st1(lp:Int)(ps:List Place)(i:Nat):YV:=ifs ps[i]? λp=>(List.range (p.spur.length+1)).map λn:Nat=>⟨lp,((1+i:Nat):Int),(n:Int)⟩
def stL(ja:YU)(k:Nat):YV:=ifs ja[k]? λps=>⟨k,0,0⟩::up (st1 k ps) ps.length
def gt1(lp:Int)(ps:List Place)(i:Nat):List Gt:=ifs ps[i]? λp=>if V.str p.kind=V.str "opener" then [⟨lp,((1+i:Nat):Int)⟩] else []
def gtL(ja:YU)(k:Nat):List Gt:=ifs ja[k]? λps=>(⟨k,0⟩::up (gt1 k ps) ps.length)++[⟨k,09+1⟩]
structure Ec(ja:YU):Prop where
 ok:∀ps∈ja,OkL ps
 hi:ja.length<=3
theorem Vg{lp a:Int}{p:Place}(h:OkP p):(Ca lp a p).length<=4:=by
 unfold Ca;have:=h.spur;split
 .exact QcB _
 .rw[Qbz,M8];lia
theorem jT{lp:Int}{ps:List Place}(h:∀p∈ps,OkP p)(i:Nat):(pd1 lp ps i).length<=4:=by
 unfold pd1;cases e:ps[i]? with
 | none=>exact QcB _
 | some p=>exact Vg (h p (QaH e))
theorem Uc{lp:Int}{ps:List Place}(h:∀p∈ps,OkP p)(i:Nat):(st1 lp ps i).length<=4:=by
 unfold st1;cases e:ps[i]? with
 | none=>exact QcB _
 | some p=>
  have:=(h p (QaH e)).spur;show ((List.range _).map _).length<=4;rw[QbJ,Qbw];lia
theorem Ut{lp:Int}{ps:List Place}(i:Nat):(gt1 lp ps i).length<=1:=by
 unfold gt1;cases e:ps[i]? with
 | none=>exact QcB _
 | some p=>
  show (if _ then _ else _:List Gt).length<=1
  split
  .exact QcA _
  .exact QcB _
theorem jR{ja:YU}(h:Ec ja)(k:Nat):(pdL ja k).length<=48:=by
 unfold pdL;cases e:ja[k]? with
 | none=>exact QcB _
 | some ps=>
  have o:=h.ok ps (QaH e);have:=Ey (jT (lp:=k) o.ok) ps.length;have:=o.hi;show (up _ _).length<=48;lia
theorem jF{ja:YU}(h:Ec ja)(k:Nat):(stL ja k).length<=49:=by
 unfold stL;cases e:ja[k]? with
 | none=>exact QcB _
 | some ps=>
  have o:=h.ok ps (QaH e);have:=Ey (Uc (lp:=k) o.ok) ps.length;have:=o.hi;show (up _ _).length+1<=49;lia
theorem j4{ja:YU}(h:Ec ja)(k:Nat):(gtL ja k).length<=14:=by
 unfold gtL;cases e:ja[k]? with
 | none=>exact QcB _
 | some ps=>
  have o:=h.ok ps (QaH e);have:=Ey (Ut (lp:=k) (ps:=ps)) ps.length;have:=o.hi;show ((_::up _ _)++[_]).length<=14;rw[QaV,Qbz];show _+1+1<=14;lia
def Xr(H:Hp)(pl:Addr)(ja:YU):Prop:=∃q z j vs,H pl=some (.tup [q,.ref j,z])/\H j=some (.tup vs)/\Paired (LoopAt H) vs ja
inductive Q8(vs:YG)(H:Hp)(Q:VK)(E:XK):Prop
 | mk (pl:Addr) (ja:YU) (_:vs=[.ref pl]) (_:Xr H pl ja) (_:Ec ja) (_:∀l xs H',H l=none->H' l=some (.lst xs)->Paired (O7 H') xs (up (pdL ja) ja.length)->Same H H'->Q (.ref l) H'):Q8 vs H Q E
inductive aH(vs:YG)(H:Hp)(Q:VK)(E:XK):Prop
 | mk (pl:Addr) (ja:YU) (_:vs=[.ref pl]) (_:Xr H pl ja) (_:Ec ja) (_:∀l xs H',H l=none->H' l=some (.lst xs)->Paired (BL H') xs (up (stL ja) ja.length)->Same H H'->Q (.ref l) H'):aH vs H Q E
inductive aJ(vs:YG)(H:Hp)(Q:VK)(E:XK):Prop
 | mk (pl:Addr) (ja:YU) (_:vs=[.ref pl]) (_:Xr H pl ja) (_:Ec ja) (_:∀l xs H',H l=none->H' l=some (.lst xs)->Paired (Du H') xs (up (gtL ja) ja.length)->Same H H'->Q (.ref l) H'):aJ vs H Q E
theorem mZ(c:Code K mg "devices" Sy Gn)(T:Tx K mg op oe)(KH:⋯ "place_devices" 1 Fo lU):⋯ "devices" 2 Gn Q8:=by
 exists c,IK
 obtain⟨pl,ja,rfl,⟨v0,v2,Ls,vs,au,ag,ah⟩,ok,a0⟩:=h;refine⟨_,(Ae (1∪IK∪(BW Ac))
 (Ae (Cj QbN rfl (VG rfl T.enumerate (Bm BX (pv 0) Af 07)) (CV rfl (Am (2∣IK) (Am (3∣IK) Bt)))
 (Ag (Cj QbN rfl (Oo rfl T.enumerate (pv 3) Af) (CV rfl (Am (4∣IK) (Am (5∣IK) Bt)))
 (Ag (Bo (Cq Qar Qap Qaq FT (pv 1) (Aa (Dc KH hr (Aa (pv 2) (Aa (pv 4) (Aa (pv 5) Ac)))) Ac)))))))
 (Ag (Ba (pv 1))))),?_⟩
 show let R0:TS:=_;let R1:TS:=Dm _ _ R0;let R2:TS:=Aq (Dm _ _ R1) _;Aq _ R2 _ _ _;intro R0 R1 R2;generalize ai:L2.start _ _=av;have e0:av=[js pl,none,none,none,none,none]:=ai.symm;clear ai;subst e0;refine⟨jv,λl fl=>?_⟩;simp only[QaZ,QaY];have s1:=Ad fl (.lst []);have aw:=Qcf ah;refine⟨_,rq,pl,_,_,_,rq,rq,SqT.of (s1 _ _ au),rq,Ls,rq,⟨vs,SqT.of (s1 _ _ ag)⟩,?_⟩;let J0:YN:=λi U q=>∃(ys:YG) (u2 u3 G I:Option V),U=[js pl,js l,u2,u3,G,I]/\Same H q/\q l=some (.lst ys)/\Paired (O7 q) ys (up (pdL ja) i);refine JL (xs:=vs) (lo:=0) J0 {[],_,_,_,_,rq,s1,Ab,.nil} (λi U q _ h=>?_) (λi x pt U q hx h aa=>?_) (fun U q h=>?_)
 .obtain⟨ys,_,_,_,_,_,O,_⟩:=h;exact SqT.of (O _ _ ag)
 .obtain⟨ys,u2,u3,G,I,rfl,O,hy,py⟩:=h;obtain⟨ps,ab,hL⟩:=Paired.Cp ah hx;obtain⟨t,ws,rfl,ht,al⟩:=id hL;have ae:=ok.ok ps (QaH ab);have ek:pdL ja i=up (pd1 i ps) ps.length:=CG ab;have ax:=Qcf al;have t0:=Ad aa (.tup [.int ((0+i:Nat):Int),.ref t]);refine⟨pt,_,rq,SqT.of Ab,rq,_,_,rq,_,_,rq,rq,?_⟩;have af:=O.trans t0;have am:=t0 _ _ hy;have an:=Paired.Ax py λ_ _ (z:O7 q _ _)=>z.tups (Ak.of t0);generalize upd q pt (.tup [.int ((0+i:Nat):Int),.ref t])=HA at af am an;simp only[QaZ,QaY,Nat.zero_add];have a1:=(Qah.mp ab).1;have lu:=Ey (jR ok) i;have a2:=ok.hi;refine{_,rq,t,rq,⟨ws,SqT.of (af _ _ ht)⟩,?_};let J1:YN:=λj U J=>∃(ys:YG) (G I:Option V),U=[js pl,js l,some (.int (i:Int)),js t,G,I]/\Same H J/\J l=some (.lst ys)/\Paired (O7 J) ys (up (pdL ja) i++up (pd1 i ps) j);refine JL (xs:=ws) (lo:=1) J1 ⟨ys,_,_,rq,af,am,by rw[Nt,QbM];exact an⟩ (λj U J _ h=>?_) (λj x pt U J hx h aa=>?_) (fun U J h=>?_)
  .obtain⟨ys,_,_,_,N,_⟩:=h;exact SqT.of (N _ _ ht)
  .obtain⟨ys,G,I,rfl,N,Y,pj⟩:=h;obtain⟨p,hp,hP⟩:=Paired.Cp al hx;have ao:=ae.ok p (QaH hp);have ej:pd1 i ps j=Ca i 06 p:=CG hp;have t1:=Ad aa (.tup [.int 06,x]);refine⟨pt,_,rq,SqT.of Ab,rq,_,_,rq,_,_,rq,rq,?_⟩;simp only[QaZ,QaY];have a3:=(Qah.mp hp).1;have lj:=Ey (jT (lp:=i) ae.ok) j;have ay:=Qcf pj;rw[QaV] at ay;have a4:=ae.hi;refine{_,rq,.inl ⟨rq,_,SqL.of (t1 _ _ Y)⟩,_,rq,_,rq,_,rq,(i:Int),06,x,p,rq,hP.tups (Ak.of (N.trans t1)),ao.spur,λld ap HB fld az ar sB=>?_};have t2:=t1.trans sB;have as:=t2 _ _ Y;have lx:=Qcf ar;have a5:=Vg (lp:=i) (a:=06) ao;refine⟨l,ld,_,_,rq,rq,as,az,Ar 00,?_⟩;have n0:∀zs,HB l≠some (.tup zs):=λzs z=>by rw[as] at z;cases z
   have tt:=Ak.upd (o:=.lst (ys++ap)) n0;refine{ys++ap,_,_,rq,(N.trans t2).Bq Ah.upd fl,Ab,?_};rw[DQ,ej,<-Qbm];exact Paired.app (Paired.Ax pj λ_ _ z=>(z.tups (Ak.of t2)).tups tt) (Paired.Ax ar λ_ _ z=>z.tups tt)
  .obtain⟨ys,G,I,rfl,N,Y,pj⟩:=h;exact⟨ys,_,_,_,_,rq,N,Y,by rw[DQ,ek,<-ax];exact pj⟩
 .obtain⟨ys,u2,u3,G,I,rfl,O,hy,py⟩:=h;rw[aw] at py;exact{_,rq,a0 l ys q fl hy py O}
theorem dB(c:Code K mg "stretches" Lj HF)(T:Tx K mg op oe):⋯ "stretches" 1 HF aH:=by
 exists c,Ez
 obtain⟨pl,ja,rfl,⟨v0,v2,Ls,vs,a1,ap,ar⟩,ok,be⟩:=h;refine⟨_,(Ae (1∪Ez∪(BW Ac))
 (Ae (Cj QbN rfl (VG rfl T.enumerate (Bm BX (pv 0) Af 07)) (CV rfl (Am (Aj (i:=2) Ez.nd rfl (Or.inr rfl)) (Am (3∣Ez) Bt)))
 (Ae (Bo (Cq Qar Qan Qao BP (pv 1) (Aa (Bd (Aa (pv 2) (Aa Af (Aa Af Ac)))) Ac)))
 (Ag (Cj QbN rfl (Oo rfl T.enumerate (pv 3) Af) (CV rfl (Am (Aj (i:=4) Ez.nd rfl (Or.inr rfl)) (Am (CV rfl (Am (5∣Ez) (Am (6∣Ez) (Am (7∣Ez) Bt)))) Bt)))
 (Ag (Bo (Cq Qar Qap Qaq FT (pv 1) (Aa (Ck (N':=["number","loop","at"]) rfl ([none,some 2,some 4]|||(Ai Lj)|||xE) (Dp rfl T.range (Aa (Bh Cu (Av Bl rfl T.len CP (Aa (pv 7) Ac)) Af) Ac)) (~~~(Aj (i:=0) (show List.Nodup (["number","loop","at"]:YF) by trivial) rfl (Or.inl rfl))) (λ_ _ _ _=>CK) (~~~(Bd (Aa (pv 1) (Aa (pv 2) (Aa (pv 0) Ac)))))) Ac))))))))
 (Ag (Ba (pv 1))))),?_⟩
 show let R0:TS:=_;let R1:TS:=Dm _ _ R0;let R2:TS:=Aq _ R1;let R3:TS:=Aq (Dm _ _ R2) _;Aq _ R3 _ _ _;intro R0 R1 R2 R3;generalize as:L2.start _ _=a2;have e0:a2=[js pl,none,none,none,none,none,none,none]:=as.symm;clear as;subst e0;refine⟨jv,λl fl=>?_⟩;simp only[QaZ,QaY];have s1:=Ad fl (.lst []);have a3:=Qcf ar;refine{_,rq,pl,_,_,_,rq,rq,SqT.of (s1 _ _ a1),rq,Ls,rq,⟨vs,SqT.of (s1 _ _ ap)⟩,?_};let J2:YN:=λi U G=>∃(ys:YG) (u2 u3 J N O Y:Option V),U=[js pl,js l,u2,u3,J,N,O,Y]/\Same H G/\G l=some (.lst ys)/\Paired (BL G) ys (up (stL ja) i);refine JL (xs:=vs) (lo:=0) J2 {[],_,_,_,_,_,_,rq,s1,Ab,.nil} (λi U G _ h=>?_) (λi x pt U G hx h af=>?_) (fun U G h=>?_)
 .obtain⟨ys,_,_,_,_,_,_,_,sm,_⟩:=h;exact SqT.of (sm _ _ ap)
 .obtain⟨ys,u2,u3,J,N,O,Y,rfl,sm,hy,py⟩:=h;obtain⟨ps,ag,hL⟩:=Paired.Cp ar hx;obtain⟨t,ws,rfl,ht,au⟩:=id hL;have ah:=ok.ok ps (QaH ag);have ek:stL ja i=⟨i,0,0⟩::up (st1 i ps) ps.length:=CG ag;have a4:=Qcf au;have t0:=Ad af (.tup [.int ((0+i:Nat):Int),.ref t]);refine⟨pt,_,rq,SqT.of Ab,rq,_,_,rq,_,_,rq,rq,?_⟩;have av:=sm.trans t0;have ab:=t0 _ _ hy;have ai:=Paired.Ax py λ_ _ (z:BL G _ _)=>z.tups (Ak.of t0);generalize upd G pt (.tup [.int ((0+i:Nat):Int),.ref t])=HA at av ab ai;simp only[QaZ,QaY,Nat.zero_add];have bg:=(Qah.mp ag).1;have lu:=Ey (jF ok) i;have bi:=ok.hi;have bj:=Qcf ai;refine{_,rq,.inl ⟨rq,_,SqL.of ab⟩,_,rq,kg,λq a5=>?_};have t3:=Ad a5 (.tup [.int (i:Int),.int 0,.int 0]);refine⟨l,_,_,rq,rq,t3 _ _ ab,Al 00,?_⟩;have n0:∀zs,(upd HA q (.tup [.int (i:Int),.int 0,.int 0])) l≠some (.tup zs):=λzs z=>by rw[t3 _ _ ab] at z;cases z
  have tt:=Ak.upd (o:=.lst (ys++[.ref q])) n0;have al:Same H (upd (upd HA q (.tup [.int (i:Int),.int 0,.int 0])) l (.lst (ys++[.ref q]))):=(av.trans t3).Bq Ah.upd fl;have am:Paired (BL _) (ys++[.ref q]) (up (stL ja) i++[{(i:Int),0,0}]):=QcC ⟨q,rq,tt _ _ Ab⟩ (Paired.Ax ai λ_ _ z=>(z.tups (Ak.of t3)).tups tt);have an:(upd (upd HA q (.tup [.int (i:Int),.int 0,.int 0])) l (.lst (ys++[.ref q]))) l=some (.lst (ys++[.ref q])):=Ab;generalize upd (upd HA q (.tup [.int (i:Int),.int 0,.int 0])) l (.lst (ys++[.ref q]))=HB at al am an;generalize ys++[.ref q]=a6 at am an;refine{_,rq,t,rq,⟨ws,SqT.of (al _ _ ht)⟩,?_};let J3:YN:=λj U I=>∃(ys:YG) (J N O Y:Option V),U=[js pl,js l,some (.int (i:Int)),js t,J,N,O,Y]/\Same H I/\I l=some (.lst ys)/\Paired (BL I) ys (up (stL ja) i++{(i:Int),0,0}::up (st1 i ps) j);refine JL (xs:=ws) (lo:=1) J3 ⟨a6,_,_,_,_,rq,al,an,by rw[Nt];exact am⟩ (λj U I _ h=>?_) (λj x pt U I hx h af=>?_) (fun U I h=>?_)
  .obtain⟨ys,_,_,_,_,_,sj,_⟩:=h;exact SqT.of (sj _ _ ht)
  .obtain⟨ys,J,N,O,Y,rfl,sj,ae,pj⟩:=h;obtain⟨p,hp,hP⟩:=Paired.Cp au hx;have a7:=ah.ok p (QaH hp);have ej:st1 i ps j=(List.range (p.spur.length+1)).map λn:Nat=>{(i:Int),06,(n:Int)}:=CG hp;have t1:=Ad af (.tup [.int 06,x]);obtain⟨tp,ua,a8,rfl,a9,ba,bb⟩:=hP.tups (Ak.of (sj.trans t1));refine⟨pt,_,rq,SqT.of Ab,rq,_,_,rq,_,_,rq,tp,_,rq,SqT.of a9,rq,_,_,rq,_,_,rq,_,_,rq,rq,rq,?_⟩;simp only[QaZ,QaY];have bk:=(Qah.mp hp).1;have lj:=Ey (Uc (lp:=i) ah.ok) j;have bc:=Qcf pj;rw[QaV,Qbz] at bc;have bl:=ah.hi;have bm:=Qcf bb;have bn:=a7.spur;refine{_,rq,.inl ⟨rq,_,SqL.of (t1 _ _ ae)⟩,_,rq,ua,_,rq,.inr (SqT.of ba),_,_,rq,rq,_,rq,by lia,by lia,λl2 ao=>?_};rw[show ((a8.length:Int)+1).toNat=p.spur.length+1 by lia];have aw:=sj.trans t1;have ax:=t1 _ _ ae;have ay:=Paired.Ax pj λ_ _ (z:BL I _ _)=>z.tups (Ak.of t1);generalize upd I pt (.tup [.int 06,.ref tp])=HT at aw ax ay ao;let J4:YN:=λk U HC=>∃(u:Option V) (zs:YG),U=[u,some (.int (i:Int)),some (.int 06)]/\HC l2=some (.lst zs)/\Same HT HC/\Paired (BL HC) zs ((List.range k).map λn:Nat=>{(i:Int),06,(n:Int)});refine KJ J4 ⟨none,[],rq,Ab,Ad ao _,.nil⟩ (λk U HC hk h=>?_) (fun U HC h=>?_)
   .obtain⟨u,zs,rfl,c1,c2,c3⟩:=h;refine{_,rq,_,rq,_,rq,kg,λtq bd=>?_};have s3:=Ad bd (.tup [.int (i:Int),.int 06,.int (0+(k:Int))]);have az:=s3 _ _ c1;have lz:=Qcf c3;rw[QbJ,Qbw] at lz;have n1:∀aa,(upd HC tq (.tup [.int (i:Int),.int 06,.int (0+(k:Int))])) l2≠some (.tup aa):=λaa z=>by rw[az] at z;cases z
    have t4:=Ak.upd (o:=.lst (zs++[.ref tq])) n1;refine{_,az,Al 00,_,zs++[.ref tq],rq,Ab,(c2.trans s3).Bq Ah.upd ao,?_};rw[List.range_succ,QbL];refine QcC ⟨tq,rq,?_⟩ (Paired.Ax c3 λ_ _ z=>(z.tups (Ak.of s3)).tups t4);refine t4 _ _ ?_;rw[Ab,Qcz]
   obtain⟨u,zs,rfl,c1,c2,c3⟩:=h;have lz:=Qcf c3;rw[QbJ,Qbw] at lz;have a0:=c2 _ _ ax;refine⟨l,l2,_,_,rq,rq,a0,c1,Ar 00,?_⟩;have n2:∀aa,HC l≠some (.tup aa):=λaa z=>by rw[a0] at z;cases z
   have t5:=Ak.upd (o:=.lst (ys++zs)) n2;refine{ys++zs,_,_,_,_,rq,(aw.trans c2).Bq Ah.upd fl,Ab,?_};rw[DQ,ej,show ∀(a:YV) (x:Sp3) (b c:YV),a++x::(b++c)=(a++x::b)++c from λa x b c=>by simp]
   exact Paired.app (Paired.Ax ay λ_ _ z=>(z.tups (Ak.of c2)).tups t5) (Paired.Ax c3 λ_ _ z=>z.tups t5)
  .obtain⟨ys,J,N,O,Y,rfl,sj,ae,pj⟩:=h;exact⟨ys,_,_,_,_,_,_,rq,sj,ae,by rw[DQ,ek,<-a4];exact pj⟩
 .obtain⟨ys,u2,u3,J,N,O,Y,rfl,sm,hy,py⟩:=h;rw[a3] at py;exact{_,rq,be l ys G fl hy py sm}
abbrev xt:YF:=["at","place","loop"]
theorem mR(c:Code K mg "openers" Pj JV)(T:Tx K mg op oe):⋯ "openers" 1 JV aJ:=by
 exists c,M9
 obtain⟨pl,ja,rfl,⟨v0,v2,Ls,vs,a3,ar,as⟩,ok,bd⟩:=h;refine⟨_,(Ae (1∪M9∪(BW Ac))
 (Ae (Cj QbN rfl (VG rfl T.enumerate (Bm BX (pv 0) Af 07)) (CV rfl (Am (Aj (i:=2) M9.nd rfl (Or.inr rfl)) (Am (3∣M9) Bt)))
 (Ae (Bo (Cq Qar Qan Qao BP (pv 1) (Aa (Bd (Aa (pv 2) (Aa Af Ac))) Ac)))
 (Ae (Bo (Cq Qar Qap Qaq FT (pv 1) (Aa (Ck (N':=xt) rfl ([none,none,some 2]|||(Ai Pj)|||xF) (Oo rfl T.enumerate (pv 3) Af) (~~~(Hz (K:=K) (n:=2) rfl rfl (Am (0∩xt) (Am (1∩xt) Bt)))) (~~~(GP (Bx (qu (K:=K) rfl hr.units) (pv 1) (SQ rfl T.OPENER) (BK _)))) (~~~(Bd (Aa (pv 2) (Aa (pv 0) Ac))))) Ac)))
 (Ag (Bo (Cq Qar Qan Qao BP (pv 1) (Aa (Bd (Aa (pv 2) (Aa (Bh Cu (Av Bl rfl T.len CP (Aa (pv 3) Ac)) Af) Ac))) Ac)))))))
 (Ag (Ba (pv 1))))),?_⟩
 show let R0:TS:=_;let R1:TS:=Aq _ R0;let R2:TS:=Aq _ R1;let R3:TS:=Aq (Dm _ _ R2) _;Aq _ R3 _ _ _;intro R0 R1 R2 R3;generalize au:L2.start _ _=a4;have e0:a4=[js pl,none,none,none]:=au.symm;clear au;subst e0;refine⟨jv,λl fl=>?_⟩;simp only[QaZ,QaY];have s1:=Ad fl (.lst []);have a5:=Qcf as;refine{_,rq,pl,_,_,_,rq,rq,SqT.of (s1 _ _ a3),rq,Ls,rq,⟨vs,SqT.of (s1 _ _ ar)⟩,?_};let J5:YN:=λi U G=>∃(ys:YG) (u2 u3:Option V),U=[js pl,js l,u2,u3]/\Same H G/\G l=some (.lst ys)/\Paired (Du G) ys (up (gtL ja) i);refine JL (xs:=vs) (lo:=0) J5 {[],_,_,rq,s1,Ab,.nil} (λi U G _ h=>?_) (λi x O U G hx h ag=>?_) (fun U G h=>?_)
 .obtain⟨ys,_,_,_,Y,_⟩:=h;exact SqT.of (Y _ _ ar)
 .obtain⟨ys,u2,u3,rfl,Y,hy,py⟩:=h;obtain⟨ps,ah,hL⟩:=Paired.Cp as hx;obtain⟨t,J,rfl,ht,av⟩:=id hL;have ai:=ok.ok ps (QaH ah);have ek:gtL ja i=(⟨i,0⟩::up (gt1 i ps) ps.length)++[{(i:Int),09+1}]:=CG ah;have a6:=Qcf av;have t0:=Ad ag (.tup [.int ((0+i:Nat):Int),.ref t]);refine⟨O,_,rq,SqT.of Ab,rq,_,_,rq,_,_,rq,rq,?_⟩;have aw:=Y.trans t0;have aa:=t0 _ _ hy;have al:=Paired.Ax py λ_ _ (z:Du G _ _)=>z.tups (Ak.of t0);generalize upd G O (.tup [.int ((0+i:Nat):Int),.ref t])=HA at aw aa al;simp only[QaZ,QaY,Nat.zero_add];have be:=(Qah.mp ah).1;have lu:=Ey (j4 ok) i;have bg:=ok.hi;have bi:=Qcf al;refine{_,rq,.inl ⟨rq,_,SqL.of aa⟩,_,rq,kf,λj a7=>?_};have t3:=Ad a7 (.tup [.int (i:Int),.int 0]);refine⟨l,_,_,rq,rq,t3 _ _ aa,Al 00,?_⟩;have n0:∀zs,(upd HA j (.tup [.int (i:Int),.int 0])) l≠some (.tup zs):=λzs z=>by rw[t3 _ _ aa] at z;cases z
  have tt:=Ak.upd (o:=.lst (ys++[.ref j])) n0;have N:Same H (upd (upd HA j (.tup [.int (i:Int),.int 0])) l (.lst (ys++[.ref j]))):=(aw.trans t3).Bq Ah.upd fl;have ab:Paired (Du _) (ys++[.ref j]) (up (gtL ja) i++[{(i:Int),0}]):=QcC ⟨j,rq,tt _ _ Ab⟩ (Paired.Ax al λ_ _ z=>(z.tups (Ak.of t3)).tups tt);have ae:(upd (upd HA j (.tup [.int (i:Int),.int 0])) l (.lst (ys++[.ref j]))) l=some (.lst (ys++[.ref j])):=Ab;generalize upd (upd HA j (.tup [.int (i:Int),.int 0])) l (.lst (ys++[.ref j]))=HB at N ab ae;generalize ys++[.ref j]=q at ab ae;have am:=Qcf ab;rw[QaV] at am;have am:q.length<=14*i+1:=by rw[am];show _+1<=_;lia
  refine{_,rq,.inl ⟨rq,_,SqL.of ae⟩,_,rq,t,rq,⟨J,SqT.of (N _ _ ht)⟩,λl2 ax=>?_};let J6:YN:=λk U HC=>∃(u v:Option V) (zs:YG),U=[u,v,some (.int (i:Int))]/\HC l2=some (.lst zs)/\Same HB HC/\Paired (Du HC) zs (up (gt1 i ps) k);refine sO (xs:=J) (lo:=1) J6 ⟨none,none,[],rq,Ab,Ad ax _,.nil⟩ (λk U HC _ h=>?_) (λk x O U HC hx h ag=>?_) (fun U HC h=>?_)
  .obtain⟨_,_,zs,_,_,sc,_⟩:=h;exact SqT.of (sc _ _ (N _ _ ht))
  .obtain⟨u,v,zs,rfl,c1,c2,c3⟩:=h;obtain⟨p,hp,hP⟩:=Paired.Cp av hx;have ay:=ai.ok p (QaH hp);have ej:gt1 i ps k=if V.str p.kind=V.str "opener" then [{(i:Int),((1+k:Nat):Int)}] else []:=CG hp
   have bj:=(Qah.mp hp).1;have a8:=ai.hi;have lk:=Ey (Ut (lp:=i) (ps:=ps)) k;have lz:=Qcf c3;have t1:=Ad ag (.tup [.int ((1+k:Nat):Int),x]);have a9:=hP.tups (Ak.of ((N.trans c2).trans t1));refine⟨O,_,rq,SqT.of Ab,rq,_,_,rq,_,_,rq,rq,?_⟩;refine{_,rq,Ol p,opD,a9.rep,.tup (T.opT _) (.cons (.str _) (.cons (.int _) (.cons (.tup (T.opE _) .nil) .nil))),SN ay,(by trivial),_,rq,?_};rw[Zo ay];by_cases ck:V.str p.kind=V.str "opener"
   .rw[Qca ck];rw[if_pos ck] at ej;refine Cm {_,rq,_,rq,kf,λtq ba=>?_};have s3:=Ad ba (.tup [.int (i:Int),.int ((1+k:Nat):Int)]);have an:=t1.trans s3;have az:=an _ _ c1;have n1:∀I,(upd (upd HC O (.tup [.int ((1+k:Nat):Int),x])) tq (.tup [.int (i:Int),.int ((1+k:Nat):Int)])) l2≠some (.tup I):=λI z=>by rw[az] at z;cases z
    have t4:=Ak.upd (o:=.lst (zs++[.ref tq])) n1;refine{_,az,Al 00,_,_,zs++[.ref tq],rq,Ab,(c2.trans an).Bq Ah.upd ax,?_};rw[DQ,ej];exact QcC ⟨tq,rq,t4 _ _ Ab⟩ (Paired.Ax c3 λ_ _ z=>(z.tups (Ak.of an)).tups t4)
   .rw[QbO ck];rw[if_neg ck] at ej;refine Cz {_,_,zs,rq,t1 _ _ c1,c2.trans t1,?_};rw[DQ,ej,QbM];exact Paired.Ax c3 λ_ _ z=>z.tups (Ak.of t1)
  obtain⟨u,v,zs,rfl,c1,c2,c3⟩:=h;have lz:=Qcf c3;have lk:=Ey (Ut (lp:=i) (ps:=ps)) J.length;have a8:=ai.hi;have a0:=c2 _ _ ae;refine⟨l,l2,_,_,rq,rq,a0,c1,Ar 00,?_⟩;have n2:∀I,HC l≠some (.tup I):=λI z=>by rw[a0] at z;cases z
  have t5:=Ak.upd (o:=.lst (q++zs)) n2;have ao:Same H (upd HC l (.lst (q++zs))):=(N.trans c2).Bq Ah.upd fl;have ap:Paired (Du _) (q++zs) ((up (gtL ja) i++[{(i:Int),0}])++up (gt1 i ps) J.length):=Paired.app (Paired.Ax ab λ_ _ z=>(z.tups (Ak.of c2)).tups t5) (Paired.Ax c3 λ_ _ z=>z.tups t5);have af:(upd HC l (.lst (q++zs))) l=some (.lst (q++zs)):=Ab;have bb:(q++zs).length<=100:=by rw[QaV];lia
  generalize upd HC l (.lst (q++zs))=HD at ao ap af;generalize q++zs=a1 at ap af bb;refine{_,rq,.inl ⟨rq,_,SqL.of af⟩,_,rq,_,rq,t,_,rq,.inr (SqT.of (ao _ _ ht)),_,_,rq,rq,kf,λte bc=>?_};have t6:=Ad bc (.tup [.int (i:Int),.int ((J.length:Int)+1)]);have a2:=t6 _ _ af;refine⟨l,_,_,rq,rq,a2,Al 00,?_⟩;have n3:∀I,(upd HD te (.tup [.int (i:Int),.int ((J.length:Int)+1)])) l≠some (.tup I):=λI z=>by rw[a2] at z;cases z
  have t7:=Ak.upd (o:=.lst (a1++[.ref te])) n3;refine{a1++[.ref te],_,_,rq,(ao.trans t6).Bq Ah.upd fl,Ab,?_};rw[DQ,ek,<-a6,show ∀(a:List Gt) (x:Gt) (b c:List Gt),a++(x::b++c)=(a++[x]++b)++c from λa x b c=>by simp]
  exact QcC ⟨te,rq,t7 _ _ Ab⟩ (Paired.Ax ap λ_ _ z=>(z.tups (Ak.of t6)).tups t7)
 .obtain⟨ys,u2,u3,rfl,Y,hy,py⟩:=h;rw[a5] at py;exact{_,rq,bd l ys G fl hy py Y}
abbrev Yg:Stmt:=top 27
abbrev QL:YF:=["plan","loop"]
theorem Ra:Ay ["plan","loop","told","at","place"] QL (Ai Yg):=by ac_rfl
def stP(lp:Int)(ps:List Place):Nat->List (YV)×YV
 | 0=>([],[])
 | i+1=>match ps[i]? with
  | none=>stP lp ps i
  | some p=>if V.str p.kind=V.str "opener" then ((stP lp ps i).1++[(stP lp ps i).2],[]) else ((stP lp ps i).1,(stP lp ps i).2++(Ca lp ((1+i:Nat):Int) p).map Sd.spot)
theorem Wn{lp:Int}{ps:List Place}{i:Nat}{p:Place}(h:ps[i]?=some p)(k:V.str p.kind=V.str "opener"):stP lp ps (i+1)=((stP lp ps i).1++[(stP lp ps i).2],[]):=by
 show (match ps[i]? with | none=>stP lp ps i | some p=>if V.str p.kind=V.str "opener" then ((stP lp ps i).1++[(stP lp ps i).2],[]) else ((stP lp ps i).1,(stP lp ps i).2++(Ca lp ((1+i:Nat):Int) p).map Sd.spot))=_
 rw[h];exact if_pos k
theorem Ua{lp:Int}{ps:List Place}{i:Nat}{p:Place}(h:ps[i]?=some p)(k:¬V.str p.kind=V.str "opener"):stP lp ps (i+1)=((stP lp ps i).1,(stP lp ps i).2++(Ca lp ((1+i:Nat):Int) p).map Sd.spot):=by
 show (match ps[i]? with | none=>stP lp ps i | some p=>if V.str p.kind=V.str "opener" then ((stP lp ps i).1++[(stP lp ps i).2],[]) else ((stP lp ps i).1,(stP lp ps i).2++(Ca lp ((1+i:Nat):Int) p).map Sd.spot))=_
 rw[h];exact if_neg k
theorem Qu{j q : Type}{F G:j->q->Prop}:∀{l₁ : List j} {l₂ : List q},Paired F l₁ l₂->(∀a∈l₁,∀b,F a b->G a b)->Paired G l₁ l₂
 | _,_,.nil,_=>.nil
 | _,_,.cons r t,f=>.cons (f _ QaW _ r) (Qu t λa z b=>f a (QaI _ z) b)
theorem WM{j q : Type}{F:j->q->Prop}:∀{l₁ : List j} {l₂ : List q} {a:j},Paired F l₁ l₂->a∈l₁->∃b,F a b
 | _,_,_,.nil,h=>by cases h
 | _,_,_,.cons r t,h=>by
  rcases Qcg.mp h with rfl | h
  .exact⟨_,r⟩
  .exact WM t h
theorem RD{I J : Type}{F:I->J->Prop}:∀{j q : List I} {z G : List J},Paired F j z->Paired F q G->Paired F (j++q) (z++G)
 | _,_,_,_,.nil,t=>t
 | _,_,_,_,.cons r s,t=>.cons r (RD s t)
def MJ(H:Hp)(v:V)(sp:YV):Prop:=∃q ys,v=.ref q/\H q=some (.lst ys)/\Paired (BL H) ys sp
inductive XS(vs:YG)(H:Hp)(Q:VK)(E:XK):Prop
 | mk (pl Ls t:Addr) (v0 v2:V) (ls ws:YG) (k:Nat) (ps:List Place) (_:vs=[.ref pl,.int (k:Int)]) (_:H pl=some (.tup [v0,.ref Ls,v2])) (_:H Ls=some (.tup ls)) (_:ls[k]?=some (.ref t)) (_:H t=some (.tup ws)) (_:Paired (Ei H) ws ps) (_:(∀p∈ps,OkP p)) (_:ps.length<=12) (_:∀l xs H',H l=none->H' l=some (.lst xs)->Paired (MJ H') xs ((stP k ps ps.length).1++[(stP k ps ps.length).2])->(∀x∈xs,∃q,x=.ref q/\H q=none/\q≠l)->Same H H'->Q (.ref l) H'):XS vs H Q E
abbrev xf:YF:=["spot","kind","address"]
theorem vL(c:Code K mg "parts" Yg QL)(T:Tx K mg op oe)(KH:⋯ "place_devices" 1 Fo lU):⋯ "parts" 2 QL XS:=by
 exists c,Ra
 obtain⟨pl,Ls,t,v0,v2,ls,ws,k,ps,rfl,bb,bc,hk,ht,ay,bd,bp,ae⟩:=h;refine⟨_,(Ae (2∪Ra∪(BW (Aa (BW Ac) Ac)))
 (Ae (Cj QbN rfl (Oo rfl T.enumerate (Bm BX (Bm BX (pv 0) Af 07) (pv 1) 07) Af) (CV rfl (Am (3∣Ra) (Am (4∣Ra) Bt)))
 (Ag (Cw (Bx (qu (K:=K) rfl hr.units) (pv 4) (SQ rfl T.OPENER) (BK _)) (Ag (Bo (Cq Qar Qan Qao BP (pv 2) (Aa (BW Ac) Ac)))) (Ag (Bo (Cq Qar Qap Qaq FT (Bm Ds (pv 2) (Px LK Af) 07) (Aa (Ck (N':=xf) rfl nofun (CZ (Dc KH hr (Aa (pv 1) (Aa (pv 3) (Aa (pv 4) Ac))))) (~~~(Hz (K:=K) (n:=3) rfl rfl (Am (0∩xf) (Am (1∩xf) (Am (2∩xf) Bt))))) (λ_ _ _ _=>CK) (~~~(pv 0))) Ac)))))))
 (Ag (Ba (pv 2))))),?_⟩
 show let R0:TS:=_;let R1:TS:=_;let R2:TS:=Jz _ R0 R1;let R3:TS:=Aq (Dm _ _ R2) _;Aq _ R3 _ _ _;intro R0 R1 R2 R3;generalize az:L2.start _ _=be;have e0:be=[js pl,some (.int (k:Int)),none,none,none]:=az.symm;clear az;subst e0;refine⟨(by show 0<=sizeLine;decide),λJ a0=>⟨(by show 1<=sizeLine;decide),λl hl=>?_⟩⟩;have s1:=Ad a0 (.lst []);have s2:=Ad hl (.lst [.ref J]);have sm:=s1.trans s2;have a1:=s1.free hl;have el:_=some (HO.lst [.ref J]):=Ab (H:=upd H J (.lst [])) (a:=l) (o:=.lst [.ref J]);have a2:_=some (HO.lst []):=s2 _ _ (Ab (H:=H) (a:=J) (o:=.lst []));have nq:J≠l:=Aw (Ab (H:=H) (a:=J) (o:=.lst [])) hl;generalize hX:upd (upd H J (.lst [])) l (.lst [.ref J])=H1 at sm el a2;simp only[QaZ,QaY];have LN:ws.length=ps.length:=Qcf ay;refine⟨_,rq,pl,_,_,_,rq,rq,SqT.of (sm _ _ bb),rq,_,rq,Ls,_,_,_,rq,rq,SqT.of (sm _ _ bc),Eu hk,t,rq,⟨ws,SqT.of (sm _ _ ht)⟩,?_⟩;let J0:YN:=λi U I=>∃q j u3 u4,U=[js pl,some (.int (k:Int)),js l,u3,u4]/\Same H I/\I l=some (.lst (q++[.ref j]))/\Paired (MJ I) q (stP k ps i).1/\MJ I (.ref j) (stP k ps i).2/\(∀x∈q,∃ae,x=.ref ae/\H ae=none/\ae≠l/\ae≠j)/\H j=none/\j≠l/\q.length<=i/\(stP k ps i).2.length<=4*i;refine JL (xs:=ws) (lo:=1) J0
  {[],J,_,_,rq,sm,el,.nil,⟨J,[],rq,a2,.nil⟩,λx hx=>(by cases hx),a0,nq,QcA _,QcA _} (λi U I _ h=>?_) (λi x pt U I hx h bg=>?_) (fun U I h=>?_)
 .obtain⟨q,j,_,_,_,sb,_⟩:=h;exact SqT.of (sb _ _ ht)
 .obtain⟨q,j,u3,u4,rfl,sb,hy,pd,pc,fq,fl,nl,lq,lc⟩:=h;obtain⟨p,aa,au⟩:=Paired.Cp ay hx;have ai:=bd p (QaH aa);have au:=au.tups (Ak.of sb);have t0:=Ad bg (.tup [.int ((1+i:Nat):Int),x]);have xJ:=au.tups (Ak.of t0);have il:i < ps.length:=(Qah.mp aa).1;have al:=sb.trans t0;have ab:=t0 _ _ hy;have am:=Paired.Ax pd λ_ _ (z:MJ I _ _)=>(show MJ (upd I pt (.tup [.int ((1+i:Nat):Int),x])) _ _ from let ⟨a,ys,e1,e2,e3⟩:=z;⟨a,ys,e1,t0 _ _ e2,Paired.Ax e3 λ_ _ y=>y.tups (Ak.of t0)⟩)
  have an:MJ (upd I pt (.tup [.int ((1+i:Nat):Int),x])) (.ref j) (stP k ps i).2:=let ⟨a,ys,e1,e2,e3⟩:=pc;⟨a,ys,e1,t0 _ _ e2,Paired.Ax e3 λ_ _ y=>y.tups (Ak.of t0)⟩;refine⟨pt,_,rq,SqT.of Ab,rq,_,_,rq,_,_,rq,rq,?_⟩;generalize upd I pt (.tup [.int ((1+i:Nat):Int),x])=N at xJ al ab am an;simp only[QaZ,QaY];refine{_,rq,Ol p,opD,xJ.rep,.tup (T.opT N) (.cons (.str _) (.cons (.int _) (.cons (.tup (T.opE N) .nil) .nil))),SN ai,(by trivial),_,rq,?_};rw[Zo ai];by_cases ck:V.str p.kind=V.str "opener"
  .rw[Qca ck];refine Cm {_,rq,.inl ⟨rq,_,SqL.of ab⟩,(by show 0<=sizeLine;decide),λG af=>?_};have t1:=Ad af (.lst []);refine⟨l,_,_,rq,rq,t1 _ _ ab,Al (by rw[QaV];simp only[QaE];lia),?_⟩;have a3:l≠G:=Aw ab af;have O:Ah l N (upd (upd N G (.lst [])) l (.lst (q++[.ref j]++[.ref G]))):=(Ah.of t1).trans Ah.upd;have a4:(upd (upd N G (.lst [])) l (.lst (q++[.ref j]++[.ref G]))) G=some (.lst []):=by rw[Ao a3.symm,Ab]
   have a5:(upd (upd N G (.lst [])) l (.lst (q++[.ref j]++[.ref G]))) l=some (.lst (q++[.ref j]++[.ref G])):=Ab;have bi:∀zs,N l≠some (.tup zs):=λzs z=>by rw[ab] at z;cases z
   generalize upd (upd N G (.lst [])) l (.lst (q++[.ref j]++[.ref G]))=Y at O a4 a5;have keep:∀v sp,MJ N v sp->v≠.ref l->MJ Y v sp:=λv sp z n=>by
    obtain⟨a,ys,e1,e2,e3⟩:=z;exact⟨a,ys,e1,O _ _ e2 (λw=>n (by rw[e1,w])),Paired.Ax e3 λ_ _ y=>y.tups (O.tup bi)⟩
   have bj:=al.free af;refine{q++[.ref j],G,_,_,rq,al.Bq O a1,a5,?_,⟨G,[],rq,a4,?_⟩,λy ag=>?_,bj,a3.symm,by rw[QaV];simp only[QaE];lia,?_}
   .rw[Wn aa ck];refine QcC (keep _ _ an λz=>nl (by injection z)) ?_;exact Qu am λy ag sp z=>keep _ _ z λw=>by
     obtain⟨a,e,_,n,_⟩:=fq y ag;rw[e] at w;injection w with w;exact n w
   .rw[Wn aa ck];exact .nil
   .rcases QbK.mp ag with z | z
    .obtain⟨a,e,f1,n1,n2⟩:=fq y z;have hm:y∈q:=z;refine⟨a,e,f1,n1,λw=>?_⟩;obtain⟨sp,No⟩:=WM am hm;obtain⟨a',ys,e1,e2,_⟩:=No;rw[e] at e1;injection e1 with e1;rw[<-e1,w,af] at e2;cases e2
    .have hz:y=.ref j:=by simpa using z
     refine⟨j,hz,fl,nl,λw=>?_⟩;obtain⟨a',ys,e1,e2,_⟩:=an;injection e1 with e1;rw[<-e1,w,af] at e2;cases e2
   .rw[Wn aa ck];exact QcB _
  .rw[QbO ck];obtain⟨a,yc,ea,ah,a6⟩:=id an;injection ea with ea;subst ea;refine Cz {_,rq,_,rq,l,_,_,_,rq,rq,SqL.of ab,gO q (.ref j),.inl ⟨rq,_,SqL.of ah⟩,?_};refine{_,rq,_,rq,_,rq,(k:Int),((1+i:Nat):Int),x,p,rq,xJ,ai.spur,λld av Y fld a7 aw sB=>⟨ld,rq,⟨av,SqL.of a7⟩,λl2 ao=>?_⟩};have bk:(Ca k ((1+i:Nat):Int) p).length<=4:=by
    unfold Ca;rw[if_neg ck,Qbz,M8];have:=ai.spur;lia
   have lx:av.length<=4:=by rw[Qcf aw];exact bk
   let J1:YN:=λas U ap=>∃u v w ys,U=[u,v,w]/\ap=upd Y l2 (.lst ys)/\ys.length<=as/\Paired (BL Y) ys (((Ca k ((1+i:Nat):Int) p).take as).map Sd.spot);refine Fi (xs:=av) J1 ⟨none,none,none,[],rq,rq,QcA _,.nil⟩ (λas U ap _ h=>?_) (λas y U ap a8 h=>?_) (fun U ap h=>?_)
   .obtain⟨u,v,w,ys,rfl,rfl,_⟩:=h;exact SqL.of (Ad ao _ _ _ a7)
   .obtain⟨u,v,w,ys,rfl,rfl,bl,ar⟩:=h;obtain⟨d,bm,td,ud,rfl,e1,e2⟩:=Paired.Cp aw a8;have jl:=(Qah.mp a8).1;refine⟨td,_,rq,SqT.of (Ad ao _ _ _ e1),rq,_,_,rq,_,_,rq,_,_,rq,rq,_,rq,ys,Ab,Al 00,_,_,_,ys++[.ref ud],rq,T8,by rw[QaV];simp only[QaE];lia,?_⟩;rw[List.take_succ,bm,QbL];exact QcC ⟨ud,rq,e2⟩ ar
   .obtain⟨u,v,w,ys,rfl,rfl,bl,ar⟩:=h;rw[Qcf aw,Qby] at ar;have t2:=Ad ao (.lst ys);have ax:=sB.trans t2;have bq:j≠l2:=Aw (sB _ _ ah) ao;have br:yc.length<=4*i:=by rw[Qcf a6];exact lc
    refine⟨j,l2,_,_,rq,rq,ax _ _ ah,Ab,Ar 00,?_⟩;have O:Ah j N (upd (upd Y l2 (.lst ys)) j (.lst (yc++ys))):=(Ah.of ax).trans Ah.upd;have a9:(upd (upd Y l2 (.lst ys)) j (.lst (yc++ys))) j=some (.lst (yc++ys)):=Ab;have bn:∀zs,(upd Y l2 (.lst ys)) j≠some (.tup zs):=λzs z=>by rw[ax _ _ ah] at z;cases z
    have tE:Ak Y (upd (upd Y l2 (.lst ys)) j (.lst (yc++ys))):=(Ak.of t2).trans (Ak.upd bn);have ba:∀zs,N j≠some (.tup zs):=λzs z=>by rw[ah] at z;cases z
    generalize upd (upd Y l2 (.lst ys)) j (.lst (yc++ys))=HC at O a9 tE;refine⟨q,j,_,_,rq,al.Bq O fl,O _ _ ab nl.symm,?_,⟨j,yc++ys,rq,a9,?_⟩,fq,fl,nl,by lia,?_⟩
    .rw[Ua aa ck];exact Qu am λy ag sp z=>by
      obtain⟨a',bo,e1,e2,e3⟩:=z;obtain⟨b',f1,_,_,f4⟩:=fq y ag;refine⟨a',bo,e1,O _ _ e2 (λw=>f4 ?_),Paired.Ax e3 λ_ _ y=>y.tups (O.tup ba)⟩;rw[e1] at f1;injection f1 with f1;rw[<-f1,w]
    .rw[Ua aa ck];exact RD (Paired.Ax a6 λ_ _ y=>y.tups (O.tup ba)) (Paired.Ax ar λ_ _ y=>y.tups tE)
    .rw[Ua aa ck,QaV,QbJ];lia
 .obtain⟨q,j,u3,u4,rfl,sb,hy,pd,pc,fq,fl,nl,_⟩:=h;rw[LN] at pd pc;refine{_,rq,ae l _ I a1 hy (QcC pc pd) (λx hx=>?_) sb};rcases QbK.mp hx with z | z
  .obtain⟨a,e,n,m,_⟩:=fq x z;exact⟨a,e,n,m⟩
  .have:x=.ref j:=by simpa using z
   exact⟨j,this,fl,nl⟩
abbrev Ng:Stmt:=top 3
abbrev Gm:YF:=["thing"]
theorem iG:Ay Gm Gm (Ai Ng):=by ac_rfl
abbrev Qj:Stmt:=top 4
abbrev FQ:YF:=["thing","low","high"]
theorem bV:Ay ["thing","low","high"] FQ (Ai Qj):=by ac_rfl
abbrev VB:Stmt:=top 5
abbrev Ea:YF:=["thing","least","most"]
theorem pW:Ay ["thing","least","most"] Ea (Ai VB):=by ac_rfl
abbrev Og:Stmt:=top 6
abbrev GZ:YF:=["thing","many"]
theorem Z0:Ay ["thing","many"] GZ (Ai Og):=by ac_rfl
theorem G4{b:Bool}{A B:Prop}(h1:b=true->A)(h2:b=false->B):if b=true then A else B:=by
 cases b with
 | true=>exact Cm (h1 rfl)
 | false=>exact Cz (h2 rfl)
theorem NR{i:Nat}{v:V}{U : St}{H:Hp}{Q:YO}(h:Q (U.set i (some v)) H):Ek i v U H Q:=h
theorem Sg{I R:TS}{D:Ends}{U : St}{H:Hp}(P:YO)(z:∀ j H',P j H'->R D j H')(G:∀q:Ends,(∀ j H',P j H'->q.nx j H')->I q U H):Aq I R D U H:=G { D with nx:=fun U H=>R D U H } z
def iv(xs:List Int):YG:=xs.map V.int
inductive spW(vs:YG)(H:Hp)(Q:VK)(E:XK):Prop
 | mk (i:Int) (_:vs=[.int i]) (_:Q (.bl true) H):spW vs H Q E
inductive KZ(vs:YG)(H:Hp)(Q:VK)(E:XK):Prop
 | mk (x lo hi:Int) (_:vs=[.int x,.int lo,.int hi]) (_:Q (.bl (decide (lo<=x/\x<=hi))) H):KZ vs H Q E
inductive uL(vs:YG)(H:Hp)(Q:VK)(E:XK):Prop
 | mk (v) (_:vs=[v]) (_:Kn H v) (_:Q (.bl (isW v)) H):uL vs H Q E
def Rh(o:Option (YG))(a b:Int):Bool:=match o with
 | some xs=>decide (a<=xs.length)&&decide ((xs.length:Int)<=b)
 | none=>false
inductive Hq(vs:YG)(H:Hp)(Q:VK)(E:XK):Prop
 | mk (v a b) (_:vs=[v,.int a,.int b]) (_:Kn H v) (_:Q (.bl (Rh (Ii H v) a b)) H):Hq vs H Q E
structure Th(H:Hp)(v:V):Prop where
 kn:Kn H v
 parts:∀xs,Ii H v=some xs->xs.length<=100/\∀y∈xs,Kn H y
def T7(o:Option (YG))(n:Int):Bool:=match o with
 | some xs=>Rh (some xs) n n&&xs.all isW
 | none=>false
theorem RN{xs:YG}{n:Int}:T7 (some xs) n=(Rh (some xs) n n&&xs.all isW):=rfl
inductive Ph(vs:YG)(H:Hp)(Q:VK)(E:XK):Prop
 | mk (v n) (_:vs=[v,.int n]) (_:Th H v) (_:∀H',Same H H'->Q (.bl (T7 (Ii H v) n)) H'):Ph vs H Q E
theorem Yy{P:Program}{w:World}{K:YD}{mg:YB}{base:Heap}{x:Str}{k:Nat}{ps:YF}{sp sp':Sp}(g:⋯ x k ps sp)(h:∀vs H Q E,sp' vs H Q E->sp vs H Q E):⋯ x k ps sp':=⟨let ⟨f,fd,a,b,c,F⟩:=g.ex;⟨f,fd,a,b,c,F.imp h⟩⟩
theorem S7(c:Code K mg "is_whole" Ng Gm)(T:Nm mg):⋯ "is_whole" 1 Gm uL:=by
 refine c.good iG (by nofun) λ_ _ _ _ _ H j Q E z h=>?_
 obtain⟨v,rfl,k,q⟩:=h;refine{_,(Ag (Ba (Fy (Av Rw rfl T.isinstance Bv (Aa (pv 0) (Aa (QJ (v:=.ty "int") rfl T.int gH rfl) Ac))) (DX (C2 (Av Rw rfl T.isinstance Bv (Aa (pv 0) (Aa (QJ (v:=.ty "bool") rfl T.bool BD rfl) Ac)))))))),?_};refine{_,rq,A3 k {_,rq,?_}};rw[D0] at q;cases e:isI v with
 | false=>rw[e] at q;exact Cz q
 | true=>rw[e] at q;exact Cm {_,rfl,xH e ⟨_,rfl,q⟩}
theorem iJ(c:Code K mg "is_whole" Ng Gm)(T:Nm mg):⋯ "is_whole" 1 Gm spW:=Yy (S7 c T) λj H Q E h=>let ⟨i,e,q⟩:=h;{.int i,e,True.intro,q}
theorem dD(c:Code K mg "is_within" Qj FQ)(T:Nm mg)(j:⋯ "is_whole" 1 Gm spW):⋯ "is_within" 2 FQ KZ:=by
 refine c.good bV (by nofun) λ_ _ _ _ _ H I Q E G h=>?_
 obtain⟨x,lo,hi,rfl,q⟩:=h;refine{_,(Ag (Ba (Fy (Cr j G (Aa (pv 0) Ac)) (DX (Ri Py Py (pv 1) (pv 0) (pv 2)))))),?_};refine{_,rq,x,rq,_,rq,Cm {_,rq,_,rq,_,_,rq,rq,_,rq,?_}};by_cases h1:lo<=x
 .rw[Qca h1];refine Cm {_,rq,_,_,rq,rq,?_};by_cases h2:x<=hi
  .rw[Qca ⟨h1,h2⟩] at q;show Q (.bl (decide (x<=hi))) H;rw[Qca h2];exact q
  .rw[QbO (λz=>h2 z.2)] at q;show Q (.bl (decide (x<=hi))) H;rw[QbO h2];exact q
 .rw[QbO (λz=>h1 z.1)] at q;rw[QbO h1];exact Cz q
theorem qz(c:Code K mg "is_row" VB Ea)(T:Nm mg):⋯ "is_row" 1 Ea Hq:=by
 refine c.good pW (by nofun) λ_ _ _ _ _ H z Q E G h=>?_
 obtain⟨v,a,b,rfl,k,q⟩:=h;refine{_,(Ag (Ba (Fy (Av Rw rfl T.isinstance Bv (Aa (pv 0) (Aa (QJ (v:=.ty "tuple") rfl T.tuple Gb rfl) Ac))) (DX (Ri Py Py (pv 1) (Av Bl rfl T.len CP (Aa (pv 0) Ac)) (pv 2)))))),?_};refine{_,rq,qR k {_,rq,?_}};cases e:Ii H v with
 | none=>rw[e] at q;exact Cz q
 | some xs=>
  rw[e] at q;obtain⟨p,rfl,j⟩:=dO e;refine Cm {_,rq,_,rq,p,xs,rq,.inr (SqT.of j),_,_,rq,rq,_,rq,?_};by_cases h1:a<=(xs.length:Int)
  .rw[Qca h1];refine Cm {_,rq,_,_,rq,rq,?_};simpa [Rh,h1] using q
  .rw[QbO h1];refine Cz ?_;simpa [Rh,h1] using q
abbrev xh:YF:=["part"]
theorem Z4(c:Code K mg "are_wholes" Og GZ)(T:Nm mg)(O:⋯ "is_whole" 1 Gm uL)(Y:⋯ "is_row" 1 Ea Hq):⋯ "are_wholes" 2 GZ Ph:=by
 refine c.good Z0 (by nofun) λ_ _ _ _ _ H vs Q E G h=>?_
 obtain⟨v,n,rfl,t,q⟩:=h;refine{_,(Ag (Ba (Fy (Dc Y G (Aa (pv 0) (Aa (pv 1) (Aa (pv 1) Ac)))) (DX (Av (Iz rfl) rfl T.all MF (Aa (Ck (N':=xh) rfl nofun (Fb (pv 0)) (~~~(0∩xh)) (λ_ _ _ _=>CK) (~~~(Cr O G (Aa (pv 0) Ac)))) Ac)))))),?_};refine{_,rq,_,rq,_,rq,v,n,n,rq,t.kn,_,rq,?_};cases e:Ii H v with
 | none=>exact Cz (by have:=q H (Same.refl H);rw[e] at this;exact this)
 | some xs=>
  obtain⟨p,rfl,j⟩:=dO e;have tp:=t.parts xs e;cases I:Rh (some xs) n n with
  | false=>exact Cz (by have:=q H (Same.refl H);rw[e,RN,I] at this;exact this)
  | true=>
   refine Cm {_,rq,p,rq,⟨xs,SqT.of j⟩,λl z=>?_};have N:p≠l:=Aw j z;let J0:YN:=λi U H'=>∃u,U=[u]/\H'=upd H l (.lst ((xs.take i).map λy=>V.bl (isW y)));refine Rr (xs:=xs) J0 ⟨none,rq,rq⟩ (λi U H' _ h=>?_) (λi x U H' J h=>?_) (fun U H' h=>?_)
   .obtain⟨u,rfl,rfl⟩:=h;exact SqT.of (by rw[Ao N];exact j)
   .obtain⟨u,rfl,rfl⟩:=h;have sm:Same H (upd H l (.lst ((xs.take i).map λy=>V.bl (isW y)))):=Ad z _;have et:(xs.take (i+1)).map (λy=>V.bl (isW y))=(xs.take i).map (λy=>V.bl (isW y))++[V.bl (isW x)]:=by rw[List.take_succ,J];simp
    refine{_,rq,x,rq,(tp.2 x (QaH J)).same sm,_,Ab,Al (by rw[QbJ,QbA];lia),_,rq,?_};rw[T8,et]
   .obtain⟨u,rfl,rfl⟩:=h;refine⟨l,xs.map isW,rq,SqL.of ?_,?_⟩
    .rw[Ab,Qby,Qct];rfl
    .have:=q _ (Ad z (.lst ((xs.take xs.length).map λy=>V.bl (isW y))));rw[e,RN,I,Bool.true_and] at this;rw[List.all_map];exact this
abbrev Qk:Stmt:=top 7
abbrev Ji:YF:=["row"]
theorem bW:Ay ["row"] Ji (Ai Qk):=by ac_rfl
abbrev Gd:Stmt:=top 8
abbrev Em:YF:=["thing","least","most","low","high"]
theorem Rb:Ay Em Em (Ai Gd):=by ac_rfl
abbrev Sw:Stmt:=top 9
abbrev Mr:YF:=Gm
theorem mC:Ay Gm Mr (Ai Sw):=by ac_rfl
abbrev Qm:Stmt:=top 14
abbrev HW:YF:=["kind","address"]
theorem bZ:Ay ["kind","address"] HW (Ai Qm):=by ac_rfl
abbrev JC:Stmt:=top 15
abbrev FW:YF:=Gm
theorem U6:Ay Gm FW (Ai JC):=by ac_rfl
abbrev Ss:Stmt:=top 16
abbrev Mp:YF:=Gm
theorem mz:Ay Gm Mp (Ai Ss):=by ac_rfl
abbrev Rg:Stmt:=top 17
abbrev Ky:YF:=Gm
theorem Jh:Ay ["thing","kind","address","spur"] Ky (Ai Rg):=by ac_rfl
abbrev Sx:Stmt:=top 18
abbrev Ms:YF:=Gm
theorem mD:Ay Gm Ms (Ai Sx):=by ac_rfl
abbrev Sq:Stmt:=top 19
abbrev Ml:YF:=Gm
theorem mq:Ay Gm Ml (Ai Sq):=by ac_rfl
abbrev Qo:Stmt:=top 20
abbrev Jk:YF:=Gm
theorem cu:Ay Gm Jk (Ai Qo):=by ac_rfl
abbrev Qn:Stmt:=top 21
abbrev Jj:YF:=Gm
theorem cj:Ay Gm Jj (Ai Qn):=by ac_rfl
abbrev Sv:Stmt:=top 22
abbrev Mq:YF:=Gm
theorem Ko:Ay ["thing","most","loops","zones"] Mq (Ai Sv):=by ac_rfl
structure Ty(K:YD)(mg:YB)(op oe kd wk:Addr):Prop extends Tx K mg op oe where
 KINDS:∃u,mg "KINDS"=some u/\RelV (.ref kd) u
 kdT:∀H,SqT K H kd [.str "seeker",.str "knob",.str "bell",.str "door"]
 WARNING_KINDS:∃u,mg "WARNING_KINDS"=some u/\RelV (.ref wk) u
 wkT:∀H,SqT K H wk [.str "seeker",.str "knob"]
 SMALL_LETTERS:∃u,mg "SMALL_LETTERS"=some u/\RelV (.str abc) u
theorem BG:∀c∈abc.cps.toList,(!(Builtin.Str.occurrences abc ⟨#[c]⟩ 0 abc.length 1).isEmpty)=true:=by
 have h:abc.cps.toList.all (λc=>!(Builtin.Str.occurrences abc ⟨#[c]⟩ 0 abc.length 1).isEmpty)=true:=by trivial
 exact λc hc=>List.all_eq_true.mp h c hc
theorem A0{k:Str}(h:Hv k):inV (.str k) [.str "seeker",.str "knob",.str "bell",.str "door"]=true:=by
 rcases h with rfl | rfl | rfl | rfl <;> decide +kernel
theorem Mx{K:YD}{a l:Addr}{xs:YG}{te:TE}{Q:VK}{r:St}{H:Hp}(q:H l=none)(G:H a=some (.tup xs))(N:xs.length<=100)
  (hs:∀(i:Nat) (x:V) (j:Hp),xs[i]?=some x->Same H j->∀R:VK,(∀H',Same j H'->R (.bl true) H')->te (some x::r) j R)
  (I:∀H',H' l=some (.lst ((List.replicate xs.length true).map V.bl))->Same H H'->Q (.ref l) H'):Gu (Itt K a) (Ek 0) (λ_ H Q=>Q true H) te Q (none::r) (upd H l (.lst [])) l:=by
 let J:YN:=λi U j=>∃u,U=u::r/\j l=some (.lst ((List.replicate i true).map V.bl))/\Same H j;refine Rr (xs:=xs) J {_,rq,Ab,Ad q _} (λi U j _ h=>?_) (λi x U j z h=>?_) (fun U j h=>?_)
 .obtain⟨u,rfl,_,s⟩:=h;exact SqT.of (s _ _ G)
 .obtain⟨u,rfl,e,s⟩:=h;have hi:=(Qah.mp z).1;unfold Ek;dsimp only;refine Cm (hs i x j z s _ λH' s'=>{_,s' _ _ e,Al (by rw[QbJ,List.length_replicate];lia),_,rq,?_,(s.trans s').Bq Ah.upd q});rw[Ab,List.replicate_succ',QbL];rfl
 .obtain⟨u,rfl,e,s⟩:=h;exact I _ e s
theorem Iv{H:Hp}{a:Addr}{xs:YG}(h:H a=some (.tup xs)):Kn H (.ref a):=by
 unfold Kn
 first
  | exact⟨_,h,True.intro⟩
  | exact .inr ⟨_,h⟩
  | exact⟨xs,.inr h⟩
theorem FP{xs:YG}{a b:Int}(h1:a<=xs.length)(h2:(xs.length:Int)<=b):Rh (some xs) a b=true:=by
 show (decide (a<=xs.length)&&decide ((xs.length:Int)<=b))=true;rw[Qca h1,Qca h2];rfl
theorem Wb{n:Nat}:(List.replicate n true).all id=true:=by simp
structure SE(p:Place):Prop where
 ok:OkP p
 bd:∀x∈adP p,1<=x/\x<=99
inductive X4(vs:YG)(H:Hp)(Q:VK)(E:XK):Prop
 | mk (z:Str) (_:vs=[.str z]) (_:1<=z.length) (_:z.length<=8) (_:okS z) (_:∀H',Same H H'->Q (.bl true) H'):X4 vs H Q E
inductive bH(vs:YG)(H:Hp)(Q:VK)(E:XK):Prop
 | mk (a:Addr) (ns:List Int) (_:vs=[.ref a]) (_:H a=some (.tup (ns.map V.int))) (_:ns.Pairwise (· < ·)) (_:ns.length<=100) (_:∀H',Same H H'->Q (.bl true) H'):bH vs H Q E
inductive bG(vs:YG)(H:Hp)(Q:VK)(E:XK):Prop
 | mk (a:Addr) (ns:List Int) (lo hi l h:Int) (_:vs=[.ref a,.int lo,.int hi,.int l,.int h]) (_:H a=some (.tup (ns.map V.int))) (_:ns.Pairwise (· < ·)) (_:ns.length<=100) (_:lo<=ns.length) (_:(ns.length:Int)<=hi) (_:(∀x∈ns,l<=x/\x<=h)) (_:∀H',Same H H'->Q (.bl true) H'):bG vs H Q E
inductive Wv(vs:YG)(H:Hp)(Q:VK)(E:XK):Prop
 | mk (k:Str) (x:Int) (_:vs=[.str k,.int x]) (_:Hv k) (_:1<=x) (_:x<=99) (_:Q (.bl true) H):Wv vs H Q E
inductive Vp(vs:YG)(H:Hp)(Q:VK)(E:XK):Prop
 | mk (v d) (_:vs=[v]) (_:KQ H v d) (_:Hv d.kind) (_:1<=d.addr) (_:d.addr<=99) (_:Q (.bl true) H):Vp vs H Q E
inductive XM(vs:YG)(H:Hp)(Q:VK)(E:XK):Prop
 | mk (u ws ds) (_:vs=[.ref u]) (_:H u=some (.tup ws)) (_:Paired (KQ H) ws ds) (_:ds.length<=3) (_:(∀d∈ds,Hv d.kind/\1<=d.addr/\d.addr<=99)) (_:∀H',Same H H'->Q (.bl true) H'):XM vs H Q E
inductive Vq(vs:YG)(H:Hp)(Q:VK)(E:XK):Prop
 | mk (v p) (_:vs=[v]) (_:Ei H v p) (_:SE p) (_:∀H',Same H H'->Q (.bl true) H'):Vq vs H Q E
inductive X5(vs:YG)(H:Hp)(Q:VK)(E:XK):Prop
 | mk (v ps) (_:vs=[v]) (_:LoopAt H v ps) (_:OkL ps) (_:(∀x∈adL ps,1<=x/\x<=99)) (_:∀H',Same H H'->Q (.bl true) H'):X5 vs H Q E
inductive Vs(vs:YG)(H:Hp)(Q:VK)(E:XK):Prop
 | mk (Ls ws ja) (_:vs=[.ref Ls]) (_:H Ls=some (.tup ws)) (_:Paired (LoopAt H) ws ja) (_:(∀ps∈ja,OkL ps)) (_:(∀x∈CQ ja,1<=x/\x<=99)) (_:1<=ja.length) (_:ja.length<=3) (_:∀H',Same H H'->Q (.bl true) H'):Vs vs H Q E
structure ZnB(z:Zone):Prop where
 nm:(1<=z.name.length/\z.name.length<=8)/\okS z.name
 up:z.adr.Pairwise (· < ·)/\1<=z.adr.length/\z.adr.length<=30
 bd:∀x∈z.adr,1<=x/\x<=99
inductive XJ(vs:YG)(H:Hp)(Q:VK)(E:XK):Prop
 | mk (v z) (_:vs=[v]) (_:Jq H v z) (_:ZnB z) (_:∀H',Same H H'->Q (.bl true) H'):XJ vs H Q E
inductive Vo(vs:YG)(H:Hp)(Q:VK)(E:XK):Prop
 | mk (zs ws jp) (_:vs=[.ref zs]) (_:H zs=some (.tup ws)) (_:Paired (Jq H) ws jp) (_:(∀z∈jp,ZnB z)) (_:jp.length<=8) (_:(jp.map (·.name)).Nodup) (_:∀H',Same H H'->Q (.bl true) H'):Vo vs H Q E
structure Fq(H:Hp)(pl:Addr)(most:Int)(ja:YU)(jp:List Zone):Prop where
 at_:∃Ls zs vs zvs,H pl=some (.tup [.int most,.ref Ls,.ref zs])/\H Ls=some (.tup vs)/\Paired (LoopAt H) vs ja/\H zs=some (.tup zvs)/\Paired (Jq H) zvs jp
 ok:Ec ja
 lo:1<=ja.length
 pok:gW most ja jp
theorem Fq.tups{H H':Hp}{pl:Addr}{j:Int}{ja:YU}{q:List Zone}(h:Fq H pl j ja q)(s:Ak H H'):Fq H' pl j ja q:=by
 obtain⟨I,zs,J,G,e1,e2,e3,e4,e5⟩:=h.at_;exact⟨⟨I,zs,J,G,s _ _ e1,s _ _ e2,Paired.Ax e3 λ_ _ z=>z.tups s,s _ _ e4,Paired.Ax e5 λ_ _ z=>z.tups s⟩,h.ok,h.lo,h.pok⟩
theorem Fq.same{H H':Hp}{pl:Addr}{j:Int}{ja:YU}{q:List Zone}(h:Fq H pl j ja q)(s:Same H H'):Fq H' pl j ja q:=h.tups (Ak.of s)
theorem Fq.plan{H:Hp}{pl:Addr}{j:Int}{ja:YU}{q:List Zone}(h:Fq H pl j ja q):Xr H pl ja:=by
 obtain⟨z,zs,G,I,e1,e2,e3,e4,e5⟩:=h.at_;exact⟨_,_,z,G,e1,e2,e3⟩
inductive Nv(vs:YG)(H:Hp)(Q:VK)(E:XK):Prop
 | mk (pl most ja jp) (_:vs=[.ref pl]) (_:Fq H pl most ja jp) (_:∀H',Same H H'->Q (.bl true) H'):Nv vs H Q E
theorem aW{j q z : Type}{h:j->List q}{φ : z->q}{g:Nat->j->List z}(l:List j)(G:∀i x,l[i]?=some x->(g i x).map φ=h x):∀n,n<=l.length->(up (λi=>ifs l[i]? (g i)) n).map φ=(l.take n).flatMap h
 | 0,_=>by rw[Nt];simp
 | n+1,I=>by
  have hi:l[n]?=some l[n]:=Qam 00;rw[DQ,QbL,aW l G n 00,QcJ hi,QaO,CG hi,G n _ hi];simp
theorem Vf(lp a:Int):∀(n:Nat) (ds:List Dev),(DW lp a n ds).map (·.addr)=ds.map (·.addr)
 | _,[]=>rfl
 | n,d::r=>by
  show d.addr::(DW lp a (n+1) r).map (·.addr)=d.addr::r.map (·.addr);rw[Vf]
theorem cT(lp a:Int)(p:Place):(Ca lp a p).map (·.addr)=adP p:=by
 unfold Ca adP;split
 .rfl
 .rw[Qch,Vf]
theorem Ke(ja:YU):(up (pdL ja) ja.length).map (·.addr)=CQ ja:=by
 have:=aW (φ:=Sd.addr) (h:=adL) (g:=λk ps=>up (pd1 (k:Int) ps) ps.length) ja (λk ps _=>by
  have:=aW (φ:=Sd.addr) (h:=adP) (g:=λi p=>Ca (k:Int) ((1+i:Nat):Int) p) ps (λi p _=>cT _ _ p) ps.length (QcA _);rw[Qby] at this;exact this) ja.length (QcA _)
 rw[Qby] at this;exact this
theorem uG{ja:YU}(h:Ec ja){x:Int}(j:x∈Fz ja):x∈CQ ja:=by
 obtain⟨ps,q,j⟩:=QbG.mp j;obtain⟨p,z,j⟩:=QbG.mp j;refine QbG.mpr ⟨ps,q,QbG.mpr ⟨p,z,?_⟩⟩;obtain⟨d,hd,rfl⟩:=Qcq.mp j;obtain⟨hd,hw⟩:=QbR.mp hd;rcases ((h.ok ps q).ok p z).form with⟨e1,e2,e3⟩| G
 .have:d=⟨p.kind,p.addr⟩:=by
   unfold Ge at hd;rw[e3] at hd;simpa using hd
  rw[this] at hw;have hw:Ft p.kind=true:=hw;rw[e1] at hw;exact absurd hw (by trivial)
 .unfold adP;rw[if_neg (NQ G)];unfold Ge at hd;rcases Qcg.mp hd with rfl | hd
  .exact QaW ..
  .exact QaI _ (Qcq.mpr ⟨d,hd,rq⟩)
theorem mX(C:Code K mg "is_name" Sw Mr)(T:Ty K mg op oe kd wk):⋯ "is_name" 1 Mr X4:=by
 exists C,mC
 obtain⟨z,rfl,h1,I,J,aa⟩:=h;refine⟨_,(Ae (Cw (Fx (Dz (Av Rw rfl T.isinstance Bv (Aa (pv 0) (Aa (QJ (v:=.ty "str") rfl T.str Fa rfl) Ac))))) (Ag (Ba DY)) BR)
 (Ag (Ba (Fy (Ri Py Py Af (Av gC rfl T.len CP (Aa (pv 0) Ac)) Af) (DX (Av (Iz rfl) rfl T.all MF (Aa (Ck (N':=["sign"]) rfl nofun (qd (pv 0)) (~~~(Aj (i:=0) (show List.Nodup (["sign"]:YF) by trivial) rfl (Or.inl rfl))) (λ_ _ _ _=>CK) (~~~(GQ qt (pv 0) (SQ rfl T.SMALL_LETTERS) (by with_unfolding_all rfl)))) Ac))))))),?_⟩
 show let G:TS:=_;Aq _ G _ _ _;intro G;refine{_,rq,A2 {_,rq,Cz {_,rq,z,rq,Ar (by show z.length<=1000;lia),_,_,rq,rq,_,rq,?_}}};have N:decide ((1:Int)<=(z.length:Int))=true:=Qca 00;rw[N];refine Cm {_,_,rq,rq,_,rq,?_};have O:decide ((z.length:Int)<=8)=true:=Qca 00;rw[O];refine Cm {_,rq,z,rq,λl q=>?_};let Y:YN:=λi U j=>∃u,U=[u]/\j l=some (.lst ((List.replicate i true).map V.bl))/\Same H j;refine fY Y {_,rq,Ab,Ad q _} (λi c U j hc h=>?_) (fun U j h=>?_)
 .obtain⟨u,rfl,e1,e2⟩:=h;have hi:i < z.cps.size:=(Qaf.mp hc).1;have hz:z.cps.size<=8:=I;unfold Ek;dsimp only;refine Cm {_,rq,_,_,rq,rq,_,e1,Al (by simp;lia),_,rq,?_,e2.Bq Ah.upd q};rw[Ab,BG c (J c (Array.mem_toList_iff.mpr (Array.mem_of_getElem? hc))),List.replicate_succ',QbL];rfl
 .obtain⟨u,rfl,e1,e2⟩:=h;refine⟨l,List.replicate z.cps.size true,rq,SqL.of e1,?_⟩;rw[Wb];exact aa _ e2
abbrev xv:YF:=["one","other"]
theorem dF(C:Code K mg "is_rising" Qk Ji)(T:Ty K mg op oe kd wk):⋯ "is_rising" 1 Ji bH:=by
 exists C,bW
 obtain⟨a,j,rfl,ha,hp,ag,af⟩:=h;refine{_,(Ag (Ba (Av (Iz rfl) rfl T.all MF (Aa (Ck (N':=xv) rfl nofun (vm rfl T.zip (Aa (pv 0) (Aa (K7 Yc (pv 0) (Nz Af) NK) Ac))) (~~~(Hz (K:=K) (n:=2) rfl rfl (Am (0∩xv) (Am (1∩xv) Bt)))) (λ_ _ _ _=>CK) (~~~(GQ mO (pv 0) (pv 1) (BK _)))) Ac)))),?_};refine{_,rq,_,rq,_,rq,a,_,rq,ha,λb H1 I s1=>?_};have Y:=s1 _ _ ha;refine⟨a,b,rq,⟨_,Y⟩,⟨_,I⟩,λl hl=>?_⟩;have ah:(j.map V.int).length=j.length:=QbJ ..;have ec:JM (j.map V.int) (some (1:Int)) none=(j.map V.int).drop 1:=by
  by_cases h0:1<=(j.map V.int).length
  .exact V8 (k:=1) h0
  .have:j.map V.int=[]:=List.length_eq_zero_iff.mp 00;rw[this];rfl
 rw[ec] at I;refine oV (xs:=j.map V.int) (ys:=(j.map V.int).drop 1) (j.length - 1) 00 (by rw[QbD];lia) (.inr (by rw[QbD];lia)) (λi U q=>∃z G,U=[z,G]/\q l=some (.lst ((List.replicate i true).map V.bl))/\Same H1 q) {_,_,rq,Ab,Ad hl _} (λi U q _ h=>?_) (λi x y p U q hx J h aa=>?_) (fun U q h=>?_)
 .obtain⟨z,G,rfl,e1,e2⟩:=h;exact{e2 _ _ Y,e2 _ _ I}
 .obtain⟨z,G,rfl,e1,e2⟩:=h;rw[List.getElem?_drop] at J;rw[Qbn] at hx J;obtain⟨N,ab,rfl⟩:=QaB.mp hx;obtain⟨O,ae,rfl⟩:=QaB.mp J;obtain⟨i1,g1⟩:=Qah.mp ab;obtain⟨i2,g2⟩:=Qah.mp ae;have lt:N < O:=by
   rw[<-g1,<-g2];exact Qak.mp hp i (1+i) i1 i2 00
  have s2:=Ad aa (.tup [.int N,.int O]);refine⟨p,_,rq,SqT.of Ab,rq,_,_,rq,_,_,rq,rq,?_⟩;refine Cm {_,rq,_,rq,_,_,rq,rq,_,s2 _ _ e1,Al (by simp;lia),_,_,rq,?_,(e2.trans s2).Bq Ah.upd hl};rw[Ab];show some (HO.lst (_++[V.bl (decide (N < O))]))=_;rw[Qca lt,List.replicate_succ',QbL];rfl
 .obtain⟨z,G,rfl,e1,e2⟩:=h;refine⟨l,List.replicate (j.length - 1) true,rq,SqL.of e1,?_⟩;rw[Wb];exact af _ (s1.trans e2)
theorem Z5(C:Code K mg "are_rising_within" Gd Em)(T:Ty K mg op oe kd wk)(CN:⋯ "is_row" 1 Ea Hq)(Gx:⋯ "is_within" 2 FQ KZ)(iW:⋯ "is_rising" 1 Ji bH):⋯ "are_rising_within" 3 Em bG:=by
 refine C.good Rb (by nofun) λ_ _ _ _ _ H vs Q E z h=>?_
 obtain⟨a,q,lo,hi,l,h,rfl,j,hp,Y,h1,h2,h3,ae⟩:=h;refine⟨_,(Ae (Cw (Fx (Dz (Dc CN z (Aa (pv 0) (Aa (pv 1) (Aa (pv 2) Ac)))))) (Ag (Ba DY)) BR)
 (Ag (Ba (Fy (Av (Iz rfl) rfl T.all MF (Aa (Ck (N':=["part","low","high"]) rfl ([none,some 3,some 4]|||(Ai Gd)|||Em) (Fb (pv 0)) (~~~(Aj (i:=0) (show List.Nodup (["part","low","high"]:YF) by trivial) rfl (Or.inl rfl))) (λ_ _ _ _=>CK) (~~~(Dc Gx z (Aa (pv 0) (Aa (pv 1) (Aa (pv 2) Ac)))))) Ac)) (DX (Cr iW z (Aa (pv 0) Ac))))))),?_⟩
 show let J:TS:=_;Aq _ J _ _ _;intro J;have I:(q.map V.int).length=q.length:=QbJ ..;refine{_,rq,_,rq,_,rq,.ref a,lo,hi,rq,Iv j,_,rq,?_};rw[Df j,FP (by rw[I];exact h1) (by rw[I];exact h2)];refine Cz {_,rq,a,rq,{_,SqT.of j},λl2 aa=>?_};refine Mx (r:=[some (.int l),some (.int h)]) aa j 00 (λi x HH N G R hR=>?_) (λH' e G=>?_)
 .rw[Qbn] at N;obtain⟨O,ab,rfl⟩:=QaB.mp N;refine{_,rq,_,rq,_,rq,O,l,h,rq,?_};rw[Qca (h3 O (QaH ab))];exact hR _ (Same.refl _)
 .refine⟨l2,List.replicate (q.map V.int).length true,rq,SqL.of e,_,rq,?_⟩;rw[Wb];exact Cm {_,rq,a,q,rq,G _ _ j,hp,Y,λH2 s2=>ae _ (G.trans s2)}
theorem dH(C:Code K mg "is_device" Qm HW)(T:Ty K mg op oe kd wk)(j:⋯ "is_within" 2 FQ KZ):⋯ "is_device" 3 HW Wv:=by
 refine C.good bZ (by nofun) λ_ _ _ _ _ H I Q E z h=>?_
 obtain⟨k,x,rfl,G,h1,h2,q⟩:=h;refine{_,(Ag (Ba (Fy (GQ S6 (pv 0) (SQ rfl T.KINDS) (by with_unfolding_all rfl)) (DX (Dc j z (Aa (pv 1) (Aa Af (Aa Af Ac)))))))),?_};refine{_,rq,kd,_,rq,.inr (T.kdT H),rq,rq,_,rq,?_};rw[if_neg QaX,A0 G];refine Cm {_,rq,x,1,99,rq,?_};rw[Qca ⟨h1,h2⟩];exact q
theorem U7(C:Code K mg "is_spur_device" JC FW)(T:Ty K mg op oe kd wk)(G:⋯ "is_row" 1 Ea Hq)(I:⋯ "is_device" 3 HW Wv):⋯ "is_spur_device" 4 FW Vp:=by
 refine C.good U6 (by nofun) λ_ _ _ _ _ H N Q E z h=>?_
 obtain⟨v,d,rfl,⟨t,rfl,j⟩,J,h1,h2,q⟩:=h;refine{_,(Ag (Ba (Fy (Dc G z (Aa (pv 0) (Aa Af (Aa Af Ac)))) (DX (Ce I z (Aa (Bm BX (pv 0) Af 07) (Aa (Bm BX (pv 0) Af 07) Ac))))))),?_};refine{_,rq,.ref t,2,2,rq,Iv j,_,rq,?_};rw[Df j,FP (by show (2:Int)<=2;decide) (by show (2:Int)<=2;decide)];exact Cm {_,rq,t,_,_,_,rq,rq,SqT.of j,rq,_,rq,t,_,_,_,rq,rq,SqT.of j,rq,d.kind,d.addr,rq,J,h1,h2,q}
theorem mV(C:Code K mg "is_spur" Ss Mp)(T:Ty K mg op oe kd wk)(O:⋯ "is_row" 1 Ea Hq)(Y:⋯ "is_spur_device" 4 FW Vp):⋯ "is_spur" 5 Mp XM:=by
 refine C.good mz (by nofun) λ_ _ _ _ _ H vs Q E z h=>?_
 obtain⟨u,ws,ds,rfl,j,G,h3,hk,aa⟩:=h;have lw:=Qcf G;refine{_,(Ag (Ba (Fy (Dc O z (Aa (pv 0) (Aa Af (Aa Af Ac)))) (DX (Av (Iz rfl) rfl T.all MF (Aa (Ck (N':=xh) rfl nofun (Fb (pv 0)) (~~~(0∩xh)) (λ_ _ _ _=>CK) (~~~(Cr Y z (Aa (pv 0) Ac)))) Ac)))))),?_};refine{_,rq,.ref u,0,3,rq,Iv j,_,rq,?_};rw[Df j,FP 00 00];refine Cm {_,rq,u,rq,{_,SqT.of j},λl2 I=>?_};refine Mx (r:=[]) I j 00 (λi x HH hx q R hR=>?_) (λH' e q=>?_)
 .obtain⟨d,J,N⟩:=Paired.Cp G hx;have:=hk d (QaH J);exact{_,rq,x,d,rq,N.tups (Ak.of q),this.1,this.2.1,this.2.2,hR _ (Same.refl _)}
 .refine⟨l2,List.replicate ws.length true,rq,SqL.of e,?_⟩;rw[Wb];exact aa _ q
theorem iK(C:Code K mg "is_place" Rg Ky)(T:Ty K mg op oe kd wk)(O:⋯ "is_row" 1 Ea Hq)(Gx:⋯ "is_within" 2 FQ KZ)(QC:⋯ "is_device" 3 HW Wv)(rF:⋯ "is_spur" 5 Mp XM):⋯ "is_place" 6 Ky Vq:=by
 have sc:=Jh;refine C.good Jh (by nofun) λ_ _ _ _ _ H vs Q E j h=>?_
 obtain⟨v,p,rfl,⟨t,u,Y,rfl,q,z,hd⟩,⟨G,I⟩,aa⟩:=h;have lw:=Qcf hd;have h3:=G.spur;refine⟨_,(Ae (Cw (Fx (Dz (Dc O j (Aa (pv 0) (Aa Af (Aa Af Ac)))))) (Ag (Ba DY)) BR)
 (Ae (Ir (pv 0) (CV rfl (Am (1∣Jh) (Am (2∣Jh) (Am (3∣Jh) Bt)))))
 (Ae (Cw (Bx Gq (pv 1) Bf (BK _)) (Ag (Ba (Fy (Dc Gx j (Aa (pv 2) (Aa Af (Aa Af Ac)))) (DX (Dc O j (Aa (pv 3) (Aa Af (Aa Af Ac)))))))) BR)
 (Ag (Ba (Fy (Ce QC j (Aa (pv 1) (Aa (pv 2) Ac))) (DX (Cr rF j (Aa (pv 3) Ac))))))))),?_⟩
 show let R0:TS:=_;let R1:TS:=_;let R2:TS:=Aq (Jz _ R1 _) R0;let R3:TS:=Aq _ R2;Aq _ R3 _ _ _;intro R0 R1 R2 R3;refine{_,rq,.ref t,3,3,rq,Iv q,_,rq,?_};rw[Df q,FP (by show (3:Int)<=3;decide) (by show (3:Int)<=3;decide)];refine Cz {_,rq,t,_,rq,SqT.of q,rq,_,_,rq,_,_,rq,_,_,rq,rq,?_};refine{_,rq,rq,_,rq,?_};rcases G.form with⟨e1,e2,e3⟩| J
 .rw[show decide (V.str p.kind=V.str "opener")=true by rw[e1];rfl];have ab:Y.length=0:=by rw[lw,e3];rfl
  refine Cm {_,rq,p.addr,0,0,rq,_,rq,?_};rw[show decide ((0:Int)<=p.addr/\p.addr<=0)=true by rw[e2];rfl];refine Cm {_,rq,.ref u,0,0,rq,Iv z,?_};rw[Df z,FP 00 00];exact aa _ (Same.refl _)
 .have ea:adP p=p.addr::p.spur.map (·.addr):=if_neg (NQ J);rw[ea] at I;rw[QbO (NQ J)];have b0:=I p.addr (QaW ..);refine Cz {_,rq,_,rq,p.kind,p.addr,rq,J,b0.1,b0.2,_,rq,?_};exact Cm {_,rq,u,Y,p.spur,rq,z,hd,h3,λd N=>{G.kinds d N,I d.addr (QaI _ (Qcq.mpr ⟨d,N,rq⟩))},aa}
theorem mY(C:Code K mg "is_loop" Sx Ms)(T:Ty K mg op oe kd wk)(CN:⋯ "is_row" 1 Ea Hq)(oK:⋯ "is_place" 6 Ky Vq):⋯ "is_loop" 7 Ms X5:=by
 refine C.good mD (by nofun) λ_ _ _ _ _ H vs Q E G h=>?_
 obtain⟨v,ps,rfl,⟨t,ws,rfl,j,I⟩,q,bd,ab⟩:=h;have lw:=Qcf I;have l1:=q.lo;have J:=q.hi;refine{_,(Ag (Ba (Fy (Dc CN G (Aa (pv 0) (Aa Af (Aa Af Ac)))) (DX (Av (Iz rfl) rfl T.all MF (Aa (Ck (N':=xh) rfl nofun (Fb (pv 0)) (~~~(0∩xh)) (λ_ _ _ _=>CK) (~~~(Cr oK G (Aa (pv 0) Ac)))) Ac)))))),?_};refine{_,rq,.ref t,1,12,rq,Iv j,_,rq,?_};rw[Df j,FP 00 00];refine Cm {_,rq,t,rq,{_,SqT.of j},λJ O=>?_};refine Mx (r:=[]) O j 00 (λi x HH hx z R hR=>?_) (λH' e z=>?_)
 .obtain⟨p,Y,aa⟩:=Paired.Cp I hx;have N:=QaH Y;exact{_,rq,x,p,rq,aa.tups (Ak.of z),{q.ok p N,λy hy=>bd y (QbG.mpr ⟨p,N,hy⟩)},λH2 s2=>hR _ s2}
 .refine⟨J,List.replicate ws.length true,rq,SqL.of e,?_⟩;rw[Wb];exact ab _ z
theorem dM(C:Code K mg "are_loops" Qo Jk)(T:Ty K mg op oe kd wk)(CN:⋯ "is_row" 1 Ea Hq)(rJ:⋯ "is_loop" 7 Ms X5):⋯ "are_loops" 8 Jk Vs:=by
 refine C.good cu (by nofun) λ_ _ _ _ _ H vs Q E z h=>?_
 obtain⟨t,ws,ja,rfl,j,G,ok,bd,l1,I,aa⟩:=h;have lw:=Qcf G;refine{_,(Ag (Ba (Fy (Dc CN z (Aa (pv 0) (Aa Af (Aa Af Ac)))) (DX (Av (Iz rfl) rfl T.all MF (Aa (Ck (N':=xh) rfl nofun (Fb (pv 0)) (~~~(0∩xh)) (λ_ _ _ _=>CK) (~~~(Cr rJ z (Aa (pv 0) Ac)))) Ac)))))),?_};refine{_,rq,.ref t,1,3,rq,Iv j,_,rq,?_};rw[Df j,FP 00 00];refine Cm {_,rq,t,rq,{_,SqT.of j},λI N=>?_};refine Mx (r:=[]) N j 00 (λi x HH hx q R hR=>?_) (λH' e q=>?_)
 .obtain⟨p,O,Y⟩:=Paired.Cp G hx;have J:=QaH O;exact{_,rq,x,p,rq,Y.tups (Ak.of q),ok p J,λy hy=>bd y (QbG.mpr ⟨p,J,hy⟩),λH2 s2=>hR _ s2}
 .refine⟨I,List.replicate ws.length true,rq,SqL.of e,?_⟩;rw[Wb];exact aa _ q
theorem mU(C:Code K mg "is_zone" Sq Ml)(T:Ty K mg op oe kd wk)(J:⋯ "is_row" 1 Ea Hq)(N:⋯ "is_name" 1 Mr X4)(O:⋯ "are_rising_within" 3 Em bG):⋯ "is_zone" 4 Ml XJ:=by
 refine C.good mq (by nofun) λ_ _ _ _ _ H vs Q E G h=>?_
 obtain⟨v,z,rfl,⟨t,u,rfl,q,Y⟩,j,aa⟩:=h;refine{_,(Ag (Ba (Fy (Dc J G (Aa (pv 0) (Aa Af (Aa Af Ac)))) (Fy (Cr N G (Aa (Bm BX (pv 0) Af 07) Ac)) (DX (C6 O G (@Aa _ _ _ _ _ (Bm BX (pv 0) Af 07) (0&&&(0&&&(0&&&(0&&&(@Ac _) Bk) Bk) Bk) Bk) CA))))))),?_};refine{_,rq,.ref t,2,2,rq,Iv q,_,rq,?_};rw[Df q,FP (by show (2:Int)<=2;decide) (by show (2:Int)<=2;decide)];refine Cm {_,rq,t,_,_,_,rq,rq,SqT.of q,rq,z.name,rq,j.nm.1.1,j.nm.1.2,j.nm.2,λH1 I=>{_,rq,Cm ?_}};have u1:=j.up.2.1;have u2:=j.up.2.2;exact{_,rq,t,_,_,_,rq,rq,SqT.of (I _ _ q),rq,u,z.adr,1,30,1,99,rq,I _ _ Y,j.up.1,by lia,by lia,by lia,j.bd,λH2 s2=>aa _ (I.trans s2)}
abbrev Kv:Stmt:=top 28
abbrev Gp:YF:=Gn
theorem Eo:Ay ["plan","seen","spot","kind","address"] Gp (Ai Kv):=by ac_rfl
abbrev K1:Stmt:=top 29
abbrev GR:YF:=Gn
theorem Gh:Ay ["plan","loop","number","spots"] GR (Ai K1):=by ac_rfl
abbrev Ip:Stmt:=top 30
abbrev Fe:YF:=Gn
theorem Dy:Ay ["plan","warners","name","addresses","address"] Fe (Ai Ip):=by ac_rfl
abbrev JF:Stmt:=top 31
abbrev FZ:YF:=Gn
theorem Ef:Ay ["plan","seen","name","addresses","address"] FZ (Ai JF):=by ac_rfl
abbrev Ye:Stmt:=top 32
abbrev QK:YF:=Gn
theorem uP:Ay Gn QK (Ai Ye):=by ac_rfl
abbrev Ql:Stmt:=top 33
abbrev HN:YF:=Gm
theorem bY:Ay Gm HN (Ai Ql):=by ac_rfl
def uM(j q:Sp):Sp:=λvs H Q E=>j vs H Q E\/q vs H Q E
theorem zZ{xs:YG}{a b:Int}(h:(xs.length:Int) < a\/b < (xs.length:Int)):Rh (some xs) a b=false:=by
 show (decide (a<=xs.length)&&decide ((xs.length:Int)<=b))=false;rcases h with h | h
 .rw[QbO 00];rfl
 .rw[QbO (show ¬(xs.length:Int)<=b by lia),Bool.and_false]
def Lz(H:Hp)(v:V):Prop:=Kn H v/\Rh (Ii H v) 3 3=false
theorem Lz.same{H H':Hp}{v:V}(h:Lz H v)(s:Same H H'):Lz H' v:={h.1.same s,by rw[lN s h.1];exact h.2}
inductive QH(vs:YG)(H:Hp)(Q:VK)(E:XK):Prop
 | mk (v) (_:vs=[v]) (_:Lz H v) (_:Q (.bl false) H):QH vs H Q E
inductive Io(vs:YG)(H:Hp)(Q:VK)(E:XK):Prop
 | mk (pl most ja jp) (_:vs=[.ref pl]) (_:Fq H pl most ja jp) (_:∀H',Same H H'->Q .non H'):Io vs H Q E
def IV{j : Type}(f:j->Key)(xs:List j):YM:=xs.map λx=>(f x,V.bl true)
theorem PJ{j : Type}{f:j->Key}{k:Key}:∀{xs:List j},(∀x∈xs,f x≠k)->Dj (IV f xs) k=none
 | [],_=>rfl
 | x::r,h=>by
  have:IV f (x::r)=(f x,V.bl true)::IV f r:=rfl;rw[this,Hf (p:=(f x,V.bl true)) (h x (QaW ..))];exact PJ λy q=>h y (QaI _ q)
theorem Mu{j : Type}(f:j->Key)(xs:List j):(IV f xs).length=xs.length:=QbJ ..
theorem PL{j : Type}{f:j->Key}{xs:List j}{x:j}(h:∀y∈xs,f y≠f x):putK (IV f xs) (f x) (.bl true)=IV f (xs++[x]):=by
 rw[K6 _ (PJ h)];unfold IV;rw[QbL];rfl
theorem Ul{z : Type}{l:List z}(h:l.Nodup){i:Nat}{x:z}(I:l[i]?=some x):∀y∈l.take i,y≠x:=λy J e=>by
 subst e;obtain⟨j,q⟩:=QaL J;rw[List.getElem?_take] at q;split at q
 .rename_i G;obtain⟨h1,e1⟩:=Qah.mp q;obtain⟨h2,e2⟩:=Qah.mp I;have:=Qak.mp h j i h1 h2 G;exact this (by rw[e1,e2])
 .cases q
theorem Jo{j q : Type}{f:j->q}{l:List j}(h:(l.map f).Nodup){i:Nat}{x:j}(z:l[i]?=some x):∀y∈l.take i,f y≠f x:=λy G e=>by
 have:=Ul h (i:=i) (x:=f x) (by rw[Qbn,z];rfl) (f y) (by rw[<-List.map_take];exact Qcq.mpr ⟨y,G,rq⟩);exact this e
theorem jE{lp:Int}{ps:List Place}:∀i,i<=ps.length->(stP lp ps i).1.map (λz=>(z.length:Int))=(pst (ps.take i)).1/\((stP lp ps i).2.length:Int)=(pst (ps.take i)).2
 | 0,_=>⟨rfl,rfl⟩
 | i+1,h=>by
  have hi:ps[i]?=some ps[i]:=Qam 00;obtain⟨h1,h2⟩:=jE (lp:=lp) (ps:=ps) i 00;rw[QcJ hi,cP];unfold ptS;by_cases k:V.str ps[i].kind=V.str "opener"
  .rw[Wn hi k,if_pos k];refine{?_,rq};rw[QbL,h1,<-h2];rfl
  .rw[Ua hi k,if_neg k];refine⟨h1,?_⟩;show (((stP lp ps i).2++(Ca lp ((1+i:Nat):Int) ps[i]).map Sd.spot).length:Int)=_;rw[QaV,QbJ,<-h2];have:(Ca lp ((1+i:Nat):Int) ps[i]).length=1+ps[i].spur.length:=by
    unfold Ca;rw[if_neg k,Qbz,M8];lia
   rw[this];push_cast;lia
theorem vD{lp:Int}{ps:List Place}:∀z∈(stP lp ps ps.length).1++[(stP lp ps ps.length).2],(z.length:Int)∈Ik ps:=λz j=>by
 obtain⟨h1,h2⟩:=jE (lp:=lp) (ps:=ps) ps.length (QcA _);rw[Qby] at h1 h2;unfold Ik;rw[<-h1,<-h2];rcases QbK.mp j with h | h
 .exact QaJ _ (Qcq.mpr ⟨z,h,rq⟩)
 .have:z=(stP lp ps ps.length).2:=by simpa using h
  rw[this];exact QaC _ (Qbc.mpr rfl)
theorem yg{j:List Zone}(h:∀z∈j,z.adr.length<=30):(j.flatMap (·.adr)).length<=30*j.length:=by
 induction j with
 | nil=>exact QcA _
 | cons a r q=>
  have h1:=q λz G=>h z (QaI _ G);have h2:=h a (QaW ..);rw[Qbr,QaV,Qbz];lia
theorem yd{a b:List Zone}(h:a.Sublist b):(a.flatMap (·.adr)).Sublist (b.flatMap (·.adr)):=by
 induction h with
 | slnil=>exact .slnil
 | cons x _ j=>rw[Qbr];exact List.Sublist.trans j (List.sublist_append_right _ _)
 | cons_cons x _ j=>rw[Qbr,Qbr];exact List.Sublist.append_left j _
theorem Zj(lp a:Int):∀(n:Nat) (ds:List Dev) (d:Dev),d∈ds->∃z∈DW lp a n ds,z.kind=d.kind/\z.addr=d.addr
 | _,[],d,h=>by cases h
 | n,x::r,d,h=>by
  rcases Qcg.mp h with rfl | h
  .exact{_,QaW ..,rq,rq}
  .obtain⟨z,h1,h2⟩:=Zj lp a (n+1) r d h;exact⟨z,QaI _ h1,h2⟩
theorem Jt{j : Type}{f:Nat->List j}{x:j}{i:Nat}(h:x∈f i):∀{n:Nat},i < n->x∈up f n
 | 0,q=>by lia
 | n+1,q=>by
  rw[DQ];by_cases e:i=n
  .subst e;exact QaC _ h
  .exact QaJ _ (Jt h 00)
theorem zK{ja:YU}(h:Ec ja){x:Int}(j:x∈Fz ja):∃z∈(up (pdL ja) ja.length).filter (λz=>Ft z.kind),z.addr=x:=by
 obtain⟨ps,G,j⟩:=QbG.mp j;obtain⟨p,I,j⟩:=QbG.mp j;obtain⟨d,hd,rfl⟩:=Qcq.mp j;obtain⟨hd,hw⟩:=QbR.mp hd;obtain⟨k,q⟩:=QaL G;obtain⟨i,hi⟩:=QaL I;have J:=(Qah.mp q).1;have N:=(Qah.mp hi).1;have O:¬V.str p.kind=V.str "opener":=by
  rcases ((h.ok ps G).ok p I).form with⟨e1,e2,e3⟩| q
  .have:d=⟨p.kind,p.addr⟩:=by
    unfold Ge at hd;rw[e3] at hd;simpa using hd
   rw[this] at hw;have hw:Ft p.kind=true:=hw;rw[e1] at hw;exact absurd hw (by trivial)
  .exact NQ q
 have Y:∃z∈Ca (k:Int) ((1+i:Nat):Int) p,z.kind=d.kind/\z.addr=d.addr:=by
  unfold Ca;rw[if_neg O];unfold Ge at hd;rcases Qcg.mp hd with rfl | hd
  .exact{_,QaW ..,rq,rq}
  .obtain⟨z,h1,h2⟩:=Zj (k:Int) ((1+i:Nat):Int) 1 p.spur d hd;exact⟨z,QaI _ h1,h2⟩
 obtain⟨z,hz,e1,e2⟩:=Y;refine⟨z,QbR.mpr {Jt (i:=k) ?_ J,by show Ft z.kind=true;rw[e1];exact hw},e2⟩;unfold pdL;rw[CG q];refine Jt (i:=i) ?_ N;unfold pd1;rw[CG hi];exact hz
abbrev xw:YF:=["name","addresses"]
theorem dJ(C:Code K mg "are_zones" Qn Jj)(T:Ty K mg op oe kd wk)(CN:⋯ "is_row" 1 Ea Hq)(rE:⋯ "is_zone" 4 Ml XJ):⋯ "are_zones" 5 Jj Vo:=by
 exists C,cj
 obtain⟨t,ws,Y,rfl,q,hd,ok,l8,nd,ae⟩:=h;have lw:=Qcf hd;refine⟨_,(Ae (Cw (PW.pt (Pu (Fx (Dz (Dc CN hr (Aa (pv 0) (Aa Af (Aa Af Ac)))))) (Oh (Fx (Dz (Av (Iz rfl) rfl T.all MF (Aa (Ck (N':=xh) rfl nofun (Fb (pv 0)) (~~~(0∩xh)) (λ_ _ _ _=>CK) (~~~(Cr rE hr (Aa (pv 0) Ac)))) Ac))))))) (Ag (Ba DY)) BR)
 (Ag (Ba (GQ Gq (Av tG rfl T.len CP (Aa (vB (N':=xw) rfl nofun (Fb (pv 0)) (~~~(Hz (K:=K) (n:=2) rfl rfl (Am (0∩xw) (Am (1∩xw) Bt)))) (λ_ _ _ _=>CK) (~~~(pv 0)) (λ_ _ _ _=>DY)) Ac)) (Av Bl rfl T.len CP (Aa (pv 0) Ac)) (BK _))))),?_⟩
 show let R0:TS:=_;Aq _ R0 _ _ _;intro R0;refine{_,rq,.ref t,0,8,rq,Iv q,_,rq,?_};rw[Df q,FP 00 00];refine Cz {_,rq,t,rq,{_,SqT.of q},λl2 aa=>?_};refine Mx (r:=[]) aa q 00 (λi x j hx G R hR=>?_) (λH' e G=>?_)
 .obtain⟨z,I,ab⟩:=Paired.Cp hd hx;exact{_,rq,x,z,rq,ab.tups (Ak.of G),ok z (QaH I),λH2 s2=>hR _ s2}
 refine⟨l2,List.replicate ws.length true,rq,SqL.of e,_,rq,?_⟩;rw[Wb];have O:=G _ _ q;refine Cz {_,rq,t,rq,{_,SqT.of O},λl hl=>?_};let J0:YN:=λi U j=>∃J N,U=[J,N]/\j l=some (.dK (IV (λz:Zone=>Sum.inr z.name) (Y.take i)))/\Same H' j;refine rZ (xs:=ws) J0 {_,_,rq,Ab,Ad hl _} (λi U j _ h=>?_) (λi x U j hx h=>?_) (fun U j h=>?_)
 .obtain⟨J,N,rfl,e1,e2⟩:=h;exact SqT.of (e2 _ _ O)
 .obtain⟨J,N,rfl,e1,e2⟩:=h;obtain⟨z,I,tz,uz,rfl,h1,h2⟩:=Paired.Cp hd hx;refine⟨tz,_,rq,SqT.of (e2 _ _ (G _ _ h1)),rq,_,_,rq,_,_,rq,rq,?_⟩;refine Cm {_,rq,_,Sum.inr z.name,e1,rq,Al (by rw[Mu,QbA];lia),_,_,rq,?_,e2.Bq Ah.upd hl};rw[Ab,PL (f:=λz:Zone=>Sum.inr z.name) (x:=z),QcJ I];exact λy hy e=>Jo nd I y hy (Sum.inr.inj e)
 .obtain⟨J,N,rfl,e1,e2⟩:=h;rw[lw,Qby] at e1;refine⟨l,_,rq,e1,_,rq,t,_,rq,.inr (SqT.of (e2 _ _ O)),rq,?_⟩;rw[Mu,lw];have:decide (V.int (Y.length:Int)=V.int (Y.length:Int))=true:=Qca rfl;rw[this];exact ae _ (G.trans e2)
theorem mW(C:Code K mg "is_plan" Sv Mq)(T:Ty K mg op oe kd wk)(CN:⋯ "is_row" 1 Ea Hq)(Gx:⋯ "is_within" 2 FQ KZ)(iZ:⋯ "are_loops" 8 Jk Vs)(iY:⋯ "are_zones" 5 Jj Vo)(Gs:⋯ "devices" 2 Gn Q8):⋯ "is_plan" 9 Mq (uM Nv QH):=by
 have sc:=Ko;refine C.good Ko (λvs H Q E h=>?_) (λ_ _ _ _ _ H vs Q E G h=>?_)
 .rcases h with⟨pl,O,ja,jp,rfl,_⟩|⟨v,rfl,_⟩ <;> rfl
 refine⟨_,(Ae (Cw (Fx (Dz (Dc CN G (Aa (pv 0) (Aa Af (Aa Af Ac)))))) (Ag (Ba DY)) BR)
 (Ae (Ir (pv 0) (CV rfl (Am (1∣Ko) (Am (2∣Ko) (Am (3∣Ko) Bt)))))
 (Ae (Cw (PW.pt (Pu (Fx (Dz (Dc Gx G (Aa (pv 1) (Aa Af (Aa Af Ac)))))) (Pu (Fx (Dz (Cr iZ G (Aa (pv 2) Ac)))) (Oh (Fx (Dz (Cr iY G (Aa (pv 3) Ac)))))))) (Ag (Ba DY)) BR)
 (Ag (Ba (Ri Py Py Af (Av Bl rfl T.len CP (Aa (Cr Gs G (Aa (pv 0) Ac)) Ac)) Af)))))),?_⟩
 show let R0:TS:=_;let R1:TS:=Aq _ R0;let R2:TS:=Aq _ R1;Aq _ R2 _ _ _;intro R0 R1 R2;rcases h with⟨pl,O,ja,jp,rfl,j,q⟩|⟨v,rfl,⟨k,r⟩,q⟩;rotate_left 1
 .refine{_,rq,v,3,3,rq,k,_,rq,?_};rw[r];exact Cm q
 obtain⟨Ls,zs,ws,aa,e1,e2,e3,e4,e5⟩:=j.at_;refine{_,rq,.ref pl,3,3,rq,Iv e1,_,rq,?_};rw[Df e1,FP (by show (3:Int)<=3;decide) (by show (3:Int)<=3;decide)];refine Cz {_,rq,pl,_,rq,SqT.of e1,rq,_,_,rq,_,_,rq,_,_,rq,rq,?_};refine{_,rq,O,1,30,rq,_,rq,?_};rw[Qca j.pok.mo];refine Cz {_,rq,Ls,ws,ja,rq,e2,e3,j.ok.ok,j.pok.bd,j.lo,j.ok.hi,λH1 I=>{_,rq,Cz ?_}};refine{_,rq,zs,aa,jp,rq,I _ _ e4,Paired.Ax e5 λ_ _ z=>z.tups (Ak.of I),λz J=>{j.pok.znm z J,j.pok.zup z J,λx N=>j.pok.bd x (uG j.ok (j.pok.zin z J x N))},j.pok.BT,j.pok.zdi,λH2 s2=>{_,rq,Cz ?_}};have Y:=I.trans s2;refine{_,rq,pl,ja,rq,(j.same Y).plan,j.ok,λl xs H3 hl N hp s3=>?_};have lx:=Qcf hp;have la:(up (pdL ja) ja.length).length=(CQ ja).length:=by rw[<-Ke ja,QbJ]
 have c1:=j.pok.cnt.1;have c2:=j.pok.cnt.2;refine⟨l,_,rq,.inl (SqL.of N),_,_,rq,rq,_,rq,?_⟩;have g1:decide ((1:Int)<=(xs.length:Int))=true:=Qca 00;rw[g1];refine Cm {_,_,rq,rq,?_};have g2:decide ((xs.length:Int)<=30)=true:=Qca 00;show Q (.bl (decide ((xs.length:Int)<=30))) H3;rw[g2];exact q _ (Y.trans s3)
theorem VN(C:Code K mg "address_twice" Kv Gp)(T:Ty K mg op oe kd wk)(Gs:⋯ "devices" 2 Gn Q8):⋯ "address_twice" 3 Gp Io:=by
 have sc:=Eo;refine C.good Eo (by nofun) λ_ _ _ _ _ H vs Q E Y h=>?_
 obtain⟨pl,ag,ja,jp,rfl,q,af⟩:=h;refine⟨_,(Ae (1∪Eo∪cY)
 (Ae (Cj QbN rfl (CZ (Cr Gs Y (Aa (pv 0) Ac))) (CV rfl (Am (2∣Eo) (Am (3∣Eo) (Am (4∣Eo) Bt))))
 (Ae (Cw (Oi (WL (CJ Y) (pv 4) (pv 1))) (Ag (Ba (Bd (Aa Bf (Aa (pv 4) Ac))))) BR)
 (Ag (Ny (CJ Y) (pv 1) (pv 4) DY rfl))))
 (Ag (Ba Oq)))),?_⟩
 show let R0:TS:=_;let R1:TS:=Aq (Jz _ R0 _) _;let R2:TS:=Aq (Dm _ _ R1) _;Aq _ R2 _ _ _;intro R0 R1 R2;refine λd hd=>?_;have s0:=Ad hd (.dK []);refine{_,rq,pl,ja,rq,(q.same s0).plan,q.ok,λl xs H1 hl G hp s1=>⟨l,rq,{_,SqL.of G},?_⟩};have lx:=Qcf hp;have la:(up (pdL ja) ja.length).length=(CQ ja).length:=by rw[<-Ke ja,QbJ]
 have c2:=q.pok.cnt.2;have nd:((up (pdL ja) ja.length).map (·.addr)).Nodup:=by rw[Ke];exact q.pok.nd
 generalize up (pdL ja) ja.length=ds at *;have O:H1 d=some (.dK []):=s1 _ _ Ab;have ab:l≠d:=λz=>by rw[z,O] at G;cases G
 have nt:∀j:Hp,(∃kvs,j d=some (.dK kvs))->∀zs,j d≠some (.tup zs):=λj ⟨kvs,e⟩ zs z=>by rw[e] at z;cases z
 let J1:YN:=λi U j=>∃I J N,U=[js pl,js d,I,J,N]/\j d=some (.dK (IV (λz:Sd=>Sum.inl z.addr) (ds.take i)))/\Ah d H1 j;refine Rq (xs:=xs) J1 {_,_,_,rq,O,Ah.refl d H1} (λi U j _ h=>?_) (λi x U j ae h=>?_) (fun U j h=>?_)
 .obtain⟨I,J,N,rfl,e1,e2⟩:=h;exact SqL.of (e2 _ _ G ab)
 .obtain⟨I,J,N,rfl,e1,e2⟩:=h;obtain⟨z,aa,tz,uz,rfl,h1,h2⟩:=Paired.Cp hp ae;have sT:=e2.tup (nt H1 ⟨_,O⟩);have fr:∀y∈ds.take i,(Sum.inl y.addr:Key)≠Sum.inl z.addr:=λy hy e=>Jo nd aa y hy (Sum.inl.inj e);refine⟨tz,_,rq,SqT.of (sT _ _ h1),rq,_,_,rq,_,_,rq,_,_,rq,rq,?_⟩;refine{_,rq,_,rq,d,_,rq,Dt.k (k:=Sum.inl z.addr) e1,_,rq,?_};rw[PJ fr];refine Cz {_,rq,_,rq,d,_,rq,M7.k (k:=Sum.inl z.addr) e1 (Al (by rw[Mu,QbA];lia)),_,_,_,rq,?_,e2.trans Ah.upd};rw[Ab,PL (f:=λz:Sd=>Sum.inl z.addr) (x:=z) fr,QcJ aa]
 .obtain⟨I,J,N,rfl,e1,e2⟩:=h;exact af _ ((s0.trans s1).Bq e2 hd)
theorem RJ(C:Code K mg "address_stranger" Ip Fe)(T:Ty K mg op oe kd wk)(Gs:⋯ "devices" 2 Gn Q8):⋯ "address_stranger" 3 Fe Io:=by
 have sc:=Dy;exists C,Dy
 obtain⟨pl,ai,ja,jp,rfl,I,ah⟩:=h;refine⟨_,(Ae (vf (i:=1) Dy.nd rfl (Or.inl rfl) (N':=xf) rfl nofun (CZ (Cr Gs hr (Aa (pv 0) Ac))) (~~~(Hz (K:=K) (n:=3) rfl rfl (Am (0∩xf) (Am (1∩xf) (Am (2∩xf) Bt))))) (~~~(GP (Bx (WR (K:=K) rfl) (pv 1) (SQ rfl T.WARNING_KINDS) (by with_unfolding_all rfl)))) (~~~(pv 2)) (λ_ _ _ _=>DY))
 (Ae (Cj QbN rfl (Fb (Bm BX (pv 0) Af 07)) (CV rfl (Am (2∣Dy) (Am (3∣Dy) Bt)))
 (Ag (Cj QbN rfl (Fb (pv 3)) (4∣Dy)
 (Ag (Cw (Oi (S5 (CJ hr) (pv 4) (pv 1))) (Ag (Ba (Bd (Aa Bf (Aa (pv 2) (Aa (pv 4) Ac)))))) BR)))))
 (Ag (Ba Oq)))),?_⟩
 show let R0:TS:=_;let R1:TS:=Jz _ R0 _;let R2:TS:=Dm _ _ R1;let R3:TS:=Aq (Dm _ _ R2) _;Aq _ R3 _ _ _;intro R0 R1 R2 R3;refine{_,rq,pl,ja,rq,I.plan,I.ok,λl xs H1 hl O hp s1=>⟨l,rq,{_,SqL.of O},λd hd=>?_⟩};have lx:=Qcf hp;have la:(up (pdL ja) ja.length).length=(CQ ja).length:=by rw[<-Ke ja,QbJ]
 have c2:=I.pok.cnt.2;have nd:((up (pdL ja) ja.length).map (·.addr)).Nodup:=by rw[Ke];exact I.pok.nd
 have hw:∀x∈Fz ja,∃z∈(up (pdL ja) ja.length).filter (λz=>Ft z.kind),z.addr=x:=λx O=>zK I.ok O;generalize up (pdL ja) ja.length=ds at *;have al:l≠d:=Aw O hd;let J2:YN:=λi U J=>∃q G j,U=[q,G,j]/\J d=some (.dK (IV (λz:Sd=>Sum.inl z.addr) ((ds.take i).filter λz=>Ft z.kind)))/\Same H1 J;refine je (xs:=xs) J2 {_,_,_,rq,Ab,Ad hd _} (λi U J _ h=>?_) (λi x U J ab h=>?_) (fun U J h=>?_)
 .obtain⟨q,G,j,rfl,e1,e2⟩:=h;exact SqL.of (e2 _ _ O)
 .obtain⟨q,G,j,rfl,e1,e2⟩:=h;obtain⟨z,aa,tz,uz,rfl,h1,h2⟩:=Paired.Cp hp ab;have fr:∀y∈(ds.take i).filter (λz=>Ft z.kind),(Sum.inl y.addr:Key)≠Sum.inl z.addr:=λy hy e=>Jo nd aa y (QbR.mp hy).1 (Sum.inl.inj e);have et:(ds.take (i+1)).filter (λz=>Ft z.kind)=(ds.take i).filter (λz=>Ft z.kind)++[z].filter (λz=>Ft z.kind):=by rw[QcJ aa,Qbg]
  refine⟨tz,_,rq,SqT.of (e2 _ _ h1),rq,_,_,rq,_,_,rq,_,_,rq,rq,?_⟩;refine{_,rq,wk,_,rq,.inr (T.wkT J),rq,rq,_,rq,?_};rw[if_neg QaX];refine G4 (λhc=>?_) (λhc=>?_)
  .refine{_,rq,_,Sum.inl z.addr,e1,rq,Al ?_,_,_,_,rq,?_,e2.Bq Ah.upd hd}
   .rw[Mu];have:=QaF (λz:Sd=>Ft z.kind) (ds.take i);rw[QbA] at this;lia
   .rw[Ab,PL (f:=λz:Sd=>Sum.inl z.addr) (x:=z) fr,et,show [z].filter (λz=>Ft z.kind)=[z] from Qau (p:=λz:Sd=>Ft z.kind) hc]
  .refine{_,_,_,rq,?_,e2};rw[et,show [z].filter (λz=>Ft z.kind)=[] from Qat (p:=λz:Sd=>Ft z.kind) (by show ¬Ft z.kind=true;rw[show Ft z.kind=false from hc];decide),QbM]
   exact e1
 obtain⟨q,G,j,rfl,e1,e2⟩:=h;rw[lx,Qby] at e1;have N:=s1.trans e2;obtain⟨Ls,zs,ws,af,f1,f2,f3,f4,f5⟩:=I.at_;refine{_,rq,pl,_,_,_,rq,rq,SqT.of (N _ _ f1),rq,zs,rq,{_,SqT.of (N _ _ f4)},?_};let J3:YN:=λi U Y=>∃q G j,U=[js pl,js d,q,G,j]/\Y=J;refine Kd (xs:=af) J3 ⟨_,_,_,rq,rq⟩ (λi U Y _ h=>?_) (λi x U Y ab h=>?_) (fun U Y h=>?_)
 .obtain⟨q,G,j,rfl,rfl⟩:=h;exact SqT.of (N _ _ f4)
 .obtain⟨q,G,j,rfl,rfl⟩:=h;obtain⟨z,aa,tz,uz,rfl,h1,h2⟩:=Paired.Cp f5 ab;refine⟨tz,_,rq,SqT.of (N _ _ h1),rq,_,_,rq,_,_,rq,rq,?_⟩;refine{_,rq,uz,rq,{_,SqT.of (N _ _ h2)},?_};let J4:YN:=λi U HY=>∃j,U=[js pl,js d,some (.str z.name),js uz,j]/\HY=Y;refine Kd (xs:=z.adr.map V.int) J4 ⟨_,rq,rq⟩ (λi U HY _ h=>?_) (λi x U HY ae h=>?_) (fun U HY h=>?_)
  .obtain⟨j,rfl,rfl⟩:=h;exact SqT.of (N _ _ h2)
  .obtain⟨j,rfl,rfl⟩:=h;rw[Qbn] at ae;obtain⟨n1,ag,rfl⟩:=QaB.mp ae;obtain⟨y,hy,ey⟩:=hw n1 (I.pok.zin z (QaH aa) n1 (QaH ag));have hs:(Dj (IV (λz:Sd=>Sum.inl z.addr) (ds.filter λz=>Ft z.kind)) (Sum.inl n1)).isSome=true:=by
    rw[<-N6,List.any_eq_true];exact{_,Qcq.mpr ⟨y,hy,rq⟩,Qca (by show (Sum.inl y.addr:Key)=_;rw[ey])}
   refine{_,rq,_,rq,d,_,rq,Dt.k (k:=Sum.inl n1) e1,_,rq,?_};rw[hs];exact Cz ⟨_,rq,rq⟩
  .obtain⟨j,rfl,rfl⟩:=h;exact⟨_,_,_,rq,rq⟩
 .obtain⟨q,G,j,rfl,rfl⟩:=h;exact ah _ N
theorem U9(C:Code K mg "address_shared" JF FZ)(T:Ty K mg op oe kd wk):⋯ "address_shared" 1 FZ Io:=by
 have sc:=Ef;exists C,Ef
 obtain⟨pl,ao,ja,j,rfl,G,an⟩:=h;refine⟨_,(Ae (1∪Ef∪cY)
 (Ae (Cj QbN rfl (Fb (Bm BX (pv 0) Af 07)) (CV rfl (Am (2∣Ef) (Am (3∣Ef) Bt)))
 (Ag (Cj QbN rfl (Fb (pv 3)) (4∣Ef)
 (Ae (Cw (Oi (WL (CJ hr) (pv 4) (pv 1))) (Ag (Ba (Bd (Aa Bf (Aa (pv 2) (Aa (pv 4) Ac)))))) BR)
 (Ag (Ny (CJ hr) (pv 1) (pv 4) DY rfl))))))
 (Ag (Ba Oq)))),?_⟩
 show let R0:TS:=_;let R1:TS:=Aq (Jz _ R0 _) _;let R2:TS:=Dm _ _ R1;let R3:TS:=Aq (Dm _ _ R2) _;Aq _ R3 _ _ _;intro R0 R1 R2 R3;refine λd hd=>?_;have s0:=Ad hd (.dK []);obtain⟨Ls,zs,ws,ai,f1,f2,f3,f4,f5⟩:=G.at_;have nd:=G.pok.znd;have zl:=Qcf f5;have c8:=G.pok.BT;have NM:∀i,((j.take i).flatMap (·.adr)).length<=30*(j.take i).length:=λi=>yg λz hz=>(G.pok.zup z (List.mem_of_mem_take hz)).2.2;refine{_,rq,pl,_,_,_,rq,rq,SqT.of (s0 _ _ f1),rq,zs,rq,{_,SqT.of (s0 _ _ f4)},?_};let J5:YN:=λi U I=>∃O Y q,U=[js pl,js d,O,Y,q]/\I d=some (.dK (IV Sum.inl ((j.take i).flatMap (·.adr))))/\Same H I;refine Kd (xs:=ai) J5 ⟨_,_,_,rq,Ab,s0⟩ (λi U I _ h=>?_) (λi x U I al h=>?_) (fun U I h=>?_)
 .obtain⟨O,Y,q,rfl,e1,e2⟩:=h;exact SqT.of (e2 _ _ f4)
 .obtain⟨O,Y,q,rfl,e1,e2⟩:=h;obtain⟨z,ae,tz,uz,rfl,h1,h2⟩:=Paired.Cp f5 al;have hm:=QaH ae;refine⟨tz,_,rq,SqT.of (e2 _ _ h1),rq,_,_,rq,_,_,rq,rq,?_⟩;refine{_,rq,uz,rq,{_,SqT.of (e2 _ _ h2)},?_};have S0:=(G.pok.zup z hm).2.2;have ah:(z.adr.map V.int).length=z.adr.length:=QbJ ..;have af:(j.take (i+1)).flatMap (·.adr)=(j.take i).flatMap (·.adr)++z.adr:=by rw[QcJ ae,QaO];simp
  have am:((j.take i).flatMap (·.adr)++z.adr).Nodup:=by
   rw[<-af];exact (yd (List.take_sublist (i+1) j)).nodup nd
  have hc:=NM i;have ap:(j.take i).length<=8:=by rw[QbA];lia
  let J6:YN:=λaa U J=>∃q,U=[js pl,js d,some (.str z.name),js uz,q]/\J d=some (.dK (IV Sum.inl ((j.take i).flatMap (·.adr)++z.adr.take aa)))/\Same H J;refine Kd (xs:=z.adr.map V.int) J6 {_,rq,by rw[List.take_zero,QbM];exact e1,e2} (λaa U J _ h=>?_) (λaa x U J ag h=>?_) (fun U J h=>?_)
  .obtain⟨q,rfl,_,e⟩:=h;exact SqT.of (e _ _ h2)
  .obtain⟨q,rfl,N,g2⟩:=h;rw[Qbn] at ag;obtain⟨n1,ab,rfl⟩:=QaB.mp ag;have fr:∀y∈(j.take i).flatMap (·.adr)++z.adr.take aa,(Sum.inl y:Key)≠Sum.inl n1:=λy hy e=>by
    have e:=Sum.inl.inj e;subst e;obtain⟨_,n2,n3⟩:=Qbu.mp am;rcases QbK.mp hy with h | h
    .exact n3 y h y (QaH ab) rfl
    .exact Ul n2 ab y h rfl
   refine{_,rq,_,rq,d,_,rq,Dt.k (k:=Sum.inl n1) N,_,rq,?_};rw[PJ fr];refine Cz {_,rq,_,rq,d,_,rq,M7.k (k:=Sum.inl n1) N (Al ?_),_,rq,?_,g2.Bq Ah.upd hd}
   .rw[Mu,QaV,QbA];lia
   .rw[Ab,PL (f:=Sum.inl) (x:=n1) fr,QcJ ab,Qbm]
  .obtain⟨q,rfl,N,g2⟩:=h;rw[ah,Qby,<-af] at N;exact⟨_,_,_,rq,N,g2⟩
 .obtain⟨O,Y,q,rfl,e1,e2⟩:=h;exact an _ e2
theorem WY(C:Code K mg "part_crowded" K1 GR)(T:Ty K mg op oe kd wk)(Bi:⋯ "parts" 2 QL XS):⋯ "part_crowded" 3 GR Io:=by
 have sc:=Gh;exists C,Gh
 obtain⟨pl,J,ja,jp,rfl,G,ar⟩:=h;refine⟨_,(Ae (Cj QbN rfl (Dp rfl T.range (Aa (Av Bl rfl T.len CP (Aa (Bm BX (pv 0) Af 07) Ac)) Ac)) (1∣Gh)
 (Ag (Cj QbN rfl (qj rfl T.enumerate (Ce Bi hr (Aa (pv 0) (Aa (pv 1) Ac)))) (CV rfl (Am (2∣Gh) (Am (3∣Gh) Bt)))
 (Ag (Cw (Bx Uk (Av Bl rfl T.len CP (Aa (pv 3) Ac)) (Bm BX (pv 0) Af 07) (BK _)) (Ag (Ba (Bd (Aa Bf (Aa (pv 1) (Aa (pv 2) Ac)))))) BR)))))
 (Ag (Ba Oq))),?_⟩
 show let R0:TS:=_;let R1:TS:=Jz _ R0 _;let R2:TS:=Dm _ _ R1;Aq (Dm _ _ R2) _ _ _ _;intro R0 R1 R2;obtain⟨Ls,zs,N,av,O,f2,f3,f4,f5⟩:=G.at_;have lw:=Qcf f3;have l3:=G.ok.hi;refine{_,rq,pl,_,_,_,rq,rq,SqT.of O,rq,Ls,_,rq,.inr (SqT.of f2),_,rq,by lia,by lia,?_};rw[Qbo];refine Fg (λi U Y=>∃u1 j q,U=[js pl,u1,j,q]/\Same H Y) {_,_,_,rq,Same.refl H} (λi U Y hi h=>?_) (fun U Y h=>?_)
 .obtain⟨u1,j,q,rfl,e1⟩:=h;have ab:N[i]?=some N[i]:=Qam hi;obtain⟨ps,ag,t,ah,ev,ht,ai⟩:=Paired.Cp f3 ab;have hm:=QaH ag;have ae:=G.ok.ok ps hm;refine{_,rq,_,rq,pl,Ls,t,_,_,N,ah,i,ps,?_,e1 _ _ O,e1 _ _ f2,by rw[ab,ev],e1 _ _ ht,Paired.Ax ai λ_ _ as=>as.tups (Ak.of e1),ae.ok,ae.hi,λl xs H1 hl hx hp aw s1=>⟨l,rq,{_,SqL.of hx},?_⟩}
  .show [V.ref pl,.int (0+(i:Int))]++[]=_;rw[Qcz];rfl
  let J7:YN:=λaa U I=>∃j q,U=[js pl,some (.int (0+(i:Int))),j,q]/\Same H1 I;refine rM (xs:=xs) (lo:=0) J7 {_,_,rq,Same.refl H1} (λaa U I _ h=>?_) (λaa x p U I al h am=>?_) (fun U I h=>?_)
  .obtain⟨j,q,rfl,z⟩:=h;exact SqL.of (z _ _ hx)
  .obtain⟨j,q,rfl,z⟩:=h;obtain⟨af,an,qq,ys,rfl,ao,ap⟩:=Paired.Cp hp al;have ly:=Qcf ap;have s2:=Ad am (.tup [.int ((0+aa:Nat):Int),.ref qq]);have g2:=z.trans s2;have au:(af.length:Int)<=J:=G.pok.few ps hm _ (vD (lp:=i) af (QaH an));refine⟨p,_,rq,SqT.of Ab,rq,_,_,rq,_,_,rq,rq,?_⟩;refine{_,rq,qq,_,rq,.inl (SqL.of (g2 _ _ ao)),_,rq,pl,_,_,_,rq,rq,SqT.of (g2 _ _ (s1 _ _ (e1 _ _ O))),rq,_,_,rq,rq,_,rq,?_};have hg:decide ((ys.length:Int) > J)=false:=QbO 00;rw[show decide (J < (ys.length:Int))=false from hg]
   exact Cz ⟨_,_,rq,g2⟩
  .obtain⟨j,q,rfl,z⟩:=h;exact{_,_,_,rq,e1.trans (s1.trans z)}
 .obtain⟨u1,j,q,rfl,e1⟩:=h;exact ar _ e1
theorem vJ(C:Code K mg "wrong" Ye QK)(T:Ty K mg op oe kd wk)(N:⋯ "address_twice" 3 Gp Io)(O:⋯ "part_crowded" 3 GR Io)(Y:⋯ "address_stranger" 3 Fe Io)(V5:⋯ "address_shared" 1 FZ Io):⋯ "wrong" 4 QK Io:=by
 refine C.good uP (by nofun) λ_ _ _ _ _ H vs Q E q h=>?_
 obtain⟨pl,j,ja,z,rfl,G,aa⟩:=h;refine{_,(Ag (Ba (cW (Cr N q (Aa (pv 0) Ac)) (cW (Cr O q (Aa (pv 0) Ac)) (cW (Cr Y q (Aa (pv 0) Ac)) (DX (Cr V5 q (Aa (pv 0) Ac)))))))),?_};exact{_,rq,pl,j,ja,z,rq,G,λH1 I=>⟨rq,_,rq,pl,j,ja,z,rq,G.same I,λH2 J=>⟨rq,_,rq,pl,j,ja,z,rq,(G.same I).same J,λH3 s3=>⟨rq,_,rq,pl,j,ja,z,rq,((G.same I).same J).same s3,λH4 s4=>aa _ (I.trans (J.trans (s3.trans s4)))⟩⟩⟩}
theorem dG(C:Code K mg "is_let_by" Ql HN)(T:Ty K mg op oe kd wk)(N:⋯ "is_plan" 9 Mq (uM Nv QH))(O:⋯ "wrong" 4 QK Io):⋯ "is_let_by" 10 HN (uM Nv QH):=by
 refine C.good bY (λY H Q E h=>?_) (λ_ _ _ _ _ H Y Q E G h=>?_)
 .rcases h with⟨pl,j,ja,z,rfl,_⟩|⟨v,rfl,_⟩ <;> rfl
 refine{_,(Ag (Ba (Fy (Cr N G (Aa (pv 0) Ac)) (DX (GQ C9 (Cr O G (Aa (pv 0) Ac)) Oq (BK _)))))),?_};rcases h with⟨pl,j,ja,z,rfl,I,q⟩|⟨v,rfl,n,q⟩
 .exact{_,rq,.inl ⟨pl,j,ja,z,rq,I,λH1 J=>{_,rq,Cm {_,rq,pl,j,ja,z,rq,I.same J,λH2 s2=>⟨rq,q _ (J.trans s2)⟩}}⟩}
 .exact{_,rq,.inr ⟨v,rq,n,_,rq,Cz q⟩}
abbrev Vz:Stmt:=top 67
abbrev Ox:YF:=["_law_e"]
theorem LR:Ay ["_law_e","_law_kinds","_law_names_here"] Ox (Ai Vz):=by ac_rfl
structure Er(K:YD)(mg:YB)(hc c0 c1 c2 c3 c4 c5 c6 c7 c8 c9 c10 c11 c12:Addr):Prop where
 ve:mg "ValueError"=none
 iM:mg "HouseError"=some (.ref hc)
 iz:XCl K hc
 jV:mg "NoPlan"=some (.ref c0)
 AT:mg "NoText"=some (.ref c1)
 m9:mg "NoStretch"=some (.ref c2)
 AU:mg "NoSpot"=some (.ref c3)
 qH:mg "NoOpener"=some (.ref c4)
 nj:mg "NoAddress"=some (.ref c5)
 wj:mg "NoRules"=some (.ref c6)
 AW:mg "NoHand"=some (.ref c7)
 wu:mg "NoPanel"=some (.ref c8)
 AV:mg "NoLink"=some (.ref c9)
 DH:mg "NoLog"=some (.ref c10)
 AX:mg "NoDeed"=some (.ref c11)
 DF:mg "NoRow"=some (.ref c12)
structure Knd(K:YD)(hc C:Addr)(cs:List Addr)(j:Nat):Prop where
 xc:XCl K C
 sub:subIn K (.ref C) (.ref hc)=some true
 kit:∀i d,cs[i]?=some d->kitOne K (.ref C) (.ref d)=some (decide (i=j))
 kv:kitOne K (.ref C) (.type "ValueError")=some true
def nM(j:Nat):Str:=(["plan","text","stretch","spot","opener","address","rules","hand","panel","link","log","deed","row"]:YF).getD j ""
def bsl(j:Nat):List Bool:=[decide (0=j),decide (1=j),decide (2=j),decide (3=j),decide (4=j),decide (5=j),decide (6=j),decide (7=j),decide (8=j),decide (9=j),decide (10=j),decide (11=j),decide (12=j)]
theorem tQ:∀j,j < 13->(bsl j).countP id=1:=by decide
theorem Ff:∀j,j < 13->(bsl j)[j]?=some true:=by decide
theorem Fc:∀j,j < 13->∀m,m < j->(bsl j)[m]?=some false:=by decide
theorem wordAt:∀j,j < 13->([.str "plan",.str "text",.str "stretch",.str "spot",.str "opener",.str "address",.str "rules",.str "hand",.str "panel",.str "link",.str "log",.str "deed",.str "row"]:YG)[j]?=some (.str (nM j))
 | 0,_=>rfl
 | 1,_=>rfl
 | 2,_=>rfl
 | 3,_=>rfl
 | 4,_=>rfl
 | 5,_=>rfl
 | 6,_=>rfl
 | 7,_=>rfl
 | 8,_=>rfl
 | 9,_=>rfl
 | 10,_=>rfl
 | 11,_=>rfl
 | 12,_=>rfl
 | n+13,h=>absurd h 00
inductive bL(K:YD)(hc:Addr)(cs:List Addr)(vs:YG)(H:Hp)(Q:VK)(E:XK):Prop
 | mk (e C:Addr) (j:Nat) (_:vs=[.ref e]) (_:H e=some (xo e C)) (_:Knd K hc C cs j) (_:j < 13) (_:∀H',Same H H'->Q (.str (nM j)) H'):bL K hc cs vs H Q E
theorem AL(C:Code K mg "_law_kind" Vz Ox)(T:Nm mg)(q:Er K mg hc c0 c1 c2 c3 c4 c5 c6 c7 c8 c9 c10 c11 c12):aO P w K mg base "_law_kind" 1 Ox (bL K hc [c0,c1,c2,c3,c4,c5,c6,c7,c8,c9,c10,c11,c12]):=by
 refine C.G2 LR (λvs H Q E h=>?_) (λf al A outer s H vs Q hr h=>?_)
 .obtain⟨e,C,j,rfl,_⟩:=h;rfl
 obtain⟨e,C,j,rfl,z,k,O,ai⟩:=h;refine⟨_,(@Ae _ _ _ _ _ (@Az _ _ 1 _ _ _ _ LR.nd rfl (Or.inl rfl) (BW (Aa (Av Et rfl T.isinstance Bv (Aa (pv 0) (Aa (Fj (v:=.ref _) rfl q.jV rfl) Ac))) (Aa (Av Et rfl T.isinstance Bv (Aa (pv 0) (Aa (Fj (v:=.ref _) rfl q.AT rfl) Ac))) (Aa (Av Et rfl T.isinstance Bv (Aa (pv 0) (Aa (Fj (v:=.ref _) rfl q.m9 rfl) Ac))) (Aa (Av Et rfl T.isinstance Bv (Aa (pv 0) (Aa (Fj (v:=.ref _) rfl q.AU rfl) Ac))) Ac))))) (by rfl) (by first | exact .inl rfl | exact .inr rfl))
 (@Ae _ _ _ _ _ (@Az _ _ 1 _ _ _ _ LR.nd rfl (Or.inl rfl) (@Bh _ _ _ _ _ _ _ _ qw (pv 1) (BW (Aa (Av Et rfl T.isinstance Bv (Aa (pv 0) (Aa (Fj (v:=.ref _) rfl q.qH rfl) Ac))) (Aa (Av Et rfl T.isinstance Bv (Aa (pv 0) (Aa (Fj (v:=.ref _) rfl q.nj rfl) Ac))) (Aa (Av Et rfl T.isinstance Bv (Aa (pv 0) (Aa (Fj (v:=.ref _) rfl q.wj rfl) Ac))) (Aa (Av Et rfl T.isinstance Bv (Aa (pv 0) (Aa (Fj (v:=.ref _) rfl q.AW rfl) Ac))) Ac)))))) (by rfl) (by first | exact .inl rfl | exact .inr rfl))
 (@Ae _ _ _ _ _ (@Az _ _ 1 _ _ _ _ LR.nd rfl (Or.inl rfl) (@Bh _ _ _ _ _ _ _ _ qw (pv 1) (BW (Aa (Av Et rfl T.isinstance Bv (Aa (pv 0) (Aa (Fj (v:=.ref _) rfl q.wu rfl) Ac))) (Aa (Av Et rfl T.isinstance Bv (Aa (pv 0) (Aa (Fj (v:=.ref _) rfl q.AV rfl) Ac))) (Aa (Av Et rfl T.isinstance Bv (Aa (pv 0) (Aa (Fj (v:=.ref _) rfl q.DH rfl) Ac))) (Aa (Av Et rfl T.isinstance Bv (Aa (pv 0) (Aa (Fj (v:=.ref _) rfl q.AX rfl) Ac))) Ac)))))) (by rfl) (by first | exact .inl rfl | exact .inr rfl))
 (@Ae _ _ _ _ _ (Bo (Cq Qar Qan Qao BP (pv 1) (Aa (Av Et rfl T.isinstance Bv (Aa (pv 0) (Aa (Fj (v:=.ref _) rfl q.DF rfl) Ac))) Ac)))
 (@Ae _ _ _ _ _ (@Az _ _ 2 _ _ _ _ LR.nd rfl (Or.inl rfl) (@BW _ _ _ _ (@Aa _ _ _ _ _ (@Bf _ _ _ _) (@Aa _ _ _ _ _ (@Bf _ _ _ _) (@Aa _ _ _ _ _ (@Bf _ _ _ _) (@Aa _ _ _ _ _ (@Bf _ _ _ _) (@Aa _ _ _ _ _ (@Bf _ _ _ _) (@Aa _ _ _ _ _ (@Bf _ _ _ _) (@Aa _ _ _ _ _ (@Bf _ _ _ _) (@Aa _ _ _ _ _ (@Bf _ _ _ _) (@Aa _ _ _ _ _ (@Bf _ _ _ _) (@Aa _ _ _ _ _ (@Bf _ _ _ _) (@Aa _ _ _ _ _ (@Bf _ _ _ _) (@Aa _ _ _ _ _ (@Bf _ _ _ _) (@Ac _) Bk) Bk) Bk) Bk) Bk) Bk) Bk) Bk) Bk) Bk) Bk) Bk)) (by rfl) (by first | exact .inl rfl | exact .inr rfl))
 (@Ae _ _ _ _ _ (Bo (Cq Qar Qan Qao BP (pv 2) (Aa Bf Ac)))
 (@Ae _ _ _ _ _ (Cw (PW.pt (Pu (Fx (Dz (Av tH rfl T.isinstance Bv (Aa (pv 0) (Aa (QJ (v:=.ty "ValueError") rfl q.ve PyProof.Rows.Boot.«ValueError» rfl) Ac))))) (Oh (Bx WQ (Cq Qar PySem.F.slot_list_count PySem.F.type_list_count qJ (pv 1) (Aa DY Ac)) Af (BK _))))) (@Ag _ _ _ (@Ba _ _ _ _ Bf)) BR)
 (@Ag _ _ _ (@Ba _ _ _ _ (@Bm _ _ _ _ _ _ _ Ds (pv 2) (Cq Qar PySem.F.slot_list_index PySem.F.type_list_index qI (pv 1) (Aa DY Ac)) 07)))))))))),?_⟩
 show let R0:TS:=_;let R1:TS:=Aq _ R0;let R2:TS:=Aq _ R1;let R3:TS:=Aq _ R2;let R4:TS:=Aq _ R3;let R5:TS:=Aq _ R4;let R6:TS:=Aq _ R5;Aq _ R6 _ _ _;intro R0 R1 R2 R3 R4 R5 R6;refine⟨_,rq,G5 z k.xc (k.kit 0 _ rfl) ⟨_,rq,G5 z k.xc (k.kit 1 _ rfl) ⟨_,rq,G5 z k.xc (k.kit 2 _ rfl) ⟨_,rq,G5 z k.xc (k.kit 3 _ rfl) ⟨km,λY af=>?_⟩⟩⟩⟩⟩;have s1:=Ad af (.lst [V.bl (decide (0=j)),.bl (decide (1=j)),.bl (decide (2=j)),.bl (decide (3=j))]);have e1:upd H Y (.lst [V.bl (decide (0=j)),.bl (decide (1=j)),.bl (decide (2=j)),.bl (decide (3=j))]) Y=some (.lst [V.bl (decide (0=j)),.bl (decide (1=j)),.bl (decide (2=j)),.bl (decide (3=j))]):=Ab;generalize upd H Y (.lst [V.bl (decide (0=j)),.bl (decide (1=j)),.bl (decide (2=j)),.bl (decide (3=j))])=H1 at s1 e1 ⊢;have I:=s1 _ _ z;refine⟨_,rq,⟨_,rq,G5 I k.xc (k.kit 4 _ rfl) ⟨_,rq,G5 I k.xc (k.kit 5 _ rfl) ⟨_,rq,G5 I k.xc (k.kit 6 _ rfl) ⟨_,rq,G5 I k.xc (k.kit 7 _ rfl) ⟨km,λla aa=>⟨Y,la,_,_,rq,rq,Ad aa _ _ _ e1,Ab,Ar (by show 8<=1000;decide),λlb ag=>?_⟩⟩⟩⟩⟩⟩⟩;have sa:=Ad aa (.lst [V.bl (decide (4=j)),.bl (decide (5=j)),.bl (decide (6=j)),.bl (decide (7=j))]);have sb:=Ad ag (.lst (03++02));have e2:upd (upd H1 la (.lst [V.bl (decide (4=j)),.bl (decide (5=j)),.bl (decide (6=j)),.bl (decide (7=j))])) lb (.lst (03++02)) lb=some (.lst (03++02)):=Ab;have s2:=s1.trans (sa.trans sb);generalize upd (upd H1 la (.lst [V.bl (decide (4=j)),.bl (decide (5=j)),.bl (decide (6=j)),.bl (decide (7=j))])) lb (.lst (03++02))=H2 at sb e2 s2 ⊢;have J:=s2 _ _ z;refine⟨_,rq,⟨_,rq,G5 J k.xc (k.kit 8 _ rfl) ⟨_,rq,G5 J k.xc (k.kit 9 _ rfl) ⟨_,rq,G5 J k.xc (k.kit 10 _ rfl) ⟨_,rq,G5 J k.xc (k.kit 11 _ rfl) ⟨km,λlc ab=>⟨lb,lc,_,_,rq,rq,Ad ab _ _ _ e2,Ab,Ar (by show 12<=1000;decide),λld ae=>?_⟩⟩⟩⟩⟩⟩⟩;have sc:=Ad ab (.lst [V.bl (decide (8=j)),.bl (decide (9=j)),.bl (decide (10=j)),.bl (decide (11=j))]);have sd:=Ad ae (.lst (03++02++'g'));have e3:upd (upd H2 lc (.lst [V.bl (decide (8=j)),.bl (decide (9=j)),.bl (decide (10=j)),.bl (decide (11=j))])) ld (.lst (03++02++'g')) ld=some (.lst (03++02++'g')):=Ab;have s3:=s2.trans (sc.trans sd);have fd:H ld=none:=s2.free (sc.free ae);generalize upd (upd H2 lc (.lst [V.bl (decide (8=j)),.bl (decide (9=j)),.bl (decide (10=j)),.bl (decide (11=j))])) ld (.lst (03++02++'g'))=H3 at sd e3 s3 ⊢;have ah:=s3 _ _ z;refine⟨_,rq,.inl ⟨rq,_,SqL.of e3⟩,_,rq,G5 ah k.xc (k.kit 12 _ rfl) ⟨ld,_,_,rq,rq,e3,Al (by show 12<=1000;decide),?_⟩⟩;have e4:upd H3 ld (.lst (03++02++'g'++[.bl (decide (12=j))])) ld=some (.lst ((bsl j).map V.bl)):=Ab;have s4:Same H (upd H3 ld (.lst (03++02++'g'++[.bl (decide (12=j))]))):=s3.Bq Ah.upd fd;generalize upd H3 ld (.lst (03++02++'g'++[.bl (decide (12=j))]))=H4 at e4 s4 ⊢;have am:=s4 _ _ z;refine⟨Ar (by show 12<=1000;decide),λG N=>?_⟩;have nd:ld≠G:=Aw e4 N;have fn:H G=none:=s4.free N;have s5:=s4.trans (Ad N (.lst [V.str "plan",.str "text",.str "stretch",.str "spot",.str "opener",.str "address",.str "rules",.str "hand",.str "panel",.str "link",.str "log",.str "deed"]));have e5:=Ad N (.lst [V.str "plan",.str "text",.str "stretch",.str "spot",.str "opener",.str "address",.str "rules",.str "hand",.str "panel",.str "link",.str "log",.str "deed"]) _ _ e4;refine⟨_,rq,.inl ⟨rq,_,SqL.of Ab⟩,G,_,_,rq,rq,Ab,Al (by show 12<=1000;decide),?_⟩;generalize upd H4 G (.lst [V.str "plan",.str "text",.str "stretch",.str "spot",.str "opener",.str "address",.str "rules",.str "hand",.str "panel",.str "link",.str "log",.str "deed"])=H5 at s5 e5 ⊢;have e6:∀o,upd H5 G o ld=some (.lst ((bsl j).map V.bl)):=λo=>by rw[Ao nd];exact e5
 have s6:∀o,Same H (upd H5 G o):=λo=>s5.Bq Ah.upd fn;refine{_,rq,A1 (s6 _ _ _ z) k.xc k.kv {_,rq,Cz ?_}};refine{_,rq,.inl ⟨rq,_,SqL.of (e6 _)⟩,sI (e6 _) ⟨rq,_,rq,?_⟩};rw[tQ j O];refine GI rfl ?_;refine{_,rq,_,rq,.inl ⟨rq,_,SqL.of (e6 _)⟩,qW (e6 _) 00 (Ff j O) (Fc j O) ⟨G,_,_,_,rq,rq,SqL.of Ab,Eu (wordAt j O),ai _ (s6 _)⟩}
instance:DecidableEq Sp3:=λa b=>if h:a.lp=b.lp/\a.at_=b.at_/\a.n=b.n then isTrue (by cases a;cases b;simp at h;obtain⟨h1,h2,h3⟩:=h;subst h1 h2 h3;rfl) else isFalse λe=>h (by rw[e];exact⟨rfl,rfl,rfl⟩)
def cd3(s:Sp3):Int:=s.lp*10000+s.at_*100+s.n
structure Bd3(s:Sp3):Prop where
 l0:0<=s.lp
 l1:s.lp<=2
 a0:0<=s.at_
 a1:s.at_<=12
 n0:0<=s.n
 n1:s.n<=3
theorem Bd3.inj{s t:Sp3}(h:Bd3 s)(k:Bd3 t)(e:cd3 s=cd3 t):s=t:=by
 unfold cd3 at e;have h1:=h.l0;have h2:=h.l1;have j:=h.a0;have q:=h.a1;have z:=h.n0;have G:=h.n1;have I:=k.l0;have k2:=k.l1;have k3:=k.a0;have J:=k.a1;have N:=k.n0;have O:=k.n1;cases s;cases t;dsimp only at *;congr 1 <;> lia
theorem Bd3.c3{s:Sp3}(h:Bd3 s):C3 s.lp s.at_ s.n (cd3 s):=⟨h.a0,by have:=h.a1;lia,h.n0,by have:=h.n1;lia,rfl⟩
theorem KR{z : Type}{c:z->Int}{f:Nat->List z}{g:Nat->Int}(j:∀i,g i<=g (i+1))(h1:∀i,((f i).map c).Pairwise (· < ·))(h2:∀i,∀x∈f i,g i<=c x/\c x < g (i+1)):∀n,((up f n).map c).Pairwise (· < ·)/\∀x∈up f n,g 0<=c x/\c x < g n
 | 0=>by rw[Nt];exact⟨List.Pairwise.nil,λx h=>by cases h⟩
 | n+1=>by
  obtain⟨a,b⟩:=KR j h1 h2 n;have J:∀m,g 0<=g m:=λm=>by
   induction m with
   | zero=>exact Int.le_refl _
   | succ m N=>exact Int.le_trans N (j m)
  rw[DQ,QbL];refine{List.pairwise_append.mpr ⟨a,h1 n,λx q y O=>?_⟩,λx q=>?_}
  .obtain⟨Y,G,rfl⟩:=Qcq.mp q;obtain⟨y',I,rfl⟩:=Qcq.mp O;have:=b Y G;have:=h2 n y' I;lia
  .rcases QbK.mp q with h | h
   .have:=b x h;have:=j n;lia
   .have:=h2 n x h;have:=J n;lia
theorem mF(k:Int):∀m:Nat,((List.range m).map λn:Nat=>k+(n:Int)).Pairwise (· < ·):=λm=>by
 rw[Qbt];exact List.pairwise_lt_range.imp λ{a b} h=>by lia
theorem Ve(lp a:Int):∀(n:Nat) (ds:List Dev),(DW lp a n ds).map (λd=>cd3 d.spot)=(List.range' n ds.length).map λj:Nat=>lp*10000+a*100+(j:Int)
 | _,[]=>rfl
 | n,d::r=>by
  rw[Qbz,List.range'_succ,Qch,<-Ve lp a (n+1) r];rfl
theorem cR(lp a:Int)(p:Place):((Ca lp a p).map λd=>cd3 d.spot).Pairwise (· < ·):=by
 unfold Ca;split
 .exact List.Pairwise.nil
 .rw[Qch,Ve];refine List.pairwise_cons.mpr {λx q=>?_,?_}
  .obtain⟨j,z,rfl⟩:=Qcq.mp q;have:=List.mem_range'_1.mp z;show lp*10000+a*100+0 < _;lia
  .rw[Qbt];exact (List.pairwise_lt_range').imp λ{x y} h=>by lia
theorem Wo(lp a:Int):∀(n:Nat) (ds:List Dev) (d:Sd),d∈DW lp a n ds->d.lp=lp/\d.at_=a/\(n:Int)<=d.n/\d.n < (n:Int)+ds.length
 | _,[],d,h=>by cases h
 | n,x::r,d,h=>by
  rcases Qcg.mp h with rfl | h
  .exact⟨rq,rq,Int.le_refl _,by show (n:Int) < (n:Int)+((r.length+1:Nat):Int);lia⟩
  .obtain⟨h1,h2,j,q⟩:=Wo lp a (n+1) r d h;exact⟨h1,h2,by lia,by rw[Qbz];lia⟩
theorem Qt{lp a:Int}{p:Place}(h:p.spur.length<=3){d:Sd}(hd:d∈Ca lp a p):d.lp=lp/\d.at_=a/\0<=d.n/\d.n<=3:=by
 unfold Ca at hd;split at hd
 .cases hd
 .rcases Qcg.mp hd with rfl | hd
  .exact⟨rq,rq,Int.le_refl _,by show (0:Int)<=3;decide⟩
  .obtain⟨h1,h2,j,q⟩:=Wo lp a 1 p.spur d hd;exact⟨h1,h2,by lia,by lia⟩
theorem Fp{j q : Type}{o:Option j}{g:j->List q}{x:q}(h:x∈ifs o g):∃a,o=some a/\x∈g a:=by
 cases o with
 | none=>cases h
 | some a=>exact⟨a,rfl,h⟩
theorem En{j : Type}{f:Nat->List j}{x:j}:∀{n:Nat},x∈up f n->∃i,i < n/\x∈f i
 | 0,h=>by rw[Nt] at h;cases h
 | n+1,h=>by
  rw[DQ] at h;rcases QbK.mp h with h | h
  .obtain⟨i,a,b⟩:=En h;exact⟨i,by lia,b⟩
  .exact⟨n,QbE n,h⟩
theorem Lb{j q : Type}{c:q->Int}{o:Option j}{g:j->List q}(h:∀a,o=some a->((g a).map c).Pairwise (· < ·)):((ifs o g).map c).Pairwise (· < ·):=by
 cases o with
 | none=>exact List.Pairwise.nil
 | some a=>exact h a rfl
theorem Y0{ja:YU}(z:Ec ja){k:Nat}{d:Sd}(h:d∈pdL ja k):d.lp=(k:Int)/\1<=d.at_/\d.at_<=12/\0<=d.n/\d.n<=3:=by
 obtain⟨ps,q,h⟩:=Fp h;have j:=z.ok ps (QaH q);obtain⟨i,hi,h⟩:=En h;obtain⟨p,G,h⟩:=Fp h;obtain⟨h1,h2,I,J⟩:=Qt (j.ok p (QaH G)).spur h;have:=j.hi;exact⟨h1,by rw[h2];lia,by rw[h2];lia,I,J⟩
theorem yt{ja:YU}(q:Ec ja):((up (pdL ja) ja.length).map λd=>cd3 d.spot).Pairwise (· < ·):=by
 refine (KR (g:=λi=>(i:Int)*10000) (λi=>by lia) (λk=>Lb λps G=>?_) (λk d j=>?_) ja.length).1
 .have I:=q.ok ps (QaH G);refine (KR (g:=λi=>(k:Int)*10000+(1+i:Int)*100) (λi=>by lia) (λi=>Lb λp z=>cR _ _ p) (λi d j=>?_) ps.length).1;obtain⟨p,z,j⟩:=Fp j;obtain⟨h1,h2,J,N⟩:=Qt (I.ok p (QaH z)).spur j;show (k:Int)*10000+(1+i:Int)*100<=d.lp*10000+d.at_*100+d.n/\d.lp*10000+d.at_*100+d.n < (k:Int)*10000+(1+((i+1:Nat):Int))*100;rw[h1,h2];push_cast;lia
 .obtain⟨h1,h2,J,N,O⟩:=Y0 q j;show (k:Int)*10000<=d.lp*10000+d.at_*100+d.n/\d.lp*10000+d.at_*100+d.n < ((k+1:Nat):Int)*10000;rw[h1];push_cast;lia
theorem rT{ja:YU}(q:Ec ja):∀d∈up (pdL ja) ja.length,Bd3 d.spot:=λd j=>by
 obtain⟨k,J,j⟩:=En j;obtain⟨h1,h2,z,G,I⟩:=Y0 q j;have:=q.hi;exact{by show 0<=d.lp;lia,by show d.lp<=2;lia,by show 0<=d.at_;lia,z,G,I}
theorem jJ{lp:Int}{ps:List Place}(q:OkL ps){i:Nat}{s:Sp3}(h:s∈st1 lp ps i):s.lp=lp/\s.at_=((1+i:Nat):Int)/\i < ps.length/\0<=s.n/\s.n<=3:=by
 obtain⟨p,j,h⟩:=Fp h;have G:=(q.ok p (QaH j)).spur;obtain⟨n,z,rfl⟩:=Qcq.mp h;have:=Qcd.mp z;exact⟨rq,rq,(Qah.mp j).1,by show (0:Int)<=(n:Int);lia,by show (n:Int)<=3;lia⟩
theorem pL{ja:YU}(z:Ec ja){k:Nat}{s:Sp3}(h:s∈stL ja k):s.lp=(k:Int)/\0<=s.at_/\s.at_<=12/\0<=s.n/\s.n<=3:=by
 obtain⟨ps,q,h⟩:=Fp h;have j:=z.ok ps (QaH q);have J:=j.hi;rcases Qcg.mp h with rfl | h
 .exact⟨rq,by show (0:Int)<=0;decide,by show (0:Int)<=12;decide,by show (0:Int)<=0;decide,by show (0:Int)<=3;decide⟩
 .obtain⟨i,hi,h⟩:=En h;obtain⟨h1,h2,N,G,I⟩:=jJ j h;exact⟨h1,by rw[h2];lia,by rw[h2];lia,G,I⟩
theorem zR{ja:YU}(j:Ec ja):((up (stL ja) ja.length).map cd3).Pairwise (· < ·):=by
 refine (KR (g:=λi=>(i:Int)*10000) (λi=>by lia) (λk=>Lb λps z=>?_) (λk d I=>?_) ja.length).1
 .have G:=j.ok ps (QaH z);obtain⟨a,b⟩:=KR (c:=cd3) (f:=st1 (k:Int) ps) (g:=λi=>(k:Int)*10000+(1+i:Int)*100) (λi=>by lia) (λi=>Lb λp hp=>by
   rw[Qct];have:=mF ((k:Int)*10000+((1+i:Nat):Int)*100) (p.spur.length+1);exact this) (λi s hs=>by
   obtain⟨h1,h2,J,N,O⟩:=jJ G hs;show (k:Int)*10000+(1+i:Int)*100<=s.lp*10000+s.at_*100+s.n/\s.lp*10000+s.at_*100+s.n < (k:Int)*10000+(1+((i+1:Nat):Int))*100;rw[h1,h2];push_cast;lia) ps.length
  rw[Qch];refine List.pairwise_cons.mpr {λx Y=>?_,a};obtain⟨s,hs,rfl⟩:=Qcq.mp Y;have q:=(b s hs).1;have q:(k:Int)*10000+(1+((0:Nat):Int))*100<=cd3 s:=q;show (k:Int)*10000+0*100+0 < cd3 s;lia
 .obtain⟨h1,h2,J,N,O⟩:=pL j I;show (k:Int)*10000<=d.lp*10000+d.at_*100+d.n/\d.lp*10000+d.at_*100+d.n < ((k+1:Nat):Int)*10000;rw[h1];push_cast;lia
theorem yO{ja:YU}(j:Ec ja):∀s∈up (stL ja) ja.length,Bd3 s:=λs hs=>by
 obtain⟨k,I,hs⟩:=En hs;obtain⟨h1,h2,q,z,G⟩:=pL j hs;have:=j.hi;exact{by lia,by lia,h2,q,z,G}
theorem Yk{j : Type}{c:j->Int}{l:List j}(h:(l.map c).Pairwise (· < ·)):l.Nodup:=by
 rw[Qbt] at h;exact h.imp λ{a b} q e=>by rw[e] at q;lia
abbrev Hg:Stmt:=(inClass (top 54) 0)
abbrev Dq:YF:=["self","plan"]
theorem Jc:Ay ["self","plan"] Dq (Ai Hg):=by ac_rfl
abbrev GK:Stmt:=(inClass (top 54) 1)
abbrev Dl:YF:=["self","stretch"]
theorem Qh:Ay Dl Dl (Ai GK):=by ac_rfl
abbrev Qp:Stmt:=(inClass (top 54) 3)
abbrev Jl:YF:=Dl
theorem cA:Ay Dl Jl (Ai Qp):=by ac_rfl
abbrev MP:Stmt:=(inClass (top 54) 4)
abbrev Hs:YF:=Dl
theorem Yd:Ay Dl Hs (Ai MP):=by ac_rfl
structure Tw(K:YD)(mg:YB)(op oe kd wk C:Addr):Prop extends Ty K mg op oe kd wk where
 cl:Cls K C
 mgC:mg "Wires"=some (.ref C)
 dX:Js K C "plan"
 Hi:Js K C "states"
 VR:Js K C "filled"
 Hu:Js K C "gaps"
def ff(pl d1 d2 d3:Addr):List (Str×V):=[("plan",.ref pl),("states",.ref d1),("filled",.ref d2),("gaps",.ref d3)]
abbrev xI:YF:=["plan","states","filled","gaps"]
theorem wg:(xI:YF).Nodup:=by trivial
section
variable(pl d1 d2 d3:Addr)
theorem fnd:((ff pl d1 d2 d3).map (·.1)).Nodup:=wg
theorem Ho:List.lookup ("states":Str) (ff pl d1 d2 d3)=some (V.ref d1):=Tn (i:=1) (fnd pl d1 d2 d3) rfl
theorem oE:List.lookup ("filled":Str) (ff pl d1 d2 d3)=some (V.ref d2):=Tn (i:=2) (fnd pl d1 d2 d3) rfl
end
theorem fno{pl d1 d2 d3:Addr}{x:Str}(h:x∉(xI:YF)):(ff pl d1 d2 d3).lookup x=none:=zm h
def k3(s:Sp3):List Key:=[.inl s.lp,.inl s.at_,.inl s.n]
theorem Mv{s t:Sp3}(h:k3 s=k3 t):s=t:=by
 cases s;cases t;simp[k3] at h;obtain⟨h1,h2,j⟩:=h;subst h1 h2 j;rfl
abbrev YR:=List (Sp3×Str)
def stV(hs:YR):YL:=hs.map λx=>(k3 x.1,.str x.2)
theorem jz{j : Type}{f:j->List Key×V}:∀{l:List j} {i:Nat} {x:j},(l.map λy=>(f y).1).Nodup->l[i]?=some x->Dj (l.map f) (f x).1=some (f x).2
 | [],_,_,_,h=>by simp at h
 | a::r,0,x,q,h=>by
  simp at h;subst h;exact Jy (p:=f a) rfl
 | a::r,i+1,x,q,h=>by
  have h:r[i]?=some x:=by simpa using h
  obtain⟨z,G⟩:=QbQ.mp q;rw[Qch,Hf (p:=f a) (λe=>z (by show (f a).1∈_;rw[e];exact Qcq.mpr ⟨x,QaH h,rq⟩))];exact jz G h
theorem Nr{κ : Type} [DecidableEq κ]:∀{l:List (κ×V)} {k:κ},(∀x∈l,x.1≠k)->Dj l k=none
 | [],_,_=>rfl
 | a::r,k,h=>by rw[Hf (h a (QaW ..))];exact Nr λx j=>h x (QaI _ j)
theorem cO{κ : Type} [DecidableEq κ] {l:List (κ×V)} {k:κ} {v:V} (h:∃x∈l,x.1=k):putK l k v=l.map λj=>if j.1=k then (j.1,v) else j:=by
 unfold putK;obtain⟨x,q,e⟩:=h;exact if_pos (List.any_eq_true.mpr ⟨x,q,Qca e⟩)
def JB{j : Type}(l:List (Sp3×j))(s:Sp3)(v:j):List (Sp3×j):=l.map λx=>if x.1=s then (x.1,v) else x
theorem Q9{j : Type}(l:List (Sp3×j))(s:Sp3)(v:j):(JB l s v).map (·.1)=l.map (·.1):=by
 unfold JB;rw[Qct];refine QaQ λx _=>?_;show (if x.1=s then (x.1,v) else x).1=x.1
 split <;> rfl
theorem bT{j : Type}(l:List (Sp3×j))(s:Sp3)(v:j):(JB l s v).length=l.length:=QbJ ..
theorem XF{hs:YR}{s:Sp3}{z:Str}(h:s∈hs.map (·.1)):putK (stV hs) (k3 s) (.str z)=stV (JB hs s z):=by
 obtain⟨x,j,e⟩:=Qcq.mp h;rw[cO (l:=stV hs) {_,Qcq.mpr ⟨x,j,rq⟩,by show k3 x.1=_;rw[e]}];unfold stV JB;rw[Qct,Qct];refine QaQ λy _=>?_;show (if k3 y.1=k3 s then (k3 y.1,V.str z) else (k3 y.1,V.str y.2))=(k3 (if y.1=s then (y.1,z) else y).1,V.str (if y.1=s then (y.1,z) else y).2)
 by_cases e:y.1=s
 .rw[if_pos (by rw[e]),if_pos e]
 .rw[if_neg (λz=>e (Mv z)),if_neg e]
def HeldAt(H:Hp)(v:V):Option (Str×Int)->Prop
 | none=>v=.non
 | some d=>∃t,v=.ref t/\H t=some (.tup [.str d.1,.int d.2])
def KN(H:Hp)(j:List Key×V)(x:Sp3×Option (Str×Int)):Prop:=j.1=k3 x.1/\HeldAt H j.2 x.2
theorem KN.tups{H H':Hp}(s:Ak H H'){j:List Key×V}{x:Sp3×Option (Str×Int)}(h:KN H j x):KN H' j x:=by
 obtain⟨h1,h2⟩:=h;refine⟨h1,?_⟩;cases e:x.2 with
 | none=>rw[e] at h2;exact h2
 | some d=>
  rw[e] at h2;obtain⟨t,a,b⟩:=h2;exact⟨t,a,s _ _ b⟩
def k2(g:Gt):List Key:=[.inl g.lp,.inl g.at_]
theorem Te{s t:Gt}(h:k2 s=k2 t):s=t:=by
 cases s;cases t;simp[k2] at h;obtain⟨h1,h2⟩:=h;subst h1 h2;rfl
abbrev YT:=List (Gt×Bool)
def gpV(gs:YT):YL:=gs.map λx=>(k2 x.1,.bl x.2)
structure WAt(C:Addr)(H:Hp)(p pl d1 d2 d3:Addr)(hs:YR)(fl:List (Sp3×Option (Str×Int)))(gs:YT):Prop where
 ins:∃dx,H p=some (.ins C dx (ff pl d1 d2 d3))
 st:H d1=some (.dT (stV hs))
 fi:∃kvs,H d2=some (.dT kvs)/\Paired (KN H) kvs fl
 nd1:(hs.map (·.1)).Nodup
 nd2:(fl.map (·.1)).Nodup
 l1:hs.length<=200
 l2:fl.length<=200
 gp:H d3=some (.dT (gpV gs))
 nd3:(gs.map (·.1)).Nodup
 l3:gs.length<=200
 n13:d1≠d3
 n23:d2≠d3
abbrev YQ:=List (Sp3×Option (Str×Int))
theorem WAt.same{C:Addr}{H H':Hp}{p pl d1 d2 d3:Addr}{hs:YR}{fl:YQ}{gs:YT}(h:WAt C H p pl d1 d2 d3 hs fl gs)(s:Same H H'):WAt C H' p pl d1 d2 d3 hs fl gs:=by
 obtain⟨dx,e⟩:=h.ins;obtain⟨kvs,e2,e3⟩:=h.fi;exact{⟨dx,s _ _ e⟩,s _ _ h.st,⟨kvs,s _ _ e2,Paired.Ax e3 λ_ _ z=>z.tups (Ak.of s)⟩,h.nd1,h.nd2,h.l1,h.l2,s _ _ h.gp,h.nd3,h.l3,h.n13,h.n23}
def SC(H:Hp)(v:V)(ss:YV):Prop:=∃b s,v=.ref b/\H b=some (.tup [.int s.lp,.int s.at_,.int s.n])/\s∈ss
theorem iD{H:Hp}{v:V}{ss:YV}(h:SC H v ss):T7 (Ii H v) 3=true:=by
 obtain⟨b,s,rfl,j,_⟩:=h;rw[Df j];rfl
theorem fP{H:Hp}:∀{kvs:YL} {fl:YQ},Paired (KN H) kvs fl->kvs.map (·.1)=fl.map λx=>k3 x.1
 | _,_,.nil=>rfl
 | _,_,.cons h t=>by rw[Qch,Qch,h.1,fP t]
theorem CF{C:Addr}{H H':Hp}{p pl d1 d2 d3:Addr}{hs:YR}{fl:YQ}{gs:YT}{s:Sp3}{z:Str}(R:WAt C H p pl d1 d2 d3 hs fl gs)(q:d1≠d2)(e:H' d1=some (.dT (stV (JB hs s z))))(j:Ah d1 H H')(I:∀zs,H d1≠some (.tup zs))(G:p≠d1):WAt C H' p pl d1 d2 d3 (JB hs s z) fl gs:=by
 obtain⟨dx,J⟩:=R.ins;obtain⟨kvs,N,O⟩:=R.fi;exact{⟨dx,j _ _ J G⟩,e,⟨kvs,j _ _ N q.symm,Paired.Ax O λ_ _ y=>y.tups (j.tup I)⟩,by rw[Q9];exact R.nd1,R.nd2,by rw[bT];exact R.l1,R.l2,j _ _ R.gp R.n13.symm,R.nd3,R.l3,R.n13,R.n23}
inductive Wx(C:Addr)(vs:YG)(H:Hp)(Q:VK)(E:XK):Prop
 | mk (p pl d1 d2 d3 hs fl gs b s) (_:vs=[.ref p,.ref b]) (_:WAt C H p pl d1 d2 d3 hs fl gs) (_:H b=some (.tup [.int s.lp,.int s.at_,.int s.n])) (_:s∈hs.map (·.1)) (_:∀H',Same H H'->Q .non H'):Wx C vs H Q E
inductive Wr(C:Addr)(z:Str)(vs:YG)(H:Hp)(Q:VK)(E:XK):Prop
 | mk (p pl d1 d2 d3 hs fl gs b s) (_:vs=[.ref p,.ref b]) (_:WAt C H p pl d1 d2 d3 hs fl gs) (_:d1≠d2) (_:H b=some (.tup [.int s.lp,.int s.at_,.int s.n])) (_:s∈hs.map (·.1)) (_:∀H',WAt C H' p pl d1 d2 d3 (JB hs s z) fl gs->Ah d1 H H'->Q .non H'):Wr C z vs H Q E
theorem zV{H:Hp}{v:V}{s:Sp3}(h:BL H v s):Th H v:=by
 obtain⟨u,rfl,e⟩:=h;refine⟨.inr ⟨_,e⟩,λxs ex=>?_⟩;rw[Df e] at ex;cases ex;refine⟨by show 3<=100;decide,λy j=>?_⟩;have:y=.int s.lp\/y=.int s.at_\/y=.int s.n:=by simpa using j
 rcases this with rfl | rfl | rfl <;> exact True.intro
theorem VL(c:Nq K C "check_stretch" "Wires.check_stretch" GK Dl)(T:Tw K mg op oe kd wk C)(N:⋯ "are_wholes" 2 GZ Ph):FN P w K mg base C "check_stretch" 3 Dl (Wx C):=by
 refine c.good Qh (by nofun) λ_ _ _ _ _ H vs Q E G h=>?_
 obtain⟨p,pl,d1,d2,d3,hs,fl,gs,b,s',rfl,R,j,z,aa⟩:=h;refine{_,(Ag (Cw (PW.pt (Pu (Fx (Dz (Ce N G (Aa (pv 1) (Aa Af Ac))))) (Oh (Oi (S5 (CJ G) (pv 1) (El (pv 0) rfl)))))) (Ag VF) BR)),?_};refine{_,rq,.ref b,3,rq,zV ⟨b,rq,j⟩,λH1 q=>{_,rq,?_}};rw[iD ⟨b,s',rq,j,z⟩];have I:=R.same q;obtain⟨dx,O⟩:=I.ins;refine Cz {_,rq,_,rq,p,C,dx,_,_,rq,O,T.cl,T.Hi,Ho pl d1 d2 d3,d1,_,rq,Dt.t (k:=k3 s') I.st (q _ _ j),_,rq,?_};have J:(Dj (stV hs) (k3 s')).isSome=true:=by
  obtain⟨x,Y,e⟩:=Qcq.mp z;rw[<-N6,List.any_eq_true];exact{_,Qcq.mpr ⟨x,Y,rq⟩,Qca (by show k3 x.1=_;rw[e])}
 rw[J];exact Cz (aa _ q)
theorem Do(c:Nq K C "cut" "Wires.cut" Qp Jl)(T:Tw K mg op oe kd wk C)(Jf:FN P w K mg base C "check_stretch" 3 Dl (Wx C)):FN P w K mg base C "cut" 4 Jl (Wr C "cut"):=by
 refine c.good cA (by nofun) λ_ _ _ _ _ H vs Q E N h=>?_
 obtain⟨p,pl,d1,d2,d3,hs,fl,gs,b,s',rfl,R,aa,O,J,af⟩:=h;refine⟨_,(Ae (Bo (WK (pv 0) T.cl Jf N (Aa (pv 1) Ac)))
 (Ag (Ny (CJ N) (El (pv 0) rfl) (pv 1) Bf rfl))),?_⟩
 show let Y:TS:=_;Aq _ Y _ _ _;intro Y;obtain⟨dx,hp⟩:=R.ins;refine{_,rq,p,dx,_,rq,hp,fno (by trivial),_,rq,p,pl,d1,d2,d3,hs,fl,gs,b,s',rq,R,O,J,λH1 G=>?_};have I:=R.same G;obtain⟨ab,j⟩:=I.ins;have q:=I.st;have ae:p≠d1:=λz=>by rw[z,q] at j;cases j
 have nt:∀zs,H1 d1≠some (.tup zs):=λzs z=>by rw[q] at z;cases z
 have l1:=R.l1;refine{_,rq,p,C,ab,_,_,rq,j,T.cl,T.Hi,Ho pl d1 d2 d3,_,rq,d1,_,rq,M7.t (k:=k3 s') q (G _ _ O) (Al (by unfold stV;rw[QbJ];lia)),?_};rw[XF J];exact af _ (CF I aa (H':=upd H1 d1 _) Ab (Ah.upd) nt ae) ((Ah.of G).trans Ah.upd)
theorem vK(c:Nq K C "short" "Wires.short" MP Hs)(T:Tw K mg op oe kd wk C)(Jf:FN P w K mg base C "check_stretch" 3 Dl (Wx C)):FN P w K mg base C "short" 4 Hs (Wr C "short"):=by
 refine c.good Yd (by nofun) λ_ _ _ _ _ H vs Q E N h=>?_
 obtain⟨p,pl,d1,d2,d3,hs,fl,gs,b,s',rfl,R,aa,O,J,af⟩:=h;refine⟨_,(Ae (Bo (WK (pv 0) T.cl Jf N (Aa (pv 1) Ac)))
 (Ag (Ny (CJ N) (El (pv 0) rfl) (pv 1) Bf rfl))),?_⟩
 show let Y:TS:=_;Aq _ Y _ _ _;intro Y;obtain⟨dx,hp⟩:=R.ins;refine{_,rq,p,dx,_,rq,hp,fno (by trivial),_,rq,p,pl,d1,d2,d3,hs,fl,gs,b,s',rq,R,O,J,λH1 G=>?_};have I:=R.same G;obtain⟨ab,j⟩:=I.ins;have q:=I.st;have ae:p≠d1:=λz=>by rw[z,q] at j;cases j
 have nt:∀zs,H1 d1≠some (.tup zs):=λzs z=>by rw[q] at z;cases z
 have l1:=R.l1;refine{_,rq,p,C,ab,_,_,rq,j,T.cl,T.Hi,Ho pl d1 d2 d3,_,rq,d1,_,rq,M7.t (k:=k3 s') q (G _ _ O) (Al (by unfold stV;rw[QbJ];lia)),?_};rw[XF J];exact af _ (CF I aa (H':=upd H1 d1 _) Ab (Ah.upd) nt ae) ((Ah.of G).trans Ah.upd)
theorem Pg{H j:Hp}{d:Addr}{o:Obj}{u:HO}(s:Same (upd H d (.frz o u)) j)(h:H d=some u):Same H (upd j d u):=λc x e=>by
 by_cases z:c=d
 .subst z;rw[Ab,<-h,e]
 .rw[Ao z];exact s _ _ (by rw[Ao z];exact e)
def hs0(ja:YU):YR:=(up (stL ja) ja.length).map λs=>(s,"whole")
def fl0(ja:YU):YQ:=(up (pdL ja) ja.length).map λd=>(d.spot,some (d.kind,d.addr))
theorem Ld(ja:YU):(hs0 ja).map (·.1)=up (stL ja) ja.length:=by unfold hs0;rw[Qct];exact List.map_id _
theorem Uz(ja:YU):(fl0 ja).map (·.1)=(up (pdL ja) ja.length).map Sd.spot:=by unfold fl0;rw[Qct];rfl
theorem CB{ja:YU}(j:Ec ja):(up (stL ja) ja.length).length<=200:=by
 have:=Ey (f:=stL ja) (c:=49) (jF j) ja.length;have:=j.hi;lia
theorem E5{ja:YU}(j:Ec ja):(up (pdL ja) ja.length).length<=200:=by
 have:=Ey (f:=pdL ja) (c:=48) (jR j) ja.length;have:=j.hi;lia
theorem dz{ja:YU}(j:Ec ja):(up (gtL ja) ja.length).length<=200:=by
 have:=Ey (f:=gtL ja) (c:=14) (j4 j) ja.length;have:=j.hi;lia
theorem FS{ja:YU}(j:Ec ja):(up (stL ja) ja.length).Nodup:=Yk (zR j)
theorem Hn{ja:YU}(j:Ec ja):((up (pdL ja) ja.length).map Sd.spot).Nodup:=Yk (c:=cd3) (by rw[Qct];exact yt j)
def gs0(ja:YU):YT:=(up (gtL ja) ja.length).map λg=>(g,false)
theorem Le(ja:YU):(gs0 ja).map (·.1)=up (gtL ja) ja.length:=by unfold gs0;rw[Qct];exact List.map_id _
def cd2(g:Gt):Int:=g.lp*100+g.at_
theorem QT{lp:Int}{ps:List Place}{i:Nat}{g:Gt}(h:g∈gt1 lp ps i):g.lp=lp/\g.at_=((1+i:Nat):Int)/\i < ps.length:=by
 obtain⟨p,j,h⟩:=Fp h;split at h
 .have:g=⟨lp,((1+i:Nat):Int)⟩:=by simpa using h
  rw[this];exact⟨rq,rq,(Qah.mp j).1⟩
 .cases h
theorem EG{ja:YU}(q:Ec ja){k:Nat}{g:Gt}(h:g∈gtL ja k):g.lp=(k:Int)/\0<=g.at_/\g.at_<=13:=by
 obtain⟨ps,j,h⟩:=Fp h;have hi:=(q.ok ps (QaH j)).hi;rcases QbK.mp h with h | h
 .rcases Qcg.mp h with rfl | h
  .exact⟨rq,by show (0:Int)<=0;decide,by show (0:Int)<=13;decide⟩
  .obtain⟨i,z,h⟩:=En h;obtain⟨h1,h2,G⟩:=QT h;exact⟨h1,by rw[h2];lia,by rw[h2];lia⟩
 .have:g={(k:Int),09+1}:=by simpa using h
  rw[this];exact⟨rq,by show (0:Int)<=09+1;lia,by show 09+1<=13;lia⟩
theorem A5{ja:YU}(N:Ec ja):((up (gtL ja) ja.length).map cd2).Pairwise (· < ·):=by
 refine (KR (g:=λi=>(i:Int)*100) (λi=>by lia) (λk=>Lb λps Y=>?_) (λk g q=>?_) ja.length).1
 .obtain⟨a,b⟩:=KR (c:=cd2) (f:=gt1 (k:Int) ps) (g:=λi=>(k:Int)*100+(1+i:Int)) (λi=>by lia) (λi=>Lb λp hp=>by
   split
   .exact Qaw _ _
   .exact List.Pairwise.nil) (λi g q=>by
   obtain⟨h1,h2,O⟩:=QT q;show (k:Int)*100+(1+i:Int)<=g.lp*100+g.at_/\g.lp*100+g.at_ < (k:Int)*100+(1+((i+1:Nat):Int));rw[h1,h2];push_cast;lia) ps.length
  rw[QbL,Qch];have I:∀x∈up (gt1 (k:Int) ps) ps.length,(k:Int)*100+(1+((0:Nat):Int))<=cd2 x/\cd2 x < (k:Int)*100+(1+((ps.length:Nat):Int)):=b;refine List.pairwise_append.mpr {List.pairwise_cons.mpr {λx j=>?_,a},Qaw _ _,λx j y J=>?_}
  .obtain⟨z,G,rfl⟩:=Qcq.mp j;have:=I z G;show (k:Int)*100+0 < cd2 z;lia
  .have J:y=(k:Int)*100+(09+1):=by simpa [cd2] using J
   rcases Qcg.mp j with rfl | j
   .show (k:Int)*100+0 < y;lia
   .obtain⟨z,G,rfl⟩:=Qcq.mp j;have:=I z G;lia
 .obtain⟨h1,h2,O⟩:=EG N q;show (k:Int)*100<=g.lp*100+g.at_/\g.lp*100+g.at_ < ((k+1:Nat):Int)*100;rw[h1];push_cast;lia
theorem ou{ja:YU}(j:Ec ja):(up (gtL ja) ja.length).Nodup:=Yk (A5 j)
inductive X7(C:Addr)(vs:YG)(H:Hp)(Q:VK)(E:XK):Prop
 | mk (p dx pl most ja jp) (_:vs=[.ref p,.ref pl]) (_:H p=some (.ins C dx [])) (_:Fq H pl most ja jp) (_:∀d1 d2 d3 H',H d1=none->H d2=none->H d3=none->d1≠d2->WAt C H' p pl d1 d2 d3 (hs0 ja) (fl0 ja) (gs0 ja)->Ah p H H'->Q .non H'):X7 C vs H Q E
abbrev xi:YF:=["opener"]
abbrev xl:YF:=["stretch"]
theorem vP(F:∃f fd,Fun K "__init__" "Wires.__init__" Hg f fd/\Mk K C f/\Binds K fd Dq [])(T:Tw K mg op oe kd wk C)(QB:⋯ "is_let_by" 10 HN Nv)(Qy:⋯ "stretches" 1 HF aH)(Gs:⋯ "devices" 2 Gn Q8)(Tg:⋯ "openers" 1 JV aJ):pq P w K mg base C 11 Dq (X7 C):=by
 obtain⟨f,fd,F,Mk,b⟩:=F;refine⟨f,fd,Mk,b,F.ok Jc (λvs H Q E h=>?_) (λ_ _ _ _ H vs Q E J h=>?_)⟩
 .obtain⟨p,dx,pl,af,ja,jp,rfl,_⟩:=h;rfl
 obtain⟨p,dx,pl,af,ja,jp,rfl,hp,pa,a9⟩:=h;refine⟨_,(Ae (Cw (Fx (Dz (Cr QB J (Aa (pv 1) Ac)))) (Ag VF) BR)
 (Ae (JT (pv 0) (pv 1) rfl)
 (Ae (JT (pv 0) (G9 (CJ J) (N':=xl) rfl nofun (CZ (Cr Qy J (Aa (pv 1) Ac))) (~~~(0∩xl)) (λ_ _ _ _=>CK) (~~~(pv 0)) (λ_ _ _ _=>Bf)) rfl)
 (Ae (JT (pv 0) (G9 (CJ J) (N':=xf) rfl nofun (CZ (Cr Gs J (Aa (pv 1) Ac))) (~~~(Hz (K:=K) (n:=3) rfl rfl (Am (0∩xf) (Am (1∩xf) (Am (2∩xf) Bt))))) (λ_ _ _ _=>CK) (~~~(pv 0)) (~~~(Bd (Aa (pv 1) (Aa (pv 2) Ac))))) rfl)
 (Ag (JT (pv 0) (G9 (CJ J) (N':=xi) rfl nofun (CZ (Cr Tg J (Aa (pv 1) Ac))) (~~~(0∩xi)) (λ_ _ _ _=>CK) (~~~(pv 0)) (λ_ _ _ _=>DY)) rfl)))))),?_⟩
 show let R0:TS:=_;let R1:TS:=Aq _ R0;let R2:TS:=Aq _ R1;let R3:TS:=Aq _ R2;Aq _ R3 _ _ _;intro R0 R1 R2 R3;have q:=pa.ok;have ab:∀zs,H p≠some (.tup zs):=λzs z=>by rw[hp] at z;cases z
 refine{_,rq,pl,af,ja,jp,rq,pa,λH0 s0=>{_,rq,Cz ?_}};refine{_,rq,_,rq,p,C,dx,_,_,rq,s0 _ _ hp,T.cl,T.dX,(by show 0 < 1000;decide),Tj (by show _∉([]:YF);decide +kernel),λH1 h1 s1=>?_};have r1:Ah p H H1:=(Ah.of s0).trans s1;have av:=pa.tups (r1.tup ab);refine{_,rq,pl,ja,rq,av.plan,q,λla xa H2 ba ag ah s2=>⟨la,rq,{_,SqL.of ag},λd1 f1=>?_⟩};have aw:=Qcf ah;have GG:=CB q;have ai:=FS q;let J1:YN:=λi U j=>(∃u,U=[u])/\j d1=some (.dT (stV (((up (stL ja) ja.length).take i).map λs=>(s,"whole"))))/\Same H2 j;refine QG (xs:=xa) J1 {⟨_,rq⟩,Ab,Ad f1 _} (λi U j _ h=>SqL.of (h.2.2 _ _ ag)) (λi x U j I h=>?_) (fun U j h=>?_)
 .obtain⟨⟨u,rfl⟩,e1,e2⟩:=h;obtain⟨sp,al,t,rfl,ht⟩:=Paired.Cp ah I;have hi:=(Qah.mp I).1;unfold Ek;dsimp only;refine Cm {_,rq,_,k3 sp,t,e1,rq,e2 _ _ ht,Al (by unfold stV;rw[QbJ,QbJ,QbA];lia),⟨_,rq⟩,?_,e2.Bq Ah.upd f1};rw[Ab,K6,QcJ al]
  .unfold stV;rw[QbL,QbL];rfl
  .refine Nr λy G e=>?_;unfold stV at G;rw[Qct] at G;obtain⟨z,hz,rfl⟩:=Qcq.mp G;exact Ul ai al z hz (Mv e)
 obtain⟨_,e1,e2⟩:=h;rw[aw,Qby] at e1;have e1:j d1=some (.dT (stV (hs0 ja))):=e1;have r2:Ah p H j:=r1.trans (Ah.of (s2.trans e2));refine{_,rq,p,C,dx,_,_,rq,e2 _ _ (s2 _ _ h1),T.cl,T.Hi,(by show 1 < 1000;decide),Tj (by show _∉(Gn:YF);decide +kernel),λH3 h3 s3=>?_};have aa:d1≠p:=λz=>by rw[z,s2 _ _ h1] at f1;cases f1
 have u1:=s3 _ _ e1 aa;have r3:Ah p H H3:=r2.trans s3;have ax:H d1=none:=by
  cases e:H d1 with
  | none=>rfl
  | some v=>have:=r1.trans (Ah.of s2) _ _ e aa;rw[f1] at this;cases this
 clear s3 e1 e2 r2;have ay:=pa.tups (r3.tup ab);refine{_,rq,pl,ja,rq,ay.plan,q,λlb xb H4 bb am an O=>⟨lb,rq,{_,SqL.of am},λd2 Y=>?_⟩};have az:=Qcf an;have GE:=E5 q;have ao:=Hn q;let J2:YN:=λi U j=>(∃u v t,U=[u,v,t])/\(∃kvs,j d2=some (.dT kvs)/\Paired (KN j) kvs (((up (pdL ja) ja.length).take i).map λd=>(d.spot,some (d.kind,d.addr))))/\Same H4 j;refine QG (xs:=xb) J2 {⟨_,_,_,rq⟩,{[],Ab,.nil},Ad Y _} (λi U j _ h=>SqL.of (h.2.2 _ _ am)) (λi x U j I h=>?_) (fun U j h=>?_)
 .obtain⟨⟨u,v,t,rfl⟩,⟨kvs,e1,e3⟩,e2⟩:=h;obtain⟨d,hd,tt,uu,rfl,h5,h6⟩:=Paired.Cp an I;have hi:=(Qah.mp I).1;have lk:=Qcf e3;rw[QbJ,QbA] at lk;refine⟨tt,_,rq,SqT.of (e2 _ _ h5),rq,_,_,rq,_,_,rq,_,_,rq,rq,?_⟩;refine Cm {_,rq,_,rq,_,rq,kf,λtn a0=>?_};have t1:=Ad a0 (.tup [.str d.kind,.int d.addr]);have ap:=t1 _ _ e1;have a1:∀zs,(upd j tn (.tup [.str d.kind,.int d.addr])) d2≠some (.tup zs):=λzs z=>by rw[ap] at z;cases z
  refine⟨kvs,k3 d.spot,uu,ap,rq,t1 _ _ (e2 _ _ h6),Al 00,⟨_,_,_,rq⟩,{_,Ab,?_},(e2.trans t1).Bq Ah.upd Y⟩;rw[K6,QcJ hd,QbL]
  .have sL:=Ak.upd (o:=.dT (kvs++[(k3 d.spot,V.ref tn)])) a1;exact QcC ⟨rq,⟨tn,rq,sL _ _ Ab⟩⟩ (Paired.Ax e3 λ_ _ z=>(z.tups (Ak.of t1)).tups sL)
  .refine Nr λy G e=>?_;have:y.1∈kvs.map (·.1):=Qcq.mpr ⟨y,G,rq⟩;rw[fP e3,Qct] at this;obtain⟨z,hz,ez⟩:=Qcq.mp this;exact Jo ao hd z hz (Mv (by rw[<-e,<-ez];rfl))
 obtain⟨_,⟨kvs,e1,e3⟩,e2⟩:=h;rw[az,Qby] at e3;have e3:Paired (KN j) kvs (fl0 ja):=e3;have h4:=e2 _ _ (O _ _ h3);have IZ:∀zs,j p≠some (.tup zs):=λzs z=>by rw[h4] at z;cases z
 have u2:=e2 _ _ (O _ _ u1);refine{_,rq,p,C,dx,_,_,rq,h4,T.cl,T.VR,(by show 2 < 1000;decide),Tj (by show _∉(["plan","states"]:YF);decide +kernel),λH5 h5 s5=>?_};have ae:d2≠p:=λz=>by rw[z,O _ _ h3] at Y;cases Y
 have a2:d1≠d2:=Aw (O _ _ u1) Y;have u3:=s5 _ _ u2 aa;have v3:=s5 _ _ e1 ae;have w3:Paired (KN H5) kvs (fl0 ja):=Paired.Ax e3 λ_ _ z=>z.tups (s5.tup IZ);have r5:Ah p H H5:=r3.trans ((Ah.of (O.trans e2)).trans s5);have a3:H d2=none:=by
  cases e:H d2 with
  | none=>rfl
  | some v=>have:=r3.trans (Ah.of O) _ _ e ae;rw[Y] at this;cases this
 clear s5 e1 e2 e3 u1 u2 h3 h4;have a4:=pa.tups (r5.tup ab);have ST:∀zs,H5 p≠some (.tup zs):=λzs z=>by rw[h5] at z;cases z
 refine{_,rq,pl,ja,rq,a4.plan,q,λlc xc H6 bc ar as s6=>⟨lc,rq,{_,SqL.of ar},λd3 N=>?_⟩};have a5:=Qcf as;have GB:=dz q;let J3:YN:=λi U j=>(∃u,U=[u])/\j d3=some (.dT (gpV (((up (gtL ja) ja.length).take i).map λg=>(g,false))))/\Same H6 j;refine QG (xs:=xc) J3 {⟨_,rq⟩,Ab,Ad N _} (λi U j _ h=>SqL.of (h.2.2 _ _ ar)) (λi x U j I h=>?_) (fun U j h=>?_)
 .obtain⟨⟨u,rfl⟩,e1,e2⟩:=h;obtain⟨g,hg,t,rfl,ht⟩:=Paired.Cp as I;have hi:=(Qah.mp I).1;unfold Ek;dsimp only;refine Cm {_,rq,_,k2 g,t,e1,rq,e2 _ _ ht,Al (by unfold gpV;rw[QbJ,QbJ,QbA];lia),⟨_,rq⟩,?_,e2.Bq Ah.upd N};rw[Ab,K6,QcJ hg]
  .unfold gpV;rw[QbL,QbL];rfl
  .refine Nr λy G e=>?_;unfold gpV at G;rw[Qct] at G;obtain⟨z,hz,rfl⟩:=Qcq.mp G;exact Ul (ou q) hg z hz (Te e)
 obtain⟨_,e1,e2⟩:=h;rw[a5,Qby] at e1;have e1:j d3=some (.dT (gpV (gs0 ja))):=e1;have s7:=s6.trans e2;refine{_,rq,p,C,dx,_,_,rq,s7 _ _ h5,T.cl,T.Hu,(by show 3 < 1000;decide),Tj (by show _∉(["plan","states","filled"]:YF);decide +kernel),λH8 h8 s8=>?_};have au:d3≠p:=λz=>by rw[z,s6 _ _ h5] at N;cases N
 have a6:H d3=none:=by
  cases e:H d3 with
  | none=>rfl
  | some v=>have:=r5.trans (Ah.of s6) _ _ e au;rw[N] at this;cases this
 have a7:d1≠d3:=Aw (s6 _ _ u3) N;have a8:d2≠d3:=Aw (s6 _ _ v3) N;have IY:∀zs,j p≠some (.tup zs):=λzs z=>by rw[s7 _ _ h5] at z;cases z
 exact a9 d1 d2 d3 H8 ax a3 a6 a2 {⟨dx,h8⟩,s8 _ _ (s7 _ _ u3) aa,⟨kvs,s8 _ _ (s7 _ _ v3) ae,Paired.Ax w3 λ_ _ z=>(z.tups (Ak.of s7)).tups (s8.tup IY)⟩,by rw[Ld];exact ai,by rw[Uz];exact ao,by unfold hs0;rw[QbJ];exact GG,by unfold fl0;rw[QbJ];exact GE,s8 _ _ e1 au,by rw[Le];exact ou q,by unfold gs0;rw[QbJ];exact GB,a7,a8} (r5.trans ((Ah.of s7).trans s8))
end K44
namespace K44
end K44
namespace K44
open PySem L2
abbrev MN:Stmt:=top 50
abbrev Hr:YF:=["states","loop","at"]
theorem GF:Ay ["states","loop","at","told","number"] Hr (Ai MN):=by ac_rfl
def stC(hs:YR)(s:Sp3):Str:=((hs.find? λx=>decide (x.1=s)).map (·.2)).getD "cut"
theorem Ub(s:Sp3):∀hs:YR,Dj (stV hs) (k3 s)=(hs.find? λx=>decide (x.1=s)).map λx=>V.str x.2
 | []=>rfl
 | a::r=>by
  by_cases e:a.1=s
  .rw[QaA (p:=λx:Sp3×Str=>decide (x.1=s)) (Qca e)];exact Jy (p:=(k3 a.1,V.str a.2)) (by rw[e])
  .rw[Qay (p:=λx:Sp3×Str=>decide (x.1=s)) (by simpa using e),<-Ub s r];exact Hf (p:=(k3 a.1,V.str a.2)) λz=>e (Mv z)
theorem jH(hs:YR)(s:Sp3):(Dj (stV hs) (k3 s)).getD (.str "cut")=.str (stC hs s):=by
 rw[Ub];unfold stC;cases hs.find? λx=>decide (x.1=s) <;> rfl
theorem LQ{hs:YR}{s:Sp3}(h:s∉hs.map (·.1)):stC hs s="cut":=by
 unfold stC;rw[List.find?_eq_none.mpr λx j=>by simpa using λe=>h (Qcq.mpr ⟨x,j,e⟩)];rfl
def Dw(hs:YR)(lp a:Int):Nat->Nat->YV
 | 0,_=>[]
 | f+1,n=>if stC hs ⟨lp,a,(n:Int)⟩="cut" then [] else ⟨lp,a,(n:Int)⟩::Dw hs lp a f (n+1)
def Bw(hs:YR)(lp a:Int):YV:=Dw hs lp a 4 1
theorem RZ(hs:YR)(lp a:Int):∀f n,(Dw hs lp a f n).length<=f
 | 0,_=>QcA _
 | f+1,n=>by
  unfold Dw;split
  .exact QcB _
  .rw[Qbz];have:=RZ hs lp a f (n+1);lia
inductive XQ(vs:YG)(H:Hp)(Q:VK)(E:XK):Prop
 | mk (d1 hs lp a) (_:vs=[.ref d1,.int lp,.int a]) (_:Rd H d1 (.dT (stV hs))) (_:(∀s∈hs.map (·.1),Bd3 s)) (_:∀l xs H',H l=none->H' l=some (.lst xs)->Paired (BL H') xs (Bw hs lp a)->Same H H'->Q (.ref l) H'):XQ vs H Q E
theorem Yp(c:Code K mg "spur_pieces" MN Hr)(T:Tw K mg op oe kd wk C):⋯ "spur_pieces" 1 Hr XQ:=by
 have sc:=GF;exists c,GF
 obtain⟨d1,hs,lp,a,rfl,j,hb,ao⟩:=h;refine⟨_,(Ae (3∪GF∪(BW Ac))
 (Ae (4∪GF∪Af)
 (Ae (cQ QbN (Bx WQ (Ot (CJ hr) (pv 0) (Bd (Aa (pv 1) (Aa (pv 2) (Aa (pv 4) Ac)))) Bf ⟨rq,rq,rq,rq⟩) Bf (BK _)) (Ae (Bo (Cq Qar Qan Qao BP (pv 3) (Aa (Bd (Aa (pv 1) (Aa (pv 2) (Aa (pv 4) Ac)))) Ac)))
 (Ag (p8 (i:=4) GF.nd rfl (Or.inl rfl) Af qT))))
 (Ag (Ba (pv 3)))))),?_⟩
 show let R0:TS:=_;let R1:TS:=Aq _ R0;let R2:TS:=Aq (aY _ R1) _;let R3:TS:=Aq _ R2;Aq _ R3 _ _ _;intro R0 R1 R2 R3;refine⟨jv,λl hl=>?_⟩;refine⟨λm U q=>∃n:Nat,1<=n/\n+m=5/\U=[js d1,some (.int lp),some (.int a),js l,some (.int (n:Int))]/\(∃xs pre,q l=some (.lst xs)/\Paired (BL q) xs pre/\pre.length < n/\pre++Dw hs lp a m n=Bw hs lp a)/\Same H q,⟨4,1,QcA _,rq,rq,⟨[],[],Ab,.nil,by decide,rq⟩,Ad hl _⟩,λm U q h=>?_⟩;obtain⟨n,n1,nm,rfl,⟨xs,pre,e1,e2,e3,e4⟩,e5⟩:=h;have aa:Rd q d1 (.dT (stV hs)):=by
  rcases j with j |⟨o,j⟩
  .exact .inl (e5 _ _ j)
  .exact .inr ⟨o,e5 _ _ j⟩
 refine⟨_,rq,d1,rq,.inr ⟨_,aa⟩,_,rq,_,rq,_,rq,kg,λtk af=>?_⟩;have I:=Ad af (.tup [.int lp,.int a,.int (n:Int)]);have ag:Rd (upd q tk (.tup [.int lp,.int a,.int (n:Int)])) d1 (.dT (stV hs)):=by
  rcases aa with j |⟨o,j⟩
  .exact .inl (I _ _ j)
  .exact .inr ⟨o,I _ _ j⟩
 have g:Dt (upd q tk (.tup [.int lp,.int a,.int (n:Int)])) d1 (.ref tk) (Dj (stV hs) (k3 ⟨lp,a,(n:Int)⟩)):=.inr ⟨_,_,tk,ag,rq,Ab,rq⟩;refine⟨_,g,?_⟩;dsimp only;rw[jH];have N:=I _ _ e1;have O:Paired (BL (upd q tk (.tup [.int lp,.int a,.int (n:Int)]))) xs pre:=Paired.Ax e2 λ_ _ z=>z.tups (Ak.of I);generalize upd q tk (.tup [.int lp,.int a,.int (n:Int)])=HK at *;have ab:=e5.trans I;refine⟨rq,_,rq,?_⟩;by_cases hc:stC hs ⟨lp,a,(n:Int)⟩="cut"
 .rw[show (!decide (V.str (stC hs ⟨lp,a,(n:Int)⟩)=V.str "cut"))=false by rw[hc];decide +kernel];refine Cz {_,rq,ao l xs HK hl N ?_ ab};have:Dw hs lp a m n=[]:=by
   cases m with
   | zero=>rfl
   | succ m=>exact if_pos hc
  rw[this,QbM] at e4;rw[<-e4];exact O
 .have ah:¬V.str (stC hs ⟨lp,a,(n:Int)⟩)=V.str "cut":=λz=>hc (V.str.inj z);rw[show (!decide (V.str (stC hs ⟨lp,a,(n:Int)⟩)=V.str "cut"))=true by rw[QbO ah];rfl];obtain⟨G,rfl⟩ : ∃G,m=G+1:=by
   cases m with
   | succ m=>exact⟨m,rfl⟩
   | zero=>
    refine absurd (LQ λai=>?_) hc;have:=(hb _ ai).n1;have h5:n=5:=by lia
    subst h5;have this:((5:Nat):Int)<=3:=this;lia
  have al:(pre++[⟨lp,a,(n:Int)⟩])++Dw hs lp a G (n+1)=Bw hs lp a:=by
   rw[<-e4,Qbm];show _=pre++Dw hs lp a (G+1) n;rw[show Dw hs lp a (G+1) n=⟨lp,a,(n:Int)⟩::Dw hs lp a G (n+1) from if_neg hc]
   rfl
  have lx:=Qcf O;refine Cm {_,fun ap H' h=>⟨G,QbE _,h⟩,?_};refine{_,rq,.inl ⟨rq,_,SqL.of N⟩,_,rq,_,rq,_,rq,kg,λJ am=>?_};have Y:=Ad am (.tup [.int lp,.int a,.int (n:Int)]);have ae:=Y _ _ N;have an:∀zs,(upd HK J (.tup [.int lp,.int a,.int (n:Int)])) l≠some (.tup zs):=λzs z=>by rw[ae] at z;cases z
  have sL:=Ak.upd (o:=.lst (xs++[.ref J])) an;refine⟨l,_,_,rq,rq,ae,Al 00,?_⟩;refine{_,rq,_,_,rq,rq,n+1,by lia,by lia,?_,{xs++[.ref J],pre++[⟨lp,a,(n:Int)⟩],Ab,QcC ⟨J,rq,sL _ _ Ab⟩ (Paired.Ax O λ_ _ z=>(z.tups (Ak.of Y)).tups sL),by rw[QaV];show _+1 < _;lia,al},(ab.trans Y).Bq Ah.upd hl};show [some (V.ref d1),some (.int lp),some (.int a),js l,some (.int ((n:Int)+1))]=_;rw[Int.natCast_add];rfl
abbrev SJ:Stmt:=top 51
abbrev JW:YF:=["states","gaps","opener","step"]
theorem Gi:Ay ["states","gaps","opener","step","loop","at","wires","places","pieces"] JW (Ai SJ):=by ac_rfl
abbrev Lk:Stmt:=top 52
abbrev Ia:YF:=["states","wires"]
theorem cg:Ay Ia Ia (Ai Lk):=by ac_rfl
abbrev JD:Stmt:=top 53
abbrev Ep:YF:=["states","gaps","opener"]
theorem Ed:Ay ["states","gaps","opener","to_b","places_to_b","to_a","places_to_a"] Ep (Ai JD):=by ac_rfl
instance:DecidableEq Gt:=λa b=>if h:a.lp=b.lp/\a.at_=b.at_ then isTrue (by cases a;cases b;simp at h;obtain⟨h1,h2⟩:=h;subst h1 h2;rfl) else isFalse λe=>h (by rw[e];exact⟨rfl,rfl⟩)
def gpC(gs:YT)(g:Gt):Bool:=((gs.find? λx=>decide (x.1=g)).map (·.2)).getD false
theorem Uu(g:Gt):∀gs:YT,Dj (gpV gs) (k2 g)=(gs.find? λx=>decide (x.1=g)).map λx=>V.bl x.2
 | []=>rfl
 | a::r=>by
  by_cases e:a.1=g
  .rw[QaA (p:=λx:Gt×Bool=>decide (x.1=g)) (Qca e)];exact Jy (p:=(k2 a.1,V.bl a.2)) (by rw[e])
  .rw[Qay (p:=λx:Gt×Bool=>decide (x.1=g)) (by simpa using e),<-Uu g r];exact Hf (p:=(k2 a.1,V.bl a.2)) λz=>e (Te z)
theorem A8(gs:YT)(g:Gt):(Dj (gpV gs) (k2 g)).getD (.bl false)=.bl (gpC gs g):=by
 rw[Uu];unfold gpC;cases gs.find? λx=>decide (x.1=g) <;> rfl
def Bb(a b:Int):Int:=if b < a then b else a
def Bc(hs:YR)(gs:YT)(lp st:Int):Nat->Int->YV×YV
 | 0,_=>([],[])
 | f+1,a=>if stC hs ⟨lp,Bb a (a+st),0⟩="cut" then ([],[]) else
  if gpC gs ⟨lp,a+st⟩=true then (⟨lp,Bb a (a+st),0⟩::Bw hs lp (a+st),⟨lp,a+st,0⟩::Bw hs lp (a+st))
  else ((⟨lp,Bb a (a+st),0⟩::Bw hs lp (a+st))++(Bc hs gs lp st f (a+st)).1,(⟨lp,a+st,0⟩::Bw hs lp (a+st))++(Bc hs gs lp st f (a+st)).2)
structure Ws(H0 H:Hp)(l1 l2:Addr)(wa pa:YV):Prop where
 w:∃xs,H l1=some (.lst xs)/\Paired (BL H) xs wa
 p:∃ys,H l2=some (.lst ys)/\Paired (BL H) ys pa
 sm:Same H0 H
theorem Ws.same{j H H':Hp}{q G:Addr}{I J:YV}(h:Ws j H q G I J)(s:Same H H'):Ws j H' q G I J:=by
 obtain⟨xs,N,O⟩:=h.w;obtain⟨ys,Y,b2⟩:=h.p;exact{⟨xs,s _ _ N,Paired.Ax O λ_ _ z=>z.tups (Ak.of s)⟩,⟨ys,s _ _ Y,Paired.Ax b2 λ_ _ z=>z.tups (Ak.of s)⟩,h.sm.trans s}
theorem Ws.Fh{q H:Hp}{j G:Addr}{I J ss:YV}{zs xs:YG}(h:Ws q H j G I J)(n:j≠G)(f:q j=none)(N:H j=some (.lst xs))(hz:Paired (BL H) zs ss):Ws q (upd H j (.lst (xs++zs))) j G (I++ss) J:=by
 obtain⟨aa,O,a2⟩:=h.w;obtain⟨ys,b1,b2⟩:=h.p;rw[N] at O;cases O;have nt:∀Y,H j≠some (.tup Y):=λY z=>by rw[N] at z;cases z
 have t:=Ak.upd (o:=.lst (xs++zs)) nt;exact{{_,Ab,Paired.app (Paired.Ax a2 λ_ _ z=>z.tups t) (Paired.Ax hz λ_ _ z=>z.tups t)},⟨ys,by rw[Ao n.symm];exact b1,Paired.Ax b2 λ_ _ z=>z.tups t⟩,h.sm.Bq Ah.upd f}
theorem Ws.add2{q H:Hp}{G j:Addr}{I J ss:YV}{zs ys:YG}(h:Ws q H G j I J)(n:G≠j)(f:q j=none)(N:H j=some (.lst ys))(hz:Paired (BL H) zs ss):Ws q (upd H j (.lst (ys++zs))) G j I (J++ss):=by
 obtain⟨xs,a1,a2⟩:=h.w;obtain⟨aa,O,b2⟩:=h.p;rw[N] at O;cases O;have nt:∀Y,H j≠some (.tup Y):=λY z=>by rw[N] at z;cases z
 have t:=Ak.upd (o:=.lst (ys++zs)) nt;exact{⟨xs,by rw[Ao n];exact a1,Paired.Ax a2 λ_ _ z=>z.tups t⟩,{_,Ab,Paired.app (Paired.Ax b2 λ_ _ z=>z.tups t) (Paired.Ax hz λ_ _ z=>z.tups t)},h.sm.Bq Ah.upd f}
inductive Ww(vs:YG)(H:Hp)(Q:VK)(E:XK):Prop
 | mk (d1 d3 o:Addr) (hs:YR) (gs:YT) (g:Gt) (st:Int) (_:vs=[.ref d1,.ref d3,.ref o,.int st]) (_:Rd H d1 (.dT (stV hs))) (_:Rd H d3 (.dT (gpV gs))) (_:H o=some (.tup [.int g.lp,.int g.at_])) (_:(∀s∈hs.map (·.1),Bd3 s)) (_:(st=1\/st=-1)) (_:-1<=g.at_) (_:g.at_<=14) (_:∀t l1 l2 xs ys H',H' t=some (.tup [.ref l1,.ref l2])->H' l1=some (.lst xs)->Paired (BL H') xs (Bc hs gs g.lp st 16 g.at_).1->H' l2=some (.lst ys)->Paired (BL H') ys (Bc hs gs g.lp st 16 g.at_).2->Same H H'->Q (.ref t) H'):Ww vs H Q E
theorem m7(c:Code K mg "come_to" SJ JW)(T:Tw K mg op oe kd wk C)(aA:⋯ "spur_pieces" 1 Hr XQ):⋯ "come_to" 2 JW Ww:=by
 have sc:=Gi;exists c,Gi
 obtain⟨d1,d3,o,hs,gs,g,st,rfl,hd,av,ho,hb,a4,ga,gb,bm⟩:=h;refine⟨_,(Ae (Ir (pv 2) (CV rfl (Am (4∣Gi) (Am (5∣Gi) Bt))))
 (Ae (6∪Gi∪(BW Ac))
 (Ae (7∪Gi∪(BW Ac))
 (Ae (cQ QbN (Bx WQ (Ot (CJ hr) (pv 0) (Bd (Aa (pv 4) (Aa (Av (Mz rfl) rfl T.min TF (Aa (pv 5) (Aa (Bh Cu (pv 5) (pv 3)) Ac))) (Aa Af Ac)))) Bf ⟨rq,rq,rq,rq⟩) Bf (BK _)) (Ae (Bo (Cq Qar Qan Qao BP (pv 6) (Aa (Bd (Aa (pv 4) (Aa (Av (Mz rfl) rfl T.min TF (Aa (pv 5) (Aa (Bh Cu (pv 5) (pv 3)) Ac))) (Aa Af Ac)))) Ac)))
 (Ae (p8 (i:=5) Gi.nd rfl (Or.inl rfl) (pv 3) qT)
 (Ae (8∪Gi∪(Dc aA hr (Aa (pv 0) (Aa (pv 4) (Aa (pv 5) Ac)))))
 (Ae (Bo (Cq Qar Qap Qaq FT (pv 6) (Aa (pv 8) Ac)))
 (Ae (Bo (Cq Qar Qan Qao BP (pv 7) (Aa (Bd (Aa (pv 4) (Aa (pv 5) (Aa Af Ac)))) Ac)))
 (Ae (Bo (Cq Qar Qap Qaq FT (pv 7) (Aa (pv 8) Ac)))
 (Ag (Cw (uZ (Ot (CJ hr) (pv 1) (Bd (Aa (pv 4) (Aa (pv 5) Ac))) DY ⟨rq,rq,rq,rq⟩) (λ_=>rfl)) (Ag Oj) BR)))))))))
 (Ag (Ba (Bd (Aa (pv 6) (Aa (pv 7) Ac))))))))),?_⟩
 show let R0:TS:=_;let R1:TS:=_;let R2:TS:=Aq _ R1;let R3:TS:=Aq _ R2;let R4:TS:=Aq _ R3;let R5:TS:=Aq _ R4;let R6:TS:=Aq _ R5;let R7:TS:=Aq _ R6;let R8:TS:=Aq (aY _ R7) R0;let R9:TS:=Aq _ R8;let aw:TS:=Aq _ R9;Aq _ aw _ _ _;intro R0 R1 R2 R3 R4 R5 R6 R7 R8 R9 aw;refine⟨_,rq,o,_,rq,SqT.of ho,rq,_,_,rq,_,_,rq,rq,?_⟩;refine⟨jv,λq al=>?_⟩;refine⟨jv,λj am=>?_⟩;have n1:=Ad al (.lst []);have n2:=Ad am (.lst []);have au:H j=none:=n1.free am;have ab:q≠j:=Aw Ab am;have rdS:∀{HA HB:Hp} {d:Addr} {u:HO},Rd HA d u->Same HA HB->Rd HB d u:=λh s=>by
  rcases h with h |⟨o,h⟩
  .exact .inl (s _ _ h)
  .exact .inr ⟨o,s _ _ h⟩
 have a5:(st=1/\g.at_+((16:Nat):Int)=g.at_+16)\/(st=-1/\g.at_ - ((16:Nat):Int)=g.at_ - 16):=by
  rcases a4 with h | h
  .exact .inl ⟨h,by lia⟩
  .exact .inr ⟨h,by lia⟩
 refine{λm U HH=>∃(a:Int) (u8:Option V) (N O:YV),((st=1/\a+m=g.at_+16)\/(st=-1/\a - m=g.at_ - 16))/\U=[js d1,js d3,js o,some (.int st),some (.int g.lp),some (.int a),js q,js j,u8]/\Ws H HH q j N O/\N.length+10*m<=160/\O.length+10*m<=160/\N++(Bc hs gs g.lp st m a).1=(Bc hs gs g.lp st 16 g.at_).1/\O++(Bc hs gs g.lp st m a).2=(Bc hs gs g.lp st 16 g.at_).2,{16,g.at_,_,[],[],a5,rq,{{[],n2 _ _ Ab,.nil},{[],Ab,.nil},n1.trans n2},by decide,by decide,rq,rq},λm U HH h=>?_};obtain⟨a,u8,N,O,hm,rfl,W,e5,e6,Y,e8⟩:=h;refine{_,rq,d1,rq,.inr {_,rdS hd W.sm},_,rq,_,rq,_,rq,_,rq,_,_,rq,rq,_,_,rq,kg,λtk a6=>?_};rw[show (if a+st < a then a+st else a)=Bb a (a+st) from rfl]
 have k1:=Ad a6 (.tup [.int g.lp,.int (Bb a (a+st)),.int 0]);have W1:=W.same k1;have gg:Dt (upd HH tk (.tup [.int g.lp,.int (Bb a (a+st)),.int 0])) d1 (.ref tk) (Dj (stV hs) (k3 ⟨g.lp,Bb a (a+st),0⟩)):=.inr {_,_,tk,rdS hd W1.sm,rq,Ab,rq};refine{_,gg,?_};dsimp only;rw[jH];generalize upd HH tk (.tup [.int g.lp,.int (Bb a (a+st)),.int 0])=HK at *;refine⟨rq,_,rq,?_⟩;have done:∀(HX:Hp) (wx px:YV) (u:Option V) (aa:Int),Ws H HX q j wx px->wx=(Bc hs gs g.lp st 16 g.at_).1->px=(Bc hs gs g.lp st 16 g.at_).2->∀t,HX t=none->Q (.ref t) (upd HX t (.tup [.ref q,.ref j])):=λHX wx px u aa WX ew ep t ht=>by
  have kt:=Ad ht (.tup [.ref q,.ref j]);have WT:=WX.same kt;obtain⟨xs,a1,a2⟩:=WT.w;obtain⟨ys,b1,b2⟩:=WT.p;rw[ew] at a2;rw[ep] at b2;exact bm t q j xs ys _ Ab a1 a2 b1 b2 WT.sm
 by_cases hc:stC hs ⟨g.lp,Bb a (a+st),0⟩="cut"
 .rw[show (!decide (V.str (stC hs ⟨g.lp,Bb a (a+st),0⟩)=V.str "cut"))=false by rw[hc];decide +kernel];have hz:Bc hs gs g.lp st m a=([],[]):=by
   cases m with
   | zero=>rfl
   | succ m=>exact if_pos hc
  rw[hz,QbM] at Y e8;exact Cz {_,rq,_,rq,kf,λt ht=>done HK N O u8 a W1 Y e8 t ht}
 .have a7:¬V.str (stC hs ⟨g.lp,Bb a (a+st),0⟩)=V.str "cut":=λz=>hc (V.str.inj z);rw[show (!decide (V.str (stC hs ⟨g.lp,Bb a (a+st),0⟩)=V.str "cut"))=true by rw[QbO a7];rfl];have a8:(⟨g.lp,Bb a (a+st),0⟩ : Sp3)∈hs.map (·.1):=Qai λz=>hc (LQ z);have hB:=hb _ a8;have ae:0<=Bb a (a+st):=hB.a0;have af:Bb a (a+st)<=12:=hB.a1;obtain⟨J,rfl⟩ : ∃J,m=J+1:=by
   cases m with
   | succ m=>exact⟨m,rfl⟩
   | zero=>
    exfalso;unfold Bb at ae af;rcases hm with⟨h1,h2⟩|⟨h1,h2⟩
    .rw[h1] at ae af;split at af <;> lia
    .rw[h1] at ae af;split at ae <;> lia
  have bn:(Bw hs g.lp (a+st)).length<=4:=RZ _ _ _ 4 1;obtain⟨xs,a1,a2⟩:=W1.w;have lx:=Qcf a2;refine Cm {_,fun bo H' h=>⟨J,QbE _,h⟩,?_};refine{_,rq,.inl ⟨rq,_,SqL.of a1⟩,_,rq,_,rq,_,rq,_,rq,_,_,rq,rq,_,_,rq,kg,λtp a9=>?_};rw[show (if a+st < a then a+st else a)=Bb a (a+st) from rfl]
  have an:=Ad a9 (.tup [.int g.lp,.int (Bb a (a+st)),.int 0]);have W2:=(W1.same an).Fh ab al (an _ _ a1) (zs:=[.ref tp]) (ss:=[⟨g.lp,Bb a (a+st),0⟩]) (.cons ⟨tp,rq,Ab⟩ .nil);refine⟨q,_,_,rq,rq,an _ _ a1,Al 00,?_⟩;generalize upd (upd HK tp (.tup [.int g.lp,.int (Bb a (a+st)),.int 0])) q (.lst (xs++[.ref tp]))=H2 at *;refine{_,rq,_,rq,_,_,rq,rq,?_};refine{_,rq,_,rq,_,rq,d1,hs,g.lp,a+st,rq,rdS hd W2.sm,hb,λlq I H3 ag ax ao s3=>?_};have W3:=W2.same s3;obtain⟨ap,ah,ba⟩:=W3.w;have ay:=Qcf ba;rw[QaV] at ay;have az:=Qcf ao;have JO:lq≠q:=λz=>by obtain⟨bb,e,_⟩:=W2.w;rw[z,e] at ag;cases ag
  have JJ:lq≠j:=λz=>by obtain⟨bb,e,_⟩:=W2.p;rw[z,e] at ag;cases ag
  refine{_,rq,.inl ⟨rq,_,SqL.of ah⟩,_,rq,q,lq,_,_,rq,rq,ah,ax,Ar (by rw[ay,az];show _+1+_<=1000;lia),?_};have W4:=W3.Fh ab al ah ao;have bc:∀us,H3 q≠some (.tup us):=λus z=>by rw[ah] at z;cases z
  have IU:Paired (BL (upd H3 q (.lst (ap++I)))) I (Bw hs g.lp (a+st)):=Paired.Ax ao λ_ _ z=>z.tups (Ak.upd bc);have MY:(upd H3 q (.lst (ap++I))) lq=some (.lst I):=by rw[Ao JO];exact ax
  generalize upd H3 q (.lst (ap++I))=H4 at *;obtain⟨ar,ai,bd⟩:=W4.p;have bp:=Qcf bd;refine{_,rq,.inl ⟨rq,_,SqL.of ai⟩,_,rq,_,rq,kg,λG be=>?_};have k5:=Ad be (.tup [.int g.lp,.int (a+st),.int 0]);have W5:=(W4.same k5).add2 ab au (k5 _ _ ai) (zs:=[.ref G]) (ss:=[⟨g.lp,a+st,0⟩]) (.cons ⟨G,rq,Ab⟩ .nil);refine⟨j,_,_,rq,rq,k5 _ _ ai,Al 00,?_⟩;have bg:∀us,(upd H4 G (.tup [.int g.lp,.int (a+st),.int 0])) j≠some (.tup us):=λus z=>by rw[k5 _ _ ai] at z;cases z
  have IT:Paired (BL (upd (upd H4 G (.tup [.int g.lp,.int (a+st),.int 0])) j (.lst (ar++[.ref G])))) I (Bw hs g.lp (a+st)):=Paired.Ax IU λ_ _ z=>(z.tups (Ak.of k5)).tups (Ak.upd bg);have MX:(upd (upd H4 G (.tup [.int g.lp,.int (a+st),.int 0])) j (.lst (ar++[.ref G]))) lq=some (.lst I):=by rw[Ao JJ];exact k5 _ _ MY
  generalize upd (upd H4 G (.tup [.int g.lp,.int (a+st),.int 0])) j (.lst (ar++[.ref G]))=H5 at *;obtain⟨bi,as,bj⟩:=W5.p;have a3:=Qcf bj;rw[QaV] at a3;refine{_,rq,.inl ⟨rq,_,SqL.of as⟩,_,rq,j,lq,_,_,rq,rq,as,MX,Ar (by rw[a3,az];show _+1+_<=1000;lia),?_};have W6:=W5.add2 ab au as IT;generalize upd H5 j (.lst (bi++I))=H6 at *;refine{_,rq,d3,rq,.inr {_,rdS av W6.sm},_,rq,_,rq,kf,λtg bk=>?_};have k7:=Ad bk (.tup [.int g.lp,.int (a+st)]);have W7:=W6.same k7;have bl:Dt (upd H6 tg (.tup [.int g.lp,.int (a+st)])) d3 (.ref tg) (Dj (gpV gs) (k2 ⟨g.lp,a+st⟩)):=.inr {_,_,tg,rdS av W7.sm,rq,Ab,rq};refine{_,bl,?_};dsimp only;rw[A8];generalize upd H6 tg (.tup [.int g.lp,.int (a+st)])=H7 at *;refine{_,rq,G4 (λhg=>?_) (λhg=>?_)}
  .have hz:Bc hs gs g.lp st (J+1) a=(⟨g.lp,Bb a (a+st),0⟩::Bw hs g.lp (a+st),⟨g.lp,a+st,0⟩::Bw hs g.lp (a+st)):=by
    unfold Bc;rw[if_neg hc,if_pos hg]
   rw[hz] at Y e8;exact{_,rq,_,rq,kf,λt ht=>done H7 _ _ u8 a W7 (by rw[<-Y,Qbm];rfl) (by rw[<-e8,Qbm];rfl) t ht}
  .have hz:Bc hs gs g.lp st (J+1) a=((⟨g.lp,Bb a (a+st),0⟩::Bw hs g.lp (a+st))++(Bc hs gs g.lp st J (a+st)).1,(⟨g.lp,a+st,0⟩::Bw hs g.lp (a+st))++(Bc hs gs g.lp st J (a+st)).2):=by
    conv=>lhs;unfold Bc
    rw[if_neg hc,if_neg (by rw[hg];decide)]
   rw[hz] at Y e8;refine{a+st,_,_,_,?_,rq,W7,?_,?_,by rw[<-Y];simp only[Qbm,QbI,List.nil_append],by rw[<-e8];simp only[Qbm,QbI,List.nil_append]}
   .rcases hm with⟨h1,h2⟩|⟨h1,h2⟩
    .exact .inl ⟨h1,by rw[h1];lia⟩
    .exact .inr ⟨h1,by rw[h1];lia⟩
   .rw[QaV,QaV];show N.length+1+_+_<=_;lia
   .rw[QaV,QaV];show O.length+1+_+_<=_;lia
theorem bx{hs:YR}{s:Sp3}(h:¬stC hs s="cut"):s∈hs.map (·.1):=Qai λz=>h (LQ z)
theorem bD(hs:YR)(lp a:Int):∀f n,∀s∈Dw hs lp a f n,s∈hs.map (·.1)
 | 0,_,s,h=>by cases h
 | f+1,n,s,h=>by
  unfold Dw at h;split at h
  .cases h
  .rename_i hc;rcases Qcg.mp h with rfl | h
   .exact bx hc
   .exact bD hs lp a f (n+1) s h
theorem Rt(hs:YR)(gs:YT)(lp st:Int):∀f a,∀s∈(Bc hs gs lp st f a).1,s∈hs.map (·.1)
 | 0,_,s,h=>by cases h
 | f+1,a,s,h=>by
  unfold Bc at h;split at h
  .cases h
  .rename_i hc;have hw:∀s∈(⟨lp,Bb a (a+st),0⟩::Bw hs lp (a+st):YV),s∈hs.map (·.1):=λs h=>by
    rcases Qcg.mp h with rfl | h
    .exact bx hc
    .exact bD hs lp _ 4 1 s h
   split at h
   .exact hw s h
   .rcases QbK.mp h with h | h
    .exact hw s h
    .exact Rt hs gs lp st f (a+st) s h
theorem Tt(hs:YR)(gs:YT)(lp st:Int):∀f a,(Bc hs gs lp st f a).1.length<=5*f
 | 0,_=>QcA _
 | f+1,a=>by
  have j:=Tt hs gs lp st f (a+st);have q:(Bw hs lp (a+st)).length<=4:=RZ _ _ _ 4 1;unfold Bc;split
  .exact QcB _
  .split
   .show (Bw hs lp (a+st)).length+1<=_;lia
   .have:((⟨lp,Bb a (a+st),0⟩::Bw hs lp (a+st))++(Bc hs gs lp st f (a+st)).1).length=(Bw hs lp (a+st)).length+1+(Bc hs gs lp st f (a+st)).1.length:=by rw[QaV,Qbz]
    show ((⟨lp,Bb a (a+st),0⟩::Bw hs lp (a+st))++(Bc hs gs lp st f (a+st)).1).length<=_;lia
def Dh(hs:YR)(j:YV):Bool:=j.any λs=>decide (V.str (stC hs s)=V.str "short")
def Cy(hs:YR)(gs:YT)(g:Gt):Bool:=Dh hs (Bc hs gs g.lp 1 16 g.at_).1 || Dh hs (Bc hs gs g.lp (-1) 16 g.at_).1
inductive Ud(vs:YG)(H:Hp)(Q:VK)(E:XK):Prop
 | mk (d1 l:Addr) (hs:YR) (xs:YG) (ws:YV) (_:vs=[.ref d1,.ref l]) (_:Rd H d1 (.dT (stV hs))) (_:H l=some (.lst xs)) (_:Paired (BL H) xs ws) (_:(∀s∈ws,s∈hs.map (·.1))) (_:ws.length<=200) (_:∀H',Same H H'->Q (.bl (Dh hs ws)) H'):Ud vs H Q E
inductive Wu(vs:YG)(H:Hp)(Q:VK)(E:XK):Prop
 | mk (d1 d3 o:Addr) (hs:YR) (gs:YT) (g:Gt) (_:vs=[.ref d1,.ref d3,.ref o]) (_:Rd H d1 (.dT (stV hs))) (_:Rd H d3 (.dT (gpV gs))) (_:H o=some (.tup [.int g.lp,.int g.at_])) (_:(∀s∈hs.map (·.1),Bd3 s)) (_:-1<=g.at_) (_:g.at_<=14) (_:∀H',Same H H'->Q (.bl (Cy hs gs g)) H'):Wu vs H Q E
theorem rdS{j q:Hp}{d:Addr}{u:HO}(h:Rd j d u)(s:Same j q):Rd q d u:=by
 rcases h with h |⟨o,h⟩
 .exact .inl (s _ _ h)
 .exact .inr ⟨o,s _ _ h⟩
theorem dI(c:Code K mg "has_short" Lk Ia)(T:Tw K mg op oe kd wk C):⋯ "has_short" 1 Ia Ud:=by
 exists c,cg
 obtain⟨d1,l,hs,xs,q,rfl,hd,J,N,aa,S3,ab⟩:=h;refine⟨_,(Ag (Ba (Av (gD rfl) rfl T.any tL (Aa (Ck (N':=["stretch","states"]) rfl ([none,some 0]|||(Ai Lk)|||Ia) (CZ (pv 1)) (~~~(Aj (i:=0) (show List.Nodup (["stretch","states"]:YF) by trivial) rfl (Or.inl rfl))) (λ_ _ _ _=>CK) (~~~(GQ Gq (NP (CJ hr) (pv 1) (pv 0) 07) Bf (BK _)))) Ac)))),?_⟩;have lx:=Qcf N;refine⟨_,rq,l,rq,⟨_,SqL.of J⟩,λO z=>?_⟩;let J0:YN:=λi U j=>(∃u,U=[u,js d1])/\j O=some (.lst (((q.take i).map λs=>decide (V.str (stC hs s)=V.str "short")).map V.bl))/\Same H j;refine Fi (xs:=xs) J0 {⟨_,rq⟩,Ab,Ad z _} (λi U j _ h=>SqL.of (h.2.2 _ _ J)) (λi x U j G h=>?_) (fun U j h=>?_)
 .obtain⟨⟨u,rfl⟩,e1,e2⟩:=h;obtain⟨sp,I,t,rfl,ht⟩:=Paired.Cp N G;have hi:=(Qah.mp G).1;have hv:Dj (stV hs) (k3 sp)=some (.str (stC hs sp)):=by
   have h1:=Ub sp hs;obtain⟨y,hy,ey⟩:=Qcq.mp (aa sp (QaH I));unfold stC;rw[h1];cases e:hs.find? λx=>decide (x.1=sp) with
   | none=>exact absurd ey (by simpa using List.find?_eq_none.mp e y hy)
   | some ae=>rfl
  have Y:Dt j d1 (.ref t) (Dj (stV hs) (k3 sp)):=.inr {stV hs,k3 sp,t,rdS hd e2,rq,e2 _ _ ht,rq};rw[hv] at Y;unfold Ek;dsimp only;refine Cm {_,rq,_,rq,d1,_,rq,Y,rq,_,e1,Al (by rw[QbJ,QbJ,QbA];lia),⟨_,rq⟩,?_,e2.Bq Ah.upd z};rw[Ab,QcJ I,QbL,QbL];rfl
 .obtain⟨_,e1,e2⟩:=h;rw[lx,Qby] at e1;refine⟨O,_,rq,SqL.of e1,?_⟩;have:(q.map λs=>decide (V.str (stC hs s)=V.str "short")).any id=Dh hs q:=by unfold Dh;rw[List.any_map];rfl
  rw[this];exact ab _ e2
theorem U8(c:Code K mg "comes_to_short" JD Ep)(T:Tw K mg op oe kd wk C)(Y:⋯ "come_to" 2 JW Ww)(Lq:⋯ "has_short" 1 Ia Ud):⋯ "comes_to_short" 3 Ep Wu:=by
 have sc:=Ed;refine c.good Ed (by nofun) λ_ _ _ _ _ H vs Q E q h=>?_
 obtain⟨d1,d3,o,hs,gs,g,rfl,G,N,ho,hb,ga,gb,aa⟩:=h;refine⟨_,(Ae (Ir (SX Y q (Aa (pv 0) (Aa (pv 1) (Aa (pv 2) (Aa Af Ac))))) (CV rfl (Am (3∣Ed) (Am (4∣Ed) Bt))))
 (Ae (Ir (SX Y q (Aa (pv 0) (Aa (pv 1) (Aa (pv 2) (Aa (Px LK Af) Ac))))) (CV rfl (Am (5∣Ed) (Am (6∣Ed) Bt))))
 (Ag (Ba (mK (Ce Lq q (Aa (pv 0) (Aa (pv 3) Ac))) (DX (Ce Lq q (Aa (pv 0) (Aa (pv 5) Ac))))))))),?_⟩
 show let R0:TS:=_;let R1:TS:=Aq _ R0;Aq _ R1 _ _ _;intro R0 R1;have nH:∀st,(Bc hs gs g.lp st 16 g.at_).1.length<=200:=λst=>Qcs (Tt hs gs g.lp st 16 g.at_) 05;refine{_,rq,_,rq,_,rq,d1,d3,o,hs,gs,g,1,rq,G,N,ho,hb,.inl rfl,ga,gb,λt1 l1 l2 O am H1 ab ae af _ _ I=>⟨t1,_,rq,SqT.of ab,rq,_,_,rq,_,_,rq,rq,?_⟩};refine{_,rq,_,rq,_,rq,_,rq,d1,d3,o,hs,gs,g,-1,rq,rdS G I,rdS N I,I _ _ ho,hb,.inr rfl,ga,gb,λt2 l3 l4 ag an H2 ah ai al _ _ J=>⟨t2,_,rq,SqT.of ah,rq,_,_,rq,_,_,rq,rq,?_⟩};have j:=I.trans J;have MZ:Paired (BL H2) O (Bc hs gs g.lp 1 16 g.at_).1:=Paired.Ax af λ_ _ z=>z.tups (Ak.of J);refine{_,rq,_,rq,d1,l1,hs,O,_,rq,rdS G j,J _ _ ae,MZ,Rt hs gs g.lp 1 16 g.at_,nH 1,λH3 s3=>{_,rq,?_}};cases e:Dh hs (Bc hs gs g.lp 1 16 g.at_).1 with
 | true=>
  refine Cm ?_;have:=aa H3 (j.trans s3);unfold Cy at this;rw[e] at this;exact this
 | false=>
  refine Cz {_,rq,_,rq,d1,l3,hs,ag,_,rq,rdS G (j.trans s3),s3 _ _ ai,Paired.Ax al λ_ _ z=>z.tups (Ak.of s3),Rt hs gs g.lp (-1) 16 g.at_,nH (-1),λH4 s4=>?_};have:=aa H4 (j.trans (s3.trans s4));unfold Cy at this;rw[e] at this;exact this
theorem Gw(pl d1 d2 d3:Addr):List.lookup ("gaps":Str) (ff pl d1 d2 d3)=some (V.ref d3):=Tn (i:=3) (fnd pl d1 d2 d3) rfl
def Wg(gs:YT):Prop:=∀x∈gs,-1<=x.1.at_/\x.1.at_<=14
abbrev Qq:Stmt:=(inClass (top 54) 11)
abbrev Jm:YF:=["self","opener"]
theorem Kp:Ay ["self","opener","gap","changed"] Jm (Ai Qq):=by ac_rfl
def setG(gs:YT)(g:Gt)(b:Bool):YT:=gs.map λx=>if x.1=g then (x.1,b) else x
theorem Od(gs:YT)(g:Gt)(b:Bool):(setG gs g b).map (·.1)=gs.map (·.1):=by
 unfold setG;rw[Qct];refine QaQ λx _=>?_;show (if x.1=g then (x.1,b) else x).1=x.1
 split <;> rfl
theorem uO(gs:YT)(g:Gt)(b:Bool):(setG gs g b).length=gs.length:=QbJ ..
theorem A7{gs:YT}{g:Gt}{b:Bool}(h:g∈gs.map (·.1)):putK (gpV gs) (k2 g) (.bl b)=gpV (setG gs g b):=by
 obtain⟨x,j,e⟩:=Qcq.mp h;rw[cO (l:=gpV gs) {_,Qcq.mpr ⟨x,j,rq⟩,by show k2 x.1=_;rw[e]}];unfold gpV setG;rw[Qct,Qct];refine QaQ λy _=>?_;show (if k2 y.1=k2 g then (k2 y.1,V.bl b) else (k2 y.1,V.bl y.2))=(k2 (if y.1=g then (y.1,b) else y).1,V.bl (if y.1=g then (y.1,b) else y).2)
 by_cases e:y.1=g
 .rw[if_pos (by rw[e]),if_pos e]
 .rw[if_neg (λz=>e (Te z)),if_neg e]
theorem Xk{gs:YT}{g:Gt}(h:g∈gs.map (·.1)):Dj (gpV gs) (k2 g)=some (.bl (gpC gs g)):=by
 obtain⟨y,j,q⟩:=Qcq.mp h;unfold gpC;rw[Uu];cases e:gs.find? λx=>decide (x.1=g) with
 | none=>exact absurd q (by simpa using List.find?_eq_none.mp e y j)
 | some z=>rfl
def SD(H:Hp)(v:V)(gs:List Gt):Prop:=∃b g,v=.ref b/\H b=some (.tup [.int g.lp,.int g.at_])/\g∈gs
theorem iI{H:Hp}{v:V}{ss:List Gt}(h:SD H v ss):T7 (Ii H v) 2=true:=by
 obtain⟨b,s,rfl,j,_⟩:=h;rw[Df j];rfl
theorem A6{H:Hp}{v:V}{s:Gt}(h:Du H v s):Th H v:=by
 obtain⟨u,rfl,e⟩:=h;refine{.inr ⟨_,e⟩,λxs ex=>?_};rw[Df e] at ex;cases ex;refine{by show 2<=100;decide,λy j=>?_};have:y=.int s.lp\/y=.int s.at_:=by simpa using j
 rcases this with rfl | rfl <;> exact True.intro
inductive bO(C:Addr)(vs:YG)(H:Hp)(Q:VK)(E:XK):Prop
 | mk (p pl d1 d2 d3 hs fl gs b g) (_:vs=[.ref p,.ref b]) (_:WAt C H p pl d1 d2 d3 hs fl gs) (_:(∀s∈hs.map (·.1),Bd3 s)) (_:Wg gs) (_:H b=some (.tup [.int g.lp,.int g.at_])) (_:g∈gs.map (·.1)) (_:∀H',WAt C H' p pl d1 d2 d3 hs fl (setG gs g (Cy hs gs g))->Ah d3 H H'->Q (.bl (!decide (V.bl (Cy hs gs g)=V.bl (gpC gs g)))) H'):bO C vs H Q E
theorem Dx(c:Nq K C "act" "Wires.act" Qq Jm)(T:Tw K mg op oe kd wk C)(O4:⋯ "are_wholes" 2 GZ Ph)(JK:⋯ "comes_to_short" 3 Ep Wu):FN P w K mg base C "act" 4 Jm (bO C):=by
 have sc:=Kp;refine c.good Kp (by nofun) λ_ _ _ _ _ H vs Q E J h=>?_
 obtain⟨p,pl,d1,d2,d3,hs,fl,gs,b,g,rfl,R,hb,hg,q,G,af⟩:=h;refine⟨_,(Ae (Cw (PW.pt (Pu (Fx (Dz (Ce O4 J (Aa (pv 1) (Aa Af Ac))))) (Oh (Oi (S5 (CJ J) (pv 1) (El (pv 0) rfl)))))) (Ag VF) BR)
 (Ae (2∪Kp∪(Dc JK J (Aa (El (pv 0) rfl) (Aa (El (pv 0) rfl) (Aa (pv 1) Ac)))))
 (Ae (3∪Kp∪(GQ WQ (pv 2) (NP (CJ J) (El (pv 0) rfl) (pv 1) 07) (BK _)))
 (Ae (Ny (CJ J) (El (pv 0) rfl) (pv 1) (pv 2) rfl)
 (Ag (Ba (pv 3))))))),?_⟩
 show let R0:TS:=Aq _ _;let j:TS:=Aq _ R0;let R2:TS:=Aq _ j;Aq _ R2 _ _ _;intro R0 j R2;refine{_,rq,.ref b,2,rq,A6 ⟨b,rq,q⟩,λH1 N=>{_,rq,?_}};rw[iI ⟨b,g,rq,q,G⟩];have j:=R.same N;obtain⟨dx,hp⟩:=j.ins;refine Cz {_,rq,_,rq,p,C,dx,_,_,rq,hp,T.cl,T.Hu,Gw pl d1 d2 d3,d3,_,rq,Dt.t (k:=k2 g) j.gp (N _ _ q),_,rq,?_};rw[Xk G];obtain⟨x,ab,ex⟩:=Qcq.mp G;have gb:=hg x ab;rw[ex] at gb;refine Cz {_,rq,p,C,dx,_,_,rq,hp,T.cl,T.Hi,Ho pl d1 d2 d3,_,rq,p,C,dx,_,_,rq,hp,T.cl,T.Hu,Gw pl d1 d2 d3,_,rq,d1,d3,b,hs,gs,g,rq,.inl j.st,.inl j.gp,N _ _ q,hb,gb.1,gb.2,λH2 s2=>?_};have R2:=j.same s2;obtain⟨O,I⟩:=R2.ins;have Y:=N.trans s2;have gg:=Dt.t (k:=k2 g) R2.gp (Y _ _ q);rw[Xk G] at gg;refine{_,rq,_,rq,p,C,O,_,_,rq,I,T.cl,T.Hu,Gw pl d1 d2 d3,_,rq,d3,_,rq,gg,rq,?_};have l3:=R2.l3;have aa:=R2.gp;have ae:p≠d3:=λz=>by rw[z,aa] at I;cases I
 have nt:∀zs,H2 d3≠some (.tup zs):=λzs z=>by rw[aa] at z;cases z
 refine{_,rq,_,rq,p,C,O,_,_,rq,I,T.cl,T.Hu,Gw pl d1 d2 d3,_,rq,d3,_,rq,M7.t (k:=k2 g) aa (Y _ _ q) (Al (by unfold gpV;rw[QbJ];lia)),?_};rw[A7 G];obtain⟨kvs,hk,hf⟩:=R2.fi;have sT:=Ak.upd (o:=.dT (gpV (setG gs g (Cy hs gs g)))) nt;exact{_,rq,af _ {⟨O,by rw[Ao ae];exact I⟩,by rw[Ao R2.n13];exact R2.st,⟨kvs,by rw[Ao R2.n23];exact hk,Paired.Ax hf λ_ _ z=>z.tups sT⟩,R.nd1,R.nd2,R.l1,R.l2,Ab,by rw[Od];exact R.nd3,by rw[uO];exact R.l3,R.n13,R.n23} ((Ah.of Y).trans Ah.upd)}
abbrev Pq:Stmt:=top 69
abbrev Mi:YF:=["_law_plan_here"]
abbrev xL:YF:=["_law_plan_here","_law_found","_law_loop_here","_law_places"]
theorem Km:Ay xL Mi (Ai Pq):=by ac_rfl
theorem jA{j : Type}{f:Nat->List j}{k:Nat}:∀{n:Nat},k<=n->up f k <+: up f n
 | 0,h=>by rw[show k=0 by lia];exact List.prefix_refl _
 | n+1,h=>by
  by_cases e:k=n+1
  .rw[e];exact List.prefix_refl _
  .rw[DQ];exact List.IsPrefix.trans (jA 00) (List.prefix_append _ _)
inductive X8(vs:YG)(H:Hp)(Q:VK)(E:XK):Prop
 | mk (pl most ja jp) (_:vs=[.ref pl]) (_:Fq H pl most ja jp) (_:∀l xs H',H l=none->H' l=some (.lst xs)->Paired (Du H') xs (up (gtL ja) ja.length)->Same H H'->Q (.ref l) H'):X8 vs H Q E
abbrev xN:YF:=["_law_at","_law_loop_here","_law_places"]
theorem vR(c:Code K mg "_law_gates" Pq Mi)(T:Tw K mg op oe kd wk C):⋯ "_law_gates" 1 Mi X8:=by
 have sc:=Km;exists c,Km
 obtain⟨pl,a7,ja,jp,rfl,pa,a6⟩:=h;refine⟨_,(Ae (1∪Km∪(BW Ac))
 (Ae (Cj QbN rfl (Dp rfl T.range (Aa (Av Bl rfl T.len CP (Aa (Bm BX (pv 0) Af 07) Ac)) Ac)) (Aj (i:=2) Km.nd rfl (Or.inr rfl))
 (Ae (Az (i:=3) Km.nd rfl (Or.inr rfl) (Bm BX (Bm BX (pv 0) Af 07) (pv 2) 07))
 (Ae (Bo (Cq Qar Qan Qao BP (pv 1) (Aa (Bd (Aa (pv 2) (Aa Af Ac))) Ac)))
 (Ae (Bo (Cq Qar Qap Qaq FT (pv 1) (Aa (Ck (N':=xN) rfl ([none,some 2,some 3]|||(Ai Pq)|||xL) (Dp rfl T.range (Aa (Av Bl rfl T.len CP (Aa (pv 3) Ac)) Ac)) (~~~(0∩xN)) (~~~(GP (Bx Gq (Bm (NT (K:=K) rfl) (Bm (NT (K:=K) rfl) (pv 2) (pv 0) 07) Af 07) Bf (BK _)))) (~~~(Bd (Aa (pv 1) (Aa (Bh Cu (pv 0) Af) Ac))))) Ac)))
 (Ag (Bo (Cq Qar Qan Qao BP (pv 1) (Aa (Bd (Aa (pv 2) (Aa (Bh Cu (Av Bl rfl T.len CP (Aa (pv 3) Ac)) Af) Ac))) Ac))))))))
 (Ag (Ba (pv 1))))),?_⟩
 show let R0:TS:=_;let R1:TS:=Aq _ R0;let R2:TS:=Aq _ R1;let R3:TS:=Aq _ R2;let R4:TS:=Aq (Dm _ _ R3) _;Aq _ R4 _ _ _;intro R0 R1 R2 R3 R4;have ok:=pa.ok;obtain⟨Ls,zs,ws,a8,f1,f2,f3,f4,f5⟩:=pa.at_;have lw:=Qcf f3;have l3:=ok.hi;have as:=dz ok;refine⟨jv,λl J=>?_⟩;have n1:=Ad J (.lst []);refine⟨_,rq,pl,_,_,_,rq,rq,SqT.of (n1 _ _ f1),rq,Ls,_,rq,.inr (SqT.of (n1 _ _ f2)),_,rq,by lia,by lia,?_⟩;rw[Qbo];let J0:YN:=λk U j=>∃u2 u3,U=[js pl,js l,u2,u3]/\(∃xs,j l=some (.lst xs)/\Paired (Du j) xs (up (gtL ja) k))/\Same H j;refine Fg J0 {_,_,rq,{[],Ab,.nil},n1} (λk U j hk h=>?_) (fun U j h=>?_)
 .obtain⟨u2,u3,rfl,⟨xs,e1,e2⟩,N⟩:=h;have af:ws[k]?=some ws[k]:=Qam hk;obtain⟨ps,ag,t,I,ev,ht,ah⟩:=Paired.Cp f3 af;have lv:=Qcf ah;have au:k < ja.length:=by lia
  have av:=ok.ok ps (QaH ag);have a9:=av.hi;have aw:gtL ja k=(⟨k,0⟩::up (gt1 k ps) ps.length)++[⟨k,09+1⟩]:=CG ag;have Qx:atI ws ((0:Int)+(k:Int))=some (.ref t):=by rw[Qcz];exact Eu (by rw[af,ev])
  have lx:=Qcf e2;have ba:(up (gtL ja) k).length<=200:=Qcs (jA (f:=gtL ja) (Qcu au)).length_le as;have bb:(up (gt1 (k:Int) ps) ps.length).length<=12:=by
   have:=Ey (f:=gt1 (k:Int) ps) (c:=1) Ut ps.length;lia
  refine{_,rq,pl,_,_,_,rq,rq,SqT.of (N _ _ f1),rq,_,rq,Ls,_,_,_,rq,rq,SqT.of (N _ _ f2),Qx,?_};refine{_,rq,.inl ⟨rq,_,SqL.of e1⟩,_,rq,kf,λta ax=>?_};rw[Qcz];have a1:=Ad ax (.tup [.int (k:Int),.int 0]);have ai:=a1 _ _ e1;refine⟨l,_,_,rq,rq,ai,Al 00,?_⟩;have ay:∀zs,(upd j ta (.tup [.int (k:Int),.int 0])) l≠some (.tup zs):=λzs z=>by rw[ai] at z;cases z
  have sL:=Ak.upd (o:=.lst (xs++[.ref ta])) ay;have p2:Paired (Du (upd (upd j ta (.tup [.int (k:Int),.int 0])) l (.lst (xs++[.ref ta])))) (xs++[.ref ta]) (up (gtL ja) k++[⟨k,0⟩]):=QcC ⟨ta,rq,sL _ _ Ab⟩ (Paired.Ax e2 λ_ _ z=>(z.tups (Ak.of a1)).tups sL);have aa:(upd (upd j ta (.tup [.int (k:Int),.int 0])) l (.lst (xs++[.ref ta]))) l=_:=Ab;have ab:Same H (upd (upd j ta (.tup [.int (k:Int),.int 0])) l (.lst (xs++[.ref ta]))):=(N.trans a1).Bq Ah.upd J;generalize upd (upd j ta (.tup [.int (k:Int),.int 0])) l (.lst (xs++[.ref ta]))=H2 at *;refine{_,rq,.inl ⟨rq,_,SqL.of aa⟩,_,rq,t,_,rq,.inr (SqT.of (ab _ _ ht)),_,rq,by lia,by lia,λlc ae=>?_};rw[Qbo];have bc:l≠lc:=Aw aa ae;let J1:YN:=λi U q=>(∃u,U=[u,some (.int (k:Int)),js t])/\(∃ys,q lc=some (.lst ys)/\Paired (Du q) ys (up (gt1 (k:Int) ps) i)/\ys.length<=i)/\Same H2 q;refine KJ J1 {⟨_,rq⟩,{[],Ab,.nil,QcA _},Ad ae _} (λi U q hi h=>?_) (fun U q h=>?_)
  .obtain⟨⟨u,rfl⟩,⟨ys,g1,O,g4⟩,G⟩:=h;have al:I[i]?=some I[i]:=Qam hi;obtain⟨p,hp,tp,bd,be,ep,az,bg,bi⟩:=Paired.Cp ah al;have NO:atI I ((0:Int)+(i:Int))=some (.ref tp):=by rw[Qcz];exact Eu (by rw[al,ep])
   have am:gt1 (k:Int) ps i=if V.str p.kind=V.str "opener" then [{(k:Int),((1+i:Nat):Int)}] else []:=CG hp
   have s2:=ab.trans G;refine{_,rq,_,rq,t,_,_,_,rq,rq,SqT.of (s2 _ _ ht),NO,tp,_,_,_,rq,rq,SqT.of (s2 _ _ az),rq,rq,_,rq,?_};by_cases Y:V.str p.kind=V.str "opener"
   .rw[Qca Y];refine Cm {_,rq,_,rq,_,_,rq,rq,kf,λtk a0=>?_};rw[Qcz];have b1:=Ad a0 (.tup [.int (k:Int),.int ((i:Int)+1)]);have an:=b1 _ _ g1;have a2:∀zs,(upd q tk (.tup [.int (k:Int),.int ((i:Int)+1)])) lc≠some (.tup zs):=λzs z=>by rw[an] at z;cases z
    have sC:=Ak.upd (o:=.lst (ys++[.ref tk])) a2;refine⟨ys,an,Al 00,⟨_,rq⟩,{_,Ab,?_,by rw[QaV];show _+1<=_;lia},(G.trans b1).Bq Ah.upd ae⟩;rw[DQ,am,if_pos Y];refine QcC ⟨tk,rq,?_⟩ (Paired.Ax O λ_ _ z=>(z.tups (Ak.of b1)).tups sC);rw[sC _ _ Ab];show _=some (HO.tup [.int (k:Int),.int ((1+i:Nat):Int)]);rw[show ((1+i:Nat):Int)=(i:Int)+1 by lia]
   .rw[QbO Y];refine Cz {⟨_,rq⟩,⟨ys,g1,?_,by lia⟩,G};rw[DQ,am,if_neg Y,QbM];exact O
  obtain⟨_,⟨ys,g1,O,g4⟩,G⟩:=h;rw[lv] at O;have ao:=G _ _ aa;refine⟨l,lc,_,_,rq,rq,ao,g1,Ar (by rw[QaV];show _+1+_<=_;lia),?_⟩;have a3:∀zs,q l≠some (.tup zs):=λzs z=>by rw[ao] at z;cases z
  have sY:=Ak.upd (o:=.lst ((xs++[.ref ta])++ys)) a3;have p3:Paired (Du (upd q l (.lst ((xs++[.ref ta])++ys)))) ((xs++[.ref ta])++ys) ((up (gtL ja) k++[⟨k,0⟩])++up (gt1 (k:Int) ps) ps.length):=Paired.app (Paired.Ax p2 λ_ _ z=>(z.tups (Ak.of G)).tups sY) (Paired.Ax O λ_ _ z=>z.tups sY);have ap:(upd q l (.lst ((xs++[.ref ta])++ys))) l=_:=Ab;have ar:Same H (upd q l (.lst ((xs++[.ref ta])++ys))):=(ab.trans G).Bq Ah.upd J;generalize upd q l (.lst ((xs++[.ref ta])++ys))=H3 at *;refine{_,rq,.inl ⟨rq,_,SqL.of ap⟩,_,rq,_,rq,t,_,rq,.inr (SqT.of (ar _ _ ht)),_,_,rq,rq,kf,λtb a4=>?_};have b3:=Ad a4 (.tup [.int (k:Int),.int ((I.length:Int)+1)]);have e3:=b3 _ _ ap;have a5:∀zs,(upd H3 tb (.tup [.int (k:Int),.int ((I.length:Int)+1)])) l≠some (.tup zs):=λzs z=>by rw[e3] at z;cases z
  have s4:=Ak.upd (o:=.lst (((xs++[.ref ta])++ys)++[.ref tb])) a5;refine⟨l,_,_,rq,rq,e3,Al (by rw[QaV,QaV];show _+1+_<=_;lia),_,_,rq,{_,Ab,?_},(ar.trans b3).Bq Ah.upd J⟩;rw[DQ,aw,show up (gtL ja) k++((⟨k,0⟩::up (gt1 (k:Int) ps) ps.length)++[⟨k,09+1⟩])=((up (gtL ja) k++[⟨k,0⟩])++up (gt1 (k:Int) ps) ps.length)++[⟨k,09+1⟩] from by simp only[Qbm,QbI,List.nil_append]]
  refine QcC ⟨tb,rq,?_⟩ (Paired.Ax p3 λ_ _ z=>(z.tups (Ak.of b3)).tups s4);rw[s4 _ _ Ab,lv]
 .obtain⟨u2,u3,rfl,⟨xs,e1,e2⟩,N⟩:=h;rw[lw] at e2;exact{_,rq,a6 l xs j J e1 e2 N}
abbrev Vw:Stmt:=top 68
abbrev K8:YF:=["_law_plan_here","_law_hows","_law_stops","_law_loop_here","_law_place","_law_step"]
theorem EY:Ay ["_law_plan_here","_law_hows","_law_stops","_law_loop_here","_law_place","_law_step","_law_places","_law_short","_law_spots","_law_at","_law_how","_law_way"] K8 (Ai Vw):=by ac_rfl
def CT(hw:YR)(s:Sp3):Str:=((hw.find? λx=>decide (x.1=s)).map (·.2)).getD "whole"
theorem fu(hw:YR)(s:Sp3):(Dj (stV hw) (k3 s)).getD (.str "whole")=.str (CT hw s):=by
 rw[Ub];unfold CT;cases hw.find? λx=>decide (x.1=s) <;> rfl
def inG(sp:YT)(g:Gt):Bool:=(Dj (gpV sp) (k2 g)).isSome
def bS(z:Str):Bool:=decide (V.str z=V.str "short")
def Dg(hw:YR)(lp a:Int):Nat->Nat->Bool->Bool×YV
 | 0,_,b=>(b,[])
 | f+1,n,b=>if CT hw ⟨lp,a,(n:Int)⟩="cut" then (b,[]) else ((Dg hw lp a f (n+1) (b || bS (CT hw ⟨lp,a,(n:Int)⟩))).1,⟨lp,a,(n:Int)⟩::(Dg hw lp a f (n+1) (b || bS (CT hw ⟨lp,a,(n:Int)⟩))).2)
def spN(ps:List Place)(a:Int):Nat:=(ps[(a - 1).toNat]?.map λp=>p.spur.length).getD 0
def GD(hw:YR)(sp:YT)(ps:List Place)(lp st:Int):Nat->Int->Bool->Bool×YV
 | 0,_,b=>(b,[])
 | f+1,a,b=>if CT hw ⟨lp,Bb a (a - st),0⟩="cut" then (b,[]) else
  if a=0\/09 < a then (b || bS (CT hw ⟨lp,Bb a (a - st),0⟩),[]) else
  if inG sp ⟨lp,a⟩=true then ('h'.1,⟨lp,a,0⟩::'h'.2) else
  ((GD hw sp ps lp st f (a+st) 'h'.1).1,(⟨lp,a,0⟩::'h'.2)++(GD hw sp ps lp st f (a+st) 'h'.1).2)
section
variable{hw:YR}{sp:YT}{ps:List Place}{lp st:Int}{f:Nat}{a:Int}{b:Bool}
theorem RQ(h:CT hw ⟨lp,Bb a (a - st),0⟩="cut"):GD hw sp ps lp st (f+1) a b=(b,[]):=if_pos h
theorem RP(h:¬CT hw ⟨lp,Bb a (a - st),0⟩="cut")(h2:a=0\/09 < a):GD hw sp ps lp st (f+1) a b=(b || bS (CT hw ⟨lp,Bb a (a - st),0⟩),[]):=(if_neg h).trans (if_pos h2)
theorem QZ(h:¬CT hw ⟨lp,Bb a (a - st),0⟩="cut")(h2:¬(a=0\/09 < a))(j:inG sp ⟨lp,a⟩=true):GD hw sp ps lp st (f+1) a b=('h'.1,⟨lp,a,0⟩::'h'.2):=(if_neg h).trans ((if_neg h2).trans (if_pos j))
theorem Vl(h:¬CT hw ⟨lp,Bb a (a - st),0⟩="cut")(h2:¬(a=0\/09 < a))(j:¬inG sp ⟨lp,a⟩=true):GD hw sp ps lp st (f+1) a b=((GD hw sp ps lp st f (a+st) 'h'.1).1,(⟨lp,a,0⟩::'h'.2)++(GD hw sp ps lp st f (a+st) 'h'.1).2):=(if_neg h).trans ((if_neg h2).trans (if_neg j))
end
theorem Zm(hw:YR)(lp a:Int):∀f n b,(Dg hw lp a f n b).2.length<=f
 | 0,_,_=>QcA _
 | f+1,n,b=>by
  unfold Dg;split
  .exact QcB _
  .have:=Zm hw lp a f (n+1) (b || bS (CT hw ⟨lp,a,(n:Int)⟩));show _+1<=f+1;lia
def GC(ps:List Place)(st a:Int):Nat:=if st=1 then (09+1 - a).toNat else a.toNat
def Gz(hw:YR)(sp:YT)(ps:List Place)(lp st a:Int):Bool×YV:=GD hw sp ps lp st (GC ps st a) (a+st) false
theorem zB{j H:Hp}{l t:Addr}{acc:YV}{s:Sp3}{xs:YG}(f:j l=none)(G:Same j H)(I:H l=some (.lst xs))(J:Paired (BL H) xs acc)(N:H t=none) :
  (upd (upd H t (.tup [.int s.lp,.int s.at_,.int s.n])) l (.lst (xs++[.ref t]))) l=some (.lst (xs++[.ref t]))/\Paired (BL (upd (upd H t (.tup [.int s.lp,.int s.at_,.int s.n])) l (.lst (xs++[.ref t])))) (xs++[.ref t]) (acc++[s])/\Same j (upd (upd H t (.tup [.int s.lp,.int s.at_,.int s.n])) l (.lst (xs++[.ref t]))):=by
 have k:=Ad N (.tup [.int s.lp,.int s.at_,.int s.n]);have e:=k _ _ I;have O:∀zs,(upd H t (.tup [.int s.lp,.int s.at_,.int s.n])) l≠some (.tup zs):=λzs z=>by rw[e] at z;cases z
 have q:=Ak.upd (o:=.lst (xs++[.ref t])) O;exact⟨Ab,QcC ⟨t,rq,q _ _ Ab⟩ (Paired.Ax J λ_ _ z=>(z.tups (Ak.of k)).tups q),(G.trans k).Bq Ah.upd f⟩
inductive Wq(vs:YG)(H:Hp)(Q:VK)(E:XK):Prop
 | mk (pl:Addr) (most:Int) (ja:YU) (jp:List Zone) (d e:Addr) (hw:YR) (sp:YT) (k:Nat) (ps:List Place) (a st:Int) (_:vs=[.ref pl,.ref d,.ref e,.int (k:Int),.int a,.int st]) (_:Fq H pl most ja jp) (_:ja[k]?=some ps) (_:H d=some (.dT (stV hw))) (_:H e=some (.dT (gpV sp))) (_:(st=1\/st=-1)) (_:0<=a) (_:a<=09+1) (_:∀t l xs H',H' t=some (.tup [.bl (Gz hw sp ps k st a).1,.ref l])->H' l=some (.lst xs)->Paired (BL H') xs (Gz hw sp ps k st a).2->Same H H'->Q (.ref t) H'):Wq vs H Q E
def B6(i j:Nat):TE:=fun U H Q=>∃b z,U[i]?=some (some (.bl b))/\U[j]?=some (some (.str z))/\Q (.bl (b || bS z)) H
theorem AH(c:Code K mg "_law_walk" Vw K8)(T:Tw K mg op oe kd wk C):⋯ "_law_walk" 1 K8 Wq:=by
 have sc:=EY;exists c,EY
 obtain⟨pl,b8,ja,jp,d,e,hw,sp,k,ps,a,st,rfl,pa,au,hd,he,an,a0,a1,aa⟩:=h;refine⟨_,(Ae (6∪EY∪(Bm BX (Bm BX (pv 0) Af 07) (pv 3) 07))
 (Ae (7∪EY∪DY)
 (Ae (8∪EY∪(BW Ac))
 (Ae (Cj QbN rfl (qe rfl T.range (Aa (Bh Cu (pv 4) (pv 5)) (Aa (Bm Ds (BW (Aa (Px LK Af) (Aa (Bh Cu (Av Bl rfl T.len CP (Aa (pv 6) Ac)) Af) Ac))) (CW ZL rfl T.int gH (Aa (GQ Uk (pv 5) Af (BK _)) Ac)) 07) (Aa (pv 5) Ac)))) (9∣EY)
 (Ae (10∪EY∪(Ot (CJ hr) (pv 1) (Bd (Aa (pv 3) (Aa (Av (Mz rfl) rfl T.min TF (Aa (pv 9) (Aa (Bh dj (pv 9) (pv 5)) Ac))) (Aa Af Ac)))) Bf ⟨rq,rq,rq,rq⟩))
 (Ae (Cw (Bx Gq (pv 10) Bf (BK _)) (Ag Oj) BR)
 (Ae (7∪EY∪(PE.weak (ta':=(B6 7 10)) (mK (pv 7) (DX (GQ Gq (pv 10) Bf (BK _)))) (fun U H Q h=>by
    obtain⟨b,z,e1,e2,aa⟩:=h;refine{_,e1,_,rq,?_};cases b with
    | true=>exact Cm aa
    | false=>exact Cz ⟨_,e2,rfl,aa⟩)))
 (Ae (Cw (PW.pt (Pu (Bx Gq (pv 9) Af (BK _)) (Oh (Bx Uk (pv 9) (Av Bl rfl T.len CP (Aa (pv 6) Ac)) (BK _))))) (Ag Oj) BR)
 (Ae (Bo (Cq Qar Qan Qao BP (pv 8) (Aa (Bd (Aa (pv 3) (Aa (pv 9) (Aa Af Ac)))) Ac)))
 (Ae (Cj QbN rfl (qg rfl T.range (Aa Af (Aa (Bh Cu (Av Bl rfl T.len CP (Aa (Bm BX (Bm BX (pv 6) (Bh dj (pv 9) Af) 07) Af 07) Ac)) Af) Ac))) (11∣EY)
 (Ae (10∪EY∪(Ot (CJ hr) (pv 1) (Bd (Aa (pv 3) (Aa (pv 9) (Aa (pv 11) Ac)))) Bf ⟨rq,rq,rq,rq⟩))
 (Ae (Cw (Bx Gq (pv 10) Bf (BK _)) (Ag Oj) BR)
 (Ae (7∪EY∪(PE.weak (ta':=(B6 7 10)) (mK (pv 7) (DX (GQ Gq (pv 10) Bf (BK _)))) (fun U H Q h=>by
    obtain⟨b,z,e1,e2,aa⟩:=h;refine{_,e1,_,rq,?_};cases b with
    | true=>exact Cm aa
    | false=>exact Cz ⟨_,e2,rfl,aa⟩)))
 (Ag (Bo (Cq Qar Qan Qao BP (pv 8) (Aa (Bd (Aa (pv 3) (Aa (pv 9) (Aa (pv 11) Ac)))) Ac))))))))
 (Ag (Cw (Oi (WL (CJ hr) (Bd (Aa (pv 3) (Aa (pv 9) Ac))) (pv 2))) (Ag Oj) BR)))))))))
 (Ag (Ba (Bd (Aa (pv 7) (Aa (pv 8) Ac))))))))),?_⟩
 show let R0:TS:=_;let R1:TS:=_;let R2:TS:=_;let R3:TS:=Aq _ R2;let R4:TS:=Aq _ R3;let R5:TS:=Aq _ R4;let R6:TS:=Aq (Dm _ _ R5) R1;let R7:TS:=Aq _ R6;let R8:TS:=Aq _ R7;let R9:TS:=Aq _ R8;let a2:TS:=Aq _ R9;let a3:TS:=Aq _ a2;let a4:TS:=Aq (Dm _ _ a3) R0;let a5:TS:=Aq _ a4;let a6:TS:=Aq _ a5;Aq _ a6 _ _ _;intro R0 R1 R2 R3 R4 R5 R6 R7 R8 R9 a2 a3 a4 a5 a6;have ok:=pa.ok;obtain⟨Ls,zs,ws,b9,f1,f2,f3,f4,f5⟩:=pa.at_;have lw:=Qcf f3;have ca:=(Qah.mp au).1;have a7:ws[k]?=some ws[k]:=Qam 00;obtain⟨cb,G6,t,ae,ev,ht,a8⟩:=Paired.Cp f3 a7;rw[au] at G6;cases G6;have lv:=Qcf a8;have a9:=ok.ok ps (QaH au);have cc:=a9.hi;have Qx:atI ws (k:Int)=some (.ref t):=Eu (by rw[a7,ev]);obtain⟨G,ah⟩ : ∃G,Gz hw sp ps k st a=G:=⟨_,rfl⟩;obtain⟨n,ao⟩ : ∃n,GC ps st a=n:=⟨_,rfl⟩;have nE:(st=1/\(n:Int)=09+1 - a)\/(st=-1/\(n:Int)=a):=by
  rw[<-ao];unfold GC;rcases an with h | h
  .rw[if_pos h];exact .inl ⟨h,by lia⟩
  .rw[if_neg 00];exact .inr ⟨h,by lia⟩
 unfold Gz at ah;rw[ao] at ah;have aa:∀t l xs H',H' t=some (.tup [.bl G.1,.ref l])->H' l=some (.lst xs)->Paired (BL H') xs G.2->Same H H'->Q (.ref t) H':=by
  intro t l xs H' h1 h2 h3 h4;refine aa t l xs H' ?_ h2 ?_ h4
  .unfold Gz;rw[ao,ah];exact h1
  .unfold Gz;rw[ao,ah];exact h3
 refine{_,rq,pl,_,_,_,rq,rq,SqT.of f1,rq,_,rq,Ls,_,_,_,rq,rq,SqT.of f2,Qx,?_};refine⟨jv,λl hl=>?_⟩;have n1:=Ad hl (.lst []);refine NR ?_;dsimp only;show Aq (Dm _ _ _) _ _ _ _;refine Sg (fun U N=>∃(u9 I J:Option V) (xs:YG),U=[js pl,js d,js e,some (.int (k:Int)),some (.int a),some (.int st),js t,some (.bl G.1),js l,u9,I,J]/\N l=some (.lst xs)/\Paired (BL N) xs G.2/\Same H N) (fun U N h=>?_) (λD' hn=>?_)
 .obtain⟨u9,I,J,xs,rfl,e1,e2,e3⟩:=h;refine{_,rq,_,rq,kf,λtt bn=>?_};have kt:=Ad bn (.tup [.bl G.1,.ref l]);exact aa tt l xs _ Ab (kt _ _ e1) (Paired.Ax e2 λ_ _ z=>z.tups (Ak.of kt)) (e3.trans kt)
 have bo:∀m:Nat,atI [V.int (-1),V.int ((m:Int)+2)] (if decide (0 < st)=true then 1 else 0)=some (.int (if st=1 then (m:Int)+2 else -1)):=λm=>by
  rcases an with rfl | rfl <;> rfl
 refine{_,rq,_,rq,_,_,rq,rq,_,rq,_,rq,t,_,rq,.inr (SqT.of (n1 _ _ ht)),_,_,rq,rq,kf,λlr bp=>?_};have n2:=Ad bp (.lst [V.int (-1),V.int ((ae.length:Int)+2)]);have e1:=n2 _ _ (Ab (H:=H) (a:=l) (o:=.lst []));refine{_,rq,_,_,rq,rq,.inr {_,rq,lr,_,_,_,rq,rq,SqL.of Ab,bo ae.length,_,rq,_,_,_,rq,an,?_,?_}}
 .rcases an with h | h
  .rw[h,if_pos rfl];lia
  .rw[h,if_neg 05];lia
 have bq:(if st=1 then ((if st=1 then (ae.length:Int)+2 else -1) - (a+st)).toNat else (a+st - (if st=1 then (ae.length:Int)+2 else -1)).toNat)=n:=by
  rcases nE with⟨h,h'⟩|⟨h,h'⟩
  .rw[if_pos h,if_pos h,h,lv];lia
  .rw[if_neg 00,if_neg 00,h];lia
 rw[bq];have br:=n1.trans n2;generalize upd (upd H l (.lst [])) lr _=H1 at *;let J0:YN:=λi U N=>∃(b:Bool) (acc:YV) (x:Int) (u9 I J:Option V) (xs:YG),x=a+st+(i:Int)*st/\U=[js pl,js d,js e,some (.int (k:Int)),some (.int a),some (.int st),js t,some (.bl b),js l,u9,I,J]/\N l=some (.lst xs)/\Paired (BL N) xs acc/\Same H N/\acc.length<=4*i/\(GD hw sp ps k st (n - i) x b).1=G.1/\acc++(GD hw sp ps k st (n - i) x b).2=G.2;refine oN J0 ⟨false,[],a+st,_,_,_,[],by simp,rq,e1,.nil,br,QcA _,by rw[<-ah];rfl,by rw[<-ah];rfl⟩ (λi U N hi h=>?_) (fun U N h=>?_)
 .obtain⟨b,acc,x,u9,I,J,xs,hx,rfl,e1,e2,sm,la,Y,w2⟩:=h;obtain⟨m,hm⟩ : ∃m,n - i=m+1:={n - i - 1,by lia};have ba:n - (i+1)=m:=by lia
  rw[hm] at Y w2;rw[<-hx];have SU:0<=x/\x<=09+1:=by
   rcases nE with⟨h1,h2⟩|⟨h1,h2⟩
   .rw[h1] at hx;lia
   .rw[h1] at hx;lia
  have S1:i<=13:=by
   rcases nE with⟨h1,h2⟩|⟨h1,h2⟩ <;> lia
  have cd:=Qcf e2;refine{_,rq,d,rq,.inr {_,.inl (sm _ _ hd)},_,rq,_,rq,_,rq,_,rq,_,_,rq,rq,_,_,rq,kg,λtk bs=>?_};rw[show (if x - st < x then x - st else x)=Bb x (x - st) from rfl]
  have k1:=Ad bs (.tup [.int (k:Int),.int (Bb x (x - st)),.int 0]);have gg:Dt (upd N tk (.tup [.int (k:Int),.int (Bb x (x - st)),.int 0])) d (.ref tk) (Dj (stV hw) (k3 {(k:Int),Bb x (x - st),0})):=.inr {_,_,tk,.inl ((sm.trans k1) _ _ hd),rq,Ab,rq};refine{_,gg,?_};dsimp only;rw[fu];have af:=k1 _ _ e1;have ap:Paired (BL (upd N tk (.tup [.int (k:Int),.int (Bb x (x - st)),.int 0]))) xs acc:=Paired.Ax e2 λ_ _ z=>z.tups (Ak.of k1);have al:=sm.trans k1;generalize upd N tk (.tup [.int (k:Int),.int (Bb x (x - st)),.int 0])=HK at *;refine{_,rq,rq,_,rq,G4 (λhc=>?_) (λhc=>?_)}
  .have xR:CT hw {(k:Int),Bb x (x - st),0}="cut":=V.str.inj (Qbq hc);rw[RQ xR] at Y w2;have et:G=(b,acc):=Prod.ext Y.symm (by rw[<-w2,QbM]);subst et;exact hn _ _ ⟨_,_,_,xs,rq,af,ap,al⟩
  have av:¬CT hw {(k:Int),Bb x (x - st),0}="cut":=λz=>of_decide_eq_false hc (by rw[z]);refine⟨b,_,rq,rq,?_⟩;have bb:(x=0\/09 < x)->G=(b || bS (CT hw {(k:Int),Bb x (x - st),0}),acc):=λhh=>by
   rw[RP av hh] at Y w2;exact Prod.ext Y.symm (by rw[<-w2,QbM])
  refine{_,rq,rq,_,rq,G4 (λh0=>?_) (λh0=>{_,rq,_,rq,t,_,rq,.inr (SqT.of (al _ _ ht)),_,_,rq,rq,_,rq,G4 (λh1=>?_) (λh1=>?_)})}
  .have et:=bb (.inl (V.int.inj (Qbq h0)));subst et;exact Cm (hn _ _ ⟨_,_,_,xs,rq,af,ap,al⟩)
  .have et:=bb (.inr (by rw[<-lv];exact Qbq h1));subst et;exact hn _ _ ⟨_,_,_,xs,rq,af,ap,al⟩
  have bc:¬(x=0\/09 < x):=by
   rintro (z | z)
   .exact of_decide_eq_false h0 (by rw[z])
   .exact of_decide_eq_false h1 (by rw[lv];exact z)
  obtain⟨ag,hj,ce⟩ : ∃ag:Nat,x=(ag:Int)+1/\ag < ps.length:={(x - 1).toNat,by lia,by lia};have bd:ae[ag]?=some ae[ag]:=Qam 00;obtain⟨p,hp,tp,ua,bt,ep,bu,bv,bz⟩:=Paired.Cp a8 bd;have b0:=a9.ok p (QaH hp);have SV:=b0.spur;have cf:=Qcf bz;have fj:spN ps x=p.spur.length:=by
   unfold spN;rw[show (x - 1).toNat=ag by lia,hp];rfl
  generalize ai:Dg hw k x (spN ps x) 1 (b || bS (CT hw {(k:Int),Bb x (x - st),0}))=r at *;have lr:r.2.length<=3:=by
   rw[<-ai];have:=Zm hw k x (spN ps x) 1 (b || bS (CT hw {(k:Int),Bb x (x - st),0}));lia
  have ch:=af;refine{_,rq,.inl ⟨rq,_,SqL.of af⟩,_,rq,_,rq,kg,λtq be=>⟨l,_,_,rq,rq,(Ad be _) _ _ af,Al 00,?_⟩};obtain⟨g1,g2,g3⟩:=zB (s:={(k:Int),x,0}) hl al af ap be;generalize upd (upd HK tq (.tup [.int (k:Int),.int x,.int 0])) l (.lst (xs++[.ref tq]))=HQ at *;dsimp only;show Aq (Dm _ _ _) _ _ _ _;refine Sg (fun U q=>∃(I J:Option V) (ys:YG),U=[js pl,js d,js e,some (.int (k:Int)),some (.int a),some (.int st),js t,some (.bl r.1),js l,some (.int x),I,J]/\q l=some (.lst ys)/\Paired (BL q) ys (acc++{(k:Int),x,0}::r.2)/\Same H q) (fun U q h=>?_) (λD2 ar=>?_)
  .obtain⟨I,J,ys,rfl,i1,i2,i3⟩:=h;refine{_,rq,_,rq,kf,λtg b1=>?_};have aw:=Ad b1 (.tup [.int (k:Int),.int x]);have bg:=aw _ _ i1;have bi:Paired (BL (upd q tg (.tup [.int (k:Int),.int x]))) ys (acc++{(k:Int),x,0}::r.2):=Paired.Ax i2 λ_ _ z=>z.tups (Ak.of aw);have ax:=i3.trans aw;have b2:Dt (upd q tg (.tup [.int (k:Int),.int x])) e (.ref tg) (Dj (gpV sp) (k2 {(k:Int),x})):=.inr {_,_,tg,.inl (ax _ _ he),rq,Ab,rq};generalize upd q tg (.tup [.int (k:Int),.int x])=HJ at *;refine{_,rq,e,_,rq,b2,_,rq,G4 (λhg=>?_) (λhg=>?_)}
   .rw[QZ av bc hg,ai] at Y w2;have et:G=(r.1,acc++{(k:Int),x,0}::r.2):=Prod.ext Y.symm w2.symm;subst et;exact hn _ _ ⟨_,_,_,ys,rq,bg,bi,ax⟩
   .rw[Vl av bc (by unfold inG;rw[hg];decide),ai] at Y w2;refine⟨r.1,_,x+st,_,_,_,ys,?_,rq,bg,bi,ax,?_,?_,?_⟩
    .rw[hx,Int.natCast_add,Int.add_mul,show ((1:Nat):Int)=1 from rfl,Int.one_mul]
     lia
    .rw[QaV,Qbz];lia
    .rw[ba];exact Y
    .rw[ba,<-w2];simp only[Qbm]
  have xT:atI ae (x - 1)=some (.ref tp):=by rw[show x - 1=(ag:Int) by lia];exact Eu (by rw[bd,ep])
  refine{_,rq,_,rq,_,_,rq,rq,t,_,_,_,rq,rq,SqT.of (g3 _ _ ht),xT,tp,_,_,_,rq,rq,SqT.of (g3 _ _ bu),rq,ua,_,rq,.inr (SqT.of (g3 _ _ bv)),_,_,rq,rq,_,_,rq,{by decide,by decide,by lia,by lia},?_};rw[show ((bt.length:Int)+1 - 1).toNat=p.spur.length by lia];rw[fj] at ai;let J1:YN:=λj U q=>∃(O:Bool) (ab:YV) (I J:Option V) (ys:YG),U=[js pl,js d,js e,some (.int (k:Int)),some (.int a),some (.int st),js t,some (.bl O),js l,some (.int x),I,J]/\q l=some (.lst ys)/\Paired (BL q) ys ab/\Same H q/\ab.length<=4*i+1+j/\(Dg hw k x (p.spur.length - j) (1+j) O).1=r.1/\ab++(Dg hw k x (p.spur.length - j) (1+j) O).2=acc++{(k:Int),x,0}::r.2;refine Fg J1 {_,_,_,_,_,rq,g1,g2,g3,by rw[QaV];show _+1<=_;lia,by rw[<-ai];rfl,by rw[<-ai];simp only[Qbm,QbI,List.nil_append];rfl} (λj U q ci h=>?_) (fun U q h=>?_)
  .obtain⟨O,ab,I,J,ys,rfl,i1,i2,i3,i4,i5,i6⟩:=h;obtain⟨m2,b3⟩ : ∃m2,p.spur.length - j=m2+1:={p.spur.length - j - 1,by lia};have az:p.spur.length - (j+1)=m2:=by lia
   rw[b3] at i5 i6;have ck:=Qcf i2;rw[show (1:Int)+(j:Int)=06 by lia];refine{_,rq,d,rq,.inr {_,.inl (i3 _ _ hd)},_,rq,_,rq,_,rq,kg,λam Na=>?_};have k1:=Ad Na (.tup [.int (k:Int),.int x,.int 06]);have b4:Dt (upd q am (.tup [.int (k:Int),.int x,.int 06])) d (.ref am) (Dj (stV hw) (k3 {(k:Int),x,06})):=.inr {_,_,am,.inl ((i3.trans k1) _ _ hd),rq,Ab,rq};refine{_,b4,?_};dsimp only;rw[fu];have as:=k1 _ _ i1;have bj:Paired (BL (upd q am (.tup [.int (k:Int),.int x,.int 06]))) ys ab:=Paired.Ax i2 λ_ _ z=>z.tups (Ak.of k1);have bk:=i3.trans k1;generalize upd q am (.tup [.int (k:Int),.int x,.int 06])=cl at *;refine{_,rq,rq,_,rq,G4 (λay=>?_) (λay=>?_)}
   .have xR:CT hw {(k:Int),x,06}="cut":=V.str.inj (Qbq ay);rw[show Dg hw k x (m2+1) (1+j) O=(O,[]) from if_pos xR] at i5 i6
    have e5:O=r.1:=i5;have e6:ab=acc++{(k:Int),x,0}::r.2:=by rw[<-i6,QbM]
    rw[<-e5,<-e6] at ar;exact ar _ _ ⟨_,_,ys,rq,as,bj,bk⟩
   have NB:¬CT hw {(k:Int),x,06}="cut":=λz=>of_decide_eq_false ay (by rw[z]);refine⟨O,_,rq,rq,?_⟩;refine{_,rq,.inl ⟨rq,_,SqL.of as⟩,_,rq,_,rq,_,rq,kg,λtr bm=>⟨l,_,_,rq,rq,(Ad bm _) _ _ as,Al 00,?_⟩};obtain⟨b5,b6,b7⟩:=zB (s:={(k:Int),x,06}) hl bk as bj bm;rw[show Dg hw k x (m2+1) (1+j) O=((Dg hw k x m2 (1+j+1) (O || bS (CT hw {(k:Int),x,06}))).1,{(k:Int),x,06}::(Dg hw k x m2 (1+j+1) (O || bS (CT hw {(k:Int),x,06}))).2) from if_neg NB] at i5 i6
   refine{_,_,_,_,_,rq,b5,b6,b7,by rw[QaV];show _+1<=_;lia,?_,?_}
   .rw[az];exact i5
   .rw[az,<-i6];simp only[Qbm,QbI,List.nil_append];rfl
  .obtain⟨O,ab,I,J,ys,rfl,i1,i2,i3,i4,i5,i6⟩:=h;rw[Nat.sub_self] at i5 i6;have e5:O=r.1:=i5;have e6:ab=acc++{(k:Int),x,0}::r.2:=by rw[<-i6];unfold Dg;rw[QbM]
   rw[<-e5,<-e6] at ar;exact ar _ _ ⟨_,_,ys,rq,i1,i2,i3⟩
 .obtain⟨b,acc,x,u9,I,J,xs,hx,rfl,e1,e2,sm,la,Y,w2⟩:=h;rw[Nat.sub_self] at Y w2;have et:G=(b,acc):=Prod.ext Y.symm (by rw[<-w2];unfold GD;rw[QbM]);subst et;exact hn _ _ ⟨_,_,_,xs,rq,e1,e2,sm⟩
abbrev Pr:Stmt:=top 70
abbrev Mj:YF:=["_law_plan_here","_law_hows","_law_stops","_law_gate"]
abbrev xS:YF:=["_law_plan_here","_law_hows","_law_stops","_law_gate","_law_loop_here","_law_place"]
theorem Nb:Ay xS Mj (Ai Pr):=by ac_rfl
def Wd(hs hw:YR):Prop:=∀s∈hs.map (·.1),stC hs s=CT hw s
def gU(gs sp:YT):Prop:=∀g,gpC gs g=inG sp g
theorem Kz{ja:YU}{k:Nat}{ps:List Place}(q:ja[k]?=some ps){a n:Int}:({(k:Int),a,n} : Sp3)∈up (stL ja) ja.length ↔ (a=0/\n=0)\/∃(j:Nat) (p:Place),ps[j]?=some p/\a=06/\0<=n/\n<=(p.spur.length:Int):=by
 have G:=(Qah.mp q).1;constructor
 .intro h;obtain⟨i,hi,h⟩:=En h;obtain⟨N,I,h⟩:=Fp h;rcases Qcg.mp h with h | h
  .injection h with e1 e2 e3;exact .inl ⟨e2,e3⟩
  .obtain⟨j,O,h⟩:=En h;obtain⟨p,z,h⟩:=Fp h;obtain⟨m,J,e⟩:=Qcq.mp h;injection e with e1 e2 e3;have:i=k:=by lia
   subst this;rw[q] at I;cases I;have:=Qcd.mp J;exact .inr ⟨j,p,z,e2.symm,by lia,by lia⟩
 .rintro (⟨rfl,rfl⟩|⟨j,p,z,rfl,n0,Y⟩)
  .exact Jt (i:=k) (by unfold stL;rw[CG q];exact QaW ..) G
  .refine Jt (i:=k) ?_ G;unfold stL;rw[CG q];refine QaI _ (Jt (i:=j) ?_ (Qah.mp z).1);unfold st1;rw[CG z];exact Qcq.mpr ⟨n.toNat,Qcd.mpr 00,by rw[QaT n0]⟩
theorem Li(hs:YR)(s:Sp3)(j:YV):Dh hs (s::j)=(bS (stC hs s) || Dh hs j):=rfl
theorem lZ(hs:YR)(j vs:YV):Dh hs (j++vs)=(Dh hs j || Dh hs vs):=List.any_append ..
section
variable{ja:YU}{k:Nat}{ps:List Place}{hs hw:YR}{gs sp:YT}{st:Int}
theorem Vn(q:ja[k]?=some ps)(z:hs.map (·.1)=up (stL ja) ja.length)(N:Wd hs hw){j:Nat}{p:Place}(G:ps[j]?=some p):∀(f n F:Nat) (b:Bool),1<=n->n+f=p.spur.length+1->f<=F->Dg hw k 06 f n b=(b || Dh hs (Dw hs k 06 F n),Dw hs k 06 F n)
 | 0,n,F,b,Y,e,hF=>by
  have hz:Dw hs k 06 F n=[]:=by
   cases F with
   | zero=>rfl
   | succ F=>
    refine if_pos (LQ λh=>?_);rw[z,Kz q] at h;rcases h with⟨h1,_⟩|⟨j',p',J,e1,_,e3⟩
    .omega
    .have:j'=j:=by lia
     subst this;rw[G] at J;cases J;lia
  rw[hz];show (b,[])=(b || false,[]);rw[Qco]
 | f+1,n,F+1,b,Y,e,hF=>by
  have O:({(k:Int),06,(n:Int)} : Sp3)∈hs.map (·.1):=by
   rw[z,Kz q];exact .inr ⟨j,p,G,rq,by lia,by lia⟩
  have I:=N _ O;by_cases hc:CT hw {(k:Int),06,(n:Int)}="cut"
  .have e1:Dg hw k 06 (f+1) n b=(b,[]):=if_pos hc;have e2:Dw hs k 06 (F+1) n=[]:=if_pos (by rw[I];exact hc);rw[e1,e2];show (b,[])=(b || false,[]);rw[Qco]
  .have e1:Dg hw k 06 (f+1) n b=((Dg hw k 06 f (n+1) (b || bS (CT hw {(k:Int),06,(n:Int)}))).1,{(k:Int),06,(n:Int)}::(Dg hw k 06 f (n+1) (b || bS (CT hw {(k:Int),06,(n:Int)}))).2):=if_neg hc;have e2:Dw hs k 06 (F+1) n={(k:Int),06,(n:Int)}::Dw hs k 06 F (n+1):=if_neg (by rw[I];exact hc);rw[e1,e2,Vn q z N G f (n+1) F _ 00 00 00,Li,I,Bool.or_assoc]
theorem aU(aa:ja[k]?=some ps)(ah:OkL ps)(hk:hs.map (·.1)=up (stL ja) ja.length)(rh:Wd hs hw)(rg:gU gs sp)(J:st=1\/st=-1):∀(m F:Nat) (a:Int) (b:Bool),0<=a->a<=09+1->m=GC ps st a->m < F->(GD hw sp ps k st m (a+st) b).1=(b || Dh hs (Bc hs gs k st F a).1):=by
 have dg:∀(x:Int) (F:Nat),(st=1/\x=09+1)\/(st=-1/\x=0)->(Bc hs gs k st F x).1=[]:=λx F N=>by
  cases F with
  | zero=>rfl
  | succ F=>
   have hc:stC hs {(k:Int),Bb x (x+st),0}="cut":=LQ λh=>by
    rw[hk,Kz aa] at h;rcases N with⟨h1,h2⟩|⟨h1,h2⟩
    .rw[h1,h2,show Bb (09+1) (09+1+1)=09+1 from if_neg 00] at h
     rcases h with⟨O,_⟩|⟨j,p,z,e1,_⟩
     .omega
     .have:=(Qah.mp z).1;lia
    .rw[h1,h2] at h;rcases h with⟨O,_⟩|⟨j,p,z,e1,_⟩
     .exact absurd O 05
     .rw[show Bb 0 (0+-1)=-1 from rfl] at e1
      lia
   rw[show Bc hs gs k st (F+1) x=([],[]) from if_pos hc]
 intro m
 induction m with
 | zero=>
  intro F a b a0 a1 q hF;rw[dg a F (by
   unfold GC at q;rcases J with h | h
   .rw[if_pos h] at q;exact .inl ⟨h,by lia⟩
   .rw[if_neg 00] at q;exact .inr ⟨h,by lia⟩)]
  show b=(b || false);rw[Qco]
 | succ m ih=>
  intro F a b a0 a1 q hF;obtain⟨F,rfl⟩ : ∃F',F=F'+1:={F - 1,by lia};have hN:(st=1/\a<=09)\/(st=-1/\1<=a):=by
   unfold GC at q;rcases J with h | h
   .rw[if_pos h] at q;exact .inl ⟨h,by lia⟩
   .rw[if_neg 00] at q;exact .inr ⟨h,by lia⟩
  have ai:m=GC ps st (a+st):=by
   unfold GC at q ⊢;rcases J with h | h
   .rw[if_pos h] at q ⊢;lia
   .rw[if_neg 00] at q ⊢;lia
  have I:Bb (a+st) (a+st - st)=Bb a (a+st):=by
   unfold Bb;rcases J with h | h
   .rw[h,if_pos 00,if_neg 00];lia
   .rw[h,if_neg 00,if_pos 00]
  have ag:(st=1/\Bb a (a+st)=a)\/(st=-1/\Bb a (a+st)=a - 1):=by
   unfold Bb;rcases J with h | h
   .rw[h,if_neg 00];exact .inl ⟨rq,rq⟩
   .rw[h,if_pos 00];exact .inr ⟨rq,by lia⟩
  have al:({(k:Int),Bb a (a+st),0} : Sp3)∈hs.map (·.1):=by
   rw[hk,Kz aa];by_cases h0:Bb a (a+st)=0
   .exact .inl ⟨h0,rq⟩
   .have hb:1<=Bb a (a+st)/\Bb a (a+st)<=09:=by
     rcases hN with⟨h1,h2⟩|⟨h1,h2⟩ <;> rcases ag with⟨O,h4⟩|⟨O,h4⟩ <;> lia
    have hl:(Bb a (a+st) - 1).toNat < ps.length:=by lia
    exact .inr {_,_,Qam hl,by lia,by lia,by lia}
  have Y:=rh _ al;by_cases hc:CT hw {(k:Int),Bb a (a+st),0}="cut"
  .rw[RQ (by rw[I];exact hc),show Bc hs gs k st (F+1) a=([],[]) from if_pos (by rw[Y];exact hc)]
   show b=(b || false);rw[Qco]
  have ab:¬CT hw {(k:Int),Bb (a+st) (a+st - st),0}="cut":=by rw[I];exact hc
  have am:¬stC hs {(k:Int),Bb a (a+st),0}="cut":=by rw[Y];exact hc
  have eC:∀g:Bool,gpC gs {(k:Int),a+st}=g->(Bc hs gs k st (F+1) a).1=({(k:Int),Bb a (a+st),0}::Bw hs k (a+st))++if g=true then [] else (Bc hs gs k st F (a+st)).1:=λg G=>by
   show (if stC hs {(k:Int),Bb a (a+st),0}="cut" then ([],[]) else if gpC gs {(k:Int),a+st}=true then ({(k:Int),Bb a (a+st),0}::Bw hs k (a+st),{(k:Int),a+st,0}::Bw hs k (a+st)) else (({(k:Int),Bb a (a+st),0}::Bw hs k (a+st))++(Bc hs gs k st F (a+st)).1,({(k:Int),a+st,0}::Bw hs k (a+st))++(Bc hs gs k st F (a+st)).2)).1=_
   rw[if_neg am,G];cases g with
   | true=>rw[if_pos rfl,if_pos rfl,QbM]
   | false=>rw[if_neg 05,if_neg 05]
  by_cases N:a+st=0\/09 < a+st
  .have ho:(st=1/\a+st=09+1)\/(st=-1/\a+st=0):=by
    rcases hN with⟨h1,h2⟩|⟨h1,h2⟩
    .exact .inl ⟨h1,by lia⟩
    .exact .inr ⟨h1,by lia⟩
   have an:Bw hs k (a+st)=[]:=by
    refine if_pos (LQ λh=>?_);rw[hk,Kz aa] at h;rcases h with⟨_,h⟩|⟨j,p,z,e1,_⟩
    .exact absurd h 05
    .have:=(Qah.mp z).1;lia
   rw[RP ab N,I,eC _ rfl,an,dg _ _ ho];show (b || bS _)=(b || Dh hs ([_]++if _ then [] else []))
   rw[ite_self,QbM,Li,Y];show _=(b || (_ || false));rw[Qco]
  .obtain⟨j,hj,ae⟩ : ∃j:Nat,a+st=06/\j < ps.length:={(a+st - 1).toNat,by lia,by lia};have z:ps[j]?=some ps[j]:=Qam ae;have fj:spN ps (a+st)=ps[j].spur.length:=by
    unfold spN;rw[show (a+st - 1).toNat=j by lia,z];rfl
   have O:=(ah.ok _ (List.getElem_mem ae)).spur;have af:∀bb,Dg hw k (a+st) (spN ps (a+st)) 1 bb=(bb || Dh hs (Bw hs k (a+st)),Bw hs k (a+st)):=λbb=>by
    rw[fj,hj];exact Vn aa hk rh z _ 1 4 bb (QcA _) 00 00
   have eg:=rg {(k:Int),a+st};by_cases G:inG sp {(k:Int),a+st}=true
   .rw[QZ ab N G,I,af,eC true (by rw[eg];exact G),if_pos rfl,QbM,Li,Y,<-Bool.or_assoc]
   .have ao:inG sp {(k:Int),a+st}=false:=by simpa using G
    rw[Vl ab N G,I,af,eC false (by rw[eg];exact ao),if_neg 05,lZ,Li,Y];show (GD hw sp ps k st m (a+st+st) _).1=_;rw[ih F (a+st) _ 00 00 ai 00];simp only[Bool.or_assoc]
def inn(ps:List Place)(s:Sp3):Bool:=decide (1<=s.at_)&&decide (s.at_<=09)
theorem D3{ps:List Place}{x:Int}(h1:1<=x)(h2:x<=09){l:YV}(h:∀s∈l,s.at_=x):l.filter (inn ps)=l:=List.filter_eq_self.mpr λs hs=>by
 unfold inn;rw[h s hs,Qca h1,Qca h2];rfl
theorem N7(hs:YR)(lp a:Int):∀f n,∀s∈Dw hs lp a f n,s.at_=a/\(n:Int)<=s.n
 | 0,_,s,h=>by cases h
 | f+1,n,s,h=>by
  unfold Dw at h;split at h
  .cases h
  .rcases Qcg.mp h with rfl | h
   .exact⟨rq,Int.le_refl _⟩
   .have:=N7 hs lp a f (n+1) s h;exact⟨this.1,by lia⟩
theorem pN(O:ja[k]?=some ps)(ah:OkL ps)(Y:hs.map (·.1)=up (stL ja) ja.length)(rh:Wd hs hw)(rg:gU gs sp)(I:st=1\/st=-1):∀(m F:Nat) (a:Int) (b:Bool),0<=a->a<=09+1->m=GC ps st a->m < F->(GD hw sp ps k st m (a+st) b).2=(Bc hs gs k st F a).2.filter (inn ps):=by
 have dg:∀(x:Int) (F:Nat),(st=1/\x=09+1)\/(st=-1/\x=0)->(Bc hs gs k st F x).2=[]:=λx F J=>by
  cases F with
  | zero=>rfl
  | succ F=>
   have hc:stC hs {(k:Int),Bb x (x+st),0}="cut":=LQ λh=>by
    rw[Y,Kz O] at h;rcases J with⟨h1,h2⟩|⟨h1,h2⟩
    .rw[h1,h2,show Bb (09+1) (09+1+1)=09+1 from if_neg 00] at h
     rcases h with⟨N,_⟩|⟨j,p,G,e1,_⟩
     .omega
     .have:=(Qah.mp G).1;lia
    .rw[h1,h2] at h;rcases h with⟨N,_⟩|⟨j,p,G,e1,_⟩
     .exact absurd N 05
     .rw[show Bb 0 (0+-1)=-1 from rfl] at e1
      lia
   rw[show Bc hs gs k st (F+1) x=([],[]) from if_pos hc]
 intro m
 induction m with
 | zero=>
  intro F a b a0 a1 q hF;rw[dg a F (by
   unfold GC at q;rcases I with h | h
   .rw[if_pos h] at q;exact .inl ⟨h,by lia⟩
   .rw[if_neg 00] at q;exact .inr ⟨h,by lia⟩)]
  rfl
 | succ m ih=>
  intro F a b a0 a1 q hF;obtain⟨F,rfl⟩ : ∃F',F=F'+1:={F - 1,by lia};have hN:(st=1/\a<=09)\/(st=-1/\1<=a):=by
   unfold GC at q;rcases I with h | h
   .rw[if_pos h] at q;exact .inl ⟨h,by lia⟩
   .rw[if_neg 00] at q;exact .inr ⟨h,by lia⟩
  have ai:m=GC ps st (a+st):=by
   unfold GC at q ⊢;rcases I with h | h
   .rw[if_pos h] at q ⊢;lia
   .rw[if_neg 00] at q ⊢;lia
  have ab:Bb (a+st) (a+st - st)=Bb a (a+st):=by
   unfold Bb;rcases I with h | h
   .rw[h,if_pos 00,if_neg 00];lia
   .rw[h,if_neg 00,if_pos 00]
  have ag:(st=1/\Bb a (a+st)=a)\/(st=-1/\Bb a (a+st)=a - 1):=by
   unfold Bb;rcases I with h | h
   .rw[h,if_neg 00];exact .inl ⟨rq,rq⟩
   .rw[h,if_pos 00];exact .inr ⟨rq,by lia⟩
  have al:({(k:Int),Bb a (a+st),0} : Sp3)∈hs.map (·.1):=by
   rw[Y,Kz O];by_cases h0:Bb a (a+st)=0
   .exact .inl ⟨h0,rq⟩
   .have hb:1<=Bb a (a+st)/\Bb a (a+st)<=09:=by
     rcases hN with⟨h1,h2⟩|⟨h1,h2⟩ <;> rcases ag with⟨N,h4⟩|⟨N,h4⟩ <;> lia
    have hl:(Bb a (a+st) - 1).toNat < ps.length:=by lia
    exact .inr {_,_,Qam hl,by lia,by lia,by lia}
  have eh:=rh _ al;by_cases hc:CT hw {(k:Int),Bb a (a+st),0}="cut"
  .rw[RQ (by rw[ab];exact hc),show Bc hs gs k st (F+1) a=([],[]) from if_pos (by rw[eh];exact hc)]
   rfl
  have aa:¬CT hw {(k:Int),Bb (a+st) (a+st - st),0}="cut":=by rw[ab];exact hc
  have am:¬stC hs {(k:Int),Bb a (a+st),0}="cut":=by rw[eh];exact hc
  have eC:∀g:Bool,gpC gs {(k:Int),a+st}=g->(Bc hs gs k st (F+1) a).2=({(k:Int),a+st,0}::Bw hs k (a+st))++if g=true then [] else (Bc hs gs k st F (a+st)).2:=λg z=>by
   show (if stC hs {(k:Int),Bb a (a+st),0}="cut" then ([],[]) else if gpC gs {(k:Int),a+st}=true then ({(k:Int),Bb a (a+st),0}::Bw hs k (a+st),{(k:Int),a+st,0}::Bw hs k (a+st)) else (({(k:Int),Bb a (a+st),0}::Bw hs k (a+st))++(Bc hs gs k st F (a+st)).1,({(k:Int),a+st,0}::Bw hs k (a+st))++(Bc hs gs k st F (a+st)).2)).2=_
   rw[if_neg am,z];cases g with
   | true=>rw[if_pos rfl,if_pos rfl,QbM]
   | false=>rw[if_neg 05,if_neg 05]
  have eF:∀g:Bool,gpC gs {(k:Int),a+st}=g->(Bc hs gs k st (F+1) a).2.filter (inn ps)=({(k:Int),a+st,0}::Bw hs k (a+st)).filter (inn ps)++if g=true then [] else (Bc hs gs k st F (a+st)).2.filter (inn ps):=λg z=>by
   rw[eC g z,Qbg];cases g with
   | true=>rfl
   | false=>rfl
  have an:∀s∈({(k:Int),a+st,0}::Bw hs k (a+st):YV),s.at_=a+st:=λs h=>by
   rcases Qcg.mp h with rfl | h
   .rfl
   .exact (N7 hs k (a+st) 4 1 s h).1
  by_cases J:a+st=0\/09 < a+st
  .have ho:(st=1/\a+st=09+1)\/(st=-1/\a+st=0):=by
    rcases hN with⟨h1,h2⟩|⟨h1,h2⟩
    .exact .inl ⟨h1,by lia⟩
    .exact .inr ⟨h1,by lia⟩
   have ao:Bw hs k (a+st)=[]:=by
    refine if_pos (LQ λh=>?_);rw[Y,Kz O] at h;rcases h with⟨_,h⟩|⟨j,p,G,e1,_⟩
    .exact absurd h 05
    .have:=(Qah.mp G).1;lia
   rw[RP aa J,eF _ rfl,ao,dg _ _ ho];show []=([({(k:Int),a+st,0} : Sp3)].filter (inn ps))++if _ then [] else []
   rw[ite_self,QbM,Qat]
   .rfl
   .unfold inn;dsimp only;rcases ho with⟨_,h⟩|⟨_,h⟩
    .rw[h,QbO (show ¬09+1<=09 by lia),Bool.and_false];decide
    .rw[h,QbO (by decide:¬(1:Int)<=0),Bool.false_and];decide
  .obtain⟨j,hj,ae⟩ : ∃j:Nat,a+st=06/\j < ps.length:={(a+st - 1).toNat,by lia,by lia};have G:ps[j]?=some ps[j]:=Qam ae;have fj:spN ps (a+st)=ps[j].spur.length:=by
    unfold spN;rw[show (a+st - 1).toNat=j by lia,G];rfl
   have N:=(ah.ok _ (List.getElem_mem ae)).spur;have af:∀bb,Dg hw k (a+st) (spN ps (a+st)) 1 bb=(bb || Dh hs (Bw hs k (a+st)),Bw hs k (a+st)):=λbb=>by
    rw[fj,hj];exact Vn O Y rh G _ 1 4 bb (QcA _) 00 00
   have eg:=rg {(k:Int),a+st};have Ex:=D3 (ps:=ps) (x:=a+st) 00 00 an;by_cases z:inG sp {(k:Int),a+st}=true
   .rw[QZ aa J z,af,eF true (by rw[eg];exact z),if_pos rfl,QbM,Ex]
   .have ap:inG sp {(k:Int),a+st}=false:=by simpa using z
    rw[Vl aa J z,af,eF false (by rw[eg];exact ap),if_neg 05,Ex];show _++(GD hw sp ps k st m (a+st+st) _).2=_;rw[ih F (a+st) _ 00 00 ai 00]
end
theorem j7{ja:YU}{g:Gt}(h:g∈up (gtL ja) ja.length):∃(k:Nat) (ps:List Place),ja[k]?=some ps/\g.lp=(k:Int)/\0<=g.at_/\g.at_<=09+1:=by
 obtain⟨k,z,h⟩:=En h;obtain⟨ps,j,h⟩:=Fp h;refine⟨k,ps,j,?_⟩;rcases QbK.mp h with h | h
 .rcases Qcg.mp h with rfl | h
  .exact⟨rq,by show (0:Int)<=0;decide,by show (0:Int)<=_;lia⟩
  .obtain⟨i,q,h⟩:=En h;obtain⟨h1,h2,G⟩:=QT h;exact⟨h1,by rw[h2];lia,by rw[h2];lia⟩
 .have:g={(k:Int),09+1}:=by simpa using h
  rw[this];exact⟨rq,by show (0:Int)<=09+1;lia,Int.le_refl _⟩
theorem yj{ja:YU}{k:Nat}{ps:List Place}{hs hw:YR}{gs sp:YT}{g:Gt}(O:Ec ja)(j:ja[k]?=some ps)(Y:g.lp=(k:Int))(z:hs.map (·.1)=up (stL ja) ja.length)(G:Wd hs hw)(I:gU gs sp)(J:0<=g.at_)(N:g.at_<=09+1):((Gz hw sp ps k (-1) g.at_).1 || ((Gz hw sp ps k 1 g.at_).1 || false))=Cy hs gs g:=by
 have q:=O.ok ps (QaH j);have aa:=q.hi;unfold Gz;rw[aU j q z G I (.inr rfl) _ 16 g.at_ false J N rfl (by unfold GC;rw[if_neg 05];lia),aU j q z G I (.inl rfl) _ 16 g.at_ false J N rfl (by unfold GC;rw[if_pos rfl];lia)];unfold Cy;rw[Y,Bool.false_or,Bool.false_or,Qco,Bool.or_comm]
inductive Yb(vs:YG)(H:Hp)(Q:VK)(E:XK):Prop
 | mk (pl:Addr) (most:Int) (ja:YU) (jp:List Zone) (d e b:Addr) (hs hw:YR) (gs sp:YT) (g:Gt) (_:vs=[.ref pl,.ref d,.ref e,.ref b]) (_:Fq H pl most ja jp) (_:H b=some (.tup [.int g.lp,.int g.at_])) (_:g∈up (gtL ja) ja.length) (_:H d=some (.dT (stV hw))) (_:H e=some (.dT (gpV sp))) (_:hs.map (·.1)=up (stL ja) ja.length) (_:Wd hs hw) (_:gU gs sp) (_:∀H',Same H H'->Q (.bl (Cy hs gs g)) H'):Yb vs H Q E
abbrev x6:YF:=["_law_step","_law_plan_here","_law_hows","_law_stops","_law_loop_here","_law_place"]
theorem vU(c:Code K mg "_law_feels" Pr Mj)(T:Tw K mg op oe kd wk C)(V3:⋯ "_law_walk" 1 K8 Wq):⋯ "_law_feels" 2 Mj Yb:=by
 have sc:=Nb;exists c,Nb
 obtain⟨pl,ab,ja,jp,d,e,b,hs,hw,gs,sp,g,rfl,O,Y,hg,hd,he,hk,rh,rg,aa⟩:=h;refine⟨_,(Ae (Ir (pv 3) (CV rfl (Am (Aj (i:=4) Nb.nd rfl (Or.inr rfl)) (Am (Aj (i:=5) Nb.nd rfl (Or.inr rfl)) Bt))))
 (Ag (Ba (Av (gD rfl) rfl T.any tL (Aa (Ck (N':=x6) rfl ([none,some 0,some 1,some 2,some 4,some 5]|||(Ai Pr)|||xS) (Fb (Bd (Aa (Px LK Af) (Aa Af Ac)))) (~~~(0∩x6)) (λ_ _ _ _=>CK) (~~~(Bm (NT (K:=K) rfl) (qm V3 hr (@Aa _ _ _ _ _ (pv 1) (@Aa _ _ _ _ _ (pv 2) (@Aa _ _ _ _ _ (pv 3) (@Aa _ _ _ _ _ (pv 4) (@Aa _ _ _ _ _ (pv 5) (@Aa _ _ _ _ _ (pv 0) (@Ac _) Gf) Gf) Gf) Gf) Gf) Gf)) Af 07))) Ac))))),?_⟩
 show let R0:TS:=_;Aq _ R0 _ _ _;intro R0;obtain⟨k,ps,I,el,a0,a1⟩:=j7 hg;have hq:=yj O.ok I el hk rh rg a0 a1;rw[<-hq] at aa;rw[el] at Y;refine⟨_,rq,b,_,rq,SqT.of Y,rq,_,_,rq,_,_,rq,rq,?_⟩;refine⟨_,rq,kf,λtt ae=>?_⟩;have n1:=Ad ae (.tup [.int (-1),.int 1]);refine⟨tt,rq,⟨_,SqT.of Ab⟩,λq J=>?_⟩;have n2:=Ad J (.lst []);have nU:=n2 _ _ (Ab (H:=H) (a:=tt) (o:=.tup [.int (-1),.int 1]));have af:=n1.trans n2;have ag:H q=none:=n1.free J;have NJ:(upd (upd H tt (.tup [.int (-1),.int 1])) q (.lst [])) q=some (.lst []):=Ab;generalize upd (upd H tt (.tup [.int (-1),.int 1])) q (.lst [])=H1 at *;refine Rr (xs:=[.int (-1),.int 1]) (λi U z=>(∃u,U=[u,js pl,js d,js e,some (.int (k:Int)),some (.int g.at_)])/\z q=some (.lst (([(Gz hw sp ps k (-1) g.at_).1,(Gz hw sp ps k 1 g.at_).1].take i).map V.bl))/\z tt=some (.tup [.int (-1),.int 1])/\Same H z) ⟨⟨_,rq⟩,NJ,nU,af⟩ (λi U z _ h=>SqT.of h.2.2.1) (λi x U z j h=>?_) (fun U z h=>?_)
 .obtain⟨⟨u,rfl⟩,e1,e3,e2⟩:=h;obtain⟨st,rfl,ah,N⟩ : ∃st:Int,x=.int st/\(st=1\/st=-1)/\[(Gz hw sp ps k (-1) g.at_).1,(Gz hw sp ps k 1 g.at_).1][i]?=some (Gz hw sp ps k st g.at_).1:=by
   match i,j with
   | 0,j=>cases j;exact{-1,rfl,.inr rfl,rfl}
   | 1,j=>cases j;exact{1,rfl,.inl rfl,rfl}
   | n+2,j=>cases j
  unfold Ek;dsimp only;refine Cm {_,rq,_,rq,_,rq,_,rq,_,rq,_,rq,pl,ab,ja,jp,d,e,hw,sp,k,ps,g.at_,st,rq,O.tups (Ak.of e2),I,e2 _ _ hd,e2 _ _ he,ah,a0,a1,λt l xs H2 ht al _ G=>?_};have hi:=(Qah.mp N).1;refine⟨t,_,_,_,rq,rq,SqT.of ht,rq,_,G _ _ e1,Al (by rw[QbJ,QbA];simp at hi ⊢;lia),⟨_,rq⟩,?_,?_,(e2.trans G).Bq Ah.upd ag⟩
  .rw[Ab,QcJ N,QbL];rfl
  .have:=G _ _ e3;rw[Ao (λai=>by rw[ai,G _ _ e1] at this;cases this)];exact this
 .obtain⟨_,e1,e3,e2⟩:=h;refine⟨q,_,rq,SqL.of e1,?_⟩;exact aa _ e2
abbrev Dr:Stmt:=(inClass (top 54) 13)
abbrev Eb:YF:=["self"]
abbrev xm:YF:=["self","lone","near","row","opener"]
theorem Dk:Ay xm Eb (Ai Dr):=by ac_rfl
def lone(gs:YT):YT:=gs.map λx=>(x.1,true)
def Br(hs:YR)(gs:YT)(g:Gt):Bool:=Cy hs (lone gs) g
def Di(hs:YR)(gs:YT):YT:=gs.map λx=>(x.1,Br hs gs x.1)
def Il(hs:YR)(gs:YT)(L:List Gt):YT:=L.foldl (λgs g=>setG gs g (Cy hs gs g)) gs
def cS(hs:YR)(gs:YT)(lp st:Int)(f:Nat)(a:Int):Bool:=Dh hs (Bc hs gs lp st f a).1
theorem NZ{hs:YR}{gs:YT}{lp st:Int}{f:Nat}{a:Int}:cS hs gs lp st (f+1) a=true ↔ ¬stC hs ⟨lp,Bb a (a+st),0⟩="cut"/\(Dh hs (⟨lp,Bb a (a+st),0⟩::Bw hs lp (a+st))=true\/gpC gs ⟨lp,a+st⟩=false/\cS hs gs lp st f (a+st)=true):=by
 unfold cS;by_cases hc:stC hs ⟨lp,Bb a (a+st),0⟩="cut"
 .rw[show Bc hs gs lp st (f+1) a=([],[]) from if_pos hc]
  constructor
  .intro h;cases h
  .rintro ⟨h,_⟩;exact absurd hc h
 .cases j:gpC gs ⟨lp,a+st⟩ with
  | true=>
   rw[show Bc hs gs lp st (f+1) a=(⟨lp,Bb a (a+st),0⟩::Bw hs lp (a+st),⟨lp,a+st,0⟩::Bw hs lp (a+st)) from (if_neg hc).trans (if_pos j)]
   constructor
   .intro h;exact⟨hc,.inl h⟩
   .rintro ⟨_,h |⟨h,_⟩⟩
    .exact h
    .cases h
  | false=>
   rw[show Bc hs gs lp st (f+1) a=((⟨lp,Bb a (a+st),0⟩::Bw hs lp (a+st))++(Bc hs gs lp st f (a+st)).1,(⟨lp,a+st,0⟩::Bw hs lp (a+st))++(Bc hs gs lp st f (a+st)).2) from (if_neg hc).trans (if_neg (by rw[j];decide))]
   show Dh hs (_++_)=true ↔ _;unfold Dh;rw[List.any_append,Bool.or_eq_true];constructor
   .rintro (h | h)
    .exact⟨hc,.inl h⟩
    .exact⟨hc,.inr ⟨rq,h⟩⟩
   .rintro ⟨_,h |⟨_,h⟩⟩
    .exact .inl h
    .exact .inr h
theorem kY{hs:YR}{gs:YT}{lp st:Int}:∀{f F:Nat} {a:Int},f<=F->cS hs gs lp st f a=true->cS hs gs lp st F a=true
 | 0,_,_,_,h=>by cases h
 | f+1,F+1,a,z,h=>by
  obtain⟨h1,h2⟩:=NZ.mp h;refine NZ.mpr ⟨h1,h2.imp id λzz=>?_⟩;obtain⟨j,q⟩:=zz;exact⟨j,kY 00 q⟩
theorem Y7{hs:YR}{gs j:YT}{lp st:Int}(q:∀g,gpC j g=false->gpC gs g=false):∀{f:Nat} {a:Int},cS hs j lp st f a=true->cS hs gs lp st f a=true
 | 0,_,h=>by cases h
 | f+1,a,h=>by
  obtain⟨h1,h2⟩:=NZ.mp h;refine NZ.mpr ⟨h1,h2.imp id λzz=>?_⟩;obtain⟨z,G⟩:=zz;exact{q _ z,Y7 q G}
theorem O5{hs:YR}{gs:YT}{g:Gt}:Cy hs gs g=true ↔ cS hs gs g.lp 1 16 g.at_=true\/cS hs gs g.lp (-1) 16 g.at_=true:=by
 unfold Cy cS;rw[Bool.or_eq_true]
theorem Y6{hs:YR}{gs j:YT}{lp st:Int}(q:st=1\/st=-1)(z:∀g,gpC j g=true->Cy hs j g=true->gpC gs g=true):∀{f:Nat} {a:Int},f<=16->cS hs gs lp st f a=true->cS hs j lp st f a=true
 | 0,_,_,h=>by cases h
 | f+1,a,O,h=>by
  obtain⟨h1,h2⟩:=NZ.mp h;refine NZ.mpr ⟨h1,?_⟩;rcases h2 with h2 |⟨I,J⟩
  .exact .inl h2
  .have G:=Y6 q z 00 J;cases N:gpC j ⟨lp,a+st⟩ with
   | false=>exact .inr ⟨rfl,G⟩
   | true=>
    have:=z ⟨lp,a+st⟩ N (O5.mpr (by
     have:=kY (F:=16) 00 G;rcases q with rfl | rfl
     .exact .inl this
     .exact .inr this))
    rw[I] at this;cases this
theorem find_key{j : Type}{gs:List (Gt×j)}{g:Gt}(h:g∉gs.map (·.1)):gs.find? (λx=>decide (x.1=g))=none:=List.find?_eq_none.mpr λx q=>by simpa using λe=>h (Qcq.mpr ⟨x,q,e⟩)
theorem Uw{gs:YT}{g:Gt}(h:gpC gs g=true):g∈gs.map (·.1):=Qai λc=>by
 unfold gpC at h;rw[find_key c] at h;cases h
theorem fD{gs:YT}(j:(gs.map (·.1)).Nodup){x:Gt×Bool}(h:x∈gs):gpC gs x.1=x.2:=by
 unfold gpC
 induction gs with
 | nil=>cases h
 | cons a r q=>
  obtain⟨z,G⟩:=QbQ.mp j;rcases Qcg.mp h with rfl | h
  .rw[QaA (by exact Qca rfl)];rfl
  .rw[Qay (by simpa using λe=>z (Qcq.mpr ⟨x,h,by exact Eq.symm e⟩))];exact q G h
theorem Hl(f:Gt->Bool)(g:Gt):∀gs:YT,g∈gs.map (·.1)->gpC (gs.map λx=>(x.1,f x.1)) g=f g
 | [],h=>by cases h
 | a::r,h=>by
  unfold gpC;by_cases e:a.1=g
  .rw[Qch,QaA (by exact Qca e),e];rfl
  .rw[Qch,Qay (by simpa using e)];refine Hl f g r ?_;rcases Qcg.mp h with z | z
   .exact absurd z.symm e
   .exact z
theorem wB(gs:YT):(lone gs).map (·.1)=gs.map (·.1):=by unfold lone;rw[Qct];rfl
theorem Mf(hs:YR)(gs:YT):(Di hs gs).map (·.1)=gs.map (·.1):=by unfold Di;rw[Qct];rfl
theorem AZ{gs j:YT}(h:gs.map (·.1)=j.map (·.1)):lone gs=lone j:=by
 have:∀l:YT,lone l=(l.map (·.1)).map λg=>(g,true):=λl=>by unfold lone;rw[Qct];rfl
 rw[this,this,h]
theorem fC{gs:YT}{g:Gt}:gpC (lone gs) g=true ↔ g∈gs.map (·.1):=⟨λh=>by rw[<-wB];exact Uw h,λh=>Hl (λ_=>true) g gs h⟩
theorem S9{hs:YR}{gs:YT}{g:Gt}(h:Br hs gs g=true):Cy hs gs g=true:=by
 have j:∀g,gpC (lone gs) g=false->gpC gs g=false:=λg h=>by
  cases c:gpC gs g with
  | false=>rfl
  | true=>rw[fC.mpr (Uw c)] at h;cases h
 exact O5.mpr ((O5.mp h).imp (Y7 j) (Y7 j))
def T3(hs:YR)(gs:YT):Prop:=∀g,g∈gs.map (·.1)->Br hs gs g=true->gpC gs g=true
theorem ZF{hs:YR}{gs:YT}(q:T3 hs gs)(g:Gt):Cy hs gs g=Br hs gs g:=by
 cases c:Br hs gs g with
 | true=>exact S9 c
 | false=>
  cases z:Cy hs gs g with
  | false=>rfl
  | true=>
   have j:∀g,gpC (lone gs) g=true->Cy hs (lone gs) g=true->gpC gs g=true:=λg h1 h2=>q g (fC.mp h1) h2;have:Br hs gs g=true:=O5.mpr ((O5.mp z).imp (Y6 (.inl rfl) j (QcA _)) (Y6 (.inr rfl) j (QcA _)));rw[c] at this;cases this
theorem Uv{gs:YT}{g:Gt}(h:g∈gs.map (·.1))(b:Bool)(g':Gt):gpC (setG gs g b) g'=if g'=g then b else gpC gs g':=by
 induction gs with
 | nil=>cases h
 | cons a r G=>
  by_cases e:a.1=g
  .by_cases j:g'=g
   .rw[if_pos j];unfold gpC setG;rw[Qch,if_pos e,QaA (by rw[j];exact Qca e)];rfl
   .have n:¬a.1=g':=λz=>j (by rw[<-z,e]);rw[if_neg j];by_cases q:g∈r.map (·.1)
    .have:=G q;rw[if_neg j] at this;unfold gpC setG at this ⊢;rw[Qch,if_pos e,Qay (by simpa using n),Qay (by simpa using n)];exact this
    .unfold gpC setG;rw[Qch,if_pos e,Qay (by simpa using n),Qay (by simpa using n),show (r.map λx=>if x.1=g then (x.1,b) else x)=r from (QaQ λx I=>if_neg λz=>q (Qcq.mpr ⟨x,I,z⟩)).trans (List.map_id r)]
  .have q:g∈r.map (·.1):=by
    rcases Qcg.mp h with z | z
    .exact absurd z.symm e
    .exact z
   have:=G q;unfold gpC setG at this ⊢;rw[Qch,if_neg e];by_cases n:a.1=g'
   .rw[QaA (by exact Qca n),QaA (by exact Qca n),if_neg (λz=>e (by rw[n,z]))]
   .rw[Qay (by simpa using n),Qay (by simpa using n)];exact this
theorem JX{hs:YR}{gs j:YT}(h:gs.map (·.1)=j.map (·.1))(g:Gt):Br hs gs g=Br hs j g:=by unfold Br;rw[AZ h]
theorem Ry(hs:YR):∀(L:List Gt) (gs:YT),(Il hs gs L).map (·.1)=gs.map (·.1)
 | [],_=>rfl
 | g::r,gs=>(Ry hs r _).trans (Od _ _ _)
theorem gR(hs:YR)(gs:YT)(L M:List Gt):Il hs gs (L++M)=Il hs (Il hs gs L) M:=List.foldl_append ..
theorem zF{hs:YR}:∀{L:List Gt} {gs:YT},(∀g∈L,g∈gs.map (·.1))->∀g,(g∈L\/gpC gs g=true)->Br hs gs g=true->gpC (Il hs gs L) g=true
 | [],gs,_,g,h,_=>by
  rcases h with h | h
  .cases h
  .exact h
 | x::r,gs,j,g,h,q=>by
  have e1:=Od gs x (Cy hs gs x);have G:=j x QaW;show gpC (Il hs (setG gs x (Cy hs gs x)) r) g=true;refine zF (λI z=>by rw[e1];exact j I (QaI _ z)) g ?_ (by rw[JX e1];exact q);rw[Uv G];by_cases e:g=x
  .rw[if_pos e,<-e];exact .inr (S9 q)
  .rw[if_neg e];rcases h with h | h
   .rcases Qcg.mp h with h | h
    .exact absurd h e
    .exact .inl h
   .exact .inr h
theorem zG{hs:YR}:∀{L:List Gt} {gs:YT},(∀g∈L,g∈gs.map (·.1))->∀g,g∉L->gpC (Il hs gs L) g=gpC gs g
 | [],gs,_,g,_=>rfl
 | x::r,gs,j,g,h=>by
  have e1:=Od gs x (Cy hs gs x);show gpC (Il hs (setG gs x (Cy hs gs x)) r) g=_;rw[zG (λG q=>by rw[e1];exact j G (QaI _ q)) g (λz=>h (QaI _ z)),Uv (j x QaW),if_neg (λz=>h (by rw[z];exact QaW))]
theorem zE{hs:YR}:∀{L:List Gt} {gs:YT},(∀g∈L,g∈gs.map (·.1))->T3 hs gs->∀g,gpC (Il hs gs L) g=if g∈L then Br hs gs g else gpC gs g
 | [],gs,_,_,g=>rfl
 | x::r,gs,q,G,g=>by
  have e1:=Od gs x (Cy hs gs x);have I:=q x QaW;have J:T3 hs (setG gs x (Cy hs gs x)):=λj h1 h2=>by
   rw[e1] at h1;rw[JX e1] at h2;rw[Uv I];by_cases e:j=x
   .rw[if_pos e,<-e];exact S9 h2
   .rw[if_neg e];exact G j h1 h2
  show gpC (Il hs (setG gs x (Cy hs gs x)) r) g=_;rw[zE (λj N=>by rw[e1];exact q j (QaI _ N)) J g,JX e1,Uv I];by_cases h:g∈r
  .rw[if_pos h,if_pos (QaI _ h)]
  .rw[if_neg h];by_cases e:g=x
   .rw[if_pos e,if_pos (by rw[e];exact QaW),e,ZF G]
   .rw[if_neg e,if_neg (λz=>by rcases Qcg.mp z with z | z;exact e z;exact h z)]
theorem EJ{gs j:YT}(q:(gs.map (·.1)).Nodup)(k:gs.map (·.1)=j.map (·.1))(h:∀g∈gs.map (·.1),gpC gs g=gpC j g):gs=j:=by
 have e:∀l:YT,(l.map (·.1)).Nodup->l=(l.map (·.1)).map λg=>(g,gpC l g):=λl n=>by
  rw[Qct];refine (List.map_id l).symm.trans (QaQ λx z=>?_);show x=(x.1,gpC l x.1);rw[fD n z]
 rw[e gs q,e j (by rw[<-k];exact q),<-k];exact QaQ λg G=>by rw[h g G]
def K4(hs:YR)(gs:YT):List Gt:=(gs.filter λx=>Br hs gs x.1&&!x.2).map (·.1)
def row2(hs:YR)(gs:YT):List Gt:=(gs.filter λx=>x.2&&!Br hs gs x.1).map (·.1)
theorem Um{gs:YT}(q:(gs.map (·.1)).Nodup){p:Gt->Bool->Bool}{g:Gt}:g∈(gs.filter λx=>p x.1 x.2).map (·.1) ↔ g∈gs.map (·.1)/\p g (gpC gs g)=true:=by
 constructor
 .intro h;obtain⟨x,j,rfl⟩:=Qcq.mp h;obtain⟨h1,h2⟩:=QbR.mp j;exact{Qcq.mpr ⟨x,h1,rq⟩,by rw[fD q h1];exact h2}
 .rintro ⟨h1,h2⟩;obtain⟨x,j,rfl⟩:=Qcq.mp h1;rw[fD q j] at h2;exact Qcq.mpr ⟨x,QbR.mpr ⟨j,h2⟩,rq⟩
theorem uV{hs:YR}{gs:YT}(G:(gs.map (·.1)).Nodup):Il hs gs (K4 hs gs++row2 hs gs)=Di hs gs:=by
 have I:∀g,g∈K4 hs gs ↔ g∈gs.map (·.1)/\(Br hs gs g&&!gpC gs g)=true:=λg=>Um G (p:=λg b=>Br hs gs g&&!b);have J:∀g,g∈row2 hs gs ↔ g∈gs.map (·.1)/\(gpC gs g&&!Br hs gs g)=true:=λg=>Um G (p:=λg b=>b&&!Br hs gs g);rw[gR];have h1:∀g∈K4 hs gs,g∈gs.map (·.1):=λg h=>((I g).mp h).1;have h2:∀g∈row2 hs gs,g∈gs.map (·.1):=λg h=>((J g).mp h).1;have j:=Ry hs (K4 hs gs) gs;have k2:=(Ry hs (row2 hs gs) (Il hs gs (K4 hs gs))).trans j;have N:T3 hs (Il hs gs (K4 hs gs)):=λg O z2=>by
  rw[j] at O;rw[JX j] at z2;refine zF h1 g ?_ z2;cases c:gpC gs g with
  | true=>exact .inr rfl
  | false=>exact .inl ((I g).mpr ⟨O,by rw[z2,c];rfl⟩)
 refine EJ (by rw[k2];exact G) (by rw[k2,Mf]) λg q=>?_;rw[k2] at q;rw[zE (λg h=>by rw[j];exact h2 g h) N g,JX j,show gpC (Di hs gs) g=Br hs gs g from Hl (Br hs gs) g gs q]
 by_cases h:g∈row2 hs gs
 .rw[if_pos h]
 .rw[if_neg h];cases c:Br hs gs g with
  | true=>exact N g (by rw[j];exact q) (by rw[JX j];exact c)
  | false=>
   rw[zG h1 g λz=>by have:=((I g).mp z).2;rw[c] at this;cases this];cases d:gpC gs g with
   | false=>rfl
   | true=>exact absurd ((J g).mpr ⟨q,by rw[c,d];rfl⟩) h
theorem Wg.keys{gs j:YT}(h:Wg gs)(k:j.map (·.1)=gs.map (·.1)):Wg j:=λx q=>by
 have:x.1∈gs.map (·.1):=by rw[<-k];exact Qcq.mpr ⟨x,q,rq⟩
 obtain⟨y,z,e⟩:=Qcq.mp this;rw[<-e];exact h y z
inductive XR(C:Addr)(vs:YG)(H:Hp)(Q:VK)(E:XK):Prop
 | mk (p pl d1 d2 d3 hs fl gs) (_:vs=[.ref p]) (_:WAt C H p pl d1 d2 d3 hs fl gs) (_:(∀s∈hs.map (·.1),Bd3 s)) (_:Wg gs) (_:∀l xs H',H l=none->H' l=some (.lst xs)->Paired (Du H') xs (K4 hs gs++row2 hs gs)->WAt C H' p pl d1 d2 d3 hs fl (Di hs gs)->Ah d3 H H'->Q (.ref l) H'):XR C vs H Q E
theorem j5{gs:YT}{f:Gt×Bool->Bool}(G:(gs.map (·.1)).Nodup){i:Nat}{x:Gt×Bool}(q:gs[i]?=some x):putK (gpV ((gs.take i).map λy=>(y.1,f y))) (k2 x.1) (.bl (f x))=gpV ((gs.take (i+1)).map λy=>(y.1,f y)):=by
 rw[K6,QcJ q]
 .unfold gpV;rw[QbL,QbL];rfl
 .refine Nr λy j e=>?_;unfold gpV at j;rw[Qct] at j;obtain⟨z,I,rfl⟩:=Qcq.mp j;exact Jo (f:=λy:Gt×Bool=>y.1) G q z I (Te e)
abbrev xj:YF:=["opener","gap","near"]
theorem W0(c:Nq K C "come_to_rest" "Wires.come_to_rest" Dr Eb)(T:Tw K mg op oe kd wk C)(JK:⋯ "comes_to_short" 3 Ep Wu)(Bz:FN P w K mg base C "act" 4 Jm (bO C)):FN P w K mg base C "come_to_rest" 5 Eb (XR C):=by
 have sc:=Dk;exists c,Dk
 obtain⟨p,pl,d1,d2,d3,hs,fl,gs,rfl,R,hb,hg,bv⟩:=h;refine⟨_,(Ae (Az (i:=1) Dk.nd rfl (Or.inr rfl) (VH rfl (G9 (CJ hr) (N':=xi) rfl nofun (cU (El (pv 0) rfl)) (~~~(0∩xi)) (λ_ _ _ _=>CK) (~~~(pv 0)) (λ_ _ _ _=>DY))))
 (Ae (Az (i:=2) Dk.nd rfl (Or.inr rfl) (VH rfl (G9 (CJ hr) (N':=["opener","lone","self"]) rfl ([none,some 1,some 0]|||(Ai Dr)|||xm) (cU (El (pv 0) rfl)) (~~~(Aj (i:=0) (show List.Nodup (["opener","lone","self"]:YF) by trivial) rfl (Or.inl rfl))) (λ_ _ _ _=>CK) (~~~(pv 0)) (~~~(Dc JK hr (Aa (jQ (K:=K) rfl (pv 2) rfl) (Aa (pv 1) (Aa (pv 0) Ac))))))))
 (Ae (vd rfl (Yn (i:=3) Dk.nd rfl (Or.inl rfl) (N':=xj) rfl ([none,none,some 2]|||(Ai Dr)|||xm) (Zq (El (pv 0) rfl)) (~~~(Hz (K:=K) (n:=2) rfl rfl (Am (0∩xj) (Am (1∩xj) Bt)))) (~~~(GP (PW.pt (pZ (Dz (NP (CJ hr) (pv 2) (pv 0) 07)) (jO (Fx (Dz (pv 1)))))))) (~~~(pv 0))))
 (Ae (Bo (Cq Qar Qap Qaq FT (pv 3) (Aa (VH rfl (Ck (N':=xj) rfl ([none,none,some 2]|||(Ai Dr)|||xm) (Zq (El (pv 0) rfl)) (~~~(Hz (K:=K) (n:=2) rfl rfl (Am (0∩xj) (Am (1∩xj) Bt)))) (~~~(GP (PW.pt (pZ (Dz (pv 1)) (jO (Fx (Dz (NP (CJ hr) (pv 2) (pv 0) 07)))))))) (~~~(pv 0)))) Ac)))
 (Ae (Cj QbN rfl (CZ (pv 3)) (4∣Dk)
 (Ag (Bo (WK (pv 0) T.cl Bz hr (Aa (pv 4) Ac)))))
 (Ag (Ba (pv 3)))))))),?_⟩
 show let R0:TS:=_;let R1:TS:=Aq (Dm _ _ R0) _;let R2:TS:=Aq _ R1;let R3:TS:=Aq _ R2;let R4:TS:=Aq _ R3;Aq _ R4 _ _ _;intro R0 R1 R2 R3 R4;obtain⟨dx,hp⟩:=R.ins;have as:=R.gp;have l3:=R.l3;have ai:=R.nd3;have ap:∀o' u,H d3≠some (.frz o' u):=λo' u z=>by rw[as] at z;cases z
 have ah:(gpV gs).length=gs.length:=by unfold gpV;rw[QbJ]
 have nJ:∀{i:Nat} {kv:List Key×V},(gpV gs)[i]?=some kv->∃x,gs[i]?=some x/\kv=(k2 x.1,.bl x.2):=λ{i kv} h=>by
  unfold gpV at h;rw[Qbn] at h;obtain⟨x,I,rfl⟩:=QaB.mp h;exact⟨x,I,rq⟩
 refine{_,rq,p,C,dx,_,_,rq,hp,T.cl,T.Hu,Gw pl d1 d2 d3,d3,gpV gs,rq,as,λo l hl=>?_};have nl:l≠d3:=λz=>by rw[z,Ab] at hl;cases hl
 have bz:H l=none:=by rw[Ao nl] at hl;exact hl
 let J0:YN:=λi U j=>(∃u,U=[u])/\j l=some (.dT (gpV ((gs.take i).map λx=>(x.1,true))))/\Same (upd H d3 (.frz o (.dT (gpV gs)))) j;refine ZG J0 {⟨none,rq⟩,Ab,Ad hl _} (λi U j _ h=>h.2.2 _ _ Ab) (λi kv b U j Y h aa=>?_) (fun U j h=>?_)
 .obtain⟨⟨u,rfl⟩,e1,e2⟩:=h;obtain⟨x,I,rfl⟩:=nJ Y;have hi:=(Qah.mp Y).1;unfold Ek;dsimp only;refine Cm {_,rq,_,k2 x.1,b,e1,rq,aa,Al (by unfold gpV;rw[QbJ,QbJ,QbA];lia),⟨_,rq⟩,?_,e2.Bq Ah.upd hl};rw[Ab,j5 (f:=λ_=>true) ai I]
 obtain⟨_,e1,e2⟩:=h;rw[ah,Qby] at e1;have e1:j l=some (.dT (gpV (lone gs))):=e1;refine⟨d3,o,gpV gs,e2 _ _ Ab,ap,?_⟩;have s1:=Pg e2 as;have a9:(upd j d3 (.dT (gpV gs))) l=some (.dT (gpV (lone gs))):=by rw[Ao nl];exact e1
 generalize upd j d3 (.dT (gpV gs))=H1 at *;clear e1 e2 hl;have R1:=R.same s1;obtain⟨ay,al⟩:=R1.ins;refine{_,rq,p,C,ay,_,_,rq,al,T.cl,T.Hu,Gw pl d1 d2 d3,d3,gpV gs,rq,R1.gp,λo2 G ae=>?_};have ar:G≠d3:=λz=>by rw[z,Ab] at ae;cases ae
 have f2:H1 G=none:=by rw[Ao ar] at ae;exact ae
 have JY:(lone gs).length=gs.length:=QbJ ..;let J1:YN:=λi U j=>(∃u,U=[u,js l,js p])/\j G=some (.dT (gpV ((gs.take i).map λx=>(x.1,Br hs gs x.1))))/\Same (upd H1 d3 (.frz o2 (.dT (gpV gs)))) j;refine ZG J1 {⟨none,rq⟩,Ab,Ad ae _} (λi U j _ h=>h.2.2 _ _ Ab) (λi kv b U j Y h aa=>?_) (fun U j h=>?_)
 .obtain⟨⟨u,rfl⟩,e1,e2⟩:=h;obtain⟨x,I,rfl⟩:=nJ Y;have hi:=(Qah.mp Y).1;have gb:=hg x (QaH I);have z3:∀c v,H1 c=some v->c≠d3->j c=some v:=λc v e n=>e2 _ _ (by rw[Ao n];exact e);have ba:p≠d3:=λz=>by rw[z,R1.gp] at al;cases al
  unfold Ek;dsimp only;refine Cm {_,rq,_,rq,p,C,ay,_,_,rq,z3 _ _ al ba,T.cl,T.Hi,Ho pl d1 d2 d3,_,rq,_,rq,d1,l,b,hs,lone gs,x.1,rq,.inl (z3 _ _ R1.st R1.n13),.inl (z3 _ _ a9 nl),aa,hb,gb.1,gb.2,λH2 s2=>?_};refine{_,k2 x.1,b,s2 _ _ e1,rq,s2 _ _ aa,Al (by unfold gpV;rw[QbJ,QbJ,QbA];lia),⟨_,rq⟩,?_,(e2.trans s2).Bq Ah.upd ae};rw[Ab];exact congrArg (λz=>some (HO.dT z)) (j5 (f:=λx=>Br hs gs x.1) ai I)
 obtain⟨_,e1,e2⟩:=h;rw[ah,Qby] at e1;have e1:j G=some (.dT (gpV (Di hs gs))):=e1;have JP:∀o' u,H1 d3≠some (.frz o' u):=λo' u z=>by rw[R1.gp] at z;cases z
 refine⟨d3,o2,gpV gs,e2 _ _ Ab,ap,?_⟩;have s2:=s1.trans (Pg e2 R1.gp);have az:(upd j d3 (.dT (gpV gs))) G=some (.dT (gpV (Di hs gs))):=by rw[Ao ar];exact e1
 have b0:H G=none:=s1.free f2;generalize upd j d3 (.dT (gpV gs))=H2 at *;clear e1 e2 ae JP al f2;have R2:=R.same s2;obtain⟨bb,bc⟩:=R2.ins;have dW:∀{HX:Hp} {b:Addr} {x:Gt×Bool},HX G=some (.dT (gpV (Di hs gs)))->HX b=some (.tup [.int x.1.lp,.int x.1.at_])->x∈gs->Dt HX G (.ref b) (some (.bl (Br hs gs x.1))):=λ{HX b x} h1 h2 h3=>by
  have g:=Dt.t (k:=k2 x.1) h1 h2;have a0:x.1∈gs.map (·.1):=Qcq.mpr ⟨x,h3,rq⟩;rw[Xk (by rw[Mf];exact a0),show gpC (Di hs gs) x.1=Br hs gs x.1 from Hl (Br hs gs) x.1 gs a0] at g
  exact g
 refine{_,rq,p,C,bb,_,_,rq,bc,T.cl,T.Hu,Gw pl d1 d2 d3,d3,gpV gs,rq,R2.gp,λo3 q af=>?_};have au:q≠d3:=λz=>by rw[z,Ab] at af;cases af
 have OX:H2 q=none:=by rw[Ao au] at af;exact af
 have z2:∀{j:Hp},Same (upd H2 d3 (.frz o3 (.dT (gpV gs)))) j->j G=some (.dT (gpV (Di hs gs))):=λs=>s _ _ (by rw[Ao ar];exact az);have lR:∀{j:Hp} {J N b:Addr} {i:Nat} {x:Gt×Bool} {ys:YG} {ps:List Gt} {H0:Hp},j J=some (.lst ys)->Paired (Du j) ys ps->j N=none->j b=some (.tup [.int x.1.lp,.int x.1.at_])->H0 J=none->Same H0 j->((upd (upd j N (.tup [.ref b,.bl x.2])) J (.lst (ys++[.ref b]))) J=some (.lst (ys++[.ref b]))/\Paired (Du (upd (upd j N (.tup [.ref b,.bl x.2])) J (.lst (ys++[.ref b])))) (ys++[.ref b]) (ps++[x.1])/\Same H0 (upd (upd j N (.tup [.ref b,.bl x.2])) J (.lst (ys++[.ref b])))):=λ{j J N b i x ys ps H0} h1 h2 h3 h4 h5 h6=>by
  have t1:=Ad h3 (.tup [.ref b,.bl x.2]);have bd:=t1 _ _ h1;have be:∀zs,(upd j N (.tup [.ref b,.bl x.2])) J≠some (.tup zs):=λzs z=>by rw[bd] at z;cases z
  have sL:=Ak.upd (o:=.lst (ys++[.ref b])) be;exact⟨Ab,QcC ⟨b,rq,sL _ _ (t1 _ _ h4)⟩ (Paired.Ax h2 λ_ _ z=>(z.tups (Ak.of t1)).tups sL),(h6.trans t1).Bq Ah.upd h5⟩
 let J2:YN:=λi U j=>(∃u v,U=[u,v,js G])/\(∃ys,j q=some (.lst ys)/\Paired (Du j) ys (((gs.take i).filter λx=>Br hs gs x.1&&!x.2).map (·.1))/\ys.length<=i)/\Same (upd H2 d3 (.frz o3 (.dT (gpV gs)))) j;refine fZ J2 {⟨none,none,rq⟩,{[],Ab,.nil,QcA _},Ad af _} (λi U j _ h=>h.2.2 _ _ Ab) (λi kv N b U j Y h am aa=>?_) (fun U j h=>?_)
 .obtain⟨⟨u,v,rfl⟩,⟨ys,e1,e3,e4⟩,e2⟩:=h;obtain⟨x,I,rfl⟩:=nJ Y;have hi:=(Qah.mp Y).1;have t1:=Ad am (.tup [.ref b,.bl x.2]);have ag:=e2.trans t1;have et:((gs.take (i+1)).filter λx=>Br hs gs x.1&&!x.2).map (·.1)=((gs.take i).filter λx=>Br hs gs x.1&&!x.2).map (·.1)++([x].filter λx=>Br hs gs x.1&&!x.2).map (·.1):=by rw[QcJ I,Qbg,QbL]
  have no:(Br hs gs x.1&&!x.2)=false->∃ys,(upd j N (.tup [.ref b,.bl x.2])) q=some (.lst ys)/\Paired (Du (upd j N (.tup [.ref b,.bl x.2]))) ys (((gs.take (i+1)).filter λx=>Br hs gs x.1&&!x.2).map (·.1))/\ys.length<=i+1:=λhc=>by
   refine⟨ys,t1 _ _ e1,?_,by lia⟩;rw[et,show ([x].filter λx=>Br hs gs x.1&&!x.2)=[] from Qat (by rw[hc];decide),Qcx,QbM]
   exact Paired.Ax e3 λ_ _ z=>z.tups (Ak.of t1)
  refine⟨N,_,rq,SqT.of Ab,rq,_,_,rq,_,_,rq,rq,?_⟩;refine{_,rq,_,rq,G,_,rq,dW (z2 ag) (t1 _ _ aa) (QaH I),_,rq,G4 (λO=>{_,rq,_,rq,G4 (λab=>?_) (λab=>?_)}) (λO=>Cz {⟨_,_,rq⟩,no (by rw[O];rfl),ag})}
  .have ab:x.2=false:=by simpa using ab
   obtain⟨a1,a2,a3⟩:=lR (i:=i) e1 e3 am aa af e2;refine{_,rq,ys,t1 _ _ e1,Al 00,⟨_,_,rq⟩,{_,a1,?_,by rw[QaV];show _+1<=_;lia},a3};rw[et,show ([x].filter λx=>Br hs gs x.1&&!x.2)=[x] from Qau (by rw[O,ab];rfl)]
   exact a2
  .exact{⟨_,_,rq⟩,no (by rw[O,ab];rfl),ag}
 obtain⟨_,⟨ys,e1,e3,e4⟩,e2⟩:=h;rw[ah] at e4;rw[ah,Qby] at e3;refine⟨d3,o3,gpV gs,e2 _ _ Ab,ap,?_⟩;have s3:=Pg e2 R2.gp;have an:∀zs,j d3≠some (.tup zs):=λzs z=>by rw[e2 _ _ Ab] at z;cases z
 have av:(upd j d3 (.dT (gpV gs))) q=some (.lst ys):=by rw[Ao au];exact e1
 have p3:Paired (Du (upd j d3 (.dT (gpV gs)))) ys (K4 hs gs):=Paired.Ax e3 λ_ _ z=>z.tups (Ak.upd an);have a4:=s2.trans s3;have a5:H q=none:=s2.free OX;have bg:=s3 _ _ az;generalize upd j d3 (.dT (gpV gs))=H3 at *;clear e1 e2 e3 af z2 an;have R3:=R.same a4;obtain⟨bi,bj⟩:=R3.ins;refine{_,rq,.inl ⟨rq,_,SqL.of av⟩,_,rq,p,C,bi,_,_,rq,bj,T.cl,T.Hu,Gw pl d1 d2 d3,d3,gpV gs,rq,R3.gp,λo4 J ao=>?_};have bk:J≠d3:=λz=>by rw[z,Ab] at ao;cases ao
 have z3:∀{j:Hp},Same (upd H3 d3 (.frz o4 (.dT (gpV gs)))) j->j G=some (.dT (gpV (Di hs gs))):=λs=>s _ _ (by rw[Ao ar];exact bg);let J3:YN:=λi U j=>(∃u v,U=[u,v,js G])/\(∃ys,j J=some (.lst ys)/\Paired (Du j) ys (((gs.take i).filter λx=>x.2&&!Br hs gs x.1).map (·.1))/\ys.length<=i)/\Same (upd H3 d3 (.frz o4 (.dT (gpV gs)))) j;refine fZ J3 {⟨none,none,rq⟩,{[],Ab,.nil,QcA _},Ad ao _} (λi U j _ h=>h.2.2 _ _ Ab) (λi kv N b U j Y h am aa=>?_) (fun U j h=>?_)
 .obtain⟨⟨u,v,rfl⟩,⟨ys,e1,e3,e4⟩,e2⟩:=h;obtain⟨x,I,rfl⟩:=nJ Y;have hi:=(Qah.mp Y).1;have t1:=Ad am (.tup [.ref b,.bl x.2]);have ag:=e2.trans t1;have et:((gs.take (i+1)).filter λx=>x.2&&!Br hs gs x.1).map (·.1)=((gs.take i).filter λx=>x.2&&!Br hs gs x.1).map (·.1)++([x].filter λx=>x.2&&!Br hs gs x.1).map (·.1):=by rw[QcJ I,Qbg,QbL]
  have no:(x.2&&!Br hs gs x.1)=false->∃ys,(upd j N (.tup [.ref b,.bl x.2])) J=some (.lst ys)/\Paired (Du (upd j N (.tup [.ref b,.bl x.2]))) ys (((gs.take (i+1)).filter λx=>x.2&&!Br hs gs x.1).map (·.1))/\ys.length<=i+1:=λhc=>by
   refine⟨ys,t1 _ _ e1,?_,by lia⟩;rw[et,show ([x].filter λx=>x.2&&!Br hs gs x.1)=[] from Qat (by rw[hc];decide),Qcx,QbM]
   exact Paired.Ax e3 λ_ _ z=>z.tups (Ak.of t1)
  refine⟨N,_,rq,SqT.of Ab,rq,_,_,rq,_,_,rq,rq,?_⟩;refine{_,rq,_,rq,G4 (λab=>{_,rq,_,rq,G,_,rq,dW (z3 ag) (t1 _ _ aa) (QaH I),_,rq,G4 (λO=>?_) (λO=>?_)}) (λab=>Cz {⟨_,_,rq⟩,no (by rw[ab];rfl),ag})}
  .have O:Br hs gs x.1=false:=by simpa using O
   obtain⟨a1,a2,a3⟩:=lR (i:=i) e1 e3 am aa ao e2;refine{_,rq,ys,t1 _ _ e1,Al 00,⟨_,_,rq⟩,{_,a1,?_,by rw[QaV];show _+1<=_;lia},a3};rw[et,show ([x].filter λx=>x.2&&!Br hs gs x.1)=[x] from Qau (by rw[O,ab];rfl)]
   exact a2
  .have O:Br hs gs x.1=true:=by simpa using O
   exact{⟨_,_,rq⟩,no (by rw[O,ab];rfl),ag}
 obtain⟨_,⟨zs,e1,e3,e5⟩,e2⟩:=h;rw[ah] at e5;rw[ah,Qby] at e3;refine⟨d3,o4,gpV gs,e2 _ _ Ab,ap,?_⟩;have s4:=Pg e2 R3.gp;have an:∀zs,j d3≠some (.tup zs):=λzs z=>by rw[e2 _ _ Ab] at z;cases z
 have bm:(upd j d3 (.dT (gpV gs))) J=some (.lst zs):=by rw[Ao bk];exact e1
 have p4:Paired (Du (upd j d3 (.dT (gpV gs)))) zs (row2 hs gs):=Paired.Ax e3 λ_ _ z=>z.tups (Ak.upd an);have a6:=s4 _ _ av;have bn:Paired (Du (upd j d3 (.dT (gpV gs)))) ys (K4 hs gs):=Paired.Ax p3 λ_ _ z=>z.tups (Ak.of s4);have bo:=a4.trans s4;generalize upd j d3 (.dT (gpV gs))=H4 at *;clear e1 e2 e3 ao z3 an av p3 dW lR;refine⟨q,J,_,_,rq,rq,a6,bm,Ar 00,?_⟩;have bp:∀zs,H4 q≠some (.tup zs):=λzs z=>by rw[a6] at z;cases z
 have t5:=Ak.upd (o:=.lst (ys++zs)) bp;have p5:Paired (Du (upd H4 q (.lst (ys++zs)))) (ys++zs) (K4 hs gs++row2 hs gs):=Paired.app (Paired.Ax bn λ_ _ z=>z.tups t5) (Paired.Ax p4 λ_ _ z=>z.tups t5);have aw:(upd H4 q (.lst (ys++zs))) q=some (.lst (ys++zs)):=Ab;have a7:Same H (upd H4 q (.lst (ys++zs))):=bo.Bq Ah.upd a5;generalize upd H4 q (.lst (ys++zs))=H5 at *;have R5:=R.same a7;have l5:=Qcf p5;have DE:q≠d3:=au;have bq:∀g∈K4 hs gs++row2 hs gs,g∈gs.map (·.1):=λg h=>by
  rcases QbK.mp h with h | h
  .exact ((Um ai (p:=λg b=>Br hs gs g&&!b)).mp h).1
  .exact ((Um ai (p:=λg b=>b&&!Br hs gs g)).mp h).1
 refine{_,rq,q,rq,{_,SqL.of aw},?_};let J4:YN:=λi U j=>(∃u,U=[js p,js l,js G,js q,u])/\WAt C j p pl d1 d2 d3 hs fl (Il hs gs ((K4 hs gs++row2 hs gs).take i))/\Ah d3 H5 j;refine Rq (xs:=ys++zs) J4 {⟨_,rq⟩,R5,Ah.of (Same.refl _)} (λi U j _ h=>SqL.of (h.2.2 _ _ aw DE)) (λi x U j I h=>?_) (fun U j h=>?_)
 .obtain⟨⟨u,rfl⟩,W,sB⟩:=h;obtain⟨g,a8,b,rfl,br⟩:=Paired.Cp p5 I;obtain⟨bs,bt⟩:=W.ins;have k6:=Ry hs ((K4 hs gs++row2 hs gs).take i) gs;have ax:∀zs,H5 d3≠some (.tup zs):=λzs z=>by rw[R5.gp] at z;cases z
  unfold Ek;dsimp only;refine{_,rq,p,bs,_,rq,bt,fno (by trivial),_,rq,p,pl,d1,d2,d3,hs,fl,_,b,g,rq,W,hb,hg.keys k6,(sB.tup ax) _ _ br,by rw[k6];exact bq g (QaH a8),λH' W' bu=>{⟨_,rq⟩,?_,sB.trans bu}};rw[QcJ a8,gR];exact W'
 .obtain⟨⟨u,rfl⟩,W,sB⟩:=h;rw[l5,Qby,uV ai] at W;have ax:∀zs,H5 d3≠some (.tup zs):=λzs z=>by rw[R5.gp] at z;cases z
  exact{_,rq,bv q _ j a5 (sB _ _ aw DE) (Paired.Ax p5 λ_ _ z=>z.tups (sB.tup ax)) W ((Ah.of a7).trans sB)}
abbrev Jv:Stmt:=(inClass (top 54) 14)
abbrev Ht:YF:=["self","loop","end"]
abbrev x8:YF:=["self","loop","end","opener","wires","places"]
theorem GJ:Ay x8 Ht (Ai Jv):=by ac_rfl
def flC(fl:YQ)(s:Sp3):Bool:=(fl.find? λx=>decide (x.1=s)).any λx=>x.2.isSome
theorem kj{H:Hp}(s:Sp3):∀{kvs:YL} {fl:YQ},Paired (KN H) kvs fl->(!decide ((Dj kvs (k3 s)).getD .non=.non))=flC fl s
 | [],[],.nil=>by show (!decide (V.non=V.non))=false;rw[Qca rfl];rfl
 | j::_,x::_,.cons h t=>by
  unfold flC;by_cases e:x.1=s
  .rw[Jy (p:=j) (by rw[h.1,e]),QaA (by exact Qca e)];obtain⟨h1,h2⟩:=h;obtain⟨xs,xo⟩:=x;cases xo with
   | none=>
    have h2:j.2=.non:=h2;show (!decide (j.2=.non))=false;rw[h2,Qca rfl];rfl
   | some d=>
    obtain⟨u,h2,_⟩:=h2;show (!decide (j.2=.non))=true;rw[h2,QbO (by intro z;cases z)];rfl
  .rw[Hf (p:=j) (λz=>e (Mv (by rw[<-h.1,z]))),Qay (by simpa using e)];exact kj s t
theorem rO{fl:YQ}{s:Sp3}(h:flC fl s=true):s∈fl.map (·.1):=by
 unfold flC at h;cases e:fl.find? λx=>decide (x.1=s) with
 | none=>rw[e] at h;cases h
 | some y=>exact Qcq.mpr ⟨y,Qal e,by have:=List.find?_some e;simpa using this⟩
theorem bC(hs:YR)(lp a:Int):∀f n,(Dw hs lp a f n).Nodup
 | 0,_=>Qcc
 | f+1,n=>by
  unfold Dw;split
  .exact Qcc
  .refine QbQ.mpr ⟨λh=>?_,bC hs lp a f (n+1)⟩;have:=(N7 hs lp a f (n+1) _ h).2;dsimp only at this;lia
theorem Tv(hs:YR)(gs:YT)(lp st:Int)(j:st=1\/st=-1):∀f a,(Bc hs gs lp st f a).2.Nodup/\∀s∈(Bc hs gs lp st f a).2,0 < (s.at_ - a)*st
 | 0,_=>⟨Qcc,λs h=>by cases h⟩
 | f+1,a=>by
  obtain⟨J,N⟩:=Tv hs gs lp st j f (a+st);have z:∀s∈(⟨lp,a+st,0⟩::Bw hs lp (a+st):YV),s.at_=a+st:=λs h=>by
   rcases Qcg.mp h with rfl | h
   .rfl
   .exact (N7 hs lp (a+st) 4 1 s h).1
  have G:(⟨lp,a+st,0⟩::Bw hs lp (a+st):YV).Nodup:=by
   refine QbQ.mpr ⟨λh=>?_,bC hs lp (a+st) 4 1⟩;have:=(N7 hs lp (a+st) 4 1 _ h).2;dsimp only at this;lia
  have q:∀s∈(⟨lp,a+st,0⟩::Bw hs lp (a+st):YV),0 < (s.at_ - a)*st:=λs h=>by
   rw[z s h];rcases j with rfl | rfl <;> lia
  unfold Bc;split
  .exact⟨Qcc,λs h=>by cases h⟩
  .split
   .exact⟨G,q⟩
   .have I:∀s∈(Bc hs gs lp st f (a+st)).2,0 < (s.at_ - (a+st))*st:=N;refine{Qbu.mpr ⟨G,J,λx O y Y e=>?_⟩,λs h=>?_}
    .have h1:=z x O;have h2:=I y Y;rw[<-e,h1] at h2;rcases j with rfl | rfl <;> lia
    .rcases QbK.mp h with h | h
     .exact q s h
     .have h2:=I s h;rcases j with rfl | rfl <;> lia
def Tq(e:Str):Bool:=decide (V.str e=V.str "A")
def Bu(lp:Int)(n:Nat)(e:Str):Gt:=⟨lp,if Tq e=true then 0 else (n:Int)+1⟩
def Cv(e:Str):Int:=if Tq e=true then 1 else -1
def PN(hs:YR)(gs:YT)(fl:YQ)(lp:Int)(n:Nat)(e:Str):YV:=
 if gpC gs (Bu lp n e)=true then [] else if Dh hs (Bc hs gs lp (Cv e) 16 (Bu lp n e).at_).1=true then [] else (Bc hs gs lp (Cv e) 16 (Bu lp n e).at_).2.filter (flC fl)
theorem Nh{q z : Type}{R:q->z->Prop}{xs:List q}{ys:List z}{d:q}{e:z}(h:Paired R xs ys):∀is:List Nat,(∀i∈is,i < xs.length)->Paired R (is.map λi=>xs.getD i d) (is.map λi=>ys.getD i e)
 | [],_=>.nil
 | i::r,hi=>by
  have h1:xs[i]?=some (xs[i]'(hi i QaW)):=Qam _;obtain⟨y,G,I⟩:=Paired.Cp h h1;refine .cons ?_ (Nh h r λj J=>hi j (QaI _ J));show R (xs.getD i d) (ys.getD i e);rw[List.getD_eq_getElem?_getD,List.getD_eq_getElem?_getD,h1,G];exact I
theorem Xf{K:YD}{H:Hp}:∀{vs:YG} {ss:YV},Paired (BL H) vs ss->(∀s∈ss,Bd3 s)->Paired (Xw K H) vs (ss.map cd3)
 | _,_,.nil,_=>.nil
 | _,_,.cons (b:=s) ⟨t,e,h1⟩ r,j=>.cons ⟨t,s.lp,s.at_,s.n,e,SqT.of h1,(j s QaW).c3⟩ (Xf r λx q=>j x (QaI _ q))
theorem gw{ss:YV}(j:ss.Nodup)(q:∀s∈ss,Bd3 s):(ss.map cd3).Nodup:=by
 rw[Qag,Qbt];rw[Qag] at j;exact j.imp_of_mem λ{a b} G z I e=>I ((q a G).inj (q b z) e)
instance:DecidableEq Sp3:=λa b=>if h:a.lp=b.lp/\a.at_=b.at_/\a.n=b.n then isTrue (by cases a;cases b;simp at h;obtain⟨h1,h2,h3⟩:=h;subst h1 h2 h3;rfl) else isFalse λe=>h (by rw[e];exact⟨rfl,rfl,rfl⟩)
theorem Rj:∀{l m:YV},l.Nodup->(∀x∈l,x∈m)->l.length<=m.length
 | [],_,_,_=>QcB _
 | a::r,m,z,h=>by
  have j:=h a (QaW ..);obtain⟨G,I⟩:=QbQ.mp z;have:=Rj (l:=r) (m:=m.erase a) I λx q=>(List.mem_erase_of_ne (λe=>G (by rw[<-e];exact q))).mpr (h x (QaI _ q));rw[List.length_erase_of_mem j] at this;have J:=List.length_pos_of_mem j;rw[Qbz];lia
theorem Vu{j : Type}{d:j}{l:List j}{is:List Nat}(h:is.Perm (List.range l.length)):(is.map λi=>l.getD i d).Perm l:=by
 refine (h.map _).trans ?_;have:(List.range l.length).map (λi=>l.getD i d)=l:=by
  apply List.ext_getElem
  .simp
  .intro i h1 h2;simp at h1;simp[h1]
 rw[this]
theorem bU{j : Type}{d:j}{c:j->Int}{l:List j}{is:List Nat}(h:is.Perm (List.range l.length)):(is.map λi=>l.getD i d).map c=is.map λi=>(l.map c).getD i 0:=by
 rw[Qct];exact QaQ λi hi=>by
  have:=Qcd.mp (h.mem_iff.mp hi);simp[this]
def IJ:TE:=fun U H Q=>∃e,U[2]?=some (some (.str e))/\Q (.int (Cv e)) H
def jK(C:Addr):Sp:=λvs H Q _=>∃(p pl d1 d2 d3:Addr) (hs:YR) (fl:YQ) (gs:YT) (j:Int) (ja:YU) (q:List Zone) (k:Nat) (ps:List Place) (e:Str),vs=[.ref p,.int (k:Int),.str e]/\WAt C H p pl d1 d2 d3 hs fl gs/\Fq H pl j ja q/\ja[k]?=some ps/\(∀s∈hs.map (·.1),Bd3 s)/\(∀s∈fl.map (·.1),Bd3 s)/\fl.length<=30/\Bu k ps.length e∈gs.map (·.1) /\
 ∀l xs L H',H l=none->H' l=some (.lst xs)->Paired (BL H') xs L->L.Perm (PN hs gs fl k ps.length e)->(L.map cd3).Pairwise (· < ·)->Same H H'->Q (.ref l) H'
theorem vQ(c:Nq K C "heard" "Wires.heard" Jv Ht)(T:Tw K mg op oe kd wk C)(Qa:⋯ "come_to" 2 JW Ww)(Lq:⋯ "has_short" 1 Ia Ud):FN P w K mg base C "heard" 3 Ht (jK C):=by
 have sc:=GJ;exists c,GJ
 obtain⟨p,pl,d1,d2,d3,hs,fl,gs,bc,ja,jp,k,ps,e,rfl,R,pa,ab,hb,ax,bd,oh,q⟩:=h;refine⟨_,(Ae (3∪GJ∪(cX (Bx Gq (pv 2) Bf (BK _)) (Bd (Aa (pv 1) (Aa Af Ac))) (Bd (Aa (pv 1) (Aa (Bh Cu (Av Bl rfl T.len CP (Aa (Bm BX (Bm BX (El (pv 0) rfl) Af 07) (pv 1) 07) Ac)) Af) Ac)))))
 (Ae (Cw (Dz (NP (CJ hr) (El (pv 0) rfl) (pv 3) 07)) (Ag (Ba (BW Ac))) BR)
 (Ae (Ir (SX Qa hr (Aa (El (pv 0) rfl) (Aa (El (pv 0) rfl) (Aa (pv 3) (Aa (PE.weak (ta':=IJ) (cX (Bx Gq (pv 2) Bf (BK _)) Af (Px LK Af)) (fun U H Q h=>by
    obtain⟨e,e1,q⟩:=h;refine{_,e1,rq,_,rq,?_};unfold Cv Tq at q;split at q
    .rename_i h;rw[h];exact Cm q
    .rename_i h;rw[show decide (V.str e=V.str "A")=false by simpa using h];exact Cz ⟨_,rq,q⟩)) Ac))))) (CV rfl (Am (4∣GJ) (Am (5∣GJ) Bt))))
 (Ae (Cw (Dz (Ce Lq hr (Aa (El (pv 0) rfl) (Aa (pv 4) Ac)))) (Ag (Ba (BW Ac))) BR)
 (Ag (Ba (Av O6 rfl T.sorted Qf (Aa (Ck (N':=["spot","self"]) rfl ([none,some 0]|||(Ai Jv)|||x8) (CZ (pv 5)) (~~~(Aj (i:=0) (show List.Nodup (["spot","self"]:YF) by trivial) rfl (Or.inl rfl))) (~~~(GP (Bx AF (vA (CJ hr) (jQ (K:=K) rfl (pv 1) rfl) (pv 0) ⟨rq,rq,rq,rq⟩) Oq (BK _)))) (~~~(pv 0))) Ac)))))))),?_⟩
 show let R0:TS:=_;let I:TS:=Aq _ R0;let R2:TS:=Aq _ I;let Y:TS:=Aq _ R2;Aq _ Y _ _ _;intro R0 I R2 Y;obtain⟨dx,hp⟩:=R.ins;have ok:=pa.ok;obtain⟨Ls,zs,ws,be,f1,f2,f3,f4,f5⟩:=pa.at_;have lw:=Qcf f3;have bg:=(Qah.mp ab).1;have am:ws[k]?=some ws[k]:=Qam 00;obtain⟨bi,G6,t,bj,ev,ht,ay⟩:=Paired.Cp f3 am;rw[ab] at G6;cases G6;have lv:=Qcf ay;have bk:=(ok.ok ps (QaH ab)).hi;have Qx:atI ws (k:Int)=some (.ref t):=Eu (by rw[am,ev]);have an:Cv e=1\/Cv e=-1:=by unfold Cv;split;exact .inl rfl;exact .inr rfl
 have ga:0<='d'.at_/\'d'.at_<=13:=by
  unfold Bu;dsimp only;split <;> lia
 have qn:PN hs gs fl k ps.length e=[]->∀HX l,Same H HX->HX l=none->Q (.ref l) (upd HX l (.lst [])):=λhz HX l sX O=>by
  refine q l [] [] _ (sX.free O) Ab .nil ?_ .nil (sX.trans (Ad O _));rw[hz]
 show Aq (bf _ _) _ _ _ _;refine Sg (fun U j=>∃to,U=[js p,some (.int (k:Int)),some (.str e),js to,none,none]/\j to=some (.tup [.int (k:Int),.int 'd'.at_])/\Same H j) (fun U j h=>?_) (λD' hn=>?_);rotate_left 1
 .refine{_,rq,rq,_,rq,G4 (λh=>?_) (λh=>?_)}
  .have J:'d'.at_=0:=if_pos h;rw[J] at hn;refine{_,rq,kf,λto N=>?_};exact hn _ _ ⟨to,rq,Ab,Ad N _⟩
  .have J:'d'.at_=09+1:=if_neg (by unfold Tq;rw[h];decide);rw[J] at hn;refine{_,rq,_,rq,p,C,dx,_,_,rq,hp,T.cl,T.dX,Tn (i:=0) (fnd pl d1 d2 d3) rfl,pl,_,_,_,rq,rq,SqT.of f1,rq,_,rq,Ls,_,_,_,rq,rq,SqT.of f2,Qx,t,_,rq,.inr (SqT.of ht),_,_,rq,rq,kf,λto N=>?_};rw[lv];exact hn _ _ ⟨to,rq,Ab,Ad N _⟩
 obtain⟨to,rfl,N,s1⟩:=h;have I:=R.same s1;obtain⟨ae,af⟩:=I.ins;have gg:=Dt.t (k:=k2 'd') I.gp N;rw[Xk oh] at gg;refine{_,rq,p,C,ae,_,_,rq,af,T.cl,T.Hu,Gw pl d1 d2 d3,_,rq,d3,_,rq,gg,_,rq,G4 (λJ=>?_) (λJ=>?_)}
 .exact⟨jv,λl O=>qn (if_pos J) _ l s1 O⟩
 have ao:¬gpC gs 'd'=true:=by rw[J];decide
 refine{_,rq,p,C,ae,_,_,rq,af,T.cl,T.Hi,Ho pl d1 d2 d3,_,rq,p,C,ae,_,_,rq,af,T.cl,T.Hu,Gw pl d1 d2 d3,_,rq,e,rq,d1,d3,to,hs,gs,Bu k ps.length e,Cv e,rq,.inl I.st,.inl I.gp,N,hb,an,by lia,by lia,λtt l1 l2 xs ys H2 az a0 a1 a2 a3 s2=>⟨tt,_,rq,SqT.of az,rq,_,_,rq,_,_,rq,rq,?_⟩};have ag:=s1.trans s2;have R2:=R.same ag;obtain⟨a4,a5⟩:=R2.ins;have nH:(Bc hs gs 'd'.lp (Cv e) 16 'd'.at_).1.length<=200:=Qcs (Tt hs gs _ _ 16 _) 05;refine{_,rq,p,C,a4,_,_,rq,a5,T.cl,T.Hi,Ho pl d1 d2 d3,_,rq,d1,l1,hs,xs,_,rq,.inl R2.st,a0,a1,Rt hs gs _ _ 16 _,nH,λH3 s3=>{_,rq,G4 (λah=>?_) (λah=>?_)}}
 .exact⟨jv,λl O=>qn ((if_neg ao).trans (if_pos ah)) _ l (ag.trans s3) O⟩
 have hw:PN hs gs fl k ps.length e=(Bc hs gs k (Cv e) 16 'd'.at_).2.filter (flC fl):=(if_neg ao).trans (if_neg (by
  have:Dh hs (Bc hs gs k (Cv e) 16 'd'.at_).1=false:=ah;rw[this];decide))
 have ai:=ag.trans s3;have Y:=R.same ai;obtain⟨bl,bm⟩:=Y.ins;have al:=s3 _ _ a2;have ap:Paired (BL H3) ys (Bc hs gs k (Cv e) 16 'd'.at_).2:=Paired.Ax a3 λ_ _ z=>z.tups (Ak.of s3);generalize a6:(Bc hs gs k (Cv e) 16 'd'.at_).2=G at *;have a7:G.Nodup:=by rw[<-a6];exact (Tv hs gs k (Cv e) an 16 _).1
 have fL:(G.filter (flC fl)).Nodup:=List.Nodup.sublist QaU a7;have ar:∀s∈G.filter (flC fl),s∈fl.map (·.1):=λs h=>rO (QbR.mp h).2;have xZ:(G.filter (flC fl)).length<=30:=by
  have:=Rj fL ar;rw[QbJ] at this;lia
 have as:∀s∈G.filter (flC fl),Bd3 s:=λs h=>ax s (ar s h);have ly:=Qcf ap;refine{_,rq,l2,rq,{_,SqL.of al},λlc au=>?_};let J0:YN:=λi U j=>(∃u,U=[u,js p])/\(∃zs,j lc=some (.lst zs)/\Paired (BL j) zs ((G.take i).filter (flC fl)))/\Same H3 j;refine Fi (xs:=ys) J0 {⟨_,rq⟩,{[],Ab,.nil},Ad au _} (λi U j _ h=>SqL.of (h.2.2 _ _ al)) (λi x U j hx h=>?_) (fun U j h=>?_)
 .obtain⟨⟨u,rfl⟩,⟨zs,e1,e3⟩,e2⟩:=h;obtain⟨sp,a8,b,rfl,av⟩:=Paired.Cp ap hx;have RX:=Y.same e2;obtain⟨a9,ba⟩:=RX.ins;obtain⟨kvs,hk,hf⟩:=RX.fi;have lz:=Qcf e3;have JU:zs.length<=30:=by
   rw[lz];exact Qcs ((List.Sublist.filter _ (List.take_sublist i G)).length_le) xZ
  have et:(G.take (i+1)).filter (flC fl)=(G.take i).filter (flC fl)++[sp].filter (flC fl):=by rw[QcJ a8,Qbg]
  unfold Ek;dsimp only;refine{_,rq,p,C,a9,_,_,rq,ba,T.cl,T.VR,oE pl d1 d2 d3,d2,rq,.inr {_,.inl hk},_,rq,_,Dt.t (k:=k3 sp) hk (e2 _ _ av),rq,_,rq,?_};rw[kj sp hf];refine G4 (λhc=>?_) (λhc=>?_)
  .have bb:∀us,j lc≠some (.tup us):=λus z=>by rw[e1] at z;cases z
   have sL:=Ak.upd (o:=.lst (zs++[.ref b])) bb;refine{_,rq,zs,e1,Al 00,⟨_,rq⟩,{_,Ab,?_},e2.Bq Ah.upd au};rw[et,Qau hc];exact QcC ⟨b,rq,sL _ _ (e2 _ _ av)⟩ (Paired.Ax e3 λ_ _ z=>z.tups sL)
  .refine{⟨_,rq⟩,⟨zs,e1,?_⟩,e2};rw[et,Qat (by rw[hc];decide)];show Paired _ _ (_++[]);rw[QbM];exact e3
 obtain⟨_,⟨zs,e1,e3⟩,e2⟩:=h;rw[ly,Qby] at e3;have lz:=Qcf e3;refine Vt (ks:=(G.filter (flC fl)).map cd3) (SqL.of e1) 00 (Xf e3 as) (gw fL as) λis ls aa Nj aw=>?_;rw[lz] at aa;have s5:=Ad aw (.lst (is.map λi=>zs.getD i .non));have Yi:=(ai.trans e2).trans s5;refine q ls _ (is.map λi=>(G.filter (flC fl)).getD i ⟨0,0,0⟩) _ ((ai.trans e2).free aw) Ab (Nh (Paired.Ax e3 λ_ _ z=>z.tups (Ak.of s5)) is λi hi=>by rw[lz];exact Qcd.mp (aa.mem_iff.mp hi)) ?_ ?_ Yi
 .rw[hw];exact Vu aa
 .rw[bU aa];exact Nj
inductive X6(C ca:Addr)(vs:YG)(H:Hp)(Q:VK)(E:XK):Prop
 | mk (p dx v) (_:vs=[.ref p,v]) (_:H p=some (.ins C dx [])) (_:Lz H v) (_:∀H',Same H H'->E (.ref ca) none H'):X6 C ca vs H Q E
theorem vO(F:∃f fd,Fun K "__init__" "Wires.__init__" Hg f fd/\Mk K C f/\Binds K fd Dq [])(T:Tw K mg op oe kd wk C)(q:Er K mg hc c0 c1 c2 c3 c4 c5 c6 c7 c8 c9 c10 c11 c12)(z:Knd K hc c0 [c0,c1,c2,c3,c4,c5,c6,c7,c8,c9,c10,c11,c12] 0)(G:⋯ "is_let_by" 10 HN QH)(I:⋯ "stretches" 1 HF aH)(J:⋯ "devices" 2 Gn Q8)(N:⋯ "openers" 1 JV aJ):Xx P w K mg base C 11 Dq (X6 C c0):=by
 have sc:=Jc;refine EK F Jc (by nofun) λX _ _ _ _ _ H vs Q E O Y j h=>?_
 subst O;obtain⟨p,dx,v,rfl,hp,nl,aa⟩:=h;refine⟨_,(Ae (Cw (Fx (Dz (Cr G j (Aa (pv 1) Ac)))) (Ag (vg rfl z.xc rfl q.jV Y (Aa Bf Ac))) BR)
 (Ae (JT (pv 0) (pv 1) rfl)
 (Ae (JT (pv 0) (G9 (CJ j) (N':=xl) rfl nofun (CZ (Cr I j (Aa (pv 1) Ac))) (~~~(0∩xl)) (λ_ _ _ _=>CK) (~~~(pv 0)) (λ_ _ _ _=>Bf)) rfl)
 (Ae (JT (pv 0) (G9 (CJ j) (N':=xf) rfl nofun (CZ (Cr J j (Aa (pv 1) Ac))) (~~~(Hz (K:=K) (n:=3) rfl rfl (Am (0∩xf) (Am (1∩xf) (Am (2∩xf) Bt))))) (λ_ _ _ _=>CK) (~~~(pv 0)) (~~~(Bd (Aa (pv 1) (Aa (pv 2) Ac))))) rfl)
 (Ag (JT (pv 0) (G9 (CJ j) (N':=xi) rfl nofun (CZ (Cr N j (Aa (pv 1) Ac))) (~~~(0∩xi)) (λ_ _ _ _=>CK) (~~~(pv 0)) (λ_ _ _ _=>DY)) rfl)))))),?_⟩
 exact{_,rq,v,rq,nl,_,rq,Cm ⟨ke,aa _ (Same.refl _)⟩}
theorem cH{G : Type}(c:G->Int):∀{l m:List G},(l.map c).Pairwise (· < ·)->(m.map c).Pairwise (· < ·)->(∀x,x∈l ↔ x∈m)->l=m
 | [],[],_,_,_=>rfl
 | [],b::m,_,_,h=>by have:=(h b).mpr (QaW ..);cases this
 | a::l,[],_,_,h=>by have:=(h a).mp (QaW ..);cases this
 | a::l,b::m,I,J,h=>by
  obtain⟨q,N⟩:=List.pairwise_cons.mp I;obtain⟨z,O⟩:=List.pairwise_cons.mp J;have q:∀x∈l,c a < c x:=λx j=>q _ (Qcq.mpr ⟨x,j,rq⟩);have z:∀x∈m,c b < c x:=λx j=>z _ (Qcq.mpr ⟨x,j,rq⟩);have e:a=b:=by
   rcases Qcg.mp ((h a).mp (QaW ..)) with e | e
   .exact e
   .have:=z a e;rcases Qcg.mp ((h b).mpr (QaW ..)) with e2 | e2
    .exact e2.symm
    .have:=q b e2;lia
  subst e;rw[cH c N O λx=>⟨λj=>?_,λj=>?_⟩]
  .rcases Qcg.mp ((h x).mp (QaI _ j)) with e | e
   .have:=q x j;rw[e] at this;lia
   .exact e
  .rcases Qcg.mp ((h x).mpr (QaI _ j)) with e | e
   .have:=z x j;rw[e] at this;lia
   .exact e
noncomputable def Us (hs:YR) (gs:YT) (fl:YQ) (lp:Int) (n:Nat) (e:Str):YV:=by
 classical exact if h:∃L:YV,L.Perm (PN hs gs fl lp n e)/\(L.map cd3).Pairwise (· < ·) then h.choose else []
theorem Ur{hs:YR}{gs:YT}{fl:YQ}{lp:Int}{n:Nat}{e:Str}{L:YV}(h1:L.Perm (PN hs gs fl lp n e))(h2:(L.map cd3).Pairwise (· < ·)):L=Us hs gs fl lp n e:=by
 have h:∃L:YV,L.Perm (PN hs gs fl lp n e)/\(L.map cd3).Pairwise (· < ·):=⟨L,h1,h2⟩;unfold Us;rw[dif_pos h];obtain⟨j,q⟩:=h.choose_spec;exact cH cd3 h2 q λx=>by rw[h1.mem_iff,j.mem_iff]
theorem Qe{hs:YR}{gs j:YT}{lp st:Int}(h:∀a,gpC gs ⟨lp,a⟩=gpC j ⟨lp,a⟩):∀f a,Bc hs gs lp st f a=Bc hs j lp st f a
 | 0,_=>rfl
 | f+1,a=>by
  unfold Bc;rw[h (a+st),Qe h f (a+st)]
theorem yp{hs:YR}{gs j:YT}{g:Gt}(h:∀a,gpC gs ⟨g.lp,a⟩=gpC j ⟨g.lp,a⟩):Cy hs gs g=Cy hs j g:=by
 unfold Cy;rw[Qe h,Qe h]
def Bg(l:List Gt):YT:=l.map λg=>(g,true)
theorem rP(l:List Gt):(Bg l).map (·.1)=l:=by unfold Bg;rw[Qct];exact List.map_id _
theorem P0{l:List Gt}{g:Gt}:gpC (Bg l) g=true ↔ g∈l:=⟨λh=>by have:=Uw h;rwa [rP] at this,λh=>j l h⟩
where
 j (l:List Gt) {g:Gt} (h:g∈l):gpC (Bg l) g=true:=by
  have e:Bg l=(l.map λg=>(g,false)).map λx:Gt×Bool=>(x.1,true):=by unfold Bg;rw[Qct];rfl
  rw[e];exact Hl (λ_=>true) g _ (by rw[Qct];exact Qcq.mpr ⟨g,h,rq⟩)
theorem Tf(l:List Gt):gU (Bg l) (Bg l):=λg=>by
 unfold inG;rw[Uu];cases e:(Bg l).find? λx=>decide (x.1=g) with
 | none=>
  unfold gpC;rw[e];rfl
 | some y=>
  show gpC (Bg l) g=true;have h1:=Qal e;have h2:y.1=g:=by have:=List.find?_some e;simpa using this
  refine P0.mpr ?_;obtain⟨z,j,rfl⟩:=Qcq.mp h1;rw[<-h2];exact j
def gK(ja:YU)(k:Nat):List Gt:=(up (gtL ja) ja.length).filter λg=>decide (V.int g.lp=V.int (k:Int))
theorem W9{ja:YU}{k:Nat}{g:Gt}:g∈gK ja k ↔ g∈up (gtL ja) ja.length/\g.lp=(k:Int):=by
 unfold gK;rw[QbR];refine and_congr_right λ_=>?_;rw[Qbd];exact⟨λh=>by injection h,λh=>by rw[h]⟩
theorem wA(ja:YU):lone (gs0 ja)=Bg (up (gtL ja) ja.length):=by unfold lone gs0 Bg;rw[Qct];rfl
theorem m8{ja:YU}{k:Nat}{hs:YR}{g:Gt}(e:g.lp=(k:Int)):Cy hs (Bg (gK ja k)) g=Br hs (gs0 ja) g:=by
 unfold Br;rw[wA];refine yp λa=>?_;rw[QbS,P0,P0,W9];exact⟨λh=>h.1,λh=>⟨h,e⟩⟩
def Ej(ja:YU)(k:Nat)(hs:YR):List Gt:=(gK ja k).filter λg=>Cy hs (Bg (gK ja k)) g
theorem Zh{ja:YU}{k:Nat}{hs:YR}{g:Gt}(e:g.lp=(k:Int)):gpC (Bg (Ej ja k hs)) g=gpC (Di hs (gs0 ja)) g:=by
 rw[QbS,P0];unfold Ej;rw[QbR,W9,m8 e];constructor
 .rintro ⟨⟨h1,_⟩,h2⟩;unfold Di;rw[Hl (Br hs (gs0 ja)) g (gs0 ja) (by rw[Le];exact h1)];exact h2
 .intro h;have j:=Uw h;rw[Mf,Le] at j;unfold Di at h;rw[Hl (Br hs (gs0 ja)) g (gs0 ja) (by rw[Le];exact j)] at h;exact{⟨j,e⟩,h}
theorem iC{ja:YU}{hs:YR}{g:Gt}(z:g∈up (gtL ja) ja.length)(h:gpC (Di hs (gs0 ja)) g=false){st:Int}(q:st=1\/st=-1):Dh hs (Bc hs (Di hs (gs0 ja)) g.lp st 16 g.at_).1=false:=by
 have j:=Mf hs (gs0 ja);have G:T3 hs (Di hs (gs0 ja)):=λI h1 h2=>by
  rw[JX j] at h2;rw[j] at h1;unfold Di;rw[Hl (Br hs (gs0 ja)) I (gs0 ja) h1];exact h2
 have e1:=ZF G g;rw[JX j] at e1;have e2:Br hs (gs0 ja) g=false:=by
  rw[<-h];unfold Di;rw[Hl (Br hs (gs0 ja)) g (gs0 ja) (by rw[Le];exact z)]
 rw[e2] at e1;unfold Cy at e1;rw[Bool.or_eq_false_iff] at e1;rcases q with rfl | rfl
 .exact e1.1
 .exact e1.2
def laid(hs fz:YR):YR:=fz.foldl (λhs x=>JB hs x.1 x.2) hs
theorem JG:∀(fz hs:YR),(laid hs fz).map (·.1)=hs.map (·.1)
 | [],_=>rfl
 | x::r,hs=>(JG r _).trans (Q9 _ _ _)
theorem qN(hs fz:YR)(x:Sp3×Str):laid hs (fz++[x])=JB (laid hs fz) x.1 x.2:=by unfold laid;rw[List.foldl_append];rfl
theorem jG{s s':Sp3}{z:Str}:∀{hs:YR},s'∈hs.map (·.1)->stC (JB hs s z) s'=if s=s' then z else stC hs s'
 | [],h=>by cases h
 | a::r,h=>by
  unfold stC JB;rw[Qch];by_cases e:a.1=s'
  .rw[QaA (p:=λx:Sp3×Str=>decide (x.1=s')) (l:=r) (a:=a) (Qca e),QaA (by split <;> exact Qca e)];by_cases j:s=s'
   .rw[if_pos (by rw[e,j]),if_pos j];rfl
   .rw[if_neg (λz=>j (by rw[<-z,e])),if_neg j]
  .rw[Qay (p:=λx:Sp3×Str=>decide (x.1=s')) (l:=r) (a:=a) (by simpa using e),Qay (by split <;> simpa using e)];refine jG (hs:=r) ?_;rcases Qcg.mp h with z | z
   .exact absurd z.symm e
   .exact z
theorem bw{s:Sp3}:∀{fz hs:YR},(fz.map (·.1)).Nodup->s∈hs.map (·.1)->stC (laid hs fz) s=((fz.find? λx=>decide (x.1=s)).map (·.2)).getD (stC hs s)
 | [],_,_,_=>rfl
 | x::r,hs,j,h=>by
  obtain⟨q,G⟩:=QbQ.mp j;show stC (laid (JB hs x.1 x.2) r) s=_;rw[bw G (by rw[Q9];exact h),jG h];by_cases e:x.1=s
  .rw[if_pos e,QaA (by exact Qca e),List.find?_eq_none.mpr λy I=>by simpa using λz=>q (Qcq.mpr ⟨y,I,z.trans e.symm⟩)];rfl
  .rw[if_neg e,Qay (by simpa using e)]
theorem zT{ja:YU}{s:Sp3}(h:s∈up (stL ja) ja.length):stC (hs0 ja) s="whole":=by
 unfold stC;cases e:(hs0 ja).find? λx=>decide (x.1=s) with
 | none=>exact absurd (Qca rfl) (List.find?_eq_none.mp e (s,"whole") (Qcq.mpr ⟨s,h,rfl⟩))
 | some y=>
  obtain⟨z,_,rfl⟩:=Qcq.mp (Qal e);rfl
theorem uW{ja:YU}{fz:YR}(j:(fz.map (·.1)).Nodup):Wd (laid (hs0 ja) fz) fz:=λs hs=>by
 rw[JG,Ld] at hs;rw[bw j (by rw[Ld];exact hs),zT hs];rfl
theorem Zi(hs:YR)(lp a:Int):∀f n,∀s∈Dw hs lp a f n,s∈hs.map (·.1)
 | 0,_,s,h=>by cases h
 | f+1,n,s,h=>by
  unfold Dw at h;split at h
  .cases h
  .rename_i hc;rcases Qcg.mp h with rfl | h
   .exact bx hc
   .exact Zi hs lp a f (n+1) s h
theorem Ru(hs:YR)(gs:YT)(lp st:Int):∀f a,∀s∈(Bc hs gs lp st f a).2,s.n=0\/s∈hs.map (·.1)
 | 0,_,s,h=>by cases h
 | f+1,a,s,h=>by
  have h1:∀s∈(⟨lp,a+st,0⟩::Bw hs lp (a+st):YV),s.n=0\/s∈hs.map (·.1):=λs h=>by
   rcases Qcg.mp h with rfl | h
   .exact .inl rfl
   .exact .inr (Zi hs lp (a+st) 4 1 s h)
  unfold Bc at h;split at h
  .cases h
  .split at h
   .exact h1 s h
   .rcases QbK.mp h with h | h
    .exact h1 s h
    .exact Ru hs gs lp st f (a+st) s h
theorem Tz(hs:YR)(gs:YT)(lp st:Int):∀f a,∀s∈(Bc hs gs lp st f a).2,s.lp=lp
 | 0,_,s,h=>by cases h
 | f+1,a,s,h=>by
  have sp:∀f n,∀s∈Dw hs lp (a+st) f n,s.lp=lp:=λf=>by
   induction f with
   | zero=>intro n s h;cases h
   | succ f j=>
    intro n s h;unfold Dw at h;split at h
    .cases h
    .rcases Qcg.mp h with rfl | h
     .rfl
     .exact j (n+1) s h
  have h1:∀s∈(⟨lp,a+st,0⟩::Bw hs lp (a+st):YV),s.lp=lp:=λs h=>by
   rcases Qcg.mp h with rfl | h
   .rfl
   .exact sp 4 1 s h
  unfold Bc at h;split at h
  .cases h
  .split at h
   .exact h1 s h
   .rcases QbK.mp h with h | h
    .exact h1 s h
    .exact Tz hs gs lp st f (a+st) s h
theorem Zk(lp a:Int):∀(n:Nat) (ds:List Dev) (i:Nat),i < ds.length->∃d∈DW lp a n ds,d.spot=⟨lp,a,((n+i:Nat):Int)⟩
 | n,[],i,h=>by cases h
 | n,x::r,0,_=>⟨_,QaW,rfl⟩
 | n,x::r,i+1,h=>by
  obtain⟨d,h1,h2⟩:=Zk lp a (n+1) r i (by simpa using h);exact⟨d,QaI _ h1,by rw[h2,show n+1+i=n+(i+1) by lia]⟩
theorem YW{ja:YU}{s:Sp3}:flC (fl0 ja) s=true ↔ s∈(up (pdL ja) ja.length).map Sd.spot:=by
 constructor
 .intro h;have:=rO h
  rwa [Uz] at this
 .intro h;obtain⟨d,j,rfl⟩:=Qcq.mp h;unfold flC;cases e:(fl0 ja).find? λx=>decide (x.1=d.spot) with
  | none=>exact absurd (Qca rfl) (List.find?_eq_none.mp e (d.spot,some (d.kind,d.addr)) (Qcq.mpr ⟨d,j,rfl⟩))
  | some y=>
   obtain⟨z,_,rfl⟩:=Qcq.mp (Qal e);rfl
theorem rW{ja:YU}(G:Ec ja){k:Nat}{ps:List Place}(z:ja[k]?=some ps){s:Sp3}(I:s.lp=(k:Int)):s∈(up (pdL ja) ja.length).map Sd.spot->∃(j:Nat) (p:Place),ps[j]?=some p/\s.at_=06/\¬V.str p.kind=V.str "opener":=λh=>by
 obtain⟨d,q,rfl⟩:=Qcq.mp h;obtain⟨i,hi,q⟩:=En q;obtain⟨h1,_⟩:=Y0 G q;have I:d.lp=(k:Int):=I;have:i=k:=by lia
 subst this;obtain⟨O,J,q⟩:=Fp q;rw[z] at J;cases J;obtain⟨j,Y,q⟩:=En q;obtain⟨p,N,q⟩:=Fp q;have h2:=Qt ((G.ok ps (QaH z)).ok p (QaH N)).spur q;refine⟨j,p,N,h2.2.1,λe=>?_⟩;unfold Ca at q;rw[if_pos e] at q;cases q
theorem A9{ja:YU}{k:Nat}{ps:List Place}(q:ja[k]?=some ps){j:Nat}{p:Place}(z:ps[j]?=some p):({(k:Int),06} : Gt)∈up (gtL ja) ja.length ↔ V.str p.kind=V.str "opener":=by
 have J:=(Qah.mp q).1;have N:=(Qah.mp z).1;constructor
 .intro h;obtain⟨i,hi,h⟩:=En h;obtain⟨O,I,h⟩:=Fp h;have Y:i=k:=by
   rcases QbK.mp h with h | h
   .rcases Qcg.mp h with h | h
    .injection h with h1 h2;lia
    .obtain⟨m,hm,h⟩:=En h;have:=(QT h).1;dsimp only at this;lia
   .have h:({(k:Int),06} : Gt)={(i:Int),(O.length:Int)+1}:=by simpa using h
    injection h with h1 h2;lia
  subst Y;rw[q] at I;cases I;rcases QbK.mp h with h | h
  .rcases Qcg.mp h with h | h
   .injection h with h1 h2;lia
   .obtain⟨m,hm,h⟩:=En h;have h2:=(QT h).2.1;dsimp only at h2;have:m=j:=by lia
    subst this;obtain⟨p',G,h⟩:=Fp h;rw[z] at G;cases G;by_cases e:V.str p.kind=V.str "opener"
    .exact e
    .rw[if_neg e] at h;cases h
  .have h:({(i:Int),06} : Gt)={(i:Int),09+1}:=by simpa using h
   injection h with h1 h2;lia
 .intro e;refine Jt (i:=k) ?_ J;unfold gtL;rw[CG q];refine QaJ _ (QaI _ (Jt (i:=j) ?_ N));unfold gt1;rw[CG z,if_pos e];exact Qbc.mpr rfl
theorem bF{ja:YU}(ok:Ec ja){k:Nat}{ps:List Place}(q:ja[k]?=some ps){s:Sp3}(I:s.lp=(k:Int))(hi:inn ps s=true)(hk:s.n=0\/s∈up (stL ja) ja.length):flC (fl0 ja) s=true ↔ ¬(⟨s.lp,s.at_⟩ : Gt)∈gK ja k:=by
 have ab:=(Qah.mp q).1;unfold inn at hi;rw[QbF,Qbd,Qbd] at hi;obtain⟨j,N,aa⟩ : ∃j:Nat,s.at_=06/\j < ps.length:={(s.at_ - 1).toNat,by lia,by lia};have J:ps[j]?=some ps[j]:=Qam aa;rw[YW,W9,I,N,A9 q J];constructor
 .rintro h ⟨h1,_⟩;obtain⟨z,p',h2,h3,h4⟩:=rW ok q I h;have:z=j:=by lia
  subst this;rw[J] at h2;cases h2;exact h4 h1
 .intro h;have ne:¬V.str ps[j].kind=V.str "opener":=λe=>h ⟨e,rq⟩;have G:∀d∈Ca (k:Int) 06 ps[j],d∈up (pdL ja) ja.length:=λd O=>by
   refine Jt (i:=k) ?_ ab;unfold pdL;rw[CG q];refine Jt (i:=j) ?_ aa;unfold pd1;rw[CG J];exact O
  unfold Ca at G;rw[if_neg ne] at G;by_cases Y:s.n=0
  .refine Qcq.mpr {_,G _ QaW,?_};show ({(k:Int),06,0} : Sp3)=s;rw[<-I,<-N,<-Y]
  .have hs:=hk.resolve_left Y;have es:s={(k:Int),s.at_,s.n}:=by rw[<-I]
   rw[es,Kz q] at hs;obtain⟨z,p',h2,h3,h4,h5⟩:=hs.resolve_left λae=>Y ae.2;have:z=j:=by lia
   subst this;rw[J] at h2;cases h2;obtain⟨d,O,e⟩:=Zk (k:Int) ((1+z:Nat):Int) 1 ps[z].spur (s.n - 1).toNat 00;refine Qcq.mpr ⟨d,G _ (QaI _ O),?_⟩;rw[e,es,N,show ((1+(s.n - 1).toNat:Nat):Int)=s.n by lia]
abbrev Oe:Stmt:=top 56
abbrev GX:YF:=["wires","faults"]
theorem Ju:Ay ["wires","faults","stretch","how"] GX (Ai Oe):=by ac_rfl
abbrev Jd:Stmt:=top 57
abbrev Eh:YF:=["wires","loop"]
theorem Ma:Ay ["wires","loop"] Eh (Ai Jd):=by ac_rfl
abbrev Ku:Stmt:=top 58
abbrev Fd:YF:=["plan","loop","faults"]
theorem Gg:Ay ["plan","loop","faults","wires"] Fd (Ai Ku):=by ac_rfl
theorem G0{ja:YU}(q:Ec ja):Wg (gs0 ja):=λx z=>by
 have h:x.1∈up (gtL ja) ja.length:=by rw[<-Le];exact Qcq.mpr ⟨x,z,rq⟩
 obtain⟨k,ps,j,e,G,I⟩:=j7 h;have:=(q.ok ps (QaH j)).hi;lia
theorem j6{ja:YU}{k:Nat}{ps:List Place}(j:ja[k]?=some ps)(e:Str):Bu k ps.length e∈up (gtL ja) ja.length:=by
 refine Jt (i:=k) ?_ (Qah.mp j).1;unfold gtL;rw[CG j];unfold Bu;split
 .exact QaJ _ (QaW ..)
 .exact QaC _ (QaW ..)
theorem zy{j:Int}{ja:YU}{q:List Zone}{H:Hp}{pl:Addr}(z:Fq H pl j ja q):(fl0 ja).length<=30:=by
 have c2:=z.pok.cnt.2;have G:(up (pdL ja) ja.length).length=(CQ ja).length:=by rw[<-Ke ja,QbJ]
 unfold fl0;rw[QbJ];lia
structure FB(ja:YU)(fz:YR):Prop where
 key:∀x∈fz,x.1∈up (stL ja) ja.length
 how:∀x∈fz,x.2=("cut":Str)\/x.2=("short":Str)
 nd:(fz.map (·.1)).Nodup
 few:fz.length<=6
def Zd(H:Hp)(j:Addr)(fz:YR):Prop:=∃o vs,H j=some (.frz o (.tup vs))/\Tp o/\Paired (Jr H) vs (stV fz)
theorem Gj{H H':Hp}(s:Ak H H'){v:V}{r:List Key×V}(h:Jr H v r):Jr H' v r:=by
 obtain⟨t,b,e,h1,h2⟩:=h;exact⟨t,b,e,s _ _ h1,s _ _ h2⟩
theorem Zd.same{H H':Hp}{j:Addr}{fz:YR}(h:Zd H j fz)(s:Same H H'):Zd H' j fz:=by
 obtain⟨o,q,h1,h2,G⟩:=h;exact⟨o,q,s _ _ h1,h2,Paired.Ax G λ_ _ z=>Gj (Ak.of s) z⟩
def lV(C:Addr):Sp:=λvs H Q _=>∃(p pl d1 d2 d3 j:Addr) (hs:YR) (fl:YQ) (gs:YT) (fz:YR),vs=[.ref p,.ref j]/\WAt C H p pl d1 d2 d3 hs fl gs/\d1≠d2/\(∀s∈hs.map (·.1),Bd3 s)/\Wg gs/\Zd H j fz/\(∀x∈fz,x.1∈hs.map (·.1))/\(∀x∈fz,x.2=("cut":Str)\/x.2=("short":Str)) /\
 ∀H',WAt C H' p pl d1 d2 d3 (laid hs fz) fl (Di (laid hs fz) gs)->(∀c o,H c=some o->c≠d1->c≠d3->H' c=some o)->Q .non H'
theorem Z1(c:Code K mg "lay_faults" Oe GX)(T:Tw K mg op oe kd wk C)(By:FN P w K mg base C "cut" 4 Jl (Wr C "cut"))(rm:FN P w K mg base C "short" 4 Hs (Wr C "short"))(V2:FN P w K mg base C "come_to_rest" 5 Eb (XR C)):⋯ "lay_faults" 6 GX (lV C):=by
 have sc:=Ju;exists c,Ju
 obtain⟨p,pl,d1,d2,d3,fa,hs,fl,gs,j,rfl,R,ae,hb,hg,⟨o,vs,Y,tp,af⟩,ai,EA,ar⟩:=h;refine⟨_,(Ae (Cj QbN rfl (Fb (pv 1)) (CV rfl (Am (2∣Ju) (Am (3∣Ju) Bt)))
 (Ag (Cw (Bx Gq (pv 3) Bf (BK _)) (Ag (Bo (WK (pv 0) T.cl By hr (Aa (pv 2) Ac)))) (Ag (Bo (WK (pv 0) T.cl rm hr (Aa (pv 2) Ac)))))))
 (Ag (Bo (F5 (pv 0) T.cl V2 hr)))),?_⟩
 show let R0:TS:=_;let R1:TS:=_;let R2:TS:=Jz _ R0 R1;Aq (Dm _ _ R2) _ _ _ _;intro R0 R1 R2;have al:fa≠d1:=λas=>by have:=R.st;rw[<-as,Y] at this;cases this
 have am:∀zs,H d1≠some (.tup zs):=λzs e=>by rw[R.st] at e;cases e
 have lz:vs.length=j.length:=by rw[Qcf af];exact QbJ ..
 refine{_,rq,fa,rq,{_,tU Y},?_};let J0:YN:=λi U G=>(∃u2 u3,U=[js p,js fa,u2,u3])/\WAt C G p pl d1 d2 d3 (laid hs (j.take i)) fl gs/\Ah d1 H G;refine Kd (xs:=vs) J0 {⟨_,_,rq⟩,R,Ah.refl _ _} (λi U G _ h=>tU (h.2.2 _ _ Y al)) (λi x U G hx h=>?_) (fun U G h=>?_)
 .obtain⟨⟨u2,u3,rfl⟩,W,I⟩:=h;obtain⟨r,z,t,b,rfl,ht,an⟩:=Paired.Cp af hx;obtain⟨y,hy,rfl⟩ : ∃y,j[i]?=some y/\r=(k3 y.1,V.str y.2):=by
   unfold stV at z;rw[Qbn] at z;cases e:j[i]? with
   | none=>rw[e] at z;cases z
   | some y=>rw[e] at z;cases z;exact⟨y,rfl,rfl⟩
  have aa:=QaH hy;have tB:=I.tup am;have ao:=tB _ _ ht;have ag:G b=some (.tup [.int y.1.lp,.int y.1.at_,.int y.1.n]):=tB _ _ an;have ah:y.1∈(laid hs (j.take i)).map (·.1):=by rw[JG];exact ai y aa
  obtain⟨dx,O⟩:=W.ins;have N:∀q,WAt C q p pl d1 d2 d3 (JB (laid hs (j.take i)) y.1 y.2) fl gs->WAt C q p pl d1 d2 d3 (laid hs (j.take (i+1))) fl gs:=λq J=>by
   rw[QcJ hy,qN];exact J
  refine⟨t,_,rq,SqT.of ao,rq,_,_,rq,_,_,rq,rq,?_⟩;refine{_,rq,rq,_,rq,G4 (λhc=>?_) (λhc=>?_)}
  .have hz:y.2="cut":=by
    rcases EA y aa with h | h
    .exact h
    .have hc:decide (V.str y.2=V.str "cut")=true:=hc;rw[h] at hc;exact absurd hc (by trivial)
   rw[hz] at N;exact{_,rq,p,dx,_,rq,O,fno (by trivial),_,rq,p,pl,d1,d2,d3,_,fl,gs,b,y.1,rq,W,ae,ag,ah,λq J ab=>{⟨_,_,rq⟩,N q J,I.trans ab}}
  .have hz:y.2="short":=by
    rcases EA y aa with h | h
    .have hc:decide (V.str y.2=V.str "cut")=false:=hc;rw[h] at hc;exact absurd hc (by trivial)
    .exact h
   rw[hz] at N;exact{_,rq,p,dx,_,rq,O,fno (by trivial),_,rq,p,pl,d1,d2,d3,_,fl,gs,b,y.1,rq,W,ae,ag,ah,λq J ab=>{⟨_,_,rq⟩,N q J,I.trans ab}}
 .obtain⟨⟨u2,u3,rfl⟩,W,I⟩:=h;rw[lz,Qby] at W;obtain⟨dx,O⟩:=W.ins;refine{_,rq,p,dx,_,rq,O,fno (by trivial),p,pl,d1,d2,d3,_,fl,gs,rq,W,by rw[JG];exact hb,hg,λl xs H' au hl _ W' ap=>?_};exact ar H' W' λc o e n1 n3=>ap _ _ (I _ _ e n1) n3
def bN(C:Addr):Sp:=λvs H Q _=>∃(p pl d1 d2 d3:Addr) (hs:YR) (fl:YQ) (gs:YT) (I:Int) (ja:YU) (J:List Zone) (k:Nat) (ps:List Place),vs=[.ref p,.int (k:Int)]/\WAt C H p pl d1 d2 d3 hs fl gs/\Fq H pl I ja J/\ja[k]?=some ps/\(∀s∈hs.map (·.1),Bd3 s)/\(∀s∈fl.map (·.1),Bd3 s)/\fl.length<=30/\(∀e,Bu k ps.length e∈gs.map (·.1)) /\
 ∀t j q z G H',H' t=some (.tup [.ref j,.ref q])->H' j=some (.tup z)->H' q=some (.tup G)->Paired (BL H') z (Us hs gs fl k ps.length "A")->Paired (BL H') G (Us hs gs fl k ps.length "B")->Same H H'->Q (.ref t) H'
theorem S8(c:Code K mg "heard_from_both" Jd Eh)(T:Tw K mg op oe kd wk C)(ZC:FN P w K mg base C "heard" 3 Ht (jK C)):⋯ "heard_from_both" 4 Eh (bN C):=by
 have sc:=Ma;exists c,Ma
 obtain⟨p,pl,d1,d2,d3,hs,fl,gs,q,ja,jp,k,ps,rfl,R,pa,G,hb,I,J,oh,am⟩:=h;refine{_,(Ag (Ba (Bd (Aa (CW DG rfl T.tuple Gb (Aa (yS (pv 0) T.cl ZC hr (Aa (pv 1) (Aa Bf Ac))) Ac)) (Aa (CW DG rfl T.tuple Gb (Aa (yS (pv 0) T.cl ZC hr (Aa (pv 1) (Aa Bf Ac))) Ac)) Ac))))),?_};obtain⟨dx,hp⟩:=R.ins;refine{_,rq,p,dx,_,rq,hp,fno (by trivial),_,rq,p,pl,d1,d2,d3,hs,fl,gs,q,ja,jp,k,ps,"A",rq,R,pa,G,hb,I,J,oh _,λla xa L H1 an ae N aa ab s1=>?_};rw[Ur aa ab] at N;refine⟨la,_,rq,.inl {SqL.of ae,λua af=>?_}⟩;have k1:=Ad af (.tup xa);have s2:=s1.trans k1;have R2:=R.same s2;obtain⟨ag,ah⟩:=R2.ins;refine{_,rq,p,ag,_,rq,ah,fno (by trivial),_,rq,p,pl,d1,d2,d3,hs,fl,gs,q,ja,jp,k,ps,"B",rq,R2,pa.same s2,G,hb,I,J,oh _,λlb xb L2 H3 ao ai O F7 FX s3=>?_};rw[Ur F7 FX] at O;refine⟨lb,_,rq,.inl {SqL.of ai,λub al=>⟨kf,λt ht=>?_⟩}⟩;have k2:=Ad al (.tup xb);have k3:=Ad ht (.tup [.ref ua,.ref ub]);have j:=k2.trans k3;have Y:=k1.trans (s3.trans j);refine am t ua ub xa xb _ Ab (j _ _ (s3 _ _ Ab)) (k3 _ _ Ab) (Paired.Ax N λ_ _ z=>z.tups (Ak.of Y)) (Paired.Ax O λ_ _ z=>z.tups (Ak.of j)) (s1.trans Y)
noncomputable def PX (ja:YU) (fz:YR) (k:Nat) (ps:List Place) (e:Str):YV:=Us (laid (hs0 ja) fz) (Di (laid (hs0 ja) fz) (gs0 ja)) (fl0 ja) k ps.length e
inductive bM(vs:YG)(H:Hp)(Q:VK)(E:XK):Prop
 | mk (pl fa:Addr) (most:Int) (ja:YU) (jp:List Zone) (k:Nat) (ps:List Place) (fz:YR) (_:vs=[.ref pl,.int (k:Int),.ref fa]) (_:Fq H pl most ja jp) (_:ja[k]?=some ps) (_:Zd H fa fz) (_:FB ja fz) (_:∀t ua ub xa xb H',H' t=some (.tup [.ref ua,.ref ub])->H' ua=some (.tup xa)->H' ub=some (.tup xb)->Paired (BL H') xa (PX ja fz k ps "A")->Paired (BL H') xb (PX ja fz k ps "B")->Same H H'->Q (.ref t) H'):bM vs H Q E
theorem Z2(c:Code K mg "heard_with" Ku Fd)(T:Tw K mg op oe kd wk C)(rK:pq P w K mg base C 11 Dq (X7 C))(O2:⋯ "lay_faults" 6 GX (lV C))(Jg:⋯ "heard_from_both" 4 Eh (bN C)):⋯ "heard_with" 13 Fd bM:=by
 have sc:=Gg;refine c.good Gg (by nofun) λ_ _ _ _ _ H vs Q E z h=>?_
 obtain⟨pl,fa,G,ja,O,k,ps,fz,rfl,j,I,aa,J,al⟩:=h;refine⟨_,(Ae (3∪Gg∪(F6 rK z T.mgC (Aa (pv 0) Ac)))
 (Ae (Bo (Ce O2 z (Aa (pv 3) (Aa (pv 2) Ac))))
 (Ag (Ba (Ce Jg z (Aa (pv 3) (Aa (pv 1) Ac))))))),?_⟩
 show let Y:TS:=_;let R1:TS:=Aq _ Y;Aq _ R1 _ _ _;intro Y R1;refine{_,rq,λp dx hp ab ae=>?_};have q:Same H (upd (upd H dx (.own p)) p (.ins C dx [])):=(Ad ab _).trans (Ad (by rw[Ao ae.symm];exact hp) _);have af:(upd (upd H dx (.own p)) p (.ins C dx [])) p=some (.ins C dx []):=Ab;generalize upd (upd H dx (.own p)) p (.ins C dx [])=Hx at *;refine⟨p,dx,pl,G,ja,O,rq,af,j.same q,λd1 d2 d3 H3 f1 f2 f3 ag W1 sb=>⟨rq,?_⟩⟩;have s3:Same H H3:=q.Bq sb hp;have ah:H d1=none:=q.free f1;have ai:H d3=none:=q.free f3;have N:∀s∈(hs0 ja).map (·.1),Bd3 s:=by rw[Ld];exact yO j.ok
 refine{_,rq,_,rq,p,pl,d1,d2,d3,fa,hs0 ja,fl0 ja,gs0 ja,fz,rq,W1,ag,N,G0 j.ok,aa.same s3,λx hx=>by rw[Ld];exact J.key x hx,J.how,λH4 W4 s4=>?_};have s5:Same H H4:=λc o e=>s4 _ _ (s3 _ _ e) (Aw e ah) (Aw e ai);refine{_,rq,_,rq,p,pl,d1,d2,d3,_,_,_,G,ja,O,k,ps,rq,W4,j.same s5,I,by rw[JG];exact N,?_,zy j,λe=>by rw[Mf,Le];exact j6 I e,λt ua ub xa xb H5 h1 h2 h3 h4 h5 s6=>al t ua ub xa xb H5 h1 h2 h3 h4 h5 (s5.trans s6)};intro s hs;rw[Uz] at hs;obtain⟨d,hd,rfl⟩:=Qcq.mp hs;exact rT j.ok d hd
inductive lW(ca:Addr)(vs:YG)(H:Hp)(Q:VK)(E:XK):Prop
 | mk (v k fa) (_:vs=[v,k,fa]) (_:Lz H v) (_:∀H',Same H H'->E (.ref ca) none H'):lW ca vs H Q E
theorem Yq(c:Code K mg "heard_with" Ku Fd)(T:Tw K mg op oe kd wk C)(I:Xx P w K mg base C 11 Dq (X6 C c0))(J:⋯ "lay_faults" 6 GX (lV C))(N:⋯ "heard_from_both" 4 Eh (bN C)):aN P w K mg base "heard_with" 13 Fd (lW c0):=by
 have sc:=Gg;refine c.G1 Gg (by nofun) λX _ _ _ _ _ H vs Q E O Y j h=>?_
 subst O;obtain⟨v,k,fa,rfl,nl,aa⟩:=h;refine⟨_,(Ae (3∪Gg∪(CY I j T.mgC Y (Aa (pv 0) Ac)))
 (Ae (Bo (Ce J j (Aa (pv 3) (Aa (pv 2) Ac))))
 (Ag (Ba (Ce N j (Aa (pv 3) (Aa (pv 1) Ac))))))),?_⟩
 refine{_,rq,λp dx hp z G=>?_};have q:Same H (upd (upd H dx (.own p)) p (.ins C dx [])):=(Ad z _).trans (Ad (by rw[Ao G.symm];exact hp) _);refine⟨p,dx,v,rq,Ab,nl.same q,λH' s'=>?_⟩;exact aa H' (q.trans s')
abbrev Nx:Stmt:=top 72
abbrev QM:YF:=["_law_plan_here","_law_loop_here","_law_faults_here"]
abbrev xn:YF:=["_law_plan_here","_law_loop_here","_law_faults_here","_law_hows","_law_gates_here","_law_every","_law_stops","_law_found","_law_place","_law_step","_law_spots"]
theorem Gv:Ay xn QM (Ai Nx):=by ac_rfl
def gtD(g:Gt):PyData:=.tuple [.int g.lp,.int g.at_]
theorem Zz{K:YD}{H:Hp}:∀{vs:YG} {gs:List Gt},Paired (Du H) vs gs->Jw K H vs (gs.map gtD)
 | _,_,.nil=>.nil
 | _,_,.cons ⟨t,e,h1⟩ r=>by
  subst e;exact .cons (.tup (SqT.of h1) (.cons (.int _) (.cons (.int _) .nil))) (Zz r)
theorem jZ:∀gs:List Gt,PyData.canLayAll0 (gs.map gtD)=true
 | []=>rfl
 | d::r=>by
  have j:=jZ r;show ((true&&(true&&true))&&PyData.canLayAll0 (r.map gtD))=true;rw[j];rfl
theorem EH(s t:Gt):PyData.eqv (gtD s) (gtD t)=decide (s=t):=by
 obtain⟨a,b⟩:=s;obtain⟨j,q⟩:=t;show (_&&(_&&true))=_;by_cases e:a=j/\b=q
 .obtain⟨rfl,rfl⟩:=e;simp[PyData.eqv]
 .rw[QbO (λz=>e (by injection z with G z2;exact⟨G,z2⟩))];simp only[PyData.eqv,Bool.and_true,Bool.and_eq_false_iff];simp;lia
theorem EI(L:List Gt)(s:Gt):(L.map gtD).any (λz=>PyData.eqv z (gtD s))=decide (s∈L):=by
 rw[List.any_map]
 induction L with
 | nil=>rfl
 | cons a r j=>
  rw[Qcl,j];show (PyData.eqv (gtD a) (gtD s) || _)=_;rw[EH];by_cases e:a=s
  .subst e;simp
  .rw[QbO e,Bool.false_or];have:(s∈a::r) ↔ s∈r:=by rw[Qcg];exact⟨λh=>h.resolve_left λz=>e z.symm,.inr⟩
   simp[this]
def U4(H:Hp)(ja:YU)(fz:YR)(k:Nat)(ps:List Place)(v:V)(e:Str):Prop:=∃u xs,v=.ref u/\H u=some (.tup xs)/\Paired (BL H) xs (PX ja fz k ps e)
theorem U4.tups{H H':Hp}{ja:YU}{fz:YR}{k:Nat}{ps:List Place}(s:Ak H H'){v:V}{e:Str}(h:U4 H ja fz k ps v e):U4 H' ja fz k ps v e:=by
 obtain⟨u,xs,e1,h1,h2⟩:=h;exact⟨u,xs,e1,s _ _ h1,Paired.Ax h2 λ_ _ z=>z.tups s⟩
def ends:YF:=["A","B"]
theorem yW{L:List Gt}(j:L.Nodup):((gpV (Bg L)).map (·.1)).Nodup:=by
 unfold gpV Bg;rw[Qct,Qct];rw[Qag] at j ⊢;rw[Qbt];exact j.imp λ{a b} h e=>h (Te e)
theorem xQ{ja:YU}(G:Ec ja){fz:YR}{k:Nat}{ps:List Place}(q:ja[k]?=some ps)(e:Str)(hs:YR)(I:hs=laid (hs0 ja) fz):PN hs (Di hs (gs0 ja)) (fl0 ja) k ps.length e=if gpC (Bg (Ej ja k hs)) 'd'=true then [] else ((Bc hs (Bg (Ej ja k hs)) k (Cv e) 16 'd'.at_).2.filter (inn ps)).filter λs=>!decide ((⟨s.lp,s.at_⟩ : Gt)∈gK ja k):=by
 have J:Cv e=1\/Cv e=-1:=by unfold Cv;split;exact .inl rfl;exact .inr rfl
 have e1:gpC (Bg (Ej ja k hs)) 'd'=gpC (Di hs (gs0 ja)) 'd':=Zh rfl;have e2:Bc hs (Bg (Ej ja k hs)) k (Cv e) 16 'd'.at_=Bc hs (Di hs (gs0 ja)) k (Cv e) 16 'd'.at_:=Qe (λa=>Zh (g:={(k:Int),a}) rfl) 16 _;rw[e1,e2];unfold PN;cases c:gpC (Di hs (gs0 ja)) 'd' with
 | true=>rw[if_pos rfl,if_pos rfl]
 | false=>
  have c2:=iC (hs:=hs) (j6 q e) c J;have c2:Dh hs (Bc hs (Di hs (gs0 ja)) k (Cv e) 16 'd'.at_).1=false:=c2;rw[if_neg QaX,c2,if_neg QaX,if_neg QaX,List.filter_filter];refine List.filter_congr λs z=>?_;have h1:=Tz hs (Di hs (gs0 ja)) k (Cv e) 16 _ s z;have h2:=Ru hs (Di hs (gs0 ja)) k (Cv e) 16 _ s z;rw[I,JG,Ld] at h2;cases j:inn ps s with
  | true=>
   rw[Bool.and_true,QbS,bF G q h1 j h2];simp
  | false=>
   rw[Bool.and_false];cases N:flC (fl0 ja) s with
   | false=>rfl
   | true=>
    obtain⟨aa,p,O,Y,_⟩:=rW G q h1 (YW.mp N);have:=(Qah.mp O).1;unfold inn at j;rw[Y,Qca 00,Qca 00] at j;cases j
abbrev x9:YF:=["_law_gate","_law_loop_here"]
abbrev ye:YF:=["_law_gate","_law_plan_here","_law_hows","_law_every"]
abbrev yf:YF:=["_law_spot","_law_gates_here"]
theorem De(c:Code K mg "_law_due" Nx QM)(T:Tw K mg op oe kd wk C)(rC:⋯ "_law_gates" 1 Mi X8)(rD:⋯ "_law_feels" 2 Mj Yb)(V3:⋯ "_law_walk" 1 K8 Wq):⋯ "_law_due" 3 QM bM:=by
 have sc:=Gv;exists c,Gv
 obtain⟨pl,fa,ao,ja,jp,k,ps,J,rfl,pa,ag,bu,ap,cv⟩:=h;refine⟨_,(Ae (Az (i:=3) Gv.nd rfl (Or.inr rfl) (CW (ji hr.units rfl) rfl T.dict Y8 (Aa (pv 2) Ac)))
 (Ae (Az (i:=4) Gv.nd rfl (Or.inr rfl) (Ck (N':=x9) rfl ([none,some 1]|||(Ai Nx)|||xn) (CZ (Cr rC hr (Aa (pv 0) Ac))) (~~~(0∩x9)) (~~~(GP (Bx Gq (Bm (NT (K:=K) rfl) (pv 0) Af 07) (pv 1) (BK _)))) (~~~(pv 0))))
 (Ae (Az (i:=5) Gv.nd rfl (Or.inr rfl) (CW (Vk hr.units rfl) rfl T.dict Y8 (Aa (Ck (N':=["_law_gate"]) rfl nofun (CZ (pv 4)) (~~~(Aj (i:=0) (show List.Nodup (["_law_gate"]:YF) by trivial) rfl (Or.inl rfl))) (λ_ _ _ _=>CK) (~~~(Bd (Aa (pv 0) (Aa DY Ac))))) Ac)))
 (Ae (6∪Gv∪(CW (Vk hr.units rfl) rfl T.dict Y8 (Aa (Ck (N':=ye) rfl ([none,some 0,some 3,some 5]|||(Ai Nx)|||xn) (CZ (pv 4)) (~~~(0∩ye)) (~~~(GP (Dz (SX rD hr (Aa (pv 1) (Aa (pv 2) (Aa (pv 3) (Aa (pv 0) Ac)))))))) (~~~(Bd (Aa (pv 0) (Aa DY Ac))))) Ac)))
 (Ae (7∪Gv∪(BW Ac))
 (Ae (Cj QbN rfl (Fb (Bd (Aa (Bd (Aa Af (Aa Af Ac))) (Aa (Bd (Aa (Bh Cu (Av Bl rfl T.len CP (Aa (Bm BX (Bm BX (pv 0) Af 07) (pv 1) 07) Ac)) Af) (Aa (Px LK Af) Ac))) Ac)))) (CV rfl (Am (8∣Gv) (Am (9∣Gv) Bt)))
 (Ag (Cw (Oi (WL (CJ hr) (Bd (Aa (pv 1) (Aa (pv 8) Ac))) (pv 6))) (Ag (Bo (Cq Qar Qan Qao BP (pv 7) (Aa (Bd Ac) Ac)))) (Ae (10∪Gv∪(Bm BX (qm V3 hr (@Aa _ _ _ _ _ (pv 0) (@Aa _ _ _ _ _ (pv 3) (@Aa _ _ _ _ _ (pv 6) (@Aa _ _ _ _ _ (pv 1) (@Aa _ _ _ _ _ (pv 8) (@Aa _ _ _ _ _ (pv 9) (@Ac _) Gf) Gf) Gf) Gf) Gf) Gf)) Af 07))
 (Ag (Bo (Cq Qar Qan Qao BP (pv 7) (Aa (CW DG rfl T.tuple Gb (Aa (Av O6 rfl T.sorted Qf (Aa (Ck (N':=yf) rfl ([none,some 4]|||(Ai Nx)|||xn) (CZ (pv 10)) (~~~(0∩yf)) (~~~(GP (Bx (mL (K:=K) rfl hr.BY) (Bd (Aa (Bm (NT (K:=K) rfl) (pv 0) Af 07) (Aa (Bm (NT (K:=K) rfl) (pv 0) Af 07) Ac))) (pv 1) (by with_unfolding_all rfl)))) (~~~(pv 0))) Ac)) Ac)) Ac))))))))
 (Ag (Ba (CW DG rfl T.tuple Gb (Aa (pv 7) Ac)))))))))),?_⟩
 show let R0:TS:=_;let R1:TS:=_;let R2:TS:=_;let R3:TS:=Aq _ R2;let R4:TS:=Jz _ R1 R3;let R5:TS:=Aq (Dm _ _ R4) R0;let R6:TS:=Aq _ R5;let R7:TS:=Aq _ R6;let R8:TS:=Aq _ R7;let R9:TS:=Aq _ R8;Aq _ R9 _ _ _;intro R0 R1 R2 R3 R4 R5 R6 R7 R8 R9;have ok:=pa.ok;obtain⟨Ls,zs,ws,cx,f1,f2,f3,f4,f5⟩:=pa.at_;have lw:=Qcf f3;have cy:=(Qah.mp ag).1;have a8:ws[k]?=some ws[k]:=Qam 00;obtain⟨cz,G6,t,ar,ev,ht,bv⟩:=Paired.Cp f3 a8;rw[ag] at G6;cases G6;have lv:=Qcf bv;have a9:=ok.ok ps (QaH ag);have da:=a9.hi;have Qx:atI ws (k:Int)=some (.ref t):=Eu (by rw[a8,ev]);have a7:=dz ok;obtain⟨o,vs,bz,tp,GW⟩:=bu;have b0:((stV J).map (·.1)).Nodup:=by
  unfold stV;rw[Qct];have nd:=ap.nd;rw[Qag,Qbt] at nd;rw[Qag,Qbt];exact nd.imp λ{a b} h e=>h (Mv e)
 have db:=ap.few;refine{_,rq,fa,o,vs,stV J,rq,bz,tp,GW,b0,by unfold stV;rw[QbJ];lia,λdh ba=>?_};have s1:=Ad ba (.dT (stV J));have e1:(upd H dh (.dT (stV J))) dh=some (.dT (stV J)):=Ab;generalize upd H dh (.dT (stV J))=H1 at *;refine{_,rq,pl,ao,ja,jp,rq,pa.same s1,λlg xg H2 b1 as pg s2=>⟨lg,rq,{_,SqL.of as},λlc au=>?_⟩};have b2:=Qcf pg;let J0:YN:=λi U q=>(∃u,U=[u,some (.int (k:Int))])/\(∃ys,q lc=some (.lst ys)/\Paired (Du q) ys (((up (gtL ja) ja.length).take i).filter λg=>decide (V.int g.lp=V.int (k:Int))))/\Same H2 q;refine Fi (xs:=xg) J0 {⟨_,rq⟩,{[],Ab,.nil},Ad au _} (λi U q _ h=>SqL.of (h.2.2 _ _ as)) (λi x U q N h=>?_) (fun U q h=>?_)
 .obtain⟨⟨u,rfl⟩,⟨ys,g1,O⟩,g3⟩:=h;obtain⟨g,hg,b,rfl,hb⟩:=Paired.Cp pg N;have ly:=Qcf O;have b3:ys.length<=200:=by
   rw[ly];exact Qcs (QaF ..) (Qcs (List.length_take_le' ..) a7)
  have et:((up (gtL ja) ja.length).take (i+1)).filter (λg=>decide (V.int g.lp=V.int (k:Int)))=((up (gtL ja) ja.length).take i).filter (λg=>decide (V.int g.lp=V.int (k:Int)))++[g].filter (λg=>decide (V.int g.lp=V.int (k:Int))):=by rw[QcJ hg,Qbg]
  unfold Ek;dsimp only;refine{_,rq,b,_,_,_,rq,rq,SqT.of (g3 _ _ hb),rq,_,rq,rq,_,rq,G4 (λhc=>?_) (λhc=>?_)}
  .have ab:∀us,q lc≠some (.tup us):=λus z=>by rw[g1] at z;cases z
   have Y:=Ak.upd (o:=.lst (ys++[.ref b])) ab;refine{_,rq,ys,g1,Al 00,⟨_,rq⟩,{_,Ab,?_},g3.Bq Ah.upd au};rw[et,Qau (p:=λg:Gt=>decide (V.int g.lp=V.int (k:Int))) hc];exact QcC ⟨b,rq,Y _ _ (g3 _ _ hb)⟩ (Paired.Ax O λ_ _ z=>z.tups Y)
  .refine{⟨_,rq⟩,⟨ys,g1,?_⟩,g3};have hc:decide (V.int g.lp=V.int (k:Int))=false:=hc;rw[et,Qat (p:=λg:Gt=>decide (V.int g.lp=V.int (k:Int))) (by show ¬decide (V.int g.lp=V.int (k:Int))=true;rw[hc];decide)];show Paired _ _ (_++[]);rw[QbM];exact O
 obtain⟨_,⟨gv,g1,O⟩,g3⟩:=h;rw[b2,Qby] at O;have O:Paired (Du q) gv (gK ja k):=O;have bb:=Qcf O;have bc:(gK ja k).length<=200:=Qcs (QaF ..) a7;have bd:(gK ja k).Nodup:=List.Nodup.sublist QaU (ou ok);have s3:=s1.trans (s2.trans g3);have e1:=g3 _ _ (s2 _ _ e1);clear as pg b1 s2 g3 s1 ba;refine{_,rq,lc,rq,{_,SqL.of g1},λav xO=>?_};let J1:YN:=λi U j=>(∃u,U=[u])/\(∃ys,j av=some (.lst ys)/\Paired (Jr j) ys (gpV (Bg ((gK ja k).take i))))/\Same q j;refine Fi (xs:=gv) J1 {⟨_,rq⟩,{[],Ab,.nil},Ad xO _} (λi U j _ h=>SqL.of (h.2.2 _ _ g1)) (λi x U j N h=>?_) (fun U j h=>?_)
 .obtain⟨⟨u,rfl⟩,⟨ys,c1,c2⟩,c3⟩:=h;obtain⟨g,hg,b,rfl,hb⟩:=Paired.Cp O N;have ly:=Qcf c2;have hi:=(Qah.mp N).1;unfold gpV Bg at ly;rw[QbJ,QbJ,QbA] at ly;unfold Ek;dsimp only;refine Cm {_,rq,kf,λtr aw=>?_};have I:=Ad aw (.tup [.ref b,.bl true]);have af:=I _ _ c1;have ab:∀zs,(upd j tr (.tup [.ref b,.bl true])) av≠some (.tup zs):=λzs z=>by rw[af] at z;cases z
  have Y:=Ak.upd (o:=.lst (ys++[.ref tr])) ab;refine⟨ys,af,Al 00,⟨_,rq⟩,{_,Ab,?_},(c3.trans I).Bq Ah.upd xO⟩;rw[QcJ hg];unfold gpV Bg;rw[QbL,QbL];exact QcC ⟨tr,b,rq,Y _ _ Ab,Y _ _ (I _ _ (c3 _ _ hb))⟩ (Paired.Ax c2 λv r z=>Gj Y (Gj (Ak.of I) z))
 obtain⟨_,⟨ys,c1,c2⟩,c3⟩:=h;rw[bb,Qby] at c2;refine⟨av,ys,_,rq,c1,c2,yW bd,by unfold gpV Bg;rw[QbJ,QbJ];lia,λde be=>?_⟩;have aa:=c3.trans (Ad be (.dT (gpV (Bg (gK ja k)))));have s4:=s3.trans aa;have e2:(upd j de (.dT (gpV (Bg (gK ja k))))) de=some (.dT (gpV (Bg (gK ja k)))):=Ab;have e1:=aa _ _ e1;have g1:=aa _ _ g1;have O:Paired (Du (upd j de (.dT (gpV (Bg (gK ja k)))))) gv (gK ja k):=Paired.Ax O λ_ _ z=>z.tups (Ak.of aa);generalize upd j de (.dT (gpV (Bg (gK ja k))))=H4 at *;clear c1 c2 c3 aa s3 be xO au;obtain⟨hs,al⟩ : ∃hs,hs=laid (hs0 ja) J:=⟨_,rfl⟩;have hk:hs.map (·.1)=up (stL ja) ja.length:=by rw[al,JG,Ld]
 have rh:Wd hs J:=by rw[al];exact uW ap.nd
 refine{_,rq,lc,rq,{_,SqL.of g1},λax xM=>?_};let J2:YN:=λi U j=>(∃u,U=[u,js pl,js dh,js de])/\(∃ys,j ax=some (.lst ys)/\Paired (Jr j) ys (gpV (Bg (((gK ja k).take i).filter λg=>Cy hs (Bg (gK ja k)) g))))/\Same H4 j;refine Fi (xs:=gv) J2 {⟨_,rq⟩,{[],Ab,.nil},Ad xM _} (λi U j _ h=>SqL.of (h.2.2 _ _ g1)) (λi x U j N h=>?_) (fun U j h=>?_)
 .obtain⟨⟨u,rfl⟩,⟨ys,c1,c2⟩,c3⟩:=h;obtain⟨g,hg,b,rfl,hb⟩:=Paired.Cp O N;have ly:=Qcf c2;have hi:=(Qah.mp N).1;have b3:ys.length<=200:=by
   rw[ly];unfold gpV Bg;rw[QbJ,QbJ];exact Qcs (QaF ..) (Qcs (List.length_take_le' ..) bc)
  have b4:=QaH hg;have et:((gK ja k).take (i+1)).filter (λg=>Cy hs (Bg (gK ja k)) g)=((gK ja k).take i).filter (λg=>Cy hs (Bg (gK ja k)) g)++[g].filter (λg=>Cy hs (Bg (gK ja k)) g):=by rw[QcJ hg,Qbg]
  unfold Ek;dsimp only;refine{_,rq,_,rq,_,rq,_,rq,pl,ao,ja,jp,dh,de,b,hs,J,Bg (gK ja k),Bg (gK ja k),g,rq,(pa.same s4).same c3,c3 _ _ hb,(W9.mp b4).1,c3 _ _ e1,c3 _ _ e2,hk,rh,Tf _,λH5 s5=>?_};have af:=s5 _ _ c1;refine{_,rq,G4 (λhc=>?_) (λhc=>?_)}
  .refine{_,rq,kf,λtr aw=>?_};have I:=Ad aw (.tup [.ref b,.bl true]);have af:=I _ _ af;have ab:∀zs,(upd H5 tr (.tup [.ref b,.bl true])) ax≠some (.tup zs):=λzs z=>by rw[af] at z;cases z
   have Y:=Ak.upd (o:=.lst (ys++[.ref tr])) ab;refine⟨ys,af,Al 00,⟨_,rq⟩,{_,Ab,?_},((c3.trans s5).trans I).Bq Ah.upd xM⟩;rw[et,Qau hc];unfold gpV Bg;rw[QbL,QbL];exact QcC ⟨tr,b,rq,Y _ _ Ab,Y _ _ (I _ _ (s5 _ _ (c3 _ _ hb)))⟩ (Paired.Ax c2 λv r z=>Gj Y (Gj (Ak.of (s5.trans I)) z))
  .refine{⟨_,rq⟩,⟨ys,af,?_⟩,c3.trans s5};rw[et,Qat (by rw[hc];decide)];show Paired _ _ (gpV (Bg (_++[])));rw[QbM];exact Paired.Ax c2 λv r z=>Gj (Ak.of s5) z
 obtain⟨_,⟨ys,c1,c2⟩,c3⟩:=h;rw[bb,Qby] at c2;have c2:Paired (Jr j) ys (gpV (Bg (Ej ja k hs))):=c2;have dc:(Ej ja k hs).length<=200:=Qcs (QaF ..) bc;refine⟨ax,ys,_,rq,c1,c2,yW (List.Nodup.sublist QaU bd),by unfold gpV Bg;rw[QbJ,QbJ];lia,λds bg=>?_⟩;have aa:=c3.trans (Ad bg (.dT (gpV (Bg (Ej ja k hs)))));have s5:=s4.trans aa;have e3:(upd j ds (.dT (gpV (Bg (Ej ja k hs))))) ds=some (.dT (gpV (Bg (Ej ja k hs)))):=Ab;have e1:=aa _ _ e1;have g1:=aa _ _ g1;have O:Paired (Du (upd j ds (.dT (gpV (Bg (Ej ja k hs)))))) gv (gK ja k):=Paired.Ax O λ_ _ z=>z.tups (Ak.of aa);generalize upd j ds (.dT (gpV (Bg (Ej ja k hs))))=H5 at *;have b5:=g1;clear c1 c2 c3 aa s4 bg xM e2;refine⟨jv,λG ay=>?_⟩;have n1:=Ad ay (.lst []);have NI:(upd H5 G (.lst [])) G=some (.lst []):=Ab;generalize upd H5 G (.lst [])=H6 at *;refine⟨kf,λt1 b6=>?_⟩;have n2:=Ad b6 (.tup [.int 0,.int 1]);have Nl:(upd H6 t1 (.tup [.int 0,.int 1])) t1=_:=Ab;generalize upd H6 t1 (.tup [.int 0,.int 1])=H7 at *;have s7:=s5.trans (n1.trans n2);refine{_,rq,pl,_,_,_,rq,rq,SqT.of (s7 _ _ f1),rq,_,rq,Ls,_,_,_,rq,rq,SqT.of (s7 _ _ f2),Qx,t,_,rq,.inr (SqT.of (s7 _ _ ht)),_,_,rq,rq,_,rq,kf,λt2 b7=>?_};have n3:=Ad b7 (.tup [.int ((ar.length:Int)+1),.int (-1)]);have Nd:(upd H7 t2 (.tup [.int ((ar.length:Int)+1),.int (-1)])) t2=_:=Ab;generalize upd H7 t2 (.tup [.int ((ar.length:Int)+1),.int (-1)])=H8 at *;refine⟨kf,λtt b8=>?_⟩;have n4:=Ad b8 (.tup [.ref t1,.ref t2]);have nU:(upd H8 tt (.tup [.ref t1,.ref t2])) tt=_:=Ab;generalize upd H8 tt (.tup [.ref t1,.ref t2])=H9 at *;have n9:=n3.trans n4;have am:=n1.trans (n2.trans n9);have s9:=s7.trans n9;have GV:=n9 _ _ Nl;have GU:=n4 _ _ Nd;have nZ:=n9 _ _ (n2 _ _ NI);have e1:=am _ _ e1;have e3:=am _ _ e3;have g1:=am _ _ g1;have O:Paired (Du H9) gv (gK ja k):=Paired.Ax O λ_ _ z=>z.tups (Ak.of am);have fH:H G=none:=s5.free ay;have bi:∀zs,H9 G≠some (.tup zs):=λzs z=>by rw[nZ] at z;cases z
 have b9:dh≠G:=λz=>by rw[z,nZ] at e1;cases e1
 have bj:ds≠G:=λz=>by rw[z,nZ] at e3;cases e3
 have ca:lc≠G:=Aw b5 ay;have eA:Tq "A"=true:=by unfold Tq;decide +kernel
 have eB:Tq "B"=false:=by unfold Tq;decide +kernel
 refine⟨tt,rq,{_,SqT.of nU},?_⟩;let J3:YN:=λi U j=>(∃u8 u9 az,U=[js pl,some (.int (k:Int)),js fa,js dh,js lc,js de,js ds,js G,u8,u9,az])/\(∃us,j G=some (.lst us)/\Paired (U4 j ja J k ps) us (ends.take i))/\Ah G H9 j;refine Kd (xs:=[.ref t1,.ref t2]) J3 {⟨_,_,_,rq⟩,{[],nZ,.nil},Ah.refl _ _} (λi U j _ h=>SqT.of ((h.2.2.tup bi) _ _ nU)) (λi x U j N h=>?_) (fun U j h=>?_)
 .obtain⟨⟨u8,u9,az,rfl⟩,⟨us,h1,h2⟩,sB⟩:=h;have tX:=sB.tup bi;obtain⟨e,t',rfl,he,cb⟩ : ∃(e:Str) (t':Addr),x=.ref t'/\ends[i]?=some e/\j t'=some (.tup [.int 'd'.at_,.int (Cv e)]):=by
   match i,N with
   | 0,N=>
    cases N;refine{"A",t1,rq,rq,?_};have:=tX _ _ GV;unfold Bu Cv;rw[eA];exact this
   | 1,N=>
    cases N;refine{"B",t2,rq,rq,?_};have:=tX _ _ GU;rw[lv] at this;unfold Bu Cv;rw[eB];exact this
   | n+2,N=>cases N
  have a0:Cv e=1\/Cv e=-1:=by unfold Cv;split;exact .inl rfl;exact .inr rfl
  have ga:0<='d'.at_/\'d'.at_<=09+1:=by
   unfold Bu;dsimp only;split <;> lia
  have dd:us.length<=2:=by
   rw[Qcf h2];exact List.length_take_le' ..
  have hd:=xQ ok ag e hs al (fz:=J);have bk:PX ja J k ps e=Us hs (Di hs (gs0 ja)) (fl0 ja) k ps.length e:=by rw[al];rfl
  have bm:∀HY u xs,Same j HY->HY u=some (.tup xs)->Paired (BL HY) xs (PX ja J k ps e)->(∃bn,(upd HY G (.lst (us++[.ref u]))) G=some (.lst bn)/\Paired (U4 (upd HY G (.lst (us++[.ref u]))) ja J k ps) bn (ends.take (i+1)))/\Ah G H9 (upd HY G (.lst (us++[.ref u]))):=λHY u xs sY hu hp=>by
   have hY:=sY _ _ h1;have ab:∀zs,HY G≠some (.tup zs):=λzs z=>by rw[hY] at z;cases z
   have Y:=Ak.upd (o:=.lst (us++[.ref u])) ab;refine{{_,Ab,?_},(sB.trans (Ah.of sY)).trans Ah.upd};rw[QcJ he];exact QcC ⟨u,xs,rq,Y _ _ hu,Paired.Ax hp λ_ _ z=>z.tups Y⟩ (Paired.Ax h2 λ_ _ z=>(z.tups (Ak.of sY)).tups Y)
  refine⟨t',_,rq,SqT.of cb,rq,_,_,rq,_,_,rq,rq,?_⟩;refine{_,rq,_,rq,kf,λtg cc=>?_};have I:=Ad cc (.tup [.int (k:Int),.int 'd'.at_]);have gg:=Dt.t (k:=k2 'd') (I _ _ (sB _ _ e3 bj)) (Ab (H:=j) (a:=tg) (o:=.tup [.int (k:Int),.int 'd'.at_]));generalize upd j tg (.tup [.int (k:Int),.int 'd'.at_])=HG at *;have eg:gpC (Bg (Ej ja k hs)) 'd'=(Dj (gpV (Bg (Ej ja k hs))) (k2 'd')).isSome:=Tf _ _;refine{_,rq,ds,_,rq,gg,_,rq,G4 (λhg=>?_) (λhg=>?_)}
  .rw[hg] at eg;rw[eg,if_pos rfl] at hd;have hL:([]:YV)=PX ja J k ps e:=by rw[bk];exact Ur (by rw[hd]) .nil
   refine{_,rq,.inl ⟨rq,_,SqL.of (I _ _ h1)⟩,jv,λte cd=>?_};have bo:=Ad cd (.tup []);have NG:=bo _ _ (I _ _ h1);refine⟨G,_,_,rq,rq,NG,Al 00,?_⟩;exact{⟨_,_,_,rq⟩,bm _ te [] (I.trans bo) Ab (by rw[<-hL];exact .nil)}
  .rw[hg] at eg;rw[eg,if_neg QaX] at hd;have ce:(Gz J (Bg (Ej ja k hs)) ps k (Cv e) 'd'.at_).2=(Bc hs (Bg (Ej ja k hs)) k (Cv e) 16 'd'.at_).2.filter (inn ps):=by
    unfold Gz;exact pN ag a9 hk rh (Tf _) a0 _ 16 _ false ga.1 ga.2 rfl (by unfold GC;split <;> lia)
   have sG:=(s9.Bq sB fH).trans I;refine{_,rq,_,rq,_,rq,_,rq,_,rq,_,rq,pl,ao,ja,jp,dh,ds,J,Bg (Ej ja k hs),k,ps,'d'.at_,Cv e,rq,pa.same sG,ag,I _ _ (sB _ _ e1 b9),I _ _ (sB _ _ e3 bj),a0,ga.1,ga.2,λtw lp xs H4 cf bp a3 s4=>⟨tw,_,_,_,rq,rq,SqT.of cf,rq,?_⟩};rw[ce] at a3;have a4:=I.trans s4;have ch:=Tz hs (Bg (Ej ja k hs)) k (Cv e) 16 'd'.at_;have bq:=Ru hs (Bg (Ej ja k hs)) k (Cv e) 16 'd'.at_;have ci:=(Tv hs (Bg (Ej ja k hs)) k (Cv e) a0 16 'd'.at_).1;rw[hk] at bq;generalize (Bc hs (Bg (Ej ja k hs)) k (Cv e) 16 'd'.at_).2=cw at *;have E3:∀s∈(cw.filter (inn ps)).filter 'm',s∈(up (pdL ja) ja.length).map Sd.spot:=λs h=>by
    obtain⟨h3,h4⟩:=QbR.mp h;obtain⟨h5,h6⟩:=QbR.mp h3;refine YW.mp ((bF ok ag (ch s h5) h6 (bq s h5)).mpr λz=>?_);rw[Qca z] at h4;cases h4
   have fL:((cw.filter (inn ps)).filter 'm').Nodup:=List.Nodup.sublist (List.Sublist.trans QaU QaU) ci;have df:=zy pa;have xZ:((cw.filter (inn ps)).filter 'm').length<=30:=by
    have:=Rj fL E3;rw[<-Uz,QbJ] at this;lia
   have br:∀s∈(cw.filter (inn ps)).filter 'm',Bd3 s:=λs h=>by
    obtain⟨d,ck,rfl⟩:=Qcq.mp (E3 s h);exact rT ok d ck
   have ly:=Qcf a3;have NH:=a4 _ _ h1;have cl:=s4 _ _ (I _ _ (sB _ _ g1 ca));have cm:Paired (Du H4) gv (gK ja k):=Paired.Ax O λ_ _ z=>(z.tups tX).tups (Ak.of a4);refine{_,rq,.inl ⟨rq,_,SqL.of NH⟩,_,rq,lp,rq,{_,SqL.of bp},λlq bs=>?_};let J4:YN:=λi U q=>(∃u,U=[u,js lc])/\(∃zs,q lq=some (.lst zs)/\Paired (BL q) zs (((cw.filter (inn ps)).take i).filter 'm'))/\Same H4 q;refine Fi (xs:=xs) J4 {⟨_,rq⟩,{[],Ab,.nil},Ad bs _} (λi U q _ h=>SqL.of (h.2.2 _ _ bp)) (λi x U q N h=>?_) (fun U q h=>?_)
   .obtain⟨⟨u,rfl⟩,⟨zs,d1,d3⟩,d2⟩:=h;obtain⟨ae,cn,b,rfl,co⟩:=Paired.Cp a3 N;have lz:=Qcf d3;have JU:zs.length<=30:=by
     rw[lz];exact Qcs ((List.Sublist.filter _ (List.take_sublist i _)).length_le) xZ
    have et:((cw.filter (inn ps)).take (i+1)).filter 'm'=((cw.filter (inn ps)).take i).filter 'm'++[ae].filter 'm':=by rw[QcJ cn,Qbg]
    have a5:=d2 _ _ co;unfold Ek;dsimp only;refine{_,rq,b,_,_,_,rq,rq,SqT.of a5,rq,_,rq,b,_,_,_,rq,rq,SqT.of a5,rq,kf,λtq cp=>?_};have kq:=Ad cp (.tup [.int ae.lp,.int ae.at_]);have cq:(upd q tq (.tup [.int ae.lp,.int ae.at_])) tq=_:=Ab;generalize upd q tq (.tup [.int ae.lp,.int ae.at_])=HQ at *;have an:=d2.trans kq;have a6:=kq _ _ d1;refine{_,rq,lc,gv,gtD ⟨ae.lp,ae.at_⟩,(gK ja k).map gtD,rq,SqL.of (an _ _ cl),Zz (Paired.Ax cm λ_ _ z=>z.tups (Ak.of an)),.tup (SqT.of cq) (.cons (.int _) (.cons (.int _) .nil)),rq,jZ _,_,rq,?_};rw[EI];refine G4 (λhc=>?_) (λhc=>?_)
    .have ab:∀us,HQ lq≠some (.tup us):=λus z=>by rw[a6] at z;cases z
     have Y:=Ak.upd (o:=.lst (zs++[.ref b])) ab;refine{_,rq,zs,a6,Al 00,⟨_,rq⟩,{_,Ab,?_},an.Bq Ah.upd bs};rw[et,Qau (p:=λs:Sp3=>!decide ((⟨s.lp,s.at_⟩ : Gt)∈gK ja k)) hc];exact QcC ⟨b,rq,Y _ _ (kq _ _ a5)⟩ (Paired.Ax d3 λ_ _ z=>(z.tups (Ak.of kq)).tups Y)
    .refine{⟨_,rq⟩,⟨zs,a6,?_⟩,an};rw[et,Qat (p:=λs:Sp3=>!decide ((⟨s.lp,s.at_⟩ : Gt)∈gK ja k)) (by show ¬(!decide _)=true;rw[hc];decide)];show Paired _ _ (_++[]);rw[QbM];exact Paired.Ax d3 λ_ _ z=>z.tups (Ak.of kq)
   obtain⟨_,⟨zs,d1,d3⟩,d2⟩:=h;rw[ly,Qby] at d3;generalize dg:(cw.filter (inn ps)).filter 'm'=Fl at *;have lz:=Qcf d3;refine Vt (ks:=Fl.map cd3) (SqL.of d1) 00 (Xf d3 br) (gw fL br) λis ah ai Nj bt=>?_;rw[lz] at ai;have k5:=Ad bt (.lst (is.map λi=>zs.getD i .non));have p5:Paired (BL (upd q ah (.lst (is.map λi=>zs.getD i .non)))) (is.map λi=>zs.getD i .non) (is.map λi=>Fl.getD i ⟨0,0,0⟩):=Nh (Paired.Ax d3 λ_ _ z=>z.tups (Ak.of k5)) is λi hi=>by rw[lz];exact Qcd.mp (ai.mem_iff.mp hi)
   rw[Ur (L:=is.map λi=>Fl.getD i ⟨0,0,0⟩) (by rw[hd];exact Vu ai) (by rw[bU ai];exact Nj),<-bk] at p5;have cr:(upd q ah (.lst (is.map λi=>zs.getD i .non))) ah=_:=Ab;generalize upd q ah (.lst (is.map λi=>zs.getD i .non))=HS at *;refine⟨ah,_,rq,.inl {SqL.of cr,λut cs=>?_}⟩;have k6:=Ad cs (.tup (is.map λi=>zs.getD i .non));have Yi:=a4.trans (d2.trans (k5.trans k6));refine⟨G,_,_,rq,rq,Yi _ _ h1,Al 00,?_⟩;exact{⟨_,_,_,rq⟩,bm _ ut _ Yi Ab (Paired.Ax p5 λ_ _ z=>z.tups (Ak.of k6))}
 .obtain⟨⟨u8,u9,az,rfl⟩,⟨us,h1,h2⟩,sB⟩:=h;have h2:Paired (U4 j ja J k ps) us ["A","B"]:=h2;cases h2 with
  | cons a1 r=>
  cases r with
  | cons a2 r=>
  cases r;obtain⟨ua,xa,rfl,m1,m2⟩:=a1;obtain⟨ub,xb,rfl,m3,m4⟩:=a2;refine{_,rq,G,_,rq,.inl {SqL.of h1,λt0 ct=>?_}};have k6:=Ad ct (.tup [.ref ua,.ref ub]);exact cv t0 ua ub xa xb _ Ab (k6 _ _ m1) (k6 _ _ m3) (Paired.Ax m2 λ_ _ z=>z.tups (Ak.of k6)) (Paired.Ax m4 λ_ _ z=>z.tups (Ak.of k6)) ((s9.Bq sB fH).trans k6)
abbrev Ks:Stmt:=top 71
abbrev Kw:YF:=["_law_bag_here","_law_plan_here","_law_loop_here","_law_many"]
abbrev xx:YF:=["_law_bag_here","_law_plan_here","_law_loop_here","_law_many","_law_wire_names","_law_at","_law_found","_law_again"]
theorem Hy:Ay xx Kw (Ai Ks):=by ac_rfl
structure yC(ja:YU)(fz:YR)(m:Nat):Prop where
 key:∀x∈fz,x.1∈up (stL ja) ja.length
 how:∀x∈fz,x.2=("cut":Str)\/x.2=("short":Str)
 nd:(fz.map (·.1)).Nodup
 few:fz.length<=m
theorem EW{ja:YU}{fz:YR}{m:Nat}(h:yC ja fz m){s:Sp3}(hs:s∈up (stL ja) ja.length){z:Str}(J:z=("cut":Str)\/z=("short":Str)):∃I,putK (stV fz) (k3 s) (.str z)=stV I/\yC ja I (m+1):=by
 by_cases G:s∈fz.map (·.1)
 .refine{JB fz s z,XF G,λx j=>?_,λx j=>?_,by rw[Q9];exact h.nd,by rw[bT];have:=h.few;lia}
  .obtain⟨y,q,rfl⟩:=Qcq.mp j;split
   .exact h.key y q
   .exact h.key y q
  .obtain⟨y,q,rfl⟩:=Qcq.mp j;split
   .exact J
   .exact h.how y q
 .refine{fz++[(s,z)],?_,λx j=>?_,λx j=>?_,?_,by rw[QaV];have:=h.few;simp;lia}
  .rw[K6]
   .unfold stV;rw[QbL];rfl
   .refine Nr λy q e=>G ?_;obtain⟨w,hw,rfl⟩:=Qcq.mp q;exact Qcq.mpr ⟨w,hw,Mv e⟩
  .rcases QbK.mp j with j | j
   .exact h.key x j
   .rw[Qbc.mp j];exact hs
  .rcases QbK.mp j with j | j
   .exact h.how x j
   .rw[Qbc.mp j];exact J
  .rw[QbL];refine Qbu.mpr ⟨h.nd,QbQ.mpr ⟨λz=>(by cases z),Qcc⟩,λx j y q e=>?_⟩;have q:y=s:=by simpa using q
   exact G (by rw[<-q,<-e];exact j)
inductive lX(vs:YG)(H:Hp)(Q:VK)(E:XK):Prop
 | mk (b pl:Addr) (n m:Nat) (most:Int) (ja:YU) (jp:List Zone) (k:Nat) (ps:List Place) (_:vs=[.ref b,.ref pl,.int (k:Int),.int (m:Int)]) (_:BZ H b n) (_:n<=9000) (_:m<=6) (_:Fq H pl most ja jp) (_:ja[k]?=some ps) (_:∀fa fz H',Zd H' fa fz->FB ja fz->BZ H' b (n+2*m)->Ah b H H'->Q (.ref fa) H'):lX vs H Q E
abbrev yk:YF:=["_law_way","_law_loop_here","_law_at"]
theorem qC(c:Code K mg "_law_faults" Ks Kw)(T:Tw K mg op oe kd wk C)(BJ:⋯ "_law_take" 1 Hh Oa):⋯ "_law_faults" 2 Kw lX:=by
 have sc:=Hy;exists c,Hy
 obtain⟨b,pl,n,m,cp,ja,jp,k,ps,rfl,hb,hn,hm,pa,am,co⟩:=h;refine⟨_,(Ae (4∪Hy∪(BW (Aa (Bd (Aa (pv 2) (Aa Af (Aa Af Ac)))) Ac)))
 (Ae (Cj QbN rfl (Dp rfl T.range (Aa (Av Bl rfl T.len CP (Aa (Bm BX (Bm BX (pv 1) Af 07) (pv 2) 07) Ac)) Ac)) (Aj (i:=5) Hy.nd rfl (Or.inr rfl))
 (Ag (Bo (Cq Qar Qap Qaq FT (pv 4) (Aa (Ck (N':=yk) rfl ([none,some 2,some 5]|||(Ai Ks)|||xx) (Dp rfl T.range (Aa (Bh Cu (Av Bl rfl T.len CP (Aa (Bm BX (Bm BX (Bm BX (Bm BX (pv 1) Af 07) (pv 2) 07) (pv 5) 07) Af 07) Ac)) Af) Ac)) (~~~(0∩yk)) (λ_ _ _ _=>CK) (~~~(Bd (Aa (pv 1) (Aa (Bh Cu (pv 2) Af) (Aa (pv 0) Ac)))))) Ac)))))
 (Ae (Az (i:=6) Hy.nd rfl (Or.inr rfl) vp)
 (Ae (Cj QbN rfl (Dp rfl T.range (Aa (pv 3) Ac)) (7∣Hy)
 (Ag (Ny (CJ hr) (pv 6) (Bm Ds (pv 4) (Ce BJ hr (Aa (pv 0) (Aa (Av Bl rfl T.len CP (Aa (pv 4) Ac)) Ac))) 07) (Bm Ds (BW (Aa Bf (Aa Bf Ac))) (Ce BJ hr (Aa (pv 0) (Aa Af Ac))) 07) rfl)))
 (Ag (Ba (CW Y5 rfl T.tuple Gb (Aa (Ck (N':=["_law_stretch","_law_found"]) rfl ([none,some 6]|||(Ai Ks)|||xx) (CZ (Av O6 rfl T.sorted Qf (Aa (CW (jg rfl) rfl T.list kZ (Aa (pv 6) Ac)) Ac))) (~~~(Aj (i:=0) (show List.Nodup (["_law_stretch","_law_found"]:YF) by trivial) rfl (Or.inl rfl))) (λ_ _ _ _=>CK) (~~~(Bd (Aa (pv 0) (Aa (NP (CJ hr) (pv 1) (pv 0) 07) Ac))))) Ac)))))))),?_⟩
 show let R0:TS:=_;let R1:TS:=_;let R2:TS:=Aq (Dm _ _ R1) R0;let R3:TS:=Aq _ R2;let R4:TS:=_;let R5:TS:=Aq (Dm _ _ R4) R3;Aq _ R5 _ _ _;intro R0 R1 R2 R3 R4 R5;have ok:=pa.ok;obtain⟨Ls,zs,ws,cq,f1,f2,f3,f4,f5⟩:=pa.at_;have lw:=Qcf f3;have br:=(Qah.mp am).1;have a5:ws[k]?=some ws[k]:=Qam 00;obtain⟨cr,G6,t,as,ev,ht,a6⟩:=Paired.Cp f3 a5;rw[am] at G6;cases G6;have lv:=Qcf a6;have an:=ok.ok ps (QaH am);have cs:=an.hi;have Qx:atI ws (k:Int)=some (.ref t):=Eu (by rw[a5,ev]);refine⟨_,rq,kg,λta a7=>?_⟩;have Y:=Ad a7 (.tup [.int (k:Int),.int 0,.int 0]);have D7:(upd H ta (.tup [.int (k:Int),.int 0,.int 0])) ta=_:=Ab;generalize upd H ta (.tup [.int (k:Int),.int 0,.int 0])=H1 at *;refine⟨ke,λl hl=>?_⟩;have n2:=Ad hl (.lst [.ref ta]);have bt:(upd H1 l (.lst [.ref ta])) l=_:=Ab;have bu:=n2 _ _ D7;have a8:H l=none:=Y.free hl;generalize upd H1 l (.lst [.ref ta])=H2 at *;have ao:=Y.trans n2;clear Y n2 D7 a7 hl;refine⟨_,rq,pl,_,_,_,rq,rq,SqT.of (ao _ _ f1),rq,_,rq,Ls,_,_,_,rq,rq,SqT.of (ao _ _ f2),Qx,t,_,rq,.inr (SqT.of (ao _ _ ht)),_,rq,by lia,by lia,?_⟩;rw[Qbo];let J0:YN:=λj U HJ=>∃u5 u7,U=[js b,js pl,some (.int (k:Int)),some (.int (m:Int)),js l,u5,none,u7]/\(∃ys,HJ l=some (.lst ys)/\Paired (BL HJ) ys ({(k:Int),0,0}::up (st1 k ps) j))/\Same H HJ;refine Fg J0 {_,_,rq,{_,bt,by rw[Nt];exact .cons ⟨ta,rq,bu⟩ .nil},ao} (λj U HJ hj h=>?_) (fun U HJ h=>?_)
 .obtain⟨u5,u7,rfl,⟨ys,aa,pj⟩,sj⟩:=h;have a9:as[j]?=some as[j]:=Qam hj;obtain⟨p,hp,tp,ua,bv,ep,bz,b0,b2⟩:=Paired.Cp a6 a9;have b3:=an.ok p (QaH hp);have ej:st1 k ps j=(List.range (p.spur.length+1)).map λn:Nat=>{(k:Int),06,(n:Int)}:=CG hp;have xT:atI as ((0:Int)+(j:Int))=some (.ref tp):=by rw[Qcz];exact Eu (by rw[a9,ep])
  have lj:=Ey (Uc (lp:=k) an.ok) j;have au:=Qcf pj;rw[Qbz] at au;have ct:=Qcf b2;have cv:=b3.spur;refine{_,rq,.inl ⟨rq,_,SqL.of aa⟩,_,rq,pl,_,_,_,rq,rq,SqT.of (sj _ _ f1),rq,_,rq,Ls,_,_,_,rq,rq,SqT.of (sj _ _ f2),Qx,_,rq,t,_,_,_,rq,rq,SqT.of (sj _ _ ht),xT,tp,_,_,_,rq,rq,SqT.of (sj _ _ bz),rq,ua,_,rq,.inr (SqT.of (sj _ _ b0)),_,_,rq,rq,_,rq,by lia,by lia,λl2 ba=>?_};rw[show ((bv.length:Int)+1).toNat=p.spur.length+1 by lia];let J1:YN:=λn U HC=>∃(u:Option V) (zs:YG),U=[u,some (.int (k:Int)),some (.int ((0:Int)+(j:Int)))]/\HC l2=some (.lst zs)/\Same HJ HC/\Paired (BL HC) zs ((List.range n).map λn:Nat=>{(k:Int),06,(n:Int)});refine KJ J1 ⟨none,[],rq,Ab,Ad ba _,.nil⟩ (λn U HC hn h=>?_) (fun U HC h=>?_)
  .obtain⟨u,zs,rfl,c1,c2,c3⟩:=h;refine{_,rq,_,rq,_,_,rq,rq,_,rq,kg,λtq b4=>?_}
   first | rw[show (λi j:Int=>V.int (i+j)) ((0:Int)+(j:Int)) 1=V.int 06 from congrArg V.int 00] | rw[show V.int ((0:Int)+(j:Int)+1)=V.int 06 from congrArg V.int 00]
   have s3:=Ad b4 (.tup [.int (k:Int),.int 06,.int (0+(n:Int))]);have ag:=s3 _ _ c1;have lz:=Qcf c3;rw[QbJ,Qbw] at lz;have Y:∀ah,(upd HC tq (.tup [.int (k:Int),.int 06,.int (0+(n:Int))])) l2≠some (.tup ah):=λah z=>by rw[ag] at z;cases z
   have t4:=Ak.upd (o:=.lst (zs++[.ref tq])) Y;refine{_,ag,Al 00,_,zs++[.ref tq],rq,Ab,(c2.trans s3).Bq Ah.upd ba,?_};rw[List.range_succ,QbL];refine QcC ⟨tq,rq,?_⟩ (Paired.Ax c3 λ_ _ z=>(z.tups (Ak.of s3)).tups t4);refine t4 _ _ ?_;rw[Ab,Qcz]
  obtain⟨u,zs,rfl,c1,c2,c3⟩:=h;have lz:=Qcf c3;rw[QbJ,Qbw] at lz;have bb:=c2 _ _ aa;refine⟨l,l2,_,_,rq,rq,bb,c1,Ar 00,?_⟩;have n2:∀ah,HC l≠some (.tup ah):=λah z=>by rw[bb] at z;cases z
  have t5:=Ak.upd (o:=.lst (ys++zs)) n2;refine{_,_,rq,{ys++zs,Ab,?_},(sj.trans c2).Bq Ah.upd a8};rw[DQ,ej,<-QbI];exact Paired.app (Paired.Ax pj λ_ _ z=>(z.tups (Ak.of c2)).tups t5) (Paired.Ax c3 λ_ _ z=>z.tups t5)
 obtain⟨u5,u7,rfl,⟨ys,aa,pj⟩,sj⟩:=h;rw[lv] at pj;have au:=Qcf pj;have cw:=Ey (Uc (lp:=k) an.ok) ps.length;rw[Qbz] at au;have av:l≠b:=(hb.nb a8).symm;have aw:=hb.same sj;have MR:∀s∈({(k:Int),0,0}::up (st1 k ps) ps.length:YV),s∈up (stL ja) ja.length:=λs hs=>by
  refine Jt (i:=k) ?_ br;unfold stL;rw[CG am];exact hs
 refine λJ ai=>?_;have b5:H J=none:=sj.free ai;have b6:l≠J:=Aw aa ai;have ax:b≠J:=aw.nb ai;have kd:=Ad ai (.dT []);have EE:(upd HJ J (.dT [])) J=some (.dT (stV [])):=Ab;have s3:=sj.trans kd;have aa:=kd _ _ aa;have pj:Paired (BL (upd HJ J (.dT []))) ys ({(k:Int),0,0}::up (st1 k ps) ps.length):=Paired.Ax pj λ_ _ z=>z.tups (Ak.of kd);have ay:=aw.same kd;generalize upd HJ J (.dT [])=H3 at *;clear kd ai;unfold Ek;dsimp only;refine{_,rq,_,rq,by lia,by lia,?_};rw[Qbo];let J2:YN:=λi U N=>∃u7,U=[js b,js pl,some (.int (k:Int)),some (.int (m:Int)),js l,u5,js J,u7]/\(∃q,N J=some (.dT (stV q))/\yC ja q i)/\BZ N b (n+2*i)/\∀c o,H3 c=some o->c≠b->c≠J->N c=some o;refine Fg J2 {_,rq,{[],EE,{λx O=>(by cases O),λx O=>(by cases O),Qcc,QcA _}},ay,λc o e _ _=>e} (λi U N hi h=>?_) (fun U N h=>?_)
 .obtain⟨u7,rfl,⟨q,O,go⟩,ap,kp⟩:=h;have cx:∀zs,N J≠some (.tup zs):=λzs z=>by rw[O] at z;cases z
  refine⟨kf,λlr bc=>?_⟩;have G:=Ad bc (.lst [.str "cut",.str "short"]);have b7:(upd N lr (.lst [.str "cut",.str "short"])) lr=_:=Ab;have b8:lr≠b:=(ap.nb bc).symm;have NN:=ap.same G;generalize upd N lr (.lst [.str "cut",.str "short"])=HR at *;refine{_,rq,b,n+2*i,2,rq,NN,by lia,by decide,by decide,λr H4 r0 r1 b9 al=>?_};obtain⟨z,hz,ca⟩ : ∃z:Str,(z=("cut":Str)\/z=("short":Str))/\atI [V.str "cut",V.str "short"] r=some (.str z):=by
   have:r=0\/r=1:=by lia
   rcases this with rfl | rfl
   .exact{_,.inl rfl,rq}
   .exact{_,.inr rfl,rq}
  refine⟨lr,_,_,_,rq,rq,SqL.of (al _ _ b7 b8),ca,?_⟩;have be:=al _ _ (G _ _ (kp _ _ aa av b6)) av;refine{_,rq,_,rq,_,rq,_,rq,l,_,rq,.inl (SqL.of be),b,n+2*i+1,_,rq,b9,by lia,by lia,by lia,λj H5 j0 j1 az af=>?_};obtain⟨jn,rfl⟩ : ∃jn:Nat,j=(jn:Int):=⟨j.toNat,(QaT j0).symm⟩;have bg:ys[jn]?=some ys[jn]:=Qam 00;obtain⟨s1,ab,t1,cb,nW⟩:=Paired.Cp pj bg;refine⟨l,_,_,_,rq,rq,SqL.of (af _ _ be av),Eu (xs:=ys) (j:=jn) bg,?_⟩;rw[cb];have a0:H5 J=some (.dT (stV q)):=af _ _ (al _ _ (G _ _ O) ax.symm) ax.symm;have a1:t1≠b:=λz=>ay.Ie _ (by rw[<-z];exact nW);have Jn:t1≠J:=λz=>by rw[z,EE] at nW;cases nW
  have Nn:=af _ _ (al _ _ (G _ _ (kp _ _ nW a1 Jn)) a1) a1;obtain⟨cc,e1,cd⟩:=EW go (MR s1 (QaH ab)) hz;have ce:=go.few;refine⟨J,_,rq,M7.t (k:=k3 s1) a0 Nn (Al (by unfold stV;rw[QbJ];lia)),?_⟩;rw[e1];refine{_,rq,⟨cc,Ab,cd⟩,(az.Kq Ah.upd ax).mono 00,λc o e Y n2=>?_};rw[Ao n2];exact af _ _ (al _ _ (G _ _ (kp _ _ e Y n2)) Y) Y
 obtain⟨cy,rfl,⟨q,O,go⟩,ap,kp⟩:=h;have ce:=go.few;have cf:Ah b H N:=λc o e Y=>kp _ _ (s3 _ _ e) Y (Aw e b5);clear kp aa pj ay s3 aw sj;refine{_,rq,qL O λl0 I ch a2=>?_};have G:=Ad ch (.lst (I.map V.ref));obtain⟨ae,a3⟩ : ∃ae,ae=I:=⟨_,rfl⟩;rw[<-a3] at G;rw[show upd N l0 (.lst (I.map V.ref))=upd N l0 (.lst (ae.map V.ref)) by rw[a3]];have bi:I.length=q.length:=by rw[Qcf a2];exact QbJ ..
 have a4:Paired (BL (upd N l0 (.lst (ae.map V.ref)))) (I.map V.ref) (q.map (·.1)):=by
  have:∀{I:List Addr} {q:YR},Paired (λb (kv:List Key×V)=>N b=some (.tup (kv.1.map kV))) I (stV q)->Paired (BL (upd N l0 (.lst (ae.map V.ref)))) (I.map V.ref) (q.map (·.1)):=λ{I}=>by
   induction I with
   | nil=>intro q h;cases q with | nil=>exact .nil | cons x r=>cases h
   | cons a r ih=>intro q h;cases q with | nil=>cases h | cons x r2=>cases h with | cons h1 h2=>exact .cons ⟨a,rfl,G _ _ h1⟩ (ih h2)
  exact this a2
 have bd:∀s∈q.map (·.1),Bd3 s:=λs hs=>by
  obtain⟨x,O,rfl⟩:=Qcq.mp hs;exact yO ok _ (go.key x O)
 have Ev:(upd N l0 (.lst (ae.map V.ref))) l0=some (.lst (I.map V.ref)):=by rw[Ab,a3]
 have bj:=G _ _ O;generalize upd N l0 (.lst (ae.map V.ref))=HB at *;refine Vt (ks:=(q.map (·.1)).map cd3) (SqL.of Ev) (by rw[QbJ];lia) (Xf a4 bd) (gw go.nd bd) λis ls ar Nj bk=>?_;rw[QbJ,bi] at ar;have k2:=Ad bk (.lst (is.map λi=>(I.map V.ref).getD i .non));have bl:∀i∈is,i < q.length:=λi hi=>Qcd.mp (ar.mem_iff.mp hi);have p5:Paired (BL (upd HB ls (.lst (is.map λi=>(I.map V.ref).getD i .non)))) (is.map λi=>(I.map V.ref).getD i .non) (is.map λi=>(q.map (·.1)).getD i ⟨0,0,0⟩):=Nh (Paired.Ax a4 λ_ _ z=>z.tups (Ak.of k2)) is λi hi=>by rw[QbJ,bi];exact bl i hi
 obtain⟨fs,bm⟩ : ∃fs,fs=is.map λi=>q.getD i (⟨0,0,0⟩,""):=⟨_,rfl⟩;have OZ:(is.map λi=>(q.map (·.1)).getD i ⟨0,0,0⟩)=fs.map (·.1):=by
  rw[bm,Qct];refine QaQ λi hi=>?_;have:=bl i hi;simp[this]
 rw[OZ] at p5;have pf:fs.Perm q:=by rw[bm];exact Vu ar
 have bn:(upd HB ls (.lst (is.map λi=>(I.map V.ref).getD i .non))) ls=_:=Ab;have a0:=k2 _ _ bj;have af:Ah b H (upd HB ls (.lst (is.map λi=>(I.map V.ref).getD i .non))):=cf.trans (Ah.of (G.trans k2));have az:=(ap.same G).same k2;have bo:=Qcf p5;generalize (is.map λi=>(I.map V.ref).getD i .non)=sv at *;generalize upd HB ls (.lst sv)=HS at *;clear G k2 a4 bj Ev bk a2;rw[QbJ] at bo;have cz:fs.length=q.length:=pf.length_eq;refine⟨ls,rq,{_,SqL.of bn},λlc bp=>?_⟩;let J3:YN:=λi U HC=>(∃u,U=[u,js J])/\(∃zs,HC lc=some (.lst zs)/\Paired (Jr HC) zs (stV (fs.take i)))/\Same HS HC;refine Fi (xs:=sv) J3 {⟨_,rq⟩,{[],Ab,.nil},Ad bp _} (λi U HC _ h=>SqL.of (h.2.2 _ _ bn)) (λi x U HC ci h=>?_) (fun U HC h=>?_)
 .obtain⟨⟨u,rfl⟩,⟨zs,c1,c2⟩,c3⟩:=h;obtain⟨s1,ab,b1,rfl,bq⟩:=Paired.Cp p5 ci;obtain⟨y,hy,rfl⟩ : ∃y,fs[i]?=some y/\s1=y.1:=by
   rw[Qbn] at ab;cases e:fs[i]? with
   | none=>rw[e] at ab;cases ab
   | some y=>rw[e] at ab;cases ab;exact⟨y,rfl,rfl⟩
  have lz:=Qcf c2;unfold stV at lz;rw[QbJ,QbA] at lz;obtain⟨jn,ck⟩:=QaL (pf.mem_iff.mp (QaH hy));have hv:Dj (stV q) (k3 y.1)=some (.str y.2):=jz (f:=λx:Sp3×Str=>(k3 x.1,V.str x.2)) (by
   have:=go.nd;rw[Qag,Qbt] at this;rw[Qag,Qbt];exact this.imp λ{a b} h e=>h (Mv e)) ck
  have gg:=Dt.t (k:=k3 y.1) (c3 _ _ a0) (c3 _ _ bq);rw[hv] at gg;unfold Ek;dsimp only;refine Cm {_,rq,_,rq,_,rq,J,_,rq,gg,kf,λtr cl=>?_};have G:=Ad cl (.tup [.ref b1,.str y.2]);have ag:=G _ _ c1;have cm:∀zs,(upd HC tr (.tup [.ref b1,.str y.2])) lc≠some (.tup zs):=λzs z=>by rw[ag] at z;cases z
  have sL:=Ak.upd (o:=.lst (zs++[.ref tr])) cm;refine⟨zs,ag,Al 00,⟨_,rq⟩,{_,Ab,?_},(c3.trans G).Bq Ah.upd bp⟩;rw[QcJ hy];unfold stV;rw[QbL];exact QcC ⟨tr,b1,rq,sL _ _ Ab,sL _ _ (G _ _ (c3 _ _ bq))⟩ (Paired.Ax c2 λv r z=>Gj sL (Gj (Ak.of G) z))
 obtain⟨_,⟨zs,c1,c2⟩,c3⟩:=h;rw[bo,Qby] at c2;refine⟨lc,zs,rq,SqL.of c1,λfa o cn tp=>?_⟩;have k6:=Ad cn (.frz o (.tup zs));refine co fa fs _ ⟨o,zs,Ab,tp,Paired.Ax c2 λv r z=>Gj (Ak.of k6) z⟩ {λx O=>go.key x (pf.mem_iff.mp O),λx O=>go.how x (pf.mem_iff.mp O),?_,by lia} ((az.same c3).same k6) (af.trans (Ah.of (c3.trans k6)));exact ((pf.map (·.1)).nodup_iff).mpr go.nd
abbrev Nf:Stmt:=top 73
abbrev yU:YF:=["_law_script"]
theorem Kg:Ay ["_law_script","_law_k","_law_bag_here","_law_plan_here","_law_loop_here","_law_faults_here","_law_again","_law_e"] yU (Ai Nf):=by ac_rfl
theorem aD{X:Cx}{K:YD}(h:X.K=K):DN X (.type "list") (λxs H Q=>∃p ys,xs=[.ref p]/\(SqL K H p ys\/SqT K H p ys)/\∀l,H l=none->Q (.ref l) (upd H l (.lst ys))):=h ▸ gB
theorem QQ{i:Int}(j:0<=i)(q:i < 4){a b c d:V}(P:V->Prop)(z:P a)(G:P b)(hc:P c)(I:P d):∃p,atI [a,b,c,d] i=some p/\P p:=by
 have:i=0\/i=1\/i=2\/i=3:=by lia
 rcases this with rfl | rfl | rfl | rfl <;> exact{_,rfl,by assumption}
theorem Lz.tup{H:Hp}{t:Addr}{xs:YG}(h:H t=some (.tup xs))(n:xs.length≠3):Lz H (.ref t):={Iv h,by rw[Df h];exact zZ 00}
def Ob(s:Sp3):PyData:=.tuple [.int s.lp,.int s.at_,.int s.n]
theorem N8{H:Hp}:∀{vs:YG} {ss:YV},Paired (BL H) vs ss->O8 H vs (ss.map Ob)
 | _,_,.nil=>.nil
 | _,_,.cons ⟨t,e,h1⟩ r=>by
  subst e;exact .cons (.tup h1 (.cons (.int _) (.cons (.int _) (.cons (.int _) .nil)))) (N8 r)
theorem XH:∀ss:YV,PyData.canLayAll0 (ss.map Ob)=true/\PyData.depthAll (ss.map Ob)<=2
 | []=>⟨rfl,by show 0<=2;decide⟩
 | d::r=>by
  have j:=XH r;refine{?_,?_}
  .show ((true&&(true&&(true&&true)))&&PyData.canLayAll0 (r.map Ob))=true;rw[j.1];rfl
  .show max (max 0 (max 0 (max 0 0))+1) (PyData.depthAll (r.map Ob))<=2;exact Nat.max_le.mpr {by decide,j.2}
theorem Q5(A B:YV):SeqAt.shaped (.tuple [.tuple (A.map Ob),.tuple (B.map Ob)])=true:=by
 have h1:=XH A;have h2:=XH B;show ((PyData.canLayAll0 (A.map Ob)&&(PyData.canLayAll0 (B.map Ob)&&true))&&decide (max (PyData.depthAll (A.map Ob)+1) (max (PyData.depthAll (B.map Ob)+1) 0)+1<=64))=true;rw[h1.1,h2.1];exact Qca 00
theorem Db{f:Addr}{fd:FuncData}(F:Fun K "law" "law" Nf f fd)(T:Tw K mg op oe kd wk C)(XE:Er K mg hc c0 c1 c2 c3 c4 c5 c6 c7 c8 c9 c10 c11 c12)(Iw:Knd K hc c0 [c0,c1,c2,c3,c4,c5,c6,c7,c8,c9,c10,c11,c12] 0)(YS:⋯ "_law_bag" 1 QS (lY K))(BJ:⋯ "_law_take" 1 Hh Oa)(xX:⋯ "_law_plan" 4 Ou bI)(oH:⋯ "_law_faults" 2 Kw lX)(fJ:⋯ "heard_with" 13 Fd bM)(au:aN P w K mg base "heard_with" 13 Fd (lW c0))(BA:⋯ "_law_due" 3 QM bM)(xU:aO P w K mg base "_law_kind" 1 Ox (bL K hc [c0,c1,c2,c3,c4,c5,c6,c7,c8,c9,c10,c11,c12])):Gy P w K mg base CX0 14 f fd yU (Wt K):=by
 have sc:=Kg;refine F.ok Kg (by nofun) λ_ _ _ _ H vs Q E j h=>?_
 obtain⟨a,ns,rfl,hS,a8,bc⟩:=h;refine⟨_,(Ae (Cj QbN rfl (Dp rfl T.range (Aa (Av (tD rfl) rfl T.max gG (Aa Af (Aa (Av (Mz rfl) rfl T.min TF (Aa Af (Aa (Av Bl rfl T.len CP (Aa (pv 0) Ac)) Ac))) Ac))) Ac)) (1∣Kg)
 (Ae (2∪Kg∪(Ce YS j (Aa (pv 0) (Aa (pv 1) Ac))))
 (Ae (3∪Kg∪(Dc xX j (Aa (pv 2) (Aa Af (Aa Af Ac)))))
 (Ae (4∪Kg∪(Ce BJ j (Aa (pv 2) (Aa (Av Bl rfl T.len CP (Aa (Bm BX (pv 3) Af 07) Ac)) Ac))))
 (Ae (5∪Kg∪(SX oH j (Aa (pv 2) (Aa (pv 3) (Aa (pv 4) (Aa (Ce BJ j (Aa (pv 2) (Aa Af Ac))) Ac))))))
 (Ae (Cj QbN rfl (Dp rfl T.range (Aa Af Ac)) (6∣Kg)
 (Ag (Cw (Bx (C7 j.units) (Dc fJ j (Aa (pv 3) (Aa (pv 4) (Aa (pv 5) Ac)))) (Dc BA j (Aa (pv 3) (Aa (pv 4) (Aa (pv 5) Ac)))) (BK _)) (Ag (Ba DY)) BR)))
 (Ag (AA (i:=7) Kg.nd rfl rfl rfl rfl rfl XE.iM XE.iz (λpn E1 EX hx=>(Ag (Bo (C4 au j hx (Aa (Bm (xu (K:=K) rfl) (BW (Aa Oq (Aa (Bd Ac) (Aa (Bh Oz (pv 3) (pv 3)) (Aa (CW (aD (K:=K) rfl) rfl T.list kZ (Aa (pv 3) Ac)) Ac))))) (Ce BJ j (Aa (pv 2) (Aa Af Ac))) 07) (Aa Af (Aa (Bd Ac) Ac)))))))
 (λpn ea=>(Ag (Cw (Bx WQ (C5 xU (j.inH _) (Aa (pv 7) Ac)) Bf (BK _)) (Ag (Ba DY)) BR)))
 (Ag (Ba DY))))))))))
 (Ag (Ba DY))),?_⟩
 show let R0:TS:=_;let R1:TS:=_;let R2:TS:=Aq (Dm _ _ R1) R0;let R3:TS:=Aq _ R2;let R4:TS:=Aq _ R3;let R5:TS:=Aq _ R4;let R6:TS:=Aq _ R5;Aq (Dm _ _ R6) _ _ _ _;intro R0 R1 R2 R3 R4 R5 R6;have hl:(ns.map V.int).length=ns.length:=QbJ _;refine{_,rq,a,_,rq,.inl hS,_,_,rq,_,_,rq,_,rq,?_,?_,?_}
 .rw[hl];split <;> split <;> lia
 .rw[hl];split <;> split <;> lia
 let J0:YN:=λ(i:Nat) (U : St) (H':Hp)=>Same H H'/\∃(u1 u2 u3 u4 u5 I u7:Option V),U=[js a,u1,u2,u3,u4,u5,I,u7];refine Fg J0 {Same.refl H,_,_,_,_,_,_,_,rq} (λi U H' hi h=>?_) (fun U H' h=>?_)
 .obtain⟨sm,u1,u2,u3,u4,u5,I,u7,rfl⟩:=h;rw[hl] at hi;have be:(i:Int)<=100:=by
   revert hi;split <;> split <;> lia
  refine{_,rq,_,rq,a,ns,_,rq,sm.seq hS,a8,by lia,by lia,λb o ao EF=>?_};have s1:Same H (upd H' b o):=sm.trans (Ad ao o);have fb:H b=none:=sm.free ao;generalize upd H' b o=H1 at s1 EF ⊢;refine{_,rq,b,0,3,12,rq,EF,by lia,by lia,by lia,by lia,by lia,λt J zs vs ap ja jp G H2 e1 e2 e3 e4 e5 e6 e7 e8 e9 ae ar=>?_};have ok:Ec ja:=⟨e4,e6⟩;have pa:Fq H2 t G ja jp:={⟨J,zs,vs,ap,e1,e2,e3,e7,e8⟩,ok,e5,e9};have s2:Same H H2:=s1.Bq ar fb;have lw:=Qcf e3;refine{_,rq,_,rq,t,_,_,_,rq,rq,SqT.of e1,rq,J,_,rq,.inr (SqT.of e2),b,3000,_,rq,ae,by lia,by lia,by lia,λkk H3 k0 k1 as av=>?_};obtain⟨k,rfl⟩ : ∃k:Nat,kk=(k:Int):=⟨kk.toNat,(QaT k0).symm⟩;have af:ja[k]?=some ja[k]:=Qam 00;refine{_,rq,_,rq,_,rq,_,rq,b,3001,7,rq,as,by lia,by decide,by decide,λmm H4 m0 m1 ag aw=>?_};obtain⟨m,rfl⟩ : ∃m:Nat,mm=(m:Int):=⟨mm.toNat,(QaT m0).symm⟩;have uQ:=av.trans aw;have ah:=pa.tups (uQ.tup ae.Ie);refine⟨b,t,3002,m,G,ja,jp,k,ja[k],rq,ag,by lia,by lia,ah,af,λfa fz H5 ai ax ay al=>?_⟩;have aa:=ah.tups (al.tup ag.Ie);have s5:Same H H5:=(s2.Bq uQ fb).Bq al fb;clear al uQ aw av ah pa e8 e7 e3 e2 e1 ag as ae s2 ar s1;refine{_,rq,by lia,by lia,?_};let J1:YN:=λbd U O=>(∃I,U=[js a,some (.int (0+(i:Int))),js b,js t,some (.int (k:Int)),js fa,I,u7])/\Same H5 O;refine Fg J1 {⟨_,rq⟩,Same.refl _} (λbd U O hj h=>?_) (fun U O h=>?_)
  .obtain⟨⟨I,rfl⟩,q⟩:=h;refine{_,rq,_,rq,_,rq,t,fa,G,ja,jp,k,ja[k],fz,rq,aa.same q,af,ai.same q,ax,λt1 ua ub xa xb H6 a1 a2 a3 a4 a5 Y=>?_};refine{_,rq,_,rq,_,rq,t,fa,G,ja,jp,k,ja[k],fz,rq,aa.same (q.trans Y),af,ai.same (q.trans Y),ax,λt2 va vb ya yb H7 b1 b2 b3 b4 b5 N=>?_};have OY:=SeqAt.eqv_refl _ (SeqAt.canLay_of_shaped (Q5 (PX ja fz k ja[k] "A") (PX ja fz k ja[k] "B")));refine{_,_,.tup (N _ _ a1) (.cons (.tup (N _ _ a2) (N8 (Paired.Ax a4 λ_ _ an=>an.tups (Ak.of N)))) (.cons (.tup (N _ _ a3) (N8 (Paired.Ax a5 λ_ _ an=>an.tups (Ak.of N)))) .nil)),.tup b1 (.cons (.tup b2 (N8 b4)) (.cons (.tup b3 (N8 b5)) .nil)),Q5 _ _,Q5 _ _,_,rq,?_};rw[OY];exact Cz {⟨_,rq⟩,q.trans (Y.trans N)}
  obtain⟨⟨I,rfl⟩,q⟩:=h;have a9:=aa.same q;have am:=ay.same q;have Y:=s5.trans q;clear q aa ay s5 ai;obtain⟨J,zs,vs,ap,e1,e2,e3,bg,bi⟩:=a9.at_;have z0:0<=sizeLine:=Ar 05;refine⟨z0,λt1 ba=>?_⟩;have y1:=Ad ba (.tup []);have w1:(upd O t1 (.tup [])) t1=_:=Ab;generalize upd O t1 (.tup [])=H1 at *;refine{_,rq,_,rq,t,t,_,_,rq,rq,y1 _ _ e1,y1 _ _ e1,Ar (by show 3+3<=1000;decide),λt3 H3 w3 y3=>?_};have p3:=y1.trans y3;refine{_,rq,t,_,rq,.inr (SqT.of (p3 _ _ e1)),λz az=>?_};have y4:=Ad az (.lst [.int G,.ref J,.ref zs]);have w4:(upd H3 z (.lst [.int G,.ref J,.ref zs])) z=_:=Ab;have n4:z≠b:=((am.same p3).nb az).symm;generalize upd H3 z (.lst [.int G,.ref J,.ref zs])=H4 at *;refine⟨km,λlo a0=>?_⟩;have y5:=Ad a0 (.lst [.non,.ref t1,.ref t3,.ref z]);have w5:(upd H4 lo (.lst [.non,.ref t1,.ref t3,.ref z])) lo=_:=Ab;have p4:=p3.trans y4;have n5:lo≠b:=((am.same p4).nb a0).symm;generalize upd H4 lo (.lst [.non,.ref t1,.ref t3,.ref z])=HL at *;have p5:=p4.trans y5;have a6:=am.same p5;refine{_,rq,b,_,4,rq,a6,by lia,by decide,by decide,λr a7 r0 r4 bj ab=>?_};have tp:=ab.tup a6.Ie;have x1:=tp _ _ (y5 _ _ (y4 _ _ (y3 _ _ w1)));have x3:=tp _ _ (y5 _ _ (y4 _ _ w3));have x4:=ab _ _ (y5 _ _ w4) n4;obtain⟨v,hv,nl⟩ : ∃v,atI [.non,.ref t1,.ref t3,.ref z] r=some v/\Lz a7 v:=by
   refine QQ r0 r4 (Lz a7) ⟨True.intro,rq⟩ (.tup x1 05) (.tup x3 (by show 6≠3;decide)) {.inl ⟨_,x4⟩,by rw[Pb x4];rfl}
  refine⟨lo,_,_,_,rq,rq,SqL.of (ab _ _ w5 n5),hv,jv,λte bb=>?_⟩;have y7:=Ad bb (.tup []);refine⟨v,_,_,rq,nl.same y7,λH8 s8=>?_⟩;refine{_,rq,Iw.xc,Iw.sub,λe he=>?_};have s9:=Ad he (xo e c0);refine{_,rq,e,_,0,rq,Ab,Iw,by decide,λHB sB=>?_};have Yi:=y7.trans (s8.trans (s9.trans sB));have IO:Same H HB:=((Y.trans p5).Bq ab fb).trans Yi;refine⟨rq,_,rq,?_⟩;rw[show (!decide (V.str (nM 0)=V.str "plan"))=false by trivial];exact Cz ⟨IO,_,_,_,_,_,_,_,rq⟩
 .obtain⟨_,_,_,_,_,_,_,_,rfl⟩:=h;exact bc _
theorem GH{K:YD}{C c0 c1 c2 c3 c4 c5 c6 c7 c8 c9 c10 c11 c12:Addr}{j:Nat}(I:kitOne K (.ref C) (.ref c0)=some (decide (0=j)))(J:kitOne K (.ref C) (.ref c1)=some (decide (1=j)))(N:kitOne K (.ref C) (.ref c2)=some (decide (2=j)))(O:kitOne K (.ref C) (.ref c3)=some (decide (3=j)))(Y:kitOne K (.ref C) (.ref c4)=some (decide (4=j)))(q5:kitOne K (.ref C) (.ref c5)=some (decide (5=j)))(q6:kitOne K (.ref C) (.ref c6)=some (decide (6=j)))(q7:kitOne K (.ref C) (.ref c7)=some (decide (7=j)))(q8:kitOne K (.ref C) (.ref c8)=some (decide (8=j)))(q9:kitOne K (.ref C) (.ref c9)=some (decide (9=j)))(q:kitOne K (.ref C) (.ref c10)=some (decide (10=j)))(z:kitOne K (.ref C) (.ref c11)=some (decide (11=j)))(G:kitOne K (.ref C) (.ref c12)=some (decide (12=j))) :
  ∀i d,([c0,c1,c2,c3,c4,c5,c6,c7,c8,c9,c10,c11,c12]:List Addr)[i]?=some d->kitOne K (.ref C) (.ref d)=some (decide (i=j)):=λi d h=>by
 match i,h with
 | 0,h=>cases h;exact I
 | 1,h=>cases h;exact J
 | 2,h=>cases h;exact N
 | 3,h=>cases h;exact O
 | 4,h=>cases h;exact Y
 | 5,h=>cases h;exact q5
 | 6,h=>cases h;exact q6
 | 7,h=>cases h;exact q7
 | 8,h=>cases h;exact q8
 | 9,h=>cases h;exact q9
 | 10,h=>cases h;exact q
 | 11,h=>cases h;exact z
 | 12,h=>cases h;exact G
 | n+13,h=>cases h
structure FnI(K:YD)(x:Str)(st:Stmt):Prop where
 ex:∃(f:Addr) (oc:Value) (od an:Option Addr) (sl:YI) (kV dc pm cd ct:Value),nsIn K mainGlobals x=some (some (.ref f))/\K.lookup f=some ⟨oc,od,.func (fnOf x x (Es st) (Dd st) (Ai st) .none kV dc pm an cd ct),sl⟩/\codeIn K cd x=true/\keepIn K (.ref f)=true
theorem FnI.of{K:YD}{x:Str}{st:Stmt}{f:Addr}{q:Value}{z G:Option Addr}{I:YI}{kV J N j ct:Value}(a:nsIn K mainGlobals x=some (some (.ref f)))(l:K.lookup f=some ⟨q,z,.func (fnOf x x (Es st) (Dd st) (Ai st) .none kV J N G j ct),I⟩)(c:codeIn K j x=true)(k:keepIn K (.ref f)=true):FnI K x st:=⟨f,q,z,G,I,kV,J,N,j,ct,a,l,c,k⟩
theorem FnI.code{K:YD}{mg:YB}{h:Heap}{x:Str}{st:Stmt}{ps:YF}(I:FnI K x st)(X:K.In h)(G:h.Ns mainGlobals mg)(N:∀(kV z j:Value) (q:Option Addr) (J ct:Value) (us:YE),us.length=ps.length->bindArgs (fnOf x x (Es st) (Dd st) (Ai st) .none kV z j q J ct) ⟨us,[]⟩=pure (ps.zip us)):Code K mg x st ps:=by
 obtain⟨f,O,Y,q,sl,kV,dc,j,cd,ct,a,l,c,k⟩:=I.ex;exact Code.of X G a l c k N
structure MtI(K:YD)(C:Addr)(x q:Str)(st:Stmt):Prop where
 ex:∃(f:Addr) (oc:Value) (od an:Option Addr) (sl:YI) (kV dc pm cd ct:Value),findIn K (.ref C) x=some (some (.ref f))/\isFn K (.ref f)=true/\K.lookup f=some ⟨oc,od,.func (fnOf x q (Es st) (Dd st) (Ai st) .none kV dc pm an cd ct),sl⟩/\codeIn K cd q=true/\keepIn K (.ref f)=true
theorem MtI.of{K:YD}{C:Addr}{x q:Str}{st:Stmt}{f:Addr}{z:Value}{G I:Option Addr}{J:YI}{kV N O j ct:Value}(a:findIn K (.ref C) x=some (some (.ref f)))(i:isFn K (.ref f)=true)(l:K.lookup f=some ⟨z,G,.func (fnOf x q (Es st) (Dd st) (Ai st) .none kV N O I j ct),J⟩)(c:codeIn K j q=true)(k:keepIn K (.ref f)=true):MtI K C x q st:=⟨f,z,G,I,J,kV,N,O,j,ct,a,i,l,c,k⟩
theorem MtI.code{K:YD}{C:Addr}{x q:Str}{st:Stmt}{ps:YF}(I:MtI K C x q st)(N:∀(kV G j:Value) (z:Option Addr) (J ct:Value) (us:YE),us.length=ps.length->bindArgs (fnOf x q (Es st) (Dd st) (Ai st) .none kV G j z J ct) ⟨us,[]⟩=pure (ps.zip us)):Nq K C x q st ps:=by
 obtain⟨f,O,Y,z,sl,kV,dc,j,cd,ct,a,i,l,c,k⟩:=I.ex;have F:=Xm (st:=st) l c k;exact⟨f,_,F,⟨a,i,k⟩,F.binds N⟩
theorem MtI.init{K:YD}{C:Addr}{q:Str}{st:Stmt}{ps:YF}(I:MtI K C "__init__" q st)(N:makesIn K C=true)(O:keepIn K (.ref C)=true)(Y:∀(kV G j:Value) (z:Option Addr) (J ct:Value) (us:YE),us.length=ps.length->bindArgs (fnOf "__init__" q (Es st) (Dd st) (Ai st) .none kV G j z J ct) ⟨us,[]⟩=pure (ps.zip us)):∃f fd,Fun K "__init__" q st f fd/\Mk K C f/\Binds K fd ps []:=by
 obtain⟨f,oc,od,z,sl,kV,dc,j,cd,ct,a,i,l,c,k⟩:=I.ex;have F:=Xm (st:=st) l c k;exact⟨f,_,F,⟨N,a,i,O⟩,F.binds Y⟩
def yw:YF->(YE->Prop)->Prop
 | [],P=>P []
 | _::r,P=>∀a,yw r λt=>P (a::t)
theorem lC:∀(ps:YF) {P:YE->Prop},yw ps P->∀us:YE,us.length=ps.length->P us
 | [],_,h,[],_=>h
 | _::r,_,h,a::t,e=>lC r (h a) t (Nat.succ.inj e)
theorem fnA{F:Value->Value->Value->Option Addr->Value->Value->FuncData}{ps:YF}(h:∀kV j q z G ct,yw ps λus=>bindArgs (F kV j q z G ct) ⟨us,[]⟩=pure (ps.zip us))(kV j q:Value)(z:Option Addr)(G ct:Value)(us:YE)(I:us.length=ps.length):bindArgs (F kV j q z G ct) ⟨us,[]⟩=pure (ps.zip us):=lC ps (h kV j q z G ct) us I
theorem all_mk{l:PySem.W.OpenLaw}{w:World}{K:YD}{h:Heap}{mg:YB}{fa C fl:Addr}(X:K.In h)(G:h.Ns mainGlobals mg)(ar:mg "law"=some (.ref fa))
  {as ag:Option Addr} {au:YI} {av ah ai am af an:Value}
  (aC:nsIn K mainGlobals "Wires"=some (some (.ref C)))
  (m0:MtI K C "__init__" "Wires.__init__" Hg)
  (m1:MtI K C "check_stretch" "Wires.check_stretch" GK)
  (m2:MtI K C "cut" "Wires.cut" Qp)
  (m3:MtI K C "short" "Wires.short" MP)
  (m4:MtI K C "act" "Wires.act" Qq)
  (m5:MtI K C "come_to_rest" "Wires.come_to_rest" Dr)
  (m6:MtI K C "heard" "Wires.heard" Jv)
  (i0:FnI K "is_whole" Ng)
  (i1:FnI K "is_within" Qj)
  (i2:FnI K "is_row" VB)
  (i3:FnI K "are_wholes" Og)
  (i4:FnI K "is_rising" Qk)
  (i5:FnI K "are_rising_within" Gd)
  (i6:FnI K "is_name" Sw)
  (i7:FnI K "is_device" Qm)
  (i8:FnI K "is_spur_device" JC)
  (i9:FnI K "is_spur" Ss)
  (aw:FnI K "is_place" Rg)
  (ax:FnI K "is_loop" Sx)
  (ay:FnI K "is_zone" Sq)
  (az:FnI K "are_loops" Qo)
  (a0:FnI K "are_zones" Qn)
  (a1:FnI K "is_plan" Sv)
  (a2:FnI K "place_devices" Kr)
  (a3:FnI K "devices" Sy)
  (a4:FnI K "stretches" Lj)
  (a5:FnI K "openers" Pj)
  (a6:FnI K "parts" Yg)
  (a7:FnI K "address_twice" Kv)
  (a8:FnI K "part_crowded" K1)
  (a9:FnI K "address_stranger" Ip)
  (ba:FnI K "address_shared" JF)
  (bb:FnI K "wrong" Ye)
  (bc:FnI K "is_let_by" Ql)
  (bd:FnI K "spur_pieces" MN)
  (be:FnI K "come_to" SJ)
  (bg:FnI K "has_short" Lk)
  (bi:FnI K "comes_to_short" JD)
  (bj:FnI K "lay_faults" Oe)
  (bk:FnI K "heard_from_both" Jd)
  (bl:FnI K "heard_with" Ku)
  (bm:FnI K "_law_bag" Yh)
  (bn:FnI K "_law_take" Vx)
  (bo:FnI K "_law_name" Rf)
  (bp:FnI K "_law_names" Pk)
  (bq:FnI K "_law_loop" Vy)
  (br:FnI K "_law_parts" Sh)
  (bs:FnI K "_law_plan" K3)
  (bt:FnI K "_law_kind" Vz)
  (bu:FnI K "_law_walk" Vw)
  (bv:FnI K "_law_gates" Pq)
  (bz:FnI K "_law_feels" Pr)
  (b0:FnI K "_law_faults" Ks)
  (b1:FnI K "_law_due" Nx)
  (al:nsIn K mainGlobals "law"=some (some (.ref fl))) (ll:K.lookup fl=some ⟨av,as,.func (fnOf "law" "law" (Es Nf) (Dd Nf) (Ai Nf) .none ah ai am ag af an),au⟩) (cl:codeIn K af "law"=true) (kl:keepIn K (.ref fl)=true)
  (pg:plainGet K C Str.empty=true) (hd:hasDictIn K C=true) (po:PySem.W.plainOver K C=true) (sa:findIn K (.ref C) "__setattr__"=some (some (.builtin "object.__setattr__"))) (mk:makesIn K C=true) (kc:keepIn K (.ref C)=true)
  (n0:findIn K (.ref C) "plan"=some none)
  (n1:findIn K (.ref C) "states"=some none)
  (n2:findIn K (.ref C) "filled"=some none)
  (n3:findIn K (.ref C) "gaps"=some none)
  (z0:nsIn K mainGlobals "isinstance"=some none)
  (z1:nsIn K mainGlobals "int"=some none)
  (z2:nsIn K mainGlobals "bool"=some none)
  (z3:nsIn K mainGlobals "tuple"=some none)
  (z4:nsIn K mainGlobals "list"=some none)
  (z5:nsIn K mainGlobals "str"=some none)
  (z6:nsIn K mainGlobals "len"=some none)
  (z7:nsIn K mainGlobals "all"=some none)
  (z8:nsIn K mainGlobals "abs"=some none)
  (z9:nsIn K mainGlobals "max"=some none)
  (b2:nsIn K mainGlobals "min"=some none)
  (b3:nsIn K mainGlobals "range"=some none)
  (b4:nsIn K mainGlobals "sorted"=some none)
  (b5:nsIn K mainGlobals "any"=some none)
  (b6:nsIn K mainGlobals "sum"=some none)
  (b7:nsIn K mainGlobals "enumerate"=some none)
  (b8:nsIn K mainGlobals "zip"=some none)
  (b9:nsIn K mainGlobals "reversed"=some none)
  (ca:nsIn K mainGlobals "dict"=some none)
  (cb:nsIn K mainGlobals "ord"=some none)
  {op oe:Addr} {cc cd:Option Addr} {no ne:Nat} {ce cf:YI} {ch ci:Tok} {kd wk:Addr} {ck cm:Option Addr} {nk nw:Nat} {cn co:YI} {cp cq cr cs ct cv IC:Tok} {hc q u1 u2 u3 u4 u5 u6 u7 u8 u9 aa ab ae:Addr}
  (ao:nsIn K mainGlobals "OPENER"=some (some (.ref op)))
  (lo:K.lookup op=some {.type "tuple",cc,.seq #[.str "opener" ch,.int 0 ci,.ref oe] no,ce})
  (cw:K.lookup oe=some {.type "tuple",cd,.seq #[] ne,cf})
  (cx:nsIn K mainGlobals "KINDS"=some (some (.ref kd)))
  (cy:K.lookup kd=some {.type "tuple",ck,.seq #[.str "seeker" cp,.str "knob" cq,.str "bell" cr,.str "door" cs] nk,cn})
  (cz:nsIn K mainGlobals "WARNING_KINDS"=some (some (.ref wk)))
  (da:K.lookup wk=some {.type "tuple",cm,.seq #[.str "seeker" ct,.str "knob" cv] nw,co})
  (db:nsIn K mainGlobals "SMALL_LETTERS"=some (some (.str "abcdefghijklmnopqrstuvwxyz" IC)))
  (dc:nsIn K mainGlobals "ValueError"=some none)
  (dd:nsIn K mainGlobals "HouseError"=some (some (.ref hc)))
  (de:nsIn K mainGlobals "NoPlan"=some (some (.ref q)))
  (df:nsIn K mainGlobals "NoText"=some (some (.ref u1)))
  (dg:nsIn K mainGlobals "NoStretch"=some (some (.ref u2)))
  (dh:nsIn K mainGlobals "NoSpot"=some (some (.ref u3)))
  (di:nsIn K mainGlobals "NoOpener"=some (some (.ref u4)))
  (dk:nsIn K mainGlobals "NoAddress"=some (some (.ref u5)))
  (dm:nsIn K mainGlobals "NoRules"=some (some (.ref u6)))
  (dn:nsIn K mainGlobals "NoHand"=some (some (.ref u7)))
  (dp:nsIn K mainGlobals "NoPanel"=some (some (.ref u8)))
  (dq:nsIn K mainGlobals "NoLink"=some (some (.ref u9)))
  (uF:nsIn K mainGlobals "NoLog"=some (some (.ref aa)))
  (uE:nsIn K mainGlobals "NoDeed"=some (some (.ref ab)))
  (uD:nsIn K mainGlobals "NoRow"=some (some (.ref ae)))
  (dr:excIn K hc [.type "ValueError",.type "Exception",.type "BaseException",.type "object"] "ValueError.__new__"=true)
  (dt:findIn K (.ref hc) "__getattribute__"=some (some (.builtin "BaseException.__getattribute__")))
  (du:findIn K (.ref hc) "__getattr__"=some none)
  (dv:findIn K (.ref hc) "__class__"=some (some (.builtin "object.__class__")))
  (dy:subIn K (.ref hc) (.type "object")=some true)
  (d0:subIn K (.ref hc) (.type "BaseException")=some true)
  (d4:keepIn K (.ref hc)=true)
  (wU:excIn K q [.type "ValueError",.type "Exception",.type "BaseException",.type "object"] "ValueError.__new__"=true)
  (w6:findIn K (.ref q) "__getattribute__"=some (some (.builtin "BaseException.__getattribute__")))
  (wW:findIn K (.ref q) "__getattr__"=some none)
  (wY:findIn K (.ref q) "__class__"=some (some (.builtin "object.__class__")))
  (wV:subIn K (.ref q) (.type "object")=some true)
  (wZ:subIn K (.ref q) (.type "BaseException")=some true)
  (wX:keepIn K (.ref q)=true)
  (wF:subIn K (.ref q) (.ref hc)=some true)
  (wR:kitOne K (.ref q) (.ref q)=some true)
  (wQ:kitOne K (.ref q) (.ref u1)=some false)
  (wO:kitOne K (.ref q) (.ref u2)=some false)
  (wN:kitOne K (.ref q) (.ref u3)=some false)
  (wM:kitOne K (.ref q) (.ref u4)=some false)
  (wL:kitOne K (.ref q) (.ref u5)=some false)
  (wK:kitOne K (.ref q) (.ref u6)=some false)
  (wJ:kitOne K (.ref q) (.ref u7)=some false)
  (wI:kitOne K (.ref q) (.ref u8)=some false)
  (wH:kitOne K (.ref q) (.ref u9)=some false)
  (nQ:kitOne K (.ref q) (.ref aa)=some false)
  (nP:kitOne K (.ref q) (.ref ab)=some false)
  (nO:kitOne K (.ref q) (.ref ae)=some false)
  (wG:kitOne K (.ref q) (.type "ValueError")=some true)
  : ∃fd:FuncData,(∀(s:Shared) (v:Value),BindsTo s fd {[v],[]} [("_law_script",v)])/\∀base:Heap,K.In base->base.Ns mainGlobals mg->Gy l.prog w K mg base CX0 14 fa fd yU (Wt K):=by
 have e:=ar.symm.trans (mg_of X G al);cases e;have I:Nm mg:={mg_none_of X G z0,mg_none_of X G z1,mg_none_of X G z2,mg_none_of X G z3,mg_none_of X G z4,mg_none_of X G z5,mg_none_of X G z6,mg_none_of X G z7,mg_none_of X G z8,mg_none_of X G z9,mg_none_of X G b2,mg_none_of X G b3,mg_none_of X G b4,mg_none_of X G b5,mg_none_of X G b6,mg_none_of X G b7,mg_none_of X G b8,mg_none_of X G b9,mg_none_of X G ca,mg_none_of X G cb};have N:Tx K mg op oe:=⟨I,{_,mg_of X G ao,rq},λH=>.inr {_,_,_,lo,rq,rq,(by show 3<=sizeLine;decide),.cons ⟨_,rq⟩ (.cons ⟨_,rq⟩ (.cons rfl .nil))},λH=>.inr {_,_,_,cw,rq,rq,(by show 0<=sizeLine;decide),.nil}⟩;have z:Ty K mg op oe kd wk:={ toTx:=N,KINDS:={_,mg_of X G cx,rq},kdT:=λH=>.inr {_,_,_,cy,rq,rq,(by show 4<=sizeLine;decide),.cons ⟨_,rq⟩ (.cons ⟨_,rq⟩ (.cons ⟨_,rq⟩ (.cons ⟨_,rq⟩ .nil)))},WARNING_KINDS:={_,mg_of X G cz,rq},wkT:=λH=>.inr {_,_,_,da,rq,rq,(by show 2<=sizeLine;decide),.cons ⟨_,rq⟩ (.cons ⟨_,rq⟩ .nil)},SMALL_LETTERS:={_,mg_of X G db,⟨_,rq⟩} };have T:Tw K mg op oe kd wk C:={ toTy:=z,cl:=⟨pg,hd,po,sa⟩,mgC:=mg_of X G aC,dX:=n0,Hi:=n1,VR:=n2,Hu:=n3 };have XE:Er K mg hc q u1 u2 u3 u4 u5 u6 u7 u8 u9 aa ab ae:={mg_none_of X G dc,mg_of X G dd,⟨dr,dt,du,dv,dy,d0,d4⟩,mg_of X G de,mg_of X G df,mg_of X G dg,mg_of X G dh,mg_of X G di,mg_of X G dk,mg_of X G dm,mg_of X G dn,mg_of X G dp,mg_of X G dq,mg_of X G uF,mg_of X G uE,mg_of X G uD};have Iw:Knd K hc q [q,u1,u2,u3,u4,u5,u6,u7,u8,u9,aa,ab,ae] 0:={⟨wU,w6,wW,wY,wV,wZ,wX⟩,wF,GH (j:=0) wR wQ wO wN wM wL wK wJ wI wH nQ nP nO,wG};have Xv:=m0.init (ps:=Dq) mk kc (fnA λ_ _ _ _ _ _ _ _=>rfl);have Xu:=m1.code (ps:=Dl) (fnA λ_ _ _ _ _ _ _ _=>rfl);have Ic:=m2.code (ps:=Jl) (fnA λ_ _ _ _ _ _ _ _=>rfl);have BI:=m3.code (ps:=Hs) (fnA λ_ _ _ _ _ _ _ _=>rfl);have Id:=m4.code (ps:=Jm) (fnA λ_ _ _ _ _ _ _ _=>rfl);have Zc:=m5.code (ps:=Eb) 'a';have BM:=m6.code (ps:=Ht) (fnA λ_ _ _ _ _ _ _ _ _=>rfl);have Xz:=i0.code (ps:=Gm) X G 'a';have jo:=i1.code (ps:=FQ) X G (fnA λ_ _ _ _ _ _ _ _ _=>rfl);have yJ:=i2.code (ps:=Ea) X G (fnA λ_ _ _ _ _ _ _ _ _=>rfl);have ig:=i3.code (ps:=GZ) X G (fnA λ_ _ _ _ _ _ _ _=>rfl);have jq:=i4.code (ps:=Ji) X G 'a';have RM:=i5.code (ps:=Em) X G (fnA λ_ _ _ _ _ _ _ _ _ _ _=>rfl);have ur:=i6.code (ps:=Mr) X G 'a';have jt:=i7.code (ps:=HW) X G (fnA λ_ _ _ _ _ _ _ _=>rfl);have Wh:=i8.code (ps:=FW) X G 'a';have uo:=i9.code (ps:=Mp) X G 'a';have pB:=aw.code (ps:=Ky) X G 'a';have uw:=ax.code (ps:=Ms) X G 'a';have um:=ay.code (ps:=Ml) X G 'a';have jx:=az.code (ps:=Jk) X G 'a';have jw:=a0.code (ps:=Jj) X G 'a';have uq:=a1.code (ps:=Mq) X G 'a';have Xy:=a2.code (ps:=Fo) X G (fnA λ_ _ _ _ _ _ _ _ _=>rfl);have ux:=a3.code (ps:=Gn) X G 'a';have jm:=a4.code (ps:=HF) X G 'a';have tY:=a5.code (ps:=JV) X G 'a';have BO:=a6.code (ps:=QL) X G (fnA λ_ _ _ _ _ _ _ _=>rfl);have XC:=a7.code (ps:=Gp) X G 'a';have Ze:=a8.code (ps:=GR) X G 'a';have T6:=a9.code (ps:=Fe) X G 'a';have Wj:=ba.code (ps:=FZ) X G 'a';have BN:=bb.code (ps:=QK) X G 'a';have jr:=bc.code (ps:=HN) X G 'a';have aF:=bd.code (ps:=Hr) X G (fnA λ_ _ _ _ _ _ _ _ _=>rfl);have uy:=be.code (ps:=JW) X G (fnA λ_ _ _ _ _ _ _ _ _ _=>rfl);have ju:=bg.code (ps:=Ia) X G (fnA λ_ _ _ _ _ _ _ _=>rfl);have Wi:=bi.code (ps:=Ep) X G (fnA λ_ _ _ _ _ _ _ _ _=>rfl);have gZ:=bj.code (ps:=GX) X G (fnA λ_ _ _ _ _ _ _ _=>rfl);have Vc:=bk.code (ps:=Eh) X G (fnA λ_ _ _ _ _ _ _ _=>rfl);have T5:=bl.code (ps:=Fd) X G (fnA λ_ _ _ _ _ _ _ _ _=>rfl);have BS:=bm.code (ps:=QS) X G (fnA λ_ _ _ _ _ _ _ _=>rfl);have yE:=bn.code (ps:=Hh) X G (fnA λ_ _ _ _ _ _ _ _=>rfl);have yG:=bo.code (ps:=Ov) X G 'a';have uf:=bp.code (ps:=Mh) X G (fnA λ_ _ _ _ _ _ _ _=>rfl);have yH:=bq.code (ps:=Ow) X G (fnA λ_ _ _ _ _ _ _ _ _=>rfl);have tZ:=br.code (ps:=Mg) X G 'a';have yF:=bs.code (ps:=Ou) X G (fnA λ_ _ _ _ _ _ _ _ _=>rfl);have yI:=bt.code (ps:=Ox) X G 'a';have yD:=bu.code (ps:=K8) X G (fnA λ_ _ _ _ _ _ _ _ _ _ _ _=>rfl);have ug:=bv.code (ps:=Mi) X G 'a';have uh:=bz.code (ps:=Mj) X G (fnA λ_ _ _ _ _ _ _ _ _ _=>rfl);have pA:=b0.code (ps:=Kw) X G (fnA λ_ _ _ _ _ _ _ _ _ _=>rfl);have BQ:=b1.code (ps:=QM) X G (fnA λ_ _ _ _ _ _ _ _ _=>rfl);have Ix:=Xm (st:=Nf) ll cl kl;refine{fnOf "law" "law" (Es Nf) (Dd Nf) (Ai Nf) .none ah ai am ag af an,λs v=>.of_eq rfl,λbase _ _=>?_};have YS:=vN⁻¹ BS I;have O:=qy⁻¹ yE I;have Hc:=S7⁻¹ Xz I;have OI:=iJ⁻¹ Xz I;have oG:=dD⁻¹ jo I OI;have J:=qz⁻¹ yJ I;have EU:=Z4⁻¹ ig I Hc J;have N4:=dF⁻¹ jq z;have N3:=Z5⁻¹ RM z J oG N4;have OA:=mX⁻¹ ur z;have ES:=dH⁻¹ jt z oG;have N0:=U7⁻¹ Wh z J ES;have NW:=mV⁻¹ uo z J N0;have Os:=iK⁻¹ pB z J oG ES NW;have OE:=mY⁻¹ uw z J Os;have NU:=mU⁻¹ um z J OA N3;have OC:=dM⁻¹ jx z J OE;have NS:=dJ⁻¹ jw z J NU;have EN:=VJ⁻¹ Xy N;have Y:=mZ⁻¹ ux N EN;have EM:=dB⁻¹ jm N;have EO:=mR⁻¹ tY N;have N9:=vL⁻¹ BO N EN;have Op:=mW⁻¹ uq z J oG OC NS Y;have OT:=VN⁻¹ XC z Y;have OS:=WY⁻¹ Ze z N9;have OU:=RJ⁻¹ T6 z Y;have NY:=U9⁻¹ Wj z;have NV:=vJ⁻¹ BN z OT OS OU NY;have za:=dG⁻¹ jr z Op NV;have OG:=Yy (sp':=Nv) za λvs H Q E h=>.inl h;have Hb:=Yy (sp':=QH) za λvs H Q E h=>.inr h;have ET:=VL⁻¹ Xu T EU;have OR:=Do⁻¹ Ic T ET;have NX:=vK⁻¹ BI T ET;have OK:=vP⁻¹ Xv T OG EM Y EO;have Ha:=Yp⁻¹ aF T;have zj:=m7⁻¹ uy T Ha;have zc:=dI⁻¹ ju T;have zf:=U8⁻¹ Wi T zj zc;have Hk:=Dx⁻¹ Id T EU zf;have He:=W0⁻¹ Zc T zf Hk;have Hd:=vQ⁻¹ BM T zj zc;have OB:=AJ⁻¹ yG I O;have Oy:=vM⁻¹ uf I OB;have OF:=AK⁻¹ yH I O;have Of:=qx⁻¹ tZ I;have On:=AI⁻¹ yF I O OF Of Oy;have ap:=AL⁻¹ yI I XE;have OH:=vO⁻¹ Xv T XE Iw Hb EM Y EO;have ON:=vR⁻¹ ug T;have EL:=AH⁻¹ yD T;have OO:=vU⁻¹ uh T EL;have EQ:=Z1⁻¹ gZ T OR NX He;have ER:=S8⁻¹ Vc T Hd;have OM:=Z2⁻¹ T5 T OK EQ ER;have OL:=Yq⁻¹ T5 T OH EQ ER;have OP:=qC⁻¹ pA T O;have OQ:=De⁻¹ BQ T ON OO EL;exact Db Ix T XE Iw YS O On OP OM OL OQ ap
theorem walk{l:PySem.W.OpenLaw}{q:Program}{G:YF}{J:(YB)->Heap->Prop}{j:World->Heap->Prop}{d:DefRec}{K:Params->YD}(N:l.most=some 63)(I:d.params.defaults=[])
  (O:∀(w:World) (h:Heap),j w h->(K w.params).In h)
  (F:∀(w:World) (mg:YB) (z:Addr) (h:Heap),(K w.params).In h->h.Ns mainGlobals mg->mg d.name=some (.ref z) ->
   ∃fd:FuncData,(∀(s:Shared) (u:Value),BindsTo s fd {[u],[]} [("_law_script",u)])/\∀base:Heap,(K w.params).In base->base.Ns mainGlobals mg->Gy l.prog w (K w.params) mg base CX0 14 z fd yU (Wt (K w.params))) :
  PySem.W.WalkO q G J j l.row.toRowW d [] (λf vs=>PySem.call f vs):=
 L2.zJ (n:=63) (k:=14) (x:="_law_script") (CX:=λ_=>CX0) (sp:=λw=>Wt (K w.params)) N 05 I ⟨rq,by decide,by decide⟩ O F (λ_ _ a Y hl _ hS=>⟨a,Y,rq,hS,hl,λ_=>rfl⟩) λ_ _ _ _ _ aa=>aa
end K44
namespace PySem.W.Fast
universe tw674533920161970095 tw9723020168673832808 tw14694335667159832503 tw6277266456498012092 tw5279080911377491272 tw8113714068682420717 tw15088897696235614364 tw16017871188456494698 tw16632027678787922449 tw7471315052625242436 tw15937393679577156401 tw11105816173635257849 tw17312092179427619364 tw10289115927634124844 tw6400741450151093762 tw12156098415283631623 tw3900527644732702449 tw8573708270245009935 tw16401035664849642759 tw3720130797593965589 tw2469977578993112448 tw16654737468772349109 tw17395934393156515591 tw2105510272774101038 tw13506333034071701138 tw1310406793493189752 tw8835512144631932643 tw14398130700797214169 tw6524514898304002634 tw3329670144682859751 tw12881495622497101474 tw16115162223789522513 tw4848505031243722075 tw15837067983791120013 tw10036227785648500797 tw17480704573360576668 tw11888037186043320804 tw17246711913256106144 tw14580775336145885004 tw17815494718076196070 tw12841118570600145924 tw8406135470289762398 tw657815542881015368 tw1621412627552856112 tw9055022053645717007 tw5490245269543747530 tw9477495017534340704 tw9845305658190415324 tw5796898084848828938 tw16029418799909734535 tw16948947630044869415 tw4481439572808447960 tw2750572413811642169 tw9485566530061029578 tw11370126263691270021 tw6974394921071373222 tw7184645582245426684 tw15661181977897140974 tw18081996012811124474 tw5945030803414426012 tw7213021253789247125 tw12746292479348185055 tw9528209153617661518 tw11375464687984133034 tw17256370732853998885 tw9681553034845896416 tw16252578998235545973 tw2681720444222724630 tw6168611321709302083 tw4140177941774490244 tw7726921825523927247 tw15877447203596217127 tw17476487798099288973 tw13980799488676068449 tw9514395789624403411 tw12275484869233673652 tw8766269612283644812 tw3078747295302131154 tw13231873661483489087 tw16784927689019249985 tw12572348371821202733 tw2785760313239722494 tw9850721242244632911 tw16293667152796943952 tw3296613468542979305 tw6966466538585574028 tw10191644929011354260 tw8102470939637745351 tw5382778980106035241 tw14938188471009534236 tw15084309630712788910 tw8291964624717888518 tw6038133231048607570 tw3743214634392573780 tw10941941792463167886 tw2562514841056160814 tw15429477512679176504 tw16044912874529978704 tw15276771218477651845 tw5490463452230210012 tw11184789575472877533 tw3678353316043741462 tw705286990348235555 tw2034291408125368413 tw17404020453975913521 tw3108199150657068998 tw1270092371346494889 tw3681301579231776344 tw480427581270702666 tw11744291581270204444 tw1475739580506364882 tw8515070979569310715 tw1913484622814151985 tw15236005919118193914 tw3761065616587197210 tw17976148999829545872 tw6172225195267693609 tw13245288497719063086 tw14886298998043927931 tw341645245816739350 tw7379130525683994686 tw2338153878387181104 tw17676205850020260699 tw13093344135554570231 tw1942247929277298839 tw919528021422128338 tw15865998890828949258 tw3546907912344536253 tw7524799649957455801 tw8876538257976385949 tw17785313042014674200 tw12151635516441274928 tw6684544247693514328 tw2039762931886905543 tw16660590962592578717 tw14135331911700811745 tw11594114680998318538 tw4308120657253880591 tw15081024657108753786 tw14600822927677735571 tw14148965968023685864 tw6816042671497388988 tw16705125689970766299 tw6007812925313261045 tw10236924730929483772 tw2067064161644727512 tw6613239379163775294 tw5472679312723054641 tw11303563293603517713 tw5863278273157843288 tw4506013246401311090 tw11032706916724674018 tw3953021182445628900 tw17397972277962154944 tw4136972673882551713 tw6727161141354460677 tw2119146238645124059 tw16231753889846713776 tw1059874662678939087 tw17229989923844583800 tw14584360553407270146 tw9450081353472134504 tw8920518769767066570 tw14198571309078606082 tw3462197797573324797 tw10517205568393551627 tw8601652652090526613 tw7660825891402031273 tw11762798127105592629 tw3638028612411830447 tw12341952589355662606 tw12209470400175752363 tw7887637140664755967 tw470416416276569942 tw1805591597865843668 tw16458531709424227739 tw5274911158174927064 tw12738960153640005764 tw11508698829990680398 tw6996241471620931429 tw17946804313329104752 tw7430347679104648010 tw17384039730628403450 tw12870900994669731048 tw18434656350536878572 tw12725540643211515637 tw6696611941742799193 tw5540315245052549659 tw15762503515069819190 tw199677563925650348 tw5640415332148351957 tw16509179549633353720 tw1134078575707577930 tw12125158553937091215 tw7714389237172998639 tw13763320217696113410 tw10690195605346522380 tw11181555375288057437 tw14497695736006938155 tw6433548298160579767 tw13446192086946167779 tw8932637437261093026 tw8208961438437328381 tw17742705526310426443 tw12770985737198423408 tw8927965662700400620 tw13290594399676550533 tw4835147949510853285 tw4380032036533752040 tw1817530569183035007 tw15643371527752527554 tw13507317758813229149 tw4825184529480194111 tw6169775085106586177 tw3887912242167987455 tw925349041719304012 tw2989293332634444341 tw12568105038900927227 tw12108504218648178678 tw62686211868243566 tw7481759040961778278 tw13060926424828681971 tw11976831530164427495 tw13425447977347033801 tw11351126505893170811 tw7092838046530021632 tw6979270875395906619 tw5168689741504814891 tw5019618562478358498 tw4381550055498509324 tw17524142031287334859 tw14830961753673610690 tw14823239605506992660 tw14629547695686600715 tw13212134049479360925 tw11578038951967071196 tw11332239768257949304 tw10070314880730759161 tw3233054811775606283 tw5909331056255848543 tw9790453719905190716 tw7004507488992502160 tw19127603320772665 tw3323317160795947999 tw13494070233795610909 tw15853110207567957631 tw826356960680548113 tw2197198224552571443 tw15254929073401109236 tw5774846425701350860 tw5084721263833175793 tw13487405213714867418 tw8926900552557123376 tw307081450952380961 tw2812550517895878827 tw18130076368196050824 tw3267463430907632765 tw2645961208329291479 tw11553222729845633240 tw10257389132605507406 tw607374612588223229 tw16020664738743609521 tw9782210380011901668 tw13318971464692225061 tw14926934146687438927 tw17977162367057718757 tw9449891816983126547 tw15851016545058890306 tw878465792883172457 tw2864853986411243848 tw5713569496834835857 tw10797258291645060258 tw473487975055292527 tw8350364096759330230 tw3904362363130092707 tw14421667792671290549 tw5802651253385550918 tw5061070042182637037 tw3929212970557821240 tw1614608348752204128 tw11558919368260350630 tw7668302750178702713 tw2742811422321201058 tw12644148290614592961 tw10727503228976145441 tw17896829054524527993 tw510839874580486013 tw15206569802769049110 tw13004090365250736353 tw6268641638550669088 tw4350871749171979287 tw3917005183247072218 tw7865518401502618172 tw12301588514111120851 tw13371660375152099513 tw17035760229809362465 tw17303939842648345798 tw13208562167593303256 tw14025451431006973370 tw8602285234391599880 tw6453902801850976691 tw723773174469134757 tw7474941457199754893 tw17023577492152974882 tw12775920419205908610 tw9758740808380241841 tw8408843464381789981 tw1316564677992816363 tw4511810964881937860 tw2802940034119271031 tw12316987649194794523 tw5343603770302864761 tw7328240138176212344 tw6361210426348327383 tw14942361190180249981 tw8931763817340265646 tw5002729850842866404 tw9351742199182611949 tw16474437322557220500 tw12313691166230919998 tw10291409079100346421 tw3439279625493457965 tw15669125871435831463 tw14777137881115177254 tw11154956676620884679 tw18164087890706448392 tw16343660142017304261 tw15043465892481495158 tw10203406406817982282 tw9197398682699614560 tw7740419232693250838 tw11750105912529189046 tw11704890771235098874 tw9163854548659678202 tw2644084300705180299 tw18355092908950040280 tw16209889228098872181 tw12671970998216716430 tw12466130093326948396 tw7514013292180109263 tw15237245195788261115 tw9671538295069460069 tw1567672722646855574 tw13431185594753180451 tw3455062540050365146 tw12409638235690541414 tw11093362681811101012 tw9373874957955783659 tw18174686126933834965 tw3536292306082744800 tw18219535577989531366 tw5035814137334100115 tw13017651491322781935 tw3216644068367109339 tw10139603648152790161 tw7196052203825274851 tw12073171159317021457 tw8036254256073782511 tw9851723182972940164 tw4416243977405534895 tw9438855257806317103 tw7619094386709107412 tw5482563868072989733 tw3476467634789475609 tw13871551777668647192 tw9498628570855820686 tw968489205942653536 tw837361928469367376 tw4824353204551045130 tw12748332076515177418 tw12230465331749089306 tw627002579625749357 tw3180579830852931882 tw5402324589665222584 tw1922975141114933376 tw4240778108995118597 tw3116667976337929116 tw3209536853978733085 tw10248620403331052976 tw3406734581943906066 tw14258886469975691838 tw18091808388778847537 tw13525998588786292514 tw5097768723853917731 tw4561753936378798539 tw10881072801688496924 tw3657996641288421584 tw16381247404129062592 tw13492479322752538329 tw12180022298493406331 tw13582968592704041169 tw7539167128599349491 tw5942423307450726585 tw2944509264718227148 tw16765306995785244304 tw15168191094363879583 tw15098648378408206114 tw13934291724160879867 tw13622214845614635164 tw12226269147361294170 tw11597078077244245579 tw10142128896441967988 tw2970685621306914928 tw17328003014814242633 tw8438179577150892838 tw8023996670141736343 tw794582790479983267 tw712654682014439605 tw6056225811924462149 tw5110145197632472566 tw2328419754963858811 tw16645603997776094408 tw15267618737394153386 tw15011965604951558817 tw14501070081703213853 tw14440750203421126511 tw14034983727596582738 tw11113514869186157771 tw10261491512326072162 tw12390363699557187377 tw5681720539189928115 tw350800739977794180 tw6996122972976548285 tw16352374915052214428 tw13452694404958614692 tw10338956756889662746 tw17315795142584908136 tw10875287424042836338 tw2847530455906005300 tw4393411384254648410 tw16545428244334680635 tw13514395043785400083 tw12518823061944684305 tw5856403010879705339 tw454703245603244722 tw4458544442067845469 tw16374944893480589895 tw7394185504537120828 tw8648240667376057778 tw6369028489064516521 tw595970147834901911 tw5824018685515040765 tw3357184533039442107 tw16183083956415393164 tw16122481847817704212 tw15646454341528518624 tw15272921873008508949 tw14260698571552267974 tw14194772974237222023 tw14144701166281290536 tw13639216475742926154 tw13026566430758455084 tw12997766514661616128 tw10264887558185003623 tw8357310787622146492 tw8136349192132780290 tw6903449653565638044 tw6762555662040190951 tw388367405639332239 tw2472437531907498741 tw17397096406610321407 tw17394518820613866396 tw17276780061878441666 tw13406931677826502249 tw12317335300495723654 tw12111571975392024317 tw11355355996102520421 tw10708829116258659316 tw10544020214493723153 tw12955964667943272774 tw966172049243818699 tw8608125251870139875 tw7390917753570060270 tw5034525694602356877 tw4198790747583735319 tw3214290879978633625 tw3127504102792627261 tw2996544723717747851 tw2059229432668665988 tw1677959366110200995 tw15738243544719561822 tw14323739171613657626 tw13743508023360140445 tw976673528953864104 tw8110941698560106159 tw6789839748146139619 tw5577543355803198193 tw4076239922525028497 tw2282836566412231589 tw2008478123613062415 tw17669898149967640776 tw17189944539991565513 tw1631837611474318929 tw15812082139180458066 tw14484582881648281550 tw13494862704928336033 tw11947507863720915583 tw1164557287295709848 tw9972306062212197643 tw9878138873091490634 tw9844464946744062931 tw9658504161163830560 tw9641450311324563102 tw9599858584491508117 tw9566910995750233731 tw953804607464201425 tw9360913815112005054 tw9000572644273870312 tw8872520967449475269 tw8612889015376320878 tw8596800662720380025 tw8319123895610770911 tw8298533078758571848 tw8233009477415010361 tw819286703670159004 tw8063578801268529252 tw8055847693819619892 tw7331719406637812049 tw7260848963098239310 tw7230919834904930695 tw714326591114398501 tw6839475388066646693 tw6660695765470650038 tw6497672569684258856 tw6488562248708318720 tw6471416571706738658 tw6460898760498385734 tw6444158570277442050 tw6421564760344116973 tw6346186629023639356 tw6269929403550486729 tw5894487669771544556 tw5665709507088784910 tw5642139732154769477 tw5572108209772769622 tw5568203572496620798 tw5437502803174583514 tw5343060942998416276 tw5200264073150013074 tw5185008196352262585 tw5035619415674040862 tw5028701894543531803 tw4996956462676686633 tw4983278830144393064 tw489669858709372616 tw4845121380873857119 tw4827655944187338059 tw4784879061577170876 tw4537246070806116608 tw4233836357052908790 tw4207490815841383206 tw4117460531864849708 tw40617048041626414 tw3988330128772507304 tw3930431824280267937 tw3885833516189087032 tw3809519590776492278 tw380298331248212832 tw3732782304406998920 tw3645348870072398659 tw3621032685005186538 tw3578551901898216604 tw3345436812293282483 tw3335855884860982411 tw3222618615947075421 tw3115914771381762723 tw3016287754266128055 tw2683961193580522986 tw2579613319874677340 tw2341566349878511896 tw2288699898675034998 tw2281979591711249910 tw2189355545554370110 tw2079628399293383138 tw1990803511948402084 tw18328911932089913672 tw1827140306361226637 tw18201524661986040629 tw18187139217736229981 tw18176333350425794653 tw18012787512984108505 tw17793871304002994375 tw17511827883413935181 tw17356577885121825890 tw17237409943685452472 tw1719882061830099031 tw17005580104352975175 tw16999371730809148954 tw16984203183035021529 tw16726877187649393759 tw16567914404881569426 tw16561015476191132694 tw16407650294220970848 tw16126686781162165756 tw16012821163362914029 tw1593527764087131222 tw15925877835527444923 tw15670398096390913877 tw15642535731529871711 tw15621701670748403289 tw15558176989459620081 tw15530271808670274941 tw15526514625017420364 tw15470708629023107032 tw15377253614824089699 tw15256359442583182560 tw15254800983053532355 tw15253055060401143342 tw15171008645165596885 tw15096731236618271028 tw15086818290416458197 tw15072959254275187961 tw14910965045538098613 tw14836066712521735355 tw14778479203161172087 tw1440712353088965594 tw14157506198926176077 tw14117145731836529491 tw13876037175126396750 tw13786963324337157218 tw13761274933085951509 tw13429445813504960125 tw13359961869952391716 tw13229887168680585871 tw13209683923761271991 tw13160295412367867547 tw13098324820634855037 tw13092238429126240839 tw12931922915690305740 tw12910391681532726053 tw12858714051893521384 tw12782320474577274538 tw12643280408416382641 tw12409792844494290278 tw12120932921349665797 tw12024326327955977315 tw11855100672759866535 tw11796054814107563864 tw11773011965803449331 tw11762132196799843331 tw11754034878544380625 tw11532328376720297532 tw11483427164413734183 tw11206488975272206505 tw11036205045141649183 tw109421654295850379 tw10926646570007449749 tw10905231368101909117 tw10737170955600306941 tw10598512357284962707 tw10418915797957826351 tw10409535405588104483 tw10390157770664574667 tw1033894508956641547 tw10237889843642186122 tw10215318148736446108 tw10033797220658941283
end PySem.W.Fast
open PySem PySem.W PyProof.Rows
set_option maxRecDepth 100000 in
set_option maxHeartbeats 0 in
theorem PySem.Challenge.cw_warnloop_k44_heard_with_holds : PySem.Challenge.rw_warnloop_k44_heard_with.Holds := by
 w_on;o_law;k_head;(case hw=>w_witness2)
 k_fill
 refine K44.walk (l:=PySem.Challenge.rw_warnloop_k44_heard_with) rfl rfl (λw h Y=>PySem.W.kIn_of Y) ?F
 case F=>
  intro w mg fa h KX G hmg
  refine' K44.all_mk KX G hmg ?aC (.of ?am0 ?bm0 ?lm0 ?cm0 ?km0) (.of ?am1 ?bm1 ?lm1 ?cm1 ?km1) (.of ?am2 ?bm2 ?lm2 ?cm2 ?km2) (.of ?am3 ?bm3 ?lm3 ?cm3 ?km3) (.of ?am4 ?bm4 ?lm4 ?cm4 ?km4) (.of ?am5 ?bm5 ?lm5 ?cm5 ?km5) (.of ?am6 ?bm6 ?lm6 ?cm6 ?km6) (.of ?ai0 ?li0 ?ci0 ?ki0) (.of ?ai1 ?li1 ?ci1 ?ki1) (.of ?ai2 ?li2 ?ci2 ?ki2) (.of ?ai3 ?li3 ?ci3 ?ki3) (.of ?ai4 ?li4 ?ci4 ?ki4) (.of ?ai5 ?li5 ?ci5 ?ki5) (.of ?ai6 ?li6 ?ci6 ?ki6) (.of ?ai7 ?li7 ?ci7 ?ki7) (.of ?ai8 ?li8 ?ci8 ?ki8) (.of ?ai9 ?li9 ?ci9 ?ki9) (.of ?Sz ?LL ?QN ?MQ) (.of ?Su ?LJ ?QI ?MO) (.of ?Sr ?LI ?QE ?MM) (.of ?So ?LH ?QA ?ML) (.of ?Sn ?LG ?Qr ?MI) (.of ?Sm ?LF ?Qb ?MH) (.of ?Sl ?LE ?P9 ?MG) (.of ?Sk ?LD ?P8 ?ME) (.of ?Sj ?LB ?P7 ?MD) (.of ?Si ?LA ?P6 ?MC) (.of ?Sf ?Lv ?P5 ?MB) (.of ?Se ?Lu ?P4 ?MA) (.of ?Sc ?Lo ?P3 ?My) (.of ?Sb ?Lm ?P2 ?Mo) (.of ?Sa ?Ll ?P1 ?Mn) (.of ?RY ?Lc ?PZ ?Mm) (.of ?RU ?K2 ?PY ?Me) (.of ?RS ?K0 ?PV ?Md) (.of ?RR ?KW ?PU ?Mc) (.of ?RO ?KU ?PR ?Mb) (.of ?RI ?KS ?PQ ?L9) (.of ?RH ?KP ?PP ?L8) (.of ?RF ?KO ?PM ?L7) (.of ?RE ?KM ?PH ?L6) (.of ?RC ?KL ?PD ?L5) (.of ?RA ?KK ?Pw ?L4) (.of ?Rs ?KI ?Pt ?L3) (.of ?Rl ?KG ?Ps ?L1) (.of ?Re ?KF ?Pp ?LZ) (.of ?Rc ?KE ?Po ?LY) (.of ?Q4 ?KB ?Pl ?LX) (.of ?Q3 ?KA ?Pi ?LW) (.of ?Q2 ?Kx ?Pf ?LV) (.of ?Q1 ?Kt ?Pe ?LU) (.of ?QY ?Kk ?Pd ?LT) (.of ?QU ?Kj ?Pc ?LS) (.of ?QR ?Ki ?O3 ?LP) ?al ?ll ?cl ?kl ?pg ?hd ?po ?sa ?mk ?kc ?n0 ?n1 ?n2 ?n3 ?z0 ?z1 ?z2 ?z3 ?z4 ?z5 ?z6 ?z7 ?z8 ?z9 ?z10 ?z11 ?z12 ?z13 ?z14 ?z15 ?z16 ?z17 ?z18 ?z19 ?ao ?lo ?lq2 ?aKd ?lKd ?aWk ?lWk ?aSL ?xzv ?xeh ?xe0 ?xe1 ?xe2 ?xe3 ?xe4 ?xe5 ?xe6 ?xe7 ?xe8 ?xe9 ?uF ?uE ?uD ?xhx ?xha ?xhn ?xhc ?xho ?xhb ?xhk ?wU ?w6 ?wW ?wY ?wV ?wZ ?wX ?wF ?wR ?wQ ?wO ?wN ?wM ?wL ?wK ?wJ ?wI ?wH ?nQ ?nP ?nO ?wG
  (case aC | am0 | bm0 | lm0 | cm0 | km0 | am1 | bm1 | lm1 | cm1 | km1 | am2 | bm2 | lm2 | cm2 | km2 | am3 | bm3 | lm3 | cm3 | km3 | am4 | bm4 | lm4 | cm4 | km4 | am5 | bm5 | lm5 | cm5 | km5 | am6 | bm6 | lm6 | cm6 | km6 | ai0 | li0 | ci0 | ki0 | ai1 | li1 | ci1 | ki1 | ai2 | li2 | ci2 | ki2 | ai3 | li3 | ci3 | ki3 | ai4 | li4 | ci4 | ki4 | ai5 | li5 | ci5 | ki5 | ai6 | li6 | ci6 | ki6 | ai7 | li7 | ci7 | ki7 | ai8 | li8 | ci8 | ki8 | ai9 | li9 | ci9 | ki9 | Sz | LL | QN | MQ | Su | LJ | QI | MO | Sr | LI | QE | MM | So | LH | QA | ML | Sn | LG | Qr | MI | Sm | LF | Qb | MH | Sl | LE | P9 | MG | Sk | LD | P8 | ME | Sj | LB | P7 | MD | Si | LA | P6 | MC | Sf | Lv | P5 | MB | Se | Lu | P4 | MA | Sc | Lo | P3 | My | Sb | Lm | P2 | Mo | Sa | Ll | P1 | Mn | RY | Lc | PZ | Mm | RU | K2 | PY | Me | RS | K0 | PV | Md | RR | KW | PU | Mc | RO | KU | PR | Mb | RI | KS | PQ | L9 | RH | KP | PP | L8 | RF | KO | PM | L7 | RE | KM | PH | L6 | RC | KL | PD | L5 | RA | KK | Pw | L4 | Rs | KI | Pt | L3 | Rl | KG | Ps | L1 | Re | KF | Pp | LZ | Rc | KE | Po | LY | Q4 | KB | Pl | LX | Q3 | KA | Pi | LW | Q2 | Kx | Pf | LV | Q1 | Kt | Pe | LU | QY | Kk | Pd | LT | QU | Kj | Pc | LS | QR | Ki | O3 | LP=>k_is)
  (case al | ll | cl | kl | pg | hd | po | sa | mk | kc | n0 | n1 | n2 | n3 | z0 | z1 | z2 | z3 | z4 | z5 | z6 | z7 | z8 | z9 | z10 | z11 | z12 | z13 | z14 | z15 | z16 | z17 | z18 | z19 | ao | lo | lq2 | aKd | lKd | aWk | lWk | aSL | xzv | xeh | xe0 | xe1 | xe2 | xe3 | xe4 | xe5 | xe6 | xe7 | xe8 | xe9 | uF | uE | uD=>k_is)
  (case xhx=>k_exc)
  (case xha | xhn | xhc | xho | xhb | xhk=>k_is)
  (case wU=>k_exc)
  (case w6 | wW | wY | wV | wZ | wX | wF=>k_is)
  (case wR | wQ | wO | wN | wM | wL | wK | wJ | wI | wH | nQ | nP | nO | wG=>kit_is)
