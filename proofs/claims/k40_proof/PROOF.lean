import PyProof.Rows.All
import Wide.All
import OpenK.AllK
import Wide.FinOn
import Lean
import PyProof.EqAt
import PyProof.EqKinds
import PyProof.TupleCall
import PySem.Challenge.RW_warnloop_k40_stamps
set_option linter.all false
set_option Elab.async false
set_option maxRecDepth 100000
set_option maxHeartbeats 4000000
abbrev YA:=PySem.Value→PySem.Shared→Prop
abbrev YH:=Unit→PySem.Shared→Prop
abbrev YB:=PySem.Str→Option PySem.Value
abbrev YC:=List (PySem.Addr×PySem.Obj)
abbrev YD:=PySem.W.Frag
abbrev YI:=Array (Option PySem.Value)
abbrev YE:=List PySem.Value
abbrev YF:=List PySem.Str
abbrev YJ:=List PySem.Expr
abbrev YK:=Array PySem.DictEntry
theorem rq{α:Sort _}{a:α}:a=a:=rfl
local macro_rules|`(tactic|trivial)=>`(tactic|decide +kernel)
local macro_rules | `(tactic|ac_rfl) => `(tactic|exact ⟨rfl,rfl,rfl,by decide +kernel,rfl,by decide +kernel,by decide +kernel⟩)
open PySem.W (instObj hideAll hideAll_get lookIn plainGet hasDictIn findIn isFn emptyDict looks_findIn keepIn methodCall_KW kitOne kia_one callWith_K fnOf codeIn nsIn mg_of excIn subIn looks_subIn kat_cons kat_yes mg_none_of)
abbrev Qaa:=@PyProof.Rows.slot_tuple_getitem
abbrev Qab:=@PySem.F.slot_dict_valueiterator_next
abbrev Qac:=@PySem.F.slot_dict_keyiterator_next
abbrev Qad:=@PyProof.Rows.callWith_type1
abbrev Qae:=@List.getD_eq_getElem?_getD
abbrev Qaf:=@Array.getElem?_eq_some_iff
abbrev Qag:=@List.getElem?_append_right
abbrev Qah:=@List.getElem?_eq_some_iff
abbrev Qai:=@List.mem_or_eq_of_mem_set
abbrev Qaj:=@List.getElem?_append_left
abbrev Qak:=@List.getElem?_eq_getElem
abbrev Qal:=@PySem.F.slot_list_append
abbrev Qam:=@PySem.F.type_list_append
abbrev Qan:=@PySem.F.plainAttrs_list
abbrev Qao:=@PySem.wpAny_callSpecial?_slot
abbrev Qap:=@PySem.wpAny_getItem_str_slice
abbrev Qaq:=@PySem.Heap.get?_push_of_some
abbrev Qar:=@PySem.Heap.get?_update_other
abbrev Qas:=@List.getElem?_set_self
abbrev Qat:=@PySem.F.plain_max_loop
abbrev Qau:=@List.mem_append_right
abbrev Qav:=@List.length_replicate
abbrev Qaw:=@PySem.Heap.get?_update_self
abbrev Qax:=@Array.getElem?_toList
abbrev Qay:=@List.getElem?_eq_none
abbrev Qaz:=@List.mem_of_getElem?
abbrev QaA:=@List.mem_cons_of_mem
abbrev QaB:=@List.mem_append_left
abbrev QaC:=@List.getElem?_set_ne
abbrev QaD:=@List.replicate_succ'
abbrev QaE:=@List.getElem?_of_mem
abbrev QaF:=@PySem.Heap.get?_push_size
abbrev QaG:=@Array.length_toList
abbrev QaH:=@beq_eq_false_iff_ne
abbrev QaI:=@List.replicate_succ
abbrev QaJ:=@PySem.mem_of_lookup
abbrev QaK:=@PySem.Heap.SameBut.update
abbrev QaL:=@Bool.false_ne_true
abbrev QaM:=@List.mem_singleton
abbrev QaN:=@List.length_append
abbrev QaP:=@Nat.lt_of_lt_of_le
abbrev QaQ:=@List.mem_cons_self
abbrev QaR:=@decide_eq_true_iff
abbrev QaS:=@List.filter_append
abbrev QaT:=@PySem.wpAny_Call_Name_kw
abbrev QaU:=@Int.emod_lt_of_pos
abbrev QaV:=@List.zip_cons_cons
abbrev QaW:=@PySem.Calls.spliced_cons
abbrev QaY:=@List.pairwise_cons
abbrev QaZ:=@List.size_toArray
abbrev Qba:=@List.getElem?_map
abbrev Qbb:=@Int.toNat_natCast
abbrev Qbc:=@PySem.wpAny_truthy_bool
abbrev Qbd:=@of_decide_eq_true
abbrev Qbe:=@PySem.wpAny_newObj_type
abbrev Qbf:=@PySem.wpAny_loadPart_at
abbrev Qbg:=@List.flatten_cons
abbrev Qbh:=@List.length_range
abbrev Qbi:=@List.not_mem_nil
abbrev Qbj:=@List.take_length
abbrev Qbk:=@List.length_take
abbrev Qbl:=@PySem.wpAny_call_entry
abbrev Qbm:=@Bool.and_eq_true
abbrev Qbn:=@List.length_cons
abbrev Qbo:=@Nat.lt_succ_self
abbrev Qbp:=@PySem.wpAny_eqBool_int
abbrev Qbr:=@beq_self_eq_true
abbrev Qbs:=@List.filter_cons
abbrev Qbt:=@List.length_map
abbrev Qbu:=@List.mem_append
abbrev Qbv:=@decide_eq_false
abbrev Qbw:=@List.map_append
abbrev Qbx:=@Option.some.inj
abbrev Qby:=@List.append_nil
abbrev QbA:=@PySem.PassesOwn.never
abbrev QbB:=@List.nodup_cons
abbrev QbC:=@Bool.eq_iff_iff
abbrev QbD:=@List.length_set
abbrev QbE:=@Int.emod_nonneg
abbrev QbG:=@List.filter_nil
abbrev QbH:=@decide_eq_true
abbrev QbI:=@PySem.Heap.size_push
abbrev QbJ:=@Bool.false_and
abbrev QbK:=@List.mem_cons
abbrev QbL:=@PySem.Paired.length
abbrev QbM:=@List.map_cons
abbrev QbO:=@Nat.lt_irrefl
abbrev QbP:=@PySem.wpAny_holding
abbrev QbQ:=@Int.lt_irrefl
abbrev QbR:=@PySem.wpAny_standAt
abbrev QbS:=@PySem.Heap.lt_size
abbrev QbT:=@Nat.ne_of_lt
abbrev QbU:=@Nat.le_trans
abbrev QbV:=@List.mem_map
abbrev QbW:=@Nat.le_of_lt
abbrev QbX:=@List.map_set
abbrev QbY:=@PySem.codeAny_mono
abbrev QbZ:=@Nat.le_refl
abbrev Qca:=@Nat.zero_le
abbrev Qcb:=@PySem.wpAny_bind
abbrev Qcc:=@PySem.wpAny_pure
abbrev Qcd:=@PySem.wpAny_mono
abbrev Qce:=@PyProof.Rows.take_snoc
abbrev Qcf:=@or_false
namespace L2
open PySem PySem.Spec PyProof.Rows
abbrev Key:=Sum Int Str
def LQ:Key->Value->Bool
 | .inl k,v=>Value.isInt k v
 | .inr x,v=>Value.isStrOf x v
def uE (w:World):Key->Int
 | .inl k=>hashInt k
 | .inr x=>hashStr w x
theorem CG:∀{k:Key} {v:Value},LQ k v=true->(∃i t,k=Sum.inl i/\v=Value.int i t)\/(∃x t,k=Sum.inr x/\v=Value.str x t)
 | .inl i,v,h=>by
  obtain⟨t,e⟩:=Value.isInt_shape (k:=i) (v:=v) h;exact .inl ⟨i,t,rq,e⟩
 | .inr x,v,h=>by
  obtain⟨t,e⟩:=Value.isStrOf_shape (x:=x) (v:=v) h;exact .inr ⟨x,t,rq,e⟩
theorem Yd (i:Int) (t:Tok):LQ (.inl i) (.int i t)=true:=by simp[LQ,Value.isInt]
theorem Yc (x:Str) (t:Tok):LQ (.inr x) (.str x t)=true:=by simp[LQ,Value.isStrOf]
theorem j5 (a b:Int):decide ((Sum.inl a:Key)=Sum.inl b)=(a == b):=by
 by_cases e:a=b
 ·subst e;simp
 ·have h:¬(Sum.inl a:Key)=Sum.inl b:=λq=>e (Sum.inl.inj q);rw[Qbv h];exact (QaH.mpr e).symm
theorem jY (a b:Str):decide ((Sum.inr a:Key)=Sum.inr b)=decide (a=b):=by
 by_cases e:a=b
 ·subst e;simp
 ·have h:¬(Sum.inr a:Key)=Sum.inr b:=λq=>e (Sum.inr.inj q);rw[Qbv h,Qbv e]
theorem j4 (a:Int) (b:Str):decide ((Sum.inl a:Key)=Sum.inr b)=false:=Qbv (λq=>nomatch q)
theorem jZ (a:Str) (b:Int):decide ((Sum.inr a:Key)=Sum.inl b)=false:=Qbv (λq=>nomatch q)
def Cp (prog:Program) (w:World):PySem.KeyKind prog w Key where
 is:=LQ
 hash:=uE w
 inj:=λv a b ha hb=>by
  rcases CG ha with⟨i,t,rfl,rfl⟩|⟨x,t,rfl,rfl⟩
  ·rcases CG hb with⟨j,u,rfl,e⟩|⟨y,u,rfl,e⟩
   ·injection e with e1 _;rw[e1]
   ·exact nomatch e
  ·rcases CG hb with⟨j,u,rfl,e⟩|⟨y,u,rfl,e⟩
   ·exact nomatch e
   ·injection e with e1 _;rw[e1]
 byValue:=λk v h=>by
  rcases CG h with⟨i,t,rfl,rfl⟩|⟨x,t,rfl,rfl⟩ <;> rfl
 pyHash:=λhv h=>by
  rcases CG hv with⟨i,t,rfl,rfl⟩|⟨x,t,rfl,rfl⟩
  ·exact wpAny_pyHash_int h
  ·exact wpAny_pyHash_str h
 eqBool:=λhu hv h=>by
  rcases CG hu with⟨i,t,rfl,rfl⟩|⟨x,t,rfl,rfl⟩
  ·rcases CG hv with⟨j,u,rfl,rfl⟩|⟨y,u,rfl,rfl⟩
   ·rw[j5] at h;exact Qbp h
   ·rw[j4] at h;exact SeqAt.EqAt.int_str i t y u _ _ _ _ h
  ·rcases CG hv with⟨j,u,rfl,rfl⟩|⟨y,u,rfl,rfl⟩
   ·rw[jZ] at h;exact SeqAt.EqAt.str_int x t j u _ _ _ _ h
   ·rw[jY] at h;exact wpAny_eqBool_str h
 «strs»:=λk x t v h=>by
  rcases CG h with⟨i,u,rfl,e⟩|⟨y,u,rfl,e⟩
  ·exact nomatch e
  ·injection e with e1 _;subst e1;cases v <;> rfl
theorem Ub (prog:Program) (w:World) (i:Int) (t:Tok):(Cp prog w).is (.inl i) (.int i t)=true:=Yd i t
theorem Ua (prog:Program) (w:World) (x:Str) (t:Tok):(Cp prog w).is (.inr x) (.str x t)=true:=Yc x t
inductive V where
 | non | bl (b:Bool) | int (i:Int) | str (x:Str) | byt (b:Array UInt8) | flt (b:UInt64) | ref (a:Addr) | ty (n:String)
 deriving DecidableEq
def RelV:V->Value->Prop
 | .non,u=>u=Value.none
 | .bl b,u=>u=Value.bool b
 | .int i,u=>∃t,u=Value.int i t
 | .str x,u=>∃t,u=Value.str x t
 | .byt b,u=>∃t,u=Value.bytes b t
 | .flt b,u=>∃t,u=Value.float b t
 | .ref a,u=>u=Value.ref a
 | .ty n,u=>u=Value.type n
abbrev YG:=List V
abbrev Vals:YG->YE->Prop:=Paired RelV
theorem Vals.length {xs:YG} {us:YE} (r:Vals xs us):xs.length=us.length:=QbL r
theorem Vals.get:∀{xs:YG} {us:YE} {i:Nat} {x:V},Vals xs us->xs[i]?=some x->∃u,us[i]?=some u/\RelV x u
 | _,_,_,_,.nil,e=>by simp at e
 | _,_,0,_,.cons r _,e=>by simp at e;subst e;exact⟨_,rfl,r⟩
 | _,_,i+1,x,.cons _ t,e=>by
  obtain⟨u,h1,h2⟩:=Vals.get (i:=i) (x:=x) t (by simpa using e);exact⟨u,by simpa using h1,h2⟩
theorem Vals.set {x:V} {u:Value} (r:RelV x u):∀{xs:YG} {us:YE} (i:Nat),Vals xs us->Vals (xs.set i x) (us.set i u)
 | _,_,_,.nil=>.nil
 | _,_,0,.cons _ t=>.cons r t
 | _,_,i+1,.cons q t=>.cons q (Vals.set r i t)
theorem Vals.append:∀{xs ys:YG} {us ws:YE},Vals xs us->Vals ys ws->Vals (xs++ys) (us++ws)
 | _,_,_,_,.nil,s=>s
 | _,_,_,_,.cons r t,s=>.cons r (Vals.append t s)
theorem Vals.take:∀{xs:YG} {us:YE} (n:Nat),Vals xs us->Vals (xs.take n) (us.take n)
 | _,_,0,_=>.nil
 | _,_,_+1,.nil=>.nil
 | _,_,n+1,.cons r t=>.cons r (Vals.take n t)
theorem Vals.drop:∀{xs:YG} {us:YE} (n:Nat),Vals xs us->Vals (xs.drop n) (us.drop n)
 | _,_,0,r=>r
 | _,_,_+1,.nil=>.nil
 | _,_,n+1,.cons _ t=>Vals.drop n t
def Gw:Option V->Option Value->Prop
 | some v,some u=>RelV v u
 | none,none=>True
 | _,_=>False
def KV {κ : Type}:List (κ×V)->List (κ×Value)->Prop:=Paired λ(p:κ×V) (q:κ×Value)=>p.1=q.1/\RelV p.2 q.2
def kV:Key->V
 | .inl i=>.int i
 | .inr x=>.str x
inductive HO where
 | lst (xs:YG)
 | tup (xs:YG)
 | dK (kvs:List (Key×V)) | dT (kvs:List (List Key×V))
 | set (S:Int->Bool) (n:Nat)
 | ins (C dx:Addr) (fs:List (Str×V))
 | own (x:Addr)
 | xd (fs:List (Str×V))
 | met (f x:Addr)
 | rng (lo hi:Int)
 | frz (o:Obj) (u:HO)
 | tbl (ps:Array Value)
 | ext (φ : Heap->Prop)
abbrev Hp:=Addr->Option HO
def upd (H:Hp) (a:Addr) (o:HO):Hp:=λb=>if b=a then some o else H b
theorem Ac {H:Hp} {a:Addr} {o:HO}:upd H a o a=some o:=by unfold upd;rw[if_pos rfl]
theorem Al {H:Hp} {a b:Addr} {o:HO} (h:b≠a):upd H a o b=H b:=by unfold upd;rw[if_neg h]
theorem eV {H:Hp} {a b:Addr} {o u:HO} (h:H a=some o) (h':H b=some u) (d:o≠u):a≠b:=by
 intro e;subst e;rw[h] at h';exact d (Qbx h')
theorem Am {H:Hp} {a b:Addr} {o:HO} (h:H a=some o) (h':H b=none):a≠b:=by
 intro e;subst e;rw[h] at h';cases h'
section
variable (P:Program) (w:World)
def Bo (H:Hp) (h:Heap) (a:Addr):HO->Prop
 | .lst xs=>xs.length<=sizeLine/\∃(its:YE) (n:Nat),Vals xs its/\h.get? a=some { cls:=.type "list",data:=.seq its.toArray n }
 | .tup xs=>xs.length<=sizeLine/\∃its:YE,Vals xs its/\IsTup h a its.toArray
 | .dK kvs=>kvs.length<=sizeLine/\(a == sysModules)=false/\∃vs,KV kvs vs/\h.DictOf (Cp P w) a vs
 | .dT kvs=>kvs.length<=sizeLine/\(a == sysModules)=false/\∃xs:List (List Key×Addr×Value),
   Paired (λ(p:List Key×V) (q:List Key×Addr×Value)=>p.1=q.1/\H q.2.1=some (.tup (p.1.map kV))/\RelV p.2 q.2.2) kvs xs /\
   ∃o es ep,h.get? a=some o/\o.ExactDict/\o.data=.dict es ep/\es.toList=xs.map (entryOfKey (tupleKind (Cp P w)))/\(xs.map (·.1)).Nodup
 | .set S n=>h.SetOf (intKind P w) a S n
 | .ins C dx fs=>H dx=some (.own a)/\fs.length<=1000/\dx≠a/\h.get? a=some (instObj C dx) /\
   ∃mA,h.Ns1 dx mA/\(∀f,Gw (fs.lookup f) (mA f))/\PySem.Within mA (fs.map (·.1))
 | .own _=>∃o,h.get? a=some o
 | .xd fs=>∃mA,h.Ns1 a mA/\∀f,Gw (fs.lookup f) (mA f)
 | .rng lo hi=>∃t u v,h.get? a=some { cls:=.type "range",data:=.fields #[.int lo t,.int hi u,.int 1 v] }
 | .frz o u=>h.get? a=some o/\Bo H h a u
 | .tbl ps=>h.get? a=some { cls:=.none,data:=.fields ps }
 | .met f x=>h.get? a=some (PySem.W.methodObj (.ref f) (.ref x))
 | .ext φ=>φ h/\(∃o,h.get? a=some o)/\∀h1 h2:Heap,φ h1->(∀o,h1.get? a=some o->h2.get? a=some o)->φ h2
def HOk (H:Hp) (h:Heap):Prop:=∀a o,H a=some o->Bo P w H h a o
end
section
variable {P:Program} {w:World} {H H':Hp} {h h':Heap} {a:Addr} {o:HO}
theorem Bo.lt (x:Bo P w H h a o):a < h.objs.size:=by
 cases o with
 | lst xs=>obtain⟨_,_,_,_,e⟩:=x;exact QbS e
 | tup xs=>obtain⟨_,_,_,p⟩:=x;exact p.lt
 | dK kvs=>obtain⟨_,_,_,_,o,_,_,e,_⟩:=x;exact QbS e
 | dT kvs=>obtain⟨_,_,_,_,o,_,_,e,_⟩:=x;exact QbS e
 | set S n=>obtain⟨o,_,_,_,e,_⟩:=x;exact QbS e
 | ins C dx fs=>obtain⟨_,_,_,e,_⟩:=x;exact QbS e
 | own y=>obtain⟨_,e⟩:=x;exact QbS e
 | xd fs=>obtain⟨_,⟨_,_,_,e,_⟩,_⟩:=x;exact QbS e
 | rng lo hi=>obtain⟨_,_,_,e⟩:=x;exact QbS e
 | frz ob u=>obtain⟨e,_⟩:=x;exact QbS e
 | tbl ps=>exact QbS (show h.get? a=some _ from x)
 | met f y=>exact QbS (show h.get? a=some _ from x)
 | ext φ=>obtain⟨_,⟨_,e⟩,_⟩:=x;exact QbS e
theorem Paired.Kf {α β : Type} {F G:α->β->Prop}:∀{l₁ : List α} {l₂ : List β},Paired F l₁ l₂->(∀a b,F a b->G a b)->Paired G l₁ l₂
 | _,_,.nil,_=>.nil
 | _,_,.cons r t,f=>.cons (f _ _ r) (Paired.Kf t f)
theorem Bo.stay (x:Bo P w H h a o) (k:∀b u,(b=a\/H b=some (.own a))->h.get? b=some u->h'.get? b=some u)
  (ho:∀b,H b=some (.own a)->H' b=some (.own a)) (ht:∀b xs,H b=some (.tup xs)->H' b=some (.tup xs)):Bo P w H' h' a o:=by
 induction o with
 | lst xs=>obtain⟨z,its,n,r,e⟩:=x;exact⟨z,its,n,r,k _ _ (.inl rfl) e⟩
 | tup xs=>obtain⟨z,its,r,ob,e,c⟩:=x;exact⟨z,its,r,ob,k _ _ (.inl rfl) e,c⟩
 | dK kvs=>obtain⟨z,y,vs,r,ob,es,ep,e,c⟩:=x;exact⟨z,y,vs,r,ob,es,ep,k _ _ (.inl rfl) e,c⟩
 | dT kvs=>
  obtain⟨z,y,xs,r,ob,es,ep,e,c⟩:=x;exact⟨z,y,xs,Paired.Kf r λp q z=>⟨z.1,ht _ _ z.2.1,z.2.2⟩,ob,es,ep,k _ _ (.inl rfl) e,c⟩
 | set S n=>obtain⟨ob,es,ep,t,e,c⟩:=x;exact⟨ob,es,ep,t,k _ _ (.inl rfl) e,c⟩
 | ins C dx fs=>
  obtain⟨d,z,ne,e,mA,⟨od,es,ep,e2,c⟩,r⟩:=x;exact⟨ho _ d,z,ne,k _ _ (.inl rfl) e,mA,⟨od,es,ep,k _ _ (.inr d) e2,c⟩,r⟩
 | own y=>obtain⟨ob,e⟩:=x;exact⟨ob,k _ _ (.inl rfl) e⟩
 | xd fs=>obtain⟨mA,⟨od,es,ep,e,c⟩,r⟩:=x;exact⟨mA,⟨od,es,ep,k _ _ (.inl rfl) e,c⟩,r⟩
 | rng lo hi=>obtain⟨t,u,v,e⟩:=x;exact⟨t,u,v,k _ _ (.inl rfl) e⟩
 | frz ob u ih=>obtain⟨e,q⟩:=x;exact⟨k _ _ (.inl rfl) e,ih q⟩
 | tbl ps=>
  have e:h.get? a=some { cls:=.none,data:=.fields ps }:=x;show h'.get? a=some { cls:=.none,data:=.fields ps };exact k a _ (.inl rfl) e
 | met f y=>
  have e:h.get? a=some (PySem.W.methodObj (.ref f) (.ref y)):=x;show h'.get? a=some (PySem.W.methodObj (.ref f) (.ref y));exact k a _ (.inl rfl) e
 | ext φ=>obtain⟨p,⟨o,e⟩,st⟩:=x;exact⟨st _ _ p λo q=>k _ _ (.inl rfl) q,⟨o,k _ _ (.inl rfl) e⟩,st⟩
theorem HOk.lt (x:HOk P w H h) (e:H a=some o):a < h.objs.size:=(x a o e).lt
theorem HOk.fresh (x:HOk P w H h) (e:h.objs.size<=a):H a=none:=by
 cases q:H a with
 | none=>rfl
 | some u=>exact absurd (QaP (x.lt q) e) (QbO _)
theorem HOk.kept (x:HOk P w H h) (k:∀b u,h.get? b=some u->h'.get? b=some u):HOk P w H h':=λa o e=>
 (x a o e).stay (λb u _ q=>k b u q) (λ_ q=>q) λ_ _ q=>q
theorem HOk.laid (x:HOk P w H h) (k:∀b u,h.get? b=some u->h'.get? b=some u) (hp:h.objs.size<=a) (new:Bo P w (upd H a o) h' a o):HOk P w (upd H a o) h':=λb u e=>by
 have hn:=x.fresh hp;by_cases hb:b=a
 ·subst hb;rw[Ac] at e;cases e;exact new
 ·rw[Al hb] at e;exact (x b u e).stay (λc v _ q=>k c v q) (λc q=>by rw[Al (Am q hn)];exact q) λc xs q=>by rw[Al (Am q hn)];exact q
end
def Rd (H:Hp) (a:Addr) (u:HO):Prop:=H a=some u\/∃o,H a=some (.frz o u)
theorem Rd.ok {P:Program} {w:World} {H:Hp} {h:Heap} {a:Addr} {u:HO} (r:Rd H a u) (x:HOk P w H h):Bo P w H h a u:=by
 rcases r with r |⟨o,r⟩
 ·exact x a u r
 ·obtain⟨_,q⟩:=x a _ r;exact q
def Mut:Option HO->Prop
 | some (.lst _)=>True
 | some (.dK _)=>True
 | some (.dT _)=>True
 | some (.set _ _)=>True
 | some (.ins _ _ _)=>True
 | some (.ext _)=>True
 | _=>False
section
variable {P:Program} {w:World} {H:Hp} {h h':Heap} {x e:Addr} {o':HO}
theorem HOk.write (ok:HOk P w H h) (mu:Mut (H x)) (he:e=x\/H e=some (.own x)) (k:∀b u,b≠e->h.get? b=some u->h'.get? b=some u) (heo:∃u,h'.get? e=some u)
  (new:Bo P w (upd H x o') h' x o'):HOk P w (upd H x o') h':=λb u q=>by
 have jO:∀c y,H c=some (.own y)->c≠x:=λc y r z=>by subst z;rw[r] at mu;exact mu
 have Ph:∀c xs,H c=some (.tup xs)->c≠x:=λc xs r z=>by subst z;rw[r] at mu;exact mu
 by_cases hb:b=x
 ·subst hb;rw[Ac] at q;cases q;exact new
 ·rw[Al hb] at q;by_cases hbe:b=e
  ·have q':H b=some (.own x):=by
    rcases he with z | z
    ·exact absurd (hbe.trans z) hb
    ·rw[hbe];exact z
   rw[q] at q';cases q';obtain⟨v,hv⟩:=heo;exact⟨v,by rw[hbe];exact hv⟩
  ·refine (ok b u q).stay (λc v hc r=>k c v ?_ r) (λc r=>by rw[Al (jO c b r)];exact r) λc xs r=>by rw[Al (Ph c xs r)];exact r
   rcases hc with rfl | hc
   ·exact hbe
   ·rintro rfl;rcases he with z | z
    ·exact jO c b hc z
    ·rw[hc] at z;cases z;exact hb rfl
end
structure Un (fs ex:List Addr) (H H':Hp) (h h':Heap):Prop where
 keep:∀b o,h.get? b=some o->H b=none->b∉fs->b∉ex->h'.get? b=some o
 slot:∀b o,h.get? b=some o->H b=none->b∈fs->b∉ex->∃sl,h'.get? b=some { o with slots:=sl }
 free:∀b o,h.get? b=some o->H b=none->b∉ex->H' b=none
 there:∀b o,h.get? b=some o->b∉ex->∃o',h'.get? b=some o'
 tups:∀b xs,H b=some (.tup xs)->H' b=some (.tup xs)
 FJ:∀b o u,H b=some (.frz o u)->H' b=some (.frz o u)
 Gu:∀b ps,H b=some (.tbl ps)->∃more,H' b=some (.tbl (ps++more))
section
variable {fs fs' ex ex':List Addr} {H H1 H2:Hp} {h h1 h2 h':Heap} {a x e:Addr} {o:HO}
theorem Un.any (u:Un fs ex H H1 h h1) {b:Addr} {ob:Obj} (q:h.get? b=some ob) (n:H b=none) (hx:b∉ex):∃sl,h1.get? b=some { ob with slots:=sl }:=by
 by_cases hb:b∈fs
 ·exact u.slot b ob q n hb hx
 ·exact⟨ob.slots,u.keep b ob q n hb hx⟩
theorem Un.kept (k:∀b u,h.get? b=some u->h'.get? b=some u):Un fs ex H H h h':=
 ⟨λb ob q _ _ _=>k b ob q,λb ob q _ _ _=>⟨ob.slots,k b ob q⟩,λ_ _ _ n _=>n,λb ob q _=>⟨ob,k b ob q⟩,λ_ _ q=>q,λ_ _ _ q=>q,λ_ ps q=>⟨#[],by rw[q];simp⟩⟩
theorem Un.refl:Un fs ex H H h h:=Un.kept λ_ _ q=>q
theorem Un.laid (k:∀b u,h.get? b=some u->h'.get? b=some u) (hp:h.objs.size<=a) (hn:H a=none):Un fs ex H (upd H a o) h h' where
 keep:=λb u q _ _ _=>k b u q
 slot:=λb u q _ _ _=>⟨u.slots,k b u q⟩
 free:=λb u q n _=>by rw[Al (QbT (QaP (QbS q) hp))];exact n
 there:=λb u q _=>⟨u,k b u q⟩
 tups:=λb xs q=>by rw[Al (Am q hn)];exact q
 FJ:=λb u xs q=>by rw[Al (Am q hn)];exact q
 Gu:=λb ps q=>⟨#[],by rw[Al (Am q hn),q];simp⟩
theorem Un.write (mu:Mut (H x)) (he:e=x\/H e=some (.own x)) (k:∀b u,b≠e->h.get? b=some u->h'.get? b=some u) (heo:∃u,h'.get? e=some u):Un fs ex H (upd H x o) h h':=by
 have hx:∀b,H b=none->b≠x:=λb n z=>by subst z;rw[n] at mu;exact mu
 have hb:∀b,H b=none->b≠e:=λb n z=>by
  subst z;rcases he with r | r
  ·exact hx b n r
  ·rw[n] at r;cases r
 have hm:∀b u,H b=some u->¬Mut (some u)->b≠x:=λb u q nm z=>by subst z;rw[q] at mu;exact nm mu
 refine⟨λb u q n _ _=>k b u (hb b n) q,λb u q n _ _=>⟨u.slots,k b u (hb b n) q⟩,λb u q n _=>by rw[Al (hx b n)];exact n,λb u q _=>?_,
  λb xs q=>by rw[Al (hm b _ q λz=>z)];exact q,λb u xs q=>by rw[Al (hm b _ q λz=>z)];exact q,λb ps q=>⟨#[],by rw[Al (hm b _ q λz=>z),q];simp⟩⟩
 by_cases hbe:b=e
 ·subst hbe;exact heo
 ·exact⟨u,k b u hbe q⟩
end
def trk (h:Heap) (H:Hp):List Addr:=(List.range h.objs.size).filter λa=>(H a).isSome
def Kg (h:Heap) (H:Hp):Heap:=hideAll h (trk h H)
theorem Ym (h:Heap) (H:Hp):(Kg h H).objs.size=h.objs.size:=PySem.W.hideAll_size _ _
theorem cH {h:Heap} {H:Hp} {b:Addr} {o:Obj} (e:h.get? b=some o) (n:H b=none):(Kg h H).get? b=some o:=
 hideAll_get _ e λhm=>by
  have q:(H b).isSome=true:=(List.mem_filter.mp hm).2;rw[n] at q;simp at q
theorem gQ {h:Heap} {H:Hp} {b:Addr} {o:Obj} (e:(Kg h H).get? b=some o):h.get? b=some o/\H b=none:=by
 have e':h.get? b=some o:=PySem.W.of_hideAll (trk h H) e;refine⟨e',?_⟩;cases q:H b with
 | none=>rfl
 | some x=>
  have hm:b∈trk h H:=List.mem_filter.mpr ⟨List.mem_range.mpr (QbS e'),by simp[q]⟩;have z:(Kg h H).get? b=none:=PySem.W.hideAll_none (trk h H) hm;rw[z] at e;cases e
def Ml (g h:Heap) (L:Addr):YC:=(List.range h.objs.size).filterMap λa=>if a=L\/(g.get? a).isSome=true then none else (h.get? a).map λo=>(a,o)
theorem Fo {g h:Heap} {L a:Addr} {o:Obj} (h1:a≠L) (h2:g.get? a=none) (h3:h.get? a=some o):(a,o)∈Ml g h L:=
 List.mem_filterMap.mpr ⟨a,List.mem_range.mpr (QbS h3),by simp[h1,h2,h3]⟩
theorem Pb {g h:Heap} {L:Addr} {p:Addr×Obj} (hp:p∈Ml g h L):p.1≠L/\g.get? p.1=none/\h.get? p.1=some p.2:=by
 obtain⟨b,_,e⟩:=List.mem_filterMap.mp hp;split at e
 ·cases e
 ·rename_i hn;cases q:h.get? b with
  | none=>rw[q] at e;simp at e
  | some u=>
   rw[q] at e;simp only[Option.map_some,Option.some.injEq] at e;subst e;refine⟨λz=>hn (.inl z),?_,q⟩;show g.get? b=none;cases r:g.get? b with
   | none=>rfl
   | some v=>exact (hn (.inr (by simp[r]))).elim
def rest (g h:Heap) (L d:Addr):YC:=(Ml g h L).filter λp=>decide (p.1≠d)
theorem Rv {g h:Heap} {L:Addr}:News g L h (Ml g h L):=λp hp=>let ⟨a,b,c⟩:=Pb hp;⟨c,a,b⟩
structure Mod (K:YD) (mg:YB) (base:Heap):Prop where
 kin:K.In base
 glob:base.Ns mainGlobals mg
 blt:∃mb,base.Ns builtinsNs mb/\∀x:Str,x≠"__name__"->mb x=bootBuiltins x
 nolimit:base.NoLimit
structure Cx where
 prog:Program
 w:World
 K:YD
 mg:YB
 base:Heap
 A:Around
 N:YF
 s₀ : Shared
 H₀ : Hp
 env:Env
 outer:List Env
 stack:List Env
 ex:List Addr
 fn:Str->Bool
 calm:Bool
 pn:YC
 xe:YA
def frs (l:List Env):List Addr:=l.filterMap (·.frame)
abbrev Cx.fs (X:Cx):List Addr:=frs X.outer
def Vis (sc:Scope) (x:Str):Prop:=sc.names.lookup x=some .local\/sc.names.lookup x=some .cell\/sc.names.lookup x=some .free
def Loc (sc:Scope) (x:Str):Prop:=sc.names.lookup x=some .local\/sc.names.lookup x=some .cell
def Look (env:Env) (h:Heap) (m:YB) (x:Str) (u:Value):Prop:=
 (env.kindOf x=some .local/\m x=some u)\/((env.kindOf x=some .cell\/env.kindOf x=some .free)/\∃c,env.cells.lookup x=some c/\h.IsCell c (some u))
structure Cx.Ok (X:Cx):Prop where
 mod:Mod X.K X.mg X.base
 kind:X.env.scope.kind=.function
 glob:X.env.globals=mainGlobals
 blt:X.env.builtins=builtinsNs
 above:X.s₀.heap.objs.size<=X.env.locals
 inj:∀x y c,X.env.cells.lookup x=some c->X.env.cells.lookup y=some c->x=y
 has:∀x,(X.env.kindOf x=some .cell\/X.env.kindOf x=some .free)->∃c,X.env.cells.lookup x=some c
 cab:∀x c,X.fn x=true->X.env.cells.lookup x=some c->X.s₀.heap.objs.size<=c
 hd:X.calm=true->X.A.handled=none
 frames:X.A.frames=some X.stack
 stk:X.stack=X.outer\/(X.stack=X.env::X.outer/\X.env.frame=some X.env.locals)
 exf:∀b∈X.ex,b≠X.env.locals/\∀x c,X.env.cells.lookup x=some c->c≠b
 bs:∀b o,X.base.get? b=some o->X.s₀.heap.get? b=some o/\X.H₀ b=none
 bsz:X.base.objs.size<=X.s₀.heap.objs.size
 Jj:∀b o,X.base.get? b=some o->b∉X.ex
 Ig:∀b∈X.ex,b∉X.fs
 DY:X.s₀.heap.FunFrames X.base X.outer
 frf:∀b∈X.fs,X.H₀ b=none
structure Inv (X:Cx) (jb:YC) (Z : List (Option V)) (H:Hp) (s:Shared):Prop where
 ok:X.Ok
 os:s.os=X.s₀.os
 bare:AllBare s.gens
 base:Un X.fs X.ex X.H₀ H X.s₀.heap s.heap
 loc:∃m,s.heap.Ns X.env.locals m/\∀(i:Nat) (x:Str) (v:V),X.N[i]?=some x->Z[i]?=some (some v)->Vis X.env.scope x->∃u,RelV v u/\Look X.env s.heap m x u
 cell:∀x c,X.env.cells.lookup x=some c->∃v,s.heap.IsCell c v
 free:H X.env.locals=none
 Dt:∀x c,X.env.cells.lookup x=some c->H c=none
 pin:∀p∈X.pn++jb,s.heap.get? p.1=some p.2/\H p.1=none/\p.1≠X.env.locals/\p.1∉X.fs/\∀v,p.2.data≠.cell v
 hok:HOk X.prog X.w H s.heap
 len:Z.length=X.N.length
section
variable {X:Cx} {jb:YC} {Z : List (Option V)} {H H':Hp} {s:Shared} {h':Heap}
theorem Cx.Ok.uo (ok:X.Ok) {b:Addr} {o:Obj} (e:X.base.get? b=some o):b∉X.fs:=λhb=>by
 have:=(ok.DY.mem hb).1;rw[e] at this;cases this
theorem Inv.bs (I:Inv X jb Z H s):∀b o,X.base.get? b=some o->s.heap.get? b=some o/\H b=none:=λb o e=>
 ⟨I.base.keep b o (I.ok.bs b o e).1 (I.ok.bs b o e).2 (I.ok.uo e) (I.ok.Jj b o e),I.base.free b o (I.ok.bs b o e).1 (I.ok.bs b o e).2 (I.ok.Jj b o e)⟩
theorem Inv.bk (I:Inv X jb Z H s):∀b o,X.base.get? b=some o->s.heap.get? b=some o:=λb o e=>(I.bs b o e).1
theorem Inv.mod (I:Inv X jb Z H s):Mod X.K X.mg X.base:=I.ok.mod
theorem Inv.kIn (I:Inv X jb Z H s):X.K.In s.heap:=I.ok.mod.kin.keeps I.bk
theorem Inv.nolimit (I:Inv X jb Z H s):s.heap.NoLimit:=I.ok.mod.nolimit.keeps I.bk
theorem Inv.lt (I:Inv X jb Z H s):X.env.locals < s.heap.objs.size:=let ⟨_,hn,_⟩:=I.loc;hn.lt
theorem Inv.sz (I:Inv X jb Z H s):X.s₀.heap.objs.size<=s.heap.objs.size:=QbU I.ok.above (QbW I.lt)
theorem Inv.jP (I:Inv X jb Z H s) {a:Addr} (h:s.heap.objs.size<=a):a∉X.fs:=λhb=>by
 obtain⟨_,o,ho,_⟩:=I.ok.DY.mem hb;exact absurd (QaP (QbS ho) (QbU I.sz h)) (QbO _)
theorem Inv.cne (I:Inv X jb Z H s):∀x c,X.env.cells.lookup x=some c->c≠X.env.locals:=λx c e z=>by
 obtain⟨v,o,ho,hd⟩:=I.cell x c e;obtain⟨m,⟨o',es,ep,ho',hd',_⟩,_⟩:=I.loc;rw[z,ho'] at ho;cases ho;rw[hd'] at hd;cases hd
theorem Inv.DY (I:Inv X jb Z H s):s.heap.FunFrames X.base X.outer:=by
 have all:∀(l:List Env),(∀b∈frs l,b∈X.fs)->X.s₀.heap.FunFrames X.base l->s.heap.FunFrames X.base l:=by
  intro l
  induction l with
  | nil=>intro _ _;trivial
  | cons env r ih=>
   intro hs hl;obtain⟨hk,⟨L,o,hf,hn,ho,hd⟩,hr⟩:=hl;have hL:L∈X.fs:=hs L (by unfold frs;rw[List.filterMap_cons,hf];exact QaQ);obtain⟨sl,e⟩:=I.base.slot L o ho (I.ok.frf L hL) hL λz=>I.ok.Ig L z hL;exact⟨hk,⟨L,_,hf,hn,e,hd⟩,ih (λb hb=>hs b (by unfold frs;rw[List.filterMap_cons,hf];exact QaA _ hb)) hr⟩
 exact all X.outer (λ_ hb=>hb) I.ok.DY
theorem Inv.stack (I:Inv X jb Z H s):s.heap.FunFrames X.base X.stack:=by
 rcases I.ok.stk with e |⟨e,hf⟩
 ·rw[e];exact I.DY
 ·rw[e];obtain⟨m,hn,_⟩:=I.loc;refine .cons (by rw[I.ok.kind];decide) hf hn ?_ I.DY;exact Heap.get?_none_of_le (QbU I.ok.bsz I.ok.above)
theorem Inv.Nj (I:Inv X jb Z H s):∀b∈frs X.stack,b∈X.env.locals::X.fs:=λb hb=>by
 rcases I.ok.stk with e |⟨e,hf⟩
 ·rw[e] at hb;exact QaA _ hb
 ·rw[e] at hb;unfold frs at hb;rw[List.filterMap_cons,hf] at hb;exact hb
theorem Inv.Oz (I:Inv X jb Z H s):∀b∈frs X.stack,H b=none:=λb hb=>by
 rcases QbK.mp (I.Nj b hb) with e | hb
 ·rw[e];exact I.free
 ·obtain⟨_,o,ho,_⟩:=I.ok.DY.mem hb;exact I.base.free b o ho (I.ok.frf b hb) λz=>I.ok.Ig b z hb
theorem Inv.step {g':Array GenState} {t':Nat} {d':Drawn} {ch:List Addr} (I:Inv X jb Z H s)
  (hch:∀b∈ch,(b∈X.ex\/X.s₀.heap.objs.size<=b)/\b≠X.env.locals/\(∀x c,X.env.cells.lookup x=some c->c≠b)/\∀p∈X.pn++jb,p.1≠b)
  (keep:∀b o,b≠X.env.locals->b∉X.fs->b∉ch->s.heap.get? b=some o->H b=none->h'.get? b=some o)
  (slot:∀b o,b≠X.env.locals->b∈X.fs->b∉ch->s.heap.get? b=some o->H b=none->∃sl,h'.get? b=some { o with slots:=sl }) (free:∀b o,b∉ch->s.heap.get? b=some o->H b=none->H' b=none)
  (there:∀b o,b∉ch->s.heap.get? b=some o->∃o',h'.get? b=some o')
  (tups:∀b xs,H b=some (.tup xs)->H' b=some (.tup xs)) (FJ:∀b o u,H b=some (.frz o u)->H' b=some (.frz o u)) (Gu:∀b ps,H b=some (.tbl ps)->∃more,H' b=some (.tbl (ps++more)))
  (ns:∀m,s.heap.Ns X.env.locals m->h'.Ns X.env.locals m) (hok:HOk X.prog X.w H' h') (hg:AllBare g') :
  Inv X jb Z H' { s with heap:=h',gens:=g',drawn:=d',toks:=t' }:=by
 have neL:∀b o,X.s₀.heap.get? b=some o->b≠X.env.locals:=λb o e=>QbT (QaP (QbS e) I.ok.above);have neC:∀b o,X.s₀.heap.get? b=some o->b∉X.ex->b∉ch:=λb o e hx hb=>by
  rcases (hch b hb).1 with z | z
  ·exact hx z
  ·exact absurd (QaP (QbS e) z) (QbO _)
 have cellK:∀x c,X.env.cells.lookup x=some c->∀v,s.heap.IsCell c v->h'.IsCell c v:=λx c e v ⟨o,ho,hd⟩=>by
  have nch:c∉ch:=λz=>(hch c z).2.2.1 x c e rfl;by_cases hc:c∈X.fs
  ·obtain⟨sl,q⟩:=slot c o (I.cne x c e) hc nch ho (I.Dt x c e);exact⟨_,q,hd⟩
  ·exact⟨o,keep c o (I.cne x c e) hc nch ho (I.Dt x c e),hd⟩
 refine⟨I.ok,I.os,hg,⟨λb o e n hb hx=>?_,λb o e n hb hx=>?_,λb o e n hx=>?_,λb o e hx=>?_,λb xs e=>tups b xs (I.base.tups b xs e),λb o xs e=>FJ b o xs (I.base.FJ b o xs e),λb ps e=>?_⟩,?_,λx c e=>?_,?_,λx c e=>?_,λp hp=>?_,hok,I.len⟩
 ·exact keep b o (neL b o e) hb (neC b o e hx) (I.base.keep b o e n hb hx) (I.base.free b o e n hx)
 ·obtain⟨sl,e1⟩:=I.base.slot b o e n hb hx;obtain⟨sl',e2⟩:=slot b _ (neL b o e) hb (neC b o e hx) e1 (I.base.free b o e n hx);exact⟨sl',e2⟩
 ·obtain⟨o',e1⟩:=I.base.there b o e hx;exact free b o' (neC b o e hx) e1 (I.base.free b o e n hx)
 ·obtain⟨o',e1⟩:=I.base.there b o e hx;exact there b o' (neC b o e hx) e1
 ·obtain⟨m1,e1⟩:=I.base.Gu b ps e;obtain⟨m2,e2⟩:=Gu b _ e1;exact⟨m1++m2,by rw[e2,Array.append_assoc]⟩
 ·obtain⟨m,hn,hl⟩:=I.loc;refine⟨m,ns m hn,λi x v e1 e2 e3=>?_⟩;obtain⟨u,r,l⟩:=hl i x v e1 e2 e3;refine⟨u,r,?_⟩;rcases l with l |⟨k,c,e,z⟩
  ·exact .inl l
  ·exact .inr ⟨k,c,e,cellK x c e _ z⟩
 ·obtain⟨v,z⟩:=I.cell x c e;exact⟨v,cellK x c e v z⟩
 ·obtain⟨m,⟨o,_,_,ho,_⟩,_⟩:=I.loc;exact free _ o (λz=>(hch _ z).2.1 rfl) ho I.free
 ·obtain⟨v,o,ho,hd⟩:=I.cell x c e;exact free c o (λz=>(hch c z).2.2.1 x c e rfl) ho (I.Dt x c e)
 ·obtain⟨e,n,ne,nf,d⟩:=I.pin p hp;have nch:p.1∉ch:=λz=>(hch p.1 z).2.2.2 p hp rfl;exact⟨keep p.1 p.2 ne nf nch e n,free p.1 p.2 nch e n,ne,nf,d⟩
theorem Inv.un {t':Nat} (I:Inv X jb Z H s) (u:Un X.fs [] H H' s.heap h') (hok:HOk X.prog X.w H' h'):Inv X jb Z H' { s with heap:=h',toks:=t' }:=by
 obtain⟨m,⟨o,es,ep,ho,r⟩,_⟩:=id I.loc;obtain⟨sl,hL⟩:=u.any ho I.free (by simp);exact I.step (g':=s.gens) (d':=s.drawn) (ch:=[]) (λ_ z=>nomatch z) (λb o _ hb _ e n=>u.keep b o e n hb (by simp)) (λb o _ hb _ e n=>u.slot b o e n hb (by simp)) (λb o _ e n=>u.free b o e n (by simp)) (λb o _ e=>u.there b o e (by simp)) u.tups u.FJ u.Gu (λm' hm=>by
  obtain⟨o',es',ep',ho',r'⟩:=hm;rw[ho] at ho';cases ho';exact⟨_,es',ep',hL,r'⟩) hok I.bare
theorem Inv.call {g':Array GenState} {t':Nat} {d':Drawn} {ch:List Addr} (I:Inv X jb Z H s) (u:Un (frs X.stack) ch H H' s.heap h') (hok:HOk X.prog X.w H' h') (hg:AllBare g')
  (hch:∀b∈ch,(b∈X.ex\/X.s₀.heap.objs.size<=b)/\b≠X.env.locals/\(∀x c,X.env.cells.lookup x=some c->c≠b)/\∀p∈X.pn++jb,p.1≠b) :
  Inv X jb Z H' { s with heap:=h',gens:=g',drawn:=d',toks:=t' }:=by
 obtain⟨m,⟨o,es,ep,ho,r⟩,_⟩:=id I.loc;obtain⟨sl,hL⟩:=u.any ho I.free λz=>(hch _ z).2.1 rfl;exact I.step (ch:=ch) hch (λb o hL hb hc e n=>u.keep b o e n (λz=>(QbK.mp (I.Nj b z)).elim hL hb) hc) (λb o _ _ hc e n=>u.any e n hc) (λb o hc e n=>u.free b o e n hc) (λb o hc e=>u.there b o e hc) u.tups u.FJ u.Gu (λm' hm=>by
  obtain⟨o',es',ep',ho',r'⟩:=hm;rw[ho] at ho';cases ho';exact⟨_,es',ep',hL,r'⟩) hok hg
theorem Inv.turned {t':Nat} {it:Addr} (I:Inv X jb Z H s) (k:∀b o,b≠it->s.heap.get? b=some o->h'.get? b=some o) (hn:H it=none) (hL:it≠X.env.locals)
  (h1:it∈X.ex\/X.s₀.heap.objs.size<=it) (h2:∀x c,X.env.cells.lookup x=some c->c≠it) (h3:∀p∈X.pn++jb,p.1≠it):Inv X jb Z H { s with heap:=h',toks:=t' }:=by
 have nit:∀b u,H b=some u->b≠it:=λb u e z=>by rw[z,hn] at e;cases e
 refine I.step (g':=s.gens) (d':=s.drawn) (ch:=[it]) (λb hb=>?_) (λb o _ _ hc e _=>k b o (λz=>hc (by simp[z])) e) (λb o _ _ hc e _=>⟨o.slots,k b o (λz=>hc (by simp[z])) e⟩) (λ_ _ _ _ n=>n)
  (λb o hc e=>⟨o,k b o (λz=>hc (by simp[z])) e⟩) (λ_ _ e=>e) (λ_ _ _ e=>e) (λb ps e=>⟨#[],by rw[e];simp⟩) (λm hm=>?_) (λb u e=>?_) I.bare
 ·have e:b=it:=by simpa using hb
  subst e;exact⟨h1,hL,h2,h3⟩
 ·obtain⟨o,es,ep,ho,r⟩:=hm;exact⟨o,es,ep,k _ o (Ne.symm hL) ho,r⟩
 ·refine (I.hok b u e).stay (λc v hc q=>k c v ?_ q) (λ_ q=>q) λ_ _ q=>q;rcases hc with z | z
  ·rw[z];exact nit b u e
  ·exact nit c _ z
theorem Inv.tok (I:Inv X jb Z H s) (t:Nat):Inv X jb Z H { s with toks:=t }:=I.un (h':=s.heap) (t':=t) Un.refl I.hok
theorem Inv.kept {t':Nat} (I:Inv X jb Z H s) (k:∀b u,s.heap.get? b=some u->h'.get? b=some u):Inv X jb Z H { s with heap:=h',toks:=t' }:=I.un (Un.kept k) (I.hok.kept k)
theorem Inv.laid {a:Addr} {o:HO} {t':Nat} (I:Inv X jb Z H s) (k:∀b u,s.heap.get? b=some u->h'.get? b=some u) (hp:s.heap.objs.size<=a) (new:Bo X.prog X.w (upd H a o) h' a o) :
  Inv X jb Z (upd H a o) { s with heap:=h',toks:=t' }:=I.un (Un.laid k hp (I.hok.fresh hp)) (I.hok.laid k hp new)
theorem Inv.write {x e:Addr} {o:HO} {t':Nat} (I:Inv X jb Z H s) (mu:Mut (H x)) (he:e=x\/H e=some (.own x)) (k:∀b u,b≠e->s.heap.get? b=some u->h'.get? b=some u) (heo:∃u,h'.get? e=some u)
  (new:Bo X.prog X.w (upd H x o) h' x o):Inv X jb Z (upd H x o) { s with heap:=h',toks:=t' }:=I.un (Un.write mu he k heo) (I.hok.write mu he k heo new)
theorem Inv.O9 {Fp:YC} (I:Inv X jb Z H s) (h:∀p∈Fp,s.heap.get? p.1=some p.2/\H p.1=none/\p.1≠X.env.locals/\p.1∉X.fs/\∀v,p.2.data≠.cell v):Inv X Fp Z H s:=
 ⟨I.ok,I.os,I.bare,I.base,I.loc,I.cell,I.free,I.Dt,λp hp=>(Qbu.mp hp).elim (λz=>I.pin p (QaB _ z)) (h p),I.hok,I.len⟩
theorem M4 {N:YF} (hN:N.Nodup) {i j:Nat} {x:Str} (a:N[i]?=some x) (b:N[j]?=some x):i=j:=by
 obtain⟨h1,e1⟩:=Qah.mp a;obtain⟨h2,e2⟩:=Qah.mp b;exact (List.getElem_inj hN).mp (e1.trans e2.symm)
theorem Xi {M:Model} {A:Around} {E:YA} {i:Nat} {x:Str} {v:V} {u:Value} {Q:YH} (I:Inv X jb Z H s) (hN:X.N.Nodup) (hi:X.N[i]?=some x) (hx:Loc X.env.scope x) (r:RelV v u)
  (h:∀s',Inv X jb (Z.set i (some v)) H s'->(∃a,Heap.SameBut a s.heap s'.heap/\(a=X.env.locals\/X.env.cells.lookup x=some a))->Q () s') (hf:X.fn x=true\/X.env.scope.names.lookup x=some .local:=by first | exact .inl rfl | exact .inr rfl | assumption):wpAny M A (storeName X.env x u) Q E s:=by
 obtain⟨m,hn,hl⟩:=id I.loc;have hcls:(X.env.scope.kind == .class || (X.env.scope.kind == .module&&X.env.locals != X.env.globals))=false:=by rw[I.ok.kind];rfl
 have hiσ : i < Z.length:=by rw[I.len];exact (Qah.mp hi).1
 have cne:=I.cne;have tracked:∀{a:Addr} {h':Heap},(∃o,s.heap.get? a=some o/\H a=none)->Heap.SameBut a s.heap h'->HOk X.prog X.w H h':=λ{a h'} ha hs b ob e=>by
  obtain⟨_,_,hfree⟩:=ha;refine (I.hok b ob e).stay (λc w' hc q=>(hs.2 c ?_).trans q) (λ_ q=>q) λ_ _ q=>q;rintro rfl;rcases hc with rfl | hc
  ·rw[hfree] at e;cases e
  ·rw[hfree] at hc;cases hc
 rcases hx with hk | hk
 ·refine wpAny_storeName_local hk hn (λh' hn' hs=>?_) hcls;obtain⟨oL,_,_,hoL,_⟩:=id hn;refine h _ ⟨I.ok,I.os,I.bare,⟨λb o e n hb hx=>?_,λb o e n hb hx=>?_,I.base.free,λb o e hx=>?_,I.base.tups,I.base.FJ,I.base.Gu⟩,⟨_,hn',λj y v' e1 e2 e3=>?_⟩,λy c e=>?_,I.free,I.Dt,λp hp=>?_,tracked ⟨oL,hoL,I.free⟩ hs,by simpa using I.len⟩ ⟨_,hs,.inl rfl⟩
  ·exact (hs.2 b (QbT (QaP (QbS e) I.ok.above))).trans (I.base.keep b o e n hb hx)
  ·obtain⟨sl,e1⟩:=I.base.slot b o e n hb hx;exact⟨sl,(hs.2 b (QbT (QaP (QbS e) I.ok.above))).trans e1⟩
  ·obtain⟨o',e1⟩:=I.base.there b o e hx;exact⟨o',(hs.2 b (QbT (QaP (QbS e) I.ok.above))).trans e1⟩
  ·by_cases hj:j=i
   ·subst hj;rw[hi] at e1;cases e1;rw[Qas hiσ] at e2;cases e2;exact⟨u,r,.inl ⟨hk,by simp⟩⟩
   ·rw[QaC (Ne.symm hj)] at e2;obtain⟨u',r',q⟩:=hl j y v' e1 e2 e3;refine⟨u',r',?_⟩;rcases q with⟨k,e⟩|⟨k,c,e,z⟩
    ·refine .inl ⟨k,?_⟩;have:y≠x:=λe=>hj (M4 hN e1 (e ▸ hi));simp[this,e]
    ·exact .inr ⟨k,c,e,z.sameBut hs (cne y c e)⟩
  ·obtain⟨w',z⟩:=I.cell y c e;exact⟨w',z.sameBut hs (cne y c e)⟩
  ·obtain⟨e,n,ne,nf,d⟩:=I.pin p hp;exact⟨(hs.2 p.1 ne).trans e,n,ne,nf,d⟩
 ·have hfn:X.fn x=true:=by
   rcases hf with z | z
   ·exact z
   ·rw[z] at hk;cases hk
  obtain⟨c,hc⟩:=I.ok.has x (.inl hk);obtain⟨w',z⟩:=I.cell x c hc;refine wpAny_storeName_cell I.ok.kind hk hc z (λh' hc' hs=>?_);obtain⟨oc,hoc,vo⟩:=id z;refine h { s with heap:=h' } ⟨I.ok,I.os,I.bare,⟨λb o e n hb hx=>?_,λb o e n hb hx=>?_,I.base.free,λb o e hx=>?_,I.base.tups,I.base.FJ,I.base.Gu⟩,⟨m,hn.sameBut hs (Ne.symm (cne x c hc)),λj y v' e1 e2 e3=>?_⟩,λy c' e=>?_,I.free,I.Dt,λp hp=>?_,tracked ⟨oc,hoc,I.Dt x c hc⟩ hs,by simpa using I.len⟩ ⟨c,hs,.inr hc⟩
  ·exact (hs.2 b (QbT (QaP (QbS e) (I.ok.cab x c hfn hc)))).trans (I.base.keep b o e n hb hx)
  ·obtain⟨sl,e1⟩:=I.base.slot b o e n hb hx;exact⟨sl,(hs.2 b (QbT (QaP (QbS e) (I.ok.cab x c hfn hc)))).trans e1⟩
  ·obtain⟨o',e1⟩:=I.base.there b o e hx;exact⟨o',(hs.2 b (QbT (QaP (QbS e) (I.ok.cab x c hfn hc)))).trans e1⟩
  ·by_cases hj:j=i
   ·subst hj;rw[hi] at e1;cases e1;rw[Qas hiσ] at e2;cases e2;exact⟨u,r,.inr ⟨.inl hk,c,hc,hc'⟩⟩
   ·rw[QaC (Ne.symm hj)] at e2;obtain⟨u',r',q⟩:=hl j y v' e1 e2 e3;refine⟨u',r',?_⟩;rcases q with q |⟨k,c',e,z'⟩
    ·exact .inl q
    ·refine .inr ⟨k,c',e,z'.sameBut hs ?_⟩;rintro rfl;exact hj (M4 hN e1 (I.ok.inj _ _ _ e hc ▸ hi))
  ·by_cases hcc:c'=c
   ·subst hcc;exact⟨_,hc'⟩
   ·obtain⟨w2,z2⟩:=I.cell y c' e;exact⟨w2,z2.sameBut hs hcc⟩
  ·obtain⟨e,n,ne,nf,d⟩:=I.pin p hp;refine⟨(hs.2 p.1 ?_).trans e,n,ne,nf,d⟩;intro q;rw[q,hoc] at e;have q':oc=p.2:=Qbx e;exact d w' (by rw[<-q'];exact vo)
theorem JW {M:Model} {A:Around} {E:YA} {i:Nat} {x:Str} {v:V} {u:Value} {Q:YH} (I:Inv X jb Z H s) (hN:X.N.Nodup) (hi:X.N[i]?=some x) (hx:Loc X.env.scope x) (r:RelV v u)
  (h:∀s',Inv X jb (Z.set i (some v)) H s'->Q () s') (hf:X.fn x=true\/X.env.scope.names.lookup x=some .local:=by first | exact .inl rfl | exact .inr rfl | assumption):wpAny M A (storeName X.env x u) Q E s:=
 Xi I hN hi hx r (λs' I' _=>h s' I') hf
theorem Inv.call' {s':Shared} {ch:List Addr} (I:Inv X jb Z H s) (ho:s'.os=s.os) (u:Un (frs X.stack) ch H H' s.heap s'.heap) (hok:HOk X.prog X.w H' s'.heap) (hg:AllBare s'.gens)
  (hch:∀b∈ch,(b∈X.ex\/X.s₀.heap.objs.size<=b)/\b≠X.env.locals/\(∀x c,X.env.cells.lookup x=some c->c≠b)/\∀p∈X.pn++jb,p.1≠b):Inv X jb Z H' s':=by
 obtain⟨h',g',d',t',o'⟩:=s';have e:o'=s.os:=ho;subst e;exact I.call (g':=g') (t':=t') (d':=d') u hok hg hch
end
abbrev XK:=Value->Option Addr->Hp->Prop
abbrev St:=List (Option V)
abbrev VK:=V->Hp->Prop
abbrev TE:=St->Hp->VK->Prop
abbrev TT:=St->Hp->(Bool->Hp->Prop)->Prop
abbrev TA:=St->Hp->(YG->Hp->Prop)->Prop
structure Ends where
 nx:St->Hp->Prop
 rt:VK
 bk:St->Hp->Prop:=λ_ _=>False
 ct:St->Hp->Prop:=λ_ _=>False
abbrev YO:=St->Hp->Prop
abbrev TS:=Ends->YO
def EP (X:Cx) (jb:YC) (Z : St) (Q:VK) (u:Value) (s':Shared):Prop:=∃v H',Inv X jb Z H' s'/\RelV v u/\Q v H'
def TP (X:Cx) (jb:YC) (Z : St) (Q:Bool->Hp->Prop) (b:Bool) (s':Shared):Prop:=∃H',Inv X jb Z H' s'/\Q b H'
def AP (X:Cx) (jb:YC) (Z : St) (Q:YG->Hp->Prop) (us:YE) (s':Shared):Prop:=∃vs H',Inv X jb Z H' s'/\Vals vs us/\Q vs H'
def SP (X:Cx) (jb:YC) (D:Ends) (f:Flow) (s':Shared):Prop:=
 match f with
 | .next=>∃ σ' H',Inv X jb σ' H' s'/\D.nx σ' H'
 | .brk=>∃ σ' H',Inv X jb σ' H' s'/\D.bk σ' H'
 | .cont=>∃ σ' H',Inv X jb σ' H' s'/\D.ct σ' H'
 | .ret u=>∃v σ' H',Inv X jb σ' H' s'/\RelV v u/\D.rt v H'
def PE (X:Cx) (e:Expr) (t:TE):Prop:=
 ∀(jb:YC) (s:Shared) (Z : St) (H:Hp) (Q:VK),Inv X jb Z H s->t Z H Q->wpAny (model X.prog X.w) X.A (eval e X.env) (EP X jb Z Q) X.xe s
def PT (X:Cx) (e:Expr) (t:TT):Prop:=
 ∀(jb:YC) (s:Shared) (Z : St) (H:Hp) (Q:Bool->Hp->Prop),Inv X jb Z H s->t Z H Q->wpAny (model X.prog X.w) X.A (isTrue e X.env (eval e X.env)) (TP X jb Z Q) X.xe s
def PW (X:Cx) (e:Expr) (t:TT):Prop:=
 ∀(whole:Sem Value) (jb:YC) (s:Shared) (Z : St) (H:Hp) (Q:Bool->Hp->Prop),Inv X jb Z H s->t Z H Q->wpAny (model X.prog X.w) X.A (isTrue e X.env whole) (TP X jb Z Q) X.xe s
theorem PW.pt {X:Cx} {e:Expr} {t:TT} (h:PW X e t):PT X e t:=h _
def PA (X:Cx) (es:YJ) (t:TA):Prop:=
 ∀(pos:Pos) (jb:YC) (s:Shared) (Z : St) (H:Hp) (Q:YG->Hp->Prop),Inv X jb Z H s->t Z H Q->wpAny (model X.prog X.w) X.A (spliced (backTo pos (starEach es X.env))) (AP X jb Z Q) X.xe s
def PS (X:Cx) (st:Stmt) (t:TS):Prop:=
 ∀(jb:YC) (s:Shared) (Z : St) (H:Hp) (D:Ends),Inv X jb Z H s->t D Z H->wpAny (model X.prog X.w) X.A (exec st X.env) (SP X jb D) X.xe s
def PSs (X:Cx) (st:List Stmt) (t:TS):Prop:=
 ∀(jb:YC) (s:Shared) (Z : St) (H:Hp) (D:Ends),Inv X jb Z H s->t D Z H->wpAny (model X.prog X.w) X.A (execs st X.env) (SP X jb D) X.xe s
theorem thn {α : Type} {t:Sem α} {Q Q':α->Shared->Prop} {M:Model} {A:Around} {E:YA} {s:Shared} (h:wpAny M A t Q E s) (hQ:∀a s,Q a s->Q' a s):wpAny M A t Q' E s:=Qcd h hQ λ_ _ x=>x
section
variable {X:Cx}
theorem bin {a b:Expr} {ta tb:TE} (ha:PE X a ta) (hb:PE X b tb) {jb:YC} {s:Shared} {Z : St} {H:Hp} {R:V->V->Hp->Prop} (I:Inv X jb Z H s) (h:ta Z H λx H1=>tb Z H1 λy H2=>R x y H2)
  {α : Type} {Q:α->Shared->Prop} {f:Value->Value->Sem α}
  (hf:∀v u s2 x y H2,Inv X jb Z H2 s2->RelV x v->RelV y u->R x y H2->wpAny (model X.prog X.w) X.A (f v u) Q X.xe s2) :
  wpAny (model X.prog X.w) X.A (eval a X.env) (λv s₁=>wpAny (model X.prog X.w) X.A (eval b X.env) (λu s₂=>wpAny (model X.prog X.w) X.A (f v u) Q X.xe s₂) X.xe s₁) X.xe s:=by
 refine thn (ha jb s Z H _ I h) λv s1 zz=>?_;obtain⟨x,H1,I1,r1,q1⟩:=zz;refine thn (hb jb s1 Z H1 _ I1 q1) λu s2 zz=>?_;obtain⟨y,H2,I2,r2,q2⟩:=zz;exact hf v u s2 x y H2 I2 r1 r2 q2
def Ox (i:Nat):TE:=fun Z H Q=>∃v,Z[i]?=some (some v)/\Q v H
def tC (v:V):TE:=λ_ H Q=>Q v H
theorem jD {i:Nat} {x:Str} {pos:Pos} (hN:X.N[i]?=some x) (hv:Vis X.env.scope x) (hd:(x == ("__debug__":Str))=false:=by decide) (hcd:(x == ("__classdict__":Str))=false:=by decide):PE X (.Name x pos) (Ox i):=by
 intro jb s Z H Q I h;obtain⟨v,e,h⟩:=h;obtain⟨m,hn,hl⟩:=I.loc;obtain⟨u,r,l⟩:=hl i x v hN e hv;have fin:EP X jb Z Q u s:=⟨v,H,I,r,h⟩;rcases l with⟨hk,hm⟩|⟨hk,c,hc,hcell⟩
 ·exact wpAny_Name (wpAny_loadName_local I.ok.kind hk hn hm fin) hd
 ·rcases hk with hk | hk
  ·exact wpAny_Name (wpAny_loadName_cell I.ok.kind hk hc hcell fin) hd
  ·exact wpAny_Name (wpAny_loadName_free I.ok.kind hk hc hcell fin hcd) hd
theorem Ag {i j pos}:PE X (.Constant (.int i) j pos) (tC (.int i)):=λ_ _ _ H _ I h=>wpAny_Constant_int ⟨.int i,H,I.tok _,⟨_,rfl⟩,h⟩
theorem Cj {b j pos}:PE X (.Constant (.bool b) j pos) (tC (.bl b)):=λ_ _ _ H _ I h=>Constant_bool ⟨.bl b,H,I,rfl,h⟩
theorem K6 {j pos}:PE X (.Constant .none j pos) (tC .non):=λ_ _ _ H _ I h=>Constant_none ⟨.non,H,I,rfl,h⟩
theorem Bs {x j pos}:PE X (.Constant (.str x) j pos) (tC (.str x)):=λ_ _ _ H _ I h=>Calls.Constant_str ⟨.str x,H,I.tok _,⟨_,rfl⟩,h⟩
def Gl (X:Cx) (x:Str):Prop:=X.env.kindOf x=some .globalImplicit
theorem Hj {E:YA} {jb:YC} {s:Shared} {Z : St} {H:Hp} {x:Str} {u:Value} {pos:Pos} {Q:YA} (I:Inv X jb Z H s) (hg:Gl X x) (hm:X.mg x=some u) (h:Q u s)
  (hd:(x == ("__debug__":Str))=false:=by decide):wpAny (model X.prog X.w) X.A (eval (.Name x pos) X.env) Q E s:=
 Calls.Name_function_global I.ok.kind hg (Calls.loadGlobal_global (by rw[I.ok.glob];exact I.mod.glob.keeps I.bk) hm h) hd
theorem Gm {E:YA} {jb:YC} {s:Shared} {Z : St} {H:Hp} {x:Str} {u:Value} {pos:Pos} {Q:YA} (I:Inv X jb Z H s) (hg:Gl X x) (hm:X.mg x=none) (hv:bootBuiltins x=some u) (h:Q u s)
  (hn:x≠"__name__":=by decide) (hd:(x == ("__debug__":Str))=false:=by decide):wpAny (model X.prog X.w) X.A (eval (.Name x pos) X.env) Q E s:=by
 obtain⟨mb,h1,h2⟩:=I.mod.blt;exact Calls.Name_function_global I.ok.kind hg (Calls.loadGlobal_builtin (by rw[I.ok.glob];exact I.mod.glob.keeps I.bk) hm (by rw[I.ok.blt];exact h1.keeps I.bk) ((h2 x hn).trans hv) h) hd
theorem CP {x:Str} {v:V} {u:Value} {pos:Pos} (hg:Gl X x) (hm:X.mg x=some u) (r:RelV v u) (hd:(x == ("__debug__":Str))=false:=by decide):PE X (.Name x pos) (tC v):=
 λ_ _ _ H _ I h=>Hj I hg hm ⟨v,H,I,r,h⟩ hd
theorem FW {x:Str} {v:V} {u:Value} {pos:Pos} (hg:Gl X x) (hm:X.mg x=none) (hv:bootBuiltins x=some u) (r:RelV v u) (hn:x≠"__name__":=by decide) (hd:(x == ("__debug__":Str))=false:=by decide):PE X (.Name x pos) (tC v):=
 λ_ _ _ H _ I h=>Gm I hg hm hv ⟨v,H,I,r,h⟩ hn hd
variable {a b:Expr} {ta tb:TE} {pos:Pos}
def PC (X:Cx) (op:CmpOp) (a b:Expr) (t:TE):Prop:=
 ∀(jb:YC) (s:Shared) (Z : St) (H:Hp) (Q:VK),Inv X jb Z H s->t Z H Q ->
  wpAny (model X.prog X.w) X.A (eval a X.env) (λv s₁=>wpAny (model X.prog X.w) X.A (eval b X.env) (λu s₂=>wpAny (model X.prog X.w) X.A (compareOp op v u) (EP X jb Z Q) X.xe s₂) X.xe s₁) X.xe s
theorem Z0 (b:Expr) {op:CmpOp} (h:op≠.In) (h2:op≠.NotIn):behindInMarks op b=false:=by
 have e1:(op == CmpOp.In)=false:=by cases op <;> first | rfl | exact absurd rfl h
 have e2:(op == CmpOp.NotIn)=false:=by cases op <;> first | rfl | exact absurd rfl h2
 cases b <;> simp[behindInMarks,e1,e2]
def tB (t:TE):TT:=fun Z H Q=>t Z H λx H1=>∃c,x=.bl c/\Q c H1
theorem yD {op:CmpOp} {t:TE} (h:PC X op a b t) (h1:behindInMarks op b=false:=by first | exact Z0 _ (by decide) (by decide) | rfl):PT X (.Compare a [op] [b] pos) (tB t):=by
 intro jb s Z H Q I hw;refine wpAny_isTrue_Compare1 (thn (h jb s Z H _ I hw) λv s1 h1=>thn h1 λu s2 h2=>thn h2 λc s3 zz=>?_) h1;obtain⟨x,H1,I1,r1,q1⟩:=zz;obtain⟨d,rfl,q⟩:=q1;cases r1;exact Qbc ⟨H1,I1,q⟩
theorem CV {e:Expr} {t:TE} (h:PE X e t) (he:∀whole,isTrue e X.env whole=(do let v <-whole;standAt e.pos;holding [v] (truthy v)):=by intro _;rfl):PT X e (tB t):=by
 intro jb s Z H Q I hw;refine isTrue_plain (thn (h jb s Z H _ I hw) λv s1 zz=>?_) (he _);obtain⟨x,H1,I1,r1,q1⟩:=zz;obtain⟨d,rfl,q⟩:=q1;cases r1;exact Qbc ⟨H1,I1,q⟩
variable {tA tB':TT} {rest:YJ}
def pG (t u:TT):TT:=fun Z H Q=>t Z H λc H1=>if c=true then u Z H1 Q else Q false H1
def tOr (t u:TT):TT:=fun Z H Q=>t Z H λc H1=>if c=true then Q true H1 else u Z H1 Q
def pC (t:TT):TT:=fun Z H Q=>t Z H λc H1=>Q (!c) H1
theorem O6 (ha:PT X a tA):PW X (.BoolOp .And [a] pos) tA:=by
 intro wh jb s Z H Q I h;refine isTrue_and (thn (ha jb s Z H Q I h) λc s1 e=>?_);cases c with
 | true=>exact isTrue_and_nil e
 | false=>exact e
theorem K1 (ha:PT X a tA):PW X (.BoolOp .Or [a] pos) tA:=by
 intro wh jb s Z H Q I h;refine isTrue_or (thn (ha jb s Z H Q I h) λc s1 e=>?_);cases c with
 | false=>exact isTrue_or_nil e
 | true=>exact e
theorem Q7 (ha:PT X a tA) (hb:PW X (.BoolOp .And (b::rest) pos) tB'):PW X (.BoolOp .And (a::b::rest) pos) (pG tA tB'):=by
 intro wh jb s Z H Q I h;refine isTrue_and (thn (ha jb s Z H _ I h) λc s1 zz=>?_);obtain⟨H1,I1,q1⟩:=zz;cases c with
 | true=>exact hb wh jb s1 Z H1 Q I1 q1
 | false=>exact⟨H1,I1,q1⟩
theorem Ly (ha:PT X a tA) (hb:PW X (.BoolOp .Or (b::rest) pos) tB'):PW X (.BoolOp .Or (a::b::rest) pos) (tOr tA tB'):=by
 intro wh jb s Z H Q I h;refine isTrue_or (thn (ha jb s Z H _ I h) λc s1 zz=>?_);obtain⟨H1,I1,q1⟩:=zz;cases c with
 | true=>exact⟨H1,I1,q1⟩
 | false=>exact hb wh jb s1 Z H1 Q I1 q1
theorem CZ (ha:PT X a tA):PT X (.UnaryOp .Not a pos) (pC tA):=by
 intro jb s Z H Q I h;exact isTrue_not (ha jb s Z H (λc H1=>Q (!c) H1) I h)
def nF (ta tb:TE):TE:=fun Z H Q=>ta Z H λx H1=>∃c,x=.bl c/\if c=true then tb Z H1 Q else Q (.bl false) H1
def nq (ta:TE):TE:=fun Z H Q=>ta Z H λx H1=>∃c,x=.bl c/\Q (.bl (!c)) H1
theorem K5 {op} {t:TE} (h:PE X a t):PE X (.BoolOp op [a] pos) t:=λjb s Z H Q I hw=>BoolOp_one (h jb s Z H Q I hw)
theorem JD (ha:PE X a ta) (hb:PE X (.BoolOp .And (b::rest) pos) tb):PE X (.BoolOp .And (a::b::rest) pos) (nF ta tb):=by
 intro jb s Z H Q I h;refine BoolOp_and (thn (ha jb s Z H _ I h) λv s1 zz=>?_);obtain⟨x,H1,I1,r1,q1⟩:=zz;obtain⟨c,rfl,q1⟩:=q1;cases r1;refine Qbc ?_;cases c with
 | true=>exact hb jb s1 Z H1 Q I1 q1
 | false=>exact⟨.bl false,H1,I1,rfl,q1⟩
theorem Xu (ha:PE X a ta):PE X (.UnaryOp .Not a pos) (nq ta):=by
 intro jb s Z H Q I h;refine UnaryOp_ (thn (ha jb s Z H _ I h) λv s1 zz=>?_);obtain⟨x,H1,I1,r1,q1⟩:=zz;obtain⟨c,rfl,q1⟩:=q1;cases r1;exact not_of (Qbc ⟨.bl (!c),H1,I1,rq,q1⟩)
end
def SqL (K:YD) (H:Hp) (a:Addr) (xs:YG):Prop:=
 Rd H a (.lst xs) \/
  ∃(o:Obj) (its:Array Value) (n:Nat),K.lookup a=some o/\o.cls=.type "list"/\o.dict=none/\o.data=.seq its n/\its.size<=sizeLine/\Vals xs its.toList
def SqT (K:YD) (H:Hp) (a:Addr) (xs:YG):Prop:=
 Rd H a (.tup xs) \/
  ∃(o:Obj) (its:Array Value) (n:Nat),K.lookup a=some o/\o.cls=.type "tuple"/\o.data=.seq its n/\its.size<=sizeLine/\Vals xs its.toList
def yp:Value->Option V
 | .none=>some .non
 | .bool b=>some (.bl b)
 | .int i _=>some (.int i)
 | .str x _=>some (.str x)
 | .bytes b _=>some (.byt b)
 | .float b _=>some (.flt b)
 | .ref a=>some (.ref a)
 | .type n=>some (.ty n)
 | _=>none
theorem RelV.abs {x:V} {u:Value} (r:RelV x u):yp u=some x:=by
 cases x with
 | non=>cases r;rfl
 | bl _=>cases r;rfl
 | int _=>obtain⟨t,rfl⟩:=r;rfl
 | str _=>obtain⟨t,rfl⟩:=r;rfl
 | byt _=>obtain⟨t,rfl⟩:=r;rfl
 | flt _=>obtain⟨t,rfl⟩:=r;rfl
 | ref _=>cases r;rfl
 | ty _=>cases r;rfl
theorem RelV.inj {x y:V} {u:Value} (r:RelV x u) (q:RelV y u):x=y:=Qbx (r.abs.symm.trans q.abs)
theorem Vals.inj:∀{xs ys:YG} {us:YE},Vals xs us->Vals ys us->xs=ys
 | _,_,_,.nil,.nil=>rfl
 | _,_,_,.cons r t,.cons r' t'=>by rw[r.inj r',Vals.inj t t']
section
variable {X:Cx} {jb:YC} {Z : St} {H:Hp} {s:Shared} {a:Addr} {xs ys:YG}
theorem SqL.of {K:YD} (h:H a=some (.lst xs)):SqL K H a xs:=.inl (.inl h)
theorem SqT.of {K:YD} (h:H a=some (.tup xs)):SqT K H a xs:=.inl (.inl h)
theorem Inv.list (I:Inv X jb Z H s) (h:SqL X.K H a xs):∃its:YE,Vals xs its/\PlainL s.heap a its.toArray/\xs.length<=sizeLine:=by
 rcases h with h |⟨o,its,n,hk,hc,hd,hs,hz,r⟩
 ·obtain⟨z,its,n,r,e⟩:=h.ok I.hok;exact⟨its,r,⟨_,n,e,rq,rq,rq⟩,z⟩
 ·refine⟨its.toList,r,⟨o,n,I.kIn a o hk,hc,hd,by simpa using hs⟩,?_⟩;have e:=r.length;simp only[QaG] at e;omega
theorem Inv.tuple (I:Inv X jb Z H s) (h:SqT X.K H a xs):∃its:YE,Vals xs its/\IsTup s.heap a its.toArray/\xs.length<=sizeLine:=by
 rcases h with h |⟨o,its,n,hk,hc,hs,hz,r⟩
 ·obtain⟨z,its,r,p⟩:=h.ok I.hok;exact⟨its,r,p,z⟩
 ·refine⟨its.toList,r,⟨o,I.kIn a o hk,hc,n,by simpa using hs⟩,?_⟩;have e:=r.length;simp only[QaG] at e;omega
theorem Inv.Ry (I:Inv X jb Z H s) (h:SqL X.K H a xs) (h':SqL X.K H a ys):xs=ys:=by
 obtain⟨its,r,⟨o,n,e,_,_,d⟩,_⟩:=I.list h;obtain⟨its',r',⟨o',n',e',_,_,d'⟩,_⟩:=I.list h';rw[e] at e';cases e';rw[d] at d';injection d' with d1 _;have:its=its':=by simpa using congrArg Array.toList d1
 subst this;exact r.inj r'
theorem Inv.Xe (I:Inv X jb Z H s) (h:SqT X.K H a xs) (h':SqT X.K H a ys):xs=ys:=by
 obtain⟨its,r,⟨o,e,_,n,d⟩,_⟩:=I.tuple h;obtain⟨its',r',⟨o',e',_,n',d'⟩,_⟩:=I.tuple h';rw[e] at e';cases e';rw[d] at d';injection d' with d1 _;have:its=its':=by simpa using congrArg Array.toList d1
 subst this;exact r.inj r'
end
abbrev Cx.wish (X:Cx) (E:YA):Cx:={ X with xe:=E }
abbrev Cx.nox (X:Cx):Cx:=X.wish λ_ _=>False
theorem Cx.Ok.wish {X:Cx} (ok:X.Ok) (E:YA):(X.wish E).Ok:=
 ⟨ok.mod,ok.kind,ok.glob,ok.blt,ok.above,ok.inj,ok.has,ok.cab,ok.hd,ok.frames,ok.stk,ok.exf,ok.bs,ok.bsz,ok.Jj,ok.Ig,ok.DY,ok.frf⟩
theorem Cx.Ok.Hu {X:Cx} {E:YA} (ok:(X.wish E).Ok):X.Ok:=
 ⟨ok.mod,ok.kind,ok.glob,ok.blt,ok.above,ok.inj,ok.has,ok.cab,ok.hd,ok.frames,ok.stk,ok.exf,ok.bs,ok.bsz,ok.Jj,ok.Ig,ok.DY,ok.frf⟩
section
variable {X:Cx} {jb:YC} {Z : St} {H:Hp} {s:Shared} {E:YA}
theorem Inv.wish (I:Inv X jb Z H s) (E:YA):Inv (X.wish E) jb Z H s:=⟨I.ok.wish E,I.os,I.bare,I.base,I.loc,I.cell,I.free,I.Dt,I.pin,I.hok,I.len⟩
theorem Inv.Hu (I:Inv (X.wish E) jb Z H s):Inv X jb Z H s:=⟨I.ok.Hu,I.os,I.bare,I.base,I.loc,I.cell,I.free,I.Dt,I.pin,I.hok,I.len⟩
theorem SP.Hu {D:Ends} {f:Flow} {s':Shared} (h:SP (X.wish E) jb D f s'):SP X jb D f s':=by
 cases f with
 | next=>obtain⟨σ',H',I,q⟩:=h;exact⟨σ',H',I.Hu,q⟩
 | brk=>obtain⟨σ',H',I,q⟩:=h;exact⟨σ',H',I.Hu,q⟩
 | cont=>obtain⟨σ',H',I,q⟩:=h;exact⟨σ',H',I.Hu,q⟩
 | ret u=>obtain⟨v,σ',H',I,r,q⟩:=h;exact⟨v,σ',H',I.Hu,r,q⟩
theorem PSs.nox {st:List Stmt} {t:TS} (h:PSs X.nox st t):PSs X st t:=λjb s Z H D I hw=>
 Qcd (h jb s Z H D (I.wish _) hw) (λ_ _ q=>q.Hu) λ_ _ z=>False.elim z
end
section
variable {X:Cx} {st:Stmt} {rest:List Stmt} {t u:TS} {e:Expr} {te:TE} {pos:Pos}
def nu:TS:=λD Z H=>D.nx Z H
def Aj (t u:TS):TS:=λD Z H=>t { D with nx:=u D } Z H
theorem Bv:PSs X [] nu:=λ_ _ Z H _ I h=>wpAny_execs_nil ⟨Z,H,I,h⟩
theorem Ad (h1:PS X st t) (h2:PSs X rest u):PSs X (st::rest) (Aj t u):=by
 intro jb s Z H D I h;refine wpAny_execs_cons (thn (h1 jb s Z H { D with nx:=u D } I h) λf s1 q=>?_);cases f with
 | next=>
  obtain⟨σ',H',I',q⟩:=q;exact h2 jb s1 σ' H' D I' q
 | ret v=>exact q
 | brk=>exact q
 | cont=>exact q
theorem Ai (h1:PS X st t):PSs X [st] t:=by
 intro jb s Z H D I h;refine wpAny_execs_cons (thn (h1 jb s Z H D I h) λf s1 q=>?_);cases f with
 | next=>exact wpAny_execs_nil q
 | ret v=>exact q
 | brk=>exact q
 | cont=>exact q
theorem Inv.quiet {jb:YC} {Z : St} {H:Hp} {s:Shared} (I:Inv X jb Z H s):interactive X.env=false:=by simp[interactive,I.ok.kind]
def nC (te:TE):TS:=λD Z H=>te Z H λ_ H1=>D.nx Z H1
theorem Cm (he:PE X e te) (hs:swapsWith e none pos.line X.env=pure false:=by rfl):PS X (.Expr e pos) (nC te):=by
 intro jb s Z H D I h;refine wpAny_Expr_any (thn (he jb s Z H _ I h) λv s1 zz=>?_) I.quiet hs;obtain⟨x,H1,I1,r1,q1⟩:=zz;exact⟨Z,H1,I1,q1⟩
def pB (te:TE):TS:=λD Z H=>te Z H D.rt
theorem Bc (he:PE X e te):PS X (.Return (some e) pos) (pB te):=by
 intro jb s Z H D I h;refine wpAny_Return_some (thn (he jb s Z H _ I h) λv s1 zz=>?_);obtain⟨x,H1,I1,r1,q1⟩:=zz;exact⟨x,Z,H1,I1,r1,q1⟩
def Ib (c:TT) (t u:TS):TS:=λD Z H=>c Z H λb H1=>if b=true then t D Z H1 else u D Z H1
theorem Ca {c:Expr} {a b:List Stmt} {tc:TT} (hc:PT X c tc) (ha:PSs X a t) (hb:PSs X b u):PS X (.If c a b pos) (Ib tc t u):=by
 intro jb s Z H D I h;refine wpAny_If (thn (hc jb s Z H _ I h) λd s1 zz=>?_);obtain⟨H1,I1,q1⟩:=zz;cases d with
 | true=>exact ha jb s1 Z H1 D I1 q1
 | false=>exact hb jb s1 Z H1 D I1 q1
def jf:TS:=λ_ _ _=>False
theorem ZC:PS X st jf:=λ_ _ _ _ _ _ h=>h.elim
end
abbrev TG:=V->St->Hp->(YO)->Prop
abbrev TGs:=YG->St->Hp->(YO)->Prop
def PG (X:Cx) (target:Expr) (t:TG):Prop:=
 ∀(jb:YC) (s:Shared) (Z : St) (H:Hp) (v:V) (u:Value) (Q:YO),Inv X jb Z H s->RelV v u->t v Z H Q ->
  wpAny (model X.prog X.w) X.A (assign target X.env u) (λ_ s'=>∃ σ' H',Inv X jb σ' H' s'/\Q σ' H') X.xe s
def PGs (X:Cx) (ts:YJ) (t:TGs):Prop:=
 ∀(jb:YC) (s:Shared) (Z : St) (H:Hp) (vs:YG) (us:YE) (Q:YO),Inv X jb Z H s->Vals vs us->t vs Z H Q ->
  wpAny (model X.prog X.w) X.A (assignInOrder ((assignEach ts X.env).map (·.2)) us) (λ_ s'=>∃ σ' H',Inv X jb σ' H' s'/\Q σ' H') X.xe s
abbrev dF:=V->V->V->Hp->(Hp->Prop)->Prop
def mV (X:Cx) (t:dF):Prop:=
 ∀(jb:YC) (s:Shared) (Z : St) (H:Hp) (o i v:V) (ov iv u:Value) (Q:Hp->Prop),Inv X jb Z H s->RelV o ov->RelV i iv->RelV v u->t o i v H Q ->
  wpAny (model X.prog X.w) X.A (setItem ov iv u) (λ_ s'=>∃H',Inv X jb Z H' s'/\Q H') X.xe s
section
variable {X:Cx} {pos:Pos}
def Iu (i:Nat):TG:=λv Z H Q=>Q (Z.set i (some v)) H
theorem Ay {i:Nat} {x:Str} (hN:X.N.Nodup) (hi:X.N[i]?=some x) (hx:Loc X.env.scope x) (hf:X.fn x=true\/X.env.scope.names.lookup x=some .local:=by first | exact .inl rfl | exact .inr rfl | assumption):PG X (.Name x pos) (Iu i):=by
 intro jb s Z H v u Q I r h;exact wpAny_assign_Name (JW I hN hi hx r (λs' I'=>⟨_,H,I',h⟩) hf)
def vI:TGs:=λvs Z H Q=>vs=[]/\Q Z H
def oM (t:TG) (u:TGs):TGs:=λvs Z H Q=>∃v r,vs=v::r/\t v Z H fun σ' H'=>u r σ' H' Q
theorem Hh:PGs X [] vI:=by
 intro jb s Z H vs us Q I r h;obtain⟨e,h⟩:=h;subst e;cases r;exact assignInOrder_nil ⟨Z,H,I,h⟩
theorem Cd {e:Expr} {es:YJ} {t:TG} {u:TGs} (h1:PG X e t) (h2:PGs X es u)
  (hs:(assignEach (e::es) X.env).map (·.2)=assign e X.env::(assignEach es X.env).map (·.2):=by rfl):PGs X (e::es) (oM t u):=by
 intro jb s Z H vs us Q I r h;obtain⟨v,vr,e1,h⟩:=h;subst e1;cases r with
 | cons r rr=>
  rw[hs];refine assignInOrder_cons (thn (h1 jb s Z H _ _ _ I r h) λ_ s1 zz=>?_);obtain⟨σ1,H1,I1,q1⟩:=zz;exact h2 jb s1 σ1 H1 _ _ Q I1 rr q1
def lq (K:YD) (n:Nat) (t:TGs):TG:=λv Z H Q=>∃a xs,v=.ref a/\SqT K H a xs/\xs.length=n/\t xs Z H Q
theorem JC {es:YJ} {k:Nat} {t:TGs} {n:Nat} (hc:X.calm=true) (h:PGs X es t)
  (hn:(assignEach es X.env).length=n:=by rfl) (hst:(assignEach es X.env).findIdx? (·.1)=none:=by rfl):PG X (.Tuple es k pos) (lq X.K n t):=by
 intro jb s Z H v u Q I r hw;obtain⟨a,xs,e1,hq,hl,hw⟩:=hw;subst e1;cases r;obtain⟨its,rv,ht,hz⟩:=I.tuple hq;refine assign_Tuple_tuple (I.ok.hd hc) ht (by simp[hn,<-hl,rv.length]) hst λh' hx=>?_;have I1:Inv X jb Z H { s with heap:=h' }:=I.kept (t':=s.toks) λb o e=>hx b o (QbT (QbS e)) e;exact h jb _ Z H xs _ Q I1 (by simpa using rv) hw
def vH (to ti:TE) (t:dF):TG:=λv Z H Q=>to Z H λo H1=>ti Z H1 λi H2=>t o i v H2 λH3=>Q Z H3
theorem Fv {o i:Expr} {to ti:TE} {t:dF} (ho:PE X o to) (hi:PE X i ti) (hs:mV X t)
  (ha:∀v,assign (.Subscript o i pos) X.env v=(do
   let ov <-holding [v] (eval o X.env);let iv <-holding [v,ov] (eval i X.env)
   standAt pos
   holding [v,ov,iv] (setItem ov iv v)
   release [v,ov,iv] []):=by intro _;rfl):PG X (.Subscript o i pos) (vH to ti t):=by
 intro jb s Z H v u Q I r h;rw[ha];refine Qcb (QbP (thn (ho jb s Z H _ I h) λov s1 zz=>?_));obtain⟨x,H1,I1,r1,q1⟩:=zz;refine Qcb (QbP (thn (hi jb s1 Z H1 _ I1 q1) λiv s2 zz=>?_));obtain⟨y,H2,I2,r2,q2⟩:=zz;refine Qcb (QbR (Qcb (QbP (thn (hs jb s2 Z H2 x y v ov iv u _ I2 r1 r2 r q2) λ_ s3 zz=>?_))));obtain⟨H3,I3,q3⟩:=zz;exact wpAny_release ⟨Z,H3,I3,q3⟩
def Zi (te:TE) (g:TG):TS:=λD Z H=>te Z H λx H1=>g x Z H1 D.nx
theorem Ew {tg e:Expr} {te:TE} {g:TG} (he:PE X e te) (hg:PG X tg g) (hs:swapsWithSole [tg] e pos.line X.env=pure false:=by rfl) (hw:swappedStores [tg] e X.env=pure none:=by rfl)
  (h1:(assignEach [tg] X.env).map (·.2)=[assign tg X.env]:=by rfl):PS X (.Assign [tg] e pos) (Zi te g):=by
 intro jb s Z H D I h;refine wpAny_Assign_stores (thn (he jb s Z H _ I h) λv s1 zz=>?_) hs hw;obtain⟨x,H1,I1,r1,q1⟩:=zz;rw[h1];exact thn (hg jb s1 Z H1 x v _ I1 r1 q1) λ_ s2 q=>q
theorem Aw {i:Nat} {x:Str} {e:Expr} {te:TE} {pos':Pos} (hN:X.N.Nodup) (hi:X.N[i]?=some x) (hx:Loc X.env.scope x) (he:PE X e te) (hs:swapsWith e (some (.Name x pos')) pos.line X.env=pure false:=by rfl) (hf:X.fn x=true\/X.env.scope.names.lookup x=some .local:=by first | exact .inl rfl | exact .inr rfl | assumption) :
  PS X (.Assign [.Name x pos'] e pos) (Zi te (Iu i)):=by
 intro jb s Z H D I h;refine wpAny_Assign_Name (thn (he jb s Z H _ I h) λv s1 zz=>?_) hs;obtain⟨y,H1,I1,r1,q1⟩:=zz;exact JW I1 hN hi hx r1 (λs2 I2=>⟨_,H1,I2,q1⟩) hf
end
section
variable {X:Cx} {pos:Pos}
end
structure It where
 go:Nat->Hp->Prop
 yld:Nat->Hp->V->Hp->Prop
 stop:Nat->Hp->Prop
def Es (X:Cx) (jb:YC) (H:Hp) (b:Addr):Prop:=
 H b=none/\b≠X.env.locals/\b∉X.fs/\(b∈X.ex\/X.s₀.heap.objs.size<=b)/\(∀x c,X.env.cells.lookup x=some c->c≠b)/\∀p∈X.pn++jb,p.1≠b
theorem Inv.RX {X:Cx} {jb:YC} {Z : St} {H H':Hp} {s:Shared} {b:Addr} (I:Inv X jb Z H s) (hb:s.heap.objs.size<=b) (hn:H' b=none):Es X jb H' b:=by
 refine⟨hn,Nat.ne_of_gt (QaP I.lt hb),I.jP hb,.inr (QbU I.sz hb),λx c e z=>?_,λp hp z=>?_⟩
 ·obtain⟨v,q⟩:=I.cell x c e;exact absurd (QaP q.lt (by rw[z];exact hb)) (QbO _)
 ·exact absurd (QaP (QbS (I.pin p hp).1) (by rw[z];exact hb)) (QbO _)
structure Turn (P:Program) (w:World) (K:YD) (tg:Expr) (J:It) (fp:List Addr) (it:Addr) (tn:Nat->Heap->Prop):Prop where
 mem:it∈fp
 obj:∀i h,tn i h->∀b∈fp,∃o,h.get? b=some o/\∀v,o.data≠.cell v
 keep:∀i h h',tn i h->(∀b∈fp,∀o,h.get? b=some o->h'.get? b=some o)->tn i h'
 item:∀(X:Cx),X.prog=P->X.w=w->X.K=K->X.calm=true->∀(i:Nat) (jb:YC) (s:Shared) (Z : St) (H:Hp) (E:YA),Inv X jb Z H s->(∀b∈fp,Es X jb H b)->tn i s.heap->J.go i H ->
  wpAny (model P w) X.A (pyNext (.ref it)) (λr s1=>∃u,r=some u /\
   wpAny (model P w) X.A (letOwnedTupleGo tg (.ref it) u) (λ_ s2=>∃x H',Inv X jb Z H' s2/\RelV x u/\J.yld i H x H'/\tn (i+1) s2.heap/\∀b∈fp,H' b=none) E s1) E s
 done:∀(X:Cx),X.prog=P->X.w=w->X.K=K->X.calm=true->∀(i:Nat) (jb:YC) (s:Shared) (Z : St) (H:Hp) (E:YA),Inv X jb Z H s->(∀b∈fp,Es X jb H b)->tn i s.heap->J.stop i H ->
  wpAny (model P w) X.A (pyNext (.ref it)) (λr s1=>r=none/\Inv X jb Z H s1) E s
 self:∀(A:Around) (i:Nat) (s:Shared) (Q:YA) (E:YA),tn i s.heap->Q (.ref it) s->wpAny (model P w) A (pyIter (.ref it)) Q E s
abbrev TI:=St->Hp->(It->Hp->Prop)->Prop
def PIE (X:Cx) (jb:YC) (Z : St) (tg:Expr) (R:It->Hp->Prop) (itv:Value) (s2:Shared):Prop:=
 ∃(it:Addr) (fp:List Addr) (tn:Nat->Heap->Prop) (J:It) (H':Hp),itv=.ref it/\Inv X jb Z H' s2/\Turn X.prog X.w X.K tg J fp it tn/\tn 0 s2.heap/\(∀b∈fp,Es X jb H' b)/\R J H'
def PI (X:Cx) (tg iter:Expr) (wi:TI):Prop:=
 ∀(jb:YC) (s:Shared) (Z : St) (H:Hp) (R:It->Hp->Prop),Inv X jb Z H s->wi Z H R ->
  wpAny (model X.prog X.w) X.A (eval iter X.env) (λv s1=>wpAny (model X.prog X.w) X.A (pyIter v) (PIE X jb Z tg R) X.xe s1) X.xe s
theorem Qw {M:Model} {A:Around} {E:YA} {s:Shared} {tg:Expr} {it:Addr} {u:Value} {o:Obj} {n:String} {vs:Array Value} {Q:YH} (ho:s.heap.get? it=some o) (hc:o.cls=.type n) (hd:o.data=.fields vs)
    (hn:["enumerate","zip","dict_itemiterator","dict_reverseitemiterator","odict_iterator","itertools.zip_longest","itertools.pairwise"].contains n=false) (hQ:Q () s):wpAny M A (letOwnedTupleGo tg (.ref it) u) Q E s:=by
  unfold letOwnedTupleGo;cases tg <;> first
    | exact Qcc hQ
    | (cases u <;> first
        | exact Qcc hQ
        | (refine Qcb (wpAny_load ho ?_)
           rw[hc,hd];show wpAny M A (if (["enumerate","zip","dict_itemiterator","dict_reverseitemiterator","odict_iterator","itertools.zip_longest","itertools.pairwise"].contains n&&vs[0]? == some (rawInt _))=true then _ else _) Q E s
           rw[if_neg (by intro h;rw[hn,QbJ] at h;cases h)];exact Qcc hQ))
def Itl (K:YD) (a:Addr):It:=
 ⟨λi H=>∃xs x,SqL K H a xs/\xs[i]?=some x,λi H x H'=>H'=H/\∀xs,SqL K H a xs->xs[i]?=some x,λi H=>∃xs,SqL K H a xs/\xs.length<=i⟩
def Itt (K:YD) (a:Addr):It:=
 ⟨λi H=>∃xs x,SqT K H a xs/\xs[i]?=some x,λi H x H'=>H'=H/\∀xs,SqT K H a xs->xs[i]?=some x,λi H=>∃xs,SqT K H a xs/\xs.length<=i⟩
def Itr (lo:Int) (n:Nat):It:=⟨λi _=>i < n,λi H x H'=>H'=H/\x=.int (lo+i),λi _=>n<=i⟩
theorem Xd {P:Program} {w:World} {K:YD} {tg:Expr} (a it:Addr):Turn P w K tg (Itl K a) [it] it (λi h=>h.IsListIter it a i) where
 mem:=by simp
 obj:=λi h st b hb=>by
  have e:b=it:=by simpa using hb
  subst e;obtain⟨o,e,c,d⟩:=st;exact⟨o,e,λv z=>by rw[d] at z;cases z⟩
 keep:=λi h h' st k=>st.at λo e=>k it (by simp) o e
 item:=by
  intro X hP hw hK hc i jb s Z H E I hf st hg;subst hP hw hK;obtain⟨xs,x,hq,hx⟩:=hg;obtain⟨its,rv,p,hz⟩:=I.list hq;obtain⟨u,hu,ru⟩:=rv.get hx;obtain⟨f0,f1,f2,f3,f4,f5⟩:=hf it (by simp);refine wpAny_pyNext_list_item st p.isList (x:=u) (by simpa using hu) λh' st' sb=>?_;have I1:Inv X jb Z H { s with heap:=h' }:=I.turned (t':=s.toks) (λb o hb e=>(sb.2 b hb).trans e) f0 f1 f3 f4 f5;obtain⟨o,e,c,d⟩:=id st';exact⟨u,rq,Qw (s:={ s with heap:=h' }) e c d (by decide) ⟨x,H,I1,ru,⟨rq,λys hy=>by rw[I.Ry hy hq];exact hx⟩,st',λb hb=>(hf b hb).1⟩⟩
 done:=by
  intro X hP hw hK hc i jb s Z H E I hf st hg;subst hP hw hK;obtain⟨xs,hq,hx⟩:=hg;obtain⟨its,rv,p,hz⟩:=I.list hq;obtain⟨f0,f1,f2,f3,f4,f5⟩:=hf it (by simp);have hl:=rv.length;exact wpAny_pyNext_list_end (I.ok.hd hc) st p.isList (by simp;omega) λh' eb=>⟨rq,I.turned (t':=s.toks) (λb o hb e=>eb b o hb e) f0 f1 f3 f4 f5⟩
 self:=λ_ _ _ _ _ st h=>wpAny_pyIter_listiter st h
theorem Vp {P:Program} {w:World} {K:YD} {tg:Expr} (a it:Addr):Turn P w K tg (Itt K a) [it] it (λi h=>h.IsTupleIter it a i) where
 mem:=by simp
 obj:=λi h st b hb=>by
  have e:b=it:=by simpa using hb
  subst e;obtain⟨o,e,c,d⟩:=st;exact⟨o,e,λv z=>by rw[d] at z;cases z⟩
 keep:=λi h h' st k=>st.at λo e=>k it (by simp) o e
 item:=by
  intro X hP hw hK hc i jb s Z H E I hf st hg;subst hP hw hK;obtain⟨xs,x,hq,hx⟩:=hg;obtain⟨its,rv,p,hz⟩:=I.tuple hq;obtain⟨u,hu,ru⟩:=rv.get hx;obtain⟨f0,f1,f2,f3,f4,f5⟩:=hf it (by simp);refine wpAny_pyNext_tuple_item st (show s.heap.IsTuple a its.toArray from p) (x:=u) (by simpa using hu) λh' st' sb=>?_
  have I1:Inv X jb Z H { s with heap:=h' }:=I.turned (t':=s.toks) (λb o hb e=>(sb.2 b hb).trans e) f0 f1 f3 f4 f5;obtain⟨o,e,c,d⟩:=id st';exact⟨u,rq,Qw (s:={ s with heap:=h' }) e c d (by decide) ⟨x,H,I1,ru,⟨rq,λys hy=>by rw[I.Xe hy hq];exact hx⟩,st',λb hb=>(hf b hb).1⟩⟩
 done:=by
  intro X hP hw hK hc i jb s Z H E I hf st hg;subst hP hw hK;obtain⟨xs,hq,hx⟩:=hg;obtain⟨its,rv,p,hz⟩:=I.tuple hq;obtain⟨f0,f1,f2,f3,f4,f5⟩:=hf it (by simp);have hl:=rv.length;exact wpAny_pyNext_tuple_end (I.ok.hd hc) st (show s.heap.IsTuple a its.toArray from p) (by simp;omega) λh' eb=>⟨rq,I.turned (t':=s.toks) (λb o hb e=>eb b o hb e) f0 f1 f3 f4 f5⟩
 self:=λ_ _ _ _ _ st h=>wpAny_pyIter_tupleiter st h
theorem Vq {P:Program} {w:World} {K:YD} {tg:Expr} (it:Addr) (lo:Int) (n:Nat):Turn P w K tg (Itr lo n) [it] it (λi h=>IsRangeIter h it (lo+(i:Nat)*1) ((n:Int) - (i:Nat)) 1) where
 mem:=by simp
 obj:=λi h st b hb=>by
  have e:b=it:=by simpa using hb
  subst e;exact⟨_,st,λv z=>by
   have z':Data.fields _=Data.cell v:=z;cases z'⟩
 keep:=λi h h' st k=>k it (by simp) _ st
 item:=by
  intro X hP hw hK hc i jb s Z H E I hf st hg;subst hP hw hK;obtain⟨f0,f1,f2,f3,f4,f5⟩:=hf it (by simp);have W:=Walks.range (prog:=X.prog) (w:=X.w) (I.ok.hd hc) it lo 1 n;refine W.item i s _ _ hg st λv h' tk hv st' kk=>?_;obtain⟨t,rfl⟩:=hv;have I1:Inv X jb Z H { s with heap:=h',toks:=tk }:=I.turned (λb o hb e=>kk b o (by simpa using hb) e) f0 f1 f3 f4 f5;refine⟨_,rq,Qw (s:={ s with heap:=h',toks:=tk }) (n:="range_iterator") st' rfl rfl (by decide) ⟨.int (lo+i),H,I1,⟨t,?_⟩,⟨rq,rq⟩,st',λb hb=>(hf b hb).1⟩⟩;rw[Int.mul_one]
 done:=by
  intro X hP hw hK hc i jb s Z H E I hf st hg;subst hP hw hK;obtain⟨f0,f1,f2,f3,f4,f5⟩:=hf it (by simp);exact wpAny_pyNext_range_end (I.ok.hd hc) st (by have:n<=i:=hg;omega) λh' eb=>⟨rq,I.turned (t':=s.toks) (λb o hb e=>eb b o hb e) f0 f1 f3 f4 f5⟩
 self:=λ_ _ _ _ _ st h=>wpAny_pyIter_rangeiter st h
section
variable {X:Cx} {tg:Expr}
def fj (K:YD) (tl:TE):TI:=fun Z H R=>tl Z H λx H1=>∃a,x=.ref a/\(∃xs,SqL K H1 a xs)/\R (Itl K a) H1
def vf (K:YD) (tl:TE):TI:=fun Z H R=>tl Z H λx H1=>∃a,x=.ref a/\(∃xs,SqT K H1 a xs)/\R (Itt K a) H1
theorem Cy {l:Expr} {tl:TE} (hl:PE X l tl):PI X tg l (fj X.K tl):=by
 intro jb s Z H R I h;refine thn (hl jb s Z H _ I h) λv s1 zz=>?_;obtain⟨x,H1,I1,r1,q1⟩:=zz;obtain⟨a,e,⟨xs,hq⟩,q⟩:=q1;subst e;cases r1;obtain⟨its,rv,p,hz⟩:=I1.list hq;refine wpAny_pyIter_list p.isList ?_;refine⟨s1.heap.objs.size,[s1.heap.objs.size],_,_,H1,rq,I1.kept (t':=s1.toks) λb o e=>Qaq _ e,Xd a _,⟨_,QaF _ rfl,rq,rq⟩,λb hb=>?_,q⟩;have e:b=s1.heap.objs.size:=by simpa using hb
 subst e;exact I1.RX (QbZ _) (I1.hok.fresh (QbZ _))
theorem jA {l:Expr} {tl:TE} (hl:PE X l tl):PI X tg l (vf X.K tl):=by
 intro jb s Z H R I h;refine thn (hl jb s Z H _ I h) λv s1 zz=>?_;obtain⟨x,H1,I1,r1,q1⟩:=zz;obtain⟨a,e,⟨xs,hq⟩,q⟩:=q1;subst e;cases r1;obtain⟨its,rv,p,hz⟩:=I1.tuple hq;refine wpAny_pyIter_tuple (show s1.heap.IsTuple a its.toArray from p) ?_
 refine⟨s1.heap.objs.size,[s1.heap.objs.size],_,_,H1,rq,I1.kept (t':=s1.toks) λb o e=>Qaq _ e,Vp a _,⟨_,QaF _ rfl,rq,rq⟩,λb hb=>?_,q⟩;have e:b=s1.heap.objs.size:=by simpa using hb
 subst e;exact I1.RX (QbZ _) (I1.hok.fresh (QbZ _))
theorem Q6 {jb:YC} {Z : St} {H:Hp} {s:Shared} {R:It->Hp->Prop} {E:YA} {lo hi:Int} {t u v:Tok} {tk:Nat} (I:Inv X jb Z H s) (h1:-(2 ^ 62)<=lo) (h2:lo < 2 ^ 62) (h3:-(2 ^ 62)<=hi) (h4:hi < 2 ^ 62)
  (q:R (Itr lo (hi - lo).toNat) H):wpAny (model X.prog X.w) X.A (pyIter (.ref s.heap.objs.size)) (PIE X jb Z tg R) E { s with heap:=s.heap.push { cls:=.type "range",data:=.fields #[.int lo t,.int hi u,.int 1 v] },toks:=tk }:=by
 refine wpAny_pyIter_range (IsRange.new ..) (small_one h1 h2 h3 h4) ?_;have I1:Inv X jb Z H { s with heap:=s.heap.push { cls:=.type "range",data:=.fields #[.int lo t,.int hi u,.int 1 v] },toks:=tk }:=I.kept λb o e=>Qaq _ e;refine⟨(s.heap.push { cls:=.type "range",data:=.fields #[.int lo t,.int hi u,.int 1 v] }).objs.size,[(s.heap.push { cls:=.type "range",data:=.fields #[.int lo t,.int hi u,.int 1 v] }).objs.size],_,_,H,rq,
  I1.kept (t':=tk) λb o e=>Qaq _ e,Vq _ lo (hi - lo).toNat,?_,λb hb=>?_,q⟩
 ·have e1:lo+((0:Nat):Int)*1=lo:=by simp
  have e2:(((hi - lo).toNat:Nat):Int) - ((0:Nat):Int)=Builtin.Range.rangeSize lo hi 1:=by rw[rangeSize_one];split <;> omega
  show IsRangeIter _ _ (lo+((0:Nat):Int)*1) ((((hi - lo).toNat:Nat):Int) - ((0:Nat):Int)) 1;rw[e1,e2];exact QaF _ rfl
 ·have e:b=(s.heap.push { cls:=.type "range",data:=.fields #[.int lo t,.int hi u,.int 1 v] }).objs.size:=by simpa using hb
  subst e;exact I1.RX (QbZ _) (I1.hok.fresh (QbZ _))
def oJ (ta:TA):TI:=fun Z H R=>ta Z H λvs H1=>∃j:Int,vs=[.int j]/\-(2 ^ 62)<=j/\j < 2 ^ 62/\R (Itr 0 j.toNat) H1
def oH (ta:TA):TI:=fun Z H R=>ta Z H λvs H1=>∃i j:Int,vs=[.int i,.int j]/\(-(2 ^ 62)<=i/\i < 2 ^ 62/\-(2 ^ 62)<=j/\j < 2 ^ 62)/\R (Itr i (j - i).toNat) H1
theorem Eb {a:Expr} {ta:TA} {p pos:Pos} (hg:Gl X "range") (hm:X.mg "range"=none) (ha:PA X [a] ta) (hs:starEach [a] X.env=[(false,eval a X.env)]:=by rfl):PI X tg (.Call (.Name "range" p) [a] [] pos) (oJ ta):=by
 intro jb s Z H R I h;refine Call_ (Gm I hg hm boot_range (Qad (thn (ha pos jb s Z H _ I h) λus s1 zz=>?_) hs rfl));obtain⟨vs,H1,I1,r1,q1⟩:=zz;obtain⟨j,e,q1,q2,q⟩:=q1;subst e;cases r1 with
 | cons r rr=>
  cases rr;obtain⟨t,rfl⟩:=r;exact call_range_1 (Q6 I1 (by omega) (by omega) q1 q2 (by simpa using q))
theorem Xr {a b:Expr} {ta:TA} {p pos:Pos} (hg:Gl X "range") (hm:X.mg "range"=none) (ha:PA X [a,b] ta) (hs:starEach [a,b] X.env=[(false,eval a X.env),(false,eval b X.env)]:=by rfl) (hs2:starEach [b] X.env=[(false,eval b X.env)]:=by rfl) :
  PI X tg (.Call (.Name "range" p) [a,b] [] pos) (oH ta):=by
 intro jb s Z H R I h;refine Call_ (Gm I hg hm boot_range (Qad (thn (ha pos jb s Z H _ I h) λus s1 zz=>?_) (by rw[hs,hs2]) (by rw[hs2];rfl)));obtain⟨vs,H1,I1,r1,q1⟩:=zz;obtain⟨i,j,e,⟨q1,q2,q3,q4⟩,q⟩:=q1;subst e;cases r1 with
 | cons r rr=>
  cases rr with
  | cons r' rr=>
   cases rr;obtain⟨t,rfl⟩:=r;obtain⟨t',rfl⟩:=r';exact call_range_2 (Q6 I1 q1 q2 q3 q4 q)
abbrev YN:=Nat->YO
def KC (wi:TI) (g:TG) (tb:TS):TS:=λD Z H=>wi Z H λJ H1=>∃W:Nat->YN,(∃m,W 0 m Z H1)/\∀i m Z H,W i m Z H ->
 (J.stop i H/\D.nx Z H)\/(J.go i H/\∃N:YO,(∀ σ' H',N σ' H'->∃m',m' < m/\W (i+1) m' σ' H')/\∀x H',J.yld i H x H'->g x Z H' fun σ2 H2=>tb { D with nx:=N,ct:=N,bk:=D.nx } σ2 H2)
def Je (fp:List Addr) (h:Heap):YC:=fp.filterMap λb=>(h.get? b).map λo=>(b,o)
theorem FZ {fp:List Addr} {h:Heap} {b:Addr} {o:Obj} (hb:b∈fp) (e:h.get? b=some o):(b,o)∈Je fp h:=List.mem_filterMap.mpr ⟨b,hb,by rw[e];rfl⟩
theorem XM {fp:List Addr} {h:Heap} {p:Addr×Obj} (hp:p∈Je fp h):p.1∈fp/\h.get? p.1=some p.2:=by
 obtain⟨b,hb,e⟩:=List.mem_filterMap.mp hp;cases q:h.get? b with
 | none=>rw[q] at e;cases e
 | some o=>
  rw[q] at e;have e':(b,o)=p:=Qbx e;subst e';exact⟨hb,q⟩
theorem Inv.pinned {jb:YC} {Z : St} {H:Hp} {s:Shared} {fp:List Addr} (I:Inv X jb Z H s) (hf:∀b∈fp,Es X jb H b) (ho:∀b∈fp,∃o,s.heap.get? b=some o/\∀v,o.data≠.cell v):Inv X (jb++Je fp s.heap) Z H s:=
 I.O9 λp hp=>(Qbu.mp hp).elim (λz=>I.pin p (Qau _ z)) λz=>by
  obtain⟨hb,e⟩:=XM z;obtain⟨f0,f1,f2,_⟩:=hf p.1 hb;obtain⟨o,e',d⟩:=ho p.1 hb;rw[e] at e';cases e';exact⟨e,f0,f1,f2,d⟩
theorem Inv.Gs {jb pl:YC} {Z : St} {H:Hp} {s:Shared} (I:Inv X (jb++pl) Z H s):Inv X jb Z H s:=I.O9 λp hp=>I.pin p (Qau _ (QaB _ hp))
theorem Gf {iter:Expr} {body:List Stmt} {wi:TI} {g:TG} {tb:TS} {pos:Pos} (hp:PassesOwn (model X.prog X.w) X.A X.env X.xe) (hc:X.calm=true) (hi:PI X tg iter wi) (hg:PG X tg g) (hb:PSs X body tb)
  (hs:∀x,foldedSetIterable iter X.env x=pure x:=by intro _;rfl):PS X (.For tg iter body [] pos) (KC wi g tb):=by
 intro jb s Z H D I h;refine wpAny_For (thn (hi jb s Z H _ I h) λv s1 h1=>thn h1 λitv s2 h2=>?_) hs;obtain⟨it,fp,tn,J,H2,e,I2,T,st2,f2,W,⟨m0,w0⟩,turn⟩:=h2;subst e;have stat:∀{H':Hp},(∀b∈fp,H' b=none)->∀b∈fp,Es X jb H' b:=λhn b hb=>⟨hn b hb,(f2 b hb).2⟩;refine codeAny_forLoop_any (λn s'=>∃i σ' H',Inv X jb σ' H' s'/\tn i s'.heap/\(∀b∈fp,H' b=none)/\W i n σ' H') ?_ m0 ⟨0,Z,H2,I2,st2,λb hb=>(f2 b hb).1,w0⟩;rintro n s3 ⟨i,σ3,H3,I3,st3,fr3,w3⟩;rcases turn i n σ3 H3 w3 with⟨stop,qn⟩|⟨go,N,hN,step⟩
 ·refine wpAny_passesOwn hp (thn (T.done X rfl rfl rfl hc i jb s3 σ3 H3 X.xe I3 (stat fr3) st3 stop) λr s4 zz=>?_);obtain⟨hr,I4⟩:=zz;subst hr;exact wpAny_execs_nil ⟨σ3,H3,I4,qn⟩
 ·refine wpAny_passesOwn hp (thn (T.item X rfl rfl rfl hc i jb s3 σ3 H3 X.xe I3 (stat fr3) st3 go) λr s4 zz=>?_);obtain⟨u,hr,h4⟩:=zz;subst hr;refine wpAny_passesOwn hp (thn h4 λ_ s5 zz=>?_);obtain⟨x,H5,I5,r5,y5,st5,fr5⟩:=zz;have I5':=I5.pinned (stat fr5) (T.obj _ _ st5);refine wpAny_passesOwn hp (thn (hg _ s5 σ3 H5 x u _ I5' r5 (step x H5 y5)) λ_ s6 zz=>?_);obtain⟨σ6,H6,I6,q6⟩:=zz;refine wpAny_passesOwn hp (thn (hb _ s6 σ6 H6 _ I6 q6) λf s7 q7=>?_);have again:∀{σ7:St} {H7:Hp},Inv X (jb++Je fp s5.heap) σ7 H7 s7->N σ7 H7->∃m,m < n/\∃i σ' H',Inv X jb σ' H' s7/\tn i s7.heap/\(∀b∈fp,H' b=none)/\W i m σ' H':=λ{σ7 H7} I7 n7=>by
   obtain⟨m',hm,w7⟩:=hN σ7 H7 n7;refine⟨m',hm,i+1,σ7,H7,I7.Gs,T.keep _ _ _ st5 λb hb o e=>(I7.pin (b,o) (Qau _ (Qau _ (FZ hb e)))).1,λb hb=>?_,w7⟩;obtain⟨o,e,d⟩:=T.obj _ _ st5 b hb;exact (I7.pin (b,o) (Qau _ (Qau _ (FZ hb e)))).2.1
  cases f with
  | next=>obtain⟨σ7,H7,I7,n7⟩:=q7;exact again I7 n7
  | cont=>obtain⟨σ7,H7,I7,n7⟩:=q7;exact again I7 n7
  | brk=>obtain⟨σ7,H7,I7,q7⟩:=q7;exact⟨σ7,H7,I7.Gs,q7⟩
  | ret v=>obtain⟨x7,σ7,H7,I7,r7,q7⟩:=q7;exact⟨x7,σ7,H7,I7.Gs,r7,q7⟩
end
theorem Jo {K:YD} {a:Addr} {xs:YG} {g:TG} {tb:TS} {D:Ends} {Z : St} {H:Hp} (Pv:YN) (h0:Pv 0 Z H) (hl:∀i Z H,i<=xs.length->Pv i Z H->SqL K H a xs)
  (hs:∀i x Z H,xs[i]?=some x->Pv i Z H->g x Z H fun σ2 H2=>tb { D with nx:=Pv (i+1),ct:=Pv (i+1),bk:=D.nx } σ2 H2) (hd:∀ Z H,Pv xs.length Z H->D.nx Z H) :
  ∃W:Nat->YN,(∃m,W 0 m Z H)/\∀i m Z H,W i m Z H ->
   ((Itl K a).stop i H/\D.nx Z H)\/((Itl K a).go i H/\∃N:YO,(∀ σ' H',N σ' H'->∃m',m' < m/\W (i+1) m' σ' H')/\∀x H',(Itl K a).yld i H x H'->g x Z H' fun σ2 H2=>tb { D with nx:=N,ct:=N,bk:=D.nx } σ2 H2):=by
 refine⟨λi m Z H=>m=xs.length - i/\i<=xs.length/\Pv i Z H,⟨xs.length,by simp,Qca _,h0⟩,?_⟩;rintro i m Z H ⟨rfl,hi,p⟩;have q:=hl i Z H hi p;by_cases hlt:i < xs.length
 ·refine .inr ⟨⟨xs,xs[i],q,by simp[hlt]⟩,Pv (i+1),fun σ' H' p'=>⟨xs.length - (i+1),by omega,rq,hlt,p'⟩,λx H' y=>?_⟩;obtain⟨e,y⟩:=y;subst e;exact hs i x Z _ (y xs q) p
 ·have e:i=xs.length:=by omega
  subst e;exact .inl ⟨⟨xs,q,QbZ _⟩,hd Z H p⟩
theorem Lf {lo:Int} {n:Nat} {g:TG} {tb:TS} {D:Ends} {Z : St} {H:Hp} (Pv:YN) (h0:Pv 0 Z H)
  (hs:∀i Z H,i < n->Pv i Z H->g (.int (lo+i)) Z H fun σ2 H2=>tb { D with nx:=Pv (i+1),ct:=Pv (i+1),bk:=D.nx } σ2 H2) (hd:∀ Z H,Pv n Z H->D.nx Z H) :
  ∃W:Nat->YN,(∃m,W 0 m Z H)/\∀i m Z H,W i m Z H ->
   ((Itr lo n).stop i H/\D.nx Z H)\/((Itr lo n).go i H/\∃N:YO,(∀ σ' H',N σ' H'->∃m',m' < m/\W (i+1) m' σ' H')/\∀x H',(Itr lo n).yld i H x H'->g x Z H' fun σ2 H2=>tb { D with nx:=N,ct:=N,bk:=D.nx } σ2 H2):=by
 refine⟨λi m Z H=>m=n - i/\i<=n/\Pv i Z H,⟨n,by simp,Qca _,h0⟩,?_⟩;rintro i m Z H ⟨rfl,hi,p⟩;by_cases hlt:i < n
 ·refine .inr ⟨hlt,Pv (i+1),fun σ' H' p'=>⟨n - (i+1),by omega,rq,hlt,p'⟩,λx H' y=>?_⟩;obtain⟨e,y⟩:=y;subst e y;exact hs i Z _ hlt p
 ·have e:i=n:=by omega
  subst e;exact .inl ⟨QbZ _,hd Z H p⟩
abbrev R2:=V->V->Hp->VK->Prop
def OpR (X:Cx) (f:Value->Value->Sem Value) (r:R2):Prop:=
 ∀(jb:YC) (s:Shared) (Z : St) (H:Hp) (x y:V) (v u:Value) (Q:VK),Inv X jb Z H s->RelV x v->RelV y u->r x y H Q ->
  wpAny (model X.prog X.w) X.A (f v u) (EP X jb Z Q) X.xe s
def UnR (X:Cx) (f:Value->Sem Value) (r:V->Hp->VK->Prop):Prop:=
 ∀(jb:YC) (s:Shared) (Z : St) (H:Hp) (x:V) (v:Value) (Q:VK),Inv X jb Z H s->RelV x v->r x H Q ->
  wpAny (model X.prog X.w) X.A (f v) (EP X jb Z Q) X.xe s
def Dj (X:Cx) (f:Value) (r:YG->Hp->VK->Prop):Prop:=
 ∀(jb:YC) (s:Shared) (Z : St) (H:Hp) (xs:YG) (us:YE) (Q:VK),Inv X jb Z H s->Vals xs us->r xs H Q ->
  wpAny (model X.prog X.w) X.A (call f us) (EP X jb Z Q) X.xe s
def yq (X:Cx) (r:V->Hp->(Bool->Hp->Prop)->Prop):Prop:=
 ∀(jb:YC) (s:Shared) (Z : St) (H:Hp) (x:V) (v:Value) (Q:Bool->Hp->Prop),Inv X jb Z H s->RelV x v->r x H Q ->
  wpAny (model X.prog X.w) X.A (truthy v) (TP X jb Z Q) X.xe s
def tOp (r:R2) (ta tb:TE):TE:=fun Z H Q=>ta Z H λx H1=>tb Z H1 λy H2=>r x y H2 Q
def tUn (r:V->Hp->VK->Prop) (ta:TE):TE:=fun Z H Q=>ta Z H λx H1=>r x H1 Q
def rI (C:Int->Int->Prop) (g:Int->Int->V):R2:=λx y H Q=>∃i j,x=.int i/\y=.int j/\C i j/\Q (g i j) H
def rI0 (g:Int->Int->V):R2:=λx y H Q=>∃i j,x=.int i/\y=.int j/\Q (g i j) H
def rU (g:Int->V):V->Hp->VK->Prop:=λx H Q=>∃i,x=.int i/\Q (g i) H
section
variable {X:Cx} {a b c:Expr} {ta tb tc:TE} {pos:Pos}
theorem dz (ha:PE X a ta) (hb:PE X b tb) {jb:YC} {s:Shared} {Z : St} {H:Hp} {R:V->V->Hp->Prop} (I:Inv X jb Z H s)
  (h:ta Z H λx H1=>tb Z H1 λy H2=>R x y H2) {Q:YA} {f:Value->Value->Sem Value}
  (hf:∀v u s2 x y H2,Inv X jb Z H2 s2->RelV x v->RelV y u->R x y H2->wpAny (model X.prog X.w) X.A (f v u) Q X.xe s2) :
  wpAny (model X.prog X.w) X.A (eval a X.env) (λv s₁=>wpAny (model X.prog X.w) X.A (eval b X.env) (λu s₂=>wpAny (model X.prog X.w) X.A (f v u) Q X.xe s₂) X.xe s₁) X.xe s:=by
 refine thn (ha jb s Z H _ I h) λv s1 zz=>?_;obtain⟨x,H1,I1,r1,q1⟩:=zz;refine thn (hb jb s1 Z H1 _ I1 q1) λu s2 zz=>?_;obtain⟨y,H2,I2,r2,q2⟩:=zz;exact hf v u s2 x y H2 I2 r1 r2 q2
theorem Ao {op:Operator} {r:R2} (ho:OpR X (binaryOp op) r) (ha:PE X a ta) (hb:PE X b tb):PE X (.BinOp a op b pos) (tOp r ta tb):=by
 intro jb s Z H Q I h;exact wpAny_BinOp (dz ha hb I h λv u s2 x y H2 I2 rx ry q=>ho jb s2 Z H2 x y v u Q I2 rx ry q)
theorem VH {op:UnaryOp} {r:V->Hp->VK->Prop} (ho:UnR X (unaryOp op) r) (ha:PE X a ta):PE X (.UnaryOp op a pos) (tUn r ta):=by
 intro jb s Z H Q I h;refine UnaryOp_ (thn (ha jb s Z H _ I h) λv s1 zz=>?_);obtain⟨x,H1,I1,r1,q1⟩:=zz;exact ho jb s1 Z H1 x v Q I1 r1 q1
theorem opI {f:Value->Value->Sem Value} {C:Int->Int->Prop} {g:Int->Int->Int}
  (rule:∀(i j:Int) (t u:Tok) (s:Shared) (Q:YA) (E:YA),C i j->Q (.int (g i j) s.toks) { s with toks:=s.toks+1 }->wpAny (model X.prog X.w) X.A (f (.int i t) (.int j u)) Q E s) :
  OpR X f (rI C λi j=>.int (g i j)):=by
 intro jb s Z H x y v u Q I rx ry h;obtain⟨i,j,rfl,rfl,hc,q⟩:=h;obtain⟨t,rfl⟩:=rx;obtain⟨t',rfl⟩:=ry;exact rule i j t t' s _ _ hc ⟨.int (g i j),H,I.tok _,⟨_,rq⟩,q⟩
theorem jK {f:Value->Value->Sem Value} {g:Int->Int->Int}
  (rule:∀(i j:Int) (t u:Tok) (s:Shared) (Q:YA) (E:YA),Q (.int (g i j) s.toks) { s with toks:=s.toks+1 }->wpAny (model X.prog X.w) X.A (f (.int i t) (.int j u)) Q E s) :
  OpR X f (rI0 λi j=>.int (g i j)):=by
 intro jb s Z H x y v u Q I rx ry h;obtain⟨i,j,rfl,rfl,q⟩:=h;obtain⟨t,rfl⟩:=rx;obtain⟨t',rfl⟩:=ry;exact rule i j t t' s _ _ ⟨.int (g i j),H,I.tok _,⟨_,rq⟩,q⟩
theorem VN {f:Value->Value->Sem Value} {g:Int->Int->Bool}
  (rule:∀(i j:Int) (t u:Tok) (s:Shared) (Q:YA) (E:YA),Q (.bool (g i j)) s->wpAny (model X.prog X.w) X.A (f (.int i t) (.int j u)) Q E s) :
  OpR X f (rI0 λi j=>.bl (g i j)):=by
 intro jb s Z H x y v u Q I rx ry h;obtain⟨i,j,rfl,rfl,q⟩:=h;obtain⟨t,rfl⟩:=rx;obtain⟨t',rfl⟩:=ry;exact rule i j t t' s _ _ ⟨.bl (g i j),H,I,rq,q⟩
def yw (i j:Int):Prop:=0 < j/\j < 1073741824
def yu (i j:Int):Prop:=0<=j/\j<=1000000/\i.natAbs < 2 ^ 64
def W6 (i j:Int):Prop:=(-(2 ^ 64) < i/\i < 2 ^ 64)\/(-(2 ^ 64) < j/\j < 2 ^ 64)
theorem W6.ok {i j:Int} (h:W6 i j):IntMulOk i j:=by
 rcases h with⟨h1,h2⟩|⟨h1,h2⟩
 ·exact .of_left (intBits_le_64 h1 h2)
 ·exact .of_right (intBits_le_64 h1 h2)
theorem Cv:OpR X (binaryOp .Add) (rI0 λi j=>.int (i+j)):=jK λ_ _ _ _ _ _ _ q=>add_int q
theorem N6:OpR X (binaryOp .Sub) (rI0 λi j=>.int (i - j)):=jK λ_ _ _ _ _ _ _ q=>sub_int q
theorem Fx:OpR X (binaryOp .Mult) (rI W6 λi j=>.int (i*j)):=opI λ_ _ _ _ _ _ _ hc q=>mul_int q hc.ok
theorem Pa:OpR X (binaryOp .FloorDiv) (rI yw λi j=>.int (i / j)):=opI λi j _ _ _ _ _ hc q=>by
 have h1:(0:Int) < j:=hc.1;have h2:j < 1073741824:=hc.2;exact floordiv_int (by omega) (by rw[Int.fdiv_eq_ediv_of_nonneg i (by omega)];exact q) (.inl (PyProof.noPylong_small (by omega)))
theorem Fy:OpR X (binaryOp .Mod) (rI (λ_ j=>0 < j) λi j=>.int (i % j)):=opI λi j _ _ _ _ _ hc q=>by
 have h1:(0:Int) < j:=hc;exact mod_int' (by omega) (by rw[Int.fmod_eq_emod_of_nonneg i (by omega)];exact q)
theorem Ri:OpR X (binaryOp .Pow) (rI yu λi j=>.int (i ^ j.toNat)):=opI λ_ _ _ _ _ _ _ hc q=>pow_int_small hc.1 hc.2.1 hc.2.2 q
theorem unI {f:Value->Sem Value} {g:Int->Int}
  (rule:∀(i:Int) (t:Tok) (s:Shared) (Q:YA) (E:YA),Q (.int (g i) s.toks) { s with toks:=s.toks+1 }->wpAny (model X.prog X.w) X.A (f (.int i t)) Q E s) :
  UnR X f (rU λi=>.int (g i)):=by
 intro jb s Z H x v Q I rx h;obtain⟨i,rfl,q⟩:=h;obtain⟨t,rfl⟩:=rx;exact rule i t s _ _ ⟨.int (g i),H,I.tok _,⟨_,rq⟩,q⟩
theorem QH:UnR X (unaryOp .USub) (rU λi=>.int (-i)):=unI λ_ _ _ _ _ q=>neg_int q
end
def jm:V->V->Bool
 | .non,.non=>true | .non,.int _=>true | .int _,.non=>true | .non,.bl _=>true | .bl _,.non=>true | .non,.str _=>true | .str _,.non=>true
 | .int _,.int _=>true | .bl _,.bl _=>true | .str _,.str _=>true | .byt _,.byt _=>true
 | .int _,.str _=>true | .str _,.int _=>true | .bl _,.str _=>true | .str _,.bl _=>true
 | _,_=>false
def rEq:R2:=λx y H Q=>jm x y=true/\Q (.bl (decide (x=y))) H
def rNe:R2:=λx y H Q=>jm x y=true/\Q (.bl (!decide (x=y))) H
theorem Vg {i j:Int}:decide (V.int i=V.int j)=(i == j):=by
 rw[QbC];simp
theorem Yy {i j:Bool}:decide (V.bl i=V.bl j)=(i == j):=by
 rw[QbC];simp
theorem Vf {i j:Str}:decide (V.str i=V.str j)=(i == j):=by
 rw[QbC];simp
theorem Vh {i j:Array UInt8}:decide (V.byt i=V.byt j)=(i.toList == j.toList):=by
 rw[QbC];cases i;cases j;simp
section
variable {X:Cx} {a b c:Expr} {ta tb tc:TE} {pos:Pos}
theorem Bm {jb:YC} {Z : St} {H:Hp} {s:Shared} {Q:VK} {k k':Bool} (I:Inv X jb Z H s) (q:Q (.bl k) H) (e:k=k'):EP X jb Z Q (.bool k') s:=by
 subst e;exact⟨.bl k,H,I,rq,q⟩
theorem Em:OpR X (compareOp .Eq) rEq:=by
 intro jb s Z H x y v u Q I rx ry h;obtain⟨hs,q⟩:=h;cases x with
 | non=>
  cases rx;cases y with
  | non=>cases ry;exact PySem.EqNone.eq_none_none (Bm I q (by simp))
  | bl j=>cases ry;exact PySem.EqNone.eq_none_bool (Bm I q (by simp))
  | int j=>obtain⟨t',rfl⟩:=ry;exact PySem.EqNone.eq_none_int (Bm I q (by simp))
  | str j=>obtain⟨t',rfl⟩:=ry;exact PySem.EqNone.eq_none_str (Bm I q (by simp))
  | _=>exact absurd (show false=true from hs) QaL
 | bl i=>
  cases rx;cases y with
  | non=>cases ry;exact PySem.EqNone.eq_bool_none (Bm I q (by simp))
  | bl j=>cases ry;exact eq_bool (Bm I q Yy)
  | str j=>obtain⟨t',rfl⟩:=ry;exact PySem.EqMixed.eq_bool_str (Bm I q (by simp))
  | _=>exact absurd (show false=true from hs) QaL
 | int i=>
  obtain⟨t,rfl⟩:=rx;cases y with
  | non=>cases ry;exact PySem.EqNone.eq_int_none (Bm I q (by simp))
  | int j=>obtain⟨t',rfl⟩:=ry;exact eq_int (Bm I q Vg)
  | str j=>obtain⟨t',rfl⟩:=ry;exact PySem.EqMixed.eq_int_str (Bm I q (by simp))
  | _=>exact absurd (show false=true from hs) QaL
 | str i=>
  obtain⟨t,rfl⟩:=rx;cases y with
  | non=>cases ry;exact PySem.EqNone.eq_str_none (Bm I q (by simp))
  | bl j=>cases ry;exact PySem.EqMixed.eq_str_bool (Bm I q (by simp))
  | int j=>obtain⟨t',rfl⟩:=ry;exact PySem.EqMixed.eq_str_int (Bm I q (by simp))
  | str j=>obtain⟨t',rfl⟩:=ry;exact eq_str (Bm I q Vf)
  | _=>exact absurd (show false=true from hs) QaL
 | byt i=>
  obtain⟨t,rfl⟩:=rx;cases y with
  | byt j=>obtain⟨t',rfl⟩:=ry;exact PySem.W.eq_bytes (Bm I q Vh)
  | _=>exact absurd (show false=true from hs) QaL
 | _=>cases y <;> exact absurd (show false=true from hs) QaL
theorem eO:OpR X (compareOp .NotEq) rNe:=by
 intro jb s Z H x y v u Q I rx ry h;obtain⟨hs,q⟩:=h;cases x with
 | non=>
  cases rx;cases y with
  | non=>cases ry;exact PySem.EqNone.ne_none_none (Bm I q (by simp))
  | bl j=>cases ry;exact PySem.EqNone.ne_none_bool (Bm I q (by simp))
  | int j=>obtain⟨t',rfl⟩:=ry;exact PySem.EqNone.ne_none_int (Bm I q (by simp))
  | str j=>obtain⟨t',rfl⟩:=ry;exact PySem.EqNone.ne_none_str (Bm I q (by simp))
  | _=>exact absurd (show false=true from hs) QaL
 | bl i=>
  cases rx;cases y with
  | non=>cases ry;exact PySem.EqNone.ne_bool_none (Bm I q (by simp))
  | bl j=>cases ry;exact ne_bool (Bm I q (congrArg not Yy))
  | str j=>obtain⟨t',rfl⟩:=ry;exact PySem.EqMixed.ne_bool_str (Bm I q (by simp))
  | _=>exact absurd (show false=true from hs) QaL
 | int i=>
  obtain⟨t,rfl⟩:=rx;cases y with
  | non=>cases ry;exact PySem.EqNone.ne_int_none (Bm I q (by simp))
  | int j=>obtain⟨t',rfl⟩:=ry;exact ne_int (Bm I q (congrArg not Vg))
  | str j=>obtain⟨t',rfl⟩:=ry;exact PySem.EqMixed.ne_int_str (Bm I q (by simp))
  | _=>exact absurd (show false=true from hs) QaL
 | str i=>
  obtain⟨t,rfl⟩:=rx;cases y with
  | non=>cases ry;exact PySem.EqNone.ne_str_none (Bm I q (by simp))
  | bl j=>cases ry;exact PySem.EqMixed.ne_str_bool (Bm I q (by simp))
  | int j=>obtain⟨t',rfl⟩:=ry;exact PySem.EqMixed.ne_str_int (Bm I q (by simp))
  | str j=>obtain⟨t',rfl⟩:=ry;exact ne_str (Bm I q (congrArg not Vf))
  | _=>exact absurd (show false=true from hs) QaL
 | byt i=>
  obtain⟨t,rfl⟩:=rx;cases y with
  | byt j=>obtain⟨t',rfl⟩:=ry;exact PySem.W.ne_bytes (Bm I q (congrArg not Vh))
  | _=>exact absurd (show false=true from hs) QaL
 | _=>cases y <;> exact absurd (show false=true from hs) QaL
theorem VL:OpR X (compareOp .Lt) (rI0 λi j=>.bl (decide (i < j))):=VN λ_ _ _ _ _ _ _ q=>lt_int q
theorem Qt:OpR X (compareOp .LtE) (rI0 λi j=>.bl (decide (i<=j))):=VN λ_ _ _ _ _ _ _ q=>le_int q
theorem nR:OpR X (compareOp .Gt) (rI0 λi j=>.bl (decide (j < i))):=VN λ_ _ _ _ _ _ _ q=>gt_int q
theorem nU:OpR X (compareOp .GtE) (rI0 λi j=>.bl (decide (j<=i))):=VN λ_ _ _ _ _ _ _ q=>ge_int q
theorem Xy:OpR X (compareOp .In) (λx y H Q=>∃i j,x=.str i/\y=.str j/\Q (.bl (!(Builtin.Str.occurrences j i 0 j.length 1).isEmpty)) H):=by
 intro jb s Z H x y v u Q I rx ry h;obtain⟨i,j,rfl,rfl,q⟩:=h;obtain⟨t,rfl⟩:=rx;obtain⟨t',rfl⟩:=ry;exact in_str (Bm I q rfl)
theorem Rk:OpR X (compareOp .Is) (λx y H Q=>y=.non/\Q (.bl (decide (x=.non))) H):=by
 intro jb s Z H x y v u Q I rx ry h;obtain⟨rfl,q⟩:=h;cases ry;refine is_none_gen (Bm I q ?_);cases x <;> first
  | (cases rx;rfl)
  | (obtain⟨t,rfl⟩:=rx;rfl)
theorem Bt (b:Expr) {op:CmpOp} (h:op≠.In:=by decide) (h2:op≠.NotIn:=by decide):behindInMarks op b=false:=by
 have e1:(op == CmpOp.In)=false:=by cases op <;> first | rfl | exact absurd rfl h
 have e2:(op == CmpOp.NotIn)=false:=by cases op <;> first | rfl | exact absurd rfl h2
 cases b <;> simp[behindInMarks,e1,e2]
theorem CW {op:CmpOp} {r:R2} (ho:OpR X (compareOp op) r) (ha:PE X a ta) (hb:PE X b tb) (hm:behindInMarks op b=false):PE X (.Compare a [op] [b] pos) (tOp r ta tb):=by
 intro jb s Z H Q I h;exact wpAny_Compare1 (dz ha hb I h λv u s2 x y H2 I2 rx ry q=>ho jb s2 Z H2 x y v u Q I2 rx ry q) hm
def d8 (t:TE):TT:=fun Z H Q=>t Z H λx H'=>∃k,x=.bl k/\Q k H'
theorem BJ {op:CmpOp} {r:R2} (ho:OpR X (compareOp op) r) (ha:PE X a ta) (hb:PE X b tb) (hm:behindInMarks op b=false):PT X (.Compare a [op] [b] pos) (d8 (tOp r ta tb)):=by
 intro jb s Z H Q I h;refine wpAny_isTrue_Compare1 (thn (ha jb s Z H _ I h) λv s1 ⟨x,H1,I1,r1,q1⟩=>thn (hb jb s1 Z H1 _ I1 q1) λu s2 ⟨y,H2,I2,r2,q2⟩=>
  thn (ho jb s2 Z H2 x y v u _ I2 r1 r2 q2) λc s3 ⟨z,H3,I3,r3,k,e,q3⟩=>?_) hm
 subst e;cases r3;exact Qbc ⟨H3,I3,q3⟩
def Xh (r r':R2) (ta tb tc:TE):TE:=fun Z H Q=>ta Z H λx H1=>tb Z H1 λy H2=>r x y H2 λz H3=>∃k,z=.bl k /\
 (if k=true then tc Z H3 λw' H4=>r' y w' H4 Q else Q (.bl false) H3)
theorem ZK {op op':CmpOp} {r r':R2} (ho:OpR X (compareOp op) r) (ho':OpR X (compareOp op') r') (ha:PE X a ta) (hb:PE X b tb) (hc:PE X c tc)
  (hm:lastMarks [op,op'] [b,c]=false:=by with_unfolding_all rfl):PE X (.Compare a [op,op'] [b,c] pos) (Xh r r' ta tb tc):=by
 intro jb s Z H Q I h;refine Compare_chain (thn (ha jb s Z H _ I h) λv s1 ⟨x,H1,I1,r1,q1⟩=>chain_link (thn (hb jb s1 Z H1 _ I1 q1) λu s2 ⟨y,H2,I2,r2,q2⟩=>
  thn (ho jb s2 Z H2 x y v u _ I2 r1 r2 q2) λd s3 ⟨z,H3,I3,r3,k,e,q3⟩=>?_)) hm
 subst e;cases r3;refine Qbc ?_;cases k with
 | false=>exact ite_ff ⟨.bl false,H3,I3,rfl,q3⟩
 | true=>exact ite_tt (chain_last (thn (hc jb s3 Z H3 _ I3 q3) λw' s4 ⟨z',H4,I4,r4,q4⟩=>ho' jb s4 Z H4 y z' u w' Q I4 r2 r4 q4))
theorem Zz {op op':CmpOp} {r r':R2} (ho:OpR X (compareOp op) r) (ho':OpR X (compareOp op') r') (ha:PE X a ta) (hb:PE X b tb) (hc:PE X c tc)
  (hm:lastMarks [op,op'] [b,c]=false:=by with_unfolding_all rfl):PT X (.Compare a [op,op'] [b,c] pos) (d8 (Xh r r' ta tb tc)):=by
 intro jb s Z H Q I h;refine isTrue_chain (thn (ha jb s Z H _ I h) λv s1 ⟨x,H1,I1,r1,q1⟩=>test_link (thn (hb jb s1 Z H1 _ I1 q1) λu s2 ⟨y,H2,I2,r2,q2⟩=>
  thn (ho jb s2 Z H2 x y v u _ I2 r1 r2 q2) λd s3 ⟨z,H3,I3,r3,k,e,q3⟩=>?_)) hm
 subst e;cases r3;refine Qbc ?_;cases k with
 | false=>
  obtain⟨k',e',q'⟩:=q3;cases e';exact ite_ff ⟨H3,I3,q'⟩
 | true=>
  refine ite_tt (test_last (thn (hc jb s3 Z H3 _ I3 q3) λw' s4 zz=>?_));obtain⟨z',H4,I4,r4,q4⟩:=zz;refine thn (ho' jb s4 Z H4 y z' u w' _ I4 r2 r4 q4) λd' s5 zz=>?_;obtain⟨z2,H5,I5,r5,k2,e2,q5⟩:=zz;subst e2;cases r5;exact Qbc ⟨H5,I5,q5⟩
def mQ (K:YD) (x:V) (H:Hp) (k:Bool):Prop:=
 match x with
 | .non=>k=false
 | .bl b=>k=b
 | .int i=>k=(i != 0)
 | .str y=>y.length<=sizeLine/\k=((y.length:Int) != 0)
 | .byt y=>y.size<=sizeLine/\k=((y.size:Int) != 0)
 | .ref p=>(∃xs,SqL K H p xs/\k=!xs.isEmpty)\/(∃xs,SqT K H p xs/\k=!xs.isEmpty)\/∃kvs,H p=some (.dK kvs)/\k=!kvs.isEmpty
 | _=>False
theorem Wr {κ : Type} {kvs:List (κ×V)} {vs:List (κ×Value)} (r:KV kvs vs):(!vs.isEmpty)=!kvs.isEmpty:=by
 cases r <;> rfl
theorem Oh {xs:YG} {its:YE} (r:Vals xs its):(!its.toArray.isEmpty)=!xs.isEmpty:=by
 cases r <;> simp
theorem Jl:(sizeLine:Nat) < 2 ^ 63:=by rw[sizeLine_eq];decide
theorem jc:yq X (λx H Q=>∃k,mQ X.K x H k/\Q k H):=by
 intro jb s Z H x v Q I rx h;obtain⟨k,e,q⟩:=h;have hl:=Jl;have hs:sizeLine=16777216:=sizeLine_eq;cases x with
 | non=>
  cases rx;have e':k=false:=e;subst e';exact truthy_none ⟨H,I,q⟩
 | bl b=>
  cases rx;have e':k=b:=e;subst e';exact Qbc ⟨H,I,q⟩
 | int i=>
  obtain⟨t,rfl⟩:=rx;have e':k=(i != 0):=e;subst e';exact PySem.P.truthy_int ⟨H,I,q⟩
 | str y=>
  obtain⟨t,rfl⟩:=rx;obtain⟨hy,e'⟩ : y.length<=sizeLine/\k=((y.length:Int) != 0):=e;subst e';exact PySem.P.truthy_str (by omega) ⟨H,I.tok _,q⟩
 | byt y=>
  obtain⟨t,rfl⟩:=rx;obtain⟨hy,e'⟩ : y.size<=sizeLine/\k=((y.size:Int) != 0):=e;subst e';exact PySem.W.truthy_bytes (by omega) ⟨H,I.tok _,q⟩
 | ref p=>
  cases rx;have e':(∃xs,SqL X.K H p xs/\k=!xs.isEmpty)\/(∃xs,SqT X.K H p xs/\k=!xs.isEmpty)\/∃kvs,H p=some (.dK kvs)/\k=!kvs.isEmpty:=e;rcases e' with⟨xs,hx,e'⟩|⟨xs,hx,e'⟩|⟨kvs,hx,e'⟩
  ·subst e';obtain⟨its,r,pl,hz⟩:=I.list hx;have hlen:=r.length;exact wpAny_truthy_list pl.isList (by simp only[QaZ];omega) ⟨H,I.tok _,by rw[Oh r];exact q⟩
  ·subst e';obtain⟨its,r,pl,hz⟩:=I.tuple hx;have hlen:=r.length;exact truthy_tuple pl (by simp only[QaZ];omega) ⟨H,I.tok _,by rw[Oh r];exact q⟩
  ·subst e';obtain⟨hz,hS,vs,r,m⟩ : kvs.length<=sizeLine/\(p == sysModules)=false/\∃vs,KV kvs vs/\s.heap.DictOf (Cp X.prog X.w) p vs:=I.hok p _ hx;have hlen:kvs.length=vs.length:=QbL r;exact wpAny_truthy_dict hS m (by omega) ⟨H,I.tok _,by rw[Wr r];exact q⟩
 | _=>exact (show False from e).elim
theorem Zy (ha:PE X a ta) (he:∀whole,isTrue a X.env whole=(do let v <-whole;standAt a.pos;holding [v] (truthy v))) :
  PT X a (fun Z H Q=>ta Z H λx H'=>∃k,mQ X.K x H' k/\Q k H'):=by
 intro jb s Z H Q I h;refine isTrue_plain (thn (ha jb s Z H _ I h) λv s1 zz=>?_) (he _);obtain⟨x,H1,I1,r1,q1⟩:=zz;exact jc jb s1 Z H1 x v Q I1 r1 q1
theorem Io:OpR X (binaryOp .Add) (λx y H Q=>∃i j,x=.str i/\y=.str j/\i.length+j.length<=sizeLine/\Q (.str (i++j)) H):=by
 intro jb s Z H x y v u Q I rx ry h;obtain⟨i,j,rfl,rfl,hz,q⟩:=h;obtain⟨t,rfl⟩:=rx;obtain⟨t',rfl⟩:=ry;exact add_str (λt' tk=>⟨.str (i++j),H,I.tok _,⟨_,rq⟩,q⟩) hz
theorem vals1 {x:V} {us:YE} (r:Vals [x] us):∃u,us=[u]/\RelV x u:=by
 cases r with
 | cons r1 r2=>cases r2;exact⟨_,rfl,r1⟩
theorem vals2 {x y:V} {us:YE} (r:Vals [x,y] us):∃u w',us=[u,w']/\RelV x u/\RelV y w':=by
 cases r with
 | cons r1 r2=>
  cases r2 with
  | cons r3 r4=>cases r4;exact⟨_,_,rfl,r1,r3⟩
theorem Tf:Dj X (.builtin "abs") (λxs H Q=>∃i,xs=[.int i]/\Q (.int (if i < 0 then -i else i)) H):=by
 intro jb s Z H xs us Q I r h;obtain⟨i,rfl,q⟩:=h;obtain⟨u,rfl,t,rfl⟩:=vals1 r;exact call_abs_int λu tk=>⟨.int (if i < 0 then -i else i),H,I.tok _,⟨_,rq⟩,q⟩
theorem YX (hc:X.calm=true):Dj X (.builtin "max") (λxs H Q=>∃i j,xs=[.int i,.int j]/\Q (.int (if j > i then j else i)) H):=by
 intro jb s Z H xs us Q I r h;obtain⟨i,j,rfl,q⟩:=h;obtain⟨u,w',rfl,⟨t,rfl⟩,⟨t',rfl⟩⟩:=vals2 r;refine max_two_ints (I.ok.hd hc) λh' tk k=>⟨_,H,I.kept k,?_,q⟩;by_cases hj:j > i
 ·rw[if_pos hj,if_pos hj];exact⟨_,rq⟩
 ·rw[if_neg hj,if_neg hj];exact⟨_,rq⟩
theorem YW (hc:X.calm=true):Dj X (.builtin "min") (λxs H Q=>∃i j,xs=[.int i,.int j]/\Q (.int (if j < i then j else i)) H):=by
 intro jb s Z H xs us Q I r h;obtain⟨i,j,rfl,q⟩:=h;obtain⟨u,w',rfl,⟨t,rfl⟩,⟨t',rfl⟩⟩:=vals2 r;refine min_two_ints (I.ok.hd hc) λh' tk k=>⟨_,H,I.kept k,?_,q⟩;by_cases hj:j < i
 ·rw[if_pos hj,if_pos hj];exact⟨_,rq⟩
 ·rw[if_neg hj,if_neg hj];exact⟨_,rq⟩
theorem Y4:Dj X (.type "int") (λxs H Q=>(∃i,xs=[.int i]/\Q (.int i) H)\/∃k,xs=[.bl k]/\Q (.int (if k then 1 else 0)) H):=by
 intro jb s Z H xs us Q I r h;rcases h with⟨i,rfl,q⟩|⟨k,rfl,q⟩
 ·obtain⟨u,rfl,t,rfl⟩:=vals1 r;exact call_int_int ⟨.int i,H,I,⟨_,rq⟩,q⟩
 ·obtain⟨u,rfl,r1⟩:=vals1 r;cases r1;exact call_int_bool ⟨.int (if k then 1 else 0),H,I.tok _,⟨_,rq⟩,q⟩
end
structure Nb (h:Heap) (x dx C:Addr) (mA:YB):Prop where
 obj:h.get? x=some (instObj C dx)
 ns:h.Ns1 dx mA
 ne:dx≠x
theorem X5 {h:Heap} {dx:Addr} {mA:YB} (n:h.Ns1 dx mA):∃od,h.get? dx=some od/\∀name,lookIn name od=some (mA name):=by
 obtain⟨o,es,ep,ho,hd,hk,_,hm⟩:=n;refine⟨o,ho,λname=>?_⟩;have e:=hm name;unfold nsFind findBy at e;rw[<-Array.find?_toList] at e;unfold lookIn;rw[hd];dsimp only;split
 ·rename_i y q;rw[q] at e;exact congrArg some e
 ·rename_i q;rw[q] at e;have a:es.toList.any (·.refKey)=false:=by
   rw[List.any_eq_false];intro y hy;obtain⟨z,t,hkey⟩:=hk y (Array.mem_toList_iff.mp hy);simp[DictEntry.refKey,hkey]
  have a':¬es.toList.any (·.refKey)=true:=by rw[a];exact QaL
  rw[if_neg a'];exact congrArg some e
theorem Nb.look {h:Heap} {x dx C:Addr} {mA:YB} (I:Nb h x dx C mA):∃od,PySem.W.InstAt h x (instObj C dx) C (some od)/\∀name,lookIn name od=some (mA name):=
 let ⟨od,ho,hl⟩:=X5 I.ns
 ⟨od,⟨I.obj,rq,rq,ho⟩,hl⟩
section
variable {prog:Program} {w:World} {A:Around} {E:YA} {s:Shared} {K:YD} {x dx C f:Addr} {mA:YB} {name:Str} {v:Value}
theorem get_map {expr:Bool} {Q:YA} (X:K.In s.heap) (I:Nb s.heap x dx C mA) (hg:plainGet K C name=true) (hh:hasDictIn K C=true)
  (ha:findIn K (.ref C) name=some none) (hv:mA name=some v) (hv':PySem.W.handedIn v=true) (h:Q v { s with toks:=s.toks+1 }) :
  wpAny (model prog w) A (getAttr (.ref x) name expr) Q E s:=by
 obtain⟨od,J,hl⟩:=I.look;exact PySem.W.get_value X J (PySem.W.plainGet_of hg).1 (PySem.W.findObj_own hh ha rfl (by rw[hl,hv])) hv' h
theorem cL {pl:Sem Bool} {Q:Value×YE->Shared->Prop} (X:K.In s.heap) (I:Nb s.heap x dx C mA) (hg:plainGet K C name=true)
  (hf:findIn K (.ref C) name=some (some (.ref f))) (ht:isFn K (.ref f)=true) (hv:mA name=none) (h:Q (.ref f,[.ref x]) s) :
  wpAny (model prog w) A (getMethod (.ref x) name pl) Q E s:=by
 obtain⟨od,J,hl⟩:=I.look;exact PySem.W.method_fn X J (PySem.W.plainGet_of hg).1 (PySem.W.plainGet_of hg).2 hf (beq_iff_eq.mp ht) (by show (lookIn name od).map (·.isSome)=some false;rw[hl,hv];rfl) h
theorem fV {ns:YF} {Q:YH} (X:K.In s.heap) (I:Nb s.heap x dx C mA)
  (hs:findIn K (.ref C) "__setattr__"=some (some (.builtin "object.__setattr__"))) (hp:PySem.W.plainOver K C=true) (ht:PySem.W.takerIn K C name=some none) (hh:hasDictIn K C=true)
  (hw:PySem.Within mA ns) (hsz:ns.length<=sizeLine)
  (h:∀h',Nb h' x dx C (λy=>if y=name then some v else mA y)->Heap.SameBut dx s.heap h'->Q () { s with heap:=h',toks:=s.toks+2 }) :
  wpAny (model prog w) A (setAttr (.ref x) name v) Q E s:=by
 obtain⟨od,J,hl⟩:=I.look;refine PySem.W.set_plain X J hs (PySem.W.osa_open (s:={ s with toks:=s.toks+1 }) (r:=none) X J hp ht λb=>?_);obtain⟨cd,hc,hd'⟩:=PySem.W.any_some hh;have hx:s.heap.get? x=some ⟨.ref C,some dx,.plain,#[]⟩:=I.obj;refine Qcb (Qcc (Qcb (Qcb (wpAny_loadPart hx (Qcb (PySem.W.Looks.here (s:={ s with toks:=s.toks+1 }) (PySem.W.looks_clsIn X hc) ?_))))));rw[hd'];refine Qcc (a:=some dx) (Qcb (Qcc (Qcb ?_)));refine wpAny_nsSet1 (s:={ s with toks:=s.toks+1 }) I.ns λh' hn2 hs2=>?_;obtain⟨oD,esD,epD,hoD,hdD,hcD⟩:=hn2.count (PySem.Within.cons name v hw);refine Qcb (wpAny_lookBehind hoD (by rw[hdD];exact pastItsLine_dict (QbU hcD (by rw[Qbn];omega))) ?_);exact Qcc (h _ ⟨(hs2.2 _ (Ne.symm I.ne)).trans I.obj,hn2,I.ne⟩ hs2)
theorem Z4 {R:Result->Shared->Prop} {vs:YE} {kw:List (Str×Value)} (X:K.In s.heap) (hm:PySem.W.makesIn K C=true)
  (hi:findIn K (.ref C) "__init__"=some (some (.ref f))) (hf:PySem.W.typeIn K (.ref f)=some (.type "function"))
  (h:codeAny (model prog w) (A.under (.builtin "type.__call__" ⟨.ref C::vs,kw⟩)) (.call (.ref f) ⟨.ref (s.heap.objs.size+1)::vs,kw⟩) (PySem.W.InitBack (s.heap.objs.size+1) R)
   { s with heap:=(s.heap.push emptyDict).push (instObj C s.heap.objs.size) }) :
  codeAny (model prog w) A (.call (.ref C) ⟨vs,kw⟩) R s:=by
 obtain⟨hh,g,d,t,os⟩:=s;exact PySem.W.make_core (PySem.W.makes_of X hm) (looks_findIn X hi) (λself=>PySem.W.bind_fn X self hf) (.inl rfl) h
end
def Dy (f:Str) (v:V):List (Str×V)->List (Str×V)
 | []=>[(f,v)]
 | (g,x)::r=>if g=f then (g,v)::r else (g,x)::Dy f v r
theorem Mr (f g:Str) (v:V):∀fs:List (Str×V),(Dy f v fs).lookup g=if g=f then some v else fs.lookup g
 | []=>by
  show List.lookup g [(f,v)]=_;by_cases h:g=f
  ·have hb:(g == f)=true:=beq_iff_eq.mpr h;simp only[List.lookup,hb,if_pos h]
  ·have hb:(g == f)=false:=QaH.mpr h;simp only[List.lookup,hb,if_neg h]
 | (k,x)::r=>by
  have ih:=Mr f g v r;rw[show Dy f v ((k,x)::r)=(if k=f then (k,v)::r else (k,x)::Dy f v r) from rfl]
  by_cases hk:k=f
  ·rw[if_pos hk];by_cases h:g=k
   ·have hb:(g == k)=true:=beq_iff_eq.mpr h;simp only[List.lookup,hb,if_pos (h.trans hk)]
   ·have hb:(g == k)=false:=QaH.mpr h;simp only[List.lookup,hb,if_neg (λe:g=f=>h (e.trans hk.symm))]
  ·rw[if_neg hk];by_cases h:g=k
   ·have hb:(g == k)=true:=beq_iff_eq.mpr h;simp only[List.lookup,hb,if_neg (λe:g=f=>hk (h.symm.trans e))]
   ·have hb:(g == k)=false:=QaH.mpr h;simp only[List.lookup,hb];exact ih
theorem Lb (f:Str) (v:V):∀fs:List (Str×V),f∈(Dy f v fs).map (·.1)/\∀g,g∈fs.map (·.1)->g∈(Dy f v fs).map (·.1)
 | []=>⟨by simp[Dy],λg h=>by simp at h⟩
 | (k,x)::r=>by
  obtain⟨i1,i2⟩:=Lb f v r;rw[show Dy f v ((k,x)::r)=(if k=f then (k,v)::r else (k,x)::Dy f v r) from rfl]
  by_cases hk:k=f
  ·rw[if_pos hk];subst hk;exact⟨by simp,λg h=>by simpa using h⟩
  ·rw[if_neg hk];refine⟨?_,λg h=>?_⟩
   ·rw[QbM];exact QaA _ i1
   ·rw[QbM] at h ⊢;rcases QbK.mp h with e | e
    ·exact QbK.mpr (.inl e)
    ·exact QaA _ (i2 g e)
theorem Mt (f:Str) (v:V):∀fs:List (Str×V),(Dy f v fs).length<=fs.length+1
 | []=>by simp[Dy]
 | (k,x)::r=>by
  have ih:=Mt f v r;rw[show Dy f v ((k,x)::r)=(if k=f then (k,v)::r else (k,x)::Dy f v r) from rfl]
  by_cases hk:k=f
  ·rw[if_pos hk,Qbn,Qbn];omega
  ·rw[if_neg hk,Qbn,Qbn];omega
theorem Gw.some_of {v:V} {o:Option Value} (r:Gw (some v) o):∃u,o=some u/\RelV v u:=by
 cases o with
 | none=>exact (show False from r).elim
 | some u=>exact⟨u,rfl,r⟩
theorem Gw.none_of {o:Option Value} (r:Gw none o):o=none:=by
 cases o with
 | none=>rfl
 | some u=>exact (show False from r).elim
theorem Yn {v:V} {u:Value} (r:RelV v u):PySem.W.handedIn u=true:=by
 cases v with
 | non=>cases (show u=Value.none from r);rfl
 | bl b=>cases (show u=Value.bool b from r);rfl
 | int i=>obtain⟨t,e⟩:=(show ∃t,u=Value.int i t from r);cases e;rfl
 | str x=>obtain⟨t,e⟩:=(show ∃t,u=Value.str x t from r);cases e;rfl
 | byt b=>obtain⟨t,e⟩:=(show ∃t,u=Value.bytes b t from r);cases e;rfl
 | flt b=>obtain⟨t,e⟩:=(show ∃t,u=Value.float b t from r);cases e;rfl
 | ref a=>cases (show u=Value.ref a from r);rfl
 | ty n=>cases (show u=Value.type n from r);rfl
section
variable {P:Program} {w:World} {H H':Hp} {h h':Heap} {a C dx:Addr} {fs fs':List (Str×V)}
theorem Ma (hok:HOk P w H h) (e:H a=some (.ins C dx fs)):∃mA,Nb h a dx C mA/\(∀f,Gw (fs.lookup f) (mA f))/\PySem.Within mA (fs.map (·.1))/\fs.length<=1000/\H dx=some (.own a):=by
 obtain⟨d,z,ne,ob,mA,n,r,q⟩:=(show Bo P w H h a (.ins C dx fs) from hok a _ e)
 exact⟨mA,⟨ob,n,ne⟩,r,q,z,d⟩
end
structure Cls (K:YD) (C:Addr):Prop where
 pg:plainGet K C Str.empty=true
 hd:hasDictIn K C=true
 po:PySem.W.plainOver K C=true
 sa:findIn K (.ref C) "__setattr__"=some (some (.builtin "object.__setattr__"))
theorem Cls.get {K:YD} {C:Addr} (c:Cls K C) (f:Str):plainGet K C f=true:=c.pg
def G6 (K:YD) (C:Addr) (f:Str):Prop:=findIn K (.ref C) f=some none
theorem G6.taker {K:YD} {C:Addr} {f:Str} (n:G6 K C f):PySem.W.takerIn K C f=some none:=by
 unfold PySem.W.takerIn;rw[show findIn K (.ref C) f=some none from n]
 rfl
structure Meth (K:YD) (C:Addr) (m:Str) (f:Addr):Prop where
 at_:findIn K (.ref C) m=some (some (.ref f))
 fn:isFn K (.ref f)=true
 kp:keepIn K (.ref f)=true
section
variable {X:Cx} {jb:YC} {Z : St} {H:Hp} {s:Shared} {a C dx:Addr} {fs:List (Str×V)} {f:Str} {v:V} {A:Around} {E:YA}
theorem Ww {b:Bool} {Q:YA} (I:Inv X jb Z H s) (e:H a=some (.ins C dx fs)) (c:Cls X.K C) (n:G6 X.K C f) (l:fs.lookup f=some v)
  (h:∀u s',Inv X jb Z H s'->RelV v u->Q u s'):wpAny (model X.prog X.w) A (getAttr (.ref a) f b) Q E s:=by
 obtain⟨mA,O,r,_,_,_⟩:=Ma I.hok e;obtain⟨u,hu,ru⟩:=Gw.some_of (v:=v) (o:=mA f) (by rw[<-l];exact r f);exact get_map I.kIn O (c.get f) c.hd n hu (Yn ru) (h u _ (I.tok _) ru)
theorem Ip {m:Str} {g:Addr} {pl:Sem Bool} {Q:Value×YE->Shared->Prop} (I:Inv X jb Z H s) (e:H a=some (.ins C dx fs)) (c:Cls X.K C) (k:Meth X.K C m g) (l:fs.lookup m=none)
  (h:Q (.ref g,[.ref a]) s):wpAny (model X.prog X.w) A (getMethod (.ref a) m pl) Q E s:=by
 obtain⟨mA,O,r,_,_,_⟩:=Ma I.hok e;have hn:mA m=none:=Gw.none_of (by rw[<-l];exact r m);exact cL I.kIn O (c.get m) k.at_ k.fn hn h
theorem Vw {y:V} {u:Value} {Q:YH} (I:Inv X jb Z H s) (e:H a=some (.ins C dx fs)) (c:Cls X.K C) (n:G6 X.K C f) (hl:fs.length < 1000) (ry:RelV y u)
  (h:∀s',Inv X jb Z (upd H a (.ins C dx (Dy f y fs))) s'->Q () s'):wpAny (model X.prog X.w) A (setAttr (.ref a) f u) Q E s:=by
 obtain⟨mA,O,r,wi,_,ho⟩:=Ma I.hok e;have hz:(fs.map (·.1)).length<=sizeLine:=by rw[Qbt,sizeLine_eq];omega
 refine fV I.kIn O c.sa c.po n.taker c.hd wi hz λh' O' sb=>h _ ?_;have hd:∃o,h'.get? dx=some o:=let ⟨o,_,_,e',_⟩:=O'.ns;⟨o,e'⟩;refine I.write (x:=a) (e:=dx) (by rw[e];exact True.intro) (.inr ho) (λb q hb z=>(sb.2 b hb).trans z) hd ?_;refine⟨by rw[Al O.ne];exact ho,?_,O.ne,O'.obj,_,O'.ns,λg=>?_,λg hg=>?_⟩
 ·have:=Mt f y fs;omega
 ·show Gw ((Dy f y fs).lookup g) (if g=f then some u else mA g)
  rw[Mr];by_cases q:g=f
  ·rw[if_pos q,if_pos q];exact ry
  ·rw[if_neg q,if_neg q];exact r g
 ·by_cases q:g=f
  ·rw[q];exact (Lb f y fs).1
  ·refine (Lb f y fs).2 g (wi g λz=>hg ?_);show (if g=f then some u else mA g)=none
   rw[if_neg q];exact z
theorem Inv.made (I:Inv X jb Z H s):Inv X jb Z (upd (upd H s.heap.objs.size (.own (s.heap.objs.size+1))) (s.heap.objs.size+1) (.ins C s.heap.objs.size []))
  { s with heap:=(s.heap.push emptyDict).push (instObj C s.heap.objs.size) }:=by
 have e1:(s.heap.push emptyDict).get? s.heap.objs.size=some emptyDict:=QaF s.heap rfl;have e2:((s.heap.push emptyDict).push (instObj C s.heap.objs.size)).get? (s.heap.objs.size+1)=some (instObj C s.heap.objs.size):=by
  have:=QaF (s.heap.push emptyDict) (o:=instObj C s.heap.objs.size) rfl
  rwa [QbI] at this
 have e3:(s.heap.push emptyDict).Ns s.heap.objs.size (λ_=>none):=⟨emptyDict,#[],_,e1,rq,(λe he=>absurd he (by simp)),λ_=>rfl⟩;have I1:=I.laid (a:=s.heap.objs.size) (o:=.own (s.heap.objs.size+1)) (h':=s.heap.push emptyDict) (t':=s.toks) (λb u q=>Qaq _ q) (QbZ _) ⟨_,e1⟩;refine I1.laid (a:=s.heap.objs.size+1) (o:=.ins C s.heap.objs.size []) (t':=s.toks) (λb u q=>Qaq _ q) (Nat.le_of_eq (QbI _ _)) ?_;have ne:s.heap.objs.size≠s.heap.objs.size+1:=QbT (Qbo _);refine⟨by rw[Al ne,Ac],Qca _,ne,e2,λ_=>none,(Heap.Ns1.of_empty e3).at λo q=>Qaq _ q,λ_=>True.intro,λy hy=>absurd rfl hy⟩
theorem iJ {prog:Program} {w:World} {env:Env} {e:Expr} {f:Str} {pos:Pos} {s:Shared} {Q:YA} (hb:attributeBase e f env (eval e env)=eval e env)
  (h:wpAny (model prog w) A (eval e env) (λo s₁=>wpAny (model prog w) A (getAttr o f true) Q E s₁) E s):wpAny (model prog w) A (eval (.Attribute e f pos) env) Q E s:=
 Attribute_any_ h (by rw[arm_eval_Attribute,hb])
end
def jh (K:YD) (ta:TE) (f:Str):TE:=fun Z H Q=>ta Z H λx H1=>∃a C dx fs v,x=.ref a/\H1 a=some (.ins C dx fs)/\Cls K C/\G6 K C f/\fs.lookup f=some v/\Q v H1
section
variable {X:Cx} {o e value:Expr} {f:Str} {pos pos' tpos:Pos} {ta tv:TE}
theorem Ez (he:PE X e ta) (hb:attributeBase e f X.env (eval e X.env)=eval e X.env):PE X (.Attribute e f pos) (jh X.K ta f):=by
 intro jb s Z H Q I h;refine iJ hb (thn (he jb s Z H _ I h) λu s1 zz=>?_);obtain⟨x,H1,I1,rx,a,C,dx,fs,v,ex,ea,c,n,l,q⟩:=zz;subst ex;obtain rfl:u=Value.ref a:=rx;exact Ww I1 ea c n l λu' s2 I2 ru=>⟨v,H1,I2,ru,q⟩
theorem m8 {pl:Sem Bool} {m:Str} {apos:Pos} {args:YJ} {jb:YC} {s:Shared} {Z : St} {H:Hp} {Q:YA} {te:TE} (he:PE X e te) (I:Inv X jb Z H s)
  (h:te Z H λx H1=>∃a C dx fs g,x=.ref a/\H1 a=some (.ins C dx fs)/\Cls X.K C/\Meth X.K C m g/\fs.lookup m=none /\
   ∀s1,Inv X jb Z H1 s1->wpAny (model X.prog X.w) X.A (callWith pos (.ref g) [.ref a] (backTo pos (starEach args X.env)) (backToKw pos (keywordEach [] X.env))) Q X.xe s1)
  (ht:eval (.Call (.Attribute e m apos) args [] pos) X.env=(do
   let ov <-eval e X.env
   standAt apos.atName
   let (f,first) <-holding [ov] (getMethod ov m pl)
   callWith pos f first (backTo pos (starEach args X.env)) (backToKw pos (keywordEach [] X.env)))) :
  wpAny (model X.prog X.w) X.A (eval (.Call (.Attribute e m apos) args [] pos) X.env) Q X.xe s:=by
 refine methodCall_KW (pl:=pl) (thn (he jb s Z H _ I h) λu s1 zz=>?_) ht;obtain⟨x,H1,I1,rx,a,C,dx,fs,g,ex,ea,c,k,l,q⟩:=zz;subst ex;obtain rfl:u=Value.ref a:=rx;exact Ip I1 ea c k l (q s1 I1)
end
section
variable {X:Cx} {jb:YC} {Z : St} {H:Hp} {s:Shared} {A:Around} {E:YA} {Q:YA} {c:Value} {b:Bool}
inductive Ho (K:YD) (H:Hp):V->Value->Prop where
 | non:Ho K H .non (.type "NoneType")
 | bl (x:Bool):Ho K H (.bl x) (.type "bool")
 | int (i:Int):Ho K H (.int i) (.type "int")
 | str (x:Str):Ho K H (.str x) (.type "str")
 | flt (x:UInt64):Ho K H (.flt x) (.type "float")
 | lst {a:Addr} {xs:YG} (e:H a=some (.lst xs)):Ho K H (.ref a) (.type "list")
 | frz {a:Addr} {o:Obj} {xs:YG} (e:H a=some (.frz o (.lst xs))):Ho K H (.ref a) (.type "list")
 | tup {a:Addr} {xs:YG} (e:H a=some (.tup xs)):Ho K H (.ref a) (.type "tuple")
 | dK {a:Addr} {kvs:List (Key×V)} (e:H a=some (.dK kvs)):Ho K H (.ref a) (.type "dict")
 | dT {a:Addr} {kvs:List (List Key×V)} (e:H a=some (.dT kvs)):Ho K H (.ref a) (.type "dict")
 | ins {a C dx:Addr} {fs:List (Str×V)} (e:H a=some (.ins C dx fs)) (cl:Cls K C) (ha:findIn K (.ref C) "__class__"=some (some (.builtin "object.__class__")))
   (hn:PySem.W.specialIn K (.builtin "object.__class__") "__get__"=some (some (.builtin "getset_descriptor.__get__"))) (htk:PySem.W.takesIn K (.builtin "object.__class__")=some true)
   (hm:PySem.W.mroIn K C (.type "object")=some true):Ho K H (.ref a) (.ref C)
theorem Yg {x:V} {u t:Value} (I:Inv X jb Z H s) (rx:RelV x u) (ty:Ho X.K H x t) (e:kitOne X.K t c=some b) (h:∀tk,Q (.bool b) { s with toks:=tk }) :
  wpAny (model X.prog X.w) A (call (.builtin "isinstance") [u,c]) Q E s:=by
 cases ty with
 | non=>cases (show u=Value.none from rx);exact kia_one PySem.W.kitx_none I.kIn True.intro e (λz=>nomatch z) h
 | bl y=>cases (show u=Value.bool y from rx);exact kia_one PySem.W.kitx_bool I.kIn True.intro e (λz=>nomatch z) h
 | int i=>obtain⟨t,q⟩:=(show ∃t,u=Value.int i t from rx);cases q;exact kia_one PySem.W.kitx_int I.kIn True.intro e (λz=>nomatch z) h
 | str y=>obtain⟨t,q⟩:=(show ∃t,u=Value.str y t from rx);cases q;exact kia_one PySem.W.kitx_str I.kIn True.intro e (λz=>nomatch z) h
 | flt y=>obtain⟨t,q⟩:=(show ∃t,u=Value.float y t from rx);cases q;exact kia_one PySem.W.kitx_float I.kIn True.intro e (λz=>nomatch z) h
 | @lst a xs ea=>
  cases (show u=Value.ref a from rx)
  obtain⟨_,_,n,_,h1⟩:=(show Bo X.prog X.w H s.heap a (.lst xs) from I.hok a _ ea)
  exact kia_one PySem.W.kitx_list I.kIn ⟨_,h1,rq⟩ e (λz=>nomatch z) h
 | @frz a ob xs ea=>
  cases (show u=Value.ref a from rx)
  obtain⟨_,_,_,n,_,h1⟩:=(show Bo X.prog X.w H s.heap a (.frz ob (.lst xs)) from I.hok a _ ea)
  exact kia_one PySem.W.kitx_list I.kIn ⟨_,h1,rq⟩ e (λz=>nomatch z) h
 | @tup a xs ea=>
  cases (show u=Value.ref a from rx)
  obtain⟨_,_,_,p⟩:=(show Bo X.prog X.w H s.heap a (.tup xs) from I.hok a _ ea)
  obtain⟨o,h1,h2,_⟩:=p;exact kia_one PySem.W.kitx_tuple I.kIn ⟨o,h1,h2⟩ e (λz=>nomatch z) h
 | @dK a kvs ea=>
  cases (show u=Value.ref a from rx)
  obtain⟨_,_,vs,_,p⟩:=(show Bo X.prog X.w H s.heap a (.dK kvs) from I.hok a _ ea)
  obtain⟨o,es,ep,h1,h2,_⟩:=p;exact kia_one PySem.W.kitx_dict I.kIn ⟨o,h1,h2.1⟩ e (λz=>nomatch z) h
 | @dT a kvs ea=>
  cases (show u=Value.ref a from rx)
  obtain⟨_,_,xs,_,o,es,ep,h1,h2,_⟩:=(show Bo X.prog X.w H s.heap a (.dT kvs) from I.hok a _ ea)
  exact kia_one PySem.W.kitx_dict I.kIn ⟨o,h1,h2.1⟩ e (λz=>nomatch z) h
 | @ins a C dx fs ea cl ha hn htk hm=>
  cases (show u=Value.ref a from rx)
  obtain⟨mA,O,_⟩:=Ma I.hok ea;obtain⟨od,J,_⟩:=O.look;exact kia_one (PySem.W.kitx_own (cl.get _) cl.hd ha hn htk hm) I.kIn J e (λz=>nomatch z) h
end
structure Br (k:Nat) (A:Around):Prop where
 hd:A.handled=none
 dp:A.depth+3*k+5 < recursionLimit
 un:A.units+16*k+200 < cLine
theorem Br.mono {j k:Nat} {A:Around} (r:Br k A) (h:j<=k):Br j A:=⟨r.hd,by have:=r.dp;omega,by have:=r.un;omega⟩
theorem Br.deeper {k:Nat} {A:Around} (r:Br (k+1) A) (env:Env):Br k (A.deeper env):=
 ⟨r.hd,by have:=r.dp;show A.depth+1+3*k+5 < _;omega,by have:=r.un;show A.units+3+16*k+200 < _;omega⟩
theorem Br.in1 {k:Nat} {A:Around} (r:Br (k+1) A):Br k A.in1:=
 ⟨r.hd,by have:=r.dp;show A.depth+3*k+5 < _;omega,by have:=r.un;show A.units+1+16*k+200 < _;omega⟩
theorem V9 {A:Around} {C:Addr} {us:YE} {kw:List (Str×Value)}:(A.under (.builtin "type.__call__" ⟨.ref C::us,kw⟩)).depth=A.depth+1:=by
 first | rfl | simp[Around.under,Code.weight,Code.isCreation,Code.isGuard,Code.isCaller,Code.frames,Code.isFrame,guardIds]
theorem V8 {A:Around} {C:Addr} {us:YE} {kw:List (Str×Value)}:(A.under (.builtin "type.__call__" ⟨.ref C::us,kw⟩)).units=A.units+1:=by
 first | rfl | simp[Around.under,Code.cUnits,Code.frames,Code.isFrame]
theorem Br.make {k:Nat} {A:Around} (r:Br (k+1) A) (C:Addr) (us:YE) (kw:List (Str×Value)):Br k (A.under (.builtin "type.__call__" ⟨.ref C::us,kw⟩)):=
 ⟨r.hd,by have:=r.dp;rw[V9];omega,by have:=r.un;rw[V8];omega⟩
theorem Br.depth {k:Nat} {A:Around} (r:Br k A):A.depth < recursionLimit:=by have:=r.dp;omega
theorem Br.units {k:Nat} {A:Around} (r:Br k A):A.units+64 < cLine:=by have:=r.un;omega
def IK:TA:=λ_ H Q=>Q [] H
def Dq (ta:TE) (tr:TA):TA:=fun Z H Q=>ta Z H λx H1=>tr Z H1 λxs H2=>Q (x::xs) H2
section
variable {X:Cx} {e:Expr} {es:YJ} {te:TE} {t:TA} {pos:Pos}
theorem Ab:PA X [] IK:=λ_ _ _ _ H Q I h=>Calls.spliced_nil ⟨[],H,I,.nil,h⟩
theorem Aa (ha:PE X e te) (hr:PA X es t) (hs:starEach (e::es) X.env=(false,eval e X.env)::starEach es X.env:=by rfl):PA X (e::es) (Dq te t):=by
 intro pos jb s Z H Q I h;rw[hs];show wpAny _ _ (spliced ((false,eval e X.env)::backTo pos (starEach es X.env))) _ _ s;refine QaW (thn (ha jb s Z H _ I h) λu s1 zz=>?_);obtain⟨x,H1,I1,r1,q1⟩:=zz;refine thn (hr pos jb s1 Z H1 _ I1 q1) λus s2 zz=>?_;obtain⟨xs,H2,I2,r2,q2⟩:=zz;exact⟨x::xs,H2,I2,.cons r1 r2,q2⟩
def pq (t:TA):TE:=fun Z H Q=>t Z H λxs H1=>xs.length<=sizeLine/\∀p,H1 p=none->Q (.ref p) (upd H1 p (.tup xs))
def pD (t:TA):TE:=fun Z H Q=>t Z H λxs H1=>xs.length<=sizeLine/\∀p,H1 p=none->Q (.ref p) (upd H1 p (.lst xs))
theorem Gg {x1} (h:PA X es t):PE X (.Tuple es x1 pos) (pq t):=by
 intro jb s Z H Q I hq;refine wpAny_Tuple_spliced (thn (h pos jb s Z H _ I hq) λus s1 zz=>?_);obtain⟨xs,H1,I1,r,z,q⟩:=zz;refine⟨by rw[<-r.length];exact z,?_⟩;have hf:H1 s1.heap.objs.size=none:=I1.hok.fresh (QbZ _);refine⟨.ref s1.heap.objs.size,upd H1 s1.heap.objs.size (.tup xs),I1.laid (t':=s1.toks) (λb u e=>Qaq _ e) (QbZ _) ?_,rq,q _ hf⟩;exact⟨z,us,r,⟨_,QaF _ rfl,rq,_,rq⟩⟩
theorem BL (h:PA X es t):PE X (.List es pos) (pD t):=by
 intro jb s Z H Q I hq;refine wpAny_List_spliced (thn (h pos jb s Z H _ I hq) λus s1 zz=>?_);obtain⟨xs,H1,I1,r,z,q⟩:=zz;refine⟨by rw[<-r.length];exact z,?_⟩;have hf:H1 s1.heap.objs.size=none:=I1.hok.fresh (QbZ _);refine⟨.ref s1.heap.objs.size,upd H1 s1.heap.objs.size (.lst xs),I1.laid (t':=s1.toks) (λb u e=>Qaq _ e) (QbZ _) ?_,rq,q _ hf⟩;exact⟨z,us,0,r,QaF _ rfl⟩
end
abbrev Sp:=YG->Hp->VK->XK->Prop
abbrev CXT:=List Env->Hp->Shared->XK->YA
structure Ij (P:Program) (w:World) (K:YD) (mg:YB) (base:Heap) (A:Around) (outer:List Env) (s:Shared) (H:Hp):Prop where
 frames:A.frames=some outer
 mod:Mod K mg base
 bs:∀b o,base.get? b=some o->s.heap.get? b=some o/\H b=none
 bsz:base.objs.size<=s.heap.objs.size
 DY:s.heap.FunFrames base outer
 frf:∀b∈frs outer,H b=none
 hok:HOk P w H s.heap
 bare:AllBare s.gens
def CE (outer:List Env) (P:Program) (w:World) (H:Hp) (s:Shared) (Q:VK) (u:Value) (s':Shared):Prop:=
 ∃v H',s'.os=s.os/\AllBare s'.gens/\Un (frs outer) [] H H' s.heap s'.heap/\HOk P w H' s'.heap/\RelV v u/\Q v H'
def CR (CX:CXT) (outer:List Env) (P:Program) (w:World) (H:Hp) (s:Shared) (Q:VK) (E:XK) (r:Result) (s':Shared):Prop:=
 match r with
 | .ok (.ret u)=>CE outer P w H s Q u s'
 | .ok _=>False
 | .error e=>CX outer H s E e s'
structure DK (P:Program) (w:World) (K:YD) (mg:YB) (base:Heap) (CX:CXT) (k:Nat) (f:Addr) (fd:FuncData) (ps:YF) (sp:Sp):Prop where
 len:∀vs H Q E,sp vs H Q E->vs.length=ps.length
 run:∀(A:Around) (outer:List Env) (s:Shared) (H:Hp) (args:Args) (us:YE) (vs:YG) (Q:VK) (E:XK),Br k A->Ij P w K mg base A outer s H->BindsTo s fd args (ps.zip us)->Vals vs us->sp vs H Q E ->
  codeAny (model P w) A (.call (.ref f) args) (CR CX outer P w H s Q E) s
theorem DK.imp {P:Program} {w:World} {K:YD} {mg:YB} {base:Heap} {CX:CXT} {k:Nat} {f:Addr} {fd:FuncData} {ps:YF} {sp sp':Sp} (F:DK P w K mg base CX k f fd ps sp)
  (h:∀vs H Q E,sp' vs H Q E->sp vs H Q E):DK P w K mg base CX k f fd ps sp':=
 ⟨λvs H Q E q=>F.len vs H Q E (h _ _ _ _ q),λA outer s H args us vs Q E hr he hb hv hs=>F.run A outer s H args us vs Q E hr he hb hv (h _ _ _ _ hs)⟩
theorem Ij.make {P:Program} {w:World} {K:YD} {mg:YB} {base:Heap} {A:Around} {outer:List Env} {s:Shared} {H:Hp} (e:Ij P w K mg base A outer s H) (C:Addr) (us:YE) (kw:List (Str×Value)) :
  Ij P w K mg base (A.under (.builtin "type.__call__" ⟨.ref C::us,kw⟩)) outer s H:=⟨by first | exact e.frames | (simpa [Around.under,Code.envs,Code.isFrame,pushEnvs] using e.frames),e.mod,e.bs,e.bsz,e.DY,e.frf,e.hok,e.bare⟩
theorem Ij.in1 {P:Program} {w:World} {K:YD} {mg:YB} {base:Heap} {A:Around} {outer:List Env} {s:Shared} {H:Hp} (e:Ij P w K mg base A outer s H) :
  Ij P w K mg base A.in1 outer s H:=⟨e.frames,e.mod,e.bs,e.bsz,e.DY,e.frf,e.hok,e.bare⟩
section
variable {X:Cx} {jb:YC} {Z : St} {H:Hp} {s s':Shared}
theorem Inv.env0 (I:Inv X jb Z H s):Ij X.prog X.w X.K X.mg X.base X.A X.stack s H:=
 ⟨I.ok.frames,I.ok.mod,I.bs,QbU I.ok.bsz I.sz,I.stack,I.Oz,I.hok,I.bare⟩
theorem Inv.after {Q:VK} {u:Value} (I:Inv X jb Z H s) (h:CE X.stack X.prog X.w H s Q u s'):EP X jb Z Q u s':=by
 obtain⟨v,H',os,bare,un,hok,r,q⟩:=h;obtain⟨hh,g,d,t,os'⟩:=s';obtain rfl:os'=s.os:=os;exact⟨v,H',I.call (h':=hh) (g':=g) (d':=d) (t':=t) (ch:=[]) un hok bare (λb z=>absurd z (by simp)),r,q⟩
end
def Ni (sp:Sp) (dvs:YG) (E:XK) (t:TA):TE:=fun Z H Q=>t Z H λvs H1=>sp (vs++dvs) H1 Q E
def Qq (C:Addr) (m:Str) (sp:Sp) (dvs:YG) (E:XK) (ta:TE) (t:TA):TE:=fun Z H Q=>ta Z H λx H1=>∃a dx fs,x=.ref a/\H1 a=some (.ins C dx fs)/\fs.lookup m=none /\
 t Z H1 λvs H2=>sp (x::(vs++dvs)) H2 Q E
def d9 (C:Addr) (sp:Sp) (dvs:YG) (E:XK) (t:TA):TE:=fun Z H Q=>t Z H λvs H1=>∀x dx,H1 x=none->H1 dx=none->dx≠x ->
 sp (.ref x::(vs++dvs)) (upd (upd H1 dx (.own x)) x (.ins C dx [])) (λv H2=>v=.non/\Q (.ref x) H2) E
def Binds (K:YD) (fd:FuncData) (ps:YF) (ds:YE):Prop:=
 ∀(s:Shared) (us:YE),K.In s.heap->(us++ds).length=ps.length->BindsTo s fd ⟨us,[]⟩ (ps.zip (us++ds))
theorem Binds.all {K:YD} {fd:FuncData} {ps:YF} (h:∀us:YE,us.length=ps.length->bindArgs fd ⟨us,[]⟩=pure (ps.zip us)):Binds K fd ps []:=λs us _ hl=>by
 rw[Qby] at hl ⊢;exact .of_eq (h us hl)
def Passes (CX:CXT) (X:Cx) (E:XK):Prop:=∀(jb:YC) (Z : St) (H:Hp) (s:Shared) (e:Value) (s':Shared),Inv X jb Z H s->CX X.stack H s E e s'->X.xe e s'
section
variable {X:Cx} {CX:CXT} {k:Nat} {f C:Addr} {fd:FuncData} {ps:YF} {sp:Sp} {dvs:YG} {ds:YE} {E:XK} {x m:Str} {p pos apos:Pos} {e o:Expr} {es:YJ} {ta:TE} {t:TA}
theorem Ny {jb:YC} {Z : St} {H:Hp} {s:Shared} {Q:VK} {us:YE} {vs:YG} (F:DK X.prog X.w X.K X.mg X.base CX k f fd ps sp) (hr:Br k X.A) (hb:Binds X.K fd ps ds) (hd:Vals dvs ds) (hx:Passes CX X E)
  (I:Inv X jb Z H s) (r:Vals vs us) (h:sp (vs++dvs) H Q E):wpAny (model X.prog X.w) X.A (call (.ref f) us) (EP X jb Z Q) X.xe s:=by
 have r2:Vals (vs++dvs) (us++ds):=r.append hd;have hl:(us++ds).length=ps.length:=by rw[<-r2.length];exact F.len _ _ _ _ h
 refine wpAny_call (QbY (F.run X.A X.stack s H ⟨us,[]⟩ (us++ds) (vs++dvs) Q E hr I.env0 (hb s us I.kIn hl) r2 h) λr s' hq=>?_);cases r with
 | error e=>exact hx jb Z H s e s' I hq
 | ok fl=>
  cases fl with
  | ret u=>exact I.after hq
  | next=>exact False.elim hq
  | brk=>exact False.elim hq
  | cont=>exact False.elim hq
theorem gD (F:DK X.prog X.w X.K X.mg X.base CX k f fd ps sp) (hr:Br k X.A) (hg:Gl X x) (hm:X.mg x=some (.ref f)) (hk:keepIn X.K (.ref f)=true) (hb:Binds X.K fd ps ds) (hd:Vals dvs ds) (hx:Passes CX X E)
  (ha:PA X (e::es) t) (hdb:(x == ("__debug__":Str))=false:=by decide) (he:starEach (e::es) X.env=(false,eval e X.env)::starEach es X.env:=by rfl) (hpl:(backTo pos (starEach es X.env)).any (·.1)=false:=by rfl) :
  PE X (.Call (.Name x p) (e::es) [] pos) (Ni sp dvs E t):=by
 intro jb s Z H Q I h;refine QaT (Hj I hg hm ?_ hdb);refine callWith_K (h₀:=X.base) I.ok.mod.kin hk (thn (ha pos jb s Z H _ I h) λus s1 zz=>?_) he hpl;obtain⟨vs,H1,I1,r,q⟩:=zz;refine⟨I1.kIn,?_⟩;exact Ny F hr hb hd hx I1 r q
theorem ZL (F:DK X.prog X.w X.K X.mg X.base CX k f fd ps sp) (hr:Br k X.A) (hg:Gl X x) (hm:X.mg x=some (.ref f)) (hk:keepIn X.K (.ref f)=true) (hb:Binds X.K fd ps ds) (hd:Vals dvs ds) (hx:Passes CX X E)
  (hdb:(x == ("__debug__":Str))=false:=by decide):PE X (.Call (.Name x p) [] [] pos) (Ni sp dvs E IK):=by
 intro jb s Z H Q I h;refine QaT (Hj I hg hm ?_ hdb);exact PySem.W.callWith_K0 I.kIn hk (Ny (us:=[]) F hr hb hd hx I .nil h)
theorem gw {pl:Sem Bool} (he:PE X o ta) (c:Cls X.K C) (hm:Meth X.K C m f) (F:DK X.prog X.w X.K X.mg X.base CX k f fd ps sp) (hr:Br k X.A) (hb:Binds X.K fd ps ds) (hd:Vals dvs ds) (hx:Passes CX X E) (ha:PA X (e::es) t)
  (hst:starEach (e::es) X.env=(false,eval e X.env)::starEach es X.env:=by rfl) (hpl:(backTo pos (starEach es X.env)).any (·.1)=false:=by rfl)
  (ht:eval (.Call (.Attribute o m apos) (e::es) [] pos) X.env=(do
   let ov <-eval o X.env
   standAt apos.atName
   let (f,first) <-holding [ov] (getMethod ov m pl)
   callWith pos f first (backTo pos (starEach (e::es) X.env)) (backToKw pos (keywordEach [] X.env))):=by rfl) :
  PE X (.Call (.Attribute o m apos) (e::es) [] pos) (Qq C m sp dvs E ta t):=by
 intro jb s Z H Q I h;refine methodCall_KW (pl:=pl) (thn (he jb s Z H _ I h) λu s1 zz=>?_) ht;obtain⟨x,H1,I1,rx,a,dx,fs,ex,ea,l,q⟩:=zz;subst ex;obtain rfl:u=Value.ref a:=rx;refine Ip I1 ea c hm l ?_;refine callWith_K (first:=[.ref a]) (h₀:=X.base) I.ok.mod.kin hm.kp (thn (ha pos jb s1 Z H1 _ I1 q) λus s2 zz=>?_) hst hpl
 obtain⟨vs,H2,I2,r,q2⟩:=zz;refine⟨I2.kIn,?_⟩;exact Ny (us:=.ref a::us) (vs:=.ref a::vs) F hr hb hd hx I2 (.cons rfl r) q2
theorem ZG {pl:Sem Bool} (he:PE X o ta) (c:Cls X.K C) (hm:Meth X.K C m f) (F:DK X.prog X.w X.K X.mg X.base CX k f fd ps sp) (hr:Br k X.A) (hb:Binds X.K fd ps ds) (hd:Vals dvs ds) (hx:Passes CX X E)
  (ht:eval (.Call (.Attribute o m apos) [] [] pos) X.env=(do
   let ov <-eval o X.env
   standAt apos.atName
   let (f,first) <-holding [ov] (getMethod ov m pl)
   callWith pos f first (backTo pos (starEach [] X.env)) (backToKw pos (keywordEach [] X.env))):=by rfl) :
  PE X (.Call (.Attribute o m apos) [] [] pos) (Qq C m sp dvs E ta IK):=by
 intro jb s Z H Q I h;refine methodCall_KW (pl:=pl) (thn (he jb s Z H _ I h) λu s1 zz=>?_) ht;obtain⟨x,H1,I1,rx,a,dx,fs,ex,ea,l,q⟩:=zz;subst ex;obtain rfl:u=Value.ref a:=rx;refine Ip I1 ea c hm l ?_;exact PySem.W.callWith_K0 (first:=[.ref a]) I1.kIn hm.kp (Ny (us:=[.ref a]) (vs:=[.ref a]) F hr hb hd hx I1 (.cons rfl .nil) q)
structure Mk (K:YD) (C f:Addr):Prop where
 makes:PySem.W.makesIn K C=true
 init:findIn K (.ref C) "__init__"=some (some (.ref f))
 fn:isFn K (.ref f)=true
 kp:keepIn K (.ref C)=true
theorem Zo {jb:YC} {Z : St} {H:Hp} {s:Shared} {Q:VK} {us:YE} {vs:YG} (M:Mk X.K C f) (F:DK X.prog X.w X.K X.mg X.base CX k f fd ps sp) (hr:Br (k+1) X.A) (hb:Binds X.K fd ps ds) (hd:Vals dvs ds)
  (hx:Passes CX X E) (I:Inv X jb Z H s) (r:Vals vs us)
  (h:∀x dx,H x=none->H dx=none->dx≠x->sp (.ref x::(vs++dvs)) (upd (upd H dx (.own x)) x (.ins C dx [])) (λv H2=>v=.non/\Q (.ref x) H2) E) :
  wpAny (model X.prog X.w) X.A (call (.ref C) us) (EP X jb Z Q) X.xe s:=by
 have hq:=h (s.heap.objs.size+1) s.heap.objs.size (I.hok.fresh (Nat.le_succ _)) (I.hok.fresh (QbZ _)) (QbT (Qbo _));have I2:=Inv.made (C:=C) I;have r2:Vals (V.ref (s.heap.objs.size+1)::(vs++dvs)) (Value.ref (s.heap.objs.size+1)::(us++ds)):=.cons rfl (r.append hd);have hl:(Value.ref (s.heap.objs.size+1)::us++ds).length=ps.length:=by
  have e:=r2.length;rw[F.len _ _ _ _ hq] at e;exact e.symm
 refine wpAny_call (Z4 (f:=f) I.kIn M.makes M.init (beq_iff_eq.mp M.fn) (QbY (F.run _ X.stack _ _ ⟨Value.ref (s.heap.objs.size+1)::us,[]⟩ (Value.ref (s.heap.objs.size+1)::(us++ds)) _ _ E (hr.make C us [])
  (I2.env0.make C us []) (hb _ (Value.ref (s.heap.objs.size+1)::us) I2.kIn hl) r2 hq) λr s' hq'=>?_))
 cases r with
 | error e=>exact hx jb Z _ _ e s' I2 hq'
 | ok fl=>
  cases fl with
  | ret u=>
   obtain⟨v,H',I3,rv,ev,q3⟩:=I2.after hq';subst ev;exact⟨rv,⟨V.ref (s.heap.objs.size+1),H',I3,rq,q3⟩⟩
  | next=>exact False.elim hq'
  | brk=>exact False.elim hq'
  | cont=>exact False.elim hq'
theorem gB (M:Mk X.K C f) (F:DK X.prog X.w X.K X.mg X.base CX k f fd ps sp) (hr:Br (k+1) X.A) (hg:Gl X x) (hm:X.mg x=some (.ref C)) (hb:Binds X.K fd ps ds) (hd:Vals dvs ds) (hx:Passes CX X E)
  (ha:PA X (e::es) t) (hdb:(x == ("__debug__":Str))=false:=by decide) (he:starEach (e::es) X.env=(false,eval e X.env)::starEach es X.env:=by rfl) (hpl:(backTo pos (starEach es X.env)).any (·.1)=false:=by rfl) :
  PE X (.Call (.Name x p) (e::es) [] pos) (d9 C sp dvs E t):=by
 intro jb s Z H Q I h;refine QaT (Hj I hg hm ?_ hdb);refine callWith_K (h₀:=X.base) I.ok.mod.kin M.kp (thn (ha pos jb s Z H _ I h) λus s1 zz=>?_) he hpl;obtain⟨vs,H1,I1,r,q⟩:=zz;refine⟨I1.kIn,?_⟩;exact Zo M F hr hb hd hx I1 r q
end
def PK (X:Cx) (kws:List Keyword) (t:TA):Prop:=
 ∀(pos:Pos) (jb:YC) (s:Shared) (Z : St) (H:Hp) (Q:YG->Hp->Prop),Inv X jb Z H s->t Z H Q->wpAny (model X.prog X.w) X.A (evalAll ((backToKw pos (keywordEach kws X.env)).map (·.2))) (AP X jb Z Q) X.xe s
section
variable {X:Cx} {CX:CXT} {k:Nat} {f C:Addr} {fd:FuncData} {ps ks:YF} {sp:Sp} {E:XK} {x m:Str} {p pos apos kpos:Pos} {e o:Expr} {es:YJ} {kws:List Keyword} {te ta:TE} {t tk:TA} {nm:Option Str}
theorem jz:PK X [] IK:=λ_ _ _ _ H Q I h=>wpAny_evalAll_nil ⟨[],H,I,.nil,h⟩
theorem gq (ha:PE X e te) (hr:PK X kws t):PK X (⟨nm,e,kpos⟩::kws) (Dq te t):=by
 intro pos jb s Z H Q I h;show wpAny _ _ (evalAll ((do let v <-eval e X.env;standAt pos;pure v)::(backToKw pos (keywordEach kws X.env)).map (·.2))) _ _ s
 refine wpAny_evalAll_cons (Qcb (thn (ha jb s Z H _ I h) λu s1 zz=>?_));obtain⟨x,H1,I1,r1,q1⟩:=zz;refine Qcb (QbR (Qcc ?_));refine thn (hr pos jb s1 Z H1 _ I1 q1) λus s2 zz=>?_;obtain⟨xs,H2,I2,r2,q2⟩:=zz;exact⟨x::xs,H2,I2,.cons r1 r2,q2⟩
variable {g:YE->YE->YE} {gV:YG->YG->YG}
end
structure Ba (N P:YF) (sc:Scope):Prop where
 kind:sc.kind=.function
 co:sc.isCoroutine=false
 gen:sc.isGenerator=false
 nd:N.Nodup
 pre:N.take P.length=P
 par:∀x∈P,sc.names.lookup x=some .local\/sc.names.lookup x=some .cell
 Ru:∀y∈sc.names,y.2≠.free
theorem Qa {kindOf:Str->Option NameKind} {x:Str}:∀{binds:List (Str×Value)} {m:YB},(∀v,(x,v)∉binds)->bindL kindOf binds m x=m x
 | [],_,_=>rfl
 | (n,v)::r,m,h=>by
  unfold bindL;rw[Qa λw hw=>h w (QaA _ hw)];split
  ·have:x≠n:=by rintro rfl;exact h v QaQ
   simp[this]
  ·rfl
theorem Qd {kindOf:Str->Option NameKind} {x:Str}:∀{binds:List (Str×Value)} {m:YB},(∀v,(x,v)∉binds)->bindC kindOf binds m x=m x
 | [],_,_=>rfl
 | (n,v)::r,m,h=>by
  unfold bindC;rw[Qd λw hw=>h w (QaA _ hw)];split
  ·rfl
  ·have:x≠n:=by rintro rfl;exact h v QaQ
   simp[this]
theorem Qc {kindOf:Str->Option NameKind} {x:Str} {v:Value}:∀{P:YF} {vs:YE} {i:Nat} {m:YB},P.Nodup->P[i]?=some x->vs[i]?=some v->kindOf x=some .local ->
  bindL kindOf (P.zip vs) m x=some v
 | [],_,_,_,_,h,_,_=>by simp at h
 | _::_,[],_,_,_,_,h,_=>by simp at h
 | p::P,w::vs,0,m,nd,h1,h2,hk=>by
  simp at h1 h2;subst h1;subst h2;show bindL kindOf ((p,w)::P.zip vs) m p=_;unfold bindL;rw[Qa λv hv=>(QbB.mp nd).1 (List.of_mem_zip hv).1,if_pos hk];simp
 | p::P,w::vs,i+1,m,nd,h1,h2,hk=>by
  show bindL kindOf ((p,w)::P.zip vs) m x=_;unfold bindL;exact Qc (i:=i) (QbB.mp nd).2 (by simpa using h1) (by simpa using h2) hk
theorem Qe {kindOf:Str->Option NameKind} {x:Str} {v:Value}:∀{P:YF} {vs:YE} {i:Nat} {m:YB},P.Nodup->P[i]?=some x->vs[i]?=some v->kindOf x≠some .local ->
  bindC kindOf (P.zip vs) m x=some v
 | [],_,_,_,_,h,_,_=>by simp at h
 | _::_,[],_,_,_,_,h,_=>by simp at h
 | p::P,w::vs,0,m,nd,h1,h2,hk=>by
  simp at h1 h2;subst h1;subst h2;show bindC kindOf ((p,w)::P.zip vs) m p=_;unfold bindC;rw[Qd λv hv=>(QbB.mp nd).1 (List.of_mem_zip hv).1,if_neg hk];simp
 | p::P,w::vs,i+1,m,nd,h1,h2,hk=>by
  show bindC kindOf ((p,w)::P.zip vs) m x=_;unfold bindC;exact Qe (i:=i) (QbB.mp nd).2 (by simpa using h1) (by simpa using h2) hk
def start (N:YF) (vs:YG):St:=vs.map some++List.replicate (N.length - vs.length) none
def Ih (CX:CXT) (P:Program) (w:World) (K:YD) (mg:YB) (base:Heap) (N:YF) (qual:Str) (scope:Scope) (f:Addr) (cd:Value) (A:Around) (outer:List Env) (s:Shared) (H:Hp) (E:XK):Cx where
 prog:=P
 w:=w
 K:=K
 mg:=mg
 base:=base
 A:=A.deeper (envOfC qual scope s.heap.objs.size f cd)
 N:=N
 s₀:=s
 H₀:=H
 env:=envOfC qual scope s.heap.objs.size f cd
 outer:=outer
 stack:=envOfC qual scope s.heap.objs.size f cd::outer
 ex:=[]
 calm:=true
 fn:=λ_=>true
 pn:=[]
 xe:=λe s'=>wpAny (model P w) (A.deeper (envOfC qual scope s.heap.objs.size f cd)) (leaving (envOfC qual scope s.heap.objs.size f cd) e) (λ_ s''=>CX outer H s E e s'') (λe' s''=>CX outer H s E e' s'') s'
theorem SN {sc:Scope} {n:Nat} {x:Str} (h:sc.names.lookup x=some .cell):∃c,(cellsFrom n sc.names []).lookup x=some c:=by
 have q:=PySem.W.cellsFrom_some sc.names n [] (.inl h);exact Option.isSome_iff_exists.mp q
theorem PL {CX:CXT} {P:Program} {w:World} {K:YD} {mg:YB} {base:Heap} {N ps:YF} {qual:Str} {scope:Scope} {f:Addr} {cd:Value} {A:Around} {outer:List Env} {s s1:Shared} {H:Hp} {E:XK} {us:YE} {vs:YG}
  (S:Ba N ps scope) (hd:A.handled=none) (e0:Ij P w K mg base A outer s H) (hl:vs.length=ps.length) (r:Vals vs us)
  (x:InCallC s s.heap.objs.size (bindL (envOfC qual scope s.heap.objs.size f cd).kindOf (ps.zip us) λ_=>none) (cellsFrom (s.heap.objs.size+1) scope.names []) (bindC (envOfC qual scope s.heap.objs.size f cd).kindOf (ps.zip us) λ_=>none) s1) :
  Inv (Ih CX P w K mg base N qual scope f cd A outer s H E) [] (start N vs) H s1:=by
 have hpl:ps.length<=N.length:=by have:=congrArg List.length S.pre;rw[Qbk] at this;omega
 obtain⟨h1,tk,rfl,hk⟩:=x.done;have noA:∀b:Addr,b∉(Ih CX P w K mg base N qual scope f cd A outer s H E).ex:=λb z=>absurd (show b∈([]:List Addr) from z) (by simp)
 refine⟨⟨e0.mod,S.kind,rq,rq,QbZ _,λy z c h1 h2=>?_,λy hy=>?_,λy c _ h=>?_,λ_=>hd,Around.frames_deeper e0.frames,.inr ⟨rq,rq⟩,λb z=>absurd z (noA b),e0.bs,e0.bsz,λb _ _=>noA b,λb z=>absurd z (noA b),e0.DY,e0.frf⟩,
  rfl,e0.bare,Un.kept hk,⟨_,x.toInCall.ns,λi y v h1 h2 h3=>?_⟩,λy c h=>⟨_,x.cell y c h⟩,e0.hok.fresh (QbZ _),λy c h=>?_,λp hp=>absurd (show p∈([]:YC) from hp) (by simp),e0.hok.kept hk,?_⟩
 ·exact name_of_addr x.apart (QaJ h1) (QaJ h2)
 ·have hy:scope.names.lookup y=some .cell\/scope.names.lookup y=some .free:=hy;rcases hy with hy | hy
  ·exact SN hy
  ·exact absurd rfl (S.Ru _ (QaJ hy))
 ·exact QbW (x.above y c (QaJ h))
 ·have hi:i < vs.length:=by
   unfold start at h2;by_cases hi:i < vs.length
   ·exact hi
   ·rw[Qag (by simpa using hi)] at h2;rw[List.getElem?_replicate] at h2;split at h2 <;> cases h2
  have ha:vs[i]?=some v:=by
   unfold start at h2;rw[Qaj (by simpa using hi),Qba] at h2;cases e:vs[i]? with
   | none=>rw[e] at h2;cases h2
   | some a=>rw[e] at h2;cases h2;rfl
  obtain⟨u,hu,rv⟩:=r.get ha;have hp:ps[i]?=some y:=by
   rw[<-S.pre,List.getElem?_take_of_lt (by omega)];exact h1
  have ndP:ps.Nodup:=by rw[<-S.pre];exact S.nd.sublist (List.take_sublist _ _)
  refine⟨u,rv,?_⟩;rcases S.par y (Qaz hp) with k | k
  ·exact .inl ⟨k,Qc ndP hp hu k⟩
  ·obtain⟨c,e⟩:=SN (n:=s.heap.objs.size+1) k;refine .inr ⟨.inl k,c,e,?_⟩;have q:=x.cell y c e;rw[Qe ndP hp hu (by show scope.names.lookup y≠_;rw[k];decide)] at q;exact q
 ·exact e0.hok.fresh (QbW (x.above y c (QaJ h)))
 ·unfold start;show _=N.length;rw[QaN,Qbt,Qav];omega
theorem fD {CX:CXT} {P:Program} {w:World} {K:YD} {mg:YB} {base:Heap} {k:Nat} {f:Addr} {name qual:Str} {params:Arguments} {body:List Stmt} {scope:Scope} {dV kV doc pm cdv ct oc:Value} {an od:Option Addr}
  {osl:YI} {N ps:YF} {sp:Sp} (lk:K.lookup f=some ⟨oc,od,.func (fnOf name qual params body scope dV kV doc pm an cdv ct),osl⟩) (hcd:codeIn K cdv qual=true) (S:Ba N ps scope)
  (len:∀vs H Q E,sp vs H Q E->vs.length=ps.length)
  (hbody:∀(A:Around) (outer:List Env) (s:Shared) (H:Hp) (vs:YG) (Q:VK) (E:XK),Br k (A.deeper (envOfC qual scope s.heap.objs.size f cdv))->sp vs H Q E ->
   ∃t,PSs (Ih CX P w K mg base N qual scope f cdv A outer s H E) body t/\t { nx:=λ_ H'=>Q .non H',rt:=Q } (start N vs) H) :
  DK P w K mg base CX (k+1) f (fnOf name qual params body scope dV kV doc pm an cdv ct) ps sp:=by
 refine⟨len,λA outer s H args us vs Q E hr e0 hb r hsp=>?_⟩;have hl:=len _ _ _ _ hsp;have KX:K.In s.heap:=e0.mod.kin.keeps λb o e=>(e0.bs b o e).1;have lim:s.heap.NoLimit:=e0.mod.nolimit.keeps λb o e=>(e0.bs b o e).1;have hkind:∀y∈ps.zip us,scope.names.lookup y.1=some .local\/(scope.names.lookup y.1=some .cell/\((cellsFrom (s.heap.objs.size+1) scope.names []).lookup y.1).isSome=true):=λ⟨n,v⟩ hy=>by
  rcases S.par n (List.of_mem_zip hy).1 with q | q
  ·exact .inl q
  ·exact .inr ⟨q,PySem.W.cellsFrom_some _ _ _ (.inl q)⟩
 refine codeAny_call_function hr.depth (KX _ _ lk) rfl S.co S.gen rfl (PySem.W.codeRec_of KX hcd) (hb _ _ _ _ ?_);refine wpAny_newFunctionEnv_cells S.kind hkind λenv he s1 x=>?_;subst he;refine⟨lim.keeps x.toInCall.keep,codeAny_func ?_⟩;obtain⟨t,ht,hq⟩:=hbody A outer s H vs Q E (hr.deeper _) hsp;have I:Inv (Ih CX P w K mg base N qual scope f cdv A outer s H E) [] (start N vs) H s1:=PL S hr.hd e0 hl r x;refine Qcd (ht [] s1 (start N vs) H _ I hq) (λfl s' hs=>?_) λe s' hs=>hs;have fin:∀{σ':St} {H':Hp} {v:V} {u:Value},Inv (Ih CX P w K mg base N qual scope f cdv A outer s H E) [] σ' H' s'->RelV v u->Q v H'->CE outer P w H s Q u s':=
  λ{σ' H' v u} J rv q=>⟨v,H',J.os,J.bare,J.base,J.hok,rv,q⟩
 cases fl with
 | ret u=>
  obtain⟨v,σ',H',J,rv,q⟩:=hs;exact fin J rv q
 | next=>
  obtain⟨σ',H',J,q⟩:=hs;exact fin (v:=V.non) (u:=Value.none) J rfl q
 | brk=>
  obtain⟨_,_,_,q⟩:=hs;exact False.elim q
 | cont=>
  obtain⟨_,_,_,q⟩:=hs;exact False.elim q
section
variable {X:Cx} {x:Str} {p pos:Pos} {e:Expr} {es:YJ} {t:TA} {id T:String} {r:YG->Hp->VK->Prop}
def tCB (r:YG->Hp->VK->Prop) (t:TA):TE:=fun Z H Q=>t Z H λvs H1=>r vs H1 Q
theorem Ak (hc:Dj X (.builtin id) r) (hg:Gl X x) (hm:X.mg x=none) (hv:bootBuiltins x=some (.builtin id)) (ha:PA X (e::es) t) (hn:x≠"__name__":=by decide) (hdb:(x == ("__debug__":Str))=false:=by decide)
  (he:starEach (e::es) X.env=(false,eval e X.env)::starEach es X.env:=by rfl) (hpl:(backTo pos (starEach es X.env)).any (·.1)=false:=by rfl):PE X (.Call (.Name x p) (e::es) [] pos) (tCB r t):=by
 intro jb s Z H Q I h;refine QaT (Gm I hg hm hv ?_ hn hdb);refine PyProof.Rows.callWith_builtin1 (thn (ha pos jb s Z H _ I h) λus s1 zz=>?_) he hpl;obtain⟨vs,H1,I1,r1,q1⟩:=zz;exact hc jb s1 Z H1 vs us Q I1 r1 q1
theorem Hw (hc:Dj X (.type T) r) (hg:Gl X x) (hm:X.mg x=none) (hv:bootBuiltins x=some (.type T)) (ha:PA X (e::es) t) (hn:x≠"__name__":=by decide) (hdb:(x == ("__debug__":Str))=false:=by decide)
  (he:starEach (e::es) X.env=(false,eval e X.env)::starEach es X.env:=by rfl) (hpl:(backTo pos (starEach es X.env)).any (·.1)=false:=by rfl):PE X (.Call (.Name x p) (e::es) [] pos) (tCB r t):=by
 intro jb s Z H Q I h;refine QaT (Gm I hg hm hv ?_ hn hdb);refine Qad (thn (ha pos jb s Z H _ I h) λus s1 zz=>?_) he hpl;obtain⟨vs,H1,I1,r1,q1⟩:=zz;exact hc jb s1 Z H1 vs us Q I1 r1 q1
end
end L2
namespace HT
open PySem PyProof.Rows
section
open PySem.SeqAt
open PySem.AutoSeq1 (wpAny_loadPart')
open PySem.MeetsSeq PySem.MeetsSeq2 PySem.MeetsSeq3
end
section
variable {prog:Program} {w:World} {A:Around} {E:YA} {s:Shared}
def sIx (n d:Nat):Option Int->Nat
 | none=>d
 | some v=>if v < 0 then (v+(n:Int)).toNat else min v.toNat n
theorem jo (n d:Nat) (hd:d<=n) (o:Option Int):sIx n d o<=n:=by
 cases o with
 | none=>exact hd
 | some v=>
  show (if v < 0 then (v+(n:Int)).toNat else min v.toNat n)<=n
  by_cases hv:v < 0
  ·rw[if_pos hv];omega
  ·rw[if_neg hv];exact Nat.min_le_right _ _
theorem Vi (v:Int) (n d:Nat):(if v < 0 then max (v+(n:Int)) 0 else min v (n:Int))=((sIx n d (some v):Nat):Int):=by
 show (if v < 0 then max (v+(n:Int)) 0 else min v (n:Int))=(((if v < 0 then (v+(n:Int)).toNat else min v.toNat n):Nat):Int)
 by_cases hv:v < 0
 ·simp only[if_pos hv];omega
 ·simp only[if_neg hv];omega
theorem WX (lo hi:Option Int) (n:Nat):Builtin.Slice.sliceAdjust lo hi 1 (n:Int)=(((sIx n 0 lo:Nat):Int),((sIx n n hi:Nat):Int)):=by
 have h1:¬((1:Int) < 0):=by omega
 unfold Builtin.Slice.sliceAdjust;simp only[h1,if_false];refine Prod.ext ?_ ?_
 ·cases lo with
  | none=>rfl
  | some v=>exact Vi v n 0
 ·cases hi with
  | none=>rfl
  | some v=>exact Vi v n n
theorem VG (i j:Nat):Builtin.Slice.slicePlaces (i:Int) (j:Int) 1=j - i:=by
 unfold Builtin.Slice.slicePlaces;have h1:(1:Int) > 0:=by omega
 simp only[h1,if_true,Int.ediv_one];split <;> omega
theorem Nu {v:Value} {o:Option Int} {Q:Option Int->Shared->Prop} (p:IsPart v o) (h:Q o s):wpAny (model prog w) A (Builtin.Slice.slicePartIndex v) Q E s:=by
 cases p with
 | none=>exact slicePart_none h
 | int i t=>exact slicePart_int h
theorem Ja {sl:Addr} {vl vu:Value} {lo hi:Option Int} {n:Nat} {Q:Int×Int×Nat->Shared->Prop} (hs:s.heap.IsSliceOf sl vl vu .none) (pl:IsPart vl lo) (pu:IsPart vu hi)
  (h:Q (((sIx n 0 lo:Nat):Int),1,sIx n n hi - sIx n 0 lo) s):wpAny (model prog w) A (Builtin.Slice.sliceApplied (.ref sl) (pure (n:Int))) Q E s:=by
 obtain⟨os,hos,hcs,hds⟩:=id hs;unfold Builtin.Slice.sliceApplied Builtin.Slice.sliceFields;refine Qcb (Qcb (wpAny_field hos hds (x:=vl) rfl (Qcb (wpAny_field hos hds (x:=vu) rfl (Qcb (wpAny_field hos hds (x:=.none) rfl (Qcc ?_)))))));refine Qcb (slicePart_none ?_);show wpAny _ _ (if ((1:Int) == 0)=true then _ else _) _ _ s
 rw[if_neg (by decide)];refine Qcb (Nu pl (Qcb (Nu pu (Qcb (Qcc ?_)))));show wpAny _ _ (match Builtin.Slice.sliceAdjust lo hi 1 (n:Int) with | (lo,hi)=>pure (lo,(1:Int),Builtin.Slice.slicePlaces lo hi 1)) _ _ s
 rw[WX lo hi n];show wpAny _ _ (pure (((sIx n 0 lo:Nat):Int),(1:Int),Builtin.Slice.slicePlaces ((sIx n 0 lo:Nat):Int) ((sIx n n hi:Nat):Int) 1)) _ _ s;rw[VG];exact Qcc h
theorem ZD (xs:Array Value) (i k:Nat):((List.range k).filterMap λ(m:Nat)=>xs[((i:Int)+(m:Int)*1).toNat]?).toArray=((xs.toList.drop i).take k).toArray:=by
 have e:(λ(m:Nat)=>xs[((i:Int)+(m:Int)*1).toNat]?)=λm=>xs[i+m]?:=by
  funext m
  have:((i:Int)+(m:Int)*1).toNat=i+m:=by omega
  rw[this]
 rw[e];have:=pick_run xs i k;rw[List.filterMap_map] at this;have e2:((λx=>xs[x]?) ∘ λx=>i+x)=λm=>xs[i+m]?:=rfl;rw[e2] at this;rw[this]
theorem Mp {t sl:Addr} {items:Array Value} {vl vu:Value} {lo hi:Option Int} {Q:YA} (ht:IsTup s.heap t items) (hs:s.heap.IsSliceOf sl vl vu .none) (pl:IsPart vl lo) (pu:IsPart vu hi)
  (hw:¬(sIx items.size 0 lo=0/\sIx items.size items.size hi=items.size))
  (h:Q (.ref s.heap.objs.size) { s with heap:=s.heap.push { cls:=.type "tuple",data:=.seq ((items.toList.drop (sIx items.size 0 lo)).take (sIx items.size items.size hi - sIx items.size 0 lo)).toArray } })
  (hsz:items.size<=sizeLine):wpAny (model prog w) A (getItem (.ref t) (.ref sl)) Q E s:=by
 have Qv:sizeOk (.seq ((items.toList.drop (sIx items.size 0 lo)).take (sIx items.size items.size hi - sIx items.size 0 lo)).toArray):=by
  show ((items.toList.drop (sIx items.size 0 lo)).take (sIx items.size items.size hi - sIx items.size 0 lo)).toArray.size<=sizeLine;rw[QaZ,Qbk,List.length_drop,QaG];omega
 have hj:sIx items.size items.size hi<=items.size:=jo _ _ (QbZ _) hi;obtain⟨os,hos,hcs,hds⟩:=id hs;have hTs:s.TypeIs (.ref sl) "slice":=⟨os,hos,hcs⟩;unfold getItem
 try with_reducible refine QbP ?_
 first | refine Qcb (Qcc ?_) | skip
 refine Qcb (wpAny_sequenceKey ht.typeIs (by decide) ?_);refine Qcb (Qao (name:=Str.ofString "__getitem__") ht.typeIs Qaa
  (Qbl Qaa ht.typeIs entry_tuple_getitem ?_ (args_tuple_getitem _ _)))
 show wpAny _ _ (Builtin.Tuple.tupleItemsOf (.ref t) >>= _) _ _ s;refine Qcb (tupleItemsOf_ ht ?_);refine Qcb (wpAny_typeOf hTs ?_);rw[if_pos (by decide)];refine Qcb (Ja hs pl pu ?_);have hno:¬((((sIx items.size 0 lo:Nat):Int) == 0&&(1:Int) == 1&&(sIx items.size items.size hi - sIx items.size 0 lo) == items.size)=true):=by
  intro q;rw[Qbm,Qbm] at q;have q1:((sIx items.size 0 lo:Nat):Int)=0:=eq_of_beq q.1.1;have q2:sIx items.size items.size hi - sIx items.size 0 lo=items.size:=eq_of_beq q.2;exact hw ⟨by omega,by omega⟩
 show wpAny _ _ (if (((sIx items.size 0 lo:Nat):Int) == 0&&(1:Int) == 1&&(sIx items.size items.size hi - sIx items.size 0 lo) == items.size)=true then _ else _) _ _ s
 rw[if_neg hno,ZD]
 first
  | exact Qcb (m:=Builtin.Tuple.tupleExact _) (Qbe (Qcc ⟨_,rfl,Qcc h⟩) Qv)
  | exact Qcb (m:=Builtin.Tuple.tupleExact _) (Qbe (Qcb (Qcc (Qcc ⟨_,rfl,Qcc h⟩))) Qv)
  | exact Qcb (Qcb (m:=Builtin.Tuple.tupleExact _) (Qbe (Qcc (Qcc ⟨_,rfl,Qcc h⟩)) Qv))
  | exact Qcb (Qcb (m:=Builtin.Tuple.tupleExact _) (Qbe (Qcc ⟨_,rfl,Qcc h⟩) Qv))
end
end HT
namespace L2
open PySem PySem.Spec PyProof.Rows
abbrev TO:=St->Hp->(Option Int->Hp->Prop)->Prop
def PO (X:Cx) (e:Option Expr) (t:TO):Prop:=
 ∀(jb:YC) (s:Shared) (Z : St) (H:Hp) (Q:Option Int->Hp->Prop),Inv X jb Z H s->t Z H Q ->
  wpAny (model X.prog X.w) X.A (evalPart e X.env) (λu s'=>∃o H',Inv X jb Z H' s'/\IsPart u o/\Q o H') X.xe s
def fQ:TO:=λ_ H Q=>Q none H
def nj (t:TE):TO:=fun Z H Q=>t Z H λx H1=>∃i,x=.int i/\Q (some i) H1
theorem intsAre_of {ns:List Int}:∀{us:YE},Vals (ns.map V.int) us->IntsAre us ns:=by
 induction ns with
 | nil=>intro us r;rw[List.map_nil] at r;cases r;exact .nil
 | cons n ns ih=>
  intro us r;rw[QbM] at r;cases r with
  | cons r1 r2=>
   obtain⟨t,e⟩:=r1;subst e;exact .cons n t (ih r2)
section
variable {X:Cx} {e:Expr} {te:TE} {lo hi:Option Expr} {tl th:TO} {pos p2:Pos}
theorem O8:PO X none fQ:=by
 intro jb s Z H Q I h;rw[evalPart_none];exact Qcc ⟨none,H,I,.none,h⟩
theorem O7 (h:PE X e te):PO X (some e) (nj te):=by
 intro jb s Z H Q I hw;rw[evalPart_some];refine thn (h jb s Z H _ I hw) λu s1 zz=>?_;obtain⟨x,H1,I1,r1,q1⟩:=zz;obtain⟨i,rfl,q⟩:=q1;obtain⟨t,rfl⟩:=r1;exact⟨some i,H1,I1,.int i t,q⟩
def SlR (X:Cx) (r:V->Option Int->Option Int->Hp->VK->Prop):Prop:=
 ∀(jb:YC) (s:Shared) (Z : St) (H:Hp) (x:V) (v vl vu:Value) (lo hi:Option Int) (sl:Addr) (Q:VK),Inv X jb Z H s->RelV x v->s.heap.IsSliceOf sl vl vu .none->IsPart vl lo->IsPart vu hi->r x lo hi H Q ->
  ∃T id,typeLookup (.type T) "__getitem__"=pure (some (.builtin id))/\s.TypeIs v T/\wpAny (model X.prog X.w) X.A (getItem v (.ref sl)) (EP X jb Z Q) X.xe s
def tSl (r:V->Option Int->Option Int->Hp->VK->Prop) (te:TE) (tl th:TO):TE:=fun Z H Q=>te Z H λx H1=>tl Z H1 λl H2=>th Z H2 λu H3=>r x l u H3 Q
theorem MP {r:V->Option Int->Option Int->Hp->VK->Prop} (hr:SlR X r) (he:PE X e te) (hl:PO X lo tl) (hu:PO X hi th):PE X (.Subscript e (.Slice lo hi none p2) pos) (tSl r te tl th):=by
 intro jb s Z H Q I h;refine Subscript_ (thn (he jb s Z H _ I h) λv s1 zz=>?_);obtain⟨x,H1,I1,r1,q1⟩:=zz;refine wpAny_Slice (thn (hl jb s1 Z H1 _ I1 q1) λvl s2 zz=>?_);obtain⟨l,H2,I2,pl,q2⟩:=zz;refine thn (hu jb s2 Z H2 _ I2 q2) λvu s3 zz=>?_;obtain⟨u,H3,I3,pu,q3⟩:=zz;rw[evalPart_none];refine Qcc ?_;have I4:Inv X jb Z H3 { s3 with heap:=s3.heap.push { cls:=.type "slice",data:=.fields #[vl,vu,.none] } }:=I3.kept (t':=s3.toks) λb ob q=>Qaq _ q;obtain⟨T,id,hT,ht,hg⟩:=hr jb { s3 with heap:=s3.heap.push { cls:=.type "slice",data:=.fields #[vl,vu,.none] } } Z H3 x v vl vu l u s3.heap.objs.size Q I4 r1 (Heap.IsSliceOf.new ..) pl pu q3;show wpAny (model X.prog X.w) X.A (subscriptTail e (.Slice lo hi none p2) v (.ref s3.heap.objs.size)) (EP X jb Z Q) X.xe { s3 with heap:=s3.heap.push { cls:=.type "slice",data:=.fields #[vl,vu,.none] } };exact tail_any (ops:=[.ref s3.heap.objs.size,v]) ht hT hg (by with_unfolding_all rfl)
def Jz (xs:YG) (lo hi:Option Int):YG:=(xs.drop (HT.sIx xs.length 0 lo)).take (HT.sIx xs.length xs.length hi - HT.sIx xs.length 0 lo)
theorem Mu (xs:YG) (lo hi:Option Int):(Jz xs lo hi).length<=xs.length:=by
 unfold Jz;rw[Qbk,List.length_drop];omega
def qw (K:YD):V->Option Int->Option Int->Hp->VK->Prop:=λx lo hi H Q=>∃a xs,x=.ref a/\SqT K H a xs /\
 ¬(HT.sIx xs.length 0 lo=0/\HT.sIx xs.length xs.length hi=xs.length)/\∀p,H p=none->Q (.ref p) (upd H p (.tup (Jz xs lo hi)))
theorem jl:SlR X (qw X.K):=by
 intro jb s Z H x v vl vu lo hi sl Q I rx hs pl pu h;obtain⟨a,xs,rfl,hx,hw,q⟩:=h;cases rx;obtain⟨its,r,ht,hz⟩:=I.tuple hx;have hlen:its.toArray.size=xs.length:=by rw[QaZ];exact r.length.symm
 refine⟨"tuple",_,Qaa.lookup,ht.typeIs,?_⟩;refine HT.Mp ht hs pl pu (by rw[hlen];exact hw) ?_ (by rw[hlen];exact hz);rw[hlen];refine⟨.ref s.heap.objs.size,_,I.laid (t':=s.toks) (o:=.tup (Jz xs lo hi)) (λb ob q=>Qaq _ q) (QbZ _) ?_,rq,q _ (I.hok.fresh (QbZ _))⟩;exact⟨QbU (Mu xs lo hi) hz,_,(r.drop (HT.sIx xs.length 0 lo)).take (HT.sIx xs.length xs.length hi - HT.sIx xs.length 0 lo),IsTup.new _ _⟩
end
def ixN (n:Nat) (i:Int):Option Nat:=if 0<=i then (if i < n then some i.toNat else none) else if -(n:Int)<=i then some (i+n).toNat else none
def atI {α : Type} (xs:List α) (i:Int):Option α:=(ixN xs.length i).bind λj=>xs[j]?
theorem U3 {n:Nat} {i:Int} {j:Nat} (h:ixN n i=some j):seqIndex? i n=some j/\j < n/\-(n:Int)<=i/\i < n:=by
 unfold ixN at h;by_cases h0:0<=i
 ·rw[if_pos h0] at h;by_cases h1:i < n
  ·rw[if_pos h1] at h;have e:i.toNat=j:=Qbx h;exact⟨by rw[seqIndex_of h0 h1,e],by omega,by omega,h1⟩
  ·rw[if_neg h1] at h;cases h
 ·rw[if_neg h0] at h;by_cases h1:-(n:Int)<=i
  ·rw[if_pos h1] at h;have e:(i+n).toNat=j:=Qbx h;exact⟨by rw[seqIndex_neg (by omega) h1,e],by omega,h1,by omega⟩
  ·rw[if_neg h1] at h;cases h
theorem Pu {α : Type} {xs:List α} {i:Int} {v:α} (h:atI xs i=some v):∃j,seqIndex? i xs.length=some j/\xs[j]?=some v/\j < xs.length/\-(xs.length:Int)<=i/\i < xs.length:=by
 unfold atI at h;cases e:ixN xs.length i with
 | none=>rw[e] at h;cases h
 | some j=>
  rw[e] at h;obtain⟨h1,h2,h3,h4⟩:=U3 e;exact⟨j,h1,h,h2,h3,h4⟩
theorem Gd {α : Type} {xs:List α} {j:Nat} {v:α} (h:xs[j]?=some v):atI xs (j:Int)=some v:=by
 have hj:j < xs.length:=(Qah.mp h).1;have e:ixN xs.length (j:Int)=some j:=by
  unfold ixN;rw[if_pos (by omega),if_pos (by omega)];simp
 unfold atI;rw[e];exact h
def iQ (b:Expr):Prop:=∀o i,subscripted b false o i=operate [o,i] (getItem o i)
def IxR (X:Cx) (r:R2):Prop:=
 ∀(value slice:Expr) (jb:YC) (s:Shared) (Z : St) (H:Hp) (x y:V) (v u:Value) (Q:VK),Inv X jb Z H s->RelV x v->RelV y u->r x y H Q ->
  subscripted slice false v u=operate [v,u] (getItem v u)->wpAny (model X.prog X.w) X.A (subscriptTail value slice v u) (EP X jb Z Q) X.xe s
def MtR (X:Cx) (id:String) (r:V->YG->Hp->VK->Prop):Prop:=
 ∀(jb:YC) (s:Shared) (Z : St) (H:Hp) (x:V) (xs:YG) (v:Value) (us:YE) (Q:VK),Inv X jb Z H s->RelV x v->Vals xs us->r x xs H Q ->
  wpAny (model X.prog X.w) X.A (call (.builtin id) (v::us)) (EP X jb Z Q) X.xe s
section
variable {X:Cx} {a b:Expr} {ta tb:TE} {pos:Pos}
theorem Bw {r:R2} (hr:IxR X r) (ha:PE X a ta) (hb:PE X b tb) (hs:iQ b):PE X (.Subscript a b pos) (tOp r ta tb):=by
 intro jb s Z H Q I h;exact Subscript_ (dz ha hb I h λv u s2 x y H2 I2 rx ry q=>hr a b jb s2 Z H2 x y v u Q I2 rx ry q (hs _ _))
def qD (K:YD):R2:=λx y H Q=>∃p xs i v,x=.ref p/\y=.int i/\SqL K H p xs/\atI xs i=some v/\Q v H
def jq (K:YD):R2:=λx y H Q=>∃p xs i v,x=.ref p/\y=.int i/\SqT K H p xs/\atI xs i=some v/\Q v H
def qC:R2:=λx y H Q=>∃z i c,x=.str z/\y=.int i/\z.length<=sizeLine/\atI z.cps.toList i=some c/\Q (.str ⟨#[c]⟩) H
theorem Bu:IxR X (qD X.K):=by
 intro value slice jb s Z H x y v u Q I rx ry h hs;obtain⟨p,xs,i,z,rfl,rfl,hq,he,q⟩:=h;cases rx;obtain⟨t,rfl⟩:=ry;obtain⟨its,r,pl,hz⟩:=I.list hq;obtain⟨j,h1,h2,h3,h4,h5⟩:=Pu he;obtain⟨w,ew,rw'⟩:=r.get h2;have hl:=r.length;have hn:=Jl;have fin:EP X jb Z Q w s:=⟨z,H,I,rw',q⟩;by_cases h0:0<=i
 ·have hj:i.toNat=j:=by
   rw[seqIndex_of h0 h5] at h1;exact Qbx h1
  exact item_listR pl.isList h0 (by omega) (by rw[hj];simpa using ew) fin hs
 ·have hj:(i+(its.toArray.size:Int)).toNat=j:=by
   rw[seqIndex_neg (by omega) h4] at h1;rw[QaZ,<-hl];exact Qbx h1
  exact subscriptTail_builtinR (x:=w) pl.isList.typeIs slot_list_getitem.lookup
   (wpAny_getItem_list_neg (Q:=λr s'=>r=w/\EP X jb Z Q r s') pl.isList (by omega) (by rw[QaZ] <;> omega) (by omega) (by rw[hj];simpa using ew) ⟨rq,fin⟩) hs
theorem Oe:IxR X (jq X.K):=by
 intro value slice jb s Z H x y v u Q I rx ry h hs;obtain⟨p,xs,i,z,rfl,rfl,hq,he,q⟩:=h;cases rx;obtain⟨t,rfl⟩:=ry;obtain⟨its,r,pl,hz⟩:=I.tuple hq;obtain⟨j,h1,h2,h3,h4,h5⟩:=Pu he;obtain⟨w,ew,rw'⟩:=r.get h2;have hl:=r.length;have hn:=Jl;have fin:EP X jb Z Q w s:=⟨z,H,I,rw',q⟩;exact subscriptTail_builtinR (x:=w) pl.typeIs slot_tuple_getitem.lookup
  (getItem_tuple (j:=j) (Q:=λr s'=>r=w/\EP X jb Z Q r s') pl (by omega) (by omega) (by rw[QaZ,<-hl];exact h1) (by simpa using ew) ⟨rq,fin⟩) hs
theorem Ye:IxR X qC:=by
 intro value slice jb s Z H x y v u Q I rx ry h hs;obtain⟨z,i,c,rfl,rfl,hz,he,q⟩:=h;obtain⟨t,rfl⟩:=rx;obtain⟨t',rfl⟩:=ry;obtain⟨j,h1,h2,h3,h4,h5⟩:=Pu he;have hl:z.cps.toList.length=z.length:=by simp[Str.length]
 rw[hl] at h1 h4 h5;have hn:=Jl;exact tail_any (typeIs_str s z t) slot_str_getitem.lookup (getItem_str (c:=c) (by
  have e1:decide (i < -(2 ^ 63:Int))=false:=Qbv (by omega);have e2:decide (i ≥ 2 ^ 63)=false:=Qbv (by omega);rw[e1,e2,Bool.or_false]) (by rw[h1];simpa using h2) ⟨.str ⟨#[c]⟩,H,I.tok _,⟨_,rq⟩,q⟩) hs
theorem V7 (its:YE) (n j:Nat) (u:Value):Obj.mapSeq (·.setIfInBounds j u) { cls:=.type "list",data:=.seq its.toArray n }={ cls:=.type "list",data:=.seq (its.set j u).toArray n }:=by
 simp[Obj.mapSeq]
theorem Inv.lst {jb:YC} {Z : St} {H:Hp} {s:Shared} {p:Addr} {xs:YG} (I:Inv X jb Z H s) (h:H p=some (.lst xs)) :
  ∃(its:YE) (n:Nat),Vals xs its/\s.heap.get? p=some { cls:=.type "list",data:=.seq its.toArray n }/\xs.length<=sizeLine:=by
 obtain⟨z,its,n,r,e⟩:=I.hok p _ h;exact⟨its,n,r,e,z⟩
theorem Inv.jW {jb:YC} {Z : St} {H:Hp} {s:Shared} {p:Addr} {xs ys:YG} {its its':YE} {n n':Nat} {f:Obj->Obj} (I:Inv X jb Z H s) (h:H p=some (.lst xs))
  (ho:s.heap.get? p=some { cls:=.type "list",data:=.seq its.toArray n }) (hf:f { cls:=.type "list",data:=.seq its.toArray n }={ cls:=.type "list",data:=.seq its'.toArray n' }) (r:Vals ys its') (hz:ys.length<=sizeLine) (t:Nat) :
  Inv X jb Z (upd H p (.lst ys)) { s with heap:=s.heap.update p f,toks:=t }:=by
 have e:(s.heap.update p f).get? p=some { cls:=.type "list",data:=.seq its'.toArray n' }:=by
  rw[Qaw f ho (by rw[hf] <;> rfl),hf]
 refine I.write (x:=p) (e:=p) (by rw[h];trivial) (.inl rfl) (λb u hb q=>(Qar _ _ (Ne.symm hb)).trans q) ⟨_,e⟩ ?_;exact⟨hz,its',n',r,e⟩
def nP:V->V->V->Hp->(Hp->Prop)->Prop:=λo i v H Q=>∃p xs k j,o=.ref p/\i=.int k/\H p=some (.lst xs)/\ixN xs.length k=some j/\Q (upd H p (.lst (xs.set j v)))
theorem set_list:mV X nP:=by
 intro jb s Z H o i v ov iv u Q I ro ri rv h;obtain⟨p,xs,k,j,rfl,rfl,hp,hj,q⟩:=h;cases ro;obtain⟨t,rfl⟩:=ri;obtain⟨its,n,r,ho,hz⟩:=I.lst hp;obtain⟨h1,h2,h3,h4⟩:=U3 hj;have hl:=r.length;have hn:=Jl;have I':Inv X jb Z (upd H p (.lst (xs.set j v))) { s with heap:=s.heap.update p (Obj.mapSeq (·.setIfInBounds j u)) }:=
  I.jW hp ho (V7 its n j u) (r.set rv j) (by rw[QbD];exact hz) s.toks
 by_cases h0:0<=k
 ·have hk:k.toNat=j:=by
   rw[seqIndex_of h0 h4] at h1;exact Qbx h1
  exact PySem.W.ki_setAt ho h0 (by omega) (by rw[QaZ,<-hl];exact h4) (by rw[hk];exact⟨_,I',q⟩)
 ·have hk:(k+(its.toArray.size:Int)).toNat=j:=by
   rw[seqIndex_neg (by omega) h3] at h1;rw[QaZ,<-hl];exact Qbx h1
  exact PySem.W.ki_setBack ho (by omega) (by rw[QaZ,<-hl];exact h3) (by omega) (by rw[hk];exact⟨_,I',q⟩)
theorem QW (lo hi:Option Int) (n:Nat):(sliceBounds lo hi none n).1=((HT.sIx n 0 lo:Nat):Int)/\(sliceBounds lo hi none n).2.1=((HT.sIx n n hi:Nat):Int)/\(sliceBounds lo hi none n).2.2=1:=by
 refine⟨?_,?_,rq⟩
 ·cases lo with
  | none=>simp[sliceBounds,HT.sIx]
  | some i=>
   simp only[sliceBounds,HT.sIx,Option.getD_none,show (1:Int) > 0 by decide,if_true];by_cases h:i < 0
   ·simp only[h,if_true] <;> omega
   ·simp only[h,if_false] <;> omega
 ·cases hi with
  | none=>simp[sliceBounds,HT.sIx]
  | some i=>
   simp only[sliceBounds,HT.sIx,Option.getD_none,show (1:Int) > 0 by decide,if_true];by_cases h:i < 0
   ·simp only[h,if_true] <;> omega
   ·simp only[h,if_false] <;> omega
theorem Qg (its:YE) (lo hi:Option Int):slicePick its.toArray lo hi none=((its.drop (HT.sIx its.length 0 lo)).take (HT.sIx its.length its.length hi - HT.sIx its.length 0 lo)).toArray:=by
 obtain⟨h1,h2,h3⟩:=QW lo hi its.toArray.size;unfold slicePick;rw[h1,h2,h3];simp only[sliceRange_one,pick_run,QaZ] <;> rfl
def qx (K:YD):V->Option Int->Option Int->Hp->VK->Prop:=λx lo hi H Q=>∃a xs,x=.ref a/\SqL K H a xs/\∀p,H p=none->Q (.ref p) (upd H p (.lst (Jz xs lo hi)))
theorem yx:SlR X (qx X.K):=by
 intro jb s Z H x v vl vu lo hi sl Q I rx hs pl pu h;obtain⟨a,xs,rfl,hx,q⟩:=h;cases rx;obtain⟨its,r,ht,hz⟩:=I.list hx;have hlen:=r.length;refine⟨"list",_,slot_list_getitem.lookup,ht.isList.typeIs,?_⟩;refine wpAny_getItem_list_slice ht.isList hs pl pu .none (by simp) ?_ (by rw[QaZ] <;> omega);rw[Qg,<-hlen];refine⟨.ref s.heap.objs.size,_,I.laid (t':=s.toks) (o:=.lst (Jz xs lo hi)) (λb ob q=>Qaq _ q) (QbZ _) ?_,rq,q _ (I.hok.fresh (QbZ _))⟩;exact⟨QbU (Mu xs lo hi) hz,_,0,(r.drop (HT.sIx xs.length 0 lo)).take (HT.sIx xs.length xs.length hi - HT.sIx xs.length 0 lo),QaF _ rfl⟩
def Iv:V->Bool
 | .non=>true
 | .bl _=>true
 | .int _=>true
 | .str _=>true
 | _=>false
def eqV:V->V->Bool
 | .non,.non=>true
 | .bl a,.bl b=>a == b
 | .bl a,.int b=>(if a then 1 else 0) == b
 | .int a,.bl b=>a == (if b then 1 else 0)
 | .int a,.int b=>a == b
 | .str a,.str b=>a == b
 | _,_=>false
theorem lD {A:Around} {s:Shared} {y x:V} {u v:Value} (ry:RelV y u) (rx:RelV x v) (fy:Iv y=true) (fx:Iv x=true):SeqAt.EqAt A s u v (eqV y x):=by
 cases y with
 | non=>
  cases ry;cases x with
  | non=>cases rx;exact SeqAt.EqAt.same _
  | bl b=>cases rx;exact SeqAt.EqAt.none_bool b
  | int b=>obtain⟨t,rfl⟩:=rx;exact SeqAt.EqAt.none_int b t
  | str b=>obtain⟨t,rfl⟩:=rx;exact SeqAt.EqAt.none_str b t
  | _=>exact absurd (show false=true from fx) QaL
 | bl a=>
  cases ry;cases x with
  | non=>cases rx;exact SeqAt.EqAt.bool_none a
  | bl b=>cases rx;exact SeqAt.EqAt.bool_bool a b
  | int b=>obtain⟨t,rfl⟩:=rx;exact SeqAt.EqAt.bool_int a b t
  | str b=>obtain⟨t,rfl⟩:=rx;exact SeqAt.EqAt.bool_str a b t
  | _=>exact absurd (show false=true from fx) QaL
 | int a=>
  obtain⟨t',rfl⟩:=ry;cases x with
  | non=>cases rx;exact SeqAt.EqAt.int_none a t'
  | bl b=>cases rx;exact SeqAt.EqAt.int_bool a t' b
  | int b=>obtain⟨t,rfl⟩:=rx;exact SeqAt.EqAt.int_int a t' b t
  | str b=>obtain⟨t,rfl⟩:=rx;exact SeqAt.EqAt.int_str a t' b t
  | _=>exact absurd (show false=true from fx) QaL
 | str a=>
  obtain⟨t',rfl⟩:=ry;cases x with
  | non=>cases rx;exact SeqAt.EqAt.str_none a t'
  | bl b=>cases rx;exact SeqAt.EqAt.str_bool a t' b
  | int b=>obtain⟨t,rfl⟩:=rx;exact SeqAt.EqAt.str_int a t' b t
  | str b=>obtain⟨t,rfl⟩:=rx;exact SeqAt.EqAt.str_str a t' b t
  | _=>exact absurd (show false=true from fx) QaL
 | _=>exact absurd (show false=true from fy) QaL
def eqU (x:V) (u:Value):Bool:=match u with
 | .none=>eqV .non x
 | .bool b=>eqV (.bl b) x
 | .int i _=>eqV (.int i) x
 | .str z _=>eqV (.str z) x
 | _=>false
theorem Yx {x y:V} {u:Value} (r:RelV y u) (f:Iv y=true):eqU x u=eqV y x:=by
 cases y with
 | non=>cases r;rfl
 | bl b=>cases r;rfl
 | int i=>obtain⟨t,rfl⟩:=r;rfl
 | str z=>obtain⟨t,rfl⟩:=r;rfl
 | _=>exact absurd (show false=true from f) QaL
theorem JQ {x:V}:∀{xs:YG} {us:YE},Vals xs us->xs.all Iv=true->us.any (eqU x)=xs.any λy=>eqV y x
 | _,_,.nil,_=>rfl
 | y::xs,u::us,.cons r t,f=>by
  rw[List.all_cons,Qbm] at f;rw[List.any_cons,List.any_cons,Yx r f.1,JQ t f.2]
theorem Jk {A:Around} {s:Shared} {x:V} {v:Value} (rx:RelV x v) (fx:Iv x=true):∀{xs:YG} {us:YE},Vals xs us->xs.all Iv=true->∀u∈us,SeqAt.EqAt A s u v (eqU x u)
 | _,_,.nil,_=>λu hu=>by cases hu
 | y::xs,u::us,.cons r t,f=>λu' hu=>by
  rw[List.all_cons,Qbm] at f;rcases QbK.mp hu with rfl | hu
  ·rw[Yx r f.1];exact lD r rx f.1 fx
  ·exact Jk rx fx t f.2 u' hu
def inV (x:V) (xs:YG):Bool:=xs.any λy=>eqV y x
def rIn (K:YD) (neg:Bool):R2:=λx y H Q=>∃p xs,y=.ref p/\(SqL K H p xs\/SqT K H p xs)/\Iv x=true/\xs.all Iv=true/\Q (.bl (if neg then !inV x xs else inV x xs)) H
theorem PB:OpR X (compareOp .In) (rIn X.K false):=by
 intro jb s Z H x y v u Q I rx ry h;obtain⟨p,xs,rfl,hq,fx,fs,q⟩:=h;cases ry;rcases hq with hq | hq
 ·obtain⟨its,r,pl,hz⟩:=I.list hq;refine SeqAt.in_listAt (eqU x) pl.isList (λw hw=>Jk rx fx r fs w (by simpa using hw)) ⟨.bl _,H,I,rq,?_⟩;rw[show its.toArray.any (eqU x)=its.any (eqU x) by simp,JQ r fs];exact q
 ·obtain⟨its,r,pl,hz⟩:=I.tuple hq;refine SeqAt.in_tupleAt (eqU x) pl (λw hw=>Jk rx fx r fs w (by simpa using hw)) ⟨.bl _,H,I,rq,?_⟩;rw[show its.toArray.any (eqU x)=its.any (eqU x) by simp,JQ r fs];exact q
theorem Rj:OpR X (compareOp .NotIn) (rIn X.K true):=by
 intro jb s Z H x y v u Q I rx ry h;obtain⟨p,xs,rfl,hq,fx,fs,q⟩:=h;cases ry;rcases hq with hq | hq
 ·obtain⟨its,r,pl,hz⟩:=I.list hq;refine SeqAt.notIn_listAt (eqU x) pl.isList (λw hw=>Jk rx fx r fs w (by simpa using hw)) ⟨.bl _,H,I,rq,?_⟩;rw[show its.toArray.any (eqU x)=its.any (eqU x) by simp,JQ r fs];exact q
 ·obtain⟨its,r,pl,hz⟩:=I.tuple hq;refine SeqAt.notIn_tupleAt (eqU x) pl (λw hw=>Jk rx fx r fs w (by simpa using hw)) ⟨.bl _,H,I,rq,?_⟩;rw[show its.toArray.any (eqU x)=its.any (eqU x) by simp,JQ r fs];exact q
theorem Ck:Dj X (.builtin "len") (λxs H Q=>∃p ys,xs=[.ref p]/\(SqL X.K H p ys\/SqT X.K H p ys)/\Q (.int ys.length) H):=by
 intro jb s Z H xs us Q I r h;obtain⟨p,ys,rfl,hq,q⟩:=h;obtain⟨u,rfl,rx⟩:=vals1 r;cases rx;have hn:=Jl;rcases hq with hq | hq
 ·obtain⟨its,r',pl,hz⟩:=I.list hq;have hlen:=r'.length;exact Calls.call_len_list pl.isList (by simp only[QaZ] <;> omega) ⟨.int ys.length,H,I.tok _,⟨s.toks+1,by rw[QaZ,hlen]⟩,q⟩
 ·obtain⟨its,r',pl,hz⟩:=I.tuple hq;have hlen:=r'.length;exact len_tuple pl (by simp only[QaZ] <;> omega) ⟨.int ys.length,H,I.tok _,⟨s.toks+1,by rw[QaZ,hlen]⟩,q⟩
theorem Jq:Dj X (.builtin "len") (λxs H Q=>∃z,xs=[.str z]/\z.length<=sizeLine/\Q (.int z.length) H):=by
 intro jb s Z H xs us Q I r h;obtain⟨z,rfl,hz,q⟩:=h;obtain⟨u,rfl,t,rfl⟩:=vals1 r;have hn:=Jl;exact len_str (by omega) ⟨.int z.length,H,I.tok _,⟨_,rq⟩,q⟩
theorem Jp:Dj X (.type "list") (λxs H Q=>∃p ys,xs=[.ref p]/\(SqL X.K H p ys\/SqT X.K H p ys)/\∀l,H l=none->Q (.ref l) (upd H l (.lst ys))):=by
 intro jb s Z H xs us Q I r h;obtain⟨p,ys,rfl,hq,q⟩:=h;obtain⟨u,rfl,rx⟩:=vals1 r;cases rx;have fin:∀(its:YE),Vals ys its->ys.length<=sizeLine->∀(h':Heap) (c':Nat),(∀b o',s.heap.get? b=some o'->h'.get? b=some o') ->
   h'.get? s.heap.objs.size=some { cls:=.type "list",dict:=none,data:=.seq its.toArray c',slots:=#[] }->EP X jb Z Q (.ref s.heap.objs.size) { s with heap:=h' }:=λits r' hz h' c' kp e=>
  ⟨.ref s.heap.objs.size,_,I.laid (t':=s.toks) kp (QbZ _) (show Bo X.prog X.w _ h' _ (.lst ys) from⟨hz,its,c',r',e⟩),rq,q _ (I.hok.fresh (QbZ _))⟩
 rcases hq with hq | hq
 ·obtain⟨its,r',pl,hz⟩:=I.list hq;have hlen:=r'.length;obtain⟨o,ho,hc,n,hd⟩:=pl.isList;exact call_list_seq p (.inl rfl) ho hc hd (λh' c' kp e=>fin its r' hz h' c' kp e) (by simp only[QaZ] <;> omega)
 ·obtain⟨its,r',pl,hz⟩:=I.tuple hq;have hlen:=r'.length;obtain⟨o,ho,hc,n,hd⟩:=pl;exact call_list_seq p (.inr rfl) ho hc hd (λh' c' kp e=>fin its r' hz h' c' kp e) (by simp only[QaZ] <;> omega)
def tyV (K:YD) (T:String) (x:V) (H:Hp):Prop:=match x with
 | .str _=>T="str"
 | .int _=>T="int"
 | .ref p=>(T="list"/\∃xs,SqL K H p xs)\/(T="tuple"/\∃o,K.lookup p=some o/\o.cls=.type "tuple"/\o.dict=none) \/
   (T="dict"/\((∃kvs,H p=some (.dK kvs))\/∃kvs,H p=some (.dT kvs)))\/(T="set"/\∃S n,H p=some (.set S n))
 | _=>False
theorem Xb {jb:YC} {Z : St} {H:Hp} {s:Shared} {T:String} {x:V} {v:Value} (I:Inv X jb Z H s) (r:RelV x v) (ty:tyV X.K T x H) :
  s.TypeIs v T/\∀a,v=.ref a->∃ob,s.heap.get? a=some ob/\ob.dict=none:=by
 cases x with
 | str z=>
  obtain⟨t,rfl⟩:=r;cases (show T="str" from ty)
  exact⟨typeIs_str s z t,λ_ e=>nomatch e⟩
 | int i=>
  obtain⟨t,rfl⟩:=r;cases (show T="int" from ty)
  exact⟨typeIs_int s i t,λ_ e=>nomatch e⟩
 | ref p=>
  cases r;rcases ty with⟨rfl,xs,hq⟩|⟨rfl,o,hk,hc,hd⟩|⟨rfl,hk⟩|⟨rfl,S,n,hk⟩
  ·obtain⟨its,_,pl,_⟩:=I.list hq;refine⟨pl.isList.typeIs,λa e=>?_⟩;cases e;obtain⟨o,n,e,c,hd,_⟩:=pl;exact⟨o,e,hd⟩
  ·refine⟨⟨o,I.kIn p o hk,hc⟩,λa e=>?_⟩;cases e;exact⟨o,I.kIn _ o hk,hd⟩
  ·have z:∃o,s.heap.get? p=some o/\o.ExactDict:=by
    rcases hk with⟨kvs,hk⟩|⟨kvs,hk⟩
    ·obtain⟨_,_,_,_,o,_,_,e,ex,_⟩:=I.hok p _ hk;exact⟨o,e,ex⟩
    ·obtain⟨_,_,_,_,o,_,_,e,ex,_⟩:=I.hok p _ hk;exact⟨o,e,ex⟩
   obtain⟨o,e,ex⟩:=z;refine⟨⟨o,e,ex.1⟩,λa e2=>?_⟩;cases e2;exact⟨o,e,ex.2.1⟩
  ·obtain⟨o,_,_,_,e,ex,_⟩:=I.hok p _ hk;refine⟨⟨o,e,ex.1⟩,λa e2=>?_⟩;cases e2;exact⟨o,e,ex.2.1⟩
 | _=>exact False.elim ty
def pF (K:YD) (T:String) (r:V->YG->Hp->VK->Prop) (to:TE):TE:=fun Z H Q=>to Z H λx H1=>tyV K T x H1/\r x [] H1 Q
def tBM (K:YD) (T:String) (r:V->YG->Hp->VK->Prop) (to:TE) (t:TA):TE:=fun Z H Q=>to Z H λx H1=>tyV K T x H1/\t Z H1 λxs H2=>r x xs H2 Q
variable {o e:Expr} {es:YJ} {to:TE} {t:TA} {name:Str} {apos cpos:Pos} {T id:String} {r:V->YG->Hp->VK->Prop}
theorem jE (pa:PlainAttrs T) (slot:Slot T name id) (hty:typeOf (.builtin id)=pure (.type "method_descriptor")) (hm:MtR X id r) (ho:PE X o to)
  (hbase:attributeBase o name X.env (eval o X.env)=eval o X.env:=by rfl) (hline:(apos.endLine == cpos.line)=true:=by rfl):PE X (.Call (.Attribute o name apos) [] [] cpos) (pF X.K T r to):=by
 intro jb s Z H Q I h;refine wpAny_Call_method0_late hbase hline (thn (ho jb s Z H _ I h) λv s1 zz=>?_);obtain⟨x,H1,I1,r1,ty,q1⟩:=zz;obtain⟨h1,h2⟩:=Xb I1 r1 ty;exact⟨T,id,pa,slot,hty,h1,h2,Calls.callWith_builtin rfl (PySem.evalArgs_none (hm jb s1 Z H1 x [] v [] Q I1 r1 .nil q1))⟩
theorem Im (pa:PlainAttrs T) (slot:Slot T name id) (hty:typeOf (.builtin id)=pure (.type "method_descriptor")) (hm:MtR X id r) (ho:PE X o to) (ha:PA X (e::es) t)
  (hbase:attributeBase o name X.env (eval o X.env)=eval o X.env:=by rfl)
  (hfew:((backTo cpos (starEach (e::es) X.env)).all (λx=>!x.1)&&(backToKw cpos (keywordEach [] X.env)).all (λx=>x.1.isSome)
  &&decide ((e::es).length+([]:List Keyword).length+(if ([]:List Keyword).isEmpty then 0 else 1) < 30))=true:=by rfl)
  (hline:(apos.endLine == cpos.line)=true:=by rfl) (hs:starEach (e::es) X.env=(false,eval e X.env)::starEach es X.env:=by rfl) (hplain:(backTo cpos (starEach es X.env)).any (·.1)=false:=by rfl) :
  PE X (.Call (.Attribute o name apos) (e::es) [] cpos) (tBM X.K T r to t):=by
 intro jb s Z H Q I h;refine wpAny_Call_method_late hbase hfew hline rfl (thn (ho jb s Z H _ I h) λv s1 zz=>?_);obtain⟨x,H1,I1,r1,ty,q1⟩:=zz;obtain⟨h1,h2⟩:=Xb I1 r1 ty;refine⟨T,id,pa,slot,hty,h1,h2,?_⟩;have hA:=ha cpos jb s1 Z H1 _ I1 q1;rw[hs] at hA ⊢;refine Calls.callWith_builtin (by show (false || (backTo cpos (starEach es X.env)).any (·.1))=false;rw[hplain] <;> rfl) (Calls.evalArgs_plain ?_);refine thn hA λus s2 zz=>?_;obtain⟨vs,H2,I2,r2,q2⟩:=zz;exact hm jb s2 Z H2 x vs v us Q I2 r1 r2 q2
end
def MtM (X:Cx) (id:String) (r:V->YG->Hp->VK->Prop):Prop:=
 ∀(jb:YC) (s:Shared) (Z : St) (H:Hp) (x:V) (xs:YG) (v:Value) (us:YE) (Q:VK),Inv X jb Z H s->RelV x v->Vals xs us->r x xs H Q ->
  wpAny (model X.prog X.w) X.A (call (.builtin id) (v::us)) (EP X jb Z Q) X.xe s
theorem Vals.one:∀{x:V} {us:YE},Vals [x] us->∃u,us=[u]/\RelV x u
 | _,_,.cons r .nil=>⟨_,rfl,r⟩
theorem Vals.two:∀{x y:V} {us:YE},Vals [x,y] us->∃u v,us=[u,v]/\RelV x u/\RelV y v
 | _,_,_,.cons r (.cons q .nil)=>⟨_,_,rfl,r,q⟩
theorem Vals.zero:∀{us:YE},Vals [] us->us=[]
 | _,.nil=>rfl
theorem Vals.dropLast {xs:YG} {us:YE} (h:Vals xs us):Vals xs.dropLast us.dropLast:=by
 induction h with
 | nil=>exact .nil
 | cons r t ih=>
  cases t with
  | nil=>exact .nil
  | cons q t'=>exact .cons r ih
theorem Vals.eraseIdx:∀{xs:YG} {us:YE} (i:Nat),Vals xs us->Vals (xs.eraseIdx i) (us.eraseIdx i)
 | _,_,_,.nil=>.nil
 | _,_,0,.cons _ t=>t
 | _,_,i+1,.cons r t=>.cons r (Vals.eraseIdx i t)
theorem Vals.reverse {xs:YG} {us:YE} (h:Vals xs us):Vals xs.reverse us.reverse:=by
 induction h with
 | nil=>exact .nil
 | cons r t ih=>rw[List.reverse_cons,List.reverse_cons];exact Vals.append ih (.cons r .nil)
theorem Vals.rep {xs:YG} {us:YE} (h:Vals xs us):∀k:Nat,Vals (List.replicate k xs).flatten (List.replicate k us).flatten
 | 0=>.nil
 | k+1=>by
  rw[QaI,QaI,Qbg,Qbg];exact Vals.append h (Vals.rep h k)
theorem WL {α : Type} (l:List α):l.eraseIdx (l.length - 1)=l.dropLast:=by
 induction l with
 | nil=>rfl
 | cons a r ih=>
  cases r with
  | nil=>rfl
  | cons b r=>
   have e:(a::b::r).length - 1=((b::r).length - 1)+1:=by
    have h1:(a::b::r).length=r.length+2:=rfl;have h2:(b::r).length=r.length+1:=rfl;omega
   rw[e,List.eraseIdx_cons_succ,ih]
   all_goals rfl
theorem foldl_rep (its:YE):∀(k:Nat) (acc:YE),
  List.foldl (λx1 x2=>x1++x2) acc.toArray (List.replicate k its.toArray)=(acc++(List.replicate k its).flatten).toArray
 | 0,acc=>by simp
 | k+1,acc=>by
  have e:acc.toArray++its.toArray=(acc++its).toArray:=by simp
  have e2:(acc++its)++(List.replicate k its).flatten=acc++(List.replicate (k+1) its).flatten:=by
   rw[QaI,Qbg,List.append_assoc]
  rw[<-e2,<-foldl_rep its k (acc++its),<-e,QaI,List.foldl_cons]
section
variable {X:Cx} {jb:YC} {Z : St} {H:Hp} {s:Shared} {l b:Addr} {xs ys zs:YG}
theorem Inv.Wa {its its':YE} {n:Nat} {f:Array Value->Array Value} {t':Nat} (I:Inv X jb Z H s) (hH:H l=some (.lst xs))
  (e:s.heap.get? l=some { cls:=.type "list",data:=.seq its.toArray n }) (hf:f its.toArray=its'.toArray) (hv:Vals ys its') (hz:ys.length<=sizeLine) :
  Inv X jb Z (upd H l (.lst ys)) { s with heap:=s.heap.update l (Obj.mapSeq f),toks:=t' }:=by
 have q:=PySem.IsL.update e f;rw[hf] at q;refine I.write (x:=l) (e:=l) (by rw[hH];exact trivial) (.inl rfl) (λb' u hb hu=>(Qar s.heap (Obj.mapSeq f) (Ne.symm hb)).trans hu) ⟨_,q⟩ ?_;exact⟨hz,its',_,hv,q⟩
theorem Inv.jX {its:YE} {t':Nat} (I:Inv X jb Z H s) (hv:Vals ys its) (hz:ys.length<=sizeLine) :
  Inv X jb Z (upd H s.heap.objs.size (.lst ys)) { s with heap:=s.heap.push { cls:=.type "list",data:=.seq its.toArray },toks:=t' }:=
 I.laid (λ_ _ q=>Qaq _ q) (QbZ _) ⟨hz,its,0,hv,QaF _ rfl⟩
theorem Inv.fresh (I:Inv X jb Z H s):H s.heap.objs.size=none:=I.hok.fresh (QbZ _)
theorem Inv.Jw (I:Inv X jb Z H s) (hH:H l=some (.lst xs)):xs.length<=sizeLine/\∃(its:YE) (n:Nat),Vals xs its/\xs.length=its.length/\s.heap.get? l=some { cls:=.type "list",data:=.seq its.toArray n }:=by
 obtain⟨z,its,n,r,e⟩:=I.hok l _ hH;exact⟨z,its,n,r,r.length,e⟩
theorem Rt {n:Nat} (h:n<=sizeLine):Builtin.List.listTooLong n=false:=by
 unfold Builtin.List.listTooLong;exact Qbv (by omega)
end
section
variable {X:Cx}
def gb:V->YG->Hp->VK->Prop:=λx vs H Q=>∃l xs y,x=.ref l/\vs=[y]/\H l=some (.lst xs)/\xs.length < sizeLine/\Q .non (upd H l (.lst (xs++[y])))
theorem Ec:MtM X "list.append" gb:=by
 intro jb s Z H x vs v us Q I rx rv h;obtain⟨l,xs,y,rfl,rfl,hH,hz,q⟩:=h;cases rx;obtain⟨u,rfl,ru⟩:=rv.one;obtain⟨z,its,n,r,hl,e⟩:=I.Jw hH;refine call_meets F.slot_list_append ⟨_,e,rq⟩ F.entry_list_append (F.args_list_append_2 _ _) (PySem.list_append l its.toArray n u (by rw[QaZ];omega)) ⟨e,?_⟩;refine⟨.non,_,I.Wa (its':=its++[u]) hH e (by simp) (r.append (.cons ru .nil)) ?_,rq,q⟩;rw[QaN,List.length_singleton];omega
def fZ:V->YG->Hp->VK->Prop:=λx vs H Q=>∃l b xs zs,x=.ref l/\vs=[.ref b]/\H l=some (.lst xs)/\H b=some (.lst zs)/\xs.length+zs.length<=sizeLine/\Q .non (upd H l (.lst (xs++zs)))
theorem o8:MtM X "list.extend" fZ:=by
 intro jb s Z H x vs v us Q I rx rv h;obtain⟨l,b,xs,zs,rfl,rfl,hH,hB,hz,q⟩:=h;cases rx;obtain⟨u,rfl,ru⟩:=rv.one;cases ru;obtain⟨z,its,n,r,hl,e⟩:=I.Jw hH;obtain⟨z2,its2,n2,r2,hl2,e2⟩:=I.Jw hB;have hsz:its.toArray.size+its2.toArray.size<=sizeLine:=by rw[QaZ,QaZ];omega
 have Wv:¬(!its.toArray.isEmpty&&Builtin.List.listTooLong (its.toArray.size+its2.toArray.size))=true:=by
  rw[Rt hsz,Bool.and_false];exact QaL
 refine call_meets F.slot_list_extend ⟨_,e,rq⟩ F.entry_list_extend (F.args_list_extend_2 _ _)
  (AutoSeq1.list_extend_list_list_0 l its.toArray n b its2.toArray n2 Wv (by rw[QaZ];omega) (by omega)) ⟨e,e2,?_⟩
 refine⟨.non,_,I.Wa (its':=its++its2) hH e (by simp) (r.append r2) ?_,rq,q⟩;rw[QaN];omega
def qz:V->YG->Hp->VK->Prop:=λx vs H Q=>∃l xs y,x=.ref l/\vs=[]/\H l=some (.lst xs)/\xs[xs.length - 1]?=some y/\Q y (upd H l (.lst xs.dropLast))
theorem yE:MtM X "list.pop" qz:=by
 intro jb s Z H x vs v us Q I rx rv h;obtain⟨l,xs,y,rfl,rfl,hH,hy,q⟩:=h;cases rx;have hus:=rv.zero;subst hus;obtain⟨z,its,n,r,hl,e⟩:=I.Jw hH;obtain⟨u,hu,ru⟩:=r.get hy;have hy':its.toArray[its.toArray.size - 1]?=some u:=by
  show its.toArray[its.length - 1]?=some u;rw[<-Qax,<-hl];exact hu
 refine call_meets F.slot_list_pop ⟨_,e,rq⟩ F.entry_list_pop (F.args_list_pop_1 _) (MeetsSeq.list_pop_last l its.toArray n u hy' (by rw[QaZ];omega)) ⟨e,?_⟩;refine⟨y,_,I.Wa (its':=its.dropLast) hH e ?_ r.dropLast ?_,ru,q⟩
 ·show its.toArray.eraseIdxIfInBounds (its.toArray.size - 1)=its.dropLast.toArray;rw[QaZ,List.eraseIdxIfInBounds_toArray,WL]
 ·rw[List.length_dropLast];omega
def Zx:V->YG->Hp->VK->Prop:=λx vs H Q=>∃l xs,x=.ref l/\vs=[]/\H l=some (.lst xs)/\Q .non (upd H l (.lst xs.reverse))
theorem V6:MtM X "list.reverse" Zx:=by
 intro jb s Z H x vs v us Q I rx rv h;obtain⟨l,xs,rfl,rfl,hH,q⟩:=h;cases rx;have hus:=rv.zero;subst hus;obtain⟨z,its,n,r,hl,e⟩:=I.Jw hH;refine call_meets F.slot_list_reverse ⟨_,e,rq⟩ F.entry_list_reverse (F.args_list_reverse_1 _) (AutoSeq1.list_reverse_list_0 l its.toArray n (by rw[QaZ];omega)) ⟨e,?_⟩;refine⟨.non,_,I.Wa (its':=its.reverse) hH e (by simp) r.reverse ?_,rq,q⟩;rw[List.length_reverse];omega
def qF:R2:=λx y H Q=>∃l b xs zs,x=.ref l/\y=.ref b/\H l=some (.lst xs)/\H b=some (.lst zs)/\xs.length+zs.length<=sizeLine/\∀p,H p=none->Q (.ref p) (upd H p (.lst (xs++zs)))
theorem HN:OpR X (binaryOp .Add) qF:=by
 intro jb s Z H x y v u Q I rx ry h;obtain⟨l,b,xs,zs,rfl,rfl,hH,hB,hz,q⟩:=h;cases rx;cases ry;obtain⟨z,its,n,r,hl,e⟩:=I.Jw hH;obtain⟨z2,its2,n2,r2,hl2,e2⟩:=I.Jw hB;refine PySem.P.add_list e e2 ?_ (by rw[QaZ,QaZ];omega);have ea:its.toArray++its2.toArray=(its++its2).toArray:=by simp
 rw[ea];exact⟨.ref _,_,I.jX (t':=s.toks) (r.append r2) (by rw[QaN];omega),rq,q _ I.fresh⟩
def qy:R2:=λx y H Q=>∃l k xs,x=.ref l/\y=.int k/\H l=some (.lst xs)/\-(2 ^ 63)<=k/\k < 2 ^ 63/\xs.length*k.toNat<=sizeLine /\
 ∀p,H p=none->Q (.ref p) (upd H p (.lst (List.replicate k.toNat xs).flatten))
theorem len_rep {α : Type} (xs:List α) (k:Nat):(List.replicate k xs).flatten.length=k*xs.length:=by
 induction k with
 | zero=>simp
 | succ k ih=>rw[QaI,Qbg,QaN,ih,Nat.succ_mul,Nat.add_comm]
theorem jJ:OpR X (binaryOp .Mult) qy:=by
 intro jb s Z H x y v u Q I rx ry h;obtain⟨l,k,xs,rfl,rfl,hH,h1,h2,hz,q⟩:=h;cases rx;obtain⟨t,rfl⟩:=ry;obtain⟨z,its,n,r,hl,e⟩:=I.Jw hH;have hlen:its.toArray.size*k.toNat<=sizeLine:=by rw[QaZ,<-hl];exact hz
 have hcap:¬its.toArray.size*k.toNat > (2 ^ 63 - 1) / 8:=by
  have:(sizeLine:Nat)<=(2 ^ 63 - 1) / 8:=by decide
  omega
 have hfit:¬(!Builtin.List.listFitsIndex k)=true:=by
  rw[fitsIndex_both h1 h2];exact QaL
 have Wv:¬Builtin.List.listTooLong (its.toArray.size*k.toNat)=true:=by
  rw[Rt hlen];exact QaL
 have hnew:List.foldl (λx1 x2=>x1++x2) #[] (List.replicate (if its.toArray.isEmpty=true then 0 else k.toNat) its.toArray)=(List.replicate k.toNat its).flatten.toArray:=by
  have f0:∀m:Nat,List.foldl (λx1 x2=>x1++x2) #[] (List.replicate m its.toArray)=(List.replicate m its).flatten.toArray:=λm=>by
   have:=foldl_rep its m [];rw[List.nil_append] at this;exact this
  rw[f0];cases its with
  | nil=>simp
  | cons a r'=>rw[if_neg (by simp)]
 refine wpAny_binaryOp_repeat_ref (T:="list") (U:="int") (by decide) ⟨_,e,rq⟩ (λs'=>typeIs_int s' k t) noFill_list_mul F.fills_int_mul F.slot_int_rmul repeat_list F.slot_int_index.lookup
  (call_meets F.slot_int_rmul (typeIs_int s k t) F.entry_int_rmul (F.args_int_rmul_2 _ _) (int___rmul___int_list k t l its.toArray n)
   ⟨e,rq,⟨_,e,rq⟩,call_meets F.slot_list_mul ⟨_,e,rq⟩ F.entry_list_mul (F.args_list_mul_2 _ _) (AutoListH.list___mul___list_int_3 l its.toArray n k t hfit hcap Wv) ⟨e,?_⟩⟩)
 rw[hnew];exact⟨.ref _,_,I.jX (t':=s.toks) (r.rep k.toNat) (by rw[len_rep,Nat.mul_comm];exact hz),rq,q _ I.fresh⟩
end
section
variable {prog:Program} {w:World} {A:Around} {E:YA} {s:Shared}
set_option maxRecDepth 100000 in
end
section
variable {X:Cx}
end
end L2
namespace Att
open PySem PySem.W PySem.Calls PyProof.Rows
theorem Oi {P:Params} {h:Heap}:∀(ns:List Int) (vs:YE),WellAll P h vs (ns.map WData.int)->IntsAre vs ns:=by
 intro ns
 induction ns with
 | nil=>
  intro vs w;rw[List.map_nil] at w;cases w;exact .nil
 | cons n ns ih=>
  intro vs w;rw[QbM] at w;cases w with
  | cons a b=>
   cases a;exact .cons _ _ (ih _ b)
theorem Xn {l:OpenLaw} {n:Nat} (hn:l.most=some n) {P:Params} {h:Heap} {args:List WData} {vals:YE}
  (hpre:l.row.toRowW.claim.pre args=true) (hwl:WellAll P h vals args) :
  ∃a vs ns,vals=[Value.ref a]/\args=[WData.list (ns.map WData.int)]/\h.get? a=some { cls:=.type "list",data:=.seq vs.toArray }/\IntsAre vs ns/\ns.length<=n:=by
 have hsh:WShape.hasAll [] args [.list .int]=true:=(pre_splitW hpre).1;have hc:l.pre.holds [] { args:=args }=true:=(pre_splitW hpre).2;obtain⟨d,r,rfl,h1,h2⟩:=hasAllW_cons hsh;obtain rfl:=hasAllW_nil h2;obtain⟨xs,rfl,h3⟩:=hasW_list h1;obtain⟨ns,rfl⟩:=items_int h3;have hlen:ns.length<=n:=by
  unfold OpenLaw.pre at hc;have h4:(WTm.not (.lt (.lit (.int (n:Int))) (.len (.arg 0)))).holds [] { args:=[.list (ns.map .int)] }=true:=by
   have h4:=(holds_andW hc).1;rw[hn] at h4;exact h4
  have h5:=condW_of h4 (w_not (w_lt w_lit (w_len_list (w_arg rfl))));rw[Qbt] at h5;refine Nat.le_of_not_lt λq=>?_;have q':(n:Int) < ((ns.length:Nat):Int):=by omega
  first
   | (rw[QbH q'] at h5;exact absurd h5 (by decide))
   | (simp at h5;omega)
 cases hwl with
 | cons w1 w2=>
  cases w2;cases w1 with
  | list ho hall=>exact⟨_,_,ns,rfl,rfl,ho,Oi ns _ hall,hlen⟩
theorem Xq (l:OpenLaw) (args:List WData):l.row.toRowW.claim.post args (.bool true) args=true:=
 postW_of (r:=l.row.toRowW) (X:=(true == true))
  (show WShape.has [] (.bool true) .bool=true by first | rfl | decide | simp[WShape.has,WShape.arms,WShape.armsAll])
  (show (WTm.eq .res (.lit (.bool true))).value [] { args:=args,res:=some (.bool true),after:=args }=some (.bool (true == true)) from w_eq_bool (w_res rfl) w_lit) rfl
theorem Uk {l:OpenLaw} {n:Nat} {q:Program} {loose:YF} {XP:(YB)->Heap->Prop} {YP:World->Heap->Prop} {d:DefRec}
  (hn:l.most=some n) (hdf:d.params.defaults=[])
  (call:∀(w:World) (s₀ s₁ : Shared) (mg mb:YB) (fa:Addr) (o:Obj) (pm cd doc:Value) (a:Addr) (vs:YE) (ns:List Int),
   Ground q loose [] XP w s₀ mg mb s₁.heap->YP w s₁.heap ->
   s₁.heap.get? fa=some o->o.data=.func (docDef d.name d.params d.body d.scope pm cd doc)->s₁.heap.CodeRec cd d.name->mg d.name=some (.ref fa) ->
   s₁.heap.get? a=some { cls:=.type "list",data:=.seq vs.toArray }->IntsAre vs ns->ns.length<=n->s₁.gens=#[] ->
   codeAny (model l.prog w) callerA (.call (.ref fa) ⟨[.ref a],[]⟩) (λr s'=>r=.ok (.ret (.bool true))/\OldK s₁.heap s'.heap/\s'.os=s₁.os/\AllBare s'.gens) s₁) :
  WalkO q loose XP YP l.row.toRowW d [] (λf vs=>PySem.call f vs):=by
 intro w s₀ s₁ mg mb G Y fa o pm cd doc dV kV ho hd hcd hD hmg hg args vals as hpre hlay hrd hwl hlo;obtain rfl:dV=.none:=Dflts.none hD hdf;obtain rfl:kV=.none:=Dflts.noKw hD;obtain⟨a,vs,ns,rfl,rfl,hobj,hints,hlen⟩:=Xn hn hpre hwl;refine enter_call (QbY (call w s₀ s₁ mg mb fa o pm cd doc a vs ns G Y ho (fd_plain hd) hcd hmg hobj hints hlen hg) λr s' hq=>?_);obtain⟨rfl,h2,h3,h4⟩:=hq;exact⟨.inl ⟨.bool true,.bool true,[],rq,λ_=>rfl,.bool true,Xq l _,λ_=>⟨List.Pairwise.nil,λ_ hm=>(nomatch hm)⟩⟩,h2,h3,h4⟩
section
variable {prog:Program} {w:World} {A:Around} {E:YA} {s:Shared} {K:Frag}
def La (h:Heap):Heap:={ h with objs:=#[] }
theorem Eo (h:Heap) (b:Addr):(La h).get? b=none:=by
 cases e:(La h).get? b with
 | none=>rfl
 | some o=>exact absurd (QbS e) (Nat.not_lt_zero _)
theorem RW {h:Heap} {L:Addr} {m:YB} (n:h.Ns L m):Fr (La h) L h m:=
 ⟨n,λb o e=>(by rw[Eo] at e;cases e),Qca _⟩
end
end Att
namespace L2
open PySem PySem.Spec PyProof.Rows
theorem Kz:∀{vs:YE} {ns:List Int},IntsAre vs ns->Vals (ns.map V.int) vs
 | _,_,.nil=>.nil
 | _,_,.cons n t h=>.cons ⟨t,rfl⟩ (Kz h)
def Only (H:Hp):Prop:=∀b,H b=none\/∃o xs,H b=some (.frz o (.lst xs))
theorem Z6 {P:Program} {w:World} {K:YD} {mg mb:YB} {CX:CXT} {k:Nat} {fa a:Addr} {fd:FuncData} {x:Str} {sp:Sp} {s₁ : Shared} {vs:YE} {ns:List Int}
  (KX:K.In s₁.heap) (hns:s₁.heap.Ns mainGlobals mg) (hb:s₁.heap.Ns builtinsNs mb) (hbb:∀x:Str,x≠"__name__"->mb x=bootBuiltins x) (hlim:s₁.heap.NoLimit) (hg:s₁.gens=#[])
  (ha:s₁.heap.get? a=some { cls:=.type "list",data:=.seq vs.toArray }) (hi:IntsAre vs ns) (hl:ns.length<=sizeLine) (hr:Br k callerA)
  (F:∀base:Heap,K.In base->base.Ns mainGlobals mg->DK P w K mg base CX k fa fd [x] sp) (hbind:∀(s:Shared) (u:Value),BindsTo s fd ⟨[u],[]⟩ [(x,u)])
  (hsp:∀H:Hp,Only H->SqL K H a (ns.map V.int)->sp [.ref a] H (λv _=>v=.bl true) λ_ _ _=>False)
  (hCX:∀H e s',CX [] H s₁ (λ_ _ _=>False) e s'->False) :
  codeAny (model P w) callerA (.call (.ref fa) ⟨[.ref a],[]⟩) (λr s'=>r=.ok (.ret (.bool true))/\OldK s₁.heap s'.heap/\s'.os=s₁.os/\AllBare s'.gens) s₁:=by
 have rv:=Kz hi;have lenV:=hi.length;have core:∀H:Hp,Only H->SqL K H a (ns.map V.int)->HOk P w H s₁.heap->(∀b,H b≠none->b=a)->(H a≠none->K.lookup a=none) ->
   codeAny (model P w) callerA (.call (.ref fa) ⟨[.ref a],[]⟩) (λr s'=>r=.ok (.ret (.bool true))/\OldK s₁.heap s'.heap/\s'.os=s₁.os/\AllBare s'.gens) s₁:=by
  intro H hO hS hok hA hK;have Vl:∀{b:Addr} {o:Obj},s₁.heap.get? b=some o->H b=none->(Kg s₁.heap H).get? b=some o:=λe n=>cH e n;have noA:∀{b:Addr} {o:Obj} {es:YK} {ep:Nat},s₁.heap.get? b=some o->o.data=.dict es ep->H b=none:=λ{b o es ep} e d=>by
   cases q:H b with
   | none=>rfl
   | some u=>
    have e':b=a:=hA b (by rw[q];simp);subst e';rw[ha] at e;cases e;have d':Data.seq vs.toArray _=Data.dict es ep:=d;cases d'
  have nsK:∀{b:Addr} {m:YB},s₁.heap.Ns b m->(Kg s₁.heap H).Ns b m:=λ{b m} ⟨o,es,ep,e,d,r⟩=>⟨o,es,ep,Vl e (noA e d),d,r⟩;have hKb:K.In (Kg s₁.heap H):=λb o e=>Vl (KX b o e) (by
   cases q:H b with
   | none=>rfl
   | some u=>
    have e':b=a:=hA b (by rw[q];simp);subst e';rw[hK (by rw[q];simp)] at e;cases e)
  have hM:Mod K mg (Kg s₁.heap H):=⟨hKb,nsK hns,⟨mb,nsK hb,hbb⟩,let ⟨mc,h1,h2⟩:=hlim;⟨mc,nsK h1,h2⟩⟩;have e0:Ij P w K mg (Kg s₁.heap H) callerA [] s₁ H:=⟨rq,hM,λb o e=>gQ e,Nat.le_of_eq (Ym _ _),trivial,λb hb=>absurd (show b∈([]:List Addr) from hb) (by simp),hok,.of_eq hg⟩
  refine QbY ((F _ hKb (nsK hns)).run callerA [] s₁ H ⟨[.ref a],[]⟩ [.ref a] [.ref a] _ _ hr e0 (hbind s₁ (.ref a)) (.cons rfl .nil) (hsp H hO hS)) λr s' h=>?_;cases r with
  | error e=>exact (hCX H e s' h).elim
  | ok fl=>
   cases fl with
   | next=>exact False.elim h
   | brk=>exact False.elim h
   | cont=>exact False.elim h
   | ret u=>
    obtain⟨v,H',os,bare,un,hok',r',q⟩:=h;have q':v=.bl true:=q;subst q';obtain rfl:u=Value.bool true:=r';refine⟨rq,OldK.of_keep λb o e=>?_,os,bare⟩;cases q:H b with
    | none=>exact un.keep b o e q (by intro z;exact absurd (show b∈([]:List Addr) from z) (by simp)) (by simp)
    | some u=>
     rcases hO b with z |⟨ob,xs,z⟩
     ·rw[q] at z;cases z
     ·have z2:=un.FJ b ob _ z;obtain⟨e1,_⟩:=hok b _ z;obtain⟨e2,_⟩:=hok' b _ z2;rw[e] at e1;cases e1;exact e2
 cases hk:K.lookup a with
 | some o=>
  have e:=KX a o hk;rw[ha] at e;cases e;refine core (λ_=>none) (λ_=>.inl rfl) (.inr ⟨_,vs.toArray,_,hk,rq,rq,rq,by rw[QaZ,lenV];exact hl,by simpa using rv⟩) (λb u z=>by have z':(none:Option HO)=some u:=z;cases z') (λb z=>absurd rfl z) λz=>absurd rfl z
 | none=>
  refine core (λb=>if b=a then some (.frz { cls:=.type "list",data:=.seq vs.toArray } (.lst (ns.map V.int))) else none) (λb=>?_) (.inl (.inr ⟨{ cls:=.type "list",data:=.seq vs.toArray },if_pos rfl⟩)) (λb u z=>?_) (λb z=>?_) λ_=>hk
  ·by_cases hb:b=a
   ·exact .inr ⟨_,_,if_pos hb⟩
   ·exact .inl (if_neg hb)
  ·by_cases hb:b=a
   ·have z':=(if_pos hb).symm.trans z;cases z';subst hb;exact⟨ha,by rw[Qbt];exact hl,vs,_,rv,ha⟩
   ·have z':=(if_neg hb).symm.trans z;cases z'
  ·by_cases hb:b=a
   ·exact hb
   ·exact absurd (if_neg hb) z
theorem fO {l:PySem.W.OpenLaw} {n k:Nat} {q:Program} {loose:YF} {XP:(YB)->Heap->Prop} {YP:World->Heap->Prop} {d:DefRec} {K:Params->YD} {CX:World->CXT} {sp:World->Sp} {x:Str}
  (hn:l.most=some n) (hn2:n<=sizeLine) (hdf:d.params.defaults=[]) (hr:Br k callerA)
  (hY:∀(w:World) (h:Heap),YP w h->(K w.params).In h)
  (F:∀(w:World) (mg:YB) (fa:Addr) (h:Heap),(K w.params).In h->h.Ns mainGlobals mg->mg d.name=some (.ref fa) ->
   ∃fd:FuncData,(∀(s:Shared) (u:Value),BindsTo s fd ⟨[u],[]⟩ [(x,u)]) /\
    ∀base:Heap,(K w.params).In base->base.Ns mainGlobals mg->DK l.prog w (K w.params) mg base (CX w) k fa fd [x] (sp w))
  (hsp:∀(w:World) (H:Hp) (a:Addr) (ns:List Int),ns.length<=n->Only H->SqL (K w.params) H a (ns.map V.int)->sp w [.ref a] H (λv _=>v=.bl true) λ_ _ _=>False)
  (hCX:∀(w:World) (H:Hp) (s:Shared) (e:Value) (s':Shared),CX w [] H s (λ_ _ _=>False) e s'->False) :
  PySem.W.WalkO q loose XP YP l.row.toRowW d [] (λf vs=>PySem.call f vs):=by
 refine Att.Uk hn hdf λw s₀ s₁ mg mb fa o pm cd doc a vs ns G Y ho hd hcd hmg hobj hints hlen hg=>?_;have KX:=hY w _ Y;obtain⟨fd,hb,hF⟩:=F w mg fa _ KX G.T.g hmg;exact Z6 KX G.T.g G.T.b G.T.builtins G.T.nolimit hg hobj hints (QbU hlen hn2) hr hF hb (λH hO hS=>hsp w H a ns hlen hO hS) λH e s'=>hCX w H s₁ e s'
def inClass (s:Stmt) (j:Nat):Stmt:=match s with
 | .ClassDef _ _ _ body _ _ _ _ _ _ _=>body.getD j (.Pass ⟨0,0,0,0⟩)
 | _=>.Pass ⟨0,0,0,0⟩
def Az (s:Stmt):Arguments:=match s with
 | .FunctionDef _ a _ _ _ _ _ _ _ _=>a
 | _=>{ posonlyargs:=[],args:=[],vararg:=none,kwonlyargs:=[],kw_defaults:=[],kwarg:=none,defaults:=[] }
def Av (s:Stmt):List Stmt:=match s with
 | .FunctionDef _ _ b _ _ _ _ _ _ _=>b
 | _=>[]
def Ae (s:Stmt):Scope:=match s with
 | .FunctionDef _ _ _ _ _ _ sc _ _ _=>sc
 | _=>{ kind:=.function,names:=[],isGenerator:=false,isCoroutine:=false }
abbrev CX0:CXT:=λ_ _ _ _ _ _=>False
abbrev E0:XK:=λ_ _ _=>False
theorem N5 {X:Cx}:Passes CX0 X E0:=λ_ _ _ _ _ _ _ h=>h.elim
structure Fun (K:YD) (x qual:Str) (st:Stmt) (f:Addr) (fd:FuncData):Prop where
 ex:∃(oc:Value) (od:Option Addr) (kV doc pm:Value) (an:Option Addr) (cdv ct:Value) (osl:YI),
  fd=fnOf x qual (Az st) (Av st) (Ae st) .none kV doc pm an cdv ct/\K.lookup f=some ⟨oc,od,.func fd,osl⟩/\codeIn K cdv qual=true
 kp:keepIn K (.ref f)=true
section
variable {P:Program} {w:World} {K:YD} {mg:YB} {base:Heap}
theorem Fun.ok {x qual:Str} {st:Stmt} {f:Addr} {fd:FuncData} {N ps:YF} {k:Nat} {sp:Sp} (F:Fun K x qual st f fd) (S:Ba N ps (Ae st)) (len:∀vs H Q E,sp vs H Q E->vs.length=ps.length)
  (hbody:∀(cdv:Value) (A:Around) (outer:List Env) (s:Shared) (H:Hp) (vs:YG) (Q:VK) (E:XK),Br k (A.deeper (envOfC qual (Ae st) s.heap.objs.size f cdv))->sp vs H Q E ->
   ∃t,PSs (Ih CX0 P w K mg base N qual (Ae st) f cdv A outer s H E).nox (Av st) t/\t { nx:=λ_ H'=>Q .non H',rt:=Q } (start N vs) H):DK P w K mg base CX0 (k+1) f fd ps sp:=by
 obtain⟨oc,od,kV,doc,pm,an,cdv,ct,osl,rfl,lk,hcd⟩:=F.ex;refine fD lk hcd S len λA outer s H vs Q E hr hsp=>?_;obtain⟨t,h,q⟩:=hbody cdv A outer s H vs Q E hr hsp;exact⟨t,h.nox,q⟩
theorem Fun.binds {x qual:Str} {st:Stmt} {f:Addr} {fd:FuncData} {ps:YF} (F:Fun K x qual st f fd)
  (h:∀(kV doc pm:Value) (an:Option Addr) (cdv ct:Value) (us:YE),us.length=ps.length->bindArgs (fnOf x qual (Az st) (Av st) (Ae st) .none kV doc pm an cdv ct) ⟨us,[]⟩=pure (ps.zip us)):Binds K fd ps []:=by
 obtain⟨oc,od,kV,doc,pm,an,cdv,ct,osl,rfl,lk,hcd⟩:=F.ex;exact .all (h kV doc pm an cdv ct)
theorem Fb {x qual:Str} {st:Stmt} {f:Addr} {oc:Value} {od an:Option Addr} {osl:YI} {kV doc pm cdv ct:Value} (l:K.lookup f=some ⟨oc,od,.func (fnOf x qual (Az st) (Av st) (Ae st) .none kV doc pm an cdv ct),osl⟩)
  (c:codeIn K cdv qual=true) (k:keepIn K (.ref f)=true):Fun K x qual st f (fnOf x qual (Az st) (Av st) (Ae st) .none kV doc pm an cdv ct):=⟨⟨oc,od,kV,doc,pm,an,cdv,ct,osl,rq,l,c⟩,k⟩
end
theorem Wu {A:Around} {k:Nat} (hr:Br k A):A.units+1 < cLine:=Nat.lt_of_le_of_lt (Nat.add_le_add_left (by decide:1<=64) _) hr.units
theorem Aq {n:Nat} (h:n<=1000):n < sizeLine:=Nat.lt_of_le_of_lt h (by decide)
section
variable {X:Cx}
theorem pv (i:Nat) {x:Str} {pos:Pos} (hN:X.N[i]?=some x:=by rfl) (hv:Vis X.env.scope x:=by first | exact Or.inl rfl | exact Or.inr (Or.inl rfl) | exact Or.inr (Or.inr rfl)) (hd:(x == ("__debug__":Str))=false:=by decide)
  (hcd:(x == ("__classdict__":Str))=false:=by decide):PE X (.Name x pos) (Ox i):=jD hN hv hd hcd
end
theorem Bk {A B:Prop} (h:B):if false=true then A else B:=by
 rw[if_neg QaL];exact h
theorem Bp {A B:Prop} (h:A):if true=true then A else B:=by
 rw[if_pos rfl];exact h
theorem j7 {c A B:Prop} [Decidable c] (h1:c->A) (h2:¬c->B):if c then A else B:=by
 by_cases h:c
 ·rw[if_pos h];exact h1 h
 ·rw[if_neg h];exact h2 h
theorem oG {c A B:Prop} [Decidable c] (hc:c) (h:B):if (!decide c)=true then A else B:=by
 rw[QbH hc];exact Bk h
def Same (H H':Hp):Prop:=∀b o,H b=some o->H' b=some o
theorem Same.refl (H:Hp):Same H H:=λ_ _ h=>h
theorem Same.trans {H H1 H2:Hp} (a:Same H H1) (b:Same H1 H2):Same H H2:=λc o h=>b c o (a c o h)
theorem Same.free {H H':Hp} (e:Same H H') {l:Addr} (h:H' l=Option.none):H l=Option.none:=by
 cases q:H l with
 | none=>rfl
 | some o=>
  rw[e l o q] at h;cases h
theorem Same.seq {K:YD} {H H':Hp} {a:Addr} {xs:YG} (e:Same H H') (h:SqL K H a xs):SqL K H' a xs:=by
 rcases h with (h |⟨o,h⟩) | h
 ·exact .inl (.inl (e _ _ h))
 ·exact .inl (.inr ⟨o,e _ _ h⟩)
 ·exact .inr h
def Dl (env:Env):List (Str×NameKind)->List (Str×Addr)->List (Str×Addr)
 | [],cs=>cs
 | (n,k)::r,cs=>Dl env r (if (k == .free)=true then (match env.cells.lookup n with | some c=>(n,c)::cs | none=>cs) else cs)
theorem SM {env:Env}:∀(names:List (Str×NameKind)) (cs:List (Str×Addr)),(∀p∈names,p.2=.free->∃c,env.cells.lookup p.1=some c) ->
  (forIn names cs λ(p:Str×NameKind) (r:List (Str×Addr))=>(if (p.2 == .free)=true then do
    let c <-cellOf env p.1
    pure (ForInStep.yield ((p.1,c)::r))
   else pure (ForInStep.yield r):Sem (ForInStep (List (Str×Addr)))))=pure (Dl env names cs)
 | [],cs,_=>rfl
 | (n,k)::rest,cs,h=>by
  have ih:=λcs'=>SM rest cs' λp hp=>h p (QaA _ hp);rw[List.forIn_cons];cases hk:(k == NameKind.free) with
  | true=>
   obtain⟨c,hc⟩:=h (n,k) QaQ (eq_of_beq hk);have e1:cellOf env n=pure c:=by unfold cellOf;rw[hc]
   have e2:Dl env ((n,k)::rest) cs=Dl env rest ((n,c)::cs):=by simp only[Dl,hk,if_true,hc]
   rw[e2,<-ih];simp only[hk,if_true,e1,pure_bind]
  | false=>
   have e2:Dl env ((n,k)::rest) cs=Dl env rest cs:=by simp only[Dl,hk,Bool.false_eq_true,if_false]
   rw[e2,<-ih];simp only[hk,Bool.false_eq_true,if_false,pure_bind]
theorem Ot {env:Env} {scope:Scope} (h:∀p∈scope.names,p.2=.free->∃c,env.cells.lookup p.1=some c):closureFor scope env=pure (Dl env scope.names []):=by
 have e:=SM (env:=env) scope.names [] h;unfold closureFor;simp only[bind_pure];exact e
theorem SJ {env:Env}:∀(names:List (Str×NameKind)) (cs:List (Str×Addr)),(∀x c,cs.lookup x=some c->env.cells.lookup x=some c) ->
  ∀x c,(Dl env names cs).lookup x=some c->env.cells.lookup x=some c
 | [],cs,h,x,c,e=>h x c e
 | (n,k)::rest,cs,h,x,c,e=>by
  refine SJ rest _ (λy d z=>?_) x c e;split at z
  ·split at z
   ·rename_i c' hc';rw[List.lookup_cons] at z;cases q:y == n with
    | true=>rw[q] at z;cases z;rw[eq_of_beq q];exact hc'
    | false=>rw[q] at z;exact h y d z
   ·exact h y d z
  ·exact h y d z
theorem M9 {env:Env}:∀(names:List (Str×NameKind)) (cs:List (Str×Addr)) (x:Str),((cs.lookup x).isSome=true\/((x,NameKind.free)∈names/\∃c,env.cells.lookup x=some c)) ->
  ∃c,(Dl env names cs).lookup x=some c
 | [],cs,x,h=>by
  rcases h with h |⟨h,_⟩
  ·exact Option.isSome_iff_exists.mp h
  ·cases h
 | (n,k)::rest,cs,x,h=>by
  refine M9 rest _ x ?_;have grow:(cs.lookup x).isSome=true->(List.lookup x (if (k == .free)=true then (match env.cells.lookup n with | some c=>(n,c)::cs | none=>cs) else cs)).isSome=true:=λz=>by
   split
   ·split
    ·rw[List.lookup_cons];cases x == n with
     | true=>rfl
     | false=>exact z
    ·exact z
   ·exact z
  rcases h with h |⟨h,c,hc⟩
  ·exact .inl (grow h)
  ·rcases QbK.mp h with z | z
   ·cases z;refine .inl ?_;simp[hc,List.lookup_cons]
   ·exact .inr ⟨z,c,hc⟩
def Jd (env:Env) (n:Str) (k:NameKind):NameKind:=if (k == .free&&env.scope.kind == .function&&env.kindOf n == some .cell)=true then .cell else k
theorem Oa (env:Env):∀(l:List (Str×NameKind)) (x:Str),
  (l.map λ(n,k)=>if (k == NameKind.free&&env.scope.kind == .function&&env.kindOf n == some .cell) then (n,NameKind.cell) else (n,k)).lookup x=(l.lookup x).map (Jd env x)
 | [],_=>rfl
 | (n,k)::r,x=>by
  have ih:=Oa env r x;have e:(if (k == NameKind.free&&env.scope.kind == .function&&env.kindOf n == some .cell)=true then (n,NameKind.cell) else (n,k))=(n,Jd env n k):=by
   unfold Jd;split <;> rfl
  rw[QbM];show List.lookup x ((if (k == NameKind.free&&env.scope.kind == .function&&env.kindOf n == some .cell)=true then (n,NameKind.cell) else (n,k))::_)=_
  rw[e,List.lookup_cons,List.lookup_cons];cases q:x == n with
  | true=>rw[eq_of_beq q];rfl
  | false=>exact ih
theorem Zr {env:Env} {n:Str} {k:NameKind} (h:Jd env n k=.cell\/Jd env n k=.free):k=.cell\/k=.free:=by
 unfold Jd at h;split at h
 ·rename_i q;simp only[Qbm] at q;exact .inr (eq_of_beq q.1.1)
 ·exact h
theorem YT {prog:Program} {w:World} {A:Around} {R:Result->Shared->Prop} {s:Shared} {elt target iter:Expr} {ifs:YJ} {scope:Scope} {pos:Pos} {it acc:Value} {env:Env} (J:Nat->Shared->Prop)
  (turn:∀n s,J n s->wpAny (model prog w) A (pyNext it) (λr s1=>match r with
   | none=>R (.ok .next) s1
   | some v=>wpAny (model prog w) A (letOwnedTupleGo target it v) (λ_ s2=>wpAny (model prog w) A (assign target env v) (λ_ s3=>
     wpAny (model prog w) A (forIn ifs true λc r=>if r=true then do let ok <-isTrue c env (eval c env);pure (ForInStep.yield ok) else pure (ForInStep.yield r)) (λok s4=>
      if ok=true then wpAny (model prog w) A (eval elt env) (λx s5=>wpAny (model prog w) A (call (.builtin "list.append") [acc,x]) (λ_ s6=>∃m,m < n/\J m s6) (λ_ _=>False) s5) (λ_ _=>False) s4
      else ∃m,m < n/\J m s4) (λ_ _=>False) s3) (λ_ _=>False) s2) (λ_ _=>False) s1) (λ_ _=>False) s)
  (n:Nat) (h:J n s):codeAny (model prog w) A (.compLoop (.ListComp elt [⟨target,iter,ifs,0⟩] scope pos) 0 it acc env) R s:=by
 refine codeAny_loop rfl J (λk s' hk=>?_) n h;show wpAny _ A (Sem.onRaise (compTurn (.ListComp elt [⟨target,iter,ifs,0⟩] scope pos) 0 it acc env) (λx=>do noteFrame x env;theTreesLotGoes x)) _ _ s'
 refine wpAny_noted ?_;rw[compTurn_list];refine Qcb (QbR (Qcb (Qcd (turn k s' hk) (λr s1 q1=>?_) λ_ _ f=>f.elim)));cases r with
 | none=>exact Qcc q1
 | some v=>
  refine Qcb (Qcd q1 (λ_ s2 q2=>Qcb (Qcd q2 (λ_ s3 q3=>Qcb (Qcd q3 (λok s4 q4=>?_) λ_ _ f=>f.elim)) λ_ _ f=>f.elim)) λ_ _ f=>f.elim);cases ok with
  | false=>exact Qcc ⟨rfl,q4⟩
  | true=>exact Qcb (Qcb (Qcd q4 (λx s5 q5=>Qcb (Qcd q5 (λ_ s6 q6=>Qcc (Qcc ⟨rfl,q6⟩)) λ_ _ f=>f.elim)) λ_ _ f=>f.elim))
def cxC (X:Cx) (N':YF) (scope:Scope) (s3:Shared) (H3:Hp) (fp:List Addr) (pn:YC):Cx where
 prog:=X.prog
 w:=X.w
 K:=X.K
 mg:=X.mg
 base:=X.base
 A:=X.A
 N:=N'
 s₀:=s3
 H₀:=H3
 env:=compEnvC scope (Dl X.env scope.names []) s3.heap.objs.size X.env
 outer:=X.stack
 stack:=X.stack
 ex:=fp
 fn:=λ_=>false
 calm:=X.calm
 pn:=pn
 xe:=λ_ _=>False
structure Bx (X:Cx) (N':YF) (src:List (Option Nat)) (sc:Scope):Prop where
 kind:sc.kind=.function
 GZ:∀y∈sc.names,y.2≠.cell
 loc:∀y∈sc.names,y.2=.local->sc.names.lookup y.1=some .local
 fv:∀y∈sc.names,y.2=.free->X.env.kindOf y.1=some .cell\/X.env.kindOf y.1=some .free
 len:src.length=N'.length
 src:∀(i:Nat) (x:Str) (j:Nat),N'[i]?=some x->src[i]?=some (some j)->X.N[j]?=some x/\sc.names.lookup x=some .free
def Ik (src:List (Option Nat)) (Z : St):St:=src.map λo=>match o with | none=>none | some j=>(Z[j]?).join
def PF (X:Cx) (ifs:YJ) (t:TT):Prop:=
 ∀(jb:YC) (s:Shared) (Z : St) (H:Hp) (Q:Bool->Hp->Prop),Inv X jb Z H s->t Z H Q ->
  wpAny (model X.prog X.w) X.A (forIn ifs true λc r=>if r=true then do let ok <-isTrue c X.env (eval c X.env);pure (ForInStep.yield ok) else pure (ForInStep.yield r)) (TP X jb Z Q) X.xe s
theorem Ey {X:Cx}:PF X [] (λ_ H Q=>Q true H):=λ_ _ _ H _ I h=>wpAny_tests_nil ⟨H,I,h⟩
theorem K4 {X:Cx} {c:Expr} {t:TT} (hc:PT X c t):PF X [c] t:=λjb s Z H Q I h=>wpAny_tests_one (hc jb s Z H Q I h)
theorem Un.ahead {fs ex:List Addr} {H H':Hp} {h h1 h':Heap} (u:Un fs ex H H' h h1) (k:∀b o,b < h.objs.size->h1.get? b=some o->h'.get? b=some o):Un fs ex H H' h h' where
 keep:=λb o e n hb hx=>k b o (QbS e) (u.keep b o e n hb hx)
 slot:=λb o e n hb hx=>by
  obtain⟨sl,q⟩:=u.slot b o e n hb hx;exact⟨sl,k b _ (QbS e) q⟩
 free:=u.free
 there:=λb o e hx=>by
  obtain⟨o',q⟩:=u.there b o e hx;exact⟨o',k b _ (QbS e) q⟩
 tups:=u.tups
 FJ:=u.FJ
 Gu:=u.Gu
section
variable {X:Cx} {N':YF} {src:List (Option Nat)} {sc:Scope} {jb:YC} {Z : St} {H:Hp} {s3:Shared} {fp:List Addr} {h1:Heap} {tk:Nat}
theorem Sw (S:Bx X N' src sc) (I:Inv X jb Z H s3) (hf:∀b∈fp,Es X jb H b) (ht:∀b∈fp,b < s3.heap.objs.size)
  (ns:h1.Ns s3.heap.objs.size λ_=>none) (kp:∀b o,s3.heap.get? b=some o->h1.get? b=some o) :
  Inv (cxC X N' sc s3 H fp (X.pn++jb)) [] (Ik src Z) H { s3 with heap:=h1,toks:=tk }:=by
 have hcl:∀x c,(Dl X.env sc.names []).lookup x=some c->X.env.cells.lookup x=some c:=SJ sc.names [] λx c e=>by cases e
 have old:∀x c,(Dl X.env sc.names []).lookup x=some c->∃o,s3.heap.get? c=some o:=λx c e=>by
  obtain⟨v,o,ho,_⟩:=I.cell x c (hcl x c e);exact⟨o,ho⟩
 have fvh:∀x,(x,NameKind.free)∈sc.names->∃c,X.env.cells.lookup x=some c:=λx hx=>I.ok.has x (S.fv _ hx rfl);have jk:∀b,b≠X.env.locals->b∉X.fs->b∉frs X.stack:=λb h1 h2 hb=>(QbK.mp (I.Nj b hb)).elim h1 h2;have kindOf_eq:∀x,(compEnvC sc (Dl X.env sc.names []) s3.heap.objs.size X.env).kindOf x=(sc.names.lookup x).map (Jd X.env x):=λx=>Oa X.env sc.names x;refine⟨⟨I.ok.mod,S.kind,I.ok.glob,I.ok.blt,QbZ _,λx y c e1 e2=>I.ok.inj x y c (hcl x c e1) (hcl y c e2),λx hx=>?_,λx c hf=>absurd hf QaL,I.ok.hd,I.ok.frames,.inl rfl,λb hb=>?_,I.bs,QbU I.ok.bsz I.sz,
  λb o e hb=>?_,λb hb=>?_,I.stack,I.Oz⟩,rq,I.bare,Un.kept kp,⟨_,ns,λi x v e1 e2 e3=>?_⟩,λx c e=>?_,I.hok.fresh (QbZ _),λx c e=>I.Dt x c (hcl x c e),λp hp=>?_,I.hok.kept kp,?_⟩
 ·
  have hx':(sc.names.lookup x).map (Jd X.env x)=some .cell\/(sc.names.lookup x).map (Jd X.env x)=some .free:=by
   rw[<-kindOf_eq x];exact hx
  cases q:sc.names.lookup x with
  | none=>rw[q] at hx';rcases hx' with z | z <;> cases z
  | some k=>
   rw[q] at hx';have hk:k=.cell\/k=.free:=Zr (env:=X.env) (n:=x) (hx'.imp (λz=>Qbx z) λz=>Qbx z);have hm:=QaJ q;rcases hk with rfl | rfl
   ·exact absurd rfl (S.GZ _ hm)
   ·exact M9 sc.names [] x (.inr ⟨hm,fvh x hm⟩)
 ·
  obtain⟨f0,f1,f2,f3,f4,f5⟩:=hf b hb;exact⟨QbT (ht b hb),λx c e=>f4 x c (hcl x c e)⟩
 ·
  obtain⟨f0,f1,f2,f3,f4,f5⟩:=hf b hb;rcases f3 with z | z
  ·exact I.ok.Jj b o e z
  ·exact absurd (QaP (QbS e) (QbU I.ok.bsz z)) (QbO _)
 ·
  obtain⟨f0,f1,f2,f3,f4,f5⟩:=hf b hb;exact jk b f1 f2
 ·
  have e2':(Ik src Z)[i]?=some (some v):=e2;unfold Ik at e2';rw[Qba] at e2';cases q:src[i]? with
  | none=>rw[q] at e2';cases e2'
  | some oj=>
   rw[q] at e2';cases oj with
   | none=>cases e2'
   | some j=>
    have e4:(Z[j]?).join=some v:=Qbx e2';have e5:Z[j]?=some (some v):=by
     cases r:Z[j]? with
     | none=>rw[r] at e4;cases e4
     | some z=>rw[r] at e4;cases z with
      | none=>cases e4
      | some y=>cases e4;rfl
    obtain⟨hN,hfr⟩:=S.src i x j e1 q;have hm:=QaJ hfr;have kx:=S.fv _ hm rfl;obtain⟨m,hn,hl⟩:=I.loc;obtain⟨u,r,l⟩:=hl j x v hN e5 (.inr kx);refine⟨u,r,?_⟩;rcases l with⟨k1,_⟩|⟨_,c,hc,hcell⟩
    ·rcases kx with z | z <;> (rw[z] at k1;cases k1)
    ·obtain⟨c',hc'⟩:=M9 (env:=X.env) sc.names [] x (.inr ⟨hm,c,hc⟩);have e6:c'=c:=by
      have:=hcl x c' hc';rw[hc] at this;exact (Qbx this).symm
     subst e6;refine .inr ⟨?_,c',hc',?_⟩
     ·have:(compEnvC sc (Dl X.env sc.names []) s3.heap.objs.size X.env).kindOf x=some (Jd X.env x .free):=by rw[kindOf_eq x,hfr];rfl
      show (compEnvC sc (Dl X.env sc.names []) s3.heap.objs.size X.env).kindOf x=some .cell\/(compEnvC sc (Dl X.env sc.names []) s3.heap.objs.size X.env).kindOf x=some .free;rw[this];unfold Jd;split
      ·exact .inl rfl
      ·exact .inr rfl
     ·obtain⟨o,ho,hd⟩:=hcell;exact⟨o,kp _ o ho,hd⟩
 ·
  obtain⟨v,o,ho,hd⟩:=I.cell x c (hcl x c e);exact⟨v,o,kp _ o ho,hd⟩
 ·
  have hp':p∈X.pn++jb:=(Qbu.mp hp).elim id λz=>by cases z
  obtain⟨a1,a2,a3,a4,a5⟩:=I.pin p hp';exact⟨kp _ _ a1,a2,QbT (QbS a1),jk p.1 a3 a4,a5⟩
 ·show (Ik src Z).length=N'.length;unfold Ik;rw[Qbt];exact S.len
theorem Sx {s1:Shared} {σ':St} {H':Hp} {h':Heap} (I:Inv X jb Z H s3) (hf:∀b∈fp,Es X jb H b) (I':Inv (cxC X N' sc s3 H fp (X.pn++jb)) [] σ' H' s1)
  (sb:Heap.SameBut s3.heap.objs.size s1.heap h'):Inv X jb Z H' { s1 with heap:=h' }:=by
 have fr:H' s3.heap.objs.size=none:=I'.free;refine I.call' (s':={ s1 with heap:=h' }) (ch:=fp) I'.os ?_ ?_ I'.bare λb hb=>?_
 ·exact Un.ahead (h:=s3.heap) (h1:=s1.heap) I'.base λb o hb e=>sb.extBut b o (QbT hb) e
 ·exact λb u e=>(I'.hok b u e).stay (λc v hc q=>sb.extBut c v (by
   intro z;rcases hc with y | y
   ·rw[<-y,z,fr] at e;cases e
   ·rw[z,fr] at y;cases y) q) (λ_ q=>q) λ_ _ q=>q
 ·obtain⟨f0,f1,f2,f3,f4,f5⟩:=hf b hb;exact⟨f3,f1,f4,λp hp=>f5 p hp⟩
end
@[irreducible] def Gq (J:It) (g:TG) (tt:TT) (te:TE) (Q:VK) (σ0:St) (H0:Hp) (l:Addr):Prop:=∃W:Nat->YN,(∃m,W 0 m σ0 H0) /\
 ∀i m σ' H',W i m σ' H'->(J.stop i H'/\Q (.ref l) H')\/(J.go i H'/\∃N:YO,(∀ σ3 H3,N σ3 H3->∃m',m' < m/\W (i+1) m' σ3 H3)/\∀x H2,J.yld i H' x H2->g x σ' H2 fun σ3 H3=>tt σ3 H3 λb H4=>
  if b=true then te σ3 H4 λy H5=>∃xs,H5 l=some (.lst xs)/\xs.length < sizeLine/\N σ3 (upd H5 l (.lst (xs++[y]))) else N σ3 H4)
def Vu (wi:TI) (src:List (Option Nat)) (g:TG) (tt:TT) (te:TE):TE:=fun Z H Q=>wi Z H λJ H1=>∀l,H1 l=none->Gq J g tt te Q (Ik src Z) (upd H1 l (.lst [])) l
theorem P0 {X:Cx} {N':YF} {src:List (Option Nat)} {sc:Scope} {elt tg iter:Expr} {ifs:YJ} {pos pos':Pos} {wi:TI} {g:TG} {tt:TT} {te:TE} {use:Option (Value->Sem Unit)} {R:YA} (hc:X.calm=true) (S:Bx X N' src sc)
  (hi:PI X tg iter wi) (hg:∀s3 H3 fp pn,PG (cxC X N' sc s3 H3 fp pn) tg g) (ht:∀s3 H3 fp pn,PF (cxC X N' sc s3 H3 fp pn) ifs tt) (he:∀s3 H3 fp pn,PE (cxC X N' sc s3 H3 fp pn) elt te)
  (hs:∀x,foldedSetIterable iter X.env x=pure x) {jb:YC} {s:Shared} {Z : St} {H:Hp} {Q:VK} (I:Inv X jb Z H s) (h:Vu wi src g tt te Z H Q)
  (fin:∀s3 H3 fp σ4 H4 s5 l,Inv X jb Z H3 s3->(∀b∈fp,Es X jb H3 b)->Inv (cxC X N' sc s3 H3 fp (X.pn++jb)) [] σ4 H4 s5->Q (.ref l) H4 ->
   compPost (model X.prog X.w) X.A X.xe use R (.ref l) s3.heap.objs.size (.ok .next) s5) :
  wpAny (model X.prog X.w) X.A (comprehension (.ListComp elt [⟨tg,iter,ifs,0⟩] sc pos) sc X.env pos' (newList []) false (eval iter X.env) use) R X.xe s:=by
 refine wpAny_comprehension_free (use:=use) (cl:=Dl X.env sc.names []) rfl hs (Ot λp hp e=>I.ok.has p.1 (S.fv p hp e)) S.kind S.loc ?_;refine thn (hi jb s Z H _ I h) λv s1 h1=>thn h1 λitv s2 h2=>?_;obtain⟨it,fp,tn,J,H2,rfl,I2,T,st2,f2,q⟩:=h2;have q':=q s2.heap.objs.size (I2.hok.fresh (QbZ _));unfold Gq at q';obtain⟨W,⟨m0,w0⟩,turn⟩:=q';refine Qbe (wpAny_newFunctionEnv S.GZ (by intro y hy;simp at hy) (λha hns hsb=>?_) S.kind);have I3:Inv X jb Z (upd H2 s2.heap.objs.size (.lst [])) { s2 with heap:=s2.heap.push { cls:=.type "list",dict:=none,data:=.seq ([]:YE).toArray } }:=
  I2.laid (t':=s2.toks) (λb u e=>Qaq _ e) (QbZ _) ⟨Qca _,[],0,.nil,QaF _ rfl⟩
 have hfl:∀b∈fp,b < s2.heap.objs.size:=λb hb=>by
  obtain⟨o,e,_⟩:=T.obj 0 _ st2 b hb;exact QbS e
 have f3:∀b∈fp,Es X jb (upd H2 s2.heap.objs.size (.lst [])) b:=λb hb=>⟨by rw[Al (QbT (hfl b hb))];exact (f2 b hb).1,(f2 b hb).2⟩;generalize hs3:({ s2 with heap:=s2.heap.push { cls:=.type "list",dict:=none,data:=.seq ([]:YE).toArray } }:Shared)=s3 at *;have hsz:s2.heap.objs.size < s3.heap.objs.size:=by rw[<-hs3];show s2.heap.objs.size < (s2.heap.push _).objs.size;rw[QbI];exact Qbo _
 have kp:∀b o,s3.heap.get? b=some o->ha.get? b=some o:=λb o e=>hsb.extBut b o (QbT (QbS e)) (Qaq _ e);have st3:tn 0 ha:=T.keep 0 _ _ st2 λb hb o e=>kp b o (by rw[<-hs3];exact Qaq _ e);have I4:Inv (cxC X N' sc s3 (upd H2 s2.heap.objs.size (.lst [])) fp (X.pn++jb)) [] (Ik src Z) (upd H2 s2.heap.objs.size (.lst [])) { s3 with heap:=ha,toks:=s3.toks+([]:List (Str×Value)).length }:=
  Sw S I3 f3 (λb hb=>Nat.lt_trans (hfl b hb) hsz) hns kp
 have loop:codeAny (model X.prog X.w) X.A (.compLoop (.ListComp elt [⟨tg,iter,ifs,0⟩] sc pos) 0 (.ref it) (.ref s2.heap.objs.size) (compEnvC sc (Dl X.env sc.names []) s3.heap.objs.size X.env))
   (compPost (model X.prog X.w) X.A X.xe use R (.ref s2.heap.objs.size) s3.heap.objs.size) { s3 with heap:=ha,toks:=s3.toks+([]:List (Str×Value)).length }:=by
  refine YT (λn s'=>∃i σ' H',Inv (cxC X N' sc s3 (upd H2 s2.heap.objs.size (.lst [])) fp (X.pn++jb)) [] σ' H' s'/\tn i s'.heap/\(∀b∈fp,H' b=none)/\W i n σ' H') ?_ m0 ⟨0,_,_,I4,st3,λb hb=>(f3 b hb).1,w0⟩;rintro n s4 ⟨i,σ4,H4,J4,st4,fr4,w4⟩;have stat:∀{H':Hp},(∀b∈fp,H' b=none)->∀b∈fp,Es (cxC X N' sc s3 (upd H2 s2.heap.objs.size (.lst [])) fp (X.pn++jb)) [] H' b:=λhn b hb=>
   ⟨hn b hb,(I4.ok.exf b hb).1,I4.ok.Ig b hb,.inl hb,λx c e=>(I4.ok.exf b hb).2 x c e,λp hp=>(f3 b hb).2.2.2.2.2 p ((Qbu.mp hp).elim id λz=>by cases z)⟩
  rcases turn i n σ4 H4 w4 with⟨stop,qn⟩|⟨go,N,hN,step⟩
  ·refine thn (T.done (cxC X N' sc s3 (upd H2 s2.heap.objs.size (.lst [])) fp (X.pn++jb)) rfl rfl rfl hc i [] s4 σ4 H4 _ J4 (stat fr4) st4 stop) λr s5 zz=>?_;obtain⟨hr,J5⟩:=zz;subst hr;exact fin s3 _ fp σ4 H4 s5 _ I3 f3 J5 qn
  ·refine thn (T.item (cxC X N' sc s3 (upd H2 s2.heap.objs.size (.lst [])) fp (X.pn++jb)) rfl rfl rfl hc i [] s4 σ4 H4 _ J4 (stat fr4) st4 go) λr s5 zz=>?_;obtain⟨u,hr,h5⟩:=zz;subst hr;refine thn h5 λ_ s6 zz=>?_;obtain⟨x,H6,J6,r6,y6,st6,fr6⟩:=zz;have J6':=J6.pinned (stat fr6) (T.obj _ _ st6);have back:∀{pl:YC} {σ7:St} {H7:Hp} {s7:Shared},Inv (cxC X N' sc s3 (upd H2 s2.heap.objs.size (.lst [])) fp (X.pn++jb)) ([]++Je fp s6.heap) σ7 H7 s7->N σ7 H7 ->
     ∃m',m' < n/\∃i σ' H',Inv (cxC X N' sc s3 (upd H2 s2.heap.objs.size (.lst [])) fp (X.pn++jb)) [] σ' H' s7/\tn i s7.heap/\(∀b∈fp,H' b=none)/\W i m' σ' H':=λ{pl σ7 H7 s7} J7 w7=>by
    obtain⟨m',hm,w7⟩:=hN _ _ w7;have pinned:∀b∈fp,∀o,s6.heap.get? b=some o->s7.heap.get? b=some o/\H7 b=none:=λb hb o e=>by
     have:=J7.pin (b,o) (Qau _ (Qau _ (FZ hb e)));exact⟨this.1,this.2.1⟩
    refine⟨m',hm,i+1,σ7,H7,J7.Gs,T.keep _ _ _ st6 λb hb o e=>(pinned b hb o e).1,λb hb=>?_,w7⟩;obtain⟨o,e,_⟩:=T.obj _ _ st6 b hb;exact (pinned b hb o e).2
   refine thn (hg s3 _ fp _ _ s6 σ4 H6 x u _ J6' r6 (step x H6 y6)) λ_ s7 zz=>?_;obtain⟨σ7,H7,J7,q7⟩:=zz;refine thn (ht s3 _ fp _ _ s7 σ7 H7 _ J7 q7) λok s8 zz=>?_;obtain⟨H8,J8,q8⟩:=zz;cases ok with
   | false=>
    rw[if_neg QaL] at q8 ⊢;exact back (pl:=[]) J8 q8
   | true=>
    rw[if_pos rfl] at q8 ⊢;refine thn (he s3 _ fp _ _ s8 σ7 H8 _ J8 q8) λy s9 zz=>?_;obtain⟨yv,H9,J9,r9,xs,hl9,hz9,q9⟩:=zz;refine thn (Ec _ s9 σ7 H9 (.ref s2.heap.objs.size) [yv] (.ref s2.heap.objs.size) [y] (λ_ H'=>N σ7 H') J9 rfl (.cons r9 .nil) ⟨_,xs,yv,rq,rq,hl9,hz9,q9⟩) λ_ s10 zz=>?_;obtain⟨_,H10,J10,_,q10⟩:=zz;exact back (pl:=[]) J10 q10
 exact codeAny_compStart_list loop (T.self X.A 0 _ _ _ st3 loop)
theorem Dn {X:Cx} {N':YF} {src:List (Option Nat)} {sc:Scope} {elt tg iter:Expr} {ifs:YJ} {pos:Pos} {wi:TI} {g:TG} {tt:TT} {te:TE} (hc:X.calm=true) (S:Bx X N' src sc)
  (hi:PI X tg iter wi) (hg:∀s3 H3 fp pn,PG (cxC X N' sc s3 H3 fp pn) tg g) (ht:∀s3 H3 fp pn,PF (cxC X N' sc s3 H3 fp pn) ifs tt) (he:∀s3 H3 fp pn,PE (cxC X N' sc s3 H3 fp pn) elt te)
  (hs:∀x,foldedSetIterable iter X.env x=pure x:=by intro _;rfl):PE X (.ListComp elt [⟨tg,iter,ifs,0⟩] sc pos) (Vu wi src g tt te):=by
 intro jb s Z H Q I h;rw[eval_ListComp];refine P0 (use:=none) hc S hi hg ht he hs I h λs3 H3 fp σ4 H4 s5 l I3 f3 J5 q=>?_;obtain⟨m,hn,_⟩:=J5.loc;exact⟨m,hn,λh' sb=>⟨.ref l,H4,Sx I3 f3 J5 sb,rq,q⟩⟩
theorem JB {X:Cx} {N':YF} {src:List (Option Nat)} {sc:Scope} {elt tg iter:Expr} {ifs:YJ} {pos spos px:Pos} {wi:TI} {g:TG} {tt:TT} {te:TE} {i:Nat} {x:Str} (hN:X.N.Nodup) (hi0:X.N[i]?=some x) (hx:Loc X.env.scope x) (hc:X.calm=true) (S:Bx X N' src sc)
  (hi:PI X tg iter wi) (hg:∀s3 H3 fp pn,PG (cxC X N' sc s3 H3 fp pn) tg g) (ht:∀s3 H3 fp pn,PF (cxC X N' sc s3 H3 fp pn) ifs tt) (he:∀s3 H3 fp pn,PE (cxC X N' sc s3 H3 fp pn) elt te)
  (hsw:swapsWith (.ListComp elt [⟨tg,iter,ifs,0⟩] sc pos) (some (.Name x px)) spos.line X.env=pure true:=by rfl) (hs:∀x,foldedSetIterable iter X.env x=pure x:=by intro _;rfl)
  (hf:X.fn x=true\/X.env.scope.names.lookup x=some .local:=by first | exact .inl rfl | exact .inr rfl | assumption) :
  PS X (.Assign [.Name x px] (.ListComp elt [⟨tg,iter,ifs,0⟩] sc pos) spos) (Zi (Vu wi src g tt te) (Iu i)):=by
 intro jb s Z H D I h;rw[exec_Assign_Name_used _ _ _ _ hsw];refine Qcb (QbR (Qcb ?_));show wpAny _ X.A (do let _ <-comprehension (.ListComp elt [⟨tg,iter,ifs,0⟩] sc pos) sc X.env _ (newList []) false (eval iter X.env) (some (assign (.Name x px) X.env))) _ _ s
 refine Qcb (thn (P0 (R:=λ_ s'=>SP X jb D .next s') hc S hi hg ht he hs I h λs3 H3 fp σ4 H4 s5 l I3 f3 J5 q=>?_) λ_ s' hq=>Qcc (Qcc hq));obtain⟨m,⟨oC,es,ep,hoC,r⟩,_⟩:=J5.loc;have I6:Inv X jb Z H4 { s5 with heap:=s5.heap }:=Sx I3 f3 J5 (Heap.SameBut.refl _ _);have hCn:H4 s3.heap.objs.size=none:=J5.free;have neL:s3.heap.objs.size≠X.env.locals:=Nat.ne_of_gt I3.lt;have uq:∀v,oC.data≠.cell v:=λv z=>by rw[r.1] at z;cases z
 have I7:Inv X (jb++[(s3.heap.objs.size,oC)]) Z H4 s5:=I6.O9 λp hp=>(Qbu.mp hp).elim (λz=>I6.pin p (Qau _ z)) λz=>by
  cases QaM.mp z;exact⟨hoC,hCn,neL,I3.jP (QbZ _),uq⟩
 show wpAny _ X.A (assign (.Name x px) X.env (.ref l)) _ _ s5;refine wpAny_assign_Name (JW (v:=.ref l) I7 hN hi0 hx rfl (λs6 I8=>?_) hf);have k8:=(I8.pin (s3.heap.objs.size,oC) (Qau _ (Qau _ (QaM.mpr rfl)))).1;refine⟨m,⟨oC,es,ep,k8,r⟩,λh' sb=>⟨_,H4,?_,q⟩⟩;have I9:=I8.Gs;refine I9.turned (t':=s6.toks) (λb o hb e=>sb.extBut b o hb e) hCn neL (.inr I3.sz) (λy c e z=>?_) (λp hp z=>?_)
 ·obtain⟨v,o,ho,_⟩:=I3.cell y c e;exact absurd (QbS ho) (by rw[z];exact QbO _)
 ·have:=(I3.pin p hp).1;exact absurd (QbS this) (by rw[z];exact QbO _)
theorem Bx.of {X:Cx} {N':YF} {src:List (Option Nat)} {sc:Scope} (fsc:Scope) (N:YF) (hX:X.env.scope=fsc) (hN:X.N=N) (kind:sc.kind=.function) (GZ:∀y∈sc.names,y.2≠.cell) (loc:∀y∈sc.names,y.2=.local->sc.names.lookup y.1=some .local)
  (fv:∀y∈sc.names,y.2=.free->fsc.names.lookup y.1=some .cell) (len:src.length=N'.length)
  (sr:((N'.zip src).all λp=>match p.2 with | none=>true | some j=>decide (N[j]?=some p.1)&&decide (sc.names.lookup p.1=some .free))=true):Bx X N' src sc where
 kind:=kind
 GZ:=GZ
 loc:=loc
 fv:=λy hy e=>.inl (by show X.env.scope.names.lookup y.1=some .cell;rw[hX];exact fv y hy e)
 len:=len
 src:=λi x j e1 e2=>by
  rw[List.all_eq_true] at sr;have hm:(x,some j)∈N'.zip src:=by
   refine Qaz (i:=i) ?_;rw[List.getElem?_zip_eq_some];exact⟨e1,e2⟩
  have:=sr _ hm;simp only[Qbm,decide_eq_true_eq] at this;rw[hN];exact this
section
variable {X:Cx}
@[irreducible] def Ie (K:YD):YG->Hp->VK->Prop:=λxs H Q=>∃x T t b,xs=[x,.ty T]/\Ho K H x t/\kitOne K t (.type T)=some b/\Q (.bl b) H
theorem FN:Dj X (.builtin "isinstance") (Ie X.K):=by
 intro jb s Z H xs us Q I r h;unfold Ie at h;obtain⟨x,T,t,b,rfl,ty,e,q⟩:=h;obtain⟨u,w',rfl,rx,rt⟩:=vals2 r;cases rt;exact Yg I rx ty e λtk=>⟨.bl b,H,I.tok tk,rq,q⟩
theorem Ue {K:YD}:kitOne K (.type "int") (.type "int")=some true:=by rfl
theorem RD {K:YD}:kitOne K (.type "int") (.type "bool")=some false:=by rfl
theorem RG {K:YD}:kitOne K (.type "bool") (.type "int")=some true:=by rfl
theorem Qk {K:YD}:kitOne K (.type "bool") (.type "bool")=some true:=by rfl
theorem Rz {K:YD}:kitOne K (.type "NoneType") (.type "int")=some false:=by rfl
theorem Ud {K:YD}:kitOne K (.type "str") (.type "int")=some false:=by rfl
theorem RB {K:YD}:kitOne K (.type "list") (.type "int")=some false:=by rfl
theorem Qj {K:YD}:kitOne K (.type "tuple") (.type "int")=some false:=by rfl
def Kn (H:Hp):V->Prop
 | .non=>True
 | .bl _=>True
 | .int _=>True
 | .str _=>True
 | .ref a=>(∃xs,H a=some (.lst xs))\/∃xs,H a=some (.tup xs)
 | _=>False
def isI:V->Bool
 | .int _=>true
 | .bl _=>true
 | _=>false
def isB:V->Bool
 | .bl _=>true
 | _=>false
def isW:V->Bool
 | .int _=>true
 | _=>false
theorem Kn.same {H H':Hp} {v:V} (s:Same H H') (k:Kn H v):Kn H' v:=by
 cases v with
 | ref a=>exact k.imp (λ⟨xs,e⟩=>⟨xs,s _ _ e⟩) λ⟨xs,e⟩=>⟨xs,s _ _ e⟩
 | _=>exact k
theorem U4 {K:YD} {H:Hp} {x:V} {Q:VK} (k:Kn H x) (q:Q (.bl (isI x)) H):Ie K [x,.ty "int"] H Q:=by
 unfold Ie;cases x with
 | non=>exact⟨_,_,_,_,rfl,.non,Rz,q⟩
 | bl b=>exact⟨_,_,_,_,rfl,.bl b,RG,q⟩
 | int i=>exact⟨_,_,_,_,rfl,.int i,Ue,q⟩
 | str z=>exact⟨_,_,_,_,rfl,.str z,Ud,q⟩
 | ref a=>
  rcases k with⟨xs,e⟩|⟨xs,e⟩
  ·exact⟨_,_,_,_,rq,.lst e,RB,q⟩
  ·exact⟨_,_,_,_,rq,.tup e,Qj,q⟩
 | _=>exact k.elim
theorem RM {K:YD} {H:Hp} {x:V} {Q:VK} (k:isI x=true) (q:Q (.bl (isB x)) H):Ie K [x,.ty "bool"] H Q:=by
 unfold Ie;cases x with
 | bl b=>exact⟨_,_,_,_,rfl,.bl b,Qk,q⟩
 | int i=>exact⟨_,_,_,_,rfl,.int i,RD,q⟩
 | _=>cases k
theorem Ti:∀{bs:List Bool} {us:YE},Vals (bs.map V.bl) us->LSm.BoolsAre us bs
 | [],_,.nil=>.nil
 | b::r,_,.cons h t=>by
  cases (show _=Value.bool b from h)
  exact .cons b (Ti t)
theorem Kq (hc:X.calm=true):Dj X (.builtin "all") (λxs H Q=>∃(p:Addr) (bs:List Bool),xs=[.ref p]/\SqL X.K H p (bs.map V.bl)/\Q (.bl (bs.all id)) H):=by
 intro jb s Z H xs us Q I r h;obtain⟨p,bs,rfl,hq,q⟩:=h;obtain⟨u,rfl,rx⟩:=vals1 r;cases rx;obtain⟨its,rv,pl,hz⟩:=I.list hq;have hb:=Ti rv;have hl:=pl.isList;have hlt:p < s.heap.objs.size:=by obtain⟨_,e,_⟩:=hl;exact QbS e
 refine call_all_walk (wpAny_pyIter_list hl ?_);refine⟨s.heap.objs.size,[s.heap.objs.size,p],[s.heap.objs.size],its.toArray.size,_,_,λi=>(bs[i]?).getD true,rq,Walks.list (A:=X.A.in1) (I.ok.hd hc) _ p (QbT hlt) its.toArray,
  ⟨⟨_,QaF _ rfl,rq,rq⟩,hl.push _⟩,λi v s' Q' E' hP hQ=>?_,λh' tk hk=>?_⟩
 ·obtain⟨b,e,rfl⟩:=hb.get i v (by simpa using hP);simp only[e,Option.getD_some] at hQ;exact Qbc hQ
 ·have e:((List.range its.toArray.size).all λi=>(bs[i]?).getD true)=bs.all id:=by
   rw[QaZ,hb.length];exact LSm.range_all bs
  rw[e];exact⟨.bl (bs.all id),H,I.kept (LSm.kept_iter hk),rq,q⟩
mutual
inductive Rep (H:Hp):V->PyData->Prop
 | non:Rep H .non .none
 | bl (b:Bool):Rep H (.bl b) (.bool b)
 | int (i:Int):Rep H (.int i) (.int i)
 | str (x:Str):Rep H (.str x) (.str x)
 | tup {a:Addr} {xs:YG} {ds:List PyData}:H a=some (.tup xs)->Ii H xs ds->Rep H (.ref a) (.tuple ds)
 | lst {a:Addr} {xs:YG} {ds:List PyData}:H a=some (.lst xs)->Ii H xs ds->Rep H (.ref a) (.list ds)
inductive Ii (H:Hp):YG->List PyData->Prop
 | nil:Ii H [] []
 | cons {x:V} {d:PyData} {xs:YG} {ds:List PyData}:Rep H x d->Ii H xs ds->Ii H (x::xs) (d::ds)
end
mutual
theorem Rep.reads {P:Program} {w:World} {H:Hp} {h:Heap} (ok:HOk P w H h):∀{v:V} {d:PyData} {u:Value},Rep H v d->RelV v u->∃as,Reads h u d as
 | _,_,_,.non,r=>by cases (show _=Value.none from r);exact⟨_,.none⟩
 | _,_,_,.bl b,r=>by cases (show _=Value.bool b from r);exact⟨_,.bool b⟩
 | _,_,_,.int i,r=>by obtain⟨t,rfl⟩:=(show ∃t,_=Value.int i t from r);exact⟨_,.int i t⟩
 | _,_,_,.str x,r=>by obtain⟨t,rfl⟩:=(show ∃t,_=Value.str x t from r);exact⟨_,.str x t⟩
 | _,_,_,.tup (a:=a) (xs:=xs) e q,r=>by
  cases (show _=Value.ref a from r)
  obtain⟨_,its,rv,o,ho,hc,n,hd⟩:=(show Bo P w H h a (.tup xs) from ok a _ e)
  obtain⟨as,z⟩:=Ii.reads ok q rv;exact⟨_,.tuple ho hc hd (by simpa using z)⟩
 | _,_,_,.lst (a:=a) (xs:=xs) e q,r=>by
  cases (show _=Value.ref a from r)
  obtain⟨_,its,n,rv,ho⟩:=(show Bo P w H h a (.lst xs) from ok a _ e)
  obtain⟨as,z⟩:=Ii.reads ok q rv;exact⟨_,.list ho rfl rfl (by simpa using z)⟩
theorem Ii.reads {P:Program} {w:World} {H:Hp} {h:Heap} (ok:HOk P w H h):∀{xs:YG} {ds:List PyData} {us:YE},Ii H xs ds->Vals xs us->∃as,ReadsAll h us ds as
 | _,_,_,.nil,.nil=>⟨_,.nil⟩
 | _,_,_,.cons p q,.cons r t=>by
  obtain⟨as,a1⟩:=Rep.reads ok p r;obtain⟨bs,b1⟩:=Ii.reads ok q t;exact⟨_,.cons a1 b1⟩
end
theorem Rn (hu:X.A.units+64 < cLine):OpR X (compareOp .Eq) (λx y H Q=>∃d e,Rep H x d/\Rep H y e/\SeqAt.shaped d=true/\SeqAt.shaped e=true/\Q (.bl (PyData.eqv d e)) H):=by
 intro jb s Z H x y v u Q I rx ry h;obtain⟨d,e,p,p',sd,se,q⟩:=h;obtain⟨as,r1⟩:=p.reads I.hok rx;obtain⟨bs,r2⟩:=p'.reads I.hok ry;exact eq_dataH r1 r2 sd se hu ⟨.bl (PyData.eqv d e),H,I,rq,q⟩
theorem Xx (hu:X.A.units+64 < cLine):OpR X (compareOp .NotEq) (λx y H Q=>∃d e,Rep H x d/\Rep H y e/\SeqAt.shaped d=true/\SeqAt.shaped e=true/\Q (.bl (!PyData.eqv d e)) H):=by
 intro jb s Z H x y v u Q I rx ry h;obtain⟨d,e,p,p',sd,se,q⟩:=h;obtain⟨as,r1⟩:=p.reads I.hok rx;obtain⟨bs,r2⟩:=p'.reads I.hok ry;exact ne_dataH r1 r2 sd se hu ⟨.bl (!PyData.eqv d e),H,I,rq,q⟩
end
structure Code (K:YD) (mg:YB) (x:Str) (st:Stmt) (ps:YF):Prop where
 ex:∃(f:Addr) (fd:FuncData),Fun K x x st f fd/\mg x=some (.ref f)/\Binds K fd ps []
structure Good (P:Program) (w:World) (K:YD) (mg:YB) (base:Heap) (x:Str) (k:Nat) (ps:YF) (sp:Sp):Prop where
 ex:∃(f:Addr) (fd:FuncData),mg x=some (.ref f)/\keepIn K (.ref f)=true/\Binds K fd ps []/\DK P w K mg base CX0 k f fd ps sp
theorem Code.good {P:Program} {w:World} {K:YD} {mg:YB} {base:Heap} {x:Str} {st:Stmt} {ps N:YF} {k:Nat} {sp:Sp} (C:Code K mg x st ps) (S:Ba N ps (Ae st)) (len:∀vs H Q E,sp vs H Q E->vs.length=ps.length)
  (hbody:∀(f:Addr) (cdv:Value) (A:Around) (outer:List Env) (s:Shared) (H:Hp) (vs:YG) (Q:VK) (E:XK),Br k (A.deeper (envOfC x (Ae st) s.heap.objs.size f cdv))->sp vs H Q E ->
   ∃t,PSs (Ih CX0 P w K mg base N x (Ae st) f cdv A outer s H E).nox (Av st) t/\t { nx:=λ_ H'=>Q .non H',rt:=Q } (start N vs) H):Good P w K mg base x (k+1) ps sp:=by
 obtain⟨f,fd,F,m,b⟩:=C.ex;exact⟨f,fd,m,F.kp,b,F.ok S len λcdv A outer s H vs Q E hr h=>hbody f cdv A outer s H vs Q E hr h⟩
theorem NZ {X:Cx} {k k':Nat} {ps:YF} {sp:Sp} {x:Str} {p pos:Pos} {e:Expr} {es:YJ} {t:TA} (g:Good X.prog X.w X.K X.mg X.base x k ps sp) (hr:Br k' X.A) (ha:PA X (e::es) t) (hk:k<=k':=by decide) (hg:Gl X x:=by rfl)
  (hdb:(x == ("__debug__":Str))=false:=by decide) (he:starEach (e::es) X.env=(false,eval e X.env)::starEach es X.env:=by rfl) (hpl:(backTo pos (starEach es X.env)).any (·.1)=false:=by rfl) :
  PE X (.Call (.Name x p) (e::es) [] pos) (Ni sp [] E0 t):=by
 intro jb s Z H Q I h;obtain⟨f,fd,m,kp,b,F⟩:=g.ex;exact gD F (hr.mono hk) hg m kp b .nil N5 ha hdb he hpl jb s Z H Q I h
theorem Code.of {K:YD} {mg:YB} {h:Heap} {x:Str} {st:Stmt} {ps:YF} {f:Addr} {oc:Value} {od an:Option Addr} {osl:YI} {kV doc pm cdv ct:Value} (X:K.In h) (G:h.Ns mainGlobals mg)
  (a:nsIn K mainGlobals x=some (some (.ref f))) (l:K.lookup f=some ⟨oc,od,.func (fnOf x x (Az st) (Av st) (Ae st) .none kV doc pm an cdv ct),osl⟩) (c:codeIn K cdv x=true) (k:keepIn K (.ref f)=true)
  (hb:∀(kV doc pm:Value) (an:Option Addr) (cdv ct:Value) (us:YE),us.length=ps.length->bindArgs (fnOf x x (Az st) (Av st) (Ae st) .none kV doc pm an cdv ct) ⟨us,[]⟩=pure (ps.zip us)):Code K mg x st ps:=by
 have F:=Fb (st:=st) l c k;exact⟨f,_,F,mg_of X G a,F.binds hb⟩
theorem Af {H:Hp} {p:Addr} (h:H p=none) (o:HO):Same H (upd H p o):=λb u q=>by rw[Al (Am q h)];exact q
theorem Bx.plain {X:Cx} {N':YF} {sc:Scope} (kind:sc.kind=.function) (GZ:∀y∈sc.names,y.2≠.cell) (loc:∀y∈sc.names,y.2=.local->sc.names.lookup y.1=some .local) (Ru:∀y∈sc.names,y.2≠.free) :
  Bx X N' (N'.map λ_=>none) sc where
 kind:=kind
 GZ:=GZ
 loc:=loc
 fv:=λy hy e=>absurd e (Ru y hy)
 len:=by simp
 src:=λi x j _ e=>by
  rw[Qba] at e;cases q:N'[i]? with
  | none=>rw[q] at e;cases e
  | some z=>rw[q] at e;cases e
theorem cX {K:YD} {a l:Addr} {xs:YG} {g:TG} {tt:TT} {te:TE} {Q:VK} {σ0:St} {H0:Hp} (Pv:YN)
  (h0:Pv 0 σ0 H0) (hl:∀i Z H',i<=xs.length->Pv i Z H'->SqT K H' a xs)
  (hs:∀i x Z H',xs[i]?=some x->Pv i Z H'->g x Z H' fun σ3 H3=>tt σ3 H3 λb H4=>if b=true then te σ3 H4 λy H5=>∃ys,H5 l=some (.lst ys)/\ys.length < sizeLine/\Pv (i+1) σ3 (upd H5 l (.lst (ys++[y]))) else Pv (i+1) σ3 H4)
  (hd:∀ Z H',Pv xs.length Z H'->Q (.ref l) H'):Gq (Itt K a) g tt te Q σ0 H0 l:=by
 unfold Gq;refine⟨λi m Z H'=>m=xs.length - i/\i<=xs.length/\Pv i Z H',⟨xs.length,by simp,Qca _,h0⟩,?_⟩;rintro i m Z H' ⟨rfl,hi,p⟩;have q:=hl i Z H' hi p;by_cases hlt:i < xs.length
 ·refine .inr ⟨⟨xs,xs[i],q,by simp[hlt]⟩,Pv (i+1),fun σ3 H3 p'=>⟨xs.length - (i+1),by omega,rq,hlt,p'⟩,λx H2 y=>?_⟩;obtain⟨e,y⟩:=y;subst e;exact hs i x Z _ (y xs q) p
 ·have e:i=xs.length:=by omega
  subst e;exact .inl ⟨⟨xs,q,QbZ _⟩,hd Z H' p⟩
theorem Ed {K:YD} {a l:Addr} {xs:YG} {g:TG} {tt:TT} {te:TE} {Q:VK} {σ0:St} {H0:Hp} (Pv:YN)
  (h0:Pv 0 σ0 H0) (hl:∀i Z H',i<=xs.length->Pv i Z H'->SqL K H' a xs)
  (hs:∀i x Z H',xs[i]?=some x->Pv i Z H'->g x Z H' fun σ3 H3=>tt σ3 H3 λb H4=>if b=true then te σ3 H4 λy H5=>∃ys,H5 l=some (.lst ys)/\ys.length < sizeLine/\Pv (i+1) σ3 (upd H5 l (.lst (ys++[y]))) else Pv (i+1) σ3 H4)
  (hd:∀ Z H',Pv xs.length Z H'->Q (.ref l) H'):Gq (Itl K a) g tt te Q σ0 H0 l:=by
 unfold Gq;refine⟨λi m Z H'=>m=xs.length - i/\i<=xs.length/\Pv i Z H',⟨xs.length,by simp,Qca _,h0⟩,?_⟩;rintro i m Z H' ⟨rfl,hi,p⟩;have q:=hl i Z H' hi p;by_cases hlt:i < xs.length
 ·refine .inr ⟨⟨xs,xs[i],q,by simp[hlt]⟩,Pv (i+1),fun σ3 H3 p'=>⟨xs.length - (i+1),by omega,rq,hlt,p'⟩,λx H2 y=>?_⟩;obtain⟨e,y⟩:=y;subst e;exact hs i x Z _ (y xs q) p
 ·have e:i=xs.length:=by omega
  subst e;exact .inl ⟨⟨xs,q,QbZ _⟩,hd Z H' p⟩
theorem Gb {lo:Int} {n:Nat} {l:Addr} {g:TG} {tt:TT} {te:TE} {Q:VK} {σ0:St} {H0:Hp} (Pv:YN) (h0:Pv 0 σ0 H0)
  (hs:∀i Z H',i < n->Pv i Z H'->g (.int (lo+i)) Z H' fun σ3 H3=>tt σ3 H3 λb H4=>if b=true then te σ3 H4 λy H5=>∃ys,H5 l=some (.lst ys)/\ys.length < sizeLine/\Pv (i+1) σ3 (upd H5 l (.lst (ys++[y]))) else Pv (i+1) σ3 H4)
  (hd:∀ Z H',Pv n Z H'->Q (.ref l) H'):Gq (Itr lo n) g tt te Q σ0 H0 l:=by
 unfold Gq;refine⟨λi m Z H'=>m=n - i/\i<=n/\Pv i Z H',⟨n,by simp,Qca _,h0⟩,?_⟩;rintro i m Z H' ⟨rfl,hi,p⟩;by_cases hlt:i < n
 ·refine .inr ⟨hlt,Pv (i+1),fun σ3 H3 p'=>⟨n - (i+1),by omega,rq,hlt,p'⟩,λx H2 y=>?_⟩;obtain⟨e,y⟩:=y;subst e y;exact hs i Z _ hlt p
 ·have e:i=n:=by omega
  subst e;exact .inl ⟨QbZ _,hd Z H' p⟩
section
variable {X:Cx}
theorem YZ (hc:X.calm=true):Dj X (.builtin "max") (λxs H Q=>∃(p:Addr) (ns:List Int),xs=[.ref p]/\SqL X.K H p (ns.map V.int)/\0 < ns.length/\∀M,M∈ns->(∀a,a∈ns->a<=M)->Q (.int M) H):=by
 intro jb s Z H xs us Q I r h;obtain⟨p,ns,rfl,hq,hne,q⟩:=h;obtain⟨u,rfl,rx⟩:=vals1 r;cases rx;obtain⟨its,rv,pl,hz⟩:=I.list hq;have hi:IntsAre its ns:=intsAre_of rv;obtain⟨zs,e⟩:=hi.allInts.items;have hl:=pl.isList;rw[e] at hl;have hns:ns=zs.toList.map (·.1):=by rw[<-hi.numsOf,<-nums_intItems,<-e]
 have hsz:0 < zs.size:=by
  have h3:=hne;rw[hns,Qbt,QaG] at h3;exact h3
 refine max_intList (I.ok.hd hc) hl hsz λv h' tk hv hk=>?_;obtain⟨t,rfl⟩:=intItems_at hv;obtain⟨_,h2⟩:=argBest_gt (numAt zs) (zs.size - 1);refine⟨.int _,H,I.kept hk,⟨t,rq⟩,q _ ?_ λa ha=>?_⟩
 ·rw[hns,numAt_eq];exact getD_mem (by rw[Qbt,QaG];have:=(argBest_gt (numAt zs) (zs.size - 1)).1;omega)
 ·rw[hns] at ha;obtain⟨j,hj,rfl⟩:=mem_getD ha;rw[Qbt,QaG] at hj;rw[<-numAt_eq];exact h2 j (by omega)
theorem Yk:∀{us:YE} {ns:List Int},IntsAre us ns->Vals (ns.map V.int) us:=λh=>Kz h
theorem Tc:Dj X (.builtin "sorted") (λxs H Q=>∃(p:Addr) (ns:List Int),xs=[.ref p]/\SqL X.K H p (ns.map V.int)/\ns.length < 64 /\
  ∀(ms:List Int) l,ms.Perm ns->ms.Pairwise (·<=·)->H l=none->Q (.ref l) (upd H l (.lst (ms.map V.int)))):=by
 intro jb s Z H xs us Q I r h;obtain⟨p,ns,rfl,hq,h64,q⟩:=h;obtain⟨u,rfl,rx⟩:=vals1 r;cases rx;obtain⟨its,rv,pl,hz⟩:=I.list hq;have hi:IntsAre its ns:=intsAre_of rv;have hlen:=hi.length;refine sorted_ints pl.isList hi (by omega) λout ms a1 a2 a3=>?_;obtain⟨e,he⟩:=sortedAll_at s.heap its out;have hml:=a2.length_eq;refine⟨.ref (s.heap.objs.size+1),_,I.laid (t':=s.toks) (o:=.lst (ms.map V.int)) (λb o q=>sortedAll_old q) (Nat.le_succ _) ?_,rq,q ms _ a2 a3 (I.hok.fresh (Nat.le_succ _))⟩;exact⟨by rw[Qbt];exact QbW (Aq (by omega)),out.toList,e,Yk a1,he⟩
theorem Ur:∀{ys:YF} {us:YE},Vals (ys.map V.str) us->StrsAre us ys
 | [],_,.nil=>.nil
 | y::r,_,.cons h t=>by
  obtain⟨t',e⟩:=(show ∃t,_=Value.str y t from h)
  cases e;exact .cons y t' (Ur t)
def rJoin (K:YD):V->YG->Hp->VK->Prop:=λx vs H Q=>∃(z:Str) (p:Addr) (ys:YF),x=.str z/\vs=[.ref p]/\SqL K H p (ys.map V.str)/\(ys.map (·.length)).sum+ys.length*z.length<=16777216/\Q (.str (Txt.join z ys)) H
theorem ig:MtR X "str.join" (rJoin X.K):=by
 intro jb s Z H x vs v us Q I rx rv h;obtain⟨z,p,ys,rfl,rfl,hq,hz,q⟩:=h;obtain⟨t,rfl⟩:=rx;obtain⟨u,rfl,ru⟩:=rv.one;cases ru;obtain⟨its,r',pl,_⟩:=I.list hq;exact join_list pl.isList (Ur r') hz λt' k=>⟨.str (Txt.join z ys),H,I.tok k,⟨t',rq⟩,q⟩
def Its (z:Str):It:=⟨λi _=>i < z.cps.size,λi H x H'=>H'=H/\∃c,z.cps[i]?=some c/\x=.str ⟨#[c]⟩,λi _=>i=z.cps.size⟩
def vg (tl:TE):TI:=fun Z H R=>tl Z H λx H1=>∃z,x=.str z/\R (Its z) H1
end
section
variable {X:Cx} {tg:Expr}
theorem QJ {P:Program} {w:World} {K:YD} {tg:Expr} (z:Str) (t:Tok) (it:Addr) (ty:String) (hty:["enumerate","zip","dict_itemiterator","dict_reverseitemiterator","odict_iterator","itertools.zip_longest","itertools.pairwise"].contains ty=false)
  (W:∀A':Around,A'.handled=none->Walks P w A' it [it] [it] z.cps.size (SignAt z) (λi h=>h.IsStrIter it ty z t i))
  (hself:∀(A:Around) (i:Nat) (s:Shared) (Q:YA) (E:YA),s.heap.IsStrIter it ty z t i->Q (.ref it) s->wpAny (model P w) A (pyIter (.ref it)) Q E s) :
  Turn P w K tg (Its z) [it] it (λi h=>h.IsStrIter it ty z t i) where
 mem:=QaM.mpr rfl
 obj:=λi h st b hb=>by
  cases QaM.mp hb;obtain⟨o,e,c,d⟩:=st;exact⟨o,e,λv z'=>by rw[d] at z';cases z'⟩
 keep:=λi h h' st k=>by
  obtain⟨o,e,r⟩:=st;exact⟨o,k it (QaM.mpr rfl) o e,r⟩
 item:=by
  intro X hP hw hK hc i jb s Z H E I hf st hg;subst hP hw hK;obtain⟨f0,f1,f2,f3,f4,f5⟩:=hf it (QaM.mpr rfl);refine (W X.A (I.ok.hd hc)).item i s _ _ hg st λv h' tk hv st' kk=>?_;obtain⟨c,u,hcu,rfl⟩:=hv;have I1:Inv X jb Z H { s with heap:=h',toks:=tk }:=I.turned (λb o hb e=>kk b o (λhm=>hb (QaM.mp hm)) e) f0 f1 f3 f4 f5;obtain⟨o,e,cl,d⟩:=id st';exact⟨_,rq,Qw (s:={ s with heap:=h',toks:=tk }) e cl d hty ⟨.str ⟨#[c]⟩,H,I1,⟨u,rq⟩,⟨rq,c,hcu,rq⟩,st',λb hb=>(hf b hb).1⟩⟩
 done:=by
  intro X hP hw hK hc i jb s Z H E I hf st hg;subst hP hw hK;obtain⟨f0,f1,f2,f3,f4,f5⟩:=hf it (QaM.mpr rfl);cases (show i=z.cps.size from hg)
  exact (W X.A (I.ok.hd hc)).done s _ _ st λh' tk kk=>⟨rq,I.turned (λb o hb e=>kk b o (λhm=>hb (QaM.mp hm)) e) f0 f1 f3 f4 f5⟩
 self:=λA i s Q E st h=>hself A i s Q E st h
theorem jB {l:Expr} {tl:TE} (hl:PE X l tl):PI X tg l (vg tl):=by
 intro jb s Z H R I h;refine thn (hl jb s Z H _ I h) λv s1 zz=>?_;obtain⟨x,H1,I1,r1,z,e,q⟩:=zz;subst e;obtain⟨t,rfl⟩:=r1;have fp:∀o:Obj,∀b∈[s1.heap.objs.size],Es X jb H1 b:=λo b hb=>by
  cases QaM.mp hb;exact I1.RX (QbZ _) (I1.hok.fresh (QbZ _))
 cases ha:z.cps.all (· < 128) with
 | true=>
  refine wpAny_pyIter_ascii ha ?_;exact⟨s1.heap.objs.size,[s1.heap.objs.size],_,_,H1,rq,I1.kept (t':=s1.toks) λb o e=>Qaq _ e,QJ z t _ "str_ascii_iterator" (by decide) (λA' hA=>Walks.strAscii hA _ z t) (λ_ _ _ _ _ st h=>wpAny_pyIter_striter_ascii st h),
   ⟨_,QaF _ rfl,rq,rq⟩,fp { cls:=.none,data:=.fields #[] },q⟩
 | false=>
  refine wpAny_pyIter_wide ha ?_;exact⟨s1.heap.objs.size,[s1.heap.objs.size],_,_,H1,rq,I1.kept (t':=s1.toks) λb o e=>Qaq _ e,QJ z t _ "str_iterator" (by decide) (λA' hA=>Walks.strWide hA _ z t) (λ_ _ _ _ _ st h=>wpAny_pyIter_striter_wide st h),
   ⟨_,QaF _ rfl,rq,rq⟩,fp { cls:=.none,data:=.fields #[] },q⟩
theorem cY {z:Str} {l:Addr} {g:TG} {tt:TT} {te:TE} {Q:VK} {σ0:St} {H0:Hp} (Pv:YN) (h0:Pv 0 σ0 H0)
  (hs:∀i c Z H',z.cps[i]?=some c->Pv i Z H'->g (.str ⟨#[c]⟩) Z H' fun σ3 H3=>tt σ3 H3 λb H4=>if b=true then te σ3 H4 λy H5=>∃ys,H5 l=some (.lst ys)/\ys.length < sizeLine/\Pv (i+1) σ3 (upd H5 l (.lst (ys++[y]))) else Pv (i+1) σ3 H4)
  (hd:∀ Z H',Pv z.cps.size Z H'->Q (.ref l) H'):Gq (Its z) g tt te Q σ0 H0 l:=by
 unfold Gq;refine⟨λi m Z H'=>m=z.cps.size - i/\i<=z.cps.size/\Pv i Z H',⟨z.cps.size,by simp,Qca _,h0⟩,?_⟩;rintro i m Z H' ⟨rfl,hi,p⟩;by_cases hlt:i < z.cps.size
 ·refine .inr ⟨hlt,Pv (i+1),fun σ3 H3 p'=>⟨z.cps.size - (i+1),by omega,rq,hlt,p'⟩,λx H2 y=>?_⟩;obtain⟨e,c,hc,rfl⟩:=y;subst e;exact hs i c Z _ hc p
 ·have e:i=z.cps.size:=by omega
  subst e;exact .inl ⟨rq,hd Z H' p⟩
end
end L2
namespace HT
open PySem PyProof.Rows
section
variable {prog:Program} {w:World} {A:Around} {E:YA} {s:Shared}
theorem Mq {t sl:Addr} {items:Array Value} {vl vu:Value} {lo hi:Option Int} {Q:YA} (ht:IsTup s.heap t items) (hs:s.heap.IsSliceOf sl vl vu .none) (pl:IsPart vl lo) (pu:IsPart vu hi)
  (hw:sIx items.size 0 lo=0/\sIx items.size items.size hi=items.size) (h:Q (.ref t) s):wpAny (model prog w) A (getItem (.ref t) (.ref sl)) Q E s:=by
 obtain⟨os,hos,hcs,hds⟩:=id hs;have hTs:s.TypeIs (.ref sl) "slice":=⟨os,hos,hcs⟩;unfold getItem
 try with_reducible refine QbP ?_
 first | refine Qcb (Qcc ?_) | skip
 refine Qcb (wpAny_sequenceKey ht.typeIs (by decide) ?_);refine Qcb (Qao (name:=Str.ofString "__getitem__") ht.typeIs Qaa (Qbl Qaa ht.typeIs entry_tuple_getitem ?_ (args_tuple_getitem _ _)));show wpAny _ _ (Builtin.Tuple.tupleItemsOf (.ref t) >>= _) _ _ s;refine Qcb (tupleItemsOf_ ht ?_);refine Qcb (wpAny_typeOf hTs ?_);rw[if_pos (by decide)];refine Qcb (Ja hs pl pu ?_);rw[hw.1,hw.2];show wpAny _ _ (if (((0:Nat):Int) == 0&&(1:Int) == 1&&(items.size - 0) == items.size)=true then _ else _) _ _ s
 rw[if_pos (by simp)];refine Qcb ?_;unfold Builtin.Tuple.tupleIsExact;refine Qcb (wpAny_typeOf ht.typeIs (Qcc ?_));rw[if_pos (by decide)];exact Qcb (wpAny_rule (Qcc ⟨_,rq,Qcc h⟩))
end
end HT
namespace L2
open PySem PySem.Spec PyProof.Rows
section
variable {X:Cx}
theorem fU:SlR X (λx lo hi H Q=>∃a xs,x=.ref a/\H a=some (.tup xs)/\∀p H',H' p=some (.tup (Jz xs lo hi))->Same H H'->Q (.ref p) H'):=by
 intro jb s Z H x v vl vu lo hi sl Q I rx hs pl pu h;obtain⟨a,xs,rfl,hx,q⟩:=h;by_cases hw:HT.sIx xs.length 0 lo=0/\HT.sIx xs.length xs.length hi=xs.length
 ·cases rx;obtain⟨its,r,ht,hz⟩:=I.tuple (SqT.of hx);have hlen:its.toArray.size=xs.length:=by rw[QaZ];exact r.length.symm
  refine⟨"tuple",_,Qaa.lookup,ht.typeIs,?_⟩;refine HT.Mq ht hs pl pu (by rw[hlen];exact hw) ⟨.ref a,H,I,rq,q a H ?_ (Same.refl H)⟩;have e:Jz xs lo hi=xs:=by unfold Jz;rw[hw.1,hw.2];simp
  rw[e];exact hx
 ·exact jl jb s Z H _ v vl vu lo hi sl Q I rx hs pl pu ⟨a,xs,rq,SqT.of hx,hw,λp hp=>q p _ Ac (λc o e=>by rw[Al (Am e hp)];exact e)⟩
theorem Xm:SlR X (λx lo hi H Q=>∃z,x=.str z/\z.length<=sizeLine/\Q (.str (Txt.slice z lo hi)) H):=by
 intro jb s Z H x v vl vu lo hi sl Q I rx hs pl pu h;obtain⟨z,rfl,hz,q⟩:=h;obtain⟨t,rfl⟩:=rx;refine⟨"str",_,F.slot_str_getitem.lookup,typeIs_str _ _ _,?_⟩;have fin:∀t' k,EP X jb Z Q (.str (Txt.slice z lo hi) t') { s with toks:=k }:=λt' k=>⟨.str (Txt.slice z lo hi),H,I.tok k,⟨t',rq⟩,q⟩;cases pl with
 | none=>
  cases pu with
  | none=>exact Qap (l:=none) (u:=none) (st:=none) hs rfl (post_val_or_str ⟨QbU (Txt.slice_le z _ _) hz,fin⟩)
  | int j tj=>exact Qap (l:=none) (u:=some (j,tj)) (st:=none) hs rfl (post_val_or_str ⟨QbU (Txt.slice_le z _ _) hz,fin⟩)
 | int i ti=>
  cases pu with
  | none=>exact Qap (l:=some (i,ti)) (u:=none) (st:=none) hs rfl (post_val_or_str ⟨QbU (Txt.slice_le z _ _) hz,fin⟩)
  | int j tj=>exact Qap (l:=some (i,ti)) (u:=some (j,tj)) (st:=none) hs rfl (post_val_or_str ⟨QbU (Txt.slice_le z _ _) hz,fin⟩)
end
structure Cu (K:YD) (C:Addr) (m qn:Str) (st:Stmt) (ps:YF):Prop where
 ex:∃(f:Addr) (fd:FuncData),Fun K m qn st f fd/\Meth K C m f/\Binds K fd ps []
structure Gp (P:Program) (w:World) (K:YD) (mg:YB) (base:Heap) (C:Addr) (m:Str) (k:Nat) (ps:YF) (sp:Sp):Prop where
 ex:∃(f:Addr) (fd:FuncData),Meth K C m f/\Binds K fd ps []/\DK P w K mg base CX0 k f fd ps sp
structure W2 (P:Program) (w:World) (K:YD) (mg:YB) (base:Heap) (C:Addr) (k:Nat) (ps:YF) (sp:Sp):Prop where
 ex:∃(f:Addr) (fd:FuncData),Mk K C f/\Binds K fd ps []/\DK P w K mg base CX0 k f fd ps sp
theorem Cu.good {P:Program} {w:World} {K:YD} {mg:YB} {base:Heap} {C:Addr} {m qn:Str} {st:Stmt} {ps N:YF} {k:Nat} {sp:Sp} (c:Cu K C m qn st ps) (S:Ba N ps (Ae st)) (len:∀vs H Q E,sp vs H Q E->vs.length=ps.length)
  (hbody:∀(f:Addr) (cdv:Value) (A:Around) (outer:List Env) (s:Shared) (H:Hp) (vs:YG) (Q:VK) (E:XK),Br k (A.deeper (envOfC qn (Ae st) s.heap.objs.size f cdv))->sp vs H Q E ->
   ∃t,PSs (Ih CX0 P w K mg base N qn (Ae st) f cdv A outer s H E).nox (Av st) t/\t { nx:=λ_ H'=>Q .non H',rt:=Q } (start N vs) H):Gp P w K mg base C m (k+1) ps sp:=by
 obtain⟨f,fd,F,M,b⟩:=c.ex;exact⟨f,fd,M,b,F.ok S len λcdv A outer s H vs Q E hr h=>hbody f cdv A outer s H vs Q E hr h⟩
theorem yH {X:Cx} {pl:Sem Bool} {k k':Nat} {C:Addr} {ps:YF} {sp:Sp} {m:Str} {apos pos:Pos} {o e:Expr} {es:YJ} {ta:TE} {t:TA} (he:PE X o ta) (c:Cls X.K C) (g:Gp X.prog X.w X.K X.mg X.base C m k ps sp) (hr:Br k' X.A) (ha:PA X (e::es) t) (hk:k<=k':=by decide)
  (hst:starEach (e::es) X.env=(false,eval e X.env)::starEach es X.env:=by rfl) (hpl:(backTo pos (starEach es X.env)).any (·.1)=false:=by rfl)
  (ht:eval (.Call (.Attribute o m apos) (e::es) [] pos) X.env=(do
   let ov <-eval o X.env
   standAt apos.atName
   let (f,first) <-holding [ov] (getMethod ov m pl)
   callWith pos f first (backTo pos (starEach (e::es) X.env)) (backToKw pos (keywordEach [] X.env))):=by rfl) :
  PE X (.Call (.Attribute o m apos) (e::es) [] pos) (Qq C m sp [] E0 ta t):=by
 intro jb s Z H Q I h;obtain⟨f,fd,M,b,F⟩:=g.ex;exact gw (pl:=pl) he c M F (hr.mono hk) b .nil N5 ha hst hpl ht jb s Z H Q I h
theorem jx {X:Cx} {pl:Sem Bool} {k k':Nat} {C:Addr} {ps:YF} {sp:Sp} {m:Str} {apos pos:Pos} {o:Expr} {ta:TE} (he:PE X o ta) (c:Cls X.K C) (g:Gp X.prog X.w X.K X.mg X.base C m k ps sp) (hr:Br k' X.A) (hk:k<=k':=by decide)
  (ht:eval (.Call (.Attribute o m apos) [] [] pos) X.env=(do
   let ov <-eval o X.env
   standAt apos.atName
   let (f,first) <-holding [ov] (getMethod ov m pl)
   callWith pos f first (backTo pos (starEach [] X.env)) (backToKw pos (keywordEach [] X.env))):=by rfl) :
  PE X (.Call (.Attribute o m apos) [] [] pos) (Qq C m sp [] E0 ta IK):=by
 intro jb s Z H Q I h;obtain⟨f,fd,M,b,F⟩:=g.ex;exact ZG (pl:=pl) he c M F (hr.mono hk) b .nil N5 ht jb s Z H Q I h
theorem eF {X:Cx} {k k':Nat} {C:Addr} {ps:YF} {sp:Sp} {x:Str} {p pos:Pos} {e:Expr} {es:YJ} {t:TA} (g:W2 X.prog X.w X.K X.mg X.base C k ps sp) (hr:Br k' X.A) (hm:X.mg x=some (.ref C)) (ha:PA X (e::es) t) (hk:k+1<=k':=by decide) (hg:Gl X x:=by rfl)
  (hdb:(x == ("__debug__":Str))=false:=by decide) (he:starEach (e::es) X.env=(false,eval e X.env)::starEach es X.env:=by rfl) (hpl:(backTo pos (starEach es X.env)).any (·.1)=false:=by rfl) :
  PE X (.Call (.Name x p) (e::es) [] pos) (d9 C sp [] E0 t):=by
 intro jb s Z H Q I h;obtain⟨f,fd,M,b,F⟩:=g.ex;exact gB M F (hr.mono hk) hg hm b .nil N5 ha hdb he hpl jb s Z H Q I h
theorem Xv {X:Cx} {x:Str} {v:V} {pos:Pos} (hg:Gl X x) (hm:∃u,X.mg x=some u/\RelV v u) (hd:(x == ("__debug__":Str))=false:=by decide):PE X (.Name x pos) (tC v):=by
 obtain⟨u,h,r⟩:=hm;exact CP hg h r hd
theorem Oq:∀{fs:List (Str×V)} {i:Nat} {f:Str} {v:V},(fs.map (·.1)).Nodup->fs[i]?=some (f,v)->fs.lookup f=some v
 | [],_,_,_,_,h=>by simp at h
 | (g,u)::fs,0,f,v,_,h=>by simp at h;obtain⟨rfl,rfl⟩:=h;simp[List.lookup]
 | (g,u)::fs,i+1,f,v,hn,h=>by
  rw[QbM,QbB] at hn;have h':fs[i]?=some (f,v):=by simpa using h
  have hm:f∈fs.map (·.1):=QbV.mpr ⟨(f,v),Qaz h',rq⟩;have hne:(f == g)=false:=QaH.mpr λe=>hn.1 (e ▸ hm);rw[List.lookup,hne];exact Oq hn.2 h'
theorem fG:∀{fs:List (Str×V)} {m:Str},m∉fs.map (·.1)->fs.lookup m=none
 | [],_,_=>rfl
 | (g,u)::fs,m,h=>by
  rw[QbM,QbK] at h;have hne:(m == g)=false:=QaH.mpr λe=>h (.inl e);rw[List.lookup,hne];exact fG λz=>h (.inr z)
theorem Yw {y:V}:∀{fs:List (Str×V)} {i:Nat} {f:Str} {v:V},(fs.map (·.1)).Nodup->fs[i]?=some (f,v)->Dy f y fs=fs.set i (f,y)
 | [],_,_,_,_,h=>by simp at h
 | (g,u)::fs,0,f,v,_,h=>by
  simp at h;obtain⟨rfl,rfl⟩:=h;show (if g=g then (g,y)::fs else (g,u)::Dy g y fs)=_
  rw[if_pos rfl];rfl
 | (g,u)::fs,i+1,f,v,hn,h=>by
  rw[QbM,QbB] at hn;have h':fs[i]?=some (f,v):=by simpa using h
  have hm:f∈fs.map (·.1):=QbV.mpr ⟨(f,v),Qaz h',rq⟩;have hne:¬g=f:=λe=>hn.1 (by rw[show (g,u).fst=g from rfl,e];exact hm)
  show (if g=f then (g,y)::fs else (g,u)::Dy f y fs)=_
  rw[if_neg hne,Yw hn.2 h'];rfl
theorem Oo {y:V}:∀{fs:List (Str×V)} {f:Str},f∉fs.map (·.1)->Dy f y fs=fs++[(f,y)]
 | [],_,_=>rfl
 | (g,u)::fs,f,h=>by
  rw[QbM,QbK] at h;show (if g=f then (g,y)::fs else (g,u)::Dy f y fs)=_
  rw[if_neg λe=>h (.inl e.symm),Oo λz=>h (.inr z)];rfl
def Bq (H H':Hp):Prop:=∀c xs,H c=some (.tup xs)->H' c=some (.tup xs)
theorem Bq.refl (H:Hp):Bq H H:=λ_ _ e=>e
theorem Bq.trans {H H1 H2:Hp} (a:Bq H H1) (b:Bq H1 H2):Bq H H2:=λc xs e=>b c xs (a c xs e)
theorem Bq.of {H H1:Hp} (s:Same H H1):Bq H H1:=λc xs e=>s c _ e
theorem Bq.upd {H:Hp} {b:Addr} {o:HO} (h:∀xs,H b≠some (.tup xs)):Bq H (upd H b o):=λc xs e=>by
 have n:c≠b:=λz=>h xs (z ▸ e);rw[Al n];exact e
def Ah (b:Addr) (H H':Hp):Prop:=∀c o,H c=some o->c≠b->H' c=some o
theorem Ah.trans {b:Addr} {H H1 H2:Hp} (x:Ah b H H1) (y:Ah b H1 H2):Ah b H H2:=λc o e n=>y c o (x c o e n) n
theorem Ah.of {b:Addr} {H H1:Hp} (x:Same H H1):Ah b H H1:=λc o e _=>x c o e
theorem Ah.refl (b:Addr) (H:Hp):Ah b H H:=λ_ _ e _=>e
theorem Ah.upd {b:Addr} {H:Hp} {o:HO}:Ah b H (upd H b o):=λc u e n=>by rw[Al n];exact e
theorem Ah.tup {b:Addr} {H H':Hp} (x:Ah b H H') (h:∀xs,H b≠some (.tup xs)):Bq H H':=λc xs e=>x c _ e λz=>h xs (z ▸ e)
theorem Ah.free {b:Addr} {H H':Hp} (x:Ah b H H') (hb:∃o,H' b=some o) {l:Addr} (h:H' l=none):H l=none:=by
 cases e:H l with
 | none=>rfl
 | some o=>
  by_cases n:l=b
  ·obtain⟨o',e'⟩:=hb;rw[n,e'] at h;cases h
  ·rw[x l o e n] at h;cases h
def nJ (K:YD) (ta tv:TE) (f:Str):TS:=λD Z H=>tv Z H λy H1=>ta Z H1 λx H2=>∃a C dx fs fs',x=.ref a/\H2 a=some (.ins C dx fs)/\Cls K C/\G6 K C f/\fs.length < 1000/\Dy f y fs=fs' /\
 ∀H',H' a=some (.ins C dx fs')->Ah a H2 H'->D.nx Z H'
section
variable {X:Cx} {o e value:Expr} {f:Str} {pos pos' tpos:Pos} {ta tv:TE}
theorem Lz (ha:PE X o ta) (hv:PE X value tv) (hs:swapsWith value (some (.Attribute o f pos')) pos.line X.env=pure false):PS X (.Assign [.Attribute o f pos'] value pos) (nJ X.K ta tv f):=by
 intro jb s Z H D I h;refine plainObj_wpAny_Assign_Attribute (thn (hv jb s Z H _ I h) λu s1 zz=>?_) hs;obtain⟨y,H1,I1,ry,q⟩:=zz;refine thn (ha jb s1 Z H1 _ I1 q) λov s2 zz=>?_;obtain⟨x,H2,I2,rx,a,C,dx,fs,fs',ex,ea,c,n,l,ep,q2⟩:=zz;subst ex;obtain rfl:ov=Value.ref a:=rx;refine Vw I2 ea c n l ry λs3 I3=>⟨Z,_,I3,q2 _ ?_ Ah.upd⟩;rw[Ac,ep]
end
section
variable {X:Cx} {K:YD}
theorem LR (h:X.K=K):IxR X (jq K):=h ▸ Oe
theorem N7 (h:X.K=K):OpR X (compareOp .In) (rIn K false):=h ▸ PB
theorem Kw (h:X.K=K):OpR X (compareOp .NotIn) (rIn K true):=h ▸ Rj
theorem gC {e:Expr} {f:Str} {pos:Pos} {ta:TE} (h:X.K=K) (he:PE X e ta) (hb:attributeBase e f X.env (eval e X.env)=eval e X.env):PE X (.Attribute e f pos) (jh K ta f):=h ▸ Ez he hb
end
end L2
namespace PySem
open Sem (wp)
section
variable {prog:Program} {w:World} {A:Around} {E:YA} {s:Shared}
end
end PySem
namespace L2
open PySem PySem.Spec PyProof.Rows
section
variable {X:Cx} {pos:Pos}
theorem Vo {i:Int} {n:Nat} {acc:Array Value} (h:ItemsOf (λk v=>∃t,v=.int (i+k*1) t) acc n):Vals ((List.range n).map λk:Nat=>V.int (i+k)) acc.toList:=by
 have key:∀(us:YE) (m:Nat),(∀k v,us[k]?=some v->∃t,v=Value.int (i+((m+k:Nat):Int)) t)->Vals ((List.range' m us.length).map λk:Nat=>V.int (i+k)) us:=by
  intro us
  induction us with
  | nil=>intro m _;exact .nil
  | cons u r ih=>
   intro m hu;rw[Qbn,List.range'_succ,QbM];refine .cons (hu 0 u rfl) (ih (m+1) λk v hv=>?_);have:=hu (k+1) v (by simpa using hv);rw[show m+1+k=m+(k+1) by omega];exact this
 have e:acc.toList.length=n:=by rw[QaG];exact h.1
 rw[List.range_eq_range',<-e];refine key acc.toList 0 λk v hv=>?_;obtain⟨t,rfl⟩:=h.2 k v (by simpa using hv);exact⟨t,by rw[Int.mul_one,Nat.zero_add]⟩
end
structure Has (H:Hp) (l:List (Addr×HO)):Prop where
 nd:(l.map (·.1)).Nodup
 at_:∀x∈l,H x.1=some x.2
theorem Has.nZ {H:Hp} {l:List (Addr×HO)} {a:Addr} (h:Has H l) (e:H a=none):a∉l.map (·.1):=λz=>by
 obtain⟨x,hx,rfl⟩:=QbV.mp z;rw[h.at_ x hx] at e;cases e
theorem map_set {l:List (Addr×HO)} {i:Nat} {a:Addr} {o:HO}:(l.set i (a,o)).map (·.1)=(l.map (·.1)).set i a:=by rw[QbX]
theorem Has.new {H H':Hp} {l:List (Addr×HO)} {a:Addr} {o:HO} (h:Has H l) (n:H a=none) (s:Same H H') (e:H' a=some o):Has H' (l++[(a,o)]):=by
 refine⟨?_,λx hx=>?_⟩
 ·rw[Qbw,List.nodup_append];refine⟨h.nd,by simp,λx hx y hy z=>?_⟩;have:y=a:=by simpa using hy
  subst this;exact h.nZ n (z ▸ hx)
 ·rcases Qbu.mp hx with z | z
  ·exact s _ _ (h.at_ x z)
  ·have:x=(a,o):=by simpa using z
   subst this;exact e
theorem Has.nil (H:Hp):Has H []:=⟨List.nodup_nil,λx hx=>by cases hx⟩
theorem Same.BP {H0 H H':Hp} {a:Addr} (s:Same H0 H) (b:Ah a H H') (f:H0 a=none):Same H0 H':=λc o e=>b _ _ (s _ _ e) λz=>by rw[z,f] at e;cases e
section
variable {κ : Type} [DecidableEq κ]
def Jv (kvs:List (κ×V)) (k:κ):Option V:=(kvs.find? λkv=>decide (kv.1=k)).map (·.2)
def putK (kvs:List (κ×V)) (k:κ) (v:V):List (κ×V):=
 if (kvs.any λkv=>decide (kv.1=k))=true then kvs.map (λkv=>if kv.1=k then (kv.1,v) else kv) else kvs++[(k,v)]
theorem QD {p:κ×V} {r:List (κ×V)} {k:κ} (e:p.1=k):Jv (p::r) k=some p.2:=by simp[Jv,List.find?_cons,e]
theorem QF {p:κ×V} {r:List (κ×V)} {k:κ} (e:¬p.1=k):Jv (p::r) k=Jv r k:=by simp[Jv,List.find?_cons,e]
theorem QG (k:κ):∀kvs:List (κ×V),(kvs.any λkv=>decide (kv.1=k))=(Jv kvs k).isSome
 | []=>rfl
 | p::r=>by
  rw[List.any_cons];by_cases e:p.1=k
  ·simp only[QD e,QbH e,Bool.true_or,Option.isSome_some]
  ·rw[QF e,Qbv e,Bool.false_or];exact QG k r
theorem Ms (kvs:List (κ×V)) (k:κ) (v:V):(putK kvs k v).length<=kvs.length+1:=by
 unfold putK;split
 ·rw[Qbt];omega
 ·rw[QaN,Qbn,List.length_nil];omega
theorem Gw.Yi {o:Option V} {u:Option Value} (r:Gw o u):o.isSome=u.isSome:=by
 cases o with
 | none=>cases u with
  | none=>rfl
  | some _=>exact (show False from r).elim
 | some _=>cases u with
  | none=>exact (show False from r).elim
  | some _=>rfl
theorem Gw.getD {o:Option V} {u:Option Value} {d:V} {d':Value} (r:Gw o u) (rd:RelV d d'):RelV (o.getD d) (u.getD d'):=by
 cases o with
 | none=>cases u with
  | none=>exact rd
  | some _=>exact (show False from r).elim
 | some _=>cases u with
  | none=>exact (show False from r).elim
  | some _=>exact r
theorem KV.any {kvs:List (κ×V)} {vs:List (κ×Value)} (r:KV kvs vs) (k:κ):(kvs.any λkv=>decide (kv.1=k))=vs.any λkv=>decide (kv.1=k):=by
 unfold KV at r
 induction r with
 | nil=>rfl
 | cons h t ih=>rw[List.any_cons,List.any_cons,ih,h.1]
theorem KV.repl {kvs:List (κ×V)} {vs:List (κ×Value)} (r:KV kvs vs) (k:κ) {y:V} {u:Value} (ry:RelV y u) :
  KV (kvs.map λkv=>if kv.1=k then (kv.1,y) else kv) (vs.map λkv=>if kv.1=k then (kv.1,u) else kv):=by
 unfold KV at r ⊢
 induction r with
 | nil=>exact .nil
 | @cons p q ps qs h t ih=>
  rw[QbM,QbM];refine .cons ?_ ih;obtain⟨h1,h2⟩:=h;by_cases e:p.1=k
  ·rw[if_pos e,if_pos (h1.symm.trans e)];exact⟨h1,ry⟩
  ·rw[if_neg e,if_neg (λz=>e (h1.trans z))];exact⟨h1,h2⟩
theorem KV.put {kvs:List (κ×V)} {vs:List (κ×Value)} (r:KV kvs vs) (k:κ) {y:V} {u:Value} (ry:RelV y u):KV (putK kvs k y) (stored vs k u):=by
 unfold putK stored;rw[r.any k];by_cases e:(vs.any λkv=>decide (kv.1=k))=true
 ·rw[if_pos e,if_pos e];exact r.repl k ry
 ·rw[if_neg e,if_neg e];exact Paired.snoc r ⟨rq,ry⟩
theorem KV.length {kvs:List (κ×V)} {vs:List (κ×Value)} (r:KV kvs vs):kvs.length=vs.length:=QbL r
end
theorem eY {P:Program} {w:World} {k:Key} {u:Value} (r:RelV (kV k) u):(Cp P w).is k u=true:=by
 cases k with
 | inl i=>obtain⟨t,e⟩:=(show ∃t,u=Value.int i t from r);subst e;exact Ub P w i t
 | inr x=>obtain⟨t,e⟩:=(show ∃t,u=Value.str x t from r);subst e;exact Ua P w x t
theorem PJ {P:Program} {w:World}:∀{ks:List Key} {us:YE},Vals (ks.map kV) us->ItemsAre (Cp P w) ks us
 | [],_,r=>by rw[List.map_nil] at r;cases r;exact .nil
 | k::ks,_,r=>by
  rw[QbM] at r;cases r with
  | cons h t=>exact .cons (eY h) (PJ t)
abbrev YL:=List (List Key×V)
abbrev KT (H:Hp):YL->List (List Key×Addr×Value)->Prop:=Paired λp q=>p.1=q.1/\H q.2.1=some (.tup (p.1.map kV))/\RelV p.2 q.2.2
theorem KT.val {H:Hp} {kvs:YL} {xs:List (List Key×Addr×Value)} (r:KT H kvs xs) (k:List Key):Gw (Jv kvs k) ((atKey xs k).map (·.2)):=by
 induction r with
 | nil=>exact True.intro
 | @cons p q ps qs h t ih=>
  obtain⟨h1,_,h2⟩:=h;by_cases e:p.1=k
  ·have e':q.1=k:=h1.symm.trans e;have b:atKey (q::qs) k=some q.2:=by simp[atKey,List.find?_cons,e']
   rw[QD e,b];exact h2
  ·have e':¬q.1=k:=λz=>e (h1.trans z);have b:atKey (q::qs) k=atKey qs k:=by simp[atKey,List.find?_cons,e']
   rw[QF e,b];exact ih
theorem KT.repl {H:Hp} {kvs:YL} {xs:List (List Key×Addr×Value)} (r:KT H kvs xs) (k:List Key) {y:V} {u:Value} (ry:RelV y u) :
  KT H (kvs.map λkv=>if kv.1=k then (kv.1,y) else kv) (xs.map (putAt k u)):=by
 induction r with
 | nil=>exact .nil
 | @cons p q ps qs h t ih=>
  rw[QbM,QbM];refine .cons ?_ ih;obtain⟨h1,h2,h3⟩:=h;unfold putAt;by_cases e:p.1=k
  ·rw[if_pos e,if_pos (h1.symm.trans e)];exact⟨h1,h2,ry⟩
  ·rw[if_neg e,if_neg (λz=>e (h1.trans z))];exact⟨h1,h2,h3⟩
theorem KT.put {H:Hp} {kvs:YL} {xs:List (List Key×Addr×Value)} (r:KT H kvs xs) (k:List Key) {b:Addr} {y:V} {u:Value} (hb:H b=some (.tup (k.map kV))) (ry:RelV y u) :
  KT H (putK kvs k y) (storedH xs k b u):=by
 have e:(kvs.any λkv=>decide (kv.1=k))=(atKey xs k).isSome:=by
  rw[QG,(r.val k).Yi,Option.isSome_map]
 unfold putK storedH;rw[e];by_cases q:(atKey xs k).isSome=true
 ·rw[if_pos q,if_pos q];exact r.repl k ry
 ·rw[if_neg q,if_neg q];exact Paired.snoc r ⟨rq,hb,ry⟩
theorem KT.keeps {H H':Hp} {kvs:YL} {xs:List (List Key×Addr×Value)} (r:KT H kvs xs) (ht:∀b ys,H b=some (.tup ys)->H' b=some (.tup ys)):KT H' kvs xs:=
 Paired.Kf r λ_ _ z=>⟨z.1,ht _ _ z.2.1,z.2.2⟩
section
variable {P:Program} {w:World} {H:Hp} {h:Heap} {a:Addr}
theorem eE {u:HO} (ok:HOk P w H h) (e:Rd H a u):Bo P w H h a u:=e.ok ok
abbrev YM:=List (Key×V)
theorem fJ {kvs:YM} (ok:HOk P w H h) (e:Rd H a (.dK kvs)):kvs.length<=sizeLine/\(a == sysModules)=false/\∃vs,KV kvs vs/\h.DictOf (Cp P w) a vs:=
 show Bo P w H h a (.dK kvs) from eE ok e
theorem oO {kvs:YM} (ok:HOk P w H h) (e:H a=some (.dK kvs)):kvs.length<=sizeLine/\(a == sysModules)=false/\∃vs,KV kvs vs/\h.DictOf (Cp P w) a vs:=fJ ok (.inl e)
theorem Od {ks:List Key} (ok:HOk P w H h) (e:H a=some (.tup (ks.map kV))):(tupleKind (Cp P w)).is h ks a:=by
 obtain⟨_,its,r,o,h1,h2,n,h3⟩:=(show Bo P w H h a (.tup (ks.map kV)) from ok a _ e)
 exact⟨o,its.toArray,n,h1,h2,h3,by simpa using PJ r⟩
theorem fH {kvs:YL} (ok:HOk P w H h) (e:Rd H a (.dT kvs)):kvs.length<=sizeLine/\(a == sysModules)=false /\
  ∃xs,KT H kvs xs/\h.DictOfH (tupleKind (Cp P w)) a xs:=by
 obtain⟨z,y,xs,r,o,es,ep,h1,h2,h3,h4,h5⟩:=(show Bo P w H h a (.dT kvs) from eE ok e)
 refine⟨z,y,xs,r,o,es,ep,h1,h2,h3,h4,λx hx=>?_,h5⟩;have all:∀{l:YL} {m:List (List Key×Addr×Value)},KT H l m->∀x∈m,(tupleKind (Cp P w)).is h x.1 x.2.1:=by
  intro l m q
  induction q with
  | nil=>intro x hx;exact nomatch hx
  | @cons p q ps qs hq t ih=>
   intro x hx;rcases QbK.mp hx with e | hx
   ·subst e;exact Od ok (by rw[<-hq.1];exact hq.2.1)
   ·exact ih x hx
 exact all r x hx
theorem oN {kvs:YL} (ok:HOk P w H h) (e:H a=some (.dT kvs)):kvs.length<=sizeLine/\(a == sysModules)=false /\
  ∃xs,KT H kvs xs/\h.DictOfH (tupleKind (Cp P w)) a xs:=fH ok (.inl e)
end
def m7 (H:Hp) (a:Addr) (y:V) (r:Option V):Prop:=
 (∃kvs k,Rd H a (.dK kvs)/\y=kV k/\r=Jv kvs k)\/∃kvs k b,Rd H a (.dT kvs)/\y=.ref b/\H b=some (.tup (k.map kV))/\r=Jv kvs k
def Lp (H:Hp) (a:Addr) (y v:V) (H':Hp):Prop:=
 (∃kvs k,H a=some (.dK kvs)/\y=kV k/\kvs.length < sizeLine/\H'=upd H a (.dK (putK kvs k v))) \/
 ∃kvs k b,H a=some (.dT kvs)/\y=.ref b/\H b=some (.tup (k.map kV))/\kvs.length < sizeLine/\H'=upd H a (.dT (putK kvs k v))
theorem m7.k {H:Hp} {a:Addr} {kvs:YM} {k:Key} (e:H a=some (.dK kvs)):m7 H a (kV k) (Jv kvs k):=.inl ⟨kvs,k,.inl e,rfl,rfl⟩
theorem Lp.k {H:Hp} {a:Addr} {kvs:YM} {k:Key} {v:V} (e:H a=some (.dK kvs)) (hl:kvs.length < sizeLine):Lp H a (kV k) v (upd H a (.dK (putK kvs k v))):=.inl ⟨kvs,k,e,rfl,hl,rfl⟩
theorem Lp.t {H:Hp} {a b:Addr} {kvs:YL} {k:List Key} {v:V} (e:H a=some (.dT kvs)) (eb:H b=some (.tup (k.map kV))) (hl:kvs.length < sizeLine) :
  Lp H a (.ref b) v (upd H a (.dT (putK kvs k v))):=.inr ⟨kvs,k,b,e,rq,eb,hl,rq⟩
section
variable {X:Cx} {jb:YC} {Z : St} {H:Hp} {s:Shared} {a:Addr} {y v:V} {u r:Value} {o:Option V} {A:Around} {E:YA}
theorem Inv.big (I:Inv X jb Z H s):sysModules < s.heap.objs.size:=by
 have h:mainGlobals < s.heap.objs.size:=(I.mod.glob.keeps I.bk).lt;exact Nat.lt_trans (by decide) h
theorem Pr {h':Heap} {t':Nat} {ob:HO} (I:Inv X jb Z H s) (mu:Mut (H a)) (hs:Heap.SameBut a s.heap h') (he:∃q,h'.get? a=some q) (new:Bo X.prog X.w (upd H a ob) h' a ob) :
  Inv X jb Z (upd H a ob) { s with heap:=h',toks:=t' }:=
 I.write (x:=a) (e:=a) mu (.inl rfl) (λb q hb z=>(hs.2 b hb).trans z) he new
theorem lE {P:Program} {w:World} {H':Hp} {h':Heap} {kvs:YM} {vs:List (Key×Value)} (z:kvs.length<=sizeLine) (hd:(a == sysModules)=false) (rel:KV kvs vs) (dd:h'.DictOf (Cp P w) a vs) :
  Bo P w H' h' a (.dK kvs):=⟨z,hd,vs,rel,dd⟩
theorem YQ {H':Hp} {Q:YH} (hu:A.units+1 < cLine) (I:Inv X jb Z H s) (g:Lp H a y v H') (ry:RelV y u) (rv:RelV v r) (h:∀s',Inv X jb Z H' s'->Q () s') :
  wpAny (model X.prog X.w) A (setItem (.ref a) u r) Q E s:=by
 rcases g with⟨kvs,k,e,ey,l,eH⟩|⟨kvs,k,b,e,ey,eb,l,eH⟩
 ·subst ey eH;obtain⟨z,hd,vs,rel,dd⟩:=oO I.hok e;have hz:vs.length<=sizeLine:=by rw[<-rel.length];exact z
  have hl:(putK kvs k v).length<=sizeLine:=by have:=Ms kvs k v;omega
  refine wpAny_setItem_pairs (hsz:=hz) (eY ry) dd λh' dd' hs=>h _ ?_;have he:∃q,h'.get? a=some q:=let ⟨q,_,_,hq,_⟩:=dd';⟨q,hq⟩;exact Pr I (by rw[e];exact True.intro) hs he (lE hl hd (rel.put k rv) dd')
 ·subst ey eH;cases (show u=Value.ref b from ry)
  obtain⟨z,hd,xs,rel,dd⟩:=oN I.hok e;have hz:xs.length<=sizeLine:=by rw[<-QbL rel];exact z
  have hl:(putK kvs k v).length<=sizeLine:=by have:=Ms kvs k v;omega
  refine wpAny_setItem_heap (hsz:=hz) (tupleKind_room_in1 hu) (Od I.hok eb) dd λh' dd' hs=>h _ ?_;obtain⟨q,es,ep,hq,h2,h3,h4,_,h5⟩:=dd';refine Pr I (by rw[e];exact True.intro) hs ⟨q,hq⟩ ⟨hl,hd,_,(rel.put k eb rv).keeps λc ys ec=>?_,q,es,ep,hq,h2,h3,h4,h5⟩;rw[Al (eV ec e (λz=>nomatch z))];exact ec
end
section
variable {X:Cx} {jb:YC} {Z : St} {H:Hp} {s:Shared} {a:Addr} {kvs:YM} {k:Key} {u:Value} {A:Around} {E:YA}
end
def nO (td ty tv:TE):TS:=λD Z H=>tv Z H λv H1=>td Z H1 λx H2=>ty Z H2 λy H3=>∃a H4,x=.ref a/\Lp H3 a y v H4/\D.nx Z H4
section
variable {X:Cx} {o i e value:Expr} {pos pos' tpos:Pos} {td ty tv:TE}
theorem Uv (hu:X.A.units+1 < cLine) (ho:PE X o td) (hi:PE X i ty) (hv:PE X value tv) (hs:swapsWith value (some (.Subscript o i pos')) pos.line X.env=pure false) :
  PS X (.Assign [.Subscript o i pos'] value pos) (nO td ty tv):=by
 intro jb s Z H D I h;refine wpAny_Assign_Subscript (thn (hv jb s Z H _ I h) λr s1 zz=>?_) hs;obtain⟨v,H1,I1,rv,q1⟩:=zz;refine thn (ho jb s1 Z H1 _ I1 q1) λu s2 zz=>?_;obtain⟨x,H2,I2,rx,q2⟩:=zz;refine thn (hi jb s2 Z H2 _ I2 q2) λiv s3 zz=>?_;obtain⟨y,H3,I3,ry,a,H4,ex,g,q3⟩:=zz;subst ex;obtain rfl:u=Value.ref a:=rx;exact YQ hu I3 g ry rv λs4 I4=>⟨Z,H4,I4,q3⟩
end
theorem cV {P:Program} {w:World} {H:Hp} (h:Heap) (hb:sysModules < h.objs.size):Bo P w H (h.push { cls:=.type "dict",data:=.dict #[] }) h.objs.size (.dT []):=
 ⟨Qca _,QaH.mpr (Ne.symm (QbT hb)),[],.nil,_,#[],0,QaF _ rfl,⟨rq,rq,rq⟩,rq,rq,List.nodup_nil⟩
def ji:TE:=λ_ H Q=>∀p,H p=none->Q (.ref p) (upd H p (.dT []))
section
variable {X:Cx} {pos:Pos}
theorem Rh:PE X (.Dict [] [] pos) ji:=λjb s Z H Q I h=>
 wpAny_Dict_empty ⟨.ref s.heap.objs.size,_,I.laid (a:=s.heap.objs.size) (o:=.dT []) (t':=s.toks) (λ_ _ q=>Qaq _ q) (QbZ _) (cV s.heap I.big),rq,h _ (I.hok.fresh (QbZ _))⟩
end
structure M2 (X:Cx) (o:Expr) (m:Str) (apos:Pos) (e f:Expr) (cpos:Pos):Prop where
 base:attributeBase o m X.env (eval o X.env)=eval o X.env
 few:((backTo cpos (starEach [e,f] X.env)).all (λx=>!x.1)&&(backToKw cpos (keywordEach [] X.env)).all (λx=>x.1.isSome)
 &&decide (([e,f]:YJ).length+([]:List Keyword).length+(if ([]:List Keyword).isEmpty then 0 else 1) < 30))=true
 line:(apos.endLine == cpos.line)=true
 trees:backTo cpos (starEach [e,f] X.env)=[(false,eval e X.env),(false,eval f X.env)]
def IsD (H:Hp) (a:Addr):Prop:=(∃kvs,Rd H a (.dK kvs))\/∃kvs,Rd H a (.dT kvs)
theorem Yj {X:Cx} {jb:YC} {Z : St} {H:Hp} {s:Shared} {a:Addr} (I:Inv X jb Z H s) (d:IsD H a) :
  s.TypeIs (.ref a) "dict"/\(∀b,Value.ref a=.ref b->∃ob,s.heap.get? b=some ob/\ob.dict=none)/\(a == sysModules)=false:=by
 rcases d with⟨kvs,e⟩|⟨kvs,e⟩
 ·obtain⟨_,hd,vs,_,dd⟩:=fJ I.hok e;refine⟨dd.typeIs,λb q=>?_,hd⟩;cases q;obtain⟨ob,_,_,h1,h2,_⟩:=dd;exact⟨ob,h1,h2.2.1⟩
 ·obtain⟨_,hd,xs,_,dd⟩:=fH I.hok e;refine⟨dd.typeIs,λb q=>?_,hd⟩;cases q;obtain⟨ob,_,_,h1,h2,_⟩:=dd;exact⟨ob,h1,h2.2.1⟩
section
variable {X:Cx} {jb:YC} {Z : St} {H:Hp} {s:Shared} {a:Addr} {y d:V} {u r:Value} {o:Option V} {A:Around} {E:YA}
end
section
variable {X:Cx} {o e f:Expr} {apos cpos:Pos} {td ty tx:TE}
end
section
variable {X:Cx} {jb:YC} {Z : St} {H:Hp} {s:Shared} {a:Addr} {kvs:YM} {A:Around} {E:YA}
end
section
variable {X:Cx} {jb:YC} {Z : St} {H:Hp} {s:Shared} {a:Addr} {y:V} {u:Value} {A:Around} {E:YA}
end
section
variable {X:Cx}
end
section
variable {κ : Type} [DecidableEq κ]
end
end L2
namespace PySem
open Sem (wp)
section
variable {prog:Program} {w:World} {A:Around} {E:YA} {s:Shared}
end
theorem Draws.from {prog:Program} {w:World} {A:Around} {it:Addr} {fp:List Addr} {n:Nat} {P:Nat->Value->Prop} {St:Nat->Heap->Prop} (D:Draws prog w A it fp n P St) (k:Nat) :
  Draws prog w A it fp (k+n) (λj v=>∃i,j=k+i/\P i v) (λj h=>∃i,j=k+i/\i<=n/\St i h) where
 live:=λ_ _ ⟨i,_,_,st⟩=>D.live i _ st
 frame:=λ_ _ _ ⟨i,e,hi,st⟩ hk=>⟨i,e,hi,D.frame i _ _ st hk⟩
 item:=λj s Q E hj ⟨i,e,hi,st⟩ hQ=>D.item i s Q E (by omega) st λx h' tk p st' sb=>hQ x h' tk ⟨i,e,p⟩ ⟨i+1,by omega,by omega,st'⟩ sb
 done:=λs Q E ⟨i,e,hi,st⟩ hE=>by
  have:i=n:=by omega
  subst this;exact D.done s Q E st hE
end PySem
namespace L2
open PySem PySem.Spec PyProof.Rows
section
variable {X:Cx} {jb:YC} {Z : St} {H:Hp} {s:Shared} {h':Heap}
theorem Inv.Xc {t':Nat} {fp:List Addr} {t:Addr} {o:HO} (I:Inv X jb Z H s) (ht:s.heap.objs.size<=t) (k:∀b u,b∉fp->s.heap.get? b=some u->h'.get? b=some u) (hf:∀b∈fp,Es X jb H b) (new:Bo X.prog X.w (upd H t o) h' t o) :
  Inv X jb Z (upd H t o) { s with heap:=h',toks:=t' }:=by
 have nt:=I.hok.fresh ht;have old:∀b u,s.heap.get? b=some u->b≠t:=λb u e z=>absurd (QaP (QbS e) ht) (by rw[z];exact QbO _);have nf:∀b u,H b=some u->b∉fp:=λb u e z=>by rw[(hf b z).1] at e;cases e
 have tr:∀b u,H b=some u->(upd H t o) b=some u:=λb u e=>by rw[Al (Am e nt)];exact e
 refine I.step (g':=s.gens) (d':=s.drawn) (ch:=fp) (λb hb=>?_) (λb u _ _ hc e _=>k b u hc e) (λb u _ _ hc e _=>⟨u.slots,k b u hc e⟩) (λb u hc e n=>by rw[Al (old b u e)];exact n)
  (λb u hc e=>⟨u,k b u hc e⟩) (λ_ _ e=>tr _ _ e) (λ_ _ _ e=>tr _ _ e) (λb ps e=>⟨#[],by rw[tr _ _ e];simp⟩) (λm hm=>?_) (λb u e=>?_) I.bare
 ·obtain⟨_,f1,_,f3,f4,f5⟩:=hf b hb;exact⟨f3,f1,f4,f5⟩
 ·obtain⟨u,es,ep,hu,r⟩:=hm;exact⟨u,es,ep,k _ u (λz=>(hf _ z).2.1 rfl) hu,r⟩
 ·by_cases hb:b=t
  ·subst hb;rw[Ac] at e;cases e;exact new
  ·rw[Al hb] at e;refine (I.hok b u e).stay (λc v hc q=>k c v ?_ q) (λc q=>tr _ _ q) λc xs q=>tr _ _ q;rcases hc with z | z
   ·rw[z];exact nf b u e
   ·exact nf c _ z
theorem Inv.fP {t':Nat} {fp:List Addr} (I:Inv X jb Z H s) (k:∀b u,b∉fp->s.heap.get? b=some u->h'.get? b=some u) (hf:∀b∈fp,Es X jb H b):Inv X jb Z H { s with heap:=h',toks:=t' }:=by
 have nf:∀b u,H b=some u->b∉fp:=λb u e z=>by rw[(hf b z).1] at e;cases e
 refine I.step (g':=s.gens) (d':=s.drawn) (ch:=fp) (λb hb=>?_) (λb u _ _ hc e _=>k b u hc e) (λb u _ _ hc e _=>⟨u.slots,k b u hc e⟩) (λb u hc e n=>n)
  (λb u hc e=>⟨u,k b u hc e⟩) (λ_ _ e=>e) (λ_ _ _ e=>e) (λb ps e=>⟨#[],by rw[e];simp⟩) (λm hm=>?_) (λb u e=>?_) I.bare
 ·obtain⟨_,f1,_,f3,f4,f5⟩:=hf b hb;exact⟨f3,f1,f4,f5⟩
 ·obtain⟨u,es,ep,hu,r⟩:=hm;exact⟨u,es,ep,k _ u (λz=>(hf _ z).2.1 rfl) hu,r⟩
 ·refine (I.hok b u e).stay (λc v hc q=>k c v ?_ q) (λ_ q=>q) λ_ _ q=>q;rcases hc with z | z
  ·rw[z];exact nf b u e
  ·exact nf c _ z
end
end L2
namespace PySem
open Sem (wp)
open AutoSeq1 (wpAny_loadPart')
end PySem
namespace PySem
open Sem (wp)
section
variable {prog:Program} {w:World} {A:Around} {E:YA} {s:Shared}
end
end PySem
namespace PyProof.Rows
open PySem
section
variable {M:Model} {A:Around} {E:YA} {s:Shared} {env:Env}
end
end PyProof.Rows
namespace L2
open PySem PySem.Spec PyProof.Rows
section
variable {X:Cx}
end
section
variable {X:Cx}
end
section
variable {X:Cx}
end
section
variable {X:Cx}
end
end L2
namespace PySem.ZZ
open PySem
section
variable {prog:Program} {w:World} {A:Around} {E:YA} {s:Shared}
structure Src where
 it:Addr
 a:Addr
 items:Array Value
def SrcAt (h:Heap) (x:Src) (i:Nat):Prop:=(h.IsListIter x.it x.a i/\h.IsList x.a x.items)\/(h.IsTupleIter x.it x.a i/\h.IsTuple x.a x.items)
theorem SrcAt.keep {h h':Heap} {x:Src} {i:Nat} (q:SrcAt h x i) (k1:∀o,h.get? x.it=some o->h'.get? x.it=some o) (k2:∀o,h.get? x.a=some o->h'.get? x.a=some o):SrcAt h' x i:=by
 rcases q with⟨q1,q2⟩|⟨q1,o,e,r⟩
 ·exact .inl ⟨q1.at k1,q2.at k2⟩
 ·exact .inr ⟨q1.at k1,o,k2 o e,r⟩
abbrev IsZ (h:Heap) (z TI TO:Addr) (f0 f1:Value):Prop:=h.get? z=some { cls:=.type "zip",dict:=none,data:=.fields #[f0,f1,.bool false,.ref TI,.ref TO],slots:=#[] }
abbrev Nf (h:Heap) (T:Addr) (xs:YE):Prop:=h.get? T=some { cls:=.type "tuple",data:=.seq xs.toArray }
structure Apart (z TI TO:Addr) (ls:List Src):Prop where
 TIz:TI≠z
 TOz:TO≠z
 TITO:TI≠TO
 it:∀x∈ls,x.it≠z/\x.it≠TI/\x.it≠TO
 a:∀x∈ls,x.a≠z/\x.a≠TO
 ai:∀x∈ls,∀y∈ls,x.a≠y.it
 nd:(ls.map (·.it)).Nodup
def Rest (z TO:Addr) (ls:List Src) (h h':Heap):Prop:=∀c o,c≠z->c≠TO->c∉ls.map (·.it)->h.get? c=some o->h'.get? c=some o
structure Mid (z TI TO:Addr) (ls:List Src) (xs olds:YE) (i:Nat) (f0 f1:Value) (h:Heap) (k:Nat) (h':Heap):Prop where
 hz:IsZ h' z TI TO f0 f1
 hTI:Nf h' TI (ls.map λx=>.ref x.it)
 done:∀j x,ls[j]?=some x->SrcAt h' x (if j < k then i+1 else i)
 rest:Rest z TO ls h h'
 size:h'.objs.size=h.objs.size
theorem Mid.other {z TI TO:Addr} {ls:List Src} {xs olds:YE} {i:Nat} {f0 f1:Value} {h h1 h2:Heap} {k:Nat} (D:Apart z TI TO ls) (m:Mid z TI TO ls xs olds i f0 f1 h k h1) (sb:Heap.SameBut TO h1 h2):Mid z TI TO ls xs olds i f0 f1 h k h2:=by
 refine⟨sb.extBut _ _ D.TOz.symm m.hz,sb.extBut _ _ D.TITO m.hTI,λj y hy=>?_,λc o c1 c2 c3 e=>sb.extBut _ _ c2 (m.rest c o c1 c2 c3 e),by rw[sb.1,m.size]⟩;have hm:=Qaz hy;exact (m.done j y hy).keep (λo e=>sb.extBut _ _ (D.it y hm).2.2 e) (λo e=>sb.extBut _ _ (D.a y hm).2 e)
end
end PySem.ZZ
namespace PySem
namespace F
end F
end PySem
namespace PySem.ZZ
open PySem
def mR (h:Heap) (a:Addr) (xs:Array Value) (c:String):Prop:=(c="list_iterator"/\h.IsList a xs)\/(c="tuple_iterator"/\h.IsTuple a xs)
theorem mR.src {h h':Heap} {a it:Addr} {xs:Array Value} {c:String} (q:mR h a xs c) (k:∀o,h.get? a=some o->h'.get? a=some o) (e:h'.get? it=some { cls:=.type c,data:=.fields #[.ref a,.int 0 0] }):SrcAt h' ⟨it,a,xs⟩ 0:=by
 rcases q with⟨rfl,q⟩|⟨rfl,o,ho,r⟩
 ·exact .inl ⟨⟨_,e,rq,rq⟩,q.at k⟩
 ·exact .inr ⟨⟨_,e,rq,rq⟩,o,k o ho,r⟩
abbrev itO (c:String) (l:Addr):Obj:={ cls:=.type c,data:=.fields #[.ref l,.int 0 0] }
abbrev tuO (xs:Array Value):Obj:={ cls:=.type "tuple",data:=.seq xs }
abbrev z2a (h:Heap) (c1 c2:String) (l1 l2:Addr):Heap:=((((h.push (itO c1 l1)).push (itO c2 l2)).push (tuO #[.ref h.objs.size,.ref (h.push (itO c1 l1)).objs.size])).push (tuO #[.none,.none]))
abbrev z2 (h:Heap) (c1 c2:String) (l1 l2:Addr):Heap:=(z2a h c1 c2 l1 l2).push
 { cls:=.type "zip",data:=.fields #[.none,.bool false,.bool false,.ref ((h.push (itO c1 l1)).push (itO c2 l2)).objs.size,.ref (((h.push (itO c1 l1)).push (itO c2 l2)).push (tuO #[.ref h.objs.size,.ref (h.push (itO c1 l1)).objs.size])).objs.size] }
abbrev z3a (h:Heap) (c1 c2 c3:String) (l1 l2 l3:Addr):Heap:=(((((h.push (itO c1 l1)).push (itO c2 l2)).push (itO c3 l3)).push (tuO #[.ref h.objs.size,.ref (h.push (itO c1 l1)).objs.size,.ref ((h.push (itO c1 l1)).push (itO c2 l2)).objs.size])).push (tuO #[.none,.none,.none]))
abbrev z3 (h:Heap) (c1 c2 c3:String) (l1 l2 l3:Addr):Heap:=(z3a h c1 c2 c3 l1 l2 l3).push
 { cls:=.type "zip",data:=.fields #[.none,.bool false,.bool false,.ref (((h.push (itO c1 l1)).push (itO c2 l2)).push (itO c3 l3)).objs.size,.ref ((((h.push (itO c1 l1)).push (itO c2 l2)).push (itO c3 l3)).push (tuO #[.ref h.objs.size,.ref (h.push (itO c1 l1)).objs.size,.ref ((h.push (itO c1 l1)).push (itO c2 l2)).objs.size])).objs.size] }
theorem na {a b:Nat} (h:a≠b):@Ne Addr a b:=h
section
variable {prog:Program} {w:World} {A:Around} {E:YA} {s:Shared}
end
end PySem.ZZ
namespace PySem
namespace F
end F
end PySem
namespace PySem.ZZ
open PySem
section
variable {prog:Program} {w:World} {A:Around} {E:YA} {s:Shared}
structure Run (hb:Heap) (z TI TO:Addr) (ls:List Src) (rows:Nat->YE) (S:Addr) (ts:List Addr) (h:Heap):Prop where
 inc:ts.Pairwise (· < ·)
 lo:∀t∈ts,S < t/\t < h.objs.size
 at_:∀j t,ts[j]?=some t->Nf h t (rows j)
 keep:∀c o,hb.get? c=some o->h.get? c=some o
 hTI:Nf h TI (ls.map λx=>.ref x.it)
 hTO:∃olds,Nf h TO olds/\olds.length=ls.length
 src:∀x∈ls,SrcAt h x ts.length
 hz:(ts=[]/\IsZ h z TI TO .none (.bool false))\/∃(T:Addr) (f1:Value),ts[0]?=some T/\IsZ h z TI TO (rawInt T) f1
structure Below (hb:Heap) (z TI TO:Addr) (ls:List Src) (S:Addr):Prop where
 ap:Apart z TI TO ls
 old:hb.objs.size<=z/\hb.objs.size<=TI/\hb.objs.size<=TO/\∀x∈ls,hb.objs.size<=x.it
 lz:z < S
 lTI:TI < S
 lTO:TO < S
 it:∀x∈ls,x.it < S/\x.a < S
 base:hb.objs.size<=S
theorem Run.frame {hb:Heap} {z TI TO:Addr} {ls:List Src} {rows:Nat->YE} {S:Addr} {ts:List Addr} {h h':Heap} (B:Below hb z TI TO ls S) (r:Run hb z TI TO ls rows S ts h) (hs:h'.objs.size=h.objs.size) (k:∀c o,c≠S->h.get? c=some o->h'.get? c=some o):Run hb z TI TO ls rows S ts h':=by
 obtain⟨olds,o1,o2⟩:=r.hTO;refine⟨r.inc,λt ht=>by rw[hs];exact r.lo t ht,λj t e=>k _ _ (Nat.ne_of_gt (r.lo t (Qaz e)).1) (r.at_ j t e),λc o e=>k _ _ (QbT (QaP (QbS e) B.base)) (r.keep c o e),k _ _ (QbT B.lTI) r.hTI,⟨olds,k _ _ (QbT B.lTO) o1,o2⟩,λx hx=>?_,?_⟩
 ·exact (r.src x hx).keep (λo e=>k _ _ (QbT (B.it x hx).1) e) (λo e=>k _ _ (QbT (B.it x hx).2) e)
 ·rcases r.hz with⟨e,q⟩|⟨T,f1,e,q⟩
  ·exact .inl ⟨e,k _ _ (QbT B.lz) q⟩
  ·exact .inr ⟨T,f1,e,k _ _ (QbT B.lz) q⟩
theorem Run.more {hb:Heap} {z TI TO:Addr} {ls:List Src} {rows:Nat->YE} {S:Addr} {ts:List Addr} {h h':Heap} (B:Below hb z TI TO ls S) (r:Run hb z TI TO ls rows S ts h) (hS:S < h.objs.size) (hs:h'.objs.size=h.objs.size+1) (hr:Rest z TO ls h h')
  (hTI:Nf h' TI (ls.map λx=>.ref x.it)) (hTO:∃olds,Nf h' TO olds/\olds.length=ls.length) (src:∀x∈ls,SrcAt h' x (ts.length+1)) (new:Nf h' h.objs.size (rows ts.length)) (hz:∃(T:Addr) (f1:Value),(ts++[h.objs.size])[0]?=some T/\IsZ h' z TI TO (rawInt T) f1):Run hb z TI TO ls rows S (ts++[h.objs.size]) h':=by
 have fr:∀t,S < t->t≠z/\t≠TO/\t∉ls.map (·.it):=λt ht=>⟨λe=>by rw[e] at ht;exact Nat.lt_asymm ht B.lz,λe=>by rw[e] at ht;exact Nat.lt_asymm ht B.lTO,λe=>by
  obtain⟨x,hx,e'⟩:=QbV.mp e;rw[<-e'] at ht;exact Nat.lt_asymm ht (B.it x hx).1⟩
 refine⟨?_,λt ht=>?_,λj t e=>?_,λc o e=>?_,hTI,hTO,λx hx=>by rw[QaN];exact src x hx,.inr hz⟩
 ·exact List.pairwise_append.mpr ⟨r.inc,List.pairwise_singleton _ _,λa ha b hb'=>by
   have:b=h.objs.size:=by simpa using hb'
   rw[this];exact (r.lo a ha).2⟩
 ·rw[hs];rcases Qbu.mp ht with ht | ht
  ·have:=r.lo t ht;exact⟨this.1,Nat.lt_succ_of_lt this.2⟩
  ·have:t=h.objs.size:=by simpa using ht
   rw[this];exact⟨hS,Qbo _⟩
 ·by_cases c:j < ts.length
  ·rw[Qaj c] at e;have hlo:=r.lo t (Qaz e);obtain⟨f1,f2,f3⟩:=fr t hlo.1;exact hr t _ f1 f2 f3 (r.at_ j t e)
  ·rw[Qag (Nat.le_of_not_lt c)] at e;have hj:j - ts.length=0:=by
    have:=(Qah.mp e).1;rw[List.length_singleton] at this;omega
   rw[hj] at e;cases e;have:j=ts.length:=by omega
   rw[this];exact new
 ·have hlt:=QbS e;refine hr c o (λq=>?_) (λq=>?_) (λq=>?_) (r.keep c o e)
  ·rw[q] at hlt;exact absurd hlt (Nat.not_lt.mpr B.old.1)
  ·rw[q] at hlt;exact absurd hlt (Nat.not_lt.mpr B.old.2.2.1)
  ·obtain⟨x,hx,e'⟩:=QbV.mp q;rw[<-e'] at hlt;exact absurd hlt (Nat.not_lt.mpr (B.old.2.2.2 x hx))
end
end PySem.ZZ
namespace PySem.ZZ
open PySem
section
variable {prog:Program} {w:World} {A:Around} {E:YA} {s:Shared}
structure Rows (ls:List Src) (n:Nat) (rows:Nat->YE):Prop where
 row:∀j,j < n->(rows j).length=ls.length/\∀(k:Nat) (x:Src),ls[k]?=some x->∃v,(rows j)[k]?=some v/\x.items[j]?=some v
 stop:∃x∈ls,x.items[n]?=none
 ne:ls≠[]
 few:ls.length<=100
 most:n<=1000
end
end PySem.ZZ
namespace L2
open PySem PySem.Spec PyProof.Rows
mutual
inductive Ks (K:YD) (H:Hp):V->PyData->Prop
 | non:Ks K H .non .none
 | bl (b:Bool):Ks K H (.bl b) (.bool b)
 | int (i:Int):Ks K H (.int i) (.int i)
 | str (x:Str):Ks K H (.str x) (.str x)
 | tup {a:Addr} {xs:YG} {ds:List PyData}:SqT K H a xs->Ju K H xs ds->Ks K H (.ref a) (.tuple ds)
inductive Ju (K:YD) (H:Hp):YG->List PyData->Prop
 | nil:Ju K H [] []
 | cons {x:V} {d:PyData} {xs:YG} {ds:List PyData}:Ks K H x d->Ju K H xs ds->Ju K H (x::xs) (d::ds)
end
section
variable {X:Cx} {jb:YC} {Z : St} {H:Hp} {s:Shared}
mutual
theorem Ks.reads (I:Inv X jb Z H s):∀{v:V} {d:PyData} {u:Value},Ks X.K H v d->RelV v u->∃as,Reads s.heap u d as
 | _,_,_,.non,r=>by cases (show _=Value.none from r);exact⟨_,.none⟩
 | _,_,_,.bl b,r=>by cases (show _=Value.bool b from r);exact⟨_,.bool b⟩
 | _,_,_,.int i,r=>by obtain⟨t,rfl⟩:=(show ∃t,_=Value.int i t from r);exact⟨_,.int i t⟩
 | _,_,_,.str x,r=>by obtain⟨t,rfl⟩:=(show ∃t,_=Value.str x t from r);exact⟨_,.str x t⟩
 | _,_,_,.tup (a:=a) (xs:=xs) e q,r=>by
  cases (show _=Value.ref a from r)
  obtain⟨its,rv,⟨o,ho,hc,n,hd⟩,_⟩:=I.tuple e;obtain⟨as,z⟩:=Ju.reads I q rv;exact⟨_,.tuple ho hc hd (by simpa using z)⟩
theorem Ju.reads (I:Inv X jb Z H s):∀{xs:YG} {ds:List PyData} {us:YE},Ju X.K H xs ds->Vals xs us->∃as,ReadsAll s.heap us ds as
 | _,_,_,.nil,.nil=>⟨_,.nil⟩
 | _,_,_,.cons p q,.cons r t=>by
  obtain⟨as,a1⟩:=Ks.reads I p r;obtain⟨bs,b1⟩:=Ju.reads I q t;exact⟨_,.cons a1 b1⟩
end
end
section
variable {X:Cx} {K:YD}
theorem Uy {es:YJ} {k:Nat} {pos:Pos} {t:TGs} {n:Nat} (hK:X.K=K) (hc:X.calm=true) (h:PGs X es t)
  (hn:(assignEach es X.env).length=n:=by rfl) (hst:(assignEach es X.env).findIdx? (·.1)=none:=by rfl):PG X (.Tuple es k pos) (lq K n t):=hK ▸ JC hc h hn hst
end
end L2
namespace L2
open PySem PySem.Spec PyProof.Rows
abbrev dZ:YE:=[.type "ValueError",.type "Exception",.type "BaseException",.type "object"]
structure XCl (K:YD) (C:Addr):Prop where
 ex:excIn K C dZ "ValueError.__new__"=true
 ga:findIn K (.ref C) "__getattribute__"=some (some (.builtin "BaseException.__getattribute__"))
 gn:findIn K (.ref C) "__getattr__"=some none
 ca:findIn K (.ref C) "__class__"=some (some (.builtin "object.__class__"))
 mo:subIn K (.ref C) (.type "object")=some true
 mb:subIn K (.ref C) (.type "BaseException")=some true
 kp:keepIn K (.ref C)=true
section
variable {K:YD} {C:Addr}
theorem XCl.look (T:XCl K C):∃dd cd sl,K.lookup C=some ⟨.type "type",dd,.cls cd,sl⟩:=by
 have q:=T.ex;unfold excIn at q;split at q
 ·rename_i dd cd sl ho;exact⟨dd,cd,sl,ho⟩
 ·cases q
theorem XCl.obj (T:XCl K C) {h:Heap} (X:K.In h):∃bm N nm q bs hdct sn sub ab col dd k0 k1 k2 k3 k5 mN,h.get? C=some (excClassObj nm q C N bs bm hdct sn sub ab col dd k0 k1 k2 k3 k5 "ValueError.__new__")/\h.Ns N mN/\mN "__init__"=none/\OwnTail h dZ bm:=by
 have q:=T.ex;unfold excIn at q;split at q
 ·rename_i dd cd sl ho;split at q
  ·rename_i C' bm k0 k1 k2 k3 n k5 hm hs;simp only[Qbm,beq_iff_eq,Bool.not_eq_true'] at q;obtain⟨⟨⟨⟨⟨rfl,rfl⟩,hdel⟩,ht⟩,hok⟩,hni⟩:=q;obtain⟨nm,bs,mro,ns,qn,hd,sn,sub,ab,col,del⟩:=cd;dsimp only at hm hdel hok hni;subst hm hdel;have hsl:sl=#[k0,k1,k2,k3,some (.builtin "ValueError.__new__"),k5]:=by
    obtain⟨l⟩:=sl;simp only at hs;rw[hs]
   subst hsl;exact⟨bm,ns,nm,qn,bs,hd,sn,sub,ab,col,dd,k0,k1,k2,k3,k5,_,X _ _ ho,.of_isNs (PySem.W.isNs_of_in X hok),PySem.W.nsMap_none_of_in X hok hni,PySem.W.tail_of_in X ht⟩
  ·cases q
 ·cases q
end
def XAt (a C:Addr) (h:Heap):Prop:=∃o vs,h.get? a=some o/\o.cls=.ref C/\o.data=.fields vs/\vs[2]?=some .none
section
variable {prog:Program} {w:World} {A:Around} {E:YA} {h:Heap} {g:Array GenState} {d:Drawn} {t:Nat} {os:OsState} {K:YD} {a C:Addr} {o:Obj}
theorem Vn {R:Result->Shared->Prop} (X:K.In h) (T:XCl K C) (hx:h.get? a=some o) (hc:o.cls=.ref C) (hq:R (.ok (.ret (.ref C))) ⟨h,g,d,t,os⟩) :
  codeAny (model prog w) A (.call (.builtin "getset_descriptor.__get__") ⟨[.builtin "object.__class__",.ref a,.ref C],[]⟩) R ⟨h,g,d,t,os⟩:=by
 have hT5:(⟨h,g,d,t,os⟩ : Shared).TypeIs (.builtin "object.__class__") "getset_descriptor":=F.typeOf_object_class;have f8:PySem.W.Looks (model prog w) h (isSubtype (.ref C) (.type (".".intercalate ("object.__class__".cutAt '.').dropLast))) true:=by
  rw[F.owner_object_class];exact looks_subIn X T.mo
 refine codeAny_call_builtin F.slot_gs_get.plain F.entry_gs_get (F.slot_gs_get.check _ _ _ _ _ _ _ _ hT5 (F.args_gs_get _ _ _) ?_)
 repeat (any_goals (first | assumption | (with_reducible refine Qbf hx ?_;rw[hc]) | with_reducible refine f8.at ?_ | wp_step))
 refine⟨Code.quiet_builtin _ (by trivial),codeAny_builtin F.entry_object_class ?_⟩
 repeat (any_goals (first | assumption | (with_reducible refine Qbf hx ?_;rw[hc]) | wp_step))
theorem QB {tk:Tok} {Q:Fin->Shared->Prop} (X:K.In h) (T:XCl K C) (hx:h.get? a=some o) (hc:o.cls=.ref C) (hq:Q (.done (.ret (.ref C))) ⟨h,g,d,t,os⟩) :
  wpAny (model prog w) A (Builtin.«object.__getattribute__» ⟨[.ref a,.str "__class__" tk],[]⟩) Q E ⟨h,g,d,t,os⟩:=by
 have hT5:(⟨h,g,d,t,os⟩ : Shared).TypeIs (.builtin "object.__class__") "getset_descriptor":=F.typeOf_object_class;have f4:=looks_findIn (M:=model prog w) X T.ca;have f5:=F.typeOf_object_class;have f6:=F.slot_gs_get.lookup;have f7:=F.slot_gs_set.lookup
 repeat (any_goals (first | assumption | (with_reducible refine Qbf hx ?_;rw[hc]) | with_reducible refine f4.at ?_ | wp_step))
 refine Vn X T hx hc ?_
 repeat (any_goals (first | assumption | wp_step))
theorem W8 {M:Model} {nameV:Value} {Q:YH} (X:K.In h) (T:XCl K C) (hx:h.get? a=some o) (hc:o.cls=.ref C) (hq:Q () ⟨h,g,d,t,os⟩) :
  wpAny M A (checkBuiltinCall "BaseException.__getattribute__" ⟨[.ref a,nameV],[]⟩) Q E ⟨h,g,d,t,os⟩:=by
 have hk:builtinKind "BaseException.__getattribute__"=some .slot:=by trivial
 have hsplit:splitId "BaseException.__getattribute__"=some ("BaseException","__getattribute__"):=by trivial
 have f1:=looks_subIn (M:=M) X T.mb;have ha:=F.args_bexc_ga (.ref a) nameV;simp only[checkBuiltinCall,hk,hsplit];refine Qcb ?_
 ·unfold isInstance
  repeat (first | (with_reducible refine Qbf hx ?_;rw[hc]) | with_reducible refine f1.at ?_ | wp_step)
  exact hq
theorem Tw {tk:Tok} {R:Result->Shared->Prop} (X:K.In h) (T:XCl K C) (hx:h.get? a=some o) (hc:o.cls=.ref C) (hq:R (.ok (.ret (.ref C))) ⟨h,g,d,t,os⟩) :
  codeAny (model prog w) A (.call (.builtin "BaseException.__getattribute__") ⟨[.ref a,.str "__class__" tk],[]⟩) R ⟨h,g,d,t,os⟩:=
 codeAny_call_builtin F.attr_ValueError.ga.plain F.entry_bexc_ga (W8 X T hx hc (QB X T hx hc hq))
theorem W7 {tk:Tok} {fill expr:Bool} {Q:YA} (X:K.In h) (T:XCl K C) (hx:h.get? a=some o) (hc:o.cls=.ref C) (hq:Q (.ref C) ⟨h,g,d,t,os⟩) :
  wpAny (model prog w) A (getAttrBy (.ref a) (.str "__class__" tk) fill expr) Q E ⟨h,g,d,t,os⟩:=by
 have f1:=looks_findIn (M:=model prog w) X T.ga;have f2:=looks_findIn (M:=model prog w) X T.gn;have f3:=F.attr_ValueError.ga.bind (.ref a);have hx0:(expr&&onTheHeap (Value.builtin "BaseException.__getattribute__"))=false:=by cases expr <;> rfl
 have hx2:(Value.builtin "BaseException.__getattribute__" == Value.builtin "object.__getattribute__")=false:=by trivial
 have hx1:(onTheHeap (Value.ref C)&&Value.builtin "BaseException.__getattribute__" == Value.builtin "object.__getattribute__")=false:=by rw[hx2];rfl
 repeat (any_goals (first | assumption | (with_reducible refine Qbf hx ?_;rw[hc]) | with_reducible refine f1.at ?_ | with_reducible refine f2.at ?_ | wp_step))
 refine Tw X T hx hc ?_
 repeat (any_goals (first | assumption | wp_step))
theorem Tz {Q:Option Value->Shared->Prop} (X:K.In h) (T:XCl K C) (hx:h.get? a=some o) (hc:o.cls=.ref C) (hq:Q (some (.ref C)) ⟨h,g,d,t+1,os⟩):wpAny (model prog w) A (getAttr? (.ref a) "__class__") Q E ⟨h,g,d,t,os⟩:=by
 unfold getAttr? getAttrBy?
 repeat (any_goals (first | assumption | with_reducible apply W7 X T hx hc | wp_step))
end
theorem Z7 {K:YD} {a C:Addr} (T:XCl K C):PySem.W.KitX K (.ref a) (.ref C) (XAt a C) where
 ty:=λM h X p=>by
  obtain⟨o,vs,h1,h2,_⟩:=p;exact h2 ▸ (PySem.W.Looks.ld h1).andThen .now
 it:=λ_ _ X _=>by
  obtain⟨dd,cd,sl,ho⟩:=T.look;intro A' Q' E' s' k q;unfold isType loadHead;exact Qcb (wpAny_loadPart (k _ _ (X _ _ ho)) (Qcc q))
 ne:=λh tp dd its n sl X htp=>by
  obtain⟨_,cd,_,ho⟩:=T.look;refine Bool.eq_false_iff.mpr λq=>?_;have e:C=tp:=Value.ref.inj (beq_iff_eq.mp q);subst e;have z:=congrArg Obj.data (Qbx ((X _ _ ho).symm.trans htp));cases z
 ca:=λ{_ _ _ _ _ s} X p k=>by
  obtain⟨h,g,d,t,os⟩:=s;obtain⟨o,vs,h1,h2,_⟩:=p;exact Tz X T h1 h2 k
def xo (a C:Addr):HO:=.ext (XAt a C)
section
variable {X:Cx} {jb:YC} {Z : St} {H:Hp} {s:Shared}
theorem m9 {a C:Addr} (I:Inv X jb Z H s) (e:H a=some (xo a C)):XAt a C s.heap:=(show Bo X.prog X.w H s.heap a (xo a C) from I.hok a _ e).1
theorem Og {A:Around} {E:YA} {Q:YA} {a C:Addr} {c:Value} {b:Bool} (I:Inv X jb Z H s) (T:XCl X.K C) (e:H a=some (xo a C)) (k:kitOne X.K (.ref C) c=some b) (h:∀tk,Q (.bool b) { s with toks:=tk }) :
  wpAny (model X.prog X.w) A (call (.builtin "isinstance") [.ref a,c]) Q E s:=
 kia_one (Z7 T) I.kIn (m9 I e) k (λz=>nomatch z) h
end
def XT (B:Heap) (e C:Addr) (fl:Option Value) (h:Heap):Prop:=
 ∃oe vs,h.get? e=some oe/\oe.cls=.ref C/\oe.data=.fields vs/\vs[2]?=some .none /\
  match fl with
  | none=>vs[1]?=some .none
  | some f=>∃T oT ts,vs[1]?=some (.ref T)/\B.get? T=none/\T≠e/\h.get? T=some oT/\oT.data=.fields ts/\ts[3]?=some f
structure Fl (B:Heap) (l:List Env) (e C:Addr) (fl:Option Value) (h:Heap):Prop where
 stays:B.StaysIn h
 new:B.get? e=none
 fr:h.FunFrames B l
 tr:XT B e C fl h
theorem XT.at {B h:Heap} {e C:Addr} {fl:Option Value} (x:XT B e C fl h):XAt e C h:=by
 obtain⟨oe,vs,h1,h2,h3,h4,_⟩:=x;exact⟨oe,vs,h1,h2,h3,h4⟩
section
variable {M:Model} {A:Around} {E:YA} {s:Shared} {B:Heap} {env:Env} {outer l:List Env} {L e C:Addr} {Q:YH}
theorem Sh {oe:Obj} {vs:Array Value} {head:Value} {hadNext:Bool} (hfr:A.frames=some (env::outer)) (hf:env.frame=some L) (st:B.StaysIn s.heap) (new:B.get? e=none) (fr:s.heap.FunFrames B (env::outer))
  (he:s.heap.get? e=some oe) (hc:oe.cls=.ref C) (hd:oe.data=.fields vs) (h2:vs[2]?=some .none) (hq:∀h',Fl B (env::outer) e C (some (rawInt L)) h'->s.heap.UpToSlots h'->Q () { s with heap:=h' }) :
  wpAny M A (do let fo <-frameOf env;let pl <-entryPlaceOf L hadNext;let tb <-EntryCells.newEntry head fo .none (rawInt L) .none pl;setField (.ref e) 1 tb) Q E s:=by
 have hsz:2 < vs.size:=(Qaf.mp h2).1;have nf:e∉(env::outer).filterMap (·.frame):=λhm=>by
  obtain⟨_,of,hof,nof⟩:=fr.mem hm;rw[he] at hof;cases hof;exact nof vs hd
 refine Qcb (wpAny_frameOf_fun hfr fr hf λhA sA=>?_);refine Qcb (wpAny_entryPlaceOf λpl ipl=>?_);unfold EntryCells.newEntry newFields;refine Qcb (Qbe ?_ (ipl.sizeOk5 _ _ _ _ _));have eA:hA.get? e=some oe:=(sA.2.1 e nf).trans he;have stA:B.StaysIn hA:=λb o q=>(sA.2.1 b λhm=>by rw[(fr.mem hm).1] at q;cases q).trans (st b o q);have key:∀(ob:Obj) (ts:Array Value),ob.data=.fields ts->ob.isFreed=false->ts[3]?=some (rawInt L)->wpAny M A (setField (.ref e) 1 (.ref hA.objs.size)) Q E { s with heap:=hA.push ob }:=λob ts dT nfr iT=>by
  have eP:=Qaq (h:=hA) ob eA;refine wpAny_setField eP hd (by omega) (hq _ ?_ ?_)
  ·have hTe:hA.objs.size≠e:=Nat.ne_of_gt (QbS eA);have dN:=Obj.data_mapFields hd (·.setIfInBounds 1 (Value.ref hA.objs.size));have eN:=Qaw (Obj.mapFields (·.setIfInBounds 1 (Value.ref hA.objs.size))) eP (Obj.isFreed_of_fields dN);have keep:∀b o,b≠e->hA.get? b=some o->((hA.push ob).update e (Obj.mapFields (·.setIfInBounds 1 (Value.ref hA.objs.size)))).get? b=some o:=λb o hb q=>by
    rw[Qar _ _ (Ne.symm hb)];exact Qaq _ q
   refine⟨λb o q=>keep b o (λz=>by rw[z,new] at q;cases q) (stA b o q),new,fr.of_keeps λb o q nb=>?_,⟨_,_,eN,(Obj.cls_mapFields _ _).trans hc,dN,?_,hA.objs.size,ob,ts,?_,stA.fresh,hTe,?_,dT,iT⟩⟩
   ·obtain⟨sl,q'⟩:=sA.2.2 b o q;exact⟨_,keep b _ (λz=>by rw[z,he] at q;cases q;exact nb vs hd) q',rq⟩
   ·rw[Array.getElem?_setIfInBounds_ne (by decide)];exact h2
   ·simp[show 1 < vs.size by omega]
   ·rw[Qar _ _ (Ne.symm hTe)];exact QaF hA nfr
  ·intro b o q nb;obtain⟨sl,q'⟩:=sA.2.2 b o q;refine⟨sl,?_⟩;rw[Qar _ _ (λz=>by rw[<-z,he] at q;cases q;exact nb vs hd)];exact Qaq _ q'
 refine key _ _ rfl rfl ?_
 first | (simp;done) | (rcases ipl with rfl |⟨_,_,_,_,_,_,_,rfl⟩ <;> simp)
theorem Vc {fl:Option Value} (hfl:fl=none\/fl=some .none) (hfr:A.frames=some (env::outer)) (hf:env.frame=some L) (x:Fl B (env::outer) e C fl s.heap)
  (hq:∀h',Fl B (env::outer) e C (some (rawInt L)) h'->s.heap.UpToSlots h'->Q () { s with heap:=h' }):wpAny M A (noteFrame (.ref e) env) Q E s:=by
 obtain⟨st,new,fr,oe,vs,he,hc,hd,h2,ht⟩:=x;unfold noteFrame;simp only[hf];rcases hfl with rfl | rfl
 ·refine Qcb (wpAny_field he hd (show vs[1]?=some .none from ht) ?_)
  rw[if_neg (by decide)];exact Sh hfr hf st new fr he hc hd h2 hq
 ·obtain⟨T,oT,ts,h1,nT,hTe,hT,dT,iT⟩:=ht;refine Qcb (wpAny_field he hd h1 ?_);rw[if_pos (show (Value.ref T != Value.none)=true from by simp)]
  refine Qcb (wpAny_field hT dT iT ?_);rw[if_neg (show ¬((Value.none == rawInt L)=true) from by simp[rawInt])]
  refine Qcb (wpAny_setField hT dT (Qaf.mp iT).1 ?_);have oth:∀b o,b≠T->s.heap.get? b=some o->(s.heap.update T (Obj.mapFields (·.setIfInBounds 3 Value.none))).get? b=some o:=λb o hb q=>(Qar _ _ (Ne.symm hb)).trans q;have Rr:∀b o,s.heap.get? b=some o->(∀ws,o.data≠.fields ws)->b≠T:=λb o q nb z=>by rw[z,hT] at q;cases q;exact nb ts dT
  refine Sh (s:={ s with heap:=s.heap.update T (Obj.mapFields (·.setIfInBounds 3 Value.none)) }) hfr hf (λb o q=>oth b o (λz=>by rw[z,nT] at q;cases q) (st b o q)) new
   (fr.of_keeps λb o q nb=>⟨o,oth b o (Rr b o q nb) q,rq⟩) (oth e oe (Ne.symm hTe) he) hc hd h2 λh' y u=>hq h' y ?_
  exact λb o q nb=>u b o (oth b o (Rr b o q nb) q) nb
theorem Sg {f:Value} (x:Fl B l e C (some f) s.heap) (hq:∀h',Fl B l e C (some .none) h'->s.heap.UpToSlots h'->Q () { s with heap:=h' }):wpAny M A (setFlight (.ref e) none) Q E s:=by
 obtain⟨st,new,fr,oe,vs,he,hc,hd,h2,T,oT,ts,h1,nT,hTe,hT,dT,iT⟩:=x;have hsz:3 < ts.size:=(Qaf.mp iT).1;have oth:∀b o,b≠T->s.heap.get? b=some o->(s.heap.update T (Obj.mapFields (·.setIfInBounds 3 Value.none))).get? b=some o:=λb o hb q=>(Qar _ _ (Ne.symm hb)).trans q;have Rr:∀b o,s.heap.get? b=some o->(∀ws,o.data≠.fields ws)->b≠T:=λb o q nb z=>by rw[z,hT] at q;cases q;exact nb ts dT
 unfold setFlight;refine Qcb (wpAny_field he hd h1 ?_);rw[if_pos (show (Value.ref T != Value.none)=true from by simp)]
 refine wpAny_setField hT dT hsz (hq (s.heap.update T (Obj.mapFields (·.setIfInBounds 3 Value.none))) ⟨λb o q=>oth b o (λz=>by rw[z,nT] at q;cases q) (st b o q),new,fr.of_keeps λb o q nb=>⟨o,oth b o (Rr b o q nb) q,rq⟩,?_⟩
  λb o q nb=>⟨o.slots,oth b o (Rr b o q nb) q⟩)
 have dN:=Obj.data_mapFields dT (·.setIfInBounds 3 Value.none);exact⟨oe,vs,oth e oe (Ne.symm hTe) he,hc,hd,h2,T,_,_,h1,nT,hTe,Qaw _ hT (Obj.isFreed_of_fields dN),dN,by simp[hsz]⟩
theorem cR {fl:Option Value} (hfl:fl=none\/fl=some .none) (hfr:A.frames=some (env::outer)) (hf:env.frame=some L) (x:Fl B (env::outer) e C fl s.heap)
  (hq:∀h',Fl B outer e C (some .none) h'->s.heap.UpToSlots h'->Q () { s with heap:=h' }):wpAny M A (leaving env (.ref e)) Q E s:=by
 unfold leaving;refine Qcb (Vc hfl hfr hf x λh1 y u1=>?_);refine Sg y λh2 z u2=>hq h2 ⟨z.stays,z.new,z.fr.2.2,z.tr⟩ (u1.trans u2)
end
theorem Bo.there {P:Program} {w:World} {H:Hp} {h:Heap} {a:Addr} {o:HO} (x:Bo P w H h a o):∃u,h.get? a=some u:=by
 cases o with
 | lst xs=>obtain⟨_,its,n,_,q⟩:=x;exact⟨_,q⟩
 | tup xs=>obtain⟨_,its,_,ob,q,_⟩:=x;exact⟨_,q⟩
 | dK kvs=>obtain⟨_,_,vs,_,ob,es,ep,q,_⟩:=x;exact⟨_,q⟩
 | dT kvs=>obtain⟨_,_,xs,_,ob,es,ep,q,_⟩:=x;exact⟨_,q⟩
 | set S n=>obtain⟨ob,es,ep,t,q,_⟩:=x;exact⟨_,q⟩
 | ins C dx fs=>obtain⟨_,_,_,q,_⟩:=x;exact⟨_,q⟩
 | own y=>exact x
 | xd fs=>obtain⟨mA,⟨od,es,ep,q,_⟩,_⟩:=x;exact⟨_,q⟩
 | rng lo hi=>obtain⟨t,u,v,q⟩:=x;exact⟨_,q⟩
 | frz ob u=>exact⟨_,x.1⟩
 | tbl ps=>exact⟨_,x⟩
 | met f y=>exact⟨_,x⟩
 | ext φ=>exact x.2.1
structure Exc (P:Program) (w:World) (outer:List Env) (H:Hp) (s:Shared) (e C:Addr) (B:Heap) (H':Hp) (s':Shared):Prop where
 os:s'.os=s.os
 bare:AllBare s'.gens
 fl:∃fl,(fl=none\/fl=some .none)/\Fl B outer e C fl s'.heap
 un:Un (frs outer) [] H H' s.heap s'.heap
 hok:HOk P w H' s'.heap
 tin:∀b o,s'.heap.get? b=some o->H' b≠none->B.get? b=some o
 old:∀b o,s.heap.get? b=some o->H b=none->b∉frs outer->B.get? b=some o
 ex:∀b o,s.heap.get? b=some o->b∉frs outer->∃o',B.get? b=some o'
def CX1 (P:Program) (w:World):CXT:=λouter H s E ev s'=>∃e C B H',ev=.ref e/\Exc P w outer H s e C B H' s'/\E (.ref C) none H'
section
variable {P:Program} {w:World} {outer:List Env} {H H':Hp} {s s':Shared} {e C:Addr} {B h2:Heap} {fl:Option Value}
theorem Exc.fu (x:Exc P w outer H s e C B H' s') (st:B.StaysIn h2):HOk P w H' h2:=λa o q=>
 (x.hok a o q).stay (λb u hb hu=>st b u (x.tin b u hu (by
  rcases hb with rfl | hb
  ·rw[q];exact λz=>nomatch z
  ·rw[hb];exact λz=>nomatch z))) (λ_ z=>z) λ_ _ z=>z
theorem Exc.o9 (x:Exc P w outer H s e C B H' s') (f:Fl B outer e C fl h2) (u:s'.heap.UpToSlots h2):Un (frs outer) [] H H' s.heap h2:=by
 refine⟨λb o q n hb _=>f.stays b o (x.old b o q n hb),λb o q n hb hx=>?_,x.un.free,λb o q hx=>?_,x.un.tups,x.un.FJ,x.un.Gu⟩
 ·obtain⟨sl,q1⟩:=x.un.slot b o q n hb hx;obtain⟨_,_,g⟩:=x.fl;obtain⟨_,o1,q2,nf⟩:=g.fr.mem hb;rw[q1] at q2;cases q2;obtain⟨sl2,q3⟩:=u b _ q1 nf;exact⟨sl2,q3⟩
 ·by_cases hb:b∈frs outer
  ·obtain⟨_,o1,q2,_⟩:=f.fr.mem hb;exact⟨o1,q2⟩
  ·obtain⟨o1,q1⟩:=x.ex b o q hb;exact⟨o1,f.stays b o1 q1⟩
theorem Exc.ni (x:Exc P w outer H s e C B H' s') (st:B.StaysIn h2):∀b o,h2.get? b=some o->H' b≠none->B.get? b=some o:=λb o q hb=>by
 cases hq:H' b with
 | none=>exact absurd hq hb
 | some v=>
  obtain⟨o1,q1⟩:=(x.hok b v hq).there;have q2:=x.tin b o1 q1 hb;have q3:=st b o1 q2;rw[q] at q3;cases q3;exact q2
theorem Exc.free (x:Exc P w outer H s e C B H' s'):H' e=none:=by
 cases hq:H' e with
 | none=>rfl
 | some v=>
  obtain⟨o1,q1⟩:=(x.hok e v hq).there;have q2:=x.tin e o1 q1 (by rw[hq];exact λz=>nomatch z);obtain⟨_,_,g⟩:=x.fl;rw[g.new] at q2;cases q2
theorem Exc.fresh (x:Exc P w outer H s e C B H' s'):s.heap.get? e=none:=by
 cases hq:s.heap.get? e with
 | none=>rfl
 | some o=>
  obtain⟨_,_,g⟩:=x.fl;by_cases hb:e∈frs outer
  ·obtain⟨_,o1,q1,nf⟩:=g.fr.mem hb;obtain⟨oe,vs,q2,_,q3,_⟩:=g.tr;rw[q1] at q2;cases q2;exact absurd q3 (nf vs)
  ·obtain⟨o1,q1⟩:=x.ex e o hq hb;rw[g.new] at q1;cases q1
end
section
variable {X:Cx} {jb:YC} {Z : St} {H H':Hp} {s s':Shared} {e C:Addr} {B h2:Heap} {fl:Option Value}
theorem Exc.made {args:YE} {h':Heap} (I:Inv X jb Z H s) (hx:Heap.MadeExcOf s.heap h' e (.ref C) args):Exc X.prog X.w X.stack H s e C (hideAll s.heap (frs X.stack)) H { s with heap:=h' }:=by
 have st:(hideAll s.heap (frs X.stack)).StaysIn s.heap:=λb o q=>PySem.W.of_hideAll _ q;refine⟨rq,I.bare,⟨none,.inl rfl,⟨λb o q=>hx.keeps b o (st b o q),?_,?_,?_⟩⟩,Un.kept hx.keeps,I.hok.kept hx.keeps,λb o q hb=>?_,λb o q n hb=>hideAll_get _ q hb,λb o q hb=>⟨o,hideAll_get _ q hb⟩⟩
 ·cases hq:(hideAll s.heap (frs X.stack)).get? e with
  | none=>rfl
  | some o=>
   have q:=st e o hq;rw[hx.new] at q;cases q
 ·have f0:s.heap.FunFrames (hideAll s.heap (frs X.stack)) X.stack:=PySem.W.funFrames_hide I.stack λenv he a ha=>List.mem_filterMap.mpr ⟨env,he,ha⟩;exact f0.of_keeps λb o q _=>⟨o,hx.keeps b o q,rq⟩
 ·obtain⟨t,q,_⟩:=hx.there;exact⟨_,_,q,rq,rq,rq,rq⟩
 ·cases hq:H b with
  | none=>exact absurd hq hb
  | some v=>
   obtain⟨o1,q1⟩:=(I.hok b v hq).there;have q2:=hx.keeps b o1 q1;have q':h'.get? b=some o:=q;rw[q'] at q2;cases q2;refine hideAll_get _ q1 λhm=>?_;rw[I.Oz b hm] at hq;cases hq
theorem Exc.leave {M:Model} {E1:YA} {Q:YH} (I:Inv X jb Z H s) (hs:X.stack=X.env::X.outer) (hf:X.env.frame=some X.env.locals) (hx:X.ex=[]) (x:Exc X.prog X.w X.stack H s e C B H' s')
  (hq:∀h2,Exc X.prog X.w X.outer X.H₀ X.s₀ e C B H' { s' with heap:=h2 }->Q () { s' with heap:=h2 }):wpAny M X.A (leaving X.env (.ref e)) Q E1 s':=by
 obtain⟨fl,hfl,f⟩:=x.fl;have f':=f;rw[hs] at f';have nl:∀b o,X.s₀.heap.get? b=some o->b≠X.env.locals:=λb o q=>QbT (QaP (QbS q) I.ok.above);have ns:∀b o,X.s₀.heap.get? b=some o->b∉X.fs->b∉frs X.stack:=λb o q hb hm=>(QbK.mp (I.Nj b hm)).elim (nl b o q) hb;have lA:∀b,b∈X.fs->b∈frs X.stack:=λb hb=>by
  rw[hs];unfold frs;rw[List.filterMap_cons,hf];exact QaA _ hb
 have nx:∀b:Addr,b∉X.ex:=λb=>by rw[hx];simp
 refine cR hfl (I.ok.frames.trans (congrArg some hs)) hf f' λh2 g u=>hq h2 ⟨x.os.trans I.os,x.bare,⟨_,.inr rfl,g⟩,?_,x.fu g.stays,x.ni g.stays,λb o q n hb=>?_,λb o q hb=>?_⟩
 ·refine⟨λb o q n hb _=>?_,λb o q n hb _=>?_,λb o q n _=>?_,λb o q _=>?_,λb xs q=>x.un.tups b xs (I.base.tups b xs q),λb o v q=>x.un.FJ b o v (I.base.FJ b o v q),λb ps q=>?_⟩
  ·exact g.stays b o (x.old b o (I.base.keep b o q n hb (nx b)) (I.base.free b o q n (nx b)) (ns b o q hb))
  ·obtain⟨sl,q1⟩:=I.base.slot b o q n hb (nx b);obtain⟨sl2,q2⟩:=x.un.slot b _ q1 (I.base.free b o q n (nx b)) (lA b hb) (by simp);obtain⟨_,o1,q3,nf⟩:=f.fr.mem (lA b hb);rw[q2] at q3;cases q3;obtain⟨sl3,q4⟩:=u b _ q2 nf;exact⟨sl3,q4⟩
  ·obtain⟨o1,q1⟩:=I.base.there b o q (nx b);exact x.un.free b o1 q1 (I.base.free b o q n (nx b)) (by simp)
  ·by_cases hb:b∈X.fs
   ·obtain⟨_,o1,q1,_⟩:=g.fr.mem hb;exact⟨o1,q1⟩
   ·obtain⟨o1,q1⟩:=I.base.there b o q (nx b);obtain⟨o2,q2⟩:=x.ex b o1 q1 (ns b o q hb);exact⟨o2,g.stays b o2 q2⟩
  ·obtain⟨m1,q1⟩:=I.base.Gu b ps q;obtain⟨m2,q2⟩:=x.un.Gu b _ q1;exact⟨m1++m2,by rw[q2,Array.append_assoc]⟩
 ·exact x.old b o (I.base.keep b o q n hb (nx b)) (I.base.free b o q n (nx b)) (ns b o q hb)
 ·obtain⟨o1,q1⟩:=I.base.there b o q (nx b);exact x.ex b o1 q1 (ns b o q hb)
theorem Exc.caught (I:Inv X jb Z H s) (x:Exc X.prog X.w X.stack H s e C B H' s') (f:Fl B X.stack e C fl h2) (u:s'.heap.UpToSlots h2):Inv X jb Z (upd H' e (xo e C)) { s' with heap:=h2 }:=by
 have v:=x.o9 f u;have he:=x.fresh;have hn:=x.free;have ne:∀b o,s.heap.get? b=some o->b≠e:=λb o q z=>by rw[z,he] at q;cases q
 have un:Un (frs X.stack) [] H (upd H' e (xo e C)) s.heap h2:=⟨v.keep,v.slot,λb o q n hx=>by rw[Al (ne b o q)];exact v.free b o q n hx,v.there,λb xs q=>by rw[Al (Am (v.tups b xs q) hn)];exact v.tups b xs q,
  λb o w q=>by rw[Al (Am (v.FJ b o w q) hn)];exact v.FJ b o w q,λb ps q=>by
   obtain⟨m,q1⟩:=v.Gu b ps q;exact⟨m,by rw[Al (Am q1 hn)];exact q1⟩⟩
 have hok:HOk X.prog X.w (upd H' e (xo e C)) h2:=λb o q=>by
  by_cases hb:b=e
  ·subst hb;rw[Ac] at q;cases q;have at_:=f.tr.at;refine⟨at_,?_,λh1 h3 p k=>?_⟩
   ·obtain⟨oe,vs,q1,_⟩:=at_;exact⟨oe,q1⟩
   ·obtain⟨oe,vs,q1,q2⟩:=p;exact⟨oe,vs,k oe q1,q2⟩
  ·rw[Al hb] at q;exact (x.fu f.stays b o q).stay (λc w _ q1=>q1) (λc q1=>by rw[Al (Am q1 hn)];exact q1) λc xs q1=>by rw[Al (Am q1 hn)];exact q1
 exact I.call' (s':={ s' with heap:=h2 }) x.os un hok x.bare λb z=>absurd z (by simp)
end
def Ku (X:Cx) (EX:St->XK):Prop:=∀(jb:YC) (Z : St) (H:Hp) (s:Shared) (ev:Value) (s':Shared),Inv X jb Z H s->CX1 X.prog X.w X.stack H s (EX Z) ev s'->X.xe ev s'
theorem JG {X:Cx}:Ku X (λ_=>E0):=λ_ _ _ _ _ _ _ h=>by
 obtain⟨_,_,_,_,_,_,z⟩:=h;exact z.elim
theorem ZM {P:Program} {w:World} {K:YD} {mg:YB} {base:Heap} {N:YF} {qual:Str} {scope:Scope} {f:Addr} {cd:Value} {A:Around} {outer:List Env} {s:Shared} {H:Hp} {E:XK} :
  Ku (Ih (CX1 P w) P w K mg base N qual scope f cd A outer s H E) (λ_=>E):=λjb Z H1 s1 ev s' I h=>by
 obtain⟨e,C,B,H',rfl,x,q⟩:=h;exact x.leave I rfl rfl rfl λh2 y=>⟨e,C,B,H',rq,y,q⟩
def je (C:Addr) (EX:St->XK) (t:TA):TS:=λ_ Z H=>t Z H λvs H1=>vs.length<=sizeLine/\EX Z (.ref C) none H1
theorem MN {X:Cx} {EX:St->XK} {C:Addr} {x:Str} {np cpos pos:Pos} {e:Expr} {es:YJ} {t:TA} (hc:X.calm=true) (T:XCl X.K C) (hg:Gl X x) (hm:X.mg x=some (.ref C)) (hx:Ku X EX) (ha:PA X (e::es) t)
  (hdb:(x == ("__debug__":Str))=false:=by decide) (he:starEach (e::es) X.env=(false,eval e X.env)::starEach es X.env:=by rfl) (hpl:(backTo cpos (starEach es X.env)).any (·.1)=false:=by rfl) :
  PS X (.Raise (some (.Call (.Name x np) (e::es) [] cpos)) none pos) (je C EX t):=by
 intro jb s Z H D I h;obtain⟨bm,N,nm,q,bs,hdct,sn,sub,ab,col,dd,k0,k1,k2,k3,k5,mN,hC,hN,hni,TL⟩:=T.obj I.mod.kin;refine wpAny_Raise_call_subT F.excBase_ValueError (bm:=bm) (nm:=nm) (C:=C) (q:=q) (bs:=bs) (N:=N) (sn:=sn) (hdct:=hdct) (sub:=sub) (col:=col) (ab:=ab) (dd:=dd) (k5:=k5) (k3:=k3) (k2:=k2) (k1:=k1) (k0:=k0) (TL.hasType (by trivial)) (I.ok.hd hc) (by rw[he];show (false || (backTo cpos (starEach es X.env)).any (·.1))=false;rw[hpl];rfl) hni (Hj I hg hm ⟨rfl,?_⟩ hdb);have h2:=ha cpos jb s Z H _ I h;rw[he] at h2 ⊢;refine Calls.evalArgs_plain (thn h2 λus s2 zz=>?_);obtain⟨vs,H2,I2,r,hl,hE⟩:=zz;refine⟨rq,?_⟩;refine⟨by rw[<-r.length];exact hl,I2.bk _ _ hC,hN.keeps I2.bk,TL.keeps I2.bk,λh' ea mx=>?_⟩;exact hx jb Z H2 s2 (.ref ea) { s2 with heap:=h' } I2 ⟨ea,C,_,H2,rq,Exc.made I2 mx,hE⟩
section
variable {M:Model} {A:Around} {E:YA} {h:Heap} {g:Array GenState} {d:Drawn} {t:Nat} {os:OsState} {K:YD} {e C HC:Addr}
theorem iY {Q:Bool->Shared->Prop} (X:K.In h) (TH:XCl K HC) (hs:subIn K (.ref C) (.ref HC)=some true) (x:XAt e C h) (hq:Q true ⟨h,g,d,t,os⟩):wpAny M A (excMatches (.ref e) (.ref HC)) Q E ⟨h,g,d,t,os⟩:=by
 obtain⟨oe,vs,he,hc,_⟩:=x;obtain⟨dd,cd,sl,ho⟩:=TH.look;have hH:=X _ _ ho;have f1:=looks_subIn (M:=M) X TH.mb;have f2:=looks_subIn (M:=M) X hs;have f3:=tc_notTuple;unfold excMatches
 repeat (first | (with_reducible refine Qbf he ?_;rw[hc]) | with_reducible refine Qbf hH ?_ | with_reducible refine f1.at ?_ | with_reducible refine f2.at ?_ | wp_step)
 exact hq
end
abbrev Cx.by (X:Cx) (pn:YC) (E:YA):Cx:={ X with pn:=pn,xe:=E }
abbrev Cx.suite (X:Cx) (pn:YC) (ev:Value):Cx:={ X with pn:=pn,xe:=λ_ _=>False,A:=X.A.mark (some ev),calm:=false }
section
variable {X:Cx} {jb Fp pn:YC} {Z : St} {H:Hp} {s:Shared} {E:YA} {ev:Value}
theorem Inv.by (I:Inv X jb Z H s) (E:YA):Inv (X.by (X.pn++jb) E) [] Z H s:=
 ⟨⟨I.ok.mod,I.ok.kind,I.ok.glob,I.ok.blt,I.ok.above,I.ok.inj,I.ok.has,I.ok.cab,I.ok.hd,I.ok.frames,I.ok.stk,I.ok.exf,I.ok.bs,I.ok.bsz,I.ok.Jj,I.ok.Ig,I.ok.DY,I.ok.frf⟩,I.os,I.bare,I.base,I.loc,I.cell,I.free,I.Dt,
  λp hp=>I.pin p (by simpa using hp),I.hok,I.len⟩
theorem Inv.JT (I:Inv (X.by (X.pn++jb) E) Fp Z H s):Inv X jb Z H s:=
 ⟨⟨I.ok.mod,I.ok.kind,I.ok.glob,I.ok.blt,I.ok.above,I.ok.inj,I.ok.has,I.ok.cab,I.ok.hd,I.ok.frames,I.ok.stk,I.ok.exf,I.ok.bs,I.ok.bsz,I.ok.Jj,I.ok.Ig,I.ok.DY,I.ok.frf⟩,I.os,I.bare,I.base,I.loc,I.cell,I.free,I.Dt,
  λp hp=>I.pin p (QaB _ hp),I.hok,I.len⟩
theorem Inv.suite (I:Inv (X.by pn E) Fp Z H s) (ev:Value):Inv (X.suite pn ev) Fp Z H s:=
 ⟨⟨I.ok.mod,I.ok.kind,I.ok.glob,I.ok.blt,I.ok.above,I.ok.inj,I.ok.has,I.ok.cab,(λz=>nomatch z),I.ok.frames,I.ok.stk,I.ok.exf,I.ok.bs,I.ok.bsz,I.ok.Jj,I.ok.Ig,I.ok.DY,I.ok.frf⟩,I.os,I.bare,I.base,I.loc,I.cell,I.free,I.Dt,
  I.pin,I.hok,I.len⟩
theorem Inv.Lq (hd:X.calm=true->X.A.handled=none) (I:Inv (X.suite (X.pn++jb) ev) Fp Z H s):Inv X jb Z H s:=
 ⟨⟨I.ok.mod,I.ok.kind,I.ok.glob,I.ok.blt,I.ok.above,I.ok.inj,I.ok.has,I.ok.cab,hd,I.ok.frames,I.ok.stk,I.ok.exf,I.ok.bs,I.ok.bsz,I.ok.Jj,I.ok.Ig,I.ok.DY,I.ok.frf⟩,I.os,I.bare,I.base,I.loc,I.cell,I.free,I.Dt,
  λp hp=>I.pin p (QaB _ hp),I.hok,I.len⟩
theorem SP.JT {D:Ends} {f:Flow} (h:SP (X.by (X.pn++jb) E) Fp D f s):SP X jb D f s:=by
 cases f with
 | next=>obtain⟨σ',H',I,q⟩:=h;exact⟨σ',H',I.JT,q⟩
 | brk=>obtain⟨σ',H',I,q⟩:=h;exact⟨σ',H',I.JT,q⟩
 | cont=>obtain⟨σ',H',I,q⟩:=h;exact⟨σ',H',I.JT,q⟩
 | ret u=>obtain⟨v,σ',H',I,r,q⟩:=h;exact⟨v,σ',H',I.JT,r,q⟩
theorem Mg {M:Model} {A:Around} {E1:YA} {i:Nat} {n:Str} {pos:Pos} {Q:YH} (I:Inv X jb Z H s) (hN:X.N.Nodup) (hi:X.N[i]?=some n) (hl:X.env.scope.names.lookup n=some .local)
  (hq:∀s',Inv X jb (Z.set i none) H s'->Q () s'):wpAny M A (do bindName X.env n .none;unbindBehindTheSuite X.env n pos) Q E1 s:=by
 obtain⟨m,hn,hm⟩:=id I.loc;have hcls:(X.env.scope.kind == .class || (X.env.scope.kind == .module&&X.env.locals != X.env.globals))=false:=by rw[I.ok.kind];rfl
 refine wpAny_nameGoes_keeps hl hn hcls λh' v nsv sb=>?_;have hiσ : i < Z.length:=by rw[I.len];exact (Qah.mp hi).1
 obtain⟨oL,_,_,hoL,_⟩:=id hn;have below:∀b o,X.s₀.heap.get? b=some o->b≠X.env.locals:=λb o q=>QbT (QaP (QbS q) I.ok.above);refine hq _ ⟨I.ok,I.os,I.bare,⟨λb o q nn hb hx=>?_,λb o q nn hb hx=>?_,I.base.free,λb o q hx=>?_,I.base.tups,I.base.FJ,I.base.Gu⟩,⟨_,nsv,λj y w e1 e2 e3=>?_⟩,λy c q=>?_,I.free,I.Dt,λp hp=>?_,λb ob q=>?_,?_⟩
 ·exact (sb.2 b (below b o q)).trans (I.base.keep b o q nn hb hx)
 ·obtain⟨sl,q1⟩:=I.base.slot b o q nn hb hx;exact⟨sl,(sb.2 b (below b o q)).trans q1⟩
 ·obtain⟨o',q1⟩:=I.base.there b o q hx;exact⟨o',(sb.2 b (below b o q)).trans q1⟩
 ·by_cases hj:j=i
  ·subst hj;rw[Qas hiσ] at e2;cases e2
  ·rw[QaC (Ne.symm hj)] at e2;obtain⟨u,r,q⟩:=hm j y w e1 e2 e3;refine⟨u,r,?_⟩;rcases q with⟨k,q⟩|⟨k,c,q,z⟩
   ·have ny:y≠n:=λz=>hj (M4 hN e1 (z ▸ hi));exact .inl ⟨k,by simp[ny,q]⟩
   ·exact .inr ⟨k,c,q,z.sameBut sb (I.cne y c q)⟩
 ·obtain⟨u,z⟩:=I.cell y c q;exact⟨u,z.sameBut sb (I.cne y c q)⟩
 ·obtain⟨q,nn,ne,nf,dd⟩:=I.pin p hp;exact⟨(sb.2 p.1 ne).trans q,nn,ne,nf,dd⟩
 ·refine (I.hok b ob q).stay (λc u hc q1=>(sb.2 c ?_).trans q1) (λ_ z=>z) λ_ _ z=>z;rintro rfl;rcases hc with rfl | hc
  ·rw[I.free] at q;cases q
  ·rw[I.free] at hc;cases hc
 ·rw[QbD];exact I.len
end
def Ends.drop (D:Ends) (i:Nat):Ends where
 nx:=fun Z H=>D.nx (Z.set i none) H
 rt:=D.rt
 bk:=fun Z H=>D.bk (Z.set i none) H
 ct:=fun Z H=>D.ct (Z.set i none) H
def WK (K:YD) (HC:Addr) (i:Nat) (th:Addr->TS) (D:Ends):St->XK:=fun Z cls _ H=>∃C,cls=.ref C/\XCl K C/\subIn K (.ref C) (.ref HC)=some true/\∀e,H e=none->th e (D.drop i) (Z.set i (some (.ref e))) (upd H e (xo e C))
def pA (K:YD) (HC:Addr) (i:Nat) (tb:(St->XK)->TS) (th:Addr->TS):TS:=λD Z H=>tb (WK K HC i th D) D Z H
theorem ju {X:Cx} {HC:Addr} {i:Nat} {n x:Str} {tb:(St->XK)->TS} {th:Addr->TS} {body suite:List Stmt} {b₀ : Stmt} {np hpos pos:Pos} (hN:X.N.Nodup) (hi:X.N[i]?=some n) (hl:X.env.scope.names.lookup n=some .local) (hst:X.stack=X.env::X.outer)
  (hf:X.env.frame=some X.env.locals) (hg:Gl X x) (hm:X.mg x=some (.ref HC)) (TH:XCl X.K HC)
  (h1:∀pn E1 EX,Ku (X.by pn E1) EX->PSs (X.by pn E1) body (tb EX)) (h2:∀pn (e:Addr),PSs (X.suite pn (.ref e)) (b₀::suite) (th e)) (hdb:(x == ("__debug__":Str))=false:=by decide) :
  PS X (.Try body [.ExceptHandler (some (.Name x np)) (some n) (b₀::suite) hpos] [] [] pos) (pA X.K HC i tb th):=by
 intro jb s Z H D I h;have hfr:X.A.frames=some (X.env::X.outer):=I.ok.frames.trans (congrArg some hst);let E1:YA:=λev s''=>∃(Fp:YC) (σ':St) (H':Hp) (s':Shared),Inv (X.by (X.pn++jb) λ_ _=>False) Fp σ' H' s'/\CX1 X.prog X.w X.stack H' s' (WK X.K HC i th D σ') ev s'';have hp:Ku (X.by (X.pn++jb) E1) (WK X.K HC i th D):=λFp σ' H' s' ev s'' I' c=>⟨Fp,σ',H',s',⟨⟨I'.ok.mod,I'.ok.kind,I'.ok.glob,I'.ok.blt,I'.ok.above,I'.ok.inj,I'.ok.has,I'.ok.cab,I'.ok.hd,I'.ok.frames,I'.ok.stk,I'.ok.exf,I'.ok.bs,I'.ok.bsz,I'.ok.Jj,I'.ok.Ig,I'.ok.DY,I'.ok.frf⟩,I'.os,I'.bare,I'.base,I'.loc,I'.cell,I'.free,I'.Dt,I'.pin,I'.hok,I'.len⟩,c⟩;refine wpAny_Try_except (Qcd (h1 _ E1 _ hp [] s Z H D (I.by E1) h) (λf s1 q=>?_) λev s1 q=>?_)
 ·cases f with
  | next=>exact wpAny_execs_nil q.JT
  | brk=>exact q.JT
  | cont=>exact q.JT
  | ret u=>exact q.JT
 ·obtain⟨Fp,σ',H',s',I',e,C,B,H2,rfl,x1,D1,hC,T,hs,hth⟩:=q;cases hC;obtain⟨fl,hfl,f0⟩:=x1.fl;rw[hst] at f0;refine Vc hfl hfr hf f0 λha fa ua=>?_;refine Sg fa λhb fb ub=>?_;have fb':Fl B X.stack e C (some .none) hb:=by rw[hst];exact fb
  have J:=Exc.caught I' x1 fb' (ua.trans ub);have JS:=J.suite (Value.ref e);refine wpAny_handleBy_cons (codeAny_handlers_test (Hj JS hg hm ?_ hdb)) (by intro q;cases q);refine iY JS.kIn TH hs fb.tr.at (codeAny_handlers_suite_as ?_);refine Sg fb λhc fc uc=>?_;have fc':Fl B X.stack e C (some .none) hc:=by rw[hst];exact fc
  have J2:=(Exc.caught I' x1 fc' ((ua.trans ub).trans uc)).suite (Value.ref e);refine JW (X:=X.suite (X.pn++jb) (.ref e)) (v:=.ref e) (i:=i) J2 hN hi (.inl hl) rfl (λs4 J4=>?_) (.inr hl);refine Qcd (h2 _ _ Fp s4 _ _ (D.drop i) J4 (hth e x1.free)) (λf s5 q=>?_) λ_ _ z=>z.elim;cases f with
  | next=>
   obtain⟨σ5,H5,I5,q5⟩:=q;exact Mg (I5.Lq I.ok.hd) hN hi hl λs6 I6=>⟨_,_,I6,q5⟩
  | brk=>
   obtain⟨σ5,H5,I5,q5⟩:=q;exact Mg (I5.Lq I.ok.hd) hN hi hl λs6 I6=>⟨_,_,I6,q5⟩
  | cont=>
   obtain⟨σ5,H5,I5,q5⟩:=q;exact Mg (I5.Lq I.ok.hd) hN hi hl λs6 I6=>⟨_,_,I6,q5⟩
  | ret u=>
   obtain⟨v5,σ5,H5,I5,r5,q5⟩:=q;exact Mg (I5.Lq I.ok.hd) hN hi hl λs6 I6=>⟨v5,_,_,I6,r5,q5⟩
structure Hs (k:Nat) (A:Around):Prop where
 dp:A.depth+3*k+5 < recursionLimit
 un:A.units+16*k+200 < cLine
theorem Br.inH {k:Nat} {A:Around} (r:Br k A) (h:Option Value):Hs k (A.mark h):=⟨r.dp,r.un⟩
theorem Hs.deeper {k:Nat} {A:Around} (r:Hs (k+1) A) (env:Env):Hs k (A.deeper env):=
 ⟨by have:=r.dp;show A.depth+1+3*k+5 < _;omega,by have:=r.un;show A.units+3+16*k+200 < _;omega⟩
theorem Hs.mono {j k:Nat} {A:Around} (r:Hs k A) (h:j<=k):Hs j A:=⟨by have:=r.dp;omega,by have:=r.un;omega⟩
structure Qy (P:Program) (w:World) (K:YD) (mg:YB) (base:Heap) (x:Str) (k:Nat) (ps:YF) (sp:Sp):Prop where
 ex:∃(f:Addr) (fd:FuncData),mg x=some (.ref f)/\keepIn K (.ref f)=true/\Binds K fd ps []/\(∀vs H Q E,sp vs H Q E->vs.length=ps.length) /\
  ∀(A:Around) (outer:List Env) (s:Shared) (H:Hp) (args:Args) (us:YE) (vs:YG) (Q:VK),Hs k A->Ij P w K mg base A outer s H->BindsTo s fd args (ps.zip us)->Vals vs us->sp vs H Q E0 ->
   codeAny (model P w) A (.call (.ref f) args) (CR CX0 outer P w H s Q E0) s
abbrev cxH (P:Program) (w:World) (K:YD) (mg:YB) (base:Heap) (N:YF) (qual:Str) (scope:Scope) (f:Addr) (cd:Value) (A:Around) (outer:List Env) (s:Shared) (H:Hp):Cx:=
 { Ih CX0 P w K mg base N qual scope f cd A outer s H E0 with calm:=false,xe:=λ_ _=>False }
theorem Code.oK {P:Program} {w:World} {K:YD} {mg:YB} {base:Heap} {x:Str} {st:Stmt} {ps N:YF} {k:Nat} {sp:Sp} (C:Code K mg x st ps) (S:Ba N ps (Ae st)) (len:∀vs H Q E,sp vs H Q E->vs.length=ps.length)
  (hbody:∀(f:Addr) (cdv:Value) (A:Around) (outer:List Env) (s:Shared) (H:Hp) (vs:YG) (Q:VK),Hs k (A.deeper (envOfC x (Ae st) s.heap.objs.size f cdv))->sp vs H Q E0 ->
   ∃t,PSs (cxH P w K mg base N x (Ae st) f cdv A outer s H) (Av st) t/\t { nx:=λ_ H'=>Q .non H',rt:=Q } (start N vs) H):Qy P w K mg base x (k+1) ps sp:=by
 obtain⟨f,fd,F,m,b⟩:=C.ex;refine⟨f,fd,m,F.kp,b,len,λA outer s H args us vs Q hr e0 hb r hsp=>?_⟩;obtain⟨oc,od,kV,doc,pm,an,cdv,ct,osl,rfl,lk,hcd⟩:=F.ex;have hlen:=len _ _ _ _ hsp;have KX:K.In s.heap:=e0.mod.kin.keeps λb o q=>(e0.bs b o q).1;have lim:s.heap.NoLimit:=e0.mod.nolimit.keeps λb o q=>(e0.bs b o q).1;have hkind:∀y∈ps.zip us,(Ae st).names.lookup y.1=some .local\/((Ae st).names.lookup y.1=some .cell/\((cellsFrom (s.heap.objs.size+1) (Ae st).names []).lookup y.1).isSome=true):=λ⟨n,v⟩ hy=>by
  rcases S.par n (List.of_mem_zip hy).1 with q | q
  ·exact .inl q
  ·exact .inr ⟨q,PySem.W.cellsFrom_some _ _ _ (.inl q)⟩
 refine codeAny_call_function (by have:=hr.dp;omega) (KX _ _ lk) rfl S.co S.gen rfl (PySem.W.codeRec_of KX hcd) (hb _ _ _ _ ?_);refine wpAny_newFunctionEnv_cells S.kind hkind λenv he s1 ic=>?_;subst he;refine⟨lim.keeps ic.toInCall.keep,codeAny_func ?_⟩;obtain⟨t,ht,hq⟩:=hbody f cdv A outer s H vs Q (hr.deeper _) hsp;have e1:Ij P w K mg base { A with handled:=none } outer s H:=⟨e0.frames,e0.mod,e0.bs,e0.bsz,e0.DY,e0.frf,e0.hok,e0.bare⟩;have I0:Inv (Ih CX0 P w K mg base N x (Ae st) f cdv { A with handled:=none } outer s H E0) [] (start N vs) H s1:=PL S rfl e1 hlen r ic;have I:Inv (cxH P w K mg base N x (Ae st) f cdv A outer s H) [] (start N vs) H s1:=
  ⟨⟨I0.ok.mod,I0.ok.kind,I0.ok.glob,I0.ok.blt,I0.ok.above,I0.ok.inj,I0.ok.has,I0.ok.cab,(λz=>nomatch z),Around.frames_deeper e0.frames,I0.ok.stk,I0.ok.exf,I0.ok.bs,I0.ok.bsz,I0.ok.Jj,I0.ok.Ig,I0.ok.DY,I0.ok.frf⟩,I0.os,I0.bare,I0.base,I0.loc,I0.cell,I0.free,I0.Dt,
   I0.pin,I0.hok,I0.len⟩
 refine Qcd (ht [] s1 (start N vs) H _ I hq) (λfl s' hs=>?_) λe s' z=>z.elim;have fin:∀{σ':St} {H':Hp} {v:V} {u:Value},Inv (cxH P w K mg base N x (Ae st) f cdv A outer s H) [] σ' H' s'->RelV v u->Q v H'->CE outer P w H s Q u s':=λ{σ' H' v u} J rv q=>⟨v,H',J.os,J.bare,J.base,J.hok,rv,q⟩;cases fl with
 | ret u=>
  obtain⟨v,σ',H',J,rv,q⟩:=hs;exact fin J rv q
 | next=>
  obtain⟨σ',H',J,q⟩:=hs;exact fin (v:=V.non) (u:=Value.none) J rfl q
 | brk=>obtain⟨_,_,_,q⟩:=hs;exact False.elim q
 | cont=>obtain⟨_,_,_,q⟩:=hs;exact False.elim q
theorem jF {X:Cx} {k k':Nat} {ps:YF} {sp:Sp} {x:Str} {p pos:Pos} {e:Expr} {es:YJ} {t:TA} (g:Qy X.prog X.w X.K X.mg X.base x k ps sp) (hr:Hs k' X.A) (ha:PA X (e::es) t) (hk:k<=k':=by decide)
  (hg:Gl X x:=by rfl) (hdb:(x == ("__debug__":Str))=false:=by decide) (he:starEach (e::es) X.env=(false,eval e X.env)::starEach es X.env:=by rfl) (hpl:(backTo pos (starEach es X.env)).any (·.1)=false:=by rfl) :
  PE X (.Call (.Name x p) (e::es) [] pos) (Ni sp [] E0 t):=by
 intro jb s Z H Q I h;obtain⟨f,fd,m,kp,b,len,run⟩:=g.ex;refine QaT (Hj I hg m ?_ hdb);refine callWith_K (h₀:=X.base) I.ok.mod.kin kp (thn (ha pos jb s Z H _ I h) λus s1 zz=>?_) he hpl;obtain⟨vs,H1,I1,r,q⟩:=zz;refine⟨I1.kIn,?_⟩;have q:sp (vs++[]) H1 Q E0:=q;rw[Qby] at q;have hl:us.length=ps.length:=by rw[<-r.length];exact len _ _ _ _ q
 have bd:=b s1 us I1.kIn (by rw[Qby];exact hl);rw[Qby] at bd;refine wpAny_call (QbY (run X.A X.stack s1 H1 ⟨us,[]⟩ us vs Q (hr.mono hk) I1.env0 bd r q) λrr s' hq=>?_);cases rr with
 | error ev=>exact False.elim hq
 | ok fl=>
  cases fl with
  | ret u=>exact I1.after hq
  | next=>exact False.elim hq
  | brk=>exact False.elim hq
  | cont=>exact False.elim hq
@[irreducible] def VF (K:YD):YG->Hp->VK->Prop:=λxs H Q=>∃a D C b,xs=[.ref a,.ref D]/\H a=some (xo a C)/\XCl K C/\kitOne K (.ref C) (.ref D)=some b/\Q (.bl b) H
theorem Cz {X:Cx}:Dj X (.builtin "isinstance") (VF X.K):=by
 intro jb s Z H xs us Q I r h;unfold VF at h;obtain⟨a,D,C,b,rfl,ea,T,k,q⟩:=h;obtain⟨u,w',rfl,rx,rt⟩:=vals2 r;cases rx;cases rt;exact Og I T ea k λtk=>⟨.bl b,H,I.tok tk,rq,q⟩
@[irreducible] def Qs (K:YD):YG->Hp->VK->Prop:=λxs H Q=>∃a T C b,xs=[.ref a,.ty T]/\H a=some (xo a C)/\XCl K C/\kitOne K (.ref C) (.type T)=some b/\Q (.bl b) H
theorem Y0 {X:Cx}:Dj X (.builtin "isinstance") (Qs X.K):=by
 intro jb s Z H xs us Q I r h;unfold Qs at h;obtain⟨a,T,C,b,rfl,ea,TC,k,q⟩:=h;obtain⟨u,w',rfl,rx,rt⟩:=vals2 r;cases rx;cases rt;exact Og I TC ea k λtk=>⟨.bl b,H,I.tok tk,rq,q⟩
end L2
namespace L2
open PySem PySem.Spec PyProof.Rows PySem.SeqAt
theorem Bh {c:Const} {k:Nat} {p:Pos} {es:YJ} {env:Env}:starEach (.Constant c k p::es) env=(false,eval (.Constant c k p) env)::starEach es env:=by rfl
theorem Xj {as:YJ} {k:Nat} {p:Pos} {es:YJ} {env:Env}:starEach (.Tuple as k p::es) env=(false,eval (.Tuple as k p) env)::starEach es env:=by rfl
def isT:Value->Bool
 | .bool b=>b
 | _=>false
theorem Tn:∀{bs:List Bool} {us:YE},Vals (bs.map V.bl) us->us=bs.map Value.bool
 | [],_,.nil=>rfl
 | b::bs,_,.cons r t=>by
  cases (show _=Value.bool b from r)
  rw[Tn t];rfl
section
variable {X:Cx}
@[irreducible] def Lx:V->YG->Hp->VK->Prop:=λx xs H Q=>∃(l:Addr) (bs:List Bool),x=.ref l/\xs=[.bl true]/\H l=some (.lst (bs.map V.bl))/\Q (.int ((bs.countP id:Nat):Int)) H
theorem eqT {A:Around} {s:Shared} {bs:List Bool}:∀y,y∈(bs.map Value.bool).toArray->EqAt A s y (.bool true) (isT y):=λy hy=>by
 have hy':y∈bs.map Value.bool:=by simpa using hy
 obtain⟨b,_,rfl⟩:=QbV.mp hy';have:=EqAt.bool_bool (A:=A) (s:=s) b true;rw[show (b == true)=isT (.bool b) by cases b <;> rfl] at this;exact this
theorem YS {l:Addr} {bs:List Bool} {H:Hp} {Q:VK} (h:H l=some (.lst (bs.map V.bl))) (q:Q (.int ((bs.countP id:Nat):Int)) H):Lx (.ref l) [.bl true] H Q:=by
 unfold Lx;exact⟨l,bs,rq,rq,h,q⟩
theorem X3:MtM X "list.count" Lx:=by
 intro jb s Z H x vs v us Q I rx rv h;unfold Lx at h;obtain⟨l,bs,rfl,rfl,hH,q⟩:=h;cases rx;obtain⟨u,rfl,ru⟩:=rv.one;cases (show _=Value.bool true from ru)
 obtain⟨z,its,n,r,hl,e⟩:=I.Jw hH;have hi:=Tn r;subst hi;refine call_meets F.slot_list_count ⟨_,e,rq⟩ F.entry_list_count (F.args_list_count_2 _ _) (list_countAt l (bs.map Value.bool).toArray n none #[] (.bool true) isT) ⟨e,eqT,?_⟩;refine⟨.int ((bs.countP id:Nat):Int),H,I.tok _,⟨s.toks,?_⟩,q⟩;have hc:(bs.map Value.bool).countP isT=bs.countP id:=by
  rw[List.countP_map];congr 1
 simp only[hc]
@[irreducible] def Lw:V->YG->Hp->VK->Prop:=λx xs H Q=>∃(l:Addr) (bs:List Bool) (j:Nat),x=.ref l/\xs=[.bl true]/\H l=some (.lst (bs.map V.bl))/\j<=1000/\bs[j]?=some true/\(∀m,m < j->bs[m]?=some false)/\Q (.int (j:Int)) H
theorem Yl {l:Addr} {bs:List Bool} {j:Nat} {H:Hp} {Q:VK} (h:H l=some (.lst (bs.map V.bl))) (h1:j<=1000) (h2:bs[j]?=some true) (h3:∀m,m < j->bs[m]?=some false) (q:Q (.int (j:Int)) H):Lw (.ref l) [.bl true] H Q:=by
 unfold Lw;exact⟨l,bs,j,rq,rq,h,h1,h2,h3,q⟩
theorem XS:MtM X "list.index" Lw:=by
 intro jb s Z H x vs v us Q I rx rv h;unfold Lw at h;obtain⟨l,bs,j,rfl,rfl,hH,hj1,hj,hno,q⟩:=h;cases rx;obtain⟨u,rfl,ru⟩:=rv.one;cases (show _=Value.bool true from ru)
 obtain⟨z,its,n,r,hl,e⟩:=I.Jw hH;have hi:=Tn r;subst hi;have hjl:j < bs.length:=(Qah.mp hj).1;have hj2:j < (bs.map Value.bool).toArray.size:=by simpa using hjl
 have hit:isT ((bs.map Value.bool).toArray[j]'hj2)=true:=by
  have h1:bs[j]=true:=(Qah.mp hj).2;simp[h1,isT]
 have hn:∀m (hm:m < (bs.map Value.bool).toArray.size),m < j->isT (bs.map Value.bool).toArray[m]=false:=λm hm hmj=>by
  have h1:=(Qah.mp (hno m hmj)).2;simp[h1,isT]
 refine call_meets F.slot_list_index ⟨_,e,rq⟩ F.entry_list_index (F.args_list_index_2 _ _) (list_indexAt l (bs.map Value.bool).toArray n none #[] (.bool true) isT j hj2 (Int.lt_of_le_of_lt (b:=1000) (by omega) (by trivial)) hit hn) ⟨e,eqT,?_⟩;exact⟨.int (j:Int),H,I.tok _,⟨_,rq⟩,q⟩
end
theorem DX {K:YD} {a D C:Addr} {b:Bool} {H:Hp} {Q:VK} (h:H a=some (xo a C)) (T:XCl K C) (k:kitOne K (.ref C) (.ref D)=some b) (q:Q (.bl b) H):VF K [.ref a,.ref D] H Q:=by
 unfold VF;exact⟨a,D,C,b,rq,h,T,k,q⟩
theorem iz {K:YD} {a C:Addr} {T:String} {b:Bool} {H:Hp} {Q:VK} (h:H a=some (xo a C)) (TC:XCl K C) (k:kitOne K (.ref C) (.type T)=some b) (q:Q (.bl b) H):Qs K [.ref a,.ty T] H Q:=by
 unfold Qs;exact⟨a,T,C,b,rq,h,TC,k,q⟩
section
variable {prog:Program} {w:World} {A:Around} {E:YA} {s:Shared}
end
end L2
namespace L2
open PySem PySem.Spec PyProof.Rows
section
variable {X:Cx} {jb:YC} {Z : St} {H:Hp} {s:Shared} {a:Addr} {kvs:YM} {o:Obj}
end
section
variable {a l:Addr} {o:Obj} {kvs:YM} {g:TG} {tb:TS} {D:Ends} {Z : St} {H:Hp} {tt:TT} {te tk tv:TE} {Q:VK}
end
open PySem.W (KasT kas_asc kas_desc kas_rev kas_tail3 kas_descPart kas_count kas_place kas_bin kas_sort)
def Ep {α : Type} (n:Nat) (P:α->Prop):KasT α->Prop
 | .ret a=>P a
 | .ask i j k=>i < n/\j < n/\∀b,Ep n P (k b)
theorem GK {α β : Type} {n:Nat} {P:α->Prop} {Q:β->Prop} {f:α->KasT β}:∀t:KasT α,Ep n P t->(∀a,P a->Ep n Q (f a))->Ep n Q (t.bind f)
 | .ret a,h,q=>q a h
 | .ask i j k,h,q=>⟨h.1,h.2.1,λb=>GK (k b) (h.2.2 b) q⟩
def Pm (n:Nat) (p:Array Nat):Prop:=p.toList.Perm (List.range n)
theorem Pm.rev {n:Nat} {p:Array Nat} (h:Pm n p) (i j:Nat):Pm n (kas_rev p i j):=(Array.perm_iff_toList_perm.mp (mirror_perm p i j ((j - i) / 2))).trans h
theorem Pm.bub {n:Nat} {p:Array Nat} (h:Pm n p) (k d:Nat):Pm n (bubble p k d):=(Array.perm_iff_toList_perm.mp (bubble_perm p k d)).trans h
theorem Pm.lt {n:Nat} {p:Array Nat} (h:Pm n p) (n0:0 < n) (i:Nat):p.getD i 0 < n:=by
 by_cases hi:i < p.size
 ·have e:p.getD i 0=p[i]:=by simp[hi]
  rw[e];have hm:p[i]∈p.toList:=by simp
  exact List.mem_range.mp (h.mem_iff.mp hm)
 ·have e:p.getD i 0=0:=by simp[hi]
  rw[e];exact n0
section
variable {n:Nat} (n0:0 < n)
include n0
theorem Px {p:Array Nat} (h:Pm n p):∀f k,Ep n (λ_=>True) (kas_asc p f k)
 | 0,k=>trivial
 | f+1,k=>⟨h.lt n0 _,h.lt n0 _,λb=>by
  cases b with
  | true=>exact trivial
  | false=>exact Px h f (k+1)⟩
theorem Kr:∀f (p:Array Nat),Pm n p->∀k q,Ep n (λr:Array Nat×Nat×Nat=>Pm n r.1) (kas_desc f p k q)
 | 0,p,h,k,q=>h
 | f+1,p,h,k,q=>⟨h.lt n0 _,h.lt n0 _,λb=>by
  cases b with
  | true=>
   show Ep n _ (if q > 0 then kas_desc f (kas_rev p (k - (q+1)) k) (k+1) 0 else kas_desc f p (k+1) 0)
   split
   ·exact Kr f _ (h.rev _ _) _ _
   ·exact Kr f _ h _ _
  | false=>exact⟨h.lt n0 _,h.lt n0 _,λd=>by
    cases d with
    | true=>exact h
    | false=>exact Kr f _ h _ _⟩⟩
theorem Tp {p:Array Nat} (h:Pm n p) (a b:Nat):Ep n (λr:Nat×Array Nat=>Pm n r.2) (kas_tail3 a b p):=
 GK _ (Px n0 (h.rev 0 a) _ _) λm _=>h.rev 0 a
theorem Lk {p:Array Nat} (h:Pm n p) (a b:Nat):Ep n (λr:Nat×Array Nat=>Pm n r.2) (kas_descPart a b p):=
 GK _ (Kr n0 _ p h _ _) λr hr=>by
  show Ep n _ (if r.2.2 > 0 then _ else _)
  split
  ·exact Tp n0 (Pm.rev hr _ _) _ _
  ·exact Tp n0 hr _ _
theorem Qf {p:Array Nat} (h:Pm n p) (a:Nat):Ep n (λr:Nat×Array Nat=>Pm n r.2) (kas_count a p):=
 GK _ (Px n0 h _ _) λm _=>by
  show Ep n _ (if (m == a)=true then _ else if m > 1 then _ else _)
  split
  ·exact h
  ·split
   ·refine⟨h.lt n0 _,h.lt n0 _,λb=>?_⟩;cases b with
    | true=>exact h
    | false=>exact Lk n0 (h.rev _ _) _ _
   ·exact Lk n0 h _ _
theorem Lj {p:Array Nat} (h:Pm n p) (k:Nat):∀f l r,Ep n (λ_=>True) (kas_place p k f l r)
 | 0,_,_=>trivial
 | f+1,l,r=>by
  show Ep n _ (if l ≥ r then _ else _)
  split
  ·exact trivial
  ·refine⟨h.lt n0 _,h.lt n0 _,λb=>?_⟩;cases b with
   | true=>exact Lj h k f _ _
   | false=>exact Lj h k f _ _
theorem Vm:∀f (p:Array Nat),Pm n p->∀k,Ep n (Pm n) (kas_bin f p k)
 | 0,p,h,_=>h
 | f+1,p,h,k=>GK _ (Lj n0 h k _ _ _) λl _=>Vm f _ (h.bub _ _) _
theorem Tq:Ep n (Pm n) (kas_sort n):=
 GK _ (Qf n0 (p:=List.toArray (List.range n)) (show Pm n _ by unfold Pm;exact List.Perm.refl _) n) λr hr=>by
  show Ep n _ (if r.1 < n then _ else _)
  split
  ·exact Vm n0 _ _ hr _
  ·exact hr
end
section
variable {prog:Program} {w:World} {A:Around} {E:YA} {s:Shared}
theorem KR {l:Addr} {vs:YE} {Q:YA} (hl:s.heap.IsList l vs.toArray) (h1:vs.length < 2)
  (h:∀D h' c,s.heap.objs.size<=D->h'.get? D=some (seqObj "list" vs.toArray c)->(∀b o,s.heap.get? b=some o->h'.get? b=some o)->Q (.ref D) { s with heap:=h' }):wpAny (model prog w) A (call (.builtin "sorted") [.ref l]) Q E s:=by
 have h2:vs.toArray.size < 2:=by rw[QaZ];exact h1
 have hz:vs.length<=sizeLine:=QbW (Aq (by omega));refine Calls.call_function_entry (Q:=Q) kind_sorted plain_sorted entry_sorted (args_sorted1 (.ref l)) ?_;unfold Builtin.«sorted»;refine Qcb (m:=checkCount "sorted" 1 1 [Value.ref l].length) (Qcc ?_);refine Qcb (collect_list (vs:=vs) hl ?_ hz);have k1:∀b o,s.heap.get? b=some o->((s.heap.push (seqObj "list" #[] 0)).update s.heap.objs.size (Obj.mapSeq (·++vs.toArray))).get? b=some o:=λb o q=>by
  rw[Qar _ _ (Nat.ne_of_gt (QbS q))];exact Qaq _ q
 have z1:((s.heap.push (seqObj "list" #[] 0)).update s.heap.objs.size (Obj.mapSeq (·++vs.toArray))).objs.size=s.heap.objs.size+1:=by rw[Heap.size_update,QbI]
 generalize ((s.heap.push (seqObj "list" #[] 0)).update s.heap.objs.size (Obj.mapSeq (·++vs.toArray)))=g1 at k1 z1;refine Qcb (wpAny_newList ?_ hz);have oD:(g1.push (seqObj "list" vs.toArray 0)).get? g1.objs.size=some (seqObj "list" vs.toArray 0):=QaF _ rfl;have k2:∀b o,s.heap.get? b=some o->b≠g1.objs.size/\(g1.push (seqObj "list" vs.toArray 0)).get? b=some o:=λb o q=>⟨by rw[z1];exact QbT (Nat.lt_succ_of_lt (QbS q)),Qaq _ (k1 b o q)⟩;refine Qcb (QbP (Qbl slot_list_sort ⟨_,oD,rq⟩ entry_list_sort ?_ (args_list_sort _)));rw[list_sort_plain];have zD:s.heap.objs.size<=g1.objs.size:=by rw[z1];exact Nat.le_succ _
 generalize g1.objs.size=D at oD k2 zD;generalize hg2:g1.push (seqObj "list" vs.toArray 0)=g2 at oD k2;refine Qcb (listItems_at (a:=D) oD rfl ?_);refine Qcb (listUpdate_at (a:=D) oD rfl ?_ (by rw[QaZ];exact hz) (Qca _));obtain⟨e1,o1⟩ : ∃e1,(g2.update D (Obj.mapSeq λ_=>(#[]:Array Value))).get? D=some (seqObj "list" #[] e1):=⟨_,get?_update_seq oD λ_=>#[]⟩;have k3:∀b o,s.heap.get? b=some o->b≠D/\(g2.update D (Obj.mapSeq λ_=>(#[]:Array Value))).get? b=some o:=λb o q=>⟨(k2 b o q).1,by rw[Qar _ _ (Ne.symm (k2 b o q).1)];exact (k2 b o q).2⟩;have zip2:(arrOf (SortSt.mk' general' (vs.toArray.zip vs.toArray) #[] 7 none)).map (·.2)=vs.toArray:=by
  show (vs.toArray.zip vs.toArray).map (·.2)=vs.toArray;apply Array.toList_inj.mp;simp[Array.toList_zip,List.map_snd_zip]
 dsimp only;generalize g2.update D (Obj.mapSeq λ_=>(#[]:Array Value))=g3 at o1 k3 ⊢;refine Qcb (seqEpoch_at (a:=D) o1 rfl ?_);refine Qcb (wpAny_newTuple ?_ (by simpa using hz));refine Qcb (wpAny_newList (items:=[]) ?_ (Qca _));refine QbP ?_;have o5:∀x y:Obj,((g3.push x).push y).get? D=some (seqObj "list" #[] e1):=λx y=>Qaq _ (Qaq _ o1);have k5:∀x y:Obj,∀b o,s.heap.get? b=some o->b≠D/\((g3.push x).push y).get? b=some o:=λx y b o q=>⟨(k3 b o q).1,Qaq _ (Qaq _ (k3 b o q).2)⟩;dsimp only;rw[if_pos h2,if_pos h2];refine Qcb (Qcc ?_);rw[StateT.run_pure];refine Qcb (Qcc ?_);dsimp only;refine Qcb (seqEpoch_at (a:=D) (o5 _ _) rfl ?_);rw[zip2];refine Qcb (listUpdate_at (a:=D) (o5 _ _) rfl ?_ (Qca _) (by first | (rw[QaZ];exact hz) | (rw[QaZ];omega)))
 simp only[bne_self_eq_false,Bool.false_eq_true,if_false];obtain⟨c,oF⟩ : ∃c,(((g3.push { cls:=.type "tuple",data:=.seq vs.toArray }).push { cls:=.type "list",data:=.seq #[] }).update D (Obj.mapSeq λ_=>vs.toArray)).get? D=some (seqObj "list" vs.toArray c):=⟨_,get?_update_seq (o5 _ _) λ_=>vs.toArray⟩;refine Qcc ⟨_,rq,Qcc ⟨_,rq,h D _ c zD oF λb o q=>?_⟩⟩;rw[Qar _ _ (Ne.symm (k3 b o q).1)];exact (k5 _ _ b o q).2
end
theorem gR {h:Heap} {a:Addr} {m m':YB} (x:h.Ns a m) (y:h.Ns a m'):m=m':=by
 obtain⟨o,es,ep,h1,h2,_,h3⟩:=x;obtain⟨o',es',ep',g1,g2,_,g3⟩:=y;rw[h1] at g1;cases g1;rw[h2] at g2;cases g2
 funext k
 rw[<-h3,<-g3]
theorem Jt {α β : Type} (d:α) (e:β):∀{vs:List α} {its:List β} {F:α->β->Prop} {is:List Nat},Paired F vs its->(∀i∈is,i < vs.length)->Paired F (is.map λi=>vs.getD i d) (is.map λi=>its.getD i e)
 | vs,its,F,[],_,_=>.nil
 | vs,its,F,i::is,r,h=>by
  refine .cons ?_ (Jt d e r λj hj=>h j (QaA _ hj));have hi:=h i (QaQ ..);have go:∀{l:List α} {m:List β} {i:Nat},Paired F l m->i < l.length->F (l.getD i d) (m.getD i e):=by
   intro l m i r
   induction r generalizing i with
   | nil=>intro h;exact absurd h (Nat.not_lt_zero _)
   | cons a t ih=>
    intro h;cases i with
    | zero=>exact a
    | succ i=>exact ih (Nat.lt_of_succ_lt_succ h)
  exact go r hi
theorem range_getD {α : Type} (d:α) (vs:List α):(List.range vs.length).map (λi=>vs.getD i d)=vs:=by
 apply List.ext_getElem
 ·simp
 ·intro i h1 h2;simp[h2]
end L2
namespace L2
open PySem PySem.Spec PyProof.Rows
structure Ce (P:Program) (w:World) (K:YD) (mg:YB) (base:Heap) (C:Addr) (m:Str) (k:Nat) (ps:YF) (sp:Sp):Prop where
 ex:∃(f:Addr) (fd:FuncData),Meth K C m f/\Binds K fd ps []/\DK P w K mg base (CX1 P w) k f fd ps sp
theorem Cu.Mf {P:Program} {w:World} {K:YD} {mg:YB} {base:Heap} {C:Addr} {m qn:Str} {st:Stmt} {ps N:YF} {k:Nat} {sp:Sp} (c:Cu K C m qn st ps) (S:Ba N ps (Ae st)) (len:∀vs H Q E,sp vs H Q E->vs.length=ps.length)
  (hbody:∀(X:Cx) (f:Addr) (cdv:Value) (A:Around) (outer:List Env) (s:Shared) (H:Hp) (vs:YG) (Q:VK) (E:XK),X=Ih (CX1 P w) P w K mg base N qn (Ae st) f cdv A outer s H E->Ku X (λ_=>E)->Br k X.A->sp vs H Q E ->
   ∃t,PSs X (Av st) t/\t { nx:=λ_ H'=>Q .non H',rt:=Q } (start N vs) H):Ce P w K mg base C m (k+1) ps sp:=by
 obtain⟨f,fd,F,M,b⟩:=c.ex;refine⟨f,fd,M,b,?_⟩;obtain⟨oc,od,kV,doc,pm,an,cdv,ct,osl,rfl,lk,hcd⟩:=F.ex;exact fD lk hcd S len λA outer s H vs Q E hr hsp=>hbody _ f cdv A outer s H vs Q E rfl ZM hr hsp
def jg (C:Addr) (m:Str) (sp:Sp) (EX:St->XK) (ta:TE) (t:TA):TE:=fun Z H Q=>ta Z H λx H1=>∃a dx fs,x=.ref a/\H1 a=some (.ins C dx fs)/\fs.lookup m=none/\t Z H1 λvs H2=>sp (x::vs) H2 Q (EX Z)
theorem Ds {X:Cx} {EX:St->XK} {pl:Sem Bool} {k k':Nat} {C:Addr} {ps:YF} {sp:Sp} {m:Str} {apos pos:Pos} {o e:Expr} {es:YJ} {ta:TE} {t:TA} (he0:PE X o ta) (c:Cls X.K C) (g:Ce X.prog X.w X.K X.mg X.base C m k ps sp) (hr:Br k' X.A) (hx:Ku X EX) (ha:PA X (e::es) t) (hk:k<=k':=by decide)
  (hst:starEach (e::es) X.env=(false,eval e X.env)::starEach es X.env:=by rfl) (hpl:(backTo pos (starEach es X.env)).any (·.1)=false:=by rfl)
  (ht:eval (.Call (.Attribute o m apos) (e::es) [] pos) X.env=(do
   let ov <-eval o X.env
   standAt apos.atName
   let (f,first) <-holding [ov] (getMethod ov m pl)
   callWith pos f first (backTo pos (starEach (e::es) X.env)) (backToKw pos (keywordEach [] X.env))):=by rfl) :
  PE X (.Call (.Attribute o m apos) (e::es) [] pos) (jg C m sp EX ta t):=by
 intro jb s Z H Q I h;obtain⟨f,fd,hm,b,F⟩:=g.ex;refine methodCall_KW (pl:=pl) (thn (he0 jb s Z H _ I h) λu s1 zz=>?_) ht;obtain⟨x,H1,I1,rx,a,dx,fs,ex,ea,l,q⟩:=zz;subst ex;obtain rfl:u=Value.ref a:=rx;refine Ip I1 ea c hm l ?_;refine callWith_K (first:=[.ref a]) (h₀:=X.base) I.ok.mod.kin hm.kp (thn (ha pos jb s1 Z H1 _ I1 q) λus s2 zz=>?_) hst hpl
 obtain⟨vs,H2,I2,r,q2⟩:=zz;refine⟨I2.kIn,?_⟩;have r':Vals (.ref a::vs) (Value.ref a::us):=.cons rfl r;have hl:(Value.ref a::us).length=ps.length:=by rw[<-r'.length];exact F.len _ _ _ _ q2
 have bd:=b s2 (Value.ref a::us) I2.kIn (by rw[Qby];exact hl);rw[Qby] at bd;refine wpAny_call (QbY (F.run X.A X.stack s2 H2 ⟨Value.ref a::us,[]⟩ (Value.ref a::us) (.ref a::vs) Q (EX Z) (hr.mono hk) I2.env0 bd r' q2) λrr s' hq=>?_);cases rr with
 | error ev=>exact hx jb Z H2 s2 ev s' I2 hq
 | ok fl=>
  cases fl with
  | ret u=>exact I2.after hq
  | next=>exact False.elim hq
  | brk=>exact False.elim hq
  | cont=>exact False.elim hq
open PySem.W (KasT kas_asc kas_desc kas_rev kas_tail3 kas_descPart kas_count kas_place kas_bin kas_sort)
def Dk {α : Type} (lt:Nat->Nat->Bool):KasT α->α
 | .ret a=>a
 | .ask i j k=>Dk lt (k (lt i j))
theorem GJ {α β : Type} {lt:Nat->Nat->Bool} {f:α->KasT β}:∀t:KasT α,Dk lt (t.bind f)=Dk lt (f (Dk lt t))
 | .ret a=>rfl
 | .ask i j k=>GJ (k (lt i j))
theorem M5 {α : Type} {lt:Nat->Nat->Bool} {n:Nat} {P:α->Prop}:∀t:KasT α,Ep n P t->P (Dk lt t)
 | .ret a,h=>h
 | .ask i j k,h=>M5 (k (lt i j)) (h.2.2 _)
theorem U0 {α : Type} {lt:Nat->Nat->Bool} {n:Nat} {P:α->Prop} {Q:α->Shared->Prop} {s:Shared} {cmp:Nat->Nat->(Bool->Shared->Prop)->Shared->Prop} (hc:∀i j C,i < n->j < n->C (lt i j) s->cmp i j C s):∀t:KasT α,Ep n P t->Q (Dk lt t) s->t.kasWp cmp Q s
 | .ret a,h,q=>q
 | .ask i j k,h,q=>hc i j _ h.1 h.2.1 (U0 hc (k (lt i j)) (h.2.2 _) q)
section
variable {n:Nat} {ky:Nat->Int}
def Gk (ky:Nat->Int) (p:Array Nat) (i:Nat):Int:=ky (p.getD i 0)
def ltK (ky:Nat->Int) (i j:Nat):Bool:=decide (ky i < ky j)
def Inj (n:Nat) (ky:Nat->Int):Prop:=∀i j,i < n->j < n->ky i=ky j->i=j
def Py (ky:Nat->Int) (p:Array Nat) (m:Nat):Prop:=∀i,i+1 < m->Gk ky p i < Gk ky p (i+1)
def Fall (ky:Nat->Int) (p:Array Nat) (m:Nat):Prop:=∀i,i+1 < m->Gk ky p (i+1) < Gk ky p i
def Ht (ky:Nat->Int) (p:Array Nat) (m:Nat):Prop:=∀i j,i < j->j < m->Gk ky p i < Gk ky p j
theorem Py.all {p:Array Nat} {m:Nat} (h:Py ky p m):Ht ky p m:=λi j hij hj=>by
 induction j with
 | zero=>omega
 | succ j ih=>
  have h1:=h j hj;by_cases e:i=j
  ·rw[e];exact h1
  ·exact Int.lt_trans (ih (by omega) (by omega)) h1
theorem XQ {α : Type} {l:List α} (nd:l.Nodup) {i j:Nat} (hi:i < l.length) (hj:j < l.length) (e:l[i]=l[j]):i=j:=by
 rcases Nat.lt_trichotomy i j with h | h | h
 ·exact absurd e (List.pairwise_iff_getElem.mp nd i j hi hj h)
 ·exact h
 ·exact absurd e.symm (List.pairwise_iff_getElem.mp nd j i hj hi h)
theorem Pm.size {p:Array Nat} (h:Pm n p):p.size=n:=by
 have:=List.Perm.length_eq h;simpa using this
theorem Pm.ne (hi:Inj n ky) {p:Array Nat} (h:Pm n p) {i j:Nat} (a:i < n) (b:j < n) (ne:i≠j):Gk ky p i≠Gk ky p j:=λe=>by
 have n0:0 < n:=by omega
 have hs:=h.size;have e:=hi _ _ (h.lt n0 i) (h.lt n0 j) e;have nd:p.toList.Nodup:=(List.Perm.nodup_iff h).mpr List.nodup_range;have e1:p.getD i 0=p.toList[i]'(by simp[hs,a]):=by simp[hs,a]
 have e2:p.getD j 0=p.toList[j]'(by simp[hs,b]):=by simp[hs,b]
 rw[e1,e2] at e;exact ne (XQ nd _ _ e)
theorem O5 (hi:Inj n ky) {p:Array Nat} (h:Pm n p):∀f k,1<=k->k+f<=n->Py ky p k->∃m,Dk (ltK ky) (kas_asc p f k)=m/\k<=m/\m<=k+f/\Py ky p m/\(m < k+f->Gk ky p m < Gk ky p (m - 1))
 | 0,k,_,_,r=>⟨k,rfl,QbZ _,QbZ _,r,λz=>absurd z (QbO _)⟩
 | f+1,k,h1,h2,r=>by
  show ∃m,Dk (ltK ky) (if ltK ky (p.getD k 0) (p.getD (k - 1) 0)=true then KasT.ret k else kas_asc p f (k+1))=m/\_
  by_cases c:Gk ky p k < Gk ky p (k - 1)
  ·rw[if_pos (show ltK ky _ _=true from QbH c)]
   exact⟨k,rq,QbZ _,by omega,r,λ_=>c⟩
  ·rw[if_neg (show ¬ltK ky _ _=true from λz=>c (Qbd z))]
   obtain⟨m,e,a,b,d,g⟩:=O5 hi h f (k+1) (by omega) (by omega) (λi hi'=>by
    by_cases e:i+1=k
    ·have:=h.ne hi (i:=i) (j:=i+1) (by omega) (by omega) (by omega);have c:¬Gk ky p (i+1) < Gk ky p i:=by rw[<-e] at c;exact c
     omega
    ·exact r i (by omega))
   exact⟨m,e,by omega,by omega,d,λz=>g (by omega)⟩
theorem Q5 (hi:Inj n ky) {p:Array Nat} (h:Pm n p):∀f k,1<=k->k+f<=n->Fall ky p k->∃m,Dk (ltK ky) (kas_desc f p k 0)=(p,m,0)/\k<=m/\m<=k+f/\Fall ky p m
 | 0,k,_,_,r=>⟨k,rfl,QbZ _,QbZ _,r⟩
 | f+1,k,h1,h2,r=>by
  show ∃m,Dk (ltK ky) (if ltK ky (p.getD k 0) (p.getD (k - 1) 0)=true then (if 0 > 0 then kas_desc f (kas_rev p (k - (0+1)) k) (k+1) 0 else kas_desc f p (k+1) 0) else KasT.ask (p.getD (k - 1) 0) (p.getD k 0) λd=>if d=true then KasT.ret (p,k,0) else kas_desc f p (k+1) (0+1))=(p,m,0)/\_
  by_cases c:Gk ky p k < Gk ky p (k - 1)
  ·rw[if_pos (show ltK ky _ _=true from QbH c),if_neg (QbO 0)]
   obtain⟨m,e,a,b,d⟩:=Q5 hi h f (k+1) (by omega) (by omega) (λi hi'=>by
    by_cases e:i+1=k
    ·rw[<-e] at c;exact c
    ·exact r i (by omega))
   exact⟨m,e,by omega,by omega,d⟩
  ·rw[if_neg (show ¬ltK ky _ _=true from λz=>c (Qbd z))]
   have ne:=h.ne hi (i:=k) (j:=k - 1) (by omega) (by omega) (by omega);show ∃m,Dk (ltK ky) (if ltK ky (p.getD (k - 1) 0) (p.getD k 0)=true then KasT.ret (p,k,0) else kas_desc f p (k+1) (0+1))=(p,m,0)/\_
   rw[if_pos (show ltK ky _ _=true from QbH (show Gk ky p (k - 1) < Gk ky p k by omega))]
   exact⟨k,rq,QbZ _,by omega,r⟩
theorem Qz {p q:Array Nat} {i j:Nat} (e:p[i]?=q[j]?):Gk ky p i=Gk ky q j:=by
 unfold Gk;rw[Array.getD_eq_getD_getElem?,Array.getD_eq_getD_getElem?,e]
theorem Za {p:Array Nat} {m i:Nat} (hm:m<=p.size) (hi:i < m):Gk ky (kas_rev p 0 m) i=Gk ky p (m - 1 - i):=by
 apply Qz;unfold kas_rev;rw[getElem?_mirror_all hm,if_pos ⟨Qca _,hi⟩];congr 1;omega
theorem Zb {p:Array Nat} {k l i:Nat} (hk:k < p.size) (hl:l<=k):Gk ky (bubble p k (k - l)) i=if i=l then Gk ky p k else if l < i/\i<=k then Gk ky p (i - 1) else Gk ky p i:=by
 have e:=getElem?_bubble hk (k - l) (by omega) i;rw[show k - (k - l)=l by omega] at e;split at e
 ·rename_i h;rw[if_pos h];exact Qz e
 ·rename_i h;rw[if_neg h];split at e
  ·rename_i h;rw[if_pos h];exact Qz e
  ·rename_i h;rw[if_neg h];exact Qz e
def Done (n:Nat) (ky:Nat->Int) (r:Nat×Array Nat):Prop:=1<=r.1/\r.1<=n/\Py ky r.2 r.1
theorem Zm (hi:Inj n ky) {p:Array Nat} (h:Pm n p) {m:Nat} (h1:1<=m) (h2:m<=n) (f:Fall ky p m):Done n ky (Dk (ltK ky) (kas_tail3 m n p)):=by
 have hs:=h.size;have r0:Py ky (kas_rev p 0 m) m:=λi hi'=>by
  rw[Za (by omega) (by omega),Za (by omega) (by omega)];have:=f (m - 1 - (i+1)) (by omega);rw[show m - 1 - (i+1)+1=m - 1 - i by omega] at this;exact this
 obtain⟨k,e,a,b,d,_⟩:=O5 hi (h.rev 0 m) (n - m) m h1 (by omega) r0;unfold kas_tail3;rw[GJ,e];exact⟨by show 1<=k;omega,by show k<=n;omega,d⟩
theorem Xo (hi:Inj n ky) {p:Array Nat} (h:Pm n p) (n0:2<=n):Done n ky (Dk (ltK ky) (kas_count n p)):=by
 obtain⟨m,e,a,b,d,g⟩:=O5 hi h (n - 1) 1 (QbZ _) (by omega) (λi hi'=>by omega);unfold kas_count;rw[GJ,e];by_cases c1:m=n
 ·rw[if_pos (by rw[c1];exact Qbr n)];exact⟨a,by show m<=n;omega,d⟩
 ·rw[if_neg (λz=>c1 (eq_of_beq z))];by_cases c2:m > 1
  ·rw[if_pos c2];show Done n ky (Dk (ltK ky) (if ltK ky (p.getD 0 0) (p.getD (m - 1) 0)=true then KasT.ret (m,p) else kas_descPart m n (kas_rev p 0 m)))
   rw[if_pos (show ltK ky _ _=true from QbH (d.all 0 (m - 1) (by omega) (by omega)))]
   exact⟨a,by show m<=n;omega,d⟩
  ·rw[if_neg c2];have m1:m=1:=by omega
   subst m1;have g:=g (by omega);obtain⟨k,e,a,b,d⟩:=Q5 hi h (n - (1+1)) (1+1) (by omega) (by omega) (λi hi'=>by
    have:i=0:=by omega
    subst this;exact g)
   unfold kas_descPart;rw[GJ,e];show Done n ky (Dk (ltK ky) (if 0 > 0 then _ else kas_tail3 k n p))
   rw[if_neg (QbO 0)];exact Zm hi h (by omega) (by omega) d
theorem KZ (hi:Inj n ky) {p:Array Nat} (h:Pm n p) {k:Nat} (hk:k < n) (R:Ht ky p k):∀f l r,r<=l+f->l<=r->r<=k->(∀i,i < l->Gk ky p i < Gk ky p k)->(∀i,r<=i->i < k->Gk ky p k < Gk ky p i)->∃m,Dk (ltK ky) (kas_place p k f l r)=m/\m<=k/\(∀i,i < m->Gk ky p i < Gk ky p k)/\∀i,m<=i->i < k->Gk ky p k < Gk ky p i
 | 0,l,r,h1,h2,h3,h4,h5=>⟨l,rfl,by omega,h4,λi a b=>h5 i (by omega) b⟩
 | f+1,l,r,h1,h2,h3,h4,h5=>by
  unfold kas_place;by_cases c:l ≥ r
  ·rw[if_pos c];exact⟨l,rq,by omega,h4,λi a b=>h5 i (by omega) b⟩
  ·rw[if_neg c];show ∃m,Dk (ltK ky) (if ltK ky (p.getD k 0) (p.getD ((l+r) / 2) 0)=true then kas_place p k f l ((l+r) / 2) else kas_place p k f ((l+r) / 2+1) r)=m/\_
   have hm:(l+r) / 2 < r/\l<=(l+r) / 2:=by omega
   generalize (l+r) / 2=q at hm ⊢;by_cases d:Gk ky p k < Gk ky p q
   ·rw[if_pos (show ltK ky _ _=true from QbH d)]
    refine KZ hi h hk R f l q (by omega) (by omega) (by omega) h4 λi a b=>?_;by_cases e:i=q
    ·rw[e];exact d
    ·exact Int.lt_trans d (R q i (by omega) b)
   ·rw[if_neg (show ¬ltK ky _ _=true from λz=>d (Qbd z))]
    refine KZ hi h hk R f (q+1) r (by omega) (by omega) (by omega) (λi a=>?_) h5;have ne:=h.ne hi (i:=q) (j:=k) (by omega) (by omega) (by omega);have lt:Gk ky p q < Gk ky p k:=by omega
    by_cases e:i=q
    ·rw[e];exact lt
    ·exact Int.lt_trans (R i q (by omega) (by omega)) lt
theorem Ut (hi:Inj n ky):∀f (p:Array Nat),Pm n p->∀k,k+f=n->Ht ky p k->Ht ky (Dk (ltK ky) (kas_bin f p k)) n
 | 0,p,h,k,e,R=>by rw[<-e];exact R
 | f+1,p,h,k,e,R=>by
  have hs:=h.size;show Ht ky (Dk (ltK ky) ((kas_place p k k 0 k).bind λl=>kas_bin f (bubble p k (k - l)) (k+1))) n;rw[GJ];obtain⟨l,el,a,b,c⟩:=KZ hi h (k:=k) (by omega) R k 0 k (by omega) (Qca _) (QbZ _) (λi z=>absurd z (Nat.not_lt_zero _)) (λi x y=>by omega);rw[el];refine Ut hi f _ (h.bub _ _) (k+1) (by omega) λi j hij hj=>?_;rw[Zb (by omega) a,Zb (by omega) a];by_cases ei:i=l
  ·rw[if_pos ei,if_neg (by omega),if_pos ⟨by omega,by omega⟩];exact c _ (by omega) (by omega)
  ·rw[if_neg ei];by_cases ej:j=l
   ·rw[if_neg (by omega),if_pos ej];exact b _ (by omega)
   ·rw[if_neg ej];by_cases gi:l < i
    ·rw[if_pos ⟨gi,by omega⟩,if_pos ⟨by omega,by omega⟩];exact R _ _ (by omega) (by omega)
    ·rw[if_neg (λz=>gi z.1)];by_cases gj:l < j
     ·rw[if_pos ⟨gj,by omega⟩];exact R _ _ (by omega) (by omega)
     ·rw[if_neg (λz=>gj z.1)];exact R _ _ (by omega) (by omega)
theorem Zn (hi:Inj n ky) (n0:2<=n):Ht ky (Dk (ltK ky) (kas_sort n)) n:=by
 have h0:Pm n (List.toArray (List.range n)):=by unfold Pm;exact List.Perm.refl _
 obtain⟨a,b,c⟩:=Xo hi h0 n0;have hp:=M5 (lt:=ltK ky) _ (Qf (by omega) h0 n);unfold kas_sort;rw[GJ];generalize Dk (ltK ky) (kas_count n (List.toArray (List.range n)))=r at a b c hp;show Ht ky (Dk (ltK ky) (if r.1 < n then kas_bin (n - max r.1 1) r.2 (max r.1 1) else KasT.ret r.2)) n
 have em:max r.1 1=r.1:=by omega
 by_cases d:r.1 < n
 ·rw[if_pos d,em];exact Ut hi _ _ hp _ (by omega) c.all
 ·rw[if_neg d];have:r.1=n:=by omega
  rw[<-this];exact c.all
theorem Ht.list {p:Array Nat} (h:Pm n p) (R:Ht ky p n):(p.toList.map ky).Pairwise (· < ·):=by
 have hs:=h.size;rw[List.pairwise_iff_getElem];intro i j hi hj hij;have hi':i < n:=by simpa [hs] using hi
 have hj':j < n:=by simpa [hs] using hj
 have:=R i j hij hj';unfold Gk at this;have e1:p.getD i 0=p[i]'(by omega):=by simp[hs,hi']
 have e2:p.getD j 0=p[j]'(by omega):=by simp[hs,hj']
 rw[e1,e2] at this;simpa using this
end
theorem T5 {α β : Type} (d:α) (e:β) {F:α->β->Prop}:∀{l:List α} {m:List β} {i:Nat},Paired F l m->i < l.length->F (l.getD i d) (m.getD i e):=by
 intro l m i r
 induction r generalizing i with
 | nil=>intro h;exact absurd h (Nat.not_lt_zero _)
 | cons a t ih=>
  intro h;cases i with
  | zero=>exact a
  | succ i=>exact ih (Nat.lt_of_succ_lt_succ h)
section
variable {prog:Program} {w:World} {A:Around} {s:Shared}
end
end L2
namespace PySem
open Sem (wp)
open AutoSeq1 (wpAny_loadPart')
section
variable {prog:Program} {w:World} {A:Around} {E:YA} {s:Shared}
theorem Pn {e it l:Addr} {i:Nat} {j:Int} {items:Array Value} {old:Value} {Q:Option Value->Shared->Prop} (hh:A.handled=none) (he:IsEnum s.heap e it j old) (hit:s.heap.IsListIter it l i) (hl:s.heap.IsList l items) (hx:items[i]?=none)
  (hQ:∀h',Heap.ExtBut it s.heap h'->Q none { s with heap:=h' }):wpAny (model prog w) A (pyNext (.ref e)) Q E s:=by
 have hT:s.TypeIs (.ref e) "enumerate":=⟨_,he,rq⟩;unfold pyNext;refine Qcb (wpAny_attempt (Qao (name:=Str.ofString "__next__") hT F.slot_enumerate_next (Qbl F.slot_enumerate_next hT F.entry_enumerate_next ?_ (F.args_enumerate_next_1 _))));show wpAny _ _ (field (.ref e) 2 >>= _) _ _ _;refine Qcb (wpAny_field he rfl (x:=.ref it) rfl (Qcb (wpAny_nextOf_list_end hh hit hl hx λh' x he' hx'=>?_)));obtain⟨o,ho,hc⟩:=hx';exact Qcb (wpAny_isInstance (T:="StopIteration") (b:=true) ⟨o,ho,hc⟩ isSubtype_stop (Qcc (hQ _ he')))
end
end PySem
namespace L2
open PySem PySem.Spec PyProof.Rows
def Kv (K:YD) (a:Addr) (lo:Nat):It:=
 ⟨λi H=>∃xs x,SqL K H a xs/\xs[i]?=some x,λi H v H'=>∃p x,H p=none/\v=.ref p/\H'=upd H p (.tup [.int ((lo+i:Nat):Int),x])/\∀xs,SqL K H a xs->xs[i]?=some x,λi H=>∃xs,SqL K H a xs/\xs.length<=i⟩
theorem Vr {P:Program} {w:World} {K:YD} {elts:YJ} {k:Nat} {pos:Pos} (a e it:Addr) (lo:Nat) (nei:e≠it):Turn P w K (.Tuple elts k pos) (Kv K a lo) [e,it] e (λi h=>(∃old,IsEnum h e it ((lo+i:Nat):Int) old)/\h.IsListIter it a i) where
 mem:=by simp
 obj:=λi h st b hb=>by
  obtain⟨⟨old,he⟩,o,ho,hc,hd⟩:=st;rcases QbK.mp hb with rfl | hb
  ·exact⟨_,he,λv z=>by cases (show Data.fields _=Data.cell v from z)⟩
  ·have:b=it:=by simpa using hb
   subst this;exact⟨o,ho,λv z=>by rw[hd] at z;cases z⟩
 keep:=λi h h' st k=>by
  obtain⟨⟨old,he⟩,hi⟩:=st;exact⟨⟨old,k e (by simp) _ he⟩,hi.at λo q=>k it (by simp) o q⟩
 item:=by
  intro X hP hw hK hc i jb s Z H E I hf st hg;subst hP hw hK;obtain⟨xs,x,hq,hx⟩:=hg;obtain⟨its,rv,p,hz⟩:=I.list hq;obtain⟨u,hu,ru⟩:=rv.get hx;obtain⟨⟨old,he⟩,hit⟩:=st;have hts:s.heap.IsList a its.toArray:=p.isList;have ane:a≠e:=λz=>by
   obtain⟨o,ho,hcl,_⟩:=hts;rw[z,he] at ho;cases ho;injection hcl with q;exact absurd q (by decide)
  have ani:a≠it:=λz=>by
   obtain⟨o,ho,hcl,_⟩:=hts;obtain⟨o',ho',hcl',_⟩:=hit;rw[z,ho'] at ho;cases ho;rw[hcl'] at hcl;injection hcl with q;exact absurd q (by decide)
  have hlt:i < its.toArray.size:=by
   have:=(Qah.mp hu).1;simpa using this
  have D:=(Draws.list (prog:=X.prog) (w:=X.w) (A:=X.A.in1) (I.ok.hd hc) it a ani its.toArray).from lo;refine wpAny_pyNext_enum_itemD D he ⟨i,rq,QbW hlt,hit,hts⟩ (by omega) nei (by simp[nei,ane.symm]) λy h1 tk hP ho hst hT hsz hk=>?_;obtain⟨i',ei,hy⟩:=hP;have:i'=i:=by omega
  subst this;have ey:y=u:=by
   have h2:its.toArray[i']?=some u:=by simpa using hu
   rw[h2] at hy;exact (Qbx hy).symm
  subst ey;refine⟨_,rq,wpAny_letOwnedTupleGo_enum ho λh2 he2 hs2=>?_⟩;have hlt2:s.heap.objs.size≠e:=Nat.ne_of_gt (QbS he);have hT2:h2.get? s.heap.objs.size=some { cls:=.type "tuple",data:=.seq #[.int ((lo+i':Nat):Int) tk,y] }:=(hs2.2 _ hlt2).trans hT;have new:Bo X.prog X.w (upd H s.heap.objs.size (.tup [.int ((lo+i':Nat):Int),x])) h2 s.heap.objs.size (.tup [.int ((lo+i':Nat):Int),x]):=
   ⟨by show 2<=sizeLine;decide,[.int ((lo+i':Nat):Int) tk,y],.cons ⟨tk,rq⟩ (.cons ru .nil),_,hT2,rq,0,rq⟩
  have I1:=I.Xc (h':=h2) (t':=tk+1) (QbZ _) (λb q hb z=>(hs2.2 b (λw=>hb (by simp[w]))).trans (hk b q (λw=>hb (by simp[w])) (λw=>hb (by simp[w])) z)) hf new;refine⟨.ref s.heap.objs.size,_,I1,rq,⟨s.heap.objs.size,x,I.hok.fresh (QbZ _),rq,rq,λys hy'=>by rw[I.Ry hy' hq];exact hx⟩,⟨⟨y,?_⟩,?_⟩,λb hb=>?_⟩
  ·have:=he2;rw[show ((lo+(i'+1):Nat):Int)=((lo+i':Nat):Int)+1 by omega];exact this
  ·obtain⟨i2,e2,_,st2,_⟩:=hst;have:i2=i'+1:=by omega
   subst this;exact st2.at λo q=>(hs2.2 it (Ne.symm nei)).trans q
  ·have hb':b < s.heap.objs.size:=by
    rcases QbK.mp hb with rfl | hb
    ·exact QbS he
    ·have:b=it:=by simpa using hb
     subst this;obtain⟨o,ho',_⟩:=hit;exact QbS ho'
   rw[Al (QbT hb')];exact (hf b hb).1
 done:=by
  intro X hP hw hK hc i jb s Z H E I hf st hg;subst hP hw hK;obtain⟨xs,hq,hx⟩:=hg;obtain⟨its,rv,p,hz⟩:=I.list hq;obtain⟨⟨old,he⟩,hit⟩:=st;have hl:=rv.length;exact Pn (I.ok.hd hc) he hit p.isList (by simp;omega) λh' eb=>⟨rq,I.fP (t':=s.toks) (λb o hb q=>eb b o (λz=>hb (by simp[z])) q) hf⟩
 self:=λ_ _ _ _ _ st h=>let ⟨⟨_,he⟩,_⟩:=st;wpAny_pyIter_enum he h
section
variable {X:Cx}
theorem cU {jb:YC} {Z : St} {H:Hp} {s:Shared} {R:It->Hp->Prop} {E:YA} {elts:YJ} {k:Nat} {pos:Pos} {a:Addr} {lo:Nat} {tk:Nat} (I:Inv X jb Z H s) (q:R (Kv X.K a lo) H) :
  wpAny (model X.prog X.w) X.A (pyIter (.ref (s.heap.objs.size+1))) (PIE X jb Z (.Tuple elts k pos) R) E
   { s with heap:=(s.heap.push { cls:=.type "list_iterator",data:=.fields #[.ref a,.int 0 0] }).push { cls:=.type "enumerate",data:=.fields #[.none,.bool false,.ref s.heap.objs.size,rawInt (lo:Int),.none,.none] },toks:=tk }:=by
 have hz:(s.heap.push { cls:=.type "list_iterator",data:=.fields #[.ref a,.int 0 0] }).objs.size=s.heap.objs.size+1:=QbI ..;have he:IsEnum ((s.heap.push { cls:=.type "list_iterator",data:=.fields #[.ref a,.int 0 0] }).push { cls:=.type "enumerate",data:=.fields #[.none,.bool false,.ref s.heap.objs.size,rawInt (lo:Int),.none,.none] }) (s.heap.objs.size+1) s.heap.objs.size (lo:Int) .none:=by
  have:=QaF (s.heap.push { cls:=.type "list_iterator",data:=.fields #[.ref a,.int 0 0] }) (o:={ cls:=.type "enumerate",data:=.fields #[.none,.bool false,.ref s.heap.objs.size,rawInt (lo:Int),.none,.none] }) rfl;rw[hz] at this;exact this
 refine wpAny_pyIter_enum he ⟨s.heap.objs.size+1,[s.heap.objs.size+1,s.heap.objs.size],_,_,H,rq,I.kept (t':=tk) λb o e=>Qaq _ (Qaq _ e),Vr a (s.heap.objs.size+1) s.heap.objs.size lo (Nat.succ_ne_self _),⟨⟨.none,he⟩,⟨_,Qaq _ (QaF _ rfl),rq,rq⟩⟩,λb hb=>?_,q⟩;have hb':s.heap.objs.size<=b:=by
  simp only[QbK,Qbi,Qcf] at hb;rcases hb with rfl | rfl
  ·exact Nat.le_succ _
  ·exact QbZ _
 exact I.RX hb' (I.hok.fresh hb')
end
section
variable {X:Cx}
def j8 (K:YD) (lo:Nat) (tl:TE):TI:=fun Z H R=>tl Z H λx H1=>∃a,x=.ref a/\(∃xs,SqL K H1 a xs)/\R (Kv K a lo) H1
theorem Uj {jb:YC} {Z : St} {H:Hp} {s:Shared} {R:It->Hp->Prop} {elts:YJ} {k:Nat} {pos:Pos} {a:Addr} {xs:YG} (I:Inv X jb Z H s) (hq:SqL X.K H a xs) (q:R (Kv X.K a 0) H) :
  wpAny (model X.prog X.w) X.A (call (.type "enumerate") [.ref a]) (λv s1=>wpAny (model X.prog X.w) X.A (pyIter v) (PIE X jb Z (.Tuple elts k pos) R) X.xe s1) X.xe s:=by
 obtain⟨its,rv,p,hz⟩:=I.list hq;obtain⟨⟨c,dct,dt,sl⟩,hl,hc,n,hd⟩:=p.isList;replace hc:c=.type "list":=hc;replace hd:dt=.seq its.toArray n:=hd;subst hc hd;refine callType_new F.called_enumerate (by decide) (F.typeCall_enumerate_1 _) (F.newCall_enumerate_1 _) (λobj=>F.args_object_init_2 obj _) F.entry_enumerate_new (meets_enumerate_newL a its.toArray n dct sl) ⟨hl,?_⟩;have hz:(s.heap.push { cls:=.type "list_iterator",data:=.fields #[.ref a,.int 0 0] }).objs.size=s.heap.objs.size+1:=QbI ..;show _/\_;refine⟨⟨_,QaF _ rfl,rq⟩,?_⟩;rw[hz];exact cU (lo:=0) (tk:=s.toks) I q
end
section
variable {X:Cx}
theorem K3 {x:Expr} {tx:TE} {p pos tp:Pos} {elts:YJ} {k:Nat} (hg:Gl X "enumerate") (hm:X.mg "enumerate"=none) (hl:PE X x tx) (hs:starEach [x] X.env=[(false,eval x X.env)]:=by rfl):PI X (.Tuple elts k tp) (.Call (.Name "enumerate" p) [x] [] pos) (j8 X.K 0 tx):=by
 intro jb s Z H R I h;refine Call_ (Gm I hg hm boot_enumerate (Qad (thn ((Aa hl Ab (by rw[hs];rfl)) pos jb s Z H (λvs H1=>match vs with | [v]=>∃a,v=.ref a/\(∃xs,SqL X.K H1 a xs)/\R (Kv X.K a 0) H1 | _=>False) I h) λus s1 ⟨vs,H1,I1,r1,q1⟩=>?_) hs rfl))
 cases r1 with
 | nil=>exact False.elim q1
 | cons r rr=>
  cases rr with
  | nil=>
   obtain⟨a,e,⟨xs,hq⟩,q⟩:=q1;subst e;cases r;exact Uj I1 hq q
  | cons _ _=>exact False.elim q1
theorem PN {K:YD} {a:Addr} {lo:Nat} {xs:YG} {g:TG} {tb:TS} {D:Ends} {Z : St} {H:Hp} (Pv:YN) (h0:Pv 0 Z H) (hl:∀i Z H',i<=xs.length->Pv i Z H'->SqL K H' a xs)
  (hs:∀i x p Z H',xs[i]?=some x->Pv i Z H'->H' p=none->g (.ref p) Z (upd H' p (.tup [.int ((lo+i:Nat):Int),x])) fun σ2 H2=>tb { D with nx:=Pv (i+1),ct:=Pv (i+1),bk:=D.nx } σ2 H2) (hd:∀ Z H',Pv xs.length Z H'->D.nx Z H') :
  ∃W:Nat->YN,(∃m,W 0 m Z H)/\∀i m Z H,W i m Z H ->
   ((Kv K a lo).stop i H/\D.nx Z H)\/((Kv K a lo).go i H/\∃N:YO,(∀ σ' H',N σ' H'->∃m',m' < m/\W (i+1) m' σ' H')/\∀x H',(Kv K a lo).yld i H x H'->g x Z H' fun σ2 H2=>tb { D with nx:=N,ct:=N,bk:=D.nx } σ2 H2):=by
 refine⟨λi m Z H=>m=xs.length - i/\i<=xs.length/\Pv i Z H,⟨xs.length,by simp,Qca _,h0⟩,?_⟩;rintro i m Z H ⟨rfl,hi,p⟩;have q:=hl i Z H hi p;by_cases hlt:i < xs.length
 ·refine .inr ⟨⟨xs,xs[i],q,by simp[hlt]⟩,Pv (i+1),fun σ3 H3 p'=>⟨xs.length - (i+1),by omega,rq,hlt,p'⟩,λv H2 y=>?_⟩;obtain⟨pa,x,hn,rfl,rfl,hx⟩:=y;exact hs i x pa Z _ (hx xs q) p hn
 ·have e:i=xs.length:=by omega
  subst e;exact .inl ⟨⟨xs,q,QbZ _⟩,hd Z H p⟩
theorem WM {K:YD} {a l:Addr} {lo:Nat} {xs:YG} {g:TG} {tt:TT} {te:TE} {Q:VK} {σ0:St} {H0:Hp} (Pv:YN)
  (h0:Pv 0 σ0 H0) (hl:∀i Z H',i<=xs.length->Pv i Z H'->SqL K H' a xs)
  (hs:∀i x p Z H',xs[i]?=some x->Pv i Z H'->H' p=none->g (.ref p) Z (upd H' p (.tup [.int ((lo+i:Nat):Int),x])) fun σ3 H3=>tt σ3 H3 λb H4=>if b=true then te σ3 H4 λy H5=>∃ys,H5 l=some (.lst ys)/\ys.length < sizeLine/\Pv (i+1) σ3 (upd H5 l (.lst (ys++[y]))) else Pv (i+1) σ3 H4)
  (hd:∀ Z H',Pv xs.length Z H'->Q (.ref l) H'):Gq (Kv K a lo) g tt te Q σ0 H0 l:=by
 unfold Gq;refine⟨λi m Z H'=>m=xs.length - i/\i<=xs.length/\Pv i Z H',⟨xs.length,by simp,Qca _,h0⟩,?_⟩;rintro i m Z H' ⟨rfl,hi,p⟩;have q:=hl i Z H' hi p;by_cases hlt:i < xs.length
 ·refine .inr ⟨⟨xs,xs[i],q,by simp[hlt]⟩,Pv (i+1),fun σ3 H3 p'=>⟨xs.length - (i+1),by omega,rq,hlt,p'⟩,λv H2 y=>?_⟩;obtain⟨pa,x,hn,rfl,rfl,hx⟩:=y;exact hs i x pa Z _ (hx xs q) p hn
 ·have e:i=xs.length:=by omega
  subst e;exact .inl ⟨⟨xs,q,QbZ _⟩,hd Z H' p⟩
end
theorem Qm (elt t1 i1 t2 i2:Expr) (scope:Scope) (pos:Pos) (it acc:Value) (env:Env) :
  compTurn (.ListComp elt [⟨t1,i1,[],0⟩,⟨t2,i2,[],0⟩] scope pos) 0 it acc env=(do
   standAt i1.pos
   match <-pyNext it with
   | none=>pure (.done .next)
   | some v=>
    letOwnedTupleGo t1 it v
    assign t1 env v
    let x <-eval i2 env
    standAt i2.pos
    let x <-foldedSetIterable i2 env x;let _ <-runOwn (.compStart (.ListComp elt [⟨t1,i1,[],0⟩,⟨t2,i2,[],0⟩] scope pos) 1 (<-holding [x] (pyIter x)) acc env) env
    again (.compLoop (.ListComp elt [⟨t1,i1,[],0⟩,⟨t2,i2,[],0⟩] scope pos) 0 it acc env)):=by rfl
theorem Sy (elt t1 i1 t2 i2:Expr) (scope:Scope) (pos:Pos) (it acc:Value) (env:Env) :
  compTurn (.ListComp elt [⟨t1,i1,[],0⟩,⟨t2,i2,[],0⟩] scope pos) 1 it acc env=(do
   standAt i2.pos
   match <-pyNext it with
   | none=>pure (.done .next)
   | some v=>
    letOwnedTupleGo t2 it v
    assign t2 env v
    (do let _ <-call (.builtin "list.append") [acc,<-eval elt env])
    again (.compLoop (.ListComp elt [⟨t1,i1,[],0⟩,⟨t2,i2,[],0⟩] scope pos) 1 it acc env)):=by rfl
section
variable {prog:Program} {w:World} {A:Around} {R:Result->Shared->Prop} {s:Shared} {elt t1 i1 t2 i2:Expr} {scope:Scope} {pos:Pos} {it acc:Value} {env:Env}
theorem Lh
  (h0:codeAny (model prog w) A (.compLoop (.ListComp elt [⟨t1,i1,[],0⟩,⟨t2,i2,[],0⟩] scope pos) 1 it acc env) R s)
  (h:wpAny (model prog w) A (pyIter it) (λit' s'=>codeAny (model prog w) A (.compLoop (.ListComp elt [⟨t1,i1,[],0⟩,⟨t2,i2,[],0⟩] scope pos) 1 it' acc env) R s')
   (notedBy (model prog w) A env λx s'=>R (.error x) s') s) :
  codeAny (model prog w) A (.compStart (.ListComp elt [⟨t1,i1,[],0⟩,⟨t2,i2,[],0⟩] scope pos) 1 it acc env) R s:=by
 refine codeAny_of_tree ?_;show wpAny _ _ ((compStart (.ListComp elt [⟨t1,i1,[],0⟩,⟨t2,i2,[],0⟩] scope pos) 1 it acc env).onRaise (λx=>do noteFrame x env;standAt theWindowsPlace)) _ _ s
 refine wpAny_notedAt ?_;unfold compStart;show wpAny _ _ (ask >>= _) _ _ s;refine Qcb (wpAny_askSetting (wpAny_ite ?_));split
 ·first
   | exact Qcb (Qcc (Qcc (And.intro rfl h0)))
   | exact Qcc (And.intro rfl h0)
 ·first
   | exact Qcb (wpAny_rule (Qcb (QbR (Qcb (Qcd h (λit' s' h'=>Qcc (And.intro rfl h')) λ_ _ x=>x)))))
   | (refine Qcb (wpAny_rule ?_);show wpAny _ _ (standAt i2.pos >>= _) _ _ s;exact Qcb (QbR (Qcb (Qcd h (λit' s' h'=>Qcc (And.intro rfl h')) λ_ _ x=>x))))
theorem Qn (J:Nat->Shared->Prop)
  (turn:∀n s,J n s->wpAny (model prog w) A (pyNext it) (λr s1=>match r with
   | none=>R (.ok .next) s1
   | some v=>wpAny (model prog w) A (letOwnedTupleGo t2 it v) (λ_ s2=>wpAny (model prog w) A (assign t2 env v) (λ_ s3=>
     wpAny (model prog w) A (eval elt env) (λx s5=>wpAny (model prog w) A (call (.builtin "list.append") [acc,x]) (λ_ s6=>∃m,m < n/\J m s6) (λ_ _=>False) s5) (λ_ _=>False) s3) (λ_ _=>False) s2) (λ_ _=>False) s1) (λ_ _=>False) s)
  (n:Nat) (h:J n s):codeAny (model prog w) A (.compLoop (.ListComp elt [⟨t1,i1,[],0⟩,⟨t2,i2,[],0⟩] scope pos) 1 it acc env) R s:=by
 refine codeAny_loop rfl J (λk s' hk=>?_) n h;show wpAny _ A (Sem.onRaise (compTurn (.ListComp elt [⟨t1,i1,[],0⟩,⟨t2,i2,[],0⟩] scope pos) 1 it acc env) (λx=>do noteFrame x env;theTreesLotGoes x)) _ _ s'
 refine wpAny_noted ?_;rw[Sy];refine Qcb (QbR (Qcb (Qcd (turn k s' hk) (λr s1 q1=>?_) λ_ _ f=>f.elim)));cases r with
 | none=>exact Qcc q1
 | some v=>
  refine Qcb (Qcd q1 (λ_ s2 q2=>Qcb (Qcd q2 (λ_ s3 q3=>?_) λ_ _ f=>f.elim)) λ_ _ f=>f.elim);exact Qcb (Qcb (Qcd q3 (λx s5 q5=>Qcb (Qcd q5 (λ_ s6 q6=>Qcc (Qcc ⟨rq,q6⟩)) λ_ _ f=>f.elim)) λ_ _ f=>f.elim))
theorem WQ (hs2:∀x,foldedSetIterable i2 env x=pure x) (J:Nat->Shared->Prop)
  (turn:∀n s,J n s->wpAny (model prog w) A (pyNext it) (λr s1=>match r with
   | none=>R (.ok .next) s1
   | some v=>wpAny (model prog w) A (letOwnedTupleGo t1 it v) (λ_ s2=>wpAny (model prog w) A (assign t1 env v) (λ_ s3=>
     wpAny (model prog w) A (eval i2 env) (λx s4=>wpAny (model prog w) A (pyIter x) (λjt s5=>codeAny (model prog w) A (.compStart (.ListComp elt [⟨t1,i1,[],0⟩,⟨t2,i2,[],0⟩] scope pos) 1 jt acc env) (λr s6=>match r with | .ok _=>∃m,m < n/\J m s6 | .error _=>False) s5) (λ_ _=>False) s4) (λ_ _=>False) s3) (λ_ _=>False) s2) (λ_ _=>False) s1) (λ_ _=>False) s)
  (n:Nat) (h:J n s):codeAny (model prog w) A (.compLoop (.ListComp elt [⟨t1,i1,[],0⟩,⟨t2,i2,[],0⟩] scope pos) 0 it acc env) R s:=by
 refine codeAny_loop rfl J (λk s' hk=>?_) n h;show wpAny _ A (Sem.onRaise (compTurn (.ListComp elt [⟨t1,i1,[],0⟩,⟨t2,i2,[],0⟩] scope pos) 0 it acc env) (λx=>do noteFrame x env;theTreesLotGoes x)) _ _ s'
 refine wpAny_noted ?_;rw[Qm];refine Qcb (QbR (Qcb (Qcd (turn k s' hk) (λr s1 q1=>?_) λ_ _ f=>f.elim)));cases r with
 | none=>exact Qcc q1
 | some v=>
  refine Qcb (Qcd q1 (λ_ s2 q2=>Qcb (Qcd q2 (λ_ s3 q3=>?_) λ_ _ f=>f.elim)) λ_ _ f=>f.elim);refine Qcb (Qcd q3 (λx s4 q4=>Qcb (QbR (Qcb (wpAny_of_eq (hs2 x) (Qcb (QbP (Qcd q4 (λjt s5 q5=>?_) λ_ _ f=>f.elim))))))) λ_ _ f=>f.elim);refine Qcb (wpAny_runOwn (QbY q5 λr s6 q6=>?_));cases r with
  | ok f=>exact Qcc ⟨rfl,q6⟩
  | error e=>exact q6.elim
end
def CIn (J:It) (g:TG) (te:TE) (l:Addr) (N:YO) (σ0:St) (H0:Hp):Prop:=∃W:Nat->YN,(∃m,W 0 m σ0 H0) /\
 ∀i m σ' H',W i m σ' H'->(J.stop i H'/\N σ' H')\/(J.go i H'/\∃N2:YO,(∀ σ3 H3,N2 σ3 H3->∃m',m' < m/\W (i+1) m' σ3 H3)/\∀x H2,J.yld i H' x H2->g x σ' H2 fun σ3 H3=>
  te σ3 H3 λy H5=>∃xs,H5 l=some (.lst xs)/\xs.length < sizeLine/\N2 σ3 (upd H5 l (.lst (xs++[y]))))
@[irreducible] def Ow (J:It) (g:TG) (wi2:TI) (g2:TG) (te:TE) (Q:VK) (σ0:St) (H0:Hp) (l:Addr):Prop:=∃W:Nat->YN,(∃m,W 0 m σ0 H0) /\
 ∀i m σ' H',W i m σ' H'->(J.stop i H'/\Q (.ref l) H')\/(J.go i H'/\∃N:YO,(∀ σ3 H3,N σ3 H3->∃m',m' < m/\W (i+1) m' σ3 H3)/\∀x H2,J.yld i H' x H2->g x σ' H2 fun σ3 H3=>wi2 σ3 H3 λJ2 H4=>CIn J2 g2 te l N σ3 H4)
def Xg (wi:TI) (src:List (Option Nat)) (g:TG) (wi2:TI) (g2:TG) (te:TE):TE:=fun Z H Q=>wi Z H λJ H1=>∀l,H1 l=none->Ow J g wi2 g2 te Q (Ik src Z) (upd H1 l (.lst [])) l
theorem cZ {Y:Cx} (hE:∀v s,Y.xe v s->False) (hc:Y.calm=true) {elt t1 i1 t2 i2:Expr} {sc:Scope} {pos:Pos} {l it:Addr} {fp:List Addr} {tn:Nat->Heap->Prop} {J:It} {g:TG} {te:TE} {N:YO} {jb:YC} {Z : St} {H:Hp} {s:Shared}
  (T:Turn Y.prog Y.w Y.K t2 J fp it tn) (hg:PG Y t2 g) (he:PE Y elt te) (I:Inv Y jb Z H s) (st:tn 0 s.heap) (f:∀b∈fp,Es Y jb H b) (w:CIn J g te l N Z H) :
  codeAny (model Y.prog Y.w) Y.A (.compStart (.ListComp elt [⟨t1,i1,[],0⟩,⟨t2,i2,[],0⟩] sc pos) 1 (.ref it) (.ref l) Y.env) (λr s'=>match r with | .ok _=>∃ σ' H',Inv Y jb σ' H' s'/\N σ' H' | .error _=>False) s:=by
 obtain⟨W,⟨m0,w0⟩,turn⟩:=w;have loop:codeAny (model Y.prog Y.w) Y.A (.compLoop (.ListComp elt [⟨t1,i1,[],0⟩,⟨t2,i2,[],0⟩] sc pos) 1 (.ref it) (.ref l) Y.env) (λr s'=>match r with | .ok _=>∃ σ' H',Inv Y jb σ' H' s'/\N σ' H' | .error _=>False) s:=by
  refine Qn (λn s'=>∃i σ' H',Inv Y jb σ' H' s'/\tn i s'.heap/\(∀b∈fp,H' b=none)/\W i n σ' H') ?_ m0 ⟨0,Z,H,I,st,λb hb=>(f b hb).1,w0⟩;rintro n s3 ⟨i,σ3,H3,I3,st3,fr3,w3⟩;have stat:∀{H':Hp},(∀b∈fp,H' b=none)->∀b∈fp,Es Y jb H' b:=λhn b hb=>⟨hn b hb,(f b hb).2⟩;rcases turn i n σ3 H3 w3 with⟨stop,qn⟩|⟨go,N2,hN,step⟩
  ·refine thn (T.done Y rfl rfl rfl hc i jb s3 σ3 H3 _ I3 (stat fr3) st3 stop) λr s4 zz=>?_;obtain⟨hr,I4⟩:=zz;subst hr;exact⟨σ3,H3,I4,qn⟩
  ·refine thn (T.item Y rfl rfl rfl hc i jb s3 σ3 H3 _ I3 (stat fr3) st3 go) λr s4 zz=>?_;obtain⟨u,hr,h4⟩:=zz;subst hr;refine thn h4 λ_ s5 zz=>?_;obtain⟨x,H5,I5,r5,y5,st5,fr5⟩:=zz;have I5':=I5.pinned (stat fr5) (T.obj _ _ st5);have again:∀{σ7:St} {H7:Hp} {s7:Shared},Inv Y (jb++Je fp s5.heap) σ7 H7 s7->N2 σ7 H7->∃m,m < n/\∃i σ' H',Inv Y jb σ' H' s7/\tn i s7.heap/\(∀b∈fp,H' b=none)/\W i m σ' H':=λ{σ7 H7 s7} I7 n7=>by
    obtain⟨m',hm,w7⟩:=hN σ7 H7 n7;refine⟨m',hm,i+1,σ7,H7,I7.Gs,T.keep _ _ _ st5 λb hb o e=>(I7.pin (b,o) (Qau _ (Qau _ (FZ hb e)))).1,λb hb=>?_,w7⟩;obtain⟨o,e,d⟩:=T.obj _ _ st5 b hb;exact (I7.pin (b,o) (Qau _ (Qau _ (FZ hb e)))).2.1
   refine Qcd (hg _ s5 σ3 H5 x u _ I5' r5 (step x H5 y5)) (λ_ s6 zz=>?_) λv s h=>(hE v s h).elim;obtain⟨σ6,H6,I6,q6⟩:=zz;refine Qcd (he _ s6 σ6 H6 _ I6 q6) (λy s9 zz=>?_) λv s h=>(hE v s h).elim;obtain⟨yv,H9,J9,r9,xs,hl9,hz9,q9⟩:=zz;refine Qcd (Ec _ s9 σ6 H9 (.ref l) [yv] (.ref l) [y] (λ_ H'=>N2 σ6 H') J9 rfl (.cons r9 .nil) ⟨_,xs,yv,rq,rq,hl9,hz9,q9⟩) (λ_ s10 zz=>?_) λv s h=>(hE v s h).elim;obtain⟨_,H10,J10,_,q10⟩:=zz;exact again J10 q10
 exact Lh loop (T.self Y.A 0 _ _ _ st loop)
theorem WT {X:Cx} {N':YF} {src:List (Option Nat)} {sc:Scope} {elt tg iter t2 i2:Expr} {pos pos':Pos} {wi wi2:TI} {g g2:TG} {te:TE} {use:Option (Value->Sem Unit)} {R:YA} (hc:X.calm=true) (S:Bx X N' src sc)
  (hi:PI X tg iter wi) (hg:∀s3 H3 fp pn,PG (cxC X N' sc s3 H3 fp pn) tg g) (hi2:∀s3 H3 fp pn,PI (cxC X N' sc s3 H3 fp pn) t2 i2 wi2) (hg2:∀s3 H3 fp pn,PG (cxC X N' sc s3 H3 fp pn) t2 g2) (he:∀s3 H3 fp pn,PE (cxC X N' sc s3 H3 fp pn) elt te)
  (hs:∀x,foldedSetIterable iter X.env x=pure x) (hs2:∀s3 H3 fp pn x,foldedSetIterable i2 (cxC X N' sc s3 H3 fp pn).env x=pure x) {jb:YC} {s:Shared} {Z : St} {H:Hp} {Q:VK} (I:Inv X jb Z H s) (h:Xg wi src g wi2 g2 te Z H Q)
  (fin:∀s3 H3 fp σ4 H4 s5 l,Inv X jb Z H3 s3->(∀b∈fp,Es X jb H3 b)->Inv (cxC X N' sc s3 H3 fp (X.pn++jb)) [] σ4 H4 s5->Q (.ref l) H4 ->
   compPost (model X.prog X.w) X.A X.xe use R (.ref l) s3.heap.objs.size (.ok .next) s5) :
  wpAny (model X.prog X.w) X.A (comprehension (.ListComp elt [⟨tg,iter,[],0⟩,⟨t2,i2,[],0⟩] sc pos) sc X.env pos' (newList []) false (eval iter X.env) use) R X.xe s:=by
 refine wpAny_comprehension_free (use:=use) (cl:=Dl X.env sc.names []) rfl hs (Ot λp hp e=>I.ok.has p.1 (S.fv p hp e)) S.kind S.loc ?_;refine thn (hi jb s Z H _ I h) λv s1 h1=>thn h1 λitv s2 h2=>?_;obtain⟨it,fp,tn,J,H2,rfl,I2,T,st2,f2,q⟩:=h2;have q':=q s2.heap.objs.size (I2.hok.fresh (QbZ _));unfold Ow at q';obtain⟨W,⟨m0,w0⟩,turn⟩:=q';refine Qbe (wpAny_newFunctionEnv S.GZ (by intro y hy;simp at hy) (λha hns hsb=>?_) S.kind);have I3:Inv X jb Z (upd H2 s2.heap.objs.size (.lst [])) { s2 with heap:=s2.heap.push { cls:=.type "list",dict:=none,data:=.seq ([]:YE).toArray } }:=
  I2.laid (t':=s2.toks) (λb u e=>Qaq _ e) (QbZ _) ⟨Qca _,[],0,.nil,QaF _ rfl⟩
 have hfl:∀b∈fp,b < s2.heap.objs.size:=λb hb=>by
  obtain⟨o,e,_⟩:=T.obj 0 _ st2 b hb;exact QbS e
 have f3:∀b∈fp,Es X jb (upd H2 s2.heap.objs.size (.lst [])) b:=λb hb=>⟨by rw[Al (QbT (hfl b hb))];exact (f2 b hb).1,(f2 b hb).2⟩;generalize hs3:({ s2 with heap:=s2.heap.push { cls:=.type "list",dict:=none,data:=.seq ([]:YE).toArray } }:Shared)=s3 at *;have hsz:s2.heap.objs.size < s3.heap.objs.size:=by rw[<-hs3];show s2.heap.objs.size < (s2.heap.push _).objs.size;rw[QbI];exact Qbo _
 have kp:∀b o,s3.heap.get? b=some o->ha.get? b=some o:=λb o e=>hsb.extBut b o (QbT (QbS e)) (Qaq _ e);have st3:tn 0 ha:=T.keep 0 _ _ st2 λb hb o e=>kp b o (by rw[<-hs3];exact Qaq _ e);have I4:Inv (cxC X N' sc s3 (upd H2 s2.heap.objs.size (.lst [])) fp (X.pn++jb)) [] (Ik src Z) (upd H2 s2.heap.objs.size (.lst [])) { s3 with heap:=ha,toks:=s3.toks+([]:List (Str×Value)).length }:=
  Sw S I3 f3 (λb hb=>Nat.lt_trans (hfl b hb) hsz) hns kp
 have loop:codeAny (model X.prog X.w) X.A (.compLoop (.ListComp elt [⟨tg,iter,[],0⟩,⟨t2,i2,[],0⟩] sc pos) 0 (.ref it) (.ref s2.heap.objs.size) (compEnvC sc (Dl X.env sc.names []) s3.heap.objs.size X.env))
   (compPost (model X.prog X.w) X.A X.xe use R (.ref s2.heap.objs.size) s3.heap.objs.size) { s3 with heap:=ha,toks:=s3.toks+([]:List (Str×Value)).length }:=by
  refine WQ (hs2 s3 (upd H2 s2.heap.objs.size (.lst [])) fp (X.pn++jb)) (λn s'=>∃i σ' H',Inv (cxC X N' sc s3 (upd H2 s2.heap.objs.size (.lst [])) fp (X.pn++jb)) [] σ' H' s'/\tn i s'.heap/\(∀b∈fp,H' b=none)/\W i n σ' H') ?_ m0 ⟨0,_,_,I4,st3,λb hb=>(f3 b hb).1,w0⟩;rintro n s4 ⟨i,σ4,H4,J4,st4,fr4,w4⟩;have stat:∀{H':Hp},(∀b∈fp,H' b=none)->∀b∈fp,Es (cxC X N' sc s3 (upd H2 s2.heap.objs.size (.lst [])) fp (X.pn++jb)) [] H' b:=λhn b hb=>
   ⟨hn b hb,(I4.ok.exf b hb).1,I4.ok.Ig b hb,.inl hb,λx c e=>(I4.ok.exf b hb).2 x c e,λp hp=>(f3 b hb).2.2.2.2.2 p ((Qbu.mp hp).elim id λz=>by cases z)⟩
  rcases turn i n σ4 H4 w4 with⟨stop,qn⟩|⟨go,N,hN,step⟩
  ·refine thn (T.done (cxC X N' sc s3 (upd H2 s2.heap.objs.size (.lst [])) fp (X.pn++jb)) rfl rfl rfl hc i [] s4 σ4 H4 _ J4 (stat fr4) st4 stop) λr s5 zz=>?_;obtain⟨hr,J5⟩:=zz;subst hr;exact fin s3 _ fp σ4 H4 s5 _ I3 f3 J5 qn
  ·refine thn (T.item (cxC X N' sc s3 (upd H2 s2.heap.objs.size (.lst [])) fp (X.pn++jb)) rfl rfl rfl hc i [] s4 σ4 H4 _ J4 (stat fr4) st4 go) λr s5 zz=>?_;obtain⟨u,hr,h5⟩:=zz;subst hr;refine thn h5 λ_ s6 zz=>?_;obtain⟨x,H6,J6,r6,y6,st6,fr6⟩:=zz;have J6':=J6.pinned (stat fr6) (T.obj _ _ st6);have back:∀{σ7:St} {H7:Hp} {s7:Shared},Inv (cxC X N' sc s3 (upd H2 s2.heap.objs.size (.lst [])) fp (X.pn++jb)) ([]++Je fp s6.heap) σ7 H7 s7->N σ7 H7 ->
     ∃m',m' < n/\∃i σ' H',Inv (cxC X N' sc s3 (upd H2 s2.heap.objs.size (.lst [])) fp (X.pn++jb)) [] σ' H' s7/\tn i s7.heap/\(∀b∈fp,H' b=none)/\W i m' σ' H':=λ{σ7 H7 s7} J7 w7=>by
    obtain⟨m',hm,w7⟩:=hN _ _ w7;have pinned:∀b∈fp,∀o,s6.heap.get? b=some o->s7.heap.get? b=some o/\H7 b=none:=λb hb o e=>by
     have:=J7.pin (b,o) (Qau _ (Qau _ (FZ hb e)));exact⟨this.1,this.2.1⟩
    refine⟨m',hm,i+1,σ7,H7,J7.Gs,T.keep _ _ _ st6 λb hb o e=>(pinned b hb o e).1,λb hb=>?_,w7⟩;obtain⟨o,e,_⟩:=T.obj _ _ st6 b hb;exact (pinned b hb o e).2
   refine thn (hg s3 _ fp _ _ s6 σ4 H6 x u _ J6' r6 (step x H6 y6)) λ_ s7 zz=>?_;obtain⟨σ7,H7,J7,q7⟩:=zz;refine thn (hi2 s3 _ fp _ _ s7 σ7 H7 _ J7 q7) λv s8 q8=>thn q8 λjt s9 q9=>?_;obtain⟨it2,fp2,tn2,J2,H9,rfl,I9,T2,st9,f9,q9⟩:=q9;refine QbY (cZ (Y:=cxC X N' sc s3 (upd H2 s2.heap.objs.size (.lst [])) fp (X.pn++jb)) (λ_ _ h=>h) hc T2 (hg2 s3 _ fp _) (he s3 _ fp _) I9 st9 f9 q9) λr s10 q10=>?_;cases r with
   | ok f=>obtain⟨σ',H',I',n'⟩:=q10;exact back I' n'
   | error e=>exact q10
 exact codeAny_compStart_list loop (T.self X.A 0 _ _ _ st3 loop)
theorem ZJ {X:Cx} {N':YF} {src:List (Option Nat)} {sc:Scope} {elt tg iter t2 i2:Expr} {pos:Pos} {wi wi2:TI} {g g2:TG} {te:TE} (hc:X.calm=true) (S:Bx X N' src sc)
  (hi:PI X tg iter wi) (hg:∀s3 H3 fp pn,PG (cxC X N' sc s3 H3 fp pn) tg g) (hi2:∀s3 H3 fp pn,PI (cxC X N' sc s3 H3 fp pn) t2 i2 wi2) (hg2:∀s3 H3 fp pn,PG (cxC X N' sc s3 H3 fp pn) t2 g2) (he:∀s3 H3 fp pn,PE (cxC X N' sc s3 H3 fp pn) elt te)
  (hs:∀x,foldedSetIterable iter X.env x=pure x:=by intro _;rfl) (hs2:∀s3 H3 fp pn x,foldedSetIterable i2 (cxC X N' sc s3 H3 fp pn).env x=pure x:=by intros;rfl):PE X (.ListComp elt [⟨tg,iter,[],0⟩,⟨t2,i2,[],0⟩] sc pos) (Xg wi src g wi2 g2 te):=by
 intro jb s Z H Q I h;rw[eval_ListComp];refine WT (use:=none) hc S hi hg hi2 hg2 he hs hs2 I h λs3 H3 fp σ4 H4 s5 l I3 f3 J5 q=>?_;obtain⟨m,hn,_⟩:=J5.loc;exact⟨m,hn,λh' sb=>⟨.ref l,H4,Sx I3 f3 J5 sb,rq,q⟩⟩
theorem dh {K:YD} {a l:Addr} {xs:YG} {g:TG} {te:TE} {N:YO} {σ0:St} {H0:Hp} (Pv:YN)
  (h0:Pv 0 σ0 H0) (hl:∀i Z H',i<=xs.length->Pv i Z H'->SqL K H' a xs)
  (hs:∀i x Z H',xs[i]?=some x->Pv i Z H'->g x Z H' fun σ3 H3=>te σ3 H3 λy H5=>∃ys,H5 l=some (.lst ys)/\ys.length < sizeLine/\Pv (i+1) σ3 (upd H5 l (.lst (ys++[y]))))
  (hd:∀ Z H',Pv xs.length Z H'->N Z H'):CIn (Itl K a) g te l N σ0 H0:=by
 refine⟨λi m Z H'=>m=xs.length - i/\i<=xs.length/\Pv i Z H',⟨xs.length,by simp,Qca _,h0⟩,?_⟩;rintro i m Z H' ⟨rfl,hi,p⟩;have q:=hl i Z H' hi p;by_cases hlt:i < xs.length
 ·refine .inr ⟨⟨xs,xs[i],q,by simp[hlt]⟩,Pv (i+1),fun σ3 H3 p'=>⟨xs.length - (i+1),by omega,rq,hlt,p'⟩,λv H2 y=>?_⟩;obtain⟨rfl,hx⟩:=y;exact hs i v Z _ (hx xs q) p
 ·have e:i=xs.length:=by omega
  subst e;exact .inl ⟨⟨xs,q,QbZ _⟩,hd Z H' p⟩
def Ei (z:Str) (n:Int):Str:=⟨(List.replicate n.toNat z.cps.toList).flatten.toArray⟩
theorem PX:∀(k:Nat) (a b:Array Nat),(List.replicate k a).foldl (·++·) b=b++(List.replicate k a.toList).flatten.toArray
 | 0,a,b=>by simp
 | k+1,a,b=>by
  rw[QaI,List.foldl_cons,PX k a (b++a),QaI,Qbg];apply Array.toList_inj.mp;simp
theorem MK (z:Str) (n:Int):(Ei z n).cps.size=z.cps.size*n.toNat:=by
 unfold Ei;rw[QaZ,List.length_flatten,List.map_replicate,List.sum_replicate_nat,QaG,Nat.mul_comm]
theorem VJ {X:Cx}:OpR X (binaryOp .Mult) (λx y H Q=>∃z n,x=.str z/\y=.int n/\n<=1000000/\-1000000<=n/\z.length*n.toNat<=1000000/\Q (.str (Ei z n)) H):=by
 intro jb s Z H x y v u Q I rx ry h;obtain⟨z,n,rfl,rfl,h1,h2,hz,q⟩:=h;obtain⟨t,rfl⟩:=rx;obtain⟨t',rfl⟩:=ry;refine PySem.P.mul_str ?_ (λg1 g2=>?_) (λg1 g2=>?_) ?_
 ·rw[Bool.or_eq_false_iff];exact⟨Qbv (by omega),Qbv (by omega)⟩
 ·have hn:0 < n:=by omega
  have hl:z.length<=1000000:=by
   refine QbU ?_ hz;exact Nat.le_mul_of_pos_right _ (by omega)
  have:(1000000:Int)<=(2 ^ 63 - 1) / n:=by
   rw[Int.le_ediv_iff_mul_le hn];omega
  omega
 ·refine Qbv ?_;have:(1000000:Nat)<=sizeLine:=by decide
  omega
 ·by_cases g1:n < 1
  ·rw[if_pos g1];have:Ei z n=Str.empty:=by
    unfold Ei;rw[show n.toNat=0 by omega];rfl
   rw[this] at q;exact⟨Qca _,.str Str.empty,H,I.tok _,⟨_,rq⟩,q⟩
  ·rw[if_neg g1];by_cases g2:(n == 1 || z.length == 0)=true
   ·rw[if_pos g2];have:Ei z n=z:=by
     unfold Ei;rw[Bool.or_eq_true] at g2;rcases g2 with g2 | g2
     ·have:n=1:=by simpa using g2
      subst this;show (⟨([z.cps.toList].flatten).toArray⟩ : Str)=z;simp
     ·have g3:z.length=0:=by simpa using g2
      have g4:z.cps.toList=[]:=by
       apply List.eq_nil_of_length_eq_zero;rw[QaG];exact g3
      have g5:z=⟨#[]⟩:=by
       cases z with
       | mk c=>
        congr 1;exact Array.toList_inj.mp g4
      rw[g4,g5];simp
    rw[this] at q;exact⟨.str z,H,I,⟨_,rq⟩,q⟩
   ·rw[if_neg g2];have e:(⟨(List.replicate n.toNat z.cps).foldl (·++·) #[]⟩ : Str)=Ei z n:=by
     unfold Ei;rw[PX];simp
    rw[e];refine⟨?_,.str (Ei z n),H,I.tok _,⟨_,rq⟩,q⟩;show (Ei z n).cps.size<=sizeLine;rw[MK];have:(1000000:Nat)<=sizeLine:=by decide
    have hz':z.cps.size*n.toNat<=1000000:=hz;omega
end L2
namespace L2
open PySem
theorem Xl {a b:Expr} {op:Operator} {p:Pos} {es:YJ} {env:Env}:starEach (.BinOp a op b p::es) env=(false,eval (.BinOp a op b p) env)::starEach es env:=by rfl
theorem nG {a:Expr} {op:UnaryOp} {p:Pos} {es:YJ} {env:Env}:starEach (.UnaryOp op a p::es) env=(false,eval (.UnaryOp op a p) env)::starEach es env:=by rfl
theorem Iw {x:Str} {p:Pos} {es:YJ} {env:Env}:starEach (.Name x p::es) env=(false,eval (.Name x p) env)::starEach es env:=by rfl
theorem Xk {as:YJ} {p:Pos} {es:YJ} {env:Env}:starEach (.List as p::es) env=(false,eval (.List as p) env)::starEach es env:=by rfl
end L2
namespace L2
open PySem PySem.Spec PyProof.Rows
def KD (K:YD) (P:Params) (a:Addr):Prop:=(∃es n,K.lookup a=some ⟨.type "dict",none,.dict es n,#[]⟩/\PySem.W.KeysLit P es.toList)/\(a == sysModules)=false
section
variable {X:Cx}
end
def Jr (h:Heap) (d:Addr) (es:YK) (ep:Nat):Prop:=∃o,h.get? d=some o/\o.ExactDict/\o.data=.dict es ep
section
variable {prog:Program} {w:World} {A:Around} {E:YA} {s:Shared}
theorem Zv {it d:Addr} {i ep:Nat} {es:YK} {en:DictEntry} {Q:Option Value->Shared->Prop} (K:s.heap.IsKeyIter it d i es.size ep) (R:Jr s.heap d es ep) (hx:es[i]?=some en)
  (q:∀h',h'.IsKeyIter it d (i+1) es.size ep->Heap.SameBut it s.heap h'->Q (some en.key) { s with heap:=h' }):wpAny (model prog w) A (pyNext (.ref it)) Q E s:=by
 have T:=K.typeIs;obtain⟨oi,hoi,ci,di⟩:=K;obtain⟨od,hod,xd,dd⟩:=R;have hlt:i < es.size:=(Qaf.mp hx).1;obtain⟨cF,Ws,Wt,RK⟩:=oi;obtain⟨Pq,Mi,Mj,JM⟩:=od;dsimp only at ci di dd;subst ci di dd;obtain⟨hp,g,dr,tk,os⟩:=s;unfold pyNext;refine Qcb (wpAny_attempt (Qao (name:=Str.ofString "__next__") T Qac (Qbl Qac T F.entry_dict_keyiterator_next ?_ (F.args_dict_keyiterator_next_1 _))));have e1:typeName (.type "dict_keyiterator")=pure "dict_keyiterator":=by unfold typeName;rw[find?_eq_fast];kernel_rfl
 have e2:=mroOf_keyiter
 wp_walk
 have hidx:(if (i:Int) < 0 then none else es[((i:Int)).toNat]?)=some en:=by rw[if_neg (by omega),Qbb];exact hx
 simp only[hidx]
 wp_walk
 refine⟨_,rq,Qcc (q _ ⟨_,Qaw _ hoi ?_,rq,?_⟩ (QaK ..))⟩
 all_goals first | rfl | trace_state
theorem fY {it d:Addr} {i ep:Nat} {es:YK} {Q:Option Value->Shared->Prop} (hh:A.handled=none) (K:s.heap.IsKeyIter it d i es.size ep) (R:Jr s.heap d es ep) (hx:es[i]?=none)
  (q:∀h',Heap.ExtBut it s.heap h'->Q none { s with heap:=h' }):wpAny (model prog w) A (pyNext (.ref it)) Q E s:=by
 have T:=K.typeIs;obtain⟨oi,hoi,ci,di⟩:=K;obtain⟨od,hod,xd,dd⟩:=R;obtain⟨cF,Ws,Wt,RK⟩:=oi;obtain⟨Pq,Mi,Mj,JM⟩:=od;dsimp only at ci di dd;subst ci di dd;obtain⟨hp,g,dr,tk,os⟩:=s;unfold pyNext;refine Qcb (wpAny_attempt (Qao (name:=Str.ofString "__next__") T Qac (Qbl Qac T F.entry_dict_keyiterator_next ?_ (F.args_dict_keyiterator_next_1 _))));have e1:typeName (.type "dict_keyiterator")=pure "dict_keyiterator":=by unfold typeName;rw[find?_eq_fast];kernel_rfl
 have e2:=mroOf_keyiter;have hh1:A.in1.handled=none:=hh
 wp_walk
 have hidx:(if (i:Int) < 0 then none else es[((i:Int)).toNat]?)=none:=by rw[if_neg (by omega),Qbb];exact hx
 simp only[hidx]
 wp_walk
 unfold raiseNew
 wp_walk
 refine wpAny_of_eq isSubtype_stop ?_
 wp_walk
 exact q _ (((QaK ..).extBut.push _).push _)
theorem Zw {d:Addr} {ep:Nat} {es:YK} {Q:YA} (lo:(d == sysModules)=false) (R:Jr s.heap d es ep)
  (q:Q (.ref s.heap.objs.size) { s with heap:=s.heap.push { cls:=.type "dict_keyiterator",data:=.fields #[.ref d,.int 0 0,.int es.size 0,.int ep 0] } }):wpAny (model prog w) A (pyIter (.ref d)) Q E s:=by
 obtain⟨od,hod,xd,dd⟩:=R;have T:s.TypeIs (.ref d) "dict":=⟨od,hod,xd.1⟩;obtain⟨Pq,Mi,Mj,JM⟩:=od;obtain⟨x1,x2⟩:=xd;dsimp only at dd x1;subst dd x1;refine wpAny_pyIter_slot T F.slot_dict_iter (Qbl F.slot_dict_iter T F.entry_dict_iter ?_ (F.args_dict_iter_1 _));unfold Builtin.«dict.__iter__»
 wp_walk
 exact⟨_,rq,"dict_keyiterator",_,⟨_,QaF _ rfl,rq⟩,Qac.lookup,q⟩
end
section
variable {X:Cx} {jb:YC} {Z : St} {H:Hp} {s:Shared} {a:Addr} {kvs:YL} {o:Obj}
end
def KTr (P:Program) (w:World) (H:Hp) (kvs:YL) (es:YK):Prop:=es.size=kvs.length/\∀(i:Nat) (kv:List Key×V),kvs[i]?=some kv->∃b en,es[i]?=some en/\en.key=.ref b/\H b=some (.tup (kv.1.map kV))/\RelV kv.2 en.val
theorem Yb {P:Program} {w:World} {H:Hp} {kvs:YL} {xs:List (List Key×Addr×Value)} {es:YK} (r:Paired (λ(p:List Key×V) (q:List Key×Addr×Value)=>p.1=q.1/\H q.2.1=some (.tup (p.1.map kV))/\RelV p.2 q.2.2) kvs xs) (e:es.toList=xs.map (entryOfKey (tupleKind (Cp P w)))):KTr P w H kvs es:=by
 refine⟨by rw[size_of_entries e,QbL r],λi kv hkv=>?_⟩;have go:∀{l:YL} {m:List (List Key×Addr×Value)} {i:Nat} {p:List Key×V},Paired (λ(p:List Key×V) (q:List Key×Addr×Value)=>p.1=q.1/\H q.2.1=some (.tup (p.1.map kV))/\RelV p.2 q.2.2) l m->l[i]?=some p->∃x,m[i]?=some x/\H x.2.1=some (.tup (p.1.map kV))/\RelV p.2 x.2.2:=by
  intro l m i p r
  induction r generalizing i with
  | nil=>intro h;cases h
  | cons a t ih=>
   intro h;cases i with
   | zero=>cases h;exact⟨_,rfl,a.2⟩
   | succ i=>exact ih h
 obtain⟨x,hx,h1,h2⟩:=go r hkv;exact⟨x.2.1,_,by rw[entry_at e i,hx];rfl,rq,h1,h2⟩
theorem fX {prog:Program} {w:World} {d:Addr} {es:YK} {ep:Nat} (lo:(d == sysModules)=false):PySem.W.KdlSrc prog w "dict" d d es.size (λi v=>∃en,es[i]?=some en/\v=en.key) (λh=>Jr h d es ep) where
 type:=λ_ ⟨o,ho,hx,_⟩=>⟨o,ho,hx.1⟩
 there:=λ_ ⟨o,ho,_⟩=>⟨QbS ho,QbS ho⟩
 keep:=λ_ _ ⟨o,ho,hx⟩ hk=>⟨o,hk d (.inl rfl) o ho,hx⟩
 notList:=by decide
 notTuple:=by decide
 hint:=λ_ _ _ _ ⟨o,ho,hx,_⟩ hq=>PySem.W.kdl_hint_dict ⟨o,ho,hx.1⟩ hq
 iter:=λA s hh hm=>⟨_,λi h=>h.IsKeyIter s.heap.objs.size d i es.size ep/\Jr h d es ep,(λ_ _ hq=>Zw lo hm hq),{
   sub:=λb hb=>by simp at hb;simp[hb]
   frame:=λ_ _ _ st hk=>⟨st.1.at λo e=>hk s.heap.objs.size (by simp) o e,let ⟨o,ho,r⟩:=st.2;⟨o,hk d (by simp) o ho,r⟩⟩
   item:=λi s' Q E hi st hQ=>by
    have hne:d≠s.heap.objs.size:=let ⟨o,ho,_⟩:=hm;QbT (QbS ho);have hx:es[i]?=some es[i]:=by simp[hi]
    refine Zv st.1 st.2 hx λh' hit' hs'=>?_;obtain⟨o,ho,r⟩:=st.2;exact hQ es[i].key h' s'.toks ⟨es[i],hx,rq⟩ ⟨hit',o,hs'.extBut d o hne ho,r⟩ λb o hb e=>hs'.extBut b o (λh=>hb (by simp[h])) e
   done:=λs' Q E st hQ=>fY hh st.1 st.2 (by simp) λh' he'=>hQ h' s'.toks λb o hb e=>he' b o (λh=>hb (by simp[h])) e
   self:=λ_ _ _ _ st hQ=>wpAny_pyIter_keyiter st.1 hQ },⟨⟨_,QaF _ rfl,rq,rq⟩,let ⟨o,ho,r⟩:=hm;⟨o,Qaq _ ho,r⟩⟩⟩
@[irreducible] def Ls:YG->Hp->VK->Prop:=λxs H Q=>∃(a:Addr) (kvs:YL),xs=[.ref a]/\H a=some (.dT kvs)/\∀l bs,H l=none->Paired (λb (kv:List Key×V)=>H b=some (.tup (kv.1.map kV))) bs kvs->Q (.ref l) (upd H l (.lst (bs.map V.ref)))
theorem X8 {a:Addr} {kvs:YL} {H:Hp} {Q:VK} (h:H a=some (.dT kvs)) (q:∀l bs,H l=none->Paired (λb (kv:List Key×V)=>H b=some (.tup (kv.1.map kV))) bs kvs->Q (.ref l) (upd H l (.lst (bs.map V.ref)))):Ls [.ref a] H Q:=by
 unfold Ls;exact⟨a,kvs,rq,h,q⟩
theorem Oc {H:Hp}:∀{kvs:YL} {us:YE},us.length=kvs.length->(∀(j:Nat) (u:Value),us[j]?=some u->∃(kv:List Key×V) (b:Addr),kvs[j]?=some kv/\u=.ref b/\H b=some (.tup (kv.1.map kV)))->∃bs:List Addr,Vals (bs.map V.ref) us/\Paired (λb (kv:List Key×V)=>H b=some (.tup (kv.1.map kV))) bs kvs
 | [],[],_,_=>⟨[],.nil,.nil⟩
 | [],_::_,h,_=>by simp at h
 | _::_,[],h,_=>by simp at h
 | kv::r,u::us,h,g=>by
  obtain⟨bs,h1,h2⟩:=Oc (H:=H) (kvs:=r) (us:=us) (by simpa using h) λj u hu=>by
   obtain⟨kv',b,e,q⟩:=g (j+1) u (by simpa using hu);exact⟨kv',b,by simpa using e,q⟩
  obtain⟨kv',b,e,e2,q⟩:=g 0 u rfl;cases e;exact⟨b::bs,.cons e2 h1,.cons q h2⟩
theorem Ui {X:Cx} (hc:X.calm=true):Dj X (.type "list") Ls:=by
 intro jb s Z H xs us Q I r h;unfold Ls at h;obtain⟨a,kvs,rfl,e,q⟩:=h;obtain⟨u,rfl,rx⟩:=vals1 r;cases rx;obtain⟨z,lo,xs,h3,ob,es,ep,h4,h5,h6,h7,_⟩:=(show Bo X.prog X.w H s.heap a (.dT kvs) from I.hok a _ e)
 obtain⟨hz,rel⟩:=Yb h3 h7;refine PySem.W.kdl_call (fX (es:=es) (ep:=ep) lo) (I.ok.hd hc) ⟨ob,h4,h5,h6⟩ (by omega) λh' tk acc c' hk hS hacc=>?_;obtain⟨bs,b1,b2⟩:=Oc (H:=H) (kvs:=kvs) (us:=acc.toList) (by rw[QaG,hacc.1,hz]) λj u hu=>by
  obtain⟨en,hen,e2⟩:=hacc.2 j u (by rw[<-Qax];exact hu);have hj:j < kvs.length:=by
   have:=(Qaf.mp hen).1;omega
  obtain⟨b,en',h8,h9,h10,_⟩:=rel j kvs[j] (Qak hj);rw[hen] at h8;cases h8;exact⟨kvs[j],b,Qak hj,by rw[e2,h9],h10⟩
 have fr:=I.hok.fresh (QbZ s.heap.objs.size);refine⟨.ref s.heap.objs.size,_,I.laid (t':=tk) (o:=.lst (bs.map V.ref)) (λb o q=>hk b o q) (QbZ _) ?_,rq,q _ bs fr b2⟩;exact⟨by rw[Qbt,QbL b2];exact z,acc.toList,c',b1,hS⟩
theorem gF {H:Hp}:∀{l:YL} {m:List (List Key×Addr×Value)} {i:Nat} {p:List Key×V},Paired (λ(p:List Key×V) (q:List Key×Addr×Value)=>p.1=q.1/\H q.2.1=some (.tup (p.1.map kV))/\RelV p.2 q.2.2) l m->l[i]?=some p->∃x,m[i]?=some x/\p.1=x.1/\H x.2.1=some (.tup (p.1.map kV))/\RelV p.2 x.2.2:=by
 intro l m i p r
 induction r generalizing i with
 | nil=>intro h;cases h
 | cons a t ih=>
  intro h;cases i with
  | zero=>cases h;exact⟨_,rfl,a⟩
  | succ i=>exact ih h
theorem Pz {H:Hp}:∀{l:YL} {m:List (List Key×Addr×Value)} {i:Nat} {x:List Key×Addr×Value},Paired (λ(p:List Key×V) (q:List Key×Addr×Value)=>p.1=q.1/\H q.2.1=some (.tup (p.1.map kV))/\RelV p.2 q.2.2) l m->m[i]?=some x->∃p,l[i]?=some p/\p.1=x.1/\H x.2.1=some (.tup (p.1.map kV))/\RelV p.2 x.2.2:=by
 intro l m i x r
 induction r generalizing i with
 | nil=>intro h;cases h
 | cons a t ih=>
  intro h;cases i with
  | zero=>cases h;exact⟨_,rfl,a⟩
  | succ i=>exact ih h
section
variable {X:Cx} {o e f:Expr} {apos cpos:Pos} {td ty tx:TE}
end
def tC1 (sp:Sp) (t0:TE):TE:=fun Z H Q=>t0 Z H λv0 H0=>sp [v0] H0 Q E0
def tC2 (sp:Sp) (t0 t1:TE):TE:=fun Z H Q=>t0 Z H λv0 H0=>t1 Z H0 λv1 H1=>sp [v0,v1] H1 Q E0
def tC3 (sp:Sp) (t0 t1 t2:TE):TE:=fun Z H Q=>t0 Z H λv0 H0=>t1 Z H0 λv1 H1=>t2 Z H1 λv2 H2=>sp [v0,v1,v2] H2 Q E0
def tC4 (sp:Sp) (t0 t1 t2 t3:TE):TE:=fun Z H Q=>t0 Z H λv0 H0=>t1 Z H0 λv1 H1=>t2 Z H1 λv2 H2=>t3 Z H2 λv3 H3=>sp [v0,v1,v2,v3] H3 Q E0
def tC5 (sp:Sp) (t0 t1 t2 t3 t4:TE):TE:=fun Z H Q=>t0 Z H λv0 H0=>t1 Z H0 λv1 H1=>t2 Z H1 λv2 H2=>t3 Z H2 λv3 H3=>t4 Z H3 λv4 H4=>sp [v0,v1,v2,v3,v4] H4 Q E0
def tM0 (C:Addr) (m:Str) (sp:Sp) (ta:TE):TE:=fun Z H Q=>ta Z H λx G=>∃a dx fs,x=.ref a/\G a=some (.ins C dx fs)/\fs.lookup m=none/\sp [x] G Q E0
section
variable {X:Cx} {pl:Sem Bool} {k k':Nat} {C:Addr} {ps:YF} {sp:Sp} {x m:Str} {p apos pos:Pos} {o e0 e1 e2 e3 e4 e5:Expr} {ta t0 t1 t2 t3 t4 t5:TE}
theorem JF (g:Good X.prog X.w X.K X.mg X.base x k ps sp) (hr:Br k' X.A) (ha:PA X [e0] (Dq t0 IK)) (hk:k<=k':=by decide) (hg:Gl X x:=by rfl) (hdb:(x == ("__debug__":Str))=false:=by decide) (he:starEach [e0] X.env=(false,eval e0 X.env)::starEach [] X.env:=by rfl) (hpl:(backTo pos (starEach [] X.env)).any (·.1)=false:=by rfl):PE X (.Call (.Name x p) [e0] [] pos) (tC1 sp t0):=NZ g hr ha hk hg hdb he hpl
theorem Bl (g:Good X.prog X.w X.K X.mg X.base x k ps sp) (hr:Br k' X.A) (ha:PA X [e0,e1] (Dq t0 (Dq t1 IK))) (hk:k<=k':=by decide) (hg:Gl X x:=by rfl) (hdb:(x == ("__debug__":Str))=false:=by decide) (he:starEach [e0,e1] X.env=(false,eval e0 X.env)::starEach [e1] X.env:=by rfl) (hpl:(backTo pos (starEach [e1] X.env)).any (·.1)=false:=by rfl):PE X (.Call (.Name x p) [e0,e1] [] pos) (tC2 sp t0 t1):=NZ g hr ha hk hg hdb he hpl
theorem NT (g:Good X.prog X.w X.K X.mg X.base x k ps sp) (hr:Br k' X.A) (ha:PA X [e0,e1,e2] (Dq t0 (Dq t1 (Dq t2 IK)))) (hk:k<=k':=by decide) (hg:Gl X x:=by rfl) (hdb:(x == ("__debug__":Str))=false:=by decide) (he:starEach [e0,e1,e2] X.env=(false,eval e0 X.env)::starEach [e1,e2] X.env:=by rfl) (hpl:(backTo pos (starEach [e1,e2] X.env)).any (·.1)=false:=by rfl):PE X (.Call (.Name x p) [e0,e1,e2] [] pos) (tC3 sp t0 t1 t2):=NZ g hr ha hk hg hdb he hpl
theorem K9 (g:Good X.prog X.w X.K X.mg X.base x k ps sp) (hr:Br k' X.A) (ha:PA X [e0,e1,e2,e3] (Dq t0 (Dq t1 (Dq t2 (Dq t3 IK))))) (hk:k<=k':=by decide) (hg:Gl X x:=by rfl) (hdb:(x == ("__debug__":Str))=false:=by decide) (he:starEach [e0,e1,e2,e3] X.env=(false,eval e0 X.env)::starEach [e1,e2,e3] X.env:=by rfl) (hpl:(backTo pos (starEach [e1,e2,e3] X.env)).any (·.1)=false:=by rfl):PE X (.Call (.Name x p) [e0,e1,e2,e3] [] pos) (tC4 sp t0 t1 t2 t3):=NZ g hr ha hk hg hdb he hpl
theorem jG (g:Good X.prog X.w X.K X.mg X.base x k ps sp) (hr:Br k' X.A) (ha:PA X [e0,e1,e2,e3,e4] (Dq t0 (Dq t1 (Dq t2 (Dq t3 (Dq t4 IK)))))) (hk:k<=k':=by decide) (hg:Gl X x:=by rfl) (hdb:(x == ("__debug__":Str))=false:=by decide) (he:starEach [e0,e1,e2,e3,e4] X.env=(false,eval e0 X.env)::starEach [e1,e2,e3,e4] X.env:=by rfl) (hpl:(backTo pos (starEach [e1,e2,e3,e4] X.env)).any (·.1)=false:=by rfl):PE X (.Call (.Name x p) [e0,e1,e2,e3,e4] [] pos) (tC5 sp t0 t1 t2 t3 t4):=NZ g hr ha hk hg hdb he hpl
theorem NQ (he:PE X o ta) (c:Cls X.K C) (g:Gp X.prog X.w X.K X.mg X.base C m k ps sp) (hr:Br k' X.A) (hk:k<=k':=by decide) (ht:eval (.Call (.Attribute o m apos) [] [] pos) X.env=(do
   let ov <-eval o X.env
   standAt apos.atName
   let (f,first) <-holding [ov] (getMethod ov m pl)
   callWith pos f first (backTo pos (starEach [] X.env)) (backToKw pos (keywordEach [] X.env))):=by rfl):PE X (.Call (.Attribute o m apos) [] [] pos) (tM0 C m sp ta):=jx (pl:=pl) he c g hr hk ht
end
open PySem.W (KasT kas_asc kas_desc kas_rev kas_tail3 kas_descPart kas_count kas_place kas_bin kas_sort)
structure C4 (a b c k:Int):Prop where
 b0:0<=b
 b1:b < 10000
 c0:0<=c
 c1:c < 10000
 k:k=a*100000000+b*10000+c
def Ia (K:YD) (H:Hp) (v:V) (k:Int):Prop:=∃t a b c x,v=.ref t/\SqT K H t [.int a,.int b,.int c,.str x]/\C4 a b c k
section
variable {prog:Program} {w:World} {A:Around} {s:Shared}
theorem uz {fin:Bool} {C:Bool->Shared->Prop} {a b c k a' b' c' k':Int} {r r':YE} {t1 t2 t3 u1 u2 u3:Tok} (x:C4 a b c k) (y:C4 a' b' c' k') (ne:k≠k') (hC:C (decide (k < k')) s):PySem.W.KatLex prog w A true fin C ((Value.int a t1::Value.int b t2::Value.int c t3::r).zip (Value.int a' u1::Value.int b' u2::Value.int c' u3::r')) 0 s:=by
 have x1:=x.b0;have x2:=x.b1;have x3:=x.c0;have x4:=x.c1;have x5:=x.k;have y1:=y.b0;have y2:=y.b1;have y3:=y.c0;have y4:=y.c1;have y5:=y.k;rw[QaV];refine kat_cons (Qbp ?_);by_cases ha:a=a'
 ·rw[show (a == a')=true by rw[ha];exact Qbr a'];refine kat_yes ?_;rw[QaV];refine kat_cons (Qbp ?_);by_cases hb:b=b'
  ·rw[show (b == b')=true by rw[hb];exact Qbr b'];refine kat_yes ?_;rw[QaV];refine kat_cons (Qbp ?_);have hc:c≠c':=λz=>ne (by rw[x5,y5,ha,hb,z]);rw[show (c == c')=false from QaH.mpr hc]
   refine PySem.W.kat_no (PySem.W.kat_one _ _ (lt_int ?_));rw[show decide (c < c')=decide (k < k') by rw[QbC,QaR,QaR];subst ha hb;constructor <;> intro h <;> omega];exact hC
  ·rw[show (b == b')=false from QaH.mpr hb]
   refine PySem.W.kat_no (PySem.W.kat_one _ _ (lt_int ?_));rw[show decide (b < b')=decide (k < k') by rw[QbC,QaR,QaR];subst ha;constructor <;> intro h <;> omega];exact hC
 ·rw[show (a == a')=false from QaH.mpr ha]
  refine PySem.W.kat_no (oneLt_int ?_);rw[show decide (a < a')=decide (k < k') by rw[QbC,QaR,QaR];constructor <;> intro h <;> omega];exact hC
theorem ou {fin:Bool} {C:Bool->Shared->Prop} {a b c:Int} {x:Str} {t1 t2 t3 t4:Tok} (hC:C fin s):PySem.W.KatLex prog w A true fin C ([Value.int a t1,Value.int b t2,Value.int c t3,Value.str x t4].zip [Value.int a t1,Value.int b t2,Value.int c t3,Value.str x t4]) 0 s:=by
 rw[QaV];refine kat_cons (Qbp ?_);rw[show (a == a)=true from Qbr a]
 refine kat_yes ?_;rw[QaV];refine kat_cons (Qbp ?_);rw[show (b == b)=true from Qbr b]
 refine kat_yes ?_;rw[QaV];refine kat_cons (Qbp ?_);rw[show (c == c)=true from Qbr c]
 refine kat_yes ?_;rw[QaV];refine kat_cons (wpAny_eqBool_str ?_);rw[QbH (rfl:x=x)];exact kat_yes hC
end
theorem Vb {X:Cx} {jb:YC} {Z : St} {H:Hp} {s:Shared} {h':Heap} (I:Inv X jb Z H s) (k:∀b o,H b≠none\/(∃u,X.base.get? b=some u)->s.heap.get? b=some o->h'.get? b=some o) {v:V} {u:Value} {kk:Int} (r:RelV v u) (h:Ia X.K H v kk) :
  ∃(x:Addr) (ox:Obj) (ws:Array Value) (n:Nat) (a b c:Int) (t:Str) (t1 t2 t3 t4:Tok),u=.ref x/\h'.get? x=some ox/\ox.cls=.type "tuple"/\ox.data=.seq ws n/\ws.toList=[Value.int a t1,Value.int b t2,Value.int c t3,Value.str t t4]/\C4 a b c kk:=by
 obtain⟨tp,a,b,c,x,rfl,hq,hc⟩:=h;cases r;obtain⟨ws,rw',⟨o,ho,hcl,n,hd⟩,_⟩:=I.tuple hq;have ho':h'.get? tp=some o:=by
  refine k tp o ?_ ho;rcases hq with (e |⟨_,e⟩) |⟨_,_,_,e,_⟩
  ·exact .inl (by rw[e];exact λz=>nomatch z)
  ·exact .inl (by rw[e];exact λz=>nomatch z)
  ·exact .inr ⟨_,I.mod.kin _ _ e⟩
 cases rw' with
 | cons r0 rr=>
  cases rr with
  | cons r1 rr=>
   cases rr with
   | cons r2 rr=>
    cases rr with
    | cons r3 rr=>
     cases rr;obtain⟨t0,e0⟩:=r0;obtain⟨t1,e1⟩:=r1;obtain⟨t2,e2⟩:=r2;obtain⟨t3,e3⟩:=r3;exact⟨tp,o,_,n,a,b,c,x,t0,t1,t2,t3,rq,ho',hcl,hd,by rw[e0,e1,e2,e3],hc⟩
theorem RJ {X:Cx} {jb:YC} {Z : St} {H:Hp} {s:Shared} {h':Heap} (I:Inv X jb Z H s) (k:∀b o,H b≠none\/(∃u,X.base.get? b=some u)->s.heap.get? b=some o->h'.get? b=some o):∀{vs:YG} {its:YE} {ks:List Int},Vals vs its->Paired (Ia X.K H) vs ks ->
  ∃fs,PySem.W.KatTups h' its fs/\fs.length=its.length/\∀f∈fs,∃i t,f=Value.int i t
 | _,_,_,.nil,_=>⟨[],trivial,rfl,λf h=>nomatch h⟩
 | _,_,_,.cons r t,.cons h hr=>by
  obtain⟨fs,f1,f2,f3⟩:=RJ I k t hr;obtain⟨x,ox,ws,n,a,b,c,tx,t1,t2,t3,t4,rfl,hx,hcl,hd,he,_⟩:=Vb I k r h;refine⟨Value.int a t1::fs,PySem.W.KatTups.cons hx hcl hd (by rw[<-Qax,he];rfl) f1,by simp[f2],λf hf=>?_⟩;rcases QbK.mp hf with rfl | hf
  ·exact⟨_,_,rq⟩
  ·exact f3 f hf
theorem Nt {X:Cx} {jb:YC} {Z : St} {H:Hp} {s s1:Shared} {A:Around} {vs:YG} {its:YE} {ks:List Int} {F:Array Nat->Shared->Prop} (I:Inv X jb Z H s) (k:∀b o,H b≠none\/(∃u,X.base.get? b=some u)->s.heap.get? b=some o->s1.heap.get? b=some o)
  (rv:Vals vs its) (hK:Paired (Ia X.K H) vs ks) (hnd:ks.Nodup) (h2:2<=its.length) (q:∀pp:Array Nat,Pm its.length pp->(pp.toList.map λi=>ks.getD i 0).Pairwise (· < ·)->F pp s1) :
  wpAny (model X.prog X.w) A (keyKind' its.toArray) (fun κ s'=>(kas_sort its.length).kasWp (PySem.W.kas_ask X.prog X.w A κ its) F s') (λ_ _=>False) s1:=by
 have hkl:vs.length=ks.length:=QbL hK;have hlen:vs.length=its.length:=rv.length;obtain⟨fs,f1,f2,f3⟩:=RJ (h':=s1.heap) I k rv hK;refine PySem.W.kat_kind f1 (by omega) (λv hv=>by obtain⟨i,t,rfl⟩:=f3 v hv;exact PySem.W.Looks.of_pure rfl) (T:=.type "int") (by decide) ?_;have inj:Inj its.length (λi=>ks.getD i 0):=λi j hi hj e=>by
  have e:ks.getD i 0=ks.getD j 0:=e;have e1:ks.getD i 0=ks[i]'(by omega):=by simp[show i < ks.length by omega]
  have e2:ks.getD j 0=ks[j]'(by omega):=by simp[show j < ks.length by omega]
  rw[e1,e2] at e;exact XQ hnd _ _ e
 have hp:=M5 (lt:=ltK λi=>ks.getD i 0) _ (Tq (n:=its.length) (by omega));have Ol:=Ht.list hp (Zn inj h2);refine U0 (lt:=ltK λi=>ks.getD i 0) (n:=its.length) (λi j C hi hj hC=>?_) _ (Tq (by omega)) (q _ hp Ol);have d7:∀i,i < its.length->∃(x:Addr) (ox:Obj) (ws:Array Value) (n:Nat) (a b c:Int) (t:Str) (t1 t2 t3 t4:Tok),its.getD i Value.none=.ref x/\s1.heap.get? x=some ox/\ox.cls=.type "tuple"/\ox.data=.seq ws n/\ws.toList=[Value.int a t1,Value.int b t2,Value.int c t3,Value.str t t4]/\C4 a b c (ks.getD i 0):=λi hi=>by
  have hvi:i < vs.length:=by omega
  obtain⟨u,hu,ru⟩:=rv.get (x:=vs[i]) (i:=i) (by simp[hvi]);have hk4:=T5 V.non (0:Int) hK hvi;have ev:vs.getD i V.non=vs[i]:=by simp[hvi]
  rw[ev] at hk4;have:=Vb I k ru hk4;have eu:its.getD i Value.none=u:=by rw[Qae,hu];rfl
  rw[eu];exact this
 obtain⟨x,ox,wx,nx,xa,xb,xc,xt,x1,x2,x3,x4,ex,hx,_,dx,fx,cx⟩:=d7 i hi;obtain⟨y,oy,wy,ny,ya,yb,yc,yt,y1,y2,y3,y4,ey,hy,_,dy,fy,cy⟩:=d7 j hj;unfold PySem.W.kas_ask;rw[ex,ey];refine PySem.W.kat_lt hx dx hy dy ?_;by_cases ne:i=j
 ·subst ne;rw[ex] at ey;cases ey;rw[hx] at hy;cases hy;rw[dx] at dy;cases dy;have e0:ltK (λi=>ks.getD i 0) i i=false:=Qbv (QbQ _);rw[e0] at hC;have e1:decide (wx.size < wx.size)=false:=Qbv (QbO _);rw[e1,fx];exact ou hC
 ·rw[fx,fy];exact uz cx cy (λz=>ne (inj i j hi hj z)) hC
theorem Kd {X:Cx} {jb:YC} {Z : St} {H:Hp} {s:Shared} {h2:Heap} {tk:Nat} {m:YB} {D:Addr} {c:Nat} {vs:YG} {its:YE} (I:Inv X jb Z H s) (hn:s.heap.Ns X.env.locals m) (hn2:h2.Ns X.env.locals m) (kp2:∀b o,b≠X.env.locals->s.heap.get? b=some o->h2.get? b=some o) (nD:∀b o,s.heap.get? b=some o->b≠D)
  (oD:h2.get? D=some (seqObj "list" its.toArray c)) (rv:Vals vs its) (h64:vs.length < 64):H D=none/\Inv X jb Z (upd H D (.lst vs)) { s with heap:=h2,toks:=tk }:=by
 have hDn:H D=none:=by
  cases e:H D with
  | none=>rfl
  | some v=>
   obtain⟨o,ho⟩:=(I.hok D v e).there;exact absurd rfl (nD D o ho)
 refine⟨hDn,?_⟩;have tr:∀(o:HO) b u,H b=some u->(upd H D o) b=some u:=λo b u e=>by rw[Al (Am e hDn)];exact e
 refine I.step (h':=h2) (g':=s.gens) (d':=s.drawn) (t':=tk) (ch:=[]) (λb hb=>absurd hb (by simp)) (λb u hb _ _ e _=>kp2 b u hb e) (λb u hb _ _ e _=>⟨u.slots,kp2 b u hb e⟩) (λb u _ e n=>by rw[Al (nD b u e)];exact n)
  (λb u _ e=>?_) (λb ys e=>tr _ _ _ e) (λb u v e=>tr _ _ _ e) (λb ps e=>⟨#[],by rw[tr _ _ _ e];simp⟩) (λm' hm'=>by rw[gR hm' hn];exact hn2) (λb u e=>?_) I.bare
 ·by_cases hb:b=X.env.locals
  ·obtain⟨o,_,_,ho,_⟩:=hn2;exact⟨o,by rw[hb];exact ho⟩
  ·exact⟨u,kp2 b u hb e⟩
 ·by_cases hb:b=D
  ·subst hb;rw[Ac] at e;cases e;exact⟨QbW (Aq (by omega)),_,c,rv,oD⟩
  ·rw[Al hb] at e;refine (I.hok b u e).stay (λx v hx e1=>kp2 x v ?_ e1) (λx e1=>tr _ _ _ e1) λx ys e1=>tr _ _ _ e1;intro z;rcases hx with hx | hx
   ·rw[<-hx,z,I.free] at e;cases e
   ·rw[z,I.free] at hx;cases hx
@[irreducible] def NK (K:YD):YG->Hp->VK->Prop:=λxs H Q=>∃(p:Addr) (vs:YG) (ks:List Int),xs=[.ref p]/\SqL K H p vs/\vs.length < 64/\Paired (Ia K H) vs ks/\ks.Nodup /\
 ∀(is:List Nat) l,is.Perm (List.range vs.length)->(is.map λi=>ks.getD i 0).Pairwise (· < ·)->H l=none->Q (.ref l) (upd H l (.lst (is.map λi=>vs.getD i .non)))
theorem Zk {K:YD} {p:Addr} {vs:YG} {ks:List Int} {H:Hp} {Q:VK} (h1:SqL K H p vs) (h2:vs.length < 64) (h3:Paired (Ia K H) vs ks) (h4:ks.Nodup)
  (q:∀(is:List Nat) l,is.Perm (List.range vs.length)->(is.map λi=>ks.getD i 0).Pairwise (· < ·)->H l=none->Q (.ref l) (upd H l (.lst (is.map λi=>vs.getD i .non)))):NK K [.ref p] H Q:=by
 unfold NK;exact⟨p,vs,ks,rq,h1,h2,h3,h4,q⟩
theorem eU {X:Cx} {jb:YC} {Z : St} {H:Hp} {s:Shared} (I:Inv X jb Z H s):∀b,H b≠none\/(∃u,X.base.get? b=some u)->b≠X.env.locals:=λb hb z=>by
 rcases hb with hb |⟨u,hb⟩
 ·exact hb (by rw[z];exact I.free)
 ·have:=QbS hb;rw[z] at this;exact absurd (QaP this (QbU I.ok.bsz I.ok.above)) (QbO _)
theorem Nv {ks:List Int} {n:Nat} (h:n < 2) (e:n=ks.length):((List.range n).map λi=>ks.getD i 0).Pairwise (· < ·):=by
 rw[e,range_getD]
 match ks,(show ks.length < 2 by omega) with
 | [],_=>exact List.Pairwise.nil
 | [k],_=>exact List.pairwise_singleton _ _
theorem Td {X:Cx}:Dj X (.builtin "sorted") (NK X.K):=by
 intro jb s Z H xs us Q I r h;unfold NK at h;obtain⟨p,vs,ks,rfl,hq,h64,hK,hnd,q⟩:=h;have hkl:vs.length=ks.length:=QbL hK;obtain⟨u,rfl,rx⟩:=vals1 r;cases rx;obtain⟨its,rv,pl,hz⟩:=I.list hq;have hlen:vs.length=its.length:=rv.length;by_cases h2:2<=its.length
 ·obtain⟨m,hn,_⟩:=id I.loc;refine PySem.W.kat_sorted (Att.RW hn) (Rv (g:=Att.La s.heap) (h:=s.heap) (L:=X.env.locals)) pl.isList h2 (by omega) λD e1 h' F' N' hD=>?_;have kp:∀b o,b≠X.env.locals->s.heap.get? b=some o->h'.get? b=some o:=λb o hb e=>(N' (b,o) (QaA _ (Fo hb (Att.Eo _ _) e))).1;refine Nt I (λb o hb e=>kp b o (eU I b hb) e) rv hK hnd h2 λpp hp Ol=>?_;refine PySem.W.KasFin.intro F' N' (.head λq hq=>QbT (hD q hq)) λh2' c F2 N2=>?_;have kp2:∀b o,b≠X.env.locals->s.heap.get? b=some o->h2'.get? b=some o:=λb o hb e=>(N2 (b,o) (QaA _ (Fo hb (Att.Eo _ _) e))).1;obtain⟨oD,DL,_⟩:=N2 (D,_) (QaQ ..);have nD:∀b o,s.heap.get? b=some o->b≠D:=λb o e z=>by
   by_cases hb:b=X.env.locals
   ·exact DL (by rw[<-z];exact hb)
   ·have:=hD (b,o) (Fo hb (Att.Eo _ _) e);rw[z] at this;exact QbO _ this
  have hmem:∀i∈pp.toList,i < vs.length:=λi hi=>by rw[hlen];exact List.mem_range.mp (hp.mem_iff.mp hi)
  have rv2:Vals (pp.toList.map λi=>vs.getD i .non) (pp.toList.map λi=>its.getD i Value.none):=Jt V.non Value.none rv hmem;have hpl:pp.toList.length=vs.length:=by rw[hp.length_eq,Qbh,hlen]
  obtain⟨hDn,I2⟩:=Kd (tk:=s.toks) I hn F2.ns kp2 nD oD rv2 (by rw[Qbt,hpl];exact h64);exact⟨.ref D,_,I2,rq,q _ D (by rw[hlen];exact hp) Ol hDn⟩
 ·refine KR pl.isList (by omega) λD h' c hD oD kp=>?_;refine⟨.ref D,_,I.laid (t':=s.toks) (o:=.lst vs) kp hD ?_,rq,?_⟩
  ·exact⟨QbW (Aq (by omega)),its,c,rv,oD⟩
  ·have z:=q (List.range vs.length) D (List.Perm.refl _) (Nv (by omega) hkl) (I.hok.fresh hD);rw[range_getD] at z;exact z
end L2
namespace L2
open PySem PySem.Spec PyProof.Rows
theorem TJ {prog:Program} {w:World} {K:Type} [DecidableEq K] {knd:HeapKind prog w K} {A:Around} {E:YA} {s:Shared} {d a:Addr} {o:Obj} {es:YK} {ep:Nat} {xs:List (K×Addr×Value)} {k:K} {dflt:Value} {Q:YA} (hu:knd.room A) (hkey:knd.is s.heap k a)
  (ho:s.heap.get? d=some o) (hc:o.ExactDict) (hd:o.data=.dict es ep) (he:es.toList=xs.map (entryOfKey knd)) (his:∀x∈xs,knd.is s.heap x.1 x.2.1) (hn:(xs.map (·.1)).Nodup) (hz:xs.length < sizeLine)
  (hthere:∀(j:Nat) (p:Addr×Value),xs[j]?=some (k,p)->Q p.2 { s with toks:=s.toks+knd.draws k })
  (hnew:(∀(j:Nat) (p:Addr×Value),xs[j]?≠some (k,p))->∀h' o' es',h'.get? d=some o'->o'.ExactDict->o'.data=.dict es' (ep+1)->es'.toList=(xs++[(k,a,dflt)]).map (entryOfKey knd)->Heap.SameBut d s.heap h'->Q dflt { s with heap:=h',toks:=s.toks+knd.draws k }) :
  wpAny (model prog w) A (dictSetDefault d (.ref a) dflt) Q E s:=by
 unfold dictSetDefault
 try with_reducible refine QbP ?_
 have hsz:=size_of_entries he;refine Qcb (knd.pyHash hu hkey (Qcb (wpAny_dictFind_heap (s:={ s with toks:=s.toks+knd.draws k }) hu hkey ho hd he his hn (λhno=>?_) λj p hj=>?_)))
 ·refine Qcb (wpAny_rule ?_);have hle:(es.push ⟨knd.hash k,.ref a,dflt⟩).toList=(xs++[(k,a,dflt)]).map (entryOfKey knd):=by
   rw[Array.toList_push,he,Qbw];rfl
  refine Qcb (wpAny_updateDictKeys (hz:=by omega) (hf:=by rw[Array.size_push];omega) (s:={ s with toks:=s.toks+knd.draws k }) ho hd ?_);exact Qcc (hnew hno _ _ _ (Qaw _ ho (Obj.isFreed_of_dict (Obj.data_mapDictKeys hd _))) (hc.mapDictKeys _) (Obj.data_mapDictKeys hd _) hle (QaK ..))
 ·refine Qcb (wpAny_dictEntries (s:={ s with toks:=s.toks+knd.draws k }) ho hd ?_);rw[entry_at he j,hj];exact Qcb (wpAny_rule (Qcc (hthere j p hj)))
def Xf (td ty tx:TE):TE:=fun Z H Q=>td Z H λx H1=>∃a,x=.ref a/\IsD H1 a/\ty Z H1 λy H2=>tx Z H2 λz H3=>∃kvs k b,H3 a=some (.dT kvs)/\y=.ref b/\H3 b=some (.tup (k.map kV))/\kvs.length < sizeLine /\
 (∀(j:Nat) (v:V),kvs[j]?=some (k,v)->Q v H3)/\((∀(j:Nat) (v:V),kvs[j]?≠some (k,v))->Q z (upd H3 a (.dT (kvs++[(k,z)]))))
theorem BZ {α β : Type} {F:α->β->Prop}:∀{l l':List α} {m m':List β},Paired F l m->Paired F l' m'->Paired F (l++l') (m++m')
 | _,_,_,_,.nil,h=>h
 | _,_,_,_,.cons a t,h=>.cons a (BZ t h)
theorem Yz {X:Cx} {jb:YC} {Z : St} {H:Hp} {s:Shared} {A:Around} {E:YA} {a b:Addr} {kvs:YL} {k:List Key} {z:V} {r:Value} {Q:YA} (hu:A.units+1 < cLine) (I:Inv X jb Z H s) (e:H a=some (.dT kvs)) (eb:H b=some (.tup (k.map kV))) (rz:RelV z r) (hl:kvs.length < sizeLine)
  (h1:∀(j:Nat) (v:V),kvs[j]?=some (k,v)->∀w' s',Inv X jb Z H s'->RelV v w'->Q w' s') (h2:(∀(j:Nat) (v:V),kvs[j]?≠some (k,v))->∀s',Inv X jb Z (upd H a (.dT (kvs++[(k,z)]))) s'->Q r s'):wpAny (model X.prog X.w) A (call (.builtin "dict.setdefault") [.ref a,.ref b,r]) Q E s:=by
 obtain⟨zz,lo,xs,rel,ob,es,ep,h4,h5,h6,h7,h8⟩:=(show Bo X.prog X.w H s.heap a (.dT kvs) from I.hok a _ e)
 have T:s.TypeIs (.ref a) "dict":=⟨ob,h4,h5.1⟩;refine Qbl F.slot_dict_setdefault T F.entry_dict_setdefault ?_ (F.args_dict_setdefault_3 _ _ _);unfold Builtin.«dict.setdefault»;refine Qcb ?_;unfold Builtin.Dict.keyAndDefault;refine Qcb (wpAny_notOrdered_dict T ?_);show wpAny _ _ (pure (a,Value.ref b,some r)) _ _ s;refine Qcc ?_;dsimp only;rw[if_neg (by rw[lo];exact QaL)];have hlen:xs.length=kvs.length:=(QbL rel).symm;have hkey:=Od I.hok eb;refine Qcb (TJ (knd:=tupleKind (Cp X.prog X.w)) (tupleKind_room_in1 hu) hkey h4 h5 h6 h7 ?_ h8 (by omega) (λj p hj=>?_) λhno h' o' es' g1 g2 g3 g4 sb=>?_)
 ·intro x hx;obtain⟨i,hi⟩:=QaE hx;obtain⟨pv,_,e1,hb,_⟩:=Pz rel hi;rw[<-e1];exact Od I.hok hb
 ·obtain⟨pv,hp,e1,_,rv⟩:=Pz rel hj;have hp:kvs[j]?=some (k,pv.2):=by
   rw[hp];have:pv.1=k:=e1;rw[<-this]
  exact Qcc ⟨_,rq,h1 j pv.2 hp _ _ (I.tok _) rv⟩
 ·have nd:((xs++[(k,b,r)]).map (·.1)).Nodup:=by
   rw[Qbw];refine List.nodup_append.mpr ⟨h8,(by simp),λx hx y hy=>?_⟩;rw[QaM.mp hy];obtain⟨p,hp,rfl⟩:=QbV.mp hx;obtain⟨i,hi⟩:=QaE hp;intro z;refine hno i p.2 ?_;rw[hi];have:p.1=k:=z;rw[<-this]
  refine Qcc ⟨_,rq,h2 (λj v hj=>?_) _ ?_⟩
  ·obtain⟨q,hq,e1,_⟩:=gF rel hj;have e1:k=q.1:=e1;exact hno j q.2 (by rw[hq,e1])
  ·have keep:∀(o:HO) (c:Addr) (ys:YG),H c=some (.tup ys)->(upd H a o) c=some (.tup ys):=λo c ys ec=>by rw[Al (eV ec e (λz=>nomatch z))];exact ec
   refine Pr I (by rw[e];exact True.intro) sb ⟨o',g1⟩ ⟨by rw[QaN];exact hl,lo,xs++[(k,b,r)],?_,o',es',_,g1,g2,g3,g4,nd⟩;refine BZ (Paired.Kf rel λx y hxy=>⟨hxy.1,keep _ _ _ hxy.2.1,hxy.2.2⟩) (.cons ⟨rq,keep _ _ _ eb,rz⟩ .nil)
section
variable {X:Cx} {o e f:Expr} {apos cpos:Pos} {td ty tx:TE}
theorem T4 (hu:X.A.units+1 < cLine) (ho:PE X o td) (he:PE X e ty) (hf:PE X f tx) (m:M2 X o "setdefault" apos e f cpos):PE X (.Call (.Attribute o "setdefault" apos) [e,f] [] cpos) (Xf td ty tx):=by
 intro jb s Z H Q I h;refine wpAny_Call_method m.base m.few m.line PySem.F.plainAttrs_dict PySem.F.slot_dict_setdefault PySem.F.type_dict_setdefault (thn (ho jb s Z H _ I h) λu s1 zz=>?_);obtain⟨x,H1,I1,rx,a,ex,d,q1⟩:=zz;subst ex;obtain rfl:u=Value.ref a:=rx;obtain⟨t1,t2,_⟩:=Yj I1 d;refine⟨t1,t2,?_⟩;rw[m.trees];refine Calls.callWith_builtin rfl (Calls.evalArgs_plain (QaW (thn (he jb s1 Z H1 _ I1 q1) λiv s2 ⟨y,H2,I2,ry,q2⟩=>
  QaW (thn (hf jb s2 Z H2 _ I2 q2) λfv s3 ⟨z,H3,I3,rz,kvs,k,b,ea,ey,eb,hl,q3,q4⟩=>Calls.spliced_nil ?_))))
 subst ey;obtain rfl:iv=Value.ref b:=ry;exact Yz hu I3 ea eb rz hl (λj v hj w' s4 I4 rw'=>⟨v,_,I4,rw',q3 j v hj⟩) λhno s4 I4=>⟨z,_,I4,rz,q4 hno⟩
end
section
variable {prog:Program} {w:World} {A:Around} {E:YA} {s:Shared}
theorem VD {d:Addr} {ep:Nat} {es:YK} (lo:(d == sysModules)=false) :
  MeetsIn prog w (Builtin.«dict.values» ⟨[.ref d],[]⟩) (λ_ R s=>Jr s.heap d es ep/\R (.ok (.ret (.ref s.heap.objs.size))) { s with heap:=s.heap.push { cls:=.type "dict_values",data:=.fields #[.ref d] } }):=
 .of_wp λA R s ⟨hm,h⟩=>by
  obtain⟨od,hod,xd,dd⟩:=hm;have T:s.TypeIs (.ref d) "dict":=⟨od,hod,xd.1⟩;obtain⟨Pq,Mi,Mj,JM⟩:=od;obtain⟨x1,x2⟩:=xd;dsimp only at dd x1;subst dd x1;unfold Builtin.«dict.values»
  wp_walk
  exact⟨_,rq,h⟩
theorem Nz {v d:Addr} {es:YK} {ep:Nat} {Q:YA} (hv:s.heap.IsValuesView v d) (R:Jr s.heap d es ep)
  (hQ:Q (.ref s.heap.objs.size) { s with heap:=s.heap.push { cls:=.type "dict_valueiterator",data:=.fields #[.ref d,.int 0 0,.int es.size 0,.int ep 0] } }):wpAny (model prog w) A (pyIter (.ref v)) Q E s:=by
 have T:=hv.typeIs;rcases hv with⟨⟨yL,yF,yG,yC⟩,hov,hcv,hdv⟩;rcases R with⟨⟨Pq,Mi,Mj,JM⟩,hod,xd,dd⟩;dsimp only at hcv hdv dd;subst hcv hdv dd;refine wpAny_pyIter_slot T F.slot_dict_values_iter (Qbl F.slot_dict_values_iter T F.entry_dict_values_iter ?_ (F.args_dict_values_iter_1 _));unfold Builtin.«dict_values.__iter__»
 wp_walk
 have rB:Builtin.Dict_items.ownsTuple "dict_valueiterator"=false:=by decide
 refine⟨_,rq,"dict_valueiterator",_,⟨_,QaF _ rfl,rq⟩,Qab.lookup,?_⟩;simpa [rawInt,rB] using hQ
theorem Xp {it d:Addr} {i ep:Nat} {es:YK} {en:DictEntry} {Q:Option Value->Shared->Prop} (K:s.heap.IsValIter it d i es.size ep) (R:Jr s.heap d es ep) (hx:es[i]?=some en)
  (q:∀h',h'.IsValIter it d (i+1) es.size ep->Heap.SameBut it s.heap h'->Q (some en.val) { s with heap:=h' }):wpAny (model prog w) A (pyNext (.ref it)) Q E s:=by
 have T:=K.typeIs;obtain⟨oi,hoi,ci,di⟩:=K;obtain⟨od,hod,xd,dd⟩:=R;have hlt:i < es.size:=(Qaf.mp hx).1;obtain⟨cF,Ws,Wt,RK⟩:=oi;obtain⟨Pq,Mi,Mj,JM⟩:=od;dsimp only at ci di dd;subst ci di dd;obtain⟨hp,g,dr,tk,os⟩:=s;unfold pyNext;refine Qcb (wpAny_attempt (Qao (name:=Str.ofString "__next__") T Qab (Qbl Qab T F.entry_dict_valueiterator_next ?_ (F.args_dict_valueiterator_next_1 _))));have e1:typeName (.type "dict_valueiterator")=pure "dict_valueiterator":=by unfold typeName;rw[find?_eq_fast];kernel_rfl
 have e2:=mroOf_valiter
 wp_walk
 have hidx:(if (i:Int) < 0 then none else es[((i:Int)).toNat]?)=some en:=by rw[if_neg (by omega),Qbb];exact hx
 simp only[hidx]
 wp_walk
 refine⟨_,rq,Qcc (q _ ⟨_,Qaw _ hoi ?_,rq,?_⟩ (QaK ..))⟩
 all_goals first | rfl | trace_state
theorem Zu {it d:Addr} {i ep:Nat} {es:YK} {Q:Option Value->Shared->Prop} (hh:A.handled=none) (K:s.heap.IsValIter it d i es.size ep) (R:Jr s.heap d es ep) (hx:es[i]?=none)
  (q:∀h',Heap.ExtBut it s.heap h'->Q none { s with heap:=h' }):wpAny (model prog w) A (pyNext (.ref it)) Q E s:=by
 have T:=K.typeIs;obtain⟨oi,hoi,ci,di⟩:=K;obtain⟨od,hod,xd,dd⟩:=R;obtain⟨cF,Ws,Wt,RK⟩:=oi;obtain⟨Pq,Mi,Mj,JM⟩:=od;dsimp only at ci di dd;subst ci di dd;obtain⟨hp,g,dr,tk,os⟩:=s;unfold pyNext;refine Qcb (wpAny_attempt (Qao (name:=Str.ofString "__next__") T Qab (Qbl Qab T F.entry_dict_valueiterator_next ?_ (F.args_dict_valueiterator_next_1 _))));have e1:typeName (.type "dict_valueiterator")=pure "dict_valueiterator":=by unfold typeName;rw[find?_eq_fast];kernel_rfl
 have e2:=mroOf_valiter;have hh1:A.in1.handled=none:=hh
 wp_walk
 have hidx:(if (i:Int) < 0 then none else es[((i:Int)).toNat]?)=none:=by rw[if_neg (by omega),Qbb];exact hx
 simp only[hidx]
 wp_walk
 unfold raiseNew
 wp_walk
 refine wpAny_of_eq isSubtype_stop ?_
 wp_walk
 exact q _ (((QaK ..).extBut.push _).push _)
end
theorem Zt {prog:Program} {w:World} {r d:Addr} {es:YK} {ep:Nat}:PySem.W.KdlSrc prog w "dict_values" r d es.size (λi v=>∃en,es[i]?=some en/\v=en.val) (λh=>h.IsValuesView r d/\Jr h d es ep) where
 type:=λ_ hm=>hm.1.typeIs
 there:=λ_ hm=>⟨let ⟨_,ho,_⟩:=hm.1;QbS ho,let ⟨_,ho,_⟩:=hm.2;QbS ho⟩
 keep:=λ_ _ hm hk=>⟨let ⟨o,ho,x⟩:=hm.1;⟨o,hk r (.inl rfl) o ho,x⟩,let ⟨o,ho,x⟩:=hm.2;⟨o,hk d (.inr rfl) o ho,x⟩⟩
 notList:=by decide
 notTuple:=by decide
 hint:=λ_ _ _ _ hm hq=>PySem.W.kdl_hint_values hm.1.typeIs hq
 iter:=λA s hh hm=>⟨_,λi h=>h.IsValIter s.heap.objs.size d i es.size ep/\Jr h d es ep,(λ_ _ hq=>Nz hm.1 hm.2 hq),{
   sub:=λb hb=>by simp at hb;simp[hb]
   frame:=λ_ _ _ st hk=>⟨let ⟨o,ho,x⟩:=st.1;⟨o,hk s.heap.objs.size (by simp) o ho,x⟩,let ⟨o,ho,r⟩:=st.2;⟨o,hk d (by simp) o ho,r⟩⟩
   item:=λi s' Q E hi st hQ=>by
    have hne:d≠s.heap.objs.size:=let ⟨o,ho,_⟩:=hm.2;QbT (QbS ho);have hx:es[i]?=some es[i]:=by simp[hi]
    refine Xp st.1 st.2 hx λh' hit' hs'=>?_;obtain⟨o,ho,r⟩:=st.2;exact hQ es[i].val h' s'.toks ⟨es[i],hx,rq⟩ ⟨hit',o,hs'.extBut d o hne ho,r⟩ λb o hb e=>hs'.extBut b o (λh=>hb (by simp[h])) e
   done:=λs' Q E st hQ=>Zu hh st.1 st.2 (by simp) λh' he'=>hQ h' s'.toks λb o hb e=>he' b o (λh=>hb (by simp[h])) e
   self:=λ_ _ _ _ st hQ=>wpAny_pyIter_valiter st.1 hQ },⟨⟨_,QaF _ rfl,rq,rq⟩,let ⟨o,ho,r⟩:=hm.2;⟨o,Qaq _ ho,r⟩⟩⟩
open PySem.W (KasT kas_asc kas_desc kas_rev kas_tail3 kas_descPart kas_count kas_place kas_bin kas_sort)
section
variable {prog:Program} {w:World} {A:Around} {E:YA} {s:Shared}
theorem Uc {D:Addr} {vs:YE} {c0:Nat} {Q:YA} (oD:s.heap.get? D=some (seqObj "list" vs.toArray c0)) (h1:vs.length < 2)
  (h:∀h' c,h'.get? D=some (seqObj "list" vs.toArray c)->(∀b o,b≠D->s.heap.get? b=some o->h'.get? b=some o)->Q .none { s with heap:=h' }):wpAny (model prog w) A (call (.builtin "list.sort") [.ref D]) Q E s:=by
 have h2:vs.toArray.size < 2:=by rw[QaZ];exact h1
 have hz:vs.length<=sizeLine:=QbW (Aq (by omega));refine Qbl slot_list_sort ⟨_,oD,rq⟩ entry_list_sort ?_ (args_list_sort _);rw[list_sort_plain];refine Qcb (listItems_at (a:=D) oD rfl ?_);refine Qcb (listUpdate_at (a:=D) oD rfl ?_ (by rw[QaZ];exact hz) (Qca _));obtain⟨e1,o1⟩ : ∃e1,(s.heap.update D (Obj.mapSeq λ_=>(#[]:Array Value))).get? D=some (seqObj "list" #[] e1):=⟨_,get?_update_seq oD λ_=>#[]⟩;have k3:∀b o,b≠D->s.heap.get? b=some o->(s.heap.update D (Obj.mapSeq λ_=>(#[]:Array Value))).get? b=some o:=λb o nb q=>by rw[Qar _ _ (Ne.symm nb)];exact q
 have zip2:(arrOf (SortSt.mk' general' (vs.toArray.zip vs.toArray) #[] 7 none)).map (·.2)=vs.toArray:=by
  show (vs.toArray.zip vs.toArray).map (·.2)=vs.toArray;apply Array.toList_inj.mp;simp[Array.toList_zip,List.map_snd_zip]
 dsimp only;generalize s.heap.update D (Obj.mapSeq λ_=>(#[]:Array Value))=g3 at o1 k3 ⊢;refine Qcb (seqEpoch_at (a:=D) o1 rfl ?_);refine Qcb (wpAny_newTuple ?_ (by simpa using hz));refine Qcb (wpAny_newList (items:=[]) ?_ (Qca _));refine QbP ?_;have o5:∀x y:Obj,((g3.push x).push y).get? D=some (seqObj "list" #[] e1):=λx y=>Qaq _ (Qaq _ o1);have k5:∀x y:Obj,∀b o,b≠D->s.heap.get? b=some o->((g3.push x).push y).get? b=some o:=λx y b o nb q=>Qaq _ (Qaq _ (k3 b o nb q));dsimp only;rw[if_pos h2,if_pos h2];refine Qcb (Qcc ?_);rw[StateT.run_pure];refine Qcb (Qcc ?_);dsimp only;refine Qcb (seqEpoch_at (a:=D) (o5 _ _) rfl ?_);rw[zip2];refine Qcb (listUpdate_at (a:=D) (o5 _ _) rfl ?_ (Qca _) (by first | (rw[QaZ];exact hz) | (rw[QaZ];omega)))
 simp only[bne_self_eq_false,Bool.false_eq_true,if_false];obtain⟨c,oF⟩ : ∃c,(((g3.push { cls:=.type "tuple",data:=.seq vs.toArray }).push { cls:=.type "list",data:=.seq #[] }).update D (Obj.mapSeq λ_=>vs.toArray)).get? D=some (seqObj "list" vs.toArray c):=⟨_,get?_update_seq (o5 _ _) λ_=>vs.toArray⟩;refine Qcc ⟨_,rq,h _ c oF λb o nb q=>?_⟩;rw[Qar _ _ (Ne.symm nb)];exact k5 _ _ b o nb q
end
theorem Nh {H:Hp}:∀{kvs:YL} {us:YE},us.length=kvs.length->(∀(j:Nat) (u:Value),us[j]?=some u->∃kv:List Key×V,kvs[j]?=some kv/\RelV kv.2 u)->Vals (kvs.map (·.2)) us
 | [],[],_,_=>.nil
 | [],_::_,h,_=>by simp at h
 | _::_,[],h,_=>by simp at h
 | kv::r,u::us,h,g=>by
  obtain⟨kv',e,q⟩:=g 0 u rfl;cases e;exact .cons q (Nh (H:=H) (kvs:=r) (us:=us) (by simpa using h) λj u hu=>by
   obtain⟨kv',e,q⟩:=g (j+1) u (by simpa using hu);exact⟨kv',by simpa using e,q⟩)
def jd (K:YD) (td:TE):TE:=fun Z H Q=>td Z H λx H1=>∃(a:Addr) (kvs:YL) (ks:List Int),x=.ref a/\H1 a=some (.dT kvs)/\kvs.length < 64/\Paired (Ia K H1) (kvs.map (·.2)) ks/\ks.Nodup /\
 ∀(is:List Nat) l,is.Perm (List.range kvs.length)->(is.map λi=>ks.getD i 0).Pairwise (· < ·)->H1 l=none->Q (.ref l) (upd H1 l (.lst (is.map λi=>(kvs.map (·.2)).getD i .non)))
theorem T3 {X:Cx} {d:Expr} {td:TE} {q apos cpos pos2:Pos} (hc:X.calm=true) (hg:Gl X "sorted") (hm:X.mg "sorted"=none) (hd:PE X d td) (hbase:attributeBase d "values" X.env (eval d X.env)=eval d X.env:=by rfl) (hline:(apos.endLine == cpos.line)=true:=by rfl)
  (hs0:starEach [.Call (.Attribute d "values" apos) [] [] cpos] X.env=[(false,eval (.Call (.Attribute d "values" apos) [] [] cpos) X.env)]:=by rfl) :
  PE X (.Call (.Name "sorted" q) [.Call (.Attribute d "values" apos) [] [] cpos] [] pos2) (jd X.K td):=by
 intro jb s Z H Q I h;have inner:wpAny (model X.prog X.w) X.A (eval (.Call (.Attribute d "values" apos) [] [] cpos) X.env) (λv s1=>∃(s0:Shared) (H1:Hp) (a:Addr) (kvs:YL) (ks:List Int),v=.ref s0.heap.objs.size/\s1={ s0 with heap:=s0.heap.push { cls:=.type "dict_values",data:=.fields #[.ref a] } }/\Inv X jb Z H1 s0/\H1 a=some (.dT kvs)/\kvs.length < 64/\Paired (Ia X.K H1) (kvs.map (·.2)) ks/\ks.Nodup /\
   ∀(is:List Nat) l,is.Perm (List.range kvs.length)->(is.map λi=>ks.getD i 0).Pairwise (· < ·)->H1 l=none->Q (.ref l) (upd H1 l (.lst (is.map λi=>(kvs.map (·.2)).getD i .non)))) X.xe s:=by
  refine wpAny_Call_method0_late hbase hline (thn (hd jb s Z H _ I h) λv s1 zz=>?_);obtain⟨x,H1,I1,r1,a,kvs,ks,ex,e,h64,hK,hnd,q⟩:=zz;subst ex;cases r1;obtain⟨t1,t2,hsm⟩:=Yj I1 (.inr ⟨kvs,.inl e⟩);obtain⟨_,_,xs,h3,ob,es,ep,h4,h5,h6,h7,_⟩:=(show Bo X.prog X.w H1 s1.heap a (.dT kvs) from I1.hok a _ e)
  refine⟨"dict","dict.values",F.plainAttrs_dict,F.slot_dict_values,F.type_dict_values,t1,t2,Calls.callWith_builtin rfl (PySem.evalArgs_none ?_)⟩;exact call_meetsIn F.slot_dict_values t1 F.entry_dict_values (F.args_dict_values_1 _) (VD (es:=es) (ep:=ep) hsm) ⟨⟨ob,h4,h5,h6⟩,s1,H1,a,kvs,ks,rq,rq,I1,e,h64,hK,hnd,q⟩
 refine QaT (Gm I hg hm (u:=.builtin "sorted") (by trivial) ?_);refine PyProof.Rows.callWith_builtin1 (Q:=EP X jb Z Q) ?_ hs0 rfl;rw[hs0];show wpAny _ _ (spliced ((false,eval (.Call (.Attribute d "values" apos) [] [] cpos) X.env)::backTo pos2 [])) _ _ s;refine QaW (thn inner λv s1 zz=>?_);obtain⟨s0,H1,a,kvs,ks,e,e1,I1,ea,h64,hK,hnd,q⟩:=zz;subst e e1;refine Calls.spliced_nil ?_;obtain⟨_,_,xs,h3,ob,es,ep,h4,h5,h6,h7,_⟩:=(show Bo X.prog X.w H1 s0.heap a (.dT kvs) from I1.hok a _ ea)
 obtain⟨hes,rel⟩:=Yb h3 h7;obtain⟨m,hn,_⟩:=id I1.loc;have oA:∀b o,s0.heap.get? b=some o->(s0.heap.push { cls:=.type "dict_values",data:=.fields #[.ref a] }).get? b=some o:=λb o e=>Qaq _ e;refine PySem.W.kdu_sorted (s:={ s0 with heap:=s0.heap.push { cls:=.type "dict_values",data:=.fields #[.ref a] } }) (Zt (es:=es) (ep:=ep)) (I1.ok.hd hc) ((Att.RW hn).push _) (News.push (Att.RW hn) (Rv (g:=Att.La s0.heap) (h:=s0.heap) (L:=X.env.locals)) _ rfl)
  ⟨⟨_,QaF _ rfl,rq,rq⟩,ob,oA _ _ h4,h5,h6⟩ (by rw[hes];exact QbW (Aq (by omega))) λD h' tk us F' N' hD hl hP=>?_
 have rv:Vals (kvs.map (·.2)) us:=Nh (H:=H1) (by rw[hl,hes]) λj u hu=>by
  obtain⟨en,hen,e2⟩:=hP j u hu;have hj:j < kvs.length:=by
   have:=(Qaf.mp hen).1;omega
  obtain⟨b,en',h8,_,_,h9⟩:=rel j kvs[j] (Qak hj);rw[hen] at h8;cases h8;exact⟨kvs[j],Qak hj,by rw[e2];exact h9⟩
 have hkl:(kvs.map (·.2)).length=ks.length:=QbL hK;have hlen:(kvs.map (·.2)).length=us.length:=rv.length;have hml:(kvs.map (·.2)).length=kvs.length:=Qbt _;have kp:∀b o,b≠X.env.locals->s0.heap.get? b=some o->h'.get? b=some o:=λb o hb e=>(N' (b,o) (QaA _ (QaA _ (Fo hb (Att.Eo _ _) e)))).1;have nD:∀b o,s0.heap.get? b=some o->b≠D:=λb o e z=>by
  have h1:=hD _ (QaQ ..);have h2:=QbS e;rw[z] at h2;exact QbO _ (Nat.lt_trans h1 h2)
 by_cases h2:2<=us.length
 ·refine PySem.W.kat_lsort F' N' (.head λq hq=>QbT (hD q hq)) (vs:=us) (by simp) h2 (by omega) λe1 h'' F'' N''=>?_;have kp':∀b o,b≠X.env.locals->s0.heap.get? b=some o->h''.get? b=some o:=λb o hb e=>(N'' (b,o) (QaA _ (QaA _ (Fo hb (Att.Eo _ _) e)))).1;refine Nt I1 (λb o hb e=>kp' b o (eU I1 b hb) e) rv hK hnd h2 λpp hp Ol=>?_;refine PySem.W.KasFin.intro F'' N'' (.head λq hq=>QbT (hD q hq)) λh2' c F2 N2=>?_;have kp2:∀b o,b≠X.env.locals->s0.heap.get? b=some o->h2'.get? b=some o:=λb o hb e=>(N2 (b,o) (QaA _ (QaA _ (Fo hb (Att.Eo _ _) e)))).1;obtain⟨oD,DL,_⟩:=N2 (D,_) (QaQ ..);have hmem:∀i∈pp.toList,i < (kvs.map (·.2)).length:=λi hi=>by rw[hlen];exact List.mem_range.mp (hp.mem_iff.mp hi)
  have rv2:Vals (pp.toList.map λi=>(kvs.map (·.2)).getD i .non) (pp.toList.map λi=>us.getD i Value.none):=Jt V.non Value.none rv hmem;have hpl:pp.toList.length=kvs.length:=by rw[hp.length_eq,Qbh,<-hlen,hml]
  obtain⟨hDn,I2⟩:=Kd (tk:=tk) I1 hn F2.ns kp2 nD oD rv2 (by rw[Qbt,hpl];exact h64);exact⟨.ref D,_,I2,rq,q _ D (by rw[<-hml,hlen];exact hp) Ol hDn⟩
 ·refine Uc (c0:=0) (N' (D,_) (QaQ ..)).1 (by omega) λh'' c oD kk=>?_;have kp2:∀b o,b≠X.env.locals->s0.heap.get? b=some o->h''.get? b=some o:=λb o hb e=>kk b o (nD b o e) (kp b o hb e);have hn2:h''.Ns X.env.locals m:=by
   obtain⟨o,es',ep',g1,g2⟩:=F'.ns;exact⟨o,es',ep',kk _ _ (N' (D,_) (QaQ ..)).2.1.symm g1,g2⟩
  obtain⟨hDn,I2⟩:=Kd (tk:=tk) I1 hn hn2 kp2 nD oD rv (by omega);refine⟨.ref D,_,I2,rq,?_⟩;have z:=q (List.range kvs.length) D (List.Perm.refl _) (Nv (by omega) (by omega)) hDn;rw[<-hml,range_getD] at z;exact z
end L2
namespace L2
open PySem PySem.Spec PyProof.Rows
section
variable {prog:Program} {w:World} {A:Around} {s:Shared} {R:Result->Shared->Prop}
def bestOf:Option (Int×Tok)->Array Value
 | none=>#[]
 | some b=>#[.int b.1 b.2,.int b.1 b.2]
def Tv (xs:Array (Int×Tok)) (j:Nat):Option (Int×Tok)->Prop
 | none=>j=0
 | some b=>(∃i,i < j/\xs[i]?=some b)/\∀i c,i < j->xs[i]?=some c->c.1<=b.1
theorem iu {I:Addr} {xs:Array (Int×Tok)} {G:Array GenState->Array GenState->Prop} {wr fp:List Addr} {St:Nat->Shared->Prop} (W:WalksS prog w A.in1 I fp wr G xs.size (λi v=>(intItems xs)[i]?=some v) St) (S:Addr) (hS0:S∉fp) (d:Value)
  (fin:∀b s',Tv xs xs.size b->Moved (S::wr) G s s'->R (.ok (.ret ((b.map λb=>Value.int b.1 b.2).getD d))) s') :
  ∀(k j:Nat) (b:Option (Int×Tok)) (s1:Shared) (c:Nat),j+k=xs.size->St j s1->Tv xs j b->Moved (S::wr) G s s1->s1.heap.get? S=some (seqObj "list" (bestOf b) c)->codeAny (model prog w) A (.builtin "max.loop" ⟨[.ref I,.none,.ref S],[(Str.ofString "default",d)]⟩) R s1:=by
 have out:S∉wr:=λz=>hS0 (W.sub _ z);have more:∀b∈wr,b∈S::wr:=λb z=>.tail _ z;have far:∀{b:Addr},b∉S::wr->S≠b:=λz e=>z (by rw[e];exact .head _);have fr0:∀{b:Addr},b∈fp->S≠b:=λz e=>hS0 (by rw[e];exact z);have nm:(toString "max"++toString ".loop":String)="max.loop":=by decide
 intro k
 induction k with
 | zero=>
  intro j b s1 c hj hst hb hm0 hS;have ej:j=xs.size:=by omega
  subst ej;refine codeAny_builtin PySem.F.entry_max_loop ?_;rw[Around.under_plainId Qat _];show wpAny _ A.in1 (seqItems? (.ref S) >>= _) _ _ s1;refine Qcb (wpAny_seqItems hS rfl ?_);show wpAny _ A.in1 (tryCatch (pyNext (.ref I)) _ >>= _) _ _ s1;refine Qcb (wpAny_tryCatch (W.done s1 _ _ hst λs2 m2=>?_));have hS2:=m2.heap S _ out hS;cases b with
  | none=>
   refine Qcb (wpAny_rule (Qcc ?_));exact fin none s2 hb (Moved.trans W.gtrans hm0 (m2.mono more))
  | some b=>
   show wpAny _ A.in1 (updateSeq S (λ_=>#[]) >>= _) _ _ _;refine Qcb (wpAny_updateSeq (hz:=by show 2<=sizeLine;decide) hS2 rfl (Qcb (wpAny_letGo (Qcc ?_))));exact fin (some b) _ hb (Moved.trans W.gtrans hm0 ((m2.mono more).then_heap (tk:=s2.toks) (QbZ _) λa o hb e=>(Qar _ _ (far hb)).trans e))
 | succ k ih=>
  intro j b s1 c hj hst hb hm0 hS;have lt:j < xs.size:=by omega
  refine codeAny_builtin PySem.F.entry_max_loop ?_;rw[Around.under_plainId Qat _];show wpAny _ A.in1 (seqItems? (.ref S) >>= _) _ _ s1;refine Qcb (wpAny_seqItems hS rfl ?_);show wpAny _ A.in1 (tryCatch (pyNext (.ref I)) _ >>= _) _ _ s1;refine Qcb (wpAny_tryCatch (W.item j s1 _ _ lt hst λv s2 hv hst2 m2=>?_));have hS2:=m2.heap S _ out hS;have hx:xs[j]?=some xs[j]:=by simp[lt]
  have ev:v=.int xs[j].1 xs[j].2:=by
   simp only[intItems,Array.getElem?_map,hx,Option.map_some,Option.some.injEq] at hv;exact hv.symm
  subst ev;have m12:=Moved.trans W.gtrans hm0 (m2.mono more);have m13:∀f,Moved (S::wr) G s { s2 with heap:=s2.heap.update S f }:=λf=>Moved.trans W.gtrans hm0 ((m2.mono more).then_heap (tk:=s2.toks) (QbZ _) λa o hb e=>(Qar _ _ (far hb)).trans e);have st3:∀f,St (j+1) { s2 with heap:=s2.heap.update S f }:=λf=>W.frame _ s2 _ s2.toks hst2 (QbZ _) λa z o e=>(Qar _ _ (fr0 z)).trans e;have oS:∀x:Value,∃c',(s2.heap.update S (Obj.mapSeq λ_=>#[x,x])).get? S=some (seqObj "list" #[x,x] c'):=λx=>⟨_,get?_update_seq hS2 λ_=>#[x,x]⟩;cases b with
  | none=>
   have e0:j=0:=hb;refine Qcb (Qcc ?_);refine Qcb (wpAny_updateSeq hS2 rfl ?_);rw[nm];obtain⟨c',o'⟩:=oS (.int xs[j].1 xs[j].2);refine Qcc ⟨plainId_quiet Qat _,ih (j+1) (some xs[j]) _ c' (by omega) (st3 _) ⟨⟨j,Qbo _,hx⟩,λi q hi hq=>?_⟩ (m13 _) o'⟩;have:i=j:=by omega
   subst this;rw[hx] at hq;cases hq;exact Int.le_refl _
  | some b=>
   obtain⟨⟨i0,hi0,hx0⟩,WW⟩:=hb;refine Qcb (Qcc ?_);show wpAny _ A.in1 (tryCatch (holding [_,_] (richCompare .Gt _ _ >>= _)) _ >>= _) _ _ _;refine Qcb (wpAny_tryCatch (QbP (Qcb (CmpOf.ints_gt (numAt xs) (λ_ _=>intItems_at) j i0 _ (Value.int b.1 b.2) _ _ _ hv (by simp[intItems,Array.getElem?_map,hx0]) ?_))));refine Qcb (QbP (Qbc (Qcb (wpAny_letGo (Qcc ?_)))));have n1:numAt xs j=xs[j].1:=by simp[numAt,hx]
   have n2:numAt xs i0=b.1:=by simp[numAt,hx0]
   show wpAny _ _ (if decide (numAt xs j > numAt xs i0)=true then _ else _) _ _ _
   rw[n1,n2];by_cases hgt:xs[j].1 > b.1
   ·rw[if_pos (QbH hgt)];refine Qcb (wpAny_updateSeq (hz:=by show 2<=sizeLine;decide) hS2 rfl (Qcb (wpAny_letGo ?_)));rw[nm];obtain⟨c',o'⟩:=oS (.int xs[j].1 xs[j].2);refine Qcc ⟨plainId_quiet Qat _,ih (j+1) (some xs[j]) _ c' (by omega) (st3 _) ⟨⟨j,Qbo _,hx⟩,λi q hi hq=>?_⟩ (m13 _) o'⟩;by_cases e:i=j
    ·subst e;rw[hx] at hq;cases hq;exact Int.le_refl _
    ·exact Int.le_of_lt (Int.lt_of_le_of_lt (WW i q (by omega) hq) hgt)
   ·rw[if_neg (by rw[Qbv hgt];exact QaL)];refine Qcb (wpAny_letGo ?_);rw[nm];refine Qcc ⟨plainId_quiet Qat _,ih (j+1) (some b) _ c (by omega) hst2 ⟨⟨i0,Nat.lt_succ_of_lt hi0,hx0⟩,λi q hi hq=>?_⟩ m12 hS2⟩;by_cases e:i=j
    ·subst e;rw[hx] at hq;cases hq;exact Int.not_lt.mp hgt
    ·exact WW i q (by omega) hq
theorem Z2 (a v:Value):argsOk "max" ⟨[a],[(Str.ofString "default",v)]⟩:=by unfold argsOk;kernel_rfl
theorem X4 {E:YA} {l:Addr} {xs:Array (Int×Tok)} {d:Value} {Q:YA} (hh:A.handled=none) (hl:s.heap.IsList l (intItems xs))
  (h:∀b h' tk,Tv xs xs.size b->(∀b o,s.heap.get? b=some o->h'.get? b=some o)->Q ((b.map λb=>Value.int b.1 b.2).getD d) { s with heap:=h',toks:=tk }) :
  wpAny (model prog w) A (call (.builtin "max") [.ref l] [(Str.ofString "default",d)]) Q E s:=by
 have nm:(toString "max"++toString ".loop":String)="max.loop":=by decide
 refine PyProof.Rows.kmk_tree PySem.F.kind_max PySem.F.plain_max PySem.F.entry_max (Z2 _ _) ?_;refine Qcb (wpAny_of_eq (show Builtin.Builtins.bindParams "max" ["key","default"] 0 ⟨[],[(Str.ofString "default",d)]⟩=pure [none,some d] from rfl) ?_)
 refine Qcb (Qcc ?_);refine Qcb (iter_intList hl λs2 e st hfp hlI=>?_);refine Qcb (Qbe ?_);rw[nm];have hSf:s2.heap.objs.size∉[s.heap.objs.size,l]:=λhm=>QbO _ (hfp _ hm);have hxs:(intItems xs).size=xs.size:=by simp[intItems]
 have W:=(Walks.list (prog:=prog) (w:=w) (A:=A.in1) hh s.heap.objs.size l hlI (intItems xs)).toS;rw[hxs] at W;refine Qcc ⟨plainId_quiet Qat _,iu (s:={ s2 with heap:=s2.heap.push { cls:=.type "list",data:=.seq #[] } }) W s2.heap.objs.size hSf d (λb s' hb hm=>?_) xs.size 0 none _ 0 (by omega) (W.frame 0 s2 _ s2.toks st (QbZ _) λb _ o e=>Qaq _ e) rfl ⟨λ_ _ _ e=>e,rq,rq,rq,QbZ _⟩ (QaF _ rfl)⟩;rw[Moved.eq_with hm,e];refine h b s'.heap s'.toks hb λa o ea=>hm.heap a o (λhx=>?_) (Qaq _ (by rw[e];exact Qaq _ ea));have l1:=QbS ea;rcases QbK.mp hx with z | hx
 ·rw[z,e] at l1;exact absurd l1 (by show ¬(s.heap.push _).objs.size < _;rw[QbI];omega)
 ·rw[QaM.mp hx] at l1;exact QbO _ l1
end
def nA (K:YD) (te td:TE):TE:=fun Z H Q=>te Z H λx H1=>td Z H1 λz H2=>∃(p:Addr) (ns:List Int) (d:Int),x=.ref p/\z=.int d/\SqL K H2 p (ns.map V.int)/\(ns=[]->Q (.int d) H2)/\∀M,M∈ns->(∀a,a∈ns->a<=M)->Q (.int M) H2
theorem gA {X:Cx} {e de:Expr} {te td:TE} {p pos kp:Pos} (hc:X.calm=true) (hg:Gl X "max") (hm:X.mg "max"=none) (he:PE X e te) (hd:PE X de td) (hs:starEach [e] X.env=[(false,eval e X.env)]:=by rfl)
  (hall:(backToKw pos (keywordEach [⟨some "default",de,kp⟩] X.env)).all (·.1.isSome)=true:=by rfl) (hkw:(backToKw pos (keywordEach [⟨some "default",de,kp⟩] X.env)).any (·.1.isNone)=false:=by rfl)
  (hks:(backToKw pos (keywordEach [⟨some "default",de,kp⟩] X.env)).filterMap (·.1)=(["default"]:YF):=by rfl) :
  PE X (.Call (.Name "max" p) [e] [⟨some "default",de,kp⟩] pos) (nA X.K te td):=by
 intro jb s Z H Q I h;refine QaT (Gm I hg hm (u:=.builtin "max") (by trivial) (PyProof.Rows.callWith_kw (thn ((Aa he Ab (by rw[hs];rfl)) pos jb s Z H (λvs H1=>match vs with | [x]=>td Z H1 λz H2=>∃(p:Addr) (ns:List Int) (d:Int),x=.ref p/\z=.int d/\SqL X.K H2 p (ns.map V.int)/\(ns=[]->Q (.int d) H2)/\∀M,M∈ns->(∀a,a∈ns->a<=M)->Q (.int M) H2 | _=>False) I h) λus s1 ⟨vs,H1,I1,r1,q1⟩=>?_) (by rw[hs];rfl) (by rw[hs];rfl) hall hkw))
 cases r1 with
 | nil=>exact False.elim q1
 | cons r rr=>
  cases rr with
  | cons _ _=>exact False.elim q1
  | nil=>
   refine thn ((gq hd jz) pos jb s1 Z H1 (λks H2=>match ks with | [z]=>∃(p:Addr) (ns:List Int) (d:Int),_=V.ref p/\z=.int d/\SqL X.K H2 p (ns.map V.int)/\(ns=[]->Q (.int d) H2)/\∀M,M∈ns->(∀a,a∈ns->a<=M)->Q (.int M) H2 | _=>False) I1 q1) λws s2 zz=>?_
   obtain⟨zs,H2,I2,rz,q2⟩:=zz;rw[hks];cases rz with
   | nil=>exact False.elim q2
   | cons rz1 rz2=>
    cases rz2 with
    | cons _ _=>exact False.elim q2
    | nil=>
     obtain⟨a,ns,d,ex,ez,hq,q3,q4⟩:=q2;subst ex ez;obtain⟨t,rfl⟩:=rz1;cases r;obtain⟨its,rv,pl,hz⟩:=I2.list hq;have hi:IntsAre its ns:=intsAre_of rv;obtain⟨xs,ei⟩:=hi.allInts.items;have hl:=pl.isList;rw[ei] at hl;have hns:ns=xs.toList.map (·.1):=by rw[<-hi.numsOf,<-nums_intItems,<-ei]
     refine X4 (I2.ok.hd hc) hl λb h' tk hb hk=>?_;cases b with
     | none=>
      refine⟨.int d,H2,I2.kept hk,⟨t,rq⟩,q3 ?_⟩;have:xs.size=0:=hb;rw[hns,Array.eq_empty_of_size_eq_zero this];rfl
     | some b=>
      obtain⟨⟨i,hi',hx⟩,WW⟩:=hb;refine⟨.int b.1,H2,I2.kept hk,⟨b.2,rq⟩,q4 b.1 ?_ λc hc'=>?_⟩
      ·rw[hns];exact QbV.mpr ⟨b,Array.mem_toList_iff.mpr (Array.mem_of_getElem? hx),rq⟩
      ·rw[hns] at hc';obtain⟨c',h1,rfl⟩:=QbV.mp hc';obtain⟨j,hj⟩:=QaE h1;rw[Qax] at hj;exact WW j c' (Qaf.mp hj).1 hj
def Vt (ta:TA):TE:=fun Z H Q=>ta Z H λvs H1=>∃j:Int,vs=[.int j]/\0<=j/\j<=1000/\∀p,H1 p=none->Q (.ref p) (upd H1 p (.lst ((List.range j.toNat).map λk:Nat=>V.int (k:Int))))
theorem Rf {X:Cx} {a:Expr} {ta:TA} {p q pos pos2:Pos} (hc:X.calm=true) (hgt:Gl X "list") (hmt:X.mg "list"=none) (hg:Gl X "range") (hm:X.mg "range"=none) (ha:PA X [a] ta) (hs:starEach [a] X.env=[(false,eval a X.env)]:=by rfl)
  (hs0:starEach [.Call (.Name "range" p) [a] [] pos] X.env=[(false,eval (.Call (.Name "range" p) [a] [] pos) X.env)]:=by rfl):PE X (.Call (.Name "list" q) [.Call (.Name "range" p) [a] [] pos] [] pos2) (Vt ta):=by
 intro jb s Z H Q I h;have inner:wpAny (model X.prog X.w) X.A (eval (.Call (.Name "range" p) [a] [] pos) X.env) (λv s1=>∃(H1:Hp) (j:Int) (r:Addr) (t u w:Tok),v=.ref r/\Inv X jb Z H1 s1/\IsRange s1.heap r 0 j 1 t u w/\0<=j/\j<=1000 /\
   ∀p,H1 p=none->Q (.ref p) (upd H1 p (.lst ((List.range j.toNat).map λk:Nat=>V.int (k:Int))))) X.xe s:=by
  refine Call_ (Gm I hg hm boot_range (Qad (thn (ha pos jb s Z H _ I h) λus s1 zz=>?_) hs rfl));obtain⟨vs,H1,I1,r1,q1⟩:=zz;obtain⟨j,e,j0,j1,q⟩:=q1;subst e;cases r1 with
  | cons r rr=>
   cases rr;obtain⟨t,rfl⟩:=r;exact call_range_1 ⟨H1,j,_,_,t,_,rq,I1.kept (t':=s1.toks+1+1) λb o e=>Qaq _ e,IsRange.new ..,j0,j1,q⟩
 refine Call_ (Gm I hgt hmt (u:=.type "list") (by trivial) (Qad (Q:=EP X jb Z Q) ?_ hs0 rfl));rw[hs0];show wpAny _ _ (spliced ((false,eval (.Call (.Name "range" p) [a] [] pos) X.env)::backTo pos2 [])) _ _ s;refine QaW (thn inner λv s1 zz=>?_);obtain⟨H1,j,r,t,u,w,e,I1,hr,j0,j1,q⟩:=zz;subst e;refine Calls.spliced_nil ?_;have hrs:Builtin.Range.rangeSize 0 j 1=((j.toNat:Nat):Int):=by rw[rangeSize_one];split <;> omega
 refine call_list_range (I1.ok.hd hc) hr (small_one (by omega) (by omega) (by omega) (by omega)) hrs (by omega) λh' tk acc c' hk hS hacc=>?_;have rv:=Vo hacc;have e0:((List.range j.toNat).map λk:Nat=>V.int ((0:Int)+k))=(List.range j.toNat).map λk:Nat=>V.int (k:Int):=List.map_congr_left λk _=>by rw[Int.zero_add]
 rw[e0] at rv;have I3:Inv X jb Z (upd H1 s1.heap.objs.size (.lst ((List.range j.toNat).map λk:Nat=>V.int (k:Int)))) { s1 with heap:=h',toks:=tk }:=
  I1.laid (t':=tk) hk (QbZ _) (show Bo X.prog X.w _ _ _ (.lst _) from⟨by rw[Qbt,Qbh];exact QbW (Aq (by omega)),acc.toList,c',rv,by simpa using hS⟩)
 exact⟨.ref s1.heap.objs.size,_,I3,rq,q _ (I1.hok.fresh (QbZ _))⟩
end L2
namespace K40
open PySem L2
def top (i:Nat):Stmt:=PySem.Challenge.pw_warnloop_k40_stamps.main.body.getD i (.Pass ⟨0,0,0,0⟩)
theorem Ax:bootBuiltins "isinstance"=some (.builtin "isinstance"):=by trivial
theorem Tg:bootBuiltins "int"=some (.type "int"):=by trivial
theorem Vk:bootBuiltins "bool"=some (.type "bool"):=by trivial
theorem dw:bootBuiltins "tuple"=some (.type "tuple"):=by trivial
theorem JN:bootBuiltins "list"=some (.type "list"):=by trivial
theorem Y5:bootBuiltins "str"=some (.type "str"):=by trivial
theorem Fd:bootBuiltins "len"=some (.builtin "len"):=by trivial
theorem Ou:bootBuiltins "all"=some (.builtin "all"):=by trivial
theorem Y7:bootBuiltins "abs"=some (.builtin "abs"):=by trivial
theorem Y6:bootBuiltins "max"=some (.builtin "max"):=by trivial
theorem Li:bootBuiltins "sorted"=some (.builtin "sorted"):=by trivial
theorem mJ:bootBuiltins "min"=some (.builtin "min"):=by trivial
structure Nm (mg:YB):Prop where
 isinstance:mg "isinstance"=none
 int:mg "int"=none
 bool:mg "bool"=none
 tuple:mg "tuple"=none
 list:mg "list"=none
 str:mg "str"=none
 len:mg "len"=none
 all:mg "all"=none
 abs:mg "abs"=none
 max:mg "max"=none
 min:mg "min"=none
 range:mg "range"=none
 sorted:mg "sorted"=none
 any:mg "any"=none
 sum:mg "sum"=none
 enumerate:mg "enumerate"=none
 zip:mg "zip"=none
 reversed:mg "reversed"=none
 dict:mg "dict"=none
 ord:mg "ord"=none
abbrev Iz:Stmt:=top 25
abbrev JH:YF:=["_law_script","_law_k"]
theorem MF:Ba ["_law_script","_law_k","_law_cell"] JH (Ae Iz):=by ac_rfl
abbrev G7:Stmt:=top 26
abbrev Dc:YF:=["_law_bag_here","_law_many"]
theorem Gy:Ba ["_law_bag_here","_law_many","_law_digit","_law_primes","_law_step","_law_base","_law_found"] Dc (Ae G7):=by ac_rfl
theorem Yh (v:V):isW v=(isI v&&!isB v):=by cases v <;> rfl
def BK (H:Hp) (b:Addr) (n:Nat):Prop:=∃x y z:Int,H b=some (.lst [.int x,.int y,.int z])/\0<=x/\0<=y/\y<=4294967296/\0<=z/\z<=n
theorem BK.same {H H':Hp} {b:Addr} {n:Nat} (h:BK H b n) (s:Same H H'):BK H' b n:=by
 obtain⟨x,y,z,e,r⟩:=h;exact⟨x,y,z,s _ _ e,r⟩
theorem BK.nb {H:Hp} {b p:Addr} {n:Nat} (h:BK H b n) (hp:H p=none):b≠p:=by obtain⟨_,_,_,e,_⟩:=h;exact Am e hp
theorem BK.Ph {H:Hp} {b:Addr} {n:Nat} (h:BK H b n):∀xs,H b≠some (.tup xs):=λxs z=>by obtain⟨_,_,_,e,_⟩:=h;rw[e] at z;cases z
theorem BK.ex {H:Hp} {b:Addr} {n:Nat} (h:BK H b n):∃o,H b=some o:=by obtain⟨_,_,_,e,_⟩:=h;exact⟨_,e⟩
theorem BK.Bd {H H':Hp} {a b:Addr} {n:Nat} (h:BK H b n) (s:Ah a H H') (ne:b≠a):BK H' b n:=by
 obtain⟨x,y,z,e,r⟩:=h;exact⟨x,y,z,s _ _ e ne,r⟩
theorem Ar {n:Nat} (h:n<=1000):n<=sizeLine:=QbW (Aq h)
inductive Vv (K:YD) (vs:YG) (H:Hp) (Q:VK) (E:XK):Prop
 | mk (a:Addr) (ns:List Int) (k:Int) (_:vs=[.ref a,.int k]) (_:SqL K H a (ns.map V.int)) (_:ns.length<=63) (_:0<=k) (_:k<=100) (_:∀p o,H p=none->BK (upd H p o) p 0->Q (.ref p) (upd H p o)):Vv K vs H Q E
inductive DN (vs:YG) (H:Hp) (Q:VK) (E:XK):Prop
 | mk (b:Addr) (n:Nat) (m:Int) (_:vs=[.ref b,.int m]) (_:BK H b n) (_:n<=10000) (_:0 < m) (_:m < 1073741824) (_:∀r H',0<=r->r < m->BK H' b (n+1)->Ah b H H'->Q (.int r) H'):DN vs H Q E
inductive Nq (K:YD) (vs:YG) (H:Hp) (Q:VK) (E:XK):Prop
 | mk (a:Addr) (ns:List Int) (_:vs=[.ref a]) (_:SqL K H a (ns.map V.int)) (_:ns.length<=63) (_:∀H',Q (.bl true) H'):Nq K vs H Q E
theorem at7 {i:Int} (h0:0<=i) (h7:i < 7) {a b c d e f g:Int} (P:Int->Prop) (ha:P a) (hb:P b) (hc:P c) (hd:P d) (he:P e) (hf:P f) (hg:P g):∃p,atI [V.int a,.int b,.int c,.int d,.int e,.int f,.int g] i=some (.int p)/\P p:=by
 have:i=0\/i=1\/i=2\/i=3\/i=4\/i=5\/i=6:=by omega
 rcases this with rfl | rfl | rfl | rfl | rfl | rfl | rfl
 ·exact⟨_,rq,ha⟩
 ·exact⟨_,rq,hb⟩
 ·exact⟨_,rq,hc⟩
 ·exact⟨_,rq,hd⟩
 ·exact⟨_,rq,he⟩
 ·exact⟨_,rq,hf⟩
 ·exact⟨_,rq,hg⟩
theorem lH {x:Int} {b:Bool}:W6 x (if b=true then 1 else 0):=.inr (by cases b <;> exact⟨by decide,by decide⟩)
section
variable {P:Program} {w:World} {K:YD} {mg:YB} {base:Heap}
theorem ZW (C:Code K mg "_law_bag" Iz JH) (T:Nm mg):Good P w K mg base "_law_bag" 1 JH (Vv K):=by
 refine C.good MF (λvs H Q E h=>?_) (λf cdv A outer s H vs Q E hr h=>?_)
 ·obtain⟨a,ns,k,rfl,_⟩:=h;rfl
 obtain⟨a,ns,k,rfl,hS,h63,h0,h1,q⟩:=h;refine⟨_,(Ad (Aw (i:=2) MF.nd rfl (Or.inl rfl) (Ao Cv (Ao Cv (Ao Fx (Ao Fx Ag (pv 1)) (pv 1)) (Ao Fx Ag (pv 1))) Ag))
 (Ad (Ca (BJ VL (pv 1) (Ak Ck rfl T.len Fd (Aa (pv 0) Ab)) (Bt _)) (Ai (Aw (i:=2) MF.nd rfl (Or.inl rfl) (Bw Bu (pv 0) (pv 1) (λ_ _=>rfl)))) Bv)
 (Ai (Bc (BL (Aa (Ao Fx (Ak Tf rfl T.abs Y7 (Aa (pv 2) Ab)) (Hw Y4 rfl T.int Tg (Aa (CW nU (Ak Tf rfl T.abs Y7 (Aa (pv 2) Ab)) (Ao Ri Ag Ag) (Bt _)) Ab))) (Aa (Ao Cv (Ao Fy (pv 2) Ag) (Ao Fx Ag (pv 1))) (Aa Ag Ab)))))))),?_⟩
 show let R0:TS:=_;let R1:TS:=_;let R2:TS:=Aj (Ib _ R1 _) R0;Aj _ R2 _ _ _;intro R0 R1 R2;refine⟨_,rq,_,_,rq,rq,.inl ⟨by decide,by decide⟩,_,rq,_,_,rq,rq,.inr ⟨by omega,by omega⟩,_,rq,_,_,rq,rq,.inl ⟨by decide,by decide⟩,_,_,rq,rq,_,_,rq,rq,?_⟩;refine⟨_,rq,_,rq,a,_,rq,.inl hS,_,_,rq,rq,_,rq,?_⟩;have hl:(ns.map V.int).length=ns.length:=Qbt _;have fin:∀(c:Int) (p:Addr),H p=none->Q (.ref p) (upd H p (.lst [.int ((if c < 0 then -c else c)*(if decide ((10:Int) ^ (18:Int).toNat<=(if c < 0 then -c else c))=true then 1 else 0)),.int (c % 2147483647+37*k),.int 0])):=λc p hp=>by
  refine q p _ hp ⟨_,_,_,Ac,?_,?_,?_,by omega,by omega⟩
  ·refine Int.mul_nonneg ?_ ?_
   ·split <;> omega
   ·split <;> omega
  ·have:=QbE c (show (2147483647:Int)≠0 by decide);omega
  ·have:=QaU c (show (0:Int) < 2147483647 by decide);omega
 refine j7 (λc1=>?_) (λc1=>?_)
 ·have c':k < (((ns.map V.int).length:Nat):Int):=Qbd c1;rw[hl] at c';have hk:k.toNat < ns.length:=by omega
  have hat:atI (ns.map V.int) ((k.toNat:Nat):Int)=some (.int ns[k.toNat]):=Gd (by rw[Qba];simp[hk]);rw[Int.toNat_of_nonneg h0] at hat;refine⟨_,rq,_,rq,a,_,_,_,rq,rq,hS,hat,?_⟩;exact⟨_,rq,_,rq,_,rq,_,rq,_,_,rq,rq,⟨by decide,by decide,by decide⟩,_,_,rq,rq,.inr ⟨_,rq,_,_,rq,rq,lH,_,rq,_,_,rq,rq,(by show (0:Int) < 2147483647;decide),_,rq,_,_,rq,rq,.inl ⟨by decide,by decide⟩,_,_,rq,rq,
   (by show 3<=sizeLine;decide),λl hl'=>fin _ l hl'⟩⟩
 ·exact⟨_,rq,_,rq,_,rq,_,rq,_,_,rq,rq,⟨by decide,by decide,by decide⟩,_,_,rq,rq,.inr ⟨_,rq,_,_,rq,rq,lH,_,rq,_,_,rq,rq,(by show (0:Int) < 2147483647;decide),_,rq,_,_,rq,rq,.inl ⟨by decide,by decide⟩,_,_,rq,rq,
   (by show 3<=sizeLine;decide),λl hl'=>fin _ l hl'⟩⟩
theorem XF (C:Code K mg "_law_take" G7 Dc) (T:Nm mg):Good P w K mg base "_law_take" 1 Dc DN:=by
 refine C.good Gy (λvs H Q E h=>?_) (λf cdv A outer s H vs Q E hr h=>?_)
 ·obtain⟨b,n,m,rfl,_⟩:=h;rfl
 obtain⟨b,n,m,rfl,⟨x,y,z,hb,x0,y0,y1,z0,z1⟩,hn,m0,m1,q⟩:=h;refine⟨_,(Ad (Ca (BJ nR (Bw Bu (pv 0) Ag (λ_ _=>rfl)) Ag (Bt _)) (Ad (Aw (i:=2) Gy.nd rfl (Or.inl rfl) (Ao Fy (Bw Bu (pv 0) Ag (λ_ _=>rfl)) (pv 1)))
 (Ad (Ew (Ao Pa (Bw Bu (pv 0) Ag (λ_ _=>rfl)) (pv 1)) (Fv (pv 0) Ag set_list))
 (Ai (Bc (pv 2))))) Bv)
 (Ad (Aw (i:=3) Gy.nd rfl (Or.inl rfl) (@Gg _ _ _ _ _ (@Aa _ _ _ _ _ (@Ag _ _ _ _) (@Aa _ _ _ _ _ (@Ag _ _ _ _) (@Aa _ _ _ _ _ (@Ag _ _ _ _) (@Aa _ _ _ _ _ (@Ag _ _ _ _) (@Aa _ _ _ _ _ (@Ag _ _ _ _) (@Aa _ _ _ _ _ (@Ag _ _ _ _) (@Aa _ _ _ _ _ (@Ag _ _ _ _) (@Ab _) Bh) Bh) Bh) Bh) Bh) Bh) Bh)))
 (Ad (Ew (Ao Cv (Bw Bu (pv 0) Ag (λ_ _=>rfl)) Ag) (Fv (pv 0) Ag set_list))
 (Ad (Aw (i:=4) Gy.nd rfl (Or.inl rfl) (Bw Bu (pv 0) Ag (λ_ _=>rfl)))
 (Ad (Aw (i:=5) Gy.nd rfl (Or.inl rfl) (Ao Cv (Ao Cv (Ao Fx (Bw Bu (pv 0) Ag (λ_ _=>rfl)) (Ao Cv (Ao Fx Ag (pv 4)) Ag)) (Ao Fx (Ao Fx Ag (pv 4)) (pv 4))) Ag))
 (Ad (Aw (i:=6) Gy.nd rfl (Or.inl rfl) (Ao Fy (Ao Ri (pv 5) Ag) (Bw Oe (pv 3) (Ao Fy (pv 4) Ag) (λ_ _=>rfl))))
 (Ai (Bc (Ao Fy (Ao Pa (Ao Fy (Ao Fx (pv 6) (Ao Cv (Ao Pa (pv 6) Ag) Ag)) (Bw Oe (pv 3) (Ao Fy (Ao Cv (pv 4) Ag) Ag) (λ_ _=>rfl))) Ag) (pv 1)))))))))),?_⟩
 show let R0:TS:=_;let R1:TS:=Aj _ R0;let R2:TS:=Aj _ R1;let R3:TS:=Aj _ R2;let R4:TS:=Aj _ R3;let R5:TS:=Aj _ R4;let R6:TS:=Aj _ _;let R7:TS:=Aj _ R6;Aj (Ib _ R7 _) R5 _ _ _;intro R0 R1 R2 R3 R4 R5 R6 R7;refine⟨_,rq,b,_,_,_,rq,rq,SqL.of hb,rq,_,_,rq,rq,_,rq,?_⟩;refine j7 (λc1=>?_) (λc1=>?_)
 ·have c':0 < x:=Qbd c1;refine⟨_,rq,b,_,_,_,rq,rq,SqL.of hb,rq,_,rq,_,_,rq,rq,m0,?_⟩;refine⟨_,rq,b,_,_,_,rq,rq,SqL.of hb,rq,_,rq,_,_,rq,rq,⟨m0,m1⟩,_,rq,b,_,_,_,rq,rq,hb,rq,?_⟩;exact⟨_,rq,q _ _ (QbE x (by omega)) (QaU x m0) ⟨x / m,y,z,Ac,Int.ediv_nonneg x0 (by omega),y0,y1,z0,by omega⟩ Ah.upd⟩
 ·refine⟨(by show 7<=sizeLine;decide),λtp htp=>?_⟩;have nbt:b≠tp:=Am hb htp;have hb1:∀o,(upd H tp o) b=some (.lst [.int x,.int y,.int z]):=λo=>by rw[Al nbt];exact hb
  have ht1:∀o u,(upd (upd H tp o) b u) tp=some o:=λo u=>by rw[Al nbt.symm,Ac]
  refine⟨_,rq,b,_,_,_,rq,rq,SqL.of (hb1 _),rq,_,_,rq,rq,_,rq,b,_,_,_,rq,rq,hb1 _,rq,?_⟩;refine⟨_,rq,b,_,_,_,rq,rq,SqL.of Ac,rq,?_⟩;have s0:0<=z+1:=by omega
  have s1:z+1<=10001:=by omega
  refine⟨_,rq,b,_,_,_,rq,rq,SqL.of Ac,rq,_,rq,_,_,rq,rq,.inl ⟨by decide,by decide⟩,_,_,rq,rq,_,_,rq,rq,.inl ⟨by omega,by omega⟩,_,rq,_,_,rq,rq,.inl ⟨by decide,by decide⟩,_,rq,_,_,rq,rq,.inr ⟨by omega,by omega⟩,
   _,_,rq,rq,_,_,rq,rq,?_⟩
  have hbase:(y*(2*(z+1)+1)+6007*(z+1)*(z+1)+29).natAbs < 2 ^ 64:=by
   have h1:0<=y*(2*(z+1)+1):=Int.mul_nonneg y0 (by omega);have h2:y*(2*(z+1)+1)<=4294967296*20003:=Int.mul_le_mul y1 (by omega) (by omega) (by omega);have h3:0<=6007*(z+1)*(z+1):=Int.mul_nonneg (by omega) s0;have h4:6007*(z+1)*(z+1)<=(6007*10001)*10001:=Int.mul_le_mul (by omega) s1 s0 (by omega);omega
  obtain⟨p1,e1,p10,p11⟩:=at7 (i:=(z+1) % 7) (QbE _ (by decide)) (QaU _ (by decide)) (a:=2147483629) (b:=2147483587) (c:=2147483579) (d:=2147483563) (e:=2147483549) (f:=2147483543) (g:=2147483497)
   (λp=>0 < p/\p < 2147483648) (by decide) (by decide) (by decide) (by decide) (by decide) (by decide) (by decide)
  obtain⟨p2,e2,p20,p21⟩:=at7 (i:=(z+1+3) % 7) (QbE _ (by decide)) (QaU _ (by decide)) (a:=2147483629) (b:=2147483587) (c:=2147483579) (d:=2147483563) (e:=2147483549) (f:=2147483543) (g:=2147483497)
   (λp=>0 < p/\p < 2147483648) (by decide) (by decide) (by decide) (by decide) (by decide) (by decide) (by decide)
  refine⟨_,rq,_,_,rq,rq,⟨by decide,by decide,hbase⟩,_,rq,_,rq,_,_,rq,rq,(by show (0:Int) < 7;decide),tp,_,_,_,rq,rq,SqT.of (ht1 _ _),e1,_,_,rq,rq,p10,?_⟩;generalize hF:(y*(2*(z+1)+1)+6007*(z+1)*(z+1)+29) ^ (3:Int).toNat % p1=F;have F0:0<=F:=by rw[<-hF];exact QbE _ (by omega)
  have F1:F < p1:=by rw[<-hF];exact QaU _ p10
  refine⟨_,rq,_,rq,_,_,rq,rq,⟨by decide,by decide⟩,_,_,rq,rq,_,_,rq,rq,.inl ⟨by omega,by omega⟩,_,rq,_,rq,_,_,rq,rq,_,_,rq,rq,(by show (0:Int) < 7;decide),tp,_,_,_,rq,rq,SqT.of (ht1 _ _),e2,_,_,rq,rq,p20,
   _,_,rq,rq,⟨by decide,by decide⟩,_,rq,_,_,rq,rq,m0,?_⟩
  refine q _ _ (QbE _ (by omega)) (QaU _ m0) ⟨x,y,z+1,Ac,x0,y0,y1,s0,by omega⟩ λc o e nc=>?_;rw[Al nc,Al (Am e htp)];exact e
end
abbrev G8:Stmt:=top 28
abbrev Jf:YF:=["_law_e"]
theorem Hv:Ba ["_law_e","_law_kinds","_law_names"] Jf (Ae G8):=by ac_rfl
structure Er (K:YD) (mg:YB) (hc c0 c1 c2 c3 c4 c5 c6 c7 c8 c9 c10 c11 c12:Addr):Prop where
 ve:mg "ValueError"=none
 T9:mg "HouseError"=some (.ref hc)
 TF:XCl K hc
 gY:mg "NoPlan"=some (.ref c0)
 UJ:mg "NoText"=some (.ref c1)
 V4:mg "NoStretch"=some (.ref c2)
 gW:mg "NoSpot"=some (.ref c3)
 XR:mg "NoOpener"=some (.ref c4)
 V5:mg "NoAddress"=some (.ref c5)
 Z1:mg "NoRules"=some (.ref c6)
 gZ:mg "NoHand"=some (.ref c7)
 Rx:mg "NoPanel"=some (.ref c8)
 UL:mg "NoLink"=some (.ref c9)
 jV:mg "NoLog"=some (.ref c10)
 g8:mg "NoDeed"=some (.ref c11)
 jU:mg "NoRow"=some (.ref c12)
structure Knd (K:YD) (hc C:Addr) (cs:List Addr) (j:Nat):Prop where
 xc:XCl K C
 sub:subIn K (.ref C) (.ref hc)=some true
 kit:∀i d,cs[i]?=some d->kitOne K (.ref C) (.ref d)=some (decide (i=j))
 kv:kitOne K (.ref C) (.type "ValueError")=some true
def Wf (j:Nat):Str:=(["plan","text","stretch","spot","opener","address","rules","hand","panel","link","log","deed","row"]:YF).getD j ""
def bsl (j:Nat):List Bool:=[decide (0=j),decide (1=j),decide (2=j),decide (3=j),decide (4=j),decide (5=j),decide (6=j),decide (7=j),decide (8=j),decide (9=j),decide (10=j),decide (11=j),decide (12=j)]
theorem Y8:∀j,j < 13->(bsl j).countP id=1:=by decide
theorem mL:∀j,j < 13->(bsl j)[j]?=some true:=by decide
theorem mK:∀j,j < 13->∀m,m < j->(bsl j)[m]?=some false:=by decide
theorem wordAt:∀j,j < 13->([.str "plan",.str "text",.str "stretch",.str "spot",.str "opener",.str "address",.str "rules",.str "hand",.str "panel",.str "link",.str "log",.str "deed",.str "row"]:YG)[j]?=some (.str (Wf j))
 | 0,_=>rfl
 | 1,_=>rfl
 | 2,_=>rfl
 | 3,_=>rfl
 | 4,_=>rfl
 | 5,_=>rfl
 | 6,_=>rfl
 | 7,_=>rfl
 | 8,_=>rfl
 | 9,_=>rfl
 | 10,_=>rfl
 | 11,_=>rfl
 | 12,_=>rfl
 | n+13,h=>absurd h (by omega)
inductive QM (K:YD) (hc:Addr) (cs:List Addr) (vs:YG) (H:Hp) (Q:VK) (E:XK):Prop
 | mk (e C:Addr) (j:Nat) (_:vs=[.ref e]) (_:H e=some (xo e C)) (_:Knd K hc C cs j) (_:j < 13) (_:∀H',Same H H'->Q (.str (Wf j)) H'):QM K hc cs vs H Q E
section
variable {P:Program} {w:World} {K:YD} {mg:YB} {base:Heap} {hc c0 c1 c2 c3 c4 c5 c6 c7 c8 c9 c10 c11 c12:Addr}
theorem gK (C:Code K mg "_law_kind" G8 Jf) (T:Nm mg) (XE:Er K mg hc c0 c1 c2 c3 c4 c5 c6 c7 c8 c9 c10 c11 c12):Qy P w K mg base "_law_kind" 1 Jf (QM K hc [c0,c1,c2,c3,c4,c5,c6,c7,c8,c9,c10,c11,c12]):=by
 refine C.oK Hv (λvs H Q E h=>?_) (λf cdv A outer s H vs Q hr h=>?_)
 ·obtain⟨e,C,j,rfl,_⟩:=h;rfl
 obtain⟨e,C,j,rfl,he,k,hj,q⟩:=h;refine⟨_,(@Ad _ _ _ _ _ (@Aw _ _ 1 _ _ _ _ Hv.nd rfl (Or.inl rfl) (BL (Aa (Ak Cz rfl T.isinstance Ax (Aa (pv 0) (Aa (CP (v:=.ref _) rfl XE.gY rfl) Ab))) (Aa (Ak Cz rfl T.isinstance Ax (Aa (pv 0) (Aa (CP (v:=.ref _) rfl XE.UJ rfl) Ab))) (Aa (Ak Cz rfl T.isinstance Ax (Aa (pv 0) (Aa (CP (v:=.ref _) rfl XE.V4 rfl) Ab))) (Aa (Ak Cz rfl T.isinstance Ax (Aa (pv 0) (Aa (CP (v:=.ref _) rfl XE.gW rfl) Ab))) Ab))))) (by rfl) (by first | exact .inl rfl | exact .inr rfl))
 (@Ad _ _ _ _ _ (@Aw _ _ 1 _ _ _ _ Hv.nd rfl (Or.inl rfl) (@Ao _ _ _ _ _ _ _ _ HN (pv 1) (BL (Aa (Ak Cz rfl T.isinstance Ax (Aa (pv 0) (Aa (CP (v:=.ref _) rfl XE.XR rfl) Ab))) (Aa (Ak Cz rfl T.isinstance Ax (Aa (pv 0) (Aa (CP (v:=.ref _) rfl XE.V5 rfl) Ab))) (Aa (Ak Cz rfl T.isinstance Ax (Aa (pv 0) (Aa (CP (v:=.ref _) rfl XE.Z1 rfl) Ab))) (Aa (Ak Cz rfl T.isinstance Ax (Aa (pv 0) (Aa (CP (v:=.ref _) rfl XE.gZ rfl) Ab))) Ab)))))) (by rfl) (by first | exact .inl rfl | exact .inr rfl))
 (@Ad _ _ _ _ _ (@Aw _ _ 1 _ _ _ _ Hv.nd rfl (Or.inl rfl) (@Ao _ _ _ _ _ _ _ _ HN (pv 1) (BL (Aa (Ak Cz rfl T.isinstance Ax (Aa (pv 0) (Aa (CP (v:=.ref _) rfl XE.Rx rfl) Ab))) (Aa (Ak Cz rfl T.isinstance Ax (Aa (pv 0) (Aa (CP (v:=.ref _) rfl XE.UL rfl) Ab))) (Aa (Ak Cz rfl T.isinstance Ax (Aa (pv 0) (Aa (CP (v:=.ref _) rfl XE.jV rfl) Ab))) (Aa (Ak Cz rfl T.isinstance Ax (Aa (pv 0) (Aa (CP (v:=.ref _) rfl XE.g8 rfl) Ab))) Ab)))))) (by rfl) (by first | exact .inl rfl | exact .inr rfl))
 (@Ad _ _ _ _ _ (Cm (Im Qan Qal Qam Ec (pv 1) (Aa (Ak Cz rfl T.isinstance Ax (Aa (pv 0) (Aa (CP (v:=.ref _) rfl XE.jU rfl) Ab))) Ab)))
 (@Ad _ _ _ _ _ (@Aw _ _ 2 _ _ _ _ Hv.nd rfl (Or.inl rfl) (@BL _ _ _ _ (@Aa _ _ _ _ _ (@Bs _ _ _ _) (@Aa _ _ _ _ _ (@Bs _ _ _ _) (@Aa _ _ _ _ _ (@Bs _ _ _ _) (@Aa _ _ _ _ _ (@Bs _ _ _ _) (@Aa _ _ _ _ _ (@Bs _ _ _ _) (@Aa _ _ _ _ _ (@Bs _ _ _ _) (@Aa _ _ _ _ _ (@Bs _ _ _ _) (@Aa _ _ _ _ _ (@Bs _ _ _ _) (@Aa _ _ _ _ _ (@Bs _ _ _ _) (@Aa _ _ _ _ _ (@Bs _ _ _ _) (@Aa _ _ _ _ _ (@Bs _ _ _ _) (@Aa _ _ _ _ _ (@Bs _ _ _ _) (@Ab _) Bh) Bh) Bh) Bh) Bh) Bh) Bh) Bh) Bh) Bh) Bh) Bh)) (by rfl) (by first | exact .inl rfl | exact .inr rfl))
 (@Ad _ _ _ _ _ (Cm (Im Qan Qal Qam Ec (pv 2) (Aa Bs Ab)))
 (@Ad _ _ _ _ _ (Ca (PW.pt (Ly (CZ (CV (Ak Y0 rfl T.isinstance Ax (Aa (pv 0) (Aa (FW (v:=.ty "ValueError") rfl XE.ve PyProof.Rows.Boot.«ValueError» rfl) Ab))))) (K1 (BJ eO (Im Qan PySem.F.slot_list_count PySem.F.type_list_count X3 (pv 1) (Aa Cj Ab)) Ag (Bt _))))) (@Ai _ _ _ (Bc Bs)) Bv)
 (@Ai _ _ _ (Bc (Bw Bu (pv 2) (Im Qan PySem.F.slot_list_index PySem.F.type_list_index XS (pv 1) (Aa Cj Ab)) (λ_ _=>rfl))))))))))),?_⟩
 show let R0:TS:=_;let R1:TS:=Aj _ R0;let R2:TS:=Aj _ R1;let R3:TS:=Aj _ R2;let R4:TS:=Aj _ R3;let R5:TS:=Aj _ R4;let R6:TS:=Aj _ R5;Aj _ R6 _ _ _;intro R0 R1 R2 R3 R4 R5 R6;refine⟨_,rq,DX he k.xc (k.kit 0 _ rfl) ⟨_,rq,DX he k.xc (k.kit 1 _ rfl) ⟨_,rq,DX he k.xc (k.kit 2 _ rfl) ⟨_,rq,DX he k.xc (k.kit 3 _ rfl) ⟨Ar (by show 4<=1000;decide),λl1 hl1=>?_⟩⟩⟩⟩⟩;have s1:=Af hl1 (.lst [V.bl (decide (0=j)),.bl (decide (1=j)),.bl (decide (2=j)),.bl (decide (3=j))]);have e1:upd H l1 (.lst [V.bl (decide (0=j)),.bl (decide (1=j)),.bl (decide (2=j)),.bl (decide (3=j))]) l1=some (.lst [V.bl (decide (0=j)),.bl (decide (1=j)),.bl (decide (2=j)),.bl (decide (3=j))]):=Ac;generalize upd H l1 (.lst [V.bl (decide (0=j)),.bl (decide (1=j)),.bl (decide (2=j)),.bl (decide (3=j))])=H1 at s1 e1 ⊢;have he1:=s1 _ _ he;refine⟨_,rq,⟨_,rq,DX he1 k.xc (k.kit 4 _ rfl) ⟨_,rq,DX he1 k.xc (k.kit 5 _ rfl) ⟨_,rq,DX he1 k.xc (k.kit 6 _ rfl) ⟨_,rq,DX he1 k.xc (k.kit 7 _ rfl) ⟨Ar (by show 4<=1000;decide),λla hla=>⟨l1,la,_,_,rq,rq,Af hla _ _ _ e1,Ac,Ar (by show 8<=1000;decide),λlb hlb=>?_⟩⟩⟩⟩⟩⟩⟩;have sa:=Af hla (.lst [V.bl (decide (4=j)),.bl (decide (5=j)),.bl (decide (6=j)),.bl (decide (7=j))]);have sb:=Af hlb (.lst ([V.bl (decide (0=j)),.bl (decide (1=j)),.bl (decide (2=j)),.bl (decide (3=j))]++[V.bl (decide (4=j)),.bl (decide (5=j)),.bl (decide (6=j)),.bl (decide (7=j))]));have e2:upd (upd H1 la (.lst [V.bl (decide (4=j)),.bl (decide (5=j)),.bl (decide (6=j)),.bl (decide (7=j))])) lb (.lst ([V.bl (decide (0=j)),.bl (decide (1=j)),.bl (decide (2=j)),.bl (decide (3=j))]++[V.bl (decide (4=j)),.bl (decide (5=j)),.bl (decide (6=j)),.bl (decide (7=j))])) lb=some (.lst ([V.bl (decide (0=j)),.bl (decide (1=j)),.bl (decide (2=j)),.bl (decide (3=j))]++[V.bl (decide (4=j)),.bl (decide (5=j)),.bl (decide (6=j)),.bl (decide (7=j))])):=Ac;have s2:=s1.trans (sa.trans sb);generalize upd (upd H1 la (.lst [V.bl (decide (4=j)),.bl (decide (5=j)),.bl (decide (6=j)),.bl (decide (7=j))])) lb (.lst ([V.bl (decide (0=j)),.bl (decide (1=j)),.bl (decide (2=j)),.bl (decide (3=j))]++[V.bl (decide (4=j)),.bl (decide (5=j)),.bl (decide (6=j)),.bl (decide (7=j))]))=H2 at sb e2 s2 ⊢;have he2:=s2 _ _ he;refine⟨_,rq,⟨_,rq,DX he2 k.xc (k.kit 8 _ rfl) ⟨_,rq,DX he2 k.xc (k.kit 9 _ rfl) ⟨_,rq,DX he2 k.xc (k.kit 10 _ rfl) ⟨_,rq,DX he2 k.xc (k.kit 11 _ rfl) ⟨Ar (by show 4<=1000;decide),λlc hlc=>⟨lb,lc,_,_,rq,rq,Af hlc _ _ _ e2,Ac,Ar (by show 12<=1000;decide),λld hld=>?_⟩⟩⟩⟩⟩⟩⟩;have sc:=Af hlc (.lst [V.bl (decide (8=j)),.bl (decide (9=j)),.bl (decide (10=j)),.bl (decide (11=j))]);have sd:=Af hld (.lst ([V.bl (decide (0=j)),.bl (decide (1=j)),.bl (decide (2=j)),.bl (decide (3=j))]++[V.bl (decide (4=j)),.bl (decide (5=j)),.bl (decide (6=j)),.bl (decide (7=j))]++[V.bl (decide (8=j)),.bl (decide (9=j)),.bl (decide (10=j)),.bl (decide (11=j))]));have e3:upd (upd H2 lc (.lst [V.bl (decide (8=j)),.bl (decide (9=j)),.bl (decide (10=j)),.bl (decide (11=j))])) ld (.lst ([V.bl (decide (0=j)),.bl (decide (1=j)),.bl (decide (2=j)),.bl (decide (3=j))]++[V.bl (decide (4=j)),.bl (decide (5=j)),.bl (decide (6=j)),.bl (decide (7=j))]++[V.bl (decide (8=j)),.bl (decide (9=j)),.bl (decide (10=j)),.bl (decide (11=j))])) ld=some (.lst ([V.bl (decide (0=j)),.bl (decide (1=j)),.bl (decide (2=j)),.bl (decide (3=j))]++[V.bl (decide (4=j)),.bl (decide (5=j)),.bl (decide (6=j)),.bl (decide (7=j))]++[V.bl (decide (8=j)),.bl (decide (9=j)),.bl (decide (10=j)),.bl (decide (11=j))])):=Ac;have s3:=s2.trans (sc.trans sd);have fd:H ld=none:=s2.free (sc.free hld);generalize upd (upd H2 lc (.lst [V.bl (decide (8=j)),.bl (decide (9=j)),.bl (decide (10=j)),.bl (decide (11=j))])) ld (.lst ([V.bl (decide (0=j)),.bl (decide (1=j)),.bl (decide (2=j)),.bl (decide (3=j))]++[V.bl (decide (4=j)),.bl (decide (5=j)),.bl (decide (6=j)),.bl (decide (7=j))]++[V.bl (decide (8=j)),.bl (decide (9=j)),.bl (decide (10=j)),.bl (decide (11=j))]))=H3 at sd e3 s3 ⊢;have he3:=s3 _ _ he;refine⟨_,rq,.inl ⟨rq,_,SqL.of e3⟩,_,rq,DX he3 k.xc (k.kit 12 _ rfl) ⟨ld,_,_,rq,rq,e3,Aq (by show 12<=1000;decide),?_⟩⟩;have e4:upd H3 ld (.lst ([V.bl (decide (0=j)),.bl (decide (1=j)),.bl (decide (2=j)),.bl (decide (3=j))]++[V.bl (decide (4=j)),.bl (decide (5=j)),.bl (decide (6=j)),.bl (decide (7=j))]++[V.bl (decide (8=j)),.bl (decide (9=j)),.bl (decide (10=j)),.bl (decide (11=j))]++[.bl (decide (12=j))])) ld=some (.lst ((bsl j).map V.bl)):=Ac;have s4:Same H (upd H3 ld (.lst ([V.bl (decide (0=j)),.bl (decide (1=j)),.bl (decide (2=j)),.bl (decide (3=j))]++[V.bl (decide (4=j)),.bl (decide (5=j)),.bl (decide (6=j)),.bl (decide (7=j))]++[V.bl (decide (8=j)),.bl (decide (9=j)),.bl (decide (10=j)),.bl (decide (11=j))]++[.bl (decide (12=j))]))):=s3.BP Ah.upd fd;generalize upd H3 ld (.lst ([V.bl (decide (0=j)),.bl (decide (1=j)),.bl (decide (2=j)),.bl (decide (3=j))]++[V.bl (decide (4=j)),.bl (decide (5=j)),.bl (decide (6=j)),.bl (decide (7=j))]++[V.bl (decide (8=j)),.bl (decide (9=j)),.bl (decide (10=j)),.bl (decide (11=j))]++[.bl (decide (12=j))]))=H4 at e4 s4 ⊢;have he4:=s4 _ _ he;refine⟨Ar (by show 12<=1000;decide),λln hln=>?_⟩;have nd:ld≠ln:=Am e4 hln;have fn:H ln=none:=s4.free hln;have s5:=s4.trans (Af hln (.lst [V.str "plan",.str "text",.str "stretch",.str "spot",.str "opener",.str "address",.str "rules",.str "hand",.str "panel",.str "link",.str "log",.str "deed"]));have e5:=Af hln (.lst [V.str "plan",.str "text",.str "stretch",.str "spot",.str "opener",.str "address",.str "rules",.str "hand",.str "panel",.str "link",.str "log",.str "deed"]) _ _ e4;refine⟨_,rq,.inl ⟨rq,_,SqL.of Ac⟩,ln,_,_,rq,rq,Ac,Aq (by show 12<=1000;decide),?_⟩;generalize upd H4 ln (.lst [V.str "plan",.str "text",.str "stretch",.str "spot",.str "opener",.str "address",.str "rules",.str "hand",.str "panel",.str "link",.str "log",.str "deed"])=H5 at s5 e5 ⊢;have e6:∀o,upd H5 ln o ld=some (.lst ((bsl j).map V.bl)):=λo=>by rw[Al nd];exact e5
 have s6:∀o,Same H (upd H5 ln o):=λo=>s5.BP Ah.upd fn;refine⟨_,rq,iz (s6 _ _ _ he) k.xc k.kv ⟨_,rq,Bk ?_⟩⟩;refine⟨_,rq,.inl ⟨rq,_,SqL.of (e6 _)⟩,YS (e6 _) ⟨rq,_,rq,?_⟩⟩;rw[Y8 j hj];refine oG rfl ?_;refine⟨_,rq,_,rq,.inl ⟨rq,_,SqL.of (e6 _)⟩,Yl (e6 _) (by omega) (mL j hj) (mK j hj) ⟨ln,_,_,_,rq,rq,SqL.of Ac,Gd (wordAt j hj),q _ (s6 _)⟩⟩
end
abbrev Hg:Stmt:=top 22
abbrev Ji:YF:=["one","other"]
theorem Fq:Ba ["one","other","known","entry","stamp","panel","number","text"] Ji (Ae Hg):=by ac_rfl
structure En where
 st:Int
 pn:Int
 nr:Int
 tx:Str
deriving DecidableEq
def En.vs (e:En):YG:=[.int e.st,.int e.pn,.int e.nr,.str e.tx]
def En.key (e:En):List Key:=[.inl e.pn,.inl e.nr]
def En.cd (e:En):Int:=e.st*100000000+e.pn*10000+e.nr
def Di (H:Hp) (v:V) (e:En):Prop:=∃t,v=.ref t/\H t=some (.tup e.vs)
theorem Di.tups {H H':Hp} (s:Bq H H') {v:V} {e:En} (h:Di H v e):Di H' v e:=let ⟨t,h1,h2⟩:=h;⟨t,h1,s _ _ h2⟩
theorem Ens.tups {H H':Hp} (s:Bq H H') {vs:YG} {es:List En} (h:Paired (Di H) vs es):Paired (Di H') vs es:=Paired.Kf h λ_ _ z=>z.tups s
def Bf (H:Hp) (a:Addr) (es:List En):Prop:=∃vs,H a=some (.lst vs)/\Paired (Di H) vs es
theorem Bf.same {H H':Hp} {a:Addr} {es:List En} (h:Bf H a es) (s:Same H H'):Bf H' a es:=let ⟨vs,h1,h2⟩:=h;⟨vs,s _ _ h1,Ens.tups (Bq.of s) h2⟩
structure WOk (W:List En):Prop where
 few:W.length < 64
 pn0:∀e∈W,0<=e.pn
 pn1:∀e∈W,e.pn < 10000
 nr0:∀e∈W,0<=e.nr
 nr1:∀e∈W,e.nr < 10000
 tx:∀e∈W,PyData.strOk e.tx=true
 inj:∀e∈W,∀f∈W,e.pn=f.pn->e.nr=f.nr->e=f
theorem WOk.c4 {W:List En} (w:WOk W) {e:En} (h:e∈W):C4 e.st e.pn e.nr e.cd:=⟨w.pn0 e h,w.pn1 e h,w.nr0 e h,w.nr1 e h,rfl⟩
theorem WOk.cdi {W:List En} (w:WOk W) {e f:En} (he:e∈W) (hf:f∈W) (h:e.cd=f.cd):e=f:=by
 have:=w.pn0 e he;have:=w.pn1 e he;have:=w.nr0 e he;have:=w.nr1 e he;have:=w.pn0 f hf;have:=w.pn1 f hf;have:=w.nr0 f hf;have:=w.nr1 f hf;unfold En.cd at h;exact w.inj e he f hf (by omega) (by omega)
def Up (zs:List En):Prop:=zs.Pairwise λe f=>e.cd < f.cd
theorem iw {e f:En} (h:e.key=f.key):e.pn=f.pn/\e.nr=f.nr:=by
 unfold En.key at h;simp only[List.cons.injEq,Sum.inl.injEq,and_true] at h;exact h
def Ea (H:Hp) (kvs:YL) (ds:List En):Prop:=Paired (λ(kv:List Key×V) e=>kv.1=e.key/\Di H kv.2 e) kvs ds
theorem Ea.tups {H H':Hp} (s:Bq H H') {kvs:YL} {ds:List En} (h:Ea H kvs ds):Ea H' kvs ds:=Paired.Kf h λ_ _ z=>⟨z.1,z.2.tups s⟩
theorem Ea.at {H:Hp}:∀{kvs:YL} {ds:List En},Ea H kvs ds->∀{j:Nat} {k:List Key} {v:V},kvs[j]?=some (k,v)->∃e∈ds,k=e.key/\Di H v e
 | _,_,.nil,j,k,v,h=>by cases h
 | _,_,.cons a r,0,k,v,h=>by cases h;exact⟨_,.head _,a⟩
 | _,_,.cons a r,j+1,k,v,h=>let ⟨e,h1,h2⟩:=Ea.at r (j:=j) h;⟨e,.tail _ h1,h2⟩
theorem Ea.no {H:Hp}:∀{kvs:YL} {ds:List En},Ea H kvs ds->∀{k:List Key},(∀(j:Nat) (v:V),kvs[j]?≠some (k,v))->∀e∈ds,k≠e.key
 | _,_,.nil,k,h=>λe he=>by cases he
 | _,_,.cons (a:=a) x r,k,h=>λe he=>by
  rcases QbK.mp he with rfl | he
  ·intro z;exact h 0 a.2 (by rw[z,<-x.1];rfl)
  ·exact Ea.no r (λj v hj=>h (j+1) v (by simpa using hj)) e he
theorem Ea.vals {H:Hp}:∀{kvs:YL} {ds:List En},Ea H kvs ds->Paired (Di H) (kvs.map (·.2)) ds
 | _,_,.nil=>.nil
 | _,_,.cons x r=>.cons x.2 (Ea.vals r)
theorem Wd {K:YD} {H:Hp} {W:List En} (w:WOk W):∀{vs:YG} {es:List En},Paired (Di H) vs es->(∀e∈es,e∈W)->Paired (Ia K H) vs (es.map En.cd)
 | _,_,.nil,_=>.nil
 | _,_,.cons x r,h=>by
  obtain⟨t,e1,e2⟩:=x;exact .cons ⟨t,_,_,_,_,e1,SqT.of e2,w.c4 (h _ (.head _))⟩ (Wd w r λe he=>h e (.tail _ he))
theorem S6 {W:List En} (w:WOk W):∀{es:List En},es.Nodup->(∀e∈es,e∈W)->(es.map En.cd).Nodup
 | [],_,_=>List.Pairwise.nil
 | e::r,nd,h=>by
  rw[QbM];refine QbB.mpr ⟨λz=>?_,S6 w (QbB.mp nd).2 λe he=>h e (.tail _ he)⟩;obtain⟨f,hf,e1⟩:=QbV.mp z;exact (QbB.mp nd).1 (w.cdi (h f (.tail _ hf)) (h e (.head _)) e1 ▸ hf)
theorem G3 {κ : Type} [DecidableEq κ]:∀{l m:List κ},l.Nodup->(∀x∈l,x∈m)->l.length<=m.length
 | [],_,_,_=>Qca _
 | a::r,m,nd,h=>by
  have ha:=h a (QaQ ..);obtain⟨n1,n2⟩:=QbB.mp nd;have:=G3 (l:=r) (m:=m.erase a) n2 λx hx=>(List.mem_erase_of_ne (λe=>n1 (by rw[<-e];exact hx))).mpr (h x (QaA _ hx));rw[List.length_erase_of_mem ha] at this;have hp:=List.length_pos_of_mem ha;rw[Qbn];omega
theorem Rb {α : Type} (d:α) {is:List Nat} {xs:List α} (h:is.Perm (List.range xs.length)) (x:α):x∈(is.map λi=>xs.getD i d) ↔ x∈xs:=by
 have:=(h.map λi=>xs.getD i d);rw[range_getD] at this;exact this.mem_iff
def en0:En:=⟨0,0,0,""⟩
theorem Uw {is:List Nat} {ds:List En} (hp:is.Perm (List.range ds.length)) (h:(is.map λi=>(ds.map En.cd).getD i 0).Pairwise (· < ·)):Up (is.map λi=>ds.getD i en0):=by
 have e:(is.map λi=>(ds.map En.cd).getD i 0)=(is.map λi=>ds.getD i en0).map En.cd:=by
  rw[List.map_map];refine List.map_congr_left λi hi=>?_;have:=List.mem_range.mp (hp.mem_iff.mp hi);simp[this]
 rw[e,List.pairwise_map] at h;exact h
theorem Ux {H:Hp} {is:List Nat} {vs:YG} {ds:List En} (hp:is.Perm (List.range ds.length)) (h:Paired (Di H) vs ds):Paired (Di H) (is.map λi=>vs.getD i .non) (is.map λi=>ds.getD i en0):=
 Jt V.non en0 h λi hi=>by rw[QbL h];exact List.mem_range.mp (hp.mem_iff.mp hi)
def En.pd (e:En):PyData:=.tuple [.int e.st,.int e.pn,.int e.nr,.str e.tx]
theorem Lg {H:Hp} {v:V} {e:En} (h:Di H v e):Rep H v e.pd:=by
 obtain⟨t,rfl,h2⟩:=h;exact .tup h2 (.cons (.int _) (.cons (.int _) (.cons (.int _) (.cons (.str _) .nil))))
theorem HS {e:En} (h:PyData.strOk e.tx=true):SeqAt.shaped e.pd=true:=by
 show ((true&&(true&&(true&&(PyData.strOk e.tx&&true))))&&decide (max 0 (max 0 (max 0 (max 0 0)))+1<=64))=true;rw[h];rfl
theorem Ve {e:En} (h:PyData.strOk e.tx=true):PyData.eqv e.pd e.pd=true:=SeqAt.eqv_refl _ (SeqAt.canLay_of_shaped (HS h))
theorem Bg {i:Nat} {v:V} {Z : St} {H:Hp} {Q:YO} (h:Q (Z.set i (some v)) H):Iu i v Z H Q:=h
theorem Qce {α : Type} {l:List α} {i:Nat} {x:α} (h:l[i]?=some x):l.take (i+1)=l.take i++[x]:=by rw[List.take_add_one,h];rfl
theorem Ej {α β : Type} {F:α->β->Prop}:∀{l:List α} {m:List β} {i:Nat} {x:α},Paired F l m->l[i]?=some x->∃y,m[i]?=some y/\F x y
 | _,_,_,_,.nil,h=>by cases h
 | _,_,0,_,.cons a r,h=>by cases h;exact⟨_,rfl,a⟩
 | _,_,i+1,_,.cons a r,h=>Ej (i:=i) r h
inductive Mx (vs:YG) (H:Hp) (Q:VK) (E:XK):Prop
 | mk (a b:Addr) (xs ys W:List En) (_:vs=[.ref a,.ref b]) (_:Bf H a xs) (_:Bf H b ys) (_:WOk W) (_:(∀e∈xs,e∈W)) (_:(∀e∈ys,e∈W)) (_:xs.length+ys.length < 500) (_:∀l H' zs,H l=none->Bf H' l zs->Up zs->(∀e,e∈zs ↔ e∈xs\/e∈ys)->Same H H'->Q (.ref l) H'):Mx vs H Q E
section
variable {P:Program} {w:World} {K:YD} {mg:YB} {base:Heap}
abbrev js(a:PySem.Addr):Option L2.V:=some (.ref a)
theorem XH (c:Code K mg "joined" Hg Ji) (T:Nm mg):Good P w K mg base "joined" 1 Ji Mx:=by
 refine c.good Fq (λvs H Q E h=>?_) (λf cdv A outer s H vs Q E hr h=>?_)
 ·obtain⟨a,b,xs,ys,W,rfl,_⟩:=h;rfl
 obtain⟨a,b,xs,ys,W,rfl,⟨va,ha,pa⟩,⟨vb,hb,pb⟩,w,ix,iy,few,q⟩:=h;refine⟨_,(Ad (Aw (i:=2) Fq.nd rfl (Or.inl rfl) Rh)
 (Ad (Gf QbA rfl (Cy (Ao HN (pv 0) (pv 1))) (Ay (i:=3) Fq.nd rfl (Or.inl rfl))
 (Ad (Ew (pv 3) (JC rfl (Cd (Ay (i:=4) Fq.nd rfl (Or.inl rfl)) (Cd (Ay (i:=5) Fq.nd rfl (Or.inl rfl)) (Cd (Ay (i:=6) Fq.nd rfl (Or.inl rfl)) (Cd (Ay (i:=7) Fq.nd rfl (Or.inl rfl)) Hh))))))
 (Ai (Ca (BJ (Xx hr.units) (T4 (Wu hr) (pv 2) (Gg (Aa (pv 5) (Aa (pv 6) Ab))) (pv 3) ⟨rq,rq,rq,rq⟩) (pv 3) (Bt _)) (Ai ZC) Bv))))
 (Ai (Bc (T3 rfl rfl T.sorted (pv 2)))))),?_⟩
 show let R0:TS:=_;let R1:TS:=Aj _ R0;let R2:TS:=Aj (KC _ _ R1) _;Aj _ R2 _ _ _;intro R0 R1 R2;intro d hd;have s1:=Af hd (.dT []);have h1:(upd H d (.dT [])) d=some (.dT []):=Ac;generalize upd H d (.dT [])=H1 at *;refine Bg ?_;have la:va.length=xs.length:=QbL pa;have lb:vb.length=ys.length:=QbL pb;refine⟨_,rq,_,rq,a,b,va,vb,rq,rq,s1 _ _ ha,s1 _ _ hb,Ar (by omega),λc hc=>?_⟩;have s2:=Af hc (.lst (va++vb));have h2:(upd H1 c (.lst (va++vb))) c=some (.lst (va++vb)):=Ac;have hc0:H c=none:=s1.free hc;generalize upd H1 c (.lst (va++vb))=H2 at *;have pab:Paired (Di H) (va++vb) (xs++ys):=BZ pa pb;have ixy:∀e∈xs++ys,e∈W:=λe he=>(Qbu.mp he).elim (ix e) (iy e);have ndc:d≠c:=λz=>by rw[z,hc] at h1;cases h1
 refine⟨c,rq,⟨_,SqL.of h2⟩,?_⟩;let J0:YN:=λi (Z : St) (HH:Hp)=>∃u1 u2 u3 u4 u5,∃(kvs:YL) (ds:List En),Z=[js a,js b,js d,u1,u2,u3,u4,u5]/\HH d=some (.dT kvs)/\HH c=some (.lst (va++vb))/\Ea HH kvs ds/\ds.Nodup/\(∀e,e∈ds ↔ e∈(xs++ys).take i)/\Same H HH;refine Jo (xs:=va++vb) J0 ⟨_,_,_,_,_,[],[],rq,s2 _ _ h1,h2,.nil,.nil,λe=>by simp,s1.trans s2⟩ (λi Z HH _ h=>?_) (λi x Z HH hx h=>?_) (fun Z HH h=>?_)
 ·obtain⟨u1,u2,u3,u4,u5,kvs,ds,rfl,e1,e2,_⟩:=h;exact SqL.of e2
 ·obtain⟨u1,u2,u3,u4,u5,kvs,ds,rfl,e1,e2,e3,e4,e5,e6⟩:=h;obtain⟨e,he,hxe⟩:=Ej pab hx;have heW:e∈W:=ixy e (Qaz he);have hx':Di HH x e:=hxe.tups (Bq.of e6);refine Bg ?_;obtain⟨t,rfl,ht⟩:=id hx';have hx2:=hx';refine⟨_,rq,t,_,rq,SqT.of ht,rq,_,_,rq,_,_,rq,_,_,rq,_,_,rq,rq,?_⟩;refine⟨_,rq,d,rq,.inr ⟨kvs,.inl e1⟩,?_⟩;refine⟨_,rq,_,rq,Ar (by show 2<=1000;decide),λk hk=>?_⟩;have s3:=Af hk (.tup [.int e.pn,.int e.nr]);have hk3:(upd HH k (.tup [.int e.pn,.int e.nr])) k=some (.tup (e.key.map kV)):=Ac;generalize upd HH k (.tup [.int e.pn,.int e.nr])=H3 at *;have ld:kvs.length=ds.length:=QbL e3;have dW:∀e∈ds,e∈W:=λf hf=>ixy f (List.mem_of_mem_take ((e5 f).mp hf));have l1:=G3 e4 dW;have l2:=w.few;have neq:∀{HX:Hp} {v:V},Di HX v e->Di HX (.ref t) e->∃d1 e1:PyData,Rep HX v d1/\Rep HX (.ref t) e1/\SeqAt.shaped d1=true/\SeqAt.shaped e1=true/\(!PyData.eqv d1 e1)=false:=λz1 z2=>⟨_,_,Lg z1,Lg z2,HS (w.tx e heW),HS (w.tx e heW),by rw[Ve (w.tx e heW)];rfl⟩;refine⟨_,rq,kvs,e.key,k,s3 _ _ e1,rq,hk3,Aq (by omega),λj v hj=>?_,λhno=>?_⟩
  ·obtain⟨f,hf,ek,hv⟩:=e3.at hj;obtain⟨z1,z2⟩:=iw ek;have efe:f=e:=(w.inj e heW f (dW f hf) z1 z2).symm;subst efe;obtain⟨d1,d2,r1,r2,r3,r4,r5⟩:=neq (hv.tups (Bq.of s3)) (hx'.tups (Bq.of s3));refine⟨_,rq,d1,d2,r1,r2,r3,r4,_,rq,?_⟩;rw[r5];refine Bk ⟨_,_,_,_,_,kvs,ds,rq,s3 _ _ e1,s3 _ _ e2,e3.tups (Bq.of s3),e4,λg=>?_,e6.trans s3⟩;rw[Qce he,Qbu,QaM,<-e5 g];exact⟨.inl,λz=>z.elim id λz=>by rw[z];exact hf⟩
  ·have ndk:∀xs,H3 d≠some (.tup xs):=λxs z=>by rw[s3 _ _ e1] at z;cases z
   have s4:Bq H3 (upd H3 d (.dT (kvs++[(e.key,.ref t)]))):=Bq.upd ndk;have h4:(upd H3 d (.dT (kvs++[(e.key,.ref t)]))) d=some (.dT (kvs++[(e.key,.ref t)])):=Ac;have h5:(upd H3 d (.dT (kvs++[(e.key,.ref t)]))) c=some (.lst (va++vb)):=by rw[Al ndc.symm];exact s3 _ _ e2
   have s6:Same H (upd H3 d (.dT (kvs++[(e.key,.ref t)]))):=(e6.trans s3).BP Ah.upd hd;generalize upd H3 d (.dT (kvs++[(e.key,.ref t)]))=H4 at *;have hx4:=hx'.tups ((Bq.of s3).trans s4);obtain⟨d1,d2,r1,r2,r3,r4,r5⟩:=neq hx4 hx4;refine⟨_,rq,d1,d2,r1,r2,r3,r4,_,rq,?_⟩;rw[r5];have nde:e∉ds:=λz=>e3.no hno e z rfl;refine Bk ⟨_,_,_,_,_,kvs++[(e.key,.ref t)],ds++[e],rq,h4,h5,BZ (e3.tups ((Bq.of s3).trans s4)) (.cons ⟨rq,hx4⟩ .nil),?_,λg=>?_,s6⟩
   ·exact List.nodup_append.mpr ⟨e4,by simp,λx hx y hy z=>by rw[QaM.mp hy] at z;exact nde (z ▸ hx)⟩
   ·rw[Qce he,Qbu,Qbu,e5 g]
 ·obtain⟨u1,u2,u3,u4,u5,kvs,ds,rfl,e1,e2,e3,e4,e5,e6⟩:=h;have lxy:(va++vb).length=(xs++ys).length:=QbL pab;rw[lxy,Qbj] at e5;have dW:∀e∈ds,e∈W:=λf hf=>ixy f ((e5 f).mp hf);have l1:=G3 e4 dW;have l2:=w.few;have ld:kvs.length=ds.length:=QbL e3;refine⟨_,rq,d,kvs,ds.map En.cd,rq,e1,by omega,Wd w e3.vals dW,S6 w e4 dW,λis l hp hr' hl=>?_⟩;rw[ld] at hp;have s7:=Af hl (.lst (is.map λi=>(kvs.map (·.2)).getD i .non));refine q l _ (is.map λi=>ds.getD i en0) (e6.free hl) ⟨_,Ac,Ens.tups (Bq.of s7) (Ux hp e3.vals)⟩ (Uw hp hr') (λe=>?_) (e6.trans s7);rw[Rb en0 hp,e5,Qbu]
end
abbrev FT:Stmt:=top 17
abbrev GX:YF:=["thing"]
theorem TV:Ba ["thing"] GX (Ae FT):=by ac_rfl
abbrev Fi:Stmt:=top 18
abbrev Fj:YF:=["thing","low","high"]
theorem QX:Ba ["thing","low","high"] Fj (Ae Fi):=by ac_rfl
abbrev GF:Stmt:=top 19
abbrev Hz:YF:=["thing","least","most"]
theorem Vy:Ba ["thing","least","most"] Hz (Ae GF):=by ac_rfl
abbrev GD:Stmt:=top 29
abbrev Hy:YF:=[]
theorem Nx:Ba ["_law_some"] Hy (Ae GD):=by ac_rfl
abbrev Gv:Stmt:=top 30
abbrev Hi:YF:=["_law_bag_here"]
abbrev xp:YF:=["_law_bag_here","_law_size","_law_start","_law_step","_law_some","_law_signs_here"]
theorem Gx:Ba xp Hi (Ae Gv):=by ac_rfl
abbrev GC:Stmt:=top 27
abbrev Hx:YF:=["_law_thing"]
theorem Vx:Ba Hx Hx (Ae GC):=by ac_rfl
theorem jH {X:Cx} {k k':Nat} {ps:YF} {sp:Sp} {x:Str} {p pos:Pos} (g:Good X.prog X.w X.K X.mg X.base x k ps sp) (hr:Br k' X.A) (hk:k<=k':=by decide) (hg:Gl X x:=by rfl)
  (hdb:(x == ("__debug__":Str))=false:=by decide):PE X (.Call (.Name x p) [] [] pos) (Ni sp [] E0 IK):=by
 intro jb s Z H Q I h;obtain⟨f,fd,m,kp,b,F⟩:=g.ex;exact ZL F (hr.mono hk) hg m kp b .nil N5 hdb jb s Z H Q I h
def SG:Str:=" !\"#$&'()*+,-./0123456789:;<=>?@ABCDEFGHIJKLMNOPQRSTUVWXYZ[\\]^_`abcdefghijklmnopqrstuvwxyz{|}~"
theorem Y9:SG.cps.toList.length=94:=by trivial
theorem iK:SG.cps.size=94:=by rw[<-QaG,Y9]
theorem dG:∀c∈SG.cps.toList,c < 128:=by
 have h:SG.cps.toList.all (λc=>decide (c < 128))=true:=by trivial
 exact λc hc=>Qbd (List.all_eq_true.mp h c hc)
def sgB (c:Nat):Bool:=!(Builtin.Str.occurrences SG ⟨#[c]⟩ 0 SG.length 1).isEmpty
theorem mU:∀c∈SG.cps.toList,sgB c=true:=by
 have h:SG.cps.toList.all (λc=>!(Builtin.Str.occurrences SG ⟨#[c]⟩ 0 SG.length 1).isEmpty)=true:=by trivial
 exact λc hc=>List.all_eq_true.mp h c hc
structure Tj (mg:YB):Prop extends Nm mg where
 SIGNS:∃u,mg "SIGNS"=some u/\RelV (.str SG) u
 MOST_SIGNS:∃u,mg "MOST_SIGNS"=some u/\RelV (.int 20) u
structure Ln (z:Str):Prop where
 l1:1<=z.cps.size
 l2:z.cps.size<=20
 sg:∀c∈z.cps.toList,c∈SG.cps.toList
theorem Ln.str {z:Str} (h:Ln z):PyData.strOk z=true:=by
 unfold PyData.strOk;rw[Array.all_eq_true'];exact λc hc=>QbH (by have:=dG c (h.sg c (Array.mem_toList_iff.mpr hc));omega)
def isS:V->Bool
 | .str _=>true
 | _=>false
theorem RL {K:YD} {H:Hp} {x:V} {Q:VK} (k:Kn H x) (q:Q (.bl (isS x)) H):Ie K [x,.ty "str"] H Q:=by
 unfold Ie;cases x with
 | non=>exact⟨_,_,_,_,rfl,.non,by rfl,q⟩
 | bl b=>exact⟨_,_,_,_,rfl,.bl b,by rfl,q⟩
 | int i=>exact⟨_,_,_,_,rfl,.int i,by rfl,q⟩
 | str z=>exact⟨_,_,_,_,rfl,.str z,by rfl,q⟩
 | ref a=>
  rcases k with⟨xs,e⟩|⟨xs,e⟩
  ·exact⟨_,_,_,_,rq,.lst e,by rfl,q⟩
  ·exact⟨_,_,_,_,rq,.tup e,by rfl,q⟩
 | _=>exact k.elim
theorem iB {K:YD} {H:Hp} {a:Addr} {xs:YG} {Q:VK} (h:H a=some (.tup xs)) (q:Q (.bl true) H):Ie K [.ref a,.ty "tuple"] H Q:=by
 unfold Ie;exact⟨_,_,_,_,rq,.tup h,by rfl,q⟩
theorem iC {K:YD} {H:Hp} {a:Addr} {xs:YG} {Q:VK} (h:H a=some (.lst xs)) (q:Q (.bl true) H):Ie K [.ref a,.ty "list"] H Q:=by
 unfold Ie;exact⟨_,_,_,_,rq,.lst h,by rfl,q⟩
def wiB (v:V) (lo hi:Int):Bool:=match v with
 | .int x=>decide (lo<=x)&&decide (x<=hi)
 | _=>false
theorem iD {v:V} (h:isW v=true):∃i,v=.int i:=by
 cases v with
 | int i=>exact⟨i,rfl⟩
 | _=>cases h
inductive QK (vs:YG) (H:Hp) (Q:VK) (E:XK):Prop
 | mk (v) (_:vs=[v]) (_:Kn H v) (_:Q (.bl (isW v)) H):QK vs H Q E
inductive JZ (vs:YG) (H:Hp) (Q:VK) (E:XK):Prop
 | mk (v lo hi) (_:vs=[v,.int lo,.int hi]) (_:Kn H v) (_:Q (.bl (wiB v lo hi)) H):JZ vs H Q E
def lnB (v:V):Bool:=match v with
 | .str z=>decide (1<=z.cps.size)&&decide (z.cps.size<=20)&&z.cps.toList.all sgB
 | _=>false
theorem Ln.ln {z:Str} (h:Ln z):lnB (.str z)=true:=by
 show (decide (1<=z.cps.size)&&decide (z.cps.size<=20)&&z.cps.toList.all sgB)=true;rw[QbH h.l1,QbH h.l2,Bool.true_and,Bool.true_and];exact List.all_eq_true.mpr λc hc=>mU c (h.sg c hc)
inductive Mz (vs:YG) (H:Hp) (Q:VK) (E:XK):Prop
 | mk (v) (_:vs=[v,.int 1,.int 20]) (_:Kn H v) (_:(∀z,v=.str z->z.cps.size<=1000)) (_:∀H',Same H H'->Q (.bl (lnB v)) H'):Mz vs H Q E
def Us:Sp:=λvs H Q _=>vs=[]/\Q (.str SG) H
inductive Np (vs:YG) (H:Hp) (Q:VK) (E:XK):Prop
 | mk (b:Addr) (n:Nat) (_:vs=[.ref b]) (_:BK H b n) (_:n<=9000) (_:∀z H',Ln z->BK H' b (n+6)->Ah b H H'->Q (.str z) H'):Np vs H Q E
inductive Js (vs:YG) (H:Hp) (Q:VK) (E:XK):Prop
 | mk (v e) (_:vs=[v]) (_:Di H v e) (_:∀H',Same H H'->Q (.bl true) H'):Js vs H Q E
theorem fM {r:Int} (h0:0<=r) (h1:r < 94):∃c∈SG.cps.toList,atI SG.cps.toList r=some c:=by
 have hl:r.toNat < SG.cps.toList.length:=by rw[Y9];omega
 refine⟨SG.cps.toList[r.toNat],List.getElem_mem hl,?_⟩;have:=Gd (xs:=SG.cps.toList) (j:=r.toNat) (Qak hl);rw[Int.toNat_of_nonneg h0] at this;exact this
theorem at4 {i x:Int} (h0:0<=i) (h4:i < 4) (x0:1<=x) (x1:x<=20):∃y:Int,1<=y/\y<=20/\atI [V.int 1,.int 20,.int 2,.int x] i=some (.int y):=by
 have:i=0\/i=1\/i=2\/i=3:=by omega
 rcases this with rfl | rfl | rfl | rfl
 ·exact⟨1,by decide,by decide,rq⟩
 ·exact⟨20,by decide,by decide,rq⟩
 ·exact⟨2,by decide,by decide,rq⟩
 ·exact⟨x,x0,x1,rq⟩
def ones (cs:List Nat):YG:=cs.map λc=>V.str ⟨#[c]⟩
theorem Xz (cs:List Nat):Txt.join "" (cs.map λc=>(⟨#[c]⟩ : Str))=⟨cs.toArray⟩:=by
 have key:∀(cs:List Nat) (a:Array Nat),(cs.map λx=>(⟨#[x]⟩ : Str)).foldl (λacc p=>acc++(Str.ofString "").cps++p.cps) a=a++cs.toArray:=by
  intro cs
  induction cs with
  | nil=>intro a;simp
  | cons x r ih=>
   intro a;rw[QbM,List.foldl_cons,ih];have:(Str.ofString "").cps=#[]:=by trivial
   rw[this];apply Array.ext';simp
 cases cs with
 | nil=>rfl
 | cons x r=>
  show (⟨(r.map λx=>(⟨#[x]⟩ : Str)).foldl (λacc p=>acc++(Str.ofString "").cps++p.cps) #[x]⟩ : Str)=_;rw[key];congr 1;apply Array.ext';simp
theorem Ro:∀cs:List Nat,((cs.map λc=>(⟨#[c]⟩ : Str)).map (λx=>x.length)).sum=cs.length
 | []=>rfl
 | x::r=>by
  rw[QbM,QbM,List.sum_cons,Ro r,Qbn];show 1+_=_;omega
section
variable {P:Program} {w:World} {K:YD} {mg:YB} {base:Heap}
theorem T7 (c:Code K mg "is_whole" FT GX) (T:Nm mg):Good P w K mg base "is_whole" 1 GX QK:=by
 refine c.good TV (λvs H Q E h=>?_) (λf cdv A outer s H vs Q E hr h=>?_)
 ·obtain⟨v,rfl,_⟩:=h;rfl
 obtain⟨v,rfl,k,q⟩:=h;refine⟨_,(Ai (Bc (JD (Ak FN rfl T.isinstance Ax (Aa (pv 0) (Aa (FW (v:=.ty "int") rfl T.int Tg rfl) Ab))) (K5 (Xu (Ak FN rfl T.isinstance Ax (Aa (pv 0) (Aa (FW (v:=.ty "bool") rfl T.bool Vk rfl) Ab)))))))),?_⟩;refine⟨_,rq,U4 k ⟨_,rq,?_⟩⟩;rw[Yh] at q;cases e:isI v with
 | false=>rw[e] at q;exact Bk q
 | true=>rw[e] at q;exact Bp ⟨_,rfl,RM e ⟨_,rfl,q⟩⟩
theorem Rp (c:Code K mg "is_within" Fi Fj) (T:Nm mg) (WD:Good P w K mg base "is_whole" 1 GX QK):Good P w K mg base "is_within" 2 Fj JZ:=by
 refine c.good QX (λvs H Q E h=>?_) (λf cdv A outer s H vs Q E hr h=>?_)
 ·obtain⟨x,lo,hi,rfl,_⟩:=h;rfl
 obtain⟨v,lo,hi,rfl,k,q⟩:=h;refine⟨_,(Ai (Bc (JD (JF WD hr (Aa (pv 0) Ab)) (K5 (ZK Qt Qt (pv 1) (pv 0) (pv 2)))))),?_⟩;refine⟨_,rq,v,rq,k,_,rq,?_⟩;cases e:isW v with
 | false=>
  refine Bk ?_;have:wiB v lo hi=false:=by
   cases v with
   | int i=>cases e
   | _=>rfl
  rw[this] at q;exact q
 | true=>
  obtain⟨x,rfl⟩:=iD e;refine Bp ⟨_,rq,_,rq,_,_,rq,rq,_,rq,?_⟩;by_cases h1:lo<=x
  ·rw[QbH h1];refine Bp ⟨_,rq,_,_,rq,rq,?_⟩;have:wiB (.int x) lo hi=decide (x<=hi):=by show (decide (lo<=x)&&decide (x<=hi))=_;rw[QbH h1,Bool.true_and]
   rw[this] at q;exact q
  ·rw[Qbv h1];refine Bk ?_;have:wiB (.int x) lo hi=false:=by show (decide (lo<=x)&&decide (x<=hi))=_;rw[Qbv h1,QbJ]
   rw[this] at q;exact q
theorem V1 (C:Code K mg "is_line" GF Hz) (T:Tj mg):Good P w K mg base "is_line" 1 Hz Mz:=by
 refine C.good Vy (λvs H Q E h=>?_) (λf cdv A outer s H vs Q E hr h=>?_)
 ·obtain⟨v,rfl,_⟩:=h;rfl
 obtain⟨v,rfl,k,hz,q⟩:=h;refine⟨_,(Ad (Ca (PW.pt (Ly (CZ (CV (Ak FN rfl T.isinstance Ax (Aa (pv 0) (Aa (FW (v:=.ty "str") rfl T.str Y5 rfl) Ab))))) (K1 (CZ (Zz Qt Qt (pv 1) (Ak Jq rfl T.len Fd (Aa (pv 0) Ab)) (pv 2)))))) (Ai (Bc Cj)) Bv)
 (Ai (Bc (Ak (Kq rfl) rfl T.all Ou (Aa (Dn (N':=["sign"]) rfl (Bx.plain rfl (by trivial) (by trivial) (by trivial)) (jB (pv 0)) (λ_ _ _ _=>(Ay (i:=0) (show List.Nodup (["sign"]:YF) by trivial) rfl (Or.inl rfl))) (λ_ _ _ _=>Ey) (λ_ _ _ _=>(CW Xy (pv 0) (Xv rfl T.SIGNS) (by with_unfolding_all rfl)))) Ab))))),?_⟩
 show let R0:TS:=_;Aj _ R0 _ _ _;intro R0;refine⟨_,rq,RL k ⟨_,rq,?_⟩⟩;cases v with
 | str z=>
  have hl:=hz z rfl;refine Bk ⟨_,rq,_,rq,z,rq,Ar (by show z.cps.size<=1000;omega),_,_,rq,rq,_,rq,?_⟩;by_cases h1:1<=z.cps.size
  ·have d1:decide ((1:Int)<=(z.length:Int))=true:=QbH (by show (1:Int)<=(z.cps.size:Int);omega);rw[d1];refine Bp ⟨_,rq,_,_,rq,rq,_,rq,?_⟩;by_cases h2:z.cps.size<=20
   ·have d2:decide ((z.length:Int)<=20)=true:=QbH (by show (z.cps.size:Int)<=20;omega);rw[d2];refine Bk ⟨_,rq,z,rq,λl hl'=>?_⟩;let J0:YN:=λi Z HH=>∃u,Z=[u]/\HH l=some (.lst (((z.cps.toList.take i).map sgB).map V.bl))/\Same H HH;refine cY J0 ⟨_,rq,Ac,Af hl' _⟩ (λi c Z HH hc h=>?_) (fun Z HH h=>?_)
    ·obtain⟨u,rfl,e1,e2⟩:=h;have hi:i < z.cps.size:=(Qaf.mp hc).1;have hc':z.cps.toList[i]?=some c:=by rw[Qax];exact hc
     unfold Iu;dsimp only;refine Bp ⟨_,rq,_,_,rq,rq,_,e1,Aq (by rw[Qbt,Qbt,Qbk];omega),_,rq,?_,e2.BP Ah.upd hl'⟩;rw[Ac,Qce hc',Qbw,Qbw];rfl
    ·obtain⟨u,rfl,e1,e2⟩:=h;refine⟨l,_,rq,SqL.of e1,?_⟩;have:=q _ e2;have e3:lnB (.str z)=z.cps.toList.all sgB:=by show (decide (1<=z.cps.size)&&decide (z.cps.size<=20)&&_)=_;rw[QbH h1,QbH h2,Bool.true_and,Bool.true_and]
     rw[e3] at this;rw[<-QaG,Qbj,List.all_map];exact this
   ·have d2:decide ((z.length:Int)<=20)=false:=Qbv (by show ¬(z.cps.size:Int)<=20;omega);rw[d2];have:=q _ (Same.refl H);have e3:lnB (.str z)=false:=by show (decide (1<=z.cps.size)&&decide (z.cps.size<=20)&&_)=_;rw[Qbv h2,Bool.and_false,QbJ]
    rw[e3] at this;exact Bp this
  ·have d1:decide ((1:Int)<=(z.length:Int))=false:=Qbv (by show ¬(1:Int)<=(z.cps.size:Int);omega);rw[d1];have:=q _ (Same.refl H);have e3:lnB (.str z)=false:=by show (decide (1<=z.cps.size)&&decide (z.cps.size<=20)&&_)=_;rw[Qbv h1,QbJ,QbJ]
   rw[e3] at this;exact Bk ⟨_,rq,Bp this⟩
 | _=>exact Bp (q _ (Same.refl H))
theorem ZQ (c:Code K mg "_law_whole" GC Hx) (T:Nm mg):Good P w K mg base "_law_whole" 1 Hx QK:=by
 refine c.good Vx (λvs H Q E h=>?_) (λf cdv A outer s H vs Q E hr h=>?_)
 ·obtain⟨v,rfl,_⟩:=h;rfl
 obtain⟨v,rfl,k,q⟩:=h;refine⟨_,(Ai (Bc (JD (Ak FN rfl T.isinstance Ax (Aa (pv 0) (Aa (FW (v:=.ty "int") rfl T.int Tg rfl) Ab))) (K5 (Xu (Ak FN rfl T.isinstance Ax (Aa (pv 0) (Aa (FW (v:=.ty "bool") rfl T.bool Vk rfl) Ab)))))))),?_⟩;refine⟨_,rq,U4 k ⟨_,rq,?_⟩⟩;rw[Yh] at q;cases e:isI v with
 | false=>rw[e] at q;exact Bk q
 | true=>rw[e] at q;exact Bp ⟨_,rfl,RM e ⟨_,rfl,q⟩⟩
theorem ZR (c:Code K mg "_law_signs" GD Hy) (T:Nm mg):Good P w K mg base "_law_signs" 1 Hy Us:=by
 refine c.good Nx (λvs H Q E h=>?_) (λf cdv A outer s H vs Q E hr h=>?_)
 ·obtain⟨rfl,_⟩:=h;rfl
 obtain⟨rfl,q⟩:=h;refine⟨_,(Ad (Aw (i:=0) Nx.nd rfl (Or.inl rfl) Bs)
 (Ai (Bc (Ao Io (pv 0) Bs)))),?_⟩
 refine⟨_,rq,_,_,rq,rq,Ar (by trivial),?_⟩;have:Str.ofString " !\"#$&'()*+,-./0123456789:;<=>?@ABCDEFGHIJKLMNOPQRSTUVWXYZ[\\]^_`"++Str.ofString "abcdefghijklmnopqrstuvwxyz{|}~"=SG:=by trivial
 show Q (.str (Str.ofString " !\"#$&'()*+,-./0123456789:;<=>?@ABCDEFGHIJKLMNOPQRSTUVWXYZ[\\]^_`"++Str.ofString "abcdefghijklmnopqrstuvwxyz{|}~")) H;rw[this];exact q
abbrev xv:YF:=["_law_place","_law_some","_law_start","_law_step"]
theorem gG (C:Code K mg "_law_text" Gv Hi) (T:Nm mg) (Bb:Good P w K mg base "_law_take" 1 Dc DN) (Yt:Good P w K mg base "_law_signs" 1 Hy Us):Good P w K mg base "_law_text" 2 Hi Np:=by
 refine C.good Gx (λvs H Q E h=>?_) (λf cdv A outer s H vs Q E hr h=>?_)
 ·obtain⟨b,n,rfl,_⟩:=h;rfl
 obtain⟨b,n,rfl,hb,hn,q⟩:=h;refine⟨_,(@Ad _ _ _ _ _ (@Aw _ _ 1 _ _ _ _ Gx.nd rfl (Or.inl rfl) (Bw Bu (BL (Aa Ag (Aa Ag (Aa Ag (Aa (@Ao _ _ _ _ _ _ _ _ Cv Ag (Bl Bb hr (Aa (pv 0) (Aa Ag Ab)))) Ab))))) (Bl Bb hr (Aa (pv 0) (Aa Ag Ab))) (λ_ _=>rfl)) (by rfl) (by first | exact .inl rfl | exact .inr rfl))
 (@Ad _ _ _ _ _ (@Aw _ _ 2 _ _ _ _ Gx.nd rfl (Or.inr rfl) (Bl Bb hr (Aa (pv 0) (Aa Ag Ab))) (by rfl) (by first | exact .inl rfl | exact .inr rfl))
 (@Ad _ _ _ _ _ (@Aw _ _ 3 _ _ _ _ Gx.nd rfl (Or.inr rfl) (Bl Bb hr (Aa (pv 0) (Aa Ag Ab))) (by rfl) (by first | exact .inl rfl | exact .inr rfl))
 (@Ad _ _ _ _ _ (@Aw _ _ 4 _ _ _ _ Gx.nd rfl (Or.inr rfl) (jH Yt hr) (by rfl) (by first | exact .inl rfl | exact .inr rfl))
 (@Ad _ _ _ _ _ (JB (i:=5) Gx.nd rfl (Or.inl rfl) (N':=xv) rfl (Bx.of (src:=[none,some 4,some 2,some 3]) (Ae Gv) xp rfl rfl rfl (by trivial) (by trivial) (by trivial) rfl (by trivial)) (Eb rfl T.range (Aa (pv 1) Ab)) (λ_ _ _ _=>(Ay (i:=0) (show List.Nodup (xv:YF) by trivial) rfl (Or.inl rfl))) (λ_ _ _ _=>Ey) (λ_ _ _ _=>(Bw Ye (pv 1) (@Ao _ _ _ _ _ _ _ _ Fy (@Ao _ _ _ _ _ _ _ _ Cv (pv 2) (@Ao _ _ _ _ _ _ _ _ Fx (pv 3) (pv 0))) Ag) (λ_ _=>rfl))))
 (@Ad _ _ _ _ _ (Ew (Bw Ye (pv 4) (Bl Bb hr (Aa (pv 0) (Aa Ag Ab))) (λ_ _=>rfl)) (Fv (pv 5) (Bl Bb hr (Aa (pv 0) (Aa (pv 1) Ab))) set_list))
 (@Ai _ _ _ (Bc (Im PySem.F.plainAttrs_str PySem.F.slot_str_join PySem.F.type_str_join ig Bs (Aa (pv 5) Ab)))))))))),?_⟩
 show let R0:TS:=_;let R1:TS:=Aj _ R0;let R2:TS:=Aj _ R1;let R3:TS:=Aj _ R2;let R4:TS:=Aj _ R3;let R5:TS:=Aj _ R4;Aj _ R5 _ _ _;intro R0 R1 R2 R3 R4 R5;refine⟨_,rq,b,n,20,rq,hb,by omega,by decide,by decide,λr1 H1 r10 r11 hb1 sb1=>⟨_,_,rq,rq,Ar (by show 4<=1000;decide),λp hp=>?_⟩⟩;have nbp:b≠p:=hb1.nb hp;have hb2:=hb1.same (Af hp (.lst [.int 1,.int 20,.int 2,.int (1+r1)]));refine⟨_,rq,b,_,4,rq,hb2,by omega,by decide,by decide,λr2 H2 r20 r21 hb3 sb2=>?_⟩;obtain⟨y,y0,y1,hy⟩:=at4 r20 r21 (x:=1+r1) (by omega) (by omega);refine⟨p,_,_,_,rq,rq,SqL.of (sb2 _ _ Ac nbp.symm),hy,?_⟩;have sH2:Ah b H H2:=(sb1.trans (Ah.of (Af hp _))).trans sb2;clear hy hb2;refine⟨_,rq,b,_,94,rq,hb3,by omega,by decide,by decide,λr3 H3 r30 r31 hb4 sb3=>?_⟩;refine⟨_,rq,b,_,94,rq,hb4,by omega,by decide,by decide,λr4 H4 r40 r41 hb5 sb4=>?_⟩;have sH4:Ah b H H4:=(sH2.trans sb3).trans sb4;refine⟨rq,?_⟩;refine⟨_,rq,_,rq,by omega,by omega,λl hl=>?_⟩;have nbl:b≠l:=hb5.nb hl;have fl:H l=none:=sH4.free hb5.ex hl;have sgl:SG.length<=sizeLine:=Ar (by show SG.cps.size<=1000;rw[iK];decide);let J1:YN:=λ(i:Nat) (Z : St) (HH:Hp)=>∃(u:Option V) (cs:List Nat),Z=[u,some (.str SG),some (.int r3),some (.int r4)]/\HH l=some (.lst (ones cs))/\cs.length=i/\(∀c∈cs,c∈SG.cps.toList)/\Ah l H4 HH;refine Gb J1
  ⟨none,[],rq,Ac,rq,(λy hy=>by cases hy),Ah.of (Af hl _)⟩ (λi Z HH hi h=>?_) (fun Z HH h=>?_)
 ·obtain⟨u,cs,rfl,e1,e2,e3,e4⟩:=h;obtain⟨c,hc,ec⟩:=fM (r:=(r3+r4*(0+(i:Int))) % 94) (QbE _ (by decide)) (QaU _ (by decide));unfold Iu;dsimp only;refine Bp ⟨_,rq,_,rq,_,rq,_,rq,_,_,rq,rq,.inl ⟨by omega,by omega⟩,_,_,rq,rq,_,_,rq,rq,(by show (0:Int) < 94;decide),_,_,c,rq,rq,sgl,ec,_,e1,Aq (by unfold ones;rw[Qbt];omega),_,cs++[c],rq,?_,?_,λd hd=>?_,e4.trans Ah.upd⟩
  ·rw[Ac];unfold ones;rw[Qbw];rfl
  ·rw[QaN,e2];rfl
  ·rcases Qbu.mp hd with h | h
   ·exact e3 d h
   ·have:d=c:=by simpa using h
    rw[this];exact hc
 obtain⟨u,cs,rfl,e1,e2,e3,e4⟩:=h;have hb6:BK HH b (n+1+1+1+1):=hb5.Bd e4 nbl;have sHH:Ah b H HH:=λc o e ne=>e4 _ _ (sH4 _ _ e ne) λz=>by rw[z,fl] at e;cases e
 refine⟨_,rq,_,rq,b,_,94,rq,hb6,by omega,by decide,by decide,λr5 H5 r50 r51 hb7 sb5=>?_⟩;obtain⟨c,hc,ec⟩:=fM r50 r51;refine⟨_,_,c,rq,rq,sgl,ec,_,rq,_,rq,_,rq,b,_,y,rq,hb7,by omega,by omega,by omega,λr6 H6 r60 r61 hb8 sb6=>?_⟩;have e5:H6 l=some (.lst (ones cs)):=sb6 _ _ (sb5 _ _ e1 nbl.symm) nbl.symm;have ocl:(ones cs).length=y.toNat:=by unfold ones;rw[Qbt];exact e2
 have hix:ixN (ones cs).length r6=some r6.toNat:=by
  unfold ixN;rw[if_pos r60,if_pos (by rw[ocl];omega)]
 refine⟨l,_,_,_,rq,rq,e5,hix,?_⟩;have e6:(upd H6 l (.lst ((ones cs).set r6.toNat (.str ⟨#[c]⟩)))) l=some (.lst (ones (cs.set r6.toNat c))):=by rw[Ac];unfold ones;rw[QbX]
 have f4:=(hb8.Bd (Ah.upd (o:=.lst ((ones cs).set r6.toNat (.str ⟨#[c]⟩)))) nbl);have f5:Ah b H (upd H6 l (.lst ((ones cs).set r6.toNat (.str ⟨#[c]⟩)))):=λc' o e ne=>Ah.upd _ _ (sb6 _ _ (sb5 _ _ (sHH _ _ e ne) ne) ne) λz=>by rw[z,fl] at e;cases e
 generalize upd H6 l (.lst ((ones cs).set r6.toNat (.str ⟨#[c]⟩)))=HF at *;have f2:(cs.set r6.toNat c).length=y.toNat:=by rw[QbD];exact e2
 have f3:∀d∈cs.set r6.toNat c,d∈SG.cps.toList:=λd hd=>by
  rcases Qai hd with h | rfl
  ·exact e3 d h
  ·exact hc
 generalize cs.set r6.toNat c=ds at *;refine⟨rq,_,rq,_,l,ds.map λc=>(⟨#[c]⟩ : Str),rq,rq,SqL.of (by rw[e6];unfold ones;rw[List.map_map];rfl),?_,?_⟩
 ·rw[Ro,Qbt];have:(Str.ofString "").length=0:=by trivial
  rw[this];have:2000 < sizeLine:=by decide
  omega
 ·rw[Xz];refine q _ _ ⟨?_,?_,f3⟩ f4 f5
  ·show 1<=ds.toArray.size;rw[QaZ];omega
  ·show ds.toArray.size<=20;rw[QaZ];omega
end
abbrev DR:Stmt:=top 31
abbrev DW:YF:=Hx
theorem Qh:Ba Hx DW (Ae DR):=by ac_rfl
section
variable {P:Program} {w:World} {K:YD} {mg:YB} {base:Heap}
theorem T8 (C:Code K mg "_law_is_entry" DR DW) (T:Nm mg) (Ys:Good P w K mg base "_law_whole" 1 Hx QK):Good P w K mg base "_law_is_entry" 2 DW Js:=by
 refine C.good Qh (λvs H Q E h=>?_) (λf cdv A outer s H vs Q E hr h=>?_)
 ·obtain⟨v,e,rfl,_⟩:=h;rfl
 obtain⟨v,e,rfl,⟨t,rfl,ht⟩,q⟩:=h;refine⟨_,(Ad (Ca (PW.pt (Ly (CZ (CV (Ak FN rfl T.isinstance Ax (Aa (pv 0) (Aa (FW (v:=.ty "tuple") rfl T.tuple dw rfl) Ab))))) (Ly (BJ eO (Ak Ck rfl T.len Fd (Aa (pv 0) Ab)) Ag (Bt _)) (K1 (CZ (CV (Ak FN rfl T.isinstance Ax (Aa (Bw Oe (pv 0) Ag (λ_ _=>rfl)) (Aa (FW (v:=.ty "str") rfl T.str Y5 rfl) Ab))))))))) (Ai (Bc Cj)) Bv)
 (Ai (Bc (Ak (Kq rfl) rfl T.all Ou (Aa (Dn (N':=["_law_part"]) rfl (Bx.plain rfl (by trivial) (by trivial) (by trivial)) (jA (MP fU (pv 0) O8 (O7 Ag))) (λ_ _ _ _=>(Ay (i:=0) (show List.Nodup (["_law_part"]:YF) by trivial) rfl (Or.inl rfl))) (λ_ _ _ _=>Ey) (λ_ _ _ _=>(JF Ys hr (Aa (pv 0) Ab)))) Ab))))),?_⟩
 show let R0:TS:=_;Aj _ R0 _ _ _;intro R0;refine⟨_,rq,iB ht ⟨_,rq,Bk ⟨_,rq,t,_,rq,.inr (SqT.of ht),rq,_,rq,Bk ⟨_,rq,t,_,_,_,rq,rq,SqT.of ht,rq,RL True.intro ⟨_,rq,Bk ?_⟩⟩⟩⟩⟩;refine⟨_,rq,_,rq,t,_,rq,ht,λu H1 hu s1=>⟨u,rq,⟨_,SqT.of hu⟩,λl hl=>?_⟩⟩;have e0:Jz e.vs none (some 3)=[.int e.st,.int e.pn,.int e.nr]:=rfl;rw[e0] at hu;let J0:YN:=λ(i:Nat) (Z : St) (HH:Hp)=>∃v,Z=[v]/\HH l=some (.lst ((List.replicate i true).map V.bl))/\Same H1 HH;refine cX (xs:=[.int e.st,.int e.pn,.int e.nr]) J0 ⟨_,rq,Ac,Af hl _⟩ (λi Z HH _ h=>?_) (λi x Z HH hx h=>?_) (fun Z HH h=>?_)
 ·obtain⟨v,rfl,e1,e2⟩:=h;exact SqT.of (e2 _ _ hu)
 ·obtain⟨v,rfl,e1,e2⟩:=h;obtain⟨y,rfl⟩ : ∃y,x=.int y:=by
   have:=Qaz hx;simp only[QbK,Qbi,Qcf] at this;rcases this with rfl | rfl | rfl <;> exact⟨_,rfl⟩
  have hi:i < 3:=(Qah.mp hx).1;refine Bg ?_;refine Bp ⟨_,rq,_,rq,True.intro,_,e1,Aq (by simp;omega),_,rq,?_,e2.BP Ah.upd hl⟩;rw[Ac,QaD,Qbw];rfl
 ·obtain⟨v,rfl,e1,e2⟩:=h;refine⟨l,List.replicate 3 true,rq,SqL.of e1,q _ (s1.trans e2)⟩
end
abbrev Ci:Stmt:=(inClass (top 23) 0)
abbrev CQ:YF:=["self","many"]
theorem MJ:Ba ["self","many"] CQ (Ae Ci):=by ac_rfl
abbrev BW:Stmt:=(inClass (top 23) 1)
abbrev BX:YF:=["self","panel"]
theorem Ky:Ba BX BX (Ae BW):=by ac_rfl
abbrev Ef:Stmt:=(inClass (top 23) 2)
abbrev Ek:YF:=["self","link","whole"]
theorem TX:Ba ["self","link","whole"] Ek (Ae Ef):=by ac_rfl
abbrev Eh:Stmt:=(inClass (top 23) 3)
abbrev El:YF:=["self","link"]
theorem TY:Ba El El (Ae Eh):=by ac_rfl
abbrev Dv:Stmt:=(inClass (top 23) 4)
abbrev Dz:YF:=El
theorem QZ:Ba El Dz (Ae Dv):=by ac_rfl
abbrev CT:Stmt:=(inClass (top 23) 8)
abbrev Cq:YF:=BX
theorem O4:Ba BX Cq (Ae CT):=by ac_rfl
structure Tx (K:YD) (mg:YB) (C:Addr):Prop extends Tj mg where
 cl:Cls K C
 mgC:mg "Ring"=some (.ref C)
 JL:G6 K C "many"
 G4:G6 K C "logs"
 N8:G6 K C "tied"
def fr (n:Int) (L T:Addr):List (Str×V):=[("many",.int n),("logs",.ref L),("tied",.ref T)]
theorem Qx (n:Int) (L T:Addr):((fr n L T).map (·.1)).Nodup:=by show (["many","logs","tied"]:YF).Nodup;decide +kernel
theorem Kl (n:Int) (L T:Addr):List.lookup ("many":Str) (fr n L T)=some (V.int n):=Oq (i:=0) (Qx n L T) rfl
theorem Hl (n:Int) (L T:Addr):List.lookup ("logs":Str) (fr n L T)=some (V.ref L):=Oq (i:=1) (Qx n L T) rfl
theorem RP (n:Int) (L T:Addr):List.lookup ("tied":Str) (fr n L T)=some (V.ref T):=Oq (i:=2) (Qx n L T) rfl
theorem Cr {n:Int} {L T:Addr} {f:Str} (h:f∉(["many","logs","tied"]:YF)):List.lookup f (fr n L T)=none:=fG h
structure RAt (C:Addr) (H:Hp) (p L T:Addr) (as:List Addr) (n:Nat) (logs:List (List En)) (tied:List Bool):Prop where
 ob:∃dx,H p=some (.ins C dx (fr n L T))
 hl:H L=some (.lst (as.map V.ref))
 lg:Paired (Bf H) as logs
 ht:H T=some (.lst (tied.map V.bl))
 ln:logs.length=n
 tn:tied.length=n
 LT:L≠T
 n2:2<=n
 n4:n<=4
theorem Logs.same {H H':Hp} (s:Same H H') {as:List Addr} {gs:List (List En)} (h:Paired (Bf H) as gs):Paired (Bf H') as gs:=Paired.Kf h λ_ _ z=>z.same s
theorem Bf.Bd {H H':Hp} {x a:Addr} {es:List En} (h:Bf H a es) (s:Ah x H H') (t:∀xs,H x≠some (.tup xs)) (ne:a≠x):Bf H' a es:=let ⟨vs,h1,h2⟩:=h;⟨vs,s _ _ h1 ne,Ens.tups (s.tup t) h2⟩
theorem Logs.Bd {H H':Hp} {x:Addr} (s:Ah x H H') (t:∀xs,H x≠some (.tup xs)):∀{as:List Addr} {gs:List (List En)},Paired (Bf H) as gs->x∉as->Paired (Bf H') as gs
 | _,_,.nil,_=>.nil
 | _,_,.cons a r,h=>.cons (a.Bd s t λz=>h (by rw[z];exact .head _)) (Logs.Bd s t r λz=>h (.tail _ z))
theorem RAt.same {C:Addr} {H H':Hp} {p L T:Addr} {as:List Addr} {n:Nat} {logs:List (List En)} {tied:List Bool} (h:RAt C H p L T as n logs tied) (s:Same H H'):RAt C H' p L T as n logs tied:=
 ⟨let ⟨dx,e⟩:=h.ob;⟨dx,s _ _ e⟩,s _ _ h.hl,Logs.same s h.lg,s _ _ h.ht,h.ln,h.tn,h.LT,h.n2,h.n4⟩
theorem RAt.Bd {C:Addr} {H H':Hp} {x p L T:Addr} {as:List Addr} {n:Nat} {logs:List (List En)} {tied:List Bool} (h:RAt C H p L T as n logs tied) (s:Ah x H H') (t:∀xs,H x≠some (.tup xs)) (np:p≠x) (nL:L≠x) (nT:T≠x) (na:x∉as):RAt C H' p L T as n logs tied:=
 ⟨let ⟨dx,e⟩:=h.ob;⟨dx,s _ _ e np⟩,s _ _ h.hl nL,Logs.Bd s t h.lg na,s _ _ h.ht nT,h.ln,h.tn,h.LT,h.n2,h.n4⟩
theorem Dg {H:Hp}:∀{as:List Addr} {gs:List (List En)} {a:Addr},Paired (Bf H) as gs->a∈as->∃g,Bf H a g
 | _,_,_,.nil,h=>by cases h
 | _,_,_,.cons x r,h=>by
  rcases QbK.mp h with rfl | h
  ·exact⟨_,x⟩
  ·exact Dg r h
theorem RAt.np {C:Addr} {H:Hp} {p L T:Addr} {as:List Addr} {n:Nat} {logs:List (List En)} {tied:List Bool} (h:RAt C H p L T as n logs tied):p≠L/\p≠T/\p∉as:=by
 obtain⟨dx,e⟩:=h.ob;refine⟨λz=>?_,λz=>?_,λz=>?_⟩
 ·rw[z,h.hl] at e;cases e
 ·rw[z,h.ht] at e;cases e
 ·obtain⟨g,vs,e1,_⟩:=Dg h.lg z;rw[e] at e1;cases e1
theorem RAt.pt {C:Addr} {H:Hp} {p L T:Addr} {as:List Addr} {n:Nat} {logs:List (List En)} {tied:List Bool} (h:RAt C H p L T as n logs tied):∀xs,H p≠some (.tup xs):=λxs z=>by
 obtain⟨dx,e⟩:=h.ob;rw[e] at z;cases z
theorem RAt.al {C:Addr} {H:Hp} {p L T:Addr} {as:List Addr} {n:Nat} {logs:List (List En)} {tied:List Bool} (h:RAt C H p L T as n logs tied):as.length=n:=(QbL h.lg).trans h.ln
theorem RAt.bag {C:Addr} {H:Hp} {p L T:Addr} {as:List Addr} {n m:Nat} {logs:List (List En)} {tied:List Bool} {b:Addr} (h:RAt C H p L T as n logs tied) (hb:BK H b m):p≠b/\L≠b/\T≠b/\b∉as:=by
 obtain⟨x,y,z,e,_⟩:=hb;have hn:=h.n2;have ha:=h.al;have ht:=h.tn;refine⟨λw=>?_,λw=>?_,λw=>?_,λw=>?_⟩
 ·obtain⟨dx,e1⟩:=h.ob;rw[w,e] at e1;cases e1
 ·have e1:=h.hl;rw[w,e] at e1
  match as,ha with
  | a::r,_=>cases e1
  | [],ha=>rw[<-ha] at hn;cases hn
 ·have e1:=h.ht;rw[w,e] at e1
  match tied,ht with
  | a::r,_=>cases e1
  | [],ha=>rw[<-ha] at hn;cases hn
 ·obtain⟨g,vs,e1,r⟩:=Dg h.lg w;rw[e] at e1;cases e1;cases r with
  | cons q _=>obtain⟨t,e2,_⟩:=q;cases e2
inductive QS (C:Addr) (vs:YG) (H:Hp) (Q:VK) (E:XK):Prop
 | mk (p dx:Addr) (n:Nat) (_:vs=[.ref p,.int n]) (_:H p=some (.ins C dx [])) (_:2<=n) (_:n<=4) (_:∀L T as H',H L=none->H T=none->(∀a∈as,H a=none)->RAt C H' p L T as n (List.replicate n []) (List.replicate n true)->Ah p H H'->Q .non H'):QS C vs H Q E
inductive Kc (C c8:Addr) (vs:YG) (H:Hp) (Q:VK) (E:XK):Prop
 | mk (p L T:Addr) (as:List Addr) (n:Nat) (v:V) (logs:List (List En)) (tied:List Bool) (_:vs=[.ref p,v]) (_:RAt C H p L T as n logs tied) (_:Kn H v) (_:(wiB v 0 ((n:Int) - 1)=true->Q .non H)) (_:(wiB v 0 ((n:Int) - 1)=false->E (.ref c8) none H)):Kc C c8 vs H Q E
inductive Nk (C c9:Addr) (vs:YG) (H:Hp) (Q:VK) (E:XK):Prop
 | mk (p L T:Addr) (as:List Addr) (n:Nat) (v:V) (b:Bool) (logs:List (List En)) (tied:List Bool) (_:vs=[.ref p,v,.bl b]) (_:RAt C H p L T as n logs tied) (_:Kn H v) (_:(∀(q:Nat) H',v=.int q->q < n->RAt C H' p L T as n logs (tied.set q b)->Ah T H H'->Q .non H')) (_:(wiB v 0 ((n:Int) - 1)=false->E (.ref c9) none H)):Nk C c9 vs H Q E
inductive IV (C c9:Addr) (b:Bool) (vs:YG) (H:Hp) (Q:VK) (E:XK):Prop
 | mk (p L T:Addr) (as:List Addr) (n:Nat) (v:V) (logs:List (List En)) (tied:List Bool) (_:vs=[.ref p,v]) (_:RAt C H p L T as n logs tied) (_:Kn H v) (_:(∀(q:Nat) H',v=.int q->q < n->RAt C H' p L T as n logs (tied.set q b)->Ah T H H'->Q .non H')) (_:(wiB v 0 ((n:Int) - 1)=false->E (.ref c9) none H)):IV C c9 b vs H Q E
inductive IW (C c8:Addr) (vs:YG) (H:Hp) (Q:VK) (E:XK):Prop
 | mk (p L T:Addr) (as:List Addr) (n:Nat) (v:V) (logs:List (List En)) (tied:List Bool) (_:vs=[.ref p,v]) (_:RAt C H p L T as n logs tied) (_:Kn H v) (_:(∀(q:Nat) (g:List En) l H',v=.int q->logs[q]?=some g->H l=none->Bf H' l g->Same H H'->Q (.ref l) H')) (_:(wiB v 0 ((n:Int) - 1)=false->E (.ref c8) none H)):IW C c8 vs H Q E
theorem dY {v:V} {n:Nat} (h:wiB v 0 ((n:Int) - 1)=true):∃q:Nat,v=.int q/\q < n:=by
 cases v with
 | int x=>
  have h:(decide ((0:Int)<=x)&&decide (x<=(n:Int) - 1))=true:=h;rw[Qbm,QaR,QaR] at h;exact⟨x.toNat,by rw[Int.toNat_of_nonneg h.1],by omega⟩
 | _=>cases h
theorem JR {q n:Nat} (h:q < n):wiB (.int q) 0 ((n:Int) - 1)=true:=by
 show (decide ((0:Int)<=(q:Int))&&decide ((q:Int)<=(n:Int) - 1))=true;rw[QbH (by omega),QbH (by omega)];rfl
theorem Ft {α β : Type} {F:α->β->Prop}:∀{l:List α} {m:List β} {i:Nat} {y:β},Paired F l m->m[i]?=some y->∃x,l[i]?=some x/\F x y
 | _,_,_,_,.nil,h=>by cases h
 | _,_,0,_,.cons a r,h=>by cases h;exact⟨_,rfl,a⟩
 | _,_,i+1,_,.cons a r,h=>Ft (i:=i) r h
theorem ixn {n q:Nat} (h:q < n):ixN n (q:Int)=some q:=by
 unfold ixN;rw[if_pos (by omega),if_pos (by omega)];rfl
section
variable {P:Program} {w:World} {K:YD} {mg:YB} {base:Heap} {C hc c0 c1 c2 c3 c4 c5 c6 c7 c8 c9 c10 c11 c12:Addr}
theorem gM (F:∃f fd,Fun K "__init__" "Ring.__init__" Ci f fd/\Mk K C f/\Binds K fd CQ []) (T:Tx K mg C):W2 P w K mg base C 1 CQ (QS C):=by
 obtain⟨f,fd,F,Mk,b⟩:=F;refine⟨f,fd,Mk,b,F.ok MJ (λvs H Q E h=>?_) (λcdv A outer s H vs Q E hr h=>?_)⟩
 ·obtain⟨p,dx,n,rfl,_⟩:=h;rfl
 obtain⟨p,dx,n,rfl,hp,n2,n4,q⟩:=h;refine⟨_,(Ad (Lz (pv 0) (pv 1) rfl)
 (Ad (Lz (pv 0) (Dn (N':=["panel"]) rfl (Bx.plain rfl (by trivial) (by trivial) (by trivial)) (Eb rfl T.range (Aa (pv 1) Ab)) (λ_ _ _ _=>(Ay (i:=0) (show List.Nodup (["panel"]:YF) by trivial) rfl (Or.inl rfl))) (λ_ _ _ _=>Ey) (λ_ _ _ _=>(BL Ab))) rfl)
 (Ai (Lz (pv 0) (Dn (N':=["link"]) rfl (Bx.plain rfl (by trivial) (by trivial) (by trivial)) (Eb rfl T.range (Aa (pv 1) Ab)) (λ_ _ _ _=>(Ay (i:=0) (show List.Nodup (["link"]:YF) by trivial) rfl (Or.inl rfl))) (λ_ _ _ _=>Ey) (λ_ _ _ _=>Cj)) rfl)))),?_⟩
 show let R0:TS:=_;let R1:TS:=Aj _ R0;Aj _ R1 _ _ _;intro R0 R1;refine⟨_,rq,_,rq,p,C,dx,_,_,rq,hp,T.cl,T.JL,(by show 0 < 1000;decide),Oo (by show _∉([]:YF);decide +kernel),λH1 h1 s1=>?_⟩;refine⟨_,rq,_,rq,by omega,by omega,λL hL=>?_⟩;have fL:H L=none:=s1.free ⟨_,h1⟩ hL;let J0:YN:=λ(i:Nat) (Z : St) (HH:Hp)=>∃(u:Option V) (as:List Addr),Z=[u]/\HH L=some (.lst (as.map V.ref))/\Paired (Bf HH) as (List.replicate i [])/\(∀a∈as,H1 a=none)/\L∉as/\Same H1 HH;refine Gb J0 ⟨_,[],rq,Ac,.nil,(λa ha=>by cases ha),(λz=>by cases z),Af hL _⟩ (λi Z HH hi h=>?_) (fun Z HH h=>?_)
 ·obtain⟨u,as,rfl,e1,e2,e3,e4,e5⟩:=h;refine Bg (Bp ⟨Ar (by show 0<=1000;decide),λa ha=>?_⟩);have al:=QbL e2;rw[Qav] at al;have s6:=Af ha (.lst []);have nLa:L≠a:=Am e1 ha;have e6:(upd HH a (.lst [])) a=some (.lst []):=Ac;have e1':=s6 _ _ e1;have e2':=Logs.same s6 e2;have ea:H1 a=none:=e5.free ha;have e5':=e5.trans s6;generalize upd HH a (.lst [])=H6 at *;have tL:∀xs,H6 L≠some (.tup xs):=λxs z=>by rw[e1'] at z;cases z
  refine⟨_,e1',Aq (by rw[Qbt];omega),_,as++[a],rq,by rw[Ac,Qbw];rfl,?_,?_,?_,e5'.BP Ah.upd hL⟩
  ·rw[QaD];exact BZ (Logs.Bd Ah.upd tL e2' e4) (.cons (Bf.Bd ⟨[],e6,.nil⟩ Ah.upd tL nLa.symm) .nil)
  ·intro z hz;rcases Qbu.mp hz with hz | hz
   ·exact e3 z hz
   ·rw[QaM.mp hz];exact ea
  ·intro z;rcases Qbu.mp z with z | z
   ·exact e4 z
   ·exact nLa (QaM.mp z)
 obtain⟨u,as,rfl,e1,e2,e3,e4,e5⟩:=h;rw[Qbb] at e2;have hp2:=e5 _ _ h1;refine⟨_,rq,p,C,dx,_,_,rq,hp2,T.cl,T.G4,(by show 1 < 1000;decide),Oo (by show _∉(["many"]:YF);decide +kernel),λH3 h3 s3=>?_⟩;refine⟨_,rq,_,rq,by omega,by omega,λTT hT=>?_⟩;have hL3:H3 L=some (.lst (as.map V.ref)):=s3 _ _ e1 (λz=>by rw[<-z,e1] at hp2;cases hp2);have pt:∀xs,HH p≠some (.tup xs):=λxs z=>by rw[hp2] at z;cases z
 have npa:p∉as:=λz=>by have:=e3 p z;rw[h1] at this;cases this
 have lg3:=Logs.Bd s3 pt e2 npa;have ft:∀x,H3 x=none->H x=none:=λx hx=>s1.free ⟨_,h1⟩ (e5.free (s3.free ⟨_,h3⟩ hx));have fT:=ft TT hT;let J1:YN:=λ(i:Nat) (Z : St) (HX:Hp)=>∃(u:Option V),Z=[u]/\HX TT=some (.lst ((List.replicate i true).map V.bl))/\Same H3 HX;refine Gb J1 ⟨_,rq,Ac,Af hT _⟩ (λi Z HX hi h=>?_) (fun Z HX h=>?_)
 ·obtain⟨u,rfl,g1,g2⟩:=h;refine Bg (Bp ⟨_,g1,Aq (by simp;omega),_,rq,?_,g2.BP Ah.upd hT⟩);rw[Ac,QaD,Qbw];rfl
 obtain⟨u,rfl,g1,g2⟩:=h;rw[Qbb] at g1;have h3X:=g2 _ _ h3;refine⟨_,rq,p,C,dx,_,_,rq,h3X,T.cl,T.N8,(by show 2 < 1000;decide),Oo (by show _∉(["many","logs"]:YF);decide +kernel),λH4 h4 s4=>?_⟩;have hLX:=g2 _ _ hL3;have npL:L≠p:=λz=>by rw[<-z,hL3] at h3;cases h3
 have npT:TT≠p:=λz=>by rw[z,h3X] at g1;cases g1
 have nLT:L≠TT:=λz=>by rw[z] at hL3;rw[hL3] at hT;cases hT
 have ptX:∀xs,HX p≠some (.tup xs):=λxs z=>by rw[h3X] at z;cases z
 refine q L TT as H4 fL fT (λa ha=>s1.free ⟨_,h1⟩ (e3 a ha)) ⟨⟨dx,h4⟩,s4 _ _ hLX npL,Logs.Bd s4 ptX (Logs.same g2 lg3) npa,s4 _ _ g1 npT,Qav,Qav,nLT,n2,n4⟩ ?_;exact ((s1.trans (Ah.of e5)).trans (s3.trans (Ah.of g2))).trans s4
theorem ZX (c:Cu K C "check_panel" "Ring.check_panel" BW BX) (T:Tx K mg C) (XE:Er K mg hc c0 c1 c2 c3 c4 c5 c6 c7 c8 c9 c10 c11 c12) (CN:Knd K hc c8 [c0,c1,c2,c3,c4,c5,c6,c7,c8,c9,c10,c11,c12] 8) (Jy:Good P w K mg base "is_within" 2 Fj JZ):Ce P w K mg base C "check_panel" 3 BX (Kc C c8):=by
 refine c.Mf Ky (λvs H Q E h=>?_) (λX f cdv A outer s H vs Q E eX hx hr h=>?_)
 ·obtain⟨p,L,T,as,n,v,logs,tied,rfl,_⟩:=h;rfl
 subst eX;obtain⟨p,L,TT,as,n,v,logs,tied,rfl,R,kn,q1,q2⟩:=h;refine⟨_,(Ai (Ca (CZ (CV (NT Jy hr (Aa (pv 1) (Aa Ag (Aa (Ao N6 (Ez (pv 0) rfl) Ag) Ab)))))) (Ai (MN rfl CN.xc rfl XE.Rx hx (Aa Bs Ab))) Bv)),?_⟩;obtain⟨dx,ob⟩:=R.ob;refine⟨_,rq,_,rq,p,C,dx,_,_,rq,ob,T.cl,T.JL,Kl _ _ _,_,_,rq,rq,v,0,(n:Int) - 1,rq,kn,_,rq,?_⟩;cases e:wiB v 0 ((n:Int) - 1) with
 | true=>exact Bk (q1 e)
 | false=>exact Bp ⟨Ar (by show 1<=1000;decide),q2 e⟩
theorem jL (c:Cu K C "tie" "Ring.tie" Ef Ek) (T:Tx K mg C) (XE:Er K mg hc c0 c1 c2 c3 c4 c5 c6 c7 c8 c9 c10 c11 c12) (Dh:Knd K hc c9 [c0,c1,c2,c3,c4,c5,c6,c7,c8,c9,c10,c11,c12] 9) (Jy:Good P w K mg base "is_within" 2 Fj JZ):Ce P w K mg base C "tie" 3 Ek (Nk C c9):=by
 refine c.Mf TX (λvs H Q E h=>?_) (λX f cdv A outer s H vs Q E eX hx hr h=>?_)
 ·obtain⟨p,L,T,as,n,v,b,logs,tied,rfl,_⟩:=h;rfl
 subst eX;obtain⟨p,L,TT,as,n,v,b,logs,tied,rfl,R,kn,q1,q2⟩:=h;refine⟨_,(Ad (Ca (CZ (CV (NT Jy hr (Aa (pv 1) (Aa Ag (Aa (Ao N6 (Ez (pv 0) rfl) Ag) Ab)))))) (Ai (MN rfl Dh.xc rfl XE.UL hx (Aa Bs Ab))) Bv)
 (Ai (Ew (pv 2) (Fv (Ez (pv 0) rfl) (pv 1) set_list)))),?_⟩
 obtain⟨dx,ob⟩:=R.ob;refine⟨_,rq,_,rq,p,C,dx,_,_,rq,ob,T.cl,T.JL,Kl _ _ _,_,_,rq,rq,v,0,(n:Int) - 1,rq,kn,_,rq,?_⟩;cases e:wiB v 0 ((n:Int) - 1) with
 | false=>exact Bp ⟨Ar (by show 1<=1000;decide),q2 e⟩
 | true=>
  obtain⟨q,rfl,hq⟩:=dY e;refine Bk ?_;refine⟨_,rq,_,rq,p,C,dx,_,_,rq,ob,T.cl,T.N8,RP _ _ _,_,rq,TT,_,_,q,rq,rq,R.ht,ixn (by rw[Qbt,R.tn];exact hq),?_⟩;have tt:∀xs,H TT≠some (.tup xs):=λxs z=>by rw[R.ht] at z;cases z
  have nta:TT∉as:=λz=>by
   obtain⟨g,vs,e1,r⟩:=Dg R.lg z;rw[R.ht] at e1;cases e1;have:=R.tn;have:=R.n2
   match tied,r with
   | [],_=>simp at *;omega
   | x::y,.cons q _=>obtain⟨t,e2,_⟩:=q;cases e2
  exact q1 q _ rfl hq ⟨⟨dx,by rw[Al R.np.2.1];exact ob⟩,by rw[Al R.LT];exact R.hl,Logs.Bd Ah.upd tt R.lg nta,by rw[Ac,QbX],R.ln,by rw[QbD];exact R.tn,R.LT,R.n2,R.n4⟩ Ah.upd
theorem jN (c:Cu K C "cut" "Ring.cut" Eh El) (T:Tx K mg C) (Pj:Ce P w K mg base C "tie" 3 Ek (Nk C c9)):Ce P w K mg base C "cut" 4 El (IV C c9 false):=by
 refine c.Mf TY (λvs H Q E h=>?_) (λX f cdv A outer s H vs Q E eX hx hr h=>?_)
 ·obtain⟨p,L,T,as,n,v,logs,tied,rfl,_⟩:=h;rfl
 subst eX;obtain⟨p,L,TT,as,n,v,logs,tied,rfl,R,kn,q1,q2⟩:=h;refine⟨_,(Ai (Cm (Ds (pv 0) T.cl Pj hr hx (Aa (pv 1) (Aa Cj Ab))))),?_⟩;obtain⟨dx,ob⟩:=R.ob;exact⟨_,rq,p,dx,_,rq,ob,Cr (by trivial),_,rq,p,L,TT,as,n,v,false,logs,tied,rq,R,kn,q1,q2⟩
theorem gJ (c:Cu K C "mend" "Ring.mend" Dv Dz) (T:Tx K mg C) (Pj:Ce P w K mg base C "tie" 3 Ek (Nk C c9)):Ce P w K mg base C "mend" 4 Dz (IV C c9 true):=by
 refine c.Mf QZ (λvs H Q E h=>?_) (λX f cdv A outer s H vs Q E eX hx hr h=>?_)
 ·obtain⟨p,L,T,as,n,v,logs,tied,rfl,_⟩:=h;rfl
 subst eX;obtain⟨p,L,TT,as,n,v,logs,tied,rfl,R,kn,q1,q2⟩:=h;refine⟨_,(Ai (Cm (Ds (pv 0) T.cl Pj hr hx (Aa (pv 1) (Aa Cj Ab))))),?_⟩;obtain⟨dx,ob⟩:=R.ob;exact⟨_,rq,p,dx,_,rq,ob,Cr (by trivial),_,rq,p,L,TT,as,n,v,true,logs,tied,rq,R,kn,q1,q2⟩
theorem XD (c:Cu K C "log_of" "Ring.log_of" CT Cq) (T:Tx K mg C) (G5:Ce P w K mg base C "check_panel" 3 BX (Kc C c8)):Ce P w K mg base C "log_of" 4 Cq (IW C c8):=by
 refine c.Mf O4 (λvs H Q E h=>?_) (λX f cdv A outer s H vs Q E eX hx hr h=>?_)
 ·obtain⟨p,L,T,as,n,v,logs,tied,rfl,_⟩:=h;rfl
 subst eX;obtain⟨p,L,TT,as,n,v,logs,tied,rfl,R,kn,q1,q2⟩:=h;refine⟨_,(Ad (Cm (Ds (pv 0) T.cl G5 hr hx (Aa (pv 1) Ab)))
 (Ai (Bc (Hw Jp rfl T.list JN (Aa (Bw Bu (Ez (pv 0) rfl) (pv 1) (λ_ _=>rfl)) Ab))))),?_⟩
 obtain⟨dx,ob⟩:=R.ob;refine⟨_,rq,p,dx,_,rq,ob,Cr (by trivial),_,rq,p,L,TT,as,n,v,logs,tied,rq,R,kn,λe=>?_,q2⟩;obtain⟨q,rfl,hq⟩:=dY e;have hg:=Qak (l:=logs) (i:=q) (by rw[R.ln];exact hq);obtain⟨a,ha,lg⟩:=Ft R.lg hg;obtain⟨vs,hvs,pvs⟩:=lg;refine⟨_,rq,p,C,dx,_,_,rq,ob,T.cl,T.G4,Hl _ _ _,_,rq,L,_,_,_,rq,rq,SqL.of R.hl,Gd (by rw[Qba,ha];rfl),a,vs,rq,.inl (SqL.of hvs),λl hl=>?_⟩;exact q1 q _ l _ rfl hg hl ⟨vs,Ac,Ens.tups (Bq.of (Af hl _)) pvs⟩ (Af hl _)
end
abbrev CK:Stmt:=(inClass (top 23) 5)
abbrev Df:YF:=["self"]
theorem Qi:Ba ["self"] Df (Ae CK):=by ac_rfl
abbrev CJ:Stmt:=(inClass (top 23) 6)
abbrev Dd:YF:=["self","panel","text"]
abbrev xw:YF:=["self","panel","text","log","stamp","entry"]
theorem Gn:Ba xw Dd (Ae CJ):=by ac_rfl
def WY (H:Hp) (v:V) (d:Nat×Nat):Prop:=∃t,v=.ref t/\H t=some (.tup [.int d.1,.int d.2])
theorem Prs.tups {H H':Hp} (s:Bq H H') {vs:YG} {ds:List (Nat×Nat)} (h:Paired (WY H) vs ds):Paired (WY H') vs ds:=Paired.Kf h λ_ _ z=>let ⟨t,e,q⟩:=z;⟨t,e,s _ _ q⟩
def prs (n:Nat) (tied:List Bool) (i:Nat):List (Nat×Nat):=((List.range i).filter λj=>tied.getD j false).map λj=>(j,(j+1) % n)
theorem Ke (n:Nat) (tied:List Bool) (i:Nat):prs n tied (i+1)=prs n tied i++if tied.getD i false=true then [(i,(i+1) % n)] else []:=by
 unfold prs;rw[List.range_succ,QaS,Qbw];congr 1;by_cases h:tied.getD i false=true
 ·rw[if_pos h];simp only[Qbs,h,if_true,QbG,QbM,List.map_nil]
 ·rw[if_neg h];simp only[Qbs,h,if_false,QbG,List.map_nil];simp[h]
theorem gk (n:Nat) (tied:List Bool) (i:Nat):(prs n tied i).length<=i:=by
 unfold prs;rw[Qbt];exact QbU (List.length_filter_le ..) (by rw[Qbh];exact QbZ _)
inductive Lr (C:Addr) (vs:YG) (H:Hp) (Q:VK) (E:XK):Prop
 | mk (p L T:Addr) (as:List Addr) (n:Nat) (logs:List (List En)) (tied:List Bool) (_:vs=[.ref p]) (_:RAt C H p L T as n logs tied) (_:∀l H' ws,H l=none->H' l=some (.lst ws)->Paired (WY H') ws (prs n tied n)->Same H H'->Q (.ref l) H'):Lr C vs H Q E
def Ov (g:List En) (s:Int):Prop:=(g=[]/\s=0)\/((∃e∈g,s=e.st+1)/\∀f∈g,f.st < s)
def Bj (g:List En) (q:Nat):List En:=g.filter λe=>decide (e.pn=(q:Int))
inductive JX (C c1 c8:Addr) (vs:YG) (H:Hp) (Q:VK) (E:XK):Prop
 | mk (p L T:Addr) (as:List Addr) (n:Nat) (v u:V) (logs:List (List En)) (tied:List Bool) (_:vs=[.ref p,v,u]) (_:RAt C H p L T as n logs tied) (_:Kn H v) (_:Kn H u) (_:(∀z,u=.str z->z.cps.size<=1000)) (_:((wiB v 0 ((n:Int) - 1)=false/\E (.ref c8) none H)\/(wiB v 0 ((n:Int) - 1)=true/\lnB u=false/\∀H',Same H H'->E (.ref c1) none H')\/∃(q:Nat) (z:Str) (g:List En),v=.int q/\u=.str z/\logs[q]?=some g/\Ln z/\g.length < 64/\∀(t a:Addr) (H':Hp) (st:Int),Ov g st->H a=none->H' t=some (.tup (En.vs ⟨st,q,(Bj g q).length,z⟩))->RAt C H' p L T (as.set q a) n (logs.set q (g++[⟨st,q,(Bj g q).length,z⟩])) tied->Ah L H H'->Q (.ref t) H')):JX C c1 c8 vs H Q E
theorem NP {α β : Type} {F:α->β->Prop}:∀{l:List α} {m:List β} {i:Nat} {x:α} {y:β},Paired F l m->F x y->Paired F (l.set i x) (m.set i y)
 | _,_,_,_,_,.nil,_=>.nil
 | _,_,0,_,_,.cons a r,h=>.cons h r
 | _,_,i+1,_,_,.cons a r,h=>.cons a (NP (i:=i) r h)
section
variable {P:Program} {w:World} {K:YD} {mg:YB} {base:Heap} {C hc c0 c1 c2 c3 c4 c5 c6 c7 c8 c9 c10 c11 c12:Addr}
abbrev xj:YF:=["link","whole","self"]
theorem ZS (c:Cu K C "pairs" "Ring.pairs" CK Df) (T:Tx K mg C):Gp P w K mg base C "pairs" 1 Df (Lr C):=by
 refine c.good Qi (λvs H Q E h=>?_) (λf cdv A outer s H vs Q E hr h=>?_)
 ·obtain⟨p,L,T,as,n,logs,tied,rfl,_⟩:=h;rfl
 obtain⟨p,L,TT,as,n,logs,tied,rfl,R,q⟩:=h;refine⟨_,(Ai (Bc (Dn (N':=xj) rfl (Bx.of (src:=[none,none,some 0]) (Ae CK) ["self"] rfl rfl rfl (by trivial) (by trivial) (by trivial) rfl (by trivial)) (K3 rfl T.enumerate (Ez (pv 0) rfl)) (λ_ _ _ _=>(Uy (K:=K) (n:=2) rfl rfl (Cd (Ay (i:=0) (show List.Nodup (xj:YF) by trivial) rfl (Or.inl rfl)) (Cd (Ay (i:=1) (show List.Nodup (xj:YF) by trivial) rfl (Or.inl rfl)) Hh)))) (λ_ _ _ _=>(K4 (CV (pv 1)))) (λ_ _ _ _=>(Gg (Aa (pv 0) (Aa (Ao Fy (Ao Cv (pv 0) Ag) (gC (K:=K) rfl (pv 2) rfl)) Ab))))))),?_⟩;obtain⟨dx,ob⟩:=R.ob;have n2:=R.n2;have n4:=R.n4;have tn:=R.tn;refine⟨_,rq,p,C,dx,_,_,rq,ob,T.cl,T.N8,RP _ _ _,TT,rq,⟨_,SqL.of R.ht⟩,λl hl=>?_⟩;let J0:YN:=λ(i:Nat) (Z : St) (HH:Hp)=>∃(u v:Option V) (ws:YG),Z=[u,v,js p]/\HH l=some (.lst ws)/\Paired (WY HH) ws (prs n tied i)/\Same H HH;refine WM (xs:=tied.map V.bl) J0 ⟨_,_,[],rq,Ac,.nil,Af hl _⟩ (λi Z HH _ h=>?_) (λi x t Z HH hx h ht=>?_) (fun Z HH h=>?_)
 ·obtain⟨u,v,ws,rfl,e1,e2,e3⟩:=h;exact SqL.of (e3 _ _ R.ht)
 ·obtain⟨u,v,ws,rfl,e1,e2,e3⟩:=h;have hi:i < tied.length:=by have:=(Qah.mp hx).1;rw[Qbt] at this;exact this
  have hx':x=.bl (tied.getD i false):=by
   rw[Qba,Qak hi] at hx;rw[Qae,Qak hi];exact (Qbx hx).symm
  subst hx';have s4:=Af ht (.tup [.int ((0+i:Nat):Int),.bl (tied.getD i false)]);have h4:(upd HH t (.tup [.int ((0+i:Nat):Int),.bl (tied.getD i false)])) t=some (.tup [.int ((0+i:Nat):Int),.bl (tied.getD i false)]):=Ac;have e1':=s4 _ _ e1;have e2':=Prs.tups (Bq.of s4) e2;have e3':=e3.trans s4;generalize upd HH t (.tup [.int ((0+i:Nat):Int),.bl (tied.getD i false)])=H4 at *;have wl:ws.length<=i:=by rw[QbL e2];exact gk n tied i
  refine⟨t,_,rq,SqT.of h4,rq,_,_,rq,_,_,rq,rq,?_⟩;refine⟨_,rq,_,rq,?_⟩;cases hb:tied.getD i false with
  | false=>
   refine Bk ⟨_,_,ws,rq,e1',?_,e3'⟩;rw[Ke,hb,if_neg QaL,Qby];exact e2'
  | true=>
   refine Bp ⟨_,rq,_,rq,_,_,rq,rq,_,rq,p,C,dx,_,_,rq,e3' _ _ ob,T.cl,T.JL,Kl _ _ _,_,_,rq,rq,(by omega),Ar (by show 2<=1000;decide),λk hk=>?_⟩;have ek:(((0+i:Nat):Int)+1) % (n:Int)=(((i+1) % n:Nat):Int):=by
    rw[Nat.zero_add];exact (Int.natCast_emod _ _).symm
   have eo:HO.tup [.int ((0+i:Nat):Int),(λi j:Int=>V.int (i % j)) (((0+i:Nat):Int)+1) (n:Int)]=HO.tup [.int (i:Int),.int (((i+1) % n:Nat):Int)]:=by
    rw[<-ek,Nat.zero_add]
   rw[eo];have s5:=Af hk (.tup [.int (i:Int),.int (((i+1) % n:Nat):Int)]);have h5:(upd H4 k (.tup [.int (i:Int),.int (((i+1) % n:Nat):Int)])) k=some (.tup [.int (i:Int),.int (((i+1) % n:Nat):Int)]):=Ac;have Sv:=s5 _ _ e1';have vM:=Prs.tups (Bq.of s5) e2';have vL:=e3'.trans s5;generalize upd H4 k (.tup [.int (i:Int),.int (((i+1) % n:Nat):Int)])=H5 at *;have tl:∀xs,H5 l≠some (.tup xs):=λxs z=>by rw[Sv] at z;cases z
   refine⟨ws,Sv,Aq (by omega),_,_,ws++[.ref k],rq,Ac,?_,vL.BP Ah.upd hl⟩;rw[Ke,hb,if_pos rfl];exact Prs.tups (Bq.upd tl) (BZ vM (.cons ⟨k,rq,h5⟩ .nil))
 ·obtain⟨u,v,ws,rfl,e1,e2,e3⟩:=h;rw[Qbt,tn] at e2;exact q l _ ws hl e1 e2 e3
theorem ZP (c:Cu K C "write" "Ring.write" CJ Dd) (T:Tx K mg C) (XE:Er K mg hc c0 c1 c2 c3 c4 c5 c6 c7 c8 c9 c10 c11 c12) (Fz:Knd K hc c1 [c0,c1,c2,c3,c4,c5,c6,c7,c8,c9,c10,c11,c12] 1) (G5:Ce P w K mg base C "check_panel" 3 BX (Kc C c8)) (Yu:Good P w K mg base "is_line" 1 Hz Mz):Ce P w K mg base C "write" 4 Dd (JX C c1 c8):=by
 refine c.Mf Gn (λvs H Q E h=>?_) (λX f cdv A outer s H vs Q E eX hx hr h=>?_)
 ·obtain⟨p,L,T,as,n,v,u,logs,tied,rfl,_⟩:=h;rfl
 subst eX;obtain⟨p,L,TT,as,n,v,u,logs,tied,rfl,R,kv,ku,su,h⟩:=h;refine⟨_,(Ad (Cm (Ds (pv 0) T.cl G5 hr hx (Aa (pv 1) Ab)))
 (Ad (Ca (CZ (CV (NT Yu hr (Aa (pv 2) (Aa Ag (Aa (Xv rfl T.MOST_SIGNS) Ab)))))) (Ai (MN rfl Fz.xc rfl XE.UJ hx (Aa Bs Ab))) Bv)
 (Ad (Aw (i:=3) Gn.nd rfl (Or.inl rfl) (Bw Bu (Ez (pv 0) rfl) (pv 1) (λ_ _=>rfl)))
 (Ad (Aw (i:=4) Gn.nd rfl (Or.inl rfl) (Ao Cv (gA rfl rfl T.max (Dn (N':=["entry"]) rfl (Bx.plain rfl (by trivial) (by trivial) (by trivial)) (Cy (pv 3)) (λ_ _ _ _=>(Ay (i:=0) (show List.Nodup (["entry"]:YF) by trivial) rfl (Or.inl rfl))) (λ_ _ _ _=>Ey) (λ_ _ _ _=>(Bw (LR (K:=K) rfl) (pv 0) Ag (λ_ _=>rfl)))) (VH QH Ag)) Ag))
 (Ad (Aw (i:=5) Gn.nd rfl (Or.inl rfl) (Gg (Aa (pv 4) (Aa (pv 1) (Aa (Ak Ck rfl T.len Fd (Aa (Dn (N':=["known","panel"]) rfl (Bx.of (src:=[none,some 1]) (Ae CJ) xw rfl rfl rfl (by trivial) (by trivial) (by trivial) rfl (by trivial)) (Cy (pv 3)) (λ_ _ _ _=>(Ay (i:=0) (show List.Nodup (["known","panel"]:YF) by trivial) rfl (Or.inl rfl))) (λ_ _ _ _=>(K4 (BJ Em (Bw (LR (K:=K) rfl) (pv 0) Ag (λ_ _=>rfl)) (pv 1) (Bt _)))) (λ_ _ _ _=>(pv 0))) Ab)) (Aa (pv 2) Ab))))))
 (Ad (Ew (Ao HN (pv 3) (BL (Aa (pv 5) Ab))) (Fv (Ez (pv 0) rfl) (pv 1) set_list))
 (Ai (Bc (pv 5))))))))),?_⟩
 show let R0:TS:=Aj _ _;let R1:TS:=Aj _ R0;let R2:TS:=Aj _ R1;let R3:TS:=Aj _ R2;let R4:TS:=_;let R5:TS:=Aj (Ib _ R4 _) R3;Aj _ R5 _ _ _;intro R0 R1 R2 R3 R4 R5;obtain⟨dx,ob⟩:=R.ob;rcases h with⟨e1,q8⟩|⟨e1,e2,q1⟩|⟨q,z,g,rfl,rfl,hg,hz,few,q'⟩
 ·exact⟨_,rq,p,dx,_,rq,ob,Cr (by trivial),_,rq,p,L,TT,as,n,v,logs,tied,rq,R,kv,(λe=>by rw[e1] at e;cases e),λ_=>q8⟩
 ·refine⟨_,rq,p,dx,_,rq,ob,Cr (by trivial),_,rq,p,L,TT,as,n,v,logs,tied,rq,R,kv,(λ_=>?_),(λe=>by rw[e1] at e;cases e)⟩;refine⟨_,rq,u,rq,ku,su,λH1 s1=>⟨_,rq,?_⟩⟩;rw[e2];exact Bp ⟨Ar (by show 1<=1000;decide),q1 _ s1⟩
 have hq:q < n:=by rw[<-R.ln];exact (Qah.mp hg).1
 have z20:=hz.l2;refine⟨_,rq,p,dx,_,rq,ob,Cr (by trivial),_,rq,p,L,TT,as,n,.int q,logs,tied,rq,R,kv,(λ_=>?_),(λe=>by rw[JR hq] at e;cases e)⟩;refine⟨_,rq,.str z,rq,True.intro,(λy e=>by cases e;omega),λH1 s1=>⟨_,rq,?_⟩⟩;rw[hz.ln];refine Bk ?_;have Rg:=R.same s1;have ob1:=s1 _ _ ob;obtain⟨a,ha,vs,hvs,pvs⟩:=Ft Rg.lg hg;have hat:atI (as.map V.ref) (q:Int)=some (.ref a):=Gd (by rw[Qba,ha];rfl);refine⟨_,rq,p,C,dx,_,_,rq,ob1,T.cl,T.G4,Hl _ _ _,_,rq,L,_,_,_,rq,rq,SqL.of Rg.hl,hat,?_⟩;have vl:=QbL pvs;refine Bg ?_;refine⟨_,rq,a,rq,⟨_,SqL.of hvs⟩,λl1 hl1=>?_⟩;let J1:YN:=λ(i:Nat) (Z : St) (HH:Hp)=>∃(u:Option V),Z=[u]/\HH l1=some (.lst (((g.take i).map En.st).map V.int))/\Same H1 HH;refine Ed (xs:=vs) J1 ⟨_,rq,Ac,Af hl1 _⟩ (λi Z HH _ h=>?_) (λi x Z HH hx h=>?_) (fun Z HH h=>?_)
 ·obtain⟨u,rfl,e1,e2⟩:=h;exact SqL.of (e2 _ _ hvs)
 ·obtain⟨u,rfl,e1,e2⟩:=h;obtain⟨e,he,t,rfl,ht⟩:=Ej pvs hx;refine Bg (Bp ⟨_,rq,t,_,_,_,rq,rq,SqT.of (e2 _ _ ht),rq,_,e1,Aq (by rw[Qbt,Qbt,Qbk];omega),_,rq,?_,e2.BP Ah.upd hl1⟩);rw[Ac,Qce he,Qbw,Qbw];rfl
 obtain⟨u,rfl,e1,s2⟩:=h;rw[vl,Qbj] at e1;have cont:∀st:Int,Ov g st->R1 { nx:=λx H'=>Q V.non H',rt:=Q } [js p,some (.int q),some (.str z),js a,some (.int st),none] HH:=λst hst=>by
  refine⟨_,rq,_,rq,_,rq,a,rq,⟨_,SqL.of (s2 _ _ hvs)⟩,λl2 hl2=>?_⟩;let J2:YN:=λ(i:Nat) (Z : St) (HX:Hp)=>∃(u:Option V) (ws:YG),Z=[u,some (.int q)]/\HX l2=some (.lst ws)/\ws.length=(Bj (g.take i) q).length/\Same HH HX;refine Ed (xs:=vs) J2 ⟨_,[],rq,Ac,rq,Af hl2 _⟩ (λi Z HX _ h=>?_) (λi x Z HX hx h=>?_) (fun Z HX h=>?_)
  ·obtain⟨u,ws,rfl,g1,g2,g3⟩:=h;exact SqL.of (g3 _ _ (s2 _ _ hvs))
  ·obtain⟨u,ws,rfl,g1,g2,g3⟩:=h;obtain⟨e,he,t,rfl,ht⟩:=Ej pvs hx;have lw:ws.length<=64:=by
    have:(Bj (g.take i) q).length<=(g.take i).length:=List.length_filter_le ..;rw[Qbk] at this;omega
   refine Bg ⟨_,rq,t,_,_,_,rq,rq,SqT.of (g3 _ _ (s2 _ _ ht)),rq,_,rq,rq,_,rq,?_⟩;have eo:Bj (g.take (i+1)) q=Bj (g.take i) q++if e.pn=(q:Int) then [e] else []:=by
    unfold Bj;rw[Qce he,QaS];congr 1;by_cases c:e.pn=(q:Int)
    ·rw[if_pos c];simp[c]
    ·rw[if_neg c];simp[c]
   by_cases c:e.pn=(q:Int)
   ·rw[if_pos c] at eo;rw[QbH (by rw[c])];refine Bp ⟨_,rq,ws,g1,Aq (by omega),_,ws++[.ref t],rq,Ac,?_,g3.BP Ah.upd hl2⟩;rw[eo,QaN,QaN,g2];rfl
   ·rw[if_neg c,Qby] at eo;rw[Qbv (λz=>c (V.int.inj z))];exact Bk ⟨_,ws,rq,g1,by rw[eo];exact g2,g3⟩
  obtain⟨u,ws,rfl,g1,g2,g3⟩:=h;rw[vl,Qbj] at g2;refine⟨l2,_,rq,.inl (SqL.of g1),_,rq,Ar (by show 4<=1000;decide),λt ht=>?_⟩;rw[show ((ws.length:Nat):Int)=(((Bj g q).length:Nat):Int) by rw[g2]];have s4:=Af ht (.tup (En.vs ⟨st,q,(Bj g q).length,z⟩));have h4:(upd HX t (.tup (En.vs ⟨st,q,(Bj g q).length,z⟩))) t=some (.tup (En.vs ⟨st,q,(Bj g q).length,z⟩)):=Ac;have s04:Same H (upd HX t (.tup (En.vs ⟨st,q,(Bj g q).length,z⟩))):=((s1.trans s2).trans g3).trans s4;have sa4:=((s2.trans g3).trans s4);show Iu 5 (.ref t) _ (upd HX t (.tup (En.vs ⟨st,q,(Bj g q).length,z⟩))) _;generalize upd HX t (.tup (En.vs ⟨st,q,(Bj g q).length,z⟩))=H4 at *;refine Bg ⟨_,rq,_,rq,Ar (by show 1<=1000;decide),λl3 hl3=>?_⟩;have s5:=Af hl3 (.lst [.ref t]);have h5:(upd H4 l3 (.lst [.ref t])) l3=some (.lst [.ref t]):=Ac;generalize upd H4 l3 (.lst [.ref t])=H5 at *;refine⟨a,l3,vs,_,rq,rq,s5 _ _ (sa4 _ _ hvs),h5,Ar (by simp;omega),λa' ha'=>?_⟩;have s6:=Af ha' (.lst (vs++[.ref t]));have h6:(upd H5 a' (.lst (vs++[.ref t]))) a'=some (.lst (vs++[.ref t])):=Ac;have s06:=(s04.trans s5).trans s6;have fa:H a'=none:=(s04.trans s5).free ha';have h46:=s6 _ _ (s5 _ _ h4);generalize upd H5 a' (.lst (vs++[.ref t]))=H6 at *;have R6:=R.same s06;refine⟨_,rq,p,C,dx,_,_,rq,s06 _ _ ob,T.cl,T.G4,Hl _ _ _,_,rq,L,_,_,q,rq,rq,R6.hl,ixn (by rw[Qbt,R.al];exact hq),?_⟩;have tl:∀xs,H6 L≠some (.tup xs):=λxs z=>by rw[R6.hl] at z;cases z
  have nLa:L∉as:=λz=>by
   obtain⟨g',vs',e1',r'⟩:=Dg R6.lg z;rw[R6.hl] at e1';cases e1'
   match as,ha,R.al,r',z with
   | x::y,_,_,.cons q' _,z=>
    obtain⟨t',e2',e3'⟩:=q';cases e2';obtain⟨g'',vs'',Sv,_⟩:=Dg R6.lg (.head _);rw[e3'] at Sv;cases Sv
  have ur:a'≠L:=λz=>by rw[z,R.hl] at fa;cases fa
  have pv6:Paired (Di H6) (vs++[.ref t]) (g++[⟨st,q,(Bj g q).length,z⟩]):=BZ (Ens.tups (Bq.of ((sa4.trans s5).trans s6)) pvs) (.cons ⟨t,rq,h46⟩ .nil);refine⟨_,rq,q' t a' _ st hst fa (Ah.upd _ _ h46 (λz=>by rw[z,R6.hl] at h46;cases h46)) ⟨⟨dx,by rw[Al R.np.1];exact s06 _ _ ob⟩,by rw[Ac,QbX],?_,by rw[Al R.LT.symm];exact R6.ht,by rw[QbD];exact R.ln,R.tn,R.LT,R.n2,R.n4⟩ (λc o e' ne=>Ah.upd _ _ (s06 _ _ e') ne)⟩;exact NP (Logs.Bd Ah.upd tl R6.lg nLa) (Bf.Bd ⟨_,h6,pv6⟩ Ah.upd tl ur)
 refine⟨_,rq,l1,g.map En.st,-1,rq,rq,SqL.of e1,λhn=>?_,λM hM hall=>?_⟩
 ·have g0:g=[]:=List.map_eq_nil_iff.mp hn;exact⟨_,_,rq,rq,Bg (cont _ (.inl ⟨g0,rq⟩))⟩
 ·refine⟨_,_,rq,rq,Bg (cont _ (.inr ⟨?_,λf hf=>?_⟩))⟩
  ·obtain⟨e,he,e2⟩:=QbV.mp hM;exact⟨e,he,by rw[e2]⟩
  ·have:=hall f.st (QbV.mpr ⟨f,hf,rq⟩);omega
end
abbrev Dw:Stmt:=(inClass (top 23) 7)
abbrev DG:YF:=["self"]
theorem GP:Ba ["self","behind","one","other"] DG (Ae Dw):=by ac_rfl
theorem Up.nd:∀{g:List En},Up g->g.Nodup
 | [],_=>List.Pairwise.nil
 | e::r,h=>by
  obtain⟨h1,h2⟩:=QaY.mp h;exact QbB.mpr ⟨λz=>absurd (h1 e z) (QbQ _),Up.nd h2⟩
theorem Up.few {g W:List En} (h:Up g) (w:WOk W) (i:∀e∈g,e∈W):g.length < 64:=Nat.lt_of_le_of_lt (G3 h.nd i) w.few
def NbP (ps:List (Nat×Nat)) (logs:List (List En)) (i:Nat) (e:En):Prop:=e∈logs.getD i []\/∃d∈ps,(i=d.1/\e∈logs.getD d.2 [])\/(i=d.2/\e∈logs.getD d.1 [])
structure BSt (H HH:Hp) (as bs:List Addr) (B:Addr) (gs:List (List En)):Prop where
 hb:HH B=some (.lst (bs.map V.ref))
 lg:Paired (Bf HH) bs gs
 fr:∀b∈bs,b∈as\/H b=none
 nb:B∉bs
 sm:Same H HH
 fb:H B=none
theorem BSt.same {H HH H2:Hp} {as bs:List Addr} {B:Addr} {gs:List (List En)} (h:BSt H HH as bs B gs) (s:Same HH H2):BSt H H2 as bs B gs:=⟨s _ _ h.hb,Logs.same s h.lg,h.fr,h.nb,h.sm.trans s,h.fb⟩
theorem BSt.put {H HH H2:Hp} {as bs:List Addr} {B l:Addr} {gs:List (List En)} {zs:List En} {i:Nat} (h:BSt H HH as bs B gs) (s:Same HH H2) (fl:HH l=none) (lz:Bf H2 l zs):BSt H (upd H2 B (.lst ((bs.map V.ref).set i (.ref l)))) as (bs.set i l) B (gs.set i zs):=by
 have h2:=h.same s;have tl:∀xs,H2 B≠some (.tup xs):=λxs z=>by rw[h2.hb] at z;cases z
 have nl:l≠B:=λz=>by rw[z,h.hb] at fl;cases fl
 refine⟨by rw[Ac,QbX],NP (Logs.Bd Ah.upd tl h2.lg h.nb) (lz.Bd Ah.upd tl nl),λb hb=>?_,λz=>?_,h2.sm.BP Ah.upd h.fb,h.fb⟩
 ·rcases Qai hb with z | rfl
  ·exact h.fr b z
  ·exact .inr (h.sm.free fl)
 ·rcases Qai z with z | z
  ·exact h.nb z
  ·exact nl z.symm
inductive Nr (C:Addr) (vs:YG) (H:Hp) (Q:VK) (E:XK):Prop
 | mk (p L T:Addr) (as:List Addr) (n:Nat) (logs:List (List En)) (tied:List Bool) (W:List En) (_:vs=[.ref p]) (_:RAt C H p L T as n logs tied) (_:WOk W) (_:(∀g∈logs,∀e∈g,e∈W)) (_:(∀g∈logs,Up g)) (_:∀(L':Addr) (as':List Addr) (H':Hp) (BR:List (List En)),H L'=none->(∀a∈as',a∈as\/H a=none)->RAt C H' p L' T as' n BR tied->(∀i g',BR[i]?=some g'->Up g'/\∀e,e∈g' ↔ NbP (prs n tied n) logs i e)->Ah p H H'->Q .non H'):Nr C vs H Q E
theorem jw {n:Nat} {tied:List Bool} {d:Nat×Nat} (h:d∈prs n tied n) (n2:2<=n):d.1 < n/\d.2 < n/\d.1≠d.2:=by
 unfold prs at h;obtain⟨j,hj,rfl⟩:=QbV.mp h;have hj:=List.mem_range.mp (List.mem_filter.mp hj).1;refine⟨hj,Nat.mod_lt _ (by omega),λz=>?_⟩;have z:j=(j+1) % n:=z;by_cases c:j+1=n
 ·rw[c,Nat.mod_self] at z;omega
 ·rw[Nat.mod_eq_of_lt (by omega)] at z;omega
theorem at_getD {α : Type} {l:List α} {i:Nat} (d:α) (h:i < l.length):l[i]?=some (l.getD i d):=by
 rw[Qae,Qak h];rfl
section
variable {P:Program} {w:World} {K:YD} {mg:YB} {base:Heap} {C:Addr}
theorem gP (c:Cu K C "beat" "Ring.beat" Dw DG) (T:Tx K mg C) (Le:Gp P w K mg base C "pairs" 1 Df (Lr C)) (Km:Good P w K mg base "joined" 1 Ji Mx):Gp P w K mg base C "beat" 2 DG (Nr C):=by
 refine c.good GP (λvs H Q E h=>?_) (λf cdv A outer s H vs Q E hr h=>?_)
 ·obtain⟨p,L,T,as,n,logs,tied,W,rfl,_⟩:=h;rfl
 obtain⟨p,L,TT,as,n,logs,tied,W,rfl,R,w,iW,ups,q⟩:=h;refine⟨_,(Ad (Aw (i:=1) GP.nd rfl (Or.inl rfl) (Hw Jp rfl T.list JN (Aa (Ez (pv 0) rfl) Ab)))
 (Ad (Gf QbA rfl (Cy (NQ (pv 0) T.cl Le hr)) (JC rfl (Cd (Ay (i:=2) GP.nd rfl (Or.inl rfl)) (Cd (Ay (i:=3) GP.nd rfl (Or.inl rfl)) Hh)))
 (Ad (Ew (Bl Km hr (Aa (Bw Bu (pv 1) (pv 2) (λ_ _=>rfl)) (Aa (Bw Bu (Ez (pv 0) rfl) (pv 3) (λ_ _=>rfl)) Ab))) (Fv (pv 1) (pv 2) set_list))
 (Ai (Ew (Bl Km hr (Aa (Bw Bu (pv 1) (pv 3) (λ_ _=>rfl)) (Aa (Bw Bu (Ez (pv 0) rfl) (pv 2) (λ_ _=>rfl)) Ab))) (Fv (pv 1) (pv 3) set_list)))))
 (Ai (Lz (pv 0) (pv 1) rfl)))),?_⟩
 show let R0:TS:=_;let R1:TS:=Aj _ R0;let R2:TS:=Aj (KC _ _ R1) _;Aj _ R2 _ _ _;intro R0 R1 R2;obtain⟨dx,ob⟩:=R.ob;have n2:=R.n2;have n4:=R.n4;have al:=R.al;have Ge:∀i e,e∈logs.getD i []->e∈W:=λi e he=>by
  by_cases c:i < logs.length
  ·exact iW _ (Qaz (at_getD [] c)) e he
  ·rw[Qae,Qay (by omega)] at he;cases he
 refine⟨_,rq,p,C,dx,_,_,rq,ob,T.cl,T.G4,Hl _ _ _,L,_,rq,.inl (SqL.of R.hl),λB hB=>?_⟩;have s1:=Af hB (.lst (as.map V.ref));have nBa:B∉as:=λz=>by
  obtain⟨g,vs,e1,_⟩:=Dg R.lg z;rw[hB] at e1;cases e1
 have b1:BSt H (upd H B (.lst (as.map V.ref))) as as B logs:=⟨Ac,Logs.same s1 R.lg,λb hb=>.inl hb,nBa,s1,hB⟩;generalize upd H B (.lst (as.map V.ref))=H1 at *;refine Bg ?_;refine⟨_,rq,p,dx,_,rq,s1 _ _ ob,Cr (by trivial),p,L,TT,as,n,logs,tied,rq,R.same s1,λl H2 ws fl hl pw s2=>⟨l,rq,⟨_,SqL.of hl⟩,?_⟩⟩;have wl:=QbL pw;let J0:YN:=λ(m:Nat) (Z : St) (HH:Hp)=>∃(u v:Option V) (bs:List Addr) (gs:List (List En)),Z=[js p,js B,u,v]/\BSt H HH as bs B gs/\gs.length=n/\(∀i g',gs[i]?=some g'->Up g'/\∀e,e∈g' ↔ NbP ((prs n tied n).take m) logs i e)/\HH l=some (.lst ws)/\Same H HH/\Bq H2 HH;refine Jo (xs:=ws) J0 ⟨_,_,as,logs,rq,b1.same s2,R.ln,λi g' hg=>?_,hl,s1.trans s2,Bq.refl _⟩ (λi Z HH _ h=>?_) (λi x Z HH hx h=>?_) (fun Z HH h=>?_)
 ·refine⟨ups g' (Qaz hg),λe=>?_⟩;have:logs.getD i []=g':=by rw[Qae,hg];rfl
  unfold NbP;rw[this];simp
 ·obtain⟨u,v,bs,gs,rfl,b2,lg,mem,hl',sm,tp⟩:=h;exact SqL.of hl'
 ·obtain⟨u,v,bs,gs,rfl,b2,lg,mem,hl',sm,tp⟩:=h;obtain⟨d,hd,t,rfl,ht⟩:=Ej pw hx;obtain⟨d1,d2,dn⟩:=jw (Qaz hd) n2;have bl:bs.length=n:=(QbL b2.lg).trans lg;refine⟨t,_,rq,SqT.of (tp _ _ ht),rq,_,_,rq,_,_,rq,rq,?_⟩;obtain⟨x,y⟩:=d;dsimp only at d1 d2 dn ht hd;have gx:=at_getD (l:=gs) [] (i:=x) (by omega);have gy:=at_getD (l:=gs) [] (i:=y) (by omega);have lx:=at_getD (l:=logs) [] (i:=x) (by rw[R.ln];exact d1);have ly:=at_getD (l:=logs) [] (i:=y) (by rw[R.ln];exact d2);obtain⟨bx,hbx,Lbx⟩:=Ft b2.lg gx;obtain⟨by',hby,Lby⟩:=Ft b2.lg gy;have Rm:=R.same sm;obtain⟨ax,hax,Lax⟩:=Ft Rm.lg lx;obtain⟨ay,hay,Lay⟩:=Ft Rm.lg ly;have mW:∀i g',gs[i]?=some g'->∀e∈g',e∈W:=λi g' hg e he=>by
   rcases ((mem i g' hg).2 e).mp he with z |⟨d,_,⟨_,z⟩|⟨_,z⟩⟩
   ·exact Ge _ _ z
   ·exact Ge _ _ z
   ·exact Ge _ _ z
  have atR:∀{cs:List Addr} {k:Nat} {c:Addr},cs[k]?=some c->atI (cs.map V.ref) (k:Int)=some (.ref c):=λhc=>Gd (by rw[Qba,hc];rfl);have yQ:=(mem x _ gx).1.few w (mW x _ gx);have yP:=(mem y _ gy).1.few w (mW y _ gy);have yO:=(ups _ (Qaz lx)).few w (Ge x);have yN:=(ups _ (Qaz ly)).few w (Ge y);refine⟨_,rq,_,rq,B,_,_,_,rq,rq,SqL.of b2.hb,atR hbx,_,rq,p,C,dx,_,_,rq,sm _ _ ob,T.cl,T.G4,Hl _ _ _,_,rq,L,_,_,_,rq,rq,SqL.of Rm.hl,atR hay,bx,ay,_,_,W,rq,Lbx,Lay,w,mW x _ gx,Ge y,by omega,λl1 H3 zs fl1 lz1 up1 uy s3=>?_⟩;have b3:=b2.same s3;refine⟨_,rq,_,rq,B,_,_,x,rq,rq,b3.hb,ixn (by rw[Qbt,bl];exact d1),?_⟩;have b4:=b2.put (i:=x) s3 fl1 lz1;have nlB:l≠B:=λz=>by rw[z,b1.hb] at fl;cases fl
  have hl4:(upd H3 B (.lst ((bs.map V.ref).set x (.ref l1)))) l=some (.lst ws):=by rw[Al nlB];exact s3 _ _ hl'
  have tp4:Bq H2 (upd H3 B (.lst ((bs.map V.ref).set x (.ref l1)))):=(tp.trans (Bq.of s3)).trans (Bq.upd λxs z=>by rw[b3.hb] at z;cases z);generalize upd H3 B (.lst ((bs.map V.ref).set x (.ref l1)))=H4 at *;have lg4:(gs.set x zs).length=n:=by rw[QbD];exact lg
  have bl4:(bs.set x l1).length=n:=by rw[QbD];exact bl
  have gy4:(gs.set x zs)[y]?=some (gs.getD y []):=by rw[QaC dn];exact gy
  have yM:(bs.set x l1)[y]?=some by':=by rw[QaC dn];exact hby
  obtain⟨b5,hb5,Lb5⟩:=Ft b4.lg gy4;have Rm4:=R.same b4.sm;obtain⟨ax4,vB,yr⟩:=Ft Rm4.lg lx;refine⟨_,rq,_,rq,B,_,_,_,rq,rq,SqL.of b4.hb,atR hb5,_,rq,p,C,dx,_,_,rq,b4.sm _ _ ob,T.cl,T.G4,Hl _ _ _,_,rq,L,_,_,_,rq,rq,SqL.of Rm4.hl,atR vB,b5,ax4,_,_,W,rq,Lb5,yr,w,mW y _ gy,Ge x,by omega,λl2 H5 zs2 fl2 lz2 up2 ux s5=>?_⟩;have b5':=b4.same s5;refine⟨_,rq,_,rq,B,_,_,y,rq,rq,b5'.hb,ixn (by rw[Qbt,bl4];exact d2),?_⟩;have b6:=b4.put (i:=y) s5 fl2 lz2;refine⟨_,_,_,(gs.set x zs).set y zs2,rq,b6,by rw[QbD];exact lg4,λk g' hg=>?_,by rw[Al nlB];exact s5 _ _ hl4,b6.sm,(tp4.trans (Bq.of s5)).trans (Bq.upd λxs z=>by rw[b5'.hb] at z;cases z)⟩;rw[Qce hd];have app:∀e,NbP ((prs n tied n).take i++[(x,y)]) logs k e ↔ NbP ((prs n tied n).take i) logs k e\/(k=x/\e∈logs.getD y [])\/(k=y/\e∈logs.getD x []):=λe=>by
   unfold NbP;constructor
   ·rintro (h |⟨d,hd,h⟩)
    ·exact .inl (.inl h)
    ·rcases Qbu.mp hd with hd | hd
     ·exact .inl (.inr ⟨d,hd,h⟩)
     ·rw[QaM.mp hd] at h;exact .inr h
   ·rintro ((h |⟨d,hd,h⟩) | h)
    ·exact .inl h
    ·exact .inr ⟨d,QaB _ hd,h⟩
    ·exact .inr ⟨(x,y),Qau _ (.head _),h⟩
  by_cases ky:k=y
  ·subst ky;rw[Qas (by rw[lg4];exact d2)] at hg;cases hg;refine⟨up2,λe=>?_⟩;rw[ux e,app e,(mem k _ gy).2 e];constructor
   ·rintro (h | h)
    ·exact .inl h
    ·exact .inr (.inr ⟨rq,h⟩)
   ·rintro (h |⟨h,_⟩|⟨_,h⟩)
    ·exact .inl h
    ·exact absurd h.symm dn
    ·exact .inr h
  ·rw[QaC (λz=>ky z.symm)] at hg;by_cases kx:k=x
   ·subst kx;rw[Qas (by rw[lg];exact d1)] at hg;cases hg;refine⟨up1,λe=>?_⟩;rw[uy e,app e,(mem k _ gx).2 e];constructor
    ·rintro (h | h)
     ·exact .inl h
     ·exact .inr (.inl ⟨rq,h⟩)
    ·rintro (h |⟨_,h⟩|⟨h,_⟩)
     ·exact .inl h
     ·exact .inr h
     ·exact absurd h ky
   ·rw[QaC (λz=>kx z.symm)] at hg;refine⟨(mem k g' hg).1,λe=>?_⟩;rw[app e,(mem k g' hg).2 e];constructor
    ·exact .inl
    ·rintro (h |⟨h,_⟩|⟨h,_⟩)
     ·exact h
     ·exact absurd h kx
     ·exact absurd h ky
 ·obtain⟨u,v,bs,gs,rfl,b2,lg,mem,hl',sm,tp⟩:=h;rw[wl,Qbj] at mem;have ob2:=sm _ _ ob;refine⟨_,rq,_,rq,p,C,dx,_,_,rq,ob2,T.cl,T.G4,(by show 3 < 1000;decide),Yw (i:=1) (Qx _ _ _) rfl,λH3 h3 s3=>?_⟩;have Rm:=R.same sm;have pt:=Rm.pt;have npB:B≠p:=λz=>by rw[z] at hB;rw[ob] at hB;cases hB
  have npb:p∉bs:=λz=>by
   rcases b2.fr p z with h | h
   ·exact R.np.2.2 h
   ·rw[ob] at h;cases h
  have nBT:B≠TT:=λz=>by rw[z] at hB;rw[R.ht] at hB;cases hB
  exact q B bs H3 gs hB b2.fr ⟨⟨dx,h3⟩,s3 _ _ b2.hb npB,Logs.Bd s3 pt b2.lg npb,s3 _ _ Rm.ht R.np.2.1.symm,lg,R.tn,nBT,n2,n4⟩ mem ((Ah.of sm).trans s3)
end
abbrev Cg:Stmt:=(inClass (top 23) 9)
abbrev Dp:YF:=["self"]
abbrev xk:YF:=["self","told","one","other","touched","apart"]
theorem Cw:Ba xk Dp (Ae Cg):=by ac_rfl
theorem Te {X:Cx}:Dj X (.builtin "sorted") (λxs H Q=>∃(p:Addr) (v:V),xs=[.ref p]/\SqL X.K H p [v]/\∀l,H l=none->Q (.ref l) (upd H l (.lst [v]))):=by
 intro jb s Z H xs us Q I r h;obtain⟨p,v,rfl,hq,q⟩:=h;obtain⟨u,rfl,rx⟩:=vals1 r;cases rx;obtain⟨its,rv,pl,hz⟩:=I.list hq;have hlen:[v].length=its.length:=rv.length;have h1:its.length < 2:=by rw[<-hlen];exact Qbo 1
 refine KR pl.isList h1 λD h' c hD oD kp=>?_;exact⟨.ref D,_,I.laid (t':=s.toks) (o:=.lst [v]) kp hD ⟨Ar (by show 1<=1000;decide),its,c,rv,oD⟩,rq,q D (I.hok.fresh hD)⟩
theorem WR {K:YD} {a l:Addr} {xs:YG} {g:TG} {wi2:TI} {g2:TG} {te:TE} {Q:VK} {σ0:St} {H0:Hp} (Pv:YN)
  (h0:Pv 0 σ0 H0) (hl:∀i Z H',i<=xs.length->Pv i Z H'->SqL K H' a xs)
  (hs:∀i x Z H',xs[i]?=some x->Pv i Z H'->g x Z H' fun σ3 H3=>wi2 σ3 H3 λJ2 H4=>CIn J2 g2 te l (Pv (i+1)) σ3 H4)
  (hd:∀ Z H',Pv xs.length Z H'->Q (.ref l) H'):Ow (Itl K a) g wi2 g2 te Q σ0 H0 l:=by
 unfold Ow;refine⟨λi m Z H'=>m=xs.length - i/\i<=xs.length/\Pv i Z H',⟨xs.length,by simp,Qca _,h0⟩,?_⟩;rintro i m Z H' ⟨rfl,hi,p⟩;have q:=hl i Z H' hi p;by_cases hlt:i < xs.length
 ·refine .inr ⟨⟨xs,xs[i],q,by simp[hlt]⟩,Pv (i+1),fun σ3 H3 p'=>⟨xs.length - (i+1),by omega,rq,hlt,p'⟩,λv H2 y=>?_⟩;obtain⟨rfl,hx⟩:=y;exact hs i v Z _ (hx xs q) p
 ·have e:i=xs.length:=by omega
  subst e;exact .inl ⟨⟨xs,q,QbZ _⟩,hd Z H' p⟩
theorem ZF {X:Cx} {K:YD} {tg l:Expr} {tl:TE} (h:X.K=K) (hl:PE X l tl):PI X tg l (fj K tl):=h ▸ Cy hl
theorem LC {α β : Type} {F G:α->β->Prop}:∀{l:List α} {m:List β},Paired F l m->(∀x∈l,∀y,F x y->G x y)->Paired G l m
 | _,_,.nil,_=>.nil
 | _,_,.cons a r,h=>.cons (h _ (.head _) _ a) (LC r λx hx=>h x (.tail _ hx))
def nv (m:List Nat):YG:=m.map λk:Nat=>V.int (k:Int)
theorem Rq (m:List Nat):(nv m).length=m.length:=Qbt ..
def Ng (H:Hp) (l:Addr) (as:List Addr) (hs:List (List Nat)):Prop:=H l=some (.lst (as.map V.ref))/\Paired (λa h=>H a=some (.lst (nv h))) as hs
theorem Ng.same {H H':Hp} {l:Addr} {as:List Addr} {hs:List (List Nat)} (h:Ng H l as hs) (s:Same H H'):Ng H' l as hs:=⟨s _ _ h.1,Paired.Kf h.2 λ_ _ z=>s _ _ z⟩
def tA (n m:Nat):List (List Nat):=if m=0 then (List.range n).map (λk=>[k]) else if m < n then ((List.range n).filter λk=>decide (m < k)).map (λk=>[k])++[List.range (m+1)] else [List.range n]
def kk (n m:Nat):Nat:=if m+1 < n then m+2 else n
def inB (h:List Nat) (d:Nat×Nat):Bool:=h.contains d.1 || h.contains d.2
def pI (n:Nat):Bool:=(List.range n).all λm=>decide ((tA n m).filter (λh=>!inB h (m,(m+1) % n))++[List.range (kk n m)]=tA n (m+1))&&((tA n m).filter λh=>inB h (m,(m+1) % n)).flatten.isPerm (List.range (kk n m))&&decide ((tA n m).length<=n)&&decide (((tA n m).filter λh=>inB h (m,(m+1) % n)).flatten.length<=n)&&(tA n m).all λh=>decide (h.length<=n)
theorem Zj {n:Nat} (n2:2<=n) (n4:n<=4):pI n=true:=by
 have:n=2\/n=3\/n=4:=by omega
 rcases this with rfl | rfl | rfl <;> decide +kernel
theorem U5:∀{g h:List Int},g.Pairwise (· < ·)->h.Pairwise (· < ·)->(∀e,e∈g ↔ e∈h)->g=h
 | [],[],_,_,_=>rfl
 | [],e::r,_,_,m=>by have:=(m e).mpr (.head _);cases this
 | e::r,[],_,_,m=>by have:=(m e).mp (.head _);cases this
 | e::r,f::t,hg,hh,m=>by
  obtain⟨g1,g2⟩:=QaY.mp hg;obtain⟨h1,h2⟩:=QaY.mp hh;have ef:e=f:=by
   rcases QbK.mp ((m e).mp (.head _)) with z | z
   ·exact z
   ·rcases QbK.mp ((m f).mpr (.head _)) with z' | z'
    ·exact z'.symm
    ·exact absurd (Int.lt_trans (h1 e z) (g1 f z')) (QbQ _)
  subst ef;rw[U5 g2 h2 λx=>?_];constructor
  ·intro hx;rcases QbK.mp ((m x).mp (.tail _ hx)) with z | z
   ·exact absurd (g1 x hx) (by rw[z];exact QbQ _)
   ·exact z
  ·intro hx;rcases QbK.mp ((m x).mpr (.tail _ hx)) with z | z
   ·exact absurd (h1 x hx) (by rw[z];exact QbQ _)
   ·exact z
def iN (l:List Nat):List Int:=l.map λk:Nat=>(k:Int)
theorem eZ (l:List Nat):(iN l).map V.int=nv l:=by unfold iN nv;rw[List.map_map];rfl
theorem RN (k:Nat):(iN (List.range k)).Pairwise (· < ·):=by
 unfold iN;rw[List.pairwise_map];exact List.pairwise_lt_range.imp λh=>by omega
theorem QV {ms:List Int} {l:List Nat} {k:Nat} (h1:ms.Perm (iN l)) (h2:ms.Pairwise (·<=·)) (h3:l.Perm (List.range k)):ms=iN (List.range k):=by
 have hp:ms.Perm (iN (List.range k)):=h1.trans (h3.map _);have nd:(iN (List.range k)).Nodup:=(RN k).imp λh=>by omega
 have nd2:ms.Nodup:=hp.nodup_iff.mpr nd;refine U5 ?_ (RN k) λe=>hp.mem_iff;refine (List.pairwise_and_iff.mpr ⟨h2,nd2⟩).imp λzz=>?_;obtain⟨a,b⟩:=zz;exact by omega
theorem Oj (h:List Nat) (k:Nat):inV (.int (k:Int)) (nv h)=h.contains k:=by
 induction h with
 | nil=>rfl
 | cons a r ih=>
  show (eqV (.int (a:Int)) (.int (k:Int)) || inV (.int (k:Int)) (nv r))=_;rw[ih,List.contains_cons];congr 1;show ((a:Int) == (k:Int))=(k == a);rw[QbC,beq_iff_eq,beq_iff_eq];omega
theorem LK (h:List Nat):(nv h).all Iv=true:=by
 unfold nv;rw[List.all_map];exact List.all_eq_true.mpr λ_ _=>rfl
theorem Ra (n:Nat):∀i,i<=n->prs n (List.replicate n true) i=(List.range i).map λj=>(j,(j+1) % n)
 | 0,_=>rfl
 | i+1,h=>by
  have e:(List.replicate n true).getD i false=true:=by
   rw[Qae,List.getElem?_replicate_of_lt (by omega)];rfl
  rw[Ke,Ra n i (by omega),e,if_pos rfl,List.range_succ,Qbw];rfl
inductive KQ (C:Addr) (vs:YG) (H:Hp) (Q:VK) (E:XK):Prop
 | mk (p L T:Addr) (as:List Addr) (n:Nat) (logs:List (List En)) (_:vs=[.ref p]) (_:RAt C H p L T as n logs (List.replicate n true)) (_:∀l a H',H l=none->H' l=some (.lst [.ref a])->H' a=some (.lst (nv (List.range n)))->Same H H'->Q (.ref l) H'):KQ C vs H Q E
section
variable {P:Program} {w:World} {K:YD} {mg:YB} {base:Heap} {C:Addr}
abbrev xf:YF:=["house","one","other"]
abbrev xm:YF:=["house","panel"]
theorem V2 (c:Cu K C "houses" "Ring.houses" Cg Dp) (T:Tx K mg C) (Le:Gp P w K mg base C "pairs" 1 Df (Lr C)):Gp P w K mg base C "houses" 2 Dp (KQ C):=by
 refine c.good Cw (λvs H Q E h=>?_) (λf cdv A outer s H vs Q E hr h=>?_)
 ·obtain⟨p,L,T,as,n,logs,rfl,_⟩:=h;rfl
 obtain⟨p,L,TT,as,n,logs,rfl,R,q⟩:=h;refine⟨_,(Ad (JB (i:=1) Cw.nd rfl (Or.inl rfl) (N':=["panel"]) rfl (Bx.plain rfl (by trivial) (by trivial) (by trivial)) (Eb rfl T.range (Aa (Ez (pv 0) rfl) Ab)) (λ_ _ _ _=>(Ay (i:=0) (show List.Nodup (["panel"]:YF) by trivial) rfl (Or.inl rfl))) (λ_ _ _ _=>Ey) (λ_ _ _ _=>(BL (Aa (pv 0) Ab))))
 (Ad (Gf QbA rfl (Cy (NQ (pv 0) T.cl Le hr)) (JC rfl (Cd (Ay (i:=2) Cw.nd rfl (Or.inr rfl)) (Cd (Ay (i:=3) Cw.nd rfl (Or.inr rfl)) Hh)))
 (Ad (JB (i:=4) Cw.nd rfl (Or.inl rfl) (N':=xf) rfl (Bx.of (src:=[none,some 2,some 3]) (Ae Cg) xk rfl rfl rfl (by trivial) (by trivial) (by trivial) rfl (by trivial)) (Cy (pv 1)) (λ_ _ _ _=>(Ay (i:=0) (show List.Nodup (xf:YF) by trivial) rfl (Or.inl rfl))) (λ_ _ _ _=>(K4 (PW.pt (Ly (BJ (N7 (K:=K) rfl) (pv 1) (pv 0) (by with_unfolding_all rfl)) (K1 (BJ (N7 (K:=K) rfl) (pv 2) (pv 0) (by with_unfolding_all rfl))))))) (λ_ _ _ _=>(pv 0)))
 (Ad (JB (i:=5) Cw.nd rfl (Or.inl rfl) (N':=xf) rfl (Bx.of (src:=[none,some 2,some 3]) (Ae Cg) xk rfl rfl rfl (by trivial) (by trivial) (by trivial) rfl (by trivial)) (Cy (pv 1)) (λ_ _ _ _=>(Ay (i:=0) (show List.Nodup (xf:YF) by trivial) rfl (Or.inl rfl))) (λ_ _ _ _=>(K4 (PW.pt (Q7 (BJ (Kw (K:=K) rfl) (pv 1) (pv 0) (by with_unfolding_all rfl)) (O6 (BJ (Kw (K:=K) rfl) (pv 2) (pv 0) (by with_unfolding_all rfl))))))) (λ_ _ _ _=>(pv 0)))
 (Ai (Aw (i:=1) Cw.nd rfl (Or.inl rfl) (Ao HN (pv 5) (BL (Aa (Ak Tc rfl T.sorted Li (Aa (ZJ (N':=xm) rfl (Bx.plain rfl (by trivial) (by trivial) (by trivial)) (Cy (pv 4)) (λ_ _ _ _=>(Ay (i:=0) (show List.Nodup (xm:YF) by trivial) rfl (Or.inl rfl))) (λ_ _ _ _=>(ZF (K:=K) rfl (pv 0))) (λ_ _ _ _=>(Ay (i:=1) (show List.Nodup (xm:YF) by trivial) rfl (Or.inl rfl))) (λ_ _ _ _=>(pv 1))) Ab)) Ab))))))))
 (Ai (Bc (Ak Te rfl T.sorted Li (Aa (pv 1) Ab)))))),?_⟩
 show let R0:TS:=_;let R1:TS:=_;let R2:TS:=Aj _ R1;let R3:TS:=Aj _ R2;let R4:TS:=Aj (KC _ _ R3) R0;Aj _ R4 _ _ _;intro R0 R1 R2 R3 R4;obtain⟨dx,ob⟩:=R.ob;have n2:=R.n2;have n4:=R.n4;have ok:=Zj n2 n4;refine⟨_,rq,p,C,dx,_,_,rq,ob,T.cl,T.JL,Kl _ _ _,_,rq,by omega,by omega,λl0 hl0=>?_⟩;let J0:YN:=λ(i:Nat) (Z : St) (HH:Hp)=>∃(u:Option V) (bs:List Addr),Z=[u]/\Ng HH l0 bs ((List.range i).map λk=>[k])/\l0∉bs/\Same H HH;refine Gb J0 ⟨_,[],rq,⟨Ac,.nil⟩,(λz=>by cases z),Af hl0 _⟩ (λi Z HH hi h=>?_) (fun Z HH h=>?_)
 ·obtain⟨u,bs,rfl,e1,e2,e3⟩:=h;rw[Qbb] at hi;rw[Int.zero_add];refine Bg (Bp ⟨_,rq,Ar (by show 1<=1000;decide),λa ha=>?_⟩);have s4:=Af ha (.lst [.int (i:Int)]);have h4:(upd HH a (.lst [.int (i:Int)])) a=some (.lst (nv [i])):=Ac;have e1':=e1.same s4;have nla:l0≠a:=λz=>by rw[<-z,e1.1] at ha;cases ha
  have e3':=e3.trans s4;have bl:=QbL e1.2;rw[Qbt,Qbh] at bl;generalize upd HH a (.lst [.int (i:Int)])=H4 at *;refine⟨_,e1'.1,Aq (by rw[Qbt];omega),_,bs++[a],rq,⟨by rw[Ac,Qbw];rfl,?_⟩,?_,e3'.BP Ah.upd hl0⟩
  ·rw[List.range_succ,Qbw];exact BZ (LC e1'.2 λx hx y e=>by rw[Al (show x≠l0 from λz=>e2 (by rw[<-z];exact hx))];exact e) (.cons (by rw[Al nla.symm];exact h4) .nil)
  ·intro z;rcases Qbu.mp z with z | z
   ·exact e2 z
   ·exact nla (QaM.mp z)
 obtain⟨u,bs,rfl,e1,e2,s1⟩:=h;rw[Qbb] at e1;refine Bg ⟨_,rq,p,dx,_,rq,s1 _ _ ob,Cr (by trivial),p,L,TT,as,n,logs,_,rq,R.same s1,λl1 H1 ws fl1 hl1 pw s2=>⟨l1,rq,⟨_,SqL.of hl1⟩,?_⟩⟩;rw[Ra n n (QbZ _)] at pw;have wl:=QbL pw;rw[Qbt,Qbh] at wl;let J1:YN:=λ(m:Nat) (Z : St) (HH:Hp)=>∃u2 u3 u4 u5,∃(t:Addr) (bs:List Addr),Z=[js p,js t,u2,u3,u4,u5]/\Ng HH t bs (tA n m)/\H t=none/\Same H1 HH/\Same H HH;refine Jo (xs:=ws) J1 ⟨_,_,_,_,l0,bs,rq,e1.same s2,hl0,Same.refl _,s1.trans s2⟩ (λi Z HH _ h=>?_) (λm x Z HH hx h=>?_) (fun Z HH h=>?_)
 ·obtain⟨u2,u3,u4,u5,t,bs,rfl,e1,e2,e3,e4⟩:=h;exact SqL.of (e3 _ _ hl1)
 ·obtain⟨u2,u3,u4,u5,t,bs,rfl,e1,e2,e3,e4⟩:=h;have hm:m < n:=by have:=(Qah.mp hx).1;omega
  obtain⟨d,hd,tp,rfl,htp⟩:=Ej pw hx;rw[Qba,List.getElem?_range hm] at hd;have hd':(m,(m+1) % n)=d:=Qbx hd;subst hd';have ok1:=List.all_eq_true.mp ok m (List.mem_range.mpr hm);rw[Qbm,Qbm,Qbm,Qbm] at ok1;obtain⟨⟨⟨⟨o1,o2⟩,o3⟩,o4⟩,o5⟩:=ok1;have o1:=Qbd o1;have o2:=List.isPerm_iff.mp o2;have o3:=Qbd o3;have o4:=Qbd o4;generalize tA n m=hs at *;have bl:=QbL e1.2;refine⟨tp,_,rq,SqT.of (e3 _ _ htp),rq,_,_,rq,_,_,rq,rq,?_⟩;dsimp only;generalize (m+1) % n=m' at *;have VB:∀{cs:List Addr} {i:Nat} {x:V},(cs.map V.ref)[i]?=some x->∃a,cs[i]?=some a/\x=.ref a:=λ{cs i x} hx=>by
   rw[Qba] at hx;cases h0:cs[i]? with
   | none=>rw[h0] at hx;cases hx
   | some a=>rw[h0] at hx;exact⟨a,rfl,(Qbx hx).symm⟩
  refine⟨_,rq,t,rq,⟨_,SqL.of e1.1⟩,λl2 hl2=>?_⟩;let J2:YN:=λ(i:Nat) (Z : St) (HX:Hp)=>∃(u:Option V) (cs:List Addr),Z=[u,some (.int (m:Int)),some (.int (m':Int))]/\Ng HX l2 cs ((hs.take i).filter λh=>inB h (m,m'))/\(∀c∈cs,c∈bs)/\l2∉cs/\cs.length<=i/\Same HH HX;refine Ed (xs:=bs.map V.ref) J2 ⟨_,[],rq,⟨Ac,.nil⟩,(λc hc=>by cases hc),(λz=>by cases z),QbZ _,Af hl2 _⟩ (λi Z HX _ g=>?_) (λi x Z HX hx g=>?_) (fun Z HX g=>?_)
  ·obtain⟨u,cs,rfl,g1,g2,g3,g4,g5⟩:=g;exact SqL.of (g5 _ _ e1.1)
  ·obtain⟨u,cs,rfl,g1,g2,g3,g4,g5⟩:=g;obtain⟨a,ha,rfl⟩:=VB hx;obtain⟨h,hh,hah⟩:=Ej e1.2 ha;have Kh:=g5 _ _ hah;have abs:=Qaz ha;have hi:i < bs.length:=(Qah.mp ha).1;have jR:a≠l2:=λz=>by rw[<-z] at hl2;rw[hl2] at hah;cases hah
   have yes:inB h (m,m')=true->∃ys,HX l2=some (.lst ys)/\ys.length < sizeLine/\J2 (i+1) [js a,some (.int (m:Int)),some (.int (m':Int))] (upd HX l2 (.lst (ys++[.ref a]))):=λhb=>by
    refine⟨_,g1.1,Aq (by rw[Qbt];omega),_,cs++[a],rq,⟨by rw[Ac,Qbw];rfl,?_⟩,?_,?_,by rw[QaN];exact Nat.succ_le_succ g4,g5.BP Ah.upd hl2⟩
    ·rw[Qce hh,QaS,Qbs,hb,if_pos rfl,QbG];exact BZ (LC g1.2 λx hx y e=>by rw[Al (show x≠l2 from λz=>g3 (by rw[<-z];exact hx))];exact e) (.cons (by rw[Al jR];exact Kh) .nil)
    ·intro c hc;rcases Qbu.mp hc with hc | hc
     ·exact g2 c hc
     ·rw[QaM.mp hc];exact abs
    ·intro z;rcases Qbu.mp z with z | z
     ·exact g3 z
     ·exact jR (QaM.mp z).symm
   have no:inB h (m,m')=false->J2 (i+1) [js a,some (.int (m:Int)),some (.int (m':Int))] HX:=λhb=>by
    refine⟨_,cs,rq,?_,g2,g3,Nat.le_succ_of_le g4,g5⟩;rw[Qce hh,QaS,Qbs,hb,if_neg QaL,QbG,Qby];exact g1
   refine Bg ⟨_,rq,_,rq,a,_,rq,.inl (SqL.of Kh),rq,LK h,_,rq,?_⟩;rw[if_neg QaL,Oj];cases c1:h.contains m with
   | true=>
    have hb:inB h (m,m')=true:=by show (h.contains m || h.contains m')=true;rw[c1];rfl
    exact Bp (Bp ⟨_,rq,yes hb⟩)
   | false=>
    refine Bk ⟨_,rq,_,rq,a,_,rq,.inl (SqL.of Kh),rq,LK h,_,rq,?_⟩;rw[if_neg QaL,Oj];cases c2:h.contains m' with
    | true=>
     have hb:inB h (m,m')=true:=by show (h.contains m || h.contains m')=true;rw[c1,c2];rfl
     exact Bp ⟨_,rq,yes hb⟩
    | false=>
     have hb:inB h (m,m')=false:=by show (h.contains m || h.contains m')=false;rw[c1,c2];rfl
     exact Bk (no hb)
  obtain⟨u,cs,rfl,g1,g2,g3,g4,g5⟩:=g;rw[Qbt,bl,Qbj] at g1;refine Bg ?_;have e15:=e1.same g5;refine⟨_,rq,t,rq,⟨_,SqL.of e15.1⟩,λl3 hl3=>?_⟩;let J3:YN:=λ(i:Nat) (Z : St) (HY:Hp)=>∃(u:Option V) (ds:List Addr),Z=[u,some (.int (m:Int)),some (.int (m':Int))]/\Ng HY l3 ds ((hs.take i).filter λh=>!inB h (m,m'))/\l3∉ds/\ds.length<=i/\Same HX HY;refine Ed (xs:=bs.map V.ref) J3 ⟨_,[],rq,⟨Ac,.nil⟩,(λz=>by cases z),QbZ _,Af hl3 _⟩ (λi Z HY _ g=>?_) (λi x Z HY hx g=>?_) (fun Z HY g=>?_)
  ·obtain⟨u,ds,rfl,y1,y2,y3,y4⟩:=g;exact SqL.of (y4 _ _ e15.1)
  ·obtain⟨u,ds,rfl,y1,y2,y3,y4⟩:=g;obtain⟨a,ha,rfl⟩:=VB hx;obtain⟨h,hh,hah⟩:=Ej e15.2 ha;have Kh:=y4 _ _ hah;have hi:i < bs.length:=(Qah.mp ha).1;have jQ:a≠l3:=λz=>by rw[<-z] at hl3;rw[hl3] at hah;cases hah
   have yes:inB h (m,m')=false->∃ys,HY l3=some (.lst ys)/\ys.length < sizeLine/\J3 (i+1) [js a,some (.int (m:Int)),some (.int (m':Int))] (upd HY l3 (.lst (ys++[.ref a]))):=λhb=>by
    refine⟨_,y1.1,Aq (by rw[Qbt];omega),_,ds++[a],rq,⟨by rw[Ac,Qbw];rfl,?_⟩,?_,by rw[QaN];exact Nat.succ_le_succ y3,y4.BP Ah.upd hl3⟩
    ·rw[Qce hh,QaS,Qbs,hb,Bool.not_false,if_pos rfl,QbG];exact BZ (LC y1.2 λx hx y e=>by rw[Al (show x≠l3 from λz=>y2 (by rw[<-z];exact hx))];exact e) (.cons (by rw[Al jQ];exact Kh) .nil)
    ·intro z;rcases Qbu.mp z with z | z
     ·exact y2 z
     ·exact jQ (QaM.mp z).symm
   have no:inB h (m,m')=true->J3 (i+1) [js a,some (.int (m:Int)),some (.int (m':Int))] HY:=λhb=>by
    refine⟨_,ds,rq,?_,y2,Nat.le_succ_of_le y3,y4⟩;rw[Qce hh,QaS,Qbs,hb,Bool.not_true,if_neg QaL,QbG,Qby];exact y1
   refine Bg ⟨_,rq,_,rq,a,_,rq,.inl (SqL.of Kh),rq,LK h,_,rq,?_⟩;rw[if_pos rfl,Oj];cases c1:h.contains m with
   | true=>
    have hb:inB h (m,m')=true:=by show (h.contains m || h.contains m')=true;rw[c1];rfl
    exact Bk (Bk (no hb))
   | false=>
    refine Bp ⟨_,rq,_,rq,a,_,rq,.inl (SqL.of Kh),rq,LK h,_,rq,?_⟩;rw[if_pos rfl,Oj];cases c2:h.contains m' with
    | true=>
     have hb:inB h (m,m')=true:=by show (h.contains m || h.contains m')=true;rw[c1,c2];rfl
     exact Bk (no hb)
    | false=>
     have hb:inB h (m,m')=false:=by show (h.contains m || h.contains m')=false;rw[c1,c2];rfl
     exact Bp ⟨_,rq,yes hb⟩
  obtain⟨u,ds,rfl,y1,y2,y3,s6⟩:=g;rw[Qbt,bl,Qbj] at y1;rw[Qbt] at y3;refine Bg ⟨_,rq,_,rq,l2,rq,⟨_,SqL.of (s6 _ _ g1.1)⟩,λl4 hl4=>?_⟩;have g16:=g1.same s6;generalize (hs.filter λh=>inB h (m,m'))=tc at *;have cl:=QbL g1.2;have sub:∀i,((tc.take i).flatten).length<=tc.flatten.length:=λi=>by
   have:=congrArg List.flatten (List.take_append_drop i tc);rw[List.flatten_append] at this;rw[<-this,QaN];omega
  refine WR (xs:=cs.map V.ref) (λ(i:Nat) (Z : St) (HZ:Hp)=>∃(u v:Option V),Z=[u,v]/\HZ l4=some (.lst (nv ((tc.take i).flatten)))/\Same HY HZ) ⟨_,_,rq,Ac,Af hl4 _⟩ (λi Z HZ _ g=>?_) (λi x Z HZ hx g=>?_) (fun Z HZ g=>?_)
  ·obtain⟨u,v,rfl,z1,z2⟩:=g;exact SqL.of (z2 _ _ g16.1)
  ·obtain⟨u,v,rfl,z1,z2⟩:=g;obtain⟨a,ha,rfl⟩:=VB hx;obtain⟨h,hh,hah⟩:=Ej g16.2 ha;have Kh:=z2 _ _ hah;refine Bg ⟨_,rq,a,rq,⟨_,SqL.of Kh⟩,?_⟩;have fl:=sub (i+1);rw[Qce hh,List.flatten_append,QaN] at fl;have fh:([h].flatten).length=h.length:=by simp
   refine dh (xs:=nv h) (λ(j:Nat) (Z : St) (HV:Hp)=>∃(u v:Option V),Z=[u,v]/\HV l4=some (.lst (nv ((tc.take i).flatten++h.take j)))/\Same HY HV) ⟨_,_,rq,by rw[List.take_zero,Qby];exact z1,z2⟩ (λj Z HV _ g=>?_) (λj x Z HV hx g=>?_) (fun Z HV g=>?_)
   ·obtain⟨u,v,rfl,v1,v2⟩:=g;exact SqL.of (v2 _ _ hah)
   ·obtain⟨u,v,rfl,v1,v2⟩:=g;have hj:j < h.length:=by have:=(Qah.mp hx).1;rw[Rq] at this;exact this
    have hk:=at_getD (l:=h) 0 hj;have hx':x=.int ((h.getD j 0:Nat):Int):=by
     unfold nv at hx;rw[Qba,hk] at hx;exact (Qbx hx).symm
    subst hx';refine Bg ⟨_,rq,_,v1,Aq (by rw[Rq,QaN,Qbk];omega),_,_,rq,?_,v2.BP Ah.upd hl4⟩;rw[Ac,Qce hk,<-List.append_assoc];unfold nv;rw[Qbw (l₂:=[h.getD j 0])];rfl
   ·obtain⟨u,v,rfl,v1,v2⟩:=g;refine⟨_,_,rq,?_,v2⟩;rw[Rq,Qbj] at v1;rw[Qce hh,List.flatten_append];simpa using v1
  obtain⟨u,v,rfl,z1,z2⟩:=g;rw[Qbt,cl,Qbj] at z1;refine⟨l4,iN tc.flatten,rq,SqL.of (by rw[eZ];exact z1),by unfold iN;rw[Qbt];omega,λms l5 hp hs' hl5=>?_⟩;have ems:=QV hp hs' o2;subst ems;rw[eZ];have s7:=Af hl5 (.lst (nv (List.range (kk n m))));have h7:(upd HZ l5 (.lst (nv (List.range (kk n m))))) l5=some (.lst (nv (List.range (kk n m)))):=Ac;have y17:=(y1.same z2).same s7;have sH7:=((g5.trans s6).trans z2).trans s7;generalize upd HZ l5 (.lst (nv (List.range (kk n m))))=H7 at *;refine⟨Ar (by show 1<=1000;decide),λl6 hl6=>?_⟩;have s8:=Af hl6 (.lst [.ref l5]);have h8:(upd H7 l6 (.lst [.ref l5])) l6=some (.lst [.ref l5]):=Ac;have y18:=y17.same s8;have h78:=s8 _ _ h7;have sH8:=sH7.trans s8;generalize upd H7 l6 (.lst [.ref l5])=H8 at *;refine⟨l3,l6,_,_,rq,rq,y18.1,h8,Ar (by rw[Qbt];show ds.length+1<=1000;omega),λl7 hl7=>?_⟩;have s9:=Af hl7 (.lst (ds.map V.ref++[.ref l5]));refine Bg ⟨_,_,_,_,l7,ds++[l5],rq,⟨by rw[Ac,Qbw];rfl,?_⟩,e4.free (sH8.free hl7),e3.trans (sH8.trans s9),e4.trans (sH8.trans s9)⟩;rw[<-o1];exact BZ (y18.same s9).2 (.cons (s9 _ _ h78) .nil)
 ·obtain⟨u2,u3,u4,u5,t,bs,rfl,e1,e2,e3,e4⟩:=h;rw[wl] at e1;have etA:tA n n=[List.range n]:=by
   unfold tA;rw[if_neg (by omega),if_neg (by omega)]
  rw[etA] at e1;obtain⟨e5,e6⟩:=e1;cases e6 with
  | cons e7 e8=>
   cases e8;refine⟨_,rq,t,_,rq,SqL.of e5,λl hl=>?_⟩;exact q l _ _ (e4.free hl) Ac (Af hl _ _ _ e7) (e4.trans (Af hl _))
end
theorem Xa:∀{g h:List En},Up g->Up h->(∀e,e∈g ↔ e∈h)->g=h
 | [],[],_,_,_=>rfl
 | [],e::r,_,_,m=>by have:=(m e).mpr (.head _);cases this
 | e::r,[],_,_,m=>by have:=(m e).mp (.head _);cases this
 | e::r,f::t,hg,hh,m=>by
  obtain⟨g1,g2⟩:=QaY.mp hg;obtain⟨h1,h2⟩:=QaY.mp hh;have ef:e=f:=by
   rcases QbK.mp ((m e).mp (.head _)) with z | z
   ·exact z
   ·rcases QbK.mp ((m f).mpr (.head _)) with z' | z'
    ·exact z'.symm
    ·exact absurd (Int.lt_trans (h1 e z) (g1 f z')) (QbQ _)
  subst ef;rw[Xa g2 h2 λx=>?_];constructor
  ·intro hx;rcases QbK.mp ((m x).mp (.tail _ hx)) with z | z
   ·exact absurd (g1 x hx) (by rw[z];exact QbQ _)
   ·exact z
  ·intro hx;rcases QbK.mp ((m x).mpr (.tail _ hx)) with z | z
   ·exact absurd (h1 x hx) (by rw[z];exact QbQ _)
   ·exact z
structure RI (n:Nat) (logs:List (List En)) (W:List En):Prop where
 w:WOk W
 ln:logs.length=n
 up:∀g∈logs,Up g
 sub:∀g∈logs,∀e∈g,e∈W
 cl:∀g∈logs,∀e∈g,∀f∈W,f.pn=e.pn->f.nr < e.nr->f∈g
 own:∀q:Nat,∀e∈W,e.pn=(q:Int)->e∈logs.getD q []
 pn:∀e∈W,e.pn < (n:Int)
 st0:∀e∈W,0<=e.st
 nd:W.Nodup
 num:∀(q i:Nat) (e:En),(Bj W q)[i]?=some e->e.nr=(i:Int)
 rise:∀e∈W,∀f∈W,e.pn=f.pn->e.nr < f.nr->e.st < f.st
theorem JK {W:List En} {q:Nat} {e:En}:e∈Bj W q ↔ e∈W/\e.pn=(q:Int):=by
 unfold Bj;rw[List.mem_filter,QaR]
theorem Xw {W:List En} (h:W.Nodup) (q:Nat):(Bj W q).Nodup:=h.sublist List.filter_sublist
theorem RI.nlt {n:Nat} {logs:List (List En)} {W:List En} (r:RI n logs W) {q:Nat} {e:En} (h:e∈W) (hq:e.pn=(q:Int)):e.nr < ((Bj W q).length:Int):=by
 obtain⟨i,hi⟩:=QaE (JK.mpr ⟨h,hq⟩);rw[r.num q i e hi];have:=(Qah.mp hi).1;omega
theorem RI.Uz {n:Nat} {logs:List (List En)} {W g:List En} {q:Nat} (r:RI n logs W) (hg:logs[q]?=some g):(Bj g q).length=(Bj W q).length:=by
 have hm:=Qaz hg;have eg:logs.getD q []=g:=by rw[Qae,hg];rfl
 refine Nat.le_antisymm (G3 (Xw (r.up g hm).nd q) λe he=>?_) (G3 (Xw r.nd q) λe he=>?_)
 ·obtain⟨h1,h2⟩:=JK.mp he;exact JK.mpr ⟨r.sub g hm e h1,h2⟩
 ·obtain⟨h1,h2⟩:=JK.mp he;exact JK.mpr ⟨eg ▸ r.own q e h1 h2,h2⟩
theorem oV {e f:En} (h:e.st < f.st) (e1:e.pn < 10000) (e2:e.nr < 10000) (f1:0<=f.pn) (f2:0<=f.nr):e.cd < f.cd:=by
 unfold En.cd;omega
theorem RI.write {n:Nat} {logs:List (List En)} {W g:List En} {q:Nat} {st:Int} {z:Str} (r:RI n logs W) (hg:logs[q]?=some g) (hs:Ov g st) (hz:Ln z) (few:W.length < 63) (n4:n<=4) :
  RI n (logs.set q (g++[⟨st,q,(Bj g q).length,z⟩])) (W++[⟨st,q,(Bj g q).length,z⟩]):=by
 have hq:q < n:=by rw[<-r.ln];exact (Qah.mp hg).1
 have hm:=Qaz hg;have eg:logs.getD q []=g:=by rw[Qae,hg];rfl
 have ol:=r.Uz hg;have owl:(Bj W q).length<=W.length:=List.length_filter_le ..;rw[ol];have es:(⟨st,q,(Bj W q).length,z⟩ : En).st=st:=rfl;have ep:(⟨st,q,(Bj W q).length,z⟩ : En).pn=(q:Int):=rfl;have en:(⟨st,q,(Bj W q).length,z⟩ : En).nr=((Bj W q).length:Int):=rfl;have et:(⟨st,q,(Bj W q).length,z⟩ : En).tx=z:=rfl;generalize (⟨st,q,(Bj W q).length,z⟩ : En)=e at *;have gst:∀f∈g,f.st < e.st:=λf hf=>by
  rcases hs with⟨h1,h2⟩|⟨_,h2⟩
  ·rw[h1] at hf;cases hf
  ·rw[es];exact h2 f hf
 have est:0<=e.st:=by
  rcases hs with⟨h1,h2⟩|⟨⟨f,hf,h1⟩,h2⟩
  ·rw[es,h2];exact Int.le_refl _
  ·have:=r.st0 f (r.sub g hm f hf);rw[es];omega
 have cT:∀f∈W,f.pn=e.pn->f∈g:=λf hf hp=>eg ▸ r.own q f hf (by rw[hp,ep]);have enr:∀f∈W,f.pn=e.pn->f.nr < e.nr:=λf hf hp=>by rw[en];exact r.nlt hf (by rw[hp,ep])
 have eW:e∉W:=λh=>absurd (enr e h rfl) (QbQ _);have app:∀{P:En->Prop},(∀f∈W,P f)->P e->∀f∈W++[e],P f:=λh1 h2 f hf=>by
  rcases Qbu.mp hf with h | h
  ·exact h1 f h
  ·rw[QaM.mp h];exact h2
 have gin:∀{P:List En->Prop},(∀g∈logs,P g)->P (g++[e])->∀g'∈logs.set q (g++[e]),P g':=λh1 h2 g' hg'=>by
  rcases Qai hg' with h | h
  ·exact h1 g' h
  ·rw[h];exact h2
 refine⟨⟨by rw[QaN];show W.length+1 < 64;omega,app r.w.pn0 (by rw[ep];omega),app r.w.pn1 (by rw[ep];omega),app r.w.nr0 (by rw[en];omega),app r.w.nr1 (by rw[en];omega),app r.w.tx (by rw[et];exact hz.str),?_⟩,by rw[QbD];exact r.ln,?_,?_,?_,?_,app r.pn (by rw[ep];omega),app r.st0 est,?_,?_,?_⟩
 ·refine app (λa ha=>app (λb hb=>r.w.inj a ha b hb) λh1 h2=>?_) (app (λb hb h1 h2=>?_) λ_ _=>rfl)
  ·exact absurd (enr a ha h1) (by rw[h2];exact QbQ _)
  ·exact absurd (enr b hb h1.symm) (by rw[<-h2];exact QbQ _)
 ·refine gin r.up ?_;refine List.pairwise_append.mpr ⟨r.up g hm,List.pairwise_singleton _ _,λf hf b hb=>?_⟩;rw[QaM.mp hb];have fW:=r.sub g hm f hf;exact oV (gst f hf) (r.w.pn1 f fW) (r.w.nr1 f fW) (by rw[ep];omega) (by rw[en];omega)
 ·refine gin (λg' h f hf=>QaB _ (r.sub g' h f hf)) λf hf=>?_;rcases Qbu.mp hf with h | h
  ·exact QaB _ (r.sub g hm f h)
  ·exact Qau _ h
 ·refine gin (λg' h a ha=>app (λb hb=>r.cl g' h a ha b hb) λh1 h2=>?_) λa ha=>?_
  ·exact absurd (enr a (r.sub g' h a ha) h1.symm) (by omega)
  ·rcases Qbu.mp ha with h | h
   ·refine app (λb hb h1 h2=>QaB _ (r.cl g hm a h b hb h1 h2)) λh1 h2=>?_;exact absurd (enr a (r.sub g hm a h) h1.symm) (by omega)
   ·rw[QaM.mp h];exact app (λb hb h1 _=>QaB _ (cT b hb h1)) λ_ _=>Qau _ (.head _)
 ·intro k;by_cases c:k=q
  ·subst c;have:(logs.set k (g++[e])).getD k []=g++[e]:=by rw[Qae,Qas (by rw[r.ln];exact hq)];rfl
   rw[this];exact app (λb hb h1=>QaB _ (cT b hb (by rw[h1,ep]))) λ_=>Qau _ (.head _)
  ·have:(logs.set q (g++[e])).getD k []=logs.getD k []:=by rw[Qae,QaC (λz=>c z.symm),<-Qae]
   rw[this];refine app (λb hb h1=>r.own k b hb h1) λh1=>?_;rw[ep] at h1;exact absurd (Int.ofNat.inj h1).symm c
 ·exact List.nodup_append.mpr ⟨r.nd,by simp,λx hx y hy z=>by rw[QaM.mp hy] at z;exact eW (z ▸ hx)⟩
 ·intro k i f hf;by_cases c:k=q
  ·subst c;have e1:Bj (W++[e]) k=Bj W k++[e]:=by
    unfold Bj;rw[QaS];simp[ep]
   rw[e1] at hf;by_cases hi:i < (Bj W k).length
   ·rw[Qaj hi] at hf;exact r.num k i f hf
   ·have hi':=Nat.not_lt.mp hi;rw[Qag hi'] at hf;have hk:i - (Bj W k).length=0:=by
     have:=(Qah.mp hf).1;rw[List.length_singleton] at this;omega
    rw[hk] at hf;cases hf;rw[en];omega
  ·have e1:Bj (W++[e]) k=Bj W k:=by
    have:¬e.pn=(k:Int):=by rw[ep];omega
    unfold Bj;rw[QaS];simp[this]
   rw[e1] at hf;exact r.num k i f hf
 ·refine app (λa ha=>app (λb hb=>r.rise a ha b hb) λh1 _=>gst a (cT a ha h1)) (app (λb hb h1 h2=>?_) λ_ h=>absurd h (QbQ _));exact absurd (enr b hb h1.symm) (by omega)
theorem Rw {n:Nat} {ps:List (Nat×Nat)} {logs:List (List En)} {i:Nat} {e:En} (h:NbP ps logs i e):∃j,e∈logs.getD j []/\∀f,f∈logs.getD j []->NbP ps logs i f:=by
 rcases h with h |⟨d,hd,⟨h1,h2⟩|⟨h1,h2⟩⟩
 ·exact⟨i,h,λf hf=>.inl hf⟩
 ·exact⟨d.2,h2,λf hf=>.inr ⟨d,hd,.inl ⟨h1,hf⟩⟩⟩
 ·exact⟨d.1,h2,λf hf=>.inr ⟨d,hd,.inr ⟨h1,hf⟩⟩⟩
theorem getD_mem' {α : Type} {l:List (List α)} {j:Nat} {e:α} (h:e∈l.getD j []):l.getD j []∈l:=by
 by_cases c:j < l.length
 ·exact Qaz (at_getD [] c)
 ·rw[Qae,Qay (by omega)] at h;cases h
theorem RI.beat {n:Nat} {logs BR:List (List En)} {W:List En} {ps:List (Nat×Nat)} (r:RI n logs W) (hl:BR.length=n) (h:∀i g',BR[i]?=some g'->Up g'/\∀e,e∈g' ↔ NbP ps logs i e):RI n BR W:=by
 have key:∀g'∈BR,∃i,BR[i]?=some g':=λg' hg=>QaE hg;refine⟨r.w,hl,λg' hg=>?_,λg' hg e he=>?_,λg' hg e he f hf h1 h2=>?_,λq e he hp=>?_,r.pn,r.st0,r.nd,r.num,r.rise⟩
 ·obtain⟨i,hi⟩:=key g' hg;exact (h i g' hi).1
 ·obtain⟨i,hi⟩:=key g' hg;obtain⟨j,hj,_⟩:=Rw (n:=n) (((h i g' hi).2 e).mp he);exact r.sub _ (getD_mem' hj) e hj
 ·obtain⟨i,hi⟩:=key g' hg;obtain⟨j,hj,hall⟩:=Rw (n:=n) (((h i g' hi).2 e).mp he);exact ((h i g' hi).2 f).mpr (hall f (r.cl _ (getD_mem' hj) e hj f hf h1 h2))
 ·have h1:=r.own q e he hp;have hq:q < BR.length:=by
   rw[hl,<-r.ln];by_cases c:q < logs.length
   ·exact c
   ·rw[Qae,Qay (by omega)] at h1;cases h1
  exact ((h q _ (at_getD [] hq)).2 e).mpr (.inl h1)
abbrev Du:Stmt:=top 38
abbrev Gh:YF:=["_law_bag_here","_law_circle","_law_logs","_law_entries"]
abbrev xx:YF:=["_law_bag_here","_law_circle","_law_logs","_law_entries","_law_panel","_law_text_here","_law_stamp","_law_due","_law_told"]
theorem DP:Ba xx Gh (Ae Du):=by ac_rfl
structure LS (C:Addr) (H:Hp) (p L T lg en lk:Addr) (as bs:List Addr) (n:Nat) (logs:List (List En)) (tied:List Bool) (W:List En):Prop where
 R:RAt C H p L T as n logs tied
 ri:RI n logs W
 hl:H lg=some (.lst (bs.map V.ref))
 lb:Paired (Bf H) bs logs
 hw:Bf H en W
 hk:H lk=some (.lst (tied.map V.bl))
 nd:[p,L,T,lg,en,lk].Nodup
 ap:∀a∈as++bs,a∉[p,L,T,lg,en,lk]
section
variable {C:Addr} {H H':Hp} {p L T lg en lk:Addr} {as bs:List Addr} {n:Nat} {logs:List (List En)} {tied:List Bool} {W:List En}
theorem LS.same (h:LS C H p L T lg en lk as bs n logs tied W) (s:Same H H'):LS C H' p L T lg en lk as bs n logs tied W:=⟨h.R.same s,h.ri,s _ _ h.hl,Logs.same s h.lb,h.hw.same s,s _ _ h.hk,h.nd,h.ap⟩
theorem Bf.ex {a:Addr} {g:List En} (h:Bf H a g):∃o,H a=some o:=let ⟨_,e,_⟩:=h;⟨_,e⟩
theorem LS.ex (h:LS C H p L T lg en lk as bs n logs tied W):∀m∈[p,L,T,lg,en,lk],H m≠none:=λm hm z=>by
 simp only[QbK,Qbi,Qcf] at hm;rcases hm with rfl | rfl | rfl | rfl | rfl | rfl
 ·obtain⟨dx,e⟩:=h.R.ob;rw[e] at z;cases z
 ·rw[h.R.hl] at z;cases z
 ·rw[h.R.ht] at z;cases z
 ·rw[h.hl] at z;cases z
 ·obtain⟨o,e⟩:=h.hw.ex;rw[e] at z;cases z
 ·rw[h.hk] at z;cases z
theorem LS.fresh (h:LS C H p L T lg en lk as bs n logs tied W) {a:Addr} (z:H a=none):a∉[p,L,T,lg,en,lk]:=λm=>h.ex a m z
theorem Bf.jT {a b:Addr} {g:List En} {m:Nat} (h:Bf H a g) (hb:BK H b m):a≠b:=λz=>by
 obtain⟨x,y,t,e,_⟩:=hb;obtain⟨vs,e1,r⟩:=h;rw[z,e] at e1;cases e1;cases r with
 | cons q _=>obtain⟨t,e2,_⟩:=q;cases e2
theorem LS.bag {b:Addr} {m:Nat} (h:LS C H p L T lg en lk as bs n logs tied W) (hb:BK H b m) (s:Ah b H H'):LS C H' p L T lg en lk as bs n logs tied W:=by
 have k:=h.R.bag hb;have n2:=h.R.n2;have al:=QbL h.lb;have ln:=h.R.ln;have tn:=h.R.tn;have ng:lg≠b:=λz=>by
  obtain⟨x,y,t,e,_⟩:=hb;have e1:=h.hl;rw[z,e] at e1
  match bs,al with
  | a::r,_=>cases e1
  | [],al=>simp at al;omega
 have nk:lk≠b:=λz=>by
  obtain⟨x,y,t,e,_⟩:=hb;have e1:=h.hk;rw[z,e] at e1
  match tied,tn with
  | a::r,_=>cases e1
  | [],tn=>simp at tn;omega
 have nb:b∉bs:=λz=>by
  obtain⟨g,hg⟩:=Dg h.lb z;exact hg.jT hb rfl
 exact⟨h.R.Bd s hb.Ph k.1 k.2.1 k.2.2.1 k.2.2.2,h.ri,s _ _ h.hl ng,Logs.Bd s hb.Ph h.lb nb,h.hw.Bd s hb.Ph (h.hw.jT hb),s _ _ h.hk nk,h.nd,h.ap⟩
theorem LS.ne (h:LS C H p L T lg en lk as bs n logs tied W):(p≠L/\p≠T/\p≠lg/\p≠en/\p≠lk)/\(L≠T/\L≠lg/\L≠en/\L≠lk)/\(T≠lg/\T≠en/\T≠lk)/\(lg≠en/\lg≠lk)/\en≠lk:=by
 have:=h.nd;simp only[QbB,QbK,Qbi,Qcf,not_or,List.nodup_nil,and_true,not_false_eq_true] at this;obtain⟨⟨a1,a2,a3,a4,a5⟩,⟨b1,b2,b3,b4⟩,⟨c1,c2,c3⟩,⟨d1,d2⟩,e1⟩:=this;exact⟨⟨a1,a2,a3,a4,a5⟩,⟨b1,b2,b3,b4⟩,⟨c1,c2,c3⟩,⟨d1,d2⟩,e1⟩
end
def FrM (b p L T lg en lk:Addr) (H H':Hp):Prop:=∀c o,H c=some o->c≠b->c∉[p,L,T,lg,en,lk]->H' c=some o
inductive KH (C:Addr) (vs:YG) (H:Hp) (Q:VK) (E:XK):Prop
 | mk (b p L T lg en lk:Addr) (m:Nat) (as bs:List Addr) (n:Nat) (logs:List (List En)) (tied:List Bool) (W:List En) (_:vs=[.ref b,.ref p,.ref lg,.ref en]) (_:BK H b m) (_:m<=8000) (_:LS C H p L T lg en lk as bs n logs tied W) (_:W.length < 63) (_:∀(H':Hp) (as' bs':List Addr) (BR:List (List En)) (W':List En),LS C H' p L T lg en lk as' bs' n BR tied W'->W'.length=W.length+1->(∀x∈as'++bs',x∈as++bs\/H x=none)->FrM b p L T lg en lk H H'->Q (.bl true) H'):KH C vs H Q E
section
variable {P:Program} {w:World} {K:YD} {mg:YB} {base:Heap} {C c1 c8:Addr}
abbrev xh:YF:=["_law_entry"]
theorem VP (c:Code K mg "_law_written" Du Gh) (T:Tx K mg C) (Bb:Good P w K mg base "_law_take" 1 Dc DN) (M8:Good P w K mg base "_law_text" 2 Hi Np) (Jm:Good P w K mg base "_law_is_entry" 2 DW Js) (Ld:Ce P w K mg base C "write" 4 Dd (JX C c1 c8)):Good P w K mg base "_law_written" 5 Gh (KH C):=by
 refine c.good DP (λvs H Q E h=>?_) (λf cdv A outer s H vs Q E hr h=>?_)
 ·obtain⟨b,p,L,T,lg,en,lk,m,as,bs,n,logs,tied,W,rfl,_⟩:=h;rfl
 obtain⟨b,p,L,TT,lg,en,lk,m,as,bs,n,logs,tied,W,rfl,hb,hm,S,few,q⟩:=h;refine⟨_,(Ad (Aw (i:=4) DP.nd rfl (Or.inr rfl) (Bl Bb hr (Aa (pv 0) (Aa (Ak Ck rfl T.len Fd (Aa (pv 2) Ab)) Ab))))
 (Ad (Aw (i:=5) DP.nd rfl (Or.inl rfl) (JF M8 hr (Aa (pv 0) Ab)))
 (Ad (Aw (i:=6) DP.nd rfl (Or.inl rfl) (Ao Cv (Ak (YZ rfl) rfl T.max Y6 (Aa (Ao HN (BL (Aa (VH QH Ag) Ab)) (Dn (N':=xh) rfl (Bx.plain rfl (by trivial) (by trivial) (by trivial)) (Cy (Bw Bu (pv 2) (pv 4) (λ_ _=>rfl))) (λ_ _ _ _=>(Ay (i:=0) (show List.Nodup (xh:YF) by trivial) rfl (Or.inl rfl))) (λ_ _ _ _=>Ey) (λ_ _ _ _=>(Bw (LR (K:=K) rfl) (pv 0) Ag (λ_ _=>rfl))))) Ab)) Ag))
 (Ad (Aw (i:=7) DP.nd rfl (Or.inl rfl) (Gg (Aa (pv 6) (Aa (pv 4) (Aa (Ak Ck rfl T.len Fd (Aa (Dn (N':=["_law_entry","_law_panel"]) rfl (Bx.of (src:=[none,some 4]) (Ae Du) xx rfl rfl rfl (by trivial) (by trivial) (by trivial) rfl (by trivial)) (Cy (pv 3)) (λ_ _ _ _=>(Ay (i:=0) (show List.Nodup (["_law_entry","_law_panel"]:YF) by trivial) rfl (Or.inl rfl))) (λ_ _ _ _=>(K4 (BJ Em (Bw (LR (K:=K) rfl) (pv 0) Ag (λ_ _=>rfl)) (pv 1) (Bt _)))) (λ_ _ _ _=>(pv 0))) Ab)) (Aa (pv 5) Ab))))))
 (Ad (Aw (i:=8) DP.nd rfl (Or.inl rfl) (Ds (pv 1) T.cl Ld hr JG (Aa (pv 4) (Aa (pv 5) Ab))))
 (Ad (Ew (Ao HN (Bw Bu (pv 2) (pv 4) (λ_ _=>rfl)) (BL (Aa (pv 7) Ab))) (Fv (pv 2) (pv 4) set_list))
 (Ad (Cm (Im Qan Qal Qam Ec (pv 3) (Aa (pv 7) Ab)))
 (Ai (Bc (JD (JF Jm hr (Aa (pv 8) Ab)) (K5 (CW (Rn hr.units) (pv 8) (pv 7) (Bt _))))))))))))),?_⟩
 show let R0:TS:=_;let R1:TS:=Aj _ R0;let R2:TS:=Aj _ R1;let R3:TS:=Aj _ R2;let R4:TS:=Aj _ R3;let R5:TS:=Aj _ R4;let R6:TS:=Aj _ R5;Aj _ R6 _ _ _;intro R0 R1 R2 R3 R4 R5 R6;have n2:=S.R.n2;have n4:=S.R.n4;have ln:=S.R.ln;have bl:bs.length=n:=(QbL S.lb).trans ln;refine⟨_,rq,_,rq,lg,_,rq,.inl (SqL.of S.hl),?_⟩;rw[Qbt,bl];refine⟨b,m,n,rq,hb,by omega,by omega,by omega,λr1 H1 r10 r11 hb1 sb1=>?_⟩;have S1:=S.bag hb sb1;obtain⟨k,rfl⟩ : ∃k:Nat,r1=(k:Int):=⟨r1.toNat,by omega⟩;have hk:k < n:=by omega
 refine Bg ⟨_,rq,b,m+1,rq,hb1,by omega,λz H2 hz hb2 sb2=>Bg ?_⟩;have S2:=S1.bag hb1 sb2;obtain⟨dx,ob⟩:=S2.R.ob;have hg:=at_getD (l:=logs) [] (i:=k) (by rw[ln];exact hk);have hgm:=Qaz hg;have kJ:=S.ri.sub _ hgm;have vC:=(S.ri.up _ hgm).few S.ri.w kJ;generalize logs.getD k []=g at *;obtain⟨ga,hga,gv,hgv,pgv⟩:=Ft S2.lb hg;have gvl:=QbL pgv;have atg:atI (bs.map V.ref) (k:Int)=some (.ref ga):=Gd (by rw[Qba,hga];rfl);refine⟨_,rq,Ar (by show 1<=1000;decide),λl3 hl3=>?_⟩;have s3:=Af hl3 (.lst [.int (-1)]);have h3:(upd H2 l3 (.lst [.int (-1)])) l3=some (.lst (([-1]:List Int).map V.int)):=Ac;have S3:=S2.same s3;generalize upd H2 l3 (.lst [.int (-1)])=H3 at *;refine⟨_,rq,_,rq,lg,_,_,_,rq,rq,SqL.of S3.hl,atg,ga,rq,⟨_,SqL.of (s3 _ _ hgv)⟩,λl4 hl4=>?_⟩;let J0:YN:=λ(i:Nat) (Z : St) (HX:Hp)=>∃(u:Option V),Z=[u]/\HX l4=some (.lst (((g.take i).map En.st).map V.int))/\Same H3 HX;refine Ed (xs:=gv) J0 ⟨_,rq,Ac,Af hl4 _⟩ (λi Z HX _ h=>?_) (λi x Z HX hx h=>?_) (fun Z HX h=>?_)
 ·obtain⟨u,rfl,e1,e2⟩:=h;exact SqL.of (e2 _ _ (s3 _ _ hgv))
 ·obtain⟨u,rfl,e1,e2⟩:=h;obtain⟨e,he,t,rfl,ht⟩:=Ej pgv hx;refine Bg (Bp ⟨_,rq,t,_,_,_,rq,rq,SqT.of (e2 _ _ (s3 _ _ ht)),rq,_,e1,Aq (by rw[Qbt,Qbt,Qbk];omega),_,rq,?_,e2.BP Ah.upd hl4⟩);rw[Ac,Qce he,Qbw,Qbw];rfl
 obtain⟨u,rfl,e1,s4⟩:=h;rw[gvl,Qbj] at e1;refine⟨l3,l4,_,_,rq,rq,s4 _ _ h3,e1,Ar (by rw[Qbt,Qbt,Qbt];show 1+g.length<=1000;omega),λl5 hl5=>?_⟩;have s5:=Af hl5 (.lst (([-1]:List Int).map V.int++(g.map En.st).map V.int));have h5:(upd HX l5 (.lst (([-1]:List Int).map V.int++(g.map En.st).map V.int))) l5=some (.lst ((-1::g.map En.st).map V.int)):=Ac;have s25:=(s3.trans s4).trans s5;have S5:=S2.same s25;generalize upd HX l5 (.lst (([-1]:List Int).map V.int++(g.map En.st).map V.int))=H5 at *;refine⟨l5,-1::g.map En.st,rq,SqL.of h5,Nat.succ_pos _,λM hM hall=>⟨_,_,rq,rq,Bg ?_⟩⟩;have stM:∀st,Ov g st->st=M+1:=λst h=>by
  rcases h with⟨h1,h2⟩|⟨⟨f,hf,h1⟩,h2⟩
  ·rw[h1] at hM;have:M=-1:=by simpa using hM
   omega
  ·have a1:=hall f.st (QaA _ (QbV.mpr ⟨f,hf,rq⟩));have a2:=S.ri.st0 f (kJ f hf);rcases QbK.mp hM with h3 | h3
   ·omega
   ·obtain⟨f',hf',h4⟩:=QbV.mp h3;have:=h2 f' hf';omega
 obtain⟨wv,hwv,pwv⟩:=S5.hw;have wvl:=QbL pwv;refine⟨_,rq,_,rq,_,rq,en,rq,⟨_,SqL.of hwv⟩,λl6 hl6=>?_⟩;let J1:YN:=λ(i:Nat) (Z : St) (HY:Hp)=>∃(u:Option V) (ws:YG),Z=[u,some (.int k)]/\HY l6=some (.lst ws)/\ws.length=(Bj (W.take i) k).length/\Same H5 HY;refine Ed (xs:=wv) J1 ⟨_,[],rq,Ac,rq,Af hl6 _⟩ (λi Z HY _ h=>?_) (λi x Z HY hx h=>?_) (fun Z HY h=>?_)
 ·obtain⟨u,ws,rfl,g1,g2,g3⟩:=h;exact SqL.of (g3 _ _ hwv)
 ·obtain⟨u,ws,rfl,g1,g2,g3⟩:=h;obtain⟨x,hxW,t',rfl,ht'⟩:=Ej pwv hx;have lw:ws.length<=64:=by
   have:(Bj (W.take i) k).length<=(W.take i).length:=List.length_filter_le ..;rw[Qbk] at this;omega
  refine Bg ⟨_,rq,t',_,_,_,rq,rq,SqT.of (g3 _ _ ht'),rq,_,rq,rq,_,rq,?_⟩;have eo:Bj (W.take (i+1)) k=Bj (W.take i) k++if x.pn=(k:Int) then [x] else []:=by
   unfold Bj;rw[Qce hxW,QaS];congr 1;by_cases c:x.pn=(k:Int)
   ·rw[if_pos c];simp[c]
   ·rw[if_neg c];simp[c]
  by_cases c:x.pn=(k:Int)
  ·rw[if_pos c] at eo;rw[QbH (by rw[c])];refine Bp ⟨_,rq,ws,g1,Aq (by omega),_,ws++[.ref t'],rq,Ac,?_,g3.BP Ah.upd hl6⟩;rw[eo,QaN,QaN,g2];rfl
  ·rw[if_neg c,Qby] at eo;rw[Qbv (λz=>c (V.int.inj z))];exact Bk ⟨_,ws,rq,g1,by rw[eo];exact g2,g3⟩
 obtain⟨u,ws,rfl,g1,g2,s6⟩:=h;rw[wvl,Qbj] at g2;have eol:=S.ri.Uz hg;refine⟨l6,_,rq,.inl (SqL.of g1),_,rq,Ar (by show 4<=1000;decide),λt ht=>?_⟩;rw[show ((ws.length:Nat):Int)=((Bj g k).length:Int) by rw[g2,eol]];have s7:=Af ht (.tup (En.vs ⟨M+1,k,(Bj g k).length,z⟩));have h7:(upd HY t (.tup (En.vs ⟨M+1,k,(Bj g k).length,z⟩))) t=some (.tup (En.vs ⟨M+1,k,(Bj g k).length,z⟩)):=Ac;have s27:=(s25.trans s6).trans s7;have S7:=S2.same s27;show Iu 7 (.ref t) _ (upd HY t (.tup (En.vs ⟨M+1,k,(Bj g k).length,z⟩))) _;generalize upd HY t (.tup (En.vs ⟨M+1,k,(Bj g k).length,z⟩))=H7 at *;refine Bg ⟨_,rq,p,dx,_,rq,s27 _ _ ob,Cr (by trivial),_,rq,_,rq,p,L,TT,as,n,.int k,.str z,logs,tied,rq,S7.R,True.intro,True.intro,(λy e=>by cases e;have:=hz.l2;omega),.inr (.inr ⟨k,z,g,rq,rq,hg,hz,vC,λt2 a H8 st hst fa ht2 R8 s8=>Bg ?_⟩)⟩;have est:=stM st hst;subst est;have ri8:=S.ri.write hg hst hz few n4;obtain⟨ne1,ne2,ne3,ne4,ne5⟩:=S.ne;have Lt:∀xs,H7 L≠some (.tup xs):=λxs z=>by rw[S7.R.hl] at z;cases z
 have nLb:L∉bs:=λz=>S.ap L (Qau _ z) (.tail _ (.head _));have h78:H8 t=some (.tup (En.vs ⟨M+1,k,(Bj g k).length,z⟩)):=s8.tup Lt _ _ h7;have hl8:=s8 _ _ S7.hl ne2.2.1.symm;have lb8:=Logs.Bd s8 Lt S7.lb nLb;have hw8:=S7.hw.Bd s8 Lt ne2.2.2.1.symm;have hk8:=s8 _ _ S7.hk ne2.2.2.2.symm;have gv8:=s8 _ _ (s27 _ _ hgv) (λz=>nLb (z ▸ Qaz hga));have pg8:=Ens.tups (s8.tup Lt) (Ens.tups (Bq.of s27) pgv);have aM:a∉[p,L,TT,lg,en,lk]:=S7.fresh fa;generalize he:(⟨M+1,(k:Int),(Bj g k).length,z⟩ : En)=e at *;refine⟨_,rq,_,rq,lg,_,_,_,rq,rq,SqL.of hl8,atg,_,rq,Ar (by show 1<=1000;decide),λl9 hl9=>?_⟩;have s9:=Af hl9 (.lst [.ref t]);have h9:(upd H8 l9 (.lst [.ref t])) l9=some (.lst [.ref t]):=Ac;generalize upd H8 l9 (.lst [.ref t])=H9 at *;refine⟨ga,l9,gv,_,rq,rq,s9 _ _ gv8,h9,Ar (by rw[gvl];show g.length+1<=1000;omega),λl10 kh=>?_⟩;have s10:=Af kh (.lst (gv++[.ref t]));have h10:(upd H9 l10 (.lst (gv++[.ref t]))) l10=some (.lst (gv++[.ref t])):=Ac;have Jc:=s9.trans s10;have f10:H8 l10=none:=s9.free kh;generalize upd H9 l10 (.lst (gv++[.ref t]))=H10 at *;have lM:l10∉[p,L,TT,lg,en,lk]:=λz=>by
  have R8':=R8;have ex8:H8 l10≠none:=by
   simp only[QbK,Qbi,Qcf] at z;rcases z with rfl | rfl | rfl | rfl | rfl | rfl
   ·obtain⟨dx,e⟩:=R8.ob;rw[e];exact λz=>nomatch z
   ·rw[R8.hl];exact λz=>nomatch z
   ·rw[R8.ht];exact λz=>nomatch z
   ·rw[hl8];exact λz=>nomatch z
   ·obtain⟨o,e⟩:=hw8.ex;rw[e];exact λz=>nomatch z
   ·rw[hk8];exact λz=>nomatch z
  exact ex8 f10
 refine⟨_,rq,_,rq,lg,_,_,k,rq,rq,Jc _ _ hl8,ixn (by rw[Qbt,bl];exact hk),?_⟩;have gt:∀xs,H10 lg≠some (.tup xs):=λxs z=>by rw[Jc _ _ hl8] at z;cases z
 have s11:Ah lg H10 (upd H10 lg (.lst ((bs.map V.ref).set k (.ref l10)))):=Ah.upd;have vp:(upd H10 lg (.lst ((bs.map V.ref).set k (.ref l10)))) lg=some (.lst ((bs.set k l10).map V.ref)):=by rw[Ac,QbX]
 generalize upd H10 lg (.lst ((bs.map V.ref).set k (.ref l10)))=H11 at *;have R10:=R8.same Jc;have as':∀x∈as.set k a,x∉[p,L,TT,lg,en,lk]:=λx hx=>by
  rcases Qai hx with z | z
  ·exact S.ap x (QaB _ z)
  ·rw[z];exact aM
 have bs':∀x∈bs.set k l10,x∉[p,L,TT,lg,en,lk]:=λx hx=>by
  rcases Qai hx with z | z
  ·exact S.ap x (Qau _ z)
  ·rw[z];exact lM
 have m4:lg∈[p,L,TT,lg,en,lk]:=.tail _ (.tail _ (.tail _ (.head _)));have m5:en∈[p,L,TT,lg,en,lk]:=.tail _ (.tail _ (.tail _ (.tail _ (.head _))));have R11:=R10.Bd s11 gt ne1.2.2.1 ne2.2.1 ne3.1 (λz=>as' lg z m4);have uD:Paired (Bf H11) (bs.set k l10) (logs.set k (g++[e])):=by
  have l1:Bf H10 l10 (g++[e]):=⟨_,h10,BZ (Ens.tups (Bq.of Jc) pg8) (.cons ⟨t,rq,Jc _ _ h78⟩ .nil)⟩;exact Logs.Bd s11 gt (NP (Logs.same Jc lb8) l1) λz=>bs' lg z m4
 have vm:=(hw8.same Jc).Bd s11 gt ne4.1.symm;have vq:=s11 _ _ (Jc _ _ hk8) ne4.2.symm;have t11:H11 t=some (.tup e.vs):=s11.tup gt _ _ (Jc _ _ h78);have pH:H11 t2=some (.tup e.vs):=s11.tup gt _ _ (Jc _ _ ht2);obtain⟨wv1,cG,jr⟩:=vm;have yI:=QbL jr;refine⟨_,rq,.inl ⟨rq,_,SqL.of cG⟩,_,rq,en,_,_,rq,rq,cG,Aq (by omega),?_⟩;have et:∀xs,H11 en≠some (.tup xs):=λxs z=>by rw[cG] at z;cases z
 have s12:Ah en H11 (upd H11 en (.lst (wv1++[.ref t]))):=Ah.upd;have vh:Bf (upd H11 en (.lst (wv1++[.ref t]))) en (W++[e]):=⟨_,Ac,Ens.tups (s12.tup et) (BZ jr (.cons ⟨t,rq,t11⟩ .nil))⟩;generalize upd H11 en (.lst (wv1++[.ref t]))=H12 at *;have t12:=s12.tup et _ _ t11;have jj:=s12.tup et _ _ pH;have SF:LS C H12 p L TT lg en lk (as.set k a) (bs.set k l10) n (logs.set k (g++[e])) tied (W++[e]):=⟨R11.Bd s12 et ne1.2.2.2.1 ne2.2.2.1 ne3.2.1 (λz=>as' en z m5),ri8,s12 _ _ vp ne4.1,Logs.Bd s12 et uD (λz=>bs' en z m5),vh,s12 _ _ vq ne5.symm,S.nd,λx hx=>(Qbu.mp hx).elim (as' x) (bs' x)⟩;have eok:=ri8.w.tx e (Qau _ (.head _));refine⟨_,rq,.ref t2,e,rq,⟨t2,rq,jj⟩,λH13 s13=>⟨_,rq,Bp ?_⟩⟩;refine⟨_,rq,_,rq,e.pd,e.pd,Lg ⟨t2,rq,s13 _ _ jj⟩,Lg ⟨t,rq,s13 _ _ t12⟩,HS eok,HS eok,?_⟩;rw[Ve eok];have fr7:∀x,H7 x=none->H x=none:=λx hx=>sb1.free hb1.ex (sb2.free hb2.ex (s27.free hx));have vK:H7 l10=none:=s8.free ⟨_,R8.hl⟩ f10;refine q H13 _ _ _ (W++[e]) (SF.same s13) (by rw[QaN];rfl) (λx hx=>?_) λc o hc nb nM=>?_
 ·rcases Qbu.mp hx with hx | hx
  ·rcases Qai hx with z | z
   ·exact .inl (QaB _ z)
   ·exact .inr (by rw[z];exact fr7 _ fa)
  ·rcases Qai hx with z | z
   ·exact .inl (Qau _ z)
   ·exact .inr (by rw[z];exact fr7 _ vK)
 have c1:=s27 _ _ (sb2 _ _ (sb1 _ _ hc nb) nb);have c2:=s8 _ _ c1 (λz=>nM (by rw[z];exact .tail _ (.head _)));have c3:=s11 _ _ (Jc _ _ c2) (λz=>nM (by rw[z];exact m4));exact s13 _ _ (s12 _ _ c3 (λz=>nM (by rw[z];exact m5)))
end
abbrev FQ:Stmt:=top 32
abbrev GR:YF:=["_law_found","_law_due"]
theorem TQ:Ba ["_law_found","_law_due"] GR (Ae FQ):=by ac_rfl
abbrev FP:Stmt:=top 39
abbrev GQ:YF:=["_law_circle","_law_logs"]
theorem Hq:Ba ["_law_circle","_law_logs","_law_panel","_law_log","_law_found"] GQ (Ae FP):=by ac_rfl
theorem Ss {H:Hp}:∀{vs:YG} {es:List En},Paired (Di H) vs es->Ii H vs (es.map En.pd)
 | _,_,.nil=>.nil
 | _,_,.cons a r=>.cons (Lg a) (Ss r)
theorem Vd:∀{es:List En},(∀e∈es,PyData.strOk e.tx=true)->PyData.canLayAll0 (es.map En.pd)=true/\PyData.depthAll (es.map En.pd)<=2
 | [],_=>⟨rfl,by show 0<=2;decide⟩
 | e::r,h=>by
  have ih:=Vd (es:=r) λx hx=>h x (.tail _ hx);refine⟨?_,?_⟩
  ·show ((true&&(true&&(true&&(PyData.strOk e.tx&&true))))&&PyData.canLayAll0 (r.map En.pd))=true;rw[h e (.head _),ih.1];rfl
  ·show max (max 0 (max 0 (max 0 (max 0 0)))+1) (PyData.depthAll (r.map En.pd))<=2;exact Nat.max_le.mpr ⟨by decide,ih.2⟩
theorem Ko {es:List En} (h:∀e∈es,PyData.strOk e.tx=true):SeqAt.shaped (.list (es.map En.pd))=true:=by
 have h1:=Vd h;show (PyData.canLayAll0 (es.map En.pd)&&decide (PyData.depthAll (es.map En.pd)+1<=64))=true;rw[h1.1,Bool.true_and];exact QbH (by omega)
theorem UW {H:Hp} {a:Addr} {es:List En} (h:Bf H a es):Rep H (.ref a) (.list (es.map En.pd)):=let ⟨vs,h1,h2⟩:=h;.lst h1 (Ss h2)
theorem X7 {H:Hp} {a b:Addr} {es:List En} (h1:Bf H a es) (h2:Bf H b es) (h:∀e∈es,PyData.strOk e.tx=true):∃d1 d2,Rep H (.ref a) d1/\Rep H (.ref b) d2/\SeqAt.shaped d1=true/\SeqAt.shaped d2=true/\PyData.eqv d1 d2=true:=
 ⟨_,_,UW h1,UW h2,Ko h,Ko h,SeqAt.eqv_refl _ (SeqAt.canLay_of_shaped (Ko h))⟩
inductive O1 (vs:YG) (H:Hp) (Q:VK) (E:XK):Prop
 | mk (a b:Addr) (es:List En) (_:vs=[.ref a,.ref b]) (_:Bf H a es) (_:Bf H b es) (_:(∀e∈es,PyData.strOk e.tx=true)) (_:es.length < 64) (_:∀H',Same H H'->Q (.bl true) H'):O1 vs H Q E
inductive Mv (C:Addr) (vs:YG) (H:Hp) (Q:VK) (E:XK):Prop
 | mk (p L T lg:Addr) (as bs:List Addr) (n:Nat) (logs:List (List En)) (tied:List Bool) (_:vs=[.ref p,.ref lg]) (_:RAt C H p L T as n logs tied) (_:H lg=some (.lst (bs.map V.ref))) (_:Paired (Bf H) bs logs) (_:(∀g∈logs,∀e∈g,PyData.strOk e.tx=true)) (_:(∀g∈logs,g.length < 64)) (_:∀H',Same H H'->Q (.bl true) H'):Mv C vs H Q E
section
variable {P:Program} {w:World} {K:YD} {mg:YB} {base:Heap} {C c8:Addr}
theorem XJ (c:Code K mg "_law_is_log" FQ GR) (T:Nm mg) (Jm:Good P w K mg base "_law_is_entry" 2 DW Js):Good P w K mg base "_law_is_log" 3 GR O1:=by
 refine c.good TQ (λvs H Q E h=>?_) (λf cdv A outer s H vs Q E hr h=>?_)
 ·obtain⟨a,b,es,rfl,_⟩:=h;rfl
 obtain⟨a,b,es,rfl,la,lb,ok,few,q⟩:=h;refine⟨_,(Ai (Bc (JD (Ak FN rfl T.isinstance Ax (Aa (pv 0) (Aa (FW (v:=.ty "list") rfl T.list JN rfl) Ab))) (JD (Ak (Kq rfl) rfl T.all Ou (Aa (Dn (N':=xh) rfl (Bx.plain rfl (by trivial) (by trivial) (by trivial)) (Cy (pv 0)) (λ_ _ _ _=>(Ay (i:=0) (show List.Nodup (xh:YF) by trivial) rfl (Or.inl rfl))) (λ_ _ _ _=>Ey) (λ_ _ _ _=>(JF Jm hr (Aa (pv 0) Ab)))) Ab)) (K5 (CW (Rn hr.units) (pv 0) (pv 1) (Bt _))))))),?_⟩;obtain⟨gv,hgv,pgv⟩:=id la;have gvl:=QbL pgv;refine⟨_,rq,iC hgv ⟨_,rq,Bp ?_⟩⟩;refine⟨_,rq,a,rq,⟨_,SqL.of hgv⟩,λl1 hl1=>?_⟩;let J0:YN:=λ(i:Nat) (Z : St) (HY:Hp)=>∃(u:Option V),Z=[u]/\HY l1=some (.lst ((List.replicate i true).map V.bl))/\Same H HY;refine Ed (xs:=gv) J0 ⟨_,rq,Ac,Af hl1 _⟩ (λi Z HY _ h=>?_) (λi x Z HY hx h=>?_) (fun Z HY h=>?_)
 ·obtain⟨u,rfl,y1,y2⟩:=h;exact SqL.of (y2 _ _ hgv)
 ·obtain⟨u,rfl,y1,y2⟩:=h;obtain⟨x',hxg,hx'⟩:=Ej pgv hx;have hi:i < gv.length:=(Qah.mp hx).1;refine Bg (Bp ⟨_,rq,x,x',rq,hx'.tups (Bq.of y2),λHZ sz=>⟨_,sz _ _ y1,Aq (by simp;omega),_,rq,?_,(y2.trans sz).BP Ah.upd hl1⟩⟩);rw[Ac,QaD,Qbw];rfl
 obtain⟨u,rfl,y1,s1⟩:=h;refine⟨l1,List.replicate gv.length true,rq,SqL.of y1,_,rq,?_⟩;rw[show (List.replicate gv.length true).all id=true by simp];obtain⟨d1,d2,r1,r2,r3,r4,r5⟩:=X7 (la.same s1) (lb.same s1) ok;refine Bp ⟨_,rq,_,rq,d1,d2,r1,r2,r3,r4,?_⟩;rw[r5];exact q _ s1
theorem XC (c:Code K mg "_law_stands" FP GQ) (T:Tx K mg C) (Om:Good P w K mg base "_law_is_log" 3 GR O1) (Ga:Ce P w K mg base C "log_of" 4 Cq (IW C c8)):Good P w K mg base "_law_stands" 5 GQ (Mv C):=by
 refine c.good Hq (λvs H Q E h=>?_) (λf cdv A outer s H vs Q E hr h=>?_)
 ·obtain⟨p,L,T,lg,as,bs,n,logs,tied,rfl,_⟩:=h;rfl
 obtain⟨p,L,TT,lg,as,bs,n,logs,tied,rfl,R,hl,lb,ok,few,q⟩:=h;refine⟨_,(Ad (Gf QbA rfl (K3 rfl T.enumerate (pv 1)) (JC rfl (Cd (Ay (i:=2) Hq.nd rfl (Or.inl rfl)) (Cd (Ay (i:=3) Hq.nd rfl (Or.inl rfl)) Hh)))
 (Ad (Aw (i:=4) Hq.nd rfl (Or.inl rfl) (Ds (pv 0) T.cl Ga hr JG (Aa (pv 2) Ab)))
 (Ad (Ca (CZ (CV (Bl Om hr (Aa (pv 4) (Aa (pv 3) Ab))))) (Ai (Bc Cj)) Bv)
 (Ad (Cm (jE Qan PySem.F.slot_list_reverse PySem.F.type_list_reverse V6 (pv 4)))
 (Ad (Cm (Im Qan Qal Qam Ec (pv 4) (Aa (Gg (Aa Ag (Aa Ag (Aa Ag (Aa Bs Ab))))) Ab)))
 (Ai (Ca (CZ (CV (Bl Om hr (Aa (Ds (pv 0) T.cl Ga hr JG (Aa (pv 2) Ab)) (Aa (pv 3) Ab))))) (Ai (Bc Cj)) Bv)))))))
 (Ai (Bc Cj))),?_⟩
 show let R0:TS:=_;let R1:TS:=Aj _ R0;let R2:TS:=Aj _ R1;let R3:TS:=Aj _ R2;let R4:TS:=Aj _ R3;Aj (KC _ _ R4) _ _ _ _;intro R0 R1 R2 R3 R4;have ln:=R.ln;have bl:=QbL lb;refine⟨_,rq,lg,rq,⟨_,SqL.of hl⟩,?_⟩;let J1:YN:=λ(i:Nat) (Z : St) (HH:Hp)=>∃u2 u3 u4,Z=[js p,js lg,u2,u3,u4]/\Same H HH;refine PN (xs:=bs.map V.ref) J1 ⟨_,_,_,rq,Same.refl _⟩ (λi Z HH _ h=>?_) (λi x t Z HH hx h ht=>?_) (fun Z HH h=>?_)
 ·obtain⟨u2,u3,u4,rfl,s1⟩:=h;exact SqL.of (s1 _ _ hl)
 ·obtain⟨u2,u3,u4,rfl,s1⟩:=h;obtain⟨a,ha,rfl⟩ : ∃a,bs[i]?=some a/\x=.ref a:=by
   rw[Qba] at hx;cases h0:bs[i]? with
   | none=>rw[h0] at hx;cases hx
   | some a=>rw[h0] at hx;exact⟨a,rfl,(Qbx hx).symm⟩
  obtain⟨g,hg,lga⟩:=Ej lb ha;have hgm:=Qaz hg;have hi:i < n:=by rw[<-ln];exact (Qah.mp hg).1
  have s2:=Af ht (.tup [.int ((0+i:Nat):Int),.ref a]);have h2:(upd HH t (.tup [.int ((0+i:Nat):Int),.ref a])) t=some (.tup [.int ((0+i:Nat):Int),.ref a]):=Ac;have s02:=s1.trans s2;generalize upd HH t (.tup [.int ((0+i:Nat):Int),.ref a])=H2 at *;rw[Nat.zero_add] at h2;refine⟨t,_,rq,SqT.of h2,rq,_,_,rq,_,_,rq,rq,?_⟩;have R2:=R.same s02;obtain⟨dx,ob⟩:=R2.ob;have noE:wiB (.int (i:Int)) 0 ((n:Int) - 1)=false->False:=λe=>by rw[JR hi] at e;cases e
  refine⟨_,rq,p,dx,_,rq,ob,Cr (by trivial),_,rq,p,L,TT,as,n,.int i,logs,tied,rq,R2,True.intro,(λq0 g0 l3 H3 eq0 hg0 fl3 lg3 s3=>?_),λe=>(noE e).elim⟩;have:q0=i:=by have:=V.int.inj eq0;omega
  subst this;rw[hg] at hg0;cases hg0;have s03:=s02.trans s3;have f3:H l3=none:=s02.free fl3;refine Bg ⟨_,rq,_,rq,l3,a,g,rq,lg3,lga.same s03,ok g hgm,few g hgm,λH4 s4=>⟨_,rq,Bk ?_⟩⟩;obtain⟨gv,hgv,pgv⟩:=lg3;have gvl:=QbL pgv;have gf:=few g hgm;have kj:=s4 _ _ hgv;have s04:=s03.trans s4;refine⟨_,rq,.inl ⟨rq,_,SqL.of kj⟩,l3,_,rq,rq,kj,?_⟩;have s5:Same H (upd H4 l3 (.lst gv.reverse)):=s04.BP Ah.upd f3;have h5:(upd H4 l3 (.lst gv.reverse)) l3=some (.lst gv.reverse):=Ac;generalize upd H4 l3 (.lst gv.reverse)=H5 at *;refine⟨_,rq,.inl ⟨rq,_,SqL.of h5⟩,Ar (by show 4<=1000;decide),λt6 ht6=>?_⟩;have s6:=Af ht6 (.tup [.int 0,.int 0,.int 0,.str "x"]);have h6:=s6 _ _ h5;have s06:=s5.trans s6;generalize upd H5 t6 (.tup [.int 0,.int 0,.int 0,.str "x"])=H6 at *;refine⟨l3,_,_,rq,rq,h6,Aq (by rw[List.length_reverse];omega),?_⟩;have s7:Same H (upd H6 l3 (.lst (gv.reverse++[.ref t6]))):=s06.BP Ah.upd f3;generalize upd H6 l3 (.lst (gv.reverse++[.ref t6]))=H7 at *;have R7:=R.same s7;obtain⟨dx7,ob7⟩:=R7.ob;refine⟨_,rq,p,dx7,_,rq,ob7,Cr (by trivial),_,rq,p,L,TT,as,n,.int q0,logs,tied,rq,R7,True.intro,(λq1 g1 l8 H8 eq1 hg1 fl8 lg8 s8=>?_),λe=>(noE e).elim⟩;have:q1=q0:=by have:=V.int.inj eq1;omega
  subst this;rw[hg] at hg1;cases hg1;have s08:=s7.trans s8;exact⟨_,rq,l8,a,g,rq,lg8,lga.same s08,ok g hgm,few g hgm,λH9 s9=>⟨_,rq,Bk ⟨_,_,_,rq,s08.trans s9⟩⟩⟩
 obtain⟨u2,u3,u4,rfl,s1⟩:=h;exact q _ s1
end
abbrev Hf:Stmt:=top 37
abbrev Jh:YF:=["_law_logs","_law_links"]
theorem Dr:Ba ["_law_logs","_law_links","_law_many","_law_found","_law_panel","_law_held","_law_link","_law_after","_law_entry"] Jh (Ae Hf):=by ac_rfl
def En.Jx (e:En):List Key:=[.inl e.st,.inl e.pn,.inl e.nr,.inr e.tx]
def hk4 (e:En):List Key×V:=(e.Jx,.bl true)
theorem Z8 {e f:En} (h:e.Jx=f.Jx):e=f:=by
 obtain⟨a,b,c,d⟩:=e;obtain⟨a',b',c',d'⟩:=f;unfold En.Jx at h;simp only[List.cons.injEq,Sum.inl.injEq,Sum.inr.injEq,and_true] at h;obtain⟨rfl,rfl,rfl,rfl⟩:=h;rfl
theorem Q8 (ds:List En) (e:En):putK (ds.map hk4) e.Jx (.bl true)=(if e∈ds then ds else ds++[e]).map hk4:=by
 unfold putK;by_cases h:e∈ds
 ·rw[if_pos (List.any_eq_true.mpr ⟨hk4 e,QbV.mpr ⟨e,h,rq⟩,QbH rfl⟩),if_pos h,List.map_map];refine List.map_congr_left λf _=>?_;show (if f.Jx=e.Jx then (f.Jx,V.bl true) else hk4 f)=hk4 f
  split <;> rfl
 ·rw[if_neg (λz=>?_),if_neg h,Qbw]
  ·rfl
  ·obtain⟨kv,h1,h2⟩:=List.any_eq_true.mp z;obtain⟨f,hf,rfl⟩:=QbV.mp h1;exact h (Z8 (Qbd h2) ▸ hf)
theorem U6 {H:Hp}:∀{bs:List Addr} {ds:List En},Paired (λb (kv:List Key×V)=>H b=some (.tup (kv.1.map kV))) bs (ds.map hk4)->Paired (Di H) (bs.map V.ref) ds
 | [],[],_=>.nil
 | b::bs,d::ds,.cons a r=>.cons ⟨b,rfl,a⟩ (U6 r)
 | [],_::_,h=>nomatch h
 | _::_,[],h=>nomatch h
def putD (ds:List En) (e:En):List En:=if e∈ds then ds else ds++[e]
theorem Uu {ds:List En} {e:En} (h:ds.Nodup):(putD ds e).Nodup:=by
 unfold putD;split
 ·exact h
 ·rename_i hne;exact List.nodup_append.mpr ⟨h,by simp,λx hx y hy z=>by rw[QaM.mp hy] at z;exact hne (z ▸ hx)⟩
theorem Q9 {ds:List En} {e x:En}:x∈putD ds e ↔ x∈ds\/x=e:=by
 unfold putD;split
 ·rename_i h;exact⟨.inl,λz=>z.elim id λz=>by rw[z];exact h⟩
 ·rw[Qbu,QaM]
def NbY (ps:List (Nat×Nat)) (logs:List (List En)) (i:Nat) (e:En):Prop:=∃d∈ps,(i=d.1\/i=d.2)/\(e∈logs.getD d.1 []\/e∈logs.getD d.2 [])
theorem UG {ps:List (Nat×Nat)} {logs:List (List En)} {k x y:Nat} {e:En}:NbY (ps++[(x,y)]) logs k e ↔ NbY ps logs k e\/((k=x\/k=y)/\(e∈logs.getD x []\/e∈logs.getD y [])):=by
 unfold NbY;constructor
 ·rintro ⟨d,hd,h⟩;rcases Qbu.mp hd with hd | hd
  ·exact .inl ⟨d,hd,h⟩
  ·rw[QaM.mp hd] at h;exact .inr h
 ·rintro (⟨d,hd,h⟩| h)
  ·exact⟨d,QaB _ hd,h⟩
  ·exact⟨(x,y),Qau _ (.head _),h⟩
theorem gU {ps:List (Nat×Nat)} {logs:List (List En)} {k:Nat} {e:En}:(NbY ps logs k e\/e∈logs.getD k []) ↔ NbP ps logs k e:=by
 unfold NbY NbP;constructor
 ·rintro (⟨d,hd,h1 | h1,h2 | h2⟩| h)
  ·exact .inl (by rw[h1];exact h2)
  ·exact .inr ⟨d,hd,.inl ⟨h1,h2⟩⟩
  ·exact .inr ⟨d,hd,.inr ⟨h1,h2⟩⟩
  ·exact .inl (by rw[h1];exact h2)
  ·exact .inl h
 ·rintro (h |⟨d,hd,⟨h1,h2⟩|⟨h1,h2⟩⟩)
  ·exact .inr h
  ·exact .inl ⟨d,hd,.inl h1,.inr h2⟩
  ·exact .inl ⟨d,hd,.inr h1,.inl h2⟩
inductive OJ (vs:YG) (H:Hp) (Q:VK) (E:XK):Prop
 | mk (lg lk:Addr) (bs:List Addr) (n:Nat) (logs:List (List En)) (tied:List Bool) (W:List En) (_:vs=[.ref lg,.ref lk]) (_:H lg=some (.lst (bs.map V.ref))) (_:Paired (Bf H) bs logs) (_:H lk=some (.lst (tied.map V.bl))) (_:logs.length=n) (_:tied.length=n) (_:2<=n) (_:n<=4) (_:WOk W) (_:(∀g∈logs,∀e∈g,e∈W)) (_:(∀g∈logs,g.length < 64)) (_:∀(l:Addr) (bs':List Addr) (H':Hp) (BR:List (List En)),H l=none->(∀b∈bs',H b=none)->l∉bs'->H' l=some (.lst (bs'.map V.ref))->Paired (Bf H') bs' BR->BR.length=n->(∀i g',BR[i]?=some g'->Up g'/\∀e,e∈g' ↔ NbP (prs n tied n) logs i e)->Same H H'->Q (.ref l) H'):OJ vs H Q E
theorem oW {m:List Bool} {j:Nat} (h:j < m.length):atI (m.map V.bl) (j:Int)=some (.bl (m.getD j false)):=Gd (by rw[Qba,at_getD false h];rfl)
section
variable {P:Program} {w:World} {K:YD} {mg:YB} {base:Heap}
theorem ZV (c:Code K mg "_law_beat" Hf Jh) (T:Nm mg):Good P w K mg base "_law_beat" 1 Jh OJ:=by
 refine c.good Dr (λvs H Q E h=>?_) (λf cdv A outer s H vs Q E hr h=>?_)
 ·obtain⟨lg,lk,bs,n,logs,tied,W,rfl,_⟩:=h;rfl
 obtain⟨lg,lk,bs,n,logs,tied,W,rfl,hl,lb,hk,ln,tn,n2,n4,w,iW,few,q⟩:=h;refine⟨_,(Ad (Aw (i:=2) Dr.nd rfl (Or.inl rfl) (Ak Ck rfl T.len Fd (Aa (pv 0) Ab)))
 (Ad (Aw (i:=3) Dr.nd rfl (Or.inl rfl) (BL Ab))
 (Ad (Gf QbA rfl (Eb rfl T.range (Aa (pv 2) Ab)) (Ay (i:=4) Dr.nd rfl (Or.inl rfl))
 (Ad (Aw (i:=5) Dr.nd rfl (Or.inl rfl) Rh)
 (Ad (Gf QbA rfl (Eb rfl T.range (Aa (pv 2) Ab)) (Ay (i:=6) Dr.nd rfl (Or.inl rfl))
 (Ad (Aw (i:=7) Dr.nd rfl (Or.inl rfl) (Ao Fy (Ao Cv (pv 6) Ag) (pv 2)))
 (Ai (Ca (PW.pt (Q7 (Zy (Bw Bu (pv 1) (pv 6) (λ_ _=>rfl)) (λ_=>rfl)) (O6 (BJ PB (pv 4) (Gg (Aa (pv 6) (Aa (pv 7) Ab))) (by with_unfolding_all rfl))))) (Ai (Gf QbA rfl (Cy (Ao HN (Bw Bu (pv 0) (pv 6) (λ_ _=>rfl)) (Bw Bu (pv 0) (pv 7) (λ_ _=>rfl)))) (Ay (i:=8) Dr.nd rfl (Or.inl rfl))
 (Ai (Uv (Wu hr) (pv 5) (pv 8) Cj rfl)))) Bv))))
 (Ad (Gf QbA rfl (Cy (Bw Bu (pv 0) (pv 4) (λ_ _=>rfl))) (Ay (i:=8) Dr.nd rfl (Or.inl rfl))
 (Ai (Uv (Wu hr) (pv 5) (pv 8) Cj rfl)))
 (Ai (Cm (Im Qan Qal Qam Ec (pv 3) (Aa (Ak Td rfl T.sorted Li (Aa (Hw (Ui rfl) rfl T.list JN (Aa (pv 5) Ab)) Ab)) Ab))))))))
 (Ai (Bc (pv 3)))))),?_⟩
 show let R0:TS:=_;let R1:TS:=Aj _ R0;let R2:TS:=_;let R3:TS:=Ib _ R2 _;let R4:TS:=Aj _ R3;let R5:TS:=Aj (KC _ _ R4) R1;let R6:TS:=Aj _ R5;let R7:TS:=Aj (KC _ _ R6) _;let R8:TS:=Aj _ R7;Aj _ R8 _ _ _;intro R0 R1 R2 R3 R4 R5 R6 R7 R8;have bl:bs.length=n:=(QbL lb).trans ln;have yJ:=w.few;have Ge:∀i e,e∈logs.getD i []->e∈W:=λi e he=>iW _ (getD_mem' he) e he;refine⟨_,rq,lg,_,rq,.inl (SqL.of hl),Bg ?_⟩;rw[Qbt,bl];refine⟨Ar (by show 0<=1000;decide),λl1 hl1=>Bg ?_⟩;have s1:=Af hl1 (.lst []);have h1:(upd H l1 (.lst [])) l1=some (.lst []):=Ac;generalize upd H l1 (.lst [])=H1 at *;refine⟨_,rq,_,rq,by omega,by omega,?_⟩;let J0:YN:=λ(i:Nat) (Z : St) (HH:Hp)=>∃u4 u5 u6 u7 u8,∃(cs:List Addr) (ls:List (List En)),Z=[js lg,js lk,some (.int n),js l1,u4,u5,u6,u7,u8]/\HH l1=some (.lst (cs.map V.ref))/\Paired (Bf HH) cs ls/\ls.length=i/\(∀j g',ls[j]?=some g'->Up g'/\∀e,e∈g' ↔ NbP (prs n tied n) logs j e)/\(∀c∈cs,H c=none)/\l1∉cs/\Same H HH;refine Lf J0 ⟨_,_,_,_,_,[],[],rq,h1,.nil,rq,(λj g' h=>by cases h),(λc h=>by cases h),(λz=>by cases z),s1⟩ (λi Z HH hi h=>?_) (fun Z HH h=>?_)
 ·obtain⟨u4,u5,u6,u7,u8,cs,ls,rfl,e1,e2,e3,e4,e5,e6,e7⟩:=h;rw[Qbb] at hi;rw[Int.zero_add];refine Bg ?_;intro d0 hd0;have s3:=Af hd0 (.dT []);have h3:(upd HH d0 (.dT [])) d0=some (.dT ((([]:List En)).map hk4)):=Ac;generalize upd HH d0 (.dT [])=H3 at *;refine Bg ⟨_,rq,_,rq,by omega,by omega,?_⟩;have logAt:∀{HX:Hp},Same HH HX->∀k,k < n->∃a gv,atI (bs.map V.ref) (k:Int)=some (.ref a)/\HX a=some (.lst gv)/\Paired (Di HX) gv (logs.getD k []):=λ{HX} sx k hk'=>by
   have hg:=at_getD (l:=logs) [] (i:=k) (by rw[ln];exact hk');obtain⟨a,ha,gv,h1,h2⟩:=Ft lb hg;have s0x:=e7.trans sx;exact⟨a,gv,Gd (by rw[Qba,ha];rfl),s0x _ _ h1,Ens.tups (Bq.of s0x) h2⟩
  let J1:YN:=λ(j:Nat) (Z : St) (HX:Hp)=>∃u6 u7 u8,∃ds:List En,Z=[js lg,js lk,some (.int n),js l1,some (.int i),js d0,u6,u7,u8]/\HX d0=some (.dT (ds.map hk4))/\ds.Nodup/\(∀e,e∈ds ↔ NbY (prs n tied j) logs i e)/\Same HH HX;refine Lf J1 ⟨_,_,_,[],rfl,h3,.nil,(λe=>⟨λh=>(by cases h),λ⟨d,hd,_⟩=>(by cases hd)⟩),s3⟩ (λj Z HX hj g=>?_) (fun Z HX g=>?_)
  ·obtain⟨u6,u7,u8,ds,rfl,g1,g2,g3,g4⟩:=g;rw[Qbb] at hj;rw[Int.zero_add];have ej:((j:Int)+1) % (n:Int)=(((j+1) % n:Nat):Int):=(Int.natCast_emod _ _).symm;have jn:(j+1) % n < n:=Nat.mod_lt _ (by omega);refine Bg ⟨_,rq,_,_,rq,rq,_,rq,_,_,rq,rq,(by omega),Bg ?_⟩;rw[show (λi j:Int=>V.int (i % j)) ((j:Int)+1) (n:Int)=V.int (((j+1) % n:Nat):Int) from congrArg V.int ej]
   have Sq:=Ke n tied j;generalize (j+1) % n=j' at *;refine⟨_,rq,_,rq,lk,_,_,_,rq,rq,SqL.of (g4 _ _ (e7 _ _ hk)),oW (by omega),_,rq,?_⟩;cases hb:tied.getD j false with
   | false=>
    rw[hb,if_neg QaL,Qby] at Sq;exact Bk (Bk ⟨_,_,_,ds,rq,g1,g2,by rw[Sq];exact g3,g4⟩)
   | true=>
    rw[hb,if_pos rfl] at Sq;refine Bp ⟨_,rq,_,rq,_,rq,Ar (by show 2<=1000;decide),λtq htq=>?_⟩;have s5:=Af htq (.tup [.int (j:Int),.int (j':Int)]);have h5:(upd HX tq (.tup [.int (j:Int),.int (j':Int)])) tq=some (.tup [.int (j:Int),.int (j':Int)]):=Ac;have g15:=s5 _ _ g1;have g45:=g4.trans s5;generalize upd HX tq (.tup [.int (j:Int),.int (j':Int)])=H5 at *;refine⟨tq,_,rq,.inr (SqT.of h5),rq,rq,_,rq,?_⟩;have ein:inV (.int (i:Int)) [.int (j:Int),.int (j':Int)]=decide (i=j\/i=j'):=by
     show ((j:Int) == (i:Int) || ((j':Int) == (i:Int) || false))=_;rw[Bool.or_false,QbC,Bool.or_eq_true,beq_iff_eq,beq_iff_eq,QaR];omega
    rw[if_neg QaL,ein];by_cases c:i=j\/i=j'
    ·rw[QbH c];obtain⟨a1,v1,at1,ha1,p1⟩:=logAt g45 j (by omega);obtain⟨a2,v2,at2,ha2,p2⟩:=logAt g45 j' (by omega);have l1':=QbL p1;have l2':=QbL p2;have f1:=few _ (Qaz (at_getD (l:=logs) [] (i:=j) (by omega)));have f2:=few _ (Qaz (at_getD (l:=logs) [] (i:=j') (by omega)));have hl5:=g45 _ _ (e7 _ _ hl);refine Bp ⟨_,rq,_,rq,lg,_,_,_,rq,rq,SqL.of hl5,at1,_,rq,_,rq,lg,_,_,_,rq,rq,SqL.of hl5,at2,a1,a2,v1,v2,rq,rq,ha1,ha2,Ar (by omega),λl6 hl6=>?_⟩;have s6:=Af hl6 (.lst (v1++v2));have h6:(upd H5 l6 (.lst (v1++v2))) l6=some (.lst (v1++v2)):=Ac;have g16:=s6 _ _ g15;have p6:Paired (Di (upd H5 l6 (.lst (v1++v2)))) (v1++v2) (logs.getD j []++logs.getD j' []):=Ens.tups (Bq.of s6) (BZ p1 p2);have g46:=g45.trans s6;generalize upd H5 l6 (.lst (v1++v2))=H6 at *;have pl:=QbL p6;have n6d:l6≠d0:=λz=>by rw[z,g15] at hl6;cases hl6
     refine⟨l6,rq,⟨_,SqL.of h6⟩,?_⟩;let J2:YN:=λ(m:Nat) (Z : St) (HY:Hp)=>∃u8,∃ds':List En,Z=[js lg,js lk,some (.int n),js l1,some (.int i),js d0,some (.int j),some (.int j'),u8]/\HY d0=some (.dT (ds'.map hk4))/\ds'.Nodup/\(∀e,e∈ds' ↔ NbY (prs n tied j) logs i e\/e∈(logs.getD j []++logs.getD j' []).take m)/\Ah d0 H6 HY/\Same HH HY;refine Jo (xs:=v1++v2) J2 ⟨_,ds,rq,g16,g2,(λe=>by rw[g3 e];simp),Ah.of (Same.refl _),g46⟩ (λm Z HY _ y=>?_) (λm x Z HY hx y=>?_) (fun Z HY y=>?_)
     ·obtain⟨u8,ds',rfl,y1,y2,y3,y4,y5⟩:=y;exact SqL.of (y4 _ _ h6 n6d)
     ·obtain⟨u8,ds',rfl,y1,y2,y3,y4,y5⟩:=y;obtain⟨e,he,t,rfl,ht⟩:=Ej p6 hx;have d6t:∀xs,H6 d0≠some (.tup xs):=λxs z=>by rw[g16] at z;cases z
      have ht':HY t=some (.tup (e.Jx.map kV)):=y4.tup d6t _ _ ht;have dsW:∀e∈ds',e∈W:=λe he=>by
       rcases (y3 e).mp he with⟨d,_,_,h2 | h2⟩| h2
       ·exact Ge _ _ h2
       ·exact Ge _ _ h2
       ·rcases Qbu.mp (List.mem_of_mem_take h2) with h2 | h2
        ·exact Ge _ _ h2
        ·exact Ge _ _ h2
      have dl1:=G3 y2 dsW;refine Bg ⟨_,rq,_,rq,d0,_,rq,Lp.t y1 ht' (Aq (by rw[Qbt];omega)),?_⟩;rw[Q8];refine⟨_,putD ds' e,rq,Ac,Uu y2,λx=>?_,y4.trans Ah.upd,y5.BP Ah.upd hd0⟩;rw[Q9,y3 x,Qce he,Qbu,QaM,or_assoc]
     ·obtain⟨u8,ds',rfl,y1,y2,y3,y4,y5⟩:=y;refine⟨_,_,_,ds',rq,y1,y2,λe=>?_,y5⟩;rw[y3 e,pl,Qbj,Sq,UG,Qbu];exact⟨λh=>h.imp id λh=>⟨c,h⟩,λh=>h.imp id λh=>h.2⟩
    ·rw[Qbv c];refine Bk ⟨_,_,_,ds,rq,g15,g2,λe=>?_,g45⟩;rw[Sq,UG,g3 e];exact⟨.inl,λh=>h.elim id λh=>absurd h.1 c⟩
  ·obtain⟨u6,u7,u8,ds,rfl,g1,g2,g3,g4⟩:=g;rw[Qbb] at g3;obtain⟨a1,v1,at1,ha1,p1⟩:=logAt g4 i hi;have n1d:a1≠d0:=λz=>by rw[z,g1] at ha1;cases ha1
   have l1':=QbL p1;refine⟨_,rq,_,rq,lg,_,_,_,rq,rq,SqL.of (g4 _ _ (e7 _ _ hl)),at1,a1,rq,⟨_,SqL.of ha1⟩,?_⟩;let J3:YN:=λ(m:Nat) (Z : St) (HY:Hp)=>∃u8,∃ds':List En,Z=[js lg,js lk,some (.int n),js l1,some (.int i),js d0,u6,u7,u8]/\HY d0=some (.dT (ds'.map hk4))/\ds'.Nodup/\(∀e,e∈ds' ↔ NbY (prs n tied n) logs i e\/e∈(logs.getD i []).take m)/\Ah d0 HX HY/\Same HH HY;refine Jo (xs:=v1) J3 ⟨_,ds,rq,g1,g2,(λe=>by rw[g3 e];simp),Ah.of (Same.refl _),g4⟩ (λm Z HY _ y=>?_) (λm x Z HY hx y=>?_) (fun Z HY y=>?_)
   ·obtain⟨u8,ds',rfl,y1,y2,y3,y4,y5⟩:=y;exact SqL.of (y4 _ _ ha1 n1d)
   ·obtain⟨u8,ds',rfl,y1,y2,y3,y4,y5⟩:=y;obtain⟨e,he,t,rfl,ht⟩:=Ej p1 hx;have d6t:∀xs,HX d0≠some (.tup xs):=λxs z=>by rw[g1] at z;cases z
    have ht':HY t=some (.tup (e.Jx.map kV)):=y4.tup d6t _ _ ht;have dsW:∀e∈ds',e∈W:=λe he=>by
     rcases (y3 e).mp he with⟨d,_,_,h2 | h2⟩| h2
     ·exact Ge _ _ h2
     ·exact Ge _ _ h2
     ·exact Ge _ _ (List.mem_of_mem_take h2)
    have dl1:=G3 y2 dsW;refine Bg ⟨_,rq,_,rq,d0,_,rq,Lp.t y1 ht' (Aq (by rw[Qbt];omega)),?_⟩;rw[Q8];refine⟨_,putD ds' e,rq,Ac,Uu y2,λx=>?_,y4.trans Ah.upd,y5.BP Ah.upd hd0⟩;rw[Q9,y3 x,Qce he,Qbu,QaM,or_assoc]
   ·obtain⟨u8,ds',rfl,y1,y2,y3,y4,y5⟩:=y;have y3':∀e,e∈ds' ↔ NbP (prs n tied n) logs i e:=λe=>by rw[y3 e,l1',Qbj,gU]
    have dsW:∀e∈ds',e∈W:=λe he=>by
     obtain⟨k',h2,_⟩:=Rw (n:=n) ((y3' e).mp he);exact Ge _ _ h2
    have dl1:=G3 y2 dsW;have hdY:=y5 _ _ e1;refine⟨_,rq,.inl ⟨rq,_,SqL.of hdY⟩,_,rq,X8 y1 λl5 bs' hl5 pbs=>?_⟩;have pen:=U6 pbs;have s5:=Af hl5 (.lst (bs'.map V.ref));have h5:(upd HY l5 (.lst (bs'.map V.ref))) l5=some (.lst (bs'.map V.ref)):=Ac;have jC:=Ens.tups (Bq.of s5) pen;generalize upd HY l5 (.lst (bs'.map V.ref))=H5 at *;have bl':(bs'.map V.ref).length=ds'.length:=QbL pen;refine Zk (ks:=ds'.map En.cd) (SqL.of h5) (by omega) (Wd w jC dsW) (S6 w y2 dsW) λis l6 hp hr' hl6=>?_;rw[bl'] at hp;have s6:=Af hl6 (.lst (is.map λi=>(bs'.map V.ref).getD i .non));have h6:Bf (upd H5 l6 (.lst (is.map λi=>(bs'.map V.ref).getD i .non))) l6 (is.map λi=>ds'.getD i en0):=⟨_,Ac,Ens.tups (Bq.of s6) (Ux hp jC)⟩;have up6:Up (is.map λi=>ds'.getD i en0):=Uw hp hr';have uw:∀e,e∈(is.map λi=>ds'.getD i en0) ↔ NbP (prs n tied n) logs i e:=λe=>by rw[Rb en0 hp,y3' e]
    have sX6:Same HH (upd H5 l6 (.lst (is.map λi=>(bs'.map V.ref).getD i .non))):=(y5.trans s5).trans s6;have fl6:HH l6=none:=(y5.trans s5).free hl6;generalize upd H5 l6 (.lst (is.map λi=>(bs'.map V.ref).getD i .non))=H6 at *;generalize (is.map λi=>ds'.getD i en0)=zs at *;have hd6:=sX6 _ _ e1;have n6d:l6≠l1:=λz=>by rw[z,e1] at fl6;cases fl6
    have tdl:∀xs,H6 l1≠some (.tup xs):=λxs z=>by rw[hd6] at z;cases z
    have csl:cs.length=i:=(QbL e2).trans e3;refine⟨l1,_,_,rq,rq,hd6,Aq (by rw[Qbt];omega),?_⟩;refine⟨_,_,_,_,_,cs++[l6],ls++[zs],rq,by rw[Ac,Qbw];rfl,BZ (Logs.Bd Ah.upd tdl (Logs.same sX6 e2) e6) (.cons (h6.Bd Ah.upd tdl n6d) .nil),by rw[QaN,e3];rfl,λj g' hj=>?_,λc hc=>?_,λz=>?_,(e7.trans sX6).BP Ah.upd hl1⟩
    ·by_cases c:j < ls.length
     ·rw[Qaj c] at hj;exact e4 j g' hj
     ·have c':=Nat.not_lt.mp c;rw[Qag c'] at hj;have hj0:j - ls.length=0:=by
       have:=(Qah.mp hj).1;rw[List.length_singleton] at this;omega
      rw[hj0] at hj;cases hj;have:j=i:=by omega
      subst this;exact⟨up6,uw⟩
    ·rcases Qbu.mp hc with hc | hc
     ·exact e5 c hc
     ·rw[QaM.mp hc];exact e7.free fl6
    ·rcases Qbu.mp z with z | z
     ·exact e6 z
     ·exact n6d (QaM.mp z).symm
 ·obtain⟨u4,u5,u6,u7,u8,cs,ls,rfl,e1,e2,e3,e4,e5,e6,e7⟩:=h;rw[Qbb] at e3;exact⟨_,rq,q l1 cs _ ls hl1 e5 e6 e1 e2 e3 e4 e7⟩
end
abbrev Dm:Stmt:=top 33
abbrev EY:YF:=Dc
theorem O2:Ba Dc EY (Ae Dm):=by ac_rfl
abbrev Fg:Stmt:=top 34
abbrev Gj:YF:=["_law_bag_here","_law_text_here"]
theorem Jb:Ba ["_law_bag_here","_law_text_here","_law_at","_law_odd"] Gj (Ae Fg):=by ac_rfl
theorem Vj (x y:Str):(x++y).cps.toList=x.cps.toList++y.cps.toList:=by
 show (x.cps++y.cps).toList=_;simp
theorem Kp (x y:Str):(x++y).cps.size=x.cps.size+y.cps.size:=by
 show (x.cps++y.cps).size=_;simp
theorem qm:sgB 10=false:=by trivial
theorem ln10 {z:Str} (h:10∈z.cps.toList):lnB (.str z)=false:=by
 show (decide (1<=z.cps.size)&&decide (z.cps.size<=20)&&z.cps.toList.all sgB)=false;rw[Bool.and_eq_false_iff];exact .inr (Bool.eq_false_iff.mpr λq=>by have:=List.all_eq_true.mp q 10 h;rw[qm] at this;cases this)
theorem lnL {z:Str} (h:20 < z.cps.size):lnB (.str z)=false:=by
 show (decide (1<=z.cps.size)&&decide (z.cps.size<=20)&&z.cps.toList.all sgB)=false;rw[Qbv (by omega:¬z.cps.size<=20),Bool.and_false,QbJ]
inductive QL (vs:YG) (H:Hp) (Q:VK) (E:XK):Prop
 | mk (b:Addr) (m n:Nat) (_:vs=[.ref b,.int n]) (_:BK H b m) (_:m<=8000) (_:2<=n) (_:n<=4) (_:∀v H',Kn H' v->wiB v 0 ((n:Int) - 1)=false->BK H' b (m+2)->Ah b H H'->Q v H'):QL vs H Q E
inductive Mw (vs:YG) (H:Hp) (Q:VK) (E:XK):Prop
 | mk (b:Addr) (m:Nat) (z:Str) (_:vs=[.ref b,.str z]) (_:BK H b m) (_:m<=8000) (_:Ln z) (_:∀v H',Kn H' v->lnB v=false->(∀y,v=.str y->y.cps.size<=1000)->BK H' b (m+3)->Ah b H H'->Q v H'):Mw vs H Q E
theorem xr {i:Int} (h0:0<=i) (h1:i < 10) {a b c d e f g h j k:V} (P:V->Prop) (pa:P a) (pb:P b) (pc:P c) (pd:P d) (pe:P e) (pf:P f) (pg:P g) (ph:P h) (pj:P j) (pk:P k):∃v,atI [a,b,c,d,e,f,g,h,j,k] i=some v/\P v:=by
 have:i=0\/i=1\/i=2\/i=3\/i=4\/i=5\/i=6\/i=7\/i=8\/i=9:=by omega
 rcases this with rfl | rfl | rfl | rfl | rfl | rfl | rfl | rfl | rfl | rfl
 ·exact⟨_,rq,pa⟩
 ·exact⟨_,rq,pb⟩
 ·exact⟨_,rq,pc⟩
 ·exact⟨_,rq,pd⟩
 ·exact⟨_,rq,pe⟩
 ·exact⟨_,rq,pf⟩
 ·exact⟨_,rq,pg⟩
 ·exact⟨_,rq,ph⟩
 ·exact⟨_,rq,pj⟩
 ·exact⟨_,rq,pk⟩
theorem xg {i:Int} (h0:0<=i) (h1:i < 5) {a b c d e:V} (P:V->Prop) (pa:P a) (pb:P b) (pc:P c) (pd:P d) (pe:P e):∃v,atI [a,b,c,d,e] i=some v/\P v:=by
 have:i=0\/i=1\/i=2\/i=3\/i=4:=by omega
 rcases this with rfl | rfl | rfl | rfl | rfl
 ·exact⟨_,rq,pa⟩
 ·exact⟨_,rq,pb⟩
 ·exact⟨_,rq,pc⟩
 ·exact⟨_,rq,pd⟩
 ·exact⟨_,rq,pe⟩
theorem xq {i:Int} (h0:0<=i) (h1:i < 4) {a b c d:V} (P:V->Prop) (pa:P a) (pb:P b) (pc:P c) (pd:P d):∃v,atI [a,b,c,d] i=some v/\P v:=by
 have:i=0\/i=1\/i=2\/i=3:=by omega
 rcases this with rfl | rfl | rfl | rfl
 ·exact⟨_,rq,pa⟩
 ·exact⟨_,rq,pb⟩
 ·exact⟨_,rq,pc⟩
 ·exact⟨_,rq,pd⟩
theorem QC {x:Int} {n:Nat} (h:(n:Int)<=x):wiB (.int x) 0 ((n:Int) - 1)=false:=by
 show (decide ((0:Int)<=x)&&decide (x<=(n:Int) - 1))=false;rw[Qbv (by omega:¬x<=(n:Int) - 1),Bool.and_false]
theorem iZ {n:Nat}:wiB (.int (-1)) 0 ((n:Int) - 1)=false:=by
 show (decide ((0:Int)<=-1)&&decide ((-1:Int)<=(n:Int) - 1))=false;rw[Qbv (by omega),QbJ]
section
variable {P:Program} {w:World} {K:YD} {mg:YB} {base:Heap}
theorem gH (c:Code K mg "_law_none_such" Dm EY) (T:Nm mg) (Bb:Good P w K mg base "_law_take" 1 Dc DN):Good P w K mg base "_law_none_such" 2 EY QL:=by
 refine c.good O2 (λvs H Q E h=>?_) (λf cdv A outer s H vs Q E hr h=>?_)
 ·obtain⟨b,m,n,rfl,_⟩:=h;rfl
 obtain⟨b,m,n,rfl,hb,hm,n2,n4,q⟩:=h;refine⟨_,(@Ai _ _ _ (Bc (Bw Bu (@BL _ _ _ _ (@Aa _ _ _ _ _ (pv 1) (@Aa _ _ _ _ _ (VH QH Ag) (@Aa _ _ _ _ _ Cj (@Aa _ _ _ _ _ Cj (@Aa _ _ _ _ _ K6 (@Aa _ _ _ _ _ (BL (Aa Ag Ab)) (@Aa _ _ _ _ _ (@Bs _ _ _ _) (@Aa _ _ _ _ _ (Gg (Aa Ag Ab)) (@Aa _ _ _ _ _ (@Ao _ _ _ _ _ _ _ _ Ri Ag Ag) (@Aa _ _ _ _ _ (@Ao _ _ _ _ _ _ _ _ Cv (pv 1) (Bl Bb hr (Aa (pv 0) (Aa Ag Ab)))) (@Ab _) Xl) Xl) Xj) Bh) Xk) Bh) Bh) Bh) nG) Iw)) (Bl Bb hr (Aa (pv 0) (Aa Ag Ab))) (λ_ _=>rfl)))),?_⟩;refine⟨_,rq,_,rq,Ar (by show 1<=1000;decide),λl1 hl1=>?_⟩;have s1:=Af hl1 (.lst [.int 0]);have h1:(upd H l1 (.lst [.int 0])) l1=some (.lst [.int 0]):=Ac;generalize upd H l1 (.lst [.int 0])=H1 at *;refine⟨Ar (by show 1<=1000;decide),λt2 ht2=>?_⟩;have s2:=Af ht2 (.tup [.int 1]);have h2:(upd H1 t2 (.tup [.int 1])) t2=some (.tup [.int 1]):=Ac;have h12:=s2 _ _ h1;have s02:=s1.trans s2;generalize upd H1 t2 (.tup [.int 1])=H2 at *;refine⟨_,_,rq,rq,⟨by decide,by decide,by decide⟩,?_⟩;have hB:∃B:Int,(λi j:Int=>V.int (i ^ j.toNat)) 10 30=V.int B/\100<=B:=⟨_,rq,by decide⟩;obtain⟨B,eB,hB⟩:=hB;rw[eB];have hb2:=hb.same s02;refine⟨_,rq,_,rq,b,m,90,rq,hb2,by omega,by decide,by decide,λr1 H3 r10 r11 hb3 sb3=>⟨_,_,rq,rq,Ar (by show 10<=1000;decide),λp hp=>?_⟩⟩;have s4:=Af hp (.lst [V.int n,.int (-1),.bl true,.bl false,.non,.ref l1,.str "0",.ref t2,.int B,.int (n+r1)]);have h4:(upd H3 p (.lst [V.int n,.int (-1),.bl true,.bl false,.non,.ref l1,.str "0",.ref t2,.int B,.int (n+r1)])) p=some (.lst [V.int n,.int (-1),.bl true,.bl false,.non,.ref l1,.str "0",.ref t2,.int B,.int (n+r1)]):=Ac;have hb4:=hb3.same s4;show tC2 DN (Ox 0) (tC (V.int 10)) _ (upd H3 p (.lst [V.int n,.int (-1),.bl true,.bl false,.non,.ref l1,.str "0",.ref t2,.int B,.int (n+r1)])) _;generalize upd H3 p (.lst [V.int n,.int (-1),.bl true,.bl false,.non,.ref l1,.str "0",.ref t2,.int B,.int (n+r1)])=H4 at *;have npb:p≠b:=λz=>by
  obtain⟨o,e⟩:=hb3.ex;rw[<-z,hp] at e;cases e
 have n1b:l1≠b:=λz=>by
  obtain⟨o,e⟩:=hb.ex;rw[<-z,hl1] at e;cases e
 have n2b:t2≠b:=λz=>by
  obtain⟨o,e⟩:=(hb.same s1).ex;rw[<-z,ht2] at e;cases e
 refine⟨_,rq,b,m+1,10,rq,hb4,by omega,by decide,by decide,λr2 H5 r20 r21 hb5 sb5=>?_⟩;have h15:=sb5 _ _ (s4 _ _ (sb3 _ _ h12 n1b)) n1b;have h25:=sb5 _ _ (s4 _ _ (sb3 _ _ h2 n2b)) n2b;obtain⟨v,hv,k1,k2⟩:=xr r20 r21 (λv=>Kn H5 v/\wiB v 0 ((n:Int) - 1)=false) (a:=V.int n) (b:=.int (-1)) (c:=.bl true) (d:=.bl false) (e:=.non) (f:=.ref l1) (g:=.str "0") (h:=.ref t2) (j:=.int B) (k:=.int (n+r1))
  ⟨True.intro,QC (by omega)⟩ ⟨True.intro,iZ⟩ ⟨True.intro,rq⟩ ⟨True.intro,rq⟩ ⟨True.intro,rq⟩ ⟨.inl ⟨_,h15⟩,rq⟩ ⟨True.intro,rq⟩ ⟨.inr ⟨_,h25⟩,rq⟩ ⟨True.intro,QC (by omega)⟩ ⟨True.intro,QC (by omega)⟩
 refine⟨p,_,_,_,rq,rq,SqL.of (sb5 _ _ h4 npb),hv,?_⟩;exact q v H5 k1 k2 hb5 (((Ah.of s02).trans sb3).trans ((Ah.of s4).trans sb5))
theorem V0 (c:Code K mg "_law_no_text" Fg Gj) (T:Nm mg) (Bb:Good P w K mg base "_law_take" 1 Dc DN):Good P w K mg base "_law_no_text" 2 Gj Mw:=by
 refine c.good Jb (λvs H Q E h=>?_) (λf cdv A outer s H vs Q E hr h=>?_)
 ·obtain⟨b,m,z,rfl,_⟩:=h;rfl
 obtain⟨b,m,z,rfl,hb,hm,hz,q⟩:=h;refine⟨_,(@Ad _ _ _ _ _ (@Aw _ _ 2 _ _ _ _ Jb.nd rfl (Or.inl rfl) (Bl Bb hr (Aa (pv 0) (Aa (@Ao _ _ _ _ _ _ _ _ Cv (Ak Jq rfl T.len Fd (Aa (pv 1) Ab)) Ag) Ab))) (by rfl) (by first | exact .inl rfl | exact .inr rfl))
 (@Ad _ _ _ _ _ (@Aw _ _ 3 _ _ _ _ Jb.nd rfl (Or.inl rfl) (Bw Bu (@BL _ _ _ _ (@Aa _ _ _ _ _ K6 (@Aa _ _ _ _ _ (@Ag _ _ _ _) (@Aa _ _ _ _ _ Cj (@Aa _ _ _ _ _ (BL (Aa (pv 1) Ab)) (@Aa _ _ _ _ _ (Gg (Aa (pv 1) Ab)) (@Ab _) Xj) Xk) Bh) Bh) Bh)) (Bl Bb hr (Aa (pv 0) (Aa Ag Ab))) (λ_ _=>rfl)) (by rfl) (by first | exact .inl rfl | exact .inr rfl))
 (@Ai _ _ _ (Bc (Bw Bu (BL (Aa Bs (Aa (@Ao _ _ _ _ _ _ _ _ Io (pv 1) (@Ao _ _ _ _ _ _ _ _ VJ Bs (@Ao _ _ _ _ _ _ _ _ N6 Ag (Ak Jq rfl T.len Fd (Aa (pv 1) Ab))))) (Aa (@Ao _ _ _ _ _ _ _ _ Io (@Ao _ _ _ _ _ _ _ _ Io (MP Xm (pv 1) O8 (O7 (pv 2))) Bs) (MP Xm (pv 1) (O7 (pv 2)) O8)) (Aa (pv 3) Ab))))) (Bl Bb hr (Aa (pv 0) (Aa Ag Ab))) (λ_ _=>rfl)))))),?_⟩
 show let R0:TS:=_;let R1:TS:=Aj _ R0;Aj _ R1 _ _ _;intro R0 R1;have z20:=hz.l2;have hz1:z.length<=sizeLine:=Ar (by show z.cps.size<=1000;omega);have zl:(z.length:Int)=(z.cps.size:Int):=rfl;refine⟨_,rq,_,rq,z,rq,hz1,_,_,rq,rq,b,m,_,rq,hb,by omega,?_,?_,λr1 H1 r10 r11 hb1 sb1=>Bg ?_⟩
 ·show (0:Int) < (z.cps.size:Int)+1;omega
 ·show (z.cps.size:Int)+1 < 1073741824;omega
 refine⟨_,rq,Ar (by show 1<=1000;decide),λl2 hl2=>?_⟩;have s2:=Af hl2 (.lst [.str z]);have h2:(upd H1 l2 (.lst [.str z])) l2=some (.lst [.str z]):=Ac;have hb2:=hb1.same s2;generalize upd H1 l2 (.lst [.str z])=H2 at *;refine⟨_,rq,Ar (by show 1<=1000;decide),λt3 ht3=>?_⟩;have s3:=Af ht3 (.tup [.str z]);have h3:(upd H2 t3 (.tup [.str z])) t3=some (.tup [.str z]):=Ac;have h23:=s3 _ _ h2;have hb3:=hb2.same s3;generalize upd H2 t3 (.tup [.str z])=H3 at *;refine⟨Ar (by show 5<=1000;decide),λl4 hl4=>?_⟩;have s4:=Af hl4 (.lst [.non,.int 3,.bl true,.ref l2,.ref t3]);have h4:(upd H3 l4 (.lst [.non,.int 3,.bl true,.ref l2,.ref t3])) l4=some (.lst [.non,.int 3,.bl true,.ref l2,.ref t3]):=Ac;have h24:=s4 _ _ h23;have h34:=s4 _ _ h3;have hb4:=hb3.same s4;have nfr:∀{x:Addr} {HX:Hp},BK HX b (m+1)->HX x=none->x≠b:=λh e z=>by
  obtain⟨o,e1⟩:=h.ex;rw[<-z,e] at e1;cases e1
 have n2b:=nfr hb1 hl2;have n3b:=nfr hb2 ht3;have n4b:=nfr hb3 hl4;have s14:=(s2.trans s3).trans s4;show tC2 DN (Ox 0) (tC (V.int 5)) _ (upd H3 l4 (.lst [.non,.int 3,.bl true,.ref l2,.ref t3])) _;generalize upd H3 l4 (.lst [.non,.int 3,.bl true,.ref l2,.ref t3])=H4 at *;refine⟨_,rq,b,m+1,5,rq,hb4,by omega,by decide,by decide,λr2 H5 r20 r21 hb5 sb5=>?_⟩;have h25:=sb5 _ _ h24 n2b;have h35:=sb5 _ _ h34 n3b;obtain⟨v,hv,kv⟩:=xg r20 r21 (λv=>(v=.non\/v=.int 3\/v=.bl true\/v=.ref l2\/v=.ref t3)) (a:=V.non) (b:=.int 3) (c:=.bl true) (d:=.ref l2) (e:=.ref t3) (.inl rfl) (.inr (.inl rfl)) (.inr (.inr (.inl rfl))) (.inr (.inr (.inr (.inl rfl)))) (.inr (.inr (.inr (.inr rfl))));refine⟨l4,_,_,_,rq,rq,SqL.of (sb5 _ _ h4 n4b),hv,Bg ?_⟩;have lz1:(Str.ofString "z").cps.size=1:=by trivial
 have ln1:(Str.ofString "\n").cps.size=1:=by trivial
 have vd:(10:Nat)∈(Str.ofString "\n").cps.toList:=by trivial
 have a1:(Txt.slice z none (some r1)).cps.size<=z.cps.size:=Txt.slice_le z none (some r1);have a2:(Txt.slice z (some r1) none).cps.size<=z.cps.size:=Txt.slice_le z (some r1) none;refine⟨_,rq,_,rq,z,rq,hz1,_,_,rq,rq,_,_,rq,rq,?_,?_,?_,_,_,rq,rq,?_,?_⟩
 ·show (21:Int) - (z.cps.size:Int)<=1000000;omega
 ·show (-1000000:Int)<=21 - (z.cps.size:Int);omega
 ·show (Str.ofString "z").cps.size*(21 - (z.cps.size:Int)).toNat<=1000000;rw[lz1];omega
 ·refine Ar ?_;show z.cps.size+(Ei _ _).cps.size<=1000;rw[MK,lz1];show z.cps.size+1*(21 - (z.cps.size:Int)).toNat<=1000;omega
 refine⟨_,rq,_,rq,_,rq,z,rq,hz1,_,_,rq,rq,?_,_,rq,_,rq,_,rq,z,rq,hz1,_,_,rq,rq,?_,?_⟩
 ·refine Ar ?_;show (Txt.slice z none (some r1)).cps.size+(Str.ofString "\n").cps.size<=1000;omega
 ·refine Ar ?_;show (Txt.slice z none (some r1)++Str.ofString "\n").cps.size+(Txt.slice z (some r1) none).cps.size<=1000;rw[Kp];omega
 refine⟨_,rq,Ar (by show 4<=1000;decide),λl6 hl6=>?_⟩;have s6:=Af hl6 (.lst [.str "",.str (z++Ei "z" (21 - (z.cps.size:Int))),.str (Txt.slice z none (some r1)++Str.ofString "\n"++Txt.slice z (some r1) none),v]);have h6:(upd H5 l6 (.lst [.str "",.str (z++Ei "z" (21 - (z.cps.size:Int))),.str (Txt.slice z none (some r1)++Str.ofString "\n"++Txt.slice z (some r1) none),v])) l6=some (.lst [.str "",.str (z++Ei "z" (21 - (z.cps.size:Int))),.str (Txt.slice z none (some r1)++Str.ofString "\n"++Txt.slice z (some r1) none),v]):=Ac;have hb6:=hb5.same s6;have h26:=s6 _ _ h25;have h36:=s6 _ _ h35;have n6b:l6≠b:=λz'=>by
  obtain⟨o,e1⟩:=hb5.ex;rw[<-z',hl6] at e1;cases e1
 show tC2 DN (Ox 0) (tC (V.int 4)) _ (upd H5 l6 (.lst [.str "",.str (z++Ei "z" (21 - (z.cps.size:Int))),.str (Txt.slice z none (some r1)++Str.ofString "\n"++Txt.slice z (some r1) none),v])) _;generalize upd H5 l6 (.lst [.str "",.str (z++Ei "z" (21 - (z.cps.size:Int))),.str (Txt.slice z none (some r1)++Str.ofString "\n"++Txt.slice z (some r1) none),v])=H6 at *;refine⟨_,rq,b,m+1+1,4,rq,hb6,by omega,by decide,by decide,λr3 H7 r30 r31 hb7 sb7=>?_⟩;have h27:=sb7 _ _ h26 n2b;have h37:=sb7 _ _ h36 n3b;have lsz:(z++Ei "z" (21 - (z.cps.size:Int))).cps.size=21:=by
  rw[Kp,MK,lz1];omega
 have kv7:Kn H7 v/\lnB v=false/\∀y,v=.str y->y.cps.size<=1000:=by
  rcases kv with rfl | rfl | rfl | rfl | rfl
  ·exact⟨True.intro,rq,λy e=>by cases e⟩
  ·exact⟨True.intro,rq,λy e=>by cases e⟩
  ·exact⟨True.intro,rq,λy e=>by cases e⟩
  ·exact⟨.inl ⟨_,h27⟩,rq,λy e=>by cases e⟩
  ·exact⟨.inr ⟨_,h37⟩,rq,λy e=>by cases e⟩
 obtain⟨u,hu,k1,k2,k3⟩:=xq r30 r31 (λu=>Kn H7 u/\lnB u=false/\∀y,u=.str y->y.cps.size<=1000) (a:=.str "") (b:=.str (z++Ei "z" (21 - (z.cps.size:Int)))) (c:=.str (Txt.slice z none (some r1)++Str.ofString "\n"++Txt.slice z (some r1) none)) (d:=v)
  ⟨True.intro,by trivial,λy e=>by cases e;decide +kernel⟩
  ⟨True.intro,lnL (by omega),λy e=>by cases e;omega⟩
  ⟨True.intro,ln10 (by rw[Vj,Vj];exact QaB _ (Qau _ vd)),λy e=>by cases e;rw[Kp,Kp];omega⟩
  kv7
 refine⟨l6,_,_,_,rq,rq,SqL.of (sb7 _ _ h6 n6b),hu,?_⟩;exact q u H7 k1 k2 k3 hb7 (sb1.trans ((Ah.of s14).trans (sb5.trans ((Ah.of s6).trans sb7))))
end
abbrev Fe:Stmt:=top 35
abbrev Gi:YF:=["_law_circle","_law_way","_law_thing","_law_text_here"]
theorem KY:Ba ["_law_circle","_law_way","_law_thing","_law_text_here","_law_e"] Gi (Ae Fe):=by ac_rfl
abbrev DQ:Stmt:=top 36
abbrev Fw:YF:=["_law_bag_here","_law_circle","_law_many"]
theorem Eu:Ba ["_law_bag_here","_law_circle","_law_many","_law_text_here","_law_odd","_law_thing","_law_way"] Fw (Ae DQ):=by ac_rfl
def iM (way:Int) (v u:V) (n j:Nat):Prop:=(way=0/\wiB v 0 ((n:Int) - 1)=false/\j=8)\/(way=0/\wiB v 0 ((n:Int) - 1)=true/\lnB u=false/\j=1)\/(way=1/\wiB v 0 ((n:Int) - 1)=false/\j=9)\/(way=2/\wiB v 0 ((n:Int) - 1)=false/\j=9)\/(way=3/\wiB v 0 ((n:Int) - 1)=false/\j=8)
inductive KN (C:Addr) (vs:YG) (H:Hp) (Q:VK) (E:XK):Prop
 | mk (p L T:Addr) (as:List Addr) (n j:Nat) (way:Int) (v u:V) (logs:List (List En)) (tied:List Bool) (_:vs=[.ref p,.int way,v,u]) (_:RAt C H p L T as n logs tied) (_:Kn H v) (_:Kn H u) (_:(∀z,u=.str z->z.cps.size<=1000)) (_:iM way v u n j) (_:∀H',Same H H'->Q (.str (Wf j)) H'):KN C vs H Q E
inductive Ka (C:Addr) (vs:YG) (H:Hp) (Q:VK) (E:XK):Prop
 | mk (b p L T:Addr) (m:Nat) (as:List Addr) (n:Nat) (logs:List (List En)) (tied:List Bool) (_:vs=[.ref b,.ref p,.int n]) (_:BK H b m) (_:m<=7000) (_:RAt C H p L T as n logs tied) (_:∀H',Ah b H H'->(∃k,BK H' b k)->Q (.bl true) H'):Ka C vs H Q E
theorem V3 {v:V} {n q:Nat} (h:wiB v 0 ((n:Int) - 1)=false) (e:v=.int q) (hq:q < n):False:=by
 rw[e,JR hq] at h;cases h
section
variable {P:Program} {w:World} {K:YD} {mg:YB} {base:Heap} {C hc c0 c1 c2 c3 c4 c5 c6 c7 c8 c9 c10 c11 c12:Addr}
theorem VR (c:Code K mg "_law_refused" Fe Gi) (T:Tx K mg C) (XE:Er K mg hc c0 c1 c2 c3 c4 c5 c6 c7 c8 c9 c10 c11 c12) (Fz:Knd K hc c1 [c0,c1,c2,c3,c4,c5,c6,c7,c8,c9,c10,c11,c12] 1) (CN:Knd K hc c8 [c0,c1,c2,c3,c4,c5,c6,c7,c8,c9,c10,c11,c12] 8) (Dh:Knd K hc c9 [c0,c1,c2,c3,c4,c5,c6,c7,c8,c9,c10,c11,c12] 9)
  (Ld:Ce P w K mg base C "write" 4 Dd (JX C c1 c8)) (Pk:Ce P w K mg base C "cut" 4 El (IV C c9 false)) (M6:Ce P w K mg base C "mend" 4 Dz (IV C c9 true)) (Ga:Ce P w K mg base C "log_of" 4 Cq (IW C c8))
  (cJ:Qy P w K mg base "_law_kind" 1 Jf (QM K hc [c0,c1,c2,c3,c4,c5,c6,c7,c8,c9,c10,c11,c12])):Good P w K mg base "_law_refused" 6 Gi (KN C):=by
 refine c.good KY (λvs H Q E h=>?_) (λf cdv A outer s H vs Q E hr h=>?_)
 ·obtain⟨p,L,T,as,n,j,way,v,u,logs,tied,rfl,_⟩:=h;rfl
 obtain⟨p,L,TT,as,n,j,way,v,u,logs,tied,rfl,R,kv,ku,su,rc,q⟩:=h;refine⟨_,(Ad (ju (i:=4) KY.nd rfl rfl rfl rfl rfl XE.T9 XE.TF (λpn E1 EX hx=>(Ai (Ca (BJ Em (pv 1) Ag (Bt _)) (Ai (Cm (Ds (pv 0) T.cl Ld hr hx (Aa (pv 2) (Aa (pv 3) Ab))))) (Ai (Ca (BJ Em (pv 1) Ag (Bt _)) (Ai (Cm (Ds (pv 0) T.cl Pk hr hx (Aa (pv 2) Ab)))) (Ai (Ca (BJ Em (pv 1) Ag (Bt _)) (Ai (Cm (Ds (pv 0) T.cl M6 hr hx (Aa (pv 2) Ab)))) (Ai (Cm (Ds (pv 0) T.cl Ga hr hx (Aa (pv 2) Ab)))))))))))
 (λpn ea=>(Ai (Bc (jF cJ (hr.inH _) (Aa (pv 4) Ab))))))
 (Ai (Bc Bs))),?_⟩
 obtain⟨dx,ob⟩:=R.ob;refine⟨_,rq,rq,_,rq,?_⟩;rcases rc with⟨rfl,e1,rfl⟩|⟨rfl,e1,e2,rfl⟩|⟨rfl,e1,rfl⟩|⟨rfl,e1,rfl⟩|⟨rfl,e1,rfl⟩
 ·refine Bp ⟨_,rq,p,dx,_,rq,ob,Cr (by trivial),_,rq,_,rq,p,L,TT,as,n,v,u,logs,tied,rq,R,kv,ku,su,.inl ⟨e1,?_⟩⟩;refine⟨_,rq,CN.xc,CN.sub,λe he=>?_⟩;exact⟨_,rq,e,_,8,rq,Ac,CN,by decide,λHB sB=>q _ ((Af he _).trans sB)⟩
 ·refine Bp ⟨_,rq,p,dx,_,rq,ob,Cr (by trivial),_,rq,_,rq,p,L,TT,as,n,v,u,logs,tied,rq,R,kv,ku,su,.inr (.inl ⟨e1,e2,λH1 s1=>?_⟩)⟩;refine⟨_,rq,Fz.xc,Fz.sub,λe he=>?_⟩;exact⟨_,rq,e,_,1,rq,Ac,Fz,by decide,λHB sB=>q _ (s1.trans ((Af he _).trans sB))⟩
 ·refine Bk ⟨_,rq,rq,_,rq,Bp ⟨_,rq,p,dx,_,rq,ob,Cr (by trivial),_,rq,p,L,TT,as,n,v,logs,tied,rq,R,kv,(λq0 H' ev hq=>(V3 e1 ev hq).elim),λ_=>?_⟩⟩;refine⟨_,rq,Dh.xc,Dh.sub,λe he=>?_⟩;exact⟨_,rq,e,_,9,rq,Ac,Dh,by decide,λHB sB=>q _ ((Af he _).trans sB)⟩
 ·refine Bk ⟨_,rq,rq,_,rq,Bk ⟨_,rq,rq,_,rq,Bp ⟨_,rq,p,dx,_,rq,ob,Cr (by trivial),_,rq,p,L,TT,as,n,v,logs,tied,rq,R,kv,(λq0 H' ev hq=>(V3 e1 ev hq).elim),λ_=>?_⟩⟩⟩;refine⟨_,rq,Dh.xc,Dh.sub,λe he=>?_⟩;exact⟨_,rq,e,_,9,rq,Ac,Dh,by decide,λHB sB=>q _ ((Af he _).trans sB)⟩
 ·refine Bk ⟨_,rq,rq,_,rq,Bk ⟨_,rq,rq,_,rq,Bk ⟨_,rq,p,dx,_,rq,ob,Cr (by trivial),_,rq,p,L,TT,as,n,v,logs,tied,rq,R,kv,(λq0 g0 l0 H' ev hg=>(V3 e1 ev (by rw[<-R.ln];exact (Qah.mp hg).1)).elim),λ_=>?_⟩⟩⟩;refine⟨_,rq,CN.xc,CN.sub,λe he=>?_⟩;exact⟨_,rq,e,_,8,rq,Ac,CN,by decide,λHB sB=>q _ ((Af he _).trans sB)⟩
end
theorem Kn.bag {H H':Hp} {b:Addr} {m:Nat} {v:V} (h:Kn H v) (s:Ah b H H') (hb:BK H' b m):Kn H' v:=by
 cases v with
 | ref a=>
  by_cases c:a=b
  ·obtain⟨x,y,t,e,_⟩:=hb;exact .inl ⟨_,by rw[c];exact e⟩
  ·rcases h with⟨xs,e⟩|⟨xs,e⟩
   ·exact .inl ⟨xs,s _ _ e c⟩
   ·exact .inr ⟨xs,s _ _ e c⟩
 | _=>exact h
theorem RAt.dB {C:Addr} {H H':Hp} {p L T:Addr} {as:List Addr} {n m:Nat} {logs:List (List En)} {tied:List Bool} {b:Addr} (h:RAt C H p L T as n logs tied) (hb:BK H b m) (s:Ah b H H'):RAt C H' p L T as n logs tied:=
 let k:=h.bag hb
 h.Bd s hb.Ph k.1 k.2.1 k.2.2.1 k.2.2.2
section
variable {P:Program} {w:World} {K:YD} {mg:YB} {base:Heap} {C:Addr}
theorem T6 (c:Code K mg "_law_refusals" DQ Fw) (T:Nm mg) (Bb:Good P w K mg base "_law_take" 1 Dc DN) (M8:Good P w K mg base "_law_text" 2 Hi Np) (Uh:Good P w K mg base "_law_no_text" 2 Gj Mw) (Ql:Good P w K mg base "_law_none_such" 2 EY QL) (Hr:Good P w K mg base "_law_refused" 6 Gi (KN C)):Good P w K mg base "_law_refusals" 7 Fw (Ka C):=by
 refine c.good Eu (λvs H Q E h=>?_) (λf cdv A outer s H vs Q E hr h=>?_)
 ·obtain⟨b,p,L,T,m,as,n,logs,tied,rfl,_⟩:=h;rfl
 obtain⟨b,p,L,TT,m,as,n,logs,tied,rfl,hb,hm,R,q⟩:=h;refine⟨_,(Ad (Aw (i:=3) Eu.nd rfl (Or.inl rfl) (JF M8 hr (Aa (pv 0) Ab)))
 (Ad (Aw (i:=4) Eu.nd rfl (Or.inl rfl) (Bl Uh hr (Aa (pv 0) (Aa (pv 3) Ab))))
 (Ad (Aw (i:=5) Eu.nd rfl (Or.inl rfl) (Bl Ql hr (Aa (pv 0) (Aa (pv 2) Ab))))
 (Ad (Aw (i:=6) Eu.nd rfl (Or.inl rfl) (Bl Bb hr (Aa (pv 0) (Aa Ag Ab))))
 (Ad (Ca (BJ VL (pv 6) Ag (Bt _)) (Ai (Bc (CW Em (K9 Hr hr (Aa (pv 1) (Aa Ag (Aa (Bl Bb hr (Aa (pv 0) (Aa (pv 2) Ab))) (Aa (pv 4) Ab))))) Bs (Bt _)))) Bv)
 (Ad (Ca (BJ Em (pv 6) Ag (Bt _)) (Ai (Bc (CW Em (K9 Hr hr (Aa (pv 1) (Aa Ag (Aa (pv 5) (Aa (Bw Bu (BL (Aa (pv 3) (Aa (pv 4) Ab))) (Bl Bb hr (Aa (pv 0) (Aa Ag Ab))) (λ_ _=>rfl)) Ab))))) Bs (Bt _)))) Bv)
 (Ad (Ca (BJ Em (pv 6) Ag (Bt _)) (Ai (Bc (CW Em (K9 Hr hr (Aa (pv 1) (Aa Ag (Aa (pv 5) (Aa (pv 3) Ab))))) Bs (Bt _)))) Bv)
 (Ai (Bc (CW Em (K9 Hr hr (Aa (pv 1) (Aa (Ao N6 (pv 6) Ag) (Aa (pv 5) (Aa (pv 3) Ab))))) Bs (Bt _))))))))))),?_⟩
 show let R0:TS:=_;let R1:TS:=_;let R2:TS:=Aj (Ib _ R1 _) R0;let R3:TS:=_;let R4:TS:=Aj (Ib _ R3 _) R2;let R5:TS:=_;let R6:TS:=Aj (Ib _ R5 _) R4;let R7:TS:=Aj _ R6;let R8:TS:=Aj _ R7;let R9:TS:=Aj _ R8;Aj _ R9 _ _ _;intro R0 R1 R2 R3 R4 R5 R6 R7 R8 R9;have n2:=R.n2;have n4:=R.n4;refine⟨_,rq,b,m,rq,hb,by omega,λz H1 hz hb1 sb1=>Bg ?_⟩;refine⟨_,rq,_,rq,b,m+6,z,rq,hb1,by omega,hz,λu H2 ku lu su hb2 sb2=>Bg ?_⟩;refine⟨_,rq,_,rq,b,_,n,rq,hb2,by omega,n2,n4,λv H3 kv wv hb3 sb3=>Bg ?_⟩;refine⟨_,rq,b,_,6,rq,hb3,by omega,by decide,by decide,λr H4 r0 r1 hb4 sb4=>Bg ?_⟩;have ku3:=Kn.bag ku sb3 hb3;have ku4:=Kn.bag ku3 sb4 hb4;have kv4:=Kn.bag kv sb4 hb4;have Vz:=(sb1.trans sb2).trans (sb3.trans sb4);have R4:=R.dB hb Vz;have z20:=hz.l2;have nb4:∀{H5:Hp},Same H4 H5->Ah b H H5:=λs=>Vz.trans (Ah.of s);have sz:∀y:Str,V.str z=.str y->y.cps.size<=1000:=λy e=>by cases e;omega
 refine⟨_,rq,_,_,rq,rq,_,rq,?_⟩;by_cases c1:r < 2
 ·rw[QbH c1];refine Bp ⟨_,rq,_,rq,_,rq,b,_,n,rq,hb4,by omega,by omega,by omega,λr2 H5 r20 r21 hb5 sb5=>?_⟩;obtain⟨k,rfl⟩ : ∃k:Nat,r2=(k:Int):=⟨r2.toNat,by omega⟩;refine⟨_,rq,p,L,TT,as,n,1,0,.int k,u,logs,tied,rq,R4.dB hb4 sb5,True.intro,Kn.bag ku4 sb5 hb5,su,.inr (.inl ⟨rq,JR (by omega),lu,rq⟩),λH6 s6=>?_⟩;refine⟨rq,?_⟩;exact q H6 (Vz.trans (sb5.trans (Ah.of s6))) ⟨_,hb5.same s6⟩
 rw[Qbv c1];refine Bk ⟨_,rq,rq,_,rq,?_⟩;by_cases c2:r=2
 ·subst c2;refine Bp ⟨_,rq,_,rq,_,rq,_,rq,Ar (by show 2<=1000;decide),λl5 hl5=>?_⟩;have s5:=Af hl5 (.lst [.str z,u]);have h5:(upd H4 l5 (.lst [.str z,u])) l5=some (.lst [.str z,u]):=Ac;have hb5:=hb4.same s5;have n5b:l5≠b:=λz'=>by
   obtain⟨o,e1⟩:=hb4.ex;rw[<-z',hl5] at e1;cases e1
  show tC2 DN (Ox 0) (tC (V.int 2)) _ (upd H4 l5 (.lst [.str z,u])) _;generalize upd H4 l5 (.lst [.str z,u])=H5 at *;refine⟨_,rq,b,_,2,rq,hb5,by omega,by decide,by decide,λr2 H6 r20 r21 hb6 sb6=>?_⟩;have kv6:=Kn.bag (kv4.same s5) sb6 hb6;have ku6:=Kn.bag (ku4.same s5) sb6 hb6;have R6:=(R4.same s5).dB hb5 sb6;have qp:=(Ah.of (b:=b) s5).trans sb6;obtain⟨x,hx,k1,k2⟩ : ∃x,atI [.str z,u] r2=some x/\Kn H6 x/\∀y,x=.str y->y.cps.size<=1000:=by
   have:r2=0\/r2=1:=by omega
   rcases this with rfl | rfl
   ·exact⟨_,rq,True.intro,sz⟩
   ·exact⟨_,rq,ku6,su⟩
  refine⟨l5,_,_,_,rq,rq,SqL.of (sb6 _ _ h5 n5b),hx,p,L,TT,as,n,8,0,v,x,logs,tied,rq,R6,kv6,k1,k2,.inl ⟨rq,wv,rq⟩,λH7 s7=>?_⟩;exact⟨rq,q H7 (Vz.trans (qp.trans (Ah.of s7))) ⟨_,hb6.same s7⟩⟩
 rw[Qbv (λz=>c2 (V.int.inj z))];refine Bk ⟨_,rq,rq,_,rq,?_⟩;by_cases c3:r=3
 ·subst c3;refine Bp ⟨_,rq,_,rq,_,rq,p,L,TT,as,n,8,3,v,.str z,logs,tied,rq,R4,kv4,True.intro,sz,.inr (.inr (.inr (.inr ⟨rq,wv,rq⟩))),λH6 s6=>?_⟩;exact⟨rq,q H6 (nb4 s6) ⟨_,hb4.same s6⟩⟩
 rw[Qbv (λz=>c3 (V.int.inj z))];refine Bk ⟨_,rq,_,rq,_,_,rq,rq,_,rq,_,rq,p,L,TT,as,n,9,r - 3,v,.str z,logs,tied,rq,R4,kv4,True.intro,sz,?_,λH6 s6=>?_⟩
 ·by_cases c4:r=4
  ·exact .inr (.inr (.inl ⟨by omega,wv,rq⟩))
  ·exact .inr (.inr (.inr (.inl ⟨by omega,wv,rq⟩)))
 exact⟨rq,q H6 (nb4 s6) ⟨_,hb4.same s6⟩⟩
end
abbrev G9:Stmt:=top 40
abbrev Jg:YF:=["_law_bag_here","_law_circle","_law_logs","_law_links","_law_entries"]
theorem Gz:Ba ["_law_bag_here","_law_circle","_law_logs","_law_links","_law_entries","_law_way","_law_link","_law_now","_law_panel","_law_log"] Jg (Ae G9):=by ac_rfl
theorem RAt.lna {C:Addr} {H:Hp} {p L T:Addr} {as:List Addr} {n:Nat} {logs:List (List En)} {tied:List Bool} (h:RAt C H p L T as n logs tied):L∉as:=λz=>by
 obtain⟨g,vs,hv,pv⟩:=Dg h.lg z;have al:=h.al;have n2:=h.n2;have lg:=h.lg;rw[h.hl] at hv;cases hv
 match as,al with
 | [],al=>simp at al;omega
 | a::r,_=>
  cases pv with
  | cons q _=>
   obtain⟨t,e,ht⟩:=q;cases e;cases lg with
   | cons y _=>
    obtain⟨vs,e,_⟩:=y;rw[ht] at e;cases e
theorem LS.put {C:Addr} {H H3 H4:Hp} {p L T lg en lk:Addr} {as bs:List Addr} {n:Nat} {logs:List (List En)} {tied td:List Bool} {W:List En} (S:LS C H p L T lg en lk as bs n logs tied W) (s3:Ah lk H H3) (h3:H3 lk=some (.lst (td.map V.bl))) :
  RAt C H3 p L T as n logs tied/\(RAt C H4 p L T as n logs td->Ah T H3 H4->LS C H4 p L T lg en lk as bs n logs td W):=by
 obtain⟨ne1,ne2,ne3,ne4,ne5⟩:=S.ne;have m3:T∈[p,L,T,lg,en,lk]:=.tail _ (.tail _ (.head _));have m6:lk∈[p,L,T,lg,en,lk]:=.tail _ (.tail _ (.tail _ (.tail _ (.tail _ (.head _)))));have kt:∀xs,H lk≠some (.tup xs):=λxs z=>by rw[S.hk] at z;cases z
 have R3:=S.R.Bd s3 kt ne1.2.2.2.2 ne2.2.2.2 ne3.2.2 (λz=>S.ap lk (QaB _ z) m6);have tt:∀xs,H3 T≠some (.tup xs):=λxs z=>by rw[R3.ht] at z;cases z
 refine⟨R3,λR4 s4=>⟨R4,S.ri,s4 _ _ (s3 _ _ S.hl ne4.2) ne3.1.symm,?_,?_,s4 _ _ h3 ne3.2.2.symm,S.nd,S.ap⟩⟩
 ·exact Logs.Bd s4 tt (Logs.Bd s3 kt S.lb λz=>S.ap lk (Qau _ z) m6) λz=>S.ap T (Qau _ z) m3
 ·exact (S.hw.Bd s3 kt ne5).Bd s4 tt ne3.2.1.symm
def FrL (b p L L' T lg en lk:Addr) (H H':Hp):Prop:=∀c o,H c=some o->c≠b->c∉[p,L,T,lg,en,lk]->H' c=some o/\c∉[p,L',T,lg,en,lk]
inductive QT (C:Addr) (vs:YG) (H:Hp) (Q:VK) (E:XK):Prop
 | mk (b p L T lg en lk:Addr) (m:Nat) (as bs:List Addr) (n:Nat) (logs:List (List En)) (tied:List Bool) (W:List En) (_:vs=[.ref b,.ref p,.ref lg,.ref lk,.ref en]) (_:BK H b m) (_:m<=6000) (_:LS C H p L T lg en lk as bs n logs tied W) (_:W.length < 63) (_:∀(H':Hp) (L':Addr) (as' bs':List Addr) (BR:List (List En)) (JV:List Bool) (W':List En),LS C H' p L' T lg en lk as' bs' n BR JV W'->W'.length<=W.length+1->(∀x∈as'++bs',x∈as++bs\/H x=none)->FrL b p L L' T lg en lk H H'->Q (.bl true) H'):QT C vs H Q E
section
variable {P:Program} {w:World} {K:YD} {mg:YB} {base:Heap} {C c1 c8 c9:Addr}
theorem gO (c:Code K mg "_law_deed" G9 Jg) (T:Tx K mg C) (Bb:Good P w K mg base "_law_take" 1 Dc DN) (Ug:Good P w K mg base "_law_written" 5 Gh (KH C)) (RT:Good P w K mg base "_law_refusals" 7 Fw (Ka C)) (cO:Good P w K mg base "_law_beat" 1 Jh OJ) (Pk:Ce P w K mg base C "cut" 4 El (IV C c9 false)) (M6:Ce P w K mg base C "mend" 4 Dz (IV C c9 true)) (M7:Gp P w K mg base C "beat" 2 DG (Nr C)):Good P w K mg base "_law_deed" 8 Jg (QT C):=by
 refine c.good Gz (λvs H Q E h=>?_) (λf cdv A outer s H vs Q E hr h=>?_)
 ·obtain⟨b,p,L,T,lg,en,lk,m,as,bs,n,logs,tied,W,rfl,_⟩:=h;rfl
 obtain⟨b,p,L,TT,lg,en,lk,m,as,bs,n,logs,tied,W,rfl,hb,hm,S,few,q⟩:=h;refine⟨_,(Ad (Aw (i:=5) Gz.nd rfl (Or.inl rfl) (Bl Bb hr (Aa (pv 0) (Aa Ag Ab))))
 (Ad (Aw (i:=6) Gz.nd rfl (Or.inl rfl) (Bl Bb hr (Aa (pv 0) (Aa (Ak Ck rfl T.len Fd (Aa (pv 3) Ab)) Ab))))
 (Ad (Ca (BJ VL (pv 5) Ag (Bt _)) (Ai (Bc (K9 Ug hr (Aa (pv 0) (Aa (pv 1) (Aa (pv 2) (Aa (pv 4) Ab))))))) Bv)
 (Ad (Ca (BJ Em (pv 5) Ag (Bt _)) (Ai (Bc (NT RT hr (Aa (pv 0) (Aa (pv 1) (Aa (Ak Ck rfl T.len Fd (Aa (pv 2) Ab)) Ab)))))) Bv)
 (Ad (Ca (BJ Em (pv 5) Ag (Bt _)) (Ad (Ew Cj (Fv (pv 3) (pv 6) set_list))
 (Ai (Bc (CW Rk (Ds (pv 1) T.cl Pk hr JG (Aa (pv 6) Ab)) K6 (Bt _))))) Bv)
 (Ad (Ca (BJ Em (pv 5) Ag (Bt _)) (Ad (Ew Cj (Fv (pv 3) (pv 6) set_list))
 (Ai (Bc (CW Rk (Ds (pv 1) T.cl M6 hr JG (Aa (pv 6) Ab)) K6 (Bt _))))) Bv)
 (Ad (Aw (i:=7) Gz.nd rfl (Or.inl rfl) (Bl cO hr (Aa (pv 2) (Aa (pv 3) Ab))))
 (Ad (Gf QbA rfl (K3 rfl T.enumerate (pv 7)) (JC rfl (Cd (Ay (i:=8) Gz.nd rfl (Or.inl rfl)) (Cd (Ay (i:=9) Gz.nd rfl (Or.inl rfl)) Hh)))
 (Ai (Ew (pv 9) (Fv (pv 2) (pv 8) set_list))))
 (Ai (Bc (CW Rk (NQ (pv 1) T.cl M7 hr) K6 (Bt _)))))))))))),?_⟩
 show let R0:TS:=_;let R1:TS:=Aj _ R0;let R2:TS:=Aj _ R1;let R3:TS:=_;let R4:TS:=Aj _ R3;let R5:TS:=Aj (Ib _ R4 _) R2;let R6:TS:=_;let R7:TS:=Aj _ R6;let R8:TS:=Aj (Ib _ R7 _) R5;let R9:TS:=_;let R10:TS:=Aj (Ib _ R9 _) R8;let R11:TS:=_;let R12:TS:=Aj (Ib _ R11 _) R10;let R13:TS:=Aj _ R12;Aj _ R13 _ _ _;intro R0 R1 R2 R3 R4 R5 R6 R7 R8 R9 R10 R11 R12 R13;have n2:=S.R.n2;have n4:=S.R.n4;have ln:=S.R.ln;have tn:=S.R.tn;have bl:bs.length=n:=(QbL S.lb).trans ln;refine⟨_,rq,b,m,9,rq,hb,by omega,by decide,by decide,λr H1 r0 r1 hb1 sb1=>Bg ?_⟩;have S1:=S.bag hb sb1;refine⟨_,rq,_,rq,lk,_,rq,.inl (SqL.of S1.hk),?_⟩;rw[Qbt,tn];refine⟨b,m+1,n,rq,hb1,by omega,by omega,by omega,λr2 H2 r20 r21 hb2 sb2=>?_⟩;have S2:=S1.bag hb1 sb2;obtain⟨k,rfl⟩ : ∃k:Nat,r2=(k:Int):=⟨r2.toNat,by omega⟩;have hk:k < n:=by omega
 refine Bg ⟨_,rq,_,_,rq,rq,_,rq,?_⟩;have Q0:=sb1.trans sb2;have fr2:∀x,H2 x=none->H x=none:=λx hx=>sb1.free hb1.ex (sb2.free hb2.ex hx);obtain⟨dx,ob⟩:=S2.R.ob;have m3:TT∈[p,L,TT,lg,en,lk]:=.tail _ (.tail _ (.head _));have m4:lg∈[p,L,TT,lg,en,lk]:=.tail _ (.tail _ (.tail _ (.head _)));have m6:lk∈[p,L,TT,lg,en,lk]:=.tail _ (.tail _ (.tail _ (.tail _ (.tail _ (.head _)))));by_cases w4:r < 4
 ·rw[QbH w4];refine Bp ⟨_,rq,_,rq,_,rq,_,rq,b,p,L,TT,lg,en,lk,m+1+1,as,bs,n,logs,tied,W,rq,hb2,by omega,S2,few,λH' as' bs' BR W' S' l' fa' fr'=>?_⟩;exact q H' L as' bs' BR tied W' S' (by omega) (λx hx=>(fa' x hx).imp id (fr2 x)) (λc o hc nb nM=>⟨fr' c o (Q0 _ _ hc nb) nb nM,nM⟩)
 rw[Qbv w4];refine Bk ⟨_,rq,rq,_,rq,?_⟩;by_cases w5:r=4
 ·subst w5;refine Bp ⟨_,rq,_,rq,_,rq,lg,_,rq,.inl (SqL.of S2.hl),?_⟩;rw[Qbt,bl];refine⟨b,p,L,TT,m+1+1,as,n,logs,tied,rq,hb2,by omega,S2.R,λH' sb' _=>?_⟩;exact q H' L as bs logs tied W (S2.bag hb2 sb') (by omega) (λx hx=>.inl hx) (λc o hc nb nM=>⟨sb' _ _ (Q0 _ _ hc nb) nb,nM⟩)
 rw[Qbv (λz=>w5 (V.int.inj z))];refine Bk ⟨_,rq,rq,_,rq,?_⟩;by_cases w6:r=5
 ·subst w6;refine Bp ⟨_,rq,_,rq,lk,_,_,k,rq,rq,S2.hk,ixn (by rw[Qbt,tn];exact hk),?_⟩;have s3:Ah lk H2 (upd H2 lk (.lst ((tied.map V.bl).set k (.bl false)))):=Ah.upd;have h3:(upd H2 lk (.lst ((tied.map V.bl).set k (.bl false)))) lk=some (.lst ((tied.set k false).map V.bl)):=by rw[Ac,QbX]
  generalize upd H2 lk (.lst ((tied.map V.bl).set k (.bl false)))=H3 at *;obtain⟨R3,_⟩:=S2.put (H4:=H3) s3 h3;obtain⟨dx,ob⟩:=R3.ob;refine⟨_,rq,p,dx,_,rq,ob,Cr (by trivial),_,rq,p,L,TT,as,n,.int k,logs,tied,rq,R3,True.intro,(λq0 H4 e0 hq0 R4 s4=>?_),λe=>(by rw[JR hk] at e;cases e)⟩;have:q0=k:=by have:=V.int.inj e0;omega
  subst this;refine⟨rq,?_⟩;exact q H4 L as bs logs _ W ((S2.put s3 h3).2 R4 s4) (by omega) (λx hx=>.inl hx) (λc o hc nb nM=>⟨s4 _ _ (s3 _ _ (Q0 _ _ hc nb) λz=>nM (z ▸ m6)) λz=>nM (z ▸ m3),nM⟩)
 rw[Qbv (λz=>w6 (V.int.inj z))];refine Bk ⟨_,rq,rq,_,rq,?_⟩;by_cases w7:r=6
 ·subst w7;refine Bp ⟨_,rq,_,rq,lk,_,_,k,rq,rq,S2.hk,ixn (by rw[Qbt,tn];exact hk),?_⟩;have s3:Ah lk H2 (upd H2 lk (.lst ((tied.map V.bl).set k (.bl true)))):=Ah.upd;have h3:(upd H2 lk (.lst ((tied.map V.bl).set k (.bl true)))) lk=some (.lst ((tied.set k true).map V.bl)):=by rw[Ac,QbX]
  generalize upd H2 lk (.lst ((tied.map V.bl).set k (.bl true)))=H3 at *;obtain⟨R3,_⟩:=S2.put (H4:=H3) s3 h3;obtain⟨dx,ob⟩:=R3.ob;refine⟨_,rq,p,dx,_,rq,ob,Cr (by trivial),_,rq,p,L,TT,as,n,.int k,logs,tied,rq,R3,True.intro,(λq0 H4 e0 hq0 R4 s4=>?_),λe=>(by rw[JR hk] at e;cases e)⟩;have:q0=k:=by have:=V.int.inj e0;omega
  subst this;refine⟨rq,?_⟩;exact q H4 L as bs logs _ W ((S2.put s3 h3).2 R4 s4) (by omega) (λx hx=>.inl hx) (λc o hc nb nM=>⟨s4 _ _ (s3 _ _ (Q0 _ _ hc nb) λz=>nM (z ▸ m6)) λz=>nM (z ▸ m3),nM⟩)
 rw[Qbv (λz=>w7 (V.int.inj z))];refine Bk ⟨_,rq,_,rq,lg,lk,bs,n,logs,tied,W,rq,S2.hl,S2.lb,S2.hk,ln,tn,n2,n4,S.ri.w,S.ri.sub,(λg hg=>by have:=(S.ri.up g hg).few S.ri.w (S.ri.sub g hg);omega),λl bs' H3 BR fl fb nl hl3 lb3 ln3 ch3 s3=>Bg ?_⟩;have S3:=S2.same s3;have bl':bs'.length=n:=(QbL lb3).trans ln3;have lgl:lg≠l:=λz=>by have:=S2.hl;rw[z,fl] at this;cases this
 have lgb:lg∉bs':=λz=>by have:=fb _ z;rw[S2.hl] at this;cases this
 have gt3:∀xs,H3 lg≠some (.tup xs):=λxs z=>by rw[S3.hl] at z;cases z
 refine⟨_,rq,l,rq,⟨_,SqL.of hl3⟩,?_⟩;let J0:YN:=λ(i:Nat) (Z : St) (HH:Hp)=>∃u1 u2,Z=[js b,js p,js lg,js lk,js en,some (.int r),some (.int k),js l,u1,u2]/\HH lg=some (.lst ((bs'.take i++bs.drop i).map V.ref))/\Ah lg H3 HH;refine PN (xs:=bs'.map V.ref) J0 ⟨_,_,rq,S3.hl,Ah.refl _ _⟩ (λi Z HH _ h=>?_) (λi x t Z HH hx h ht=>?_) (fun Z HH h=>?_)
 ·obtain⟨u1,u2,rfl,g1,g2⟩:=h;exact SqL.of (g2 _ _ hl3 lgl.symm)
 ·obtain⟨u1,u2,rfl,g1,g2⟩:=h;obtain⟨a,ha,rfl⟩ : ∃a,bs'[i]?=some a/\x=.ref a:=by
   rw[Qba] at hx;cases h0:bs'[i]? with
   | none=>rw[h0] at hx;cases hx
   | some a=>rw[h0] at hx;exact⟨a,rfl,(Qbx hx).symm⟩
  have hi:i < n:=by rw[<-bl'];exact (Qah.mp ha).1
  have s4:=Af ht (.tup [.int ((0+i:Nat):Int),.ref a]);have h4:(upd HH t (.tup [.int ((0+i:Nat):Int),.ref a])) t=some (.tup [.int ((0+i:Nat):Int),.ref a]):=Ac;generalize upd HH t (.tup [.int ((0+i:Nat):Int),.ref a])=H4 at *;rw[Nat.zero_add] at h4;have ll:((bs'.take i++bs.drop i).map V.ref).length=n:=by
   rw[Qbt,QaN,Qbk,List.length_drop];omega
  refine⟨t,_,rq,SqT.of h4,rq,_,_,rq,_,_,rq,rq,_,rq,_,rq,_,rq,lg,_,_,i,rq,rq,s4 _ _ g1,ixn (by rw[ll];exact hi),?_⟩;refine⟨_,_,rq,?_,g2.trans ((Ah.of s4).trans Ah.upd)⟩;rw[Ac,<-QbX];congr 3;rw[Qce ha,List.set_append_right (h:=by rw[Qbk];omega),Qbk,Nat.min_eq_left (by omega),Nat.sub_self,List.append_assoc];congr 1;rw[List.drop_eq_getElem_cons (i:=i) (by omega)];rfl
 obtain⟨u1,u2,rfl,g1,s4⟩:=h;rw[Qbt,Qbj,bl',<-bl,List.drop_length,Qby] at g1;obtain⟨ne1,ne2,ne3,ne4,ne5⟩:=S.ne;have R4:=S3.R.Bd s4 gt3 ne1.2.2.1 ne2.2.1 ne3.1 (λz=>S.ap lg (QaB _ z) m4);obtain⟨dx4,ob4⟩:=R4.ob;refine⟨_,rq,p,dx4,_,rq,ob4,Cr (by trivial),p,L,TT,as,n,logs,tied,W,rq,R4,S.ri.w,S.ri.sub,S.ri.up,λL' as' H5 Qu fL fas R5 ch5 s5=>?_⟩;have el:Qu=BR:=by
  refine List.ext_getElem? λi=>?_;by_cases ci:i < n
  ·have a1:=at_getD (l:=Qu) [] (i:=i) (by rw[R5.ln];exact ci);have a2:=at_getD (l:=BR) [] (i:=i) (by rw[ln3];exact ci);obtain⟨b1,b2⟩:=ch5 _ _ a1;obtain⟨c1,c2⟩:=ch3 _ _ a2;rw[a1,a2,Xa b1 c1 λe=>(b2 e).trans (c2 e).symm]
  ·rw[Qay (by rw[R5.ln];omega),Qay (by omega)]
 subst el;have lb4:=Logs.Bd s4 gt3 lb3 lgb;have hw4:=S3.hw.Bd s4 gt3 ne4.1.symm;have hk4:=s4 _ _ S3.hk ne4.2.symm;have pt:=R4.pt;have nn:∀{x:Addr} {o:HO},HH x=some o->x≠L':=λh z=>by rw[z,fL] at h;cases h
 have pb:∀x∈bs',x∉[p,TT,lg,en,lk]:=λx hx m=>by
  refine S2.ex x ?_ (fb x hx);simp only[QbK,Qbi,Qcf] at m ⊢;rcases m with h | h | h | h | h <;> simp[h]
 obtain⟨ow,ew⟩:=hw4.ex;have SF:LS C H5 p L' TT lg en lk as' bs' n Qu tied W:=by
  refine⟨R5,S.ri.beat ln3 ch3,s5 _ _ g1 ne1.2.2.1.symm,Logs.Bd s5 pt lb4 (λz=>pb p z (.head _)),hw4.Bd s5 pt ne1.2.2.2.1.symm,s5 _ _ hk4 ne1.2.2.2.2.symm,?_,λx hx=>?_⟩
  ·have hp:=nn ob4;have hT:=nn R4.ht;have hlg:=nn g1;have hen:=nn ew;have hlk:=nn hk4;simp only[QbB,QbK,Qbi,Qcf,not_or,List.nodup_nil,and_true,not_false_eq_true];exact⟨⟨hp,ne1.2.1,ne1.2.2.1,ne1.2.2.2.1,ne1.2.2.2.2⟩,⟨hT.symm,hlg.symm,hen.symm,hlk.symm⟩,⟨ne3.1,ne3.2.1,ne3.2.2⟩,⟨ne4.1,ne4.2⟩,ne5⟩
  ·have key:x∉[p,TT,lg,en,lk]/\x≠L':=by
    rcases Qbu.mp hx with h | h
    ·refine⟨λm=>?_,λz=>R5.lna (z ▸ h)⟩;rcases fas x h with h' | h'
     ·refine S.ap x (QaB _ h') ?_;simp only[QbK,Qbi,Qcf] at m ⊢;rcases m with h | h | h | h | h <;> simp[h]
     ·simp only[QbK,Qbi,Qcf] at m;rcases m with rfl | rfl | rfl | rfl | rfl
      ·rw[ob4] at h';cases h'
      ·rw[R4.ht] at h';cases h'
      ·rw[g1] at h';cases h'
      ·rw[ew] at h';cases h'
      ·rw[hk4] at h';cases h'
    ·obtain⟨g,_,e,_⟩:=Dg lb4 h;exact⟨pb x h,nn e⟩
   obtain⟨k1,k2⟩:=key;simp only[QbK,Qbi,Qcf,not_or] at k1 ⊢;exact⟨k1.1,k2,k1.2⟩
 refine⟨rq,q H5 L' as' bs' Qu tied W SF (by omega) (λx hx=>?_) λc o hc nb nM=>?_⟩
 ·rcases Qbu.mp hx with h | h
  ·exact (fas x h).imp (QaB _) λz=>fr2 x (s3.free (s4.free ⟨_,g1⟩ z))
  ·exact .inr (fr2 x (fb x h))
 have c4:=s4 _ _ (s3 _ _ (Q0 _ _ hc nb)) (λz=>nM (z ▸ m4));refine⟨s5 _ _ c4 λz=>nM (z ▸ .head _),?_⟩;have:=nn c4;simp only[QbK,Qbi,Qcf,not_or] at nM ⊢;exact⟨nM.1,this,nM.2.2⟩
end
abbrev Il:Stmt:=top 41
abbrev eG:YF:=["_law_script"]
theorem Et:Ba ["_law_script","_law_many","_law_circle","_law_logs","_law_links","_law_entries","_law_another","_law_held","_law_k","_law_bag_here","_law_asked","_law_told"] eG (Ae Il):=by ac_rfl
theorem Zq (n:Nat):(List.replicate n [V.bl true]).flatten=(List.replicate n true).map V.bl:=by
 induction n with
 | zero=>rfl
 | succ n ih=>rw[QaI,Qbg,ih,QaI];rfl
theorem RI.start {n:Nat} (n4:n<=4):RI n (List.replicate n []) []:=by
 have g0:∀g∈List.replicate n ([]:List En),g=[]:=λg hg=>(List.mem_replicate.mp hg).2;exact⟨⟨by decide,(λe h=>by cases h),(λe h=>by cases h),(λe h=>by cases h),(λe h=>by cases h),(λe h=>by cases h),(λe h=>by cases h)⟩,Qav,(λg hg=>by rw[g0 g hg];exact List.Pairwise.nil),(λg hg e he=>by rw[g0 g hg] at he;cases he),(λg hg e he=>by rw[g0 g hg] at he;cases he),(λq e h=>by cases h),(λe h=>by cases h),(λe h=>by cases h),List.Pairwise.nil,(λq i e h=>by cases h),(λe h=>by cases h)⟩
def Keep (M N:List Addr) (H H':Hp):Prop:=∀c o,H c=some o->c∉M->H' c=some o/\c∉N
def NoT (M:List Addr) (H:Hp):Prop:=∀m∈M,∀xs,H m≠some (.tup xs)
def Out (M:List Addr) (H:Hp) (x:Addr) (g:List En):Prop:=Bf H x g/\x∉M
section
variable {M N:List Addr} {H H':Hp}
theorem Keep.tups (k:Keep M N H H') (t:NoT M H):Bq H H':=λc o e=>(k c _ e λz=>t c z _ e).1
theorem Keep.of (s:Same H H'):Keep M M H H':=λc o e n=>⟨s _ _ e,n⟩
theorem Out.keep {x:Addr} {g:List En} (h:Out M H x g) (k:Keep M N H H') (t:NoT M H):Out N H' x g:=by
 obtain⟨⟨vs,e,p⟩,n⟩:=h;obtain⟨e',n'⟩:=k _ _ e n;exact⟨⟨vs,e',Ens.tups (k.tups t) p⟩,n'⟩
def Told (M:List Addr) (H:Hp) (v:V):Prop:=∃t x y g,v=.ref t/\H t=some (.tup [.ref x,.ref y])/\Out M H x g/\Out M H y g/\∀e∈g,PyData.strOk e.tx=true
theorem Told.keep {v:V} (h:Told M H v) (k:Keep M N H H') (t:NoT M H):Told N H' v:=by
 obtain⟨a,x,y,g,e,h1,h2,h3,h4⟩:=h;exact⟨a,x,y,g,e,k.tups t _ _ h1,h2.keep k t,h3.keep k t,h4⟩
structure Oth (C:Addr) (M:List Addr) (H:Hp) (p L T:Addr) (as:List Addr) (n:Nat):Prop where
 R:RAt C H p L T as n (List.replicate n []) (List.replicate n true)
 np:p∉M
 nL:L∉M
 nT:T∉M
 na:∀a∈as,a∉M
theorem X6 {as:List Addr} {gs:List (List En)} (h:Paired (Bf H) as gs) (n:∀a∈as,a∉M) (k:Keep M N H H') (t:NoT M H):Paired (Bf H') as gs/\∀a∈as,a∉N:=by
 induction h with
 | nil=>exact⟨.nil,λa ha=>by cases ha⟩
 | cons a r ih=>
  obtain⟨h1,h2⟩:=ih λa ha=>n a (.tail _ ha);obtain⟨h3,h4⟩:=Out.keep ⟨a,n _ (.head _)⟩ k t;exact⟨.cons h3 h1,λa ha=>by rcases QbK.mp ha with rfl | ha;exact h4;exact h2 a ha⟩
theorem Oth.keep {C p L T:Addr} {as:List Addr} {n:Nat} (h:Oth C M H p L T as n) (k:Keep M N H H') (t:NoT M H):Oth C N H' p L T as n:=by
 obtain⟨dx,ob⟩:=h.R.ob;obtain⟨o1,o2⟩:=k _ _ ob h.np;obtain⟨l1,l2⟩:=k _ _ h.R.hl h.nL;obtain⟨t1,t2⟩:=k _ _ h.R.ht h.nT;obtain⟨a1,a2⟩:=X6 h.R.lg h.na k t;exact⟨⟨⟨dx,o1⟩,l1,a1,t1,h.R.ln,h.R.tn,h.R.LT,h.R.n2,h.R.n4⟩,o2,l2,t2,a2⟩
theorem LS.noT {C:Addr} {p L T lg en lk:Addr} {as bs:List Addr} {n:Nat} {logs:List (List En)} {tied:List Bool} {W:List En} (h:LS C H p L T lg en lk as bs n logs tied W):NoT [p,L,T,lg,en,lk] H:=λm hm xs z=>by
 simp only[QbK,Qbi,Qcf] at hm;rcases hm with rfl | rfl | rfl | rfl | rfl | rfl
 ·obtain⟨dx,e⟩:=h.R.ob;rw[e] at z;cases z
 ·rw[h.R.hl] at z;cases z
 ·rw[h.R.ht] at z;cases z
 ·rw[h.hl] at z;cases z
 ·obtain⟨vs,e,_⟩:=h.hw;rw[e] at z;cases z
 ·rw[h.hk] at z;cases z
theorem LS.Bd {C:Addr} {x p L T lg en lk:Addr} {as bs:List Addr} {n:Nat} {logs:List (List En)} {tied:List Bool} {W:List En} (h:LS C H p L T lg en lk as bs n logs tied W) (s:Ah x H H') (t:∀xs,H x≠some (.tup xs)) (nM:x∉[p,L,T,lg,en,lk]) (na:x∉as++bs):LS C H' p L T lg en lk as bs n logs tied W:=by
 simp only[QbK,Qbi,Qcf,not_or] at nM;obtain⟨n1,n2,n3,n4,n5,n6⟩:=nM;have a1:x∉as:=λz=>na (QaB _ z);have a2:x∉bs:=λz=>na (Qau _ z);exact⟨h.R.Bd s t (Ne.symm n1) (Ne.symm n2) (Ne.symm n3) a1,h.ri,s _ _ h.hl (Ne.symm n4),Logs.Bd s t h.lb a2,h.hw.Bd s t (Ne.symm n5),s _ _ h.hk (Ne.symm n6),h.nd,h.ap⟩
theorem LS.lC {C:Addr} {p L T lg en lk:Addr} {as bs:List Addr} {n:Nat} {logs:List (List En)} {tied:List Bool} {W:List En} (h:LS C H p L T lg en lk as bs n logs tied W):∀x∈as++bs,∃xs,H x=some (.lst xs):=λx hx=>by
 rcases Qbu.mp hx with z | z
 ·obtain⟨g,vs,e,_⟩:=Dg h.R.lg z;exact⟨vs,e⟩
 ·obtain⟨g,vs,e,_⟩:=Dg h.lb z;exact⟨vs,e⟩
end
theorem RAt.tna {C:Addr} {H:Hp} {p L T:Addr} {as:List Addr} {n:Nat} {logs:List (List En)} {tied:List Bool} (h:RAt C H p L T as n logs tied):T∉as:=λz=>by
 obtain⟨g,vs,hv,pv⟩:=Dg h.lg z;have tn:=h.tn;have n2:=h.n2;rw[h.ht] at hv;cases hv
 match tied,tn with
 | [],tn=>simp at tn;omega
 | a::r,_=>
  cases pv with
  | cons q _=>obtain⟨t,e,ht⟩:=q;cases e
theorem RAt.exA {C:Addr} {H:Hp} {p L T:Addr} {as:List Addr} {n:Nat} {logs:List (List En)} {tied:List Bool} (h:RAt C H p L T as n logs tied) {x:Addr} (z:x∈as):∃o,H x=some o:=let ⟨_,_,e,_⟩:=Dg h.lg z;⟨_,e⟩
theorem Keep.trans {M N O:List Addr} {H H' H'':Hp} (a:Keep M N H H') (b:Keep N O H' H''):Keep M O H H'':=λc o e n=>let ⟨x,y⟩:=a c o e n;b c o x y
theorem Keep.cons {M N:List Addr} {H H':Hp} {x:Addr} (a:Keep M N H H'):Keep (x::M) (x::N) H H':=λc o e n=>by
 obtain⟨n1,n2⟩:=not_or.mp (λz=>n (QbK.mpr z));obtain⟨h1,h2⟩:=a c o e n2;exact⟨h1,λz=>(QbK.mp z).elim n1 h2⟩
theorem Keep.upd {M:List Addr} {H H':Hp} {x:Addr} (s:Ah x H H'):Keep (x::M) (x::M) H H':=λc o e n=>⟨s _ _ e λz=>n (z ▸ .head _),n⟩
theorem Pg {H:Hp}:∀l:List Nat,Ii H (nv l) (l.map λk:Nat=>PyData.int (k:Int))
 | []=>.nil
 | _::r=>.cons (.int _) (Pg r)
theorem xR {c:Bool} {A B:Prop} {F:Hp->Prop} {H:Hp} (hb:F H->B) (ha:(∀HE,Same H HE->F HE)->A) (k:∀HE,Same H HE->F HE):if c=true then A else B:=by
 cases c
 ·exact hb (k H (Same.refl _))
 ·exact ha k
section
variable {P:Program} {w:World} {K:YD} {mg:YB} {base:Heap} {C c8:Addr}
abbrev xi:YF:=["_law_panel"]
abbrev xn:YF:=["_law_told","_law_copy"]
theorem jM {f:Addr} {fd:FuncData} (F:Fun K "law" "law" Il f fd) (T:Tx K mg C) (Mh:Good P w K mg base "_law_bag" 1 JH (Vv K)) (Bb:Good P w K mg base "_law_take" 1 Dc DN) (RV:W2 P w K mg base C 1 CQ (QS C)) (cN:Good P w K mg base "_law_deed" 8 Jg (QT C)) (Ir:Good P w K mg base "_law_stands" 5 GQ (Mv C)) (M7:Gp P w K mg base C "beat" 2 DG (Nr C)) (Wy:Gp P w K mg base C "houses" 2 Dp (KQ C)) (Ga:Ce P w K mg base C "log_of" 4 Cq (IW C c8)):DK P w K mg base CX0 9 f fd eG (Nq K):=by
 refine F.ok Et (λvs H Q E h=>?_) (λcdv A outer s H vs Q E hr h=>?_)
 ·obtain⟨a,ns,rfl,_⟩:=h;rfl
 obtain⟨sa,ns,rfl,hS,h63,q⟩:=h;refine⟨_,(Ad (Aw (i:=1) Et.nd rfl (Or.inl rfl) (Ao Cv Ag (Bl Bb hr (Aa (Bl Mh hr (Aa (pv 0) (Aa Ag Ab))) (Aa Ag Ab)))))
 (Ad (Aw (i:=2) Et.nd rfl (Or.inl rfl) (eF RV hr T.mgC (Aa (pv 1) Ab)))
 (Ad (JB (i:=3) Et.nd rfl (Or.inl rfl) (N':=xi) rfl (Bx.plain rfl (by trivial) (by trivial) (by trivial)) (Eb rfl T.range (Aa (pv 1) Ab)) (λ_ _ _ _=>(Ay (i:=0) (show List.Nodup (xi:YF) by trivial) rfl (Or.inl rfl))) (λ_ _ _ _=>Ey) (λ_ _ _ _=>(BL Ab)))
 (Ad (Aw (i:=4) Et.nd rfl (Or.inl rfl) (Ao jJ (BL (Aa Cj Ab)) (pv 1)))
 (Ad (Aw (i:=5) Et.nd rfl (Or.inl rfl) (BL Ab))
 (Ad (Ca (CZ (CV (Bl Ir hr (Aa (pv 2) (Aa (pv 3) Ab))))) (Ai (Bc Cj)) Bv)
 (Ad (Aw (i:=6) Et.nd rfl (Or.inl rfl) (eF RV hr T.mgC (Aa (pv 1) Ab)))
 (Ad (Aw (i:=7) Et.nd rfl (Or.inl rfl) (BL Ab))
 (Ad (Gf QbA rfl (Xr rfl T.range (Aa Ag (Aa (Ak (YX rfl) rfl T.max Y6 (Aa Ag (Aa (Ak (YW rfl) rfl T.min mJ (Aa (Ak Ck rfl T.len Fd (Aa (pv 0) Ab)) (Aa Ag Ab))) Ab))) Ab))) (Ay (i:=8) Et.nd rfl (Or.inl rfl))
 (Ad (Aw (i:=9) Et.nd rfl (Or.inl rfl) (Bl Mh hr (Aa (pv 0) (Aa (pv 8) Ab))))
 (Ad (Aw (i:=10) Et.nd rfl (Or.inl rfl) (CW Em (Bl Bb hr (Aa (pv 9) (Aa Ag Ab))) Ag (Bt _)))
 (Ad (Ca (CZ (CV (jG cN hr (@Aa _ _ _ _ _ (pv 9) (@Aa _ _ _ _ _ (pv 2) (@Aa _ _ _ _ _ (pv 3) (@Aa _ _ _ _ _ (pv 4) (@Aa _ _ _ _ _ (pv 5) (@Ab _) Iw) Iw) Iw) Iw) Iw)))) (Ai (Bc Cj)) Bv)
 (Ad (Ca (PW.pt (Q7 (CV (pv 10)) (O6 (CZ (CV (Bl Ir hr (Aa (pv 2) (Aa (pv 3) Ab)))))))) (Ai (Bc Cj)) Bv)
 (Ad (Aw (i:=11) Et.nd rfl (Or.inl rfl) (Ds (pv 2) T.cl Ga hr JG (Aa (Ao Fy (pv 8) (pv 1)) Ab)))
 (Ai (Cm (Im Qan Qal Qam Ec (pv 7) (Aa (Gg (Aa (pv 11) (Aa (Hw Jp rfl T.list JN (Aa (pv 11) Ab)) Ab))) Ab))))))))))
 (Ad (Ca (CZ (CV (Ak (Kq rfl) rfl T.all Ou (Aa (Dn (N':=xn) rfl (Bx.plain rfl (by trivial) (by trivial) (by trivial)) (Cy (pv 7)) (λ_ _ _ _=>(Uy (K:=K) (n:=2) rfl rfl (Cd (Ay (i:=0) (show List.Nodup (xn:YF) by trivial) rfl (Or.inl rfl)) (Cd (Ay (i:=1) (show List.Nodup (xn:YF) by trivial) rfl (Or.inl rfl)) Hh)))) (λ_ _ _ _=>Ey) (λ_ _ _ _=>(CW (Rn hr.units) (pv 0) (pv 1) (Bt _)))) Ab)))) (Ai (Bc Cj)) Bv)
 (Ad (Cm (NQ (pv 6) T.cl M7 hr))
 (Ad (Ca (PW.pt (Ly (CZ (CV (Bl Ir hr (Aa (pv 6) (Aa (Dn (N':=xi) rfl (Bx.plain rfl (by trivial) (by trivial) (by trivial)) (Eb rfl T.range (Aa (pv 1) Ab)) (λ_ _ _ _=>(Ay (i:=0) (show List.Nodup (xi:YF) by trivial) rfl (Or.inl rfl))) (λ_ _ _ _=>Ey) (λ_ _ _ _=>(BL Ab))) Ab))))) (K1 (BJ (Xx hr.units) (NQ (pv 6) T.cl Wy hr) (BL (Aa (Rf rfl rfl T.list rfl T.range (Aa (pv 1) Ab)) Ab)) (Bt _))))) (Ai (Bc Cj)) Bv)
 (Ai (Bc (Bl Ir hr (Aa (pv 2) (Aa (pv 3) Ab))))))))))))))))),?_⟩
 show let R0:TS:=_;let R1:TS:=Aj _ R0;let R2:TS:=Aj _ R1;let R3:TS:=Aj _ R2;let R4:TS:=_;let R5:TS:=Aj _ R4;let R6:TS:=Aj _ R5;let R7:TS:=Aj _ R6;let R8:TS:=Aj _ R7;let R9:TS:=Aj _ R8;let R10:TS:=Aj (KC _ _ R9) R3;let R11:TS:=Aj _ R10;let R12:TS:=Aj _ R11;let R13:TS:=Aj _ R12;let R14:TS:=Aj _ R13;let R15:TS:=Aj _ R14;let R16:TS:=Aj _ R15;let R17:TS:=Aj _ R16;Aj _ R17 _ _ _;intro R0 R1 R2 R3 R4 R5 R6 R7 R8 R9 R10 R11 R12 R13 R14 R15 R16 R17;have hl:(ns.map V.int).length=ns.length:=Qbt _;refine⟨_,rq,sa,ns,0,rq,hS,h63,by decide,by decide,λb o hb0 hb=>?_⟩;have s0:=Af hb0 o;generalize upd H b o=H0 at *;refine⟨b,0,3,rq,hb,by decide,by decide,by decide,λr1 H1 r10 r11 hb1 sb1=>⟨_,_,rq,rq,Bg ?_⟩⟩;obtain⟨n,hn⟩ : ∃n:Nat,2+r1=(n:Int):=⟨(2+r1).toNat,by omega⟩;rw[show (λi j:Int=>V.int (i+j)) 2 r1=V.int (n:Int) from congrArg V.int hn]
 have n2:2<=n:=by omega
 have n4:n<=4:=by omega
 have s1:Same H H1:=s0.BP sb1 hb0;refine⟨_,rq,λp dx hp hdx ne=>?_⟩;have s2:Same H1 (upd (upd H1 dx (.own p)) p (.ins C dx [])):=λc o e=>by rw[Al (Am e hp),Al (Am e hdx)];exact e
 have h2:(upd (upd H1 dx (.own p)) p (.ins C dx [])) p=some (.ins C dx []):=Ac;have s02:=s1.trans s2;have fp:H p=none:=s1.free hp;generalize upd (upd H1 dx (.own p)) p (.ins C dx [])=H2 at *;refine⟨p,dx,n,rq,h2,n2,n4,λL TT as H3 fL fT fas R3 s3=>⟨rq,Bg ?_⟩⟩;have s03:Same H H3:=s02.BP s3 fp;refine⟨_,rq,_,rq,by omega,by omega,λlg hlg=>?_⟩;let J0:YN:=λ(i:Nat) (Z : St) (HH:Hp)=>∃(u:Option V) (bs:List Addr),Z=[u]/\HH lg=some (.lst (bs.map V.ref))/\Paired (Bf HH) bs (List.replicate i [])/\(∀a∈bs,H3 a=none)/\lg∉bs/\Same H3 HH;refine Gb J0 ⟨_,[],rq,Ac,.nil,(λa ha=>by cases ha),(λz=>by cases z),Af hlg _⟩ (λi Z HH hi h=>?_) (fun Z H4 h=>?_)
 ·obtain⟨u,as,rfl,e1,e2,e3,e4,e5⟩:=h;refine Bg (Bp ⟨Ar (by show 0<=1000;decide),λa ha=>?_⟩);have al:=QbL e2;rw[Qav] at al;have s6:=Af ha (.lst []);have nLa:lg≠a:=Am e1 ha;have e6:(upd HH a (.lst [])) a=some (.lst []):=Ac;have e1':=s6 _ _ e1;have e2':=Logs.same s6 e2;have ea:H3 a=none:=e5.free ha;have e5':=e5.trans s6;generalize upd HH a (.lst [])=H6 at *;have tL:∀xs,H6 lg≠some (.tup xs):=λxs z=>by rw[e1'] at z;cases z
  refine⟨_,e1',Aq (by rw[Qbt];omega),_,as++[a],rq,by rw[Ac,Qbw];rfl,?_,?_,?_,e5'.BP Ah.upd hlg⟩
  ·rw[QaD];exact BZ (Logs.Bd Ah.upd tL e2' e4) (.cons (Bf.Bd ⟨[],e6,.nil⟩ Ah.upd tL nLa.symm) .nil)
  ·intro z hz;rcases Qbu.mp hz with hz | hz
   ·exact e3 z hz
   ·rw[QaM.mp hz];exact ea
  ·intro z;rcases Qbu.mp z with z | z
   ·exact e4 z
   ·exact nLa (QaM.mp z)
 obtain⟨u,bs,rfl,hl4,lb4,fb4,nlb,s4⟩:=h;rw[Qbb] at lb4;have s04:=s03.trans s4;have R4:=R3.same s4;refine Bg ⟨Ar (by show 1<=1000;decide),λl1 hl1=>?_⟩;have s5:=Af hl1 (.lst [.bl true]);have h5:(upd H4 l1 (.lst [.bl true])) l1=some (.lst [.bl true]):=Ac;generalize upd H4 l1 (.lst [.bl true])=H5 at *;refine⟨_,rq,l1,n,_,rq,rq,h5,by omega,by omega,Ar (by simp;omega),λlk hlk=>?_⟩;rw[Qbb,Zq];have s6:=Af hlk (.lst ((List.replicate n true).map V.bl));have h6:(upd H5 lk (.lst ((List.replicate n true).map V.bl))) lk=some (.lst ((List.replicate n true).map V.bl)):=Ac;have s46:=s5.trans s6;have flk:H4 lk=none:=s5.free hlk;show Iu 4 (.ref lk) _ (upd H5 lk (.lst ((List.replicate n true).map V.bl))) _;generalize upd H5 lk (.lst ((List.replicate n true).map V.bl))=H6 at *;refine Bg ⟨Ar (by show 0<=1000;decide),λen hen=>?_⟩;have s7:=Af hen (.lst []);have h7:(upd H6 en (.lst [])) en=some (.lst []):=Ac;have s47:=s46.trans s7;have fen:H4 en=none:=s46.free hen;have nke:en≠lk:=λz=>by rw[z,h6] at hen;cases hen
 generalize upd H6 en (.lst [])=H7 at *;have S7:LS C H7 p L TT lg en lk as bs n (List.replicate n []) (List.replicate n true) []:=by
  have fr3:∀{x y:Addr} {o:HO},H3 x=some o->H3 y=none->x≠y:=λe f z=>by rw[z,f] at e;cases e
  have fr4:∀{x y:Addr} {o:HO},H4 x=some o->H4 y=none->x≠y:=λe f z=>by rw[z,f] at e;cases e
  obtain⟨dx3,ob3⟩:=R3.ob;obtain⟨dx4,ob4⟩:=R4.ob;refine⟨R4.same s47,RI.start n4,s47 _ _ hl4,Logs.same s47 lb4,⟨[],h7,.nil⟩,s7 _ _ h6,?_,λx hx=>?_⟩
  ·simp only[QbB,QbK,Qbi,Qcf,not_or,List.nodup_nil,and_true,not_false_eq_true];exact⟨⟨R3.np.1,R3.np.2.1,fr3 ob3 hlg,fr4 ob4 fen,fr4 ob4 flk⟩,⟨R3.LT,fr3 R3.hl hlg,fr4 R4.hl fen,fr4 R4.hl flk⟩,⟨fr3 R3.ht hlg,fr4 R4.ht fen,fr4 R4.ht flk⟩,⟨fr4 hl4 fen,fr4 hl4 flk⟩,nke⟩
  ·simp only[QbK,Qbi,Qcf,not_or];rcases Qbu.mp hx with h | h
   ·obtain⟨o3,e3⟩:=R3.exA h;have e4:=s4 _ _ e3;exact⟨λz=>R3.np.2.2 (z ▸ h),λz=>R3.lna (z ▸ h),λz=>R3.tna (z ▸ h),fr3 e3 hlg,fr4 e4 fen,fr4 e4 flk⟩
   ·obtain⟨g,vs,e4,_⟩:=Dg lb4 h;have f3:=fb4 x h;exact⟨(fr3 ob3 f3).symm,(fr3 R3.hl f3).symm,(fr3 R3.ht f3).symm,λz=>nlb (z ▸ h),fr4 e4 fen,fr4 e4 flk⟩
 have K7:Keep [] [p,L,TT,lg,en,lk] H H7:=λc o e _=>by
  have e2:=s02 _ _ e;have e3:=s03 _ _ e;have e4:=s04 _ _ e;refine⟨s47 _ _ e4,?_⟩;simp only[QbK,Qbi,Qcf,not_or];exact⟨Am e fp,Am e2 fL,Am e2 fT,Am e3 hlg,Am e4 fen,Am e4 flk⟩
 have g00:∀g∈List.replicate n ([]:List En),g=[]:=λg hg=>(List.mem_replicate.mp hg).2;refine Bg ⟨_,rq,_,rq,p,L,TT,lg,as,bs,n,_,_,rq,S7.R,S7.hl,S7.lb,(λg hg e he=>by rw[g00 g hg] at he;cases he),(λg hg=>by rw[g00 g hg];decide),λH8 s8=>⟨_,rq,Bk ?_⟩⟩;have S8:=S7.same s8;have K8:=K7.trans (Keep.of s8);refine⟨_,rq,λp2 dx2 hp2 vA ne2=>?_⟩;have s9:Same H8 (upd (upd H8 dx2 (.own p2)) p2 (.ins C dx2 [])):=λc o e=>by rw[Al (Am e hp2),Al (Am e vA)];exact e
 have h9:(upd (upd H8 dx2 (.own p2)) p2 (.ins C dx2 [])) p2=some (.ins C dx2 []):=Ac;generalize upd (upd H8 dx2 (.own p2)) p2 (.ins C dx2 [])=H9 at *;refine⟨p2,dx2,n,rq,h9,n2,n4,λL2 T2 as2 H10 fL2 fT2 vJ R10 qt=>⟨rq,Bg ?_⟩⟩;have s10:Same H8 H10:=s9.BP qt hp2;have S9:=S8.same s9;have S10:=S8.same s10;refine⟨Ar (by show 0<=1000;decide),λhd hhd=>Bg ?_⟩;have s11:=Af hhd (.lst []);have h11:(upd H10 hd (.lst [])) hd=some (.lst []):=Ac;have S11:=S10.same s11;generalize upd H10 hd (.lst [])=H11 at *;have hdM:hd∉[p,L,TT,lg,en,lk]:=S10.fresh hhd;have hdA:hd∉as++bs:=λz=>by obtain⟨xs,e⟩:=S10.lC hd z;rw[hhd] at e;cases e
 have O11:Oth C (hd::[p,L,TT,lg,en,lk]) H11 p2 L2 T2 as2 n:=by
  have cn:∀{x:Addr} {o:HO},H10 x=some o->x∉[p,L,TT,lg,en,lk]->x∉hd::[p,L,TT,lg,en,lk]:=λe n z=>(QbK.mp z).elim (λz=>by rw[z,hhd] at e;cases e) n;obtain⟨yS,um⟩:=R10.ob;exact⟨R10.same s11,cn um (S8.fresh hp2),cn R10.hl (S9.fresh fL2),cn R10.ht (S9.fresh fT2),λa ha=>by obtain⟨o,e⟩:=R10.exA ha;exact cn e (S9.fresh (vJ a ha))⟩
 have K11:Keep [] (hd::[p,L,TT,lg,en,lk]) H H11:=λc o e n=>by
  obtain⟨e8,n8⟩:=K8 c o e n;have e10:=s10 _ _ e8;exact⟨s11 _ _ e10,λz=>(QbK.mp z).elim (Am e10 hhd) n8⟩
 have qu:Same H H11:=λc o e=>(K11 c o e (by simp)).1;refine⟨_,rq,sa,_,rq,.inl (qu.seq hS),?_⟩;rw[hl];refine⟨_,_,rq,_,_,rq,1,_,rq,?_⟩;have m0:∃m:Int,(if (60:Int) < (ns.length:Int) then (60:Int) else (ns.length:Int))=m/\m<=60:=⟨_,rq,by split <;> omega⟩
 obtain⟨m,em,hm⟩:=m0;have m1:∃j:Int,(if m > 12 then m else (12:Int))=j/\12<=j/\j<=60:=⟨_,rq,by split <;> omega,by split <;> omega⟩
 obtain⟨j,ej,j12,j60⟩:=m1;rw[em,ej];refine⟨⟨by omega,by omega,by omega,by omega⟩,?_⟩;let J1:YN:=λ(i:Nat) (Z : St) (HH:Hp)=>∃u8 u9 u10 u11,∃(L':Addr) (as' bs':List Addr) (BR:List (List En)) (JV:List Bool) (W':List En) (vs:YG),Z=[js sa,some (.int n),js p,js lg,js lk,js en,js p2,js hd,u8,u9,u10,u11]/\LS C HH p L' TT lg en lk as' bs' n BR JV W'/\W'.length<=i/\HH hd=some (.lst vs)/\vs.length=i/\hd∉[p,L',TT,lg,en,lk]/\hd∉as'++bs'/\(∀v∈vs,Told (hd::[p,L',TT,lg,en,lk]) HH v)/\Oth C (hd::[p,L',TT,lg,en,lk]) HH p2 L2 T2 as2 n/\Keep [] (hd::[p,L',TT,lg,en,lk]) H HH;refine Lf J1 ⟨_,_,_,_,L,as,bs,_,_,[],[],rq,S11,QbZ _,h11,rq,hdM,hdA,(λv hv=>by cases hv),O11,K11⟩ (λi Z HH hi h=>?_) (fun Z HH h=>?_)
 ·obtain⟨u8,u9,u10,u11,L',as',bs',BR,JV,W',vs,rfl,SA,wl,hhA,vl,kE,kI,tdA,OA,KA⟩:=h;have sHA:Same H HH:=λc o e=>(KA c o e (by simp)).1;refine Bg ⟨_,rq,_,rq,sa,ns,_,rq,sHA.seq hS,h63,by omega,by omega,λb' o' cI hb'=>Bg ?_⟩;have sB:=Af cI o';generalize upd HH b' o'=HB at *;have SB:=SA.same sB;refine⟨_,rq,b',0,4,rq,hb',by decide,by decide,by decide,λr2 HC r20 r21 hbC sbC=>?_⟩;have SC:=SB.bag hb' sbC;refine⟨rq,Bg ?_⟩;refine⟨_,rq,_,rq,_,rq,_,rq,_,rq,b',p,L',TT,lg,en,lk,0+1,as',bs',n,BR,JV,W',rq,hbC,by decide,SC,by omega,λHD L9 as9 bs9 Ob Vs W9 SD wl9 fr9 kp9=>⟨_,rq,Bk ?_⟩⟩;have exC:∀{c:Addr} {o:HO},HH c=some o->HC c=some o/\c≠b':=λe=>⟨sbC _ _ (sB _ _ e) (Am e cI),Am e cI⟩;have KD0:Keep [p,L',TT,lg,en,lk] [p,L9,TT,lg,en,lk] HH HD:=λc o e n=>kp9 c o (exC e).1 (exC e).2 n;have KD:=KD0.cons (x:=hd);have ntA:NoT (hd::[p,L',TT,lg,en,lk]) HH:=λm hm xs e=>by
   rcases QbK.mp hm with rfl | hm
   ·rw[hhA] at e;cases e
   ·exact SA.noT m hm xs e
  obtain⟨hhD,hdD⟩:=KD0 _ _ hhA kE;have hdB:hd∉as9++bs9:=λz=>by
   rcases fr9 hd z with z | z
   ·exact kI z
   ·rw[(exC hhA).1] at z;cases z
  have tdD:∀v∈vs,Told (hd::[p,L9,TT,lg,en,lk]) HD v:=λv hv=>(tdA v hv).keep KD ntA;have OD:=OA.keep KD ntA;have KHD:=KA.trans KD;have ln9:=SD.R.ln;have lB:∀g∈Ob,g.length < 64:=λg hg=>by have:=(SD.ri.up g hg).few SD.ri.w (SD.ri.sub g hg);omega
  have txD:∀g∈Ob,∀e∈g,PyData.strOk e.tx=true:=λg hg e he=>SD.ri.w.tx e (SD.ri.sub g hg e he);refine⟨_,rq,_,rq,xR (H:=HD) (λx=>Bk x) (λk=>⟨_,rq,_,rq,p,L9,TT,lg,as9,bs9,n,Ob,Vs,rq,SD.R,SD.hl,SD.lb,txD,lB,λHE sE=>⟨_,rq,Bk (k HE sE)⟩⟩) ?_⟩;intro HE sE;have SE:=SD.same sE;obtain⟨dxE,obE⟩:=SE.R.ob;have k0:=QbE (1+(i:Int)) (show (n:Int)≠0 by omega);have k1:=QaU (1+(i:Int)) (show (0:Int) < n by omega);have noE:wiB (.int ((1+(i:Int)) % (n:Int))) 0 ((n:Int) - 1)=false->False:=λe=>by
   rw[show (1+(i:Int)) % (n:Int)=((((1+(i:Int)) % (n:Int)).toNat:Nat):Int) by omega,JR (by omega)] at e;cases e
  refine⟨_,rq,p,dxE,_,rq,obE,Cr (by trivial),_,rq,_,rq,_,_,rq,rq,(show (0:Int) < n by omega),?_⟩;refine⟨p,L9,TT,as9,n,.int ((1+(i:Int)) % (n:Int)),Ob,Vs,rq,SE.R,True.intro,(λq0 g l3 HF eq0 hg fl3 lg3 sF=>Bg ?_),λe=>(noE e).elim⟩;have hgm:=Qaz hg;have gf:=lB g hgm;obtain⟨gv,hgv,pgv⟩:=lg3;have gvl:=QbL pgv;have SF:=SE.same sF;have sDF:=sE.trans sF;refine⟨_,rq,.inl ⟨rq,_,SqL.of (sDF _ _ hhD)⟩,_,rq,_,rq,l3,_,rq,.inl (SqL.of hgv),λl4 hl4=>?_⟩;have sG:=Af hl4 (.lst gv);have hG:(upd HF l4 (.lst gv)) l4=some (.lst gv):=Ac;have pgG:=Ens.tups (Bq.of sG) pgv;have hgG:=sG _ _ hgv;have sDG:=sDF.trans sG;have f4:HD l4=none:=sDF.free hl4;have f3:HD l3=none:=sE.free fl3;generalize upd HF l4 (.lst gv)=HG at *;refine⟨Ar (by show 2<=1000;decide),λt ht=>?_⟩;have sI:=Af ht (.tup [.ref l3,.ref l4]);have hI:(upd HG t (.tup [.ref l3,.ref l4])) t=some (.tup [.ref l3,.ref l4]):=Ac;have pgI:=Ens.tups (Bq.of sI) pgG;have sDI:=sDG.trans sI;have h3I:=sI _ _ hgG;have h4I:=sI _ _ hG;generalize upd HG t (.tup [.ref l3,.ref l4])=HI at *;have SI:=SD.same sDI;have hhI:=sDI _ _ hhD;refine⟨hd,_,_,rq,rq,hhI,Aq (by omega),?_⟩;have sJ:Ah hd HI (upd HI hd (.lst (vs++[.ref t]))):=Ah.upd;have hJ:(upd HI hd (.lst (vs++[.ref t]))) hd=some (.lst (vs++[.ref t])):=Ac;generalize upd HI hd (.lst (vs++[.ref t]))=HJ at *;have ht':∀xs,HI hd≠some (.tup xs):=λxs e=>by rw[hhI] at e;cases e
  have ntI:NoT (hd::[p,L9,TT,lg,en,lk]) HI:=λm hm xs e=>by
   rcases QbK.mp hm with rfl | hm
   ·rw[hhI] at e;cases e
   ·exact SI.noT m hm xs e
  have ntD:NoT (hd::[p,L9,TT,lg,en,lk]) HD:=λm hm xs e=>ntI m hm xs (sDI _ _ e);have KI:Keep (hd::[p,L9,TT,lg,en,lk]) (hd::[p,L9,TT,lg,en,lk]) HD HI:=Keep.of sDI;have KJ:Keep (hd::[p,L9,TT,lg,en,lk]) (hd::[p,L9,TT,lg,en,lk]) HI HJ:=Keep.upd sJ;have fo:∀{x:Addr},HD x=none->x∉hd::[p,L9,TT,lg,en,lk]:=λf z=>(QbK.mp z).elim (λz=>by rw[z,hhD] at f;cases f) (SD.fresh f);have tdI:Told (hd::[p,L9,TT,lg,en,lk]) HI (.ref t):=⟨t,l3,l4,g,rq,hI,⟨⟨gv,h3I,pgI⟩,fo f3⟩,⟨⟨gv,h4I,pgI⟩,fo f4⟩,txD g hgm⟩;refine⟨_,_,_,_,L9,as9,bs9,Ob,Vs,W9,vs++[.ref t],rq,SI.Bd sJ ht' hdD hdB,by omega,hJ,by rw[QaN,vl];rfl,hdD,hdB,λv hv=>?_,(OD.keep KI ntD).keep KJ ntI,(KHD.trans KI).trans KJ⟩;rcases Qbu.mp hv with hv | hv
  ·exact ((tdD v hv).keep KI ntD).keep KJ ntI
  ·rw[QaM.mp hv];exact tdI.keep KJ ntI
 obtain⟨u8,u9,u10,u11,L',as',bs',BR,JV,W',vs,rfl,SA,wl,hhA,vl,kE,kI,tdA,OA,KA⟩:=h;have ntA:NoT (hd::[p,L',TT,lg,en,lk]) HH:=λm hm xs e=>by
  rcases QbK.mp hm with rfl | hm
  ·rw[hhA] at e;cases e
  ·exact SA.noT m hm xs e
 have yK:vs.length<=60:=by omega
 refine⟨_,rq,hd,rq,⟨_,SqL.of hhA⟩,λlc hlc=>?_⟩;let J2:YN:=λ(x:Nat) (Z : St) (HX:Hp)=>∃(u v:Option V),Z=[u,v]/\HX lc=some (.lst ((List.replicate x true).map V.bl))/\Same HH HX;refine Ed (xs:=vs) J2 ⟨_,_,rq,Ac,Af hlc _⟩ (λx Z HX _ g=>?_) (λx v Z HX hx g=>?_) (fun Z HX g=>?_)
 ·obtain⟨u,v,rfl,g1,g2⟩:=g;exact SqL.of (g2 _ _ hhA)
 ·obtain⟨u,v',rfl,g1,g2⟩:=g;obtain⟨t,x1,y1,g,rfl,h1,hx1,hy1,tx⟩:=tdA v (Qaz hx);have xl:x < vs.length:=(Qah.mp hx).1;obtain⟨d1,d2,r1,r2,r3,r4,r5⟩:=X7 (hx1.1.same g2) (hy1.1.same g2) tx;refine⟨t,_,rq,SqT.of (g2 _ _ h1),rq,_,_,rq,_,_,rq,rq,Bp ⟨_,rq,_,rq,d1,d2,r1,r2,r3,r4,_,g1,Aq (by simp;omega),_,_,rq,?_,g2.BP Ah.upd hlc⟩⟩;rw[Ac,r5,QaD,Qbw];rfl
 obtain⟨u,v,rfl,g1,sX⟩:=g;refine⟨lc,List.replicate vs.length true,rq,SqL.of g1,_,rq,?_⟩;rw[show (List.replicate vs.length true).all id=true by simp];refine Bk ?_;have OX:=OA.keep (Keep.of sX) ntA;have SX:=SA.same sX;obtain⟨dxX,obX⟩:=OX.R.ob;refine⟨_,rq,p2,dxX,_,rq,obX,Cr (by trivial),p2,L2,T2,as2,n,_,_,[],rq,OX.R,(RI.start n4).w,(λg hg e he=>by rw[g00 g hg] at he;cases he),(λg hg=>by rw[g00 g hg];exact List.Pairwise.nil),λL3 as3 HY oh fL3 yR RY chY sY=>?_⟩;have el:oh=List.replicate n []:=by
  refine List.eq_replicate_iff.mpr ⟨RY.ln,λg hg=>?_⟩;obtain⟨i,hi⟩:=QaE hg;obtain⟨_,mm⟩:=chY i g hi
  match g,mm with
  | [],_=>rfl
  | e::r,mm=>
   have no:∀k,e∉(List.replicate n ([]:List En)).getD k []:=λk z=>by
    rw[Qae,List.getElem?_replicate] at z;split at z <;> cases z
   exfalso;rcases (mm e).mp (.head _) with z |⟨d,_,⟨_,z⟩|⟨_,z⟩⟩
   ·exact no _ z
   ·exact no _ z
   ·exact no _ z
 subst el;have p2M:p2∉[p,L',TT,lg,en,lk]:=λz=>OX.np (.tail _ z);have p2A:p2∉as'++bs':=λz=>by
  obtain⟨xs,e⟩:=SX.lC p2 z;rw[obX] at e;cases e
 have SY:=SX.Bd sY OX.R.pt p2M p2A;refine⟨_,rq,_,rq,_,rq,by omega,by omega,λlg2 j9=>?_⟩;let J3:YN:=λ(i:Nat) (Z : St) (HH:Hp)=>∃(u:Option V) (bs:List Addr),Z=[u]/\HH lg2=some (.lst (bs.map V.ref))/\Paired (Bf HH) bs (List.replicate i [])/\lg2∉bs/\Same HY HH;refine Gb J3 ⟨_,[],rq,Ac,.nil,(λz=>by cases z),Af j9 _⟩ (λi Z HH hi h=>?_) (fun Z HZ h=>?_)
 ·obtain⟨u,as,rfl,e1,e2,e4,e5⟩:=h;refine Bg (Bp ⟨Ar (by show 0<=1000;decide),λa ha=>?_⟩);have al:=QbL e2;rw[Qav] at al;have s6:=Af ha (.lst []);have nLa:lg2≠a:=Am e1 ha;have e6:(upd HH a (.lst [])) a=some (.lst []):=Ac;have e1':=s6 _ _ e1;have e2':=Logs.same s6 e2;have e5':=e5.trans s6;generalize upd HH a (.lst [])=H6 at *;have tL:∀xs,H6 lg2≠some (.tup xs):=λxs z=>by rw[e1'] at z;cases z
  refine⟨_,e1',Aq (by rw[Qbt];omega),_,as++[a],rq,by rw[Ac,Qbw];rfl,?_,?_,e5'.BP Ah.upd j9⟩
  ·rw[QaD];exact BZ (Logs.Bd Ah.upd tL e2' e4) (.cons (Bf.Bd ⟨[],e6,.nil⟩ Ah.upd tL nLa.symm) .nil)
  ·intro z;rcases Qbu.mp z with z | z
   ·exact e4 z
   ·exact nLa (QaM.mp z)
 obtain⟨u,bs3,rfl,hlZ,lbZ,_,sZ⟩:=h;rw[Qbb] at lbZ;have RZ:=RY.same sZ;refine⟨p2,L3,T2,lg2,as3,bs3,n,_,_,rq,RZ,hlZ,lbZ,(λg hg e he=>by rw[g00 g hg] at he;cases he),(λg hg=>by rw[g00 g hg];decide),λHU sU=>⟨_,rq,Bk ?_⟩⟩;have RU:=RZ.same sU;obtain⟨dxU,obU⟩:=RU.ob;refine⟨_,rq,p2,dxU,_,rq,obU,Cr (by trivial),p2,L3,T2,as3,n,_,rq,RU,λhs ha HV fhs hhs hha sV=>?_⟩;refine⟨_,rq,n,rq,by omega,by omega,λl6 hl6=>?_⟩;rw[Qbb];have s6':=Af hl6 (.lst ((List.range n).map λk:Nat=>V.int (k:Int)));have h6':(upd HV l6 (.lst ((List.range n).map λk:Nat=>V.int (k:Int)))) l6=some (.lst (nv (List.range n))):=Ac;generalize upd HV l6 (.lst ((List.range n).map λk:Nat=>V.int (k:Int)))=HP at *;refine⟨Ar (by show 1<=1000;decide),λl7 hl7=>?_⟩;have s7':=Af hl7 (.lst [.ref l6]);have h7':(upd HP l7 (.lst [.ref l6])) l7=some (.lst [.ref l6]):=Ac;have sUP:=(sV.trans s6').trans s7';generalize upd HP l7 (.lst [.ref l6])=HQ at *;have rep1:Rep HQ (.ref hs) (.list [.list ((List.range n).map λk:Nat=>PyData.int (k:Int))]):=.lst (s7' _ _ (s6' _ _ hhs)) (.cons (.lst (s7' _ _ (s6' _ _ hha)) (Pg _)) .nil);have rep2:Rep HQ (.ref l7) (.list [.list ((List.range n).map λk:Nat=>PyData.int (k:Int))]):=.lst h7' (.cons (.lst (s7' _ _ h6') (Pg _)) .nil);have shp:SeqAt.shaped (.list [.list ((List.range n).map λk:Nat=>PyData.int (k:Int))])=true:=by
  have:n=2\/n=3\/n=4:=by omega
  rcases this with rfl | rfl | rfl <;> decide +kernel
 refine⟨_,_,rep1,rep2,shp,shp,_,rq,?_⟩;rw[SeqAt.eqv_refl _ (SeqAt.canLay_of_shaped shp)];refine Bk ?_;have SQ:=((SY.same sZ).same sU).same sUP;refine⟨_,rq,_,rq,p,L',TT,lg,as',bs',n,BR,JV,rq,SQ.R,SQ.hl,SQ.lb,(λg hg e he=>SQ.ri.w.tx e (SQ.ri.sub g hg e he)),(λg hg=>by have:=(SQ.ri.up g hg).few SQ.ri.w (SQ.ri.sub g hg);omega),λHW sW=>q _⟩
end
theorem Wc {K:YD} {C c0 c1 c2 c3 c4 c5 c6 c7 c8 c9 c10 c11 c12:Addr} {j:Nat} (q0:kitOne K (.ref C) (.ref c0)=some (decide (0=j))) (q1:kitOne K (.ref C) (.ref c1)=some (decide (1=j))) (q2:kitOne K (.ref C) (.ref c2)=some (decide (2=j))) (q3:kitOne K (.ref C) (.ref c3)=some (decide (3=j))) (q4:kitOne K (.ref C) (.ref c4)=some (decide (4=j))) (q5:kitOne K (.ref C) (.ref c5)=some (decide (5=j))) (q6:kitOne K (.ref C) (.ref c6)=some (decide (6=j))) (q7:kitOne K (.ref C) (.ref c7)=some (decide (7=j))) (q8:kitOne K (.ref C) (.ref c8)=some (decide (8=j))) (q9:kitOne K (.ref C) (.ref c9)=some (decide (9=j))) (q10:kitOne K (.ref C) (.ref c10)=some (decide (10=j))) (q11:kitOne K (.ref C) (.ref c11)=some (decide (11=j))) (q12:kitOne K (.ref C) (.ref c12)=some (decide (12=j))) :
  ∀i d,([c0,c1,c2,c3,c4,c5,c6,c7,c8,c9,c10,c11,c12]:List Addr)[i]?=some d->kitOne K (.ref C) (.ref d)=some (decide (i=j)):=λi d h=>by
 match i,h with
 | 0,h=>cases h;exact q0
 | 1,h=>cases h;exact q1
 | 2,h=>cases h;exact q2
 | 3,h=>cases h;exact q3
 | 4,h=>cases h;exact q4
 | 5,h=>cases h;exact q5
 | 6,h=>cases h;exact q6
 | 7,h=>cases h;exact q7
 | 8,h=>cases h;exact q8
 | 9,h=>cases h;exact q9
 | 10,h=>cases h;exact q10
 | 11,h=>cases h;exact q11
 | 12,h=>cases h;exact q12
 | n+13,h=>cases h
theorem all_mk {l:PySem.W.OpenLaw} {w:World} {K:YD} {h:Heap} {mg:YB} {fa C f1 f2 f3 f4 f5 f6 f7 f8 f9 f10 f11 f12 f13 f14 f15 f16 f17 f18 f19 f20 f21 fm1 fm2 fm3 fm4 fm5 fm6 fm7 fm8 fm9 Sd:Addr} (X:K.In h) (G:h.Ns mainGlobals mg) (hfa:mg "law"=some (.ref fa))
  {od1 an1 od2 an2 od3 an3 od4 an4 od5 an5 od6 an6 od7 an7 od8 an8 od9 an9 sO yj sH yh sy yg rZ yd rY xZ rW xY rT xX rR xW rQ xV rP xU rO xT rN mO rM xQ rK xP rJ xO rH xM rG xK rF xJ rE xH rD xG rC xu nW oX:Option Addr} {sl1 sl2 sl3 sl4 sl5 sl6 sl7 sl8 sl9 ql qj qg qe qd qb p8 p7 pZ pY pX pW pU pR pQ pP pO pN pL pK pJ nH:YI} {oc1 kV1 dc1 pm1 cd1 ct1 oc2 kV2 dc2 pm2 cd2 ct2 oc3 kV3 dc3 pm3 cd3 ct3 oc4 kV4 dc4 pm4 cd4 ct4 oc5 kV5 dc5 pm5 cd5 ct5 oc6 kV6 dc6 pm6 cd6 ct6 oc7 kV7 dc7 pm7 cd7 ct7 oc8 kV8 dc8 pm8 cd8 ct8 oc9 kV9 dc9 pm9 cd9 ct9 uh uZ wA rA mH wY ug uY wz rm mG wX uf uX wu qZ mF wW ud uW wk qY mD wV tZ uV wj qX mC wU tY uU wg qW mz wR tX uT v9 qU mq wQ tW uR v8 qT mj wO tV uQ v7 qR lZ wN tU uP vZ qQ lY wM tR uO vY qP lX wL tQ j6 lF jy dj lG tO uN vX qO lW wK tM uM vW qN lV wJ tK uL vV qM lU wI tH uK vU qL lR wH tG uJ vR qK lQ wG tE uI vQ qJ lO wF tD uH vP qI lN wD tu uG vO qH lK wC sS uF vN qG lJ wB nY oE oR nQ fK oU:Value} {tk0:Tok}
  (aC:nsIn K mainGlobals "Ring"=some (some (.ref C)))
  (am1:findIn K (.ref C) "__init__"=some (some (.ref fm1))) (im1:isFn K (.ref fm1)=true) (lm1:K.lookup fm1=some ⟨tO,rM,.func (fnOf "__init__" "Ring.__init__" (Az Ci) (Av Ci) (Ae Ci) .none uN vX qO xQ lW wK),pU⟩) (cm1:codeIn K lW "Ring.__init__"=true) (km1:keepIn K (.ref fm1)=true)
  (am2:findIn K (.ref C) "check_panel"=some (some (.ref fm2))) (im2:isFn K (.ref fm2)=true) (lm2:K.lookup fm2=some ⟨tM,rK,.func (fnOf "check_panel" "Ring.check_panel" (Az BW) (Av BW) (Ae BW) .none uM vW qN xP lV wJ),pR⟩) (cm2:codeIn K lV "Ring.check_panel"=true) (km2:keepIn K (.ref fm2)=true)
  (am3:findIn K (.ref C) "tie"=some (some (.ref fm3))) (im3:isFn K (.ref fm3)=true) (lm3:K.lookup fm3=some ⟨tK,rJ,.func (fnOf "tie" "Ring.tie" (Az Ef) (Av Ef) (Ae Ef) .none uL vV qM xO lU wI),pQ⟩) (cm3:codeIn K lU "Ring.tie"=true) (km3:keepIn K (.ref fm3)=true)
  (am4:findIn K (.ref C) "cut"=some (some (.ref fm4))) (im4:isFn K (.ref fm4)=true) (lm4:K.lookup fm4=some ⟨tH,rH,.func (fnOf "cut" "Ring.cut" (Az Eh) (Av Eh) (Ae Eh) .none uK vU qL xM lR wH),pP⟩) (cm4:codeIn K lR "Ring.cut"=true) (km4:keepIn K (.ref fm4)=true)
  (am5:findIn K (.ref C) "mend"=some (some (.ref fm5))) (im5:isFn K (.ref fm5)=true) (lm5:K.lookup fm5=some ⟨tG,rG,.func (fnOf "mend" "Ring.mend" (Az Dv) (Av Dv) (Ae Dv) .none uJ vR qK xK lQ wG),pO⟩) (cm5:codeIn K lQ "Ring.mend"=true) (km5:keepIn K (.ref fm5)=true)
  (am6:findIn K (.ref C) "pairs"=some (some (.ref fm6))) (im6:isFn K (.ref fm6)=true) (lm6:K.lookup fm6=some ⟨tE,rF,.func (fnOf "pairs" "Ring.pairs" (Az CK) (Av CK) (Ae CK) .none uI vQ qJ xJ lO wF),pN⟩) (cm6:codeIn K lO "Ring.pairs"=true) (km6:keepIn K (.ref fm6)=true)
  (am7:findIn K (.ref C) "write"=some (some (.ref fm7))) (im7:isFn K (.ref fm7)=true) (lm7:K.lookup fm7=some ⟨tD,rE,.func (fnOf "write" "Ring.write" (Az CJ) (Av CJ) (Ae CJ) .none uH vP qI xH lN wD),pL⟩) (cm7:codeIn K lN "Ring.write"=true) (km7:keepIn K (.ref fm7)=true)
  (am8:findIn K (.ref C) "beat"=some (some (.ref fm8))) (im8:isFn K (.ref fm8)=true) (lm8:K.lookup fm8=some ⟨tu,rD,.func (fnOf "beat" "Ring.beat" (Az Dw) (Av Dw) (Ae Dw) .none uG vO qH xG lK wC),pK⟩) (cm8:codeIn K lK "Ring.beat"=true) (km8:keepIn K (.ref fm8)=true)
  (am9:findIn K (.ref C) "log_of"=some (some (.ref fm9))) (im9:isFn K (.ref fm9)=true) (lm9:K.lookup fm9=some ⟨sS,rC,.func (fnOf "log_of" "Ring.log_of" (Az CT) (Av CT) (Ae CT) .none uF vN qG xu lJ wB),pJ⟩) (cm9:codeIn K lJ "Ring.log_of"=true) (km9:keepIn K (.ref fm9)=true)
  (dD:findIn K (.ref C) "houses"=some (some (.ref Sd))) (cD:isFn K (.ref Sd)=true) (Z5:K.lookup Sd=some ⟨nY,nW,.func (fnOf "houses" "Ring.houses" (Az Cg) (Av Cg) (Ae Cg) .none oE oR nQ oX fK oU),nH⟩) (dg:codeIn K fK "Ring.houses"=true) (Wb:keepIn K (.ref Sd)=true)
  (a1:nsIn K mainGlobals "is_whole"=some (some (.ref f1))) (l1:K.lookup f1=some ⟨oc1,od1,.func (fnOf "is_whole" "is_whole" (Az FT) (Av FT) (Ae FT) .none kV1 dc1 pm1 an1 cd1 ct1),sl1⟩) (c1:codeIn K cd1 "is_whole"=true) (k1:keepIn K (.ref f1)=true)
  (a2:nsIn K mainGlobals "is_within"=some (some (.ref f2))) (l2:K.lookup f2=some ⟨oc2,od2,.func (fnOf "is_within" "is_within" (Az Fi) (Av Fi) (Ae Fi) .none kV2 dc2 pm2 an2 cd2 ct2),sl2⟩) (c2:codeIn K cd2 "is_within"=true) (k2:keepIn K (.ref f2)=true)
  (a3:nsIn K mainGlobals "is_line"=some (some (.ref f3))) (l3:K.lookup f3=some ⟨oc3,od3,.func (fnOf "is_line" "is_line" (Az GF) (Av GF) (Ae GF) .none kV3 dc3 pm3 an3 cd3 ct3),sl3⟩) (c3:codeIn K cd3 "is_line"=true) (k3:keepIn K (.ref f3)=true)
  (a4:nsIn K mainGlobals "joined"=some (some (.ref f4))) (l4:K.lookup f4=some ⟨oc4,od4,.func (fnOf "joined" "joined" (Az Hg) (Av Hg) (Ae Hg) .none kV4 dc4 pm4 an4 cd4 ct4),sl4⟩) (c4:codeIn K cd4 "joined"=true) (k4:keepIn K (.ref f4)=true)
  (a5:nsIn K mainGlobals "_law_bag"=some (some (.ref f5))) (l5:K.lookup f5=some ⟨oc5,od5,.func (fnOf "_law_bag" "_law_bag" (Az Iz) (Av Iz) (Ae Iz) .none kV5 dc5 pm5 an5 cd5 ct5),sl5⟩) (c5:codeIn K cd5 "_law_bag"=true) (k5:keepIn K (.ref f5)=true)
  (a6:nsIn K mainGlobals "_law_take"=some (some (.ref f6))) (l6:K.lookup f6=some ⟨oc6,od6,.func (fnOf "_law_take" "_law_take" (Az G7) (Av G7) (Ae G7) .none kV6 dc6 pm6 an6 cd6 ct6),sl6⟩) (c6:codeIn K cd6 "_law_take"=true) (k6:keepIn K (.ref f6)=true)
  (a7:nsIn K mainGlobals "_law_whole"=some (some (.ref f7))) (l7:K.lookup f7=some ⟨oc7,od7,.func (fnOf "_law_whole" "_law_whole" (Az GC) (Av GC) (Ae GC) .none kV7 dc7 pm7 an7 cd7 ct7),sl7⟩) (c7:codeIn K cd7 "_law_whole"=true) (k7:keepIn K (.ref f7)=true)
  (a8:nsIn K mainGlobals "_law_kind"=some (some (.ref f8))) (l8:K.lookup f8=some ⟨oc8,od8,.func (fnOf "_law_kind" "_law_kind" (Az G8) (Av G8) (Ae G8) .none kV8 dc8 pm8 an8 cd8 ct8),sl8⟩) (c8:codeIn K cd8 "_law_kind"=true) (k8:keepIn K (.ref f8)=true)
  (a9:nsIn K mainGlobals "_law_signs"=some (some (.ref f9))) (l9:K.lookup f9=some ⟨oc9,od9,.func (fnOf "_law_signs" "_law_signs" (Az GD) (Av GD) (Ae GD) .none kV9 dc9 pm9 an9 cd9 ct9),sl9⟩) (c9:codeIn K cd9 "_law_signs"=true) (k9:keepIn K (.ref f9)=true)
  (a10:nsIn K mainGlobals "_law_text"=some (some (.ref f10))) (l10:K.lookup f10=some ⟨uh,sO,.func (fnOf "_law_text" "_law_text" (Az Gv) (Av Gv) (Ae Gv) .none uZ wA rA yj mH wY),ql⟩) (c10:codeIn K mH "_law_text"=true) (k10:keepIn K (.ref f10)=true)
  (a11:nsIn K mainGlobals "_law_no_text"=some (some (.ref f11))) (l11:K.lookup f11=some ⟨ug,sH,.func (fnOf "_law_no_text" "_law_no_text" (Az Fg) (Av Fg) (Ae Fg) .none uY wz rm yh mG wX),qj⟩) (c11:codeIn K mG "_law_no_text"=true) (k11:keepIn K (.ref f11)=true)
  (a12:nsIn K mainGlobals "_law_none_such"=some (some (.ref f12))) (l12:K.lookup f12=some ⟨uf,sy,.func (fnOf "_law_none_such" "_law_none_such" (Az Dm) (Av Dm) (Ae Dm) .none uX wu qZ yg mF wW),qg⟩) (c12:codeIn K mF "_law_none_such"=true) (k12:keepIn K (.ref f12)=true)
  (a13:nsIn K mainGlobals "_law_is_entry"=some (some (.ref f13))) (l13:K.lookup f13=some ⟨ud,rZ,.func (fnOf "_law_is_entry" "_law_is_entry" (Az DR) (Av DR) (Ae DR) .none uW wk qY yd mD wV),qe⟩) (c13:codeIn K mD "_law_is_entry"=true) (k13:keepIn K (.ref f13)=true)
  (a14:nsIn K mainGlobals "_law_is_log"=some (some (.ref f14))) (l14:K.lookup f14=some ⟨tZ,rY,.func (fnOf "_law_is_log" "_law_is_log" (Az FQ) (Av FQ) (Ae FQ) .none uV wj qX xZ mC wU),qd⟩) (c14:codeIn K mC "_law_is_log"=true) (k14:keepIn K (.ref f14)=true)
  (a15:nsIn K mainGlobals "_law_refused"=some (some (.ref f15))) (l15:K.lookup f15=some ⟨tY,rW,.func (fnOf "_law_refused" "_law_refused" (Az Fe) (Av Fe) (Ae Fe) .none uU wg qW xY mz wR),qb⟩) (c15:codeIn K mz "_law_refused"=true) (k15:keepIn K (.ref f15)=true)
  (a16:nsIn K mainGlobals "_law_refusals"=some (some (.ref f16))) (l16:K.lookup f16=some ⟨tX,rT,.func (fnOf "_law_refusals" "_law_refusals" (Az DQ) (Av DQ) (Ae DQ) .none uT v9 qU xX mq wQ),p8⟩) (c16:codeIn K mq "_law_refusals"=true) (k16:keepIn K (.ref f16)=true)
  (a17:nsIn K mainGlobals "_law_beat"=some (some (.ref f17))) (l17:K.lookup f17=some ⟨tW,rR,.func (fnOf "_law_beat" "_law_beat" (Az Hf) (Av Hf) (Ae Hf) .none uR v8 qT xW mj wO),p7⟩) (c17:codeIn K mj "_law_beat"=true) (k17:keepIn K (.ref f17)=true)
  (a18:nsIn K mainGlobals "_law_written"=some (some (.ref f18))) (l18:K.lookup f18=some ⟨tV,rQ,.func (fnOf "_law_written" "_law_written" (Az Du) (Av Du) (Ae Du) .none uQ v7 qR xV lZ wN),pZ⟩) (c18:codeIn K lZ "_law_written"=true) (k18:keepIn K (.ref f18)=true)
  (a19:nsIn K mainGlobals "_law_stands"=some (some (.ref f19))) (l19:K.lookup f19=some ⟨tU,rP,.func (fnOf "_law_stands" "_law_stands" (Az FP) (Av FP) (Ae FP) .none uP vZ qQ xU lY wM),pY⟩) (c19:codeIn K lY "_law_stands"=true) (k19:keepIn K (.ref f19)=true)
  (a20:nsIn K mainGlobals "_law_deed"=some (some (.ref f20))) (l20:K.lookup f20=some ⟨tR,rO,.func (fnOf "_law_deed" "_law_deed" (Az G9) (Av G9) (Ae G9) .none uO vY qP xT lX wL),pX⟩) (c20:codeIn K lX "_law_deed"=true) (k20:keepIn K (.ref f20)=true)
  (a21:nsIn K mainGlobals "law"=some (some (.ref f21))) (l21:K.lookup f21=some ⟨tQ,rN,.func (fnOf "law" "law" (Az Il) (Av Il) (Ae Il) .none j6 lF jy mO dj lG),pW⟩) (c21:codeIn K dj "law"=true) (k21:keepIn K (.ref f21)=true)
  (pg:plainGet K C Str.empty=true) (hd:hasDictIn K C=true) (po:PySem.W.plainOver K C=true) (sa:findIn K (.ref C) "__setattr__"=some (some (.builtin "object.__setattr__"))) (mk:PySem.W.makesIn K C=true) (kc:keepIn K (.ref C)=true)
  (n0:findIn K (.ref C) "many"=some none)
  (n1:findIn K (.ref C) "logs"=some none)
  (n2:findIn K (.ref C) "tied"=some none)
  (cW:nsIn K mainGlobals "MOST_SIGNS"=some (some (.int 20 tk0)))
  (z0:nsIn K mainGlobals "isinstance"=some none)
  (z1:nsIn K mainGlobals "int"=some none)
  (z2:nsIn K mainGlobals "bool"=some none)
  (z3:nsIn K mainGlobals "tuple"=some none)
  (z4:nsIn K mainGlobals "list"=some none)
  (z5:nsIn K mainGlobals "str"=some none)
  (z6:nsIn K mainGlobals "len"=some none)
  (z7:nsIn K mainGlobals "all"=some none)
  (z8:nsIn K mainGlobals "abs"=some none)
  (z9:nsIn K mainGlobals "max"=some none)
  (z10:nsIn K mainGlobals "min"=some none)
  (z11:nsIn K mainGlobals "range"=some none)
  (z12:nsIn K mainGlobals "sorted"=some none)
  (z13:nsIn K mainGlobals "any"=some none)
  (z14:nsIn K mainGlobals "sum"=some none)
  (z15:nsIn K mainGlobals "enumerate"=some none)
  (z16:nsIn K mainGlobals "zip"=some none)
  (z17:nsIn K mainGlobals "reversed"=some none)
  (z18:nsIn K mainGlobals "dict"=some none)
  (z19:nsIn K mainGlobals "ord"=some none)
  {tkS:Tok} {hc u0 u1 u2 u3 u4 u5 u6 u7 u8 u9 u10 u11 u12:Addr}
  (aSG:nsIn K mainGlobals "SIGNS"=some (some (.str " !\"#$&'()*+,-./0123456789:;<=>?@ABCDEFGHIJKLMNOPQRSTUVWXYZ[\\]^_`abcdefghijklmnopqrstuvwxyz{|}~" tkS)))
  (xzv:nsIn K mainGlobals "ValueError"=some none)
  (xeh:nsIn K mainGlobals "HouseError"=some (some (.ref hc)))
  (xe0:nsIn K mainGlobals "NoPlan"=some (some (.ref u0)))
  (xe1:nsIn K mainGlobals "NoText"=some (some (.ref u1)))
  (xe2:nsIn K mainGlobals "NoStretch"=some (some (.ref u2)))
  (xe3:nsIn K mainGlobals "NoSpot"=some (some (.ref u3)))
  (xe4:nsIn K mainGlobals "NoOpener"=some (some (.ref u4)))
  (xe5:nsIn K mainGlobals "NoAddress"=some (some (.ref u5)))
  (xe6:nsIn K mainGlobals "NoRules"=some (some (.ref u6)))
  (xe7:nsIn K mainGlobals "NoHand"=some (some (.ref u7)))
  (xe8:nsIn K mainGlobals "NoPanel"=some (some (.ref u8)))
  (xe9:nsIn K mainGlobals "NoLink"=some (some (.ref u9)))
  (Zh:nsIn K mainGlobals "NoLog"=some (some (.ref u10)))
  (Zg:nsIn K mainGlobals "NoDeed"=some (some (.ref u11)))
  (Zf:nsIn K mainGlobals "NoRow"=some (some (.ref u12)))
  (xhx:excIn K hc [.type "ValueError",.type "Exception",.type "BaseException",.type "object"] "ValueError.__new__"=true)
  (xha:findIn K (.ref hc) "__getattribute__"=some (some (.builtin "BaseException.__getattribute__")))
  (xhn:findIn K (.ref hc) "__getattr__"=some none)
  (xhc:findIn K (.ref hc) "__class__"=some (some (.builtin "object.__class__")))
  (xho:subIn K (.ref hc) (.type "object")=some true)
  (xhb:subIn K (.ref hc) (.type "BaseException")=some true)
  (xhk:keepIn K (.ref hc)=true)
  (bZ:excIn K u1 [.type "ValueError",.type "Exception",.type "BaseException",.type "object"] "ValueError.__new__"=true)
  (cC:findIn K (.ref u1) "__getattribute__"=some (some (.builtin "BaseException.__getattribute__")))
  (cj:findIn K (.ref u1) "__getattr__"=some none)
  (cA:findIn K (.ref u1) "__class__"=some (some (.builtin "object.__class__")))
  (cg:subIn K (.ref u1) (.type "object")=some true)
  (cB:subIn K (.ref u1) (.type "BaseException")=some true)
  (cu:keepIn K (.ref u1)=true)
  (bK:subIn K (.ref u1) (.ref hc)=some true)
  (bY:kitOne K (.ref u1) (.ref u0)=some false)
  (bW:kitOne K (.ref u1) (.ref u1)=some true)
  (bV:kitOne K (.ref u1) (.ref u2)=some false)
  (bU:kitOne K (.ref u1) (.ref u3)=some false)
  (bT:kitOne K (.ref u1) (.ref u4)=some false)
  (bR:kitOne K (.ref u1) (.ref u5)=some false)
  (bQ:kitOne K (.ref u1) (.ref u6)=some false)
  (bO:kitOne K (.ref u1) (.ref u7)=some false)
  (bN:kitOne K (.ref u1) (.ref u8)=some false)
  (bM:kitOne K (.ref u1) (.ref u9)=some false)
  (Wq:kitOne K (.ref u1) (.ref u10)=some false)
  (Wo:kitOne K (.ref u1) (.ref u11)=some false)
  (Wn:kitOne K (.ref u1) (.ref u12)=some false)
  (bL:kitOne K (.ref u1) (.type "ValueError")=some true)
  (bC:excIn K u8 [.type "ValueError",.type "Exception",.type "BaseException",.type "object"] "ValueError.__new__"=true)
  (bJ:findIn K (.ref u8) "__getattribute__"=some (some (.builtin "BaseException.__getattribute__")))
  (bF:findIn K (.ref u8) "__getattr__"=some none)
  (bH:findIn K (.ref u8) "__class__"=some (some (.builtin "object.__class__")))
  (bD:subIn K (.ref u8) (.type "object")=some true)
  (bI:subIn K (.ref u8) (.type "BaseException")=some true)
  (bG:keepIn K (.ref u8)=true)
  (aR:subIn K (.ref u8) (.ref hc)=some true)
  (bB:kitOne K (.ref u8) (.ref u0)=some false)
  (bA:kitOne K (.ref u8) (.ref u1)=some false)
  (bw:kitOne K (.ref u8) (.ref u2)=some false)
  (bh:kitOne K (.ref u8) (.ref u3)=some false)
  (bf:kitOne K (.ref u8) (.ref u4)=some false)
  (aZ:kitOne K (.ref u8) (.ref u5)=some false)
  (aY:kitOne K (.ref u8) (.ref u6)=some false)
  (aX:kitOne K (.ref u8) (.ref u7)=some false)
  (aW:kitOne K (.ref u8) (.ref u8)=some true)
  (aV:kitOne K (.ref u8) (.ref u9)=some false)
  (Wm:kitOne K (.ref u8) (.ref u10)=some false)
  (Wk:kitOne K (.ref u8) (.ref u11)=some false)
  (Wj:kitOne K (.ref u8) (.ref u12)=some false)
  (aU:kitOne K (.ref u8) (.type "ValueError")=some true)
  (aJ:excIn K u9 [.type "ValueError",.type "Exception",.type "BaseException",.type "object"] "ValueError.__new__"=true)
  (aQ:findIn K (.ref u9) "__getattribute__"=some (some (.builtin "BaseException.__getattribute__")))
  (aL:findIn K (.ref u9) "__getattr__"=some none)
  (aO:findIn K (.ref u9) "__class__"=some (some (.builtin "object.__class__")))
  (aK:subIn K (.ref u9) (.type "object")=some true)
  (aP:subIn K (.ref u9) (.type "BaseException")=some true)
  (aN:keepIn K (.ref u9)=true)
  (Z9:subIn K (.ref u9) (.ref hc)=some true)
  (aH:kitOne K (.ref u9) (.ref u0)=some false)
  (aG:kitOne K (.ref u9) (.ref u1)=some false)
  (aF:kitOne K (.ref u9) (.ref u2)=some false)
  (aD:kitOne K (.ref u9) (.ref u3)=some false)
  (aB:kitOne K (.ref u9) (.ref u4)=some false)
  (aA:kitOne K (.ref u9) (.ref u5)=some false)
  (au:kitOne K (.ref u9) (.ref u6)=some false)
  (aq:kitOne K (.ref u9) (.ref u7)=some false)
  (ao:kitOne K (.ref u9) (.ref u8)=some false)
  (ak:kitOne K (.ref u9) (.ref u9)=some true)
  (Wi:kitOne K (.ref u9) (.ref u10)=some false)
  (Wh:kitOne K (.ref u9) (.ref u11)=some false)
  (Wg:kitOne K (.ref u9) (.ref u12)=some false)
  (aj:kitOne K (.ref u9) (.type "ValueError")=some true)
  : ∃fd:FuncData,(∀(s:Shared) (v:Value),BindsTo s fd ⟨[v],[]⟩ [("_law_script",v)])/\∀base:Heap,K.In base->base.Ns mainGlobals mg->DK l.prog w K mg base CX0 9 fa fd eG (Nq K):=by
 have e:=hfa.symm.trans (mg_of X G a21);cases e;have TN:Nm mg:=⟨mg_none_of X G z0,mg_none_of X G z1,mg_none_of X G z2,mg_none_of X G z3,mg_none_of X G z4,mg_none_of X G z5,mg_none_of X G z6,mg_none_of X G z7,mg_none_of X G z8,mg_none_of X G z9,mg_none_of X G z10,mg_none_of X G z11,mg_none_of X G z12,mg_none_of X G z13,mg_none_of X G z14,mg_none_of X G z15,mg_none_of X G z16,mg_none_of X G z17,mg_none_of X G z18,mg_none_of X G z19⟩;have T:Tx K mg C:={ toTj:={ toNm:=TN,SIGNS:=⟨_,mg_of X G aSG,⟨_,rq⟩⟩,MOST_SIGNS:=⟨_,mg_of X G cW,⟨_,rq⟩⟩ },cl:=⟨pg,hd,po,sa⟩,mgC:=mg_of X G aC,JL:=n0,G4:=n1,N8:=n2 };have XE:Er K mg hc u0 u1 u2 u3 u4 u5 u6 u7 u8 u9 u10 u11 u12:=⟨mg_none_of X G xzv,mg_of X G xeh,⟨xhx,xha,xhn,xhc,xho,xhb,xhk⟩,mg_of X G xe0,mg_of X G xe1,mg_of X G xe2,mg_of X G xe3,mg_of X G xe4,mg_of X G xe5,mg_of X G xe6,mg_of X G xe7,mg_of X G xe8,mg_of X G xe9,mg_of X G Zh,mg_of X G Zg,mg_of X G Zf⟩;have Fz:Knd K hc u1 [u0,u1,u2,u3,u4,u5,u6,u7,u8,u9,u10,u11,u12] 1:=⟨⟨bZ,cC,cj,cA,cg,cB,cu⟩,bK,Wc (j:=1) bY bW bV bU bT bR bQ bO bN bM Wq Wo Wn,bL⟩;have CN:Knd K hc u8 [u0,u1,u2,u3,u4,u5,u6,u7,u8,u9,u10,u11,u12] 8:=⟨⟨bC,bJ,bF,bH,bD,bI,bG⟩,aR,Wc (j:=8) bB bA bw bh bf aZ aY aX aW aV Wm Wk Wj,aU⟩;have Dh:Knd K hc u9 [u0,u1,u2,u3,u4,u5,u6,u7,u8,u9,u10,u11,u12] 9:=⟨⟨aJ,aQ,aL,aO,aK,aP,aN⟩,Z9,Wc (j:=9) aH aG aF aD aB aA au aq ao ak Wi Wh Wg,aj⟩;have Fm1:=Fb (st:=Ci) lm1 cm1 km1;have bm1:=Fm1.binds (ps:=CQ) λ_ _ _ _ _ _ us hl=>match us,hl with | [_,_],_=>rfl
 have W0:∃f fd,Fun K "__init__" "Ring.__init__" Ci f fd/\Mk K C f/\Binds K fd CQ []:=⟨fm1,_,Fm1,⟨mk,am1,im1,kc⟩,bm1⟩;have Fm2:=Fb (st:=BW) lm2 cm2 km2;have bm2:=Fm2.binds (ps:=BX) λ_ _ _ _ _ _ us hl=>match us,hl with | [_,_],_=>rfl
 have Qo:Cu K C "check_panel" "Ring.check_panel" BW BX:=⟨fm2,_,Fm2,⟨am2,im2,km2⟩,bm2⟩;have Fm3:=Fb (st:=Ef) lm3 cm3 km3;have bm3:=Fm3.binds (ps:=Ek) λ_ _ _ _ _ _ us hl=>match us,hl with | [_,_,_],_=>rfl
 have oY:Cu K C "tie" "Ring.tie" Ef Ek:=⟨fm3,_,Fm3,⟨am3,im3,km3⟩,bm3⟩;have Fm4:=Fb (st:=Eh) lm4 cm4 km4;have bm4:=Fm4.binds (ps:=El) λ_ _ _ _ _ _ us hl=>match us,hl with | [_,_],_=>rfl
 have oZ:Cu K C "cut" "Ring.cut" Eh El:=⟨fm4,_,Fm4,⟨am4,im4,km4⟩,bm4⟩;have Fm5:=Fb (st:=Dv) lm5 cm5 km5;have bm5:=Fm5.binds (ps:=Dz) λ_ _ _ _ _ _ us hl=>match us,hl with | [_,_],_=>rfl
 have mX:Cu K C "mend" "Ring.mend" Dv Dz:=⟨fm5,_,Fm5,⟨am5,im5,km5⟩,bm5⟩;have Fm6:=Fb (st:=CK) lm6 cm6 km6;have bm6:=Fm6.binds (ps:=Df) λ_ _ _ _ _ _ us hl=>match us,hl with | [_],_=>rfl
 have iU:Cu K C "pairs" "Ring.pairs" CK Df:=⟨fm6,_,Fm6,⟨am6,im6,km6⟩,bm6⟩;have Fm7:=Fb (st:=CJ) lm7 cm7 km7;have bm7:=Fm7.binds (ps:=Dd) λ_ _ _ _ _ _ us hl=>match us,hl with | [_,_,_],_=>rfl
 have iR:Cu K C "write" "Ring.write" CJ Dd:=⟨fm7,_,Fm7,⟨am7,im7,km7⟩,bm7⟩;have Fm8:=Fb (st:=Dw) lm8 cm8 km8;have bm8:=Fm8.binds (ps:=DG) λ_ _ _ _ _ _ us hl=>match us,hl with | [_],_=>rfl
 have mY:Cu K C "beat" "Ring.beat" Dw DG:=⟨fm8,_,Fm8,⟨am8,im8,km8⟩,bm8⟩;have Fm9:=Fb (st:=CT) lm9 cm9 km9;have bm9:=Fm9.binds (ps:=Cq) λ_ _ _ _ _ _ us hl=>match us,hl with | [_,_],_=>rfl
 have dH:Cu K C "log_of" "Ring.log_of" CT Cq:=⟨fm9,_,Fm9,⟨am9,im9,km9⟩,bm9⟩;have mZ:=Fb (st:=Cg) Z5 dg Wb;have wZ:=mZ.binds (ps:=Dp) λ_ _ _ _ _ _ us hl=>match us,hl with | [_],_=>rfl
 have dI:Cu K C "houses" "Ring.houses" Cg Dp:=⟨Sd,_,mZ,⟨dD,cD,Wb⟩,wZ⟩;have W5:Code K mg "is_whole" FT GX:=Code.of X G a1 l1 c1 k1 λ_ _ _ _ _ _ us hl=>match us,hl with | [_],_=>rfl
 have Uq:Code K mg "is_within" Fi Fj:=Code.of X G a2 l2 c2 k2 λ_ _ _ _ _ _ us hl=>match us,hl with | [_,_,_],_=>rfl
 have Ze:Code K mg "is_line" GF Hz:=Code.of X G a3 l3 c3 k3 λ_ _ _ _ _ _ us hl=>match us,hl with | [_,_,_],_=>rfl
 have dX:Code K mg "joined" Hg Ji:=Code.of X G a4 l4 c4 k4 λ_ _ _ _ _ _ us hl=>match us,hl with | [_,_],_=>rfl
 have iV:Code K mg "_law_bag" Iz JH:=Code.of X G a5 l5 c5 k5 λ_ _ _ _ _ _ us hl=>match us,hl with | [_,_],_=>rfl
 have dM:Code K mg "_law_take" G7 Dc:=Code.of X G a6 l6 c6 k6 λ_ _ _ _ _ _ us hl=>match us,hl with | [_,_],_=>rfl
 have Zc:Code K mg "_law_whole" GC Hx:=Code.of X G a7 l7 c7 k7 λ_ _ _ _ _ _ us hl=>match us,hl with | [_],_=>rfl
 have dO:Code K mg "_law_kind" G8 Jf:=Code.of X G a8 l8 c8 k8 λ_ _ _ _ _ _ us hl=>match us,hl with | [_],_=>rfl
 have Zd:Code K mg "_law_signs" GD Hy:=Code.of X G a9 l9 c9 k9 λ_ _ _ _ _ _ us hl=>match us,hl with | [],_=>rfl
 have dJ:Code K mg "_law_text" Gv Hi:=Code.of X G a10 l10 c10 k10 λ_ _ _ _ _ _ us hl=>match us,hl with | [_],_=>rfl
 have Uo:Code K mg "_law_no_text" Fg Gj:=Code.of X G a11 l11 c11 k11 λ_ _ _ _ _ _ us hl=>match us,hl with | [_,_],_=>rfl
 have Qp:Code K mg "_law_none_such" Dm EY:=Code.of X G a12 l12 c12 k12 λ_ _ _ _ _ _ us hl=>match us,hl with | [_,_],_=>rfl
 have Tt:Code K mg "_law_is_entry" DR DW:=Code.of X G a13 l13 c13 k13 λ_ _ _ _ _ _ us hl=>match us,hl with | [_],_=>rfl
 have W4:Code K mg "_law_is_log" FQ GR:=Code.of X G a14 l14 c14 k14 λ_ _ _ _ _ _ us hl=>match us,hl with | [_,_],_=>rfl
 have Um:Code K mg "_law_refused" Fe Gi:=Code.of X G a15 l15 c15 k15 λ_ _ _ _ _ _ us hl=>match us,hl with | [_,_,_,_],_=>rfl
 have Tr:Code K mg "_law_refusals" DQ Fw:=Code.of X G a16 l16 c16 k16 λ_ _ _ _ _ _ us hl=>match us,hl with | [_,_,_],_=>rfl
 have dU:Code K mg "_law_beat" Hf Jh:=Code.of X G a17 l17 c17 k17 λ_ _ _ _ _ _ us hl=>match us,hl with | [_,_],_=>rfl
 have Ul:Code K mg "_law_written" Du Gh:=Code.of X G a18 l18 c18 k18 λ_ _ _ _ _ _ us hl=>match us,hl with | [_,_,_,_],_=>rfl
 have W3:Code K mg "_law_stands" FP GQ:=Code.of X G a19 l19 c19 k19 λ_ _ _ _ _ _ us hl=>match us,hl with | [_,_],_=>rfl
 have dR:Code K mg "_law_deed" G9 Jg:=Code.of X G a20 l20 c20 k20 λ_ _ _ _ _ _ us hl=>match us,hl with | [_,_,_,_,_],_=>rfl
 have o7:=Fb (st:=Il) l21 c21 k21;refine⟨fnOf "law" "law" (Az Il) (Av Il) (Ae Il) .none j6 lF jy mO dj lG,λs v=>.of_eq rfl,λbase _ _=>?_⟩;have Mh:=ZW (P:=l.prog) (w:=w) (base:=base) iV TN;have Bb:=XF (P:=l.prog) (w:=w) (base:=base) dM TN;have h_kind:=gK (P:=l.prog) (w:=w) (base:=base) dO TN XE;have iG:=T7 (P:=l.prog) (w:=w) (base:=base) W5 TN;have RQ:=Rp (P:=l.prog) (w:=w) (base:=base) Uq TN iG;have kW:=V1 (P:=l.prog) (w:=w) (base:=base) Ze T.toTj;have Km:=XH (P:=l.prog) (w:=w) (base:=base) dX TN;have kY:=gM (P:=l.prog) (w:=w) (base:=base) W0 T;have Va:=ZX (P:=l.prog) (w:=w) (base:=base) Qo T XE CN RQ;have fB:=jL (P:=l.prog) (w:=w) (base:=base) oY T XE Dh RQ;have fC:=jN (P:=l.prog) (w:=w) (base:=base) oZ T fB;have Yr:=gJ (P:=l.prog) (w:=w) (base:=base) mX T fB;have U8:=ZS (P:=l.prog) (w:=w) (base:=base) iU T;have U7:=ZP (P:=l.prog) (w:=w) (base:=base) iR T XE Fz Va kW;have Yv:=gP (P:=l.prog) (w:=w) (base:=base) mY T U8 Km;have Wz:=XD (P:=l.prog) (w:=w) (base:=base) dH T Va;have cQ:=V2 (P:=l.prog) (w:=w) (base:=base) dI T U8;have vG:=ZQ (P:=l.prog) (w:=w) (base:=base) Zc TN;have iH:=ZR (P:=l.prog) (w:=w) (base:=base) Zd TN;have Yp:=gG (P:=l.prog) (w:=w) (base:=base) dJ TN Bb iH;have U9:=T8 (P:=l.prog) (w:=w) (base:=base) Tt TN vG;have Yo:=VP (P:=l.prog) (w:=w) (base:=base) Ul T Bb Yp U9 U7;have cP:=XJ (P:=l.prog) (w:=w) (base:=base) W4 TN U9;have cM:=XC (P:=l.prog) (w:=w) (base:=base) W3 T cP Wz;have iI:=ZV (P:=l.prog) (w:=w) (base:=base) dU TN;have kO:=gH (P:=l.prog) (w:=w) (base:=base) Qp TN Bb;have vD:=V0 (P:=l.prog) (w:=w) (base:=base) Uo TN Bb;have Yq:=VR (P:=l.prog) (w:=w) (base:=base) Um T XE Fz CN Dh U7 fC Yr Wz h_kind;have Wx:=T6 (P:=l.prog) (w:=w) (base:=base) Tr TN Bb Yp vD kO Yq;have kZ:=gO (P:=l.prog) (w:=w) (base:=base) dR T Bb Yo Wx iI fC Yr Yv;exact jM o7 T Mh Bb kY kZ cM Yv cQ Wz
theorem walk {l:PySem.W.OpenLaw} {q:Program} {loose:YF} {XP:(YB)->Heap->Prop} {YP:World->Heap->Prop} {d:DefRec} {K:Params->YD} (hn:l.most=some 63) (hdf:d.params.defaults=[])
  (hY:∀(w:World) (h:Heap),YP w h->(K w.params).In h)
  (F:∀(w:World) (mg:YB) (fa:Addr) (h:Heap),(K w.params).In h->h.Ns mainGlobals mg->mg d.name=some (.ref fa) ->
   ∃fd:FuncData,(∀(s:Shared) (u:Value),BindsTo s fd ⟨[u],[]⟩ [("_law_script",u)])/\∀base:Heap,(K w.params).In base->base.Ns mainGlobals mg->DK l.prog w (K w.params) mg base CX0 9 fa fd eG (Nq (K w.params))) :
  PySem.W.WalkO q loose XP YP l.row.toRowW d [] (λf vs=>PySem.call f vs):=
 L2.fO (n:=63) (k:=9) (x:="_law_script") (CX:=λ_=>CX0) (sp:=λw=>Nq (K w.params)) hn (by decide) hdf ⟨rq,by decide,by decide⟩ hY F (λ_ _ a ns hl _ hS=>⟨a,ns,rq,hS,hl,λ_=>rfl⟩) λ_ _ _ _ _ z=>z
end K40
/-! names that stay free of quick twins: the head comes through without them, and the compiled text is much smaller -/
namespace PySem.W.Fast
def tw7625134349251072721:=0
def tw2204560482724815347:=0
def tw17030444702323385570:=0
def tw8589723069605712425:=0
def tw3656690090634138638:=0
def tw12601961983033013932:=0
def tw17516619465374459542:=0
def tw8166811043972941649:=0
def tw6908009778732252002:=0
def tw10084982741398933460:=0
def tw7650230477749094321:=0
def tw13486196329351179832:=0
def tw15400619459822776707:=0
def tw11272709962022436121:=0
def tw5858115617720538738:=0
def tw4081010309817499240:=0
def tw9415353362609685065:=0
def tw7965817580904067733:=0
def tw7732165243381103607:=0
def tw4084526405833752013:=0
def tw9667592060856186635:=0
def tw3496909389090453577:=0
def tw15659374881055817445:=0
def tw3572152074436286783:=0
def tw5706774623046408338:=0
def tw4748022518811718000:=0
def tw139097570823914103:=0
def tw9054989794392333635:=0
def tw3647176875907311184:=0
def tw15719479709064740179:=0
def tw3515104378286181247:=0
def tw11188754512110561396:=0
def tw13783853165125791509:=0
def tw10822786998152743315:=0
def tw4566861163948900988:=0
def tw12660772739630741611:=0
def tw12320976180775472082:=0
def tw10615865301545041013:=0
def tw3540712726539839494:=0
def tw17587722614935748497:=0
def tw11450433389101897942:=0
def tw13147225572820766308:=0
def tw18089389947381143072:=0
def tw9082674172165508433:=0
def tw5978209464378177539:=0
def tw492908707350952976:=0
def tw16390730424128774400:=0
def tw17485107882432908336:=0
def tw18203757696295360175:=0
def tw12510093423113422073:=0
def tw7122067792466322363:=0
def tw14300886407526042350:=0
def tw10520176937343329354:=0
def tw11840986010183599409:=0
def tw11648907085931354762:=0
def tw14586190823052661627:=0
def tw8131425169267137642:=0
def tw6209926293964157720:=0
def tw11346450130808938412:=0
def tw6975768112496516798:=0
def tw3893763903348649741:=0
def tw7962564126993222814:=0
def tw14037325457898076977:=0
def tw2120121170672088453:=0
def tw14426310850266070823:=0
def tw13652113059112485777:=0
def tw18177995944935091731:=0
def tw2509669360778582921:=0
def tw3922099933373881174:=0
def tw2645681497264849911:=0
def tw14044070448412435286:=0
def tw13013771160505015607:=0
def tw7852901244769462791:=0
def tw11100799432434237484:=0
def tw15503875312621774232:=0
def tw4615373604397748682:=0
def tw876751184076883896:=0
def tw186834540627672778:=0
def tw12073415736397982180:=0
def tw11186105992746029203:=0
def tw4273426466594317958:=0
def tw9296817987835891190:=0
def tw9953838524108880877:=0
def tw12147107527683824222:=0
def tw5387943606845661424:=0
def tw9881229632449587717:=0
def tw17328847246515540080:=0
def tw15763992507386069214:=0
def tw16676231499517341295:=0
def tw10723207956403047626:=0
def tw678142692804000111:=0
def tw17834107404338328975:=0
def tw2414893395745884455:=0
def tw2776273730017005838:=0
def tw4378808867316079753:=0
def tw4425816176159034078:=0
def tw8228950883512717104:=0
def tw3088347457715139564:=0
end PySem.W.Fast
open PySem PySem.W PyProof.Rows
set_option maxRecDepth 100000 in
set_option maxHeartbeats 0 in
theorem PySem.Challenge.cw_warnloop_k40_stamps_holds : PySem.Challenge.rw_warnloop_k40_stamps.Holds := by
 w_on;o_law;k_head;(case hw=>w_witness2)
 k_fill
 refine K40.walk (l:=PySem.Challenge.rw_warnloop_k40_stamps) rfl rfl (λw h Y=>PySem.W.kIn_of Y) ?F
 case F=>
  intro w mg fa h KX G hmg
  refine' K40.all_mk KX G hmg ?aC ?am1 ?im1 ?lm1 ?cm1 ?km1 ?am2 ?im2 ?lm2 ?cm2 ?km2 ?am3 ?im3 ?lm3 ?cm3 ?km3 ?am4 ?im4 ?lm4 ?cm4 ?km4 ?am5 ?im5 ?lm5 ?cm5 ?km5 ?am6 ?im6 ?lm6 ?cm6 ?km6 ?am7 ?im7 ?lm7 ?cm7 ?km7 ?am8 ?im8 ?lm8 ?cm8 ?km8 ?am9 ?im9 ?lm9 ?cm9 ?km9 ?dD ?cD ?Z5 ?dg ?Wb ?a1 ?l1 ?c1 ?k1 ?a2 ?l2 ?c2 ?k2 ?a3 ?l3 ?c3 ?k3 ?a4 ?l4 ?c4 ?k4 ?a5 ?l5 ?c5 ?k5 ?a6 ?l6 ?c6 ?k6 ?a7 ?l7 ?c7 ?k7 ?a8 ?l8 ?c8 ?k8 ?a9 ?l9 ?c9 ?k9 ?a10 ?l10 ?c10 ?k10 ?a11 ?l11 ?c11 ?k11 ?a12 ?l12 ?c12 ?k12 ?a13 ?l13 ?c13 ?k13 ?a14 ?l14 ?c14 ?k14 ?a15 ?l15 ?c15 ?k15 ?a16 ?l16 ?c16 ?k16 ?a17 ?l17 ?c17 ?k17 ?a18 ?l18 ?c18 ?k18 ?a19 ?l19 ?c19 ?k19 ?a20 ?l20 ?c20 ?k20 ?a21 ?l21 ?c21 ?k21 ?pg ?hd ?po ?sa ?mk ?kc ?n0 ?n1 ?n2 ?cW ?z0 ?z1 ?z2 ?z3 ?z4 ?z5 ?z6 ?z7 ?z8 ?z9 ?z10 ?z11 ?z12 ?z13 ?z14 ?z15 ?z16 ?z17 ?z18 ?z19 ?aSG ?xzv ?xeh ?xe0 ?xe1 ?xe2 ?xe3 ?xe4 ?xe5 ?xe6 ?xe7 ?xe8 ?xe9 ?Zh ?Zg ?Zf ?xhx ?xha ?xhn ?xhc ?xho ?xhb ?xhk ?bZ ?cC ?cj ?cA ?cg ?cB ?cu ?bK ?bY ?bW ?bV ?bU ?bT ?bR ?bQ ?bO ?bN ?bM ?Wq ?Wo ?Wn ?bL ?bC ?bJ ?bF ?bH ?bD ?bI ?bG ?aR ?bB ?bA ?bw ?bh ?bf ?aZ ?aY ?aX ?aW ?aV ?Wm ?Wk ?Wj ?aU ?aJ ?aQ ?aL ?aO ?aK ?aP ?aN ?Z9 ?aH ?aG ?aF ?aD ?aB ?aA ?au ?aq ?ao ?ak ?Wi ?Wh ?Wg ?aj
  (case aC=>k_is)
  (case am1=>k_is)
  (case im1=>k_is)
  (case lm1=>k_is)
  (case cm1=>k_is)
  (case km1=>k_is)
  (case am2=>k_is)
  (case im2=>k_is)
  (case lm2=>k_is)
  (case cm2=>k_is)
  (case km2=>k_is)
  (case am3=>k_is)
  (case im3=>k_is)
  (case lm3=>k_is)
  (case cm3=>k_is)
  (case km3=>k_is)
  (case am4=>k_is)
  (case im4=>k_is)
  (case lm4=>k_is)
  (case cm4=>k_is)
  (case km4=>k_is)
  (case am5=>k_is)
  (case im5=>k_is)
  (case lm5=>k_is)
  (case cm5=>k_is)
  (case km5=>k_is)
  (case am6=>k_is)
  (case im6=>k_is)
  (case lm6=>k_is)
  (case cm6=>k_is)
  (case km6=>k_is)
  (case am7=>k_is)
  (case im7=>k_is)
  (case lm7=>k_is)
  (case cm7=>k_is)
  (case km7=>k_is)
  (case am8=>k_is)
  (case im8=>k_is)
  (case lm8=>k_is)
  (case cm8=>k_is)
  (case km8=>k_is)
  (case am9=>k_is)
  (case im9=>k_is)
  (case lm9=>k_is)
  (case cm9=>k_is)
  (case km9=>k_is)
  (case dD=>k_is)
  (case cD=>k_is)
  (case Z5=>k_is)
  (case dg=>k_is)
  (case Wb=>k_is)
  (case a1=>k_is)
  (case l1=>k_is)
  (case c1=>k_is)
  (case k1=>k_is)
  (case a2=>k_is)
  (case l2=>k_is)
  (case c2=>k_is)
  (case k2=>k_is)
  (case a3=>k_is)
  (case l3=>k_is)
  (case c3=>k_is)
  (case k3=>k_is)
  (case a4=>k_is)
  (case l4=>k_is)
  (case c4=>k_is)
  (case k4=>k_is)
  (case a5=>k_is)
  (case l5=>k_is)
  (case c5=>k_is)
  (case k5=>k_is)
  (case a6=>k_is)
  (case l6=>k_is)
  (case c6=>k_is)
  (case k6=>k_is)
  (case a7=>k_is)
  (case l7=>k_is)
  (case c7=>k_is)
  (case k7=>k_is)
  (case a8=>k_is)
  (case l8=>k_is)
  (case c8=>k_is)
  (case k8=>k_is)
  (case a9=>k_is)
  (case l9=>k_is)
  (case c9=>k_is)
  (case k9=>k_is)
  (case a10=>k_is)
  (case l10=>k_is)
  (case c10=>k_is)
  (case k10=>k_is)
  (case a11=>k_is)
  (case l11=>k_is)
  (case c11=>k_is)
  (case k11=>k_is)
  (case a12=>k_is)
  (case l12=>k_is)
  (case c12=>k_is)
  (case k12=>k_is)
  (case a13=>k_is)
  (case l13=>k_is)
  (case c13=>k_is)
  (case k13=>k_is)
  (case a14=>k_is)
  (case l14=>k_is)
  (case c14=>k_is)
  (case k14=>k_is)
  (case a15=>k_is)
  (case l15=>k_is)
  (case c15=>k_is)
  (case k15=>k_is)
  (case a16=>k_is)
  (case l16=>k_is)
  (case c16=>k_is)
  (case k16=>k_is)
  (case a17=>k_is)
  (case l17=>k_is)
  (case c17=>k_is)
  (case k17=>k_is)
  (case a18=>k_is)
  (case l18=>k_is)
  (case c18=>k_is)
  (case k18=>k_is)
  (case a19=>k_is)
  (case l19=>k_is)
  (case c19=>k_is)
  (case k19=>k_is)
  (case a20=>k_is)
  (case l20=>k_is)
  (case c20=>k_is)
  (case k20=>k_is)
  (case a21=>k_is)
  (case l21=>k_is)
  (case c21=>k_is)
  (case k21=>k_is)
  (case pg=>k_is)
  (case hd=>k_is)
  (case po=>k_is)
  (case sa=>k_is)
  (case mk=>k_is)
  (case kc=>k_is)
  (case n0=>k_is)
  (case n1=>k_is)
  (case n2=>k_is)
  (case cW=>k_is)
  (case z0=>k_is)
  (case z1=>k_is)
  (case z2=>k_is)
  (case z3=>k_is)
  (case z4=>k_is)
  (case z5=>k_is)
  (case z6=>k_is)
  (case z7=>k_is)
  (case z8=>k_is)
  (case z9=>k_is)
  (case z10=>k_is)
  (case z11=>k_is)
  (case z12=>k_is)
  (case z13=>k_is)
  (case z14=>k_is)
  (case z15=>k_is)
  (case z16=>k_is)
  (case z17=>k_is)
  (case z18=>k_is)
  (case z19=>k_is)
  (case aSG=>k_is)
  (case xzv=>k_is)
  (case xeh=>k_is)
  (case xe0=>k_is)
  (case xe1=>k_is)
  (case xe2=>k_is)
  (case xe3=>k_is)
  (case xe4=>k_is)
  (case xe5=>k_is)
  (case xe6=>k_is)
  (case xe7=>k_is)
  (case xe8=>k_is)
  (case xe9=>k_is)
  (case Zh=>k_is)
  (case Zg=>k_is)
  (case Zf=>k_is)
  (case xhx=>k_exc)
  (case xha=>k_is)
  (case xhn=>k_is)
  (case xhc=>k_is)
  (case xho=>k_is)
  (case xhb=>k_is)
  (case xhk=>k_is)
  (case bZ=>k_exc)
  (case cC=>k_is)
  (case cj=>k_is)
  (case cA=>k_is)
  (case cg=>k_is)
  (case cB=>k_is)
  (case cu=>k_is)
  (case bK=>k_is)
  (case bY=>kit_is)
  (case bW=>kit_is)
  (case bV=>kit_is)
  (case bU=>kit_is)
  (case bT=>kit_is)
  (case bR=>kit_is)
  (case bQ=>kit_is)
  (case bO=>kit_is)
  (case bN=>kit_is)
  (case bM=>kit_is)
  (case Wq=>kit_is)
  (case Wo=>kit_is)
  (case Wn=>kit_is)
  (case bL=>kit_is)
  (case bC=>k_exc)
  (case bJ=>k_is)
  (case bF=>k_is)
  (case bH=>k_is)
  (case bD=>k_is)
  (case bI=>k_is)
  (case bG=>k_is)
  (case aR=>k_is)
  (case bB=>kit_is)
  (case bA=>kit_is)
  (case bw=>kit_is)
  (case bh=>kit_is)
  (case bf=>kit_is)
  (case aZ=>kit_is)
  (case aY=>kit_is)
  (case aX=>kit_is)
  (case aW=>kit_is)
  (case aV=>kit_is)
  (case Wm=>kit_is)
  (case Wk=>kit_is)
  (case Wj=>kit_is)
  (case aU=>kit_is)
  (case aJ=>k_exc)
  (case aQ=>k_is)
  (case aL=>k_is)
  (case aO=>k_is)
  (case aK=>k_is)
  (case aP=>k_is)
  (case aN=>k_is)
  (case Z9=>k_is)
  (case aH=>kit_is)
  (case aG=>kit_is)
  (case aF=>kit_is)
  (case aD=>kit_is)
  (case aB=>kit_is)
  (case aA=>kit_is)
  (case au=>kit_is)
  (case aq=>kit_is)
  (case ao=>kit_is)
  (case ak=>kit_is)
  (case Wi=>kit_is)
  (case Wh=>kit_is)
  (case Wg=>kit_is)
  (case aj=>kit_is)
