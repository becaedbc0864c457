import PyProof.Rows.All
import Wide.All
import OpenK.AllK
import Wide.FinOn
import Lean
import PyProof.EqAt
import PyProof.EqKinds
import PyProof.TupleCall
import PySem.Challenge.RW_warnloop_k22_conditions_told
set_option linter.all false
set_option Elab.async false
set_option maxRecDepth 100000
set_option maxHeartbeats 4000000
abbrev YA:=PySem.Value→PySem.Shared→Prop
abbrev YH:=Unit→PySem.Shared→Prop
abbrev YB:=PySem.Str→Option PySem.Value
abbrev YC:=List (PySem.Addr×PySem.Obj)
abbrev YD:=PySem.W.Frag
abbrev YI:=Array (Option PySem.Value)
abbrev YE:=List PySem.Value
abbrev YF:=List PySem.Str
abbrev YJ:=List PySem.Expr
theorem rq{α:Sort _}{a:α}:a=a:=rfl
local macro_rules|`(tactic|trivial)=>`(tactic|decide +kernel)
local macro_rules | `(tactic|ac_rfl) => `(tactic|exact ⟨rfl,rfl,rfl,by decide +kernel,rfl,by decide +kernel,by decide +kernel⟩)
open PySem.W (findIn keepIn kitOne kia_one fnOf codeIn nsIn mg_of mg_none_of)
abbrev Qaa:=@PyProof.Rows.slot_tupleiter_next
abbrev Qab:=@PyProof.Rows.slot_tuple_getitem
abbrev Qac:=@Array.getElem?_eq_some_iff
abbrev Qad:=@List.getElem?_eq_some_iff
abbrev Qae:=@List.pairwise_iff_getElem
abbrev Qaf:=@List.getElem?_eq_getElem
abbrev Qag:=@PySem.wpAny_callSpecial?_slot
abbrev Qah:=@PySem.wpAny_getItem_str_slice
abbrev Qai:=@PySem.Heap.get?_push_of_some
abbrev Qaj:=@List.mem_append_right
abbrev Qak:=@Array.getElem?_toList
abbrev Qal:=@List.mem_cons_of_mem
abbrev Qam:=@List.mem_of_getElem?
abbrev Qan:=@Array.mem_toList_iff
abbrev Qao:=@PySem.Heap.get?_push_size
abbrev Qap:=@Array.length_toList
abbrev Qaq:=@PySem.mem_of_lookup
abbrev Qar:=@List.filterMap_cons
abbrev Qas:=@Bool.false_ne_true
abbrev Qat:=@Nat.lt_of_lt_of_le
abbrev Qav:=@List.mem_cons_self
abbrev Qaw:=@List.length_append
abbrev Qax:=@List.mem_singleton
abbrev Qay:=@PySem.wpAny_setField_rec
abbrev Qaz:=@Int.emod_lt_of_pos
abbrev QaA:=@decide_eq_true_iff
abbrev QaB:=@of_decide_eq_false
abbrev QaC:=@List.size_toArray
abbrev QaD:=@of_decide_eq_true
abbrev QaE:=@PySem.wpAny_newObj_type
abbrev QaF:=@PySem.wpAny_truthy_bool
abbrev QaG:=@List.getElem?_map
abbrev QaH:=@Int.toNat_natCast
abbrev QaI:=@Bool.and_eq_true
abbrev QaJ:=@List.length_cons
abbrev QaK:=@List.length_take
abbrev QaL:=@PySem.wpAny_call_entry
abbrev QaM:=@List.all_eq_true
abbrev QaN:=@List.take_length
abbrev QaO:=@List.not_mem_nil
abbrev QaP:=@decide_eq_false
abbrev QaQ:=@List.length_map
abbrev QaR:=@List.mem_append
abbrev QaS:=@Option.some.inj
abbrev QaT:=@List.map_append
abbrev QaV:=@List.nodup_cons
abbrev QaW:=@PySem.PassesOwn.never
abbrev QaX:=@Bool.eq_iff_iff
abbrev QaY:=@List.find?_cons
abbrev QaZ:=@Int.emod_nonneg
abbrev Qba:=@decide_eq_true
abbrev Qbb:=@PySem.wpAny_seqItems
abbrev Qbc:=@Bool.true_and
abbrev Qbd:=@List.map_cons
abbrev Qbe:=@List.mem_cons
abbrev Qbf:=@List.any_cons
abbrev Qbg:=@Nat.lt_irrefl
abbrev Qbh:=@PySem.wpAny_standAt
abbrev Qbi:=@PySem.wpAny_holding
abbrev Qbj:=@PySem.Heap.lt_size
abbrev Qbk:=@Nat.le_trans
abbrev Qbl:=@Nat.ne_of_lt
abbrev Qbm:=@Nat.le_refl
abbrev Qbn:=@Nat.zero_le
abbrev Qbo:=@PySem.wpAny_field
abbrev Qbp:=@PySem.wpAny_bind
abbrev Qbq:=@PySem.wpAny_pure
abbrev Qbr:=@PySem.wpAny_mono
namespace L2
open PySem PySem.Spec PyProof.Rows
abbrev Key:=Sum Int Str
def Ke:Key->Value->Bool
 | .inl k,v=>Value.isInt k v
 | .inr x,v=>Value.isStrOf x v
def cG (w:World):Key->Int
 | .inl k=>hashInt k
 | .inr x=>hashStr w x
theorem Cy:∀{k:Key} {v:Value},Ke k v=true->(∃i t,k=Sum.inl i/\v=Value.int i t)\/(∃x t,k=Sum.inr x/\v=Value.str x t)
 | .inl i,v,h=>by
  obtain⟨t,e⟩:=Value.isInt_shape (k:=i) (v:=v) h;exact .inl ⟨i,t,rq,e⟩
 | .inr x,v,h=>by
  obtain⟨t,e⟩:=Value.isStrOf_shape (x:=x) (v:=v) h;exact .inr ⟨x,t,rq,e⟩
theorem Ul (i:Int) (t:Tok):Ke (.inl i) (.int i t)=true:=by simp[Ke,Value.isInt]
theorem Uk (x:Str) (t:Tok):Ke (.inr x) (.str x t)=true:=by simp[Ke,Value.isStrOf]
theorem Zb (a b:Int):decide ((Sum.inl a:Key)=Sum.inl b)=(a == b):=by
 by_cases e:a=b
 ·subst e;simp
 ·have h:¬(Sum.inl a:Key)=Sum.inl b:=λq=>e (Sum.inl.inj q);rw[QaP h];exact (beq_eq_false_iff_ne.mpr e).symm
theorem Y8 (a b:Str):decide ((Sum.inr a:Key)=Sum.inr b)=decide (a=b):=by
 by_cases e:a=b
 ·subst e;simp
 ·have h:¬(Sum.inr a:Key)=Sum.inr b:=λq=>e (Sum.inr.inj q);rw[QaP h,QaP e]
theorem Za (a:Int) (b:Str):decide ((Sum.inl a:Key)=Sum.inr b)=false:=QaP (λq=>nomatch q)
theorem Y9 (a:Str) (b:Int):decide ((Sum.inr a:Key)=Sum.inl b)=false:=QaP (λq=>nomatch q)
def Cv (prog:Program) (w:World):PySem.KeyKind prog w Key where
 is:=Ke
 hash:=cG w
 inj:=λv a b ha hb=>by
  rcases Cy ha with⟨i,t,rfl,rfl⟩|⟨x,t,rfl,rfl⟩
  ·rcases Cy hb with⟨j,u,rfl,e⟩|⟨y,u,rfl,e⟩
   ·injection e with e1 _;rw[e1]
   ·exact nomatch e
  ·rcases Cy hb with⟨j,u,rfl,e⟩|⟨y,u,rfl,e⟩
   ·exact nomatch e
   ·injection e with e1 _;rw[e1]
 byValue:=λk v h=>by
  rcases Cy h with⟨i,t,rfl,rfl⟩|⟨x,t,rfl,rfl⟩ <;> rfl
 pyHash:=λhv h=>by
  rcases Cy hv with⟨i,t,rfl,rfl⟩|⟨x,t,rfl,rfl⟩
  ·exact wpAny_pyHash_int h
  ·exact wpAny_pyHash_str h
 eqBool:=λhu hv h=>by
  rcases Cy hu with⟨i,t,rfl,rfl⟩|⟨x,t,rfl,rfl⟩
  ·rcases Cy hv with⟨j,u,rfl,rfl⟩|⟨y,u,rfl,rfl⟩
   ·rw[Zb] at h;exact wpAny_eqBool_int h
   ·rw[Za] at h;exact SeqAt.EqAt.int_str i t y u _ _ _ _ h
  ·rcases Cy hv with⟨j,u,rfl,rfl⟩|⟨y,u,rfl,rfl⟩
   ·rw[Y9] at h;exact SeqAt.EqAt.str_int x t j u _ _ _ _ h
   ·rw[Y8] at h;exact wpAny_eqBool_str h
 «strs»:=λk x t v h=>by
  rcases Cy h with⟨i,u,rfl,e⟩|⟨y,u,rfl,e⟩
  ·exact nomatch e
  ·injection e with e1 _;subst e1;cases v <;> rfl
theorem QB (prog:Program) (w:World) (i:Int) (t:Tok):(Cv prog w).is (.inl i) (.int i t)=true:=Ul i t
theorem Qz (prog:Program) (w:World) (x:Str) (t:Tok):(Cv prog w).is (.inr x) (.str x t)=true:=Uk x t
inductive V where
 | non | bl (b:Bool) | int (i:Int) | str (x:Str) | byt (b:Array UInt8) | flt (b:UInt64) | ref (a:Addr) | ty (n:String)
 deriving DecidableEq
def RelV:V->Value->Prop
 | .non,u=>u=Value.none
 | .bl b,u=>u=Value.bool b
 | .int i,u=>∃t,u=Value.int i t
 | .str x,u=>∃t,u=Value.str x t
 | .byt b,u=>∃t,u=Value.bytes b t
 | .flt b,u=>∃t,u=Value.float b t
 | .ref a,u=>u=Value.ref a
 | .ty n,u=>u=Value.type n
abbrev YG:=List V
abbrev Vals:YG->YE->Prop:=Paired RelV
theorem Vals.length {xs:YG} {us:YE} (r:Vals xs us):xs.length=us.length:=Paired.length r
theorem Vals.get:∀{xs:YG} {us:YE} {i:Nat} {x:V},Vals xs us->xs[i]?=some x->∃u,us[i]?=some u/\RelV x u
 | _,_,_,_,.nil,e=>by simp at e
 | _,_,0,_,.cons r _,e=>by simp at e;subst e;exact⟨_,rfl,r⟩
 | _,_,i+1,x,.cons _ t,e=>by
  obtain⟨u,h1,h2⟩:=Vals.get (i:=i) (x:=x) t (by simpa using e);exact⟨u,by simpa using h1,h2⟩
theorem Vals.set {x:V} {u:Value} (r:RelV x u):∀{xs:YG} {us:YE} (i:Nat),Vals xs us->Vals (xs.set i x) (us.set i u)
 | _,_,_,.nil=>.nil
 | _,_,0,.cons _ t=>.cons r t
 | _,_,i+1,.cons q t=>.cons q (Vals.set r i t)
theorem Vals.append:∀{xs ys:YG} {us ws:YE},Vals xs us->Vals ys ws->Vals (xs++ys) (us++ws)
 | _,_,_,_,.nil,s=>s
 | _,_,_,_,.cons r t,s=>.cons r (Vals.append t s)
theorem Vals.take:∀{xs:YG} {us:YE} (n:Nat),Vals xs us->Vals (xs.take n) (us.take n)
 | _,_,0,_=>.nil
 | _,_,_+1,.nil=>.nil
 | _,_,n+1,.cons r t=>.cons r (Vals.take n t)
theorem Vals.drop:∀{xs:YG} {us:YE} (n:Nat),Vals xs us->Vals (xs.drop n) (us.drop n)
 | _,_,0,r=>r
 | _,_,_+1,.nil=>.nil
 | _,_,n+1,.cons _ t=>Vals.drop n t
def Gq:Option V->Option Value->Prop
 | some v,some u=>RelV v u
 | none,none=>True
 | _,_=>False
def KV {κ : Type}:List (κ×V)->List (κ×Value)->Prop:=Paired λ(p:κ×V) (q:κ×Value)=>p.1=q.1/\RelV p.2 q.2
def kV:Key->V
 | .inl i=>.int i
 | .inr x=>.str x
inductive HO where
 | lst (xs:YG)
 | tup (xs:YG)
 | dK (kvs:List (Key×V)) | dT (kvs:List (List Key×V))
 | set (S:Int->Bool) (n:Nat)
 | ins (C dx:Addr) (fs:List (Str×V))
 | own (x:Addr)
 | xd (fs:List (Str×V))
 | met (f x:Addr)
 | rng (lo hi:Int)
 | frz (o:Obj) (u:HO)
 | tbl (ps:Array Value)
 | ext (φ : Heap->Prop)
abbrev Hp:=Addr->Option HO
def upd (H:Hp) (a:Addr) (o:HO):Hp:=λb=>if b=a then some o else H b
theorem Ae {H:Hp} {a:Addr} {o:HO}:upd H a o a=some o:=by unfold upd;rw[if_pos rfl]
theorem Bo {H:Hp} {a b:Addr} {o:HO} (h:b≠a):upd H a o b=H b:=by unfold upd;rw[if_neg h]
theorem W3 {H:Hp} {a:Addr} {o u:HO}:upd (upd H a o) a u=upd H a u:=by
 funext b;unfold upd;split <;> rfl
theorem BK {H:Hp} {a b:Addr} {o:HO} (h:H a=some o) (h':H b=none):a≠b:=by
 intro e;subst e;rw[h] at h';cases h'
section
variable (P:Program) (w:World)
def Bu (H:Hp) (h:Heap) (a:Addr):HO->Prop
 | .lst xs=>xs.length<=sizeLine/\∃(its:YE) (n:Nat),Vals xs its/\h.get? a=some { cls:=.type "list",data:=.seq its.toArray n }
 | .tup xs=>xs.length<=sizeLine/\∃its:YE,Vals xs its/\IsTup h a its.toArray
 | .dK kvs=>kvs.length<=sizeLine/\(a == sysModules)=false/\∃vs,KV kvs vs/\h.DictOf (Cv P w) a vs
 | .dT kvs=>kvs.length<=sizeLine/\(a == sysModules)=false/\∃xs:List (List Key×Addr×Value),
   Paired (λ(p:List Key×V) (q:List Key×Addr×Value)=>p.1=q.1/\H q.2.1=some (.tup (p.1.map kV))/\RelV p.2 q.2.2) kvs xs /\
   ∃o es ep,h.get? a=some o/\o.ExactDict/\o.data=.dict es ep/\es.toList=xs.map (entryOfKey (tupleKind (Cv P w)))/\(xs.map (·.1)).Nodup
 | .set S n=>h.SetOf (intKind P w) a S n
 | .ins C dx fs=>H dx=some (.own a)/\fs.length<=1000/\dx≠a/\h.get? a=some (PySem.W.instObj C dx) /\
   ∃mA,h.Ns1 dx mA/\(∀f,Gq (fs.lookup f) (mA f))/\PySem.Within mA (fs.map (·.1))
 | .own _=>∃o,h.get? a=some o
 | .xd fs=>∃mA,h.Ns1 a mA/\∀f,Gq (fs.lookup f) (mA f)
 | .rng lo hi=>∃t u v,h.get? a=some { cls:=.type "range",data:=.fields #[.int lo t,.int hi u,.int 1 v] }
 | .frz o u=>h.get? a=some o/\Bu H h a u
 | .tbl ps=>h.get? a=some { cls:=.none,data:=.fields ps }
 | .met f x=>h.get? a=some (PySem.W.methodObj (.ref f) (.ref x))
 | .ext φ=>φ h/\(∃o,h.get? a=some o)/\∀h1 h2:Heap,φ h1->(∀o,h1.get? a=some o->h2.get? a=some o)->φ h2
def HOk (H:Hp) (h:Heap):Prop:=∀a o,H a=some o->Bu P w H h a o
end
section
variable {P:Program} {w:World} {H H':Hp} {h h':Heap} {a:Addr} {o:HO}
theorem Bu.lt (x:Bu P w H h a o):a < h.objs.size:=by
 cases o with
 | lst xs=>obtain⟨_,_,_,_,e⟩:=x;exact Qbj e
 | tup xs=>obtain⟨_,_,_,p⟩:=x;exact p.lt
 | dK kvs=>obtain⟨_,_,_,_,o,_,_,e,_⟩:=x;exact Qbj e
 | dT kvs=>obtain⟨_,_,_,_,o,_,_,e,_⟩:=x;exact Qbj e
 | set S n=>obtain⟨o,_,_,_,e,_⟩:=x;exact Qbj e
 | ins C dx fs=>obtain⟨_,_,_,e,_⟩:=x;exact Qbj e
 | own y=>obtain⟨_,e⟩:=x;exact Qbj e
 | xd fs=>obtain⟨_,⟨_,_,_,e,_⟩,_⟩:=x;exact Qbj e
 | rng lo hi=>obtain⟨_,_,_,e⟩:=x;exact Qbj e
 | frz ob u=>obtain⟨e,_⟩:=x;exact Qbj e
 | tbl ps=>exact Qbj (show h.get? a=some _ from x)
 | met f y=>exact Qbj (show h.get? a=some _ from x)
 | ext φ=>obtain⟨_,⟨_,e⟩,_⟩:=x;exact Qbj e
theorem Paired.Ph {α β : Type} {F G:α->β->Prop}:∀{l₁ : List α} {l₂ : List β},Paired F l₁ l₂->(∀a b,F a b->G a b)->Paired G l₁ l₂
 | _,_,.nil,_=>.nil
 | _,_,.cons r t,f=>.cons (f _ _ r) (Paired.Ph t f)
theorem Bu.stay (x:Bu P w H h a o) (k:∀b u,(b=a\/H b=some (.own a))->h.get? b=some u->h'.get? b=some u)
  (ho:∀b,H b=some (.own a)->H' b=some (.own a)) (ht:∀b xs,H b=some (.tup xs)->H' b=some (.tup xs)):Bu P w H' h' a o:=by
 induction o with
 | lst xs=>obtain⟨z,its,n,r,e⟩:=x;exact⟨z,its,n,r,k _ _ (.inl rfl) e⟩
 | tup xs=>obtain⟨z,its,r,ob,e,c⟩:=x;exact⟨z,its,r,ob,k _ _ (.inl rfl) e,c⟩
 | dK kvs=>obtain⟨z,y,vs,r,ob,es,ep,e,c⟩:=x;exact⟨z,y,vs,r,ob,es,ep,k _ _ (.inl rfl) e,c⟩
 | dT kvs=>
  obtain⟨z,y,xs,r,ob,es,ep,e,c⟩:=x;exact⟨z,y,xs,Paired.Ph r λp q z=>⟨z.1,ht _ _ z.2.1,z.2.2⟩,ob,es,ep,k _ _ (.inl rfl) e,c⟩
 | set S n=>obtain⟨ob,es,ep,t,e,c⟩:=x;exact⟨ob,es,ep,t,k _ _ (.inl rfl) e,c⟩
 | ins C dx fs=>
  obtain⟨d,z,ne,e,mA,⟨od,es,ep,e2,c⟩,r⟩:=x;exact⟨ho _ d,z,ne,k _ _ (.inl rfl) e,mA,⟨od,es,ep,k _ _ (.inr d) e2,c⟩,r⟩
 | own y=>obtain⟨ob,e⟩:=x;exact⟨ob,k _ _ (.inl rfl) e⟩
 | xd fs=>obtain⟨mA,⟨od,es,ep,e,c⟩,r⟩:=x;exact⟨mA,⟨od,es,ep,k _ _ (.inl rfl) e,c⟩,r⟩
 | rng lo hi=>obtain⟨t,u,v,e⟩:=x;exact⟨t,u,v,k _ _ (.inl rfl) e⟩
 | frz ob u ih=>obtain⟨e,q⟩:=x;exact⟨k _ _ (.inl rfl) e,ih q⟩
 | tbl ps=>
  have e:h.get? a=some { cls:=.none,data:=.fields ps }:=x;show h'.get? a=some { cls:=.none,data:=.fields ps };exact k a _ (.inl rfl) e
 | met f y=>
  have e:h.get? a=some (PySem.W.methodObj (.ref f) (.ref y)):=x;show h'.get? a=some (PySem.W.methodObj (.ref f) (.ref y));exact k a _ (.inl rfl) e
 | ext φ=>obtain⟨p,⟨o,e⟩,st⟩:=x;exact⟨st _ _ p λo q=>k _ _ (.inl rfl) q,⟨o,k _ _ (.inl rfl) e⟩,st⟩
theorem HOk.lt (x:HOk P w H h) (e:H a=some o):a < h.objs.size:=(x a o e).lt
theorem HOk.fresh (x:HOk P w H h) (e:h.objs.size<=a):H a=none:=by
 cases q:H a with
 | none=>rfl
 | some u=>exact absurd (Qat (x.lt q) e) (Qbg _)
theorem HOk.kept (x:HOk P w H h) (k:∀b u,h.get? b=some u->h'.get? b=some u):HOk P w H h':=λa o e=>
 (x a o e).stay (λb u _ q=>k b u q) (λ_ q=>q) λ_ _ q=>q
theorem HOk.laid (x:HOk P w H h) (k:∀b u,h.get? b=some u->h'.get? b=some u) (hp:h.objs.size<=a) (new:Bu P w (upd H a o) h' a o):HOk P w (upd H a o) h':=λb u e=>by
 have hn:=x.fresh hp;by_cases hb:b=a
 ·subst hb;rw[Ae] at e;cases e;exact new
 ·rw[Bo hb] at e;exact (x b u e).stay (λc v _ q=>k c v q) (λc q=>by rw[Bo (BK q hn)];exact q) λc xs q=>by rw[Bo (BK q hn)];exact q
end
def Rd (H:Hp) (a:Addr) (u:HO):Prop:=H a=some u\/∃o,H a=some (.frz o u)
theorem Rd.of {H:Hp} {a:Addr} {u:HO} (h:H a=some u):Rd H a u:=.inl h
theorem Rd.ok {P:Program} {w:World} {H:Hp} {h:Heap} {a:Addr} {u:HO} (r:Rd H a u) (x:HOk P w H h):Bu P w H h a u:=by
 rcases r with r |⟨o,r⟩
 ·exact x a u r
 ·obtain⟨_,q⟩:=x a _ r;exact q
def Mut:Option HO->Prop
 | some (.lst _)=>True
 | some (.dK _)=>True
 | some (.dT _)=>True
 | some (.set _ _)=>True
 | some (.ins _ _ _)=>True
 | some (.ext _)=>True
 | _=>False
section
variable {P:Program} {w:World} {H:Hp} {h h':Heap} {x e:Addr} {o':HO}
theorem HOk.write (ok:HOk P w H h) (mu:Mut (H x)) (he:e=x\/H e=some (.own x)) (k:∀b u,b≠e->h.get? b=some u->h'.get? b=some u) (heo:∃u,h'.get? e=some u)
  (new:Bu P w (upd H x o') h' x o'):HOk P w (upd H x o') h':=λb u q=>by
 have YZ:∀c y,H c=some (.own y)->c≠x:=λc y r z=>by subst z;rw[r] at mu;exact mu
 have Ia:∀c xs,H c=some (.tup xs)->c≠x:=λc xs r z=>by subst z;rw[r] at mu;exact mu
 by_cases hb:b=x
 ·subst hb;rw[Ae] at q;cases q;exact new
 ·rw[Bo hb] at q;by_cases hbe:b=e
  ·have q':H b=some (.own x):=by
    rcases he with z | z
    ·exact absurd (hbe.trans z) hb
    ·rw[hbe];exact z
   rw[q] at q';cases q';obtain⟨v,hv⟩:=heo;exact⟨v,by rw[hbe];exact hv⟩
  ·refine (ok b u q).stay (λc v hc r=>k c v ?_ r) (λc r=>by rw[Bo (YZ c b r)];exact r) λc xs r=>by rw[Bo (Ia c xs r)];exact r
   rcases hc with rfl | hc
   ·exact hbe
   ·rintro rfl;rcases he with z | z
    ·exact YZ c b hc z
    ·rw[hc] at z;cases z;exact hb rfl
end
structure Un (fs ex:List Addr) (H H':Hp) (h h':Heap):Prop where
 keep:∀b o,h.get? b=some o->H b=none->b∉fs->b∉ex->h'.get? b=some o
 slot:∀b o,h.get? b=some o->H b=none->b∈fs->b∉ex->∃sl,h'.get? b=some { o with slots:=sl }
 free:∀b o,h.get? b=some o->H b=none->b∉ex->H' b=none
 there:∀b o,h.get? b=some o->b∉ex->∃o',h'.get? b=some o'
 tups:∀b xs,H b=some (.tup xs)->H' b=some (.tup xs)
 Fi:∀b o u,H b=some (.frz o u)->H' b=some (.frz o u)
 FJ:∀b ps,H b=some (.tbl ps)->∃more,H' b=some (.tbl (ps++more))
section
variable {fs fs' ex ex':List Addr} {H H1 H2:Hp} {h h1 h2 h':Heap} {a x e:Addr} {o:HO}
theorem Un.any (u:Un fs ex H H1 h h1) {b:Addr} {ob:Obj} (q:h.get? b=some ob) (n:H b=none) (hx:b∉ex):∃sl,h1.get? b=some { ob with slots:=sl }:=by
 by_cases hb:b∈fs
 ·exact u.slot b ob q n hb hx
 ·exact⟨ob.slots,u.keep b ob q n hb hx⟩
theorem Un.trans (a:Un fs ex H H1 h h1) (b:Un fs ex H1 H2 h1 h2):Un fs ex H H2 h h2 where
 keep:=λc ob q n hc hx=>b.keep c ob (a.keep c ob q n hc hx) (a.free c ob q n hx) hc hx
 slot:=λc ob q n hc hx=>by
  obtain⟨sl,e1⟩:=a.slot c ob q n hc hx;obtain⟨sl',e2⟩:=b.slot c _ e1 (a.free c ob q n hx) hc hx;exact⟨sl',e2⟩
 free:=λc ob q n hx=>by
  obtain⟨o',e1⟩:=a.there c ob q hx;exact b.free c o' e1 (a.free c ob q n hx) hx
 there:=λc ob q hx=>by
  obtain⟨o',e1⟩:=a.there c ob q hx;exact b.there c o' e1 hx
 tups:=λc xs q=>b.tups c xs (a.tups c xs q)
 Fi:=λc ob xs q=>b.Fi c ob xs (a.Fi c ob xs q)
 FJ:=λc ps q=>by
  obtain⟨m1,e1⟩:=a.FJ c ps q;obtain⟨m2,e2⟩:=b.FJ c _ e1;exact⟨m1++m2,by rw[e2,Array.append_assoc]⟩
theorem Un.kept (k:∀b u,h.get? b=some u->h'.get? b=some u):Un fs ex H H h h':=
 ⟨λb ob q _ _ _=>k b ob q,λb ob q _ _ _=>⟨ob.slots,k b ob q⟩,λ_ _ _ n _=>n,λb ob q _=>⟨ob,k b ob q⟩,λ_ _ q=>q,λ_ _ _ q=>q,λ_ ps q=>⟨#[],by rw[q];simp⟩⟩
theorem Un.refl:Un fs ex H H h h:=Un.kept λ_ _ q=>q
theorem Un.laid (k:∀b u,h.get? b=some u->h'.get? b=some u) (hp:h.objs.size<=a) (hn:H a=none):Un fs ex H (upd H a o) h h' where
 keep:=λb u q _ _ _=>k b u q
 slot:=λb u q _ _ _=>⟨u.slots,k b u q⟩
 free:=λb u q n _=>by rw[Bo (Qbl (Qat (Qbj q) hp))];exact n
 there:=λb u q _=>⟨u,k b u q⟩
 tups:=λb xs q=>by rw[Bo (BK q hn)];exact q
 Fi:=λb u xs q=>by rw[Bo (BK q hn)];exact q
 FJ:=λb ps q=>⟨#[],by rw[Bo (BK q hn),q];simp⟩
theorem Un.write (mu:Mut (H x)) (he:e=x\/H e=some (.own x)) (k:∀b u,b≠e->h.get? b=some u->h'.get? b=some u) (heo:∃u,h'.get? e=some u):Un fs ex H (upd H x o) h h':=by
 have hx:∀b,H b=none->b≠x:=λb n z=>by subst z;rw[n] at mu;exact mu
 have hb:∀b,H b=none->b≠e:=λb n z=>by
  subst z;rcases he with r | r
  ·exact hx b n r
  ·rw[n] at r;cases r
 have hm:∀b u,H b=some u->¬Mut (some u)->b≠x:=λb u q nm z=>by subst z;rw[q] at mu;exact nm mu
 refine⟨λb u q n _ _=>k b u (hb b n) q,λb u q n _ _=>⟨u.slots,k b u (hb b n) q⟩,λb u q n _=>by rw[Bo (hx b n)];exact n,λb u q _=>?_,
  λb xs q=>by rw[Bo (hm b _ q λz=>z)];exact q,λb u xs q=>by rw[Bo (hm b _ q λz=>z)];exact q,λb ps q=>⟨#[],by rw[Bo (hm b _ q λz=>z),q];simp⟩⟩
 by_cases hbe:b=e
 ·subst hbe;exact heo
 ·exact⟨u,k b u hbe q⟩
theorem Un.mono (u:Un fs ex H H1 h h1) (hs:∀b∈fs,b∈fs') (hx:∀b∈ex,b∈ex'):Un fs' ex' H H1 h h1:=
 ⟨λb ob q n hb he=>u.keep b ob q n (λz=>hb (hs b z)) λz=>he (hx b z),λ_ _ q n _ he=>u.any q n λz=>he (hx _ z),λb ob q n he=>u.free b ob q n λz=>he (hx b z),λb ob q he=>u.there b ob q λz=>he (hx b z),u.tups,u.Fi,u.FJ⟩
end
def trk (h:Heap) (H:Hp):List Addr:=(List.range h.objs.size).filter λa=>(H a).isSome
def Jt (h:Heap) (H:Hp):Heap:=PySem.W.hideAll h (trk h H)
theorem Ut (h:Heap) (H:Hp):(Jt h H).objs.size=h.objs.size:=PySem.W.hideAll_size _ _
theorem VP {h:Heap} {H:Hp} {b:Addr} {o:Obj} (e:h.get? b=some o) (n:H b=none):(Jt h H).get? b=some o:=
 PySem.W.hideAll_get _ e λhm=>by
  have q:(H b).isSome=true:=(List.mem_filter.mp hm).2;rw[n] at q;simp at q
theorem Xu {h:Heap} {H:Hp} {b:Addr} {o:Obj} (e:(Jt h H).get? b=some o):h.get? b=some o/\H b=none:=by
 have e':h.get? b=some o:=PySem.W.of_hideAll (trk h H) e;refine⟨e',?_⟩;cases q:H b with
 | none=>rfl
 | some x=>
  have hm:b∈trk h H:=List.mem_filter.mpr ⟨List.mem_range.mpr (Qbj e'),by simp[q]⟩;have z:(Jt h H).get? b=none:=PySem.W.hideAll_none (trk h H) hm;rw[z] at e;cases e
def XR (g h:Heap) (L:Addr):YC:=(List.range h.objs.size).filterMap λa=>if a=L\/(g.get? a).isSome=true then none else (h.get? a).map λo=>(a,o)
def rest (g h:Heap) (L d:Addr):YC:=(XR g h L).filter λp=>decide (p.1≠d)
structure Mod (K:YD) (mg:YB) (base:Heap):Prop where
 kin:K.In base
 glob:base.Ns mainGlobals mg
 blt:∃mb,base.Ns builtinsNs mb/\∀x:Str,x≠"__name__"->mb x=bootBuiltins x
 nolimit:base.NoLimit
structure Cx where
 prog:Program
 w:World
 K:YD
 mg:YB
 base:Heap
 A:Around
 N:YF
 s₀ : Shared
 H₀ : Hp
 env:Env
 outer:List Env
 stack:List Env
 ex:List Addr
 fn:Str->Bool
 calm:Bool
 pn:YC
 xe:YA
def frs (l:List Env):List Addr:=l.filterMap (·.frame)
abbrev Cx.fs (X:Cx):List Addr:=frs X.outer
def Vis (sc:Scope) (x:Str):Prop:=sc.names.lookup x=some .local\/sc.names.lookup x=some .cell\/sc.names.lookup x=some .free
def Loc (sc:Scope) (x:Str):Prop:=sc.names.lookup x=some .local\/sc.names.lookup x=some .cell
def Look (env:Env) (h:Heap) (m:YB) (x:Str) (u:Value):Prop:=
 (env.kindOf x=some .local/\m x=some u)\/((env.kindOf x=some .cell\/env.kindOf x=some .free)/\∃c,env.cells.lookup x=some c/\h.IsCell c (some u))
structure Cx.Ok (X:Cx):Prop where
 mod:Mod X.K X.mg X.base
 kind:X.env.scope.kind=.function
 glob:X.env.globals=mainGlobals
 blt:X.env.builtins=builtinsNs
 above:X.s₀.heap.objs.size<=X.env.locals
 inj:∀x y c,X.env.cells.lookup x=some c->X.env.cells.lookup y=some c->x=y
 has:∀x,(X.env.kindOf x=some .cell\/X.env.kindOf x=some .free)->∃c,X.env.cells.lookup x=some c
 cab:∀x c,X.fn x=true->X.env.cells.lookup x=some c->X.s₀.heap.objs.size<=c
 hd:X.calm=true->X.A.handled=none
 frames:X.A.frames=some X.stack
 stk:X.stack=X.outer\/(X.stack=X.env::X.outer/\X.env.frame=some X.env.locals)
 exf:∀b∈X.ex,b≠X.env.locals/\∀x c,X.env.cells.lookup x=some c->c≠b
 bs:∀b o,X.base.get? b=some o->X.s₀.heap.get? b=some o/\X.H₀ b=none
 bsz:X.base.objs.size<=X.s₀.heap.objs.size
 Mi:∀b o,X.base.get? b=some o->b∉X.ex
 KQ:∀b∈X.ex,b∉X.fs
 Gm:X.s₀.heap.FunFrames X.base X.outer
 frf:∀b∈X.fs,X.H₀ b=none
structure Inv (X:Cx) (jb:YC) (U : List (Option V)) (H:Hp) (s:Shared):Prop where
 ok:X.Ok
 os:s.os=X.s₀.os
 bare:AllBare s.gens
 base:Un X.fs X.ex X.H₀ H X.s₀.heap s.heap
 loc:∃m,s.heap.Ns X.env.locals m/\∀(i:Nat) (x:Str) (v:V),X.N[i]?=some x->U[i]?=some (some v)->Vis X.env.scope x->∃u,RelV v u/\Look X.env s.heap m x u
 cell:∀x c,X.env.cells.lookup x=some c->∃v,s.heap.IsCell c v
 free:H X.env.locals=none
 Fd:∀x c,X.env.cells.lookup x=some c->H c=none
 pin:∀p∈X.pn++jb,s.heap.get? p.1=some p.2/\H p.1=none/\p.1≠X.env.locals/\p.1∉X.fs/\∀v,p.2.data≠.cell v
 hok:HOk X.prog X.w H s.heap
 len:U.length=X.N.length
section
variable {X:Cx} {jb:YC} {U : List (Option V)} {H H':Hp} {s:Shared} {h':Heap}
theorem Cx.Ok.aY (ok:X.Ok) {b:Addr} {o:Obj} (e:X.base.get? b=some o):b∉X.fs:=λhb=>by
 have:=(ok.Gm.mem hb).1;rw[e] at this;cases this
theorem Inv.bs (I:Inv X jb U H s):∀b o,X.base.get? b=some o->s.heap.get? b=some o/\H b=none:=λb o e=>
 ⟨I.base.keep b o (I.ok.bs b o e).1 (I.ok.bs b o e).2 (I.ok.aY e) (I.ok.Mi b o e),I.base.free b o (I.ok.bs b o e).1 (I.ok.bs b o e).2 (I.ok.Mi b o e)⟩
theorem Inv.bk (I:Inv X jb U H s):∀b o,X.base.get? b=some o->s.heap.get? b=some o:=λb o e=>(I.bs b o e).1
theorem Inv.mod (I:Inv X jb U H s):Mod X.K X.mg X.base:=I.ok.mod
theorem Inv.kIn (I:Inv X jb U H s):X.K.In s.heap:=I.ok.mod.kin.keeps I.bk
theorem Inv.nolimit (I:Inv X jb U H s):s.heap.NoLimit:=I.ok.mod.nolimit.keeps I.bk
theorem Inv.fr (I:Inv X jb U H s):∃m,Fr X.base X.env.locals s.heap m:=
 let ⟨m,hn,_⟩:=I.loc
 ⟨m,hn,I.bk,Qbk I.ok.bsz I.ok.above⟩
theorem Inv.lt (I:Inv X jb U H s):X.env.locals < s.heap.objs.size:=let ⟨_,hn,_⟩:=I.loc;hn.lt
theorem Inv.sz (I:Inv X jb U H s):X.s₀.heap.objs.size<=s.heap.objs.size:=Qbk I.ok.above (Nat.le_of_lt I.lt)
theorem Inv.Y0 (I:Inv X jb U H s) {a:Addr} (h:s.heap.objs.size<=a):a∉X.fs:=λhb=>by
 obtain⟨_,o,ho,_⟩:=I.ok.Gm.mem hb;exact absurd (Qat (Qbj ho) (Qbk I.sz h)) (Qbg _)
theorem Inv.cne (I:Inv X jb U H s):∀x c,X.env.cells.lookup x=some c->c≠X.env.locals:=λx c e z=>by
 obtain⟨v,o,ho,hd⟩:=I.cell x c e;obtain⟨m,⟨o',es,ep,ho',hd',_⟩,_⟩:=I.loc;rw[z,ho'] at ho;cases ho;rw[hd'] at hd;cases hd
theorem Inv.Gm (I:Inv X jb U H s):s.heap.FunFrames X.base X.outer:=by
 have all:∀(l:List Env),(∀b∈frs l,b∈X.fs)->X.s₀.heap.FunFrames X.base l->s.heap.FunFrames X.base l:=by
  intro l
  induction l with
  | nil=>intro _ _;trivial
  | cons env r ih=>
   intro hs hl;obtain⟨hk,⟨L,o,hf,hn,ho,hd⟩,hr⟩:=hl;have hL:L∈X.fs:=hs L (by unfold frs;rw[Qar,hf];exact Qav);obtain⟨sl,e⟩:=I.base.slot L o ho (I.ok.frf L hL) hL λz=>I.ok.KQ L z hL;exact⟨hk,⟨L,_,hf,hn,e,hd⟩,ih (λb hb=>hs b (by unfold frs;rw[Qar,hf];exact Qal _ hb)) hr⟩
 exact all X.outer (λ_ hb=>hb) I.ok.Gm
theorem Inv.stack (I:Inv X jb U H s):s.heap.FunFrames X.base X.stack:=by
 rcases I.ok.stk with e |⟨e,hf⟩
 ·rw[e];exact I.Gm
 ·rw[e];obtain⟨m,hn,_⟩:=I.loc;refine .cons (by rw[I.ok.kind];decide) hf hn ?_ I.Gm;exact Heap.get?_none_of_le (Qbk I.ok.bsz I.ok.above)
theorem Inv.Om (I:Inv X jb U H s):∀b∈frs X.stack,b∈X.env.locals::X.fs:=λb hb=>by
 rcases I.ok.stk with e |⟨e,hf⟩
 ·rw[e] at hb;exact Qal _ hb
 ·rw[e] at hb;unfold frs at hb;rw[Qar,hf] at hb;exact hb
theorem Inv.QT (I:Inv X jb U H s):∀b∈frs X.stack,H b=none:=λb hb=>by
 rcases Qbe.mp (I.Om b hb) with e | hb
 ·rw[e];exact I.free
 ·obtain⟨_,o,ho,_⟩:=I.ok.Gm.mem hb;exact I.base.free b o ho (I.ok.frf b hb) λz=>I.ok.KQ b z hb
theorem Inv.step {g':Array GenState} {t':Nat} {d':Drawn} {ch:List Addr} (I:Inv X jb U H s)
  (hch:∀b∈ch,(b∈X.ex\/X.s₀.heap.objs.size<=b)/\b≠X.env.locals/\(∀x c,X.env.cells.lookup x=some c->c≠b)/\∀p∈X.pn++jb,p.1≠b)
  (keep:∀b o,b≠X.env.locals->b∉X.fs->b∉ch->s.heap.get? b=some o->H b=none->h'.get? b=some o)
  (slot:∀b o,b≠X.env.locals->b∈X.fs->b∉ch->s.heap.get? b=some o->H b=none->∃sl,h'.get? b=some { o with slots:=sl }) (free:∀b o,b∉ch->s.heap.get? b=some o->H b=none->H' b=none)
  (there:∀b o,b∉ch->s.heap.get? b=some o->∃o',h'.get? b=some o')
  (tups:∀b xs,H b=some (.tup xs)->H' b=some (.tup xs)) (Fi:∀b o u,H b=some (.frz o u)->H' b=some (.frz o u)) (FJ:∀b ps,H b=some (.tbl ps)->∃more,H' b=some (.tbl (ps++more)))
  (ns:∀m,s.heap.Ns X.env.locals m->h'.Ns X.env.locals m) (hok:HOk X.prog X.w H' h') (hg:AllBare g') :
  Inv X jb U H' { s with heap:=h',gens:=g',drawn:=d',toks:=t' }:=by
 have neL:∀b o,X.s₀.heap.get? b=some o->b≠X.env.locals:=λb o e=>Qbl (Qat (Qbj e) I.ok.above);have neC:∀b o,X.s₀.heap.get? b=some o->b∉X.ex->b∉ch:=λb o e hx hb=>by
  rcases (hch b hb).1 with z | z
  ·exact hx z
  ·exact absurd (Qat (Qbj e) z) (Qbg _)
 have cellK:∀x c,X.env.cells.lookup x=some c->∀v,s.heap.IsCell c v->h'.IsCell c v:=λx c e v ⟨o,ho,hd⟩=>by
  have nch:c∉ch:=λz=>(hch c z).2.2.1 x c e rfl;by_cases hc:c∈X.fs
  ·obtain⟨sl,q⟩:=slot c o (I.cne x c e) hc nch ho (I.Fd x c e);exact⟨_,q,hd⟩
  ·exact⟨o,keep c o (I.cne x c e) hc nch ho (I.Fd x c e),hd⟩
 refine⟨I.ok,I.os,hg,⟨λb o e n hb hx=>?_,λb o e n hb hx=>?_,λb o e n hx=>?_,λb o e hx=>?_,λb xs e=>tups b xs (I.base.tups b xs e),λb o xs e=>Fi b o xs (I.base.Fi b o xs e),λb ps e=>?_⟩,?_,λx c e=>?_,?_,λx c e=>?_,λp hp=>?_,hok,I.len⟩
 ·exact keep b o (neL b o e) hb (neC b o e hx) (I.base.keep b o e n hb hx) (I.base.free b o e n hx)
 ·obtain⟨sl,e1⟩:=I.base.slot b o e n hb hx;obtain⟨sl',e2⟩:=slot b _ (neL b o e) hb (neC b o e hx) e1 (I.base.free b o e n hx);exact⟨sl',e2⟩
 ·obtain⟨o',e1⟩:=I.base.there b o e hx;exact free b o' (neC b o e hx) e1 (I.base.free b o e n hx)
 ·obtain⟨o',e1⟩:=I.base.there b o e hx;exact there b o' (neC b o e hx) e1
 ·obtain⟨m1,e1⟩:=I.base.FJ b ps e;obtain⟨m2,e2⟩:=FJ b _ e1;exact⟨m1++m2,by rw[e2,Array.append_assoc]⟩
 ·obtain⟨m,hn,hl⟩:=I.loc;refine⟨m,ns m hn,λi x v e1 e2 e3=>?_⟩;obtain⟨u,r,l⟩:=hl i x v e1 e2 e3;refine⟨u,r,?_⟩;rcases l with l |⟨k,c,e,z⟩
  ·exact .inl l
  ·exact .inr ⟨k,c,e,cellK x c e _ z⟩
 ·obtain⟨v,z⟩:=I.cell x c e;exact⟨v,cellK x c e v z⟩
 ·obtain⟨m,⟨o,_,_,ho,_⟩,_⟩:=I.loc;exact free _ o (λz=>(hch _ z).2.1 rfl) ho I.free
 ·obtain⟨v,o,ho,hd⟩:=I.cell x c e;exact free c o (λz=>(hch c z).2.2.1 x c e rfl) ho (I.Fd x c e)
 ·obtain⟨e,n,ne,nf,d⟩:=I.pin p hp;have nch:p.1∉ch:=λz=>(hch p.1 z).2.2.2 p hp rfl;exact⟨keep p.1 p.2 ne nf nch e n,free p.1 p.2 nch e n,ne,nf,d⟩
theorem Inv.un {t':Nat} (I:Inv X jb U H s) (u:Un X.fs [] H H' s.heap h') (hok:HOk X.prog X.w H' h'):Inv X jb U H' { s with heap:=h',toks:=t' }:=by
 obtain⟨m,⟨o,es,ep,ho,r⟩,_⟩:=id I.loc;obtain⟨sl,hL⟩:=u.any ho I.free (by simp);exact I.step (g':=s.gens) (d':=s.drawn) (ch:=[]) (λ_ z=>nomatch z) (λb o _ hb _ e n=>u.keep b o e n hb (by simp)) (λb o _ hb _ e n=>u.slot b o e n hb (by simp)) (λb o _ e n=>u.free b o e n (by simp)) (λb o _ e=>u.there b o e (by simp)) u.tups u.Fi u.FJ (λm' hm=>by
  obtain⟨o',es',ep',ho',r'⟩:=hm;rw[ho] at ho';cases ho';exact⟨_,es',ep',hL,r'⟩) hok I.bare
theorem Inv.call {g':Array GenState} {t':Nat} {d':Drawn} {ch:List Addr} (I:Inv X jb U H s) (u:Un (frs X.stack) ch H H' s.heap h') (hok:HOk X.prog X.w H' h') (hg:AllBare g')
  (hch:∀b∈ch,(b∈X.ex\/X.s₀.heap.objs.size<=b)/\b≠X.env.locals/\(∀x c,X.env.cells.lookup x=some c->c≠b)/\∀p∈X.pn++jb,p.1≠b) :
  Inv X jb U H' { s with heap:=h',gens:=g',drawn:=d',toks:=t' }:=by
 obtain⟨m,⟨o,es,ep,ho,r⟩,_⟩:=id I.loc;obtain⟨sl,hL⟩:=u.any ho I.free λz=>(hch _ z).2.1 rfl;exact I.step (ch:=ch) hch (λb o hL hb hc e n=>u.keep b o e n (λz=>(Qbe.mp (I.Om b z)).elim hL hb) hc) (λb o _ _ hc e n=>u.any e n hc) (λb o hc e n=>u.free b o e n hc) (λb o hc e=>u.there b o e hc) u.tups u.Fi u.FJ (λm' hm=>by
  obtain⟨o',es',ep',ho',r'⟩:=hm;rw[ho] at ho';cases ho';exact⟨_,es',ep',hL,r'⟩) hok hg
theorem Inv.turned {t':Nat} {it:Addr} (I:Inv X jb U H s) (k:∀b o,b≠it->s.heap.get? b=some o->h'.get? b=some o) (hn:H it=none) (hL:it≠X.env.locals)
  (h1:it∈X.ex\/X.s₀.heap.objs.size<=it) (h2:∀x c,X.env.cells.lookup x=some c->c≠it) (h3:∀p∈X.pn++jb,p.1≠it):Inv X jb U H { s with heap:=h',toks:=t' }:=by
 have nit:∀b u,H b=some u->b≠it:=λb u e z=>by rw[z,hn] at e;cases e
 refine I.step (g':=s.gens) (d':=s.drawn) (ch:=[it]) (λb hb=>?_) (λb o _ _ hc e _=>k b o (λz=>hc (by simp[z])) e) (λb o _ _ hc e _=>⟨o.slots,k b o (λz=>hc (by simp[z])) e⟩) (λ_ _ _ _ n=>n)
  (λb o hc e=>⟨o,k b o (λz=>hc (by simp[z])) e⟩) (λ_ _ e=>e) (λ_ _ _ e=>e) (λb ps e=>⟨#[],by rw[e];simp⟩) (λm hm=>?_) (λb u e=>?_) I.bare
 ·have e:b=it:=by simpa using hb
  subst e;exact⟨h1,hL,h2,h3⟩
 ·obtain⟨o,es,ep,ho,r⟩:=hm;exact⟨o,es,ep,k _ o (Ne.symm hL) ho,r⟩
 ·refine (I.hok b u e).stay (λc v hc q=>k c v ?_ q) (λ_ q=>q) λ_ _ q=>q;rcases hc with z | z
  ·rw[z];exact nit b u e
  ·exact nit c _ z
theorem Inv.tok (I:Inv X jb U H s) (t:Nat):Inv X jb U H { s with toks:=t }:=I.un (h':=s.heap) (t':=t) Un.refl I.hok
theorem Inv.kept {t':Nat} (I:Inv X jb U H s) (k:∀b u,s.heap.get? b=some u->h'.get? b=some u):Inv X jb U H { s with heap:=h',toks:=t' }:=I.un (Un.kept k) (I.hok.kept k)
theorem Inv.laid {a:Addr} {o:HO} {t':Nat} (I:Inv X jb U H s) (k:∀b u,s.heap.get? b=some u->h'.get? b=some u) (hp:s.heap.objs.size<=a) (new:Bu X.prog X.w (upd H a o) h' a o) :
  Inv X jb U (upd H a o) { s with heap:=h',toks:=t' }:=I.un (Un.laid k hp (I.hok.fresh hp)) (I.hok.laid k hp new)
theorem Inv.write {x e:Addr} {o:HO} {t':Nat} (I:Inv X jb U H s) (mu:Mut (H x)) (he:e=x\/H e=some (.own x)) (k:∀b u,b≠e->s.heap.get? b=some u->h'.get? b=some u) (heo:∃u,h'.get? e=some u)
  (new:Bu X.prog X.w (upd H x o) h' x o):Inv X jb U (upd H x o) { s with heap:=h',toks:=t' }:=I.un (Un.write mu he k heo) (I.hok.write mu he k heo new)
theorem Inv.weak {σ':List (Option V)} (I:Inv X jb U H s) (hl:σ'.length=U.length) (w:∀(i:Nat) v,σ'[i]?=some (some v)->U[i]?=some (some v)):Inv X jb σ' H s:=
 ⟨I.ok,I.os,I.bare,I.base,let ⟨m,hn,hl'⟩:=I.loc;⟨m,hn,λi x v e1 e2 e3=>hl' i x v e1 (w i v e2) e3⟩,I.cell,I.free,I.Fd,I.pin,I.hok,hl.trans I.len⟩
theorem Inv.Mg {RM:YC} (I:Inv X jb U H s) (h:∀p∈RM,s.heap.get? p.1=some p.2/\H p.1=none/\p.1≠X.env.locals/\p.1∉X.fs/\∀v,p.2.data≠.cell v):Inv X RM U H s:=
 ⟨I.ok,I.os,I.bare,I.base,I.loc,I.cell,I.free,I.Fd,λp hp=>(QaR.mp hp).elim (λz=>I.pin p (List.mem_append_left _ z)) (h p),I.hok,I.len⟩
theorem Pg {N:YF} (hN:N.Nodup) {i j:Nat} {x:Str} (a:N[i]?=some x) (b:N[j]?=some x):i=j:=by
 obtain⟨h1,e1⟩:=Qad.mp a;obtain⟨h2,e2⟩:=Qad.mp b;exact (List.getElem_inj hN).mp (e1.trans e2.symm)
theorem Tw {M:Model} {A:Around} {E:YA} {i:Nat} {x:Str} {v:V} {u:Value} {Q:YH} (I:Inv X jb U H s) (hN:X.N.Nodup) (hi:X.N[i]?=some x) (hx:Loc X.env.scope x) (r:RelV v u)
  (h:∀s',Inv X jb (U.set i (some v)) H s'->(∃a,Heap.SameBut a s.heap s'.heap/\(a=X.env.locals\/X.env.cells.lookup x=some a))->Q () s') (hf:X.fn x=true\/X.env.scope.names.lookup x=some .local:=by first | exact .inl rfl | exact .inr rfl | assumption):wpAny M A (storeName X.env x u) Q E s:=by
 obtain⟨m,hn,hl⟩:=id I.loc;have hcls:(X.env.scope.kind == .class || (X.env.scope.kind == .module&&X.env.locals != X.env.globals))=false:=by rw[I.ok.kind];rfl
 have hiσ : i < U.length:=by rw[I.len];exact (Qad.mp hi).1
 have cne:=I.cne;have tracked:∀{a:Addr} {h':Heap},(∃o,s.heap.get? a=some o/\H a=none)->Heap.SameBut a s.heap h'->HOk X.prog X.w H h':=λ{a h'} ha hs b ob e=>by
  obtain⟨_,_,hfree⟩:=ha;refine (I.hok b ob e).stay (λc w' hc q=>(hs.2 c ?_).trans q) (λ_ q=>q) λ_ _ q=>q;rintro rfl;rcases hc with rfl | hc
  ·rw[hfree] at e;cases e
  ·rw[hfree] at hc;cases hc
 rcases hx with hk | hk
 ·refine wpAny_storeName_local hk hn (λh' hn' hs=>?_) hcls;obtain⟨oL,_,_,hoL,_⟩:=id hn;refine h _ ⟨I.ok,I.os,I.bare,⟨λb o e n hb hx=>?_,λb o e n hb hx=>?_,I.base.free,λb o e hx=>?_,I.base.tups,I.base.Fi,I.base.FJ⟩,⟨_,hn',λj y v' e1 e2 e3=>?_⟩,λy c e=>?_,I.free,I.Fd,λp hp=>?_,tracked ⟨oL,hoL,I.free⟩ hs,by simpa using I.len⟩ ⟨_,hs,.inl rfl⟩
  ·exact (hs.2 b (Qbl (Qat (Qbj e) I.ok.above))).trans (I.base.keep b o e n hb hx)
  ·obtain⟨sl,e1⟩:=I.base.slot b o e n hb hx;exact⟨sl,(hs.2 b (Qbl (Qat (Qbj e) I.ok.above))).trans e1⟩
  ·obtain⟨o',e1⟩:=I.base.there b o e hx;exact⟨o',(hs.2 b (Qbl (Qat (Qbj e) I.ok.above))).trans e1⟩
  ·by_cases hj:j=i
   ·subst hj;rw[hi] at e1;cases e1;rw[List.getElem?_set_self hiσ] at e2;cases e2;exact⟨u,r,.inl ⟨hk,by simp⟩⟩
   ·rw[List.getElem?_set_ne (Ne.symm hj)] at e2;obtain⟨u',r',q⟩:=hl j y v' e1 e2 e3;refine⟨u',r',?_⟩;rcases q with⟨k,e⟩|⟨k,c,e,z⟩
    ·refine .inl ⟨k,?_⟩;have:y≠x:=λe=>hj (Pg hN e1 (e ▸ hi));simp[this,e]
    ·exact .inr ⟨k,c,e,z.sameBut hs (cne y c e)⟩
  ·obtain⟨w',z⟩:=I.cell y c e;exact⟨w',z.sameBut hs (cne y c e)⟩
  ·obtain⟨e,n,ne,nf,d⟩:=I.pin p hp;exact⟨(hs.2 p.1 ne).trans e,n,ne,nf,d⟩
 ·have hfn:X.fn x=true:=by
   rcases hf with z | z
   ·exact z
   ·rw[z] at hk;cases hk
  obtain⟨c,hc⟩:=I.ok.has x (.inl hk);obtain⟨w',z⟩:=I.cell x c hc;refine wpAny_storeName_cell I.ok.kind hk hc z (λh' hc' hs=>?_);obtain⟨oc,hoc,cN⟩:=id z;refine h { s with heap:=h' } ⟨I.ok,I.os,I.bare,⟨λb o e n hb hx=>?_,λb o e n hb hx=>?_,I.base.free,λb o e hx=>?_,I.base.tups,I.base.Fi,I.base.FJ⟩,⟨m,hn.sameBut hs (Ne.symm (cne x c hc)),λj y v' e1 e2 e3=>?_⟩,λy c' e=>?_,I.free,I.Fd,λp hp=>?_,tracked ⟨oc,hoc,I.Fd x c hc⟩ hs,by simpa using I.len⟩ ⟨c,hs,.inr hc⟩
  ·exact (hs.2 b (Qbl (Qat (Qbj e) (I.ok.cab x c hfn hc)))).trans (I.base.keep b o e n hb hx)
  ·obtain⟨sl,e1⟩:=I.base.slot b o e n hb hx;exact⟨sl,(hs.2 b (Qbl (Qat (Qbj e) (I.ok.cab x c hfn hc)))).trans e1⟩
  ·obtain⟨o',e1⟩:=I.base.there b o e hx;exact⟨o',(hs.2 b (Qbl (Qat (Qbj e) (I.ok.cab x c hfn hc)))).trans e1⟩
  ·by_cases hj:j=i
   ·subst hj;rw[hi] at e1;cases e1;rw[List.getElem?_set_self hiσ] at e2;cases e2;exact⟨u,r,.inr ⟨.inl hk,c,hc,hc'⟩⟩
   ·rw[List.getElem?_set_ne (Ne.symm hj)] at e2;obtain⟨u',r',q⟩:=hl j y v' e1 e2 e3;refine⟨u',r',?_⟩;rcases q with q |⟨k,c',e,z'⟩
    ·exact .inl q
    ·refine .inr ⟨k,c',e,z'.sameBut hs ?_⟩;rintro rfl;exact hj (Pg hN e1 (I.ok.inj _ _ _ e hc ▸ hi))
  ·by_cases hcc:c'=c
   ·subst hcc;exact⟨_,hc'⟩
   ·obtain⟨w2,z2⟩:=I.cell y c' e;exact⟨w2,z2.sameBut hs hcc⟩
  ·obtain⟨e,n,ne,nf,d⟩:=I.pin p hp;refine⟨(hs.2 p.1 ?_).trans e,n,ne,nf,d⟩;intro q;rw[q,hoc] at e;have q':oc=p.2:=QaS e;exact d w' (by rw[<-q'];exact cN)
theorem Jh {M:Model} {A:Around} {E:YA} {i:Nat} {x:Str} {v:V} {u:Value} {Q:YH} (I:Inv X jb U H s) (hN:X.N.Nodup) (hi:X.N[i]?=some x) (hx:Loc X.env.scope x) (r:RelV v u)
  (h:∀s',Inv X jb (U.set i (some v)) H s'->Q () s') (hf:X.fn x=true\/X.env.scope.names.lookup x=some .local:=by first | exact .inl rfl | exact .inr rfl | assumption):wpAny M A (storeName X.env x u) Q E s:=
 Tw I hN hi hx r (λs' I' _=>h s' I') hf
theorem Inv.call' {s':Shared} {ch:List Addr} (I:Inv X jb U H s) (ho:s'.os=s.os) (u:Un (frs X.stack) ch H H' s.heap s'.heap) (hok:HOk X.prog X.w H' s'.heap) (hg:AllBare s'.gens)
  (hch:∀b∈ch,(b∈X.ex\/X.s₀.heap.objs.size<=b)/\b≠X.env.locals/\(∀x c,X.env.cells.lookup x=some c->c≠b)/\∀p∈X.pn++jb,p.1≠b):Inv X jb U H' s':=by
 obtain⟨h',g',d',t',o'⟩:=s';have e:o'=s.os:=ho;subst e;exact I.call (g':=g') (t':=t') (d':=d') u hok hg hch
end
abbrev XK:=Value->Option Addr->Hp->Prop
abbrev St:=List (Option V)
abbrev VK:=V->Hp->Prop
abbrev TE:=St->Hp->VK->Prop
abbrev TT:=St->Hp->(Bool->Hp->Prop)->Prop
abbrev TA:=St->Hp->(YG->Hp->Prop)->Prop
structure Ends where
 nx:St->Hp->Prop
 rt:VK
 bk:St->Hp->Prop:=λ_ _=>False
 ct:St->Hp->Prop:=λ_ _=>False
abbrev YO:=St->Hp->Prop
abbrev TS:=Ends->YO
def EP (X:Cx) (jb:YC) (U : St) (Q:VK) (u:Value) (s':Shared):Prop:=∃v H',Inv X jb U H' s'/\RelV v u/\Q v H'
def TP (X:Cx) (jb:YC) (U : St) (Q:Bool->Hp->Prop) (b:Bool) (s':Shared):Prop:=∃H',Inv X jb U H' s'/\Q b H'
def AP (X:Cx) (jb:YC) (U : St) (Q:YG->Hp->Prop) (us:YE) (s':Shared):Prop:=∃vs H',Inv X jb U H' s'/\Vals vs us/\Q vs H'
def SP (X:Cx) (jb:YC) (D:Ends) (f:Flow) (s':Shared):Prop:=
 match f with
 | .next=>∃ σ' H',Inv X jb σ' H' s'/\D.nx σ' H'
 | .brk=>∃ σ' H',Inv X jb σ' H' s'/\D.bk σ' H'
 | .cont=>∃ σ' H',Inv X jb σ' H' s'/\D.ct σ' H'
 | .ret u=>∃v σ' H',Inv X jb σ' H' s'/\RelV v u/\D.rt v H'
def PE (X:Cx) (e:Expr) (t:TE):Prop:=
 ∀(jb:YC) (s:Shared) (U : St) (H:Hp) (Q:VK),Inv X jb U H s->t U H Q->wpAny (model X.prog X.w) X.A (eval e X.env) (EP X jb U Q) X.xe s
def PT (X:Cx) (e:Expr) (t:TT):Prop:=
 ∀(jb:YC) (s:Shared) (U : St) (H:Hp) (Q:Bool->Hp->Prop),Inv X jb U H s->t U H Q->wpAny (model X.prog X.w) X.A (isTrue e X.env (eval e X.env)) (TP X jb U Q) X.xe s
def PW (X:Cx) (e:Expr) (t:TT):Prop:=
 ∀(whole:Sem Value) (jb:YC) (s:Shared) (U : St) (H:Hp) (Q:Bool->Hp->Prop),Inv X jb U H s->t U H Q->wpAny (model X.prog X.w) X.A (isTrue e X.env whole) (TP X jb U Q) X.xe s
theorem PW.pt {X:Cx} {e:Expr} {t:TT} (h:PW X e t):PT X e t:=h _
def PA (X:Cx) (es:YJ) (t:TA):Prop:=
 ∀(pos:Pos) (jb:YC) (s:Shared) (U : St) (H:Hp) (Q:YG->Hp->Prop),Inv X jb U H s->t U H Q->wpAny (model X.prog X.w) X.A (spliced (backTo pos (starEach es X.env))) (AP X jb U Q) X.xe s
def PS (X:Cx) (st:Stmt) (t:TS):Prop:=
 ∀(jb:YC) (s:Shared) (U : St) (H:Hp) (D:Ends),Inv X jb U H s->t D U H->wpAny (model X.prog X.w) X.A (exec st X.env) (SP X jb D) X.xe s
def PSs (X:Cx) (st:List Stmt) (t:TS):Prop:=
 ∀(jb:YC) (s:Shared) (U : St) (H:Hp) (D:Ends),Inv X jb U H s->t D U H->wpAny (model X.prog X.w) X.A (execs st X.env) (SP X jb D) X.xe s
theorem thn {α : Type} {t:Sem α} {Q Q':α->Shared->Prop} {M:Model} {A:Around} {E:YA} {s:Shared} (h:wpAny M A t Q E s) (hQ:∀a s,Q a s->Q' a s):wpAny M A t Q' E s:=Qbr h hQ λ_ _ x=>x
section
variable {X:Cx}
theorem bin {a b:Expr} {ta tb:TE} (ha:PE X a ta) (hb:PE X b tb) {jb:YC} {s:Shared} {U : St} {H:Hp} {R:V->V->Hp->Prop} (I:Inv X jb U H s) (h:ta U H λx H1=>tb U H1 λy H2=>R x y H2)
  {α : Type} {Q:α->Shared->Prop} {f:Value->Value->Sem α}
  (hf:∀v u s2 x y H2,Inv X jb U H2 s2->RelV x v->RelV y u->R x y H2->wpAny (model X.prog X.w) X.A (f v u) Q X.xe s2) :
  wpAny (model X.prog X.w) X.A (eval a X.env) (λv s₁=>wpAny (model X.prog X.w) X.A (eval b X.env) (λu s₂=>wpAny (model X.prog X.w) X.A (f v u) Q X.xe s₂) X.xe s₁) X.xe s:=by
 refine thn (ha jb s U H _ I h) λv s1 zz=>?_;obtain⟨x,H1,I1,r1,q1⟩:=zz;refine thn (hb jb s1 U H1 _ I1 q1) λu s2 zz=>?_;obtain⟨y,H2,I2,r2,q2⟩:=zz;exact hf v u s2 x y H2 I2 r1 r2 q2
def Yj (i:Nat):TE:=fun U H Q=>∃v,U[i]?=some (some v)/\Q v H
def tC (v:V):TE:=λ_ H Q=>Q v H
theorem YQ {i:Nat} {x:Str} {pos:Pos} (hN:X.N[i]?=some x) (hv:Vis X.env.scope x) (hd:(x == ("__debug__":Str))=false:=by decide) (hcd:(x == ("__classdict__":Str))=false:=by decide):PE X (.Name x pos) (Yj i):=by
 intro jb s U H Q I h;obtain⟨v,e,h⟩:=h;obtain⟨m,hn,hl⟩:=I.loc;obtain⟨u,r,l⟩:=hl i x v hN e hv;have fin:EP X jb U Q u s:=⟨v,H,I,r,h⟩;rcases l with⟨hk,hm⟩|⟨hk,c,hc,hcell⟩
 ·exact wpAny_Name (wpAny_loadName_local I.ok.kind hk hn hm fin) hd
 ·rcases hk with hk | hk
  ·exact wpAny_Name (wpAny_loadName_cell I.ok.kind hk hc hcell fin) hd
  ·exact wpAny_Name (wpAny_loadName_free I.ok.kind hk hc hcell fin hcd) hd
theorem Ab {i j pos}:PE X (.Constant (.int i) j pos) (tC (.int i)):=λ_ _ _ H _ I h=>wpAny_Constant_int ⟨.int i,H,I.tok _,⟨_,rfl⟩,h⟩
theorem Cw {b j pos}:PE X (.Constant (.bool b) j pos) (tC (.bl b)):=λ_ _ _ H _ I h=>Constant_bool ⟨.bl b,H,I,rfl,h⟩
theorem T8 {j pos}:PE X (.Constant .none j pos) (tC .non):=λ_ _ _ H _ I h=>Constant_none ⟨.non,H,I,rfl,h⟩
theorem Ai {x j pos}:PE X (.Constant (.str x) j pos) (tC (.str x)):=λ_ _ _ H _ I h=>Calls.Constant_str ⟨.str x,H,I.tok _,⟨_,rfl⟩,h⟩
def Gl (X:Cx) (x:Str):Prop:=X.env.kindOf x=some .globalImplicit
theorem Rg {E:YA} {jb:YC} {s:Shared} {U : St} {H:Hp} {x:Str} {u:Value} {pos:Pos} {Q:YA} (I:Inv X jb U H s) (hg:Gl X x) (hm:X.mg x=some u) (h:Q u s)
  (hd:(x == ("__debug__":Str))=false:=by decide):wpAny (model X.prog X.w) X.A (eval (.Name x pos) X.env) Q E s:=
 Calls.Name_function_global I.ok.kind hg (Calls.loadGlobal_global (by rw[I.ok.glob];exact I.mod.glob.keeps I.bk) hm h) hd
theorem JQ {E:YA} {jb:YC} {s:Shared} {U : St} {H:Hp} {x:Str} {u:Value} {pos:Pos} {Q:YA} (I:Inv X jb U H s) (hg:Gl X x) (hm:X.mg x=none) (hv:bootBuiltins x=some u) (h:Q u s)
  (hn:x≠"__name__":=by decide) (hd:(x == ("__debug__":Str))=false:=by decide):wpAny (model X.prog X.w) X.A (eval (.Name x pos) X.env) Q E s:=by
 obtain⟨mb,h1,h2⟩:=I.mod.blt;exact Calls.Name_function_global I.ok.kind hg (Calls.loadGlobal_builtin (by rw[I.ok.glob];exact I.mod.glob.keeps I.bk) hm (by rw[I.ok.blt];exact h1.keeps I.bk) ((h2 x hn).trans hv) h) hd
theorem Xg {x:Str} {v:V} {u:Value} {pos:Pos} (hg:Gl X x) (hm:X.mg x=some u) (r:RelV v u) (hd:(x == ("__debug__":Str))=false:=by decide):PE X (.Name x pos) (tC v):=
 λ_ _ _ H _ I h=>Rg I hg hm ⟨v,H,I,r,h⟩ hd
theorem Cg {x:Str} {v:V} {u:Value} {pos:Pos} (hg:Gl X x) (hm:X.mg x=none) (hv:bootBuiltins x=some u) (r:RelV v u) (hn:x≠"__name__":=by decide) (hd:(x == ("__debug__":Str))=false:=by decide):PE X (.Name x pos) (tC v):=
 λ_ _ _ H _ I h=>JQ I hg hm hv ⟨v,H,I,r,h⟩ hn hd
variable {a b:Expr} {ta tb:TE} {pos:Pos}
def PC (X:Cx) (op:CmpOp) (a b:Expr) (t:TE):Prop:=
 ∀(jb:YC) (s:Shared) (U : St) (H:Hp) (Q:VK),Inv X jb U H s->t U H Q ->
  wpAny (model X.prog X.w) X.A (eval a X.env) (λv s₁=>wpAny (model X.prog X.w) X.A (eval b X.env) (λu s₂=>wpAny (model X.prog X.w) X.A (compareOp op v u) (EP X jb U Q) X.xe s₂) X.xe s₁) X.xe s
theorem VG (b:Expr) {op:CmpOp} (h:op≠.In) (h2:op≠.NotIn):behindInMarks op b=false:=by
 have e1:(op == CmpOp.In)=false:=by cases op <;> first | rfl | exact absurd rfl h
 have e2:(op == CmpOp.NotIn)=false:=by cases op <;> first | rfl | exact absurd rfl h2
 cases b <;> simp[behindInMarks,e1,e2]
def tB (t:TE):TT:=fun U H Q=>t U H λx H1=>∃c,x=.bl c/\Q c H1
theorem T4 {op:CmpOp} {t:TE} (h:PC X op a b t) (h1:behindInMarks op b=false:=by first | exact VG _ (by decide) (by decide) | rfl):PT X (.Compare a [op] [b] pos) (tB t):=by
 intro jb s U H Q I hw;refine wpAny_isTrue_Compare1 (thn (h jb s U H _ I hw) λv s1 h1=>thn h1 λu s2 h2=>thn h2 λc s3 zz=>?_) h1;obtain⟨x,H1,I1,r1,q1⟩:=zz;obtain⟨d,rfl,q⟩:=q1;cases r1;exact QaF ⟨H1,I1,q⟩
theorem Bt {e:Expr} {t:TE} (h:PE X e t) (he:∀whole,isTrue e X.env whole=(do let v <-whole;standAt e.pos;holding [v] (truthy v)):=by intro _;rfl):PT X e (tB t):=by
 intro jb s U H Q I hw;refine isTrue_plain (thn (h jb s U H _ I hw) λv s1 zz=>?_) (he _);obtain⟨x,H1,I1,r1,q1⟩:=zz;obtain⟨d,rfl,q⟩:=q1;cases r1;exact QaF ⟨H1,I1,q⟩
variable {tA tB':TT} {rest:YJ}
def aQ (t u:TT):TT:=fun U H Q=>t U H λc H1=>if c=true then u U H1 Q else Q false H1
def tOr (t u:TT):TT:=fun U H Q=>t U H λc H1=>if c=true then Q true H1 else u U H1 Q
def aK (t:TT):TT:=fun U H Q=>t U H λc H1=>Q (!c) H1
theorem Fq (ha:PT X a tA):PW X (.BoolOp .And [a] pos) tA:=by
 intro wh jb s U H Q I h;refine isTrue_and (thn (ha jb s U H Q I h) λc s1 e=>?_);cases c with
 | true=>exact isTrue_and_nil e
 | false=>exact e
theorem Ek (ha:PT X a tA):PW X (.BoolOp .Or [a] pos) tA:=by
 intro wh jb s U H Q I h;refine isTrue_or (thn (ha jb s U H Q I h) λc s1 e=>?_);cases c with
 | false=>exact isTrue_or_nil e
 | true=>exact e
theorem FT (ha:PT X a tA) (hb:PW X (.BoolOp .And (b::rest) pos) tB'):PW X (.BoolOp .And (a::b::rest) pos) (aQ tA tB'):=by
 intro wh jb s U H Q I h;refine isTrue_and (thn (ha jb s U H _ I h) λc s1 zz=>?_);obtain⟨H1,I1,q1⟩:=zz;cases c with
 | true=>exact hb wh jb s1 U H1 Q I1 q1
 | false=>exact⟨H1,I1,q1⟩
theorem Ea (ha:PT X a tA) (hb:PW X (.BoolOp .Or (b::rest) pos) tB'):PW X (.BoolOp .Or (a::b::rest) pos) (tOr tA tB'):=by
 intro wh jb s U H Q I h;refine isTrue_or (thn (ha jb s U H _ I h) λc s1 zz=>?_);obtain⟨H1,I1,q1⟩:=zz;cases c with
 | true=>exact⟨H1,I1,q1⟩
 | false=>exact hb wh jb s1 U H1 Q I1 q1
theorem BJ (ha:PT X a tA):PT X (.UnaryOp .Not a pos) (aK tA):=by
 intro jb s U H Q I h;exact isTrue_not (ha jb s U H (λc H1=>Q (!c) H1) I h)
def Z1 (ta tb:TE):TE:=fun U H Q=>ta U H λx H1=>∃c,x=.bl c/\if c=true then tb U H1 Q else Q (.bl false) H1
def ZV (ta:TE):TE:=fun U H Q=>ta U H λx H1=>∃c,x=.bl c/\Q (.bl (!c)) H1
theorem Du {op} {t:TE} (h:PE X a t):PE X (.BoolOp op [a] pos) t:=λjb s U H Q I hw=>BoolOp_one (h jb s U H Q I hw)
theorem CG (ha:PE X a ta) (hb:PE X (.BoolOp .And (b::rest) pos) tb):PE X (.BoolOp .And (a::b::rest) pos) (Z1 ta tb):=by
 intro jb s U H Q I h;refine BoolOp_and (thn (ha jb s U H _ I h) λv s1 zz=>?_);obtain⟨x,H1,I1,r1,q1⟩:=zz;obtain⟨c,rfl,q1⟩:=q1;cases r1;refine QaF ?_;cases c with
 | true=>exact hb jb s1 U H1 Q I1 q1
 | false=>exact⟨.bl false,H1,I1,rfl,q1⟩
theorem T7 (ha:PE X a ta):PE X (.UnaryOp .Not a pos) (ZV ta):=by
 intro jb s U H Q I h;refine UnaryOp_ (thn (ha jb s U H _ I h) λv s1 zz=>?_);obtain⟨x,H1,I1,r1,q1⟩:=zz;obtain⟨c,rfl,q1⟩:=q1;cases r1;exact not_of (QaF ⟨.bl (!c),H1,I1,rq,q1⟩)
end
def SqL (K:YD) (H:Hp) (a:Addr) (xs:YG):Prop:=
 Rd H a (.lst xs) \/
  ∃(o:Obj) (its:Array Value) (n:Nat),K.lookup a=some o/\o.cls=.type "list"/\o.dict=none/\o.data=.seq its n/\its.size<=sizeLine/\Vals xs its.toList
def SqT (K:YD) (H:Hp) (a:Addr) (xs:YG):Prop:=
 Rd H a (.tup xs) \/
  ∃(o:Obj) (its:Array Value) (n:Nat),K.lookup a=some o/\o.cls=.type "tuple"/\o.data=.seq its n/\its.size<=sizeLine/\Vals xs its.toList
def fL:Value->Option V
 | .none=>some .non
 | .bool b=>some (.bl b)
 | .int i _=>some (.int i)
 | .str x _=>some (.str x)
 | .bytes b _=>some (.byt b)
 | .float b _=>some (.flt b)
 | .ref a=>some (.ref a)
 | .type n=>some (.ty n)
 | _=>none
theorem RelV.abs {x:V} {u:Value} (r:RelV x u):fL u=some x:=by
 cases x with
 | non=>cases r;rfl
 | bl _=>cases r;rfl
 | int _=>obtain⟨t,rfl⟩:=r;rfl
 | str _=>obtain⟨t,rfl⟩:=r;rfl
 | byt _=>obtain⟨t,rfl⟩:=r;rfl
 | flt _=>obtain⟨t,rfl⟩:=r;rfl
 | ref _=>cases r;rfl
 | ty _=>cases r;rfl
theorem RelV.inj {x y:V} {u:Value} (r:RelV x u) (q:RelV y u):x=y:=QaS (r.abs.symm.trans q.abs)
theorem Vals.inj:∀{xs ys:YG} {us:YE},Vals xs us->Vals ys us->xs=ys
 | _,_,_,.nil,.nil=>rfl
 | _,_,_,.cons r t,.cons r' t'=>by rw[r.inj r',Vals.inj t t']
section
variable {X:Cx} {jb:YC} {U : St} {H:Hp} {s:Shared} {a:Addr} {xs ys:YG}
theorem SqL.of {K:YD} (h:H a=some (.lst xs)):SqL K H a xs:=.inl (.inl h)
theorem SqT.of {K:YD} (h:H a=some (.tup xs)):SqT K H a xs:=.inl (.inl h)
theorem Inv.list (I:Inv X jb U H s) (h:SqL X.K H a xs):∃its:YE,Vals xs its/\PlainL s.heap a its.toArray/\xs.length<=sizeLine:=by
 rcases h with h |⟨o,its,n,hk,hc,hd,hs,hz,r⟩
 ·obtain⟨z,its,n,r,e⟩:=h.ok I.hok;exact⟨its,r,⟨_,n,e,rq,rq,rq⟩,z⟩
 ·refine⟨its.toList,r,⟨o,n,I.kIn a o hk,hc,hd,by simpa using hs⟩,?_⟩;have e:=r.length;simp only[Qap] at e;omega
theorem Inv.tuple (I:Inv X jb U H s) (h:SqT X.K H a xs):∃its:YE,Vals xs its/\IsTup s.heap a its.toArray/\xs.length<=sizeLine:=by
 rcases h with h |⟨o,its,n,hk,hc,hs,hz,r⟩
 ·obtain⟨z,its,r,p⟩:=h.ok I.hok;exact⟨its,r,p,z⟩
 ·refine⟨its.toList,r,⟨o,I.kIn a o hk,hc,n,by simpa using hs⟩,?_⟩;have e:=r.length;simp only[Qap] at e;omega
theorem Inv.VJ (I:Inv X jb U H s) (h:SqL X.K H a xs) (h':SqL X.K H a ys):xs=ys:=by
 obtain⟨its,r,⟨o,n,e,_,_,d⟩,_⟩:=I.list h;obtain⟨its',r',⟨o',n',e',_,_,d'⟩,_⟩:=I.list h';rw[e] at e';cases e';rw[d] at d';injection d' with d1 _;have:its=its':=by simpa using congrArg Array.toList d1
 subst this;exact r.inj r'
theorem Inv.Tq (I:Inv X jb U H s) (h:SqT X.K H a xs) (h':SqT X.K H a ys):xs=ys:=by
 obtain⟨its,r,⟨o,e,_,n,d⟩,_⟩:=I.tuple h;obtain⟨its',r',⟨o',e',_,n',d'⟩,_⟩:=I.tuple h';rw[e] at e';cases e';rw[d] at d';injection d' with d1 _;have:its=its':=by simpa using congrArg Array.toList d1
 subst this;exact r.inj r'
end
abbrev Cx.wish (X:Cx) (E:YA):Cx:={ X with xe:=E }
abbrev Cx.nox (X:Cx):Cx:=X.wish λ_ _=>False
theorem Cx.Ok.wish {X:Cx} (ok:X.Ok) (E:YA):(X.wish E).Ok:=
 ⟨ok.mod,ok.kind,ok.glob,ok.blt,ok.above,ok.inj,ok.has,ok.cab,ok.hd,ok.frames,ok.stk,ok.exf,ok.bs,ok.bsz,ok.Mi,ok.KQ,ok.Gm,ok.frf⟩
theorem Cx.Ok.Ej {X:Cx} {E:YA} (ok:(X.wish E).Ok):X.Ok:=
 ⟨ok.mod,ok.kind,ok.glob,ok.blt,ok.above,ok.inj,ok.has,ok.cab,ok.hd,ok.frames,ok.stk,ok.exf,ok.bs,ok.bsz,ok.Mi,ok.KQ,ok.Gm,ok.frf⟩
section
variable {X:Cx} {jb:YC} {U : St} {H:Hp} {s:Shared} {E:YA}
theorem Inv.wish (I:Inv X jb U H s) (E:YA):Inv (X.wish E) jb U H s:=⟨I.ok.wish E,I.os,I.bare,I.base,I.loc,I.cell,I.free,I.Fd,I.pin,I.hok,I.len⟩
theorem Inv.Ej (I:Inv (X.wish E) jb U H s):Inv X jb U H s:=⟨I.ok.Ej,I.os,I.bare,I.base,I.loc,I.cell,I.free,I.Fd,I.pin,I.hok,I.len⟩
theorem SP.Ej {D:Ends} {f:Flow} {s':Shared} (h:SP (X.wish E) jb D f s'):SP X jb D f s':=by
 cases f with
 | next=>obtain⟨σ',H',I,q⟩:=h;exact⟨σ',H',I.Ej,q⟩
 | brk=>obtain⟨σ',H',I,q⟩:=h;exact⟨σ',H',I.Ej,q⟩
 | cont=>obtain⟨σ',H',I,q⟩:=h;exact⟨σ',H',I.Ej,q⟩
 | ret u=>obtain⟨v,σ',H',I,r,q⟩:=h;exact⟨v,σ',H',I.Ej,r,q⟩
theorem PE.nox {e:Expr} {t:TE} (h:PE X.nox e t):PE X e t:=λjb s U H Q I hw=>
 Qbr (h jb s U H Q (I.wish _) hw) (λ_ _ ⟨v,H',I',r,q⟩=>⟨v,H',I'.Ej,r,q⟩) λ_ _ z=>False.elim z
theorem PT.nox {e:Expr} {t:TT} (h:PT X.nox e t):PT X e t:=λjb s U H Q I hw=>
 Qbr (h jb s U H Q (I.wish _) hw) (λ_ _ ⟨H',I',q⟩=>⟨H',I'.Ej,q⟩) λ_ _ z=>False.elim z
theorem PSs.nox {st:List Stmt} {t:TS} (h:PSs X.nox st t):PSs X st t:=λjb s U H D I hw=>
 Qbr (h jb s U H D (I.wish _) hw) (λ_ _ q=>q.Ej) λ_ _ z=>False.elim z
end
section
variable {X:Cx} {st:Stmt} {rest:List Stmt} {t u:TS} {e:Expr} {te:TE} {pos:Pos}
def Wn:TS:=λD U H=>D.nx U H
def Am (t u:TS):TS:=λD U H=>t { D with nx:=u D } U H
theorem Av:PSs X [] Wn:=λ_ _ U H _ I h=>wpAny_execs_nil ⟨U,H,I,h⟩
theorem Ad (h1:PS X st t) (h2:PSs X rest u):PSs X (st::rest) (Am t u):=by
 intro jb s U H D I h;refine wpAny_execs_cons (thn (h1 jb s U H { D with nx:=u D } I h) λf s1 q=>?_);cases f with
 | next=>
  obtain⟨σ',H',I',q⟩:=q;exact h2 jb s1 σ' H' D I' q
 | ret v=>exact q
 | brk=>exact q
 | cont=>exact q
theorem Af (h1:PS X st t):PSs X [st] t:=by
 intro jb s U H D I h;refine wpAny_execs_cons (thn (h1 jb s U H D I h) λf s1 q=>?_);cases f with
 | next=>exact wpAny_execs_nil q
 | ret v=>exact q
 | brk=>exact q
 | cont=>exact q
theorem Inv.quiet {jb:YC} {U : St} {H:Hp} {s:Shared} (I:Inv X jb U H s):interactive X.env=false:=by simp[interactive,I.ok.kind]
def ZW (te:TE):TS:=λD U H=>te U H λ_ H1=>D.nx U H1
theorem Ma (he:PE X e te) (hs:swapsWith e none pos.line X.env=pure false:=by rfl):PS X (.Expr e pos) (ZW te):=by
 intro jb s U H D I h;refine wpAny_Expr_any (thn (he jb s U H _ I h) λv s1 zz=>?_) I.quiet hs;obtain⟨x,H1,I1,r1,q1⟩:=zz;exact⟨U,H1,I1,q1⟩
def aJ (te:TE):TS:=λD U H=>te U H D.rt
theorem Ak (he:PE X e te):PS X (.Return (some e) pos) (aJ te):=by
 intro jb s U H D I h;refine wpAny_Return_some (thn (he jb s U H _ I h) λv s1 zz=>?_);obtain⟨x,H1,I1,r1,q1⟩:=zz;exact⟨x,U,H1,I1,r1,q1⟩
def BX (c:TT) (t u:TS):TS:=λD U H=>c U H λb H1=>if b=true then t D U H1 else u D U H1
theorem Bj {c:Expr} {a b:List Stmt} {tc:TT} (hc:PT X c tc) (ha:PSs X a t) (hb:PSs X b u):PS X (.If c a b pos) (BX tc t u):=by
 intro jb s U H D I h;refine wpAny_If (thn (hc jb s U H _ I h) λd s1 zz=>?_);obtain⟨H1,I1,q1⟩:=zz;cases d with
 | true=>exact ha jb s1 U H1 D I1 q1
 | false=>exact hb jb s1 U H1 D I1 q1
end
abbrev TG:=V->St->Hp->(YO)->Prop
abbrev TGs:=YG->St->Hp->(YO)->Prop
def PG (X:Cx) (target:Expr) (t:TG):Prop:=
 ∀(jb:YC) (s:Shared) (U : St) (H:Hp) (v:V) (u:Value) (Q:YO),Inv X jb U H s->RelV v u->t v U H Q ->
  wpAny (model X.prog X.w) X.A (assign target X.env u) (λ_ s'=>∃ σ' H',Inv X jb σ' H' s'/\Q σ' H') X.xe s
def PGs (X:Cx) (ts:YJ) (t:TGs):Prop:=
 ∀(jb:YC) (s:Shared) (U : St) (H:Hp) (vs:YG) (us:YE) (Q:YO),Inv X jb U H s->Vals vs us->t vs U H Q ->
  wpAny (model X.prog X.w) X.A (assignInOrder ((assignEach ts X.env).map (·.2)) us) (λ_ s'=>∃ σ' H',Inv X jb σ' H' s'/\Q σ' H') X.xe s
abbrev V8:=V->V->V->Hp->(Hp->Prop)->Prop
def ZK (X:Cx) (t:V8):Prop:=
 ∀(jb:YC) (s:Shared) (U : St) (H:Hp) (o i v:V) (ov iv u:Value) (Q:Hp->Prop),Inv X jb U H s->RelV o ov->RelV i iv->RelV v u->t o i v H Q ->
  wpAny (model X.prog X.w) X.A (setItem ov iv u) (λ_ s'=>∃H',Inv X jb U H' s'/\Q H') X.xe s
abbrev TIp:=V->V->Hp->VK->Prop
def PIp (X:Cx) (op:Operator) (t:TIp):Prop:=
 ∀(jb:YC) (s:Shared) (U : St) (H:Hp) (x y:V) (v u:Value) (Q:VK),Inv X jb U H s->RelV x v->RelV y u->t x y H Q ->
  wpAny (model X.prog X.w) X.A (inplaceOp op v u) (EP X jb U Q) X.xe s
section
variable {X:Cx} {pos:Pos}
def Gd (i:Nat):TG:=λv U H Q=>Q (U.set i (some v)) H
theorem Cd {i:Nat} {x:Str} (hN:X.N.Nodup) (hi:X.N[i]?=some x) (hx:Loc X.env.scope x) (hf:X.fn x=true\/X.env.scope.names.lookup x=some .local:=by first | exact .inl rfl | exact .inr rfl | assumption):PG X (.Name x pos) (Gd i):=by
 intro jb s U H v u Q I r h;exact wpAny_assign_Name (Jh I hN hi hx r (λs' I'=>⟨_,H,I',h⟩) hf)
def dz:TGs:=λvs U H Q=>vs=[]/\Q U H
def au (t:TG) (u:TGs):TGs:=λvs U H Q=>∃v r,vs=v::r/\t v U H fun σ' H'=>u r σ' H' Q
theorem Xe:PGs X [] dz:=by
 intro jb s U H vs us Q I r h;obtain⟨e,h⟩:=h;subst e;cases r;exact assignInOrder_nil ⟨U,H,I,h⟩
theorem O6 {e:Expr} {es:YJ} {t:TG} {u:TGs} (h1:PG X e t) (h2:PGs X es u)
  (hs:(assignEach (e::es) X.env).map (·.2)=assign e X.env::(assignEach es X.env).map (·.2):=by rfl):PGs X (e::es) (au t u):=by
 intro jb s U H vs us Q I r h;obtain⟨v,vr,e1,h⟩:=h;subst e1;cases r with
 | cons r rr=>
  rw[hs];refine assignInOrder_cons (thn (h1 jb s U H _ _ _ I r h) λ_ s1 zz=>?_);obtain⟨σ1,H1,I1,q1⟩:=zz;exact h2 jb s1 σ1 H1 _ _ Q I1 rr q1
def dj (K:YD) (n:Nat) (t:TGs):TG:=λv U H Q=>∃a xs,v=.ref a/\SqT K H a xs/\xs.length=n/\t xs U H Q
theorem Yz {es:YJ} {k:Nat} {t:TGs} {n:Nat} (hc:X.calm=true) (h:PGs X es t)
  (hn:(assignEach es X.env).length=n:=by rfl) (hst:(assignEach es X.env).findIdx? (·.1)=none:=by rfl):PG X (.Tuple es k pos) (dj X.K n t):=by
 intro jb s U H v u Q I r hw;obtain⟨a,xs,e1,hq,hl,hw⟩:=hw;subst e1;cases r;obtain⟨its,rv,ht,hz⟩:=I.tuple hq;refine assign_Tuple_tuple (I.ok.hd hc) ht (by simp[hn,<-hl,rv.length]) hst λh' hx=>?_;have I1:Inv X jb U H { s with heap:=h' }:=I.kept (t':=s.toks) λb o e=>hx b o (Qbl (Qbj e)) e;exact h jb _ U H xs _ Q I1 (by simpa using rv) hw
def dw (to ti:TE) (t:V8):TG:=λv U H Q=>to U H λo H1=>ti U H1 λi H2=>t o i v H2 λH3=>Q U H3
theorem JL {o i:Expr} {to ti:TE} {t:V8} (ho:PE X o to) (hi:PE X i ti) (hs:ZK X t)
  (ha:∀v,assign (.Subscript o i pos) X.env v=(do
   let ov <-holding [v] (eval o X.env);let iv <-holding [v,ov] (eval i X.env)
   standAt pos
   holding [v,ov,iv] (setItem ov iv v)
   release [v,ov,iv] []):=by intro _;rfl):PG X (.Subscript o i pos) (dw to ti t):=by
 intro jb s U H v u Q I r h;rw[ha];refine Qbp (Qbi (thn (ho jb s U H _ I h) λov s1 zz=>?_));obtain⟨x,H1,I1,r1,q1⟩:=zz;refine Qbp (Qbi (thn (hi jb s1 U H1 _ I1 q1) λiv s2 zz=>?_));obtain⟨y,H2,I2,r2,q2⟩:=zz;refine Qbp (Qbh (Qbp (Qbi (thn (hs jb s2 U H2 x y v ov iv u _ I2 r1 r2 r q2) λ_ s3 zz=>?_))));obtain⟨H3,I3,q3⟩:=zz;exact wpAny_release ⟨U,H3,I3,q3⟩
def Vn (te:TE) (g:TG):TS:=λD U H=>te U H λx H1=>g x U H1 D.nx
theorem JK {tg e:Expr} {te:TE} {g:TG} (he:PE X e te) (hg:PG X tg g) (hs:swapsWithSole [tg] e pos.line X.env=pure false:=by rfl) (hw:swappedStores [tg] e X.env=pure none:=by rfl)
  (h1:(assignEach [tg] X.env).map (·.2)=[assign tg X.env]:=by rfl):PS X (.Assign [tg] e pos) (Vn te g):=by
 intro jb s U H D I h;refine wpAny_Assign_stores (thn (he jb s U H _ I h) λv s1 zz=>?_) hs hw;obtain⟨x,H1,I1,r1,q1⟩:=zz;rw[h1];exact thn (hg jb s1 U H1 x v _ I1 r1 q1) λ_ s2 q=>q
theorem Bg {i:Nat} {x:Str} {e:Expr} {te:TE} {pos':Pos} (hN:X.N.Nodup) (hi:X.N[i]?=some x) (hx:Loc X.env.scope x) (he:PE X e te) (hs:swapsWith e (some (.Name x pos')) pos.line X.env=pure false:=by rfl) (hf:X.fn x=true\/X.env.scope.names.lookup x=some .local:=by first | exact .inl rfl | exact .inr rfl | assumption) :
  PS X (.Assign [.Name x pos'] e pos) (Vn te (Gd i)):=by
 intro jb s U H D I h;refine wpAny_Assign_Name (thn (he jb s U H _ I h) λv s1 zz=>?_) hs;obtain⟨y,H1,I1,r1,q1⟩:=zz;exact Jh I1 hN hi hx r1 (λs2 I2=>⟨_,H1,I2,q1⟩) hf
def aP (i:Nat) (te:TE) (ti:TIp):TS:=λD U H=>∃x,U[i]?=some (some x)/\te U H λy H1=>ti x y H1 λz H2=>D.nx (U.set i (some z)) H2
theorem Yy {i:Nat} {x:Str} {e:Expr} {te:TE} {op:Operator} {ti:TIp} {pos':Pos} (hN:X.N.Nodup) (hi:X.N[i]?=some x) (hx:Loc X.env.scope x) (he:PE X e te) (ho:PIp X op ti) (hf:X.fn x=true\/X.env.scope.names.lookup x=some .local:=by first | exact .inl rfl | exact .inr rfl | assumption) :
  PS X (.AugAssign (.Name x pos') op e pos) (aP i te ti):=by
 intro jb s U H D I h;obtain⟨v,e1,h⟩:=h;obtain⟨m,hn,hl⟩:=I.loc;have vis:Vis X.env.scope x:=by rcases hx with k | k;exact .inl k;exact .inr (.inl k)
 obtain⟨u,r,l⟩:=hl i x v hi e1 vis;refine wpAny_AugAssign_Name ?_;have go:wpAny (model X.prog X.w) X.A (eval e X.env) (λw s₂=>wpAny (model X.prog X.w) X.A (inplaceOp op u w) (λr s₃=>wpAny (model X.prog X.w) X.A (storeName X.env x r) (λ_=>SP X jb D .next) X.xe s₃) X.xe s₂) X.xe s:=by
  refine thn (he jb s U H _ I h) λw s1 zz=>?_;obtain⟨y,H1,I1,r1,q1⟩:=zz;refine thn (ho jb s1 U H1 v y u w _ I1 r r1 q1) λz s2 zz=>?_;obtain⟨zv,H2,I2,r2,q2⟩:=zz;exact Jh I2 hN hi hx r2 (λs3 I3=>⟨_,H2,I3,q2⟩) hf
 rcases l with⟨hk,hm⟩|⟨hk,c,hc,hcell⟩
 ·exact wpAny_loadName_local I.ok.kind hk hn hm go
 ·rcases hk with hk | hk
  ·exact wpAny_loadName_cell I.ok.kind hk hc hcell go
  ·rcases hx with k | k
   ·have:X.env.scope.names.lookup x=some .free:=hk;rw[k] at this;cases this
   ·have:X.env.scope.names.lookup x=some .free:=hk;rw[k] at this;cases this
def ipI (f:Int->Int->Int):TIp:=λx y H Q=>∃i j,x=.int i/\y=.int j/\Q (.int (f i j)) H
theorem Ze:PIp X .Add (ipI λi j=>i+j):=by
 intro jb s U H x y v u Q I r1 r2 h;obtain⟨i,j,e1,e2,q⟩:=h;subst e1;subst e2;obtain⟨t,rfl⟩:=r1;obtain⟨t',rfl⟩:=r2;exact iadd_int ⟨.int _,H,I.tok _,⟨_,rq⟩,q⟩
end
section
variable {X:Cx} {pos:Pos}
end
structure It where
 go:Nat->Hp->Prop
 yld:Nat->Hp->V->Hp->Prop
 stop:Nat->Hp->Prop
def Ed (X:Cx) (jb:YC) (H:Hp) (b:Addr):Prop:=
 H b=none/\b≠X.env.locals/\b∉X.fs/\(b∈X.ex\/X.s₀.heap.objs.size<=b)/\(∀x c,X.env.cells.lookup x=some c->c≠b)/\∀p∈X.pn++jb,p.1≠b
theorem Inv.PK {X:Cx} {jb:YC} {U : St} {H H':Hp} {s:Shared} {b:Addr} (I:Inv X jb U H s) (hb:s.heap.objs.size<=b) (hn:H' b=none):Ed X jb H' b:=by
 refine⟨hn,Nat.ne_of_gt (Qat I.lt hb),I.Y0 hb,.inr (Qbk I.sz hb),λx c e z=>?_,λp hp z=>?_⟩
 ·obtain⟨v,q⟩:=I.cell x c e;exact absurd (Qat q.lt (by rw[z];exact hb)) (Qbg _)
 ·exact absurd (Qat (Qbj (I.pin p hp).1) (by rw[z];exact hb)) (Qbg _)
structure Turn (P:Program) (w:World) (K:YD) (tg:Expr) (J:It) (fp:List Addr) (it:Addr) (tn:Nat->Heap->Prop):Prop where
 mem:it∈fp
 obj:∀i h,tn i h->∀b∈fp,∃o,h.get? b=some o/\∀v,o.data≠.cell v
 keep:∀i h h',tn i h->(∀b∈fp,∀o,h.get? b=some o->h'.get? b=some o)->tn i h'
 item:∀(X:Cx),X.prog=P->X.w=w->X.K=K->X.calm=true->∀(i:Nat) (jb:YC) (s:Shared) (U : St) (H:Hp) (E:YA),Inv X jb U H s->(∀b∈fp,Ed X jb H b)->tn i s.heap->J.go i H ->
  wpAny (model P w) X.A (pyNext (.ref it)) (λr s1=>∃u,r=some u /\
   wpAny (model P w) X.A (letOwnedTupleGo tg (.ref it) u) (λ_ s2=>∃x H',Inv X jb U H' s2/\RelV x u/\J.yld i H x H'/\tn (i+1) s2.heap/\∀b∈fp,H' b=none) E s1) E s
 done:∀(X:Cx),X.prog=P->X.w=w->X.K=K->X.calm=true->∀(i:Nat) (jb:YC) (s:Shared) (U : St) (H:Hp) (E:YA),Inv X jb U H s->(∀b∈fp,Ed X jb H b)->tn i s.heap->J.stop i H ->
  wpAny (model P w) X.A (pyNext (.ref it)) (λr s1=>r=none/\Inv X jb U H s1) E s
 self:∀(A:Around) (i:Nat) (s:Shared) (Q:YA) (E:YA),tn i s.heap->Q (.ref it) s->wpAny (model P w) A (pyIter (.ref it)) Q E s
abbrev TI:=St->Hp->(It->Hp->Prop)->Prop
def PIE (X:Cx) (jb:YC) (U : St) (tg:Expr) (R:It->Hp->Prop) (itv:Value) (s2:Shared):Prop:=
 ∃(it:Addr) (fp:List Addr) (tn:Nat->Heap->Prop) (J:It) (H':Hp),itv=.ref it/\Inv X jb U H' s2/\Turn X.prog X.w X.K tg J fp it tn/\tn 0 s2.heap/\(∀b∈fp,Ed X jb H' b)/\R J H'
def PI (X:Cx) (tg iter:Expr) (wi:TI):Prop:=
 ∀(jb:YC) (s:Shared) (U : St) (H:Hp) (R:It->Hp->Prop),Inv X jb U H s->wi U H R ->
  wpAny (model X.prog X.w) X.A (eval iter X.env) (λv s1=>wpAny (model X.prog X.w) X.A (pyIter v) (PIE X jb U tg R) X.xe s1) X.xe s
theorem Oe {M:Model} {A:Around} {E:YA} {s:Shared} {tg:Expr} {it:Addr} {u:Value} {o:Obj} {n:String} {vs:Array Value} {Q:YH} (ho:s.heap.get? it=some o) (hc:o.cls=.type n) (hd:o.data=.fields vs)
    (hn:["enumerate","zip","dict_itemiterator","dict_reverseitemiterator","odict_iterator","itertools.zip_longest","itertools.pairwise"].contains n=false) (hQ:Q () s):wpAny M A (letOwnedTupleGo tg (.ref it) u) Q E s:=by
  unfold letOwnedTupleGo;cases tg <;> first
    | exact Qbq hQ
    | (cases u <;> first
        | exact Qbq hQ
        | (refine Qbp (wpAny_load ho ?_)
           rw[hc,hd];show wpAny M A (if (["enumerate","zip","dict_itemiterator","dict_reverseitemiterator","odict_iterator","itertools.zip_longest","itertools.pairwise"].contains n&&vs[0]? == some (rawInt _))=true then _ else _) Q E s
           rw[if_neg (by intro h;rw[hn,Bool.false_and] at h;cases h)];exact Qbq hQ))
def Itl (K:YD) (a:Addr):It:=
 ⟨λi H=>∃xs x,SqL K H a xs/\xs[i]?=some x,λi H x H'=>H'=H/\∀xs,SqL K H a xs->xs[i]?=some x,λi H=>∃xs,SqL K H a xs/\xs.length<=i⟩
def Itt (K:YD) (a:Addr):It:=
 ⟨λi H=>∃xs x,SqT K H a xs/\xs[i]?=some x,λi H x H'=>H'=H/\∀xs,SqT K H a xs->xs[i]?=some x,λi H=>∃xs,SqT K H a xs/\xs.length<=i⟩
def Itr (lo:Int) (n:Nat):It:=⟨λi _=>i < n,λi H x H'=>H'=H/\x=.int (lo+i),λi _=>n<=i⟩
theorem Tp {P:Program} {w:World} {K:YD} {tg:Expr} (a it:Addr):Turn P w K tg (Itl K a) [it] it (λi h=>h.IsListIter it a i) where
 mem:=by simp
 obj:=λi h st b hb=>by
  have e:b=it:=by simpa using hb
  subst e;obtain⟨o,e,c,d⟩:=st;exact⟨o,e,λv z=>by rw[d] at z;cases z⟩
 keep:=λi h h' st k=>st.at λo e=>k it (by simp) o e
 item:=by
  intro X hP hw hK hc i jb s U H E I hf st hg;subst hP hw hK;obtain⟨xs,x,hq,hx⟩:=hg;obtain⟨its,rv,p,hz⟩:=I.list hq;obtain⟨u,hu,ru⟩:=rv.get hx;obtain⟨f0,f1,f2,f3,f4,f5⟩:=hf it (by simp);refine wpAny_pyNext_list_item st p.isList (x:=u) (by simpa using hu) λh' st' sb=>?_;have I1:Inv X jb U H { s with heap:=h' }:=I.turned (t':=s.toks) (λb o hb e=>(sb.2 b hb).trans e) f0 f1 f3 f4 f5;obtain⟨o,e,c,d⟩:=id st';exact⟨u,rq,Oe (s:={ s with heap:=h' }) e c d (by decide) ⟨x,H,I1,ru,⟨rq,λys hy=>by rw[I.VJ hy hq];exact hx⟩,st',λb hb=>(hf b hb).1⟩⟩
 done:=by
  intro X hP hw hK hc i jb s U H E I hf st hg;subst hP hw hK;obtain⟨xs,hq,hx⟩:=hg;obtain⟨its,rv,p,hz⟩:=I.list hq;obtain⟨f0,f1,f2,f3,f4,f5⟩:=hf it (by simp);have hl:=rv.length;exact wpAny_pyNext_list_end (I.ok.hd hc) st p.isList (by simp;omega) λh' eb=>⟨rq,I.turned (t':=s.toks) (λb o hb e=>eb b o hb e) f0 f1 f3 f4 f5⟩
 self:=λ_ _ _ _ _ st h=>wpAny_pyIter_listiter st h
theorem Rw {P:Program} {w:World} {K:YD} {tg:Expr} (a it:Addr):Turn P w K tg (Itt K a) [it] it (λi h=>h.IsTupleIter it a i) where
 mem:=by simp
 obj:=λi h st b hb=>by
  have e:b=it:=by simpa using hb
  subst e;obtain⟨o,e,c,d⟩:=st;exact⟨o,e,λv z=>by rw[d] at z;cases z⟩
 keep:=λi h h' st k=>st.at λo e=>k it (by simp) o e
 item:=by
  intro X hP hw hK hc i jb s U H E I hf st hg;subst hP hw hK;obtain⟨xs,x,hq,hx⟩:=hg;obtain⟨its,rv,p,hz⟩:=I.tuple hq;obtain⟨u,hu,ru⟩:=rv.get hx;obtain⟨f0,f1,f2,f3,f4,f5⟩:=hf it (by simp);refine wpAny_pyNext_tuple_item st (show s.heap.IsTuple a its.toArray from p) (x:=u) (by simpa using hu) λh' st' sb=>?_
  have I1:Inv X jb U H { s with heap:=h' }:=I.turned (t':=s.toks) (λb o hb e=>(sb.2 b hb).trans e) f0 f1 f3 f4 f5;obtain⟨o,e,c,d⟩:=id st';exact⟨u,rq,Oe (s:={ s with heap:=h' }) e c d (by decide) ⟨x,H,I1,ru,⟨rq,λys hy=>by rw[I.Tq hy hq];exact hx⟩,st',λb hb=>(hf b hb).1⟩⟩
 done:=by
  intro X hP hw hK hc i jb s U H E I hf st hg;subst hP hw hK;obtain⟨xs,hq,hx⟩:=hg;obtain⟨its,rv,p,hz⟩:=I.tuple hq;obtain⟨f0,f1,f2,f3,f4,f5⟩:=hf it (by simp);have hl:=rv.length;exact wpAny_pyNext_tuple_end (I.ok.hd hc) st (show s.heap.IsTuple a its.toArray from p) (by simp;omega) λh' eb=>⟨rq,I.turned (t':=s.toks) (λb o hb e=>eb b o hb e) f0 f1 f3 f4 f5⟩
 self:=λ_ _ _ _ _ st h=>wpAny_pyIter_tupleiter st h
theorem Rx {P:Program} {w:World} {K:YD} {tg:Expr} (it:Addr) (lo:Int) (n:Nat):Turn P w K tg (Itr lo n) [it] it (λi h=>IsRangeIter h it (lo+(i:Nat)*1) ((n:Int) - (i:Nat)) 1) where
 mem:=by simp
 obj:=λi h st b hb=>by
  have e:b=it:=by simpa using hb
  subst e;exact⟨_,st,λv z=>by
   have z':Data.fields _=Data.cell v:=z;cases z'⟩
 keep:=λi h h' st k=>k it (by simp) _ st
 item:=by
  intro X hP hw hK hc i jb s U H E I hf st hg;subst hP hw hK;obtain⟨f0,f1,f2,f3,f4,f5⟩:=hf it (by simp);have W:=Walks.range (prog:=X.prog) (w:=X.w) (I.ok.hd hc) it lo 1 n;refine W.item i s _ _ hg st λv h' tk hv st' kk=>?_;obtain⟨t,rfl⟩:=hv;have I1:Inv X jb U H { s with heap:=h',toks:=tk }:=I.turned (λb o hb e=>kk b o (by simpa using hb) e) f0 f1 f3 f4 f5;refine⟨_,rq,Oe (s:={ s with heap:=h',toks:=tk }) (n:="range_iterator") st' rfl rfl (by decide) ⟨.int (lo+i),H,I1,⟨t,?_⟩,⟨rq,rq⟩,st',λb hb=>(hf b hb).1⟩⟩;rw[Int.mul_one]
 done:=by
  intro X hP hw hK hc i jb s U H E I hf st hg;subst hP hw hK;obtain⟨f0,f1,f2,f3,f4,f5⟩:=hf it (by simp);exact wpAny_pyNext_range_end (I.ok.hd hc) st (by have:n<=i:=hg;omega) λh' eb=>⟨rq,I.turned (t':=s.toks) (λb o hb e=>eb b o hb e) f0 f1 f3 f4 f5⟩
 self:=λ_ _ _ _ _ st h=>wpAny_pyIter_rangeiter st h
section
variable {X:Cx} {tg:Expr}
def aq (K:YD) (tl:TE):TI:=fun U H R=>tl U H λx H1=>∃a,x=.ref a/\(∃xs,SqL K H1 a xs)/\R (Itl K a) H1
def Zf (K:YD) (tl:TE):TI:=fun U H R=>tl U H λx H1=>∃a,x=.ref a/\(∃xs,SqT K H1 a xs)/\R (Itt K a) H1
theorem Q7 {l:Expr} {tl:TE} (hl:PE X l tl):PI X tg l (aq X.K tl):=by
 intro jb s U H R I h;refine thn (hl jb s U H _ I h) λv s1 zz=>?_;obtain⟨x,H1,I1,r1,q1⟩:=zz;obtain⟨a,e,⟨xs,hq⟩,q⟩:=q1;subst e;cases r1;obtain⟨its,rv,p,hz⟩:=I1.list hq;refine wpAny_pyIter_list p.isList ?_;refine⟨s1.heap.objs.size,[s1.heap.objs.size],_,_,H1,rq,I1.kept (t':=s1.toks) λb o e=>Qai _ e,Tp a _,⟨_,Qao _ rfl,rq,rq⟩,λb hb=>?_,q⟩;have e:b=s1.heap.objs.size:=by simpa using hb
 subst e;exact I1.PK (Qbm _) (I1.hok.fresh (Qbm _))
theorem O4 {l:Expr} {tl:TE} (hl:PE X l tl):PI X tg l (Zf X.K tl):=by
 intro jb s U H R I h;refine thn (hl jb s U H _ I h) λv s1 zz=>?_;obtain⟨x,H1,I1,r1,q1⟩:=zz;obtain⟨a,e,⟨xs,hq⟩,q⟩:=q1;subst e;cases r1;obtain⟨its,rv,p,hz⟩:=I1.tuple hq;refine wpAny_pyIter_tuple (show s1.heap.IsTuple a its.toArray from p) ?_
 refine⟨s1.heap.objs.size,[s1.heap.objs.size],_,_,H1,rq,I1.kept (t':=s1.toks) λb o e=>Qai _ e,Rw a _,⟨_,Qao _ rfl,rq,rq⟩,λb hb=>?_,q⟩;have e:b=s1.heap.objs.size:=by simpa using hb
 subst e;exact I1.PK (Qbm _) (I1.hok.fresh (Qbm _))
theorem Vr {jb:YC} {U : St} {H:Hp} {s:Shared} {R:It->Hp->Prop} {E:YA} {lo hi:Int} {t u v:Tok} {tk:Nat} (I:Inv X jb U H s) (h1:-(2 ^ 62)<=lo) (h2:lo < 2 ^ 62) (h3:-(2 ^ 62)<=hi) (h4:hi < 2 ^ 62)
  (q:R (Itr lo (hi - lo).toNat) H):wpAny (model X.prog X.w) X.A (pyIter (.ref s.heap.objs.size)) (PIE X jb U tg R) E { s with heap:=s.heap.push { cls:=.type "range",data:=.fields #[.int lo t,.int hi u,.int 1 v] },toks:=tk }:=by
 refine wpAny_pyIter_range (IsRange.new ..) (small_one h1 h2 h3 h4) ?_;have I1:Inv X jb U H { s with heap:=s.heap.push { cls:=.type "range",data:=.fields #[.int lo t,.int hi u,.int 1 v] },toks:=tk }:=I.kept λb o e=>Qai _ e;refine⟨(s.heap.push { cls:=.type "range",data:=.fields #[.int lo t,.int hi u,.int 1 v] }).objs.size,[(s.heap.push { cls:=.type "range",data:=.fields #[.int lo t,.int hi u,.int 1 v] }).objs.size],_,_,H,rq,
  I1.kept (t':=tk) λb o e=>Qai _ e,Rx _ lo (hi - lo).toNat,?_,λb hb=>?_,q⟩
 ·have e1:lo+((0:Nat):Int)*1=lo:=by simp
  have e2:(((hi - lo).toNat:Nat):Int) - ((0:Nat):Int)=Builtin.Range.rangeSize lo hi 1:=by rw[rangeSize_one];split <;> omega
  show IsRangeIter _ _ (lo+((0:Nat):Int)*1) ((((hi - lo).toNat:Nat):Int) - ((0:Nat):Int)) 1;rw[e1,e2];exact Qao _ rfl
 ·have e:b=(s.heap.push { cls:=.type "range",data:=.fields #[.int lo t,.int hi u,.int 1 v] }).objs.size:=by simpa using hb
  subst e;exact I1.PK (Qbm _) (I1.hok.fresh (Qbm _))
def ao (ta:TA):TI:=fun U H R=>ta U H λvs H1=>∃j:Int,vs=[.int j]/\-(2 ^ 62)<=j/\j < 2 ^ 62/\R (Itr 0 j.toNat) H1
theorem El {a:Expr} {ta:TA} {p pos:Pos} (hg:Gl X "range") (hm:X.mg "range"=none) (ha:PA X [a] ta) (hs:starEach [a] X.env=[(false,eval a X.env)]:=by rfl):PI X tg (.Call (.Name "range" p) [a] [] pos) (ao ta):=by
 intro jb s U H R I h;refine Call_ (JQ I hg hm boot_range (PyProof.Rows.callWith_type1 (thn (ha pos jb s U H _ I h) λus s1 zz=>?_) hs rfl));obtain⟨vs,H1,I1,r1,q1⟩:=zz;obtain⟨j,e,q1,q2,q⟩:=q1;subst e;cases r1 with
 | cons r rr=>
  cases rr;obtain⟨t,rfl⟩:=r;exact call_range_1 (Vr I1 (by omega) (by omega) q1 q2 (by simpa using q))
abbrev YN:=Nat->YO
def Jg (wi:TI) (g:TG) (tb:TS):TS:=λD U H=>wi U H λJ H1=>∃W:Nat->YN,(∃m,W 0 m U H1)/\∀i m U H,W i m U H ->
 (J.stop i H/\D.nx U H)\/(J.go i H/\∃N:YO,(∀ σ' H',N σ' H'->∃m',m' < m/\W (i+1) m' σ' H')/\∀x H',J.yld i H x H'->g x U H' fun σ2 H2=>tb { D with nx:=N,ct:=N,bk:=D.nx } σ2 H2)
def HN (fp:List Addr) (h:Heap):YC:=fp.filterMap λb=>(h.get? b).map λo=>(b,o)
theorem Ew {fp:List Addr} {h:Heap} {b:Addr} {o:Obj} (hb:b∈fp) (e:h.get? b=some o):(b,o)∈HN fp h:=List.mem_filterMap.mpr ⟨b,hb,by rw[e];rfl⟩
theorem Ug {fp:List Addr} {h:Heap} {p:Addr×Obj} (hp:p∈HN fp h):p.1∈fp/\h.get? p.1=some p.2:=by
 obtain⟨b,hb,e⟩:=List.mem_filterMap.mp hp;cases q:h.get? b with
 | none=>rw[q] at e;cases e
 | some o=>
  rw[q] at e;have e':(b,o)=p:=QaS e;subst e';exact⟨hb,q⟩
theorem Inv.pinned {jb:YC} {U : St} {H:Hp} {s:Shared} {fp:List Addr} (I:Inv X jb U H s) (hf:∀b∈fp,Ed X jb H b) (ho:∀b∈fp,∃o,s.heap.get? b=some o/\∀v,o.data≠.cell v):Inv X (jb++HN fp s.heap) U H s:=
 I.Mg λp hp=>(QaR.mp hp).elim (λz=>I.pin p (Qaj _ z)) λz=>by
  obtain⟨hb,e⟩:=Ug z;obtain⟨f0,f1,f2,_⟩:=hf p.1 hb;obtain⟨o,e',d⟩:=ho p.1 hb;rw[e] at e';cases e';exact⟨e,f0,f1,f2,d⟩
theorem Inv.Fg {jb pl:YC} {U : St} {H:Hp} {s:Shared} (I:Inv X (jb++pl) U H s):Inv X jb U H s:=I.Mg λp hp=>I.pin p (Qaj _ (List.mem_append_left _ hp))
theorem GK {iter:Expr} {body:List Stmt} {wi:TI} {g:TG} {tb:TS} {pos:Pos} (hp:PassesOwn (model X.prog X.w) X.A X.env X.xe) (hc:X.calm=true) (hi:PI X tg iter wi) (hg:PG X tg g) (hb:PSs X body tb)
  (hs:∀x,foldedSetIterable iter X.env x=pure x:=by intro _;rfl):PS X (.For tg iter body [] pos) (Jg wi g tb):=by
 intro jb s U H D I h;refine wpAny_For (thn (hi jb s U H _ I h) λv s1 h1=>thn h1 λitv s2 h2=>?_) hs;obtain⟨it,fp,tn,J,H2,e,I2,T,st2,f2,W,⟨m0,w0⟩,turn⟩:=h2;subst e;have stat:∀{H':Hp},(∀b∈fp,H' b=none)->∀b∈fp,Ed X jb H' b:=λhn b hb=>⟨hn b hb,(f2 b hb).2⟩;refine codeAny_forLoop_any (λn s'=>∃i σ' H',Inv X jb σ' H' s'/\tn i s'.heap/\(∀b∈fp,H' b=none)/\W i n σ' H') ?_ m0 ⟨0,U,H2,I2,st2,λb hb=>(f2 b hb).1,w0⟩;rintro n s3 ⟨i,σ3,H3,I3,st3,fr3,w3⟩;rcases turn i n σ3 H3 w3 with⟨stop,qn⟩|⟨go,N,hN,step⟩
 ·refine wpAny_passesOwn hp (thn (T.done X rfl rfl rfl hc i jb s3 σ3 H3 X.xe I3 (stat fr3) st3 stop) λr s4 zz=>?_);obtain⟨hr,I4⟩:=zz;subst hr;exact wpAny_execs_nil ⟨σ3,H3,I4,qn⟩
 ·refine wpAny_passesOwn hp (thn (T.item X rfl rfl rfl hc i jb s3 σ3 H3 X.xe I3 (stat fr3) st3 go) λr s4 zz=>?_);obtain⟨u,hr,h4⟩:=zz;subst hr;refine wpAny_passesOwn hp (thn h4 λ_ s5 zz=>?_);obtain⟨x,H5,I5,r5,y5,st5,fr5⟩:=zz;have I5':=I5.pinned (stat fr5) (T.obj _ _ st5);refine wpAny_passesOwn hp (thn (hg _ s5 σ3 H5 x u _ I5' r5 (step x H5 y5)) λ_ s6 zz=>?_);obtain⟨σ6,H6,I6,q6⟩:=zz;refine wpAny_passesOwn hp (thn (hb _ s6 σ6 H6 _ I6 q6) λf s7 q7=>?_);have again:∀{σ7:St} {H7:Hp},Inv X (jb++HN fp s5.heap) σ7 H7 s7->N σ7 H7->∃m,m < n/\∃i σ' H',Inv X jb σ' H' s7/\tn i s7.heap/\(∀b∈fp,H' b=none)/\W i m σ' H':=λ{σ7 H7} I7 n7=>by
   obtain⟨m',hm,w7⟩:=hN σ7 H7 n7;refine⟨m',hm,i+1,σ7,H7,I7.Fg,T.keep _ _ _ st5 λb hb o e=>(I7.pin (b,o) (Qaj _ (Qaj _ (Ew hb e)))).1,λb hb=>?_,w7⟩;obtain⟨o,e,d⟩:=T.obj _ _ st5 b hb;exact (I7.pin (b,o) (Qaj _ (Qaj _ (Ew hb e)))).2.1
  cases f with
  | next=>obtain⟨σ7,H7,I7,n7⟩:=q7;exact again I7 n7
  | cont=>obtain⟨σ7,H7,I7,n7⟩:=q7;exact again I7 n7
  | brk=>obtain⟨σ7,H7,I7,q7⟩:=q7;exact⟨σ7,H7,I7.Fg,q7⟩
  | ret v=>obtain⟨x7,σ7,H7,I7,r7,q7⟩:=q7;exact⟨x7,σ7,H7,I7.Fg,r7,q7⟩
end
theorem dB {K:YD} {a:Addr} {xs:YG} {g:TG} {tb:TS} {D:Ends} {U : St} {H:Hp} (Pv:YN) (h0:Pv 0 U H) (hl:∀i U H,i<=xs.length->Pv i U H->SqL K H a xs)
  (hs:∀i x U H,xs[i]?=some x->Pv i U H->g x U H fun σ2 H2=>tb { D with nx:=Pv (i+1),ct:=Pv (i+1),bk:=D.nx } σ2 H2) (hd:∀ U H,Pv xs.length U H->D.nx U H) :
  ∃W:Nat->YN,(∃m,W 0 m U H)/\∀i m U H,W i m U H ->
   ((Itl K a).stop i H/\D.nx U H)\/((Itl K a).go i H/\∃N:YO,(∀ σ' H',N σ' H'->∃m',m' < m/\W (i+1) m' σ' H')/\∀x H',(Itl K a).yld i H x H'->g x U H' fun σ2 H2=>tb { D with nx:=N,ct:=N,bk:=D.nx } σ2 H2):=by
 refine⟨λi m U H=>m=xs.length - i/\i<=xs.length/\Pv i U H,⟨xs.length,by simp,Qbn _,h0⟩,?_⟩;rintro i m U H ⟨rfl,hi,p⟩;have q:=hl i U H hi p;by_cases hlt:i < xs.length
 ·refine .inr ⟨⟨xs,xs[i],q,by simp[hlt]⟩,Pv (i+1),fun σ' H' p'=>⟨xs.length - (i+1),by omega,rq,hlt,p'⟩,λx H' y=>?_⟩;obtain⟨e,y⟩:=y;subst e;exact hs i x U _ (y xs q) p
 ·have e:i=xs.length:=by omega
  subst e;exact .inl ⟨⟨xs,q,Qbm _⟩,hd U H p⟩
theorem XD {K:YD} {a:Addr} {xs:YG} {g:TG} {tb:TS} {D:Ends} {U : St} {H:Hp} (Pv:YN) (h0:Pv 0 U H) (hl:∀i U H,i<=xs.length->Pv i U H->SqT K H a xs)
  (hs:∀i x U H,xs[i]?=some x->Pv i U H->g x U H fun σ2 H2=>tb { D with nx:=Pv (i+1),ct:=Pv (i+1),bk:=D.nx } σ2 H2) (hd:∀ U H,Pv xs.length U H->D.nx U H) :
  ∃W:Nat->YN,(∃m,W 0 m U H)/\∀i m U H,W i m U H ->
   ((Itt K a).stop i H/\D.nx U H)\/((Itt K a).go i H/\∃N:YO,(∀ σ' H',N σ' H'->∃m',m' < m/\W (i+1) m' σ' H')/\∀x H',(Itt K a).yld i H x H'->g x U H' fun σ2 H2=>tb { D with nx:=N,ct:=N,bk:=D.nx } σ2 H2):=by
 refine⟨λi m U H=>m=xs.length - i/\i<=xs.length/\Pv i U H,⟨xs.length,by simp,Qbn _,h0⟩,?_⟩;rintro i m U H ⟨rfl,hi,p⟩;have q:=hl i U H hi p;by_cases hlt:i < xs.length
 ·refine .inr ⟨⟨xs,xs[i],q,by simp[hlt]⟩,Pv (i+1),fun σ' H' p'=>⟨xs.length - (i+1),by omega,rq,hlt,p'⟩,λx H' y=>?_⟩;obtain⟨e,y⟩:=y;subst e;exact hs i x U _ (y xs q) p
 ·have e:i=xs.length:=by omega
  subst e;exact .inl ⟨⟨xs,q,Qbm _⟩,hd U H p⟩
theorem Fy {lo:Int} {n:Nat} {g:TG} {tb:TS} {D:Ends} {U : St} {H:Hp} (Pv:YN) (h0:Pv 0 U H)
  (hs:∀i U H,i < n->Pv i U H->g (.int (lo+i)) U H fun σ2 H2=>tb { D with nx:=Pv (i+1),ct:=Pv (i+1),bk:=D.nx } σ2 H2) (hd:∀ U H,Pv n U H->D.nx U H) :
  ∃W:Nat->YN,(∃m,W 0 m U H)/\∀i m U H,W i m U H ->
   ((Itr lo n).stop i H/\D.nx U H)\/((Itr lo n).go i H/\∃N:YO,(∀ σ' H',N σ' H'->∃m',m' < m/\W (i+1) m' σ' H')/\∀x H',(Itr lo n).yld i H x H'->g x U H' fun σ2 H2=>tb { D with nx:=N,ct:=N,bk:=D.nx } σ2 H2):=by
 refine⟨λi m U H=>m=n - i/\i<=n/\Pv i U H,⟨n,by simp,Qbn _,h0⟩,?_⟩;rintro i m U H ⟨rfl,hi,p⟩;by_cases hlt:i < n
 ·refine .inr ⟨hlt,Pv (i+1),fun σ' H' p'=>⟨n - (i+1),by omega,rq,hlt,p'⟩,λx H' y=>?_⟩;obtain⟨e,y⟩:=y;subst e y;exact hs i U _ hlt p
 ·have e:i=n:=by omega
  subst e;exact .inl ⟨Qbm _,hd U H p⟩
abbrev R2:=V->V->Hp->VK->Prop
def OpR (X:Cx) (f:Value->Value->Sem Value) (r:R2):Prop:=
 ∀(jb:YC) (s:Shared) (U : St) (H:Hp) (x y:V) (v u:Value) (Q:VK),Inv X jb U H s->RelV x v->RelV y u->r x y H Q ->
  wpAny (model X.prog X.w) X.A (f v u) (EP X jb U Q) X.xe s
def UnR (X:Cx) (f:Value->Sem Value) (r:V->Hp->VK->Prop):Prop:=
 ∀(jb:YC) (s:Shared) (U : St) (H:Hp) (x:V) (v:Value) (Q:VK),Inv X jb U H s->RelV x v->r x H Q ->
  wpAny (model X.prog X.w) X.A (f v) (EP X jb U Q) X.xe s
def Dp (X:Cx) (f:Value) (r:YG->Hp->VK->Prop):Prop:=
 ∀(jb:YC) (s:Shared) (U : St) (H:Hp) (xs:YG) (us:YE) (Q:VK),Inv X jb U H s->Vals xs us->r xs H Q ->
  wpAny (model X.prog X.w) X.A (call f us) (EP X jb U Q) X.xe s
def fM (X:Cx) (r:V->Hp->(Bool->Hp->Prop)->Prop):Prop:=
 ∀(jb:YC) (s:Shared) (U : St) (H:Hp) (x:V) (v:Value) (Q:Bool->Hp->Prop),Inv X jb U H s->RelV x v->r x H Q ->
  wpAny (model X.prog X.w) X.A (truthy v) (TP X jb U Q) X.xe s
def tOp (r:R2) (ta tb:TE):TE:=fun U H Q=>ta U H λx H1=>tb U H1 λy H2=>r x y H2 Q
def tUn (r:V->Hp->VK->Prop) (ta:TE):TE:=fun U H Q=>ta U H λx H1=>r x H1 Q
def rI (C:Int->Int->Prop) (g:Int->Int->V):R2:=λx y H Q=>∃i j,x=.int i/\y=.int j/\C i j/\Q (g i j) H
def rI0 (g:Int->Int->V):R2:=λx y H Q=>∃i j,x=.int i/\y=.int j/\Q (g i j) H
def rU (g:Int->V):V->Hp->VK->Prop:=λx H Q=>∃i,x=.int i/\Q (g i) H
section
variable {X:Cx} {a b c:Expr} {ta tb tc:TE} {pos:Pos}
theorem V6 (ha:PE X a ta) (hb:PE X b tb) {jb:YC} {s:Shared} {U : St} {H:Hp} {R:V->V->Hp->Prop} (I:Inv X jb U H s)
  (h:ta U H λx H1=>tb U H1 λy H2=>R x y H2) {Q:YA} {f:Value->Value->Sem Value}
  (hf:∀v u s2 x y H2,Inv X jb U H2 s2->RelV x v->RelV y u->R x y H2->wpAny (model X.prog X.w) X.A (f v u) Q X.xe s2) :
  wpAny (model X.prog X.w) X.A (eval a X.env) (λv s₁=>wpAny (model X.prog X.w) X.A (eval b X.env) (λu s₂=>wpAny (model X.prog X.w) X.A (f v u) Q X.xe s₂) X.xe s₁) X.xe s:=by
 refine thn (ha jb s U H _ I h) λv s1 zz=>?_;obtain⟨x,H1,I1,r1,q1⟩:=zz;refine thn (hb jb s1 U H1 _ I1 q1) λu s2 zz=>?_;obtain⟨y,H2,I2,r2,q2⟩:=zz;exact hf v u s2 x y H2 I2 r1 r2 q2
theorem Aq {op:Operator} {r:R2} (ho:OpR X (binaryOp op) r) (ha:PE X a ta) (hb:PE X b tb):PE X (.BinOp a op b pos) (tOp r ta tb):=by
 intro jb s U H Q I h;exact wpAny_BinOp (V6 ha hb I h λv u s2 x y H2 I2 rx ry q=>ho jb s2 U H2 x y v u Q I2 rx ry q)
theorem Ob {op:UnaryOp} {r:V->Hp->VK->Prop} (ho:UnR X (unaryOp op) r) (ha:PE X a ta):PE X (.UnaryOp op a pos) (tUn r ta):=by
 intro jb s U H Q I h;refine UnaryOp_ (thn (ha jb s U H _ I h) λv s1 zz=>?_);obtain⟨x,H1,I1,r1,q1⟩:=zz;exact ho jb s1 U H1 x v Q I1 r1 q1
theorem opI {f:Value->Value->Sem Value} {C:Int->Int->Prop} {g:Int->Int->Int}
  (rule:∀(i j:Int) (t u:Tok) (s:Shared) (Q:YA) (E:YA),C i j->Q (.int (g i j) s.toks) { s with toks:=s.toks+1 }->wpAny (model X.prog X.w) X.A (f (.int i t) (.int j u)) Q E s) :
  OpR X f (rI C λi j=>.int (g i j)):=by
 intro jb s U H x y v u Q I rx ry h;obtain⟨i,j,rfl,rfl,hc,q⟩:=h;obtain⟨t,rfl⟩:=rx;obtain⟨t',rfl⟩:=ry;exact rule i j t t' s _ _ hc ⟨.int (g i j),H,I.tok _,⟨_,rq⟩,q⟩
theorem YW {f:Value->Value->Sem Value} {g:Int->Int->Int}
  (rule:∀(i j:Int) (t u:Tok) (s:Shared) (Q:YA) (E:YA),Q (.int (g i j) s.toks) { s with toks:=s.toks+1 }->wpAny (model X.prog X.w) X.A (f (.int i t) (.int j u)) Q E s) :
  OpR X f (rI0 λi j=>.int (g i j)):=by
 intro jb s U H x y v u Q I rx ry h;obtain⟨i,j,rfl,rfl,q⟩:=h;obtain⟨t,rfl⟩:=rx;obtain⟨t',rfl⟩:=ry;exact rule i j t t' s _ _ ⟨.int (g i j),H,I.tok _,⟨_,rq⟩,q⟩
theorem RN {f:Value->Value->Sem Value} {g:Int->Int->Bool}
  (rule:∀(i j:Int) (t u:Tok) (s:Shared) (Q:YA) (E:YA),Q (.bool (g i j)) s->wpAny (model X.prog X.w) X.A (f (.int i t) (.int j u)) Q E s) :
  OpR X f (rI0 λi j=>.bl (g i j)):=by
 intro jb s U H x y v u Q I rx ry h;obtain⟨i,j,rfl,rfl,q⟩:=h;obtain⟨t,rfl⟩:=rx;obtain⟨t',rfl⟩:=ry;exact rule i j t t' s _ _ ⟨.bl (g i j),H,I,rq,q⟩
def fP (i j:Int):Prop:=0 < j/\j < 1073741824
def fO (i j:Int):Prop:=0<=j/\j<=1000000/\i.natAbs < 2 ^ 64
def Te (i j:Int):Prop:=(-(2 ^ 64) < i/\i < 2 ^ 64)\/(-(2 ^ 64) < j/\j < 2 ^ 64)
theorem Te.ok {i j:Int} (h:Te i j):IntMulOk i j:=by
 rcases h with⟨h1,h2⟩|⟨h1,h2⟩
 ·exact .of_left (intBits_le_64 h1 h2)
 ·exact .of_right (intBits_le_64 h1 h2)
theorem Ca:OpR X (binaryOp .Add) (rI0 λi j=>.int (i+j)):=YW λ_ _ _ _ _ _ _ q=>add_int q
theorem Eh:OpR X (binaryOp .Sub) (rI0 λi j=>.int (i - j)):=YW λ_ _ _ _ _ _ _ q=>sub_int q
theorem EY:OpR X (binaryOp .Mult) (rI Te λi j=>.int (i*j)):=opI λ_ _ _ _ _ _ _ hc q=>mul_int q hc.ok
theorem Mh:OpR X (binaryOp .FloorDiv) (rI fP λi j=>.int (i / j)):=opI λi j _ _ _ _ _ hc q=>by
 have h1:(0:Int) < j:=hc.1;have h2:j < 1073741824:=hc.2;exact floordiv_int (by omega) (by rw[Int.fdiv_eq_ediv_of_nonneg i (by omega)];exact q) (.inl (PyProof.noPylong_small (by omega)))
theorem GZ:OpR X (binaryOp .Mod) (rI (λ_ j=>0 < j) λi j=>.int (i % j)):=opI λi j _ _ _ _ _ hc q=>by
 have h1:(0:Int) < j:=hc;exact mod_int' (by omega) (by rw[Int.fmod_eq_emod_of_nonneg i (by omega)];exact q)
theorem O8:OpR X (binaryOp .Pow) (rI fO λi j=>.int (i ^ j.toNat)):=opI λ_ _ _ _ _ _ _ hc q=>pow_int_small hc.1 hc.2.1 hc.2.2 q
theorem unI {f:Value->Sem Value} {g:Int->Int}
  (rule:∀(i:Int) (t:Tok) (s:Shared) (Q:YA) (E:YA),Q (.int (g i) s.toks) { s with toks:=s.toks+1 }->wpAny (model X.prog X.w) X.A (f (.int i t)) Q E s) :
  UnR X f (rU λi=>.int (g i)):=by
 intro jb s U H x v Q I rx h;obtain⟨i,rfl,q⟩:=h;obtain⟨t,rfl⟩:=rx;exact rule i t s _ _ ⟨.int (g i),H,I.tok _,⟨_,rq⟩,q⟩
theorem K8:UnR X (unaryOp .USub) (rU λi=>.int (-i)):=unI λ_ _ _ _ _ q=>neg_int q
end
def Yu:V->V->Bool
 | .non,.non=>true | .non,.int _=>true | .int _,.non=>true | .non,.bl _=>true | .bl _,.non=>true | .non,.str _=>true | .str _,.non=>true
 | .int _,.int _=>true | .bl _,.bl _=>true | .str _,.str _=>true | .byt _,.byt _=>true
 | .int _,.str _=>true | .str _,.int _=>true | .bl _,.str _=>true | .str _,.bl _=>true
 | _,_=>false
def rEq:R2:=λx y H Q=>Yu x y=true/\Q (.bl (decide (x=y))) H
def rNe:R2:=λx y H Q=>Yu x y=true/\Q (.bl (!decide (x=y))) H
theorem Rn {i j:Int}:decide (V.int i=V.int j)=(i == j):=by
 rw[QaX];simp
theorem UG {i j:Bool}:decide (V.bl i=V.bl j)=(i == j):=by
 rw[QaX];simp
theorem Rm {i j:Str}:decide (V.str i=V.str j)=(i == j):=by
 rw[QaX];simp
theorem Ro {i j:Array UInt8}:decide (V.byt i=V.byt j)=(i.toList == j.toList):=by
 rw[QaX];cases i;cases j;simp
section
variable {X:Cx} {a b c:Expr} {ta tb tc:TE} {pos:Pos}
theorem Br {jb:YC} {U : St} {H:Hp} {s:Shared} {Q:VK} {k k':Bool} (I:Inv X jb U H s) (q:Q (.bl k) H) (e:k=k'):EP X jb U Q (.bool k') s:=by
 subst e;exact⟨.bl k,H,I,rq,q⟩
theorem Dd:OpR X (compareOp .Eq) rEq:=by
 intro jb s U H x y v u Q I rx ry h;obtain⟨hs,q⟩:=h;cases x with
 | non=>
  cases rx;cases y with
  | non=>cases ry;exact PySem.EqNone.eq_none_none (Br I q (by simp))
  | bl j=>cases ry;exact PySem.EqNone.eq_none_bool (Br I q (by simp))
  | int j=>obtain⟨t',rfl⟩:=ry;exact PySem.EqNone.eq_none_int (Br I q (by simp))
  | str j=>obtain⟨t',rfl⟩:=ry;exact PySem.EqNone.eq_none_str (Br I q (by simp))
  | _=>exact absurd (show false=true from hs) Qas
 | bl i=>
  cases rx;cases y with
  | non=>cases ry;exact PySem.EqNone.eq_bool_none (Br I q (by simp))
  | bl j=>cases ry;exact eq_bool (Br I q UG)
  | str j=>obtain⟨t',rfl⟩:=ry;exact PySem.EqMixed.eq_bool_str (Br I q (by simp))
  | _=>exact absurd (show false=true from hs) Qas
 | int i=>
  obtain⟨t,rfl⟩:=rx;cases y with
  | non=>cases ry;exact PySem.EqNone.eq_int_none (Br I q (by simp))
  | int j=>obtain⟨t',rfl⟩:=ry;exact eq_int (Br I q Rn)
  | str j=>obtain⟨t',rfl⟩:=ry;exact PySem.EqMixed.eq_int_str (Br I q (by simp))
  | _=>exact absurd (show false=true from hs) Qas
 | str i=>
  obtain⟨t,rfl⟩:=rx;cases y with
  | non=>cases ry;exact PySem.EqNone.eq_str_none (Br I q (by simp))
  | bl j=>cases ry;exact PySem.EqMixed.eq_str_bool (Br I q (by simp))
  | int j=>obtain⟨t',rfl⟩:=ry;exact PySem.EqMixed.eq_str_int (Br I q (by simp))
  | str j=>obtain⟨t',rfl⟩:=ry;exact eq_str (Br I q Rm)
  | _=>exact absurd (show false=true from hs) Qas
 | byt i=>
  obtain⟨t,rfl⟩:=rx;cases y with
  | byt j=>obtain⟨t',rfl⟩:=ry;exact PySem.W.eq_bytes (Br I q Ro)
  | _=>exact absurd (show false=true from hs) Qas
 | _=>cases y <;> exact absurd (show false=true from hs) Qas
theorem WL:OpR X (compareOp .NotEq) rNe:=by
 intro jb s U H x y v u Q I rx ry h;obtain⟨hs,q⟩:=h;cases x with
 | non=>
  cases rx;cases y with
  | non=>cases ry;exact PySem.EqNone.ne_none_none (Br I q (by simp))
  | bl j=>cases ry;exact PySem.EqNone.ne_none_bool (Br I q (by simp))
  | int j=>obtain⟨t',rfl⟩:=ry;exact PySem.EqNone.ne_none_int (Br I q (by simp))
  | str j=>obtain⟨t',rfl⟩:=ry;exact PySem.EqNone.ne_none_str (Br I q (by simp))
  | _=>exact absurd (show false=true from hs) Qas
 | bl i=>
  cases rx;cases y with
  | non=>cases ry;exact PySem.EqNone.ne_bool_none (Br I q (by simp))
  | bl j=>cases ry;exact ne_bool (Br I q (congrArg not UG))
  | str j=>obtain⟨t',rfl⟩:=ry;exact PySem.EqMixed.ne_bool_str (Br I q (by simp))
  | _=>exact absurd (show false=true from hs) Qas
 | int i=>
  obtain⟨t,rfl⟩:=rx;cases y with
  | non=>cases ry;exact PySem.EqNone.ne_int_none (Br I q (by simp))
  | int j=>obtain⟨t',rfl⟩:=ry;exact ne_int (Br I q (congrArg not Rn))
  | str j=>obtain⟨t',rfl⟩:=ry;exact PySem.EqMixed.ne_int_str (Br I q (by simp))
  | _=>exact absurd (show false=true from hs) Qas
 | str i=>
  obtain⟨t,rfl⟩:=rx;cases y with
  | non=>cases ry;exact PySem.EqNone.ne_str_none (Br I q (by simp))
  | bl j=>cases ry;exact PySem.EqMixed.ne_str_bool (Br I q (by simp))
  | int j=>obtain⟨t',rfl⟩:=ry;exact PySem.EqMixed.ne_str_int (Br I q (by simp))
  | str j=>obtain⟨t',rfl⟩:=ry;exact ne_str (Br I q (congrArg not Rm))
  | _=>exact absurd (show false=true from hs) Qas
 | byt i=>
  obtain⟨t,rfl⟩:=rx;cases y with
  | byt j=>obtain⟨t',rfl⟩:=ry;exact PySem.W.ne_bytes (Br I q (congrArg not Ro))
  | _=>exact absurd (show false=true from hs) Qas
 | _=>cases y <;> exact absurd (show false=true from hs) Qas
theorem Hs:OpR X (compareOp .Lt) (rI0 λi j=>.bl (decide (i < j))):=RN λ_ _ _ _ _ _ _ q=>lt_int q
theorem Gv:OpR X (compareOp .LtE) (rI0 λi j=>.bl (decide (i<=j))):=RN λ_ _ _ _ _ _ _ q=>le_int q
theorem Jq:OpR X (compareOp .Gt) (rI0 λi j=>.bl (decide (j < i))):=RN λ_ _ _ _ _ _ _ q=>gt_int q
theorem Z9:OpR X (compareOp .GtE) (rI0 λi j=>.bl (decide (j<=i))):=RN λ_ _ _ _ _ _ _ q=>ge_int q
theorem M5:OpR X (compareOp .In) (λx y H Q=>∃i j,x=.str i/\y=.str j/\Q (.bl (!(Builtin.Str.occurrences j i 0 j.length 1).isEmpty)) H):=by
 intro jb s U H x y v u Q I rx ry h;obtain⟨i,j,rfl,rfl,q⟩:=h;obtain⟨t,rfl⟩:=rx;obtain⟨t',rfl⟩:=ry;exact in_str (Br I q rfl)
theorem OpR.or {f:Value->Value->Sem Value} {r r':R2} (h:OpR X f r) (h':OpR X f r'):OpR X f (λx y H Q=>r x y H Q\/r' x y H Q):=by
 intro jb s U H x y v u Q I rx ry q;rcases q with q | q
 ·exact h jb s U H x y v u Q I rx ry q
 ·exact h' jb s U H x y v u Q I rx ry q
theorem Bb (b:Expr) {op:CmpOp} (h:op≠.In:=by decide) (h2:op≠.NotIn:=by decide):behindInMarks op b=false:=by
 have e1:(op == CmpOp.In)=false:=by cases op <;> first | rfl | exact absurd rfl h
 have e2:(op == CmpOp.NotIn)=false:=by cases op <;> first | rfl | exact absurd rfl h2
 cases b <;> simp[behindInMarks,e1,e2]
theorem Cu {op:CmpOp} {r:R2} (ho:OpR X (compareOp op) r) (ha:PE X a ta) (hb:PE X b tb) (hm:behindInMarks op b=false):PE X (.Compare a [op] [b] pos) (tOp r ta tb):=by
 intro jb s U H Q I h;exact wpAny_Compare1 (V6 ha hb I h λv u s2 x y H2 I2 rx ry q=>ho jb s2 U H2 x y v u Q I2 rx ry q) hm
def Wm (t:TE):TT:=fun U H Q=>t U H λx H'=>∃k,x=.bl k/\Q k H'
theorem Bc {op:CmpOp} {r:R2} (ho:OpR X (compareOp op) r) (ha:PE X a ta) (hb:PE X b tb) (hm:behindInMarks op b=false):PT X (.Compare a [op] [b] pos) (Wm (tOp r ta tb)):=by
 intro jb s U H Q I h;refine wpAny_isTrue_Compare1 (thn (ha jb s U H _ I h) λv s1 ⟨x,H1,I1,r1,q1⟩=>thn (hb jb s1 U H1 _ I1 q1) λu s2 ⟨y,H2,I2,r2,q2⟩=>
  thn (ho jb s2 U H2 x y v u _ I2 r1 r2 q2) λc s3 ⟨z,H3,I3,r3,k,e,q3⟩=>?_) hm
 subst e;cases r3;exact QaF ⟨H3,I3,q3⟩
def Tt (r r':R2) (ta tb tc:TE):TE:=fun U H Q=>ta U H λx H1=>tb U H1 λy H2=>r x y H2 λz H3=>∃k,z=.bl k /\
 (if k=true then tc U H3 λw' H4=>r' y w' H4 Q else Q (.bl false) H3)
theorem Jp {op op':CmpOp} {r r':R2} (ho:OpR X (compareOp op) r) (ho':OpR X (compareOp op') r') (ha:PE X a ta) (hb:PE X b tb) (hc:PE X c tc)
  (hm:lastMarks [op,op'] [b,c]=false:=by with_unfolding_all rfl):PE X (.Compare a [op,op'] [b,c] pos) (Tt r r' ta tb tc):=by
 intro jb s U H Q I h;refine Compare_chain (thn (ha jb s U H _ I h) λv s1 ⟨x,H1,I1,r1,q1⟩=>chain_link (thn (hb jb s1 U H1 _ I1 q1) λu s2 ⟨y,H2,I2,r2,q2⟩=>
  thn (ho jb s2 U H2 x y v u _ I2 r1 r2 q2) λd s3 ⟨z,H3,I3,r3,k,e,q3⟩=>?_)) hm
 subst e;cases r3;refine QaF ?_;cases k with
 | false=>exact ite_ff ⟨.bl false,H3,I3,rfl,q3⟩
 | true=>exact ite_tt (chain_last (thn (hc jb s3 U H3 _ I3 q3) λw' s4 ⟨z',H4,I4,r4,q4⟩=>ho' jb s4 U H4 y z' u w' Q I4 r2 r4 q4))
theorem O2 {op op':CmpOp} {r r':R2} (ho:OpR X (compareOp op) r) (ho':OpR X (compareOp op') r') (ha:PE X a ta) (hb:PE X b tb) (hc:PE X c tc)
  (hm:lastMarks [op,op'] [b,c]=false:=by with_unfolding_all rfl):PT X (.Compare a [op,op'] [b,c] pos) (Wm (Tt r r' ta tb tc)):=by
 intro jb s U H Q I h;refine isTrue_chain (thn (ha jb s U H _ I h) λv s1 ⟨x,H1,I1,r1,q1⟩=>test_link (thn (hb jb s1 U H1 _ I1 q1) λu s2 ⟨y,H2,I2,r2,q2⟩=>
  thn (ho jb s2 U H2 x y v u _ I2 r1 r2 q2) λd s3 ⟨z,H3,I3,r3,k,e,q3⟩=>?_)) hm
 subst e;cases r3;refine QaF ?_;cases k with
 | false=>
  obtain⟨k',e',q'⟩:=q3;cases e';exact ite_ff ⟨H3,I3,q'⟩
 | true=>
  refine ite_tt (test_last (thn (hc jb s3 U H3 _ I3 q3) λw' s4 zz=>?_));obtain⟨z',H4,I4,r4,q4⟩:=zz;refine thn (ho' jb s4 U H4 y z' u w' _ I4 r2 r4 q4) λd' s5 zz=>?_;obtain⟨z2,H5,I5,r5,k2,e2,q5⟩:=zz;subst e2;cases r5;exact QaF ⟨H5,I5,q5⟩
def ZG (K:YD) (x:V) (H:Hp) (k:Bool):Prop:=
 match x with
 | .non=>k=false
 | .bl b=>k=b
 | .int i=>k=(i != 0)
 | .str y=>y.length<=sizeLine/\k=((y.length:Int) != 0)
 | .byt y=>y.size<=sizeLine/\k=((y.size:Int) != 0)
 | .ref p=>(∃xs,SqL K H p xs/\k=!xs.isEmpty)\/(∃xs,SqT K H p xs/\k=!xs.isEmpty)\/∃kvs,H p=some (.dK kvs)/\k=!kvs.isEmpty
 | _=>False
theorem Sg {κ : Type} {kvs:List (κ×V)} {vs:List (κ×Value)} (r:KV kvs vs):(!vs.isEmpty)=!kvs.isEmpty:=by
 cases r <;> rfl
theorem Ln {xs:YG} {its:YE} (r:Vals xs its):(!its.toArray.isEmpty)=!xs.isEmpty:=by
 cases r <;> simp
theorem Ih:(sizeLine:Nat) < 2 ^ 63:=by rw[sizeLine_eq];decide
theorem Yi:fM X (λx H Q=>∃k,ZG X.K x H k/\Q k H):=by
 intro jb s U H x v Q I rx h;obtain⟨k,e,q⟩:=h;have hl:=Ih;have hs:sizeLine=16777216:=sizeLine_eq;cases x with
 | non=>
  cases rx;have e':k=false:=e;subst e';exact truthy_none ⟨H,I,q⟩
 | bl b=>
  cases rx;have e':k=b:=e;subst e';exact QaF ⟨H,I,q⟩
 | int i=>
  obtain⟨t,rfl⟩:=rx;have e':k=(i != 0):=e;subst e';exact PySem.P.truthy_int ⟨H,I,q⟩
 | str y=>
  obtain⟨t,rfl⟩:=rx;obtain⟨hy,e'⟩ : y.length<=sizeLine/\k=((y.length:Int) != 0):=e;subst e';exact PySem.P.truthy_str (by omega) ⟨H,I.tok _,q⟩
 | byt y=>
  obtain⟨t,rfl⟩:=rx;obtain⟨hy,e'⟩ : y.size<=sizeLine/\k=((y.size:Int) != 0):=e;subst e';exact PySem.W.truthy_bytes (by omega) ⟨H,I.tok _,q⟩
 | ref p=>
  cases rx;have e':(∃xs,SqL X.K H p xs/\k=!xs.isEmpty)\/(∃xs,SqT X.K H p xs/\k=!xs.isEmpty)\/∃kvs,H p=some (.dK kvs)/\k=!kvs.isEmpty:=e;rcases e' with⟨xs,hx,e'⟩|⟨xs,hx,e'⟩|⟨kvs,hx,e'⟩
  ·subst e';obtain⟨its,r,pl,hz⟩:=I.list hx;have hlen:=r.length;exact wpAny_truthy_list pl.isList (by simp only[QaC];omega) ⟨H,I.tok _,by rw[Ln r];exact q⟩
  ·subst e';obtain⟨its,r,pl,hz⟩:=I.tuple hx;have hlen:=r.length;exact truthy_tuple pl (by simp only[QaC];omega) ⟨H,I.tok _,by rw[Ln r];exact q⟩
  ·subst e';obtain⟨hz,hS,vs,r,m⟩ : kvs.length<=sizeLine/\(p == sysModules)=false/\∃vs,KV kvs vs/\s.heap.DictOf (Cv X.prog X.w) p vs:=I.hok p _ hx;have hlen:kvs.length=vs.length:=Paired.length r;exact wpAny_truthy_dict hS m (by omega) ⟨H,I.tok _,by rw[Sg r];exact q⟩
 | _=>exact (show False from e).elim
theorem Jr:OpR X (binaryOp .Add) (λx y H Q=>∃i j,x=.str i/\y=.str j/\i.length+j.length<=sizeLine/\Q (.str (i++j)) H):=by
 intro jb s U H x y v u Q I rx ry h;obtain⟨i,j,rfl,rfl,hz,q⟩:=h;obtain⟨t,rfl⟩:=rx;obtain⟨t',rfl⟩:=ry;exact add_str (λt' tk=>⟨.str (i++j),H,I.tok _,⟨_,rq⟩,q⟩) hz
theorem vals1 {x:V} {us:YE} (r:Vals [x] us):∃u,us=[u]/\RelV x u:=by
 cases r with
 | cons r1 r2=>cases r2;exact⟨_,rfl,r1⟩
theorem vals2 {x y:V} {us:YE} (r:Vals [x,y] us):∃u w',us=[u,w']/\RelV x u/\RelV y w':=by
 cases r with
 | cons r1 r2=>
  cases r2 with
  | cons r3 r4=>cases r4;exact⟨_,_,rfl,r1,r3⟩
theorem Qk:Dp X (.builtin "abs") (λxs H Q=>∃i,xs=[.int i]/\Q (.int (if i < 0 then -i else i)) H):=by
 intro jb s U H xs us Q I r h;obtain⟨i,rfl,q⟩:=h;obtain⟨u,rfl,t,rfl⟩:=vals1 r;exact call_abs_int λu tk=>⟨.int (if i < 0 then -i else i),H,I.tok _,⟨_,rq⟩,q⟩
theorem Ng (hc:X.calm=true):Dp X (.builtin "max") (λxs H Q=>∃i j,xs=[.int i,.int j]/\Q (.int (if j > i then j else i)) H):=by
 intro jb s U H xs us Q I r h;obtain⟨i,j,rfl,q⟩:=h;obtain⟨u,w',rfl,⟨t,rfl⟩,⟨t',rfl⟩⟩:=vals2 r;refine max_two_ints (I.ok.hd hc) λh' tk k=>⟨_,H,I.kept k,?_,q⟩;by_cases hj:j > i
 ·rw[if_pos hj,if_pos hj];exact⟨_,rq⟩
 ·rw[if_neg hj,if_neg hj];exact⟨_,rq⟩
theorem Va (hc:X.calm=true):Dp X (.builtin "min") (λxs H Q=>∃i j,xs=[.int i,.int j]/\Q (.int (if j < i then j else i)) H):=by
 intro jb s U H xs us Q I r h;obtain⟨i,j,rfl,q⟩:=h;obtain⟨u,w',rfl,⟨t,rfl⟩,⟨t',rfl⟩⟩:=vals2 r;refine min_two_ints (I.ok.hd hc) λh' tk k=>⟨_,H,I.kept k,?_,q⟩;by_cases hj:j < i
 ·rw[if_pos hj,if_pos hj];exact⟨_,rq⟩
 ·rw[if_neg hj,if_neg hj];exact⟨_,rq⟩
theorem Vb:Dp X (.type "int") (λxs H Q=>(∃i,xs=[.int i]/\Q (.int i) H)\/∃k,xs=[.bl k]/\Q (.int (if k then 1 else 0)) H):=by
 intro jb s U H xs us Q I r h;rcases h with⟨i,rfl,q⟩|⟨k,rfl,q⟩
 ·obtain⟨u,rfl,t,rfl⟩:=vals1 r;exact call_int_int ⟨.int i,H,I,⟨_,rq⟩,q⟩
 ·obtain⟨u,rfl,r1⟩:=vals1 r;cases r1;exact call_int_bool ⟨.int (if k then 1 else 0),H,I.tok _,⟨_,rq⟩,q⟩
theorem Qh:Dp X (.type "str") (λxs H Q=>∃i,xs=[.int i]/\i.natAbs.log2 < 1920/\Q (.str (toString i)) H):=by
 intro jb s U H xs us Q I r h;obtain⟨i,rfl,hz,q⟩:=h;obtain⟨u,rfl,t,rfl⟩:=vals1 r;exact PySem.P.str_of_int hz ⟨.str _,H,I.tok _,⟨_,rq⟩,q⟩
end
structure Wa (h:Heap) (x dx C:Addr) (mA:YB):Prop where
 obj:h.get? x=some (PySem.W.instObj C dx)
 ns:h.Ns1 dx mA
 ne:dx≠x
theorem Ui {h:Heap} {dx:Addr} {mA:YB} (n:h.Ns1 dx mA):∃od,h.get? dx=some od/\∀name,PySem.W.lookIn name od=some (mA name):=by
 obtain⟨o,es,ep,ho,hd,hk,_,hm⟩:=n;refine⟨o,ho,λname=>?_⟩;have e:=hm name;unfold nsFind findBy at e;rw[<-Array.find?_toList] at e;unfold PySem.W.lookIn;rw[hd];dsimp only;split
 ·rename_i y q;rw[q] at e;exact congrArg some e
 ·rename_i q;rw[q] at e;have a:es.toList.any (·.refKey)=false:=by
   rw[List.any_eq_false];intro y hy;obtain⟨z,t,hkey⟩:=hk y (Qan.mp hy);simp[DictEntry.refKey,hkey]
  have a':¬es.toList.any (·.refKey)=true:=by rw[a];exact Qas
  rw[if_neg a'];exact congrArg some e
theorem Wa.look {h:Heap} {x dx C:Addr} {mA:YB} (I:Wa h x dx C mA):∃od,PySem.W.InstAt h x (PySem.W.instObj C dx) C (some od)/\∀name,PySem.W.lookIn name od=some (mA name):=
 let ⟨od,ho,hl⟩:=Ui I.ns
 ⟨od,⟨I.obj,rq,rq,ho⟩,hl⟩
section
variable {prog:Program} {w:World} {A:Around} {E:YA} {s:Shared} {K:YD} {x dx C f:Addr} {mA:YB} {name:Str} {v:Value}
end
theorem Gq.some_of {v:V} {o:Option Value} (r:Gq (some v) o):∃u,o=some u/\RelV v u:=by
 cases o with
 | none=>exact (show False from r).elim
 | some u=>exact⟨u,rfl,r⟩
section
variable {P:Program} {w:World} {H H':Hp} {h h':Heap} {a C dx:Addr} {fs fs':List (Str×V)}
theorem Xz (hok:HOk P w H h) (e:H a=some (.ins C dx fs)):∃mA,Wa h a dx C mA/\(∀f,Gq (fs.lookup f) (mA f))/\PySem.Within mA (fs.map (·.1))/\fs.length<=1000/\H dx=some (.own a):=by
 obtain⟨d,z,ne,ob,mA,n,r,q⟩:=(show Bu P w H h a (.ins C dx fs) from hok a _ e)
 exact⟨mA,⟨ob,n,ne⟩,r,q,z,d⟩
end
structure Cls (K:YD) (C:Addr):Prop where
 pg:PySem.W.plainGet K C Str.empty=true
 hd:PySem.W.hasDictIn K C=true
 po:PySem.W.plainOver K C=true
 sa:findIn K (.ref C) "__setattr__"=some (some (.builtin "object.__setattr__"))
theorem Cls.get {K:YD} {C:Addr} (c:Cls K C) (f:Str):PySem.W.plainGet K C f=true:=c.pg
structure Meth (K:YD) (C:Addr) (m:Str) (f:Addr):Prop where
 at_:findIn K (.ref C) m=some (some (.ref f))
 fn:PySem.W.isFn K (.ref f)=true
 kp:keepIn K (.ref f)=true
section
variable {X:Cx} {jb:YC} {U : St} {H:Hp} {s:Shared} {a C dx:Addr} {fs:List (Str×V)} {f:Str} {v:V} {A:Around} {E:YA}
end
section
variable {X:Cx} {o e value:Expr} {f:Str} {pos pos' tpos:Pos} {ta tv:TE}
end
section
variable {X:Cx} {jb:YC} {U : St} {H:Hp} {s:Shared} {A:Around} {E:YA} {Q:YA} {c:Value} {b:Bool}
inductive Gp (K:YD) (H:Hp):V->Value->Prop where
 | non:Gp K H .non (.type "NoneType")
 | bl (x:Bool):Gp K H (.bl x) (.type "bool")
 | int (i:Int):Gp K H (.int i) (.type "int")
 | str (x:Str):Gp K H (.str x) (.type "str")
 | flt (x:UInt64):Gp K H (.flt x) (.type "float")
 | lst {a:Addr} {xs:YG} (e:H a=some (.lst xs)):Gp K H (.ref a) (.type "list")
 | frz {a:Addr} {o:Obj} {xs:YG} (e:H a=some (.frz o (.lst xs))):Gp K H (.ref a) (.type "list")
 | tup {a:Addr} {xs:YG} (e:H a=some (.tup xs)):Gp K H (.ref a) (.type "tuple")
 | dK {a:Addr} {kvs:List (Key×V)} (e:H a=some (.dK kvs)):Gp K H (.ref a) (.type "dict")
 | dT {a:Addr} {kvs:List (List Key×V)} (e:H a=some (.dT kvs)):Gp K H (.ref a) (.type "dict")
 | ins {a C dx:Addr} {fs:List (Str×V)} (e:H a=some (.ins C dx fs)) (cl:Cls K C) (ha:findIn K (.ref C) "__class__"=some (some (.builtin "object.__class__")))
   (hn:PySem.W.specialIn K (.builtin "object.__class__") "__get__"=some (some (.builtin "getset_descriptor.__get__"))) (htk:PySem.W.takesIn K (.builtin "object.__class__")=some true)
   (hm:PySem.W.mroIn K C (.type "object")=some true):Gp K H (.ref a) (.ref C)
theorem Um {x:V} {u t:Value} (I:Inv X jb U H s) (rx:RelV x u) (ty:Gp X.K H x t) (e:kitOne X.K t c=some b) (h:∀tk,Q (.bool b) { s with toks:=tk }) :
  wpAny (model X.prog X.w) A (call (.builtin "isinstance") [u,c]) Q E s:=by
 cases ty with
 | non=>cases (show u=Value.none from rx);exact kia_one PySem.W.kitx_none I.kIn True.intro e (λz=>nomatch z) h
 | bl y=>cases (show u=Value.bool y from rx);exact kia_one PySem.W.kitx_bool I.kIn True.intro e (λz=>nomatch z) h
 | int i=>obtain⟨t,q⟩:=(show ∃t,u=Value.int i t from rx);cases q;exact kia_one PySem.W.kitx_int I.kIn True.intro e (λz=>nomatch z) h
 | str y=>obtain⟨t,q⟩:=(show ∃t,u=Value.str y t from rx);cases q;exact kia_one PySem.W.kitx_str I.kIn True.intro e (λz=>nomatch z) h
 | flt y=>obtain⟨t,q⟩:=(show ∃t,u=Value.float y t from rx);cases q;exact kia_one PySem.W.kitx_float I.kIn True.intro e (λz=>nomatch z) h
 | @lst a xs ea=>
  cases (show u=Value.ref a from rx)
  obtain⟨_,_,n,_,h1⟩:=(show Bu X.prog X.w H s.heap a (.lst xs) from I.hok a _ ea)
  exact kia_one PySem.W.kitx_list I.kIn ⟨_,h1,rq⟩ e (λz=>nomatch z) h
 | @frz a ob xs ea=>
  cases (show u=Value.ref a from rx)
  obtain⟨_,_,_,n,_,h1⟩:=(show Bu X.prog X.w H s.heap a (.frz ob (.lst xs)) from I.hok a _ ea)
  exact kia_one PySem.W.kitx_list I.kIn ⟨_,h1,rq⟩ e (λz=>nomatch z) h
 | @tup a xs ea=>
  cases (show u=Value.ref a from rx)
  obtain⟨_,_,_,p⟩:=(show Bu X.prog X.w H s.heap a (.tup xs) from I.hok a _ ea)
  obtain⟨o,h1,h2,_⟩:=p;exact kia_one PySem.W.kitx_tuple I.kIn ⟨o,h1,h2⟩ e (λz=>nomatch z) h
 | @dK a kvs ea=>
  cases (show u=Value.ref a from rx)
  obtain⟨_,_,vs,_,p⟩:=(show Bu X.prog X.w H s.heap a (.dK kvs) from I.hok a _ ea)
  obtain⟨o,es,ep,h1,h2,_⟩:=p;exact kia_one PySem.W.kitx_dict I.kIn ⟨o,h1,h2.1⟩ e (λz=>nomatch z) h
 | @dT a kvs ea=>
  cases (show u=Value.ref a from rx)
  obtain⟨_,_,xs,_,o,es,ep,h1,h2,_⟩:=(show Bu X.prog X.w H s.heap a (.dT kvs) from I.hok a _ ea)
  exact kia_one PySem.W.kitx_dict I.kIn ⟨o,h1,h2.1⟩ e (λz=>nomatch z) h
 | @ins a C dx fs ea cl ha hn htk hm=>
  cases (show u=Value.ref a from rx)
  obtain⟨mA,O,_⟩:=Xz I.hok ea;obtain⟨od,J,_⟩:=O.look;exact kia_one (PySem.W.kitx_own (cl.get _) cl.hd ha hn htk hm) I.kIn J e (λz=>nomatch z) h
end
structure CN (k:Nat) (A:Around):Prop where
 hd:A.handled=none
 dp:A.depth+3*k+5 < recursionLimit
 un:A.units+16*k+200 < cLine
theorem CN.mono {j k:Nat} {A:Around} (r:CN k A) (h:j<=k):CN j A:=⟨r.hd,by have:=r.dp;omega,by have:=r.un;omega⟩
theorem CN.deeper {k:Nat} {A:Around} (r:CN (k+1) A) (env:Env):CN k (A.deeper env):=
 ⟨r.hd,by have:=r.dp;show A.depth+1+3*k+5 < _;omega,by have:=r.un;show A.units+3+16*k+200 < _;omega⟩
theorem CN.in1 {k:Nat} {A:Around} (r:CN (k+1) A):CN k A.in1:=
 ⟨r.hd,by have:=r.dp;show A.depth+3*k+5 < _;omega,by have:=r.un;show A.units+1+16*k+200 < _;omega⟩
theorem CN.depth {k:Nat} {A:Around} (r:CN k A):A.depth < recursionLimit:=by have:=r.dp;omega
theorem CN.units {k:Nat} {A:Around} (r:CN k A):A.units+64 < cLine:=by have:=r.un;omega
def aL:TA:=λ_ H Q=>Q [] H
def Wo (ta:TE) (tr:TA):TA:=fun U H Q=>ta U H λx H1=>tr U H1 λxs H2=>Q (x::xs) H2
section
variable {X:Cx} {e:Expr} {es:YJ} {te:TE} {t:TA} {pos:Pos}
theorem Ac:PA X [] aL:=λ_ _ _ _ H Q I h=>Calls.spliced_nil ⟨[],H,I,.nil,h⟩
theorem Aa (ha:PE X e te) (hr:PA X es t) (hs:starEach (e::es) X.env=(false,eval e X.env)::starEach es X.env:=by rfl):PA X (e::es) (Wo te t):=by
 intro pos jb s U H Q I h;rw[hs];show wpAny _ _ (spliced ((false,eval e X.env)::backTo pos (starEach es X.env))) _ _ s;refine Calls.spliced_cons (thn (ha jb s U H _ I h) λu s1 zz=>?_);obtain⟨x,H1,I1,r1,q1⟩:=zz;refine thn (hr pos jb s1 U H1 _ I1 q1) λus s2 zz=>?_;obtain⟨xs,H2,I2,r2,q2⟩:=zz;exact⟨x::xs,H2,I2,.cons r1 r2,q2⟩
def aH (t:TA):TE:=fun U H Q=>t U H λxs H1=>xs.length<=sizeLine/\∀p,H1 p=none->Q (.ref p) (upd H1 p (.tup xs))
def aM (t:TA):TE:=fun U H Q=>t U H λxs H1=>xs.length<=sizeLine/\∀p,H1 p=none->Q (.ref p) (upd H1 p (.lst xs))
theorem Bx {x1} (h:PA X es t):PE X (.Tuple es x1 pos) (aH t):=by
 intro jb s U H Q I hq;refine wpAny_Tuple_spliced (thn (h pos jb s U H _ I hq) λus s1 zz=>?_);obtain⟨xs,H1,I1,r,z,q⟩:=zz;refine⟨by rw[<-r.length];exact z,?_⟩;have hf:H1 s1.heap.objs.size=none:=I1.hok.fresh (Qbm _);refine⟨.ref s1.heap.objs.size,upd H1 s1.heap.objs.size (.tup xs),I1.laid (t':=s1.toks) (λb u e=>Qai _ e) (Qbm _) ?_,rq,q _ hf⟩;exact⟨z,us,r,⟨_,Qao _ rfl,rq,_,rq⟩⟩
theorem Ce (h:PA X es t):PE X (.List es pos) (aM t):=by
 intro jb s U H Q I hq;refine wpAny_List_spliced (thn (h pos jb s U H _ I hq) λus s1 zz=>?_);obtain⟨xs,H1,I1,r,z,q⟩:=zz;refine⟨by rw[<-r.length];exact z,?_⟩;have hf:H1 s1.heap.objs.size=none:=I1.hok.fresh (Qbm _);refine⟨.ref s1.heap.objs.size,upd H1 s1.heap.objs.size (.lst xs),I1.laid (t':=s1.toks) (λb u e=>Qai _ e) (Qbm _) ?_,rq,q _ hf⟩;exact⟨z,us,0,r,Qao _ rfl⟩
end
abbrev Sp:=YG->Hp->VK->XK->Prop
abbrev CXT:=List Env->Hp->Shared->XK->YA
structure K7 (P:Program) (w:World) (K:YD) (mg:YB) (base:Heap) (A:Around) (outer:List Env) (s:Shared) (H:Hp):Prop where
 frames:A.frames=some outer
 mod:Mod K mg base
 bs:∀b o,base.get? b=some o->s.heap.get? b=some o/\H b=none
 bsz:base.objs.size<=s.heap.objs.size
 Gm:s.heap.FunFrames base outer
 frf:∀b∈frs outer,H b=none
 hok:HOk P w H s.heap
 bare:AllBare s.gens
def CE (outer:List Env) (P:Program) (w:World) (H:Hp) (s:Shared) (Q:VK) (u:Value) (s':Shared):Prop:=
 ∃v H',s'.os=s.os/\AllBare s'.gens/\Un (frs outer) [] H H' s.heap s'.heap/\HOk P w H' s'.heap/\RelV v u/\Q v H'
def CR (CX:CXT) (outer:List Env) (P:Program) (w:World) (H:Hp) (s:Shared) (Q:VK) (E:XK) (r:Result) (s':Shared):Prop:=
 match r with
 | .ok (.ret u)=>CE outer P w H s Q u s'
 | .ok _=>False
 | .error e=>CX outer H s E e s'
structure Eu (P:Program) (w:World) (K:YD) (mg:YB) (base:Heap) (CX:CXT) (k:Nat) (f:Addr) (fd:FuncData) (ps:YF) (sp:Sp):Prop where
 len:∀vs H Q E,sp vs H Q E->vs.length=ps.length
 run:∀(A:Around) (outer:List Env) (s:Shared) (H:Hp) (args:Args) (us:YE) (vs:YG) (Q:VK) (E:XK),CN k A->K7 P w K mg base A outer s H->BindsTo s fd args (ps.zip us)->Vals vs us->sp vs H Q E ->
  codeAny (model P w) A (.call (.ref f) args) (CR CX outer P w H s Q E) s
theorem Eu.mono {P:Program} {w:World} {K:YD} {mg:YB} {base:Heap} {CX:CXT} {j k:Nat} {f:Addr} {fd:FuncData} {ps:YF} {sp:Sp} (F:Eu P w K mg base CX j f fd ps sp) (h:j<=k) :
  Eu P w K mg base CX k f fd ps sp:=⟨F.len,λA outer s H args us vs Q E hr=>F.run A outer s H args us vs Q E (hr.mono h)⟩
theorem Eu.imp {P:Program} {w:World} {K:YD} {mg:YB} {base:Heap} {CX:CXT} {k:Nat} {f:Addr} {fd:FuncData} {ps:YF} {sp sp':Sp} (F:Eu P w K mg base CX k f fd ps sp)
  (h:∀vs H Q E,sp' vs H Q E->sp vs H Q E):Eu P w K mg base CX k f fd ps sp':=
 ⟨λvs H Q E q=>F.len vs H Q E (h _ _ _ _ q),λA outer s H args us vs Q E hr he hb hv hs=>F.run A outer s H args us vs Q E hr he hb hv (h _ _ _ _ hs)⟩
theorem K7.in1 {P:Program} {w:World} {K:YD} {mg:YB} {base:Heap} {A:Around} {outer:List Env} {s:Shared} {H:Hp} (e:K7 P w K mg base A outer s H) :
  K7 P w K mg base A.in1 outer s H:=⟨e.frames,e.mod,e.bs,e.bsz,e.Gm,e.frf,e.hok,e.bare⟩
section
variable {X:Cx} {jb:YC} {U : St} {H:Hp} {s s':Shared}
theorem Inv.env0 (I:Inv X jb U H s):K7 X.prog X.w X.K X.mg X.base X.A X.stack s H:=
 ⟨I.ok.frames,I.ok.mod,I.bs,Qbk I.ok.bsz I.sz,I.stack,I.QT,I.hok,I.bare⟩
theorem Inv.after {Q:VK} {u:Value} (I:Inv X jb U H s) (h:CE X.stack X.prog X.w H s Q u s'):EP X jb U Q u s':=by
 obtain⟨v,H',os,bare,un,hok,r,q⟩:=h;obtain⟨hh,g,d,t,os'⟩:=s';obtain rfl:os'=s.os:=os;exact⟨v,H',I.call (h':=hh) (g':=g) (d':=d) (t':=t) (ch:=[]) un hok bare (λb z=>absurd z (by simp)),r,q⟩
end
def Wr (sp:Sp) (dvs:YG) (E:XK) (t:TA):TE:=fun U H Q=>t U H λvs H1=>sp (vs++dvs) H1 Q E
def Binds (K:YD) (fd:FuncData) (ps:YF) (ds:YE):Prop:=
 ∀(s:Shared) (us:YE),K.In s.heap->(us++ds).length=ps.length->BindsTo s fd ⟨us,[]⟩ (ps.zip (us++ds))
theorem Binds.all {K:YD} {fd:FuncData} {ps:YF} (h:∀us:YE,us.length=ps.length->bindArgs fd ⟨us,[]⟩=pure (ps.zip us)):Binds K fd ps []:=λs us _ hl=>by
 rw[List.append_nil] at hl ⊢;exact .of_eq (h us hl)
def Passes (CX:CXT) (X:Cx) (E:XK):Prop:=∀(jb:YC) (U : St) (H:Hp) (s:Shared) (e:Value) (s':Shared),Inv X jb U H s->CX X.stack H s E e s'->X.xe e s'
section
variable {X:Cx} {CX:CXT} {k:Nat} {f C:Addr} {fd:FuncData} {ps:YF} {sp:Sp} {dvs:YG} {ds:YE} {E:XK} {x m:Str} {p pos apos:Pos} {e o:Expr} {es:YJ} {ta:TE} {t:TA}
theorem Yw {jb:YC} {U : St} {H:Hp} {s:Shared} {Q:VK} {us:YE} {vs:YG} (F:Eu X.prog X.w X.K X.mg X.base CX k f fd ps sp) (hr:CN k X.A) (hb:Binds X.K fd ps ds) (hd:Vals dvs ds) (hx:Passes CX X E)
  (I:Inv X jb U H s) (r:Vals vs us) (h:sp (vs++dvs) H Q E):wpAny (model X.prog X.w) X.A (call (.ref f) us) (EP X jb U Q) X.xe s:=by
 have r2:Vals (vs++dvs) (us++ds):=r.append hd;have hl:(us++ds).length=ps.length:=by rw[<-r2.length];exact F.len _ _ _ _ h
 refine wpAny_call (codeAny_mono (F.run X.A X.stack s H ⟨us,[]⟩ (us++ds) (vs++dvs) Q E hr I.env0 (hb s us I.kIn hl) r2 h) λr s' hq=>?_);cases r with
 | error e=>exact hx jb U H s e s' I hq
 | ok fl=>
  cases fl with
  | ret u=>exact I.after hq
  | next=>exact False.elim hq
  | brk=>exact False.elim hq
  | cont=>exact False.elim hq
theorem Xh (F:Eu X.prog X.w X.K X.mg X.base CX k f fd ps sp) (hr:CN k X.A) (hg:Gl X x) (hm:X.mg x=some (.ref f)) (hk:keepIn X.K (.ref f)=true) (hb:Binds X.K fd ps ds) (hd:Vals dvs ds) (hx:Passes CX X E)
  (ha:PA X (e::es) t) (hdb:(x == ("__debug__":Str))=false:=by decide) (he:starEach (e::es) X.env=(false,eval e X.env)::starEach es X.env:=by rfl) (hpl:(backTo pos (starEach es X.env)).any (·.1)=false:=by rfl) :
  PE X (.Call (.Name x p) (e::es) [] pos) (Wr sp dvs E t):=by
 intro jb s U H Q I h;refine wpAny_Call_Name_kw (Rg I hg hm ?_ hdb);refine PySem.W.callWith_K (h₀:=X.base) I.ok.mod.kin hk (thn (ha pos jb s U H _ I h) λus s1 zz=>?_) he hpl;obtain⟨vs,H1,I1,r,q⟩:=zz;refine⟨I1.kIn,?_⟩;exact Yw F hr hb hd hx I1 r q
end
section
variable {X:Cx} {CX:CXT} {k:Nat} {f C:Addr} {fd:FuncData} {ps ks:YF} {sp:Sp} {E:XK} {x m:Str} {p pos apos kpos:Pos} {e o:Expr} {es:YJ} {kws:List Keyword} {te ta:TE} {t tk:TA} {nm:Option Str}
variable {g:YE->YE->YE} {gV:YG->YG->YG}
end
structure Bm (N P:YF) (sc:Scope):Prop where
 kind:sc.kind=.function
 co:sc.isCoroutine=false
 gen:sc.isGenerator=false
 nd:N.Nodup
 pre:N.take P.length=P
 par:∀x∈P,sc.names.lookup x=some .local\/sc.names.lookup x=some .cell
 Pb:∀y∈sc.names,y.2≠.free
theorem Nh {kindOf:Str->Option NameKind} {x:Str}:∀{binds:List (Str×Value)} {m:YB},(∀v,(x,v)∉binds)->bindL kindOf binds m x=m x
 | [],_,_=>rfl
 | (n,v)::r,m,h=>by
  unfold bindL;rw[Nh λw hw=>h w (Qal _ hw)];split
  ·have:x≠n:=by rintro rfl;exact h v Qav
   simp[this]
  ·rfl
theorem Nj {kindOf:Str->Option NameKind} {x:Str}:∀{binds:List (Str×Value)} {m:YB},(∀v,(x,v)∉binds)->bindC kindOf binds m x=m x
 | [],_,_=>rfl
 | (n,v)::r,m,h=>by
  unfold bindC;rw[Nj λw hw=>h w (Qal _ hw)];split
  ·rfl
  ·have:x≠n:=by rintro rfl;exact h v Qav
   simp[this]
theorem Ni {kindOf:Str->Option NameKind} {x:Str} {v:Value}:∀{P:YF} {vs:YE} {i:Nat} {m:YB},P.Nodup->P[i]?=some x->vs[i]?=some v->kindOf x=some .local ->
  bindL kindOf (P.zip vs) m x=some v
 | [],_,_,_,_,h,_,_=>by simp at h
 | _::_,[],_,_,_,_,h,_=>by simp at h
 | p::P,w::vs,0,m,nd,h1,h2,hk=>by
  simp at h1 h2;subst h1;subst h2;show bindL kindOf ((p,w)::P.zip vs) m p=_;unfold bindL;rw[Nh λv hv=>(QaV.mp nd).1 (List.of_mem_zip hv).1,if_pos hk];simp
 | p::P,w::vs,i+1,m,nd,h1,h2,hk=>by
  show bindL kindOf ((p,w)::P.zip vs) m x=_;unfold bindL;exact Ni (i:=i) (QaV.mp nd).2 (by simpa using h1) (by simpa using h2) hk
theorem Nk {kindOf:Str->Option NameKind} {x:Str} {v:Value}:∀{P:YF} {vs:YE} {i:Nat} {m:YB},P.Nodup->P[i]?=some x->vs[i]?=some v->kindOf x≠some .local ->
  bindC kindOf (P.zip vs) m x=some v
 | [],_,_,_,_,h,_,_=>by simp at h
 | _::_,[],_,_,_,_,h,_=>by simp at h
 | p::P,w::vs,0,m,nd,h1,h2,hk=>by
  simp at h1 h2;subst h1;subst h2;show bindC kindOf ((p,w)::P.zip vs) m p=_;unfold bindC;rw[Nj λv hv=>(QaV.mp nd).1 (List.of_mem_zip hv).1,if_neg hk];simp
 | p::P,w::vs,i+1,m,nd,h1,h2,hk=>by
  show bindC kindOf ((p,w)::P.zip vs) m x=_;unfold bindC;exact Nk (i:=i) (QaV.mp nd).2 (by simpa using h1) (by simpa using h2) hk
def start (N:YF) (vs:YG):St:=vs.map some++List.replicate (N.length - vs.length) none
def JV (CX:CXT) (P:Program) (w:World) (K:YD) (mg:YB) (base:Heap) (N:YF) (qual:Str) (scope:Scope) (f:Addr) (cd:Value) (A:Around) (outer:List Env) (s:Shared) (H:Hp) (E:XK):Cx where
 prog:=P
 w:=w
 K:=K
 mg:=mg
 base:=base
 A:=A.deeper (envOfC qual scope s.heap.objs.size f cd)
 N:=N
 s₀:=s
 H₀:=H
 env:=envOfC qual scope s.heap.objs.size f cd
 outer:=outer
 stack:=envOfC qual scope s.heap.objs.size f cd::outer
 ex:=[]
 calm:=true
 fn:=λ_=>true
 pn:=[]
 xe:=λe s'=>wpAny (model P w) (A.deeper (envOfC qual scope s.heap.objs.size f cd)) (leaving (envOfC qual scope s.heap.objs.size f cd) e) (λ_ s''=>CX outer H s E e s'') (λe' s''=>CX outer H s E e' s'') s'
theorem Qg {sc:Scope} {n:Nat} {x:Str} (h:sc.names.lookup x=some .cell):∃c,(cellsFrom n sc.names []).lookup x=some c:=by
 have q:=PySem.W.cellsFrom_some sc.names n [] (.inl h);exact Option.isSome_iff_exists.mp q
theorem Uo {CX:CXT} {P:Program} {w:World} {K:YD} {mg:YB} {base:Heap} {N ps:YF} {qual:Str} {scope:Scope} {f:Addr} {cd:Value} {A:Around} {outer:List Env} {s s1:Shared} {H:Hp} {E:XK} {us:YE} {vs:YG}
  (S:Bm N ps scope) (hd:A.handled=none) (e0:K7 P w K mg base A outer s H) (hl:vs.length=ps.length) (r:Vals vs us)
  (x:InCallC s s.heap.objs.size (bindL (envOfC qual scope s.heap.objs.size f cd).kindOf (ps.zip us) λ_=>none) (cellsFrom (s.heap.objs.size+1) scope.names []) (bindC (envOfC qual scope s.heap.objs.size f cd).kindOf (ps.zip us) λ_=>none) s1) :
  Inv (JV CX P w K mg base N qual scope f cd A outer s H E) [] (start N vs) H s1:=by
 have hpl:ps.length<=N.length:=by have:=congrArg List.length S.pre;rw[QaK] at this;omega
 obtain⟨h1,tk,rfl,hk⟩:=x.done;have noA:∀b:Addr,b∉(JV CX P w K mg base N qual scope f cd A outer s H E).ex:=λb z=>absurd (show b∈([]:List Addr) from z) (by simp)
 refine⟨⟨e0.mod,S.kind,rq,rq,Qbm _,λy z c h1 h2=>?_,λy hy=>?_,λy c _ h=>?_,λ_=>hd,Around.frames_deeper e0.frames,.inr ⟨rq,rq⟩,λb z=>absurd z (noA b),e0.bs,e0.bsz,λb _ _=>noA b,λb z=>absurd z (noA b),e0.Gm,e0.frf⟩,
  rfl,e0.bare,Un.kept hk,⟨_,x.toInCall.ns,λi y v h1 h2 h3=>?_⟩,λy c h=>⟨_,x.cell y c h⟩,e0.hok.fresh (Qbm _),λy c h=>?_,λp hp=>absurd (show p∈([]:YC) from hp) (by simp),e0.hok.kept hk,?_⟩
 ·exact name_of_addr x.apart (Qaq h1) (Qaq h2)
 ·have hy:scope.names.lookup y=some .cell\/scope.names.lookup y=some .free:=hy;rcases hy with hy | hy
  ·exact Qg hy
  ·exact absurd rfl (S.Pb _ (Qaq hy))
 ·exact Nat.le_of_lt (x.above y c (Qaq h))
 ·have hi:i < vs.length:=by
   unfold start at h2;by_cases hi:i < vs.length
   ·exact hi
   ·rw[List.getElem?_append_right (by simpa using hi)] at h2;rw[List.getElem?_replicate] at h2;split at h2 <;> cases h2
  have ha:vs[i]?=some v:=by
   unfold start at h2;rw[List.getElem?_append_left (by simpa using hi),QaG] at h2;cases e:vs[i]? with
   | none=>rw[e] at h2;cases h2
   | some a=>rw[e] at h2;cases h2;rfl
  obtain⟨u,hu,rv⟩:=r.get ha;have hp:ps[i]?=some y:=by
   rw[<-S.pre,List.getElem?_take_of_lt (by omega)];exact h1
  have ndP:ps.Nodup:=by rw[<-S.pre];exact S.nd.sublist (List.take_sublist _ _)
  refine⟨u,rv,?_⟩;rcases S.par y (Qam hp) with k | k
  ·exact .inl ⟨k,Ni ndP hp hu k⟩
  ·obtain⟨c,e⟩:=Qg (n:=s.heap.objs.size+1) k;refine .inr ⟨.inl k,c,e,?_⟩;have q:=x.cell y c e;rw[Nk ndP hp hu (by show scope.names.lookup y≠_;rw[k];decide)] at q;exact q
 ·exact e0.hok.fresh (Nat.le_of_lt (x.above y c (Qaq h)))
 ·unfold start;show _=N.length;rw[Qaw,QaQ,List.length_replicate];omega
theorem aA {CX:CXT} {P:Program} {w:World} {K:YD} {mg:YB} {base:Heap} {k:Nat} {f:Addr} {name qual:Str} {params:Arguments} {body:List Stmt} {scope:Scope} {dV kV doc pm cdv ct oc:Value} {an od:Option Addr}
  {osl:YI} {N ps:YF} {sp:Sp} (lk:K.lookup f=some ⟨oc,od,.func (fnOf name qual params body scope dV kV doc pm an cdv ct),osl⟩) (hcd:codeIn K cdv qual=true) (S:Bm N ps scope)
  (len:∀vs H Q E,sp vs H Q E->vs.length=ps.length)
  (hbody:∀(A:Around) (outer:List Env) (s:Shared) (H:Hp) (vs:YG) (Q:VK) (E:XK),CN k (A.deeper (envOfC qual scope s.heap.objs.size f cdv))->sp vs H Q E ->
   ∃t,PSs (JV CX P w K mg base N qual scope f cdv A outer s H E) body t/\t { nx:=λ_ H'=>Q .non H',rt:=Q } (start N vs) H) :
  Eu P w K mg base CX (k+1) f (fnOf name qual params body scope dV kV doc pm an cdv ct) ps sp:=by
 refine⟨len,λA outer s H args us vs Q E hr e0 hb r hsp=>?_⟩;have hl:=len _ _ _ _ hsp;have KX:K.In s.heap:=e0.mod.kin.keeps λb o e=>(e0.bs b o e).1;have lim:s.heap.NoLimit:=e0.mod.nolimit.keeps λb o e=>(e0.bs b o e).1;have hkind:∀y∈ps.zip us,scope.names.lookup y.1=some .local\/(scope.names.lookup y.1=some .cell/\((cellsFrom (s.heap.objs.size+1) scope.names []).lookup y.1).isSome=true):=λ⟨n,v⟩ hy=>by
  rcases S.par n (List.of_mem_zip hy).1 with q | q
  ·exact .inl q
  ·exact .inr ⟨q,PySem.W.cellsFrom_some _ _ _ (.inl q)⟩
 refine codeAny_call_function hr.depth (KX _ _ lk) rfl S.co S.gen rfl (PySem.W.codeRec_of KX hcd) (hb _ _ _ _ ?_);refine wpAny_newFunctionEnv_cells S.kind hkind λenv he s1 x=>?_;subst he;refine⟨lim.keeps x.toInCall.keep,codeAny_func ?_⟩;obtain⟨t,ht,hq⟩:=hbody A outer s H vs Q E (hr.deeper _) hsp;have I:Inv (JV CX P w K mg base N qual scope f cdv A outer s H E) [] (start N vs) H s1:=Uo S hr.hd e0 hl r x;refine Qbr (ht [] s1 (start N vs) H _ I hq) (λfl s' hs=>?_) λe s' hs=>hs;have fin:∀{σ':St} {H':Hp} {v:V} {u:Value},Inv (JV CX P w K mg base N qual scope f cdv A outer s H E) [] σ' H' s'->RelV v u->Q v H'->CE outer P w H s Q u s':=
  λ{σ' H' v u} J rv q=>⟨v,H',J.os,J.bare,J.base,J.hok,rv,q⟩
 cases fl with
 | ret u=>
  obtain⟨v,σ',H',J,rv,q⟩:=hs;exact fin J rv q
 | next=>
  obtain⟨σ',H',J,q⟩:=hs;exact fin (v:=V.non) (u:=Value.none) J rfl q
 | brk=>
  obtain⟨_,_,_,q⟩:=hs;exact False.elim q
 | cont=>
  obtain⟨_,_,_,q⟩:=hs;exact False.elim q
section
variable {X:Cx} {x:Str} {p pos:Pos} {e:Expr} {es:YJ} {t:TA} {id T:String} {r:YG->Hp->VK->Prop}
def tCB (r:YG->Hp->VK->Prop) (t:TA):TE:=fun U H Q=>t U H λvs H1=>r vs H1 Q
theorem Ao (hc:Dp X (.builtin id) r) (hg:Gl X x) (hm:X.mg x=none) (hv:bootBuiltins x=some (.builtin id)) (ha:PA X (e::es) t) (hn:x≠"__name__":=by decide) (hdb:(x == ("__debug__":Str))=false:=by decide)
  (he:starEach (e::es) X.env=(false,eval e X.env)::starEach es X.env:=by rfl) (hpl:(backTo pos (starEach es X.env)).any (·.1)=false:=by rfl):PE X (.Call (.Name x p) (e::es) [] pos) (tCB r t):=by
 intro jb s U H Q I h;refine wpAny_Call_Name_kw (JQ I hg hm hv ?_ hn hdb);refine PyProof.Rows.callWith_builtin1 (thn (ha pos jb s U H _ I h) λus s1 zz=>?_) he hpl;obtain⟨vs,H1,I1,r1,q1⟩:=zz;exact hc jb s1 U H1 vs us Q I1 r1 q1
theorem Il (hc:Dp X (.type T) r) (hg:Gl X x) (hm:X.mg x=none) (hv:bootBuiltins x=some (.type T)) (ha:PA X (e::es) t) (hn:x≠"__name__":=by decide) (hdb:(x == ("__debug__":Str))=false:=by decide)
  (he:starEach (e::es) X.env=(false,eval e X.env)::starEach es X.env:=by rfl) (hpl:(backTo pos (starEach es X.env)).any (·.1)=false:=by rfl):PE X (.Call (.Name x p) (e::es) [] pos) (tCB r t):=by
 intro jb s U H Q I h;refine wpAny_Call_Name_kw (JQ I hg hm hv ?_ hn hdb);refine PyProof.Rows.callWith_type1 (thn (ha pos jb s U H _ I h) λus s1 zz=>?_) he hpl;obtain⟨vs,H1,I1,r1,q1⟩:=zz;exact hc jb s1 U H1 vs us Q I1 r1 q1
end
end L2
namespace HT
open PySem PyProof.Rows
section
open PySem.SeqAt
open PySem.AutoSeq1 (wpAny_loadPart')
open PySem.MeetsSeq PySem.MeetsSeq2 PySem.MeetsSeq3
end
section
variable {prog:Program} {w:World} {A:Around} {E:YA} {s:Shared}
theorem XM {t b:Addr} {vs ws:YE} {Q:YA} (ht:IsTup s.heap t vs.toArray) (hb:IsTup s.heap b ws.toArray) (hv:vs≠[])
  (h1:ws=[]->Q (.ref t) s) (h2:ws≠[]->Q (.ref s.heap.objs.size) { s with heap:=s.heap.push { cls:=.type "tuple",data:=.seq (vs++ws).toArray } })
  (hsz:vs.length+ws.length<=sizeLine):wpAny (model prog w) A (binaryOp .Add (.ref t) (.ref b)) Q E s:=by
 obtain⟨⟨cls,dd,data,sl⟩,ho,hc,n,hd⟩:=id ht;obtain⟨⟨cls2,dd2,data2,sl2⟩,ho2,hc2,n2,hd2⟩:=id hb;simp only at hc hd hc2 hd2;subst hc hd hc2 hd2;have e:vs.toArray++ws.toArray=(vs++ws).toArray:=by simp
 by_cases hw:ws=[]
 ·exact concat_meets ⟨_,ho,rq⟩ ⟨_,ho2,rq⟩ noFill_tuple_add seq_tuple_add PySem.F.slot_tuple_add PySem.F.entry_tuple_add (PySem.F.args_tuple_add_2 _ _)
   (tuple_addW1 t b vs.toArray ws.toArray n n2 dd dd2 sl sl2 (by simpa using hv) (by simp[hw])) ⟨ho,ho2,h1 hw⟩
 ·refine concat_meets ⟨_,ho,rq⟩ ⟨_,ho2,rq⟩ noFill_tuple_add seq_tuple_add PySem.F.slot_tuple_add PySem.F.entry_tuple_add (PySem.F.args_tuple_add_2 _ _)
   (tuple_addW2 t b vs.toArray ws.toArray n n2 dd dd2 sl sl2 (by simpa using hv) (by simpa using hw) (by rw[QaC,QaC];exact hsz)) ⟨ho,ho2,?_⟩
  rw[e];exact h2 hw
def sIx (n d:Nat):Option Int->Nat
 | none=>d
 | some v=>if v < 0 then (v+(n:Int)).toNat else min v.toNat n
theorem Kz (n d:Nat):sIx n d none=d:=rfl
theorem IW (n d k:Nat):sIx n d (some (k:Int))=min k n:=by
 show (if (k:Int) < 0 then ((k:Int)+(n:Int)).toNat else min (k:Int).toNat n)=min k n
 rw[if_neg (by omega),QaH]
theorem Yv (n d:Nat) (hd:d<=n) (o:Option Int):sIx n d o<=n:=by
 cases o with
 | none=>exact hd
 | some v=>
  show (if v < 0 then (v+(n:Int)).toNat else min v.toNat n)<=n
  by_cases hv:v < 0
  ·rw[if_pos hv];omega
  ·rw[if_neg hv];exact Nat.min_le_right _ _
theorem Rq (v:Int) (n d:Nat):(if v < 0 then max (v+(n:Int)) 0 else min v (n:Int))=((sIx n d (some v):Nat):Int):=by
 show (if v < 0 then max (v+(n:Int)) 0 else min v (n:Int))=(((if v < 0 then (v+(n:Int)).toNat else min v.toNat n):Nat):Int)
 by_cases hv:v < 0
 ·simp only[if_pos hv];omega
 ·simp only[if_neg hv];omega
theorem SQ (lo hi:Option Int) (n:Nat):Builtin.Slice.sliceAdjust lo hi 1 (n:Int)=(((sIx n 0 lo:Nat):Int),((sIx n n hi:Nat):Int)):=by
 have h1:¬((1:Int) < 0):=by omega
 unfold Builtin.Slice.sliceAdjust;simp only[h1,if_false];refine Prod.ext ?_ ?_
 ·cases lo with
  | none=>rfl
  | some v=>exact Rq v n 0
 ·cases hi with
  | none=>rfl
  | some v=>exact Rq v n n
theorem RL (i j:Nat):Builtin.Slice.slicePlaces (i:Int) (j:Int) 1=j - i:=by
 unfold Builtin.Slice.slicePlaces;have h1:(1:Int) > 0:=by omega
 simp only[h1,if_true,Int.ediv_one];split <;> omega
theorem Ji {v:Value} {o:Option Int} {Q:Option Int->Shared->Prop} (p:IsPart v o) (h:Q o s):wpAny (model prog w) A (Builtin.Slice.slicePartIndex v) Q E s:=by
 cases p with
 | none=>exact slicePart_none h
 | int i t=>exact slicePart_int h
theorem Hy {sl:Addr} {vl vu:Value} {lo hi:Option Int} {n:Nat} {Q:Int×Int×Nat->Shared->Prop} (hs:s.heap.IsSliceOf sl vl vu .none) (pl:IsPart vl lo) (pu:IsPart vu hi)
  (h:Q (((sIx n 0 lo:Nat):Int),1,sIx n n hi - sIx n 0 lo) s):wpAny (model prog w) A (Builtin.Slice.sliceApplied (.ref sl) (pure (n:Int))) Q E s:=by
 obtain⟨os,hos,hcs,hds⟩:=id hs;unfold Builtin.Slice.sliceApplied Builtin.Slice.sliceFields;refine Qbp (Qbp (Qbo hos hds (x:=vl) rfl (Qbp (Qbo hos hds (x:=vu) rfl (Qbp (Qbo hos hds (x:=.none) rfl (Qbq ?_)))))));refine Qbp (slicePart_none ?_);show wpAny _ _ (if ((1:Int) == 0)=true then _ else _) _ _ s
 rw[if_neg (by decide)];refine Qbp (Ji pl (Qbp (Ji pu (Qbp (Qbq ?_)))));show wpAny _ _ (match Builtin.Slice.sliceAdjust lo hi 1 (n:Int) with | (lo,hi)=>pure (lo,(1:Int),Builtin.Slice.slicePlaces lo hi 1)) _ _ s
 rw[SQ lo hi n];show wpAny _ _ (pure (((sIx n 0 lo:Nat):Int),(1:Int),Builtin.Slice.slicePlaces ((sIx n 0 lo:Nat):Int) ((sIx n n hi:Nat):Int) 1)) _ _ s;rw[RL];exact Qbq h
theorem Vu (xs:Array Value) (i k:Nat):((List.range k).filterMap λ(m:Nat)=>xs[((i:Int)+(m:Int)*1).toNat]?).toArray=((xs.toList.drop i).take k).toArray:=by
 have e:(λ(m:Nat)=>xs[((i:Int)+(m:Int)*1).toNat]?)=λm=>xs[i+m]?:=by
  funext m
  have:((i:Int)+(m:Int)*1).toNat=i+m:=by omega
  rw[this]
 rw[e];have:=pick_run xs i k;rw[List.filterMap_map] at this;have e2:((λx=>xs[x]?) ∘ λx=>i+x)=λm=>xs[i+m]?:=rfl;rw[e2] at this;rw[this]
theorem Km {t sl:Addr} {items:Array Value} {vl vu:Value} {lo hi:Option Int} {Q:YA} (ht:IsTup s.heap t items) (hs:s.heap.IsSliceOf sl vl vu .none) (pl:IsPart vl lo) (pu:IsPart vu hi)
  (hw:¬(sIx items.size 0 lo=0/\sIx items.size items.size hi=items.size))
  (h:Q (.ref s.heap.objs.size) { s with heap:=s.heap.push { cls:=.type "tuple",data:=.seq ((items.toList.drop (sIx items.size 0 lo)).take (sIx items.size items.size hi - sIx items.size 0 lo)).toArray } })
  (hsz:items.size<=sizeLine):wpAny (model prog w) A (getItem (.ref t) (.ref sl)) Q E s:=by
 have Ht:sizeOk (.seq ((items.toList.drop (sIx items.size 0 lo)).take (sIx items.size items.size hi - sIx items.size 0 lo)).toArray):=by
  show ((items.toList.drop (sIx items.size 0 lo)).take (sIx items.size items.size hi - sIx items.size 0 lo)).toArray.size<=sizeLine;rw[QaC,QaK,List.length_drop,Qap];omega
 have hj:sIx items.size items.size hi<=items.size:=Yv _ _ (Qbm _) hi;obtain⟨os,hos,hcs,hds⟩:=id hs;have hTs:s.TypeIs (.ref sl) "slice":=⟨os,hos,hcs⟩;unfold getItem
 try with_reducible refine Qbi ?_
 first | refine Qbp (Qbq ?_) | skip
 refine Qbp (wpAny_sequenceKey ht.typeIs (by decide) ?_);refine Qbp (Qag (name:=Str.ofString "__getitem__") ht.typeIs Qab
  (QaL Qab ht.typeIs entry_tuple_getitem ?_ (args_tuple_getitem _ _)))
 show wpAny _ _ (Builtin.Tuple.tupleItemsOf (.ref t) >>= _) _ _ s;refine Qbp (tupleItemsOf_ ht ?_);refine Qbp (wpAny_typeOf hTs ?_);rw[if_pos (by decide)];refine Qbp (Hy hs pl pu ?_);have hno:¬((((sIx items.size 0 lo:Nat):Int) == 0&&(1:Int) == 1&&(sIx items.size items.size hi - sIx items.size 0 lo) == items.size)=true):=by
  intro q;rw[QaI,QaI] at q;have q1:((sIx items.size 0 lo:Nat):Int)=0:=eq_of_beq q.1.1;have q2:sIx items.size items.size hi - sIx items.size 0 lo=items.size:=eq_of_beq q.2;exact hw ⟨by omega,by omega⟩
 show wpAny _ _ (if (((sIx items.size 0 lo:Nat):Int) == 0&&(1:Int) == 1&&(sIx items.size items.size hi - sIx items.size 0 lo) == items.size)=true then _ else _) _ _ s
 rw[if_neg hno,Vu]
 first
  | exact Qbp (m:=Builtin.Tuple.tupleExact _) (QaE (Qbq ⟨_,rfl,Qbq h⟩) Ht)
  | exact Qbp (m:=Builtin.Tuple.tupleExact _) (QaE (Qbp (Qbq (Qbq ⟨_,rfl,Qbq h⟩))) Ht)
  | exact Qbp (Qbp (m:=Builtin.Tuple.tupleExact _) (QaE (Qbq (Qbq ⟨_,rfl,Qbq h⟩)) Ht))
  | exact Qbp (Qbp (m:=Builtin.Tuple.tupleExact _) (QaE (Qbq ⟨_,rfl,Qbq h⟩) Ht))
end
end HT
namespace L2
open PySem PySem.Spec PyProof.Rows
abbrev TO:=St->Hp->(Option Int->Hp->Prop)->Prop
def PO (X:Cx) (e:Option Expr) (t:TO):Prop:=
 ∀(jb:YC) (s:Shared) (U : St) (H:Hp) (Q:Option Int->Hp->Prop),Inv X jb U H s->t U H Q ->
  wpAny (model X.prog X.w) X.A (evalPart e X.env) (λu s'=>∃o H',Inv X jb U H' s'/\IsPart u o/\Q o H') X.xe s
def W6:TO:=λ_ H Q=>Q none H
def ZS (t:TE):TO:=fun U H Q=>t U H λx H1=>∃i,x=.int i/\Q (some i) H1
section
variable {X:Cx} {e:Expr} {te:TE} {lo hi:Option Expr} {tl th:TO} {pos p2:Pos}
theorem Ft:PO X none W6:=by
 intro jb s U H Q I h;rw[evalPart_none];exact Qbq ⟨none,H,I,.none,h⟩
theorem Dh (h:PE X e te):PO X (some e) (ZS te):=by
 intro jb s U H Q I hw;rw[evalPart_some];refine thn (h jb s U H _ I hw) λu s1 zz=>?_;obtain⟨x,H1,I1,r1,q1⟩:=zz;obtain⟨i,rfl,q⟩:=q1;obtain⟨t,rfl⟩:=r1;exact⟨some i,H1,I1,.int i t,q⟩
def SlR (X:Cx) (r:V->Option Int->Option Int->Hp->VK->Prop):Prop:=
 ∀(jb:YC) (s:Shared) (U : St) (H:Hp) (x:V) (v vl vu:Value) (lo hi:Option Int) (sl:Addr) (Q:VK),Inv X jb U H s->RelV x v->s.heap.IsSliceOf sl vl vu .none->IsPart vl lo->IsPart vu hi->r x lo hi H Q ->
  ∃T id,typeLookup (.type T) "__getitem__"=pure (some (.builtin id))/\s.TypeIs v T/\wpAny (model X.prog X.w) X.A (getItem v (.ref sl)) (EP X jb U Q) X.xe s
theorem SlR.or {r r':V->Option Int->Option Int->Hp->VK->Prop} (h:SlR X r) (h':SlR X r'):SlR X (λx lo hi H Q=>r x lo hi H Q\/r' x lo hi H Q):=by
 intro jb s U H x v vl vu lo hi sl Q I rx hs pl pu q;rcases q with q | q
 ·exact h jb s U H x v vl vu lo hi sl Q I rx hs pl pu q
 ·exact h' jb s U H x v vl vu lo hi sl Q I rx hs pl pu q
def tSl (r:V->Option Int->Option Int->Hp->VK->Prop) (te:TE) (tl th:TO):TE:=fun U H Q=>te U H λx H1=>tl U H1 λl H2=>th U H2 λu H3=>r x l u H3 Q
theorem Dv {r:V->Option Int->Option Int->Hp->VK->Prop} (hr:SlR X r) (he:PE X e te) (hl:PO X lo tl) (hu:PO X hi th):PE X (.Subscript e (.Slice lo hi none p2) pos) (tSl r te tl th):=by
 intro jb s U H Q I h;refine Subscript_ (thn (he jb s U H _ I h) λv s1 zz=>?_);obtain⟨x,H1,I1,r1,q1⟩:=zz;refine wpAny_Slice (thn (hl jb s1 U H1 _ I1 q1) λvl s2 zz=>?_);obtain⟨l,H2,I2,pl,q2⟩:=zz;refine thn (hu jb s2 U H2 _ I2 q2) λvu s3 zz=>?_;obtain⟨u,H3,I3,pu,q3⟩:=zz;rw[evalPart_none];refine Qbq ?_;have I4:Inv X jb U H3 { s3 with heap:=s3.heap.push { cls:=.type "slice",data:=.fields #[vl,vu,.none] } }:=I3.kept (t':=s3.toks) λb ob q=>Qai _ q;obtain⟨T,id,hT,ht,hg⟩:=hr jb { s3 with heap:=s3.heap.push { cls:=.type "slice",data:=.fields #[vl,vu,.none] } } U H3 x v vl vu l u s3.heap.objs.size Q I4 r1 (Heap.IsSliceOf.new ..) pl pu q3;show wpAny (model X.prog X.w) X.A (subscriptTail e (.Slice lo hi none p2) v (.ref s3.heap.objs.size)) (EP X jb U Q) X.xe { s3 with heap:=s3.heap.push { cls:=.type "slice",data:=.fields #[vl,vu,.none] } };exact tail_any (ops:=[.ref s3.heap.objs.size,v]) ht hT hg (by with_unfolding_all rfl)
def Dy (xs:YG) (lo hi:Option Int):YG:=(xs.drop (HT.sIx xs.length 0 lo)).take (HT.sIx xs.length xs.length hi - HT.sIx xs.length 0 lo)
theorem Gy (xs:YG) (lo hi:Option Int):(Dy xs lo hi).length<=xs.length:=by
 unfold Dy;rw[QaK,List.length_drop];omega
def aR (K:YD):V->Option Int->Option Int->Hp->VK->Prop:=λx lo hi H Q=>∃a xs,x=.ref a/\SqT K H a xs /\
 ¬(HT.sIx xs.length 0 lo=0/\HT.sIx xs.length xs.length hi=xs.length)/\∀p,H p=none->Q (.ref p) (upd H p (.tup (Dy xs lo hi)))
theorem Yo:SlR X (aR X.K):=by
 intro jb s U H x v vl vu lo hi sl Q I rx hs pl pu h;obtain⟨a,xs,rfl,hx,hw,q⟩:=h;cases rx;obtain⟨its,r,ht,hz⟩:=I.tuple hx;have hlen:its.toArray.size=xs.length:=by rw[QaC];exact r.length.symm
 refine⟨"tuple",_,Qab.lookup,ht.typeIs,?_⟩;refine HT.Km ht hs pl pu (by rw[hlen];exact hw) ?_ (by rw[hlen];exact hz);rw[hlen];refine⟨.ref s.heap.objs.size,_,I.laid (t':=s.toks) (o:=.tup (Dy xs lo hi)) (λb ob q=>Qai _ q) (Qbm _) ?_,rq,q _ (I.hok.fresh (Qbm _))⟩;exact⟨Qbk (Gy xs lo hi) hz,_,(r.drop (HT.sIx xs.length 0 lo)).take (HT.sIx xs.length xs.length hi - HT.sIx xs.length 0 lo),IsTup.new _ _⟩
def Z7 (K:YD):R2:=λx y H Q=>∃a b xs ys,x=.ref a/\y=.ref b/\SqT K H a xs/\SqT K H b ys/\xs≠[]/\xs.length+ys.length<=sizeLine /\
 (ys=[]->Q (.ref a) H)/\(ys≠[]->∀p,H p=none->Q (.ref p) (upd H p (.tup (xs++ys))))
theorem Vals.Mj {xs:YG} {us:YE} (r:Vals xs us):us=[] ↔ xs=[]:=by
 cases r with
 | nil=>simp
 | cons _ _=>simp
theorem Xl:OpR X (binaryOp .Add) (Z7 X.K):=by
 intro jb s U H x y v u Q I rx ry h;obtain⟨a,b,xs,ys,rfl,rfl,ha,hb,hx,hz,q1,q2⟩:=h;cases rx;cases ry;obtain⟨its,r1,p1,_⟩:=I.tuple ha;obtain⟨its2,r2,p2,_⟩:=I.tuple hb;refine HT.XM p1 p2 (λz=>hx (r1.Mj.mp z)) (λz=>⟨.ref a,H,I,rq,q1 (r2.Mj.mp z)⟩) (λz=>?_) (by rw[<-r1.length,<-r2.length];exact hz);refine⟨.ref s.heap.objs.size,_,I.laid (t':=s.toks) (o:=.tup (xs++ys)) (λb ob q=>Qai _ q) (Qbm _) ?_,rq,q2 (λw=>z (r2.Mj.mpr w)) _ (I.hok.fresh (Qbm _))⟩;exact⟨by rw[Qaw];exact hz,_,r1.append r2,IsTup.new _ _⟩
end
def ixN (n:Nat) (i:Int):Option Nat:=if 0<=i then (if i < n then some i.toNat else none) else if -(n:Int)<=i then some (i+n).toNat else none
def atI {α : Type} (xs:List α) (i:Int):Option α:=(ixN xs.length i).bind λj=>xs[j]?
theorem Rh {n:Nat} {i:Int} {j:Nat} (h:ixN n i=some j):seqIndex? i n=some j/\j < n/\-(n:Int)<=i/\i < n:=by
 unfold ixN at h;by_cases h0:0<=i
 ·rw[if_pos h0] at h;by_cases h1:i < n
  ·rw[if_pos h1] at h;have e:i.toNat=j:=QaS h;exact⟨by rw[seqIndex_of h0 h1,e],by omega,by omega,h1⟩
  ·rw[if_neg h1] at h;cases h
 ·rw[if_neg h0] at h;by_cases h1:-(n:Int)<=i
  ·rw[if_pos h1] at h;have e:(i+n).toNat=j:=QaS h;exact⟨by rw[seqIndex_neg (by omega) h1,e],by omega,h1,by omega⟩
  ·rw[if_neg h1] at h;cases h
theorem Mw {α : Type} {xs:List α} {i:Int} {v:α} (h:atI xs i=some v):∃j,seqIndex? i xs.length=some j/\xs[j]?=some v/\j < xs.length/\-(xs.length:Int)<=i/\i < xs.length:=by
 unfold atI at h;cases e:ixN xs.length i with
 | none=>rw[e] at h;cases h
 | some j=>
  rw[e] at h;obtain⟨h1,h2,h3,h4⟩:=Rh e;exact⟨j,h1,h,h2,h3,h4⟩
theorem Bf {α : Type} {xs:List α} {j:Nat} {v:α} (h:xs[j]?=some v):atI xs (j:Int)=some v:=by
 have hj:j < xs.length:=(Qad.mp h).1;have e:ixN xs.length (j:Int)=some j:=by
  unfold ixN;rw[if_pos (by omega),if_pos (by omega)];simp
 unfold atI;rw[e];exact h
def X3 (b:Expr):Prop:=∀o i,subscripted b false o i=operate [o,i] (getItem o i)
def IxR (X:Cx) (r:R2):Prop:=
 ∀(value slice:Expr) (jb:YC) (s:Shared) (U : St) (H:Hp) (x y:V) (v u:Value) (Q:VK),Inv X jb U H s->RelV x v->RelV y u->r x y H Q ->
  subscripted slice false v u=operate [v,u] (getItem v u)->wpAny (model X.prog X.w) X.A (subscriptTail value slice v u) (EP X jb U Q) X.xe s
def MtR (X:Cx) (id:String) (r:V->YG->Hp->VK->Prop):Prop:=
 ∀(jb:YC) (s:Shared) (U : St) (H:Hp) (x:V) (xs:YG) (v:Value) (us:YE) (Q:VK),Inv X jb U H s->RelV x v->Vals xs us->r x xs H Q ->
  wpAny (model X.prog X.w) X.A (call (.builtin id) (v::us)) (EP X jb U Q) X.xe s
section
variable {X:Cx} {a b:Expr} {ta tb:TE} {pos:Pos}
theorem IxR.or {r r':R2} (h:IxR X r) (h':IxR X r'):IxR X (λx y H Q=>r x y H Q\/r' x y H Q):=by
 intro value slice jb s U H x y v u Q I rx ry q hs;rcases q with q | q
 ·exact h value slice jb s U H x y v u Q I rx ry q hs
 ·exact h' value slice jb s U H x y v u Q I rx ry q hs
theorem MtR.or {id:String} {r r':V->YG->Hp->VK->Prop} (h:MtR X id r) (h':MtR X id r'):MtR X id (λx xs H Q=>r x xs H Q\/r' x xs H Q):=by
 intro jb s U H x xs v us Q I rx rs q;rcases q with q | q
 ·exact h jb s U H x xs v us Q I rx rs q
 ·exact h' jb s U H x xs v us Q I rx rs q
theorem Ay {r:R2} (hr:IxR X r) (ha:PE X a ta) (hb:PE X b tb) (hs:X3 b):PE X (.Subscript a b pos) (tOp r ta tb):=by
 intro jb s U H Q I h;exact Subscript_ (V6 ha hb I h λv u s2 x y H2 I2 rx ry q=>hr a b jb s2 U H2 x y v u Q I2 rx ry q (hs _ _))
def aX (K:YD):R2:=λx y H Q=>∃p xs i v,x=.ref p/\y=.int i/\SqL K H p xs/\atI xs i=some v/\Q v H
def aV (K:YD):R2:=λx y H Q=>∃p xs i v,x=.ref p/\y=.int i/\SqT K H p xs/\atI xs i=some v/\Q v H
def aW:R2:=λx y H Q=>∃z i c,x=.str z/\y=.int i/\z.length<=sizeLine/\atI z.cps.toList i=some c/\Q (.str ⟨#[c]⟩) H
theorem Bs:IxR X (aX X.K):=by
 intro value slice jb s U H x y v u Q I rx ry h hs;obtain⟨p,xs,i,z,rfl,rfl,hq,he,q⟩:=h;cases rx;obtain⟨t,rfl⟩:=ry;obtain⟨its,r,pl,hz⟩:=I.list hq;obtain⟨j,h1,h2,h3,h4,h5⟩:=Mw he;obtain⟨w,ew,rw'⟩:=r.get h2;have hl:=r.length;have hn:=Ih;have fin:EP X jb U Q w s:=⟨z,H,I,rw',q⟩;by_cases h0:0<=i
 ·have hj:i.toNat=j:=by
   rw[seqIndex_of h0 h5] at h1;exact QaS h1
  exact item_listR pl.isList h0 (by omega) (by rw[hj];simpa using ew) fin hs
 ·have hj:(i+(its.toArray.size:Int)).toNat=j:=by
   rw[seqIndex_neg (by omega) h4] at h1;rw[QaC,<-hl];exact QaS h1
  exact subscriptTail_builtinR (x:=w) pl.isList.typeIs slot_list_getitem.lookup
   (wpAny_getItem_list_neg (Q:=λr s'=>r=w/\EP X jb U Q r s') pl.isList (by omega) (by rw[QaC] <;> omega) (by omega) (by rw[hj];simpa using ew) ⟨rq,fin⟩) hs
theorem Bq:IxR X (aV X.K):=by
 intro value slice jb s U H x y v u Q I rx ry h hs;obtain⟨p,xs,i,z,rfl,rfl,hq,he,q⟩:=h;cases rx;obtain⟨t,rfl⟩:=ry;obtain⟨its,r,pl,hz⟩:=I.tuple hq;obtain⟨j,h1,h2,h3,h4,h5⟩:=Mw he;obtain⟨w,ew,rw'⟩:=r.get h2;have hl:=r.length;have hn:=Ih;have fin:EP X jb U Q w s:=⟨z,H,I,rw',q⟩;exact subscriptTail_builtinR (x:=w) pl.typeIs slot_tuple_getitem.lookup
  (getItem_tuple (j:=j) (Q:=λr s'=>r=w/\EP X jb U Q r s') pl (by omega) (by omega) (by rw[QaC,<-hl];exact h1) (by simpa using ew) ⟨rq,fin⟩) hs
theorem Zc:IxR X aW:=by
 intro value slice jb s U H x y v u Q I rx ry h hs;obtain⟨z,i,c,rfl,rfl,hz,he,q⟩:=h;obtain⟨t,rfl⟩:=rx;obtain⟨t',rfl⟩:=ry;obtain⟨j,h1,h2,h3,h4,h5⟩:=Mw he;have hl:z.cps.toList.length=z.length:=by simp[Str.length]
 rw[hl] at h1 h4 h5;have hn:=Ih;exact tail_any (typeIs_str s z t) slot_str_getitem.lookup (getItem_str (c:=c) (by
  have e1:decide (i < -(2 ^ 63:Int))=false:=QaP (by omega);have e2:decide (i ≥ 2 ^ 63)=false:=QaP (by omega);rw[e1,e2,Bool.or_false]) (by rw[h1];simpa using h2) ⟨.str ⟨#[c]⟩,H,I.tok _,⟨_,rq⟩,q⟩) hs
theorem RX (its:YE) (n j:Nat) (u:Value):Obj.mapSeq (·.setIfInBounds j u) { cls:=.type "list",data:=.seq its.toArray n }={ cls:=.type "list",data:=.seq (its.set j u).toArray n }:=by
 simp[Obj.mapSeq]
theorem Inv.lst {jb:YC} {U : St} {H:Hp} {s:Shared} {p:Addr} {xs:YG} (I:Inv X jb U H s) (h:H p=some (.lst xs)) :
  ∃(its:YE) (n:Nat),Vals xs its/\s.heap.get? p=some { cls:=.type "list",data:=.seq its.toArray n }/\xs.length<=sizeLine:=by
 obtain⟨z,its,n,r,e⟩:=I.hok p _ h;exact⟨its,n,r,e,z⟩
theorem Inv.Y6 {jb:YC} {U : St} {H:Hp} {s:Shared} {p:Addr} {xs ys:YG} {its its':YE} {n n':Nat} {f:Obj->Obj} (I:Inv X jb U H s) (h:H p=some (.lst xs))
  (ho:s.heap.get? p=some { cls:=.type "list",data:=.seq its.toArray n }) (hf:f { cls:=.type "list",data:=.seq its.toArray n }={ cls:=.type "list",data:=.seq its'.toArray n' }) (r:Vals ys its') (hz:ys.length<=sizeLine) (t:Nat) :
  Inv X jb U (upd H p (.lst ys)) { s with heap:=s.heap.update p f,toks:=t }:=by
 have e:(s.heap.update p f).get? p=some { cls:=.type "list",data:=.seq its'.toArray n' }:=by
  rw[Heap.get?_update_self f ho (by rw[hf] <;> rfl),hf]
 refine I.write (x:=p) (e:=p) (by rw[h];trivial) (.inl rfl) (λb u hb q=>(Heap.get?_update_other _ _ (Ne.symm hb)).trans q) ⟨_,e⟩ ?_;exact⟨hz,its',n',r,e⟩
def Z6:V->V->V->Hp->(Hp->Prop)->Prop:=λo i v H Q=>∃p xs k j,o=.ref p/\i=.int k/\H p=some (.lst xs)/\ixN xs.length k=some j/\Q (upd H p (.lst (xs.set j v)))
theorem set_list:ZK X Z6:=by
 intro jb s U H o i v ov iv u Q I ro ri rv h;obtain⟨p,xs,k,j,rfl,rfl,hp,hj,q⟩:=h;cases ro;obtain⟨t,rfl⟩:=ri;obtain⟨its,n,r,ho,hz⟩:=I.lst hp;obtain⟨h1,h2,h3,h4⟩:=Rh hj;have hl:=r.length;have hn:=Ih;have I':Inv X jb U (upd H p (.lst (xs.set j v))) { s with heap:=s.heap.update p (Obj.mapSeq (·.setIfInBounds j u)) }:=
  I.Y6 hp ho (RX its n j u) (r.set rv j) (by rw[List.length_set];exact hz) s.toks
 by_cases h0:0<=k
 ·have hk:k.toNat=j:=by
   rw[seqIndex_of h0 h4] at h1;exact QaS h1
  exact PySem.W.ki_setAt ho h0 (by omega) (by rw[QaC,<-hl];exact h4) (by rw[hk];exact⟨_,I',q⟩)
 ·have hk:(k+(its.toArray.size:Int)).toNat=j:=by
   rw[seqIndex_neg (by omega) h3] at h1;rw[QaC,<-hl];exact QaS h1
  exact PySem.W.ki_setBack ho (by omega) (by rw[QaC,<-hl];exact h3) (by omega) (by rw[hk];exact⟨_,I',q⟩)
theorem Ov (lo hi:Option Int) (n:Nat):(sliceBounds lo hi none n).1=((HT.sIx n 0 lo:Nat):Int)/\(sliceBounds lo hi none n).2.1=((HT.sIx n n hi:Nat):Int)/\(sliceBounds lo hi none n).2.2=1:=by
 refine⟨?_,?_,rq⟩
 ·cases lo with
  | none=>simp[sliceBounds,HT.sIx]
  | some i=>
   simp only[sliceBounds,HT.sIx,Option.getD_none,show (1:Int) > 0 by decide,if_true];by_cases h:i < 0
   ·simp only[h,if_true] <;> omega
   ·simp only[h,if_false] <;> omega
 ·cases hi with
  | none=>simp[sliceBounds,HT.sIx]
  | some i=>
   simp only[sliceBounds,HT.sIx,Option.getD_none,show (1:Int) > 0 by decide,if_true];by_cases h:i < 0
   ·simp only[h,if_true] <;> omega
   ·simp only[h,if_false] <;> omega
theorem Np (its:YE) (lo hi:Option Int):slicePick its.toArray lo hi none=((its.drop (HT.sIx its.length 0 lo)).take (HT.sIx its.length its.length hi - HT.sIx its.length 0 lo)).toArray:=by
 obtain⟨h1,h2,h3⟩:=Ov lo hi its.toArray.size;unfold slicePick;rw[h1,h2,h3];simp only[sliceRange_one,pick_run,QaC] <;> rfl
def aU (K:YD):V->Option Int->Option Int->Hp->VK->Prop:=λx lo hi H Q=>∃a xs,x=.ref a/\SqL K H a xs/\∀p,H p=none->Q (.ref p) (upd H p (.lst (Dy xs lo hi)))
theorem fQ:SlR X (aU X.K):=by
 intro jb s U H x v vl vu lo hi sl Q I rx hs pl pu h;obtain⟨a,xs,rfl,hx,q⟩:=h;cases rx;obtain⟨its,r,ht,hz⟩:=I.list hx;have hlen:=r.length;refine⟨"list",_,slot_list_getitem.lookup,ht.isList.typeIs,?_⟩;refine wpAny_getItem_list_slice ht.isList hs pl pu .none (by simp) ?_ (by rw[QaC] <;> omega);rw[Np,<-hlen];refine⟨.ref s.heap.objs.size,_,I.laid (t':=s.toks) (o:=.lst (Dy xs lo hi)) (λb ob q=>Qai _ q) (Qbm _) ?_,rq,q _ (I.hok.fresh (Qbm _))⟩;exact⟨Qbk (Gy xs lo hi) hz,_,0,(r.drop (HT.sIx xs.length 0 lo)).take (HT.sIx xs.length xs.length hi - HT.sIx xs.length 0 lo),Qao _ rfl⟩
def Gx:V->Bool
 | .non=>true
 | .bl _=>true
 | .int _=>true
 | .str _=>true
 | _=>false
def eqV:V->V->Bool
 | .non,.non=>true
 | .bl a,.bl b=>a == b
 | .bl a,.int b=>(if a then 1 else 0) == b
 | .int a,.bl b=>a == (if b then 1 else 0)
 | .int a,.int b=>a == b
 | .str a,.str b=>a == b
 | _,_=>false
theorem Zu {A:Around} {s:Shared} {y x:V} {u v:Value} (ry:RelV y u) (rx:RelV x v) (fy:Gx y=true) (fx:Gx x=true):SeqAt.EqAt A s u v (eqV y x):=by
 cases y with
 | non=>
  cases ry;cases x with
  | non=>cases rx;exact SeqAt.EqAt.same _
  | bl b=>cases rx;exact SeqAt.EqAt.none_bool b
  | int b=>obtain⟨t,rfl⟩:=rx;exact SeqAt.EqAt.none_int b t
  | str b=>obtain⟨t,rfl⟩:=rx;exact SeqAt.EqAt.none_str b t
  | _=>exact absurd (show false=true from fx) Qas
 | bl a=>
  cases ry;cases x with
  | non=>cases rx;exact SeqAt.EqAt.bool_none a
  | bl b=>cases rx;exact SeqAt.EqAt.bool_bool a b
  | int b=>obtain⟨t,rfl⟩:=rx;exact SeqAt.EqAt.bool_int a b t
  | str b=>obtain⟨t,rfl⟩:=rx;exact SeqAt.EqAt.bool_str a b t
  | _=>exact absurd (show false=true from fx) Qas
 | int a=>
  obtain⟨t',rfl⟩:=ry;cases x with
  | non=>cases rx;exact SeqAt.EqAt.int_none a t'
  | bl b=>cases rx;exact SeqAt.EqAt.int_bool a t' b
  | int b=>obtain⟨t,rfl⟩:=rx;exact SeqAt.EqAt.int_int a t' b t
  | str b=>obtain⟨t,rfl⟩:=rx;exact SeqAt.EqAt.int_str a t' b t
  | _=>exact absurd (show false=true from fx) Qas
 | str a=>
  obtain⟨t',rfl⟩:=ry;cases x with
  | non=>cases rx;exact SeqAt.EqAt.str_none a t'
  | bl b=>cases rx;exact SeqAt.EqAt.str_bool a t' b
  | int b=>obtain⟨t,rfl⟩:=rx;exact SeqAt.EqAt.str_int a t' b t
  | str b=>obtain⟨t,rfl⟩:=rx;exact SeqAt.EqAt.str_str a t' b t
  | _=>exact absurd (show false=true from fx) Qas
 | _=>exact absurd (show false=true from fy) Qas
def eqU (x:V) (u:Value):Bool:=match u with
 | .none=>eqV .non x
 | .bool b=>eqV (.bl b) x
 | .int i _=>eqV (.int i) x
 | .str z _=>eqV (.str z) x
 | _=>false
theorem Uz {x y:V} {u:Value} (r:RelV y u) (f:Gx y=true):eqU x u=eqV y x:=by
 cases y with
 | non=>cases r;rfl
 | bl b=>cases r;rfl
 | int i=>obtain⟨t,rfl⟩:=r;rfl
 | str z=>obtain⟨t,rfl⟩:=r;rfl
 | _=>exact absurd (show false=true from f) Qas
theorem Jf {x:V}:∀{xs:YG} {us:YE},Vals xs us->xs.all Gx=true->us.any (eqU x)=xs.any λy=>eqV y x
 | _,_,.nil,_=>rfl
 | y::xs,u::us,.cons r t,f=>by
  rw[List.all_cons,QaI] at f;rw[Qbf,Qbf,Uz r f.1,Jf t f.2]
theorem Ig {A:Around} {s:Shared} {x:V} {v:Value} (rx:RelV x v) (fx:Gx x=true):∀{xs:YG} {us:YE},Vals xs us->xs.all Gx=true->∀u∈us,SeqAt.EqAt A s u v (eqU x u)
 | _,_,.nil,_=>λu hu=>by cases hu
 | y::xs,u::us,.cons r t,f=>λu' hu=>by
  rw[List.all_cons,QaI] at f;rcases Qbe.mp hu with rfl | hu
  ·rw[Uz r f.1];exact Zu r rx f.1 fx
  ·exact Ig rx fx t f.2 u' hu
def inV (x:V) (xs:YG):Bool:=xs.any λy=>eqV y x
def rIn (K:YD) (neg:Bool):R2:=λx y H Q=>∃p xs,y=.ref p/\(SqL K H p xs\/SqT K H p xs)/\Gx x=true/\xs.all Gx=true/\Q (.bl (if neg then !inV x xs else inV x xs)) H
theorem M6:OpR X (compareOp .In) (rIn X.K false):=by
 intro jb s U H x y v u Q I rx ry h;obtain⟨p,xs,rfl,hq,fx,fs,q⟩:=h;cases ry;rcases hq with hq | hq
 ·obtain⟨its,r,pl,hz⟩:=I.list hq;refine SeqAt.in_listAt (eqU x) pl.isList (λw hw=>Ig rx fx r fs w (by simpa using hw)) ⟨.bl _,H,I,rq,?_⟩;rw[show its.toArray.any (eqU x)=its.any (eqU x) by simp,Jf r fs];exact q
 ·obtain⟨its,r,pl,hz⟩:=I.tuple hq;refine SeqAt.in_tupleAt (eqU x) pl (λw hw=>Ig rx fx r fs w (by simpa using hw)) ⟨.bl _,H,I,rq,?_⟩;rw[show its.toArray.any (eqU x)=its.any (eqU x) by simp,Jf r fs];exact q
theorem HW:OpR X (compareOp .NotIn) (rIn X.K true):=by
 intro jb s U H x y v u Q I rx ry h;obtain⟨p,xs,rfl,hq,fx,fs,q⟩:=h;cases ry;rcases hq with hq | hq
 ·obtain⟨its,r,pl,hz⟩:=I.list hq;refine SeqAt.notIn_listAt (eqU x) pl.isList (λw hw=>Ig rx fx r fs w (by simpa using hw)) ⟨.bl _,H,I,rq,?_⟩;rw[show its.toArray.any (eqU x)=its.any (eqU x) by simp,Jf r fs];exact q
 ·obtain⟨its,r,pl,hz⟩:=I.tuple hq;refine SeqAt.notIn_tupleAt (eqU x) pl (λw hw=>Ig rx fx r fs w (by simpa using hw)) ⟨.bl _,H,I,rq,?_⟩;rw[show its.toArray.any (eqU x)=its.any (eqU x) by simp,Jf r fs];exact q
theorem Bp:Dp X (.builtin "len") (λxs H Q=>∃p ys,xs=[.ref p]/\(SqL X.K H p ys\/SqT X.K H p ys)/\Q (.int ys.length) H):=by
 intro jb s U H xs us Q I r h;obtain⟨p,ys,rfl,hq,q⟩:=h;obtain⟨u,rfl,rx⟩:=vals1 r;cases rx;have hn:=Ih;rcases hq with hq | hq
 ·obtain⟨its,r',pl,hz⟩:=I.list hq;have hlen:=r'.length;exact Calls.call_len_list pl.isList (by simp only[QaC] <;> omega) ⟨.int ys.length,H,I.tok _,⟨s.toks+1,by rw[QaC,hlen]⟩,q⟩
 ·obtain⟨its,r',pl,hz⟩:=I.tuple hq;have hlen:=r'.length;exact len_tuple pl (by simp only[QaC] <;> omega) ⟨.int ys.length,H,I.tok _,⟨s.toks+1,by rw[QaC,hlen]⟩,q⟩
theorem Ii:Dp X (.builtin "len") (λxs H Q=>∃z,xs=[.str z]/\z.length<=sizeLine/\Q (.int z.length) H):=by
 intro jb s U H xs us Q I r h;obtain⟨z,rfl,hz,q⟩:=h;obtain⟨u,rfl,t,rfl⟩:=vals1 r;have hn:=Ih;exact len_str (by omega) ⟨.int z.length,H,I.tok _,⟨_,rq⟩,q⟩
theorem Dp.or {f:Value} {r r':YG->Hp->VK->Prop} (h:Dp X f r) (h':Dp X f r'):Dp X f (λxs H Q=>r xs H Q\/r' xs H Q):=by
 intro jb s U H xs us Q I rs q;rcases q with q | q
 ·exact h jb s U H xs us Q I rs q
 ·exact h' jb s U H xs us Q I rs q
theorem Qj:Dp X (.type "list") (λxs H Q=>∃p ys,xs=[.ref p]/\(SqL X.K H p ys\/SqT X.K H p ys)/\∀l,H l=none->Q (.ref l) (upd H l (.lst ys))):=by
 intro jb s U H xs us Q I r h;obtain⟨p,ys,rfl,hq,q⟩:=h;obtain⟨u,rfl,rx⟩:=vals1 r;cases rx;have fin:∀(its:YE),Vals ys its->ys.length<=sizeLine->∀(h':Heap) (c':Nat),(∀b o',s.heap.get? b=some o'->h'.get? b=some o') ->
   h'.get? s.heap.objs.size=some { cls:=.type "list",dict:=none,data:=.seq its.toArray c',slots:=#[] }->EP X jb U Q (.ref s.heap.objs.size) { s with heap:=h' }:=λits r' hz h' c' kp e=>
  ⟨.ref s.heap.objs.size,_,I.laid (t':=s.toks) kp (Qbm _) (show Bu X.prog X.w _ h' _ (.lst ys) from⟨hz,its,c',r',e⟩),rq,q _ (I.hok.fresh (Qbm _))⟩
 rcases hq with hq | hq
 ·obtain⟨its,r',pl,hz⟩:=I.list hq;have hlen:=r'.length;obtain⟨o,ho,hc,n,hd⟩:=pl.isList;exact call_list_seq p (.inl rfl) ho hc hd (λh' c' kp e=>fin its r' hz h' c' kp e) (by simp only[QaC] <;> omega)
 ·obtain⟨its,r',pl,hz⟩:=I.tuple hq;have hlen:=r'.length;obtain⟨o,ho,hc,n,hd⟩:=pl;exact call_list_seq p (.inr rfl) ho hc hd (λh' c' kp e=>fin its r' hz h' c' kp e) (by simp only[QaC] <;> omega)
theorem N5:Dp X (.type "tuple") (λxs H Q=>∃p ys,xs=[.ref p]/\((SqL X.K H p ys/\∀l,H l=none->Q (.ref l) (upd H l (.tup ys)))\/(SqT X.K H p ys/\Q (.ref p) H))):=by
 intro jb s U H xs us Q I r h;obtain⟨p,ys,rfl,h⟩:=h;obtain⟨u,rfl,rx⟩:=vals1 r;cases rx;rcases h with⟨hq,q⟩|⟨hq,q⟩
 ·obtain⟨its,r',pl,hz⟩:=I.list hq;have hlen:=r'.length;refine call_tuple_list pl.isList (λh' kp=>?_) (by simp only[QaC] <;> omega);have I1:Inv X jb U H { s with heap:=h' }:=I.kept (t':=s.toks) kp;have I2:Inv X jb U (upd H h'.objs.size (.tup ys)) { s with heap:=h'.push { cls:=.type "tuple",data:=.seq its.toArray } }:=
   I1.laid (t':=s.toks) (λb o e=>Qai _ e) (Qbm _) (show Bu X.prog X.w _ _ _ (.tup ys) from⟨hz,its,r',IsTup.new _ _⟩)
  exact⟨.ref h'.objs.size,_,I2,rq,q _ (I1.hok.fresh (Qbm _))⟩
 ·obtain⟨its,r',pl,hz⟩:=I.tuple hq;exact call_tuple_same pl ⟨.ref p,H,I,rq,q⟩
def tyV (K:YD) (T:String) (x:V) (H:Hp):Prop:=match x with
 | .str _=>T="str"
 | .int _=>T="int"
 | .ref p=>(T="list"/\∃xs,SqL K H p xs)\/(T="tuple"/\∃o,K.lookup p=some o/\o.cls=.type "tuple"/\o.dict=none) \/
   (T="dict"/\((∃kvs,H p=some (.dK kvs))\/∃kvs,H p=some (.dT kvs)))\/(T="set"/\∃S n,H p=some (.set S n))
 | _=>False
theorem Ti {jb:YC} {U : St} {H:Hp} {s:Shared} {T:String} {x:V} {v:Value} (I:Inv X jb U H s) (r:RelV x v) (ty:tyV X.K T x H) :
  s.TypeIs v T/\∀a,v=.ref a->∃ob,s.heap.get? a=some ob/\ob.dict=none:=by
 cases x with
 | str z=>
  obtain⟨t,rfl⟩:=r;cases (show T="str" from ty)
  exact⟨typeIs_str s z t,λ_ e=>nomatch e⟩
 | int i=>
  obtain⟨t,rfl⟩:=r;cases (show T="int" from ty)
  exact⟨typeIs_int s i t,λ_ e=>nomatch e⟩
 | ref p=>
  cases r;rcases ty with⟨rfl,xs,hq⟩|⟨rfl,o,hk,hc,hd⟩|⟨rfl,hk⟩|⟨rfl,S,n,hk⟩
  ·obtain⟨its,_,pl,_⟩:=I.list hq;refine⟨pl.isList.typeIs,λa e=>?_⟩;cases e;obtain⟨o,n,e,c,hd,_⟩:=pl;exact⟨o,e,hd⟩
  ·refine⟨⟨o,I.kIn p o hk,hc⟩,λa e=>?_⟩;cases e;exact⟨o,I.kIn _ o hk,hd⟩
  ·have z:∃o,s.heap.get? p=some o/\o.ExactDict:=by
    rcases hk with⟨kvs,hk⟩|⟨kvs,hk⟩
    ·obtain⟨_,_,_,_,o,_,_,e,ex,_⟩:=I.hok p _ hk;exact⟨o,e,ex⟩
    ·obtain⟨_,_,_,_,o,_,_,e,ex,_⟩:=I.hok p _ hk;exact⟨o,e,ex⟩
   obtain⟨o,e,ex⟩:=z;refine⟨⟨o,e,ex.1⟩,λa e2=>?_⟩;cases e2;exact⟨o,e,ex.2.1⟩
  ·obtain⟨o,_,_,_,e,ex,_⟩:=I.hok p _ hk;refine⟨⟨o,e,ex.1⟩,λa e2=>?_⟩;cases e2;exact⟨o,e,ex.2.1⟩
 | _=>exact False.elim ty
def aO (K:YD) (T:String) (r:V->YG->Hp->VK->Prop) (to:TE):TE:=fun U H Q=>to U H λx H1=>tyV K T x H1/\r x [] H1 Q
def tBM (K:YD) (T:String) (r:V->YG->Hp->VK->Prop) (to:TE) (t:TA):TE:=fun U H Q=>to U H λx H1=>tyV K T x H1/\t U H1 λxs H2=>r x xs H2 Q
variable {o e:Expr} {es:YJ} {to:TE} {t:TA} {name:Str} {apos cpos:Pos} {T id:String} {r:V->YG->Hp->VK->Prop}
theorem YS (pa:PlainAttrs T) (slot:Slot T name id) (hty:typeOf (.builtin id)=pure (.type "method_descriptor")) (hm:MtR X id r) (ho:PE X o to)
  (hbase:attributeBase o name X.env (eval o X.env)=eval o X.env:=by rfl) (hline:(apos.endLine == cpos.line)=true:=by rfl):PE X (.Call (.Attribute o name apos) [] [] cpos) (aO X.K T r to):=by
 intro jb s U H Q I h;refine wpAny_Call_method0_late hbase hline (thn (ho jb s U H _ I h) λv s1 zz=>?_);obtain⟨x,H1,I1,r1,ty,q1⟩:=zz;obtain⟨h1,h2⟩:=Ti I1 r1 ty;exact⟨T,id,pa,slot,hty,h1,h2,Calls.callWith_builtin rfl (PySem.evalArgs_none (hm jb s1 U H1 x [] v [] Q I1 r1 .nil q1))⟩
theorem Oc (pa:PlainAttrs T) (slot:Slot T name id) (hty:typeOf (.builtin id)=pure (.type "method_descriptor")) (hm:MtR X id r) (ho:PE X o to) (ha:PA X (e::es) t)
  (hbase:attributeBase o name X.env (eval o X.env)=eval o X.env:=by rfl)
  (hfew:((backTo cpos (starEach (e::es) X.env)).all (λx=>!x.1)&&(backToKw cpos (keywordEach [] X.env)).all (λx=>x.1.isSome)
  &&decide ((e::es).length+([]:List Keyword).length+(if ([]:List Keyword).isEmpty then 0 else 1) < 30))=true:=by rfl)
  (hline:(apos.endLine == cpos.line)=true:=by rfl) (hs:starEach (e::es) X.env=(false,eval e X.env)::starEach es X.env:=by rfl) (hplain:(backTo cpos (starEach es X.env)).any (·.1)=false:=by rfl) :
  PE X (.Call (.Attribute o name apos) (e::es) [] cpos) (tBM X.K T r to t):=by
 intro jb s U H Q I h;refine wpAny_Call_method_late hbase hfew hline rfl (thn (ho jb s U H _ I h) λv s1 zz=>?_);obtain⟨x,H1,I1,r1,ty,q1⟩:=zz;obtain⟨h1,h2⟩:=Ti I1 r1 ty;refine⟨T,id,pa,slot,hty,h1,h2,?_⟩;have hA:=ha cpos jb s1 U H1 _ I1 q1;rw[hs] at hA ⊢;refine Calls.callWith_builtin (by show (false || (backTo cpos (starEach es X.env)).any (·.1))=false;rw[hplain] <;> rfl) (Calls.evalArgs_plain ?_);refine thn hA λus s2 zz=>?_;obtain⟨vs,H2,I2,r2,q2⟩:=zz;exact hm jb s2 U H2 x vs v us Q I2 r1 r2 q2
end
def MtM (X:Cx) (id:String) (r:V->YG->Hp->VK->Prop):Prop:=
 ∀(jb:YC) (s:Shared) (U : St) (H:Hp) (x:V) (xs:YG) (v:Value) (us:YE) (Q:VK),Inv X jb U H s->RelV x v->Vals xs us->r x xs H Q ->
  wpAny (model X.prog X.w) X.A (call (.builtin id) (v::us)) (EP X jb U Q) X.xe s
theorem Vals.one:∀{x:V} {us:YE},Vals [x] us->∃u,us=[u]/\RelV x u
 | _,_,.cons r .nil=>⟨_,rfl,r⟩
theorem Vals.zero:∀{us:YE},Vals [] us->us=[]
 | _,.nil=>rfl
theorem Vals.reverse {xs:YG} {us:YE} (h:Vals xs us):Vals xs.reverse us.reverse:=by
 induction h with
 | nil=>exact .nil
 | cons r t ih=>rw[List.reverse_cons,List.reverse_cons];exact Vals.append ih (.cons r .nil)
theorem Vals.rep {xs:YG} {us:YE} (h:Vals xs us):∀k:Nat,Vals (List.replicate k xs).flatten (List.replicate k us).flatten
 | 0=>.nil
 | k+1=>by
  rw[List.replicate_succ,List.replicate_succ,List.flatten_cons,List.flatten_cons];exact Vals.append h (Vals.rep h k)
section
variable {X:Cx} {jb:YC} {U : St} {H:Hp} {s:Shared} {l b:Addr} {xs ys zs:YG}
theorem Inv.bh {its its':YE} {n:Nat} {f:Array Value->Array Value} {t':Nat} (I:Inv X jb U H s) (hH:H l=some (.lst xs))
  (e:s.heap.get? l=some { cls:=.type "list",data:=.seq its.toArray n }) (hf:f its.toArray=its'.toArray) (hv:Vals ys its') (hz:ys.length<=sizeLine) :
  Inv X jb U (upd H l (.lst ys)) { s with heap:=s.heap.update l (Obj.mapSeq f),toks:=t' }:=by
 have q:=PySem.IsL.update e f;rw[hf] at q;refine I.write (x:=l) (e:=l) (by rw[hH];exact trivial) (.inl rfl) (λb' u hb hu=>(Heap.get?_update_other s.heap (Obj.mapSeq f) (Ne.symm hb)).trans hu) ⟨_,q⟩ ?_;exact⟨hz,its',_,hv,q⟩
theorem Inv.fresh (I:Inv X jb U H s):H s.heap.objs.size=none:=I.hok.fresh (Qbm _)
theorem Inv.bf (I:Inv X jb U H s) (hH:H l=some (.lst xs)):xs.length<=sizeLine/\∃(its:YE) (n:Nat),Vals xs its/\xs.length=its.length/\s.heap.get? l=some { cls:=.type "list",data:=.seq its.toArray n }:=by
 obtain⟨z,its,n,r,e⟩:=I.hok l _ hH;exact⟨z,its,n,r,r.length,e⟩
end
section
variable {X:Cx}
def Xb:V->YG->Hp->VK->Prop:=λx vs H Q=>∃l xs y,x=.ref l/\vs=[y]/\H l=some (.lst xs)/\xs.length < sizeLine/\Q .non (upd H l (.lst (xs++[y])))
theorem Hg:MtM X "list.append" Xb:=by
 intro jb s U H x vs v us Q I rx rv h;obtain⟨l,xs,y,rfl,rfl,hH,hz,q⟩:=h;cases rx;obtain⟨u,rfl,ru⟩:=rv.one;obtain⟨z,its,n,r,hl,e⟩:=I.bf hH;refine call_meets F.slot_list_append ⟨_,e,rq⟩ F.entry_list_append (F.args_list_append_2 _ _) (PySem.list_append l its.toArray n u (by rw[QaC];omega)) ⟨e,?_⟩;refine⟨.non,_,I.bh (its':=its++[u]) hH e (by simp) (r.append (.cons ru .nil)) ?_,rq,q⟩;rw[Qaw,List.length_singleton];omega
end
section
variable {prog:Program} {w:World} {A:Around} {E:YA} {s:Shared}
set_option maxRecDepth 100000 in
end
section
variable {X:Cx}
end
end L2
namespace Att
open PySem PySem.W PySem.Calls PyProof.Rows
theorem Lp {P:Params} {h:Heap}:∀(ns:List Int) (vs:YE),WellAll P h vs (ns.map WData.int)->IntsAre vs ns:=by
 intro ns
 induction ns with
 | nil=>
  intro vs w;rw[List.map_nil] at w;cases w;exact .nil
 | cons n ns ih=>
  intro vs w;rw[Qbd] at w;cases w with
  | cons a b=>
   cases a;exact .cons _ _ (ih _ b)
theorem TQ {l:OpenLaw} {n:Nat} (hn:l.most=some n) {P:Params} {h:Heap} {args:List WData} {vals:YE}
  (hpre:l.row.toRowW.claim.pre args=true) (hwl:WellAll P h vals args) :
  ∃a vs ns,vals=[Value.ref a]/\args=[WData.list (ns.map WData.int)]/\h.get? a=some { cls:=.type "list",data:=.seq vs.toArray }/\IntsAre vs ns/\ns.length<=n:=by
 have hsh:WShape.hasAll [] args [.list .int]=true:=(pre_splitW hpre).1;have hc:l.pre.holds [] { args:=args }=true:=(pre_splitW hpre).2;obtain⟨d,r,rfl,h1,h2⟩:=hasAllW_cons hsh;obtain rfl:=hasAllW_nil h2;obtain⟨xs,rfl,h3⟩:=hasW_list h1;obtain⟨ns,rfl⟩:=items_int h3;have hlen:ns.length<=n:=by
  unfold OpenLaw.pre at hc;have h4:(WTm.not (.lt (.lit (.int (n:Int))) (.len (.arg 0)))).holds [] { args:=[.list (ns.map .int)] }=true:=by
   have h4:=(holds_andW hc).1;rw[hn] at h4;exact h4
  have h5:=condW_of h4 (w_not (w_lt w_lit (w_len_list (w_arg rfl))));rw[QaQ] at h5;refine Nat.le_of_not_lt λq=>?_;have q':(n:Int) < ((ns.length:Nat):Int):=by omega
  first
   | (rw[Qba q'] at h5;exact absurd h5 (by decide))
   | (simp at h5;omega)
 cases hwl with
 | cons w1 w2=>
  cases w2;cases w1 with
  | list ho hall=>exact⟨_,_,ns,rfl,rfl,ho,Lp ns _ hall,hlen⟩
theorem T5 (l:OpenLaw) (args:List WData):l.row.toRowW.claim.post args (.bool true) args=true:=
 postW_of (r:=l.row.toRowW) (X:=(true == true))
  (show WShape.has [] (.bool true) .bool=true by first | rfl | decide | simp[WShape.has,WShape.arms,WShape.armsAll])
  (show (WTm.eq .res (.lit (.bool true))).value [] { args:=args,res:=some (.bool true),after:=args }=some (.bool (true == true)) from w_eq_bool (w_res rfl) w_lit) rfl
theorem QJ {l:OpenLaw} {n:Nat} {q:Program} {loose:YF} {XP:(YB)->Heap->Prop} {YP:World->Heap->Prop} {d:DefRec}
  (hn:l.most=some n) (hdf:d.params.defaults=[])
  (call:∀(w:World) (s₀ s₁ : Shared) (mg mb:YB) (fa:Addr) (o:Obj) (pm cd doc:Value) (a:Addr) (vs:YE) (ns:List Int),
   Ground q loose [] XP w s₀ mg mb s₁.heap->YP w s₁.heap ->
   s₁.heap.get? fa=some o->o.data=.func (docDef d.name d.params d.body d.scope pm cd doc)->s₁.heap.CodeRec cd d.name->mg d.name=some (.ref fa) ->
   s₁.heap.get? a=some { cls:=.type "list",data:=.seq vs.toArray }->IntsAre vs ns->ns.length<=n->s₁.gens=#[] ->
   codeAny (model l.prog w) callerA (.call (.ref fa) ⟨[.ref a],[]⟩) (λr s'=>r=.ok (.ret (.bool true))/\OldK s₁.heap s'.heap/\s'.os=s₁.os/\AllBare s'.gens) s₁) :
  WalkO q loose XP YP l.row.toRowW d [] (λf vs=>PySem.call f vs):=by
 intro w s₀ s₁ mg mb G Y fa o pm cd doc dV kV ho hd hcd hD hmg hg args vals as hpre hlay hrd hwl hlo;obtain rfl:dV=.none:=Dflts.none hD hdf;obtain rfl:kV=.none:=Dflts.noKw hD;obtain⟨a,vs,ns,rfl,rfl,hobj,hints,hlen⟩:=TQ hn hpre hwl;refine enter_call (codeAny_mono (call w s₀ s₁ mg mb fa o pm cd doc a vs ns G Y ho (fd_plain hd) hcd hmg hobj hints hlen hg) λr s' hq=>?_);obtain⟨rfl,h2,h3,h4⟩:=hq;exact⟨.inl ⟨.bool true,.bool true,[],rq,λ_=>rfl,.bool true,T5 l _,λ_=>⟨List.Pairwise.nil,λ_ hm=>(nomatch hm)⟩⟩,h2,h3,h4⟩
section
variable {prog:Program} {w:World} {A:Around} {E:YA} {s:Shared} {K:Frag}
end
end Att
namespace L2
open PySem PySem.Spec PyProof.Rows
theorem MK:∀{vs:YE} {ns:List Int},IntsAre vs ns->Vals (ns.map V.int) vs
 | _,_,.nil=>.nil
 | _,_,.cons n t h=>.cons ⟨t,rfl⟩ (MK h)
def Only (H:Hp):Prop:=∀b,H b=none\/∃o xs,H b=some (.frz o (.lst xs))
theorem VL {P:Program} {w:World} {K:YD} {mg mb:YB} {CX:CXT} {k:Nat} {fa a:Addr} {fd:FuncData} {x:Str} {sp:Sp} {s₁ : Shared} {vs:YE} {ns:List Int}
  (KX:K.In s₁.heap) (hns:s₁.heap.Ns mainGlobals mg) (hb:s₁.heap.Ns builtinsNs mb) (hbb:∀x:Str,x≠"__name__"->mb x=bootBuiltins x) (hlim:s₁.heap.NoLimit) (hg:s₁.gens=#[])
  (ha:s₁.heap.get? a=some { cls:=.type "list",data:=.seq vs.toArray }) (hi:IntsAre vs ns) (hl:ns.length<=sizeLine) (hr:CN k callerA)
  (F:∀base:Heap,K.In base->base.Ns mainGlobals mg->Eu P w K mg base CX k fa fd [x] sp) (hbind:∀(s:Shared) (u:Value),BindsTo s fd ⟨[u],[]⟩ [(x,u)])
  (hsp:∀H:Hp,Only H->SqL K H a (ns.map V.int)->sp [.ref a] H (λv _=>v=.bl true) λ_ _ _=>False)
  (hCX:∀H e s',CX [] H s₁ (λ_ _ _=>False) e s'->False) :
  codeAny (model P w) callerA (.call (.ref fa) ⟨[.ref a],[]⟩) (λr s'=>r=.ok (.ret (.bool true))/\OldK s₁.heap s'.heap/\s'.os=s₁.os/\AllBare s'.gens) s₁:=by
 have rv:=MK hi;have lenV:=hi.length;have core:∀H:Hp,Only H->SqL K H a (ns.map V.int)->HOk P w H s₁.heap->(∀b,H b≠none->b=a)->(H a≠none->K.lookup a=none) ->
   codeAny (model P w) callerA (.call (.ref fa) ⟨[.ref a],[]⟩) (λr s'=>r=.ok (.ret (.bool true))/\OldK s₁.heap s'.heap/\s'.os=s₁.os/\AllBare s'.gens) s₁:=by
  intro H hO hS hok hA hK;have Rt:∀{b:Addr} {o:Obj},s₁.heap.get? b=some o->H b=none->(Jt s₁.heap H).get? b=some o:=λe n=>VP e n;have noA:∀{b:Addr} {o:Obj} {es:Array DictEntry} {ep:Nat},s₁.heap.get? b=some o->o.data=.dict es ep->H b=none:=λ{b o es ep} e d=>by
   cases q:H b with
   | none=>rfl
   | some u=>
    have e':b=a:=hA b (by rw[q];simp);subst e';rw[ha] at e;cases e;have d':Data.seq vs.toArray _=Data.dict es ep:=d;cases d'
  have nsK:∀{b:Addr} {m:YB},s₁.heap.Ns b m->(Jt s₁.heap H).Ns b m:=λ{b m} ⟨o,es,ep,e,d,r⟩=>⟨o,es,ep,Rt e (noA e d),d,r⟩;have hKb:K.In (Jt s₁.heap H):=λb o e=>Rt (KX b o e) (by
   cases q:H b with
   | none=>rfl
   | some u=>
    have e':b=a:=hA b (by rw[q];simp);subst e';rw[hK (by rw[q];simp)] at e;cases e)
  have hM:Mod K mg (Jt s₁.heap H):=⟨hKb,nsK hns,⟨mb,nsK hb,hbb⟩,let ⟨mc,h1,h2⟩:=hlim;⟨mc,nsK h1,h2⟩⟩;have e0:K7 P w K mg (Jt s₁.heap H) callerA [] s₁ H:=⟨rq,hM,λb o e=>Xu e,Nat.le_of_eq (Ut _ _),trivial,λb hb=>absurd (show b∈([]:List Addr) from hb) (by simp),hok,.of_eq hg⟩
  refine codeAny_mono ((F _ hKb (nsK hns)).run callerA [] s₁ H ⟨[.ref a],[]⟩ [.ref a] [.ref a] _ _ hr e0 (hbind s₁ (.ref a)) (.cons rfl .nil) (hsp H hO hS)) λr s' h=>?_;cases r with
  | error e=>exact (hCX H e s' h).elim
  | ok fl=>
   cases fl with
   | next=>exact False.elim h
   | brk=>exact False.elim h
   | cont=>exact False.elim h
   | ret u=>
    obtain⟨v,H',os,bare,un,hok',r',q⟩:=h;have q':v=.bl true:=q;subst q';obtain rfl:u=Value.bool true:=r';refine⟨rq,OldK.of_keep λb o e=>?_,os,bare⟩;cases q:H b with
    | none=>exact un.keep b o e q (by intro z;exact absurd (show b∈([]:List Addr) from z) (by simp)) (by simp)
    | some u=>
     rcases hO b with z |⟨ob,xs,z⟩
     ·rw[q] at z;cases z
     ·have z2:=un.Fi b ob _ z;obtain⟨e1,_⟩:=hok b _ z;obtain⟨e2,_⟩:=hok' b _ z2;rw[e] at e1;cases e1;exact e2
 cases hk:K.lookup a with
 | some o=>
  have e:=KX a o hk;rw[ha] at e;cases e;refine core (λ_=>none) (λ_=>.inl rfl) (.inr ⟨_,vs.toArray,_,hk,rq,rq,rq,by rw[QaC,lenV];exact hl,by simpa using rv⟩) (λb u z=>by have z':(none:Option HO)=some u:=z;cases z') (λb z=>absurd rfl z) λz=>absurd rfl z
 | none=>
  refine core (λb=>if b=a then some (.frz { cls:=.type "list",data:=.seq vs.toArray } (.lst (ns.map V.int))) else none) (λb=>?_) (.inl (.inr ⟨{ cls:=.type "list",data:=.seq vs.toArray },if_pos rfl⟩)) (λb u z=>?_) (λb z=>?_) λ_=>hk
  ·by_cases hb:b=a
   ·exact .inr ⟨_,_,if_pos hb⟩
   ·exact .inl (if_neg hb)
  ·by_cases hb:b=a
   ·have z':=(if_pos hb).symm.trans z;cases z';subst hb;exact⟨ha,by rw[QaQ];exact hl,vs,_,rv,ha⟩
   ·have z':=(if_neg hb).symm.trans z;cases z'
  ·by_cases hb:b=a
   ·exact hb
   ·exact absurd (if_neg hb) z
theorem W0 {l:PySem.W.OpenLaw} {n k:Nat} {q:Program} {loose:YF} {XP:(YB)->Heap->Prop} {YP:World->Heap->Prop} {d:DefRec} {K:Params->YD} {CX:World->CXT} {sp:World->Sp} {x:Str}
  (hn:l.most=some n) (hn2:n<=sizeLine) (hdf:d.params.defaults=[]) (hr:CN k callerA)
  (hY:∀(w:World) (h:Heap),YP w h->(K w.params).In h)
  (F:∀(w:World) (mg:YB) (fa:Addr) (h:Heap),(K w.params).In h->h.Ns mainGlobals mg->mg d.name=some (.ref fa) ->
   ∃fd:FuncData,(∀(s:Shared) (u:Value),BindsTo s fd ⟨[u],[]⟩ [(x,u)]) /\
    ∀base:Heap,(K w.params).In base->base.Ns mainGlobals mg->Eu l.prog w (K w.params) mg base (CX w) k fa fd [x] (sp w))
  (hsp:∀(w:World) (H:Hp) (a:Addr) (ns:List Int),ns.length<=n->Only H->SqL (K w.params) H a (ns.map V.int)->sp w [.ref a] H (λv _=>v=.bl true) λ_ _ _=>False)
  (hCX:∀(w:World) (H:Hp) (s:Shared) (e:Value) (s':Shared),CX w [] H s (λ_ _ _=>False) e s'->False) :
  PySem.W.WalkO q loose XP YP l.row.toRowW d [] (λf vs=>PySem.call f vs):=by
 refine Att.QJ hn hdf λw s₀ s₁ mg mb fa o pm cd doc a vs ns G Y ho hd hcd hmg hobj hints hlen hg=>?_;have KX:=hY w _ Y;obtain⟨fd,hb,hF⟩:=F w mg fa _ KX G.T.g hmg;exact VL KX G.T.g G.T.b G.T.builtins G.T.nolimit hg hobj hints (Qbk hlen hn2) hr hF hb (λH hO hS=>hsp w H a ns hlen hO hS) λH e s'=>hCX w H s₁ e s'
def DW (s:Stmt):Arguments:=match s with
 | .FunctionDef _ a _ _ _ _ _ _ _ _=>a
 | _=>{ posonlyargs:=[],args:=[],vararg:=none,kwonlyargs:=[],kw_defaults:=[],kwarg:=none,defaults:=[] }
def CT (s:Stmt):List Stmt:=match s with
 | .FunctionDef _ _ b _ _ _ _ _ _ _=>b
 | _=>[]
def Aj (s:Stmt):Scope:=match s with
 | .FunctionDef _ _ _ _ _ _ sc _ _ _=>sc
 | _=>{ kind:=.function,names:=[],isGenerator:=false,isCoroutine:=false }
abbrev CX0:CXT:=λ_ _ _ _ _ _=>False
abbrev E0:XK:=λ_ _ _=>False
theorem Z8 {X:Cx}:Passes CX0 X E0:=λ_ _ _ _ _ _ _ h=>h.elim
structure Fun (K:YD) (x qual:Str) (st:Stmt) (f:Addr) (fd:FuncData):Prop where
 ex:∃(oc:Value) (od:Option Addr) (kV doc pm:Value) (an:Option Addr) (cdv ct:Value) (osl:YI),
  fd=fnOf x qual (DW st) (CT st) (Aj st) .none kV doc pm an cdv ct/\K.lookup f=some ⟨oc,od,.func fd,osl⟩/\codeIn K cdv qual=true
 kp:keepIn K (.ref f)=true
section
variable {P:Program} {w:World} {K:YD} {mg:YB} {base:Heap}
theorem Fun.ok {x qual:Str} {st:Stmt} {f:Addr} {fd:FuncData} {N ps:YF} {k:Nat} {sp:Sp} (F:Fun K x qual st f fd) (S:Bm N ps (Aj st)) (len:∀vs H Q E,sp vs H Q E->vs.length=ps.length)
  (hbody:∀(cdv:Value) (A:Around) (outer:List Env) (s:Shared) (H:Hp) (vs:YG) (Q:VK) (E:XK),CN k (A.deeper (envOfC qual (Aj st) s.heap.objs.size f cdv))->sp vs H Q E ->
   ∃t,PSs (JV CX0 P w K mg base N qual (Aj st) f cdv A outer s H E).nox (CT st) t/\t { nx:=λ_ H'=>Q .non H',rt:=Q } (start N vs) H):Eu P w K mg base CX0 (k+1) f fd ps sp:=by
 obtain⟨oc,od,kV,doc,pm,an,cdv,ct,osl,rfl,lk,hcd⟩:=F.ex;refine aA lk hcd S len λA outer s H vs Q E hr hsp=>?_;obtain⟨t,h,q⟩:=hbody cdv A outer s H vs Q E hr hsp;exact⟨t,h.nox,q⟩
theorem Fun.binds {x qual:Str} {st:Stmt} {f:Addr} {fd:FuncData} {ps:YF} (F:Fun K x qual st f fd)
  (h:∀(kV doc pm:Value) (an:Option Addr) (cdv ct:Value) (us:YE),us.length=ps.length->bindArgs (fnOf x qual (DW st) (CT st) (Aj st) .none kV doc pm an cdv ct) ⟨us,[]⟩=pure (ps.zip us)):Binds K fd ps []:=by
 obtain⟨oc,od,kV,doc,pm,an,cdv,ct,osl,rfl,lk,hcd⟩:=F.ex;exact .all (h kV doc pm an cdv ct)
theorem Uy {x qual:Str} {st:Stmt} {f:Addr} {oc:Value} {od an:Option Addr} {osl:YI} {kV doc pm cdv ct:Value} (l:K.lookup f=some ⟨oc,od,.func (fnOf x qual (DW st) (CT st) (Aj st) .none kV doc pm an cdv ct),osl⟩)
  (c:codeIn K cdv qual=true) (k:keepIn K (.ref f)=true):Fun K x qual st f (fnOf x qual (DW st) (CT st) (Aj st) .none kV doc pm an cdv ct):=⟨⟨oc,od,kV,doc,pm,an,cdv,ct,osl,rq,l,c⟩,k⟩
end
theorem Kf {A:Around} {k:Nat} (hr:CN k A):A.units+1 < cLine:=Nat.lt_of_le_of_lt (Nat.add_le_add_left (by decide:1<=64) _) hr.units
theorem Ck {n:Nat} (h:n<=1000):n < sizeLine:=Nat.lt_of_le_of_lt h (by decide)
section
variable {X:Cx}
theorem pv (i:Nat) {x:Str} {pos:Pos} (hN:X.N[i]?=some x:=by rfl) (hv:Vis X.env.scope x:=by first | exact Or.inl rfl | exact Or.inr (Or.inl rfl) | exact Or.inr (Or.inr rfl)) (hd:(x == ("__debug__":Str))=false:=by decide)
  (hcd:(x == ("__classdict__":Str))=false:=by decide):PE X (.Name x pos) (Yj i):=YQ hN hv hd hcd
end
theorem Aw {A B:Prop} (h:B):if false=true then A else B:=by
 rw[if_neg Qas];exact h
theorem Bd {A B:Prop} (h:A):if true=true then A else B:=by
 rw[if_pos rfl];exact h
theorem Sd {c A B:Prop} [Decidable c] (h1:c->A) (h2:¬c->B):if c then A else B:=by
 by_cases h:c
 ·rw[if_pos h];exact h1 h
 ·rw[if_neg h];exact h2 h
theorem WR {c A B:Prop} [Decidable c] (hc:c) (h:B):if (!decide c)=true then A else B:=by
 rw[Qba hc];exact Aw h
def Same (H H':Hp):Prop:=∀b o,H b=some o->H' b=some o
theorem Same.refl (H:Hp):Same H H:=λ_ _ h=>h
theorem Same.trans {H H1 H2:Hp} (a:Same H H1) (b:Same H1 H2):Same H H2:=λc o h=>b c o (a c o h)
theorem Same.free {H H':Hp} (e:Same H H') {l:Addr} (h:H' l=Option.none):H l=Option.none:=by
 cases q:H l with
 | none=>rfl
 | some o=>
  rw[e l o q] at h;cases h
theorem Same.seq {K:YD} {H H':Hp} {a:Addr} {xs:YG} (e:Same H H') (h:SqL K H a xs):SqL K H' a xs:=by
 rcases h with (h |⟨o,h⟩) | h
 ·exact .inl (.inl (e _ _ h))
 ·exact .inl (.inr ⟨o,e _ _ h⟩)
 ·exact .inr h
def Dr (env:Env):List (Str×NameKind)->List (Str×Addr)->List (Str×Addr)
 | [],cs=>cs
 | (n,k)::r,cs=>Dr env r (if (k == .free)=true then (match env.cells.lookup n with | some c=>(n,c)::cs | none=>cs) else cs)
theorem Qf {env:Env}:∀(names:List (Str×NameKind)) (cs:List (Str×Addr)),(∀p∈names,p.2=.free->∃c,env.cells.lookup p.1=some c) ->
  (forIn names cs λ(p:Str×NameKind) (r:List (Str×Addr))=>(if (p.2 == .free)=true then do
    let c <-cellOf env p.1
    pure (ForInStep.yield ((p.1,c)::r))
   else pure (ForInStep.yield r):Sem (ForInStep (List (Str×Addr)))))=pure (Dr env names cs)
 | [],cs,_=>rfl
 | (n,k)::rest,cs,h=>by
  have ih:=λcs'=>Qf rest cs' λp hp=>h p (Qal _ hp);rw[List.forIn_cons];cases hk:(k == NameKind.free) with
  | true=>
   obtain⟨c,hc⟩:=h (n,k) Qav (eq_of_beq hk);have e1:cellOf env n=pure c:=by unfold cellOf;rw[hc]
   have e2:Dr env ((n,k)::rest) cs=Dr env rest ((n,c)::cs):=by simp only[Dr,hk,if_true,hc]
   rw[e2,<-ih];simp only[hk,if_true,e1,pure_bind]
  | false=>
   have e2:Dr env ((n,k)::rest) cs=Dr env rest cs:=by simp only[Dr,hk,Bool.false_eq_true,if_false]
   rw[e2,<-ih];simp only[hk,Bool.false_eq_true,if_false,pure_bind]
theorem Ls {env:Env} {scope:Scope} (h:∀p∈scope.names,p.2=.free->∃c,env.cells.lookup p.1=some c):closureFor scope env=pure (Dr env scope.names []):=by
 have e:=Qf (env:=env) scope.names [] h;unfold closureFor;simp only[bind_pure];exact e
theorem Qe {env:Env}:∀(names:List (Str×NameKind)) (cs:List (Str×Addr)),(∀x c,cs.lookup x=some c->env.cells.lookup x=some c) ->
  ∀x c,(Dr env names cs).lookup x=some c->env.cells.lookup x=some c
 | [],cs,h,x,c,e=>h x c e
 | (n,k)::rest,cs,h,x,c,e=>by
  refine Qe rest _ (λy d z=>?_) x c e;split at z
  ·split at z
   ·rename_i c' hc';rw[List.lookup_cons] at z;cases q:y == n with
    | true=>rw[q] at z;cases z;rw[eq_of_beq q];exact hc'
    | false=>rw[q] at z;exact h y d z
   ·exact h y d z
  ·exact h y d z
theorem KZ {env:Env}:∀(names:List (Str×NameKind)) (cs:List (Str×Addr)) (x:Str),((cs.lookup x).isSome=true\/((x,NameKind.free)∈names/\∃c,env.cells.lookup x=some c)) ->
  ∃c,(Dr env names cs).lookup x=some c
 | [],cs,x,h=>by
  rcases h with h |⟨h,_⟩
  ·exact Option.isSome_iff_exists.mp h
  ·cases h
 | (n,k)::rest,cs,x,h=>by
  refine KZ rest _ x ?_;have grow:(cs.lookup x).isSome=true->(List.lookup x (if (k == .free)=true then (match env.cells.lookup n with | some c=>(n,c)::cs | none=>cs) else cs)).isSome=true:=λz=>by
   split
   ·split
    ·rw[List.lookup_cons];cases x == n with
     | true=>rfl
     | false=>exact z
    ·exact z
   ·exact z
  rcases h with h |⟨h,c,hc⟩
  ·exact .inl (grow h)
  ·rcases Qbe.mp h with z | z
   ·cases z;refine .inl ?_;simp[hc,List.lookup_cons]
   ·exact .inr ⟨z,c,hc⟩
def HJ (env:Env) (n:Str) (k:NameKind):NameKind:=if (k == .free&&env.scope.kind == .function&&env.kindOf n == some .cell)=true then .cell else k
theorem Lh (env:Env):∀(l:List (Str×NameKind)) (x:Str),
  (l.map λ(n,k)=>if (k == NameKind.free&&env.scope.kind == .function&&env.kindOf n == some .cell) then (n,NameKind.cell) else (n,k)).lookup x=(l.lookup x).map (HJ env x)
 | [],_=>rfl
 | (n,k)::r,x=>by
  have ih:=Lh env r x;have e:(if (k == NameKind.free&&env.scope.kind == .function&&env.kindOf n == some .cell)=true then (n,NameKind.cell) else (n,k))=(n,HJ env n k):=by
   unfold HJ;split <;> rfl
  rw[Qbd];show List.lookup x ((if (k == NameKind.free&&env.scope.kind == .function&&env.kindOf n == some .cell)=true then (n,NameKind.cell) else (n,k))::_)=_
  rw[e,List.lookup_cons,List.lookup_cons];cases q:x == n with
  | true=>rw[eq_of_beq q];rfl
  | false=>exact ih
theorem Vq {env:Env} {n:Str} {k:NameKind} (h:HJ env n k=.cell\/HJ env n k=.free):k=.cell\/k=.free:=by
 unfold HJ at h;split at h
 ·rename_i q;simp only[QaI] at q;exact .inr (eq_of_beq q.1.1)
 ·exact h
theorem U4 {prog:Program} {w:World} {A:Around} {R:Result->Shared->Prop} {s:Shared} {elt target iter:Expr} {ifs:YJ} {scope:Scope} {pos:Pos} {it acc:Value} {env:Env} (J:Nat->Shared->Prop)
  (turn:∀n s,J n s->wpAny (model prog w) A (pyNext it) (λr s1=>match r with
   | none=>R (.ok .next) s1
   | some v=>wpAny (model prog w) A (letOwnedTupleGo target it v) (λ_ s2=>wpAny (model prog w) A (assign target env v) (λ_ s3=>
     wpAny (model prog w) A (forIn ifs true λc r=>if r=true then do let ok <-isTrue c env (eval c env);pure (ForInStep.yield ok) else pure (ForInStep.yield r)) (λok s4=>
      if ok=true then wpAny (model prog w) A (eval elt env) (λx s5=>wpAny (model prog w) A (call (.builtin "list.append") [acc,x]) (λ_ s6=>∃m,m < n/\J m s6) (λ_ _=>False) s5) (λ_ _=>False) s4
      else ∃m,m < n/\J m s4) (λ_ _=>False) s3) (λ_ _=>False) s2) (λ_ _=>False) s1) (λ_ _=>False) s)
  (n:Nat) (h:J n s):codeAny (model prog w) A (.compLoop (.ListComp elt [⟨target,iter,ifs,0⟩] scope pos) 0 it acc env) R s:=by
 refine codeAny_loop rfl J (λk s' hk=>?_) n h;show wpAny _ A (Sem.onRaise (compTurn (.ListComp elt [⟨target,iter,ifs,0⟩] scope pos) 0 it acc env) (λx=>do noteFrame x env;theTreesLotGoes x)) _ _ s'
 refine wpAny_noted ?_;rw[compTurn_list];refine Qbp (Qbh (Qbp (Qbr (turn k s' hk) (λr s1 q1=>?_) λ_ _ f=>f.elim)));cases r with
 | none=>exact Qbq q1
 | some v=>
  refine Qbp (Qbr q1 (λ_ s2 q2=>Qbp (Qbr q2 (λ_ s3 q3=>Qbp (Qbr q3 (λok s4 q4=>?_) λ_ _ f=>f.elim)) λ_ _ f=>f.elim)) λ_ _ f=>f.elim);cases ok with
  | false=>exact Qbq ⟨rfl,q4⟩
  | true=>exact Qbp (Qbp (Qbr q4 (λx s5 q5=>Qbp (Qbr q5 (λ_ s6 q6=>Qbq (Qbq ⟨rfl,q6⟩)) λ_ _ f=>f.elim)) λ_ _ f=>f.elim))
def cxC (X:Cx) (N':YF) (scope:Scope) (s3:Shared) (H3:Hp) (fp:List Addr) (pn:YC):Cx where
 prog:=X.prog
 w:=X.w
 K:=X.K
 mg:=X.mg
 base:=X.base
 A:=X.A
 N:=N'
 s₀:=s3
 H₀:=H3
 env:=compEnvC scope (Dr X.env scope.names []) s3.heap.objs.size X.env
 outer:=X.stack
 stack:=X.stack
 ex:=fp
 fn:=λ_=>false
 calm:=X.calm
 pn:=pn
 xe:=λ_ _=>False
structure Dc (X:Cx) (N':YF) (src:List (Option Nat)) (sc:Scope):Prop where
 kind:sc.kind=.function
 Gb:∀y∈sc.names,y.2≠.cell
 loc:∀y∈sc.names,y.2=.local->sc.names.lookup y.1=some .local
 fv:∀y∈sc.names,y.2=.free->X.env.kindOf y.1=some .cell\/X.env.kindOf y.1=some .free
 len:src.length=N'.length
 src:∀(i:Nat) (x:Str) (j:Nat),N'[i]?=some x->src[i]?=some (some j)->X.N[j]?=some x/\sc.names.lookup x=some .free
def Ho (src:List (Option Nat)) (U : St):St:=src.map λo=>match o with | none=>none | some j=>(U[j]?).join
def PF (X:Cx) (ifs:YJ) (t:TT):Prop:=
 ∀(jb:YC) (s:Shared) (U : St) (H:Hp) (Q:Bool->Hp->Prop),Inv X jb U H s->t U H Q ->
  wpAny (model X.prog X.w) X.A (forIn ifs true λc r=>if r=true then do let ok <-isTrue c X.env (eval c X.env);pure (ForInStep.yield ok) else pure (ForInStep.yield r)) (TP X jb U Q) X.xe s
theorem JM {X:Cx}:PF X [] (λ_ H Q=>Q true H):=λ_ _ _ H _ I h=>wpAny_tests_nil ⟨H,I,h⟩
theorem YK {X:Cx} {c:Expr} {t:TT} (hc:PT X c t):PF X [c] t:=λjb s U H Q I h=>wpAny_tests_one (hc jb s U H Q I h)
theorem Un.ahead {fs ex:List Addr} {H H':Hp} {h h1 h':Heap} (u:Un fs ex H H' h h1) (k:∀b o,b < h.objs.size->h1.get? b=some o->h'.get? b=some o):Un fs ex H H' h h' where
 keep:=λb o e n hb hx=>k b o (Qbj e) (u.keep b o e n hb hx)
 slot:=λb o e n hb hx=>by
  obtain⟨sl,q⟩:=u.slot b o e n hb hx;exact⟨sl,k b _ (Qbj e) q⟩
 free:=u.free
 there:=λb o e hx=>by
  obtain⟨o',q⟩:=u.there b o e hx;exact⟨o',k b _ (Qbj e) q⟩
 tups:=u.tups
 Fi:=u.Fi
 FJ:=u.FJ
section
variable {X:Cx} {N':YF} {src:List (Option Nat)} {sc:Scope} {jb:YC} {U : St} {H:Hp} {s3:Shared} {fp:List Addr} {h1:Heap} {tk:Nat}
theorem Qa (S:Dc X N' src sc) (I:Inv X jb U H s3) (hf:∀b∈fp,Ed X jb H b) (ht:∀b∈fp,b < s3.heap.objs.size)
  (ns:h1.Ns s3.heap.objs.size λ_=>none) (kp:∀b o,s3.heap.get? b=some o->h1.get? b=some o) :
  Inv (cxC X N' sc s3 H fp (X.pn++jb)) [] (Ho src U) H { s3 with heap:=h1,toks:=tk }:=by
 have hcl:∀x c,(Dr X.env sc.names []).lookup x=some c->X.env.cells.lookup x=some c:=Qe sc.names [] λx c e=>by cases e
 have old:∀x c,(Dr X.env sc.names []).lookup x=some c->∃o,s3.heap.get? c=some o:=λx c e=>by
  obtain⟨v,o,ho,_⟩:=I.cell x c (hcl x c e);exact⟨o,ho⟩
 have fvh:∀x,(x,NameKind.free)∈sc.names->∃c,X.env.cells.lookup x=some c:=λx hx=>I.ok.has x (S.fv _ hx rfl);have Yk:∀b,b≠X.env.locals->b∉X.fs->b∉frs X.stack:=λb h1 h2 hb=>(Qbe.mp (I.Om b hb)).elim h1 h2;have kindOf_eq:∀x,(compEnvC sc (Dr X.env sc.names []) s3.heap.objs.size X.env).kindOf x=(sc.names.lookup x).map (HJ X.env x):=λx=>Lh X.env sc.names x;refine⟨⟨I.ok.mod,S.kind,I.ok.glob,I.ok.blt,Qbm _,λx y c e1 e2=>I.ok.inj x y c (hcl x c e1) (hcl y c e2),λx hx=>?_,λx c hf=>absurd hf Qas,I.ok.hd,I.ok.frames,.inl rfl,λb hb=>?_,I.bs,Qbk I.ok.bsz I.sz,
  λb o e hb=>?_,λb hb=>?_,I.stack,I.QT⟩,rq,I.bare,Un.kept kp,⟨_,ns,λi x v e1 e2 e3=>?_⟩,λx c e=>?_,I.hok.fresh (Qbm _),λx c e=>I.Fd x c (hcl x c e),λp hp=>?_,I.hok.kept kp,?_⟩
 ·
  have hx':(sc.names.lookup x).map (HJ X.env x)=some .cell\/(sc.names.lookup x).map (HJ X.env x)=some .free:=by
   rw[<-kindOf_eq x];exact hx
  cases q:sc.names.lookup x with
  | none=>rw[q] at hx';rcases hx' with z | z <;> cases z
  | some k=>
   rw[q] at hx';have hk:k=.cell\/k=.free:=Vq (env:=X.env) (n:=x) (hx'.imp (λz=>QaS z) λz=>QaS z);have hm:=Qaq q;rcases hk with rfl | rfl
   ·exact absurd rfl (S.Gb _ hm)
   ·exact KZ sc.names [] x (.inr ⟨hm,fvh x hm⟩)
 ·
  obtain⟨f0,f1,f2,f3,f4,f5⟩:=hf b hb;exact⟨Qbl (ht b hb),λx c e=>f4 x c (hcl x c e)⟩
 ·
  obtain⟨f0,f1,f2,f3,f4,f5⟩:=hf b hb;rcases f3 with z | z
  ·exact I.ok.Mi b o e z
  ·exact absurd (Qat (Qbj e) (Qbk I.ok.bsz z)) (Qbg _)
 ·
  obtain⟨f0,f1,f2,f3,f4,f5⟩:=hf b hb;exact Yk b f1 f2
 ·
  have e2':(Ho src U)[i]?=some (some v):=e2;unfold Ho at e2';rw[QaG] at e2';cases q:src[i]? with
  | none=>rw[q] at e2';cases e2'
  | some oj=>
   rw[q] at e2';cases oj with
   | none=>cases e2'
   | some j=>
    have e4:(U[j]?).join=some v:=QaS e2';have e5:U[j]?=some (some v):=by
     cases r:U[j]? with
     | none=>rw[r] at e4;cases e4
     | some z=>rw[r] at e4;cases z with
      | none=>cases e4
      | some y=>cases e4;rfl
    obtain⟨hN,hfr⟩:=S.src i x j e1 q;have hm:=Qaq hfr;have kx:=S.fv _ hm rfl;obtain⟨m,hn,hl⟩:=I.loc;obtain⟨u,r,l⟩:=hl j x v hN e5 (.inr kx);refine⟨u,r,?_⟩;rcases l with⟨k1,_⟩|⟨_,c,hc,hcell⟩
    ·rcases kx with z | z <;> (rw[z] at k1;cases k1)
    ·obtain⟨c',hc'⟩:=KZ (env:=X.env) sc.names [] x (.inr ⟨hm,c,hc⟩);have e6:c'=c:=by
      have:=hcl x c' hc';rw[hc] at this;exact (QaS this).symm
     subst e6;refine .inr ⟨?_,c',hc',?_⟩
     ·have:(compEnvC sc (Dr X.env sc.names []) s3.heap.objs.size X.env).kindOf x=some (HJ X.env x .free):=by rw[kindOf_eq x,hfr];rfl
      show (compEnvC sc (Dr X.env sc.names []) s3.heap.objs.size X.env).kindOf x=some .cell\/(compEnvC sc (Dr X.env sc.names []) s3.heap.objs.size X.env).kindOf x=some .free;rw[this];unfold HJ;split
      ·exact .inl rfl
      ·exact .inr rfl
     ·obtain⟨o,ho,hd⟩:=hcell;exact⟨o,kp _ o ho,hd⟩
 ·
  obtain⟨v,o,ho,hd⟩:=I.cell x c (hcl x c e);exact⟨v,o,kp _ o ho,hd⟩
 ·
  have hp':p∈X.pn++jb:=(QaR.mp hp).elim id λz=>by cases z
  obtain⟨a1,a2,a3,a4,a5⟩:=I.pin p hp';exact⟨kp _ _ a1,a2,Qbl (Qbj a1),Yk p.1 a3 a4,a5⟩
 ·show (Ho src U).length=N'.length;unfold Ho;rw[QaQ];exact S.len
theorem UL {s1:Shared} {σ':St} {H':Hp} {h':Heap} (I:Inv X jb U H s3) (hf:∀b∈fp,Ed X jb H b) (I':Inv (cxC X N' sc s3 H fp (X.pn++jb)) [] σ' H' s1)
  (sb:Heap.SameBut s3.heap.objs.size s1.heap h'):Inv X jb U H' { s1 with heap:=h' }:=by
 have fr:H' s3.heap.objs.size=none:=I'.free;refine I.call' (s':={ s1 with heap:=h' }) (ch:=fp) I'.os ?_ ?_ I'.bare λb hb=>?_
 ·exact Un.ahead (h:=s3.heap) (h1:=s1.heap) I'.base λb o hb e=>sb.extBut b o (Qbl hb) e
 ·exact λb u e=>(I'.hok b u e).stay (λc v hc q=>sb.extBut c v (by
   intro z;rcases hc with y | y
   ·rw[<-y,z,fr] at e;cases e
   ·rw[z,fr] at y;cases y) q) (λ_ q=>q) λ_ _ q=>q
 ·obtain⟨f0,f1,f2,f3,f4,f5⟩:=hf b hb;exact⟨f3,f1,f4,λp hp=>f5 p hp⟩
end
@[irreducible] def Fe (J:It) (g:TG) (tt:TT) (te:TE) (Q:VK) (σ0:St) (H0:Hp) (l:Addr):Prop:=∃W:Nat->YN,(∃m,W 0 m σ0 H0) /\
 ∀i m σ' H',W i m σ' H'->(J.stop i H'/\Q (.ref l) H')\/(J.go i H'/\∃N:YO,(∀ σ3 H3,N σ3 H3->∃m',m' < m/\W (i+1) m' σ3 H3)/\∀x H2,J.yld i H' x H2->g x σ' H2 fun σ3 H3=>tt σ3 H3 λb H4=>
  if b=true then te σ3 H4 λy H5=>∃xs,H5 l=some (.lst xs)/\xs.length < sizeLine/\N σ3 (upd H5 l (.lst (xs++[y]))) else N σ3 H4)
def Wq (wi:TI) (src:List (Option Nat)) (g:TG) (tt:TT) (te:TE):TE:=fun U H Q=>wi U H λJ H1=>∀l,H1 l=none->Fe J g tt te Q (Ho src U) (upd H1 l (.lst [])) l
theorem U7 {X:Cx} {N':YF} {src:List (Option Nat)} {sc:Scope} {elt tg iter:Expr} {ifs:YJ} {pos pos':Pos} {wi:TI} {g:TG} {tt:TT} {te:TE} {use:Option (Value->Sem Unit)} {R:YA} (hc:X.calm=true) (S:Dc X N' src sc)
  (hi:PI X tg iter wi) (hg:∀s3 H3 fp pn,PG (cxC X N' sc s3 H3 fp pn) tg g) (ht:∀s3 H3 fp pn,PF (cxC X N' sc s3 H3 fp pn) ifs tt) (he:∀s3 H3 fp pn,PE (cxC X N' sc s3 H3 fp pn) elt te)
  (hs:∀x,foldedSetIterable iter X.env x=pure x) {jb:YC} {s:Shared} {U : St} {H:Hp} {Q:VK} (I:Inv X jb U H s) (h:Wq wi src g tt te U H Q)
  (fin:∀s3 H3 fp σ4 H4 s5 l,Inv X jb U H3 s3->(∀b∈fp,Ed X jb H3 b)->Inv (cxC X N' sc s3 H3 fp (X.pn++jb)) [] σ4 H4 s5->Q (.ref l) H4 ->
   compPost (model X.prog X.w) X.A X.xe use R (.ref l) s3.heap.objs.size (.ok .next) s5) :
  wpAny (model X.prog X.w) X.A (comprehension (.ListComp elt [⟨tg,iter,ifs,0⟩] sc pos) sc X.env pos' (newList []) false (eval iter X.env) use) R X.xe s:=by
 refine wpAny_comprehension_free (use:=use) (cl:=Dr X.env sc.names []) rfl hs (Ls λp hp e=>I.ok.has p.1 (S.fv p hp e)) S.kind S.loc ?_;refine thn (hi jb s U H _ I h) λv s1 h1=>thn h1 λitv s2 h2=>?_;obtain⟨it,fp,tn,J,H2,rfl,I2,T,st2,f2,q⟩:=h2;have q':=q s2.heap.objs.size (I2.hok.fresh (Qbm _));unfold Fe at q';obtain⟨W,⟨m0,w0⟩,turn⟩:=q';refine QaE (wpAny_newFunctionEnv S.Gb (by intro y hy;simp at hy) (λha hns hsb=>?_) S.kind);have I3:Inv X jb U (upd H2 s2.heap.objs.size (.lst [])) { s2 with heap:=s2.heap.push { cls:=.type "list",dict:=none,data:=.seq ([]:YE).toArray } }:=
  I2.laid (t':=s2.toks) (λb u e=>Qai _ e) (Qbm _) ⟨Qbn _,[],0,.nil,Qao _ rfl⟩
 have hfl:∀b∈fp,b < s2.heap.objs.size:=λb hb=>by
  obtain⟨o,e,_⟩:=T.obj 0 _ st2 b hb;exact Qbj e
 have f3:∀b∈fp,Ed X jb (upd H2 s2.heap.objs.size (.lst [])) b:=λb hb=>⟨by rw[Bo (Qbl (hfl b hb))];exact (f2 b hb).1,(f2 b hb).2⟩;generalize hs3:({ s2 with heap:=s2.heap.push { cls:=.type "list",dict:=none,data:=.seq ([]:YE).toArray } }:Shared)=s3 at *;have hsz:s2.heap.objs.size < s3.heap.objs.size:=by rw[<-hs3];show s2.heap.objs.size < (s2.heap.push _).objs.size;rw[Heap.size_push];exact Nat.lt_succ_self _
 have kp:∀b o,s3.heap.get? b=some o->ha.get? b=some o:=λb o e=>hsb.extBut b o (Qbl (Qbj e)) (Qai _ e);have st3:tn 0 ha:=T.keep 0 _ _ st2 λb hb o e=>kp b o (by rw[<-hs3];exact Qai _ e);have I4:Inv (cxC X N' sc s3 (upd H2 s2.heap.objs.size (.lst [])) fp (X.pn++jb)) [] (Ho src U) (upd H2 s2.heap.objs.size (.lst [])) { s3 with heap:=ha,toks:=s3.toks+([]:List (Str×Value)).length }:=
  Qa S I3 f3 (λb hb=>Nat.lt_trans (hfl b hb) hsz) hns kp
 have loop:codeAny (model X.prog X.w) X.A (.compLoop (.ListComp elt [⟨tg,iter,ifs,0⟩] sc pos) 0 (.ref it) (.ref s2.heap.objs.size) (compEnvC sc (Dr X.env sc.names []) s3.heap.objs.size X.env))
   (compPost (model X.prog X.w) X.A X.xe use R (.ref s2.heap.objs.size) s3.heap.objs.size) { s3 with heap:=ha,toks:=s3.toks+([]:List (Str×Value)).length }:=by
  refine U4 (λn s'=>∃i σ' H',Inv (cxC X N' sc s3 (upd H2 s2.heap.objs.size (.lst [])) fp (X.pn++jb)) [] σ' H' s'/\tn i s'.heap/\(∀b∈fp,H' b=none)/\W i n σ' H') ?_ m0 ⟨0,_,_,I4,st3,λb hb=>(f3 b hb).1,w0⟩;rintro n s4 ⟨i,σ4,H4,J4,st4,fr4,w4⟩;have stat:∀{H':Hp},(∀b∈fp,H' b=none)->∀b∈fp,Ed (cxC X N' sc s3 (upd H2 s2.heap.objs.size (.lst [])) fp (X.pn++jb)) [] H' b:=λhn b hb=>
   ⟨hn b hb,(I4.ok.exf b hb).1,I4.ok.KQ b hb,.inl hb,λx c e=>(I4.ok.exf b hb).2 x c e,λp hp=>(f3 b hb).2.2.2.2.2 p ((QaR.mp hp).elim id λz=>by cases z)⟩
  rcases turn i n σ4 H4 w4 with⟨stop,qn⟩|⟨go,N,hN,step⟩
  ·refine thn (T.done (cxC X N' sc s3 (upd H2 s2.heap.objs.size (.lst [])) fp (X.pn++jb)) rfl rfl rfl hc i [] s4 σ4 H4 _ J4 (stat fr4) st4 stop) λr s5 zz=>?_;obtain⟨hr,J5⟩:=zz;subst hr;exact fin s3 _ fp σ4 H4 s5 _ I3 f3 J5 qn
  ·refine thn (T.item (cxC X N' sc s3 (upd H2 s2.heap.objs.size (.lst [])) fp (X.pn++jb)) rfl rfl rfl hc i [] s4 σ4 H4 _ J4 (stat fr4) st4 go) λr s5 zz=>?_;obtain⟨u,hr,h5⟩:=zz;subst hr;refine thn h5 λ_ s6 zz=>?_;obtain⟨x,H6,J6,r6,y6,st6,fr6⟩:=zz;have J6':=J6.pinned (stat fr6) (T.obj _ _ st6);have back:∀{pl:YC} {σ7:St} {H7:Hp} {s7:Shared},Inv (cxC X N' sc s3 (upd H2 s2.heap.objs.size (.lst [])) fp (X.pn++jb)) ([]++HN fp s6.heap) σ7 H7 s7->N σ7 H7 ->
     ∃m',m' < n/\∃i σ' H',Inv (cxC X N' sc s3 (upd H2 s2.heap.objs.size (.lst [])) fp (X.pn++jb)) [] σ' H' s7/\tn i s7.heap/\(∀b∈fp,H' b=none)/\W i m' σ' H':=λ{pl σ7 H7 s7} J7 w7=>by
    obtain⟨m',hm,w7⟩:=hN _ _ w7;have pinned:∀b∈fp,∀o,s6.heap.get? b=some o->s7.heap.get? b=some o/\H7 b=none:=λb hb o e=>by
     have:=J7.pin (b,o) (Qaj _ (Qaj _ (Ew hb e)));exact⟨this.1,this.2.1⟩
    refine⟨m',hm,i+1,σ7,H7,J7.Fg,T.keep _ _ _ st6 λb hb o e=>(pinned b hb o e).1,λb hb=>?_,w7⟩;obtain⟨o,e,_⟩:=T.obj _ _ st6 b hb;exact (pinned b hb o e).2
   refine thn (hg s3 _ fp _ _ s6 σ4 H6 x u _ J6' r6 (step x H6 y6)) λ_ s7 zz=>?_;obtain⟨σ7,H7,J7,q7⟩:=zz;refine thn (ht s3 _ fp _ _ s7 σ7 H7 _ J7 q7) λok s8 zz=>?_;obtain⟨H8,J8,q8⟩:=zz;cases ok with
   | false=>
    rw[if_neg Qas] at q8 ⊢;exact back (pl:=[]) J8 q8
   | true=>
    rw[if_pos rfl] at q8 ⊢;refine thn (he s3 _ fp _ _ s8 σ7 H8 _ J8 q8) λy s9 zz=>?_;obtain⟨yv,H9,J9,r9,xs,hl9,hz9,q9⟩:=zz;refine thn (Hg _ s9 σ7 H9 (.ref s2.heap.objs.size) [yv] (.ref s2.heap.objs.size) [y] (λ_ H'=>N σ7 H') J9 rfl (.cons r9 .nil) ⟨_,xs,yv,rq,rq,hl9,hz9,q9⟩) λ_ s10 zz=>?_;obtain⟨_,H10,J10,_,q10⟩:=zz;exact back (pl:=[]) J10 q10
 exact codeAny_compStart_list loop (T.self X.A 0 _ _ _ st3 loop)
theorem Hv {X:Cx} {N':YF} {src:List (Option Nat)} {sc:Scope} {elt tg iter:Expr} {ifs:YJ} {pos:Pos} {wi:TI} {g:TG} {tt:TT} {te:TE} (hc:X.calm=true) (S:Dc X N' src sc)
  (hi:PI X tg iter wi) (hg:∀s3 H3 fp pn,PG (cxC X N' sc s3 H3 fp pn) tg g) (ht:∀s3 H3 fp pn,PF (cxC X N' sc s3 H3 fp pn) ifs tt) (he:∀s3 H3 fp pn,PE (cxC X N' sc s3 H3 fp pn) elt te)
  (hs:∀x,foldedSetIterable iter X.env x=pure x:=by intro _;rfl):PE X (.ListComp elt [⟨tg,iter,ifs,0⟩] sc pos) (Wq wi src g tt te):=by
 intro jb s U H Q I h;rw[eval_ListComp];refine U7 (use:=none) hc S hi hg ht he hs I h λs3 H3 fp σ4 H4 s5 l I3 f3 J5 q=>?_;obtain⟨m,hn,_⟩:=J5.loc;exact⟨m,hn,λh' sb=>⟨.ref l,H4,UL I3 f3 J5 sb,rq,q⟩⟩
theorem Dc.of {X:Cx} {N':YF} {src:List (Option Nat)} {sc:Scope} (fsc:Scope) (N:YF) (hX:X.env.scope=fsc) (hN:X.N=N) (kind:sc.kind=.function) (Gb:∀y∈sc.names,y.2≠.cell) (loc:∀y∈sc.names,y.2=.local->sc.names.lookup y.1=some .local)
  (fv:∀y∈sc.names,y.2=.free->fsc.names.lookup y.1=some .cell) (len:src.length=N'.length)
  (sr:((N'.zip src).all λp=>match p.2 with | none=>true | some j=>decide (N[j]?=some p.1)&&decide (sc.names.lookup p.1=some .free))=true):Dc X N' src sc where
 kind:=kind
 Gb:=Gb
 loc:=loc
 fv:=λy hy e=>.inl (by show X.env.scope.names.lookup y.1=some .cell;rw[hX];exact fv y hy e)
 len:=len
 src:=λi x j e1 e2=>by
  rw[QaM] at sr;have hm:(x,some j)∈N'.zip src:=by
   refine Qam (i:=i) ?_;rw[List.getElem?_zip_eq_some];exact⟨e1,e2⟩
  have:=sr _ hm;simp only[QaI,decide_eq_true_eq] at this;rw[hN];exact this
section
variable {X:Cx}
@[irreducible] def Iw (K:YD):YG->Hp->VK->Prop:=λxs H Q=>∃x T t b,xs=[x,.ty T]/\Gp K H x t/\kitOne K t (.type T)=some b/\Q (.bl b) H
theorem BW:Dp X (.builtin "isinstance") (Iw X.K):=by
 intro jb s U H xs us Q I r h;unfold Iw at h;obtain⟨x,T,t,b,rfl,ty,e,q⟩:=h;obtain⟨u,w',rfl,rx,rt⟩:=vals2 r;cases rt;exact Um I rx ty e λtk=>⟨.bl b,H,I.tok tk,rq,q⟩
theorem QF {K:YD}:kitOne K (.type "int") (.type "int")=some true:=by rfl
theorem Pq {K:YD}:kitOne K (.type "int") (.type "bool")=some false:=by rfl
theorem Pr {K:YD}:kitOne K (.type "bool") (.type "int")=some true:=by rfl
theorem NQ {K:YD}:kitOne K (.type "bool") (.type "bool")=some true:=by rfl
theorem Pk {K:YD}:kitOne K (.type "NoneType") (.type "int")=some false:=by rfl
theorem QD {K:YD}:kitOne K (.type "str") (.type "int")=some false:=by rfl
theorem Pn {K:YD}:kitOne K (.type "list") (.type "int")=some false:=by rfl
theorem Nz {K:YD}:kitOne K (.type "tuple") (.type "int")=some false:=by rfl
theorem Mq {K:YD}:kitOne K (.type "NoneType") (.type "tuple")=some false:=by rfl
theorem Ms {K:YD}:kitOne K (.type "bool") (.type "tuple")=some false:=by rfl
theorem NP {K:YD}:kitOne K (.type "int") (.type "tuple")=some false:=by rfl
theorem NK {K:YD}:kitOne K (.type "str") (.type "tuple")=some false:=by rfl
theorem Mr {K:YD}:kitOne K (.type "list") (.type "tuple")=some false:=by rfl
theorem Li {K:YD}:kitOne K (.type "tuple") (.type "tuple")=some true:=by rfl
def Kn (H:Hp):V->Prop
 | .non=>True
 | .bl _=>True
 | .int _=>True
 | .str _=>True
 | .ref a=>(∃xs,H a=some (.lst xs))\/∃xs,H a=some (.tup xs)
 | _=>False
def isI:V->Bool
 | .int _=>true
 | .bl _=>true
 | _=>false
def isB:V->Bool
 | .bl _=>true
 | _=>false
def isW:V->Bool
 | .int _=>true
 | _=>false
def Gs (H:Hp):V->Option (YG)
 | .ref a=>match H a with
  | some (.tup xs)=>some xs
  | _=>none
 | _=>none
theorem Hx {H:Hp} {a:Addr} {xs:YG} (h:H a=some (.tup xs)):Gs H (.ref a)=some xs:=by
 show (match H a with | some (.tup xs)=>some xs | _=>none)=some xs
 rw[h]
theorem GD {H:Hp} {a:Addr} {xs:YG} (h:H a=some (.lst xs)):Gs H (.ref a)=none:=by
 show (match H a with | some (.tup xs)=>some xs | _=>none)=none
 rw[h]
theorem VD {H:Hp} {v:V} {xs:YG} (h:Gs H v=some xs):∃a,v=.ref a/\H a=some (.tup xs):=by
 cases v with
 | ref a=>
  refine⟨a,rq,?_⟩;have h':(match H a with | some (.tup xs)=>some xs | _=>none)=some xs:=h
  split at h'
  ·rename_i e;cases h';exact e
  ·cases h'
 | _=>cases h
theorem Kn.same {H H':Hp} {v:V} (s:Same H H') (k:Kn H v):Kn H' v:=by
 cases v with
 | ref a=>exact k.imp (λ⟨xs,e⟩=>⟨xs,s _ _ e⟩) λ⟨xs,e⟩=>⟨xs,s _ _ e⟩
 | _=>exact k
theorem Hw {K:YD} {H:Hp} {x:V} {Q:VK} (k:Kn H x) (q:Q (.bl (isI x)) H):Iw K [x,.ty "int"] H Q:=by
 unfold Iw;cases x with
 | non=>exact⟨_,_,_,_,rfl,.non,Pk,q⟩
 | bl b=>exact⟨_,_,_,_,rfl,.bl b,Pr,q⟩
 | int i=>exact⟨_,_,_,_,rfl,.int i,QF,q⟩
 | str z=>exact⟨_,_,_,_,rfl,.str z,QD,q⟩
 | ref a=>
  rcases k with⟨xs,e⟩|⟨xs,e⟩
  ·exact⟨_,_,_,_,rq,.lst e,Pn,q⟩
  ·exact⟨_,_,_,_,rq,.tup e,Nz,q⟩
 | _=>exact k.elim
theorem KD {K:YD} {H:Hp} {x:V} {Q:VK} (k:isI x=true) (q:Q (.bl (isB x)) H):Iw K [x,.ty "bool"] H Q:=by
 unfold Iw;cases x with
 | bl b=>exact⟨_,_,_,_,rfl,.bl b,NQ,q⟩
 | int i=>exact⟨_,_,_,_,rfl,.int i,Pq,q⟩
 | _=>cases k
theorem Fx {K:YD} {H:Hp} {x:V} {Q:VK} (k:Kn H x) (q:Q (.bl (Gs H x).isSome) H):Iw K [x,.ty "tuple"] H Q:=by
 unfold Iw;cases x with
 | non=>exact⟨_,_,_,_,rfl,.non,Mq,q⟩
 | bl b=>exact⟨_,_,_,_,rfl,.bl b,Ms,q⟩
 | int i=>exact⟨_,_,_,_,rfl,.int i,NP,q⟩
 | str z=>exact⟨_,_,_,_,rfl,.str z,NK,q⟩
 | ref a=>
  rcases k with⟨xs,e⟩|⟨xs,e⟩
  ·rw[GD e] at q;exact⟨_,_,_,_,rq,.lst e,Mr,q⟩
  ·rw[Hx e] at q;exact⟨_,_,_,_,rq,.tup e,Li,q⟩
 | _=>exact k.elim
theorem Qm:∀{bs:List Bool} {us:YE},Vals (bs.map V.bl) us->LSm.BoolsAre us bs
 | [],_,.nil=>.nil
 | b::r,_,.cons h t=>by
  cases (show _=Value.bool b from h)
  exact .cons b (Qm t)
theorem K5 (hc:X.calm=true):Dp X (.builtin "all") (λxs H Q=>∃(p:Addr) (bs:List Bool),xs=[.ref p]/\SqL X.K H p (bs.map V.bl)/\Q (.bl (bs.all id)) H):=by
 intro jb s U H xs us Q I r h;obtain⟨p,bs,rfl,hq,q⟩:=h;obtain⟨u,rfl,rx⟩:=vals1 r;cases rx;obtain⟨its,rv,pl,hz⟩:=I.list hq;have hb:=Qm rv;have hl:=pl.isList;have hlt:p < s.heap.objs.size:=by obtain⟨_,e,_⟩:=hl;exact Qbj e
 refine call_all_walk (wpAny_pyIter_list hl ?_);refine⟨s.heap.objs.size,[s.heap.objs.size,p],[s.heap.objs.size],its.toArray.size,_,_,λi=>(bs[i]?).getD true,rq,Walks.list (A:=X.A.in1) (I.ok.hd hc) _ p (Qbl hlt) its.toArray,
  ⟨⟨_,Qao _ rfl,rq,rq⟩,hl.push _⟩,λi v s' Q' E' hP hQ=>?_,λh' tk hk=>?_⟩
 ·obtain⟨b,e,rfl⟩:=hb.get i v (by simpa using hP);simp only[e,Option.getD_some] at hQ;exact QaF hQ
 ·have e:((List.range its.toArray.size).all λi=>(bs[i]?).getD true)=bs.all id:=by
   rw[QaC,hb.length];exact LSm.range_all bs
  rw[e];exact⟨.bl (bs.all id),H,I.kept (LSm.kept_iter hk),rq,q⟩
def Yx (K:YD):R2:=λx y H Q=>∃a b ys,x=.ref a/\y=.ref b/\SqT K H a []/\SqT K H b ys/\Q (.ref b) H
theorem Vv:OpR X (binaryOp .Add) (Yx X.K):=by
 intro jb s U H x y v u Q I rx ry h;obtain⟨a,b,ys,rfl,rfl,ha,hb,q⟩:=h;cases rx;cases ry;obtain⟨its,r1,p1,_⟩:=I.tuple ha;obtain⟨its2,r2,p2,_⟩:=I.tuple hb;cases r1;obtain⟨⟨cls,dd,data,sl⟩,ho,hc,n,hd⟩:=id p1;obtain⟨⟨cls2,dd2,data2,sl2⟩,ho2,hc2,n2,hd2⟩:=id p2;simp only at hc hd hc2 hd2;subst hc hd hc2 hd2;exact concat_meets ⟨_,ho,rq⟩ ⟨_,ho2,rq⟩ noFill_tuple_add seq_tuple_add PySem.F.slot_tuple_add PySem.F.entry_tuple_add (PySem.F.args_tuple_add_2 _ _)
  (tuple_addW0 a b #[] its2.toArray n n2 dd dd2 sl sl2 rfl) ⟨ho,ho2,⟨.ref b,H,I,rq,q⟩⟩
theorem KC:OpR X (binaryOp .Add) (λx y H Q=>∃a b xs ys,x=.ref a/\y=.ref b/\H a=some (.tup xs)/\H b=some (.tup ys)/\xs.length+ys.length<=sizeLine /\
  ∀p H',H' p=some (.tup (xs++ys))->Same H H'->Q (.ref p) H'):=by
 intro jb s U H x y v u Q I rx ry h;obtain⟨a,b,xs,ys,rfl,rfl,ha,hb,hz,q⟩:=h;cases xs with
 | nil=>exact Vv jb s U H _ _ v u Q I rx ry ⟨a,b,ys,rfl,rfl,SqT.of ha,SqT.of hb,q b H hb (Same.refl H)⟩
 | cons x0 xr=>
  refine Xl jb s U H _ _ v u Q I rx ry ⟨a,b,x0::xr,ys,rq,rq,SqT.of ha,SqT.of hb,(λz=>by cases z),hz,λz=>?_,λz p hp=>?_⟩
  ·subst z;exact q a H (by rw[List.append_nil];exact ha) (Same.refl H)
  ·refine q p _ Ae λc o e=>?_;rw[Bo (BK e hp)];exact e
mutual
inductive Rep (H:Hp):V->PyData->Prop
 | non:Rep H .non .none
 | bl (b:Bool):Rep H (.bl b) (.bool b)
 | int (i:Int):Rep H (.int i) (.int i)
 | str (x:Str):Rep H (.str x) (.str x)
 | tup {a:Addr} {xs:YG} {ds:List PyData}:H a=some (.tup xs)->Ax H xs ds->Rep H (.ref a) (.tuple ds)
 | lst {a:Addr} {xs:YG} {ds:List PyData}:H a=some (.lst xs)->Ax H xs ds->Rep H (.ref a) (.list ds)
inductive Ax (H:Hp):YG->List PyData->Prop
 | nil:Ax H [] []
 | cons {x:V} {d:PyData} {xs:YG} {ds:List PyData}:Rep H x d->Ax H xs ds->Ax H (x::xs) (d::ds)
end
mutual
theorem Rep.reads {P:Program} {w:World} {H:Hp} {h:Heap} (ok:HOk P w H h):∀{v:V} {d:PyData} {u:Value},Rep H v d->RelV v u->∃as,Reads h u d as
 | _,_,_,.non,r=>by cases (show _=Value.none from r);exact⟨_,.none⟩
 | _,_,_,.bl b,r=>by cases (show _=Value.bool b from r);exact⟨_,.bool b⟩
 | _,_,_,.int i,r=>by obtain⟨t,rfl⟩:=(show ∃t,_=Value.int i t from r);exact⟨_,.int i t⟩
 | _,_,_,.str x,r=>by obtain⟨t,rfl⟩:=(show ∃t,_=Value.str x t from r);exact⟨_,.str x t⟩
 | _,_,_,.tup (a:=a) (xs:=xs) e q,r=>by
  cases (show _=Value.ref a from r)
  obtain⟨_,its,rv,o,ho,hc,n,hd⟩:=(show Bu P w H h a (.tup xs) from ok a _ e)
  obtain⟨as,z⟩:=Ax.reads ok q rv;exact⟨_,.tuple ho hc hd (by simpa using z)⟩
 | _,_,_,.lst (a:=a) (xs:=xs) e q,r=>by
  cases (show _=Value.ref a from r)
  obtain⟨_,its,n,rv,ho⟩:=(show Bu P w H h a (.lst xs) from ok a _ e)
  obtain⟨as,z⟩:=Ax.reads ok q rv;exact⟨_,.list ho rfl rfl (by simpa using z)⟩
theorem Ax.reads {P:Program} {w:World} {H:Hp} {h:Heap} (ok:HOk P w H h):∀{xs:YG} {ds:List PyData} {us:YE},Ax H xs ds->Vals xs us->∃as,ReadsAll h us ds as
 | _,_,_,.nil,.nil=>⟨_,.nil⟩
 | _,_,_,.cons p q,.cons r t=>by
  obtain⟨as,a1⟩:=Rep.reads ok p r;obtain⟨bs,b1⟩:=Ax.reads ok q t;exact⟨_,.cons a1 b1⟩
end
theorem Hf (hu:X.A.units+64 < cLine):OpR X (compareOp .Eq) (λx y H Q=>∃d e,Rep H x d/\Rep H y e/\SeqAt.shaped d=true/\SeqAt.shaped e=true/\Q (.bl (PyData.eqv d e)) H):=by
 intro jb s U H x y v u Q I rx ry h;obtain⟨d,e,p,p',sd,se,q⟩:=h;obtain⟨as,r1⟩:=p.reads I.hok rx;obtain⟨bs,r2⟩:=p'.reads I.hok ry;exact eq_dataH r1 r2 sd se hu ⟨.bl (PyData.eqv d e),H,I,rq,q⟩
theorem Ua (hu:X.A.units+64 < cLine):OpR X (compareOp .NotEq) (λx y H Q=>∃d e,Rep H x d/\Rep H y e/\SeqAt.shaped d=true/\SeqAt.shaped e=true/\Q (.bl (!PyData.eqv d e)) H):=by
 intro jb s U H x y v u Q I rx ry h;obtain⟨d,e,p,p',sd,se,q⟩:=h;obtain⟨as,r1⟩:=p.reads I.hok rx;obtain⟨bs,r2⟩:=p'.reads I.hok ry;exact ne_dataH r1 r2 sd se hu ⟨.bl (!PyData.eqv d e),H,I,rq,q⟩
end
structure Code (K:YD) (mg:YB) (x:Str) (st:Stmt) (ps:YF):Prop where
 ex:∃(f:Addr) (fd:FuncData),Fun K x x st f fd/\mg x=some (.ref f)/\Binds K fd ps []
structure Good (P:Program) (w:World) (K:YD) (mg:YB) (base:Heap) (x:Str) (k:Nat) (ps:YF) (sp:Sp):Prop where
 ex:∃(f:Addr) (fd:FuncData),mg x=some (.ref f)/\keepIn K (.ref f)=true/\Binds K fd ps []/\Eu P w K mg base CX0 k f fd ps sp
theorem Code.good {P:Program} {w:World} {K:YD} {mg:YB} {base:Heap} {x:Str} {st:Stmt} {ps N:YF} {k:Nat} {sp:Sp} (C:Code K mg x st ps) (S:Bm N ps (Aj st)) (len:∀vs H Q E,sp vs H Q E->vs.length=ps.length)
  (hbody:∀(f:Addr) (cdv:Value) (A:Around) (outer:List Env) (s:Shared) (H:Hp) (vs:YG) (Q:VK) (E:XK),CN k (A.deeper (envOfC x (Aj st) s.heap.objs.size f cdv))->sp vs H Q E ->
   ∃t,PSs (JV CX0 P w K mg base N x (Aj st) f cdv A outer s H E).nox (CT st) t/\t { nx:=λ_ H'=>Q .non H',rt:=Q } (start N vs) H):Good P w K mg base x (k+1) ps sp:=by
 obtain⟨f,fd,F,m,b⟩:=C.ex;exact⟨f,fd,m,F.kp,b,F.ok S len λcdv A outer s H vs Q E hr h=>hbody f cdv A outer s H vs Q E hr h⟩
theorem Al {X:Cx} {k k':Nat} {ps:YF} {sp:Sp} {x:Str} {p pos:Pos} {e:Expr} {es:YJ} {t:TA} (g:Good X.prog X.w X.K X.mg X.base x k ps sp) (hr:CN k' X.A) (ha:PA X (e::es) t) (hk:k<=k':=by decide) (hg:Gl X x:=by rfl)
  (hdb:(x == ("__debug__":Str))=false:=by decide) (he:starEach (e::es) X.env=(false,eval e X.env)::starEach es X.env:=by rfl) (hpl:(backTo pos (starEach es X.env)).any (·.1)=false:=by rfl) :
  PE X (.Call (.Name x p) (e::es) [] pos) (Wr sp [] E0 t):=by
 intro jb s U H Q I h;obtain⟨f,fd,m,kp,b,F⟩:=g.ex;exact Xh F (hr.mono hk) hg m kp b .nil Z8 ha hdb he hpl jb s U H Q I h
theorem Code.of {K:YD} {mg:YB} {h:Heap} {x:Str} {st:Stmt} {ps:YF} {f:Addr} {oc:Value} {od an:Option Addr} {osl:YI} {kV doc pm cdv ct:Value} (X:K.In h) (G:h.Ns mainGlobals mg)
  (a:nsIn K mainGlobals x=some (some (.ref f))) (l:K.lookup f=some ⟨oc,od,.func (fnOf x x (DW st) (CT st) (Aj st) .none kV doc pm an cdv ct),osl⟩) (c:codeIn K cdv x=true) (k:keepIn K (.ref f)=true)
  (hb:∀(kV doc pm:Value) (an:Option Addr) (cdv ct:Value) (us:YE),us.length=ps.length->bindArgs (fnOf x x (DW st) (CT st) (Aj st) .none kV doc pm an cdv ct) ⟨us,[]⟩=pure (ps.zip us)):Code K mg x st ps:=by
 have F:=Uy (st:=st) l c k;exact⟨f,_,F,mg_of X G a,F.binds hb⟩
theorem Ag {H:Hp} {p:Addr} (h:H p=none) (o:HO):Same H (upd H p o):=λb u q=>by rw[Bo (BK q h)];exact q
theorem Dc.plain {X:Cx} {N':YF} {sc:Scope} (kind:sc.kind=.function) (Gb:∀y∈sc.names,y.2≠.cell) (loc:∀y∈sc.names,y.2=.local->sc.names.lookup y.1=some .local) (Pb:∀y∈sc.names,y.2≠.free) :
  Dc X N' (N'.map λ_=>none) sc where
 kind:=kind
 Gb:=Gb
 loc:=loc
 fv:=λy hy e=>absurd e (Pb y hy)
 len:=by simp
 src:=λi x j _ e=>by
  rw[QaG] at e;cases q:N'[i]? with
  | none=>rw[q] at e;cases e
  | some z=>rw[q] at e;cases e
theorem V4 {K:YD} {a l:Addr} {xs:YG} {g:TG} {tt:TT} {te:TE} {Q:VK} {σ0:St} {H0:Hp} (Pv:YN)
  (h0:Pv 0 σ0 H0) (hl:∀i U H',i<=xs.length->Pv i U H'->SqT K H' a xs)
  (hs:∀i x U H',xs[i]?=some x->Pv i U H'->g x U H' fun σ3 H3=>tt σ3 H3 λb H4=>if b=true then te σ3 H4 λy H5=>∃ys,H5 l=some (.lst ys)/\ys.length < sizeLine/\Pv (i+1) σ3 (upd H5 l (.lst (ys++[y]))) else Pv (i+1) σ3 H4)
  (hd:∀ U H',Pv xs.length U H'->Q (.ref l) H'):Fe (Itt K a) g tt te Q σ0 H0 l:=by
 unfold Fe;refine⟨λi m U H'=>m=xs.length - i/\i<=xs.length/\Pv i U H',⟨xs.length,by simp,Qbn _,h0⟩,?_⟩;rintro i m U H' ⟨rfl,hi,p⟩;have q:=hl i U H' hi p;by_cases hlt:i < xs.length
 ·refine .inr ⟨⟨xs,xs[i],q,by simp[hlt]⟩,Pv (i+1),fun σ3 H3 p'=>⟨xs.length - (i+1),by omega,rq,hlt,p'⟩,λx H2 y=>?_⟩;obtain⟨e,y⟩:=y;subst e;exact hs i x U _ (y xs q) p
 ·have e:i=xs.length:=by omega
  subst e;exact .inl ⟨⟨xs,q,Qbm _⟩,hd U H' p⟩
theorem U5 {K:YD} {a l:Addr} {xs:YG} {g:TG} {tt:TT} {te:TE} {Q:VK} {σ0:St} {H0:Hp} (Pv:YN)
  (h0:Pv 0 σ0 H0) (hl:∀i U H',i<=xs.length->Pv i U H'->SqL K H' a xs)
  (hs:∀i x U H',xs[i]?=some x->Pv i U H'->g x U H' fun σ3 H3=>tt σ3 H3 λb H4=>if b=true then te σ3 H4 λy H5=>∃ys,H5 l=some (.lst ys)/\ys.length < sizeLine/\Pv (i+1) σ3 (upd H5 l (.lst (ys++[y]))) else Pv (i+1) σ3 H4)
  (hd:∀ U H',Pv xs.length U H'->Q (.ref l) H'):Fe (Itl K a) g tt te Q σ0 H0 l:=by
 unfold Fe;refine⟨λi m U H'=>m=xs.length - i/\i<=xs.length/\Pv i U H',⟨xs.length,by simp,Qbn _,h0⟩,?_⟩;rintro i m U H' ⟨rfl,hi,p⟩;have q:=hl i U H' hi p;by_cases hlt:i < xs.length
 ·refine .inr ⟨⟨xs,xs[i],q,by simp[hlt]⟩,Pv (i+1),fun σ3 H3 p'=>⟨xs.length - (i+1),by omega,rq,hlt,p'⟩,λx H2 y=>?_⟩;obtain⟨e,y⟩:=y;subst e;exact hs i x U _ (y xs q) p
 ·have e:i=xs.length:=by omega
  subst e;exact .inl ⟨⟨xs,q,Qbm _⟩,hd U H' p⟩
theorem Sv {lo:Int} {n:Nat} {l:Addr} {g:TG} {tt:TT} {te:TE} {Q:VK} {σ0:St} {H0:Hp} (Pv:YN) (h0:Pv 0 σ0 H0)
  (hs:∀i U H',i < n->Pv i U H'->g (.int (lo+i)) U H' fun σ3 H3=>tt σ3 H3 λb H4=>if b=true then te σ3 H4 λy H5=>∃ys,H5 l=some (.lst ys)/\ys.length < sizeLine/\Pv (i+1) σ3 (upd H5 l (.lst (ys++[y]))) else Pv (i+1) σ3 H4)
  (hd:∀ U H',Pv n U H'->Q (.ref l) H'):Fe (Itr lo n) g tt te Q σ0 H0 l:=by
 unfold Fe;refine⟨λi m U H'=>m=n - i/\i<=n/\Pv i U H',⟨n,by simp,Qbn _,h0⟩,?_⟩;rintro i m U H' ⟨rfl,hi,p⟩;by_cases hlt:i < n
 ·refine .inr ⟨hlt,Pv (i+1),fun σ3 H3 p'=>⟨n - (i+1),by omega,rq,hlt,p'⟩,λx H2 y=>?_⟩;obtain⟨e,y⟩:=y;subst e y;exact hs i U _ hlt p
 ·have e:i=n:=by omega
  subst e;exact .inl ⟨Qbm _,hd U H' p⟩
section
variable {X:Cx}
theorem QS:∀{ys:YF} {us:YE},Vals (ys.map V.str) us->StrsAre us ys
 | [],_,.nil=>.nil
 | y::r,_,.cons h t=>by
  obtain⟨t',e⟩:=(show ∃t,_=Value.str y t from h)
  cases e;exact .cons y t' (QS t)
def rJoin (K:YD):V->YG->Hp->VK->Prop:=λx vs H Q=>∃(z:Str) (p:Addr) (ys:YF),x=.str z/\vs=[.ref p]/\SqL K H p (ys.map V.str)/\(ys.map (·.length)).sum+ys.length*z.length<=16777216/\Q (.str (Txt.join z ys)) H
theorem Xv:MtR X "str.join" (rJoin X.K):=by
 intro jb s U H x vs v us Q I rx rv h;obtain⟨z,p,ys,rfl,rfl,hq,hz,q⟩:=h;obtain⟨t,rfl⟩:=rx;obtain⟨u,rfl,ru⟩:=rv.one;cases ru;obtain⟨its,r',pl,_⟩:=I.list hq;exact join_list pl.isList (QS r') hz λt' k=>⟨.str (Txt.join z ys),H,I.tok k,⟨t',rq⟩,q⟩
def Its (z:Str):It:=⟨λi _=>i < z.cps.size,λi H x H'=>H'=H/\∃c,z.cps[i]?=some c/\x=.str ⟨#[c]⟩,λi _=>i=z.cps.size⟩
def cI (tl:TE):TI:=fun U H R=>tl U H λx H1=>∃z,x=.str z/\R (Its z) H1
end
section
variable {X:Cx} {tg:Expr}
theorem Oi {P:Program} {w:World} {K:YD} {tg:Expr} (z:Str) (t:Tok) (it:Addr) (ty:String) (hty:["enumerate","zip","dict_itemiterator","dict_reverseitemiterator","odict_iterator","itertools.zip_longest","itertools.pairwise"].contains ty=false)
  (W:∀A':Around,A'.handled=none->Walks P w A' it [it] [it] z.cps.size (SignAt z) (λi h=>h.IsStrIter it ty z t i))
  (hself:∀(A:Around) (i:Nat) (s:Shared) (Q:YA) (E:YA),s.heap.IsStrIter it ty z t i->Q (.ref it) s->wpAny (model P w) A (pyIter (.ref it)) Q E s) :
  Turn P w K tg (Its z) [it] it (λi h=>h.IsStrIter it ty z t i) where
 mem:=Qax.mpr rfl
 obj:=λi h st b hb=>by
  cases Qax.mp hb;obtain⟨o,e,c,d⟩:=st;exact⟨o,e,λv z'=>by rw[d] at z';cases z'⟩
 keep:=λi h h' st k=>by
  obtain⟨o,e,r⟩:=st;exact⟨o,k it (Qax.mpr rfl) o e,r⟩
 item:=by
  intro X hP hw hK hc i jb s U H E I hf st hg;subst hP hw hK;obtain⟨f0,f1,f2,f3,f4,f5⟩:=hf it (Qax.mpr rfl);refine (W X.A (I.ok.hd hc)).item i s _ _ hg st λv h' tk hv st' kk=>?_;obtain⟨c,u,hcu,rfl⟩:=hv;have I1:Inv X jb U H { s with heap:=h',toks:=tk }:=I.turned (λb o hb e=>kk b o (λhm=>hb (Qax.mp hm)) e) f0 f1 f3 f4 f5;obtain⟨o,e,cl,d⟩:=id st';exact⟨_,rq,Oe (s:={ s with heap:=h',toks:=tk }) e cl d hty ⟨.str ⟨#[c]⟩,H,I1,⟨u,rq⟩,⟨rq,c,hcu,rq⟩,st',λb hb=>(hf b hb).1⟩⟩
 done:=by
  intro X hP hw hK hc i jb s U H E I hf st hg;subst hP hw hK;obtain⟨f0,f1,f2,f3,f4,f5⟩:=hf it (Qax.mpr rfl);cases (show i=z.cps.size from hg)
  exact (W X.A (I.ok.hd hc)).done s _ _ st λh' tk kk=>⟨rq,I.turned (λb o hb e=>kk b o (λhm=>hb (Qax.mp hm)) e) f0 f1 f3 f4 f5⟩
 self:=λA i s Q E st h=>hself A i s Q E st h
theorem O5 {l:Expr} {tl:TE} (hl:PE X l tl):PI X tg l (cI tl):=by
 intro jb s U H R I h;refine thn (hl jb s U H _ I h) λv s1 zz=>?_;obtain⟨x,H1,I1,r1,z,e,q⟩:=zz;subst e;obtain⟨t,rfl⟩:=r1;have fp:∀o:Obj,∀b∈[s1.heap.objs.size],Ed X jb H1 b:=λo b hb=>by
  cases Qax.mp hb;exact I1.PK (Qbm _) (I1.hok.fresh (Qbm _))
 cases ha:z.cps.all (· < 128) with
 | true=>
  refine wpAny_pyIter_ascii ha ?_;exact⟨s1.heap.objs.size,[s1.heap.objs.size],_,_,H1,rq,I1.kept (t':=s1.toks) λb o e=>Qai _ e,Oi z t _ "str_ascii_iterator" (by decide) (λA' hA=>Walks.strAscii hA _ z t) (λ_ _ _ _ _ st h=>wpAny_pyIter_striter_ascii st h),
   ⟨_,Qao _ rfl,rq,rq⟩,fp { cls:=.none,data:=.fields #[] },q⟩
 | false=>
  refine wpAny_pyIter_wide ha ?_;exact⟨s1.heap.objs.size,[s1.heap.objs.size],_,_,H1,rq,I1.kept (t':=s1.toks) λb o e=>Qai _ e,Oi z t _ "str_iterator" (by decide) (λA' hA=>Walks.strWide hA _ z t) (λ_ _ _ _ _ st h=>wpAny_pyIter_striter_wide st h),
   ⟨_,Qao _ rfl,rq,rq⟩,fp { cls:=.none,data:=.fields #[] },q⟩
theorem KY {z:Str} {l:Addr} {g:TG} {tt:TT} {te:TE} {Q:VK} {σ0:St} {H0:Hp} (Pv:YN) (h0:Pv 0 σ0 H0)
  (hs:∀i c U H',z.cps[i]?=some c->Pv i U H'->g (.str ⟨#[c]⟩) U H' fun σ3 H3=>tt σ3 H3 λb H4=>if b=true then te σ3 H4 λy H5=>∃ys,H5 l=some (.lst ys)/\ys.length < sizeLine/\Pv (i+1) σ3 (upd H5 l (.lst (ys++[y]))) else Pv (i+1) σ3 H4)
  (hd:∀ U H',Pv z.cps.size U H'->Q (.ref l) H'):Fe (Its z) g tt te Q σ0 H0 l:=by
 unfold Fe;refine⟨λi m U H'=>m=z.cps.size - i/\i<=z.cps.size/\Pv i U H',⟨z.cps.size,by simp,Qbn _,h0⟩,?_⟩;rintro i m U H' ⟨rfl,hi,p⟩;by_cases hlt:i < z.cps.size
 ·refine .inr ⟨hlt,Pv (i+1),fun σ3 H3 p'=>⟨z.cps.size - (i+1),by omega,rq,hlt,p'⟩,λx H2 y=>?_⟩;obtain⟨e,c,hc,rfl⟩:=y;subst e;exact hs i c U _ hc p
 ·have e:i=z.cps.size:=by omega
  subst e;exact .inl ⟨rq,hd U H' p⟩
end
end L2
namespace HT
open PySem PyProof.Rows
section
variable {prog:Program} {w:World} {A:Around} {E:YA} {s:Shared}
theorem Ko {t sl:Addr} {items:Array Value} {vl vu:Value} {lo hi:Option Int} {Q:YA} (ht:IsTup s.heap t items) (hs:s.heap.IsSliceOf sl vl vu .none) (pl:IsPart vl lo) (pu:IsPart vu hi)
  (hw:sIx items.size 0 lo=0/\sIx items.size items.size hi=items.size) (h:Q (.ref t) s):wpAny (model prog w) A (getItem (.ref t) (.ref sl)) Q E s:=by
 obtain⟨os,hos,hcs,hds⟩:=id hs;have hTs:s.TypeIs (.ref sl) "slice":=⟨os,hos,hcs⟩;unfold getItem
 try with_reducible refine Qbi ?_
 first | refine Qbp (Qbq ?_) | skip
 refine Qbp (wpAny_sequenceKey ht.typeIs (by decide) ?_);refine Qbp (Qag (name:=Str.ofString "__getitem__") ht.typeIs Qab (QaL Qab ht.typeIs entry_tuple_getitem ?_ (args_tuple_getitem _ _)));show wpAny _ _ (Builtin.Tuple.tupleItemsOf (.ref t) >>= _) _ _ s;refine Qbp (tupleItemsOf_ ht ?_);refine Qbp (wpAny_typeOf hTs ?_);rw[if_pos (by decide)];refine Qbp (Hy hs pl pu ?_);rw[hw.1,hw.2];show wpAny _ _ (if (((0:Nat):Int) == 0&&(1:Int) == 1&&(items.size - 0) == items.size)=true then _ else _) _ _ s
 rw[if_pos (by simp)];refine Qbp ?_;unfold Builtin.Tuple.tupleIsExact;refine Qbp (wpAny_typeOf ht.typeIs (Qbq ?_));rw[if_pos (by decide)];exact Qbp (wpAny_rule (Qbq ⟨_,rq,Qbq h⟩))
end
end HT
namespace L2
open PySem PySem.Spec PyProof.Rows
section
variable {X:Cx}
theorem Gf:SlR X (λx lo hi H Q=>∃a xs,x=.ref a/\H a=some (.tup xs)/\∀p H',H' p=some (.tup (Dy xs lo hi))->Same H H'->Q (.ref p) H'):=by
 intro jb s U H x v vl vu lo hi sl Q I rx hs pl pu h;obtain⟨a,xs,rfl,hx,q⟩:=h;by_cases hw:HT.sIx xs.length 0 lo=0/\HT.sIx xs.length xs.length hi=xs.length
 ·cases rx;obtain⟨its,r,ht,hz⟩:=I.tuple (SqT.of hx);have hlen:its.toArray.size=xs.length:=by rw[QaC];exact r.length.symm
  refine⟨"tuple",_,Qab.lookup,ht.typeIs,?_⟩;refine HT.Ko ht hs pl pu (by rw[hlen];exact hw) ⟨.ref a,H,I,rq,q a H ?_ (Same.refl H)⟩;have e:Dy xs lo hi=xs:=by unfold Dy;rw[hw.1,hw.2];simp
  rw[e];exact hx
 ·exact Yo jb s U H _ v vl vu lo hi sl Q I rx hs pl pu ⟨a,xs,rq,SqT.of hx,hw,λp hp=>q p _ Ae (λc o e=>by rw[Bo (BK e hp)];exact e)⟩
theorem Ow:SlR X (λx lo hi H Q=>∃z,x=.str z/\z.length<=sizeLine/\Q (.str (Txt.slice z lo hi)) H):=by
 intro jb s U H x v vl vu lo hi sl Q I rx hs pl pu h;obtain⟨z,rfl,hz,q⟩:=h;obtain⟨t,rfl⟩:=rx;refine⟨"str",_,F.slot_str_getitem.lookup,typeIs_str _ _ _,?_⟩;have fin:∀t' k,EP X jb U Q (.str (Txt.slice z lo hi) t') { s with toks:=k }:=λt' k=>⟨.str (Txt.slice z lo hi),H,I.tok k,⟨t',rq⟩,q⟩;cases pl with
 | none=>
  cases pu with
  | none=>exact Qah (l:=none) (u:=none) (st:=none) hs rfl (post_val_or_str ⟨Qbk (Txt.slice_le z _ _) hz,fin⟩)
  | int j tj=>exact Qah (l:=none) (u:=some (j,tj)) (st:=none) hs rfl (post_val_or_str ⟨Qbk (Txt.slice_le z _ _) hz,fin⟩)
 | int i ti=>
  cases pu with
  | none=>exact Qah (l:=some (i,ti)) (u:=none) (st:=none) hs rfl (post_val_or_str ⟨Qbk (Txt.slice_le z _ _) hz,fin⟩)
  | int j tj=>exact Qah (l:=some (i,ti)) (u:=some (j,tj)) (st:=none) hs rfl (post_val_or_str ⟨Qbk (Txt.slice_le z _ _) hz,fin⟩)
end
structure WX (K:YD) (C:Addr) (m qn:Str) (st:Stmt) (ps:YF):Prop where
 ex:∃(f:Addr) (fd:FuncData),Fun K m qn st f fd/\Meth K C m f/\Binds K fd ps []
structure aC (P:Program) (w:World) (K:YD) (mg:YB) (base:Heap) (C:Addr) (m:Str) (k:Nat) (ps:YF) (sp:Sp):Prop where
 ex:∃(f:Addr) (fd:FuncData),Meth K C m f/\Binds K fd ps []/\Eu P w K mg base CX0 k f fd ps sp
theorem WX.good {P:Program} {w:World} {K:YD} {mg:YB} {base:Heap} {C:Addr} {m qn:Str} {st:Stmt} {ps N:YF} {k:Nat} {sp:Sp} (c:WX K C m qn st ps) (S:Bm N ps (Aj st)) (len:∀vs H Q E,sp vs H Q E->vs.length=ps.length)
  (hbody:∀(f:Addr) (cdv:Value) (A:Around) (outer:List Env) (s:Shared) (H:Hp) (vs:YG) (Q:VK) (E:XK),CN k (A.deeper (envOfC qn (Aj st) s.heap.objs.size f cdv))->sp vs H Q E ->
   ∃t,PSs (JV CX0 P w K mg base N qn (Aj st) f cdv A outer s H E).nox (CT st) t/\t { nx:=λ_ H'=>Q .non H',rt:=Q } (start N vs) H):aC P w K mg base C m (k+1) ps sp:=by
 obtain⟨f,fd,F,M,b⟩:=c.ex;exact⟨f,fd,M,b,F.ok S len λcdv A outer s H vs Q E hr h=>hbody f cdv A outer s H vs Q E hr h⟩
theorem O7 {X:Cx} {x:Str} {v:V} {pos:Pos} (hg:Gl X x) (hm:∃u,X.mg x=some u/\RelV v u) (hd:(x == ("__debug__":Str))=false:=by decide):PE X (.Name x pos) (tC v):=by
 obtain⟨u,h,r⟩:=hm;exact Xg hg h r hd
def CZ (H H':Hp):Prop:=∀c xs,H c=some (.tup xs)->H' c=some (.tup xs)
theorem CZ.refl (H:Hp):CZ H H:=λ_ _ e=>e
theorem CZ.trans {H H1 H2:Hp} (a:CZ H H1) (b:CZ H1 H2):CZ H H2:=λc xs e=>b c xs (a c xs e)
theorem CZ.of {H H1:Hp} (s:Same H H1):CZ H H1:=λc xs e=>s c _ e
theorem CZ.upd {H:Hp} {b:Addr} {o:HO} (h:∀xs,H b≠some (.tup xs)):CZ H (upd H b o):=λc xs e=>by
 have n:c≠b:=λz=>h xs (z ▸ e);rw[Bo n];exact e
def Ah (b:Addr) (H H':Hp):Prop:=∀c o,H c=some o->c≠b->H' c=some o
theorem Ah.trans {b:Addr} {H H1 H2:Hp} (x:Ah b H H1) (y:Ah b H1 H2):Ah b H H2:=λc o e n=>y c o (x c o e n) n
theorem Ah.of {b:Addr} {H H1:Hp} (x:Same H H1):Ah b H H1:=λc o e _=>x c o e
theorem Ah.refl (b:Addr) (H:Hp):Ah b H H:=λ_ _ e _=>e
theorem Ah.upd {b:Addr} {H:Hp} {o:HO}:Ah b H (upd H b o):=λc u e n=>by rw[Bo n];exact e
theorem Ah.tup {b:Addr} {H H':Hp} (x:Ah b H H') (h:∀xs,H b≠some (.tup xs)):CZ H H':=λc xs e=>x c _ e λz=>h xs (z ▸ e)
theorem Ah.free {b:Addr} {H H':Hp} (x:Ah b H H') (hb:∃o,H' b=some o) {l:Addr} (h:H' l=none):H l=none:=by
 cases e:H l with
 | none=>rfl
 | some o=>
  by_cases n:l=b
  ·obtain⟨o',e'⟩:=hb;rw[n,e'] at h;cases h
  ·rw[x l o e n] at h;cases h
section
variable {X:Cx} {o e value:Expr} {f:Str} {pos pos' tpos:Pos} {ta tv:TE}
theorem PE.weak {ta ta':TE} (h:PE X e ta) (i:∀ U H Q,ta' U H Q->ta U H Q):PE X e ta':=λjb s U H Q I q=>h jb s U H Q I (i U H Q q)
end
theorem PS.weak {X:Cx} {s:Stmt} {t t':TS} (h:PS X s t) (i:∀D U H,t' D U H->t D U H):PS X s t':=λjb sh U H D I q=>h jb sh U H D I (i D U H q)
section
variable {X:Cx} {K:YD}
theorem Nt (h:X.K=K):OpR X (compareOp .NotIn) (rIn K true):=h ▸ HW
end
end L2
namespace PySem
open Sem (wp)
section
variable {prog:Program} {w:World} {A:Around} {E:YA} {s:Shared}
end
end PySem
namespace L2
open PySem PySem.Spec PyProof.Rows
section
variable {X:Cx} {pos:Pos}
end
theorem M8 {α : Type}:∀{l:List α} {i:Nat} {a:α},l.Nodup->a∉l->(l.set i a).Nodup
 | [],_,_,h,_=>by simpa using h
 | x::r,0,a,h,n=>by
  rw[QaV] at h;rw[List.set_cons_zero,QaV];exact⟨λz=>n (Qal _ z),h.2⟩
 | x::r,i+1,a,h,n=>by
  rw[QaV] at h;rw[List.set_cons_succ,QaV];refine⟨λz=>?_,M8 h.2 λz=>n (Qal _ z)⟩;rcases List.mem_or_eq_of_mem_set z with z | z
  ·exact h.1 z
  ·exact n (z ▸ Qav)
structure Has (H:Hp) (l:List (Addr×HO)):Prop where
 nd:(l.map (·.1)).Nodup
 at_:∀x∈l,H x.1=some x.2
theorem Has.get {H:Hp} {l:List (Addr×HO)} (h:Has H l) {i:Nat} {a:Addr} {o:HO} (e:l[i]?=some (a,o)):H a=some o:=h.at_ (a,o) (Qam e)
theorem Has.same {H H':Hp} {l:List (Addr×HO)} (h:Has H l) (s:Same H H'):Has H' l:=⟨h.nd,λx hx=>s _ _ (h.at_ x hx)⟩
theorem Has.Dz {H H':Hp} {l:List (Addr×HO)} {b:Addr} (h:Has H l) (s:Ah b H H') (n:b∉l.map (·.1)):Has H' l:=⟨h.nd,λx hx=>s _ _ (h.at_ x hx) λz=>n (z ▸ List.mem_map.mpr ⟨x,hx,rfl⟩)⟩
theorem Has.aj {H:Hp} {l:List (Addr×HO)} {a:Addr} (h:Has H l) (e:H a=none):a∉l.map (·.1):=λz=>by
 obtain⟨x,hx,rfl⟩:=List.mem_map.mp z;rw[h.at_ x hx] at e;cases e
theorem map_set {l:List (Addr×HO)} {i:Nat} {a:Addr} {o:HO}:(l.set i (a,o)).map (·.1)=(l.map (·.1)).set i a:=by rw[List.map_set]
theorem Has.set {H H':Hp} {l:List (Addr×HO)} (h:Has H l) (i:Nat) {a:Addr} {o o':HO} (e:l[i]?=some (a,o)) (s:Ah a H H') (e':H' a=some o'):Has H' (l.set i (a,o')):=by
 have em:(l.map (·.1))[i]?=some a:=by rw[QaG,e];rfl
 have hi:=(Qad.mp e).1;refine⟨?_,λx hx=>?_⟩
 ·rw[map_set];have:(l.map (·.1)).set i a=l.map (·.1):=by
   obtain⟨h1,h2⟩:=Qad.mp em;rw[<-h2];exact List.set_getElem_self h1
  rw[this];exact h.nd
 ·obtain⟨j,hj,ex⟩:=List.mem_iff_getElem.mp hx;rw[List.getElem_set] at ex;by_cases q:i=j
  ·rw[if_pos q] at ex;subst ex;exact e'
  ·rw[if_neg q] at ex;have hj':j < l.length:=by simpa using hj
   have hm:x∈l:=ex ▸ List.getElem_mem hj';refine s _ _ (h.at_ x hm) λz=>q ?_;have ej:(l.map (·.1))[j]?=some a:=by rw[QaG,Qaf hj'];rw[<-z,<-ex];rfl
   obtain⟨h1,h2⟩:=Qad.mp em;obtain⟨h3,h4⟩:=Qad.mp ej;exact (List.getElem_inj h.nd).mp (h2.trans h4.symm)
theorem Has.put {H:Hp} {l:List (Addr×HO)} (h:Has H l) (i:Nat) {a:Addr} {o:HO} (n:a∉l.map (·.1)) (e:H a=some o):Has H (l.set i (a,o)):=by
 refine⟨by rw[map_set];exact M8 h.nd n,λx hx=>?_⟩;rcases List.mem_or_eq_of_mem_set hx with z | z
 ·exact h.at_ x z
 ·rw[z];exact e
theorem Has.new {H H':Hp} {l:List (Addr×HO)} {a:Addr} {o:HO} (h:Has H l) (n:H a=none) (s:Same H H') (e:H' a=some o):Has H' (l++[(a,o)]):=by
 refine⟨?_,λx hx=>?_⟩
 ·rw[QaT,List.nodup_append];refine⟨h.nd,by simp,λx hx y hy z=>?_⟩;have:y=a:=by simpa using hy
  subst this;exact h.aj n (z ▸ hx)
 ·rcases QaR.mp hx with z | z
  ·exact s _ _ (h.at_ x z)
  ·have:x=(a,o):=by simpa using z
   subst this;exact e
theorem Has.nil (H:Hp):Has H []:=⟨List.nodup_nil,λx hx=>by cases hx⟩
theorem Has.ne {H:Hp} {l:List (Addr×HO)} (h:Has H l) {i j:Nat} {a b:Addr} {o p:HO} (e:l[i]?=some (a,o)) (e':l[j]?=some (b,p)) (n:i≠j):a≠b:=λz=>by
 have ea:(l.map (·.1))[i]?=some a:=by rw[QaG,e];rfl
 have eb:(l.map (·.1))[j]?=some a:=by rw[QaG,e',z];rfl
 obtain⟨h1,h2⟩:=Qad.mp ea;obtain⟨h3,h4⟩:=Qad.mp eb;exact n ((List.getElem_inj h.nd).mp (h2.trans h4.symm))
theorem Same.FN {H0 H H':Hp} {a:Addr} (s:Same H0 H) (b:Ah a H H') (f:H0 a=none):Same H0 H':=λc o e=>b _ _ (s _ _ e) λz=>by rw[z,f] at e;cases e
section
variable {κ : Type} [DecidableEq κ]
def DN (kvs:List (κ×V)) (k:κ):Option V:=(kvs.find? λkv=>decide (kv.1=k)).map (·.2)
def putK (kvs:List (κ×V)) (k:κ) (v:V):List (κ×V):=
 if (kvs.any λkv=>decide (kv.1=k))=true then kvs.map (λkv=>if kv.1=k then (kv.1,v) else kv) else kvs++[(k,v)]
def WW (kvs:List (κ×V)) (k:κ):List (κ×V):=kvs.filter λkv=>decide (kv.1≠k)
theorem Kp {p:κ×V} {r:List (κ×V)} {k:κ} (e:p.1=k):DN (p::r) k=some p.2:=by simp[DN,QaY,e]
theorem Kq {p:κ×V} {r:List (κ×V)} {k:κ} (e:¬p.1=k):DN (p::r) k=DN r k:=by simp[DN,QaY,e]
theorem Oh (k:κ):∀kvs:List (κ×V),(kvs.any λkv=>decide (kv.1=k))=(DN kvs k).isSome
 | []=>rfl
 | p::r=>by
  rw[Qbf];by_cases e:p.1=k
  ·simp only[Kp e,Qba e,Bool.true_or,Option.isSome_some]
  ·rw[Kq e,QaP e,Bool.false_or];exact Oh k r
theorem QC (kvs:List (κ×V)) (k:κ) (v:V):(putK kvs k v).length<=kvs.length+1:=by
 unfold putK;split
 ·rw[QaQ];omega
 ·rw[Qaw,QaJ,List.length_nil];omega
theorem Gq.Hh {o:Option V} {u:Option Value} (r:Gq o u):o.isSome=u.isSome:=by
 cases o with
 | none=>cases u with
  | none=>rfl
  | some _=>exact (show False from r).elim
 | some _=>cases u with
  | none=>exact (show False from r).elim
  | some _=>rfl
theorem Gq.getD {o:Option V} {u:Option Value} {d:V} {d':Value} (r:Gq o u) (rd:RelV d d'):RelV (o.getD d) (u.getD d'):=by
 cases o with
 | none=>cases u with
  | none=>exact rd
  | some _=>exact (show False from r).elim
 | some _=>cases u with
  | none=>exact (show False from r).elim
  | some _=>exact r
theorem KV.val {kvs:List (κ×V)} {vs:List (κ×Value)} (r:KV kvs vs) (k:κ):Gq (DN kvs k) (valueAt vs k):=by
 unfold KV at r
 induction r with
 | nil=>exact True.intro
 | @cons p q ps qs h t ih=>
  obtain⟨h1,h2⟩:=h;by_cases e:p.1=k
  ·have e':q.1=k:=h1.symm.trans e;have b:valueAt (q::qs) k=some q.2:=by simp[valueAt,QaY,e']
   rw[Kp e,b];exact h2
  ·have e':¬q.1=k:=λz=>e (h1.trans z);have b:valueAt (q::qs) k=valueAt qs k:=by simp[valueAt,QaY,e']
   rw[Kq e,b];exact ih
theorem KV.any {kvs:List (κ×V)} {vs:List (κ×Value)} (r:KV kvs vs) (k:κ):(kvs.any λkv=>decide (kv.1=k))=vs.any λkv=>decide (kv.1=k):=by
 unfold KV at r
 induction r with
 | nil=>rfl
 | cons h t ih=>rw[Qbf,Qbf,ih,h.1]
theorem KV.repl {kvs:List (κ×V)} {vs:List (κ×Value)} (r:KV kvs vs) (k:κ) {y:V} {u:Value} (ry:RelV y u) :
  KV (kvs.map λkv=>if kv.1=k then (kv.1,y) else kv) (vs.map λkv=>if kv.1=k then (kv.1,u) else kv):=by
 unfold KV at r ⊢
 induction r with
 | nil=>exact .nil
 | @cons p q ps qs h t ih=>
  rw[Qbd,Qbd];refine .cons ?_ ih;obtain⟨h1,h2⟩:=h;by_cases e:p.1=k
  ·rw[if_pos e,if_pos (h1.symm.trans e)];exact⟨h1,ry⟩
  ·rw[if_neg e,if_neg (λz=>e (h1.trans z))];exact⟨h1,h2⟩
theorem KV.put {kvs:List (κ×V)} {vs:List (κ×Value)} (r:KV kvs vs) (k:κ) {y:V} {u:Value} (ry:RelV y u):KV (putK kvs k y) (stored vs k u):=by
 unfold putK stored;rw[r.any k];by_cases e:(vs.any λkv=>decide (kv.1=k))=true
 ·rw[if_pos e,if_pos e];exact r.repl k ry
 ·rw[if_neg e,if_neg e];exact Paired.snoc r ⟨rq,ry⟩
theorem KV.drop {kvs:List (κ×V)} {vs:List (κ×Value)} (r:KV kvs vs) (k:κ):KV (WW kvs k) (without vs k):=by
 unfold KV at r ⊢;unfold WW without
 induction r with
 | nil=>exact .nil
 | @cons p q ps qs h t ih=>
  obtain⟨h1,h2⟩:=h;rw[List.filter_cons,List.filter_cons];by_cases e:p.1=k
  ·have a:¬decide (p.1≠k)=true:=by simp[e]
   have b:¬decide (q.1≠k)=true:=by simp[h1.symm.trans e]
   rw[if_neg a,if_neg b];exact ih
  ·have e':¬q.1=k:=λz=>e (h1.trans z);have a:decide (p.1≠k)=true:=by simp[e]
   have b:decide (q.1≠k)=true:=by simp[e']
   rw[if_pos a,if_pos b];exact .cons ⟨h1,h2⟩ ih
theorem KV.keys {kvs:List (κ×V)} {vs:List (κ×Value)} (r:KV kvs vs):kvs.map (·.1)=vs.map (·.1):=by
 unfold KV at r
 induction r with
 | nil=>rfl
 | cons h t ih=>rw[Qbd,Qbd,ih,h.1]
theorem KV.length {kvs:List (κ×V)} {vs:List (κ×Value)} (r:KV kvs vs):kvs.length=vs.length:=Paired.length r
end
theorem Lk {P:Program} {w:World} {k:Key} {u:Value} (r:RelV (kV k) u):(Cv P w).is k u=true:=by
 cases k with
 | inl i=>obtain⟨t,e⟩:=(show ∃t,u=Value.int i t from r);subst e;exact QB P w i t
 | inr x=>obtain⟨t,e⟩:=(show ∃t,u=Value.str x t from r);subst e;exact Qz P w x t
theorem Nb {P:Program} {w:World}:∀{ks:List Key} {us:YE},Vals (ks.map kV) us->ItemsAre (Cv P w) ks us
 | [],_,r=>by rw[List.map_nil] at r;cases r;exact .nil
 | k::ks,_,r=>by
  rw[Qbd] at r;cases r with
  | cons h t=>exact .cons (Lk h) (Nb t)
abbrev YL:=List (List Key×V)
abbrev KT (H:Hp):YL->List (List Key×Addr×Value)->Prop:=Paired λp q=>p.1=q.1/\H q.2.1=some (.tup (p.1.map kV))/\RelV p.2 q.2.2
theorem KT.val {H:Hp} {kvs:YL} {xs:List (List Key×Addr×Value)} (r:KT H kvs xs) (k:List Key):Gq (DN kvs k) ((atKey xs k).map (·.2)):=by
 induction r with
 | nil=>exact True.intro
 | @cons p q ps qs h t ih=>
  obtain⟨h1,_,h2⟩:=h;by_cases e:p.1=k
  ·have e':q.1=k:=h1.symm.trans e;have b:atKey (q::qs) k=some q.2:=by simp[atKey,QaY,e']
   rw[Kp e,b];exact h2
  ·have e':¬q.1=k:=λz=>e (h1.trans z);have b:atKey (q::qs) k=atKey qs k:=by simp[atKey,QaY,e']
   rw[Kq e,b];exact ih
theorem KT.repl {H:Hp} {kvs:YL} {xs:List (List Key×Addr×Value)} (r:KT H kvs xs) (k:List Key) {y:V} {u:Value} (ry:RelV y u) :
  KT H (kvs.map λkv=>if kv.1=k then (kv.1,y) else kv) (xs.map (putAt k u)):=by
 induction r with
 | nil=>exact .nil
 | @cons p q ps qs h t ih=>
  rw[Qbd,Qbd];refine .cons ?_ ih;obtain⟨h1,h2,h3⟩:=h;unfold putAt;by_cases e:p.1=k
  ·rw[if_pos e,if_pos (h1.symm.trans e)];exact⟨h1,h2,ry⟩
  ·rw[if_neg e,if_neg (λz=>e (h1.trans z))];exact⟨h1,h2,h3⟩
theorem KT.put {H:Hp} {kvs:YL} {xs:List (List Key×Addr×Value)} (r:KT H kvs xs) (k:List Key) {b:Addr} {y:V} {u:Value} (hb:H b=some (.tup (k.map kV))) (ry:RelV y u) :
  KT H (putK kvs k y) (storedH xs k b u):=by
 have e:(kvs.any λkv=>decide (kv.1=k))=(atKey xs k).isSome:=by
  rw[Oh,(r.val k).Hh,Option.isSome_map]
 unfold putK storedH;rw[e];by_cases q:(atKey xs k).isSome=true
 ·rw[if_pos q,if_pos q];exact r.repl k ry
 ·rw[if_neg q,if_neg q];exact Paired.snoc r ⟨rq,hb,ry⟩
theorem KT.keeps {H H':Hp} {kvs:YL} {xs:List (List Key×Addr×Value)} (r:KT H kvs xs) (ht:∀b ys,H b=some (.tup ys)->H' b=some (.tup ys)):KT H' kvs xs:=
 Paired.Ph r λ_ _ z=>⟨z.1,ht _ _ z.2.1,z.2.2⟩
section
variable {P:Program} {w:World} {H:Hp} {h:Heap} {a:Addr}
theorem Wz {u:HO} (ok:HOk P w H h) (e:Rd H a u):Bu P w H h a u:=e.ok ok
abbrev YM:=List (Key×V)
theorem Lq {kvs:YM} (ok:HOk P w H h) (e:Rd H a (.dK kvs)):kvs.length<=sizeLine/\(a == sysModules)=false/\∃vs,KV kvs vs/\h.DictOf (Cv P w) a vs:=
 show Bu P w H h a (.dK kvs) from Wz ok e
theorem aB {kvs:YM} (ok:HOk P w H h) (e:H a=some (.dK kvs)):kvs.length<=sizeLine/\(a == sysModules)=false/\∃vs,KV kvs vs/\h.DictOf (Cv P w) a vs:=Lq ok (.inl e)
theorem Lj {ks:List Key} (ok:HOk P w H h) (e:H a=some (.tup (ks.map kV))):(tupleKind (Cv P w)).is h ks a:=by
 obtain⟨_,its,r,o,h1,h2,n,h3⟩:=(show Bu P w H h a (.tup (ks.map kV)) from ok a _ e)
 exact⟨o,its.toArray,n,h1,h2,h3,by simpa using Nb r⟩
theorem Og {kvs:YL} (ok:HOk P w H h) (e:Rd H a (.dT kvs)):kvs.length<=sizeLine/\(a == sysModules)=false /\
  ∃xs,KT H kvs xs/\h.DictOfH (tupleKind (Cv P w)) a xs:=by
 obtain⟨z,y,xs,r,o,es,ep,h1,h2,h3,h4,h5⟩:=(show Bu P w H h a (.dT kvs) from Wz ok e)
 refine⟨z,y,xs,r,o,es,ep,h1,h2,h3,h4,λx hx=>?_,h5⟩;have all:∀{l:YL} {m:List (List Key×Addr×Value)},KT H l m->∀x∈m,(tupleKind (Cv P w)).is h x.1 x.2.1:=by
  intro l m q
  induction q with
  | nil=>intro x hx;exact nomatch hx
  | @cons p q ps qs hq t ih=>
   intro x hx;rcases Qbe.mp hx with e | hx
   ·subst e;exact Lj ok (by rw[<-hq.1];exact hq.2.1)
   ·exact ih x hx
 exact all r x hx
end
def Fo (H:Hp) (a:Addr) (y:V) (r:Option V):Prop:=
 (∃kvs k,Rd H a (.dK kvs)/\y=kV k/\r=DN kvs k)\/∃kvs k b,Rd H a (.dT kvs)/\y=.ref b/\H b=some (.tup (k.map kV))/\r=DN kvs k
def S6 (H:Hp) (a:Addr) (y v:V) (H':Hp):Prop:=
 (∃kvs k,H a=some (.dK kvs)/\y=kV k/\kvs.length < sizeLine/\H'=upd H a (.dK (putK kvs k v))) \/
 ∃kvs k b,H a=some (.dT kvs)/\y=.ref b/\H b=some (.tup (k.map kV))/\kvs.length < sizeLine/\H'=upd H a (.dT (putK kvs k v))
theorem Fo.k {H:Hp} {a:Addr} {kvs:YM} {k:Key} (e:H a=some (.dK kvs)):Fo H a (kV k) (DN kvs k):=.inl ⟨kvs,k,.inl e,rfl,rfl⟩
theorem Fo.t {H:Hp} {a b:Addr} {kvs:YL} {k:List Key} (e:H a=some (.dT kvs)) (eb:H b=some (.tup (k.map kV))):Fo H a (.ref b) (DN kvs k):=.inr ⟨kvs,k,b,.inl e,rfl,eb,rfl⟩
theorem S6.k {H:Hp} {a:Addr} {kvs:YM} {k:Key} {v:V} (e:H a=some (.dK kvs)) (hl:kvs.length < sizeLine):S6 H a (kV k) v (upd H a (.dK (putK kvs k v))):=.inl ⟨kvs,k,e,rfl,hl,rfl⟩
theorem S6.t {H:Hp} {a b:Addr} {kvs:YL} {k:List Key} {v:V} (e:H a=some (.dT kvs)) (eb:H b=some (.tup (k.map kV))) (hl:kvs.length < sizeLine) :
  S6 H a (.ref b) v (upd H a (.dT (putK kvs k v))):=.inr ⟨kvs,k,b,e,rq,eb,hl,rq⟩
section
variable {X:Cx} {jb:YC} {U : St} {H:Hp} {s:Shared} {a:Addr} {y v:V} {u r:Value} {o:Option V} {A:Around} {E:YA}
theorem Inv.big (I:Inv X jb U H s):sysModules < s.heap.objs.size:=by
 have h:mainGlobals < s.heap.objs.size:=(I.mod.glob.keeps I.bk).lt;exact Nat.lt_trans (by decide) h
theorem UJ {Q:YA} (hu:A.units+1 < cLine) (I:Inv X jb U H s) (g:Fo H a y (some v)) (ry:RelV y u) (h:∀w' s',Inv X jb U H s'->RelV v w'->Q w' s') :
  wpAny (model X.prog X.w) A (getItem (.ref a) u) Q E s:=by
 rcases g with⟨kvs,k,e,ey,l⟩|⟨kvs,k,b,e,ey,eb,l⟩
 ·subst ey;obtain⟨z,hd,vs,rel,dd⟩:=Lq I.hok e;obtain⟨w',hw,rw'⟩:=Gq.some_of (v:=v) (o:=valueAt vs k) (by rw[l];exact rel.val k);exact wpAny_getItem_of (Lk ry) dd.mapOf hw (h w' _ (I.tok _) rw')
 ·subst ey;cases (show u=Value.ref b from ry)
  obtain⟨z,hd,xs,rel,dd⟩:=Og I.hok e;obtain⟨w',hw,rw'⟩:=Gq.some_of (v:=v) (o:=(atKey xs k).map (·.2)) (by rw[l];exact rel.val k);obtain⟨p,hp,hp2⟩:=Option.map_eq_some_iff.mp hw;refine wpAny_getItem_heap (tupleKind_room_in1 hu) (Lj I.hok eb) dd hp ?_;rw[hp2];exact h w' _ (I.tok _) rw'
theorem dF {Q:YA} (hu:A.units+1 < cLine) (I:Inv X jb U H s) (g:Fo H a y o) (ry:RelV y u) (h:∀s',Inv X jb U H s'->Q (.bool o.isSome) s') :
  wpAny (model X.prog X.w) A (compareOp .In u (.ref a)) Q E s:=by
 rcases g with⟨kvs,k,e,ey,l⟩|⟨kvs,k,b,e,ey,eb,l⟩
 ·subst ey;obtain⟨z,hd,vs,rel,dd⟩:=Lq I.hok e;refine wpAny_in_of (Lk ry) hd dd.mapOf ?_;rw[<-(rel.val k).Hh,<-l];exact h _ (I.tok _)
 ·subst ey;cases (show u=Value.ref b from ry)
  obtain⟨z,hd,xs,rel,dd⟩:=Og I.hok e;refine wpAny_in_heap (tupleKind_room_in1 hu) (Lj I.hok eb) hd dd ?_;have q:=(rel.val k).Hh;rw[Option.isSome_map] at q;rw[<-q,<-l];exact h _ (I.tok _)
theorem XH {Q:YA} (hu:A.units+1 < cLine) (I:Inv X jb U H s) (g:Fo H a y o) (ry:RelV y u) (h:∀s',Inv X jb U H s'->Q (.bool (!o.isSome)) s') :
  wpAny (model X.prog X.w) A (compareOp .NotIn u (.ref a)) Q E s:=by
 rcases g with⟨kvs,k,e,ey,l⟩|⟨kvs,k,b,e,ey,eb,l⟩
 ·subst ey;obtain⟨z,hd,vs,rel,dd⟩:=Lq I.hok e;refine wpAny_notIn_of (Lk ry) hd dd.mapOf ?_;rw[<-(rel.val k).Hh,<-l];exact h _ (I.tok _)
 ·subst ey;cases (show u=Value.ref b from ry)
  obtain⟨z,hd,xs,rel,dd⟩:=Og I.hok e;refine wpAny_notIn_heap (tupleKind_room_in1 hu) (Lj I.hok eb) hd dd ?_;have q:=(rel.val k).Hh;rw[Option.isSome_map] at q;rw[<-q,<-l];exact h _ (I.tok _)
theorem XF {h':Heap} {t':Nat} {ob:HO} (I:Inv X jb U H s) (mu:Mut (H a)) (hs:Heap.SameBut a s.heap h') (he:∃q,h'.get? a=some q) (new:Bu X.prog X.w (upd H a ob) h' a ob) :
  Inv X jb U (upd H a ob) { s with heap:=h',toks:=t' }:=
 I.write (x:=a) (e:=a) mu (.inl rfl) (λb q hb z=>(hs.2 b hb).trans z) he new
theorem Zv {P:Program} {w:World} {H':Hp} {h':Heap} {kvs:YM} {vs:List (Key×Value)} (z:kvs.length<=sizeLine) (hd:(a == sysModules)=false) (rel:KV kvs vs) (dd:h'.DictOf (Cv P w) a vs) :
  Bu P w H' h' a (.dK kvs):=⟨z,hd,vs,rel,dd⟩
end
section
variable {X:Cx} {jb:YC} {U : St} {H:Hp} {s:Shared} {a:Addr} {kvs:YM} {k:Key} {u:Value} {A:Around} {E:YA}
end
def ZL (i:Expr):Prop:=∀ov iv,subscripted i false ov iv=operate [ov,iv] (getItem ov iv)
theorem W8 {prog:Program} {w:World} {A:Around} {E:YA} {s:Shared} {env:Env} {value slice:Expr} {pos:Pos} {T id:String} {Q:YA}
  (hl:typeLookup (.type T) "__getitem__"=pure (some (.builtin id))) (hs:ZL slice)
  (h:wpAny (model prog w) A (eval value env) (λo s₁=>wpAny (model prog w) A (eval slice env) (λi s₂=>s₂.TypeIs o T/\wpAny (model prog w) A (getItem o i) Q E s₂) E s₁) E s) :
  wpAny (model prog w) A (eval (.Subscript value slice pos) env) Q E s:=by
 refine Subscript_ (Qbr h (λo s₁ h₁=>Qbr h₁ (λi s₂ h₂=>?_) λ_ _ x=>x) λ_ _ x=>x);obtain⟨hT,h₂⟩:=h₂;unfold subscriptTail;refine Qbp ?_;rw[getitemInPython_of_ne hT.not_modules];refine Qbp (wpAny_specialOf hT hl ?_);have fin:wpAny (model prog w) A (subscripted slice false o i) (λr s₃=>wpAny (model prog w) A (letTemporaryGo value o r >>= λ_=>pure r) Q E s₃) E s₂:=by
  rw[hs o i];exact wpAny_operating (Qbr h₂ (λr s₃ h₃=>Qbp (wpAny_letTemporaryGo (Qbq h₃))) λ_ _ x=>x)
 first
  | exact Qbq (Qbp fin)
  | exact Qbp (Qbq (Qbp fin))
  | exact Qbp fin
theorem QH {X:Cx} {jb:YC} {U : St} {H:Hp} {s:Shared} {a:Addr} {y:V} {o:Option V} (I:Inv X jb U H s) (g:Fo H a y o):s.TypeIs (.ref a) "dict":=by
 rcases g with⟨kvs,k,e,_,_⟩|⟨kvs,k,b,e,_,_,_⟩
 ·obtain⟨_,_,vs,_,dd⟩:=Lq I.hok e;exact dd.typeIs
 ·obtain⟨_,_,xs,_,dd⟩:=Og I.hok e;exact dd.typeIs
def Z0 (td ty:TE):TE:=fun U H Q=>td U H λx H1=>ty U H1 λy H2=>∃a v,x=.ref a/\Fo H2 a y (some v)/\Q v H2
def aN (ty td:TE):TE:=fun U H Q=>ty U H λy H1=>td U H1 λx H2=>∃a o,x=.ref a/\Fo H2 a y o/\Q (.bl o.isSome) H2
def W7 (ty td:TE):TE:=fun U H Q=>ty U H λy H1=>td U H1 λx H2=>∃a o,x=.ref a/\Fo H2 a y o/\Q (.bl (!o.isSome)) H2
section
variable {X:Cx} {o i e value:Expr} {pos pos' tpos:Pos} {td ty tv:TE}
theorem Kd (hu:X.A.units+1 < cLine) (ho:PE X o td) (hi:PE X i ty) (hs:ZL i):PE X (.Subscript o i pos) (Z0 td ty):=by
 intro jb s U H Q I h;refine W8 PySem.F.slot_dict_getitem.lookup hs (thn (ho jb s U H _ I h) λu s1 zz=>?_);obtain⟨x,H1,I1,rx,q1⟩:=zz;refine thn (hi jb s1 U H1 _ I1 q1) λiv s2 zz=>?_;obtain⟨y,H2,I2,ry,a,v,ex,g,q2⟩:=zz;subst ex;obtain rfl:u=Value.ref a:=rx;exact⟨QH I2 g,UJ hu I2 g ry λw' s3 I3 rw'=>⟨v,H2,I3,rw',q2⟩⟩
theorem YT (hu:X.A.units+1 < cLine) (hi:PE X i ty) (ho:PE X o td):PC X .In i o (aN ty td):=by
 intro jb s U H Q I h;refine thn (hi jb s U H _ I h) λiv s1 zz=>?_;obtain⟨y,H1,I1,ry,q1⟩:=zz;refine thn (ho jb s1 U H1 _ I1 q1) λu s2 zz=>?_;obtain⟨x,H2,I2,rx,a,ov,ex,g,q2⟩:=zz;subst ex;obtain rfl:u=Value.ref a:=rx;exact dF hu I2 g ry λs3 I3=>⟨.bl ov.isSome,H2,I3,rq,q2⟩
theorem T9 (hu:X.A.units+1 < cLine) (hi:PE X i ty) (ho:PE X o td):PC X .NotIn i o (W7 ty td):=by
 intro jb s U H Q I h;refine thn (hi jb s U H _ I h) λiv s1 zz=>?_;obtain⟨y,H1,I1,ry,q1⟩:=zz;refine thn (ho jb s1 U H1 _ I1 q1) λu s2 zz=>?_;obtain⟨x,H2,I2,rx,a,ov,ex,g,q2⟩:=zz;subst ex;obtain rfl:u=Value.ref a:=rx;exact XH hu I2 g ry λs3 I3=>⟨.bl (!ov.isSome),H2,I3,rq,q2⟩
end
theorem V3 {P:Program} {w:World} {H:Hp} (h:Heap) (hb:sysModules < h.objs.size):Bu P w H (h.push { cls:=.type "dict",data:=.dict #[] }) h.objs.size (.dK []):=
 ⟨Qbn _,beq_eq_false_iff_ne.mpr (Ne.symm (Qbl hb)),[],.nil,Heap.DictOf.new h⟩
section
variable {X:Cx} {pos:Pos}
end
def Oj:List (TE×TE)->St->Hp->(List (V×V)->Hp->Prop)->Prop
 | [],_,H,Q=>Q [] H
 | (tk,tv)::r,U,H,Q=>tk U H λx H1=>tv U H1 λy H2=>Oj r U H2 λps H3=>Q ((x,y)::ps) H3
abbrev VV:List (V×V)->List (Value×Value)->Prop:=Paired λp q=>RelV p.1 q.1/\RelV p.2 q.2
def PPs (X:Cx) (pos:Pos) (keys:List (Option Expr)) (values:YJ) (trs:List (TE×TE)):Prop:=
 ∀(jb:YC) (s:Shared) (U : St) (H:Hp) (Q:List (V×V)->Hp->Prop),Inv X jb U H s->Oj trs U H Q ->
  wpAny (model X.prog X.w) X.A (evalPairs (pairTrees keys values X.env pos)) (λvs s'=>∃ps H',Inv X jb U H' s'/\VV ps vs/\Q ps H') X.xe s
theorem Q6 {X:Cx} {pos:Pos}:PPs X pos [] [] []:=λjb s U H Q I h=>pairTrees_nil_walk ⟨[],H,I,.nil,h⟩
theorem CV {X:Cx} {pos:Pos} {k v:Expr} {ks:List (Option Expr)} {vs:YJ} {tk tv:TE} {trs:List (TE×TE)} (hk:PE X k tk) (hv:PE X v tv) (hr:PPs X pos ks vs trs) :
  PPs X pos (some k::ks) (v::vs) ((tk,tv)::trs):=λjb s U H Q I h=>
 pairTrees_cons_walk (thn (hk jb s U H _ I h) λu s1 ⟨x,H1,I1,rx,q1⟩=>thn (hv jb s1 U H1 _ I1 q1) λw2 s2 ⟨y,H2,I2,ry,q2⟩=>
  thn (hr jb s2 U H2 _ I2 q2) λws s3 ⟨ps,H3,I3,rel,q3⟩=>⟨(x,y)::ps,H3,I3,.cons ⟨rx,ry⟩ rel,q3⟩)
def CK (kvs more:YM):YM:=more.foldl (λacc kv=>putK acc kv.1 kv.2) kvs
theorem KV.merge:∀{more:YM} {rs:List (Key×Value)} {kvs:YM} {vs:List (Key×Value)},KV more rs->KV kvs vs->KV (CK kvs more) (merged vs rs):=by
 intro more rs kvs vs r;unfold KV at r
 induction r generalizing kvs vs with
 | nil=>intro q;exact q
 | @cons p q ps qs h t ih=>
  intro r0;have e:KV (putK kvs p.1 p.2) (stored vs q.1 q.2):=by
   have:=r0.put p.1 h.2;rw[<-h.1];exact this
  exact ih e
theorem Jx:∀(more kvs:YM),(CK kvs more).length<=kvs.length+more.length
 | [],kvs=>by show kvs.length<=kvs.length+0;omega
 | p::r,kvs=>by
  have h1:=Jx r (putK kvs p.1 p.2);have h2:=QC kvs p.1 p.2;show (CK (putK kvs p.1 p.2) r).length<=_;rw[QaJ];omega
theorem Lw {P:Program} {w:World}:∀{kvs:YM} {ws:List (Value×Value)},VV (kvs.map λkv=>(kV kv.1,kv.2)) ws->∃rs,Carries (Cv P w) ws rs/\KV kvs rs
 | [],_,r=>by rw[List.map_nil] at r;cases r;exact⟨[],True.intro,.nil⟩
 | p::kvs,_,r=>by
  rw[Qbd] at r;cases r with
  | @cons a b as bs h t=>
   obtain⟨rs,c,q⟩:=Lw (P:=P) (w:=w) t;obtain⟨b1,b2⟩:=b;exact⟨(p.1,b2)::rs,⟨Lk h.1,rq,c⟩,.cons ⟨rq,h.2⟩ q⟩
def ZX (trs:List (TE×TE)):TE:=fun U H Q=>∀p,H p=none->Oj trs U (upd H p (.dK [])) λps H2=>H2 p=some (.dK [])/\∃kvs:YM,ps=kvs.map (λkv=>(kV kv.1,kv.2))/\kvs.length<=15/\Q (.ref p) (upd H2 p (.dK (CK [] kvs)))
theorem Q8 {X:Cx} {pos:Pos} {keys:List (Option Expr)} {values:YJ} {trs:List (TE×TE)} (h:PPs X pos keys values trs) (hall:keys.all (·.isSome)=true) (hl:keys.length=values.length) (h0:keys≠[])
  (h15:keys.length<=15):PE X (.Dict keys values pos) (ZX trs):=by
 intro jb s U H Q I q;have hn:=I.hok.fresh (Qbm s.heap.objs.size);have I1:=I.laid (a:=s.heap.objs.size) (o:=.dK []) (h':=s.heap.push { cls:=.type "dict",data:=.dict #[] }) (t':=s.toks) (λ_ _ q=>Qai _ q) (Qbm _) (V3 s.heap I.big);refine wpAny_Dict_walk (knd:=Cv X.prog X.w) hall hl h0 h15 (thn (h jb _ U _ _ I1 (q _ hn)) λws s2 zz=>?_);obtain⟨ps,H2,I2,rel,e,kvs,ep,lk,q2⟩:=zz;subst ep;obtain⟨rs,c,rk⟩:=Lw (P:=X.prog) (w:=X.w) rel;obtain⟨z,hd,vs0,r0,dd⟩:=aB I2.hok e;cases r0;refine⟨rs,c,dd,λh' dd' hs=>⟨.ref s.heap.objs.size,_,?_,rq,q2⟩⟩;have hz:(CK [] kvs).length<=sizeLine:=by
  have h1:=Jx kvs [];rw[List.length_nil] at h1;rw[sizeLine_eq];omega
 have he:∃q,h'.get? s.heap.objs.size=some q:=let ⟨q,_,_,hq,_⟩:=dd';⟨q,hq⟩;exact XF I2 (by rw[e];exact True.intro) hs he (Zv hz hd (rk.merge .nil) dd')
section
variable {X:Cx} {jb:YC} {U : St} {H:Hp} {s:Shared} {a:Addr} {y d:V} {u r:Value} {o:Option V} {A:Around} {E:YA}
end
section
variable {X:Cx} {o e f:Expr} {apos cpos:Pos} {td ty tx:TE}
end
section
variable {X:Cx} {jb:YC} {U : St} {H:Hp} {s:Shared} {a:Addr} {kvs:YM} {A:Around} {E:YA}
end
section
variable {X:Cx} {jb:YC} {U : St} {H:Hp} {s:Shared} {a:Addr} {y:V} {u:Value} {A:Around} {E:YA}
end
section
variable {X:Cx}
end
section
variable {κ : Type} [DecidableEq κ]
theorem Rf:∀{l:List κ} {k:κ},l.Nodup->¬k∈l->(l++[k]).Nodup
 | [],k,_,_=>by simp
 | a::r,k,h,hk=>by
  obtain⟨h1,h2⟩:=QaV.mp h;show (a::(r++[k])).Nodup;refine QaV.mpr ⟨λm=>?_,Rf h2 λm=>hk (Qbe.mpr (Or.inr m))⟩;rcases QaR.mp m with q | q
  ·exact h1 q
  ·exact hk (Qbe.mpr (Or.inl (Qax.mp q).symm))
end
end L2
namespace PySem
open Sem (wp)
section
variable {prog:Program} {w:World} {A:Around} {E:YA} {s:Shared}
theorem Im {it l:Addr} {i:Nat} {items:Array Value} {x:Value} {Q:YA} (hit:s.heap.IsTupleIter it l i) (hl:s.heap.IsTuple l items) (hx:items[i]?=some x)
  (hQ:∀h',h'.IsTupleIter it l (i+1)->Heap.SameBut it s.heap h'->Q x { s with heap:=h' }):wpAny (model prog w) A (Builtin.SmallTypes.nextOf (.ref it)) Q E s:=by
 obtain⟨o,ho,hc,hd⟩:=id hit;obtain⟨ol,hol,_,nl,hdl⟩:=hl;unfold Builtin.SmallTypes.nextOf;refine Qbp (Qag (name:=Str.ofString "__next__") hit.typeIs Qaa (QaL Qaa hit.typeIs PyProof.Rows.entry_tupleiter_next ?_ (PyProof.Rows.args_tupleiter_next _)));show wpAny _ _ (field (.ref it) 0 >>= _) _ _ s;refine Qbp (Qbo ho hd (x:=.ref l) rfl ?_);show wpAny _ _ (if (Value.ref l == Value.none)=true then _ else _) _ _ s
 rw[if_neg (show ¬((Value.ref l == Value.none)=true) from Qas)]
 show wpAny _ _ (field (.ref it) 1 >>= _) _ _ s;refine Qbp (Qbo ho hd (x:=.int i 0) rfl ?_);show wpAny _ _ (seqItems? (.ref l) >>= _) _ _ s;refine Qbp (Qbb hol hdl ?_);simp only[QaH,hx];refine Qbp (wpAny_setField ho hd (by simp) (Qbq ⟨x,rq,Qbq (hQ _ ?_ (Heap.SameBut.update ..))⟩));exact⟨_,Heap.get?_update_self _ ho (Obj.isFreed_of_fields (Obj.data_mapFields hd _)),(Obj.cls_mapFields ..).trans hc,by rw[Obj.data_mapFields hd];simp[rawInt]⟩
theorem Ml {it l:Addr} {i:Nat} {items:Array Value} {Q:YA} (hh:A.handled=none) (hit:s.heap.IsTupleIter it l i) (hl:s.heap.IsTuple l items) (hx:items[i]?=none)
  (hE:∀h' e,Heap.ExtBut it s.heap h'->(∃o,h'.get? e=some o/\o.cls=.type "StopIteration")->E (.ref e) { s with heap:=h' }):wpAny (model prog w) A (Builtin.SmallTypes.nextOf (.ref it)) Q E s:=by
 obtain⟨o,ho,hc,hd⟩:=id hit;obtain⟨ol,hol,_,nl,hdl⟩:=hl;unfold Builtin.SmallTypes.nextOf;refine Qbp (Qag (name:=Str.ofString "__next__") hit.typeIs Qaa (QaL Qaa hit.typeIs PyProof.Rows.entry_tupleiter_next ?_ (PyProof.Rows.args_tupleiter_next _)));show wpAny _ _ (field (.ref it) 0 >>= _) _ _ s;refine Qbp (Qbo ho hd (x:=.ref l) rfl ?_);show wpAny _ _ (if (Value.ref l == Value.none)=true then _ else _) _ _ s
 rw[if_neg (show ¬((Value.ref l == Value.none)=true) from Qas)]
 show wpAny _ _ (field (.ref it) 1 >>= _) _ _ s;refine Qbp (Qbo ho hd (x:=.int i 0) rfl ?_);show wpAny _ _ (seqItems? (.ref l) >>= _) _ _ s;refine Qbp (Qbb hol hdl ?_);simp only[QaH,hx];refine Qbp (wpAny_rule (Qbp (wpAny_setField ho hd (by simp) ?_)));show wpAny _ _ (newExc (.type "StopIteration") [] >>= _) _ _ _;refine Qbp ?_;simp only[newExc,newTuple];refine Qbp (QaE ?_ (by size_fits));refine Qbp (m:=firstArgMember _ _) (wpAny_of_eq (a:=Value.none) (by first | rfl | (simp only[firstArgMember];rfl)) ?_)
 refine QaE ?_ (by size_fits);simp only[raiseNew];refine Qbp (wpAny_handled ?_)
 first | rw[show A.in1.handled=none from hh] | rw[hh]
 refine Qbp (Qbq (wpAny_throw ?_));exact hE _ _ (((Heap.SameBut.update ..).extBut.push _).push _) ⟨_,Qao _ rfl,rq⟩
end
theorem Draws.tup {prog:Program} {w:World} {A:Around} (hh:A.handled=none) (it l:Addr) (hne:l≠it) (items:Array Value) :
  Draws prog w A it [it,l] items.size (λi v=>items[i]?=some v) (λi h=>h.IsTupleIter it l i/\h.IsTuple l items) where
 live:=λ_ _ st=>let ⟨o,ho,_⟩:=st.1;⟨o,ho⟩
 frame:=λ_ _ _ st hk=>⟨st.1.at λo e=>hk it (by simp) o e,let ⟨o,e,r⟩:=st.2;⟨o,hk l (by simp) o e,r⟩⟩
 item:=λi s Q E hi st hQ=>Im st.1 st.2 (x:=items[i]) (by simp[hi]) λh' hit' hs'=>hQ _ h' s.toks (by simp[hi]) ⟨hit',let ⟨o,e,r⟩:=st.2;⟨o,hs'.extBut _ _ hne e,r⟩⟩ hs'
 done:=λs Q E st hE=>Ml hh st.1 st.2 (by simp) hE
theorem Draws.from {prog:Program} {w:World} {A:Around} {it:Addr} {fp:List Addr} {n:Nat} {P:Nat->Value->Prop} {St:Nat->Heap->Prop} (D:Draws prog w A it fp n P St) (k:Nat) :
  Draws prog w A it fp (k+n) (λj v=>∃i,j=k+i/\P i v) (λj h=>∃i,j=k+i/\i<=n/\St i h) where
 live:=λ_ _ ⟨i,_,_,st⟩=>D.live i _ st
 frame:=λ_ _ _ ⟨i,e,hi,st⟩ hk=>⟨i,e,hi,D.frame i _ _ st hk⟩
 item:=λj s Q E hj ⟨i,e,hi,st⟩ hQ=>D.item i s Q E (by omega) st λx h' tk p st' sb=>hQ x h' tk ⟨i,e,p⟩ ⟨i+1,by omega,by omega,st'⟩ sb
 done:=λs Q E ⟨i,e,hi,st⟩ hE=>by
  have:i=n:=by omega
  subst this;exact D.done s Q E st hE
end PySem
namespace L2
open PySem PySem.Spec PyProof.Rows
section
variable {X:Cx} {jb:YC} {U : St} {H:Hp} {s:Shared} {h':Heap}
theorem Inv.Tj {t':Nat} {fp:List Addr} {t:Addr} {o:HO} (I:Inv X jb U H s) (ht:s.heap.objs.size<=t) (k:∀b u,b∉fp->s.heap.get? b=some u->h'.get? b=some u) (hf:∀b∈fp,Ed X jb H b) (new:Bu X.prog X.w (upd H t o) h' t o) :
  Inv X jb U (upd H t o) { s with heap:=h',toks:=t' }:=by
 have nt:=I.hok.fresh ht;have old:∀b u,s.heap.get? b=some u->b≠t:=λb u e z=>absurd (Qat (Qbj e) ht) (by rw[z];exact Qbg _);have nf:∀b u,H b=some u->b∉fp:=λb u e z=>by rw[(hf b z).1] at e;cases e
 have tr:∀b u,H b=some u->(upd H t o) b=some u:=λb u e=>by rw[Bo (BK e nt)];exact e
 refine I.step (g':=s.gens) (d':=s.drawn) (ch:=fp) (λb hb=>?_) (λb u _ _ hc e _=>k b u hc e) (λb u _ _ hc e _=>⟨u.slots,k b u hc e⟩) (λb u hc e n=>by rw[Bo (old b u e)];exact n)
  (λb u hc e=>⟨u,k b u hc e⟩) (λ_ _ e=>tr _ _ e) (λ_ _ _ e=>tr _ _ e) (λb ps e=>⟨#[],by rw[tr _ _ e];simp⟩) (λm hm=>?_) (λb u e=>?_) I.bare
 ·obtain⟨_,f1,_,f3,f4,f5⟩:=hf b hb;exact⟨f3,f1,f4,f5⟩
 ·obtain⟨u,es,ep,hu,r⟩:=hm;exact⟨u,es,ep,k _ u (λz=>(hf _ z).2.1 rfl) hu,r⟩
 ·by_cases hb:b=t
  ·subst hb;rw[Ae] at e;cases e;exact new
  ·rw[Bo hb] at e;refine (I.hok b u e).stay (λc v hc q=>k c v ?_ q) (λc q=>tr _ _ q) λc xs q=>tr _ _ q;rcases hc with z | z
   ·rw[z];exact nf b u e
   ·exact nf c _ z
theorem Inv.W4 {t':Nat} {fp:List Addr} (I:Inv X jb U H s) (k:∀b u,b∉fp->s.heap.get? b=some u->h'.get? b=some u) (hf:∀b∈fp,Ed X jb H b):Inv X jb U H { s with heap:=h',toks:=t' }:=by
 have nf:∀b u,H b=some u->b∉fp:=λb u e z=>by rw[(hf b z).1] at e;cases e
 refine I.step (g':=s.gens) (d':=s.drawn) (ch:=fp) (λb hb=>?_) (λb u _ _ hc e _=>k b u hc e) (λb u _ _ hc e _=>⟨u.slots,k b u hc e⟩) (λb u hc e n=>n)
  (λb u hc e=>⟨u,k b u hc e⟩) (λ_ _ e=>e) (λ_ _ _ e=>e) (λb ps e=>⟨#[],by rw[e];simp⟩) (λm hm=>?_) (λb u e=>?_) I.bare
 ·obtain⟨_,f1,_,f3,f4,f5⟩:=hf b hb;exact⟨f3,f1,f4,f5⟩
 ·obtain⟨u,es,ep,hu,r⟩:=hm;exact⟨u,es,ep,k _ u (λz=>(hf _ z).2.1 rfl) hu,r⟩
 ·refine (I.hok b u e).stay (λc v hc q=>k c v ?_ q) (λ_ q=>q) λ_ _ q=>q;rcases hc with z | z
  ·rw[z];exact nf b u e
  ·exact nf c _ z
end
end L2
namespace PySem
open Sem (wp)
open AutoSeq1 (wpAny_loadPart')
end PySem
namespace PySem
open Sem (wp)
section
variable {prog:Program} {w:World} {A:Around} {E:YA} {s:Shared}
end
end PySem
namespace PyProof.Rows
open PySem
section
variable {M:Model} {A:Around} {E:YA} {s:Shared} {env:Env}
end
end PyProof.Rows
namespace L2
open PySem PySem.Spec PyProof.Rows
section
variable {X:Cx}
end
section
variable {X:Cx}
end
section
variable {X:Cx}
end
section
variable {X:Cx}
def ZP (i j:Int):Prop:=i.natAbs < 2 ^ 8000/\j.natAbs < 2 ^ 8000
theorem Qn {k:Int} (h:k.natAbs < 2 ^ 8000):Builtin.Int.intBits k<=8000:=by
 unfold Builtin.Int.intBits;split
 ·exact Qbn _
 ·rcases Nat.eq_zero_or_pos k.natAbs with h0 | hp
  ·rw[h0];decide
  ·have:=(Nat.log2_lt (Nat.ne_of_gt hp)).mpr h;omega
theorem ZP.ok {i j:Int} (h:ZP i j):IntMulOk i j:=by
 have h1:=Qn h.1;have h2:=Qn h.2;unfold IntMulOk;have e:Builtin.Int.intTooBig (Builtin.Int.intBits i+Builtin.Int.intBits j)=false:=by
  unfold Builtin.Int.intTooBig;rw[bitsLine_eq];exact QaP (by omega)
 rw[e,Bool.and_false];exact Qas
end
end L2
namespace PySem.ZZ
open PySem
section
variable {prog:Program} {w:World} {A:Around} {E:YA} {s:Shared}
theorem KJ {M:Model} {α β : Type} {Q:β->Shared->Prop} {body:α->β->Sem (ForInStep β)} (J:List α->β->Shared->Prop) (hnil:∀b s,J [] b s->Q b s)
  (hstep:∀x r b s,J (x::r) b s->wpAny M A (body x b) (λst s'=>match st with | .yield b'=>J r b' s' | .done b'=>Q b' s') E s):∀(l:List α) (b:β) (s:Shared),J l b s->wpAny M A (forIn l b body) Q E s
 | [],b,s,h=>by
  rw[List.forIn_nil];exact Qbq (hnil b s h)
 | x::r,b,s,h=>by
  rw[List.forIn_cons];refine Qbp (Qbr (hstep x r b s h) (λst s' q=>?_) λ_ _ e=>e);cases st with
  | yield b'=>exact KJ J hnil hstep r b' s' q
  | done b'=>exact Qbq q
structure Src where
 it:Addr
 a:Addr
 items:Array Value
def SrcAt (h:Heap) (x:Src) (i:Nat):Prop:=(h.IsListIter x.it x.a i/\h.IsList x.a x.items)\/(h.IsTupleIter x.it x.a i/\h.IsTuple x.a x.items)
theorem SrcAt.keep {h h':Heap} {x:Src} {i:Nat} (q:SrcAt h x i) (k1:∀o,h.get? x.it=some o->h'.get? x.it=some o) (k2:∀o,h.get? x.a=some o->h'.get? x.a=some o):SrcAt h' x i:=by
 rcases q with⟨q1,q2⟩|⟨q1,o,e,r⟩
 ·exact .inl ⟨q1.at k1,q2.at k2⟩
 ·exact .inr ⟨q1.at k1,o,k2 o e,r⟩
theorem SrcAt.ne {h:Heap} {x:Src} {i:Nat} (q:SrcAt h x i):x.a≠x.it:=λz=>by
 rcases q with⟨⟨o,e,c,_⟩,⟨o',e',c',_⟩⟩|⟨⟨o,e,c,_⟩,⟨o',e',c',_⟩⟩
 ·rw[z,e] at e';cases e';rw[c] at c';injection c' with y;exact absurd y (by decide)
 ·rw[z,e] at e';cases e';rw[c] at c';injection c' with y;exact absurd y (by decide)
theorem SrcAt.ex {h:Heap} {x:Src} {i:Nat} (q:SrcAt h x i):(∃o,h.get? x.it=some o)/\∃o,h.get? x.a=some o:=by
 rcases q with⟨⟨o,e,_⟩,⟨o',e',_⟩⟩|⟨⟨o,e,_⟩,⟨o',e',_⟩⟩
 ·exact⟨⟨o,e⟩,o',e'⟩
 ·exact⟨⟨o,e⟩,o',e'⟩
abbrev IsZ (h:Heap) (z TI TO:Addr) (f0 f1:Value):Prop:=h.get? z=some { cls:=.type "zip",dict:=none,data:=.fields #[f0,f1,.bool false,.ref TI,.ref TO],slots:=#[] }
abbrev Cp (h:Heap) (T:Addr) (xs:YE):Prop:=h.get? T=some { cls:=.type "tuple",data:=.seq xs.toArray }
structure Apart (z TI TO:Addr) (ls:List Src):Prop where
 TIz:TI≠z
 TOz:TO≠z
 TITO:TI≠TO
 it:∀x∈ls,x.it≠z/\x.it≠TI/\x.it≠TO
 a:∀x∈ls,x.a≠z/\x.a≠TO
 ai:∀x∈ls,∀y∈ls,x.a≠y.it
 nd:(ls.map (·.it)).Nodup
def Rest (z TO:Addr) (ls:List Src) (h h':Heap):Prop:=∀c o,c≠z->c≠TO->c∉ls.map (·.it)->h.get? c=some o->h'.get? c=some o
theorem RJ {z TI TO:Addr} {f0 f1:Value} {Q:Option Value->Shared->Prop} (hz:IsZ s.heap z TI TO f0 f1) {Qi:YA} (h:wpAny (model prog w) A.in1 (Builtin.«zip.__next__» ⟨[.ref z],[]⟩) (λfin s'=>∃v,fin=.done (.ret v)/\Qi v s') (λ_ _=>False) s) (hQ:∀v s',Qi v s'->Q (some v) s') :
  wpAny (model prog w) A (pyNext (.ref z)) Q E s:=by
 have hT:s.TypeIs (.ref z) "zip":=⟨_,hz,rq⟩;unfold pyNext;refine Qbp (wpAny_attempt (Qag (name:=Str.ofString "__next__") hT F.slot_zip_next (QaL F.slot_zip_next hT F.entry_zip_next (Qbr h (λfin s' q=>?_) λ_ _ f=>f.elim) (F.args_zip_next_1 _))));obtain⟨v,e,q⟩:=q;exact⟨v,e,Qbq (hQ v s' q)⟩
theorem LR {z TI TO:Addr} {f0 f1:Value} {Q:Option Value->Shared->Prop} {R:Heap->Prop} (hz:IsZ s.heap z TI TO f0 f1)
  (h:wpAny (model prog w) A.in1 (Builtin.«zip.__next__» ⟨[.ref z],[]⟩) (λ_ _=>False) (λv s'=>∃h' e,v=.ref e/\s'={ s with heap:=h' }/\R h'/\∃o,h'.get? e=some o/\o.cls=.type "StopIteration") s) (hQ:∀h',R h'->Q none { s with heap:=h' }) :
  wpAny (model prog w) A (pyNext (.ref z)) Q E s:=by
 have hT:s.TypeIs (.ref z) "zip":=⟨_,hz,rq⟩;unfold pyNext;refine Qbp (wpAny_attempt (Qag (name:=Str.ofString "__next__") hT F.slot_zip_next (QaL F.slot_zip_next hT F.entry_zip_next (Qbr h (λ_ _ f=>f.elim) λv s' q=>?_) (F.args_zip_next_1 _))));obtain⟨h',e,rfl,rfl,r,o,ho,hc⟩:=q;exact Qbp (wpAny_isInstance (T:="StopIteration") (b:=true) ⟨o,ho,hc⟩ isSubtype_stop (Qbq (hQ _ r)))
theorem Le {z TI TO:Addr} {f0 f1:Value} {Q:YA} (hz:IsZ s.heap z TI TO f0 f1) (h:Q (.ref z) s):wpAny (model prog w) A (pyIter (.ref z)) Q E s:=by
 have hT:s.TypeIs (.ref z) "zip":=⟨_,hz,rq⟩;refine wpAny_pyIter_slot hT F.slot_zip_iter (QaL F.slot_zip_iter hT F.entry_zip_iter ?_ (F.args_zip_iter_1 _));show wpAny _ _ (ret (.ref z)) _ _ s;exact Qbq ⟨_,rq,"zip",_,hT,F.slot_zip_next.lookup,h⟩
theorem Uj {elts:YJ} {x1} {pos:Pos} {z TI TO T:Addr} {f1:Value} {Q:YH} (hz:IsZ s.heap z TI TO (rawInt T) f1)
  (hQ:∀h',IsZ h' z TI TO .none f1->Heap.SameBut z s.heap h'->Q () { s with heap:=h' }):wpAny (model prog w) A (letOwnedTupleGo (.Tuple elts x1 pos) (.ref z) (.ref T)) Q E s:=by
 unfold letOwnedTupleGo;refine Qbp (wpAny_load hz ?_);show wpAny _ _ (if (["enumerate","zip","dict_itemiterator","dict_reverseitemiterator","odict_iterator","itertools.zip_longest","itertools.pairwise"].contains "zip" &&
   (#[rawInt T,f1,.bool false,.ref TI,.ref TO]:Array Value)[0]? == some (rawInt T))=true then _ else _) Q E s
 rw[if_pos (by simp)];refine Qbp (wpAny_rule ?_);show wpAny _ _ (setField (.ref z) 0 .none) Q E s;exact Qay hz (by simp) λh' hz' hs'=>hQ h' hz' hs'
end
end PySem.ZZ
namespace PySem
namespace F
end F
end PySem
namespace PySem.ZZ
open PySem
def SX (h:Heap) (a:Addr) (xs:Array Value) (c:String):Prop:=(c="list_iterator"/\h.IsList a xs)\/(c="tuple_iterator"/\h.IsTuple a xs)
theorem SX.src {h h':Heap} {a it:Addr} {xs:Array Value} {c:String} (q:SX h a xs c) (k:∀o,h.get? a=some o->h'.get? a=some o) (e:h'.get? it=some { cls:=.type c,data:=.fields #[.ref a,.int 0 0] }):SrcAt h' ⟨it,a,xs⟩ 0:=by
 rcases q with⟨rfl,q⟩|⟨rfl,o,ho,r⟩
 ·exact .inl ⟨⟨_,e,rq,rq⟩,q.at k⟩
 ·exact .inr ⟨⟨_,e,rq,rq⟩,o,k o ho,r⟩
theorem SX.lt {h:Heap} {a:Addr} {xs:Array Value} {c:String} (q:SX h a xs c):a < h.objs.size:=by
 rcases q with⟨rfl,o,e,_⟩|⟨rfl,o,e,_⟩
 ·exact Qbj e
 ·exact Qbj e
abbrev itO (c:String) (l:Addr):Obj:={ cls:=.type c,data:=.fields #[.ref l,.int 0 0] }
abbrev tuO (xs:Array Value):Obj:={ cls:=.type "tuple",data:=.seq xs }
abbrev z2a (h:Heap) (c1 c2:String) (l1 l2:Addr):Heap:=((((h.push (itO c1 l1)).push (itO c2 l2)).push (tuO #[.ref h.objs.size,.ref (h.push (itO c1 l1)).objs.size])).push (tuO #[.none,.none]))
abbrev z2 (h:Heap) (c1 c2:String) (l1 l2:Addr):Heap:=(z2a h c1 c2 l1 l2).push
 { cls:=.type "zip",data:=.fields #[.none,.bool false,.bool false,.ref ((h.push (itO c1 l1)).push (itO c2 l2)).objs.size,.ref (((h.push (itO c1 l1)).push (itO c2 l2)).push (tuO #[.ref h.objs.size,.ref (h.push (itO c1 l1)).objs.size])).objs.size] }
abbrev z3a (h:Heap) (c1 c2 c3:String) (l1 l2 l3:Addr):Heap:=(((((h.push (itO c1 l1)).push (itO c2 l2)).push (itO c3 l3)).push (tuO #[.ref h.objs.size,.ref (h.push (itO c1 l1)).objs.size,.ref ((h.push (itO c1 l1)).push (itO c2 l2)).objs.size])).push (tuO #[.none,.none,.none]))
abbrev z3 (h:Heap) (c1 c2 c3:String) (l1 l2 l3:Addr):Heap:=(z3a h c1 c2 c3 l1 l2 l3).push
 { cls:=.type "zip",data:=.fields #[.none,.bool false,.bool false,.ref (((h.push (itO c1 l1)).push (itO c2 l2)).push (itO c3 l3)).objs.size,.ref ((((h.push (itO c1 l1)).push (itO c2 l2)).push (itO c3 l3)).push (tuO #[.ref h.objs.size,.ref (h.push (itO c1 l1)).objs.size,.ref ((h.push (itO c1 l1)).push (itO c2 l2)).objs.size])).objs.size] }
section
variable {prog:Program} {w:World} {A:Around} {E:YA} {s:Shared}
end
end PySem.ZZ
namespace PySem
namespace F
end F
end PySem
namespace PySem.ZZ
open PySem
section
variable {prog:Program} {w:World} {A:Around} {E:YA} {s:Shared}
structure Run (hb:Heap) (z TI TO:Addr) (ls:List Src) (rows:Nat->YE) (S:Addr) (ts:List Addr) (h:Heap):Prop where
 inc:ts.Pairwise (· < ·)
 lo:∀t∈ts,S < t/\t < h.objs.size
 at_:∀j t,ts[j]?=some t->Cp h t (rows j)
 keep:∀c o,hb.get? c=some o->h.get? c=some o
 hTI:Cp h TI (ls.map λx=>.ref x.it)
 hTO:∃olds,Cp h TO olds/\olds.length=ls.length
 src:∀x∈ls,SrcAt h x ts.length
 hz:(ts=[]/\IsZ h z TI TO .none (.bool false))\/∃(T:Addr) (f1:Value),ts[0]?=some T/\IsZ h z TI TO (rawInt T) f1
structure Below (hb:Heap) (z TI TO:Addr) (ls:List Src) (S:Addr):Prop where
 ap:Apart z TI TO ls
 old:hb.objs.size<=z/\hb.objs.size<=TI/\hb.objs.size<=TO/\∀x∈ls,hb.objs.size<=x.it
 lz:z < S
 lTI:TI < S
 lTO:TO < S
 it:∀x∈ls,x.it < S/\x.a < S
 base:hb.objs.size<=S
theorem Run.frame {hb:Heap} {z TI TO:Addr} {ls:List Src} {rows:Nat->YE} {S:Addr} {ts:List Addr} {h h':Heap} (B:Below hb z TI TO ls S) (r:Run hb z TI TO ls rows S ts h) (hs:h'.objs.size=h.objs.size) (k:∀c o,c≠S->h.get? c=some o->h'.get? c=some o):Run hb z TI TO ls rows S ts h':=by
 obtain⟨olds,o1,o2⟩:=r.hTO;refine⟨r.inc,λt ht=>by rw[hs];exact r.lo t ht,λj t e=>k _ _ (Nat.ne_of_gt (r.lo t (Qam e)).1) (r.at_ j t e),λc o e=>k _ _ (Qbl (Qat (Qbj e) B.base)) (r.keep c o e),k _ _ (Qbl B.lTI) r.hTI,⟨olds,k _ _ (Qbl B.lTO) o1,o2⟩,λx hx=>?_,?_⟩
 ·exact (r.src x hx).keep (λo e=>k _ _ (Qbl (B.it x hx).1) e) (λo e=>k _ _ (Qbl (B.it x hx).2) e)
 ·rcases r.hz with⟨e,q⟩|⟨T,f1,e,q⟩
  ·exact .inl ⟨e,k _ _ (Qbl B.lz) q⟩
  ·exact .inr ⟨T,f1,e,k _ _ (Qbl B.lz) q⟩
theorem Run.more {hb:Heap} {z TI TO:Addr} {ls:List Src} {rows:Nat->YE} {S:Addr} {ts:List Addr} {h h':Heap} (B:Below hb z TI TO ls S) (r:Run hb z TI TO ls rows S ts h) (hS:S < h.objs.size) (hs:h'.objs.size=h.objs.size+1) (hr:Rest z TO ls h h')
  (hTI:Cp h' TI (ls.map λx=>.ref x.it)) (hTO:∃olds,Cp h' TO olds/\olds.length=ls.length) (src:∀x∈ls,SrcAt h' x (ts.length+1)) (new:Cp h' h.objs.size (rows ts.length)) (hz:∃(T:Addr) (f1:Value),(ts++[h.objs.size])[0]?=some T/\IsZ h' z TI TO (rawInt T) f1):Run hb z TI TO ls rows S (ts++[h.objs.size]) h':=by
 have fr:∀t,S < t->t≠z/\t≠TO/\t∉ls.map (·.it):=λt ht=>⟨λe=>by rw[e] at ht;exact Nat.lt_asymm ht B.lz,λe=>by rw[e] at ht;exact Nat.lt_asymm ht B.lTO,λe=>by
  obtain⟨x,hx,e'⟩:=List.mem_map.mp e;rw[<-e'] at ht;exact Nat.lt_asymm ht (B.it x hx).1⟩
 refine⟨?_,λt ht=>?_,λj t e=>?_,λc o e=>?_,hTI,hTO,λx hx=>by rw[Qaw];exact src x hx,.inr hz⟩
 ·exact List.pairwise_append.mpr ⟨r.inc,List.pairwise_singleton _ _,λa ha b hb'=>by
   have:b=h.objs.size:=by simpa using hb'
   rw[this];exact (r.lo a ha).2⟩
 ·rw[hs];rcases QaR.mp ht with ht | ht
  ·have:=r.lo t ht;exact⟨this.1,Nat.lt_succ_of_lt this.2⟩
  ·have:t=h.objs.size:=by simpa using ht
   rw[this];exact⟨hS,Nat.lt_succ_self _⟩
 ·by_cases c:j < ts.length
  ·rw[List.getElem?_append_left c] at e;have hlo:=r.lo t (Qam e);obtain⟨f1,f2,f3⟩:=fr t hlo.1;exact hr t _ f1 f2 f3 (r.at_ j t e)
  ·rw[List.getElem?_append_right (Nat.le_of_not_lt c)] at e;have hj:j - ts.length=0:=by
    have:=(Qad.mp e).1;rw[List.length_singleton] at this;omega
   rw[hj] at e;cases e;have:j=ts.length:=by omega
   rw[this];exact new
 ·have hlt:=Qbj e;refine hr c o (λq=>?_) (λq=>?_) (λq=>?_) (r.keep c o e)
  ·rw[q] at hlt;exact absurd hlt (Nat.not_lt.mpr B.old.1)
  ·rw[q] at hlt;exact absurd hlt (Nat.not_lt.mpr B.old.2.2.1)
  ·obtain⟨x,hx,e'⟩:=List.mem_map.mp q;rw[<-e'] at hlt;exact absurd hlt (Nat.not_lt.mpr (B.old.2.2.2 x hx))
end
end PySem.ZZ
namespace PySem.ZZ
open PySem
section
variable {prog:Program} {w:World} {A:Around} {E:YA} {s:Shared}
structure Rows (ls:List Src) (n:Nat) (rows:Nat->YE):Prop where
 row:∀j,j < n->(rows j).length=ls.length/\∀(k:Nat) (x:Src),ls[k]?=some x->∃v,(rows j)[k]?=some v/\x.items[j]?=some v
 stop:∃x∈ls,x.items[n]?=none
 ne:ls≠[]
 few:ls.length<=100
 most:n<=1000
end
end PySem.ZZ
namespace L2
open PySem PySem.Spec PyProof.Rows
section
variable {X:Cx} {jb:YC} {U : St} {H:Hp} {s:Shared} {h':Heap}
end
section
variable {X:Cx}
end
section
variable {X:Cx}
end
section
variable {X:Cx} {tg:Expr}
end
theorem Jy:∀{xs:YG} {us:YE},Vals xs us->Vals xs.reverse us.reverse
 | _,_,.nil=>.nil
 | _,_,.cons (l₁:=l) (l₂:=m) h t=>by
  rw[List.reverse_cons,List.reverse_cons];exact (Jy t).append (.cons h .nil)
section
variable {X:Cx} {e:Expr} {k:Expr} {te:TE} {tk:TO} {p2 pos:Pos}
end
mutual
inductive Jv (K:YD) (H:Hp):V->PyData->Prop
 | non:Jv K H .non .none
 | bl (b:Bool):Jv K H (.bl b) (.bool b)
 | int (i:Int):Jv K H (.int i) (.int i)
 | str (x:Str):Jv K H (.str x) (.str x)
 | tup {a:Addr} {xs:YG} {ds:List PyData}:SqT K H a xs->Gz K H xs ds->Jv K H (.ref a) (.tuple ds)
inductive Gz (K:YD) (H:Hp):YG->List PyData->Prop
 | nil:Gz K H [] []
 | cons {x:V} {d:PyData} {xs:YG} {ds:List PyData}:Jv K H x d->Gz K H xs ds->Gz K H (x::xs) (d::ds)
end
section
variable {X:Cx} {jb:YC} {U : St} {H:Hp} {s:Shared}
mutual
theorem Jv.reads (I:Inv X jb U H s):∀{v:V} {d:PyData} {u:Value},Jv X.K H v d->RelV v u->∃as,Reads s.heap u d as
 | _,_,_,.non,r=>by cases (show _=Value.none from r);exact⟨_,.none⟩
 | _,_,_,.bl b,r=>by cases (show _=Value.bool b from r);exact⟨_,.bool b⟩
 | _,_,_,.int i,r=>by obtain⟨t,rfl⟩:=(show ∃t,_=Value.int i t from r);exact⟨_,.int i t⟩
 | _,_,_,.str x,r=>by obtain⟨t,rfl⟩:=(show ∃t,_=Value.str x t from r);exact⟨_,.str x t⟩
 | _,_,_,.tup (a:=a) (xs:=xs) e q,r=>by
  cases (show _=Value.ref a from r)
  obtain⟨its,rv,⟨o,ho,hc,n,hd⟩,_⟩:=I.tuple e;obtain⟨as,z⟩:=Gz.reads I q rv;exact⟨_,.tuple ho hc hd (by simpa using z)⟩
theorem Gz.reads (I:Inv X jb U H s):∀{xs:YG} {ds:List PyData} {us:YE},Gz X.K H xs ds->Vals xs us->∃as,ReadsAll s.heap us ds as
 | _,_,_,.nil,.nil=>⟨_,.nil⟩
 | _,_,_,.cons p q,.cons r t=>by
  obtain⟨as,a1⟩:=Jv.reads I p r;obtain⟨bs,b1⟩:=Gz.reads I q t;exact⟨_,.cons a1 b1⟩
end
end
section
variable {X:Cx} {K:YD}
end
end L2
namespace L2
open PySem PySem.Spec PyProof.Rows
abbrev Wi:YE:=[.type "ValueError",.type "Exception",.type "BaseException",.type "object"]
structure XCl (K:YD) (C:Addr):Prop where
 ex:PySem.W.excIn K C Wi "ValueError.__new__"=true
 ga:findIn K (.ref C) "__getattribute__"=some (some (.builtin "BaseException.__getattribute__"))
 gn:findIn K (.ref C) "__getattr__"=some none
 ca:findIn K (.ref C) "__class__"=some (some (.builtin "object.__class__"))
 mo:PySem.W.subIn K (.ref C) (.type "object")=some true
 mb:PySem.W.subIn K (.ref C) (.type "BaseException")=some true
 kp:keepIn K (.ref C)=true
section
variable {K:YD} {C:Addr}
theorem XCl.look (T:XCl K C):∃dd cd sl,K.lookup C=some ⟨.type "type",dd,.cls cd,sl⟩:=by
 have q:=T.ex;unfold PySem.W.excIn at q;split at q
 ·rename_i dd cd sl ho;exact⟨dd,cd,sl,ho⟩
 ·cases q
theorem XCl.obj (T:XCl K C) {h:Heap} (X:K.In h):∃bm N nm q bs hdct sn sub ab col dd k0 k1 k2 k3 k5 mN,h.get? C=some (excClassObj nm q C N bs bm hdct sn sub ab col dd k0 k1 k2 k3 k5 "ValueError.__new__")/\h.Ns N mN/\mN "__init__"=none/\OwnTail h Wi bm:=by
 have q:=T.ex;unfold PySem.W.excIn at q;split at q
 ·rename_i dd cd sl ho;split at q
  ·rename_i C' bm k0 k1 k2 k3 n k5 hm hs;simp only[QaI,beq_iff_eq,Bool.not_eq_true'] at q;obtain⟨⟨⟨⟨⟨rfl,rfl⟩,hdel⟩,ht⟩,hok⟩,hni⟩:=q;obtain⟨nm,bs,mro,ns,qn,hd,sn,sub,ab,col,del⟩:=cd;dsimp only at hm hdel hok hni;subst hm hdel;have hsl:sl=#[k0,k1,k2,k3,some (.builtin "ValueError.__new__"),k5]:=by
    obtain⟨l⟩:=sl;simp only at hs;rw[hs]
   subst hsl;exact⟨bm,ns,nm,qn,bs,hd,sn,sub,ab,col,dd,k0,k1,k2,k3,k5,_,X _ _ ho,.of_isNs (PySem.W.isNs_of_in X hok),PySem.W.nsMap_none_of_in X hok hni,PySem.W.tail_of_in X ht⟩
  ·cases q
 ·cases q
end
def XAt (a C:Addr) (h:Heap):Prop:=∃o vs,h.get? a=some o/\o.cls=.ref C/\o.data=.fields vs/\vs[2]?=some .none
section
variable {prog:Program} {w:World} {A:Around} {E:YA} {h:Heap} {g:Array GenState} {d:Drawn} {t:Nat} {os:OsState} {K:YD} {a C:Addr} {o:Obj}
end
section
variable {X:Cx} {jb:YC} {U : St} {H:Hp} {s:Shared}
end
def XT (B:Heap) (e C:Addr) (fl:Option Value) (h:Heap):Prop:=
 ∃oe vs,h.get? e=some oe/\oe.cls=.ref C/\oe.data=.fields vs/\vs[2]?=some .none /\
  match fl with
  | none=>vs[1]?=some .none
  | some f=>∃T oT ts,vs[1]?=some (.ref T)/\B.get? T=none/\T≠e/\h.get? T=some oT/\oT.data=.fields ts/\ts[3]?=some f
structure Fl (B:Heap) (l:List Env) (e C:Addr) (fl:Option Value) (h:Heap):Prop where
 stays:B.StaysIn h
 new:B.get? e=none
 fr:h.FunFrames B l
 tr:XT B e C fl h
theorem XT.at {B h:Heap} {e C:Addr} {fl:Option Value} (x:XT B e C fl h):XAt e C h:=by
 obtain⟨oe,vs,h1,h2,h3,h4,_⟩:=x;exact⟨oe,vs,h1,h2,h3,h4⟩
section
variable {M:Model} {A:Around} {E:YA} {s:Shared} {B:Heap} {env:Env} {outer l:List Env} {L e C:Addr} {Q:YH}
end
theorem Bu.there {P:Program} {w:World} {H:Hp} {h:Heap} {a:Addr} {o:HO} (x:Bu P w H h a o):∃u,h.get? a=some u:=by
 cases o with
 | lst xs=>obtain⟨_,its,n,_,q⟩:=x;exact⟨_,q⟩
 | tup xs=>obtain⟨_,its,_,ob,q,_⟩:=x;exact⟨_,q⟩
 | dK kvs=>obtain⟨_,_,vs,_,ob,es,ep,q,_⟩:=x;exact⟨_,q⟩
 | dT kvs=>obtain⟨_,_,xs,_,ob,es,ep,q,_⟩:=x;exact⟨_,q⟩
 | set S n=>obtain⟨ob,es,ep,t,q,_⟩:=x;exact⟨_,q⟩
 | ins C dx fs=>obtain⟨_,_,_,q,_⟩:=x;exact⟨_,q⟩
 | own y=>exact x
 | xd fs=>obtain⟨mA,⟨od,es,ep,q,_⟩,_⟩:=x;exact⟨_,q⟩
 | rng lo hi=>obtain⟨t,u,v,q⟩:=x;exact⟨_,q⟩
 | frz ob u=>exact⟨_,x.1⟩
 | tbl ps=>exact⟨_,x⟩
 | met f y=>exact⟨_,x⟩
 | ext φ=>exact x.2.1
structure Exc (P:Program) (w:World) (outer:List Env) (H:Hp) (s:Shared) (e C:Addr) (B:Heap) (H':Hp) (s':Shared):Prop where
 os:s'.os=s.os
 bare:AllBare s'.gens
 fl:∃fl,(fl=none\/fl=some .none)/\Fl B outer e C fl s'.heap
 un:Un (frs outer) [] H H' s.heap s'.heap
 hok:HOk P w H' s'.heap
 tin:∀b o,s'.heap.get? b=some o->H' b≠none->B.get? b=some o
 old:∀b o,s.heap.get? b=some o->H b=none->b∉frs outer->B.get? b=some o
 ex:∀b o,s.heap.get? b=some o->b∉frs outer->∃o',B.get? b=some o'
section
variable {P:Program} {w:World} {outer:List Env} {H H':Hp} {s s':Shared} {e C:Addr} {B h2:Heap} {fl:Option Value}
theorem Exc.free (x:Exc P w outer H s e C B H' s'):H' e=none:=by
 cases hq:H' e with
 | none=>rfl
 | some v=>
  obtain⟨o1,q1⟩:=(x.hok e v hq).there;have q2:=x.tin e o1 q1 (by rw[hq];exact λz=>nomatch z);obtain⟨_,_,g⟩:=x.fl;rw[g.new] at q2;cases q2
theorem Exc.fresh (x:Exc P w outer H s e C B H' s'):s.heap.get? e=none:=by
 cases hq:s.heap.get? e with
 | none=>rfl
 | some o=>
  obtain⟨_,_,g⟩:=x.fl;by_cases hb:e∈frs outer
  ·obtain⟨_,o1,q1,nf⟩:=g.fr.mem hb;obtain⟨oe,vs,q2,_,q3,_⟩:=g.tr;rw[q1] at q2;cases q2;exact absurd q3 (nf vs)
  ·obtain⟨o1,q1⟩:=x.ex e o hq hb;rw[g.new] at q1;cases q1
end
section
variable {X:Cx} {jb:YC} {U : St} {H H':Hp} {s s':Shared} {e C:Addr} {B h2:Heap} {fl:Option Value}
end
theorem PS.nox {X:Cx} {st:Stmt} {t:TS} (h:PS X.nox st t):PS X st t:=λjb s U H D I hw=>
 Qbr (h jb s U H D (I.wish _) hw) (λ_ _ q=>q.Ej) λ_ _ z=>False.elim z
section
variable {M:Model} {A:Around} {E:YA} {h:Heap} {g:Array GenState} {d:Drawn} {t:Nat} {os:OsState} {K:YD} {e C HC:Addr}
end
abbrev Cx.by (X:Cx) (pn:YC) (E:YA):Cx:={ X with pn:=pn,xe:=E }
section
variable {X:Cx} {jb RM pn:YC} {U : St} {H:Hp} {s:Shared} {E:YA} {ev:Value}
theorem Inv.by (I:Inv X jb U H s) (E:YA):Inv (X.by (X.pn++jb) E) [] U H s:=
 ⟨⟨I.ok.mod,I.ok.kind,I.ok.glob,I.ok.blt,I.ok.above,I.ok.inj,I.ok.has,I.ok.cab,I.ok.hd,I.ok.frames,I.ok.stk,I.ok.exf,I.ok.bs,I.ok.bsz,I.ok.Mi,I.ok.KQ,I.ok.Gm,I.ok.frf⟩,I.os,I.bare,I.base,I.loc,I.cell,I.free,I.Fd,
  λp hp=>I.pin p (by simpa using hp),I.hok,I.len⟩
end
def Ends.drop (D:Ends) (i:Nat):Ends where
 nx:=fun U H=>D.nx (U.set i none) H
 rt:=D.rt
 bk:=fun U H=>D.bk (U.set i none) H
 ct:=fun U H=>D.ct (U.set i none) H
structure Ip (k:Nat) (A:Around):Prop where
 dp:A.depth+3*k+5 < recursionLimit
 un:A.units+16*k+200 < cLine
theorem Ip.deeper {k:Nat} {A:Around} (r:Ip (k+1) A) (env:Env):Ip k (A.deeper env):=
 ⟨by have:=r.dp;show A.depth+1+3*k+5 < _;omega,by have:=r.un;show A.units+3+16*k+200 < _;omega⟩
theorem Ip.mono {j k:Nat} {A:Around} (r:Ip k A) (h:j<=k):Ip j A:=⟨by have:=r.dp;omega,by have:=r.un;omega⟩
theorem Ip.units {k:Nat} {A:Around} (r:Ip k A):A.units+64 < cLine:=by have:=r.un;omega
end L2
namespace L2
open PySem PySem.Spec PyProof.Rows PySem.SeqAt
theorem Az {c:Const} {k:Nat} {p:Pos} {es:YJ} {env:Env}:starEach (.Constant c k p::es) env=(false,eval (.Constant c k p) env)::starEach es env:=by rfl
theorem LC {f:Expr} {as:YJ} {ks:List Keyword} {p:Pos} {es:YJ} {env:Env}:starEach (.Call f as ks p::es) env=(false,eval (.Call f as ks p) env)::starEach es env:=by rfl
theorem Jz {as:YJ} {k:Nat} {p:Pos} {es:YJ} {env:Env}:starEach (.Tuple as k p::es) env=(false,eval (.Tuple as k p) env)::starEach es env:=by rfl
section
variable {X:Cx}
end
section
variable {prog:Program} {w:World} {A:Around} {E:YA} {s:Shared}
end
end L2
namespace L2
open PySem PySem.Spec PyProof.Rows
section
variable {X:Cx} {jb:YC} {U : St} {H:Hp} {s:Shared} {a:Addr} {kvs:YM} {o:Obj}
end
section
variable {a l:Addr} {o:Obj} {kvs:YM} {g:TG} {tb:TS} {D:Ends} {U : St} {H:Hp} {tt:TT} {te tk tv:TE} {Q:VK}
end
open PySem.W (KasT kas_asc kas_desc kas_rev kas_tail3 kas_descPart kas_count kas_place kas_bin kas_sort)
def Pm (n:Nat) (p:Array Nat):Prop:=p.toList.Perm (List.range n)
theorem Pm.lt {n:Nat} {p:Array Nat} (h:Pm n p) (n0:0 < n) (i:Nat):p.getD i 0 < n:=by
 by_cases hi:i < p.size
 ·have e:p.getD i 0=p[i]:=by simp[hi]
  rw[e];have hm:p[i]∈p.toList:=by simp
  exact List.mem_range.mp (h.mem_iff.mp hm)
 ·have e:p.getD i 0=0:=by simp[hi]
  rw[e];exact n0
section
variable {n:Nat} (n0:0 < n)
include n0
end
section
variable {prog:Program} {w:World} {A:Around} {E:YA} {s:Shared}
end
end L2
namespace L2
open PySem PySem.Spec PyProof.Rows
open PySem.W (KasT kas_asc kas_desc kas_rev kas_tail3 kas_descPart kas_count kas_place kas_bin kas_sort)
section
variable {n:Nat} {ky:Nat->Int}
def Gk (ky:Nat->Int) (p:Array Nat) (i:Nat):Int:=ky (p.getD i 0)
def Inj (n:Nat) (ky:Nat->Int):Prop:=∀i j,i < n->j < n->ky i=ky j->i=j
def ZJ (ky:Nat->Int) (p:Array Nat) (m:Nat):Prop:=∀i,i+1 < m->Gk ky p i < Gk ky p (i+1)
def S5 (ky:Nat->Int) (p:Array Nat) (m:Nat):Prop:=∀i j,i < j->j < m->Gk ky p i < Gk ky p j
theorem ZJ.all {p:Array Nat} {m:Nat} (h:ZJ ky p m):S5 ky p m:=λi j hij hj=>by
 induction j with
 | zero=>omega
 | succ j ih=>
  have h1:=h j hj;by_cases e:i=j
  ·rw[e];exact h1
  ·exact Int.lt_trans (ih (by omega) (by omega)) h1
theorem Y4 {α : Type} {l:List α} (nd:l.Nodup) {i j:Nat} (hi:i < l.length) (hj:j < l.length) (e:l[i]=l[j]):i=j:=by
 rcases Nat.lt_trichotomy i j with h | h | h
 ·exact absurd e (Qae.mp nd i j hi hj h)
 ·exact h
 ·exact absurd e.symm (Qae.mp nd j i hj hi h)
theorem Pm.size {p:Array Nat} (h:Pm n p):p.size=n:=by
 have:=List.Perm.length_eq h;simpa using this
theorem Pm.ne (hi:Inj n ky) {p:Array Nat} (h:Pm n p) {i j:Nat} (a:i < n) (b:j < n) (ne:i≠j):Gk ky p i≠Gk ky p j:=λe=>by
 have n0:0 < n:=by omega
 have hs:=h.size;have e:=hi _ _ (h.lt n0 i) (h.lt n0 j) e;have nd:p.toList.Nodup:=(List.Perm.nodup_iff h).mpr List.nodup_range;have e1:p.getD i 0=p.toList[i]'(by simp[hs,a]):=by simp[hs,a]
 have e2:p.getD j 0=p.toList[j]'(by simp[hs,b]):=by simp[hs,b]
 rw[e1,e2] at e;exact ne (Y4 nd _ _ e)
theorem S5.list {p:Array Nat} (h:Pm n p) (R:S5 ky p n):(p.toList.map ky).Pairwise (· < ·):=by
 have hs:=h.size;rw[Qae];intro i j hi hj hij;have hi':i < n:=by simpa [hs] using hi
 have hj':j < n:=by simpa [hs] using hj
 have:=R i j hij hj';unfold Gk at this;have e1:p.getD i 0=p[i]'(by omega):=by simp[hs,hi']
 have e2:p.getD j 0=p[j]'(by omega):=by simp[hs,hj']
 rw[e1,e2] at this;simpa using this
end
section
variable {prog:Program} {w:World} {A:Around} {s:Shared}
end
end L2
namespace L2
open PySem PySem.Spec PyProof.Rows
theorem CN.Yg {k:Nat} {A:Around} (r:CN k A):A.units+66 < cLine:=by have:=r.un;omega
section
variable {X:Cx} {K:YD}
end
end L2
namespace PySem
open Sem (wp)
open AutoSeq1 (wpAny_loadPart')
section
variable {prog:Program} {w:World} {A:Around} {E:YA} {s:Shared}
end
end PySem
namespace L2
open PySem PySem.Spec PyProof.Rows
section
variable {X:Cx}
end
section
variable {X:Cx}
end
section
variable {X:Cx}
end
theorem NT (elt t1 i1 t2 i2:Expr) (scope:Scope) (pos:Pos) (it acc:Value) (env:Env) :
  compTurn (.ListComp elt [⟨t1,i1,[],0⟩,⟨t2,i2,[],0⟩] scope pos) 0 it acc env=(do
   standAt i1.pos
   match <-pyNext it with
   | none=>pure (.done .next)
   | some v=>
    letOwnedTupleGo t1 it v
    assign t1 env v
    let x <-eval i2 env
    standAt i2.pos
    let x <-foldedSetIterable i2 env x;let _ <-runOwn (.compStart (.ListComp elt [⟨t1,i1,[],0⟩,⟨t2,i2,[],0⟩] scope pos) 1 (<-holding [x] (pyIter x)) acc env) env
    again (.compLoop (.ListComp elt [⟨t1,i1,[],0⟩,⟨t2,i2,[],0⟩] scope pos) 0 it acc env)):=by rfl
theorem Qc (elt t1 i1 t2 i2:Expr) (scope:Scope) (pos:Pos) (it acc:Value) (env:Env) :
  compTurn (.ListComp elt [⟨t1,i1,[],0⟩,⟨t2,i2,[],0⟩] scope pos) 1 it acc env=(do
   standAt i2.pos
   match <-pyNext it with
   | none=>pure (.done .next)
   | some v=>
    letOwnedTupleGo t2 it v
    assign t2 env v
    (do let _ <-call (.builtin "list.append") [acc,<-eval elt env])
    again (.compLoop (.ListComp elt [⟨t1,i1,[],0⟩,⟨t2,i2,[],0⟩] scope pos) 1 it acc env)):=by rfl
section
variable {prog:Program} {w:World} {A:Around} {R:Result->Shared->Prop} {s:Shared} {elt t1 i1 t2 i2:Expr} {scope:Scope} {pos:Pos} {it acc:Value} {env:Env}
theorem JW
  (h0:codeAny (model prog w) A (.compLoop (.ListComp elt [⟨t1,i1,[],0⟩,⟨t2,i2,[],0⟩] scope pos) 1 it acc env) R s)
  (h:wpAny (model prog w) A (pyIter it) (λit' s'=>codeAny (model prog w) A (.compLoop (.ListComp elt [⟨t1,i1,[],0⟩,⟨t2,i2,[],0⟩] scope pos) 1 it' acc env) R s')
   (notedBy (model prog w) A env λx s'=>R (.error x) s') s) :
  codeAny (model prog w) A (.compStart (.ListComp elt [⟨t1,i1,[],0⟩,⟨t2,i2,[],0⟩] scope pos) 1 it acc env) R s:=by
 refine codeAny_of_tree ?_;show wpAny _ _ ((compStart (.ListComp elt [⟨t1,i1,[],0⟩,⟨t2,i2,[],0⟩] scope pos) 1 it acc env).onRaise (λx=>do noteFrame x env;standAt theWindowsPlace)) _ _ s
 refine wpAny_notedAt ?_;unfold compStart;show wpAny _ _ (ask >>= _) _ _ s;refine Qbp (wpAny_askSetting (wpAny_ite ?_));split
 ·first
   | exact Qbp (Qbq (Qbq (And.intro rfl h0)))
   | exact Qbq (And.intro rfl h0)
 ·first
   | exact Qbp (wpAny_rule (Qbp (Qbh (Qbp (Qbr h (λit' s' h'=>Qbq (And.intro rfl h')) λ_ _ x=>x)))))
   | (refine Qbp (wpAny_rule ?_);show wpAny _ _ (standAt i2.pos >>= _) _ _ s;exact Qbp (Qbh (Qbp (Qbr h (λit' s' h'=>Qbq (And.intro rfl h')) λ_ _ x=>x))))
theorem NZ (J:Nat->Shared->Prop)
  (turn:∀n s,J n s->wpAny (model prog w) A (pyNext it) (λr s1=>match r with
   | none=>R (.ok .next) s1
   | some v=>wpAny (model prog w) A (letOwnedTupleGo t2 it v) (λ_ s2=>wpAny (model prog w) A (assign t2 env v) (λ_ s3=>
     wpAny (model prog w) A (eval elt env) (λx s5=>wpAny (model prog w) A (call (.builtin "list.append") [acc,x]) (λ_ s6=>∃m,m < n/\J m s6) (λ_ _=>False) s5) (λ_ _=>False) s3) (λ_ _=>False) s2) (λ_ _=>False) s1) (λ_ _=>False) s)
  (n:Nat) (h:J n s):codeAny (model prog w) A (.compLoop (.ListComp elt [⟨t1,i1,[],0⟩,⟨t2,i2,[],0⟩] scope pos) 1 it acc env) R s:=by
 refine codeAny_loop rfl J (λk s' hk=>?_) n h;show wpAny _ A (Sem.onRaise (compTurn (.ListComp elt [⟨t1,i1,[],0⟩,⟨t2,i2,[],0⟩] scope pos) 1 it acc env) (λx=>do noteFrame x env;theTreesLotGoes x)) _ _ s'
 refine wpAny_noted ?_;rw[Qc];refine Qbp (Qbh (Qbp (Qbr (turn k s' hk) (λr s1 q1=>?_) λ_ _ f=>f.elim)));cases r with
 | none=>exact Qbq q1
 | some v=>
  refine Qbp (Qbr q1 (λ_ s2 q2=>Qbp (Qbr q2 (λ_ s3 q3=>?_) λ_ _ f=>f.elim)) λ_ _ f=>f.elim);exact Qbp (Qbp (Qbr q3 (λx s5 q5=>Qbp (Qbr q5 (λ_ s6 q6=>Qbq (Qbq ⟨rq,q6⟩)) λ_ _ f=>f.elim)) λ_ _ f=>f.elim))
theorem Sx (hs2:∀x,foldedSetIterable i2 env x=pure x) (J:Nat->Shared->Prop)
  (turn:∀n s,J n s->wpAny (model prog w) A (pyNext it) (λr s1=>match r with
   | none=>R (.ok .next) s1
   | some v=>wpAny (model prog w) A (letOwnedTupleGo t1 it v) (λ_ s2=>wpAny (model prog w) A (assign t1 env v) (λ_ s3=>
     wpAny (model prog w) A (eval i2 env) (λx s4=>wpAny (model prog w) A (pyIter x) (λjt s5=>codeAny (model prog w) A (.compStart (.ListComp elt [⟨t1,i1,[],0⟩,⟨t2,i2,[],0⟩] scope pos) 1 jt acc env) (λr s6=>match r with | .ok _=>∃m,m < n/\J m s6 | .error _=>False) s5) (λ_ _=>False) s4) (λ_ _=>False) s3) (λ_ _=>False) s2) (λ_ _=>False) s1) (λ_ _=>False) s)
  (n:Nat) (h:J n s):codeAny (model prog w) A (.compLoop (.ListComp elt [⟨t1,i1,[],0⟩,⟨t2,i2,[],0⟩] scope pos) 0 it acc env) R s:=by
 refine codeAny_loop rfl J (λk s' hk=>?_) n h;show wpAny _ A (Sem.onRaise (compTurn (.ListComp elt [⟨t1,i1,[],0⟩,⟨t2,i2,[],0⟩] scope pos) 0 it acc env) (λx=>do noteFrame x env;theTreesLotGoes x)) _ _ s'
 refine wpAny_noted ?_;rw[NT];refine Qbp (Qbh (Qbp (Qbr (turn k s' hk) (λr s1 q1=>?_) λ_ _ f=>f.elim)));cases r with
 | none=>exact Qbq q1
 | some v=>
  refine Qbp (Qbr q1 (λ_ s2 q2=>Qbp (Qbr q2 (λ_ s3 q3=>?_) λ_ _ f=>f.elim)) λ_ _ f=>f.elim);refine Qbp (Qbr q3 (λx s4 q4=>Qbp (Qbh (Qbp (wpAny_of_eq (hs2 x) (Qbp (Qbi (Qbr q4 (λjt s5 q5=>?_) λ_ _ f=>f.elim))))))) λ_ _ f=>f.elim);refine Qbp (wpAny_runOwn (codeAny_mono q5 λr s6 q6=>?_));cases r with
  | ok f=>exact Qbq ⟨rfl,q6⟩
  | error e=>exact q6.elim
end
def CIn (J:It) (g:TG) (te:TE) (l:Addr) (N:YO) (σ0:St) (H0:Hp):Prop:=∃W:Nat->YN,(∃m,W 0 m σ0 H0) /\
 ∀i m σ' H',W i m σ' H'->(J.stop i H'/\N σ' H')\/(J.go i H'/\∃N2:YO,(∀ σ3 H3,N2 σ3 H3->∃m',m' < m/\W (i+1) m' σ3 H3)/\∀x H2,J.yld i H' x H2->g x σ' H2 fun σ3 H3=>
  te σ3 H3 λy H5=>∃xs,H5 l=some (.lst xs)/\xs.length < sizeLine/\N2 σ3 (upd H5 l (.lst (xs++[y]))))
@[irreducible] def Lz (J:It) (g:TG) (wi2:TI) (g2:TG) (te:TE) (Q:VK) (σ0:St) (H0:Hp) (l:Addr):Prop:=∃W:Nat->YN,(∃m,W 0 m σ0 H0) /\
 ∀i m σ' H',W i m σ' H'->(J.stop i H'/\Q (.ref l) H')\/(J.go i H'/\∃N:YO,(∀ σ3 H3,N σ3 H3->∃m',m' < m/\W (i+1) m' σ3 H3)/\∀x H2,J.yld i H' x H2->g x σ' H2 fun σ3 H3=>wi2 σ3 H3 λJ2 H4=>CIn J2 g2 te l N σ3 H4)
def Tr (wi:TI) (src:List (Option Nat)) (g:TG) (wi2:TI) (g2:TG) (te:TE):TE:=fun U H Q=>wi U H λJ H1=>∀l,H1 l=none->Lz J g wi2 g2 te Q (Ho src U) (upd H1 l (.lst [])) l
theorem V5 {Y:Cx} (hE:∀v s,Y.xe v s->False) (hc:Y.calm=true) {elt t1 i1 t2 i2:Expr} {sc:Scope} {pos:Pos} {l it:Addr} {fp:List Addr} {tn:Nat->Heap->Prop} {J:It} {g:TG} {te:TE} {N:YO} {jb:YC} {U : St} {H:Hp} {s:Shared}
  (T:Turn Y.prog Y.w Y.K t2 J fp it tn) (hg:PG Y t2 g) (he:PE Y elt te) (I:Inv Y jb U H s) (st:tn 0 s.heap) (f:∀b∈fp,Ed Y jb H b) (w:CIn J g te l N U H) :
  codeAny (model Y.prog Y.w) Y.A (.compStart (.ListComp elt [⟨t1,i1,[],0⟩,⟨t2,i2,[],0⟩] sc pos) 1 (.ref it) (.ref l) Y.env) (λr s'=>match r with | .ok _=>∃ σ' H',Inv Y jb σ' H' s'/\N σ' H' | .error _=>False) s:=by
 obtain⟨W,⟨m0,w0⟩,turn⟩:=w;have loop:codeAny (model Y.prog Y.w) Y.A (.compLoop (.ListComp elt [⟨t1,i1,[],0⟩,⟨t2,i2,[],0⟩] sc pos) 1 (.ref it) (.ref l) Y.env) (λr s'=>match r with | .ok _=>∃ σ' H',Inv Y jb σ' H' s'/\N σ' H' | .error _=>False) s:=by
  refine NZ (λn s'=>∃i σ' H',Inv Y jb σ' H' s'/\tn i s'.heap/\(∀b∈fp,H' b=none)/\W i n σ' H') ?_ m0 ⟨0,U,H,I,st,λb hb=>(f b hb).1,w0⟩;rintro n s3 ⟨i,σ3,H3,I3,st3,fr3,w3⟩;have stat:∀{H':Hp},(∀b∈fp,H' b=none)->∀b∈fp,Ed Y jb H' b:=λhn b hb=>⟨hn b hb,(f b hb).2⟩;rcases turn i n σ3 H3 w3 with⟨stop,qn⟩|⟨go,N2,hN,step⟩
  ·refine thn (T.done Y rfl rfl rfl hc i jb s3 σ3 H3 _ I3 (stat fr3) st3 stop) λr s4 zz=>?_;obtain⟨hr,I4⟩:=zz;subst hr;exact⟨σ3,H3,I4,qn⟩
  ·refine thn (T.item Y rfl rfl rfl hc i jb s3 σ3 H3 _ I3 (stat fr3) st3 go) λr s4 zz=>?_;obtain⟨u,hr,h4⟩:=zz;subst hr;refine thn h4 λ_ s5 zz=>?_;obtain⟨x,H5,I5,r5,y5,st5,fr5⟩:=zz;have I5':=I5.pinned (stat fr5) (T.obj _ _ st5);have again:∀{σ7:St} {H7:Hp} {s7:Shared},Inv Y (jb++HN fp s5.heap) σ7 H7 s7->N2 σ7 H7->∃m,m < n/\∃i σ' H',Inv Y jb σ' H' s7/\tn i s7.heap/\(∀b∈fp,H' b=none)/\W i m σ' H':=λ{σ7 H7 s7} I7 n7=>by
    obtain⟨m',hm,w7⟩:=hN σ7 H7 n7;refine⟨m',hm,i+1,σ7,H7,I7.Fg,T.keep _ _ _ st5 λb hb o e=>(I7.pin (b,o) (Qaj _ (Qaj _ (Ew hb e)))).1,λb hb=>?_,w7⟩;obtain⟨o,e,d⟩:=T.obj _ _ st5 b hb;exact (I7.pin (b,o) (Qaj _ (Qaj _ (Ew hb e)))).2.1
   refine Qbr (hg _ s5 σ3 H5 x u _ I5' r5 (step x H5 y5)) (λ_ s6 zz=>?_) λv s h=>(hE v s h).elim;obtain⟨σ6,H6,I6,q6⟩:=zz;refine Qbr (he _ s6 σ6 H6 _ I6 q6) (λy s9 zz=>?_) λv s h=>(hE v s h).elim;obtain⟨yv,H9,J9,r9,xs,hl9,hz9,q9⟩:=zz;refine Qbr (Hg _ s9 σ6 H9 (.ref l) [yv] (.ref l) [y] (λ_ H'=>N2 σ6 H') J9 rfl (.cons r9 .nil) ⟨_,xs,yv,rq,rq,hl9,hz9,q9⟩) (λ_ s10 zz=>?_) λv s h=>(hE v s h).elim;obtain⟨_,H10,J10,_,q10⟩:=zz;exact again J10 q10
 exact JW loop (T.self Y.A 0 _ _ _ st loop)
theorem SJ {X:Cx} {N':YF} {src:List (Option Nat)} {sc:Scope} {elt tg iter t2 i2:Expr} {pos pos':Pos} {wi wi2:TI} {g g2:TG} {te:TE} {use:Option (Value->Sem Unit)} {R:YA} (hc:X.calm=true) (S:Dc X N' src sc)
  (hi:PI X tg iter wi) (hg:∀s3 H3 fp pn,PG (cxC X N' sc s3 H3 fp pn) tg g) (hi2:∀s3 H3 fp pn,PI (cxC X N' sc s3 H3 fp pn) t2 i2 wi2) (hg2:∀s3 H3 fp pn,PG (cxC X N' sc s3 H3 fp pn) t2 g2) (he:∀s3 H3 fp pn,PE (cxC X N' sc s3 H3 fp pn) elt te)
  (hs:∀x,foldedSetIterable iter X.env x=pure x) (hs2:∀s3 H3 fp pn x,foldedSetIterable i2 (cxC X N' sc s3 H3 fp pn).env x=pure x) {jb:YC} {s:Shared} {U : St} {H:Hp} {Q:VK} (I:Inv X jb U H s) (h:Tr wi src g wi2 g2 te U H Q)
  (fin:∀s3 H3 fp σ4 H4 s5 l,Inv X jb U H3 s3->(∀b∈fp,Ed X jb H3 b)->Inv (cxC X N' sc s3 H3 fp (X.pn++jb)) [] σ4 H4 s5->Q (.ref l) H4 ->
   compPost (model X.prog X.w) X.A X.xe use R (.ref l) s3.heap.objs.size (.ok .next) s5) :
  wpAny (model X.prog X.w) X.A (comprehension (.ListComp elt [⟨tg,iter,[],0⟩,⟨t2,i2,[],0⟩] sc pos) sc X.env pos' (newList []) false (eval iter X.env) use) R X.xe s:=by
 refine wpAny_comprehension_free (use:=use) (cl:=Dr X.env sc.names []) rfl hs (Ls λp hp e=>I.ok.has p.1 (S.fv p hp e)) S.kind S.loc ?_;refine thn (hi jb s U H _ I h) λv s1 h1=>thn h1 λitv s2 h2=>?_;obtain⟨it,fp,tn,J,H2,rfl,I2,T,st2,f2,q⟩:=h2;have q':=q s2.heap.objs.size (I2.hok.fresh (Qbm _));unfold Lz at q';obtain⟨W,⟨m0,w0⟩,turn⟩:=q';refine QaE (wpAny_newFunctionEnv S.Gb (by intro y hy;simp at hy) (λha hns hsb=>?_) S.kind);have I3:Inv X jb U (upd H2 s2.heap.objs.size (.lst [])) { s2 with heap:=s2.heap.push { cls:=.type "list",dict:=none,data:=.seq ([]:YE).toArray } }:=
  I2.laid (t':=s2.toks) (λb u e=>Qai _ e) (Qbm _) ⟨Qbn _,[],0,.nil,Qao _ rfl⟩
 have hfl:∀b∈fp,b < s2.heap.objs.size:=λb hb=>by
  obtain⟨o,e,_⟩:=T.obj 0 _ st2 b hb;exact Qbj e
 have f3:∀b∈fp,Ed X jb (upd H2 s2.heap.objs.size (.lst [])) b:=λb hb=>⟨by rw[Bo (Qbl (hfl b hb))];exact (f2 b hb).1,(f2 b hb).2⟩;generalize hs3:({ s2 with heap:=s2.heap.push { cls:=.type "list",dict:=none,data:=.seq ([]:YE).toArray } }:Shared)=s3 at *;have hsz:s2.heap.objs.size < s3.heap.objs.size:=by rw[<-hs3];show s2.heap.objs.size < (s2.heap.push _).objs.size;rw[Heap.size_push];exact Nat.lt_succ_self _
 have kp:∀b o,s3.heap.get? b=some o->ha.get? b=some o:=λb o e=>hsb.extBut b o (Qbl (Qbj e)) (Qai _ e);have st3:tn 0 ha:=T.keep 0 _ _ st2 λb hb o e=>kp b o (by rw[<-hs3];exact Qai _ e);have I4:Inv (cxC X N' sc s3 (upd H2 s2.heap.objs.size (.lst [])) fp (X.pn++jb)) [] (Ho src U) (upd H2 s2.heap.objs.size (.lst [])) { s3 with heap:=ha,toks:=s3.toks+([]:List (Str×Value)).length }:=
  Qa S I3 f3 (λb hb=>Nat.lt_trans (hfl b hb) hsz) hns kp
 have loop:codeAny (model X.prog X.w) X.A (.compLoop (.ListComp elt [⟨tg,iter,[],0⟩,⟨t2,i2,[],0⟩] sc pos) 0 (.ref it) (.ref s2.heap.objs.size) (compEnvC sc (Dr X.env sc.names []) s3.heap.objs.size X.env))
   (compPost (model X.prog X.w) X.A X.xe use R (.ref s2.heap.objs.size) s3.heap.objs.size) { s3 with heap:=ha,toks:=s3.toks+([]:List (Str×Value)).length }:=by
  refine Sx (hs2 s3 (upd H2 s2.heap.objs.size (.lst [])) fp (X.pn++jb)) (λn s'=>∃i σ' H',Inv (cxC X N' sc s3 (upd H2 s2.heap.objs.size (.lst [])) fp (X.pn++jb)) [] σ' H' s'/\tn i s'.heap/\(∀b∈fp,H' b=none)/\W i n σ' H') ?_ m0 ⟨0,_,_,I4,st3,λb hb=>(f3 b hb).1,w0⟩;rintro n s4 ⟨i,σ4,H4,J4,st4,fr4,w4⟩;have stat:∀{H':Hp},(∀b∈fp,H' b=none)->∀b∈fp,Ed (cxC X N' sc s3 (upd H2 s2.heap.objs.size (.lst [])) fp (X.pn++jb)) [] H' b:=λhn b hb=>
   ⟨hn b hb,(I4.ok.exf b hb).1,I4.ok.KQ b hb,.inl hb,λx c e=>(I4.ok.exf b hb).2 x c e,λp hp=>(f3 b hb).2.2.2.2.2 p ((QaR.mp hp).elim id λz=>by cases z)⟩
  rcases turn i n σ4 H4 w4 with⟨stop,qn⟩|⟨go,N,hN,step⟩
  ·refine thn (T.done (cxC X N' sc s3 (upd H2 s2.heap.objs.size (.lst [])) fp (X.pn++jb)) rfl rfl rfl hc i [] s4 σ4 H4 _ J4 (stat fr4) st4 stop) λr s5 zz=>?_;obtain⟨hr,J5⟩:=zz;subst hr;exact fin s3 _ fp σ4 H4 s5 _ I3 f3 J5 qn
  ·refine thn (T.item (cxC X N' sc s3 (upd H2 s2.heap.objs.size (.lst [])) fp (X.pn++jb)) rfl rfl rfl hc i [] s4 σ4 H4 _ J4 (stat fr4) st4 go) λr s5 zz=>?_;obtain⟨u,hr,h5⟩:=zz;subst hr;refine thn h5 λ_ s6 zz=>?_;obtain⟨x,H6,J6,r6,y6,st6,fr6⟩:=zz;have J6':=J6.pinned (stat fr6) (T.obj _ _ st6);have back:∀{σ7:St} {H7:Hp} {s7:Shared},Inv (cxC X N' sc s3 (upd H2 s2.heap.objs.size (.lst [])) fp (X.pn++jb)) ([]++HN fp s6.heap) σ7 H7 s7->N σ7 H7 ->
     ∃m',m' < n/\∃i σ' H',Inv (cxC X N' sc s3 (upd H2 s2.heap.objs.size (.lst [])) fp (X.pn++jb)) [] σ' H' s7/\tn i s7.heap/\(∀b∈fp,H' b=none)/\W i m' σ' H':=λ{σ7 H7 s7} J7 w7=>by
    obtain⟨m',hm,w7⟩:=hN _ _ w7;have pinned:∀b∈fp,∀o,s6.heap.get? b=some o->s7.heap.get? b=some o/\H7 b=none:=λb hb o e=>by
     have:=J7.pin (b,o) (Qaj _ (Qaj _ (Ew hb e)));exact⟨this.1,this.2.1⟩
    refine⟨m',hm,i+1,σ7,H7,J7.Fg,T.keep _ _ _ st6 λb hb o e=>(pinned b hb o e).1,λb hb=>?_,w7⟩;obtain⟨o,e,_⟩:=T.obj _ _ st6 b hb;exact (pinned b hb o e).2
   refine thn (hg s3 _ fp _ _ s6 σ4 H6 x u _ J6' r6 (step x H6 y6)) λ_ s7 zz=>?_;obtain⟨σ7,H7,J7,q7⟩:=zz;refine thn (hi2 s3 _ fp _ _ s7 σ7 H7 _ J7 q7) λv s8 q8=>thn q8 λjt s9 q9=>?_;obtain⟨it2,fp2,tn2,J2,H9,rfl,I9,T2,st9,f9,q9⟩:=q9;refine codeAny_mono (V5 (Y:=cxC X N' sc s3 (upd H2 s2.heap.objs.size (.lst [])) fp (X.pn++jb)) (λ_ _ h=>h) hc T2 (hg2 s3 _ fp _) (he s3 _ fp _) I9 st9 f9 q9) λr s10 q10=>?_;cases r with
   | ok f=>obtain⟨σ',H',I',n'⟩:=q10;exact back I' n'
   | error e=>exact q10
 exact codeAny_compStart_list loop (T.self X.A 0 _ _ _ st3 loop)
end L2
namespace L2
open PySem
theorem GF {a b:Expr} {op:Operator} {p:Pos} {es:YJ} {env:Env}:starEach (.BinOp a op b p::es) env=(false,eval (.BinOp a op b p) env)::starEach es env:=by rfl
theorem Z2 {a:Expr} {op:UnaryOp} {p:Pos} {es:YJ} {env:Env}:starEach (.UnaryOp op a p::es) env=(false,eval (.UnaryOp op a p) env)::starEach es env:=by rfl
theorem BZ {x:Str} {p:Pos} {es:YJ} {env:Env}:starEach (.Name x p::es) env=(false,eval (.Name x p) env)::starEach es env:=by rfl
theorem La {as:YJ} {p:Pos} {es:YJ} {env:Env}:starEach (.List as p::es) env=(false,eval (.List as p) env)::starEach es env:=by rfl
theorem K9 {a b:Expr} {p:Pos} {es:YJ} {env:Env}:starEach (.Subscript a b p::es) env=(false,eval (.Subscript a b p) env)::starEach es env:=by rfl
end L2
namespace L2
open PySem PySem.Spec PyProof.Rows
theorem K6 (xs:Array Nat) (j:Nat) (up:xs.toList.Pairwise (· < ·)):∀(f lo hi:Nat),hi - lo<=f->lo<=hi->hi<=xs.size->(∀i v,xs[i]?=some v->i < lo->v < j)->(∀i v,xs[i]?=some v->hi<=i->j<=v) ->
  ∃r,SetTable.below.go xs j f lo hi=r/\r<=xs.size/\(∀i v,xs[i]?=some v->i < r->v < j)/\(∀i v,xs[i]?=some v->r<=i->j<=v)
 | 0,lo,hi,h1,h2,h3,h4,h5=>⟨lo,rfl,by omega,h4,λi v e h=>h5 i v e (by omega)⟩
 | f+1,lo,hi,h1,h2,h3,h4,h5=>by
  unfold SetTable.below.go;by_cases c:lo < hi
  ·rw[if_pos c];dsimp only;have hm:(lo+hi) / 2 < xs.size:=by omega
   have em:xs[(lo+hi) / 2]?=some xs[(lo+hi) / 2]:=Array.getElem?_eq_getElem hm;have eg:xs.getD ((lo+hi) / 2) j=xs[(lo+hi) / 2]:=by simp[Array.getD,hm]
   have mono:∀(a b:Nat) (u v:Nat),xs[a]?=some u->xs[b]?=some v->a < b->u < v:=λa b u v ea eb l=>by
    rw[<-Qak] at ea eb;obtain⟨ha,rfl⟩:=Qad.mp ea;obtain⟨hb,rfl⟩:=Qad.mp eb;exact Qae.mp up a b ha hb l
   rw[eg];by_cases d:xs[(lo+hi) / 2] < j
   ·rw[if_pos d];refine K6 xs j up f _ hi (by omega) (by omega) h3 (λi v e l=>?_) h5;by_cases q:i=(lo+hi) / 2
    ·subst q;rw[em] at e;cases e;exact d
    ·exact Nat.lt_trans (mono i _ v _ e em (by omega)) d
   ·rw[if_neg d];refine K6 xs j up f lo _ (by omega) (by omega) (by omega) h4 (λi v e l=>?_);by_cases q:i=(lo+hi) / 2
    ·subst q;rw[em] at e;cases e;exact Nat.le_of_not_lt d
    ·exact Qbk (Nat.le_of_not_lt d) (Nat.le_of_lt (mono _ i _ v em e (by omega)))
  ·rw[if_neg c];exact⟨lo,rq,by omega,h4,λi v e h=>h5 i v e (by omega)⟩
theorem below_at {xs:Array Nat} {j:Nat} (up:xs.toList.Pairwise (· < ·)):SetTable.below xs j<=xs.size/\(∀i v,xs[i]?=some v->i < SetTable.below xs j->v < j)/\(∀i v,xs[i]?=some v->SetTable.below xs j<=i->j<=v):=by
 obtain⟨r,e,h⟩:=K6 xs j up xs.size 0 xs.size (by omega) (by omega) (Qbm _) (λi v _ h=>absurd h (Nat.not_lt_zero _)) (λi v e h=>absurd (Qac.mp e).1 (by omega));have e':SetTable.below xs j=r:=e;rw[e'];exact h
def TOk (b:Bool) (t:SetTable):Prop:=t.led=b/\t.dummies=#[]/\(t.plain=true->t.place.toList.Pairwise (· < ·))
theorem TOk.stand {b:Bool} {t:SetTable} (h:TOk b t) (n:Nat):TOk b (t.standIn n):=⟨h.1,rfl,λz=>by cases z⟩
theorem Lf {t:SetTable} {b:Bool} (h:TOk b t) (ha:Nat->Int) (x:Int):∀(f:Nat) (p:SetTable.Probe),p.dummy=none->∀j d,SetTable.probe.go t ha x f p=some (.empty j d)->d=none/\t.slot j=.empty
 | 0,p,_,j,d,e=>by simp[SetTable.probe.go] at e
 | f+1,p,pd,j,d,e=>by
  unfold SetTable.probe.go at e;have adv:∀q:SetTable.Probe,q.dummy=none->(t.advance q).dummy=none:=λq hq=>by unfold SetTable.advance;split <;> exact hq
  split at e
  ·rename_i hs;cases e;exact⟨pd,hs⟩
  ·rename_i hs;exfalso;unfold SetTable.slot at hs;dsimp only at hs;rw[h.2.1] at hs;split at hs
   ·cases hs
   ·split at hs
    ·rename_i hh;simp[SetTable.has] at hh
    ·cases hs
  ·split at e
   ·cases e
   ·exact Lf h ha x f _ (adv p pd) j d e
theorem Uq {xs:Array Nat} {j:Nat} (up:xs.toList.Pairwise (· < ·)) (ne:xs[SetTable.below xs j]?≠some j):(SetTable.insertAt xs (SetTable.below xs j) j).toList.Pairwise (· < ·):=by
 obtain⟨h1,h2,h3⟩:=below_at (j:=j) up;rw[SetTable.toList_insertAt];refine List.pairwise_append.mpr ⟨up.sublist (List.take_sublist _ _),List.pairwise_cons.mpr ⟨λv hv=>?_,up.sublist (List.drop_sublist _ _)⟩,λu hu v hv=>?_⟩
 ·obtain⟨i,hi⟩:=List.getElem?_of_mem hv;rw[List.getElem?_drop,Qak] at hi;have q:=h3 _ v hi (Nat.le_add_right _ _);by_cases c:j=v
  ·subst c;by_cases z:i=0
   ·subst z;exact absurd hi ne
   ·exfalso;have hl:SetTable.below xs j < xs.size:=by have:=(Qac.mp hi).1;omega
    have e0:xs[SetTable.below xs j]?=some xs[SetTable.below xs j]:=Array.getElem?_eq_getElem hl;have q0:=h3 _ _ e0 (Qbm _);rw[<-Qak] at e0 hi;obtain⟨a1,a2⟩:=Qad.mp e0;obtain⟨b1,b2⟩:=Qad.mp hi;have:=Qae.mp up _ _ a1 b1 (by omega);omega
  ·omega
 ·obtain⟨i,hi⟩:=List.getElem?_of_mem hu;have hil:i < SetTable.below xs j:=by
   have:=(Qad.mp hi).1;rw[QaK] at this;omega
  rw[List.getElem?_take_of_lt hil,Qak] at hi;have uj:=h2 i u hi hil;rcases Qbe.mp hv with rfl | hv
  ·exact uj
  ·obtain⟨k,hk⟩:=List.getElem?_of_mem hv;rw[List.getElem?_drop,Qak] at hk;exact Qat uj (h3 _ v hk (Nat.le_add_right _ _))
theorem TOk.T3 {b:Bool} {t:SetTable} (h:TOk b t) {j:Nat} (e:t.slot j=.empty):TOk b (t.put j).1:=by
 refine⟨h.1,?_,λpl=>?_⟩
 ·show (if SetTable.has t.dummies j=true then SetTable.eraseAt t.dummies (SetTable.below t.dummies j) else t.dummies)=#[]
  rw[h.2.1];have:SetTable.has (#[]:Array Nat) j=false:=by simp[SetTable.has]
  rw[this];rfl
 ·refine Uq (h.2.2 pl) λz=>?_;unfold SetTable.slot at e;dsimp only at e;rw[z] at e;simp at e
theorem TOk.lay {b:Bool} {t:SetTable} (h:TOk b t) (es:Array (Int×Value)) (k:Int) (x:Value):TOk b (layNew t es k x).2.1:=by
 unfold layNew;split
 ·rename_i slot wd hf;dsimp only;have key:t.slot slot=.empty:=by
   unfold SetTable.freeSlot at hf;split at hf
   ·rename_i j d hp;obtain⟨rfl,hs⟩:=Lf h _ _ _ _ rfl j d hp;cases hf;exact hs
   ·cases hf
  unfold SetTable.orStandIn;split
  ·exact h.T3 key
  ·exact (h.T3 key).stand _
 ·exact h.stand _
section
variable {prog:Program} {w:World} {KT:Type} [DecidableEq KT] (kn:KeyKind prog w KT)
def SetT (b:Bool) (h:Heap) (a:Addr) (S:KT->Bool) (n:Nat):Prop:=
 ∃ob es ep t,(h.get? a=some ob/\ob.ExactSet/\ob.data=.set es ep t)/\(ElemsOf kn es.toList/\∀k,S k=true ↔ ∃e∈es.toList,kn.is k e.2=true)/\(es.size < scanBound/\t.fits es.size=true/\es.size=n)/\TOk b t
variable {kn}
variable {A:Around} {E:YA} {s:Shared}
theorem SetT.at {b:Bool} {h h':Heap} {a:Addr} {S:KT->Bool} {n:Nat} (z:SetT kn b h a S n) (k:∀o,h.get? a=some o->h'.get? a=some o):SetT kn b h' a S n:=
 let ⟨ob,es,ep,t,⟨g1,g2⟩,g3⟩:=z
 ⟨ob,es,ep,t,⟨k _ g1,g2⟩,g3⟩
theorem SetT.stored {b:Bool} {h:Heap} {a:Addr} {ob:Obj} {es:Array (Int×Value)} {ep:Nat} {t:SetTable} (g1:h.get? a=some ob) (g2:ob.ExactSet) (g3:ob.data=.set es ep t)
  {es':Array (Int×Value)} {t':SetTable} {S':KT->Bool} (k1:ElemsOf kn es'.toList) (k2:∀k,S' k=true ↔ ∃e∈es'.toList,kn.is k e.2=true) (k3:es'.size < scanBound) (k4:t'.fits es'.size=true) (k5:TOk b t') :
  (h.update a (Obj.putSet es' t')).get? a=some { ob with data:=.set es' (ep+1) t' }/\SetT kn b (h.update a (Obj.putSet es' t')) a S' es'.size:=by
 obtain⟨q,_⟩:=SetOf_store (knd:=kn) g1 g2 g3 k1 k2 k3 k4;exact⟨q,_,es',ep+1,t',⟨q,g2,rq⟩,⟨k1,k2⟩,⟨k3,k4,rq⟩,k5⟩
end
section
variable {prog:Program} {w:World} {A:Around} {E:YA} {s:Shared}
def V9 (b:Bool) (h:Heap) (a:Addr) (es:Array (Int×Value)) (ep:Nat) (t:SetTable):Prop:=∃ob,h.get? a=some ob/\ob.ExactSet/\ob.data=.set es ep t/\t.fits es.size=true/\TOk b t
theorem V9.at {b:Bool} {h h':Heap} {a:Addr} {es:Array (Int×Value)} {ep:Nat} {t:SetTable} (z:V9 b h a es ep t) (k:∀o,h.get? a=some o->h'.get? a=some o):V9 b h' a es ep t:=let ⟨ob,g1,g2⟩:=z;⟨ob,k _ g1,g2⟩
def Wb (h:Heap) (it a:Addr) (first:Value) (i n ep:Nat):Prop:=∃o,h.get? it=some o/\o.cls=.type "set_iterator"/\o.data=.fields #[first,rawInt i,.ref a,rawInt n,rawInt ep]
end
section
variable {prog:Program} {w:World} {A:Around} {E:YA} {s:Shared}
theorem Wb.at {h h':Heap} {it a:Addr} {first:Value} {i n ep:Nat} (x:Wb h it a first i n ep) (e:∀o,h.get? it=some o->h'.get? it=some o):Wb h' it a first i n ep:=let ⟨o,ho,r⟩:=x;⟨o,e _ ho,r⟩
end
section
variable {X:Cx} {K:YD}
theorem Xk (h:X.K=K) (hu:X.A.units+66 < cLine):OpR X (compareOp .In) (λx y H Q=>∃l xs d ds,y=.ref l/\SqT K H l xs/\Gz K H xs ds/\Rep H x d/\SeqAt.shaped d=true/\PyData.canLayAll0 ds=true/\Q (.bl (ds.any λz=>PyData.eqv z d)) H):=by
 subst h;intro jb s U H x y v u Q I rx ry hh;obtain⟨l,xs,d,ds,rfl,hq,hr,hx,sd,hc,q⟩:=hh;cases ry;obtain⟨its,rv,⟨o,ho,hcl,n,hd⟩,_⟩:=I.tuple hq;obtain⟨as,r1⟩:=Gz.reads I hr rv;obtain⟨bs,r2⟩:=hx.reads I.hok rx;refine SeqAt.in_tuple_reads (xs:=ds) (d:=d) (.tuple ho hcl hd (by simpa using r1)) r2 hc (SeqAt.canLay_of_shaped sd) (room_in_shaped sd (by omega)) ⟨.bl _,H,I,rq,q⟩
end
theorem Rep.kn {H:Hp} {v:V} {d:PyData} (r:Rep H v d):Kn H v:=by
 cases r with
 | non=>exact True.intro
 | bl b=>exact True.intro
 | int i=>exact True.intro
 | str x=>exact True.intro
 | tup e _=>exact .inr ⟨_,e⟩
 | lst e _=>exact .inl ⟨_,e⟩
end L2
namespace HT
open PySem PySem.Spec PyProof.Rows
section
variable {prog:Program} {w:World} {A:Around} {E:YA} {s:Shared}
theorem SN (n:Nat):Builtin.Slice.sliceAdjust none none (-1) (n:Int)=((n:Int) - 1,-1):=by
 unfold Builtin.Slice.sliceAdjust
 first
  | rfl
  | simp
theorem RK (n:Nat):Builtin.Slice.slicePlaces ((n:Int) - 1) (-1) (-1)=n:=by
 unfold Builtin.Slice.slicePlaces;have h1:¬((-1:Int) > 0):=by decide
 by_cases h:(n:Int) - 1 > -1
 ·have e:((n:Int) - 1 - -1 - 1) / (- -1)+1=(n:Int):=by
   rw[show (- -1:Int)=1 by decide,Int.ediv_one];omega
  simp only[h1,if_false,h,if_true,e,QaH]
 ·have e:n=0:=by omega
  subst e;simp
theorem PN {α β : Type} {f g:α->Option β}:∀{l:List α},(∀x∈l,f x=g x)->l.filterMap f=l.filterMap g
 | [],_=>rfl
 | x::r,h=>by rw[Qar,Qar,h x (Qav ..),PN λy hy=>h y (Qal _ hy)]
theorem Vt (xs:Array Value):((List.range xs.size).filterMap λ(m:Nat)=>xs[(((xs.size:Int) - 1)+(m:Int)*(-1)).toNat]?).toArray=xs.toList.reverse.toArray:=by
 have e:(List.range xs.size).filterMap (λ(m:Nat)=>xs[(((xs.size:Int) - 1)+(m:Int)*(-1)).toNat]?)=((List.range xs.size).map λk=>xs.size - 1 - k).filterMap (xs[·]?):=by
  rw[List.filterMap_map];refine PN λk hk=>?_;have:=List.mem_range.mp hk;show xs[_]?=xs[xs.size - 1 - k]?;congr 1;omega
 rw[e,PySem.W.krv_range,List.filterMap_reverse,PySem.W.krv_all]
theorem Kr {sl:Addr} {vk:Value} {n:Nat} {Q:Int×Int×Nat->Shared->Prop} (hs:s.heap.IsSliceOf sl .none .none vk) (pk:IsPart vk (some (-1)))
  (h:Q ((n:Int) - 1,-1,n) s):wpAny (model prog w) A (Builtin.Slice.sliceApplied (.ref sl) (pure (n:Int))) Q E s:=by
 obtain⟨os,hos,hcs,hds⟩:=id hs;unfold Builtin.Slice.sliceApplied Builtin.Slice.sliceFields;refine Qbp (Qbp (Qbo hos hds (x:=.none) rfl (Qbp (Qbo hos hds (x:=.none) rfl (Qbp (Qbo hos hds (x:=vk) rfl (Qbq ?_)))))));refine Qbp (Ji pk ?_);show wpAny _ _ (if ((-1:Int) == 0)=true then _ else _) _ _ s
 rw[if_neg (by decide)];refine Qbp (slicePart_none (Qbp (slicePart_none (Qbp (Qbq ?_)))));show wpAny _ _ (match Builtin.Slice.sliceAdjust none none (-1) (n:Int) with | (lo,hi)=>pure (lo,(-1:Int),Builtin.Slice.slicePlaces lo hi (-1))) _ _ s
 rw[SN n];show wpAny _ _ (pure ((n:Int) - 1,(-1:Int),Builtin.Slice.slicePlaces ((n:Int) - 1) (-1) (-1))) _ _ s;rw[RK];exact Qbq h
theorem Kl {t sl:Addr} {items:Array Value} {vk:Value} {Q:YA} (ht:IsTup s.heap t items) (hs:s.heap.IsSliceOf sl .none .none vk) (pk:IsPart vk (some (-1)))
  (h:Q (.ref s.heap.objs.size) { s with heap:=s.heap.push { cls:=.type "tuple",data:=.seq items.toList.reverse.toArray } })
  (hsz:items.size<=sizeLine):wpAny (model prog w) A (getItem (.ref t) (.ref sl)) Q E s:=by
 have Ht:sizeOk (.seq items.toList.reverse.toArray):=by
  show items.toList.reverse.toArray.size<=sizeLine;rw[QaC,List.length_reverse,Qap];exact hsz
 obtain⟨os,hos,hcs,hds⟩:=id hs;have hTs:s.TypeIs (.ref sl) "slice":=⟨os,hos,hcs⟩;unfold getItem
 try with_reducible refine Qbi ?_
 first | refine Qbp (Qbq ?_) | skip
 refine Qbp (wpAny_sequenceKey ht.typeIs (by decide) ?_);refine Qbp (Qag (name:=Str.ofString "__getitem__") ht.typeIs Qab
  (QaL Qab ht.typeIs entry_tuple_getitem ?_ (args_tuple_getitem _ _)))
 show wpAny _ _ (Builtin.Tuple.tupleItemsOf (.ref t) >>= _) _ _ s;refine Qbp (tupleItemsOf_ ht ?_);refine Qbp (wpAny_typeOf hTs ?_);rw[if_pos (by decide)];refine Qbp (Kr hs pk ?_);show wpAny _ _ (if (((items.size:Int) - 1) == 0&&(-1:Int) == 1&&items.size == items.size)=true then _ else _) _ _ s
 rw[if_neg (by simp),Vt]
 first
  | exact Qbp (m:=Builtin.Tuple.tupleExact _) (QaE (Qbq ⟨_,rfl,Qbq h⟩) Ht)
  | exact Qbp (m:=Builtin.Tuple.tupleExact _) (QaE (Qbp (Qbq (Qbq ⟨_,rfl,Qbq h⟩))) Ht)
  | exact Qbp (Qbp (m:=Builtin.Tuple.tupleExact _) (QaE (Qbq (Qbq ⟨_,rfl,Qbq h⟩)) Ht))
  | exact Qbp (Qbp (m:=Builtin.Tuple.tupleExact _) (QaE (Qbq ⟨_,rfl,Qbq h⟩) Ht))
end
end HT
namespace L2
open PySem PySem.Spec PyProof.Rows
def W5 (K:YD) (te:TE) (tk:TO):TE:=fun U H Q=>te U H λx H1=>tk U H1 λk H2=>k=some (-1)/\∃a xs,x=.ref a/\SqT K H2 a xs/\∀p,H2 p=none->Q (.ref p) (upd H2 p (.tup xs.reverse))
section
variable {X:Cx} {e:Expr} {k:Expr} {te:TE} {tk:TO} {p2 pos:Pos}
theorem T6 {ops:Addr->Addr->YE} (he:PE X e te) (hk:PO X (some k) tk) (hsub:∀a b,subscripted (.Slice none none (some k) p2) false (.ref a) (.ref b)=operate (ops a b) (getItem (.ref a) (.ref b)):=by intro _ _;with_unfolding_all rfl):PE X (.Subscript e (.Slice none none (some k) p2) pos) (W5 X.K te tk):=by
 intro jb s U H Q I h;refine Subscript_ (thn (he jb s U H _ I h) λv s1 zz=>?_);obtain⟨x,H1,I1,r1,q1⟩:=zz;refine wpAny_Slice ?_;rw[evalPart_none];refine Qbq (Qbq (thn (hk jb s1 U H1 _ I1 q1) λvk s2 zz=>?_));obtain⟨kk,H2,I2,pk,ek,q2⟩:=zz;subst ek;obtain⟨a,xs,rfl,hx,q⟩:=q2;cases r1;have I4:Inv X jb U H2 { s2 with heap:=s2.heap.push { cls:=.type "slice",data:=.fields #[.none,.none,vk] } }:=I2.kept (t':=s2.toks) λb ob q=>Qai _ q;obtain⟨its,r,ht,hz⟩:=I4.tuple hx;have hlen:=r.length;show wpAny (model X.prog X.w) X.A (subscriptTail e (.Slice none none (some k) p2) (.ref a) (.ref s2.heap.objs.size)) (EP X jb U Q) X.xe { s2 with heap:=s2.heap.push { cls:=.type "slice",data:=.fields #[.none,.none,vk] } };refine tail_any (ops:=ops a s2.heap.objs.size) ht.typeIs Qab.lookup ?_ (hsub _ _);refine HT.Kl ht (Heap.IsSliceOf.new ..) pk ?_ (by rw[QaC] <;> omega);refine⟨.ref (s2.heap.push { cls:=.type "slice",data:=.fields #[.none,.none,vk] }).objs.size,_,I4.laid (t':=s2.toks) (o:=.tup xs.reverse) (λb ob q=>Qai _ q) (Qbm _) ?_,rq,q _ (I4.hok.fresh (Qbm _))⟩;exact⟨by rw[List.length_reverse];exact hz,its.reverse,Jy r,_,Qao _ rfl,rq,0,rq⟩
end
end L2
namespace PySem.ZZ
open PySem
section
variable {prog:Program} {w:World} {A:Around} {E:YA} {s:Shared}
def Ly (z TO i1 i2:Addr) (h h':Heap):Prop:=∀c o,c≠z->c≠TO->c≠i1->c≠i2->h.get? c=some o->h'.get? c=some o
structure MS (z TI TO i1 i2 b:Addr) (x:Str) (t:Tok) (f1:Value) (h:Heap) (a1 a2:Nat) (to:YE) (h':Heap):Prop where
 hz:IsZ h' z TI TO .ellipsis f1
 hTI:Cp h' TI [.ref i1,.ref i2]
 hTO:Cp h' TO to
 j1:h'.IsStrIter i1 "str_ascii_iterator" x t a1
 j2:h'.IsTupleIter i2 b a2
 rest:Ly z TO i1 i2 h h'
 size:h'.objs.size=h.objs.size
theorem DX {h h':Heap} {it:Addr} {c:String} {x:Str} {t:Tok} {i:Nat} (q:h.IsStrIter it c x t i) (k:∀o,h.get? it=some o->h'.get? it=some o):h'.IsStrIter it c x t i:=by
 obtain⟨o,e,r⟩:=q;exact⟨o,k o e,r⟩
theorem Tf {z TI TO i1 i2 b:Addr} {x:Str} {t:Tok} {ys:Array Value} {olds:YE} {i c:Nat} {v f1:Value} {Q:YA} (n1:z≠TI) (n2:z≠TO) (n3:z≠i1) (n4:z≠i2) (n5:TI≠TO) (n6:TI≠i1) (n7:TI≠i2) (n8:TO≠i1) (n9:TO≠i2) (n10:i1≠i2)
  (bz:b≠z) (bTO:b≠TO) (b1:b≠i1) (b2:b≠i2) (hz:IsZ s.heap z TI TO .none f1) (hTI:Cp s.heap TI [.ref i1,.ref i2]) (hTO:Cp s.heap TO olds) (lo:olds.length=2)
  (h1:s.heap.IsStrIter i1 "str_ascii_iterator" x t i) (hc:x.cps[i]?=some c) (h2:s.heap.IsTupleIter i2 b i) (hb:s.heap.IsTuple b ys) (hv:ys[i]?=some v)
  (hQ:∀h',IsZ h' z TI TO (rawInt s.heap.objs.size) (.bool false)->Cp h' TI [.ref i1,.ref i2]->Cp h' TO [.str ⟨#[c]⟩ s.toks,v]->h'.IsStrIter i1 "str_ascii_iterator" x t (i+1)->h'.IsTupleIter i2 b (i+1)->Cp h' s.heap.objs.size [.str ⟨#[c]⟩ s.toks,v]->Ly z TO i1 i2 s.heap h'->Q (.ref s.heap.objs.size) { s with heap:=h',toks:=s.toks+1 }) :
  wpAny (model prog w) A (Builtin.«zip.__next__» ⟨[.ref z],[]⟩) (λfin s'=>∃v,fin=.done (.ret v)/\Q v s') E s:=by
 obtain⟨o1,o2,rfl⟩ : ∃a b,olds=[a,b]:=by
  match olds,lo with
  | [a,b],_=>exact⟨a,b,rfl⟩
 show wpAny _ _ (field (.ref z) 2 >>= _) _ _ _;refine Qbp (Qbo hz rfl (x:=.bool false) rfl ?_);show wpAny _ _ (field (.ref z) 3 >>= _) _ _ _;refine Qbp (Qbo hz rfl (x:=.ref TI) rfl ?_);refine Qbp (Qbb hTI rfl ?_);dsimp only;rw[if_neg (by simp)];show wpAny _ _ (Builtin.SmallTypes.ownedTupleIsFree (.ref z) >>= _) _ _ _;refine Qbp ?_;unfold Builtin.SmallTypes.ownedTupleIsFree;refine Qbp (Qbo hz rfl (x:=.none) rfl (Qbq ?_));simp only[if_true];refine Qbp (wpAny_rule ?_);refine Qbp (Qbo hz rfl (x:=.ref TO) rfl ?_);refine Qbp (Qay hz (by simp) λh₁ hz₁ hs₁=>?_);replace hz₁ : IsZ h₁ z TI TO .ellipsis f1:=hz₁;refine Qbp ?_;have m0:MS z TI TO i1 i2 b x t f1 s.heap i i [o1,o2] h₁:=⟨hz₁,hs₁.extBut _ _ (Ne.symm n1) hTI,hs₁.extBut _ _ (Ne.symm n2) hTO,DX h1 λo e=>hs₁.extBut _ _ (Ne.symm n3) e,h2.at λo e=>hs₁.extBut _ _ (Ne.symm n4) e,λc o c1 _ _ _ e=>hs₁.extBut _ _ c1 e,hs₁.1⟩;refine KJ (λl r s'=>r=⟨none,⟨⟩⟩/\((l=[(.ref i1,0),(.ref i2,1)]/\∃h',s'={ s with heap:=h' }/\MS z TI TO i1 i2 b x t f1 s.heap i i [o1,o2] h')\/(l=[(.ref i2,1)]/\∃h',s'={ s with heap:=h',toks:=s.toks+1 }/\MS z TI TO i1 i2 b x t f1 s.heap (i+1) i [.str ⟨#[c]⟩ s.toks,o2] h')\/(l=[]/\∃h',s'={ s with heap:=h',toks:=s.toks+1 }/\MS z TI TO i1 i2 b x t f1 s.heap (i+1) (i+1) [.str ⟨#[c]⟩ s.toks,v] h'))) (λr s' h=>?_) (λq l r s' h=>?_) _ _ _ ⟨rq,.inl ⟨rq,h₁,rq,m0⟩⟩
 ·obtain⟨rfl,h⟩:=h;rcases h with⟨e,_⟩|⟨e,_⟩|⟨_,h',rfl,m⟩
  ·cases e
  ·cases e
  dsimp only;refine Qbp (Qbb m.hTO rfl ?_);refine Qbp (wpAny_newTuple ?_ (by show 2<=sizeLine;decide));have hzlt:z < h'.objs.size:=Qbj m.hz;show wpAny _ _ (Builtin.SmallTypes.ownedTupleHandOut (.ref z) (.ref h'.objs.size) >>= _) _ _ _;refine Qbp ?_;unfold Builtin.SmallTypes.ownedTupleHandOut;have hz₆ : IsZ (h'.push { cls:=.type "tuple",data:=.seq [.str ⟨#[c]⟩ s.toks,v].toArray }) z TI TO .ellipsis f1:=Qai _ m.hz;refine Qbp (Qay hz₆ (by simp) λh₇ hz₇ hs₇=>?_);replace hz₇ : IsZ h₇ z TI TO (rawInt h'.objs.size) f1:=hz₇;refine Qay hz₇ (by simp) λh₈ hz₈ hs₈=>?_;replace hz₈ : IsZ h₈ z TI TO (rawInt h'.objs.size) (.bool false):=hz₈;have up:∀c o,c≠z->h'.get? c=some o->h₈.get? c=some o:=λc o c1 e=>hs₈.extBut _ _ c1 (hs₇.extBut _ _ c1 (Qai _ e));have hT₈ : Cp h₈ h'.objs.size [.str ⟨#[c]⟩ s.toks,v]:=hs₈.extBut _ _ (Nat.ne_of_gt hzlt) (hs₇.extBut _ _ (Nat.ne_of_gt hzlt) (Qao _ rfl));have hsz':=m.size;rw[hsz'] at hz₈ hT₈;refine Qbq ⟨_,rq,?_⟩;show Q (.ref h'.objs.size) _;rw[hsz'];exact hQ h₈ hz₈ (up _ _ (Ne.symm n1) m.hTI) (up _ _ (Ne.symm n2) m.hTO) (DX m.j1 λo e=>up _ o (Ne.symm n3) e) (m.j2.at λo e=>up _ o (Ne.symm n4) e) hT₈ λc o c1 c2 c3 c4 e=>up c o c1 (m.rest c o c1 c2 c3 c4 e)
 ·obtain⟨rfl,h⟩:=h;rcases h with⟨e,h',rfl,m⟩|⟨e,h',rfl,m⟩|⟨e,_⟩
  ·injection e with e1 e2;subst e1 e2;refine Qbp (wpAny_onRaise ?_);show wpAny _ _ (Builtin.SmallTypes.nextOf (.ref i1) >>= _) _ _ _;refine Qbp (wpAny_nextOf_ascii_item m.j1 hc λh2 q2 sb2=>Qbq ?_);have hT2:Cp h2 TO [o1,o2]:=sb2.extBut _ _ n8 m.hTO;refine Qbp (Qbb hT2 rfl ?_);refine Qbp (wpAny_updateSeq hT2 rfl ?_ (by show 2<=sizeLine;decide) (by rw[Array.size_setIfInBounds];show 2<=sizeLine+1;decide));have sb3:Heap.SameBut TO h2 (h2.update TO (Obj.mapSeq λx=>x.setIfInBounds 0 (.str ⟨#[c]⟩ s.toks))):=Heap.SameBut.update ..;have hT3:Cp (h2.update TO (Obj.mapSeq λx=>x.setIfInBounds 0 (.str ⟨#[c]⟩ s.toks))) TO [.str ⟨#[c]⟩ s.toks,o2]:=by
    show (h2.update TO _).get? TO=_;rw[Heap.get?_update_self _ hT2 rfl];simp[Obj.mapSeq]
   refine Qbp (wpAny_letGo (Qbq ?_));refine⟨rq,.inr (.inl ⟨rq,_,rq,?_⟩)⟩;exact⟨sb3.extBut _ _ n2 (sb2.extBut _ _ n3 m.hz),sb3.extBut _ _ n5 (sb2.extBut _ _ n6 m.hTI),hT3,DX q2 λo e=>sb3.extBut _ _ (Ne.symm n8) e,m.j2.at λo e=>sb3.extBut _ _ (Ne.symm n9) (sb2.extBut _ _ (Ne.symm n10) e),λc o c1 c2 c3 c4 e=>sb3.extBut _ _ c2 (sb2.extBut _ _ c3 (m.rest c o c1 c2 c3 c4 e)),by rw[sb3.1,sb2.1,m.size]⟩
  ·injection e with e1 e2;subst e1 e2;refine Qbp (wpAny_onRaise ?_);show wpAny _ _ (Builtin.SmallTypes.nextOf (.ref i2) >>= _) _ _ _;have hb':h'.IsTuple b ys:=by
    obtain⟨o,e,r⟩:=hb;exact⟨o,m.rest b o bz bTO b1 b2 e,r⟩
   refine Qbp (Im (s:={ s with heap:=h',toks:=s.toks+1 }) m.j2 hb' hv λh2 q2 sb2=>Qbq ?_);have hT2:Cp h2 TO [.str ⟨#[c]⟩ s.toks,o2]:=sb2.extBut _ _ n9 m.hTO;refine Qbp (Qbb hT2 rfl ?_);refine Qbp (wpAny_updateSeq hT2 rfl ?_ (by show 2<=sizeLine;decide) (by rw[Array.size_setIfInBounds];show 2<=sizeLine+1;decide));have sb3:Heap.SameBut TO h2 (h2.update TO (Obj.mapSeq λx=>x.setIfInBounds 1 v)):=Heap.SameBut.update ..;have hT3:Cp (h2.update TO (Obj.mapSeq λx=>x.setIfInBounds 1 v)) TO [.str ⟨#[c]⟩ s.toks,v]:=by
    show (h2.update TO _).get? TO=_;rw[Heap.get?_update_self _ hT2 rfl];simp[Obj.mapSeq]
   refine Qbp (wpAny_letGo (Qbq ?_));refine⟨rq,.inr (.inr ⟨rq,_,rq,?_⟩)⟩;exact⟨sb3.extBut _ _ n2 (sb2.extBut _ _ n4 m.hz),sb3.extBut _ _ n5 (sb2.extBut _ _ n7 m.hTI),hT3,DX m.j1 λo e=>sb3.extBut _ _ (Ne.symm n8) (sb2.extBut _ _ n10 e),q2.at λo e=>sb3.extBut _ _ (Ne.symm n9) e,λc o c1 c2 c3 c4 e=>sb3.extBut _ _ c2 (sb2.extBut _ _ c4 (m.rest c o c1 c2 c3 c4 e)),by rw[sb3.1,sb2.1,m.size]⟩
  ·cases e
theorem Vl {z TI TO i1 i2:Addr} {x:Str} {t:Tok} {olds:YE} {i:Nat} {f1:Value} {Q:Fin->Shared->Prop} (hh:A.handled=none) (n1:z≠TI) (n2:z≠TO) (n3:z≠i1)
  (hz:IsZ s.heap z TI TO .none f1) (hTI:Cp s.heap TI [.ref i1,.ref i2]) (hTO:Cp s.heap TO olds) (h1:s.heap.IsStrIter i1 "str_ascii_iterator" x t i) (hc:x.cps[i]?=none)
  (hE:∀h' e,Ly z TO i1 i2 s.heap h'->(∃o,h'.get? e=some o/\o.cls=.type "StopIteration")->E (.ref e) { s with heap:=h' }) :
  wpAny (model prog w) A (Builtin.«zip.__next__» ⟨[.ref z],[]⟩) Q E s:=by
 show wpAny _ _ (field (.ref z) 2 >>= _) _ _ _;refine Qbp (Qbo hz rfl (x:=.bool false) rfl ?_);show wpAny _ _ (field (.ref z) 3 >>= _) _ _ _;refine Qbp (Qbo hz rfl (x:=.ref TI) rfl ?_);refine Qbp (Qbb hTI rfl ?_);dsimp only;rw[if_neg (by simp)];show wpAny _ _ (Builtin.SmallTypes.ownedTupleIsFree (.ref z) >>= _) _ _ _;refine Qbp ?_;unfold Builtin.SmallTypes.ownedTupleIsFree;refine Qbp (Qbo hz rfl (x:=.none) rfl (Qbq ?_));simp only[if_true];refine Qbp (wpAny_rule ?_);refine Qbp (Qbo hz rfl (x:=.ref TO) rfl ?_);refine Qbp (Qay hz (by simp) λh₁ hz₁ hs₁=>?_);replace hz₁ : IsZ h₁ z TI TO .ellipsis f1:=hz₁;refine Qbp ?_;refine KJ (λl r s'=>l=[(.ref i1,0),(.ref i2,1)]/\r=⟨none,⟨⟩⟩/\s'={ s with heap:=h₁ }) (λr s' h=>?_) (λq l r s' h=>?_) _ _ _ ⟨rq,rq,rq⟩
 ·exact absurd h.1 (by simp)
 ·obtain⟨e,rfl,rfl⟩:=h;injection e with e1 e2;subst e1 e2;refine Qbp (wpAny_onRaise ?_);show wpAny _ _ (Builtin.SmallTypes.nextOf (.ref i1) >>= _) _ _ _;refine Qbp (wpAny_nextOf_ascii_end (s:={ s with heap:=h₁ }) hh (DX h1 λo e=>hs₁.extBut _ _ (Ne.symm n3) e) hc λh₂ e hs₂ he=>?_);obtain⟨oe,hoe,hce⟩:=he;have hz₂ : IsZ h₂ z TI TO .ellipsis f1:=hs₂ _ _ n3 hz₁;have hez:e≠z:=λx=>by subst x;rw[hz₂] at hoe;cases hoe;simp at hce
  refine Qay hz₂ (by simp) λh₃ _ hs₃=>hE h₃ e (λc o c1 c2 c3 c4 x=>hs₃.extBut _ _ c1 (hs₂ _ _ c3 (hs₁.extBut _ _ c1 x))) ⟨oe,hs₃.extBut _ _ hez hoe,hce⟩
abbrev itS (x:Str) (t:Tok):Obj:={ cls:=.type "str_ascii_iterator",data:=.fields #[.str x t,.int 0 0] }
abbrev zsa (h:Heap) (x:Str) (t:Tok) (l2:Addr):Heap:=((((h.push (itS x t)).push (itO "tuple_iterator" l2)).push (tuO #[.ref h.objs.size,.ref (h.push (itS x t)).objs.size])).push (tuO #[.none,.none]))
abbrev zs (h:Heap) (x:Str) (t:Tok) (l2:Addr):Heap:=(zsa h x t l2).push
 { cls:=.type "zip",data:=.fields #[.none,.bool false,.bool false,.ref ((h.push (itS x t)).push (itO "tuple_iterator" l2)).objs.size,.ref (((h.push (itS x t)).push (itO "tuple_iterator" l2)).push (tuO #[.ref h.objs.size,.ref (h.push (itS x t)).objs.size])).objs.size] }
theorem RW (x:Str) (t:Tok) (l2:Addr) (ys:Array Value) (ha:x.cps.all (· < 128)=true):Meets (Builtin.«zip.__new__» ⟨[.type "zip",.str x t,.ref l2],[]⟩) (λ_ R s=>s.heap.IsTuple l2 ys/\R (.ok (.ret (.ref (zsa s.heap x t l2).objs.size))) { s with heap:=zs s.heap x t l2 }):=
 .of_wp λprog w A R s h=>by
  obtain⟨hp,g,d,tk,os⟩:=s;obtain⟨hl2,h⟩:=h;have hsub:=sub_zip;have hL2:Heap.IsTuple (Shared.heap ⟨hp.push (itS x t),g,d,tk,os⟩) l2 ys:=Heap.IsTuple.push hl2 _
  wp_walk using wpAny_pyIter_ascii ha,wpAny_pyIter_tuple hL2
  exact⟨_,rq,h⟩
theorem U8 {x:Str} {t:Tok} {l2:Addr} {ys:Array Value} {Q:YA} (ha:x.cps.all (· < 128)=true) (hl2:s.heap.IsTuple l2 ys)
  (h:∀h' (n:Nat),n=s.heap.objs.size->IsZ h' (n+1+1+1+1:Nat) (n+1+1:Nat) (n+1+1+1:Nat) .none (.bool false)->Cp h' (n+1+1:Nat) [.ref n,.ref (n+1:Nat)]->Cp h' (n+1+1+1:Nat) [.none,.none]->h'.IsStrIter n "str_ascii_iterator" x t 0->h'.IsTupleIter (n+1:Nat) l2 0 ->
   (∀c o,s.heap.get? c=some o->h'.get? c=some o)->Q (.ref (n+1+1+1+1:Nat)) { s with heap:=h' }):wpAny (model prog w) A (call (.type "zip") [.str x t,.ref l2]) Q E s:=by
 refine callType_new F.called_zip (by decide) (F.typeCall_zip_2 _ _) (F.newCall_zip_2 _ _) (λobj=>F.args_object_init_3 obj _ _) F.entry_zip_new (RW x t l2 ys ha) ⟨hl2,?_⟩;have g5:(zs s.heap x t l2).get? (zsa s.heap x t l2).objs.size=some _:=Qao _ rfl;have g4:(zs s.heap x t l2).get? (((s.heap.push (itS x t)).push (itO "tuple_iterator" l2)).push (tuO #[.ref s.heap.objs.size,.ref (s.heap.push (itS x t)).objs.size])).objs.size=some (tuO #[.none,.none]):=Qai _ (Qao _ rfl);have g3:(zs s.heap x t l2).get? ((s.heap.push (itS x t)).push (itO "tuple_iterator" l2)).objs.size=some (tuO #[.ref s.heap.objs.size,.ref (s.heap.push (itS x t)).objs.size]):=Qai _ (Qai _ (Qao _ rfl));have g2:(zs s.heap x t l2).get? (s.heap.push (itS x t)).objs.size=some (itO "tuple_iterator" l2):=Qai _ (Qai _ (Qai _ (Qao _ rfl)));have g1:(zs s.heap x t l2).get? s.heap.objs.size=some (itS x t):=Qai _ (Qai _ (Qai _ (Qai _ (Qao _ rfl))));have kp:∀c o,s.heap.get? c=some o->(zs s.heap x t l2).get? c=some o:=λc o x=>Qai _ (Qai _ (Qai _ (Qai _ (Qai _ x))));have fin:=h (zs s.heap x t l2) s.heap.objs.size rfl;refine⟨⟨_,g5,rq⟩,?_⟩;have e1:(s.heap.push (itS x t)).objs.size=s.heap.objs.size+1:=Heap.size_push ..;have e2:((s.heap.push (itS x t)).push (itO "tuple_iterator" l2)).objs.size=s.heap.objs.size+1+1:=by rw[Heap.size_push,e1]
 have e3:(((s.heap.push (itS x t)).push (itO "tuple_iterator" l2)).push (tuO #[.ref s.heap.objs.size,.ref (s.heap.push (itS x t)).objs.size])).objs.size=s.heap.objs.size+1+1+1:=by rw[Heap.size_push,e2]
 have e4:(zsa s.heap x t l2).objs.size=s.heap.objs.size+1+1+1+1:=by
  show (Heap.push _ _).objs.size=_;rw[Heap.size_push,e3]
 rw[e4,e3,e2] at g5;rw[e3] at g4;rw[e2,e1] at g3;rw[e1] at g2;rw[e4];exact fin g5 g3 g4 ⟨_,g1,rq,rq⟩ ⟨_,g2,rq,rq⟩ kp
end
end PySem.ZZ
namespace L2
open PySem PySem.Spec PyProof.Rows
def Qp (x:Str) (b:Addr):It:=
  ⟨λi H=>∃c ys y,x.cps[i]?=some c/\H b=some (.tup ys)/\ys[i]?=some y,
   λi H v H'=>∃p c y,H p=none/\v=.ref p/\H'=upd H p (.tup [.str ⟨#[c]⟩,y])/\x.cps[i]?=some c/\∀ys,H b=some (.tup ys)->ys[i]?=some y,
   λi H=>x.cps[i]?=none⟩
theorem Tn {P:Program} {w:World} {K:YD} {elts:YJ} {k:Nat} {pos:Pos} (x:Str) (t:Tok) (b z TI TO i1 i2:Addr) (nd:[z,TI,TO,i1,i2].Nodup) :
  Turn P w K (.Tuple elts k pos) (Qp x b) [z,TI,TO,i1,i2] z (λi h=>(∃f1,ZZ.IsZ h z TI TO .none f1)/\ZZ.Cp h TI [.ref i1,.ref i2]/\(∃olds:YE,ZZ.Cp h TO olds/\olds.length=2)/\h.IsStrIter i1 "str_ascii_iterator" x t i/\h.IsTupleIter i2 b i) where
 mem:=by simp
 obj:=λi h st c hc=>by
  obtain⟨⟨f1,hz⟩,hTI,⟨olds,hTO,_⟩,⟨o1,e1,_,d1⟩,o2,e2,_,d2⟩:=st;simp only[Qbe,QaO,or_false] at hc;rcases hc with rfl | rfl | rfl | rfl | rfl
  ·exact⟨_,hz,λv q=>by cases (show Data.fields _=Data.cell v from q)⟩
  ·exact⟨_,hTI,λv q=>by cases (show Data.seq _ _=Data.cell v from q)⟩
  ·exact⟨_,hTO,λv q=>by cases (show Data.seq _ _=Data.cell v from q)⟩
  ·exact⟨o1,e1,λv q=>by rw[d1] at q;cases q⟩
  ·exact⟨o2,e2,λv q=>by rw[d2] at q;cases q⟩
 keep:=λi h h' st k=>by
  obtain⟨⟨f1,hz⟩,hTI,⟨olds,hTO,l⟩,h1,h2⟩:=st;exact⟨⟨f1,k z (by simp) _ hz⟩,k TI (by simp) _ hTI,⟨olds,k TO (by simp) _ hTO,l⟩,ZZ.DX h1 λo e=>k i1 (by simp) o e,h2.at λo e=>k i2 (by simp) o e⟩
 item:=by
  intro X hP hw hK hc i jb s U H E I hf st hg;subst hP hw hK;obtain⟨c,ys,y,hcx,hq2,hy⟩:=hg;obtain⟨ws,rw',p2,z2⟩:=I.tuple (SqT.of hq2);obtain⟨v,hv,rv'⟩:=rw'.get hy;obtain⟨⟨f1,hz⟩,hTI,⟨olds,hTO,lo⟩,hi1,hi2⟩:=st;simp only[QaV,Qbe,QaO,or_false,not_or,List.nodup_nil,not_false_eq_true,and_true] at nd;obtain⟨⟨n1,n2,n3,n4⟩,⟨n5,n6,n7⟩,⟨n8,n9⟩,n10⟩:=nd;have bn:∀c,c∈[z,TI,TO,i1,i2]->b≠c:=λc hc q=>by
   have:=(hf c hc).1;rw[<-q,hq2] at this;cases this
  refine ZZ.RJ hz (Qi:=λr s'=>∃h',r=.ref s.heap.objs.size/\s'={ s with heap:=h',toks:=s.toks+1 }/\ZZ.IsZ h' z TI TO (rawInt s.heap.objs.size) (.bool false)/\ZZ.Cp h' TI [.ref i1,.ref i2]/\ZZ.Cp h' TO [.str ⟨#[c]⟩ s.toks,v]/\h'.IsStrIter i1 "str_ascii_iterator" x t (i+1)/\h'.IsTupleIter i2 b (i+1)/\ZZ.Cp h' s.heap.objs.size [.str ⟨#[c]⟩ s.toks,v]/\ZZ.Ly z TO i1 i2 s.heap h')
   (ZZ.Tf n1 n2 n3 n4 n5 n6 n7 n8 n9 n10 (bn _ (by simp)) (bn _ (by simp)) (bn _ (by simp)) (bn _ (by simp)) hz hTI hTO lo hi1 hcx hi2 p2 (by simpa using hv) λh' a1 a2 a3 a4 a5 a6 a7=>⟨h',rq,rq,a1,a2,a3,a4,a5,a6,a7⟩) λr s' hQ=>?_
  obtain⟨h',rfl,rfl,a1,a2,a3,a4,a5,a6,a7⟩:=hQ;refine⟨_,rq,ZZ.Uj (s:={ s with heap:=h',toks:=s.toks+1 }) a1 λh2 hz2 sb=>?_⟩;have hlt2:s.heap.objs.size≠z:=Nat.ne_of_gt (Qbj hz);have hT2:ZZ.Cp h2 s.heap.objs.size [.str ⟨#[c]⟩ s.toks,v]:=(sb.2 _ hlt2).trans a6;have new:Bu X.prog X.w (upd H s.heap.objs.size (.tup [.str ⟨#[c]⟩,y])) h2 s.heap.objs.size (.tup [.str ⟨#[c]⟩,y]):=
   ⟨by show 2<=sizeLine;decide,[.str ⟨#[c]⟩ s.toks,v],.cons ⟨_,rq⟩ (.cons rv' .nil),_,hT2,rq,0,rq⟩
  have I1:=I.Tj (h':=h2) (t':=s.toks+1) (Qbm _) (λc q hc e=>(sb.2 c (λw=>hc (by simp[w]))).trans (a7 c q (λw=>hc (by simp[w])) (λw=>hc (by simp[w])) (λw=>hc (by simp[w])) (λw=>hc (by simp[w])) e)) hf new;refine⟨.ref s.heap.objs.size,_,I1,rq,⟨s.heap.objs.size,c,y,I.hok.fresh (Qbm _),rq,rq,hcx,λys' hy'=>by (rw[hq2] at hy';cases hy';exact hy)⟩,⟨⟨_,hz2⟩,(sb.2 _ (Ne.symm n1)).trans a2,⟨_,(sb.2 _ (Ne.symm n2)).trans a3,rq⟩,ZZ.DX a4 λo e=>(sb.2 _ (Ne.symm n3)).trans e,a5.at λo e=>(sb.2 _ (Ne.symm n4)).trans e⟩,λc hc=>?_⟩;have hlc:c≠s.heap.objs.size:=by
   have hmem:∃o,s.heap.get? c=some o:=by
    simp only[Qbe,QaO,or_false] at hc;rcases hc with rfl | rfl | rfl | rfl | rfl
    ·exact⟨_,hz⟩
    ·exact⟨_,hTI⟩
    ·exact⟨_,hTO⟩
    ·obtain⟨o,e,_⟩:=hi1;exact⟨o,e⟩
    ·obtain⟨o,e,_⟩:=hi2;exact⟨o,e⟩
   obtain⟨o,e⟩:=hmem;exact Qbl (Qbj e)
  rw[Bo hlc];exact (hf c hc).1
 done:=by
  intro X hP hw hK hc i jb s U H E I hf st hg;subst hP hw hK;have hg:x.cps[i]?=none:=hg;obtain⟨⟨f1,hz⟩,hTI,⟨olds,hTO,lo⟩,hi1,hi2⟩:=st;simp only[QaV,Qbe,QaO,or_false,not_or,List.nodup_nil,not_false_eq_true,and_true] at nd;obtain⟨⟨n1,n2,n3,n4⟩,⟨n5,n6,n7⟩,⟨n8,n9⟩,n10⟩:=nd;exact ZZ.LR hz (R:=λh'=>ZZ.Ly z TO i1 i2 s.heap h') (ZZ.Vl (I.ok.hd hc) n1 n2 n3 hz hTI hTO hi1 hg λh' e r st=>⟨h',e,rq,rq,r,st⟩) λh' r=>⟨rq,I.W4 (h':=h') (t':=s.toks) (λc q hc e=>r c q (λw=>hc (by simp[w])) (λw=>hc (by simp[w])) (λw=>hc (by simp[w])) (λw=>hc (by simp[w])) e) hf⟩
 self:=λ_ _ _ _ _ st h=>ZZ.Le st.1.choose_spec h
def ak (ta:TA):TI:=fun U H R=>ta U H λvs H1=>∃x b,vs=[.str x,.ref b]/\x.cps.all (· < 128)=true/\(∃ys,H1 b=some (.tup ys))/\R (Qp x b) H1
section
variable {X:Cx}
theorem Xc {a b:Expr} {ta:TA} {p pos tp:Pos} {elts:YJ} {k:Nat} (hg:Gl X "zip") (hm:X.mg "zip"=none) (ha:PA X [a,b] ta)
  (hs:starEach [a,b] X.env=[(false,eval a X.env),(false,eval b X.env)]:=by rfl) (hs2:starEach [b] X.env=[(false,eval b X.env)]:=by rfl):PI X (.Tuple elts k tp) (.Call (.Name "zip" p) [a,b] [] pos) (ak ta):=by
 intro jb s U H R I h;refine Call_ (JQ I hg hm (u:=.type "zip") (by trivial) (PyProof.Rows.callWith_type1 (thn (ha pos jb s U H _ I h) λus s1 ⟨vs,H1,I1,r1,q1⟩=>?_) (by rw[hs,hs2]) (by rw[hs2];rfl)));obtain⟨x,b,e,hx,⟨ys,hy⟩,q⟩:=q1;subst e;cases r1 with
 | cons r rr=>
  cases rr with
  | cons r' rr=>
   cases rr;obtain⟨t,rfl⟩:=r;cases r';obtain⟨ws,rw',k2,z2⟩:=I1.tuple (SqT.of hy);refine ZZ.U8 hx k2 λh' n en hz hTI hTO j1 j2 kp=>?_;refine ZZ.Le (s:={ s1 with heap:=h' }) hz ?_;have nd:([n+1+1+1+1,n+1+1,n+1+1+1,n,n+1]:List Nat).Nodup:=by
    simp only[QaV,Qbe,QaO,or_false,not_or,List.nodup_nil,not_false_eq_true,and_true];omega
   refine⟨(n+1+1+1+1:Nat),[(n+1+1+1+1:Nat),(n+1+1:Nat),(n+1+1+1:Nat),n,(n+1:Nat)],_,_,H1,rq,I1.kept (t':=s1.toks) λc o e=>kp c o e,Tn x t b _ _ _ _ _ nd,⟨⟨_,hz⟩,hTI,⟨_,hTO,rq⟩,j1,j2⟩,λc hc=>?_,q⟩;have hcs:s1.heap.objs.size<=(c:Nat):=by
    simp only[Qbe,QaO,or_false] at hc;rcases hc with rfl | rfl | rfl | rfl | rfl <;> omega
   exact I1.PK hcs (I1.hok.fresh hcs)
end
theorem V1 {x:Str} {b:Addr} {ys:YG} {g:TG} {tb:TS} {D:Ends} {U : St} {H:Hp} (hxy:ys.length=x.cps.size) (Pv:YN) (h0:Pv 0 U H) (hl:∀i U H',i<=ys.length->Pv i U H'->H' b=some (.tup ys))
  (hs:∀i c y p U H',x.cps[i]?=some c->ys[i]?=some y->Pv i U H'->H' p=none->g (.ref p) U (upd H' p (.tup [.str ⟨#[c]⟩,y])) fun σ2 H2=>tb { D with nx:=Pv (i+1),ct:=Pv (i+1),bk:=D.nx } σ2 H2) (hd:∀ U H',Pv ys.length U H'->D.nx U H') :
  ∃W:Nat->YN,(∃m,W 0 m U H)/\∀i m U H,W i m U H ->
   ((Qp x b).stop i H/\D.nx U H)\/((Qp x b).go i H/\∃N:YO,(∀ σ' H',N σ' H'->∃m',m' < m/\W (i+1) m' σ' H')/\∀x' H',(Qp x b).yld i H x' H'->g x' U H' fun σ2 H2=>tb { D with nx:=N,ct:=N,bk:=D.nx } σ2 H2):=by
 refine⟨λi m U H=>m=ys.length - i/\i<=ys.length/\Pv i U H,⟨ys.length,by simp,Qbn _,h0⟩,?_⟩;rintro i m U H' ⟨rfl,hi,p⟩;have q2:=hl i U H' hi p;by_cases hlt:i < ys.length
 ·have hlt2:i < x.cps.size:=by omega
  refine .inr ⟨⟨x.cps[i],ys,ys[i],Array.getElem?_eq_getElem hlt2,q2,Qaf hlt⟩,Pv (i+1),fun σ3 H3 p'=>⟨ys.length - (i+1),by omega,rq,hlt,p'⟩,λv H2 y=>?_⟩;obtain⟨pp,c,y',hp,rfl,rfl,e1,e2⟩:=y;exact hs i c y' pp U _ e1 (e2 ys q2) p hp
 ·exact .inl ⟨Array.getElem?_eq_none (by omega),by
   have:i=ys.length:=by omega
   subst this;exact hd _ _ p⟩
theorem XJ {K:YD} {a l:Addr} {xs:YG} {g:TG} {te:TE} {N:YO} {σ0:St} {H0:Hp} (Pv:YN) (h0:Pv 0 σ0 H0) (hl:∀i U H',i<=xs.length->Pv i U H'->SqT K H' a xs)
  (hs:∀i x U H',xs[i]?=some x->Pv i U H'->g x U H' fun σ3 H3=>te σ3 H3 λy H5=>∃ys,H5 l=some (.lst ys)/\ys.length < sizeLine/\Pv (i+1) σ3 (upd H5 l (.lst (ys++[y])))) (hd:∀ U H',Pv xs.length U H'->N U H'):CIn (Itt K a) g te l N σ0 H0:=by
 refine⟨λi m U H'=>m=xs.length - i/\i<=xs.length/\Pv i U H',⟨xs.length,by simp,Qbn _,h0⟩,?_⟩;rintro i m U H' ⟨rfl,hi,p⟩;have q:=hl i U H' hi p;by_cases hlt:i < xs.length
 ·refine .inr ⟨⟨xs,xs[i],q,Qaf hlt⟩,Pv (i+1),fun σ3 H3 p'=>⟨xs.length - (i+1),by omega,rq,hlt,p'⟩,λv H2 y=>?_⟩;obtain⟨rfl,e⟩:=y;exact hs i v U _ (e xs q) p
 ·exact .inl ⟨⟨xs,q,by omega⟩,by
   have:i=xs.length:=by omega
   subst this;exact hd _ _ p⟩
def VF:V->Option Int
 | .int i=>some i
 | .bl b=>some (if b=true then 1 else 0)
 | _=>none
section
variable {X:Cx}
theorem Xm:OpR X (binaryOp .Add) (λx y H Q=>∃i j,VF x=some i/\y=.int j/\Q (.int (i+j)) H):=by
 intro jb s U H x y v u Q I rx ry h;obtain⟨i,j,hn,rfl,q⟩:=h;obtain⟨t',rfl⟩:=ry;cases x with
 | int k=>
  cases hn;obtain⟨t,rfl⟩:=rx;exact add_int ⟨.int _,H,I.tok _,⟨_,rq⟩,q⟩
 | bl b=>
  cases hn;cases rx;exact PySem.IntBool.add_bool_int ⟨.int _,H,I.tok _,⟨_,rq⟩,q⟩
 | _=>cases hn
theorem Xj:OpR X (binaryOp .Sub) (λx y H Q=>∃i j,VF x=some i/\y=.int j/\Q (.int (i - j)) H):=by
 intro jb s U H x y v u Q I rx ry h;obtain⟨i,j,hn,rfl,q⟩:=h;obtain⟨t',rfl⟩:=ry;cases x with
 | int k=>
  cases hn;obtain⟨t,rfl⟩:=rx;exact sub_int ⟨.int _,H,I.tok _,⟨_,rq⟩,q⟩
 | bl b=>
  cases hn;cases rx;exact PySem.IntBool.sub_bool_int ⟨.int _,H,I.tok _,⟨_,rq⟩,q⟩
 | _=>cases hn
theorem U9:Dp X (.type "str") (λxs H Q=>(∃i:Int,xs=[.int i]/\i.natAbs.log2 < 1920/\Q (.str (toString i)) H)\/∃b:Bool,xs=[.bl b]/\Q (.str (if b then "True" else "False")) H):=by
 intro jb s U H xs us Q I r h;rcases h with h |⟨b,rfl,q⟩
 ·exact Qh jb s U H xs us Q I r h
 ·obtain⟨u,rfl,rfl⟩:=vals1 r;exact PySem.P.str_of_bool ⟨.str _,H,I.tok _,⟨_,rq⟩,q⟩
theorem VH:MtR X "str.upper" (λx vs H Q=>∃z,x=.str z/\vs=[]/\z.length<=5592405/\Q (.str (Txt.upper z)) H):=by
 intro jb s U H x vs v us Q I rx rv h;obtain⟨z,rfl,rfl,hz,q⟩:=h;obtain⟨t,rfl⟩:=rx;cases rv;exact SCL.upper hz λ_=>⟨.str (Txt.upper z),H,I.tok _,⟨_,rq⟩,q⟩
end
theorem Sy {K:YD} {a l:Addr} {xs:YG} {g:TG} {wi2:TI} {g2:TG} {te:TE} {Q:VK} {σ0:St} {H0:Hp} (Pv:YN)
  (h0:Pv 0 σ0 H0) (hl:∀i U H',i<=xs.length->Pv i U H'->SqL K H' a xs)
  (hs:∀i x U H',xs[i]?=some x->Pv i U H'->g x U H' fun σ3 H3=>wi2 σ3 H3 λJ2 H4=>CIn J2 g2 te l (Pv (i+1)) σ3 H4)
  (hd:∀ U H',Pv xs.length U H'->Q (.ref l) H'):Lz (Itl K a) g wi2 g2 te Q σ0 H0 l:=by
 unfold Lz;refine⟨λi m U H'=>m=xs.length - i/\i<=xs.length/\Pv i U H',⟨xs.length,by simp,Qbn _,h0⟩,?_⟩;rintro i m U H' ⟨rfl,hi,p⟩;have q:=hl i U H' hi p;by_cases hlt:i < xs.length
 ·refine .inr ⟨⟨xs,xs[i],q,by simp[hlt]⟩,Pv (i+1),fun σ3 H3 p'=>⟨xs.length - (i+1),by omega,rq,hlt,p'⟩,λv H2 y=>?_⟩;obtain⟨rfl,hx⟩:=y;exact hs i v U _ (hx xs q) p
 ·have e:i=xs.length:=by omega
  subst e;exact .inl ⟨⟨xs,q,Qbm _⟩,hd U H' p⟩
theorem Vs {X:Cx} {N':YF} {src:List (Option Nat)} {sc:Scope} {elt tg iter t2 i2:Expr} {pos spos px:Pos} {wi wi2:TI} {g g2:TG} {te:TE} {i:Nat} {x:Str} (hN:X.N.Nodup) (hi0:X.N[i]?=some x) (hx:Loc X.env.scope x) (hc:X.calm=true) (S:Dc X N' src sc)
  (hi:PI X tg iter wi) (hg:∀s3 H3 fp pn,PG (cxC X N' sc s3 H3 fp pn) tg g) (hi2:∀s3 H3 fp pn,PI (cxC X N' sc s3 H3 fp pn) t2 i2 wi2) (hg2:∀s3 H3 fp pn,PG (cxC X N' sc s3 H3 fp pn) t2 g2) (he:∀s3 H3 fp pn,PE (cxC X N' sc s3 H3 fp pn) elt te)
  (hsw:swapsWith (.ListComp elt [⟨tg,iter,[],0⟩,⟨t2,i2,[],0⟩] sc pos) (some (.Name x px)) spos.line X.env=pure true:=by rfl) (hs:∀x,foldedSetIterable iter X.env x=pure x:=by intro _;rfl) (hs2:∀s3 H3 fp pn x,foldedSetIterable i2 (cxC X N' sc s3 H3 fp pn).env x=pure x:=by intros;rfl)
  (hf:X.fn x=true\/X.env.scope.names.lookup x=some .local:=by first | exact .inl rfl | exact .inr rfl | assumption) :
  PS X (.Assign [.Name x px] (.ListComp elt [⟨tg,iter,[],0⟩,⟨t2,i2,[],0⟩] sc pos) spos) (Vn (Tr wi src g wi2 g2 te) (Gd i)):=by
 intro jb s U H D I h;rw[exec_Assign_Name_used _ _ _ _ hsw];refine Qbp (Qbh (Qbp ?_));show wpAny _ X.A (do let _ <-comprehension (.ListComp elt [⟨tg,iter,[],0⟩,⟨t2,i2,[],0⟩] sc pos) sc X.env _ (newList []) false (eval iter X.env) (some (assign (.Name x px) X.env))) _ _ s
 refine Qbp (thn (SJ (R:=λ_ s'=>SP X jb D .next s') hc S hi hg hi2 hg2 he hs hs2 I h λs3 H3 fp σ4 H4 s5 l I3 f3 J5 q=>?_) λ_ s' hq=>Qbq (Qbq hq));obtain⟨m,⟨oC,es,ep,hoC,r⟩,_⟩:=J5.loc;have I6:Inv X jb U H4 { s5 with heap:=s5.heap }:=UL I3 f3 J5 (Heap.SameBut.refl _ _);have hCn:H4 s3.heap.objs.size=none:=J5.free;have neL:s3.heap.objs.size≠X.env.locals:=Nat.ne_of_gt I3.lt;have aZ:∀v,oC.data≠.cell v:=λv z=>by rw[r.1] at z;cases z
 have I7:Inv X (jb++[(s3.heap.objs.size,oC)]) U H4 s5:=I6.Mg λp hp=>(QaR.mp hp).elim (λz=>I6.pin p (Qaj _ z)) λz=>by
  cases Qax.mp z;exact⟨hoC,hCn,neL,I3.Y0 (Qbm _),aZ⟩
 show wpAny _ X.A (assign (.Name x px) X.env (.ref l)) _ _ s5;refine wpAny_assign_Name (Jh (v:=.ref l) I7 hN hi0 hx rfl (λs6 I8=>?_) hf);have k8:=(I8.pin (s3.heap.objs.size,oC) (Qaj _ (Qaj _ (Qax.mpr rfl)))).1;refine⟨m,⟨oC,es,ep,k8,r⟩,λh' sb=>⟨_,H4,?_,q⟩⟩;have I9:=I8.Fg;refine I9.turned (t':=s6.toks) (λb o hb e=>sb.extBut b o hb e) hCn neL (.inr I3.sz) (λy c e z=>?_) (λp hp z=>?_)
 ·obtain⟨v,o,ho,_⟩:=I3.cell y c e;exact absurd (Qbj ho) (by rw[z];exact Qbg _)
 ·have:=(I3.pin p hp).1;exact absurd (Qbj this) (by rw[z];exact Qbg _)
theorem Xd {X:Cx} {K:YD} {tg l:Expr} {tl:TE} (h:X.K=K) (hl:PE X l tl):PI X tg l (Zf K tl):=h ▸ O4 hl
theorem Xf {X:Cx} {a:Expr} {ta:TE} {pos:Pos} (ha:PE X a ta):PE X (.UnaryOp .Not a pos) (fun U H Q=>ta U H λx H1=>∃k,ZG X.K x H1 k/\Q (.bl (!k)) H1):=by
 intro jb s U H Q I h;refine UnaryOp_ (thn (ha jb s U H _ I h) λv s1 zz=>?_);obtain⟨x,H1,I1,r1,q1⟩:=zz;obtain⟨k,e,q⟩:=q1;refine not_of (thn (Yi jb s1 U H1 x v (λc H2=>Q (.bl (!c)) H2) I1 r1 ⟨k,e,q⟩) λc s2 zz=>?_);obtain⟨H2,I2,q2⟩:=zz;exact⟨.bl (!c),H2,I2,rq,q2⟩
end L2
namespace K22
open PySem L2
def top (i:Nat):Stmt:=PySem.Challenge.pw_warnloop_k22_conditions_told.main.body.getD i (.Pass ⟨0,0,0,0⟩)
theorem Bk:bootBuiltins "isinstance"=some (.builtin "isinstance"):=by trivial
theorem Lx:bootBuiltins "int"=some (.type "int"):=by trivial
theorem Mv:bootBuiltins "bool"=some (.type "bool"):=by trivial
theorem Fj:bootBuiltins "tuple"=some (.type "tuple"):=by trivial
theorem XQ:bootBuiltins "list"=some (.type "list"):=by trivial
theorem Jd:bootBuiltins "str"=some (.type "str"):=by trivial
theorem Ci:bootBuiltins "len"=some (.builtin "len"):=by trivial
theorem Ql:bootBuiltins "all"=some (.builtin "all"):=by trivial
theorem Vd:bootBuiltins "abs"=some (.builtin "abs"):=by trivial
theorem Vc:bootBuiltins "max"=some (.builtin "max"):=by trivial
theorem Zz:bootBuiltins "min"=some (.builtin "min"):=by trivial
structure Nm (mg:YB):Prop where
 isinstance:mg "isinstance"=none
 int:mg "int"=none
 bool:mg "bool"=none
 tuple:mg "tuple"=none
 list:mg "list"=none
 str:mg "str"=none
 len:mg "len"=none
 all:mg "all"=none
 abs:mg "abs"=none
 max:mg "max"=none
 min:mg "min"=none
 range:mg "range"=none
 sorted:mg "sorted"=none
 any:mg "any"=none
 sum:mg "sum"=none
 enumerate:mg "enumerate"=none
 zip:mg "zip"=none
 reversed:mg "reversed"=none
 dict:mg "dict"=none
 ord:mg "ord"=none
 set:mg "set"=none
abbrev LQ:Stmt:=top 16
abbrev Jc:YF:=["_law_script","_law_k"]
theorem Ku:Bm ["_law_script","_law_k","_law_cell"] Jc (Aj LQ):=by ac_rfl
abbrev Kv:Stmt:=top 17
abbrev Dl:YF:=["_law_bag_here","_law_many"]
theorem Fp:Bm ["_law_bag_here","_law_many","_law_digit","_law_primes","_law_step","_law_base","_law_found"] Dl (Aj Kv):=by ac_rfl
theorem Zd (v:V):isW v=(isI v&&!isB v):=by cases v <;> rfl
def Bh (H:Hp) (b:Addr) (n:Nat):Prop:=∃x y z:Int,H b=some (.lst [.int x,.int y,.int z])/\0<=x/\0<=y/\y<=4294967296/\0<=z/\z<=n
theorem Bh.same {H H':Hp} {b:Addr} {n:Nat} (h:Bh H b n) (s:Same H H'):Bh H' b n:=by
 obtain⟨x,y,z,e,r⟩:=h;exact⟨x,y,z,s _ _ e,r⟩
theorem Bh.mono {H:Hp} {b:Addr} {n m:Nat} (h:Bh H b n) (l:n<=m):Bh H b m:=by
 obtain⟨x,y,z,e,h1,h2,h3,h4,h5⟩:=h;exact⟨x,y,z,e,h1,h2,h3,h4,by omega⟩
theorem Bh.nb {H:Hp} {b p:Addr} {n:Nat} (h:Bh H b n) (hp:H p=none):b≠p:=by obtain⟨_,_,_,e,_⟩:=h;exact BK e hp
theorem Bh.Ia {H:Hp} {b:Addr} {n:Nat} (h:Bh H b n):∀xs,H b≠some (.tup xs):=λxs z=>by obtain⟨_,_,_,e,_⟩:=h;rw[e] at z;cases z
theorem Bh.ex {H:Hp} {b:Addr} {n:Nat} (h:Bh H b n):∃o,H b=some o:=by obtain⟨_,_,_,e,_⟩:=h;exact⟨_,e⟩
theorem Bh.Dz {H H':Hp} {a b:Addr} {n:Nat} (h:Bh H b n) (s:Ah a H H') (ne:b≠a):Bh H' b n:=by
 obtain⟨x,y,z,e,r⟩:=h;exact⟨x,y,z,s _ _ e ne,r⟩
theorem Ar {n:Nat} (h:n<=1000):n<=sizeLine:=Nat.le_of_lt (Ck h)
def Ww (K:YD):Sp:=λvs H Q _=>∃(a:Addr) (ns:List Int) (k:Int),vs=[.ref a,.int k]/\SqL K H a (ns.map V.int)/\ns.length<=63/\0<=k/\k<=100/\∀p o,H p=none->Bh (upd H p o) p 0->Q (.ref p) (upd H p o)
def GJ:Sp:=λvs H Q _=>∃(b:Addr) (n:Nat) (m:Int),vs=[.ref b,.int m]/\Bh H b n/\n<=10000/\0 < m/\m < 1073741824/\∀r H',0<=r->r < m->Bh H' b (n+1)->Ah b H H'->Q (.int r) H'
def Oa (K:YD):Sp:=λvs H Q _=>∃(a:Addr) (ns:List Int),vs=[.ref a]/\SqL K H a (ns.map V.int)/\ns.length<=63/\∀H',Q (.bl true) H'
theorem at7 {i:Int} (h0:0<=i) (h7:i < 7) {a b c d e f g:Int} (P:Int->Prop) (ha:P a) (hb:P b) (hc:P c) (hd:P d) (he:P e) (hf:P f) (hg:P g):∃p,atI [V.int a,.int b,.int c,.int d,.int e,.int f,.int g] i=some (.int p)/\P p:=by
 have:i=0\/i=1\/i=2\/i=3\/i=4\/i=5\/i=6:=by omega
 rcases this with rfl | rfl | rfl | rfl | rfl | rfl | rfl
 ·exact⟨_,rq,ha⟩
 ·exact⟨_,rq,hb⟩
 ·exact⟨_,rq,hc⟩
 ·exact⟨_,rq,hd⟩
 ·exact⟨_,rq,he⟩
 ·exact⟨_,rq,hf⟩
 ·exact⟨_,rq,hg⟩
theorem Zy {x:Int} {b:Bool}:Te x (if b=true then 1 else 0):=.inr (by cases b <;> exact⟨by decide,by decide⟩)
section
variable {P:Program} {w:World} {K:YD} {mg:YB} {base:Heap}
theorem VB (C:Code K mg "_law_bag" LQ Jc) (T:Nm mg):Good P w K mg base "_law_bag" 1 Jc (Ww K):=by
 refine C.good Ku (λvs H Q E h=>?_) (λf cdv A outer s H vs Q E hr h=>?_)
 ·obtain⟨a,ns,k,rfl,_⟩:=h;rfl
 obtain⟨a,ns,k,rfl,hS,h63,h0,h1,q⟩:=h;refine⟨_,(Ad (Bg (i:=2) Ku.nd rfl (Or.inl rfl) (Aq Ca (Aq Ca (Aq EY (Aq EY Ab (pv 1)) (pv 1)) (Aq EY Ab (pv 1))) Ab))
 (Ad (Bj (Bc Hs (pv 1) (Ao Bp rfl T.len Ci (Aa (pv 0) Ac)) (Bb _)) (Af (Bg (i:=2) Ku.nd rfl (Or.inl rfl) (Ay Bs (pv 0) (pv 1) (λ_ _=>rfl)))) Av)
 (Af (Ak (Ce (Aa (Aq EY (Ao Qk rfl T.abs Vd (Aa (pv 2) Ac)) (Il Vb rfl T.int Lx (Aa (Cu Z9 (Ao Qk rfl T.abs Vd (Aa (pv 2) Ac)) (Aq O8 Ab Ab) (Bb _)) Ac))) (Aa (Aq Ca (Aq GZ (pv 2) Ab) (Aq EY Ab (pv 1))) (Aa Ab Ac)))))))),?_⟩
 show let R0:TS:=_;let R1:TS:=_;let R2:TS:=Am (BX _ R1 _) R0;Am _ R2 _ _ _;intro R0 R1 R2;refine⟨_,rq,_,_,rq,rq,.inl ⟨by decide,by decide⟩,_,rq,_,_,rq,rq,.inr ⟨by omega,by omega⟩,_,rq,_,_,rq,rq,.inl ⟨by decide,by decide⟩,_,_,rq,rq,_,_,rq,rq,?_⟩;refine⟨_,rq,_,rq,a,_,rq,.inl hS,_,_,rq,rq,_,rq,?_⟩;have hl:(ns.map V.int).length=ns.length:=QaQ _;have fin:∀(c:Int) (p:Addr),H p=none->Q (.ref p) (upd H p (.lst [.int ((if c < 0 then -c else c)*(if decide ((10:Int) ^ (18:Int).toNat<=(if c < 0 then -c else c))=true then 1 else 0)),.int (c % 2147483647+37*k),.int 0])):=λc p hp=>by
  refine q p _ hp ⟨_,_,_,Ae,?_,?_,?_,by omega,by omega⟩
  ·refine Int.mul_nonneg ?_ ?_
   ·split <;> omega
   ·split <;> omega
  ·have:=QaZ c (show (2147483647:Int)≠0 by decide);omega
  ·have:=Qaz c (show (0:Int) < 2147483647 by decide);omega
 refine Sd (λc1=>?_) (λc1=>?_)
 ·have c':k < (((ns.map V.int).length:Nat):Int):=QaD c1;rw[hl] at c';have hk:k.toNat < ns.length:=by omega
  have hat:atI (ns.map V.int) ((k.toNat:Nat):Int)=some (.int ns[k.toNat]):=Bf (by rw[QaG];simp[hk]);rw[Int.toNat_of_nonneg h0] at hat;refine⟨_,rq,_,rq,a,_,_,_,rq,rq,hS,hat,?_⟩;exact⟨_,rq,_,rq,_,rq,_,rq,_,_,rq,rq,⟨by decide,by decide,by decide⟩,_,_,rq,rq,.inr ⟨_,rq,_,_,rq,rq,Zy,_,rq,_,_,rq,rq,(by show (0:Int) < 2147483647;decide),_,rq,_,_,rq,rq,.inl ⟨by decide,by decide⟩,_,_,rq,rq,
   (by show 3<=sizeLine;decide),λl hl'=>fin _ l hl'⟩⟩
 ·exact⟨_,rq,_,rq,_,rq,_,rq,_,_,rq,rq,⟨by decide,by decide,by decide⟩,_,_,rq,rq,.inr ⟨_,rq,_,_,rq,rq,Zy,_,rq,_,_,rq,rq,(by show (0:Int) < 2147483647;decide),_,rq,_,_,rq,rq,.inl ⟨by decide,by decide⟩,_,_,rq,rq,
   (by show 3<=sizeLine;decide),λl hl'=>fin _ l hl'⟩⟩
theorem Uc (C:Code K mg "_law_take" Kv Dl) (T:Nm mg):Good P w K mg base "_law_take" 1 Dl GJ:=by
 refine C.good Fp (λvs H Q E h=>?_) (λf cdv A outer s H vs Q E hr h=>?_)
 ·obtain⟨b,n,m,rfl,_⟩:=h;rfl
 obtain⟨b,n,m,rfl,⟨x,y,z,hb,x0,y0,y1,z0,z1⟩,hn,m0,m1,q⟩:=h;refine⟨_,(Ad (Bj (Bc Jq (Ay Bs (pv 0) Ab (λ_ _=>rfl)) Ab (Bb _)) (Ad (Bg (i:=2) Fp.nd rfl (Or.inl rfl) (Aq GZ (Ay Bs (pv 0) Ab (λ_ _=>rfl)) (pv 1)))
 (Ad (JK (Aq Mh (Ay Bs (pv 0) Ab (λ_ _=>rfl)) (pv 1)) (JL (pv 0) Ab set_list))
 (Af (Ak (pv 2))))) Av)
 (Ad (Bg (i:=3) Fp.nd rfl (Or.inl rfl) (@Bx _ _ _ _ _ (@Aa _ _ _ _ _ (@Ab _ _ _ _) (@Aa _ _ _ _ _ (@Ab _ _ _ _) (@Aa _ _ _ _ _ (@Ab _ _ _ _) (@Aa _ _ _ _ _ (@Ab _ _ _ _) (@Aa _ _ _ _ _ (@Ab _ _ _ _) (@Aa _ _ _ _ _ (@Ab _ _ _ _) (@Aa _ _ _ _ _ (@Ab _ _ _ _) (@Ac _) Az) Az) Az) Az) Az) Az) Az)))
 (Ad (JK (Aq Ca (Ay Bs (pv 0) Ab (λ_ _=>rfl)) Ab) (JL (pv 0) Ab set_list))
 (Ad (Bg (i:=4) Fp.nd rfl (Or.inl rfl) (Ay Bs (pv 0) Ab (λ_ _=>rfl)))
 (Ad (Bg (i:=5) Fp.nd rfl (Or.inl rfl) (Aq Ca (Aq Ca (Aq EY (Ay Bs (pv 0) Ab (λ_ _=>rfl)) (Aq Ca (Aq EY Ab (pv 4)) Ab)) (Aq EY (Aq EY Ab (pv 4)) (pv 4))) Ab))
 (Ad (Bg (i:=6) Fp.nd rfl (Or.inl rfl) (Aq GZ (Aq O8 (pv 5) Ab) (Ay Bq (pv 3) (Aq GZ (pv 4) Ab) (λ_ _=>rfl))))
 (Af (Ak (Aq GZ (Aq Mh (Aq GZ (Aq EY (pv 6) (Aq Ca (Aq Mh (pv 6) Ab) Ab)) (Ay Bq (pv 3) (Aq GZ (Aq Ca (pv 4) Ab) Ab) (λ_ _=>rfl))) Ab) (pv 1)))))))))),?_⟩
 show let R0:TS:=_;let R1:TS:=Am _ R0;let R2:TS:=Am _ R1;let R3:TS:=Am _ R2;let R4:TS:=Am _ R3;let R5:TS:=Am _ R4;let R6:TS:=Am _ _;let R7:TS:=Am _ R6;Am (BX _ R7 _) R5 _ _ _;intro R0 R1 R2 R3 R4 R5 R6 R7;refine⟨_,rq,b,_,_,_,rq,rq,SqL.of hb,rq,_,_,rq,rq,_,rq,?_⟩;refine Sd (λc1=>?_) (λc1=>?_)
 ·have c':0 < x:=QaD c1;refine⟨_,rq,b,_,_,_,rq,rq,SqL.of hb,rq,_,rq,_,_,rq,rq,m0,?_⟩;refine⟨_,rq,b,_,_,_,rq,rq,SqL.of hb,rq,_,rq,_,_,rq,rq,⟨m0,m1⟩,_,rq,b,_,_,_,rq,rq,hb,rq,?_⟩;exact⟨_,rq,q _ _ (QaZ x (by omega)) (Qaz x m0) ⟨x / m,y,z,Ae,Int.ediv_nonneg x0 (by omega),y0,y1,z0,by omega⟩ Ah.upd⟩
 ·refine⟨(by show 7<=sizeLine;decide),λtp htp=>?_⟩;have nbt:b≠tp:=BK hb htp;have hb1:∀o,(upd H tp o) b=some (.lst [.int x,.int y,.int z]):=λo=>by rw[Bo nbt];exact hb
  have ht1:∀o u,(upd (upd H tp o) b u) tp=some o:=λo u=>by rw[Bo nbt.symm,Ae]
  refine⟨_,rq,b,_,_,_,rq,rq,SqL.of (hb1 _),rq,_,_,rq,rq,_,rq,b,_,_,_,rq,rq,hb1 _,rq,?_⟩;refine⟨_,rq,b,_,_,_,rq,rq,SqL.of Ae,rq,?_⟩;have s0:0<=z+1:=by omega
  have s1:z+1<=10001:=by omega
  refine⟨_,rq,b,_,_,_,rq,rq,SqL.of Ae,rq,_,rq,_,_,rq,rq,.inl ⟨by decide,by decide⟩,_,_,rq,rq,_,_,rq,rq,.inl ⟨by omega,by omega⟩,_,rq,_,_,rq,rq,.inl ⟨by decide,by decide⟩,_,rq,_,_,rq,rq,.inr ⟨by omega,by omega⟩,
   _,_,rq,rq,_,_,rq,rq,?_⟩
  have hbase:(y*(2*(z+1)+1)+6007*(z+1)*(z+1)+29).natAbs < 2 ^ 64:=by
   have h1:0<=y*(2*(z+1)+1):=Int.mul_nonneg y0 (by omega);have h2:y*(2*(z+1)+1)<=4294967296*20003:=Int.mul_le_mul y1 (by omega) (by omega) (by omega);have h3:0<=6007*(z+1)*(z+1):=Int.mul_nonneg (by omega) s0;have h4:6007*(z+1)*(z+1)<=(6007*10001)*10001:=Int.mul_le_mul (by omega) s1 s0 (by omega);omega
  obtain⟨p1,e1,p10,p11⟩:=at7 (i:=(z+1) % 7) (QaZ _ (by decide)) (Qaz _ (by decide)) (a:=2147483629) (b:=2147483587) (c:=2147483579) (d:=2147483563) (e:=2147483549) (f:=2147483543) (g:=2147483497)
   (λp=>0 < p/\p < 2147483648) (by decide) (by decide) (by decide) (by decide) (by decide) (by decide) (by decide)
  obtain⟨p2,e2,p20,p21⟩:=at7 (i:=(z+1+3) % 7) (QaZ _ (by decide)) (Qaz _ (by decide)) (a:=2147483629) (b:=2147483587) (c:=2147483579) (d:=2147483563) (e:=2147483549) (f:=2147483543) (g:=2147483497)
   (λp=>0 < p/\p < 2147483648) (by decide) (by decide) (by decide) (by decide) (by decide) (by decide) (by decide)
  refine⟨_,rq,_,_,rq,rq,⟨by decide,by decide,hbase⟩,_,rq,_,rq,_,_,rq,rq,(by show (0:Int) < 7;decide),tp,_,_,_,rq,rq,SqT.of (ht1 _ _),e1,_,_,rq,rq,p10,?_⟩;generalize hF:(y*(2*(z+1)+1)+6007*(z+1)*(z+1)+29) ^ (3:Int).toNat % p1=F;have F0:0<=F:=by rw[<-hF];exact QaZ _ (by omega)
  have F1:F < p1:=by rw[<-hF];exact Qaz _ p10
  refine⟨_,rq,_,rq,_,_,rq,rq,⟨by decide,by decide⟩,_,_,rq,rq,_,_,rq,rq,.inl ⟨by omega,by omega⟩,_,rq,_,rq,_,_,rq,rq,_,_,rq,rq,(by show (0:Int) < 7;decide),tp,_,_,_,rq,rq,SqT.of (ht1 _ _),e2,_,_,rq,rq,p20,
   _,_,rq,rq,⟨by decide,by decide⟩,_,rq,_,_,rq,rq,m0,?_⟩
  refine q _ _ (QaZ _ (by omega)) (Qaz _ m0) ⟨x,y,z+1,Ae,x0,y0,y1,s0,by omega⟩ λc o e nc=>?_;rw[Bo nc,Bo (BK e htp)];exact e
end
abbrev Jk:Stmt:=top 18
abbrev Gi:YF:=["_law_bag_here"]
abbrev xb:YF:=["_law_bag_here","_law_letters"]
theorem MP:Bm xb Gi (Aj Jk):=by ac_rfl
abbrev Ik:Stmt:=top 19
abbrev Fv:YF:=["_law_bag_here","_law_many"]
abbrev xc:YF:=["_law_bag_here","_law_many","_law_found","_law_place","_law_name_here"]
theorem FQ:Bm xc Fv (Aj Ik):=by ac_rfl
def abc:Str:="abcdefghijklmnopqrstuvwxyz"
def okS (z:Str):Prop:=∀c∈z.cps.toList,c∈abc.cps.toList
theorem okS.ok {z:Str} (h:okS z):PyData.strOk z=true:=by
 have ha:abc.cps.toList.all (λc=>decide (c < 0x110000))=true:=by trivial
 unfold PyData.strOk;rw[Array.all_eq_true'];exact λc hc=>QaM.mp ha c (h c (Qan.mpr hc))
theorem okS.append {x y:Str} (h:okS x) (h':okS y):okS (x++y):=by
 intro c hc;have:c∈x.cps.toList++y.cps.toList:=by
  have e:(x++y).cps=x.cps++y.cps:=rfl;rw[e,Array.toList_append] at hc;exact hc
 rcases QaR.mp this with z | z
 ·exact h c z
 ·exact h' c z
theorem okS.slice {x:Str} (h:okS x) (l u:Option Int):okS (Txt.slice x l u):=by
 unfold Txt.slice;split
 ·exact h
 ·intro c hc;have hc':c∈(Builtin.Str.strSliceIndices l u 1 x.length).filterMap (x.cps[·]?):=by simpa using hc
  obtain⟨i,_,e⟩:=List.mem_filterMap.mp hc';exact h c (Qan.mpr (Array.mem_of_getElem? e))
theorem okS.join {sep:Str} (hs:okS sep):∀{ts:YF},(∀t∈ts,okS t)->okS (Str.join sep ts)
 | [],_=>λc hc=>by cases hc
 | [x],h=>h x (Qav ..)
 | x::y::r,h=>((h x (Qav ..)).append hs).append (okS.join hs (ts:=y::r) λt ht=>h t (Qal _ ht))
theorem Kh:abc.cps.toList.length=26:=by trivial
theorem ZD:abc.cps.toList.Nodup:=by trivial
theorem Ve:okS abc:=λc hc=>hc
theorem Pu:∀ts:YF,(Str.join "" ts).length=(ts.map (·.length)).sum
 | []=>rfl
 | [x]=>by show x.length=_;simp
 | x::y::r=>by
  show ((x++"")++Str.join "" (y::r)).length=_;rw[Str.length_append,Str.length_append,Pu (y::r),Qbd (a:=x),List.sum_cons];have:(Str.ofString "").length=0:=by trivial
  rw[this];omega
theorem cH (n:Nat):(Builtin.Str.strSliceIndices (some 1) none 1 n).length<=n - 1:=by
 unfold Builtin.Str.strSliceIndices sliceRange;simp only[show (1:Int) > 0 by decide,if_true,QaQ,List.length_range,show ¬((1:Int) < 0) by decide,if_false];split
 ·rw[Int.ediv_one];omega
 ·exact Qbn _
theorem TJ (z:Str):(Txt.slice z (some 1) none).length<=z.length - 1:=by
 have h:=cH z.length;unfold Txt.slice;split
 ·rename_i hc;rw[QaI] at hc;have:=eq_of_beq hc.2;omega
 ·show (List.filterMap _ _).toArray.size<=_;rw[QaC];exact Qbk (List.length_filterMap_le _ _) h
theorem ZF {r:Int} (h0:0<=r) (h1:r < 26):∃c,atI abc.cps.toList r=some c/\okS ⟨#[c]⟩:=by
 have hl:r.toNat < abc.cps.toList.length:=by rw[Kh];omega
 refine⟨abc.cps.toList[r.toNat],?_,λc hc=>?_⟩
 ·have:=Bf (xs:=abc.cps.toList) (j:=r.toNat) (Qaf hl);rw[Int.toNat_of_nonneg h0] at this;exact this
 ·have:c=abc.cps.toList[r.toNat]:=by simpa using hc
  rw[this];exact Ve _ (List.getElem_mem hl)
theorem Ol:∀{ys:YF},(∀y∈ys,y.length=1)->(ys.map (·.length)).sum=ys.length
 | [],_=>rfl
 | y::r,h=>by
  rw[Qbd,List.sum_cons,h y (Qav ..),Ol (ys:=r) λt ht=>h t (Qal _ ht),QaJ];omega
theorem Nf (ys:YF):(ys.map V.str).all Gx=true:=by
 rw[List.all_map,QaM];intro _ _;rfl
theorem Js (z:Str):∀ys:YF,inV (.str z) (ys.map V.str)=true ↔ z∈ys
 | []=>by constructor <;> intro h <;> cases h
 | y::r=>by
  have ih:=Js z r;unfold inV at ih ⊢;rw[Qbd,Qbf,Bool.or_eq_true,ih,Qbe];have:eqV (.str y) (.str z)=true ↔ z=y:=by
   show (y == z)=true ↔ z=y;rw[beq_iff_eq];exact⟨λh=>h.symm,λh=>h.symm⟩
  rw[this]
theorem M7:∀{l m:YF},l.Nodup->(∀x∈l,x∈m)->l.length<=m.length
 | [],_,_,_=>Qbn _
 | a::r,m,nd,h=>by
  have ha:=h a (Qav ..);obtain⟨n1,n2⟩:=QaV.mp nd;have:=M7 (l:=r) (m:=m.erase a) n2 λx hx=>(List.mem_erase_of_ne (λe=>n1 (by rw[<-e];exact hx))).mpr (h x (Qal _ hx));rw[List.length_erase_of_mem ha] at this;have hp:=List.length_pos_of_mem ha;rw[QaJ];omega
theorem QG (rest:Str) {ys:YF} (h:ys.length < 26):∃(i c:Nat),abc.cps[i]?=some c/\((⟨#[c]⟩ : Str)++rest)∉ys:=by
 refine Classical.byContradiction λhn=>?_;have hall:∀x∈abc.cps.toList.map (λc=>(⟨#[c]⟩ : Str)++rest),x∈ys:=λx hx=>by
  obtain⟨c,hc,rfl⟩:=List.mem_map.mp hx;obtain⟨i,hi⟩:=List.getElem?_of_mem hc;refine Classical.byContradiction λhm=>hn ⟨i,c,by simpa using hi,hm⟩
 have nd:(abc.cps.toList.map (λc=>(⟨#[c]⟩ : Str)++rest)).Nodup:=by
  refine List.pairwise_map.mpr (ZD.imp λ{c d} hne e=>hne ?_);have e1:(#[c]++rest.cps:Array Nat)=#[d]++rest.cps:=congrArg Str.cps e;have e2:=congrArg Array.toList e1;rw[Array.toList_append,Array.toList_append] at e2;injection e2
 have:=M7 nd hall;rw[QaQ,Kh] at this;omega
theorem take_snoc {α : Type} {l:List α} {i:Nat} {x:α} (h:l[i]?=some x):l.take (i+1)=l.take i++[x]:=by rw[List.take_add_one,h];rfl
theorem Ah.Ws {a b:Addr} {H HH H':Hp} (s:Ah b H HH) (t:Ah a HH H') (f:H a=none):Ah b H H':=λc o e n=>t _ _ (s _ _ e n) λz=>by rw[z,f] at e;cases e
def Oo:Sp:=λvs H Q _=>∃(b:Addr) (n:Nat),vs=[.ref b]/\Bh H b n/\n<=9000/\∀z H',1<=z.length->z.length<=8->okS z->Bh H' b (n+9)->Ah b H H'->Q (.str z) H'
def LK:Sp:=λvs H Q _=>∃(b:Addr) (n many:Nat),vs=[.ref b,.int many]/\Bh H b n/\n<=8000/\many<=20 /\
 ∀l (ys:YF) H',H l=none->ys.length=many->(∀y∈ys,(1<=y.length/\y.length<=8)/\okS y)->ys.Nodup->H' l=some (.lst (ys.map V.str))->Bh H' b (n+9*many)->Ah b H H'->Q (.ref l) H'
section
variable {P:Program} {w:World} {K:YD} {mg:YB} {base:Heap}
abbrev jd(a:PySem.Addr):Option L2.V:=some (.ref a)
abbrev xf:YF:=["_law_place","_law_letters","_law_bag_here"]
theorem Xn (C:Code K mg "_law_name" Jk Gi) (T:Nm mg) (Ba:Good P w K mg base "_law_take" 1 Dl GJ):Good P w K mg base "_law_name" 2 Gi Oo:=by
 refine C.good MP (λvs H Q E h=>?_) (λf cdv A outer s H vs Q E hr h=>?_)
 ·obtain⟨b,n,rfl,_⟩:=h;rfl
 obtain⟨b,n,rfl,hb,hn,q⟩:=h;refine⟨_,(Ad (Bg (i:=1) MP.nd rfl (Or.inr rfl) Ai)
 (Af (Ak (Oc PySem.F.plainAttrs_str PySem.F.slot_str_join PySem.F.type_str_join Xv Ai (Aa (Hv (N':=xf) rfl (Dc.of (src:=[none,some 1,some 0]) (Aj Jk) xb rfl rfl rfl (by trivial) (by trivial) (by trivial) rfl (by trivial)) (El rfl T.range (Aa (Aq Ca Ab (Al Ba hr (Aa (pv 0) (Aa Ab Ac)))) Ac)) (λ_ _ _ _=>(Cd (i:=0) (show List.Nodup (xf:YF) by trivial) rfl (Or.inl rfl))) (λ_ _ _ _=>JM) (λ_ _ _ _=>(Ay Zc (pv 1) (Al Ba hr (Aa (pv 2) (Aa Ab Ac))) (λ_ _=>rfl)))) Ac))))),?_⟩
 show let R0:TS:=_;Am _ R0 _ _ _;intro R0;refine⟨rq,_,rq,b,n,8,rq,hb,by omega,by decide,by decide,λr H1 r0 r1 hb1 sb1=>⟨_,_,rq,rq,_,rq,by omega,by omega,λl hl=>?_⟩⟩;have nbl:b≠l:=hb1.nb hl;have fl:H l=none:=sb1.free hb1.ex hl;let J0:YN:=λi U HH=>∃(u:Option V) (ys:YF),U=[u,some (.str abc),jd b]/\HH l=some (.lst (ys.map V.str))/\ys.length=i/\(∀y∈ys,y.length=1/\okS y)/\Bh HH b (n+1+i)/\Ah b H HH;refine Sv J0
  ⟨none,[],rq,Ae,rq,(λy hy=>by cases hy),hb1.same (Ag hl _),sb1.trans (Ah.of (Ag hl _))⟩ (λi U HH hi h=>?_) (fun U HH h=>?_)
 ·obtain⟨u,ys,rfl,e1,e2,e3,e4,e5⟩:=h;refine⟨_,rq,_,rq,b,_,26,rq,e4,by omega,by decide,by decide,λr' HA r0' r1' hbA sA=>?_⟩;obtain⟨c,ec,oc⟩:=ZF r0' r1';have eA:=sA _ _ e1 nbl.symm;refine⟨_,_,c,rq,rq,Ar (by show abc.cps.size<=1000;rw[<-Qap,Kh];decide),ec,_,eA,Ck (by rw[QaQ];omega),_,ys++[⟨#[c]⟩],rq,?_,?_,λy hy=>?_,hbA.Dz Ah.upd nbl,?_⟩
  ·rw[Ae,QaT];rfl
  ·rw[Qaw,e2];rfl
  ·rcases QaR.mp hy with h | h
   ·exact e3 y h
   ·have:y=⟨#[c]⟩:=by simpa using h
    rw[this];exact⟨rq,oc⟩
  ·exact λc o e ne=>Ah.upd _ _ (sA _ _ (e5 _ _ e ne) ne) λz=>by rw[z,fl] at e;cases e
 obtain⟨u,ys,rfl,e1,e2,e3,e4,e5⟩:=h;have hs:=Ol λy hy=>(e3 y hy).1;refine⟨_,l,ys,rq,rq,SqL.of e1,?_,?_⟩
 ·rw[hs];have:(Str.ofString "").length=0:=by trivial
  rw[this];omega
 ·have hj:=Pu ys;rw[hs] at hj;refine q _ HH ?_ ?_ ?_ (e4.mono (by omega)) e5
  ·show 1<=(Builtin.Str.glued _ ys).length;rw[StrLaws.glued_eq_join];show 1<=(Str.join "" ys).length;omega
  ·show (Builtin.Str.glued _ ys).length<=8;rw[StrLaws.glued_eq_join];show (Str.join "" ys).length<=8;omega
  ·show okS (Builtin.Str.glued _ ys);rw[StrLaws.glued_eq_join];exact okS.join (λc hc=>by cases hc) λy hy=>(e3 y hy).2
abbrev xg:YF:=["_law_one","_law_name_here","_law_found"]
theorem Vz (C:Code K mg "_law_names" Ik Fv) (T:Nm mg) (KH:Good P w K mg base "_law_name" 2 Gi Oo):Good P w K mg base "_law_names" 3 Fv LK:=by
 refine C.good FQ (λvs H Q E h=>?_) (λf cdv A outer s H vs Q E hr h=>?_)
 ·obtain⟨b,n,many,rfl,_⟩:=h;rfl
 obtain⟨b,n,many,rfl,hb,hn,hm,q⟩:=h;refine⟨_,(Ad (Bg (i:=2) FQ.nd rfl (Or.inr rfl) (Ce Ac))
 (Ad (GK QaW rfl (El rfl T.range (Aa (pv 1) Ac)) (Cd (i:=3) FQ.nd rfl (Or.inl rfl))
 (Ad (Bg (i:=4) FQ.nd rfl (Or.inr rfl) (Al KH hr (Aa (pv 0) Ac)))
 (Ad (Bj (Bc M6 (pv 4) (pv 2) (by with_unfolding_all rfl)) (Af (Bg (i:=4) FQ.nd rfl (Or.inr rfl) (Ay Bs (Hv (N':=xg) rfl (Dc.of (src:=[none,some 4,some 2]) (Aj Ik) xc rfl rfl rfl (by trivial) (by trivial) (by trivial) rfl (by trivial)) (O5 Ai) (λ_ _ _ _=>(Cd (i:=0) (show List.Nodup (xg:YF) by trivial) rfl (Or.inl rfl))) (λ_ _ _ _=>(YK (Bc (Nt (K:=K) rfl) (Aq Jr (pv 0) (Dv Ow (pv 1) (Dh Ab) Ft)) (pv 2) (by with_unfolding_all rfl)))) (λ_ _ _ _=>(Aq Jr (pv 0) (Dv Ow (pv 1) (Dh Ab) Ft)))) Ab (λ_ _=>rfl)))) Av)
 (Af (Ma (Oc PySem.F.plainAttrs_list PySem.F.slot_list_append PySem.F.type_list_append Hg (pv 2) (Aa (pv 4) Ac)))))))
 (Af (Ak (pv 2))))),?_⟩
 show let R0:TS:=_;let R1:TS:=_;let R2:TS:=Am (BX _ R1 _) R0;let R3:TS:=Am _ R2;let R4:TS:=Am (Jg _ _ R3) _;Am _ R4 _ _ _;intro R0 R1 R2 R3 R4;refine⟨Ar (by show 0<=1000;decide),λlf hlf=>?_⟩;have s1:=Ag hlf (.lst []);have nbf:b≠lf:=hb.nb hlf;refine⟨_,rq,_,rq,by omega,by omega,?_⟩;rw[QaH];let J1:YN:=λi U HH=>∃(u3 u4:Option V) (ys:YF),U=[jd b,some (.int many),jd lf,u3,u4]/\HH lf=some (.lst (ys.map V.str))/\ys.length=i/\(∀y∈ys,(1<=y.length/\y.length<=8)/\okS y)/\Bh HH b (n+9*i)/\Ah b H HH/\ys.Nodup;refine Fy J1
  ⟨_,_,[],rq,Ae,rq,(λy hy=>by cases hy),hb.same s1,Ah.of s1,List.nodup_nil⟩ (λi U HH hi h=>?_) (fun U HH h=>?_)
 ·obtain⟨u3,u4,ys,rfl,e1,e2,e3,e4,e5,e6⟩:=h;refine⟨_,rq,b,_,rq,e4,by omega,λz HA hz1 hz oz hbA sA=>?_⟩;have eA:=sA _ _ e1 nbf.symm;have s5:Ah b H HA:=e5.trans sA;have fin:∀(y:Str) (HB:Hp),(1<=y.length/\y.length<=8)->okS y->y∉ys->HB lf=some (.lst (ys.map V.str))->Bh HB b (n+9*i+9)->Ah b H HB->∃(u3 u4:Option V) (ys':YF),[some (V.ref b),some (.int many),jd lf,some (.int (0+(i:Int))),some (.str y)]=[jd b,some (.int many),jd lf,u3,u4] /\
    upd HB lf (.lst (ys.map V.str++[.str y])) lf=some (.lst (ys'.map V.str))/\ys'.length=i+1/\(∀y∈ys',(1<=y.length/\y.length<=8)/\okS y)/\Bh (upd HB lf (.lst (ys.map V.str++[.str y]))) b (n+9*(i+1))/\Ah b H (upd HB lf (.lst (ys.map V.str++[.str y])))/\ys'.Nodup:=λy HB hy oy hny hB bB sB=>by
   refine⟨_,_,ys++[y],rq,?_,?_,λx hx=>?_,(bB.Dz Ah.upd nbf).mono (by omega),Ah.Ws sB Ah.upd hlf,Rf e6 hny⟩
   ·rw[Ae,QaT];rfl
   ·rw[Qaw,e2];rfl
   ·rcases QaR.mp hx with h | h
    ·exact e3 x h
    ·have:x=y:=by simpa using h
     rw[this];exact⟨hy,oy⟩
  refine⟨_,rq,_,rq,lf,_,rq,.inl (SqL.of eA),rq,Nf ys,_,rq,Sd (λ_=>?_) (λhnz=>?_)⟩
  ·refine⟨_,rq,λl2 hl2=>?_⟩;have nfl:lf≠l2:=BK eA hl2;have hsl:(Txt.slice z (some 1) none).length<=7:=Qbk (TJ z) (by omega);have osl:=oz.slice (some 1) none;let J2:YN:=λi U HH=>∃(u:Option V) (ws:YF),U=[u,some (.str z),jd lf]/\HH=upd HA l2 (.lst (ws.map V.str))/\ws.length<=i/\(∀y∈ws,((1<=y.length/\y.length<=8)/\okS y)/\y∉ys)/\((∃j c,j < i/\abc.cps[j]?=some c/\((⟨#[c]⟩ : Str)++Txt.slice z (some 1) none)∉ys)->ws≠[]);refine KY J2
    ⟨none,[],rfl,rfl,Qbm _,(λy hy=>by cases hy),λ⟨j,c,hj,_⟩=>absurd hj (Nat.not_lt_zero _)⟩ (λj c U HH hc h=>?_) (fun U HH h=>?_)
   ·obtain⟨u,ws,rfl,rfl,l1,l2',l3⟩:=h;have hj:j < 26:=by
     have:=(Qac.mp hc).1;rw[<-Qap] at this;have e:=Kh;unfold abc at e;omega
    have oc:okS ⟨#[c]⟩:=λd hd=>by
     have:d=c:=by simpa using hd
     rw[this];exact Ve c (Qan.mpr (Array.mem_of_getElem? hc))
    have hlen:(⟨#[c]⟩ : Str).length+(Txt.slice z (some 1) none).length<=sizeLine:=by
     show 1+_<=sizeLine;rw[sizeLine_eq];omega
    have hzl:z.length<=sizeLine:=by rw[sizeLine_eq];omega
    have eB:upd HA l2 (.lst (ws.map V.str)) lf=some (.lst (ys.map V.str)):=by rw[Bo nfl];exact eA
    refine⟨_,rq,_,rq,_,rq,_,rq,hzl,_,_,rq,rq,hlen,_,rq,lf,_,rq,.inl (SqL.of eB),rq,Nf ys,_,rq,Sd (λt=>?_) (λt=>?_)⟩
    ·refine⟨_,rq,_,rq,_,rq,_,rq,hzl,_,_,rq,rq,hlen,_,Ae,Ck (by rw[QaQ];omega),_,ws++[(⟨#[c]⟩ : Str)++Txt.slice z (some 1) none],rq,?_,?_,λy hy=>?_,λ_ e=>?_⟩
     ·rw[W3,QaT];rfl
     ·rw[Qaw];show _+1<=_;omega
     ·rcases QaR.mp hy with h | h
      ·exact l2' y h
      ·have e:y=(⟨#[c]⟩ : Str)++Txt.slice z (some 1) none:=by simpa using h
       rw[e];refine⟨⟨⟨by rw[Str.length_append];show 1<=1+_;omega,by rw[Str.length_append];show 1+_<=8;omega⟩,oc.append osl⟩,λhin=>?_⟩;have t:(!inV (.str ((⟨#[c]⟩ : Str)++Txt.slice z (some 1) none)) (ys.map V.str))=true:=t;rw[(Js _ ys).mpr hin] at t;cases t
     ·have:=congrArg List.length e;rw[Qaw] at this;simp at this
    ·refine⟨_,ws,rfl,rfl,by omega,l2',λ⟨j',c',hj',hc',hn'⟩=>?_⟩;by_cases ej:j'=j
     ·subst ej;have ec:c'=c:=by
       have e1:abc.cps[j']?=some c:=hc;rw[hc'] at e1;exact QaS e1
      subst ec;exfalso;apply t;show (!inV (.str ((⟨#[c']⟩ : Str)++Txt.slice z (some 1) none)) (ys.map V.str))=true;cases e:inV (.str ((⟨#[c']⟩ : Str)++Txt.slice z (some 1) none)) (ys.map V.str) with
      | false=>rfl
      | true=>exact absurd ((Js _ ys).mp e) hn'
     ·exact l3 ⟨j',c',by omega,hc',hn'⟩
   ·obtain⟨u,ws,rfl,rfl,l1,l2',l3⟩:=h;obtain⟨j,c,hc,hnot⟩:=QG (Txt.slice z (some 1) none) (ys:=ys) (by omega);have hws:=l3 ⟨j,c,(Qac.mp hc).1,hc,hnot⟩;cases ws with
    | nil=>exact absurd rfl hws
    | cons w0 wr=>
     obtain⟨⟨y1,y2⟩,y3⟩:=l2' w0 (Qav ..);have s2:=Ag hl2 (.lst ((w0::wr).map V.str));have eB:=s2 _ _ eA;refine⟨l2,_,_,_,rq,rq,SqL.of Ae,Bf (xs:=(w0::wr).map V.str) (j:=0) rfl,?_⟩;refine⟨_,rq,.inl ⟨rq,_,SqL.of eB⟩,_,rq,lf,_,_,rq,rq,eB,Ck (by rw[QaQ];omega),?_⟩;exact fin w0 _ y1 y2 y3 eB (hbA.same s2) (s5.trans (Ah.of s2))
  ·refine⟨_,rq,.inl ⟨rq,_,SqL.of eA⟩,_,rq,lf,_,_,rq,rq,eA,Ck (by rw[QaQ];omega),?_⟩;exact fin z HA ⟨hz1,hz⟩ oz (λhin=>hnz ((Js _ ys).mpr hin)) eA hbA s5
 ·obtain⟨u3,u4,ys,rfl,e1,e2,e3,e4,e5,e6⟩:=h;exact⟨_,rq,q lf ys HH hlf e2 e3 e6 e1 e4 e5⟩
end
abbrev Jl:Stmt:=top 2
abbrev FW:YF:=["thing"]
theorem Qu:Bm FW FW (Aj Jl):=by ac_rfl
abbrev Iv:Stmt:=top 3
abbrev Dw:YF:=["thing","low","high"]
theorem OJ:Bm ["thing","low","high"] Dw (Aj Iv):=by ac_rfl
abbrev Ky:Stmt:=top 4
abbrev Eo:YF:=["thing","least","most"]
theorem TX:Bm ["thing","least","most"] Eo (Aj Ky):=by ac_rfl
theorem cO {i:Nat} {v:V} {U : St} {H:Hp} {Q:YO} (h:Q (U.set i (some v)) H):Gd i v U H Q:=h
def Yl:Sp:=λvs H Q _=>∃v,vs=[v]/\Kn H v/\Q (.bl (isW v)) H
def RG (o:Option (YG)) (a b:Int):Bool:=match o with
 | some xs=>decide (a<=xs.length)&&decide ((xs.length:Int)<=b)
 | none=>false
def JB:Sp:=λvs H Q _=>∃v a b,vs=[v,.int a,.int b]/\Kn H v/\Q (.bl (RG (Gs H v) a b)) H
theorem Xy {v:V} (h:isW v=true):∃i,v=.int i:=by
 cases v with
 | int i=>exact⟨i,rfl⟩
 | _=>cases h
def wiB (v:V) (lo hi:Int):Bool:=match v with
 | .int i=>decide (lo<=i)&&decide (i<=hi)
 | _=>false
def N7:Sp:=λvs H Q _=>∃v lo hi,vs=[v,.int lo,.int hi]/\Kn H v/\Q (.bl (wiB v lo hi)) H
theorem WD {α β : Type} {F:α->β->Prop}:∀{l:List α} {m:List β} {i:Nat} {x:α},Paired F l m->l[i]?=some x->∃y,m[i]?=some y/\F x y
 | _,_,_,_,.nil,h=>by cases h
 | _,_,0,_,.cons a r,h=>by cases h;exact⟨_,rfl,a⟩
 | _,_,i+1,_,.cons a r,h=>WD (i:=i) r h
theorem all_map {α : Type} (f:α->Bool) (l:List α):(l.map f).all id=l.all f:=by rw[List.all_map];rfl
mutual
def wide:PyData->Bool
 | .tuple ds=>decide (ds.length<=900)&&DK ds
 | .list ds=>decide (ds.length<=900)&&DK ds
 | .str z=>decide (z.length<=900)&&z.cps.toList.all λc=>decide (c < 128)
 | _=>true
def DK:List PyData->Bool
 | []=>true
 | x::r=>wide x&&DK r
end
structure Fit (n:Nat) (d:PyData):Prop where
 lay:d.canLay0=true
 dep:d.depth<=n
 wd:wide d=true
theorem Mp:∀{ds:List PyData},PyData.canLayAll0 ds=true->∀x∈ds,x.canLay0=true
 | [],_,_,h=>by cases h
 | a::r,h,x,hx=>by
  have h:(a.canLay0&&PyData.canLayAll0 r)=true:=h;rw[QaI] at h;rcases Qbe.mp hx with rfl | hx
  ·exact h.1
  ·exact Mp h.2 x hx
theorem Mu:∀{ds:List PyData} {n:Nat},PyData.depthAll ds<=n->∀x∈ds,x.depth<=n
 | [],_,_,_,h=>by cases h
 | a::r,n,h,x,hx=>by
  have h:max a.depth (PyData.depthAll r)<=n:=h;rcases Qbe.mp hx with rfl | hx
  ·omega
  ·exact Mu (by omega) x hx
theorem Tg:∀{ds:List PyData},DK ds=true->∀x∈ds,wide x=true
 | [],_,_,h=>by cases h
 | a::r,h,x,hx=>by
  have h:(wide a&&DK r)=true:=by simpa only [DK] using h
  rw[QaI] at h;rcases Qbe.mp hx with rfl | hx
  ·exact h.1
  ·exact Tg h.2 x hx
theorem Fit.len {n:Nat} {ds:List PyData} (h:Fit n (.tuple ds)):ds.length<=900:=by
 have h:(decide (ds.length<=900)&&DK ds)=true:=by simpa only [wide] using h.wd
 rw[QaI] at h;exact QaD h.1
theorem Fit.item {n:Nat} {ds:List PyData} (h:Fit (n+1) (.tuple ds)) {x:PyData} (hx:x∈ds):Fit n x:=by
 have h1:PyData.canLayAll0 ds=true:=h.lay;have h2:PyData.depthAll ds+1<=n+1:=h.dep;have h3:(decide (ds.length<=900)&&DK ds)=true:=by simpa only [wide] using h.wd
 rw[QaI] at h3;exact⟨Mp h1 x hx,Mu (by omega) x hx,Tg h3.2 x hx⟩
theorem Fit.mono {n m:Nat} {d:PyData} (h:Fit n d) (l:n<=m):Fit m d:=⟨h.lay,Qbk h.dep l,h.wd⟩
theorem Fit.shaped {n:Nat} {d:PyData} (h:Fit n d) (l:n<=64):SeqAt.shaped d=true:=by
 show (d.canLay0&&decide (d.depth<=64))=true;rw[h.lay,Qba (Qbk h.dep l)];rfl
theorem Ax.pair {H:Hp}:∀{xs:YG} {ds:List PyData},Ax H xs ds->Paired (Rep H) xs ds
 | _,_,.nil=>.nil
 | _,_,.cons a r=>.cons a (Ax.pair r)
mutual
theorem Rep.same {H H':Hp} (s:Same H H'):∀{v:V} {d:PyData},Rep H v d->Rep H' v d
 | _,_,.non=>.non
 | _,_,.bl b=>.bl b
 | _,_,.int i=>.int i
 | _,_,.str x=>.str x
 | _,_,.tup e r=>.tup (s _ _ e) (Ax.same s r)
 | _,_,.lst e r=>.lst (s _ _ e) (Ax.same s r)
theorem Ax.same {H H':Hp} (s:Same H H'):∀{vs:YG} {ds:List PyData},Ax H vs ds->Ax H' vs ds
 | _,_,.nil=>.nil
 | _,_,.cons a r=>.cons (Rep.same s a) (Ax.same s r)
end
theorem Ax.len {H:Hp} {xs:YG} {ds:List PyData} (h:Ax H xs ds):xs.length=ds.length:=Paired.length (Ax.pair h)
theorem Ax.at_ {H:Hp} {xs:YG} {ds:List PyData} (h:Ax H xs ds) {i:Nat} {x:V} (hx:xs[i]?=some x):∃d,ds[i]?=some d/\Rep H x d:=WD (Ax.pair h) hx
def wiP (d:PyData) (lo hi:Int):Bool:=match d with
 | .int i=>decide (lo<=i)&&decide (i<=hi)
 | _=>false
def Dj (d:PyData) (a b:Int):Bool:=match d with
 | .tuple ds=>decide (a<=ds.length)&&decide ((ds.length:Int)<=b)
 | _=>false
theorem GC {H:Hp} {v:V} {d:PyData} (r:Rep H v d) (lo hi:Int):wiB v lo hi=wiP d lo hi:=by
 cases r <;> rfl
theorem Ja {H:Hp} {v:V} {d:PyData} (r:Rep H v d) (a b:Int):RG (Gs H v) a b=Dj d a b:=by
 cases r with
 | tup e r=>
  rw[Hx e];show (decide (a<=_)&&decide (_<=b))=_;rw[Ax.len r];rfl
 | lst e r=>rw[GD e];rfl
 | _=>rfl
theorem Hu {H:Hp} {v:V} {d:PyData} (r:Rep H v d) {a b:Int} (h:Dj d a b=true):∃t xs ds,v=.ref t/\d=.tuple ds/\H t=some (.tup xs)/\Ax H xs ds/\a<=ds.length/\(ds.length:Int)<=b:=by
 cases r with
 | tup e r=>
  have h:(decide _&&decide _)=true:=h;rw[QaI] at h;exact⟨_,_,_,rq,rq,e,r,QaD h.1,QaD h.2⟩
 | _=>cases h
section
variable {P:Program} {w:World} {K:YD} {mg:YB} {base:Heap}
theorem Pa (c:Code K mg "is_whole" Jl FW) (T:Nm mg):Good P w K mg base "is_whole" 1 FW Yl:=by
 refine c.good Qu (λvs H Q E h=>?_) (λf cdv A outer s H vs Q E hr h=>?_)
 ·obtain⟨v,rfl,_⟩:=h;rfl
 obtain⟨v,rfl,k,q⟩:=h;refine⟨_,(Af (Ak (CG (Ao BW rfl T.isinstance Bk (Aa (pv 0) (Aa (Cg (v:=.ty "int") rfl T.int Lx rfl) Ac))) (Du (T7 (Ao BW rfl T.isinstance Bk (Aa (pv 0) (Aa (Cg (v:=.ty "bool") rfl T.bool Mv rfl) Ac)))))))),?_⟩;refine⟨_,rq,Hw k ⟨_,rq,?_⟩⟩;rw[Zd] at q;cases e:isI v with
 | false=>rw[e] at q;exact Aw q
 | true=>rw[e] at q;exact Bd ⟨_,rfl,KD e ⟨_,rfl,q⟩⟩
theorem Ue (c:Code K mg "is_row" Ky Eo) (T:Nm mg):Good P w K mg base "is_row" 1 Eo JB:=by
 refine c.good TX (λvs H Q E h=>?_) (λf cdv A outer s H vs Q E hr h=>?_)
 ·obtain⟨v,a,b,rfl,_⟩:=h;rfl
 obtain⟨v,a,b,rfl,k,q⟩:=h;refine⟨_,(Af (Ak (CG (Ao BW rfl T.isinstance Bk (Aa (pv 0) (Aa (Cg (v:=.ty "tuple") rfl T.tuple Fj rfl) Ac))) (Du (Jp Gv Gv (pv 1) (Ao Bp rfl T.len Ci (Aa (pv 0) Ac)) (pv 2)))))),?_⟩;refine⟨_,rq,Fx k ⟨_,rq,?_⟩⟩;cases e:Gs H v with
 | none=>rw[e] at q;exact Aw q
 | some xs=>
  rw[e] at q;obtain⟨p,rfl,hp⟩:=VD e;refine Bd ⟨_,rq,_,rq,p,xs,rq,.inr (SqT.of hp),_,_,rq,rq,_,rq,?_⟩;by_cases h1:a<=(xs.length:Int)
  ·rw[Qba h1];refine Bd ⟨_,rq,_,_,rq,rq,?_⟩;simpa [RG,h1] using q
  ·rw[QaP h1];refine Aw ?_;simpa [RG,h1] using q
theorem Nx (c:Code K mg "is_within" Iv Dw) (T:Nm mg) (Sh:Good P w K mg base "is_whole" 1 FW Yl):Good P w K mg base "is_within" 2 Dw N7:=by
 refine c.good OJ (λvs H Q E h=>?_) (λf cdv A outer s H vs Q E hr h=>?_)
 ·obtain⟨v,lo,hi,rfl,_⟩:=h;rfl
 obtain⟨v,lo,hi,rfl,k,q⟩:=h;refine⟨_,(Af (Ak (CG (Al Sh hr (Aa (pv 0) Ac)) (Du (Jp Gv Gv (pv 1) (pv 0) (pv 2)))))),?_⟩;refine⟨_,rq,v,rq,k,_,rq,?_⟩;cases ew:isW v with
 | false=>
  have:wiB v lo hi=false:=by cases v <;> first | rfl | cases ew
  rw[this] at q;exact Aw q
 | true=>
 obtain⟨x,rfl⟩:=Xy ew;have q:Q (.bl (decide (lo<=x)&&decide (x<=hi))) H:=q;refine Bd ⟨_,rq,_,rq,_,_,rq,rq,_,rq,?_⟩;by_cases h1:lo<=x
 ·rw[Qba h1];rw[Qba h1,Qbc] at q;exact Bd ⟨_,rq,_,_,rq,rq,q⟩
 ·rw[QaP h1];rw[QaP h1,Bool.false_and] at q;exact Aw q
end
abbrev JG:Stmt:=top 5
abbrev Fw:YF:=FW
theorem RB:Bm FW Fw (Aj JG):=by ac_rfl
abbrev Jo:Stmt:=top 9
abbrev Ga:YF:=FW
theorem Qw:Bm FW Ga (Aj Jo):=by ac_rfl
abbrev JH:Stmt:=top 10
abbrev GX:YF:=FW
theorem Ld:Bm ["thing","word"] GX (Aj JH):=by ac_rfl
abbrev HF:Stmt:=top 11
abbrev Ep:YF:=["condition"]
theorem Nr:Bm ["condition"] Ep (Aj HF):=by ac_rfl
structure Tc (mg:YB):Prop extends Nm mg where
 SMALL_LETTERS:∃u,mg "SMALL_LETTERS"=some u/\RelV (.str abc) u
 MOST_DEEP:∃u,mg "MOST_DEEP"=some u/\RelV (.int 6) u
 MOST_CONDITIONS:∃u,mg "MOST_CONDITIONS"=some u/\RelV (.int 20) u
theorem Fit.item' {n:Nat} {ds:List PyData} (h:Fit n (.tuple ds)) {x:PyData} (hx:x∈ds):Fit n x:=by
 have hd:PyData.depthAll ds+1<=n:=h.dep;obtain⟨k,rfl⟩ : ∃k,n=k+1:=⟨n - 1,by omega⟩;exact (h.item hx).mono (Nat.le_succ _)
theorem Fit.Yn {n:Nat} {z:Str} (h:Fit n (.str z)):z.length<=900:=by
 have h:(decide (z.length<=900)&&z.cps.toList.all λc=>decide (c < 128))=true:=by simpa only [wide] using h.wd
 rw[QaI] at h;exact QaD h.1
def isS:V->Bool
 | .str _=>true
 | _=>false
theorem Ec {K:YD} {H:Hp} {x:V} {Q:VK} (k:Kn H x) (q:Q (.bl (isS x)) H):Iw K [x,.ty "str"] H Q:=by
 unfold Iw;cases x with
 | non=>exact⟨_,_,_,_,rfl,.non,by rfl,q⟩
 | bl b=>exact⟨_,_,_,_,rfl,.bl b,by rfl,q⟩
 | int i=>exact⟨_,_,_,_,rfl,.int i,by rfl,q⟩
 | str z=>exact⟨_,_,_,_,rfl,.str z,by rfl,q⟩
 | ref a=>
  rcases k with⟨xs,e⟩|⟨xs,e⟩
  ·exact⟨_,_,_,_,rq,.lst e,by rfl,q⟩
  ·exact⟨_,_,_,_,rq,.tup e,by rfl,q⟩
 | _=>exact k.elim
def Mz (c:Nat):Bool:=!(Builtin.Str.occurrences abc ⟨#[c]⟩ 0 abc.length 1).isEmpty
def nameP (d:PyData):Bool:=match d with
 | .str z=>(decide ((1:Int)<=z.length)&&decide ((z.length:Int)<=8))&&z.cps.toList.all Mz
 | _=>false
theorem WQ {α : Type} {l:List α} (h:(2:Int)<=l.length) (h':(l.length:Int)<=2):∃a b,l=[a,b]:=by
 match l,h,h' with
 | [a,b],_,_=>exact⟨a,b,rfl⟩
 | [],h,_=>simp at h
 | [_],h,_=>simp at h
 | _::_::_::_,_,h=>simp at h;omega
theorem Od {α : Type} {l:List α} (h:(3:Int)<=l.length) (h':(l.length:Int)<=3):∃a b c,l=[a,b,c]:=by
 match l,h,h' with
 | [a,b,c],_,_=>exact⟨a,b,c,rfl⟩
 | [],h,_=>simp at h
 | [_],h,_=>simp at h
 | [_,_],h,_=>simp at h
 | _::_::_::_::_,_,h=>simp at h;omega
theorem Xa {d:PyData} (h:Dj d 2 2=false):∀a b,d≠.tuple [a,b]:=λa b e=>by
 rw[e] at h;have h:(decide ((2:Int)<=2)&&decide ((2:Int)<=2))=false:=h;exact absurd h (by decide)
theorem Q5 {d:PyData} (h:Dj d 3 3=false):∀a b c,d≠.tuple [a,b,c]:=λa b c e=>by
 rw[e] at h;have h:(decide ((3:Int)<=3)&&decide ((3:Int)<=3))=false:=h;exact absurd h (by decide)
theorem U6 {K:YD} {a l:Addr} {xs:YG} {ds:List PyData} {fb:PyData->Bool} {te:TE} {Q:VK} {r:St} {H:Hp} (hl:H l=none) (ha:H a=some (.tup xs)) (rs:Ax H xs ds) (h9:ds.length<=900)
  (hs:∀(x:V) (d:PyData) (HH:Hp),d∈ds->Rep HH x d->Same H HH->∀R:VK,(∀H',Same HH H'->R (.bl (fb d)) H')->te (some x::r) HH R)
  (hq:∀H',H' l=some (.lst ((ds.map fb).map V.bl))->Same H H'->Q (.ref l) H'):Fe (Itt K a) (Gd 0) (λ_ H Q=>Q true H) te Q (none::r) (upd H l (.lst [])) l:=by
 have lx:=Ax.len rs;let J0:YN:=λi U HH=>∃u,U=u::r/\HH l=some (.lst (((ds.take i).map fb).map V.bl))/\Same H HH;refine V4 (xs:=xs) J0 ⟨_,rq,Ae,Ag hl _⟩ (λi U HH _ h=>?_) (λi x U HH hx h=>?_) (fun U HH h=>?_)
 ·obtain⟨u,rfl,_,s⟩:=h;exact SqT.of (s _ _ ha)
 ·obtain⟨u,rfl,e,s⟩:=h;obtain⟨d,hd,rd⟩:=Ax.at_ rs hx;have hi:=(Qad.mp hd).1;unfold Gd;dsimp only;refine Bd (hs x d HH (Qam hd) (Rep.same s rd) s _ λH' s'=>⟨_,s' _ _ e,Ck (by rw[QaQ,QaQ,QaK];omega),_,rq,?_,(s.trans s').FN Ah.upd hl⟩);rw[Ae,take_snoc hd,QaT,QaT];rfl
 ·obtain⟨u,rfl,e,s⟩:=h;rw[lx,QaN] at e;exact hq _ e s
def DY (fb:PyData->Bool):Sp:=λvs H Q _=>∃v d,vs=[v]/\Rep H v d/\Fit 64 d/\∀H',Same H H'->Q (.bl (fb d)) H'
theorem Iz {b:Bool} {A B:Prop} (h1:b=true->A) (h2:b=false->B):if b=true then A else B:=by
 cases b with
 | true=>exact Bd (h1 rfl)
 | false=>exact Aw (h2 rfl)
theorem ifN {a b:Int} {A B:Prop} (h1:a=b->A) (h2:a≠b->B):if decide (V.int a=V.int b)=true then A else B:=by
 by_cases h:a=b
 ·subst h;rw[Qba rfl];exact Bd (h1 rfl)
 ·rw[QaP (λz=>h (by injection z))];exact Aw (h2 h)
theorem ifS {a b:Str} {A B:Prop} (h1:a=b->A) (h2:a≠b->B):if decide (V.str a=V.str b)=true then A else B:=by
 by_cases h:a=b
 ·subst h;rw[Qba rfl];exact Bd (h1 rfl)
 ·rw[QaP (λz=>h (by injection z))];exact Aw (h2 h)
def eqS (d:PyData) (z:Str):Bool:=PyData.eqv d (.str z)
theorem Fz {d:PyData} {y:Str}:eqS d y=true ↔ d=.str y:=by
 cases d with
 | str z=>
  show (z == y)=true ↔ _;constructor
  ·intro h;rw[eq_of_beq h]
  ·intro h;cases h;exact beq_self_eq_true _
 | _=>exact⟨(λh=>by cases h),(λh=>by cases h)⟩
theorem PX {d:PyData} {y:Str} (h:d≠.str y):eqS d y=false:=by
 cases e:eqS d y with
 | false=>rfl
 | true=>exact absurd (Fz.mp e) h
theorem Cj {z y:Str} (h:z≠y):eqS (.str z) y=false:=PX (λe=>h (by injection e))
theorem Dm (y:Str):eqS (.str y) y=true:=Fz.mpr rfl
def aoP (d:PyData):Bool:=[PyData.str "and",.str "or"].any λz=>PyData.eqv z d
theorem Je {d:PyData}:aoP d=true ↔ d=.str "and"\/d=.str "or":=by
 have key:∀(y:Str) (d:PyData),PyData.eqv (.str y) d=true ↔ d=.str y:=λy d=>by
  cases d with
  | str z=>
   show (y == z)=true ↔ _;constructor
   ·intro h;rw[eq_of_beq h]
   ·intro h;cases h;exact beq_self_eq_true _
  | _=>exact⟨(λh=>by cases h),(λh=>by cases h)⟩
 unfold aoP;simp only[Qbf,List.any_nil,Bool.or_false,Bool.or_eq_true,key]
def Dk (d:PyData):Bool:=match d with
 | .tuple [k,n]=>eqS k "key"&&wiP n 0 9
 | .tuple [k,a,b]=>eqS k "hours"&&(wiP a 0 23&&wiP b 0 23)
 | _=>false
def ofR (r:List PyData):Bool:=match r with
 | [n,z]=>wiP n 1 9&&nameP z
 | _=>false
def JZ (r:List PyData):Bool:=match r with
 | [z]=>nameP z
 | _=>false
def Hl (r:List PyData):Bool:=match r with
 | [_,_,b]=>wiP b 1 20
 | _=>false
def BP (k:PyData) (r:List PyData):Bool:=
 if eqS k "of"=true then ofR r else if eqS k "term"=true then JZ r else if eqS k "not"=true then decide (r.length=1)
 else if aoP k=true then decide (r.length=2) else if eqS k "then"=true then Hl r else Dk (.tuple (k::r))
def Cz (d:PyData):Bool:=match d with
 | .tuple (k::r)=>Dj d 2 4&&BP k r
 | _=>false
theorem TY {k:PyData} {r:List PyData} (h:Dj (.tuple (k::r)) 2 4=true):1<=r.length/\r.length<=3:=by
 have h:(decide ((2:Int)<=((k::r).length:Nat))&&decide ((((k::r).length:Nat):Int)<=4))=true:=h;rw[QaI] at h;have h1:=QaD h.1;have h2:=QaD h.2;rw[QaJ] at h1 h2;omega
theorem M4 {k:PyData} {r:List PyData} (h:Dk (.tuple (k::r))=true):k=.str "key"\/k=.str "hours":=by
 unfold Dk at h;split at h
 ·rename_i k' n e;cases e;rw[QaI] at h;exact .inl (Fz.mp h.1)
 ·rename_i k' a b e;cases e;rw[QaI] at h;exact .inr (Fz.mp h.1)
 ·cases h
theorem PL {k:PyData} {r:List PyData} (h:BP k r=true):∃z,k=.str z:=by
 unfold BP at h;by_cases h1:eqS k "of"=true
 ·exact⟨_,Fz.mp h1⟩
 rw[if_neg h1] at h;by_cases h2:eqS k "term"=true
 ·exact⟨_,Fz.mp h2⟩
 rw[if_neg h2] at h;by_cases h3:eqS k "not"=true
 ·exact⟨_,Fz.mp h3⟩
 rw[if_neg h3] at h;by_cases h4:aoP k=true
 ·rcases Je.mp h4 with e | e <;> exact⟨_,e⟩
 rw[if_neg h4] at h;by_cases h5:eqS k "then"=true
 ·exact⟨_,Fz.mp h5⟩
 rw[if_neg h5] at h;rcases M4 h with e | e <;> exact⟨_,e⟩
theorem Es {a b:Str} (h:eqV (.str a) (.str b)=true):a=b:=eq_of_beq h
def Gn (k:PyData):Bool:=match k with
 | .str z=>inV (.str z) [.str "and",.str "or",.str "then"]
 | _=>false
def Dq (d:PyData):List PyData:=match d with
 | .tuple (k::r)=>if eqS k "not"=true then r.take 1 else if Gn k=true then r.take 2 else []
 | _=>[]
def Wu:Sp:=λvs H Q _=>∃(v:V) (d:PyData) (G:Hp),vs=[v]/\Same G H/\Rep G v d/\Cz d=true/\∀t xs H',H' t=some (.tup xs)->Ax G xs (Dq d)->Same H H'->Q (.ref t) H'
theorem U3 {x:V} {r:YG} {n:Nat} (h:n<=r.length):Dy (x::r) (some 1) (some ((n+1:Nat):Int))=r.take n:=by
 unfold Dy;rw[show (some (1:Int))=some ((1:Nat):Int) from rfl,HT.IW,HT.IW,Nat.min_eq_left (by rw[QaJ];omega),Nat.min_eq_left (by rw[QaJ];omega)]
 rfl
theorem Ax.Ry {H:Hp}:∀{xs:YG} {ds:List PyData} (n:Nat),Ax H xs ds->Ax H (xs.take n) (ds.take n)
 | _,_,0,_=>.nil
 | _,_,_+1,.nil=>.nil
 | _,_,n+1,.cons a r=>.cons a (Ax.Ry n r)
section
variable {P:Program} {w:World} {K:YD} {mg:YB} {base:Heap}
theorem RQ (C:Code K mg "is_name" JG Fw) (T:Tc mg):Good P w K mg base "is_name" 1 Fw (DY nameP):=by
 refine C.good RB (λvs H Q E h=>?_) (λf cdv A outer s H vs Q E hr h=>?_)
 ·obtain⟨v,d,rfl,_⟩:=h;rfl
 obtain⟨v,d,rfl,rd,fit,q⟩:=h;refine⟨_,(Ad (Bj (BJ (Bt (Ao BW rfl T.isinstance Bk (Aa (pv 0) (Aa (Cg (v:=.ty "str") rfl T.str Jd rfl) Ac))))) (Af (Ak Cw)) Av)
 (Af (Ak (CG (Jp Gv Gv Ab (Ao Ii rfl T.len Ci (Aa (pv 0) Ac)) Ab) (Du (Ao (K5 rfl) rfl T.all Ql (Aa (Hv (N':=["sign"]) rfl (Dc.plain rfl (by trivial) (by trivial) (by trivial)) (O5 (pv 0)) (λ_ _ _ _=>(Cd (i:=0) (show List.Nodup (["sign"]:YF) by trivial) rfl (Or.inl rfl))) (λ_ _ _ _=>JM) (λ_ _ _ _=>(Cu M5 (pv 0) (O7 rfl T.SMALL_LETTERS) (by with_unfolding_all rfl)))) Ac))))))),?_⟩
 show let R0:TS:=_;Am _ R0 _ _ _;intro R0;refine⟨_,rq,Ec rd.kn ⟨_,rq,?_⟩⟩;cases rd with
 | str z=>
  have q:∀H',Same H H'->Q (.bl ((decide ((1:Int)<=z.length)&&decide ((z.length:Int)<=8))&&z.cps.toList.all Mz)) H':=q;have z9:z.length<=900:=fit.Yn;refine Aw ⟨_,rq,z,rq,Ar (by show z.length<=1000;omega),_,_,rq,rq,_,rq,?_⟩;by_cases g1:(1:Int)<=(z.length:Int)
  ·rw[Qba g1];rw[Qba g1,Qbc] at q;refine Bd ⟨_,_,rq,rq,_,rq,?_⟩;by_cases g2:(z.length:Int)<=8
   ·rw[Qba g2];rw[Qba g2,Qbc] at q;refine Bd ⟨_,rq,z,rq,λl hl'=>?_⟩;let J1:YN:=λi U HH=>∃u,U=[u]/\HH l=some (.lst (((z.cps.toList.take i).map Mz).map V.bl))/\Same H HH;refine KY J1 ⟨_,rq,Ae,Ag hl' _⟩ (λi c U HH hc h=>?_) (fun U HH h=>?_)
    ·obtain⟨u,rfl,e1,e2⟩:=h;have hi:i < z.cps.size:=(Qac.mp hc).1;have hz:z.cps.size<=900:=z9;have hcl:z.cps.toList[i]?=some c:=by rw[Qak];exact hc
     unfold Gd;dsimp only;refine Bd ⟨_,rq,_,_,rq,rq,_,e1,Ck (by simp;omega),_,rq,?_,e2.FN Ah.upd hl'⟩;rw[Ae,take_snoc hcl,QaT,QaT];rfl
    ·obtain⟨u,rfl,e1,e2⟩:=h;have el:z.cps.size=z.cps.toList.length:=Qap.symm;rw[el,QaN] at e1;refine⟨l,_,rq,SqL.of e1,?_⟩;rw[all_map];exact q _ e2
   ·rw[QaP g2];rw[QaP g2] at q;exact Aw (q _ (Same.refl _))
  ·rw[QaP g1];rw[QaP g1] at q;exact Aw ⟨_,rq,Aw (q _ (Same.refl _))⟩
 | _=>exact Bd (q _ (Same.refl _))
theorem Qy (C:Code K mg "is_plain" Jo Ga) (T:Tc mg) (Er:Good P w K mg base "is_row" 1 Eo JB) (Dg:Good P w K mg base "is_within" 2 Dw N7):Good P w K mg base "is_plain" 3 Ga (DY Dk):=by
 refine C.good Qw (λvs H Q E h=>?_) (λf cdv A outer s H vs Q E hr h=>?_)
 ·obtain⟨v,d,rfl,_⟩:=h;rfl
 obtain⟨v,d,rfl,rd,fit,q⟩:=h;refine⟨_,(Ad (Bj (Bt (Al Er hr (Aa (pv 0) (Aa Ab (Aa Ab Ac))))) (Af (Ak (CG (Cu (Hf hr.units) (Ay Bq (pv 0) Ab (λ_ _=>rfl)) Ai (Bb _)) (Du (Al Dg hr (Aa (Ay Bq (pv 0) Ab (λ_ _=>rfl)) (Aa Ab (Aa Ab Ac)))))))) Av)
 (Ad (Bj (Bt (Al Er hr (Aa (pv 0) (Aa Ab (Aa Ab Ac))))) (Af (Ak (CG (Cu (Hf hr.units) (Ay Bq (pv 0) Ab (λ_ _=>rfl)) Ai (Bb _)) (CG (Al Dg hr (Aa (Ay Bq (pv 0) Ab (λ_ _=>rfl)) (Aa Ab (Aa Ab Ac)))) (Du (Al Dg hr (Aa (Ay Bq (pv 0) Ab (λ_ _=>rfl)) (Aa Ab (Aa Ab Ac))))))))) Av)
 (Af (Ak Cw)))),?_⟩
 show let R0:TS:=_;let R1:TS:=Am (BX _ R0 _) _;let R2:TS:=_;Am (BX _ R2 _) R1 _ _ _;intro R0 R1 R2;have q0:=q _ (Same.refl _);have sS:∀z:Str,PyData.strOk z=true->SeqAt.shaped (.str z)=true:=λz hz=>by
  show (PyData.strOk z&&decide (0<=64))=true;rw[hz];rfl
 refine⟨_,rq,v,2,2,rq,rd.kn,_,rq,?_⟩;rw[Ja rd];cases e2:Dj d 2 2 with
 | true=>
  obtain⟨t,xs,ds,rfl,rfl,ht,rs,h1,h2⟩:=Hu rd e2;obtain⟨k,n,rfl⟩:=WQ h1 h2;cases rs with
  | cons rk rs=>
  cases rs with
  | cons rn rs=>
  cases rs;have q0:Q (.bl (eqS k "key"&&wiP n 0 9)) H:=q0;refine Bd ⟨_,rq,t,_,_,_,rq,rq,SqT.of ht,Bf (j:=0) rfl,k,.str "key",rk,.str _,(fit.item' (Qav ..)).shaped (Qbm _),sS _ (by trivial),_,rq,?_⟩;show if eqS k "key"=true then _ else _
  cases ek:eqS k "key" with
  | false=>rw[ek] at q0;exact Aw q0
  | true=>
   rw[ek,Qbc] at q0;refine Bd ⟨_,rq,t,_,_,_,rq,rq,SqT.of ht,Bf (j:=1) rfl,_,0,9,rq,rn.kn,?_⟩;rw[GC rn];exact q0
 | false=>
 refine Aw ⟨_,rq,v,3,3,rq,rd.kn,_,rq,?_⟩;rw[Ja rd];cases e3:Dj d 3 3 with
 | true=>
  obtain⟨t,xs,ds,rfl,rfl,ht,rs,h1,h2⟩:=Hu rd e3;obtain⟨k,a,b,rfl⟩:=Od h1 h2;cases rs with
  | cons rk rs=>
  cases rs with
  | cons ra rs=>
  cases rs with
  | cons rb rs=>
  cases rs;have q0:Q (.bl (eqS k "hours"&&(wiP a 0 23&&wiP b 0 23))) H:=q0;refine Bd ⟨_,rq,t,_,_,_,rq,rq,SqT.of ht,Bf (j:=0) rfl,k,.str "hours",rk,.str _,(fit.item' (Qav ..)).shaped (Qbm _),sS _ (by trivial),_,rq,?_⟩;show if eqS k "hours"=true then _ else _
  cases ek:eqS k "hours" with
  | false=>rw[ek] at q0;exact Aw q0
  | true=>
   rw[ek,Qbc] at q0;refine Bd ⟨_,rq,t,_,_,_,rq,rq,SqT.of ht,Bf (j:=1) rfl,_,0,23,rq,ra.kn,_,rq,?_⟩;rw[GC ra];cases ea:wiP a 0 23 with
   | false=>rw[ea] at q0;exact Aw q0
   | true=>
    rw[ea,Qbc] at q0;refine Bd ⟨_,rq,t,_,_,_,rq,rq,SqT.of ht,Bf (j:=2) rfl,_,0,23,rq,rb.kn,?_⟩;rw[GC rb];exact q0
 | false=>
  have:Dk d=false:=by
   unfold Dk;split
   ·exact absurd rfl (Xa e2 _ _)
   ·exact absurd rfl (Q5 e3 _ _ _)
   ·rfl
  rw[this] at q0;exact Aw q0
theorem RT (C:Code K mg "is_form" JH GX) (T:Tc mg) (Er:Good P w K mg base "is_row" 1 Eo JB) (Dg:Good P w K mg base "is_within" 2 Dw N7) (Io:Good P w K mg base "is_name" 1 Fw (DY nameP)) (Ss:Good P w K mg base "is_plain" 3 Ga (DY Dk)):Good P w K mg base "is_form" 4 GX (DY Cz):=by
 refine C.good Ld (λvs H Q E h=>?_) (λf cdv A outer s H vs Q E hr h=>?_)
 ·obtain⟨v,d,rfl,_⟩:=h;rfl
 obtain⟨v,d,rfl,rd,fit,q⟩:=h;refine⟨_,(Ad (Bj (BJ (Bt (Al Er hr (Aa (pv 0) (Aa Ab (Aa Ab Ac)))))) (Af (Ak Cw)) Av)
 (Ad (Bg (i:=1) Ld.nd rfl (Or.inl rfl) (Ay Bq (pv 0) Ab (λ_ _=>rfl)))
 (Ad (Bj (Bc (Hf hr.units) (pv 1) Ai (Bb _)) (Af (Ak (CG (Cu Dd (Ao Bp rfl T.len Ci (Aa (pv 0) Ac)) Ab (Bb _)) (CG (Al Dg hr (Aa (Ay Bq (pv 0) Ab (λ_ _=>rfl)) (Aa Ab (Aa Ab Ac)))) (Du (Al Io hr (Aa (Ay Bq (pv 0) Ab (λ_ _=>rfl)) Ac))))))) Av)
 (Ad (Bj (Bc (Hf hr.units) (pv 1) Ai (Bb _)) (Af (Ak (CG (Cu Dd (Ao Bp rfl T.len Ci (Aa (pv 0) Ac)) Ab (Bb _)) (Du (Al Io hr (Aa (Ay Bq (pv 0) Ab (λ_ _=>rfl)) Ac)))))) Av)
 (Ad (Bj (Bc (Hf hr.units) (pv 1) Ai (Bb _)) (Af (Ak (Cu Dd (Ao Bp rfl T.len Ci (Aa (pv 0) Ac)) Ab (Bb _)))) Av)
 (Ad (Bj (Bc (Xk (K:=K) rfl hr.Yg) (pv 1) (Bx (Aa Ai (Aa Ai Ac))) (by with_unfolding_all rfl)) (Af (Ak (Cu Dd (Ao Bp rfl T.len Ci (Aa (pv 0) Ac)) Ab (Bb _)))) Av)
 (Ad (Bj (Bc (Hf hr.units) (pv 1) Ai (Bb _)) (Af (Ak (CG (Cu Dd (Ao Bp rfl T.len Ci (Aa (pv 0) Ac)) Ab (Bb _)) (Du (Al Dg hr (Aa (Ay Bq (pv 0) Ab (λ_ _=>rfl)) (Aa Ab (Aa Ab Ac)))))))) Av)
 (Af (Ak (Al Ss hr (Aa (pv 0) Ac))))))))))),?_⟩
 show let R0:TS:=_;let R1:TS:=_;let R2:TS:=Am (BX _ R1 _) R0;let R3:TS:=_;let R4:TS:=Am (BX _ R3 _) R2;let R5:TS:=_;let R6:TS:=Am (BX _ R5 _) R4;let R7:TS:=_;let R8:TS:=Am (BX _ R7 _) R6;let R9:TS:=_;let R10:TS:=Am (BX _ R9 _) R8;let R11:TS:=Am _ R10;Am _ R11 _ _ _;intro R0 R1 R2 R3 R4 R5 R6 R7 R8 R9 R10 R11;have sS:∀z:Str,PyData.strOk z=true->SeqAt.shaped (.str z)=true:=λz hz=>by
  show (PyData.strOk z&&decide (0<=64))=true;rw[hz];rfl
 refine⟨_,rq,v,2,4,rq,rd.kn,_,rq,?_⟩;rw[Ja rd];cases e0:Dj d 2 4 with
 | false=>
  have:Cz d=false:=by
   unfold Cz;split
   ·rw[e0];rfl
   ·rfl
  rw[this] at q;exact Bd (q _ (Same.refl _))
 | true=>
 obtain⟨t,xs,ds,rfl,rfl,ht,rs,h1,h2⟩:=Hu rd e0;cases rs with
 | nil=>exact absurd h1 (by decide)
 | @cons x0 k xr r rk rs=>
 obtain⟨r1,r3⟩:=TY e0;have lr:=Ax.len rs;have q:∀H',Same H H'->Q (.bl (BP k r)) H':=λH' s'=>by
  have:=q H' s';have e:Cz (.tuple (k::r))=BP k r:=by
   show (Dj (.tuple (k::r)) 2 4&&BP k r)=BP k r;rw[e0,Qbc]
  rw[e] at this;exact this
 have q0:=q _ (Same.refl _);have sk:SeqAt.shaped k=true:=(fit.item' (Qav ..)).shaped (Qbm _);have fr:∀x∈r,Fit 64 x:=λx hx=>fit.item' (Qal _ hx);have len1:(((x0::xr).length:Nat):Int)=(r.length:Int)+1:=by rw[QaJ,lr];omega
 refine Aw ⟨_,rq,t,_,_,_,rq,rq,SqT.of ht,Bf (j:=0) rfl,?_⟩;refine⟨_,rq,k,.str "of",rk,.str _,sk,sS _ (by trivial),_,rq,?_⟩;show if eqS k "of"=true then _ else _
 unfold BP at q q0;cases e1:eqS k "of" with
 | true=>
  rw[e1,if_pos rfl] at q0;have q:∀H',Same H H'->Q (.bl (ofR r)) H':=λH' s'=>by have:=q H' s';rw[e1,if_pos rfl] at this;exact this
  refine Bd ⟨_,rq,t,_,rq,.inr (SqT.of ht),rq,_,rq,ifN (λhl=>?_) (λhl=>?_)⟩
  ·rw[len1] at hl;obtain⟨n,z,rfl⟩:=WQ (l:=r) (by omega) (by omega);cases rs with
   | cons rn rs=>
   cases rs with
   | cons rz rs=>
   cases rs;have q:∀H',Same H H'->Q (.bl (wiP n 1 9&&nameP z)) H':=q;refine⟨_,rq,t,_,_,_,rq,rq,SqT.of ht,Bf (j:=1) rfl,_,1,9,rq,rn.kn,_,rq,?_⟩;rw[GC rn];cases ew:wiP n 1 9 with
   | false=>rw[ew] at q;exact Aw (q _ (Same.refl _))
   | true=>
    rw[ew,Qbc] at q;exact Bd ⟨_,rq,t,_,_,_,rq,rq,SqT.of ht,Bf (j:=2) rfl,_,z,rq,rz,fr z (by simp),q⟩
  ·rw[len1] at hl;have:ofR r=false:=by
    unfold ofR;split
    ·exact absurd rfl hl
    ·rfl
   rw[this] at q0;exact q0
 | false=>
 rw[e1,if_neg (by decide)] at q0;have q:∀H',Same H H'->Q (.bl (if eqS k "term"=true then JZ r else if eqS k "not"=true then decide (r.length=1) else if aoP k=true then decide (r.length=2) else if eqS k "then"=true then Hl r else Dk (.tuple (k::r)))) H':=λH' s'=>by have:=q H' s';rw[e1,if_neg (by decide)] at this;exact this
 refine Aw ⟨_,rq,k,.str "term",rk,.str _,sk,sS _ (by trivial),_,rq,?_⟩;show if eqS k "term"=true then _ else _
 cases e2:eqS k "term" with
 | true=>
  rw[e2,if_pos rfl] at q0;have q:∀H',Same H H'->Q (.bl (JZ r)) H':=λH' s'=>by have:=q H' s';rw[e2,if_pos rfl] at this;exact this
  refine Bd ⟨_,rq,t,_,rq,.inr (SqT.of ht),rq,_,rq,ifN (λhl=>?_) (λhl=>?_)⟩
  ·rw[len1] at hl;obtain⟨z,rfl⟩ : ∃z,r=[z]:=by
    match r,hl with
    | [z],_=>exact⟨z,rfl⟩
    | [],h=>simp at h
    | _::_::_,h=>simp at h;omega
   cases rs with
   | cons rz rs=>
   cases rs;exact⟨_,rq,t,_,_,_,rq,rq,SqT.of ht,Bf (j:=1) rfl,_,z,rq,rz,fr z (by simp),q⟩
  ·rw[len1] at hl;have:JZ r=false:=by
    unfold JZ;split
    ·exact absurd rfl hl
    ·rfl
   rw[this] at q0;exact q0
 | false=>
 rw[e2,if_neg (by decide)] at q0;have q:∀H',Same H H'->Q (.bl (if eqS k "not"=true then decide (r.length=1) else if aoP k=true then decide (r.length=2) else if eqS k "then"=true then Hl r else Dk (.tuple (k::r)))) H':=λH' s'=>by have:=q H' s';rw[e2,if_neg (by decide)] at this;exact this
 have dl:∀n:Nat,decide (V.int (((x0::xr).length:Nat):Int)=V.int ((n+1:Nat):Int))=decide (r.length=n):=λn=>by
  rw[QaX,QaA,QaA];constructor
  ·intro z;injection z with z;rw[len1] at z;omega
  ·intro z;rw[len1,z];congr 1
 refine Aw ⟨_,rq,k,.str "not",rk,.str _,sk,sS _ (by trivial),_,rq,?_⟩;show if eqS k "not"=true then _ else _
 cases e3:eqS k "not" with
 | true=>
  rw[e3,if_pos rfl] at q0;refine Bd ⟨_,rq,t,_,rq,.inr (SqT.of ht),rq,?_⟩;show Q (.bl (decide (V.int (((x0::xr).length:Nat):Int)=V.int ((1+1:Nat):Int)))) H;rw[dl];exact q0
 | false=>
 rw[e3,if_neg (by decide)] at q0;have q:∀H',Same H H'->Q (.bl (if aoP k=true then decide (r.length=2) else if eqS k "then"=true then Hl r else Dk (.tuple (k::r)))) H':=λH' s'=>by have:=q H' s';rw[e3,if_neg (by decide)] at this;exact this
 refine Aw ⟨_,rq,Ar (by show 2<=1000;decide),λp hp=>?_⟩;have sp:=Ag hp (.tup [.str "and",.str "or"]);have cp:upd H p (.tup [.str "and",.str "or"]) p=some (.tup [.str "and",.str "or"]):=Ae;generalize upd H p (.tup [.str "and",.str "or"])=H1 at *;have ht1:=sp _ _ ht;have q1:∀H',Same H1 H'->Q (.bl (if aoP k=true then decide (r.length=2) else if eqS k "then"=true then Hl r else Dk (.tuple (k::r)))) H':=λH' s'=>q H' (sp.trans s')
 have q0:=q1 _ (Same.refl _);refine⟨p,_,k,[.str "and",.str "or"],rq,SqT.of cp,.cons (.str _) (.cons (.str _) .nil),Rep.same sp rk,sk,by trivial,_,rq,?_⟩;show if aoP k=true then _ else _
 cases e4:aoP k with
 | true=>
  rw[e4,if_pos rfl] at q0;refine Bd ⟨_,rq,t,_,rq,.inr (SqT.of ht1),rq,?_⟩;show Q (.bl (decide (V.int (((x0::xr).length:Nat):Int)=V.int ((2+1:Nat):Int)))) H1;rw[dl];exact q0
 | false=>
 rw[e4,if_neg (by decide)] at q0;have q1:∀H',Same H1 H'->Q (.bl (if eqS k "then"=true then Hl r else Dk (.tuple (k::r)))) H':=λH' s'=>by have:=q1 H' s';rw[e4,if_neg (by decide)] at this;exact this
 refine Aw ⟨_,rq,k,.str "then",Rep.same sp rk,.str _,sk,sS _ (by trivial),_,rq,?_⟩;show if eqS k "then"=true then _ else _
 cases e5:eqS k "then" with
 | true=>
  rw[e5,if_pos rfl] at q0;refine Bd ⟨_,rq,t,_,rq,.inr (SqT.of ht1),rq,_,rq,ifN (λhl=>?_) (λhl=>?_)⟩
  ·rw[len1] at hl;obtain⟨a,b,c,rfl⟩:=Od (l:=r) (by omega) (by omega);cases rs with
   | cons ra rs=>
   cases rs with
   | cons rb rs=>
   cases rs with
   | cons rc rs=>
   cases rs;have q0:Q (.bl (wiP c 1 20)) H1:=q0;refine⟨_,rq,t,_,_,_,rq,rq,SqT.of ht1,Bf (j:=3) rfl,_,1,20,rq,(Rep.same sp rc).kn,?_⟩;rw[GC (Rep.same sp rc)];exact q0
  ·rw[len1] at hl;have:Hl r=false:=by
    unfold Hl;split
    ·exact absurd rfl hl
    ·rfl
   rw[this] at q0;exact q0
 | false=>
 have q1:∀H',Same H1 H'->Q (.bl (Dk (.tuple (k::r)))) H':=λH' s'=>by have:=q1 H' s';rw[e5,if_neg (by decide)] at this;exact this
 exact Aw ⟨_,rq,_,_,rq,Rep.same sp rd,fit,q1⟩
theorem Ny (C:Code K mg "inner_ones" HF Ep) (T:Tc mg):Good P w K mg base "inner_ones" 1 Ep Wu:=by
 refine C.good Nr (λvs H Q E h=>?_) (λf cdv A outer s H vs Q E hr h=>?_)
 ·obtain⟨v,d,G,rfl,_⟩:=h;rfl
 obtain⟨v,d,G,rfl,sG,rd,hf,q⟩:=h;refine⟨_,(Ad (Bj (Bc Dd (Ay Bq (pv 0) Ab (λ_ _=>rfl)) Ai (Bb _)) (Af (Ak (Dv Gf (pv 0) (Dh Ab) (Dh Ab)))) Av)
 (Ad (Bj (Bc M6 (Ay Bq (pv 0) Ab (λ_ _=>rfl)) (Bx (Aa Ai (Aa Ai (Aa Ai Ac)))) (by with_unfolding_all rfl)) (Af (Ak (Dv Gf (pv 0) (Dh Ab) (Dh Ab)))) Av)
 (Af (Ak (Bx Ac))))),?_⟩
 show let R0:TS:=_;let R1:TS:=Am (BX _ R0 _) _;let R2:TS:=_;Am (BX _ R2 _) R1 _ _ _;intro R0 R1 R2;have e0:Dj d 2 4=true:=by
  unfold Cz at hf;split at hf
  ·rw[QaI] at hf;exact hf.1
  ·cases hf
 obtain⟨t,xs,ds,rfl,rfl,htG,rs,h1,h2⟩:=Hu rd e0;have ht:=sG _ _ htG;cases rs with
 | nil=>exact absurd h1 (by decide)
 | @cons x0 k xr r rk rs=>
 obtain⟨r1,r3⟩:=TY e0;have lr:=Ax.len rs;have hf:(Dj (.tuple (k::r)) 2 4&&BP k r)=true:=hf;rw[QaI] at hf;obtain⟨z,rfl⟩:=PL hf.2;cases rk;have q:∀t xs H',H' t=some (.tup xs)->Ax G xs (if eqS (.str z) "not"=true then r.take 1 else if Gn (.str z)=true then r.take 2 else [])->Same H H'->Q (.ref t) H':=q
 refine⟨_,rq,t,_,_,_,rq,rq,SqT.of ht,Bf (j:=0) rfl,rq,_,rq,ifS (λe=>?_) (λe=>?_)⟩
 ·rw[e,Dm,if_pos rfl] at q;refine⟨_,rq,_,rq,_,rq,t,_,rq,ht,λp H1 hp s1=>?_⟩;have ec:Dy (V.str z::xr) (some 1) (some 2)=xr.take 1:=U3 (n:=1) (by omega);rw[ec] at hp;exact q p _ H1 hp (Ax.Ry 1 rs) s1
 ·rw[Cj e,if_neg (by decide)] at q;refine⟨_,rq,t,_,_,_,rq,rq,SqT.of ht,Bf (j:=0) rfl,Ar (by show 3<=1000;decide),λp hp=>?_⟩;have sp:=Ag hp (.tup [.str "and",.str "or",.str "then"]);have cp:upd H p (.tup [.str "and",.str "or",.str "then"]) p=some (.tup [.str "and",.str "or",.str "then"]):=Ae;generalize upd H p (.tup [.str "and",.str "or",.str "then"])=H1 at *;have ht1:=sp _ _ ht;refine⟨p,_,rq,.inr (SqT.of cp),rq,rq,_,rq,?_⟩;show if Gn (.str z)=true then _ else _
  cases ea:Gn (.str z) with
  | true=>
   rw[ea,if_pos rfl] at q;refine Bd ⟨_,rq,_,rq,_,rq,t,_,rq,ht1,λp2 H2 hp2 s2=>?_⟩;by_cases h2:2<=xr.length
   ·have ec:Dy (V.str z::xr) (some 1) (some 3)=xr.take 2:=U3 (n:=2) h2;rw[ec] at hp2;exact q p2 _ H2 hp2 (Ax.Ry 2 rs) (sp.trans s2)
   ·exfalso;have hz:z="and"\/z="or"\/z="then":=by
     have ea:inV (.str z) [.str "and",.str "or",.str "then"]=true:=ea;simp only[inV,Qbf,List.any_nil,Bool.or_false,Bool.or_eq_true] at ea;rcases ea with h | h | h
     ·exact .inl (Es h).symm
     ·exact .inr (.inl (Es h).symm)
     ·exact .inr (.inr (Es h).symm)
    have hr1:r.length=1:=by omega
    have hff:=hf.2;unfold BP at hff;rcases hz with rfl | rfl | rfl
    ·rw[if_neg (by rw[Cj (by trivial)];decide),if_neg (by rw[Cj (by trivial)];decide),if_neg (by rw[Cj (by trivial)];decide),if_pos (Je.mpr (.inl rfl)),hr1] at hff;exact absurd hff (by decide)
    ·rw[if_neg (by rw[Cj (by trivial)];decide),if_neg (by rw[Cj (by trivial)];decide),if_neg (by rw[Cj (by trivial)];decide),if_pos (Je.mpr (.inr rfl)),hr1] at hff;exact absurd hff (by decide)
    ·rw[if_neg (by rw[Cj (by trivial)];decide),if_neg (by rw[Cj (by trivial)];decide),if_neg (by rw[Cj (by trivial)];decide),if_neg (λh=>by rcases Je.mp h with h | h <;> exact absurd (by injection h) (show ¬(("then":Str)=_) by trivial)),if_pos (Dm _)] at hff
     match r,hr1,hff with
     | [_],_,hff=>cases hff
  | false=>
   rw[ea,if_neg (by decide)] at q;refine Aw ⟨Ar (by show 0<=1000;decide),λp2 hp2=>?_⟩;exact q p2 [] _ Ae .nil (sp.trans (Ag hp2 _))
end
abbrev Gh:Stmt:=top 12
abbrev Di:YF:=FW
theorem CP:Bm ["thing","level","many","deep"] Di (Aj Gh):=by ac_rfl
abbrev JF:Stmt:=top 13
abbrev GR:YF:=FW
theorem Rz:Bm FW GR (Aj JF):=by ac_rfl
abbrev Jm:Stmt:=top 14
abbrev FZ:YF:=FW
theorem Qv:Bm FW FZ (Aj Jm):=by ac_rfl
theorem Sw {K:YD} {a l:Addr} {xs:YG} {ds:List PyData} {fb:PyData->Bool} {te:TE} {Q:VK} {r:St} {H:Hp} (hl:H l=none) (ha:H a=some (.lst xs)) (rs:Ax H xs ds) (h9:ds.length<=900)
  (hs:∀(x:V) (d:PyData) (HH:Hp),d∈ds->Rep HH x d->Same H HH->∀R:VK,(∀H',Same HH H'->R (.bl (fb d)) H')->te (some x::r) HH R)
  (hq:∀H',H' l=some (.lst ((ds.map fb).map V.bl))->Same H H'->Q (.ref l) H'):Fe (Itl K a) (Gd 0) (λ_ H Q=>Q true H) te Q (none::r) (upd H l (.lst [])) l:=by
 have lx:=Ax.len rs;let J0:YN:=λi U HH=>∃u,U=u::r/\HH l=some (.lst (((ds.take i).map fb).map V.bl))/\Same H HH;refine U5 (xs:=xs) J0 ⟨_,rq,Ae,Ag hl _⟩ (λi U HH _ h=>?_) (λi x U HH hx h=>?_) (fun U HH h=>?_)
 ·obtain⟨u,rfl,_,s⟩:=h;exact SqL.of (s _ _ ha)
 ·obtain⟨u,rfl,e,s⟩:=h;obtain⟨d,hd,rd⟩:=Ax.at_ rs hx;have hi:=(Qad.mp hd).1;unfold Gd;dsimp only;refine Bd (hs x d HH (Qam hd) (Rep.same s rd) s _ λH' s'=>⟨_,s' _ _ e,Ck (by rw[QaQ,QaQ,QaK];omega),_,rq,?_,(s.trans s').FN Ah.upd hl⟩);rw[Ae,take_snoc hd,QaT,QaT];rfl
 ·obtain⟨u,rfl,e,s⟩:=h;rw[lx,QaN] at e;exact hq _ e s
def bfs:Nat->List PyData->Nat->Option (List PyData×Nat)
 | 0,l,m=>some (l,m)
 | n+1,l,m=>if l.all Cz=true then bfs n (l.flatMap Dq) (m+l.length) else none
def DG (d:PyData):Bool:=match bfs 6 [d] 0 with
 | none=>false
 | some (l,m)=>l.isEmpty&&decide (m<=20)
theorem XC {d x:PyData} (h:x∈Dq d):∃ds,d=.tuple ds/\x∈ds:=by
 unfold Dq at h;split at h
 ·rename_i k r;refine⟨_,rq,Qal _ ?_⟩;split at h
  ·exact List.mem_of_mem_take h
  ·split at h
   ·exact List.mem_of_mem_take h
   ·cases h
 ·cases h
theorem Ri (d:PyData):(Dq d).length<=2:=by
 unfold Dq;split
 ·split
  ·rw[QaK];omega
  ·split
   ·rw[QaK];omega
   ·exact Qbn _
 ·exact Qbn _
theorem KN:∀l:List PyData,(l.flatMap Dq).length<=2*l.length
 | []=>Qbm _
 | x::r=>by
  have:=KN r;have:=Ri x;rw[List.flatMap_cons,Qaw,QaJ];omega
def Cq (d:PyData):Bool:=match d with
 | .tuple [k,c,x]=>DG x&&(if eqS k "term"=true then nameP c else eqS k "sound"&&wiP c 1 99)
 | _=>false
def DP (d:PyData):Bool:=match d with
 | .tuple ds=>Dj (.tuple ds) 1 16&&ds.all Cq
 | _=>false
theorem Ax.app {H:Hp}:∀{xs ys:YG} {ds es:List PyData},Ax H xs ds->Ax H ys es->Ax H (xs++ys) (ds++es)
 | _,_,_,_,.nil,t=>t
 | _,_,_,_,.cons a r,t=>.cons a (Ax.app r t)
section
variable {P:Program} {w:World} {K:YD} {mg:YB} {base:Heap}
abbrev xa:YF:=["part","inner"]
theorem Lg (C:Code K mg "is_condition" Gh Di) (T:Tc mg) (Ux:Good P w K mg base "is_form" 4 GX (DY Cz)) (PJ:Good P w K mg base "inner_ones" 1 Ep Wu):Good P w K mg base "is_condition" 5 Di (DY DG):=by
 refine C.good CP (λvs H Q E h=>?_) (λf cdv A outer s H vs Q E hr h=>?_)
 ·obtain⟨v,d,rfl,_⟩:=h;rfl
 obtain⟨v,d,rfl,rd,fit,q⟩:=h;refine⟨_,(Ad (Bg (i:=1) CP.nd rfl (Or.inl rfl) (Ce (Aa (pv 0) Ac)))
 (Ad (Bg (i:=2) CP.nd rfl (Or.inl rfl) Ab)
 (Ad (GK QaW rfl (El rfl T.range (Aa (O7 rfl T.MOST_DEEP) Ac)) (Cd (i:=3) CP.nd rfl (Or.inl rfl))
 (Ad (Bj (BJ (Bt (Ao (K5 rfl) rfl T.all Ql (Aa (Hv (N':=["part"]) rfl (Dc.plain rfl (by trivial) (by trivial) (by trivial)) (Q7 (pv 1)) (λ_ _ _ _=>(Cd (i:=0) (show List.Nodup (["part"]:YF) by trivial) rfl (Or.inl rfl))) (λ_ _ _ _=>JM) (λ_ _ _ _=>(Al Ux hr (Aa (pv 0) Ac)))) Ac)))) (Af (Ak Cw)) Av)
 (Ad (Yy (i:=2) CP.nd rfl (Or.inl rfl) (Ao Bp rfl T.len Ci (Aa (pv 1) Ac)) Ze)
 (Af (Vs (i:=1) CP.nd rfl (Or.inl rfl) (N':=xa) rfl (Dc.plain rfl (by trivial) (by trivial) (by trivial)) (Q7 (pv 1)) (λ_ _ _ _=>(Cd (i:=0) (show List.Nodup (xa:YF) by trivial) rfl (Or.inl rfl))) (λ_ _ _ _=>(Xd (K:=K) rfl (Al PJ hr (Aa (pv 0) Ac)))) (λ_ _ _ _=>(Cd (i:=1) (show List.Nodup (xa:YF) by trivial) rfl (Or.inl rfl))) (λ_ _ _ _=>(pv 1)))))))
 (Af (Ak (CG (Xf (pv 1)) (Du (Cu Gv (pv 2) (O7 rfl T.MOST_CONDITIONS) (Bb _))))))))),?_⟩
 show let R0:TS:=_;let R1:TS:=_;let R2:TS:=Am _ R1;let R3:TS:=Am _ R2;let R4:TS:=Am (Jg _ _ R3) R0;let R5:TS:=Am _ R4;Am _ R5 _ _ _;intro R0 R1 R2 R3 R4 R5;refine⟨_,rq,Ar (by show 1<=1000;decide),λlv hlv=>?_⟩;have sl:=Ag hlv (.lst [v]);have cl:upd H lv (.lst [v]) lv=some (.lst [v]):=Ae;generalize upd H lv (.lst [v])=H1 at *;refine⟨_,rq,by decide,by decide,?_⟩;let J1:YN:=λi U HH=>∃(l:Addr) (xs:YG) (ds:List PyData) (m:Nat) (u:Option V),U=[some v,jd l,some (.int (m:Int)),u]/\HH l=some (.lst xs)/\Ax HH xs ds/\bfs 6 [d] 0=bfs (6 - i) ds m/\ds.length<=2 ^ i/\(∀x∈ds,Fit 64 x)/\Same H HH;refine Fy (n:=6) J1
  ⟨lv,[v],[d],0,none,rq,cl,.cons (Rep.same sl rd) .nil,rq,Qbm _,(λx hx=>by rw[Qax.mp hx];exact fit),sl⟩ (λi U HH hi h=>?_) (fun U HH h=>?_)
 ·obtain⟨l,xs,ds,m,u,rfl,e1,e2,e3,e4,e5,e6⟩:=h;have p6:2 ^ i<=32:=by
   have:i<=5:=by omega
   exact Qbk (Nat.pow_le_pow_right (by decide) this) (by decide)
  obtain⟨n,hn⟩ : ∃n,6 - i=n+1:=⟨5 - i,by omega⟩;have hn':6 - (i+1)=n:=by omega
  rw[hn] at e3;have e3':bfs 6 [d] 0=if ds.all Cz=true then bfs n (ds.flatMap Dq) (m+ds.length) else none:=e3
  have lx:=Ax.len e2;refine⟨_,rq,l,rq,⟨_,SqL.of e1⟩,λlc hlc=>?_⟩;refine Sw (fb:=Cz) hlc e1 e2 (by omega) (λx dx HX hdx rx sx R hR=>⟨_,rq,x,dx,rq,rx,e5 dx hdx,hR⟩) (λH2 hc s2=>?_);refine⟨lc,_,rq,SqL.of hc,?_⟩;rw[all_map];refine⟨_,rq,?_⟩;cases ea:ds.all Cz with
  | false=>
   rw[ea,if_neg (by decide)] at e3';have:DG d=false:=by unfold DG;rw[e3']
   rw[this] at q;exact Bd (q _ (e6.trans s2))
  | true=>
  rw[ea,if_pos rfl] at e3';have e12:=s2 _ _ e1;refine Aw ⟨_,rq,_,rq,l,_,rq,.inl (SqL.of e12),_,_,rq,rq,?_⟩;refine⟨_,rq,l,rq,⟨_,SqL.of e12⟩,λln hln=>?_⟩;have sn:=Ag hln (.lst []);refine Sy (xs:=xs) (λj U HX=>∃(u1 u2:Option V) (ys:YG),U=[u1,u2]/\HX ln=some (.lst ys)/\Ax H2 ys ((ds.take j).flatMap Dq)/\Same H2 HX) ⟨_,_,[],rq,Ae,.nil,sn⟩ (λj U HX _ h=>?_) (λj x U HX hx h=>?_) (fun U HX h=>?_)
  ·obtain⟨u1,u2,ys,rfl,f1,f2,f3⟩:=h;exact SqL.of (f3 _ _ e12)
  ·obtain⟨u1,u2,ys,rfl,f1,f2,f3⟩:=h;obtain⟨dx,hdx,rx⟩:=Ax.at_ e2 hx;have mdx:=Qam hdx;have hj:=(Qad.mp hdx).1;have yl:=Ax.len f2;have yl2:((ds.take j).flatMap Dq).length<=2*(ds.take j).length:=KN _;have yl3:(ds.take j).length<=32:=by rw[QaK];omega
   unfold Gd;dsimp only;refine⟨_,rq,x,dx,H2,rq,f3,Rep.same s2 rx,QaM.mp ea dx mdx,λt ts HY ht rt sY=>⟨t,rq,⟨_,SqT.of ht⟩,?_⟩⟩;have il:=Ri dx;have tl:=Ax.len rt;refine XJ (xs:=ts) (λk U HZ=>∃(u2:Option V),U=[some x,u2]/\HZ ln=some (.lst (ys++ts.take k))/\Same H2 HZ/\HZ t=some (.tup ts)) ⟨_,rq,?_,f3.trans sY,ht⟩ (λk U HZ _ h=>?_) (λk y U HZ hy h=>?_) (fun U HZ h=>?_)
   ·rw[List.take_zero,List.append_nil];exact sY _ _ f1
   ·obtain⟨u2,rfl,g1,g4,g5⟩:=h;exact SqT.of g5
   ·obtain⟨u2,rfl,g1,g4,g5⟩:=h;have hk:=(Qad.mp hy).1;refine⟨_,rq,_,g1,Ck (by rw[Qaw,QaK];omega),_,rq,?_,g4.FN Ah.upd hln,?_⟩
    ·rw[Ae,take_snoc hy,List.append_assoc]
    ·rw[Bo (λz=>by rw[z,g1] at g5;cases g5)];exact g5
   ·obtain⟨u2,rfl,g1,g4,g5⟩:=h;rw[QaN] at g1;refine⟨_,_,ys++ts,rq,g1,?_,g4⟩;rw[take_snoc hdx,List.flatMap_append];have:[dx].flatMap Dq=Dq dx:=by simp
    rw[this];exact Ax.app f2 rt
  ·obtain⟨u1,u2,ys,rfl,f1,f2,f3⟩:=h;rw[lx,QaN] at f2;refine⟨ln,ys,ds.flatMap Dq,m+ds.length,some (.int (0+(i:Int))),?_,f1,Ax.same f3 f2,?_,?_,λx hx=>?_,(e6.trans s2).trans f3⟩
   ·show [_,_,some (V.int ((m:Int)+(xs.length:Int))),_]=_;rw[lx];rfl
   ·rw[hn'];exact e3'
   ·have:=KN ds;rw[Nat.pow_succ];omega
   ·obtain⟨y,hy,hx⟩:=List.mem_flatMap.mp hx;obtain⟨es,rfl,he⟩:=XC hx;exact (e5 _ hy).item' he
 ·obtain⟨l,xs,ds,m,u,rfl,e1,e2,e3,e4,e5,e6⟩:=h;have e3:bfs 6 [d] 0=some (ds,m):=e3;have cd:DG d=(ds.isEmpty&&decide (m<=20)):=by unfold DG;rw[e3]
  rw[cd] at q;have lx:=Ax.len e2;have ee:xs.isEmpty=ds.isEmpty:=by
   cases xs with
   | nil=>cases ds with
    | nil=>rfl
    | cons _ _=>cases lx
   | cons _ _=>cases ds with
    | nil=>cases lx
    | cons _ _=>rfl
  refine⟨_,rq,!xs.isEmpty,.inl ⟨_,SqL.of e1,rq⟩,_,rq,?_⟩;rw[Bool.not_not,ee];cases eb:ds.isEmpty with
  | false=>rw[eb] at q;exact Aw (q _ e6)
  | true=>
   rw[eb,Qbc] at q;refine Bd ⟨_,rq,_,_,rq,rq,?_⟩;have:decide ((m:Int)<=20)=decide (m<=20):=by
    rw[QaX,QaA,QaA];omega
   show Q (.bl (decide ((m:Int)<=20))) HH;rw[this];exact q _ e6
theorem RP (C:Code K mg "is_rule" JF GR) (T:Tc mg) (Er:Good P w K mg base "is_row" 1 Eo JB) (Dg:Good P w K mg base "is_within" 2 Dw N7) (Io:Good P w K mg base "is_name" 1 Fw (DY nameP)) (Gj:Good P w K mg base "is_condition" 5 Di (DY DG)):Good P w K mg base "is_rule" 6 GR (DY Cq):=by
 refine C.good Rz (λvs H Q E h=>?_) (λf cdv A outer s H vs Q E hr h=>?_)
 ·obtain⟨v,d,rfl,_⟩:=h;rfl
 obtain⟨v,d,rfl,rd,fit,q⟩:=h;refine⟨_,(Ad (Bj (PW.pt (Ea (BJ (Bt (Al Er hr (Aa (pv 0) (Aa Ab (Aa Ab Ac)))))) (Ek (BJ (Bt (Al Gj hr (Aa (Ay Bq (pv 0) Ab (λ_ _=>rfl)) Ac))))))) (Af (Ak Cw)) Av)
 (Ad (Bj (Bc (Hf hr.units) (Ay Bq (pv 0) Ab (λ_ _=>rfl)) Ai (Bb _)) (Af (Ak (Al Io hr (Aa (Ay Bq (pv 0) Ab (λ_ _=>rfl)) Ac)))) Av)
 (Af (Ak (CG (Cu (Hf hr.units) (Ay Bq (pv 0) Ab (λ_ _=>rfl)) Ai (Bb _)) (Du (Al Dg hr (Aa (Ay Bq (pv 0) Ab (λ_ _=>rfl)) (Aa Ab (Aa Ab Ac)))))))))),?_⟩
 show let R0:TS:=_;let R1:TS:=_;let R2:TS:=Am (BX _ R1 _) R0;Am _ R2 _ _ _;intro R0 R1 R2;have sS:∀z:Str,PyData.strOk z=true->SeqAt.shaped (.str z)=true:=λz hz=>by
  show (PyData.strOk z&&decide (0<=64))=true;rw[hz];rfl
 refine⟨_,rq,v,3,3,rq,rd.kn,_,rq,?_⟩;rw[Ja rd];cases e3:Dj d 3 3 with
 | false=>
  have:Cq d=false:=by
   unfold Cq;split
   ·exact absurd rfl (Q5 e3 _ _ _)
   ·rfl
  rw[this] at q;exact Bd (q _ (Same.refl _))
 | true=>
 obtain⟨t,xs,ds,rfl,rfl,ht,rs,h1,h2⟩:=Hu rd e3;obtain⟨k,c,x,rfl⟩:=Od h1 h2;cases rs with
 | cons rk rs=>
 cases rs with
 | cons rc rs=>
 cases rs with
 | cons rx rs=>
 cases rs;have fk:Fit 64 k:=fit.item' (by simp);have fc:Fit 64 c:=fit.item' (by simp);have fx:Fit 64 x:=fit.item' (by simp);have q:∀H',Same H H'->Q (.bl (DG x&&(if eqS k "term"=true then nameP c else eqS k "sound"&&wiP c 1 99))) H':=q
 refine Aw ⟨_,rq,t,_,_,_,rq,rq,SqT.of ht,Bf (j:=2) rfl,_,x,rq,rx,fx,λH1 s1=>⟨_,rq,?_⟩⟩;cases ec:DG x with
 | false=>rw[ec] at q;exact Bd (q _ s1)
 | true=>
 rw[ec,Qbc] at q;have ht1:=s1 _ _ ht;refine Aw ⟨_,rq,t,_,_,_,rq,rq,SqT.of ht1,Bf (j:=0) rfl,k,.str "term",Rep.same s1 rk,.str _,fk.shaped (Qbm _),sS _ (by trivial),_,rq,?_⟩;show if eqS k "term"=true then _ else _
 cases e1:eqS k "term" with
 | true=>
  rw[e1,if_pos rfl] at q;exact Bd ⟨_,rq,t,_,_,_,rq,rq,SqT.of ht1,Bf (j:=1) rfl,_,c,rq,Rep.same s1 rc,fc,λH2 s2=>q _ (s1.trans s2)⟩
 | false=>
 rw[e1,if_neg (by decide)] at q;refine Aw ⟨_,rq,t,_,_,_,rq,rq,SqT.of ht1,Bf (j:=0) rfl,k,.str "sound",Rep.same s1 rk,.str _,fk.shaped (Qbm _),sS _ (by trivial),_,rq,?_⟩;show if eqS k "sound"=true then _ else _
 cases e2:eqS k "sound" with
 | false=>rw[e2] at q;exact Aw (q _ s1)
 | true=>
 rw[e2,Qbc] at q;refine Bd ⟨_,rq,t,_,_,_,rq,rq,SqT.of ht1,Bf (j:=1) rfl,_,1,99,rq,(Rep.same s1 rc).kn,?_⟩;rw[GC (Rep.same s1 rc)];exact q _ s1
theorem Qx (C:Code K mg "is_rules" Jm FZ) (T:Tc mg) (Er:Good P w K mg base "is_row" 1 Eo JB) (Uw:Good P w K mg base "is_rule" 6 GR (DY Cq)):Good P w K mg base "is_rules" 7 FZ (DY DP):=by
 refine C.good Qv (λvs H Q E h=>?_) (λf cdv A outer s H vs Q E hr h=>?_)
 ·obtain⟨v,d,rfl,_⟩:=h;rfl
 obtain⟨v,d,rfl,rd,fit,q⟩:=h;refine⟨_,(Af (Ak (CG (Al Er hr (Aa (pv 0) (Aa Ab (Aa Ab Ac)))) (Du (Ao (K5 rfl) rfl T.all Ql (Aa (Hv (N':=["part"]) rfl (Dc.plain rfl (by trivial) (by trivial) (by trivial)) (O4 (pv 0)) (λ_ _ _ _=>(Cd (i:=0) (show List.Nodup (["part"]:YF) by trivial) rfl (Or.inl rfl))) (λ_ _ _ _=>JM) (λ_ _ _ _=>(Al Uw hr (Aa (pv 0) Ac)))) Ac)))))),?_⟩;refine⟨_,rq,v,1,16,rq,rd.kn,_,rq,?_⟩;rw[Ja rd];cases e3:Dj d 1 16 with
 | false=>
  have:DP d=false:=by
   unfold DP;split
   ·rw[e3];rfl
   ·rfl
  rw[this] at q;exact Aw (q _ (Same.refl _))
 | true=>
 obtain⟨t,xs,ds,rfl,rfl,ht,rs,h1,h2⟩:=Hu rd e3;have q:∀H',Same H H'->Q (.bl (ds.all Cq)) H':=λH' s'=>by
  have:=q H' s';have e:DP (.tuple ds)=ds.all Cq:=by
   show (Dj (.tuple ds) 1 16&&ds.all Cq)=_;rw[e3,Qbc]
  rw[e] at this;exact this
 refine Bd ⟨_,rq,t,rq,⟨_,SqT.of ht⟩,λlc hlc=>?_⟩;refine U6 (fb:=Cq) hlc ht rs (by omega) (λx dx HX hdx rx sx R hR=>⟨_,rq,x,dx,rq,rx,fit.item' hdx,hR⟩) (λH2 hc s2=>?_);refine⟨lc,_,rq,SqL.of hc,?_⟩;rw[all_map];exact q _ s2
end
abbrev O1:Stmt:=top 24
abbrev Jb:YF:=["_law_thing","_law_least","_law_most"]
theorem W9:Bm Jb Jb (Aj O1):=by ac_rfl
abbrev Ir:Stmt:=top 25
abbrev Ei:YF:=["_law_thing"]
theorem OD:Bm Ei Ei (Aj Ir):=by ac_rfl
abbrev Iu:Stmt:=top 26
abbrev Df:YF:=["_law_thing","_law_deep"]
theorem BR:Bm ["_law_thing","_law_deep","_law_forms","_law_bounds","_law_many","_law_sign","_law_part"] Df (Aj Iu):=by ac_rfl
def Ju:YM:=[(.inr "of",.str "nz"),(.inr "key",.str "k"),(.inr "hours",.str "hh"),(.inr "term",.str "z"),(.inr "not",.str "c"),(.inr "and",.str "cc"),(.inr "or",.str "cc"),(.inr "then",.str "ccb")]
theorem Xw:CK [] Ju=Ju:=by trivial
def Et (p1 p2 p3 p4:Addr):YM:=[(.inr "n",.ref p1),(.inr "k",.ref p2),(.inr "h",.ref p3),(.inr "b",.ref p4)]
theorem Xx (p1 p2 p3 p4:Addr):CK [] (Et p1 p2 p3 p4)=Et p1 p2 p3 p4:=by with_unfolding_all rfl
def Ez (z:Str):Option Str:=if z="of" then some "nz" else if z="key" then some "k" else if z="hours" then some "hh" else if z="term" then some "z" else if z="not" then some "c" else if z="and" then some "cc" else if z="or" then some "cc" else if z="then" then some "ccb" else none
theorem Wj (z:Str):DN Ju (.inr z)=(Ez z).map V.str:=by
 unfold Ez;by_cases h1:z="of"
 ·subst h1;decide +kernel
 rw[if_neg h1];by_cases h2:z="key"
 ·subst h2;decide +kernel
 rw[if_neg h2];by_cases h3:z="hours"
 ·subst h3;decide +kernel
 rw[if_neg h3];by_cases h4:z="term"
 ·subst h4;decide +kernel
 rw[if_neg h4];by_cases h5:z="not"
 ·subst h5;decide +kernel
 rw[if_neg h5];by_cases h6:z="and"
 ·subst h6;decide +kernel
 rw[if_neg h6];by_cases h7:z="or"
 ·subst h7;decide +kernel
 rw[if_neg h7];by_cases h8:z="then"
 ·subst h8;decide +kernel
 rw[if_neg h8];have e:∀y:Str,z≠y->¬(Sum.inr y:Key)=.inr z:=λy h e=>h (by injection e with e;exact e.symm);simp[DN,Ju,e _ h1,e _ h2,e _ h3,e _ h4,e _ h5,e _ h6,e _ h7,e _ h8]
def bnd (c:Nat):Option (Int×Int):=if c=110 then some (1,9) else if c=107 then some (0,9) else if c=104 then some (0,23) else if c=98 then some (1,20) else none
theorem Ye (p1 p2 p3 p4:Addr):DN (Et p1 p2 p3 p4) (.inr ⟨#[110]⟩)=some (.ref p1):=by with_unfolding_all rfl
theorem Yd (p1 p2 p3 p4:Addr):DN (Et p1 p2 p3 p4) (.inr ⟨#[107]⟩)=some (.ref p2):=by with_unfolding_all rfl
theorem Yc (p1 p2 p3 p4:Addr):DN (Et p1 p2 p3 p4) (.inr ⟨#[104]⟩)=some (.ref p3):=by with_unfolding_all rfl
theorem Yb (p1 p2 p3 p4:Addr):DN (Et p1 p2 p3 p4) (.inr ⟨#[98]⟩)=some (.ref p4):=by with_unfolding_all rfl
theorem X8 (p1 p2 p3 p4:Addr):DN (Et p1 p2 p3 p4) (.inr ⟨#[122]⟩)=none:=by with_unfolding_all rfl
theorem Wy:(Str.ofString "c")=⟨#[99]⟩:=by trivial
theorem Wx:(Str.ofString "z")=⟨#[122]⟩:=by trivial
def Bw (g:PyData->Int) (c:Nat) (p:PyData):Int:=
 if c=99 then g p else if c=122 then (if nameP p=true then 0 else 1000) else match bnd c with
  | some b=>if wiP p b.1 b.2=true then 0 else 1000
  | none=>0
def Ge (g:PyData->Int) (f:Str) (r:List PyData):Int:=((f.cps.toList.zip r).map λp=>Bw g p.1 p.2).sum
def BL:Nat->PyData->Int
 | 0,_=>1000
 | n+1,d=>match d with
  | .tuple (.str z::r)=>match Ez z with
   | none=>1000
   | some f=>if f.cps.size=r.length then 1+Ge (BL n) f r else 1000
  | _=>1000
def okF (f:Str):Bool:=f.cps.all (λc=>decide (c < 128))&&(decide (f.cps.size<=3)&&f.cps.toList.all λc=>decide (c=110\/c=107\/c=104\/c=98\/c=99\/c=122))
theorem Rk {z f:Str} (h:Ez z=some f):okF f=true:=by
 unfold Ez at h
 repeat' split at h
 all_goals first | (cases h;decide +kernel) | cases h
def Vo:Sp:=λvs H Q _=>∃v lo hi,vs=[v,.int lo,.int hi]/\Kn H v/\Q (.bl (wiB v lo hi)) H
def Wv (n:Nat):Sp:=λvs H Q _=>∃(v:V) (d:PyData),n<=6/\vs=[v,.int (7 - (n:Int))]/\Rep H v d/\Fit 64 d/\∀H',Same H H'->Q (.int (BL n d)) H'
def Ot (D:Nat):Sp:=λvs H Q E=>∃n,n<=D/\Wv n vs H Q E
theorem Ur (bs:List Bool):(!inV (.bl false) (bs.map V.bl))=bs.all id:=by
 induction bs with
 | nil=>rfl
 | cons b r ih=>
  have e:inV (.bl false) ((b::r).map V.bl)=(eqV (.bl b) (.bl false) || inV (.bl false) (r.map V.bl)):=rfl;rw[e,Bool.not_or,ih,List.all_cons];cases b <;> rfl
theorem V2 (bs:List Bool):(bs.map V.bl).all Gx=true:=by rw[List.all_map,QaM];intro _ _;rfl
theorem Kc {H:Hp} {v:V} {d:PyData} (r:Rep H v d):(∃t xs ds,v=.ref t/\d=.tuple ds/\H t=some (.tup xs)/\Ax H xs ds/\Gs H v=some xs)\/(Gs H v=none/\∀ds,d≠.tuple ds):=by
 cases r with
 | tup e r=>exact .inl ⟨_,_,_,rfl,rfl,e,r,Hx e⟩
 | lst e r=>exact .inr ⟨GD e,λ_ z=>by cases z⟩
 | _=>exact .inr ⟨rfl,λ_ z=>by cases z⟩
theorem UW {x:V} {r:YG}:Dy (x::r) (some 1) none=r:=by
 unfold Dy;rw[HT.Kz,show (some (1:Int))=some ((1:Nat):Int) from rfl,HT.IW,Nat.min_eq_left (by rw[QaJ];omega)]
 exact List.take_of_length_le (by rw[QaJ];show r.length<=_;omega)
theorem Lr {n:Nat} {d:PyData} (h:∀z r,d≠.tuple (.str z::r)):BL n d=1000:=by
 cases n with
 | zero=>rfl
 | succ n=>
  unfold BL;split
  ·exact absurd rfl (h _ _)
  ·rfl
section
variable {P:Program} {w:World} {K:YD} {mg:YB} {base:Heap}
theorem Xp (c:Code K mg "_law_is" O1 Jb) (T:Tc mg):Good P w K mg base "_law_is" 1 Jb Vo:=by
 refine c.good W9 (λvs H Q E h=>?_) (λf cdv A outer s H vs Q E hr h=>?_)
 ·obtain⟨v,lo,hi,rfl,_⟩:=h;rfl
 obtain⟨v,lo,hi,rfl,k,q⟩:=h;refine⟨_,(Af (Ak (CG (Ao BW rfl T.isinstance Bk (Aa (pv 0) (Aa (Cg (v:=.ty "int") rfl T.int Lx rfl) Ac))) (CG (T7 (Ao BW rfl T.isinstance Bk (Aa (pv 0) (Aa (Cg (v:=.ty "bool") rfl T.bool Mv rfl) Ac)))) (Du (Jp Gv Gv (pv 1) (pv 0) (pv 2))))))),?_⟩;refine⟨_,rq,Hw k ⟨_,rq,?_⟩⟩;cases e:isI v with
 | false=>
  have:wiB v lo hi=false:=by cases v <;> first | rfl | cases e
  rw[this] at q;exact Aw q
 | true=>
 refine Bd ⟨_,rq,KD e ⟨_,rq,_,rq,?_⟩⟩;cases v with
 | bl b=>exact Aw q
 | int x=>
  have q:Q (.bl (decide (lo<=x)&&decide (x<=hi))) H:=q;refine Bd ⟨_,rq,_,rq,_,_,rq,rq,_,rq,?_⟩;by_cases h1:lo<=x
  ·rw[Qba h1];rw[Qba h1,Qbc] at q;exact Bd ⟨_,rq,_,_,rq,rq,q⟩
  ·rw[QaP h1];rw[QaP h1,Bool.false_and] at q;exact Aw q
 | _=>cases e
theorem O9 (C:Code K mg "_law_is_name" Ir Ei) (T:Tc mg):Good P w K mg base "_law_is_name" 1 Ei (DY nameP):=by
 refine C.good OD (λvs H Q E h=>?_) (λf cdv A outer s H vs Q E hr h=>?_)
 ·obtain⟨v,d,rfl,_⟩:=h;rfl
 obtain⟨v,d,rfl,rd,fit,q⟩:=h;refine⟨_,(Ad (Bj (PW.pt (Ea (BJ (Bt (Ao BW rfl T.isinstance Bk (Aa (pv 0) (Aa (Cg (v:=.ty "str") rfl T.str Jd rfl) Ac))))) (Ek (BJ (O2 Hs Hs Ab (Ao Ii rfl T.len Ci (Aa (pv 0) Ac)) Ab))))) (Af (Ak Cw)) Av)
 (Af (Ak (Cu HW Cw (Hv (N':=["_law_sign"]) rfl (Dc.plain rfl (by trivial) (by trivial) (by trivial)) (O5 (pv 0)) (λ_ _ _ _=>(Cd (i:=0) (show List.Nodup (["_law_sign"]:YF) by trivial) rfl (Or.inl rfl))) (λ_ _ _ _=>JM) (λ_ _ _ _=>(Cu M5 (pv 0) Ai (by with_unfolding_all rfl)))) (by with_unfolding_all rfl))))),?_⟩
 show let R0:TS:=_;Am _ R0 _ _ _;intro R0;refine⟨_,rq,Ec rd.kn ⟨_,rq,?_⟩⟩;cases rd with
 | str z=>
  have q:∀H',Same H H'->Q (.bl ((decide ((1:Int)<=z.length)&&decide ((z.length:Int)<=8))&&z.cps.toList.all Mz)) H':=q;have z9:z.length<=900:=fit.Yn;refine Aw ⟨_,rq,z,rq,Ar (by show z.length<=1000;omega),_,_,rq,rq,_,rq,?_⟩;by_cases g1:(1:Int)<=(z.length:Int)
  ·rw[Qba (show (0:Int) < (z.length:Int) by omega)];rw[Qba g1,Qbc] at q;refine Bd ⟨_,_,rq,rq,_,rq,?_⟩;by_cases g2:(z.length:Int)<=8
   ·rw[Qba (show (z.length:Int) < 9 by omega)];rw[Qba g2,Qbc] at q;refine Aw ⟨_,rq,z,rq,λl hl'=>?_⟩;let J0:YN:=λi U HH=>∃u,U=[u]/\HH l=some (.lst (((z.cps.toList.take i).map Mz).map V.bl))/\Same H HH;refine KY J0 ⟨_,rq,Ae,Ag hl' _⟩ (λi c U HH hc h=>?_) (fun U HH h=>?_)
    ·obtain⟨u,rfl,e1,e2⟩:=h;have hi:i < z.cps.size:=(Qac.mp hc).1;have hz:z.cps.size<=900:=z9;have hcl:z.cps.toList[i]?=some c:=by rw[Qak];exact hc
     unfold Gd;dsimp only;refine Bd ⟨_,rq,_,_,rq,rq,_,e1,Ck (by simp;omega),_,rq,?_,e2.FN Ah.upd hl'⟩;rw[Ae,take_snoc hcl,QaT,QaT];rfl
    ·obtain⟨u,rfl,e1,e2⟩:=h;have el:z.cps.size=z.cps.toList.length:=Qap.symm;rw[el,QaN] at e1;refine⟨l,_,rq,.inl (SqL.of e1),rq,V2 _,?_⟩;show Q (.bl (!inV (.bl false) ((z.cps.toList.map Mz).map V.bl))) HH;rw[Ur,all_map];exact q _ e2
   ·rw[QaP (show ¬(z.length:Int) < 9 by omega)];rw[QaP g2] at q;exact Bd (q _ (Same.refl _))
  ·rw[QaP (show ¬(0:Int) < (z.length:Int) by omega)];rw[QaP g1] at q;exact Aw ⟨_,rq,Bd (q _ (Same.refl _))⟩
 | _=>exact Bd (q _ (Same.refl _))
theorem RV (c:Code K mg "_law_counted" Iu Df) (T:Tc mg) (PB:Good P w K mg base "_law_is" 1 Jb Vo) (IK:Good P w K mg base "_law_is_name" 1 Ei (DY nameP)):∀k,Good P w K mg base "_law_counted" (2+k) Df (Ot k):=by
 have step:∀(D k':Nat) (sp':Sp),(∀e,e+1<=D->∀vs H Q E,Wv e vs H Q E->sp' vs H Q E)->Good P w K mg base "_law_counted" k' Df sp'->1<=k'->Good P w K mg base "_law_counted" (k'+1) Df (Ot D):=λD k' sp' hsp Fb hk1=>by
  have sc:=BR;refine c.good BR (λvs H Q E h=>?_) (λf cdv A outer s H vs Q E hr h=>?_)
  ·obtain⟨n,hn,v,d,h6,rfl,_⟩:=h;rfl
  obtain⟨n,hn,v,d,h6,rfl,rd,fit,q⟩:=h;refine⟨_,(@Ad _ _ _ _ _ (@Bg _ _ 2 _ _ _ _ BR.nd rfl (Or.inl rfl) (@Q8 _ _ _ _ _ (@CV _ _ _ _ _ _ _ _ _ (@Ai _ _ _ _) (@Ai _ _ _ _) (@CV _ _ _ _ _ _ _ _ _ (@Ai _ _ _ _) (@Ai _ _ _ _) (@CV _ _ _ _ _ _ _ _ _ (@Ai _ _ _ _) (@Ai _ _ _ _) (@CV _ _ _ _ _ _ _ _ _ (@Ai _ _ _ _) (@Ai _ _ _ _) (@CV _ _ _ _ _ _ _ _ _ (@Ai _ _ _ _) (@Ai _ _ _ _) (@CV _ _ _ _ _ _ _ _ _ (@Ai _ _ _ _) (@Ai _ _ _ _) (@CV _ _ _ _ _ _ _ _ _ (@Ai _ _ _ _) (@Ai _ _ _ _) (@CV _ _ _ _ _ _ _ _ _ (@Ai _ _ _ _) (@Ai _ _ _ _) Q6)))))))) rfl rfl (λh=>by cases h) (by decide)) (by rfl) (by first | exact .inl rfl | exact .inr rfl))
 (@Ad _ _ _ _ _ (Bj (PW.pt (Ea (Bc Jq (pv 1) Ab (Bb _)) (Ea (BJ (Bt (Ao BW rfl T.isinstance Bk (Aa (pv 0) (Aa (Cg (v:=.ty "tuple") rfl T.tuple Fj rfl) Ac))))) (Ea (Bc Dd (Ao Bp rfl T.len Ci (Aa (pv 0) Ac)) Ab (Bb _)) (Ek (BJ (Bt (Ao BW rfl T.isinstance Bk (Aa (@Ay _ _ _ _ _ _ _ Bq (pv 0) Ab (λ_ _=>rfl)) (Aa (Cg (v:=.ty "str") rfl T.str Jd rfl) Ac)))))))))) (@Af _ _ _ (@Ak _ _ _ _ Ab)) Av)
 (@Ad _ _ _ _ _ (Bj (PW.pt (Ea (T4 (T9 (Kf hr) (@Ay _ _ _ _ _ _ _ Bq (pv 0) Ab (λ_ _=>rfl)) (pv 2))) (Ek (Bc WL (Ao Ii rfl T.len Ci (Aa (Kd (Kf hr) (pv 2) (@Ay _ _ _ _ _ _ _ Bq (pv 0) Ab (λ_ _=>rfl)) (λ_ _=>rfl)) Ac)) (@Aq _ _ _ _ _ _ _ _ Eh (Ao Bp rfl T.len Ci (Aa (pv 0) Ac)) Ab) (Bb _))))) (@Af _ _ _ (@Ak _ _ _ _ Ab)) Av)
 (@Ad _ _ _ _ _ (@Bg _ _ 3 _ _ _ _ BR.nd rfl (Or.inl rfl) (@Q8 _ _ _ _ _ (@CV _ _ _ _ _ _ _ _ _ (@Ai _ _ _ _) (Bx (Aa Ab (Aa Ab Ac))) (@CV _ _ _ _ _ _ _ _ _ (@Ai _ _ _ _) (Bx (Aa Ab (Aa Ab Ac))) (@CV _ _ _ _ _ _ _ _ _ (@Ai _ _ _ _) (Bx (Aa Ab (Aa Ab Ac))) (@CV _ _ _ _ _ _ _ _ _ (@Ai _ _ _ _) (Bx (Aa Ab (Aa Ab Ac))) Q6)))) rfl rfl (λh=>by cases h) (by decide)) (by rfl) (by first | exact .inl rfl | exact .inr rfl))
 (@Ad _ _ _ _ _ (@Bg _ _ 4 _ _ _ _ BR.nd rfl (Or.inl rfl) Ab (by rfl) (by first | exact .inl rfl | exact .inr rfl))
 (@Ad _ _ _ _ _ (GK QaW rfl (Xc rfl T.zip (Aa (Kd (Kf hr) (pv 2) (@Ay _ _ _ _ _ _ _ Bq (pv 0) Ab (λ_ _=>rfl)) (λ_ _=>rfl)) (Aa (Dv Gf (pv 0) (Dh Ab) Ft) Ac))) (Yz rfl (O6 (Cd (i:=5) BR.nd rfl (Or.inl rfl)) (O6 (Cd (i:=6) BR.nd rfl (Or.inl rfl)) Xe)))
 (@Af _ _ _ (Bj (Bc Dd (pv 5) Ai (Bb _)) (@Af _ _ _ (@Bg _ _ 4 _ _ _ _ BR.nd rfl (Or.inl rfl) (@Aq _ _ _ _ _ _ _ _ Ca (pv 4) (Al (hk:=(Qbm _)) Fb hr (Aa (pv 6) (Aa (@Aq _ _ _ _ _ _ _ _ Ca (pv 1) Ab) Ac)))) (by rfl) (by first | exact .inl rfl | exact .inr rfl))) (@Af _ _ _ (Bj (PW.pt (FT (Bc Dd (pv 5) Ai (Bb _)) (Fq (BJ (Bt (Al (hk:=hk1) IK hr (Aa (pv 6) Ac))))))) (@Af _ _ _ (@Bg _ _ 4 _ _ _ _ BR.nd rfl (Or.inl rfl) (@Aq _ _ _ _ _ _ _ _ Ca (pv 4) Ab) (by rfl) (by first | exact .inl rfl | exact .inr rfl))) (@Af _ _ _ (Bj (PW.pt (FT (T4 (YT (Kf hr) (pv 5) (pv 3))) (Fq (BJ (Bt (Al (hk:=hk1) PB hr (Aa (pv 6) (Aa (@Ay _ _ _ _ _ _ _ Bq (Kd (Kf hr) (pv 3) (pv 5) (λ_ _=>rfl)) Ab (λ_ _=>rfl)) (Aa (@Ay _ _ _ _ _ _ _ Bq (Kd (Kf hr) (pv 3) (pv 5) (λ_ _=>rfl)) Ab (λ_ _=>rfl)) Ac))))))))) (@Af _ _ _ (@Bg _ _ 4 _ _ _ _ BR.nd rfl (Or.inl rfl) (@Aq _ _ _ _ _ _ _ _ Ca (pv 4) Ab) (by rfl) (by first | exact .inl rfl | exact .inr rfl))) Av)))))))
 (@Af _ _ _ (@Ak _ _ _ _ (pv 4))))))))),?_⟩
  show let R0:TS:=_;let R1:TS:=_;let R2:TS:=_;let R3:TS:=BX _ R2 _;let R4:TS:=BX _ R1 R3;let R5:TS:=BX _ R0 R4;let R6:TS:=Am (Jg _ _ R5) _;let R7:TS:=Am _ R6;let R8:TS:=Am _ R7;let R9:TS:=Am _ R8;let R10:TS:=Am _ R9;Am _ R10 _ _ _;intro R0 R1 R2 R3 R4 R5 R6 R7 R8 R9 R10;refine λpf hpf=>⟨Ae,Ju,rq,by decide,?_⟩;have spf:Same H (upd (upd H pf (.dK [])) pf (.dK (CK [] Ju))):=(Ag hpf _).FN Ah.upd hpf;have cpf:upd (upd H pf (.dK [])) pf (.dK (CK [] Ju)) pf=some (.dK Ju):=by rw[Ae,Xw]
  generalize upd (upd H pf (.dK [])) pf (.dK (CK [] Ju))=H1 at *;have rd1:=Rep.same spf rd;refine⟨_,rq,_,_,rq,rq,_,rq,Iz (λh7=>?_) (λh7=>?_)⟩
  ·have h7:(6:Int) < 7 - (n:Int):=QaD h7;obtain rfl:n=0:=by omega
   exact q _ spf
  have h7:¬(6:Int) < 7 - (n:Int):=QaB h7;obtain⟨m,rfl⟩ : ∃m,n=m+1:=⟨n - 1,by omega⟩;refine⟨_,rq,Fx rd1.kn ⟨_,rq,?_⟩⟩;rcases Kc rd1 with⟨t,xs,ds,rfl,rfl,ht,rs,et⟩|⟨et,hn'⟩
  ·rw[et];refine Aw ⟨_,rq,t,_,rq,.inr (SqT.of ht),rq,_,rq,ifN (λh0=>?_) (λh0=>?_)⟩
   ·have:xs=[]:=by
     cases xs with
     | nil=>rfl
     | cons a b=>rw[QaJ] at h0;omega
    subst this;cases rs;rw[Lr (λz r e=>by cases e)] at q;exact q _ spf
   cases rs with
   | nil=>exact absurd rfl h0
   | @cons x0 k xr r rk rs=>
   refine⟨_,rq,t,_,_,_,rq,rq,SqT.of ht,Bf (j:=0) rfl,Ec rk.kn ⟨_,rq,?_⟩⟩;cases rk with
   | str z=>
    have lr:=Ax.len rs;have len1:(((V.str z::xr).length:Nat):Int)=(r.length:Int)+1:=by rw[QaJ,lr];omega
    have q:∀H',Same H H'->Q (.int (match Ez z with | none=>1000 | some f=>if f.cps.size=r.length then 1+Ge (BL m) f r else 1000)) H':=q
    have hdg:=Fo.k (k:=.inr z) cpf;rw[Wj] at hdg;refine Aw ⟨_,rq,t,_,_,_,rq,rq,SqT.of ht,Bf (j:=0) rfl,_,rq,pf,_,rq,hdg,_,rq,?_⟩;cases ef:Ez z with
    | none=>rw[ef] at q;exact Bd (q _ spf)
    | some fm=>
    rw[ef] at q hdg;have q:∀H',Same H H'->Q (.int (if fm.cps.size=r.length then 1+Ge (BL m) fm r else 1000)) H':=q
    have okf:=Rk ef;unfold okF at okf;rw[QaI,QaI] at okf;obtain⟨fa,f3,fc⟩:=okf;have f3:=QaD f3;refine Aw ⟨_,rq,_,rq,t,_,_,_,rq,rq,SqT.of ht,Bf (j:=0) rfl,pf,_,rq,hdg,fm,rq,Ar (by show fm.cps.size<=1000;omega),_,rq,t,_,rq,.inr (SqT.of ht),_,_,rq,rq,rq,_,rq,?_⟩;by_cases hl:¬fm.cps.size=r.length
    ·rw[if_neg hl] at q;have e:decide (V.int (fm.length:Int)=V.int ((((V.str z::xr).length:Nat):Int) - 1))=false:=QaP (λzz=>by
      injection zz with zz;rw[len1] at zz;have zz:(fm.cps.size:Int)=(r.length:Int)+1 - 1:=zz;omega)
     show if (!decide (V.int (fm.length:Int)=V.int ((((V.str z::xr).length:Nat):Int) - 1)))=true then _ else _
     rw[e];exact Bd (q _ spf)
    have hl:fm.cps.size=r.length:=by omega
    rw[if_pos hl] at q;refine WR (by
     congr 1;rw[len1];show (fm.cps.size:Int)=(r.length:Int)+1 - 1;omega) ?_
    refine λpb hpb=>⟨Ar (by show 2<=1000;decide),λp1 h1=>⟨Ar (by show 2<=1000;decide),λp2 h2=>⟨Ar (by show 2<=1000;decide),λp3 h3=>⟨Ar (by show 2<=1000;decide),λp4 h4=>?_⟩⟩⟩⟩;have k0:=Ag hpb (.dK []);have k1:=Ag h1 (.tup [.int 1,.int 9]);have k2:=Ag h2 (.tup [.int 0,.int 9]);have k3:=Ag h3 (.tup [.int 0,.int 23]);have k4:=Ag h4 (.tup [.int 1,.int 20]);have k04:=k0.trans (k1.trans (k2.trans (k3.trans k4)));have Zx:=k4 _ _ (k3 _ _ (k2 _ _ (k1 _ _ (Ae (H:=H1) (a:=pb) (o:=.dK [])))));have d1:=k4 _ _ (k3 _ _ (k2 _ _ (Ae (H:=upd H1 pb (.dK [])) (a:=p1) (o:=.tup [.int 1,.int 9]))));have d2:=k4 _ _ (k3 _ _ (Ae (H:=upd (upd H1 pb (.dK [])) p1 (.tup [.int 1,.int 9])) (a:=p2) (o:=.tup [.int 0,.int 9])));have d3:=k4 _ _ (Ae (H:=upd (upd (upd H1 pb (.dK [])) p1 (.tup [.int 1,.int 9])) p2 (.tup [.int 0,.int 9])) (a:=p3) (o:=.tup [.int 0,.int 23]));have d4:=Ae (H:=upd (upd (upd (upd H1 pb (.dK [])) p1 (.tup [.int 1,.int 9])) p2 (.tup [.int 0,.int 9])) p3 (.tup [.int 0,.int 23])) (a:=p4) (o:=.tup [.int 1,.int 20]);generalize upd (upd (upd (upd (upd H1 pb (.dK [])) p1 (.tup [.int 1,.int 9])) p2 (.tup [.int 0,.int 9])) p3 (.tup [.int 0,.int 23])) p4 (.tup [.int 1,.int 20])=HB at *;refine⟨Zx,Et p1 p2 p3 p4,rq,(by show 4<=15;decide),?_⟩;have ne:∀{p:Addr} {l:YG},HB p=some (.tup l)->p≠pb:=λh e=>by rw[e,Zx] at h;cases h
    have s2:Same H1 (upd HB pb (.dK (CK [] (Et p1 p2 p3 p4)))):=k04.FN Ah.upd hpb;have cpb:upd HB pb (.dK (CK [] (Et p1 p2 p3 p4))) pb=some (.dK (Et p1 p2 p3 p4)):=by rw[Ae,Xx]
    have d1:upd HB pb (.dK (CK [] (Et p1 p2 p3 p4))) p1=some (.tup [.int 1,.int 9]):=by rw[Bo (ne d1)];exact d1
    have d2:upd HB pb (.dK (CK [] (Et p1 p2 p3 p4))) p2=some (.tup [.int 0,.int 9]):=by rw[Bo (ne d2)];exact d2
    have d3:upd HB pb (.dK (CK [] (Et p1 p2 p3 p4))) p3=some (.tup [.int 0,.int 23]):=by rw[Bo (ne d3)];exact d3
    have d4:upd HB pb (.dK (CK [] (Et p1 p2 p3 p4))) p4=some (.tup [.int 1,.int 20]):=by rw[Bo (ne d4)];exact d4
    generalize upd HB pb (.dK (CK [] (Et p1 p2 p3 p4)))=H2 at *;have ht2:=s2 _ _ ht;have dG:=s2 _ _ cpf;have Zi:=Fo.k (k:=.inr z) dG;rw[Wj,ef] at Zi;refine⟨_,rq,_,rq,t,_,_,_,rq,rq,SqT.of ht2,Bf (j:=0) rfl,pf,_,rq,Zi,_,rq,_,rq,t,_,rq,ht2,λp5 H5 hp5 s5=>⟨fm,p5,rq,fa,⟨_,hp5⟩,?_⟩⟩;rw[UW] at hp5;have s05:=spf.trans (s2.trans s5);have s15:=s2.trans s5;refine V1 (x:=fm) (b:=p5) (ys:=xr) (by omega) (λi U HH=>∃(u5 u6:Option V),U=[jd t,some (.int (7 - ((m+1:Nat):Int))),jd pf,jd pb,some (.int (1+(((fm.cps.toList.zip r).take i).map λp=>Bw (BL m) p.1 p.2).sum)),u5,u6]/\Same H5 HH) ⟨_,_,rq,Same.refl _⟩ (λi U HH _ h=>?_) (λi ch y pp U HH hc hy h hpp=>?_) (fun U HH h=>?_)
    ·obtain⟨u5,u6,rfl,sH⟩:=h;exact sH _ _ hp5
    ·obtain⟨u5,u6,rfl,sH⟩:=h;obtain⟨dy,hdy,ry⟩:=Ax.at_ rs hy;have fdy:Fit 64 dy:=fit.item' (Qal _ (Qam hdy));have hcl:fm.cps.toList[i]?=some ch:=by rw[Qak];exact hc
     have zc:(fm.cps.toList.zip r)[i]?=some (ch,dy):=List.getElem?_zip_eq_some.mpr ⟨hcl,hdy⟩;have Sn:(((fm.cps.toList.zip r).take (i+1)).map λp=>Bw (BL m) p.1 p.2).sum=(((fm.cps.toList.zip r).take i).map λp=>Bw (BL m) p.1 p.2).sum+Bw (BL m) ch dy:=by
      rw[take_snoc zc,QaT,List.sum_append];simp
     refine⟨pp,_,rq,SqT.of Ae,rq,_,_,rq,_,_,rq,rq,?_⟩;have spp:=sH.trans (Ag hpp (.tup [.str ⟨#[ch]⟩,y]));generalize upd HH pp (.tup [.str ⟨#[ch]⟩,y])=H6 at *;have ry6:Rep H6 y dy:=Rep.same (s15.trans spp) ry;rw[Sn];generalize (((fm.cps.toList.zip r).take i).map λp=>Bw (BL m) p.1 p.2).sum=S at *;have chs:ch=110\/ch=107\/ch=104\/ch=98\/ch=99\/ch=122:=QaD (QaM.mp fc ch (Qam hcl));have one:∀{a b:Nat},(⟨#[a]⟩ : Str)=⟨#[b]⟩->a=b:=λe=>by injection e with e;simpa using e
     refine⟨_,rq,rq,_,rq,ifS (λe=>?_) (λe=>?_)⟩
     ·have e99:ch=99:=one (e.trans Wy);subst e99;refine⟨_,rq,_,rq,_,rq,_,_,rq,rq,hsp m (by omega) _ _ _ _ ⟨y,dy,by omega,?_,ry6,fdy,λH7 s7=>⟨_,_,rq,rq,some (.str ⟨#[99]⟩),some y,?_,spp.trans s7⟩⟩⟩
      ·show [y,V.int (7 - ((m+1:Nat):Int)+1)]=_;rw[show (7 - ((m+1:Nat):Int)+1)=7 - (m:Int) by omega]
      ·show [_,_,_,_,some (V.int (1+S+BL m dy)),_,_]=[_,_,_,_,some (V.int (1+(S+BL m dy))),_,_];rw[Int.add_assoc]
     have n99:ch≠99:=λz=>e (by rw[z];exact Wy.symm);refine⟨_,rq,rq,_,rq,ifS (λe2=>?_) (λe2=>?_)⟩
     ·have dD:ch=122:=one (e2.trans Wx);subst dD;have hpc:Bw (BL m) 122 dy=if nameP dy=true then 0 else 1000:=rfl
      rw[hpc];refine⟨_,rq,y,dy,rq,ry6,fdy,λH7 s7=>⟨_,rq,?_⟩⟩;cases en:nameP dy with
      | false=>
       refine Bd ⟨_,rq,_,_,rq,rq,some (.str ⟨#[122]⟩),some y,?_,spp.trans s7⟩;show [_,_,_,_,some (V.int (1+S+1000)),_,_]=[_,_,_,_,some (V.int (1+(S+if false=true then 0 else 1000))),_,_]
       rw[if_neg (by decide),Int.add_assoc]
      | true=>
       have hb:=Fo.k (k:=.inr ⟨#[122]⟩) (((s5.trans spp).trans s7) _ _ cpb);rw[X8] at hb;refine Aw ⟨_,rq,_,rq,pb,_,rq,hb,_,rq,Aw ⟨some (.str ⟨#[122]⟩),some y,?_,spp.trans s7⟩⟩;show [_,_,_,_,some (V.int (1+S)),_,_]=[_,_,_,_,some (V.int (1+(S+if true=true then 0 else 1000))),_,_]
       rw[if_pos rfl,Int.add_zero]
     have Y5:ch≠122:=λz=>e2 (by rw[z];exact Wx.symm);have s56:=s5.trans spp;obtain⟨pi,lo,hi,hv,hpi,hbn⟩ : ∃pi lo hi,DN (Et p1 p2 p3 p4) (.inr ⟨#[ch]⟩)=some (.ref pi)/\H6 pi=some (.tup [.int lo,.int hi])/\bnd ch=some (lo,hi):=by
      rcases chs with rfl | rfl | rfl | rfl | h | h
      ·exact⟨p1,1,9,Ye ..,s56 _ _ d1,rq⟩
      ·exact⟨p2,0,9,Yd ..,s56 _ _ d2,rq⟩
      ·exact⟨p3,0,23,Yc ..,s56 _ _ d3,rq⟩
      ·exact⟨p4,1,20,Yb ..,s56 _ _ d4,rq⟩
      ·exact absurd h n99
      ·exact absurd h Y5
     have hpc:Bw (BL m) ch dy=if wiP dy lo hi=true then 0 else 1000:=by
      unfold Bw;rw[if_neg n99,if_neg Y5,hbn]
     rw[hpc];have hb:=Fo.k (k:=.inr ⟨#[ch]⟩) (s56 _ _ cpb);rw[hv] at hb;refine⟨_,rq,_,rq,pb,_,rq,hb,_,rq,Bd ⟨_,rq,_,rq,_,rq,pb,_,rq,hb,pi,_,_,_,rq,rq,SqT.of hpi,Bf (j:=0) rfl,_,rq,_,rq,pb,_,rq,hb,pi,_,_,_,rq,rq,SqT.of hpi,Bf (j:=1) rfl,y,lo,hi,rq,ry6.kn,_,rq,?_⟩⟩;rw[GC ry6];cases ew:wiP dy lo hi with
     | false=>
      refine Bd ⟨_,rq,_,_,rq,rq,some (.str ⟨#[ch]⟩),some y,?_,spp⟩;show [_,_,_,_,some (V.int (1+S+1000)),_,_]=[_,_,_,_,some (V.int (1+(S+if false=true then 0 else 1000))),_,_]
      rw[if_neg (by decide),Int.add_assoc]
     | true=>
      refine Aw ⟨some (.str ⟨#[ch]⟩),some y,?_,spp⟩;show [_,_,_,_,some (V.int (1+S)),_,_]=[_,_,_,_,some (V.int (1+(S+if true=true then 0 else 1000))),_,_]
      rw[if_pos rfl,Int.add_zero]
    ·obtain⟨u5,u6,rfl,sH⟩:=h;have:(fm.cps.toList.zip r).take xr.length=fm.cps.toList.zip r:=List.take_of_length_le (by rw[List.length_zip,Qap];omega);refine⟨_,rq,?_⟩;rw[this];exact q _ (s05.trans sH)
   | _=>
    have q:=q _ spf;rw[Lr (λz r e=>by cases e)] at q;exact Bd q
  ·rw[et];rw[Lr (λz r e=>hn' _ e)] at q;exact Bd (q _ spf)
 intro k
 induction k with
 | zero=>exact step 0 1 (λ_ _ _ _=>False) (λe he=>absurd he (by omega)) (c.good BR (λvs H Q E h=>h.elim) (λf cdv A outer s H vs Q E hr h=>h.elim)) (Qbm _)
 | succ e ih=>exact step (e+1) (2+e) (Ot e) (λd hd vs H Q E h=>⟨d,by omega,h⟩) ih (by omega)
end
abbrev HD:Stmt:=top 27
abbrev En:YF:=Ei
theorem Jw:Bm ["_law_thing","_law_row"] En (Aj HD):=by ac_rfl
theorem Dn {z y:Str} (h:z≠y):¬eqS (.str z) y=true:=by rw[Cj h];decide
theorem ZC {z:Str} (h1:z≠"and") (h2:z≠"or"):¬aoP (.str z)=true:=λh=>by
 rcases Je.mp h with e | e
 ·exact h1 (by injection e)
 ·exact h2 (by injection e)
theorem SM {z:Str} (h1:z≠"and") (h2:z≠"or") (h3:z≠"then"):¬Gn (.str z)=true:=λh=>by
 have h:inV (.str z) [.str "and",.str "or",.str "then"]=true:=h;simp only[inV,Qbf,List.any_nil,Bool.or_false,Bool.or_eq_true] at h;rcases h with h | h | h
 ·exact h1 (Es h).symm
 ·exact h2 (Es h).symm
 ·exact h3 (Es h).symm
def Wd (z f:Str) (r:List PyData):Prop:=(BP (.str z) r=true->f.cps.size=r.length/\∀g:PyData->Int,Ge g f r=((Dq (.tuple (.str z::r))).map g).sum)/\(BP (.str z) r=false->f.cps.size=r.length->∀g:PyData->Int,(∀x,0<=g x)->1000<=Ge g f r)
theorem Dt {f:Str} {l:List Nat} (h:f.cps.toList=l) (g:PyData->Int) (r:List PyData):Ge g f r=((l.zip r).map λp=>Bw g p.1 p.2).sum:=by
 unfold Ge;rw[h]
theorem pz (g:PyData->Int) (p:PyData):Bw g 122 p=if nameP p=true then 0 else 1000:=rfl
theorem pn (g:PyData->Int) (p:PyData):Bw g 110 p=if wiP p 1 9=true then 0 else 1000:=rfl
theorem pk (g:PyData->Int) (p:PyData):Bw g 107 p=if wiP p 0 9=true then 0 else 1000:=rfl
theorem ph (g:PyData->Int) (p:PyData):Bw g 104 p=if wiP p 0 23=true then 0 else 1000:=rfl
theorem pb (g:PyData->Int) (p:PyData):Bw g 98 p=if wiP p 1 20=true then 0 else 1000:=rfl
theorem aF (r:List PyData):Wd "of" "nz" r:=by
 have e:BP (.str "of") r=ofR r:=by unfold BP;rw[if_pos (Dm _)]
 have i:Dq (.tuple (.str "of"::r))=[]:=by
  show (if eqS (.str "of") "not"=true then r.take 1 else if Gn (.str "of")=true then r.take 2 else [])=[]
  rw[if_neg (Dn (by trivial)),if_neg (SM (by trivial) (by trivial) (by trivial))]
 unfold Wd;rw[e,i];have sz:(Str.ofString "nz").cps.size=2:=by trivial
 have fl:(Str.ofString "nz").cps.toList=[110,122]:=by trivial
 refine⟨λh=>?_,λh hs g gn=>?_⟩
 ·match r,h with
  | [n,z],h=>
   have h:(wiP n 1 9&&nameP z)=true:=h;rw[QaI] at h;refine⟨sz,λg=>?_⟩;rw[Dt fl];show Bw g 110 n+(Bw g 122 z+0)=0;rw[pn,pz,if_pos h.1,if_pos h.2];rfl
  | [],h=>cases h
  | [_],h=>cases h
  | _::_::_::_,h=>cases h
 ·rw[sz] at hs
  match r,hs,h with
  | [n,z],_,h=>
   have h:(wiP n 1 9&&nameP z)=false:=h;rw[Dt fl];show 1000<=Bw g 110 n+(Bw g 122 z+0);rw[pn,pz];cases e1:wiP n 1 9 <;> cases e2:nameP z <;> rw[e1,e2] at h <;> first | decide | cases h
theorem X6 (r:List PyData):Wd "term" "z" r:=by
 have e:BP (.str "term") r=JZ r:=by unfold BP;rw[if_neg (Dn (by trivial)),if_pos (Dm _)]
 have i:Dq (.tuple (.str "term"::r))=[]:=by
  show (if eqS (.str "term") "not"=true then r.take 1 else if Gn (.str "term")=true then r.take 2 else [])=[]
  rw[if_neg (Dn (by trivial)),if_neg (SM (by trivial) (by trivial) (by trivial))]
 unfold Wd;rw[e,i];have sz:(Str.ofString "z").cps.size=1:=by trivial
 have fl:(Str.ofString "z").cps.toList=[122]:=by trivial
 refine⟨λh=>?_,λh hs g gn=>?_⟩
 ·match r,h with
  | [z],h=>
   have h:nameP z=true:=h;refine⟨sz,λg=>?_⟩;rw[Dt fl];show Bw g 122 z+0=0;rw[pz,if_pos h];rfl
  | [],h=>cases h
  | _::_::_,h=>cases h
 ·rw[sz] at hs
  match r,hs,h with
  | [z],_,h=>
   have h:nameP z=false:=h;rw[Dt fl];show 1000<=Bw g 122 z+0;rw[pz,h]
   decide
theorem w_not (r:List PyData):Wd "not" "c" r:=by
 have e:BP (.str "not") r=decide (r.length=1):=by unfold BP;rw[if_neg (Dn (by trivial)),if_neg (Dn (by trivial)),if_pos (Dm _)]
 have i:Dq (.tuple (.str "not"::r))=r.take 1:=by
  show (if eqS (.str "not") "not"=true then r.take 1 else if Gn (.str "not")=true then r.take 2 else [])=_
  rw[if_pos (Dm _)]
 unfold Wd;rw[e,i];have sz:(Str.ofString "c").cps.size=1:=by trivial
 have fl:(Str.ofString "c").cps.toList=[99]:=by trivial
 refine⟨λh=>?_,λh hs g gn=>?_⟩
 ·have h:=QaD h
  match r,h with
  | [z],h=>
   refine⟨sz,λg=>?_⟩;rw[Dt fl];rfl
 ·rw[sz] at hs;exact absurd hs.symm (QaB h)
theorem X7 {w:Str} (hw:w="and"\/w="or") (r:List PyData):Wd w "cc" r:=by
 have n1:w≠"of":=by rcases hw with rfl | rfl <;> decide +kernel
 have n2:w≠"term":=by rcases hw with rfl | rfl <;> decide +kernel
 have n3:w≠"not":=by rcases hw with rfl | rfl <;> decide +kernel
 have a1:aoP (.str w)=true:=by rcases hw with rfl | rfl <;> decide +kernel
 have a2:Gn (.str w)=true:=by rcases hw with rfl | rfl <;> decide +kernel
 have e:BP (.str w) r=decide (r.length=2):=by unfold BP;rw[if_neg (Dn n1),if_neg (Dn n2),if_neg (Dn n3),if_pos a1]
 have i:Dq (.tuple (.str w::r))=r.take 2:=by
  show (if eqS (.str w) "not"=true then r.take 1 else if Gn (.str w)=true then r.take 2 else [])=_
  rw[if_neg (Dn n3),if_pos a2]
 unfold Wd;rw[e,i];have sz:(Str.ofString "cc").cps.size=2:=by trivial
 have fl:(Str.ofString "cc").cps.toList=[99,99]:=by trivial
 refine⟨λh=>?_,λh hs g gn=>?_⟩
 ·have h:=QaD h
  match r,h with
  | [a,b],h=>
   refine⟨sz,λg=>?_⟩;rw[Dt fl];rfl
 ·rw[sz] at hs;exact absurd hs.symm (QaB h)
theorem X5 (r:List PyData):Wd "then" "ccb" r:=by
 have a2:Gn (.str "then")=true:=by trivial
 have e:BP (.str "then") r=Hl r:=by
  unfold BP;rw[if_neg (Dn (by trivial)),if_neg (Dn (by trivial)),if_neg (Dn (by trivial)),if_neg (ZC (by trivial) (by trivial)),if_pos (Dm _)]
 have i:Dq (.tuple (.str "then"::r))=r.take 2:=by
  show (if eqS (.str "then") "not"=true then r.take 1 else if Gn (.str "then")=true then r.take 2 else [])=_
  rw[if_neg (Dn (by trivial)),if_pos a2]
 unfold Wd;rw[e,i];have sz:(Str.ofString "ccb").cps.size=3:=by trivial
 have fl:(Str.ofString "ccb").cps.toList=[99,99,98]:=by trivial
 refine⟨λh=>?_,λh hs g gn=>?_⟩
 ·match r,h with
  | [a,b,c],h=>
   have h:wiP c 1 20=true:=h;refine⟨sz,λg=>?_⟩;rw[Dt fl];show g a+(g b+(Bw g 98 c+0))=g a+(g b+0);rw[pb,if_pos h];rfl
  | [],h=>cases h
  | [_],h=>cases h
  | [_,_],h=>cases h
  | _::_::_::_::_,h=>cases h
 ·rw[sz] at hs
  match r,hs,h with
  | [a,b,c],_,h=>
   have h:wiP c 1 20=false:=h;rw[Dt fl];show 1000<=g a+(g b+(Bw g 98 c+0));rw[pb,h];have:=gn a;have:=gn b;show (1000:Int)<=g a+(g b+(1000+0));omega
theorem Mf {w:Str} (h1:w≠"of") (h2:w≠"term") (h3:w≠"not") (h4:w≠"and") (h5:w≠"or") (h6:w≠"then") (r:List PyData):BP (.str w) r=Dk (.tuple (.str w::r))/\Dq (.tuple (.str w::r))=[]:=by
 constructor
 ·unfold BP;rw[if_neg (Dn h1),if_neg (Dn h2),if_neg (Dn h3),if_neg (ZC h4 h5),if_neg (Dn h6)]
 ·show (if eqS (.str w) "not"=true then r.take 1 else if Gn (.str w)=true then r.take 2 else [])=[]
  rw[if_neg (Dn h3),if_neg (SM h4 h5 h6)]
theorem ZQ (r:List PyData):Wd "key" "k" r:=by
 obtain⟨e,i⟩:=Mf (w:="key") (by trivial) (by trivial) (by trivial) (by trivial) (by trivial) (by trivial) r;unfold Wd;rw[e,i];have sz:(Str.ofString "k").cps.size=1:=by trivial
 have fl:(Str.ofString "k").cps.toList=[107]:=by trivial
 have hk:eqS (.str "key") "hours"=false:=Cj (by trivial);refine⟨λh=>?_,λh hs g gn=>?_⟩
 ·match r,h with
  | [n],h=>
   have h:(eqS (.str "key") "key"&&wiP n 0 9)=true:=h;rw[QaI] at h;refine⟨sz,λg=>?_⟩;rw[Dt fl];show Bw g 107 n+0=0;rw[pk,if_pos h.2];rfl
  | [],h=>cases h
  | [a,b],h=>
   have h:(eqS (.str "key") "hours"&&(wiP a 0 23&&wiP b 0 23))=true:=h;rw[hk] at h;cases h
  | _::_::_::_,h=>cases h
 ·rw[sz] at hs
  match r,hs,h with
  | [n],_,h=>
   have h:(eqS (.str "key") "key"&&wiP n 0 9)=false:=h;rw[Dm,Qbc] at h;rw[Dt fl];show 1000<=Bw g 107 n+0;rw[pk,h]
   decide
theorem W2 (r:List PyData):Wd "hours" "hh" r:=by
 obtain⟨e,i⟩:=Mf (w:="hours") (by trivial) (by trivial) (by trivial) (by trivial) (by trivial) (by trivial) r;unfold Wd;rw[e,i];have sz:(Str.ofString "hh").cps.size=2:=by trivial
 have fl:(Str.ofString "hh").cps.toList=[104,104]:=by trivial
 have hk:eqS (.str "hours") "key"=false:=Cj (by trivial);refine⟨λh=>?_,λh hs g gn=>?_⟩
 ·match r,h with
  | [n],h=>
   have h:(eqS (.str "hours") "key"&&wiP n 0 9)=true:=h;rw[hk] at h;cases h
  | [],h=>cases h
  | [a,b],h=>
   have h:(eqS (.str "hours") "hours"&&(wiP a 0 23&&wiP b 0 23))=true:=h;rw[QaI,QaI] at h;refine⟨sz,λg=>?_⟩;rw[Dt fl];show Bw g 104 a+(Bw g 104 b+0)=0;rw[ph,ph,if_pos h.2.1,if_pos h.2.2];rfl
  | _::_::_::_,h=>cases h
 ·rw[sz] at hs
  match r,hs,h with
  | [a,b],_,h=>
   have h:(eqS (.str "hours") "hours"&&(wiP a 0 23&&wiP b 0 23))=false:=h;rw[Dm,Qbc] at h;rw[Dt fl];show 1000<=Bw g 104 a+(Bw g 104 b+0);rw[ph,ph];cases e1:wiP a 0 23 <;> cases e2:wiP b 0 23 <;> rw[e1,e2] at h <;> first | decide | cases h
theorem WY (z:Str) (r:List PyData):(∀f,Ez z=some f->Wd z f r)/\(Ez z=none->BP (.str z) r=false):=by
 unfold Ez;by_cases h1:z="of"
 ·subst h1;rw[if_pos rfl];exact⟨λf e=>by cases e;exact aF r,λe=>by cases e⟩
 rw[if_neg h1];by_cases h2:z="key"
 ·subst h2;rw[if_pos rfl];exact⟨λf e=>by cases e;exact ZQ r,λe=>by cases e⟩
 rw[if_neg h2];by_cases h3:z="hours"
 ·subst h3;rw[if_pos rfl];exact⟨λf e=>by cases e;exact W2 r,λe=>by cases e⟩
 rw[if_neg h3];by_cases h4:z="term"
 ·subst h4;rw[if_pos rfl];exact⟨λf e=>by cases e;exact X6 r,λe=>by cases e⟩
 rw[if_neg h4];by_cases h5:z="not"
 ·subst h5;rw[if_pos rfl];exact⟨λf e=>by cases e;exact w_not r,λe=>by cases e⟩
 rw[if_neg h5];by_cases h6:z="and"
 ·subst h6;rw[if_pos rfl];exact⟨λf e=>by cases e;exact X7 (.inl rfl) r,λe=>by cases e⟩
 rw[if_neg h6];by_cases h7:z="or"
 ·subst h7;rw[if_pos rfl];exact⟨λf e=>by cases e;exact X7 (.inr rfl) r,λe=>by cases e⟩
 rw[if_neg h7];by_cases h8:z="then"
 ·subst h8;rw[if_pos rfl];exact⟨λf e=>by cases e;exact X5 r,λe=>by cases e⟩
 rw[if_neg h8];refine⟨(λf e=>by cases e),λ_=>?_⟩;rw[(Mf h1 h4 h5 h6 h7 h8 r).1];cases e:Dk (.tuple (.str z::r)) with
 | false=>rfl
 | true=>
  rcases M4 e with e | e
  ·exact absurd (by injection e) h2
  ·exact absurd (by injection e) h3
theorem Xi {g:PyData->Int} (gn:∀x,0<=g x) (c:Nat) (p:PyData):0<=Bw g c p:=by
 unfold Bw;split
 ·exact gn p
 ·split
  ·split <;> decide
  ·split
   ·split <;> decide
   ·decide
theorem J3 {α : Type} {f:α->Int} (h:∀x,0<=f x):∀l:List α,0<=(l.map f).sum
 | []=>Int.le_refl _
 | x::r=>by
  rw[Qbd,List.sum_cons];have:=h x;have:=J3 h r;omega
theorem JX:∀(n:Nat) (d:PyData),0<=BL n d
 | 0,_=>(by show (0:Int)<=1000;decide)
 | n+1,d=>by
  unfold BL;split
  ·split
   ·decide
   ·split
    ·refine Int.add_nonneg (by decide) ?_;unfold Ge;exact J3 (f:=λp:Nat×PyData=>Bw (BL n) p.1 p.2) (λp=>Xi (JX n) p.1 p.2) _
    ·decide
  ·decide
theorem Qd {n:Nat} {d:PyData}:(Cz d=true->BL (n+1) d=1+((Dq d).map (BL n)).sum)/\(Cz d=false->1000<=BL (n+1) d):=by
 by_cases hd:∃z r,d=.tuple (.str z::r)
 ·obtain⟨z,r,rfl⟩:=hd;obtain⟨w1,w2⟩:=WY z r;have hf:Cz (.tuple (.str z::r))=(Dj (.tuple (.str z::r)) 2 4&&BP (.str z) r):=rfl;have hc:BL (n+1) (.tuple (.str z::r))=match Ez z with | none=>1000 | some f=>if f.cps.size=r.length then 1+Ge (BL n) f r else 1000:=rfl
  rw[hf,hc];cases ef:Ez z with
  | none=>
   rw[w2 ef,Bool.and_false];exact⟨(λh=>by cases h),λ_=>(by show (1000:Int)<=1000;decide)⟩
  | some f=>
   obtain⟨a1,a2⟩:=w1 f ef;have okf:=Rk ef;unfold okF at okf;rw[QaI,QaI] at okf;have f3:=QaD okf.2.1;refine⟨λh=>?_,λh=>?_⟩
   ·rw[QaI] at h;obtain⟨b1,b2⟩:=a1 h.2;show (if f.cps.size=r.length then 1+Ge (BL n) f r else 1000)=_
    rw[if_pos b1,b2]
   ·show 1000<=if f.cps.size=r.length then 1+Ge (BL n) f r else 1000
    by_cases hl:f.cps.size=r.length
    ·rw[if_pos hl];have fr:BP (.str z) r=false:=by
      cases e:BP (.str z) r with
      | false=>rfl
      | true=>
       exfalso;rw[e,Bool.and_true] at h;have h:(decide ((2:Int)<=(((PyData.str z::r).length:Nat):Int))&&decide ((((PyData.str z::r).length:Nat):Int)<=4))=false:=h;have pos:1<=f.cps.size:=by
        unfold Ez at ef
        repeat' split at ef
        all_goals first | (cases ef;decide +kernel) | cases ef
       rw[QaJ,Qba (by omega),Qba (by omega)] at h;cases h
     have:=a2 fr hl (BL n) (JX n);omega
    ·rw[if_neg hl];decide
 ·have h1:BL (n+1) d=1000:=Lr (λz r e=>hd ⟨z,r,e⟩);have h2:Cz d=false:=by
   cases e:Cz d with
   | false=>rfl
   | true=>
    exfalso;unfold Cz at e;split at e
    ·rw[QaI] at e;obtain⟨z,rfl⟩:=PL e.2;exact hd ⟨_,_,rq⟩
    ·cases e
  rw[h1,h2];exact⟨(λh=>by cases h),λ_=>by decide⟩
def lvS (n:Nat) (l:List PyData):Int:=(l.map (BL n)).sum
theorem Uh {n:Nat}:∀{l:List PyData},l.all Cz=false->1000<=lvS (n+1) l
 | [],h=>by cases h
 | x::r,h=>by
  unfold lvS;rw[Qbd,List.sum_cons];have rn:=J3 (f:=BL (n+1)) (JX _) r;have xn:=JX (n+1) x;rw[List.all_cons] at h;cases ex:Cz x with
  | false=>
   have:=(Qd (n:=n)).2 ex;omega
  | true=>
   rw[ex,Qbc] at h;have:1000<=lvS (n+1) r:=Uh h;unfold lvS at this;omega
theorem WM {n:Nat}:∀{l:List PyData},l.all Cz=true->lvS (n+1) l=(l.length:Int)+lvS n (l.flatMap Dq)
 | [],_=>rfl
 | x::r,h=>by
  rw[List.all_cons,QaI] at h;have ih:=WM (n:=n) h.2;have e:=(Qd (n:=n)).1 h.1;unfold lvS at ih ⊢;rw[Qbd,List.sum_cons,e,ih,List.flatMap_cons,QaT,List.sum_append,QaJ];omega
theorem Rr:∀(n:Nat) (l:List PyData) (m:Nat),(match bfs n l m with | none=>false | some (l',m')=>l'.isEmpty&&decide (m'<=20))=decide ((m:Int)+lvS n l<=20)
 | 0,l,m=>by
  show (l.isEmpty&&decide (m<=20))=_;cases l with
  | nil=>
   rw[QaX,QaI,QaA,QaA];unfold lvS;simp;omega
  | cons x r=>
   have h1:BL 0 x=1000:=rfl;have rn:=J3 (f:=BL 0) (JX _) r;have:¬((m:Int)+lvS 0 (x::r)<=20):=by
    unfold lvS;rw[Qbd,List.sum_cons,h1];omega
   rw[QaP this];rfl
 | n+1,l,m=>by
  unfold bfs;cases e:l.all Cz with
  | false=>
   rw[if_neg (by decide)];have:=Uh (n:=n) e;rw[QaP (by omega)]
  | true=>
   rw[if_pos rfl,Rr n,WM e];congr 1;rw[Int.natCast_add];exact propext ⟨λh=>by omega,λh=>by omega⟩
theorem KR (d:PyData):DG d=decide (BL 6 d<=20):=by
 have h:=Rr 6 [d] 0;have e2:((0:Nat):Int)+lvS 6 [d]=BL 6 d:=by unfold lvS;simp
 rw[e2] at h;unfold DG;revert h;cases bfs 6 [d] 0 with
 | none=>exact λh=>h
 | some p=>exact λh=>h
abbrev Hz:Stmt:=top 29
abbrev Em:YF:=["_law_told","_law_due"]
theorem Nq:Bm ["_law_told","_law_due"] Em (Aj Hz):=by ac_rfl
abbrev Gg:Stmt:=top 30
abbrev DQ:YF:=Ei
theorem Ij:Bm ["_law_thing","_law_again"] DQ (Aj Gg):=by ac_rfl
def Ym:Sp:=λvs H Q _=>∃a:Bool,vs=[.bl a,.bl a]/\Q (.bl true) H
def TF:Sp:=λvs H Q _=>∃v d,vs=[v]/\Rep H v d/\Fit 64 d/\∀H',Same H H'->Q (.bl true) H'
theorem Q0 {d:PyData} (h:∀a b c,d≠.tuple [a,b,c]):Cq d=false:=by
 unfold Cq;split
 ·exact absurd rfl (h _ _ _)
 ·rfl
theorem Vp {d:PyData} (h:∀ds,d≠.tuple ds):DP d=false:=by
 unfold DP;split
 ·exact absurd rfl (h _)
 ·rfl
section
variable {P:Program} {w:World} {K:YD} {mg:YB} {base:Heap}
theorem Nv (C:Code K mg "_law_is_rules" HD En) (T:Tc mg) (PB:Good P w K mg base "_law_is" 1 Jb Vo) (IK:Good P w K mg base "_law_is_name" 1 Ei (DY nameP)) (Fb:Good P w K mg base "_law_counted" 8 Df (Ot 6)):Good P w K mg base "_law_is_rules" 9 En (DY DP):=by
 refine C.good Jw (λvs H Q E h=>?_) (λf cdv A outer s H vs Q E hr h=>?_)
 ·obtain⟨v,d,rfl,_⟩:=h;rfl
 obtain⟨v,d,rfl,rd,fit,q⟩:=h;refine⟨_,(Ad (Bj (PW.pt (Ea (BJ (Bt (Ao BW rfl T.isinstance Bk (Aa (pv 0) (Aa (Cg (v:=.ty "tuple") rfl T.tuple Fj rfl) Ac))))) (Ek (BJ (O2 Hs Hs Ab (Ao Bp rfl T.len Ci (Aa (pv 0) Ac)) Ab))))) (Af (Ak Cw)) Av)
 (Ad (GK QaW rfl (O4 (pv 0)) (Cd (i:=1) Jw.nd rfl (Or.inl rfl))
 (Ad (Bj (PW.pt (Ea (BJ (Bt (Ao BW rfl T.isinstance Bk (Aa (pv 1) (Aa (Cg (v:=.ty "tuple") rfl T.tuple Fj rfl) Ac))))) (Ea (Bc WL (Ao Bp rfl T.len Ci (Aa (pv 1) Ac)) Ab (Bb _)) (Ek (Bc Jq (Al Fb hr (Aa (Ay Bq (pv 1) Ab (λ_ _=>rfl)) (Aa Ab Ac))) Ab (Bb _)))))) (Af (Ak Cw)) Av)
 (Ad (Bj (PW.pt (Ea (BJ (Bt (Ao BW rfl T.isinstance Bk (Aa (Ay Bq (pv 1) Ab (λ_ _=>rfl)) (Aa (Cg (v:=.ty "str") rfl T.str Jd rfl) Ac))))) (Ek (Bc HW (Ay Bq (pv 1) Ab (λ_ _=>rfl)) (Bx (Aa Ai (Aa Ai Ac))) (by with_unfolding_all rfl))))) (Af (Ak Cw)) Av)
 (Af (Bj (PW.pt (Ea (PW.pt (FT (Bc Dd (Ay Bq (pv 1) Ab (λ_ _=>rfl)) Ai (Bb _)) (Fq (BJ (Bt (Al IK hr (Aa (Ay Bq (pv 1) Ab (λ_ _=>rfl)) Ac))))))) (Ek (PW.pt (FT (Bc Dd (Ay Bq (pv 1) Ab (λ_ _=>rfl)) Ai (Bb _)) (Fq (BJ (Bt (Al PB hr (Aa (Ay Bq (pv 1) Ab (λ_ _=>rfl)) (Aa Ab (Aa Ab Ac)))))))))))) (Af (Ak Cw)) Av)))))
 (Af (Ak Cw)))),?_⟩
 show let R0:TS:=_;let R1:TS:=Am _ R0;let R2:TS:=Am _ R1;let R3:TS:=Am (Jg _ _ R2) _;Am _ R3 _ _ _;intro R0 R1 R2 R3;refine⟨_,rq,Fx rd.kn ⟨_,rq,?_⟩⟩;rcases Kc rd with⟨t,xs,ds,rfl,rfl,ht,rs,et⟩|⟨et,hn'⟩
 ·rw[et];have lx:=Ax.len rs;refine Aw ⟨_,rq,t,_,rq,.inr (SqT.of ht),_,_,rq,rq,_,rq,?_⟩;by_cases g1:¬(0:Int) < (xs.length:Int)
  ·have:DP (.tuple ds)=false:=by
    show (Dj (.tuple ds) 1 16&&ds.all Cq)=false;have:Dj (.tuple ds) 1 16=false:=by
     show (decide ((1:Int)<=(ds.length:Int))&&decide ((ds.length:Int)<=16))=false;rw[QaP (by omega)];rfl
    rw[this];rfl
   rw[this] at q;rw[QaP g1];exact Aw ⟨_,rq,Bd (q _ (Same.refl _))⟩
  have g1:(0:Int) < (xs.length:Int):=by omega
  rw[Qba g1];refine Bd ⟨_,_,rq,rq,_,rq,?_⟩;by_cases g2:¬(xs.length:Int) < 17
  ·have:DP (.tuple ds)=false:=by
    show (Dj (.tuple ds) 1 16&&ds.all Cq)=false;have:Dj (.tuple ds) 1 16=false:=by
     show (decide ((1:Int)<=(ds.length:Int))&&decide ((ds.length:Int)<=16))=false;rw[QaP (show ¬(ds.length:Int)<=16 by omega),Bool.and_false]
    rw[this];rfl
   rw[this] at q;rw[QaP g2];exact Bd (q _ (Same.refl _))
  have g2:(xs.length:Int) < 17:=by omega
  rw[Qba g2];have er:DP (.tuple ds)=ds.all Cq:=by
   show (Dj (.tuple ds) 1 16&&ds.all Cq)=_;have:Dj (.tuple ds) 1 16=true:=by
    show (decide ((1:Int)<=(ds.length:Int))&&decide ((ds.length:Int)<=16))=true;rw[Qba (by omega),Qba (by omega)];rfl
   rw[this,Qbc]
  rw[er] at q;refine Aw ⟨_,rq,t,rq,⟨_,SqT.of ht⟩,?_⟩;let J0:YN:=λi U HH=>∃u,U=[jd t,u]/\Same H HH/\(ds.take i).all Cq=true;refine XD (xs:=xs) J0 ⟨_,rq,Same.refl _,rq⟩ (λi U HH _ h=>?_) (λi x U HH hx h=>?_) (fun U HH h=>?_)
  ·obtain⟨u,rfl,s0,_⟩:=h;exact SqT.of (s0 _ _ ht)
  ·obtain⟨u,rfl,s0,ha⟩:=h;obtain⟨dx,hdx,rx⟩:=Ax.at_ rs hx;have mdx:=Qam hdx;have fx:Fit 64 dx:=fit.item' mdx;have rx:=Rep.same s0 rx;have no:Cq dx=false->∀H',Same HH H'->Q (.bl false) H':=λhr H' s'=>by
    have:ds.all Cq=false:=by
     cases e:ds.all Cq with
     | false=>rfl
     | true=>rw[QaM.mp e dx mdx] at hr;cases hr
    rw[this] at q;exact q _ (s0.trans s')
   have yes:Cq dx=true->(ds.take (i+1)).all Cq=true:=λhr=>by
    rw[take_snoc hdx,List.all_append,ha,Qbc];simp[hr]
   refine⟨_,rq,Fx rx.kn ⟨_,rq,?_⟩⟩;rcases Kc rx with⟨tx,ys,es,rfl,rfl,htx,rys,ety⟩|⟨ety,hny⟩
   ·rw[ety];have ly:=Ax.len rys;refine Aw ⟨_,rq,tx,_,rq,.inr (SqT.of htx),rq,_,rq,?_⟩;by_cases h3:¬ys.length=3
    ·show if (!decide (V.int (ys.length:Int)=V.int 3))=true then _ else _
     rw[QaP (λz=>h3 (by injection z with z;omega))];exact Bd (no (Q0 (λa b c e=>by cases e;exact h3 ly)) _ (Same.refl _))
    have h3:ys.length=3:=by omega
    refine WR (by rw[h3];rfl) ?_;obtain⟨k,c,x,rfl⟩:=Od (l:=es) (by omega) (by omega);cases rys with
    | cons rk rys=>
    cases rys with
    | cons rc rys=>
    cases rys with
    | cons rx' rys=>
    cases rys;have fk:Fit 64 k:=fx.item' (by simp);have fc:Fit 64 c:=fx.item' (by simp);have fxx:Fit 64 x:=fx.item' (by simp);have hr:Cq (.tuple [k,c,x])=(DG x&&(if eqS k "term"=true then nameP c else eqS k "sound"&&wiP c 1 99)):=rfl
    refine⟨_,rq,tx,_,_,_,rq,rq,SqT.of htx,Bf (j:=2) rfl,6,Qbm _,_,x,Qbm _,rq,rx',fxx,λH1 s1=>⟨_,_,rq,rq,_,rq,Iz (λhc=>?_) (λhc=>?_)⟩⟩
    ·have hc:(20:Int) < BL 6 x:=QaD hc;refine no ?_ _ s1;rw[hr,KR,QaP (by omega)];rfl
    have hc:¬(20:Int) < BL 6 x:=QaB hc;have hcx:DG x=true:=by rw[KR,Qba (by omega)]
    rw[hcx,Qbc] at hr;have Zg:=s1 _ _ htx;have rk1:=Rep.same s1 rk;have rc1:=Rep.same s1 rc;refine⟨_,rq,tx,_,_,_,rq,rq,SqT.of Zg,Bf (j:=0) rfl,Ec rk1.kn ⟨_,rq,?_⟩⟩;by_cases hs:∃z,k=.str z
    ·obtain⟨z,rfl⟩:=hs;cases rk;refine Aw ⟨_,rq,tx,_,_,_,rq,rq,SqT.of Zg,Bf (j:=0) rfl,Ar (by show 2<=1000;decide),λp hp=>?_⟩;have sp:=s1.trans (Ag hp (.tup [.str "term",.str "sound"]));have cp:upd H1 p (.tup [.str "term",.str "sound"]) p=some (.tup [.str "term",.str "sound"]):=Ae;generalize upd H1 p (.tup [.str "term",.str "sound"])=H2 at *;have Px:=sp _ _ htx;refine⟨p,_,rq,.inr (SqT.of cp),rq,rq,_,rq,?_⟩;show if (!inV (.str z) [.str "term",.str "sound"])=true then _ else _
     by_cases z1:z="term"
     ·subst z1;have e0:inV (.str "term") [.str "term",.str "sound"]=true:=by trivial
      rw[e0];rw[Dm,if_pos rfl] at hr;refine Aw ⟨_,rq,tx,_,_,_,rq,rq,SqT.of Px,Bf (j:=0) rfl,rq,_,rq,ifS (λ_=>?_) (λh=>absurd rfl h)⟩;refine⟨_,rq,tx,_,_,_,rq,rq,SqT.of Px,Bf (j:=1) rfl,_,c,rq,Rep.same sp rc,fc,λH3 s3=>⟨_,rq,?_⟩⟩;have s13:=sp.trans s3;cases en:nameP c with
      | false=>exact Bd (Bd (no (by rw[hr,en]) _ s13))
      | true=>
       refine Aw ⟨_,rq,tx,_,_,_,rq,rq,SqT.of (s13 _ _ htx),Bf (j:=0) rfl,rq,_,rq,ifS (λe=>absurd e (by trivial)) (λ_=>Aw ?_)⟩;exact⟨_,rq,s0.trans s13,yes (by rw[hr,en])⟩
     by_cases z2:z="sound"
     ·subst z2;have e0:inV (.str "sound") [.str "term",.str "sound"]=true:=by trivial
      rw[e0];rw[Cj z1,if_neg (by decide),Dm,Qbc] at hr;refine Aw ⟨_,rq,tx,_,_,_,rq,rq,SqT.of Px,Bf (j:=0) rfl,rq,_,rq,ifS (λe=>absurd e z1) (λ_=>Aw ?_)⟩;refine⟨_,rq,tx,_,_,_,rq,rq,SqT.of Px,Bf (j:=0) rfl,rq,_,rq,ifS (λ_=>?_) (λh=>absurd rfl h)⟩;refine⟨_,rq,tx,_,_,_,rq,rq,SqT.of Px,Bf (j:=1) rfl,_,1,99,rq,(Rep.same sp rc).kn,_,rq,?_⟩;rw[GC (Rep.same sp rc)];cases en:wiP c 1 99 with
      | false=>exact Bd (no (by rw[hr,en]) _ sp)
      | true=>exact Aw ⟨_,rfl,s0.trans sp,yes (by rw[hr,en])⟩
     have e0:inV (.str z) [.str "term",.str "sound"]=false:=by
      cases e:inV (.str z) [.str "term",.str "sound"] with
      | false=>rfl
      | true=>
       simp only[inV,Qbf,List.any_nil,Bool.or_false,Bool.or_eq_true] at e;rcases e with e | e
       ·exact absurd (Es e).symm z1
       ·exact absurd (Es e).symm z2
     rw[e0];rw[Cj z1,if_neg (by decide),Cj z2,Bool.false_and] at hr;exact Bd (no hr _ sp)
    ·have e1:eqS k "term"=false:=PX (λe=>hs ⟨_,e⟩);have e2:eqS k "sound"=false:=PX (λe=>hs ⟨_,e⟩);rw[e1,if_neg (by decide),e2,Bool.false_and] at hr;have ns:∀{v:V},Rep H1 v k->isS v=false:=λr=>by
      cases r with
      | str z=>exact absurd ⟨z,rfl⟩ hs
      | _=>rfl
     rw[ns rk1];exact Bd (no hr _ s1)
   ·rw[ety];exact Bd (no (Q0 (λa b c e=>hny _ e)) _ (Same.refl _))
  ·obtain⟨u,rfl,s0,ha⟩:=h;rw[lx,QaN] at ha;rw[ha] at q;exact q _ s0
 ·rw[et];rw[Vp hn'] at q;exact Bd (q _ (Same.refl _))
theorem Nu (C:Code K mg "_law_is_truth" Hz Em) (T:Tc mg):Good P w K mg base "_law_is_truth" 1 Em Ym:=by
 refine C.good Nq (λvs H Q E h=>?_) (λf cdv A outer s H vs Q E hr h=>?_)
 ·obtain⟨a,rfl,_⟩:=h;rfl
 obtain⟨a,rfl,q⟩:=h;refine⟨_,(Af (Ak (CG (Ao BW rfl T.isinstance Bk (Aa (pv 0) (Aa (Cg (v:=.ty "bool") rfl T.bool Mv rfl) Ac))) (Du (Cu Dd (pv 0) (pv 1) (Bb _)))))),?_⟩;refine⟨_,rq,KD rfl ⟨_,rq,Bd ⟨_,rq,_,rq,rq,?_⟩⟩⟩;show Q (.bl (decide (V.bl a=V.bl a))) H;rw[Qba rfl];exact q
theorem Ud (C:Code K mg "_law_both_right" Gg DQ) (T:Tc mg) (Gj:Good P w K mg base "is_condition" 5 Di (DY DG)) (Sq:Good P w K mg base "is_rules" 7 FZ (DY DP)) (Fb:Good P w K mg base "_law_counted" 8 Df (Ot 6)) (Pz:Good P w K mg base "_law_is_rules" 9 En (DY DP)) (JT:Good P w K mg base "_law_is_truth" 1 Em Ym):Good P w K mg base "_law_both_right" 10 DQ TF:=by
 refine C.good Ij (λvs H Q E h=>?_) (λf cdv A outer s H vs Q E hr h=>?_)
 ·obtain⟨v,d,rfl,_⟩:=h;rfl
 obtain⟨v,d,rfl,rd,fit,q⟩:=h;refine⟨_,(Ad (GK QaW rfl (El rfl T.range (Aa Ab Ac)) (Cd (i:=1) Ij.nd rfl (Or.inl rfl))
 (Ad (Bj (BJ (Bt (Al JT hr (Aa (Al Gj hr (Aa (pv 0) Ac)) (Aa (Cu Gv (Al Fb hr (Aa (pv 0) (Aa Ab Ac))) Ab (Bb _)) Ac))))) (Af (Ak Cw)) Av)
 (Af (Bj (BJ (Bt (Al JT hr (Aa (Al Sq hr (Aa (pv 0) Ac)) (Aa (Al Pz hr (Aa (pv 0) Ac)) Ac))))) (Af (Ak Cw)) Av))))
 (Af (Ak Cw))),?_⟩
 show let R0:TS:=_;let R1:TS:=Am _ R0;Am (Jg _ _ R1) _ _ _ _;intro R0 R1;refine⟨_,rq,by decide,by decide,?_⟩;refine Fy (n:=2) (λi U HH=>∃u,U=[some v,u]/\Same H HH) ⟨_,rq,Same.refl _⟩ (λi U HH hi h=>?_) (fun U HH h=>?_)
 ·obtain⟨u,rfl,s0⟩:=h;refine⟨_,rq,v,d,rq,Rep.same s0 rd,fit,λH1 s1=>⟨_,rq,6,Qbm _,v,d,Qbm _,rq,Rep.same (s0.trans s1) rd,fit,λH2 s2=>⟨_,_,rq,rq,DG d,?_,_,rq,Aw ?_⟩⟩⟩
  ·show [V.bl (DG d),V.bl (decide (BL 6 d<=20))]=_;rw[<-KR]
  have s02:=s0.trans (s1.trans s2);exact⟨_,rq,v,d,rq,Rep.same s02 rd,fit,λH3 s3=>⟨_,rq,v,d,rq,Rep.same (s02.trans s3) rd,fit,λH4 s4=>⟨DP d,rq,_,rq,Aw ⟨_,rq,s02.trans (s3.trans s4)⟩⟩⟩⟩
 ·obtain⟨u,rfl,s0⟩:=h;exact q _ s0
end
abbrev Kw:Stmt:=top 20
abbrev HS:YF:=["_law_bag_here","_law_way","_law_zones","_law_terms"]
theorem TV:Bm HS HS (Aj Kw):=by ac_rfl
abbrev Hi:Stmt:=top 21
abbrev Cm:YF:=["_law_bag_here","_law_deep","_law_left","_law_zones","_law_terms"]
theorem Cr:Bm ["_law_bag_here","_law_deep","_law_left","_law_zones","_law_terms","_law_way","_law_one","_law_other_here"] Cm (Aj Hi):=by ac_rfl
abbrev JC:Stmt:=top 28
abbrev GP:YF:=["_law_bag_here"]
theorem FP:Bm ["_law_bag_here","_law_names_here","_law_rows","_law_turn","_law_condition_here"] GP (Aj JC):=by ac_rfl
def hid (b:Addr) (H:Hp):Hp:=λa=>if a=b then none else H a
theorem Us {b a:Addr} {H:Hp} (n:a≠b):hid b H a=H a:=if_neg n
theorem Rj {b a:Addr} {H:Hp} {o:HO} (h:hid b H a=some o):a≠b/\H a=some o:=by
 unfold hid at h;by_cases e:a=b
 ·rw[if_pos e] at h;cases h
 ·rw[if_neg e] at h;exact⟨e,h⟩
theorem Bv {b:Addr} {H H':Hp} (s:Ah b H H'):Same (hid b H) (hid b H'):=λa o e=>by
 obtain⟨n,h⟩:=Rj e;rw[Us n];exact s _ _ h n
theorem CQ {b:Addr} {H:Hp}:Same (hid b H) H:=λa o e=>(Rj e).2
theorem Kg {b a:Addr} {H:Hp} {o:HO} (n:a≠b) (h:H a=some o):hid b H a=some o:=by rw[Us n];exact h
mutual
def CJ (w:Nat):PyData->Bool
 | .tuple ds=>decide (ds.length<=w)&&Ds w ds
 | .list ds=>decide (ds.length<=w)&&Ds w ds
 | .str z=>decide (z.length<=w)&&z.cps.toList.all λc=>decide (c < 128)
 | .int i=>decide (i.natAbs < 10 ^ w)
 | _=>true
def Ds (w:Nat):List PyData->Bool
 | []=>true
 | x::r=>CJ w x&&Ds w r
end
theorem Gw (w:Nat):∀ds:List PyData,Ds w ds=true ↔ ∀x∈ds,CJ w x=true
 | []=>⟨(λ_ x h=>by cases h),λ_=>by simp only[Ds]⟩
 | a::r=>by
  simp only[Ds];rw[QaI,Gw w r];exact⟨λh x hx=>by
   rcases Qbe.mp hx with rfl | hx
   ·exact h.1
   ·exact h.2 x hx,λh=>⟨h a (Qav ..),λx hx=>h x (Qal _ hx)⟩⟩
mutual
theorem JN {w w':Nat} (l:w<=w'):∀d:PyData,CJ w d=true->CJ w' d=true
 | .tuple ds,h=>by
  simp only[CJ,QaI] at h ⊢;exact⟨Qba (Qbk (QaD h.1) l),Ie l ds h.2⟩
 | .list ds,h=>by
  simp only[CJ,QaI] at h ⊢;exact⟨Qba (Qbk (QaD h.1) l),Ie l ds h.2⟩
 | .str z,h=>by
  simp only[CJ,QaI] at h ⊢;exact⟨Qba (Qbk (QaD h.1) l),h.2⟩
 | .none,_=>by simp only[CJ]
 | .bool _,_=>by simp only[CJ]
 | .int i,h=>by
  simp only[CJ] at h ⊢;exact Qba (Qat (QaD h) (Nat.pow_le_pow_right (by decide) l))
 | .dict _,_=>by simp only[CJ]
theorem Ie {w w':Nat} (l:w<=w'):∀ds:List PyData,Ds w ds=true->Ds w' ds=true
 | [],_=>by simp only[Ds]
 | x::r,h=>by
  simp only[Ds,QaI] at h ⊢;exact⟨JN l x h.1,Ie l r h.2⟩
end
mutual
theorem M9:∀d:PyData,CJ 900 d=true->wide d=true
 | .tuple ds,h=>by
  simp only[CJ,wide,QaI] at h ⊢;exact⟨h.1,Ib ds h.2⟩
 | .list ds,h=>by
  simp only[CJ,wide,QaI] at h ⊢;exact⟨h.1,Ib ds h.2⟩
 | .str z,h=>by
  simp only[CJ,wide] at h ⊢;exact h
 | .none,_=>by simp only[wide]
 | .bool _,_=>by simp only[wide]
 | .int _,_=>by simp only[wide]
 | .dict _,_=>by simp only[wide]
theorem Ib:∀ds:List PyData,Ds 900 ds=true->DK ds=true
 | [],_=>by simp only[DK]
 | x::r,h=>by
  simp only[Ds,DK,QaI] at h ⊢;exact⟨M9 x h.1,Ib r h.2⟩
end
structure Sl (w k:Nat) (d:PyData):Prop where
 lay:d.canLay0=true
 dep:d.depth<=k
 nar:CJ w d=true
theorem Sl.fit {w k:Nat} {d:PyData} (h:Sl w k d) (hw:w<=900):Fit k d:=⟨h.lay,h.dep,M9 d (JN hw d h.nar)⟩
theorem Sl.mono {w w' k k':Nat} {d:PyData} (h:Sl w k d) (hw:w<=w') (hk:k<=k'):Sl w' k' d:=⟨h.lay,Qbk h.dep hk,JN hw d h.nar⟩
theorem Pj:∀{ds:List PyData},(∀x∈ds,x.canLay0=true)->PyData.canLayAll0 ds=true
 | [],_=>rfl
 | a::r,h=>by
  show (a.canLay0&&PyData.canLayAll0 r)=true;rw[h a (Qav ..),Pj λx hx=>h x (Qal _ hx)];rfl
theorem P0:∀{ds:List PyData} {n:Nat},(∀x∈ds,x.depth<=n)->PyData.depthAll ds<=n
 | [],_,_=>Qbn _
 | a::r,n,h=>by
  show max a.depth (PyData.depthAll r)<=n;exact Nat.max_le.mpr ⟨h a (Qav ..),P0 λx hx=>h x (Qal _ hx)⟩
theorem Sl.tup {w k:Nat} {ds:List PyData} (h:∀x∈ds,Sl w k x) (l:ds.length<=w):Sl w (k+1) (.tuple ds):=by
 refine⟨Pj λx hx=>(h x hx).lay,Nat.succ_le_succ (P0 λx hx=>(h x hx).dep),?_⟩;simp only[CJ,QaI];exact⟨Qba l,(Gw w ds).mpr λx hx=>(h x hx).nar⟩
theorem Sl.lst {w k:Nat} {ds:List PyData} (h:∀x∈ds,Sl w k x) (l:ds.length<=w):Sl w (k+1) (.list ds):=by
 refine⟨Pj λx hx=>(h x hx).lay,Nat.succ_le_succ (P0 λx hx=>(h x hx).dep),?_⟩;simp only[CJ,QaI];exact⟨Qba l,(Gw w ds).mpr λx hx=>(h x hx).nar⟩
theorem Sl.item {w k:Nat} {ds:List PyData} (h:Sl w (k+1) (.tuple ds)) {x:PyData} (hx:x∈ds):Sl w k x:=by
 have h1:PyData.canLayAll0 ds=true:=h.lay;have h2:PyData.depthAll ds+1<=k+1:=h.dep;have h3:=h.nar;simp only[CJ,QaI] at h3;exact⟨Mp h1 x hx,Mu (by omega) x hx,(Gw w ds).mp h3.2 x hx⟩
theorem Sl.len {w k:Nat} {ds:List PyData} (h:Sl w k (.tuple ds)):ds.length<=w:=by
 have h3:=h.nar;simp only[CJ,QaI] at h3;exact QaD h3.1
theorem Ax.mk {H:Hp}:∀{xs:YG} {ds:List PyData},Paired (Rep H) xs ds->Ax H xs ds
 | _,_,.nil=>.nil
 | _,_,.cons a r=>.cons a (Ax.mk r)
theorem Hj {α : Type} {P:α->Prop} {a:α} {r:List α} (h:P a) (t:∀x∈r,P x):∀x∈a::r,P x:=List.forall_mem_cons.mpr ⟨h,t⟩
theorem Yq (w k:Nat):Sl w k .none:=⟨rfl,Qbn _,by simp only[CJ]⟩
theorem Z5 (w k:Nat) (b:Bool):Sl w k (.bool b):=⟨rfl,Qbn _,by simp only[CJ]⟩
theorem Ox {w k:Nat} {i:Int} (h:i.natAbs < 10 ^ w):Sl w k (.int i):=⟨rfl,Qbn _,by simp only[CJ];exact Qba h⟩
theorem ZR:1000000<=10 ^ 30:=by decide
theorem Yr {k:Nat} {i:Int} (h:i.natAbs < 1000000):Sl 30 k (.int i):=Ox (Qat h ZR)
theorem IV {w k:Nat} {z:Str} (h2:z.length<=w) (h3:∀c∈z.cps.toList,c < 128):Sl w k (.str z):=by
 refine⟨?_,Qbn _,?_⟩
 ·show PyData.strOk z=true;unfold PyData.strOk;rw[Array.all_eq_true'];exact λc hc=>Qba (Nat.lt_trans (h3 c (Qan.mpr hc)) (by decide))
 ·simp only[CJ,QaI];exact⟨Qba h2,QaM.mpr λc hc=>Qba (h3 c hc)⟩
theorem Sl.RD {w k:Nat} {z:Str} (h:Sl w k (.str z)):z.length<=w/\∀c∈z.cps.toList,c < 128:=by
 have h3:=h.nar;simp only[CJ,QaI] at h3;exact⟨QaD h3.1,λc hc=>QaD (QaM.mp h3.2 c hc)⟩
theorem Sl.ints {w k:Nat} {i:Int} (h:Sl w k (.int i)):i.natAbs < 10 ^ w:=by
 have h3:=h.nar;simp only[CJ] at h3;exact QaD h3
def Mx (z:Str):Bool:=decide (z.length<=30)&&z.cps.toList.all λc=>decide (c < 128)
theorem Oz {k:Nat} {z:Str} (h:Mx z=true):Sl 30 k (.str z):=by
 unfold Mx at h;rw[QaI] at h;exact IV (QaD h.1) λc hc=>QaD (QaM.mp h.2 c hc)
theorem XS:∀c∈abc.cps.toList,c < 128:=by
 have h:abc.cps.toList.all (λc=>decide (c < 128))=true:=by trivial
 exact λc hc=>QaD (QaM.mp h c hc)
theorem QX {k:Nat} {z:Str} (h:okS z) (l:z.length<=8):Sl 30 k (.str z):=IV (by omega) λc hc=>XS c (h c hc)
theorem VN {b:Addr} {H:Hp} {n:Nat} (hb:Bh H b n):CZ H (hid b H):=λa xs h=>Kg (λe=>hb.Ia xs (by rw[<-e];exact h)) h
theorem Ka {H:Hp} {w k:Nat}:∀{ys:YG},(∀y∈ys,∃d,Rep H y d/\Sl w k d)->∃ds,Ax H ys ds/\(∀x∈ds,Sl w k x)/\ds.length=ys.length
 | [],_=>⟨[],.nil,List.forall_mem_nil _,rfl⟩
 | y::r,h=>by
  obtain⟨d,h1,h2⟩:=h y (Qav ..);obtain⟨ds,h3,h4,h5⟩:=Ka λz hz=>h z (Qal _ hz);exact⟨d::ds,.cons h1 h3,Hj h2 h4,by rw[QaJ,QaJ,h5]⟩
theorem Ks {I R:TS} {D:Ends} {U : St} {H:Hp} (P:YO) (hR:∀ σ' H',P σ' H'->R D σ' H') (hI:(∀ σ' H',P σ' H'->R D σ' H')->I { D with nx:=fun U H=>R D U H } U H):Am I R D U H:=hI hR
def onl (H:Hp):Hp:=λa=>match H a with
 | some (.tup xs)=>some (.tup xs)
 | _=>none
theorem Q9 {H:Hp} {a:Addr} {xs:YG} (h:H a=some (.tup xs)):onl H a=some (.tup xs):=by unfold onl;rw[h]
theorem Rb {H:Hp} {a:Addr} {o:HO} (h:onl H a=some o):∃xs,o=.tup xs/\H a=some (.tup xs):=by
 unfold onl at h;split at h
 ·rename_i xs e;cases h;exact⟨xs,rq,e⟩
 ·cases h
theorem Vw {H H':Hp} (s:CZ H H'):Same (onl H) (onl H'):=λa o e=>by
 obtain⟨xs,rfl,h⟩:=Rb e;exact Q9 (s _ _ h)
theorem Ra {H:Hp} {b:Addr} {n:Nat} (hb:Bh H b n):Same (onl H) (hid b H):=λa o e=>by
 obtain⟨xs,rfl,h⟩:=Rb e;exact VN hb _ _ h
def Tv (H:Hp) (k:Nat) (v:V):Prop:=∃d,Rep (onl H) v d/\Sl 40 k d
theorem Tv.tups {H H':Hp} {k:Nat} {v:V} (s:CZ H H') (h:Tv H k v):Tv H' k v:=by
 obtain⟨d,h1,h2⟩:=h;exact⟨d,Rep.same (Vw s) h1,h2⟩
theorem Tv.mk {H:Hp} {k:Nat} {t:Addr} {xs:YG} (h:H t=some (.tup xs)) (hx:∀x∈xs,Tv H k x) (l:xs.length<=40):Tv H (k+1) (.ref t):=by
 obtain⟨ds,r,s,e⟩:=Ka hx;exact⟨.tuple ds,.tup (Q9 h) r,Sl.tup s (by omega)⟩
theorem Tv.int {H:Hp} {k:Nat} {i:Int} (h:i.natAbs < 1000000):Tv H k (.int i):=⟨_,.int i,(Yr h).mono (by decide) (Qbm _)⟩
theorem Tv.word {H:Hp} {k:Nat} {z:Str} (h:Mx z=true):Tv H k (.str z):=⟨_,.str z,(Oz h).mono (by decide) (Qbm _)⟩
theorem Tv.name {H:Hp} {k:Nat} {z:Str} (h:okS z) (l:z.length<=8):Tv H k (.str z):=⟨_,.str z,(QX h l).mono (by decide) (Qbm _)⟩
theorem Tv.up {H:Hp} {k k':Nat} {v:V} (h:Tv H k v) (l:k<=k'):Tv H k' v:=by
 obtain⟨d,h1,h2⟩:=h;exact⟨d,h1,h2.mono (Qbm _) l⟩
def Bl (H:Hp) (l:Addr) (ys:YF):Prop:=H l=some (.lst (ys.map V.str))/\1<=ys.length/\ys.length<=10/\∀y∈ys,(1<=y.length/\y.length<=8)/\okS y
theorem MN {H:Hp}:∀ys:YF,Ax H (ys.map V.str) (ys.map PyData.str)
 | []=>.nil
 | y::r=>.cons (.str y) (MN r)
theorem Bl.rep {H:Hp} {l:Addr} {ys:YF} (h:Bl H l ys):Rep H (.ref l) (.list (ys.map PyData.str)):=.lst h.1 (MN ys)
theorem Bl.shp {H:Hp} {l:Addr} {ys:YF} (h:Bl H l ys):SeqAt.shaped (.list (ys.map PyData.str))=true:=by
 have:Sl 30 1 (.list (ys.map PyData.str)):=Sl.lst (k:=0) (λx hx=>by
  obtain⟨y,hy,rfl⟩:=List.mem_map.mp hx;exact QX (h.2.2.2 y hy).2 (h.2.2.2 y hy).1.2) (by rw[QaQ];have:=h.2.2.1;omega)
 exact (this.fit (by decide)).shaped (by decide)
theorem Bl.ne {H:Hp} {l:Addr} {ys:YF} (h:Bl H l ys):PyData.eqv (.list (ys.map PyData.str)) (.list [])=false:=by
 cases ys with
 | nil=>exact absurd h.2.1 (by decide)
 | cons y r=>rfl
theorem Bl.Dz {H H':Hp} {l b:Addr} {ys:YF} (h:Bl H l ys) (s:Ah b H H') (n:l≠b):Bl H' l ys:=⟨s _ _ h.1 n,h.2⟩
theorem Bl.at_ {H:Hp} {l:Addr} {ys:YF} (h:Bl H l ys) {i:Nat} (hi:i < ys.length):∃y,atI (ys.map V.str) (i:Int)=some (.str y)/\y.length<=8/\okS y:=by
 have hy:ys[i]?=some ys[i]:=Qaf hi;have:=h.2.2.2 _ (Qam hy);exact⟨ys[i],Bf (by rw[QaG,hy];rfl),this.1.2,this.2⟩
def Oq:Sp:=λvs H Q _=>∃(b zl:Addr) (m:Nat) (way:Int) (ys:YF),vs=[.ref b,.int way,.ref zl,.ref zl]/\Bh H b m/\m<=9000/\b≠zl/\Bl H zl ys/\∀t H',Tv H' 1 (.ref t)->Bh H' b (m+2)->Ah b H H'->Q (.ref t) H'
theorem at5 {i:Int} (h0:0<=i) (h5:i < 5):∃p:Int,atI [V.int 0,.int 0,.int 1,.int 2,.int 8] i=some (.int p)/\0<=p/\p<=8:=by
 have:i=0\/i=1\/i=2\/i=3\/i=4:=by omega
 rcases this with rfl | rfl | rfl | rfl | rfl
 ·exact⟨0,rq,by decide,by decide⟩
 ·exact⟨0,rq,by decide,by decide⟩
 ·exact⟨1,rq,by decide,by decide⟩
 ·exact⟨2,rq,by decide,by decide⟩
 ·exact⟨8,rq,by decide,by decide⟩
section
variable {P:Program} {w:World} {K:YD} {mg:YB} {base:Heap}
theorem Xo (c:Code K mg "_law_leaf" Kw HS) (T:Tc mg) (Ba:Good P w K mg base "_law_take" 1 Dl GJ):Good P w K mg base "_law_leaf" 2 HS Oq:=by
 refine c.good TV (λvs H Q E h=>?_) (λf cdv A outer s H vs Q E hr h=>?_)
 ·obtain⟨b,zl,m,way,ys,rfl,_⟩:=h;rfl
 obtain⟨b,zl,m,way,ys,rfl,hb,hm,nb,hz,q⟩:=h;refine⟨_,(@Ad _ _ _ _ _ (Bj (PW.pt (FT (Bc Dd (pv 1) Ab (Bb _)) (Fq (Bc (Ua hr.units) (pv 2) (Ce Ac) (Bb _))))) (@Af _ _ _ (@Ak _ _ _ _ (Bx (Aa Ai (Aa (@Aq _ _ _ _ _ _ _ _ Ca Ab (@Ay _ _ _ _ _ _ _ Bs (@Ce _ _ _ _ (@Aa _ _ _ _ _ (@Ab _ _ _ _) (@Aa _ _ _ _ _ (@Ab _ _ _ _) (@Aa _ _ _ _ _ (@Ab _ _ _ _) (@Aa _ _ _ _ _ (@Ab _ _ _ _) (@Aa _ _ _ _ _ (@Ab _ _ _ _) (@Ac _) Az) Az) Az) Az) Az)) (Al Ba hr (Aa (pv 0) (Aa Ab Ac))) (λ_ _=>rfl))) (Aa (@Ay _ _ _ _ _ _ _ Bs (pv 2) (Al Ba hr (Aa (pv 0) (Aa (Ao Bp rfl T.len Ci (Aa (pv 2) Ac)) Ac))) (λ_ _=>rfl)) Ac)))))) Av)
 (@Ad _ _ _ _ _ (Bj (PW.pt (FT (Bc Dd (pv 1) Ab (Bb _)) (Fq (Bc (Ua hr.units) (pv 3) (Ce Ac) (Bb _))))) (@Af _ _ _ (@Ak _ _ _ _ (Bx (Aa Ai (Aa (@Ay _ _ _ _ _ _ _ Bs (pv 3) (Al Ba hr (Aa (pv 0) (Aa (Ao Bp rfl T.len Ci (Aa (pv 3) Ac)) Ac))) (λ_ _=>rfl)) Ac))))) Av)
 (@Ad _ _ _ _ _ (Bj (Bc Dd (pv 1) Ab (Bb _)) (@Af _ _ _ (@Ak _ _ _ _ (Bx (Aa Ai (Aa (Al Ba hr (Aa (pv 0) (Aa Ab Ac))) (Aa (Al Ba hr (Aa (pv 0) (Aa Ab Ac))) Ac)))))) Av)
 (@Af _ _ _ (@Ak _ _ _ _ (Bx (Aa Ai (Aa (Al Ba hr (Aa (pv 0) (Aa Ab Ac))) Ac)))))))),?_⟩
 show let R0:TS:=_;let R1:TS:=_;let R2:TS:=Am (BX _ R1 _) R0;let R3:TS:=_;let R4:TS:=Am (BX _ R3 _) R2;let R5:TS:=_;Am (BX _ R5 _) R4 _ _ _;intro R0 R1 R2 R3 R4 R5;have ny:=hz.2.1;have ny9:=hz.2.2.1;have lz:(((ys.map V.str).length:Nat):Int)=(ys.length:Int):=by rw[QaQ]
 refine⟨_,rq,rq,_,rq,ifN (λe=>?_) (λe=>?_)⟩
 ·refine⟨_,rq,Ar (by show 0<=1000;decide),λle hle=>?_⟩;have se:=Ag hle (.lst []);have ce:upd H le (.lst []) le=some (.lst []):=Ae;generalize upd H le (.lst [])=H1 at *;have hz1:Bl H1 zl ys:=⟨se _ _ hz.1,hz.2⟩;refine⟨_,_,hz1.rep,.lst ce .nil,hz1.shp,by rfl,_,rq,?_⟩;rw[hz.ne];refine Bd ⟨Ar (by show 5<=1000;decide),λl5 hl5=>?_⟩;have s5:=Ag hl5 (.lst [.int 0,.int 0,.int 1,.int 2,.int 8]);have c5:upd H1 l5 (.lst [.int 0,.int 0,.int 1,.int 2,.int 8]) l5=some (.lst [.int 0,.int 0,.int 1,.int 2,.int 8]):=Ae;have hb2:=(hb.same se).same s5;have nb5:b≠l5:=(hb.same se).nb hl5;generalize upd H1 l5 (.lst [.int 0,.int 0,.int 1,.int 2,.int 8])=H2 at *;have s02:=se.trans s5;refine⟨_,rq,b,m,5,rq,hb2,by omega,by decide,by decide,λr H3 r0 r1 hb3 sb3=>?_⟩;obtain⟨p,hp,p0,p8⟩:=at5 r0 r1;have hz3:Bl H3 zl ys:=Bl.Dz ⟨s5 _ _ hz1.1,hz.2⟩ sb3 nb.symm;refine⟨l5,_,_,_,rq,rq,SqL.of (sb3 _ _ c5 nb5.symm),hp,_,_,rq,rq,_,rq,_,rq,_,rq,zl,_,rq,.inl (SqL.of hz3.1),b,_,_,rq,hb3,by omega,by rw[lz];omega,by rw[lz];omega,λr2 H4 r20 r21 hb4 sb4=>?_⟩;rw[lz] at r21;obtain⟨rn,rfl⟩:=Int.eq_ofNat_of_zero_le r20;have hz4:=hz3.Dz sb4 nb.symm;obtain⟨y,hy,y8,yo⟩:=hz4.at_ (i:=rn) (by omega);refine⟨zl,_,_,_,rq,rq,SqL.of hz4.1,hy,Ar (by show 3<=1000;decide),λt ht=>?_⟩;refine q t _ (Tv.mk (k:=0) Ae (λx hx=>?_) (by show 3<=40;decide)) ((hb4.same (Ag ht _)).mono (by omega)) (((Ah.of s02).trans (sb3.trans sb4)).trans (Ah.of (Ag ht _)));have hx:x=.str "of"\/x=.int (1+p)\/x=.str y:=by simpa using hx
  rcases hx with rfl | rfl | rfl
  ·exact Tv.word (by trivial)
  ·exact Tv.int (by omega)
  ·exact Tv.name yo y8
 refine⟨_,rq,rq,_,rq,ifN (λe1=>?_) (λe1=>?_)⟩
 ·refine⟨_,rq,Ar (by show 0<=1000;decide),λle hle=>?_⟩;have se:=Ag hle (.lst []);have ce:upd H le (.lst []) le=some (.lst []):=Ae;generalize upd H le (.lst [])=H1 at *;have hz1:Bl H1 zl ys:=⟨se _ _ hz.1,hz.2⟩;refine⟨_,_,hz1.rep,.lst ce .nil,hz1.shp,by rfl,_,rq,?_⟩;rw[hz.ne];refine Bd ⟨_,rq,_,rq,_,rq,zl,_,rq,.inl (SqL.of hz1.1),b,_,_,rq,hb.same se,by omega,by rw[lz];omega,by rw[lz];omega,λr2 H4 r20 r21 hb4 sb4=>?_⟩;rw[lz] at r21;obtain⟨rn,rfl⟩:=Int.eq_ofNat_of_zero_le r20;have hz4:=hz1.Dz sb4 nb.symm;obtain⟨y,hy,y8,yo⟩:=hz4.at_ (i:=rn) (by omega);refine⟨zl,_,_,_,rq,rq,SqL.of hz4.1,hy,Ar (by show 2<=1000;decide),λt ht=>?_⟩;refine q t _ (Tv.mk (k:=0) Ae (λx hx=>?_) (by show 2<=40;decide)) ((hb4.same (Ag ht _)).mono (by omega)) (((Ah.of se).trans sb4).trans (Ah.of (Ag ht _)));have hx:x=.str "term"\/x=.str y:=by simpa using hx
  rcases hx with rfl | rfl
  ·exact Tv.word (by trivial)
  ·exact Tv.name yo y8
 refine⟨_,rq,rq,_,rq,ifN (λe2=>?_) (λe2=>?_)⟩
 ·refine⟨_,rq,b,m,24,rq,hb,by omega,by decide,by decide,λr H1 r0 r1 hb1 sb1=>⟨_,rq,b,_,24,rq,hb1,by omega,by decide,by decide,λr2 H2 r20 r21 hb2 sb2=>⟨Ar (by show 3<=1000;decide),λt ht=>?_⟩⟩⟩;refine q t _ (Tv.mk (k:=0) Ae (λx hx=>?_) (by show 3<=40;decide)) ((hb2.same (Ag ht _)).mono (by omega)) ((sb1.trans sb2).trans (Ah.of (Ag ht _)));have hx:x=.str "hours"\/x=.int r\/x=.int r2:=by simpa using hx
  rcases hx with rfl | rfl | rfl
  ·exact Tv.word (by trivial)
  ·exact Tv.int (by omega)
  ·exact Tv.int (by omega)
 ·refine⟨_,rq,b,m,10,rq,hb,by omega,by decide,by decide,λr H1 r0 r1 hb1 sb1=>⟨Ar (by show 2<=1000;decide),λt ht=>?_⟩⟩;refine q t _ (Tv.mk (k:=0) Ae (λx hx=>?_) (by show 2<=40;decide)) ((hb1.same (Ag ht _)).mono (by omega)) (sb1.trans (Ah.of (Ag ht _)));have hx:x=.str "key"\/x=.int r:=by simpa using hx
  rcases hx with rfl | rfl
  ·exact Tv.word (by trivial)
  ·exact Tv.int (by omega)
end
def S2 (b l:Addr) (H H':Hp):Prop:=∀c o,H c=some o->c≠b->c≠l->H' c=some o
theorem S2.refl (b l:Addr) (H:Hp):S2 b l H H:=λ_ _ e _ _=>e
theorem S2.trans {b l:Addr} {H H' H'':Hp} (s:S2 b l H H') (t:S2 b l H' H''):S2 b l H H'':=λc o e n1 n2=>t _ _ (s _ _ e n1 n2) n1 n2
theorem S2.l {b l:Addr} {H H':Hp} (s:Ah b H H'):S2 b l H H':=λc o e n1 _=>s _ _ e n1
theorem S2.r {b l:Addr} {H H':Hp} (s:Ah l H H'):S2 b l H H':=λc o e _ n2=>s _ _ e n2
theorem S2.of {b l:Addr} {H H':Hp} (s:Same H H'):S2 b l H H':=λc o e _ _=>s _ _ e
theorem S2.tup {b l:Addr} {H H':Hp} (s:S2 b l H H') (h1:∀xs,H b≠some (.tup xs)) (h2:∀xs,H l≠some (.tup xs)):CZ H H':=λc xs e=>s _ _ e (λz=>h1 xs (by rw[<-z];exact e)) (λz=>h2 xs (by rw[<-z];exact e))
theorem Bl.s2 {H H':Hp} {l b z:Addr} {ys:YF} (h:Bl H z ys) (s:S2 b l H H') (n1:z≠b) (n2:z≠l):Bl H' z ys:=⟨s _ _ h.1 n1 n2,h.2⟩
def nd:Nat->Nat
 | 0=>3
 | d+1=>6+2*nd d
theorem nd3 (d:Nat):3<=nd d:=by
 cases d with
 | zero=>exact Qbm _
 | succ d=>show 3<=6+2*nd d;omega
def Tz (d:Nat):Sp:=λvs H Q _=>∃(b lf zl:Addr) (m:Nat) (x:Int) (ys:YF),vs=[.ref b,.int ((d+1:Nat):Int),.ref lf,.ref zl,.ref zl]/\Bh H b m/\m+nd d<=8000/\b≠lf/\b≠zl/\lf≠zl/\Bl H zl ys/\H lf=some (.lst [.int x])/\∀t x' H',Tv H' (d+1) (.ref t)->Bh H' b (m+nd d)->H' lf=some (.lst [.int x'])->S2 b lf H H'->Q (.ref t) H'
def Lb (D:Nat):Sp:=λvs H Q E=>∃d,d<=D/\Tz d vs H Q E
theorem eG {i:Int} (h0:0<=i) (h4:i < 4):∃p:Int,atI [V.int 1,.int 2,.int 4,.int 20] i=some (.int p)/\1<=p/\p<=20:=by
 have:i=0\/i=1\/i=2\/i=3:=by omega
 rcases this with rfl | rfl | rfl | rfl
 ·exact⟨1,rq,by decide,by decide⟩
 ·exact⟨2,rq,by decide,by decide⟩
 ·exact⟨4,rq,by decide,by decide⟩
 ·exact⟨20,rq,by decide,by decide⟩
theorem RZ {H:Hp} {l:Addr} {ys:YG} (h:H l=some (.lst ys)):∀xs,H l≠some (.tup xs):=λxs z=>by rw[h] at z;cases z
section
variable {P:Program} {w:World} {K:YD} {mg:YB} {base:Heap}
theorem Xq (c:Code K mg "_law_condition" Hi Cm) (T:Tc mg) (Ba:Good P w K mg base "_law_take" 1 Dl GJ) (Py:Good P w K mg base "_law_leaf" 2 HS Oq):∀k,Good P w K mg base "_law_condition" (3+k) Cm (Lb k):=by
 have step:∀(D k':Nat) (sp':Sp),(∀e,e+1<=D->∀vs H Q E,Tz e vs H Q E->sp' vs H Q E)->Good P w K mg base "_law_condition" k' Cm sp'->1<=k'->2<=k'->Good P w K mg base "_law_condition" (k'+1) Cm (Lb D):=λD k' sp' hsp CW hk1 hk2=>by
  have sc:=Cr;refine c.good Cr (λvs H Q E h=>?_) (λf cdv A outer s H vs Q E hr h=>?_)
  ·obtain⟨d,hd,b,lf,zl,m,x,ys,rfl,_⟩:=h;rfl
  obtain⟨d,hd,b,lf,zl,m,x,ys,rfl,hb,hm,nbl,nbz,nlz,hz,hlf,q⟩:=h;refine⟨_,(@Ad _ _ _ _ _ (JK (@Aq _ _ _ _ _ _ _ _ Eh (@Ay _ _ _ _ _ _ _ Bs (pv 2) Ab (λ_ _=>rfl)) Ab) (JL (pv 2) Ab set_list))
 (@Ad _ _ _ _ _ (@Bg _ _ 5 _ _ _ _ Cr.nd rfl (Or.inl rfl) (Al (hk:=hk1) Ba hr (Aa (pv 0) (Aa Ab Ac))) (by rfl) (by first | exact .inl rfl | exact .inr rfl))
 (@Ad _ _ _ _ _ (Bj (PW.pt (Ea (Bc Hs (pv 1) Ab (Bb _)) (Ek (Bc Hs (@Ay _ _ _ _ _ _ _ Bs (pv 2) Ab (λ_ _=>rfl)) Ab (Bb _))))) (@Af _ _ _ (@Ak _ _ _ _ (Al (hk:=hk2) Py hr (Aa (pv 0) (Aa (@Aq _ _ _ _ _ _ _ _ GZ (pv 5) Ab) (Aa (pv 3) (Aa (pv 4) Ac))))))) Av)
 (@Ad _ _ _ _ _ (Bj (PW.pt (FT (Bc Jq (pv 5) Ab (Bb _)) (Fq (Bc Hs (@Ay _ _ _ _ _ _ _ Bs (pv 2) Ab (λ_ _=>rfl)) Ab (Bb _))))) (@Af _ _ _ (@Bg _ _ 5 _ _ _ _ Cr.nd rfl (Or.inl rfl) Ab (by rfl) (by first | exact .inl rfl | exact .inr rfl))) Av)
 (@Ad _ _ _ _ _ (Bj (Bc Hs (pv 5) Ab (Bb _)) (@Af _ _ _ (@Ak _ _ _ _ (Al (hk:=hk2) Py hr (Aa (pv 0) (Aa (pv 5) (Aa (pv 3) (Aa (pv 4) Ac))))))) Av)
 (@Ad _ _ _ _ _ (Bj (Bc Dd (pv 5) Ab (Bb _)) (@Af _ _ _ (@Ak _ _ _ _ (Bx (Aa Ai (Aa (Al (hk:=(Qbm _)) CW hr (@Aa _ _ _ _ _ (pv 0) (@Aa _ _ _ _ _ (@Aq _ _ _ _ _ _ _ _ Eh (pv 1) Ab) (@Aa _ _ _ _ _ (pv 2) (@Aa _ _ _ _ _ (pv 3) (@Aa _ _ _ _ _ (pv 4) (@Ac _) BZ) BZ) BZ) GF) BZ)) Ac))))) Av)
 (@Ad _ _ _ _ _ (JK (@Aq _ _ _ _ _ _ _ _ Eh (@Ay _ _ _ _ _ _ _ Bs (pv 2) Ab (λ_ _=>rfl)) Ab) (JL (pv 2) Ab set_list))
 (@Ad _ _ _ _ _ (@Bg _ _ 6 _ _ _ _ Cr.nd rfl (Or.inl rfl) (Al (hk:=(Qbm _)) CW hr (@Aa _ _ _ _ _ (pv 0) (@Aa _ _ _ _ _ (@Aq _ _ _ _ _ _ _ _ Eh (pv 1) Ab) (@Aa _ _ _ _ _ (pv 2) (@Aa _ _ _ _ _ (pv 3) (@Aa _ _ _ _ _ (pv 4) (@Ac _) BZ) BZ) BZ) GF) BZ)) (by rfl) (by first | exact .inl rfl | exact .inr rfl))
 (@Ad _ _ _ _ _ (JK (@Aq _ _ _ _ _ _ _ _ Ca (@Ay _ _ _ _ _ _ _ Bs (pv 2) Ab (λ_ _=>rfl)) Ab) (JL (pv 2) Ab set_list))
 (@Ad _ _ _ _ _ (@Bg _ _ 7 _ _ _ _ Cr.nd rfl (Or.inl rfl) (Al (hk:=(Qbm _)) CW hr (@Aa _ _ _ _ _ (pv 0) (@Aa _ _ _ _ _ (@Aq _ _ _ _ _ _ _ _ Eh (pv 1) Ab) (@Aa _ _ _ _ _ (pv 2) (@Aa _ _ _ _ _ (pv 3) (@Aa _ _ _ _ _ (pv 4) (@Ac _) BZ) BZ) BZ) GF) BZ)) (by rfl) (by first | exact .inl rfl | exact .inr rfl))
 (@Ad _ _ _ _ _ (Bj (Bc Dd (pv 5) Ab (Bb _)) (@Af _ _ _ (@Ak _ _ _ _ (Bx (Aa Ai (Aa (pv 6) (Aa (pv 7) (Aa (@Aq _ _ _ _ _ _ _ _ Ca Ab (Al (hk:=hk1) Ba hr (Aa (pv 0) (Aa (@Ay _ _ _ _ _ _ _ Bs (Ce (Aa Ab (Aa Ab (Aa Ab (Aa Ab Ac))))) (Al (hk:=hk1) Ba hr (Aa (pv 0) (Aa Ab Ac))) (λ_ _=>rfl)) Ac)))) Ac))))))) Av)
 (@Af _ _ _ (@Ak _ _ _ _ (Bx (Aa (@Ay _ _ _ _ _ _ _ Bs (Ce (Aa Ai (Aa Ai Ac))) (@Aq _ _ _ _ _ _ _ _ Eh (pv 5) Ab) (λ_ _=>rfl)) (Aa (pv 6) (Aa (pv 7) Ac))))))))))))))))),?_⟩
  show let R0:TS:=_;let R1:TS:=_;let R2:TS:=Am (BX _ R1 _) R0;let R3:TS:=Am _ R2;let R4:TS:=Am _ R3;let R5:TS:=Am _ R4;let R6:TS:=Am _ R5;let R7:TS:=_;let R8:TS:=Am (BX _ R7 _) R6;let R9:TS:=_;let R10:TS:=Am (BX _ R9 _) R8;let R11:TS:=_;let R12:TS:=Am (BX _ R11 _) R10;let R13:TS:=_;let R14:TS:=Am (BX _ R13 _) R12;let R15:TS:=Am _ R14;Am _ R15 _ _ _;intro R0 R1 R2 R3 R4 R5 R6 R7 R8 R9 R10 R11 R12 R13 R14 R15;have nd3:=nd3 d;refine⟨_,rq,lf,_,_,_,rq,rq,SqL.of hlf,rq,_,_,rq,rq,_,rq,lf,_,_,_,rq,rq,hlf,rq,?_⟩;have s1:S2 b lf H (upd H lf (.lst [.int (x - 1)])):=S2.r Ah.upd;have c1:upd H lf (.lst [.int (x - 1)]) lf=some (.lst [.int (x - 1)]):=Ae;have hb1:Bh (upd H lf (.lst [.int (x - 1)])) b m:=hb.Dz Ah.upd nbl;show Am _ _ _ _ (upd H lf (.lst [.int (x - 1)]));generalize upd H lf (.lst [.int (x - 1)])=H1 at *;refine⟨_,rq,b,m,8,rq,hb1,by omega,by decide,by decide,λway H2 w0 w1 hb2 sb2=>?_⟩;have s2:=s1.trans (S2.l (l:=lf) sb2);have c2:=sb2 _ _ c1 nbl.symm;have hz2:=hz.s2 s2 nbz.symm nlz.symm;have leaf:∀{Vm:Int} {H2:Hp} {mm:Nat} {x':Int},Bh H2 b mm->mm+2<=m+nd d->Bl H2 zl ys->H2 lf=some (.lst [.int x'])->S2 b lf H H2->∀E,Oq [.ref b,.int Vm,.ref zl,.ref zl] H2 Q E:=λ{Vm H2 mm x'} hb2 hmm hz2 c2 s2 E=>by
   refine⟨b,zl,mm,Vm,ys,rq,hb2,by omega,nbz,hz2,λt H3 tv hb3 sb3=>q t _ H3 (tv.up (by omega)) (hb3.mono hmm) (sb3 _ _ c2 nbl.symm) (s2.trans (S2.l sb3))⟩
  refine⟨_,rq,_,_,rq,rq,_,rq,Iz (λh2=>?_) (λh2=>?_)⟩
  ·exact⟨_,rq,_,rq,_,_,rq,rq,(by show (0:Int) < 4;decide),_,rq,_,rq,leaf hb2 (by omega) hz2 c2 s2 E0⟩
  have h2:¬((d+1:Nat):Int) < 2:=QaB h2;obtain⟨e,rfl⟩ : ∃e,d=e+1:=⟨d - 1,by omega⟩;have nde:nd (e+1)=6+2*nd e:=rfl;refine⟨_,rq,lf,_,_,_,rq,rq,SqL.of c2,rq,_,_,rq,rq,_,rq,Iz (λh3=>?_) (λh3=>?_)⟩
  ·exact⟨_,rq,_,rq,_,_,rq,rq,(by show (0:Int) < 4;decide),_,rq,_,rq,leaf hb2 (by omega) hz2 c2 s2 E0⟩
  unfold Wn;dsimp only;show Am (BX _ _ _) _ _ _ _;refine Ks (fun σ' H'=>∃wy:Int,0<=wy/\wy < 8/\σ'=[jd b,some (.int ((e+1+1:Nat):Int)),jd lf,jd zl,jd zl,some (.int wy),none,none]/\H'=H2) (fun σ' H3 hP=>?_) (λhR=>?_)
  ·obtain⟨wy,wy0,wy1,rfl,rfl⟩:=hP;refine⟨_,rq,_,_,rq,rq,_,rq,Iz (λh4=>?_) (λh4=>?_)⟩
   ·exact⟨_,rq,_,rq,_,rq,_,rq,leaf hb2 (by omega) hz2 c2 s2 E0⟩
   have h4:¬wy < 4:=QaB h4;refine⟨_,rq,rq,_,rq,ifN (λh5=>?_) (λh5=>?_)⟩
   ·refine⟨_,rq,_,rq,_,_,rq,rq,_,rq,_,rq,_,rq,hsp e (by omega) _ _ _ _ ⟨b,lf,zl,m+1,x - 1,ys,?_,hb2,by omega,nbl,nbz,nlz,hz2,c2,λt x' H4 tv hb4 c4 s4=>⟨Ar (by show 2<=1000;decide),λt2 ht2=>?_⟩⟩⟩
    ·show [V.ref b,V.int (((e+1+1:Nat):Int) - 1),_,_,_]=_;rw[show (((e+1+1:Nat):Int) - 1)=((e+1:Nat):Int) by omega]
    have sn:=Ag ht2 (.tup [.str "not",.ref t]);refine q t2 x' _ (Tv.mk (k:=e+1) Ae (λy hy=>?_) (by show 2<=40;decide)) ((hb4.same sn).mono (by omega)) (sn _ _ c4) (s2.trans (s4.trans (S2.of sn)));have hy:y=.str "not"\/y=.ref t:=by simpa using hy
    rcases hy with rfl | rfl
    ·exact Tv.word (by trivial)
    ·exact tv.tups (CZ.of sn)
   refine⟨_,rq,lf,_,_,_,rq,rq,SqL.of c2,rq,_,_,rq,rq,_,rq,lf,_,_,_,rq,rq,c2,rq,?_⟩;have s3:S2 b lf H (upd H3 lf (.lst [.int (x - 1 - 1)])):=s2.trans (S2.r Ah.upd);have c3:upd H3 lf (.lst [.int (x - 1 - 1)]) lf=some (.lst [.int (x - 1 - 1)]):=Ae;have hb3:Bh (upd H3 lf (.lst [.int (x - 1 - 1)])) b (m+1):=hb2.Dz Ah.upd nbl;have hz3:Bl (upd H3 lf (.lst [.int (x - 1 - 1)])) zl ys:=hz.s2 s3 nbz.symm nlz.symm;show Am _ _ _ _ (upd H3 lf (.lst [.int (x - 1 - 1)]));generalize upd H3 lf (.lst [.int (x - 1 - 1)])=H4 at *;refine⟨_,rq,_,rq,_,_,rq,rq,_,rq,_,rq,_,rq,hsp e (by omega) _ _ _ _ ⟨b,lf,zl,m+1,_,ys,?_,hb3,by omega,nbl,nbz,nlz,hz3,c3,λt1 x1 H5 tv1 hb5 c5 s5=>?_⟩⟩
   ·show [V.ref b,V.int (((e+1+1:Nat):Int) - 1),_,_,_]=_;rw[show (((e+1+1:Nat):Int) - 1)=((e+1:Nat):Int) by omega]
   have s05:=s3.trans s5;refine⟨_,rq,lf,_,_,_,rq,rq,SqL.of c5,rq,_,_,rq,rq,_,rq,lf,_,_,_,rq,rq,c5,rq,?_⟩;have s6:S2 b lf H (upd H5 lf (.lst [.int (x1+1)])):=s05.trans (S2.r Ah.upd);have c6:upd H5 lf (.lst [.int (x1+1)]) lf=some (.lst [.int (x1+1)]):=Ae;have hb6:Bh (upd H5 lf (.lst [.int (x1+1)])) b (m+1+nd e):=hb5.Dz Ah.upd nbl;have hz6:Bl (upd H5 lf (.lst [.int (x1+1)])) zl ys:=hz.s2 s6 nbz.symm nlz.symm;have tv6:Tv (upd H5 lf (.lst [.int (x1+1)])) (e+1) (.ref t1):=tv1.tups (CZ.upd (RZ c5));show Am _ _ _ _ (upd H5 lf (.lst [.int (x1+1)]));generalize upd H5 lf (.lst [.int (x1+1)])=H6 at *;refine⟨_,rq,_,rq,_,_,rq,rq,_,rq,_,rq,_,rq,hsp e (by omega) _ _ _ _ ⟨b,lf,zl,m+1+nd e,_,ys,?_,hb6,by omega,nbl,nbz,nlz,hz6,c6,λt2 x2 H7 tv2 hb7 c7 s7=>?_⟩⟩
   ·show [V.ref b,V.int (((e+1+1:Nat):Int) - 1),_,_,_]=_;rw[show (((e+1+1:Nat):Int) - 1)=((e+1:Nat):Int) by omega]
   have s07:=s6.trans s7;have Yh:=tv6.tups (s7.tup hb6.Ia (RZ c6));refine⟨_,rq,rq,_,rq,ifN (λh7=>?_) (λh7=>?_)⟩
   ·refine⟨_,rq,_,rq,_,rq,Ar (by show 4<=1000;decide),λl4 hl4=>?_⟩;have s4:=Ag hl4 (.lst [.int 1,.int 2,.int 4,.int 20]);have c4:upd H7 l4 (.lst [.int 1,.int 2,.int 4,.int 20]) l4=some (.lst [.int 1,.int 2,.int 4,.int 20]):=Ae;have hb8:=hb7.same s4;have nb4:b≠l4:=hb7.nb hl4;generalize upd H7 l4 (.lst [.int 1,.int 2,.int 4,.int 20])=H8 at *;refine⟨_,rq,b,_,4,rq,hb8,by omega,by decide,by decide,λr H9 r0 r1 hb9 sb9=>?_⟩;obtain⟨p,hp,p1,p20⟩:=eG r0 r1;refine⟨l4,_,_,_,rq,rq,SqL.of (sb9 _ _ c4 nb4.symm),hp,b,_,_,rq,hb9,by omega,by omega,by omega,λr2 Ha r20 r21 hba sba=>⟨_,_,rq,rq,Ar (by show 4<=1000;decide),λt ht=>?_⟩⟩;have sn:=Ag ht (.tup [.str "then",.ref t1,.ref t2,.int (1+r2)]);have sB:Ah b H7 Ha:=(Ah.of s4).trans (sb9.trans sba);have tU:CZ H7 (upd Ha t (.tup [.str "then",.ref t1,.ref t2,.int (1+r2)])):=(sB.tup hb7.Ia).trans (CZ.of sn);refine q t x2 _ (Tv.mk (k:=e+1) Ae (λy hy=>?_) (by show 4<=40;decide)) ((hba.same sn).mono (by omega)) (sn _ _ (sB _ _ c7 nbl.symm)) (s07.trans ((S2.l sB).trans (S2.of sn)));have hy:y=.str "then"\/y=.ref t1\/y=.ref t2\/y=.int (1+r2):=by simpa using hy
    rcases hy with rfl | rfl | rfl | rfl
    ·exact Tv.word (by trivial)
    ·exact Yh.tups tU
    ·exact tv2.tups tU
    ·exact Tv.int (by omega)
   ·refine⟨Ar (by show 2<=1000;decide),λl2 hl2=>?_⟩;have s4:=Ag hl2 (.lst [.str "and",.str "or"]);have c4:upd H7 l2 (.lst [.str "and",.str "or"]) l2=some (.lst [.str "and",.str "or"]):=Ae;have hb8:=hb7.same s4;have c8:=s4 _ _ c7;generalize upd H7 l2 (.lst [.str "and",.str "or"])=H8 at *;have hw:wy=5\/wy=6:=by omega
    obtain⟨wd,hwd,aw⟩ : ∃wd:Str,atI [V.str "and",.str "or"] (wy - 5)=some (.str wd)/\Mx wd=true:=by
     rcases hw with rfl | rfl
     ·exact⟨"and",rq,by trivial⟩
     ·exact⟨"or",rq,by trivial⟩
    refine⟨_,rq,_,_,rq,rq,l2,_,_,_,rq,rq,SqL.of c4,hwd,_,rq,_,rq,Ar (by show 3<=1000;decide),λt ht=>?_⟩;have sn:=s4.trans (Ag ht (.tup [.str wd,.ref t1,.ref t2]));refine q t x2 _ (Tv.mk (k:=e+1) Ae (λy hy=>?_) (by show 3<=40;decide)) ((hb7.same sn).mono (by omega)) (sn _ _ c7) (s07.trans (S2.of sn));have hy:y=.str wd\/y=.ref t1\/y=.ref t2:=by simpa using hy
    rcases hy with rfl | rfl | rfl
    ·exact Tv.word aw
    ·exact Yh.tups (CZ.of sn)
    ·exact tv2.tups (CZ.of sn)
  ·refine⟨_,rq,_,_,rq,rq,_,rq,Iz (λh4=>?_) (λh4=>hR _ _ ⟨way,w0,w1,rq,rq⟩)⟩;refine⟨_,rq,lf,_,_,_,rq,rq,SqL.of c2,rq,_,_,rq,rq,_,rq,Iz (λh5=>hR _ _ ⟨4,by decide,by decide,rq,rq⟩) (λh5=>hR _ _ ⟨way,w0,w1,rq,rq⟩)⟩
 intro k
 induction k with
 | zero=>exact step 0 2 (λ_ _ _ _=>False) (λe he=>absurd he (by omega)) (c.good Cr (λvs H Q E h=>h.elim) (λf cdv A outer s H vs Q E hr h=>h.elim)) (by decide) (by decide)
 | succ e ih=>exact step (e+1) (3+e) (Lb e) (λd hd vs H Q E h=>⟨d,by omega,h⟩) ih (by omega) (by omega)
end
def QV:Sp:=λvs H Q _=>∃(b:Addr) (m:Nat),vs=[.ref b]/\Bh H b m/\m<=5000/\∀t H',Tv H' 6 (.ref t)->Bh H' b (m+1500)->Ah b H H'->Q (.ref t) H'
theorem eN {r i:Int} (r0:0<=r) (r6:r < 6) (i0:0<=i) (i8:i < 8):∃n:Nat,atI [V.int (1+r),.int 16,.int 17] (if i - 5 > 0 then i - 5 else 0)=some (.int n)/\n<=17:=by
 have:(if i - 5 > 0 then i - 5 else 0)=0\/(if i - 5 > 0 then i - 5 else 0)=1\/(if i - 5 > 0 then i - 5 else 0)=2:=by split <;> omega
 rcases this with h | h | h <;> rw[h]
 ·exact⟨(1+r).toNat,(by rw[Int.toNat_of_nonneg (by omega)];rfl),by omega⟩
 ·exact⟨16,rq,by decide⟩
 ·exact⟨17,rq,by decide⟩
theorem S2.fresh {b l:Addr} {H H':Hp} (s:S2 b l H H') (f:H l=none):Ah b H H':=λc o e n=>s _ _ e n (λz=>by rw[z,f] at e;cases e)
section
variable {P:Program} {w:World} {K:YD} {mg:YB} {base:Heap}
theorem Vx (c:Code K mg "_law_rules" JC GP) (T:Tc mg) (Ba:Good P w K mg base "_law_take" 1 Dl GJ) (KH:Good P w K mg base "_law_name" 2 Gi Oo) (JR:Good P w K mg base "_law_names" 3 Fv LK) (CW:Good P w K mg base "_law_condition" 8 Cm (Lb 5)):Good P w K mg base "_law_rules" 9 GP QV:=by
 refine c.good FP (λvs H Q E h=>?_) (λf cdv A outer s H vs Q E hr h=>?_)
 ·obtain⟨b,m,rfl,_⟩:=h;rfl
 obtain⟨b,m,rfl,hb,hm,q⟩:=h;refine⟨_,(@Ad _ _ _ _ _ (@Bg _ _ 1 _ _ _ _ FP.nd rfl (Or.inl rfl) (Al JR hr (Aa (pv 0) (Aa Ab Ac))) (by rfl) (by first | exact .inl rfl | exact .inr rfl))
 (@Ad _ _ _ _ _ (@Bg _ _ 2 _ _ _ _ FP.nd rfl (Or.inl rfl) (Ce Ac) (by rfl) (by first | exact .inl rfl | exact .inr rfl))
 (@Ad _ _ _ _ _ (GK QaW rfl (El rfl T.range (Aa (@Ay _ _ _ _ _ _ _ Bs (Ce (Aa (@Aq _ _ _ _ _ _ _ _ Ca Ab (Al Ba hr (Aa (pv 0) (Aa Ab Ac)))) (Aa Ab (Aa Ab Ac)))) (Ao (Ng rfl) rfl T.max Vc (Aa Ab (Aa (@Aq _ _ _ _ _ _ _ _ Eh (Al Ba hr (Aa (pv 0) (Aa Ab Ac))) Ab) Ac))) (λ_ _=>rfl)) Ac)) (Cd (i:=3) FP.nd rfl (Or.inl rfl))
 (@Ad _ _ _ _ _ (@Bg _ _ 4 _ _ _ _ FP.nd rfl (Or.inl rfl) (Al CW hr (@Aa _ _ _ _ _ (pv 0) (@Aa _ _ _ _ _ (@Ab _ _ _ _) (@Aa _ _ _ _ _ (Ce (Aa (@Aq _ _ _ _ _ _ _ _ Ca Ab (Al Ba hr (Aa (pv 0) (Aa Ab Ac)))) Ac)) (@Aa _ _ _ _ _ (pv 1) (@Aa _ _ _ _ _ (pv 1) (@Ac _) BZ) BZ) La) Az) BZ)) (by rfl) (by first | exact .inl rfl | exact .inr rfl))
 (@Af _ _ _ (Bj (Bc Dd (Al Ba hr (Aa (pv 0) (Aa Ab Ac))) Ab (Bb _)) (@Af _ _ _ (Ma (Oc PySem.F.plainAttrs_list PySem.F.slot_list_append PySem.F.type_list_append Hg (pv 2) (Aa (Bx (Aa Ai (Aa (Al KH hr (Aa (pv 0) Ac)) (Aa (pv 4) Ac)))) Ac)))) (@Af _ _ _ (Ma (Oc PySem.F.plainAttrs_list PySem.F.slot_list_append PySem.F.type_list_append Hg (pv 2) (Aa (Bx (Aa Ai (Aa (@Aq _ _ _ _ _ _ _ _ Ca Ab (Al Ba hr (Aa (pv 0) (Aa Ab Ac)))) (Aa (pv 4) Ac)))) Ac))))))))
 (@Af _ _ _ (@Ak _ _ _ _ (Il N5 rfl T.tuple Fj (Aa (pv 2) Ac))))))),?_⟩
 show let R0:TS:=_;let R1:TS:=_;let R2:TS:=_;let R3:TS:=BX _ R1 R2;let R4:TS:=Am _ R3;let R5:TS:=Am (Jg _ _ R4) R0;let R6:TS:=Am _ R5;Am _ R6 _ _ _;intro R0 R1 R2 R3 R4 R5 R6;refine⟨_,rq,b,m,3,rq,hb,by omega,by omega,λln ys H1 fln hys hyo hyn hln hb1 sb1=>?_⟩;have nbn:b≠ln:=hb.nb fln;have hz1:Bl H1 ln ys:=⟨hln,by omega,by omega,hyo⟩;refine⟨Ar (by show 0<=1000;decide),λlr hlr=>?_⟩;have sr:=Ag hlr (.lst []);have cr:upd H1 lr (.lst []) lr=some (.lst []):=Ae;have nbr:b≠lr:=hb1.nb hlr;have nnr:ln≠lr:=BK hln hlr;have fr:H lr=none:=sb1.free hb1.ex hlr;have hb2:=hb1.same sr;have sb2:=sb1.trans (Ah.of sr);have hz2:Bl (upd H1 lr (.lst [])) ln ys:=⟨sr _ _ hln,hz1.2⟩;generalize upd H1 lr (.lst [])=H2 at *;refine⟨_,rq,b,_,6,rq,hb2,by omega,by decide,by decide,λr H3 r0 r1 hb3 sb3=>⟨_,_,rq,rq,Ar (by show 3<=1000;decide),λl3 hl3=>?_⟩⟩;have s4:=Ag hl3 (.lst [.int (1+r),.int 16,.int 17]);have c4:upd H3 l3 (.lst [.int (1+r),.int 16,.int 17]) l3=some (.lst [.int (1+r),.int 16,.int 17]):=Ae;have nb3:b≠l3:=hb3.nb hl3;have hb4:=hb3.same s4;have s24:Ah b H2 (upd H3 l3 (.lst [.int (1+r),.int 16,.int 17])):=sb3.trans (Ah.of s4);show Wo _ _ _ (upd H3 l3 (.lst [.int (1+r),.int 16,.int 17])) _;generalize upd H3 l3 (.lst [.int (1+r),.int 16,.int 17])=H4 at *;refine⟨_,rq,b,_,8,rq,hb4,by omega,by decide,by decide,λr2 H5 r20 r21 hb5 sb5=>?_⟩;obtain⟨n,hn,n17⟩:=eN r0 r1 r20 r21;refine⟨_,_,rq,rq,_,_,rq,l3,_,_,_,rq,rq,SqL.of (sb5 _ _ c4 nb3.symm),hn,_,rq,by omega,by omega,?_⟩;rw[QaH];have s25:=s24.trans sb5;let J0:YN:=λi U HH=>∃(u3 u4:Option V) (xs:YG),U=[jd b,jd ln,jd lr,u3,u4]/\HH lr=some (.lst xs)/\xs.length=i/\(∀x∈xs,Tv HH 5 x)/\Bh HH b (m+30+80*i)/\Bl HH ln ys/\Ah b H HH;refine Fy J0 ⟨none,none,[],rq,s25 _ _ cr nbr.symm,rq,(λx hx=>by cases hx),hb5.mono (by omega),hz2.Dz s25 nbn.symm,sb2.trans s25⟩ (λi U HH hi h=>?_) (fun U HH h=>?_)
 ·obtain⟨u3,u4,xs,rfl,e1,e2,e3,e4,e5,e6⟩:=h;refine⟨_,rq,_,rq,b,_,6,rq,e4,by omega,by decide,by decide,λr3 H6 r30 r31 hb6 sb6=>⟨_,_,rq,rq,Ar (by show 1<=1000;decide),λlf hlf=>?_⟩⟩;have s7:=Ag hlf (.lst [.int (1+r3)]);have c7:upd H6 lf (.lst [.int (1+r3)]) lf=some (.lst [.int (1+r3)]):=Ae;have nbf:b≠lf:=hb6.nb hlf;have s67:Ah b HH (upd H6 lf (.lst [.int (1+r3)])):=sb6.trans (Ah.of s7);have ff:HH lf=none:=sb6.free hb6.ex hlf;have nfn:lf≠ln:=λz=>by rw[z,e5.1] at ff;cases ff
  have nfr:lf≠lr:=λz=>by rw[z,e1] at ff;cases ff
  have hb7:=hb6.same s7;have hz7:Bl (upd H6 lf (.lst [.int (1+r3)])) ln ys:=e5.Dz s67 nbn.symm;generalize upd H6 lf (.lst [.int (1+r3)])=H7 at *;have fU:nd 3=66:=rfl;refine⟨_,rq,_,rq,3,by decide,b,lf,ln,_,_,ys,rq,hb7,by omega,nbf,nbn,nfn,hz7,c7,λt x' H8 tv hb8 c8 s8=>?_⟩;have s08:Ah b HH H8:=λc o e n=>s8 _ _ (s67 _ _ e n) n (λz=>by rw[z,ff] at e;cases e);refine⟨_,rq,b,_,2,rq,hb8,by omega,by decide,by decide,λr4 H9 r40 r41 hb9 sb9=>⟨rq,_,rq,?_⟩⟩;have s09:=s08.trans sb9;have fin:∀(HA:Hp) (k:Nat) (z:V) (wd:Str),Bh HA b (m+30+80*i+1+nd 3+1+k)->k<=10->Ah b H9 HA->Tv HA 4 z->Mx wd=true->∀ta,HA ta=none->∃(u3 u4:Option V) (xs':YG),[jd b,jd ln,jd lr,some (.int (0+(i:Int))),jd t]=[jd b,jd ln,jd lr,u3,u4]/\(upd (upd HA ta (.tup [.str wd,z,.ref t])) lr (.lst (xs++[.ref ta]))) lr=some (.lst xs')/\xs'.length=i+1/\(∀x∈xs',Tv (upd (upd HA ta (.tup [.str wd,z,.ref t])) lr (.lst (xs++[.ref ta]))) 5 x)/\Bh (upd (upd HA ta (.tup [.str wd,z,.ref t])) lr (.lst (xs++[.ref ta]))) b (m+30+80*(i+1))/\Bl (upd (upd HA ta (.tup [.str wd,z,.ref t])) lr (.lst (xs++[.ref ta]))) ln ys/\Ah b H (upd (upd HA ta (.tup [.str wd,z,.ref t])) lr (.lst (xs++[.ref ta]))):=λHA k z wd hbA hk sA tz aw ta hta=>by
   have sn:=Ag hta (.tup [.str wd,z,.ref t]);have s0A:=s09.trans (sA.trans (Ah.of sn));have cA:=s0A _ _ e1 nbr.symm;have tu:=CZ.upd (H:=upd HA ta (.tup [.str wd,z,.ref t])) (b:=lr) (o:=.lst (xs++[.ref ta])) (RZ cA);refine⟨_,_,xs++[.ref ta],rq,Ae,by rw[Qaw,e2];rfl,λy hy=>?_,((hbA.same sn).Dz Ah.upd nbr).mono (by omega),?_,Ah.Ws (e6.trans s0A) Ah.upd fr⟩
   ·rcases QaR.mp hy with hy | hy
    ·exact (e3 y hy).tups ((s0A.tup e4.Ia).trans tu)
    ·have:y=.ref ta:=by simpa using hy
     rw[this];refine Tv.mk (k:=4) (tu _ _ Ae) (λy hy=>?_) (by show 3<=40;decide);have hy:y=.str wd\/y=z\/y=.ref t:=by simpa using hy
     rcases hy with rfl | rfl | rfl
     ·exact Tv.word aw
     ·exact tz.tups ((CZ.of sn).trans tu)
     ·exact tv.tups (((sb9.trans sA).tup hb8.Ia).trans ((CZ.of sn).trans tu))
   ·exact Bl.Dz (e5.Dz s0A nbn.symm) Ah.upd nnr
  have g1:=s09 _ _ e1 nbr.symm;refine ifN (λ_=>?_) (λ_=>?_)
  ·refine⟨_,rq,.inl ⟨rq,_,SqL.of g1⟩,_,rq,b,_,rq,hb9,by omega,λz HA z1 z8 zo hbA sA=>⟨_,rq,Ar (by show 3<=1000;decide),λta hta=>?_⟩⟩;exact⟨lr,_,_,rq,rq,Ag hta _ _ _ (sA _ _ g1 nbr.symm),Ck (by omega),fin HA 9 _ _ hbA (by decide) sA (Tv.name zo z8) (by trivial) ta hta⟩
  ·refine⟨_,rq,.inl ⟨rq,_,SqL.of g1⟩,_,rq,b,_,99,rq,hb9,by omega,by decide,by decide,λr5 HA r50 r51 hbA sA=>⟨_,_,rq,rq,_,rq,Ar (by show 3<=1000;decide),λta hta=>?_⟩⟩;exact⟨lr,_,_,rq,rq,Ag hta _ _ _ (sA _ _ g1 nbr.symm),Ck (by omega),fin HA 1 _ _ hbA (by decide) sA (Tv.int (by omega)) (by trivial) ta hta⟩
 ·obtain⟨u3,u4,xs,rfl,e1,e2,e3,e4,e5,e6⟩:=h;refine⟨_,rq,lr,_,rq,.inl ⟨SqL.of e1,λt ht=>?_⟩⟩;have st:=Ag ht (.tup xs);exact q t _ (Tv.mk (k:=5) Ae (λy hy=>(e3 y hy).tups (CZ.of st)) (by omega)) ((e4.same st).mono (by omega)) (e6.trans (Ah.of st))
end
abbrev JD:Stmt:=top 22
abbrev GQ:YF:=["_law_bag_here","_law_thing"]
theorem Hq:Bm ["_law_bag_here","_law_thing","_law_way","_law_some"] GQ (Aj JD):=by ac_rfl
abbrev Jj:Stmt:=top 23
abbrev Eb:YF:=GQ
theorem Gu:Bm ["_law_bag_here","_law_thing","_law_at"] Eb (Aj Jj):=by ac_rfl
theorem Xr {s:String} {c:Nat} (h:c∈(Str.ofString s).cps.toList):∃ch∈s.toList,ch.toNat=c:=by
 rw[PyProof.Rows.signs_ofString] at h;obtain⟨ch,h1,h2⟩:=List.mem_map.mp h;exact⟨ch,h1,h2⟩
theorem Yt {w k:Nat} {z:Str} (h:Sl w k (.str z)):Sl (w+1) k (.str (z++"a")):=by
 obtain⟨h1,h2⟩:=h.RD;refine IV ?_ λc hc=>?_
 ·show (z.cps++(Str.ofString "a").cps).size<=w+1;rw[Array.size_append];have:(Str.ofString "a").cps.size=1:=by trivial
  have h1:z.cps.size<=w:=h1;omega
 ·have hc:c∈(z.cps++(Str.ofString "a").cps).toList:=hc;rw[Array.toList_append] at hc;rcases QaR.mp hc with hc | hc
  ·exact h2 c hc
  ·have:(Str.ofString "a").cps.toList=[97]:=by trivial
   rw[this] at hc;rw[Qax.mp hc]
   decide
theorem Ys {w k:Nat} {z:Str} (h:Sl w k (.str z)) (lo hi:Option Int):Sl w k (.str (Txt.slice z lo hi)):=by
 obtain⟨h1,h2⟩:=h.RD;refine IV (Qbk (Txt.slice_le z lo hi) h1) λc hc=>?_;unfold Txt.slice at hc;split at hc
 ·exact h2 c hc
 ·have hc:=List.mem_toArray.mp (Qan.mp hc);obtain⟨i,_,hi⟩:=List.mem_filterMap.mp hc;exact h2 c (Qan.mpr (Array.mem_of_getElem? hi))
theorem Z4 {w k:Nat} {z:Str} (h:Sl w k (.str z)):Sl w k (.str (Txt.upper z)):=by
 obtain⟨h1,h2⟩:=h.RD;rw[PyProof.Rows.upper_ascii h2];refine IV ?_ λc hc=>?_
 ·show (z.cps.map PyProof.Rows.up1).size<=w;rw[Array.size_map];exact h1
 ·have hc:c∈(z.cps.map PyProof.Rows.up1).toList:=hc;rw[Array.toList_map] at hc;obtain⟨a,ha,rfl⟩:=List.mem_map.mp hc;have:=h2 a ha;unfold PyProof.Rows.up1;split <;> omega
theorem Yp {w k:Nat} (hw:1<=w) {i:Int} (h:i.natAbs < 10 ^ w):Sl (w+1) k (.str (toString i)):=by
 refine IV ?_ λc hc=>?_
 ·show (Str.ofString (toString i)).length<=w+1;rw[ofString_length];exact int_text_length_le10 (by omega) h
 ·obtain⟨ch,h1,rfl⟩:=Xr hc;exact int_ascii i ch h1
theorem Y7 {w:Nat} (hw:w<=500) {i:Int} (h:i.natAbs < 10 ^ w):i.natAbs.log2 < 1920:=by
 by_cases z:i.natAbs=0
 ·rw[z];decide
 ·rw[Nat.log2_lt z];refine Qat h (Qbk (Nat.pow_le_pow_right (by decide) hw) ?_)
  decide +kernel
theorem QZ {w k:Nat} {i:Int} (h:i.natAbs < 10 ^ w) (j:Int) (hj:j.natAbs<=1):Sl (w+1) k (.int (i+j)):=by
 refine Ox ?_;have:10 ^ (w+1)=10 ^ w*10:=Nat.pow_succ ..;have p:1<=10 ^ w:=Qbk Nat.one_le_two_pow (Nat.pow_le_pow_left (by decide) w);omega
theorem Rp {xs:YG} {lo hi:Option Int} {y:V} (h:y∈Dy xs lo hi):y∈xs:=by
 unfold Dy at h;exact List.mem_of_mem_drop (List.mem_of_mem_take h)
theorem Qo {i:Int} (h0:0<=i) (h1:i < 9) {a0 a1 a2 a3 a4 a5 a6 a7 a8:V} (P:V->Prop) (p0:P a0) (p1:P a1) (p2:P a2) (p3:P a3) (p4:P a4) (p5:P a5) (p6:P a6) (p7:P a7) (p8:P a8):∃v,atI [a0,a1,a2,a3,a4,a5,a6,a7,a8] i=some v/\P v:=by
 have:i=0\/i=1\/i=2\/i=3\/i=4\/i=5\/i=6\/i=7\/i=8:=by omega
 rcases this with rfl | rfl | rfl | rfl | rfl | rfl | rfl | rfl | rfl
 ·exact⟨_,rq,p0⟩
 ·exact⟨_,rq,p1⟩
 ·exact⟨_,rq,p2⟩
 ·exact⟨_,rq,p3⟩
 ·exact⟨_,rq,p4⟩
 ·exact⟨_,rq,p5⟩
 ·exact⟨_,rq,p6⟩
 ·exact⟨_,rq,p7⟩
 ·exact⟨_,rq,p8⟩
theorem eE {i:Int} (h0:0<=i) (h1:i < 6) {a0 a1 a2 a3 a4 a5:V} (P:V->Prop) (p0:P a0) (p1:P a1) (p2:P a2) (p3:P a3) (p4:P a4) (p5:P a5):∃v,atI [a0,a1,a2,a3,a4,a5] i=some v/\P v:=by
 have:i=0\/i=1\/i=2\/i=3\/i=4\/i=5:=by omega
 rcases this with rfl | rfl | rfl | rfl | rfl | rfl
 ·exact⟨_,rq,p0⟩
 ·exact⟨_,rq,p1⟩
 ·exact⟨_,rq,p2⟩
 ·exact⟨_,rq,p3⟩
 ·exact⟨_,rq,p4⟩
 ·exact⟨_,rq,p5⟩
def Ou (b:Addr) (w k:Nat) (H:Hp) (v:V):Prop:=∃d,Rep (hid b H) v d/\Sl w k d
theorem Ou.same {b:Addr} {w k:Nat} {H H':Hp} {v:V} (h:Ou b w k H v) (s:Ah b H H'):Ou b w k H' v:=by
 obtain⟨d,h1,h2⟩:=h;exact⟨d,Rep.same (Bv s) h1,h2⟩
theorem Ou.mono {b:Addr} {w k w' k':Nat} {H:Hp} {v:V} (h:Ou b w k H v) (hw:w<=w') (hk:k<=k'):Ou b w' k' H v:=by
 obtain⟨d,h1,h2⟩:=h;exact⟨d,h1,h2.mono hw hk⟩
theorem Ou.tup {b p:Addr} {w k:Nat} {H:Hp} {ys:YG} (h:H p=some (.tup ys)) (n:p≠b) (hy:∀y∈ys,Ou b w k H y) (l:ys.length<=w):Ou b w (k+1) H (.ref p):=by
 obtain⟨ds,r,s,e⟩:=Ka hy;exact⟨.tuple ds,.tup (Kg n h) r,Sl.tup s (by omega)⟩
theorem Ou.lst {b p:Addr} {w k:Nat} {H:Hp} {ys:YG} (h:H p=some (.lst ys)) (n:p≠b) (hy:∀y∈ys,Ou b w k H y) (l:ys.length<=w):Ou b w (k+1) H (.ref p):=by
 obtain⟨ds,r,s,e⟩:=Ka hy;exact⟨.list ds,.lst (Kg n h) r,Sl.lst s (by omega)⟩
theorem Ou.non (b:Addr) (w k:Nat) (H:Hp):Ou b w k H .non:=⟨_,.non,Yq _ _⟩
theorem Ou.bl (b:Addr) (w k:Nat) (H:Hp) (x:Bool):Ou b w k H (.bl x):=⟨_,.bl x,Z5 _ _ _⟩
theorem Ou.i {b:Addr} {w k:Nat} {H:Hp} {i:Int} (h:i.natAbs < 1000000) (hw:30<=w):Ou b w k H (.int i):=⟨_,.int i,(Yr h).mono hw (Qbm _)⟩
theorem Ou.s {b:Addr} {w k:Nat} {H:Hp} {z:Str} (h:Mx z=true) (hw:30<=w):Ou b w k H (.str z):=⟨_,.str z,(Oz h).mono hw (Qbm _)⟩
def tT9:TE:=fun U H Q=>∃(t:Addr) (xs:YG),U[1]?=some (some (.ref t))/\H t=some (.tup xs)/\xs.length<=900/\∀l vs H',H' l=some (.lst vs)->vs.length=9->Same H H'->(∀v∈vs,∃p ys,v=.ref p/\(H' p=some (.tup ys)\/(H' p=some (.lst ys)/\H p=none))/\(∀y∈ys,y∈xs\/y=.ref t\/y=.int 1\/y=.str "not")/\(ys.length<=xs.length+1\/ys.length<=2))->Q (.ref l) H'
def tS9:TE:=fun U H Q=>∃z:Str,U[1]?=some (some (.str z))/\z.length<=900/\∀l H',H' l=some (.lst [.str (z++"a"),.str (Txt.slice z none (some (-1))),.str (Txt.upper z),.str "",.str "and",.str "then",.str "of",.str "key",.str "not"])->Same H H'->Q (.ref l) H'
def tI9:TE:=fun U H Q=>∃(v:V) (i:Int) (z:Str),U[1]?=some (some v)/\VF v=some i/\((∃j:Int,v=.int j/\j.natAbs.log2 < 1920/\z=toString j)\/∃x:Bool,v=.bl x/\z=(if x=true then Str.ofString "True" else Str.ofString "False"))/\∀l8 l H',H' l=some (.lst [.int (i+1),.int (i - 1),.int 0,.int 1,.int 10,.int 24,.int 21,.ref l8,.str z])->H' l8=some (.lst [v])->H l8=none->Same H H'->Q (.ref l) H'
def tO9:TE:=λ_ H Q=>∀l p2 p3 p6 H',H' l=some (.lst [.non,.ref p2,.ref p3,.str "key",.int 0,.ref p6,.bl true,.str "",.int 5])->H' p2=some (.lst [])->H p2=none->H' p3=some (.tup [])->H' p6=some (.tup [.str "key",.int 1])->Same H H'->Q (.ref l) H'
def tX6:TE:=λ_ H Q=>∀l H',H' l=some (.lst [.non,.bl true,.bl false,.str "",.int (-1),.int (10 ^ (20:Int).toNat)])->H l=none->Same H H'->Q (.ref l) H'
def QW:Sp:=λvs H Q _=>∃(b:Addr) (v:V) (m w k:Nat) (d:PyData),vs=[.ref b,v]/\Bh H b m/\m<=9000/\Rep (hid b H) v d/\Sl w k d/\30<=w/\w<=500/\∀v' H',Ou b (w+1) (k+2) H' v'->Bh H' b (m+2)->Ah b H H'->Q v' H'
section
variable {P:Program} {w:World} {K:YD} {mg:YB} {base:Heap}
theorem Vy (c:Code K mg "_law_other" JD GQ) (T:Tc mg) (Ba:Good P w K mg base "_law_take" 1 Dl GJ):Good P w K mg base "_law_other" 2 GQ QW:=by
 refine c.good Hq (λvs H Q E h=>?_) (λf cdv A outer s H vs Q E hr h=>?_)
 ·obtain⟨b,v,m,w,k,d,rfl,_⟩:=h;rfl
 obtain⟨b,v,m,w,k,d,rfl,hb,hm,rd,sl,w30,Rv,q⟩:=h;refine⟨_,(@Ad _ _ _ _ _ (@Bg _ _ 2 _ _ _ _ Hq.nd rfl (Or.inl rfl) (Al Ba hr (Aa (pv 0) (Aa Ab Ac))) (by rfl) (by first | exact .inl rfl | exact .inr rfl))
 (@Ad _ _ _ _ _ (Bj (Bc Dd (pv 2) Ab (Bb _)) (@Af _ _ _ (@Ak _ _ _ _ (@Ay _ _ _ _ _ _ _ Bs (@PE.weak _ _ _ tX6 (@Ce _ _ _ _ (@Aa _ _ _ _ _ (@T8 _ _ _) (@Aa _ _ _ _ _ (@Cw _ _ _ _) (@Aa _ _ _ _ _ (@Cw _ _ _ _) (@Aa _ _ _ _ _ (@Ai _ _ _ _) (@Aa _ _ _ _ _ (@Ob _ _ _ _ _ _ K8 (@Ab _ _ _ _)) (@Aa _ _ _ _ _ (@Aq _ _ _ _ _ _ _ _ O8 Ab Ab) (@Ac _) GF) Z2) Az) Az) Az) Az)) (fun U H Q h=>by
    refine⟨_,rq,_,_,rq,rq,⟨by decide,by decide,by decide⟩,Ar (by show 6<=1000;decide),λl fl=>?_⟩;exact h l _ Ae fl (Ag fl _))) (Al Ba hr (Aa (pv 0) (Aa Ab Ac))) (λ_ _=>rfl)))) Av)
 (@Ad _ _ _ _ _ (Bj (Bt (Ao BW rfl T.isinstance Bk (Aa (pv 1) (Aa (Cg (v:=.ty "tuple") rfl T.tuple Fj rfl) Ac)))) (@Ad _ _ _ _ _ (@Bg _ _ 3 _ _ _ _ Hq.nd rfl (Or.inl rfl) (@PE.weak _ _ _ tT9 (@Ce _ _ _ _ (@Aa _ _ _ _ _ (Il Qj rfl T.list XQ (Aa (pv 1) Ac)) (@Aa _ _ _ _ _ (Dv Gf (pv 1) Ft (Dh (Ob K8 Ab))) (@Aa _ _ _ _ _ (@Aq _ _ _ _ _ _ _ _ KC (pv 1) (Bx (Aa Ab Ac))) (@Aa _ _ _ _ _ (@Bx _ _ _ _ _ (Aa Ai (Aa (pv 1) Ac))) (@Aa _ _ _ _ _ (@Bx _ _ _ _ _ (Aa (pv 1) Ac)) (@Aa _ _ _ _ _ (T6 (pv 1) (Dh (Ob K8 Ab))) (@Aa _ _ _ _ _ (@Bx _ _ _ _ _ (@Ac _)) (@Aa _ _ _ _ _ (Dv Gf (pv 1) (Dh Ab) Ft) (@Aa _ _ _ _ _ (pv 1) (@Ac _) BZ) K9) Jz) K9) Jz) Jz) GF) K9) LC)) (fun U H Q h=>by
    obtain⟨t,xs,e1,ht,hx,q⟩:=h;refine⟨_,e1,t,_,rq,.inr (SqT.of ht),λp1 f1=>?_⟩;have z1:=Ag f1 (.lst xs);have c1:upd H p1 (.lst xs) p1=some (.lst xs):=Ae;generalize upd H p1 (.lst xs)=G1 at *;refine⟨_,e1,_,rq,_,rq,t,_,rq,z1 _ _ ht,λp2 G2 c2 s2=>?_⟩;have z2:=z1.trans s2;refine⟨_,e1,Ar (by show 1<=1000;decide),λp3 f3=>?_⟩;have s3:=Ag f3 (.tup [.int 1]);have c3:upd G2 p3 (.tup [.int 1]) p3=some (.tup [.int 1]):=Ae;generalize upd G2 p3 (.tup [.int 1])=G3 at *;have z3:=z2.trans s3;refine⟨t,p3,_,_,rq,rq,z3 _ _ ht,c3,Ar (by show _+1<=1000;omega),λp4 G4 c4 s4=>?_⟩;have z4:=z3.trans s4;refine⟨_,e1,Ar (by show 2<=1000;decide),λp5 f5=>?_⟩;have s5:=Ag f5 (.tup [.str "not",.ref t]);have c5:upd G4 p5 (.tup [.str "not",.ref t]) p5=some (.tup [.str "not",.ref t]):=Ae;generalize upd G4 p5 (.tup [.str "not",.ref t])=G5 at *;have z5:=z4.trans s5;refine⟨_,e1,Ar (by show 1<=1000;decide),λp6 f6=>?_⟩;have s6:=Ag f6 (.tup [.ref t]);have c6:upd G5 p6 (.tup [.ref t]) p6=some (.tup [.ref t]):=Ae;generalize upd G5 p6 (.tup [.ref t])=G6 at *;have z6:=z5.trans s6;refine⟨_,e1,_,rq,_,rq,rq,t,_,rq,SqT.of (z6 _ _ ht),λp7 f7=>?_⟩;have s7:=Ag f7 (.tup xs.reverse);have c7:upd G6 p7 (.tup xs.reverse) p7=some (.tup xs.reverse):=Ae;generalize upd G6 p7 (.tup xs.reverse)=G7 at *;have z7:=z6.trans s7;refine⟨Ar (by show 0<=1000;decide),λp8 f8=>?_⟩;have s8:=Ag f8 (.tup []);have c8:upd G7 p8 (.tup []) p8=some (.tup []):=Ae;generalize upd G7 p8 (.tup [])=G8 at *;have z8:=z7.trans s8;refine⟨_,e1,_,rq,t,_,rq,z8 _ _ ht,λp9 G9 c9 s9=>?_⟩;have z9:=z8.trans s9;refine⟨_,e1,Ar (by show 9<=1000;decide),λl fl=>?_⟩;have s10:=Ag fl (.lst [.ref p1,.ref p2,.ref p4,.ref p5,.ref p6,.ref p7,.ref p8,.ref p9,.ref t]);have cl:upd G9 l (.lst [.ref p1,.ref p2,.ref p4,.ref p5,.ref p6,.ref p7,.ref p8,.ref p9,.ref t]) l=some (.lst [.ref p1,.ref p2,.ref p4,.ref p5,.ref p6,.ref p7,.ref p8,.ref p9,.ref t]):=Ae;have zA:=z9.trans s10;have k9:=s9.trans s10;have k8:=s8.trans k9;have k7:=s7.trans k8;have k6:=s6.trans k7;have k5:=s5.trans k6;have k4:=s4.trans k5;have k3:=s3.trans k4;have k2:=s2.trans k3;generalize upd G9 l (.lst [.ref p1,.ref p2,.ref p4,.ref p5,.ref p6,.ref p7,.ref p8,.ref p9,.ref t])=GA at *;refine q l _ GA cl rfl zA ?_;refine Hj ⟨p1,xs,rq,.inr ⟨k2 _ _ c1,f1⟩,λy hy=>.inl hy,.inl (by omega)⟩ ?_;refine Hj ⟨p2,_,rq,.inl (k3 _ _ c2),λy hy=>.inl (Rp hy),.inl (Qbk (Gy _ _ _) (by omega))⟩ ?_;refine Hj ⟨p4,_,rq,.inl (k5 _ _ c4),λy hy=>(QaR.mp hy).elim .inl (λz=>.inr (.inr (.inl (Qax.mp z)))),.inl (by rw[Qaw];exact Qbm _)⟩ ?_;refine Hj ⟨p5,_,rq,.inl (k6 _ _ c5),(λy hy=>by
     have hy:y=.str "not"\/y=.ref t:=by simpa using hy
     rcases hy with h | h
     ·exact .inr (.inr (.inr h))
     ·exact .inr (.inl h)),.inr (Qbm _)⟩ ?_
    refine Hj ⟨p6,_,rq,.inl (k7 _ _ c6),λy hy=>.inr (.inl (Qax.mp hy)),.inr (by show 1<=2;decide)⟩ ?_;refine Hj ⟨p7,_,rq,.inl (k8 _ _ c7),λy hy=>.inl (List.mem_reverse.mp hy),.inl (by rw[List.length_reverse];omega)⟩ ?_;refine Hj ⟨p8,_,rq,.inl (k9 _ _ c8),(λy hy=>by cases hy),.inr (by show 0<=2;decide)⟩ ?_;refine Hj ⟨p9,_,rq,.inl (s10 _ _ c9),λy hy=>.inl (Rp hy),.inl (Qbk (Gy _ _ _) (by omega))⟩ ?_;exact Hj ⟨t,xs,rfl,.inl (zA _ _ ht),λy hy=>.inl hy,.inl (by omega)⟩ (List.forall_mem_nil _))) (by rfl) (by first | exact .inl rfl | exact .inr rfl))
 (@Af _ _ _ (@Ak _ _ _ _ (@Ay _ _ _ _ _ _ _ Bs (pv 3) (@Aq _ _ _ _ _ _ _ _ Eh (pv 2) Ab) (λ_ _=>rfl))))) Av)
 (@Ad _ _ _ _ _ (Bj (Bt (Ao BW rfl T.isinstance Bk (Aa (pv 1) (Aa (Cg (v:=.ty "str") rfl T.str Jd rfl) Ac)))) (@Ad _ _ _ _ _ (@Bg _ _ 3 _ _ _ _ Hq.nd rfl (Or.inl rfl) (@PE.weak _ _ _ tS9 (@Ce _ _ _ _ (@Aa _ _ _ _ _ (@Aq _ _ _ _ _ _ _ _ Jr (pv 1) Ai) (@Aa _ _ _ _ _ (Dv Ow (pv 1) Ft (Dh (Ob K8 Ab))) (@Aa _ _ _ _ _ (YS PySem.F.plainAttrs_str PySem.F.slot_str_upper PySem.F.type_str_upper VH (pv 1)) (@Aa _ _ _ _ _ (@Ai _ _ _ _) (@Aa _ _ _ _ _ (@Ai _ _ _ _) (@Aa _ _ _ _ _ (@Ai _ _ _ _) (@Aa _ _ _ _ _ (@Ai _ _ _ _) (@Aa _ _ _ _ _ (@Ai _ _ _ _) (@Aa _ _ _ _ _ (@Ai _ _ _ _) (@Ac _) Az) Az) Az) Az) Az) Az) LC) K9) GF)) (fun U H Q h=>by
    obtain⟨z,e1,hz,q⟩:=h;refine⟨_,e1,_,_,rq,rq,Ar (by show z.length+1<=1000;omega),_,e1,_,rq,_,rq,z,rq,Ar (by show z.length<=1000;omega),_,e1,rq,z,rq,rq,by omega,Ar (by show 9<=1000;decide),λl fl=>?_⟩;exact q l _ Ae (Ag fl _))) (by rfl) (by first | exact .inl rfl | exact .inr rfl))
 (@Af _ _ _ (@Ak _ _ _ _ (@Ay _ _ _ _ _ _ _ Bs (pv 3) (@Aq _ _ _ _ _ _ _ _ Eh (pv 2) Ab) (λ_ _=>rfl))))) Av)
 (@Ad _ _ _ _ _ (Bj (Bt (Ao BW rfl T.isinstance Bk (Aa (pv 1) (Aa (Cg (v:=.ty "int") rfl T.int Lx rfl) Ac)))) (@Af _ _ _ (@Ak _ _ _ _ (@Ay _ _ _ _ _ _ _ Bs (@PE.weak _ _ _ tI9 (@Ce _ _ _ _ (@Aa _ _ _ _ _ (@Aq _ _ _ _ _ _ _ _ Xm (pv 1) Ab) (@Aa _ _ _ _ _ (@Aq _ _ _ _ _ _ _ _ Xj (pv 1) Ab) (@Aa _ _ _ _ _ (@Ab _ _ _ _) (@Aa _ _ _ _ _ (@Ab _ _ _ _) (@Aa _ _ _ _ _ (@Ab _ _ _ _) (@Aa _ _ _ _ _ (@Ab _ _ _ _) (@Aa _ _ _ _ _ (@Ab _ _ _ _) (@Aa _ _ _ _ _ (Ce (Aa (pv 1) Ac)) (@Aa _ _ _ _ _ (Il U9 rfl T.str Jd (Aa (pv 1) Ac)) (@Ac _) LC) La) Az) Az) Az) Az) Az) GF) GF)) (fun U H Q h=>by
    obtain⟨v,i,z,e1,hn,hz,q⟩:=h;refine⟨_,e1,i,1,hn,rq,_,e1,i,1,hn,rq,_,e1,Ar (by show 1<=1000;decide),λl8 f8=>?_⟩;have s8:=Ag f8 (.lst [v]);have c8:upd H l8 (.lst [v]) l8=some (.lst [v]):=Ae;generalize upd H l8 (.lst [v])=G8 at *;refine⟨_,e1,?_⟩;rcases hz with⟨j,rfl,hj,rfl⟩|⟨x,rfl,rfl⟩
    ·exact .inl ⟨j,rq,hj,Ar (by show 9<=1000;decide),λl fl=>q l8 l _ Ae (Ag fl _ _ _ c8) f8 (s8.trans (Ag fl _))⟩
    ·exact .inr ⟨x,rq,Ar (by show 9<=1000;decide),λl fl=>q l8 l _ Ae (Ag fl _ _ _ c8) f8 (s8.trans (Ag fl _))⟩)) (@Aq _ _ _ _ _ _ _ _ Eh (pv 2) Ab) (λ_ _=>rfl)))) Av)
 (@Af _ _ _ (@Ak _ _ _ _ (@Ay _ _ _ _ _ _ _ Bs (@PE.weak _ _ _ tO9 (@Ce _ _ _ _ (@Aa _ _ _ _ _ (@T8 _ _ _) (@Aa _ _ _ _ _ (@Ce _ _ _ _ (@Ac _)) (@Aa _ _ _ _ _ (@Bx _ _ _ _ _ (@Ac _)) (@Aa _ _ _ _ _ (@Ai _ _ _ _) (@Aa _ _ _ _ _ (@Ab _ _ _ _) (@Aa _ _ _ _ _ (@Bx _ _ _ _ _ (Aa Ai (Aa Ab Ac))) (@Aa _ _ _ _ _ (@Cw _ _ _ _) (@Aa _ _ _ _ _ (@Ai _ _ _ _) (@Aa _ _ _ _ _ (@Ab _ _ _ _) (@Ac _) Az) Az) Az) Jz) Az) Az) Jz) La) Az)) (fun U H Q h=>by
    refine⟨Ar (by show 0<=1000;decide),λp2 f2=>?_⟩;have s2:=Ag f2 (.lst []);have c2:upd H p2 (.lst []) p2=some (.lst []):=Ae;generalize upd H p2 (.lst [])=G2 at *;refine⟨Ar (by show 0<=1000;decide),λp3 f3=>?_⟩;have s3:=Ag f3 (.tup []);have c3:upd G2 p3 (.tup []) p3=some (.tup []):=Ae;generalize upd G2 p3 (.tup [])=G3 at *;refine⟨Ar (by show 2<=1000;decide),λp6 f6=>?_⟩;have s6:=Ag f6 (.tup [.str "key",.int 1]);have c6:upd G3 p6 (.tup [.str "key",.int 1]) p6=some (.tup [.str "key",.int 1]):=Ae;generalize upd G3 p6 (.tup [.str "key",.int 1])=G6 at *;refine⟨Ar (by show 9<=1000;decide),λl fl=>?_⟩;have sl:=Ag fl (.lst [.non,.ref p2,.ref p3,.str "key",.int 0,.ref p6,.bl true,.str "",.int 5]);exact h l p2 p3 p6 _ Ae (sl _ _ (s6 _ _ (s3 _ _ c2))) f2 (sl _ _ (s6 _ _ c3)) (sl _ _ c6) (s2.trans (s3.trans (s6.trans sl))))) (@Aq _ _ _ _ _ _ _ _ Eh (pv 2) Ab) (λ_ _=>rfl))))))))),?_⟩
 show let R0:TS:=_;let R1:TS:=_;let R2:TS:=Am (BX _ R1 _) R0;let R3:TS:=_;let R4:TS:=Am _ R3;let R5:TS:=Am (BX _ R4 _) R2;let R6:TS:=_;let R7:TS:=Am _ R6;let R8:TS:=Am (BX _ R7 _) R5;let R9:TS:=_;let R10:TS:=Am (BX _ R9 _) R8;Am _ R10 _ _ _;intro R0 R1 R2 R3 R4 R5 R6 R7 R8 R9 R10;refine⟨_,rq,b,m,10,rq,hb,by omega,by decide,by decide,λway H1 w0 w1 hb1 sb1=>?_⟩;have rd1:Rep (hid b H1) v d:=Rep.same (Bv sb1) rd;have rH:=Rep.same CQ rd1;refine⟨_,rq,rq,_,rq,ifN (λe0=>?_) (λe0=>?_)⟩
 ·refine λl H2 c2 fl s2=>?_;have nbl:b≠l:=hb1.nb fl;have hb2:=hb1.same s2;refine⟨_,rq,b,_,6,rq,hb2,by omega,by decide,by decide,λr H3 r0 r1 hb3 sb3=>?_⟩;obtain⟨v',hv,ov⟩:=eE r0 r1 (Ou b (w+1) (k+2) H3) (Ou.non _ _ _ _) (Ou.bl _ _ _ _ _) (Ou.bl _ _ _ _ _) (Ou.s (z:="") (by trivial) (by omega)) (Ou.i (i:=-1) (by decide) (by omega)) ⟨_,.int (10 ^ (20:Int).toNat),(Ox (w:=30) (k:=0) (by decide)).mono (by omega) (Qbn _)⟩;exact⟨l,_,_,_,rq,rq,SqL.of (sb3 _ _ c2 nbl.symm),hv,q _ _ ov (hb3.mono (by omega)) (sb1.trans ((Ah.of s2).trans sb3))⟩
 have wp:0<=way - 1/\way - 1 < 9:=by omega
 have fin:∀v' H',Ou b (w+1) (k+2) H' v'->Same H1 H'->Q v' H':=λv' H' ov s'=>q v' H' ov ((hb1.same s').mono (by omega)) (sb1.trans (Ah.of s'));have bt:∀{H':Hp} {p:Addr} {ys:YG},Same H1 H'->H' p=some (.tup ys)->p≠b:=λs' h e=>(hb1.same s').Ia _ (by rw[<-e];exact h);refine⟨_,rq,Fx rH.kn ⟨_,rq,?_⟩⟩;cases rd1 with
 | @tup t xs ds ht rs=>
  have htH:=CQ _ _ ht;rw[Hx htH];have lx:=Ax.len rs;have lw:=sl.len;refine Bd ⟨t,xs,rq,htH,by omega,λl vs H2 hl l9 s2 hvs=>?_⟩;have itm:∀y,y∈xs\/y=.ref t\/y=.int 1\/y=.str "not"->Ou b (w+1) k H2 y:=λy hy=>by
   rcases hy with hy | rfl | rfl | rfl
   ·obtain⟨i,hi,ei⟩:=List.getElem_of_mem hy;obtain⟨dx,hdx,rx⟩:=Ax.at_ rs (i:=i) (x:=y) (by rw[Qaf hi,ei]);obtain⟨e,rfl⟩ : ∃e,k=e+1:=⟨k - 1,by have:=sl.dep;have:PyData.depthAll ds+1<=k:=this;omega⟩;exact⟨dx,Rep.same (Bv (Ah.of s2)) rx,(sl.item (Qam hdx)).mono (by omega) (by omega)⟩
   ·exact⟨_,Rep.same (Bv (Ah.of s2)) (.tup ht rs),sl.mono (by omega) (Qbm _)⟩
   ·exact Ou.i (by decide) (by omega)
   ·exact Ou.s (by trivial) (by omega)
  obtain⟨j,ej⟩ : ∃j:Nat,way - 1=j:=⟨(way - 1).toNat,by omega⟩;have hj:vs[j]?=some vs[j]:=Qaf (by omega);obtain⟨p,ys,ep,hp,hy,ly⟩:=hvs _ (Qam hj);have ov:Ou b (w+1) (k+2) H2 vs[j]:=by
   rw[ep];rcases hp with hp |⟨hp,fp⟩
   ·exact (Ou.tup hp (bt s2 hp) (λy h=>itm y (hy y h)) (by omega)).mono (Qbm _) (by omega)
   ·exact (Ou.lst hp (hb1.nb fp).symm (λy h=>itm y (hy y h)) (by omega)).mono (Qbm _) (by omega)
  refine⟨_,rq,_,rq,_,_,rq,rq,l,_,_,_,rq,rq,SqL.of hl,?_,fin _ _ ov s2⟩;rw[ej];exact Bf hj
 | str z=>
  obtain⟨z1,z2⟩:=sl.RD;refine Aw ⟨_,rq,Ec rH.kn ⟨_,rq,Bd ⟨z,rq,by omega,λl H2 hl s2=>?_⟩⟩⟩;obtain⟨v',hv,ov⟩:=Qo wp.1 wp.2 (Ou b (w+1) (k+2) H2) ⟨_,.str _,(Yt sl).mono (Qbm _) (by omega)⟩ ⟨_,.str _,(Ys sl _ _).mono (by omega) (by omega)⟩ ⟨_,.str _,(Z4 sl).mono (by omega) (by omega)⟩
   (Ou.s (z:="") (by trivial) (by omega)) (Ou.s (z:="and") (by trivial) (by omega)) (Ou.s (z:="then") (by trivial) (by omega)) (Ou.s (z:="of") (by trivial) (by omega)) (Ou.s (z:="key") (by trivial) (by omega)) (Ou.s (z:="not") (by trivial) (by omega))
  exact⟨_,rq,_,rq,_,_,rq,rq,l,_,_,_,rq,rq,SqL.of hl,hv,fin _ _ ov s2⟩
 | int i=>
  have ii:=sl.ints;refine Aw ⟨_,rq,Ec rH.kn ⟨_,rq,Aw ⟨_,rq,Hw rH.kn ⟨_,rq,Bd ⟨.int i,i,toString i,rq,rq,.inl ⟨i,rq,Y7 Rv ii,rq⟩,λl8 l H2 hl h8 f8 s2=>?_⟩⟩⟩⟩⟩;obtain⟨v',hv,ov⟩:=Qo wp.1 wp.2 (Ou b (w+1) (k+2) H2) ⟨_,.int (i+1),QZ ii 1 (by decide)⟩ ⟨_,.int (i - 1),(by rw[Int.sub_eq_add_neg];exact QZ ii (-1) (by decide))⟩ (Ou.i (i:=0) (by decide) (by omega)) (Ou.i (i:=1) (by decide) (by omega)) (Ou.i (i:=10) (by decide) (by omega)) (Ou.i (i:=24) (by decide) (by omega)) (Ou.i (i:=21) (by decide) (by omega))
   ((Ou.lst (k:=k) h8 (hb1.nb f8).symm (λy hy=>by rw[Qax.mp hy];exact⟨_,.int i,sl.mono (by omega) (Qbm _)⟩) (by show 1<=w+1;omega)).mono (Qbm _) (by omega)) ⟨_,.str _,Yp (by omega) ii⟩
  exact⟨_,rq,_,_,rq,rq,l,_,_,_,rq,rq,SqL.of hl,hv,fin _ _ ov s2⟩
 | bl x=>
  have ii:((if x=true then (1:Int) else 0)).natAbs < 1000:=by cases x <;> decide
  refine Aw ⟨_,rq,Ec rH.kn ⟨_,rq,Aw ⟨_,rq,Hw rH.kn ⟨_,rq,Bd ⟨.bl x,(if x=true then 1 else 0),_,rq,rq,.inr ⟨x,rq,rq⟩,λl8 l H2 hl h8 f8 s2=>?_⟩⟩⟩⟩⟩
  obtain⟨v',hv,ov⟩:=Qo wp.1 wp.2 (Ou b (w+1) (k+2) H2) (Ou.i (i:=(if x=true then (1:Int) else 0)+1) (by omega) (by omega)) (Ou.i (i:=(if x=true then (1:Int) else 0) - 1) (by omega) (by omega)) (Ou.i (i:=0) (by decide) (by omega)) (Ou.i (i:=1) (by decide) (by omega)) (Ou.i (i:=10) (by decide) (by omega)) (Ou.i (i:=24) (by decide) (by omega)) (Ou.i (i:=21) (by decide) (by omega))
   ((Ou.lst (k:=k) h8 (hb1.nb f8).symm (λy hy=>by rw[Qax.mp hy];exact Ou.bl _ _ _ _ _) (by show 1<=w+1;omega)).mono (Qbm _) (by omega)) (Ou.s (z:=(if x then "True" else "False")) (by cases x <;> decide +kernel) (by omega))
  exact⟨_,rq,_,_,rq,rq,l,_,_,_,rq,rq,SqL.of hl,hv,fin _ _ ov s2⟩
 | non=>
  refine Aw ⟨_,rq,Ec rH.kn ⟨_,rq,Aw ⟨_,rq,Hw rH.kn ⟨_,rq,Aw λl p2 p3 p6 H2 hl h2 f2 h3 h6 s2=>?_⟩⟩⟩⟩;obtain⟨v',hv,ov⟩:=Qo wp.1 wp.2 (Ou b (w+1) (k+2) H2) (Ou.non _ _ _ _) ((Ou.lst (k:=k) h2 (hb1.nb f2).symm (λy hy=>by cases hy) (by show 0<=w+1;omega)).mono (Qbm _) (by omega)) ((Ou.tup (k:=k) h3 (bt s2 h3) (λy hy=>by cases hy) (by show 0<=w+1;omega)).mono (Qbm _) (by omega)) (Ou.s (z:="key") (by trivial) (by omega)) (Ou.i (i:=0) (by decide) (by omega))
   ((Ou.tup (k:=k) h6 (bt s2 h6) (λy hy=>by
    have hy:y=.str "key"\/y=.int 1:=by simpa using hy
    rcases hy with rfl | rfl
    ·exact Ou.s (by trivial) (by omega)
    ·exact Ou.i (by decide) (by omega)) (by show 2<=w+1;omega)).mono (Qbm _) (by omega)) (Ou.bl _ _ _ _ _) (Ou.s (z:="") (by trivial) (by omega)) (Ou.i (i:=5) (by decide) (by omega))
  exact⟨_,rq,_,_,rq,rq,l,_,_,_,rq,rq,SqL.of hl,hv,fin _ _ ov s2⟩
 | lst e r=>
  have eH:=CQ _ _ e;rw[GD eH];refine Aw ⟨_,rq,Ec rH.kn ⟨_,rq,Aw ⟨_,rq,Hw rH.kn ⟨_,rq,Aw λl p2 p3 p6 H2 hl h2 f2 h3 h6 s2=>?_⟩⟩⟩⟩;obtain⟨v',hv,ov⟩:=Qo wp.1 wp.2 (Ou b (w+1) (k+2) H2) (Ou.non _ _ _ _) ((Ou.lst (k:=k) h2 (hb1.nb f2).symm (λy hy=>by cases hy) (by show 0<=w+1;omega)).mono (Qbm _) (by omega)) ((Ou.tup (k:=k) h3 (bt s2 h3) (λy hy=>by cases hy) (by show 0<=w+1;omega)).mono (Qbm _) (by omega)) (Ou.s (z:="key") (by trivial) (by omega)) (Ou.i (i:=0) (by decide) (by omega))
   ((Ou.tup (k:=k) h6 (bt s2 h6) (λy hy=>by
    have hy:y=.str "key"\/y=.int 1:=by simpa using hy
    rcases hy with rfl | rfl
    ·exact Ou.s (by trivial) (by omega)
    ·exact Ou.i (by decide) (by omega)) (by show 2<=w+1;omega)).mono (Qbm _) (by omega)) (Ou.bl _ _ _ _ _) (Ou.s (z:="") (by trivial) (by omega)) (Ou.i (i:=5) (by decide) (by omega))
  exact⟨_,rq,_,_,rq,rq,l,_,_,_,rq,rq,SqL.of hl,hv,fin _ _ ov s2⟩
end
abbrev Hr:Stmt:=top 31
abbrev WK:YF:=["_law_script"]
theorem Ef:Bm ["_law_script","_law_k","_law_bag_here","_law_names_here","_law_size","_law_condition_here","_law_rules_here","_law_turn","_law_one","_law_some"] WK (Aj Hr):=by ac_rfl
theorem Paired.Wk {α β : Type} {F:α->β->Prop}:∀{l:List α} {r:List β} (n:Nat),Paired F l r->Paired F (l.take n) (r.take n)
 | _,_,0,_=>.nil
 | _,_,_+1,.nil=>.nil
 | _,_,n+1,.cons h t=>.cons h (Paired.Wk n t)
theorem Paired.WT {α β : Type} {F:α->β->Prop}:∀{l:List α} {r:List β} (n:Nat),Paired F l r->Paired F (l.drop n) (r.drop n)
 | _,_,0,h=>h
 | _,_,_+1,.nil=>.nil
 | _,_,n+1,.cons h t=>Paired.WT n t
theorem Paired.app {α β : Type} {F:α->β->Prop}:∀{a₁ b₁ : List α} {a₂ b₂ : List β},Paired F a₁ a₂->Paired F b₁ b₂->Paired F (a₁++b₁) (a₂++b₂)
 | _,_,_,_,.nil,t=>t
 | _,_,_,_,.cons r s,t=>.cons r (Paired.app s t)
theorem Zw {xs:YG} {m:Nat} (h:m<=xs.length):Dy xs none (some (m:Int))=xs.take m:=by
 unfold Dy;rw[HT.Kz,HT.IW,Nat.min_eq_left h];rfl
theorem U0 {xs:YG} {k:Nat}:Dy xs (some (k:Int)) none=xs.drop k:=by
 unfold Dy;rw[HT.Kz,HT.IW];rw[List.take_of_length_le (by rw[List.length_drop];omega)];by_cases h:k<=xs.length
 ·rw[Nat.min_eq_left h]
 ·rw[Nat.min_eq_right (by omega),List.drop_of_length_le (by omega),List.drop_of_length_le (by omega)]
def Wt (k:Nat):Sp:=λvs H Q _=>∃(b:Addr) (v:V) (m w:Nat) (d:PyData),vs=[.ref b,v]/\Bh H b m/\m+3*k<=8000/\Rep (hid b H) v d/\Sl w k d/\30<=w/\w<=500/\k<=20/\∀v' d' H',Rep (hid b H') v' d'->Sl (w+1) (k+3) d'->Bh H' b (m+3*k+6)->Ah b H H'->Q v' H'
def N8 (D:Nat):Sp:=λvs H Q E=>∃k,k<=D/\Wt k vs H Q E
section
variable {P:Program} {w:World} {K:YD} {mg:YB} {base:Heap}
theorem Ub (c:Code K mg "_law_spoilt" Jj Eb) (T:Tc mg) (Ba:Good P w K mg base "_law_take" 1 Dl GJ) (Uv:Good P w K mg base "_law_other" 2 GQ QW):∀k,Good P w K mg base "_law_spoilt" (3+k) Eb (N8 k):=by
 have step:∀(D k':Nat) (sp':Sp),(∀e,e+1<=D->∀vs H Q E,Wt e vs H Q E->sp' vs H Q E)->Good P w K mg base "_law_spoilt" k' Eb sp'->1<=k'->2<=k'->Good P w K mg base "_law_spoilt" (k'+1) Eb (N8 D):=λD k' sp' hsp Ey hk1 hk2=>by
  have sc:=Gu;refine c.good Gu (λvs H Q E h=>?_) (λf cdv A outer s H vs Q E hr h=>?_)
  ·obtain⟨k,hkD,b,v,m,w,d,rfl,_⟩:=h;rfl
  obtain⟨k,hkD,b,v,m,w,d,rfl,hb,hm,rd,sl,w30,Rv,k20,q⟩:=h;refine⟨_,(@Ad _ _ _ _ _ (Bj (PW.pt (FT (Bt (Ao BW rfl T.isinstance Bk (Aa (pv 1) (Aa (Cg (v:=.ty "tuple") rfl T.tuple Fj rfl) Ac)))) (FT (Bc Jq (Ao Bp rfl T.len Ci (Aa (pv 1) Ac)) Ab (Bb _)) (Fq (Bc Jq (Al (hk:=hk1) Ba hr (Aa (pv 0) (Aa Ab Ac))) Ab (Bb _)))))) (@Ad _ _ _ _ _ (@Bg _ _ 2 _ _ _ _ Gu.nd rfl (Or.inl rfl) (Al (hk:=hk1) Ba hr (Aa (pv 0) (Aa (Ao Bp rfl T.len Ci (Aa (pv 1) Ac)) Ac))) (by rfl) (by first | exact .inl rfl | exact .inr rfl))
 (@Af _ _ _ (@Ak _ _ _ _ (@Aq _ _ _ _ _ _ _ _ KC (@Aq _ _ _ _ _ _ _ _ KC (Dv Gf (pv 1) Ft (Dh (pv 2))) (Bx (Aa (Al (hk:=(Qbm _)) Ey hr (Aa (pv 0) (Aa (@Ay _ _ _ _ _ _ _ Bq (pv 1) (pv 2) (λ_ _=>rfl)) Ac))) Ac))) (Dv Gf (pv 1) (Dh (@Aq _ _ _ _ _ _ _ _ Ca (pv 2) Ab)) Ft))))) Av)
 (@Af _ _ _ (@Ak _ _ _ _ (Al (hk:=hk2) Uv hr (Aa (pv 0) (Aa (pv 1) Ac)))))),?_⟩
  show let R0:TS:=_;let R1:TS:=_;let R2:TS:=Am _ R1;Am (BX _ R2 _) R0 _ _ _;intro R0 R1 R2;refine Ks (fun σ' H'=>σ'=[jd b,some v,none]/\Ah b H H'/\Bh H' b (m+1)) (fun σ' H1 hP=>?_) (λhR=>?_)
  ·obtain⟨rfl,sb1,hb1⟩:=hP;refine⟨_,rq,_,rq,b,v,m+1,w,k,d,rq,hb1,by omega,Rep.same (Bv sb1) rd,sl,w30,Rv,λv' H2 ov hb2 sb2=>?_⟩;obtain⟨d',r',s'⟩:=ov;exact q v' d' H2 r' (s'.mono (Qbm _) (by omega)) (hb2.mono (by omega)) (sb1.trans sb2)
  ·have rH:=Rep.same CQ rd;refine⟨_,rq,Fx rH.kn ⟨_,rq,?_⟩⟩;rcases Kc rd with⟨t,xs,ds,rfl,rfl,ht,rs,et⟩|⟨et,hn⟩
   ·have htH:=CQ _ _ ht;rw[Hx htH];have lx:=Ax.len rs;refine Bd ⟨_,rq,t,_,rq,.inr (SqT.of htH),_,_,rq,rq,_,rq,Iz (λh0=>?_) (λh0=>?_)⟩
    ·have h0:(0:Int) < (xs.length:Int):=QaD h0;have lw:=sl.len;refine⟨_,rq,b,m,5,rq,hb,by omega,by decide,by decide,λr H1 r0 r1 hb1 sb1=>⟨_,_,rq,rq,_,rq,Iz (λ_=>?_) (λ_=>?_)⟩⟩
     ·obtain⟨e,rfl⟩ : ∃e,k=e+1:=⟨k - 1,by have:=sl.dep;have:PyData.depthAll ds+1<=k:=this;omega⟩;have ht1:=Bv sb1 _ _ ht;have cL:=CQ _ _ ht1;refine⟨_,rq,_,rq,t,_,rq,.inr (SqT.of cL),b,_,_,rq,hb1,by omega,h0,by omega,λr2 H2 r20 r21 hb2 sb2=>?_⟩;obtain⟨a2,ea⟩ : ∃j:Nat,r2=j:=⟨r2.toNat,by omega⟩;subst ea;have s02:=sb1.trans sb2;have ht2:=Bv s02 _ _ ht;have Zh:=CQ _ _ ht2;have hxa:xs[a2]?=some xs[a2]:=Qaf (by omega);obtain⟨dx,hdx,rx⟩:=Ax.at_ rs hxa;refine⟨_,rq,_,rq,_,rq,t,_,rq,Zh,λp3 H3 hp3 s3=>?_⟩;rw[Zw (by omega)] at hp3;have s03:=s02.trans (Ah.of s3);refine⟨_,rq,_,rq,_,rq,t,_,_,_,rq,rq,SqT.of (s3 _ _ Zh),Bf hxa,hsp e hkD _ _ _ _ ⟨b,xs[a2],_,w,dx,rq,hb2.same s3,by omega,Rep.same (Bv s03) rx,sl.item (Qam hdx),w30,Rv,by omega,λv' d' H4 rv' sl' hb4 sb4=>?_⟩⟩;have s34:=s03.trans sb4;have cM:H4 p3=some (.tup (xs.take a2)):=(sb4.tup (hb2.same s3).Ia) _ _ hp3;refine⟨(by show 1<=sizeLine;decide),λp5 hp5=>?_⟩;have k5:=Ag hp5 (.tup [v']);refine⟨p3,p5,_,_,rq,rq,k5 _ _ cM,Ae,Ar (by rw[QaK];show _+1<=1000;omega),λp6 H6 hp6 k6=>?_⟩;have k56:=k5.trans k6;have s36:=s34.trans (Ah.of k56);have cJ:=CQ _ _ (Bv s36 _ _ ht);refine⟨_,rq,_,rq,_,_,rq,rq,_,rq,t,_,rq,cJ,λp7 H7 hp7 k7=>?_⟩;rw[show ((a2:Int)+1)=((a2+1:Nat):Int) by omega,U0] at hp7;refine⟨p6,p7,_,_,rq,rq,k7 _ _ hp6,hp7,Ar (by rw[Qaw,QaK,List.length_drop];show _+1+_<=1000;omega),λp8 H8 hp8 k8=>?_⟩;have k58:=k56.trans (k7.trans k8);have s08:=s34.trans (Ah.of k58);have hb8:=hb4.same k58;have np:p8≠b:=λe=>hb8.Ia _ (by rw[<-e];exact hp8);have pr:Paired (Rep (hid b H8)) (xs.take a2++[v']++xs.drop (a2+1)) (ds.take a2++[d']++ds.drop (a2+1)):=
       Paired.app (Paired.app (Paired.Wk a2 (Paired.Ph (Ax.pair rs) λ_ _ z=>Rep.same (Bv s08) z)) (.cons (Rep.same (Bv (Ah.of k58)) rv') .nil)) (Paired.WT (a2+1) (Paired.Ph (Ax.pair rs) λ_ _ z=>Rep.same (Bv s08) z))
      refine q _ (.tuple (ds.take a2++[d']++ds.drop (a2+1))) _ (.tup (Kg np hp8) (Ax.mk pr)) (Sl.tup (k:=e+3) (λx hx=>?_) ?_) (hb8.mono (by omega)) s08
      ·rcases QaR.mp hx with z | z
       ·rcases QaR.mp z with z | z
        ·exact (sl.item (List.mem_of_mem_take z)).mono (by omega) (by omega)
        ·rw[show x=d' by simpa using z];exact sl'.mono (by omega) (by omega)
       ·exact (sl.item (List.mem_of_mem_drop z)).mono (by omega) (by omega)
      ·rw[Qaw,Qaw,QaK,List.length_drop];show _+1+_<=w+1;omega
     ·exact hR _ _ ⟨rq,sb1,hb1⟩
    ·exact hR _ _ ⟨rq,Ah.refl b H,hb.mono (by omega)⟩
   ·have et':Gs H v=none:=by
     cases rd with
     | tup e _=>exact absurd rfl (hn _)
     | lst e _=>exact GD (CQ _ _ e)
     | _=>rfl
    rw[et'];exact Aw (hR _ _ ⟨rq,Ah.refl b H,hb.mono (by omega)⟩)
 intro k
 induction k with
 | zero=>exact step 0 2 (λ_ _ _ _=>False) (λe he=>absurd he (by omega)) (c.good Gu (λvs H Q E h=>h.elim) (λf cdv A outer s H vs Q E hr h=>h.elim)) (by decide) (by decide)
 | succ e ih=>exact step (e+1) (3+e) (N8 e) (λd hd vs H Q E h=>⟨d,by omega,h⟩) ih (by omega) (by omega)
end
theorem eF {i:Int} (h0:0<=i) (h4:i < 4):∃p:Int,atI [V.int 4,.int 20,.int 21,.int 30] i=some (.int p):=by
 have:i=0\/i=1\/i=2\/i=3:=by omega
 rcases this with rfl | rfl | rfl | rfl <;> exact⟨_,rfl⟩
section
variable {P:Program} {w:World} {K:YD} {mg:YB} {base:Heap}
theorem YX {f:Addr} {fd:FuncData} (F:Fun K "law" "law" Hr f fd) (T:Tc mg) (Mt:Good P w K mg base "_law_bag" 1 Jc (Ww K)) (Ba:Good P w K mg base "_law_take" 1 Dl GJ) (JR:Good P w K mg base "_law_names" 3 Fv LK) (CW:Good P w K mg base "_law_condition" 8 Cm (Lb 5)) (Uu:Good P w K mg base "_law_rules" 9 GP QV)
  (Ey:Good P w K mg base "_law_spoilt" 12 Eb (N8 9)) (DR:Good P w K mg base "_law_both_right" 10 DQ TF):Eu P w K mg base CX0 13 f fd WK (Oa K):=by
 refine F.ok Ef (λvs H Q E h=>?_) (λcdv A outer s H vs Q E hr h=>?_)
 ·obtain⟨a,ns,rfl,_⟩:=h;rfl
 obtain⟨a,ns,rfl,hS,h63,q⟩:=h;refine⟨_,(@Ad _ _ _ _ _ (GK QaW rfl (El rfl T.range (Aa (Ao (Ng rfl) rfl T.max Vc (Aa Ab (Aa (Ao (Va rfl) rfl T.min Zz (Aa Ab (Aa (Ao Bp rfl T.len Ci (Aa (pv 0) Ac)) Ac))) Ac))) Ac)) (Cd (i:=1) Ef.nd rfl (Or.inl rfl))
 (@Ad _ _ _ _ _ (@Bg _ _ 2 _ _ _ _ Ef.nd rfl (Or.inl rfl) (Al Mt hr (Aa (pv 0) (Aa (pv 1) Ac))) (by rfl) (by first | exact .inl rfl | exact .inr rfl))
 (@Ad _ _ _ _ _ (@Bg _ _ 3 _ _ _ _ Ef.nd rfl (Or.inl rfl) (Al JR hr (Aa (pv 2) (Aa Ab Ac))) (by rfl) (by first | exact .inl rfl | exact .inr rfl))
 (@Ad _ _ _ _ _ (@Bg _ _ 4 _ _ _ _ Ef.nd rfl (Or.inl rfl) (@Ay _ _ _ _ _ _ _ Bs (Ce (Aa Ab (Aa Ab (Aa Ab (Aa Ab Ac))))) (Al Ba hr (Aa (pv 2) (Aa Ab Ac))) (λ_ _=>rfl)) (by rfl) (by first | exact .inl rfl | exact .inr rfl))
 (@Ad _ _ _ _ _ (@Bg _ _ 5 _ _ _ _ Ef.nd rfl (Or.inl rfl) (Al CW hr (@Aa _ _ _ _ _ (pv 2) (@Aa _ _ _ _ _ (@Ab _ _ _ _) (@Aa _ _ _ _ _ (Ce (Aa (pv 4) Ac)) (@Aa _ _ _ _ _ (pv 3) (@Aa _ _ _ _ _ (pv 3) (@Ac _) BZ) BZ) La) Az) BZ)) (by rfl) (by first | exact .inl rfl | exact .inr rfl))
 (@Ad _ _ _ _ _ (@Bg _ _ 6 _ _ _ _ Ef.nd rfl (Or.inl rfl) (Al Uu hr (Aa (pv 2) Ac)) (by rfl) (by first | exact .inl rfl | exact .inr rfl))
 (@Ad _ _ _ _ _ (Bj (PW.pt (Ea (BJ (Bt (Al DR hr (Aa (pv 5) Ac)))) (Ea (BJ (Bt (Al DR hr (Aa (pv 6) Ac)))) (Ek (BJ (Bt (Al DR hr (Aa (Bx (Aa Ai (Aa (pv 5) Ac))) Ac)))))))) (@Af _ _ _ (@Ak _ _ _ _ Cw)) Av)
 (@Af _ _ _ (GK QaW rfl (El rfl T.range (Aa Ab Ac)) (Cd (i:=7) Ef.nd rfl (Or.inl rfl))
 (@Ad _ _ _ _ _ (@Bg _ _ 8 _ _ _ _ Ef.nd rfl (Or.inl rfl) (Al Ey hr (Aa (pv 2) (Aa (pv 5) Ac))) (by rfl) (by first | exact .inl rfl | exact .inr rfl))
 (@Ad _ _ _ _ _ (@Bg _ _ 9 _ _ _ _ Ef.nd rfl (Or.inl rfl) (Al Ey hr (Aa (pv 2) (Aa (pv 6) Ac))) (by rfl) (by first | exact .inl rfl | exact .inr rfl))
 (@Ad _ _ _ _ _ (Bj (Bc Jq (pv 7) Ab (Bb _)) (@Ad _ _ _ _ _ (@Bg _ _ 8 _ _ _ _ Ef.nd rfl (Or.inl rfl) (Al Ey hr (Aa (pv 2) (Aa (pv 8) Ac))) (by rfl) (by first | exact .inl rfl | exact .inr rfl))
 (@Af _ _ _ (@Bg _ _ 9 _ _ _ _ Ef.nd rfl (Or.inl rfl) (Al Ey hr (Aa (pv 2) (Aa (pv 9) Ac))) (by rfl) (by first | exact .inl rfl | exact .inr rfl)))) Av)
 (@Af _ _ _ (Bj (PW.pt (Ea (BJ (Bt (Al DR hr (Aa (pv 8) Ac)))) (Ek (BJ (Bt (Al DR hr (Aa (pv 9) Ac))))))) (@Af _ _ _ (@Ak _ _ _ _ Cw)) Av))))))))))))))
 (@Af _ _ _ (@Ak _ _ _ _ Cw))),?_⟩
 show let R0:TS:=_;let R1:TS:=_;let R2:TS:=Am _ R1;let R3:TS:=Am (BX _ R2 _) R0;let R4:TS:=Am _ R3;let R5:TS:=Am _ R4;let R6:TS:=Jg _ _ R5;let R7:TS:=Am _ R6;let R8:TS:=Am _ R7;let R9:TS:=Am _ R8;let R10:TS:=Am _ R9;let R11:TS:=Am _ R10;let R12:TS:=Am _ R11;Am (Jg _ _ R12) _ _ _ _;intro R0 R1 R2 R3 R4 R5 R6 R7 R8 R9 R10 R11 R12;have hl:(ns.map V.int).length=ns.length:=QaQ _;refine⟨_,rq,a,_,rq,.inl hS,_,_,rq,_,_,rq,_,rq,?_,?_,?_⟩
 ·rw[hl];split <;> split <;> omega
 ·rw[hl];split <;> split <;> omega
 let J0:YN:=λi U H'=>Same H H'/\∃u1 u2 u3 u4 u5 u6 u7 u8 u9,U=[jd a,u1,u2,u3,u4,u5,u6,u7,u8,u9];refine Fy J0 ⟨Same.refl H,_,_,_,_,_,_,_,_,_,rq⟩ (λi U H' hi h=>?_) (fun U H' h=>?_)
 ·obtain⟨sm,u1,u2,u3,u4,u5,u6,u7,u8,u9,rfl⟩:=h;rw[hl] at hi;have hi':(i:Int)<=100:=by
   revert hi;split <;> split <;> omega
  refine⟨_,rq,_,rq,a,ns,_,rq,sm.seq hS,h63,by omega,by omega,λb o hb0 VR=>?_⟩;have s1:Same H (upd H' b o):=sm.trans (Ag hb0 o);have fb:H b=none:=sm.free hb0;generalize upd H' b o=H1 at s1 VR ⊢;refine⟨_,rq,b,0,2,rq,VR,by omega,by omega,λln ys H2 fln hys hyo hyn hln hb2 sb2=>?_⟩;have s2:=s1.FN sb2 fb;have nbn:b≠ln:=VR.nb fln;have hz2:Bl H2 ln ys:=⟨hln,by omega,by omega,hyo⟩;refine⟨Ar (by show 4<=1000;decide),λl4 hl4=>?_⟩;have s4:=Ag hl4 (.lst [.int 4,.int 20,.int 21,.int 30]);have c4:upd H2 l4 (.lst [.int 4,.int 20,.int 21,.int 30]) l4=some (.lst [.int 4,.int 20,.int 21,.int 30]):=Ae;have nb4:b≠l4:=hb2.nb hl4;have hb3:=hb2.same s4;have hz3:Bl (upd H2 l4 (.lst [.int 4,.int 20,.int 21,.int 30])) ln ys:=⟨s4 _ _ hln,hz2.2⟩;have s3:=s2.trans s4;generalize upd H2 l4 (.lst [.int 4,.int 20,.int 21,.int 30])=H3 at *;refine⟨_,rq,b,_,4,rq,hb3,by omega,by decide,by decide,λr H4 r0 r1 hb4 sb4=>?_⟩;obtain⟨p,hp⟩:=eF r0 r1;refine⟨l4,_,_,_,rq,rq,SqL.of (sb4 _ _ c4 nb4.symm),hp,?_⟩;have hz4:=hz3.Dz sb4 nbn.symm;have s4':=s3.FN sb4 fb;refine⟨_,rq,_,rq,Ar (by show 1<=1000;decide),λlf hlf=>?_⟩;have s5:=Ag hlf (.lst [.int p]);have c5:upd H4 lf (.lst [.int p]) lf=some (.lst [.int p]):=Ae;have nbf:b≠lf:=hb4.nb hlf;have nfn:lf≠ln:=λz=>by rw[z,hz4.1] at hlf;cases hlf
  have hb5:=hb4.same s5;have hz5:Bl (upd H4 lf (.lst [.int p])) ln ys:=⟨s5 _ _ hz4.1,hz2.2⟩;have ff:H lf=none:=s4'.free hlf;have s5':=s4'.trans s5;generalize upd H4 lf (.lst [.int p])=H5 at *;have nd5:nd 5=282:=rfl;refine⟨_,rq,_,rq,5,by decide,b,lf,ln,_,p,ys,rq,hb5,by omega,nbf,nbn,nfn,hz5,c5,λtc x' H6 tvc hb6 c6 s6=>?_⟩;have s6':Same H H6:=λc o e=>s6 _ _ (s5' _ _ e) (λz=>by rw[z,fb] at e;cases e) (λz=>by rw[z,ff] at e;cases e);refine⟨_,rq,b,_,rq,hb6,by omega,λtr H7 tvr hb7 sb7=>?_⟩;have s7:=s6'.FN sb7 fb;obtain⟨dc,rc,sc⟩:=tvc.tups (sb7.tup hb6.Ia);obtain⟨dr,rr,sr⟩:=tvr;have rc:=Rep.same (Ra hb7) rc;have rr:=Rep.same (Ra hb7) rr;have fc:Fit 64 dc:=(sc.fit (by decide)).mono (by decide);have fr:Fit 64 dr:=(sr.fit (by decide)).mono (by decide);have hb7:=hb7.mono (show _<=2000 by omega);refine⟨_,rq,_,dc,rq,Rep.same CQ rc,fc,λH8 s8=>⟨_,rq,Aw ⟨_,rq,_,dr,rq,Rep.same (Same.trans CQ s8) rr,fr,λH9 s9=>⟨_,rq,Aw ⟨_,rq,Ar (by show 2<=1000;decide),λtn htn=>?_⟩⟩⟩⟩⟩;have sn:=Ag htn (.tup [.str "not",.ref tc]);have cn:upd H9 tn (.tup [.str "not",.ref tc]) tn=some (.tup [.str "not",.ref tc]):=Ae;have s79:=s8.trans (s9.trans sn);generalize upd H9 tn (.tup [.str "not",.ref tc])=HA at *;have rn:Rep HA (.ref tn) (.tuple [.str "not",dc]):=.tup cn (.cons (.str _) (.cons (Rep.same (Same.trans CQ s79) rc) .nil));have fn:Fit 64 (.tuple [.str "not",dc]):=by
   have:Sl 40 7 (.tuple [.str "not",dc]):=Sl.tup (k:=6) (Hj ((Oz (by trivial)).mono (by decide) (Qbm _)) (Hj sc (List.forall_mem_nil _))) (by show 2<=40;decide);exact (this.fit (by decide)).mono (by decide)
  refine⟨_,_,rq,rn,fn,λHB sB=>⟨_,rq,Aw ?_⟩⟩;have s7B:=s79.trans sB;refine⟨_,rq,by decide,by decide,?_⟩;let J1:YN:=λj U HH=>∃v7 v8 v9,U=[jd a,some (.int (0+(i:Int))),jd b,jd ln,some (.int p),jd tc,jd tr,v7,v8,v9]/\Rep (hid b HH) (.ref tc) dc/\Rep (hid b HH) (.ref tr) dr/\Bh HH b (2000+120*j)/\Same H HH;refine Fy (n:=6) J1 ⟨_,_,_,rq,Rep.same (Bv (Ah.of s7B)) rc,Rep.same (Bv (Ah.of s7B)) rr,hb7.same s7B,s7.trans s7B⟩ (λj U HH hj h=>?_) (fun U HH h=>?_)
  ·obtain⟨v7,v8,v9,rfl,g1,g2,g3,g4⟩:=h;refine⟨_,rq,_,rq,6,by decide,b,.ref tc,_,40,dc,rq,g3,by omega,g1,sc,by decide,by decide,by decide,λw1 d1 K1 q1 z1 hk1 sk1=>?_⟩;refine⟨_,rq,_,rq,6,by decide,b,.ref tr,_,40,dr,rq,hk1,by omega,Rep.same (Bv sk1) g2,sr,by decide,by decide,by decide,λw2 d2 K2 q2 z2 hk2 sk2=>?_⟩;refine cO ?_;dsimp only;show Am (BX _ _ _) _ _ _ _;refine Ks (fun σ' HX=>∃(y1 y2:V) (e1 e2:PyData),σ'=[jd a,some (.int (0+(i:Int))),jd b,jd ln,some (.int p),jd tc,jd tr,some (.int (0+(j:Int))),some y1,some y2]/\Rep (hid b HX) y1 e1/\Rep (hid b HX) y2 e2/\Sl 42 12 e1/\Sl 42 12 e2/\Bh HX b (2000+120*(j+1))/\Ah b HH HX) (fun σ' HX hP=>?_) (λhR=>?_)
   ·obtain⟨y1,y2,e1,e2,rfl,p1,p2,l1,l2,hbX,sX⟩:=hP;have f1:Fit 64 e1:=(l1.fit (by decide)).mono (by decide);have f2:Fit 64 e2:=(l2.fit (by decide)).mono (by decide);refine⟨_,rq,_,e1,rq,Rep.same CQ p1,f1,λHY sY=>⟨_,rq,Aw ⟨_,rq,_,e2,rq,Rep.same (Same.trans CQ sY) p2,f2,λHZ sZ=>⟨_,rq,Aw ?_⟩⟩⟩⟩;have sE:=sX.trans (Ah.of (sY.trans sZ));exact⟨_,_,_,rq,Rep.same (Bv sE) g1,Rep.same (Bv sE) g2,hbX.same (sY.trans sZ),g4.FN sE fb⟩
   ·have r1':=Rep.same (Bv sk2) q1;refine⟨_,rq,_,_,rq,rq,_,rq,Iz (λ_=>?_) (λ_=>?_)⟩
    ·refine⟨_,rq,_,rq,9,by decide,b,w1,_,41,d1,rq,hk2,by omega,r1',z1,by decide,by decide,by decide,λw3 d3 K3 q3 z3 hk3 sk3=>?_⟩;refine⟨_,rq,_,rq,9,by decide,b,w2,_,41,d2,rq,hk3,by omega,Rep.same (Bv sk3) q2,z2,by decide,by decide,by decide,λw4 d4 K4 q4 z4 hk4 sk4=>?_⟩;exact hR _ _ ⟨w3,w4,d3,d4,rq,Rep.same (Bv sk4) q3,q4,z3,z4,hk4.mono (by omega),sk1.trans (sk2.trans (sk3.trans sk4))⟩
    ·exact hR _ _ ⟨w1,w2,d1,d2,rq,r1',q2,z1.mono (by decide) (by decide),z2.mono (by decide) (by decide),hk2.mono (by omega),sk1.trans sk2⟩
  ·obtain⟨v7,v8,v9,rfl,g1,g2,g3,g4⟩:=h;exact⟨g4,_,_,_,_,_,_,_,_,_,rq⟩
 ·obtain⟨sm,u1,u2,u3,u4,u5,u6,u7,u8,u9,rfl⟩:=h;exact q _
end
structure FnI (K:YD) (x:Str) (st:Stmt):Prop where
 ex:∃(f:Addr) (oc:Value) (od an:Option Addr) (sl:YI) (kV dc pm cd ct:Value),nsIn K mainGlobals x=some (some (.ref f))/\K.lookup f=some ⟨oc,od,.func (fnOf x x (DW st) (CT st) (Aj st) .none kV dc pm an cd ct),sl⟩/\codeIn K cd x=true/\keepIn K (.ref f)=true
theorem FnI.of {K:YD} {x:Str} {st:Stmt} {f:Addr} {oc:Value} {od an:Option Addr} {sl:YI} {kV dc pm cd ct:Value} (a:nsIn K mainGlobals x=some (some (.ref f))) (l:K.lookup f=some ⟨oc,od,.func (fnOf x x (DW st) (CT st) (Aj st) .none kV dc pm an cd ct),sl⟩) (c:codeIn K cd x=true) (k:keepIn K (.ref f)=true):FnI K x st:=⟨f,oc,od,an,sl,kV,dc,pm,cd,ct,a,l,c,k⟩
theorem FnI.code {K:YD} {mg:YB} {h:Heap} {x:Str} {st:Stmt} {ps:YF} (I:FnI K x st) (X:K.In h) (G:h.Ns mainGlobals mg) (hb:∀(kV doc pm:Value) (an:Option Addr) (cdv ct:Value) (us:YE),us.length=ps.length->bindArgs (fnOf x x (DW st) (CT st) (Aj st) .none kV doc pm an cdv ct) ⟨us,[]⟩=pure (ps.zip us)):Code K mg x st ps:=by
 obtain⟨f,oc,od,an,sl,kV,dc,pm,cd,ct,a,l,c,k⟩:=I.ex;exact Code.of X G a l c k hb
def V7:YF->(YE->Prop)->Prop
 | [],P=>P []
 | _::r,P=>∀a,V7 r λt=>P (a::t)
theorem Ru:∀(ps:YF) {P:YE->Prop},V7 ps P->∀us:YE,us.length=ps.length->P us
 | [],_,h,[],_=>h
 | _::r,_,h,a::t,e=>Ru r (h a) t (Nat.succ.inj e)
theorem fnA {F:Value->Value->Value->Option Addr->Value->Value->FuncData} {ps:YF} (h:∀kV dc pm an cd ct,V7 ps λus=>bindArgs (F kV dc pm an cd ct) ⟨us,[]⟩=pure (ps.zip us)) (kV dc pm:Value) (an:Option Addr) (cd ct:Value) (us:YE) (hu:us.length=ps.length):bindArgs (F kV dc pm an cd ct) ⟨us,[]⟩=pure (ps.zip us):=Ru ps (h kV dc pm an cd ct) us hu
theorem all_mk {l:PySem.W.OpenLaw} {w:World} {K:YD} {h:Heap} {mg:YB} {fa fl:Addr} (X:K.In h) (G:h.Ns mainGlobals mg) (hfa:mg "law"=some (.ref fa))
  {odl anl:Option Addr} {sll:YI} {ocl kVl dcl pml cdl ctl:Value}
  (i0:FnI K "is_whole" Jl)
  (i1:FnI K "is_within" Iv)
  (i2:FnI K "is_row" Ky)
  (i3:FnI K "is_name" JG)
  (i4:FnI K "is_plain" Jo)
  (i5:FnI K "is_form" JH)
  (i6:FnI K "inner_ones" HF)
  (i7:FnI K "is_condition" Gh)
  (i8:FnI K "is_rule" JF)
  (i9:FnI K "is_rules" Jm)
  (i10:FnI K "_law_bag" LQ)
  (i11:FnI K "_law_take" Kv)
  (i12:FnI K "_law_name" Jk)
  (i13:FnI K "_law_names" Ik)
  (i14:FnI K "_law_leaf" Kw)
  (i15:FnI K "_law_condition" Hi)
  (i16:FnI K "_law_other" JD)
  (i17:FnI K "_law_spoilt" Jj)
  (i18:FnI K "_law_is" O1)
  (i19:FnI K "_law_is_name" Ir)
  (i20:FnI K "_law_counted" Iu)
  (i21:FnI K "_law_is_rules" HD)
  (i22:FnI K "_law_rules" JC)
  (i23:FnI K "_law_is_truth" Hz)
  (i24:FnI K "_law_both_right" Gg)
  (al:nsIn K mainGlobals "law"=some (some (.ref fl))) (ll:K.lookup fl=some ⟨ocl,odl,.func (fnOf "law" "law" (DW Hr) (CT Hr) (Aj Hr) .none kVl dcl pml anl cdl ctl),sll⟩) (cl:codeIn K cdl "law"=true) (kl:keepIn K (.ref fl)=true)
  (z0:nsIn K mainGlobals "isinstance"=some none)
  (z1:nsIn K mainGlobals "int"=some none)
  (z2:nsIn K mainGlobals "bool"=some none)
  (z3:nsIn K mainGlobals "tuple"=some none)
  (z4:nsIn K mainGlobals "list"=some none)
  (z5:nsIn K mainGlobals "str"=some none)
  (z6:nsIn K mainGlobals "len"=some none)
  (z7:nsIn K mainGlobals "all"=some none)
  (z8:nsIn K mainGlobals "abs"=some none)
  (z9:nsIn K mainGlobals "max"=some none)
  (z10:nsIn K mainGlobals "min"=some none)
  (z11:nsIn K mainGlobals "range"=some none)
  (z12:nsIn K mainGlobals "sorted"=some none)
  (z13:nsIn K mainGlobals "any"=some none)
  (z14:nsIn K mainGlobals "sum"=some none)
  (z15:nsIn K mainGlobals "enumerate"=some none)
  (z16:nsIn K mainGlobals "zip"=some none)
  (z17:nsIn K mainGlobals "reversed"=some none)
  (z18:nsIn K mainGlobals "dict"=some none)
  (z19:nsIn K mainGlobals "ord"=some none)
  (z20:nsIn K mainGlobals "set"=some none)
  {aG tkD tkC:Tok}
  (aSL:nsIn K mainGlobals "SMALL_LETTERS"=some (some (.str "abcdefghijklmnopqrstuvwxyz" aG)))
  (aMD:nsIn K mainGlobals "MOST_DEEP"=some (some (.int 6 tkD)))
  (aMC:nsIn K mainGlobals "MOST_CONDITIONS"=some (some (.int 20 tkC)))
  : ∃fd:FuncData,(∀(s:Shared) (v:Value),BindsTo s fd ⟨[v],[]⟩ [("_law_script",v)])/\∀base:Heap,K.In base->base.Ns mainGlobals mg->Eu l.prog w K mg base CX0 13 fa fd WK (Oa K):=by
 have e:=hfa.symm.trans (mg_of X G al);cases e;have TN:Nm mg:=⟨mg_none_of X G z0,mg_none_of X G z1,mg_none_of X G z2,mg_none_of X G z3,mg_none_of X G z4,mg_none_of X G z5,mg_none_of X G z6,mg_none_of X G z7,mg_none_of X G z8,mg_none_of X G z9,mg_none_of X G z10,mg_none_of X G z11,mg_none_of X G z12,mg_none_of X G z13,mg_none_of X G z14,mg_none_of X G z15,mg_none_of X G z16,mg_none_of X G z17,mg_none_of X G z18,mg_none_of X G z19,mg_none_of X G z20⟩;have TC:Tc mg:={ toNm:=TN,SMALL_LETTERS:=⟨_,mg_of X G aSL,⟨_,rq⟩⟩,MOST_DEEP:=⟨_,mg_of X G aMD,⟨_,rq⟩⟩,MOST_CONDITIONS:=⟨_,mg_of X G aMC,⟨_,rq⟩⟩ };have S8:=i0.code (ps:=FW) X G (fnA λ_ _ _ _ _ _ _=>rfl);have QM:=i1.code (ps:=Dw) X G (fnA λ_ _ _ _ _ _ _ _ _=>rfl);have Wh:=i2.code (ps:=Eo) X G (fnA λ_ _ _ _ _ _ _ _ _=>rfl);have Vj:=i3.code (ps:=Fw) X G (fnA λ_ _ _ _ _ _ _=>rfl);have Td:=i4.code (ps:=Ga) X G (fnA λ_ _ _ _ _ _ _=>rfl);have Vk:=i5.code (ps:=GX) X G (fnA λ_ _ _ _ _ _ _=>rfl);have Qt:=i6.code (ps:=Ep) X G (fnA λ_ _ _ _ _ _ _=>rfl);have MJ:=i7.code (ps:=Di) X G (fnA λ_ _ _ _ _ _ _=>rfl);have Vi:=i8.code (ps:=GR) X G (fnA λ_ _ _ _ _ _ _=>rfl);have S9:=i9.code (ps:=FZ) X G (fnA λ_ _ _ _ _ _ _=>rfl);have X4:=i10.code (ps:=Jc) X G (fnA λ_ _ _ _ _ _ _ _=>rfl);have Wc:=i11.code (ps:=Dl) X G (fnA λ_ _ _ _ _ _ _ _=>rfl);have Wf:=i12.code (ps:=Gi) X G (fnA λ_ _ _ _ _ _ _=>rfl);have Vh:=i13.code (ps:=Fv) X G (fnA λ_ _ _ _ _ _ _ _=>rfl);have Wg:=i14.code (ps:=HS) X G (fnA λ_ _ _ _ _ _ _ _ _ _=>rfl);have N6:=i15.code (ps:=Cm) X G (fnA λ_ _ _ _ _ _ _ _ _ _ _=>rfl);have Vg:=i16.code (ps:=GQ) X G (fnA λ_ _ _ _ _ _ _ _=>rfl);have S7:=i17.code (ps:=Eb) X G (fnA λ_ _ _ _ _ _ _ _=>rfl);have ZM:=i18.code (ps:=Jb) X G (fnA λ_ _ _ _ _ _ _ _ _=>rfl);have QK:=i19.code (ps:=Ei) X G (fnA λ_ _ _ _ _ _ _=>rfl);have QL:=i20.code (ps:=Df) X G (fnA λ_ _ _ _ _ _ _ _=>rfl);have Qs:=i21.code (ps:=En) X G (fnA λ_ _ _ _ _ _ _=>rfl);have Vf:=i22.code (ps:=GP) X G (fnA λ_ _ _ _ _ _ _=>rfl);have Qq:=i23.code (ps:=Em) X G (fnA λ_ _ _ _ _ _ _ _=>rfl);have MF:=i24.code (ps:=DQ) X G (fnA λ_ _ _ _ _ _ _=>rfl);have aD:=Uy (st:=Hr) ll cl kl;refine⟨fnOf "law" "law" (DW Hr) (CT Hr) (Aj Hr) .none kVl dcl pml anl cdl ctl,λs v=>.of_eq rfl,λbase _ _=>?_⟩;have Mt:=VB (P:=l.prog) (w:=w) (base:=base) X4 TN;have Ba:=Uc (P:=l.prog) (w:=w) (base:=base) Wc TN;have g_w:=Pa (P:=l.prog) (w:=w) (base:=base) S8 TN;have g_r:=Ue (P:=l.prog) (w:=w) (base:=base) Wh TN;have V0:=Nx (P:=l.prog) (w:=w) (base:=base) QM TN g_w;have Zk:=RQ (P:=l.prog) (w:=w) (base:=base) Vj TC;have cV:=Qy (P:=l.prog) (w:=w) (base:=base) Td TC g_r V0;have dg:=RT (P:=l.prog) (w:=w) (base:=base) Vk TC g_r V0 Zk cV;have cZ:=Ny (P:=l.prog) (w:=w) (base:=base) Qt TC;have Zr:=Lg (P:=l.prog) (w:=w) (base:=base) MJ TC dg cZ;have cR:=RP (P:=l.prog) (w:=w) (base:=base) Vi TC g_r V0 Zk Zr;have cT:=Qx (P:=l.prog) (w:=w) (base:=base) S9 TC g_r cR;have Zm:=Xn (P:=l.prog) (w:=w) (base:=base) Wf TN Ba;have Zj:=Vz (P:=l.prog) (w:=w) (base:=base) Vh TN Zm;have Zo:=Xp (P:=l.prog) (w:=w) (base:=base) ZM TC;have Zn:=O9 (P:=l.prog) (w:=w) (base:=base) QK TC;have Zq:=RV (P:=l.prog) (w:=w) (base:=base) QL TC Zo Zn 6;have cX:=Nv (P:=l.prog) (w:=w) (base:=base) Qs TC Zo Zn Zq;have cP:=Nu (P:=l.prog) (w:=w) (base:=base) Qq TC;have dh:=Ud (P:=l.prog) (w:=w) (base:=base) MF TC Zr cT Zq cX cP;have cY:=Xo (P:=l.prog) (w:=w) (base:=base) Wg TC Ba;have Zt:=Xq (P:=l.prog) (w:=w) (base:=base) N6 TC Ba cY 5;have cU:=Vx (P:=l.prog) (w:=w) (base:=base) Vf TC Ba Zm Zj Zt;have cW:=Vy (P:=l.prog) (w:=w) (base:=base) Vg TC Ba;have cQ:=Ub (P:=l.prog) (w:=w) (base:=base) S7 TC Ba cW 9;exact YX aD TC Mt Ba Zj Zt cU cQ dh
theorem walk {l:PySem.W.OpenLaw} {q:Program} {loose:YF} {XP:(YB)->Heap->Prop} {YP:World->Heap->Prop} {d:DefRec} {K:Params->YD} (hn:l.most=some 63) (hdf:d.params.defaults=[])
  (hY:∀(w:World) (h:Heap),YP w h->(K w.params).In h)
  (F:∀(w:World) (mg:YB) (fa:Addr) (h:Heap),(K w.params).In h->h.Ns mainGlobals mg->mg d.name=some (.ref fa) ->
   ∃fd:FuncData,(∀(s:Shared) (u:Value),BindsTo s fd ⟨[u],[]⟩ [("_law_script",u)])/\∀base:Heap,(K w.params).In base->base.Ns mainGlobals mg->Eu l.prog w (K w.params) mg base CX0 13 fa fd WK (Oa (K w.params))) :
  PySem.W.WalkO q loose XP YP l.row.toRowW d [] (λf vs=>PySem.call f vs):=
 L2.W0 (n:=63) (k:=13) (x:="_law_script") (CX:=λ_=>CX0) (sp:=λw=>Oa (K w.params)) hn (by decide) hdf ⟨rq,by decide,by decide⟩ hY F (λ_ _ a ns hl _ hS=>⟨a,ns,rq,hS,hl,λ_=>rfl⟩) λ_ _ _ _ _ z=>z
end K22
/-! names that stay free of quick twins: the head comes through without them, and the compiled text is much smaller -/
namespace PySem.W.Fast
def tw10680862584063332994:=0
def tw18193341970204607727:=0
def tw12930335948124579111:=0
def tw5356405527109180289:=0
def tw14398589899168320344:=0
def tw4355484437859713417:=0
def tw3616393262817242800:=0
def tw15858210333022321003:=0
def tw6641866869231919030:=0
def tw10485284083490952747:=0
def tw1842338071701466686:=0
def tw4147179823159439283:=0
def tw50426580910914059:=0
def tw13148442645517890678:=0
def tw428512782349933247:=0
def tw9007299215765736975:=0
def tw18370926465735832176:=0
def tw9328749559531254638:=0
def tw367337938503356874:=0
def tw16591597323755281087:=0
def tw16112407595355992607:=0
def tw1857902332866001658:=0
def tw13139492802682943714:=0
def tw17515428487024962478:=0
def tw7096202499907257350:=0
def tw8067576162998103822:=0
def tw5513092162973091799:=0
def tw11027244245916067820:=0
def tw17545072863883642123:=0
def tw769058751863657834:=0
def tw6365070014694456079:=0
def tw13906621174810107922:=0
def tw5014903860827374912:=0
def tw11266804641179444663:=0
def tw15031137767358593139:=0
def tw18424958366045567440:=0
def tw4999731045220132967:=0
def tw8450476839540490642:=0
def tw12163419543812735129:=0
def tw14204075722908431876:=0
def tw3914462985052909083:=0
def tw11032756565231787895:=0
def tw10140477342957168896:=0
def tw11853739211090651104:=0
def tw6201179376154097653:=0
def tw11640986518344458559:=0
def tw8212160268014603817:=0
def tw14644732188662635260:=0
def tw1028094130758235087:=0
def tw12726513168766507966:=0
def tw17851921518222363793:=0
def tw10305877671014750259:=0
def tw188774270378041062:=0
def tw468398338311289623:=0
def tw10075858638848461785:=0
def tw6593500047389398751:=0
def tw6612259019001140553:=0
def tw12749279906243979636:=0
def tw7696644482587698063:=0
def tw14973057691184899569:=0
def tw4236374551705696561:=0
def tw11452413903410245215:=0
end PySem.W.Fast
open PySem PySem.W PyProof.Rows
set_option maxRecDepth 100000 in
set_option maxHeartbeats 0 in
theorem PySem.Challenge.cw_warnloop_k22_conditions_told_holds : PySem.Challenge.rw_warnloop_k22_conditions_told.Holds := by
 w_on;o_law;k_head;(case hw=>w_witness2)
 k_fill
 refine K22.walk (l:=PySem.Challenge.rw_warnloop_k22_conditions_told) rfl rfl (λw h Y=>PySem.W.kIn_of Y) ?F
 case F=>
  intro w mg fa h KX G hmg
  refine' K22.all_mk KX G hmg (.of ?ai0 ?li0 ?ci0 ?ki0) (.of ?ai1 ?li1 ?ci1 ?ki1) (.of ?ai2 ?li2 ?ci2 ?ki2) (.of ?ai3 ?li3 ?ci3 ?ki3) (.of ?ai4 ?li4 ?ci4 ?ki4) (.of ?ai5 ?li5 ?ci5 ?ki5) (.of ?ai6 ?li6 ?ci6 ?ki6) (.of ?ai7 ?li7 ?ci7 ?ki7) (.of ?ai8 ?li8 ?ci8 ?ki8) (.of ?ai9 ?li9 ?ci9 ?ki9) (.of ?fK ?bO ?d9 ?cF) (.of ?fJ ?bN ?d8 ?cD) (.of ?fH ?bM ?d7 ?cC) (.of ?fG ?bL ?dZ ?cB) (.of ?fD ?bK ?dY ?cu) (.of ?fC ?bJ ?dX ?cj) (.of ?fB ?bI ?dW ?cg) (.of ?fu ?bH ?dU ?bZ) (.of ?fj ?bG ?dR ?bY) (.of ?eZ ?bF ?dO ?bW) (.of ?eY ?bD ?dN ?bV) (.of ?eX ?bC ?dM ?bU) (.of ?eV ?bA ?dJ ?bT) (.of ?eU ?bx ?dI ?bR) (.of ?eO ?bw ?dH ?bQ) ?al ?ll ?cl ?kl ?z0 ?z1 ?z2 ?z3 ?z4 ?z5 ?z6 ?z7 ?z8 ?z9 ?z10 ?z11 ?z12 ?z13 ?z14 ?z15 ?z16 ?z17 ?z18 ?z19 ?z20 ?aSL ?aMD ?aMC
  (case ai0 | li0 | ci0 | ki0 | ai1 | li1 | ci1 | ki1 | ai2 | li2 | ci2 | ki2 | ai3 | li3 | ci3 | ki3 | ai4 | li4 | ci4 | ki4 | ai5 | li5 | ci5 | ki5 | ai6 | li6 | ci6 | ki6 | ai7 | li7 | ci7 | ki7 | ai8 | li8 | ci8 | ki8 | ai9 | li9 | ci9 | ki9 | fK | bO | d9 | cF | fJ | bN | d8 | cD | fH | bM | d7 | cC | fG | bL | dZ | cB | fD | bK | dY | cu | fC | bJ | dX | cj | fB | bI | dW | cg | fu | bH | dU | bZ | fj | bG | dR | bY | eZ | bF | dO | bW | eY | bD | dN | bV | eX | bC | dM | bU | eV | bA | dJ | bT | eU | bx | dI | bR | eO | bw | dH | bQ=>k_is)
  (case al | ll | cl | kl | z0 | z1 | z2 | z3 | z4 | z5 | z6 | z7 | z8 | z9 | z10 | z11 | z12 | z13 | z14 | z15 | z16 | z17 | z18 | z19 | z20 | aSL | aMD | aMC=>k_is)
