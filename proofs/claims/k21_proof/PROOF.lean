import PyProof.Rows.All
import Wide.All
import OpenK.AllK
import Wide.FinOn
import Lean
import PyProof.EqAt
import PyProof.EqKinds
import PyProof.TupleCall
import PySem.Challenge.RW_warnloop_k21_whole_warnings_name_askings
set_option Elab.async false
set_option linter.all false
set_option maxRecDepth 100000
/-! THE HAND LAYER, for ints, bools, texts, own classes, LISTS and tuples (index, slices, in, append, pop ..), calls, loops. Paste it whole ahead of your own text; what your proof does not reach may be deleted. -/
namespace L2
open PySem PySem.Spec PyProof.Rows

/-- a key: an int or a str -/
abbrev Key := Sum Int Str
def keyIs : Key → Value → Bool
  | .inl k, v => Value.isInt k v
  | .inr x, v => Value.isStrOf x v
def keyH (w : World) : Key → Int
  | .inl k => hashInt k
  | .inr x => hashStr w x
theorem keyIs_shape : ∀ {k : Key} {v : Value}, keyIs k v = true → (∃ i t, k = Sum.inl i ∧ v = Value.int i t) ∨ (∃ x t, k = Sum.inr x ∧ v = Value.str x t)
  | .inl i, v, h => by
    obtain ⟨t, e⟩ := Value.isInt_shape (k := i) (v := v) h
    exact .inl ⟨i, t, rfl, e⟩
  | .inr x, v, h => by
    obtain ⟨t, e⟩ := Value.isStrOf_shape (x := x) (v := v) h
    exact .inr ⟨x, t, rfl, e⟩
theorem keyIs_int (i : Int) (t : Tok) : keyIs (.inl i) (.int i t) = true := by simp [keyIs, Value.isInt]
theorem keyIs_str (x : Str) (t : Tok) : keyIs (.inr x) (.str x t) = true := by simp [keyIs, Value.isStrOf]
theorem key_ll (a b : Int) : decide ((Sum.inl a : Key) = Sum.inl b) = (a == b) := by
  by_cases e : a = b
  · subst e; simp
  · have h : ¬ (Sum.inl a : Key) = Sum.inl b := fun q => e (Sum.inl.inj q)
    rw [decide_eq_false h]
    exact (beq_eq_false_iff_ne.mpr e).symm
theorem key_rr (a b : Str) : decide ((Sum.inr a : Key) = Sum.inr b) = decide (a = b) := by
  by_cases e : a = b
  · subst e; simp
  · have h : ¬ (Sum.inr a : Key) = Sum.inr b := fun q => e (Sum.inr.inj q)
    rw [decide_eq_false h, decide_eq_false e]
theorem key_lr (a : Int) (b : Str) : decide ((Sum.inl a : Key) = Sum.inr b) = false := decide_eq_false (fun q => nomatch q)
theorem key_rl (a : Str) (b : Int) : decide ((Sum.inr a : Key) = Sum.inl b) = false := decide_eq_false (fun q => nomatch q)

def mixKind (prog : Program) (w : World) : PySem.KeyKind prog w Key where
  is := keyIs
  hash := keyH w
  inj := fun v a b ha hb => by
    rcases keyIs_shape ha with ⟨i, t, rfl, rfl⟩ | ⟨x, t, rfl, rfl⟩
    · rcases keyIs_shape hb with ⟨j, u, rfl, e⟩ | ⟨y, u, rfl, e⟩
      · injection e with e1 _; rw [e1]
      · exact nomatch e
    · rcases keyIs_shape hb with ⟨j, u, rfl, e⟩ | ⟨y, u, rfl, e⟩
      · exact nomatch e
      · injection e with e1 _; rw [e1]
  byValue := fun k v h => by
    rcases keyIs_shape h with ⟨i, t, rfl, rfl⟩ | ⟨x, t, rfl, rfl⟩ <;> rfl
  pyHash := fun hv h => by
    rcases keyIs_shape hv with ⟨i, t, rfl, rfl⟩ | ⟨x, t, rfl, rfl⟩
    · exact wpAny_pyHash_int h
    · exact wpAny_pyHash_str h
  eqBool := fun hu hv h => by
    rcases keyIs_shape hu with ⟨i, t, rfl, rfl⟩ | ⟨x, t, rfl, rfl⟩
    · rcases keyIs_shape hv with ⟨j, u, rfl, rfl⟩ | ⟨y, u, rfl, rfl⟩
      · rw [key_ll] at h; exact wpAny_eqBool_int h
      · rw [key_lr] at h; exact SeqAt.EqAt.int_str i t y u _ _ _ _ h
    · rcases keyIs_shape hv with ⟨j, u, rfl, rfl⟩ | ⟨y, u, rfl, rfl⟩
      · rw [key_rl] at h; exact SeqAt.EqAt.str_int x t j u _ _ _ _ h
      · rw [key_rr] at h; exact wpAny_eqBool_str h
  «strs» := fun k x t v h => by
    rcases keyIs_shape h with ⟨i, u, rfl, e⟩ | ⟨y, u, rfl, e⟩
    · exact nomatch e
    · injection e with e1 _
      subst e1
      cases v <;> rfl

theorem mixKind_is (prog : Program) (w : World) (k : Key) (v : Value) : (mixKind prog w).is k v = keyIs k v := rfl
theorem mixKind_int (prog : Program) (w : World) (i : Int) (t : Tok) : (mixKind prog w).is (.inl i) (.int i t) = true := keyIs_int i t
theorem mixKind_str (prog : Program) (w : World) (x : Str) (t : Tok) : (mixKind prog w).is (.inr x) (.str x t) = true := keyIs_str x t
end L2

namespace L2
open PySem PySem.Spec PyProof.Rows

/-- a value, without the heap -/
inductive V where
  | non | bl (b : Bool) | int (i : Int) | str (x : Str) | byt (b : Array UInt8) | flt (b : UInt64) | ref (a : Addr) | ty (n : String)
  deriving DecidableEq

def RelV : V → Value → Prop
  | .non, u => u = Value.none
  | .bl b, u => u = Value.bool b
  | .int i, u => ∃ t, u = Value.int i t
  | .str x, u => ∃ t, u = Value.str x t
  | .byt b, u => ∃ t, u = Value.bytes b t
  | .flt b, u => ∃ t, u = Value.float b t
  | .ref a, u => u = Value.ref a
  | .ty n, u => u = Value.type n

abbrev Vals : List V → List Value → Prop := Paired RelV
theorem Vals.length {xs : List V} {us : List Value} (r : Vals xs us) : xs.length = us.length := Paired.length r
theorem Vals.get : ∀ {xs : List V} {us : List Value} {i : Nat} {x : V}, Vals xs us → xs[i]? = some x → ∃ u, us[i]? = some u ∧ RelV x u
  | _, _, _, _, .nil, e => by simp at e
  | _, _, 0, _, .cons r _, e => by simp at e; subst e; exact ⟨_, rfl, r⟩
  | _, _, i + 1, x, .cons _ t, e => by
    obtain ⟨u, h1, h2⟩ := Vals.get (i := i) (x := x) t (by simpa using e)
    exact ⟨u, by simpa using h1, h2⟩
theorem Vals.set {x : V} {u : Value} (r : RelV x u) : ∀ {xs : List V} {us : List Value} (i : Nat), Vals xs us → Vals (xs.set i x) (us.set i u)
  | _, _, _, .nil => .nil
  | _, _, 0, .cons _ t => .cons r t
  | _, _, i + 1, .cons q t => .cons q (Vals.set r i t)
theorem Vals.append : ∀ {xs ys : List V} {us ws : List Value}, Vals xs us → Vals ys ws → Vals (xs ++ ys) (us ++ ws)
  | _, _, _, _, .nil, s => s
  | _, _, _, _, .cons r t, s => .cons r (Vals.append t s)
theorem Vals.take : ∀ {xs : List V} {us : List Value} (n : Nat), Vals xs us → Vals (xs.take n) (us.take n)
  | _, _, 0, _ => .nil
  | _, _, _ + 1, .nil => .nil
  | _, _, n + 1, .cons r t => .cons r (Vals.take n t)
theorem Vals.drop : ∀ {xs : List V} {us : List Value} (n : Nat), Vals xs us → Vals (xs.drop n) (us.drop n)
  | _, _, 0, r => r
  | _, _, _ + 1, .nil => .nil
  | _, _, n + 1, .cons _ t => Vals.drop n t
theorem Vals.none_of : ∀ {xs : List V} {us : List Value} {i : Nat}, Vals xs us → xs[i]? = none → us[i]? = none := fun {xs us i} r e => by
  have h1 := r.length
  have h2 : xs.length ≤ i := List.getElem?_eq_none_iff.mp e
  exact List.getElem?_eq_none_iff.mpr (by omega)

def RelO : Option V → Option Value → Prop
  | some v, some u => RelV v u
  | none, none => True
  | _, _ => False
def KV {κ : Type} : List (κ × V) → List (κ × Value) → Prop := Paired fun (p : κ × V) (q : κ × Value) => p.1 = q.1 ∧ RelV p.2 q.2

/-- a key of a dict (00_mix): an int or a text -/
def kV : Key → V
  | .inl i => .int i
  | .inr x => .str x

/-- what stands at a tracked address -/
inductive HO where
  /-- a list -/
  | lst (xs : List V)
  /-- a tuple (never changes) -/
  | tup (xs : List V)
  /-- a dict whose keys are ints and texts; one whose keys are tuples of ints and texts (the empty one is both) -/
  | dK (kvs : List (Key × V)) | dT (kvs : List (List Key × V))
  /-- a set of ints: its members, its size -/
  | set (S : Int → Bool) (n : Nat)
  /-- an instance of the class at C, its dict at dx, its attributes -/
  | ins (C dx : Addr) (fs : List (Str × V))
  /-- the dict of the instance at x -/
  | own (x : Addr)
  /-- the dict of an exception -/
  | xd (fs : List (Str × V))
  /-- a bound method, f of x -/
  | met (f x : Addr)
  /-- a range object lo, lo + 1, .. below hi -/
  | rng (lo hi : Int)
  /-- a thing that is known to the object (the script; a dict while a loop walks it): read, never written while it is so -/
  | frz (o : Obj) (u : HO)
  /-- a code object's table -/
  | tbl (ps : Array Value)
  /-- any other thing, by what is true of its one object (a def of one's own: SetO a S n := HO.ext fun h => ..) -/
  | ext (φ : Heap → Prop)

abbrev Hp := Addr → Option HO
def upd (H : Hp) (a : Addr) (o : HO) : Hp := fun b => if b = a then some o else H b
theorem upd_same {H : Hp} {a : Addr} {o : HO} : upd H a o a = some o := by unfold upd; rw [if_pos rfl]
theorem upd_ne {H : Hp} {a b : Addr} {o : HO} (h : b ≠ a) : upd H a o b = H b := by unfold upd; rw [if_neg h]
theorem upd_upd {H : Hp} {a : Addr} {o u : HO} : upd (upd H a o) a u = upd H a u := by
  funext b; unfold upd; split <;> rfl
/-- two objects of different content stand apart -/
theorem ne_of {H : Hp} {a b : Addr} {o u : HO} (h : H a = some o) (h' : H b = some u) (d : o ≠ u) : a ≠ b := by
  intro e; subst e; rw [h] at h'; exact d (Option.some.inj h')
theorem ne_of_none {H : Hp} {a b : Addr} {o : HO} (h : H a = some o) (h' : H b = none) : a ≠ b := by
  intro e; subst e; rw [h] at h'; cases h'

section
variable (P : Program) (w : World)
def ObjOk (H : Hp) (h : Heap) (a : Addr) : HO → Prop
  | .lst xs => xs.length ≤ sizeLine ∧ ∃ (its : List Value) (n : Nat), Vals xs its ∧ h.get? a = some { cls := .type "list", data := .seq its.toArray n }
  | .tup xs => xs.length ≤ sizeLine ∧ ∃ its : List Value, Vals xs its ∧ IsTup h a its.toArray
  | .dK kvs => kvs.length ≤ sizeLine ∧ (a == sysModules) = false ∧ ∃ vs, KV kvs vs ∧ h.DictOf (mixKind P w) a vs
  | .dT kvs => kvs.length ≤ sizeLine ∧ (a == sysModules) = false ∧ ∃ xs : List (List Key × Addr × Value),
      Paired (fun (p : List Key × V) (q : List Key × Addr × Value) => p.1 = q.1 ∧ H q.2.1 = some (.tup (p.1.map kV)) ∧ RelV p.2 q.2.2) kvs xs ∧
      ∃ o es ep, h.get? a = some o ∧ o.ExactDict ∧ o.data = .dict es ep ∧ es.toList = xs.map (entryOfKey (tupleKind (mixKind P w))) ∧ (xs.map (·.1)).Nodup
  | .set S n => h.SetOf (intKind P w) a S n
  | .ins C dx fs => H dx = some (.own a) ∧ fs.length ≤ 1000 ∧ dx ≠ a ∧ h.get? a = some (PySem.W.instObj C dx) ∧
      ∃ mA, h.Ns1 dx mA ∧ (∀ f, RelO (fs.lookup f) (mA f)) ∧ PySem.Within mA (fs.map (·.1))
  | .own _ => ∃ o, h.get? a = some o
  | .xd fs => ∃ mA, h.Ns1 a mA ∧ ∀ f, RelO (fs.lookup f) (mA f)
  | .rng lo hi => ∃ t u v, h.get? a = some { cls := .type "range", data := .fields #[.int lo t, .int hi u, .int 1 v] }
  | .frz o u => h.get? a = some o ∧ ObjOk H h a u
  | .tbl ps => h.get? a = some { cls := .none, data := .fields ps }
  | .met f x => h.get? a = some (PySem.W.methodObj (.ref f) (.ref x))
  | .ext φ => φ h ∧ (∃ o, h.get? a = some o) ∧ ∀ h1 h2 : Heap, φ h1 → (∀ o, h1.get? a = some o → h2.get? a = some o) → φ h2
/-- the abstract heap is held -/
def HOk (H : Hp) (h : Heap) : Prop := ∀ a o, H a = some o → ObjOk P w H h a o
end

section
variable {P : Program} {w : World} {H H' : Hp} {h h' : Heap} {a : Addr} {o : HO}
theorem ObjOk.lt (x : ObjOk P w H h a o) : a < h.objs.size := by
  cases o with
  | lst xs => obtain ⟨_, _, _, _, e⟩ := x; exact Heap.lt_size e
  | tup xs => obtain ⟨_, _, _, p⟩ := x; exact p.lt
  | dK kvs => obtain ⟨_, _, _, _, o, _, _, e, _⟩ := x; exact Heap.lt_size e
  | dT kvs => obtain ⟨_, _, _, _, o, _, _, e, _⟩ := x; exact Heap.lt_size e
  | set S n => obtain ⟨o, _, _, _, e, _⟩ := x; exact Heap.lt_size e
  | ins C dx fs => obtain ⟨_, _, _, e, _⟩ := x; exact Heap.lt_size e
  | own y => obtain ⟨_, e⟩ := x; exact Heap.lt_size e
  | xd fs => obtain ⟨_, ⟨_, _, _, e, _⟩, _⟩ := x; exact Heap.lt_size e
  | rng lo hi => obtain ⟨_, _, _, e⟩ := x; exact Heap.lt_size e
  | frz ob u => obtain ⟨e, _⟩ := x; exact Heap.lt_size e
  | tbl ps => exact Heap.lt_size (show h.get? a = some _ from x)
  | met f y => exact Heap.lt_size (show h.get? a = some _ from x)
  | ext φ => obtain ⟨_, ⟨_, e⟩, _⟩ := x; exact Heap.lt_size e
theorem Paired.mapP {α β : Type} {F G : α → β → Prop} : ∀ {l₁ : List α} {l₂ : List β}, Paired F l₁ l₂ → (∀ a b, F a b → G a b) → Paired G l₁ l₂
  | _, _, .nil, _ => .nil
  | _, _, .cons r t, f => .cons (f _ _ r) (Paired.mapP t f)
theorem Paired.imp' {α β : Type} {F G : α → β → Prop} (f : ∀ a b, F a b → G a b) {l₁ : List α} {l₂ : List β} (r : Paired F l₁ l₂) : Paired G l₁ l₂ := Paired.mapP r f
/-- what an object's description leans on: its own object, its own dict, the tuples -/
theorem ObjOk.stay (x : ObjOk P w H h a o) (k : ∀ b u, (b = a ∨ H b = some (.own a)) → h.get? b = some u → h'.get? b = some u)
    (ho : ∀ b, H b = some (.own a) → H' b = some (.own a)) (ht : ∀ b xs, H b = some (.tup xs) → H' b = some (.tup xs)) : ObjOk P w H' h' a o := by
  induction o with
  | lst xs => obtain ⟨z, its, n, r, e⟩ := x; exact ⟨z, its, n, r, k _ _ (.inl rfl) e⟩
  | tup xs => obtain ⟨z, its, r, ob, e, c⟩ := x; exact ⟨z, its, r, ob, k _ _ (.inl rfl) e, c⟩
  | dK kvs => obtain ⟨z, y, vs, r, ob, es, ep, e, c⟩ := x; exact ⟨z, y, vs, r, ob, es, ep, k _ _ (.inl rfl) e, c⟩
  | dT kvs =>
    obtain ⟨z, y, xs, r, ob, es, ep, e, c⟩ := x
    exact ⟨z, y, xs, Paired.mapP r fun p q z => ⟨z.1, ht _ _ z.2.1, z.2.2⟩, ob, es, ep, k _ _ (.inl rfl) e, c⟩
  | set S n => obtain ⟨ob, es, ep, t, e, c⟩ := x; exact ⟨ob, es, ep, t, k _ _ (.inl rfl) e, c⟩
  | ins C dx fs =>
    obtain ⟨d, z, ne, e, mA, ⟨od, es, ep, e2, c⟩, r⟩ := x
    exact ⟨ho _ d, z, ne, k _ _ (.inl rfl) e, mA, ⟨od, es, ep, k _ _ (.inr d) e2, c⟩, r⟩
  | own y => obtain ⟨ob, e⟩ := x; exact ⟨ob, k _ _ (.inl rfl) e⟩
  | xd fs => obtain ⟨mA, ⟨od, es, ep, e, c⟩, r⟩ := x; exact ⟨mA, ⟨od, es, ep, k _ _ (.inl rfl) e, c⟩, r⟩
  | rng lo hi => obtain ⟨t, u, v, e⟩ := x; exact ⟨t, u, v, k _ _ (.inl rfl) e⟩
  | frz ob u ih => obtain ⟨e, q⟩ := x; exact ⟨k _ _ (.inl rfl) e, ih q⟩
  | tbl ps =>
    have e : h.get? a = some { cls := .none, data := .fields ps } := x
    show h'.get? a = some { cls := .none, data := .fields ps }
    exact k a _ (.inl rfl) e
  | met f y =>
    have e : h.get? a = some (PySem.W.methodObj (.ref f) (.ref y)) := x
    show h'.get? a = some (PySem.W.methodObj (.ref f) (.ref y))
    exact k a _ (.inl rfl) e
  | ext φ => obtain ⟨p, ⟨o, e⟩, st⟩ := x; exact ⟨st _ _ p fun o q => k _ _ (.inl rfl) q, ⟨o, k _ _ (.inl rfl) e⟩, st⟩
theorem HOk.lt (x : HOk P w H h) (e : H a = some o) : a < h.objs.size := (x a o e).lt
theorem HOk.fresh (x : HOk P w H h) (e : h.objs.size ≤ a) : H a = none := by
  cases q : H a with
  | none => rfl
  | some u => exact absurd (Nat.lt_of_lt_of_le (x.lt q) e) (Nat.lt_irrefl _)
/-- every object of the heap is kept -/
theorem HOk.kept (x : HOk P w H h) (k : ∀ b u, h.get? b = some u → h'.get? b = some u) : HOk P w H h' := fun a o e =>
  (x a o e).stay (fun b u _ q => k b u q) (fun _ q => q) fun _ _ q => q
/-- a new object is laid and tracked -/
theorem HOk.laid (x : HOk P w H h) (k : ∀ b u, h.get? b = some u → h'.get? b = some u) (hp : h.objs.size ≤ a) (new : ObjOk P w (upd H a o) h' a o) : HOk P w (upd H a o) h' := fun b u e => by
  have hn := x.fresh hp
  by_cases hb : b = a
  · subst hb; rw [upd_same] at e; cases e; exact new
  · rw [upd_ne hb] at e
    exact (x b u e).stay (fun c v _ q => k c v q) (fun c q => by rw [upd_ne (ne_of_none q hn)]; exact q) fun c xs q => by rw [upd_ne (ne_of_none q hn)]; exact q
end

/-- what may be read as u: it is u, or a known u -/
def Rd (H : Hp) (a : Addr) (u : HO) : Prop := H a = some u ∨ ∃ o, H a = some (.frz o u)
theorem Rd.of {H : Hp} {a : Addr} {u : HO} (h : H a = some u) : Rd H a u := .inl h
theorem Rd.ok {P : Program} {w : World} {H : Hp} {h : Heap} {a : Addr} {u : HO} (r : Rd H a u) (x : HOk P w H h) : ObjOk P w H h a u := by
  rcases r with r | ⟨o, r⟩
  · exact x a u r
  · obtain ⟨_, q⟩ := x a _ r
    exact q
/-- what may be written -/
def Mut : Option HO → Prop
  | some (.lst _) => True
  | some (.dK _) => True
  | some (.dT _) => True
  | some (.set _ _) => True
  | some (.ins _ _ _) => True
  | some (.ext _) => True
  | _ => False
section
variable {P : Program} {w : World} {H : Hp} {h h' : Heap} {x e : Addr} {o' : HO}
/-- the object at e is changed: x itself, or the dict of the instance x -/
theorem HOk.write (ok : HOk P w H h) (mu : Mut (H x)) (he : e = x ∨ H e = some (.own x)) (k : ∀ b u, b ≠ e → h.get? b = some u → h'.get? b = some u) (heo : ∃ u, h'.get? e = some u)
    (new : ObjOk P w (upd H x o') h' x o') : HOk P w (upd H x o') h' := fun b u q => by
  have nown : ∀ c y, H c = some (.own y) → c ≠ x := fun c y r z => by subst z; rw [r] at mu; exact mu
  have ntup : ∀ c xs, H c = some (.tup xs) → c ≠ x := fun c xs r z => by subst z; rw [r] at mu; exact mu
  by_cases hb : b = x
  · subst hb; rw [upd_same] at q; cases q; exact new
  · rw [upd_ne hb] at q
    by_cases hbe : b = e
    · have q' : H b = some (.own x) := by
        rcases he with z | z
        · exact absurd (hbe.trans z) hb
        · rw [hbe]; exact z
      rw [q] at q'; cases q'
      obtain ⟨v, hv⟩ := heo
      exact ⟨v, by rw [hbe]; exact hv⟩
    · refine (ok b u q).stay (fun c v hc r => k c v ?_ r) (fun c r => by rw [upd_ne (nown c b r)]; exact r) fun c xs r => by rw [upd_ne (ntup c xs r)]; exact r
      rcases hc with rfl | hc
      · exact hbe
      · rintro rfl
        rcases he with z | z
        · exact nown c b hc z
        · rw [hc] at z; cases z; exact hb rfl
end

/-! ### kept unless tracked; of the frames at fs (the callers') the slots may change (an exception that passes writes there); of the records at ex (iterators) nothing is said -/
structure Un (fs ex : List Addr) (H H' : Hp) (h h' : Heap) : Prop where
  keep : ∀ b o, h.get? b = some o → H b = none → b ∉ fs → b ∉ ex → h'.get? b = some o
  slot : ∀ b o, h.get? b = some o → H b = none → b ∈ fs → b ∉ ex → ∃ sl, h'.get? b = some { o with slots := sl }
  free : ∀ b o, h.get? b = some o → H b = none → b ∉ ex → H' b = none
  there : ∀ b o, h.get? b = some o → b ∉ ex → ∃ o', h'.get? b = some o'
  tups : ∀ b xs, H b = some (.tup xs) → H' b = some (.tup xs)
  frzs : ∀ b o u, H b = some (.frz o u) → H' b = some (.frz o u)
  tbls : ∀ b ps, H b = some (.tbl ps) → ∃ more, H' b = some (.tbl (ps ++ more))
section
variable {fs fs' ex ex' : List Addr} {H H1 H2 : Hp} {h h1 h2 h' : Heap} {a x e : Addr} {o : HO}
theorem Un.any (u : Un fs ex H H1 h h1) {b : Addr} {ob : Obj} (q : h.get? b = some ob) (n : H b = none) (hx : b ∉ ex) : ∃ sl, h1.get? b = some { ob with slots := sl } := by
  by_cases hb : b ∈ fs
  · exact u.slot b ob q n hb hx
  · exact ⟨ob.slots, u.keep b ob q n hb hx⟩
theorem Un.trans (a : Un fs ex H H1 h h1) (b : Un fs ex H1 H2 h1 h2) : Un fs ex H H2 h h2 where
  keep := fun c ob q n hc hx => b.keep c ob (a.keep c ob q n hc hx) (a.free c ob q n hx) hc hx
  slot := fun c ob q n hc hx => by
    obtain ⟨sl, e1⟩ := a.slot c ob q n hc hx
    obtain ⟨sl', e2⟩ := b.slot c _ e1 (a.free c ob q n hx) hc hx
    exact ⟨sl', e2⟩
  free := fun c ob q n hx => by
    obtain ⟨o', e1⟩ := a.there c ob q hx
    exact b.free c o' e1 (a.free c ob q n hx) hx
  there := fun c ob q hx => by
    obtain ⟨o', e1⟩ := a.there c ob q hx
    exact b.there c o' e1 hx
  tups := fun c xs q => b.tups c xs (a.tups c xs q)
  frzs := fun c ob xs q => b.frzs c ob xs (a.frzs c ob xs q)
  tbls := fun c ps q => by
    obtain ⟨m1, e1⟩ := a.tbls c ps q
    obtain ⟨m2, e2⟩ := b.tbls c _ e1
    exact ⟨m1 ++ m2, by rw [e2, Array.append_assoc]⟩
theorem Un.kept (k : ∀ b u, h.get? b = some u → h'.get? b = some u) : Un fs ex H H h h' :=
  ⟨fun b ob q _ _ _ => k b ob q, fun b ob q _ _ _ => ⟨ob.slots, k b ob q⟩, fun _ _ _ n _ => n, fun b ob q _ => ⟨ob, k b ob q⟩, fun _ _ q => q, fun _ _ _ q => q, fun _ ps q => ⟨#[], by rw [q]; simp⟩⟩
theorem Un.refl : Un fs ex H H h h := Un.kept fun _ _ q => q
theorem Un.laid (k : ∀ b u, h.get? b = some u → h'.get? b = some u) (hp : h.objs.size ≤ a) (hn : H a = none) : Un fs ex H (upd H a o) h h' where
  keep := fun b u q _ _ _ => k b u q
  slot := fun b u q _ _ _ => ⟨u.slots, k b u q⟩
  free := fun b u q n _ => by rw [upd_ne (Nat.ne_of_lt (Nat.lt_of_lt_of_le (Heap.lt_size q) hp))]; exact n
  there := fun b u q _ => ⟨u, k b u q⟩
  tups := fun b xs q => by rw [upd_ne (ne_of_none q hn)]; exact q
  frzs := fun b u xs q => by rw [upd_ne (ne_of_none q hn)]; exact q
  tbls := fun b ps q => ⟨#[], by rw [upd_ne (ne_of_none q hn), q]; simp⟩
theorem Un.write (mu : Mut (H x)) (he : e = x ∨ H e = some (.own x)) (k : ∀ b u, b ≠ e → h.get? b = some u → h'.get? b = some u) (heo : ∃ u, h'.get? e = some u) : Un fs ex H (upd H x o) h h' := by
  have hx : ∀ b, H b = none → b ≠ x := fun b n z => by subst z; rw [n] at mu; exact mu
  have hb : ∀ b, H b = none → b ≠ e := fun b n z => by
    subst z
    rcases he with r | r
    · exact hx b n r
    · rw [n] at r; cases r
  have hm : ∀ b u, H b = some u → ¬ Mut (some u) → b ≠ x := fun b u q nm z => by subst z; rw [q] at mu; exact nm mu
  refine ⟨fun b u q n _ _ => k b u (hb b n) q, fun b u q n _ _ => ⟨u.slots, k b u (hb b n) q⟩, fun b u q n _ => by rw [upd_ne (hx b n)]; exact n, fun b u q _ => ?_,
    fun b xs q => by rw [upd_ne (hm b _ q fun z => z)]; exact q, fun b u xs q => by rw [upd_ne (hm b _ q fun z => z)]; exact q, fun b ps q => ⟨#[], by rw [upd_ne (hm b _ q fun z => z), q]; simp⟩⟩
  by_cases hbe : b = e
  · subst hbe; exact heo
  · exact ⟨u, k b u hbe q⟩
theorem Un.mono (u : Un fs ex H H1 h h1) (hs : ∀ b ∈ fs, b ∈ fs') (hx : ∀ b ∈ ex, b ∈ ex') : Un fs' ex' H H1 h h1 :=
  ⟨fun b ob q n hb he => u.keep b ob q n (fun z => hb (hs b z)) fun z => he (hx b z), fun _ _ q n _ he => u.any q n fun z => he (hx _ z), fun b ob q n he => u.free b ob q n fun z => he (hx b z), fun b ob q he => u.there b ob q fun z => he (hx b z), u.tups, u.frzs, u.tbls⟩
end

/-! ### the heap without what is tracked -/
def trk (h : Heap) (H : Hp) : List Addr := (List.range h.objs.size).filter fun a => (H a).isSome
def hidT (h : Heap) (H : Hp) : Heap := PySem.W.hideAll h (trk h H)
theorem hidT_size (h : Heap) (H : Hp) : (hidT h H).objs.size = h.objs.size := PySem.W.hideAll_size _ _
theorem hidT_get {h : Heap} {H : Hp} {b : Addr} {o : Obj} (e : h.get? b = some o) (n : H b = none) : (hidT h H).get? b = some o :=
  PySem.W.hideAll_get _ e fun hm => by
    have q : (H b).isSome = true := (List.mem_filter.mp hm).2
    rw [n] at q; simp at q
theorem of_hidT {h : Heap} {H : Hp} {b : Addr} {o : Obj} (e : (hidT h H).get? b = some o) : h.get? b = some o ∧ H b = none := by
  have e' : h.get? b = some o := PySem.W.of_hideAll (trk h H) e
  refine ⟨e', ?_⟩
  cases q : H b with
  | none => rfl
  | some x =>
    have hm : b ∈ trk h H := List.mem_filter.mpr ⟨List.mem_range.mpr (Heap.lt_size e'), by simp [q]⟩
    have z : (hidT h H).get? b = none := PySem.W.hideAll_none (trk h H) hm
    rw [z] at e; cases e

/-! ### OpenK's ledger, filled with every new object but one -/
def allNews (g h : Heap) (L : Addr) : List (Addr × Obj) := (List.range h.objs.size).filterMap fun a => if a = L ∨ (g.get? a).isSome = true then none else (h.get? a).map fun o => (a, o)
theorem mem_allNews {g h : Heap} {L a : Addr} {o : Obj} (h1 : a ≠ L) (h2 : g.get? a = none) (h3 : h.get? a = some o) : (a, o) ∈ allNews g h L :=
  List.mem_filterMap.mpr ⟨a, List.mem_range.mpr (Heap.lt_size h3), by simp [h1, h2, h3]⟩
theorem of_mem_allNews {g h : Heap} {L : Addr} {p : Addr × Obj} (hp : p ∈ allNews g h L) : p.1 ≠ L ∧ g.get? p.1 = none ∧ h.get? p.1 = some p.2 := by
  obtain ⟨b, _, e⟩ := List.mem_filterMap.mp hp
  split at e
  · cases e
  · rename_i hn
    cases q : h.get? b with
    | none => rw [q] at e; simp at e
    | some u =>
      rw [q] at e
      simp only [Option.map_some, Option.some.injEq] at e
      subst e
      refine ⟨fun z => hn (.inl z), ?_, q⟩
      show g.get? b = none
      cases r : g.get? b with
      | none => rfl
      | some v => exact (hn (.inr (by simp [r]))).elim
def rest (g h : Heap) (L d : Addr) : List (Addr × Obj) := (allNews g h L).filter fun p => decide (p.1 ≠ d)
theorem rest_ne {g h : Heap} {L d : Addr} : ∀ p ∈ rest g h L d, p.1 ≠ d := fun p hp => of_decide_eq_true (List.mem_filter.mp hp).2
theorem mem_rest {g h : Heap} {L d a : Addr} {o : Obj} (h1 : a ≠ L) (h2 : g.get? a = none) (h3 : h.get? a = some o) (h4 : a ≠ d) : (a, o) ∈ rest g h L d :=
  List.mem_filter.mpr ⟨mem_allNews h1 h2 h3, decide_eq_true h4⟩
theorem news_all {g h : Heap} {L : Addr} : News g L h (allNews g h L) := fun p hp => let ⟨a, b, c⟩ := of_mem_allNews hp; ⟨c, a, b⟩
theorem news_at {g h : Heap} {L d : Addr} {o : Obj} (h1 : d ≠ L) (h2 : g.get? d = none) (h3 : h.get? d = some o) : News g L h ((d, o) :: rest g h L d) := fun p hp => by
  rcases List.mem_cons.mp hp with rfl | hp
  · exact ⟨h3, h1, h2⟩
  · exact news_all p (List.mem_filter.mp hp).1
/-- behind a rule that changed d alone: all else but the frame is kept -/
theorem kept_of_news {g h h' : Heap} {L d : Addr} {m : Str → Option Value} (k : ∀ b o, g.get? b = some o → h.get? b = some o) (F : Fr g L h' m) (N : News g L h' (rest g h L d)) :
    ∀ b o, b ≠ L → b ≠ d → h.get? b = some o → h'.get? b = some o := fun b o h1 h2 e => by
  cases q : g.get? b with
  | some u =>
    have := k b u q
    rw [e] at this; cases this
    exact F.keep b _ q
  | none => exact (N (b, o) (mem_rest h1 q e h2)).1
end L2

namespace L2
open PySem PySem.Spec PyProof.Rows

/-- the module's facts, over the base: the heap at the law's entry without what is tracked there -/
structure Mod (K : PySem.W.Frag) (mg : Str → Option Value) (base : Heap) : Prop where
  kin : K.In base
  glob : base.Ns mainGlobals mg
  blt : ∃ mb, base.Ns builtinsNs mb ∧ ∀ x : Str, x ≠ "__name__" → mb x = bootBuiltins x
  nolimit : base.NoLimit

/-- the context: a def's body (or a comprehension's block) running. base: fixed through the whole law; s₀, H₀: the entry; outer: the frames whose slots others may change (a def's callers); stack: all frames that run;
   ex: iterators that were made ahead of the entry and are walked here (a comprehension's); fn: the names whose cells were made at the entry (a def: all; a comprehension's block: its own); calm: not within an except suite; pn: pins that every state bears; xe: what is wanted of an exception that leaves the code -/
structure Cx where
  prog : Program
  w : World
  K : PySem.W.Frag
  mg : Str → Option Value
  base : Heap
  A : Around
  N : List Str
  s₀ : Shared
  H₀ : Hp
  env : Env
  outer : List Env
  stack : List Env
  ex : List Addr
  fn : Str → Bool
  calm : Bool
  pn : List (Addr × Obj)
  xe : Value → Shared → Prop
/-- the callers' frames -/
def frs (l : List Env) : List Addr := l.filterMap (·.frame)
abbrev Cx.fs (X : Cx) : List Addr := frs X.outer

def Vis (sc : Scope) (x : Str) : Prop := sc.names.lookup x = some .local ∨ sc.names.lookup x = some .cell ∨ sc.names.lookup x = some .free
def Loc (sc : Scope) (x : Str) : Prop := sc.names.lookup x = some .local ∨ sc.names.lookup x = some .cell
def Look (env : Env) (h : Heap) (m : Str → Option Value) (x : Str) (u : Value) : Prop :=
  (env.kindOf x = some .local ∧ m x = some u) ∨ ((env.kindOf x = some .cell ∨ env.kindOf x = some .free) ∧ ∃ c, env.cells.lookup x = some c ∧ h.IsCell c (some u))

structure Cx.Ok (X : Cx) : Prop where
  mod : Mod X.K X.mg X.base
  kind : X.env.scope.kind = .function
  glob : X.env.globals = mainGlobals
  blt : X.env.builtins = builtinsNs
  above : X.s₀.heap.objs.size ≤ X.env.locals
  inj : ∀ x y c, X.env.cells.lookup x = some c → X.env.cells.lookup y = some c → x = y
  has : ∀ x, (X.env.kindOf x = some .cell ∨ X.env.kindOf x = some .free) → ∃ c, X.env.cells.lookup x = some c
  cab : ∀ x c, X.fn x = true → X.env.cells.lookup x = some c → X.s₀.heap.objs.size ≤ c
  hd : X.calm = true → X.A.handled = none
  frames : X.A.frames = some X.stack
  stk : X.stack = X.outer ∨ (X.stack = X.env :: X.outer ∧ X.env.frame = some X.env.locals)
  exf : ∀ b ∈ X.ex, b ≠ X.env.locals ∧ ∀ x c, X.env.cells.lookup x = some c → c ≠ b
  bs : ∀ b o, X.base.get? b = some o → X.s₀.heap.get? b = some o ∧ X.H₀ b = none
  bsz : X.base.objs.size ≤ X.s₀.heap.objs.size
  noex : ∀ b o, X.base.get? b = some o → b ∉ X.ex
  exfs : ∀ b ∈ X.ex, b ∉ X.fs
  funs : X.s₀.heap.FunFrames X.base X.outer
  frf : ∀ b ∈ X.fs, X.H₀ b = none

structure Inv (X : Cx) (pins : List (Addr × Obj)) (σ : List (Option V)) (H : Hp) (s : Shared) : Prop where
  ok : X.Ok
  os : s.os = X.s₀.os
  bare : AllBare s.gens
  base : Un X.fs X.ex X.H₀ H X.s₀.heap s.heap
  loc : ∃ m, s.heap.Ns X.env.locals m ∧ ∀ (i : Nat) (x : Str) (v : V), X.N[i]? = some x → σ[i]? = some (some v) → Vis X.env.scope x → ∃ u, RelV v u ∧ Look X.env s.heap m x u
  cell : ∀ x c, X.env.cells.lookup x = some c → ∃ v, s.heap.IsCell c v
  free : H X.env.locals = none
  freeC : ∀ x c, X.env.cells.lookup x = some c → H c = none
  pin : ∀ p ∈ X.pn ++ pins, s.heap.get? p.1 = some p.2 ∧ H p.1 = none ∧ p.1 ≠ X.env.locals ∧ p.1 ∉ X.fs ∧ ∀ v, p.2.data ≠ .cell v
  hok : HOk X.prog X.w H s.heap
  len : σ.length = X.N.length

section
variable {X : Cx} {pins : List (Addr × Obj)} {σ : List (Option V)} {H H' : Hp} {s : Shared} {h' : Heap}

theorem Cx.Ok.nofr (ok : X.Ok) {b : Addr} {o : Obj} (e : X.base.get? b = some o) : b ∉ X.fs := fun hb => by
  have := (ok.funs.mem hb).1
  rw [e] at this; cases this
theorem Inv.bs (I : Inv X pins σ H s) : ∀ b o, X.base.get? b = some o → s.heap.get? b = some o ∧ H b = none := fun b o e =>
  ⟨I.base.keep b o (I.ok.bs b o e).1 (I.ok.bs b o e).2 (I.ok.nofr e) (I.ok.noex b o e), I.base.free b o (I.ok.bs b o e).1 (I.ok.bs b o e).2 (I.ok.noex b o e)⟩
theorem Inv.bk (I : Inv X pins σ H s) : ∀ b o, X.base.get? b = some o → s.heap.get? b = some o := fun b o e => (I.bs b o e).1
theorem Inv.mod (I : Inv X pins σ H s) : Mod X.K X.mg X.base := I.ok.mod
theorem Inv.kIn (I : Inv X pins σ H s) : X.K.In s.heap := I.ok.mod.kin.keeps I.bk
theorem Inv.nolimit (I : Inv X pins σ H s) : s.heap.NoLimit := I.ok.mod.nolimit.keeps I.bk
/-- the frame over the base: for OpenK's rules (K.In X.base is I.mod.kin) -/
theorem Inv.fr (I : Inv X pins σ H s) : ∃ m, Fr X.base X.env.locals s.heap m :=
  let ⟨m, hn, _⟩ := I.loc
  ⟨m, hn, I.bk, Nat.le_trans I.ok.bsz I.ok.above⟩
theorem Inv.lt (I : Inv X pins σ H s) : X.env.locals < s.heap.objs.size := let ⟨_, hn, _⟩ := I.loc; hn.lt
theorem Inv.sz (I : Inv X pins σ H s) : X.s₀.heap.objs.size ≤ s.heap.objs.size := Nat.le_trans I.ok.above (Nat.le_of_lt I.lt)
theorem Inv.nofs (I : Inv X pins σ H s) {a : Addr} (h : s.heap.objs.size ≤ a) : a ∉ X.fs := fun hb => by
  obtain ⟨_, o, ho, _⟩ := I.ok.funs.mem hb
  exact absurd (Nat.lt_of_lt_of_le (Heap.lt_size ho) (Nat.le_trans I.sz h)) (Nat.lt_irrefl _)
theorem Inv.cne (I : Inv X pins σ H s) : ∀ x c, X.env.cells.lookup x = some c → c ≠ X.env.locals := fun x c e z => by
  obtain ⟨v, o, ho, hd⟩ := I.cell x c e
  obtain ⟨m, ⟨o', es, ep, ho', hd', _⟩, _⟩ := I.loc
  rw [z, ho'] at ho; cases ho; rw [hd'] at hd; cases hd
theorem Inv.funs (I : Inv X pins σ H s) : s.heap.FunFrames X.base X.outer := by
  have all : ∀ (l : List Env), (∀ b ∈ frs l, b ∈ X.fs) → X.s₀.heap.FunFrames X.base l → s.heap.FunFrames X.base l := by
    intro l
    induction l with
    | nil => intro _ _; trivial
    | cons env r ih =>
      intro hs hl
      obtain ⟨hk, ⟨L, o, hf, hn, ho, hd⟩, hr⟩ := hl
      have hL : L ∈ X.fs := hs L (by unfold frs; rw [List.filterMap_cons, hf]; exact List.mem_cons_self)
      obtain ⟨sl, e⟩ := I.base.slot L o ho (I.ok.frf L hL) hL fun z => I.ok.exfs L z hL
      exact ⟨hk, ⟨L, _, hf, hn, e, hd⟩, ih (fun b hb => hs b (by unfold frs; rw [List.filterMap_cons, hf]; exact List.mem_cons_of_mem _ hb)) hr⟩
  exact all X.outer (fun _ hb => hb) I.ok.funs

/-- the frames that run, for a call -/
theorem Inv.stack (I : Inv X pins σ H s) : s.heap.FunFrames X.base X.stack := by
  rcases I.ok.stk with e | ⟨e, hf⟩
  · rw [e]; exact I.funs
  · rw [e]
    obtain ⟨m, hn, _⟩ := I.loc
    refine .cons (by rw [I.ok.kind]; decide) hf hn ?_ I.funs
    exact Heap.get?_none_of_le (Nat.le_trans I.ok.bsz I.ok.above)
theorem Inv.stkSub (I : Inv X pins σ H s) : ∀ b ∈ frs X.stack, b ∈ X.env.locals :: X.fs := fun b hb => by
  rcases I.ok.stk with e | ⟨e, hf⟩
  · rw [e] at hb; exact List.mem_cons_of_mem _ hb
  · rw [e] at hb
    unfold frs at hb
    rw [List.filterMap_cons, hf] at hb
    exact hb
theorem Inv.stkFree (I : Inv X pins σ H s) : ∀ b ∈ frs X.stack, H b = none := fun b hb => by
  rcases List.mem_cons.mp (I.stkSub b hb) with e | hb
  · rw [e]; exact I.free
  · obtain ⟨_, o, ho, _⟩ := I.ok.funs.mem hb
    exact I.base.free b o ho (I.ok.frf b hb) fun z => I.ok.exfs b z hb

/-- THE STEP: the untracked objects but the frame and the records at ch are kept (the callers' frames up to slots), the frame's map is kept, the new abstract heap is held -/
theorem Inv.step {g' : Array GenState} {t' : Nat} {d' : Drawn} {ch : List Addr} (I : Inv X pins σ H s)
    (hch : ∀ b ∈ ch, (b ∈ X.ex ∨ X.s₀.heap.objs.size ≤ b) ∧ b ≠ X.env.locals ∧ (∀ x c, X.env.cells.lookup x = some c → c ≠ b) ∧ ∀ p ∈ X.pn ++ pins, p.1 ≠ b)
    (keep : ∀ b o, b ≠ X.env.locals → b ∉ X.fs → b ∉ ch → s.heap.get? b = some o → H b = none → h'.get? b = some o)
    (slot : ∀ b o, b ≠ X.env.locals → b ∈ X.fs → b ∉ ch → s.heap.get? b = some o → H b = none → ∃ sl, h'.get? b = some { o with slots := sl }) (free : ∀ b o, b ∉ ch → s.heap.get? b = some o → H b = none → H' b = none)
    (there : ∀ b o, b ∉ ch → s.heap.get? b = some o → ∃ o', h'.get? b = some o')
    (tups : ∀ b xs, H b = some (.tup xs) → H' b = some (.tup xs)) (frzs : ∀ b o u, H b = some (.frz o u) → H' b = some (.frz o u)) (tbls : ∀ b ps, H b = some (.tbl ps) → ∃ more, H' b = some (.tbl (ps ++ more)))
    (ns : ∀ m, s.heap.Ns X.env.locals m → h'.Ns X.env.locals m) (hok : HOk X.prog X.w H' h') (hg : AllBare g') :
    Inv X pins σ H' { s with heap := h', gens := g', drawn := d', toks := t' } := by
  have neL : ∀ b o, X.s₀.heap.get? b = some o → b ≠ X.env.locals := fun b o e => Nat.ne_of_lt (Nat.lt_of_lt_of_le (Heap.lt_size e) I.ok.above)
  have neC : ∀ b o, X.s₀.heap.get? b = some o → b ∉ X.ex → b ∉ ch := fun b o e hx hb => by
    rcases (hch b hb).1 with z | z
    · exact hx z
    · exact absurd (Nat.lt_of_lt_of_le (Heap.lt_size e) z) (Nat.lt_irrefl _)
  have cellK : ∀ x c, X.env.cells.lookup x = some c → ∀ v, s.heap.IsCell c v → h'.IsCell c v := fun x c e v ⟨o, ho, hd⟩ => by
    have nch : c ∉ ch := fun z => (hch c z).2.2.1 x c e rfl
    by_cases hc : c ∈ X.fs
    · obtain ⟨sl, q⟩ := slot c o (I.cne x c e) hc nch ho (I.freeC x c e)
      exact ⟨_, q, hd⟩
    · exact ⟨o, keep c o (I.cne x c e) hc nch ho (I.freeC x c e), hd⟩
  refine ⟨I.ok, I.os, hg, ⟨fun b o e n hb hx => ?_, fun b o e n hb hx => ?_, fun b o e n hx => ?_, fun b o e hx => ?_, fun b xs e => tups b xs (I.base.tups b xs e), fun b o xs e => frzs b o xs (I.base.frzs b o xs e), fun b ps e => ?_⟩, ?_, fun x c e => ?_, ?_, fun x c e => ?_, fun p hp => ?_, hok, I.len⟩
  · exact keep b o (neL b o e) hb (neC b o e hx) (I.base.keep b o e n hb hx) (I.base.free b o e n hx)
  · obtain ⟨sl, e1⟩ := I.base.slot b o e n hb hx
    obtain ⟨sl', e2⟩ := slot b _ (neL b o e) hb (neC b o e hx) e1 (I.base.free b o e n hx)
    exact ⟨sl', e2⟩
  · obtain ⟨o', e1⟩ := I.base.there b o e hx
    exact free b o' (neC b o e hx) e1 (I.base.free b o e n hx)
  · obtain ⟨o', e1⟩ := I.base.there b o e hx
    exact there b o' (neC b o e hx) e1
  · obtain ⟨m1, e1⟩ := I.base.tbls b ps e
    obtain ⟨m2, e2⟩ := tbls b _ e1
    exact ⟨m1 ++ m2, by rw [e2, Array.append_assoc]⟩
  · obtain ⟨m, hn, hl⟩ := I.loc
    refine ⟨m, ns m hn, fun i x v e1 e2 e3 => ?_⟩
    obtain ⟨u, r, l⟩ := hl i x v e1 e2 e3
    refine ⟨u, r, ?_⟩
    rcases l with l | ⟨k, c, e, z⟩
    · exact .inl l
    · exact .inr ⟨k, c, e, cellK x c e _ z⟩
  · obtain ⟨v, z⟩ := I.cell x c e
    exact ⟨v, cellK x c e v z⟩
  · obtain ⟨m, ⟨o, _, _, ho, _⟩, _⟩ := I.loc
    exact free _ o (fun z => (hch _ z).2.1 rfl) ho I.free
  · obtain ⟨v, o, ho, hd⟩ := I.cell x c e
    exact free c o (fun z => (hch c z).2.2.1 x c e rfl) ho (I.freeC x c e)
  · obtain ⟨e, n, ne, nf, d⟩ := I.pin p hp
    have nch : p.1 ∉ ch := fun z => (hch p.1 z).2.2.2 p hp rfl
    exact ⟨keep p.1 p.2 ne nf nch e n, free p.1 p.2 nch e n, ne, nf, d⟩
/-- .. where the frame's own object is kept too -/
theorem Inv.un {t' : Nat} (I : Inv X pins σ H s) (u : Un X.fs [] H H' s.heap h') (hok : HOk X.prog X.w H' h') : Inv X pins σ H' { s with heap := h', toks := t' } := by
  obtain ⟨m, ⟨o, es, ep, ho, r⟩, _⟩ := id I.loc
  obtain ⟨sl, hL⟩ := u.any ho I.free (by simp)
  exact I.step (g' := s.gens) (d' := s.drawn) (ch := []) (fun _ z => nomatch z) (fun b o _ hb _ e n => u.keep b o e n hb (by simp)) (fun b o _ hb _ e n => u.slot b o e n hb (by simp)) (fun b o _ e n => u.free b o e n (by simp)) (fun b o _ e => u.there b o e (by simp)) u.tups u.frzs u.tbls (fun m' hm => by
    obtain ⟨o', es', ep', ho', r'⟩ := hm
    rw [ho] at ho'; cases ho'
    exact ⟨_, es', ep', hL, r'⟩) hok I.bare
/-- behind a call (or a comprehension's block): the slots of this frame may have changed too, the records at ch may have turned -/
theorem Inv.call {g' : Array GenState} {t' : Nat} {d' : Drawn} {ch : List Addr} (I : Inv X pins σ H s) (u : Un (frs X.stack) ch H H' s.heap h') (hok : HOk X.prog X.w H' h') (hg : AllBare g')
    (hch : ∀ b ∈ ch, (b ∈ X.ex ∨ X.s₀.heap.objs.size ≤ b) ∧ b ≠ X.env.locals ∧ (∀ x c, X.env.cells.lookup x = some c → c ≠ b) ∧ ∀ p ∈ X.pn ++ pins, p.1 ≠ b) :
    Inv X pins σ H' { s with heap := h', gens := g', drawn := d', toks := t' } := by
  obtain ⟨m, ⟨o, es, ep, ho, r⟩, _⟩ := id I.loc
  obtain ⟨sl, hL⟩ := u.any ho I.free fun z => (hch _ z).2.1 rfl
  exact I.step (ch := ch) hch (fun b o hL hb hc e n => u.keep b o e n (fun z => (List.mem_cons.mp (I.stkSub b z)).elim hL hb) hc) (fun b o _ _ hc e n => u.any e n hc) (fun b o hc e n => u.free b o e n hc) (fun b o hc e => u.there b o e hc) u.tups u.frzs u.tbls (fun m' hm => by
    obtain ⟨o', es', ep', ho', r'⟩ := hm
    rw [ho] at ho'; cases ho'
    exact ⟨_, es', ep', hL, r'⟩) hok hg
/-- an untracked record of ours (an iterator) has turned -/
theorem Inv.turned {t' : Nat} {it : Addr} (I : Inv X pins σ H s) (k : ∀ b o, b ≠ it → s.heap.get? b = some o → h'.get? b = some o) (hn : H it = none) (hL : it ≠ X.env.locals)
    (h1 : it ∈ X.ex ∨ X.s₀.heap.objs.size ≤ it) (h2 : ∀ x c, X.env.cells.lookup x = some c → c ≠ it) (h3 : ∀ p ∈ X.pn ++ pins, p.1 ≠ it) : Inv X pins σ H { s with heap := h', toks := t' } := by
  have nit : ∀ b u, H b = some u → b ≠ it := fun b u e z => by rw [z, hn] at e; cases e
  refine I.step (g' := s.gens) (d' := s.drawn) (ch := [it]) (fun b hb => ?_) (fun b o _ _ hc e _ => k b o (fun z => hc (by simp [z])) e) (fun b o _ _ hc e _ => ⟨o.slots, k b o (fun z => hc (by simp [z])) e⟩) (fun _ _ _ _ n => n)
    (fun b o hc e => ⟨o, k b o (fun z => hc (by simp [z])) e⟩) (fun _ _ e => e) (fun _ _ _ e => e) (fun b ps e => ⟨#[], by rw [e]; simp⟩) (fun m hm => ?_) (fun b u e => ?_) I.bare
  · have e : b = it := by simpa using hb
    subst e
    exact ⟨h1, hL, h2, h3⟩
  · obtain ⟨o, es, ep, ho, r⟩ := hm
    exact ⟨o, es, ep, k _ o (Ne.symm hL) ho, r⟩
  · refine (I.hok b u e).stay (fun c v hc q => k c v ?_ q) (fun _ q => q) fun _ _ q => q
    rcases hc with z | z
    · rw [z]; exact nit b u e
    · exact nit c _ z
theorem Inv.tok (I : Inv X pins σ H s) (t : Nat) : Inv X pins σ H { s with toks := t } := I.un (h' := s.heap) (t' := t) Un.refl I.hok
/-- all objects kept -/
theorem Inv.kept {t' : Nat} (I : Inv X pins σ H s) (k : ∀ b u, s.heap.get? b = some u → h'.get? b = some u) : Inv X pins σ H { s with heap := h', toks := t' } := I.un (Un.kept k) (I.hok.kept k)
/-- a new object laid and tracked -/
theorem Inv.laid {a : Addr} {o : HO} {t' : Nat} (I : Inv X pins σ H s) (k : ∀ b u, s.heap.get? b = some u → h'.get? b = some u) (hp : s.heap.objs.size ≤ a) (new : ObjOk X.prog X.w (upd H a o) h' a o) :
    Inv X pins σ (upd H a o) { s with heap := h', toks := t' } := I.un (Un.laid k hp (I.hok.fresh hp)) (I.hok.laid k hp new)
/-- an object written -/
theorem Inv.write {x e : Addr} {o : HO} {t' : Nat} (I : Inv X pins σ H s) (mu : Mut (H x)) (he : e = x ∨ H e = some (.own x)) (k : ∀ b u, b ≠ e → s.heap.get? b = some u → h'.get? b = some u) (heo : ∃ u, h'.get? e = some u)
    (new : ObjOk X.prog X.w (upd H x o) h' x o) : Inv X pins σ (upd H x o) { s with heap := h', toks := t' } := I.un (Un.write mu he k heo) (I.hok.write mu he k heo new)
/-- forgetting slots, pins -/
theorem Inv.weak {σ' : List (Option V)} (I : Inv X pins σ H s) (hl : σ'.length = σ.length) (w : ∀ (i : Nat) v, σ'[i]? = some (some v) → σ[i]? = some (some v)) : Inv X pins σ' H s :=
  ⟨I.ok, I.os, I.bare, I.base, let ⟨m, hn, hl'⟩ := I.loc; ⟨m, hn, fun i x v e1 e2 e3 => hl' i x v e1 (w i v e2) e3⟩, I.cell, I.free, I.freeC, I.pin, I.hok, hl.trans I.len⟩
theorem Inv.pins_of {pins' : List (Addr × Obj)} (I : Inv X pins σ H s) (h : ∀ p ∈ pins', s.heap.get? p.1 = some p.2 ∧ H p.1 = none ∧ p.1 ≠ X.env.locals ∧ p.1 ∉ X.fs ∧ ∀ v, p.2.data ≠ .cell v) : Inv X pins' σ H s :=
  ⟨I.ok, I.os, I.bare, I.base, I.loc, I.cell, I.free, I.freeC, fun p hp => (List.mem_append.mp hp).elim (fun z => I.pin p (List.mem_append_left _ z)) (h p), I.hok, I.len⟩

theorem nodup_ix {N : List Str} (hN : N.Nodup) {i j : Nat} {x : Str} (a : N[i]? = some x) (b : N[j]? = some x) : i = j := by
  obtain ⟨h1, e1⟩ := List.getElem?_eq_some_iff.mp a
  obtain ⟨h2, e2⟩ := List.getElem?_eq_some_iff.mp b
  exact (List.getElem_inj hN).mp (e1.trans e2.symm)

/-- a name is stored; what changed -/
theorem store_ok2 {M : Model} {A : Around} {E : Value → Shared → Prop} {i : Nat} {x : Str} {v : V} {u : Value} {Q : Unit → Shared → Prop} (I : Inv X pins σ H s) (hN : X.N.Nodup) (hi : X.N[i]? = some x) (hx : Loc X.env.scope x) (r : RelV v u)
    (h : ∀ s', Inv X pins (σ.set i (some v)) H s' → (∃ a, Heap.SameBut a s.heap s'.heap ∧ (a = X.env.locals ∨ X.env.cells.lookup x = some a)) → Q () s') (hf : X.fn x = true ∨ X.env.scope.names.lookup x = some .local := by first | exact .inl rfl | exact .inr rfl | assumption) : wpAny M A (storeName X.env x u) Q E s := by
  obtain ⟨m, hn, hl⟩ := id I.loc
  have hcls : (X.env.scope.kind == .class || (X.env.scope.kind == .module && X.env.locals != X.env.globals)) = false := by rw [I.ok.kind]; rfl
  have hiσ : i < σ.length := by rw [I.len]; exact (List.getElem?_eq_some_iff.mp hi).1
  have cne := I.cne
  have tracked : ∀ {a : Addr} {h' : Heap}, (∃ o, s.heap.get? a = some o ∧ H a = none) → Heap.SameBut a s.heap h' → HOk X.prog X.w H h' := fun {a h'} ha hs b ob e => by
    obtain ⟨_, _, hfree⟩ := ha
    refine (I.hok b ob e).stay (fun c w' hc q => (hs.2 c ?_).trans q) (fun _ q => q) fun _ _ q => q
    rintro rfl
    rcases hc with rfl | hc
    · rw [hfree] at e; cases e
    · rw [hfree] at hc; cases hc
  rcases hx with hk | hk
  · refine wpAny_storeName_local hk hn (fun h' hn' hs => ?_) hcls
    obtain ⟨oL, _, _, hoL, _⟩ := id hn
    refine h _ ⟨I.ok, I.os, I.bare, ⟨fun b o e n hb hx => ?_, fun b o e n hb hx => ?_, I.base.free, fun b o e hx => ?_, I.base.tups, I.base.frzs, I.base.tbls⟩, ⟨_, hn', fun j y v' e1 e2 e3 => ?_⟩, fun y c e => ?_, I.free, I.freeC, fun p hp => ?_, tracked ⟨oL, hoL, I.free⟩ hs, by simpa using I.len⟩ ⟨_, hs, .inl rfl⟩
    · exact (hs.2 b (Nat.ne_of_lt (Nat.lt_of_lt_of_le (Heap.lt_size e) I.ok.above))).trans (I.base.keep b o e n hb hx)
    · obtain ⟨sl, e1⟩ := I.base.slot b o e n hb hx
      exact ⟨sl, (hs.2 b (Nat.ne_of_lt (Nat.lt_of_lt_of_le (Heap.lt_size e) I.ok.above))).trans e1⟩
    · obtain ⟨o', e1⟩ := I.base.there b o e hx
      exact ⟨o', (hs.2 b (Nat.ne_of_lt (Nat.lt_of_lt_of_le (Heap.lt_size e) I.ok.above))).trans e1⟩
    · by_cases hj : j = i
      · subst hj
        rw [hi] at e1; cases e1
        rw [List.getElem?_set_self hiσ] at e2
        cases e2
        exact ⟨u, r, .inl ⟨hk, by simp⟩⟩
      · rw [List.getElem?_set_ne (Ne.symm hj)] at e2
        obtain ⟨u', r', q⟩ := hl j y v' e1 e2 e3
        refine ⟨u', r', ?_⟩
        rcases q with ⟨k, e⟩ | ⟨k, c, e, z⟩
        · refine .inl ⟨k, ?_⟩
          have : y ≠ x := fun e => hj (nodup_ix hN e1 (e ▸ hi))
          simp [this, e]
        · exact .inr ⟨k, c, e, z.sameBut hs (cne y c e)⟩
    · obtain ⟨w', z⟩ := I.cell y c e
      exact ⟨w', z.sameBut hs (cne y c e)⟩
    · obtain ⟨e, n, ne, nf, d⟩ := I.pin p hp
      exact ⟨(hs.2 p.1 ne).trans e, n, ne, nf, d⟩
  · have hfn : X.fn x = true := by
      rcases hf with z | z
      · exact z
      · rw [z] at hk; cases hk
    obtain ⟨c, hc⟩ := I.ok.has x (.inl hk)
    obtain ⟨w', z⟩ := I.cell x c hc
    refine wpAny_storeName_cell I.ok.kind hk hc z (fun h' hc' hs => ?_)
    obtain ⟨oc, hoc, hocd⟩ := id z
    refine h { s with heap := h' } ⟨I.ok, I.os, I.bare, ⟨fun b o e n hb hx => ?_, fun b o e n hb hx => ?_, I.base.free, fun b o e hx => ?_, I.base.tups, I.base.frzs, I.base.tbls⟩, ⟨m, hn.sameBut hs (Ne.symm (cne x c hc)), fun j y v' e1 e2 e3 => ?_⟩, fun y c' e => ?_, I.free, I.freeC, fun p hp => ?_, tracked ⟨oc, hoc, I.freeC x c hc⟩ hs, by simpa using I.len⟩ ⟨c, hs, .inr hc⟩
    · exact (hs.2 b (Nat.ne_of_lt (Nat.lt_of_lt_of_le (Heap.lt_size e) (I.ok.cab x c hfn hc)))).trans (I.base.keep b o e n hb hx)
    · obtain ⟨sl, e1⟩ := I.base.slot b o e n hb hx
      exact ⟨sl, (hs.2 b (Nat.ne_of_lt (Nat.lt_of_lt_of_le (Heap.lt_size e) (I.ok.cab x c hfn hc)))).trans e1⟩
    · obtain ⟨o', e1⟩ := I.base.there b o e hx
      exact ⟨o', (hs.2 b (Nat.ne_of_lt (Nat.lt_of_lt_of_le (Heap.lt_size e) (I.ok.cab x c hfn hc)))).trans e1⟩
    · by_cases hj : j = i
      · subst hj
        rw [hi] at e1; cases e1
        rw [List.getElem?_set_self hiσ] at e2
        cases e2
        exact ⟨u, r, .inr ⟨.inl hk, c, hc, hc'⟩⟩
      · rw [List.getElem?_set_ne (Ne.symm hj)] at e2
        obtain ⟨u', r', q⟩ := hl j y v' e1 e2 e3
        refine ⟨u', r', ?_⟩
        rcases q with q | ⟨k, c', e, z'⟩
        · exact .inl q
        · refine .inr ⟨k, c', e, z'.sameBut hs ?_⟩
          rintro rfl
          exact hj (nodup_ix hN e1 (I.ok.inj _ _ _ e hc ▸ hi))
    · by_cases hcc : c' = c
      · subst hcc; exact ⟨_, hc'⟩
      · obtain ⟨w2, z2⟩ := I.cell y c' e
        exact ⟨w2, z2.sameBut hs hcc⟩
    · obtain ⟨e, n, ne, nf, d⟩ := I.pin p hp
      refine ⟨(hs.2 p.1 ?_).trans e, n, ne, nf, d⟩
      intro q
      rw [q, hoc] at e
      have q' : oc = p.2 := Option.some.inj e
      exact d w' (by rw [← q']; exact hocd)
theorem store_ok {M : Model} {A : Around} {E : Value → Shared → Prop} {i : Nat} {x : Str} {v : V} {u : Value} {Q : Unit → Shared → Prop} (I : Inv X pins σ H s) (hN : X.N.Nodup) (hi : X.N[i]? = some x) (hx : Loc X.env.scope x) (r : RelV v u)
    (h : ∀ s', Inv X pins (σ.set i (some v)) H s' → Q () s') (hf : X.fn x = true ∨ X.env.scope.names.lookup x = some .local := by first | exact .inl rfl | exact .inr rfl | assumption) : wpAny M A (storeName X.env x u) Q E s :=
  store_ok2 I hN hi hx r (fun s' I' _ => h s' I') hf
/-- behind a call or a block, the state as it is -/
theorem Inv.call' {s' : Shared} {ch : List Addr} (I : Inv X pins σ H s) (ho : s'.os = s.os) (u : Un (frs X.stack) ch H H' s.heap s'.heap) (hok : HOk X.prog X.w H' s'.heap) (hg : AllBare s'.gens)
    (hch : ∀ b ∈ ch, (b ∈ X.ex ∨ X.s₀.heap.objs.size ≤ b) ∧ b ≠ X.env.locals ∧ (∀ x c, X.env.cells.lookup x = some c → c ≠ b) ∧ ∀ p ∈ X.pn ++ pins, p.1 ≠ b) : Inv X pins σ H' s' := by
  obtain ⟨h', g', d', t', o'⟩ := s'
  have e : o' = s.os := ho
  subst e
  exact I.call (g' := g') (t' := t') (d' := d') u hok hg hch
end

/-! ### the judgements -/
/-- an exception: its class, its own dict's address (where it has one), the abstract heap behind it -/
abbrev XK := Value → Option Addr → Hp → Prop
abbrev St := List (Option V)
abbrev VK := V → Hp → Prop
/-- an expression's reading; a test's; an argument list's -/
abbrev TE := St → Hp → VK → Prop
abbrev TT := St → Hp → (Bool → Hp → Prop) → Prop
abbrev TA := St → Hp → (List V → Hp → Prop) → Prop
/-- what is wanted behind a statement -/
structure Ends where
  nx : St → Hp → Prop
  rt : VK
  bk : St → Hp → Prop := fun _ _ => False
  ct : St → Hp → Prop := fun _ _ => False
abbrev TS := Ends → St → Hp → Prop

def EP (X : Cx) (pins : List (Addr × Obj)) (σ : St) (Q : VK) (u : Value) (s' : Shared) : Prop := ∃ v H', Inv X pins σ H' s' ∧ RelV v u ∧ Q v H'
def TP (X : Cx) (pins : List (Addr × Obj)) (σ : St) (Q : Bool → Hp → Prop) (b : Bool) (s' : Shared) : Prop := ∃ H', Inv X pins σ H' s' ∧ Q b H'
def AP (X : Cx) (pins : List (Addr × Obj)) (σ : St) (Q : List V → Hp → Prop) (us : List Value) (s' : Shared) : Prop := ∃ vs H', Inv X pins σ H' s' ∧ Vals vs us ∧ Q vs H'
def SP (X : Cx) (pins : List (Addr × Obj)) (D : Ends) (f : Flow) (s' : Shared) : Prop :=
  match f with
  | .next => ∃ σ' H', Inv X pins σ' H' s' ∧ D.nx σ' H'
  | .brk => ∃ σ' H', Inv X pins σ' H' s' ∧ D.bk σ' H'
  | .cont => ∃ σ' H', Inv X pins σ' H' s' ∧ D.ct σ' H'
  | .ret u => ∃ v σ' H', Inv X pins σ' H' s' ∧ RelV v u ∧ D.rt v H'

def PE (X : Cx) (e : Expr) (t : TE) : Prop :=
  ∀ (pins : List (Addr × Obj)) (s : Shared) (σ : St) (H : Hp) (Q : VK), Inv X pins σ H s → t σ H Q → wpAny (model X.prog X.w) X.A (eval e X.env) (EP X pins σ Q) X.xe s
def PT (X : Cx) (e : Expr) (t : TT) : Prop :=
  ∀ (pins : List (Addr × Obj)) (s : Shared) (σ : St) (H : Hp) (Q : Bool → Hp → Prop), Inv X pins σ H s → t σ H Q → wpAny (model X.prog X.w) X.A (isTrue e X.env (eval e X.env)) (TP X pins σ Q) X.xe s
/-- a test whatever its 'whole' is (and, or) -/
def PW (X : Cx) (e : Expr) (t : TT) : Prop :=
  ∀ (whole : Sem Value) (pins : List (Addr × Obj)) (s : Shared) (σ : St) (H : Hp) (Q : Bool → Hp → Prop), Inv X pins σ H s → t σ H Q → wpAny (model X.prog X.w) X.A (isTrue e X.env whole) (TP X pins σ Q) X.xe s
theorem PW.pt {X : Cx} {e : Expr} {t : TT} (h : PW X e t) : PT X e t := h _
/-- an argument list (no star), from the left -/
def PA (X : Cx) (es : List Expr) (t : TA) : Prop :=
  ∀ (pos : Pos) (pins : List (Addr × Obj)) (s : Shared) (σ : St) (H : Hp) (Q : List V → Hp → Prop), Inv X pins σ H s → t σ H Q → wpAny (model X.prog X.w) X.A (spliced (backTo pos (starEach es X.env))) (AP X pins σ Q) X.xe s
def PS (X : Cx) (st : Stmt) (t : TS) : Prop :=
  ∀ (pins : List (Addr × Obj)) (s : Shared) (σ : St) (H : Hp) (D : Ends), Inv X pins σ H s → t D σ H → wpAny (model X.prog X.w) X.A (exec st X.env) (SP X pins D) X.xe s
def PSs (X : Cx) (st : List Stmt) (t : TS) : Prop :=
  ∀ (pins : List (Addr × Obj)) (s : Shared) (σ : St) (H : Hp) (D : Ends), Inv X pins σ H s → t D σ H → wpAny (model X.prog X.w) X.A (execs st X.env) (SP X pins D) X.xe s
/-- weaken the end -/
theorem thn {α : Type} {t : Sem α} {Q Q' : α → Shared → Prop} {M : Model} {A : Around} {E : Value → Shared → Prop} {s : Shared} (h : wpAny M A t Q E s) (hQ : ∀ a s, Q a s → Q' a s) : wpAny M A t Q' E s := wpAny_mono h hQ fun _ _ x => x
end L2

namespace L2
open PySem PySem.Spec PyProof.Rows
section
variable {X : Cx}

/-- two expressions in a row -/
theorem bin {a b : Expr} {ta tb : TE} (ha : PE X a ta) (hb : PE X b tb) {pins : List (Addr × Obj)} {s : Shared} {σ : St} {H : Hp} {R : V → V → Hp → Prop} (I : Inv X pins σ H s) (h : ta σ H fun x H1 => tb σ H1 fun y H2 => R x y H2)
    {α : Type} {Q : α → Shared → Prop} {f : Value → Value → Sem α}
    (hf : ∀ v u s2 x y H2, Inv X pins σ H2 s2 → RelV x v → RelV y u → R x y H2 → wpAny (model X.prog X.w) X.A (f v u) Q X.xe s2) :
    wpAny (model X.prog X.w) X.A (eval a X.env) (fun v s₁ => wpAny (model X.prog X.w) X.A (eval b X.env) (fun u s₂ => wpAny (model X.prog X.w) X.A (f v u) Q X.xe s₂) X.xe s₁) X.xe s := by
  refine thn (ha pins s σ H _ I h) fun v s1 ⟨x, H1, I1, r1, q1⟩ => ?_
  refine thn (hb pins s1 σ H1 _ I1 q1) fun u s2 ⟨y, H2, I2, r2, q2⟩ => ?_
  exact hf v u s2 x y H2 I2 r1 r2 q2

/-! ### names and constants -/
def tVar (i : Nat) : TE := fun σ H Q => ∃ v, σ[i]? = some (some v) ∧ Q v H
def tC (v : V) : TE := fun _ H Q => Q v H
theorem pe_var {i : Nat} {x : Str} {pos : Pos} (hN : X.N[i]? = some x) (hv : Vis X.env.scope x) (hd : (x == ("__debug__" : Str)) = false := by decide) (hcd : (x == ("__classdict__" : Str)) = false := by decide) : PE X (.Name x pos) (tVar i) := by
  intro pins s σ H Q I h
  obtain ⟨v, e, h⟩ := h
  obtain ⟨m, hn, hl⟩ := I.loc
  obtain ⟨u, r, l⟩ := hl i x v hN e hv
  have fin : EP X pins σ Q u s := ⟨v, H, I, r, h⟩
  rcases l with ⟨hk, hm⟩ | ⟨hk, c, hc, hcell⟩
  · exact wpAny_Name (wpAny_loadName_local I.ok.kind hk hn hm fin) hd
  · rcases hk with hk | hk
    · exact wpAny_Name (wpAny_loadName_cell I.ok.kind hk hc hcell fin) hd
    · exact wpAny_Name (wpAny_loadName_free I.ok.kind hk hc hcell fin hcd) hd
theorem pe_int {i j pos} : PE X (.Constant (.int i) j pos) (tC (.int i)) := fun _ _ _ H _ I h => wpAny_Constant_int ⟨.int i, H, I.tok _, ⟨_, rfl⟩, h⟩
theorem pe_bl {b j pos} : PE X (.Constant (.bool b) j pos) (tC (.bl b)) := fun _ _ _ H _ I h => Constant_bool ⟨.bl b, H, I, rfl, h⟩
theorem pe_non {j pos} : PE X (.Constant .none j pos) (tC .non) := fun _ _ _ H _ I h => Constant_none ⟨.non, H, I, rfl, h⟩
theorem pe_str {x j pos} : PE X (.Constant (.str x) j pos) (tC (.str x)) := fun _ _ _ H _ I h => Calls.Constant_str ⟨.str x, H, I.tok _, ⟨_, rfl⟩, h⟩

/-- a global name of the def -/
def Gl (X : Cx) (x : Str) : Prop := X.env.kindOf x = some .globalImplicit
theorem ld_glob {E : Value → Shared → Prop} {pins : List (Addr × Obj)} {s : Shared} {σ : St} {H : Hp} {x : Str} {u : Value} {pos : Pos} {Q : Value → Shared → Prop} (I : Inv X pins σ H s) (hg : Gl X x) (hm : X.mg x = some u) (h : Q u s)
    (hd : (x == ("__debug__" : Str)) = false := by decide) : wpAny (model X.prog X.w) X.A (eval (.Name x pos) X.env) Q E s :=
  Calls.Name_function_global I.ok.kind hg (Calls.loadGlobal_global (by rw [I.ok.glob]; exact I.mod.glob.keeps I.bk) hm h) hd
theorem ld_blt {E : Value → Shared → Prop} {pins : List (Addr × Obj)} {s : Shared} {σ : St} {H : Hp} {x : Str} {u : Value} {pos : Pos} {Q : Value → Shared → Prop} (I : Inv X pins σ H s) (hg : Gl X x) (hm : X.mg x = none) (hv : bootBuiltins x = some u) (h : Q u s)
    (hn : x ≠ "__name__" := by decide) (hd : (x == ("__debug__" : Str)) = false := by decide) : wpAny (model X.prog X.w) X.A (eval (.Name x pos) X.env) Q E s := by
  obtain ⟨mb, h1, h2⟩ := I.mod.blt
  exact Calls.Name_function_global I.ok.kind hg (Calls.loadGlobal_builtin (by rw [I.ok.glob]; exact I.mod.glob.keeps I.bk) hm (by rw [I.ok.blt]; exact h1.keeps I.bk) ((h2 x hn).trans hv) h) hd
/-- a module's constant, a class, a function, as a value -/
theorem pe_glob {x : Str} {v : V} {u : Value} {pos : Pos} (hg : Gl X x) (hm : X.mg x = some u) (r : RelV v u) (hd : (x == ("__debug__" : Str)) = false := by decide) : PE X (.Name x pos) (tC v) :=
  fun _ _ _ H _ I h => ld_glob I hg hm ⟨v, H, I, r, h⟩ hd
theorem pe_bltn {x : Str} {v : V} {u : Value} {pos : Pos} (hg : Gl X x) (hm : X.mg x = none) (hv : bootBuiltins x = some u) (r : RelV v u) (hn : x ≠ "__name__" := by decide) (hd : (x == ("__debug__" : Str)) = false := by decide) : PE X (.Name x pos) (tC v) :=
  fun _ _ _ H _ I h => ld_blt I hg hm hv ⟨v, H, I, r, h⟩ hn hd

/-! ### arithmetic -/
/-- two ints -/
def t2I (ta tb : TE) (k : Int → Int → Hp → Prop) : St → Hp → Prop := fun σ H => ta σ H fun x H1 => tb σ H1 fun y H2 => ∃ i j, x = .int i ∧ y = .int j ∧ k i j H2
def tAdd (ta tb : TE) : TE := fun σ H Q => t2I ta tb (fun i j H2 => Q (.int (i + j)) H2) σ H
def tSub (ta tb : TE) : TE := fun σ H Q => t2I ta tb (fun i j H2 => Q (.int (i - j)) H2) σ H
/-- the left factor below 2^64 -/
def tMul (ta tb : TE) : TE := fun σ H Q => t2I ta tb (fun i j H2 => (-(2 ^ 64) < i ∧ i < 2 ^ 64) ∧ Q (.int (i * j)) H2) σ H
variable {a b : Expr} {ta tb : TE} {pos : Pos}
theorem pe_add (ha : PE X a ta) (hb : PE X b tb) : PE X (.BinOp a .Add b pos) (tAdd ta tb) := by
  intro pins s σ H Q I h
  refine wpAny_BinOp (bin ha hb I h fun v u s2 x y H2 I2 rx ry q => ?_)
  obtain ⟨i, j, rfl, rfl, q⟩ := q
  obtain ⟨t, rfl⟩ := rx
  obtain ⟨t', rfl⟩ := ry
  exact add_int ⟨.int _, H2, I2.tok _, ⟨_, rfl⟩, q⟩
theorem pe_sub (ha : PE X a ta) (hb : PE X b tb) : PE X (.BinOp a .Sub b pos) (tSub ta tb) := by
  intro pins s σ H Q I h
  refine wpAny_BinOp (bin ha hb I h fun v u s2 x y H2 I2 rx ry q => ?_)
  obtain ⟨i, j, rfl, rfl, q⟩ := q
  obtain ⟨t, rfl⟩ := rx
  obtain ⟨t', rfl⟩ := ry
  exact sub_int ⟨.int _, H2, I2.tok _, ⟨_, rfl⟩, q⟩
theorem pe_mul (ha : PE X a ta) (hb : PE X b tb) : PE X (.BinOp a .Mult b pos) (tMul ta tb) := by
  intro pins s σ H Q I h
  refine wpAny_BinOp (bin ha hb I h fun v u s2 x y H2 I2 rx ry q => ?_)
  obtain ⟨i, j, rfl, rfl, ⟨q1, q2⟩, q⟩ := q
  obtain ⟨t, rfl⟩ := rx
  obtain ⟨t', rfl⟩ := ry
  exact mul_int ⟨.int _, H2, I2.tok _, ⟨_, rfl⟩, q⟩ (.of_left (intBits_le_64 q1 q2))

/-! ### comparisons -/
def PC (X : Cx) (op : CmpOp) (a b : Expr) (t : TE) : Prop :=
  ∀ (pins : List (Addr × Obj)) (s : Shared) (σ : St) (H : Hp) (Q : VK), Inv X pins σ H s → t σ H Q →
    wpAny (model X.prog X.w) X.A (eval a X.env) (fun v s₁ => wpAny (model X.prog X.w) X.A (eval b X.env) (fun u s₂ => wpAny (model X.prog X.w) X.A (compareOp op v u) (EP X pins σ Q) X.xe s₂) X.xe s₁) X.xe s
theorem nobehind (b : Expr) {op : CmpOp} (h : op ≠ .In) (h2 : op ≠ .NotIn) : behindInMarks op b = false := by
  have e1 : (op == CmpOp.In) = false := by cases op <;> first | rfl | exact absurd rfl h
  have e2 : (op == CmpOp.NotIn) = false := by cases op <;> first | rfl | exact absurd rfl h2
  cases b <;> simp [behindInMarks, e1, e2]
def tCmp (p : Int → Int → Bool) (ta tb : TE) : TE := fun σ H Q => t2I ta tb (fun i j H2 => Q (.bl (p i j)) H2) σ H
abbrev tLt : TE → TE → TE := tCmp fun i j => decide (i < j)
abbrev tLe : TE → TE → TE := tCmp fun i j => decide (i ≤ j)
abbrev tGt : TE → TE → TE := tCmp fun i j => decide (j < i)
abbrev tGe : TE → TE → TE := tCmp fun i j => decide (j ≤ i)
abbrev tEqI : TE → TE → TE := tCmp fun i j => decide (i = j)
abbrev tNeI : TE → TE → TE := tCmp fun i j => !decide (i = j)
/-- a comparison of two ints, by its rule -/
theorem pc_int {op : CmpOp} {p : Int → Int → Bool} (ha : PE X a ta) (hb : PE X b tb)
    (rule : ∀ (i j : Int) (t u : Tok) (Q : Value → Shared → Prop) (s : Shared), Q (.bool (p i j)) s → wpAny (model X.prog X.w) X.A (compareOp op (.int i t) (.int j u)) Q X.xe s) : PC X op a b (tCmp p ta tb) := by
  intro pins s σ H Q I h
  refine bin ha hb I h fun v u s2 x y H2 I2 rx ry q => ?_
  obtain ⟨i, j, rfl, rfl, q⟩ := q
  obtain ⟨t, rfl⟩ := rx
  obtain ⟨t', rfl⟩ := ry
  exact rule i j t t' _ s2 ⟨.bl _, H2, I2, rfl, q⟩
theorem pc_lt (ha : PE X a ta) (hb : PE X b tb) : PC X .Lt a b (tLt ta tb) := pc_int ha hb fun _ _ _ _ _ _ h => lt_int h
theorem pc_le (ha : PE X a ta) (hb : PE X b tb) : PC X .LtE a b (tLe ta tb) := pc_int ha hb fun _ _ _ _ _ _ h => le_int h
theorem pc_gt (ha : PE X a ta) (hb : PE X b tb) : PC X .Gt a b (tGt ta tb) := pc_int ha hb fun _ _ _ _ _ _ h => gt_int h
theorem pc_ge (ha : PE X a ta) (hb : PE X b tb) : PC X .GtE a b (tGe ta tb) := pc_int ha hb fun _ _ _ _ _ _ h => ge_int h
theorem pc_eqI (ha : PE X a ta) (hb : PE X b tb) : PC X .Eq a b (tEqI ta tb) := pc_int ha hb fun _ _ _ _ _ _ h => eq_int (by rw [Bool.beq_eq_decide_eq]; exact h)
theorem pc_neI (ha : PE X a ta) (hb : PE X b tb) : PC X .NotEq a b (tNeI ta tb) := pc_int ha hb fun _ _ _ _ _ _ h => ne_int (by rw [bne, Bool.beq_eq_decide_eq]; exact h)
/-- is None -/
def tIsN (ta : TE) : TE := fun σ H Q => ta σ H fun x H1 => Q (.bl (decide (x = .non))) H1
def tNotN (ta : TE) : TE := fun σ H Q => ta σ H fun x H1 => Q (.bl (!decide (x = .non))) H1
theorem RelV.none_iff {x : V} {v : Value} (r : RelV x v) : (v == Value.none) = decide (x = .non) := by
  cases x with
  | non => cases r; rfl
  | bl _ => cases r; rfl
  | int _ => obtain ⟨t, rfl⟩ := r; rfl
  | str _ => obtain ⟨t, rfl⟩ := r; rfl
  | byt _ => obtain ⟨t, rfl⟩ := r; rfl
  | flt _ => obtain ⟨t, rfl⟩ := r; rfl
  | ref _ => cases r; rfl
  | ty _ => cases r; rfl
theorem pc_isN {j pos'} (ha : PE X a ta) : PC X .Is a (.Constant .none j pos') (tIsN ta) := by
  intro pins s σ H Q I h
  refine thn (ha pins s σ H _ I h) fun v s1 ⟨x, H1, I1, r1, q1⟩ => ?_
  exact Constant_none (is_none_gen ⟨.bl _, H1, I1, by rw [r1.none_iff]; rfl, q1⟩)
theorem pc_notN {j pos'} (ha : PE X a ta) : PC X .IsNot a (.Constant .none j pos') (tNotN ta) := by
  intro pins s σ H Q I h
  refine thn (ha pins s σ H _ I h) fun v s1 ⟨x, H1, I1, r1, q1⟩ => ?_
  exact Constant_none (isnot_none_gen ⟨.bl _, H1, I1, by rw [r1.none_iff]; rfl, q1⟩)
/-- a comparison as a value, as a test -/
def tB (t : TE) : TT := fun σ H Q => t σ H fun x H1 => ∃ c, x = .bl c ∧ Q c H1
theorem pe_cmp {op : CmpOp} {t : TE} (h : PC X op a b t) (h1 : behindInMarks op b = false := by first | exact nobehind _ (by decide) (by decide) | rfl) : PE X (.Compare a [op] [b] pos) t := fun pins s σ H Q I hw => wpAny_Compare1 (h pins s σ H Q I hw) h1
theorem pt_cmp {op : CmpOp} {t : TE} (h : PC X op a b t) (h1 : behindInMarks op b = false := by first | exact nobehind _ (by decide) (by decide) | rfl) : PT X (.Compare a [op] [b] pos) (tB t) := by
  intro pins s σ H Q I hw
  refine wpAny_isTrue_Compare1 (thn (h pins s σ H _ I hw) fun v s1 h1 => thn h1 fun u s2 h2 => thn h2 fun c s3 ⟨x, H1, I1, r1, q1⟩ => ?_) h1
  obtain ⟨d, rfl, q⟩ := q1
  cases r1
  exact wpAny_truthy_bool ⟨H1, I1, q⟩
/-- an expression whose value is a bool, as a test -/
theorem pt_val {e : Expr} {t : TE} (h : PE X e t) (he : ∀ whole, isTrue e X.env whole = (do let v ← whole; standAt e.pos; holding [v] (truthy v)) := by intro _; rfl) : PT X e (tB t) := by
  intro pins s σ H Q I hw
  refine isTrue_plain (thn (h pins s σ H _ I hw) fun v s1 ⟨x, H1, I1, r1, q1⟩ => ?_) (he _)
  obtain ⟨d, rfl, q⟩ := q1
  cases r1
  exact wpAny_truthy_bool ⟨H1, I1, q⟩

/-! ### and, or, not -/
variable {tA tB' : TT} {rest : List Expr}
def tAnd (t u : TT) : TT := fun σ H Q => t σ H fun c H1 => if c = true then u σ H1 Q else Q false H1
def tOr (t u : TT) : TT := fun σ H Q => t σ H fun c H1 => if c = true then Q true H1 else u σ H1 Q
def tNot (t : TT) : TT := fun σ H Q => t σ H fun c H1 => Q (!c) H1
theorem pw_and1 (ha : PT X a tA) : PW X (.BoolOp .And [a] pos) tA := by
  intro wh pins s σ H Q I h
  refine isTrue_and (thn (ha pins s σ H Q I h) fun c s1 e => ?_)
  cases c with
  | true => exact isTrue_and_nil e
  | false => exact e
theorem pw_or1 (ha : PT X a tA) : PW X (.BoolOp .Or [a] pos) tA := by
  intro wh pins s σ H Q I h
  refine isTrue_or (thn (ha pins s σ H Q I h) fun c s1 e => ?_)
  cases c with
  | false => exact isTrue_or_nil e
  | true => exact e
theorem pw_and (ha : PT X a tA) (hb : PW X (.BoolOp .And (b :: rest) pos) tB') : PW X (.BoolOp .And (a :: b :: rest) pos) (tAnd tA tB') := by
  intro wh pins s σ H Q I h
  refine isTrue_and (thn (ha pins s σ H _ I h) fun c s1 ⟨H1, I1, q1⟩ => ?_)
  cases c with
  | true => exact hb wh pins s1 σ H1 Q I1 q1
  | false => exact ⟨H1, I1, q1⟩
theorem pw_or (ha : PT X a tA) (hb : PW X (.BoolOp .Or (b :: rest) pos) tB') : PW X (.BoolOp .Or (a :: b :: rest) pos) (tOr tA tB') := by
  intro wh pins s σ H Q I h
  refine isTrue_or (thn (ha pins s σ H _ I h) fun c s1 ⟨H1, I1, q1⟩ => ?_)
  cases c with
  | true => exact ⟨H1, I1, q1⟩
  | false => exact hb wh pins s1 σ H1 Q I1 q1
theorem pt_not (ha : PT X a tA) : PT X (.UnaryOp .Not a pos) (tNot tA) := by
  intro pins s σ H Q I h
  exact isTrue_not (ha pins s σ H (fun c H1 => Q (!c) H1) I h)
/-- .. as values (bools) -/
def tAndV (ta tb : TE) : TE := fun σ H Q => ta σ H fun x H1 => ∃ c, x = .bl c ∧ if c = true then tb σ H1 Q else Q (.bl false) H1
def tOrV (ta tb : TE) : TE := fun σ H Q => ta σ H fun x H1 => ∃ c, x = .bl c ∧ if c = true then Q (.bl true) H1 else tb σ H1 Q
def tNotV (ta : TE) : TE := fun σ H Q => ta σ H fun x H1 => ∃ c, x = .bl c ∧ Q (.bl (!c)) H1
theorem pe_one {op} {t : TE} (h : PE X a t) : PE X (.BoolOp op [a] pos) t := fun pins s σ H Q I hw => BoolOp_one (h pins s σ H Q I hw)
theorem pe_and (ha : PE X a ta) (hb : PE X (.BoolOp .And (b :: rest) pos) tb) : PE X (.BoolOp .And (a :: b :: rest) pos) (tAndV ta tb) := by
  intro pins s σ H Q I h
  refine BoolOp_and (thn (ha pins s σ H _ I h) fun v s1 ⟨x, H1, I1, r1, q1⟩ => ?_)
  obtain ⟨c, rfl, q1⟩ := q1
  cases r1
  refine wpAny_truthy_bool ?_
  cases c with
  | true => exact hb pins s1 σ H1 Q I1 q1
  | false => exact ⟨.bl false, H1, I1, rfl, q1⟩
theorem pe_or (ha : PE X a ta) (hb : PE X (.BoolOp .Or (b :: rest) pos) tb) : PE X (.BoolOp .Or (a :: b :: rest) pos) (tOrV ta tb) := by
  intro pins s σ H Q I h
  refine BoolOp_or (thn (ha pins s σ H _ I h) fun v s1 ⟨x, H1, I1, r1, q1⟩ => ?_)
  obtain ⟨c, rfl, q1⟩ := q1
  cases r1
  refine wpAny_truthy_bool ?_
  cases c with
  | false => exact hb pins s1 σ H1 Q I1 q1
  | true => exact ⟨.bl true, H1, I1, rfl, q1⟩
theorem pe_not (ha : PE X a ta) : PE X (.UnaryOp .Not a pos) (tNotV ta) := by
  intro pins s σ H Q I h
  refine UnaryOp_ (thn (ha pins s σ H _ I h) fun v s1 ⟨x, H1, I1, r1, q1⟩ => ?_)
  obtain ⟨c, rfl, q1⟩ := q1
  cases r1
  exact not_of (wpAny_truthy_bool ⟨.bl (!c), H1, I1, rfl, q1⟩)
/-- a if t else b -/
def tIf (t : TT) (ta tb : TE) : TE := fun σ H Q => t σ H fun c H1 => if c = true then ta σ H1 Q else tb σ H1 Q
theorem pe_ifExp {c : Expr} (hc : PT X c tA) (ha : PE X a ta) (hb : PE X b tb) : PE X (.IfExp c a b pos) (tIf tA ta tb) := by
  intro pins s σ H Q I h
  refine wpAny_IfExp (thn (hc pins s σ H _ I h) fun d s1 ⟨H1, I1, q1⟩ => ?_)
  cases d with
  | true => exact ha pins s1 σ H1 Q I1 q1
  | false => exact hb pins s1 σ H1 Q I1 q1
end
end L2

namespace L2
open PySem PySem.Spec PyProof.Rows

/-! ### a list, a tuple that is read: tracked, frozen, or an object of the module -/
def SqL (K : PySem.W.Frag) (H : Hp) (a : Addr) (xs : List V) : Prop :=
  Rd H a (.lst xs) ∨
    ∃ (o : Obj) (its : Array Value) (n : Nat), K.lookup a = some o ∧ o.cls = .type "list" ∧ o.dict = none ∧ o.data = .seq its n ∧ its.size ≤ sizeLine ∧ Vals xs its.toList
def SqT (K : PySem.W.Frag) (H : Hp) (a : Addr) (xs : List V) : Prop :=
  Rd H a (.tup xs) ∨
    ∃ (o : Obj) (its : Array Value) (n : Nat), K.lookup a = some o ∧ o.cls = .type "tuple" ∧ o.data = .seq its n ∧ its.size ≤ sizeLine ∧ Vals xs its.toList
def absV : Value → Option V
  | .none => some .non
  | .bool b => some (.bl b)
  | .int i _ => some (.int i)
  | .str x _ => some (.str x)
  | .bytes b _ => some (.byt b)
  | .float b _ => some (.flt b)
  | .ref a => some (.ref a)
  | .type n => some (.ty n)
  | _ => none
theorem RelV.abs {x : V} {u : Value} (r : RelV x u) : absV u = some x := by
  cases x with
  | non => cases r; rfl
  | bl _ => cases r; rfl
  | int _ => obtain ⟨t, rfl⟩ := r; rfl
  | str _ => obtain ⟨t, rfl⟩ := r; rfl
  | byt _ => obtain ⟨t, rfl⟩ := r; rfl
  | flt _ => obtain ⟨t, rfl⟩ := r; rfl
  | ref _ => cases r; rfl
  | ty _ => cases r; rfl
theorem RelV.inj {x y : V} {u : Value} (r : RelV x u) (q : RelV y u) : x = y := Option.some.inj (r.abs.symm.trans q.abs)
theorem Vals.inj : ∀ {xs ys : List V} {us : List Value}, Vals xs us → Vals ys us → xs = ys
  | _, _, _, .nil, .nil => rfl
  | _, _, _, .cons r t, .cons r' t' => by rw [r.inj r', Vals.inj t t']
section
variable {X : Cx} {pins : List (Addr × Obj)} {σ : St} {H : Hp} {s : Shared} {a : Addr} {xs ys : List V}
theorem SqL.of {K : PySem.W.Frag} (h : H a = some (.lst xs)) : SqL K H a xs := .inl (.inl h)
theorem SqT.of {K : PySem.W.Frag} (h : H a = some (.tup xs)) : SqT K H a xs := .inl (.inl h)
theorem Inv.list (I : Inv X pins σ H s) (h : SqL X.K H a xs) : ∃ its : List Value, Vals xs its ∧ PlainL s.heap a its.toArray ∧ xs.length ≤ sizeLine := by
  rcases h with h | ⟨o, its, n, hk, hc, hd, hs, hz, r⟩
  · obtain ⟨z, its, n, r, e⟩ := h.ok I.hok
    exact ⟨its, r, ⟨_, n, e, rfl, rfl, rfl⟩, z⟩
  · refine ⟨its.toList, r, ⟨o, n, I.kIn a o hk, hc, hd, by simpa using hs⟩, ?_⟩
    have e := r.length
    simp only [Array.length_toList] at e
    omega
theorem Inv.tuple (I : Inv X pins σ H s) (h : SqT X.K H a xs) : ∃ its : List Value, Vals xs its ∧ IsTup s.heap a its.toArray ∧ xs.length ≤ sizeLine := by
  rcases h with h | ⟨o, its, n, hk, hc, hs, hz, r⟩
  · obtain ⟨z, its, r, p⟩ := h.ok I.hok
    exact ⟨its, r, p, z⟩
  · refine ⟨its.toList, r, ⟨o, I.kIn a o hk, hc, n, by simpa using hs⟩, ?_⟩
    have e := r.length
    simp only [Array.length_toList] at e
    omega
theorem Inv.list_inj (I : Inv X pins σ H s) (h : SqL X.K H a xs) (h' : SqL X.K H a ys) : xs = ys := by
  obtain ⟨its, r, ⟨o, n, e, _, _, d⟩, _⟩ := I.list h
  obtain ⟨its', r', ⟨o', n', e', _, _, d'⟩, _⟩ := I.list h'
  rw [e] at e'; cases e'
  rw [d] at d'
  injection d' with d1 _
  have : its = its' := by simpa using congrArg Array.toList d1
  subst this
  exact r.inj r'
theorem Inv.tuple_inj (I : Inv X pins σ H s) (h : SqT X.K H a xs) (h' : SqT X.K H a ys) : xs = ys := by
  obtain ⟨its, r, ⟨o, e, _, n, d⟩, _⟩ := I.tuple h
  obtain ⟨its', r', ⟨o', e', _, n', d'⟩, _⟩ := I.tuple h'
  rw [e] at e'; cases e'
  rw [d] at d'
  injection d' with d1 _
  have : its = its' := by simpa using congrArg Array.toList d1
  subst this
  exact r.inj r'
end

/-! ### another wish about exceptions -/
abbrev Cx.wish (X : Cx) (E : Value → Shared → Prop) : Cx := { X with xe := E }
/-- no exception leaves -/
abbrev Cx.nox (X : Cx) : Cx := X.wish fun _ _ => False
theorem Cx.Ok.wish {X : Cx} (ok : X.Ok) (E : Value → Shared → Prop) : (X.wish E).Ok :=
  ⟨ok.mod, ok.kind, ok.glob, ok.blt, ok.above, ok.inj, ok.has, ok.cab, ok.hd, ok.frames, ok.stk, ok.exf, ok.bs, ok.bsz, ok.noex, ok.exfs, ok.funs, ok.frf⟩
theorem Cx.Ok.unwish {X : Cx} {E : Value → Shared → Prop} (ok : (X.wish E).Ok) : X.Ok :=
  ⟨ok.mod, ok.kind, ok.glob, ok.blt, ok.above, ok.inj, ok.has, ok.cab, ok.hd, ok.frames, ok.stk, ok.exf, ok.bs, ok.bsz, ok.noex, ok.exfs, ok.funs, ok.frf⟩
section
variable {X : Cx} {pins : List (Addr × Obj)} {σ : St} {H : Hp} {s : Shared} {E : Value → Shared → Prop}
theorem Inv.wish (I : Inv X pins σ H s) (E : Value → Shared → Prop) : Inv (X.wish E) pins σ H s := ⟨I.ok.wish E, I.os, I.bare, I.base, I.loc, I.cell, I.free, I.freeC, I.pin, I.hok, I.len⟩
theorem Inv.unwish (I : Inv (X.wish E) pins σ H s) : Inv X pins σ H s := ⟨I.ok.unwish, I.os, I.bare, I.base, I.loc, I.cell, I.free, I.freeC, I.pin, I.hok, I.len⟩
theorem SP.unwish {D : Ends} {f : Flow} {s' : Shared} (h : SP (X.wish E) pins D f s') : SP X pins D f s' := by
  cases f with
  | next => obtain ⟨σ', H', I, q⟩ := h; exact ⟨σ', H', I.unwish, q⟩
  | brk => obtain ⟨σ', H', I, q⟩ := h; exact ⟨σ', H', I.unwish, q⟩
  | cont => obtain ⟨σ', H', I, q⟩ := h; exact ⟨σ', H', I.unwish, q⟩
  | ret u => obtain ⟨v, σ', H', I, r, q⟩ := h; exact ⟨v, σ', H', I.unwish, r, q⟩
theorem PE.nox {e : Expr} {t : TE} (h : PE X.nox e t) : PE X e t := fun pins s σ H Q I hw =>
  wpAny_mono (h pins s σ H Q (I.wish _) hw) (fun _ _ ⟨v, H', I', r, q⟩ => ⟨v, H', I'.unwish, r, q⟩) fun _ _ z => False.elim z
theorem PT.nox {e : Expr} {t : TT} (h : PT X.nox e t) : PT X e t := fun pins s σ H Q I hw =>
  wpAny_mono (h pins s σ H Q (I.wish _) hw) (fun _ _ ⟨H', I', q⟩ => ⟨H', I'.unwish, q⟩) fun _ _ z => False.elim z
theorem PSs.nox {st : List Stmt} {t : TS} (h : PSs X.nox st t) : PSs X st t := fun pins s σ H D I hw =>
  wpAny_mono (h pins s σ H D (I.wish _) hw) (fun _ _ q => q.unwish) fun _ _ z => False.elim z
end

/-! ### blocks and small statements -/
section
variable {X : Cx} {st : Stmt} {rest : List Stmt} {t u : TS} {e : Expr} {te : TE} {pos : Pos}
def tNext : TS := fun D σ H => D.nx σ H
def tSeq (t u : TS) : TS := fun D σ H => t { D with nx := u D } σ H
theorem pss_nil : PSs X [] tNext := fun _ _ σ H _ I h => wpAny_execs_nil ⟨σ, H, I, h⟩
theorem pss_cons (h1 : PS X st t) (h2 : PSs X rest u) : PSs X (st :: rest) (tSeq t u) := by
  intro pins s σ H D I h
  refine wpAny_execs_cons (thn (h1 pins s σ H { D with nx := u D } I h) fun f s1 q => ?_)
  cases f with
  | next =>
    obtain ⟨σ', H', I', q⟩ := q
    exact h2 pins s1 σ' H' D I' q
  | ret v => exact q
  | brk => exact q
  | cont => exact q
theorem pss_one (h1 : PS X st t) : PSs X [st] t := by
  intro pins s σ H D I h
  refine wpAny_execs_cons (thn (h1 pins s σ H D I h) fun f s1 q => ?_)
  cases f with
  | next => exact wpAny_execs_nil q
  | ret v => exact q
  | brk => exact q
  | cont => exact q
def tBreak : TS := fun D σ H => D.bk σ H
def tCont : TS := fun D σ H => D.ct σ H
theorem ps_pass : PS X (.Pass pos) tNext := fun _ _ σ H _ I h => wpAny_Pass ⟨σ, H, I, h⟩
theorem ps_break : PS X (.Break pos) tBreak := fun _ _ σ H _ I h => wpAny_Break ⟨σ, H, I, h⟩
theorem ps_continue : PS X (.Continue pos) tCont := fun _ _ σ H _ I h => wpAny_Continue ⟨σ, H, I, h⟩
/-- in a def's body nothing is shown -/
theorem Inv.quiet {pins : List (Addr × Obj)} {σ : St} {H : Hp} {s : Shared} (I : Inv X pins σ H s) : interactive X.env = false := by simp [interactive, I.ok.kind]
/-- a docstring -/
theorem ps_doc {x j pos pos'} : PS X (.Expr (.Constant (.str x) j pos) pos') tNext := fun _ s σ H _ I h => wpAny_Expr (Calls.Constant_str (show SP X _ _ .next { s with toks := s.toks + 1 } from ⟨σ, H, I.tok _, h⟩)) I.quiet
/-- an expression whose value is dropped -/
def tDrop (te : TE) : TS := fun D σ H => te σ H fun _ H1 => D.nx σ H1
theorem ps_expr (he : PE X e te) (hs : swapsWith e none pos.line X.env = pure false := by rfl) : PS X (.Expr e pos) (tDrop te) := by
  intro pins s σ H D I h
  exact wpAny_Expr_any (thn (he pins s σ H _ I h) fun v s1 ⟨x, H1, I1, r1, q1⟩ => ⟨σ, H1, I1, q1⟩) I.quiet hs
def tRet (te : TE) : TS := fun D σ H => te σ H D.rt
theorem ps_ret (he : PE X e te) : PS X (.Return (some e) pos) (tRet te) := by
  intro pins s σ H D I h
  exact wpAny_Return_some (thn (he pins s σ H _ I h) fun v s1 ⟨x, H1, I1, r1, q1⟩ => ⟨x, σ, H1, I1, r1, q1⟩)
def tRetN : TS := fun D _ H => D.rt .non H
theorem ps_retN : PS X (.Return none pos) tRetN := fun _ _ σ H _ I h => wpAny_Return_none ⟨.non, σ, H, I, rfl, h⟩
def tIfS (c : TT) (t u : TS) : TS := fun D σ H => c σ H fun b H1 => if b = true then t D σ H1 else u D σ H1
theorem ps_if {c : Expr} {a b : List Stmt} {tc : TT} (hc : PT X c tc) (ha : PSs X a t) (hb : PSs X b u) : PS X (.If c a b pos) (tIfS tc t u) := by
  intro pins s σ H D I h
  refine wpAny_If (thn (hc pins s σ H _ I h) fun d s1 ⟨H1, I1, q1⟩ => ?_)
  cases d with
  | true => exact ha pins s1 σ H1 D I1 q1
  | false => exact hb pins s1 σ H1 D I1 q1
/-- code that the proof never comes to -/
def tNever : TS := fun _ _ _ => False
theorem ps_never : PS X st tNever := fun _ _ _ _ _ _ h => h.elim
theorem pss_never {sts : List Stmt} : PSs X sts tNever := fun _ _ _ _ _ _ h => h.elim
end

/-! ### targets -/
abbrev TG := V → St → Hp → (St → Hp → Prop) → Prop
abbrev TGs := List V → St → Hp → (St → Hp → Prop) → Prop
def PG (X : Cx) (target : Expr) (t : TG) : Prop :=
  ∀ (pins : List (Addr × Obj)) (s : Shared) (σ : St) (H : Hp) (v : V) (u : Value) (Q : St → Hp → Prop), Inv X pins σ H s → RelV v u → t v σ H Q →
    wpAny (model X.prog X.w) X.A (assign target X.env u) (fun _ s' => ∃ σ' H', Inv X pins σ' H' s' ∧ Q σ' H') X.xe s
/-- several targets, one after another -/
def PGs (X : Cx) (ts : List Expr) (t : TGs) : Prop :=
  ∀ (pins : List (Addr × Obj)) (s : Shared) (σ : St) (H : Hp) (vs : List V) (us : List Value) (Q : St → Hp → Prop), Inv X pins σ H s → Vals vs us → t vs σ H Q →
    wpAny (model X.prog X.w) X.A (assignInOrder ((assignEach ts X.env).map (·.2)) us) (fun _ s' => ∃ σ' H', Inv X pins σ' H' s' ∧ Q σ' H') X.xe s
/-- o[i] = v, by values -/
abbrev TSet := V → V → V → Hp → (Hp → Prop) → Prop
def PSet (X : Cx) (t : TSet) : Prop :=
  ∀ (pins : List (Addr × Obj)) (s : Shared) (σ : St) (H : Hp) (o i v : V) (ov iv u : Value) (Q : Hp → Prop), Inv X pins σ H s → RelV o ov → RelV i iv → RelV v u → t o i v H Q →
    wpAny (model X.prog X.w) X.A (setItem ov iv u) (fun _ s' => ∃ H', Inv X pins σ H' s' ∧ Q H') X.xe s
/-- a op= b, by values -/
abbrev TIp := V → V → Hp → VK → Prop
def PIp (X : Cx) (op : Operator) (t : TIp) : Prop :=
  ∀ (pins : List (Addr × Obj)) (s : Shared) (σ : St) (H : Hp) (x y : V) (v u : Value) (Q : VK), Inv X pins σ H s → RelV x v → RelV y u → t x y H Q →
    wpAny (model X.prog X.w) X.A (inplaceOp op v u) (EP X pins σ Q) X.xe s
section
variable {X : Cx} {pos : Pos}
def gName (i : Nat) : TG := fun v σ H Q => Q (σ.set i (some v)) H
theorem pg_name {i : Nat} {x : Str} (hN : X.N.Nodup) (hi : X.N[i]? = some x) (hx : Loc X.env.scope x) (hf : X.fn x = true ∨ X.env.scope.names.lookup x = some .local := by first | exact .inl rfl | exact .inr rfl | assumption) : PG X (.Name x pos) (gName i) := by
  intro pins s σ H v u Q I r h
  exact wpAny_assign_Name (store_ok I hN hi hx r (fun s' I' => ⟨_, H, I', h⟩) hf)
def gNil : TGs := fun vs σ H Q => vs = [] ∧ Q σ H
def gCons (t : TG) (u : TGs) : TGs := fun vs σ H Q => ∃ v r, vs = v :: r ∧ t v σ H fun σ' H' => u r σ' H' Q
theorem pgs_nil : PGs X [] gNil := by
  intro pins s σ H vs us Q I r h
  obtain ⟨e, h⟩ := h
  subst e
  cases r
  exact assignInOrder_nil ⟨σ, H, I, h⟩
theorem pgs_cons {e : Expr} {es : List Expr} {t : TG} {u : TGs} (h1 : PG X e t) (h2 : PGs X es u)
    (hs : (assignEach (e :: es) X.env).map (·.2) = assign e X.env :: (assignEach es X.env).map (·.2) := by rfl) : PGs X (e :: es) (gCons t u) := by
  intro pins s σ H vs us Q I r h
  obtain ⟨v, vr, e1, h⟩ := h
  subst e1
  cases r with
  | cons r rr =>
    rw [hs]
    refine assignInOrder_cons (thn (h1 pins s σ H _ _ _ I r h) fun _ s1 ⟨σ1, H1, I1, q1⟩ => ?_)
    exact h2 pins s1 σ1 H1 _ _ Q I1 rr q1
/-- (a, b, ..) = a tuple of that length -/
def gTup (K : PySem.W.Frag) (n : Nat) (t : TGs) : TG := fun v σ H Q => ∃ a xs, v = .ref a ∧ SqT K H a xs ∧ xs.length = n ∧ t xs σ H Q
theorem pg_tup {es : List Expr} {k : Nat} {t : TGs} {n : Nat} (hc : X.calm = true) (h : PGs X es t)
    (hn : (assignEach es X.env).length = n := by rfl) (hst : (assignEach es X.env).findIdx? (·.1) = none := by rfl) : PG X (.Tuple es k pos) (gTup X.K n t) := by
  intro pins s σ H v u Q I r hw
  obtain ⟨a, xs, e1, hq, hl, hw⟩ := hw
  subst e1
  cases r
  obtain ⟨its, rv, ht, hz⟩ := I.tuple hq
  refine assign_Tuple_tuple (I.ok.hd hc) ht (by simp [hn, ← hl, rv.length]) hst fun h' hx => ?_
  have I1 : Inv X pins σ H { s with heap := h' } := I.kept (t' := s.toks) fun b o e => hx b o (Nat.ne_of_lt (Heap.lt_size e)) e
  exact h pins _ σ H xs _ Q I1 (by simpa using rv) hw
/-- o[i] = .. -/
def gSub (to ti : TE) (t : TSet) : TG := fun v σ H Q => to σ H fun o H1 => ti σ H1 fun i H2 => t o i v H2 fun H3 => Q σ H3
theorem pg_sub {o i : Expr} {to ti : TE} {t : TSet} (ho : PE X o to) (hi : PE X i ti) (hs : PSet X t)
    (ha : ∀ v, assign (.Subscript o i pos) X.env v = (do
      let ov ← holding [v] (eval o X.env)
      let iv ← holding [v, ov] (eval i X.env)
      standAt pos
      holding [v, ov, iv] (setItem ov iv v)
      release [v, ov, iv] []) := by intro _; rfl) : PG X (.Subscript o i pos) (gSub to ti t) := by
  intro pins s σ H v u Q I r h
  rw [ha]
  refine wpAny_bind (wpAny_holding (thn (ho pins s σ H _ I h) fun ov s1 ⟨x, H1, I1, r1, q1⟩ => ?_))
  refine wpAny_bind (wpAny_holding (thn (hi pins s1 σ H1 _ I1 q1) fun iv s2 ⟨y, H2, I2, r2, q2⟩ => ?_))
  refine wpAny_bind (wpAny_standAt (wpAny_bind (wpAny_holding (thn (hs pins s2 σ H2 x y v ov iv u _ I2 r1 r2 r q2) fun _ s3 ⟨H3, I3, q3⟩ => ?_))))
  exact wpAny_release ⟨σ, H3, I3, q3⟩
/-- target = value -/
def tAsg (te : TE) (g : TG) : TS := fun D σ H => te σ H fun x H1 => g x σ H1 D.nx
theorem ps_asg {tg e : Expr} {te : TE} {g : TG} (he : PE X e te) (hg : PG X tg g) (hs : swapsWithSole [tg] e pos.line X.env = pure false := by rfl) (hw : swappedStores [tg] e X.env = pure none := by rfl)
    (h1 : (assignEach [tg] X.env).map (·.2) = [assign tg X.env] := by rfl) : PS X (.Assign [tg] e pos) (tAsg te g) := by
  intro pins s σ H D I h
  refine wpAny_Assign_stores (thn (he pins s σ H _ I h) fun v s1 ⟨x, H1, I1, r1, q1⟩ => ?_) hs hw
  rw [h1]
  exact thn (hg pins s1 σ H1 x v _ I1 r1 q1) fun _ s2 q => q
/-- name = value -/
theorem ps_set {i : Nat} {x : Str} {e : Expr} {te : TE} {pos' : Pos} (hN : X.N.Nodup) (hi : X.N[i]? = some x) (hx : Loc X.env.scope x) (he : PE X e te) (hs : swapsWith e (some (.Name x pos')) pos.line X.env = pure false := by rfl) (hf : X.fn x = true ∨ X.env.scope.names.lookup x = some .local := by first | exact .inl rfl | exact .inr rfl | assumption) :
    PS X (.Assign [.Name x pos'] e pos) (tAsg te (gName i)) := by
  intro pins s σ H D I h
  refine wpAny_Assign_Name (thn (he pins s σ H _ I h) fun v s1 ⟨y, H1, I1, r1, q1⟩ => ?_) hs
  exact store_ok I1 hN hi hx r1 (fun s2 I2 => ⟨_, H1, I2, q1⟩) hf
/-- a, b = x, y with plain local names: stored from the right; the pair itself is not tracked (the opening rows as in PyProof/Rows/TupAssign.lean:23) -/
def tPar (i j : Nat) (ta : TA) : TS := fun D σ H => ta σ H fun vs H1 => ∃ v w, vs = [v, w] ∧ D.nx ((σ.set i (some v)).set j (some w)) H1
theorem ps_par {i j : Nat} {x y : Str} {a b : Expr} {ta : TA} {px py pt : Pos} {kt k2 pt2} (hc : X.calm = true) (hN : X.N.Nodup) (hi : X.N[i]? = some x) (hj : X.N[j]? = some y) (hij : i ≠ j)
    (hx : X.env.scope.names.lookup x = some .local) (hy : X.env.scope.names.lookup y = some .local) (ha : PA X [a, b] ta)
    (hw : swappedStores [.Tuple [.Name x px, .Name y py] kt pt] (.Tuple [a, b] k2 pt2) X.env = pure (some [x, y]))
    (hs : swapsWithSole [.Tuple [.Name x px, .Name y py] kt pt] (.Tuple [a, b] k2 pt2) pos.line X.env = pure false := by rfl) :
    PS X (.Assign [.Tuple [.Name x px, .Name y py] kt pt] (.Tuple [a, b] k2 pt2) pos) (tPar i j ta) := by
  intro pins s σ H D I h
  rw [exec_Assign_arm]
  refine wpAny_bind (wpAny_standAt ?_)
  rw [hs]
  refine wpAny_bind (wpAny_pure ?_)
  rw [if_neg (by decide)]
  refine wpAny_bind (Tuple_ (thn (ha _ pins s σ H _ I h) fun us s1 ⟨vs, H1, I1, r1, q1⟩ => ?_))
  obtain ⟨v, w, e1, q1⟩ := q1
  subst e1
  obtain ⟨u1, u2, rfl, rv, rw'⟩ : ∃ u1 u2, us = [u1, u2] ∧ RelV v u1 ∧ RelV w u2 := by
    cases r1 with
    | cons p q =>
      cases q with
      | cons p' q' =>
        cases q'
        exact ⟨_, _, rfl, p, p'⟩
  refine wpAny_newObj_type ?_ (by show 2 ≤ sizeLine; decide)
  have I2 : Inv X pins σ H1 { s1 with heap := s1.heap.push { cls := .type "tuple", data := .seq [u1, u2].toArray } } := I1.kept (t' := s1.toks) fun b o e => Heap.get?_push_of_some _ e
  rw [hw]
  refine wpAny_bind (wpAny_pure ?_)
  show wpAny (model X.prog X.w) X.A (do rule "assign.swapped-stores"; let items ← unpackItems (.ref s1.heap.objs.size) 2 none; assignInOrder [fun v => bindName X.env y v, fun v => bindName X.env x v] items.reverse; pure Flow.next) _ _ _
  refine wpAny_bind (wpAny_rule (wpAny_bind (unpackItems_tuple (items := #[u1, u2]) (I.ok.hd hc) (IsTup.new s1.heap _) fun h' hx' => ?_)))
  have I3 := I2.kept (h' := h') (t' := s1.toks) fun b o e => hx' b o (Nat.ne_of_lt (Heap.lt_size e)) e
  show wpAny _ _ (assignInOrder [fun v => bindName X.env y v, fun v => bindName X.env x v] [u2, u1] >>= fun _ => pure Flow.next) _ _ _
  refine wpAny_bind (assignInOrder_cons (wpAny_bindName (store_ok I3 hN hj (.inl hy) rw' (fun s2 I4 => ?_) (.inr hy))))
  refine assignInOrder_cons (wpAny_bindName (store_ok I4 hN hi (.inl hx) rv (fun s3 I5 => assignInOrder_nil (wpAny_pure ?_)) (.inr hx)))
  rw [List.set_comm _ _ (Ne.symm hij)] at I5
  exact ⟨_, H1, I5, q1⟩
/-- name op= e -/
def tAug (i : Nat) (te : TE) (ti : TIp) : TS := fun D σ H => ∃ x, σ[i]? = some (some x) ∧ te σ H fun y H1 => ti x y H1 fun z H2 => D.nx (σ.set i (some z)) H2
theorem ps_aug {i : Nat} {x : Str} {e : Expr} {te : TE} {op : Operator} {ti : TIp} {pos' : Pos} (hN : X.N.Nodup) (hi : X.N[i]? = some x) (hx : Loc X.env.scope x) (he : PE X e te) (ho : PIp X op ti) (hf : X.fn x = true ∨ X.env.scope.names.lookup x = some .local := by first | exact .inl rfl | exact .inr rfl | assumption) :
    PS X (.AugAssign (.Name x pos') op e pos) (tAug i te ti) := by
  intro pins s σ H D I h
  obtain ⟨v, e1, h⟩ := h
  obtain ⟨m, hn, hl⟩ := I.loc
  have vis : Vis X.env.scope x := by rcases hx with k | k; exact .inl k; exact .inr (.inl k)
  obtain ⟨u, r, l⟩ := hl i x v hi e1 vis
  refine wpAny_AugAssign_Name ?_
  have go : wpAny (model X.prog X.w) X.A (eval e X.env) (fun w s₂ => wpAny (model X.prog X.w) X.A (inplaceOp op u w) (fun r s₃ => wpAny (model X.prog X.w) X.A (storeName X.env x r) (fun _ => SP X pins D .next) X.xe s₃) X.xe s₂) X.xe s := by
    refine thn (he pins s σ H _ I h) fun w s1 ⟨y, H1, I1, r1, q1⟩ => ?_
    refine thn (ho pins s1 σ H1 v y u w _ I1 r r1 q1) fun z s2 ⟨zv, H2, I2, r2, q2⟩ => ?_
    exact store_ok I2 hN hi hx r2 (fun s3 I3 => ⟨_, H2, I3, q2⟩) hf
  rcases l with ⟨hk, hm⟩ | ⟨hk, c, hc, hcell⟩
  · exact wpAny_loadName_local I.ok.kind hk hn hm go
  · rcases hk with hk | hk
    · exact wpAny_loadName_cell I.ok.kind hk hc hcell go
    · rcases hx with k | k
      · have : X.env.scope.names.lookup x = some .free := hk
        rw [k] at this; cases this
      · have : X.env.scope.names.lookup x = some .free := hk
        rw [k] at this; cases this
/-- o[i] op= e -/
def tAugS (to ti te : TE) (tget : V → V → Hp → VK → Prop) (tip : TIp) (tset : TSet) : TS := fun D σ H => to σ H fun o H1 => ti σ H1 fun i H2 => tget o i H2 fun x H3 => te σ H3 fun y H4 => tip x y H4 fun z H5 => tset o i z H5 fun H6 => D.nx σ H6
/-- o[i], by values -/
def PGet (X : Cx) (t : V → V → Hp → VK → Prop) : Prop :=
  ∀ (pins : List (Addr × Obj)) (s : Shared) (σ : St) (H : Hp) (o i : V) (ov iv : Value) (Q : VK), Inv X pins σ H s → RelV o ov → RelV i iv → t o i H Q →
    wpAny (model X.prog X.w) X.A (getItem ov iv) (EP X pins σ Q) X.xe s
theorem ps_augS {o i e : Expr} {to ti te : TE} {tget : V → V → Hp → VK → Prop} {tip : TIp} {tset : TSet} {op : Operator} {tpos : Pos} (ho : PE X o to) (hi : PE X i ti) (hg : PGet X tget) (he : PE X e te) (hp : PIp X op tip) (hs : PSet X tset)
    (ha : ∀ ov iv new, augStore i ov iv new = (do holding [new, ov, iv] (setItem ov iv new); release [new, ov, iv] []; pure .next) := by intros; rfl) : PS X (.AugAssign (.Subscript o i tpos) op e pos) (tAugS to ti te tget tip tset) := by
  intro pins s σ H D I h
  refine wpAny_AugAssign_SubscriptAny (thn (ho pins s σ H _ I h) fun ov s1 ⟨x1, H1, I1, r1, q1⟩ => ?_) ha
  refine thn (hi pins s1 σ H1 _ I1 q1) fun iv s2 ⟨x2, H2, I2, r2, q2⟩ => ?_
  refine thn (hg pins s2 σ H2 x1 x2 ov iv _ I2 r1 r2 q2) fun old s3 ⟨x3, H3, I3, r3, q3⟩ => ?_
  refine thn (he pins s3 σ H3 _ I3 q3) fun v s4 ⟨x4, H4, I4, r4, q4⟩ => ?_
  refine thn (hp pins s4 σ H4 x3 x4 old v _ I4 r3 r4 q4) fun new s5 ⟨x5, H5, I5, r5, q5⟩ => ?_
  exact thn (hs pins s5 σ H5 x1 x2 x5 ov iv new _ I5 r1 r2 r5 q5) fun _ s6 ⟨H6, I6, q6⟩ => ⟨σ, H6, I6, q6⟩
/-- ints -/
def ipI (f : Int → Int → Int) : TIp := fun x y H Q => ∃ i j, x = .int i ∧ y = .int j ∧ Q (.int (f i j)) H
theorem ip_add : PIp X .Add (ipI fun i j => i + j) := by
  intro pins s σ H x y v u Q I r1 r2 h
  obtain ⟨i, j, e1, e2, q⟩ := h
  subst e1; subst e2
  obtain ⟨t, rfl⟩ := r1
  obtain ⟨t', rfl⟩ := r2
  exact iadd_int ⟨.int _, H, I.tok _, ⟨_, rfl⟩, q⟩
theorem ip_sub : PIp X .Sub (ipI fun i j => i - j) := by
  intro pins s σ H x y v u Q I r1 r2 h
  obtain ⟨i, j, e1, e2, q⟩ := h
  subst e1; subst e2
  obtain ⟨t, rfl⟩ := r1
  obtain ⟨t', rfl⟩ := r2
  exact isub_int ⟨.int _, H, I.tok _, ⟨_, rfl⟩, q⟩
end

/-! ### while -/
section
variable {X : Cx} {pos : Pos}
/-- the invariant W with its measure -/
def tWhile (c : TT) (tb : TS) : TS := fun D σ H => ∃ W : Nat → St → Hp → Prop, (∃ m, W m σ H) ∧ ∀ m σ H, W m σ H →
  c σ H fun b H1 => if b = true then ∃ N : St → Hp → Prop, (∀ σ' H', N σ' H' → ∃ m', m' < m ∧ W m' σ' H') ∧ tb { D with nx := N, ct := N, bk := D.nx } σ H1 else D.nx σ H1
theorem ps_while {c : Expr} {body : List Stmt} {tc : TT} {tb : TS} (hp : PassesOwn (model X.prog X.w) X.A X.env X.xe) (hc : PT X c tc) (hb : PSs X body tb) : PS X (.While c body [] pos) (tWhile tc tb) := by
  intro pins s σ H D I h
  obtain ⟨W, ⟨m0, w0⟩, turn⟩ := h
  refine wpAny_While (codeAny_whileLoop (fun n s' => ∃ σ' H', Inv X pins σ' H' s' ∧ W n σ' H') ?_ m0 ⟨σ, H, I, w0⟩)
  rintro n s1 ⟨σ1, H1, I1, w1⟩
  refine wpAny_passesOwn hp (thn (hc pins s1 σ1 H1 _ I1 (turn n σ1 H1 w1)) fun b s2 ⟨H2, I2, q2⟩ => ?_)
  cases b with
  | true =>
    obtain ⟨N, hN, q2⟩ := q2
    rw [if_pos rfl]
    refine wpAny_passesOwn hp (thn (hb pins s2 σ1 H2 _ I2 q2) fun f s3 q3 => ?_)
    cases f with
    | next =>
      obtain ⟨σ3, H3, I3, n3⟩ := q3
      obtain ⟨m', hm, w3⟩ := hN σ3 H3 n3
      exact ⟨m', hm, σ3, H3, I3, w3⟩
    | cont =>
      obtain ⟨σ3, H3, I3, n3⟩ := q3
      obtain ⟨m', hm, w3⟩ := hN σ3 H3 n3
      exact ⟨m', hm, σ3, H3, I3, w3⟩
    | brk => exact q3
    | ret v => exact q3
  | false =>
    rw [if_neg Bool.false_ne_true]
    exact wpAny_execs_nil ⟨σ1, H2, I2, q2⟩
end

/-! ### what a loop or a comprehension walks -/
/-- at turn i: it yields x (the heap may grow), or it stops -/
structure It where
  go : Nat → Hp → Prop
  yld : Nat → Hp → V → Hp → Prop
  stop : Nat → Hp → Prop
/-- the iterator's own objects may turn: they are not the frame's, not pinned, younger than the entry (or a comprehension's own) -/
def FpOk (X : Cx) (pins : List (Addr × Obj)) (H : Hp) (b : Addr) : Prop :=
  H b = none ∧ b ≠ X.env.locals ∧ b ∉ X.fs ∧ (b ∈ X.ex ∨ X.s₀.heap.objs.size ≤ b) ∧ (∀ x c, X.env.cells.lookup x = some c → c ≠ b) ∧ ∀ p ∈ X.pn ++ pins, p.1 ≠ b
theorem Inv.fpOk {X : Cx} {pins : List (Addr × Obj)} {σ : St} {H H' : Hp} {s : Shared} {b : Addr} (I : Inv X pins σ H s) (hb : s.heap.objs.size ≤ b) (hn : H' b = none) : FpOk X pins H' b := by
  refine ⟨hn, Nat.ne_of_gt (Nat.lt_of_lt_of_le I.lt hb), I.nofs hb, .inr (Nat.le_trans I.sz hb), fun x c e z => ?_, fun p hp z => ?_⟩
  · obtain ⟨v, q⟩ := I.cell x c e
    exact absurd (Nat.lt_of_lt_of_le q.lt (by rw [z]; exact hb)) (Nat.lt_irrefl _)
  · exact absurd (Nat.lt_of_lt_of_le (Heap.lt_size (I.pin p hp).1) (by rw [z]; exact hb)) (Nat.lt_irrefl _)
structure Turn (P : Program) (w : World) (K : PySem.W.Frag) (tg : Expr) (J : It) (fp : List Addr) (it : Addr) (tn : Nat → Heap → Prop) : Prop where
  mem : it ∈ fp
  obj : ∀ i h, tn i h → ∀ b ∈ fp, ∃ o, h.get? b = some o ∧ ∀ v, o.data ≠ .cell v
  keep : ∀ i h h', tn i h → (∀ b ∈ fp, ∀ o, h.get? b = some o → h'.get? b = some o) → tn i h'
  item : ∀ (X : Cx), X.prog = P → X.w = w → X.K = K → X.calm = true → ∀ (i : Nat) (pins : List (Addr × Obj)) (s : Shared) (σ : St) (H : Hp) (E : Value → Shared → Prop), Inv X pins σ H s → (∀ b ∈ fp, FpOk X pins H b) → tn i s.heap → J.go i H →
    wpAny (model P w) X.A (pyNext (.ref it)) (fun r s1 => ∃ u, r = some u ∧
      wpAny (model P w) X.A (letOwnedTupleGo tg (.ref it) u) (fun _ s2 => ∃ x H', Inv X pins σ H' s2 ∧ RelV x u ∧ J.yld i H x H' ∧ tn (i + 1) s2.heap ∧ ∀ b ∈ fp, H' b = none) E s1) E s
  done : ∀ (X : Cx), X.prog = P → X.w = w → X.K = K → X.calm = true → ∀ (i : Nat) (pins : List (Addr × Obj)) (s : Shared) (σ : St) (H : Hp) (E : Value → Shared → Prop), Inv X pins σ H s → (∀ b ∈ fp, FpOk X pins H b) → tn i s.heap → J.stop i H →
    wpAny (model P w) X.A (pyNext (.ref it)) (fun r s1 => r = none ∧ Inv X pins σ H s1) E s
  self : ∀ (A : Around) (i : Nat) (s : Shared) (Q : Value → Shared → Prop) (E : Value → Shared → Prop), tn i s.heap → Q (.ref it) s → wpAny (model P w) A (pyIter (.ref it)) Q E s
abbrev TI := St → Hp → (It → Hp → Prop) → Prop
/-- an iterator has come -/
def PIE (X : Cx) (pins : List (Addr × Obj)) (σ : St) (tg : Expr) (R : It → Hp → Prop) (itv : Value) (s2 : Shared) : Prop :=
  ∃ (it : Addr) (fp : List Addr) (tn : Nat → Heap → Prop) (J : It) (H' : Hp), itv = .ref it ∧ Inv X pins σ H' s2 ∧ Turn X.prog X.w X.K tg J fp it tn ∧ tn 0 s2.heap ∧ (∀ b ∈ fp, FpOk X pins H' b) ∧ R J H'
def PI (X : Cx) (tg iter : Expr) (wi : TI) : Prop :=
  ∀ (pins : List (Addr × Obj)) (s : Shared) (σ : St) (H : Hp) (R : It → Hp → Prop), Inv X pins σ H s → wi σ H R →
    wpAny (model X.prog X.w) X.A (eval iter X.env) (fun v s1 => wpAny (model X.prog X.w) X.A (pyIter v) (PIE X pins σ tg R) X.xe s1) X.xe s

/-- the step ahead of the store is nothing for an iterator that keeps no tuple -/
theorem go_of {M : Model} {A : Around} {E : Value → Shared → Prop} {s : Shared} {tg : Expr} {it : Addr} {u : Value} {o : Obj} {n : String} {vs : Array Value} {Q : Unit → Shared → Prop} (ho : s.heap.get? it = some o) (hc : o.cls = .type n) (hd : o.data = .fields vs)
    (hn : ["enumerate", "zip", "dict_itemiterator", "dict_reverseitemiterator", "odict_iterator", "itertools.zip_longest", "itertools.pairwise"].contains n = false) (hQ : Q () s) : wpAny M A (letOwnedTupleGo tg (.ref it) u) Q E s := by
  unfold letOwnedTupleGo
  cases tg <;> first
    | exact wpAny_pure hQ
    | (cases u <;> first
        | exact wpAny_pure hQ
        | (refine wpAny_bind (wpAny_load ho ?_)
           rw [hc, hd]
           show wpAny M A (if (["enumerate", "zip", "dict_itemiterator", "dict_reverseitemiterator", "odict_iterator", "itertools.zip_longest", "itertools.pairwise"].contains n && vs[0]? == some (rawInt _)) = true then _ else _) Q E s
           rw [if_neg (by intro h; rw [hn, Bool.false_and] at h; cases h)]
           exact wpAny_pure hQ))

/-- the list at a, as it stands at each turn (a loop may append to it) -/
def Itl (K : PySem.W.Frag) (a : Addr) : It :=
  ⟨fun i H => ∃ xs x, SqL K H a xs ∧ xs[i]? = some x, fun i H x H' => H' = H ∧ ∀ xs, SqL K H a xs → xs[i]? = some x, fun i H => ∃ xs, SqL K H a xs ∧ xs.length ≤ i⟩
def Itt (K : PySem.W.Frag) (a : Addr) : It :=
  ⟨fun i H => ∃ xs x, SqT K H a xs ∧ xs[i]? = some x, fun i H x H' => H' = H ∧ ∀ xs, SqT K H a xs → xs[i]? = some x, fun i H => ∃ xs, SqT K H a xs ∧ xs.length ≤ i⟩
/-- lo, lo + 1, .. (n of them) -/
def Itr (lo : Int) (n : Nat) : It := ⟨fun i _ => i < n, fun i H x H' => H' = H ∧ x = .int (lo + i), fun i _ => n ≤ i⟩
theorem turn_list {P : Program} {w : World} {K : PySem.W.Frag} {tg : Expr} (a it : Addr) : Turn P w K tg (Itl K a) [it] it (fun i h => h.IsListIter it a i) where
  mem := by simp
  obj := fun i h st b hb => by
    have e : b = it := by simpa using hb
    subst e
    obtain ⟨o, e, c, d⟩ := st
    exact ⟨o, e, fun v z => by rw [d] at z; cases z⟩
  keep := fun i h h' st k => st.at fun o e => k it (by simp) o e
  item := by
    intro X hP hw hK hc i pins s σ H E I hf st hg
    subst hP hw hK
    obtain ⟨xs, x, hq, hx⟩ := hg
    obtain ⟨its, rv, p, hz⟩ := I.list hq
    obtain ⟨u, hu, ru⟩ := rv.get hx
    obtain ⟨f0, f1, f2, f3, f4, f5⟩ := hf it (by simp)
    refine wpAny_pyNext_list_item st p.isList (x := u) (by simpa using hu) fun h' st' sb => ?_
    have I1 : Inv X pins σ H { s with heap := h' } := I.turned (t' := s.toks) (fun b o hb e => (sb.2 b hb).trans e) f0 f1 f3 f4 f5
    obtain ⟨o, e, c, d⟩ := id st'
    exact ⟨u, rfl, go_of (s := { s with heap := h' }) e c d (by decide) ⟨x, H, I1, ru, ⟨rfl, fun ys hy => by rw [I.list_inj hy hq]; exact hx⟩, st', fun b hb => (hf b hb).1⟩⟩
  done := by
    intro X hP hw hK hc i pins s σ H E I hf st hg
    subst hP hw hK
    obtain ⟨xs, hq, hx⟩ := hg
    obtain ⟨its, rv, p, hz⟩ := I.list hq
    obtain ⟨f0, f1, f2, f3, f4, f5⟩ := hf it (by simp)
    have hl := rv.length
    exact wpAny_pyNext_list_end (I.ok.hd hc) st p.isList (by simp; omega) fun h' eb => ⟨rfl, I.turned (t' := s.toks) (fun b o hb e => eb b o hb e) f0 f1 f3 f4 f5⟩
  self := fun _ _ _ _ _ st h => wpAny_pyIter_listiter st h
theorem turn_tuple {P : Program} {w : World} {K : PySem.W.Frag} {tg : Expr} (a it : Addr) : Turn P w K tg (Itt K a) [it] it (fun i h => h.IsTupleIter it a i) where
  mem := by simp
  obj := fun i h st b hb => by
    have e : b = it := by simpa using hb
    subst e
    obtain ⟨o, e, c, d⟩ := st
    exact ⟨o, e, fun v z => by rw [d] at z; cases z⟩
  keep := fun i h h' st k => st.at fun o e => k it (by simp) o e
  item := by
    intro X hP hw hK hc i pins s σ H E I hf st hg
    subst hP hw hK
    obtain ⟨xs, x, hq, hx⟩ := hg
    obtain ⟨its, rv, p, hz⟩ := I.tuple hq
    obtain ⟨u, hu, ru⟩ := rv.get hx
    obtain ⟨f0, f1, f2, f3, f4, f5⟩ := hf it (by simp)
    refine wpAny_pyNext_tuple_item st (show s.heap.IsTuple a its.toArray from p) (x := u) (by simpa using hu) fun h' st' sb => ?_
    have I1 : Inv X pins σ H { s with heap := h' } := I.turned (t' := s.toks) (fun b o hb e => (sb.2 b hb).trans e) f0 f1 f3 f4 f5
    obtain ⟨o, e, c, d⟩ := id st'
    exact ⟨u, rfl, go_of (s := { s with heap := h' }) e c d (by decide) ⟨x, H, I1, ru, ⟨rfl, fun ys hy => by rw [I.tuple_inj hy hq]; exact hx⟩, st', fun b hb => (hf b hb).1⟩⟩
  done := by
    intro X hP hw hK hc i pins s σ H E I hf st hg
    subst hP hw hK
    obtain ⟨xs, hq, hx⟩ := hg
    obtain ⟨its, rv, p, hz⟩ := I.tuple hq
    obtain ⟨f0, f1, f2, f3, f4, f5⟩ := hf it (by simp)
    have hl := rv.length
    exact wpAny_pyNext_tuple_end (I.ok.hd hc) st (show s.heap.IsTuple a its.toArray from p) (by simp; omega) fun h' eb => ⟨rfl, I.turned (t' := s.toks) (fun b o hb e => eb b o hb e) f0 f1 f3 f4 f5⟩
  self := fun _ _ _ _ _ st h => wpAny_pyIter_tupleiter st h
theorem turn_range {P : Program} {w : World} {K : PySem.W.Frag} {tg : Expr} (it : Addr) (lo : Int) (n : Nat) : Turn P w K tg (Itr lo n) [it] it (fun i h => IsRangeIter h it (lo + (i : Nat) * 1) ((n : Int) - (i : Nat)) 1) where
  mem := by simp
  obj := fun i h st b hb => by
    have e : b = it := by simpa using hb
    subst e
    exact ⟨_, st, fun v z => by
      have z' : Data.fields _ = Data.cell v := z
      cases z'⟩
  keep := fun i h h' st k => k it (by simp) _ st
  item := by
    intro X hP hw hK hc i pins s σ H E I hf st hg
    subst hP hw hK
    obtain ⟨f0, f1, f2, f3, f4, f5⟩ := hf it (by simp)
    have W := Walks.range (prog := X.prog) (w := X.w) (I.ok.hd hc) it lo 1 n
    refine W.item i s _ _ hg st fun v h' tk hv st' kk => ?_
    obtain ⟨t, rfl⟩ := hv
    have I1 : Inv X pins σ H { s with heap := h', toks := tk } := I.turned (fun b o hb e => kk b o (by simpa using hb) e) f0 f1 f3 f4 f5
    refine ⟨_, rfl, go_of (s := { s with heap := h', toks := tk }) (n := "range_iterator") st' rfl rfl (by decide) ⟨.int (lo + i), H, I1, ⟨t, ?_⟩, ⟨rfl, rfl⟩, st', fun b hb => (hf b hb).1⟩⟩
    rw [Int.mul_one]
  done := by
    intro X hP hw hK hc i pins s σ H E I hf st hg
    subst hP hw hK
    obtain ⟨f0, f1, f2, f3, f4, f5⟩ := hf it (by simp)
    exact wpAny_pyNext_range_end (I.ok.hd hc) st (by have : n ≤ i := hg; omega) fun h' eb => ⟨rfl, I.turned (t' := s.toks) (fun b o hb e => eb b o hb e) f0 f1 f3 f4 f5⟩
  self := fun _ _ _ _ _ st h => wpAny_pyIter_rangeiter st h
end L2

namespace L2
open PySem PySem.Spec PyProof.Rows
section
variable {X : Cx} {tg : Expr}
def iList (K : PySem.W.Frag) (tl : TE) : TI := fun σ H R => tl σ H fun x H1 => ∃ a, x = .ref a ∧ (∃ xs, SqL K H1 a xs) ∧ R (Itl K a) H1
def iTup (K : PySem.W.Frag) (tl : TE) : TI := fun σ H R => tl σ H fun x H1 => ∃ a, x = .ref a ∧ (∃ xs, SqT K H1 a xs) ∧ R (Itt K a) H1
theorem pi_list {l : Expr} {tl : TE} (hl : PE X l tl) : PI X tg l (iList X.K tl) := by
  intro pins s σ H R I h
  refine thn (hl pins s σ H _ I h) fun v s1 ⟨x, H1, I1, r1, q1⟩ => ?_
  obtain ⟨a, e, ⟨xs, hq⟩, q⟩ := q1
  subst e
  cases r1
  obtain ⟨its, rv, p, hz⟩ := I1.list hq
  refine wpAny_pyIter_list p.isList ?_
  refine ⟨s1.heap.objs.size, [s1.heap.objs.size], _, _, H1, rfl, I1.kept (t' := s1.toks) fun b o e => Heap.get?_push_of_some _ e, turn_list a _, ⟨_, Heap.get?_push_size _ rfl, rfl, rfl⟩, fun b hb => ?_, q⟩
  have e : b = s1.heap.objs.size := by simpa using hb
  subst e
  exact I1.fpOk (Nat.le_refl _) (I1.hok.fresh (Nat.le_refl _))
theorem pi_tup {l : Expr} {tl : TE} (hl : PE X l tl) : PI X tg l (iTup X.K tl) := by
  intro pins s σ H R I h
  refine thn (hl pins s σ H _ I h) fun v s1 ⟨x, H1, I1, r1, q1⟩ => ?_
  obtain ⟨a, e, ⟨xs, hq⟩, q⟩ := q1
  subst e
  cases r1
  obtain ⟨its, rv, p, hz⟩ := I1.tuple hq
  refine wpAny_pyIter_tuple (show s1.heap.IsTuple a its.toArray from p) ?_
  refine ⟨s1.heap.objs.size, [s1.heap.objs.size], _, _, H1, rfl, I1.kept (t' := s1.toks) fun b o e => Heap.get?_push_of_some _ e, turn_tuple a _, ⟨_, Heap.get?_push_size _ rfl, rfl, rfl⟩, fun b hb => ?_, q⟩
  have e : b = s1.heap.objs.size := by simpa using hb
  subst e
  exact I1.fpOk (Nat.le_refl _) (I1.hok.fresh (Nat.le_refl _))
/-- a range object just made, walked -/
theorem range_it {pins : List (Addr × Obj)} {σ : St} {H : Hp} {s : Shared} {R : It → Hp → Prop} {E : Value → Shared → Prop} {lo hi : Int} {t u v : Tok} {tk : Nat} (I : Inv X pins σ H s) (h1 : -(2 ^ 62) ≤ lo) (h2 : lo < 2 ^ 62) (h3 : -(2 ^ 62) ≤ hi) (h4 : hi < 2 ^ 62)
    (q : R (Itr lo (hi - lo).toNat) H) : wpAny (model X.prog X.w) X.A (pyIter (.ref s.heap.objs.size)) (PIE X pins σ tg R) E { s with heap := s.heap.push { cls := .type "range", data := .fields #[.int lo t, .int hi u, .int 1 v] }, toks := tk } := by
  refine wpAny_pyIter_range (IsRange.new ..) (small_one h1 h2 h3 h4) ?_
  have I1 : Inv X pins σ H { s with heap := s.heap.push { cls := .type "range", data := .fields #[.int lo t, .int hi u, .int 1 v] }, toks := tk } := I.kept fun b o e => Heap.get?_push_of_some _ e
  refine ⟨(s.heap.push { cls := .type "range", data := .fields #[.int lo t, .int hi u, .int 1 v] }).objs.size, [(s.heap.push { cls := .type "range", data := .fields #[.int lo t, .int hi u, .int 1 v] }).objs.size], _, _, H, rfl,
    I1.kept (t' := tk) fun b o e => Heap.get?_push_of_some _ e, turn_range _ lo (hi - lo).toNat, ?_, fun b hb => ?_, q⟩
  · have e1 : lo + ((0 : Nat) : Int) * 1 = lo := by simp
    have e2 : (((hi - lo).toNat : Nat) : Int) - ((0 : Nat) : Int) = Builtin.Range.rangeSize lo hi 1 := by rw [rangeSize_one]; split <;> omega
    show IsRangeIter _ _ (lo + ((0 : Nat) : Int) * 1) ((((hi - lo).toNat : Nat) : Int) - ((0 : Nat) : Int)) 1
    rw [e1, e2]
    exact Heap.get?_push_size _ rfl
  · have e : b = (s.heap.push { cls := .type "range", data := .fields #[.int lo t, .int hi u, .int 1 v] }).objs.size := by simpa using hb
    subst e
    exact I1.fpOk (Nat.le_refl _) (I1.hok.fresh (Nat.le_refl _))
def iRng1 (ta : TA) : TI := fun σ H R => ta σ H fun vs H1 => ∃ j : Int, vs = [.int j] ∧ -(2 ^ 62) ≤ j ∧ j < 2 ^ 62 ∧ R (Itr 0 j.toNat) H1
def iRng2 (ta : TA) : TI := fun σ H R => ta σ H fun vs H1 => ∃ i j : Int, vs = [.int i, .int j] ∧ (-(2 ^ 62) ≤ i ∧ i < 2 ^ 62 ∧ -(2 ^ 62) ≤ j ∧ j < 2 ^ 62) ∧ R (Itr i (j - i).toNat) H1
theorem pi_range1 {a : Expr} {ta : TA} {p pos : Pos} (hg : Gl X "range") (hm : X.mg "range" = none) (ha : PA X [a] ta) (hs : starEach [a] X.env = [(false, eval a X.env)] := by rfl) : PI X tg (.Call (.Name "range" p) [a] [] pos) (iRng1 ta) := by
  intro pins s σ H R I h
  refine Call_ (ld_blt I hg hm boot_range (PyProof.Rows.callWith_type1 (thn (ha pos pins s σ H _ I h) fun us s1 ⟨vs, H1, I1, r1, q1⟩ => ?_) hs rfl))
  obtain ⟨j, e, q1, q2, q⟩ := q1
  subst e
  cases r1 with
  | cons r rr =>
    cases rr
    obtain ⟨t, rfl⟩ := r
    exact call_range_1 (range_it I1 (by omega) (by omega) q1 q2 (by simpa using q))
theorem pi_range2 {a b : Expr} {ta : TA} {p pos : Pos} (hg : Gl X "range") (hm : X.mg "range" = none) (ha : PA X [a, b] ta) (hs : starEach [a, b] X.env = [(false, eval a X.env), (false, eval b X.env)] := by rfl) (hs2 : starEach [b] X.env = [(false, eval b X.env)] := by rfl) :
    PI X tg (.Call (.Name "range" p) [a, b] [] pos) (iRng2 ta) := by
  intro pins s σ H R I h
  refine Call_ (ld_blt I hg hm boot_range (PyProof.Rows.callWith_type1 (thn (ha pos pins s σ H _ I h) fun us s1 ⟨vs, H1, I1, r1, q1⟩ => ?_) (by rw [hs, hs2]) (by rw [hs2]; rfl)))
  obtain ⟨i, j, e, ⟨q1, q2, q3, q4⟩, q⟩ := q1
  subst e
  cases r1 with
  | cons r rr =>
    cases rr with
    | cons r' rr =>
      cases rr
      obtain ⟨t, rfl⟩ := r
      obtain ⟨t', rfl⟩ := r'
      exact call_range_2 (range_it I1 q1 q2 q3 q4 q)

/-! ### for -/
/-- W: the invariant by the turn and a measure; N: what the body is to reach -/
def tFor (wi : TI) (g : TG) (tb : TS) : TS := fun D σ H => wi σ H fun J H1 => ∃ W : Nat → Nat → St → Hp → Prop, (∃ m, W 0 m σ H1) ∧ ∀ i m σ H, W i m σ H →
  (J.stop i H ∧ D.nx σ H) ∨ (J.go i H ∧ ∃ N : St → Hp → Prop, (∀ σ' H', N σ' H' → ∃ m', m' < m ∧ W (i + 1) m' σ' H') ∧ ∀ x H', J.yld i H x H' → g x σ H' fun σ2 H2 => tb { D with nx := N, ct := N, bk := D.nx } σ2 H2)
/-- the records at fp as they stand -/
def pinsAt (fp : List Addr) (h : Heap) : List (Addr × Obj) := fp.filterMap fun b => (h.get? b).map fun o => (b, o)
theorem mem_pinsAt {fp : List Addr} {h : Heap} {b : Addr} {o : Obj} (hb : b ∈ fp) (e : h.get? b = some o) : (b, o) ∈ pinsAt fp h := List.mem_filterMap.mpr ⟨b, hb, by rw [e]; rfl⟩
theorem of_pinsAt {fp : List Addr} {h : Heap} {p : Addr × Obj} (hp : p ∈ pinsAt fp h) : p.1 ∈ fp ∧ h.get? p.1 = some p.2 := by
  obtain ⟨b, hb, e⟩ := List.mem_filterMap.mp hp
  cases q : h.get? b with
  | none => rw [q] at e; cases e
  | some o =>
    rw [q] at e
    have e' : (b, o) = p := Option.some.inj e
    subst e'
    exact ⟨hb, q⟩
theorem Inv.pinned {pins : List (Addr × Obj)} {σ : St} {H : Hp} {s : Shared} {fp : List Addr} (I : Inv X pins σ H s) (hf : ∀ b ∈ fp, FpOk X pins H b) (ho : ∀ b ∈ fp, ∃ o, s.heap.get? b = some o ∧ ∀ v, o.data ≠ .cell v) : Inv X (pins ++ pinsAt fp s.heap) σ H s :=
  I.pins_of fun p hp => (List.mem_append.mp hp).elim (fun z => I.pin p (List.mem_append_right _ z)) fun z => by
    obtain ⟨hb, e⟩ := of_pinsAt z
    obtain ⟨f0, f1, f2, _⟩ := hf p.1 hb
    obtain ⟨o, e', d⟩ := ho p.1 hb
    rw [e] at e'; cases e'
    exact ⟨e, f0, f1, f2, d⟩
theorem Inv.unpinned {pins pl : List (Addr × Obj)} {σ : St} {H : Hp} {s : Shared} (I : Inv X (pins ++ pl) σ H s) : Inv X pins σ H s := I.pins_of fun p hp => I.pin p (List.mem_append_right _ (List.mem_append_left _ hp))
theorem ps_for {iter : Expr} {body : List Stmt} {wi : TI} {g : TG} {tb : TS} {pos : Pos} (hp : PassesOwn (model X.prog X.w) X.A X.env X.xe) (hc : X.calm = true) (hi : PI X tg iter wi) (hg : PG X tg g) (hb : PSs X body tb)
    (hs : ∀ x, foldedSetIterable iter X.env x = pure x := by intro _; rfl) : PS X (.For tg iter body [] pos) (tFor wi g tb) := by
  intro pins s σ H D I h
  refine wpAny_For (thn (hi pins s σ H _ I h) fun v s1 h1 => thn h1 fun itv s2 h2 => ?_) hs
  obtain ⟨it, fp, tn, J, H2, e, I2, T, st2, f2, W, ⟨m0, w0⟩, turn⟩ := h2
  subst e
  -- what stays true of the iterator's objects through the loop
  have stat : ∀ {H' : Hp}, (∀ b ∈ fp, H' b = none) → ∀ b ∈ fp, FpOk X pins H' b := fun hn b hb => ⟨hn b hb, (f2 b hb).2⟩
  refine codeAny_forLoop_any (fun n s' => ∃ i σ' H', Inv X pins σ' H' s' ∧ tn i s'.heap ∧ (∀ b ∈ fp, H' b = none) ∧ W i n σ' H') ?_ m0 ⟨0, σ, H2, I2, st2, fun b hb => (f2 b hb).1, w0⟩
  rintro n s3 ⟨i, σ3, H3, I3, st3, fr3, w3⟩
  rcases turn i n σ3 H3 w3 with ⟨stop, qn⟩ | ⟨go, N, hN, step⟩
  · refine wpAny_passesOwn hp (thn (T.done X rfl rfl rfl hc i pins s3 σ3 H3 X.xe I3 (stat fr3) st3 stop) fun r s4 ⟨hr, I4⟩ => ?_)
    subst hr
    exact wpAny_execs_nil ⟨σ3, H3, I4, qn⟩
  · refine wpAny_passesOwn hp (thn (T.item X rfl rfl rfl hc i pins s3 σ3 H3 X.xe I3 (stat fr3) st3 go) fun r s4 ⟨u, hr, h4⟩ => ?_)
    subst hr
    refine wpAny_passesOwn hp (thn h4 fun _ s5 ⟨x, H5, I5, r5, y5, st5, fr5⟩ => ?_)
    have I5' := I5.pinned (stat fr5) (T.obj _ _ st5)
    refine wpAny_passesOwn hp (thn (hg _ s5 σ3 H5 x u _ I5' r5 (step x H5 y5)) fun _ s6 ⟨σ6, H6, I6, q6⟩ => ?_)
    refine wpAny_passesOwn hp (thn (hb _ s6 σ6 H6 _ I6 q6) fun f s7 q7 => ?_)
    have again : ∀ {σ7 : St} {H7 : Hp}, Inv X (pins ++ pinsAt fp s5.heap) σ7 H7 s7 → N σ7 H7 → ∃ m, m < n ∧ ∃ i σ' H', Inv X pins σ' H' s7 ∧ tn i s7.heap ∧ (∀ b ∈ fp, H' b = none) ∧ W i m σ' H' := fun {σ7 H7} I7 n7 => by
      obtain ⟨m', hm, w7⟩ := hN σ7 H7 n7
      refine ⟨m', hm, i + 1, σ7, H7, I7.unpinned, T.keep _ _ _ st5 fun b hb o e => (I7.pin (b, o) (List.mem_append_right _ (List.mem_append_right _ (mem_pinsAt hb e)))).1, fun b hb => ?_, w7⟩
      obtain ⟨o, e, d⟩ := T.obj _ _ st5 b hb
      exact (I7.pin (b, o) (List.mem_append_right _ (List.mem_append_right _ (mem_pinsAt hb e)))).2.1
    cases f with
    | next => obtain ⟨σ7, H7, I7, n7⟩ := q7; exact again I7 n7
    | cont => obtain ⟨σ7, H7, I7, n7⟩ := q7; exact again I7 n7
    | brk => obtain ⟨σ7, H7, I7, q7⟩ := q7; exact ⟨σ7, H7, I7.unpinned, q7⟩
    | ret v => obtain ⟨x7, σ7, H7, I7, r7, q7⟩ := q7; exact ⟨x7, σ7, H7, I7.unpinned, r7, q7⟩
end

/-! ### the forms one uses -/
/-- over a list that the body leaves as it is -/
theorem for_list {K : PySem.W.Frag} {a : Addr} {xs : List V} {g : TG} {tb : TS} {D : Ends} {σ : St} {H : Hp} (Pv : Nat → St → Hp → Prop) (h0 : Pv 0 σ H) (hl : ∀ i σ H, i ≤ xs.length → Pv i σ H → SqL K H a xs)
    (hs : ∀ i x σ H, xs[i]? = some x → Pv i σ H → g x σ H fun σ2 H2 => tb { D with nx := Pv (i + 1), ct := Pv (i + 1), bk := D.nx } σ2 H2) (hd : ∀ σ H, Pv xs.length σ H → D.nx σ H) :
    ∃ W : Nat → Nat → St → Hp → Prop, (∃ m, W 0 m σ H) ∧ ∀ i m σ H, W i m σ H →
      ((Itl K a).stop i H ∧ D.nx σ H) ∨ ((Itl K a).go i H ∧ ∃ N : St → Hp → Prop, (∀ σ' H', N σ' H' → ∃ m', m' < m ∧ W (i + 1) m' σ' H') ∧ ∀ x H', (Itl K a).yld i H x H' → g x σ H' fun σ2 H2 => tb { D with nx := N, ct := N, bk := D.nx } σ2 H2) := by
  refine ⟨fun i m σ H => m = xs.length - i ∧ i ≤ xs.length ∧ Pv i σ H, ⟨xs.length, by simp, Nat.zero_le _, h0⟩, ?_⟩
  rintro i m σ H ⟨rfl, hi, p⟩
  have q := hl i σ H hi p
  by_cases hlt : i < xs.length
  · refine .inr ⟨⟨xs, xs[i], q, by simp [hlt]⟩, Pv (i + 1), fun σ' H' p' => ⟨xs.length - (i + 1), by omega, rfl, hlt, p'⟩, fun x H' y => ?_⟩
    obtain ⟨e, y⟩ := y
    subst e
    exact hs i x σ _ (y xs q) p
  · have e : i = xs.length := by omega
    subst e
    exact .inl ⟨⟨xs, q, Nat.le_refl _⟩, hd σ H p⟩
theorem for_tup {K : PySem.W.Frag} {a : Addr} {xs : List V} {g : TG} {tb : TS} {D : Ends} {σ : St} {H : Hp} (Pv : Nat → St → Hp → Prop) (h0 : Pv 0 σ H) (hl : ∀ i σ H, i ≤ xs.length → Pv i σ H → SqT K H a xs)
    (hs : ∀ i x σ H, xs[i]? = some x → Pv i σ H → g x σ H fun σ2 H2 => tb { D with nx := Pv (i + 1), ct := Pv (i + 1), bk := D.nx } σ2 H2) (hd : ∀ σ H, Pv xs.length σ H → D.nx σ H) :
    ∃ W : Nat → Nat → St → Hp → Prop, (∃ m, W 0 m σ H) ∧ ∀ i m σ H, W i m σ H →
      ((Itt K a).stop i H ∧ D.nx σ H) ∨ ((Itt K a).go i H ∧ ∃ N : St → Hp → Prop, (∀ σ' H', N σ' H' → ∃ m', m' < m ∧ W (i + 1) m' σ' H') ∧ ∀ x H', (Itt K a).yld i H x H' → g x σ H' fun σ2 H2 => tb { D with nx := N, ct := N, bk := D.nx } σ2 H2) := by
  refine ⟨fun i m σ H => m = xs.length - i ∧ i ≤ xs.length ∧ Pv i σ H, ⟨xs.length, by simp, Nat.zero_le _, h0⟩, ?_⟩
  rintro i m σ H ⟨rfl, hi, p⟩
  have q := hl i σ H hi p
  by_cases hlt : i < xs.length
  · refine .inr ⟨⟨xs, xs[i], q, by simp [hlt]⟩, Pv (i + 1), fun σ' H' p' => ⟨xs.length - (i + 1), by omega, rfl, hlt, p'⟩, fun x H' y => ?_⟩
    obtain ⟨e, y⟩ := y
    subst e
    exact hs i x σ _ (y xs q) p
  · have e : i = xs.length := by omega
    subst e
    exact .inl ⟨⟨xs, q, Nat.le_refl _⟩, hd σ H p⟩
theorem for_range {lo : Int} {n : Nat} {g : TG} {tb : TS} {D : Ends} {σ : St} {H : Hp} (Pv : Nat → St → Hp → Prop) (h0 : Pv 0 σ H)
    (hs : ∀ i σ H, i < n → Pv i σ H → g (.int (lo + i)) σ H fun σ2 H2 => tb { D with nx := Pv (i + 1), ct := Pv (i + 1), bk := D.nx } σ2 H2) (hd : ∀ σ H, Pv n σ H → D.nx σ H) :
    ∃ W : Nat → Nat → St → Hp → Prop, (∃ m, W 0 m σ H) ∧ ∀ i m σ H, W i m σ H →
      ((Itr lo n).stop i H ∧ D.nx σ H) ∨ ((Itr lo n).go i H ∧ ∃ N : St → Hp → Prop, (∀ σ' H', N σ' H' → ∃ m', m' < m ∧ W (i + 1) m' σ' H') ∧ ∀ x H', (Itr lo n).yld i H x H' → g x σ H' fun σ2 H2 => tb { D with nx := N, ct := N, bk := D.nx } σ2 H2) := by
  refine ⟨fun i m σ H => m = n - i ∧ i ≤ n ∧ Pv i σ H, ⟨n, by simp, Nat.zero_le _, h0⟩, ?_⟩
  rintro i m σ H ⟨rfl, hi, p⟩
  by_cases hlt : i < n
  · refine .inr ⟨hlt, Pv (i + 1), fun σ' H' p' => ⟨n - (i + 1), by omega, rfl, hlt, p'⟩, fun x H' y => ?_⟩
    obtain ⟨e, y⟩ := y
    subst e y
    exact hs i σ _ hlt p
  · have e : i = n := by omega
    subst e
    exact .inl ⟨Nat.le_refl _, hd σ H p⟩
/-- while, by a word and a measure of the state -/
theorem while_by {c : TT} {tb : TS} {D : Ends} {σ : St} {H : Hp} (Pv : St → Hp → Prop) (μ : St → Hp → Nat) (h0 : Pv σ H)
    (hs : ∀ σ H, Pv σ H → c σ H fun b H1 => if b = true then tb { D with nx := fun σ' H' => Pv σ' H' ∧ μ σ' H' < μ σ H, ct := fun σ' H' => Pv σ' H' ∧ μ σ' H' < μ σ H, bk := D.nx } σ H1 else D.nx σ H1)
    (mono : ∀ σ H Q Q', (∀ b H1, Q b H1 → Q' b H1) → c σ H Q → c σ H Q') : tWhile c tb D σ H := by
  refine ⟨fun m σ H => m = μ σ H ∧ Pv σ H, ⟨_, rfl, h0⟩, ?_⟩
  rintro m σ H ⟨rfl, p⟩
  refine mono σ H _ _ (fun b H1 q => ?_) (hs σ H p)
  cases b with
  | true => exact ⟨_, fun σ' H' ⟨p', l⟩ => ⟨_, l, rfl, p'⟩, q⟩
  | false => exact q
end L2

namespace L2
open PySem PySem.Spec PyProof.Rows

abbrev R2 := V → V → Hp → VK → Prop
/-- a two-place operation on values: f is binaryOp op, inplaceOp op or compareOp op -/
def OpR (X : Cx) (f : Value → Value → Sem Value) (r : R2) : Prop :=
  ∀ (pins : List (Addr × Obj)) (s : Shared) (σ : St) (H : Hp) (x y : V) (v u : Value) (Q : VK), Inv X pins σ H s → RelV x v → RelV y u → r x y H Q →
    wpAny (model X.prog X.w) X.A (f v u) (EP X pins σ Q) X.xe s
/-- a one-place operation -/
def UnR (X : Cx) (f : Value → Sem Value) (r : V → Hp → VK → Prop) : Prop :=
  ∀ (pins : List (Addr × Obj)) (s : Shared) (σ : St) (H : Hp) (x : V) (v : Value) (Q : VK), Inv X pins σ H s → RelV x v → r x H Q →
    wpAny (model X.prog X.w) X.A (f v) (EP X pins σ Q) X.xe s
/-- a call of a value that is known (a builtin, a type) with values -/
def CallR (X : Cx) (f : Value) (r : List V → Hp → VK → Prop) : Prop :=
  ∀ (pins : List (Addr × Obj)) (s : Shared) (σ : St) (H : Hp) (xs : List V) (us : List Value) (Q : VK), Inv X pins σ H s → Vals xs us → r xs H Q →
    wpAny (model X.prog X.w) X.A (call f us) (EP X pins σ Q) X.xe s
/-- a value's truth -/
def TruR (X : Cx) (r : V → Hp → (Bool → Hp → Prop) → Prop) : Prop :=
  ∀ (pins : List (Addr × Obj)) (s : Shared) (σ : St) (H : Hp) (x : V) (v : Value) (Q : Bool → Hp → Prop), Inv X pins σ H s → RelV x v → r x H Q →
    wpAny (model X.prog X.w) X.A (truthy v) (TP X pins σ Q) X.xe s

def tOp (r : R2) (ta tb : TE) : TE := fun σ H Q => ta σ H fun x H1 => tb σ H1 fun y H2 => r x y H2 Q
def tUn (r : V → Hp → VK → Prop) (ta : TE) : TE := fun σ H Q => ta σ H fun x H1 => r x H1 Q
/-- ints in, under C, and a value out -/
def rI (C : Int → Int → Prop) (g : Int → Int → V) : R2 := fun x y H Q => ∃ i j, x = .int i ∧ y = .int j ∧ C i j ∧ Q (g i j) H
def rI0 (g : Int → Int → V) : R2 := fun x y H Q => ∃ i j, x = .int i ∧ y = .int j ∧ Q (g i j) H
def rU (g : Int → V) : V → Hp → VK → Prop := fun x H Q => ∃ i, x = .int i ∧ Q (g i) H

section
variable {X : Cx} {a b c : Expr} {ta tb tc : TE} {pos : Pos}

theorem binT (ha : PE X a ta) (hb : PE X b tb) {pins : List (Addr × Obj)} {s : Shared} {σ : St} {H : Hp} {R : V → V → Hp → Prop} (I : Inv X pins σ H s)
    (h : ta σ H fun x H1 => tb σ H1 fun y H2 => R x y H2) {Q : Value → Shared → Prop} {f : Value → Value → Sem Value}
    (hf : ∀ v u s2 x y H2, Inv X pins σ H2 s2 → RelV x v → RelV y u → R x y H2 → wpAny (model X.prog X.w) X.A (f v u) Q X.xe s2) :
    wpAny (model X.prog X.w) X.A (eval a X.env) (fun v s₁ => wpAny (model X.prog X.w) X.A (eval b X.env) (fun u s₂ => wpAny (model X.prog X.w) X.A (f v u) Q X.xe s₂) X.xe s₁) X.xe s := by
  refine thn (ha pins s σ H _ I h) fun v s1 ⟨x, H1, I1, r1, q1⟩ => ?_
  refine thn (hb pins s1 σ H1 _ I1 q1) fun u s2 ⟨y, H2, I2, r2, q2⟩ => ?_
  exact hf v u s2 x y H2 I2 r1 r2 q2

theorem pe_op {op : Operator} {r : R2} (ho : OpR X (binaryOp op) r) (ha : PE X a ta) (hb : PE X b tb) : PE X (.BinOp a op b pos) (tOp r ta tb) := by
  intro pins s σ H Q I h
  exact wpAny_BinOp (binT ha hb I h fun v u s2 x y H2 I2 rx ry q => ho pins s2 σ H2 x y v u Q I2 rx ry q)
theorem pe_un {op : UnaryOp} {r : V → Hp → VK → Prop} (ho : UnR X (unaryOp op) r) (ha : PE X a ta) : PE X (.UnaryOp op a pos) (tUn r ta) := by
  intro pins s σ H Q I h
  exact UnaryOp_ (thn (ha pins s σ H _ I h) fun v s1 ⟨x, H1, I1, r1, q1⟩ => ho pins s1 σ H1 x v Q I1 r1 q1)
/-- a op= e at a name: the name's slot i -/
theorem augR {op : Operator} {r : R2} (ho : OpR X (inplaceOp op) r) {pins : List (Addr × Obj)} {s : Shared} {σ : St} {H : Hp} {x y : V} {v u : Value} {Q : VK} (I : Inv X pins σ H s)
    (rx : RelV x v) (ry : RelV y u) (q : r x y H Q) : wpAny (model X.prog X.w) X.A (inplaceOp op v u) (EP X pins σ Q) X.xe s := ho pins s σ H x y v u Q I rx ry q

/-! ### ints -/
theorem opI {f : Value → Value → Sem Value} {C : Int → Int → Prop} {g : Int → Int → Int}
    (rule : ∀ (i j : Int) (t u : Tok) (s : Shared) (Q : Value → Shared → Prop) (E : Value → Shared → Prop), C i j → Q (.int (g i j) s.toks) { s with toks := s.toks + 1 } → wpAny (model X.prog X.w) X.A (f (.int i t) (.int j u)) Q E s) :
    OpR X f (rI C fun i j => .int (g i j)) := by
  intro pins s σ H x y v u Q I rx ry h
  obtain ⟨i, j, rfl, rfl, hc, q⟩ := h
  obtain ⟨t, rfl⟩ := rx
  obtain ⟨t', rfl⟩ := ry
  exact rule i j t t' s _ _ hc ⟨.int (g i j), H, I.tok _, ⟨_, rfl⟩, q⟩
theorem opI0 {f : Value → Value → Sem Value} {g : Int → Int → Int}
    (rule : ∀ (i j : Int) (t u : Tok) (s : Shared) (Q : Value → Shared → Prop) (E : Value → Shared → Prop), Q (.int (g i j) s.toks) { s with toks := s.toks + 1 } → wpAny (model X.prog X.w) X.A (f (.int i t) (.int j u)) Q E s) :
    OpR X f (rI0 fun i j => .int (g i j)) := by
  intro pins s σ H x y v u Q I rx ry h
  obtain ⟨i, j, rfl, rfl, q⟩ := h
  obtain ⟨t, rfl⟩ := rx
  obtain ⟨t', rfl⟩ := ry
  exact rule i j t t' s _ _ ⟨.int (g i j), H, I.tok _, ⟨_, rfl⟩, q⟩
theorem opB0 {f : Value → Value → Sem Value} {g : Int → Int → Bool}
    (rule : ∀ (i j : Int) (t u : Tok) (s : Shared) (Q : Value → Shared → Prop) (E : Value → Shared → Prop), Q (.bool (g i j)) s → wpAny (model X.prog X.w) X.A (f (.int i t) (.int j u)) Q E s) :
    OpR X f (rI0 fun i j => .bl (g i j)) := by
  intro pins s σ H x y v u Q I rx ry h
  obtain ⟨i, j, rfl, rfl, q⟩ := h
  obtain ⟨t, rfl⟩ := rx
  obtain ⟨t', rfl⟩ := ry
  exact rule i j t t' s _ _ ⟨.bl (g i j), H, I, rfl, q⟩

def CDiv (i j : Int) : Prop := 0 < j ∧ j < 1073741824
def CDivN (i j : Int) : Prop := j ≠ 0 ∧ j.natAbs < 1073741824
def CPow (i j : Int) : Prop := 0 ≤ j ∧ j ≤ 1000000 ∧ i.natAbs < 2 ^ 64
def CMul (i j : Int) : Prop := (-(2 ^ 64) < i ∧ i < 2 ^ 64) ∨ (-(2 ^ 64) < j ∧ j < 2 ^ 64)
theorem CMul.ok {i j : Int} (h : CMul i j) : IntMulOk i j := by
  rcases h with ⟨h1, h2⟩ | ⟨h1, h2⟩
  · exact .of_left (intBits_le_64 h1 h2)
  · exact .of_right (intBits_le_64 h1 h2)
theorem two_pow_nn (k : Nat) : (0 : Int) ≤ 2 ^ k := by
  rw [two_pow_cast]
  exact Int.natCast_nonneg _

theorem op_add : OpR X (binaryOp .Add) (rI0 fun i j => .int (i + j)) := opI0 fun _ _ _ _ _ _ _ q => add_int q
theorem op_sub : OpR X (binaryOp .Sub) (rI0 fun i j => .int (i - j)) := opI0 fun _ _ _ _ _ _ _ q => sub_int q
theorem op_mul : OpR X (binaryOp .Mult) (rI CMul fun i j => .int (i * j)) := opI fun _ _ _ _ _ _ _ hc q => mul_int q hc.ok
/-- // by a positive divisor -/
theorem op_fdiv : OpR X (binaryOp .FloorDiv) (rI CDiv fun i j => .int (i / j)) := opI fun i j _ _ _ _ _ hc q => by
  have h1 : (0 : Int) < j := hc.1
  have h2 : j < 1073741824 := hc.2
  exact floordiv_int (by omega) (by rw [Int.fdiv_eq_ediv_of_nonneg i (by omega)]; exact q) (.inl (PyProof.noPylong_small (by omega)))
theorem op_fdivN : OpR X (binaryOp .FloorDiv) (rI CDivN fun i j => .int (i.fdiv j)) := opI fun _ _ _ _ _ _ _ hc q => floordiv_int hc.1 q (.inl (PyProof.noPylong_small hc.2))
/-- % by a positive divisor of any size -/
theorem op_mod : OpR X (binaryOp .Mod) (rI (fun _ j => 0 < j) fun i j => .int (i % j)) := opI fun i j _ _ _ _ _ hc q => by
  have h1 : (0 : Int) < j := hc
  exact mod_int' (by omega) (by rw [Int.fmod_eq_emod_of_nonneg i (by omega)]; exact q)
theorem op_modN : OpR X (binaryOp .Mod) (rI (fun _ j => j ≠ 0) fun i j => .int (i.fmod j)) := opI fun _ _ _ _ _ _ _ hc q => mod_int' hc q
theorem op_pow : OpR X (binaryOp .Pow) (rI CPow fun i j => .int (i ^ j.toNat)) := opI fun _ _ _ _ _ _ _ hc q => pow_int_small hc.1 hc.2.1 hc.2.2 q
theorem op_shl : OpR X (binaryOp .LShift) (rI CPow fun i j => .int (i * 2 ^ j.toNat)) := opI fun _ _ _ _ _ _ _ hc q => lshift_int_small hc.1 hc.2.1 hc.2.2 q
theorem op_shr : OpR X (binaryOp .RShift) (rI (fun _ j => 0 ≤ j) fun i j => .int (i / 2 ^ j.toNat)) := opI fun i j _ _ _ _ _ hc q =>
  rshift_int hc (by rw [Int.fdiv_eq_ediv_of_nonneg i (two_pow_nn _)]; exact q)
theorem op_and : OpR X (binaryOp .BitAnd) (rI0 fun i j => .int (Builtin.bitAnd i j)) := opI0 fun _ _ _ _ _ _ _ q => and_int q
theorem op_or : OpR X (binaryOp .BitOr) (rI0 fun i j => .int (Builtin.bitOr i j)) := opI0 fun _ _ _ _ _ _ _ q => or_int q
theorem op_xor : OpR X (binaryOp .BitXor) (rI0 fun i j => .int (Builtin.bitXor i j)) := opI0 fun _ _ _ _ _ _ _ q => xor_int q

theorem iop_add : OpR X (inplaceOp .Add) (rI0 fun i j => .int (i + j)) := opI0 fun _ _ _ _ _ _ _ q => iadd_int q
theorem iop_sub : OpR X (inplaceOp .Sub) (rI0 fun i j => .int (i - j)) := opI0 fun _ _ _ _ _ _ _ q => isub_int q
theorem iop_mul : OpR X (inplaceOp .Mult) (rI CMul fun i j => .int (i * j)) := opI fun _ _ _ _ _ _ _ hc q => imul_int q hc.ok
theorem iop_fdiv : OpR X (inplaceOp .FloorDiv) (rI CDiv fun i j => .int (i / j)) := opI fun i j _ _ _ _ _ hc q => by
  have h1 : (0 : Int) < j := hc.1
  have h2 : j < 1073741824 := hc.2
  exact ifloordiv_int (by omega) (by rw [Int.fdiv_eq_ediv_of_nonneg i (by omega)]; exact q) (.inl (PyProof.noPylong_small (by omega)))
theorem iop_mod : OpR X (inplaceOp .Mod) (rI (fun _ j => 0 < j) fun i j => .int (i % j)) := opI fun i j _ _ _ _ _ hc q => by
  have h1 : (0 : Int) < j := hc
  exact imod_int (by omega) (by rw [Int.fmod_eq_emod_of_nonneg i (by omega)]; exact q)
theorem iop_shl : OpR X (inplaceOp .LShift) (rI CPow fun i j => .int (i * 2 ^ j.toNat)) := opI fun _ _ _ _ _ _ _ hc q => ilshift_int_small hc.1 hc.2.1 hc.2.2 q
theorem iop_shr : OpR X (inplaceOp .RShift) (rI (fun _ j => 0 ≤ j) fun i j => .int (i / 2 ^ j.toNat)) := opI fun i j _ _ _ _ _ hc q =>
  irshift_int hc (by rw [Int.fdiv_eq_ediv_of_nonneg i (two_pow_nn _)]; exact q)
theorem iop_and : OpR X (inplaceOp .BitAnd) (rI0 fun i j => .int (Builtin.bitAnd i j)) := opI0 fun _ _ _ _ _ _ _ q => iand_int q
theorem iop_or : OpR X (inplaceOp .BitOr) (rI0 fun i j => .int (Builtin.bitOr i j)) := opI0 fun _ _ _ _ _ _ _ q => ior_int q
theorem iop_xor : OpR X (inplaceOp .BitXor) (rI0 fun i j => .int (Builtin.bitXor i j)) := opI0 fun _ _ _ _ _ _ _ q => ixor_int q

theorem unI {f : Value → Sem Value} {g : Int → Int}
    (rule : ∀ (i : Int) (t : Tok) (s : Shared) (Q : Value → Shared → Prop) (E : Value → Shared → Prop), Q (.int (g i) s.toks) { s with toks := s.toks + 1 } → wpAny (model X.prog X.w) X.A (f (.int i t)) Q E s) :
    UnR X f (rU fun i => .int (g i)) := by
  intro pins s σ H x v Q I rx h
  obtain ⟨i, rfl, q⟩ := h
  obtain ⟨t, rfl⟩ := rx
  exact rule i t s _ _ ⟨.int (g i), H, I.tok _, ⟨_, rfl⟩, q⟩
theorem un_neg : UnR X (unaryOp .USub) (rU fun i => .int (-i)) := unI fun _ _ _ _ _ q => neg_int q
theorem un_inv : UnR X (unaryOp .Invert) (rU fun i => .int (Builtin.bitNot i)) := unI fun _ _ _ _ _ q => invert_int q

/-! ### bools among ints: n += (a < b) -/
theorem op_add_ib : OpR X (binaryOp .Add) (fun x y H Q => ∃ i k, x = .int i ∧ y = .bl k ∧ Q (.int (i + b2i k)) H) := by
  intro pins s σ H x y v u Q I rx ry h
  obtain ⟨i, k, rfl, rfl, q⟩ := h
  obtain ⟨t, rfl⟩ := rx
  cases ry
  exact add_int_bool ⟨.int (i + b2i k), H, I.tok _, ⟨_, rfl⟩, q⟩
end

/-! ### comparisons -/
/-- the scalars that == tells apart as data does -/
def scal : V → V → Bool
  | .non, .non => true | .non, .int _ => true | .int _, .non => true | .non, .bl _ => true | .bl _, .non => true | .non, .str _ => true | .str _, .non => true
  | .int _, .int _ => true | .bl _, .bl _ => true | .str _, .str _ => true | .byt _, .byt _ => true
  | .int _, .str _ => true | .str _, .int _ => true | .bl _, .str _ => true | .str _, .bl _ => true
  | _, _ => false
def rEq : R2 := fun x y H Q => scal x y = true ∧ Q (.bl (decide (x = y))) H
def rNe : R2 := fun x y H Q => scal x y = true ∧ Q (.bl (!decide (x = y))) H

theorem dec_int {i j : Int} : decide (V.int i = V.int j) = (i == j) := by
  rw [Bool.eq_iff_iff]
  simp
theorem dec_bl {i j : Bool} : decide (V.bl i = V.bl j) = (i == j) := by
  rw [Bool.eq_iff_iff]
  simp
theorem dec_str {i j : Str} : decide (V.str i = V.str j) = (i == j) := by
  rw [Bool.eq_iff_iff]
  simp
theorem dec_byt {i j : Array UInt8} : decide (V.byt i = V.byt j) = (i.toList == j.toList) := by
  rw [Bool.eq_iff_iff]
  cases i
  cases j
  simp

section
variable {X : Cx} {a b c : Expr} {ta tb tc : TE} {pos : Pos}
theorem fin_bl {pins : List (Addr × Obj)} {σ : St} {H : Hp} {s : Shared} {Q : VK} {k k' : Bool} (I : Inv X pins σ H s) (q : Q (.bl k) H) (e : k = k') : EP X pins σ Q (.bool k') s := by
  subst e
  exact ⟨.bl k, H, I, rfl, q⟩
theorem op_eq : OpR X (compareOp .Eq) rEq := by
  intro pins s σ H x y v u Q I rx ry h
  obtain ⟨hs, q⟩ := h
  cases x with
  | non =>
    cases rx
    cases y with
    | non => cases ry; exact PySem.EqNone.eq_none_none (fin_bl I q (by simp))
    | bl j => cases ry; exact PySem.EqNone.eq_none_bool (fin_bl I q (by simp))
    | int j => obtain ⟨t', rfl⟩ := ry; exact PySem.EqNone.eq_none_int (fin_bl I q (by simp))
    | str j => obtain ⟨t', rfl⟩ := ry; exact PySem.EqNone.eq_none_str (fin_bl I q (by simp))
    | _ => exact absurd (show false = true from hs) Bool.false_ne_true
  | bl i =>
    cases rx
    cases y with
    | non => cases ry; exact PySem.EqNone.eq_bool_none (fin_bl I q (by simp))
    | bl j => cases ry; exact eq_bool (fin_bl I q dec_bl)
    | str j => obtain ⟨t', rfl⟩ := ry; exact PySem.EqMixed.eq_bool_str (fin_bl I q (by simp))
    | _ => exact absurd (show false = true from hs) Bool.false_ne_true
  | int i =>
    obtain ⟨t, rfl⟩ := rx
    cases y with
    | non => cases ry; exact PySem.EqNone.eq_int_none (fin_bl I q (by simp))
    | int j => obtain ⟨t', rfl⟩ := ry; exact eq_int (fin_bl I q dec_int)
    | str j => obtain ⟨t', rfl⟩ := ry; exact PySem.EqMixed.eq_int_str (fin_bl I q (by simp))
    | _ => exact absurd (show false = true from hs) Bool.false_ne_true
  | str i =>
    obtain ⟨t, rfl⟩ := rx
    cases y with
    | non => cases ry; exact PySem.EqNone.eq_str_none (fin_bl I q (by simp))
    | bl j => cases ry; exact PySem.EqMixed.eq_str_bool (fin_bl I q (by simp))
    | int j => obtain ⟨t', rfl⟩ := ry; exact PySem.EqMixed.eq_str_int (fin_bl I q (by simp))
    | str j => obtain ⟨t', rfl⟩ := ry; exact eq_str (fin_bl I q dec_str)
    | _ => exact absurd (show false = true from hs) Bool.false_ne_true
  | byt i =>
    obtain ⟨t, rfl⟩ := rx
    cases y with
    | byt j => obtain ⟨t', rfl⟩ := ry; exact PySem.W.eq_bytes (fin_bl I q dec_byt)
    | _ => exact absurd (show false = true from hs) Bool.false_ne_true
  | _ => cases y <;> exact absurd (show false = true from hs) Bool.false_ne_true
theorem op_ne : OpR X (compareOp .NotEq) rNe := by
  intro pins s σ H x y v u Q I rx ry h
  obtain ⟨hs, q⟩ := h
  cases x with
  | non =>
    cases rx
    cases y with
    | non => cases ry; exact PySem.EqNone.ne_none_none (fin_bl I q (by simp))
    | bl j => cases ry; exact PySem.EqNone.ne_none_bool (fin_bl I q (by simp))
    | int j => obtain ⟨t', rfl⟩ := ry; exact PySem.EqNone.ne_none_int (fin_bl I q (by simp))
    | str j => obtain ⟨t', rfl⟩ := ry; exact PySem.EqNone.ne_none_str (fin_bl I q (by simp))
    | _ => exact absurd (show false = true from hs) Bool.false_ne_true
  | bl i =>
    cases rx
    cases y with
    | non => cases ry; exact PySem.EqNone.ne_bool_none (fin_bl I q (by simp))
    | bl j => cases ry; exact ne_bool (fin_bl I q (congrArg not dec_bl))
    | str j => obtain ⟨t', rfl⟩ := ry; exact PySem.EqMixed.ne_bool_str (fin_bl I q (by simp))
    | _ => exact absurd (show false = true from hs) Bool.false_ne_true
  | int i =>
    obtain ⟨t, rfl⟩ := rx
    cases y with
    | non => cases ry; exact PySem.EqNone.ne_int_none (fin_bl I q (by simp))
    | int j => obtain ⟨t', rfl⟩ := ry; exact ne_int (fin_bl I q (congrArg not dec_int))
    | str j => obtain ⟨t', rfl⟩ := ry; exact PySem.EqMixed.ne_int_str (fin_bl I q (by simp))
    | _ => exact absurd (show false = true from hs) Bool.false_ne_true
  | str i =>
    obtain ⟨t, rfl⟩ := rx
    cases y with
    | non => cases ry; exact PySem.EqNone.ne_str_none (fin_bl I q (by simp))
    | bl j => cases ry; exact PySem.EqMixed.ne_str_bool (fin_bl I q (by simp))
    | int j => obtain ⟨t', rfl⟩ := ry; exact PySem.EqMixed.ne_str_int (fin_bl I q (by simp))
    | str j => obtain ⟨t', rfl⟩ := ry; exact ne_str (fin_bl I q (congrArg not dec_str))
    | _ => exact absurd (show false = true from hs) Bool.false_ne_true
  | byt i =>
    obtain ⟨t, rfl⟩ := rx
    cases y with
    | byt j => obtain ⟨t', rfl⟩ := ry; exact PySem.W.ne_bytes (fin_bl I q (congrArg not dec_byt))
    | _ => exact absurd (show false = true from hs) Bool.false_ne_true
  | _ => cases y <;> exact absurd (show false = true from hs) Bool.false_ne_true

theorem op_lt : OpR X (compareOp .Lt) (rI0 fun i j => .bl (decide (i < j))) := opB0 fun _ _ _ _ _ _ _ q => lt_int q
theorem op_le : OpR X (compareOp .LtE) (rI0 fun i j => .bl (decide (i ≤ j))) := opB0 fun _ _ _ _ _ _ _ q => le_int q
theorem op_gt : OpR X (compareOp .Gt) (rI0 fun i j => .bl (decide (j < i))) := opB0 fun _ _ _ _ _ _ _ q => gt_int q
theorem op_ge : OpR X (compareOp .GtE) (rI0 fun i j => .bl (decide (j ≤ i))) := opB0 fun _ _ _ _ _ _ _ q => ge_int q
theorem op_lt_str : OpR X (compareOp .Lt) (fun x y H Q => ∃ i j, x = .str i ∧ y = .str j ∧ Q (.bl (decide (i.cps.toList < j.cps.toList))) H) := by
  intro pins s σ H x y v u Q I rx ry h
  obtain ⟨i, j, rfl, rfl, q⟩ := h
  obtain ⟨t, rfl⟩ := rx
  obtain ⟨t', rfl⟩ := ry
  exact lt_str (fin_bl I q rfl)
/-- the one string within the other -/
theorem op_in_str : OpR X (compareOp .In) (fun x y H Q => ∃ i j, x = .str i ∧ y = .str j ∧ Q (.bl (!(Builtin.Str.occurrences j i 0 j.length 1).isEmpty)) H) := by
  intro pins s σ H x y v u Q I rx ry h
  obtain ⟨i, j, rfl, rfl, q⟩ := h
  obtain ⟨t, rfl⟩ := rx
  obtain ⟨t', rfl⟩ := ry
  exact in_str (fin_bl I q rfl)

/-- is None, is not None: the right side a value none -/
theorem op_isN : OpR X (compareOp .Is) (fun x y H Q => y = .non ∧ Q (.bl (decide (x = .non))) H) := by
  intro pins s σ H x y v u Q I rx ry h
  obtain ⟨rfl, q⟩ := h
  cases ry
  refine is_none_gen (fin_bl I q ?_)
  cases x <;> first
    | (cases rx; rfl)
    | (obtain ⟨t, rfl⟩ := rx; rfl)
theorem op_notN : OpR X (compareOp .IsNot) (fun x y H Q => y = .non ∧ Q (.bl (!decide (x = .non))) H) := by
  intro pins s σ H x y v u Q I rx ry h
  obtain ⟨rfl, q⟩ := h
  cases ry
  refine isnot_none_gen (fin_bl I q ?_)
  cases x <;> first
    | (cases rx; rfl)
    | (obtain ⟨t, rfl⟩ := rx; rfl)

theorem op_notin_str : OpR X (compareOp .NotIn) (fun x y H Q => ∃ i j, x = .str i ∧ y = .str j ∧ Q (.bl (!(!(Builtin.Str.occurrences j i 0 j.length 1).isEmpty))) H) := by
  intro pins s σ H x y v u Q I rx ry h
  obtain ⟨i, j, rfl, rfl, q⟩ := h
  obtain ⟨t, rfl⟩ := rx
  obtain ⟨t', rfl⟩ := ry
  exact notIn_str (fin_bl I q rfl)
/-- is, is not of two objects that are tracked lists or instances -/
def isObj : HO → Bool
  | .lst _ => true
  | .ins _ _ _ => true
  | _ => false
theorem obj_there {pins : List (Addr × Obj)} {s : Shared} {σ : St} {H : Hp} {a : Addr} {o : HO} (I : Inv X pins σ H s) (h : H a = some o) (p : isObj o = true) : ∃ ob, s.heap.get? a = some ob ∧ ob.cls ≠ .type "tuple" := by
  cases o with
  | lst xs =>
    obtain ⟨_, its, n, _, e⟩ : xs.length ≤ sizeLine ∧ ∃ (its : List Value) (n : Nat), Vals xs its ∧ s.heap.get? a = some { cls := .type "list", data := .seq its.toArray n } := I.hok a _ h
    exact ⟨_, e, (by show Value.type "list" ≠ .type "tuple"; decide +kernel)⟩
  | ins C dx fs =>
    have x := I.hok a _ h
    obtain ⟨_, _, _, e, _⟩ := x
    exact ⟨_, e, (by show Value.ref C ≠ .type "tuple"; exact fun z => by cases z)⟩
  | _ => exact absurd (show false = true from p) Bool.false_ne_true
theorem op_is_ref : OpR X (compareOp .Is) (fun x y H Q => ∃ a b oa ob, x = .ref a ∧ y = .ref b ∧ H a = some oa ∧ isObj oa = true ∧ H b = some ob ∧ isObj ob = true ∧ Q (.bl (decide (a = b))) H) := by
  intro pins s σ H x y v u Q I rx ry h
  obtain ⟨a, b, oa, ob, rfl, rfl, ha, pa, hb, pb, q⟩ := h
  cases rx
  cases ry
  obtain ⟨o1, e1, n1⟩ := obj_there I ha pa
  obtain ⟨o2, e2, _⟩ := obj_there I hb pb
  by_cases z : a = b
  · subst z
    exact wpAny_is_ref_self (fin_bl I q (by simp))
  · exact wpAny_is_ref_other z e1 e2 n1 (fin_bl I q (by simp [z]))
theorem op_isnot_ref : OpR X (compareOp .IsNot) (fun x y H Q => ∃ a b oa ob, x = .ref a ∧ y = .ref b ∧ H a = some oa ∧ isObj oa = true ∧ H b = some ob ∧ isObj ob = true ∧ Q (.bl (!decide (a = b))) H) := by
  intro pins s σ H x y v u Q I rx ry h
  obtain ⟨a, b, oa, ob, rfl, rfl, ha, pa, hb, pb, q⟩ := h
  cases rx
  cases ry
  obtain ⟨o1, e1, n1⟩ := obj_there I ha pa
  obtain ⟨o2, e2, _⟩ := obj_there I hb pb
  by_cases z : a = b
  · subst z
    exact wpAny_isNot_ref_self (fin_bl I q (by simp))
  · exact wpAny_isNot_ref_other z e1 e2 n1 (fin_bl I q (by simp [z]))

/-- two rules for one operation: by cases -/
theorem OpR.or {f : Value → Value → Sem Value} {r r' : R2} (h : OpR X f r) (h' : OpR X f r') : OpR X f (fun x y H Q => r x y H Q ∨ r' x y H Q) := by
  intro pins s σ H x y v u Q I rx ry q
  rcases q with q | q
  · exact h pins s σ H x y v u Q I rx ry q
  · exact h' pins s σ H x y v u Q I rx ry q

theorem nomark (b : Expr) {op : CmpOp} (h : op ≠ .In := by decide) (h2 : op ≠ .NotIn := by decide) : behindInMarks op b = false := by
  have e1 : (op == CmpOp.In) = false := by cases op <;> first | rfl | exact absurd rfl h
  have e2 : (op == CmpOp.NotIn) = false := by cases op <;> first | rfl | exact absurd rfl h2
  cases b <;> simp [behindInMarks, e1, e2]
/-- a comparison as a value; hm: nomark b, or (for in, not in) by with_unfolding_all rfl -/
theorem pe_cmpR {op : CmpOp} {r : R2} (ho : OpR X (compareOp op) r) (ha : PE X a ta) (hb : PE X b tb) (hm : behindInMarks op b = false) : PE X (.Compare a [op] [b] pos) (tOp r ta tb) := by
  intro pins s σ H Q I h
  exact wpAny_Compare1 (binT ha hb I h fun v u s2 x y H2 I2 rx ry q => ho pins s2 σ H2 x y v u Q I2 rx ry q) hm
/-- a reading of a value as a test -/
def tTest (t : TE) : TT := fun σ H Q => t σ H fun x H' => ∃ k, x = .bl k ∧ Q k H'
theorem pt_cmpR {op : CmpOp} {r : R2} (ho : OpR X (compareOp op) r) (ha : PE X a ta) (hb : PE X b tb) (hm : behindInMarks op b = false) : PT X (.Compare a [op] [b] pos) (tTest (tOp r ta tb)) := by
  intro pins s σ H Q I h
  refine wpAny_isTrue_Compare1 (thn (ha pins s σ H _ I h) fun v s1 ⟨x, H1, I1, r1, q1⟩ => thn (hb pins s1 σ H1 _ I1 q1) fun u s2 ⟨y, H2, I2, r2, q2⟩ =>
    thn (ho pins s2 σ H2 x y v u _ I2 r1 r2 q2) fun c s3 ⟨z, H3, I3, r3, k, e, q3⟩ => ?_) hm
  subst e
  cases r3
  exact wpAny_truthy_bool ⟨H3, I3, q3⟩
/-- a op1 b op2 c -/
def tChain (r r' : R2) (ta tb tc : TE) : TE := fun σ H Q => ta σ H fun x H1 => tb σ H1 fun y H2 => r x y H2 fun z H3 => ∃ k, z = .bl k ∧
  (if k = true then tc σ H3 fun w' H4 => r' y w' H4 Q else Q (.bl false) H3)
theorem pe_chain {op op' : CmpOp} {r r' : R2} (ho : OpR X (compareOp op) r) (ho' : OpR X (compareOp op') r') (ha : PE X a ta) (hb : PE X b tb) (hc : PE X c tc)
    (hm : lastMarks [op, op'] [b, c] = false := by with_unfolding_all rfl) : PE X (.Compare a [op, op'] [b, c] pos) (tChain r r' ta tb tc) := by
  intro pins s σ H Q I h
  refine Compare_chain (thn (ha pins s σ H _ I h) fun v s1 ⟨x, H1, I1, r1, q1⟩ => chain_link (thn (hb pins s1 σ H1 _ I1 q1) fun u s2 ⟨y, H2, I2, r2, q2⟩ =>
    thn (ho pins s2 σ H2 x y v u _ I2 r1 r2 q2) fun d s3 ⟨z, H3, I3, r3, k, e, q3⟩ => ?_)) hm
  subst e
  cases r3
  refine wpAny_truthy_bool ?_
  cases k with
  | false => exact ite_ff ⟨.bl false, H3, I3, rfl, q3⟩
  | true => exact ite_tt (chain_last (thn (hc pins s3 σ H3 _ I3 q3) fun w' s4 ⟨z', H4, I4, r4, q4⟩ => ho' pins s4 σ H4 y z' u w' Q I4 r2 r4 q4))
theorem pt_chain {op op' : CmpOp} {r r' : R2} (ho : OpR X (compareOp op) r) (ho' : OpR X (compareOp op') r') (ha : PE X a ta) (hb : PE X b tb) (hc : PE X c tc)
    (hm : lastMarks [op, op'] [b, c] = false := by with_unfolding_all rfl) : PT X (.Compare a [op, op'] [b, c] pos) (tTest (tChain r r' ta tb tc)) := by
  intro pins s σ H Q I h
  refine isTrue_chain (thn (ha pins s σ H _ I h) fun v s1 ⟨x, H1, I1, r1, q1⟩ => test_link (thn (hb pins s1 σ H1 _ I1 q1) fun u s2 ⟨y, H2, I2, r2, q2⟩ =>
    thn (ho pins s2 σ H2 x y v u _ I2 r1 r2 q2) fun d s3 ⟨z, H3, I3, r3, k, e, q3⟩ => ?_)) hm
  subst e
  cases r3
  refine wpAny_truthy_bool ?_
  cases k with
  | false =>
    obtain ⟨k', e', q'⟩ := q3
    cases e'
    exact ite_ff ⟨H3, I3, q'⟩
  | true =>
    refine ite_tt (test_last (thn (hc pins s3 σ H3 _ I3 q3) fun w' s4 ⟨z', H4, I4, r4, q4⟩ => thn (ho' pins s4 σ H4 y z' u w' _ I4 r2 r4 q4) fun d' s5 ⟨z2, H5, I5, r5, k2, e2, q5⟩ => ?_))
    subst e2
    cases r5
    exact wpAny_truthy_bool ⟨H5, I5, q5⟩

/-! ### truth -/
/-- a value's truth by the abstract heap -/
def TruV (K : PySem.W.Frag) (x : V) (H : Hp) (k : Bool) : Prop :=
  match x with
  | .non => k = false
  | .bl b => k = b
  | .int i => k = (i != 0)
  | .str y => y.length ≤ sizeLine ∧ k = ((y.length : Int) != 0)
  | .byt y => y.size ≤ sizeLine ∧ k = ((y.size : Int) != 0)
  | .ref p => (∃ xs, SqL K H p xs ∧ k = !xs.isEmpty) ∨ (∃ xs, SqT K H p xs ∧ k = !xs.isEmpty) ∨ ∃ kvs, H p = some (.dK kvs) ∧ k = !kvs.isEmpty
  | _ => False
theorem isEmpty_kv {κ : Type} {kvs : List (κ × V)} {vs : List (κ × Value)} (r : KV kvs vs) : (!vs.isEmpty) = !kvs.isEmpty := by
  cases r <;> rfl
theorem isEmpty_of {xs : List V} {its : List Value} (r : Vals xs its) : (!its.toArray.isEmpty) = !xs.isEmpty := by
  cases r <;> simp
theorem line63 : (sizeLine : Nat) < 2 ^ 63 := by rw [sizeLine_eq]; decide
theorem tru_ok : TruR X (fun x H Q => ∃ k, TruV X.K x H k ∧ Q k H) := by
  intro pins s σ H x v Q I rx h
  obtain ⟨k, e, q⟩ := h
  have hl := line63
  have hs : sizeLine = 16777216 := sizeLine_eq
  cases x with
  | non =>
    cases rx
    have e' : k = false := e
    subst e'
    exact truthy_none ⟨H, I, q⟩
  | bl b =>
    cases rx
    have e' : k = b := e
    subst e'
    exact wpAny_truthy_bool ⟨H, I, q⟩
  | int i =>
    obtain ⟨t, rfl⟩ := rx
    have e' : k = (i != 0) := e
    subst e'
    exact PySem.P.truthy_int ⟨H, I, q⟩
  | str y =>
    obtain ⟨t, rfl⟩ := rx
    obtain ⟨hy, e'⟩ : y.length ≤ sizeLine ∧ k = ((y.length : Int) != 0) := e
    subst e'
    exact PySem.P.truthy_str (by omega) ⟨H, I.tok _, q⟩
  | byt y =>
    obtain ⟨t, rfl⟩ := rx
    obtain ⟨hy, e'⟩ : y.size ≤ sizeLine ∧ k = ((y.size : Int) != 0) := e
    subst e'
    exact PySem.W.truthy_bytes (by omega) ⟨H, I.tok _, q⟩
  | ref p =>
    cases rx
    have e' : (∃ xs, SqL X.K H p xs ∧ k = !xs.isEmpty) ∨ (∃ xs, SqT X.K H p xs ∧ k = !xs.isEmpty) ∨ ∃ kvs, H p = some (.dK kvs) ∧ k = !kvs.isEmpty := e
    rcases e' with ⟨xs, hx, e'⟩ | ⟨xs, hx, e'⟩ | ⟨kvs, hx, e'⟩
    · subst e'
      obtain ⟨its, r, pl, hz⟩ := I.list hx
      have hlen := r.length
      exact wpAny_truthy_list pl.isList (by simp only [List.size_toArray]; omega) ⟨H, I.tok _, by rw [isEmpty_of r]; exact q⟩
    · subst e'
      obtain ⟨its, r, pl, hz⟩ := I.tuple hx
      have hlen := r.length
      exact truthy_tuple pl (by simp only [List.size_toArray]; omega) ⟨H, I.tok _, by rw [isEmpty_of r]; exact q⟩
    · subst e'
      obtain ⟨hz, hS, vs, r, m⟩ : kvs.length ≤ sizeLine ∧ (p == sysModules) = false ∧ ∃ vs, KV kvs vs ∧ s.heap.DictOf (mixKind X.prog X.w) p vs := I.hok p _ hx
      have hlen : kvs.length = vs.length := Paired.length r
      exact wpAny_truthy_dict hS m (by omega) ⟨H, I.tok _, by rw [isEmpty_kv r]; exact q⟩
  | _ => exact (show False from e).elim
/-- any expression whose test is its value's truth (a name, a call, a subscript, a field ..: he by fun _ => rfl) -/
theorem pt_truth (ha : PE X a ta) (he : ∀ whole, isTrue a X.env whole = (do let v ← whole; standAt a.pos; holding [v] (truthy v))) :
    PT X a (fun σ H Q => ta σ H fun x H' => ∃ k, TruV X.K x H' k ∧ Q k H') := by
  intro pins s σ H Q I h
  exact isTrue_plain (thn (ha pins s σ H _ I h) fun v s1 ⟨x, H1, I1, r1, q1⟩ => tru_ok pins s1 σ H1 x v Q I1 r1 q1) (he _)

/-! ### strs and bytes -/
theorem pe_byt {x : List UInt8} {k : Nat} : PE X (.Constant (.bytes x) k pos) (fun _ H Q => Q (.byt x.toArray) H) := fun _ _ _ H _ I h => PySem.W.Constant_bytes ⟨.byt x.toArray, H, I.tok _, ⟨_, rfl⟩, h⟩
theorem op_add_str : OpR X (binaryOp .Add) (fun x y H Q => ∃ i j, x = .str i ∧ y = .str j ∧ i.length + j.length ≤ sizeLine ∧ Q (.str (i ++ j)) H) := by
  intro pins s σ H x y v u Q I rx ry h
  obtain ⟨i, j, rfl, rfl, hz, q⟩ := h
  obtain ⟨t, rfl⟩ := rx
  obtain ⟨t', rfl⟩ := ry
  exact add_str (fun t' tk => ⟨.str (i ++ j), H, I.tok _, ⟨_, rfl⟩, q⟩) hz
theorem iop_add_str : OpR X (inplaceOp .Add) (fun x y H Q => ∃ i j, x = .str i ∧ y = .str j ∧ i.length + j.length ≤ sizeLine ∧ Q (.str (i ++ j)) H) := by
  intro pins s σ H x y v u Q I rx ry h
  obtain ⟨i, j, rfl, rfl, hz, q⟩ := h
  obtain ⟨t, rfl⟩ := rx
  obtain ⟨t', rfl⟩ := ry
  exact iadd_str (fun t' tk => ⟨.str (i ++ j), H, I.tok _, ⟨_, rfl⟩, q⟩) hz
theorem op_add_byt : OpR X (binaryOp .Add) (fun x y H Q => ∃ i j, x = .byt i ∧ y = .byt j ∧ i.size + j.size ≤ 16777216 ∧ Q (.byt (i ++ j)) H) := by
  intro pins s σ H x y v u Q I rx ry h
  obtain ⟨i, j, rfl, rfl, hz, q⟩ := h
  obtain ⟨t, rfl⟩ := rx
  obtain ⟨t', rfl⟩ := ry
  exact PySem.W.KBy.add_bytes hz (fun t' tk => ⟨.byt (i ++ j), H, I.tok _, ⟨_, rfl⟩, q⟩)

def PlainIxT (b : Expr) : Prop := ∀ o i, subscripted b false o i = operate [o, i] (getItem o i)
/-- s[i], 0 ≤ i < len -/
theorem pe_item_str (ha : PE X a ta) (hb : PE X b tb) (hs : PlainIxT b) :
    PE X (.Subscript a b pos) (tOp (fun x y H Q => ∃ z i c, x = .str z ∧ y = .int i ∧ 0 ≤ i ∧ i < 2 ^ 63 ∧ i < z.length ∧ z.cps[i.toNat]? = some c ∧ Q (.str ⟨#[c]⟩) H) ta tb) := by
  intro pins s σ H Q I h
  refine Subscript_ (binT ha hb I h fun v u s2 x y H2 I2 rx ry q => ?_)
  obtain ⟨z, i, c, rfl, rfl, h0, h63, h1, hc, q⟩ := q
  obtain ⟨t, rfl⟩ := rx
  obtain ⟨t', rfl⟩ := ry
  have e : seqIndex? i z.length = some i.toNat := PySem.StrLaws.seqIndex_nonneg h0 h1
  exact tail_any (typeIs_str s2 z t) slot_str_getitem.lookup (getItem_str (c := c) (by
    have e1 : decide (i < -(2 ^ 63 : Int)) = false := decide_eq_false (by omega)
    have e2 : decide (i ≥ 2 ^ 63) = false := decide_eq_false (by omega)
    rw [e1, e2] <;> rfl) (by rw [e]; exact hc) ⟨.str ⟨#[c]⟩, H2, I2.tok _, ⟨_, rfl⟩, q⟩) (hs _ _)
/-- b[i], 0 ≤ i < len -/
theorem pe_item_byt (ha : PE X a ta) (hb : PE X b tb) (hs : PlainIxT b) :
    PE X (.Subscript a b pos) (tOp (fun x y H Q => ∃ (z : List UInt8) (i : Int), x = .byt z.toArray ∧ y = .int i ∧ z.length ≤ sizeLine ∧ 0 ≤ i ∧ i < z.length ∧ Q (.int ((z.getD i.toNat 0).toNat : Nat)) H) ta tb) := by
  intro pins s σ H Q I h
  refine Subscript_ (binT ha hb I h fun v u s2 x y H2 I2 rx ry q => ?_)
  obtain ⟨z, i, rfl, rfl, hz, h0, h1, q⟩ := q
  obtain ⟨t, rfl⟩ := rx
  obtain ⟨t', rfl⟩ := ry
  have hl : sizeLine = 16777216 := sizeLine_eq
  exact tail_any (PySem.W.typeIs_bytes s2 z.toArray t) PySem.W.FB.slot_bytes_getitem.lookup (PySem.W.getItem_bytes (by omega) h0 h1 ⟨.int ((z.getD i.toNat 0).toNat : Nat), H2, I2.tok _, ⟨_, rfl⟩, q⟩) (hs _ _)

/-! ### scalar builtins, by CallR -/
theorem vals1 {x : V} {us : List Value} (r : Vals [x] us) : ∃ u, us = [u] ∧ RelV x u := by
  cases r with
  | cons r1 r2 => cases r2; exact ⟨_, rfl, r1⟩
theorem vals2 {x y : V} {us : List Value} (r : Vals [x, y] us) : ∃ u w', us = [u, w'] ∧ RelV x u ∧ RelV y w' := by
  cases r with
  | cons r1 r2 =>
    cases r2 with
    | cons r3 r4 => cases r4; exact ⟨_, _, rfl, r1, r3⟩
theorem call_abs : CallR X (.builtin "abs") (fun xs H Q => ∃ i, xs = [.int i] ∧ Q (.int (if i < 0 then -i else i)) H) := by
  intro pins s σ H xs us Q I r h
  obtain ⟨i, rfl, q⟩ := h
  obtain ⟨u, rfl, t, rfl⟩ := vals1 r
  exact call_abs_int fun u tk => ⟨.int (if i < 0 then -i else i), H, I.tok _, ⟨_, rfl⟩, q⟩
theorem call_max2 (hc : X.calm = true) : CallR X (.builtin "max") (fun xs H Q => ∃ i j, xs = [.int i, .int j] ∧ Q (.int (if j > i then j else i)) H) := by
  intro pins s σ H xs us Q I r h
  obtain ⟨i, j, rfl, q⟩ := h
  obtain ⟨u, w', rfl, ⟨t, rfl⟩, ⟨t', rfl⟩⟩ := vals2 r
  refine max_two_ints (I.ok.hd hc) fun h' tk k => ⟨_, H, I.kept k, ?_, q⟩
  by_cases hj : j > i
  · rw [if_pos hj, if_pos hj]; exact ⟨_, rfl⟩
  · rw [if_neg hj, if_neg hj]; exact ⟨_, rfl⟩
theorem call_min2 (hc : X.calm = true) : CallR X (.builtin "min") (fun xs H Q => ∃ i j, xs = [.int i, .int j] ∧ Q (.int (if j < i then j else i)) H) := by
  intro pins s σ H xs us Q I r h
  obtain ⟨i, j, rfl, q⟩ := h
  obtain ⟨u, w', rfl, ⟨t, rfl⟩, ⟨t', rfl⟩⟩ := vals2 r
  refine min_two_ints (I.ok.hd hc) fun h' tk k => ⟨_, H, I.kept k, ?_, q⟩
  by_cases hj : j < i
  · rw [if_pos hj, if_pos hj]; exact ⟨_, rfl⟩
  · rw [if_neg hj, if_neg hj]; exact ⟨_, rfl⟩
theorem call_int1 : CallR X (.type "int") (fun xs H Q => (∃ i, xs = [.int i] ∧ Q (.int i) H) ∨ ∃ k, xs = [.bl k] ∧ Q (.int (if k then 1 else 0)) H) := by
  intro pins s σ H xs us Q I r h
  rcases h with ⟨i, rfl, q⟩ | ⟨k, rfl, q⟩
  · obtain ⟨u, rfl, t, rfl⟩ := vals1 r
    exact call_int_int ⟨.int i, H, I, ⟨_, rfl⟩, q⟩
  · obtain ⟨u, rfl, r1⟩ := vals1 r
    cases r1
    exact call_int_bool ⟨.int (if k then 1 else 0), H, I.tok _, ⟨_, rfl⟩, q⟩
theorem call_bool1 : CallR X (.type "bool") (fun xs H Q => (∃ i, xs = [.int i] ∧ Q (.bl (i != 0)) H) ∨ ∃ k, xs = [.bl k] ∧ Q (.bl k) H) := by
  intro pins s σ H xs us Q I r h
  rcases h with ⟨i, rfl, q⟩ | ⟨k, rfl, q⟩
  · obtain ⟨u, rfl, t, rfl⟩ := vals1 r
    exact call_bool_int ⟨.bl (i != 0), H, I, rfl, q⟩
  · obtain ⟨u, rfl, r1⟩ := vals1 r
    cases r1
    exact call_bool_bool ⟨.bl k, H, I, rfl, q⟩
theorem call_str_int : CallR X (.type "str") (fun xs H Q => ∃ i, xs = [.int i] ∧ i.natAbs.log2 < 1920 ∧ Q (.str (toString i)) H) := by
  intro pins s σ H xs us Q I r h
  obtain ⟨i, rfl, hz, q⟩ := h
  obtain ⟨u, rfl, t, rfl⟩ := vals1 r
  exact PySem.P.str_of_int hz ⟨.str _, H, I.tok _, ⟨_, rfl⟩, q⟩
theorem call_ord : CallR X (.builtin "ord") (fun xs H Q => ∃ x, xs = [.str x] ∧ x.length = 1 ∧ Q (.int (x.cps.getD 0 0 : Nat)) H) := by
  intro pins s σ H xs us Q I r h
  obtain ⟨x, rfl, hz, q⟩ := h
  obtain ⟨u, rfl, t, rfl⟩ := vals1 r
  exact ord_of_one hz ⟨.int _, H, I.tok _, ⟨_, rfl⟩, q⟩
theorem call_chr : CallR X (.builtin "chr") (fun xs H Q => ∃ i, xs = [.int i] ∧ 0 ≤ i ∧ i ≤ 1114111 ∧ Q (.str ⟨#[i.toNat]⟩) H) := by
  intro pins s σ H xs us Q I r h
  obtain ⟨i, rfl, h0, h1, q⟩ := h
  obtain ⟨u, rfl, t, rfl⟩ := vals1 r
  exact chr_of_range h0 h1 ⟨.str _, H, I.tok _, ⟨_, rfl⟩, q⟩
/-- len of a str, a bytes, a list, a tuple -/
def LenV (K : PySem.W.Frag) (x : V) (H : Hp) (n : Nat) : Prop :=
  match x with
  | .str y => y.length ≤ sizeLine ∧ n = y.length
  | .byt y => y.size ≤ sizeLine ∧ n = y.size
  | .ref p => (∃ xs, SqL K H p xs ∧ n = xs.length) ∨ ∃ xs, SqT K H p xs ∧ n = xs.length
  | _ => False
theorem call_len : CallR X (.builtin "len") (fun xs H Q => ∃ x n, xs = [x] ∧ LenV X.K x H n ∧ Q (.int n) H) := by
  intro pins s σ H xs us Q I r h
  obtain ⟨x, n, rfl, e, q⟩ := h
  obtain ⟨u, rfl, rx⟩ := vals1 r
  have hl := line63
  have hs : sizeLine = 16777216 := sizeLine_eq
  cases x with
  | str y =>
    obtain ⟨t, rfl⟩ := rx
    obtain ⟨hy, e'⟩ : y.length ≤ sizeLine ∧ n = y.length := e
    subst e'
    exact len_str (by omega) ⟨.int _, H, I.tok _, ⟨_, rfl⟩, q⟩
  | byt y =>
    obtain ⟨t, rfl⟩ := rx
    obtain ⟨hy, e'⟩ : y.size ≤ sizeLine ∧ n = y.size := e
    subst e'
    exact PySem.W.len_bytes (by omega) ⟨.int _, H, I.tok _, ⟨_, rfl⟩, q⟩
  | ref p =>
    cases rx
    have e' : (∃ xs, SqL X.K H p xs ∧ n = xs.length) ∨ ∃ xs, SqT X.K H p xs ∧ n = xs.length := e
    rcases e' with ⟨xs, hx, e'⟩ | ⟨xs, hx, e'⟩
    · subst e'
      obtain ⟨its, r', pl, hz⟩ := I.list hx
      have hlen := r'.length
      exact Calls.call_len_list pl.isList (by simp only [List.size_toArray]; omega) ⟨.int xs.length, H, I.tok _, ⟨_, by simp only [List.size_toArray]; rw [hlen]⟩, q⟩
    · subst e'
      obtain ⟨its, r', pl, hz⟩ := I.tuple hx
      have hlen := r'.length
      exact len_tuple pl (by simp only [List.size_toArray]; omega) ⟨.int xs.length, H, I.tok _, ⟨_, by simp only [List.size_toArray]; rw [hlen]⟩, q⟩
  | _ => exact (show False from e).elim
/-- divmod: a new tuple -/
theorem call_divmod : CallR X (.builtin "divmod") (fun xs H Q => ∃ i j, xs = [.int i, .int j] ∧ CDiv i j ∧ ∀ p, H p = none → Q (.ref p) (upd H p (.tup [.int (i / j), .int (i % j)]))) := by
  intro pins s σ H xs us Q I r h
  obtain ⟨i, j, rfl, ⟨h1, h2⟩, q⟩ := h
  obtain ⟨u, w', rfl, ⟨t, rfl⟩, ⟨t', rfl⟩⟩ := vals2 r
  refine divmod_int (by omega) ?_ (.inl (PyProof.noPylong_small (by omega)))
  rw [Int.fdiv_eq_ediv_of_nonneg i (by omega), Int.fmod_eq_emod_of_nonneg i (by omega)]
  have hn : H s.heap.objs.size = none := I.hok.fresh (Nat.le_refl _)
  refine ⟨.ref s.heap.objs.size, _, ?_, rfl, q _ hn⟩
  refine I.laid (fun b o e => Heap.get?_push_of_some _ e) (Nat.le_refl _) ⟨by simp only [List.length_cons, List.length_nil]; rw [sizeLine_eq]; decide, [.int (i / j) s.toks, .int (i % j) (s.toks + 1)], .cons ⟨_, rfl⟩ (.cons ⟨_, rfl⟩ .nil), ?_⟩
  exact ⟨_, Heap.get?_push_size s.heap rfl, rfl, 0, rfl⟩
end
end L2

namespace L2
open PySem PySem.Spec PyProof.Rows

/-! ### an instance, its attributes a map -/
structure ObjM (h : Heap) (x dx C : Addr) (mA : Str → Option Value) : Prop where
  obj : h.get? x = some (PySem.W.instObj C dx)
  ns : h.Ns1 dx mA
  ne : dx ≠ x

theorem lookIn_ns {h : Heap} {dx : Addr} {mA : Str → Option Value} (n : h.Ns1 dx mA) : ∃ od, h.get? dx = some od ∧ ∀ name, PySem.W.lookIn name od = some (mA name) := by
  obtain ⟨o, es, ep, ho, hd, hk, _, hm⟩ := n
  refine ⟨o, ho, fun name => ?_⟩
  have e := hm name
  unfold nsFind findBy at e
  rw [← Array.find?_toList] at e
  unfold PySem.W.lookIn
  rw [hd]
  dsimp only
  split
  · rename_i y q
    rw [q] at e
    exact congrArg some e
  · rename_i q
    rw [q] at e
    have a : es.toList.any (·.refKey) = false := by
      rw [List.any_eq_false]
      intro y hy
      obtain ⟨z, t, hkey⟩ := hk y (Array.mem_toList_iff.mp hy)
      simp [DictEntry.refKey, hkey]
    have a' : ¬ es.toList.any (·.refKey) = true := by rw [a]; exact Bool.false_ne_true
    rw [if_neg a']
    exact congrArg some e

theorem ObjM.look {h : Heap} {x dx C : Addr} {mA : Str → Option Value} (I : ObjM h x dx C mA) : ∃ od, PySem.W.InstAt h x (PySem.W.instObj C dx) C (some od) ∧ ∀ name, PySem.W.lookIn name od = some (mA name) :=
  let ⟨od, ho, hl⟩ := lookIn_ns I.ns
  ⟨od, ⟨I.obj, rfl, rfl, ho⟩, hl⟩

section
variable {prog : Program} {w : World} {A : Around} {E : Value → Shared → Prop} {s : Shared} {K : PySem.W.Frag} {x dx C f : Addr} {mA : Str → Option Value} {name : Str} {v : Value}

theorem get_map {expr : Bool} {Q : Value → Shared → Prop} (X : K.In s.heap) (I : ObjM s.heap x dx C mA) (hg : PySem.W.plainGet K C name = true) (hh : PySem.W.hasDictIn K C = true)
    (ha : PySem.W.findIn K (.ref C) name = some none) (hv : mA name = some v) (hv' : PySem.W.handedIn v = true) (h : Q v { s with toks := s.toks + 1 }) :
    wpAny (model prog w) A (getAttr (.ref x) name expr) Q E s := by
  obtain ⟨od, J, hl⟩ := I.look
  exact PySem.W.get_value X J (PySem.W.plainGet_of hg).1 (PySem.W.findObj_own hh ha rfl (by rw [hl, hv])) hv' h

theorem get_const {expr : Bool} {a : Value} {Q : Value → Shared → Prop} (X : K.In s.heap) (I : ObjM s.heap x dx C mA) (hg : PySem.W.plainGet K C name = true) (hh : PySem.W.hasDictIn K C = true)
    (ha : PySem.W.findIn K (.ref C) name = some (some a)) (hn : PySem.W.specialIn K a "__get__" = some none) (hc : PySem.W.copiedNames.contains name = false) (hv : mA name = none) (hv' : PySem.W.handedIn a = true)
    (h : Q a { s with toks := s.toks + 1 }) : wpAny (model prog w) A (getAttr (.ref x) name expr) Q E s := by
  obtain ⟨od, J, hl⟩ := I.look
  exact PySem.W.get_value X J (PySem.W.plainGet_of hg).1 (PySem.W.findObj_cls hh ha hn hv' hc (by rw [hl, hv])) hv' h

theorem get_meth {pl : Sem Bool} {Q : Value × List Value → Shared → Prop} (X : K.In s.heap) (I : ObjM s.heap x dx C mA) (hg : PySem.W.plainGet K C name = true)
    (hf : PySem.W.findIn K (.ref C) name = some (some (.ref f))) (ht : PySem.W.isFn K (.ref f) = true) (hv : mA name = none) (h : Q (.ref f, [.ref x]) s) :
    wpAny (model prog w) A (getMethod (.ref x) name pl) Q E s := by
  obtain ⟨od, J, hl⟩ := I.look
  exact PySem.W.method_fn X J (PySem.W.plainGet_of hg).1 (PySem.W.plainGet_of hg).2 hf (beq_iff_eq.mp ht) (by show (PySem.W.lookIn name od).map (·.isSome) = some false; rw [hl, hv]; rfl) h

theorem set_map {ns : List Str} {Q : Unit → Shared → Prop} (X : K.In s.heap) (I : ObjM s.heap x dx C mA)
    (hs : PySem.W.findIn K (.ref C) "__setattr__" = some (some (.builtin "object.__setattr__"))) (hp : PySem.W.plainOver K C = true) (ht : PySem.W.takerIn K C name = some none) (hh : PySem.W.hasDictIn K C = true)
    (hw : PySem.Within mA ns) (hsz : ns.length ≤ sizeLine)
    (h : ∀ h', ObjM h' x dx C (fun y => if y = name then some v else mA y) → Heap.SameBut dx s.heap h' → Q () { s with heap := h', toks := s.toks + 2 }) :
    wpAny (model prog w) A (setAttr (.ref x) name v) Q E s := by
  obtain ⟨od, J, hl⟩ := I.look
  refine PySem.W.set_plain X J hs (PySem.W.osa_open (s := { s with toks := s.toks + 1 }) (r := none) X J hp ht fun b => ?_)
  obtain ⟨cd, hc, hd'⟩ := PySem.W.any_some hh
  have hx : s.heap.get? x = some ⟨.ref C, some dx, .plain, #[]⟩ := I.obj
  refine wpAny_bind (wpAny_pure (wpAny_bind (wpAny_bind (wpAny_loadPart hx (wpAny_bind (PySem.W.Looks.here (s := { s with toks := s.toks + 1 }) (PySem.W.looks_clsIn X hc) ?_))))))
  rw [hd']
  refine wpAny_pure (a := some dx) (wpAny_bind (wpAny_pure (wpAny_bind ?_)))
  refine wpAny_nsSet1 (s := { s with toks := s.toks + 1 }) I.ns fun h' hn2 hs2 => ?_
  obtain ⟨oD, esD, epD, hoD, hdD, hcD⟩ := hn2.count (PySem.Within.cons name v hw)
  refine wpAny_bind (wpAny_lookBehind hoD (by rw [hdD]; exact pastItsLine_dict (Nat.le_trans hcD (by rw [List.length_cons]; omega))) ?_)
  exact wpAny_pure (h _ ⟨(hs2.2 _ (Ne.symm I.ne)).trans I.obj, hn2, I.ne⟩ hs2)

/-- C(..): the dict at the heap's end, the instance behind it; then its __init__ -/
theorem make_map {R : Result → Shared → Prop} {vs : List Value} {kw : List (Str × Value)} (X : K.In s.heap) (hm : PySem.W.makesIn K C = true)
    (hi : PySem.W.findIn K (.ref C) "__init__" = some (some (.ref f))) (hf : PySem.W.typeIn K (.ref f) = some (.type "function"))
    (h : codeAny (model prog w) (A.under (.builtin "type.__call__" ⟨.ref C :: vs, kw⟩)) (.call (.ref f) ⟨.ref (s.heap.objs.size + 1) :: vs, kw⟩) (PySem.W.InitBack (s.heap.objs.size + 1) R)
      { s with heap := (s.heap.push PySem.W.emptyDict).push (PySem.W.instObj C s.heap.objs.size) }) :
    codeAny (model prog w) A (.call (.ref C) ⟨vs, kw⟩) R s := by
  obtain ⟨hh, g, d, t, os⟩ := s
  exact PySem.W.make_core (PySem.W.makes_of X hm) (PySem.W.looks_findIn X hi) (fun self => PySem.W.bind_fn X self hf) (.inl rfl) h
/-- C() where there is no __init__ but object's -/
theorem make_map0 {R : Result → Shared → Prop} (X : K.In s.heap) (hm : PySem.W.makesIn K C = true)
    (hi : PySem.W.findIn K (.ref C) "__init__" = some (some (.builtin "object.__init__")))
    (hb : ∀ self, PySem.W.Looks (model prog w) s.heap (bindSpecial (.builtin "object.__init__") self) (.builtin "object.__init__", [self]))
    (h : codeAny (model prog w) (A.under (.builtin "type.__call__" ⟨[.ref C], []⟩)) (.call (.builtin "object.__init__") ⟨[.ref (s.heap.objs.size + 1)], []⟩) (PySem.W.InitBack (s.heap.objs.size + 1) R)
      { s with heap := (s.heap.push PySem.W.emptyDict).push (PySem.W.instObj C s.heap.objs.size) }) :
    codeAny (model prog w) A (.call (.ref C) ⟨[], []⟩) R s := by
  obtain ⟨hh, g, d, t, os⟩ := s
  exact PySem.W.make_core (PySem.W.makes_of X hm) (PySem.W.looks_findIn X hi) hb (.inr ⟨rfl, rfl⟩) h
end

/-! ### the attributes as a list of pairs -/
def putF (f : Str) (v : V) : List (Str × V) → List (Str × V)
  | [] => [(f, v)]
  | (g, x) :: r => if g = f then (g, v) :: r else (g, x) :: putF f v r
theorem lookup_putF (f g : Str) (v : V) : ∀ fs : List (Str × V), (putF f v fs).lookup g = if g = f then some v else fs.lookup g
  | [] => by
    show List.lookup g [(f, v)] = _
    by_cases h : g = f
    · have hb : (g == f) = true := beq_iff_eq.mpr h
      simp only [List.lookup, hb, if_pos h]
    · have hb : (g == f) = false := beq_eq_false_iff_ne.mpr h
      simp only [List.lookup, hb, if_neg h]
  | (k, x) :: r => by
    have ih := lookup_putF f g v r
    rw [show putF f v ((k, x) :: r) = (if k = f then (k, v) :: r else (k, x) :: putF f v r) from rfl]
    by_cases hk : k = f
    · rw [if_pos hk]
      by_cases h : g = k
      · have hb : (g == k) = true := beq_iff_eq.mpr h
        simp only [List.lookup, hb, if_pos (h.trans hk)]
      · have hb : (g == k) = false := beq_eq_false_iff_ne.mpr h
        simp only [List.lookup, hb, if_neg (fun e : g = f => h (e.trans hk.symm))]
    · rw [if_neg hk]
      by_cases h : g = k
      · have hb : (g == k) = true := beq_iff_eq.mpr h
        simp only [List.lookup, hb, if_neg (fun e : g = f => hk (h.symm.trans e))]
      · have hb : (g == k) = false := beq_eq_false_iff_ne.mpr h
        simp only [List.lookup, hb]
        exact ih
theorem keys_putF (f : Str) (v : V) : ∀ fs : List (Str × V), f ∈ (putF f v fs).map (·.1) ∧ ∀ g, g ∈ fs.map (·.1) → g ∈ (putF f v fs).map (·.1)
  | [] => ⟨by simp [putF], fun g h => by simp at h⟩
  | (k, x) :: r => by
    obtain ⟨i1, i2⟩ := keys_putF f v r
    rw [show putF f v ((k, x) :: r) = (if k = f then (k, v) :: r else (k, x) :: putF f v r) from rfl]
    by_cases hk : k = f
    · rw [if_pos hk]
      subst hk
      exact ⟨by simp, fun g h => by simpa using h⟩
    · rw [if_neg hk]
      refine ⟨?_, fun g h => ?_⟩
      · rw [List.map_cons]
        exact List.mem_cons_of_mem _ i1
      · rw [List.map_cons] at h ⊢
        rcases List.mem_cons.mp h with e | e
        · exact List.mem_cons.mpr (.inl e)
        · exact List.mem_cons_of_mem _ (i2 g e)
theorem length_putF (f : Str) (v : V) : ∀ fs : List (Str × V), (putF f v fs).length ≤ fs.length + 1
  | [] => by simp [putF]
  | (k, x) :: r => by
    have ih := length_putF f v r
    rw [show putF f v ((k, x) :: r) = (if k = f then (k, v) :: r else (k, x) :: putF f v r) from rfl]
    by_cases hk : k = f
    · rw [if_pos hk, List.length_cons, List.length_cons]; omega
    · rw [if_neg hk, List.length_cons, List.length_cons]; omega

theorem RelO.some_of {v : V} {o : Option Value} (r : RelO (some v) o) : ∃ u, o = some u ∧ RelV v u := by
  cases o with
  | none => exact (show False from r).elim
  | some u => exact ⟨u, rfl, r⟩
theorem RelO.none_of {o : Option Value} (r : RelO none o) : o = none := by
  cases o with
  | none => rfl
  | some u => exact (show False from r).elim
theorem handed_of {v : V} {u : Value} (r : RelV v u) : PySem.W.handedIn u = true := by
  cases v with
  | non => cases (show u = Value.none from r); rfl
  | bl b => cases (show u = Value.bool b from r); rfl
  | int i => obtain ⟨t, e⟩ := (show ∃ t, u = Value.int i t from r); cases e; rfl
  | str x => obtain ⟨t, e⟩ := (show ∃ t, u = Value.str x t from r); cases e; rfl
  | byt b => obtain ⟨t, e⟩ := (show ∃ t, u = Value.bytes b t from r); cases e; rfl
  | flt b => obtain ⟨t, e⟩ := (show ∃ t, u = Value.float b t from r); cases e; rfl
  | ref a => cases (show u = Value.ref a from r); rfl
  | ty n => cases (show u = Value.type n from r); rfl

section
variable {P : Program} {w : World} {H H' : Hp} {h h' : Heap} {a C dx : Addr} {fs fs' : List (Str × V)}
theorem ins_get (hok : HOk P w H h) (e : H a = some (.ins C dx fs)) : ∃ mA, ObjM h a dx C mA ∧ (∀ f, RelO (fs.lookup f) (mA f)) ∧ PySem.Within mA (fs.map (·.1)) ∧ fs.length ≤ 1000 ∧ H dx = some (.own a) := by
  obtain ⟨d, z, ne, ob, mA, n, r, q⟩ := (show ObjOk P w H h a (.ins C dx fs) from hok a _ e)
  exact ⟨mA, ⟨ob, n, ne⟩, r, q, z, d⟩
end

/-! ### what of the text a class must have -/
structure Cls (K : PySem.W.Frag) (C : Addr) : Prop where
  pg : PySem.W.plainGet K C Str.empty = true
  hd : PySem.W.hasDictIn K C = true
  po : PySem.W.plainOver K C = true
  sa : PySem.W.findIn K (.ref C) "__setattr__" = some (some (.builtin "object.__setattr__"))
theorem Cls.get {K : PySem.W.Frag} {C : Addr} (c : Cls K C) (f : Str) : PySem.W.plainGet K C f = true := c.pg
/-- no class of it has the name -/
def NoAttr (K : PySem.W.Frag) (C : Addr) (f : Str) : Prop := PySem.W.findIn K (.ref C) f = some none
theorem NoAttr.taker {K : PySem.W.Frag} {C : Addr} {f : Str} (n : NoAttr K C f) : PySem.W.takerIn K C f = some none := by
  unfold PySem.W.takerIn
  rw [show PySem.W.findIn K (.ref C) f = some none from n]
  rfl
/-- a constant of the class -/
structure Con (K : PySem.W.Frag) (C : Addr) (f : Str) (v : V) (u : Value) : Prop where
  at_ : PySem.W.findIn K (.ref C) f = some (some u)
  rel : RelV v u
  get : PySem.W.specialIn K u "__get__" = some none
  cp : PySem.W.copiedNames.contains f = false
/-- a method: a plain def of the class or of one above it -/
structure Meth (K : PySem.W.Frag) (C : Addr) (m : Str) (f : Addr) : Prop where
  at_ : PySem.W.findIn K (.ref C) m = some (some (.ref f))
  fn : PySem.W.isFn K (.ref f) = true
  kp : PySem.W.keepIn K (.ref f) = true

section
variable {X : Cx} {pins : List (Addr × Obj)} {σ : St} {H : Hp} {s : Shared} {a C dx : Addr} {fs : List (Str × V)} {f : Str} {v : V} {A : Around} {E : Value → Shared → Prop}

theorem getattr_ok {b : Bool} {Q : Value → Shared → Prop} (I : Inv X pins σ H s) (e : H a = some (.ins C dx fs)) (c : Cls X.K C) (n : NoAttr X.K C f) (l : fs.lookup f = some v)
    (h : ∀ u s', Inv X pins σ H s' → RelV v u → Q u s') : wpAny (model X.prog X.w) A (getAttr (.ref a) f b) Q E s := by
  obtain ⟨mA, O, r, _, _, _⟩ := ins_get I.hok e
  obtain ⟨u, hu, ru⟩ := RelO.some_of (v := v) (o := mA f) (by rw [← l]; exact r f)
  exact get_map I.kIn O (c.get f) c.hd n hu (handed_of ru) (h u _ (I.tok _) ru)

theorem getcon_ok {b : Bool} {u : Value} {Q : Value → Shared → Prop} (I : Inv X pins σ H s) (e : H a = some (.ins C dx fs)) (c : Cls X.K C) (k : Con X.K C f v u) (l : fs.lookup f = none)
    (h : ∀ s', Inv X pins σ H s' → Q u s') : wpAny (model X.prog X.w) A (getAttr (.ref a) f b) Q E s := by
  obtain ⟨mA, O, r, _, _, _⟩ := ins_get I.hok e
  have hn : mA f = none := RelO.none_of (by rw [← l]; exact r f)
  exact get_const I.kIn O (c.get f) c.hd k.at_ k.get k.cp hn (handed_of k.rel) (h _ (I.tok _))

theorem getmeth_ok {m : Str} {g : Addr} {pl : Sem Bool} {Q : Value × List Value → Shared → Prop} (I : Inv X pins σ H s) (e : H a = some (.ins C dx fs)) (c : Cls X.K C) (k : Meth X.K C m g) (l : fs.lookup m = none)
    (h : Q (.ref g, [.ref a]) s) : wpAny (model X.prog X.w) A (getMethod (.ref a) m pl) Q E s := by
  obtain ⟨mA, O, r, _, _, _⟩ := ins_get I.hok e
  have hn : mA m = none := RelO.none_of (by rw [← l]; exact r m)
  exact get_meth I.kIn O (c.get m) k.at_ k.fn hn h

theorem setattr_ok {y : V} {u : Value} {Q : Unit → Shared → Prop} (I : Inv X pins σ H s) (e : H a = some (.ins C dx fs)) (c : Cls X.K C) (n : NoAttr X.K C f) (hl : fs.length < 1000) (ry : RelV y u)
    (h : ∀ s', Inv X pins σ (upd H a (.ins C dx (putF f y fs))) s' → Q () s') : wpAny (model X.prog X.w) A (setAttr (.ref a) f u) Q E s := by
  obtain ⟨mA, O, r, wi, _, ho⟩ := ins_get I.hok e
  have hz : (fs.map (·.1)).length ≤ sizeLine := by rw [List.length_map, sizeLine_eq]; omega
  refine set_map I.kIn O c.sa c.po n.taker c.hd wi hz fun h' O' sb => h _ ?_
  have hd : ∃ o, h'.get? dx = some o := let ⟨o, _, _, e', _⟩ := O'.ns; ⟨o, e'⟩
  refine I.write (x := a) (e := dx) (by rw [e]; exact True.intro) (.inr ho) (fun b q hb z => (sb.2 b hb).trans z) hd ?_
  refine ⟨by rw [upd_ne O.ne]; exact ho, ?_, O.ne, O'.obj, _, O'.ns, fun g => ?_, fun g hg => ?_⟩
  · have := length_putF f y fs; omega
  · show RelO ((putF f y fs).lookup g) (if g = f then some u else mA g)
    rw [lookup_putF]
    by_cases q : g = f
    · rw [if_pos q, if_pos q]; exact ry
    · rw [if_neg q, if_neg q]; exact r g
  · by_cases q : g = f
    · rw [q]; exact (keys_putF f y fs).1
    · refine (keys_putF f y fs).2 g (wi g fun z => hg ?_)
      show (if g = f then some u else mA g) = none
      rw [if_neg q]; exact z

/-- a new instance, tracked, without attributes -/
theorem Inv.made (I : Inv X pins σ H s) : Inv X pins σ (upd (upd H s.heap.objs.size (.own (s.heap.objs.size + 1))) (s.heap.objs.size + 1) (.ins C s.heap.objs.size []))
    { s with heap := (s.heap.push PySem.W.emptyDict).push (PySem.W.instObj C s.heap.objs.size) } := by
  have e1 : (s.heap.push PySem.W.emptyDict).get? s.heap.objs.size = some PySem.W.emptyDict := Heap.get?_push_size s.heap rfl
  have e2 : ((s.heap.push PySem.W.emptyDict).push (PySem.W.instObj C s.heap.objs.size)).get? (s.heap.objs.size + 1) = some (PySem.W.instObj C s.heap.objs.size) := by
    have := Heap.get?_push_size (s.heap.push PySem.W.emptyDict) (o := PySem.W.instObj C s.heap.objs.size) rfl
    rwa [Heap.size_push] at this
  have e3 : (s.heap.push PySem.W.emptyDict).Ns s.heap.objs.size (fun _ => none) := ⟨PySem.W.emptyDict, #[], _, e1, rfl, (fun e he => absurd he (by simp)), fun _ => rfl⟩
  have I1 := I.laid (a := s.heap.objs.size) (o := .own (s.heap.objs.size + 1)) (h' := s.heap.push PySem.W.emptyDict) (t' := s.toks) (fun b u q => Heap.get?_push_of_some _ q) (Nat.le_refl _) ⟨_, e1⟩
  refine I1.laid (a := s.heap.objs.size + 1) (o := .ins C s.heap.objs.size []) (t' := s.toks) (fun b u q => Heap.get?_push_of_some _ q) (Nat.le_of_eq (Heap.size_push _ _)) ?_
  have ne : s.heap.objs.size ≠ s.heap.objs.size + 1 := Nat.ne_of_lt (Nat.lt_succ_self _)
  refine ⟨by rw [upd_ne ne, upd_same], Nat.zero_le _, ne, e2, fun _ => none, (Heap.Ns1.of_empty e3).at fun o q => Heap.get?_push_of_some _ q, fun _ => True.intro, fun y hy => absurd rfl hy⟩

/-- e.f where nothing but the object is asked: through attributeBase (super) and the last hold -/
theorem attr_of {prog : Program} {w : World} {env : Env} {e : Expr} {f : Str} {pos : Pos} {s : Shared} {Q : Value → Shared → Prop} (hb : attributeBase e f env (eval e env) = eval e env)
    (h : wpAny (model prog w) A (eval e env) (fun o s₁ => wpAny (model prog w) A (getAttr o f true) Q E s₁) E s) : wpAny (model prog w) A (eval (.Attribute e f pos) env) Q E s :=
  Attribute_any_ h (by rw [arm_eval_Attribute, hb])
end

/-! ### readings and rules -/
/-- e.f, an attribute of the instance -/
def tFld (K : PySem.W.Frag) (ta : TE) (f : Str) : TE := fun σ H Q => ta σ H fun x H1 => ∃ a C dx fs v, x = .ref a ∧ H1 a = some (.ins C dx fs) ∧ Cls K C ∧ NoAttr K C f ∧ fs.lookup f = some v ∧ Q v H1
/-- e.f, a constant of the class -/
def tCon (K : PySem.W.Frag) (ta : TE) (f : Str) : TE := fun σ H Q => ta σ H fun x H1 => ∃ a C dx fs v u, x = .ref a ∧ H1 a = some (.ins C dx fs) ∧ Cls K C ∧ Con K C f v u ∧ fs.lookup f = none ∧ Q v H1
/-- e.f = value -/
def sFld (K : PySem.W.Frag) (ta tv : TE) (f : Str) : TS := fun D σ H => tv σ H fun y H1 => ta σ H1 fun x H2 => ∃ a C dx fs, x = .ref a ∧ H2 a = some (.ins C dx fs) ∧ Cls K C ∧ NoAttr K C f ∧ fs.length < 1000 ∧
  D.nx σ (upd H2 a (.ins C dx (putF f y fs)))
/-- an augmented operator on two values -/
def InOp (X : Cx) (op : Operator) (rd : V → V → Hp → VK → Prop) : Prop :=
  ∀ (pins : List (Addr × Obj)) (s : Shared) (σ : St) (H : Hp) (x y : V) (u v : Value) (Q : VK), Inv X pins σ H s → RelV x u → RelV y v → rd x y H Q → wpAny (model X.prog X.w) X.A (inplaceOp op u v) (EP X pins σ Q) X.xe s
/-- e.f op= value -/
def sFldAug (K : PySem.W.Frag) (ta tv : TE) (rd : V → V → Hp → VK → Prop) (f : Str) : TS := fun D σ H => ta σ H fun x H1 => ∃ a C dx fs v, x = .ref a ∧ H1 a = some (.ins C dx fs) ∧ Cls K C ∧ NoAttr K C f ∧ fs.lookup f = some v ∧
  tv σ H1 fun y H2 => rd v y H2 fun z H3 => ∃ dx' fs', H3 a = some (.ins C dx' fs') ∧ fs'.length < 1000 ∧ D.nx σ (upd H3 a (.ins C dx' (putF f z fs')))

section
variable {X : Cx} {o e value : Expr} {f : Str} {pos pos' tpos : Pos} {ta tv : TE}
theorem pe_fld (he : PE X e ta) (hb : attributeBase e f X.env (eval e X.env) = eval e X.env) : PE X (.Attribute e f pos) (tFld X.K ta f) := by
  intro pins s σ H Q I h
  refine attr_of hb (thn (he pins s σ H _ I h) fun u s1 ⟨x, H1, I1, rx, a, C, dx, fs, v, ex, ea, c, n, l, q⟩ => ?_)
  subst ex
  obtain rfl : u = Value.ref a := rx
  exact getattr_ok I1 ea c n l fun u' s2 I2 ru => ⟨v, H1, I2, ru, q⟩
theorem pe_con (he : PE X e ta) (hb : attributeBase e f X.env (eval e X.env) = eval e X.env) : PE X (.Attribute e f pos) (tCon X.K ta f) := by
  intro pins s σ H Q I h
  refine attr_of hb (thn (he pins s σ H _ I h) fun u s1 ⟨x, H1, I1, rx, a, C, dx, fs, v, u0, ex, ea, c, k, l, q⟩ => ?_)
  subst ex
  obtain rfl : u = Value.ref a := rx
  exact getcon_ok I1 ea c k l fun s2 I2 => ⟨v, H1, I2, k.rel, q⟩
theorem ps_fld (ha : PE X o ta) (hv : PE X value tv) (hs : swapsWith value (some (.Attribute o f pos')) pos.line X.env = pure false) : PS X (.Assign [.Attribute o f pos'] value pos) (sFld X.K ta tv f) := by
  intro pins s σ H D I h
  refine plainObj_wpAny_Assign_Attribute (thn (hv pins s σ H _ I h) fun u s1 ⟨y, H1, I1, ry, q⟩ => thn (ha pins s1 σ H1 _ I1 q) fun ov s2 ⟨x, H2, I2, rx, a, C, dx, fs, ex, ea, c, n, l, q2⟩ => ?_) hs
  subst ex
  obtain rfl : ov = Value.ref a := rx
  exact setattr_ok I2 ea c n l ry fun s3 I3 => ⟨σ, _, I3, q2⟩
theorem ps_fldaug {op : Operator} {rd : V → V → Hp → VK → Prop} (ha : PE X o ta) (hv : PE X value tv) (hop : InOp X op rd) : PS X (.AugAssign (.Attribute o f tpos) op value pos) (sFldAug X.K ta tv rd f) := by
  intro pins s σ H D I h
  refine wpAny_AugAssign_AttributeAny (thn (ha pins s σ H _ I h) fun ov s1 ⟨x, H1, I1, rx, a, C, dx, fs, v, ex, ea, c, n, l, q⟩ => ?_)
  subst ex
  obtain rfl : ov = Value.ref a := rx
  refine getattr_ok I1 ea c n l fun u s2 I2 ru => thn (hv pins s2 σ H1 _ I2 q) fun w3 s3 ⟨y, H2, I3, ry, q3⟩ => thn (hop pins s3 σ H2 v y u w3 _ I3 ru ry q3) fun w4 s4 ⟨z, H3, I4, rz, dx', fs', ea', l', q4⟩ => ?_
  exact setattr_ok I4 ea' c n l' rz fun s5 I5 => ⟨σ, _, I5, q4⟩
def rAdd : V → V → Hp → VK → Prop := fun x y H Q => ∃ i j, x = .int i ∧ y = .int j ∧ Q (.int (i + j)) H
def rSub : V → V → Hp → VK → Prop := fun x y H Q => ∃ i j, x = .int i ∧ y = .int j ∧ Q (.int (i - j)) H
theorem in_add : InOp X .Add rAdd := by
  rintro pins s σ H x y u v Q I rx ry ⟨i, j, rfl, rfl, q⟩
  obtain ⟨t, rfl⟩ := (show ∃ t, u = Value.int i t from rx)
  obtain ⟨t', rfl⟩ := (show ∃ t', v = Value.int j t' from ry)
  exact PyProof.Rows.iadd_int ⟨.int (i + j), H, I.tok _, ⟨_, rfl⟩, q⟩
theorem in_sub : InOp X .Sub rSub := by
  rintro pins s σ H x y u v Q I rx ry ⟨i, j, rfl, rfl, q⟩
  obtain ⟨t, rfl⟩ := (show ∃ t, u = Value.int i t from rx)
  obtain ⟨t', rfl⟩ := (show ∃ t', v = Value.int j t' from ry)
  exact PyProof.Rows.isub_int ⟨.int (i - j), H, I.tok _, ⟨_, rfl⟩, q⟩

/-- what is between an instance and its method: the tree of a method call -/
theorem methcall_of {pl : Sem Bool} {m : Str} {apos : Pos} {args : List Expr} {pins : List (Addr × Obj)} {s : Shared} {σ : St} {H : Hp} {Q : Value → Shared → Prop} {te : TE} (he : PE X e te) (I : Inv X pins σ H s)
    (h : te σ H fun x H1 => ∃ a C dx fs g, x = .ref a ∧ H1 a = some (.ins C dx fs) ∧ Cls X.K C ∧ Meth X.K C m g ∧ fs.lookup m = none ∧
      ∀ s1, Inv X pins σ H1 s1 → wpAny (model X.prog X.w) X.A (callWith pos (.ref g) [.ref a] (backTo pos (starEach args X.env)) (backToKw pos (keywordEach [] X.env))) Q X.xe s1)
    (ht : eval (.Call (.Attribute e m apos) args [] pos) X.env = (do
      let ov ← eval e X.env
      standAt apos.atName
      let (f, first) ← holding [ov] (getMethod ov m pl)
      callWith pos f first (backTo pos (starEach args X.env)) (backToKw pos (keywordEach [] X.env)))) :
    wpAny (model X.prog X.w) X.A (eval (.Call (.Attribute e m apos) args [] pos) X.env) Q X.xe s := by
  refine PySem.W.methodCall_KW (pl := pl) (thn (he pins s σ H _ I h) fun u s1 ⟨x, H1, I1, rx, a, C, dx, fs, g, ex, ea, c, k, l, q⟩ => ?_) ht
  subst ex
  obtain rfl : u = Value.ref a := rx
  exact getmeth_ok I1 ea c k l (q s1 I1)
end

/-! ### isinstance -/
section
variable {X : Cx} {pins : List (Addr × Obj)} {σ : St} {H : Hp} {s : Shared} {A : Around} {E : Value → Shared → Prop} {Q : Value → Shared → Prop} {c : Value} {b : Bool}
/-- the type of a value, as the fragment's deciders take it; for an instance its class -/
inductive TyOf (K : PySem.W.Frag) (H : Hp) : V → Value → Prop where
  | non : TyOf K H .non (.type "NoneType")
  | bl (x : Bool) : TyOf K H (.bl x) (.type "bool")
  | int (i : Int) : TyOf K H (.int i) (.type "int")
  | str (x : Str) : TyOf K H (.str x) (.type "str")
  | flt (x : UInt64) : TyOf K H (.flt x) (.type "float")
  | lst {a : Addr} {xs : List V} (e : H a = some (.lst xs)) : TyOf K H (.ref a) (.type "list")
  | frz {a : Addr} {o : Obj} {xs : List V} (e : H a = some (.frz o (.lst xs))) : TyOf K H (.ref a) (.type "list")
  | tup {a : Addr} {xs : List V} (e : H a = some (.tup xs)) : TyOf K H (.ref a) (.type "tuple")
  | dK {a : Addr} {kvs : List (Key × V)} (e : H a = some (.dK kvs)) : TyOf K H (.ref a) (.type "dict")
  | dT {a : Addr} {kvs : List (List Key × V)} (e : H a = some (.dT kvs)) : TyOf K H (.ref a) (.type "dict")
  | ins {a C dx : Addr} {fs : List (Str × V)} (e : H a = some (.ins C dx fs)) (cl : Cls K C) (ha : PySem.W.findIn K (.ref C) "__class__" = some (some (.builtin "object.__class__")))
      (hn : PySem.W.specialIn K (.builtin "object.__class__") "__get__" = some (some (.builtin "getset_descriptor.__get__"))) (htk : PySem.W.takesIn K (.builtin "object.__class__") = some true)
      (hm : PySem.W.mroIn K C (.type "object") = some true) : TyOf K H (.ref a) (.ref C)
/-- isinstance(x, c) for one class c, a built-in or an own one: kitOne's answer -/
theorem isinst_ok {x : V} {u t : Value} (I : Inv X pins σ H s) (rx : RelV x u) (ty : TyOf X.K H x t) (e : PySem.W.kitOne X.K t c = some b) (h : ∀ tk, Q (.bool b) { s with toks := tk }) :
    wpAny (model X.prog X.w) A (call (.builtin "isinstance") [u, c]) Q E s := by
  cases ty with
  | non => cases (show u = Value.none from rx); exact PySem.W.kia_one PySem.W.kitx_none I.kIn True.intro e (fun z => nomatch z) h
  | bl y => cases (show u = Value.bool y from rx); exact PySem.W.kia_one PySem.W.kitx_bool I.kIn True.intro e (fun z => nomatch z) h
  | int i => obtain ⟨t, q⟩ := (show ∃ t, u = Value.int i t from rx); cases q; exact PySem.W.kia_one PySem.W.kitx_int I.kIn True.intro e (fun z => nomatch z) h
  | str y => obtain ⟨t, q⟩ := (show ∃ t, u = Value.str y t from rx); cases q; exact PySem.W.kia_one PySem.W.kitx_str I.kIn True.intro e (fun z => nomatch z) h
  | flt y => obtain ⟨t, q⟩ := (show ∃ t, u = Value.float y t from rx); cases q; exact PySem.W.kia_one PySem.W.kitx_float I.kIn True.intro e (fun z => nomatch z) h
  | @lst a xs ea =>
    cases (show u = Value.ref a from rx)
    obtain ⟨_, _, n, _, h1⟩ := (show ObjOk X.prog X.w H s.heap a (.lst xs) from I.hok a _ ea)
    exact PySem.W.kia_one PySem.W.kitx_list I.kIn ⟨_, h1, rfl⟩ e (fun z => nomatch z) h
  | @frz a ob xs ea =>
    cases (show u = Value.ref a from rx)
    obtain ⟨_, _, _, n, _, h1⟩ := (show ObjOk X.prog X.w H s.heap a (.frz ob (.lst xs)) from I.hok a _ ea)
    exact PySem.W.kia_one PySem.W.kitx_list I.kIn ⟨_, h1, rfl⟩ e (fun z => nomatch z) h
  | @tup a xs ea =>
    cases (show u = Value.ref a from rx)
    obtain ⟨_, _, _, p⟩ := (show ObjOk X.prog X.w H s.heap a (.tup xs) from I.hok a _ ea)
    obtain ⟨o, h1, h2, _⟩ := p
    exact PySem.W.kia_one PySem.W.kitx_tuple I.kIn ⟨o, h1, h2⟩ e (fun z => nomatch z) h
  | @dK a kvs ea =>
    cases (show u = Value.ref a from rx)
    obtain ⟨_, _, vs, _, p⟩ := (show ObjOk X.prog X.w H s.heap a (.dK kvs) from I.hok a _ ea)
    obtain ⟨o, es, ep, h1, h2, _⟩ := p
    exact PySem.W.kia_one PySem.W.kitx_dict I.kIn ⟨o, h1, h2.1⟩ e (fun z => nomatch z) h
  | @dT a kvs ea =>
    cases (show u = Value.ref a from rx)
    obtain ⟨_, _, xs, _, o, es, ep, h1, h2, _⟩ := (show ObjOk X.prog X.w H s.heap a (.dT kvs) from I.hok a _ ea)
    exact PySem.W.kia_one PySem.W.kitx_dict I.kIn ⟨o, h1, h2.1⟩ e (fun z => nomatch z) h
  | @ins a C dx fs ea cl ha hn htk hm =>
    cases (show u = Value.ref a from rx)
    obtain ⟨mA, O, _⟩ := ins_get I.hok ea
    obtain ⟨od, J, _⟩ := O.look
    exact PySem.W.kia_one (PySem.W.kitx_own (cl.get _) cl.hd ha hn htk hm) I.kIn J e (fun z => nomatch z) h
end
end L2

namespace L2
open PySem PySem.Spec PyProof.Rows

/-! ### room -/
structure Room (k : Nat) (A : Around) : Prop where
  hd : A.handled = none
  dp : A.depth + 3 * k + 5 < recursionLimit
  un : A.units + 16 * k + 200 < cLine
theorem Room.mono {j k : Nat} {A : Around} (r : Room k A) (h : j ≤ k) : Room j A := ⟨r.hd, by have := r.dp; omega, by have := r.un; omega⟩
theorem Room.deeper {k : Nat} {A : Around} (r : Room (k + 1) A) (env : Env) : Room k (A.deeper env) :=
  ⟨r.hd, by have := r.dp; show A.depth + 1 + 3 * k + 5 < _; omega, by have := r.un; show A.units + 3 + 16 * k + 200 < _; omega⟩
theorem Room.in1 {k : Nat} {A : Around} (r : Room (k + 1) A) : Room k A.in1 :=
  ⟨r.hd, by have := r.dp; show A.depth + 3 * k + 5 < _; omega, by have := r.un; show A.units + 1 + 16 * k + 200 < _; omega⟩
theorem make_depth {A : Around} {C : Addr} {us : List Value} {kw : List (Str × Value)} : (A.under (.builtin "type.__call__" ⟨.ref C :: us, kw⟩)).depth = A.depth + 1 := by
  first | rfl | simp [Around.under, Code.weight, Code.isCreation, Code.isGuard, Code.isCaller, Code.frames, Code.isFrame, guardIds]
theorem make_units {A : Around} {C : Addr} {us : List Value} {kw : List (Str × Value)} : (A.under (.builtin "type.__call__" ⟨.ref C :: us, kw⟩)).units = A.units + 1 := by
  first | rfl | simp [Around.under, Code.cUnits, Code.frames, Code.isFrame]
theorem Room.make {k : Nat} {A : Around} (r : Room (k + 1) A) (C : Addr) (us : List Value) (kw : List (Str × Value)) : Room k (A.under (.builtin "type.__call__" ⟨.ref C :: us, kw⟩)) :=
  ⟨r.hd, by have := r.dp; rw [make_depth]; omega, by have := r.un; rw [make_units]; omega⟩
theorem Room.depth {k : Nat} {A : Around} (r : Room k A) : A.depth < recursionLimit := by have := r.dp; omega
theorem Room.units {k : Nat} {A : Around} (r : Room k A) : A.units + 64 < cLine := by have := r.un; omega
theorem Room.units0 {k : Nat} {A : Around} (r : Room k A) : A.units < cLine := by have := r.un; omega

/-! ### argument lists and displays -/
def tNil : TA := fun _ H Q => Q [] H
def tCons (ta : TE) (tr : TA) : TA := fun σ H Q => ta σ H fun x H1 => tr σ H1 fun xs H2 => Q (x :: xs) H2
section
variable {X : Cx} {e : Expr} {es : List Expr} {te : TE} {t : TA} {pos : Pos}
theorem pa_nil : PA X [] tNil := fun _ _ _ _ H Q I h => Calls.spliced_nil ⟨[], H, I, .nil, h⟩
theorem pa_cons (ha : PE X e te) (hr : PA X es t) (hs : starEach (e :: es) X.env = (false, eval e X.env) :: starEach es X.env := by rfl) : PA X (e :: es) (tCons te t) := by
  intro pos pins s σ H Q I h
  rw [hs]
  show wpAny _ _ (spliced ((false, eval e X.env) :: backTo pos (starEach es X.env))) _ _ s
  refine Calls.spliced_cons (thn (ha pins s σ H _ I h) fun u s1 ⟨x, H1, I1, r1, q1⟩ => ?_)
  exact thn (hr pos pins s1 σ H1 _ I1 q1) fun us s2 ⟨xs, H2, I2, r2, q2⟩ => ⟨x :: xs, H2, I2, .cons r1 r2, q2⟩

/-- a tuple, a list of written items -/
def tTup (t : TA) : TE := fun σ H Q => t σ H fun xs H1 => xs.length ≤ sizeLine ∧ ∀ p, H1 p = none → Q (.ref p) (upd H1 p (.tup xs))
def tLst (t : TA) : TE := fun σ H Q => t σ H fun xs H1 => xs.length ≤ sizeLine ∧ ∀ p, H1 p = none → Q (.ref p) (upd H1 p (.lst xs))
theorem pe_tup {x1} (h : PA X es t) : PE X (.Tuple es x1 pos) (tTup t) := by
  intro pins s σ H Q I hq
  refine wpAny_Tuple_spliced (thn (h pos pins s σ H _ I hq) fun us s1 ⟨xs, H1, I1, r, z, q⟩ => ⟨by rw [← r.length]; exact z, ?_⟩)
  have hf : H1 s1.heap.objs.size = none := I1.hok.fresh (Nat.le_refl _)
  refine ⟨.ref s1.heap.objs.size, upd H1 s1.heap.objs.size (.tup xs), I1.laid (t' := s1.toks) (fun b u e => Heap.get?_push_of_some _ e) (Nat.le_refl _) ?_, rfl, q _ hf⟩
  exact ⟨z, us, r, ⟨_, Heap.get?_push_size _ rfl, rfl, _, rfl⟩⟩
theorem pe_lst (h : PA X es t) : PE X (.List es pos) (tLst t) := by
  intro pins s σ H Q I hq
  refine wpAny_List_spliced (thn (h pos pins s σ H _ I hq) fun us s1 ⟨xs, H1, I1, r, z, q⟩ => ⟨by rw [← r.length]; exact z, ?_⟩)
  have hf : H1 s1.heap.objs.size = none := I1.hok.fresh (Nat.le_refl _)
  refine ⟨.ref s1.heap.objs.size, upd H1 s1.heap.objs.size (.lst xs), I1.laid (t' := s1.toks) (fun b u e => Heap.get?_push_of_some _ e) (Nat.le_refl _) ?_, rfl, q _ hf⟩
  exact ⟨z, us, 0, r, Heap.get?_push_size _ rfl⟩
end

/-! ### what a def promises -/
/-- a def's promise: the bound arguments in the parameters' order, the heap, the wanted end, the wanted exception -/
abbrev Sp := List V → Hp → VK → XK → Prop
/-- how an exception lies behind a call (file 08 gives it): the callers' frames, abstract heap and state ahead of the call, the wish, the exception, the state -/
abbrev CXT := List Env → Hp → Shared → XK → Value → Shared → Prop

/-- the state at a call -/
structure Env0 (P : Program) (w : World) (K : PySem.W.Frag) (mg : Str → Option Value) (base : Heap) (A : Around) (outer : List Env) (s : Shared) (H : Hp) : Prop where
  frames : A.frames = some outer
  mod : Mod K mg base
  bs : ∀ b o, base.get? b = some o → s.heap.get? b = some o ∧ H b = none
  bsz : base.objs.size ≤ s.heap.objs.size
  funs : s.heap.FunFrames base outer
  frf : ∀ b ∈ frs outer, H b = none
  hok : HOk P w H s.heap
  bare : AllBare s.gens
/-- a call's end -/
def CE (outer : List Env) (P : Program) (w : World) (H : Hp) (s : Shared) (Q : VK) (u : Value) (s' : Shared) : Prop :=
  ∃ v H', s'.os = s.os ∧ AllBare s'.gens ∧ Un (frs outer) [] H H' s.heap s'.heap ∧ HOk P w H' s'.heap ∧ RelV v u ∧ Q v H'
def CR (CX : CXT) (outer : List Env) (P : Program) (w : World) (H : Hp) (s : Shared) (Q : VK) (E : XK) (r : Result) (s' : Shared) : Prop :=
  match r with
  | .ok (.ret u) => CE outer P w H s Q u s'
  | .ok _ => False
  | .error e => CX outer H s E e s'
structure FnOk (P : Program) (w : World) (K : PySem.W.Frag) (mg : Str → Option Value) (base : Heap) (CX : CXT) (k : Nat) (f : Addr) (fd : FuncData) (ps : List Str) (sp : Sp) : Prop where
  len : ∀ vs H Q E, sp vs H Q E → vs.length = ps.length
  run : ∀ (A : Around) (outer : List Env) (s : Shared) (H : Hp) (args : Args) (us : List Value) (vs : List V) (Q : VK) (E : XK), Room k A → Env0 P w K mg base A outer s H → BindsTo s fd args (ps.zip us) → Vals vs us → sp vs H Q E →
    codeAny (model P w) A (.call (.ref f) args) (CR CX outer P w H s Q E) s
theorem FnOk.mono {P : Program} {w : World} {K : PySem.W.Frag} {mg : Str → Option Value} {base : Heap} {CX : CXT} {j k : Nat} {f : Addr} {fd : FuncData} {ps : List Str} {sp : Sp} (F : FnOk P w K mg base CX j f fd ps sp) (h : j ≤ k) :
    FnOk P w K mg base CX k f fd ps sp := ⟨F.len, fun A outer s H args us vs Q E hr => F.run A outer s H args us vs Q E (hr.mono h)⟩
/-- a weaker promise -/
theorem FnOk.imp {P : Program} {w : World} {K : PySem.W.Frag} {mg : Str → Option Value} {base : Heap} {CX : CXT} {k : Nat} {f : Addr} {fd : FuncData} {ps : List Str} {sp sp' : Sp} (F : FnOk P w K mg base CX k f fd ps sp)
    (h : ∀ vs H Q E, sp' vs H Q E → sp vs H Q E) : FnOk P w K mg base CX k f fd ps sp' :=
  ⟨fun vs H Q E q => F.len vs H Q E (h _ _ _ _ q), fun A outer s H args us vs Q E hr he hb hv hs => F.run A outer s H args us vs Q E hr he hb hv (h _ _ _ _ hs)⟩

theorem Env0.make {P : Program} {w : World} {K : PySem.W.Frag} {mg : Str → Option Value} {base : Heap} {A : Around} {outer : List Env} {s : Shared} {H : Hp} (e : Env0 P w K mg base A outer s H) (C : Addr) (us : List Value) (kw : List (Str × Value)) :
    Env0 P w K mg base (A.under (.builtin "type.__call__" ⟨.ref C :: us, kw⟩)) outer s H := ⟨by first | exact e.frames | (simpa [Around.under, Code.envs, Code.isFrame, pushEnvs] using e.frames), e.mod, e.bs, e.bsz, e.funs, e.frf, e.hok, e.bare⟩
theorem Env0.in1 {P : Program} {w : World} {K : PySem.W.Frag} {mg : Str → Option Value} {base : Heap} {A : Around} {outer : List Env} {s : Shared} {H : Hp} (e : Env0 P w K mg base A outer s H) :
    Env0 P w K mg base A.in1 outer s H := ⟨e.frames, e.mod, e.bs, e.bsz, e.funs, e.frf, e.hok, e.bare⟩

section
variable {X : Cx} {pins : List (Addr × Obj)} {σ : St} {H : Hp} {s s' : Shared}
/-- from a body: what a callee wants -/
theorem Inv.env0 (I : Inv X pins σ H s) : Env0 X.prog X.w X.K X.mg X.base X.A X.stack s H :=
  ⟨I.ok.frames, I.ok.mod, I.bs, Nat.le_trans I.ok.bsz I.sz, I.stack, I.stkFree, I.hok, I.bare⟩
/-- behind a call -/
theorem Inv.after {Q : VK} {u : Value} (I : Inv X pins σ H s) (h : CE X.stack X.prog X.w H s Q u s') : EP X pins σ Q u s' := by
  obtain ⟨v, H', os, bare, un, hok, r, q⟩ := h
  obtain ⟨hh, g, d, t, os'⟩ := s'
  obtain rfl : os' = s.os := os
  exact ⟨v, H', I.call (h' := hh) (g' := g) (d' := d) (t' := t) (ch := []) un hok bare (fun b z => absurd z (by simp)), r, q⟩
end

/-! ### calls -/
/-- f(..): the written arguments, then the defaults dvs; E: what is wanted of an exception -/
def tCall (sp : Sp) (dvs : List V) (E : XK) (t : TA) : TE := fun σ H Q => t σ H fun vs H1 => sp (vs ++ dvs) H1 Q E
/-- o.m(..) of an instance of the class at C -/
def tMeth (C : Addr) (m : Str) (sp : Sp) (dvs : List V) (E : XK) (ta : TE) (t : TA) : TE := fun σ H Q => ta σ H fun x H1 => ∃ a dx fs, x = .ref a ∧ H1 a = some (.ins C dx fs) ∧ fs.lookup m = none ∧
  t σ H1 fun vs H2 => sp (x :: (vs ++ dvs)) H2 Q E
/-- C(..): a new instance and its dict, then __init__ -/
def tMake (C : Addr) (sp : Sp) (dvs : List V) (E : XK) (t : TA) : TE := fun σ H Q => t σ H fun vs H1 => ∀ x dx, H1 x = none → H1 dx = none → dx ≠ x →
  sp (.ref x :: (vs ++ dvs)) (upd (upd H1 dx (.own x)) x (.ins C dx [])) (fun v H2 => v = .non ∧ Q (.ref x) H2) E

/-- how the parameters are bound: us the positional arguments, kw the keywords' values by name, ds the defaults that fill up -/
def Binds (K : PySem.W.Frag) (fd : FuncData) (ps : List Str) (ds : List Value) : Prop :=
  ∀ (s : Shared) (us : List Value), K.In s.heap → (us ++ ds).length = ps.length → BindsTo s fd ⟨us, []⟩ (ps.zip (us ++ ds))
/-- every parameter is given -/
theorem Binds.all {K : PySem.W.Frag} {fd : FuncData} {ps : List Str} (h : ∀ us : List Value, us.length = ps.length → bindArgs fd ⟨us, []⟩ = pure (ps.zip us)) : Binds K fd ps [] := fun s us _ hl => by
  rw [List.append_nil] at hl ⊢
  exact .of_eq (h us hl)

/-- an exception of a callee reaches what this body wants of exceptions -/
def Passes (CX : CXT) (X : Cx) (E : XK) : Prop := ∀ (pins : List (Addr × Obj)) (σ : St) (H : Hp) (s : Shared) (e : Value) (s' : Shared), Inv X pins σ H s → CX X.stack H s E e s' → X.xe e s'

section
variable {X : Cx} {CX : CXT} {k : Nat} {f C : Addr} {fd : FuncData} {ps : List Str} {sp : Sp} {dvs : List V} {ds : List Value} {E : XK} {x m : Str} {p pos apos : Pos} {e o : Expr} {es : List Expr} {ta : TE} {t : TA}

/-- the callee runs -/
theorem run_fn {pins : List (Addr × Obj)} {σ : St} {H : Hp} {s : Shared} {Q : VK} {us : List Value} {vs : List V} (F : FnOk X.prog X.w X.K X.mg X.base CX k f fd ps sp) (hr : Room k X.A) (hb : Binds X.K fd ps ds) (hd : Vals dvs ds) (hx : Passes CX X E)
    (I : Inv X pins σ H s) (r : Vals vs us) (h : sp (vs ++ dvs) H Q E) : wpAny (model X.prog X.w) X.A (call (.ref f) us) (EP X pins σ Q) X.xe s := by
  have r2 : Vals (vs ++ dvs) (us ++ ds) := r.append hd
  have hl : (us ++ ds).length = ps.length := by rw [← r2.length]; exact F.len _ _ _ _ h
  refine wpAny_call (codeAny_mono (F.run X.A X.stack s H ⟨us, []⟩ (us ++ ds) (vs ++ dvs) Q E hr I.env0 (hb s us I.kIn hl) r2 h) fun r s' hq => ?_)
  cases r with
  | error e => exact hx pins σ H s e s' I hq
  | ok fl =>
    cases fl with
    | ret u => exact I.after hq
    | next => exact False.elim hq
    | brk => exact False.elim hq
    | cont => exact False.elim hq

theorem pe_call (F : FnOk X.prog X.w X.K X.mg X.base CX k f fd ps sp) (hr : Room k X.A) (hg : Gl X x) (hm : X.mg x = some (.ref f)) (hk : PySem.W.keepIn X.K (.ref f) = true) (hb : Binds X.K fd ps ds) (hd : Vals dvs ds) (hx : Passes CX X E)
    (ha : PA X (e :: es) t) (hdb : (x == ("__debug__" : Str)) = false := by decide) (he : starEach (e :: es) X.env = (false, eval e X.env) :: starEach es X.env := by rfl) (hpl : (backTo pos (starEach es X.env)).any (·.1) = false := by rfl) :
    PE X (.Call (.Name x p) (e :: es) [] pos) (tCall sp dvs E t) := by
  intro pins s σ H Q I h
  refine wpAny_Call_Name_kw (ld_glob I hg hm ?_ hdb)
  refine PySem.W.callWith_K (h₀ := X.base) I.ok.mod.kin hk (thn (ha pos pins s σ H _ I h) fun us s1 ⟨vs, H1, I1, r, q⟩ => ⟨I1.kIn, ?_⟩) he hpl
  exact run_fn F hr hb hd hx I1 r q
theorem pe_call0 (F : FnOk X.prog X.w X.K X.mg X.base CX k f fd ps sp) (hr : Room k X.A) (hg : Gl X x) (hm : X.mg x = some (.ref f)) (hk : PySem.W.keepIn X.K (.ref f) = true) (hb : Binds X.K fd ps ds) (hd : Vals dvs ds) (hx : Passes CX X E)
    (hdb : (x == ("__debug__" : Str)) = false := by decide) : PE X (.Call (.Name x p) [] [] pos) (tCall sp dvs E tNil) := by
  intro pins s σ H Q I h
  refine wpAny_Call_Name_kw (ld_glob I hg hm ?_ hdb)
  exact PySem.W.callWith_K0 I.kIn hk (run_fn (us := []) F hr hb hd hx I .nil h)

/-- o.m(e, ..) -/
theorem pe_meth {pl : Sem Bool} (he : PE X o ta) (c : Cls X.K C) (hm : Meth X.K C m f) (F : FnOk X.prog X.w X.K X.mg X.base CX k f fd ps sp) (hr : Room k X.A) (hb : Binds X.K fd ps ds) (hd : Vals dvs ds) (hx : Passes CX X E) (ha : PA X (e :: es) t)
    (hst : starEach (e :: es) X.env = (false, eval e X.env) :: starEach es X.env := by rfl) (hpl : (backTo pos (starEach es X.env)).any (·.1) = false := by rfl)
    (ht : eval (.Call (.Attribute o m apos) (e :: es) [] pos) X.env = (do
      let ov ← eval o X.env
      standAt apos.atName
      let (f, first) ← holding [ov] (getMethod ov m pl)
      callWith pos f first (backTo pos (starEach (e :: es) X.env)) (backToKw pos (keywordEach [] X.env))) := by rfl) :
    PE X (.Call (.Attribute o m apos) (e :: es) [] pos) (tMeth C m sp dvs E ta t) := by
  intro pins s σ H Q I h
  refine PySem.W.methodCall_KW (pl := pl) (thn (he pins s σ H _ I h) fun u s1 ⟨x, H1, I1, rx, a, dx, fs, ex, ea, l, q⟩ => ?_) ht
  subst ex
  obtain rfl : u = Value.ref a := rx
  refine getmeth_ok I1 ea c hm l ?_
  refine PySem.W.callWith_K (first := [.ref a]) (h₀ := X.base) I.ok.mod.kin hm.kp (thn (ha pos pins s1 σ H1 _ I1 q) fun us s2 ⟨vs, H2, I2, r, q2⟩ => ⟨I2.kIn, ?_⟩) hst hpl
  exact run_fn (us := .ref a :: us) (vs := .ref a :: vs) F hr hb hd hx I2 (.cons rfl r) q2
/-- o.m() -/
theorem pe_meth0 {pl : Sem Bool} (he : PE X o ta) (c : Cls X.K C) (hm : Meth X.K C m f) (F : FnOk X.prog X.w X.K X.mg X.base CX k f fd ps sp) (hr : Room k X.A) (hb : Binds X.K fd ps ds) (hd : Vals dvs ds) (hx : Passes CX X E)
    (ht : eval (.Call (.Attribute o m apos) [] [] pos) X.env = (do
      let ov ← eval o X.env
      standAt apos.atName
      let (f, first) ← holding [ov] (getMethod ov m pl)
      callWith pos f first (backTo pos (starEach [] X.env)) (backToKw pos (keywordEach [] X.env))) := by rfl) :
    PE X (.Call (.Attribute o m apos) [] [] pos) (tMeth C m sp dvs E ta tNil) := by
  intro pins s σ H Q I h
  refine PySem.W.methodCall_KW (pl := pl) (thn (he pins s σ H _ I h) fun u s1 ⟨x, H1, I1, rx, a, dx, fs, ex, ea, l, q⟩ => ?_) ht
  subst ex
  obtain rfl : u = Value.ref a := rx
  refine getmeth_ok I1 ea c hm l ?_
  exact PySem.W.callWith_K0 (first := [.ref a]) I1.kIn hm.kp (run_fn (us := [.ref a]) (vs := [.ref a]) F hr hb hd hx I1 (.cons rfl .nil) q)

/-- what a class must have to be made -/
structure Mk (K : PySem.W.Frag) (C f : Addr) : Prop where
  makes : PySem.W.makesIn K C = true
  init : PySem.W.findIn K (.ref C) "__init__" = some (some (.ref f))
  fn : PySem.W.isFn K (.ref f) = true
  kp : PySem.W.keepIn K (.ref C) = true

theorem run_make {pins : List (Addr × Obj)} {σ : St} {H : Hp} {s : Shared} {Q : VK} {us : List Value} {vs : List V} (M : Mk X.K C f) (F : FnOk X.prog X.w X.K X.mg X.base CX k f fd ps sp) (hr : Room (k + 1) X.A) (hb : Binds X.K fd ps ds) (hd : Vals dvs ds)
    (hx : Passes CX X E) (I : Inv X pins σ H s) (r : Vals vs us)
    (h : ∀ x dx, H x = none → H dx = none → dx ≠ x → sp (.ref x :: (vs ++ dvs)) (upd (upd H dx (.own x)) x (.ins C dx [])) (fun v H2 => v = .non ∧ Q (.ref x) H2) E) :
    wpAny (model X.prog X.w) X.A (call (.ref C) us) (EP X pins σ Q) X.xe s := by
  have hq := h (s.heap.objs.size + 1) s.heap.objs.size (I.hok.fresh (Nat.le_succ _)) (I.hok.fresh (Nat.le_refl _)) (Nat.ne_of_lt (Nat.lt_succ_self _))
  have I2 := Inv.made (C := C) I
  have r2 : Vals (V.ref (s.heap.objs.size + 1) :: (vs ++ dvs)) (Value.ref (s.heap.objs.size + 1) :: (us ++ ds)) := .cons rfl (r.append hd)
  have hl : (Value.ref (s.heap.objs.size + 1) :: us ++ ds).length = ps.length := by
    have e := r2.length
    rw [F.len _ _ _ _ hq] at e
    exact e.symm
  refine wpAny_call (make_map (f := f) I.kIn M.makes M.init (beq_iff_eq.mp M.fn) (codeAny_mono (F.run _ X.stack _ _ ⟨Value.ref (s.heap.objs.size + 1) :: us, []⟩ (Value.ref (s.heap.objs.size + 1) :: (us ++ ds)) _ _ E (hr.make C us [])
    (I2.env0.make C us []) (hb _ (Value.ref (s.heap.objs.size + 1) :: us) I2.kIn hl) r2 hq) fun r s' hq' => ?_))
  cases r with
  | error e => exact hx pins σ _ _ e s' I2 hq'
  | ok fl =>
    cases fl with
    | ret u =>
      obtain ⟨v, H', I3, rv, ev, q3⟩ := I2.after hq'
      subst ev
      exact ⟨rv, ⟨V.ref (s.heap.objs.size + 1), H', I3, rfl, q3⟩⟩
    | next => exact False.elim hq'
    | brk => exact False.elim hq'
    | cont => exact False.elim hq'
theorem pe_make (M : Mk X.K C f) (F : FnOk X.prog X.w X.K X.mg X.base CX k f fd ps sp) (hr : Room (k + 1) X.A) (hg : Gl X x) (hm : X.mg x = some (.ref C)) (hb : Binds X.K fd ps ds) (hd : Vals dvs ds) (hx : Passes CX X E)
    (ha : PA X (e :: es) t) (hdb : (x == ("__debug__" : Str)) = false := by decide) (he : starEach (e :: es) X.env = (false, eval e X.env) :: starEach es X.env := by rfl) (hpl : (backTo pos (starEach es X.env)).any (·.1) = false := by rfl) :
    PE X (.Call (.Name x p) (e :: es) [] pos) (tMake C sp dvs E t) := by
  intro pins s σ H Q I h
  refine wpAny_Call_Name_kw (ld_glob I hg hm ?_ hdb)
  refine PySem.W.callWith_K (h₀ := X.base) I.ok.mod.kin M.kp (thn (ha pos pins s σ H _ I h) fun us s1 ⟨vs, H1, I1, r, q⟩ => ⟨I1.kIn, ?_⟩) he hpl
  exact run_make M F hr hb hd hx I1 r q
theorem pe_make0 (M : Mk X.K C f) (F : FnOk X.prog X.w X.K X.mg X.base CX k f fd ps sp) (hr : Room (k + 1) X.A) (hg : Gl X x) (hm : X.mg x = some (.ref C)) (hb : Binds X.K fd ps ds) (hd : Vals dvs ds) (hx : Passes CX X E)
    (hdb : (x == ("__debug__" : Str)) = false := by decide) : PE X (.Call (.Name x p) [] [] pos) (tMake C sp dvs E tNil) := by
  intro pins s σ H Q I h
  refine wpAny_Call_Name_kw (ld_glob I hg hm ?_ hdb)
  exact PySem.W.callWith_K0 I.kIn M.kp (run_make (us := []) M F hr hb hd hx I .nil h)
end

/-! ### keywords -/
/-- the values of the keywords, from the left -/
def PK (X : Cx) (kws : List Keyword) (t : TA) : Prop :=
  ∀ (pos : Pos) (pins : List (Addr × Obj)) (s : Shared) (σ : St) (H : Hp) (Q : List V → Hp → Prop), Inv X pins σ H s → t σ H Q → wpAny (model X.prog X.w) X.A (evalAll ((backToKw pos (keywordEach kws X.env)).map (·.2))) (AP X pins σ Q) X.xe s
section
variable {X : Cx} {CX : CXT} {k : Nat} {f C : Addr} {fd : FuncData} {ps ks : List Str} {sp : Sp} {E : XK} {x m : Str} {p pos apos kpos : Pos} {e o : Expr} {es : List Expr} {kws : List Keyword} {te ta : TE} {t tk : TA} {nm : Option Str}
theorem pk_nil : PK X [] tNil := fun _ _ _ _ H Q I h => wpAny_evalAll_nil ⟨[], H, I, .nil, h⟩
theorem pk_cons (ha : PE X e te) (hr : PK X kws t) : PK X (⟨nm, e, kpos⟩ :: kws) (tCons te t) := by
  intro pos pins s σ H Q I h
  show wpAny _ _ (evalAll ((do let v ← eval e X.env; standAt pos; pure v) :: (backToKw pos (keywordEach kws X.env)).map (·.2))) _ _ s
  refine wpAny_evalAll_cons (wpAny_bind (thn (ha pins s σ H _ I h) fun u s1 ⟨x, H1, I1, r1, q1⟩ => wpAny_bind (wpAny_standAt (wpAny_pure ?_))))
  exact thn (hr pos pins s1 σ H1 _ I1 q1) fun us s2 ⟨xs, H2, I2, r2, q2⟩ => ⟨x :: xs, H2, I2, .cons r1 r2, q2⟩

/-- how a call with keywords binds: g puts the positional values us and the keywords' values ws (names ks) in the parameters' order, defaults among them -/
structure KBinds (K : PySem.W.Frag) (fd : FuncData) (ps ks : List Str) (g : List Value → List Value → List Value) (gV : List V → List V → List V) : Prop where
  to : ∀ (s : Shared) (us ws : List Value), K.In s.heap → (g us ws).length = ps.length → BindsTo s fd ⟨us, ks.zip ws⟩ (ps.zip (g us ws))
  rel : ∀ {vs : List V} {us : List Value} {zs : List V} {ws : List Value}, Vals vs us → Vals zs ws → Vals (gV vs zs) (g us ws)
def tCallK (sp : Sp) (gV : List V → List V → List V) (E : XK) (t tk : TA) : TE := fun σ H Q => t σ H fun vs H1 => tk σ H1 fun zs H2 => sp (gV vs zs) H2 Q E
variable {g : List Value → List Value → List Value} {gV : List V → List V → List V}
theorem run_fnk {pins : List (Addr × Obj)} {σ : St} {H : Hp} {s : Shared} {Q : VK} {us ws : List Value} {vs zs : List V} (F : FnOk X.prog X.w X.K X.mg X.base CX k f fd ps sp) (hr : Room k X.A) (hb : KBinds X.K fd ps ks g gV) (hx : Passes CX X E)
    (I : Inv X pins σ H s) (r : Vals vs us) (rz : Vals zs ws) (h : sp (gV vs zs) H Q E) : wpAny (model X.prog X.w) X.A (call (.ref f) us (ks.zip ws)) (EP X pins σ Q) X.xe s := by
  have r2 := hb.rel r rz
  have hl : (g us ws).length = ps.length := by rw [← r2.length]; exact F.len _ _ _ _ h
  refine wpAny_call (codeAny_mono (F.run X.A X.stack s H ⟨us, ks.zip ws⟩ (g us ws) (gV vs zs) Q E hr I.env0 (hb.to s us ws I.kIn hl) r2 h) fun r s' hq => ?_)
  cases r with
  | error e => exact hx pins σ H s e s' I hq
  | ok fl =>
    cases fl with
    | ret u => exact I.after hq
    | next => exact False.elim hq
    | brk => exact False.elim hq
    | cont => exact False.elim hq
/-- f(e, .., k = v, ..) -/
theorem pe_callK (F : FnOk X.prog X.w X.K X.mg X.base CX k f fd ps sp) (hr : Room k X.A) (hg : Gl X x) (hm : X.mg x = some (.ref f)) (hk : PySem.W.keepIn X.K (.ref f) = true) (hb : KBinds X.K fd ps ks g gV) (hx : Passes CX X E)
    (ha : PA X (e :: es) t) (hkw : PK X kws tk) (hall : (backToKw pos (keywordEach kws X.env)).all (·.1.isSome) = true := by rfl) (hks : (backToKw pos (keywordEach kws X.env)).filterMap (·.1) = ks := by rfl)
    (hdb : (x == ("__debug__" : Str)) = false := by decide) (he : starEach (e :: es) X.env = (false, eval e X.env) :: starEach es X.env := by rfl)
    (hpl : ((backTo pos (starEach (e :: es) X.env)).any (·.1) || (backToKw pos (keywordEach kws X.env)).any (·.1.isNone)) = false := by rfl) :
    PE X (.Call (.Name x p) (e :: es) kws pos) (tCallK sp gV E t tk) := by
  intro pins s σ H Q I h
  refine wpAny_Call_Name_kw (ld_glob I hg hm ?_ hdb)
  refine PySem.W.callWith_KW (h₀ := X.base) I.ok.mod.kin hk hall (thn (ha pos pins s σ H _ I h) fun us s1 ⟨vs, H1, I1, r, q⟩ => ?_) hpl he
  refine thn (hkw pos pins s1 σ H1 _ I1 q) fun ws s2 ⟨zs, H2, I2, rz, q2⟩ => ⟨I2.kIn, ?_⟩
  rw [hks]
  exact run_fnk F hr hb hx I2 r rz q2
end

/-! ### a def's body keeps its promise -/
/-- names: the parameters first -/
structure FnScope (N P : List Str) (sc : Scope) : Prop where
  kind : sc.kind = .function
  co : sc.isCoroutine = false
  gen : sc.isGenerator = false
  nd : N.Nodup
  pre : N.take P.length = P
  par : ∀ x ∈ P, sc.names.lookup x = some .local ∨ sc.names.lookup x = some .cell
  nofree : ∀ y ∈ sc.names, y.2 ≠ .free

theorem bindL_out {kindOf : Str → Option NameKind} {x : Str} : ∀ {binds : List (Str × Value)} {m : Str → Option Value}, (∀ v, (x, v) ∉ binds) → bindL kindOf binds m x = m x
  | [], _, _ => rfl
  | (n, v) :: r, m, h => by
    unfold bindL
    rw [bindL_out fun w hw => h w (List.mem_cons_of_mem _ hw)]
    split
    · have : x ≠ n := by rintro rfl; exact h v List.mem_cons_self
      simp [this]
    · rfl
theorem bindC_out {kindOf : Str → Option NameKind} {x : Str} : ∀ {binds : List (Str × Value)} {m : Str → Option Value}, (∀ v, (x, v) ∉ binds) → bindC kindOf binds m x = m x
  | [], _, _ => rfl
  | (n, v) :: r, m, h => by
    unfold bindC
    rw [bindC_out fun w hw => h w (List.mem_cons_of_mem _ hw)]
    split
    · rfl
    · have : x ≠ n := by rintro rfl; exact h v List.mem_cons_self
      simp [this]
theorem bindL_get {kindOf : Str → Option NameKind} {x : Str} {v : Value} : ∀ {P : List Str} {vs : List Value} {i : Nat} {m : Str → Option Value}, P.Nodup → P[i]? = some x → vs[i]? = some v → kindOf x = some .local →
    bindL kindOf (P.zip vs) m x = some v
  | [], _, _, _, _, h, _, _ => by simp at h
  | _ :: _, [], _, _, _, _, h, _ => by simp at h
  | p :: P, w :: vs, 0, m, nd, h1, h2, hk => by
    simp at h1 h2; subst h1; subst h2
    show bindL kindOf ((p, w) :: P.zip vs) m p = _
    unfold bindL
    rw [bindL_out fun v hv => (List.nodup_cons.mp nd).1 (List.of_mem_zip hv).1, if_pos hk]
    simp
  | p :: P, w :: vs, i + 1, m, nd, h1, h2, hk => by
    show bindL kindOf ((p, w) :: P.zip vs) m x = _
    unfold bindL
    exact bindL_get (i := i) (List.nodup_cons.mp nd).2 (by simpa using h1) (by simpa using h2) hk
theorem bindC_get {kindOf : Str → Option NameKind} {x : Str} {v : Value} : ∀ {P : List Str} {vs : List Value} {i : Nat} {m : Str → Option Value}, P.Nodup → P[i]? = some x → vs[i]? = some v → kindOf x ≠ some .local →
    bindC kindOf (P.zip vs) m x = some v
  | [], _, _, _, _, h, _, _ => by simp at h
  | _ :: _, [], _, _, _, _, h, _ => by simp at h
  | p :: P, w :: vs, 0, m, nd, h1, h2, hk => by
    simp at h1 h2; subst h1; subst h2
    show bindC kindOf ((p, w) :: P.zip vs) m p = _
    unfold bindC
    rw [bindC_out fun v hv => (List.nodup_cons.mp nd).1 (List.of_mem_zip hv).1, if_neg hk]
    simp
  | p :: P, w :: vs, i + 1, m, nd, h1, h2, hk => by
    show bindC kindOf ((p, w) :: P.zip vs) m x = _
    unfold bindC
    exact bindC_get (i := i) (List.nodup_cons.mp nd).2 (by simpa using h1) (by simpa using h2) hk

/-- the names' values at the entry -/
def start (N : List Str) (vs : List V) : St := vs.map some ++ List.replicate (N.length - vs.length) none

/-- the context of a def's body, at its entry; an exception leaves the frame, then lies as CX says -/
def cxOf (CX : CXT) (P : Program) (w : World) (K : PySem.W.Frag) (mg : Str → Option Value) (base : Heap) (N : List Str) (qual : Str) (scope : Scope) (f : Addr) (cd : Value) (A : Around) (outer : List Env) (s : Shared) (H : Hp) (E : XK) : Cx where
  prog := P
  w := w
  K := K
  mg := mg
  base := base
  A := A.deeper (envOfC qual scope s.heap.objs.size f cd)
  N := N
  s₀ := s
  H₀ := H
  env := envOfC qual scope s.heap.objs.size f cd
  outer := outer
  stack := envOfC qual scope s.heap.objs.size f cd :: outer
  ex := []
  calm := true
  fn := fun _ => true
  pn := []
  xe := fun e s' => wpAny (model P w) (A.deeper (envOfC qual scope s.heap.objs.size f cd)) (leaving (envOfC qual scope s.heap.objs.size f cd) e) (fun _ s'' => CX outer H s E e s'') (fun e' s'' => CX outer H s E e' s'') s'

theorem cell_has {sc : Scope} {n : Nat} {x : Str} (h : sc.names.lookup x = some .cell) : ∃ c, (cellsFrom n sc.names []).lookup x = some c := by
  have q := PySem.W.cellsFrom_some sc.names n [] (.inl h)
  exact Option.isSome_iff_exists.mp q

theorem inv_start {CX : CXT} {P : Program} {w : World} {K : PySem.W.Frag} {mg : Str → Option Value} {base : Heap} {N ps : List Str} {qual : Str} {scope : Scope} {f : Addr} {cd : Value} {A : Around} {outer : List Env} {s s1 : Shared} {H : Hp} {E : XK} {us : List Value} {vs : List V}
    (S : FnScope N ps scope) (hd : A.handled = none) (e0 : Env0 P w K mg base A outer s H) (hl : vs.length = ps.length) (r : Vals vs us)
    (x : InCallC s s.heap.objs.size (bindL (envOfC qual scope s.heap.objs.size f cd).kindOf (ps.zip us) fun _ => none) (cellsFrom (s.heap.objs.size + 1) scope.names []) (bindC (envOfC qual scope s.heap.objs.size f cd).kindOf (ps.zip us) fun _ => none) s1) :
    Inv (cxOf CX P w K mg base N qual scope f cd A outer s H E) [] (start N vs) H s1 := by
  have hpl : ps.length ≤ N.length := by have := congrArg List.length S.pre; rw [List.length_take] at this; omega
  obtain ⟨h1, tk, rfl, hk⟩ := x.done
  have noA : ∀ b : Addr, b ∉ (cxOf CX P w K mg base N qual scope f cd A outer s H E).ex := fun b z => absurd (show b ∈ ([] : List Addr) from z) (by simp)
  refine ⟨⟨e0.mod, S.kind, rfl, rfl, Nat.le_refl _, fun y z c h1 h2 => ?_, fun y hy => ?_, fun y c _ h => ?_, fun _ => hd, Around.frames_deeper e0.frames, .inr ⟨rfl, rfl⟩, fun b z => absurd z (noA b), e0.bs, e0.bsz, fun b _ _ => noA b, fun b z => absurd z (noA b), e0.funs, e0.frf⟩,
    rfl, e0.bare, Un.kept hk, ⟨_, x.toInCall.ns, fun i y v h1 h2 h3 => ?_⟩, fun y c h => ⟨_, x.cell y c h⟩, e0.hok.fresh (Nat.le_refl _), fun y c h => ?_, fun p hp => absurd (show p ∈ ([] : List (Addr × Obj)) from hp) (by simp), e0.hok.kept hk, ?_⟩
  · exact name_of_addr x.apart (PySem.mem_of_lookup h1) (PySem.mem_of_lookup h2)
  · have hy : scope.names.lookup y = some .cell ∨ scope.names.lookup y = some .free := hy
    rcases hy with hy | hy
    · exact cell_has hy
    · exact absurd rfl (S.nofree _ (PySem.mem_of_lookup hy))
  · exact Nat.le_of_lt (x.above y c (PySem.mem_of_lookup h))
  · have hi : i < vs.length := by
      unfold start at h2
      by_cases hi : i < vs.length
      · exact hi
      · rw [List.getElem?_append_right (by simpa using hi)] at h2
        rw [List.getElem?_replicate] at h2
        split at h2 <;> cases h2
    have ha : vs[i]? = some v := by
      unfold start at h2
      rw [List.getElem?_append_left (by simpa using hi), List.getElem?_map] at h2
      cases e : vs[i]? with
      | none => rw [e] at h2; cases h2
      | some a => rw [e] at h2; cases h2; rfl
    obtain ⟨u, hu, rv⟩ := r.get ha
    have hp : ps[i]? = some y := by
      rw [← S.pre, List.getElem?_take_of_lt (by omega)]; exact h1
    have ndP : ps.Nodup := by rw [← S.pre]; exact S.nd.sublist (List.take_sublist _ _)
    refine ⟨u, rv, ?_⟩
    rcases S.par y (List.mem_of_getElem? hp) with k | k
    · exact .inl ⟨k, bindL_get ndP hp hu k⟩
    · obtain ⟨c, e⟩ := cell_has (n := s.heap.objs.size + 1) k
      refine .inr ⟨.inl k, c, e, ?_⟩
      have q := x.cell y c e
      rw [bindC_get ndP hp hu (by show scope.names.lookup y ≠ _; rw [k]; decide)] at q
      exact q
  · exact e0.hok.fresh (Nat.le_of_lt (x.above y c (PySem.mem_of_lookup h)))
  · unfold start
    show _ = N.length
    rw [List.length_append, List.length_map, List.length_replicate]
    omega

/-- THE RULE: a def (or a method) of the text, by its body. The body's reading t is chosen for each entry; it is run at the parameters' values -/
theorem fn_of {CX : CXT} {P : Program} {w : World} {K : PySem.W.Frag} {mg : Str → Option Value} {base : Heap} {k : Nat} {f : Addr} {name qual : Str} {params : Arguments} {body : List Stmt} {scope : Scope} {dV kV doc pm cdv ct oc : Value} {an od : Option Addr}
    {osl : Array (Option Value)} {N ps : List Str} {sp : Sp} (lk : K.lookup f = some ⟨oc, od, .func (PySem.W.fnOf name qual params body scope dV kV doc pm an cdv ct), osl⟩) (hcd : PySem.W.codeIn K cdv qual = true) (S : FnScope N ps scope)
    (len : ∀ vs H Q E, sp vs H Q E → vs.length = ps.length)
    (hbody : ∀ (A : Around) (outer : List Env) (s : Shared) (H : Hp) (vs : List V) (Q : VK) (E : XK), Room k (A.deeper (envOfC qual scope s.heap.objs.size f cdv)) → sp vs H Q E →
      ∃ t, PSs (cxOf CX P w K mg base N qual scope f cdv A outer s H E) body t ∧ t { nx := fun _ H' => Q .non H', rt := Q } (start N vs) H) :
    FnOk P w K mg base CX (k + 1) f (PySem.W.fnOf name qual params body scope dV kV doc pm an cdv ct) ps sp := by
  refine ⟨len, fun A outer s H args us vs Q E hr e0 hb r hsp => ?_⟩
  have hl := len _ _ _ _ hsp
  have KX : K.In s.heap := e0.mod.kin.keeps fun b o e => (e0.bs b o e).1
  have lim : s.heap.NoLimit := e0.mod.nolimit.keeps fun b o e => (e0.bs b o e).1
  have hkind : ∀ y ∈ ps.zip us, scope.names.lookup y.1 = some .local ∨ (scope.names.lookup y.1 = some .cell ∧ ((cellsFrom (s.heap.objs.size + 1) scope.names []).lookup y.1).isSome = true) := fun ⟨n, v⟩ hy => by
    rcases S.par n (List.of_mem_zip hy).1 with q | q
    · exact .inl q
    · exact .inr ⟨q, PySem.W.cellsFrom_some _ _ _ (.inl q)⟩
  refine codeAny_call_function hr.depth (KX _ _ lk) rfl S.co S.gen rfl (PySem.W.codeRec_of KX hcd) (hb _ _ _ _ ?_)
  refine wpAny_newFunctionEnv_cells S.kind hkind fun env he s1 x => ?_
  subst he
  refine ⟨lim.keeps x.toInCall.keep, codeAny_func ?_⟩
  obtain ⟨t, ht, hq⟩ := hbody A outer s H vs Q E (hr.deeper _) hsp
  have I : Inv (cxOf CX P w K mg base N qual scope f cdv A outer s H E) [] (start N vs) H s1 := inv_start S hr.hd e0 hl r x
  refine wpAny_mono (ht [] s1 (start N vs) H _ I hq) (fun fl s' hs => ?_) fun e s' hs => hs
  have fin : ∀ {σ' : St} {H' : Hp} {v : V} {u : Value}, Inv (cxOf CX P w K mg base N qual scope f cdv A outer s H E) [] σ' H' s' → RelV v u → Q v H' → CE outer P w H s Q u s' :=
    fun {σ' H' v u} J rv q => ⟨v, H', J.os, J.bare, J.base, J.hok, rv, q⟩
  cases fl with
  | ret u =>
    obtain ⟨v, σ', H', J, rv, q⟩ := hs
    exact fin J rv q
  | next =>
    obtain ⟨σ', H', J, q⟩ := hs
    exact fin (v := V.non) (u := Value.none) J rfl q
  | brk =>
    obtain ⟨_, _, _, q⟩ := hs
    exact False.elim q
  | cont =>
    obtain ⟨_, _, _, q⟩ := hs
    exact False.elim q
end L2

namespace L2
open PySem PySem.Spec PyProof.Rows
section
variable {X : Cx} {x : Str} {p pos : Pos} {e : Expr} {es : List Expr} {t : TA} {id T : String} {r : List V → Hp → VK → Prop}

def tCB (r : List V → Hp → VK → Prop) (t : TA) : TE := fun σ H Q => t σ H fun vs H1 => r vs H1 Q
/-- f(e, ..), f a built-in function -/
theorem pe_callB (hc : CallR X (.builtin id) r) (hg : Gl X x) (hm : X.mg x = none) (hv : bootBuiltins x = some (.builtin id)) (ha : PA X (e :: es) t) (hn : x ≠ "__name__" := by decide) (hdb : (x == ("__debug__" : Str)) = false := by decide)
    (he : starEach (e :: es) X.env = (false, eval e X.env) :: starEach es X.env := by rfl) (hpl : (backTo pos (starEach es X.env)).any (·.1) = false := by rfl) : PE X (.Call (.Name x p) (e :: es) [] pos) (tCB r t) := by
  intro pins s σ H Q I h
  refine wpAny_Call_Name_kw (ld_blt I hg hm hv ?_ hn hdb)
  exact PyProof.Rows.callWith_builtin1 (thn (ha pos pins s σ H _ I h) fun us s1 ⟨vs, H1, I1, r1, q1⟩ => hc pins s1 σ H1 vs us Q I1 r1 q1) he hpl
/-- T(e, ..), T a built-in type -/
theorem pe_callTy (hc : CallR X (.type T) r) (hg : Gl X x) (hm : X.mg x = none) (hv : bootBuiltins x = some (.type T)) (ha : PA X (e :: es) t) (hn : x ≠ "__name__" := by decide) (hdb : (x == ("__debug__" : Str)) = false := by decide)
    (he : starEach (e :: es) X.env = (false, eval e X.env) :: starEach es X.env := by rfl) (hpl : (backTo pos (starEach es X.env)).any (·.1) = false := by rfl) : PE X (.Call (.Name x p) (e :: es) [] pos) (tCB r t) := by
  intro pins s σ H Q I h
  refine wpAny_Call_Name_kw (ld_blt I hg hm hv ?_ hn hdb)
  exact PyProof.Rows.callWith_type1 (thn (ha pos pins s σ H _ I h) fun us s1 ⟨vs, H1, I1, r1, q1⟩ => hc pins s1 σ H1 vs us Q I1 r1 q1) he hpl
/-- T() -/
theorem pe_callTy0 (hc : CallR X (.type T) r) (hg : Gl X x) (hm : X.mg x = none) (hv : bootBuiltins x = some (.type T)) (hn : x ≠ "__name__" := by decide) (hdb : (x == ("__debug__" : Str)) = false := by decide) :
    PE X (.Call (.Name x p) [] [] pos) (tCB r tNil) := by
  intro pins s σ H Q I h
  refine wpAny_Call_Name_kw (ld_blt I hg hm hv ?_ hn hdb)
  exact PyProof.Rows.callWith_type0 (hc pins s σ H [] [] Q I .nil h)
end
end L2

namespace HT
open PySem PyProof.Rows

/-- t < u of tuples of ints -/
def lexLt : List Int → List Int → Bool
  | [], [] => false
  | [], _ :: _ => true
  | _ :: _, [] => false
  | x :: xs, y :: ys => if x = y then lexLt xs ys else decide (x < y)
theorem lexLt_cons (x y : Int) (xs ys : List Int) : lexLt (x :: xs) (y :: ys) = if x = y then lexLt xs ys else decide (x < y) := rfl
theorem lexLt_nil_nil : lexLt [] [] = false := rfl
theorem lexLt_nil_cons (y : Int) (ys : List Int) : lexLt [] (y :: ys) = true := rfl
theorem lexLt_cons_nil (x : Int) (xs : List Int) : lexLt (x :: xs) [] = false := rfl

theorem eqAt_int (A : Around) (s : Shared) (a : Int) (t : Tok) (c : Int) (u : Tok) : ∃ e, SeqAt.EqAt A s (.int a t) (.int c u) e ∧ (e = true ↔ a = c) :=
  ⟨(a == c), SeqAt.EqAt.int_int a t c u, by simp⟩
theorem rcLt_int (A : Around) (s : Shared) (a : Int) (t : Tok) (c : Int) (u : Tok) (prog : Program) (w : World) (E : Value → Shared → Prop) (Q : Value → Shared → Prop) (h : Q (.bool (decide (a < c))) s) :
    wpAny (model prog w) A (richCompare .Lt (.int a t) (.int c u)) Q E s :=
  (PyProof.Rows.lt_int h : wpAny (model prog w) A (compareOp .Lt (.int a t) (.int c u)) Q E s)

section
open PySem.SeqAt
open PySem.AutoSeq1 (wpAny_loadPart')
open PySem.MeetsSeq PySem.MeetsSeq2 PySem.MeetsSeq3

theorem tuple_lt_ints (l b : Addr) (items items2 : Array Value) (n n2 : Nat) (dd dd2 : Option Addr) (sl sl2 : Array (Option Value)) (ns ms : List Int) (hi : IntsAre items.toList ns) (hj : IntsAre items2.toList ms) :
    Meets (Builtin.«tuple.__lt__» ⟨[.ref l, .ref b], []⟩)
      (fun _ R s => s.heap.get? l = some { cls := .type "tuple", dict := dd, data := .seq items n, slots := sl } ∧ s.heap.get? b = some { cls := .type "tuple", dict := dd2, data := .seq items2 n2, slots := sl2 } ∧
        R (.ok (.ret (.bool (lexLt ns ms)))) s) :=
  .of_wp fun prog w A R s h => by
    obtain ⟨hp, g, d, tk, os⟩ := s; obtain ⟨hl, hb, h⟩ := h
    have f2 := AutoSeq1.sub_tuple_tuple
    have z1 : items.size = ns.length := by rw [← hi.length]; simp
    have z2 : items2.size = ms.length := by rw [← hj.length]; simp
    wp_walk using wpAny_loadPart' hl, wpAny_loadPart' hb, wpAny_forIn_list _ (fun rest b s' => b.1 = none ∧ s' = ⟨hp, g, d, tk, os⟩ ∧ ∃ (vs ws : List Value) (ns' ms' : List Int), rest = vs.zip ws ∧
      IntsAre vs ns' ∧ IntsAre ws ms' ∧ ns'.length + items2.size = ms'.length + items.size ∧ R (.ok (.ret (.bool (lexLt ns' ms')))) ⟨hp, g, d, tk, os⟩) _
    case turn =>
      rintro ⟨y, x⟩ rest b s' ⟨hb', rfl, vs, ws, ns', ms', hz, hvi, hwi, hlen, hR⟩
      cases hvi with
      | nil => rw [List.zip_nil_left] at hz; cases hz
      | cons a t hvi' =>
        cases hwi with
        | nil => rw [List.zip_nil_right] at hz; cases hz
        | cons c u hwi' =>
          rw [List.zip_cons_cons] at hz
          injection hz with hyx hrest
          injection hyx with hy hx
          subst hy hx
          rw [lexLt_cons] at hR
          simp only [List.length_cons] at hlen
          obtain ⟨e, he, hiff⟩ := eqAt_int A.in1 ⟨hp, g, d, tk, os⟩ a t c u
          refine wpAny_bind (he prog w _ _ ?_)
          cases e with
          | true =>
            rw [if_pos (hiff.mp rfl)] at hR
            wp_walk
            exact ⟨rfl, rfl, _, _, _, _, hrest, hvi', hwi', by omega, hR⟩
          | false =>
            rw [if_neg (fun q => absurd (hiff.mpr q) Bool.false_ne_true)] at hR
            have hri := rcLt_int A.in1 ⟨hp, g, d, tk, os⟩ a t c u prog w
            wp_walk using hri
            exact ⟨_, rfl, by simpa using hR⟩
    case fin =>
      rintro ⟨b1, b2⟩ s' ⟨hb', rfl, vs, ws, ns', ms', hz, hvi, hwi, hlen, hR⟩
      simp only at hb'
      subst hb'
      have hv : lexLt ns' ms' = decide (items.size < items2.size) := by
        cases hvi with
        | nil =>
          cases hwi with
          | nil =>
            simp only [List.length_nil] at hlen
            rw [lexLt_nil_nil]
            exact (decide_eq_false (by omega)).symm
          | cons c u hw =>
            simp only [List.length_nil, List.length_cons] at hlen
            rw [lexLt_nil_cons]
            exact (decide_eq_true (by omega)).symm
        | cons a t hv =>
          cases hwi with
          | nil =>
            simp only [List.length_nil, List.length_cons] at hlen
            rw [lexLt_cons_nil]
            exact (decide_eq_false (by omega)).symm
          | cons c u hw =>
            rw [List.zip_cons_cons] at hz
            cases hz
      rw [hv] at hR
      wp_walk
      exact ⟨_, rfl, by simpa [Builtin.Tuple.tupleCompareSizes] using hR⟩
    case h =>
      exact ⟨rfl, rfl, items.toList, items2.toList, ns, ms, rfl, hi, hj, by omega, h⟩
end

section
variable {prog : Program} {w : World} {A : Around} {E : Value → Shared → Prop} {s : Shared}

theorem lt_tupInts {l b : Addr} {items items2 : Array Value} {ns ms : List Int} {Q : Value → Shared → Prop} (hl : IsTup s.heap l items) (hb : IsTup s.heap b items2) (hi : IntsAre items.toList ns) (hj : IntsAre items2.toList ms)
    (hu : A.units < cLine) (h : Q (.bool (lexLt ns ms)) s) : wpAny (model prog w) A (compareOp .Lt (.ref l) (.ref b)) Q E s := by
  obtain ⟨⟨cls, dd, data, sl⟩, ho, hc, n, hd⟩ := id hl
  obtain ⟨⟨cls2, dd2, data2, sl2⟩, ho2, hc2, n2, hd2⟩ := id hb
  simp only at hc hd hc2 hd2
  subst hc hd hc2 hd2
  exact richCompare_meets_room (op := .Lt) ⟨_, ho, rfl⟩ ⟨_, ho2, rfl⟩ PySem.F.slot_tuple_lt PySem.F.entry_tuple_lt (PySem.F.args_tuple_lt_2 _ _) (tuple_lt_ints l b items items2 n n2 dd dd2 sl sl2 ns ms hi hj)
    ⟨ho, ho2, show Value.bool (lexLt ns ms) ≠ Value.notImplemented ∧ Q (.bool (lexLt ns ms)) s from ⟨(fun x => nomatch x), h⟩⟩ hu

/-- t + u, t not empty -/
theorem cat_tup {t b : Addr} {vs ws : List Value} {Q : Value → Shared → Prop} (ht : IsTup s.heap t vs.toArray) (hb : IsTup s.heap b ws.toArray) (hv : vs ≠ [])
    (h1 : ws = [] → Q (.ref t) s) (h2 : ws ≠ [] → Q (.ref s.heap.objs.size) { s with heap := s.heap.push { cls := .type "tuple", data := .seq (vs ++ ws).toArray } })
    (hsz : vs.length + ws.length ≤ sizeLine) : wpAny (model prog w) A (binaryOp .Add (.ref t) (.ref b)) Q E s := by
  obtain ⟨⟨cls, dd, data, sl⟩, ho, hc, n, hd⟩ := id ht
  obtain ⟨⟨cls2, dd2, data2, sl2⟩, ho2, hc2, n2, hd2⟩ := id hb
  simp only at hc hd hc2 hd2
  subst hc hd hc2 hd2
  have e : vs.toArray ++ ws.toArray = (vs ++ ws).toArray := by simp
  by_cases hw : ws = []
  · exact concat_meets ⟨_, ho, rfl⟩ ⟨_, ho2, rfl⟩ noFill_tuple_add seq_tuple_add PySem.F.slot_tuple_add PySem.F.entry_tuple_add (PySem.F.args_tuple_add_2 _ _)
      (tuple_addW1 t b vs.toArray ws.toArray n n2 dd dd2 sl sl2 (by simpa using hv) (by simp [hw])) ⟨ho, ho2, h1 hw⟩
  · refine concat_meets ⟨_, ho, rfl⟩ ⟨_, ho2, rfl⟩ noFill_tuple_add seq_tuple_add PySem.F.slot_tuple_add PySem.F.entry_tuple_add (PySem.F.args_tuple_add_2 _ _)
      (tuple_addW2 t b vs.toArray ws.toArray n n2 dd dd2 sl sl2 (by simpa using hv) (by simpa using hw) (by rw [List.size_toArray, List.size_toArray]; exact hsz)) ⟨ho, ho2, ?_⟩
    rw [e]
    exact h2 hw

/-! ### t[a:b], not the whole -/
/-- a slice's bound as a place among n (d where it is left out) -/
def sIx (n d : Nat) : Option Int → Nat
  | none => d
  | some v => if v < 0 then (v + (n : Int)).toNat else min v.toNat n
theorem sIx_none (n d : Nat) : sIx n d none = d := rfl
theorem sIx_nat (n d k : Nat) : sIx n d (some (k : Int)) = min k n := by
  show (if (k : Int) < 0 then ((k : Int) + (n : Int)).toNat else min (k : Int).toNat n) = min k n
  rw [if_neg (by omega), Int.toNat_natCast]
theorem sIx_le (n d : Nat) (hd : d ≤ n) (o : Option Int) : sIx n d o ≤ n := by
  cases o with
  | none => exact hd
  | some v =>
    show (if v < 0 then (v + (n : Int)).toNat else min v.toNat n) ≤ n
    by_cases hv : v < 0
    · rw [if_pos hv]; omega
    · rw [if_neg hv]; exact Nat.min_le_right _ _
theorem clip_eq (v : Int) (n d : Nat) : (if v < 0 then max (v + (n : Int)) 0 else min v (n : Int)) = ((sIx n d (some v) : Nat) : Int) := by
  show (if v < 0 then max (v + (n : Int)) 0 else min v (n : Int)) = (((if v < 0 then (v + (n : Int)).toNat else min v.toNat n) : Nat) : Int)
  by_cases hv : v < 0
  · simp only [if_pos hv]; omega
  · simp only [if_neg hv]; omega
theorem adjust_gen (lo hi : Option Int) (n : Nat) : Builtin.Slice.sliceAdjust lo hi 1 (n : Int) = (((sIx n 0 lo : Nat) : Int), ((sIx n n hi : Nat) : Int)) := by
  have h1 : ¬ ((1 : Int) < 0) := by omega
  unfold Builtin.Slice.sliceAdjust
  simp only [h1, if_false]
  refine Prod.ext ?_ ?_
  · cases lo with
    | none => rfl
    | some v => exact clip_eq v n 0
  · cases hi with
    | none => rfl
    | some v => exact clip_eq v n n
theorem places_gen (i j : Nat) : Builtin.Slice.slicePlaces (i : Int) (j : Int) 1 = j - i := by
  unfold Builtin.Slice.slicePlaces
  have h1 : (1 : Int) > 0 := by omega
  simp only [h1, if_true, Int.ediv_one]
  split <;> omega
theorem slicePart_ {v : Value} {o : Option Int} {Q : Option Int → Shared → Prop} (p : IsPart v o) (h : Q o s) : wpAny (model prog w) A (Builtin.Slice.slicePartIndex v) Q E s := by
  cases p with
  | none => exact slicePart_none h
  | int i t => exact slicePart_int h
theorem sliceApplied_gen {sl : Addr} {vl vu : Value} {lo hi : Option Int} {n : Nat} {Q : Int × Int × Nat → Shared → Prop} (hs : s.heap.IsSliceOf sl vl vu .none) (pl : IsPart vl lo) (pu : IsPart vu hi)
    (h : Q (((sIx n 0 lo : Nat) : Int), 1, sIx n n hi - sIx n 0 lo) s) : wpAny (model prog w) A (Builtin.Slice.sliceApplied (.ref sl) (pure (n : Int))) Q E s := by
  obtain ⟨os, hos, hcs, hds⟩ := id hs
  unfold Builtin.Slice.sliceApplied Builtin.Slice.sliceFields
  refine wpAny_bind (wpAny_bind (wpAny_field hos hds (x := vl) rfl (wpAny_bind (wpAny_field hos hds (x := vu) rfl (wpAny_bind (wpAny_field hos hds (x := .none) rfl (wpAny_pure ?_)))))))
  refine wpAny_bind (slicePart_none ?_)
  show wpAny _ _ (if ((1 : Int) == 0) = true then _ else _) _ _ s
  rw [if_neg (by decide)]
  refine wpAny_bind (slicePart_ pl (wpAny_bind (slicePart_ pu (wpAny_bind (wpAny_pure ?_)))))
  show wpAny _ _ (match Builtin.Slice.sliceAdjust lo hi 1 (n : Int) with | (lo, hi) => pure (lo, (1 : Int), Builtin.Slice.slicePlaces lo hi 1)) _ _ s
  rw [adjust_gen lo hi n]
  show wpAny _ _ (pure (((sIx n 0 lo : Nat) : Int), (1 : Int), Builtin.Slice.slicePlaces ((sIx n 0 lo : Nat) : Int) ((sIx n n hi : Nat) : Int) 1)) _ _ s
  rw [places_gen]
  exact wpAny_pure h
theorem pick_gen (xs : Array Value) (i k : Nat) : ((List.range k).filterMap fun (m : Nat) => xs[((i : Int) + (m : Int) * 1).toNat]?).toArray = ((xs.toList.drop i).take k).toArray := by
  have e : (fun (m : Nat) => xs[((i : Int) + (m : Int) * 1).toNat]?) = fun m => xs[i + m]? := by
    funext m
    have : ((i : Int) + (m : Int) * 1).toNat = i + m := by omega
    rw [this]
  rw [e]
  have := pick_run xs i k
  rw [List.filterMap_map] at this
  have e2 : ((fun x => xs[x]?) ∘ fun x => i + x) = fun m => xs[i + m]? := rfl
  rw [e2] at this
  rw [this]

theorem getItem_tuple_cut {t sl : Addr} {items : Array Value} {vl vu : Value} {lo hi : Option Int} {Q : Value → Shared → Prop} (ht : IsTup s.heap t items) (hs : s.heap.IsSliceOf sl vl vu .none) (pl : IsPart vl lo) (pu : IsPart vu hi)
    (hw : ¬ (sIx items.size 0 lo = 0 ∧ sIx items.size items.size hi = items.size))
    (h : Q (.ref s.heap.objs.size) { s with heap := s.heap.push { cls := .type "tuple", data := .seq ((items.toList.drop (sIx items.size 0 lo)).take (sIx items.size items.size hi - sIx items.size 0 lo)).toArray } })
    (hsz : items.size ≤ sizeLine) : wpAny (model prog w) A (getItem (.ref t) (.ref sl)) Q E s := by
  have htake : sizeOk (.seq ((items.toList.drop (sIx items.size 0 lo)).take (sIx items.size items.size hi - sIx items.size 0 lo)).toArray) := by
    show ((items.toList.drop (sIx items.size 0 lo)).take (sIx items.size items.size hi - sIx items.size 0 lo)).toArray.size ≤ sizeLine
    rw [List.size_toArray, List.length_take, List.length_drop, Array.length_toList]
    omega
  have hj : sIx items.size items.size hi ≤ items.size := sIx_le _ _ (Nat.le_refl _) hi
  obtain ⟨os, hos, hcs, hds⟩ := id hs
  have hTs : s.TypeIs (.ref sl) "slice" := ⟨os, hos, hcs⟩
  unfold getItem
  try with_reducible refine wpAny_holding ?_
  first | refine wpAny_bind (wpAny_pure ?_) | skip
  refine wpAny_bind (wpAny_sequenceKey ht.typeIs (by decide) ?_)
  refine wpAny_bind (wpAny_callSpecial?_slot (name := Str.ofString "__getitem__") ht.typeIs PyProof.Rows.slot_tuple_getitem
    (wpAny_call_entry PyProof.Rows.slot_tuple_getitem ht.typeIs entry_tuple_getitem ?_ (args_tuple_getitem _ _)))
  show wpAny _ _ (Builtin.Tuple.tupleItemsOf (.ref t) >>= _) _ _ s
  refine wpAny_bind (tupleItemsOf_ ht ?_)
  refine wpAny_bind (wpAny_typeOf hTs ?_)
  rw [if_pos (by decide)]
  refine wpAny_bind (sliceApplied_gen hs pl pu ?_)
  have hno : ¬ ((((sIx items.size 0 lo : Nat) : Int) == 0 && (1 : Int) == 1 && (sIx items.size items.size hi - sIx items.size 0 lo) == items.size) = true) := by
    intro q
    rw [Bool.and_eq_true, Bool.and_eq_true] at q
    have q1 : ((sIx items.size 0 lo : Nat) : Int) = 0 := eq_of_beq q.1.1
    have q2 : sIx items.size items.size hi - sIx items.size 0 lo = items.size := eq_of_beq q.2
    exact hw ⟨by omega, by omega⟩
  show wpAny _ _ (if (((sIx items.size 0 lo : Nat) : Int) == 0 && (1 : Int) == 1 && (sIx items.size items.size hi - sIx items.size 0 lo) == items.size) = true then _ else _) _ _ s
  rw [if_neg hno, pick_gen]
  first
    | exact wpAny_bind (m := Builtin.Tuple.tupleExact _) (wpAny_newObj_type (wpAny_pure ⟨_, rfl, wpAny_pure h⟩) htake)
    | exact wpAny_bind (m := Builtin.Tuple.tupleExact _) (wpAny_newObj_type (wpAny_bind (wpAny_pure (wpAny_pure ⟨_, rfl, wpAny_pure h⟩))) htake)
    | exact wpAny_bind (wpAny_bind (m := Builtin.Tuple.tupleExact _) (wpAny_newObj_type (wpAny_pure (wpAny_pure ⟨_, rfl, wpAny_pure h⟩)) htake))
    | exact wpAny_bind (wpAny_bind (m := Builtin.Tuple.tupleExact _) (wpAny_newObj_type (wpAny_pure ⟨_, rfl, wpAny_pure h⟩) htake))
end
end HT

namespace L2
open PySem PySem.Spec PyProof.Rows

/-! ### the parts of a slice -/
abbrev TO := St → Hp → (Option Int → Hp → Prop) → Prop
/-- a slice's part (left out, or an int) -/
def PO (X : Cx) (e : Option Expr) (t : TO) : Prop :=
  ∀ (pins : List (Addr × Obj)) (s : Shared) (σ : St) (H : Hp) (Q : Option Int → Hp → Prop), Inv X pins σ H s → t σ H Q →
    wpAny (model X.prog X.w) X.A (evalPart e X.env) (fun u s' => ∃ o H', Inv X pins σ H' s' ∧ IsPart u o ∧ Q o H') X.xe s
def tNoPart : TO := fun _ H Q => Q none H
def tPart (t : TE) : TO := fun σ H Q => t σ H fun x H1 => ∃ i, x = .int i ∧ Q (some i) H1

theorem intsAre_of {ns : List Int} : ∀ {us : List Value}, Vals (ns.map V.int) us → IntsAre us ns := by
  induction ns with
  | nil => intro us r; rw [List.map_nil] at r; cases r; exact .nil
  | cons n ns ih =>
    intro us r
    rw [List.map_cons] at r
    cases r with
    | cons r1 r2 =>
      obtain ⟨t, e⟩ := r1
      subst e
      exact .cons n t (ih r2)

section
variable {X : Cx} {e : Expr} {te : TE} {lo hi : Option Expr} {tl th : TO} {pos p2 : Pos}

theorem po_none : PO X none tNoPart := by
  intro pins s σ H Q I h
  rw [evalPart_none]
  exact wpAny_pure ⟨none, H, I, .none, h⟩
theorem po_some (h : PE X e te) : PO X (some e) (tPart te) := by
  intro pins s σ H Q I hw
  rw [evalPart_some]
  refine thn (h pins s σ H _ I hw) fun u s1 ⟨x, H1, I1, r1, q1⟩ => ?_
  obtain ⟨i, rfl, q⟩ := q1
  obtain ⟨t, rfl⟩ := r1
  exact ⟨some i, H1, I1, .int i t, q⟩

/-- what a slice of a value is, by values: the slice object stands at sl -/
def SlR (X : Cx) (r : V → Option Int → Option Int → Hp → VK → Prop) : Prop :=
  ∀ (pins : List (Addr × Obj)) (s : Shared) (σ : St) (H : Hp) (x : V) (v vl vu : Value) (lo hi : Option Int) (sl : Addr) (Q : VK), Inv X pins σ H s → RelV x v → s.heap.IsSliceOf sl vl vu .none → IsPart vl lo → IsPart vu hi → r x lo hi H Q →
    ∃ T id, typeLookup (.type T) "__getitem__" = pure (some (.builtin id)) ∧ s.TypeIs v T ∧ wpAny (model X.prog X.w) X.A (getItem v (.ref sl)) (EP X pins σ Q) X.xe s
theorem SlR.or {r r' : V → Option Int → Option Int → Hp → VK → Prop} (h : SlR X r) (h' : SlR X r') : SlR X (fun x lo hi H Q => r x lo hi H Q ∨ r' x lo hi H Q) := by
  intro pins s σ H x v vl vu lo hi sl Q I rx hs pl pu q
  rcases q with q | q
  · exact h pins s σ H x v vl vu lo hi sl Q I rx hs pl pu q
  · exact h' pins s σ H x v vl vu lo hi sl Q I rx hs pl pu q
def tSl (r : V → Option Int → Option Int → Hp → VK → Prop) (te : TE) (tl th : TO) : TE := fun σ H Q => te σ H fun x H1 => tl σ H1 fun l H2 => th σ H2 fun u H3 => r x l u H3 Q
/-- a[lo:hi], any a -/
theorem pe_slice {r : V → Option Int → Option Int → Hp → VK → Prop} (hr : SlR X r) (he : PE X e te) (hl : PO X lo tl) (hu : PO X hi th) : PE X (.Subscript e (.Slice lo hi none p2) pos) (tSl r te tl th) := by
  intro pins s σ H Q I h
  refine Subscript_ (thn (he pins s σ H _ I h) fun v s1 ⟨x, H1, I1, r1, q1⟩ => ?_)
  refine wpAny_Slice (thn (hl pins s1 σ H1 _ I1 q1) fun vl s2 ⟨l, H2, I2, pl, q2⟩ => thn (hu pins s2 σ H2 _ I2 q2) fun vu s3 ⟨u, H3, I3, pu, q3⟩ => ?_)
  rw [evalPart_none]
  refine wpAny_pure ?_
  have I4 : Inv X pins σ H3 { s3 with heap := s3.heap.push { cls := .type "slice", data := .fields #[vl, vu, .none] } } := I3.kept (t' := s3.toks) fun b ob q => Heap.get?_push_of_some _ q
  obtain ⟨T, id, hT, ht, hg⟩ := hr pins { s3 with heap := s3.heap.push { cls := .type "slice", data := .fields #[vl, vu, .none] } } σ H3 x v vl vu l u s3.heap.objs.size Q I4 r1 (Heap.IsSliceOf.new ..) pl pu q3
  show wpAny (model X.prog X.w) X.A (subscriptTail e (.Slice lo hi none p2) v (.ref s3.heap.objs.size)) (EP X pins σ Q) X.xe { s3 with heap := s3.heap.push { cls := .type "slice", data := .fields #[vl, vu, .none] } }
  exact tail_any (ops := [.ref s3.heap.objs.size, v]) ht hT hg (by with_unfolding_all rfl)

/-- the items of xs[lo:hi] -/
def cutV (xs : List V) (lo hi : Option Int) : List V := (xs.drop (HT.sIx xs.length 0 lo)).take (HT.sIx xs.length xs.length hi - HT.sIx xs.length 0 lo)
theorem cutV_length (xs : List V) (lo hi : Option Int) : (cutV xs lo hi).length ≤ xs.length := by
  unfold cutV
  rw [List.length_take, List.length_drop]
  omega
/-- t[lo:hi], not the whole of it (the whole would be t itself) -/
def rSlT (K : PySem.W.Frag) : V → Option Int → Option Int → Hp → VK → Prop := fun x lo hi H Q => ∃ a xs, x = .ref a ∧ SqT K H a xs ∧
  ¬ (HT.sIx xs.length 0 lo = 0 ∧ HT.sIx xs.length xs.length hi = xs.length) ∧ ∀ p, H p = none → Q (.ref p) (upd H p (.tup (cutV xs lo hi)))
theorem sl_tup : SlR X (rSlT X.K) := by
  intro pins s σ H x v vl vu lo hi sl Q I rx hs pl pu h
  obtain ⟨a, xs, rfl, hx, hw, q⟩ := h
  cases rx
  obtain ⟨its, r, ht, hz⟩ := I.tuple hx
  have hlen : its.toArray.size = xs.length := by rw [List.size_toArray]; exact r.length.symm
  refine ⟨"tuple", _, PyProof.Rows.slot_tuple_getitem.lookup, ht.typeIs, ?_⟩
  refine HT.getItem_tuple_cut ht hs pl pu (by rw [hlen]; exact hw) ?_ (by rw [hlen]; exact hz)
  rw [hlen]
  refine ⟨.ref s.heap.objs.size, _, I.laid (t' := s.toks) (o := .tup (cutV xs lo hi)) (fun b ob q => Heap.get?_push_of_some _ q) (Nat.le_refl _) ?_, rfl, q _ (I.hok.fresh (Nat.le_refl _))⟩
  exact ⟨Nat.le_trans (cutV_length xs lo hi) hz, _, (r.drop (HT.sIx xs.length 0 lo)).take (HT.sIx xs.length xs.length hi - HT.sIx xs.length 0 lo), IsTup.new _ _⟩

/-! ### t < u, t + u -/
def rLtT (K : PySem.W.Frag) : R2 := fun x y H Q => ∃ a b ns ms, x = .ref a ∧ y = .ref b ∧ SqT K H a (ns.map V.int) ∧ SqT K H b (ms.map V.int) ∧ Q (.bl (HT.lexLt ns ms)) H
theorem op_ltT (hu : X.A.units < cLine) : OpR X (compareOp .Lt) (rLtT X.K) := by
  intro pins s σ H x y v u Q I rx ry h
  obtain ⟨a, b, ns, ms, rfl, rfl, ha, hb, q⟩ := h
  cases rx
  cases ry
  obtain ⟨its, r1, p1, _⟩ := I.tuple ha
  obtain ⟨its2, r2, p2, _⟩ := I.tuple hb
  have i1 : IntsAre its.toArray.toList ns := intsAre_of r1
  have i2 : IntsAre its2.toArray.toList ms := intsAre_of r2
  exact HT.lt_tupInts p1 p2 i1 i2 hu ⟨.bl (HT.lexLt ns ms), H, I, rfl, q⟩
/-- t + u, t not empty: u empty gives t itself -/
def rCatT (K : PySem.W.Frag) : R2 := fun x y H Q => ∃ a b xs ys, x = .ref a ∧ y = .ref b ∧ SqT K H a xs ∧ SqT K H b ys ∧ xs ≠ [] ∧ xs.length + ys.length ≤ sizeLine ∧
  (ys = [] → Q (.ref a) H) ∧ (ys ≠ [] → ∀ p, H p = none → Q (.ref p) (upd H p (.tup (xs ++ ys))))
theorem Vals.nil_iff {xs : List V} {us : List Value} (r : Vals xs us) : us = [] ↔ xs = [] := by
  cases r with
  | nil => simp
  | cons _ _ => simp
theorem op_catT : OpR X (binaryOp .Add) (rCatT X.K) := by
  intro pins s σ H x y v u Q I rx ry h
  obtain ⟨a, b, xs, ys, rfl, rfl, ha, hb, hx, hz, q1, q2⟩ := h
  cases rx
  cases ry
  obtain ⟨its, r1, p1, _⟩ := I.tuple ha
  obtain ⟨its2, r2, p2, _⟩ := I.tuple hb
  refine HT.cat_tup p1 p2 (fun z => hx (r1.nil_iff.mp z)) (fun z => ⟨.ref a, H, I, rfl, q1 (r2.nil_iff.mp z)⟩) (fun z => ?_) (by rw [← r1.length, ← r2.length]; exact hz)
  refine ⟨.ref s.heap.objs.size, _, I.laid (t' := s.toks) (o := .tup (xs ++ ys)) (fun b ob q => Heap.get?_push_of_some _ q) (Nat.le_refl _) ?_, rfl, q2 (fun w => z (r2.nil_iff.mpr w)) _ (I.hok.fresh (Nat.le_refl _))⟩
  exact ⟨by rw [List.length_append]; exact hz, _, r1.append r2, IsTup.new _ _⟩
/-- tuple(t) -/
theorem call_tupleT : CallR X (.type "tuple") (fun xs H Q => ∃ a ys, xs = [.ref a] ∧ SqT X.K H a ys ∧ Q (.ref a) H) := by
  intro pins s σ H xs us Q I r h
  obtain ⟨a, ys, rfl, ha, q⟩ := h
  obtain ⟨u, rfl, ru⟩ := vals1 r
  cases ru
  obtain ⟨its, _, p1, _⟩ := I.tuple ha
  exact call_tuple_same (items := its.toArray) p1 ⟨.ref a, H, I, rfl, q⟩
end
end L2

namespace L2
open PySem PySem.Spec PyProof.Rows

/-! ### places -/
/-- the place that an index of any sign means -/
def ixN (n : Nat) (i : Int) : Option Nat := if 0 ≤ i then (if i < n then some i.toNat else none) else if -(n : Int) ≤ i then some (i + n).toNat else none
def atI {α : Type} (xs : List α) (i : Int) : Option α := (ixN xs.length i).bind fun j => xs[j]?
theorem ixN_seq {n : Nat} {i : Int} {j : Nat} (h : ixN n i = some j) : seqIndex? i n = some j ∧ j < n ∧ -(n : Int) ≤ i ∧ i < n := by
  unfold ixN at h
  by_cases h0 : 0 ≤ i
  · rw [if_pos h0] at h
    by_cases h1 : i < n
    · rw [if_pos h1] at h
      have e : i.toNat = j := Option.some.inj h
      exact ⟨by rw [seqIndex_of h0 h1, e], by omega, by omega, h1⟩
    · rw [if_neg h1] at h; cases h
  · rw [if_neg h0] at h
    by_cases h1 : -(n : Int) ≤ i
    · rw [if_pos h1] at h
      have e : (i + n).toNat = j := Option.some.inj h
      exact ⟨by rw [seqIndex_neg (by omega) h1, e], by omega, h1, by omega⟩
    · rw [if_neg h1] at h; cases h
theorem atI_get {α : Type} {xs : List α} {i : Int} {v : α} (h : atI xs i = some v) : ∃ j, seqIndex? i xs.length = some j ∧ xs[j]? = some v ∧ j < xs.length ∧ -(xs.length : Int) ≤ i ∧ i < xs.length := by
  unfold atI at h
  cases e : ixN xs.length i with
  | none => rw [e] at h; cases h
  | some j =>
    rw [e] at h
    obtain ⟨h1, h2, h3, h4⟩ := ixN_seq e
    exact ⟨j, h1, h, h2, h3, h4⟩
theorem atI_nat {α : Type} {xs : List α} {j : Nat} {v : α} (h : xs[j]? = some v) : atI xs (j : Int) = some v := by
  have hj : j < xs.length := (List.getElem?_eq_some_iff.mp h).1
  have e : ixN xs.length (j : Int) = some j := by
    unfold ixN
    rw [if_pos (by omega), if_pos (by omega)]; simp
  unfold atI; rw [e]; exact h
theorem atI_last {α : Type} (xs : List α) (v : α) : atI (xs ++ [v]) (-1) = some v := by
  have hl : (xs ++ [v]).length = xs.length + 1 := by simp
  have e : ixN (xs ++ [v]).length (-1) = some xs.length := by
    unfold ixN
    rw [hl, if_neg (by decide), if_pos (by omega)]
    congr 1
    omega
  unfold atI
  rw [e]
  show (xs ++ [v])[xs.length]? = some v
  simp

/-! ### what may be subscripted -/
/-- what stands as an index of a plain subscript -/
def PlainIx (b : Expr) : Prop := ∀ o i, subscripted b false o i = operate [o, i] (getItem o i)
/-- a subscript by values -/
def IxR (X : Cx) (r : R2) : Prop :=
  ∀ (value slice : Expr) (pins : List (Addr × Obj)) (s : Shared) (σ : St) (H : Hp) (x y : V) (v u : Value) (Q : VK), Inv X pins σ H s → RelV x v → RelV y u → r x y H Q →
    subscripted slice false v u = operate [v, u] (getItem v u) → wpAny (model X.prog X.w) X.A (subscriptTail value slice v u) (EP X pins σ Q) X.xe s
/-- a call of a builtin's method by values: the receiver, the arguments -/
def MtR (X : Cx) (id : String) (r : V → List V → Hp → VK → Prop) : Prop :=
  ∀ (pins : List (Addr × Obj)) (s : Shared) (σ : St) (H : Hp) (x : V) (xs : List V) (v : Value) (us : List Value) (Q : VK), Inv X pins σ H s → RelV x v → Vals xs us → r x xs H Q →
    wpAny (model X.prog X.w) X.A (call (.builtin id) (v :: us)) (EP X pins σ Q) X.xe s
section
variable {X : Cx} {a b : Expr} {ta tb : TE} {pos : Pos}
theorem IxR.or {r r' : R2} (h : IxR X r) (h' : IxR X r') : IxR X (fun x y H Q => r x y H Q ∨ r' x y H Q) := by
  intro value slice pins s σ H x y v u Q I rx ry q hs
  rcases q with q | q
  · exact h value slice pins s σ H x y v u Q I rx ry q hs
  · exact h' value slice pins s σ H x y v u Q I rx ry q hs
theorem MtR.or {id : String} {r r' : V → List V → Hp → VK → Prop} (h : MtR X id r) (h' : MtR X id r') : MtR X id (fun x xs H Q => r x xs H Q ∨ r' x xs H Q) := by
  intro pins s σ H x xs v us Q I rx rs q
  rcases q with q | q
  · exact h pins s σ H x xs v us Q I rx rs q
  · exact h' pins s σ H x xs v us Q I rx rs q
/-- a[b] -/
theorem pe_ix {r : R2} (hr : IxR X r) (ha : PE X a ta) (hb : PE X b tb) (hs : PlainIx b) : PE X (.Subscript a b pos) (tOp r ta tb) := by
  intro pins s σ H Q I h
  exact Subscript_ (binT ha hb I h fun v u s2 x y H2 I2 rx ry q => hr a b pins s2 σ H2 x y v u Q I2 rx ry q (hs _ _))

def rIxL (K : PySem.W.Frag) : R2 := fun x y H Q => ∃ p xs i v, x = .ref p ∧ y = .int i ∧ SqL K H p xs ∧ atI xs i = some v ∧ Q v H
def rIxT (K : PySem.W.Frag) : R2 := fun x y H Q => ∃ p xs i v, x = .ref p ∧ y = .int i ∧ SqT K H p xs ∧ atI xs i = some v ∧ Q v H
def rIxS : R2 := fun x y H Q => ∃ z i c, x = .str z ∧ y = .int i ∧ z.length ≤ sizeLine ∧ atI z.cps.toList i = some c ∧ Q (.str ⟨#[c]⟩) H
theorem ix_list : IxR X (rIxL X.K) := by
  intro value slice pins s σ H x y v u Q I rx ry h hs
  obtain ⟨p, xs, i, z, rfl, rfl, hq, he, q⟩ := h
  cases rx
  obtain ⟨t, rfl⟩ := ry
  obtain ⟨its, r, pl, hz⟩ := I.list hq
  obtain ⟨j, h1, h2, h3, h4, h5⟩ := atI_get he
  obtain ⟨w, ew, rw'⟩ := r.get h2
  have hl := r.length
  have hn := line63
  have fin : EP X pins σ Q w s := ⟨z, H, I, rw', q⟩
  by_cases h0 : 0 ≤ i
  · have hj : i.toNat = j := by
      rw [seqIndex_of h0 h5] at h1
      exact Option.some.inj h1
    exact item_listR pl.isList h0 (by omega) (by rw [hj]; simpa using ew) fin hs
  · have hj : (i + (its.toArray.size : Int)).toNat = j := by
      rw [seqIndex_neg (by omega) h4] at h1
      rw [List.size_toArray, ← hl]
      exact Option.some.inj h1
    exact subscriptTail_builtinR (x := w) pl.isList.typeIs slot_list_getitem.lookup
      (wpAny_getItem_list_neg (Q := fun r s' => r = w ∧ EP X pins σ Q r s') pl.isList (by omega) (by rw [List.size_toArray] <;> omega) (by omega) (by rw [hj]; simpa using ew) ⟨rfl, fin⟩) hs
theorem ix_tup : IxR X (rIxT X.K) := by
  intro value slice pins s σ H x y v u Q I rx ry h hs
  obtain ⟨p, xs, i, z, rfl, rfl, hq, he, q⟩ := h
  cases rx
  obtain ⟨t, rfl⟩ := ry
  obtain ⟨its, r, pl, hz⟩ := I.tuple hq
  obtain ⟨j, h1, h2, h3, h4, h5⟩ := atI_get he
  obtain ⟨w, ew, rw'⟩ := r.get h2
  have hl := r.length
  have hn := line63
  have fin : EP X pins σ Q w s := ⟨z, H, I, rw', q⟩
  exact subscriptTail_builtinR (x := w) pl.typeIs slot_tuple_getitem.lookup
    (getItem_tuple (j := j) (Q := fun r s' => r = w ∧ EP X pins σ Q r s') pl (by omega) (by omega) (by rw [List.size_toArray, ← hl]; exact h1) (by simpa using ew) ⟨rfl, fin⟩) hs
theorem ix_str : IxR X rIxS := by
  intro value slice pins s σ H x y v u Q I rx ry h hs
  obtain ⟨z, i, c, rfl, rfl, hz, he, q⟩ := h
  obtain ⟨t, rfl⟩ := rx
  obtain ⟨t', rfl⟩ := ry
  obtain ⟨j, h1, h2, h3, h4, h5⟩ := atI_get he
  have hl : z.cps.toList.length = z.length := by simp [Str.length]
  rw [hl] at h1 h4 h5
  have hn := line63
  exact tail_any (typeIs_str s z t) slot_str_getitem.lookup (getItem_str (c := c) (by
    have e1 : decide (i < -(2 ^ 63 : Int)) = false := decide_eq_false (by omega)
    have e2 : decide (i ≥ 2 ^ 63) = false := decide_eq_false (by omega)
    rw [e1, e2, Bool.or_false]) (by rw [h1]; simpa using h2) ⟨.str ⟨#[c]⟩, H, I.tok _, ⟨_, rfl⟩, q⟩) hs
/-- list, tuple or str -/
def rIx (K : PySem.W.Frag) : R2 := fun x y H Q => rIxL K x y H Q ∨ rIxT K x y H Q ∨ rIxS x y H Q
theorem ix_seq : IxR X (rIx X.K) := ix_list.or (ix_tup.or ix_str)

/-! ### xs[i] = v, any sign -/
/-- the list's object behind a store -/
theorem mapSeq_set (its : List Value) (n j : Nat) (u : Value) : Obj.mapSeq (·.setIfInBounds j u) { cls := .type "list", data := .seq its.toArray n } = { cls := .type "list", data := .seq (its.set j u).toArray n } := by
  simp [Obj.mapSeq]
theorem Inv.lst {pins : List (Addr × Obj)} {σ : St} {H : Hp} {s : Shared} {p : Addr} {xs : List V} (I : Inv X pins σ H s) (h : H p = some (.lst xs)) :
    ∃ (its : List Value) (n : Nat), Vals xs its ∧ s.heap.get? p = some { cls := .type "list", data := .seq its.toArray n } ∧ xs.length ≤ sizeLine := by
  obtain ⟨z, its, n, r, e⟩ := I.hok p _ h
  exact ⟨its, n, r, e, z⟩
/-- the list at p is written by an update of its object -/
theorem Inv.lstUpd {pins : List (Addr × Obj)} {σ : St} {H : Hp} {s : Shared} {p : Addr} {xs ys : List V} {its its' : List Value} {n n' : Nat} {f : Obj → Obj} (I : Inv X pins σ H s) (h : H p = some (.lst xs))
    (ho : s.heap.get? p = some { cls := .type "list", data := .seq its.toArray n }) (hf : f { cls := .type "list", data := .seq its.toArray n } = { cls := .type "list", data := .seq its'.toArray n' }) (r : Vals ys its') (hz : ys.length ≤ sizeLine) (t : Nat) :
    Inv X pins σ (upd H p (.lst ys)) { s with heap := s.heap.update p f, toks := t } := by
  have e : (s.heap.update p f).get? p = some { cls := .type "list", data := .seq its'.toArray n' } := by
    rw [Heap.get?_update_self f ho (by rw [hf] <;> rfl), hf]
  refine I.write (x := p) (e := p) (by rw [h]; trivial) (.inl rfl) (fun b u hb q => (Heap.get?_update_other _ _ (Ne.symm hb)).trans q) ⟨_, e⟩ ?_
  exact ⟨hz, its', n', r, e⟩
def rSetL : V → V → V → Hp → (Hp → Prop) → Prop := fun o i v H Q => ∃ p xs k j, o = .ref p ∧ i = .int k ∧ H p = some (.lst xs) ∧ ixN xs.length k = some j ∧ Q (upd H p (.lst (xs.set j v)))
theorem set_list : PSet X rSetL := by
  intro pins s σ H o i v ov iv u Q I ro ri rv h
  obtain ⟨p, xs, k, j, rfl, rfl, hp, hj, q⟩ := h
  cases ro
  obtain ⟨t, rfl⟩ := ri
  obtain ⟨its, n, r, ho, hz⟩ := I.lst hp
  obtain ⟨h1, h2, h3, h4⟩ := ixN_seq hj
  have hl := r.length
  have hn := line63
  have I' : Inv X pins σ (upd H p (.lst (xs.set j v))) { s with heap := s.heap.update p (Obj.mapSeq (·.setIfInBounds j u)) } :=
    I.lstUpd hp ho (mapSeq_set its n j u) (r.set rv j) (by rw [List.length_set]; exact hz) s.toks
  by_cases h0 : 0 ≤ k
  · have hk : k.toNat = j := by
      rw [seqIndex_of h0 h4] at h1
      exact Option.some.inj h1
    exact PySem.W.ki_setAt ho h0 (by omega) (by rw [List.size_toArray, ← hl]; exact h4) (by rw [hk]; exact ⟨_, I', q⟩)
  · have hk : (k + (its.toArray.size : Int)).toNat = j := by
      rw [seqIndex_neg (by omega) h3] at h1
      rw [List.size_toArray, ← hl]
      exact Option.some.inj h1
    exact PySem.W.ki_setBack ho (by omega) (by rw [List.size_toArray, ← hl]; exact h3) (by omega) (by rw [hk]; exact ⟨_, I', q⟩)

/-! ### slices -/
theorem slice_bounds (lo hi : Option Int) (n : Nat) : (sliceBounds lo hi none n).1 = ((HT.sIx n 0 lo : Nat) : Int) ∧ (sliceBounds lo hi none n).2.1 = ((HT.sIx n n hi : Nat) : Int) ∧ (sliceBounds lo hi none n).2.2 = 1 := by
  refine ⟨?_, ?_, rfl⟩
  · cases lo with
    | none => simp [sliceBounds, HT.sIx]
    | some i =>
      simp only [sliceBounds, HT.sIx, Option.getD_none, show (1 : Int) > 0 by decide, if_true]
      by_cases h : i < 0
      · simp only [h, if_true] <;> omega
      · simp only [h, if_false] <;> omega
  · cases hi with
    | none => simp [sliceBounds, HT.sIx]
    | some i =>
      simp only [sliceBounds, HT.sIx, Option.getD_none, show (1 : Int) > 0 by decide, if_true]
      by_cases h : i < 0
      · simp only [h, if_true] <;> omega
      · simp only [h, if_false] <;> omega
theorem slicePick_cut (its : List Value) (lo hi : Option Int) : slicePick its.toArray lo hi none = ((its.drop (HT.sIx its.length 0 lo)).take (HT.sIx its.length its.length hi - HT.sIx its.length 0 lo)).toArray := by
  obtain ⟨h1, h2, h3⟩ := slice_bounds lo hi its.toArray.size
  unfold slicePick
  rw [h1, h2, h3]
  simp only [sliceRange_one, pick_run, List.size_toArray] <;> rfl
/-- xs[lo:hi] of a list: a new list -/
def rSlL (K : PySem.W.Frag) : V → Option Int → Option Int → Hp → VK → Prop := fun x lo hi H Q => ∃ a xs, x = .ref a ∧ SqL K H a xs ∧ ∀ p, H p = none → Q (.ref p) (upd H p (.lst (cutV xs lo hi)))
theorem sl_list : SlR X (rSlL X.K) := by
  intro pins s σ H x v vl vu lo hi sl Q I rx hs pl pu h
  obtain ⟨a, xs, rfl, hx, q⟩ := h
  cases rx
  obtain ⟨its, r, ht, hz⟩ := I.list hx
  have hlen := r.length
  refine ⟨"list", _, slot_list_getitem.lookup, ht.isList.typeIs, ?_⟩
  refine wpAny_getItem_list_slice ht.isList hs pl pu .none (by simp) ?_ (by rw [List.size_toArray] <;> omega)
  rw [slicePick_cut, ← hlen]
  refine ⟨.ref s.heap.objs.size, _, I.laid (t' := s.toks) (o := .lst (cutV xs lo hi)) (fun b ob q => Heap.get?_push_of_some _ q) (Nat.le_refl _) ?_, rfl, q _ (I.hok.fresh (Nat.le_refl _))⟩
  exact ⟨Nat.le_trans (cutV_length xs lo hi) hz, _, 0, (r.drop (HT.sIx xs.length 0 lo)).take (HT.sIx xs.length xs.length hi - HT.sIx xs.length 0 lo), Heap.get?_push_size _ rfl⟩

/-! ### in, not in: flat items -/
def flatV : V → Bool
  | .non => true
  | .bl _ => true
  | .int _ => true
  | .str _ => true
  | _ => false
/-- == of flat values -/
def eqV : V → V → Bool
  | .non, .non => true
  | .bl a, .bl b => a == b
  | .bl a, .int b => (if a then 1 else 0) == b
  | .int a, .bl b => a == (if b then 1 else 0)
  | .int a, .int b => a == b
  | .str a, .str b => a == b
  | _, _ => false
theorem eqAt_V {A : Around} {s : Shared} {y x : V} {u v : Value} (ry : RelV y u) (rx : RelV x v) (fy : flatV y = true) (fx : flatV x = true) : SeqAt.EqAt A s u v (eqV y x) := by
  cases y with
  | non =>
    cases ry
    cases x with
    | non => cases rx; exact SeqAt.EqAt.same _
    | bl b => cases rx; exact SeqAt.EqAt.none_bool b
    | int b => obtain ⟨t, rfl⟩ := rx; exact SeqAt.EqAt.none_int b t
    | str b => obtain ⟨t, rfl⟩ := rx; exact SeqAt.EqAt.none_str b t
    | _ => exact absurd (show false = true from fx) Bool.false_ne_true
  | bl a =>
    cases ry
    cases x with
    | non => cases rx; exact SeqAt.EqAt.bool_none a
    | bl b => cases rx; exact SeqAt.EqAt.bool_bool a b
    | int b => obtain ⟨t, rfl⟩ := rx; exact SeqAt.EqAt.bool_int a b t
    | str b => obtain ⟨t, rfl⟩ := rx; exact SeqAt.EqAt.bool_str a b t
    | _ => exact absurd (show false = true from fx) Bool.false_ne_true
  | int a =>
    obtain ⟨t', rfl⟩ := ry
    cases x with
    | non => cases rx; exact SeqAt.EqAt.int_none a t'
    | bl b => cases rx; exact SeqAt.EqAt.int_bool a t' b
    | int b => obtain ⟨t, rfl⟩ := rx; exact SeqAt.EqAt.int_int a t' b t
    | str b => obtain ⟨t, rfl⟩ := rx; exact SeqAt.EqAt.int_str a t' b t
    | _ => exact absurd (show false = true from fx) Bool.false_ne_true
  | str a =>
    obtain ⟨t', rfl⟩ := ry
    cases x with
    | non => cases rx; exact SeqAt.EqAt.str_none a t'
    | bl b => cases rx; exact SeqAt.EqAt.str_bool a t' b
    | int b => obtain ⟨t, rfl⟩ := rx; exact SeqAt.EqAt.str_int a t' b t
    | str b => obtain ⟨t, rfl⟩ := rx; exact SeqAt.EqAt.str_str a t' b t
    | _ => exact absurd (show false = true from fx) Bool.false_ne_true
  | _ => exact absurd (show false = true from fy) Bool.false_ne_true
/-- the items' answers, read off the values (a value's own answer does not lean on its token) -/
def eqU (x : V) (u : Value) : Bool := match u with
  | .none => eqV .non x
  | .bool b => eqV (.bl b) x
  | .int i _ => eqV (.int i) x
  | .str z _ => eqV (.str z) x
  | _ => false
theorem eqU_of {x y : V} {u : Value} (r : RelV y u) (f : flatV y = true) : eqU x u = eqV y x := by
  cases y with
  | non => cases r; rfl
  | bl b => cases r; rfl
  | int i => obtain ⟨t, rfl⟩ := r; rfl
  | str z => obtain ⟨t, rfl⟩ := r; rfl
  | _ => exact absurd (show false = true from f) Bool.false_ne_true
theorem any_eqU {x : V} : ∀ {xs : List V} {us : List Value}, Vals xs us → xs.all flatV = true → us.any (eqU x) = xs.any fun y => eqV y x
  | _, _, .nil, _ => rfl
  | y :: xs, u :: us, .cons r t, f => by
    rw [List.all_cons, Bool.and_eq_true] at f
    rw [List.any_cons, List.any_cons, eqU_of r f.1, any_eqU t f.2]
theorem mem_eqAt {A : Around} {s : Shared} {x : V} {v : Value} (rx : RelV x v) (fx : flatV x = true) : ∀ {xs : List V} {us : List Value}, Vals xs us → xs.all flatV = true → ∀ u ∈ us, SeqAt.EqAt A s u v (eqU x u)
  | _, _, .nil, _ => fun u hu => by cases hu
  | y :: xs, u :: us, .cons r t, f => fun u' hu => by
    rw [List.all_cons, Bool.and_eq_true] at f
    rcases List.mem_cons.mp hu with rfl | hu
    · rw [eqU_of r f.1]; exact eqAt_V r rx f.1 fx
    · exact mem_eqAt rx fx t f.2 u' hu
def inV (x : V) (xs : List V) : Bool := xs.any fun y => eqV y x
/-- x in a list or tuple of flat items -/
def rIn (K : PySem.W.Frag) (neg : Bool) : R2 := fun x y H Q => ∃ p xs, y = .ref p ∧ (SqL K H p xs ∨ SqT K H p xs) ∧ flatV x = true ∧ xs.all flatV = true ∧ Q (.bl (if neg then !inV x xs else inV x xs)) H
theorem op_in_seq : OpR X (compareOp .In) (rIn X.K false) := by
  intro pins s σ H x y v u Q I rx ry h
  obtain ⟨p, xs, rfl, hq, fx, fs, q⟩ := h
  cases ry
  rcases hq with hq | hq
  · obtain ⟨its, r, pl, hz⟩ := I.list hq
    refine SeqAt.in_listAt (eqU x) pl.isList (fun w hw => mem_eqAt rx fx r fs w (by simpa using hw)) ⟨.bl _, H, I, rfl, ?_⟩
    rw [show its.toArray.any (eqU x) = its.any (eqU x) by simp, any_eqU r fs]
    exact q
  · obtain ⟨its, r, pl, hz⟩ := I.tuple hq
    refine SeqAt.in_tupleAt (eqU x) pl (fun w hw => mem_eqAt rx fx r fs w (by simpa using hw)) ⟨.bl _, H, I, rfl, ?_⟩
    rw [show its.toArray.any (eqU x) = its.any (eqU x) by simp, any_eqU r fs]
    exact q
theorem op_notIn_seq : OpR X (compareOp .NotIn) (rIn X.K true) := by
  intro pins s σ H x y v u Q I rx ry h
  obtain ⟨p, xs, rfl, hq, fx, fs, q⟩ := h
  cases ry
  rcases hq with hq | hq
  · obtain ⟨its, r, pl, hz⟩ := I.list hq
    refine SeqAt.notIn_listAt (eqU x) pl.isList (fun w hw => mem_eqAt rx fx r fs w (by simpa using hw)) ⟨.bl _, H, I, rfl, ?_⟩
    rw [show its.toArray.any (eqU x) = its.any (eqU x) by simp, any_eqU r fs]
    exact q
  · obtain ⟨its, r, pl, hz⟩ := I.tuple hq
    refine SeqAt.notIn_tupleAt (eqU x) pl (fun w hw => mem_eqAt rx fx r fs w (by simpa using hw)) ⟨.bl _, H, I, rfl, ?_⟩
    rw [show its.toArray.any (eqU x) = its.any (eqU x) by simp, any_eqU r fs]
    exact q
theorem op_notIn_str : OpR X (compareOp .NotIn) (fun x y H Q => ∃ i j, x = .str i ∧ y = .str j ∧ Q (.bl (!(!(Builtin.Str.occurrences j i 0 j.length 1).isEmpty))) H) := by
  intro pins s σ H x y v u Q I rx ry h
  obtain ⟨i, j, rfl, rfl, q⟩ := h
  obtain ⟨t, rfl⟩ := rx
  obtain ⟨t', rfl⟩ := ry
  exact notIn_str ⟨.bl _, H, I, rfl, q⟩

/-! ### len, list(x), tuple(x) of any list or tuple that is read -/
theorem call_len_seq : CallR X (.builtin "len") (fun xs H Q => ∃ p ys, xs = [.ref p] ∧ (SqL X.K H p ys ∨ SqT X.K H p ys) ∧ Q (.int ys.length) H) := by
  intro pins s σ H xs us Q I r h
  obtain ⟨p, ys, rfl, hq, q⟩ := h
  obtain ⟨u, rfl, rx⟩ := vals1 r
  cases rx
  have hn := line63
  rcases hq with hq | hq
  · obtain ⟨its, r', pl, hz⟩ := I.list hq
    have hlen := r'.length
    exact Calls.call_len_list pl.isList (by simp only [List.size_toArray] <;> omega) ⟨.int ys.length, H, I.tok _, ⟨s.toks + 1, by rw [List.size_toArray, hlen]⟩, q⟩
  · obtain ⟨its, r', pl, hz⟩ := I.tuple hq
    have hlen := r'.length
    exact len_tuple pl (by simp only [List.size_toArray] <;> omega) ⟨.int ys.length, H, I.tok _, ⟨s.toks + 1, by rw [List.size_toArray, hlen]⟩, q⟩
theorem call_len_str : CallR X (.builtin "len") (fun xs H Q => ∃ z, xs = [.str z] ∧ z.length ≤ sizeLine ∧ Q (.int z.length) H) := by
  intro pins s σ H xs us Q I r h
  obtain ⟨z, rfl, hz, q⟩ := h
  obtain ⟨u, rfl, t, rfl⟩ := vals1 r
  have hn := line63
  exact len_str (by omega) ⟨.int z.length, H, I.tok _, ⟨_, rfl⟩, q⟩
theorem CallR.or {f : Value} {r r' : List V → Hp → VK → Prop} (h : CallR X f r) (h' : CallR X f r') : CallR X f (fun xs H Q => r xs H Q ∨ r' xs H Q) := by
  intro pins s σ H xs us Q I rs q
  rcases q with q | q
  · exact h pins s σ H xs us Q I rs q
  · exact h' pins s σ H xs us Q I rs q
theorem call_list_of : CallR X (.type "list") (fun xs H Q => ∃ p ys, xs = [.ref p] ∧ (SqL X.K H p ys ∨ SqT X.K H p ys) ∧ ∀ l, H l = none → Q (.ref l) (upd H l (.lst ys))) := by
  intro pins s σ H xs us Q I r h
  obtain ⟨p, ys, rfl, hq, q⟩ := h
  obtain ⟨u, rfl, rx⟩ := vals1 r
  cases rx
  have fin : ∀ (its : List Value), Vals ys its → ys.length ≤ sizeLine → ∀ (h' : Heap) (c' : Nat), (∀ b o', s.heap.get? b = some o' → h'.get? b = some o') →
      h'.get? s.heap.objs.size = some { cls := .type "list", dict := none, data := .seq its.toArray c', slots := #[] } → EP X pins σ Q (.ref s.heap.objs.size) { s with heap := h' } := fun its r' hz h' c' kp e =>
    ⟨.ref s.heap.objs.size, _, I.laid (t' := s.toks) kp (Nat.le_refl _) (show ObjOk X.prog X.w _ h' _ (.lst ys) from ⟨hz, its, c', r', e⟩), rfl, q _ (I.hok.fresh (Nat.le_refl _))⟩
  rcases hq with hq | hq
  · obtain ⟨its, r', pl, hz⟩ := I.list hq
    have hlen := r'.length
    obtain ⟨o, ho, hc, n, hd⟩ := pl.isList
    exact call_list_seq p (.inl rfl) ho hc hd (fun h' c' kp e => fin its r' hz h' c' kp e) (by simp only [List.size_toArray] <;> omega)
  · obtain ⟨its, r', pl, hz⟩ := I.tuple hq
    have hlen := r'.length
    obtain ⟨o, ho, hc, n, hd⟩ := pl
    exact call_list_seq p (.inr rfl) ho hc hd (fun h' c' kp e => fin its r' hz h' c' kp e) (by simp only [List.size_toArray] <;> omega)
theorem call_tuple_of : CallR X (.type "tuple") (fun xs H Q => ∃ p ys, xs = [.ref p] ∧ ((SqL X.K H p ys ∧ ∀ l, H l = none → Q (.ref l) (upd H l (.tup ys))) ∨ (SqT X.K H p ys ∧ Q (.ref p) H))) := by
  intro pins s σ H xs us Q I r h
  obtain ⟨p, ys, rfl, h⟩ := h
  obtain ⟨u, rfl, rx⟩ := vals1 r
  cases rx
  rcases h with ⟨hq, q⟩ | ⟨hq, q⟩
  · obtain ⟨its, r', pl, hz⟩ := I.list hq
    have hlen := r'.length
    refine call_tuple_list pl.isList (fun h' kp => ?_) (by simp only [List.size_toArray] <;> omega)
    have I1 : Inv X pins σ H { s with heap := h' } := I.kept (t' := s.toks) kp
    have I2 : Inv X pins σ (upd H h'.objs.size (.tup ys)) { s with heap := h'.push { cls := .type "tuple", data := .seq its.toArray } } :=
      I1.laid (t' := s.toks) (fun b o e => Heap.get?_push_of_some _ e) (Nat.le_refl _) (show ObjOk X.prog X.w _ _ _ (.tup ys) from ⟨hz, its, r', IsTup.new _ _⟩)
    exact ⟨.ref h'.objs.size, _, I2, rfl, q _ (I1.hok.fresh (Nat.le_refl _))⟩
  · obtain ⟨its, r', pl, hz⟩ := I.tuple hq
    exact call_tuple_same pl ⟨.ref p, H, I, rfl, q⟩

/-! ### the call of a builtin's method: o.m(..) -/
/-- the value is of that builtin type -/
def tyV (K : PySem.W.Frag) (T : String) (x : V) (H : Hp) : Prop := match x with
  | .str _ => T = "str"
  | .int _ => T = "int"
  | .ref p => (T = "list" ∧ ∃ xs, SqL K H p xs) ∨ (T = "tuple" ∧ ∃ o, K.lookup p = some o ∧ o.cls = .type "tuple" ∧ o.dict = none) ∨
      (T = "dict" ∧ ((∃ kvs, H p = some (.dK kvs)) ∨ ∃ kvs, H p = some (.dT kvs))) ∨ (T = "set" ∧ ∃ S n, H p = some (.set S n))
  | _ => False
theorem tyV_is {pins : List (Addr × Obj)} {σ : St} {H : Hp} {s : Shared} {T : String} {x : V} {v : Value} (I : Inv X pins σ H s) (r : RelV x v) (ty : tyV X.K T x H) :
    s.TypeIs v T ∧ ∀ a, v = .ref a → ∃ ob, s.heap.get? a = some ob ∧ ob.dict = none := by
  cases x with
  | str z =>
    obtain ⟨t, rfl⟩ := r
    cases (show T = "str" from ty)
    exact ⟨typeIs_str s z t, fun _ e => nomatch e⟩
  | int i =>
    obtain ⟨t, rfl⟩ := r
    cases (show T = "int" from ty)
    exact ⟨typeIs_int s i t, fun _ e => nomatch e⟩
  | ref p =>
    cases r
    rcases ty with ⟨rfl, xs, hq⟩ | ⟨rfl, o, hk, hc, hd⟩ | ⟨rfl, hk⟩ | ⟨rfl, S, n, hk⟩
    · obtain ⟨its, _, pl, _⟩ := I.list hq
      refine ⟨pl.isList.typeIs, fun a e => ?_⟩
      cases e
      obtain ⟨o, n, e, c, hd, _⟩ := pl
      exact ⟨o, e, hd⟩
    · refine ⟨⟨o, I.kIn p o hk, hc⟩, fun a e => ?_⟩
      cases e
      exact ⟨o, I.kIn _ o hk, hd⟩
    · have z : ∃ o, s.heap.get? p = some o ∧ o.ExactDict := by
        rcases hk with ⟨kvs, hk⟩ | ⟨kvs, hk⟩
        · obtain ⟨_, _, _, _, o, _, _, e, ex, _⟩ := I.hok p _ hk
          exact ⟨o, e, ex⟩
        · obtain ⟨_, _, _, _, o, _, _, e, ex, _⟩ := I.hok p _ hk
          exact ⟨o, e, ex⟩
      obtain ⟨o, e, ex⟩ := z
      refine ⟨⟨o, e, ex.1⟩, fun a e2 => ?_⟩
      cases e2
      exact ⟨o, e, ex.2.1⟩
    · obtain ⟨o, _, _, _, e, ex, _⟩ := I.hok p _ hk
      refine ⟨⟨o, e, ex.1⟩, fun a e2 => ?_⟩
      cases e2
      exact ⟨o, e, ex.2.1⟩
  | _ => exact False.elim ty
def tBM0 (K : PySem.W.Frag) (T : String) (r : V → List V → Hp → VK → Prop) (to : TE) : TE := fun σ H Q => to σ H fun x H1 => tyV K T x H1 ∧ r x [] H1 Q
def tBM (K : PySem.W.Frag) (T : String) (r : V → List V → Hp → VK → Prop) (to : TE) (t : TA) : TE := fun σ H Q => to σ H fun x H1 => tyV K T x H1 ∧ t σ H1 fun xs H2 => r x xs H2 Q
variable {o e : Expr} {es : List Expr} {to : TE} {t : TA} {name : Str} {apos cpos : Pos} {T id : String} {r : V → List V → Hp → VK → Prop}
theorem pe_bm0 (pa : PlainAttrs T) (slot : Slot T name id) (hty : typeOf (.builtin id) = pure (.type "method_descriptor")) (hm : MtR X id r) (ho : PE X o to)
    (hbase : attributeBase o name X.env (eval o X.env) = eval o X.env := by rfl) (hline : (apos.endLine == cpos.line) = true := by rfl) : PE X (.Call (.Attribute o name apos) [] [] cpos) (tBM0 X.K T r to) := by
  intro pins s σ H Q I h
  refine wpAny_Call_method0_late hbase hline (thn (ho pins s σ H _ I h) fun v s1 ⟨x, H1, I1, r1, ty, q1⟩ => ?_)
  obtain ⟨h1, h2⟩ := tyV_is I1 r1 ty
  exact ⟨T, id, pa, slot, hty, h1, h2, Calls.callWith_builtin rfl (PySem.evalArgs_none (hm pins s1 σ H1 x [] v [] Q I1 r1 .nil q1))⟩
theorem pe_bm (pa : PlainAttrs T) (slot : Slot T name id) (hty : typeOf (.builtin id) = pure (.type "method_descriptor")) (hm : MtR X id r) (ho : PE X o to) (ha : PA X (e :: es) t)
    (hbase : attributeBase o name X.env (eval o X.env) = eval o X.env := by rfl)
    (hfew : ((backTo cpos (starEach (e :: es) X.env)).all (fun x => !x.1) && (backToKw cpos (keywordEach [] X.env)).all (fun x => x.1.isSome)
      && decide ((e :: es).length + ([] : List Keyword).length + (if ([] : List Keyword).isEmpty then 0 else 1) < 30)) = true := by rfl)
    (hline : (apos.endLine == cpos.line) = true := by rfl) (hs : starEach (e :: es) X.env = (false, eval e X.env) :: starEach es X.env := by rfl) (hplain : (backTo cpos (starEach es X.env)).any (·.1) = false := by rfl) :
    PE X (.Call (.Attribute o name apos) (e :: es) [] cpos) (tBM X.K T r to t) := by
  intro pins s σ H Q I h
  refine wpAny_Call_method_late hbase hfew hline rfl (thn (ho pins s σ H _ I h) fun v s1 ⟨x, H1, I1, r1, ty, q1⟩ => ?_)
  obtain ⟨h1, h2⟩ := tyV_is I1 r1 ty
  refine ⟨T, id, pa, slot, hty, h1, h2, ?_⟩
  have hA := ha cpos pins s1 σ H1 _ I1 q1
  rw [hs] at hA ⊢
  refine Calls.callWith_builtin (by show (false || (backTo cpos (starEach es X.env)).any (·.1)) = false; rw [hplain] <;> rfl) (Calls.evalArgs_plain ?_)
  exact thn hA fun us s2 ⟨vs, H2, I2, r2, q2⟩ => hm pins s2 σ H2 x vs v us Q I2 r1 r2 q2
/- xs.append(e), list.index on a module's tuple .. are MtR facts of 06m -/
end
end L2

namespace L2
open PySem PySem.Spec PyProof.Rows

def MtM (X : Cx) (id : String) (r : V → List V → Hp → VK → Prop) : Prop :=
  ∀ (pins : List (Addr × Obj)) (s : Shared) (σ : St) (H : Hp) (x : V) (xs : List V) (v : Value) (us : List Value) (Q : VK), Inv X pins σ H s → RelV x v → Vals xs us → r x xs H Q →
    wpAny (model X.prog X.w) X.A (call (.builtin id) (v :: us)) (EP X pins σ Q) X.xe s

/-! ### lists of values -/
theorem Vals.one : ∀ {x : V} {us : List Value}, Vals [x] us → ∃ u, us = [u] ∧ RelV x u
  | _, _, .cons r .nil => ⟨_, rfl, r⟩
theorem Vals.two : ∀ {x y : V} {us : List Value}, Vals [x, y] us → ∃ u v, us = [u, v] ∧ RelV x u ∧ RelV y v
  | _, _, _, .cons r (.cons q .nil) => ⟨_, _, rfl, r, q⟩
theorem Vals.zero : ∀ {us : List Value}, Vals [] us → us = []
  | _, .nil => rfl
theorem Vals.dropLast {xs : List V} {us : List Value} (h : Vals xs us) : Vals xs.dropLast us.dropLast := by
  induction h with
  | nil => exact .nil
  | cons r t ih =>
    cases t with
    | nil => exact .nil
    | cons q t' => exact .cons r ih
theorem Vals.eraseIdx : ∀ {xs : List V} {us : List Value} (i : Nat), Vals xs us → Vals (xs.eraseIdx i) (us.eraseIdx i)
  | _, _, _, .nil => .nil
  | _, _, 0, .cons _ t => t
  | _, _, i + 1, .cons r t => .cons r (Vals.eraseIdx i t)
theorem Vals.reverse {xs : List V} {us : List Value} (h : Vals xs us) : Vals xs.reverse us.reverse := by
  induction h with
  | nil => exact .nil
  | cons r t ih => rw [List.reverse_cons, List.reverse_cons]; exact Vals.append ih (.cons r .nil)
theorem Vals.rep {xs : List V} {us : List Value} (h : Vals xs us) : ∀ k : Nat, Vals (List.replicate k xs).flatten (List.replicate k us).flatten
  | 0 => .nil
  | k + 1 => by
    rw [List.replicate_succ, List.replicate_succ, List.flatten_cons, List.flatten_cons]
    exact Vals.append h (Vals.rep h k)
theorem erase_last {α : Type} (l : List α) : l.eraseIdx (l.length - 1) = l.dropLast := by
  induction l with
  | nil => rfl
  | cons a r ih =>
    cases r with
    | nil => rfl
    | cons b r =>
      have e : (a :: b :: r).length - 1 = ((b :: r).length - 1) + 1 := by
        have h1 : (a :: b :: r).length = r.length + 2 := rfl
        have h2 : (b :: r).length = r.length + 1 := rfl
        omega
      rw [e, List.eraseIdx_cons_succ, ih]
      all_goals rfl
theorem len_erase {α : Type} : ∀ (l : List α) (i : Nat), (l.eraseIdx i).length ≤ l.length
  | [], _ => Nat.le_refl _
  | _ :: _, 0 => Nat.le_succ _
  | _ :: r, i + 1 => Nat.succ_le_succ (len_erase r i)
theorem foldl_rep (its : List Value) : ∀ (k : Nat) (acc : List Value),
    List.foldl (fun x1 x2 => x1 ++ x2) acc.toArray (List.replicate k its.toArray) = (acc ++ (List.replicate k its).flatten).toArray
  | 0, acc => by simp
  | k + 1, acc => by
    have e : acc.toArray ++ its.toArray = (acc ++ its).toArray := by simp
    have e2 : (acc ++ its) ++ (List.replicate k its).flatten = acc ++ (List.replicate (k + 1) its).flatten := by
      rw [List.replicate_succ, List.flatten_cons, List.append_assoc]
    rw [← e2, ← foldl_rep its k (acc ++ its), ← e, List.replicate_succ, List.foldl_cons]

section
variable {X : Cx} {pins : List (Addr × Obj)} {σ : St} {H : Hp} {s : Shared} {l b : Addr} {xs ys zs : List V}

/-! ### the two steps: a tracked list is rewritten, a new list is laid -/
theorem Inv.lset {its its' : List Value} {n : Nat} {f : Array Value → Array Value} {t' : Nat} (I : Inv X pins σ H s) (hH : H l = some (.lst xs))
    (e : s.heap.get? l = some { cls := .type "list", data := .seq its.toArray n }) (hf : f its.toArray = its'.toArray) (hv : Vals ys its') (hz : ys.length ≤ sizeLine) :
    Inv X pins σ (upd H l (.lst ys)) { s with heap := s.heap.update l (Obj.mapSeq f), toks := t' } := by
  have q := PySem.IsL.update e f
  rw [hf] at q
  refine I.write (x := l) (e := l) (by rw [hH]; exact trivial) (.inl rfl) (fun b' u hb hu => (Heap.get?_update_other s.heap (Obj.mapSeq f) (Ne.symm hb)).trans hu) ⟨_, q⟩ ?_
  exact ⟨hz, its', _, hv, q⟩
theorem Inv.lnew {its : List Value} {t' : Nat} (I : Inv X pins σ H s) (hv : Vals ys its) (hz : ys.length ≤ sizeLine) :
    Inv X pins σ (upd H s.heap.objs.size (.lst ys)) { s with heap := s.heap.push { cls := .type "list", data := .seq its.toArray }, toks := t' } :=
  I.laid (fun _ _ q => Heap.get?_push_of_some _ q) (Nat.le_refl _) ⟨hz, its, 0, hv, Heap.get?_push_size _ rfl⟩
theorem Inv.fresh (I : Inv X pins σ H s) : H s.heap.objs.size = none := I.hok.fresh (Nat.le_refl _)
theorem Inv.lstM (I : Inv X pins σ H s) (hH : H l = some (.lst xs)) : xs.length ≤ sizeLine ∧ ∃ (its : List Value) (n : Nat), Vals xs its ∧ xs.length = its.length ∧ s.heap.get? l = some { cls := .type "list", data := .seq its.toArray n } := by
  obtain ⟨z, its, n, r, e⟩ := I.hok l _ hH
  exact ⟨z, its, n, r, r.length, e⟩

theorem notLongL {n : Nat} (h : n ≤ sizeLine) : Builtin.List.listTooLong n = false := by
  unfold Builtin.List.listTooLong
  exact decide_eq_false (by omega)
end

section
variable {X : Cx}

/-! ### methods -/
def rAppend : V → List V → Hp → VK → Prop := fun x vs H Q => ∃ l xs y, x = .ref l ∧ vs = [y] ∧ H l = some (.lst xs) ∧ xs.length < sizeLine ∧ Q .non (upd H l (.lst (xs ++ [y])))
theorem mt_append : MtM X "list.append" rAppend := by
  intro pins s σ H x vs v us Q I rx rv h
  obtain ⟨l, xs, y, rfl, rfl, hH, hz, q⟩ := h
  cases rx
  obtain ⟨u, rfl, ru⟩ := rv.one
  obtain ⟨z, its, n, r, hl, e⟩ := I.lstM hH
  refine call_meets F.slot_list_append ⟨_, e, rfl⟩ F.entry_list_append (F.args_list_append_2 _ _) (PySem.list_append l its.toArray n u (by rw [List.size_toArray]; omega)) ⟨e, ?_⟩
  refine ⟨.non, _, I.lset (its' := its ++ [u]) hH e (by simp) (r.append (.cons ru .nil)) ?_, rfl, q⟩
  rw [List.length_append, List.length_singleton]
  omega

def rExtend : V → List V → Hp → VK → Prop := fun x vs H Q => ∃ l b xs zs, x = .ref l ∧ vs = [.ref b] ∧ H l = some (.lst xs) ∧ H b = some (.lst zs) ∧ xs.length + zs.length ≤ sizeLine ∧ Q .non (upd H l (.lst (xs ++ zs)))
theorem mt_extend : MtM X "list.extend" rExtend := by
  intro pins s σ H x vs v us Q I rx rv h
  obtain ⟨l, b, xs, zs, rfl, rfl, hH, hB, hz, q⟩ := h
  cases rx
  obtain ⟨u, rfl, ru⟩ := rv.one
  cases ru
  obtain ⟨z, its, n, r, hl, e⟩ := I.lstM hH
  obtain ⟨z2, its2, n2, r2, hl2, e2⟩ := I.lstM hB
  have hsz : its.toArray.size + its2.toArray.size ≤ sizeLine := by rw [List.size_toArray, List.size_toArray]; omega
  have hlong : ¬ (!its.toArray.isEmpty && Builtin.List.listTooLong (its.toArray.size + its2.toArray.size)) = true := by
    rw [notLongL hsz, Bool.and_false]
    exact Bool.false_ne_true
  refine call_meets F.slot_list_extend ⟨_, e, rfl⟩ F.entry_list_extend (F.args_list_extend_2 _ _)
    (AutoSeq1.list_extend_list_list_0 l its.toArray n b its2.toArray n2 hlong (by rw [List.size_toArray]; omega) (by omega)) ⟨e, e2, ?_⟩
  refine ⟨.non, _, I.lset (its' := its ++ its2) hH e (by simp) (r.append r2) ?_, rfl, q⟩
  rw [List.length_append]
  omega

def rPop : V → List V → Hp → VK → Prop := fun x vs H Q => ∃ l xs y, x = .ref l ∧ vs = [] ∧ H l = some (.lst xs) ∧ xs[xs.length - 1]? = some y ∧ Q y (upd H l (.lst xs.dropLast))
theorem mt_pop : MtM X "list.pop" rPop := by
  intro pins s σ H x vs v us Q I rx rv h
  obtain ⟨l, xs, y, rfl, rfl, hH, hy, q⟩ := h
  cases rx
  have hus := rv.zero
  subst hus
  obtain ⟨z, its, n, r, hl, e⟩ := I.lstM hH
  obtain ⟨u, hu, ru⟩ := r.get hy
  have hy' : its.toArray[its.toArray.size - 1]? = some u := by
    show its.toArray[its.length - 1]? = some u
    rw [← Array.getElem?_toList, ← hl]
    exact hu
  refine call_meets F.slot_list_pop ⟨_, e, rfl⟩ F.entry_list_pop (F.args_list_pop_1 _) (MeetsSeq.list_pop_last l its.toArray n u hy' (by rw [List.size_toArray]; omega)) ⟨e, ?_⟩
  refine ⟨y, _, I.lset (its' := its.dropLast) hH e ?_ r.dropLast ?_, ru, q⟩
  · show its.toArray.eraseIdxIfInBounds (its.toArray.size - 1) = its.dropLast.toArray
    rw [List.size_toArray, List.eraseIdxIfInBounds_toArray, erase_last]
  · rw [List.length_dropLast]
    omega

def rPopAt : V → List V → Hp → VK → Prop := fun x vs H Q => ∃ l xs i k y, x = .ref l ∧ vs = [.int i] ∧ H l = some (.lst xs) ∧ -(2 ^ 63) ≤ i ∧ i < 2 ^ 63 ∧ seqIndex? i xs.length = some k ∧ xs[k]? = some y ∧ Q y (upd H l (.lst (xs.eraseIdx k)))
theorem mt_popAt : MtM X "list.pop" rPopAt := by
  intro pins s σ H x vs v us Q I rx rv h
  obtain ⟨l, xs, i, k, y, rfl, rfl, hH, h1, h2, hk, hy, q⟩ := h
  cases rx
  obtain ⟨u, rfl, ru⟩ := rv.one
  obtain ⟨t, rfl⟩ := ru
  obtain ⟨z, its, n, r, hl, e⟩ := I.lstM hH
  obtain ⟨w, hw, rw'⟩ := r.get hy
  refine call_meets F.slot_list_pop ⟨_, e, rfl⟩ F.entry_list_pop (F.args_list_pop_2 _ _)
    (MeetsSeq.list_pop_at l its.toArray n i t k w (fitsIndex_both h1 h2) (by rw [List.size_toArray, ← hl]; exact hk) (by rw [← Array.getElem?_toList]; exact hw) (by rw [List.size_toArray]; omega)) ⟨e, ?_⟩
  refine ⟨y, _, I.lset (its' := its.eraseIdx k) hH e ?_ (r.eraseIdx k) ?_, rw', q⟩
  · show its.toArray.eraseIdxIfInBounds k = (its.eraseIdx k).toArray
    rw [List.eraseIdxIfInBounds_toArray]
  · have := len_erase xs k
    omega

def rReverse : V → List V → Hp → VK → Prop := fun x vs H Q => ∃ l xs, x = .ref l ∧ vs = [] ∧ H l = some (.lst xs) ∧ Q .non (upd H l (.lst xs.reverse))
theorem mt_reverse : MtM X "list.reverse" rReverse := by
  intro pins s σ H x vs v us Q I rx rv h
  obtain ⟨l, xs, rfl, rfl, hH, q⟩ := h
  cases rx
  have hus := rv.zero
  subst hus
  obtain ⟨z, its, n, r, hl, e⟩ := I.lstM hH
  refine call_meets F.slot_list_reverse ⟨_, e, rfl⟩ F.entry_list_reverse (F.args_list_reverse_1 _) (AutoSeq1.list_reverse_list_0 l its.toArray n (by rw [List.size_toArray]; omega)) ⟨e, ?_⟩
  refine ⟨.non, _, I.lset (its' := its.reverse) hH e (by simp) r.reverse ?_, rfl, q⟩
  rw [List.length_reverse]
  omega

def rClear : V → List V → Hp → VK → Prop := fun x vs H Q => ∃ l xs, x = .ref l ∧ vs = [] ∧ H l = some (.lst xs) ∧ Q .non (upd H l (.lst []))
theorem mt_clear : MtM X "list.clear" rClear := by
  intro pins s σ H x vs v us Q I rx rv h
  obtain ⟨l, xs, rfl, rfl, hH, q⟩ := h
  cases rx
  have hus := rv.zero
  subst hus
  obtain ⟨z, its, n, r, hl, e⟩ := I.lstM hH
  refine call_meets F.slot_list_clear ⟨_, e, rfl⟩ F.entry_list_clear (F.args_list_clear_1 _) (AutoSeq1.list_clear_list_0 l its.toArray n (by rw [List.size_toArray]; omega)) ⟨e, ?_⟩
  exact ⟨.non, _, I.lset (its' := []) (ys := []) hH e rfl .nil (Nat.zero_le _), rfl, q⟩

/-! ### list + list, list += list, list * int -/
def rCat : R2 := fun x y H Q => ∃ l b xs zs, x = .ref l ∧ y = .ref b ∧ H l = some (.lst xs) ∧ H b = some (.lst zs) ∧ xs.length + zs.length ≤ sizeLine ∧ ∀ p, H p = none → Q (.ref p) (upd H p (.lst (xs ++ zs)))
theorem op_cat : OpR X (binaryOp .Add) rCat := by
  intro pins s σ H x y v u Q I rx ry h
  obtain ⟨l, b, xs, zs, rfl, rfl, hH, hB, hz, q⟩ := h
  cases rx
  cases ry
  obtain ⟨z, its, n, r, hl, e⟩ := I.lstM hH
  obtain ⟨z2, its2, n2, r2, hl2, e2⟩ := I.lstM hB
  refine PySem.P.add_list e e2 ?_ (by rw [List.size_toArray, List.size_toArray]; omega)
  have ea : its.toArray ++ its2.toArray = (its ++ its2).toArray := by simp
  rw [ea]
  exact ⟨.ref _, _, I.lnew (t' := s.toks) (r.append r2) (by rw [List.length_append]; omega), rfl, q _ I.fresh⟩
/-- a list times an int (a negative one is nothing) -/
def rRep : R2 := fun x y H Q => ∃ l k xs, x = .ref l ∧ y = .int k ∧ H l = some (.lst xs) ∧ -(2 ^ 63) ≤ k ∧ k < 2 ^ 63 ∧ xs.length * k.toNat ≤ sizeLine ∧
  ∀ p, H p = none → Q (.ref p) (upd H p (.lst (List.replicate k.toNat xs).flatten))
theorem len_rep {α : Type} (xs : List α) (k : Nat) : (List.replicate k xs).flatten.length = k * xs.length := by
  induction k with
  | zero => simp
  | succ k ih => rw [List.replicate_succ, List.flatten_cons, List.length_append, ih, Nat.succ_mul, Nat.add_comm]
theorem op_rep : OpR X (binaryOp .Mult) rRep := by
  intro pins s σ H x y v u Q I rx ry h
  obtain ⟨l, k, xs, rfl, rfl, hH, h1, h2, hz, q⟩ := h
  cases rx
  obtain ⟨t, rfl⟩ := ry
  obtain ⟨z, its, n, r, hl, e⟩ := I.lstM hH
  have hlen : its.toArray.size * k.toNat ≤ sizeLine := by rw [List.size_toArray, ← hl]; exact hz
  have hcap : ¬ its.toArray.size * k.toNat > (2 ^ 63 - 1) / 8 := by
    have : (sizeLine : Nat) ≤ (2 ^ 63 - 1) / 8 := by decide
    omega
  have hfit : ¬ (!Builtin.List.listFitsIndex k) = true := by
    rw [fitsIndex_both h1 h2]
    exact Bool.false_ne_true
  have hlong : ¬ Builtin.List.listTooLong (its.toArray.size * k.toNat) = true := by
    rw [notLongL hlen]
    exact Bool.false_ne_true
  have hnew : List.foldl (fun x1 x2 => x1 ++ x2) #[] (List.replicate (if its.toArray.isEmpty = true then 0 else k.toNat) its.toArray) = (List.replicate k.toNat its).flatten.toArray := by
    have f0 : ∀ m : Nat, List.foldl (fun x1 x2 => x1 ++ x2) #[] (List.replicate m its.toArray) = (List.replicate m its).flatten.toArray := fun m => by
      have := foldl_rep its m []
      rw [List.nil_append] at this
      exact this
    rw [f0]
    cases its with
    | nil => simp
    | cons a r' => rw [if_neg (by simp)]
  refine wpAny_binaryOp_repeat_ref (T := "list") (U := "int") (by decide) ⟨_, e, rfl⟩ (fun s' => typeIs_int s' k t) noFill_list_mul F.fills_int_mul F.slot_int_rmul repeat_list F.slot_int_index.lookup
    (call_meets F.slot_int_rmul (typeIs_int s k t) F.entry_int_rmul (F.args_int_rmul_2 _ _) (int___rmul___int_list k t l its.toArray n)
      ⟨e, rfl, ⟨_, e, rfl⟩, call_meets F.slot_list_mul ⟨_, e, rfl⟩ F.entry_list_mul (F.args_list_mul_2 _ _) (AutoListH.list___mul___list_int_3 l its.toArray n k t hfit hcap hlong) ⟨e, ?_⟩⟩)
  rw [hnew]
  exact ⟨.ref _, _, I.lnew (t' := s.toks) (r.rep k.toNat) (by rw [len_rep, Nat.mul_comm]; exact hz), rfl, q _ I.fresh⟩

/-! ### del xs[i] -/
theorem del_list {pins : List (Addr × Obj)} {s : Shared} {σ : St} {H : Hp} {l : Addr} {xs : List V} {i : Int} {t : Tok} {k : Nat} {Q : Unit → Shared → Prop} (I : Inv X pins σ H s) (hH : H l = some (.lst xs))
    (h1 : -(2 ^ 63) ≤ i) (h2 : i < 2 ^ 63) (hk : seqIndex? i xs.length = some k) (h : ∀ s', Inv X pins σ (upd H l (.lst (xs.eraseIdx k))) s' → Q () s') :
    wpAny (model X.prog X.w) X.A (delItem (.ref l) (.int i t)) Q X.xe s := by
  obtain ⟨z, its, n, r, hl, e⟩ := I.lstM hH
  refine PySem.P.delItem_list (k := k) e (fitsIndex_both h1 h2) (by rw [List.size_toArray, ← hl]; exact hk) (h _ ?_) (by rw [List.size_toArray]; omega)
  refine I.lset (its' := its.eraseIdx k) (t' := s.toks) hH e ?_ (r.eraseIdx k) ?_
  · show its.toArray.eraseIdxIfInBounds k = (its.eraseIdx k).toArray
    rw [List.eraseIdxIfInBounds_toArray]
  · have := len_erase xs k
    omega
end

/-! ### xs[a:b] = ys -/
section
variable {prog : Program} {w : World} {A : Around} {E : Value → Shared → Prop} {s : Shared}
theorem splice_eq (its its2 : List Value) (a c : Nat) : its.toArray.extract 0 a ++ its2.toArray ++ its.toArray.extract c its.toArray.size = (its.take a ++ its2 ++ its.drop c).toArray := by
  apply Array.toList_inj.mp
  first
    | (simp
       exact List.take_of_length_le (by simp))
    | simp [List.take_of_length_le]
    | simp
theorem bounds_run {a c n : Nat} (hac : a ≤ c) (hc : c ≤ n) : sliceBounds (some (a : Int)) (some (c : Int)) none n = ((a : Int), (c : Int), 1) := by
  simp only [sliceBounds, Option.getD_none]
  have h1 : ¬ ((a : Int) < 0) := by omega
  have h2 : ¬ ((c : Int) < 0) := by omega
  simp only [h1, h2, if_false, show (1 : Int) > 0 by decide, if_true]
  congr 1
  · omega
  · congr 1; omega
set_option maxRecDepth 100000 in
/-- list.__setitem__ with a slice of step one and another list -/
theorem setItem_slice {l b sl : Addr} {items new : Array Value} {n n2 : Nat} {vl vu : Value} {a c : Nat} {Q : Unit → Shared → Prop}
    (e : s.heap.get? l = some { cls := .type "list", data := .seq items n }) (e2 : s.heap.get? b = some { cls := .type "list", data := .seq new n2 }) (hne : l ≠ b)
    (hs : s.heap.IsSliceOf sl vl vu .none) (pl : IsPart vl (some (a : Int))) (pu : IsPart vu (some (c : Int))) (hac : a ≤ c) (hc : c ≤ items.size)
    (hsz : items.size + new.size ≤ sizeLine) (h : Q () { s with heap := s.heap.update l (Obj.mapSeq fun xs => xs.extract 0 a ++ new ++ xs.extract c xs.size) }) :
    wpAny (model prog w) A (setItem (.ref l) (.ref sl) (.ref b)) Q E s := by
  have hl : s.heap.IsList l items := PySem.IsL.isList e
  have hb : s.heap.IsList b new := PySem.IsL.isList e2
  obtain ⟨os, hos, hcs, hds⟩ := id hs
  have hTs : s.TypeIs (.ref sl) "slice" := ⟨os, hos, hcs⟩
  have hstep : ¬ ((rawPart none == rawInt 0) = true) := Bool.false_ne_true
  have hsame : Builtin.List.listSameRef (.ref l) (.ref b) = false := by
    unfold Builtin.List.listSameRef
    exact beq_eq_false_iff_ne.mpr hne
  have hmax : (max (a : Int) (c : Int)).toNat = c := by omega
  have hz' : ((fun xs : Array Value => xs.extract 0 a ++ new ++ xs.extract c xs.size) items).size ≤ sizeLine + 1 := by
    simp only [Array.size_append, Array.size_extract]
    omega
  unfold setItem
  try with_reducible refine wpAny_holding ?_
  first | refine wpAny_bind (wpAny_pure ?_) | skip
  refine wpAny_bind (wpAny_sequenceKey hl.typeIs (by decide) ?_)
  refine wpAny_bind (wpAny_callSpecial?_slot (name := Str.ofString "__setitem__") hl.typeIs slot_list_setitem
    (wpAny_call_entry slot_list_setitem hl.typeIs entry_list_setitem ?_ (args_list_setitem _ _ _)))
  show wpAny _ _ (Builtin.List.listSubscript? (.ref sl) >>= _) _ _ s
  refine wpAny_bind ?_
  unfold Builtin.List.listSubscript?
  refine wpAny_bind (wpAny_specialOf hTs slice_no_index ?_)
  simp only [Option.isNone_none, if_true]
  refine wpAny_pure ?_
  show wpAny _ _ (typeOf (.ref sl) >>= _) _ _ s
  refine wpAny_bind (wpAny_typeOf hTs ?_)
  first
    | rw [if_neg (by decide)]
    | refine PySem.W.KFB.if_not (by decide) ?_
  rw [listSliceParts_eq]
  refine wpAny_bind (wpAny_bind (wpAny_field hos hds (x := .none) rfl (wpAny_bind (wpAny_listPart .none ?_))))
  rw [if_neg hstep]
  refine wpAny_bind (wpAny_field hos hds (x := vl) rfl (wpAny_bind (wpAny_listPart pl ?_)))
  refine wpAny_bind (wpAny_field hos hds (x := vu) rfl (wpAny_bind (wpAny_listPart pu (wpAny_pure ?_))))
  first
    | simp only [hsame, Bool.false_eq_true, if_false]
    | refine PySem.W.KFB.if_not hsame ?_
    | (dsimp only
       rw [if_neg (by rw [hsame]; exact Bool.false_ne_true)])
  refine wpAny_bind (m := Builtin.List.listAllItems (.ref b) "must assign iterable to extended slice") ?_
  unfold Builtin.List.listAllItems
  refine wpAny_bind (wpAny_typeOf hb.typeIs ?_)
  first
    | refine PySem.W.KFB.if_so (by decide) ?_
    | rw [if_pos (by decide)]
    | simp only [beq_self_eq_true, Bool.true_or, if_true]
  unfold Builtin.List.listItems
  refine wpAny_bind (wpAny_seqItems e2 rfl (wpAny_pure ?_))
  refine wpAny_bind (wpAny_bind (wpAny_seqItems e rfl (wpAny_pure ?_)))
  refine wpAny_bind (wpAny_of_eq ((sliceIndices_raw (some (a : Int)) (some (c : Int)) none items.size (by simp)).trans (congrArg (pure : Int × Int × Int → Sem (Int × Int × Int)) (bounds_run hac hc))) ?_)
  show wpAny _ _ (if ((1 : Int) == 1) = true then _ else _) _ _ s
  rw [if_pos (by decide)]
  refine wpAny_bind (wpAny_rule ?_)
  first
    | simp only [notLongL hsz, Bool.false_eq_true, if_false]
    | refine PySem.W.KFB.if_not (notLongL hsz) ?_
  first | refine wpAny_bind (wpAny_pure ?_) | skip
  show wpAny _ _ (updateSeq l (fun xs => xs.extract 0 ((a : Int)).toNat ++ new ++ xs.extract (max (a : Int) (c : Int)).toNat xs.size) >>= _) _ _ s
  rw [hmax, Int.toNat_natCast]
  refine wpAny_bind (wpAny_updateSeq (hz := Nat.le_trans (Nat.le_add_right _ _) hsz) (_hz' := hz') e rfl ?_)
  refine wpAny_bind (wpAny_letGo ?_)
  first
    | exact wpAny_bind (wpAny_pure (wpAny_pure ⟨.none, rfl, wpAny_pure h⟩))
    | exact wpAny_pure ⟨.none, rfl, wpAny_pure h⟩
end

section
variable {X : Cx}
/-- xs[a:c] = ys of another list, at the value level: sl is the slice object that was just made -/
theorem set_slice {pins : List (Addr × Obj)} {s : Shared} {σ : St} {H : Hp} {l b sl : Addr} {xs ys : List V} {a c : Int} {vl vu : Value} {Q : Unit → Shared → Prop} (I : Inv X pins σ H s)
    (hH : H l = some (.lst xs)) (hB : H b = some (.lst ys)) (hne : l ≠ b) (hs : s.heap.IsSliceOf sl vl vu .none) (ra : RelV (.int a) vl) (rc : RelV (.int c) vu) (h0 : 0 ≤ a) (hac : a ≤ c) (hc : c ≤ xs.length)
    (hz : xs.length + ys.length ≤ sizeLine) (h : ∀ s', Inv X pins σ (upd H l (.lst (xs.take a.toNat ++ ys ++ xs.drop c.toNat))) s' → Q () s') :
    wpAny (model X.prog X.w) X.A (setItem (.ref l) (.ref sl) (.ref b)) Q X.xe s := by
  obtain ⟨ta, rfl⟩ := ra
  obtain ⟨tc, rfl⟩ := rc
  obtain ⟨z, its, n, r, hl, e⟩ := I.lstM hH
  obtain ⟨z2, its2, n2, r2, hl2, e2⟩ := I.lstM hB
  obtain ⟨a', rfl⟩ := Int.eq_ofNat_of_zero_le h0
  obtain ⟨c', rfl⟩ := Int.eq_ofNat_of_zero_le (Int.le_trans h0 hac)
  simp only [Int.toNat_natCast] at h
  refine setItem_slice (a := a') (c := c') e e2 hne hs (.int _ _) (.int _ _) (by omega) (by rw [List.size_toArray]; omega) (by rw [List.size_toArray, List.size_toArray]; omega) (h _ ?_)
  refine I.lset (its' := its.take a' ++ its2 ++ its.drop c') (t' := s.toks) hH e ?_ (Vals.append (Vals.append (r.take _) r2) (r.drop _)) ?_
  · exact splice_eq its its2 a' c'
  · rw [List.length_append, List.length_append, List.length_take, List.length_drop]
    omega
end
end L2

namespace Att
open PySem PySem.W PySem.Calls PyProof.Rows

/-! ### the script -/
theorem ints_of_wellAll {P : Params} {h : Heap} : ∀ (ns : List Int) (vs : List Value), WellAll P h vs (ns.map WData.int) → IntsAre vs ns := by
  intro ns
  induction ns with
  | nil =>
    intro vs w
    rw [List.map_nil] at w
    cases w
    exact .nil
  | cons n ns ih =>
    intro vs w
    rw [List.map_cons] at w
    cases w with
    | cons a b =>
      cases a
      exact .cons _ _ (ih _ b)

theorem script_of {l : OpenLaw} {n : Nat} (hn : l.most = some n) {P : Params} {h : Heap} {args : List WData} {vals : List Value}
    (hpre : l.row.toRowW.claim.pre args = true) (hwl : WellAll P h vals args) :
    ∃ a vs ns, vals = [Value.ref a] ∧ args = [WData.list (ns.map WData.int)] ∧ h.get? a = some { cls := .type "list", data := .seq vs.toArray } ∧ IntsAre vs ns ∧ ns.length ≤ n := by
  have hsh : WShape.hasAll [] args [.list .int] = true := (pre_splitW hpre).1
  have hc : l.pre.holds [] { args := args } = true := (pre_splitW hpre).2
  obtain ⟨d, r, rfl, h1, h2⟩ := hasAllW_cons hsh
  obtain rfl := hasAllW_nil h2
  obtain ⟨xs, rfl, h3⟩ := hasW_list h1
  obtain ⟨ns, rfl⟩ := items_int h3
  have hlen : ns.length ≤ n := by
    unfold OpenLaw.pre at hc
    have h4 : (WTm.not (.lt (.lit (.int (n : Int))) (.len (.arg 0)))).holds [] { args := [.list (ns.map .int)] } = true := by
      have h4 := (holds_andW hc).1
      rw [hn] at h4
      exact h4
    have h5 := condW_of h4 (w_not (w_lt w_lit (w_len_list (w_arg rfl))))
    rw [List.length_map] at h5
    refine Nat.le_of_not_lt fun q => ?_
    have q' : (n : Int) < ((ns.length : Nat) : Int) := by omega
    first
      | (rw [decide_eq_true q'] at h5; exact absurd h5 (by decide))
      | (simp at h5; omega)
  cases hwl with
  | cons w1 w2 =>
    cases w2
    cases w1 with
    | list ho hall => exact ⟨_, _, ns, rfl, rfl, ho, ints_of_wellAll ns _ hall, hlen⟩

theorem post_true (l : OpenLaw) (args : List WData) : l.row.toRowW.claim.post args (.bool true) args = true :=
  postW_of (r := l.row.toRowW) (X := (true == true))
    (show WShape.has [] (.bool true) .bool = true by first | rfl | decide | simp [WShape.has, WShape.arms, WShape.armsAll])
    (show (WTm.eq .res (.lit (.bool true))).value [] { args := args, res := some (.bool true), after := args } = some (.bool (true == true)) from w_eq_bool (w_res rfl) w_lit) rfl

/-! ### the attachment: holds_open's last premise (the goal 'hc' behind k_head) from a wpAny of the law's body -/
theorem attach {l : OpenLaw} {n : Nat} {q : Program} {loose : List Str} {XP : (Str → Option Value) → Heap → Prop} {YP : World → Heap → Prop} {d : DefRec} {x : Str}
    (hn : l.most = some n) (hdf : d.params.defaults = [])
    (hbind : ∀ pm cd doc v : Value, bindArgs (docDef d.name d.params d.body d.scope pm cd doc) ⟨[v], []⟩ = pure [(x, v)])
    (hx : d.scope.names.lookup x = some .local ∨ d.scope.names.lookup x = some .cell)
    (hk : d.scope.kind = .function) (hco : d.scope.isCoroutine = false) (hgen : d.scope.isGenerator = false)
    (body : ∀ (w : World) (s₀ s₁ s : Shared) (mg mb : Str → Option Value) (fa : Addr) (o : Obj) (pm cd doc : Value) (a : Addr) (vs : List Value) (ns : List Int),
      Ground q loose [] XP w s₀ mg mb s₁.heap → YP w s₁.heap →
      s₁.heap.get? fa = some o → o.data = .func (docDef d.name d.params d.body d.scope pm cd doc) → s₁.heap.CodeRec cd d.name → mg d.name = some (.ref fa) →
      s₁.heap.get? a = some { cls := .type "list", data := .seq vs.toArray } → IntsAre vs ns → ns.length ≤ n →
      s.gens = #[] → s.os = s₁.os →
      Fr s₁.heap s₁.heap.objs.size s.heap (bindL (envOfC d.name d.scope s₁.heap.objs.size fa cd).kindOf [(x, .ref a)] fun _ => none) →
      Cl s₁.heap.objs.size (cellsFrom (s₁.heap.objs.size + 1) d.scope.names []) s.heap (bindC (envOfC d.name d.scope s₁.heap.objs.size fa cd).kindOf [(x, .ref a)] fun _ => none) →
      wpAny (model l.prog w) (callerA.deeper (envOfC d.name d.scope s₁.heap.objs.size fa cd)) (execs d.body (envOfC d.name d.scope s₁.heap.objs.size fa cd))
        (fun f s' => f = .ret (.bool true) ∧ OldK s₁.heap s'.heap ∧ s'.os = s₁.os ∧ AllBare s'.gens) (fun _ _ => False) s) :
    WalkO q loose XP YP l.row.toRowW d [] (fun f vs => PySem.call f vs) := by
  intro w s₀ s₁ mg mb G Y fa o pm cd doc dV kV ho hd hcd hD hmg hg args vals as hpre hlay hrd hwl hlo
  obtain rfl : dV = .none := Dflts.none hD hdf
  obtain rfl : kV = .none := Dflts.noKw hD
  obtain ⟨a, vs, ns, rfl, rfl, hobj, hints, hlen⟩ := script_of hn hpre hwl
  refine enter_call ?_
  refine call_cells_ret (o := o) (by rw [depth_caller]; decide) ho (fd_plain hd) G.T.nolimit hcd (hbind pm cd doc (.ref a)) (fun y hy => ?_) (fun h₁ tk F X => ?_) hco hgen hk
  · obtain rfl : y = (x, Value.ref a) := List.mem_singleton.mp hy
    rcases hx with e | e
    · exact .inl e
    · exact .inr ⟨e, cellsFrom_some _ _ _ (.inl e)⟩
  · refine wpAny_mono (body w s₀ s₁ { s₁ with heap := h₁, toks := tk } mg mb fa o pm cd doc a vs ns G Y ho (fd_plain hd) hcd hmg hobj hints hlen hg rfl F X) (fun f s' hq => ?_) (fun _ _ hq => hq)
    obtain ⟨rfl, h2, h3, h4⟩ := hq
    exact ⟨.inl ⟨.bool true, .bool true, [], rfl, fun _ => rfl, .bool true, post_true l _, fun _ => ⟨List.Pairwise.nil, fun _ hm => (nomatch hm)⟩⟩, h2, h3, h4⟩

/-- the same from a codeAny of the CALL (for a layer whose function contracts speak of calls) -/
theorem attach_call {l : OpenLaw} {n : Nat} {q : Program} {loose : List Str} {XP : (Str → Option Value) → Heap → Prop} {YP : World → Heap → Prop} {d : DefRec}
    (hn : l.most = some n) (hdf : d.params.defaults = [])
    (call : ∀ (w : World) (s₀ s₁ : Shared) (mg mb : Str → Option Value) (fa : Addr) (o : Obj) (pm cd doc : Value) (a : Addr) (vs : List Value) (ns : List Int),
      Ground q loose [] XP w s₀ mg mb s₁.heap → YP w s₁.heap →
      s₁.heap.get? fa = some o → o.data = .func (docDef d.name d.params d.body d.scope pm cd doc) → s₁.heap.CodeRec cd d.name → mg d.name = some (.ref fa) →
      s₁.heap.get? a = some { cls := .type "list", data := .seq vs.toArray } → IntsAre vs ns → ns.length ≤ n → s₁.gens = #[] →
      codeAny (model l.prog w) callerA (.call (.ref fa) ⟨[.ref a], []⟩) (fun r s' => r = .ok (.ret (.bool true)) ∧ OldK s₁.heap s'.heap ∧ s'.os = s₁.os ∧ AllBare s'.gens) s₁) :
    WalkO q loose XP YP l.row.toRowW d [] (fun f vs => PySem.call f vs) := by
  intro w s₀ s₁ mg mb G Y fa o pm cd doc dV kV ho hd hcd hD hmg hg args vals as hpre hlay hrd hwl hlo
  obtain rfl : dV = .none := Dflts.none hD hdf
  obtain rfl : kV = .none := Dflts.noKw hD
  obtain ⟨a, vs, ns, rfl, rfl, hobj, hints, hlen⟩ := script_of hn hpre hwl
  refine enter_call (codeAny_mono (call w s₀ s₁ mg mb fa o pm cd doc a vs ns G Y ho (fd_plain hd) hcd hmg hobj hints hlen hg) fun r s' hq => ?_)
  obtain ⟨rfl, h2, h3, h4⟩ := hq
  exact ⟨.inl ⟨.bool true, .bool true, [], rfl, fun _ => rfl, .bool true, post_true l _, fun _ => ⟨List.Pairwise.nil, fun _ hm => (nomatch hm)⟩⟩, h2, h3, h4⟩

/-- the same where the top left finished generators (o_head chose holds_openN): nothing may have changed at all and no generator may be left -/
theorem attachN {l : OpenLaw} {n : Nat} {q : Program} {loose : List Str} {XP : (Str → Option Value) → Heap → Prop} {YP : World → Heap → Prop} {d : DefRec} {x : Str}
    (hn : l.most = some n) (hdf : d.params.defaults = [])
    (hbind : ∀ pm cd doc v : Value, bindArgs (docDef d.name d.params d.body d.scope pm cd doc) ⟨[v], []⟩ = pure [(x, v)])
    (hx : d.scope.names.lookup x = some .local ∨ d.scope.names.lookup x = some .cell)
    (hk : d.scope.kind = .function) (hco : d.scope.isCoroutine = false) (hgen : d.scope.isGenerator = false)
    (body : ∀ (w : World) (s₀ s₁ s : Shared) (mg mb : Str → Option Value) (fa : Addr) (o : Obj) (pm cd doc : Value) (a : Addr) (vs : List Value) (ns : List Int),
      Ground q loose [] XP w s₀ mg mb s₁.heap → YP w s₁.heap →
      s₁.heap.get? fa = some o → o.data = .func (docDef d.name d.params d.body d.scope pm cd doc) → s₁.heap.CodeRec cd d.name → mg d.name = some (.ref fa) →
      s₁.heap.get? a = some { cls := .type "list", data := .seq vs.toArray } → IntsAre vs ns → ns.length ≤ n →
      s.gens = #[] → s.os = s₁.os →
      Fr s₁.heap s₁.heap.objs.size s.heap (bindL (envOfC d.name d.scope s₁.heap.objs.size fa cd).kindOf [(x, .ref a)] fun _ => none) →
      Cl s₁.heap.objs.size (cellsFrom (s₁.heap.objs.size + 1) d.scope.names []) s.heap (bindC (envOfC d.name d.scope s₁.heap.objs.size fa cd).kindOf [(x, .ref a)] fun _ => none) →
      wpAny (model l.prog w) (callerA.deeper (envOfC d.name d.scope s₁.heap.objs.size fa cd)) (execs d.body (envOfC d.name d.scope s₁.heap.objs.size fa cd))
        (fun f s' => f = .ret (.bool true) ∧ (∀ b o, s₁.heap.get? b = some o → s'.heap.get? b = some o) ∧ s'.os = s₁.os ∧ s'.gens = #[]) (fun _ _ => False) s) :
    WalkN q loose XP YP l.row.toRowW d [] (fun f vs => PySem.call f vs) := by
  intro w s₀ s₁ mg mb G Y fa o pm cd doc dV kV ho hd hcd hD hmg hg args vals as hpre hlay hrd hwl hlo
  obtain rfl : dV = .none := Dflts.none hD hdf
  obtain rfl : kV = .none := Dflts.noKw hD
  obtain ⟨a, vs, ns, rfl, rfl, hobj, hints, hlen⟩ := script_of hn hpre hwl
  refine enter_callW ?_
  refine call_cells_ret (o := o) (by rw [depth_caller]; decide) ho (fd_plain hd) G.T.nolimit hcd (hbind pm cd doc (.ref a)) (fun y hy => ?_) (fun h₁ tk F X => ?_) hco hgen hk
  · obtain rfl : y = (x, Value.ref a) := List.mem_singleton.mp hy
    rcases hx with e | e
    · exact .inl e
    · exact .inr ⟨e, cellsFrom_some _ _ _ (.inl e)⟩
  · refine wpAny_mono (body w s₀ s₁ { s₁ with heap := h₁, toks := tk } mg mb fa o pm cd doc a vs ns G Y ho (fd_plain hd) hcd hmg hobj hints hlen hg rfl F X) (fun f s' hq => ?_) (fun _ _ hq => hq)
    obtain ⟨rfl, h2, h3, h4⟩ := hq
    exact ⟨.inl ⟨.bool true, .bool true, [], rfl, fun _ => rfl, .bool true, post_true l _, fun _ => ⟨List.Pairwise.nil, fun _ hm => (nomatch hm)⟩⟩, h2, h3, h4⟩

/-! ### rules over ANY heap (no ledger) from facts about the written part K: the library's own take a ledger (News) for what they write -/
section
variable {prog : Program} {w : World} {A : Around} {E : Value → Shared → Prop} {s : Shared} {K : Frag}

/-- a def of the module, or a method (qual 'C.m'), entered: the frame is the next address; cells behind it -/
theorem call_fn {R : Result → Shared → Prop} {name qual : Str} {params : Arguments} {body : List Stmt} {scope : Scope} {dV kV doc pm cdv ct oc : Value} {an od : Option Addr} {osl : Array (Option Value)} {f : Addr} {args : Args} {binds : List (Str × Value)}
    (X : K.In s.heap) (hlim : s.heap.NoLimit) (ho : K.lookup f = some ⟨oc, od, .func (fnOf name qual params body scope dV kV doc pm an cdv ct), osl⟩) (hcd : codeIn K cdv qual = true) (hroom : A.depth < recursionLimit)
    (hbind : BindsTo s (fnOf name qual params body scope dV kV doc pm an cdv ct) args binds)
    (hkind : (binds.all fun y => scope.names.lookup y.1 == some .local || scope.names.lookup y.1 == some .cell) = true)
    (h : ∀ s₁, InCallC s s.heap.objs.size (bindL (envOfC qual scope s.heap.objs.size f cdv).kindOf binds fun _ => none) (cellsFrom (s.heap.objs.size + 1) scope.names [])
        (bindC (envOfC qual scope s.heap.objs.size f cdv).kindOf binds fun _ => none) s₁ →
      wpAny (model prog w) (A.deeper (envOfC qual scope s.heap.objs.size f cdv)) (execs body (envOfC qual scope s.heap.objs.size f cdv))
        (fun fl s' => R (.ok (.ret (match fl with | .ret v => v | _ => .none))) s')
        (fun e s' => wpAny (model prog w) (A.deeper (envOfC qual scope s.heap.objs.size f cdv)) (leaving (envOfC qual scope s.heap.objs.size f cdv) e) (fun _ s'' => R (.error e) s'') (fun e' s'' => R (.error e') s'') s') s₁)
    (hco : scope.isCoroutine = false) (hgen : scope.isGenerator = false) (hk : scope.kind = .function) : codeAny (model prog w) A (.call (.ref f) args) R s := by
  refine codeAny_call_function hroom (X _ _ ho) rfl hco hgen rfl (codeRec_of X hcd) (hbind _ _ _ _ ?_)
  refine wpAny_newFunctionEnv_cells hk (kindsX hkind _) fun env he s₁ x => ?_
  subst he
  exact ⟨hlim.keeps x.toInCall.keep, codeAny_func (h s₁ x)⟩

/-- C(..): dict at size, instance at size + 1, then __init__ -/
theorem make_obj {R : Result → Shared → Prop} {C fI : Addr} {rest : List Value} {kw : List (Str × Value)}
    (X : K.In s.heap) (hm : makesIn K C = true) (hi : findIn K (.ref C) "__init__" = some (some (.ref fI))) (hf : isFn K (.ref fI) = true)
    (h : codeAny (model prog w) (A.under (.builtin "type.__call__" ⟨.ref C :: rest, kw⟩)) (.call (.ref fI) ⟨.ref (s.heap.objs.size + 1) :: rest, kw⟩) (InitBack (s.heap.objs.size + 1) R)
      { s with heap := (s.heap.push emptyDict).push (instObj C s.heap.objs.size) }) : codeAny (model prog w) A (.call (.ref C) ⟨rest, kw⟩) R s := by
  obtain ⟨hh, g, d, t, os⟩ := s
  exact make_core (makes_of X hm) (looks_findIn X hi) (fun self => bind_fn X self (beq_iff_eq.mp hf)) (.inl rfl) h

/-- x.name where the instance's dict holds the name and the class does not -/
theorem get_field {x C : Addr} {ox : Obj} {es : List DictEntry} {n : Nat} {name : Str} {expr : Bool} {v : Value} {Q : Value → Shared → Prop}
    (X : K.In s.heap) (I : PySem.W.InstAt s.heap x ox C (some (dictOf es n))) (hg : plainGet K C name = true) (hh : hasDictIn K C = true) (ha : findIn K (.ref C) name = some none)
    (hl : getL name es = some (some v)) (hv : handedIn v = true) (h : Q v { s with toks := s.toks + 1 }) : wpAny (model prog w) A (getAttr (.ref x) name expr) Q E s :=
  get_value X I (plainGet_of hg).1 (findObj_own hh ha rfl hl) hv h

/-- x.m(..): the method found in the class -/
theorem get_method {x C f : Addr} {ox : Obj} {es : List DictEntry} {n : Nat} {name : Str} {pl : Sem Bool} {Q : Value × List Value → Shared → Prop}
    (X : K.In s.heap) (I : PySem.W.InstAt s.heap x ox C (some (dictOf es n))) (hg : plainGet K C name = true) (hf : findIn K (.ref C) name = some (some (.ref f))) (ht : isFn K (.ref f) = true)
    (hl : getL name es = some none) (h : Q (.ref f, [.ref x]) s) : wpAny (model prog w) A (getMethod (.ref x) name pl) Q E s :=
  method_fn X I (plainGet_of hg).1 (plainGet_of hg).2 hf (beq_iff_eq.mp ht) (by show (lookIn name (dictOf es n)).map _ = _; rw [lookIn_dict, hl]; rfl) h

/-! the whole heap as the ledger: makes every rule that writes through a ledger a rule over any heap -/
def noObjs (h : Heap) : Heap := { h with objs := #[] }
theorem noObjs_get (h : Heap) (b : Addr) : (noObjs h).get? b = none := by
  cases e : (noObjs h).get? b with
  | none => rfl
  | some o => exact absurd (Heap.lt_size e) (Nat.not_lt_zero _)
def ledger (h : Heap) (L d : Addr) : List (Addr × Obj) := (List.range h.objs.size).filterMap fun a => if a = L ∨ a = d then none else (h.get? a).map fun o => (a, o)
theorem mem_ledger {h : Heap} {L d a : Addr} {o : Obj} : (a, o) ∈ ledger h L d ↔ a ≠ L ∧ a ≠ d ∧ h.get? a = some o := by
  unfold ledger
  rw [List.mem_filterMap]
  constructor
  · rintro ⟨b, _, e⟩
    split at e
    · cases e
    · rename_i hb
      obtain ⟨o', ho, e'⟩ := Option.map_eq_some_iff.mp e
      cases e'
      exact ⟨fun q => hb (.inl q), fun q => hb (.inr q), ho⟩
  · rintro ⟨n1, n2, ho⟩
    refine ⟨a, List.mem_range.mpr (Heap.lt_size ho), ?_⟩
    rw [if_neg (show ¬ (a = L ∨ a = d) from fun q => q.elim n1 n2), ho] <;> rfl
theorem news_ledger {h : Heap} {L d : Addr} {od : Obj} (hne : d ≠ L) (ho : h.get? d = some od) : News (noObjs h) L h ([] ++ (d, od) :: ledger h L d) := by
  rintro ⟨a, o⟩ hp
  rcases List.mem_cons.mp hp with e | hp
  · cases e
    exact ⟨ho, hne, noObjs_get _ _⟩
  · obtain ⟨n1, n2, e⟩ := mem_ledger.mp hp
    exact ⟨e, n1, noObjs_get _ _⟩
theorem fr_all {h : Heap} {L : Addr} {m : Str → Option Value} (n : h.Ns L m) : Fr (noObjs h) L h m :=
  ⟨n, fun b o e => (by rw [noObjs_get] at e; cases e), Nat.zero_le _⟩
/-- Upd of the head entry (for append_K, setItem_K ..) -/
theorem upd_ledger {h : Heap} {L d : Addr} {o o' : Obj} : Upd d o o' ((d, o) :: ledger h L d) ((d, o') :: ledger h L d) :=
  .head fun ⟨_, _⟩ hp => (mem_ledger.mp hp).2.1

/-- x.name = v over any heap: L is any namespace of the heap (the frame's, say): its map stays, its object is not told; all else but the dict stays -/
theorem set_field {x C dx L : Addr} {ox : Obj} {m : Str → Option Value} {es es' : List DictEntry} {n n' : Nat} {name : Str} {v : Value} {Q : Unit → Shared → Prop}
    (X : K.In s.heap) (I : PySem.W.InstAt s.heap x ox C (some (dictOf es n))) (hd : ox.dict = some dx) (hL : s.heap.Ns L m) (hne : dx ≠ L)
    (hs : findIn K (.ref C) "__setattr__" = some (some (.builtin "object.__setattr__"))) (hp : plainOver K C = true) (ht : takerIn K C name = some none) (hh : hasDictIn K C = true) (hl : (getL name es).isSome = true)
    (e : (putL name (PyData.keyHash w.params name) (.str name (s.toks + 1)) v es, putN name es n) = (es', n')) (hz : es'.length ≤ 1000)
    (h : ∀ h' : Heap, h'.Ns L m → h'.get? dx = some (dictOf es' n') → (∀ b o, b ≠ dx → b ≠ L → s.heap.get? b = some o → h'.get? b = some o) → Q () { s with heap := h', toks := s.toks + 2 }) :
    wpAny (model prog w) A (setAttr (.ref x) name v) Q E s := by
  obtain ⟨e1, e2⟩ := Prod.mk.inj e
  have hdx : s.heap.get? dx = some (dictOf es n) := by
    have := I.dict
    rw [hd] at this
    exact this
  refine set_plain X I hs (osa_dict (s := { s with toks := s.toks + 1 }) (h₀ := noObjs s.heap) (L := L) (m := m) (od := dictOf es n) (od' := dictOf es' n') (es := es') (n := n') (pre := []) (post := ledger s.heap L dx)
    (fr_all hL) (news_ledger hne hdx) X I hd hp ht hh hl (fun _ q => nomatch q) (fun ⟨_, _⟩ q => (mem_ledger.mp q).2.1) (by rw [putName_dict, e1, e2]) rfl hz fun h' F' N' => ?_)
  exact h h' F'.ns (N'.get (List.Mem.head _)) fun b o n1 n2 ho => N'.get (List.Mem.tail _ (mem_ledger.mpr ⟨n2, n1, ho⟩))
end
end Att

namespace L2
open PySem PySem.Spec PyProof.Rows

theorem vals_ints : ∀ {vs : List Value} {ns : List Int}, IntsAre vs ns → Vals (ns.map V.int) vs
  | _, _, .nil => .nil
  | _, _, .cons n t h => .cons ⟨t, rfl⟩ (vals_ints h)

/-- nothing is tracked but the script, known to the object (or it is an object of the module) -/
def Only (H : Hp) : Prop := ∀ b, H b = none ∨ ∃ o xs, H b = some (.frz o (.lst xs))

/-- THE HEAD: the law's promise, at the heap behind the top. F, the promise of the law's def, may use that base is part of the heap (so K.In base, base.Ns mainGlobals mg stand in Mod) -/
theorem law_call {P : Program} {w : World} {K : PySem.W.Frag} {mg mb : Str → Option Value} {CX : CXT} {k : Nat} {fa a : Addr} {fd : FuncData} {x : Str} {sp : Sp} {s₁ : Shared} {vs : List Value} {ns : List Int}
    (KX : K.In s₁.heap) (hns : s₁.heap.Ns mainGlobals mg) (hb : s₁.heap.Ns builtinsNs mb) (hbb : ∀ x : Str, x ≠ "__name__" → mb x = bootBuiltins x) (hlim : s₁.heap.NoLimit) (hg : s₁.gens = #[])
    (ha : s₁.heap.get? a = some { cls := .type "list", data := .seq vs.toArray }) (hi : IntsAre vs ns) (hl : ns.length ≤ sizeLine) (hr : Room k callerA)
    (F : ∀ base : Heap, K.In base → base.Ns mainGlobals mg → FnOk P w K mg base CX k fa fd [x] sp) (hbind : ∀ (s : Shared) (u : Value), BindsTo s fd ⟨[u], []⟩ [(x, u)])
    (hsp : ∀ H : Hp, Only H → SqL K H a (ns.map V.int) → sp [.ref a] H (fun v _ => v = .bl true) fun _ _ _ => False)
    (hCX : ∀ H e s', CX [] H s₁ (fun _ _ _ => False) e s' → False) :
    codeAny (model P w) callerA (.call (.ref fa) ⟨[.ref a], []⟩) (fun r s' => r = .ok (.ret (.bool true)) ∧ OldK s₁.heap s'.heap ∧ s'.os = s₁.os ∧ AllBare s'.gens) s₁ := by
  have rv := vals_ints hi
  have lenV := hi.length
  -- from an abstract heap in which nothing but the script may be tracked
  have core : ∀ H : Hp, Only H → SqL K H a (ns.map V.int) → HOk P w H s₁.heap → (∀ b, H b ≠ none → b = a) → (H a ≠ none → K.lookup a = none) →
      codeAny (model P w) callerA (.call (.ref fa) ⟨[.ref a], []⟩) (fun r s' => r = .ok (.ret (.bool true)) ∧ OldK s₁.heap s'.heap ∧ s'.os = s₁.os ∧ AllBare s'.gens) s₁ := by
    intro H hO hS hok hA hK
    have base_of : ∀ {b : Addr} {o : Obj}, s₁.heap.get? b = some o → H b = none → (hidT s₁.heap H).get? b = some o := fun e n => hidT_get e n
    have noA : ∀ {b : Addr} {o : Obj} {es : Array DictEntry} {ep : Nat}, s₁.heap.get? b = some o → o.data = .dict es ep → H b = none := fun {b o es ep} e d => by
      cases q : H b with
      | none => rfl
      | some u =>
        have e' : b = a := hA b (by rw [q]; simp)
        subst e'
        rw [ha] at e; cases e
        have d' : Data.seq vs.toArray _ = Data.dict es ep := d
        cases d'
    have nsK : ∀ {b : Addr} {m : Str → Option Value}, s₁.heap.Ns b m → (hidT s₁.heap H).Ns b m := fun {b m} ⟨o, es, ep, e, d, r⟩ => ⟨o, es, ep, base_of e (noA e d), d, r⟩
    have hKb : K.In (hidT s₁.heap H) := fun b o e => base_of (KX b o e) (by
      cases q : H b with
      | none => rfl
      | some u =>
        have e' : b = a := hA b (by rw [q]; simp)
        subst e'
        rw [hK (by rw [q]; simp)] at e; cases e)
    have hM : Mod K mg (hidT s₁.heap H) := ⟨hKb, nsK hns, ⟨mb, nsK hb, hbb⟩, let ⟨mc, h1, h2⟩ := hlim; ⟨mc, nsK h1, h2⟩⟩
    have e0 : Env0 P w K mg (hidT s₁.heap H) callerA [] s₁ H := ⟨rfl, hM, fun b o e => of_hidT e, Nat.le_of_eq (hidT_size _ _), trivial, fun b hb => absurd (show b ∈ ([] : List Addr) from hb) (by simp), hok, .of_eq hg⟩
    refine codeAny_mono ((F _ hKb (nsK hns)).run callerA [] s₁ H ⟨[.ref a], []⟩ [.ref a] [.ref a] _ _ hr e0 (hbind s₁ (.ref a)) (.cons rfl .nil) (hsp H hO hS)) fun r s' h => ?_
    cases r with
    | error e => exact (hCX H e s' h).elim
    | ok fl =>
      cases fl with
      | next => exact False.elim h
      | brk => exact False.elim h
      | cont => exact False.elim h
      | ret u =>
        obtain ⟨v, H', os, bare, un, hok', r', q⟩ := h
        have q' : v = .bl true := q
        subst q'
        obtain rfl : u = Value.bool true := r'
        refine ⟨rfl, OldK.of_keep fun b o e => ?_, os, bare⟩
        cases q : H b with
        | none => exact un.keep b o e q (by intro z; exact absurd (show b ∈ ([] : List Addr) from z) (by simp)) (by simp)
        | some u =>
          rcases hO b with z | ⟨ob, xs, z⟩
          · rw [q] at z; cases z
          · have z2 := un.frzs b ob _ z
            obtain ⟨e1, _⟩ := hok b _ z
            obtain ⟨e2, _⟩ := hok' b _ z2
            rw [e] at e1; cases e1
            exact e2
  cases hk : K.lookup a with
  | some o =>
    -- the script is one of the module's own objects
    have e := KX a o hk
    rw [ha] at e
    cases e
    refine core (fun _ => none) (fun _ => .inl rfl) (.inr ⟨_, vs.toArray, _, hk, rfl, rfl, rfl, by rw [List.size_toArray, lenV]; exact hl, by simpa using rv⟩) (fun b u z => by have z' : (none : Option HO) = some u := z; cases z') (fun b z => absurd rfl z) fun z => absurd rfl z
  | none =>
    refine core (fun b => if b = a then some (.frz { cls := .type "list", data := .seq vs.toArray } (.lst (ns.map V.int))) else none) (fun b => ?_) (.inl (.inr ⟨{ cls := .type "list", data := .seq vs.toArray }, if_pos rfl⟩)) (fun b u z => ?_) (fun b z => ?_) fun _ => hk
    · by_cases hb : b = a
      · exact .inr ⟨_, _, if_pos hb⟩
      · exact .inl (if_neg hb)
    · by_cases hb : b = a
      · have z' := (if_pos hb).symm.trans z
        cases z'
        subst hb
        exact ⟨ha, by rw [List.length_map]; exact hl, vs, _, rv, ha⟩
      · have z' := (if_neg hb).symm.trans z
        cases z'
    · by_cases hb : b = a
      · exact hb
      · exact absurd (if_neg hb) z
end L2

namespace L2
open PySem PySem.Spec PyProof.Rows

abbrev KOf {K : PySem.W.Frag} {h : Heap} (_ : K.In h) : PySem.W.Frag := K

/-- the goal that k_head leaves (case hc), from the law's promise. F gives the function object fd (K's own) once, then the promise over every base -/
theorem walk_of {l : PySem.W.OpenLaw} {n k : Nat} {q : Program} {loose : List Str} {XP : (Str → Option Value) → Heap → Prop} {YP : World → Heap → Prop} {d : DefRec} {K : Params → PySem.W.Frag} {CX : World → CXT} {sp : World → Sp} {x : Str}
    (hn : l.most = some n) (hn2 : n ≤ sizeLine) (hdf : d.params.defaults = []) (hr : Room k callerA)
    (hY : ∀ (w : World) (h : Heap), YP w h → (K w.params).In h)
    (F : ∀ (w : World) (mg : Str → Option Value) (fa : Addr) (h : Heap), (K w.params).In h → h.Ns mainGlobals mg → mg d.name = some (.ref fa) →
      ∃ fd : FuncData, (∀ (s : Shared) (u : Value), BindsTo s fd ⟨[u], []⟩ [(x, u)]) ∧
        ∀ base : Heap, (K w.params).In base → base.Ns mainGlobals mg → FnOk l.prog w (K w.params) mg base (CX w) k fa fd [x] (sp w))
    (hsp : ∀ (w : World) (H : Hp) (a : Addr) (ns : List Int), ns.length ≤ n → Only H → SqL (K w.params) H a (ns.map V.int) → sp w [.ref a] H (fun v _ => v = .bl true) fun _ _ _ => False)
    (hCX : ∀ (w : World) (H : Hp) (s : Shared) (e : Value) (s' : Shared), CX w [] H s (fun _ _ _ => False) e s' → False) :
    PySem.W.WalkO q loose XP YP l.row.toRowW d [] (fun f vs => PySem.call f vs) := by
  refine Att.attach_call hn hdf fun w s₀ s₁ mg mb fa o pm cd doc a vs ns G Y ho hd hcd hmg hobj hints hlen hg => ?_
  have KX := hY w _ Y
  obtain ⟨fd, hb, hF⟩ := F w mg fa _ KX G.T.g hmg
  exact law_call KX G.T.g G.T.b G.T.builtins G.T.nolimit hg hobj hints (Nat.le_trans hlen hn2) hr hF hb (fun H hO hS => hsp w H a ns hlen hO hS) fun H e s' => hCX w H s₁ e s'
/-- the same where the promise hangs on the written part alone: (sp := My.sp_law), no hole under a binder -/
theorem walk_ofK {l : PySem.W.OpenLaw} {n k : Nat} {q : Program} {loose : List Str} {XP : (Str → Option Value) → Heap → Prop} {YP : World → Heap → Prop} {d : DefRec} {K : Params → PySem.W.Frag} {CX : CXT} {sp : PySem.W.Frag → Sp} {x : Str}
    (hn : l.most = some n) (hn2 : n ≤ sizeLine) (hdf : d.params.defaults = []) (hr : Room k callerA)
    (hY : ∀ (w : World) (h : Heap), YP w h → (K w.params).In h)
    (F : ∀ (w : World) (mg : Str → Option Value) (fa : Addr) (h : Heap), (K w.params).In h → h.Ns mainGlobals mg → mg d.name = some (.ref fa) →
      ∃ fd : FuncData, (∀ (s : Shared) (u : Value), BindsTo s fd ⟨[u], []⟩ [(x, u)]) ∧
        ∀ base : Heap, (K w.params).In base → base.Ns mainGlobals mg → FnOk l.prog w (K w.params) mg base CX k fa fd [x] (sp (K w.params)))
    (hsp : ∀ (K : PySem.W.Frag) (H : Hp) (a : Addr) (ns : List Int), ns.length ≤ n → Only H → SqL K H a (ns.map V.int) → sp K [.ref a] H (fun v _ => v = .bl true) fun _ _ _ => False)
    (hCX : ∀ (H : Hp) (s : Shared) (e : Value) (s' : Shared), CX [] H s (fun _ _ _ => False) e s' → False) :
    PySem.W.WalkO q loose XP YP l.row.toRowW d [] (fun f vs => PySem.call f vs) :=
  walk_of (K := K) (CX := fun _ => CX) (sp := fun w => sp (K w.params)) hn hn2 hdf hr hY F (fun w H a ns h1 h2 h3 => hsp (K w.params) H a ns h1 h2 h3) fun _ H s e s' => hCX H s e s'
end L2



/-! SHORT WORDS over the layer: a def of the text, its body, what a loop and a test want. -/
namespace L2
open PySem PySem.Spec PyProof.Rows

/-! ### the text by places -/
/-- the j-th statement of a class's body -/
def inClass (s : Stmt) (j : Nat) : Stmt := match s with
  | .ClassDef _ _ _ body _ _ _ _ _ _ _ => body.getD j (.Pass ⟨0, 0, 0, 0⟩)
  | _ => .Pass ⟨0, 0, 0, 0⟩
def defArgs (s : Stmt) : Arguments := match s with
  | .FunctionDef _ a _ _ _ _ _ _ _ _ => a
  | _ => { posonlyargs := [], args := [], vararg := none, kwonlyargs := [], kw_defaults := [], kwarg := none, defaults := [] }
def defBody (s : Stmt) : List Stmt := match s with
  | .FunctionDef _ _ b _ _ _ _ _ _ _ => b
  | _ => []
def defScope (s : Stmt) : Scope := match s with
  | .FunctionDef _ _ _ _ _ _ sc _ _ _ => sc
  | _ => { kind := .function, names := [], isGenerator := false, isCoroutine := false }

/-! ### no exception leaves a def -/
abbrev CX0 : CXT := fun _ _ _ _ _ _ => False
abbrev E0 : XK := fun _ _ _ => False
theorem pass0 {X : Cx} : Passes CX0 X E0 := fun _ _ _ _ _ _ _ h => h.elim

/-! ### a def (or method) of the text as it stands behind the top -/
structure Fun (K : PySem.W.Frag) (x qual : Str) (st : Stmt) (f : Addr) (fd : FuncData) : Prop where
  ex : ∃ (oc : Value) (od : Option Addr) (kV doc pm : Value) (an : Option Addr) (cdv ct : Value) (osl : Array (Option Value)),
    fd = PySem.W.fnOf x qual (defArgs st) (defBody st) (defScope st) .none kV doc pm an cdv ct ∧ K.lookup f = some ⟨oc, od, .func fd, osl⟩ ∧ PySem.W.codeIn K cdv qual = true
  kp : PySem.W.keepIn K (.ref f) = true
section
variable {P : Program} {w : World} {K : PySem.W.Frag} {mg : Str → Option Value} {base : Heap}
/-- THE RULE for a def: its body as a term of rules, and the reading of that term -/
theorem Fun.ok {x qual : Str} {st : Stmt} {f : Addr} {fd : FuncData} {N ps : List Str} {k : Nat} {sp : Sp} (F : Fun K x qual st f fd) (S : FnScope N ps (defScope st)) (len : ∀ vs H Q E, sp vs H Q E → vs.length = ps.length)
    (hbody : ∀ (cdv : Value) (A : Around) (outer : List Env) (s : Shared) (H : Hp) (vs : List V) (Q : VK) (E : XK), Room k (A.deeper (envOfC qual (defScope st) s.heap.objs.size f cdv)) → sp vs H Q E →
      ∃ t, PSs (cxOf CX0 P w K mg base N qual (defScope st) f cdv A outer s H E).nox (defBody st) t ∧ t { nx := fun _ H' => Q .non H', rt := Q } (start N vs) H) : FnOk P w K mg base CX0 (k + 1) f fd ps sp := by
  obtain ⟨oc, od, kV, doc, pm, an, cdv, ct, osl, rfl, lk, hcd⟩ := F.ex
  refine fn_of lk hcd S len fun A outer s H vs Q E hr hsp => ?_
  obtain ⟨t, h, q⟩ := hbody cdv A outer s H vs Q E hr hsp
  exact ⟨t, h.nox, q⟩
/-- how its arguments bind (no defaults): h is «fun _ _ _ _ _ _ us hl => match us, hl with | [_, _], _ => rfl», one _ a parameter -/
theorem Fun.binds {x qual : Str} {st : Stmt} {f : Addr} {fd : FuncData} {ps : List Str} (F : Fun K x qual st f fd)
    (h : ∀ (kV doc pm : Value) (an : Option Addr) (cdv ct : Value) (us : List Value), us.length = ps.length → bindArgs (PySem.W.fnOf x qual (defArgs st) (defBody st) (defScope st) .none kV doc pm an cdv ct) ⟨us, []⟩ = pure (ps.zip us)) : Binds K fd ps [] := by
  obtain ⟨oc, od, kV, doc, pm, an, cdv, ct, osl, rfl, lk, hcd⟩ := F.ex
  exact .all (h kV doc pm an cdv ct)
theorem fun_mk {x qual : Str} {st : Stmt} {f : Addr} {oc : Value} {od an : Option Addr} {osl : Array (Option Value)} {kV doc pm cdv ct : Value} (l : K.lookup f = some ⟨oc, od, .func (PySem.W.fnOf x qual (defArgs st) (defBody st) (defScope st) .none kV doc pm an cdv ct), osl⟩)
    (c : PySem.W.codeIn K cdv qual = true) (k : PySem.W.keepIn K (.ref f) = true) : Fun K x qual st f (PySem.W.fnOf x qual (defArgs st) (defBody st) (defScope st) .none kV doc pm an cdv ct) := ⟨⟨oc, od, kV, doc, pm, an, cdv, ct, osl, rfl, l, c⟩, k⟩
end
theorem hu_of {A : Around} {k : Nat} (hr : Room k A) : A.units + 1 < cLine := Nat.lt_of_le_of_lt (Nat.add_le_add_left (by decide : 1 ≤ 64) _) hr.units
theorem small1000 {n : Nat} (h : n ≤ 1000) : n < sizeLine := Nat.lt_of_le_of_lt h (by decide)

/-! ### expressions in short: the name that stands in the i-th slot -/
section
variable {X : Cx}
theorem pv (i : Nat) {x : Str} {pos : Pos} (hN : X.N[i]? = some x := by rfl) (hv : Vis X.env.scope x := by first | exact Or.inl rfl | exact Or.inr (Or.inl rfl) | exact Or.inr (Or.inr rfl)) (hd : (x == ("__debug__" : Str)) = false := by decide)
    (hcd : (x == ("__classdict__" : Str)) = false := by decide) : PE X (.Name x pos) (tVar i) := pe_var hN hv hd hcd
end

/-! ### tests -/
theorem iteF {A B : Prop} (h : B) : if false = true then A else B := by
  rw [if_neg Bool.false_ne_true]
  exact h
theorem iteT {A B : Prop} (h : A) : if true = true then A else B := by
  rw [if_pos rfl]
  exact h
theorem ite2 {c A B : Prop} [Decidable c] (h1 : c → A) (h2 : ¬ c → B) : if c then A else B := by
  by_cases h : c
  · rw [if_pos h]
    exact h1 h
  · rw [if_neg h]
    exact h2 h
theorem iteNS {c A B : Prop} [Decidable c] (hc : c) (h : B) : if (!decide c) = true then A else B := by
  rw [decide_eq_true hc]
  exact iteF h

/-! ### heaps -/
/-- all that was tracked is as it was -/
def Same (H H' : Hp) : Prop := ∀ b o, H b = some o → H' b = some o
theorem Same.refl (H : Hp) : Same H H := fun _ _ h => h
theorem Same.trans {H H1 H2 : Hp} (a : Same H H1) (b : Same H1 H2) : Same H H2 := fun c o h => b c o (a c o h)
theorem Same.free {H H' : Hp} (e : Same H H') {l : Addr} (h : H' l = Option.none) : H l = Option.none := by
  cases q : H l with
  | none => rfl
  | some o =>
    rw [e l o q] at h
    cases h
theorem Same.seq {K : PySem.W.Frag} {H H' : Hp} {a : Addr} {xs : List V} (e : Same H H') (h : SqL K H a xs) : SqL K H' a xs := by
  rcases h with (h | ⟨o, h⟩) | h
  · exact .inl (.inl (e _ _ h))
  · exact .inl (.inr ⟨o, e _ _ h⟩)
  · exact .inr h

end L2

set_option Elab.async false
set_option linter.all false
set_option maxRecDepth 100000
set_option maxHeartbeats 4000000

/-! ### list comprehensions, over the layer -/
namespace L2
open PySem PySem.Spec PyProof.Rows

/-- the cells that a block takes from the frame around it -/
def clOf (env : Env) : List (Str × NameKind) → List (Str × Addr) → List (Str × Addr)
  | [], cs => cs
  | (n, k) :: r, cs => clOf env r (if (k == .free) = true then (match env.cells.lookup n with | some c => (n, c) :: cs | none => cs) else cs)

theorem clOf_run {env : Env} : ∀ (names : List (Str × NameKind)) (cs : List (Str × Addr)), (∀ p ∈ names, p.2 = .free → ∃ c, env.cells.lookup p.1 = some c) →
    (forIn names cs fun (p : Str × NameKind) (r : List (Str × Addr)) => (if (p.2 == .free) = true then do
        let c ← cellOf env p.1
        pure (ForInStep.yield ((p.1, c) :: r))
      else pure (ForInStep.yield r) : Sem (ForInStep (List (Str × Addr))))) = pure (clOf env names cs)
  | [], cs, _ => rfl
  | (n, k) :: rest, cs, h => by
    have ih := fun cs' => clOf_run rest cs' fun p hp => h p (List.mem_cons_of_mem _ hp)
    rw [List.forIn_cons]
    cases hk : (k == NameKind.free) with
    | true =>
      obtain ⟨c, hc⟩ := h (n, k) List.mem_cons_self (eq_of_beq hk)
      have e1 : cellOf env n = pure c := by unfold cellOf; rw [hc]
      have e2 : clOf env ((n, k) :: rest) cs = clOf env rest ((n, c) :: cs) := by simp only [clOf, hk, if_true, hc]
      rw [e2, ← ih]
      simp only [hk, if_true, e1, pure_bind]
    | false =>
      have e2 : clOf env ((n, k) :: rest) cs = clOf env rest cs := by simp only [clOf, hk, Bool.false_eq_true, if_false]
      rw [e2, ← ih]
      simp only [hk, Bool.false_eq_true, if_false, pure_bind]
theorem closure_is {env : Env} {scope : Scope} (h : ∀ p ∈ scope.names, p.2 = .free → ∃ c, env.cells.lookup p.1 = some c) : closureFor scope env = pure (clOf env scope.names []) := by
  have e := clOf_run (env := env) scope.names [] h
  unfold closureFor
  simp only [bind_pure]
  exact e
theorem clOf_sub {env : Env} : ∀ (names : List (Str × NameKind)) (cs : List (Str × Addr)), (∀ x c, cs.lookup x = some c → env.cells.lookup x = some c) →
    ∀ x c, (clOf env names cs).lookup x = some c → env.cells.lookup x = some c
  | [], cs, h, x, c, e => h x c e
  | (n, k) :: rest, cs, h, x, c, e => by
    refine clOf_sub rest _ (fun y d z => ?_) x c e
    split at z
    · split at z
      · rename_i c' hc'
        rw [List.lookup_cons] at z
        cases q : y == n with
        | true => rw [q] at z; cases z; rw [eq_of_beq q]; exact hc'
        | false => rw [q] at z; exact h y d z
      · exact h y d z
    · exact h y d z
theorem clOf_has {env : Env} : ∀ (names : List (Str × NameKind)) (cs : List (Str × Addr)) (x : Str), ((cs.lookup x).isSome = true ∨ ((x, NameKind.free) ∈ names ∧ ∃ c, env.cells.lookup x = some c)) →
    ∃ c, (clOf env names cs).lookup x = some c
  | [], cs, x, h => by
    rcases h with h | ⟨h, _⟩
    · exact Option.isSome_iff_exists.mp h
    · cases h
  | (n, k) :: rest, cs, x, h => by
    refine clOf_has rest _ x ?_
    have grow : (cs.lookup x).isSome = true → (List.lookup x (if (k == .free) = true then (match env.cells.lookup n with | some c => (n, c) :: cs | none => cs) else cs)).isSome = true := fun z => by
      split
      · split
        · rw [List.lookup_cons]
          cases x == n with
          | true => rfl
          | false => exact z
        · exact z
      · exact z
    rcases h with h | ⟨h, c, hc⟩
    · exact .inl (grow h)
    · rcases List.mem_cons.mp h with z | z
      · cases z
        refine .inl ?_
        simp [hc, List.lookup_cons]
      · exact .inr ⟨z, c, hc⟩

def relK (env : Env) (n : Str) (k : NameKind) : NameKind := if (k == .free && env.scope.kind == .function && env.kindOf n == some .cell) = true then .cell else k
theorem lookup_rel (env : Env) : ∀ (l : List (Str × NameKind)) (x : Str),
    (l.map fun (n, k) => if (k == NameKind.free && env.scope.kind == .function && env.kindOf n == some .cell) then (n, NameKind.cell) else (n, k)).lookup x = (l.lookup x).map (relK env x)
  | [], _ => rfl
  | (n, k) :: r, x => by
    have ih := lookup_rel env r x
    have e : (if (k == NameKind.free && env.scope.kind == .function && env.kindOf n == some .cell) = true then (n, NameKind.cell) else (n, k)) = (n, relK env n k) := by
      unfold relK; split <;> rfl
    rw [List.map_cons]
    show List.lookup x ((if (k == NameKind.free && env.scope.kind == .function && env.kindOf n == some .cell) = true then (n, NameKind.cell) else (n, k)) :: _) = _
    rw [e, List.lookup_cons, List.lookup_cons]
    cases q : x == n with
    | true => rw [eq_of_beq q]; rfl
    | false => exact ih
theorem relK_vis {env : Env} {n : Str} {k : NameKind} (h : relK env n k = .cell ∨ relK env n k = .free) : k = .cell ∨ k = .free := by
  unfold relK at h
  split at h
  · rename_i q
    simp only [Bool.and_eq_true] at q
    exact .inr (eq_of_beq q.1.1)
  · exact h

/-- one turn after another; nothing is raised -/
theorem comp_loop {prog : Program} {w : World} {A : Around} {R : Result → Shared → Prop} {s : Shared} {elt target iter : Expr} {ifs : List Expr} {scope : Scope} {pos : Pos} {it acc : Value} {env : Env} (J : Nat → Shared → Prop)
    (turn : ∀ n s, J n s → wpAny (model prog w) A (pyNext it) (fun r s1 => match r with
      | none => R (.ok .next) s1
      | some v => wpAny (model prog w) A (letOwnedTupleGo target it v) (fun _ s2 => wpAny (model prog w) A (assign target env v) (fun _ s3 =>
          wpAny (model prog w) A (forIn ifs true fun c r => if r = true then do let ok ← isTrue c env (eval c env); pure (ForInStep.yield ok) else pure (ForInStep.yield r)) (fun ok s4 =>
            if ok = true then wpAny (model prog w) A (eval elt env) (fun x s5 => wpAny (model prog w) A (call (.builtin "list.append") [acc, x]) (fun _ s6 => ∃ m, m < n ∧ J m s6) (fun _ _ => False) s5) (fun _ _ => False) s4
            else ∃ m, m < n ∧ J m s4) (fun _ _ => False) s3) (fun _ _ => False) s2) (fun _ _ => False) s1) (fun _ _ => False) s)
    (n : Nat) (h : J n s) : codeAny (model prog w) A (.compLoop (.ListComp elt [⟨target, iter, ifs, 0⟩] scope pos) 0 it acc env) R s := by
  refine codeAny_loop rfl J (fun k s' hk => ?_) n h
  show wpAny _ A (Sem.onRaise (compTurn (.ListComp elt [⟨target, iter, ifs, 0⟩] scope pos) 0 it acc env) (fun x => do noteFrame x env; theTreesLotGoes x)) _ _ s'
  refine wpAny_noted ?_
  rw [compTurn_list]
  refine wpAny_bind (wpAny_standAt (wpAny_bind (wpAny_mono (turn k s' hk) (fun r s1 q1 => ?_) fun _ _ f => f.elim)))
  cases r with
  | none => exact wpAny_pure q1
  | some v =>
    refine wpAny_bind (wpAny_mono q1 (fun _ s2 q2 => wpAny_bind (wpAny_mono q2 (fun _ s3 q3 => wpAny_bind (wpAny_mono q3 (fun ok s4 q4 => ?_) fun _ _ f => f.elim)) fun _ _ f => f.elim)) fun _ _ f => f.elim)
    cases ok with
    | false => exact wpAny_pure ⟨rfl, q4⟩
    | true => exact wpAny_bind (wpAny_bind (wpAny_mono q4 (fun x s5 q5 => wpAny_bind (wpAny_mono q5 (fun _ s6 q6 => wpAny_pure (wpAny_pure ⟨rfl, q6⟩)) fun _ _ f => f.elim)) fun _ _ f => f.elim))

/-- the context of a comprehension's block -/
def cxC (X : Cx) (N' : List Str) (scope : Scope) (s3 : Shared) (H3 : Hp) (fp : List Addr) (pn : List (Addr × Obj)) : Cx where
  prog := X.prog
  w := X.w
  K := X.K
  mg := X.mg
  base := X.base
  A := X.A
  N := N'
  s₀ := s3
  H₀ := H3
  env := compEnvC scope (clOf X.env scope.names []) s3.heap.objs.size X.env
  outer := X.stack
  stack := X.stack
  ex := fp
  fn := fun _ => false
  calm := X.calm
  pn := pn
  xe := fun _ _ => False
/-- what is fixed of a comprehension's names: N' its own and those it takes from around; src: where these lie there -/
structure CScope (X : Cx) (N' : List Str) (src : List (Option Nat)) (sc : Scope) : Prop where
  kind : sc.kind = .function
  nocell : ∀ y ∈ sc.names, y.2 ≠ .cell
  loc : ∀ y ∈ sc.names, y.2 = .local → sc.names.lookup y.1 = some .local
  fv : ∀ y ∈ sc.names, y.2 = .free → X.env.kindOf y.1 = some .cell ∨ X.env.kindOf y.1 = some .free
  len : src.length = N'.length
  src : ∀ (i : Nat) (x : Str) (j : Nat), N'[i]? = some x → src[i]? = some (some j) → X.N[j]? = some x ∧ sc.names.lookup x = some .free
def srcSt (src : List (Option Nat)) (σ : St) : St := src.map fun o => match o with | none => none | some j => (σ[j]?).join

/-- the tests of a clause -/
def PF (X : Cx) (ifs : List Expr) (t : TT) : Prop :=
  ∀ (pins : List (Addr × Obj)) (s : Shared) (σ : St) (H : Hp) (Q : Bool → Hp → Prop), Inv X pins σ H s → t σ H Q →
    wpAny (model X.prog X.w) X.A (forIn ifs true fun c r => if r = true then do let ok ← isTrue c X.env (eval c X.env); pure (ForInStep.yield ok) else pure (ForInStep.yield r)) (TP X pins σ Q) X.xe s
theorem pf_nil {X : Cx} : PF X [] (fun _ H Q => Q true H) := fun _ _ _ H _ I h => wpAny_tests_nil ⟨H, I, h⟩
theorem pf_one {X : Cx} {c : Expr} {t : TT} (hc : PT X c t) : PF X [c] t := fun pins s σ H Q I h => wpAny_tests_one (hc pins s σ H Q I h)

theorem Un.ahead {fs ex : List Addr} {H H' : Hp} {h h1 h' : Heap} (u : Un fs ex H H' h h1) (k : ∀ b o, b < h.objs.size → h1.get? b = some o → h'.get? b = some o) : Un fs ex H H' h h' where
  keep := fun b o e n hb hx => k b o (Heap.lt_size e) (u.keep b o e n hb hx)
  slot := fun b o e n hb hx => by
    obtain ⟨sl, q⟩ := u.slot b o e n hb hx
    exact ⟨sl, k b _ (Heap.lt_size e) q⟩
  free := u.free
  there := fun b o e hx => by
    obtain ⟨o', q⟩ := u.there b o e hx
    exact ⟨o', k b _ (Heap.lt_size e) q⟩
  tups := u.tups
  frzs := u.frzs
  tbls := u.tbls

section
variable {X : Cx} {N' : List Str} {src : List (Option Nat)} {sc : Scope} {pins : List (Addr × Obj)} {σ : St} {H : Hp} {s3 : Shared} {fp : List Addr} {h1 : Heap} {tk : Nat}
/-- the block begins -/
theorem cx_start (S : CScope X N' src sc) (I : Inv X pins σ H s3) (hf : ∀ b ∈ fp, FpOk X pins H b) (ht : ∀ b ∈ fp, b < s3.heap.objs.size)
    (ns : h1.Ns s3.heap.objs.size fun _ => none) (kp : ∀ b o, s3.heap.get? b = some o → h1.get? b = some o) :
    Inv (cxC X N' sc s3 H fp (X.pn ++ pins)) [] (srcSt src σ) H { s3 with heap := h1, toks := tk } := by
  have hcl : ∀ x c, (clOf X.env sc.names []).lookup x = some c → X.env.cells.lookup x = some c := clOf_sub sc.names [] fun x c e => by cases e
  have old : ∀ x c, (clOf X.env sc.names []).lookup x = some c → ∃ o, s3.heap.get? c = some o := fun x c e => by
    obtain ⟨v, o, ho, _⟩ := I.cell x c (hcl x c e)
    exact ⟨o, ho⟩
  have fvh : ∀ x, (x, NameKind.free) ∈ sc.names → ∃ c, X.env.cells.lookup x = some c := fun x hx => I.ok.has x (S.fv _ hx rfl)
  have stkL : ∀ b, b ≠ X.env.locals → b ∉ X.fs → b ∉ frs X.stack := fun b h1 h2 hb => (List.mem_cons.mp (I.stkSub b hb)).elim h1 h2
  have kindOf_eq : ∀ x, (compEnvC sc (clOf X.env sc.names []) s3.heap.objs.size X.env).kindOf x = (sc.names.lookup x).map (relK X.env x) := fun x => lookup_rel X.env sc.names x
  refine ⟨⟨I.ok.mod, S.kind, I.ok.glob, I.ok.blt, Nat.le_refl _, fun x y c e1 e2 => I.ok.inj x y c (hcl x c e1) (hcl y c e2), fun x hx => ?_, fun x c hf => absurd hf Bool.false_ne_true, I.ok.hd, I.ok.frames, .inl rfl, fun b hb => ?_, I.bs, Nat.le_trans I.ok.bsz I.sz,
    fun b o e hb => ?_, fun b hb => ?_, I.stack, I.stkFree⟩, rfl, I.bare, Un.kept kp, ⟨_, ns, fun i x v e1 e2 e3 => ?_⟩, fun x c e => ?_, I.hok.fresh (Nat.le_refl _), fun x c e => I.freeC x c (hcl x c e), fun p hp => ?_, I.hok.kept kp, ?_⟩
  · -- has
    have hx' : (sc.names.lookup x).map (relK X.env x) = some .cell ∨ (sc.names.lookup x).map (relK X.env x) = some .free := by
      rw [← kindOf_eq x]; exact hx
    cases q : sc.names.lookup x with
    | none => rw [q] at hx'; rcases hx' with z | z <;> cases z
    | some k =>
      rw [q] at hx'
      have hk : k = .cell ∨ k = .free := relK_vis (env := X.env) (n := x) (hx'.imp (fun z => Option.some.inj z) fun z => Option.some.inj z)
      have hm := PySem.mem_of_lookup q
      rcases hk with rfl | rfl
      · exact absurd rfl (S.nocell _ hm)
      · exact clOf_has sc.names [] x (.inr ⟨hm, fvh x hm⟩)
  · -- exf
    obtain ⟨f0, f1, f2, f3, f4, f5⟩ := hf b hb
    exact ⟨Nat.ne_of_lt (ht b hb), fun x c e => f4 x c (hcl x c e)⟩
  · -- noex
    obtain ⟨f0, f1, f2, f3, f4, f5⟩ := hf b hb
    rcases f3 with z | z
    · exact I.ok.noex b o e z
    · exact absurd (Nat.lt_of_lt_of_le (Heap.lt_size e) (Nat.le_trans I.ok.bsz z)) (Nat.lt_irrefl _)
  · -- exfs
    obtain ⟨f0, f1, f2, f3, f4, f5⟩ := hf b hb
    exact stkL b f1 f2
  · -- loc
    have e2' : (srcSt src σ)[i]? = some (some v) := e2
    unfold srcSt at e2'
    rw [List.getElem?_map] at e2'
    cases q : src[i]? with
    | none => rw [q] at e2'; cases e2'
    | some oj =>
      rw [q] at e2'
      cases oj with
      | none => cases e2'
      | some j =>
        have e4 : (σ[j]?).join = some v := Option.some.inj e2'
        have e5 : σ[j]? = some (some v) := by
          cases r : σ[j]? with
          | none => rw [r] at e4; cases e4
          | some z => rw [r] at e4; cases z with
            | none => cases e4
            | some y => cases e4; rfl
        obtain ⟨hN, hfr⟩ := S.src i x j e1 q
        have hm := PySem.mem_of_lookup hfr
        have kx := S.fv _ hm rfl
        obtain ⟨m, hn, hl⟩ := I.loc
        obtain ⟨u, r, l⟩ := hl j x v hN e5 (.inr kx)
        refine ⟨u, r, ?_⟩
        rcases l with ⟨k1, _⟩ | ⟨_, c, hc, hcell⟩
        · rcases kx with z | z <;> (rw [z] at k1; cases k1)
        · obtain ⟨c', hc'⟩ := clOf_has (env := X.env) sc.names [] x (.inr ⟨hm, c, hc⟩)
          have e6 : c' = c := by
            have := hcl x c' hc'
            rw [hc] at this
            exact (Option.some.inj this).symm
          subst e6
          refine .inr ⟨?_, c', hc', ?_⟩
          · have : (compEnvC sc (clOf X.env sc.names []) s3.heap.objs.size X.env).kindOf x = some (relK X.env x .free) := by rw [kindOf_eq x, hfr]; rfl
            show (compEnvC sc (clOf X.env sc.names []) s3.heap.objs.size X.env).kindOf x = some .cell ∨ (compEnvC sc (clOf X.env sc.names []) s3.heap.objs.size X.env).kindOf x = some .free
            rw [this]
            unfold relK
            split
            · exact .inl rfl
            · exact .inr rfl
          · obtain ⟨o, ho, hd⟩ := hcell
            exact ⟨o, kp _ o ho, hd⟩
  · -- cell
    obtain ⟨v, o, ho, hd⟩ := I.cell x c (hcl x c e)
    exact ⟨v, o, kp _ o ho, hd⟩
  · -- pin
    have hp' : p ∈ X.pn ++ pins := (List.mem_append.mp hp).elim id fun z => by cases z
    obtain ⟨a1, a2, a3, a4, a5⟩ := I.pin p hp'
    exact ⟨kp _ _ a1, a2, Nat.ne_of_lt (Heap.lt_size a1), stkL p.1 a3 a4, a5⟩
  · show (srcSt src σ).length = N'.length
    unfold srcSt
    rw [List.length_map]
    exact S.len

/-- the block ends -/
theorem cx_end {s1 : Shared} {σ' : St} {H' : Hp} {h' : Heap} (I : Inv X pins σ H s3) (hf : ∀ b ∈ fp, FpOk X pins H b) (I' : Inv (cxC X N' sc s3 H fp (X.pn ++ pins)) [] σ' H' s1)
    (sb : Heap.SameBut s3.heap.objs.size s1.heap h') : Inv X pins σ H' { s1 with heap := h' } := by
  have fr : H' s3.heap.objs.size = none := I'.free
  refine I.call' (s' := { s1 with heap := h' }) (ch := fp) I'.os ?_ ?_ I'.bare fun b hb => ?_
  · exact Un.ahead (h := s3.heap) (h1 := s1.heap) I'.base fun b o hb e => sb.extBut b o (Nat.ne_of_lt hb) e
  · exact fun b u e => (I'.hok b u e).stay (fun c v hc q => sb.extBut c v (by
      intro z
      rcases hc with y | y
      · rw [← y, z, fr] at e; cases e
      · rw [z, fr] at y; cases y) q) (fun _ q => q) fun _ _ q => q
  · obtain ⟨f0, f1, f2, f3, f4, f5⟩ := hf b hb
    exact ⟨f3, f1, f4, fun p hp => f5 p hp⟩
end

/-- what a comprehension is to keep, turn by turn: W the invariant by the turn and a measure, over the block's names and the heap; l the new list -/
@[irreducible] def CWant (J : It) (g : TG) (tt : TT) (te : TE) (Q : VK) (σ0 : St) (H0 : Hp) (l : Addr) : Prop := ∃ W : Nat → Nat → St → Hp → Prop, (∃ m, W 0 m σ0 H0) ∧
  ∀ i m σ' H', W i m σ' H' → (J.stop i H' ∧ Q (.ref l) H') ∨ (J.go i H' ∧ ∃ N : St → Hp → Prop, (∀ σ3 H3, N σ3 H3 → ∃ m', m' < m ∧ W (i + 1) m' σ3 H3) ∧ ∀ x H2, J.yld i H' x H2 → g x σ' H2 fun σ3 H3 => tt σ3 H3 fun b H4 =>
    if b = true then te σ3 H4 fun y H5 => ∃ xs, H5 l = some (.lst xs) ∧ xs.length < sizeLine ∧ N σ3 (upd H5 l (.lst (xs ++ [y]))) else N σ3 H4)
/-- [elt for tg in iter if ..] -/
def tComp (wi : TI) (src : List (Option Nat)) (g : TG) (tt : TT) (te : TE) : TE := fun σ H Q => wi σ H fun J H1 => ∀ l, H1 l = none → CWant J g tt te Q (srcSt src σ) (upd H1 l (.lst [])) l

/-- the core: fin says what is wanted where the block's turns are over -/
theorem comp_core {X : Cx} {N' : List Str} {src : List (Option Nat)} {sc : Scope} {elt tg iter : Expr} {ifs : List Expr} {pos pos' : Pos} {wi : TI} {g : TG} {tt : TT} {te : TE} {use : Option (Value → Sem Unit)} {R : Value → Shared → Prop} (hc : X.calm = true) (S : CScope X N' src sc)
    (hi : PI X tg iter wi) (hg : ∀ s3 H3 fp pn, PG (cxC X N' sc s3 H3 fp pn) tg g) (ht : ∀ s3 H3 fp pn, PF (cxC X N' sc s3 H3 fp pn) ifs tt) (he : ∀ s3 H3 fp pn, PE (cxC X N' sc s3 H3 fp pn) elt te)
    (hs : ∀ x, foldedSetIterable iter X.env x = pure x) {pins : List (Addr × Obj)} {s : Shared} {σ : St} {H : Hp} {Q : VK} (I : Inv X pins σ H s) (h : tComp wi src g tt te σ H Q)
    (fin : ∀ s3 H3 fp σ4 H4 s5 l, Inv X pins σ H3 s3 → (∀ b ∈ fp, FpOk X pins H3 b) → Inv (cxC X N' sc s3 H3 fp (X.pn ++ pins)) [] σ4 H4 s5 → Q (.ref l) H4 →
      compPost (model X.prog X.w) X.A X.xe use R (.ref l) s3.heap.objs.size (.ok .next) s5) :
    wpAny (model X.prog X.w) X.A (comprehension (.ListComp elt [⟨tg, iter, ifs, 0⟩] sc pos) sc X.env pos' (newList []) false (eval iter X.env) use) R X.xe s := by
  refine wpAny_comprehension_free (use := use) (cl := clOf X.env sc.names []) rfl hs (closure_is fun p hp e => I.ok.has p.1 (S.fv p hp e)) S.kind S.loc ?_
  refine thn (hi pins s σ H _ I h) fun v s1 h1 => thn h1 fun itv s2 h2 => ?_
  obtain ⟨it, fp, tn, J, H2, rfl, I2, T, st2, f2, q⟩ := h2
  have q' := q s2.heap.objs.size (I2.hok.fresh (Nat.le_refl _))
  unfold CWant at q'
  obtain ⟨W, ⟨m0, w0⟩, turn⟩ := q'
  refine wpAny_newObj_type (wpAny_newFunctionEnv S.nocell (by intro y hy; simp at hy) (fun ha hns hsb => ?_) S.kind)
  have I3 : Inv X pins σ (upd H2 s2.heap.objs.size (.lst [])) { s2 with heap := s2.heap.push { cls := .type "list", dict := none, data := .seq ([] : List Value).toArray } } :=
    I2.laid (t' := s2.toks) (fun b u e => Heap.get?_push_of_some _ e) (Nat.le_refl _) ⟨Nat.zero_le _, [], 0, .nil, Heap.get?_push_size _ rfl⟩
  have hfl : ∀ b ∈ fp, b < s2.heap.objs.size := fun b hb => by
    obtain ⟨o, e, _⟩ := T.obj 0 _ st2 b hb
    exact Heap.lt_size e
  have f3 : ∀ b ∈ fp, FpOk X pins (upd H2 s2.heap.objs.size (.lst [])) b := fun b hb => ⟨by rw [upd_ne (Nat.ne_of_lt (hfl b hb))]; exact (f2 b hb).1, (f2 b hb).2⟩
  generalize hs3 : ({ s2 with heap := s2.heap.push { cls := .type "list", dict := none, data := .seq ([] : List Value).toArray } } : Shared) = s3 at *
  have hsz : s2.heap.objs.size < s3.heap.objs.size := by rw [← hs3]; show s2.heap.objs.size < (s2.heap.push _).objs.size; rw [Heap.size_push]; exact Nat.lt_succ_self _
  have kp : ∀ b o, s3.heap.get? b = some o → ha.get? b = some o := fun b o e => hsb.extBut b o (Nat.ne_of_lt (Heap.lt_size e)) (Heap.get?_push_of_some _ e)
  have st3 : tn 0 ha := T.keep 0 _ _ st2 fun b hb o e => kp b o (by rw [← hs3]; exact Heap.get?_push_of_some _ e)
  have I4 : Inv (cxC X N' sc s3 (upd H2 s2.heap.objs.size (.lst [])) fp (X.pn ++ pins)) [] (srcSt src σ) (upd H2 s2.heap.objs.size (.lst [])) { s3 with heap := ha, toks := s3.toks + ([] : List (Str × Value)).length } :=
    cx_start S I3 f3 (fun b hb => Nat.lt_trans (hfl b hb) hsz) hns kp
  have loop : codeAny (model X.prog X.w) X.A (.compLoop (.ListComp elt [⟨tg, iter, ifs, 0⟩] sc pos) 0 (.ref it) (.ref s2.heap.objs.size) (compEnvC sc (clOf X.env sc.names []) s3.heap.objs.size X.env))
      (compPost (model X.prog X.w) X.A X.xe use R (.ref s2.heap.objs.size) s3.heap.objs.size) { s3 with heap := ha, toks := s3.toks + ([] : List (Str × Value)).length } := by
    refine comp_loop (fun n s' => ∃ i σ' H', Inv (cxC X N' sc s3 (upd H2 s2.heap.objs.size (.lst [])) fp (X.pn ++ pins)) [] σ' H' s' ∧ tn i s'.heap ∧ (∀ b ∈ fp, H' b = none) ∧ W i n σ' H') ?_ m0 ⟨0, _, _, I4, st3, fun b hb => (f3 b hb).1, w0⟩
    rintro n s4 ⟨i, σ4, H4, J4, st4, fr4, w4⟩
    have stat : ∀ {H' : Hp}, (∀ b ∈ fp, H' b = none) → ∀ b ∈ fp, FpOk (cxC X N' sc s3 (upd H2 s2.heap.objs.size (.lst [])) fp (X.pn ++ pins)) [] H' b := fun hn b hb =>
      ⟨hn b hb, (I4.ok.exf b hb).1, I4.ok.exfs b hb, .inl hb, fun x c e => (I4.ok.exf b hb).2 x c e, fun p hp => (f3 b hb).2.2.2.2.2 p ((List.mem_append.mp hp).elim id fun z => by cases z)⟩
    rcases turn i n σ4 H4 w4 with ⟨stop, qn⟩ | ⟨go, N, hN, step⟩
    · refine thn (T.done (cxC X N' sc s3 (upd H2 s2.heap.objs.size (.lst [])) fp (X.pn ++ pins)) rfl rfl rfl hc i [] s4 σ4 H4 _ J4 (stat fr4) st4 stop) fun r s5 ⟨hr, J5⟩ => ?_
      subst hr
      exact fin s3 _ fp σ4 H4 s5 _ I3 f3 J5 qn
    · refine thn (T.item (cxC X N' sc s3 (upd H2 s2.heap.objs.size (.lst [])) fp (X.pn ++ pins)) rfl rfl rfl hc i [] s4 σ4 H4 _ J4 (stat fr4) st4 go) fun r s5 ⟨u, hr, h5⟩ => ?_
      subst hr
      refine thn h5 fun _ s6 ⟨x, H6, J6, r6, y6, st6, fr6⟩ => ?_
      have J6' := J6.pinned (stat fr6) (T.obj _ _ st6)
      have back : ∀ {pl : List (Addr × Obj)} {σ7 : St} {H7 : Hp} {s7 : Shared}, Inv (cxC X N' sc s3 (upd H2 s2.heap.objs.size (.lst [])) fp (X.pn ++ pins)) ([] ++ pinsAt fp s6.heap) σ7 H7 s7 → N σ7 H7 →
          ∃ m', m' < n ∧ ∃ i σ' H', Inv (cxC X N' sc s3 (upd H2 s2.heap.objs.size (.lst [])) fp (X.pn ++ pins)) [] σ' H' s7 ∧ tn i s7.heap ∧ (∀ b ∈ fp, H' b = none) ∧ W i m' σ' H' := fun {pl σ7 H7 s7} J7 w7 => by
        obtain ⟨m', hm, w7⟩ := hN _ _ w7
        have pinned : ∀ b ∈ fp, ∀ o, s6.heap.get? b = some o → s7.heap.get? b = some o ∧ H7 b = none := fun b hb o e => by
          have := J7.pin (b, o) (List.mem_append_right _ (List.mem_append_right _ (mem_pinsAt hb e)))
          exact ⟨this.1, this.2.1⟩
        refine ⟨m', hm, i + 1, σ7, H7, J7.unpinned, T.keep _ _ _ st6 fun b hb o e => (pinned b hb o e).1, fun b hb => ?_, w7⟩
        obtain ⟨o, e, _⟩ := T.obj _ _ st6 b hb
        exact (pinned b hb o e).2
      refine thn (hg s3 _ fp _ _ s6 σ4 H6 x u _ J6' r6 (step x H6 y6)) fun _ s7 ⟨σ7, H7, J7, q7⟩ => ?_
      refine thn (ht s3 _ fp _ _ s7 σ7 H7 _ J7 q7) fun ok s8 ⟨H8, J8, q8⟩ => ?_
      cases ok with
      | false =>
        rw [if_neg Bool.false_ne_true] at q8 ⊢
        exact back (pl := []) J8 q8
      | true =>
        rw [if_pos rfl] at q8 ⊢
        refine thn (he s3 _ fp _ _ s8 σ7 H8 _ J8 q8) fun y s9 ⟨yv, H9, J9, r9, xs, hl9, hz9, q9⟩ => ?_
        refine thn (mt_append _ s9 σ7 H9 (.ref s2.heap.objs.size) [yv] (.ref s2.heap.objs.size) [y] (fun _ H' => N σ7 H') J9 rfl (.cons r9 .nil) ⟨_, xs, yv, rfl, rfl, hl9, hz9, q9⟩) fun _ s10 ⟨_, H10, J10, _, q10⟩ => ?_
        exact back (pl := []) J10 q10
  exact codeAny_compStart_list loop (T.self X.A 0 _ _ _ st3 loop)
theorem pe_comp {X : Cx} {N' : List Str} {src : List (Option Nat)} {sc : Scope} {elt tg iter : Expr} {ifs : List Expr} {pos : Pos} {wi : TI} {g : TG} {tt : TT} {te : TE} (hc : X.calm = true) (S : CScope X N' src sc)
    (hi : PI X tg iter wi) (hg : ∀ s3 H3 fp pn, PG (cxC X N' sc s3 H3 fp pn) tg g) (ht : ∀ s3 H3 fp pn, PF (cxC X N' sc s3 H3 fp pn) ifs tt) (he : ∀ s3 H3 fp pn, PE (cxC X N' sc s3 H3 fp pn) elt te)
    (hs : ∀ x, foldedSetIterable iter X.env x = pure x := by intro _; rfl) : PE X (.ListComp elt [⟨tg, iter, ifs, 0⟩] sc pos) (tComp wi src g tt te) := by
  intro pins s σ H Q I h
  rw [eval_ListComp]
  refine comp_core (use := none) hc S hi hg ht he hs I h fun s3 H3 fp σ4 H4 s5 l I3 f3 J5 q => ?_
  obtain ⟨m, hn, _⟩ := J5.loc
  exact ⟨m, hn, fun h' sb => ⟨.ref l, H4, cx_end I3 f3 J5 sb, rfl, q⟩⟩
/-- name = [elt for tg in iter if ..] -/
theorem ps_setC {X : Cx} {N' : List Str} {src : List (Option Nat)} {sc : Scope} {elt tg iter : Expr} {ifs : List Expr} {pos spos px : Pos} {wi : TI} {g : TG} {tt : TT} {te : TE} {i : Nat} {x : Str} (hN : X.N.Nodup) (hi0 : X.N[i]? = some x) (hx : Loc X.env.scope x) (hc : X.calm = true) (S : CScope X N' src sc)
    (hi : PI X tg iter wi) (hg : ∀ s3 H3 fp pn, PG (cxC X N' sc s3 H3 fp pn) tg g) (ht : ∀ s3 H3 fp pn, PF (cxC X N' sc s3 H3 fp pn) ifs tt) (he : ∀ s3 H3 fp pn, PE (cxC X N' sc s3 H3 fp pn) elt te)
    (hsw : swapsWith (.ListComp elt [⟨tg, iter, ifs, 0⟩] sc pos) (some (.Name x px)) spos.line X.env = pure true := by rfl) (hs : ∀ x, foldedSetIterable iter X.env x = pure x := by intro _; rfl)
    (hf : X.fn x = true ∨ X.env.scope.names.lookup x = some .local := by first | exact .inl rfl | exact .inr rfl | assumption) :
    PS X (.Assign [.Name x px] (.ListComp elt [⟨tg, iter, ifs, 0⟩] sc pos) spos) (tAsg (tComp wi src g tt te) (gName i)) := by
  intro pins s σ H D I h
  rw [exec_Assign_Name_used _ _ _ _ hsw]
  refine wpAny_bind (wpAny_standAt (wpAny_bind ?_))
  show wpAny _ X.A (do let _ ← comprehension (.ListComp elt [⟨tg, iter, ifs, 0⟩] sc pos) sc X.env _ (newList []) false (eval iter X.env) (some (assign (.Name x px) X.env))) _ _ s
  refine wpAny_bind (thn (comp_core (R := fun _ s' => SP X pins D .next s') hc S hi hg ht he hs I h fun s3 H3 fp σ4 H4 s5 l I3 f3 J5 q => ?_) fun _ s' hq => wpAny_pure (wpAny_pure hq))
  obtain ⟨m, ⟨oC, es, ep, hoC, r⟩, _⟩ := J5.loc
  have I6 : Inv X pins σ H4 { s5 with heap := s5.heap } := cx_end I3 f3 J5 (Heap.SameBut.refl _ _)
  have hCn : H4 s3.heap.objs.size = none := J5.free
  have neL : s3.heap.objs.size ≠ X.env.locals := Nat.ne_of_gt I3.lt
  have ndat : ∀ v, oC.data ≠ .cell v := fun v z => by rw [r.1] at z; cases z
  have I7 : Inv X (pins ++ [(s3.heap.objs.size, oC)]) σ H4 s5 := I6.pins_of fun p hp => (List.mem_append.mp hp).elim (fun z => I6.pin p (List.mem_append_right _ z)) fun z => by
    cases List.mem_singleton.mp z
    exact ⟨hoC, hCn, neL, I3.nofs (Nat.le_refl _), ndat⟩
  show wpAny _ X.A (assign (.Name x px) X.env (.ref l)) _ _ s5
  refine wpAny_assign_Name (store_ok (v := .ref l) I7 hN hi0 hx rfl (fun s6 I8 => ?_) hf)
  have k8 := (I8.pin (s3.heap.objs.size, oC) (List.mem_append_right _ (List.mem_append_right _ (List.mem_singleton.mpr rfl)))).1
  refine ⟨m, ⟨oC, es, ep, k8, r⟩, fun h' sb => ⟨_, H4, ?_, q⟩⟩
  have I9 := I8.unpinned
  refine I9.turned (t' := s6.toks) (fun b o hb e => sb.extBut b o hb e) hCn neL (.inr I3.sz) (fun y c e z => ?_) (fun p hp z => ?_)
  · obtain ⟨v, o, ho, _⟩ := I3.cell y c e
    exact absurd (Heap.lt_size ho) (by rw [z]; exact Nat.lt_irrefl _)
  · have := (I3.pin p hp).1
    exact absurd (Heap.lt_size this) (by rw [z]; exact Nat.lt_irrefl _)
/-- a comprehension that takes names from the def around it (cells there); N: the def's names -/
theorem CScope.of {X : Cx} {N' : List Str} {src : List (Option Nat)} {sc : Scope} (fsc : Scope) (N : List Str) (hX : X.env.scope = fsc) (hN : X.N = N) (kind : sc.kind = .function) (nocell : ∀ y ∈ sc.names, y.2 ≠ .cell) (loc : ∀ y ∈ sc.names, y.2 = .local → sc.names.lookup y.1 = some .local)
    (fv : ∀ y ∈ sc.names, y.2 = .free → fsc.names.lookup y.1 = some .cell) (len : src.length = N'.length)
    (sr : ((N'.zip src).all fun p => match p.2 with | none => true | some j => decide (N[j]? = some p.1) && decide (sc.names.lookup p.1 = some .free)) = true) : CScope X N' src sc where
  kind := kind
  nocell := nocell
  loc := loc
  fv := fun y hy e => .inl (by show X.env.scope.names.lookup y.1 = some .cell; rw [hX]; exact fv y hy e)
  len := len
  src := fun i x j e1 e2 => by
    rw [List.all_eq_true] at sr
    have hm : (x, some j) ∈ N'.zip src := by
      refine List.mem_of_getElem? (i := i) ?_
      rw [List.getElem?_zip_eq_some]
      exact ⟨e1, e2⟩
    have := sr _ hm
    simp only [Bool.and_eq_true, decide_eq_true_eq] at this
    rw [hN]
    exact this
end L2

set_option Elab.async false
set_option linter.all false
set_option maxRecDepth 100000
set_option maxHeartbeats 4000000

/-! ### further rules over the layer -/
namespace L2
open PySem PySem.Spec PyProof.Rows
section
variable {X : Cx}

/-- isinstance(x, T), T a built-in type -/
@[irreducible] def rIsi (K : PySem.W.Frag) : List V → Hp → VK → Prop := fun xs H Q => ∃ x T t b, xs = [x, .ty T] ∧ TyOf K H x t ∧ PySem.W.kitOne K t (.type T) = some b ∧ Q (.bl b) H
theorem call_isi : CallR X (.builtin "isinstance") (rIsi X.K) := by
  intro pins s σ H xs us Q I r h
  unfold rIsi at h
  obtain ⟨x, T, t, b, rfl, ty, e, q⟩ := h
  obtain ⟨u, w', rfl, rx, rt⟩ := vals2 r
  cases rt
  exact isinst_ok I rx ty e fun tk => ⟨.bl b, H, I.tok tk, rfl, q⟩
theorem kit_int_int {K : PySem.W.Frag} : PySem.W.kitOne K (.type "int") (.type "int") = some true := by rfl
theorem kit_int_bool {K : PySem.W.Frag} : PySem.W.kitOne K (.type "int") (.type "bool") = some false := by rfl
theorem kit_bool_int {K : PySem.W.Frag} : PySem.W.kitOne K (.type "bool") (.type "int") = some true := by rfl
theorem kit_bool_bool {K : PySem.W.Frag} : PySem.W.kitOne K (.type "bool") (.type "bool") = some true := by rfl
theorem kit_none_int {K : PySem.W.Frag} : PySem.W.kitOne K (.type "NoneType") (.type "int") = some false := by rfl
theorem kit_str_int {K : PySem.W.Frag} : PySem.W.kitOne K (.type "str") (.type "int") = some false := by rfl
theorem kit_list_int {K : PySem.W.Frag} : PySem.W.kitOne K (.type "list") (.type "int") = some false := by rfl
theorem kit_tuple_int {K : PySem.W.Frag} : PySem.W.kitOne K (.type "tuple") (.type "int") = some false := by rfl
theorem kit_none_tuple {K : PySem.W.Frag} : PySem.W.kitOne K (.type "NoneType") (.type "tuple") = some false := by rfl
theorem kit_bool_tuple {K : PySem.W.Frag} : PySem.W.kitOne K (.type "bool") (.type "tuple") = some false := by rfl
theorem kit_int_tuple {K : PySem.W.Frag} : PySem.W.kitOne K (.type "int") (.type "tuple") = some false := by rfl
theorem kit_str_tuple {K : PySem.W.Frag} : PySem.W.kitOne K (.type "str") (.type "tuple") = some false := by rfl
theorem kit_list_tuple {K : PySem.W.Frag} : PySem.W.kitOne K (.type "list") (.type "tuple") = some false := by rfl
theorem kit_tuple_tuple {K : PySem.W.Frag} : PySem.W.kitOne K (.type "tuple") (.type "tuple") = some true := by rfl

/-- a value whose kind is known: None, a truth, a whole number, a text, a list, a tuple -/
def Kn (H : Hp) : V → Prop
  | .non => True
  | .bl _ => True
  | .int _ => True
  | .str _ => True
  | .ref a => (∃ xs, H a = some (.lst xs)) ∨ ∃ xs, H a = some (.tup xs)
  | _ => False
def isI : V → Bool
  | .int _ => true
  | .bl _ => true
  | _ => false
def isB : V → Bool
  | .bl _ => true
  | _ => false
def isW : V → Bool
  | .int _ => true
  | _ => false
/-- the parts of a tuple -/
def tupOf (H : Hp) : V → Option (List V)
  | .ref a => match H a with
    | some (.tup xs) => some xs
    | _ => none
  | _ => none
theorem tupOf_at {H : Hp} {a : Addr} {xs : List V} (h : H a = some (.tup xs)) : tupOf H (.ref a) = some xs := by
  show (match H a with | some (.tup xs) => some xs | _ => none) = some xs
  rw [h]
theorem tupOf_lst {H : Hp} {a : Addr} {xs : List V} (h : H a = some (.lst xs)) : tupOf H (.ref a) = none := by
  show (match H a with | some (.tup xs) => some xs | _ => none) = none
  rw [h]
theorem of_tupOf {H : Hp} {v : V} {xs : List V} (h : tupOf H v = some xs) : ∃ a, v = .ref a ∧ H a = some (.tup xs) := by
  cases v with
  | ref a =>
    refine ⟨a, rfl, ?_⟩
    have h' : (match H a with | some (.tup xs) => some xs | _ => none) = some xs := h
    split at h'
    · rename_i e; cases h'; exact e
    · cases h'
  | _ => cases h
theorem Kn.same {H H' : Hp} {v : V} (s : Same H H') (k : Kn H v) : Kn H' v := by
  cases v with
  | ref a => exact k.imp (fun ⟨xs, e⟩ => ⟨xs, s _ _ e⟩) fun ⟨xs, e⟩ => ⟨xs, s _ _ e⟩
  | _ => exact k
theorem tupOf_same {H H' : Hp} {v : V} (s : Same H H') (k : Kn H v) : tupOf H' v = tupOf H v := by
  cases v with
  | ref a =>
    rcases k with ⟨xs, e⟩ | ⟨xs, e⟩
    · rw [tupOf_lst e, tupOf_lst (s _ _ e)]
    · rw [tupOf_at e, tupOf_at (s _ _ e)]
  | _ => rfl

/-- isinstance of a value of a known kind -/
theorem isi_int {K : PySem.W.Frag} {H : Hp} {x : V} {Q : VK} (k : Kn H x) (q : Q (.bl (isI x)) H) : rIsi K [x, .ty "int"] H Q := by
  unfold rIsi
  cases x with
  | non => exact ⟨_, _, _, _, rfl, .non, kit_none_int, q⟩
  | bl b => exact ⟨_, _, _, _, rfl, .bl b, kit_bool_int, q⟩
  | int i => exact ⟨_, _, _, _, rfl, .int i, kit_int_int, q⟩
  | str z => exact ⟨_, _, _, _, rfl, .str z, kit_str_int, q⟩
  | ref a =>
    rcases k with ⟨xs, e⟩ | ⟨xs, e⟩
    · exact ⟨_, _, _, _, rfl, .lst e, kit_list_int, q⟩
    · exact ⟨_, _, _, _, rfl, .tup e, kit_tuple_int, q⟩
  | _ => exact k.elim
theorem isi_bool {K : PySem.W.Frag} {H : Hp} {x : V} {Q : VK} (k : isI x = true) (q : Q (.bl (isB x)) H) : rIsi K [x, .ty "bool"] H Q := by
  unfold rIsi
  cases x with
  | bl b => exact ⟨_, _, _, _, rfl, .bl b, kit_bool_bool, q⟩
  | int i => exact ⟨_, _, _, _, rfl, .int i, kit_int_bool, q⟩
  | _ => cases k
theorem isi_tuple {K : PySem.W.Frag} {H : Hp} {x : V} {Q : VK} (k : Kn H x) (q : Q (.bl (tupOf H x).isSome) H) : rIsi K [x, .ty "tuple"] H Q := by
  unfold rIsi
  cases x with
  | non => exact ⟨_, _, _, _, rfl, .non, kit_none_tuple, q⟩
  | bl b => exact ⟨_, _, _, _, rfl, .bl b, kit_bool_tuple, q⟩
  | int i => exact ⟨_, _, _, _, rfl, .int i, kit_int_tuple, q⟩
  | str z => exact ⟨_, _, _, _, rfl, .str z, kit_str_tuple, q⟩
  | ref a =>
    rcases k with ⟨xs, e⟩ | ⟨xs, e⟩
    · rw [tupOf_lst e] at q
      exact ⟨_, _, _, _, rfl, .lst e, kit_list_tuple, q⟩
    · rw [tupOf_at e] at q
      exact ⟨_, _, _, _, rfl, .tup e, kit_tuple_tuple, q⟩
  | _ => exact k.elim

/-- all(l), any(l) of a list of truths -/
theorem bools_of : ∀ {bs : List Bool} {us : List Value}, Vals (bs.map V.bl) us → LSm.BoolsAre us bs
  | [], _, .nil => .nil
  | b :: r, _, .cons h t => by
    cases (show _ = Value.bool b from h)
    exact .cons b (bools_of t)
theorem call_all (hc : X.calm = true) : CallR X (.builtin "all") (fun xs H Q => ∃ (p : Addr) (bs : List Bool), xs = [.ref p] ∧ SqL X.K H p (bs.map V.bl) ∧ Q (.bl (bs.all id)) H) := by
  intro pins s σ H xs us Q I r h
  obtain ⟨p, bs, rfl, hq, q⟩ := h
  obtain ⟨u, rfl, rx⟩ := vals1 r
  cases rx
  obtain ⟨its, rv, pl, hz⟩ := I.list hq
  have hb := bools_of rv
  have hl := pl.isList
  have hlt : p < s.heap.objs.size := by obtain ⟨_, e, _⟩ := hl; exact Heap.lt_size e
  refine call_all_walk (wpAny_pyIter_list hl ?_)
  refine ⟨s.heap.objs.size, [s.heap.objs.size, p], [s.heap.objs.size], its.toArray.size, _, _, fun i => (bs[i]?).getD true, rfl, Walks.list (A := X.A.in1) (I.ok.hd hc) _ p (Nat.ne_of_lt hlt) its.toArray,
    ⟨⟨_, Heap.get?_push_size _ rfl, rfl, rfl⟩, hl.push _⟩, fun i v s' Q' E' hP hQ => ?_, fun h' tk hk => ?_⟩
  · obtain ⟨b, e, rfl⟩ := hb.get i v (by simpa using hP)
    simp only [e, Option.getD_some] at hQ
    exact wpAny_truthy_bool hQ
  · have e : ((List.range its.toArray.size).all fun i => (bs[i]?).getD true) = bs.all id := by
      rw [List.size_toArray, hb.length]; exact LSm.range_all bs
    rw [e]
    exact ⟨.bl (bs.all id), H, I.kept (LSm.kept_iter hk), rfl, q⟩

/-- is, is not of truths -/
theorem op_isB : OpR X (compareOp .Is) (fun x y H Q => ∃ i j, x = .bl i ∧ y = .bl j ∧ Q (.bl (i == j)) H) := by
  intro pins s σ H x y v u Q I rx ry h
  obtain ⟨i, j, rfl, rfl, q⟩ := h
  cases rx
  cases ry
  exact is_bool ⟨.bl (i == j), H, I, rfl, q⟩
theorem op_isnotB : OpR X (compareOp .IsNot) (fun x y H Q => ∃ i j, x = .bl i ∧ y = .bl j ∧ Q (.bl (i != j)) H) := by
  intro pins s σ H x y v u Q I rx ry h
  obtain ⟨i, j, rfl, rfl, q⟩ := h
  cases rx
  cases ry
  exact isnot_bool ⟨.bl (i != j), H, I, rfl, q⟩

/-- () + u is u itself -/
def rCatT0 (K : PySem.W.Frag) : R2 := fun x y H Q => ∃ a b ys, x = .ref a ∧ y = .ref b ∧ SqT K H a [] ∧ SqT K H b ys ∧ Q (.ref b) H
theorem op_catT0 : OpR X (binaryOp .Add) (rCatT0 X.K) := by
  intro pins s σ H x y v u Q I rx ry h
  obtain ⟨a, b, ys, rfl, rfl, ha, hb, q⟩ := h
  cases rx
  cases ry
  obtain ⟨its, r1, p1, _⟩ := I.tuple ha
  obtain ⟨its2, r2, p2, _⟩ := I.tuple hb
  cases r1
  obtain ⟨⟨cls, dd, data, sl⟩, ho, hc, n, hd⟩ := id p1
  obtain ⟨⟨cls2, dd2, data2, sl2⟩, ho2, hc2, n2, hd2⟩ := id p2
  simp only at hc hd hc2 hd2
  subst hc hd hc2 hd2
  exact concat_meets ⟨_, ho, rfl⟩ ⟨_, ho2, rfl⟩ noFill_tuple_add seq_tuple_add PySem.F.slot_tuple_add PySem.F.entry_tuple_add (PySem.F.args_tuple_add_2 _ _)
    (tuple_addW0 a b #[] its2.toArray n n2 dd dd2 sl sl2 rfl) ⟨ho, ho2, ⟨.ref b, H, I, rfl, q⟩⟩
/-- t + u, whatever they are -/
theorem op_catTT : OpR X (binaryOp .Add) (fun x y H Q => ∃ a b xs ys, x = .ref a ∧ y = .ref b ∧ SqT X.K H a xs ∧ SqT X.K H b ys ∧ xs.length + ys.length ≤ sizeLine ∧
    ∀ p H', SqT X.K H' p (xs ++ ys) → Same H H' → Q (.ref p) H') := by
  intro pins s σ H x y v u Q I rx ry h
  obtain ⟨a, b, xs, ys, rfl, rfl, ha, hb, hz, q⟩ := h
  cases xs with
  | nil => exact op_catT0 pins s σ H _ _ v u Q I rx ry ⟨a, b, ys, rfl, rfl, ha, hb, q b H hb (Same.refl H)⟩
  | cons x0 xr =>
    refine op_catT pins s σ H _ _ v u Q I rx ry ⟨a, b, x0 :: xr, ys, rfl, rfl, ha, hb, (fun z => by cases z), hz, fun z => ?_, fun z p hp => ?_⟩
    · subst z
      exact q a H (by rw [List.append_nil]; exact ha) (Same.refl H)
    · refine q p _ (SqT.of upd_same) fun c o e => ?_
      rw [upd_ne (ne_of_none e hp)]
      exact e

/-- t + u of tracked tuples: the result is one, too -/
theorem op_catTH : OpR X (binaryOp .Add) (fun x y H Q => ∃ a b xs ys, x = .ref a ∧ y = .ref b ∧ H a = some (.tup xs) ∧ H b = some (.tup ys) ∧ xs.length + ys.length ≤ sizeLine ∧
    ∀ p H', H' p = some (.tup (xs ++ ys)) → Same H H' → Q (.ref p) H') := by
  intro pins s σ H x y v u Q I rx ry h
  obtain ⟨a, b, xs, ys, rfl, rfl, ha, hb, hz, q⟩ := h
  cases xs with
  | nil => exact op_catT0 pins s σ H _ _ v u Q I rx ry ⟨a, b, ys, rfl, rfl, SqT.of ha, SqT.of hb, q b H hb (Same.refl H)⟩
  | cons x0 xr =>
    refine op_catT pins s σ H _ _ v u Q I rx ry ⟨a, b, x0 :: xr, ys, rfl, rfl, SqT.of ha, SqT.of hb, (fun z => by cases z), hz, fun z => ?_, fun z p hp => ?_⟩
    · subst z
      exact q a H (by rw [List.append_nil]; exact ha) (Same.refl H)
    · refine q p _ upd_same fun c o e => ?_
      rw [upd_ne (ne_of_none e hp)]
      exact e

/-! ### data within the tracked heap, and its equality -/
mutual
inductive Rep (H : Hp) : V → PyData → Prop
  | non : Rep H .non .none
  | bl (b : Bool) : Rep H (.bl b) (.bool b)
  | int (i : Int) : Rep H (.int i) (.int i)
  | str (x : Str) : Rep H (.str x) (.str x)
  | tup {a : Addr} {xs : List V} {ds : List PyData} : H a = some (.tup xs) → Reps H xs ds → Rep H (.ref a) (.tuple ds)
  | lst {a : Addr} {xs : List V} {ds : List PyData} : H a = some (.lst xs) → Reps H xs ds → Rep H (.ref a) (.list ds)
inductive Reps (H : Hp) : List V → List PyData → Prop
  | nil : Reps H [] []
  | cons {x : V} {d : PyData} {xs : List V} {ds : List PyData} : Rep H x d → Reps H xs ds → Reps H (x :: xs) (d :: ds)
end
mutual
theorem Rep.reads {P : Program} {w : World} {H : Hp} {h : Heap} (ok : HOk P w H h) : ∀ {v : V} {d : PyData} {u : Value}, Rep H v d → RelV v u → ∃ as, Reads h u d as
  | _, _, _, .non, r => by cases (show _ = Value.none from r); exact ⟨_, .none⟩
  | _, _, _, .bl b, r => by cases (show _ = Value.bool b from r); exact ⟨_, .bool b⟩
  | _, _, _, .int i, r => by obtain ⟨t, rfl⟩ := (show ∃ t, _ = Value.int i t from r); exact ⟨_, .int i t⟩
  | _, _, _, .str x, r => by obtain ⟨t, rfl⟩ := (show ∃ t, _ = Value.str x t from r); exact ⟨_, .str x t⟩
  | _, _, _, .tup (a := a) (xs := xs) e q, r => by
    cases (show _ = Value.ref a from r)
    obtain ⟨_, its, rv, o, ho, hc, n, hd⟩ := (show ObjOk P w H h a (.tup xs) from ok a _ e)
    obtain ⟨as, z⟩ := Reps.reads ok q rv
    exact ⟨_, .tuple ho hc hd (by simpa using z)⟩
  | _, _, _, .lst (a := a) (xs := xs) e q, r => by
    cases (show _ = Value.ref a from r)
    obtain ⟨_, its, n, rv, ho⟩ := (show ObjOk P w H h a (.lst xs) from ok a _ e)
    obtain ⟨as, z⟩ := Reps.reads ok q rv
    exact ⟨_, .list ho rfl rfl (by simpa using z)⟩
theorem Reps.reads {P : Program} {w : World} {H : Hp} {h : Heap} (ok : HOk P w H h) : ∀ {xs : List V} {ds : List PyData} {us : List Value}, Reps H xs ds → Vals xs us → ∃ as, ReadsAll h us ds as
  | _, _, _, .nil, .nil => ⟨_, .nil⟩
  | _, _, _, .cons p q, .cons r t => by
    obtain ⟨as, a1⟩ := Rep.reads ok p r
    obtain ⟨bs, b1⟩ := Reps.reads ok q t
    exact ⟨_, .cons a1 b1⟩
end
theorem op_eqD (hu : X.A.units + 64 < cLine) : OpR X (compareOp .Eq) (fun x y H Q => ∃ d e, Rep H x d ∧ Rep H y e ∧ SeqAt.shaped d = true ∧ SeqAt.shaped e = true ∧ Q (.bl (PyData.eqv d e)) H) := by
  intro pins s σ H x y v u Q I rx ry h
  obtain ⟨d, e, p, p', sd, se, q⟩ := h
  obtain ⟨as, r1⟩ := p.reads I.hok rx
  obtain ⟨bs, r2⟩ := p'.reads I.hok ry
  exact eq_dataH r1 r2 sd se hu ⟨.bl (PyData.eqv d e), H, I, rfl, q⟩
theorem op_neD (hu : X.A.units + 64 < cLine) : OpR X (compareOp .NotEq) (fun x y H Q => ∃ d e, Rep H x d ∧ Rep H y e ∧ SeqAt.shaped d = true ∧ SeqAt.shaped e = true ∧ Q (.bl (!PyData.eqv d e)) H) := by
  intro pins s σ H x y v u Q I rx ry h
  obtain ⟨d, e, p, p', sd, se, q⟩ := h
  obtain ⟨as, r1⟩ := p.reads I.hok rx
  obtain ⟨bs, r2⟩ := p'.reads I.hok ry
  exact ne_dataH r1 r2 sd se hu ⟨.bl (!PyData.eqv d e), H, I, rfl, q⟩
end
end L2

/-! ### defs of the text, each with its promise -/
namespace L2
open PySem PySem.Spec PyProof.Rows
/-- a def as it stands behind the top -/
structure Code (K : PySem.W.Frag) (mg : Str → Option Value) (x : Str) (st : Stmt) (ps : List Str) : Prop where
  ex : ∃ (f : Addr) (fd : FuncData), Fun K x x st f fd ∧ mg x = some (.ref f) ∧ Binds K fd ps []
/-- a def that keeps a promise -/
structure Good (P : Program) (w : World) (K : PySem.W.Frag) (mg : Str → Option Value) (base : Heap) (x : Str) (k : Nat) (ps : List Str) (sp : Sp) : Prop where
  ex : ∃ (f : Addr) (fd : FuncData), mg x = some (.ref f) ∧ PySem.W.keepIn K (.ref f) = true ∧ Binds K fd ps [] ∧ FnOk P w K mg base CX0 k f fd ps sp
theorem Code.good {P : Program} {w : World} {K : PySem.W.Frag} {mg : Str → Option Value} {base : Heap} {x : Str} {st : Stmt} {ps N : List Str} {k : Nat} {sp : Sp} (C : Code K mg x st ps) (S : FnScope N ps (defScope st)) (len : ∀ vs H Q E, sp vs H Q E → vs.length = ps.length)
    (hbody : ∀ (f : Addr) (cdv : Value) (A : Around) (outer : List Env) (s : Shared) (H : Hp) (vs : List V) (Q : VK) (E : XK), Room k (A.deeper (envOfC x (defScope st) s.heap.objs.size f cdv)) → sp vs H Q E →
      ∃ t, PSs (cxOf CX0 P w K mg base N x (defScope st) f cdv A outer s H E).nox (defBody st) t ∧ t { nx := fun _ H' => Q .non H', rt := Q } (start N vs) H) : Good P w K mg base x (k + 1) ps sp := by
  obtain ⟨f, fd, F, m, b⟩ := C.ex
  exact ⟨f, fd, m, F.kp, b, F.ok S len fun cdv A outer s H vs Q E hr h => hbody f cdv A outer s H vs Q E hr h⟩
theorem pcall {X : Cx} {k k' : Nat} {ps : List Str} {sp : Sp} {x : Str} {p pos : Pos} {e : Expr} {es : List Expr} {t : TA} (g : Good X.prog X.w X.K X.mg X.base x k ps sp) (hr : Room k' X.A) (ha : PA X (e :: es) t) (hk : k ≤ k' := by decide) (hg : Gl X x := by rfl)
    (hdb : (x == ("__debug__" : Str)) = false := by decide) (he : starEach (e :: es) X.env = (false, eval e X.env) :: starEach es X.env := by rfl) (hpl : (backTo pos (starEach es X.env)).any (·.1) = false := by rfl) :
    PE X (.Call (.Name x p) (e :: es) [] pos) (tCall sp [] E0 t) := by
  intro pins s σ H Q I h
  obtain ⟨f, fd, m, kp, b, F⟩ := g.ex
  exact pe_call F (hr.mono hk) hg m kp b .nil pass0 ha hdb he hpl pins s σ H Q I h
theorem Code.of {K : PySem.W.Frag} {mg : Str → Option Value} {h : Heap} {x : Str} {st : Stmt} {ps : List Str} {f : Addr} {oc : Value} {od an : Option Addr} {osl : Array (Option Value)} {kV doc pm cdv ct : Value} (X : K.In h) (G : h.Ns mainGlobals mg)
    (a : PySem.W.nsIn K mainGlobals x = some (some (.ref f))) (l : K.lookup f = some ⟨oc, od, .func (PySem.W.fnOf x x (defArgs st) (defBody st) (defScope st) .none kV doc pm an cdv ct), osl⟩) (c : PySem.W.codeIn K cdv x = true) (k : PySem.W.keepIn K (.ref f) = true)
    (hb : ∀ (kV doc pm : Value) (an : Option Addr) (cdv ct : Value) (us : List Value), us.length = ps.length → bindArgs (PySem.W.fnOf x x (defArgs st) (defBody st) (defScope st) .none kV doc pm an cdv ct) ⟨us, []⟩ = pure (ps.zip us)) : Code K mg x st ps := by
  have F := fun_mk (st := st) l c k
  exact ⟨f, _, F, PySem.W.mg_of X G a, F.binds hb⟩
theorem same_new {H : Hp} {p : Addr} (h : H p = none) (o : HO) : Same H (upd H p o) := fun b u q => by rw [upd_ne (ne_of_none q h)]; exact q
/-- a comprehension that takes nothing from around -/
theorem CScope.plain {X : Cx} {N' : List Str} {sc : Scope} (kind : sc.kind = .function) (nocell : ∀ y ∈ sc.names, y.2 ≠ .cell) (loc : ∀ y ∈ sc.names, y.2 = .local → sc.names.lookup y.1 = some .local) (nofree : ∀ y ∈ sc.names, y.2 ≠ .free) :
    CScope X N' (N'.map fun _ => none) sc where
  kind := kind
  nocell := nocell
  loc := loc
  fv := fun y hy e => absurd e (nofree y hy)
  len := by simp
  src := fun i x j _ e => by
    rw [List.getElem?_map] at e
    cases q : N'[i]? with
    | none => rw [q] at e; cases e
    | some z => rw [q] at e; cases e
/-- over a tuple that the turns leave as it is -/
theorem comp_tup {K : PySem.W.Frag} {a l : Addr} {xs : List V} {g : TG} {tt : TT} {te : TE} {Q : VK} {σ0 : St} {H0 : Hp} (Pv : Nat → St → Hp → Prop)
    (h0 : Pv 0 σ0 H0) (hl : ∀ i σ H', i ≤ xs.length → Pv i σ H' → SqT K H' a xs)
    (hs : ∀ i x σ H', xs[i]? = some x → Pv i σ H' → g x σ H' fun σ3 H3 => tt σ3 H3 fun b H4 => if b = true then te σ3 H4 fun y H5 => ∃ ys, H5 l = some (.lst ys) ∧ ys.length < sizeLine ∧ Pv (i + 1) σ3 (upd H5 l (.lst (ys ++ [y]))) else Pv (i + 1) σ3 H4)
    (hd : ∀ σ H', Pv xs.length σ H' → Q (.ref l) H') : CWant (Itt K a) g tt te Q σ0 H0 l := by
  unfold CWant
  refine ⟨fun i m σ H' => m = xs.length - i ∧ i ≤ xs.length ∧ Pv i σ H', ⟨xs.length, by simp, Nat.zero_le _, h0⟩, ?_⟩
  rintro i m σ H' ⟨rfl, hi, p⟩
  have q := hl i σ H' hi p
  by_cases hlt : i < xs.length
  · refine .inr ⟨⟨xs, xs[i], q, by simp [hlt]⟩, Pv (i + 1), fun σ3 H3 p' => ⟨xs.length - (i + 1), by omega, rfl, hlt, p'⟩, fun x H2 y => ?_⟩
    obtain ⟨e, y⟩ := y
    subst e
    exact hs i x σ _ (y xs q) p
  · have e : i = xs.length := by omega
    subst e
    exact .inl ⟨⟨xs, q, Nat.le_refl _⟩, hd σ H' p⟩
/-- over a list that the turns leave as it is -/
theorem comp_list {K : PySem.W.Frag} {a l : Addr} {xs : List V} {g : TG} {tt : TT} {te : TE} {Q : VK} {σ0 : St} {H0 : Hp} (Pv : Nat → St → Hp → Prop)
    (h0 : Pv 0 σ0 H0) (hl : ∀ i σ H', i ≤ xs.length → Pv i σ H' → SqL K H' a xs)
    (hs : ∀ i x σ H', xs[i]? = some x → Pv i σ H' → g x σ H' fun σ3 H3 => tt σ3 H3 fun b H4 => if b = true then te σ3 H4 fun y H5 => ∃ ys, H5 l = some (.lst ys) ∧ ys.length < sizeLine ∧ Pv (i + 1) σ3 (upd H5 l (.lst (ys ++ [y]))) else Pv (i + 1) σ3 H4)
    (hd : ∀ σ H', Pv xs.length σ H' → Q (.ref l) H') : CWant (Itl K a) g tt te Q σ0 H0 l := by
  unfold CWant
  refine ⟨fun i m σ H' => m = xs.length - i ∧ i ≤ xs.length ∧ Pv i σ H', ⟨xs.length, by simp, Nat.zero_le _, h0⟩, ?_⟩
  rintro i m σ H' ⟨rfl, hi, p⟩
  have q := hl i σ H' hi p
  by_cases hlt : i < xs.length
  · refine .inr ⟨⟨xs, xs[i], q, by simp [hlt]⟩, Pv (i + 1), fun σ3 H3 p' => ⟨xs.length - (i + 1), by omega, rfl, hlt, p'⟩, fun x H2 y => ?_⟩
    obtain ⟨e, y⟩ := y
    subst e
    exact hs i x σ _ (y xs q) p
  · have e : i = xs.length := by omega
    subst e
    exact .inl ⟨⟨xs, q, Nat.le_refl _⟩, hd σ H' p⟩
/-- over lo, lo + 1, .. -/
theorem comp_range {lo : Int} {n : Nat} {l : Addr} {g : TG} {tt : TT} {te : TE} {Q : VK} {σ0 : St} {H0 : Hp} (Pv : Nat → St → Hp → Prop) (h0 : Pv 0 σ0 H0)
    (hs : ∀ i σ H', i < n → Pv i σ H' → g (.int (lo + i)) σ H' fun σ3 H3 => tt σ3 H3 fun b H4 => if b = true then te σ3 H4 fun y H5 => ∃ ys, H5 l = some (.lst ys) ∧ ys.length < sizeLine ∧ Pv (i + 1) σ3 (upd H5 l (.lst (ys ++ [y]))) else Pv (i + 1) σ3 H4)
    (hd : ∀ σ H', Pv n σ H' → Q (.ref l) H') : CWant (Itr lo n) g tt te Q σ0 H0 l := by
  unfold CWant
  refine ⟨fun i m σ H' => m = n - i ∧ i ≤ n ∧ Pv i σ H', ⟨n, by simp, Nat.zero_le _, h0⟩, ?_⟩
  rintro i m σ H' ⟨rfl, hi, p⟩
  by_cases hlt : i < n
  · refine .inr ⟨hlt, Pv (i + 1), fun σ3 H3 p' => ⟨n - (i + 1), by omega, rfl, hlt, p'⟩, fun x H2 y => ?_⟩
    obtain ⟨e, y⟩ := y
    subst e y
    exact hs i σ _ hlt p
  · have e : i = n := by omega
    subst e
    exact .inl ⟨Nat.le_refl _, hd σ H' p⟩
end L2

set_option Elab.async false
set_option linter.all false
set_option maxRecDepth 100000
set_option maxHeartbeats 4000000

/-! ### further rules: max, sorted, join, texts walked, slices that may be the whole -/
namespace L2
open PySem PySem.Spec PyProof.Rows
section
variable {X : Cx}

/-- max(l) of a list of whole numbers -/
theorem call_max1 (hc : X.calm = true) : CallR X (.builtin "max") (fun xs H Q => ∃ (p : Addr) (ns : List Int), xs = [.ref p] ∧ SqL X.K H p (ns.map V.int) ∧ 0 < ns.length ∧ ∀ M, M ∈ ns → (∀ a, a ∈ ns → a ≤ M) → Q (.int M) H) := by
  intro pins s σ H xs us Q I r h
  obtain ⟨p, ns, rfl, hq, hne, q⟩ := h
  obtain ⟨u, rfl, rx⟩ := vals1 r
  cases rx
  obtain ⟨its, rv, pl, hz⟩ := I.list hq
  have hi : IntsAre its ns := intsAre_of rv
  obtain ⟨zs, e⟩ := hi.allInts.items
  have hl := pl.isList
  rw [e] at hl
  have hns : ns = zs.toList.map (·.1) := by rw [← hi.numsOf, ← nums_intItems, ← e]
  have hsz : 0 < zs.size := by
    have h3 := hne
    rw [hns, List.length_map, Array.length_toList] at h3
    exact h3
  refine max_intList (I.ok.hd hc) hl hsz fun v h' tk hv hk => ?_
  obtain ⟨t, rfl⟩ := intItems_at hv
  obtain ⟨_, h2⟩ := argBest_gt (numAt zs) (zs.size - 1)
  refine ⟨.int _, H, I.kept hk, ⟨t, rfl⟩, q _ ?_ fun a ha => ?_⟩
  · rw [hns, numAt_eq]
    exact getD_mem (by rw [List.length_map, Array.length_toList]; have := (argBest_gt (numAt zs) (zs.size - 1)).1; omega)
  · rw [hns] at ha
    obtain ⟨j, hj, rfl⟩ := mem_getD ha
    rw [List.length_map, Array.length_toList] at hj
    rw [← numAt_eq]
    exact h2 j (by omega)
/-- sorted(l) of a list of whole numbers -/
theorem ints_vals : ∀ {us : List Value} {ns : List Int}, IntsAre us ns → Vals (ns.map V.int) us := fun h => vals_ints h
theorem call_sortedI : CallR X (.builtin "sorted") (fun xs H Q => ∃ (p : Addr) (ns : List Int), xs = [.ref p] ∧ SqL X.K H p (ns.map V.int) ∧ ns.length < 64 ∧
    ∀ (ms : List Int) l, ms.Perm ns → ms.Pairwise (· ≤ ·) → H l = none → Q (.ref l) (upd H l (.lst (ms.map V.int)))) := by
  intro pins s σ H xs us Q I r h
  obtain ⟨p, ns, rfl, hq, h64, q⟩ := h
  obtain ⟨u, rfl, rx⟩ := vals1 r
  cases rx
  obtain ⟨its, rv, pl, hz⟩ := I.list hq
  have hi : IntsAre its ns := intsAre_of rv
  have hlen := hi.length
  refine sorted_ints pl.isList hi (by omega) fun out ms a1 a2 a3 => ?_
  obtain ⟨e, he⟩ := sortedAll_at s.heap its out
  have hml := a2.length_eq
  refine ⟨.ref (s.heap.objs.size + 1), _, I.laid (t' := s.toks) (o := .lst (ms.map V.int)) (fun b o q => sortedAll_old q) (Nat.le_succ _) ?_, rfl, q ms _ a2 a3 (I.hok.fresh (Nat.le_succ _))⟩
  exact ⟨by rw [List.length_map]; exact Nat.le_of_lt (small1000 (by omega)), out.toList, e, ints_vals a1, he⟩

/-- sep.join(l) of a list of texts -/
theorem strs_of : ∀ {ys : List Str} {us : List Value}, Vals (ys.map V.str) us → StrsAre us ys
  | [], _, .nil => .nil
  | y :: r, _, .cons h t => by
    obtain ⟨t', e⟩ := (show ∃ t, _ = Value.str y t from h)
    cases e
    exact .cons y t' (strs_of t)
def rJoin (K : PySem.W.Frag) : V → List V → Hp → VK → Prop := fun x vs H Q => ∃ (z : Str) (p : Addr) (ys : List Str), x = .str z ∧ vs = [.ref p] ∧ SqL K H p (ys.map V.str) ∧ (ys.map (·.length)).sum + ys.length * z.length ≤ 16777216 ∧ Q (.str (Txt.join z ys)) H
theorem mt_join : MtR X "str.join" (rJoin X.K) := by
  intro pins s σ H x vs v us Q I rx rv h
  obtain ⟨z, p, ys, rfl, rfl, hq, hz, q⟩ := h
  obtain ⟨t, rfl⟩ := rx
  obtain ⟨u, rfl, ru⟩ := rv.one
  cases ru
  obtain ⟨its, r', pl, _⟩ := I.list hq
  exact join_list pl.isList (strs_of r') hz fun t' k => ⟨.str (Txt.join z ys), H, I.tok k, ⟨t', rfl⟩, q⟩

/-- a text, sign by sign -/
def Its (z : Str) : It := ⟨fun i _ => i < z.cps.size, fun i H x H' => H' = H ∧ ∃ c, z.cps[i]? = some c ∧ x = .str ⟨#[c]⟩, fun i _ => i = z.cps.size⟩
def iStr (tl : TE) : TI := fun σ H R => tl σ H fun x H1 => ∃ z, x = .str z ∧ R (Its z) H1
end
end L2

namespace L2
open PySem PySem.Spec PyProof.Rows
section
variable {X : Cx} {tg : Expr}
theorem turn_str {P : Program} {w : World} {K : PySem.W.Frag} {tg : Expr} (z : Str) (t : Tok) (it : Addr) (ty : String) (hty : ["enumerate", "zip", "dict_itemiterator", "dict_reverseitemiterator", "odict_iterator", "itertools.zip_longest", "itertools.pairwise"].contains ty = false)
    (W : ∀ A' : Around, A'.handled = none → Walks P w A' it [it] [it] z.cps.size (SignAt z) (fun i h => h.IsStrIter it ty z t i))
    (hself : ∀ (A : Around) (i : Nat) (s : Shared) (Q : Value → Shared → Prop) (E : Value → Shared → Prop), s.heap.IsStrIter it ty z t i → Q (.ref it) s → wpAny (model P w) A (pyIter (.ref it)) Q E s) :
    Turn P w K tg (Its z) [it] it (fun i h => h.IsStrIter it ty z t i) where
  mem := List.mem_singleton.mpr rfl
  obj := fun i h st b hb => by
    cases List.mem_singleton.mp hb
    obtain ⟨o, e, c, d⟩ := st
    exact ⟨o, e, fun v z' => by rw [d] at z'; cases z'⟩
  keep := fun i h h' st k => by
    obtain ⟨o, e, r⟩ := st
    exact ⟨o, k it (List.mem_singleton.mpr rfl) o e, r⟩
  item := by
    intro X hP hw hK hc i pins s σ H E I hf st hg
    subst hP hw hK
    obtain ⟨f0, f1, f2, f3, f4, f5⟩ := hf it (List.mem_singleton.mpr rfl)
    refine (W X.A (I.ok.hd hc)).item i s _ _ hg st fun v h' tk hv st' kk => ?_
    obtain ⟨c, u, hcu, rfl⟩ := hv
    have I1 : Inv X pins σ H { s with heap := h', toks := tk } := I.turned (fun b o hb e => kk b o (fun hm => hb (List.mem_singleton.mp hm)) e) f0 f1 f3 f4 f5
    obtain ⟨o, e, cl, d⟩ := id st'
    exact ⟨_, rfl, go_of (s := { s with heap := h', toks := tk }) e cl d hty ⟨.str ⟨#[c]⟩, H, I1, ⟨u, rfl⟩, ⟨rfl, c, hcu, rfl⟩, st', fun b hb => (hf b hb).1⟩⟩
  done := by
    intro X hP hw hK hc i pins s σ H E I hf st hg
    subst hP hw hK
    obtain ⟨f0, f1, f2, f3, f4, f5⟩ := hf it (List.mem_singleton.mpr rfl)
    cases (show i = z.cps.size from hg)
    exact (W X.A (I.ok.hd hc)).done s _ _ st fun h' tk kk => ⟨rfl, I.turned (fun b o hb e => kk b o (fun hm => hb (List.mem_singleton.mp hm)) e) f0 f1 f3 f4 f5⟩
  self := fun A i s Q E st h => hself A i s Q E st h
theorem pi_str {l : Expr} {tl : TE} (hl : PE X l tl) : PI X tg l (iStr tl) := by
  intro pins s σ H R I h
  refine thn (hl pins s σ H _ I h) fun v s1 ⟨x, H1, I1, r1, z, e, q⟩ => ?_
  subst e
  obtain ⟨t, rfl⟩ := r1
  have fp : ∀ o : Obj, ∀ b ∈ [s1.heap.objs.size], FpOk X pins H1 b := fun o b hb => by
    cases List.mem_singleton.mp hb
    exact I1.fpOk (Nat.le_refl _) (I1.hok.fresh (Nat.le_refl _))
  cases ha : z.cps.all (· < 128) with
  | true =>
    refine wpAny_pyIter_ascii ha ?_
    exact ⟨s1.heap.objs.size, [s1.heap.objs.size], _, _, H1, rfl, I1.kept (t' := s1.toks) fun b o e => Heap.get?_push_of_some _ e, turn_str z t _ "str_ascii_iterator" (by decide) (fun A' hA => Walks.strAscii hA _ z t) (fun _ _ _ _ _ st h => wpAny_pyIter_striter_ascii st h),
      ⟨_, Heap.get?_push_size _ rfl, rfl, rfl⟩, fp { cls := .none, data := .fields #[] }, q⟩
  | false =>
    refine wpAny_pyIter_wide ha ?_
    exact ⟨s1.heap.objs.size, [s1.heap.objs.size], _, _, H1, rfl, I1.kept (t' := s1.toks) fun b o e => Heap.get?_push_of_some _ e, turn_str z t _ "str_iterator" (by decide) (fun A' hA => Walks.strWide hA _ z t) (fun _ _ _ _ _ st h => wpAny_pyIter_striter_wide st h),
      ⟨_, Heap.get?_push_size _ rfl, rfl, rfl⟩, fp { cls := .none, data := .fields #[] }, q⟩
/-- a comprehension over a text -/
theorem comp_str {z : Str} {l : Addr} {g : TG} {tt : TT} {te : TE} {Q : VK} {σ0 : St} {H0 : Hp} (Pv : Nat → St → Hp → Prop) (h0 : Pv 0 σ0 H0)
    (hs : ∀ i c σ H', z.cps[i]? = some c → Pv i σ H' → g (.str ⟨#[c]⟩) σ H' fun σ3 H3 => tt σ3 H3 fun b H4 => if b = true then te σ3 H4 fun y H5 => ∃ ys, H5 l = some (.lst ys) ∧ ys.length < sizeLine ∧ Pv (i + 1) σ3 (upd H5 l (.lst (ys ++ [y]))) else Pv (i + 1) σ3 H4)
    (hd : ∀ σ H', Pv z.cps.size σ H' → Q (.ref l) H') : CWant (Its z) g tt te Q σ0 H0 l := by
  unfold CWant
  refine ⟨fun i m σ H' => m = z.cps.size - i ∧ i ≤ z.cps.size ∧ Pv i σ H', ⟨z.cps.size, by simp, Nat.zero_le _, h0⟩, ?_⟩
  rintro i m σ H' ⟨rfl, hi, p⟩
  by_cases hlt : i < z.cps.size
  · refine .inr ⟨hlt, Pv (i + 1), fun σ3 H3 p' => ⟨z.cps.size - (i + 1), by omega, rfl, hlt, p'⟩, fun x H2 y => ?_⟩
    obtain ⟨e, c, hc, rfl⟩ := y
    subst e
    exact hs i c σ _ hc p
  · have e : i = z.cps.size := by omega
    subst e
    exact .inl ⟨rfl, hd σ H' p⟩
end
end L2

namespace HT
open PySem PyProof.Rows
section
variable {prog : Program} {w : World} {A : Around} {E : Value → Shared → Prop} {s : Shared}
/-- t[lo:hi], the whole of it: t itself -/
theorem getItem_tuple_all {t sl : Addr} {items : Array Value} {vl vu : Value} {lo hi : Option Int} {Q : Value → Shared → Prop} (ht : IsTup s.heap t items) (hs : s.heap.IsSliceOf sl vl vu .none) (pl : IsPart vl lo) (pu : IsPart vu hi)
    (hw : sIx items.size 0 lo = 0 ∧ sIx items.size items.size hi = items.size) (h : Q (.ref t) s) : wpAny (model prog w) A (getItem (.ref t) (.ref sl)) Q E s := by
  obtain ⟨os, hos, hcs, hds⟩ := id hs
  have hTs : s.TypeIs (.ref sl) "slice" := ⟨os, hos, hcs⟩
  unfold getItem
  try with_reducible refine wpAny_holding ?_
  first | refine wpAny_bind (wpAny_pure ?_) | skip
  refine wpAny_bind (wpAny_sequenceKey ht.typeIs (by decide) ?_)
  refine wpAny_bind (wpAny_callSpecial?_slot (name := Str.ofString "__getitem__") ht.typeIs PyProof.Rows.slot_tuple_getitem (wpAny_call_entry PyProof.Rows.slot_tuple_getitem ht.typeIs entry_tuple_getitem ?_ (args_tuple_getitem _ _)))
  show wpAny _ _ (Builtin.Tuple.tupleItemsOf (.ref t) >>= _) _ _ s
  refine wpAny_bind (tupleItemsOf_ ht ?_)
  refine wpAny_bind (wpAny_typeOf hTs ?_)
  rw [if_pos (by decide)]
  refine wpAny_bind (sliceApplied_gen hs pl pu ?_)
  rw [hw.1, hw.2]
  show wpAny _ _ (if (((0 : Nat) : Int) == 0 && (1 : Int) == 1 && (items.size - 0) == items.size) = true then _ else _) _ _ s
  rw [if_pos (by simp)]
  refine wpAny_bind ?_
  unfold Builtin.Tuple.tupleIsExact
  refine wpAny_bind (wpAny_typeOf ht.typeIs (wpAny_pure ?_))
  rw [if_pos (by decide)]
  exact wpAny_bind (wpAny_rule (wpAny_pure ⟨_, rfl, wpAny_pure h⟩))
end
end HT

namespace L2
open PySem PySem.Spec PyProof.Rows
section
variable {X : Cx}
/-- t[lo:hi] of a tracked tuple, the whole or not -/
theorem sl_tupW : SlR X (fun x lo hi H Q => ∃ a xs, x = .ref a ∧ H a = some (.tup xs) ∧ ∀ p H', H' p = some (.tup (cutV xs lo hi)) → Same H H' → Q (.ref p) H') := by
  intro pins s σ H x v vl vu lo hi sl Q I rx hs pl pu h
  obtain ⟨a, xs, rfl, hx, q⟩ := h
  by_cases hw : HT.sIx xs.length 0 lo = 0 ∧ HT.sIx xs.length xs.length hi = xs.length
  · cases rx
    obtain ⟨its, r, ht, hz⟩ := I.tuple (SqT.of hx)
    have hlen : its.toArray.size = xs.length := by rw [List.size_toArray]; exact r.length.symm
    refine ⟨"tuple", _, PyProof.Rows.slot_tuple_getitem.lookup, ht.typeIs, ?_⟩
    refine HT.getItem_tuple_all ht hs pl pu (by rw [hlen]; exact hw) ⟨.ref a, H, I, rfl, q a H ?_ (Same.refl H)⟩
    have e : cutV xs lo hi = xs := by unfold cutV; rw [hw.1, hw.2]; simp
    rw [e]
    exact hx
  · exact sl_tup pins s σ H _ v vl vu lo hi sl Q I rx hs pl pu ⟨a, xs, rfl, SqT.of hx, hw, fun p hp => q p _ upd_same (fun c o e => by rw [upd_ne (ne_of_none e hp)]; exact e)⟩
/-- z[lo:hi] of a text -/
theorem sl_str : SlR X (fun x lo hi H Q => ∃ z, x = .str z ∧ z.length ≤ sizeLine ∧ Q (.str (Txt.slice z lo hi)) H) := by
  intro pins s σ H x v vl vu lo hi sl Q I rx hs pl pu h
  obtain ⟨z, rfl, hz, q⟩ := h
  obtain ⟨t, rfl⟩ := rx
  refine ⟨"str", _, F.slot_str_getitem.lookup, typeIs_str _ _ _, ?_⟩
  have fin : ∀ t' k, EP X pins σ Q (.str (Txt.slice z lo hi) t') { s with toks := k } := fun t' k => ⟨.str (Txt.slice z lo hi), H, I.tok k, ⟨t', rfl⟩, q⟩
  cases pl with
  | none =>
    cases pu with
    | none => exact wpAny_getItem_str_slice (l := none) (u := none) (st := none) hs rfl (post_val_or_str ⟨Nat.le_trans (Txt.slice_le z _ _) hz, fin⟩)
    | int j tj => exact wpAny_getItem_str_slice (l := none) (u := some (j, tj)) (st := none) hs rfl (post_val_or_str ⟨Nat.le_trans (Txt.slice_le z _ _) hz, fin⟩)
  | int i ti =>
    cases pu with
    | none => exact wpAny_getItem_str_slice (l := some (i, ti)) (u := none) (st := none) hs rfl (post_val_or_str ⟨Nat.le_trans (Txt.slice_le z _ _) hz, fin⟩)
    | int j tj => exact wpAny_getItem_str_slice (l := some (i, ti)) (u := some (j, tj)) (st := none) hs rfl (post_val_or_str ⟨Nat.le_trans (Txt.slice_le z _ _) hz, fin⟩)
end
end L2

set_option Elab.async false
set_option linter.all false
set_option maxRecDepth 100000
set_option maxHeartbeats 4000000
/-! ### own classes: methods with their promises, the attributes by their places -/
namespace L2
open PySem PySem.Spec PyProof.Rows
/-- a method as it stands in its class behind the top -/
structure CodeM (K : PySem.W.Frag) (C : Addr) (m qn : Str) (st : Stmt) (ps : List Str) : Prop where
  ex : ∃ (f : Addr) (fd : FuncData), Fun K m qn st f fd ∧ Meth K C m f ∧ Binds K fd ps []
/-- a method that keeps a promise -/
structure GoodM (P : Program) (w : World) (K : PySem.W.Frag) (mg : Str → Option Value) (base : Heap) (C : Addr) (m : Str) (k : Nat) (ps : List Str) (sp : Sp) : Prop where
  ex : ∃ (f : Addr) (fd : FuncData), Meth K C m f ∧ Binds K fd ps [] ∧ FnOk P w K mg base CX0 k f fd ps sp
/-- the class is made with an __init__ that keeps a promise -/
structure GoodI (P : Program) (w : World) (K : PySem.W.Frag) (mg : Str → Option Value) (base : Heap) (C : Addr) (k : Nat) (ps : List Str) (sp : Sp) : Prop where
  ex : ∃ (f : Addr) (fd : FuncData), Mk K C f ∧ Binds K fd ps [] ∧ FnOk P w K mg base CX0 k f fd ps sp
theorem CodeM.good {P : Program} {w : World} {K : PySem.W.Frag} {mg : Str → Option Value} {base : Heap} {C : Addr} {m qn : Str} {st : Stmt} {ps N : List Str} {k : Nat} {sp : Sp} (c : CodeM K C m qn st ps) (S : FnScope N ps (defScope st)) (len : ∀ vs H Q E, sp vs H Q E → vs.length = ps.length)
    (hbody : ∀ (f : Addr) (cdv : Value) (A : Around) (outer : List Env) (s : Shared) (H : Hp) (vs : List V) (Q : VK) (E : XK), Room k (A.deeper (envOfC qn (defScope st) s.heap.objs.size f cdv)) → sp vs H Q E →
      ∃ t, PSs (cxOf CX0 P w K mg base N qn (defScope st) f cdv A outer s H E).nox (defBody st) t ∧ t { nx := fun _ H' => Q .non H', rt := Q } (start N vs) H) : GoodM P w K mg base C m (k + 1) ps sp := by
  obtain ⟨f, fd, F, M, b⟩ := c.ex
  exact ⟨f, fd, M, b, F.ok S len fun cdv A outer s H vs Q E hr h => hbody f cdv A outer s H vs Q E hr h⟩
theorem pmeth {X : Cx} {pl : Sem Bool} {k k' : Nat} {C : Addr} {ps : List Str} {sp : Sp} {m : Str} {apos pos : Pos} {o e : Expr} {es : List Expr} {ta : TE} {t : TA} (he : PE X o ta) (c : Cls X.K C) (g : GoodM X.prog X.w X.K X.mg X.base C m k ps sp) (hr : Room k' X.A) (ha : PA X (e :: es) t) (hk : k ≤ k' := by decide)
    (hst : starEach (e :: es) X.env = (false, eval e X.env) :: starEach es X.env := by rfl) (hpl : (backTo pos (starEach es X.env)).any (·.1) = false := by rfl)
    (ht : eval (.Call (.Attribute o m apos) (e :: es) [] pos) X.env = (do
      let ov ← eval o X.env
      standAt apos.atName
      let (f, first) ← holding [ov] (getMethod ov m pl)
      callWith pos f first (backTo pos (starEach (e :: es) X.env)) (backToKw pos (keywordEach [] X.env))) := by rfl) :
    PE X (.Call (.Attribute o m apos) (e :: es) [] pos) (tMeth C m sp [] E0 ta t) := by
  intro pins s σ H Q I h
  obtain ⟨f, fd, M, b, F⟩ := g.ex
  exact pe_meth (pl := pl) he c M F (hr.mono hk) b .nil pass0 ha hst hpl ht pins s σ H Q I h
theorem pmeth0 {X : Cx} {pl : Sem Bool} {k k' : Nat} {C : Addr} {ps : List Str} {sp : Sp} {m : Str} {apos pos : Pos} {o : Expr} {ta : TE} (he : PE X o ta) (c : Cls X.K C) (g : GoodM X.prog X.w X.K X.mg X.base C m k ps sp) (hr : Room k' X.A) (hk : k ≤ k' := by decide)
    (ht : eval (.Call (.Attribute o m apos) [] [] pos) X.env = (do
      let ov ← eval o X.env
      standAt apos.atName
      let (f, first) ← holding [ov] (getMethod ov m pl)
      callWith pos f first (backTo pos (starEach [] X.env)) (backToKw pos (keywordEach [] X.env))) := by rfl) :
    PE X (.Call (.Attribute o m apos) [] [] pos) (tMeth C m sp [] E0 ta tNil) := by
  intro pins s σ H Q I h
  obtain ⟨f, fd, M, b, F⟩ := g.ex
  exact pe_meth0 (pl := pl) he c M F (hr.mono hk) b .nil pass0 ht pins s σ H Q I h
theorem pmake {X : Cx} {k k' : Nat} {C : Addr} {ps : List Str} {sp : Sp} {x : Str} {p pos : Pos} {e : Expr} {es : List Expr} {t : TA} (g : GoodI X.prog X.w X.K X.mg X.base C k ps sp) (hr : Room k' X.A) (hm : X.mg x = some (.ref C)) (ha : PA X (e :: es) t) (hk : k + 1 ≤ k' := by decide) (hg : Gl X x := by rfl)
    (hdb : (x == ("__debug__" : Str)) = false := by decide) (he : starEach (e :: es) X.env = (false, eval e X.env) :: starEach es X.env := by rfl) (hpl : (backTo pos (starEach es X.env)).any (·.1) = false := by rfl) :
    PE X (.Call (.Name x p) (e :: es) [] pos) (tMake C sp [] E0 t) := by
  intro pins s σ H Q I h
  obtain ⟨f, fd, M, b, F⟩ := g.ex
  exact pe_make M F (hr.mono hk) hg hm b .nil pass0 ha hdb he hpl pins s σ H Q I h
/-- a constant of the text -/
theorem pe_cst {X : Cx} {x : Str} {v : V} {pos : Pos} (hg : Gl X x) (hm : ∃ u, X.mg x = some u ∧ RelV v u) (hd : (x == ("__debug__" : Str)) = false := by decide) : PE X (.Name x pos) (tC v) := by
  obtain ⟨u, h, r⟩ := hm
  exact pe_glob hg h r hd
/-- attributes by their places -/
theorem fl_get : ∀ {fs : List (Str × V)} {i : Nat} {f : Str} {v : V}, (fs.map (·.1)).Nodup → fs[i]? = some (f, v) → fs.lookup f = some v
  | [], _, _, _, _, h => by simp at h
  | (g, u) :: fs, 0, f, v, _, h => by simp at h; obtain ⟨rfl, rfl⟩ := h; simp [List.lookup]
  | (g, u) :: fs, i + 1, f, v, hn, h => by
    rw [List.map_cons, List.nodup_cons] at hn
    have h' : fs[i]? = some (f, v) := by simpa using h
    have hm : f ∈ fs.map (·.1) := List.mem_map.mpr ⟨(f, v), List.mem_of_getElem? h', rfl⟩
    have hne : (f == g) = false := beq_eq_false_iff_ne.mpr fun e => hn.1 (e ▸ hm)
    rw [List.lookup, hne]
    exact fl_get hn.2 h'
theorem fl_no : ∀ {fs : List (Str × V)} {m : Str}, m ∉ fs.map (·.1) → fs.lookup m = none
  | [], _, _ => rfl
  | (g, u) :: fs, m, h => by
    rw [List.map_cons, List.mem_cons] at h
    have hne : (m == g) = false := beq_eq_false_iff_ne.mpr fun e => h (.inl e)
    rw [List.lookup, hne]
    exact fl_no fun z => h (.inr z)
theorem fl_put {y : V} : ∀ {fs : List (Str × V)} {i : Nat} {f : Str} {v : V}, (fs.map (·.1)).Nodup → fs[i]? = some (f, v) → putF f y fs = fs.set i (f, y)
  | [], _, _, _, _, h => by simp at h
  | (g, u) :: fs, 0, f, v, _, h => by
    simp at h
    obtain ⟨rfl, rfl⟩ := h
    show (if g = g then (g, y) :: fs else (g, u) :: putF g y fs) = _
    rw [if_pos rfl]
    rfl
  | (g, u) :: fs, i + 1, f, v, hn, h => by
    rw [List.map_cons, List.nodup_cons] at hn
    have h' : fs[i]? = some (f, v) := by simpa using h
    have hm : f ∈ fs.map (·.1) := List.mem_map.mpr ⟨(f, v), List.mem_of_getElem? h', rfl⟩
    have hne : ¬ g = f := fun e => hn.1 (by rw [show (g, u).fst = g from rfl, e]; exact hm)
    show (if g = f then (g, y) :: fs else (g, u) :: putF f y fs) = _
    rw [if_neg hne, fl_put hn.2 h']
    rfl
theorem fl_new {y : V} : ∀ {fs : List (Str × V)} {f : Str}, f ∉ fs.map (·.1) → putF f y fs = fs ++ [(f, y)]
  | [], _, _ => rfl
  | (g, u) :: fs, f, h => by
    rw [List.map_cons, List.mem_cons] at h
    show (if g = f then (g, y) :: fs else (g, u) :: putF f y fs) = _
    rw [if_neg fun e => h (.inl e.symm), fl_new fun z => h (.inr z)]
    rfl
/-- tuples stay tuples -/
def TupS (H H' : Hp) : Prop := ∀ c xs, H c = some (.tup xs) → H' c = some (.tup xs)
theorem TupS.refl (H : Hp) : TupS H H := fun _ _ e => e
theorem TupS.trans {H H1 H2 : Hp} (a : TupS H H1) (b : TupS H1 H2) : TupS H H2 := fun c xs e => b c xs (a c xs e)
theorem TupS.of {H H1 : Hp} (s : Same H H1) : TupS H H1 := fun c xs e => s c _ e
theorem TupS.upd {H : Hp} {b : Addr} {o : HO} (h : ∀ xs, H b ≠ some (.tup xs)) : TupS H (upd H b o) := fun c xs e => by
  have n : c ≠ b := fun z => h xs (z ▸ e)
  rw [upd_ne n]
  exact e
/-- all but b is as it was -/
def SameB (b : Addr) (H H' : Hp) : Prop := ∀ c o, H c = some o → c ≠ b → H' c = some o
theorem SameB.trans {b : Addr} {H H1 H2 : Hp} (x : SameB b H H1) (y : SameB b H1 H2) : SameB b H H2 := fun c o e n => y c o (x c o e n) n
theorem SameB.of {b : Addr} {H H1 : Hp} (x : Same H H1) : SameB b H H1 := fun c o e _ => x c o e
theorem SameB.refl (b : Addr) (H : Hp) : SameB b H H := fun _ _ e _ => e
theorem SameB.upd {b : Addr} {H : Hp} {o : HO} : SameB b H (upd H b o) := fun c u e n => by rw [upd_ne n]; exact e
theorem SameB.tup {b : Addr} {H H' : Hp} (x : SameB b H H') (h : ∀ xs, H b ≠ some (.tup xs)) : TupS H H' := fun c xs e => x c _ e fun z => h xs (z ▸ e)
theorem SameB.free {b : Addr} {H H' : Hp} (x : SameB b H H') (hb : ∃ o, H' b = some o) {l : Addr} (h : H' l = none) : H l = none := by
  cases e : H l with
  | none => rfl
  | some o =>
    by_cases n : l = b
    · obtain ⟨o', e'⟩ := hb
      rw [n, e'] at h
      cases h
    · rw [x l o e n] at h
      cases h
/-- e.f = value, the heap behind it by what is true of it -/
def sFldE (K : PySem.W.Frag) (ta tv : TE) (f : Str) : TS := fun D σ H => tv σ H fun y H1 => ta σ H1 fun x H2 => ∃ a C dx fs fs', x = .ref a ∧ H2 a = some (.ins C dx fs) ∧ Cls K C ∧ NoAttr K C f ∧ fs.length < 1000 ∧ putF f y fs = fs' ∧
  ∀ H', H' a = some (.ins C dx fs') → SameB a H2 H' → D.nx σ H'
def sFldAugE (K : PySem.W.Frag) (ta tv : TE) (rd : V → V → Hp → VK → Prop) (f : Str) : TS := fun D σ H => ta σ H fun x H1 => ∃ a C dx fs v, x = .ref a ∧ H1 a = some (.ins C dx fs) ∧ Cls K C ∧ NoAttr K C f ∧ fs.lookup f = some v ∧
  tv σ H1 fun y H2 => rd v y H2 fun z H3 => ∃ dx' fs' fs'', H3 a = some (.ins C dx' fs') ∧ fs'.length < 1000 ∧ putF f z fs' = fs'' ∧ ∀ H', H' a = some (.ins C dx' fs'') → SameB a H3 H' → D.nx σ H'
section
variable {X : Cx} {o e value : Expr} {f : Str} {pos pos' tpos : Pos} {ta tv : TE}
theorem PE.weak {ta ta' : TE} (h : PE X e ta) (i : ∀ σ H Q, ta' σ H Q → ta σ H Q) : PE X e ta' := fun pins s σ H Q I q => h pins s σ H Q I (i σ H Q q)
theorem ps_fldE (ha : PE X o ta) (hv : PE X value tv) (hs : swapsWith value (some (.Attribute o f pos')) pos.line X.env = pure false) : PS X (.Assign [.Attribute o f pos'] value pos) (sFldE X.K ta tv f) := by
  intro pins s σ H D I h
  refine plainObj_wpAny_Assign_Attribute (thn (hv pins s σ H _ I h) fun u s1 ⟨y, H1, I1, ry, q⟩ => thn (ha pins s1 σ H1 _ I1 q) fun ov s2 ⟨x, H2, I2, rx, a, C, dx, fs, fs', ex, ea, c, n, l, ep, q2⟩ => ?_) hs
  subst ex
  obtain rfl : ov = Value.ref a := rx
  refine setattr_ok I2 ea c n l ry fun s3 I3 => ⟨σ, _, I3, q2 _ ?_ SameB.upd⟩
  rw [upd_same, ep]
theorem ps_fldaugE {op : Operator} {rd : V → V → Hp → VK → Prop} (ha : PE X o ta) (hv : PE X value tv) (hop : InOp X op rd) : PS X (.AugAssign (.Attribute o f tpos) op value pos) (sFldAugE X.K ta tv rd f) := by
  intro pins s σ H D I h
  refine wpAny_AugAssign_AttributeAny (thn (ha pins s σ H _ I h) fun ov s1 ⟨x, H1, I1, rx, a, C, dx, fs, v, ex, ea, c, n, l, q⟩ => ?_)
  subst ex
  obtain rfl : ov = Value.ref a := rx
  refine getattr_ok I1 ea c n l fun u s2 I2 ru => thn (hv pins s2 σ H1 _ I2 q) fun w3 s3 ⟨y, H2, I3, ry, q3⟩ => thn (hop pins s3 σ H2 v y u w3 _ I3 ru ry q3) fun w4 s4 ⟨z, H3, I4, rz, dx', fs', fs'', ea', l', ep, q4⟩ => ?_
  refine setattr_ok I4 ea' c n l' rz fun s5 I5 => ⟨σ, _, I5, q4 _ ?_ SameB.upd⟩
  rw [upd_same, ep]
end
end L2
namespace L2
open PySem PySem.Spec PyProof.Rows
theorem PS.weak {X : Cx} {s : Stmt} {t t' : TS} (h : PS X s t) (i : ∀ D σ H, t' D σ H → t D σ H) : PS X s t' := fun pins sh σ H D I q => h pins sh σ H D I (i D σ H q)
end L2
/-! ### rules that name the text's facts, within a comprehension -/
namespace L2
open PySem PySem.Spec PyProof.Rows
section
variable {X : Cx} {K : PySem.W.Frag}
theorem ix_tupK (h : X.K = K) : IxR X (rIxT K) := h ▸ ix_tup
theorem ix_listK (h : X.K = K) : IxR X (rIxL K) := h ▸ ix_list
theorem op_in_seqK (h : X.K = K) : OpR X (compareOp .In) (rIn K false) := h ▸ op_in_seq
theorem op_notIn_seqK (h : X.K = K) : OpR X (compareOp .NotIn) (rIn K true) := h ▸ op_notIn_seq
theorem pe_fldK {e : Expr} {f : Str} {pos : Pos} {ta : TE} (h : X.K = K) (he : PE X e ta) (hb : attributeBase e f X.env (eval e X.env) = eval e X.env) : PE X (.Attribute e f pos) (tFld K ta f) := h ▸ pe_fld he hb
end
end L2

set_option Elab.async false
set_option linter.all false
set_option maxRecDepth 100000
set_option maxHeartbeats 4000000
namespace PySem
open Sem (wp)
section
variable {prog : Program} {w : World} {A : Around} {E : Value → Shared → Prop} {s : Shared}
theorem wpAny_collect_range {Q : List Value → Shared → Prop} {r : Addr} {a b c : Int} {t u v : Tok} {n : Nat} (hh : A.handled = none) (hr : IsRange s.heap r a b c t u v) (hsmall : Builtin.Range.small a b c = true)
    (hn : Builtin.Range.rangeSize a b c = n) (hlen : n ≤ 2 ^ 24)
    (hQ : ∀ h' tk (acc : Array Value), (∀ b o, s.heap.get? b = some o → h'.get? b = some o) → ItemsOf (fun i v => ∃ t, v = .int (a + i * c) t) acc n → Q acc.toList { s with heap := h', toks := tk }) :
    wpAny (model prog w) A (collect (.ref r)) Q E s := by
  unfold collect
  refine wpAny_bind (wpAny_runValue (codeAny_builtin F.entry_proto_collect ?_))
  rw [Around.under_plainId F.plain_proto_collect _]
  show wpAny _ A.in1 (newList [] >>= fun l => again (.builtin "list.__iadd__" ⟨[l, .ref r], []⟩)) _ _ s
  refine wpAny_bind (wpAny_newObj_type ?_)
  refine wpAny_pure ⟨plainId_quiet F.plain_list_iadd _, codeAny_builtin F.entry_list_iadd ?_⟩
  rw [Around.under_plainId F.plain_list_iadd _]
  show wpAny _ A.in1 (Builtin.List.listExtendWith (.ref s.heap.objs.size) (.ref r) (.ref s.heap.objs.size)) _ _ _
  have hS : (s.heap.push { cls := .type "list", data := .seq ([] : List Value).toArray }).get? s.heap.objs.size = some { cls := .type "list", data := .seq #[] } := Heap.get?_push_size _ rfl
  have fin : ∀ (h' : Heap) (tk : Nat) (acc' : Array Value) (c' : Nat), (∀ b o, b ≠ s.heap.objs.size → (s.heap.push { cls := .type "list", data := .seq ([] : List Value).toArray }).get? b = some o → h'.get? b = some o) →
      h'.get? s.heap.objs.size = some { cls := .type "list", dict := none, data := .seq acc' c', slots := #[] } → ItemsOf (fun i v => ∃ t, v = .int (a + i * c) t) acc' n →
      wpAny (model prog w) A (do let o ← load s.heap.objs.size; match o.data with | .seq xs _ => pure xs.toList | _ => unsupported "internal:collect") Q E { s with heap := h', toks := tk } := fun h' tk acc' c' hk hS' hacc => by
    refine wpAny_bind (wpAny_load hS' ?_)
    exact wpAny_pure (hQ h' tk acc' (fun b o e => hk b o (Nat.ne_of_lt (Heap.lt_size e)) (Heap.get?_push_of_some _ e)) hacc)
  refine wpAny_mono (wpAny_extend_range (R := fun r s' => r = .ok (.ret (.ref s.heap.objs.size)) ∧ wpAny (model prog w) A (do let o ← load s.heap.objs.size; match o.data with | .seq xs _ => pure xs.toList | _ => unsupported "internal:collect") Q E s')
    (s := { s with heap := s.heap.push { cls := .type "list", data := .seq ([] : List Value).toArray } }) hh (Heap.get?_push_of_some _ hr) hsmall hn hlen s.heap.objs.size (.ref s.heap.objs.size) 0 hS fun h' tk acc' c' hk hS' hacc => ⟨rfl, fin h' tk acc' c' hk hS' hacc⟩) (fun f s' hf => ?_) (fun e s' hf => ?_)
  · cases f with
    | done f =>
      obtain ⟨e, hf2⟩ := (show Except.ok f = _ ∧ _ from hf)
      cases e
      exact hf2
    | again c' =>
      obtain ⟨hq, hf2⟩ := (show c'.quiet = true ∧ _ from hf)
      refine ⟨hq, codeAny_mono hf2 fun r s' hr => ?_⟩
      obtain ⟨e, hr2⟩ := hr
      cases e
      exact hr2
  · obtain ⟨e, _⟩ := (show Except.error e = _ ∧ _ from hf)
    cases e
theorem meets_tuple_new_range (r : Addr) (a b c : Int) (t u v : Tok) (n : Nat) (hsmall : Builtin.Range.small a b c = true) (hn : Builtin.Range.rangeSize a b c = n) (hlen : n ≤ 2 ^ 24) (hsz : n ≤ sizeLine) :
    Meets (Builtin.«tuple.__new__» ⟨[.type "tuple", .ref r], []⟩)
      (fun A R s => A.handled = none ∧ IsRange s.heap r a b c t u v ∧ ∀ (h' : Heap) (tk : Nat) (acc : Array Value), (∀ b o, s.heap.get? b = some o → h'.get? b = some o) → ItemsOf (fun i v => ∃ t, v = .int (a + i * c) t) acc n →
        R (.ok (.ret (.ref h'.objs.size))) { s with heap := h'.push { cls := .type "tuple", data := .seq acc }, toks := tk }) :=
  .of_wp fun prog w A R s h => by
    obtain ⟨hh, hr, h⟩ := h
    have hsub := sub_tuple_self
    have hinit := init_tuple_lookup
    have hmh := madeHere_tuple
    have hT : s.TypeIs (.ref r) "range" := ⟨_, hr, rfl⟩
    have hh1 : A.in1.handled = none := hh
    wp_walk using wpAny_typeOf hT, wpAny_collect_range hh1 hr hsmall hn hlen
    intro h' tk acc hk hacc
    show wpAny _ _ (Builtin.Tuple.tupleExact acc.toList.toArray >>= fun v => ret v) _ _ _
    unfold Builtin.Tuple.tupleExact
    refine wpAny_bind (wpAny_newObj_type ?_ (show acc.toList.toArray.size ≤ sizeLine by simp only [Array.toArray_toList]; rw [hacc.1]; exact hsz))
    refine wpAny_pure ⟨_, rfl, ?_⟩
    have e : acc.toList.toArray = acc := by simp
    rw [e]
    exact h h' tk acc hk hacc
theorem call_tuple_range {Q : Value → Shared → Prop} {r : Addr} {a b c : Int} {t u v : Tok} {n : Nat} (hh : A.handled = none) (hr : IsRange s.heap r a b c t u v) (hsmall : Builtin.Range.small a b c = true)
    (hn : Builtin.Range.rangeSize a b c = n) (hlen : n ≤ 2 ^ 24) (hsz : n ≤ sizeLine)
    (h : ∀ (h' : Heap) (tk : Nat) (acc : Array Value), (∀ b o, s.heap.get? b = some o → h'.get? b = some o) → ItemsOf (fun i v => ∃ t, v = .int (a + i * c) t) acc n → Q (.ref h'.objs.size) { s with heap := h'.push { cls := .type "tuple", data := .seq acc }, toks := tk }) :
    wpAny (model prog w) A (call (.type "tuple") [.ref r]) Q E s := by
  refine callType_new F.called_tuple (by decide) (F.typeCall_tuple_1 _) (F.newCall_tuple_1 _) (fun obj => F.args_object_init_2 obj _) F.entry_tuple_new
    (meets_tuple_new_range r a b c t u v n hsmall hn hlen hsz) ⟨hh, hr, fun h' tk acc hk hacc => ⟨⟨_, Heap.get?_push_size _ rfl, rfl⟩, ?_⟩⟩
  exact h h' tk acc hk hacc
theorem draw_list {it t : Addr} {items : Array Value} (hne : t ≠ it) : ∀ (n i : Nat) (s : Shared) (Q : List Value → Shared → Prop), s.heap.IsListIter it t i → s.heap.IsList t items → i + n ≤ items.size →
    (∀ h', h'.IsListIter it t (i + n) → Heap.SameBut it s.heap h' → Q ((items.toList.drop i).take n) { s with heap := h' }) → wpAny (model prog w) A (draw (.ref it) n) Q E s
  | 0, i, s, Q, hit, _, _, hQ => by
    show wpAny _ _ (pure []) Q E s
    exact wpAny_pure (by simpa using hQ s.heap hit (Heap.SameBut.refl ..))
  | n + 1, i, s, Q, hit, ht, hle, hQ => by
    have hlt : i < items.size := by omega
    show wpAny _ _ (pyNext (.ref it) >>= _) Q E s
    refine wpAny_bind (wpAny_pyNext_list_item hit ht (x := items[i]) (by simp [hlt]) fun h₁ hit₁ hs₁ => ?_)
    refine wpAny_bind (wpAny_holding (draw_list hne n (i + 1) _ _ hit₁ (ht.at fun o e => (hs₁.2 t hne).trans e) (by omega) fun h₂ hit₂ hs₂ => wpAny_pure ?_))
    have hd : items.toList.drop i = items[i] :: items.toList.drop (i + 1) := by simp [List.drop_eq_getElem_cons, hlt]
    have := hQ h₂ (by rw [show i + (n + 1) = i + 1 + n by omega]; exact hit₂) (hs₁.trans hs₂)
    rw [hd, List.take_succ_cons] at this
    exact this
theorem unpackItems_list {t : Addr} {items : Array Value} {Q : List Value → Shared → Prop} (hh : A.handled = none) (ht : s.heap.IsList t items)
    (hQ : ∀ h', Heap.ExtBut s.heap.objs.size s.heap h' → Q items.toList { s with heap := h' }) : wpAny (model prog w) A (unpackItems (.ref t) items.size none) Q E s := by
  have hlt : t ≠ s.heap.objs.size := by obtain ⟨o, ho, _⟩ := ht; exact Nat.ne_of_lt (Heap.lt_size ho)
  unfold unpackItems
  refine wpAny_bind ?_
  · unfold notIterableAtAll
    refine wpAny_bind (wpAny_specialOf ht.typeIs slot_list_iter.lookup ?_)
    refine wpAny_pure ?_
    simp only [Bool.false_eq_true, if_false]
    refine wpAny_bind (wpAny_holding (wpAny_pyIter_list ht ?_))
    refine wpAny_bind (wpAny_holding (draw_list hlt items.size 0 _ _ ⟨_, Heap.get?_push_size _ rfl, rfl, rfl⟩ (ht.at fun o e => Heap.get?_push_of_some _ e) (by omega) fun h₁ hit₁ hs₁ => ?_))
    have hall : List.take items.size (List.drop 0 items.toList) = items.toList := by
      rw [List.drop_zero]; exact List.take_of_length_le (by simp)
    rw [hall]
    rw [if_neg (by simp)]
    have ht₁ : h₁.IsList t items := (ht.at fun o e => Heap.get?_push_of_some _ e).at fun o e => (hs₁.2 t hlt).trans e
    refine wpAny_bind (wpAny_holding (wpAny_pyNext_list_end hh hit₁ ht₁ (by simp) fun h₂ he₂ => ?_))
    simp only [Option.isSome_none, Bool.false_eq_true, if_false]
    refine wpAny_pure (hQ h₂ fun b o hb e => he₂ b o hb (hs₁.extBut b o hb (Heap.get?_push_of_some _ e)))
end
end PySem
namespace L2
open PySem PySem.Spec PyProof.Rows
section
variable {X : Cx} {pos : Pos}
/-- a, b, .. = a list of that length -/
def gTupL (K : PySem.W.Frag) (n : Nat) (t : TGs) : TG := fun v σ H Q => ∃ a xs, v = .ref a ∧ SqL K H a xs ∧ xs.length = n ∧ t xs σ H Q
theorem pg_tupL {es : List Expr} {k : Nat} {t : TGs} {n : Nat} (hc : X.calm = true) (h : PGs X es t)
    (hn : (assignEach es X.env).length = n := by rfl) (hst : (assignEach es X.env).findIdx? (·.1) = none := by rfl) : PG X (.Tuple es k pos) (gTupL X.K n t) := by
  intro pins s σ H v u Q I r hw
  obtain ⟨a, xs, e1, hq, hl, hw⟩ := hw
  subst e1
  cases r
  obtain ⟨its, rv, ht, hz⟩ := I.list hq
  rw [assign_Tuple]
  refine wpAny_bind (wpAny_standAt ?_)
  unfold unpack
  rw [hst, hn, show n = its.toArray.size by simp [← hl, rv.length]]
  refine wpAny_bind (wpAny_holding (unpackItems_list (I.ok.hd hc) ht.isList fun h' hx => ?_))
  have I1 : Inv X pins σ H { s with heap := h' } := I.kept (t' := s.toks) fun b o e => hx b o (Nat.ne_of_lt (Heap.lt_size e)) e
  exact h pins _ σ H xs _ Q I1 (by simpa using rv) hw
theorem call_min1 (hc : X.calm = true) : CallR X (.builtin "min") (fun xs H Q => ∃ (p : Addr) (ns : List Int), xs = [.ref p] ∧ SqL X.K H p (ns.map V.int) ∧ 0 < ns.length ∧ ∀ M, M ∈ ns → (∀ a, a ∈ ns → M ≤ a) → Q (.int M) H) := by
  intro pins s σ H xs us Q I r h
  obtain ⟨p, ns, rfl, hq, hne, q⟩ := h
  obtain ⟨u, rfl, rx⟩ := vals1 r
  cases rx
  obtain ⟨its, rv, pl, hz⟩ := I.list hq
  have hi : IntsAre its ns := intsAre_of rv
  obtain ⟨zs, e⟩ := hi.allInts.items
  have hl := pl.isList
  rw [e] at hl
  have hns : ns = zs.toList.map (·.1) := by rw [← hi.numsOf, ← nums_intItems, ← e]
  have hsz : 0 < zs.size := by
    have h3 := hne
    rw [hns, List.length_map, Array.length_toList] at h3
    exact h3
  refine min_intList (I.ok.hd hc) hl hsz fun v h' tk hv hk => ?_
  obtain ⟨t, rfl⟩ := intItems_at hv
  obtain ⟨_, h2⟩ := argBest_lt (numAt zs) (zs.size - 1)
  refine ⟨.int _, H, I.kept hk, ⟨t, rfl⟩, q _ ?_ fun a ha => ?_⟩
  · rw [hns, numAt_eq]
    exact getD_mem (by rw [List.length_map, Array.length_toList]; have := (argBest_lt (numAt zs) (zs.size - 1)).1; omega)
  · rw [hns] at ha
    obtain ⟨j, hj, rfl⟩ := mem_getD ha
    rw [List.length_map, Array.length_toList] at hj
    rw [← numAt_eq]
    exact h2 j (by omega)
/-- tuple(range(a, b)) -/
def tTupRange (ta : TA) : TE := fun σ H Q => ta σ H fun vs H1 => ∃ i j : Int, vs = [.int i, .int j] ∧ (-(2 ^ 62) ≤ i ∧ i < 2 ^ 62 ∧ -(2 ^ 62) ≤ j ∧ j < 2 ^ 62) ∧ (j - i).toNat ≤ 1000 ∧ ∀ p, H1 p = none → Q (.ref p) (upd H1 p (.tup ((List.range (j - i).toNat).map fun k : Nat => V.int (i + k))))
theorem vals_items {i : Int} {n : Nat} {acc : Array Value} (h : ItemsOf (fun k v => ∃ t, v = .int (i + k * 1) t) acc n) : Vals ((List.range n).map fun k : Nat => V.int (i + k)) acc.toList := by
  have key : ∀ (us : List Value) (m : Nat), (∀ k v, us[k]? = some v → ∃ t, v = Value.int (i + ((m + k : Nat) : Int)) t) → Vals ((List.range' m us.length).map fun k : Nat => V.int (i + k)) us := by
    intro us
    induction us with
    | nil => intro m _; exact .nil
    | cons u r ih =>
      intro m hu
      rw [List.length_cons, List.range'_succ, List.map_cons]
      refine .cons (hu 0 u rfl) (ih (m + 1) fun k v hv => ?_)
      have := hu (k + 1) v (by simpa using hv)
      rw [show m + 1 + k = m + (k + 1) by omega]
      exact this
  have e : acc.toList.length = n := by rw [Array.length_toList]; exact h.1
  rw [List.range_eq_range', ← e]
  refine key acc.toList 0 fun k v hv => ?_
  obtain ⟨t, rfl⟩ := h.2 k v (by simpa using hv)
  exact ⟨t, by rw [Int.mul_one, Nat.zero_add]⟩
theorem pe_tuprange2 {a b : Expr} {ta : TA} {p q pos pos2 : Pos} (hc : X.calm = true) (hgt : Gl X "tuple") (hmt : X.mg "tuple" = none) (hg : Gl X "range") (hm : X.mg "range" = none) (ha : PA X [a, b] ta)
    (hs : starEach [a, b] X.env = [(false, eval a X.env), (false, eval b X.env)] := by rfl) (hs2 : starEach [b] X.env = [(false, eval b X.env)] := by rfl)
    (hs0 : starEach [.Call (.Name "range" p) [a, b] [] pos] X.env = [(false, eval (.Call (.Name "range" p) [a, b] [] pos) X.env)] := by rfl) :
    PE X (.Call (.Name "tuple" q) [.Call (.Name "range" p) [a, b] [] pos] [] pos2) (tTupRange ta) := by
  intro pins s σ H Q I h
  have inner : wpAny (model X.prog X.w) X.A (eval (.Call (.Name "range" p) [a, b] [] pos) X.env) (fun v s1 => ∃ (H1 : Hp) (i j : Int) (r : Addr) (t u w : Tok), v = .ref r ∧ Inv X pins σ H1 s1 ∧ IsRange s1.heap r i j 1 t u w ∧ (-(2 ^ 62) ≤ i ∧ i < 2 ^ 62 ∧ -(2 ^ 62) ≤ j ∧ j < 2 ^ 62) ∧ (j - i).toNat ≤ 1000 ∧
      ∀ p, H1 p = none → Q (.ref p) (upd H1 p (.tup ((List.range (j - i).toNat).map fun k : Nat => V.int (i + k))))) X.xe s := by
    refine Call_ (ld_blt I hg hm boot_range (PyProof.Rows.callWith_type1 (thn (ha pos pins s σ H _ I h) fun us s1 ⟨vs, H1, I1, r1, q1⟩ => ?_) (by rw [hs, hs2]) (by rw [hs2]; rfl)))
    obtain ⟨i, j, e, hb, hn, q⟩ := q1
    subst e
    cases r1 with
    | cons r rr =>
      cases rr with
      | cons r' rr =>
        cases rr
        obtain ⟨t, rfl⟩ := r
        obtain ⟨t', rfl⟩ := r'
        refine call_range_2 ⟨H1, i, j, _, t, t', _, rfl, I1.kept (t' := s1.toks + 1) fun b o e => Heap.get?_push_of_some _ e, IsRange.new .., hb, hn, q⟩
  refine Call_ (ld_blt I hgt hmt (u := .type "tuple") (by decide +kernel) (PyProof.Rows.callWith_type1 (Q := EP X pins σ Q) ?_ hs0 rfl))
  rw [hs0]
  show wpAny _ _ (spliced ((false, eval (.Call (.Name "range" p) [a, b] [] pos) X.env) :: backTo pos2 [])) _ _ s
  refine Calls.spliced_cons (thn inner fun v s1 ⟨H1, i, j, r, t, u, w, e, I1, hr, ⟨b1, b2, b3, b4⟩, hn, q⟩ => ?_)
  subst e
  refine Calls.spliced_nil ?_
  have hrs : Builtin.Range.rangeSize i j 1 = (((j - i).toNat : Nat) : Int) := by rw [rangeSize_one]; split <;> omega
  refine call_tuple_range (I1.ok.hd hc) hr (small_one b1 b2 b3 b4) hrs (by omega) (Nat.le_of_lt (small1000 hn)) fun h' tk acc hk hacc => ?_
  have I2 : Inv X pins σ H1 { s1 with heap := h', toks := tk } := I1.kept hk
  have rv := vals_items hacc
  have I3 : Inv X pins σ (upd H1 h'.objs.size (.tup ((List.range (j - i).toNat).map fun k : Nat => V.int (i + k)))) { s1 with heap := h'.push { cls := .type "tuple", data := .seq acc }, toks := tk } :=
    I2.laid (t' := tk) (fun b o e => Heap.get?_push_of_some _ e) (Nat.le_refl _) (show ObjOk X.prog X.w _ _ _ (.tup _) from ⟨by rw [List.length_map, List.length_range]; exact Nat.le_of_lt (small1000 hn), acc.toList, rv, by
      have := IsTup.new h' acc
      simpa using this⟩)
  exact ⟨.ref h'.objs.size, _, I3, rfl, q _ (I2.hok.fresh (Nat.le_refl _))⟩
end
end L2
/-! ### a row of objects that stand in the heap, none twice -/
namespace L2
open PySem PySem.Spec PyProof.Rows
theorem nodup_set {α : Type} : ∀ {l : List α} {i : Nat} {a : α}, l.Nodup → a ∉ l → (l.set i a).Nodup
  | [], _, _, h, _ => by simpa using h
  | x :: r, 0, a, h, n => by
    rw [List.nodup_cons] at h
    rw [List.set_cons_zero, List.nodup_cons]
    exact ⟨fun z => n (List.mem_cons_of_mem _ z), h.2⟩
  | x :: r, i + 1, a, h, n => by
    rw [List.nodup_cons] at h
    rw [List.set_cons_succ, List.nodup_cons]
    refine ⟨fun z => ?_, nodup_set h.2 fun z => n (List.mem_cons_of_mem _ z)⟩
    rcases List.mem_or_eq_of_mem_set z with z | z
    · exact h.1 z
    · exact n (z ▸ List.mem_cons_self)
structure Has (H : Hp) (l : List (Addr × HO)) : Prop where
  nd : (l.map (·.1)).Nodup
  at_ : ∀ x ∈ l, H x.1 = some x.2
theorem Has.get {H : Hp} {l : List (Addr × HO)} (h : Has H l) {i : Nat} {a : Addr} {o : HO} (e : l[i]? = some (a, o)) : H a = some o := h.at_ (a, o) (List.mem_of_getElem? e)
theorem Has.same {H H' : Hp} {l : List (Addr × HO)} (h : Has H l) (s : Same H H') : Has H' l := ⟨h.nd, fun x hx => s _ _ (h.at_ x hx)⟩
theorem Has.sameB {H H' : Hp} {l : List (Addr × HO)} {b : Addr} (h : Has H l) (s : SameB b H H') (n : b ∉ l.map (·.1)) : Has H' l := ⟨h.nd, fun x hx => s _ _ (h.at_ x hx) fun z => n (z ▸ List.mem_map.mpr ⟨x, hx, rfl⟩)⟩
theorem Has.notin {H : Hp} {l : List (Addr × HO)} {a : Addr} (h : Has H l) (e : H a = none) : a ∉ l.map (·.1) := fun z => by
  obtain ⟨x, hx, rfl⟩ := List.mem_map.mp z
  rw [h.at_ x hx] at e
  cases e
theorem map_set {l : List (Addr × HO)} {i : Nat} {a : Addr} {o : HO} : (l.set i (a, o)).map (·.1) = (l.map (·.1)).set i a := by rw [List.map_set]
theorem Has.set {H H' : Hp} {l : List (Addr × HO)} (h : Has H l) (i : Nat) {a : Addr} {o o' : HO} (e : l[i]? = some (a, o)) (s : SameB a H H') (e' : H' a = some o') : Has H' (l.set i (a, o')) := by
  have em : (l.map (·.1))[i]? = some a := by rw [List.getElem?_map, e]; rfl
  have hi := (List.getElem?_eq_some_iff.mp e).1
  refine ⟨?_, fun x hx => ?_⟩
  · rw [map_set]
    have : (l.map (·.1)).set i a = l.map (·.1) := by
      obtain ⟨h1, h2⟩ := List.getElem?_eq_some_iff.mp em
      rw [← h2]
      exact List.set_getElem_self h1
    rw [this]
    exact h.nd
  · obtain ⟨j, hj, ex⟩ := List.mem_iff_getElem.mp hx
    rw [List.getElem_set] at ex
    by_cases q : i = j
    · rw [if_pos q] at ex
      subst ex
      exact e'
    · rw [if_neg q] at ex
      have hj' : j < l.length := by simpa using hj
      have hm : x ∈ l := ex ▸ List.getElem_mem hj'
      refine s _ _ (h.at_ x hm) fun z => q ?_
      have ej : (l.map (·.1))[j]? = some a := by rw [List.getElem?_map, List.getElem?_eq_getElem hj']; rw [← z, ← ex]; rfl
      obtain ⟨h1, h2⟩ := List.getElem?_eq_some_iff.mp em
      obtain ⟨h3, h4⟩ := List.getElem?_eq_some_iff.mp ej
      exact (List.getElem_inj h.nd).mp (h2.trans h4.symm)
theorem Has.put {H : Hp} {l : List (Addr × HO)} (h : Has H l) (i : Nat) {a : Addr} {o : HO} (n : a ∉ l.map (·.1)) (e : H a = some o) : Has H (l.set i (a, o)) := by
  refine ⟨by rw [map_set]; exact nodup_set h.nd n, fun x hx => ?_⟩
  rcases List.mem_or_eq_of_mem_set hx with z | z
  · exact h.at_ x z
  · rw [z]; exact e
theorem Has.new {H H' : Hp} {l : List (Addr × HO)} {a : Addr} {o : HO} (h : Has H l) (n : H a = none) (s : Same H H') (e : H' a = some o) : Has H' (l ++ [(a, o)]) := by
  refine ⟨?_, fun x hx => ?_⟩
  · rw [List.map_append, List.nodup_append]
    refine ⟨h.nd, by simp, fun x hx y hy z => ?_⟩
    have : y = a := by simpa using hy
    subst this
    exact h.notin n (z ▸ hx)
  · rcases List.mem_append.mp hx with z | z
    · exact s _ _ (h.at_ x z)
    · have : x = (a, o) := by simpa using z
      subst this
      exact e
theorem Has.nil (H : Hp) : Has H [] := ⟨List.nodup_nil, fun x hx => by cases hx⟩
theorem Has.ne {H : Hp} {l : List (Addr × HO)} (h : Has H l) {i j : Nat} {a b : Addr} {o p : HO} (e : l[i]? = some (a, o)) (e' : l[j]? = some (b, p)) (n : i ≠ j) : a ≠ b := fun z => by
  have ea : (l.map (·.1))[i]? = some a := by rw [List.getElem?_map, e]; rfl
  have eb : (l.map (·.1))[j]? = some a := by rw [List.getElem?_map, e', z]; rfl
  obtain ⟨h1, h2⟩ := List.getElem?_eq_some_iff.mp ea
  obtain ⟨h3, h4⟩ := List.getElem?_eq_some_iff.mp eb
  exact n ((List.getElem_inj h.nd).mp (h2.trans h4.symm))
theorem Same.stepB {H0 H H' : Hp} {a : Addr} (s : Same H0 H) (b : SameB a H H') (f : H0 a = none) : Same H0 H' := fun c o e => b _ _ (s _ _ e) fun z => by rw [z, f] at e; cases e
end L2

set_option Elab.async false
set_option linter.all false
set_option maxRecDepth 100000
set_option maxHeartbeats 4000000
namespace K21
open PySem L2
def top (i : Nat) : Stmt := PySem.Challenge.pw_warnloop_k21_whole_warnings_name_askings.main.body.getD i (.Pass ⟨0, 0, 0, 0⟩)
theorem bt_isinstance : bootBuiltins "isinstance" = some (.builtin "isinstance") := by decide +kernel
theorem bt_int : bootBuiltins "int" = some (.type "int") := by decide +kernel
theorem bt_bool : bootBuiltins "bool" = some (.type "bool") := by decide +kernel
theorem bt_tuple : bootBuiltins "tuple" = some (.type "tuple") := by decide +kernel
theorem bt_list : bootBuiltins "list" = some (.type "list") := by decide +kernel
theorem bt_str : bootBuiltins "str" = some (.type "str") := by decide +kernel
theorem bt_len : bootBuiltins "len" = some (.builtin "len") := by decide +kernel
theorem bt_all : bootBuiltins "all" = some (.builtin "all") := by decide +kernel
theorem bt_abs : bootBuiltins "abs" = some (.builtin "abs") := by decide +kernel
theorem bt_max : bootBuiltins "max" = some (.builtin "max") := by decide +kernel
theorem bt_min : bootBuiltins "min" = some (.builtin "min") := by decide +kernel
/-- the built-in names that the text does not bind -/
structure Nm (mg : Str → Option Value) : Prop where
  isinstance : mg "isinstance" = none
  int : mg "int" = none
  bool : mg "bool" = none
  tuple : mg "tuple" = none
  list : mg "list" = none
  str : mg "str" = none
  len : mg "len" = none
  all : mg "all" = none
  abs : mg "abs" = none
  max : mg "max" = none
  min : mg "min" = none
  range : mg "range" = none
abbrev s_l_bag : Stmt := top 6
abbrev p_l_bag : List Str := ["_law_script", "_law_k"]
theorem sc_l_bag : FnScope ["_law_script", "_law_k", "_law_cell"] p_l_bag (defScope s_l_bag) := ⟨rfl, rfl, rfl, by decide +kernel, rfl, by decide +kernel, by decide +kernel⟩
abbrev s_l_take : Stmt := top 7
abbrev p_l_take : List Str := ["_law_bag_here", "_law_many"]
theorem sc_l_take : FnScope ["_law_bag_here", "_law_many", "_law_digit", "_law_primes", "_law_step", "_law_base", "_law_found"] p_l_take (defScope s_l_take) := ⟨rfl, rfl, rfl, by decide +kernel, rfl, by decide +kernel, by decide +kernel⟩
abbrev s_l_whole : Stmt := top 8
abbrev p_l_whole : List Str := ["_law_thing"]
theorem sc_l_whole : FnScope ["_law_thing"] p_l_whole (defScope s_l_whole) := ⟨rfl, rfl, rfl, by decide +kernel, rfl, by decide +kernel, by decide +kernel⟩
theorem isW_eq (v : V) : isW v = (isI v && !isB v) := by cases v <;> rfl
def spWhole : Sp := fun vs H Q _ => ∃ v, vs = [v] ∧ Kn H v ∧ Q (.bl (isW v)) H
/-- a bag of draws: three whole numbers, the last one (how often it was drawn by the second) at most n -/
def BagAt (H : Hp) (b : Addr) (n : Nat) : Prop := ∃ x y z : Int, H b = some (.lst [.int x, .int y, .int z]) ∧ 0 ≤ x ∧ 0 ≤ y ∧ y ≤ 4294967296 ∧ 0 ≤ z ∧ z ≤ n
theorem BagAt.same {H H' : Hp} {b : Addr} {n : Nat} (h : BagAt H b n) (s : Same H H') : BagAt H' b n := by
  obtain ⟨x, y, z, e, r⟩ := h
  exact ⟨x, y, z, s _ _ e, r⟩
theorem BagAt.mono {H : Hp} {b : Addr} {n m : Nat} (h : BagAt H b n) (l : n ≤ m) : BagAt H b m := by
  obtain ⟨x, y, z, e, h1, h2, h3, h4, h5⟩ := h
  exact ⟨x, y, z, e, h1, h2, h3, h4, by omega⟩
def spBag (K : PySem.W.Frag) : Sp := fun vs H Q _ => ∃ (a : Addr) (ns : List Int) (k : Int), vs = [.ref a, .int k] ∧ SqL K H a (ns.map V.int) ∧ ns.length ≤ 63 ∧ 0 ≤ k ∧ k ≤ 100 ∧ ∀ p o, H p = none → BagAt (upd H p o) p 0 → Q (.ref p) (upd H p o)
def spTake : Sp := fun vs H Q _ => ∃ (b : Addr) (n : Nat) (m : Int), vs = [.ref b, .int m] ∧ BagAt H b n ∧ n ≤ 10000 ∧ 0 < m ∧ m < 1073741824 ∧ ∀ r H', 0 ≤ r → r < m → BagAt H' b (n + 1) → SameB b H H' → Q (.int r) H'
def spLaw (K : PySem.W.Frag) : Sp := fun vs H Q _ => ∃ (a : Addr) (ns : List Int), vs = [.ref a] ∧ SqL K H a (ns.map V.int) ∧ ns.length ≤ 63 ∧ ∀ H', Q (.bl true) H'
theorem at7 {i : Int} (h0 : 0 ≤ i) (h7 : i < 7) {a b c d e f g : Int} (P : Int → Prop) (ha : P a) (hb : P b) (hc : P c) (hd : P d) (he : P e) (hf : P f) (hg : P g) : ∃ p, atI [V.int a, .int b, .int c, .int d, .int e, .int f, .int g] i = some (.int p) ∧ P p := by
  have : i = 0 ∨ i = 1 ∨ i = 2 ∨ i = 3 ∨ i = 4 ∨ i = 5 ∨ i = 6 := by omega
  rcases this with rfl | rfl | rfl | rfl | rfl | rfl | rfl
  · exact ⟨_, rfl, ha⟩
  · exact ⟨_, rfl, hb⟩
  · exact ⟨_, rfl, hc⟩
  · exact ⟨_, rfl, hd⟩
  · exact ⟨_, rfl, he⟩
  · exact ⟨_, rfl, hf⟩
  · exact ⟨_, rfl, hg⟩
theorem cm01 {x : Int} {b : Bool} : CMul x (if b = true then 1 else 0) := .inr (by cases b <;> exact ⟨by decide, by decide⟩)
section
variable {P : Program} {w : World} {K : PySem.W.Frag} {mg : Str → Option Value} {base : Heap}
theorem ok_l_whole (C : Code K mg "_law_whole" s_l_whole p_l_whole) (T : Nm mg) : Good P w K mg base "_law_whole" 1 p_l_whole spWhole := by
  refine C.good sc_l_whole (fun vs H Q E h => ?_) (fun f cdv A outer s H vs Q E hr h => ?_)
  · obtain ⟨v, rfl, _⟩ := h
    rfl
  obtain ⟨v, rfl, k, q⟩ := h
  refine ⟨_, (pss_one (ps_ret (pe_and (pe_callB call_isi rfl T.isinstance bt_isinstance (pa_cons (pv 0) (pa_cons (pe_bltn (v := .ty "int") rfl T.int bt_int rfl) pa_nil))) (pe_one (pe_not (pe_callB call_isi rfl T.isinstance bt_isinstance (pa_cons (pv 0) (pa_cons (pe_bltn (v := .ty "bool") rfl T.bool bt_bool rfl) pa_nil)))))))), ?_⟩
  refine ⟨_, rfl, isi_int k ⟨_, rfl, ?_⟩⟩
  rw [isW_eq] at q
  cases e : isI v with
  | false => rw [e] at q; exact iteF q
  | true => rw [e] at q; exact iteT ⟨_, rfl, isi_bool e ⟨_, rfl, q⟩⟩
theorem ok_l_bag (C : Code K mg "_law_bag" s_l_bag p_l_bag) (T : Nm mg) : Good P w K mg base "_law_bag" 1 p_l_bag (spBag K) := by
  refine C.good sc_l_bag (fun vs H Q E h => ?_) (fun f cdv A outer s H vs Q E hr h => ?_)
  · obtain ⟨a, ns, k, rfl, _⟩ := h
    rfl
  obtain ⟨a, ns, k, rfl, hS, h63, h0, h1, q⟩ := h
  refine ⟨_, (pss_cons (ps_set (i := 2) sc_l_bag.nd rfl (Or.inl rfl) (pe_op op_add (pe_op op_add (pe_op op_mul (pe_op op_mul pe_int (pv 1)) (pv 1)) (pe_op op_mul pe_int (pv 1))) pe_int))
  (pss_cons (ps_if (pt_cmpR op_lt (pv 1) (pe_callB call_len_seq rfl T.len bt_len (pa_cons (pv 0) pa_nil)) (nomark _)) (pss_one (ps_set (i := 2) sc_l_bag.nd rfl (Or.inl rfl) (pe_ix ix_list (pv 0) (pv 1) (fun _ _ => rfl)))) pss_nil)
  (pss_one (ps_ret (pe_lst (pa_cons (pe_op op_mul (pe_callB call_abs rfl T.abs bt_abs (pa_cons (pv 2) pa_nil)) (pe_callTy call_int1 rfl T.int bt_int (pa_cons (pe_cmpR op_ge (pe_callB call_abs rfl T.abs bt_abs (pa_cons (pv 2) pa_nil)) (pe_op op_pow pe_int pe_int) (nomark _)) pa_nil))) (pa_cons (pe_op op_add (pe_op op_mod (pv 2) pe_int) (pe_op op_mul pe_int (pv 1))) (pa_cons pe_int pa_nil)))))))), ?_⟩
  refine ⟨_, rfl, _, _, rfl, rfl, .inl ⟨by decide, by decide⟩, _, rfl, _, _, rfl, rfl, .inr ⟨by omega, by omega⟩, _, rfl, _, _, rfl, rfl, .inl ⟨by decide, by decide⟩, _, _, rfl, rfl, _, _, rfl, rfl, ?_⟩
  refine ⟨_, rfl, _, rfl, a, _, rfl, .inl hS, _, _, rfl, rfl, _, rfl, ?_⟩
  have hl : (ns.map V.int).length = ns.length := List.length_map _
  have fin : ∀ (c : Int) (p : Addr), H p = none → Q (.ref p) (upd H p (.lst [.int ((if c < 0 then -c else c) * (if decide ((10 : Int) ^ (18 : Int).toNat ≤ (if c < 0 then -c else c)) = true then 1 else 0)), .int (c % 2147483647 + 37 * k), .int 0])) := fun c p hp => by
    refine q p _ hp ⟨_, _, _, upd_same, ?_, ?_, ?_, by omega, by omega⟩
    · refine Int.mul_nonneg ?_ ?_
      · split <;> omega
      · split <;> omega
    · have := Int.emod_nonneg c (show (2147483647 : Int) ≠ 0 by decide)
      omega
    · have := Int.emod_lt_of_pos c (show (0 : Int) < 2147483647 by decide)
      omega
  refine ite2 (fun c1 => ?_) (fun c1 => ?_)
  · have c' : k < (((ns.map V.int).length : Nat) : Int) := of_decide_eq_true c1
    rw [hl] at c'
    have hk : k.toNat < ns.length := by omega
    have hat : atI (ns.map V.int) ((k.toNat : Nat) : Int) = some (.int ns[k.toNat]) := atI_nat (by rw [List.getElem?_map]; simp [hk])
    rw [Int.toNat_of_nonneg h0] at hat
    refine ⟨_, rfl, _, rfl, a, _, _, _, rfl, rfl, hS, hat, ?_⟩
    exact ⟨_, rfl, _, rfl, _, rfl, _, rfl, _, _, rfl, rfl, ⟨by decide, by decide, by decide⟩, _, _, rfl, rfl, .inr ⟨_, rfl, _, _, rfl, rfl, cm01, _, rfl, _, _, rfl, rfl, (by show (0 : Int) < 2147483647; decide), _, rfl, _, _, rfl, rfl, .inl ⟨by decide, by decide⟩, _, _, rfl, rfl,
      (by show 3 ≤ sizeLine; decide), fun l hl' => fin _ l hl'⟩⟩
  · exact ⟨_, rfl, _, rfl, _, rfl, _, rfl, _, _, rfl, rfl, ⟨by decide, by decide, by decide⟩, _, _, rfl, rfl, .inr ⟨_, rfl, _, _, rfl, rfl, cm01, _, rfl, _, _, rfl, rfl, (by show (0 : Int) < 2147483647; decide), _, rfl, _, _, rfl, rfl, .inl ⟨by decide, by decide⟩, _, _, rfl, rfl,
      (by show 3 ≤ sizeLine; decide), fun l hl' => fin _ l hl'⟩⟩
theorem ok_l_take (C : Code K mg "_law_take" s_l_take p_l_take) (T : Nm mg) : Good P w K mg base "_law_take" 1 p_l_take spTake := by
  refine C.good sc_l_take (fun vs H Q E h => ?_) (fun f cdv A outer s H vs Q E hr h => ?_)
  · obtain ⟨b, n, m, rfl, _⟩ := h
    rfl
  obtain ⟨b, n, m, rfl, ⟨x, y, z, hb, x0, y0, y1, z0, z1⟩, hn, m0, m1, q⟩ := h
  refine ⟨_, (pss_cons (ps_if (pt_cmpR op_gt (pe_ix ix_list (pv 0) pe_int (fun _ _ => rfl)) pe_int (nomark _)) (pss_cons (ps_set (i := 2) sc_l_take.nd rfl (Or.inl rfl) (pe_op op_mod (pe_ix ix_list (pv 0) pe_int (fun _ _ => rfl)) (pv 1)))
  (pss_cons (ps_asg (pe_op op_fdiv (pe_ix ix_list (pv 0) pe_int (fun _ _ => rfl)) (pv 1)) (pg_sub (pv 0) pe_int set_list))
  (pss_one (ps_ret (pv 2))))) pss_nil)
  (pss_cons (ps_set (i := 3) sc_l_take.nd rfl (Or.inl rfl) (pe_tup (pa_cons pe_int (pa_cons pe_int (pa_cons pe_int (pa_cons pe_int (pa_cons pe_int (pa_cons pe_int (pa_cons pe_int pa_nil)))))))))
  (pss_cons (ps_asg (pe_op op_add (pe_ix ix_list (pv 0) pe_int (fun _ _ => rfl)) pe_int) (pg_sub (pv 0) pe_int set_list))
  (pss_cons (ps_set (i := 4) sc_l_take.nd rfl (Or.inl rfl) (pe_ix ix_list (pv 0) pe_int (fun _ _ => rfl)))
  (pss_cons (ps_set (i := 5) sc_l_take.nd rfl (Or.inl rfl) (pe_op op_add (pe_op op_add (pe_op op_mul (pe_ix ix_list (pv 0) pe_int (fun _ _ => rfl)) (pe_op op_add (pe_op op_mul pe_int (pv 4)) pe_int)) (pe_op op_mul (pe_op op_mul pe_int (pv 4)) (pv 4))) pe_int))
  (pss_cons (ps_set (i := 6) sc_l_take.nd rfl (Or.inl rfl) (pe_op op_mod (pe_op op_pow (pv 5) pe_int) (pe_ix ix_tup (pv 3) (pe_op op_mod (pv 4) pe_int) (fun _ _ => rfl))))
  (pss_one (ps_ret (pe_op op_mod (pe_op op_fdiv (pe_op op_mod (pe_op op_mul (pv 6) (pe_op op_add (pe_op op_fdiv (pv 6) pe_int) pe_int)) (pe_ix ix_tup (pv 3) (pe_op op_mod (pe_op op_add (pv 4) pe_int) pe_int) (fun _ _ => rfl))) pe_int) (pv 1)))))))))), ?_⟩
  refine ⟨_, rfl, b, _, _, _, rfl, rfl, SqL.of hb, rfl, _, _, rfl, rfl, _, rfl, ?_⟩
  refine ite2 (fun c1 => ?_) (fun c1 => ?_)
  · have c' : 0 < x := of_decide_eq_true c1
    refine ⟨_, rfl, b, _, _, _, rfl, rfl, SqL.of hb, rfl, _, rfl, _, _, rfl, rfl, m0, ?_⟩
    refine ⟨_, rfl, b, _, _, _, rfl, rfl, SqL.of hb, rfl, _, rfl, _, _, rfl, rfl, ⟨m0, m1⟩, _, rfl, b, _, _, _, rfl, rfl, hb, rfl, ?_⟩
    exact ⟨_, rfl, q _ _ (Int.emod_nonneg x (by omega)) (Int.emod_lt_of_pos x m0) ⟨x / m, y, z, upd_same, Int.ediv_nonneg x0 (by omega), y0, y1, z0, by omega⟩ SameB.upd⟩
  · refine ⟨(by show 7 ≤ sizeLine; decide), fun tp htp => ?_⟩
    have nbt : b ≠ tp := ne_of_none hb htp
    have hb1 : ∀ o, (upd H tp o) b = some (.lst [.int x, .int y, .int z]) := fun o => by rw [upd_ne nbt]; exact hb
    have ht1 : ∀ o u, (upd (upd H tp o) b u) tp = some o := fun o u => by rw [upd_ne nbt.symm, upd_same]
    refine ⟨_, rfl, b, _, _, _, rfl, rfl, SqL.of (hb1 _), rfl, _, _, rfl, rfl, _, rfl, b, _, _, _, rfl, rfl, hb1 _, rfl, ?_⟩
    refine ⟨_, rfl, b, _, _, _, rfl, rfl, SqL.of upd_same, rfl, ?_⟩
    have s0 : 0 ≤ z + 1 := by omega
    have s1 : z + 1 ≤ 10001 := by omega
    refine ⟨_, rfl, b, _, _, _, rfl, rfl, SqL.of upd_same, rfl, _, rfl, _, _, rfl, rfl, .inl ⟨by decide, by decide⟩, _, _, rfl, rfl, _, _, rfl, rfl, .inl ⟨by omega, by omega⟩, _, rfl, _, _, rfl, rfl, .inl ⟨by decide, by decide⟩, _, rfl, _, _, rfl, rfl, .inr ⟨by omega, by omega⟩,
      _, _, rfl, rfl, _, _, rfl, rfl, ?_⟩
    have hbase : (y * (2 * (z + 1) + 1) + 6007 * (z + 1) * (z + 1) + 29).natAbs < 2 ^ 64 := by
      have h1 : 0 ≤ y * (2 * (z + 1) + 1) := Int.mul_nonneg y0 (by omega)
      have h2 : y * (2 * (z + 1) + 1) ≤ 4294967296 * 20003 := Int.mul_le_mul y1 (by omega) (by omega) (by omega)
      have h3 : 0 ≤ 6007 * (z + 1) * (z + 1) := Int.mul_nonneg (by omega) s0
      have h4 : 6007 * (z + 1) * (z + 1) ≤ (6007 * 10001) * 10001 := Int.mul_le_mul (by omega) s1 s0 (by omega)
      omega
    obtain ⟨p1, e1, p10, p11⟩ := at7 (i := (z + 1) % 7) (Int.emod_nonneg _ (by decide)) (Int.emod_lt_of_pos _ (by decide)) (a := 2147483629) (b := 2147483587) (c := 2147483579) (d := 2147483563) (e := 2147483549) (f := 2147483543) (g := 2147483497)
      (fun p => 0 < p ∧ p < 2147483648) (by decide) (by decide) (by decide) (by decide) (by decide) (by decide) (by decide)
    obtain ⟨p2, e2, p20, p21⟩ := at7 (i := (z + 1 + 3) % 7) (Int.emod_nonneg _ (by decide)) (Int.emod_lt_of_pos _ (by decide)) (a := 2147483629) (b := 2147483587) (c := 2147483579) (d := 2147483563) (e := 2147483549) (f := 2147483543) (g := 2147483497)
      (fun p => 0 < p ∧ p < 2147483648) (by decide) (by decide) (by decide) (by decide) (by decide) (by decide) (by decide)
    refine ⟨_, rfl, _, _, rfl, rfl, ⟨by decide, by decide, hbase⟩, _, rfl, _, rfl, _, _, rfl, rfl, (by show (0 : Int) < 7; decide), tp, _, _, _, rfl, rfl, SqT.of (ht1 _ _), e1, _, _, rfl, rfl, p10, ?_⟩
    generalize hF : (y * (2 * (z + 1) + 1) + 6007 * (z + 1) * (z + 1) + 29) ^ (3 : Int).toNat % p1 = F
    have F0 : 0 ≤ F := by rw [← hF]; exact Int.emod_nonneg _ (by omega)
    have F1 : F < p1 := by rw [← hF]; exact Int.emod_lt_of_pos _ p10
    refine ⟨_, rfl, _, rfl, _, _, rfl, rfl, ⟨by decide, by decide⟩, _, _, rfl, rfl, _, _, rfl, rfl, .inl ⟨by omega, by omega⟩, _, rfl, _, rfl, _, _, rfl, rfl, _, _, rfl, rfl, (by show (0 : Int) < 7; decide), tp, _, _, _, rfl, rfl, SqT.of (ht1 _ _), e2, _, _, rfl, rfl, p20,
      _, _, rfl, rfl, ⟨by decide, by decide⟩, _, rfl, _, _, rfl, rfl, m0, ?_⟩
    refine q _ _ (Int.emod_nonneg _ (by omega)) (Int.emod_lt_of_pos _ m0) ⟨x, y, z + 1, upd_same, x0, y0, y1, s0, by omega⟩ fun c o e nc => ?_
    rw [upd_ne nc, upd_ne (ne_of_none e htp)]
    exact e
end
end K21

set_option Elab.async false
set_option linter.all false
set_option maxRecDepth 100000
set_option maxHeartbeats 4000000
namespace K21
open PySem L2
abbrev s_Seeker___init__ : Stmt := (inClass (top 4) 0)
abbrev p_Seeker___init__ : List Str := ["self", "marks"]
theorem sc_Seeker___init__ : FnScope ["self", "marks"] p_Seeker___init__ (defScope s_Seeker___init__) := ⟨rfl, rfl, rfl, by decide +kernel, rfl, by decide +kernel, by decide +kernel⟩
abbrev s_Seeker_ask : Stmt := (inClass (top 4) 1)
abbrev p_Seeker_ask : List Str := ["self", "level", "night"]
theorem sc_Seeker_ask : FnScope ["self", "level", "night", "first", "by_day", "by_night", "ahead", "rise", "events"] p_Seeker_ask (defScope s_Seeker_ask) := ⟨rfl, rfl, rfl, by decide +kernel, rfl, by decide +kernel, by decide +kernel⟩
abbrev s_Seeker_tell_first : Stmt := (inClass (top 4) 2)
abbrev p_Seeker_tell_first : List Str := ["self", "risen"]
theorem sc_Seeker_tell_first : FnScope ["self", "risen", "events"] p_Seeker_tell_first (defScope s_Seeker_tell_first) := ⟨rfl, rfl, rfl, by decide +kernel, rfl, by decide +kernel, by decide +kernel⟩
abbrev s_Seeker_tell_warning : Stmt := (inClass (top 4) 3)
abbrev p_Seeker_tell_warning : List Str := ["self", "above"]
theorem sc_Seeker_tell_warning : FnScope ["self", "above"] p_Seeker_tell_warning (defScope s_Seeker_tell_warning) := ⟨rfl, rfl, rfl, by decide +kernel, rfl, by decide +kernel, by decide +kernel⟩
abbrev s_Seeker_move_ground : Stmt := (inClass (top 4) 4)
abbrev p_Seeker_move_ground : List Str := ["self", "level", "calm"]
theorem sc_Seeker_move_ground : FnScope ["self", "level", "calm"] p_Seeker_move_ground (defScope s_Seeker_move_ground) := ⟨rfl, rfl, rfl, by decide +kernel, rfl, by decide +kernel, by decide +kernel⟩
abbrev s_Seeker_reset : Stmt := (inClass (top 4) 5)
abbrev p_Seeker_reset : List Str := ["self"]
theorem sc_Seeker_reset : FnScope ["self"] p_Seeker_reset (defScope s_Seeker_reset) := ⟨rfl, rfl, rfl, by decide +kernel, rfl, by decide +kernel, by decide +kernel⟩
abbrev s_Seeker_base : Stmt := (inClass (top 4) 6)
abbrev p_Seeker_base : List Str := ["self"]
theorem sc_Seeker_base : FnScope ["self"] p_Seeker_base (defScope s_Seeker_base) := ⟨rfl, rfl, rfl, by decide +kernel, rfl, by decide +kernel, by decide +kernel⟩
abbrev s_Seeker_warned : Stmt := (inClass (top 4) 7)
abbrev p_Seeker_warned : List Str := ["self"]
theorem sc_Seeker_warned : FnScope ["self"] p_Seeker_warned (defScope s_Seeker_warned) := ⟨rfl, rfl, rfl, by decide +kernel, rfl, by decide +kernel, by decide +kernel⟩
/-- what a seeker holds -/
structure Sk where
  asked : Int
  ground : Option Int
  risen : Bool
  above : Int
  calm : Int
  warning : Bool
def gV : Option Int → V
  | none => .non
  | some i => .int i
def fl (m : Addr) (S : Sk) : List (Str × V) := [("marks", .ref m), ("asked", .int S.asked), ("ground", gV S.ground), ("risen", .bl S.risen), ("row_above", .int S.above), ("row_calm", .int S.calm), ("warning", .bl S.warning)]
theorem names_nd : (["marks", "asked", "ground", "risen", "row_above", "row_calm", "warning"] : List Str).Nodup := by decide +kernel
theorem fnd (m : Addr) (S : Sk) : ((fl m S).map (·.1)).Nodup := names_nd
theorem fno {m : Addr} {S : Sk} {x : Str} (h : x ∉ (["marks", "asked", "ground", "risen", "row_above", "row_calm", "warning"] : List Str)) : (fl m S).lookup x = none := fl_no h
theorem put_asked (m : Addr) (S : Sk) (z : Int) : putF "asked" (.int z) (fl m S) = fl m { S with asked := z } := fl_put (i := 1) (fnd m S) rfl
theorem put_ground (m : Addr) (S : Sk) (z : Int) : putF "ground" (.int z) (fl m S) = fl m { S with ground := some z } := fl_put (i := 2) (fnd m S) rfl
theorem put_risen (m : Addr) (S : Sk) (z : Bool) : putF "risen" (.bl z) (fl m S) = fl m { S with risen := z } := fl_put (i := 3) (fnd m S) rfl
theorem put_above (m : Addr) (S : Sk) (z : Int) : putF "row_above" (.int z) (fl m S) = fl m { S with above := z } := fl_put (i := 4) (fnd m S) rfl
theorem put_calm (m : Addr) (S : Sk) (z : Int) : putF "row_calm" (.int z) (fl m S) = fl m { S with calm := z } := fl_put (i := 5) (fnd m S) rfl
theorem put_warning (m : Addr) (S : Sk) (z : Bool) : putF "warning" (.bl z) (fl m S) = fl m { S with warning := z } := fl_put (i := 6) (fnd m S) rfl
def S0 : Sk := ⟨0, none, false, 0, 0, false⟩
/-- the marks -/
structure Mk3 where
  first : Int
  day : Int
  night : Int
/-- an event -/
inductive Ev where
  | first (n : Int)
  | warning (a b c : Int)
  | dirt (n : Int)
def EvAt (H : Hp) : V → Ev → Prop
  | v, .first n => ∃ t, v = .ref t ∧ H t = some (.tup [.str "first", .int n])
  | v, .warning a b c => ∃ t u, v = .ref t ∧ H t = some (.tup [.str "warning", .ref u]) ∧ H u = some (.tup [.int a, .int b, .int c])
  | v, .dirt n => ∃ t, v = .ref t ∧ H t = some (.tup [.str "dirt", .int n])
theorem EvAt.tups {H H' : Hp} {v : V} {e : Ev} (h : EvAt H v e) (s : TupS H H') : EvAt H' v e := by
  cases e with
  | first n => obtain ⟨t, rfl, e⟩ := h; exact ⟨t, rfl, s _ _ e⟩
  | warning a b c => obtain ⟨t, u, rfl, e, e2⟩ := h; exact ⟨t, u, rfl, s _ _ e, s _ _ e2⟩
  | dirt n => obtain ⟨t, rfl, e⟩ := h; exact ⟨t, rfl, s _ _ e⟩
inductive EvsAt (H : Hp) : List V → List Ev → Prop
  | nil : EvsAt H [] []
  | cons {v : V} {e : Ev} {vs : List V} {es : List Ev} : EvAt H v e → EvsAt H vs es → EvsAt H (v :: vs) (e :: es)
theorem EvsAt.tups {H H' : Hp} (s : TupS H H') : ∀ {vs : List V} {es : List Ev}, EvsAt H vs es → EvsAt H' vs es
  | _, _, .nil => .nil
  | _, _, .cons h t => .cons (h.tups s) (t.tups s)
theorem EvsAt.append {H : Hp} : ∀ {vs ws : List V} {es fs : List Ev}, EvsAt H vs es → EvsAt H ws fs → EvsAt H (vs ++ ws) (es ++ fs)
  | _, _, _, _, .nil, t => t
  | _, _, _, _, .cons h t, r => .cons h (t.append r)
theorem EvsAt.length {H : Hp} : ∀ {vs : List V} {es : List Ev}, EvsAt H vs es → vs.length = es.length
  | _, _, .nil => rfl
  | _, _, .cons _ t => by rw [List.length_cons, List.length_cons, t.length]
def fstEv (S : Sk) (r : Bool) : List Ev := if (r && !S.risen) = true then [.first S.asked] else []
def abv (S : Sk) (a : Bool) : Int := if a = true then S.above + 1 else 0
def tw (S : Sk) (a : Bool) : Sk := if (S.warning || decide (abv S a < 3)) = true then { S with above := abv S a } else { S with above := abv S a, warning := true }
def twEv (S : Sk) (a : Bool) : List Ev := if (S.warning || decide (abv S a < 3)) = true then [] else [.warning (S.asked - 2) (S.asked - 1) S.asked]
def clm (S : Sk) (c : Bool) : Int := if c = true then S.calm + 1 else 0
def toward (g level : Int) : Int := if g < level then g + 1 else if level < g then g - 1 else g
def mv (S : Sk) (g level : Int) (c : Bool) : Sk := if clm S c < 4 then { S with calm := clm S c } else { S with calm := 0, ground := some (toward g level) }
def mvG (S : Sk) (g level : Int) (c : Bool) : Int := if clm S c < 4 then g else toward g level
theorem mv_ground (S : Sk) (g level : Int) (c : Bool) (h : S.ground = some g) : (mv S g level c).ground = some (mvG S g level c) := by
  unfold mv mvG
  split
  · exact h
  · rfl
/-- ahead of the asking's end: the base, the rise -/
def gnd (S : Sk) (level : Int) : Int := S.ground.getD level
def ask1 (M : Mk3) (S : Sk) (level : Int) : Sk := { S with ground := some (gnd S level), risen := decide (M.first ≤ level - gnd S level) }
def ask2 (M : Mk3) (S : Sk) (level : Int) (night : Bool) : Sk := tw (ask1 M S level) (decide ((if night = true then M.night else M.day) ≤ level - gnd S level))
def ask3 (M : Mk3) (S : Sk) (level : Int) (night : Bool) : Sk := mv (ask2 M S level night) (gnd S level) level (decide (level - gnd S level < M.first))
def newG (M : Mk3) (S : Sk) (level : Int) (night : Bool) : Int := mvG (ask2 M S level night) (gnd S level) level (decide (level - gnd S level < M.first))
def askS (M : Mk3) (S : Sk) (level : Int) (night : Bool) : Sk := { ask3 M S level night with asked := (ask3 M S level night).asked + 1 }
def below100 : Option Int → Bool
  | none => true
  | some g => decide (g < 100)
def askEv (M : Mk3) (S : Sk) (level : Int) (night : Bool) : List Ev :=
  (fstEv { S with ground := some (gnd S level) } (decide (M.first ≤ level - gnd S level)) ++ twEv (ask1 M S level) (decide ((if night = true then M.night else M.day) ≤ level - gnd S level))) ++
    (if (decide (100 ≤ newG M S level night) && below100 S.ground) = true then [.dirt (newG M S level night)] else [])
/-- a seeker stands at p, its marks at m -/
def SkAt (C : Addr) (H : Hp) (p m : Addr) (M : Mk3) (S : Sk) : Prop := (∃ dx, H p = some (.ins C dx (fl m S))) ∧ H m = some (.tup [.int M.first, .int M.day, .int M.night])
theorem SkAt.notup {C : Addr} {H : Hp} {p m : Addr} {M : Mk3} {S : Sk} (h : SkAt C H p m M S) : ∀ xs, H p ≠ some (.tup xs) := fun xs e => by
  obtain ⟨⟨dx, h⟩, _⟩ := h
  rw [h] at e
  cases e
theorem SkAt.ne {C : Addr} {H : Hp} {p m : Addr} {M : Mk3} {S : Sk} (h : SkAt C H p m M S) : m ≠ p := fun e => h.notup _ (e ▸ h.2)
theorem SkAt.same {C : Addr} {H H' : Hp} {p m b : Addr} {M : Mk3} {S : Sk} (h : SkAt C H p m M S) (s : SameB b H H') (np : p ≠ b) (nm : m ≠ b) : SkAt C H' p m M S := by
  obtain ⟨⟨dx, h1⟩, h2⟩ := h
  exact ⟨⟨dx, s _ _ h1 np⟩, s _ _ h2 nm⟩
theorem SkAt.same' {C : Addr} {H H' : Hp} {p m : Addr} {M : Mk3} {S : Sk} (h : SkAt C H p m M S) (s : Same H H') : SkAt C H' p m M S := by
  obtain ⟨⟨dx, h1⟩, h2⟩ := h
  exact ⟨⟨dx, s _ _ h1⟩, s _ _ h2⟩
structure Tx (K : PySem.W.Frag) (mg : Str → Option Value) (C : Addr) : Prop extends Nm mg where
  ABOVE_TO_WARN : ∃ u, mg "ABOVE_TO_WARN" = some u ∧ RelV (.int 3) u
  CALM_TO_MOVE : ∃ u, mg "CALM_TO_MOVE" = some u ∧ RelV (.int 4) u
  DIRTY_BASE : ∃ u, mg "DIRTY_BASE" = some u ∧ RelV (.int 100) u
  cl : Cls K C
  mgC : mg "Seeker" = some (.ref C)
  n_marks : NoAttr K C "marks"
  n_asked : NoAttr K C "asked"
  n_ground : NoAttr K C "ground"
  n_risen : NoAttr K C "risen"
  n_above : NoAttr K C "row_above"
  n_calm : NoAttr K C "row_calm"
  n_warning : NoAttr K C "warning"
def spInit (C : Addr) : Sp := fun vs H Q _ => ∃ (p m dx : Addr), vs = [.ref p, .ref m] ∧ H p = some (.ins C dx []) ∧ ∀ H', H' p = some (.ins C dx (fl m S0)) → SameB p H H' → Q .non H'
def spTf (C : Addr) : Sp := fun vs H Q _ => ∃ (p m : Addr) (M : Mk3) (S : Sk) (r : Bool), vs = [.ref p, .bl r] ∧ SkAt C H p m M S ∧
  ∀ l xs H', H l = none → H' l = some (.lst xs) → EvsAt H' xs (fstEv S r) → SkAt C H' p m M { S with risen := r } → SameB p H H' → Q (.ref l) H'
def spTw (C : Addr) : Sp := fun vs H Q _ => ∃ (p m : Addr) (M : Mk3) (S : Sk) (a : Bool), vs = [.ref p, .bl a] ∧ SkAt C H p m M S ∧
  ∀ l xs H', H l = none → H' l = some (.lst xs) → EvsAt H' xs (twEv S a) → SkAt C H' p m M (tw S a) → SameB p H H' → Q (.ref l) H'
def spMv (C : Addr) : Sp := fun vs H Q _ => ∃ (p m : Addr) (M : Mk3) (S : Sk) (g level : Int) (c : Bool), vs = [.ref p, .int level, .bl c] ∧ SkAt C H p m M S ∧ S.ground = some g ∧
  ∀ H', SkAt C H' p m M (mv S g level c) → SameB p H H' → Q .non H'
def spAsk (C : Addr) : Sp := fun vs H Q _ => ∃ (p m : Addr) (M : Mk3) (S : Sk) (level : Int) (night : Bool), vs = [.ref p, .int level, .bl night] ∧ SkAt C H p m M S ∧
  ∀ l xs H', H l = none → H' l = some (.lst xs) → EvsAt H' xs (askEv M S level night) → SkAt C H' p m M (askS M S level night) → SameB p H H' → Q (.ref l) H'
def spReset (C : Addr) : Sp := fun vs H Q _ => ∃ (p m : Addr) (M : Mk3) (S : Sk), vs = [.ref p] ∧ SkAt C H p m M S ∧ ∀ H', SkAt C H' p m M { S with warning := false, above := 0 } → SameB p H H' → Q .non H'
def spBase (C : Addr) : Sp := fun vs H Q _ => ∃ (p m : Addr) (M : Mk3) (S : Sk), vs = [.ref p] ∧ SkAt C H p m M S ∧ Q (gV S.ground) H
def spWarned (C : Addr) : Sp := fun vs H Q _ => ∃ (p m : Addr) (M : Mk3) (S : Sk), vs = [.ref p] ∧ SkAt C H p m M S ∧ Q (.bl S.warning) H
theorem fl_len (m : Addr) (S : Sk) : (fl m S).length < 1000 := by show 7 < 1000; decide
section
variable {P : Program} {w : World} {K : PySem.W.Frag} {mg : Str → Option Value} {base : Heap} {C : Addr}
theorem ok_base (c : CodeM K C "base" "Seeker.base" s_Seeker_base p_Seeker_base) (T : Tx K mg C) : GoodM P w K mg base C "base" 1 p_Seeker_base (spBase C) := by
  refine c.good sc_Seeker_base (fun vs H Q E h => ?_) (fun f cdv A outer s H vs Q E hr h => ?_)
  · obtain ⟨p, m, M, S, rfl, _⟩ := h
    rfl
  obtain ⟨p, m, M, S, rfl, ⟨⟨dx, hp⟩, hm⟩, q⟩ := h
  refine ⟨_, (pss_one (ps_ret (pe_fld (pv 0) rfl))), ?_⟩
  exact ⟨_, rfl, p, C, dx, _, _, rfl, hp, T.cl, T.n_ground, fl_get (i := 2) (fnd m S) rfl, q⟩
theorem ok_warned (c : CodeM K C "warned" "Seeker.warned" s_Seeker_warned p_Seeker_warned) (T : Tx K mg C) : GoodM P w K mg base C "warned" 1 p_Seeker_warned (spWarned C) := by
  refine c.good sc_Seeker_warned (fun vs H Q E h => ?_) (fun f cdv A outer s H vs Q E hr h => ?_)
  · obtain ⟨p, m, M, S, rfl, _⟩ := h
    rfl
  obtain ⟨p, m, M, S, rfl, ⟨⟨dx, hp⟩, hm⟩, q⟩ := h
  refine ⟨_, (pss_one (ps_ret (pe_fld (pv 0) rfl))), ?_⟩
  exact ⟨_, rfl, p, C, dx, _, _, rfl, hp, T.cl, T.n_warning, fl_get (i := 6) (fnd m S) rfl, q⟩
theorem ok_reset (c : CodeM K C "reset" "Seeker.reset" s_Seeker_reset p_Seeker_reset) (T : Tx K mg C) : GoodM P w K mg base C "reset" 1 p_Seeker_reset (spReset C) := by
  refine c.good sc_Seeker_reset (fun vs H Q E h => ?_) (fun f cdv A outer s H vs Q E hr h => ?_)
  · obtain ⟨p, m, M, S, rfl, _⟩ := h
    rfl
  obtain ⟨p, m, M, S, rfl, hS, q⟩ := h
  have nm := hS.ne
  obtain ⟨⟨dx, hp⟩, hm⟩ := hS
  refine ⟨_, (pss_cons (ps_fldE (pv 0) pe_bl rfl)
  (pss_one (ps_fldE (pv 0) pe_int rfl))), ?_⟩
  refine ⟨_, rfl, p, C, dx, _, _, rfl, hp, T.cl, T.n_warning, fl_len m S, put_warning m S false, fun H1 h1 s1 => ?_⟩
  refine ⟨_, rfl, p, C, dx, _, _, rfl, h1, T.cl, T.n_above, fl_len m _, put_above m _ 0, fun H2 h2 s2 => ?_⟩
  exact q H2 ⟨⟨dx, h2⟩, s2 _ _ (s1 _ _ hm nm) nm⟩ (s1.trans s2)
theorem ok_init (F : ∃ f fd, Fun K "__init__" "Seeker.__init__" s_Seeker___init__ f fd ∧ Mk K C f ∧ Binds K fd p_Seeker___init__ []) (T : Tx K mg C) : GoodI P w K mg base C 1 p_Seeker___init__ (spInit C) := by
  obtain ⟨f, fd, F, Mk, b⟩ := F
  refine ⟨f, fd, Mk, b, F.ok sc_Seeker___init__ (fun vs H Q E h => ?_) (fun cdv A outer s H vs Q E hr h => ?_)⟩
  · obtain ⟨p, m, dx, rfl, _⟩ := h
    rfl
  obtain ⟨p, m, dx, rfl, hp, q⟩ := h
  refine ⟨_, (pss_cons (ps_fldE (pv 0) (pv 1) rfl)
  (pss_cons (ps_fldE (pv 0) pe_int rfl)
  (pss_cons (ps_fldE (pv 0) pe_non rfl)
  (pss_cons (ps_fldE (pv 0) pe_bl rfl)
  (pss_cons (ps_fldE (pv 0) pe_int rfl)
  (pss_cons (ps_fldE (pv 0) pe_int rfl)
  (pss_one (ps_fldE (pv 0) pe_bl rfl)))))))), ?_⟩
  refine ⟨_, rfl, _, rfl, p, C, dx, _, _, rfl, hp, T.cl, T.n_marks, (by show 0 < 1000; decide), fl_new (by show _ ∉ ([] : List Str); decide +kernel), fun H1 h1 s1 => ?_⟩
  refine ⟨_, rfl, p, C, dx, _, _, rfl, h1, T.cl, T.n_asked, (by show 1 < 1000; decide), fl_new (by show _ ∉ (["marks"] : List Str); decide +kernel), fun H2 h2 s2 => ?_⟩
  refine ⟨_, rfl, p, C, dx, _, _, rfl, h2, T.cl, T.n_ground, (by show 2 < 1000; decide), fl_new (by show _ ∉ (["marks", "asked"] : List Str); decide +kernel), fun H3 h3 s3 => ?_⟩
  refine ⟨_, rfl, p, C, dx, _, _, rfl, h3, T.cl, T.n_risen, (by show 3 < 1000; decide), fl_new (by show _ ∉ (["marks", "asked", "ground"] : List Str); decide +kernel), fun H4 h4 s4 => ?_⟩
  refine ⟨_, rfl, p, C, dx, _, _, rfl, h4, T.cl, T.n_above, (by show 4 < 1000; decide), fl_new (by show _ ∉ (["marks", "asked", "ground", "risen"] : List Str); decide +kernel), fun H5 h5 s5 => ?_⟩
  refine ⟨_, rfl, p, C, dx, _, _, rfl, h5, T.cl, T.n_calm, (by show 5 < 1000; decide), fl_new (by show _ ∉ (["marks", "asked", "ground", "risen", "row_above"] : List Str); decide +kernel), fun H6 h6 s6 => ?_⟩
  refine ⟨_, rfl, p, C, dx, _, _, rfl, h6, T.cl, T.n_warning, (by show 6 < 1000; decide), fl_new (by show _ ∉ (["marks", "asked", "ground", "risen", "row_above", "row_calm"] : List Str); decide +kernel), fun H7 h7 s7 => ?_⟩
  exact q H7 h7 ((s1.trans (s2.trans s3)).trans ((s4.trans s5).trans (s6.trans s7)))
theorem ok_tf (c : CodeM K C "tell_first" "Seeker.tell_first" s_Seeker_tell_first p_Seeker_tell_first) (T : Tx K mg C) : GoodM P w K mg base C "tell_first" 1 p_Seeker_tell_first (spTf C) := by
  refine c.good sc_Seeker_tell_first (fun vs H Q E h => ?_) (fun f cdv A outer s H vs Q E hr h => ?_)
  · obtain ⟨p, m, M, S, r, rfl, _⟩ := h
    rfl
  obtain ⟨p, m, M, S, r, rfl, hS, q⟩ := h
  have nm := hS.ne
  obtain ⟨⟨dx, hp⟩, hm⟩ := hS
  refine ⟨_, (pss_cons (ps_set (i := 2) sc_Seeker_tell_first.nd rfl (Or.inl rfl) (pe_ifExp (PW.pt (pw_and (pt_val (pv 1)) (pw_and1 (pt_not (pt_val (pe_fld (pv 0) rfl)))))) (pe_lst (pa_cons (pe_tup (pa_cons pe_str (pa_cons (pe_fld (pv 0) rfl) pa_nil))) pa_nil)) (pe_lst pa_nil)))
  (pss_cons (ps_fldE (pv 0) (pv 1) rfl)
  (pss_one (ps_ret (pv 2))))), ?_⟩
  refine ⟨_, rfl, _, rfl, ?_⟩
  -- the store and the end
  have fin : ∀ (l : Addr) (xs : List V) (H1 : Hp), H l = none → H1 l = some (.lst xs) → Same H H1 → EvsAt H1 xs (fstEv S r) → ∀ H2, H2 p = some (.ins C dx (fl m { S with risen := r })) → SameB p H1 H2 → Q (.ref l) H2 := fun l xs H1 hl h1 s1 ev H2 h2 s2 => by
    refine q l xs H2 hl (s2 _ _ h1 (ne_of_none hp hl).symm) (ev.tups (s2.tup fun ys e => by rw [s1 _ _ hp] at e; cases e)) ⟨⟨dx, h2⟩, s2 _ _ (s1 _ _ hm) nm⟩ ((SameB.of s1).trans s2)
  cases r with
  | false =>
    refine iteF (iteF ⟨(by show 0 ≤ sizeLine; decide), fun l hl => ?_⟩)
    have s1 := same_new hl (.lst [])
    refine ⟨_, rfl, _, rfl, p, C, dx, _, _, rfl, s1 _ _ hp, T.cl, T.n_risen, fl_len m S, put_risen m S false, fun H2 h2 s2 => ⟨_, rfl, ?_⟩⟩
    exact fin l [] _ hl upd_same s1 .nil H2 h2 s2
  | true =>
    refine iteT ⟨_, rfl, p, C, dx, _, _, rfl, hp, T.cl, T.n_risen, fl_get (i := 3) (fnd m S) rfl, _, rfl, ?_⟩
    cases e : S.risen with
    | true =>
      refine iteF ⟨(by show 0 ≤ sizeLine; decide), fun l hl => ?_⟩
      have s1 := same_new hl (.lst [])
      refine ⟨_, rfl, _, rfl, p, C, dx, _, _, rfl, s1 _ _ hp, T.cl, T.n_risen, fl_len m S, put_risen m S true, fun H2 h2 s2 => ⟨_, rfl, ?_⟩⟩
      exact fin l [] _ hl upd_same s1 (by unfold fstEv; rw [e]; exact .nil) H2 h2 s2
    | false =>
      refine iteT ⟨_, rfl, p, C, dx, _, _, rfl, hp, T.cl, T.n_asked, fl_get (i := 1) (fnd m S) rfl, (by show 2 ≤ sizeLine; decide), fun t ht => ⟨(by show 1 ≤ sizeLine; decide), fun l hl => ?_⟩⟩
      have s0 := same_new ht (.tup [.str "first", .int S.asked])
      have s1 := s0.trans (same_new hl (.lst [.ref t]))
      refine ⟨_, rfl, _, rfl, p, C, dx, _, _, rfl, s1 _ _ hp, T.cl, T.n_risen, fl_len m S, put_risen m S true, fun H2 h2 s2 => ⟨_, rfl, ?_⟩⟩
      refine fin l [.ref t] _ (s0.free hl) upd_same s1 ?_ H2 h2 s2
      unfold fstEv
      rw [e]
      exact .cons ⟨t, rfl, same_new hl _ _ _ upd_same⟩ .nil
theorem ok_tw (c : CodeM K C "tell_warning" "Seeker.tell_warning" s_Seeker_tell_warning p_Seeker_tell_warning) (T : Tx K mg C) : GoodM P w K mg base C "tell_warning" 1 p_Seeker_tell_warning (spTw C) := by
  refine c.good sc_Seeker_tell_warning (fun vs H Q E h => ?_) (fun f cdv A outer s H vs Q E hr h => ?_)
  · obtain ⟨p, m, M, S, r, rfl, _⟩ := h
    rfl
  obtain ⟨p, m, M, S, a, rfl, hS, q⟩ := h
  have nm := hS.ne
  obtain ⟨⟨dx, hp⟩, hm⟩ := hS
  refine ⟨_, (pss_cons (ps_fldE (pv 0) (pe_ifExp (pt_val (pv 1)) (pe_op op_add (pe_fld (pv 0) rfl) pe_int) pe_int) rfl)
  (pss_cons (ps_if (PW.pt (pw_or (pt_val (pe_fld (pv 0) rfl)) (pw_or1 (pt_cmpR op_lt (pe_fld (pv 0) rfl) (pe_cst rfl T.ABOVE_TO_WARN) (nomark _))))) (pss_one (ps_ret (pe_lst pa_nil))) pss_nil)
  (pss_cons (ps_fldE (pv 0) pe_bl rfl)
  (pss_one (ps_ret (pe_lst (pa_cons (pe_tup (pa_cons pe_str (pa_cons (pe_tup (pa_cons (pe_op op_sub (pe_fld (pv 0) rfl) pe_int) (pa_cons (pe_op op_sub (pe_fld (pv 0) rfl) pe_int) (pa_cons (pe_fld (pv 0) rfl) pa_nil)))) pa_nil))) pa_nil))))))), ?_⟩
  refine ⟨_, rfl, _, rfl, ?_⟩
  have hab : ∀ z, abv S a = z → putF "row_above" (.int z) (fl m S) = fl m { S with above := abv S a } := fun z e => by rw [e]; exact put_above m S z
  cases a with
  | true =>
    refine iteT ⟨_, rfl, p, C, dx, _, _, rfl, hp, T.cl, T.n_above, fl_get (i := 4) (fnd m S) rfl, _, _, rfl, rfl, _, rfl, p, C, dx, _, _, rfl, hp, T.cl, T.n_above, fl_len m S, hab (S.above + 1) rfl, fun H1 h1 s1 => ?_⟩
    generalize hz : abv S true = z at h1
    have m1 := s1 _ _ hm nm
    have np1 : ∀ ys, H p ≠ some (.tup ys) := fun ys e => by rw [hp] at e; cases e
    refine ⟨_, rfl, p, C, dx, _, _, rfl, h1, T.cl, T.n_warning, fl_get (i := 6) (fnd m _) rfl, _, rfl, ?_⟩
    cases ew : S.warning with
    | true =>
      refine iteT (iteT ⟨(by show 0 ≤ sizeLine; decide), fun l hl => ?_⟩)
      have s2 := same_new hl (.lst [])
      refine q l [] _ (s1.free ⟨_, h1⟩ hl) upd_same ?_ ⟨⟨dx, ?_⟩, s2 _ _ m1⟩ (s1.trans (SameB.of s2))
      · unfold twEv; rw [ew]; exact .nil
      · rw [s2 _ _ h1]; unfold tw; rw [ew, hz]; rfl
    | false =>
      refine iteF ⟨_, rfl, p, C, dx, _, _, rfl, h1, T.cl, T.n_above, fl_get (i := 4) (fnd m _) rfl, _, _, rfl, rfl, _, rfl, ?_⟩
      refine ite2 (fun c1 => ?_) (fun c1 => ?_)
      · have c' : z < 3 := of_decide_eq_true c1
        refine ⟨(by show 0 ≤ sizeLine; decide), fun l hl => ?_⟩
        have s2 := same_new hl (.lst [])
        refine q l [] _ (s1.free ⟨_, h1⟩ hl) upd_same ?_ ⟨⟨dx, ?_⟩, s2 _ _ m1⟩ (s1.trans (SameB.of s2))
        · unfold twEv; rw [ew, hz, decide_eq_true c']; exact .nil
        · rw [s2 _ _ h1]; unfold tw; rw [ew, hz, decide_eq_true c']; rfl
      · have c' : ¬ z < 3 := fun y => c1 (decide_eq_true y)
        refine ⟨_, rfl, p, C, dx, _, _, rfl, h1, T.cl, T.n_warning, fl_len m _, put_warning m _ true, fun H2 h2 s2 => ?_⟩
        have m2 := s2 _ _ m1 nm
        refine ⟨_, rfl, p, C, dx, _, _, rfl, h2, T.cl, T.n_asked, fl_get (i := 1) (fnd m _) rfl, _, _, rfl, rfl, _, rfl, p, C, dx, _, _, rfl, h2, T.cl, T.n_asked, fl_get (i := 1) (fnd m _) rfl, _, _, rfl, rfl,
          _, rfl, p, C, dx, _, _, rfl, h2, T.cl, T.n_asked, fl_get (i := 1) (fnd m _) rfl, (by show 3 ≤ sizeLine; decide), fun u hu => ⟨(by show 2 ≤ sizeLine; decide), fun t ht => ⟨(by show 1 ≤ sizeLine; decide), fun l hl => ?_⟩⟩⟩
        have s3 := same_new hu (.tup [.int (S.asked - 2), .int (S.asked - 1), .int S.asked])
        have s4 := same_new ht (.tup [.str "warning", .ref u])
        have s5 := same_new hl (.lst [.ref t])
        have s35 := s3.trans (s4.trans s5)
        have hl2 : H2 l = none := s3.free (s4.free hl)
        refine q l [.ref t] _ (s1.free ⟨_, h1⟩ (s2.free ⟨_, h2⟩ hl2)) upd_same ?_ ⟨⟨dx, ?_⟩, s35 _ _ m2⟩ ((s1.trans s2).trans (SameB.of s35))
        · unfold twEv; rw [ew, hz, decide_eq_false c']
          exact .cons ⟨t, u, rfl, s5 _ _ upd_same, s5 _ _ (s4 _ _ upd_same)⟩ .nil
        · rw [s35 _ _ h2]; unfold tw; rw [ew, hz, decide_eq_false c']; rfl
  | false =>
    refine iteF ⟨_, rfl, p, C, dx, _, _, rfl, hp, T.cl, T.n_above, fl_len m S, hab 0 rfl, fun H1 h1 s1 => ?_⟩
    generalize hz : abv S false = z at h1
    have m1 := s1 _ _ hm nm
    have np1 : ∀ ys, H p ≠ some (.tup ys) := fun ys e => by rw [hp] at e; cases e
    refine ⟨_, rfl, p, C, dx, _, _, rfl, h1, T.cl, T.n_warning, fl_get (i := 6) (fnd m _) rfl, _, rfl, ?_⟩
    cases ew : S.warning with
    | true =>
      refine iteT (iteT ⟨(by show 0 ≤ sizeLine; decide), fun l hl => ?_⟩)
      have s2 := same_new hl (.lst [])
      refine q l [] _ (s1.free ⟨_, h1⟩ hl) upd_same ?_ ⟨⟨dx, ?_⟩, s2 _ _ m1⟩ (s1.trans (SameB.of s2))
      · unfold twEv; rw [ew]; exact .nil
      · rw [s2 _ _ h1]; unfold tw; rw [ew, hz]; rfl
    | false =>
      refine iteF ⟨_, rfl, p, C, dx, _, _, rfl, h1, T.cl, T.n_above, fl_get (i := 4) (fnd m _) rfl, _, _, rfl, rfl, _, rfl, ?_⟩
      refine ite2 (fun c1 => ?_) (fun c1 => ?_)
      · have c' : z < 3 := of_decide_eq_true c1
        refine ⟨(by show 0 ≤ sizeLine; decide), fun l hl => ?_⟩
        have s2 := same_new hl (.lst [])
        refine q l [] _ (s1.free ⟨_, h1⟩ hl) upd_same ?_ ⟨⟨dx, ?_⟩, s2 _ _ m1⟩ (s1.trans (SameB.of s2))
        · unfold twEv; rw [ew, hz, decide_eq_true c']; exact .nil
        · rw [s2 _ _ h1]; unfold tw; rw [ew, hz, decide_eq_true c']; rfl
      · have c' : ¬ z < 3 := fun y => c1 (decide_eq_true y)
        refine ⟨_, rfl, p, C, dx, _, _, rfl, h1, T.cl, T.n_warning, fl_len m _, put_warning m _ true, fun H2 h2 s2 => ?_⟩
        have m2 := s2 _ _ m1 nm
        refine ⟨_, rfl, p, C, dx, _, _, rfl, h2, T.cl, T.n_asked, fl_get (i := 1) (fnd m _) rfl, _, _, rfl, rfl, _, rfl, p, C, dx, _, _, rfl, h2, T.cl, T.n_asked, fl_get (i := 1) (fnd m _) rfl, _, _, rfl, rfl,
          _, rfl, p, C, dx, _, _, rfl, h2, T.cl, T.n_asked, fl_get (i := 1) (fnd m _) rfl, (by show 3 ≤ sizeLine; decide), fun u hu => ⟨(by show 2 ≤ sizeLine; decide), fun t ht => ⟨(by show 1 ≤ sizeLine; decide), fun l hl => ?_⟩⟩⟩
        have s3 := same_new hu (.tup [.int (S.asked - 2), .int (S.asked - 1), .int S.asked])
        have s4 := same_new ht (.tup [.str "warning", .ref u])
        have s5 := same_new hl (.lst [.ref t])
        have s35 := s3.trans (s4.trans s5)
        have hl2 : H2 l = none := s3.free (s4.free hl)
        refine q l [.ref t] _ (s1.free ⟨_, h1⟩ (s2.free ⟨_, h2⟩ hl2)) upd_same ?_ ⟨⟨dx, ?_⟩, s35 _ _ m2⟩ ((s1.trans s2).trans (SameB.of s35))
        · unfold twEv; rw [ew, hz, decide_eq_false c']
          exact .cons ⟨t, u, rfl, s5 _ _ upd_same, s5 _ _ (s4 _ _ upd_same)⟩ .nil
        · rw [s35 _ _ h2]; unfold tw; rw [ew, hz, decide_eq_false c']; rfl
theorem ok_mv (c : CodeM K C "move_ground" "Seeker.move_ground" s_Seeker_move_ground p_Seeker_move_ground) (T : Tx K mg C) : GoodM P w K mg base C "move_ground" 1 p_Seeker_move_ground (spMv C) := by
  refine c.good sc_Seeker_move_ground (fun vs H Q E h => ?_) (fun f cdv A outer s H vs Q E hr h => ?_)
  · obtain ⟨p, m, M, S, g, level, r, rfl, _⟩ := h
    rfl
  obtain ⟨p, m, M, S, g, level, a, rfl, hS, hg, q⟩ := h
  have nm := hS.ne
  obtain ⟨⟨dx, hp⟩, hm⟩ := hS
  refine ⟨_, (pss_cons (ps_fldE (pv 0) (pe_ifExp (pt_val (pv 2)) (pe_op op_add (pe_fld (pv 0) rfl) pe_int) pe_int) rfl)
  (pss_cons (ps_if (pt_cmpR op_lt (pe_fld (pv 0) rfl) (pe_cst rfl T.CALM_TO_MOVE) (nomark _)) (pss_one ps_retN) pss_nil)
  (pss_cons (ps_fldE (pv 0) pe_int rfl)
  (pss_one (ps_if (pt_cmpR op_gt (pv 1) (pe_fld (pv 0) rfl) (nomark _)) (pss_one (ps_fldaugE (pv 0) pe_int in_add)) (pss_one (ps_if (pt_cmpR op_lt (pv 1) (pe_fld (pv 0) rfl) (nomark _)) (pss_one (ps_fldaugE (pv 0) pe_int in_sub)) pss_nil))))))), ?_⟩
  refine ⟨_, rfl, _, rfl, ?_⟩
  have hab : ∀ z, clm S a = z → putF "row_calm" (.int z) (fl m S) = fl m { S with calm := clm S a } := fun z e => by rw [e]; exact put_calm m S z
  cases a with
  | true =>
    refine iteT ⟨_, rfl, p, C, dx, _, _, rfl, hp, T.cl, T.n_calm, fl_get (i := 5) (fnd m S) rfl, _, _, rfl, rfl, _, rfl, p, C, dx, _, _, rfl, hp, T.cl, T.n_calm, fl_len m S, hab (S.calm + 1) rfl, fun H1 h1 s1 => ?_⟩
    generalize hz : clm S true = z at h1
    have m1 := s1 _ _ hm nm
    refine ⟨_, rfl, p, C, dx, _, _, rfl, h1, T.cl, T.n_calm, fl_get (i := 5) (fnd m _) rfl, _, _, rfl, rfl, _, rfl, ?_⟩
    refine ite2 (fun c1 => ?_) (fun c1 => ?_)
    · have c' : z < 4 := of_decide_eq_true c1
      refine q H1 ⟨⟨dx, ?_⟩, m1⟩ s1
      rw [h1]; unfold mv; rw [hz, if_pos c']
    · have c' : ¬ z < 4 := fun y => c1 (decide_eq_true y)
      refine ⟨_, rfl, p, C, dx, _, _, rfl, h1, T.cl, T.n_calm, fl_len m _, put_calm m _ 0, fun H2 h2 s2 => ?_⟩
      have m2 := s2 _ _ m1 nm
      have s12 := s1.trans s2
      have hmv : mv S g level true = { S with calm := 0, ground := some (toward g level) } := by unfold mv; rw [hz, if_neg c']
      rw [hmv] at q
      have hg2 : gV S.ground = .int g := by rw [hg]; rfl
      refine ⟨_, rfl, _, rfl, p, C, dx, _, V.int g, rfl, h2, T.cl, T.n_ground, fl_get (i := 2) (fnd m _) (congrArg (fun v => some ((("ground" : Str)), v)) hg2), _, _, rfl, rfl, _, rfl, ?_⟩
      refine ite2 (fun c2 => ?_) (fun c2 => ?_)
      · have d2 : g < level := of_decide_eq_true c2
        refine ⟨_, rfl, p, C, dx, _, V.int g, rfl, h2, T.cl, T.n_ground, fl_get (i := 2) (fnd m _) (congrArg (fun v => some ((("ground" : Str)), v)) hg2), _, _, rfl, rfl, dx, _, _, h2, fl_len m _, put_ground m _ (g + 1), fun H3 h3 s3 => ?_⟩
        refine q H3 ⟨⟨dx, ?_⟩, s3 _ _ m2 nm⟩ (s12.trans s3)
        rw [h3]; unfold toward; rw [if_pos d2]
      · have d2 : ¬ g < level := fun y => c2 (decide_eq_true y)
        refine ⟨_, rfl, _, rfl, p, C, dx, _, V.int g, rfl, h2, T.cl, T.n_ground, fl_get (i := 2) (fnd m _) (congrArg (fun v => some ((("ground" : Str)), v)) hg2), _, _, rfl, rfl, _, rfl, ?_⟩
        refine ite2 (fun c3 => ?_) (fun c3 => ?_)
        · have d3 : level < g := of_decide_eq_true c3
          refine ⟨_, rfl, p, C, dx, _, V.int g, rfl, h2, T.cl, T.n_ground, fl_get (i := 2) (fnd m _) (congrArg (fun v => some ((("ground" : Str)), v)) hg2), _, _, rfl, rfl, dx, _, _, h2, fl_len m _, put_ground m _ (g - 1), fun H3 h3 s3 => ?_⟩
          refine q H3 ⟨⟨dx, ?_⟩, s3 _ _ m2 nm⟩ (s12.trans s3)
          rw [h3]; unfold toward; rw [if_neg d2, if_pos d3]
        · have d3 : ¬ level < g := fun y => c3 (decide_eq_true y)
          refine q H2 ⟨⟨dx, ?_⟩, m2⟩ s12
          rw [h2]; unfold toward; rw [if_neg d2, if_neg d3, ← hg]
  | false =>
    refine iteF ⟨_, rfl, p, C, dx, _, _, rfl, hp, T.cl, T.n_calm, fl_len m S, hab 0 rfl, fun H1 h1 s1 => ?_⟩
    generalize hz : clm S false = z at h1
    have m1 := s1 _ _ hm nm
    refine ⟨_, rfl, p, C, dx, _, _, rfl, h1, T.cl, T.n_calm, fl_get (i := 5) (fnd m _) rfl, _, _, rfl, rfl, _, rfl, ?_⟩
    refine ite2 (fun c1 => ?_) (fun c1 => ?_)
    · have c' : z < 4 := of_decide_eq_true c1
      refine q H1 ⟨⟨dx, ?_⟩, m1⟩ s1
      rw [h1]; unfold mv; rw [hz, if_pos c']
    · have c' : ¬ z < 4 := fun y => c1 (decide_eq_true y)
      refine ⟨_, rfl, p, C, dx, _, _, rfl, h1, T.cl, T.n_calm, fl_len m _, put_calm m _ 0, fun H2 h2 s2 => ?_⟩
      have m2 := s2 _ _ m1 nm
      have s12 := s1.trans s2
      have hmv : mv S g level false = { S with calm := 0, ground := some (toward g level) } := by unfold mv; rw [hz, if_neg c']
      rw [hmv] at q
      have hg2 : gV S.ground = .int g := by rw [hg]; rfl
      refine ⟨_, rfl, _, rfl, p, C, dx, _, V.int g, rfl, h2, T.cl, T.n_ground, fl_get (i := 2) (fnd m _) (congrArg (fun v => some ((("ground" : Str)), v)) hg2), _, _, rfl, rfl, _, rfl, ?_⟩
      refine ite2 (fun c2 => ?_) (fun c2 => ?_)
      · have d2 : g < level := of_decide_eq_true c2
        refine ⟨_, rfl, p, C, dx, _, V.int g, rfl, h2, T.cl, T.n_ground, fl_get (i := 2) (fnd m _) (congrArg (fun v => some ((("ground" : Str)), v)) hg2), _, _, rfl, rfl, dx, _, _, h2, fl_len m _, put_ground m _ (g + 1), fun H3 h3 s3 => ?_⟩
        refine q H3 ⟨⟨dx, ?_⟩, s3 _ _ m2 nm⟩ (s12.trans s3)
        rw [h3]; unfold toward; rw [if_pos d2]
      · have d2 : ¬ g < level := fun y => c2 (decide_eq_true y)
        refine ⟨_, rfl, _, rfl, p, C, dx, _, V.int g, rfl, h2, T.cl, T.n_ground, fl_get (i := 2) (fnd m _) (congrArg (fun v => some ((("ground" : Str)), v)) hg2), _, _, rfl, rfl, _, rfl, ?_⟩
        refine ite2 (fun c3 => ?_) (fun c3 => ?_)
        · have d3 : level < g := of_decide_eq_true c3
          refine ⟨_, rfl, p, C, dx, _, V.int g, rfl, h2, T.cl, T.n_ground, fl_get (i := 2) (fnd m _) (congrArg (fun v => some ((("ground" : Str)), v)) hg2), _, _, rfl, rfl, dx, _, _, h2, fl_len m _, put_ground m _ (g - 1), fun H3 h3 s3 => ?_⟩
          refine q H3 ⟨⟨dx, ?_⟩, s3 _ _ m2 nm⟩ (s12.trans s3)
          rw [h3]; unfold toward; rw [if_neg d2, if_pos d3]
        · have d3 : ¬ level < g := fun y => c3 (decide_eq_true y)
          refine q H2 ⟨⟨dx, ?_⟩, m2⟩ s12
          rw [h2]; unfold toward; rw [if_neg d2, if_neg d3, ← hg]
end
end K21

set_option Elab.async false
set_option linter.all false
set_option maxRecDepth 100000
set_option maxHeartbeats 4000000
namespace K21
open PySem L2
abbrev s_l_marks : Stmt := top 9
abbrev p_l_marks : List Str := ["_law_bag_here"]
theorem sc_l_marks : FnScope ["_law_bag_here", "_law_first"] p_l_marks (defScope s_l_marks) := ⟨rfl, rfl, rfl, by decide +kernel, rfl, by decide +kernel, by decide +kernel⟩
abbrev s_l_are_events : Stmt := top 10
abbrev p_l_are_events : List Str := ["_law_told"]
theorem sc_l_are_events : FnScope ["_law_told", "_law_event", "_law_some"] p_l_are_events (defScope s_l_are_events) := ⟨rfl, rfl, rfl, by decide +kernel, rfl, by decide +kernel, by decide +kernel⟩
theorem leSize {n : Nat} (h : n ≤ 1000) : n ≤ sizeLine := Nat.le_of_lt (small1000 h)
theorem get_ground {m : Addr} {S : Sk} {g : Int} (h : S.ground = some g) : (fl m S).lookup ("ground" : Str) = some (.int g) := fl_get (i := 2) (fnd m S) (by show some (("ground" : Str), gV S.ground) = _; rw [h]; rfl)
theorem ifVar {b : Bool} {σ : St} {H : Hp} {Q : VK} {i j : Nat} {x y : V} (hi : σ[i]? = some (some x)) (hj : σ[j]? = some (some y)) (q : Q (if b = true then x else y) H) : if b = true then tVar i σ H Q else tVar j σ H Q := by
  cases b with
  | true => exact ⟨x, hi, q⟩
  | false => exact ⟨y, hj, q⟩
theorem fst_len (S : Sk) (r : Bool) : (fstEv S r).length ≤ 1 := by unfold fstEv; split <;> simp
theorem tw_len (S : Sk) (r : Bool) : (twEv S r).length ≤ 1 := by unfold twEv; split <;> simp
theorem tw_ground (S : Sk) (a : Bool) : (tw S a).ground = S.ground := by unfold tw; split <;> rfl
theorem isi_list {K : PySem.W.Frag} {H : Hp} {a : Addr} {xs : List V} {Q : VK} (h : H a = some (.lst xs)) (q : Q (.bl true) H) : rIsi K [.ref a, .ty "list"] H Q := by
  unfold rIsi
  exact ⟨_, _, _, _, rfl, .lst h, by rfl, q⟩
def spMarks : Sp := fun vs H Q _ => ∃ (b : Addr) (n : Nat), vs = [.ref b] ∧ BagAt H b n ∧ n ≤ 9000 ∧ ∀ (t : Addr) (M : Mk3) (H' : Hp), 1 ≤ M.first → M.first ≤ 200 → M.first ≤ M.day → M.day ≤ 200 → M.first ≤ M.night → M.night ≤ 200 → H t = none → H' t = some (.tup [.int M.first, .int M.day, .int M.night]) →
  BagAt H' b (n + 4) → SameB b H H' → Q (.ref t) H'
def spEvents : Sp := fun vs H Q _ => ∃ (l : Addr) (xs : List V) (es : List Ev), vs = [.ref l] ∧ H l = some (.lst xs) ∧ EvsAt H xs es ∧ ∀ H', Same H H' → Q (.bl true) H'
theorem EvsAt.get {H : Hp} : ∀ {vs : List V} {es : List Ev} {i : Nat} {x : V}, EvsAt H vs es → vs[i]? = some x → ∃ e, es[i]? = some e ∧ EvAt H x e
  | _, _, _, _, .nil, h => by simp at h
  | _, _, 0, _, .cons a _, h => by simp at h; subst h; exact ⟨_, rfl, a⟩
  | _, _, i + 1, x, .cons _ t, h => by
    obtain ⟨e, h1, h2⟩ := t.get (i := i) (x := x) (by simpa using h)
    exact ⟨e, by simpa using h1, h2⟩
theorem in_first : inV (.str "first") [.str "first", .str "warning", .str "dirt"] = true := by decide +kernel
theorem in_warning : inV (.str "warning") [.str "first", .str "warning", .str "dirt"] = true := by decide +kernel
theorem in_dirt : inV (.str "dirt") [.str "first", .str "warning", .str "dirt"] = true := by decide +kernel
theorem fw : ¬ (V.str "first" = V.str "warning") := by decide +kernel
theorem dw : ¬ (V.str "dirt" = V.str "warning") := by decide +kernel
theorem BagAt.nb {H : Hp} {b p : Addr} {n : Nat} (h : BagAt H b n) (hp : H p = none) : b ≠ p := by obtain ⟨_, _, _, e, _⟩ := h; exact ne_of_none e hp
theorem BagAt.ntup {H : Hp} {b : Addr} {n : Nat} (h : BagAt H b n) : ∀ xs, H b ≠ some (.tup xs) := fun xs z => by obtain ⟨_, _, _, e, _⟩ := h; rw [e] at z; cases z
theorem BagAt.ex {H : Hp} {b : Addr} {n : Nat} (h : BagAt H b n) : ∃ o, H b = some o := by obtain ⟨_, _, _, e, _⟩ := h; exact ⟨_, e⟩
section
variable {P : Program} {w : World} {K : PySem.W.Frag} {mg : Str → Option Value} {base : Heap} {C : Addr}
theorem ok_ask (c : CodeM K C "ask" "Seeker.ask" s_Seeker_ask p_Seeker_ask) (T : Tx K mg C) (g_m_tell_first : GoodM P w K mg base C "tell_first" 1 p_Seeker_tell_first (spTf C)) (g_m_tell_warning : GoodM P w K mg base C "tell_warning" 1 p_Seeker_tell_warning (spTw C))
    (g_m_move_ground : GoodM P w K mg base C "move_ground" 1 p_Seeker_move_ground (spMv C)) : GoodM P w K mg base C "ask" 2 p_Seeker_ask (spAsk C) := by
  refine c.good sc_Seeker_ask (fun vs H Q E h => ?_) (fun f cdv A outer s H vs Q E hr h => ?_)
  · obtain ⟨p, m, M, S, level, r, rfl, _⟩ := h
    rfl
  obtain ⟨p, m, M, S, level, night, rfl, hS, q⟩ := h
  have nm := hS.ne
  obtain ⟨⟨dx, hp⟩, hm⟩ := id hS
  refine ⟨_, (pss_cons (ps_asg (pe_fld (pv 0) rfl) (pg_tup rfl (pgs_cons (pg_name (i := 3) sc_Seeker_ask.nd rfl (Or.inl rfl)) (pgs_cons (pg_name (i := 4) sc_Seeker_ask.nd rfl (Or.inl rfl)) (pgs_cons (pg_name (i := 5) sc_Seeker_ask.nd rfl (Or.inl rfl)) pgs_nil)))))
  (pss_cons (ps_set (i := 6) sc_Seeker_ask.nd rfl (Or.inl rfl) (pe_fld (pv 0) rfl))
  (pss_cons (ps_if (pt_cmpR op_isN (pv 6) pe_non (nomark _)) (pss_one (ps_fldE (pv 0) (pv 1) rfl)) pss_nil)
  (pss_cons (ps_set (i := 7) sc_Seeker_ask.nd rfl (Or.inl rfl) (pe_op op_sub (pv 1) (pe_fld (pv 0) rfl)))
  (pss_cons (ps_set (i := 8) sc_Seeker_ask.nd rfl (Or.inl rfl) (pmeth (pv 0) T.cl g_m_tell_first hr (pa_cons (pe_cmpR op_ge (pv 7) (pv 3) (nomark _)) pa_nil)))
  (pss_cons (ps_expr (pe_bm PySem.F.plainAttrs_list PySem.F.slot_list_extend PySem.F.type_list_extend mt_extend (pv 8) (pa_cons (pmeth (pv 0) T.cl g_m_tell_warning hr (pa_cons (pe_cmpR op_ge (pv 7) (pe_ifExp (pt_val (pv 2)) (pv 5) (pv 4)) (nomark _)) pa_nil)) pa_nil)))
  (pss_cons (ps_expr (pmeth (pv 0) T.cl g_m_move_ground hr (pa_cons (pv 1) (pa_cons (pe_cmpR op_lt (pv 7) (pv 3) (nomark _)) pa_nil))))
  (pss_cons (ps_if (PW.pt (pw_and (pt_cmpR op_ge (pe_fld (pv 0) rfl) (pe_cst rfl T.DIRTY_BASE) (nomark _)) (pw_and1 (PW.pt (pw_or (pt_cmpR op_isN (pv 6) pe_non (nomark _)) (pw_or1 (pt_cmpR op_lt (pv 6) (pe_cst rfl T.DIRTY_BASE) (nomark _)))))))) (pss_one (ps_expr (pe_bm PySem.F.plainAttrs_list PySem.F.slot_list_append PySem.F.type_list_append mt_append (pv 8) (pa_cons (pe_tup (pa_cons pe_str (pa_cons (pe_fld (pv 0) rfl) pa_nil))) pa_nil)))) pss_nil)
  (pss_cons (ps_fldaugE (pv 0) pe_int in_add)
  (pss_one (ps_ret (pv 8)))))))))))), ?_⟩
  refine ⟨_, rfl, p, C, dx, _, _, rfl, hp, T.cl, T.n_marks, fl_get (i := 0) (fnd m S) rfl, m, _, rfl, SqT.of hm, rfl, _, _, rfl, _, _, rfl, _, _, rfl, rfl, ?_⟩
  refine ⟨_, rfl, p, C, dx, _, _, rfl, hp, T.cl, T.n_ground, fl_get (i := 2) (fnd m S) rfl, ?_⟩
  refine ⟨_, rfl, rfl, _, rfl, ?_⟩
  cases eg : S.ground with
  | none =>
    have egV : gV S.ground = .non := by rw [eg]; rfl
    have hgnd : gnd S level = level := by unfold gnd; rw [eg]; rfl
    refine iteT ⟨_, rfl, _, rfl, p, C, dx, _, _, rfl, hp, T.cl, T.n_ground, fl_len m S, put_ground m S level, fun H1 h1 s1 => ?_⟩
    have g1 : H1 p = some (.ins C dx (fl m { S with ground := some (gnd S level) })) := by rw [hgnd]; exact h1
    have m1 := s1 _ _ hm nm
    -- rise, tell_first
    refine ⟨_, rfl, _, rfl, p, C, dx, _, _, rfl, g1, T.cl, T.n_ground, get_ground (S := { S with ground := some (gnd S level) }) rfl, _, _, rfl, rfl, ?_⟩
    refine ⟨_, rfl, p, dx, _, rfl, g1, fno (by decide +kernel), _, rfl, _, rfl, _, _, rfl, rfl, p, m, M, _, _, rfl, ⟨⟨dx, g1⟩, m1⟩, fun l1 xs1 H2 hl1 h2 ev1 hS2 s2 => ?_⟩
    have hS2 : SkAt C H2 p m M (ask1 M S level) := hS2
    obtain ⟨⟨dx2, p2⟩, m2⟩ := id hS2
    -- tell_warning, extend
    refine ⟨_, rfl, .inl ⟨rfl, _, SqL.of h2⟩, _, rfl, p, dx2, _, rfl, p2, fno (by decide +kernel), _, rfl, _, rfl, _, rfl, ifVar rfl rfl ⟨_, _, rfl, (show (if night = true then V.int M.night else V.int M.day) = V.int (if night = true then M.night else M.day) by cases night <;> rfl), ?_⟩⟩
    refine ⟨p, m, M, _, _, rfl, hS2, fun l2 xs2 H3 hl2 h3 ev2 hS3 s3 => ?_⟩
    have nl1 : l1 ≠ p := fun e => by rw [e, g1] at hl1; cases hl1
    have n12 : l1 ≠ l2 := ne_of_none h2 hl2
    have h31 := s3 _ _ h2 nl1
    have ev31 := ev1.tups (s3.tup hS2.notup)
    refine ⟨l1, l2, _, _, rfl, rfl, h31, h3, leSize (by rw [ev1.length, ev2.length]; have := fst_len { S with ground := some (gnd S level) } (decide (M.first ≤ level - gnd S level)); have := tw_len (ask1 M S level) (decide ((if night = true then M.night else M.day) ≤ level - gnd S level)); omega), ?_⟩
    have nt3 : ∀ ys, H3 l1 ≠ some (.tup ys) := fun ys e => by rw [h31] at e; cases e
    have hS4 : SkAt C (upd H3 l1 (.lst (xs1 ++ xs2))) p m M (ask2 M S level night) := hS3.same SameB.upd nl1.symm (fun e => by have := hS3.2; rw [e, h31] at this; cases this)
    have ev4 : EvsAt (upd H3 l1 (.lst (xs1 ++ xs2))) (xs1 ++ xs2) _ := (ev31.append ev2).tups (TupS.upd nt3)
    have h4 : (upd H3 l1 (.lst (xs1 ++ xs2))) l1 = some (.lst (xs1 ++ xs2)) := upd_same
    have s4 : SameB l1 H3 (upd H3 l1 (.lst (xs1 ++ xs2))) := SameB.upd
    generalize upd H3 l1 (.lst (xs1 ++ xs2)) = H4 at hS4 ev4 h4 s4 ⊢
    obtain ⟨⟨dx4, p4⟩, m4⟩ := id hS4
    -- move_ground
    refine ⟨_, rfl, p, dx4, _, rfl, p4, fno (by decide +kernel), _, rfl, _, rfl, _, rfl, _, _, rfl, rfl, p, m, M, _, gnd S level, level, _, rfl, hS4, tw_ground _ _, fun H5 hS5 s5 => ?_⟩
    have hS5 : SkAt C H5 p m M (ask3 M S level night) := hS5
    have hg5 : (ask3 M S level night).ground = some (newG M S level night) := mv_ground _ _ _ _ (tw_ground _ _)
    have h5 := s5 _ _ h4 nl1
    have ev5 := ev4.tups (s5.tup hS4.notup)
    obtain ⟨⟨dx5, p5⟩, m5⟩ := id hS5
    have ab : ∀ c o, H c = some o → c ≠ p → H5 c = some o := fun c o e n => s5 _ _ (s4 _ _ (s3 _ _ (s2 _ _ (s1 _ _ e n) n) n) (fun z => by subst z; rw [s1 _ _ e n] at hl1; cases hl1)) n
    have hl0 : H l1 = none := s1.free ⟨_, g1⟩ hl1
    have lenx : (xs1 ++ xs2).length ≤ 2 := by
      rw [ev5.length, List.length_append]
      have := fst_len { S with ground := some (gnd S level) } (decide (M.first ≤ level - gnd S level)); have := tw_len (ask1 M S level) (decide ((if night = true then M.night else M.day) ≤ level - gnd S level)); omega
    -- the end
    have fin : ∀ (xs : List V) (H6 : Hp), H6 l1 = some (.lst xs) → EvsAt H6 xs (askEv M S level night) → (∀ c o, H5 c = some o → c ≠ l1 → H6 c = some o) → H6 p = some (.ins C dx5 (fl m (ask3 M S level night))) ∧ ∀ H7, H7 p = some (.ins C dx5 (fl m (askS M S level night))) → SameB p H6 H7 → Q (.ref l1) H7 := fun xs H6 e6 ev6 s6 => by
      have p6 := s6 _ _ p5 nl1.symm
      have m6 := s6 _ _ m5 (fun e => by rw [← e, m5] at h5; cases h5)
      refine ⟨p6, fun H7 e7 s7 => q l1 xs H7 hl0 (s7 _ _ e6 nl1) (ev6.tups (s7.tup fun ys e => by rw [p6] at e; cases e)) ⟨⟨dx5, e7⟩, s7 _ _ m6 nm⟩ fun c o e n => ?_⟩
      exact s7 _ _ (s6 _ _ (ab c o e n) (fun z => by subst z; rw [e] at hl0; cases hl0)) n
    refine ⟨_, rfl, p, C, dx5, _, _, rfl, p5, T.cl, T.n_ground, get_ground hg5, _, _, rfl, rfl, _, rfl, ?_⟩
    have evq : askEv M S level night = (fstEv { S with ground := some (gnd S level) } (decide (M.first ≤ level - gnd S level)) ++ twEv (ask1 M S level) (decide ((if night = true then M.night else M.day) ≤ level - gnd S level))) ++
      (if (decide (100 ≤ newG M S level night) && below100 S.ground) = true then [.dirt (newG M S level night)] else []) := rfl
    rw [eg] at evq
    have none_more : (decide (100 ≤ newG M S level night) && below100 none) = false → EvsAt H5 (xs1 ++ xs2) (askEv M S level night) := fun e => by
      rw [evq, e]
      have := ev5
      rw [← List.append_nil (fstEv _ _ ++ _)] at this
      exact this
    have one_more : (decide (100 ≤ newG M S level night) && below100 none) = true → ∀ t, H5 t = none → EvsAt (upd (upd H5 t (.tup [.str "dirt", .int (newG M S level night)])) l1 (.lst ((xs1 ++ xs2) ++ [.ref t]))) ((xs1 ++ xs2) ++ [.ref t]) (askEv M S level night) := fun e t ht => by
      have st := same_new ht (.tup [.str "dirt", .int (newG M S level night)])
      have nt : ∀ ys, (upd H5 t (.tup [.str "dirt", .int (newG M S level night)])) l1 ≠ some (.tup ys) := fun ys z => by rw [st _ _ h5] at z; cases z
      rw [evq, e]
      refine EvsAt.append ((ev5.tups (TupS.of st)).tups (TupS.upd nt)) (.cons ⟨t, rfl, ?_⟩ .nil)
      rw [upd_ne (ne_of_none h5 ht).symm]
      exact upd_same
    refine ite2 (fun c1 => ?_) (fun c1 => ?_)
    · have c' : 100 ≤ newG M S level night := of_decide_eq_true c1
      have eq1 : (decide (100 ≤ newG M S level night) && below100 none) = true := by rw [decide_eq_true c']; rfl
      refine ⟨_, rfl, rfl, _, rfl, iteT (iteT ⟨_, rfl, .inl ⟨rfl, _, SqL.of h5⟩, _, rfl, p, C, dx5, _, _, rfl, p5, T.cl, T.n_ground, get_ground hg5, (by show 2 ≤ sizeLine; decide), fun t ht => ?_⟩)⟩
      have st := same_new ht (.tup [.str "dirt", .int (newG M S level night)])
      refine ⟨l1, _, _, rfl, rfl, st _ _ h5, small1000 (by omega), ?_⟩
      have fin' := fin _ _ upd_same (one_more eq1 t ht) (fun c o e n => by rw [upd_ne n]; exact st _ _ e)
      exact ⟨_, rfl, p, C, dx5, _, _, rfl, fin'.1, T.cl, T.n_asked, fl_get (i := 1) (fnd m _) rfl, _, _, rfl, rfl, dx5, _, _, fin'.1, fl_len m _, put_asked m _ _, fun H7 e7 s7 => ⟨_, rfl, fin'.2 H7 e7 s7⟩⟩
    · have c' : ¬ 100 ≤ newG M S level night := fun y => c1 (decide_eq_true y)
      have eq1 : (decide (100 ≤ newG M S level night) && below100 none) = false := by rw [decide_eq_false c']; rfl
      have fin' := fin (xs1 ++ xs2) H5 h5 (none_more eq1) (fun _ _ e _ => e)
      exact iteF ⟨_, rfl, p, C, dx5, _, _, rfl, fin'.1, T.cl, T.n_asked, fl_get (i := 1) (fnd m _) rfl, _, _, rfl, rfl, dx5, _, _, fin'.1, fl_len m _, put_asked m _ _, fun H7 e7 s7 => ⟨_, rfl, fin'.2 H7 e7 s7⟩⟩
  | some g =>
    have hgnd : gnd S level = g := by unfold gnd; rw [eg]; rfl
    refine iteF ?_
    have s1 := SameB.refl p H
    have g1 : H p = some (.ins C dx (fl m { S with ground := some (gnd S level) })) := by rw [hgnd, ← eg]; exact hp
    have m1 := s1 _ _ hm nm
    -- rise, tell_first
    refine ⟨_, rfl, _, rfl, p, C, dx, _, _, rfl, g1, T.cl, T.n_ground, get_ground (S := { S with ground := some (gnd S level) }) rfl, _, _, rfl, rfl, ?_⟩
    refine ⟨_, rfl, p, dx, _, rfl, g1, fno (by decide +kernel), _, rfl, _, rfl, _, _, rfl, rfl, p, m, M, _, _, rfl, ⟨⟨dx, g1⟩, m1⟩, fun l1 xs1 H2 hl1 h2 ev1 hS2 s2 => ?_⟩
    have hS2 : SkAt C H2 p m M (ask1 M S level) := hS2
    obtain ⟨⟨dx2, p2⟩, m2⟩ := id hS2
    -- tell_warning, extend
    refine ⟨_, rfl, .inl ⟨rfl, _, SqL.of h2⟩, _, rfl, p, dx2, _, rfl, p2, fno (by decide +kernel), _, rfl, _, rfl, _, rfl, ifVar rfl rfl ⟨_, _, rfl, (show (if night = true then V.int M.night else V.int M.day) = V.int (if night = true then M.night else M.day) by cases night <;> rfl), ?_⟩⟩
    refine ⟨p, m, M, _, _, rfl, hS2, fun l2 xs2 H3 hl2 h3 ev2 hS3 s3 => ?_⟩
    have nl1 : l1 ≠ p := fun e => by rw [e, g1] at hl1; cases hl1
    have n12 : l1 ≠ l2 := ne_of_none h2 hl2
    have h31 := s3 _ _ h2 nl1
    have ev31 := ev1.tups (s3.tup hS2.notup)
    refine ⟨l1, l2, _, _, rfl, rfl, h31, h3, leSize (by rw [ev1.length, ev2.length]; have := fst_len { S with ground := some (gnd S level) } (decide (M.first ≤ level - gnd S level)); have := tw_len (ask1 M S level) (decide ((if night = true then M.night else M.day) ≤ level - gnd S level)); omega), ?_⟩
    have nt3 : ∀ ys, H3 l1 ≠ some (.tup ys) := fun ys e => by rw [h31] at e; cases e
    have hS4 : SkAt C (upd H3 l1 (.lst (xs1 ++ xs2))) p m M (ask2 M S level night) := hS3.same SameB.upd nl1.symm (fun e => by have := hS3.2; rw [e, h31] at this; cases this)
    have ev4 : EvsAt (upd H3 l1 (.lst (xs1 ++ xs2))) (xs1 ++ xs2) _ := (ev31.append ev2).tups (TupS.upd nt3)
    have h4 : (upd H3 l1 (.lst (xs1 ++ xs2))) l1 = some (.lst (xs1 ++ xs2)) := upd_same
    have s4 : SameB l1 H3 (upd H3 l1 (.lst (xs1 ++ xs2))) := SameB.upd
    generalize upd H3 l1 (.lst (xs1 ++ xs2)) = H4 at hS4 ev4 h4 s4 ⊢
    obtain ⟨⟨dx4, p4⟩, m4⟩ := id hS4
    -- move_ground
    refine ⟨_, rfl, p, dx4, _, rfl, p4, fno (by decide +kernel), _, rfl, _, rfl, _, rfl, _, _, rfl, rfl, p, m, M, _, gnd S level, level, _, rfl, hS4, tw_ground _ _, fun H5 hS5 s5 => ?_⟩
    have hS5 : SkAt C H5 p m M (ask3 M S level night) := hS5
    have hg5 : (ask3 M S level night).ground = some (newG M S level night) := mv_ground _ _ _ _ (tw_ground _ _)
    have h5 := s5 _ _ h4 nl1
    have ev5 := ev4.tups (s5.tup hS4.notup)
    obtain ⟨⟨dx5, p5⟩, m5⟩ := id hS5
    have ab : ∀ c o, H c = some o → c ≠ p → H5 c = some o := fun c o e n => s5 _ _ (s4 _ _ (s3 _ _ (s2 _ _ (s1 _ _ e n) n) n) (fun z => by subst z; rw [s1 _ _ e n] at hl1; cases hl1)) n
    have hl0 : H l1 = none := s1.free ⟨_, g1⟩ hl1
    have lenx : (xs1 ++ xs2).length ≤ 2 := by
      rw [ev5.length, List.length_append]
      have := fst_len { S with ground := some (gnd S level) } (decide (M.first ≤ level - gnd S level)); have := tw_len (ask1 M S level) (decide ((if night = true then M.night else M.day) ≤ level - gnd S level)); omega
    -- the end
    have fin : ∀ (xs : List V) (H6 : Hp), H6 l1 = some (.lst xs) → EvsAt H6 xs (askEv M S level night) → (∀ c o, H5 c = some o → c ≠ l1 → H6 c = some o) → H6 p = some (.ins C dx5 (fl m (ask3 M S level night))) ∧ ∀ H7, H7 p = some (.ins C dx5 (fl m (askS M S level night))) → SameB p H6 H7 → Q (.ref l1) H7 := fun xs H6 e6 ev6 s6 => by
      have p6 := s6 _ _ p5 nl1.symm
      have m6 := s6 _ _ m5 (fun e => by rw [← e, m5] at h5; cases h5)
      refine ⟨p6, fun H7 e7 s7 => q l1 xs H7 hl0 (s7 _ _ e6 nl1) (ev6.tups (s7.tup fun ys e => by rw [p6] at e; cases e)) ⟨⟨dx5, e7⟩, s7 _ _ m6 nm⟩ fun c o e n => ?_⟩
      exact s7 _ _ (s6 _ _ (ab c o e n) (fun z => by subst z; rw [e] at hl0; cases hl0)) n
    refine ⟨_, rfl, p, C, dx5, _, _, rfl, p5, T.cl, T.n_ground, get_ground hg5, _, _, rfl, rfl, _, rfl, ?_⟩
    have evq : askEv M S level night = (fstEv { S with ground := some (gnd S level) } (decide (M.first ≤ level - gnd S level)) ++ twEv (ask1 M S level) (decide ((if night = true then M.night else M.day) ≤ level - gnd S level))) ++
      (if (decide (100 ≤ newG M S level night) && below100 S.ground) = true then [.dirt (newG M S level night)] else []) := rfl
    rw [eg] at evq
    have none_more : (decide (100 ≤ newG M S level night) && below100 (some g)) = false → EvsAt H5 (xs1 ++ xs2) (askEv M S level night) := fun e => by
      rw [evq, e]
      have := ev5
      rw [← List.append_nil (fstEv _ _ ++ _)] at this
      exact this
    have one_more : (decide (100 ≤ newG M S level night) && below100 (some g)) = true → ∀ t, H5 t = none → EvsAt (upd (upd H5 t (.tup [.str "dirt", .int (newG M S level night)])) l1 (.lst ((xs1 ++ xs2) ++ [.ref t]))) ((xs1 ++ xs2) ++ [.ref t]) (askEv M S level night) := fun e t ht => by
      have st := same_new ht (.tup [.str "dirt", .int (newG M S level night)])
      have nt : ∀ ys, (upd H5 t (.tup [.str "dirt", .int (newG M S level night)])) l1 ≠ some (.tup ys) := fun ys z => by rw [st _ _ h5] at z; cases z
      rw [evq, e]
      refine EvsAt.append ((ev5.tups (TupS.of st)).tups (TupS.upd nt)) (.cons ⟨t, rfl, ?_⟩ .nil)
      rw [upd_ne (ne_of_none h5 ht).symm]
      exact upd_same
    refine ite2 (fun c1 => ?_) (fun c1 => ?_)
    · have c' : 100 ≤ newG M S level night := of_decide_eq_true c1
      refine ⟨_, rfl, rfl, _, rfl, iteF ⟨_, rfl, _, _, rfl, rfl, _, rfl, ?_⟩⟩
      refine ite2 (fun c2 => ?_) (fun c2 => ?_)
      · have d' : g < 100 := of_decide_eq_true c2
        have eq1 : (decide (100 ≤ newG M S level night) && below100 (some g)) = true := by rw [decide_eq_true c']; exact decide_eq_true d'
        refine ⟨_, rfl, .inl ⟨rfl, _, SqL.of h5⟩, _, rfl, p, C, dx5, _, _, rfl, p5, T.cl, T.n_ground, get_ground hg5, (by show 2 ≤ sizeLine; decide), fun t ht => ?_⟩
        have st := same_new ht (.tup [.str "dirt", .int (newG M S level night)])
        refine ⟨l1, _, _, rfl, rfl, st _ _ h5, small1000 (by omega), ?_⟩
        have fin' := fin _ _ upd_same (one_more eq1 t ht) (fun c o e n => by rw [upd_ne n]; exact st _ _ e)
        exact ⟨_, rfl, p, C, dx5, _, _, rfl, fin'.1, T.cl, T.n_asked, fl_get (i := 1) (fnd m _) rfl, _, _, rfl, rfl, dx5, _, _, fin'.1, fl_len m _, put_asked m _ _, fun H7 e7 s7 => ⟨_, rfl, fin'.2 H7 e7 s7⟩⟩
      · have d' : ¬ g < 100 := fun y => c2 (decide_eq_true y)
        have eq1 : (decide (100 ≤ newG M S level night) && below100 (some g)) = false := by rw [decide_eq_true c']; exact decide_eq_false d'
        have fin' := fin (xs1 ++ xs2) H5 h5 (none_more eq1) (fun _ _ e _ => e)
        exact ⟨_, rfl, p, C, dx5, _, _, rfl, fin'.1, T.cl, T.n_asked, fl_get (i := 1) (fnd m _) rfl, _, _, rfl, rfl, dx5, _, _, fin'.1, fl_len m _, put_asked m _ _, fun H7 e7 s7 => ⟨_, rfl, fin'.2 H7 e7 s7⟩⟩
    · have c' : ¬ 100 ≤ newG M S level night := fun y => c1 (decide_eq_true y)
      have eq1 : (decide (100 ≤ newG M S level night) && below100 (some g)) = false := by rw [decide_eq_false c']; rfl
      have fin' := fin (xs1 ++ xs2) H5 h5 (none_more eq1) (fun _ _ e _ => e)
      exact iteF ⟨_, rfl, p, C, dx5, _, _, rfl, fin'.1, T.cl, T.n_asked, fl_get (i := 1) (fnd m _) rfl, _, _, rfl, rfl, dx5, _, _, fin'.1, fl_len m _, put_asked m _ _, fun H7 e7 s7 => ⟨_, rfl, fin'.2 H7 e7 s7⟩⟩
theorem at2 {i : Int} (h0 : 0 ≤ i) (h2 : i < 2) {a b : Int} (P : Int → Prop) (ha : P a) (hb : P b) : ∃ p, atI [V.int a, .int b] i = some (.int p) ∧ P p := by
  have : i = 0 ∨ i = 1 := by omega
  rcases this with rfl | rfl
  · exact ⟨_, rfl, ha⟩
  · exact ⟨_, rfl, hb⟩
theorem ok_l_marks (c : Code K mg "_law_marks" s_l_marks p_l_marks) (T : Nm mg) (g_l_take : Good P w K mg base "_law_take" 1 p_l_take spTake) : Good P w K mg base "_law_marks" 2 p_l_marks spMarks := by
  refine c.good sc_l_marks (fun vs H Q E h => ?_) (fun f cdv A outer s H vs Q E hr h => ?_)
  · obtain ⟨b, n, rfl, _⟩ := h
    rfl
  obtain ⟨b, n, rfl, hb, hn, q⟩ := h
  refine ⟨_, (pss_cons (ps_set (i := 1) sc_l_marks.nd rfl (Or.inl rfl) (pe_op op_add pe_int (pcall g_l_take hr (pa_cons (pv 0) (pa_cons (pe_ix ix_list (pe_lst (pa_cons pe_int (pa_cons pe_int pa_nil))) (pcall g_l_take hr (pa_cons (pv 0) (pa_cons pe_int pa_nil))) (fun _ _ => rfl)) pa_nil)))))
  (pss_one (ps_ret (pe_tup (pa_cons (pv 1) (pa_cons (pe_op op_add (pv 1) (pcall g_l_take hr (pa_cons (pv 0) (pa_cons (pe_op op_sub pe_int (pv 1)) pa_nil)))) (pa_cons (pe_op op_add (pv 1) (pcall g_l_take hr (pa_cons (pv 0) (pa_cons (pe_op op_sub pe_int (pv 1)) pa_nil)))) pa_nil))))))), ?_⟩
  refine ⟨_, rfl, (by show 2 ≤ sizeLine; decide), fun l hl => ?_⟩
  have s0 := same_new hl (.lst [.int 8, .int 200])
  refine ⟨_, rfl, b, n, 2, rfl, hb.same s0, by omega, by decide, by decide, fun r1 H1 r10 r11 hb1 sb1 => ?_⟩
  obtain ⟨z, ez, z0, z1⟩ := at2 r10 r11 (a := 8) (b := 200) (fun p => 0 < p ∧ p ≤ 200) (by decide) (by decide)
  refine ⟨l, _, _, _, rfl, rfl, SqL.of (sb1 _ _ upd_same (hb.nb hl).symm), ez, b, n + 1, z, rfl, hb1, by omega, z0, by omega, fun r2 H2 r20 r21 hb2 sb2 => ⟨_, _, rfl, rfl, ?_⟩⟩
  refine ⟨_, rfl, _, rfl, _, rfl, _, rfl, _, _, rfl, rfl, b, n + 2, _, rfl, hb2, by omega, by omega, by omega, fun r3 H3 r30 r31 hb3 sb3 => ⟨_, _, rfl, rfl, ?_⟩⟩
  refine ⟨_, rfl, _, rfl, _, rfl, _, _, rfl, rfl, b, n + 3, _, rfl, hb3, by omega, by omega, by omega, fun r4 H4 r40 r41 hb4 sb4 => ⟨_, _, rfl, rfl, ?_⟩⟩
  refine ⟨(by show 3 ≤ sizeLine; decide), fun t ht => ?_⟩
  have s5 := same_new ht (.tup [.int (1 + r2), .int (1 + r2 + r3), .int (1 + r2 + r4)])
  have sb : SameB b H H4 := ((SameB.of s0).trans sb1).trans (sb2.trans (sb3.trans sb4))
  exact q t ⟨1 + r2, 1 + r2 + r3, 1 + r2 + r4⟩ _ (by show 1 ≤ 1 + r2; omega) (by show 1 + r2 ≤ 200; omega) (by show 1 + r2 ≤ 1 + r2 + r3; omega) (by show 1 + r2 + r3 ≤ 200; omega) (by show 1 + r2 ≤ 1 + r2 + r4; omega) (by show 1 + r2 + r4 ≤ 200; omega)
    (sb.free hb4.ex ht) upd_same (hb4.same s5) (sb.trans (SameB.of s5))
theorem ok_l_are_events (c : Code K mg "_law_are_events" s_l_are_events p_l_are_events) (T : Nm mg) (g_l_whole : Good P w K mg base "_law_whole" 1 p_l_whole spWhole) : Good P w K mg base "_law_are_events" 2 p_l_are_events spEvents := by
  refine c.good sc_l_are_events (fun vs H Q E h => ?_) (fun f cdv A outer s H vs Q E hr h => ?_)
  · obtain ⟨l, xs, es, rfl, _⟩ := h
    rfl
  obtain ⟨l, xs, es, rfl, hl, ev, q⟩ := h
  refine ⟨_, (pss_cons (ps_if (pt_not (pt_val (pe_callB call_isi rfl T.isinstance bt_isinstance (pa_cons (pv 0) (pa_cons (pe_bltn (v := .ty "list") rfl T.list bt_list rfl) pa_nil))))) (pss_one (ps_ret pe_bl)) pss_nil)
  (pss_cons (ps_for PassesOwn.never rfl (pi_list (pv 0)) (pg_name (i := 1) sc_l_are_events.nd rfl (Or.inl rfl))
  (pss_cons (ps_if (PW.pt (pw_or (pt_not (pt_val (pe_callB call_isi rfl T.isinstance bt_isinstance (pa_cons (pv 1) (pa_cons (pe_bltn (v := .ty "tuple") rfl T.tuple bt_tuple rfl) pa_nil))))) (pw_or (pt_cmpR op_ne (pe_callB call_len_seq rfl T.len bt_len (pa_cons (pv 1) pa_nil)) pe_int (nomark _)) (pw_or1 (pt_cmpR op_notIn_seq (pe_ix ix_tup (pv 1) pe_int (fun _ _ => rfl)) (pe_tup (pa_cons pe_str (pa_cons pe_str (pa_cons pe_str pa_nil)))) (by with_unfolding_all rfl)))))) (pss_one (ps_ret pe_bl)) pss_nil)
  (pss_cons (ps_set (i := 2) sc_l_are_events.nd rfl (Or.inl rfl) (pe_ifExp (pt_cmpR op_eq (pe_ix ix_tup (pv 1) pe_int (fun _ _ => rfl)) pe_str (nomark _)) (pe_ix ix_tup (pv 1) pe_int (fun _ _ => rfl)) (pe_tup (pa_cons (pe_ix ix_tup (pv 1) pe_int (fun _ _ => rfl)) pa_nil))))
  (pss_one (ps_if (PW.pt (pw_or (pt_not (pt_val (pe_callB call_isi rfl T.isinstance bt_isinstance (pa_cons (pv 2) (pa_cons (pe_bltn (v := .ty "tuple") rfl T.tuple bt_tuple rfl) pa_nil))))) (pw_or1 (pt_cmpR op_in_seq pe_bl (pe_comp (N' := ["_law_one"]) rfl (CScope.plain rfl (by decide +kernel) (by decide +kernel) (by decide +kernel)) (pi_tup (pv 2)) (fun _ _ _ _ => (pg_name (i := 0) (show List.Nodup (["_law_one"] : List Str) by decide +kernel) rfl (Or.inl rfl))) (fun _ _ _ _ => pf_nil) (fun _ _ _ _ => (pcall g_l_whole hr (pa_cons (pv 0) pa_nil)))) (by with_unfolding_all rfl))))) (pss_one (ps_ret pe_bl)) pss_nil)))))
  (pss_one (ps_ret pe_bl)))), ?_⟩
  refine ⟨_, rfl, isi_list hl ⟨_, rfl, iteF ?_⟩⟩
  refine ⟨_, rfl, l, rfl, ⟨xs, SqL.of hl⟩, for_list (xs := xs) (fun i σ H' => Same H H' ∧ ∃ u v, σ = [some (.ref l), u, v]) ⟨Same.refl H, _, _, rfl⟩ (fun i σ H' _ h => ?_) (fun i x σ H' hx h => ?_) (fun σ H' h => ?_)⟩
  · exact SqL.of (h.1 _ _ hl)
  · obtain ⟨sm, u, v, rfl⟩ := h
    obtain ⟨e, _, ea⟩ := ev.get hx
    have ea := ea.tups (TupS.of sm)
    cases e with
    | first n =>
      obtain ⟨t, rfl, et⟩ := ea
      refine ⟨_, rfl, isi_tuple (.inr ⟨_, et⟩) ⟨_, rfl, ?_⟩⟩
      rw [tupOf_at et]
      refine iteF ⟨_, rfl, t, _, rfl, .inr (SqT.of et), rfl, _, rfl, iteF ?_⟩
      refine ⟨_, rfl, t, _, _, _, rfl, rfl, SqT.of et, rfl, (by show 3 ≤ sizeLine; decide), fun q1 hq1 => ?_⟩
      have s1 := same_new hq1 (.tup [.str "first", .str "warning", .str "dirt"])
      refine ⟨q1, _, rfl, .inr (SqT.of upd_same), rfl, rfl, _, rfl, ?_⟩
      rw [show (if true = true then !inV (V.str "first") [V.str "first", .str "warning", .str "dirt"] else inV (V.str "first") [V.str "first", .str "warning", .str "dirt"]) = false by rw [in_first]; rfl]
      have et1 := s1 _ _ et
      refine iteF ⟨_, rfl, t, _, _, _, rfl, rfl, SqT.of et1, rfl, rfl, _, rfl, ?_⟩
      rw [decide_eq_false fw]
      refine iteF ⟨_, rfl, t, _, _, _, rfl, rfl, SqT.of et1, rfl, (by show 1 ≤ sizeLine; decide), fun q2 hq2 => ?_⟩
      have s2 := same_new hq2 (.tup [.int n])
      refine ⟨_, rfl, isi_tuple (.inr ⟨_, upd_same⟩) ⟨_, rfl, ?_⟩⟩
      rw [tupOf_at upd_same]
      refine iteF ⟨_, rfl, q2, rfl, ⟨_, SqT.of upd_same⟩, fun l2 hl2 => ?_⟩
      refine comp_tup (xs := [V.int n]) (fun i σ HH => ∃ u, σ = [u] ∧ HH = upd (upd (upd H' q1 (.tup [.str "first", .str "warning", .str "dirt"])) q2 (.tup [.int n])) l2 (.lst (List.replicate i (V.bl true)))) ⟨none, rfl, rfl⟩ (fun i σ H' _ h => ?_) (fun i x σ H' hx h => ?_) (fun σ H' h => ?_)
      · obtain ⟨u, rfl, rfl⟩ := h
        exact SqT.of (same_new hl2 _ _ _ upd_same)
      · obtain ⟨u, rfl, rfl⟩ := h
        obtain ⟨z, rfl⟩ : ∃ z, x = V.int z := by
          have hm := List.mem_of_getElem? hx
          simp only [List.mem_cons, List.not_mem_nil, or_false] at hm
          exact ⟨_, hm⟩
        have hi : i < 1 := (List.getElem?_eq_some_iff.mp hx).1
        refine ⟨_, rfl, _, rfl, True.intro, _, upd_same, small1000 (by rw [List.length_replicate]; omega), _, rfl, ?_⟩
        rw [upd_upd, List.replicate_succ']
        rfl
      · obtain ⟨u, rfl, rfl⟩ := h
        refine ⟨l2, _, rfl, .inl (SqL.of upd_same), rfl, rfl, _, rfl, ?_⟩
        refine iteF ⟨?_, _, _, rfl⟩
        exact sm.trans ((s1.trans s2).trans (same_new hl2 _))
    | warning a b c =>
      obtain ⟨t, u2, rfl, et, eu⟩ := ea
      refine ⟨_, rfl, isi_tuple (.inr ⟨_, et⟩) ⟨_, rfl, ?_⟩⟩
      rw [tupOf_at et]
      refine iteF ⟨_, rfl, t, _, rfl, .inr (SqT.of et), rfl, _, rfl, iteF ?_⟩
      refine ⟨_, rfl, t, _, _, _, rfl, rfl, SqT.of et, rfl, (by show 3 ≤ sizeLine; decide), fun q1 hq1 => ?_⟩
      have s1 := same_new hq1 (.tup [.str "first", .str "warning", .str "dirt"])
      refine ⟨q1, _, rfl, .inr (SqT.of upd_same), rfl, rfl, _, rfl, ?_⟩
      rw [show (if true = true then !inV (V.str "warning") [V.str "first", .str "warning", .str "dirt"] else inV (V.str "warning") [V.str "first", .str "warning", .str "dirt"]) = false by rw [in_warning]; rfl]
      have et1 := s1 _ _ et
      refine iteF ⟨_, rfl, t, _, _, _, rfl, rfl, SqT.of et1, rfl, rfl, _, rfl, ?_⟩
      refine iteT ⟨_, rfl, t, _, _, _, rfl, rfl, SqT.of et1, rfl, ?_⟩
      have eu1 := s1 _ _ eu
      refine ⟨_, rfl, isi_tuple (.inr ⟨_, eu1⟩) ⟨_, rfl, ?_⟩⟩
      rw [tupOf_at eu1]
      refine iteF ⟨_, rfl, u2, rfl, ⟨_, SqT.of eu1⟩, fun l2 hl2 => ?_⟩
      refine comp_tup (xs := [V.int a, .int b, .int c]) (fun i σ HH => ∃ u, σ = [u] ∧ HH = upd (upd H' q1 (.tup [.str "first", .str "warning", .str "dirt"])) l2 (.lst (List.replicate i (V.bl true)))) ⟨none, rfl, rfl⟩ (fun i σ H' _ h => ?_) (fun i x σ H' hx h => ?_) (fun σ H' h => ?_)
      · obtain ⟨u, rfl, rfl⟩ := h
        exact SqT.of (same_new hl2 _ _ _ eu1)
      · obtain ⟨u, rfl, rfl⟩ := h
        obtain ⟨z, rfl⟩ : ∃ z, x = V.int z := by
          have hm := List.mem_of_getElem? hx
          simp only [List.mem_cons, List.not_mem_nil, or_false] at hm
          rcases hm with h | h | h <;> exact ⟨_, h⟩
        have hi : i < 3 := (List.getElem?_eq_some_iff.mp hx).1
        refine ⟨_, rfl, _, rfl, True.intro, _, upd_same, small1000 (by rw [List.length_replicate]; omega), _, rfl, ?_⟩
        rw [upd_upd, List.replicate_succ']
        rfl
      · obtain ⟨u, rfl, rfl⟩ := h
        refine ⟨l2, _, rfl, .inl (SqL.of upd_same), rfl, rfl, _, rfl, ?_⟩
        refine iteF ⟨?_, _, _, rfl⟩
        exact sm.trans (s1.trans (same_new hl2 _))
    | dirt n =>
      obtain ⟨t, rfl, et⟩ := ea
      refine ⟨_, rfl, isi_tuple (.inr ⟨_, et⟩) ⟨_, rfl, ?_⟩⟩
      rw [tupOf_at et]
      refine iteF ⟨_, rfl, t, _, rfl, .inr (SqT.of et), rfl, _, rfl, iteF ?_⟩
      refine ⟨_, rfl, t, _, _, _, rfl, rfl, SqT.of et, rfl, (by show 3 ≤ sizeLine; decide), fun q1 hq1 => ?_⟩
      have s1 := same_new hq1 (.tup [.str "first", .str "warning", .str "dirt"])
      refine ⟨q1, _, rfl, .inr (SqT.of upd_same), rfl, rfl, _, rfl, ?_⟩
      rw [show (if true = true then !inV (V.str "dirt") [V.str "first", .str "warning", .str "dirt"] else inV (V.str "dirt") [V.str "first", .str "warning", .str "dirt"]) = false by rw [in_dirt]; rfl]
      have et1 := s1 _ _ et
      refine iteF ⟨_, rfl, t, _, _, _, rfl, rfl, SqT.of et1, rfl, rfl, _, rfl, ?_⟩
      rw [decide_eq_false dw]
      refine iteF ⟨_, rfl, t, _, _, _, rfl, rfl, SqT.of et1, rfl, (by show 1 ≤ sizeLine; decide), fun q2 hq2 => ?_⟩
      have s2 := same_new hq2 (.tup [.int n])
      refine ⟨_, rfl, isi_tuple (.inr ⟨_, upd_same⟩) ⟨_, rfl, ?_⟩⟩
      rw [tupOf_at upd_same]
      refine iteF ⟨_, rfl, q2, rfl, ⟨_, SqT.of upd_same⟩, fun l2 hl2 => ?_⟩
      refine comp_tup (xs := [V.int n]) (fun i σ HH => ∃ u, σ = [u] ∧ HH = upd (upd (upd H' q1 (.tup [.str "first", .str "warning", .str "dirt"])) q2 (.tup [.int n])) l2 (.lst (List.replicate i (V.bl true)))) ⟨none, rfl, rfl⟩ (fun i σ H' _ h => ?_) (fun i x σ H' hx h => ?_) (fun σ H' h => ?_)
      · obtain ⟨u, rfl, rfl⟩ := h
        exact SqT.of (same_new hl2 _ _ _ upd_same)
      · obtain ⟨u, rfl, rfl⟩ := h
        obtain ⟨z, rfl⟩ : ∃ z, x = V.int z := by
          have hm := List.mem_of_getElem? hx
          simp only [List.mem_cons, List.not_mem_nil, or_false] at hm
          exact ⟨_, hm⟩
        have hi : i < 1 := (List.getElem?_eq_some_iff.mp hx).1
        refine ⟨_, rfl, _, rfl, True.intro, _, upd_same, small1000 (by rw [List.length_replicate]; omega), _, rfl, ?_⟩
        rw [upd_upd, List.replicate_succ']
        rfl
      · obtain ⟨u, rfl, rfl⟩ := h
        refine ⟨l2, _, rfl, .inl (SqL.of upd_same), rfl, rfl, _, rfl, ?_⟩
        refine iteF ⟨?_, _, _, rfl⟩
        exact sm.trans ((s1.trans s2).trans (same_new hl2 _))
  · exact q H' h.1
end
end K21

set_option Elab.async false
set_option linter.all false
set_option maxRecDepth 100000
set_option maxHeartbeats 4000000
namespace K21
open PySem L2
def Ev.word : Ev → Str
  | .first _ => "first"
  | .warning _ _ _ => "warning"
  | .dirt _ => "dirt"
def Ev.data : Ev → PyData
  | .first n => .tuple [.str "first", .int n]
  | .warning a b c => .tuple [.str "warning", .tuple [.int a, .int b, .int c]]
  | .dirt n => .tuple [.str "dirt", .int n]
def evsD (es : List Ev) : PyData := .list (es.map Ev.data)
theorem EvAt.rep {H : Hp} {v : V} {e : Ev} (h : EvAt H v e) : Rep H v e.data := by
  cases e with
  | first n => obtain ⟨t, rfl, e⟩ := h; exact .tup e (.cons (.str _) (.cons (.int _) .nil))
  | warning a b c => obtain ⟨t, u, rfl, e, e2⟩ := h; exact .tup e (.cons (.str _) (.cons (.tup e2 (.cons (.int _) (.cons (.int _) (.cons (.int _) .nil)))) .nil))
  | dirt n => obtain ⟨t, rfl, e⟩ := h; exact .tup e (.cons (.str _) (.cons (.int _) .nil))
theorem EvsAt.reps {H : Hp} : ∀ {vs : List V} {es : List Ev}, EvsAt H vs es → Reps H vs (es.map Ev.data)
  | _, _, .nil => .nil
  | _, _, .cons h t => .cons h.rep t.reps
theorem EvsAt.repL {H : Hp} {l : Addr} {vs : List V} {es : List Ev} (h : EvsAt H vs es) (e : H l = some (.lst vs)) : Rep H (.ref l) (evsD es) := .lst e h.reps
theorem ev_lay (e : Ev) : e.data.canLay0 = true ∧ e.data.depth ≤ 2 := by
  cases e with
  | first n => exact ⟨by show (PyData.canLay0 (.str "first") && (true && true)) = true; decide +kernel, by show max 0 (max 0 0) + 1 ≤ 2; decide⟩
  | warning a b c => exact ⟨by show (PyData.canLay0 (.str "warning") && ((true && (true && (true && true))) && true)) = true; decide +kernel, by show max 0 (max (max 0 (max 0 (max 0 0)) + 1) 0) + 1 ≤ 2; decide⟩
  | dirt n => exact ⟨by show (PyData.canLay0 (.str "dirt") && (true && true)) = true; decide +kernel, by show max 0 (max 0 0) + 1 ≤ 2; decide⟩
theorem evs_lay : ∀ es : List Ev, PyData.canLayAll0 (es.map Ev.data) = true ∧ PyData.depthAll (es.map Ev.data) ≤ 2
  | [] => ⟨rfl, by show 0 ≤ 2; decide⟩
  | e :: es => ⟨by show (e.data.canLay0 && PyData.canLayAll0 (es.map Ev.data)) = true; rw [(ev_lay e).1, (evs_lay es).1]; rfl,
      by show max e.data.depth (PyData.depthAll (es.map Ev.data)) ≤ 2; exact Nat.max_le.mpr ⟨(ev_lay e).2, (evs_lay es).2⟩⟩
theorem evs_shaped (es : List Ev) : SeqAt.shaped (evsD es) = true := by
  show (PyData.canLayAll0 (es.map Ev.data) && decide (PyData.depthAll (es.map Ev.data) + 1 ≤ 64)) = true
  rw [(evs_lay es).1, Bool.true_and]
  exact decide_eq_true (by have := (evs_lay es).2; omega)
theorem evs_eqv (es : List Ev) : PyData.eqv (evsD es) (evsD es) = true := SeqAt.eqv_refl _ (SeqAt.canLay_of_shaped (evs_shaped es))
theorem EvAt.tup {H : Hp} {v : V} {e : Ev} (h : EvAt H v e) : ∃ t y, v = .ref t ∧ H t = some (.tup [.str e.word, y]) := by
  cases e with
  | first n => obtain ⟨t, rfl, e⟩ := h; exact ⟨t, _, rfl, e⟩
  | warning a b c => obtain ⟨t, u, rfl, e, e2⟩ := h; exact ⟨t, _, rfl, e⟩
  | dirt n => obtain ⟨t, rfl, e⟩ := h; exact ⟨t, _, rfl, e⟩
def isWord (w : Str) (e : Ev) : Bool := decide (V.str e.word = V.str w)
theorem filter_take_succ {es : List Ev} {i : Nat} {e : Ev} (p : Ev → Bool) (h : es[i]? = some e) : (es.take (i + 1)).filter p = (es.take i).filter p ++ (if p e = true then [e] else []) := by
  rw [List.take_succ, h, List.filter_append]
  cases q : p e <;> simp [q]
theorem ff (n : Int) : isWord "first" (.first n) = true := show decide (V.str "first" = V.str "first") = true by decide +kernel
theorem wf (a b c : Int) : isWord "first" (.warning a b c) = false := show decide (V.str "warning" = V.str "first") = false by decide +kernel
theorem df (n : Int) : isWord "first" (.dirt n) = false := show decide (V.str "dirt" = V.str "first") = false by decide +kernel
theorem fw' (n : Int) : isWord "warning" (.first n) = false := show decide (V.str "first" = V.str "warning") = false by decide +kernel
theorem ww (a b c : Int) : isWord "warning" (.warning a b c) = true := show decide (V.str "warning" = V.str "warning") = true by decide +kernel
theorem dw' (n : Int) : isWord "warning" (.dirt n) = false := show decide (V.str "dirt" = V.str "warning") = false by decide +kernel
theorem fd (n : Int) : isWord "dirt" (.first n) = false := show decide (V.str "first" = V.str "dirt") = false by decide +kernel
theorem wd (a b c : Int) : isWord "dirt" (.warning a b c) = false := show decide (V.str "warning" = V.str "dirt") = false by decide +kernel
theorem dd (n : Int) : isWord "dirt" (.dirt n) = true := show decide (V.str "dirt" = V.str "dirt") = true by decide +kernel
theorem fil1 {p : Ev → Bool} {c : Prop} [Decidable c] {e : Ev} (h : p e = true) : (if c then [e] else []).filter p = if c then [e] else [] := by split <;> simp [h]
theorem fil0 {p : Ev → Bool} {c : Prop} [Decidable c] {e : Ev} (h : p e = false) : (if c then [e] else []).filter p = [] := by split <;> simp [h]
theorem fil0' {p : Ev → Bool} {c : Prop} [Decidable c] {e : Ev} (h : p e = false) : (if c then [] else [e]).filter p = [] := by split <;> simp [h]
theorem fil1' {p : Ev → Bool} {c : Prop} [Decidable c] {e : Ev} (h : p e = true) : (if c then [] else [e]).filter p = if c then [] else [e] := by split <;> simp [h]
theorem ev_first (M : Mk3) (S : Sk) (level : Int) (night : Bool) : (askEv M S level night).filter (isWord "first") = fstEv { S with ground := some (gnd S level) } (decide (M.first ≤ level - gnd S level)) := by
  unfold askEv fstEv twEv
  rw [List.filter_append, List.filter_append, fil1 (p := isWord "first") (ff _), fil0' (p := isWord "first") (wf _ _ _), fil0 (p := isWord "first") (df _), List.append_nil, List.append_nil]
theorem ev_warning (M : Mk3) (S : Sk) (level : Int) (night : Bool) : (askEv M S level night).filter (isWord "warning") = twEv (ask1 M S level) (decide ((if night = true then M.night else M.day) ≤ level - gnd S level)) := by
  unfold askEv fstEv twEv
  rw [List.filter_append, List.filter_append, fil0 (p := isWord "warning") (fw' _), fil1' (p := isWord "warning") (ww _ _ _), fil0 (p := isWord "warning") (dw' _), List.nil_append, List.append_nil]
theorem ev_dirt (M : Mk3) (S : Sk) (level : Int) (night : Bool) : (askEv M S level night).filter (isWord "dirt") = if (decide (100 ≤ newG M S level night) && below100 S.ground) = true then [.dirt (newG M S level night)] else [] := by
  unfold askEv fstEv twEv
  rw [List.filter_append, List.filter_append, fil0 (p := isWord "dirt") (fd _), fil0' (p := isWord "dirt") (wd _ _ _), fil1 (p := isWord "dirt") (dd _), List.nil_append, List.nil_append]
theorem ask_len (M : Mk3) (S : Sk) (level : Int) (night : Bool) : (askEv M S level night).length ≤ 3 := by
  unfold askEv
  rw [List.length_append, List.length_append]
  have h1 := fst_len { S with ground := some (gnd S level) } (decide (M.first ≤ level - gnd S level))
  have h2 := tw_len (ask1 M S level) (decide ((if night = true then M.night else M.day) ≤ level - gnd S level))
  have h3 : (if (decide (100 ≤ newG M S level night) && below100 S.ground) = true then [Ev.dirt (newG M S level night)] else []).length ≤ 1 := by split <;> simp
  omega
end K21

set_option Elab.async false
set_option linter.all false
set_option maxRecDepth 100000
set_option maxHeartbeats 4000000
namespace K21
open PySem L2
theorem tw_asked (S : Sk) (a : Bool) : (tw S a).asked = S.asked ∧ (tw S a).risen = S.risen := by unfold tw; split <;> exact ⟨rfl, rfl⟩
theorem mv_asked (S : Sk) (g l : Int) (c : Bool) : (mv S g l c).asked = S.asked ∧ (mv S g l c).risen = S.risen := by unfold mv; split <;> exact ⟨rfl, rfl⟩
theorem askS_asked (M : Mk3) (S : Sk) (level : Int) (night : Bool) : (askS M S level night).asked = S.asked + 1 := by
  show (ask3 M S level night).asked + 1 = S.asked + 1
  unfold ask3 ask2
  rw [(mv_asked _ _ _ _).1, (tw_asked _ _).1]
  rfl
theorem askS_risen (M : Mk3) (S : Sk) (level : Int) (night : Bool) : (askS M S level night).risen = decide (M.first ≤ level - gnd S level) := by
  show (ask3 M S level night).risen = _
  unfold ask3 ask2
  rw [(mv_asked _ _ _ _).2, (tw_asked _ _).2]
  rfl
theorem askS_ground (M : Mk3) (S : Sk) (level : Int) (night : Bool) : (askS M S level night).ground = some (newG M S level night) := mv_ground _ _ _ _ (tw_ground _ _)
theorem tw_warning (S : Sk) (a : Bool) : (tw S a).warning = (S.warning || !decide (abv S a < 3)) ∧ (tw S a).above = abv S a := by
  unfold tw
  cases S.warning with
  | true => exact ⟨rfl, rfl⟩
  | false => cases e : decide (abv S a < 3) <;> exact ⟨rfl, rfl⟩
theorem mv_warning (S : Sk) (g l : Int) (c : Bool) : (mv S g l c).warning = S.warning ∧ (mv S g l c).above = S.above := by unfold mv; split <;> exact ⟨rfl, rfl⟩
theorem askS_warning (M : Mk3) (S : Sk) (level : Int) (night : Bool) : (askS M S level night).warning = (S.warning || !decide (abv S (decide ((if night = true then M.night else M.day) ≤ level - gnd S level)) < 3)) ∧ (askS M S level night).above = abv S (decide ((if night = true then M.night else M.day) ≤ level - gnd S level)) := by
  show (ask3 M S level night).warning = _ ∧ (ask3 M S level night).above = _
  unfold ask3 ask2
  rw [(mv_warning _ _ _ _).1, (mv_warning _ _ _ _).2, (tw_warning _ _).1, (tw_warning _ _).2]
  exact ⟨rfl, rfl⟩
theorem tw_calm (S : Sk) (a : Bool) : (tw S a).calm = S.calm := by unfold tw; split <;> rfl
/-- a level at the base, or above it by the first mark or more, leaves the base -/
theorem still_newG {S : Sk} {M : Mk3} {g v : Int} {night : Bool} (hv : v = 0 ∨ M.first ≤ v) (hg : gnd S (g + v) = g) : newG M S (g + v) night = g := by
  unfold newG mvG
  rw [hg]
  rcases hv with rfl | h
  · rw [Int.add_zero, show toward g g = g by simp [toward]]
    split <;> rfl
  · rw [show decide (g + v - g < M.first) = false from decide_eq_false (by omega)]
    rfl
end K21

set_option Elab.async false
set_option linter.all false
set_option maxRecDepth 100000
set_option maxHeartbeats 4000000
namespace K21
open PySem L2
abbrev s_l_asked : Stmt := top 11
abbrev p_l_asked : List Str := ["_law_state", "_law_marks_here", "_law_level_here", "_law_night"]
theorem sc_l_asked : FnScope ["_law_state", "_law_marks_here", "_law_level_here", "_law_night", "_law_number", "_law_base", "_law_over", "_law_row", "_law_calm", "_law_warned", "_law_new", "_law_rise", "_law_found", "_law_now"] p_l_asked (defScope s_l_asked) := ⟨rfl, rfl, rfl, by decide +kernel, rfl, by decide +kernel, by decide +kernel⟩
abbrev s_l_is_truth : Stmt := top 12
abbrev p_l_is_truth : List Str := ["_law_told", "_law_due"]
theorem sc_l_is_truth : FnScope ["_law_told", "_law_due"] p_l_is_truth (defScope s_l_is_truth) := ⟨rfl, rfl, rfl, by decide +kernel, rfl, by decide +kernel, by decide +kernel⟩
abbrev s_l_level : Stmt := top 13
abbrev p_l_level : List Str := ["_law_bag_here", "_law_last"]
theorem sc_l_level : FnScope ["_law_bag_here", "_law_last", "_law_way"] p_l_level (defScope s_l_level) := ⟨rfl, rfl, rfl, by decide +kernel, rfl, by decide +kernel, by decide +kernel⟩
abbrev s_l_named_right : Stmt := top 14
abbrev p_l_named_right : List Str := ["_law_told", "_law_heights", "_law_since"]
theorem sc_l_named_right : FnScope ["_law_told", "_law_heights", "_law_since", "_law_word", "_law_numbers"] p_l_named_right (defScope s_l_named_right) := ⟨rfl, rfl, rfl, by decide +kernel, rfl, by decide +kernel, by decide +kernel⟩
theorem set_id {α : Type} {l : List α} {i : Nat} {x : α} (h : l[i]? = some x) : l.set i x = l := by
  obtain ⟨hi, e⟩ := List.getElem?_eq_some_iff.mp h
  subst e
  exact List.set_getElem_self hi
theorem toward_eq (g lv : Int) : g + (if decide (g < lv) = true then 1 else 0) - (if decide (lv < g) = true then 1 else 0) = toward g lv := by
  unfold toward
  by_cases c1 : g < lv
  · rw [if_pos c1, if_pos (decide_eq_true c1), if_neg (by rw [decide_eq_false (by omega : ¬ lv < g)]; decide)]; omega
  · rw [if_neg c1, if_neg (by rw [decide_eq_false c1]; decide)]
    by_cases c2 : lv < g
    · rw [if_pos c2, if_pos (decide_eq_true c2)]; omega
    · rw [if_neg c2, if_neg (by rw [decide_eq_false c2]; decide)]; omega
def stV (S : Sk) : List V := [.int S.asked, gV S.ground, .bl S.risen, .int S.above, .int S.calm, .bl S.warning]
def MkAt (H : Hp) (m : Addr) (M : Mk3) : Prop := H m = some (.tup [.int M.first, .int M.day, .int M.night])
def markOf (M : Mk3) (night : Bool) : Int := if night = true then M.night else M.day
def tB : TS := fun D σ H => ∃ (g : Option Int) (lv : Int), σ[10]? = some (some (.bl (decide (gV g = .non)))) ∧ σ[5]? = some (some (gV g)) ∧ σ[2]? = some (some (.int lv)) ∧ ∀ v, v = g.getD lv → D.nx (σ.set 5 (some (.int v))) H
def tF : TS := fun D σ H => ∃ (rise : Int) (m : Addr) (M : Mk3) (over : Bool) (n : Int) (lf : Addr) (xs : List V), σ[11]? = some (some (.int rise)) ∧ σ[1]? = some (some (.ref m)) ∧ H m = some (.tup [.int M.first, .int M.day, .int M.night]) ∧ σ[6]? = some (some (.bl over)) ∧ σ[4]? = some (some (.int n)) ∧ σ[12]? = some (some (.ref lf)) ∧ H lf = some (.lst xs) ∧ xs.length ≤ 5 ∧
  ∀ ys H', H' lf = some (.lst (xs ++ ys)) → EvsAt H' ys (if (decide (M.first ≤ rise) && !over) = true then [.first n] else []) → SameB lf H H' → D.nx σ H'
def tW : TS := fun D σ H => ∃ (row : Int) (w : Bool) (n : Int) (lf : Addr) (xs : List V), σ[7]? = some (some (.int row)) ∧ σ[9]? = some (some (.bl w)) ∧ σ[4]? = some (some (.int n)) ∧ σ[12]? = some (some (.ref lf)) ∧ H lf = some (.lst xs) ∧ xs.length ≤ 5 ∧
  ∀ ys H', H' lf = some (.lst (xs ++ ys)) → EvsAt H' ys (if (decide (2 < row) && !w) = true then [.warning (n - 2) (n - 1) n] else []) → SameB lf H H' → D.nx σ H'
def tMv : TS := fun D σ H => ∃ (g calm lv : Int), σ[5]? = some (some (.int g)) ∧ σ[8]? = some (some (.int calm)) ∧ σ[2]? = some (some (.int lv)) ∧ σ[13]? = some (some (.int g)) ∧ ∀ c' n', c' = (if calm = 4 then 0 else calm) → n' = (if calm = 4 then toward g lv else g) → D.nx ((σ.set 8 (some (.int c'))).set 13 (some (.int n'))) H
def tDi : TS := fun D σ H => ∃ (now g : Int) (nw : Bool) (lf : Addr) (xs : List V), σ[13]? = some (some (.int now)) ∧ σ[5]? = some (some (.int g)) ∧ σ[10]? = some (some (.bl nw)) ∧ σ[12]? = some (some (.ref lf)) ∧ H lf = some (.lst xs) ∧ xs.length ≤ 5 ∧
  ∀ ys H', H' lf = some (.lst (xs ++ ys)) → EvsAt H' ys (if (decide (99 < now) && (nw || decide (g < 100))) = true then [.dirt now] else []) → SameB lf H H' → D.nx σ H'
def tRow : TE := fun σ H Q => ∃ (rise : Int) (m : Addr) (M : Mk3) (night : Bool) (row : Int), σ[11]? = some (some (.int rise)) ∧ σ[1]? = some (some (.ref m)) ∧ H m = some (.tup [.int M.first, .int M.day, .int M.night]) ∧ σ[3]? = some (some (.bl night)) ∧ σ[7]? = some (some (.int row)) ∧ ∀ v, v = (if (if night = true then M.night else M.day) ≤ rise then row + 1 else 0) → Q (.int v) H
def tCalm : TE := fun σ H Q => ∃ (rise : Int) (m : Addr) (M : Mk3) (calm : Int), σ[11]? = some (some (.int rise)) ∧ σ[1]? = some (some (.ref m)) ∧ H m = some (.tup [.int M.first, .int M.day, .int M.night]) ∧ σ[8]? = some (some (.int calm)) ∧ ∀ v, v = (if M.first ≤ rise then 0 else calm + 1) → Q (.int v) H
def tWarned : TE := fun σ H Q => ∃ (row : Int) (w : Bool), σ[7]? = some (some (.int row)) ∧ σ[9]? = some (some (.bl w)) ∧ Q (.bl (w || decide (2 < row))) H
def spAsked : Sp := fun vs H Q _ => ∃ (s0 m : Addr) (S : Sk) (M : Mk3) (level : Int) (night : Bool), vs = [.ref s0, .ref m, .int level, .bl night] ∧ H s0 = some (.lst (stV S)) ∧ H m = some (.tup [.int M.first, .int M.day, .int M.night]) ∧ S.calm ≤ 3 ∧
  ∀ tq s1 ld ds H', H' tq = some (.tup [.ref s1, .ref ld]) → H' s1 = some (.lst (stV (askS M S level night))) → H' ld = some (.lst ds) → EvsAt H' ds (askEv M S level night) → Same H H' → H s1 = none → H ld = none → s1 ≠ ld → Q (.ref tq) H'
theorem askS_calm (M : Mk3) (S : Sk) (level : Int) (night : Bool) : (askS M S level night).calm = if clm S (decide (level - gnd S level < M.first)) < 4 then clm S (decide (level - gnd S level < M.first)) else 0 := by
  show (ask3 M S level night).calm = _
  have e : clm (ask2 M S level night) (decide (level - gnd S level < M.first)) = clm S (decide (level - gnd S level < M.first)) := by
    unfold clm
    rw [show (ask2 M S level night).calm = S.calm from tw_calm _ _]
  unfold ask3 mv
  rw [e]
  split <;> rfl
theorem newG_eq (M : Mk3) (S : Sk) (level : Int) (night : Bool) : newG M S level night = if clm S (decide (level - gnd S level < M.first)) < 4 then gnd S level else toward (gnd S level) level := by
  have e : clm (ask2 M S level night) (decide (level - gnd S level < M.first)) = clm S (decide (level - gnd S level < M.first)) := by
    unfold clm
    rw [show (ask2 M S level night).calm = S.calm from tw_calm _ _]
  unfold newG mvG
  rw [e]
theorem clm_eq (M : Mk3) (S : Sk) (rise : Int) : clm S (decide (rise < M.first)) = if M.first ≤ rise then 0 else S.calm + 1 := by
  unfold clm
  by_cases c : M.first ≤ rise
  · rw [if_pos c, decide_eq_false (show ¬ rise < M.first by omega)]; rfl
  · rw [if_neg c, decide_eq_true (show rise < M.first by omega)]; rfl
theorem abv_eq (S : Sk) (mark rise : Int) : abv S (decide (mark ≤ rise)) = if mark ≤ rise then S.above + 1 else 0 := by
  unfold abv
  by_cases c : mark ≤ rise
  · rw [if_pos c, decide_eq_true c]; rfl
  · rw [if_neg c, decide_eq_false c]; rfl
theorem three (w : Bool) (r : Int) : (w || !decide (r < 3)) = (w || decide (2 < r)) := by
  congr 1
  by_cases c : r < 3
  · rw [decide_eq_true c, decide_eq_false (show ¬ 2 < r by omega)]; rfl
  · rw [decide_eq_false c, decide_eq_true (show 2 < r by omega)]; rfl
theorem four {cc : Int} (h : cc ≤ 4) {α : Type} (x y : α) : (if cc < 4 then x else y) = if cc = 4 then y else x := by
  by_cases c : cc = 4
  · rw [if_neg (by omega), if_pos c]
  · rw [if_pos (by omega), if_neg c]
/-- the state that the law reckons -/
theorem st_eq {M : Mk3} {S : Sk} {level : Int} {night : Bool} (hc : S.calm ≤ 3) :
    stV (askS M S level night) = [.int (S.asked + 1), .int (if (if M.first ≤ level - gnd S level then 0 else S.calm + 1) = 4 then toward (gnd S level) level else gnd S level), .bl (decide (M.first ≤ level - gnd S level)),
      .int (if (if night = true then M.night else M.day) ≤ level - gnd S level then S.above + 1 else 0), .int (if (if M.first ≤ level - gnd S level then 0 else S.calm + 1) = 4 then 0 else (if M.first ≤ level - gnd S level then 0 else S.calm + 1)),
      .bl (S.warning || decide (2 < (if (if night = true then M.night else M.day) ≤ level - gnd S level then S.above + 1 else 0)))] := by
  have h4 : (if M.first ≤ level - gnd S level then 0 else S.calm + 1) ≤ 4 := by split <;> omega
  unfold stV
  rw [askS_asked, askS_ground, newG_eq, askS_risen, (askS_warning M S level night).1, (askS_warning M S level night).2, askS_calm, clm_eq, abv_eq, three, four h4, four h4]
  rfl
theorem ev_eq {M : Mk3} {S : Sk} {level : Int} {night : Bool} (hc : S.calm ≤ 3) :
    askEv M S level night = ((if (decide (M.first ≤ level - gnd S level) && !S.risen) = true then [.first S.asked] else []) ++
      (if (decide (2 < (if (if night = true then M.night else M.day) ≤ level - gnd S level then S.above + 1 else 0)) && !S.warning) = true then [.warning (S.asked - 2) (S.asked - 1) S.asked] else [])) ++
      (if (decide (99 < (if (if M.first ≤ level - gnd S level then 0 else S.calm + 1) = 4 then toward (gnd S level) level else gnd S level)) && (decide (gV S.ground = .non) || decide (gnd S level < 100))) = true then [.dirt (if (if M.first ≤ level - gnd S level then 0 else S.calm + 1) = 4 then toward (gnd S level) level else gnd S level)] else []) := by
  have h4 : (if M.first ≤ level - gnd S level then 0 else S.calm + 1) ≤ 4 := by split <;> omega
  have e2 : twEv (ask1 M S level) (decide ((if night = true then M.night else M.day) ≤ level - gnd S level)) = if (decide (2 < (if (if night = true then M.night else M.day) ≤ level - gnd S level then S.above + 1 else 0)) && !S.warning) = true then [.warning (S.asked - 2) (S.asked - 1) S.asked] else [] := by
    unfold twEv
    have e1 : abv (ask1 M S level) (decide ((if night = true then M.night else M.day) ≤ level - gnd S level)) = abv S (decide ((if night = true then M.night else M.day) ≤ level - gnd S level)) := rfl
    have e2 : (ask1 M S level).warning = S.warning := rfl
    have e3 : (ask1 M S level).asked = S.asked := rfl
    rw [e1, e2, e3, abv_eq]
    generalize (if (if night = true then M.night else M.day) ≤ level - gnd S level then S.above + 1 else 0) = row'
    cases S.warning with
    | true => simp
    | false =>
      by_cases c : row' < 3
      · rw [decide_eq_true c, decide_eq_false (show ¬ 2 < row' by omega)]; rfl
      · rw [decide_eq_false c, decide_eq_true (show 2 < row' by omega)]; rfl
  have e3 : (decide (gV S.ground = .non) || decide (gnd S level < 100)) = below100 S.ground := by
    unfold gnd
    cases S.ground with
    | none => rfl
    | some g => rfl
  unfold askEv
  rw [e2, e3, newG_eq, clm_eq, four h4]
  generalize (if (if M.first ≤ level - gnd S level then 0 else S.calm + 1) = 4 then toward (gnd S level) level else gnd S level) = now
  rw [show decide (99 < now) = decide (100 ≤ now) from decide_eq_decide.mpr ⟨fun h => by omega, fun h => by omega⟩]
  rfl
def spTruth : Sp := fun vs H Q _ => ∃ x : Bool, vs = [.bl x, .bl x] ∧ Q (.bl true) H
def spLevel : Sp := fun vs H Q _ => ∃ (b : Addr) (n : Nat) (g : Option Int), vs = [.ref b, gV g] ∧ BagAt H b n ∧ n ≤ 9000 ∧ ∀ v H', BagAt H' b (n + 2) → SameB b H H' → Q (.int v) H'
def spNamed (K : PySem.W.Frag) : Sp := fun vs H Q _ => ∃ (lt lh : Addr) (xs : List V) (es : List Ev) (hs : List Int) (c0 : Int), vs = [.ref lt, .ref lh, .int c0] ∧ H lt = some (.lst xs) ∧ EvsAt H xs es ∧ H lh = some (.lst (hs.map V.int)) ∧ hs.length ≤ 500 ∧
  (∀ a b d, Ev.warning a b d ∈ es → a = (hs.length : Int) - 3 ∧ b = (hs.length : Int) - 2 ∧ d = (hs.length : Int) - 1 ∧ c0 ≤ a ∧ ∃ z1 z2 z3, atI (hs.map V.int) a = some (.int z1) ∧ atI (hs.map V.int) b = some (.int z2) ∧ atI (hs.map V.int) d = some (.int z3) ∧ 0 ≤ z1 ∧ 0 ≤ z2 ∧ 0 ≤ z3) ∧ ∀ H', Same H H' → Q (.bl true) H'
theorem if1_len (c : Prop) [Decidable c] (e : Ev) : (if c then [e] else []).length ≤ 1 := by split <;> simp
section
variable {P : Program} {w : World} {K : PySem.W.Frag} {mg : Str → Option Value} {base : Heap} {C : Addr}
end
end K21

set_option Elab.async false
set_option linter.all false
set_option maxRecDepth 100000
set_option maxHeartbeats 1500000
namespace K21
open PySem L2
section
variable {P : Program} {w : World} {K : PySem.W.Frag} {mg : Str → Option Value} {base : Heap} {C : Addr}
theorem ok_l_asked (c : Code K mg "_law_asked" s_l_asked p_l_asked) (T : Nm mg) : Good P w K mg base "_law_asked" 1 p_l_asked spAsked := by
  refine c.good sc_l_asked (fun vs H Q E h => ?_) (fun f cdv A outer s H vs Q E hr h => ?_)
  · obtain ⟨s0, m, S, M, level, night, rfl, _⟩ := h
    rfl
  obtain ⟨s0, m, S, M, level, night, rfl, hs, hm, hc, q⟩ := h
  refine ⟨_, (pss_cons (ps_asg (pv 0) (pg_tupL rfl (pgs_cons (pg_name (i := 4) sc_l_asked.nd rfl (Or.inl rfl)) (pgs_cons (pg_name (i := 5) sc_l_asked.nd rfl (Or.inl rfl)) (pgs_cons (pg_name (i := 6) sc_l_asked.nd rfl (Or.inl rfl)) (pgs_cons (pg_name (i := 7) sc_l_asked.nd rfl (Or.inl rfl)) (pgs_cons (pg_name (i := 8) sc_l_asked.nd rfl (Or.inl rfl)) (pgs_cons (pg_name (i := 9) sc_l_asked.nd rfl (Or.inl rfl)) pgs_nil))))))))
  (pss_cons (ps_set (i := 10) sc_l_asked.nd rfl (Or.inl rfl) (pe_cmpR op_isN (pv 5) pe_non (nomark _)))
  (pss_cons (PS.weak (t' := tB) (ps_if (pt_val (pv 10)) (pss_one (ps_set (i := 5) sc_l_asked.nd rfl (Or.inl rfl) (pv 2))) pss_nil) (fun D σ H h => by
        obtain ⟨g, lv, e1, e2, e3, q⟩ := h
        refine ⟨_, e1, _, rfl, ?_⟩
        cases g with
        | none => exact iteT ⟨_, e3, q lv rfl⟩
        | some g =>
          have q := q g rfl
          rw [set_id (show σ[5]? = some (some (.int g)) from e2)] at q
          exact iteF q))
  (pss_cons (ps_set (i := 11) sc_l_asked.nd rfl (Or.inl rfl) (pe_op op_sub (pv 2) (pv 5)))
  (pss_cons (ps_set (i := 12) sc_l_asked.nd rfl (Or.inl rfl) (pe_lst pa_nil))
  (pss_cons (PS.weak (t' := tF) (ps_if (PW.pt (pw_and (pt_cmpR op_ge (pv 11) (pe_ix ix_tup (pv 1) pe_int (fun _ _ => rfl)) (nomark _)) (pw_and1 (pt_not (pt_val (pv 6)))))) (pss_one (ps_expr (pe_bm PySem.F.plainAttrs_list PySem.F.slot_list_append PySem.F.type_list_append mt_append (pv 12) (pa_cons (pe_tup (pa_cons pe_str (pa_cons (pv 4) pa_nil))) pa_nil)))) pss_nil) (fun D σ H h => by
        obtain ⟨rise, m, M, over, n, lf, xs, e1, e2, hm, e3, e4, e5, hlf, hx, q⟩ := h
        refine ⟨_, e1, _, e2, m, _, _, _, rfl, rfl, SqT.of hm, rfl, _, _, rfl, rfl, _, rfl, ?_⟩
        cases c : decide (M.first ≤ rise) with
        | false =>
          rw [c] at q
          exact iteF (iteF (q [] H (by rw [List.append_nil]; exact hlf) .nil (SameB.refl _ _)))
        | true =>
          rw [c] at q
          refine iteT ⟨_, e3, _, rfl, ?_⟩
          cases over with
          | true => exact iteF (q [] H (by rw [List.append_nil]; exact hlf) .nil (SameB.refl _ _))
          | false =>
            refine iteT ⟨_, e5, .inl ⟨rfl, _, SqL.of hlf⟩, _, e4, (by show 2 ≤ sizeLine; decide), fun t ht => ⟨lf, _, _, rfl, rfl, same_new ht _ _ _ hlf, small1000 (by omega), ?_⟩⟩
            have st := same_new ht (.tup [.str "first", .int n])
            refine q [.ref t] _ upd_same (EvsAt.cons ?_ .nil) ((SameB.of st).trans SameB.upd)
            exact ⟨t, rfl, by rw [upd_ne (ne_of_none hlf ht).symm]; exact upd_same⟩))
  (pss_cons (ps_set (i := 7) sc_l_asked.nd rfl (Or.inl rfl) (PE.weak (ta' := tRow) (pe_ifExp (pt_cmpR op_ge (pv 11) (pe_ix ix_tup (pv 1) (pe_op op_add pe_int (pe_callTy call_int1 rfl T.int bt_int (pa_cons (pv 3) pa_nil))) (fun _ _ => rfl)) (nomark _)) (pe_op op_add (pv 7) pe_int) pe_int) (fun σ H Q h => by
        obtain ⟨rise, m, M, night, row, e1, e2, hm, e3, e4, q⟩ := h
        refine ⟨_, e1, _, e2, _, e3, .inr ⟨_, rfl, _, _, rfl, rfl, m, _, _, _, rfl, rfl, SqT.of hm, (show atI [V.int M.first, .int M.day, .int M.night] (1 + if night = true then 1 else 0) = some (.int (if night = true then M.night else M.day)) by cases night <;> rfl), _, _, rfl, rfl, _, rfl, ?_⟩⟩
        refine ite2 (fun c => ?_) (fun c => ?_)
        · exact ⟨_, e4, _, _, rfl, rfl, q _ (by rw [if_pos (of_decide_eq_true c)])⟩
        · exact q _ (by rw [if_neg (fun y => c (decide_eq_true y))]))))
  (pss_cons (PS.weak (t' := tW) (ps_if (PW.pt (pw_and (pt_cmpR op_gt (pv 7) pe_int (nomark _)) (pw_and1 (pt_not (pt_val (pv 9)))))) (pss_one (ps_expr (pe_bm PySem.F.plainAttrs_list PySem.F.slot_list_append PySem.F.type_list_append mt_append (pv 12) (pa_cons (pe_tup (pa_cons pe_str (pa_cons (pe_tup (pa_cons (pe_op op_sub (pv 4) pe_int) (pa_cons (pe_op op_sub (pv 4) pe_int) (pa_cons (pv 4) pa_nil)))) pa_nil))) pa_nil)))) pss_nil) (fun D σ H h => by
        obtain ⟨row, w, n, lf, xs, e1, e2, e4, e5, hlf, hx, q⟩ := h
        refine ⟨_, e1, _, _, rfl, rfl, _, rfl, ?_⟩
        cases c : decide (2 < row) with
        | false =>
          rw [c] at q
          exact iteF (iteF (q [] H (by rw [List.append_nil]; exact hlf) .nil (SameB.refl _ _)))
        | true =>
          rw [c] at q
          refine iteT ⟨_, e2, _, rfl, ?_⟩
          cases w with
          | true => exact iteF (q [] H (by rw [List.append_nil]; exact hlf) .nil (SameB.refl _ _))
          | false =>
            refine iteT ⟨_, e5, .inl ⟨rfl, _, SqL.of hlf⟩, _, e4, _, _, rfl, rfl, _, e4, _, _, rfl, rfl, _, e4, (by show 3 ≤ sizeLine; decide), fun u hu => ⟨(by show 2 ≤ sizeLine; decide), fun t ht => ?_⟩⟩
            have su := same_new hu (.tup [.int (n - 2), .int (n - 1), .int n])
            have st := same_new ht (.tup [.str "warning", .ref u])
            have hlf2 := st _ _ (su _ _ hlf)
            refine ⟨lf, _, _, rfl, rfl, hlf2, small1000 (by omega), ?_⟩
            refine q [.ref t] _ upd_same (EvsAt.cons ⟨t, u, rfl, ?_, ?_⟩ .nil) ((SameB.of (su.trans st)).trans SameB.upd)
            · rw [upd_ne (ne_of_none (su _ _ hlf) ht).symm]; exact upd_same
            · rw [upd_ne (ne_of_none hlf hu).symm]; exact st _ _ upd_same))
  (pss_cons (ps_set (i := 8) sc_l_asked.nd rfl (Or.inl rfl) (PE.weak (ta' := tCalm) (pe_ifExp (pt_cmpR op_ge (pv 11) (pe_ix ix_tup (pv 1) pe_int (fun _ _ => rfl)) (nomark _)) pe_int (pe_op op_add (pv 8) pe_int)) (fun σ H Q h => by
        obtain ⟨rise, m, M, calm, e1, e2, hm, e4, q⟩ := h
        refine ⟨_, e1, _, e2, m, _, _, _, rfl, rfl, SqT.of hm, rfl, _, _, rfl, rfl, _, rfl, ?_⟩
        refine ite2 (fun c => ?_) (fun c => ?_)
        · exact q _ (by rw [if_pos (of_decide_eq_true c)])
        · exact ⟨_, e4, _, _, rfl, rfl, q _ (by rw [if_neg (fun y => c (decide_eq_true y))])⟩)))
  (pss_cons (ps_set (i := 13) sc_l_asked.nd rfl (Or.inl rfl) (pv 5))
  (pss_cons (PS.weak (t' := tMv) (ps_if (pt_cmpR op_eq (pv 8) pe_int (nomark _)) (pss_cons (ps_set (i := 8) sc_l_asked.nd rfl (Or.inl rfl) pe_int)
  (pss_one (ps_set (i := 13) sc_l_asked.nd rfl (Or.inl rfl) (pe_op op_sub (pe_op op_add (pv 5) (pe_callTy call_int1 rfl T.int bt_int (pa_cons (pe_cmpR op_gt (pv 2) (pv 5) (nomark _)) pa_nil))) (pe_callTy call_int1 rfl T.int bt_int (pa_cons (pe_cmpR op_lt (pv 2) (pv 5) (nomark _)) pa_nil)))))) pss_nil) (fun D σ H h => by
        obtain ⟨g, calm, lv, e1, e2, e3, e4, q⟩ := h
        refine ⟨_, e2, rfl, _, rfl, ?_⟩
        rw [show decide (V.int calm = V.int 4) = decide (calm = 4) by simp]
        by_cases c : calm = 4
        · rw [decide_eq_true c]
          have q := q 0 (toward g lv) (by rw [if_pos c]) (by rw [if_pos c])
          have e1' : (σ.set 8 (some (V.int 0)))[5]? = some (some (.int g)) := by rw [List.getElem?_set_ne (by decide)]; exact e1
          have e3' : (σ.set 8 (some (V.int 0)))[2]? = some (some (.int lv)) := by rw [List.getElem?_set_ne (by decide)]; exact e3
          refine iteT ⟨_, e1', _, e3', _, e1', _, _, rfl, rfl, .inr ⟨_, rfl, _, _, rfl, rfl, _, e3', _, e1', _, _, rfl, rfl, .inr ⟨_, rfl, _, _, rfl, rfl, ?_⟩⟩⟩
          rw [← toward_eq] at q
          exact q
        · rw [decide_eq_false c]
          have q := q calm g (by rw [if_neg c]) (by rw [if_neg c])
          rw [set_id e2, set_id e4] at q
          exact iteF q))
  (pss_cons (PS.weak (t' := tDi) (ps_if (PW.pt (pw_and (pt_cmpR op_gt (pv 13) pe_int (nomark _)) (pw_and1 (PW.pt (pw_or (pt_val (pv 10)) (pw_or1 (pt_cmpR op_lt (pv 5) pe_int (nomark _)))))))) (pss_one (ps_expr (pe_bm PySem.F.plainAttrs_list PySem.F.slot_list_append PySem.F.type_list_append mt_append (pv 12) (pa_cons (pe_tup (pa_cons pe_str (pa_cons (pv 13) pa_nil))) pa_nil)))) pss_nil) (fun D σ H h => by
        obtain ⟨now, g, nw, lf, xs, e1, e2, e3, e5, hlf, hx, q⟩ := h
        have go : (decide (99 < now) && (nw || decide (g < 100))) = true → ∀ t, H t = none → D.nx σ (upd (upd H t (.tup [.str "dirt", .int now])) lf (.lst (xs ++ [.ref t]))) := fun e t ht => by
          rw [e] at q
          have st := same_new ht (.tup [.str "dirt", .int now])
          exact q [.ref t] _ upd_same (EvsAt.cons ⟨t, rfl, by rw [upd_ne (ne_of_none hlf ht).symm]; exact upd_same⟩ .nil) ((SameB.of st).trans SameB.upd)
        have stop : (decide (99 < now) && (nw || decide (g < 100))) = false → D.nx σ H := fun e => by
          rw [e] at q
          exact (q [] H (by rw [List.append_nil]; exact hlf) .nil (SameB.refl _ _))
        refine ⟨_, e1, _, _, rfl, rfl, _, rfl, ?_⟩
        cases c1 : decide (99 < now) with
        | false => exact iteF (iteF (stop (by rw [c1]; rfl)))
        | true =>
          refine iteT ⟨_, e3, _, rfl, ?_⟩
          cases nw with
          | true => exact iteT (iteT ⟨_, e5, .inl ⟨rfl, _, SqL.of hlf⟩, _, e1, (by show 2 ≤ sizeLine; decide), fun t ht => ⟨lf, _, _, rfl, rfl, same_new ht _ _ _ hlf, small1000 (by omega), go (by rw [c1]; rfl) t ht⟩⟩)
          | false =>
            refine iteF ⟨_, e2, _, _, rfl, rfl, _, rfl, ?_⟩
            cases c3 : decide (g < 100) with
            | true => exact iteT ⟨_, e5, .inl ⟨rfl, _, SqL.of hlf⟩, _, e1, (by show 2 ≤ sizeLine; decide), fun t ht => ⟨lf, _, _, rfl, rfl, same_new ht _ _ _ hlf, small1000 (by omega), go (by rw [c1, c3]; rfl) t ht⟩⟩
            | false => exact iteF (stop (by rw [c1, c3]; rfl))))
  (pss_one (ps_ret (pe_tup (pa_cons (pe_lst (pa_cons (pe_op op_add (pv 4) pe_int) (pa_cons (pv 13) (pa_cons (pe_cmpR op_ge (pv 11) (pe_ix ix_tup (pv 1) pe_int (fun _ _ => rfl)) (nomark _)) (pa_cons (pv 7) (pa_cons (pv 8) (pa_cons (PE.weak (ta' := tWarned) (pe_or (pv 9) (pe_one (pe_cmpR op_gt (pv 7) pe_int (nomark _)))) (fun σ H Q h => by
        obtain ⟨row, w, e1, e2, q⟩ := h
        refine ⟨_, e2, _, rfl, ?_⟩
        cases w with
        | true => exact iteT q
        | false => exact iteF ⟨_, e1, _, _, rfl, rfl, q⟩)) pa_nil))))))) (pa_cons (pv 12) pa_nil))))))))))))))))), ?_⟩
  generalize hst : L2.start _ _ = σ0
  have e0 : σ0 = [some (.ref s0), some (.ref m), some (.int level), some (.bl night), none, none, none, none, none, none, none, none, none, none] := hst.symm
  clear hst
  subst e0
  try simp only [List.set_cons_succ, List.set_cons_zero]
  refine ⟨_, rfl, s0, _, rfl, SqL.of hs, rfl, _, _, rfl, _, _, rfl, _, _, rfl, _, _, rfl, _, _, rfl, _, _, rfl, rfl, ?_⟩
  try simp only [List.set_cons_succ, List.set_cons_zero]
  refine ⟨_, rfl, rfl, ?_⟩
  try simp only [List.set_cons_succ, List.set_cons_zero]
  refine ⟨S.ground, level, rfl, rfl, rfl, fun g hg => ?_⟩
  try simp only [List.set_cons_succ, List.set_cons_zero]
  refine ⟨_, rfl, _, rfl, _, _, rfl, rfl, ?_⟩
  try simp only [List.set_cons_succ, List.set_cons_zero]
  refine ⟨(by show 0 ≤ sizeLine; decide), fun lf hlf => ?_⟩
  have s0' := same_new hlf (.lst [])
  have hm0 := s0' _ _ hm
  have nlm : m ≠ lf := ne_of_none hm hlf
  try simp only [List.set_cons_succ, List.set_cons_zero]
  refine ⟨level - g, m, M, S.risen, S.asked, lf, [], rfl, rfl, hm0, rfl, rfl, rfl, upd_same, by show 0 ≤ 5; decide, fun y1 H1 h1 ev1 s1 => ?_⟩
  have hm1 := s1 _ _ hm0 nlm
  have l1 : y1.length ≤ 1 := by rw [ev1.length]; exact if1_len _ _
  try simp only [List.set_cons_succ, List.set_cons_zero]
  refine ⟨level - g, m, M, night, S.above, rfl, rfl, hm1, rfl, rfl, fun row hrow => ?_⟩
  try simp only [List.set_cons_succ, List.set_cons_zero]
  refine ⟨row, S.warning, S.asked, lf, _, rfl, rfl, rfl, rfl, h1, by show y1.length ≤ 5; omega, fun y2 H2 h2 ev2 s2 => ?_⟩
  have hm2 := s2 _ _ hm1 nlm
  have l2 : y2.length ≤ 1 := by rw [ev2.length]; exact if1_len _ _
  try simp only [List.set_cons_succ, List.set_cons_zero]
  refine ⟨level - g, m, M, S.calm, rfl, rfl, hm2, rfl, fun cc hcc => ?_⟩
  try simp only [List.set_cons_succ, List.set_cons_zero]
  refine ⟨_, rfl, ?_⟩
  try simp only [List.set_cons_succ, List.set_cons_zero]
  refine ⟨g, cc, level, rfl, rfl, rfl, rfl, fun c' now hc' hnow => ?_⟩
  try simp only [List.set_cons_succ, List.set_cons_zero]
  refine ⟨now, g, decide (gV S.ground = .non), lf, _, rfl, rfl, rfl, rfl, h2, by rw [List.length_append]; show y1.length + y2.length ≤ 5; omega, fun y3 H3 h3 ev3 s3 => ?_⟩
  have hm3 := s3 _ _ hm2 nlm
  try simp only [List.set_cons_succ, List.set_cons_zero]
  refine ⟨_, rfl, _, _, rfl, rfl, _, rfl, _, rfl, _, rfl, m, _, _, _, rfl, rfl, SqT.of hm3, rfl, _, _, rfl, rfl, _, rfl, _, rfl, row, S.warning, rfl, rfl, (by show 6 ≤ sizeLine; decide), fun sn hsn => ⟨_, rfl, (by show 2 ≤ sizeLine; decide), fun tq htq => ?_⟩⟩
  have hgn : g = gnd S level := hg
  have sm : Same H H3 := fun c o e => s3 _ _ (s2 _ _ (s1 _ _ (s0' _ _ e) (ne_of_none e hlf)) (ne_of_none e hlf)) (ne_of_none e hlf)
  have nsl : sn ≠ lf := fun z => by rw [z, h3] at hsn; cases hsn
  have t1 := same_new hsn (.lst [.int (S.asked + 1), .int now, .bl (decide (M.first ≤ level - g)), .int row, .int c', .bl (S.warning || decide (2 < row))])
  have t2 := same_new htq (.tup [.ref sn, .ref lf])
  have nt : ∀ (Hx : Hp) xs ys, Hx lf = some (.lst xs) → Hx lf ≠ some (.tup ys) := fun Hx xs ys e z => by rw [e] at z; cases z
  subst hgn
  rw [hcc] at hc' hnow
  refine q tq sn lf _ _ upd_same ?_ (t2 _ _ (t1 _ _ h3)) ?_ (sm.trans (t1.trans t2)) (sm.free hsn) hlf nsl
  · rw [st_eq hc, ← hc', ← hnow, ← hrow]
    exact t2 _ _ upd_same
  · rw [ev_eq hc, ← hnow, ← hrow]
    have e1 := (ev1.tups (s2.tup (nt H1 _ · h1))).tups (s3.tup (nt H2 _ · h2))
    have e2 := ev2.tups (s3.tup (nt H2 _ · h2))
    exact (((e1.append e2).append ev3).tups (TupS.of t1)).tups (TupS.of t2)
end
end K21

set_option Elab.async false
set_option linter.all false
set_option maxRecDepth 100000
set_option maxHeartbeats 4000000
namespace K21
open PySem L2
section
variable {P : Program} {w : World} {K : PySem.W.Frag} {mg : Str → Option Value} {base : Heap} {C : Addr}
theorem ok_l_is_truth (c : Code K mg "_law_is_truth" s_l_is_truth p_l_is_truth) (T : Nm mg) : Good P w K mg base "_law_is_truth" 1 p_l_is_truth spTruth := by
  refine c.good sc_l_is_truth (fun vs H Q E h => ?_) (fun f cdv A outer s H vs Q E hr h => ?_)
  · obtain ⟨x, rfl, _⟩ := h
    rfl
  obtain ⟨x, rfl, q⟩ := h
  refine ⟨_, (pss_one (ps_ret (pe_and (pe_callB call_isi rfl T.isinstance bt_isinstance (pa_cons (pv 0) (pa_cons (pe_bltn (v := .ty "bool") rfl T.bool bt_bool rfl) pa_nil))) (pe_one (pe_cmpR op_eq (pv 0) (pv 1) (nomark _)))))), ?_⟩
  refine ⟨_, rfl, isi_bool rfl ⟨_, rfl, iteT ⟨_, rfl, _, rfl, rfl, ?_⟩⟩⟩
  rw [show decide (V.bl x = V.bl x) = true from decide_eq_true rfl]
  exact q
theorem at7' {i : Int} (h0 : 0 ≤ i) (h5 : i < 7) {a b c d e f g : Int} : ∃ p, atI [V.int a, .int b, .int c, .int d, .int e, .int f, .int g] i = some (.int p) := by
  have : i = 0 ∨ i = 1 ∨ i = 2 ∨ i = 3 ∨ i = 4 ∨ i = 5 ∨ i = 6 := by omega
  rcases this with rfl | rfl | rfl | rfl | rfl | rfl | rfl <;> exact ⟨_, rfl⟩
theorem ok_l_level (c : Code K mg "_law_level" s_l_level p_l_level) (T : Nm mg) (g_l_take : Good P w K mg base "_law_take" 1 p_l_take spTake) : Good P w K mg base "_law_level" 2 p_l_level spLevel := by
  refine c.good sc_l_level (fun vs H Q E h => ?_) (fun f cdv A outer s H vs Q E hr h => ?_)
  · obtain ⟨b, n, g, rfl, _⟩ := h
    rfl
  obtain ⟨b, n, g, rfl, hb, hn, q⟩ := h
  refine ⟨_, (pss_cons (ps_set (i := 2) sc_l_level.nd rfl (Or.inl rfl) (pcall g_l_take hr (pa_cons (pv 0) (pa_cons pe_int pa_nil))))
  (pss_cons (ps_if (PW.pt (pw_or (pt_cmpR op_eq (pv 2) pe_int (nomark _)) (pw_or1 (pt_cmpR op_isN (pv 1) pe_non (nomark _))))) (pss_one (ps_ret (pcall g_l_take hr (pa_cons (pv 0) (pa_cons pe_int pa_nil))))) pss_nil)
  (pss_one (ps_ret (pe_callB (call_max2 rfl) rfl T.max bt_max (pa_cons pe_int (pa_cons (pe_callB (call_min2 rfl) rfl T.min bt_min (pa_cons pe_int (pa_cons (pe_op op_add (pv 1) (pe_ix ix_list (pe_lst (pa_cons pe_int (pa_cons pe_int (pa_cons pe_int (pa_cons (pe_un un_neg pe_int) (pa_cons pe_int (pa_cons (pe_un un_neg pe_int) (pa_cons pe_int pa_nil)))))))) (pv 2) (fun _ _ => rfl))) pa_nil))) pa_nil))))))), ?_⟩
  refine ⟨_, rfl, b, n, 7, rfl, hb, by omega, by decide, by decide, fun r1 H1 r10 r11 hb1 sb1 => ?_⟩
  have draw : ∀ {Q' : VK}, (∀ v H', Q' (.int v) H' → True) → True := fun _ => trivial
  refine ⟨_, rfl, rfl, _, rfl, ?_⟩
  refine ite2 (fun _ => iteT ⟨_, rfl, b, n + 1, 256, rfl, hb1, by omega, by decide, by decide, fun r2 H2 r20 r21 hb2 sb2 => q r2 H2 hb2 (sb1.trans sb2)⟩) (fun _ => ?_)
  refine ⟨_, rfl, rfl, _, rfl, ?_⟩
  cases g with
  | none => exact iteT ⟨_, rfl, b, n + 1, 256, rfl, hb1, by omega, by decide, by decide, fun r2 H2 r20 r21 hb2 sb2 => q r2 H2 hb2 (sb1.trans sb2)⟩
  | some g =>
    refine iteF ⟨_, rfl, _, rfl, _, rfl, (by show 7 ≤ sizeLine; decide), fun l hl => ?_⟩
    have s2 := same_new hl (.lst [.int 0, .int 0, .int 1, .int (-1), .int 30, .int (-30), .int 90])
    obtain ⟨z, ez⟩ := at7' r10 r11 (a := 0) (b := 0) (c := 1) (d := -1) (e := 30) (f := -30) (g := 90)
    exact ⟨_, rfl, l, _, _, _, rfl, rfl, SqL.of upd_same, ez, _, _, rfl, rfl, _, _, rfl, _, _, rfl, q _ _ ((hb1.mono (by omega)).same s2) (sb1.trans (SameB.of s2))⟩
theorem ok_l_named_right (c : Code K mg "_law_named_right" s_l_named_right p_l_named_right) (T : Nm mg) : Good P w K mg base "_law_named_right" 1 p_l_named_right (spNamed K) := by
  refine c.good sc_l_named_right (fun vs H Q E h => ?_) (fun f cdv A outer s H vs Q E hr h => ?_)
  · obtain ⟨lt, lh, xs, es, hs, c0, rfl, _⟩ := h
    rfl
  obtain ⟨lt, lh, xs, es, hs, c0, rfl, hlt, ev, hlh, hlen, hw, q⟩ := h
  refine ⟨_, (pss_cons (ps_for PassesOwn.never rfl (pi_list (pv 0)) (pg_tup rfl (pgs_cons (pg_name (i := 3) sc_l_named_right.nd rfl (Or.inl rfl)) (pgs_cons (pg_name (i := 4) sc_l_named_right.nd rfl (Or.inl rfl)) pgs_nil)))
  (pss_one (ps_if (pt_cmpR op_eq (pv 3) pe_str (nomark _)) (pss_cons (ps_if (PW.pt (pw_or (pt_cmpR (op_neD hr.units) (pv 4) (pe_tuprange2 rfl rfl T.tuple rfl T.range (pa_cons (pe_op op_sub (pe_callB call_len_seq rfl T.len bt_len (pa_cons (pv 1) pa_nil)) pe_int) (pa_cons (pe_callB call_len_seq rfl T.len bt_len (pa_cons (pv 1) pa_nil)) pa_nil))) (nomark _)) (pw_or1 (pt_cmpR op_lt (pe_ix ix_tup (pv 4) pe_int (fun _ _ => rfl)) (pv 2) (nomark _))))) (pss_one (ps_ret pe_bl)) pss_nil)
  (pss_one (ps_if (pt_cmpR op_lt (pe_callB (call_min1 rfl) rfl T.min bt_min (pa_cons (pe_comp (N' := ["_law_number", "_law_heights"]) rfl (CScope.of (src := [none, some 1]) (defScope s_l_named_right) ["_law_told", "_law_heights", "_law_since", "_law_word", "_law_numbers"] rfl rfl rfl (by decide +kernel) (by decide +kernel) (by decide +kernel) rfl (by decide +kernel)) (pi_tup (pv 4)) (fun _ _ _ _ => (pg_name (i := 0) (show List.Nodup (["_law_number", "_law_heights"] : List Str) by decide +kernel) rfl (Or.inl rfl))) (fun _ _ _ _ => pf_nil) (fun _ _ _ _ => (pe_ix (ix_listK (K := K) rfl) (pv 1) (pv 0) (fun _ _ => rfl)))) pa_nil)) pe_int (nomark _)) (pss_one (ps_ret pe_bl)) pss_nil))) pss_nil)))
  (pss_one (ps_ret pe_bl))), ?_⟩
  refine ⟨_, rfl, lt, rfl, ⟨xs, SqL.of hlt⟩, for_list (xs := xs) (fun i σ H' => Same H H' ∧ ∃ u v, σ = [some (.ref lt), some (.ref lh), some (.int c0), u, v]) ⟨Same.refl H, _, _, rfl⟩ (fun i σ H' _ h => ?_) (fun i x σ H' hx h => ?_) (fun σ H' h => ?_)⟩
  · exact SqL.of (h.1 _ _ hlt)
  · obtain ⟨sm, u, v, rfl⟩ := h
    obtain ⟨e, he, ea⟩ := ev.get hx
    have ea := ea.tups (TupS.of sm)
    have em : e ∈ es := List.mem_of_getElem? he
    cases e with
    | first n =>
      obtain ⟨t, rfl, et⟩ := ea
      refine ⟨t, _, rfl, SqT.of et, rfl, _, _, rfl, _, _, rfl, rfl, _, rfl, rfl, _, rfl, ?_⟩
      rw [decide_eq_false fw]
      exact iteF ⟨sm, _, _, rfl⟩
    | dirt n =>
      obtain ⟨t, rfl, et⟩ := ea
      refine ⟨t, _, rfl, SqT.of et, rfl, _, _, rfl, _, _, rfl, rfl, _, rfl, rfl, _, rfl, ?_⟩
      rw [decide_eq_false dw]
      exact iteF ⟨sm, _, _, rfl⟩
    | warning a b d =>
      obtain ⟨t, u2, rfl, et, eu⟩ := ea
      obtain ⟨ha, hb, hd, hc0, z1, z2, z3, e1, e2, e3, p1, p2, p3⟩ := hw a b d em
      refine ⟨t, _, rfl, SqT.of et, rfl, _, _, rfl, _, _, rfl, rfl, _, rfl, rfl, _, rfl, ?_⟩
      rw [show decide (V.str "warning" = V.str "warning") = true from decide_eq_true rfl]
      have hlh' := sm _ _ hlh
      have hL : (hs.map V.int).length = hs.length := List.length_map _
      refine iteT ⟨_, rfl, _, rfl, lh, _, rfl, .inl (SqL.of hlh'), _, _, rfl, rfl, _, rfl, lh, _, rfl, .inl (SqL.of hlh'), _, _, rfl, ⟨by rw [hL]; omega, by rw [hL]; omega, by rw [hL]; omega, by rw [hL]; omega⟩, by rw [hL]; omega, fun p hp => ?_⟩
      have h3 : ((((hs.map V.int).length : Int) - (((hs.map V.int).length : Int) - 3)).toNat) = 3 := by rw [hL]; omega
      have hr3 : (List.range ((((hs.map V.int).length : Int) - (((hs.map V.int).length : Int) - 3)).toNat)).map (fun k : Nat => V.int (((hs.map V.int).length : Int) - 3 + k)) = [V.int a, .int b, .int d] := by
        rw [h3, hL, ha, hb, hd]
        show [V.int ((hs.length : Int) - 3 + (0 : Nat)), V.int ((hs.length : Int) - 3 + (1 : Nat)), V.int ((hs.length : Int) - 3 + (2 : Nat))] = _
        rw [show (hs.length : Int) - 3 + ((0 : Nat) : Int) = (hs.length : Int) - 3 by omega, show (hs.length : Int) - 3 + ((1 : Nat) : Int) = (hs.length : Int) - 2 by omega, show (hs.length : Int) - 3 + ((2 : Nat) : Int) = (hs.length : Int) - 1 by omega]
      rw [hr3]
      have s2 := same_new hp (.tup [.int a, .int b, .int d])
      have eu2 := s2 _ _ eu
      have hlh2 := s2 _ _ hlh'
      have ep : (upd H' p (.tup [.int a, .int b, .int d])) p = some (.tup [.int a, .int b, .int d]) := upd_same
      have sm2 := sm.trans s2
      generalize upd H' p (.tup [.int a, .int b, .int d]) = HX at s2 eu2 hlh2 ep sm2 ⊢
      have sh : SeqAt.shaped (.tuple [.int a, .int b, .int d]) = true := rfl
      refine ⟨.tuple [.int a, .int b, .int d], .tuple [.int a, .int b, .int d], .tup eu2 (.cons (.int a) (.cons (.int b) (.cons (.int d) .nil))), .tup ep (.cons (.int a) (.cons (.int b) (.cons (.int d) .nil))), sh, sh, _, rfl, ?_⟩
      rw [SeqAt.eqv_refl _ (SeqAt.canLay_of_shaped sh)]
      refine iteF ⟨_, rfl, u2, _, _, _, rfl, rfl, SqT.of eu2, rfl, _, rfl, _, _, rfl, rfl, _, rfl, ?_⟩
      rw [decide_eq_false (show ¬ a < c0 by omega)]
      refine iteF ⟨_, rfl, u2, rfl, ⟨_, SqT.of eu2⟩, fun l2 hl2 => ?_⟩
      refine comp_tup (xs := [V.int a, .int b, .int d]) (fun i σ HH => ∃ u, σ = [u, some (.ref lh)] ∧ HH = upd HX l2 (.lst (([z1, z2, z3].take i).map V.int))) ⟨none, rfl, rfl⟩ (fun i σ HH _ h => ?_) (fun i x σ HH hx h => ?_) (fun σ HH h => ?_)
      · obtain ⟨u, rfl, rfl⟩ := h
        exact SqT.of (same_new hl2 _ _ _ eu2)
      · obtain ⟨u, rfl, rfl⟩ := h
        have hi : i < 3 := (List.getElem?_eq_some_iff.mp hx).1
        obtain ⟨k, z, rfl, hz, hk⟩ : ∃ k z, x = V.int k ∧ atI (hs.map V.int) k = some (.int z) ∧ ([z1, z2, z3].take (i + 1)).map V.int = ([z1, z2, z3].take i).map V.int ++ [V.int z] := by
          have : i = 0 ∨ i = 1 ∨ i = 2 := by omega
          rcases this with rfl | rfl | rfl
          · cases hx; exact ⟨a, z1, rfl, e1, rfl⟩
          · cases hx; exact ⟨b, z2, rfl, e2, rfl⟩
          · cases hx; exact ⟨d, z3, rfl, e3, rfl⟩
        refine ⟨_, rfl, _, rfl, lh, _, _, _, rfl, rfl, SqL.of (same_new hl2 _ _ _ hlh2), hz, _, upd_same, small1000 (by rw [List.length_map, List.length_take]; omega), _, rfl, ?_⟩
        rw [upd_upd, hk]
      · obtain ⟨u, rfl, rfl⟩ := h
        refine ⟨l2, [z1, z2, z3], rfl, SqL.of upd_same, by show 0 < 3; decide, fun mn hmn hle => ⟨_, _, rfl, rfl, _, rfl, ?_⟩⟩
        have : 0 ≤ mn := by
          simp only [List.mem_cons, List.not_mem_nil, or_false] at hmn
          rcases hmn with rfl | rfl | rfl <;> assumption
        rw [decide_eq_false (show ¬ mn < 0 by omega)]
        exact iteF ⟨sm2.trans (same_new hl2 _), _, _, rfl⟩
  · exact q H' h.1
end
end K21

set_option Elab.async false
set_option linter.all false
set_option maxRecDepth 100000
set_option maxHeartbeats 8000000
namespace K21
open PySem L2
abbrev s_law : Stmt := top 15
abbrev p_law : List Str := ["_law_script"]
theorem sc_law : FnScope ["_law_script", "_law_k", "_law_bag_here", "_law_marks_here", "_law_seekers", "_law_states", "_law_heights", "_law_since", "_law_lasts", "_law_turn", "_law_which", "_law_level_here", "_law_night", "_law_mark", "_law_base", "_law_due", "_law_told", "_law_each"] p_law (defScope s_law) := ⟨rfl, rfl, rfl, by decide +kernel, rfl, by decide +kernel, by decide +kernel⟩
theorem scal_gV (g : Option Int) : scal (gV g) (gV g) = true := by cases g <;> rfl
def tBase : TE := fun σ H Q => ∃ (Ls sw : Addr) (a0 a1 : V) (S : Sk) (lv wh : Int), σ[5]? = some (some (.ref Ls)) ∧ σ[10]? = some (some (.int wh)) ∧ H Ls = some (.lst [a0, a1]) ∧ atI [a0, a1] wh = some (.ref sw) ∧ H sw = some (.lst (stV S)) ∧ σ[11]? = some (some (.int lv)) ∧ Q (.int (gnd S lv)) H
def tEach (C : Addr) : TS := fun D σ H => ∃ (Lp Ls p0 p1 s0 s1 m0 m1 : Addr) (M0 M1 : Mk3) (S0 S1 : Sk), σ[4]? = some (some (.ref Lp)) ∧ σ[5]? = some (some (.ref Ls)) ∧ σ.length = 18 ∧ H Lp = some (.lst [.ref p0, .ref p1]) ∧ H Ls = some (.lst [.ref s0, .ref s1]) ∧
  SkAt C H p0 m0 M0 S0 ∧ SkAt C H p1 m1 M1 S1 ∧ H s0 = some (.lst (stV S0)) ∧ H s1 = some (.lst (stV S1)) ∧ ∀ u, D.nx (σ.set 17 u) H
/-- what an asking's heights come to -/
structure Okay (S : Sk) (hs : List Int) (c : Int) : Prop where
  asked : S.asked = hs.length
  nn : 0 ≤ S.above
  c0 : 0 ≤ c
  room : c + S.above ≤ hs.length
  high : ∀ k : Nat, (hs.length : Int) - S.above ≤ k → k < hs.length → ∃ z, hs[k]? = some z ∧ 0 ≤ z
  calm : S.calm ≤ 3
theorem Okay.ask {S : Sk} {hs : List Int} {c : Int} (h : Okay S hs c) (M : Mk3) (level : Int) (night : Bool) : Okay (askS M S level night) (hs ++ [level - gnd S level - (if night = true then M.night else M.day)]) c := by
  have ea : (askS M S level night).above = if (if night = true then M.night else M.day) ≤ level - gnd S level then S.above + 1 else 0 := by rw [(askS_warning M S level night).2, abv_eq]
  have h1 := h.nn
  have h2 := h.room
  have h3 := h.c0
  have h4 := h.calm
  refine ⟨?_, ?_, h.c0, ?_, fun k hk hl => ?_, ?_⟩
  · rw [askS_asked, h.asked, List.length_append]; simp
  · rw [ea]; split <;> omega
  · rw [ea, List.length_append]; simp only [List.length_singleton]; split <;> omega
  · rw [ea, List.length_append] at hk
    rw [List.length_append] at hl
    simp only [List.length_singleton] at hk hl
    by_cases cm : (if night = true then M.night else M.day) ≤ level - gnd S level
    · rw [if_pos cm] at hk
      by_cases hkl : k < hs.length
      · obtain ⟨z, e, p⟩ := h.high k (by omega) hkl
        exact ⟨z, by rw [List.getElem?_append_left hkl]; exact e, p⟩
      · have : k = hs.length := by omega
        subst this
        exact ⟨_, by rw [List.getElem?_append_right (Nat.le_refl _), Nat.sub_self]; rfl, by omega⟩
    · rw [if_neg cm] at hk
      omega
  · rw [askS_calm, clm_eq]
    split <;> (try split) <;> omega
theorem Okay.reset {S : Sk} {hs : List Int} {c : Int} (h : Okay S hs c) : Okay { S with warning := false, above := 0 } hs hs.length := by
  refine ⟨h.asked, by show (0 : Int) ≤ 0; decide, by omega, by show (hs.length : Int) + 0 ≤ hs.length; omega, fun k hk hl => ?_, h.calm⟩
  have hk : (hs.length : Int) - 0 ≤ k := hk
  omega
theorem Okay.warn {S : Sk} {hs : List Int} {c : Int} (h : Okay S hs c) {M : Mk3} {level : Int} {night : Bool} : ∀ a b d, Ev.warning a b d ∈ askEv M S level night →
    a = ((hs ++ [level - gnd S level - (if night = true then M.night else M.day)]).length : Int) - 3 ∧ b = ((hs ++ [level - gnd S level - (if night = true then M.night else M.day)]).length : Int) - 2 ∧ d = ((hs ++ [level - gnd S level - (if night = true then M.night else M.day)]).length : Int) - 1 ∧ c ≤ a ∧
    ∃ z1 z2 z3, atI ((hs ++ [level - gnd S level - (if night = true then M.night else M.day)]).map V.int) a = some (.int z1) ∧ atI ((hs ++ [level - gnd S level - (if night = true then M.night else M.day)]).map V.int) b = some (.int z2) ∧ atI ((hs ++ [level - gnd S level - (if night = true then M.night else M.day)]).map V.int) d = some (.int z3) ∧ 0 ≤ z1 ∧ 0 ≤ z2 ∧ 0 ≤ z3 := by
  intro a b d hm
  have h' := h.ask M level night
  have hf : Ev.warning a b d ∈ (askEv M S level night).filter (isWord "warning") := List.mem_filter.mpr ⟨hm, ww a b d⟩
  rw [ev_warning] at hf
  have ea : (askS M S level night).above = abv S (decide ((if night = true then M.night else M.day) ≤ level - gnd S level)) := (askS_warning M S level night).2
  have key : (askS M S level night).above ≥ 3 ∧ a = S.asked - 2 ∧ b = S.asked - 1 ∧ d = S.asked := by
    unfold twEv at hf
    have e1 : abv (ask1 M S level) (decide ((if night = true then M.night else M.day) ≤ level - gnd S level)) = abv S (decide ((if night = true then M.night else M.day) ≤ level - gnd S level)) := rfl
    have e3 : (ask1 M S level).asked = S.asked := rfl
    rw [e1, ← ea, e3] at hf
    by_cases hc2 : (askS M S level night).above < 3
    · rw [decide_eq_true hc2, Bool.or_true, if_pos rfl] at hf
      cases hf
    · by_cases hc : ((ask1 M S level).warning || decide ((askS M S level night).above < 3)) = true
      · rw [if_pos hc] at hf
        cases hf
      · rw [if_neg hc, List.mem_singleton] at hf
        injection hf with h1 h2 h3
        exact ⟨by omega, h1, h2, h3⟩
  obtain ⟨k3, ha, hb, hd⟩ := key
  have has := h.asked
  have hr := h'.room
  have hc := h.c0
  generalize hhs : hs ++ [level - gnd S level - (if night = true then M.night else M.day)] = hs' at h' hr ⊢
  have hl : hs'.length = hs.length + 1 := by rw [← hhs, List.length_append]; rfl
  have get : ∀ k : Nat, (hs'.length : Int) - 3 ≤ k → k < hs'.length → ∃ z, atI (hs'.map V.int) (k : Int) = some (.int z) ∧ 0 ≤ z := fun k h1 h2 => by
    obtain ⟨z, e, p⟩ := h'.high k (by omega) h2
    exact ⟨z, atI_nat (by rw [List.getElem?_map, e]; rfl), p⟩
  have h3 : 3 ≤ hs'.length := by omega
  obtain ⟨z1, e1, p1⟩ := get (hs'.length - 3) (by omega) (by omega)
  obtain ⟨z2, e2, p2⟩ := get (hs'.length - 2) (by omega) (by omega)
  obtain ⟨z3, e3, p3⟩ := get (hs'.length - 1) (by omega) (by omega)
  have q1 : a = ((hs'.length - 3 : Nat) : Int) := by omega
  have q2 : b = ((hs'.length - 2 : Nat) : Int) := by omega
  have q3 : d = ((hs'.length - 1 : Nat) : Int) := by omega
  refine ⟨by omega, by omega, by omega, by omega, z1, z2, z3, ?_, ?_, ?_, p1, p2, p3⟩
  · rw [q1]; exact e1
  · rw [q2]; exact e2
  · rw [q3]; exact e3
def ent (C : Addr) (m0 m1 p0 p1 Lm Lp s0 s1 Ls h0 h1 Lh Lc Ll dx0 dx1 : Addr) (M0 M1 : Mk3) (S0 S1 : Sk) (hs0 hs1 : List Int) (c0 c1 : Int) (v0 v1 : Option Int) : List (Addr × HO) :=
  [(m0, .tup [.int M0.first, .int M0.day, .int M0.night]), (m1, .tup [.int M1.first, .int M1.day, .int M1.night]), (Lm, .lst [.ref m0, .ref m1]), (p0, .ins C dx0 (fl m0 S0)), (p1, .ins C dx1 (fl m1 S1)), (Lp, .lst [.ref p0, .ref p1]),
    (s0, .lst (stV S0)), (s1, .lst (stV S1)), (Ls, .lst [.ref s0, .ref s1]), (h0, .lst (hs0.map V.int)), (h1, .lst (hs1.map V.int)), (Lh, .lst [.ref h0, .ref h1]), (Lc, .lst [.int c0, .int c1]), (Ll, .lst [gV v0, gV v1])]
def Turn (C : Addr) (H0 : Hp) (a b m0 m1 p0 p1 Lm Lp Ls h0 h1 Lh Lc Ll : Addr) (M0 M1 : Mk3) (k : Int) (i : Nat) (σ : St) (H : Hp) : Prop :=
  ∃ (s0 s1 dx0 dx1 : Addr) (S0 S1 : Sk) (hs0 hs1 : List Int) (c0 c1 : Int) (v0 v1 : Option Int) (u9 u10 u11 u12 u13 u14 u15 u16 u17 : Option V),
    σ = [some (.ref a), some (.int k), some (.ref b), some (.ref Lm), some (.ref Lp), some (.ref Ls), some (.ref Lh), some (.ref Lc), some (.ref Ll), u9, u10, u11, u12, u13, u14, u15, u16, u17] ∧
    Same H0 H ∧ BagAt H b (6 + 9 + 5 * i) ∧ b ∉ (ent C m0 m1 p0 p1 Lm Lp s0 s1 Ls h0 h1 Lh Lc Ll dx0 dx1 M0 M1 S0 S1 hs0 hs1 c0 c1 v0 v1).map (·.1) ∧ Has H (ent C m0 m1 p0 p1 Lm Lp s0 s1 Ls h0 h1 Lh Lc Ll dx0 dx1 M0 M1 S0 S1 hs0 hs1 c0 c1 v0 v1) ∧
    (∀ x ∈ (ent C m0 m1 p0 p1 Lm Lp s0 s1 Ls h0 h1 Lh Lc Ll dx0 dx1 M0 M1 S0 S1 hs0 hs1 c0 c1 v0 v1).map (·.1), H0 x = none) ∧ Okay S0 hs0 c0 ∧ Okay S1 hs1 c1 ∧ hs0.length + hs1.length = i
theorem _root_.L2.Has.add {H : Hp} {l : List (Addr × HO)} {a : Addr} {o : HO} (h : Has H l) (n : a ∉ l.map (·.1)) (e : H a = some o) : Has H (l ++ [(a, o)]) := by
  refine ⟨?_, fun x hx => ?_⟩
  · rw [List.map_append, List.nodup_append]
    refine ⟨h.nd, by simp, fun x hx y hy z => ?_⟩
    have : y = a := by simpa using hy
    subst this
    exact n (z ▸ hx)
  · rcases List.mem_append.mp hx with z | z
    · exact h.at_ x z
    · have : x = (a, o) := by simpa using z
      subst this
      exact e
theorem BagAt.sameB {H H' : Hp} {a b : Addr} {n : Nat} (h : BagAt H b n) (s : SameB a H H') (ne : b ≠ a) : BagAt H' b n := by
  obtain ⟨x, y, z, e, r⟩ := h
  exact ⟨x, y, z, s _ _ e ne, r⟩
section
variable {P : Program} {w : World} {K : PySem.W.Frag} {mg : Str → Option Value} {base : Heap} {C : Addr}
theorem ok_law {f : Addr} {fd : FuncData} (F : Fun K "law" "law" s_law f fd) (T : Tx K mg C) (g_l_bag : Good P w K mg base "_law_bag" 1 p_l_bag (spBag K)) (g_l_take : Good P w K mg base "_law_take" 1 p_l_take spTake) (g_l_marks : Good P w K mg base "_law_marks" 2 p_l_marks spMarks)
    (g_l_are_events : Good P w K mg base "_law_are_events" 2 p_l_are_events spEvents) (g_l_asked : Good P w K mg base "_law_asked" 1 p_l_asked spAsked) (g_l_is_truth : Good P w K mg base "_law_is_truth" 1 p_l_is_truth spTruth) (g_l_level : Good P w K mg base "_law_level" 2 p_l_level spLevel) (g_l_named_right : Good P w K mg base "_law_named_right" 1 p_l_named_right (spNamed K))
    (g_i_Seeker : GoodI P w K mg base C 1 p_Seeker___init__ (spInit C)) (g_m_ask : GoodM P w K mg base C "ask" 2 p_Seeker_ask (spAsk C)) (g_m_base : GoodM P w K mg base C "base" 1 p_Seeker_base (spBase C)) (g_m_warned : GoodM P w K mg base C "warned" 1 p_Seeker_warned (spWarned C))
    (g_m_reset : GoodM P w K mg base C "reset" 1 p_Seeker_reset (spReset C)) : FnOk P w K mg base CX0 3 f fd p_law (spLaw K) := by
  refine F.ok sc_law (fun vs H Q E h => ?_) (fun cdv A outer s H vs Q E hr h => ?_)
  · obtain ⟨a, ns, rfl, _⟩ := h
    rfl
  obtain ⟨a, ns, rfl, hS, h63, q⟩ := h
  refine ⟨_, (pss_cons (ps_for PassesOwn.never rfl (pi_range1 rfl T.range (pa_cons (pe_callB (call_max2 rfl) rfl T.max bt_max (pa_cons pe_int (pa_cons (pe_callB (call_min2 rfl) rfl T.min bt_min (pa_cons pe_int (pa_cons (pe_callB call_len_seq rfl T.len bt_len (pa_cons (pv 0) pa_nil)) pa_nil))) pa_nil))) pa_nil)) (pg_name (i := 1) sc_law.nd rfl (Or.inl rfl))
  (pss_cons (ps_set (i := 2) sc_law.nd rfl (Or.inl rfl) (pcall g_l_bag hr (pa_cons (pv 0) (pa_cons (pv 1) pa_nil))))
  (pss_cons (ps_set (i := 3) sc_law.nd rfl (Or.inl rfl) (pe_lst (pa_cons (pcall g_l_marks hr (pa_cons (pv 2) pa_nil)) (pa_cons (pcall g_l_marks hr (pa_cons (pv 2) pa_nil)) pa_nil))))
  (pss_cons (ps_set (i := 4) sc_law.nd rfl (Or.inl rfl) (pe_lst (pa_cons (pmake g_i_Seeker hr T.mgC (pa_cons (pe_ix ix_list (pv 3) pe_int (fun _ _ => rfl)) pa_nil)) (pa_cons (pmake g_i_Seeker hr T.mgC (pa_cons (pe_ix ix_list (pv 3) pe_int (fun _ _ => rfl)) pa_nil)) pa_nil))))
  (pss_cons (ps_set (i := 5) sc_law.nd rfl (Or.inl rfl) (pe_lst (pa_cons (pe_lst (pa_cons pe_int (pa_cons pe_non (pa_cons pe_bl (pa_cons pe_int (pa_cons pe_int (pa_cons pe_bl pa_nil))))))) (pa_cons (pe_lst (pa_cons pe_int (pa_cons pe_non (pa_cons pe_bl (pa_cons pe_int (pa_cons pe_int (pa_cons pe_bl pa_nil))))))) pa_nil))))
  (pss_cons (ps_set (i := 6) sc_law.nd rfl (Or.inl rfl) (pe_lst (pa_cons (pe_lst pa_nil) (pa_cons (pe_lst pa_nil) pa_nil))))
  (pss_cons (ps_set (i := 7) sc_law.nd rfl (Or.inl rfl) (pe_lst (pa_cons pe_int (pa_cons pe_int pa_nil))))
  (pss_cons (ps_set (i := 8) sc_law.nd rfl (Or.inl rfl) (pe_lst (pa_cons pe_non (pa_cons pe_non pa_nil))))
  (pss_one (ps_for PassesOwn.never rfl (pi_range1 rfl T.range (pa_cons (pe_op op_add pe_int (pcall g_l_take hr (pa_cons (pv 2) (pa_cons pe_int pa_nil)))) pa_nil)) (pg_name (i := 9) sc_law.nd rfl (Or.inl rfl))
  (pss_cons (ps_set (i := 10) sc_law.nd rfl (Or.inl rfl) (pcall g_l_take hr (pa_cons (pv 2) (pa_cons pe_int pa_nil))))
  (pss_cons (ps_set (i := 11) sc_law.nd rfl (Or.inl rfl) (pcall g_l_level hr (pa_cons (pv 2) (pa_cons (pe_ix ix_list (pv 8) (pv 10) (fun _ _ => rfl)) pa_nil))))
  (pss_cons (ps_set (i := 12) sc_law.nd rfl (Or.inl rfl) (pe_cmpR op_eq (pcall g_l_take hr (pa_cons (pv 2) (pa_cons pe_int pa_nil))) pe_int (nomark _)))
  (pss_cons (ps_set (i := 13) sc_law.nd rfl (Or.inl rfl) (pe_ix ix_tup (pe_ix ix_list (pv 3) (pv 10) (fun _ _ => rfl)) (pe_op op_add pe_int (pe_callTy call_int1 rfl T.int bt_int (pa_cons (pv 12) pa_nil))) (fun _ _ => rfl)))
  (pss_cons (ps_set (i := 14) sc_law.nd rfl (Or.inl rfl) (PE.weak (ta' := tBase) (pe_ifExp (pt_cmpR op_isN (pe_ix ix_list (pe_ix ix_list (pv 5) (pv 10) (fun _ _ => rfl)) pe_int (fun _ _ => rfl)) pe_non (nomark _)) (pv 11) (pe_ix ix_list (pe_ix ix_list (pv 5) (pv 10) (fun _ _ => rfl)) pe_int (fun _ _ => rfl))) (fun σ H Q h => by
        obtain ⟨Ls, sw, a0, a1, S, lv, wh, e1, e2, hLs, ha, hs, e3, q⟩ := h
        refine ⟨_, e1, _, e2, Ls, _, _, _, rfl, rfl, SqL.of hLs, ha, sw, _, _, _, rfl, rfl, SqL.of hs, rfl, rfl, _, rfl, ?_⟩
        cases eg : S.ground with
        | none =>
          have : gnd S lv = lv := by unfold gnd; rw [eg]; rfl
          rw [this] at q
          exact iteT ⟨_, e3, q⟩
        | some g =>
          have : gnd S lv = g := by unfold gnd; rw [eg]; rfl
          rw [this] at q
          have hs2 : H sw = some (.lst [.int S.asked, .int g, .bl S.risen, .int S.above, .int S.calm, .bl S.warning]) := by rw [hs]; unfold stV; rw [eg]; rfl
          exact iteF ⟨_, e1, _, e2, Ls, _, _, _, rfl, rfl, SqL.of hLs, ha, sw, _, _, _, rfl, rfl, SqL.of hs2, rfl, q⟩)))
  (pss_cons (ps_expr (pe_bm PySem.F.plainAttrs_list PySem.F.slot_list_append PySem.F.type_list_append mt_append (pe_ix ix_list (pv 6) (pv 10) (fun _ _ => rfl)) (pa_cons (pe_op op_sub (pe_op op_sub (pv 11) (pv 14)) (pv 13)) pa_nil)))
  (pss_cons (ps_asg (pcall g_l_asked hr (pa_cons (pe_ix ix_list (pv 5) (pv 10) (fun _ _ => rfl)) (pa_cons (pe_ix ix_list (pv 3) (pv 10) (fun _ _ => rfl)) (pa_cons (pv 11) (pa_cons (pv 12) pa_nil))))) (pg_tup rfl (pgs_cons (pg_sub (pv 5) (pv 10) set_list) (pgs_cons (pg_name (i := 15) sc_law.nd rfl (Or.inl rfl)) pgs_nil))))
  (pss_cons (ps_set (i := 16) sc_law.nd rfl (Or.inl rfl) (pmeth (pe_ix ix_list (pv 4) (pv 10) (fun _ _ => rfl)) T.cl g_m_ask hr (pa_cons (pv 11) (pa_cons (pv 12) pa_nil))))
  (pss_cons (ps_asg (pv 11) (pg_sub (pv 8) (pv 10) set_list))
  (pss_cons (ps_if (PW.pt (pw_or (pt_not (pt_val (pcall g_l_are_events hr (pa_cons (pv 16) pa_nil)))) (pw_or (pt_cmpR (op_neD hr.units) (pv 16) (pv 15) (nomark _)) (pw_or1 (pt_not (pt_val (pcall g_l_named_right hr (pa_cons (pv 16) (pa_cons (pe_ix ix_list (pv 6) (pv 10) (fun _ _ => rfl)) (pa_cons (pe_ix ix_list (pv 7) (pv 10) (fun _ _ => rfl)) pa_nil)))))))))) (pss_one (ps_ret pe_bl)) pss_nil)
  (pss_cons (ps_if (pt_cmpR op_eq (pcall g_l_take hr (pa_cons (pv 2) (pa_cons pe_int pa_nil))) pe_int (nomark _)) (pss_cons (ps_expr (pmeth0 (pe_ix ix_list (pv 4) (pv 10) (fun _ _ => rfl)) T.cl g_m_reset hr))
  (pss_cons (ps_asg (pe_callB call_len_seq rfl T.len bt_len (pa_cons (pe_ix ix_list (pv 6) (pv 10) (fun _ _ => rfl)) pa_nil)) (pg_sub (pv 7) (pv 10) set_list))
  (pss_one (ps_asg (pe_op op_cat (pe_slice sl_list (pe_ix ix_list (pv 5) (pv 10) (fun _ _ => rfl)) po_none (po_some pe_int)) (pe_lst (pa_cons pe_int (pa_cons (pe_ix ix_list (pe_ix ix_list (pv 5) (pv 10) (fun _ _ => rfl)) pe_int (fun _ _ => rfl)) (pa_cons pe_bl pa_nil))))) (pg_sub (pv 5) (pv 10) set_list))))) pss_nil)
  (pss_one (PS.weak (t' := (tEach C)) (ps_for PassesOwn.never rfl (pi_range1 rfl T.range (pa_cons pe_int pa_nil)) (pg_name (i := 17) sc_law.nd rfl (Or.inl rfl))
  (pss_cons (ps_if (pt_cmpR op_ne (pmeth0 (pe_ix ix_list (pv 4) (pv 17) (fun _ _ => rfl)) T.cl g_m_base hr) (pe_ix ix_list (pe_ix ix_list (pv 5) (pv 17) (fun _ _ => rfl)) pe_int (fun _ _ => rfl)) (nomark _)) (pss_one (ps_ret pe_bl)) pss_nil)
  (pss_one (ps_if (pt_not (pt_val (pcall g_l_is_truth hr (pa_cons (pmeth0 (pe_ix ix_list (pv 4) (pv 17) (fun _ _ => rfl)) T.cl g_m_warned hr) (pa_cons (pe_ix ix_list (pe_ix ix_list (pv 5) (pv 17) (fun _ _ => rfl)) pe_int (fun _ _ => rfl)) pa_nil))))) (pss_one (ps_ret pe_bl)) pss_nil)))) (fun D σ H h => by
        obtain ⟨Lp, Ls, p0, p1, s0, s1, m0, m1, M0, M1, S0, S1, e4, e5, hlen, hLp, hLs, hS0, hS1, hs0, hs1, q⟩ := h
        refine ⟨2, rfl, by decide, by decide, for_range (fun i σ2 H2 => H2 = H ∧ ∃ u, σ2 = σ.set 17 u) ?_ (fun i σ2 H2 hi h => ?_) (fun σ2 H2 h => ?_)⟩
        · have h17 : σ[17]? = some (σ[17]'(by omega)) := List.getElem?_eq_getElem (by omega)
          exact ⟨rfl, _, (set_id h17).symm⟩
        · obtain ⟨rfl, u, rfl⟩ := h
          have f4 : ((σ.set 17 u).set 17 (some (.int (0 + (i : Int)))))[4]? = some (some (.ref Lp)) := by rw [List.getElem?_set_ne (by decide), List.getElem?_set_ne (by decide)]; exact e4
          have f5 : ((σ.set 17 u).set 17 (some (.int (0 + (i : Int)))))[5]? = some (some (.ref Ls)) := by rw [List.getElem?_set_ne (by decide), List.getElem?_set_ne (by decide)]; exact e5
          have f17 : ((σ.set 17 u).set 17 (some (.int (0 + (i : Int)))))[17]? = some (some (.int (0 + (i : Int)))) := List.getElem?_set_self (by rw [List.length_set]; omega)
          have hi2 : i = 0 ∨ i = 1 := by have : i < 2 := hi; omega
          rcases hi2 with rfl | rfl
          · obtain ⟨⟨dx, hp⟩, hm⟩ := id hS0
            refine ⟨_, f4, _, f17, Lp, _, _, _, rfl, rfl, SqL.of hLp, rfl, p0, dx, _, rfl, hp, fno (by decide +kernel), p0, m0, M0, S0, rfl, hS0, _, f5, _, f17, Ls, _, _, _, rfl, rfl, SqL.of hLs, rfl, s0, _, _, _, rfl, rfl, SqL.of hs0, rfl, scal_gV _, _, rfl, iteNS rfl ?_⟩
            refine ⟨_, f4, _, f17, Lp, _, _, _, rfl, rfl, SqL.of hLp, rfl, p0, dx, _, rfl, hp, fno (by decide +kernel), p0, m0, M0, S0, rfl, hS0, _, f5, _, f17, Ls, _, _, _, rfl, rfl, SqL.of hLs, rfl, s0, _, _, _, rfl, rfl, SqL.of hs0, rfl, S0.warning, rfl, _, rfl, iteF ⟨rfl, some (.int (0 + ((0 : Nat) : Int))), ?_⟩⟩
            rw [List.set_set]
          · obtain ⟨⟨dx, hp⟩, hm⟩ := id hS1
            refine ⟨_, f4, _, f17, Lp, _, _, _, rfl, rfl, SqL.of hLp, rfl, p1, dx, _, rfl, hp, fno (by decide +kernel), p1, m1, M1, S1, rfl, hS1, _, f5, _, f17, Ls, _, _, _, rfl, rfl, SqL.of hLs, rfl, s1, _, _, _, rfl, rfl, SqL.of hs1, rfl, scal_gV _, _, rfl, iteNS rfl ?_⟩
            refine ⟨_, f4, _, f17, Lp, _, _, _, rfl, rfl, SqL.of hLp, rfl, p1, dx, _, rfl, hp, fno (by decide +kernel), p1, m1, M1, S1, rfl, hS1, _, f5, _, f17, Ls, _, _, _, rfl, rfl, SqL.of hLs, rfl, s1, _, _, _, rfl, rfl, SqL.of hs1, rfl, S1.warning, rfl, _, rfl, iteF ⟨rfl, some (.int (0 + ((1 : Nat) : Int))), ?_⟩⟩
            rw [List.set_set]
        · obtain ⟨rfl, u, rfl⟩ := h
          exact q u))))))))))))))))))))))))
  (pss_one (ps_ret pe_bl))), ?_⟩
  have hl : (ns.map V.int).length = ns.length := List.length_map _
  refine ⟨_, rfl, a, _, rfl, .inl hS, _, _, rfl, _, _, rfl, _, rfl, ?_, ?_, ?_⟩
  · rw [hl]; split <;> split <;> omega
  · rw [hl]; split <;> split <;> omega
  refine for_range (fun i σ H' => Same H H' ∧ ∃ u1 u2 u3 u4 u5 u6 u7 u8 u9 u10 u11 u12 u13 u14 u15 u16 u17, σ = [some (.ref a), u1, u2, u3, u4, u5, u6, u7, u8, u9, u10, u11, u12, u13, u14, u15, u16, u17]) ⟨Same.refl H, _, _, _, _, _, _, _, _, _, _, _, _, _, _, _, _, _, rfl⟩ (fun i σ H' hi h => ?_) (fun σ H' h => ?_)
  · obtain ⟨sm, u1, u2, u3, u4, u5, u6, u7, u8, u9, u10, u11, u12, u13, u14, u15, u16, u17, rfl⟩ := h
    rw [hl] at hi
    have hi' : (i : Int) ≤ 100 := by
      revert hi
      split <;> split <;> omega
    refine ⟨_, rfl, _, rfl, a, ns, _, rfl, sm.seq hS, h63, by omega, by omega, fun b o hb0 hbag => ?_⟩
    have s1 : Same H (upd H' b o) := sm.trans (same_new hb0 o)
    have fb : H b = none := sm.free hb0
    generalize upd H' b o = H1 at s1 hbag ⊢
    -- the marks
    have hasa : Has H1 [] := Has.nil H1
    refine ⟨_, rfl, b, 0, rfl, hbag, by omega, fun m0 M0 H2 _ _ _ _ _ _ fm0 hm0 hb2 sb2 => ?_⟩
    have frb := s1.stepB sb2 fb
    have gm0 := s1.free fm0
    have nm0 := hbag.nb fm0
    have hasb : Has H2 [(m0, _)] := (hasa.sameB sb2 (by simp)).add (by simp) hm0
    refine ⟨_, rfl, b, 4, rfl, hb2, by omega, fun m1 M1 H3 _ _ _ _ _ _ fm1 hm1 hb3 sb3 => ?_⟩
    have frc := frb.stepB sb3 fb
    have gm1 := frb.free fm1
    have nm1 := hb2.nb fm1
    have hasc := (hasb.sameB sb3 (by simp [nm0])).add (hasb.notin fm1) hm1
    refine ⟨(by show 2 ≤ sizeLine; decide), fun Lm fLm => ?_⟩
    have gLm := frc.free fLm
    have nLm := hb3.nb fLm
    have t1 := same_new fLm (.lst [.ref m0, .ref m1])
    have k1 := (hasc.same t1).add (hasc.notin fLm) (upd_same (H := H3) (a := Lm) (o := .lst [.ref m0, .ref m1]))
    have b1 := hb3.same t1
    have r1 := frc.trans t1
    generalize upd H3 Lm (.lst [.ref m0, .ref m1]) = G1 at t1 k1 b1 r1 ⊢
    refine ⟨_, rfl, Lm, _, _, _, rfl, rfl, SqL.of (k1.get (i := 2) rfl), rfl, fun p0 dx0 fp0 ndx0 nex0 => ⟨p0, m0, dx0, rfl, upd_same, fun G2 e2 s2 => ⟨rfl, ?_⟩⟩⟩
    have gp0 := r1.free fp0
    have np0 := b1.nb fp0
    have t2 : Same G1 G2 := fun c o e => s2 _ _ (by rw [upd_ne (ne_of_none e fp0), upd_ne (ne_of_none e ndx0)]; exact e) (ne_of_none e fp0)
    have k2 := (k1.same t2).add (k1.notin fp0) e2
    have b2 := b1.same t2
    have r2 := r1.trans t2
    refine ⟨_, rfl, Lm, _, _, _, rfl, rfl, SqL.of (k2.get (i := 2) rfl), rfl, fun p1 dx1 fp1 ndx1 nex1 => ⟨p1, m1, dx1, rfl, upd_same, fun G3 e3 s3 => ⟨rfl, ?_⟩⟩⟩
    have gp1 := r2.free fp1
    have np1 := b2.nb fp1
    have t3 : Same G2 G3 := fun c o e => s3 _ _ (by rw [upd_ne (ne_of_none e fp1), upd_ne (ne_of_none e ndx1)]; exact e) (ne_of_none e fp1)
    have k3 := (k2.same t3).add (k2.notin fp1) e3
    have b3 := b2.same t3
    have r3 := r2.trans t3
    refine ⟨(by show 2 ≤ sizeLine; decide), fun Lp fLp => ?_⟩
    have gLp := r3.free fLp
    have nLp := b3.nb fLp
    have t4 := same_new fLp (.lst [.ref p0, .ref p1])
    have k4 := (k3.same t4).add (k3.notin fLp) (upd_same (H := G3) (a := Lp) (o := .lst [.ref p0, .ref p1]))
    have b4 := b3.same t4
    have r4 := r3.trans t4
    generalize upd G3 Lp (.lst [.ref p0, .ref p1]) = G4 at t4 k4 b4 r4 ⊢
    refine ⟨(by show 6 ≤ sizeLine; decide), fun s0 fs0 => ?_⟩
    have gs0 := r4.free fs0
    have ns0 := b4.nb fs0
    have t5 := same_new fs0 (.lst [.int 0, .non, .bl false, .int 0, .int 0, .bl false])
    have k5 := (k4.same t5).add (k4.notin fs0) (upd_same (H := G4) (a := s0) (o := .lst [.int 0, .non, .bl false, .int 0, .int 0, .bl false]))
    have b5 := b4.same t5
    have r5 := r4.trans t5
    generalize upd G4 s0 (.lst [.int 0, .non, .bl false, .int 0, .int 0, .bl false]) = G5 at t5 k5 b5 r5 ⊢
    refine ⟨(by show 6 ≤ sizeLine; decide), fun s1 fs1 => ?_⟩
    have gs1 := r5.free fs1
    have ns1 := b5.nb fs1
    have t6 := same_new fs1 (.lst [.int 0, .non, .bl false, .int 0, .int 0, .bl false])
    have k6 := (k5.same t6).add (k5.notin fs1) (upd_same (H := G5) (a := s1) (o := .lst [.int 0, .non, .bl false, .int 0, .int 0, .bl false]))
    have b6 := b5.same t6
    have r6 := r5.trans t6
    generalize upd G5 s1 (.lst [.int 0, .non, .bl false, .int 0, .int 0, .bl false]) = G6 at t6 k6 b6 r6 ⊢
    refine ⟨(by show 2 ≤ sizeLine; decide), fun Ls fLs => ?_⟩
    have gLs := r6.free fLs
    have nLs := b6.nb fLs
    have t7 := same_new fLs (.lst [.ref s0, .ref s1])
    have k7 := (k6.same t7).add (k6.notin fLs) (upd_same (H := G6) (a := Ls) (o := .lst [.ref s0, .ref s1]))
    have b7 := b6.same t7
    have r7 := r6.trans t7
    generalize upd G6 Ls (.lst [.ref s0, .ref s1]) = G7 at t7 k7 b7 r7 ⊢
    refine ⟨(by show 0 ≤ sizeLine; decide), fun h0 fh0 => ?_⟩
    have gh0 := r7.free fh0
    have nh0 := b7.nb fh0
    have t8 := same_new fh0 (.lst [])
    have k8 := (k7.same t8).add (k7.notin fh0) (upd_same (H := G7) (a := h0) (o := .lst []))
    have b8 := b7.same t8
    have r8 := r7.trans t8
    generalize upd G7 h0 (.lst []) = G8 at t8 k8 b8 r8 ⊢
    refine ⟨(by show 0 ≤ sizeLine; decide), fun h1 fh1 => ?_⟩
    have gh1 := r8.free fh1
    have nh1 := b8.nb fh1
    have t9 := same_new fh1 (.lst [])
    have k9 := (k8.same t9).add (k8.notin fh1) (upd_same (H := G8) (a := h1) (o := .lst []))
    have b9 := b8.same t9
    have r9 := r8.trans t9
    generalize upd G8 h1 (.lst []) = G9 at t9 k9 b9 r9 ⊢
    refine ⟨(by show 2 ≤ sizeLine; decide), fun Lh fLh => ?_⟩
    have gLh := r9.free fLh
    have nLh := b9.nb fLh
    have t10 := same_new fLh (.lst [.ref h0, .ref h1])
    have k10 := (k9.same t10).add (k9.notin fLh) (upd_same (H := G9) (a := Lh) (o := .lst [.ref h0, .ref h1]))
    have b10 := b9.same t10
    have r10 := r9.trans t10
    generalize upd G9 Lh (.lst [.ref h0, .ref h1]) = G10 at t10 k10 b10 r10 ⊢
    refine ⟨(by show 2 ≤ sizeLine; decide), fun Lc fLc => ?_⟩
    have gLc := r10.free fLc
    have nLc := b10.nb fLc
    have t11 := same_new fLc (.lst [.int 0, .int 0])
    have k11 := (k10.same t11).add (k10.notin fLc) (upd_same (H := G10) (a := Lc) (o := .lst [.int 0, .int 0]))
    have b11 := b10.same t11
    have r11 := r10.trans t11
    generalize upd G10 Lc (.lst [.int 0, .int 0]) = G11 at t11 k11 b11 r11 ⊢
    refine ⟨(by show 2 ≤ sizeLine; decide), fun Ll fLl => ?_⟩
    have gLl := r11.free fLl
    have nLl := b11.nb fLl
    have t12 := same_new fLl (.lst [.non, .non])
    have k12 := (k11.same t12).add (k11.notin fLl) (upd_same (H := G11) (a := Ll) (o := .lst [.non, .non]))
    have b12 := b11.same t12
    have r12 := r11.trans t12
    generalize upd G11 Ll (.lst [.non, .non]) = G12 at t12 k12 b12 r12 ⊢
    have hasz : Has G12 (ent C m0 m1 p0 p1 Lm Lp s0 s1 Ls h0 h1 Lh Lc Ll dx0 dx1 M0 M1 K21.S0 K21.S0 [] [] 0 0 none none) := k12
    have nbz : b ∉ (ent C m0 m1 p0 p1 Lm Lp s0 s1 Ls h0 h1 Lh Lc Ll dx0 dx1 M0 M1 K21.S0 K21.S0 [] [] 0 0 none none).map (·.1) := fun e => by
      simp only [ent, List.map_cons, List.map_nil, List.mem_cons, List.not_mem_nil, or_false] at e
      rcases e with rfl | rfl | rfl | rfl | rfl | rfl | rfl | rfl | rfl | rfl | rfl | rfl | rfl | rfl
      · exact nm0 rfl
      · exact nm1 rfl
      · exact nLm rfl
      · exact np0 rfl
      · exact np1 rfl
      · exact nLp rfl
      · exact ns0 rfl
      · exact ns1 rfl
      · exact nLs rfl
      · exact nh0 rfl
      · exact nh1 rfl
      · exact nLh rfl
      · exact nLc rfl
      · exact nLl rfl
    have frz : ∀ x ∈ (ent C m0 m1 p0 p1 Lm Lp s0 s1 Ls h0 h1 Lh Lc Ll dx0 dx1 M0 M1 K21.S0 K21.S0 [] [] 0 0 none none).map (·.1), H x = none := fun x e => by
      simp only [ent, List.map_cons, List.map_nil, List.mem_cons, List.not_mem_nil, or_false] at e
      rcases e with rfl | rfl | rfl | rfl | rfl | rfl | rfl | rfl | rfl | rfl | rfl | rfl | rfl | rfl
      · exact gm0
      · exact gm1
      · exact gLm
      · exact gp0
      · exact gp1
      · exact gLp
      · exact gs0
      · exact gs1
      · exact gLs
      · exact gh0
      · exact gh1
      · exact gLh
      · exact gLc
      · exact gLl
    have ok00 : Okay K21.S0 [] 0 := ⟨rfl, by decide, by decide, by decide, fun k _ h => by simp at h, by decide⟩
    refine ⟨_, rfl, b, 8, 120, rfl, b12, by omega, by decide, by decide, fun r HZ r0 r1 hbz sz => ⟨_, _, rfl, rfl, _, rfl, by omega, by omega, ?_⟩⟩
    refine for_range (Turn C H a b m0 m1 p0 p1 Lm Lp Ls h0 h1 Lh Lc Ll M0 M1 (0 + (i : Int))) ⟨s0, s1, dx0, dx1, _, _, [], [], 0, 0, none, none, _, _, _, _, _, _, _, _, _, rfl, r12.stepB sz fb, hbz.mono (by omega), nbz, hasz.sameB sz nbz, frz, ok00, ok00, rfl⟩ (fun j σ HH hj h => ?_) (fun σ HH h => ?_)
    · clear hasz nbz frz ok00
      obtain ⟨s0, s1, dx0, dx1, S0, S1, hs0, hs1, c0, c1, v0, v1, u9, u10, u11, u12, u13, u14, u15, u16, u17, rfl, sH, hb, nb, hH, fr, ok0, ok1, hlen⟩ := h
      have hj' : j < 120 := by omega
      refine ⟨_, rfl, b, _, 2, rfl, hb, by omega, by decide, by decide, fun wh HA w0 w1 hbA sA => ?_⟩
      have hHA := hH.sameB sA nb
      have frA := sH.stepB sA fb
      have hw : wh = 0 ∨ wh = 1 := by omega
      rcases hw with rfl | rfl
      · -- the seeker 0
        refine ⟨_, rfl, _, rfl, _, rfl, Ll, _, _, _, rfl, rfl, SqL.of (hHA.get (i := 13) rfl), rfl, b, _, v0, rfl, hbA, by omega, fun lv HB hbB sB => ?_⟩
        have hHB := hHA.sameB sB nb
        have frB := frA.stepB sB fb
        refine ⟨_, rfl, b, _, 3, rfl, hbB, by omega, by decide, by decide, fun r4 HC r40 r41 hbC sC => ⟨rfl, ?_⟩⟩
        generalize (decide (V.int r4 = V.int 0)) = night
        have hHC := hHB.sameB sC nb
        have frC := frB.stepB sC fb
        have hmk : atI [V.int M0.first, .int M0.day, .int M0.night] (1 + if night = true then 1 else 0) = some (.int (if night = true then M0.night else M0.day)) := by cases night <;> rfl
        refine ⟨_, rfl, _, rfl, Lm, _, _, _, rfl, rfl, SqL.of (hHC.get (i := 2) rfl), rfl, _, rfl, .inr ⟨_, rfl, _, _, rfl, rfl, m0, _, _, _, rfl, rfl, SqT.of (hHC.get (i := 0) rfl), hmk, ?_⟩⟩
        refine ⟨Ls, s0, _, _, S0, lv, 0, rfl, rfl, hHC.get (i := 8) rfl, rfl, hHC.get (i := 6) rfl, rfl, ?_⟩
        -- the height
        refine ⟨_, rfl, _, rfl, Lh, _, _, _, rfl, rfl, SqL.of (hHC.get (i := 11) rfl), rfl, .inl ⟨rfl, _, SqL.of (hHC.get (i := 9) rfl)⟩, _, rfl, _, rfl, _, _, rfl, rfl, _, rfl, _, _, rfl, rfl, h0, _, _, rfl, rfl, hHC.get (i := 9) rfl, small1000 (by rw [List.length_map]; omega), ?_⟩
        have eD : (upd HC h0 (.lst (hs0.map V.int ++ [.int (lv - gnd S0 lv - (if night = true then M0.night else M0.day))]))) h0 = some (.lst ((hs0 ++ [lv - gnd S0 lv - (if night = true then M0.night else M0.day)]).map V.int)) := by rw [upd_same, List.map_append]; rfl
        have sD : SameB h0 HC (upd HC h0 (.lst (hs0.map V.int ++ [.int (lv - gnd S0 lv - (if night = true then M0.night else M0.day))]))) := SameB.upd
        have hHD : Has (upd HC h0 (.lst (hs0.map V.int ++ [.int (lv - gnd S0 lv - (if night = true then M0.night else M0.day))]))) (ent C m0 m1 p0 p1 Lm Lp s0 s1 Ls h0 h1 Lh Lc Ll dx0 dx1 M0 M1 S0 S1 (hs0 ++ [lv - gnd S0 lv - (if night = true then M0.night else M0.day)]) hs1 c0 c1 v0 v1) := hHC.set 9 rfl sD eD
        have hbD := hbC.sameB sD (fun e => nb (by rw [e]; simp [ent]))
        have frD := frC.stepB sD (fr h0 (by simp [ent]))
        generalize upd HC h0 (.lst (hs0.map V.int ++ [.int (lv - gnd S0 lv - (if night = true then M0.night else M0.day))])) = HD at hHD hbD frD
        clear eD sD
        -- the law's own asking
        refine ⟨_, rfl, _, rfl, Ls, _, _, _, rfl, rfl, SqL.of (hHD.get (i := 8) rfl), rfl, _, rfl, _, rfl, Lm, _, _, _, rfl, rfl, SqL.of (hHD.get (i := 2) rfl), rfl, _, rfl, _, rfl, s0, m0, S0, M0, lv, night, rfl, hHD.get (i := 6) rfl, hHD.get (i := 0) rfl, ok0.calm, fun tq sn ld ds HE htq hsn hld evd sE fsn fld nsl => ?_⟩
        have nsn := hHD.notin fsn
        have hHE := (hHD.same sE).put 6 nsn hsn
        have fsn0 := frD.free fsn
        have fld0 := frD.free fld
        refine ⟨tq, _, rfl, SqT.of htq, rfl, _, _, rfl, _, rfl, _, rfl, Ls, _, _, _, rfl, rfl, hHE.get (i := 8) rfl, rfl, _, _, rfl, rfl, ?_⟩
        generalize hX : upd HE Ls _ = HF
        have eF : HF Ls = some (.lst [.ref sn, .ref s1]) := by rw [← hX]; exact upd_same
        have sF : SameB Ls HE HF := by rw [← hX]; exact SameB.upd
        clear hX
        have nld : ld ≠ Ls := fun e => by rw [e, hHD.get (i := 8) rfl] at fld; cases fld
        have nldp : ld ≠ p0 := fun e => by rw [e, hHD.get (i := 3) rfl] at fld; cases fld
        have nldl : ld ≠ Ll := fun e => by rw [e, hHD.get (i := 13) rfl] at fld; cases fld
        have hHF := hHE.set 8 rfl sF eF
        have hbE := hbD.same sE
        have hbF := hbE.sameB sF (fun e => nb (by rw [e]; simp [ent]))
        have frE := frD.trans sE
        have frF := frE.stepB sF (fr Ls (by simp [ent]))
        have hldF := sF _ _ hld nld
        have evF := evd.tups (sF.tup fun ys e => by rw [hHE.get (i := 8) rfl] at e; cases e)
        have bsn : b ≠ sn := fun e => by obtain ⟨o, q⟩ := hbD.ex; rw [← e, q] at fsn; cases fsn
        clear eF sF
        -- the seeker's asking
        have hSF : SkAt C HF p0 m0 M0 S0 := ⟨⟨dx0, hHF.get (i := 3) rfl⟩, hHF.get (i := 0) rfl⟩
        refine ⟨_, rfl, _, rfl, Lp, _, _, _, rfl, rfl, SqL.of (hHF.get (i := 5) rfl), rfl, p0, dx0, _, rfl, hHF.get (i := 3) rfl, fno (by decide +kernel), _, rfl, _, rfl, p0, m0, M0, S0, lv, night, rfl, hSF, fun lt xs' HG hlt hG evG hSG sG => ?_⟩
        obtain ⟨⟨dxn, hpG⟩, hmG⟩ := id hSG
        have hHG : Has HG (ent C m0 m1 p0 p1 Lm Lp sn s1 Ls h0 h1 Lh Lc Ll dxn dx1 M0 M1 (askS M0 S0 lv night) S1 (hs0 ++ [lv - gnd S0 lv - (if night = true then M0.night else M0.day)]) hs1 c0 c1 v0 v1) := hHF.set 3 rfl sG hpG
        have hbG := hbF.sameB sG (fun e => nb (by rw [e]; simp [ent]))
        have frG := frF.stepB sG (fr p0 (by simp [ent]))
        have hldG := sG _ _ hldF nldp
        have evlG := evF.tups (sG.tup hSF.notup)
        have nlt := hHF.notin hlt
        -- the last level
        refine ⟨_, rfl, _, rfl, _, rfl, Ll, _, _, _, rfl, rfl, hHG.get (i := 13) rfl, rfl, ?_⟩
        generalize hX : upd HG Ll _ = HI
        have eI : HI Ll = some (.lst [.int lv, gV v1]) := by rw [← hX]; exact upd_same
        have sI : SameB Ll HG HI := by rw [← hX]; exact SameB.upd
        clear hX
        have hHI : Has HI (ent C m0 m1 p0 p1 Lm Lp sn s1 Ls h0 h1 Lh Lc Ll dxn dx1 M0 M1 (askS M0 S0 lv night) S1 (hs0 ++ [lv - gnd S0 lv - (if night = true then M0.night else M0.day)]) hs1 c0 c1 (some lv) v1) := hHG.set 13 rfl sI eI
        have hbI := hbG.sameB sI (fun e => nb (by rw [e]; simp [ent]))
        have frI := frG.stepB sI (fr Ll (by simp [ent]))
        have nll : ∀ ys, HG Ll ≠ some (.tup ys) := fun ys e => by rw [hHG.get (i := 13) rfl] at e; cases e
        have hldI := sI _ _ hldG nldl
        have evlI := evlG.tups (sI.tup nll)
        have hI := sI _ _ hG (fun e => nlt (by rw [e]; simp [ent]))
        have evI := evG.tups (sI.tup nll)
        clear eI sI
        -- what is told
        refine ⟨_, rfl, lt, xs', _, rfl, hI, evI, fun HJ sJ => ⟨_, rfl, iteF ?_⟩⟩
        refine ⟨_, rfl, _, rfl, evsD _, evsD _, (evI.tups (TupS.of sJ)).repL (sJ _ _ hI), (evlI.tups (TupS.of sJ)).repL (sJ _ _ hldI), evs_shaped _, evs_shaped _, _, rfl, ?_⟩
        rw [evs_eqv]
        have hHJ := hHI.same sJ
        have okn := ok0.ask M0 lv night
        refine iteF ⟨_, rfl, _, rfl, _, rfl, Lh, _, _, _, rfl, rfl, SqL.of (hHJ.get (i := 11) rfl), rfl, _, rfl, _, rfl, Lc, _, _, _, rfl, rfl, SqL.of (hHJ.get (i := 12) rfl), rfl, lt, h0, xs', _, (hs0 ++ [lv - gnd S0 lv - (if night = true then M0.night else M0.day)]), c0, rfl, sJ _ _ hI, evI.tups (TupS.of sJ), hHJ.get (i := 9) rfl, by rw [List.length_append]; simp only [List.length_singleton]; omega, ok0.warn, fun HK sK => ⟨_, rfl, iteF ?_⟩⟩
        have hHK := hHJ.same sK
        have hbK := (hbI.same sJ).same sK
        have frK := (frI.trans sJ).trans sK
        refine ⟨_, rfl, b, _, 12, rfl, hbK, by omega, by decide, by decide, fun r9 HL r90 r91 hbL sL => ⟨rfl, _, rfl, ?_⟩⟩
        have nbn : b ∉ (ent C m0 m1 p0 p1 Lm Lp sn s1 Ls h0 h1 Lh Lc Ll dxn dx1 M0 M1 (askS M0 S0 lv night) S1 (hs0 ++ [lv - gnd S0 lv - (if night = true then M0.night else M0.day)]) hs1 c0 c1 (some lv) v1).map (·.1) := fun e => by
          simp only [ent, List.map_cons, List.map_nil, List.mem_cons, List.not_mem_nil, or_false] at e nb
          grind
        have frn : ∀ x ∈ (ent C m0 m1 p0 p1 Lm Lp sn s1 Ls h0 h1 Lh Lc Ll dxn dx1 M0 M1 (askS M0 S0 lv night) S1 (hs0 ++ [lv - gnd S0 lv - (if night = true then M0.night else M0.day)]) hs1 c0 c1 (some lv) v1).map (·.1), H x = none := fun x e => by
          simp only [ent, List.map_cons, List.map_nil, List.mem_cons, List.not_mem_nil, or_false] at e fr
          grind
        have hHL := hHK.sameB sL nbn
        have frL := frK.stepB sL fb
        have lenn : (hs0 ++ [lv - gnd S0 lv - (if night = true then M0.night else M0.day)]).length + hs1.length = j + 1 := by rw [List.length_append]; simp only [List.length_singleton]; omega
        refine ite2 (fun _ => ?_) (fun _ => ?_)
        · have hSL : SkAt C HL p0 m0 M0 (askS M0 S0 lv night) := ⟨⟨dxn, hHL.get (i := 3) rfl⟩, hHL.get (i := 0) rfl⟩
          refine ⟨_, rfl, _, rfl, Lp, _, _, _, rfl, rfl, SqL.of (hHL.get (i := 5) rfl), rfl, p0, dxn, _, rfl, hHL.get (i := 3) rfl, fno (by decide +kernel), p0, m0, M0, (askS M0 S0 lv night), rfl, hSL, fun HM hSM sM => ?_⟩
          obtain ⟨⟨dxm, hpM⟩, hmM⟩ := id hSM
          have hHM := hHL.set 3 rfl sM hpM
          have hbM := hbL.sameB sM (fun e => nbn (by rw [e]; simp [ent]))
          have frM := frL.stepB sM (frn p0 (by simp [ent]))
          refine ⟨_, rfl, _, rfl, Lh, _, _, _, rfl, rfl, SqL.of (hHM.get (i := 11) rfl), rfl, h0, _, rfl, .inl (SqL.of (hHM.get (i := 9) rfl)), _, rfl, _, rfl, Lc, _, _, _, rfl, rfl, hHM.get (i := 12) rfl, rfl, ?_⟩
          generalize hX : upd HM Lc _ = HN
          have eN0 : HN Lc = some (.lst [.int ((hs0 ++ [lv - gnd S0 lv - (if night = true then M0.night else M0.day)]).map V.int).length, .int c1]) := by rw [← hX]; exact upd_same
          have eN : HN Lc = some (.lst [.int (hs0 ++ [lv - gnd S0 lv - (if night = true then M0.night else M0.day)]).length, .int c1]) := by rw [eN0, List.length_map]
          have sN : SameB Lc HM HN := by rw [← hX]; exact SameB.upd
          clear hX eN0
          have hHN := hHM.set 12 rfl sN eN
          have hbN := hbM.sameB sN (fun e => nbn (by rw [e]; simp [ent]))
          have frN := frM.stepB sN (frn Lc (by simp [ent]))
          clear eN sN
          refine ⟨_, rfl, _, rfl, Ls, _, _, _, rfl, rfl, SqL.of (hHN.get (i := 8) rfl), rfl, _, rfl, sn, _, rfl, SqL.of (hHN.get (i := 6) rfl), fun q1 fq1 => ?_⟩
          have w1' := same_new fq1 (.lst (cutV (stV (askS M0 S0 lv night)) none (some 3)))
          have hHO := hHN.same w1'
          refine ⟨_, rfl, _, rfl, Ls, _, _, _, rfl, rfl, SqL.of (hHO.get (i := 8) rfl), rfl, sn, _, _, _, rfl, rfl, SqL.of (hHO.get (i := 6) rfl), rfl, (by show 3 ≤ sizeLine; decide), fun q2 fq2 => ?_⟩
          have w2' := same_new fq2 (.lst [.int 0, .int (askS M0 S0 lv night).calm, .bl false])
          refine ⟨q1, q2, _, _, rfl, rfl, w2' _ _ upd_same, upd_same, (by show 3 + 3 ≤ sizeLine; decide), fun q3 fq3 => ?_⟩
          have w3' := same_new fq3 (.lst (cutV (stV (askS M0 S0 lv night)) none (some 3) ++ [.int 0, .int (askS M0 S0 lv night).calm, .bl false]))
          have w13 := w1'.trans (w2'.trans w3')
          have hHQ := hHN.same w13
          have e3 : _ = some (HO.lst (stV { (askS M0 S0 lv night) with warning := false, above := 0 })) := upd_same (H := upd (upd HN q1 (.lst (cutV (stV (askS M0 S0 lv night)) none (some 3)))) q2 (.lst [.int 0, .int (askS M0 S0 lv night).calm, .bl false])) (a := q3) (o := .lst (cutV (stV (askS M0 S0 lv night)) none (some 3) ++ [.int 0, .int (askS M0 S0 lv night).calm, .bl false]))
          have fq0 := w1'.free (w2'.free fq3)
          have hHR := hHQ.put 6 (hHN.notin fq0) e3
          have hbQ := hbN.same w13
          have frQ := frN.trans w13
          have fq30 := frN.free fq0
          have bq3 : b ≠ q3 := hbN.nb fq0
          generalize upd (upd (upd HN q1 (.lst (cutV (stV (askS M0 S0 lv night)) none (some 3)))) q2 (.lst [.int 0, .int (askS M0 S0 lv night).calm, .bl false])) q3 (.lst (cutV (stV (askS M0 S0 lv night)) none (some 3) ++ [.int 0, .int (askS M0 S0 lv night).calm, .bl false])) = HR at hHQ hHR hbQ frQ
          refine ⟨_, rfl, _, rfl, Ls, _, _, _, rfl, rfl, hHR.get (i := 8) rfl, rfl, ?_⟩
          generalize hX : upd HR Ls _ = HS
          have eS : HS Ls = some (.lst [.ref q3, .ref s1]) := by rw [← hX]; exact upd_same
          have sS : SameB Ls HR HS := by rw [← hX]; exact SameB.upd
          clear hX
          have hHS : Has HS (ent C m0 m1 p0 p1 Lm Lp q3 s1 Ls h0 h1 Lh Lc Ll dxm dx1 M0 M1 { (askS M0 S0 lv night) with warning := false, above := 0 } S1 (hs0 ++ [lv - gnd S0 lv - (if night = true then M0.night else M0.day)]) hs1 ((hs0 ++ [lv - gnd S0 lv - (if night = true then M0.night else M0.day)]).length : Int) c1 (some lv) v1) := hHR.set 8 rfl sS eS
          have hbS := hbQ.sameB sS (fun e => nbn (by rw [e]; simp [ent]))
          have frS := frQ.stepB sS (frn Ls (by simp [ent]))
          have nbs : b ∉ (ent C m0 m1 p0 p1 Lm Lp q3 s1 Ls h0 h1 Lh Lc Ll dxm dx1 M0 M1 { (askS M0 S0 lv night) with warning := false, above := 0 } S1 (hs0 ++ [lv - gnd S0 lv - (if night = true then M0.night else M0.day)]) hs1 ((hs0 ++ [lv - gnd S0 lv - (if night = true then M0.night else M0.day)]).length : Int) c1 (some lv) v1).map (·.1) := fun e => by
            simp only [ent, List.map_cons, List.map_nil, List.mem_cons, List.not_mem_nil, or_false] at e nbn
            grind
          have frs : ∀ x ∈ (ent C m0 m1 p0 p1 Lm Lp q3 s1 Ls h0 h1 Lh Lc Ll dxm dx1 M0 M1 { (askS M0 S0 lv night) with warning := false, above := 0 } S1 (hs0 ++ [lv - gnd S0 lv - (if night = true then M0.night else M0.day)]) hs1 ((hs0 ++ [lv - gnd S0 lv - (if night = true then M0.night else M0.day)]).length : Int) c1 (some lv) v1).map (·.1), H x = none := fun x e => by
            simp only [ent, List.map_cons, List.map_nil, List.mem_cons, List.not_mem_nil, or_false] at e frn
            grind
          refine ⟨Lp, Ls, p0, p1, _, _, m0, m1, M0, M1, _, _, rfl, rfl, rfl, hHS.get (i := 5) rfl, hHS.get (i := 8) rfl, ⟨⟨_, hHS.get (i := 3) rfl⟩, hHS.get (i := 0) rfl⟩, ⟨⟨_, hHS.get (i := 4) rfl⟩, hHS.get (i := 1) rfl⟩, hHS.get (i := 6) rfl, hHS.get (i := 7) rfl, fun u => ?_⟩
          have okr := okn.reset
          exact ⟨_, _, _, _, _, _, _, _, _, _, _, _, _, _, _, _, _, _, _, _, _, rfl, frS, hbS, nbs, hHS, frs, okr, ok1, lenn⟩
        · refine ⟨Lp, Ls, p0, p1, _, _, m0, m1, M0, M1, _, _, rfl, rfl, rfl, hHL.get (i := 5) rfl, hHL.get (i := 8) rfl, ⟨⟨_, hHL.get (i := 3) rfl⟩, hHL.get (i := 0) rfl⟩, ⟨⟨_, hHL.get (i := 4) rfl⟩, hHL.get (i := 1) rfl⟩, hHL.get (i := 6) rfl, hHL.get (i := 7) rfl, fun u => ?_⟩
          exact ⟨_, _, _, _, _, _, _, _, _, _, _, _, _, _, _, _, _, _, _, _, _, rfl, frL, hbL, nbn, hHL, frn, okn, ok1, lenn⟩
      · -- the seeker 1
        refine ⟨_, rfl, _, rfl, _, rfl, Ll, _, _, _, rfl, rfl, SqL.of (hHA.get (i := 13) rfl), rfl, b, _, v1, rfl, hbA, by omega, fun lv HB hbB sB => ?_⟩
        have hHB := hHA.sameB sB nb
        have frB := frA.stepB sB fb
        refine ⟨_, rfl, b, _, 3, rfl, hbB, by omega, by decide, by decide, fun r4 HC r40 r41 hbC sC => ⟨rfl, ?_⟩⟩
        generalize (decide (V.int r4 = V.int 0)) = night
        have hHC := hHB.sameB sC nb
        have frC := frB.stepB sC fb
        have hmk : atI [V.int M1.first, .int M1.day, .int M1.night] (1 + if night = true then 1 else 0) = some (.int (if night = true then M1.night else M1.day)) := by cases night <;> rfl
        refine ⟨_, rfl, _, rfl, Lm, _, _, _, rfl, rfl, SqL.of (hHC.get (i := 2) rfl), rfl, _, rfl, .inr ⟨_, rfl, _, _, rfl, rfl, m1, _, _, _, rfl, rfl, SqT.of (hHC.get (i := 1) rfl), hmk, ?_⟩⟩
        refine ⟨Ls, s1, _, _, S1, lv, 1, rfl, rfl, hHC.get (i := 8) rfl, rfl, hHC.get (i := 7) rfl, rfl, ?_⟩
        -- the height
        refine ⟨_, rfl, _, rfl, Lh, _, _, _, rfl, rfl, SqL.of (hHC.get (i := 11) rfl), rfl, .inl ⟨rfl, _, SqL.of (hHC.get (i := 10) rfl)⟩, _, rfl, _, rfl, _, _, rfl, rfl, _, rfl, _, _, rfl, rfl, h1, _, _, rfl, rfl, hHC.get (i := 10) rfl, small1000 (by rw [List.length_map]; omega), ?_⟩
        have eD : (upd HC h1 (.lst (hs1.map V.int ++ [.int (lv - gnd S1 lv - (if night = true then M1.night else M1.day))]))) h1 = some (.lst ((hs1 ++ [lv - gnd S1 lv - (if night = true then M1.night else M1.day)]).map V.int)) := by rw [upd_same, List.map_append]; rfl
        have sD : SameB h1 HC (upd HC h1 (.lst (hs1.map V.int ++ [.int (lv - gnd S1 lv - (if night = true then M1.night else M1.day))]))) := SameB.upd
        have hHD : Has (upd HC h1 (.lst (hs1.map V.int ++ [.int (lv - gnd S1 lv - (if night = true then M1.night else M1.day))]))) (ent C m0 m1 p0 p1 Lm Lp s0 s1 Ls h0 h1 Lh Lc Ll dx0 dx1 M0 M1 S0 S1 hs0 (hs1 ++ [lv - gnd S1 lv - (if night = true then M1.night else M1.day)]) c0 c1 v0 v1) := hHC.set 10 rfl sD eD
        have hbD := hbC.sameB sD (fun e => nb (by rw [e]; simp [ent]))
        have frD := frC.stepB sD (fr h1 (by simp [ent]))
        generalize upd HC h1 (.lst (hs1.map V.int ++ [.int (lv - gnd S1 lv - (if night = true then M1.night else M1.day))])) = HD at hHD hbD frD
        clear eD sD
        -- the law's own asking
        refine ⟨_, rfl, _, rfl, Ls, _, _, _, rfl, rfl, SqL.of (hHD.get (i := 8) rfl), rfl, _, rfl, _, rfl, Lm, _, _, _, rfl, rfl, SqL.of (hHD.get (i := 2) rfl), rfl, _, rfl, _, rfl, s1, m1, S1, M1, lv, night, rfl, hHD.get (i := 7) rfl, hHD.get (i := 1) rfl, ok1.calm, fun tq sn ld ds HE htq hsn hld evd sE fsn fld nsl => ?_⟩
        have nsn := hHD.notin fsn
        have hHE := (hHD.same sE).put 7 nsn hsn
        have fsn0 := frD.free fsn
        have fld0 := frD.free fld
        refine ⟨tq, _, rfl, SqT.of htq, rfl, _, _, rfl, _, rfl, _, rfl, Ls, _, _, _, rfl, rfl, hHE.get (i := 8) rfl, rfl, _, _, rfl, rfl, ?_⟩
        generalize hX : upd HE Ls _ = HF
        have eF : HF Ls = some (.lst [.ref s0, .ref sn]) := by rw [← hX]; exact upd_same
        have sF : SameB Ls HE HF := by rw [← hX]; exact SameB.upd
        clear hX
        have nld : ld ≠ Ls := fun e => by rw [e, hHD.get (i := 8) rfl] at fld; cases fld
        have nldp : ld ≠ p1 := fun e => by rw [e, hHD.get (i := 4) rfl] at fld; cases fld
        have nldl : ld ≠ Ll := fun e => by rw [e, hHD.get (i := 13) rfl] at fld; cases fld
        have hHF := hHE.set 8 rfl sF eF
        have hbE := hbD.same sE
        have hbF := hbE.sameB sF (fun e => nb (by rw [e]; simp [ent]))
        have frE := frD.trans sE
        have frF := frE.stepB sF (fr Ls (by simp [ent]))
        have hldF := sF _ _ hld nld
        have evF := evd.tups (sF.tup fun ys e => by rw [hHE.get (i := 8) rfl] at e; cases e)
        have bsn : b ≠ sn := fun e => by obtain ⟨o, q⟩ := hbD.ex; rw [← e, q] at fsn; cases fsn
        clear eF sF
        -- the seeker's asking
        have hSF : SkAt C HF p1 m1 M1 S1 := ⟨⟨dx1, hHF.get (i := 4) rfl⟩, hHF.get (i := 1) rfl⟩
        refine ⟨_, rfl, _, rfl, Lp, _, _, _, rfl, rfl, SqL.of (hHF.get (i := 5) rfl), rfl, p1, dx1, _, rfl, hHF.get (i := 4) rfl, fno (by decide +kernel), _, rfl, _, rfl, p1, m1, M1, S1, lv, night, rfl, hSF, fun lt xs' HG hlt hG evG hSG sG => ?_⟩
        obtain ⟨⟨dxn, hpG⟩, hmG⟩ := id hSG
        have hHG : Has HG (ent C m0 m1 p0 p1 Lm Lp s0 sn Ls h0 h1 Lh Lc Ll dx0 dxn M0 M1 S0 (askS M1 S1 lv night) hs0 (hs1 ++ [lv - gnd S1 lv - (if night = true then M1.night else M1.day)]) c0 c1 v0 v1) := hHF.set 4 rfl sG hpG
        have hbG := hbF.sameB sG (fun e => nb (by rw [e]; simp [ent]))
        have frG := frF.stepB sG (fr p1 (by simp [ent]))
        have hldG := sG _ _ hldF nldp
        have evlG := evF.tups (sG.tup hSF.notup)
        have nlt := hHF.notin hlt
        -- the last level
        refine ⟨_, rfl, _, rfl, _, rfl, Ll, _, _, _, rfl, rfl, hHG.get (i := 13) rfl, rfl, ?_⟩
        generalize hX : upd HG Ll _ = HI
        have eI : HI Ll = some (.lst [gV v0, .int lv]) := by rw [← hX]; exact upd_same
        have sI : SameB Ll HG HI := by rw [← hX]; exact SameB.upd
        clear hX
        have hHI : Has HI (ent C m0 m1 p0 p1 Lm Lp s0 sn Ls h0 h1 Lh Lc Ll dx0 dxn M0 M1 S0 (askS M1 S1 lv night) hs0 (hs1 ++ [lv - gnd S1 lv - (if night = true then M1.night else M1.day)]) c0 c1 v0 (some lv)) := hHG.set 13 rfl sI eI
        have hbI := hbG.sameB sI (fun e => nb (by rw [e]; simp [ent]))
        have frI := frG.stepB sI (fr Ll (by simp [ent]))
        have nll : ∀ ys, HG Ll ≠ some (.tup ys) := fun ys e => by rw [hHG.get (i := 13) rfl] at e; cases e
        have hldI := sI _ _ hldG nldl
        have evlI := evlG.tups (sI.tup nll)
        have hI := sI _ _ hG (fun e => nlt (by rw [e]; simp [ent]))
        have evI := evG.tups (sI.tup nll)
        clear eI sI
        -- what is told
        refine ⟨_, rfl, lt, xs', _, rfl, hI, evI, fun HJ sJ => ⟨_, rfl, iteF ?_⟩⟩
        refine ⟨_, rfl, _, rfl, evsD _, evsD _, (evI.tups (TupS.of sJ)).repL (sJ _ _ hI), (evlI.tups (TupS.of sJ)).repL (sJ _ _ hldI), evs_shaped _, evs_shaped _, _, rfl, ?_⟩
        rw [evs_eqv]
        have hHJ := hHI.same sJ
        have okn := ok1.ask M1 lv night
        refine iteF ⟨_, rfl, _, rfl, _, rfl, Lh, _, _, _, rfl, rfl, SqL.of (hHJ.get (i := 11) rfl), rfl, _, rfl, _, rfl, Lc, _, _, _, rfl, rfl, SqL.of (hHJ.get (i := 12) rfl), rfl, lt, h1, xs', _, (hs1 ++ [lv - gnd S1 lv - (if night = true then M1.night else M1.day)]), c1, rfl, sJ _ _ hI, evI.tups (TupS.of sJ), hHJ.get (i := 10) rfl, by rw [List.length_append]; simp only [List.length_singleton]; omega, ok1.warn, fun HK sK => ⟨_, rfl, iteF ?_⟩⟩
        have hHK := hHJ.same sK
        have hbK := (hbI.same sJ).same sK
        have frK := (frI.trans sJ).trans sK
        refine ⟨_, rfl, b, _, 12, rfl, hbK, by omega, by decide, by decide, fun r9 HL r90 r91 hbL sL => ⟨rfl, _, rfl, ?_⟩⟩
        have nbn : b ∉ (ent C m0 m1 p0 p1 Lm Lp s0 sn Ls h0 h1 Lh Lc Ll dx0 dxn M0 M1 S0 (askS M1 S1 lv night) hs0 (hs1 ++ [lv - gnd S1 lv - (if night = true then M1.night else M1.day)]) c0 c1 v0 (some lv)).map (·.1) := fun e => by
          simp only [ent, List.map_cons, List.map_nil, List.mem_cons, List.not_mem_nil, or_false] at e nb
          grind
        have frn : ∀ x ∈ (ent C m0 m1 p0 p1 Lm Lp s0 sn Ls h0 h1 Lh Lc Ll dx0 dxn M0 M1 S0 (askS M1 S1 lv night) hs0 (hs1 ++ [lv - gnd S1 lv - (if night = true then M1.night else M1.day)]) c0 c1 v0 (some lv)).map (·.1), H x = none := fun x e => by
          simp only [ent, List.map_cons, List.map_nil, List.mem_cons, List.not_mem_nil, or_false] at e fr
          grind
        have hHL := hHK.sameB sL nbn
        have frL := frK.stepB sL fb
        have lenn : hs0.length + (hs1 ++ [lv - gnd S1 lv - (if night = true then M1.night else M1.day)]).length = j + 1 := by rw [List.length_append]; simp only [List.length_singleton]; omega
        refine ite2 (fun _ => ?_) (fun _ => ?_)
        · have hSL : SkAt C HL p1 m1 M1 (askS M1 S1 lv night) := ⟨⟨dxn, hHL.get (i := 4) rfl⟩, hHL.get (i := 1) rfl⟩
          refine ⟨_, rfl, _, rfl, Lp, _, _, _, rfl, rfl, SqL.of (hHL.get (i := 5) rfl), rfl, p1, dxn, _, rfl, hHL.get (i := 4) rfl, fno (by decide +kernel), p1, m1, M1, (askS M1 S1 lv night), rfl, hSL, fun HM hSM sM => ?_⟩
          obtain ⟨⟨dxm, hpM⟩, hmM⟩ := id hSM
          have hHM := hHL.set 4 rfl sM hpM
          have hbM := hbL.sameB sM (fun e => nbn (by rw [e]; simp [ent]))
          have frM := frL.stepB sM (frn p1 (by simp [ent]))
          refine ⟨_, rfl, _, rfl, Lh, _, _, _, rfl, rfl, SqL.of (hHM.get (i := 11) rfl), rfl, h1, _, rfl, .inl (SqL.of (hHM.get (i := 10) rfl)), _, rfl, _, rfl, Lc, _, _, _, rfl, rfl, hHM.get (i := 12) rfl, rfl, ?_⟩
          generalize hX : upd HM Lc _ = HN
          have eN0 : HN Lc = some (.lst [.int c0, .int ((hs1 ++ [lv - gnd S1 lv - (if night = true then M1.night else M1.day)]).map V.int).length]) := by rw [← hX]; exact upd_same
          have eN : HN Lc = some (.lst [.int c0, .int (hs1 ++ [lv - gnd S1 lv - (if night = true then M1.night else M1.day)]).length]) := by rw [eN0, List.length_map]
          have sN : SameB Lc HM HN := by rw [← hX]; exact SameB.upd
          clear hX eN0
          have hHN := hHM.set 12 rfl sN eN
          have hbN := hbM.sameB sN (fun e => nbn (by rw [e]; simp [ent]))
          have frN := frM.stepB sN (frn Lc (by simp [ent]))
          clear eN sN
          refine ⟨_, rfl, _, rfl, Ls, _, _, _, rfl, rfl, SqL.of (hHN.get (i := 8) rfl), rfl, _, rfl, sn, _, rfl, SqL.of (hHN.get (i := 7) rfl), fun q1 fq1 => ?_⟩
          have w1' := same_new fq1 (.lst (cutV (stV (askS M1 S1 lv night)) none (some 3)))
          have hHO := hHN.same w1'
          refine ⟨_, rfl, _, rfl, Ls, _, _, _, rfl, rfl, SqL.of (hHO.get (i := 8) rfl), rfl, sn, _, _, _, rfl, rfl, SqL.of (hHO.get (i := 7) rfl), rfl, (by show 3 ≤ sizeLine; decide), fun q2 fq2 => ?_⟩
          have w2' := same_new fq2 (.lst [.int 0, .int (askS M1 S1 lv night).calm, .bl false])
          refine ⟨q1, q2, _, _, rfl, rfl, w2' _ _ upd_same, upd_same, (by show 3 + 3 ≤ sizeLine; decide), fun q3 fq3 => ?_⟩
          have w3' := same_new fq3 (.lst (cutV (stV (askS M1 S1 lv night)) none (some 3) ++ [.int 0, .int (askS M1 S1 lv night).calm, .bl false]))
          have w13 := w1'.trans (w2'.trans w3')
          have hHQ := hHN.same w13
          have e3 : _ = some (HO.lst (stV { (askS M1 S1 lv night) with warning := false, above := 0 })) := upd_same (H := upd (upd HN q1 (.lst (cutV (stV (askS M1 S1 lv night)) none (some 3)))) q2 (.lst [.int 0, .int (askS M1 S1 lv night).calm, .bl false])) (a := q3) (o := .lst (cutV (stV (askS M1 S1 lv night)) none (some 3) ++ [.int 0, .int (askS M1 S1 lv night).calm, .bl false]))
          have fq0 := w1'.free (w2'.free fq3)
          have hHR := hHQ.put 7 (hHN.notin fq0) e3
          have hbQ := hbN.same w13
          have frQ := frN.trans w13
          have fq30 := frN.free fq0
          have bq3 : b ≠ q3 := hbN.nb fq0
          generalize upd (upd (upd HN q1 (.lst (cutV (stV (askS M1 S1 lv night)) none (some 3)))) q2 (.lst [.int 0, .int (askS M1 S1 lv night).calm, .bl false])) q3 (.lst (cutV (stV (askS M1 S1 lv night)) none (some 3) ++ [.int 0, .int (askS M1 S1 lv night).calm, .bl false])) = HR at hHQ hHR hbQ frQ
          refine ⟨_, rfl, _, rfl, Ls, _, _, _, rfl, rfl, hHR.get (i := 8) rfl, rfl, ?_⟩
          generalize hX : upd HR Ls _ = HS
          have eS : HS Ls = some (.lst [.ref s0, .ref q3]) := by rw [← hX]; exact upd_same
          have sS : SameB Ls HR HS := by rw [← hX]; exact SameB.upd
          clear hX
          have hHS : Has HS (ent C m0 m1 p0 p1 Lm Lp s0 q3 Ls h0 h1 Lh Lc Ll dx0 dxm M0 M1 S0 { (askS M1 S1 lv night) with warning := false, above := 0 } hs0 (hs1 ++ [lv - gnd S1 lv - (if night = true then M1.night else M1.day)]) c0 ((hs1 ++ [lv - gnd S1 lv - (if night = true then M1.night else M1.day)]).length : Int) v0 (some lv)) := hHR.set 8 rfl sS eS
          have hbS := hbQ.sameB sS (fun e => nbn (by rw [e]; simp [ent]))
          have frS := frQ.stepB sS (frn Ls (by simp [ent]))
          have nbs : b ∉ (ent C m0 m1 p0 p1 Lm Lp s0 q3 Ls h0 h1 Lh Lc Ll dx0 dxm M0 M1 S0 { (askS M1 S1 lv night) with warning := false, above := 0 } hs0 (hs1 ++ [lv - gnd S1 lv - (if night = true then M1.night else M1.day)]) c0 ((hs1 ++ [lv - gnd S1 lv - (if night = true then M1.night else M1.day)]).length : Int) v0 (some lv)).map (·.1) := fun e => by
            simp only [ent, List.map_cons, List.map_nil, List.mem_cons, List.not_mem_nil, or_false] at e nbn
            grind
          have frs : ∀ x ∈ (ent C m0 m1 p0 p1 Lm Lp s0 q3 Ls h0 h1 Lh Lc Ll dx0 dxm M0 M1 S0 { (askS M1 S1 lv night) with warning := false, above := 0 } hs0 (hs1 ++ [lv - gnd S1 lv - (if night = true then M1.night else M1.day)]) c0 ((hs1 ++ [lv - gnd S1 lv - (if night = true then M1.night else M1.day)]).length : Int) v0 (some lv)).map (·.1), H x = none := fun x e => by
            simp only [ent, List.map_cons, List.map_nil, List.mem_cons, List.not_mem_nil, or_false] at e frn
            grind
          refine ⟨Lp, Ls, p0, p1, _, _, m0, m1, M0, M1, _, _, rfl, rfl, rfl, hHS.get (i := 5) rfl, hHS.get (i := 8) rfl, ⟨⟨_, hHS.get (i := 3) rfl⟩, hHS.get (i := 0) rfl⟩, ⟨⟨_, hHS.get (i := 4) rfl⟩, hHS.get (i := 1) rfl⟩, hHS.get (i := 6) rfl, hHS.get (i := 7) rfl, fun u => ?_⟩
          have okr := okn.reset
          exact ⟨_, _, _, _, _, _, _, _, _, _, _, _, _, _, _, _, _, _, _, _, _, rfl, frS, hbS, nbs, hHS, frs, ok0, okr, lenn⟩
        · refine ⟨Lp, Ls, p0, p1, _, _, m0, m1, M0, M1, _, _, rfl, rfl, rfl, hHL.get (i := 5) rfl, hHL.get (i := 8) rfl, ⟨⟨_, hHL.get (i := 3) rfl⟩, hHL.get (i := 0) rfl⟩, ⟨⟨_, hHL.get (i := 4) rfl⟩, hHL.get (i := 1) rfl⟩, hHL.get (i := 6) rfl, hHL.get (i := 7) rfl, fun u => ?_⟩
          exact ⟨_, _, _, _, _, _, _, _, _, _, _, _, _, _, _, _, _, _, _, _, _, rfl, frL, hbL, nbn, hHL, frn, ok0, okn, lenn⟩
    · obtain ⟨s0, s1, dx0, dx1, S0, S1, hs0, hs1, c0, c1, v0, v1, u9, u10, u11, u12, u13, u14, u15, u16, u17, rfl, sH, _⟩ := h
      exact ⟨sH, _, _, _, _, _, _, _, _, _, _, _, _, _, _, _, _, _, rfl⟩
  · exact q H'
end
end K21

set_option Elab.async false
set_option linter.all false
set_option maxRecDepth 100000
set_option maxHeartbeats 4000000
namespace K21
open PySem L2
theorem all_mk {l : PySem.W.OpenLaw} {w : World} {K : PySem.W.Frag} {h : Heap} {mg : Str → Option Value} {fa C f1 f2 f3 f4 f5 f6 f7 f8 f9 f10 fm1 fm2 fm3 fm4 fm5 fm6 fm7 fm8 : Addr} (X : K.In h) (G : h.Ns mainGlobals mg) (hfa : mg "law" = some (.ref fa))
    {od1 an1 od2 an2 od3 an3 od4 an4 od5 an5 od6 an6 od7 an7 od8 an8 od9 an9 od10 an10 odm1 anm1 odm2 anm2 odm3 anm3 odm4 anm4 odm5 anm5 odm6 anm6 odm7 anm7 odm8 anm8 : Option Addr} {sl1 sl2 sl3 sl4 sl5 sl6 sl7 sl8 sl9 sl10 slm1 slm2 slm3 slm4 slm5 slm6 slm7 slm8 : Array (Option Value)} {oc1 kV1 dc1 pm1 cd1 ct1 oc2 kV2 dc2 pm2 cd2 ct2 oc3 kV3 dc3 pm3 cd3 ct3 oc4 kV4 dc4 pm4 cd4 ct4 oc5 kV5 dc5 pm5 cd5 ct5 oc6 kV6 dc6 pm6 cd6 ct6 oc7 kV7 dc7 pm7 cd7 ct7 oc8 kV8 dc8 pm8 cd8 ct8 oc9 kV9 dc9 pm9 cd9 ct9 oc10 kV10 dc10 pm10 cd10 ct10 ocm1 kVm1 dcm1 pmm1 cdm1 ctm1 ocm2 kVm2 dcm2 pmm2 cdm2 ctm2 ocm3 kVm3 dcm3 pmm3 cdm3 ctm3 ocm4 kVm4 dcm4 pmm4 cdm4 ctm4 ocm5 kVm5 dcm5 pmm5 cdm5 ctm5 ocm6 kVm6 dcm6 pmm6 cdm6 ctm6 ocm7 kVm7 dcm7 pmm7 cdm7 ctm7 ocm8 kVm8 dcm8 pmm8 cdm8 ctm8 : Value} {tk0 tk1 tk2 : Tok}
    (aC : PySem.W.nsIn K mainGlobals "Seeker" = some (some (.ref C)))
    (am1 : PySem.W.findIn K (.ref C) "__init__" = some (some (.ref fm1))) (im1 : PySem.W.isFn K (.ref fm1) = true) (lm1 : K.lookup fm1 = some ⟨ocm1, odm1, .func (PySem.W.fnOf "__init__" "Seeker.__init__" (defArgs s_Seeker___init__) (defBody s_Seeker___init__) (defScope s_Seeker___init__) .none kVm1 dcm1 pmm1 anm1 cdm1 ctm1), slm1⟩) (cm1 : PySem.W.codeIn K cdm1 "Seeker.__init__" = true) (km1 : PySem.W.keepIn K (.ref fm1) = true)
    (am2 : PySem.W.findIn K (.ref C) "ask" = some (some (.ref fm2))) (im2 : PySem.W.isFn K (.ref fm2) = true) (lm2 : K.lookup fm2 = some ⟨ocm2, odm2, .func (PySem.W.fnOf "ask" "Seeker.ask" (defArgs s_Seeker_ask) (defBody s_Seeker_ask) (defScope s_Seeker_ask) .none kVm2 dcm2 pmm2 anm2 cdm2 ctm2), slm2⟩) (cm2 : PySem.W.codeIn K cdm2 "Seeker.ask" = true) (km2 : PySem.W.keepIn K (.ref fm2) = true)
    (am3 : PySem.W.findIn K (.ref C) "tell_first" = some (some (.ref fm3))) (im3 : PySem.W.isFn K (.ref fm3) = true) (lm3 : K.lookup fm3 = some ⟨ocm3, odm3, .func (PySem.W.fnOf "tell_first" "Seeker.tell_first" (defArgs s_Seeker_tell_first) (defBody s_Seeker_tell_first) (defScope s_Seeker_tell_first) .none kVm3 dcm3 pmm3 anm3 cdm3 ctm3), slm3⟩) (cm3 : PySem.W.codeIn K cdm3 "Seeker.tell_first" = true) (km3 : PySem.W.keepIn K (.ref fm3) = true)
    (am4 : PySem.W.findIn K (.ref C) "tell_warning" = some (some (.ref fm4))) (im4 : PySem.W.isFn K (.ref fm4) = true) (lm4 : K.lookup fm4 = some ⟨ocm4, odm4, .func (PySem.W.fnOf "tell_warning" "Seeker.tell_warning" (defArgs s_Seeker_tell_warning) (defBody s_Seeker_tell_warning) (defScope s_Seeker_tell_warning) .none kVm4 dcm4 pmm4 anm4 cdm4 ctm4), slm4⟩) (cm4 : PySem.W.codeIn K cdm4 "Seeker.tell_warning" = true) (km4 : PySem.W.keepIn K (.ref fm4) = true)
    (am5 : PySem.W.findIn K (.ref C) "move_ground" = some (some (.ref fm5))) (im5 : PySem.W.isFn K (.ref fm5) = true) (lm5 : K.lookup fm5 = some ⟨ocm5, odm5, .func (PySem.W.fnOf "move_ground" "Seeker.move_ground" (defArgs s_Seeker_move_ground) (defBody s_Seeker_move_ground) (defScope s_Seeker_move_ground) .none kVm5 dcm5 pmm5 anm5 cdm5 ctm5), slm5⟩) (cm5 : PySem.W.codeIn K cdm5 "Seeker.move_ground" = true) (km5 : PySem.W.keepIn K (.ref fm5) = true)
    (am6 : PySem.W.findIn K (.ref C) "reset" = some (some (.ref fm6))) (im6 : PySem.W.isFn K (.ref fm6) = true) (lm6 : K.lookup fm6 = some ⟨ocm6, odm6, .func (PySem.W.fnOf "reset" "Seeker.reset" (defArgs s_Seeker_reset) (defBody s_Seeker_reset) (defScope s_Seeker_reset) .none kVm6 dcm6 pmm6 anm6 cdm6 ctm6), slm6⟩) (cm6 : PySem.W.codeIn K cdm6 "Seeker.reset" = true) (km6 : PySem.W.keepIn K (.ref fm6) = true)
    (am7 : PySem.W.findIn K (.ref C) "base" = some (some (.ref fm7))) (im7 : PySem.W.isFn K (.ref fm7) = true) (lm7 : K.lookup fm7 = some ⟨ocm7, odm7, .func (PySem.W.fnOf "base" "Seeker.base" (defArgs s_Seeker_base) (defBody s_Seeker_base) (defScope s_Seeker_base) .none kVm7 dcm7 pmm7 anm7 cdm7 ctm7), slm7⟩) (cm7 : PySem.W.codeIn K cdm7 "Seeker.base" = true) (km7 : PySem.W.keepIn K (.ref fm7) = true)
    (am8 : PySem.W.findIn K (.ref C) "warned" = some (some (.ref fm8))) (im8 : PySem.W.isFn K (.ref fm8) = true) (lm8 : K.lookup fm8 = some ⟨ocm8, odm8, .func (PySem.W.fnOf "warned" "Seeker.warned" (defArgs s_Seeker_warned) (defBody s_Seeker_warned) (defScope s_Seeker_warned) .none kVm8 dcm8 pmm8 anm8 cdm8 ctm8), slm8⟩) (cm8 : PySem.W.codeIn K cdm8 "Seeker.warned" = true) (km8 : PySem.W.keepIn K (.ref fm8) = true)
    (a1 : PySem.W.nsIn K mainGlobals "_law_bag" = some (some (.ref f1))) (l1 : K.lookup f1 = some ⟨oc1, od1, .func (PySem.W.fnOf "_law_bag" "_law_bag" (defArgs s_l_bag) (defBody s_l_bag) (defScope s_l_bag) .none kV1 dc1 pm1 an1 cd1 ct1), sl1⟩) (c1 : PySem.W.codeIn K cd1 "_law_bag" = true) (k1 : PySem.W.keepIn K (.ref f1) = true)
    (a2 : PySem.W.nsIn K mainGlobals "_law_take" = some (some (.ref f2))) (l2 : K.lookup f2 = some ⟨oc2, od2, .func (PySem.W.fnOf "_law_take" "_law_take" (defArgs s_l_take) (defBody s_l_take) (defScope s_l_take) .none kV2 dc2 pm2 an2 cd2 ct2), sl2⟩) (c2 : PySem.W.codeIn K cd2 "_law_take" = true) (k2 : PySem.W.keepIn K (.ref f2) = true)
    (a3 : PySem.W.nsIn K mainGlobals "_law_whole" = some (some (.ref f3))) (l3 : K.lookup f3 = some ⟨oc3, od3, .func (PySem.W.fnOf "_law_whole" "_law_whole" (defArgs s_l_whole) (defBody s_l_whole) (defScope s_l_whole) .none kV3 dc3 pm3 an3 cd3 ct3), sl3⟩) (c3 : PySem.W.codeIn K cd3 "_law_whole" = true) (k3 : PySem.W.keepIn K (.ref f3) = true)
    (a4 : PySem.W.nsIn K mainGlobals "_law_marks" = some (some (.ref f4))) (l4 : K.lookup f4 = some ⟨oc4, od4, .func (PySem.W.fnOf "_law_marks" "_law_marks" (defArgs s_l_marks) (defBody s_l_marks) (defScope s_l_marks) .none kV4 dc4 pm4 an4 cd4 ct4), sl4⟩) (c4 : PySem.W.codeIn K cd4 "_law_marks" = true) (k4 : PySem.W.keepIn K (.ref f4) = true)
    (a5 : PySem.W.nsIn K mainGlobals "_law_are_events" = some (some (.ref f5))) (l5 : K.lookup f5 = some ⟨oc5, od5, .func (PySem.W.fnOf "_law_are_events" "_law_are_events" (defArgs s_l_are_events) (defBody s_l_are_events) (defScope s_l_are_events) .none kV5 dc5 pm5 an5 cd5 ct5), sl5⟩) (c5 : PySem.W.codeIn K cd5 "_law_are_events" = true) (k5 : PySem.W.keepIn K (.ref f5) = true)
    (a6 : PySem.W.nsIn K mainGlobals "_law_asked" = some (some (.ref f6))) (l6 : K.lookup f6 = some ⟨oc6, od6, .func (PySem.W.fnOf "_law_asked" "_law_asked" (defArgs s_l_asked) (defBody s_l_asked) (defScope s_l_asked) .none kV6 dc6 pm6 an6 cd6 ct6), sl6⟩) (c6 : PySem.W.codeIn K cd6 "_law_asked" = true) (k6 : PySem.W.keepIn K (.ref f6) = true)
    (a7 : PySem.W.nsIn K mainGlobals "_law_is_truth" = some (some (.ref f7))) (l7 : K.lookup f7 = some ⟨oc7, od7, .func (PySem.W.fnOf "_law_is_truth" "_law_is_truth" (defArgs s_l_is_truth) (defBody s_l_is_truth) (defScope s_l_is_truth) .none kV7 dc7 pm7 an7 cd7 ct7), sl7⟩) (c7 : PySem.W.codeIn K cd7 "_law_is_truth" = true) (k7 : PySem.W.keepIn K (.ref f7) = true)
    (a8 : PySem.W.nsIn K mainGlobals "_law_level" = some (some (.ref f8))) (l8 : K.lookup f8 = some ⟨oc8, od8, .func (PySem.W.fnOf "_law_level" "_law_level" (defArgs s_l_level) (defBody s_l_level) (defScope s_l_level) .none kV8 dc8 pm8 an8 cd8 ct8), sl8⟩) (c8 : PySem.W.codeIn K cd8 "_law_level" = true) (k8 : PySem.W.keepIn K (.ref f8) = true)
    (a9 : PySem.W.nsIn K mainGlobals "_law_named_right" = some (some (.ref f9))) (l9 : K.lookup f9 = some ⟨oc9, od9, .func (PySem.W.fnOf "_law_named_right" "_law_named_right" (defArgs s_l_named_right) (defBody s_l_named_right) (defScope s_l_named_right) .none kV9 dc9 pm9 an9 cd9 ct9), sl9⟩) (c9 : PySem.W.codeIn K cd9 "_law_named_right" = true) (k9 : PySem.W.keepIn K (.ref f9) = true)
    (a10 : PySem.W.nsIn K mainGlobals "law" = some (some (.ref f10))) (l10 : K.lookup f10 = some ⟨oc10, od10, .func (PySem.W.fnOf "law" "law" (defArgs s_law) (defBody s_law) (defScope s_law) .none kV10 dc10 pm10 an10 cd10 ct10), sl10⟩) (c10 : PySem.W.codeIn K cd10 "law" = true) (k10 : PySem.W.keepIn K (.ref f10) = true)
    (pg : PySem.W.plainGet K C Str.empty = true) (hd : PySem.W.hasDictIn K C = true) (po : PySem.W.plainOver K C = true) (sa : PySem.W.findIn K (.ref C) "__setattr__" = some (some (.builtin "object.__setattr__"))) (mk : PySem.W.makesIn K C = true) (kc : PySem.W.keepIn K (.ref C) = true)
    (n0 : PySem.W.findIn K (.ref C) "marks" = some none)
    (n1 : PySem.W.findIn K (.ref C) "asked" = some none)
    (n2 : PySem.W.findIn K (.ref C) "ground" = some none)
    (n3 : PySem.W.findIn K (.ref C) "risen" = some none)
    (n4 : PySem.W.findIn K (.ref C) "row_above" = some none)
    (n5 : PySem.W.findIn K (.ref C) "row_calm" = some none)
    (n6 : PySem.W.findIn K (.ref C) "warning" = some none)
    (cst0 : PySem.W.nsIn K mainGlobals "ABOVE_TO_WARN" = some (some (.int 3 tk0)))
    (cst1 : PySem.W.nsIn K mainGlobals "CALM_TO_MOVE" = some (some (.int 4 tk1)))
    (cst2 : PySem.W.nsIn K mainGlobals "DIRTY_BASE" = some (some (.int 100 tk2)))
    (z0 : PySem.W.nsIn K mainGlobals "isinstance" = some none)
    (z1 : PySem.W.nsIn K mainGlobals "int" = some none)
    (z2 : PySem.W.nsIn K mainGlobals "bool" = some none)
    (z3 : PySem.W.nsIn K mainGlobals "tuple" = some none)
    (z4 : PySem.W.nsIn K mainGlobals "list" = some none)
    (z5 : PySem.W.nsIn K mainGlobals "str" = some none)
    (z6 : PySem.W.nsIn K mainGlobals "len" = some none)
    (z7 : PySem.W.nsIn K mainGlobals "all" = some none)
    (z8 : PySem.W.nsIn K mainGlobals "abs" = some none)
    (z9 : PySem.W.nsIn K mainGlobals "max" = some none)
    (z10 : PySem.W.nsIn K mainGlobals "min" = some none)
    (z11 : PySem.W.nsIn K mainGlobals "range" = some none)
    : ∃ fd : FuncData, (∀ (s : Shared) (v : Value), BindsTo s fd ⟨[v], []⟩ [("_law_script", v)]) ∧ ∀ base : Heap, K.In base → base.Ns mainGlobals mg → FnOk l.prog w K mg base CX0 3 fa fd ["_law_script"] (spLaw K) := by
  have e := hfa.symm.trans (PySem.W.mg_of X G a10)
  cases e
  have T : Tx K mg C := ⟨⟨PySem.W.mg_none_of X G z0, PySem.W.mg_none_of X G z1, PySem.W.mg_none_of X G z2, PySem.W.mg_none_of X G z3, PySem.W.mg_none_of X G z4, PySem.W.mg_none_of X G z5, PySem.W.mg_none_of X G z6, PySem.W.mg_none_of X G z7, PySem.W.mg_none_of X G z8, PySem.W.mg_none_of X G z9, PySem.W.mg_none_of X G z10, PySem.W.mg_none_of X G z11⟩, ⟨_, PySem.W.mg_of X G cst0, ⟨_, rfl⟩⟩, ⟨_, PySem.W.mg_of X G cst1, ⟨_, rfl⟩⟩, ⟨_, PySem.W.mg_of X G cst2, ⟨_, rfl⟩⟩,  ⟨pg, hd, po, sa⟩, PySem.W.mg_of X G aC, n0, n1, n2, n3, n4, n5, n6⟩
  have Fm1 := fun_mk (st := s_Seeker___init__) lm1 cm1 km1
  have bm1 := Fm1.binds (ps := p_Seeker___init__) fun _ _ _ _ _ _ us hl => match us, hl with | [_, _], _ => rfl
  have M___init__ : ∃ f fd, Fun K "__init__" "Seeker.__init__" s_Seeker___init__ f fd ∧ Mk K C f ∧ Binds K fd p_Seeker___init__ [] := ⟨fm1, _, Fm1, ⟨mk, am1, im1, kc⟩, bm1⟩
  have Fm2 := fun_mk (st := s_Seeker_ask) lm2 cm2 km2
  have bm2 := Fm2.binds (ps := p_Seeker_ask) fun _ _ _ _ _ _ us hl => match us, hl with | [_, _, _], _ => rfl
  have M_ask : CodeM K C "ask" "Seeker.ask" s_Seeker_ask p_Seeker_ask := ⟨fm2, _, Fm2, ⟨am2, im2, km2⟩, bm2⟩
  have Fm3 := fun_mk (st := s_Seeker_tell_first) lm3 cm3 km3
  have bm3 := Fm3.binds (ps := p_Seeker_tell_first) fun _ _ _ _ _ _ us hl => match us, hl with | [_, _], _ => rfl
  have M_tell_first : CodeM K C "tell_first" "Seeker.tell_first" s_Seeker_tell_first p_Seeker_tell_first := ⟨fm3, _, Fm3, ⟨am3, im3, km3⟩, bm3⟩
  have Fm4 := fun_mk (st := s_Seeker_tell_warning) lm4 cm4 km4
  have bm4 := Fm4.binds (ps := p_Seeker_tell_warning) fun _ _ _ _ _ _ us hl => match us, hl with | [_, _], _ => rfl
  have M_tell_warning : CodeM K C "tell_warning" "Seeker.tell_warning" s_Seeker_tell_warning p_Seeker_tell_warning := ⟨fm4, _, Fm4, ⟨am4, im4, km4⟩, bm4⟩
  have Fm5 := fun_mk (st := s_Seeker_move_ground) lm5 cm5 km5
  have bm5 := Fm5.binds (ps := p_Seeker_move_ground) fun _ _ _ _ _ _ us hl => match us, hl with | [_, _, _], _ => rfl
  have M_move_ground : CodeM K C "move_ground" "Seeker.move_ground" s_Seeker_move_ground p_Seeker_move_ground := ⟨fm5, _, Fm5, ⟨am5, im5, km5⟩, bm5⟩
  have Fm6 := fun_mk (st := s_Seeker_reset) lm6 cm6 km6
  have bm6 := Fm6.binds (ps := p_Seeker_reset) fun _ _ _ _ _ _ us hl => match us, hl with | [_], _ => rfl
  have M_reset : CodeM K C "reset" "Seeker.reset" s_Seeker_reset p_Seeker_reset := ⟨fm6, _, Fm6, ⟨am6, im6, km6⟩, bm6⟩
  have Fm7 := fun_mk (st := s_Seeker_base) lm7 cm7 km7
  have bm7 := Fm7.binds (ps := p_Seeker_base) fun _ _ _ _ _ _ us hl => match us, hl with | [_], _ => rfl
  have M_base : CodeM K C "base" "Seeker.base" s_Seeker_base p_Seeker_base := ⟨fm7, _, Fm7, ⟨am7, im7, km7⟩, bm7⟩
  have Fm8 := fun_mk (st := s_Seeker_warned) lm8 cm8 km8
  have bm8 := Fm8.binds (ps := p_Seeker_warned) fun _ _ _ _ _ _ us hl => match us, hl with | [_], _ => rfl
  have M_warned : CodeM K C "warned" "Seeker.warned" s_Seeker_warned p_Seeker_warned := ⟨fm8, _, Fm8, ⟨am8, im8, km8⟩, bm8⟩
  have C_l_bag : Code K mg "_law_bag" s_l_bag p_l_bag := Code.of X G a1 l1 c1 k1 fun _ _ _ _ _ _ us hl => match us, hl with | [_, _], _ => rfl
  have C_l_take : Code K mg "_law_take" s_l_take p_l_take := Code.of X G a2 l2 c2 k2 fun _ _ _ _ _ _ us hl => match us, hl with | [_, _], _ => rfl
  have C_l_whole : Code K mg "_law_whole" s_l_whole p_l_whole := Code.of X G a3 l3 c3 k3 fun _ _ _ _ _ _ us hl => match us, hl with | [_], _ => rfl
  have C_l_marks : Code K mg "_law_marks" s_l_marks p_l_marks := Code.of X G a4 l4 c4 k4 fun _ _ _ _ _ _ us hl => match us, hl with | [_], _ => rfl
  have C_l_are_events : Code K mg "_law_are_events" s_l_are_events p_l_are_events := Code.of X G a5 l5 c5 k5 fun _ _ _ _ _ _ us hl => match us, hl with | [_], _ => rfl
  have C_l_asked : Code K mg "_law_asked" s_l_asked p_l_asked := Code.of X G a6 l6 c6 k6 fun _ _ _ _ _ _ us hl => match us, hl with | [_, _, _, _], _ => rfl
  have C_l_is_truth : Code K mg "_law_is_truth" s_l_is_truth p_l_is_truth := Code.of X G a7 l7 c7 k7 fun _ _ _ _ _ _ us hl => match us, hl with | [_, _], _ => rfl
  have C_l_level : Code K mg "_law_level" s_l_level p_l_level := Code.of X G a8 l8 c8 k8 fun _ _ _ _ _ _ us hl => match us, hl with | [_, _], _ => rfl
  have C_l_named_right : Code K mg "_law_named_right" s_l_named_right p_l_named_right := Code.of X G a9 l9 c9 k9 fun _ _ _ _ _ _ us hl => match us, hl with | [_, _, _], _ => rfl
  have F_law := fun_mk (st := s_law) l10 c10 k10
  refine ⟨PySem.W.fnOf "law" "law" (defArgs s_law) (defBody s_law) (defScope s_law) .none kV10 dc10 pm10 an10 cd10 ct10, fun s v => .of_eq rfl, fun base _ _ => ?_⟩
  have g_l_bag := ok_l_bag (P := l.prog) (w := w) (base := base) C_l_bag T.toNm
  have g_l_take := ok_l_take (P := l.prog) (w := w) (base := base) C_l_take T.toNm
  have g_l_whole := ok_l_whole (P := l.prog) (w := w) (base := base) C_l_whole T.toNm
  have g_l_marks := ok_l_marks C_l_marks T.toNm g_l_take
  have g_l_are_events := ok_l_are_events C_l_are_events T.toNm g_l_whole
  have g_i := ok_init (P := l.prog) (w := w) (base := base) M___init__ T
  have g_base := ok_base (P := l.prog) (w := w) (base := base) M_base T
  have g_reset := ok_reset (P := l.prog) (w := w) (base := base) M_reset T
  have g_tf := ok_tf (P := l.prog) (w := w) (base := base) M_tell_first T
  have g_tw := ok_tw (P := l.prog) (w := w) (base := base) M_tell_warning T
  have g_mv := ok_mv (P := l.prog) (w := w) (base := base) M_move_ground T
  have g_ask := ok_ask M_ask T g_tf g_tw g_mv
  have g_warned := ok_warned (P := l.prog) (w := w) (base := base) M_warned T
  have g_truth := ok_l_is_truth (P := l.prog) (w := w) (base := base) C_l_is_truth T.toNm
  have g_asked := ok_l_asked (P := l.prog) (w := w) (base := base) C_l_asked T.toNm
  have g_level := ok_l_level C_l_level T.toNm g_l_take
  have g_named := ok_l_named_right (P := l.prog) (w := w) (base := base) C_l_named_right T.toNm
  exact ok_law F_law T g_l_bag g_l_take g_l_marks g_l_are_events g_asked g_truth g_level g_named g_i g_ask g_base g_warned g_reset
theorem walk {l : PySem.W.OpenLaw} {q : Program} {loose : List Str} {XP : (Str → Option Value) → Heap → Prop} {YP : World → Heap → Prop} {d : DefRec} {K : Params → PySem.W.Frag} (hn : l.most = some 63) (hdf : d.params.defaults = [])
    (hY : ∀ (w : World) (h : Heap), YP w h → (K w.params).In h)
    (F : ∀ (w : World) (mg : Str → Option Value) (fa : Addr) (h : Heap), (K w.params).In h → h.Ns mainGlobals mg → mg d.name = some (.ref fa) →
      ∃ fd : FuncData, (∀ (s : Shared) (u : Value), BindsTo s fd ⟨[u], []⟩ [("_law_script", u)]) ∧ ∀ base : Heap, (K w.params).In base → base.Ns mainGlobals mg → FnOk l.prog w (K w.params) mg base CX0 3 fa fd ["_law_script"] (spLaw (K w.params))) :
    PySem.W.WalkO q loose XP YP l.row.toRowW d [] (fun f vs => PySem.call f vs) :=
  L2.walk_of (n := 63) (k := 3) (x := "_law_script") (CX := fun _ => CX0) (sp := fun w => spLaw (K w.params)) hn (by decide) hdf ⟨rfl, by decide, by decide⟩ hY F (fun _ _ a ns hl _ hS => ⟨a, ns, rfl, hS, hl, fun _ => rfl⟩) fun _ _ _ _ _ z => z
end K21
open PySem PySem.W PyProof.Rows
set_option maxRecDepth 100000 in
set_option maxHeartbeats 0 in
theorem PySem.Challenge.cw_warnloop_k21_whole_warnings_name_askings_holds : PySem.Challenge.rw_warnloop_k21_whole_warnings_name_askings.Holds := by
  w_on; o_law; k_head; (case hw => w_witness2)
  k_fill
  refine K21.walk (l := PySem.Challenge.rw_warnloop_k21_whole_warnings_name_askings) rfl rfl (fun w h Y => PySem.W.kIn_of Y) ?F
  case F =>
    intro w mg fa h KX G hmg
    refine' K21.all_mk KX G hmg ?aC ?am1 ?im1 ?lm1 ?cm1 ?km1 ?am2 ?im2 ?lm2 ?cm2 ?km2 ?am3 ?im3 ?lm3 ?cm3 ?km3 ?am4 ?im4 ?lm4 ?cm4 ?km4 ?am5 ?im5 ?lm5 ?cm5 ?km5 ?am6 ?im6 ?lm6 ?cm6 ?km6 ?am7 ?im7 ?lm7 ?cm7 ?km7 ?am8 ?im8 ?lm8 ?cm8 ?km8 ?a1 ?l1 ?c1 ?k1 ?a2 ?l2 ?c2 ?k2 ?a3 ?l3 ?c3 ?k3 ?a4 ?l4 ?c4 ?k4 ?a5 ?l5 ?c5 ?k5 ?a6 ?l6 ?c6 ?k6 ?a7 ?l7 ?c7 ?k7 ?a8 ?l8 ?c8 ?k8 ?a9 ?l9 ?c9 ?k9 ?a10 ?l10 ?c10 ?k10 ?pg ?hd ?po ?sa ?mk ?kc ?n0 ?n1 ?n2 ?n3 ?n4 ?n5 ?n6 ?cst0 ?cst1 ?cst2 ?z0 ?z1 ?z2 ?z3 ?z4 ?z5 ?z6 ?z7 ?z8 ?z9 ?z10 ?z11
    (case aC => k_is)
    (case am1 => k_is)
    (case im1 => k_is)
    (case lm1 => k_is)
    (case cm1 => k_is)
    (case km1 => k_is)
    (case am2 => k_is)
    (case im2 => k_is)
    (case lm2 => k_is)
    (case cm2 => k_is)
    (case km2 => k_is)
    (case am3 => k_is)
    (case im3 => k_is)
    (case lm3 => k_is)
    (case cm3 => k_is)
    (case km3 => k_is)
    (case am4 => k_is)
    (case im4 => k_is)
    (case lm4 => k_is)
    (case cm4 => k_is)
    (case km4 => k_is)
    (case am5 => k_is)
    (case im5 => k_is)
    (case lm5 => k_is)
    (case cm5 => k_is)
    (case km5 => k_is)
    (case am6 => k_is)
    (case im6 => k_is)
    (case lm6 => k_is)
    (case cm6 => k_is)
    (case km6 => k_is)
    (case am7 => k_is)
    (case im7 => k_is)
    (case lm7 => k_is)
    (case cm7 => k_is)
    (case km7 => k_is)
    (case am8 => k_is)
    (case im8 => k_is)
    (case lm8 => k_is)
    (case cm8 => k_is)
    (case km8 => k_is)
    (case a1 => k_is)
    (case l1 => k_is)
    (case c1 => k_is)
    (case k1 => k_is)
    (case a2 => k_is)
    (case l2 => k_is)
    (case c2 => k_is)
    (case k2 => k_is)
    (case a3 => k_is)
    (case l3 => k_is)
    (case c3 => k_is)
    (case k3 => k_is)
    (case a4 => k_is)
    (case l4 => k_is)
    (case c4 => k_is)
    (case k4 => k_is)
    (case a5 => k_is)
    (case l5 => k_is)
    (case c5 => k_is)
    (case k5 => k_is)
    (case a6 => k_is)
    (case l6 => k_is)
    (case c6 => k_is)
    (case k6 => k_is)
    (case a7 => k_is)
    (case l7 => k_is)
    (case c7 => k_is)
    (case k7 => k_is)
    (case a8 => k_is)
    (case l8 => k_is)
    (case c8 => k_is)
    (case k8 => k_is)
    (case a9 => k_is)
    (case l9 => k_is)
    (case c9 => k_is)
    (case k9 => k_is)
    (case a10 => k_is)
    (case l10 => k_is)
    (case c10 => k_is)
    (case k10 => k_is)
    (case pg => k_is)
    (case hd => k_is)
    (case po => k_is)
    (case sa => k_is)
    (case mk => k_is)
    (case kc => k_is)
    (case n0 => k_is)
    (case n1 => k_is)
    (case n2 => k_is)
    (case n3 => k_is)
    (case n4 => k_is)
    (case n5 => k_is)
    (case n6 => k_is)
    (case cst0 => k_is)
    (case cst1 => k_is)
    (case cst2 => k_is)
    (case z0 => k_is)
    (case z1 => k_is)
    (case z2 => k_is)
    (case z3 => k_is)
    (case z4 => k_is)
    (case z5 => k_is)
    (case z6 => k_is)
    (case z7 => k_is)
    (case z8 => k_is)
    (case z9 => k_is)
    (case z10 => k_is)
    (case z11 => k_is)

