import PyProof.Rows.All
import Wide.All
import OpenK.AllK
import Wide.FinOn
import Lean
import PyProof.EqAt
import PyProof.EqKinds
import PyProof.TupleCall
import PySem.Challenge.RW_warnloop_k31_hands
set_option Elab.async false
set_option linter.all false
set_option maxRecDepth 100000
/-! THE HAND LAYER, for ints, bools, texts, own classes, LISTS and tuples (index, slices, in, append, pop ..), calls, loops. Paste it whole ahead of your own text; what your proof does not reach may be deleted. -/
namespace L2
open PySem PySem.Spec PyProof.Rows

/-- a key: an int or a str -/
abbrev Key := Sum Int Str
def keyIs : Key → Value → Bool
  | .inl k, v => Value.isInt k v
  | .inr x, v => Value.isStrOf x v
def keyH (w : World) : Key → Int
  | .inl k => hashInt k
  | .inr x => hashStr w x
theorem keyIs_shape : ∀ {k : Key} {v : Value}, keyIs k v = true → (∃ i t, k = Sum.inl i ∧ v = Value.int i t) ∨ (∃ x t, k = Sum.inr x ∧ v = Value.str x t)
  | .inl i, v, h => by
    obtain ⟨t, e⟩ := Value.isInt_shape (k := i) (v := v) h
    exact .inl ⟨i, t, rfl, e⟩
  | .inr x, v, h => by
    obtain ⟨t, e⟩ := Value.isStrOf_shape (x := x) (v := v) h
    exact .inr ⟨x, t, rfl, e⟩
theorem keyIs_int (i : Int) (t : Tok) : keyIs (.inl i) (.int i t) = true := by simp [keyIs, Value.isInt]
theorem keyIs_str (x : Str) (t : Tok) : keyIs (.inr x) (.str x t) = true := by simp [keyIs, Value.isStrOf]
theorem key_ll (a b : Int) : decide ((Sum.inl a : Key) = Sum.inl b) = (a == b) := by
  by_cases e : a = b
  · subst e; simp
  · have h : ¬ (Sum.inl a : Key) = Sum.inl b := fun q => e (Sum.inl.inj q)
    rw [decide_eq_false h]
    exact (beq_eq_false_iff_ne.mpr e).symm
theorem key_rr (a b : Str) : decide ((Sum.inr a : Key) = Sum.inr b) = decide (a = b) := by
  by_cases e : a = b
  · subst e; simp
  · have h : ¬ (Sum.inr a : Key) = Sum.inr b := fun q => e (Sum.inr.inj q)
    rw [decide_eq_false h, decide_eq_false e]
theorem key_lr (a : Int) (b : Str) : decide ((Sum.inl a : Key) = Sum.inr b) = false := decide_eq_false (fun q => nomatch q)
theorem key_rl (a : Str) (b : Int) : decide ((Sum.inr a : Key) = Sum.inl b) = false := decide_eq_false (fun q => nomatch q)

def mixKind (prog : Program) (w : World) : PySem.KeyKind prog w Key where
  is := keyIs
  hash := keyH w
  inj := fun v a b ha hb => by
    rcases keyIs_shape ha with ⟨i, t, rfl, rfl⟩ | ⟨x, t, rfl, rfl⟩
    · rcases keyIs_shape hb with ⟨j, u, rfl, e⟩ | ⟨y, u, rfl, e⟩
      · injection e with e1 _; rw [e1]
      · exact nomatch e
    · rcases keyIs_shape hb with ⟨j, u, rfl, e⟩ | ⟨y, u, rfl, e⟩
      · exact nomatch e
      · injection e with e1 _; rw [e1]
  byValue := fun k v h => by
    rcases keyIs_shape h with ⟨i, t, rfl, rfl⟩ | ⟨x, t, rfl, rfl⟩ <;> rfl
  pyHash := fun hv h => by
    rcases keyIs_shape hv with ⟨i, t, rfl, rfl⟩ | ⟨x, t, rfl, rfl⟩
    · exact wpAny_pyHash_int h
    · exact wpAny_pyHash_str h
  eqBool := fun hu hv h => by
    rcases keyIs_shape hu with ⟨i, t, rfl, rfl⟩ | ⟨x, t, rfl, rfl⟩
    · rcases keyIs_shape hv with ⟨j, u, rfl, rfl⟩ | ⟨y, u, rfl, rfl⟩
      · rw [key_ll] at h; exact wpAny_eqBool_int h
      · rw [key_lr] at h; exact SeqAt.EqAt.int_str i t y u _ _ _ _ h
    · rcases keyIs_shape hv with ⟨j, u, rfl, rfl⟩ | ⟨y, u, rfl, rfl⟩
      · rw [key_rl] at h; exact SeqAt.EqAt.str_int x t j u _ _ _ _ h
      · rw [key_rr] at h; exact wpAny_eqBool_str h
  «strs» := fun k x t v h => by
    rcases keyIs_shape h with ⟨i, u, rfl, e⟩ | ⟨y, u, rfl, e⟩
    · exact nomatch e
    · injection e with e1 _
      subst e1
      cases v <;> rfl

theorem mixKind_int (prog : Program) (w : World) (i : Int) (t : Tok) : (mixKind prog w).is (.inl i) (.int i t) = true := keyIs_int i t
theorem mixKind_str (prog : Program) (w : World) (x : Str) (t : Tok) : (mixKind prog w).is (.inr x) (.str x t) = true := keyIs_str x t
end L2

namespace L2
open PySem PySem.Spec PyProof.Rows

/-- a value, without the heap -/
inductive V where
  | non | bl (b : Bool) | int (i : Int) | str (x : Str) | byt (b : Array UInt8) | flt (b : UInt64) | ref (a : Addr) | ty (n : String)
  deriving DecidableEq

def RelV : V → Value → Prop
  | .non, u => u = Value.none
  | .bl b, u => u = Value.bool b
  | .int i, u => ∃ t, u = Value.int i t
  | .str x, u => ∃ t, u = Value.str x t
  | .byt b, u => ∃ t, u = Value.bytes b t
  | .flt b, u => ∃ t, u = Value.float b t
  | .ref a, u => u = Value.ref a
  | .ty n, u => u = Value.type n

abbrev Vals : List V → List Value → Prop := Paired RelV
theorem Vals.length {xs : List V} {us : List Value} (r : Vals xs us) : xs.length = us.length := Paired.length r
theorem Vals.get : ∀ {xs : List V} {us : List Value} {i : Nat} {x : V}, Vals xs us → xs[i]? = some x → ∃ u, us[i]? = some u ∧ RelV x u
  | _, _, _, _, .nil, e => by simp at e
  | _, _, 0, _, .cons r _, e => by simp at e; subst e; exact ⟨_, rfl, r⟩
  | _, _, i + 1, x, .cons _ t, e => by
    obtain ⟨u, h1, h2⟩ := Vals.get (i := i) (x := x) t (by simpa using e)
    exact ⟨u, by simpa using h1, h2⟩
theorem Vals.set {x : V} {u : Value} (r : RelV x u) : ∀ {xs : List V} {us : List Value} (i : Nat), Vals xs us → Vals (xs.set i x) (us.set i u)
  | _, _, _, .nil => .nil
  | _, _, 0, .cons _ t => .cons r t
  | _, _, i + 1, .cons q t => .cons q (Vals.set r i t)
theorem Vals.append : ∀ {xs ys : List V} {us ws : List Value}, Vals xs us → Vals ys ws → Vals (xs ++ ys) (us ++ ws)
  | _, _, _, _, .nil, s => s
  | _, _, _, _, .cons r t, s => .cons r (Vals.append t s)
theorem Vals.take : ∀ {xs : List V} {us : List Value} (n : Nat), Vals xs us → Vals (xs.take n) (us.take n)
  | _, _, 0, _ => .nil
  | _, _, _ + 1, .nil => .nil
  | _, _, n + 1, .cons r t => .cons r (Vals.take n t)
theorem Vals.drop : ∀ {xs : List V} {us : List Value} (n : Nat), Vals xs us → Vals (xs.drop n) (us.drop n)
  | _, _, 0, r => r
  | _, _, _ + 1, .nil => .nil
  | _, _, n + 1, .cons _ t => Vals.drop n t
theorem Vals.none_of : ∀ {xs : List V} {us : List Value} {i : Nat}, Vals xs us → xs[i]? = none → us[i]? = none := fun {xs us i} r e => by
  have h1 := r.length
  have h2 : xs.length ≤ i := List.getElem?_eq_none_iff.mp e
  exact List.getElem?_eq_none_iff.mpr (by omega)

def RelO : Option V → Option Value → Prop
  | some v, some u => RelV v u
  | none, none => True
  | _, _ => False
def KV {κ : Type} : List (κ × V) → List (κ × Value) → Prop := Paired fun (p : κ × V) (q : κ × Value) => p.1 = q.1 ∧ RelV p.2 q.2

/-- a key of a dict (00_mix): an int or a text -/
def kV : Key → V
  | .inl i => .int i
  | .inr x => .str x

/-- what stands at a tracked address -/
inductive HO where
  /-- a list -/
  | lst (xs : List V)
  /-- a tuple (never changes) -/
  | tup (xs : List V)
  /-- a dict whose keys are ints and texts; one whose keys are tuples of ints and texts (the empty one is both) -/
  | dK (kvs : List (Key × V)) | dT (kvs : List (List Key × V))
  /-- a set of ints: its members, its size -/
  | set (S : Int → Bool) (n : Nat)
  /-- an instance of the class at C, its dict at dx, its attributes -/
  | ins (C dx : Addr) (fs : List (Str × V))
  /-- the dict of the instance at x -/
  | own (x : Addr)
  /-- the dict of an exception -/
  | xd (fs : List (Str × V))
  /-- a bound method, f of x -/
  | met (f x : Addr)
  /-- a range object lo, lo + 1, .. below hi -/
  | rng (lo hi : Int)
  /-- a thing that is known to the object (the script; a dict while a loop walks it): read, never written while it is so -/
  | frz (o : Obj) (u : HO)
  /-- a code object's table -/
  | tbl (ps : Array Value)
  /-- any other thing, by what is true of its one object (a def of one's own: SetO a S n := HO.ext fun h => ..) -/
  | ext (φ : Heap → Prop)

abbrev Hp := Addr → Option HO
def upd (H : Hp) (a : Addr) (o : HO) : Hp := fun b => if b = a then some o else H b
theorem upd_same {H : Hp} {a : Addr} {o : HO} : upd H a o a = some o := by unfold upd; rw [if_pos rfl]
theorem upd_ne {H : Hp} {a b : Addr} {o : HO} (h : b ≠ a) : upd H a o b = H b := by unfold upd; rw [if_neg h]
theorem upd_upd {H : Hp} {a : Addr} {o u : HO} : upd (upd H a o) a u = upd H a u := by
  funext b; unfold upd; split <;> rfl
/-- two objects of different content stand apart -/
theorem ne_of {H : Hp} {a b : Addr} {o u : HO} (h : H a = some o) (h' : H b = some u) (d : o ≠ u) : a ≠ b := by
  intro e; subst e; rw [h] at h'; exact d (Option.some.inj h')
theorem ne_of_none {H : Hp} {a b : Addr} {o : HO} (h : H a = some o) (h' : H b = none) : a ≠ b := by
  intro e; subst e; rw [h] at h'; cases h'

section
variable (P : Program) (w : World)
def ObjOk (H : Hp) (h : Heap) (a : Addr) : HO → Prop
  | .lst xs => xs.length ≤ sizeLine ∧ ∃ (its : List Value) (n : Nat), Vals xs its ∧ h.get? a = some { cls := .type "list", data := .seq its.toArray n }
  | .tup xs => xs.length ≤ sizeLine ∧ ∃ its : List Value, Vals xs its ∧ IsTup h a its.toArray
  | .dK kvs => kvs.length ≤ sizeLine ∧ (a == sysModules) = false ∧ ∃ vs, KV kvs vs ∧ h.DictOf (mixKind P w) a vs
  | .dT kvs => kvs.length ≤ sizeLine ∧ (a == sysModules) = false ∧ ∃ xs : List (List Key × Addr × Value),
      Paired (fun (p : List Key × V) (q : List Key × Addr × Value) => p.1 = q.1 ∧ H q.2.1 = some (.tup (p.1.map kV)) ∧ RelV p.2 q.2.2) kvs xs ∧
      ∃ o es ep, h.get? a = some o ∧ o.ExactDict ∧ o.data = .dict es ep ∧ es.toList = xs.map (entryOfKey (tupleKind (mixKind P w))) ∧ (xs.map (·.1)).Nodup
  | .set S n => h.SetOf (intKind P w) a S n
  | .ins C dx fs => H dx = some (.own a) ∧ fs.length ≤ 1000 ∧ dx ≠ a ∧ h.get? a = some (PySem.W.instObj C dx) ∧
      ∃ mA, h.Ns1 dx mA ∧ (∀ f, RelO (fs.lookup f) (mA f)) ∧ PySem.Within mA (fs.map (·.1))
  | .own _ => ∃ o, h.get? a = some o
  | .xd fs => ∃ mA, h.Ns1 a mA ∧ ∀ f, RelO (fs.lookup f) (mA f)
  | .rng lo hi => ∃ t u v, h.get? a = some { cls := .type "range", data := .fields #[.int lo t, .int hi u, .int 1 v] }
  | .frz o u => h.get? a = some o ∧ ObjOk H h a u
  | .tbl ps => h.get? a = some { cls := .none, data := .fields ps }
  | .met f x => h.get? a = some (PySem.W.methodObj (.ref f) (.ref x))
  | .ext φ => φ h ∧ (∃ o, h.get? a = some o) ∧ ∀ h1 h2 : Heap, φ h1 → (∀ o, h1.get? a = some o → h2.get? a = some o) → φ h2
/-- the abstract heap is held -/
def HOk (H : Hp) (h : Heap) : Prop := ∀ a o, H a = some o → ObjOk P w H h a o
end

section
variable {P : Program} {w : World} {H H' : Hp} {h h' : Heap} {a : Addr} {o : HO}
theorem ObjOk.lt (x : ObjOk P w H h a o) : a < h.objs.size := by
  cases o with
  | lst xs => obtain ⟨_, _, _, _, e⟩ := x; exact Heap.lt_size e
  | tup xs => obtain ⟨_, _, _, p⟩ := x; exact p.lt
  | dK kvs => obtain ⟨_, _, _, _, o, _, _, e, _⟩ := x; exact Heap.lt_size e
  | dT kvs => obtain ⟨_, _, _, _, o, _, _, e, _⟩ := x; exact Heap.lt_size e
  | set S n => obtain ⟨o, _, _, _, e, _⟩ := x; exact Heap.lt_size e
  | ins C dx fs => obtain ⟨_, _, _, e, _⟩ := x; exact Heap.lt_size e
  | own y => obtain ⟨_, e⟩ := x; exact Heap.lt_size e
  | xd fs => obtain ⟨_, ⟨_, _, _, e, _⟩, _⟩ := x; exact Heap.lt_size e
  | rng lo hi => obtain ⟨_, _, _, e⟩ := x; exact Heap.lt_size e
  | frz ob u => obtain ⟨e, _⟩ := x; exact Heap.lt_size e
  | tbl ps => exact Heap.lt_size (show h.get? a = some _ from x)
  | met f y => exact Heap.lt_size (show h.get? a = some _ from x)
  | ext φ => obtain ⟨_, ⟨_, e⟩, _⟩ := x; exact Heap.lt_size e
theorem Paired.mapP {α β : Type} {F G : α → β → Prop} : ∀ {l₁ : List α} {l₂ : List β}, Paired F l₁ l₂ → (∀ a b, F a b → G a b) → Paired G l₁ l₂
  | _, _, .nil, _ => .nil
  | _, _, .cons r t, f => .cons (f _ _ r) (Paired.mapP t f)
/-- what an object's description leans on: its own object, its own dict, the tuples -/
theorem ObjOk.stay (x : ObjOk P w H h a o) (k : ∀ b u, (b = a ∨ H b = some (.own a)) → h.get? b = some u → h'.get? b = some u)
    (ho : ∀ b, H b = some (.own a) → H' b = some (.own a)) (ht : ∀ b xs, H b = some (.tup xs) → H' b = some (.tup xs)) : ObjOk P w H' h' a o := by
  induction o with
  | lst xs => obtain ⟨z, its, n, r, e⟩ := x; exact ⟨z, its, n, r, k _ _ (.inl rfl) e⟩
  | tup xs => obtain ⟨z, its, r, ob, e, c⟩ := x; exact ⟨z, its, r, ob, k _ _ (.inl rfl) e, c⟩
  | dK kvs => obtain ⟨z, y, vs, r, ob, es, ep, e, c⟩ := x; exact ⟨z, y, vs, r, ob, es, ep, k _ _ (.inl rfl) e, c⟩
  | dT kvs =>
    obtain ⟨z, y, xs, r, ob, es, ep, e, c⟩ := x
    exact ⟨z, y, xs, Paired.mapP r fun p q z => ⟨z.1, ht _ _ z.2.1, z.2.2⟩, ob, es, ep, k _ _ (.inl rfl) e, c⟩
  | set S n => obtain ⟨ob, es, ep, t, e, c⟩ := x; exact ⟨ob, es, ep, t, k _ _ (.inl rfl) e, c⟩
  | ins C dx fs =>
    obtain ⟨d, z, ne, e, mA, ⟨od, es, ep, e2, c⟩, r⟩ := x
    exact ⟨ho _ d, z, ne, k _ _ (.inl rfl) e, mA, ⟨od, es, ep, k _ _ (.inr d) e2, c⟩, r⟩
  | own y => obtain ⟨ob, e⟩ := x; exact ⟨ob, k _ _ (.inl rfl) e⟩
  | xd fs => obtain ⟨mA, ⟨od, es, ep, e, c⟩, r⟩ := x; exact ⟨mA, ⟨od, es, ep, k _ _ (.inl rfl) e, c⟩, r⟩
  | rng lo hi => obtain ⟨t, u, v, e⟩ := x; exact ⟨t, u, v, k _ _ (.inl rfl) e⟩
  | frz ob u ih => obtain ⟨e, q⟩ := x; exact ⟨k _ _ (.inl rfl) e, ih q⟩
  | tbl ps =>
    have e : h.get? a = some { cls := .none, data := .fields ps } := x
    show h'.get? a = some { cls := .none, data := .fields ps }
    exact k a _ (.inl rfl) e
  | met f y =>
    have e : h.get? a = some (PySem.W.methodObj (.ref f) (.ref y)) := x
    show h'.get? a = some (PySem.W.methodObj (.ref f) (.ref y))
    exact k a _ (.inl rfl) e
  | ext φ => obtain ⟨p, ⟨o, e⟩, st⟩ := x; exact ⟨st _ _ p fun o q => k _ _ (.inl rfl) q, ⟨o, k _ _ (.inl rfl) e⟩, st⟩
theorem HOk.lt (x : HOk P w H h) (e : H a = some o) : a < h.objs.size := (x a o e).lt
theorem HOk.fresh (x : HOk P w H h) (e : h.objs.size ≤ a) : H a = none := by
  cases q : H a with
  | none => rfl
  | some u => exact absurd (Nat.lt_of_lt_of_le (x.lt q) e) (Nat.lt_irrefl _)
/-- every object of the heap is kept -/
theorem HOk.kept (x : HOk P w H h) (k : ∀ b u, h.get? b = some u → h'.get? b = some u) : HOk P w H h' := fun a o e =>
  (x a o e).stay (fun b u _ q => k b u q) (fun _ q => q) fun _ _ q => q
/-- a new object is laid and tracked -/
theorem HOk.laid (x : HOk P w H h) (k : ∀ b u, h.get? b = some u → h'.get? b = some u) (hp : h.objs.size ≤ a) (new : ObjOk P w (upd H a o) h' a o) : HOk P w (upd H a o) h' := fun b u e => by
  have hn := x.fresh hp
  by_cases hb : b = a
  · subst hb; rw [upd_same] at e; cases e; exact new
  · rw [upd_ne hb] at e
    exact (x b u e).stay (fun c v _ q => k c v q) (fun c q => by rw [upd_ne (ne_of_none q hn)]; exact q) fun c xs q => by rw [upd_ne (ne_of_none q hn)]; exact q
end

/-- what may be read as u: it is u, or a known u -/
def Rd (H : Hp) (a : Addr) (u : HO) : Prop := H a = some u ∨ ∃ o, H a = some (.frz o u)
theorem Rd.of {H : Hp} {a : Addr} {u : HO} (h : H a = some u) : Rd H a u := .inl h
theorem Rd.ok {P : Program} {w : World} {H : Hp} {h : Heap} {a : Addr} {u : HO} (r : Rd H a u) (x : HOk P w H h) : ObjOk P w H h a u := by
  rcases r with r | ⟨o, r⟩
  · exact x a u r
  · obtain ⟨_, q⟩ := x a _ r
    exact q
/-- what may be written -/
def Mut : Option HO → Prop
  | some (.lst _) => True
  | some (.dK _) => True
  | some (.dT _) => True
  | some (.set _ _) => True
  | some (.ins _ _ _) => True
  | some (.ext _) => True
  | _ => False
section
variable {P : Program} {w : World} {H : Hp} {h h' : Heap} {x e : Addr} {o' : HO}
/-- the object at e is changed: x itself, or the dict of the instance x -/
theorem HOk.write (ok : HOk P w H h) (mu : Mut (H x)) (he : e = x ∨ H e = some (.own x)) (k : ∀ b u, b ≠ e → h.get? b = some u → h'.get? b = some u) (heo : ∃ u, h'.get? e = some u)
    (new : ObjOk P w (upd H x o') h' x o') : HOk P w (upd H x o') h' := fun b u q => by
  have nown : ∀ c y, H c = some (.own y) → c ≠ x := fun c y r z => by subst z; rw [r] at mu; exact mu
  have ntup : ∀ c xs, H c = some (.tup xs) → c ≠ x := fun c xs r z => by subst z; rw [r] at mu; exact mu
  by_cases hb : b = x
  · subst hb; rw [upd_same] at q; cases q; exact new
  · rw [upd_ne hb] at q
    by_cases hbe : b = e
    · have q' : H b = some (.own x) := by
        rcases he with z | z
        · exact absurd (hbe.trans z) hb
        · rw [hbe]; exact z
      rw [q] at q'; cases q'
      obtain ⟨v, hv⟩ := heo
      exact ⟨v, by rw [hbe]; exact hv⟩
    · refine (ok b u q).stay (fun c v hc r => k c v ?_ r) (fun c r => by rw [upd_ne (nown c b r)]; exact r) fun c xs r => by rw [upd_ne (ntup c xs r)]; exact r
      rcases hc with rfl | hc
      · exact hbe
      · rintro rfl
        rcases he with z | z
        · exact nown c b hc z
        · rw [hc] at z; cases z; exact hb rfl
end

/-! ### kept unless tracked; of the frames at fs (the callers') the slots may change (an exception that passes writes there); of the records at ex (iterators) nothing is said -/
structure Un (fs ex : List Addr) (H H' : Hp) (h h' : Heap) : Prop where
  keep : ∀ b o, h.get? b = some o → H b = none → b ∉ fs → b ∉ ex → h'.get? b = some o
  slot : ∀ b o, h.get? b = some o → H b = none → b ∈ fs → b ∉ ex → ∃ sl, h'.get? b = some { o with slots := sl }
  free : ∀ b o, h.get? b = some o → H b = none → b ∉ ex → H' b = none
  there : ∀ b o, h.get? b = some o → b ∉ ex → ∃ o', h'.get? b = some o'
  tups : ∀ b xs, H b = some (.tup xs) → H' b = some (.tup xs)
  frzs : ∀ b o u, H b = some (.frz o u) → H' b = some (.frz o u)
  tbls : ∀ b ps, H b = some (.tbl ps) → ∃ more, H' b = some (.tbl (ps ++ more))
section
variable {fs fs' ex ex' : List Addr} {H H1 H2 : Hp} {h h1 h2 h' : Heap} {a x e : Addr} {o : HO}
theorem Un.any (u : Un fs ex H H1 h h1) {b : Addr} {ob : Obj} (q : h.get? b = some ob) (n : H b = none) (hx : b ∉ ex) : ∃ sl, h1.get? b = some { ob with slots := sl } := by
  by_cases hb : b ∈ fs
  · exact u.slot b ob q n hb hx
  · exact ⟨ob.slots, u.keep b ob q n hb hx⟩
theorem Un.trans (a : Un fs ex H H1 h h1) (b : Un fs ex H1 H2 h1 h2) : Un fs ex H H2 h h2 where
  keep := fun c ob q n hc hx => b.keep c ob (a.keep c ob q n hc hx) (a.free c ob q n hx) hc hx
  slot := fun c ob q n hc hx => by
    obtain ⟨sl, e1⟩ := a.slot c ob q n hc hx
    obtain ⟨sl', e2⟩ := b.slot c _ e1 (a.free c ob q n hx) hc hx
    exact ⟨sl', e2⟩
  free := fun c ob q n hx => by
    obtain ⟨o', e1⟩ := a.there c ob q hx
    exact b.free c o' e1 (a.free c ob q n hx) hx
  there := fun c ob q hx => by
    obtain ⟨o', e1⟩ := a.there c ob q hx
    exact b.there c o' e1 hx
  tups := fun c xs q => b.tups c xs (a.tups c xs q)
  frzs := fun c ob xs q => b.frzs c ob xs (a.frzs c ob xs q)
  tbls := fun c ps q => by
    obtain ⟨m1, e1⟩ := a.tbls c ps q
    obtain ⟨m2, e2⟩ := b.tbls c _ e1
    exact ⟨m1 ++ m2, by rw [e2, Array.append_assoc]⟩
theorem Un.kept (k : ∀ b u, h.get? b = some u → h'.get? b = some u) : Un fs ex H H h h' :=
  ⟨fun b ob q _ _ _ => k b ob q, fun b ob q _ _ _ => ⟨ob.slots, k b ob q⟩, fun _ _ _ n _ => n, fun b ob q _ => ⟨ob, k b ob q⟩, fun _ _ q => q, fun _ _ _ q => q, fun _ ps q => ⟨#[], by rw [q]; simp⟩⟩
theorem Un.refl : Un fs ex H H h h := Un.kept fun _ _ q => q
theorem Un.laid (k : ∀ b u, h.get? b = some u → h'.get? b = some u) (hp : h.objs.size ≤ a) (hn : H a = none) : Un fs ex H (upd H a o) h h' where
  keep := fun b u q _ _ _ => k b u q
  slot := fun b u q _ _ _ => ⟨u.slots, k b u q⟩
  free := fun b u q n _ => by rw [upd_ne (Nat.ne_of_lt (Nat.lt_of_lt_of_le (Heap.lt_size q) hp))]; exact n
  there := fun b u q _ => ⟨u, k b u q⟩
  tups := fun b xs q => by rw [upd_ne (ne_of_none q hn)]; exact q
  frzs := fun b u xs q => by rw [upd_ne (ne_of_none q hn)]; exact q
  tbls := fun b ps q => ⟨#[], by rw [upd_ne (ne_of_none q hn), q]; simp⟩
theorem Un.write (mu : Mut (H x)) (he : e = x ∨ H e = some (.own x)) (k : ∀ b u, b ≠ e → h.get? b = some u → h'.get? b = some u) (heo : ∃ u, h'.get? e = some u) : Un fs ex H (upd H x o) h h' := by
  have hx : ∀ b, H b = none → b ≠ x := fun b n z => by subst z; rw [n] at mu; exact mu
  have hb : ∀ b, H b = none → b ≠ e := fun b n z => by
    subst z
    rcases he with r | r
    · exact hx b n r
    · rw [n] at r; cases r
  have hm : ∀ b u, H b = some u → ¬ Mut (some u) → b ≠ x := fun b u q nm z => by subst z; rw [q] at mu; exact nm mu
  refine ⟨fun b u q n _ _ => k b u (hb b n) q, fun b u q n _ _ => ⟨u.slots, k b u (hb b n) q⟩, fun b u q n _ => by rw [upd_ne (hx b n)]; exact n, fun b u q _ => ?_,
    fun b xs q => by rw [upd_ne (hm b _ q fun z => z)]; exact q, fun b u xs q => by rw [upd_ne (hm b _ q fun z => z)]; exact q, fun b ps q => ⟨#[], by rw [upd_ne (hm b _ q fun z => z), q]; simp⟩⟩
  by_cases hbe : b = e
  · subst hbe; exact heo
  · exact ⟨u, k b u hbe q⟩
theorem Un.mono (u : Un fs ex H H1 h h1) (hs : ∀ b ∈ fs, b ∈ fs') (hx : ∀ b ∈ ex, b ∈ ex') : Un fs' ex' H H1 h h1 :=
  ⟨fun b ob q n hb he => u.keep b ob q n (fun z => hb (hs b z)) fun z => he (hx b z), fun _ _ q n _ he => u.any q n fun z => he (hx _ z), fun b ob q n he => u.free b ob q n fun z => he (hx b z), fun b ob q he => u.there b ob q fun z => he (hx b z), u.tups, u.frzs, u.tbls⟩
end

/-! ### the heap without what is tracked -/
def trk (h : Heap) (H : Hp) : List Addr := (List.range h.objs.size).filter fun a => (H a).isSome
def hidT (h : Heap) (H : Hp) : Heap := PySem.W.hideAll h (trk h H)
theorem hidT_size (h : Heap) (H : Hp) : (hidT h H).objs.size = h.objs.size := PySem.W.hideAll_size _ _
theorem hidT_get {h : Heap} {H : Hp} {b : Addr} {o : Obj} (e : h.get? b = some o) (n : H b = none) : (hidT h H).get? b = some o :=
  PySem.W.hideAll_get _ e fun hm => by
    have q : (H b).isSome = true := (List.mem_filter.mp hm).2
    rw [n] at q; simp at q
theorem of_hidT {h : Heap} {H : Hp} {b : Addr} {o : Obj} (e : (hidT h H).get? b = some o) : h.get? b = some o ∧ H b = none := by
  have e' : h.get? b = some o := PySem.W.of_hideAll (trk h H) e
  refine ⟨e', ?_⟩
  cases q : H b with
  | none => rfl
  | some x =>
    have hm : b ∈ trk h H := List.mem_filter.mpr ⟨List.mem_range.mpr (Heap.lt_size e'), by simp [q]⟩
    have z : (hidT h H).get? b = none := PySem.W.hideAll_none (trk h H) hm
    rw [z] at e; cases e

/-! ### OpenK's ledger, filled with every new object but one -/
def allNews (g h : Heap) (L : Addr) : List (Addr × Obj) := (List.range h.objs.size).filterMap fun a => if a = L ∨ (g.get? a).isSome = true then none else (h.get? a).map fun o => (a, o)
theorem mem_allNews {g h : Heap} {L a : Addr} {o : Obj} (h1 : a ≠ L) (h2 : g.get? a = none) (h3 : h.get? a = some o) : (a, o) ∈ allNews g h L :=
  List.mem_filterMap.mpr ⟨a, List.mem_range.mpr (Heap.lt_size h3), by simp [h1, h2, h3]⟩
theorem of_mem_allNews {g h : Heap} {L : Addr} {p : Addr × Obj} (hp : p ∈ allNews g h L) : p.1 ≠ L ∧ g.get? p.1 = none ∧ h.get? p.1 = some p.2 := by
  obtain ⟨b, _, e⟩ := List.mem_filterMap.mp hp
  split at e
  · cases e
  · rename_i hn
    cases q : h.get? b with
    | none => rw [q] at e; simp at e
    | some u =>
      rw [q] at e
      simp only [Option.map_some, Option.some.injEq] at e
      subst e
      refine ⟨fun z => hn (.inl z), ?_, q⟩
      show g.get? b = none
      cases r : g.get? b with
      | none => rfl
      | some v => exact (hn (.inr (by simp [r]))).elim
def rest (g h : Heap) (L d : Addr) : List (Addr × Obj) := (allNews g h L).filter fun p => decide (p.1 ≠ d)
theorem news_all {g h : Heap} {L : Addr} : News g L h (allNews g h L) := fun p hp => let ⟨a, b, c⟩ := of_mem_allNews hp; ⟨c, a, b⟩
end L2

namespace L2
open PySem PySem.Spec PyProof.Rows

/-- the module's facts, over the base: the heap at the law's entry without what is tracked there -/
structure Mod (K : PySem.W.Frag) (mg : Str → Option Value) (base : Heap) : Prop where
  kin : K.In base
  glob : base.Ns mainGlobals mg
  blt : ∃ mb, base.Ns builtinsNs mb ∧ ∀ x : Str, x ≠ "__name__" → mb x = bootBuiltins x
  nolimit : base.NoLimit

/-- the context: a def's body (or a comprehension's block) running. base: fixed through the whole law; s₀, H₀: the entry; outer: the frames whose slots others may change (a def's callers); stack: all frames that run;
   ex: iterators that were made ahead of the entry and are walked here (a comprehension's); fn: the names whose cells were made at the entry (a def: all; a comprehension's block: its own); calm: not within an except suite; pn: pins that every state bears; xe: what is wanted of an exception that leaves the code -/
structure Cx where
  prog : Program
  w : World
  K : PySem.W.Frag
  mg : Str → Option Value
  base : Heap
  A : Around
  N : List Str
  s₀ : Shared
  H₀ : Hp
  env : Env
  outer : List Env
  stack : List Env
  ex : List Addr
  fn : Str → Bool
  calm : Bool
  pn : List (Addr × Obj)
  xe : Value → Shared → Prop
/-- the callers' frames -/
def frs (l : List Env) : List Addr := l.filterMap (·.frame)
abbrev Cx.fs (X : Cx) : List Addr := frs X.outer

def Vis (sc : Scope) (x : Str) : Prop := sc.names.lookup x = some .local ∨ sc.names.lookup x = some .cell ∨ sc.names.lookup x = some .free
def Loc (sc : Scope) (x : Str) : Prop := sc.names.lookup x = some .local ∨ sc.names.lookup x = some .cell
def Look (env : Env) (h : Heap) (m : Str → Option Value) (x : Str) (u : Value) : Prop :=
  (env.kindOf x = some .local ∧ m x = some u) ∨ ((env.kindOf x = some .cell ∨ env.kindOf x = some .free) ∧ ∃ c, env.cells.lookup x = some c ∧ h.IsCell c (some u))

structure Cx.Ok (X : Cx) : Prop where
  mod : Mod X.K X.mg X.base
  kind : X.env.scope.kind = .function
  glob : X.env.globals = mainGlobals
  blt : X.env.builtins = builtinsNs
  above : X.s₀.heap.objs.size ≤ X.env.locals
  inj : ∀ x y c, X.env.cells.lookup x = some c → X.env.cells.lookup y = some c → x = y
  has : ∀ x, (X.env.kindOf x = some .cell ∨ X.env.kindOf x = some .free) → ∃ c, X.env.cells.lookup x = some c
  cab : ∀ x c, X.fn x = true → X.env.cells.lookup x = some c → X.s₀.heap.objs.size ≤ c
  hd : X.calm = true → X.A.handled = none
  frames : X.A.frames = some X.stack
  stk : X.stack = X.outer ∨ (X.stack = X.env :: X.outer ∧ X.env.frame = some X.env.locals)
  exf : ∀ b ∈ X.ex, b ≠ X.env.locals ∧ ∀ x c, X.env.cells.lookup x = some c → c ≠ b
  bs : ∀ b o, X.base.get? b = some o → X.s₀.heap.get? b = some o ∧ X.H₀ b = none
  bsz : X.base.objs.size ≤ X.s₀.heap.objs.size
  noex : ∀ b o, X.base.get? b = some o → b ∉ X.ex
  exfs : ∀ b ∈ X.ex, b ∉ X.fs
  funs : X.s₀.heap.FunFrames X.base X.outer
  frf : ∀ b ∈ X.fs, X.H₀ b = none

structure Inv (X : Cx) (pins : List (Addr × Obj)) (σ : List (Option V)) (H : Hp) (s : Shared) : Prop where
  ok : X.Ok
  os : s.os = X.s₀.os
  bare : AllBare s.gens
  base : Un X.fs X.ex X.H₀ H X.s₀.heap s.heap
  loc : ∃ m, s.heap.Ns X.env.locals m ∧ ∀ (i : Nat) (x : Str) (v : V), X.N[i]? = some x → σ[i]? = some (some v) → Vis X.env.scope x → ∃ u, RelV v u ∧ Look X.env s.heap m x u
  cell : ∀ x c, X.env.cells.lookup x = some c → ∃ v, s.heap.IsCell c v
  free : H X.env.locals = none
  freeC : ∀ x c, X.env.cells.lookup x = some c → H c = none
  pin : ∀ p ∈ X.pn ++ pins, s.heap.get? p.1 = some p.2 ∧ H p.1 = none ∧ p.1 ≠ X.env.locals ∧ p.1 ∉ X.fs ∧ ∀ v, p.2.data ≠ .cell v
  hok : HOk X.prog X.w H s.heap
  len : σ.length = X.N.length

section
variable {X : Cx} {pins : List (Addr × Obj)} {σ : List (Option V)} {H H' : Hp} {s : Shared} {h' : Heap}

theorem Cx.Ok.nofr (ok : X.Ok) {b : Addr} {o : Obj} (e : X.base.get? b = some o) : b ∉ X.fs := fun hb => by
  have := (ok.funs.mem hb).1
  rw [e] at this; cases this
theorem Inv.bs (I : Inv X pins σ H s) : ∀ b o, X.base.get? b = some o → s.heap.get? b = some o ∧ H b = none := fun b o e =>
  ⟨I.base.keep b o (I.ok.bs b o e).1 (I.ok.bs b o e).2 (I.ok.nofr e) (I.ok.noex b o e), I.base.free b o (I.ok.bs b o e).1 (I.ok.bs b o e).2 (I.ok.noex b o e)⟩
theorem Inv.bk (I : Inv X pins σ H s) : ∀ b o, X.base.get? b = some o → s.heap.get? b = some o := fun b o e => (I.bs b o e).1
theorem Inv.mod (I : Inv X pins σ H s) : Mod X.K X.mg X.base := I.ok.mod
theorem Inv.kIn (I : Inv X pins σ H s) : X.K.In s.heap := I.ok.mod.kin.keeps I.bk
theorem Inv.nolimit (I : Inv X pins σ H s) : s.heap.NoLimit := I.ok.mod.nolimit.keeps I.bk
/-- the frame over the base: for OpenK's rules (K.In X.base is I.mod.kin) -/
theorem Inv.fr (I : Inv X pins σ H s) : ∃ m, Fr X.base X.env.locals s.heap m :=
  let ⟨m, hn, _⟩ := I.loc
  ⟨m, hn, I.bk, Nat.le_trans I.ok.bsz I.ok.above⟩
theorem Inv.lt (I : Inv X pins σ H s) : X.env.locals < s.heap.objs.size := let ⟨_, hn, _⟩ := I.loc; hn.lt
theorem Inv.sz (I : Inv X pins σ H s) : X.s₀.heap.objs.size ≤ s.heap.objs.size := Nat.le_trans I.ok.above (Nat.le_of_lt I.lt)
theorem Inv.nofs (I : Inv X pins σ H s) {a : Addr} (h : s.heap.objs.size ≤ a) : a ∉ X.fs := fun hb => by
  obtain ⟨_, o, ho, _⟩ := I.ok.funs.mem hb
  exact absurd (Nat.lt_of_lt_of_le (Heap.lt_size ho) (Nat.le_trans I.sz h)) (Nat.lt_irrefl _)
theorem Inv.cne (I : Inv X pins σ H s) : ∀ x c, X.env.cells.lookup x = some c → c ≠ X.env.locals := fun x c e z => by
  obtain ⟨v, o, ho, hd⟩ := I.cell x c e
  obtain ⟨m, ⟨o', es, ep, ho', hd', _⟩, _⟩ := I.loc
  rw [z, ho'] at ho; cases ho; rw [hd'] at hd; cases hd
theorem Inv.funs (I : Inv X pins σ H s) : s.heap.FunFrames X.base X.outer := by
  have all : ∀ (l : List Env), (∀ b ∈ frs l, b ∈ X.fs) → X.s₀.heap.FunFrames X.base l → s.heap.FunFrames X.base l := by
    intro l
    induction l with
    | nil => intro _ _; trivial
    | cons env r ih =>
      intro hs hl
      obtain ⟨hk, ⟨L, o, hf, hn, ho, hd⟩, hr⟩ := hl
      have hL : L ∈ X.fs := hs L (by unfold frs; rw [List.filterMap_cons, hf]; exact List.mem_cons_self)
      obtain ⟨sl, e⟩ := I.base.slot L o ho (I.ok.frf L hL) hL fun z => I.ok.exfs L z hL
      exact ⟨hk, ⟨L, _, hf, hn, e, hd⟩, ih (fun b hb => hs b (by unfold frs; rw [List.filterMap_cons, hf]; exact List.mem_cons_of_mem _ hb)) hr⟩
  exact all X.outer (fun _ hb => hb) I.ok.funs

/-- the frames that run, for a call -/
theorem Inv.stack (I : Inv X pins σ H s) : s.heap.FunFrames X.base X.stack := by
  rcases I.ok.stk with e | ⟨e, hf⟩
  · rw [e]; exact I.funs
  · rw [e]
    obtain ⟨m, hn, _⟩ := I.loc
    refine .cons (by rw [I.ok.kind]; decide) hf hn ?_ I.funs
    exact Heap.get?_none_of_le (Nat.le_trans I.ok.bsz I.ok.above)
theorem Inv.stkSub (I : Inv X pins σ H s) : ∀ b ∈ frs X.stack, b ∈ X.env.locals :: X.fs := fun b hb => by
  rcases I.ok.stk with e | ⟨e, hf⟩
  · rw [e] at hb; exact List.mem_cons_of_mem _ hb
  · rw [e] at hb
    unfold frs at hb
    rw [List.filterMap_cons, hf] at hb
    exact hb
theorem Inv.stkFree (I : Inv X pins σ H s) : ∀ b ∈ frs X.stack, H b = none := fun b hb => by
  rcases List.mem_cons.mp (I.stkSub b hb) with e | hb
  · rw [e]; exact I.free
  · obtain ⟨_, o, ho, _⟩ := I.ok.funs.mem hb
    exact I.base.free b o ho (I.ok.frf b hb) fun z => I.ok.exfs b z hb

/-- THE STEP: the untracked objects but the frame and the records at ch are kept (the callers' frames up to slots), the frame's map is kept, the new abstract heap is held -/
theorem Inv.step {g' : Array GenState} {t' : Nat} {d' : Drawn} {ch : List Addr} (I : Inv X pins σ H s)
    (hch : ∀ b ∈ ch, (b ∈ X.ex ∨ X.s₀.heap.objs.size ≤ b) ∧ b ≠ X.env.locals ∧ (∀ x c, X.env.cells.lookup x = some c → c ≠ b) ∧ ∀ p ∈ X.pn ++ pins, p.1 ≠ b)
    (keep : ∀ b o, b ≠ X.env.locals → b ∉ X.fs → b ∉ ch → s.heap.get? b = some o → H b = none → h'.get? b = some o)
    (slot : ∀ b o, b ≠ X.env.locals → b ∈ X.fs → b ∉ ch → s.heap.get? b = some o → H b = none → ∃ sl, h'.get? b = some { o with slots := sl }) (free : ∀ b o, b ∉ ch → s.heap.get? b = some o → H b = none → H' b = none)
    (there : ∀ b o, b ∉ ch → s.heap.get? b = some o → ∃ o', h'.get? b = some o')
    (tups : ∀ b xs, H b = some (.tup xs) → H' b = some (.tup xs)) (frzs : ∀ b o u, H b = some (.frz o u) → H' b = some (.frz o u)) (tbls : ∀ b ps, H b = some (.tbl ps) → ∃ more, H' b = some (.tbl (ps ++ more)))
    (ns : ∀ m, s.heap.Ns X.env.locals m → h'.Ns X.env.locals m) (hok : HOk X.prog X.w H' h') (hg : AllBare g') :
    Inv X pins σ H' { s with heap := h', gens := g', drawn := d', toks := t' } := by
  have neL : ∀ b o, X.s₀.heap.get? b = some o → b ≠ X.env.locals := fun b o e => Nat.ne_of_lt (Nat.lt_of_lt_of_le (Heap.lt_size e) I.ok.above)
  have neC : ∀ b o, X.s₀.heap.get? b = some o → b ∉ X.ex → b ∉ ch := fun b o e hx hb => by
    rcases (hch b hb).1 with z | z
    · exact hx z
    · exact absurd (Nat.lt_of_lt_of_le (Heap.lt_size e) z) (Nat.lt_irrefl _)
  have cellK : ∀ x c, X.env.cells.lookup x = some c → ∀ v, s.heap.IsCell c v → h'.IsCell c v := fun x c e v ⟨o, ho, hd⟩ => by
    have nch : c ∉ ch := fun z => (hch c z).2.2.1 x c e rfl
    by_cases hc : c ∈ X.fs
    · obtain ⟨sl, q⟩ := slot c o (I.cne x c e) hc nch ho (I.freeC x c e)
      exact ⟨_, q, hd⟩
    · exact ⟨o, keep c o (I.cne x c e) hc nch ho (I.freeC x c e), hd⟩
  refine ⟨I.ok, I.os, hg, ⟨fun b o e n hb hx => ?_, fun b o e n hb hx => ?_, fun b o e n hx => ?_, fun b o e hx => ?_, fun b xs e => tups b xs (I.base.tups b xs e), fun b o xs e => frzs b o xs (I.base.frzs b o xs e), fun b ps e => ?_⟩, ?_, fun x c e => ?_, ?_, fun x c e => ?_, fun p hp => ?_, hok, I.len⟩
  · exact keep b o (neL b o e) hb (neC b o e hx) (I.base.keep b o e n hb hx) (I.base.free b o e n hx)
  · obtain ⟨sl, e1⟩ := I.base.slot b o e n hb hx
    obtain ⟨sl', e2⟩ := slot b _ (neL b o e) hb (neC b o e hx) e1 (I.base.free b o e n hx)
    exact ⟨sl', e2⟩
  · obtain ⟨o', e1⟩ := I.base.there b o e hx
    exact free b o' (neC b o e hx) e1 (I.base.free b o e n hx)
  · obtain ⟨o', e1⟩ := I.base.there b o e hx
    exact there b o' (neC b o e hx) e1
  · obtain ⟨m1, e1⟩ := I.base.tbls b ps e
    obtain ⟨m2, e2⟩ := tbls b _ e1
    exact ⟨m1 ++ m2, by rw [e2, Array.append_assoc]⟩
  · obtain ⟨m, hn, hl⟩ := I.loc
    refine ⟨m, ns m hn, fun i x v e1 e2 e3 => ?_⟩
    obtain ⟨u, r, l⟩ := hl i x v e1 e2 e3
    refine ⟨u, r, ?_⟩
    rcases l with l | ⟨k, c, e, z⟩
    · exact .inl l
    · exact .inr ⟨k, c, e, cellK x c e _ z⟩
  · obtain ⟨v, z⟩ := I.cell x c e
    exact ⟨v, cellK x c e v z⟩
  · obtain ⟨m, ⟨o, _, _, ho, _⟩, _⟩ := I.loc
    exact free _ o (fun z => (hch _ z).2.1 rfl) ho I.free
  · obtain ⟨v, o, ho, hd⟩ := I.cell x c e
    exact free c o (fun z => (hch c z).2.2.1 x c e rfl) ho (I.freeC x c e)
  · obtain ⟨e, n, ne, nf, d⟩ := I.pin p hp
    have nch : p.1 ∉ ch := fun z => (hch p.1 z).2.2.2 p hp rfl
    exact ⟨keep p.1 p.2 ne nf nch e n, free p.1 p.2 nch e n, ne, nf, d⟩
/-- .. where the frame's own object is kept too -/
theorem Inv.un {t' : Nat} (I : Inv X pins σ H s) (u : Un X.fs [] H H' s.heap h') (hok : HOk X.prog X.w H' h') : Inv X pins σ H' { s with heap := h', toks := t' } := by
  obtain ⟨m, ⟨o, es, ep, ho, r⟩, _⟩ := id I.loc
  obtain ⟨sl, hL⟩ := u.any ho I.free (by simp)
  exact I.step (g' := s.gens) (d' := s.drawn) (ch := []) (fun _ z => nomatch z) (fun b o _ hb _ e n => u.keep b o e n hb (by simp)) (fun b o _ hb _ e n => u.slot b o e n hb (by simp)) (fun b o _ e n => u.free b o e n (by simp)) (fun b o _ e => u.there b o e (by simp)) u.tups u.frzs u.tbls (fun m' hm => by
    obtain ⟨o', es', ep', ho', r'⟩ := hm
    rw [ho] at ho'; cases ho'
    exact ⟨_, es', ep', hL, r'⟩) hok I.bare
/-- behind a call (or a comprehension's block): the slots of this frame may have changed too, the records at ch may have turned -/
theorem Inv.call {g' : Array GenState} {t' : Nat} {d' : Drawn} {ch : List Addr} (I : Inv X pins σ H s) (u : Un (frs X.stack) ch H H' s.heap h') (hok : HOk X.prog X.w H' h') (hg : AllBare g')
    (hch : ∀ b ∈ ch, (b ∈ X.ex ∨ X.s₀.heap.objs.size ≤ b) ∧ b ≠ X.env.locals ∧ (∀ x c, X.env.cells.lookup x = some c → c ≠ b) ∧ ∀ p ∈ X.pn ++ pins, p.1 ≠ b) :
    Inv X pins σ H' { s with heap := h', gens := g', drawn := d', toks := t' } := by
  obtain ⟨m, ⟨o, es, ep, ho, r⟩, _⟩ := id I.loc
  obtain ⟨sl, hL⟩ := u.any ho I.free fun z => (hch _ z).2.1 rfl
  exact I.step (ch := ch) hch (fun b o hL hb hc e n => u.keep b o e n (fun z => (List.mem_cons.mp (I.stkSub b z)).elim hL hb) hc) (fun b o _ _ hc e n => u.any e n hc) (fun b o hc e n => u.free b o e n hc) (fun b o hc e => u.there b o e hc) u.tups u.frzs u.tbls (fun m' hm => by
    obtain ⟨o', es', ep', ho', r'⟩ := hm
    rw [ho] at ho'; cases ho'
    exact ⟨_, es', ep', hL, r'⟩) hok hg
/-- an untracked record of ours (an iterator) has turned -/
theorem Inv.turned {t' : Nat} {it : Addr} (I : Inv X pins σ H s) (k : ∀ b o, b ≠ it → s.heap.get? b = some o → h'.get? b = some o) (hn : H it = none) (hL : it ≠ X.env.locals)
    (h1 : it ∈ X.ex ∨ X.s₀.heap.objs.size ≤ it) (h2 : ∀ x c, X.env.cells.lookup x = some c → c ≠ it) (h3 : ∀ p ∈ X.pn ++ pins, p.1 ≠ it) : Inv X pins σ H { s with heap := h', toks := t' } := by
  have nit : ∀ b u, H b = some u → b ≠ it := fun b u e z => by rw [z, hn] at e; cases e
  refine I.step (g' := s.gens) (d' := s.drawn) (ch := [it]) (fun b hb => ?_) (fun b o _ _ hc e _ => k b o (fun z => hc (by simp [z])) e) (fun b o _ _ hc e _ => ⟨o.slots, k b o (fun z => hc (by simp [z])) e⟩) (fun _ _ _ _ n => n)
    (fun b o hc e => ⟨o, k b o (fun z => hc (by simp [z])) e⟩) (fun _ _ e => e) (fun _ _ _ e => e) (fun b ps e => ⟨#[], by rw [e]; simp⟩) (fun m hm => ?_) (fun b u e => ?_) I.bare
  · have e : b = it := by simpa using hb
    subst e
    exact ⟨h1, hL, h2, h3⟩
  · obtain ⟨o, es, ep, ho, r⟩ := hm
    exact ⟨o, es, ep, k _ o (Ne.symm hL) ho, r⟩
  · refine (I.hok b u e).stay (fun c v hc q => k c v ?_ q) (fun _ q => q) fun _ _ q => q
    rcases hc with z | z
    · rw [z]; exact nit b u e
    · exact nit c _ z
theorem Inv.tok (I : Inv X pins σ H s) (t : Nat) : Inv X pins σ H { s with toks := t } := I.un (h' := s.heap) (t' := t) Un.refl I.hok
/-- all objects kept -/
theorem Inv.kept {t' : Nat} (I : Inv X pins σ H s) (k : ∀ b u, s.heap.get? b = some u → h'.get? b = some u) : Inv X pins σ H { s with heap := h', toks := t' } := I.un (Un.kept k) (I.hok.kept k)
/-- a new object laid and tracked -/
theorem Inv.laid {a : Addr} {o : HO} {t' : Nat} (I : Inv X pins σ H s) (k : ∀ b u, s.heap.get? b = some u → h'.get? b = some u) (hp : s.heap.objs.size ≤ a) (new : ObjOk X.prog X.w (upd H a o) h' a o) :
    Inv X pins σ (upd H a o) { s with heap := h', toks := t' } := I.un (Un.laid k hp (I.hok.fresh hp)) (I.hok.laid k hp new)
/-- an object written -/
theorem Inv.write {x e : Addr} {o : HO} {t' : Nat} (I : Inv X pins σ H s) (mu : Mut (H x)) (he : e = x ∨ H e = some (.own x)) (k : ∀ b u, b ≠ e → s.heap.get? b = some u → h'.get? b = some u) (heo : ∃ u, h'.get? e = some u)
    (new : ObjOk X.prog X.w (upd H x o) h' x o) : Inv X pins σ (upd H x o) { s with heap := h', toks := t' } := I.un (Un.write mu he k heo) (I.hok.write mu he k heo new)
theorem Inv.pins_of {pins' : List (Addr × Obj)} (I : Inv X pins σ H s) (h : ∀ p ∈ pins', s.heap.get? p.1 = some p.2 ∧ H p.1 = none ∧ p.1 ≠ X.env.locals ∧ p.1 ∉ X.fs ∧ ∀ v, p.2.data ≠ .cell v) : Inv X pins' σ H s :=
  ⟨I.ok, I.os, I.bare, I.base, I.loc, I.cell, I.free, I.freeC, fun p hp => (List.mem_append.mp hp).elim (fun z => I.pin p (List.mem_append_left _ z)) (h p), I.hok, I.len⟩

theorem nodup_ix {N : List Str} (hN : N.Nodup) {i j : Nat} {x : Str} (a : N[i]? = some x) (b : N[j]? = some x) : i = j := by
  obtain ⟨h1, e1⟩ := List.getElem?_eq_some_iff.mp a
  obtain ⟨h2, e2⟩ := List.getElem?_eq_some_iff.mp b
  exact (List.getElem_inj hN).mp (e1.trans e2.symm)

/-- a name is stored; what changed -/
theorem store_ok2 {M : Model} {A : Around} {E : Value → Shared → Prop} {i : Nat} {x : Str} {v : V} {u : Value} {Q : Unit → Shared → Prop} (I : Inv X pins σ H s) (hN : X.N.Nodup) (hi : X.N[i]? = some x) (hx : Loc X.env.scope x) (r : RelV v u)
    (h : ∀ s', Inv X pins (σ.set i (some v)) H s' → (∃ a, Heap.SameBut a s.heap s'.heap ∧ (a = X.env.locals ∨ X.env.cells.lookup x = some a)) → Q () s') (hf : X.fn x = true ∨ X.env.scope.names.lookup x = some .local := by first | exact .inl rfl | exact .inr rfl | assumption) : wpAny M A (storeName X.env x u) Q E s := by
  obtain ⟨m, hn, hl⟩ := id I.loc
  have hcls : (X.env.scope.kind == .class || (X.env.scope.kind == .module && X.env.locals != X.env.globals)) = false := by rw [I.ok.kind]; rfl
  have hiσ : i < σ.length := by rw [I.len]; exact (List.getElem?_eq_some_iff.mp hi).1
  have cne := I.cne
  have tracked : ∀ {a : Addr} {h' : Heap}, (∃ o, s.heap.get? a = some o ∧ H a = none) → Heap.SameBut a s.heap h' → HOk X.prog X.w H h' := fun {a h'} ha hs b ob e => by
    obtain ⟨_, _, hfree⟩ := ha
    refine (I.hok b ob e).stay (fun c w' hc q => (hs.2 c ?_).trans q) (fun _ q => q) fun _ _ q => q
    rintro rfl
    rcases hc with rfl | hc
    · rw [hfree] at e; cases e
    · rw [hfree] at hc; cases hc
  rcases hx with hk | hk
  · refine wpAny_storeName_local hk hn (fun h' hn' hs => ?_) hcls
    obtain ⟨oL, _, _, hoL, _⟩ := id hn
    refine h _ ⟨I.ok, I.os, I.bare, ⟨fun b o e n hb hx => ?_, fun b o e n hb hx => ?_, I.base.free, fun b o e hx => ?_, I.base.tups, I.base.frzs, I.base.tbls⟩, ⟨_, hn', fun j y v' e1 e2 e3 => ?_⟩, fun y c e => ?_, I.free, I.freeC, fun p hp => ?_, tracked ⟨oL, hoL, I.free⟩ hs, by simpa using I.len⟩ ⟨_, hs, .inl rfl⟩
    · exact (hs.2 b (Nat.ne_of_lt (Nat.lt_of_lt_of_le (Heap.lt_size e) I.ok.above))).trans (I.base.keep b o e n hb hx)
    · obtain ⟨sl, e1⟩ := I.base.slot b o e n hb hx
      exact ⟨sl, (hs.2 b (Nat.ne_of_lt (Nat.lt_of_lt_of_le (Heap.lt_size e) I.ok.above))).trans e1⟩
    · obtain ⟨o', e1⟩ := I.base.there b o e hx
      exact ⟨o', (hs.2 b (Nat.ne_of_lt (Nat.lt_of_lt_of_le (Heap.lt_size e) I.ok.above))).trans e1⟩
    · by_cases hj : j = i
      · subst hj
        rw [hi] at e1; cases e1
        rw [List.getElem?_set_self hiσ] at e2
        cases e2
        exact ⟨u, r, .inl ⟨hk, by simp⟩⟩
      · rw [List.getElem?_set_ne (Ne.symm hj)] at e2
        obtain ⟨u', r', q⟩ := hl j y v' e1 e2 e3
        refine ⟨u', r', ?_⟩
        rcases q with ⟨k, e⟩ | ⟨k, c, e, z⟩
        · refine .inl ⟨k, ?_⟩
          have : y ≠ x := fun e => hj (nodup_ix hN e1 (e ▸ hi))
          simp [this, e]
        · exact .inr ⟨k, c, e, z.sameBut hs (cne y c e)⟩
    · obtain ⟨w', z⟩ := I.cell y c e
      exact ⟨w', z.sameBut hs (cne y c e)⟩
    · obtain ⟨e, n, ne, nf, d⟩ := I.pin p hp
      exact ⟨(hs.2 p.1 ne).trans e, n, ne, nf, d⟩
  · have hfn : X.fn x = true := by
      rcases hf with z | z
      · exact z
      · rw [z] at hk; cases hk
    obtain ⟨c, hc⟩ := I.ok.has x (.inl hk)
    obtain ⟨w', z⟩ := I.cell x c hc
    refine wpAny_storeName_cell I.ok.kind hk hc z (fun h' hc' hs => ?_)
    obtain ⟨oc, hoc, hocd⟩ := id z
    refine h { s with heap := h' } ⟨I.ok, I.os, I.bare, ⟨fun b o e n hb hx => ?_, fun b o e n hb hx => ?_, I.base.free, fun b o e hx => ?_, I.base.tups, I.base.frzs, I.base.tbls⟩, ⟨m, hn.sameBut hs (Ne.symm (cne x c hc)), fun j y v' e1 e2 e3 => ?_⟩, fun y c' e => ?_, I.free, I.freeC, fun p hp => ?_, tracked ⟨oc, hoc, I.freeC x c hc⟩ hs, by simpa using I.len⟩ ⟨c, hs, .inr hc⟩
    · exact (hs.2 b (Nat.ne_of_lt (Nat.lt_of_lt_of_le (Heap.lt_size e) (I.ok.cab x c hfn hc)))).trans (I.base.keep b o e n hb hx)
    · obtain ⟨sl, e1⟩ := I.base.slot b o e n hb hx
      exact ⟨sl, (hs.2 b (Nat.ne_of_lt (Nat.lt_of_lt_of_le (Heap.lt_size e) (I.ok.cab x c hfn hc)))).trans e1⟩
    · obtain ⟨o', e1⟩ := I.base.there b o e hx
      exact ⟨o', (hs.2 b (Nat.ne_of_lt (Nat.lt_of_lt_of_le (Heap.lt_size e) (I.ok.cab x c hfn hc)))).trans e1⟩
    · by_cases hj : j = i
      · subst hj
        rw [hi] at e1; cases e1
        rw [List.getElem?_set_self hiσ] at e2
        cases e2
        exact ⟨u, r, .inr ⟨.inl hk, c, hc, hc'⟩⟩
      · rw [List.getElem?_set_ne (Ne.symm hj)] at e2
        obtain ⟨u', r', q⟩ := hl j y v' e1 e2 e3
        refine ⟨u', r', ?_⟩
        rcases q with q | ⟨k, c', e, z'⟩
        · exact .inl q
        · refine .inr ⟨k, c', e, z'.sameBut hs ?_⟩
          rintro rfl
          exact hj (nodup_ix hN e1 (I.ok.inj _ _ _ e hc ▸ hi))
    · by_cases hcc : c' = c
      · subst hcc; exact ⟨_, hc'⟩
      · obtain ⟨w2, z2⟩ := I.cell y c' e
        exact ⟨w2, z2.sameBut hs hcc⟩
    · obtain ⟨e, n, ne, nf, d⟩ := I.pin p hp
      refine ⟨(hs.2 p.1 ?_).trans e, n, ne, nf, d⟩
      intro q
      rw [q, hoc] at e
      have q' : oc = p.2 := Option.some.inj e
      exact d w' (by rw [← q']; exact hocd)
theorem store_ok {M : Model} {A : Around} {E : Value → Shared → Prop} {i : Nat} {x : Str} {v : V} {u : Value} {Q : Unit → Shared → Prop} (I : Inv X pins σ H s) (hN : X.N.Nodup) (hi : X.N[i]? = some x) (hx : Loc X.env.scope x) (r : RelV v u)
    (h : ∀ s', Inv X pins (σ.set i (some v)) H s' → Q () s') (hf : X.fn x = true ∨ X.env.scope.names.lookup x = some .local := by first | exact .inl rfl | exact .inr rfl | assumption) : wpAny M A (storeName X.env x u) Q E s :=
  store_ok2 I hN hi hx r (fun s' I' _ => h s' I') hf
/-- behind a call or a block, the state as it is -/
theorem Inv.call' {s' : Shared} {ch : List Addr} (I : Inv X pins σ H s) (ho : s'.os = s.os) (u : Un (frs X.stack) ch H H' s.heap s'.heap) (hok : HOk X.prog X.w H' s'.heap) (hg : AllBare s'.gens)
    (hch : ∀ b ∈ ch, (b ∈ X.ex ∨ X.s₀.heap.objs.size ≤ b) ∧ b ≠ X.env.locals ∧ (∀ x c, X.env.cells.lookup x = some c → c ≠ b) ∧ ∀ p ∈ X.pn ++ pins, p.1 ≠ b) : Inv X pins σ H' s' := by
  obtain ⟨h', g', d', t', o'⟩ := s'
  have e : o' = s.os := ho
  subst e
  exact I.call (g' := g') (t' := t') (d' := d') u hok hg hch
end

/-! ### the judgements -/
/-- an exception: its class, its own dict's address (where it has one), the abstract heap behind it -/
abbrev XK := Value → Option Addr → Hp → Prop
abbrev St := List (Option V)
abbrev VK := V → Hp → Prop
/-- an expression's reading; a test's; an argument list's -/
abbrev TE := St → Hp → VK → Prop
abbrev TT := St → Hp → (Bool → Hp → Prop) → Prop
abbrev TA := St → Hp → (List V → Hp → Prop) → Prop
/-- what is wanted behind a statement -/
structure Ends where
  nx : St → Hp → Prop
  rt : VK
  bk : St → Hp → Prop := fun _ _ => False
  ct : St → Hp → Prop := fun _ _ => False
abbrev TS := Ends → St → Hp → Prop

def EP (X : Cx) (pins : List (Addr × Obj)) (σ : St) (Q : VK) (u : Value) (s' : Shared) : Prop := ∃ v H', Inv X pins σ H' s' ∧ RelV v u ∧ Q v H'
def TP (X : Cx) (pins : List (Addr × Obj)) (σ : St) (Q : Bool → Hp → Prop) (b : Bool) (s' : Shared) : Prop := ∃ H', Inv X pins σ H' s' ∧ Q b H'
def AP (X : Cx) (pins : List (Addr × Obj)) (σ : St) (Q : List V → Hp → Prop) (us : List Value) (s' : Shared) : Prop := ∃ vs H', Inv X pins σ H' s' ∧ Vals vs us ∧ Q vs H'
def SP (X : Cx) (pins : List (Addr × Obj)) (D : Ends) (f : Flow) (s' : Shared) : Prop :=
  match f with
  | .next => ∃ σ' H', Inv X pins σ' H' s' ∧ D.nx σ' H'
  | .brk => ∃ σ' H', Inv X pins σ' H' s' ∧ D.bk σ' H'
  | .cont => ∃ σ' H', Inv X pins σ' H' s' ∧ D.ct σ' H'
  | .ret u => ∃ v σ' H', Inv X pins σ' H' s' ∧ RelV v u ∧ D.rt v H'

def PE (X : Cx) (e : Expr) (t : TE) : Prop :=
  ∀ (pins : List (Addr × Obj)) (s : Shared) (σ : St) (H : Hp) (Q : VK), Inv X pins σ H s → t σ H Q → wpAny (model X.prog X.w) X.A (eval e X.env) (EP X pins σ Q) X.xe s
def PT (X : Cx) (e : Expr) (t : TT) : Prop :=
  ∀ (pins : List (Addr × Obj)) (s : Shared) (σ : St) (H : Hp) (Q : Bool → Hp → Prop), Inv X pins σ H s → t σ H Q → wpAny (model X.prog X.w) X.A (isTrue e X.env (eval e X.env)) (TP X pins σ Q) X.xe s
/-- a test whatever its 'whole' is (and, or) -/
def PW (X : Cx) (e : Expr) (t : TT) : Prop :=
  ∀ (whole : Sem Value) (pins : List (Addr × Obj)) (s : Shared) (σ : St) (H : Hp) (Q : Bool → Hp → Prop), Inv X pins σ H s → t σ H Q → wpAny (model X.prog X.w) X.A (isTrue e X.env whole) (TP X pins σ Q) X.xe s
theorem PW.pt {X : Cx} {e : Expr} {t : TT} (h : PW X e t) : PT X e t := h _
/-- an argument list (no star), from the left -/
def PA (X : Cx) (es : List Expr) (t : TA) : Prop :=
  ∀ (pos : Pos) (pins : List (Addr × Obj)) (s : Shared) (σ : St) (H : Hp) (Q : List V → Hp → Prop), Inv X pins σ H s → t σ H Q → wpAny (model X.prog X.w) X.A (spliced (backTo pos (starEach es X.env))) (AP X pins σ Q) X.xe s
def PS (X : Cx) (st : Stmt) (t : TS) : Prop :=
  ∀ (pins : List (Addr × Obj)) (s : Shared) (σ : St) (H : Hp) (D : Ends), Inv X pins σ H s → t D σ H → wpAny (model X.prog X.w) X.A (exec st X.env) (SP X pins D) X.xe s
def PSs (X : Cx) (st : List Stmt) (t : TS) : Prop :=
  ∀ (pins : List (Addr × Obj)) (s : Shared) (σ : St) (H : Hp) (D : Ends), Inv X pins σ H s → t D σ H → wpAny (model X.prog X.w) X.A (execs st X.env) (SP X pins D) X.xe s
/-- weaken the end -/
theorem thn {α : Type} {t : Sem α} {Q Q' : α → Shared → Prop} {M : Model} {A : Around} {E : Value → Shared → Prop} {s : Shared} (h : wpAny M A t Q E s) (hQ : ∀ a s, Q a s → Q' a s) : wpAny M A t Q' E s := wpAny_mono h hQ fun _ _ x => x
end L2

namespace L2
open PySem PySem.Spec PyProof.Rows
section
variable {X : Cx}

/-! ### names and constants -/
def tVar (i : Nat) : TE := fun σ H Q => ∃ v, σ[i]? = some (some v) ∧ Q v H
def tC (v : V) : TE := fun _ H Q => Q v H
theorem pe_var {i : Nat} {x : Str} {pos : Pos} (hN : X.N[i]? = some x) (hv : Vis X.env.scope x) (hd : (x == ("__debug__" : Str)) = false := by decide) (hcd : (x == ("__classdict__" : Str)) = false := by decide) : PE X (.Name x pos) (tVar i) := by
  intro pins s σ H Q I h
  obtain ⟨v, e, h⟩ := h
  obtain ⟨m, hn, hl⟩ := I.loc
  obtain ⟨u, r, l⟩ := hl i x v hN e hv
  have fin : EP X pins σ Q u s := ⟨v, H, I, r, h⟩
  rcases l with ⟨hk, hm⟩ | ⟨hk, c, hc, hcell⟩
  · exact wpAny_Name (wpAny_loadName_local I.ok.kind hk hn hm fin) hd
  · rcases hk with hk | hk
    · exact wpAny_Name (wpAny_loadName_cell I.ok.kind hk hc hcell fin) hd
    · exact wpAny_Name (wpAny_loadName_free I.ok.kind hk hc hcell fin hcd) hd
theorem pe_int {i j pos} : PE X (.Constant (.int i) j pos) (tC (.int i)) := fun _ _ _ H _ I h => wpAny_Constant_int ⟨.int i, H, I.tok _, ⟨_, rfl⟩, h⟩
theorem pe_bl {b j pos} : PE X (.Constant (.bool b) j pos) (tC (.bl b)) := fun _ _ _ H _ I h => Constant_bool ⟨.bl b, H, I, rfl, h⟩
theorem pe_str {x j pos} : PE X (.Constant (.str x) j pos) (tC (.str x)) := fun _ _ _ H _ I h => Calls.Constant_str ⟨.str x, H, I.tok _, ⟨_, rfl⟩, h⟩

/-- a global name of the def -/
def Gl (X : Cx) (x : Str) : Prop := X.env.kindOf x = some .globalImplicit
theorem ld_glob {E : Value → Shared → Prop} {pins : List (Addr × Obj)} {s : Shared} {σ : St} {H : Hp} {x : Str} {u : Value} {pos : Pos} {Q : Value → Shared → Prop} (I : Inv X pins σ H s) (hg : Gl X x) (hm : X.mg x = some u) (h : Q u s)
    (hd : (x == ("__debug__" : Str)) = false := by decide) : wpAny (model X.prog X.w) X.A (eval (.Name x pos) X.env) Q E s :=
  Calls.Name_function_global I.ok.kind hg (Calls.loadGlobal_global (by rw [I.ok.glob]; exact I.mod.glob.keeps I.bk) hm h) hd
theorem ld_blt {E : Value → Shared → Prop} {pins : List (Addr × Obj)} {s : Shared} {σ : St} {H : Hp} {x : Str} {u : Value} {pos : Pos} {Q : Value → Shared → Prop} (I : Inv X pins σ H s) (hg : Gl X x) (hm : X.mg x = none) (hv : bootBuiltins x = some u) (h : Q u s)
    (hn : x ≠ "__name__" := by decide) (hd : (x == ("__debug__" : Str)) = false := by decide) : wpAny (model X.prog X.w) X.A (eval (.Name x pos) X.env) Q E s := by
  obtain ⟨mb, h1, h2⟩ := I.mod.blt
  exact Calls.Name_function_global I.ok.kind hg (Calls.loadGlobal_builtin (by rw [I.ok.glob]; exact I.mod.glob.keeps I.bk) hm (by rw [I.ok.blt]; exact h1.keeps I.bk) ((h2 x hn).trans hv) h) hd
/-- a module's constant, a class, a function, as a value -/
theorem pe_glob {x : Str} {v : V} {u : Value} {pos : Pos} (hg : Gl X x) (hm : X.mg x = some u) (r : RelV v u) (hd : (x == ("__debug__" : Str)) = false := by decide) : PE X (.Name x pos) (tC v) :=
  fun _ _ _ H _ I h => ld_glob I hg hm ⟨v, H, I, r, h⟩ hd
theorem pe_bltn {x : Str} {v : V} {u : Value} {pos : Pos} (hg : Gl X x) (hm : X.mg x = none) (hv : bootBuiltins x = some u) (r : RelV v u) (hn : x ≠ "__name__" := by decide) (hd : (x == ("__debug__" : Str)) = false := by decide) : PE X (.Name x pos) (tC v) :=
  fun _ _ _ H _ I h => ld_blt I hg hm hv ⟨v, H, I, r, h⟩ hn hd

variable {a b : Expr} {ta tb : TE} {pos : Pos}
/-! ### comparisons -/
def PC (X : Cx) (op : CmpOp) (a b : Expr) (t : TE) : Prop :=
  ∀ (pins : List (Addr × Obj)) (s : Shared) (σ : St) (H : Hp) (Q : VK), Inv X pins σ H s → t σ H Q →
    wpAny (model X.prog X.w) X.A (eval a X.env) (fun v s₁ => wpAny (model X.prog X.w) X.A (eval b X.env) (fun u s₂ => wpAny (model X.prog X.w) X.A (compareOp op v u) (EP X pins σ Q) X.xe s₂) X.xe s₁) X.xe s
theorem nobehind (b : Expr) {op : CmpOp} (h : op ≠ .In) (h2 : op ≠ .NotIn) : behindInMarks op b = false := by
  have e1 : (op == CmpOp.In) = false := by cases op <;> first | rfl | exact absurd rfl h
  have e2 : (op == CmpOp.NotIn) = false := by cases op <;> first | rfl | exact absurd rfl h2
  cases b <;> simp [behindInMarks, e1, e2]
/-- a comparison as a value, as a test -/
def tB (t : TE) : TT := fun σ H Q => t σ H fun x H1 => ∃ c, x = .bl c ∧ Q c H1
theorem pt_cmp {op : CmpOp} {t : TE} (h : PC X op a b t) (h1 : behindInMarks op b = false := by first | exact nobehind _ (by decide) (by decide) | rfl) : PT X (.Compare a [op] [b] pos) (tB t) := by
  intro pins s σ H Q I hw
  refine wpAny_isTrue_Compare1 (thn (h pins s σ H _ I hw) fun v s1 h1 => thn h1 fun u s2 h2 => thn h2 fun c s3 ⟨x, H1, I1, r1, q1⟩ => ?_) h1
  obtain ⟨d, rfl, q⟩ := q1
  cases r1
  exact wpAny_truthy_bool ⟨H1, I1, q⟩
/-- an expression whose value is a bool, as a test -/
theorem pt_val {e : Expr} {t : TE} (h : PE X e t) (he : ∀ whole, isTrue e X.env whole = (do let v ← whole; standAt e.pos; holding [v] (truthy v)) := by intro _; rfl) : PT X e (tB t) := by
  intro pins s σ H Q I hw
  refine isTrue_plain (thn (h pins s σ H _ I hw) fun v s1 ⟨x, H1, I1, r1, q1⟩ => ?_) (he _)
  obtain ⟨d, rfl, q⟩ := q1
  cases r1
  exact wpAny_truthy_bool ⟨H1, I1, q⟩

/-! ### and, or, not -/
variable {tA tB' : TT} {rest : List Expr}
def tAnd (t u : TT) : TT := fun σ H Q => t σ H fun c H1 => if c = true then u σ H1 Q else Q false H1
def tOr (t u : TT) : TT := fun σ H Q => t σ H fun c H1 => if c = true then Q true H1 else u σ H1 Q
def tNot (t : TT) : TT := fun σ H Q => t σ H fun c H1 => Q (!c) H1
theorem pw_and1 (ha : PT X a tA) : PW X (.BoolOp .And [a] pos) tA := by
  intro wh pins s σ H Q I h
  refine isTrue_and (thn (ha pins s σ H Q I h) fun c s1 e => ?_)
  cases c with
  | true => exact isTrue_and_nil e
  | false => exact e
theorem pw_or1 (ha : PT X a tA) : PW X (.BoolOp .Or [a] pos) tA := by
  intro wh pins s σ H Q I h
  refine isTrue_or (thn (ha pins s σ H Q I h) fun c s1 e => ?_)
  cases c with
  | false => exact isTrue_or_nil e
  | true => exact e
theorem pw_and (ha : PT X a tA) (hb : PW X (.BoolOp .And (b :: rest) pos) tB') : PW X (.BoolOp .And (a :: b :: rest) pos) (tAnd tA tB') := by
  intro wh pins s σ H Q I h
  refine isTrue_and (thn (ha pins s σ H _ I h) fun c s1 ⟨H1, I1, q1⟩ => ?_)
  cases c with
  | true => exact hb wh pins s1 σ H1 Q I1 q1
  | false => exact ⟨H1, I1, q1⟩
theorem pw_or (ha : PT X a tA) (hb : PW X (.BoolOp .Or (b :: rest) pos) tB') : PW X (.BoolOp .Or (a :: b :: rest) pos) (tOr tA tB') := by
  intro wh pins s σ H Q I h
  refine isTrue_or (thn (ha pins s σ H _ I h) fun c s1 ⟨H1, I1, q1⟩ => ?_)
  cases c with
  | true => exact ⟨H1, I1, q1⟩
  | false => exact hb wh pins s1 σ H1 Q I1 q1
theorem pt_not (ha : PT X a tA) : PT X (.UnaryOp .Not a pos) (tNot tA) := by
  intro pins s σ H Q I h
  exact isTrue_not (ha pins s σ H (fun c H1 => Q (!c) H1) I h)
/-- .. as values (bools) -/
def tAndV (ta tb : TE) : TE := fun σ H Q => ta σ H fun x H1 => ∃ c, x = .bl c ∧ if c = true then tb σ H1 Q else Q (.bl false) H1
def tNotV (ta : TE) : TE := fun σ H Q => ta σ H fun x H1 => ∃ c, x = .bl c ∧ Q (.bl (!c)) H1
theorem pe_one {op} {t : TE} (h : PE X a t) : PE X (.BoolOp op [a] pos) t := fun pins s σ H Q I hw => BoolOp_one (h pins s σ H Q I hw)
theorem pe_and (ha : PE X a ta) (hb : PE X (.BoolOp .And (b :: rest) pos) tb) : PE X (.BoolOp .And (a :: b :: rest) pos) (tAndV ta tb) := by
  intro pins s σ H Q I h
  refine BoolOp_and (thn (ha pins s σ H _ I h) fun v s1 ⟨x, H1, I1, r1, q1⟩ => ?_)
  obtain ⟨c, rfl, q1⟩ := q1
  cases r1
  refine wpAny_truthy_bool ?_
  cases c with
  | true => exact hb pins s1 σ H1 Q I1 q1
  | false => exact ⟨.bl false, H1, I1, rfl, q1⟩
theorem pe_not (ha : PE X a ta) : PE X (.UnaryOp .Not a pos) (tNotV ta) := by
  intro pins s σ H Q I h
  refine UnaryOp_ (thn (ha pins s σ H _ I h) fun v s1 ⟨x, H1, I1, r1, q1⟩ => ?_)
  obtain ⟨c, rfl, q1⟩ := q1
  cases r1
  exact not_of (wpAny_truthy_bool ⟨.bl (!c), H1, I1, rfl, q1⟩)
/-- a if t else b -/
def tIf (t : TT) (ta tb : TE) : TE := fun σ H Q => t σ H fun c H1 => if c = true then ta σ H1 Q else tb σ H1 Q
theorem pe_ifExp {c : Expr} (hc : PT X c tA) (ha : PE X a ta) (hb : PE X b tb) : PE X (.IfExp c a b pos) (tIf tA ta tb) := by
  intro pins s σ H Q I h
  refine wpAny_IfExp (thn (hc pins s σ H _ I h) fun d s1 ⟨H1, I1, q1⟩ => ?_)
  cases d with
  | true => exact ha pins s1 σ H1 Q I1 q1
  | false => exact hb pins s1 σ H1 Q I1 q1
end
end L2

namespace L2
open PySem PySem.Spec PyProof.Rows

/-! ### a list, a tuple that is read: tracked, frozen, or an object of the module -/
def SqL (K : PySem.W.Frag) (H : Hp) (a : Addr) (xs : List V) : Prop :=
  Rd H a (.lst xs) ∨
    ∃ (o : Obj) (its : Array Value) (n : Nat), K.lookup a = some o ∧ o.cls = .type "list" ∧ o.dict = none ∧ o.data = .seq its n ∧ its.size ≤ sizeLine ∧ Vals xs its.toList
def SqT (K : PySem.W.Frag) (H : Hp) (a : Addr) (xs : List V) : Prop :=
  Rd H a (.tup xs) ∨
    ∃ (o : Obj) (its : Array Value) (n : Nat), K.lookup a = some o ∧ o.cls = .type "tuple" ∧ o.data = .seq its n ∧ its.size ≤ sizeLine ∧ Vals xs its.toList
def absV : Value → Option V
  | .none => some .non
  | .bool b => some (.bl b)
  | .int i _ => some (.int i)
  | .str x _ => some (.str x)
  | .bytes b _ => some (.byt b)
  | .float b _ => some (.flt b)
  | .ref a => some (.ref a)
  | .type n => some (.ty n)
  | _ => none
theorem RelV.abs {x : V} {u : Value} (r : RelV x u) : absV u = some x := by
  cases x with
  | non => cases r; rfl
  | bl _ => cases r; rfl
  | int _ => obtain ⟨t, rfl⟩ := r; rfl
  | str _ => obtain ⟨t, rfl⟩ := r; rfl
  | byt _ => obtain ⟨t, rfl⟩ := r; rfl
  | flt _ => obtain ⟨t, rfl⟩ := r; rfl
  | ref _ => cases r; rfl
  | ty _ => cases r; rfl
theorem RelV.inj {x y : V} {u : Value} (r : RelV x u) (q : RelV y u) : x = y := Option.some.inj (r.abs.symm.trans q.abs)
theorem Vals.inj : ∀ {xs ys : List V} {us : List Value}, Vals xs us → Vals ys us → xs = ys
  | _, _, _, .nil, .nil => rfl
  | _, _, _, .cons r t, .cons r' t' => by rw [r.inj r', Vals.inj t t']
section
variable {X : Cx} {pins : List (Addr × Obj)} {σ : St} {H : Hp} {s : Shared} {a : Addr} {xs ys : List V}
theorem SqL.of {K : PySem.W.Frag} (h : H a = some (.lst xs)) : SqL K H a xs := .inl (.inl h)
theorem SqT.of {K : PySem.W.Frag} (h : H a = some (.tup xs)) : SqT K H a xs := .inl (.inl h)
theorem Inv.list (I : Inv X pins σ H s) (h : SqL X.K H a xs) : ∃ its : List Value, Vals xs its ∧ PlainL s.heap a its.toArray ∧ xs.length ≤ sizeLine := by
  rcases h with h | ⟨o, its, n, hk, hc, hd, hs, hz, r⟩
  · obtain ⟨z, its, n, r, e⟩ := h.ok I.hok
    exact ⟨its, r, ⟨_, n, e, rfl, rfl, rfl⟩, z⟩
  · refine ⟨its.toList, r, ⟨o, n, I.kIn a o hk, hc, hd, by simpa using hs⟩, ?_⟩
    have e := r.length
    simp only [Array.length_toList] at e
    omega
theorem Inv.tuple (I : Inv X pins σ H s) (h : SqT X.K H a xs) : ∃ its : List Value, Vals xs its ∧ IsTup s.heap a its.toArray ∧ xs.length ≤ sizeLine := by
  rcases h with h | ⟨o, its, n, hk, hc, hs, hz, r⟩
  · obtain ⟨z, its, r, p⟩ := h.ok I.hok
    exact ⟨its, r, p, z⟩
  · refine ⟨its.toList, r, ⟨o, I.kIn a o hk, hc, n, by simpa using hs⟩, ?_⟩
    have e := r.length
    simp only [Array.length_toList] at e
    omega
theorem Inv.list_inj (I : Inv X pins σ H s) (h : SqL X.K H a xs) (h' : SqL X.K H a ys) : xs = ys := by
  obtain ⟨its, r, ⟨o, n, e, _, _, d⟩, _⟩ := I.list h
  obtain ⟨its', r', ⟨o', n', e', _, _, d'⟩, _⟩ := I.list h'
  rw [e] at e'; cases e'
  rw [d] at d'
  injection d' with d1 _
  have : its = its' := by simpa using congrArg Array.toList d1
  subst this
  exact r.inj r'
theorem Inv.tuple_inj (I : Inv X pins σ H s) (h : SqT X.K H a xs) (h' : SqT X.K H a ys) : xs = ys := by
  obtain ⟨its, r, ⟨o, e, _, n, d⟩, _⟩ := I.tuple h
  obtain ⟨its', r', ⟨o', e', _, n', d'⟩, _⟩ := I.tuple h'
  rw [e] at e'; cases e'
  rw [d] at d'
  injection d' with d1 _
  have : its = its' := by simpa using congrArg Array.toList d1
  subst this
  exact r.inj r'
end

/-! ### another wish about exceptions -/
abbrev Cx.wish (X : Cx) (E : Value → Shared → Prop) : Cx := { X with xe := E }
/-- no exception leaves -/
abbrev Cx.nox (X : Cx) : Cx := X.wish fun _ _ => False
theorem Cx.Ok.wish {X : Cx} (ok : X.Ok) (E : Value → Shared → Prop) : (X.wish E).Ok :=
  ⟨ok.mod, ok.kind, ok.glob, ok.blt, ok.above, ok.inj, ok.has, ok.cab, ok.hd, ok.frames, ok.stk, ok.exf, ok.bs, ok.bsz, ok.noex, ok.exfs, ok.funs, ok.frf⟩
theorem Cx.Ok.unwish {X : Cx} {E : Value → Shared → Prop} (ok : (X.wish E).Ok) : X.Ok :=
  ⟨ok.mod, ok.kind, ok.glob, ok.blt, ok.above, ok.inj, ok.has, ok.cab, ok.hd, ok.frames, ok.stk, ok.exf, ok.bs, ok.bsz, ok.noex, ok.exfs, ok.funs, ok.frf⟩
section
variable {X : Cx} {pins : List (Addr × Obj)} {σ : St} {H : Hp} {s : Shared} {E : Value → Shared → Prop}
theorem Inv.wish (I : Inv X pins σ H s) (E : Value → Shared → Prop) : Inv (X.wish E) pins σ H s := ⟨I.ok.wish E, I.os, I.bare, I.base, I.loc, I.cell, I.free, I.freeC, I.pin, I.hok, I.len⟩
theorem Inv.unwish (I : Inv (X.wish E) pins σ H s) : Inv X pins σ H s := ⟨I.ok.unwish, I.os, I.bare, I.base, I.loc, I.cell, I.free, I.freeC, I.pin, I.hok, I.len⟩
theorem SP.unwish {D : Ends} {f : Flow} {s' : Shared} (h : SP (X.wish E) pins D f s') : SP X pins D f s' := by
  cases f with
  | next => obtain ⟨σ', H', I, q⟩ := h; exact ⟨σ', H', I.unwish, q⟩
  | brk => obtain ⟨σ', H', I, q⟩ := h; exact ⟨σ', H', I.unwish, q⟩
  | cont => obtain ⟨σ', H', I, q⟩ := h; exact ⟨σ', H', I.unwish, q⟩
  | ret u => obtain ⟨v, σ', H', I, r, q⟩ := h; exact ⟨v, σ', H', I.unwish, r, q⟩
theorem PE.nox {e : Expr} {t : TE} (h : PE X.nox e t) : PE X e t := fun pins s σ H Q I hw =>
  wpAny_mono (h pins s σ H Q (I.wish _) hw) (fun _ _ ⟨v, H', I', r, q⟩ => ⟨v, H', I'.unwish, r, q⟩) fun _ _ z => False.elim z
theorem PT.nox {e : Expr} {t : TT} (h : PT X.nox e t) : PT X e t := fun pins s σ H Q I hw =>
  wpAny_mono (h pins s σ H Q (I.wish _) hw) (fun _ _ ⟨H', I', q⟩ => ⟨H', I'.unwish, q⟩) fun _ _ z => False.elim z
theorem PSs.nox {st : List Stmt} {t : TS} (h : PSs X.nox st t) : PSs X st t := fun pins s σ H D I hw =>
  wpAny_mono (h pins s σ H D (I.wish _) hw) (fun _ _ q => q.unwish) fun _ _ z => False.elim z
end

/-! ### blocks and small statements -/
section
variable {X : Cx} {st : Stmt} {rest : List Stmt} {t u : TS} {e : Expr} {te : TE} {pos : Pos}
def tNext : TS := fun D σ H => D.nx σ H
def tSeq (t u : TS) : TS := fun D σ H => t { D with nx := u D } σ H
theorem pss_nil : PSs X [] tNext := fun _ _ σ H _ I h => wpAny_execs_nil ⟨σ, H, I, h⟩
theorem pss_cons (h1 : PS X st t) (h2 : PSs X rest u) : PSs X (st :: rest) (tSeq t u) := by
  intro pins s σ H D I h
  refine wpAny_execs_cons (thn (h1 pins s σ H { D with nx := u D } I h) fun f s1 q => ?_)
  cases f with
  | next =>
    obtain ⟨σ', H', I', q⟩ := q
    exact h2 pins s1 σ' H' D I' q
  | ret v => exact q
  | brk => exact q
  | cont => exact q
theorem pss_one (h1 : PS X st t) : PSs X [st] t := by
  intro pins s σ H D I h
  refine wpAny_execs_cons (thn (h1 pins s σ H D I h) fun f s1 q => ?_)
  cases f with
  | next => exact wpAny_execs_nil q
  | ret v => exact q
  | brk => exact q
  | cont => exact q
/-- in a def's body nothing is shown -/
theorem Inv.quiet {pins : List (Addr × Obj)} {σ : St} {H : Hp} {s : Shared} (I : Inv X pins σ H s) : interactive X.env = false := by simp [interactive, I.ok.kind]
/-- an expression whose value is dropped -/
def tDrop (te : TE) : TS := fun D σ H => te σ H fun _ H1 => D.nx σ H1
theorem ps_expr (he : PE X e te) (hs : swapsWith e none pos.line X.env = pure false := by rfl) : PS X (.Expr e pos) (tDrop te) := by
  intro pins s σ H D I h
  exact wpAny_Expr_any (thn (he pins s σ H _ I h) fun v s1 ⟨x, H1, I1, r1, q1⟩ => ⟨σ, H1, I1, q1⟩) I.quiet hs
def tRet (te : TE) : TS := fun D σ H => te σ H D.rt
theorem ps_ret (he : PE X e te) : PS X (.Return (some e) pos) (tRet te) := by
  intro pins s σ H D I h
  exact wpAny_Return_some (thn (he pins s σ H _ I h) fun v s1 ⟨x, H1, I1, r1, q1⟩ => ⟨x, σ, H1, I1, r1, q1⟩)
def tIfS (c : TT) (t u : TS) : TS := fun D σ H => c σ H fun b H1 => if b = true then t D σ H1 else u D σ H1
theorem ps_if {c : Expr} {a b : List Stmt} {tc : TT} (hc : PT X c tc) (ha : PSs X a t) (hb : PSs X b u) : PS X (.If c a b pos) (tIfS tc t u) := by
  intro pins s σ H D I h
  refine wpAny_If (thn (hc pins s σ H _ I h) fun d s1 ⟨H1, I1, q1⟩ => ?_)
  cases d with
  | true => exact ha pins s1 σ H1 D I1 q1
  | false => exact hb pins s1 σ H1 D I1 q1
end

/-! ### targets -/
abbrev TG := V → St → Hp → (St → Hp → Prop) → Prop
abbrev TGs := List V → St → Hp → (St → Hp → Prop) → Prop
def PG (X : Cx) (target : Expr) (t : TG) : Prop :=
  ∀ (pins : List (Addr × Obj)) (s : Shared) (σ : St) (H : Hp) (v : V) (u : Value) (Q : St → Hp → Prop), Inv X pins σ H s → RelV v u → t v σ H Q →
    wpAny (model X.prog X.w) X.A (assign target X.env u) (fun _ s' => ∃ σ' H', Inv X pins σ' H' s' ∧ Q σ' H') X.xe s
/-- several targets, one after another -/
def PGs (X : Cx) (ts : List Expr) (t : TGs) : Prop :=
  ∀ (pins : List (Addr × Obj)) (s : Shared) (σ : St) (H : Hp) (vs : List V) (us : List Value) (Q : St → Hp → Prop), Inv X pins σ H s → Vals vs us → t vs σ H Q →
    wpAny (model X.prog X.w) X.A (assignInOrder ((assignEach ts X.env).map (·.2)) us) (fun _ s' => ∃ σ' H', Inv X pins σ' H' s' ∧ Q σ' H') X.xe s
/-- o[i] = v, by values -/
abbrev TSet := V → V → V → Hp → (Hp → Prop) → Prop
def PSet (X : Cx) (t : TSet) : Prop :=
  ∀ (pins : List (Addr × Obj)) (s : Shared) (σ : St) (H : Hp) (o i v : V) (ov iv u : Value) (Q : Hp → Prop), Inv X pins σ H s → RelV o ov → RelV i iv → RelV v u → t o i v H Q →
    wpAny (model X.prog X.w) X.A (setItem ov iv u) (fun _ s' => ∃ H', Inv X pins σ H' s' ∧ Q H') X.xe s
section
variable {X : Cx} {pos : Pos}
def gName (i : Nat) : TG := fun v σ H Q => Q (σ.set i (some v)) H
theorem pg_name {i : Nat} {x : Str} (hN : X.N.Nodup) (hi : X.N[i]? = some x) (hx : Loc X.env.scope x) (hf : X.fn x = true ∨ X.env.scope.names.lookup x = some .local := by first | exact .inl rfl | exact .inr rfl | assumption) : PG X (.Name x pos) (gName i) := by
  intro pins s σ H v u Q I r h
  exact wpAny_assign_Name (store_ok I hN hi hx r (fun s' I' => ⟨_, H, I', h⟩) hf)
def gNil : TGs := fun vs σ H Q => vs = [] ∧ Q σ H
def gCons (t : TG) (u : TGs) : TGs := fun vs σ H Q => ∃ v r, vs = v :: r ∧ t v σ H fun σ' H' => u r σ' H' Q
theorem pgs_nil : PGs X [] gNil := by
  intro pins s σ H vs us Q I r h
  obtain ⟨e, h⟩ := h
  subst e
  cases r
  exact assignInOrder_nil ⟨σ, H, I, h⟩
theorem pgs_cons {e : Expr} {es : List Expr} {t : TG} {u : TGs} (h1 : PG X e t) (h2 : PGs X es u)
    (hs : (assignEach (e :: es) X.env).map (·.2) = assign e X.env :: (assignEach es X.env).map (·.2) := by rfl) : PGs X (e :: es) (gCons t u) := by
  intro pins s σ H vs us Q I r h
  obtain ⟨v, vr, e1, h⟩ := h
  subst e1
  cases r with
  | cons r rr =>
    rw [hs]
    refine assignInOrder_cons (thn (h1 pins s σ H _ _ _ I r h) fun _ s1 ⟨σ1, H1, I1, q1⟩ => ?_)
    exact h2 pins s1 σ1 H1 _ _ Q I1 rr q1
/-- (a, b, ..) = a tuple of that length -/
def gTup (K : PySem.W.Frag) (n : Nat) (t : TGs) : TG := fun v σ H Q => ∃ a xs, v = .ref a ∧ SqT K H a xs ∧ xs.length = n ∧ t xs σ H Q
theorem pg_tup {es : List Expr} {k : Nat} {t : TGs} {n : Nat} (hc : X.calm = true) (h : PGs X es t)
    (hn : (assignEach es X.env).length = n := by rfl) (hst : (assignEach es X.env).findIdx? (·.1) = none := by rfl) : PG X (.Tuple es k pos) (gTup X.K n t) := by
  intro pins s σ H v u Q I r hw
  obtain ⟨a, xs, e1, hq, hl, hw⟩ := hw
  subst e1
  cases r
  obtain ⟨its, rv, ht, hz⟩ := I.tuple hq
  refine assign_Tuple_tuple (I.ok.hd hc) ht (by simp [hn, ← hl, rv.length]) hst fun h' hx => ?_
  have I1 : Inv X pins σ H { s with heap := h' } := I.kept (t' := s.toks) fun b o e => hx b o (Nat.ne_of_lt (Heap.lt_size e)) e
  exact h pins _ σ H xs _ Q I1 (by simpa using rv) hw
/-- o[i] = .. -/
def gSub (to ti : TE) (t : TSet) : TG := fun v σ H Q => to σ H fun o H1 => ti σ H1 fun i H2 => t o i v H2 fun H3 => Q σ H3
theorem pg_sub {o i : Expr} {to ti : TE} {t : TSet} (ho : PE X o to) (hi : PE X i ti) (hs : PSet X t)
    (ha : ∀ v, assign (.Subscript o i pos) X.env v = (do
      let ov ← holding [v] (eval o X.env)
      let iv ← holding [v, ov] (eval i X.env)
      standAt pos
      holding [v, ov, iv] (setItem ov iv v)
      release [v, ov, iv] []) := by intro _; rfl) : PG X (.Subscript o i pos) (gSub to ti t) := by
  intro pins s σ H v u Q I r h
  rw [ha]
  refine wpAny_bind (wpAny_holding (thn (ho pins s σ H _ I h) fun ov s1 ⟨x, H1, I1, r1, q1⟩ => ?_))
  refine wpAny_bind (wpAny_holding (thn (hi pins s1 σ H1 _ I1 q1) fun iv s2 ⟨y, H2, I2, r2, q2⟩ => ?_))
  refine wpAny_bind (wpAny_standAt (wpAny_bind (wpAny_holding (thn (hs pins s2 σ H2 x y v ov iv u _ I2 r1 r2 r q2) fun _ s3 ⟨H3, I3, q3⟩ => ?_))))
  exact wpAny_release ⟨σ, H3, I3, q3⟩
/-- target = value -/
def tAsg (te : TE) (g : TG) : TS := fun D σ H => te σ H fun x H1 => g x σ H1 D.nx
theorem ps_asg {tg e : Expr} {te : TE} {g : TG} (he : PE X e te) (hg : PG X tg g) (hs : swapsWithSole [tg] e pos.line X.env = pure false := by rfl) (hw : swappedStores [tg] e X.env = pure none := by rfl)
    (h1 : (assignEach [tg] X.env).map (·.2) = [assign tg X.env] := by rfl) : PS X (.Assign [tg] e pos) (tAsg te g) := by
  intro pins s σ H D I h
  refine wpAny_Assign_stores (thn (he pins s σ H _ I h) fun v s1 ⟨x, H1, I1, r1, q1⟩ => ?_) hs hw
  rw [h1]
  exact thn (hg pins s1 σ H1 x v _ I1 r1 q1) fun _ s2 q => q
/-- name = value -/
theorem ps_set {i : Nat} {x : Str} {e : Expr} {te : TE} {pos' : Pos} (hN : X.N.Nodup) (hi : X.N[i]? = some x) (hx : Loc X.env.scope x) (he : PE X e te) (hs : swapsWith e (some (.Name x pos')) pos.line X.env = pure false := by rfl) (hf : X.fn x = true ∨ X.env.scope.names.lookup x = some .local := by first | exact .inl rfl | exact .inr rfl | assumption) :
    PS X (.Assign [.Name x pos'] e pos) (tAsg te (gName i)) := by
  intro pins s σ H D I h
  refine wpAny_Assign_Name (thn (he pins s σ H _ I h) fun v s1 ⟨y, H1, I1, r1, q1⟩ => ?_) hs
  exact store_ok I1 hN hi hx r1 (fun s2 I2 => ⟨_, H1, I2, q1⟩) hf
/-- a, b = x, y with plain local names: stored from the right; the pair itself is not tracked (the opening rows as in PyProof/Rows/TupAssign.lean:23) -/
def tPar (i j : Nat) (ta : TA) : TS := fun D σ H => ta σ H fun vs H1 => ∃ v w, vs = [v, w] ∧ D.nx ((σ.set i (some v)).set j (some w)) H1
theorem ps_par {i j : Nat} {x y : Str} {a b : Expr} {ta : TA} {px py pt : Pos} {kt k2 pt2} (hc : X.calm = true) (hN : X.N.Nodup) (hi : X.N[i]? = some x) (hj : X.N[j]? = some y) (hij : i ≠ j)
    (hx : X.env.scope.names.lookup x = some .local) (hy : X.env.scope.names.lookup y = some .local) (ha : PA X [a, b] ta)
    (hw : swappedStores [.Tuple [.Name x px, .Name y py] kt pt] (.Tuple [a, b] k2 pt2) X.env = pure (some [x, y]))
    (hs : swapsWithSole [.Tuple [.Name x px, .Name y py] kt pt] (.Tuple [a, b] k2 pt2) pos.line X.env = pure false := by rfl) :
    PS X (.Assign [.Tuple [.Name x px, .Name y py] kt pt] (.Tuple [a, b] k2 pt2) pos) (tPar i j ta) := by
  intro pins s σ H D I h
  rw [exec_Assign_arm]
  refine wpAny_bind (wpAny_standAt ?_)
  rw [hs]
  refine wpAny_bind (wpAny_pure ?_)
  rw [if_neg (by decide)]
  refine wpAny_bind (Tuple_ (thn (ha _ pins s σ H _ I h) fun us s1 ⟨vs, H1, I1, r1, q1⟩ => ?_))
  obtain ⟨v, w, e1, q1⟩ := q1
  subst e1
  obtain ⟨u1, u2, rfl, rv, rw'⟩ : ∃ u1 u2, us = [u1, u2] ∧ RelV v u1 ∧ RelV w u2 := by
    cases r1 with
    | cons p q =>
      cases q with
      | cons p' q' =>
        cases q'
        exact ⟨_, _, rfl, p, p'⟩
  refine wpAny_newObj_type ?_ (by show 2 ≤ sizeLine; decide)
  have I2 : Inv X pins σ H1 { s1 with heap := s1.heap.push { cls := .type "tuple", data := .seq [u1, u2].toArray } } := I1.kept (t' := s1.toks) fun b o e => Heap.get?_push_of_some _ e
  rw [hw]
  refine wpAny_bind (wpAny_pure ?_)
  show wpAny (model X.prog X.w) X.A (do rule "assign.swapped-stores"; let items ← unpackItems (.ref s1.heap.objs.size) 2 none; assignInOrder [fun v => bindName X.env y v, fun v => bindName X.env x v] items.reverse; pure Flow.next) _ _ _
  refine wpAny_bind (wpAny_rule (wpAny_bind (unpackItems_tuple (items := #[u1, u2]) (I.ok.hd hc) (IsTup.new s1.heap _) fun h' hx' => ?_)))
  have I3 := I2.kept (h' := h') (t' := s1.toks) fun b o e => hx' b o (Nat.ne_of_lt (Heap.lt_size e)) e
  show wpAny _ _ (assignInOrder [fun v => bindName X.env y v, fun v => bindName X.env x v] [u2, u1] >>= fun _ => pure Flow.next) _ _ _
  refine wpAny_bind (assignInOrder_cons (wpAny_bindName (store_ok I3 hN hj (.inl hy) rw' (fun s2 I4 => ?_) (.inr hy))))
  refine assignInOrder_cons (wpAny_bindName (store_ok I4 hN hi (.inl hx) rv (fun s3 I5 => assignInOrder_nil (wpAny_pure ?_)) (.inr hx)))
  rw [List.set_comm _ _ (Ne.symm hij)] at I5
  exact ⟨_, H1, I5, q1⟩
end

/-! ### while -/
section
variable {X : Cx} {pos : Pos}
end

/-! ### what a loop or a comprehension walks -/
/-- at turn i: it yields x (the heap may grow), or it stops -/
structure It where
  go : Nat → Hp → Prop
  yld : Nat → Hp → V → Hp → Prop
  stop : Nat → Hp → Prop
/-- the iterator's own objects may turn: they are not the frame's, not pinned, younger than the entry (or a comprehension's own) -/
def FpOk (X : Cx) (pins : List (Addr × Obj)) (H : Hp) (b : Addr) : Prop :=
  H b = none ∧ b ≠ X.env.locals ∧ b ∉ X.fs ∧ (b ∈ X.ex ∨ X.s₀.heap.objs.size ≤ b) ∧ (∀ x c, X.env.cells.lookup x = some c → c ≠ b) ∧ ∀ p ∈ X.pn ++ pins, p.1 ≠ b
theorem Inv.fpOk {X : Cx} {pins : List (Addr × Obj)} {σ : St} {H H' : Hp} {s : Shared} {b : Addr} (I : Inv X pins σ H s) (hb : s.heap.objs.size ≤ b) (hn : H' b = none) : FpOk X pins H' b := by
  refine ⟨hn, Nat.ne_of_gt (Nat.lt_of_lt_of_le I.lt hb), I.nofs hb, .inr (Nat.le_trans I.sz hb), fun x c e z => ?_, fun p hp z => ?_⟩
  · obtain ⟨v, q⟩ := I.cell x c e
    exact absurd (Nat.lt_of_lt_of_le q.lt (by rw [z]; exact hb)) (Nat.lt_irrefl _)
  · exact absurd (Nat.lt_of_lt_of_le (Heap.lt_size (I.pin p hp).1) (by rw [z]; exact hb)) (Nat.lt_irrefl _)
structure Turn (P : Program) (w : World) (K : PySem.W.Frag) (tg : Expr) (J : It) (fp : List Addr) (it : Addr) (tn : Nat → Heap → Prop) : Prop where
  mem : it ∈ fp
  obj : ∀ i h, tn i h → ∀ b ∈ fp, ∃ o, h.get? b = some o ∧ ∀ v, o.data ≠ .cell v
  keep : ∀ i h h', tn i h → (∀ b ∈ fp, ∀ o, h.get? b = some o → h'.get? b = some o) → tn i h'
  item : ∀ (X : Cx), X.prog = P → X.w = w → X.K = K → X.calm = true → ∀ (i : Nat) (pins : List (Addr × Obj)) (s : Shared) (σ : St) (H : Hp) (E : Value → Shared → Prop), Inv X pins σ H s → (∀ b ∈ fp, FpOk X pins H b) → tn i s.heap → J.go i H →
    wpAny (model P w) X.A (pyNext (.ref it)) (fun r s1 => ∃ u, r = some u ∧
      wpAny (model P w) X.A (letOwnedTupleGo tg (.ref it) u) (fun _ s2 => ∃ x H', Inv X pins σ H' s2 ∧ RelV x u ∧ J.yld i H x H' ∧ tn (i + 1) s2.heap ∧ ∀ b ∈ fp, H' b = none) E s1) E s
  done : ∀ (X : Cx), X.prog = P → X.w = w → X.K = K → X.calm = true → ∀ (i : Nat) (pins : List (Addr × Obj)) (s : Shared) (σ : St) (H : Hp) (E : Value → Shared → Prop), Inv X pins σ H s → (∀ b ∈ fp, FpOk X pins H b) → tn i s.heap → J.stop i H →
    wpAny (model P w) X.A (pyNext (.ref it)) (fun r s1 => r = none ∧ Inv X pins σ H s1) E s
  self : ∀ (A : Around) (i : Nat) (s : Shared) (Q : Value → Shared → Prop) (E : Value → Shared → Prop), tn i s.heap → Q (.ref it) s → wpAny (model P w) A (pyIter (.ref it)) Q E s
abbrev TI := St → Hp → (It → Hp → Prop) → Prop
/-- an iterator has come -/
def PIE (X : Cx) (pins : List (Addr × Obj)) (σ : St) (tg : Expr) (R : It → Hp → Prop) (itv : Value) (s2 : Shared) : Prop :=
  ∃ (it : Addr) (fp : List Addr) (tn : Nat → Heap → Prop) (J : It) (H' : Hp), itv = .ref it ∧ Inv X pins σ H' s2 ∧ Turn X.prog X.w X.K tg J fp it tn ∧ tn 0 s2.heap ∧ (∀ b ∈ fp, FpOk X pins H' b) ∧ R J H'
def PI (X : Cx) (tg iter : Expr) (wi : TI) : Prop :=
  ∀ (pins : List (Addr × Obj)) (s : Shared) (σ : St) (H : Hp) (R : It → Hp → Prop), Inv X pins σ H s → wi σ H R →
    wpAny (model X.prog X.w) X.A (eval iter X.env) (fun v s1 => wpAny (model X.prog X.w) X.A (pyIter v) (PIE X pins σ tg R) X.xe s1) X.xe s

/-- the step ahead of the store is nothing for an iterator that keeps no tuple -/
theorem go_of {M : Model} {A : Around} {E : Value → Shared → Prop} {s : Shared} {tg : Expr} {it : Addr} {u : Value} {o : Obj} {n : String} {vs : Array Value} {Q : Unit → Shared → Prop} (ho : s.heap.get? it = some o) (hc : o.cls = .type n) (hd : o.data = .fields vs)
    (hn : ["enumerate", "zip", "dict_itemiterator", "dict_reverseitemiterator", "odict_iterator", "itertools.zip_longest", "itertools.pairwise"].contains n = false) (hQ : Q () s) : wpAny M A (letOwnedTupleGo tg (.ref it) u) Q E s := by
  unfold letOwnedTupleGo
  cases tg <;> first
    | exact wpAny_pure hQ
    | (cases u <;> first
        | exact wpAny_pure hQ
        | (refine wpAny_bind (wpAny_load ho ?_)
           rw [hc, hd]
           show wpAny M A (if (["enumerate", "zip", "dict_itemiterator", "dict_reverseitemiterator", "odict_iterator", "itertools.zip_longest", "itertools.pairwise"].contains n && vs[0]? == some (rawInt _)) = true then _ else _) Q E s
           rw [if_neg (by intro h; rw [hn, Bool.false_and] at h; cases h)]
           exact wpAny_pure hQ))

/-- the list at a, as it stands at each turn (a loop may append to it) -/
def Itl (K : PySem.W.Frag) (a : Addr) : It :=
  ⟨fun i H => ∃ xs x, SqL K H a xs ∧ xs[i]? = some x, fun i H x H' => H' = H ∧ ∀ xs, SqL K H a xs → xs[i]? = some x, fun i H => ∃ xs, SqL K H a xs ∧ xs.length ≤ i⟩
def Itt (K : PySem.W.Frag) (a : Addr) : It :=
  ⟨fun i H => ∃ xs x, SqT K H a xs ∧ xs[i]? = some x, fun i H x H' => H' = H ∧ ∀ xs, SqT K H a xs → xs[i]? = some x, fun i H => ∃ xs, SqT K H a xs ∧ xs.length ≤ i⟩
/-- lo, lo + 1, .. (n of them) -/
def Itr (lo : Int) (n : Nat) : It := ⟨fun i _ => i < n, fun i H x H' => H' = H ∧ x = .int (lo + i), fun i _ => n ≤ i⟩
theorem turn_list {P : Program} {w : World} {K : PySem.W.Frag} {tg : Expr} (a it : Addr) : Turn P w K tg (Itl K a) [it] it (fun i h => h.IsListIter it a i) where
  mem := by simp
  obj := fun i h st b hb => by
    have e : b = it := by simpa using hb
    subst e
    obtain ⟨o, e, c, d⟩ := st
    exact ⟨o, e, fun v z => by rw [d] at z; cases z⟩
  keep := fun i h h' st k => st.at fun o e => k it (by simp) o e
  item := by
    intro X hP hw hK hc i pins s σ H E I hf st hg
    subst hP hw hK
    obtain ⟨xs, x, hq, hx⟩ := hg
    obtain ⟨its, rv, p, hz⟩ := I.list hq
    obtain ⟨u, hu, ru⟩ := rv.get hx
    obtain ⟨f0, f1, f2, f3, f4, f5⟩ := hf it (by simp)
    refine wpAny_pyNext_list_item st p.isList (x := u) (by simpa using hu) fun h' st' sb => ?_
    have I1 : Inv X pins σ H { s with heap := h' } := I.turned (t' := s.toks) (fun b o hb e => (sb.2 b hb).trans e) f0 f1 f3 f4 f5
    obtain ⟨o, e, c, d⟩ := id st'
    exact ⟨u, rfl, go_of (s := { s with heap := h' }) e c d (by decide) ⟨x, H, I1, ru, ⟨rfl, fun ys hy => by rw [I.list_inj hy hq]; exact hx⟩, st', fun b hb => (hf b hb).1⟩⟩
  done := by
    intro X hP hw hK hc i pins s σ H E I hf st hg
    subst hP hw hK
    obtain ⟨xs, hq, hx⟩ := hg
    obtain ⟨its, rv, p, hz⟩ := I.list hq
    obtain ⟨f0, f1, f2, f3, f4, f5⟩ := hf it (by simp)
    have hl := rv.length
    exact wpAny_pyNext_list_end (I.ok.hd hc) st p.isList (by simp; omega) fun h' eb => ⟨rfl, I.turned (t' := s.toks) (fun b o hb e => eb b o hb e) f0 f1 f3 f4 f5⟩
  self := fun _ _ _ _ _ st h => wpAny_pyIter_listiter st h
theorem turn_tuple {P : Program} {w : World} {K : PySem.W.Frag} {tg : Expr} (a it : Addr) : Turn P w K tg (Itt K a) [it] it (fun i h => h.IsTupleIter it a i) where
  mem := by simp
  obj := fun i h st b hb => by
    have e : b = it := by simpa using hb
    subst e
    obtain ⟨o, e, c, d⟩ := st
    exact ⟨o, e, fun v z => by rw [d] at z; cases z⟩
  keep := fun i h h' st k => st.at fun o e => k it (by simp) o e
  item := by
    intro X hP hw hK hc i pins s σ H E I hf st hg
    subst hP hw hK
    obtain ⟨xs, x, hq, hx⟩ := hg
    obtain ⟨its, rv, p, hz⟩ := I.tuple hq
    obtain ⟨u, hu, ru⟩ := rv.get hx
    obtain ⟨f0, f1, f2, f3, f4, f5⟩ := hf it (by simp)
    refine wpAny_pyNext_tuple_item st (show s.heap.IsTuple a its.toArray from p) (x := u) (by simpa using hu) fun h' st' sb => ?_
    have I1 : Inv X pins σ H { s with heap := h' } := I.turned (t' := s.toks) (fun b o hb e => (sb.2 b hb).trans e) f0 f1 f3 f4 f5
    obtain ⟨o, e, c, d⟩ := id st'
    exact ⟨u, rfl, go_of (s := { s with heap := h' }) e c d (by decide) ⟨x, H, I1, ru, ⟨rfl, fun ys hy => by rw [I.tuple_inj hy hq]; exact hx⟩, st', fun b hb => (hf b hb).1⟩⟩
  done := by
    intro X hP hw hK hc i pins s σ H E I hf st hg
    subst hP hw hK
    obtain ⟨xs, hq, hx⟩ := hg
    obtain ⟨its, rv, p, hz⟩ := I.tuple hq
    obtain ⟨f0, f1, f2, f3, f4, f5⟩ := hf it (by simp)
    have hl := rv.length
    exact wpAny_pyNext_tuple_end (I.ok.hd hc) st (show s.heap.IsTuple a its.toArray from p) (by simp; omega) fun h' eb => ⟨rfl, I.turned (t' := s.toks) (fun b o hb e => eb b o hb e) f0 f1 f3 f4 f5⟩
  self := fun _ _ _ _ _ st h => wpAny_pyIter_tupleiter st h
theorem turn_range {P : Program} {w : World} {K : PySem.W.Frag} {tg : Expr} (it : Addr) (lo : Int) (n : Nat) : Turn P w K tg (Itr lo n) [it] it (fun i h => IsRangeIter h it (lo + (i : Nat) * 1) ((n : Int) - (i : Nat)) 1) where
  mem := by simp
  obj := fun i h st b hb => by
    have e : b = it := by simpa using hb
    subst e
    exact ⟨_, st, fun v z => by
      have z' : Data.fields _ = Data.cell v := z
      cases z'⟩
  keep := fun i h h' st k => k it (by simp) _ st
  item := by
    intro X hP hw hK hc i pins s σ H E I hf st hg
    subst hP hw hK
    obtain ⟨f0, f1, f2, f3, f4, f5⟩ := hf it (by simp)
    have W := Walks.range (prog := X.prog) (w := X.w) (I.ok.hd hc) it lo 1 n
    refine W.item i s _ _ hg st fun v h' tk hv st' kk => ?_
    obtain ⟨t, rfl⟩ := hv
    have I1 : Inv X pins σ H { s with heap := h', toks := tk } := I.turned (fun b o hb e => kk b o (by simpa using hb) e) f0 f1 f3 f4 f5
    refine ⟨_, rfl, go_of (s := { s with heap := h', toks := tk }) (n := "range_iterator") st' rfl rfl (by decide) ⟨.int (lo + i), H, I1, ⟨t, ?_⟩, ⟨rfl, rfl⟩, st', fun b hb => (hf b hb).1⟩⟩
    rw [Int.mul_one]
  done := by
    intro X hP hw hK hc i pins s σ H E I hf st hg
    subst hP hw hK
    obtain ⟨f0, f1, f2, f3, f4, f5⟩ := hf it (by simp)
    exact wpAny_pyNext_range_end (I.ok.hd hc) st (by have : n ≤ i := hg; omega) fun h' eb => ⟨rfl, I.turned (t' := s.toks) (fun b o hb e => eb b o hb e) f0 f1 f3 f4 f5⟩
  self := fun _ _ _ _ _ st h => wpAny_pyIter_rangeiter st h
end L2

namespace L2
open PySem PySem.Spec PyProof.Rows
section
variable {X : Cx} {tg : Expr}
def iList (K : PySem.W.Frag) (tl : TE) : TI := fun σ H R => tl σ H fun x H1 => ∃ a, x = .ref a ∧ (∃ xs, SqL K H1 a xs) ∧ R (Itl K a) H1
def iTup (K : PySem.W.Frag) (tl : TE) : TI := fun σ H R => tl σ H fun x H1 => ∃ a, x = .ref a ∧ (∃ xs, SqT K H1 a xs) ∧ R (Itt K a) H1
theorem pi_list {l : Expr} {tl : TE} (hl : PE X l tl) : PI X tg l (iList X.K tl) := by
  intro pins s σ H R I h
  refine thn (hl pins s σ H _ I h) fun v s1 ⟨x, H1, I1, r1, q1⟩ => ?_
  obtain ⟨a, e, ⟨xs, hq⟩, q⟩ := q1
  subst e
  cases r1
  obtain ⟨its, rv, p, hz⟩ := I1.list hq
  refine wpAny_pyIter_list p.isList ?_
  refine ⟨s1.heap.objs.size, [s1.heap.objs.size], _, _, H1, rfl, I1.kept (t' := s1.toks) fun b o e => Heap.get?_push_of_some _ e, turn_list a _, ⟨_, Heap.get?_push_size _ rfl, rfl, rfl⟩, fun b hb => ?_, q⟩
  have e : b = s1.heap.objs.size := by simpa using hb
  subst e
  exact I1.fpOk (Nat.le_refl _) (I1.hok.fresh (Nat.le_refl _))
theorem pi_tup {l : Expr} {tl : TE} (hl : PE X l tl) : PI X tg l (iTup X.K tl) := by
  intro pins s σ H R I h
  refine thn (hl pins s σ H _ I h) fun v s1 ⟨x, H1, I1, r1, q1⟩ => ?_
  obtain ⟨a, e, ⟨xs, hq⟩, q⟩ := q1
  subst e
  cases r1
  obtain ⟨its, rv, p, hz⟩ := I1.tuple hq
  refine wpAny_pyIter_tuple (show s1.heap.IsTuple a its.toArray from p) ?_
  refine ⟨s1.heap.objs.size, [s1.heap.objs.size], _, _, H1, rfl, I1.kept (t' := s1.toks) fun b o e => Heap.get?_push_of_some _ e, turn_tuple a _, ⟨_, Heap.get?_push_size _ rfl, rfl, rfl⟩, fun b hb => ?_, q⟩
  have e : b = s1.heap.objs.size := by simpa using hb
  subst e
  exact I1.fpOk (Nat.le_refl _) (I1.hok.fresh (Nat.le_refl _))
/-- a range object just made, walked -/
theorem range_it {pins : List (Addr × Obj)} {σ : St} {H : Hp} {s : Shared} {R : It → Hp → Prop} {E : Value → Shared → Prop} {lo hi : Int} {t u v : Tok} {tk : Nat} (I : Inv X pins σ H s) (h1 : -(2 ^ 62) ≤ lo) (h2 : lo < 2 ^ 62) (h3 : -(2 ^ 62) ≤ hi) (h4 : hi < 2 ^ 62)
    (q : R (Itr lo (hi - lo).toNat) H) : wpAny (model X.prog X.w) X.A (pyIter (.ref s.heap.objs.size)) (PIE X pins σ tg R) E { s with heap := s.heap.push { cls := .type "range", data := .fields #[.int lo t, .int hi u, .int 1 v] }, toks := tk } := by
  refine wpAny_pyIter_range (IsRange.new ..) (small_one h1 h2 h3 h4) ?_
  have I1 : Inv X pins σ H { s with heap := s.heap.push { cls := .type "range", data := .fields #[.int lo t, .int hi u, .int 1 v] }, toks := tk } := I.kept fun b o e => Heap.get?_push_of_some _ e
  refine ⟨(s.heap.push { cls := .type "range", data := .fields #[.int lo t, .int hi u, .int 1 v] }).objs.size, [(s.heap.push { cls := .type "range", data := .fields #[.int lo t, .int hi u, .int 1 v] }).objs.size], _, _, H, rfl,
    I1.kept (t' := tk) fun b o e => Heap.get?_push_of_some _ e, turn_range _ lo (hi - lo).toNat, ?_, fun b hb => ?_, q⟩
  · have e1 : lo + ((0 : Nat) : Int) * 1 = lo := by simp
    have e2 : (((hi - lo).toNat : Nat) : Int) - ((0 : Nat) : Int) = Builtin.Range.rangeSize lo hi 1 := by rw [rangeSize_one]; split <;> omega
    show IsRangeIter _ _ (lo + ((0 : Nat) : Int) * 1) ((((hi - lo).toNat : Nat) : Int) - ((0 : Nat) : Int)) 1
    rw [e1, e2]
    exact Heap.get?_push_size _ rfl
  · have e : b = (s.heap.push { cls := .type "range", data := .fields #[.int lo t, .int hi u, .int 1 v] }).objs.size := by simpa using hb
    subst e
    exact I1.fpOk (Nat.le_refl _) (I1.hok.fresh (Nat.le_refl _))
def iRng1 (ta : TA) : TI := fun σ H R => ta σ H fun vs H1 => ∃ j : Int, vs = [.int j] ∧ -(2 ^ 62) ≤ j ∧ j < 2 ^ 62 ∧ R (Itr 0 j.toNat) H1
theorem pi_range1 {a : Expr} {ta : TA} {p pos : Pos} (hg : Gl X "range") (hm : X.mg "range" = none) (ha : PA X [a] ta) (hs : starEach [a] X.env = [(false, eval a X.env)] := by rfl) : PI X tg (.Call (.Name "range" p) [a] [] pos) (iRng1 ta) := by
  intro pins s σ H R I h
  refine Call_ (ld_blt I hg hm boot_range (PyProof.Rows.callWith_type1 (thn (ha pos pins s σ H _ I h) fun us s1 ⟨vs, H1, I1, r1, q1⟩ => ?_) hs rfl))
  obtain ⟨j, e, q1, q2, q⟩ := q1
  subst e
  cases r1 with
  | cons r rr =>
    cases rr
    obtain ⟨t, rfl⟩ := r
    exact call_range_1 (range_it I1 (by omega) (by omega) q1 q2 (by simpa using q))
/-! ### for -/
/-- W: the invariant by the turn and a measure; N: what the body is to reach -/
def tFor (wi : TI) (g : TG) (tb : TS) : TS := fun D σ H => wi σ H fun J H1 => ∃ W : Nat → Nat → St → Hp → Prop, (∃ m, W 0 m σ H1) ∧ ∀ i m σ H, W i m σ H →
  (J.stop i H ∧ D.nx σ H) ∨ (J.go i H ∧ ∃ N : St → Hp → Prop, (∀ σ' H', N σ' H' → ∃ m', m' < m ∧ W (i + 1) m' σ' H') ∧ ∀ x H', J.yld i H x H' → g x σ H' fun σ2 H2 => tb { D with nx := N, ct := N, bk := D.nx } σ2 H2)
/-- the records at fp as they stand -/
def pinsAt (fp : List Addr) (h : Heap) : List (Addr × Obj) := fp.filterMap fun b => (h.get? b).map fun o => (b, o)
theorem mem_pinsAt {fp : List Addr} {h : Heap} {b : Addr} {o : Obj} (hb : b ∈ fp) (e : h.get? b = some o) : (b, o) ∈ pinsAt fp h := List.mem_filterMap.mpr ⟨b, hb, by rw [e]; rfl⟩
theorem of_pinsAt {fp : List Addr} {h : Heap} {p : Addr × Obj} (hp : p ∈ pinsAt fp h) : p.1 ∈ fp ∧ h.get? p.1 = some p.2 := by
  obtain ⟨b, hb, e⟩ := List.mem_filterMap.mp hp
  cases q : h.get? b with
  | none => rw [q] at e; cases e
  | some o =>
    rw [q] at e
    have e' : (b, o) = p := Option.some.inj e
    subst e'
    exact ⟨hb, q⟩
theorem Inv.pinned {pins : List (Addr × Obj)} {σ : St} {H : Hp} {s : Shared} {fp : List Addr} (I : Inv X pins σ H s) (hf : ∀ b ∈ fp, FpOk X pins H b) (ho : ∀ b ∈ fp, ∃ o, s.heap.get? b = some o ∧ ∀ v, o.data ≠ .cell v) : Inv X (pins ++ pinsAt fp s.heap) σ H s :=
  I.pins_of fun p hp => (List.mem_append.mp hp).elim (fun z => I.pin p (List.mem_append_right _ z)) fun z => by
    obtain ⟨hb, e⟩ := of_pinsAt z
    obtain ⟨f0, f1, f2, _⟩ := hf p.1 hb
    obtain ⟨o, e', d⟩ := ho p.1 hb
    rw [e] at e'; cases e'
    exact ⟨e, f0, f1, f2, d⟩
theorem Inv.unpinned {pins pl : List (Addr × Obj)} {σ : St} {H : Hp} {s : Shared} (I : Inv X (pins ++ pl) σ H s) : Inv X pins σ H s := I.pins_of fun p hp => I.pin p (List.mem_append_right _ (List.mem_append_left _ hp))
theorem ps_for {iter : Expr} {body : List Stmt} {wi : TI} {g : TG} {tb : TS} {pos : Pos} (hp : PassesOwn (model X.prog X.w) X.A X.env X.xe) (hc : X.calm = true) (hi : PI X tg iter wi) (hg : PG X tg g) (hb : PSs X body tb)
    (hs : ∀ x, foldedSetIterable iter X.env x = pure x := by intro _; rfl) : PS X (.For tg iter body [] pos) (tFor wi g tb) := by
  intro pins s σ H D I h
  refine wpAny_For (thn (hi pins s σ H _ I h) fun v s1 h1 => thn h1 fun itv s2 h2 => ?_) hs
  obtain ⟨it, fp, tn, J, H2, e, I2, T, st2, f2, W, ⟨m0, w0⟩, turn⟩ := h2
  subst e
  -- what stays true of the iterator's objects through the loop
  have stat : ∀ {H' : Hp}, (∀ b ∈ fp, H' b = none) → ∀ b ∈ fp, FpOk X pins H' b := fun hn b hb => ⟨hn b hb, (f2 b hb).2⟩
  refine codeAny_forLoop_any (fun n s' => ∃ i σ' H', Inv X pins σ' H' s' ∧ tn i s'.heap ∧ (∀ b ∈ fp, H' b = none) ∧ W i n σ' H') ?_ m0 ⟨0, σ, H2, I2, st2, fun b hb => (f2 b hb).1, w0⟩
  rintro n s3 ⟨i, σ3, H3, I3, st3, fr3, w3⟩
  rcases turn i n σ3 H3 w3 with ⟨stop, qn⟩ | ⟨go, N, hN, step⟩
  · refine wpAny_passesOwn hp (thn (T.done X rfl rfl rfl hc i pins s3 σ3 H3 X.xe I3 (stat fr3) st3 stop) fun r s4 ⟨hr, I4⟩ => ?_)
    subst hr
    exact wpAny_execs_nil ⟨σ3, H3, I4, qn⟩
  · refine wpAny_passesOwn hp (thn (T.item X rfl rfl rfl hc i pins s3 σ3 H3 X.xe I3 (stat fr3) st3 go) fun r s4 ⟨u, hr, h4⟩ => ?_)
    subst hr
    refine wpAny_passesOwn hp (thn h4 fun _ s5 ⟨x, H5, I5, r5, y5, st5, fr5⟩ => ?_)
    have I5' := I5.pinned (stat fr5) (T.obj _ _ st5)
    refine wpAny_passesOwn hp (thn (hg _ s5 σ3 H5 x u _ I5' r5 (step x H5 y5)) fun _ s6 ⟨σ6, H6, I6, q6⟩ => ?_)
    refine wpAny_passesOwn hp (thn (hb _ s6 σ6 H6 _ I6 q6) fun f s7 q7 => ?_)
    have again : ∀ {σ7 : St} {H7 : Hp}, Inv X (pins ++ pinsAt fp s5.heap) σ7 H7 s7 → N σ7 H7 → ∃ m, m < n ∧ ∃ i σ' H', Inv X pins σ' H' s7 ∧ tn i s7.heap ∧ (∀ b ∈ fp, H' b = none) ∧ W i m σ' H' := fun {σ7 H7} I7 n7 => by
      obtain ⟨m', hm, w7⟩ := hN σ7 H7 n7
      refine ⟨m', hm, i + 1, σ7, H7, I7.unpinned, T.keep _ _ _ st5 fun b hb o e => (I7.pin (b, o) (List.mem_append_right _ (List.mem_append_right _ (mem_pinsAt hb e)))).1, fun b hb => ?_, w7⟩
      obtain ⟨o, e, d⟩ := T.obj _ _ st5 b hb
      exact (I7.pin (b, o) (List.mem_append_right _ (List.mem_append_right _ (mem_pinsAt hb e)))).2.1
    cases f with
    | next => obtain ⟨σ7, H7, I7, n7⟩ := q7; exact again I7 n7
    | cont => obtain ⟨σ7, H7, I7, n7⟩ := q7; exact again I7 n7
    | brk => obtain ⟨σ7, H7, I7, q7⟩ := q7; exact ⟨σ7, H7, I7.unpinned, q7⟩
    | ret v => obtain ⟨x7, σ7, H7, I7, r7, q7⟩ := q7; exact ⟨x7, σ7, H7, I7.unpinned, r7, q7⟩
end

/-! ### the forms one uses -/
/-- over a list that the body leaves as it is -/
theorem for_list {K : PySem.W.Frag} {a : Addr} {xs : List V} {g : TG} {tb : TS} {D : Ends} {σ : St} {H : Hp} (Pv : Nat → St → Hp → Prop) (h0 : Pv 0 σ H) (hl : ∀ i σ H, i ≤ xs.length → Pv i σ H → SqL K H a xs)
    (hs : ∀ i x σ H, xs[i]? = some x → Pv i σ H → g x σ H fun σ2 H2 => tb { D with nx := Pv (i + 1), ct := Pv (i + 1), bk := D.nx } σ2 H2) (hd : ∀ σ H, Pv xs.length σ H → D.nx σ H) :
    ∃ W : Nat → Nat → St → Hp → Prop, (∃ m, W 0 m σ H) ∧ ∀ i m σ H, W i m σ H →
      ((Itl K a).stop i H ∧ D.nx σ H) ∨ ((Itl K a).go i H ∧ ∃ N : St → Hp → Prop, (∀ σ' H', N σ' H' → ∃ m', m' < m ∧ W (i + 1) m' σ' H') ∧ ∀ x H', (Itl K a).yld i H x H' → g x σ H' fun σ2 H2 => tb { D with nx := N, ct := N, bk := D.nx } σ2 H2) := by
  refine ⟨fun i m σ H => m = xs.length - i ∧ i ≤ xs.length ∧ Pv i σ H, ⟨xs.length, by simp, Nat.zero_le _, h0⟩, ?_⟩
  rintro i m σ H ⟨rfl, hi, p⟩
  have q := hl i σ H hi p
  by_cases hlt : i < xs.length
  · refine .inr ⟨⟨xs, xs[i], q, by simp [hlt]⟩, Pv (i + 1), fun σ' H' p' => ⟨xs.length - (i + 1), by omega, rfl, hlt, p'⟩, fun x H' y => ?_⟩
    obtain ⟨e, y⟩ := y
    subst e
    exact hs i x σ _ (y xs q) p
  · have e : i = xs.length := by omega
    subst e
    exact .inl ⟨⟨xs, q, Nat.le_refl _⟩, hd σ H p⟩
theorem for_tup {K : PySem.W.Frag} {a : Addr} {xs : List V} {g : TG} {tb : TS} {D : Ends} {σ : St} {H : Hp} (Pv : Nat → St → Hp → Prop) (h0 : Pv 0 σ H) (hl : ∀ i σ H, i ≤ xs.length → Pv i σ H → SqT K H a xs)
    (hs : ∀ i x σ H, xs[i]? = some x → Pv i σ H → g x σ H fun σ2 H2 => tb { D with nx := Pv (i + 1), ct := Pv (i + 1), bk := D.nx } σ2 H2) (hd : ∀ σ H, Pv xs.length σ H → D.nx σ H) :
    ∃ W : Nat → Nat → St → Hp → Prop, (∃ m, W 0 m σ H) ∧ ∀ i m σ H, W i m σ H →
      ((Itt K a).stop i H ∧ D.nx σ H) ∨ ((Itt K a).go i H ∧ ∃ N : St → Hp → Prop, (∀ σ' H', N σ' H' → ∃ m', m' < m ∧ W (i + 1) m' σ' H') ∧ ∀ x H', (Itt K a).yld i H x H' → g x σ H' fun σ2 H2 => tb { D with nx := N, ct := N, bk := D.nx } σ2 H2) := by
  refine ⟨fun i m σ H => m = xs.length - i ∧ i ≤ xs.length ∧ Pv i σ H, ⟨xs.length, by simp, Nat.zero_le _, h0⟩, ?_⟩
  rintro i m σ H ⟨rfl, hi, p⟩
  have q := hl i σ H hi p
  by_cases hlt : i < xs.length
  · refine .inr ⟨⟨xs, xs[i], q, by simp [hlt]⟩, Pv (i + 1), fun σ' H' p' => ⟨xs.length - (i + 1), by omega, rfl, hlt, p'⟩, fun x H' y => ?_⟩
    obtain ⟨e, y⟩ := y
    subst e
    exact hs i x σ _ (y xs q) p
  · have e : i = xs.length := by omega
    subst e
    exact .inl ⟨⟨xs, q, Nat.le_refl _⟩, hd σ H p⟩
theorem for_range {lo : Int} {n : Nat} {g : TG} {tb : TS} {D : Ends} {σ : St} {H : Hp} (Pv : Nat → St → Hp → Prop) (h0 : Pv 0 σ H)
    (hs : ∀ i σ H, i < n → Pv i σ H → g (.int (lo + i)) σ H fun σ2 H2 => tb { D with nx := Pv (i + 1), ct := Pv (i + 1), bk := D.nx } σ2 H2) (hd : ∀ σ H, Pv n σ H → D.nx σ H) :
    ∃ W : Nat → Nat → St → Hp → Prop, (∃ m, W 0 m σ H) ∧ ∀ i m σ H, W i m σ H →
      ((Itr lo n).stop i H ∧ D.nx σ H) ∨ ((Itr lo n).go i H ∧ ∃ N : St → Hp → Prop, (∀ σ' H', N σ' H' → ∃ m', m' < m ∧ W (i + 1) m' σ' H') ∧ ∀ x H', (Itr lo n).yld i H x H' → g x σ H' fun σ2 H2 => tb { D with nx := N, ct := N, bk := D.nx } σ2 H2) := by
  refine ⟨fun i m σ H => m = n - i ∧ i ≤ n ∧ Pv i σ H, ⟨n, by simp, Nat.zero_le _, h0⟩, ?_⟩
  rintro i m σ H ⟨rfl, hi, p⟩
  by_cases hlt : i < n
  · refine .inr ⟨hlt, Pv (i + 1), fun σ' H' p' => ⟨n - (i + 1), by omega, rfl, hlt, p'⟩, fun x H' y => ?_⟩
    obtain ⟨e, y⟩ := y
    subst e y
    exact hs i σ _ hlt p
  · have e : i = n := by omega
    subst e
    exact .inl ⟨Nat.le_refl _, hd σ H p⟩
end L2

namespace L2
open PySem PySem.Spec PyProof.Rows

abbrev R2 := V → V → Hp → VK → Prop
/-- a two-place operation on values: f is binaryOp op, inplaceOp op or compareOp op -/
def OpR (X : Cx) (f : Value → Value → Sem Value) (r : R2) : Prop :=
  ∀ (pins : List (Addr × Obj)) (s : Shared) (σ : St) (H : Hp) (x y : V) (v u : Value) (Q : VK), Inv X pins σ H s → RelV x v → RelV y u → r x y H Q →
    wpAny (model X.prog X.w) X.A (f v u) (EP X pins σ Q) X.xe s
/-- a call of a value that is known (a builtin, a type) with values -/
def CallR (X : Cx) (f : Value) (r : List V → Hp → VK → Prop) : Prop :=
  ∀ (pins : List (Addr × Obj)) (s : Shared) (σ : St) (H : Hp) (xs : List V) (us : List Value) (Q : VK), Inv X pins σ H s → Vals xs us → r xs H Q →
    wpAny (model X.prog X.w) X.A (call f us) (EP X pins σ Q) X.xe s
def tOp (r : R2) (ta tb : TE) : TE := fun σ H Q => ta σ H fun x H1 => tb σ H1 fun y H2 => r x y H2 Q
/-- ints in, under C, and a value out -/
def rI (C : Int → Int → Prop) (g : Int → Int → V) : R2 := fun x y H Q => ∃ i j, x = .int i ∧ y = .int j ∧ C i j ∧ Q (g i j) H
def rI0 (g : Int → Int → V) : R2 := fun x y H Q => ∃ i j, x = .int i ∧ y = .int j ∧ Q (g i j) H
section
variable {X : Cx} {a b c : Expr} {ta tb tc : TE} {pos : Pos}

theorem binT (ha : PE X a ta) (hb : PE X b tb) {pins : List (Addr × Obj)} {s : Shared} {σ : St} {H : Hp} {R : V → V → Hp → Prop} (I : Inv X pins σ H s)
    (h : ta σ H fun x H1 => tb σ H1 fun y H2 => R x y H2) {Q : Value → Shared → Prop} {f : Value → Value → Sem Value}
    (hf : ∀ v u s2 x y H2, Inv X pins σ H2 s2 → RelV x v → RelV y u → R x y H2 → wpAny (model X.prog X.w) X.A (f v u) Q X.xe s2) :
    wpAny (model X.prog X.w) X.A (eval a X.env) (fun v s₁ => wpAny (model X.prog X.w) X.A (eval b X.env) (fun u s₂ => wpAny (model X.prog X.w) X.A (f v u) Q X.xe s₂) X.xe s₁) X.xe s := by
  refine thn (ha pins s σ H _ I h) fun v s1 ⟨x, H1, I1, r1, q1⟩ => ?_
  refine thn (hb pins s1 σ H1 _ I1 q1) fun u s2 ⟨y, H2, I2, r2, q2⟩ => ?_
  exact hf v u s2 x y H2 I2 r1 r2 q2

theorem pe_op {op : Operator} {r : R2} (ho : OpR X (binaryOp op) r) (ha : PE X a ta) (hb : PE X b tb) : PE X (.BinOp a op b pos) (tOp r ta tb) := by
  intro pins s σ H Q I h
  exact wpAny_BinOp (binT ha hb I h fun v u s2 x y H2 I2 rx ry q => ho pins s2 σ H2 x y v u Q I2 rx ry q)
/-! ### ints -/
theorem opI {f : Value → Value → Sem Value} {C : Int → Int → Prop} {g : Int → Int → Int}
    (rule : ∀ (i j : Int) (t u : Tok) (s : Shared) (Q : Value → Shared → Prop) (E : Value → Shared → Prop), C i j → Q (.int (g i j) s.toks) { s with toks := s.toks + 1 } → wpAny (model X.prog X.w) X.A (f (.int i t) (.int j u)) Q E s) :
    OpR X f (rI C fun i j => .int (g i j)) := by
  intro pins s σ H x y v u Q I rx ry h
  obtain ⟨i, j, rfl, rfl, hc, q⟩ := h
  obtain ⟨t, rfl⟩ := rx
  obtain ⟨t', rfl⟩ := ry
  exact rule i j t t' s _ _ hc ⟨.int (g i j), H, I.tok _, ⟨_, rfl⟩, q⟩
theorem opI0 {f : Value → Value → Sem Value} {g : Int → Int → Int}
    (rule : ∀ (i j : Int) (t u : Tok) (s : Shared) (Q : Value → Shared → Prop) (E : Value → Shared → Prop), Q (.int (g i j) s.toks) { s with toks := s.toks + 1 } → wpAny (model X.prog X.w) X.A (f (.int i t) (.int j u)) Q E s) :
    OpR X f (rI0 fun i j => .int (g i j)) := by
  intro pins s σ H x y v u Q I rx ry h
  obtain ⟨i, j, rfl, rfl, q⟩ := h
  obtain ⟨t, rfl⟩ := rx
  obtain ⟨t', rfl⟩ := ry
  exact rule i j t t' s _ _ ⟨.int (g i j), H, I.tok _, ⟨_, rfl⟩, q⟩
theorem opB0 {f : Value → Value → Sem Value} {g : Int → Int → Bool}
    (rule : ∀ (i j : Int) (t u : Tok) (s : Shared) (Q : Value → Shared → Prop) (E : Value → Shared → Prop), Q (.bool (g i j)) s → wpAny (model X.prog X.w) X.A (f (.int i t) (.int j u)) Q E s) :
    OpR X f (rI0 fun i j => .bl (g i j)) := by
  intro pins s σ H x y v u Q I rx ry h
  obtain ⟨i, j, rfl, rfl, q⟩ := h
  obtain ⟨t, rfl⟩ := rx
  obtain ⟨t', rfl⟩ := ry
  exact rule i j t t' s _ _ ⟨.bl (g i j), H, I, rfl, q⟩

def CDiv (i j : Int) : Prop := 0 < j ∧ j < 1073741824
def CPow (i j : Int) : Prop := 0 ≤ j ∧ j ≤ 1000000 ∧ i.natAbs < 2 ^ 64
def CMul (i j : Int) : Prop := (-(2 ^ 64) < i ∧ i < 2 ^ 64) ∨ (-(2 ^ 64) < j ∧ j < 2 ^ 64)
theorem CMul.ok {i j : Int} (h : CMul i j) : IntMulOk i j := by
  rcases h with ⟨h1, h2⟩ | ⟨h1, h2⟩
  · exact .of_left (intBits_le_64 h1 h2)
  · exact .of_right (intBits_le_64 h1 h2)
theorem op_add : OpR X (binaryOp .Add) (rI0 fun i j => .int (i + j)) := opI0 fun _ _ _ _ _ _ _ q => add_int q
theorem op_sub : OpR X (binaryOp .Sub) (rI0 fun i j => .int (i - j)) := opI0 fun _ _ _ _ _ _ _ q => sub_int q
theorem op_mul : OpR X (binaryOp .Mult) (rI CMul fun i j => .int (i * j)) := opI fun _ _ _ _ _ _ _ hc q => mul_int q hc.ok
/-- // by a positive divisor -/
theorem op_fdiv : OpR X (binaryOp .FloorDiv) (rI CDiv fun i j => .int (i / j)) := opI fun i j _ _ _ _ _ hc q => by
  have h1 : (0 : Int) < j := hc.1
  have h2 : j < 1073741824 := hc.2
  exact floordiv_int (by omega) (by rw [Int.fdiv_eq_ediv_of_nonneg i (by omega)]; exact q) (.inl (PyProof.noPylong_small (by omega)))
/-- % by a positive divisor of any size -/
theorem op_mod : OpR X (binaryOp .Mod) (rI (fun _ j => 0 < j) fun i j => .int (i % j)) := opI fun i j _ _ _ _ _ hc q => by
  have h1 : (0 : Int) < j := hc
  exact mod_int' (by omega) (by rw [Int.fmod_eq_emod_of_nonneg i (by omega)]; exact q)
theorem op_pow : OpR X (binaryOp .Pow) (rI CPow fun i j => .int (i ^ j.toNat)) := opI fun _ _ _ _ _ _ _ hc q => pow_int_small hc.1 hc.2.1 hc.2.2 q
end

/-! ### comparisons -/
/-- the scalars that == tells apart as data does -/
def scal : V → V → Bool
  | .non, .non => true | .non, .int _ => true | .int _, .non => true | .non, .bl _ => true | .bl _, .non => true | .non, .str _ => true | .str _, .non => true
  | .int _, .int _ => true | .bl _, .bl _ => true | .str _, .str _ => true | .byt _, .byt _ => true
  | .int _, .str _ => true | .str _, .int _ => true | .bl _, .str _ => true | .str _, .bl _ => true
  | _, _ => false
def rEq : R2 := fun x y H Q => scal x y = true ∧ Q (.bl (decide (x = y))) H
def rNe : R2 := fun x y H Q => scal x y = true ∧ Q (.bl (!decide (x = y))) H

theorem dec_int {i j : Int} : decide (V.int i = V.int j) = (i == j) := by
  rw [Bool.eq_iff_iff]
  simp
theorem dec_bl {i j : Bool} : decide (V.bl i = V.bl j) = (i == j) := by
  rw [Bool.eq_iff_iff]
  simp
theorem dec_str {i j : Str} : decide (V.str i = V.str j) = (i == j) := by
  rw [Bool.eq_iff_iff]
  simp
theorem dec_byt {i j : Array UInt8} : decide (V.byt i = V.byt j) = (i.toList == j.toList) := by
  rw [Bool.eq_iff_iff]
  cases i
  cases j
  simp

section
variable {X : Cx} {a b c : Expr} {ta tb tc : TE} {pos : Pos}
theorem fin_bl {pins : List (Addr × Obj)} {σ : St} {H : Hp} {s : Shared} {Q : VK} {k k' : Bool} (I : Inv X pins σ H s) (q : Q (.bl k) H) (e : k = k') : EP X pins σ Q (.bool k') s := by
  subst e
  exact ⟨.bl k, H, I, rfl, q⟩
theorem op_eq : OpR X (compareOp .Eq) rEq := by
  intro pins s σ H x y v u Q I rx ry h
  obtain ⟨hs, q⟩ := h
  cases x with
  | non =>
    cases rx
    cases y with
    | non => cases ry; exact PySem.EqNone.eq_none_none (fin_bl I q (by simp))
    | bl j => cases ry; exact PySem.EqNone.eq_none_bool (fin_bl I q (by simp))
    | int j => obtain ⟨t', rfl⟩ := ry; exact PySem.EqNone.eq_none_int (fin_bl I q (by simp))
    | str j => obtain ⟨t', rfl⟩ := ry; exact PySem.EqNone.eq_none_str (fin_bl I q (by simp))
    | _ => exact absurd (show false = true from hs) Bool.false_ne_true
  | bl i =>
    cases rx
    cases y with
    | non => cases ry; exact PySem.EqNone.eq_bool_none (fin_bl I q (by simp))
    | bl j => cases ry; exact eq_bool (fin_bl I q dec_bl)
    | str j => obtain ⟨t', rfl⟩ := ry; exact PySem.EqMixed.eq_bool_str (fin_bl I q (by simp))
    | _ => exact absurd (show false = true from hs) Bool.false_ne_true
  | int i =>
    obtain ⟨t, rfl⟩ := rx
    cases y with
    | non => cases ry; exact PySem.EqNone.eq_int_none (fin_bl I q (by simp))
    | int j => obtain ⟨t', rfl⟩ := ry; exact eq_int (fin_bl I q dec_int)
    | str j => obtain ⟨t', rfl⟩ := ry; exact PySem.EqMixed.eq_int_str (fin_bl I q (by simp))
    | _ => exact absurd (show false = true from hs) Bool.false_ne_true
  | str i =>
    obtain ⟨t, rfl⟩ := rx
    cases y with
    | non => cases ry; exact PySem.EqNone.eq_str_none (fin_bl I q (by simp))
    | bl j => cases ry; exact PySem.EqMixed.eq_str_bool (fin_bl I q (by simp))
    | int j => obtain ⟨t', rfl⟩ := ry; exact PySem.EqMixed.eq_str_int (fin_bl I q (by simp))
    | str j => obtain ⟨t', rfl⟩ := ry; exact eq_str (fin_bl I q dec_str)
    | _ => exact absurd (show false = true from hs) Bool.false_ne_true
  | byt i =>
    obtain ⟨t, rfl⟩ := rx
    cases y with
    | byt j => obtain ⟨t', rfl⟩ := ry; exact PySem.W.eq_bytes (fin_bl I q dec_byt)
    | _ => exact absurd (show false = true from hs) Bool.false_ne_true
  | _ => cases y <;> exact absurd (show false = true from hs) Bool.false_ne_true
theorem op_ne : OpR X (compareOp .NotEq) rNe := by
  intro pins s σ H x y v u Q I rx ry h
  obtain ⟨hs, q⟩ := h
  cases x with
  | non =>
    cases rx
    cases y with
    | non => cases ry; exact PySem.EqNone.ne_none_none (fin_bl I q (by simp))
    | bl j => cases ry; exact PySem.EqNone.ne_none_bool (fin_bl I q (by simp))
    | int j => obtain ⟨t', rfl⟩ := ry; exact PySem.EqNone.ne_none_int (fin_bl I q (by simp))
    | str j => obtain ⟨t', rfl⟩ := ry; exact PySem.EqNone.ne_none_str (fin_bl I q (by simp))
    | _ => exact absurd (show false = true from hs) Bool.false_ne_true
  | bl i =>
    cases rx
    cases y with
    | non => cases ry; exact PySem.EqNone.ne_bool_none (fin_bl I q (by simp))
    | bl j => cases ry; exact ne_bool (fin_bl I q (congrArg not dec_bl))
    | str j => obtain ⟨t', rfl⟩ := ry; exact PySem.EqMixed.ne_bool_str (fin_bl I q (by simp))
    | _ => exact absurd (show false = true from hs) Bool.false_ne_true
  | int i =>
    obtain ⟨t, rfl⟩ := rx
    cases y with
    | non => cases ry; exact PySem.EqNone.ne_int_none (fin_bl I q (by simp))
    | int j => obtain ⟨t', rfl⟩ := ry; exact ne_int (fin_bl I q (congrArg not dec_int))
    | str j => obtain ⟨t', rfl⟩ := ry; exact PySem.EqMixed.ne_int_str (fin_bl I q (by simp))
    | _ => exact absurd (show false = true from hs) Bool.false_ne_true
  | str i =>
    obtain ⟨t, rfl⟩ := rx
    cases y with
    | non => cases ry; exact PySem.EqNone.ne_str_none (fin_bl I q (by simp))
    | bl j => cases ry; exact PySem.EqMixed.ne_str_bool (fin_bl I q (by simp))
    | int j => obtain ⟨t', rfl⟩ := ry; exact PySem.EqMixed.ne_str_int (fin_bl I q (by simp))
    | str j => obtain ⟨t', rfl⟩ := ry; exact ne_str (fin_bl I q (congrArg not dec_str))
    | _ => exact absurd (show false = true from hs) Bool.false_ne_true
  | byt i =>
    obtain ⟨t, rfl⟩ := rx
    cases y with
    | byt j => obtain ⟨t', rfl⟩ := ry; exact PySem.W.ne_bytes (fin_bl I q (congrArg not dec_byt))
    | _ => exact absurd (show false = true from hs) Bool.false_ne_true
  | _ => cases y <;> exact absurd (show false = true from hs) Bool.false_ne_true

theorem op_lt : OpR X (compareOp .Lt) (rI0 fun i j => .bl (decide (i < j))) := opB0 fun _ _ _ _ _ _ _ q => lt_int q
theorem op_gt : OpR X (compareOp .Gt) (rI0 fun i j => .bl (decide (j < i))) := opB0 fun _ _ _ _ _ _ _ q => gt_int q
theorem op_ge : OpR X (compareOp .GtE) (rI0 fun i j => .bl (decide (j ≤ i))) := opB0 fun _ _ _ _ _ _ _ q => ge_int q
theorem nomark (b : Expr) {op : CmpOp} (h : op ≠ .In := by decide) (h2 : op ≠ .NotIn := by decide) : behindInMarks op b = false := by
  have e1 : (op == CmpOp.In) = false := by cases op <;> first | rfl | exact absurd rfl h
  have e2 : (op == CmpOp.NotIn) = false := by cases op <;> first | rfl | exact absurd rfl h2
  cases b <;> simp [behindInMarks, e1, e2]
/-- a comparison as a value; hm: nomark b, or (for in, not in) by with_unfolding_all rfl -/
theorem pe_cmpR {op : CmpOp} {r : R2} (ho : OpR X (compareOp op) r) (ha : PE X a ta) (hb : PE X b tb) (hm : behindInMarks op b = false) : PE X (.Compare a [op] [b] pos) (tOp r ta tb) := by
  intro pins s σ H Q I h
  exact wpAny_Compare1 (binT ha hb I h fun v u s2 x y H2 I2 rx ry q => ho pins s2 σ H2 x y v u Q I2 rx ry q) hm
/-- a reading of a value as a test -/
def tTest (t : TE) : TT := fun σ H Q => t σ H fun x H' => ∃ k, x = .bl k ∧ Q k H'
theorem pt_cmpR {op : CmpOp} {r : R2} (ho : OpR X (compareOp op) r) (ha : PE X a ta) (hb : PE X b tb) (hm : behindInMarks op b = false) : PT X (.Compare a [op] [b] pos) (tTest (tOp r ta tb)) := by
  intro pins s σ H Q I h
  refine wpAny_isTrue_Compare1 (thn (ha pins s σ H _ I h) fun v s1 ⟨x, H1, I1, r1, q1⟩ => thn (hb pins s1 σ H1 _ I1 q1) fun u s2 ⟨y, H2, I2, r2, q2⟩ =>
    thn (ho pins s2 σ H2 x y v u _ I2 r1 r2 q2) fun c s3 ⟨z, H3, I3, r3, k, e, q3⟩ => ?_) hm
  subst e
  cases r3
  exact wpAny_truthy_bool ⟨H3, I3, q3⟩
theorem line63 : (sizeLine : Nat) < 2 ^ 63 := by rw [sizeLine_eq]; decide
/-! ### scalar builtins, by CallR -/
theorem vals1 {x : V} {us : List Value} (r : Vals [x] us) : ∃ u, us = [u] ∧ RelV x u := by
  cases r with
  | cons r1 r2 => cases r2; exact ⟨_, rfl, r1⟩
theorem vals2 {x y : V} {us : List Value} (r : Vals [x, y] us) : ∃ u w', us = [u, w'] ∧ RelV x u ∧ RelV y w' := by
  cases r with
  | cons r1 r2 =>
    cases r2 with
    | cons r3 r4 => cases r4; exact ⟨_, _, rfl, r1, r3⟩
theorem call_abs : CallR X (.builtin "abs") (fun xs H Q => ∃ i, xs = [.int i] ∧ Q (.int (if i < 0 then -i else i)) H) := by
  intro pins s σ H xs us Q I r h
  obtain ⟨i, rfl, q⟩ := h
  obtain ⟨u, rfl, t, rfl⟩ := vals1 r
  exact call_abs_int fun u tk => ⟨.int (if i < 0 then -i else i), H, I.tok _, ⟨_, rfl⟩, q⟩
theorem call_max2 (hc : X.calm = true) : CallR X (.builtin "max") (fun xs H Q => ∃ i j, xs = [.int i, .int j] ∧ Q (.int (if j > i then j else i)) H) := by
  intro pins s σ H xs us Q I r h
  obtain ⟨i, j, rfl, q⟩ := h
  obtain ⟨u, w', rfl, ⟨t, rfl⟩, ⟨t', rfl⟩⟩ := vals2 r
  refine max_two_ints (I.ok.hd hc) fun h' tk k => ⟨_, H, I.kept k, ?_, q⟩
  by_cases hj : j > i
  · rw [if_pos hj, if_pos hj]; exact ⟨_, rfl⟩
  · rw [if_neg hj, if_neg hj]; exact ⟨_, rfl⟩
theorem call_min2 (hc : X.calm = true) : CallR X (.builtin "min") (fun xs H Q => ∃ i j, xs = [.int i, .int j] ∧ Q (.int (if j < i then j else i)) H) := by
  intro pins s σ H xs us Q I r h
  obtain ⟨i, j, rfl, q⟩ := h
  obtain ⟨u, w', rfl, ⟨t, rfl⟩, ⟨t', rfl⟩⟩ := vals2 r
  refine min_two_ints (I.ok.hd hc) fun h' tk k => ⟨_, H, I.kept k, ?_, q⟩
  by_cases hj : j < i
  · rw [if_pos hj, if_pos hj]; exact ⟨_, rfl⟩
  · rw [if_neg hj, if_neg hj]; exact ⟨_, rfl⟩
theorem call_int1 : CallR X (.type "int") (fun xs H Q => (∃ i, xs = [.int i] ∧ Q (.int i) H) ∨ ∃ k, xs = [.bl k] ∧ Q (.int (if k then 1 else 0)) H) := by
  intro pins s σ H xs us Q I r h
  rcases h with ⟨i, rfl, q⟩ | ⟨k, rfl, q⟩
  · obtain ⟨u, rfl, t, rfl⟩ := vals1 r
    exact call_int_int ⟨.int i, H, I, ⟨_, rfl⟩, q⟩
  · obtain ⟨u, rfl, r1⟩ := vals1 r
    cases r1
    exact call_int_bool ⟨.int (if k then 1 else 0), H, I.tok _, ⟨_, rfl⟩, q⟩
end
end L2

namespace L2
open PySem PySem.Spec PyProof.Rows

/-! ### an instance, its attributes a map -/
structure ObjM (h : Heap) (x dx C : Addr) (mA : Str → Option Value) : Prop where
  obj : h.get? x = some (PySem.W.instObj C dx)
  ns : h.Ns1 dx mA
  ne : dx ≠ x

theorem lookIn_ns {h : Heap} {dx : Addr} {mA : Str → Option Value} (n : h.Ns1 dx mA) : ∃ od, h.get? dx = some od ∧ ∀ name, PySem.W.lookIn name od = some (mA name) := by
  obtain ⟨o, es, ep, ho, hd, hk, _, hm⟩ := n
  refine ⟨o, ho, fun name => ?_⟩
  have e := hm name
  unfold nsFind findBy at e
  rw [← Array.find?_toList] at e
  unfold PySem.W.lookIn
  rw [hd]
  dsimp only
  split
  · rename_i y q
    rw [q] at e
    exact congrArg some e
  · rename_i q
    rw [q] at e
    have a : es.toList.any (·.refKey) = false := by
      rw [List.any_eq_false]
      intro y hy
      obtain ⟨z, t, hkey⟩ := hk y (Array.mem_toList_iff.mp hy)
      simp [DictEntry.refKey, hkey]
    have a' : ¬ es.toList.any (·.refKey) = true := by rw [a]; exact Bool.false_ne_true
    rw [if_neg a']
    exact congrArg some e

theorem ObjM.look {h : Heap} {x dx C : Addr} {mA : Str → Option Value} (I : ObjM h x dx C mA) : ∃ od, PySem.W.InstAt h x (PySem.W.instObj C dx) C (some od) ∧ ∀ name, PySem.W.lookIn name od = some (mA name) :=
  let ⟨od, ho, hl⟩ := lookIn_ns I.ns
  ⟨od, ⟨I.obj, rfl, rfl, ho⟩, hl⟩

section
variable {prog : Program} {w : World} {A : Around} {E : Value → Shared → Prop} {s : Shared} {K : PySem.W.Frag} {x dx C f : Addr} {mA : Str → Option Value} {name : Str} {v : Value}

theorem get_map {expr : Bool} {Q : Value → Shared → Prop} (X : K.In s.heap) (I : ObjM s.heap x dx C mA) (hg : PySem.W.plainGet K C name = true) (hh : PySem.W.hasDictIn K C = true)
    (ha : PySem.W.findIn K (.ref C) name = some none) (hv : mA name = some v) (hv' : PySem.W.handedIn v = true) (h : Q v { s with toks := s.toks + 1 }) :
    wpAny (model prog w) A (getAttr (.ref x) name expr) Q E s := by
  obtain ⟨od, J, hl⟩ := I.look
  exact PySem.W.get_value X J (PySem.W.plainGet_of hg).1 (PySem.W.findObj_own hh ha rfl (by rw [hl, hv])) hv' h

theorem get_meth {pl : Sem Bool} {Q : Value × List Value → Shared → Prop} (X : K.In s.heap) (I : ObjM s.heap x dx C mA) (hg : PySem.W.plainGet K C name = true)
    (hf : PySem.W.findIn K (.ref C) name = some (some (.ref f))) (ht : PySem.W.isFn K (.ref f) = true) (hv : mA name = none) (h : Q (.ref f, [.ref x]) s) :
    wpAny (model prog w) A (getMethod (.ref x) name pl) Q E s := by
  obtain ⟨od, J, hl⟩ := I.look
  exact PySem.W.method_fn X J (PySem.W.plainGet_of hg).1 (PySem.W.plainGet_of hg).2 hf (beq_iff_eq.mp ht) (by show (PySem.W.lookIn name od).map (·.isSome) = some false; rw [hl, hv]; rfl) h

theorem set_map {ns : List Str} {Q : Unit → Shared → Prop} (X : K.In s.heap) (I : ObjM s.heap x dx C mA)
    (hs : PySem.W.findIn K (.ref C) "__setattr__" = some (some (.builtin "object.__setattr__"))) (hp : PySem.W.plainOver K C = true) (ht : PySem.W.takerIn K C name = some none) (hh : PySem.W.hasDictIn K C = true)
    (hw : PySem.Within mA ns) (hsz : ns.length ≤ sizeLine)
    (h : ∀ h', ObjM h' x dx C (fun y => if y = name then some v else mA y) → Heap.SameBut dx s.heap h' → Q () { s with heap := h', toks := s.toks + 2 }) :
    wpAny (model prog w) A (setAttr (.ref x) name v) Q E s := by
  obtain ⟨od, J, hl⟩ := I.look
  refine PySem.W.set_plain X J hs (PySem.W.osa_open (s := { s with toks := s.toks + 1 }) (r := none) X J hp ht fun b => ?_)
  obtain ⟨cd, hc, hd'⟩ := PySem.W.any_some hh
  have hx : s.heap.get? x = some ⟨.ref C, some dx, .plain, #[]⟩ := I.obj
  refine wpAny_bind (wpAny_pure (wpAny_bind (wpAny_bind (wpAny_loadPart hx (wpAny_bind (PySem.W.Looks.here (s := { s with toks := s.toks + 1 }) (PySem.W.looks_clsIn X hc) ?_))))))
  rw [hd']
  refine wpAny_pure (a := some dx) (wpAny_bind (wpAny_pure (wpAny_bind ?_)))
  refine wpAny_nsSet1 (s := { s with toks := s.toks + 1 }) I.ns fun h' hn2 hs2 => ?_
  obtain ⟨oD, esD, epD, hoD, hdD, hcD⟩ := hn2.count (PySem.Within.cons name v hw)
  refine wpAny_bind (wpAny_lookBehind hoD (by rw [hdD]; exact pastItsLine_dict (Nat.le_trans hcD (by rw [List.length_cons]; omega))) ?_)
  exact wpAny_pure (h _ ⟨(hs2.2 _ (Ne.symm I.ne)).trans I.obj, hn2, I.ne⟩ hs2)

/-- C(..): the dict at the heap's end, the instance behind it; then its __init__ -/
theorem make_map {R : Result → Shared → Prop} {vs : List Value} {kw : List (Str × Value)} (X : K.In s.heap) (hm : PySem.W.makesIn K C = true)
    (hi : PySem.W.findIn K (.ref C) "__init__" = some (some (.ref f))) (hf : PySem.W.typeIn K (.ref f) = some (.type "function"))
    (h : codeAny (model prog w) (A.under (.builtin "type.__call__" ⟨.ref C :: vs, kw⟩)) (.call (.ref f) ⟨.ref (s.heap.objs.size + 1) :: vs, kw⟩) (PySem.W.InitBack (s.heap.objs.size + 1) R)
      { s with heap := (s.heap.push PySem.W.emptyDict).push (PySem.W.instObj C s.heap.objs.size) }) :
    codeAny (model prog w) A (.call (.ref C) ⟨vs, kw⟩) R s := by
  obtain ⟨hh, g, d, t, os⟩ := s
  exact PySem.W.make_core (PySem.W.makes_of X hm) (PySem.W.looks_findIn X hi) (fun self => PySem.W.bind_fn X self hf) (.inl rfl) h
end

/-! ### the attributes as a list of pairs -/
def putF (f : Str) (v : V) : List (Str × V) → List (Str × V)
  | [] => [(f, v)]
  | (g, x) :: r => if g = f then (g, v) :: r else (g, x) :: putF f v r
theorem lookup_putF (f g : Str) (v : V) : ∀ fs : List (Str × V), (putF f v fs).lookup g = if g = f then some v else fs.lookup g
  | [] => by
    show List.lookup g [(f, v)] = _
    by_cases h : g = f
    · have hb : (g == f) = true := beq_iff_eq.mpr h
      simp only [List.lookup, hb, if_pos h]
    · have hb : (g == f) = false := beq_eq_false_iff_ne.mpr h
      simp only [List.lookup, hb, if_neg h]
  | (k, x) :: r => by
    have ih := lookup_putF f g v r
    rw [show putF f v ((k, x) :: r) = (if k = f then (k, v) :: r else (k, x) :: putF f v r) from rfl]
    by_cases hk : k = f
    · rw [if_pos hk]
      by_cases h : g = k
      · have hb : (g == k) = true := beq_iff_eq.mpr h
        simp only [List.lookup, hb, if_pos (h.trans hk)]
      · have hb : (g == k) = false := beq_eq_false_iff_ne.mpr h
        simp only [List.lookup, hb, if_neg (fun e : g = f => h (e.trans hk.symm))]
    · rw [if_neg hk]
      by_cases h : g = k
      · have hb : (g == k) = true := beq_iff_eq.mpr h
        simp only [List.lookup, hb, if_neg (fun e : g = f => hk (h.symm.trans e))]
      · have hb : (g == k) = false := beq_eq_false_iff_ne.mpr h
        simp only [List.lookup, hb]
        exact ih
theorem keys_putF (f : Str) (v : V) : ∀ fs : List (Str × V), f ∈ (putF f v fs).map (·.1) ∧ ∀ g, g ∈ fs.map (·.1) → g ∈ (putF f v fs).map (·.1)
  | [] => ⟨by simp [putF], fun g h => by simp at h⟩
  | (k, x) :: r => by
    obtain ⟨i1, i2⟩ := keys_putF f v r
    rw [show putF f v ((k, x) :: r) = (if k = f then (k, v) :: r else (k, x) :: putF f v r) from rfl]
    by_cases hk : k = f
    · rw [if_pos hk]
      subst hk
      exact ⟨by simp, fun g h => by simpa using h⟩
    · rw [if_neg hk]
      refine ⟨?_, fun g h => ?_⟩
      · rw [List.map_cons]
        exact List.mem_cons_of_mem _ i1
      · rw [List.map_cons] at h ⊢
        rcases List.mem_cons.mp h with e | e
        · exact List.mem_cons.mpr (.inl e)
        · exact List.mem_cons_of_mem _ (i2 g e)
theorem length_putF (f : Str) (v : V) : ∀ fs : List (Str × V), (putF f v fs).length ≤ fs.length + 1
  | [] => by simp [putF]
  | (k, x) :: r => by
    have ih := length_putF f v r
    rw [show putF f v ((k, x) :: r) = (if k = f then (k, v) :: r else (k, x) :: putF f v r) from rfl]
    by_cases hk : k = f
    · rw [if_pos hk, List.length_cons, List.length_cons]; omega
    · rw [if_neg hk, List.length_cons, List.length_cons]; omega

theorem RelO.some_of {v : V} {o : Option Value} (r : RelO (some v) o) : ∃ u, o = some u ∧ RelV v u := by
  cases o with
  | none => exact (show False from r).elim
  | some u => exact ⟨u, rfl, r⟩
theorem RelO.none_of {o : Option Value} (r : RelO none o) : o = none := by
  cases o with
  | none => rfl
  | some u => exact (show False from r).elim
theorem handed_of {v : V} {u : Value} (r : RelV v u) : PySem.W.handedIn u = true := by
  cases v with
  | non => cases (show u = Value.none from r); rfl
  | bl b => cases (show u = Value.bool b from r); rfl
  | int i => obtain ⟨t, e⟩ := (show ∃ t, u = Value.int i t from r); cases e; rfl
  | str x => obtain ⟨t, e⟩ := (show ∃ t, u = Value.str x t from r); cases e; rfl
  | byt b => obtain ⟨t, e⟩ := (show ∃ t, u = Value.bytes b t from r); cases e; rfl
  | flt b => obtain ⟨t, e⟩ := (show ∃ t, u = Value.float b t from r); cases e; rfl
  | ref a => cases (show u = Value.ref a from r); rfl
  | ty n => cases (show u = Value.type n from r); rfl

section
variable {P : Program} {w : World} {H H' : Hp} {h h' : Heap} {a C dx : Addr} {fs fs' : List (Str × V)}
theorem ins_get (hok : HOk P w H h) (e : H a = some (.ins C dx fs)) : ∃ mA, ObjM h a dx C mA ∧ (∀ f, RelO (fs.lookup f) (mA f)) ∧ PySem.Within mA (fs.map (·.1)) ∧ fs.length ≤ 1000 ∧ H dx = some (.own a) := by
  obtain ⟨d, z, ne, ob, mA, n, r, q⟩ := (show ObjOk P w H h a (.ins C dx fs) from hok a _ e)
  exact ⟨mA, ⟨ob, n, ne⟩, r, q, z, d⟩
end

/-! ### what of the text a class must have -/
structure Cls (K : PySem.W.Frag) (C : Addr) : Prop where
  pg : PySem.W.plainGet K C Str.empty = true
  hd : PySem.W.hasDictIn K C = true
  po : PySem.W.plainOver K C = true
  sa : PySem.W.findIn K (.ref C) "__setattr__" = some (some (.builtin "object.__setattr__"))
theorem Cls.get {K : PySem.W.Frag} {C : Addr} (c : Cls K C) (f : Str) : PySem.W.plainGet K C f = true := c.pg
/-- no class of it has the name -/
def NoAttr (K : PySem.W.Frag) (C : Addr) (f : Str) : Prop := PySem.W.findIn K (.ref C) f = some none
theorem NoAttr.taker {K : PySem.W.Frag} {C : Addr} {f : Str} (n : NoAttr K C f) : PySem.W.takerIn K C f = some none := by
  unfold PySem.W.takerIn
  rw [show PySem.W.findIn K (.ref C) f = some none from n]
  rfl
/-- a method: a plain def of the class or of one above it -/
structure Meth (K : PySem.W.Frag) (C : Addr) (m : Str) (f : Addr) : Prop where
  at_ : PySem.W.findIn K (.ref C) m = some (some (.ref f))
  fn : PySem.W.isFn K (.ref f) = true
  kp : PySem.W.keepIn K (.ref f) = true

section
variable {X : Cx} {pins : List (Addr × Obj)} {σ : St} {H : Hp} {s : Shared} {a C dx : Addr} {fs : List (Str × V)} {f : Str} {v : V} {A : Around} {E : Value → Shared → Prop}

theorem getattr_ok {b : Bool} {Q : Value → Shared → Prop} (I : Inv X pins σ H s) (e : H a = some (.ins C dx fs)) (c : Cls X.K C) (n : NoAttr X.K C f) (l : fs.lookup f = some v)
    (h : ∀ u s', Inv X pins σ H s' → RelV v u → Q u s') : wpAny (model X.prog X.w) A (getAttr (.ref a) f b) Q E s := by
  obtain ⟨mA, O, r, _, _, _⟩ := ins_get I.hok e
  obtain ⟨u, hu, ru⟩ := RelO.some_of (v := v) (o := mA f) (by rw [← l]; exact r f)
  exact get_map I.kIn O (c.get f) c.hd n hu (handed_of ru) (h u _ (I.tok _) ru)

theorem getmeth_ok {m : Str} {g : Addr} {pl : Sem Bool} {Q : Value × List Value → Shared → Prop} (I : Inv X pins σ H s) (e : H a = some (.ins C dx fs)) (c : Cls X.K C) (k : Meth X.K C m g) (l : fs.lookup m = none)
    (h : Q (.ref g, [.ref a]) s) : wpAny (model X.prog X.w) A (getMethod (.ref a) m pl) Q E s := by
  obtain ⟨mA, O, r, _, _, _⟩ := ins_get I.hok e
  have hn : mA m = none := RelO.none_of (by rw [← l]; exact r m)
  exact get_meth I.kIn O (c.get m) k.at_ k.fn hn h

theorem setattr_ok {y : V} {u : Value} {Q : Unit → Shared → Prop} (I : Inv X pins σ H s) (e : H a = some (.ins C dx fs)) (c : Cls X.K C) (n : NoAttr X.K C f) (hl : fs.length < 1000) (ry : RelV y u)
    (h : ∀ s', Inv X pins σ (upd H a (.ins C dx (putF f y fs))) s' → Q () s') : wpAny (model X.prog X.w) A (setAttr (.ref a) f u) Q E s := by
  obtain ⟨mA, O, r, wi, _, ho⟩ := ins_get I.hok e
  have hz : (fs.map (·.1)).length ≤ sizeLine := by rw [List.length_map, sizeLine_eq]; omega
  refine set_map I.kIn O c.sa c.po n.taker c.hd wi hz fun h' O' sb => h _ ?_
  have hd : ∃ o, h'.get? dx = some o := let ⟨o, _, _, e', _⟩ := O'.ns; ⟨o, e'⟩
  refine I.write (x := a) (e := dx) (by rw [e]; exact True.intro) (.inr ho) (fun b q hb z => (sb.2 b hb).trans z) hd ?_
  refine ⟨by rw [upd_ne O.ne]; exact ho, ?_, O.ne, O'.obj, _, O'.ns, fun g => ?_, fun g hg => ?_⟩
  · have := length_putF f y fs; omega
  · show RelO ((putF f y fs).lookup g) (if g = f then some u else mA g)
    rw [lookup_putF]
    by_cases q : g = f
    · rw [if_pos q, if_pos q]; exact ry
    · rw [if_neg q, if_neg q]; exact r g
  · by_cases q : g = f
    · rw [q]; exact (keys_putF f y fs).1
    · refine (keys_putF f y fs).2 g (wi g fun z => hg ?_)
      show (if g = f then some u else mA g) = none
      rw [if_neg q]; exact z

/-- a new instance, tracked, without attributes -/
theorem Inv.made (I : Inv X pins σ H s) : Inv X pins σ (upd (upd H s.heap.objs.size (.own (s.heap.objs.size + 1))) (s.heap.objs.size + 1) (.ins C s.heap.objs.size []))
    { s with heap := (s.heap.push PySem.W.emptyDict).push (PySem.W.instObj C s.heap.objs.size) } := by
  have e1 : (s.heap.push PySem.W.emptyDict).get? s.heap.objs.size = some PySem.W.emptyDict := Heap.get?_push_size s.heap rfl
  have e2 : ((s.heap.push PySem.W.emptyDict).push (PySem.W.instObj C s.heap.objs.size)).get? (s.heap.objs.size + 1) = some (PySem.W.instObj C s.heap.objs.size) := by
    have := Heap.get?_push_size (s.heap.push PySem.W.emptyDict) (o := PySem.W.instObj C s.heap.objs.size) rfl
    rwa [Heap.size_push] at this
  have e3 : (s.heap.push PySem.W.emptyDict).Ns s.heap.objs.size (fun _ => none) := ⟨PySem.W.emptyDict, #[], _, e1, rfl, (fun e he => absurd he (by simp)), fun _ => rfl⟩
  have I1 := I.laid (a := s.heap.objs.size) (o := .own (s.heap.objs.size + 1)) (h' := s.heap.push PySem.W.emptyDict) (t' := s.toks) (fun b u q => Heap.get?_push_of_some _ q) (Nat.le_refl _) ⟨_, e1⟩
  refine I1.laid (a := s.heap.objs.size + 1) (o := .ins C s.heap.objs.size []) (t' := s.toks) (fun b u q => Heap.get?_push_of_some _ q) (Nat.le_of_eq (Heap.size_push _ _)) ?_
  have ne : s.heap.objs.size ≠ s.heap.objs.size + 1 := Nat.ne_of_lt (Nat.lt_succ_self _)
  refine ⟨by rw [upd_ne ne, upd_same], Nat.zero_le _, ne, e2, fun _ => none, (Heap.Ns1.of_empty e3).at fun o q => Heap.get?_push_of_some _ q, fun _ => True.intro, fun y hy => absurd rfl hy⟩

/-- e.f where nothing but the object is asked: through attributeBase (super) and the last hold -/
theorem attr_of {prog : Program} {w : World} {env : Env} {e : Expr} {f : Str} {pos : Pos} {s : Shared} {Q : Value → Shared → Prop} (hb : attributeBase e f env (eval e env) = eval e env)
    (h : wpAny (model prog w) A (eval e env) (fun o s₁ => wpAny (model prog w) A (getAttr o f true) Q E s₁) E s) : wpAny (model prog w) A (eval (.Attribute e f pos) env) Q E s :=
  Attribute_any_ h (by rw [arm_eval_Attribute, hb])
end

/-! ### readings and rules -/
/-- e.f, an attribute of the instance -/
def tFld (K : PySem.W.Frag) (ta : TE) (f : Str) : TE := fun σ H Q => ta σ H fun x H1 => ∃ a C dx fs v, x = .ref a ∧ H1 a = some (.ins C dx fs) ∧ Cls K C ∧ NoAttr K C f ∧ fs.lookup f = some v ∧ Q v H1
section
variable {X : Cx} {o e value : Expr} {f : Str} {pos pos' tpos : Pos} {ta tv : TE}
theorem pe_fld (he : PE X e ta) (hb : attributeBase e f X.env (eval e X.env) = eval e X.env) : PE X (.Attribute e f pos) (tFld X.K ta f) := by
  intro pins s σ H Q I h
  refine attr_of hb (thn (he pins s σ H _ I h) fun u s1 ⟨x, H1, I1, rx, a, C, dx, fs, v, ex, ea, c, n, l, q⟩ => ?_)
  subst ex
  obtain rfl : u = Value.ref a := rx
  exact getattr_ok I1 ea c n l fun u' s2 I2 ru => ⟨v, H1, I2, ru, q⟩
end

/-! ### isinstance -/
section
variable {X : Cx} {pins : List (Addr × Obj)} {σ : St} {H : Hp} {s : Shared} {A : Around} {E : Value → Shared → Prop} {Q : Value → Shared → Prop} {c : Value} {b : Bool}
/-- the type of a value, as the fragment's deciders take it; for an instance its class -/
inductive TyOf (K : PySem.W.Frag) (H : Hp) : V → Value → Prop where
  | non : TyOf K H .non (.type "NoneType")
  | bl (x : Bool) : TyOf K H (.bl x) (.type "bool")
  | int (i : Int) : TyOf K H (.int i) (.type "int")
  | str (x : Str) : TyOf K H (.str x) (.type "str")
  | flt (x : UInt64) : TyOf K H (.flt x) (.type "float")
  | lst {a : Addr} {xs : List V} (e : H a = some (.lst xs)) : TyOf K H (.ref a) (.type "list")
  | frz {a : Addr} {o : Obj} {xs : List V} (e : H a = some (.frz o (.lst xs))) : TyOf K H (.ref a) (.type "list")
  | tup {a : Addr} {xs : List V} (e : H a = some (.tup xs)) : TyOf K H (.ref a) (.type "tuple")
  | dK {a : Addr} {kvs : List (Key × V)} (e : H a = some (.dK kvs)) : TyOf K H (.ref a) (.type "dict")
  | dT {a : Addr} {kvs : List (List Key × V)} (e : H a = some (.dT kvs)) : TyOf K H (.ref a) (.type "dict")
  | ins {a C dx : Addr} {fs : List (Str × V)} (e : H a = some (.ins C dx fs)) (cl : Cls K C) (ha : PySem.W.findIn K (.ref C) "__class__" = some (some (.builtin "object.__class__")))
      (hn : PySem.W.specialIn K (.builtin "object.__class__") "__get__" = some (some (.builtin "getset_descriptor.__get__"))) (htk : PySem.W.takesIn K (.builtin "object.__class__") = some true)
      (hm : PySem.W.mroIn K C (.type "object") = some true) : TyOf K H (.ref a) (.ref C)
/-- isinstance(x, c) for one class c, a built-in or an own one: kitOne's answer -/
theorem isinst_ok {x : V} {u t : Value} (I : Inv X pins σ H s) (rx : RelV x u) (ty : TyOf X.K H x t) (e : PySem.W.kitOne X.K t c = some b) (h : ∀ tk, Q (.bool b) { s with toks := tk }) :
    wpAny (model X.prog X.w) A (call (.builtin "isinstance") [u, c]) Q E s := by
  cases ty with
  | non => cases (show u = Value.none from rx); exact PySem.W.kia_one PySem.W.kitx_none I.kIn True.intro e (fun z => nomatch z) h
  | bl y => cases (show u = Value.bool y from rx); exact PySem.W.kia_one PySem.W.kitx_bool I.kIn True.intro e (fun z => nomatch z) h
  | int i => obtain ⟨t, q⟩ := (show ∃ t, u = Value.int i t from rx); cases q; exact PySem.W.kia_one PySem.W.kitx_int I.kIn True.intro e (fun z => nomatch z) h
  | str y => obtain ⟨t, q⟩ := (show ∃ t, u = Value.str y t from rx); cases q; exact PySem.W.kia_one PySem.W.kitx_str I.kIn True.intro e (fun z => nomatch z) h
  | flt y => obtain ⟨t, q⟩ := (show ∃ t, u = Value.float y t from rx); cases q; exact PySem.W.kia_one PySem.W.kitx_float I.kIn True.intro e (fun z => nomatch z) h
  | @lst a xs ea =>
    cases (show u = Value.ref a from rx)
    obtain ⟨_, _, n, _, h1⟩ := (show ObjOk X.prog X.w H s.heap a (.lst xs) from I.hok a _ ea)
    exact PySem.W.kia_one PySem.W.kitx_list I.kIn ⟨_, h1, rfl⟩ e (fun z => nomatch z) h
  | @frz a ob xs ea =>
    cases (show u = Value.ref a from rx)
    obtain ⟨_, _, _, n, _, h1⟩ := (show ObjOk X.prog X.w H s.heap a (.frz ob (.lst xs)) from I.hok a _ ea)
    exact PySem.W.kia_one PySem.W.kitx_list I.kIn ⟨_, h1, rfl⟩ e (fun z => nomatch z) h
  | @tup a xs ea =>
    cases (show u = Value.ref a from rx)
    obtain ⟨_, _, _, p⟩ := (show ObjOk X.prog X.w H s.heap a (.tup xs) from I.hok a _ ea)
    obtain ⟨o, h1, h2, _⟩ := p
    exact PySem.W.kia_one PySem.W.kitx_tuple I.kIn ⟨o, h1, h2⟩ e (fun z => nomatch z) h
  | @dK a kvs ea =>
    cases (show u = Value.ref a from rx)
    obtain ⟨_, _, vs, _, p⟩ := (show ObjOk X.prog X.w H s.heap a (.dK kvs) from I.hok a _ ea)
    obtain ⟨o, es, ep, h1, h2, _⟩ := p
    exact PySem.W.kia_one PySem.W.kitx_dict I.kIn ⟨o, h1, h2.1⟩ e (fun z => nomatch z) h
  | @dT a kvs ea =>
    cases (show u = Value.ref a from rx)
    obtain ⟨_, _, xs, _, o, es, ep, h1, h2, _⟩ := (show ObjOk X.prog X.w H s.heap a (.dT kvs) from I.hok a _ ea)
    exact PySem.W.kia_one PySem.W.kitx_dict I.kIn ⟨o, h1, h2.1⟩ e (fun z => nomatch z) h
  | @ins a C dx fs ea cl ha hn htk hm =>
    cases (show u = Value.ref a from rx)
    obtain ⟨mA, O, _⟩ := ins_get I.hok ea
    obtain ⟨od, J, _⟩ := O.look
    exact PySem.W.kia_one (PySem.W.kitx_own (cl.get _) cl.hd ha hn htk hm) I.kIn J e (fun z => nomatch z) h
end
end L2

namespace L2
open PySem PySem.Spec PyProof.Rows

/-! ### room -/
structure Room (k : Nat) (A : Around) : Prop where
  hd : A.handled = none
  dp : A.depth + 3 * k + 5 < recursionLimit
  un : A.units + 16 * k + 200 < cLine
theorem Room.mono {j k : Nat} {A : Around} (r : Room k A) (h : j ≤ k) : Room j A := ⟨r.hd, by have := r.dp; omega, by have := r.un; omega⟩
theorem Room.deeper {k : Nat} {A : Around} (r : Room (k + 1) A) (env : Env) : Room k (A.deeper env) :=
  ⟨r.hd, by have := r.dp; show A.depth + 1 + 3 * k + 5 < _; omega, by have := r.un; show A.units + 3 + 16 * k + 200 < _; omega⟩
theorem Room.in1 {k : Nat} {A : Around} (r : Room (k + 1) A) : Room k A.in1 :=
  ⟨r.hd, by have := r.dp; show A.depth + 3 * k + 5 < _; omega, by have := r.un; show A.units + 1 + 16 * k + 200 < _; omega⟩
theorem make_depth {A : Around} {C : Addr} {us : List Value} {kw : List (Str × Value)} : (A.under (.builtin "type.__call__" ⟨.ref C :: us, kw⟩)).depth = A.depth + 1 := by
  first | rfl | simp [Around.under, Code.weight, Code.isCreation, Code.isGuard, Code.isCaller, Code.frames, Code.isFrame, guardIds]
theorem make_units {A : Around} {C : Addr} {us : List Value} {kw : List (Str × Value)} : (A.under (.builtin "type.__call__" ⟨.ref C :: us, kw⟩)).units = A.units + 1 := by
  first | rfl | simp [Around.under, Code.cUnits, Code.frames, Code.isFrame]
theorem Room.make {k : Nat} {A : Around} (r : Room (k + 1) A) (C : Addr) (us : List Value) (kw : List (Str × Value)) : Room k (A.under (.builtin "type.__call__" ⟨.ref C :: us, kw⟩)) :=
  ⟨r.hd, by have := r.dp; rw [make_depth]; omega, by have := r.un; rw [make_units]; omega⟩
theorem Room.depth {k : Nat} {A : Around} (r : Room k A) : A.depth < recursionLimit := by have := r.dp; omega
theorem Room.units {k : Nat} {A : Around} (r : Room k A) : A.units + 64 < cLine := by have := r.un; omega
/-! ### argument lists and displays -/
def tNil : TA := fun _ H Q => Q [] H
def tCons (ta : TE) (tr : TA) : TA := fun σ H Q => ta σ H fun x H1 => tr σ H1 fun xs H2 => Q (x :: xs) H2
section
variable {X : Cx} {e : Expr} {es : List Expr} {te : TE} {t : TA} {pos : Pos}
theorem pa_nil : PA X [] tNil := fun _ _ _ _ H Q I h => Calls.spliced_nil ⟨[], H, I, .nil, h⟩
theorem pa_cons (ha : PE X e te) (hr : PA X es t) (hs : starEach (e :: es) X.env = (false, eval e X.env) :: starEach es X.env := by rfl) : PA X (e :: es) (tCons te t) := by
  intro pos pins s σ H Q I h
  rw [hs]
  show wpAny _ _ (spliced ((false, eval e X.env) :: backTo pos (starEach es X.env))) _ _ s
  refine Calls.spliced_cons (thn (ha pins s σ H _ I h) fun u s1 ⟨x, H1, I1, r1, q1⟩ => ?_)
  exact thn (hr pos pins s1 σ H1 _ I1 q1) fun us s2 ⟨xs, H2, I2, r2, q2⟩ => ⟨x :: xs, H2, I2, .cons r1 r2, q2⟩

/-- a tuple, a list of written items -/
def tTup (t : TA) : TE := fun σ H Q => t σ H fun xs H1 => xs.length ≤ sizeLine ∧ ∀ p, H1 p = none → Q (.ref p) (upd H1 p (.tup xs))
def tLst (t : TA) : TE := fun σ H Q => t σ H fun xs H1 => xs.length ≤ sizeLine ∧ ∀ p, H1 p = none → Q (.ref p) (upd H1 p (.lst xs))
theorem pe_tup {x1} (h : PA X es t) : PE X (.Tuple es x1 pos) (tTup t) := by
  intro pins s σ H Q I hq
  refine wpAny_Tuple_spliced (thn (h pos pins s σ H _ I hq) fun us s1 ⟨xs, H1, I1, r, z, q⟩ => ⟨by rw [← r.length]; exact z, ?_⟩)
  have hf : H1 s1.heap.objs.size = none := I1.hok.fresh (Nat.le_refl _)
  refine ⟨.ref s1.heap.objs.size, upd H1 s1.heap.objs.size (.tup xs), I1.laid (t' := s1.toks) (fun b u e => Heap.get?_push_of_some _ e) (Nat.le_refl _) ?_, rfl, q _ hf⟩
  exact ⟨z, us, r, ⟨_, Heap.get?_push_size _ rfl, rfl, _, rfl⟩⟩
theorem pe_lst (h : PA X es t) : PE X (.List es pos) (tLst t) := by
  intro pins s σ H Q I hq
  refine wpAny_List_spliced (thn (h pos pins s σ H _ I hq) fun us s1 ⟨xs, H1, I1, r, z, q⟩ => ⟨by rw [← r.length]; exact z, ?_⟩)
  have hf : H1 s1.heap.objs.size = none := I1.hok.fresh (Nat.le_refl _)
  refine ⟨.ref s1.heap.objs.size, upd H1 s1.heap.objs.size (.lst xs), I1.laid (t' := s1.toks) (fun b u e => Heap.get?_push_of_some _ e) (Nat.le_refl _) ?_, rfl, q _ hf⟩
  exact ⟨z, us, 0, r, Heap.get?_push_size _ rfl⟩
end

/-! ### what a def promises -/
/-- a def's promise: the bound arguments in the parameters' order, the heap, the wanted end, the wanted exception -/
abbrev Sp := List V → Hp → VK → XK → Prop
/-- how an exception lies behind a call (file 08 gives it): the callers' frames, abstract heap and state ahead of the call, the wish, the exception, the state -/
abbrev CXT := List Env → Hp → Shared → XK → Value → Shared → Prop

/-- the state at a call -/
structure Env0 (P : Program) (w : World) (K : PySem.W.Frag) (mg : Str → Option Value) (base : Heap) (A : Around) (outer : List Env) (s : Shared) (H : Hp) : Prop where
  frames : A.frames = some outer
  mod : Mod K mg base
  bs : ∀ b o, base.get? b = some o → s.heap.get? b = some o ∧ H b = none
  bsz : base.objs.size ≤ s.heap.objs.size
  funs : s.heap.FunFrames base outer
  frf : ∀ b ∈ frs outer, H b = none
  hok : HOk P w H s.heap
  bare : AllBare s.gens
/-- a call's end -/
def CE (outer : List Env) (P : Program) (w : World) (H : Hp) (s : Shared) (Q : VK) (u : Value) (s' : Shared) : Prop :=
  ∃ v H', s'.os = s.os ∧ AllBare s'.gens ∧ Un (frs outer) [] H H' s.heap s'.heap ∧ HOk P w H' s'.heap ∧ RelV v u ∧ Q v H'
def CR (CX : CXT) (outer : List Env) (P : Program) (w : World) (H : Hp) (s : Shared) (Q : VK) (E : XK) (r : Result) (s' : Shared) : Prop :=
  match r with
  | .ok (.ret u) => CE outer P w H s Q u s'
  | .ok _ => False
  | .error e => CX outer H s E e s'
structure FnOk (P : Program) (w : World) (K : PySem.W.Frag) (mg : Str → Option Value) (base : Heap) (CX : CXT) (k : Nat) (f : Addr) (fd : FuncData) (ps : List Str) (sp : Sp) : Prop where
  len : ∀ vs H Q E, sp vs H Q E → vs.length = ps.length
  run : ∀ (A : Around) (outer : List Env) (s : Shared) (H : Hp) (args : Args) (us : List Value) (vs : List V) (Q : VK) (E : XK), Room k A → Env0 P w K mg base A outer s H → BindsTo s fd args (ps.zip us) → Vals vs us → sp vs H Q E →
    codeAny (model P w) A (.call (.ref f) args) (CR CX outer P w H s Q E) s
theorem FnOk.mono {P : Program} {w : World} {K : PySem.W.Frag} {mg : Str → Option Value} {base : Heap} {CX : CXT} {j k : Nat} {f : Addr} {fd : FuncData} {ps : List Str} {sp : Sp} (F : FnOk P w K mg base CX j f fd ps sp) (h : j ≤ k) :
    FnOk P w K mg base CX k f fd ps sp := ⟨F.len, fun A outer s H args us vs Q E hr => F.run A outer s H args us vs Q E (hr.mono h)⟩
/-- a weaker promise -/
theorem FnOk.imp {P : Program} {w : World} {K : PySem.W.Frag} {mg : Str → Option Value} {base : Heap} {CX : CXT} {k : Nat} {f : Addr} {fd : FuncData} {ps : List Str} {sp sp' : Sp} (F : FnOk P w K mg base CX k f fd ps sp)
    (h : ∀ vs H Q E, sp' vs H Q E → sp vs H Q E) : FnOk P w K mg base CX k f fd ps sp' :=
  ⟨fun vs H Q E q => F.len vs H Q E (h _ _ _ _ q), fun A outer s H args us vs Q E hr he hb hv hs => F.run A outer s H args us vs Q E hr he hb hv (h _ _ _ _ hs)⟩

theorem Env0.make {P : Program} {w : World} {K : PySem.W.Frag} {mg : Str → Option Value} {base : Heap} {A : Around} {outer : List Env} {s : Shared} {H : Hp} (e : Env0 P w K mg base A outer s H) (C : Addr) (us : List Value) (kw : List (Str × Value)) :
    Env0 P w K mg base (A.under (.builtin "type.__call__" ⟨.ref C :: us, kw⟩)) outer s H := ⟨by first | exact e.frames | (simpa [Around.under, Code.envs, Code.isFrame, pushEnvs] using e.frames), e.mod, e.bs, e.bsz, e.funs, e.frf, e.hok, e.bare⟩
theorem Env0.in1 {P : Program} {w : World} {K : PySem.W.Frag} {mg : Str → Option Value} {base : Heap} {A : Around} {outer : List Env} {s : Shared} {H : Hp} (e : Env0 P w K mg base A outer s H) :
    Env0 P w K mg base A.in1 outer s H := ⟨e.frames, e.mod, e.bs, e.bsz, e.funs, e.frf, e.hok, e.bare⟩

section
variable {X : Cx} {pins : List (Addr × Obj)} {σ : St} {H : Hp} {s s' : Shared}
/-- from a body: what a callee wants -/
theorem Inv.env0 (I : Inv X pins σ H s) : Env0 X.prog X.w X.K X.mg X.base X.A X.stack s H :=
  ⟨I.ok.frames, I.ok.mod, I.bs, Nat.le_trans I.ok.bsz I.sz, I.stack, I.stkFree, I.hok, I.bare⟩
/-- behind a call -/
theorem Inv.after {Q : VK} {u : Value} (I : Inv X pins σ H s) (h : CE X.stack X.prog X.w H s Q u s') : EP X pins σ Q u s' := by
  obtain ⟨v, H', os, bare, un, hok, r, q⟩ := h
  obtain ⟨hh, g, d, t, os'⟩ := s'
  obtain rfl : os' = s.os := os
  exact ⟨v, H', I.call (h' := hh) (g' := g) (d' := d) (t' := t) (ch := []) un hok bare (fun b z => absurd z (by simp)), r, q⟩
end

/-! ### calls -/
/-- f(..): the written arguments, then the defaults dvs; E: what is wanted of an exception -/
def tCall (sp : Sp) (dvs : List V) (E : XK) (t : TA) : TE := fun σ H Q => t σ H fun vs H1 => sp (vs ++ dvs) H1 Q E
/-- o.m(..) of an instance of the class at C -/
def tMeth (C : Addr) (m : Str) (sp : Sp) (dvs : List V) (E : XK) (ta : TE) (t : TA) : TE := fun σ H Q => ta σ H fun x H1 => ∃ a dx fs, x = .ref a ∧ H1 a = some (.ins C dx fs) ∧ fs.lookup m = none ∧
  t σ H1 fun vs H2 => sp (x :: (vs ++ dvs)) H2 Q E
/-- C(..): a new instance and its dict, then __init__ -/
def tMake (C : Addr) (sp : Sp) (dvs : List V) (E : XK) (t : TA) : TE := fun σ H Q => t σ H fun vs H1 => ∀ x dx, H1 x = none → H1 dx = none → dx ≠ x →
  sp (.ref x :: (vs ++ dvs)) (upd (upd H1 dx (.own x)) x (.ins C dx [])) (fun v H2 => v = .non ∧ Q (.ref x) H2) E

/-- how the parameters are bound: us the positional arguments, kw the keywords' values by name, ds the defaults that fill up -/
def Binds (K : PySem.W.Frag) (fd : FuncData) (ps : List Str) (ds : List Value) : Prop :=
  ∀ (s : Shared) (us : List Value), K.In s.heap → (us ++ ds).length = ps.length → BindsTo s fd ⟨us, []⟩ (ps.zip (us ++ ds))
/-- every parameter is given -/
theorem Binds.all {K : PySem.W.Frag} {fd : FuncData} {ps : List Str} (h : ∀ us : List Value, us.length = ps.length → bindArgs fd ⟨us, []⟩ = pure (ps.zip us)) : Binds K fd ps [] := fun s us _ hl => by
  rw [List.append_nil] at hl ⊢
  exact .of_eq (h us hl)

/-- an exception of a callee reaches what this body wants of exceptions -/
def Passes (CX : CXT) (X : Cx) (E : XK) : Prop := ∀ (pins : List (Addr × Obj)) (σ : St) (H : Hp) (s : Shared) (e : Value) (s' : Shared), Inv X pins σ H s → CX X.stack H s E e s' → X.xe e s'

section
variable {X : Cx} {CX : CXT} {k : Nat} {f C : Addr} {fd : FuncData} {ps : List Str} {sp : Sp} {dvs : List V} {ds : List Value} {E : XK} {x m : Str} {p pos apos : Pos} {e o : Expr} {es : List Expr} {ta : TE} {t : TA}

/-- the callee runs -/
theorem run_fn {pins : List (Addr × Obj)} {σ : St} {H : Hp} {s : Shared} {Q : VK} {us : List Value} {vs : List V} (F : FnOk X.prog X.w X.K X.mg X.base CX k f fd ps sp) (hr : Room k X.A) (hb : Binds X.K fd ps ds) (hd : Vals dvs ds) (hx : Passes CX X E)
    (I : Inv X pins σ H s) (r : Vals vs us) (h : sp (vs ++ dvs) H Q E) : wpAny (model X.prog X.w) X.A (call (.ref f) us) (EP X pins σ Q) X.xe s := by
  have r2 : Vals (vs ++ dvs) (us ++ ds) := r.append hd
  have hl : (us ++ ds).length = ps.length := by rw [← r2.length]; exact F.len _ _ _ _ h
  refine wpAny_call (codeAny_mono (F.run X.A X.stack s H ⟨us, []⟩ (us ++ ds) (vs ++ dvs) Q E hr I.env0 (hb s us I.kIn hl) r2 h) fun r s' hq => ?_)
  cases r with
  | error e => exact hx pins σ H s e s' I hq
  | ok fl =>
    cases fl with
    | ret u => exact I.after hq
    | next => exact False.elim hq
    | brk => exact False.elim hq
    | cont => exact False.elim hq

theorem pe_call (F : FnOk X.prog X.w X.K X.mg X.base CX k f fd ps sp) (hr : Room k X.A) (hg : Gl X x) (hm : X.mg x = some (.ref f)) (hk : PySem.W.keepIn X.K (.ref f) = true) (hb : Binds X.K fd ps ds) (hd : Vals dvs ds) (hx : Passes CX X E)
    (ha : PA X (e :: es) t) (hdb : (x == ("__debug__" : Str)) = false := by decide) (he : starEach (e :: es) X.env = (false, eval e X.env) :: starEach es X.env := by rfl) (hpl : (backTo pos (starEach es X.env)).any (·.1) = false := by rfl) :
    PE X (.Call (.Name x p) (e :: es) [] pos) (tCall sp dvs E t) := by
  intro pins s σ H Q I h
  refine wpAny_Call_Name_kw (ld_glob I hg hm ?_ hdb)
  refine PySem.W.callWith_K (h₀ := X.base) I.ok.mod.kin hk (thn (ha pos pins s σ H _ I h) fun us s1 ⟨vs, H1, I1, r, q⟩ => ⟨I1.kIn, ?_⟩) he hpl
  exact run_fn F hr hb hd hx I1 r q
/-- o.m(e, ..) -/
theorem pe_meth {pl : Sem Bool} (he : PE X o ta) (c : Cls X.K C) (hm : Meth X.K C m f) (F : FnOk X.prog X.w X.K X.mg X.base CX k f fd ps sp) (hr : Room k X.A) (hb : Binds X.K fd ps ds) (hd : Vals dvs ds) (hx : Passes CX X E) (ha : PA X (e :: es) t)
    (hst : starEach (e :: es) X.env = (false, eval e X.env) :: starEach es X.env := by rfl) (hpl : (backTo pos (starEach es X.env)).any (·.1) = false := by rfl)
    (ht : eval (.Call (.Attribute o m apos) (e :: es) [] pos) X.env = (do
      let ov ← eval o X.env
      standAt apos.atName
      let (f, first) ← holding [ov] (getMethod ov m pl)
      callWith pos f first (backTo pos (starEach (e :: es) X.env)) (backToKw pos (keywordEach [] X.env))) := by rfl) :
    PE X (.Call (.Attribute o m apos) (e :: es) [] pos) (tMeth C m sp dvs E ta t) := by
  intro pins s σ H Q I h
  refine PySem.W.methodCall_KW (pl := pl) (thn (he pins s σ H _ I h) fun u s1 ⟨x, H1, I1, rx, a, dx, fs, ex, ea, l, q⟩ => ?_) ht
  subst ex
  obtain rfl : u = Value.ref a := rx
  refine getmeth_ok I1 ea c hm l ?_
  refine PySem.W.callWith_K (first := [.ref a]) (h₀ := X.base) I.ok.mod.kin hm.kp (thn (ha pos pins s1 σ H1 _ I1 q) fun us s2 ⟨vs, H2, I2, r, q2⟩ => ⟨I2.kIn, ?_⟩) hst hpl
  exact run_fn (us := .ref a :: us) (vs := .ref a :: vs) F hr hb hd hx I2 (.cons rfl r) q2
/-- o.m() -/
theorem pe_meth0 {pl : Sem Bool} (he : PE X o ta) (c : Cls X.K C) (hm : Meth X.K C m f) (F : FnOk X.prog X.w X.K X.mg X.base CX k f fd ps sp) (hr : Room k X.A) (hb : Binds X.K fd ps ds) (hd : Vals dvs ds) (hx : Passes CX X E)
    (ht : eval (.Call (.Attribute o m apos) [] [] pos) X.env = (do
      let ov ← eval o X.env
      standAt apos.atName
      let (f, first) ← holding [ov] (getMethod ov m pl)
      callWith pos f first (backTo pos (starEach [] X.env)) (backToKw pos (keywordEach [] X.env))) := by rfl) :
    PE X (.Call (.Attribute o m apos) [] [] pos) (tMeth C m sp dvs E ta tNil) := by
  intro pins s σ H Q I h
  refine PySem.W.methodCall_KW (pl := pl) (thn (he pins s σ H _ I h) fun u s1 ⟨x, H1, I1, rx, a, dx, fs, ex, ea, l, q⟩ => ?_) ht
  subst ex
  obtain rfl : u = Value.ref a := rx
  refine getmeth_ok I1 ea c hm l ?_
  exact PySem.W.callWith_K0 (first := [.ref a]) I1.kIn hm.kp (run_fn (us := [.ref a]) (vs := [.ref a]) F hr hb hd hx I1 (.cons rfl .nil) q)

/-- what a class must have to be made -/
structure Mk (K : PySem.W.Frag) (C f : Addr) : Prop where
  makes : PySem.W.makesIn K C = true
  init : PySem.W.findIn K (.ref C) "__init__" = some (some (.ref f))
  fn : PySem.W.isFn K (.ref f) = true
  kp : PySem.W.keepIn K (.ref C) = true

theorem run_make {pins : List (Addr × Obj)} {σ : St} {H : Hp} {s : Shared} {Q : VK} {us : List Value} {vs : List V} (M : Mk X.K C f) (F : FnOk X.prog X.w X.K X.mg X.base CX k f fd ps sp) (hr : Room (k + 1) X.A) (hb : Binds X.K fd ps ds) (hd : Vals dvs ds)
    (hx : Passes CX X E) (I : Inv X pins σ H s) (r : Vals vs us)
    (h : ∀ x dx, H x = none → H dx = none → dx ≠ x → sp (.ref x :: (vs ++ dvs)) (upd (upd H dx (.own x)) x (.ins C dx [])) (fun v H2 => v = .non ∧ Q (.ref x) H2) E) :
    wpAny (model X.prog X.w) X.A (call (.ref C) us) (EP X pins σ Q) X.xe s := by
  have hq := h (s.heap.objs.size + 1) s.heap.objs.size (I.hok.fresh (Nat.le_succ _)) (I.hok.fresh (Nat.le_refl _)) (Nat.ne_of_lt (Nat.lt_succ_self _))
  have I2 := Inv.made (C := C) I
  have r2 : Vals (V.ref (s.heap.objs.size + 1) :: (vs ++ dvs)) (Value.ref (s.heap.objs.size + 1) :: (us ++ ds)) := .cons rfl (r.append hd)
  have hl : (Value.ref (s.heap.objs.size + 1) :: us ++ ds).length = ps.length := by
    have e := r2.length
    rw [F.len _ _ _ _ hq] at e
    exact e.symm
  refine wpAny_call (make_map (f := f) I.kIn M.makes M.init (beq_iff_eq.mp M.fn) (codeAny_mono (F.run _ X.stack _ _ ⟨Value.ref (s.heap.objs.size + 1) :: us, []⟩ (Value.ref (s.heap.objs.size + 1) :: (us ++ ds)) _ _ E (hr.make C us [])
    (I2.env0.make C us []) (hb _ (Value.ref (s.heap.objs.size + 1) :: us) I2.kIn hl) r2 hq) fun r s' hq' => ?_))
  cases r with
  | error e => exact hx pins σ _ _ e s' I2 hq'
  | ok fl =>
    cases fl with
    | ret u =>
      obtain ⟨v, H', I3, rv, ev, q3⟩ := I2.after hq'
      subst ev
      exact ⟨rv, ⟨V.ref (s.heap.objs.size + 1), H', I3, rfl, q3⟩⟩
    | next => exact False.elim hq'
    | brk => exact False.elim hq'
    | cont => exact False.elim hq'
theorem pe_make (M : Mk X.K C f) (F : FnOk X.prog X.w X.K X.mg X.base CX k f fd ps sp) (hr : Room (k + 1) X.A) (hg : Gl X x) (hm : X.mg x = some (.ref C)) (hb : Binds X.K fd ps ds) (hd : Vals dvs ds) (hx : Passes CX X E)
    (ha : PA X (e :: es) t) (hdb : (x == ("__debug__" : Str)) = false := by decide) (he : starEach (e :: es) X.env = (false, eval e X.env) :: starEach es X.env := by rfl) (hpl : (backTo pos (starEach es X.env)).any (·.1) = false := by rfl) :
    PE X (.Call (.Name x p) (e :: es) [] pos) (tMake C sp dvs E t) := by
  intro pins s σ H Q I h
  refine wpAny_Call_Name_kw (ld_glob I hg hm ?_ hdb)
  refine PySem.W.callWith_K (h₀ := X.base) I.ok.mod.kin M.kp (thn (ha pos pins s σ H _ I h) fun us s1 ⟨vs, H1, I1, r, q⟩ => ⟨I1.kIn, ?_⟩) he hpl
  exact run_make M F hr hb hd hx I1 r q
end

section
variable {X : Cx} {CX : CXT} {k : Nat} {f C : Addr} {fd : FuncData} {ps ks : List Str} {sp : Sp} {E : XK} {x m : Str} {p pos apos kpos : Pos} {e o : Expr} {es : List Expr} {kws : List Keyword} {te ta : TE} {t tk : TA} {nm : Option Str}
variable {g : List Value → List Value → List Value} {gV : List V → List V → List V}
end

/-! ### a def's body keeps its promise -/
/-- names: the parameters first -/
structure FnScope (N P : List Str) (sc : Scope) : Prop where
  kind : sc.kind = .function
  co : sc.isCoroutine = false
  gen : sc.isGenerator = false
  nd : N.Nodup
  pre : N.take P.length = P
  par : ∀ x ∈ P, sc.names.lookup x = some .local ∨ sc.names.lookup x = some .cell
  nofree : ∀ y ∈ sc.names, y.2 ≠ .free

theorem bindL_out {kindOf : Str → Option NameKind} {x : Str} : ∀ {binds : List (Str × Value)} {m : Str → Option Value}, (∀ v, (x, v) ∉ binds) → bindL kindOf binds m x = m x
  | [], _, _ => rfl
  | (n, v) :: r, m, h => by
    unfold bindL
    rw [bindL_out fun w hw => h w (List.mem_cons_of_mem _ hw)]
    split
    · have : x ≠ n := by rintro rfl; exact h v List.mem_cons_self
      simp [this]
    · rfl
theorem bindC_out {kindOf : Str → Option NameKind} {x : Str} : ∀ {binds : List (Str × Value)} {m : Str → Option Value}, (∀ v, (x, v) ∉ binds) → bindC kindOf binds m x = m x
  | [], _, _ => rfl
  | (n, v) :: r, m, h => by
    unfold bindC
    rw [bindC_out fun w hw => h w (List.mem_cons_of_mem _ hw)]
    split
    · rfl
    · have : x ≠ n := by rintro rfl; exact h v List.mem_cons_self
      simp [this]
theorem bindL_get {kindOf : Str → Option NameKind} {x : Str} {v : Value} : ∀ {P : List Str} {vs : List Value} {i : Nat} {m : Str → Option Value}, P.Nodup → P[i]? = some x → vs[i]? = some v → kindOf x = some .local →
    bindL kindOf (P.zip vs) m x = some v
  | [], _, _, _, _, h, _, _ => by simp at h
  | _ :: _, [], _, _, _, _, h, _ => by simp at h
  | p :: P, w :: vs, 0, m, nd, h1, h2, hk => by
    simp at h1 h2; subst h1; subst h2
    show bindL kindOf ((p, w) :: P.zip vs) m p = _
    unfold bindL
    rw [bindL_out fun v hv => (List.nodup_cons.mp nd).1 (List.of_mem_zip hv).1, if_pos hk]
    simp
  | p :: P, w :: vs, i + 1, m, nd, h1, h2, hk => by
    show bindL kindOf ((p, w) :: P.zip vs) m x = _
    unfold bindL
    exact bindL_get (i := i) (List.nodup_cons.mp nd).2 (by simpa using h1) (by simpa using h2) hk
theorem bindC_get {kindOf : Str → Option NameKind} {x : Str} {v : Value} : ∀ {P : List Str} {vs : List Value} {i : Nat} {m : Str → Option Value}, P.Nodup → P[i]? = some x → vs[i]? = some v → kindOf x ≠ some .local →
    bindC kindOf (P.zip vs) m x = some v
  | [], _, _, _, _, h, _, _ => by simp at h
  | _ :: _, [], _, _, _, _, h, _ => by simp at h
  | p :: P, w :: vs, 0, m, nd, h1, h2, hk => by
    simp at h1 h2; subst h1; subst h2
    show bindC kindOf ((p, w) :: P.zip vs) m p = _
    unfold bindC
    rw [bindC_out fun v hv => (List.nodup_cons.mp nd).1 (List.of_mem_zip hv).1, if_neg hk]
    simp
  | p :: P, w :: vs, i + 1, m, nd, h1, h2, hk => by
    show bindC kindOf ((p, w) :: P.zip vs) m x = _
    unfold bindC
    exact bindC_get (i := i) (List.nodup_cons.mp nd).2 (by simpa using h1) (by simpa using h2) hk

/-- the names' values at the entry -/
def start (N : List Str) (vs : List V) : St := vs.map some ++ List.replicate (N.length - vs.length) none

/-- the context of a def's body, at its entry; an exception leaves the frame, then lies as CX says -/
def cxOf (CX : CXT) (P : Program) (w : World) (K : PySem.W.Frag) (mg : Str → Option Value) (base : Heap) (N : List Str) (qual : Str) (scope : Scope) (f : Addr) (cd : Value) (A : Around) (outer : List Env) (s : Shared) (H : Hp) (E : XK) : Cx where
  prog := P
  w := w
  K := K
  mg := mg
  base := base
  A := A.deeper (envOfC qual scope s.heap.objs.size f cd)
  N := N
  s₀ := s
  H₀ := H
  env := envOfC qual scope s.heap.objs.size f cd
  outer := outer
  stack := envOfC qual scope s.heap.objs.size f cd :: outer
  ex := []
  calm := true
  fn := fun _ => true
  pn := []
  xe := fun e s' => wpAny (model P w) (A.deeper (envOfC qual scope s.heap.objs.size f cd)) (leaving (envOfC qual scope s.heap.objs.size f cd) e) (fun _ s'' => CX outer H s E e s'') (fun e' s'' => CX outer H s E e' s'') s'

theorem cell_has {sc : Scope} {n : Nat} {x : Str} (h : sc.names.lookup x = some .cell) : ∃ c, (cellsFrom n sc.names []).lookup x = some c := by
  have q := PySem.W.cellsFrom_some sc.names n [] (.inl h)
  exact Option.isSome_iff_exists.mp q

theorem inv_start {CX : CXT} {P : Program} {w : World} {K : PySem.W.Frag} {mg : Str → Option Value} {base : Heap} {N ps : List Str} {qual : Str} {scope : Scope} {f : Addr} {cd : Value} {A : Around} {outer : List Env} {s s1 : Shared} {H : Hp} {E : XK} {us : List Value} {vs : List V}
    (S : FnScope N ps scope) (hd : A.handled = none) (e0 : Env0 P w K mg base A outer s H) (hl : vs.length = ps.length) (r : Vals vs us)
    (x : InCallC s s.heap.objs.size (bindL (envOfC qual scope s.heap.objs.size f cd).kindOf (ps.zip us) fun _ => none) (cellsFrom (s.heap.objs.size + 1) scope.names []) (bindC (envOfC qual scope s.heap.objs.size f cd).kindOf (ps.zip us) fun _ => none) s1) :
    Inv (cxOf CX P w K mg base N qual scope f cd A outer s H E) [] (start N vs) H s1 := by
  have hpl : ps.length ≤ N.length := by have := congrArg List.length S.pre; rw [List.length_take] at this; omega
  obtain ⟨h1, tk, rfl, hk⟩ := x.done
  have noA : ∀ b : Addr, b ∉ (cxOf CX P w K mg base N qual scope f cd A outer s H E).ex := fun b z => absurd (show b ∈ ([] : List Addr) from z) (by simp)
  refine ⟨⟨e0.mod, S.kind, rfl, rfl, Nat.le_refl _, fun y z c h1 h2 => ?_, fun y hy => ?_, fun y c _ h => ?_, fun _ => hd, Around.frames_deeper e0.frames, .inr ⟨rfl, rfl⟩, fun b z => absurd z (noA b), e0.bs, e0.bsz, fun b _ _ => noA b, fun b z => absurd z (noA b), e0.funs, e0.frf⟩,
    rfl, e0.bare, Un.kept hk, ⟨_, x.toInCall.ns, fun i y v h1 h2 h3 => ?_⟩, fun y c h => ⟨_, x.cell y c h⟩, e0.hok.fresh (Nat.le_refl _), fun y c h => ?_, fun p hp => absurd (show p ∈ ([] : List (Addr × Obj)) from hp) (by simp), e0.hok.kept hk, ?_⟩
  · exact name_of_addr x.apart (PySem.mem_of_lookup h1) (PySem.mem_of_lookup h2)
  · have hy : scope.names.lookup y = some .cell ∨ scope.names.lookup y = some .free := hy
    rcases hy with hy | hy
    · exact cell_has hy
    · exact absurd rfl (S.nofree _ (PySem.mem_of_lookup hy))
  · exact Nat.le_of_lt (x.above y c (PySem.mem_of_lookup h))
  · have hi : i < vs.length := by
      unfold start at h2
      by_cases hi : i < vs.length
      · exact hi
      · rw [List.getElem?_append_right (by simpa using hi)] at h2
        rw [List.getElem?_replicate] at h2
        split at h2 <;> cases h2
    have ha : vs[i]? = some v := by
      unfold start at h2
      rw [List.getElem?_append_left (by simpa using hi), List.getElem?_map] at h2
      cases e : vs[i]? with
      | none => rw [e] at h2; cases h2
      | some a => rw [e] at h2; cases h2; rfl
    obtain ⟨u, hu, rv⟩ := r.get ha
    have hp : ps[i]? = some y := by
      rw [← S.pre, List.getElem?_take_of_lt (by omega)]; exact h1
    have ndP : ps.Nodup := by rw [← S.pre]; exact S.nd.sublist (List.take_sublist _ _)
    refine ⟨u, rv, ?_⟩
    rcases S.par y (List.mem_of_getElem? hp) with k | k
    · exact .inl ⟨k, bindL_get ndP hp hu k⟩
    · obtain ⟨c, e⟩ := cell_has (n := s.heap.objs.size + 1) k
      refine .inr ⟨.inl k, c, e, ?_⟩
      have q := x.cell y c e
      rw [bindC_get ndP hp hu (by show scope.names.lookup y ≠ _; rw [k]; decide)] at q
      exact q
  · exact e0.hok.fresh (Nat.le_of_lt (x.above y c (PySem.mem_of_lookup h)))
  · unfold start
    show _ = N.length
    rw [List.length_append, List.length_map, List.length_replicate]
    omega

/-- THE RULE: a def (or a method) of the text, by its body. The body's reading t is chosen for each entry; it is run at the parameters' values -/
theorem fn_of {CX : CXT} {P : Program} {w : World} {K : PySem.W.Frag} {mg : Str → Option Value} {base : Heap} {k : Nat} {f : Addr} {name qual : Str} {params : Arguments} {body : List Stmt} {scope : Scope} {dV kV doc pm cdv ct oc : Value} {an od : Option Addr}
    {osl : Array (Option Value)} {N ps : List Str} {sp : Sp} (lk : K.lookup f = some ⟨oc, od, .func (PySem.W.fnOf name qual params body scope dV kV doc pm an cdv ct), osl⟩) (hcd : PySem.W.codeIn K cdv qual = true) (S : FnScope N ps scope)
    (len : ∀ vs H Q E, sp vs H Q E → vs.length = ps.length)
    (hbody : ∀ (A : Around) (outer : List Env) (s : Shared) (H : Hp) (vs : List V) (Q : VK) (E : XK), Room k (A.deeper (envOfC qual scope s.heap.objs.size f cdv)) → sp vs H Q E →
      ∃ t, PSs (cxOf CX P w K mg base N qual scope f cdv A outer s H E) body t ∧ t { nx := fun _ H' => Q .non H', rt := Q } (start N vs) H) :
    FnOk P w K mg base CX (k + 1) f (PySem.W.fnOf name qual params body scope dV kV doc pm an cdv ct) ps sp := by
  refine ⟨len, fun A outer s H args us vs Q E hr e0 hb r hsp => ?_⟩
  have hl := len _ _ _ _ hsp
  have KX : K.In s.heap := e0.mod.kin.keeps fun b o e => (e0.bs b o e).1
  have lim : s.heap.NoLimit := e0.mod.nolimit.keeps fun b o e => (e0.bs b o e).1
  have hkind : ∀ y ∈ ps.zip us, scope.names.lookup y.1 = some .local ∨ (scope.names.lookup y.1 = some .cell ∧ ((cellsFrom (s.heap.objs.size + 1) scope.names []).lookup y.1).isSome = true) := fun ⟨n, v⟩ hy => by
    rcases S.par n (List.of_mem_zip hy).1 with q | q
    · exact .inl q
    · exact .inr ⟨q, PySem.W.cellsFrom_some _ _ _ (.inl q)⟩
  refine codeAny_call_function hr.depth (KX _ _ lk) rfl S.co S.gen rfl (PySem.W.codeRec_of KX hcd) (hb _ _ _ _ ?_)
  refine wpAny_newFunctionEnv_cells S.kind hkind fun env he s1 x => ?_
  subst he
  refine ⟨lim.keeps x.toInCall.keep, codeAny_func ?_⟩
  obtain ⟨t, ht, hq⟩ := hbody A outer s H vs Q E (hr.deeper _) hsp
  have I : Inv (cxOf CX P w K mg base N qual scope f cdv A outer s H E) [] (start N vs) H s1 := inv_start S hr.hd e0 hl r x
  refine wpAny_mono (ht [] s1 (start N vs) H _ I hq) (fun fl s' hs => ?_) fun e s' hs => hs
  have fin : ∀ {σ' : St} {H' : Hp} {v : V} {u : Value}, Inv (cxOf CX P w K mg base N qual scope f cdv A outer s H E) [] σ' H' s' → RelV v u → Q v H' → CE outer P w H s Q u s' :=
    fun {σ' H' v u} J rv q => ⟨v, H', J.os, J.bare, J.base, J.hok, rv, q⟩
  cases fl with
  | ret u =>
    obtain ⟨v, σ', H', J, rv, q⟩ := hs
    exact fin J rv q
  | next =>
    obtain ⟨σ', H', J, q⟩ := hs
    exact fin (v := V.non) (u := Value.none) J rfl q
  | brk =>
    obtain ⟨_, _, _, q⟩ := hs
    exact False.elim q
  | cont =>
    obtain ⟨_, _, _, q⟩ := hs
    exact False.elim q
end L2

namespace L2
open PySem PySem.Spec PyProof.Rows
section
variable {X : Cx} {x : Str} {p pos : Pos} {e : Expr} {es : List Expr} {t : TA} {id T : String} {r : List V → Hp → VK → Prop}

def tCB (r : List V → Hp → VK → Prop) (t : TA) : TE := fun σ H Q => t σ H fun vs H1 => r vs H1 Q
/-- f(e, ..), f a built-in function -/
theorem pe_callB (hc : CallR X (.builtin id) r) (hg : Gl X x) (hm : X.mg x = none) (hv : bootBuiltins x = some (.builtin id)) (ha : PA X (e :: es) t) (hn : x ≠ "__name__" := by decide) (hdb : (x == ("__debug__" : Str)) = false := by decide)
    (he : starEach (e :: es) X.env = (false, eval e X.env) :: starEach es X.env := by rfl) (hpl : (backTo pos (starEach es X.env)).any (·.1) = false := by rfl) : PE X (.Call (.Name x p) (e :: es) [] pos) (tCB r t) := by
  intro pins s σ H Q I h
  refine wpAny_Call_Name_kw (ld_blt I hg hm hv ?_ hn hdb)
  exact PyProof.Rows.callWith_builtin1 (thn (ha pos pins s σ H _ I h) fun us s1 ⟨vs, H1, I1, r1, q1⟩ => hc pins s1 σ H1 vs us Q I1 r1 q1) he hpl
/-- T(e, ..), T a built-in type -/
theorem pe_callTy (hc : CallR X (.type T) r) (hg : Gl X x) (hm : X.mg x = none) (hv : bootBuiltins x = some (.type T)) (ha : PA X (e :: es) t) (hn : x ≠ "__name__" := by decide) (hdb : (x == ("__debug__" : Str)) = false := by decide)
    (he : starEach (e :: es) X.env = (false, eval e X.env) :: starEach es X.env := by rfl) (hpl : (backTo pos (starEach es X.env)).any (·.1) = false := by rfl) : PE X (.Call (.Name x p) (e :: es) [] pos) (tCB r t) := by
  intro pins s σ H Q I h
  refine wpAny_Call_Name_kw (ld_blt I hg hm hv ?_ hn hdb)
  exact PyProof.Rows.callWith_type1 (thn (ha pos pins s σ H _ I h) fun us s1 ⟨vs, H1, I1, r1, q1⟩ => hc pins s1 σ H1 vs us Q I1 r1 q1) he hpl
end
end L2

namespace HT
open PySem PyProof.Rows

section
open PySem.SeqAt
open PySem.AutoSeq1 (wpAny_loadPart')
open PySem.MeetsSeq PySem.MeetsSeq2 PySem.MeetsSeq3

end

section
variable {prog : Program} {w : World} {A : Around} {E : Value → Shared → Prop} {s : Shared}

end
end HT

namespace L2
open PySem PySem.Spec PyProof.Rows

/-! ### the parts of a slice -/
abbrev TO := St → Hp → (Option Int → Hp → Prop) → Prop
section
variable {X : Cx} {e : Expr} {te : TE} {lo hi : Option Expr} {tl th : TO} {pos p2 : Pos}

end
end L2

namespace L2
open PySem PySem.Spec PyProof.Rows

/-! ### places -/
/-- the place that an index of any sign means -/
def ixN (n : Nat) (i : Int) : Option Nat := if 0 ≤ i then (if i < n then some i.toNat else none) else if -(n : Int) ≤ i then some (i + n).toNat else none
def atI {α : Type} (xs : List α) (i : Int) : Option α := (ixN xs.length i).bind fun j => xs[j]?
theorem ixN_seq {n : Nat} {i : Int} {j : Nat} (h : ixN n i = some j) : seqIndex? i n = some j ∧ j < n ∧ -(n : Int) ≤ i ∧ i < n := by
  unfold ixN at h
  by_cases h0 : 0 ≤ i
  · rw [if_pos h0] at h
    by_cases h1 : i < n
    · rw [if_pos h1] at h
      have e : i.toNat = j := Option.some.inj h
      exact ⟨by rw [seqIndex_of h0 h1, e], by omega, by omega, h1⟩
    · rw [if_neg h1] at h; cases h
  · rw [if_neg h0] at h
    by_cases h1 : -(n : Int) ≤ i
    · rw [if_pos h1] at h
      have e : (i + n).toNat = j := Option.some.inj h
      exact ⟨by rw [seqIndex_neg (by omega) h1, e], by omega, h1, by omega⟩
    · rw [if_neg h1] at h; cases h
theorem atI_get {α : Type} {xs : List α} {i : Int} {v : α} (h : atI xs i = some v) : ∃ j, seqIndex? i xs.length = some j ∧ xs[j]? = some v ∧ j < xs.length ∧ -(xs.length : Int) ≤ i ∧ i < xs.length := by
  unfold atI at h
  cases e : ixN xs.length i with
  | none => rw [e] at h; cases h
  | some j =>
    rw [e] at h
    obtain ⟨h1, h2, h3, h4⟩ := ixN_seq e
    exact ⟨j, h1, h, h2, h3, h4⟩
theorem atI_nat {α : Type} {xs : List α} {j : Nat} {v : α} (h : xs[j]? = some v) : atI xs (j : Int) = some v := by
  have hj : j < xs.length := (List.getElem?_eq_some_iff.mp h).1
  have e : ixN xs.length (j : Int) = some j := by
    unfold ixN
    rw [if_pos (by omega), if_pos (by omega)]; simp
  unfold atI; rw [e]; exact h
/-! ### what may be subscripted -/
/-- what stands as an index of a plain subscript -/
def PlainIx (b : Expr) : Prop := ∀ o i, subscripted b false o i = operate [o, i] (getItem o i)
/-- a subscript by values -/
def IxR (X : Cx) (r : R2) : Prop :=
  ∀ (value slice : Expr) (pins : List (Addr × Obj)) (s : Shared) (σ : St) (H : Hp) (x y : V) (v u : Value) (Q : VK), Inv X pins σ H s → RelV x v → RelV y u → r x y H Q →
    subscripted slice false v u = operate [v, u] (getItem v u) → wpAny (model X.prog X.w) X.A (subscriptTail value slice v u) (EP X pins σ Q) X.xe s
/-- a call of a builtin's method by values: the receiver, the arguments -/
def MtR (X : Cx) (id : String) (r : V → List V → Hp → VK → Prop) : Prop :=
  ∀ (pins : List (Addr × Obj)) (s : Shared) (σ : St) (H : Hp) (x : V) (xs : List V) (v : Value) (us : List Value) (Q : VK), Inv X pins σ H s → RelV x v → Vals xs us → r x xs H Q →
    wpAny (model X.prog X.w) X.A (call (.builtin id) (v :: us)) (EP X pins σ Q) X.xe s
section
variable {X : Cx} {a b : Expr} {ta tb : TE} {pos : Pos}
/-- a[b] -/
theorem pe_ix {r : R2} (hr : IxR X r) (ha : PE X a ta) (hb : PE X b tb) (hs : PlainIx b) : PE X (.Subscript a b pos) (tOp r ta tb) := by
  intro pins s σ H Q I h
  exact Subscript_ (binT ha hb I h fun v u s2 x y H2 I2 rx ry q => hr a b pins s2 σ H2 x y v u Q I2 rx ry q (hs _ _))

def rIxL (K : PySem.W.Frag) : R2 := fun x y H Q => ∃ p xs i v, x = .ref p ∧ y = .int i ∧ SqL K H p xs ∧ atI xs i = some v ∧ Q v H
def rIxT (K : PySem.W.Frag) : R2 := fun x y H Q => ∃ p xs i v, x = .ref p ∧ y = .int i ∧ SqT K H p xs ∧ atI xs i = some v ∧ Q v H
theorem ix_list : IxR X (rIxL X.K) := by
  intro value slice pins s σ H x y v u Q I rx ry h hs
  obtain ⟨p, xs, i, z, rfl, rfl, hq, he, q⟩ := h
  cases rx
  obtain ⟨t, rfl⟩ := ry
  obtain ⟨its, r, pl, hz⟩ := I.list hq
  obtain ⟨j, h1, h2, h3, h4, h5⟩ := atI_get he
  obtain ⟨w, ew, rw'⟩ := r.get h2
  have hl := r.length
  have hn := line63
  have fin : EP X pins σ Q w s := ⟨z, H, I, rw', q⟩
  by_cases h0 : 0 ≤ i
  · have hj : i.toNat = j := by
      rw [seqIndex_of h0 h5] at h1
      exact Option.some.inj h1
    exact item_listR pl.isList h0 (by omega) (by rw [hj]; simpa using ew) fin hs
  · have hj : (i + (its.toArray.size : Int)).toNat = j := by
      rw [seqIndex_neg (by omega) h4] at h1
      rw [List.size_toArray, ← hl]
      exact Option.some.inj h1
    exact subscriptTail_builtinR (x := w) pl.isList.typeIs slot_list_getitem.lookup
      (wpAny_getItem_list_neg (Q := fun r s' => r = w ∧ EP X pins σ Q r s') pl.isList (by omega) (by rw [List.size_toArray] <;> omega) (by omega) (by rw [hj]; simpa using ew) ⟨rfl, fin⟩) hs
theorem ix_tup : IxR X (rIxT X.K) := by
  intro value slice pins s σ H x y v u Q I rx ry h hs
  obtain ⟨p, xs, i, z, rfl, rfl, hq, he, q⟩ := h
  cases rx
  obtain ⟨t, rfl⟩ := ry
  obtain ⟨its, r, pl, hz⟩ := I.tuple hq
  obtain ⟨j, h1, h2, h3, h4, h5⟩ := atI_get he
  obtain ⟨w, ew, rw'⟩ := r.get h2
  have hl := r.length
  have hn := line63
  have fin : EP X pins σ Q w s := ⟨z, H, I, rw', q⟩
  exact subscriptTail_builtinR (x := w) pl.typeIs slot_tuple_getitem.lookup
    (getItem_tuple (j := j) (Q := fun r s' => r = w ∧ EP X pins σ Q r s') pl (by omega) (by omega) (by rw [List.size_toArray, ← hl]; exact h1) (by simpa using ew) ⟨rfl, fin⟩) hs
/-! ### xs[i] = v, any sign -/
/-- the list's object behind a store -/
theorem mapSeq_set (its : List Value) (n j : Nat) (u : Value) : Obj.mapSeq (·.setIfInBounds j u) { cls := .type "list", data := .seq its.toArray n } = { cls := .type "list", data := .seq (its.set j u).toArray n } := by
  simp [Obj.mapSeq]
theorem Inv.lst {pins : List (Addr × Obj)} {σ : St} {H : Hp} {s : Shared} {p : Addr} {xs : List V} (I : Inv X pins σ H s) (h : H p = some (.lst xs)) :
    ∃ (its : List Value) (n : Nat), Vals xs its ∧ s.heap.get? p = some { cls := .type "list", data := .seq its.toArray n } ∧ xs.length ≤ sizeLine := by
  obtain ⟨z, its, n, r, e⟩ := I.hok p _ h
  exact ⟨its, n, r, e, z⟩
/-- the list at p is written by an update of its object -/
theorem Inv.lstUpd {pins : List (Addr × Obj)} {σ : St} {H : Hp} {s : Shared} {p : Addr} {xs ys : List V} {its its' : List Value} {n n' : Nat} {f : Obj → Obj} (I : Inv X pins σ H s) (h : H p = some (.lst xs))
    (ho : s.heap.get? p = some { cls := .type "list", data := .seq its.toArray n }) (hf : f { cls := .type "list", data := .seq its.toArray n } = { cls := .type "list", data := .seq its'.toArray n' }) (r : Vals ys its') (hz : ys.length ≤ sizeLine) (t : Nat) :
    Inv X pins σ (upd H p (.lst ys)) { s with heap := s.heap.update p f, toks := t } := by
  have e : (s.heap.update p f).get? p = some { cls := .type "list", data := .seq its'.toArray n' } := by
    rw [Heap.get?_update_self f ho (by rw [hf] <;> rfl), hf]
  refine I.write (x := p) (e := p) (by rw [h]; trivial) (.inl rfl) (fun b u hb q => (Heap.get?_update_other _ _ (Ne.symm hb)).trans q) ⟨_, e⟩ ?_
  exact ⟨hz, its', n', r, e⟩
def rSetL : V → V → V → Hp → (Hp → Prop) → Prop := fun o i v H Q => ∃ p xs k j, o = .ref p ∧ i = .int k ∧ H p = some (.lst xs) ∧ ixN xs.length k = some j ∧ Q (upd H p (.lst (xs.set j v)))
theorem set_list : PSet X rSetL := by
  intro pins s σ H o i v ov iv u Q I ro ri rv h
  obtain ⟨p, xs, k, j, rfl, rfl, hp, hj, q⟩ := h
  cases ro
  obtain ⟨t, rfl⟩ := ri
  obtain ⟨its, n, r, ho, hz⟩ := I.lst hp
  obtain ⟨h1, h2, h3, h4⟩ := ixN_seq hj
  have hl := r.length
  have hn := line63
  have I' : Inv X pins σ (upd H p (.lst (xs.set j v))) { s with heap := s.heap.update p (Obj.mapSeq (·.setIfInBounds j u)) } :=
    I.lstUpd hp ho (mapSeq_set its n j u) (r.set rv j) (by rw [List.length_set]; exact hz) s.toks
  by_cases h0 : 0 ≤ k
  · have hk : k.toNat = j := by
      rw [seqIndex_of h0 h4] at h1
      exact Option.some.inj h1
    exact PySem.W.ki_setAt ho h0 (by omega) (by rw [List.size_toArray, ← hl]; exact h4) (by rw [hk]; exact ⟨_, I', q⟩)
  · have hk : (k + (its.toArray.size : Int)).toNat = j := by
      rw [seqIndex_neg (by omega) h3] at h1
      rw [List.size_toArray, ← hl]
      exact Option.some.inj h1
    exact PySem.W.ki_setBack ho (by omega) (by rw [List.size_toArray, ← hl]; exact h3) (by omega) (by rw [hk]; exact ⟨_, I', q⟩)

/-! ### in, not in: flat items -/
def flatV : V → Bool
  | .non => true
  | .bl _ => true
  | .int _ => true
  | .str _ => true
  | _ => false
/-- == of flat values -/
def eqV : V → V → Bool
  | .non, .non => true
  | .bl a, .bl b => a == b
  | .bl a, .int b => (if a then 1 else 0) == b
  | .int a, .bl b => a == (if b then 1 else 0)
  | .int a, .int b => a == b
  | .str a, .str b => a == b
  | _, _ => false
theorem eqAt_V {A : Around} {s : Shared} {y x : V} {u v : Value} (ry : RelV y u) (rx : RelV x v) (fy : flatV y = true) (fx : flatV x = true) : SeqAt.EqAt A s u v (eqV y x) := by
  cases y with
  | non =>
    cases ry
    cases x with
    | non => cases rx; exact SeqAt.EqAt.same _
    | bl b => cases rx; exact SeqAt.EqAt.none_bool b
    | int b => obtain ⟨t, rfl⟩ := rx; exact SeqAt.EqAt.none_int b t
    | str b => obtain ⟨t, rfl⟩ := rx; exact SeqAt.EqAt.none_str b t
    | _ => exact absurd (show false = true from fx) Bool.false_ne_true
  | bl a =>
    cases ry
    cases x with
    | non => cases rx; exact SeqAt.EqAt.bool_none a
    | bl b => cases rx; exact SeqAt.EqAt.bool_bool a b
    | int b => obtain ⟨t, rfl⟩ := rx; exact SeqAt.EqAt.bool_int a b t
    | str b => obtain ⟨t, rfl⟩ := rx; exact SeqAt.EqAt.bool_str a b t
    | _ => exact absurd (show false = true from fx) Bool.false_ne_true
  | int a =>
    obtain ⟨t', rfl⟩ := ry
    cases x with
    | non => cases rx; exact SeqAt.EqAt.int_none a t'
    | bl b => cases rx; exact SeqAt.EqAt.int_bool a t' b
    | int b => obtain ⟨t, rfl⟩ := rx; exact SeqAt.EqAt.int_int a t' b t
    | str b => obtain ⟨t, rfl⟩ := rx; exact SeqAt.EqAt.int_str a t' b t
    | _ => exact absurd (show false = true from fx) Bool.false_ne_true
  | str a =>
    obtain ⟨t', rfl⟩ := ry
    cases x with
    | non => cases rx; exact SeqAt.EqAt.str_none a t'
    | bl b => cases rx; exact SeqAt.EqAt.str_bool a t' b
    | int b => obtain ⟨t, rfl⟩ := rx; exact SeqAt.EqAt.str_int a t' b t
    | str b => obtain ⟨t, rfl⟩ := rx; exact SeqAt.EqAt.str_str a t' b t
    | _ => exact absurd (show false = true from fx) Bool.false_ne_true
  | _ => exact absurd (show false = true from fy) Bool.false_ne_true
/-- the items' answers, read off the values (a value's own answer does not lean on its token) -/
def eqU (x : V) (u : Value) : Bool := match u with
  | .none => eqV .non x
  | .bool b => eqV (.bl b) x
  | .int i _ => eqV (.int i) x
  | .str z _ => eqV (.str z) x
  | _ => false
theorem eqU_of {x y : V} {u : Value} (r : RelV y u) (f : flatV y = true) : eqU x u = eqV y x := by
  cases y with
  | non => cases r; rfl
  | bl b => cases r; rfl
  | int i => obtain ⟨t, rfl⟩ := r; rfl
  | str z => obtain ⟨t, rfl⟩ := r; rfl
  | _ => exact absurd (show false = true from f) Bool.false_ne_true
theorem any_eqU {x : V} : ∀ {xs : List V} {us : List Value}, Vals xs us → xs.all flatV = true → us.any (eqU x) = xs.any fun y => eqV y x
  | _, _, .nil, _ => rfl
  | y :: xs, u :: us, .cons r t, f => by
    rw [List.all_cons, Bool.and_eq_true] at f
    rw [List.any_cons, List.any_cons, eqU_of r f.1, any_eqU t f.2]
theorem mem_eqAt {A : Around} {s : Shared} {x : V} {v : Value} (rx : RelV x v) (fx : flatV x = true) : ∀ {xs : List V} {us : List Value}, Vals xs us → xs.all flatV = true → ∀ u ∈ us, SeqAt.EqAt A s u v (eqU x u)
  | _, _, .nil, _ => fun u hu => by cases hu
  | y :: xs, u :: us, .cons r t, f => fun u' hu => by
    rw [List.all_cons, Bool.and_eq_true] at f
    rcases List.mem_cons.mp hu with rfl | hu
    · rw [eqU_of r f.1]; exact eqAt_V r rx f.1 fx
    · exact mem_eqAt rx fx t f.2 u' hu
def inV (x : V) (xs : List V) : Bool := xs.any fun y => eqV y x
/-- x in a list or tuple of flat items -/
def rIn (K : PySem.W.Frag) (neg : Bool) : R2 := fun x y H Q => ∃ p xs, y = .ref p ∧ (SqL K H p xs ∨ SqT K H p xs) ∧ flatV x = true ∧ xs.all flatV = true ∧ Q (.bl (if neg then !inV x xs else inV x xs)) H
theorem op_in_seq : OpR X (compareOp .In) (rIn X.K false) := by
  intro pins s σ H x y v u Q I rx ry h
  obtain ⟨p, xs, rfl, hq, fx, fs, q⟩ := h
  cases ry
  rcases hq with hq | hq
  · obtain ⟨its, r, pl, hz⟩ := I.list hq
    refine SeqAt.in_listAt (eqU x) pl.isList (fun w hw => mem_eqAt rx fx r fs w (by simpa using hw)) ⟨.bl _, H, I, rfl, ?_⟩
    rw [show its.toArray.any (eqU x) = its.any (eqU x) by simp, any_eqU r fs]
    exact q
  · obtain ⟨its, r, pl, hz⟩ := I.tuple hq
    refine SeqAt.in_tupleAt (eqU x) pl (fun w hw => mem_eqAt rx fx r fs w (by simpa using hw)) ⟨.bl _, H, I, rfl, ?_⟩
    rw [show its.toArray.any (eqU x) = its.any (eqU x) by simp, any_eqU r fs]
    exact q
theorem op_notIn_seq : OpR X (compareOp .NotIn) (rIn X.K true) := by
  intro pins s σ H x y v u Q I rx ry h
  obtain ⟨p, xs, rfl, hq, fx, fs, q⟩ := h
  cases ry
  rcases hq with hq | hq
  · obtain ⟨its, r, pl, hz⟩ := I.list hq
    refine SeqAt.notIn_listAt (eqU x) pl.isList (fun w hw => mem_eqAt rx fx r fs w (by simpa using hw)) ⟨.bl _, H, I, rfl, ?_⟩
    rw [show its.toArray.any (eqU x) = its.any (eqU x) by simp, any_eqU r fs]
    exact q
  · obtain ⟨its, r, pl, hz⟩ := I.tuple hq
    refine SeqAt.notIn_tupleAt (eqU x) pl (fun w hw => mem_eqAt rx fx r fs w (by simpa using hw)) ⟨.bl _, H, I, rfl, ?_⟩
    rw [show its.toArray.any (eqU x) = its.any (eqU x) by simp, any_eqU r fs]
    exact q
/-! ### len, list(x), tuple(x) of any list or tuple that is read -/
theorem call_len_seq : CallR X (.builtin "len") (fun xs H Q => ∃ p ys, xs = [.ref p] ∧ (SqL X.K H p ys ∨ SqT X.K H p ys) ∧ Q (.int ys.length) H) := by
  intro pins s σ H xs us Q I r h
  obtain ⟨p, ys, rfl, hq, q⟩ := h
  obtain ⟨u, rfl, rx⟩ := vals1 r
  cases rx
  have hn := line63
  rcases hq with hq | hq
  · obtain ⟨its, r', pl, hz⟩ := I.list hq
    have hlen := r'.length
    exact Calls.call_len_list pl.isList (by simp only [List.size_toArray] <;> omega) ⟨.int ys.length, H, I.tok _, ⟨s.toks + 1, by rw [List.size_toArray, hlen]⟩, q⟩
  · obtain ⟨its, r', pl, hz⟩ := I.tuple hq
    have hlen := r'.length
    exact len_tuple pl (by simp only [List.size_toArray] <;> omega) ⟨.int ys.length, H, I.tok _, ⟨s.toks + 1, by rw [List.size_toArray, hlen]⟩, q⟩
theorem call_tuple_of : CallR X (.type "tuple") (fun xs H Q => ∃ p ys, xs = [.ref p] ∧ ((SqL X.K H p ys ∧ ∀ l, H l = none → Q (.ref l) (upd H l (.tup ys))) ∨ (SqT X.K H p ys ∧ Q (.ref p) H))) := by
  intro pins s σ H xs us Q I r h
  obtain ⟨p, ys, rfl, h⟩ := h
  obtain ⟨u, rfl, rx⟩ := vals1 r
  cases rx
  rcases h with ⟨hq, q⟩ | ⟨hq, q⟩
  · obtain ⟨its, r', pl, hz⟩ := I.list hq
    have hlen := r'.length
    refine call_tuple_list pl.isList (fun h' kp => ?_) (by simp only [List.size_toArray] <;> omega)
    have I1 : Inv X pins σ H { s with heap := h' } := I.kept (t' := s.toks) kp
    have I2 : Inv X pins σ (upd H h'.objs.size (.tup ys)) { s with heap := h'.push { cls := .type "tuple", data := .seq its.toArray } } :=
      I1.laid (t' := s.toks) (fun b o e => Heap.get?_push_of_some _ e) (Nat.le_refl _) (show ObjOk X.prog X.w _ _ _ (.tup ys) from ⟨hz, its, r', IsTup.new _ _⟩)
    exact ⟨.ref h'.objs.size, _, I2, rfl, q _ (I1.hok.fresh (Nat.le_refl _))⟩
  · obtain ⟨its, r', pl, hz⟩ := I.tuple hq
    exact call_tuple_same pl ⟨.ref p, H, I, rfl, q⟩

/-! ### the call of a builtin's method: o.m(..) -/
/-- the value is of that builtin type -/
def tyV (K : PySem.W.Frag) (T : String) (x : V) (H : Hp) : Prop := match x with
  | .str _ => T = "str"
  | .int _ => T = "int"
  | .ref p => (T = "list" ∧ ∃ xs, SqL K H p xs) ∨ (T = "tuple" ∧ ∃ o, K.lookup p = some o ∧ o.cls = .type "tuple" ∧ o.dict = none) ∨
      (T = "dict" ∧ ((∃ kvs, H p = some (.dK kvs)) ∨ ∃ kvs, H p = some (.dT kvs))) ∨ (T = "set" ∧ ∃ S n, H p = some (.set S n))
  | _ => False
theorem tyV_is {pins : List (Addr × Obj)} {σ : St} {H : Hp} {s : Shared} {T : String} {x : V} {v : Value} (I : Inv X pins σ H s) (r : RelV x v) (ty : tyV X.K T x H) :
    s.TypeIs v T ∧ ∀ a, v = .ref a → ∃ ob, s.heap.get? a = some ob ∧ ob.dict = none := by
  cases x with
  | str z =>
    obtain ⟨t, rfl⟩ := r
    cases (show T = "str" from ty)
    exact ⟨typeIs_str s z t, fun _ e => nomatch e⟩
  | int i =>
    obtain ⟨t, rfl⟩ := r
    cases (show T = "int" from ty)
    exact ⟨typeIs_int s i t, fun _ e => nomatch e⟩
  | ref p =>
    cases r
    rcases ty with ⟨rfl, xs, hq⟩ | ⟨rfl, o, hk, hc, hd⟩ | ⟨rfl, hk⟩ | ⟨rfl, S, n, hk⟩
    · obtain ⟨its, _, pl, _⟩ := I.list hq
      refine ⟨pl.isList.typeIs, fun a e => ?_⟩
      cases e
      obtain ⟨o, n, e, c, hd, _⟩ := pl
      exact ⟨o, e, hd⟩
    · refine ⟨⟨o, I.kIn p o hk, hc⟩, fun a e => ?_⟩
      cases e
      exact ⟨o, I.kIn _ o hk, hd⟩
    · have z : ∃ o, s.heap.get? p = some o ∧ o.ExactDict := by
        rcases hk with ⟨kvs, hk⟩ | ⟨kvs, hk⟩
        · obtain ⟨_, _, _, _, o, _, _, e, ex, _⟩ := I.hok p _ hk
          exact ⟨o, e, ex⟩
        · obtain ⟨_, _, _, _, o, _, _, e, ex, _⟩ := I.hok p _ hk
          exact ⟨o, e, ex⟩
      obtain ⟨o, e, ex⟩ := z
      refine ⟨⟨o, e, ex.1⟩, fun a e2 => ?_⟩
      cases e2
      exact ⟨o, e, ex.2.1⟩
    · obtain ⟨o, _, _, _, e, ex, _⟩ := I.hok p _ hk
      refine ⟨⟨o, e, ex.1⟩, fun a e2 => ?_⟩
      cases e2
      exact ⟨o, e, ex.2.1⟩
  | _ => exact False.elim ty
def tBM (K : PySem.W.Frag) (T : String) (r : V → List V → Hp → VK → Prop) (to : TE) (t : TA) : TE := fun σ H Q => to σ H fun x H1 => tyV K T x H1 ∧ t σ H1 fun xs H2 => r x xs H2 Q
variable {o e : Expr} {es : List Expr} {to : TE} {t : TA} {name : Str} {apos cpos : Pos} {T id : String} {r : V → List V → Hp → VK → Prop}
theorem pe_bm (pa : PlainAttrs T) (slot : Slot T name id) (hty : typeOf (.builtin id) = pure (.type "method_descriptor")) (hm : MtR X id r) (ho : PE X o to) (ha : PA X (e :: es) t)
    (hbase : attributeBase o name X.env (eval o X.env) = eval o X.env := by rfl)
    (hfew : ((backTo cpos (starEach (e :: es) X.env)).all (fun x => !x.1) && (backToKw cpos (keywordEach [] X.env)).all (fun x => x.1.isSome)
      && decide ((e :: es).length + ([] : List Keyword).length + (if ([] : List Keyword).isEmpty then 0 else 1) < 30)) = true := by rfl)
    (hline : (apos.endLine == cpos.line) = true := by rfl) (hs : starEach (e :: es) X.env = (false, eval e X.env) :: starEach es X.env := by rfl) (hplain : (backTo cpos (starEach es X.env)).any (·.1) = false := by rfl) :
    PE X (.Call (.Attribute o name apos) (e :: es) [] cpos) (tBM X.K T r to t) := by
  intro pins s σ H Q I h
  refine wpAny_Call_method_late hbase hfew hline rfl (thn (ho pins s σ H _ I h) fun v s1 ⟨x, H1, I1, r1, ty, q1⟩ => ?_)
  obtain ⟨h1, h2⟩ := tyV_is I1 r1 ty
  refine ⟨T, id, pa, slot, hty, h1, h2, ?_⟩
  have hA := ha cpos pins s1 σ H1 _ I1 q1
  rw [hs] at hA ⊢
  refine Calls.callWith_builtin (by show (false || (backTo cpos (starEach es X.env)).any (·.1)) = false; rw [hplain] <;> rfl) (Calls.evalArgs_plain ?_)
  exact thn hA fun us s2 ⟨vs, H2, I2, r2, q2⟩ => hm pins s2 σ H2 x vs v us Q I2 r1 r2 q2
/- xs.append(e), list.index on a module's tuple .. are MtR facts of 06m -/
end
end L2

namespace L2
open PySem PySem.Spec PyProof.Rows

def MtM (X : Cx) (id : String) (r : V → List V → Hp → VK → Prop) : Prop :=
  ∀ (pins : List (Addr × Obj)) (s : Shared) (σ : St) (H : Hp) (x : V) (xs : List V) (v : Value) (us : List Value) (Q : VK), Inv X pins σ H s → RelV x v → Vals xs us → r x xs H Q →
    wpAny (model X.prog X.w) X.A (call (.builtin id) (v :: us)) (EP X pins σ Q) X.xe s

/-! ### lists of values -/
theorem Vals.one : ∀ {x : V} {us : List Value}, Vals [x] us → ∃ u, us = [u] ∧ RelV x u
  | _, _, .cons r .nil => ⟨_, rfl, r⟩
theorem Vals.zero : ∀ {us : List Value}, Vals [] us → us = []
  | _, .nil => rfl
theorem Vals.dropLast {xs : List V} {us : List Value} (h : Vals xs us) : Vals xs.dropLast us.dropLast := by
  induction h with
  | nil => exact .nil
  | cons r t ih =>
    cases t with
    | nil => exact .nil
    | cons q t' => exact .cons r ih
theorem Vals.reverse {xs : List V} {us : List Value} (h : Vals xs us) : Vals xs.reverse us.reverse := by
  induction h with
  | nil => exact .nil
  | cons r t ih => rw [List.reverse_cons, List.reverse_cons]; exact Vals.append ih (.cons r .nil)
theorem Vals.rep {xs : List V} {us : List Value} (h : Vals xs us) : ∀ k : Nat, Vals (List.replicate k xs).flatten (List.replicate k us).flatten
  | 0 => .nil
  | k + 1 => by
    rw [List.replicate_succ, List.replicate_succ, List.flatten_cons, List.flatten_cons]
    exact Vals.append h (Vals.rep h k)
section
variable {X : Cx} {pins : List (Addr × Obj)} {σ : St} {H : Hp} {s : Shared} {l b : Addr} {xs ys zs : List V}

/-! ### the two steps: a tracked list is rewritten, a new list is laid -/
theorem Inv.lset {its its' : List Value} {n : Nat} {f : Array Value → Array Value} {t' : Nat} (I : Inv X pins σ H s) (hH : H l = some (.lst xs))
    (e : s.heap.get? l = some { cls := .type "list", data := .seq its.toArray n }) (hf : f its.toArray = its'.toArray) (hv : Vals ys its') (hz : ys.length ≤ sizeLine) :
    Inv X pins σ (upd H l (.lst ys)) { s with heap := s.heap.update l (Obj.mapSeq f), toks := t' } := by
  have q := PySem.IsL.update e f
  rw [hf] at q
  refine I.write (x := l) (e := l) (by rw [hH]; exact trivial) (.inl rfl) (fun b' u hb hu => (Heap.get?_update_other s.heap (Obj.mapSeq f) (Ne.symm hb)).trans hu) ⟨_, q⟩ ?_
  exact ⟨hz, its', _, hv, q⟩
theorem Inv.lnew {its : List Value} {t' : Nat} (I : Inv X pins σ H s) (hv : Vals ys its) (hz : ys.length ≤ sizeLine) :
    Inv X pins σ (upd H s.heap.objs.size (.lst ys)) { s with heap := s.heap.push { cls := .type "list", data := .seq its.toArray }, toks := t' } :=
  I.laid (fun _ _ q => Heap.get?_push_of_some _ q) (Nat.le_refl _) ⟨hz, its, 0, hv, Heap.get?_push_size _ rfl⟩
theorem Inv.fresh (I : Inv X pins σ H s) : H s.heap.objs.size = none := I.hok.fresh (Nat.le_refl _)
theorem Inv.lstM (I : Inv X pins σ H s) (hH : H l = some (.lst xs)) : xs.length ≤ sizeLine ∧ ∃ (its : List Value) (n : Nat), Vals xs its ∧ xs.length = its.length ∧ s.heap.get? l = some { cls := .type "list", data := .seq its.toArray n } := by
  obtain ⟨z, its, n, r, e⟩ := I.hok l _ hH
  exact ⟨z, its, n, r, r.length, e⟩

end

section
variable {X : Cx}

/-! ### methods -/
def rAppend : V → List V → Hp → VK → Prop := fun x vs H Q => ∃ l xs y, x = .ref l ∧ vs = [y] ∧ H l = some (.lst xs) ∧ xs.length < sizeLine ∧ Q .non (upd H l (.lst (xs ++ [y])))
theorem mt_append : MtM X "list.append" rAppend := by
  intro pins s σ H x vs v us Q I rx rv h
  obtain ⟨l, xs, y, rfl, rfl, hH, hz, q⟩ := h
  cases rx
  obtain ⟨u, rfl, ru⟩ := rv.one
  obtain ⟨z, its, n, r, hl, e⟩ := I.lstM hH
  refine call_meets F.slot_list_append ⟨_, e, rfl⟩ F.entry_list_append (F.args_list_append_2 _ _) (PySem.list_append l its.toArray n u (by rw [List.size_toArray]; omega)) ⟨e, ?_⟩
  refine ⟨.non, _, I.lset (its' := its ++ [u]) hH e (by simp) (r.append (.cons ru .nil)) ?_, rfl, q⟩
  rw [List.length_append, List.length_singleton]
  omega

/-! ### list + list, list += list, list * int -/
def rCat : R2 := fun x y H Q => ∃ l b xs zs, x = .ref l ∧ y = .ref b ∧ H l = some (.lst xs) ∧ H b = some (.lst zs) ∧ xs.length + zs.length ≤ sizeLine ∧ ∀ p, H p = none → Q (.ref p) (upd H p (.lst (xs ++ zs)))
theorem op_cat : OpR X (binaryOp .Add) rCat := by
  intro pins s σ H x y v u Q I rx ry h
  obtain ⟨l, b, xs, zs, rfl, rfl, hH, hB, hz, q⟩ := h
  cases rx
  cases ry
  obtain ⟨z, its, n, r, hl, e⟩ := I.lstM hH
  obtain ⟨z2, its2, n2, r2, hl2, e2⟩ := I.lstM hB
  refine PySem.P.add_list e e2 ?_ (by rw [List.size_toArray, List.size_toArray]; omega)
  have ea : its.toArray ++ its2.toArray = (its ++ its2).toArray := by simp
  rw [ea]
  exact ⟨.ref _, _, I.lnew (t' := s.toks) (r.append r2) (by rw [List.length_append]; omega), rfl, q _ I.fresh⟩
end

/-! ### xs[a:b] = ys -/
section
variable {prog : Program} {w : World} {A : Around} {E : Value → Shared → Prop} {s : Shared}
set_option maxRecDepth 100000 in
end

section
variable {X : Cx}
end
end L2

namespace Att
open PySem PySem.W PySem.Calls PyProof.Rows

/-! ### the script -/
theorem ints_of_wellAll {P : Params} {h : Heap} : ∀ (ns : List Int) (vs : List Value), WellAll P h vs (ns.map WData.int) → IntsAre vs ns := by
  intro ns
  induction ns with
  | nil =>
    intro vs w
    rw [List.map_nil] at w
    cases w
    exact .nil
  | cons n ns ih =>
    intro vs w
    rw [List.map_cons] at w
    cases w with
    | cons a b =>
      cases a
      exact .cons _ _ (ih _ b)

theorem script_of {l : OpenLaw} {n : Nat} (hn : l.most = some n) {P : Params} {h : Heap} {args : List WData} {vals : List Value}
    (hpre : l.row.toRowW.claim.pre args = true) (hwl : WellAll P h vals args) :
    ∃ a vs ns, vals = [Value.ref a] ∧ args = [WData.list (ns.map WData.int)] ∧ h.get? a = some { cls := .type "list", data := .seq vs.toArray } ∧ IntsAre vs ns ∧ ns.length ≤ n := by
  have hsh : WShape.hasAll [] args [.list .int] = true := (pre_splitW hpre).1
  have hc : l.pre.holds [] { args := args } = true := (pre_splitW hpre).2
  obtain ⟨d, r, rfl, h1, h2⟩ := hasAllW_cons hsh
  obtain rfl := hasAllW_nil h2
  obtain ⟨xs, rfl, h3⟩ := hasW_list h1
  obtain ⟨ns, rfl⟩ := items_int h3
  have hlen : ns.length ≤ n := by
    unfold OpenLaw.pre at hc
    have h4 : (WTm.not (.lt (.lit (.int (n : Int))) (.len (.arg 0)))).holds [] { args := [.list (ns.map .int)] } = true := by
      have h4 := (holds_andW hc).1
      rw [hn] at h4
      exact h4
    have h5 := condW_of h4 (w_not (w_lt w_lit (w_len_list (w_arg rfl))))
    rw [List.length_map] at h5
    refine Nat.le_of_not_lt fun q => ?_
    have q' : (n : Int) < ((ns.length : Nat) : Int) := by omega
    first
      | (rw [decide_eq_true q'] at h5; exact absurd h5 (by decide))
      | (simp at h5; omega)
  cases hwl with
  | cons w1 w2 =>
    cases w2
    cases w1 with
    | list ho hall => exact ⟨_, _, ns, rfl, rfl, ho, ints_of_wellAll ns _ hall, hlen⟩

theorem post_true (l : OpenLaw) (args : List WData) : l.row.toRowW.claim.post args (.bool true) args = true :=
  postW_of (r := l.row.toRowW) (X := (true == true))
    (show WShape.has [] (.bool true) .bool = true by first | rfl | decide | simp [WShape.has, WShape.arms, WShape.armsAll])
    (show (WTm.eq .res (.lit (.bool true))).value [] { args := args, res := some (.bool true), after := args } = some (.bool (true == true)) from w_eq_bool (w_res rfl) w_lit) rfl

/-- the same from a codeAny of the CALL (for a layer whose function contracts speak of calls) -/
theorem attach_call {l : OpenLaw} {n : Nat} {q : Program} {loose : List Str} {XP : (Str → Option Value) → Heap → Prop} {YP : World → Heap → Prop} {d : DefRec}
    (hn : l.most = some n) (hdf : d.params.defaults = [])
    (call : ∀ (w : World) (s₀ s₁ : Shared) (mg mb : Str → Option Value) (fa : Addr) (o : Obj) (pm cd doc : Value) (a : Addr) (vs : List Value) (ns : List Int),
      Ground q loose [] XP w s₀ mg mb s₁.heap → YP w s₁.heap →
      s₁.heap.get? fa = some o → o.data = .func (docDef d.name d.params d.body d.scope pm cd doc) → s₁.heap.CodeRec cd d.name → mg d.name = some (.ref fa) →
      s₁.heap.get? a = some { cls := .type "list", data := .seq vs.toArray } → IntsAre vs ns → ns.length ≤ n → s₁.gens = #[] →
      codeAny (model l.prog w) callerA (.call (.ref fa) ⟨[.ref a], []⟩) (fun r s' => r = .ok (.ret (.bool true)) ∧ OldK s₁.heap s'.heap ∧ s'.os = s₁.os ∧ AllBare s'.gens) s₁) :
    WalkO q loose XP YP l.row.toRowW d [] (fun f vs => PySem.call f vs) := by
  intro w s₀ s₁ mg mb G Y fa o pm cd doc dV kV ho hd hcd hD hmg hg args vals as hpre hlay hrd hwl hlo
  obtain rfl : dV = .none := Dflts.none hD hdf
  obtain rfl : kV = .none := Dflts.noKw hD
  obtain ⟨a, vs, ns, rfl, rfl, hobj, hints, hlen⟩ := script_of hn hpre hwl
  refine enter_call (codeAny_mono (call w s₀ s₁ mg mb fa o pm cd doc a vs ns G Y ho (fd_plain hd) hcd hmg hobj hints hlen hg) fun r s' hq => ?_)
  obtain ⟨rfl, h2, h3, h4⟩ := hq
  exact ⟨.inl ⟨.bool true, .bool true, [], rfl, fun _ => rfl, .bool true, post_true l _, fun _ => ⟨List.Pairwise.nil, fun _ hm => (nomatch hm)⟩⟩, h2, h3, h4⟩

/-! ### rules over ANY heap (no ledger) from facts about the written part K: the library's own take a ledger (News) for what they write -/
section
variable {prog : Program} {w : World} {A : Around} {E : Value → Shared → Prop} {s : Shared} {K : Frag}

/-! the whole heap as the ledger: makes every rule that writes through a ledger a rule over any heap -/
def noObjs (h : Heap) : Heap := { h with objs := #[] }
theorem noObjs_get (h : Heap) (b : Addr) : (noObjs h).get? b = none := by
  cases e : (noObjs h).get? b with
  | none => rfl
  | some o => exact absurd (Heap.lt_size e) (Nat.not_lt_zero _)
theorem fr_all {h : Heap} {L : Addr} {m : Str → Option Value} (n : h.Ns L m) : Fr (noObjs h) L h m :=
  ⟨n, fun b o e => (by rw [noObjs_get] at e; cases e), Nat.zero_le _⟩
end
end Att

namespace L2
open PySem PySem.Spec PyProof.Rows

theorem vals_ints : ∀ {vs : List Value} {ns : List Int}, IntsAre vs ns → Vals (ns.map V.int) vs
  | _, _, .nil => .nil
  | _, _, .cons n t h => .cons ⟨t, rfl⟩ (vals_ints h)

/-- nothing is tracked but the script, known to the object (or it is an object of the module) -/
def Only (H : Hp) : Prop := ∀ b, H b = none ∨ ∃ o xs, H b = some (.frz o (.lst xs))

/-- THE HEAD: the law's promise, at the heap behind the top. F, the promise of the law's def, may use that base is part of the heap (so K.In base, base.Ns mainGlobals mg stand in Mod) -/
theorem law_call {P : Program} {w : World} {K : PySem.W.Frag} {mg mb : Str → Option Value} {CX : CXT} {k : Nat} {fa a : Addr} {fd : FuncData} {x : Str} {sp : Sp} {s₁ : Shared} {vs : List Value} {ns : List Int}
    (KX : K.In s₁.heap) (hns : s₁.heap.Ns mainGlobals mg) (hb : s₁.heap.Ns builtinsNs mb) (hbb : ∀ x : Str, x ≠ "__name__" → mb x = bootBuiltins x) (hlim : s₁.heap.NoLimit) (hg : s₁.gens = #[])
    (ha : s₁.heap.get? a = some { cls := .type "list", data := .seq vs.toArray }) (hi : IntsAre vs ns) (hl : ns.length ≤ sizeLine) (hr : Room k callerA)
    (F : ∀ base : Heap, K.In base → base.Ns mainGlobals mg → FnOk P w K mg base CX k fa fd [x] sp) (hbind : ∀ (s : Shared) (u : Value), BindsTo s fd ⟨[u], []⟩ [(x, u)])
    (hsp : ∀ H : Hp, Only H → SqL K H a (ns.map V.int) → sp [.ref a] H (fun v _ => v = .bl true) fun _ _ _ => False)
    (hCX : ∀ H e s', CX [] H s₁ (fun _ _ _ => False) e s' → False) :
    codeAny (model P w) callerA (.call (.ref fa) ⟨[.ref a], []⟩) (fun r s' => r = .ok (.ret (.bool true)) ∧ OldK s₁.heap s'.heap ∧ s'.os = s₁.os ∧ AllBare s'.gens) s₁ := by
  have rv := vals_ints hi
  have lenV := hi.length
  -- from an abstract heap in which nothing but the script may be tracked
  have core : ∀ H : Hp, Only H → SqL K H a (ns.map V.int) → HOk P w H s₁.heap → (∀ b, H b ≠ none → b = a) → (H a ≠ none → K.lookup a = none) →
      codeAny (model P w) callerA (.call (.ref fa) ⟨[.ref a], []⟩) (fun r s' => r = .ok (.ret (.bool true)) ∧ OldK s₁.heap s'.heap ∧ s'.os = s₁.os ∧ AllBare s'.gens) s₁ := by
    intro H hO hS hok hA hK
    have base_of : ∀ {b : Addr} {o : Obj}, s₁.heap.get? b = some o → H b = none → (hidT s₁.heap H).get? b = some o := fun e n => hidT_get e n
    have noA : ∀ {b : Addr} {o : Obj} {es : Array DictEntry} {ep : Nat}, s₁.heap.get? b = some o → o.data = .dict es ep → H b = none := fun {b o es ep} e d => by
      cases q : H b with
      | none => rfl
      | some u =>
        have e' : b = a := hA b (by rw [q]; simp)
        subst e'
        rw [ha] at e; cases e
        have d' : Data.seq vs.toArray _ = Data.dict es ep := d
        cases d'
    have nsK : ∀ {b : Addr} {m : Str → Option Value}, s₁.heap.Ns b m → (hidT s₁.heap H).Ns b m := fun {b m} ⟨o, es, ep, e, d, r⟩ => ⟨o, es, ep, base_of e (noA e d), d, r⟩
    have hKb : K.In (hidT s₁.heap H) := fun b o e => base_of (KX b o e) (by
      cases q : H b with
      | none => rfl
      | some u =>
        have e' : b = a := hA b (by rw [q]; simp)
        subst e'
        rw [hK (by rw [q]; simp)] at e; cases e)
    have hM : Mod K mg (hidT s₁.heap H) := ⟨hKb, nsK hns, ⟨mb, nsK hb, hbb⟩, let ⟨mc, h1, h2⟩ := hlim; ⟨mc, nsK h1, h2⟩⟩
    have e0 : Env0 P w K mg (hidT s₁.heap H) callerA [] s₁ H := ⟨rfl, hM, fun b o e => of_hidT e, Nat.le_of_eq (hidT_size _ _), trivial, fun b hb => absurd (show b ∈ ([] : List Addr) from hb) (by simp), hok, .of_eq hg⟩
    refine codeAny_mono ((F _ hKb (nsK hns)).run callerA [] s₁ H ⟨[.ref a], []⟩ [.ref a] [.ref a] _ _ hr e0 (hbind s₁ (.ref a)) (.cons rfl .nil) (hsp H hO hS)) fun r s' h => ?_
    cases r with
    | error e => exact (hCX H e s' h).elim
    | ok fl =>
      cases fl with
      | next => exact False.elim h
      | brk => exact False.elim h
      | cont => exact False.elim h
      | ret u =>
        obtain ⟨v, H', os, bare, un, hok', r', q⟩ := h
        have q' : v = .bl true := q
        subst q'
        obtain rfl : u = Value.bool true := r'
        refine ⟨rfl, OldK.of_keep fun b o e => ?_, os, bare⟩
        cases q : H b with
        | none => exact un.keep b o e q (by intro z; exact absurd (show b ∈ ([] : List Addr) from z) (by simp)) (by simp)
        | some u =>
          rcases hO b with z | ⟨ob, xs, z⟩
          · rw [q] at z; cases z
          · have z2 := un.frzs b ob _ z
            obtain ⟨e1, _⟩ := hok b _ z
            obtain ⟨e2, _⟩ := hok' b _ z2
            rw [e] at e1; cases e1
            exact e2
  cases hk : K.lookup a with
  | some o =>
    -- the script is one of the module's own objects
    have e := KX a o hk
    rw [ha] at e
    cases e
    refine core (fun _ => none) (fun _ => .inl rfl) (.inr ⟨_, vs.toArray, _, hk, rfl, rfl, rfl, by rw [List.size_toArray, lenV]; exact hl, by simpa using rv⟩) (fun b u z => by have z' : (none : Option HO) = some u := z; cases z') (fun b z => absurd rfl z) fun z => absurd rfl z
  | none =>
    refine core (fun b => if b = a then some (.frz { cls := .type "list", data := .seq vs.toArray } (.lst (ns.map V.int))) else none) (fun b => ?_) (.inl (.inr ⟨{ cls := .type "list", data := .seq vs.toArray }, if_pos rfl⟩)) (fun b u z => ?_) (fun b z => ?_) fun _ => hk
    · by_cases hb : b = a
      · exact .inr ⟨_, _, if_pos hb⟩
      · exact .inl (if_neg hb)
    · by_cases hb : b = a
      · have z' := (if_pos hb).symm.trans z
        cases z'
        subst hb
        exact ⟨ha, by rw [List.length_map]; exact hl, vs, _, rv, ha⟩
      · have z' := (if_neg hb).symm.trans z
        cases z'
    · by_cases hb : b = a
      · exact hb
      · exact absurd (if_neg hb) z
end L2

namespace L2
open PySem PySem.Spec PyProof.Rows

/-- the goal that k_head leaves (case hc), from the law's promise. F gives the function object fd (K's own) once, then the promise over every base -/
theorem walk_of {l : PySem.W.OpenLaw} {n k : Nat} {q : Program} {loose : List Str} {XP : (Str → Option Value) → Heap → Prop} {YP : World → Heap → Prop} {d : DefRec} {K : Params → PySem.W.Frag} {CX : World → CXT} {sp : World → Sp} {x : Str}
    (hn : l.most = some n) (hn2 : n ≤ sizeLine) (hdf : d.params.defaults = []) (hr : Room k callerA)
    (hY : ∀ (w : World) (h : Heap), YP w h → (K w.params).In h)
    (F : ∀ (w : World) (mg : Str → Option Value) (fa : Addr) (h : Heap), (K w.params).In h → h.Ns mainGlobals mg → mg d.name = some (.ref fa) →
      ∃ fd : FuncData, (∀ (s : Shared) (u : Value), BindsTo s fd ⟨[u], []⟩ [(x, u)]) ∧
        ∀ base : Heap, (K w.params).In base → base.Ns mainGlobals mg → FnOk l.prog w (K w.params) mg base (CX w) k fa fd [x] (sp w))
    (hsp : ∀ (w : World) (H : Hp) (a : Addr) (ns : List Int), ns.length ≤ n → Only H → SqL (K w.params) H a (ns.map V.int) → sp w [.ref a] H (fun v _ => v = .bl true) fun _ _ _ => False)
    (hCX : ∀ (w : World) (H : Hp) (s : Shared) (e : Value) (s' : Shared), CX w [] H s (fun _ _ _ => False) e s' → False) :
    PySem.W.WalkO q loose XP YP l.row.toRowW d [] (fun f vs => PySem.call f vs) := by
  refine Att.attach_call hn hdf fun w s₀ s₁ mg mb fa o pm cd doc a vs ns G Y ho hd hcd hmg hobj hints hlen hg => ?_
  have KX := hY w _ Y
  obtain ⟨fd, hb, hF⟩ := F w mg fa _ KX G.T.g hmg
  exact law_call KX G.T.g G.T.b G.T.builtins G.T.nolimit hg hobj hints (Nat.le_trans hlen hn2) hr hF hb (fun H hO hS => hsp w H a ns hlen hO hS) fun H e s' => hCX w H s₁ e s'
end L2



/-! SHORT WORDS over the layer: a def of the text, its body, what a loop and a test want. -/
namespace L2
open PySem PySem.Spec PyProof.Rows

/-! ### the text by places -/
/-- the j-th statement of a class's body -/
def inClass (s : Stmt) (j : Nat) : Stmt := match s with
  | .ClassDef _ _ _ body _ _ _ _ _ _ _ => body.getD j (.Pass ⟨0, 0, 0, 0⟩)
  | _ => .Pass ⟨0, 0, 0, 0⟩
def defArgs (s : Stmt) : Arguments := match s with
  | .FunctionDef _ a _ _ _ _ _ _ _ _ => a
  | _ => { posonlyargs := [], args := [], vararg := none, kwonlyargs := [], kw_defaults := [], kwarg := none, defaults := [] }
def defBody (s : Stmt) : List Stmt := match s with
  | .FunctionDef _ _ b _ _ _ _ _ _ _ => b
  | _ => []
def defScope (s : Stmt) : Scope := match s with
  | .FunctionDef _ _ _ _ _ _ sc _ _ _ => sc
  | _ => { kind := .function, names := [], isGenerator := false, isCoroutine := false }

/-! ### no exception leaves a def -/
abbrev CX0 : CXT := fun _ _ _ _ _ _ => False
abbrev E0 : XK := fun _ _ _ => False
theorem pass0 {X : Cx} : Passes CX0 X E0 := fun _ _ _ _ _ _ _ h => h.elim

/-! ### a def (or method) of the text as it stands behind the top -/
structure Fun (K : PySem.W.Frag) (x qual : Str) (st : Stmt) (f : Addr) (fd : FuncData) : Prop where
  ex : ∃ (oc : Value) (od : Option Addr) (kV doc pm : Value) (an : Option Addr) (cdv ct : Value) (osl : Array (Option Value)),
    fd = PySem.W.fnOf x qual (defArgs st) (defBody st) (defScope st) .none kV doc pm an cdv ct ∧ K.lookup f = some ⟨oc, od, .func fd, osl⟩ ∧ PySem.W.codeIn K cdv qual = true
  kp : PySem.W.keepIn K (.ref f) = true
section
variable {P : Program} {w : World} {K : PySem.W.Frag} {mg : Str → Option Value} {base : Heap}
/-- THE RULE for a def: its body as a term of rules, and the reading of that term -/
theorem Fun.ok {x qual : Str} {st : Stmt} {f : Addr} {fd : FuncData} {N ps : List Str} {k : Nat} {sp : Sp} (F : Fun K x qual st f fd) (S : FnScope N ps (defScope st)) (len : ∀ vs H Q E, sp vs H Q E → vs.length = ps.length)
    (hbody : ∀ (cdv : Value) (A : Around) (outer : List Env) (s : Shared) (H : Hp) (vs : List V) (Q : VK) (E : XK), Room k (A.deeper (envOfC qual (defScope st) s.heap.objs.size f cdv)) → sp vs H Q E →
      ∃ t, PSs (cxOf CX0 P w K mg base N qual (defScope st) f cdv A outer s H E).nox (defBody st) t ∧ t { nx := fun _ H' => Q .non H', rt := Q } (start N vs) H) : FnOk P w K mg base CX0 (k + 1) f fd ps sp := by
  obtain ⟨oc, od, kV, doc, pm, an, cdv, ct, osl, rfl, lk, hcd⟩ := F.ex
  refine fn_of lk hcd S len fun A outer s H vs Q E hr hsp => ?_
  obtain ⟨t, h, q⟩ := hbody cdv A outer s H vs Q E hr hsp
  exact ⟨t, h.nox, q⟩
/-- how its arguments bind (no defaults): h is «fun _ _ _ _ _ _ us hl => match us, hl with | [_, _], _ => rfl», one _ a parameter -/
theorem Fun.binds {x qual : Str} {st : Stmt} {f : Addr} {fd : FuncData} {ps : List Str} (F : Fun K x qual st f fd)
    (h : ∀ (kV doc pm : Value) (an : Option Addr) (cdv ct : Value) (us : List Value), us.length = ps.length → bindArgs (PySem.W.fnOf x qual (defArgs st) (defBody st) (defScope st) .none kV doc pm an cdv ct) ⟨us, []⟩ = pure (ps.zip us)) : Binds K fd ps [] := by
  obtain ⟨oc, od, kV, doc, pm, an, cdv, ct, osl, rfl, lk, hcd⟩ := F.ex
  exact .all (h kV doc pm an cdv ct)
theorem fun_mk {x qual : Str} {st : Stmt} {f : Addr} {oc : Value} {od an : Option Addr} {osl : Array (Option Value)} {kV doc pm cdv ct : Value} (l : K.lookup f = some ⟨oc, od, .func (PySem.W.fnOf x qual (defArgs st) (defBody st) (defScope st) .none kV doc pm an cdv ct), osl⟩)
    (c : PySem.W.codeIn K cdv qual = true) (k : PySem.W.keepIn K (.ref f) = true) : Fun K x qual st f (PySem.W.fnOf x qual (defArgs st) (defBody st) (defScope st) .none kV doc pm an cdv ct) := ⟨⟨oc, od, kV, doc, pm, an, cdv, ct, osl, rfl, l, c⟩, k⟩
end
theorem hu_of {A : Around} {k : Nat} (hr : Room k A) : A.units + 1 < cLine := Nat.lt_of_le_of_lt (Nat.add_le_add_left (by decide : 1 ≤ 64) _) hr.units
theorem small1000 {n : Nat} (h : n ≤ 1000) : n < sizeLine := Nat.lt_of_le_of_lt h (by decide)

/-! ### expressions in short: the name that stands in the i-th slot -/
section
variable {X : Cx}
theorem pv (i : Nat) {x : Str} {pos : Pos} (hN : X.N[i]? = some x := by rfl) (hv : Vis X.env.scope x := by first | exact Or.inl rfl | exact Or.inr (Or.inl rfl) | exact Or.inr (Or.inr rfl)) (hd : (x == ("__debug__" : Str)) = false := by decide)
    (hcd : (x == ("__classdict__" : Str)) = false := by decide) : PE X (.Name x pos) (tVar i) := pe_var hN hv hd hcd
end

/-! ### tests -/
theorem iteF {A B : Prop} (h : B) : if false = true then A else B := by
  rw [if_neg Bool.false_ne_true]
  exact h
theorem iteT {A B : Prop} (h : A) : if true = true then A else B := by
  rw [if_pos rfl]
  exact h
theorem ite2 {c A B : Prop} [Decidable c] (h1 : c → A) (h2 : ¬ c → B) : if c then A else B := by
  by_cases h : c
  · rw [if_pos h]
    exact h1 h
  · rw [if_neg h]
    exact h2 h
theorem iteNS {c A B : Prop} [Decidable c] (hc : c) (h : B) : if (!decide c) = true then A else B := by
  rw [decide_eq_true hc]
  exact iteF h

/-! ### heaps -/
/-- all that was tracked is as it was -/
def Same (H H' : Hp) : Prop := ∀ b o, H b = some o → H' b = some o
theorem Same.refl (H : Hp) : Same H H := fun _ _ h => h
theorem Same.trans {H H1 H2 : Hp} (a : Same H H1) (b : Same H1 H2) : Same H H2 := fun c o h => b c o (a c o h)
theorem Same.free {H H' : Hp} (e : Same H H') {l : Addr} (h : H' l = Option.none) : H l = Option.none := by
  cases q : H l with
  | none => rfl
  | some o =>
    rw [e l o q] at h
    cases h
theorem Same.seq {K : PySem.W.Frag} {H H' : Hp} {a : Addr} {xs : List V} (e : Same H H') (h : SqL K H a xs) : SqL K H' a xs := by
  rcases h with (h | ⟨o, h⟩) | h
  · exact .inl (.inl (e _ _ h))
  · exact .inl (.inr ⟨o, e _ _ h⟩)
  · exact .inr h

end L2

set_option Elab.async false
set_option linter.all false
set_option maxRecDepth 100000
set_option maxHeartbeats 4000000

/-! ### list comprehensions, over the layer -/
namespace L2
open PySem PySem.Spec PyProof.Rows

/-- the cells that a block takes from the frame around it -/
def clOf (env : Env) : List (Str × NameKind) → List (Str × Addr) → List (Str × Addr)
  | [], cs => cs
  | (n, k) :: r, cs => clOf env r (if (k == .free) = true then (match env.cells.lookup n with | some c => (n, c) :: cs | none => cs) else cs)

theorem clOf_run {env : Env} : ∀ (names : List (Str × NameKind)) (cs : List (Str × Addr)), (∀ p ∈ names, p.2 = .free → ∃ c, env.cells.lookup p.1 = some c) →
    (forIn names cs fun (p : Str × NameKind) (r : List (Str × Addr)) => (if (p.2 == .free) = true then do
        let c ← cellOf env p.1
        pure (ForInStep.yield ((p.1, c) :: r))
      else pure (ForInStep.yield r) : Sem (ForInStep (List (Str × Addr))))) = pure (clOf env names cs)
  | [], cs, _ => rfl
  | (n, k) :: rest, cs, h => by
    have ih := fun cs' => clOf_run rest cs' fun p hp => h p (List.mem_cons_of_mem _ hp)
    rw [List.forIn_cons]
    cases hk : (k == NameKind.free) with
    | true =>
      obtain ⟨c, hc⟩ := h (n, k) List.mem_cons_self (eq_of_beq hk)
      have e1 : cellOf env n = pure c := by unfold cellOf; rw [hc]
      have e2 : clOf env ((n, k) :: rest) cs = clOf env rest ((n, c) :: cs) := by simp only [clOf, hk, if_true, hc]
      rw [e2, ← ih]
      simp only [hk, if_true, e1, pure_bind]
    | false =>
      have e2 : clOf env ((n, k) :: rest) cs = clOf env rest cs := by simp only [clOf, hk, Bool.false_eq_true, if_false]
      rw [e2, ← ih]
      simp only [hk, Bool.false_eq_true, if_false, pure_bind]
theorem closure_is {env : Env} {scope : Scope} (h : ∀ p ∈ scope.names, p.2 = .free → ∃ c, env.cells.lookup p.1 = some c) : closureFor scope env = pure (clOf env scope.names []) := by
  have e := clOf_run (env := env) scope.names [] h
  unfold closureFor
  simp only [bind_pure]
  exact e
theorem clOf_sub {env : Env} : ∀ (names : List (Str × NameKind)) (cs : List (Str × Addr)), (∀ x c, cs.lookup x = some c → env.cells.lookup x = some c) →
    ∀ x c, (clOf env names cs).lookup x = some c → env.cells.lookup x = some c
  | [], cs, h, x, c, e => h x c e
  | (n, k) :: rest, cs, h, x, c, e => by
    refine clOf_sub rest _ (fun y d z => ?_) x c e
    split at z
    · split at z
      · rename_i c' hc'
        rw [List.lookup_cons] at z
        cases q : y == n with
        | true => rw [q] at z; cases z; rw [eq_of_beq q]; exact hc'
        | false => rw [q] at z; exact h y d z
      · exact h y d z
    · exact h y d z
theorem clOf_has {env : Env} : ∀ (names : List (Str × NameKind)) (cs : List (Str × Addr)) (x : Str), ((cs.lookup x).isSome = true ∨ ((x, NameKind.free) ∈ names ∧ ∃ c, env.cells.lookup x = some c)) →
    ∃ c, (clOf env names cs).lookup x = some c
  | [], cs, x, h => by
    rcases h with h | ⟨h, _⟩
    · exact Option.isSome_iff_exists.mp h
    · cases h
  | (n, k) :: rest, cs, x, h => by
    refine clOf_has rest _ x ?_
    have grow : (cs.lookup x).isSome = true → (List.lookup x (if (k == .free) = true then (match env.cells.lookup n with | some c => (n, c) :: cs | none => cs) else cs)).isSome = true := fun z => by
      split
      · split
        · rw [List.lookup_cons]
          cases x == n with
          | true => rfl
          | false => exact z
        · exact z
      · exact z
    rcases h with h | ⟨h, c, hc⟩
    · exact .inl (grow h)
    · rcases List.mem_cons.mp h with z | z
      · cases z
        refine .inl ?_
        simp [hc, List.lookup_cons]
      · exact .inr ⟨z, c, hc⟩

def relK (env : Env) (n : Str) (k : NameKind) : NameKind := if (k == .free && env.scope.kind == .function && env.kindOf n == some .cell) = true then .cell else k
theorem lookup_rel (env : Env) : ∀ (l : List (Str × NameKind)) (x : Str),
    (l.map fun (n, k) => if (k == NameKind.free && env.scope.kind == .function && env.kindOf n == some .cell) then (n, NameKind.cell) else (n, k)).lookup x = (l.lookup x).map (relK env x)
  | [], _ => rfl
  | (n, k) :: r, x => by
    have ih := lookup_rel env r x
    have e : (if (k == NameKind.free && env.scope.kind == .function && env.kindOf n == some .cell) = true then (n, NameKind.cell) else (n, k)) = (n, relK env n k) := by
      unfold relK; split <;> rfl
    rw [List.map_cons]
    show List.lookup x ((if (k == NameKind.free && env.scope.kind == .function && env.kindOf n == some .cell) = true then (n, NameKind.cell) else (n, k)) :: _) = _
    rw [e, List.lookup_cons, List.lookup_cons]
    cases q : x == n with
    | true => rw [eq_of_beq q]; rfl
    | false => exact ih
theorem relK_vis {env : Env} {n : Str} {k : NameKind} (h : relK env n k = .cell ∨ relK env n k = .free) : k = .cell ∨ k = .free := by
  unfold relK at h
  split at h
  · rename_i q
    simp only [Bool.and_eq_true] at q
    exact .inr (eq_of_beq q.1.1)
  · exact h

/-- one turn after another; nothing is raised -/
theorem comp_loop {prog : Program} {w : World} {A : Around} {R : Result → Shared → Prop} {s : Shared} {elt target iter : Expr} {ifs : List Expr} {scope : Scope} {pos : Pos} {it acc : Value} {env : Env} (J : Nat → Shared → Prop)
    (turn : ∀ n s, J n s → wpAny (model prog w) A (pyNext it) (fun r s1 => match r with
      | none => R (.ok .next) s1
      | some v => wpAny (model prog w) A (letOwnedTupleGo target it v) (fun _ s2 => wpAny (model prog w) A (assign target env v) (fun _ s3 =>
          wpAny (model prog w) A (forIn ifs true fun c r => if r = true then do let ok ← isTrue c env (eval c env); pure (ForInStep.yield ok) else pure (ForInStep.yield r)) (fun ok s4 =>
            if ok = true then wpAny (model prog w) A (eval elt env) (fun x s5 => wpAny (model prog w) A (call (.builtin "list.append") [acc, x]) (fun _ s6 => ∃ m, m < n ∧ J m s6) (fun _ _ => False) s5) (fun _ _ => False) s4
            else ∃ m, m < n ∧ J m s4) (fun _ _ => False) s3) (fun _ _ => False) s2) (fun _ _ => False) s1) (fun _ _ => False) s)
    (n : Nat) (h : J n s) : codeAny (model prog w) A (.compLoop (.ListComp elt [⟨target, iter, ifs, 0⟩] scope pos) 0 it acc env) R s := by
  refine codeAny_loop rfl J (fun k s' hk => ?_) n h
  show wpAny _ A (Sem.onRaise (compTurn (.ListComp elt [⟨target, iter, ifs, 0⟩] scope pos) 0 it acc env) (fun x => do noteFrame x env; theTreesLotGoes x)) _ _ s'
  refine wpAny_noted ?_
  rw [compTurn_list]
  refine wpAny_bind (wpAny_standAt (wpAny_bind (wpAny_mono (turn k s' hk) (fun r s1 q1 => ?_) fun _ _ f => f.elim)))
  cases r with
  | none => exact wpAny_pure q1
  | some v =>
    refine wpAny_bind (wpAny_mono q1 (fun _ s2 q2 => wpAny_bind (wpAny_mono q2 (fun _ s3 q3 => wpAny_bind (wpAny_mono q3 (fun ok s4 q4 => ?_) fun _ _ f => f.elim)) fun _ _ f => f.elim)) fun _ _ f => f.elim)
    cases ok with
    | false => exact wpAny_pure ⟨rfl, q4⟩
    | true => exact wpAny_bind (wpAny_bind (wpAny_mono q4 (fun x s5 q5 => wpAny_bind (wpAny_mono q5 (fun _ s6 q6 => wpAny_pure (wpAny_pure ⟨rfl, q6⟩)) fun _ _ f => f.elim)) fun _ _ f => f.elim))

/-- the context of a comprehension's block -/
def cxC (X : Cx) (N' : List Str) (scope : Scope) (s3 : Shared) (H3 : Hp) (fp : List Addr) (pn : List (Addr × Obj)) : Cx where
  prog := X.prog
  w := X.w
  K := X.K
  mg := X.mg
  base := X.base
  A := X.A
  N := N'
  s₀ := s3
  H₀ := H3
  env := compEnvC scope (clOf X.env scope.names []) s3.heap.objs.size X.env
  outer := X.stack
  stack := X.stack
  ex := fp
  fn := fun _ => false
  calm := X.calm
  pn := pn
  xe := fun _ _ => False
/-- what is fixed of a comprehension's names: N' its own and those it takes from around; src: where these lie there -/
structure CScope (X : Cx) (N' : List Str) (src : List (Option Nat)) (sc : Scope) : Prop where
  kind : sc.kind = .function
  nocell : ∀ y ∈ sc.names, y.2 ≠ .cell
  loc : ∀ y ∈ sc.names, y.2 = .local → sc.names.lookup y.1 = some .local
  fv : ∀ y ∈ sc.names, y.2 = .free → X.env.kindOf y.1 = some .cell ∨ X.env.kindOf y.1 = some .free
  len : src.length = N'.length
  src : ∀ (i : Nat) (x : Str) (j : Nat), N'[i]? = some x → src[i]? = some (some j) → X.N[j]? = some x ∧ sc.names.lookup x = some .free
def srcSt (src : List (Option Nat)) (σ : St) : St := src.map fun o => match o with | none => none | some j => (σ[j]?).join

/-- the tests of a clause -/
def PF (X : Cx) (ifs : List Expr) (t : TT) : Prop :=
  ∀ (pins : List (Addr × Obj)) (s : Shared) (σ : St) (H : Hp) (Q : Bool → Hp → Prop), Inv X pins σ H s → t σ H Q →
    wpAny (model X.prog X.w) X.A (forIn ifs true fun c r => if r = true then do let ok ← isTrue c X.env (eval c X.env); pure (ForInStep.yield ok) else pure (ForInStep.yield r)) (TP X pins σ Q) X.xe s
theorem pf_nil {X : Cx} : PF X [] (fun _ H Q => Q true H) := fun _ _ _ H _ I h => wpAny_tests_nil ⟨H, I, h⟩
theorem pf_one {X : Cx} {c : Expr} {t : TT} (hc : PT X c t) : PF X [c] t := fun pins s σ H Q I h => wpAny_tests_one (hc pins s σ H Q I h)

theorem Un.ahead {fs ex : List Addr} {H H' : Hp} {h h1 h' : Heap} (u : Un fs ex H H' h h1) (k : ∀ b o, b < h.objs.size → h1.get? b = some o → h'.get? b = some o) : Un fs ex H H' h h' where
  keep := fun b o e n hb hx => k b o (Heap.lt_size e) (u.keep b o e n hb hx)
  slot := fun b o e n hb hx => by
    obtain ⟨sl, q⟩ := u.slot b o e n hb hx
    exact ⟨sl, k b _ (Heap.lt_size e) q⟩
  free := u.free
  there := fun b o e hx => by
    obtain ⟨o', q⟩ := u.there b o e hx
    exact ⟨o', k b _ (Heap.lt_size e) q⟩
  tups := u.tups
  frzs := u.frzs
  tbls := u.tbls

section
variable {X : Cx} {N' : List Str} {src : List (Option Nat)} {sc : Scope} {pins : List (Addr × Obj)} {σ : St} {H : Hp} {s3 : Shared} {fp : List Addr} {h1 : Heap} {tk : Nat}
/-- the block begins -/
theorem cx_start (S : CScope X N' src sc) (I : Inv X pins σ H s3) (hf : ∀ b ∈ fp, FpOk X pins H b) (ht : ∀ b ∈ fp, b < s3.heap.objs.size)
    (ns : h1.Ns s3.heap.objs.size fun _ => none) (kp : ∀ b o, s3.heap.get? b = some o → h1.get? b = some o) :
    Inv (cxC X N' sc s3 H fp (X.pn ++ pins)) [] (srcSt src σ) H { s3 with heap := h1, toks := tk } := by
  have hcl : ∀ x c, (clOf X.env sc.names []).lookup x = some c → X.env.cells.lookup x = some c := clOf_sub sc.names [] fun x c e => by cases e
  have old : ∀ x c, (clOf X.env sc.names []).lookup x = some c → ∃ o, s3.heap.get? c = some o := fun x c e => by
    obtain ⟨v, o, ho, _⟩ := I.cell x c (hcl x c e)
    exact ⟨o, ho⟩
  have fvh : ∀ x, (x, NameKind.free) ∈ sc.names → ∃ c, X.env.cells.lookup x = some c := fun x hx => I.ok.has x (S.fv _ hx rfl)
  have stkL : ∀ b, b ≠ X.env.locals → b ∉ X.fs → b ∉ frs X.stack := fun b h1 h2 hb => (List.mem_cons.mp (I.stkSub b hb)).elim h1 h2
  have kindOf_eq : ∀ x, (compEnvC sc (clOf X.env sc.names []) s3.heap.objs.size X.env).kindOf x = (sc.names.lookup x).map (relK X.env x) := fun x => lookup_rel X.env sc.names x
  refine ⟨⟨I.ok.mod, S.kind, I.ok.glob, I.ok.blt, Nat.le_refl _, fun x y c e1 e2 => I.ok.inj x y c (hcl x c e1) (hcl y c e2), fun x hx => ?_, fun x c hf => absurd hf Bool.false_ne_true, I.ok.hd, I.ok.frames, .inl rfl, fun b hb => ?_, I.bs, Nat.le_trans I.ok.bsz I.sz,
    fun b o e hb => ?_, fun b hb => ?_, I.stack, I.stkFree⟩, rfl, I.bare, Un.kept kp, ⟨_, ns, fun i x v e1 e2 e3 => ?_⟩, fun x c e => ?_, I.hok.fresh (Nat.le_refl _), fun x c e => I.freeC x c (hcl x c e), fun p hp => ?_, I.hok.kept kp, ?_⟩
  · -- has
    have hx' : (sc.names.lookup x).map (relK X.env x) = some .cell ∨ (sc.names.lookup x).map (relK X.env x) = some .free := by
      rw [← kindOf_eq x]; exact hx
    cases q : sc.names.lookup x with
    | none => rw [q] at hx'; rcases hx' with z | z <;> cases z
    | some k =>
      rw [q] at hx'
      have hk : k = .cell ∨ k = .free := relK_vis (env := X.env) (n := x) (hx'.imp (fun z => Option.some.inj z) fun z => Option.some.inj z)
      have hm := PySem.mem_of_lookup q
      rcases hk with rfl | rfl
      · exact absurd rfl (S.nocell _ hm)
      · exact clOf_has sc.names [] x (.inr ⟨hm, fvh x hm⟩)
  · -- exf
    obtain ⟨f0, f1, f2, f3, f4, f5⟩ := hf b hb
    exact ⟨Nat.ne_of_lt (ht b hb), fun x c e => f4 x c (hcl x c e)⟩
  · -- noex
    obtain ⟨f0, f1, f2, f3, f4, f5⟩ := hf b hb
    rcases f3 with z | z
    · exact I.ok.noex b o e z
    · exact absurd (Nat.lt_of_lt_of_le (Heap.lt_size e) (Nat.le_trans I.ok.bsz z)) (Nat.lt_irrefl _)
  · -- exfs
    obtain ⟨f0, f1, f2, f3, f4, f5⟩ := hf b hb
    exact stkL b f1 f2
  · -- loc
    have e2' : (srcSt src σ)[i]? = some (some v) := e2
    unfold srcSt at e2'
    rw [List.getElem?_map] at e2'
    cases q : src[i]? with
    | none => rw [q] at e2'; cases e2'
    | some oj =>
      rw [q] at e2'
      cases oj with
      | none => cases e2'
      | some j =>
        have e4 : (σ[j]?).join = some v := Option.some.inj e2'
        have e5 : σ[j]? = some (some v) := by
          cases r : σ[j]? with
          | none => rw [r] at e4; cases e4
          | some z => rw [r] at e4; cases z with
            | none => cases e4
            | some y => cases e4; rfl
        obtain ⟨hN, hfr⟩ := S.src i x j e1 q
        have hm := PySem.mem_of_lookup hfr
        have kx := S.fv _ hm rfl
        obtain ⟨m, hn, hl⟩ := I.loc
        obtain ⟨u, r, l⟩ := hl j x v hN e5 (.inr kx)
        refine ⟨u, r, ?_⟩
        rcases l with ⟨k1, _⟩ | ⟨_, c, hc, hcell⟩
        · rcases kx with z | z <;> (rw [z] at k1; cases k1)
        · obtain ⟨c', hc'⟩ := clOf_has (env := X.env) sc.names [] x (.inr ⟨hm, c, hc⟩)
          have e6 : c' = c := by
            have := hcl x c' hc'
            rw [hc] at this
            exact (Option.some.inj this).symm
          subst e6
          refine .inr ⟨?_, c', hc', ?_⟩
          · have : (compEnvC sc (clOf X.env sc.names []) s3.heap.objs.size X.env).kindOf x = some (relK X.env x .free) := by rw [kindOf_eq x, hfr]; rfl
            show (compEnvC sc (clOf X.env sc.names []) s3.heap.objs.size X.env).kindOf x = some .cell ∨ (compEnvC sc (clOf X.env sc.names []) s3.heap.objs.size X.env).kindOf x = some .free
            rw [this]
            unfold relK
            split
            · exact .inl rfl
            · exact .inr rfl
          · obtain ⟨o, ho, hd⟩ := hcell
            exact ⟨o, kp _ o ho, hd⟩
  · -- cell
    obtain ⟨v, o, ho, hd⟩ := I.cell x c (hcl x c e)
    exact ⟨v, o, kp _ o ho, hd⟩
  · -- pin
    have hp' : p ∈ X.pn ++ pins := (List.mem_append.mp hp).elim id fun z => by cases z
    obtain ⟨a1, a2, a3, a4, a5⟩ := I.pin p hp'
    exact ⟨kp _ _ a1, a2, Nat.ne_of_lt (Heap.lt_size a1), stkL p.1 a3 a4, a5⟩
  · show (srcSt src σ).length = N'.length
    unfold srcSt
    rw [List.length_map]
    exact S.len

/-- the block ends -/
theorem cx_end {s1 : Shared} {σ' : St} {H' : Hp} {h' : Heap} (I : Inv X pins σ H s3) (hf : ∀ b ∈ fp, FpOk X pins H b) (I' : Inv (cxC X N' sc s3 H fp (X.pn ++ pins)) [] σ' H' s1)
    (sb : Heap.SameBut s3.heap.objs.size s1.heap h') : Inv X pins σ H' { s1 with heap := h' } := by
  have fr : H' s3.heap.objs.size = none := I'.free
  refine I.call' (s' := { s1 with heap := h' }) (ch := fp) I'.os ?_ ?_ I'.bare fun b hb => ?_
  · exact Un.ahead (h := s3.heap) (h1 := s1.heap) I'.base fun b o hb e => sb.extBut b o (Nat.ne_of_lt hb) e
  · exact fun b u e => (I'.hok b u e).stay (fun c v hc q => sb.extBut c v (by
      intro z
      rcases hc with y | y
      · rw [← y, z, fr] at e; cases e
      · rw [z, fr] at y; cases y) q) (fun _ q => q) fun _ _ q => q
  · obtain ⟨f0, f1, f2, f3, f4, f5⟩ := hf b hb
    exact ⟨f3, f1, f4, fun p hp => f5 p hp⟩
end

/-- what a comprehension is to keep, turn by turn: W the invariant by the turn and a measure, over the block's names and the heap; l the new list -/
@[irreducible] def CWant (J : It) (g : TG) (tt : TT) (te : TE) (Q : VK) (σ0 : St) (H0 : Hp) (l : Addr) : Prop := ∃ W : Nat → Nat → St → Hp → Prop, (∃ m, W 0 m σ0 H0) ∧
  ∀ i m σ' H', W i m σ' H' → (J.stop i H' ∧ Q (.ref l) H') ∨ (J.go i H' ∧ ∃ N : St → Hp → Prop, (∀ σ3 H3, N σ3 H3 → ∃ m', m' < m ∧ W (i + 1) m' σ3 H3) ∧ ∀ x H2, J.yld i H' x H2 → g x σ' H2 fun σ3 H3 => tt σ3 H3 fun b H4 =>
    if b = true then te σ3 H4 fun y H5 => ∃ xs, H5 l = some (.lst xs) ∧ xs.length < sizeLine ∧ N σ3 (upd H5 l (.lst (xs ++ [y]))) else N σ3 H4)
/-- [elt for tg in iter if ..] -/
def tComp (wi : TI) (src : List (Option Nat)) (g : TG) (tt : TT) (te : TE) : TE := fun σ H Q => wi σ H fun J H1 => ∀ l, H1 l = none → CWant J g tt te Q (srcSt src σ) (upd H1 l (.lst [])) l

/-- the core: fin says what is wanted where the block's turns are over -/
theorem comp_core {X : Cx} {N' : List Str} {src : List (Option Nat)} {sc : Scope} {elt tg iter : Expr} {ifs : List Expr} {pos pos' : Pos} {wi : TI} {g : TG} {tt : TT} {te : TE} {use : Option (Value → Sem Unit)} {R : Value → Shared → Prop} (hc : X.calm = true) (S : CScope X N' src sc)
    (hi : PI X tg iter wi) (hg : ∀ s3 H3 fp pn, PG (cxC X N' sc s3 H3 fp pn) tg g) (ht : ∀ s3 H3 fp pn, PF (cxC X N' sc s3 H3 fp pn) ifs tt) (he : ∀ s3 H3 fp pn, PE (cxC X N' sc s3 H3 fp pn) elt te)
    (hs : ∀ x, foldedSetIterable iter X.env x = pure x) {pins : List (Addr × Obj)} {s : Shared} {σ : St} {H : Hp} {Q : VK} (I : Inv X pins σ H s) (h : tComp wi src g tt te σ H Q)
    (fin : ∀ s3 H3 fp σ4 H4 s5 l, Inv X pins σ H3 s3 → (∀ b ∈ fp, FpOk X pins H3 b) → Inv (cxC X N' sc s3 H3 fp (X.pn ++ pins)) [] σ4 H4 s5 → Q (.ref l) H4 →
      compPost (model X.prog X.w) X.A X.xe use R (.ref l) s3.heap.objs.size (.ok .next) s5) :
    wpAny (model X.prog X.w) X.A (comprehension (.ListComp elt [⟨tg, iter, ifs, 0⟩] sc pos) sc X.env pos' (newList []) false (eval iter X.env) use) R X.xe s := by
  refine wpAny_comprehension_free (use := use) (cl := clOf X.env sc.names []) rfl hs (closure_is fun p hp e => I.ok.has p.1 (S.fv p hp e)) S.kind S.loc ?_
  refine thn (hi pins s σ H _ I h) fun v s1 h1 => thn h1 fun itv s2 h2 => ?_
  obtain ⟨it, fp, tn, J, H2, rfl, I2, T, st2, f2, q⟩ := h2
  have q' := q s2.heap.objs.size (I2.hok.fresh (Nat.le_refl _))
  unfold CWant at q'
  obtain ⟨W, ⟨m0, w0⟩, turn⟩ := q'
  refine wpAny_newObj_type (wpAny_newFunctionEnv S.nocell (by intro y hy; simp at hy) (fun ha hns hsb => ?_) S.kind)
  have I3 : Inv X pins σ (upd H2 s2.heap.objs.size (.lst [])) { s2 with heap := s2.heap.push { cls := .type "list", dict := none, data := .seq ([] : List Value).toArray } } :=
    I2.laid (t' := s2.toks) (fun b u e => Heap.get?_push_of_some _ e) (Nat.le_refl _) ⟨Nat.zero_le _, [], 0, .nil, Heap.get?_push_size _ rfl⟩
  have hfl : ∀ b ∈ fp, b < s2.heap.objs.size := fun b hb => by
    obtain ⟨o, e, _⟩ := T.obj 0 _ st2 b hb
    exact Heap.lt_size e
  have f3 : ∀ b ∈ fp, FpOk X pins (upd H2 s2.heap.objs.size (.lst [])) b := fun b hb => ⟨by rw [upd_ne (Nat.ne_of_lt (hfl b hb))]; exact (f2 b hb).1, (f2 b hb).2⟩
  generalize hs3 : ({ s2 with heap := s2.heap.push { cls := .type "list", dict := none, data := .seq ([] : List Value).toArray } } : Shared) = s3 at *
  have hsz : s2.heap.objs.size < s3.heap.objs.size := by rw [← hs3]; show s2.heap.objs.size < (s2.heap.push _).objs.size; rw [Heap.size_push]; exact Nat.lt_succ_self _
  have kp : ∀ b o, s3.heap.get? b = some o → ha.get? b = some o := fun b o e => hsb.extBut b o (Nat.ne_of_lt (Heap.lt_size e)) (Heap.get?_push_of_some _ e)
  have st3 : tn 0 ha := T.keep 0 _ _ st2 fun b hb o e => kp b o (by rw [← hs3]; exact Heap.get?_push_of_some _ e)
  have I4 : Inv (cxC X N' sc s3 (upd H2 s2.heap.objs.size (.lst [])) fp (X.pn ++ pins)) [] (srcSt src σ) (upd H2 s2.heap.objs.size (.lst [])) { s3 with heap := ha, toks := s3.toks + ([] : List (Str × Value)).length } :=
    cx_start S I3 f3 (fun b hb => Nat.lt_trans (hfl b hb) hsz) hns kp
  have loop : codeAny (model X.prog X.w) X.A (.compLoop (.ListComp elt [⟨tg, iter, ifs, 0⟩] sc pos) 0 (.ref it) (.ref s2.heap.objs.size) (compEnvC sc (clOf X.env sc.names []) s3.heap.objs.size X.env))
      (compPost (model X.prog X.w) X.A X.xe use R (.ref s2.heap.objs.size) s3.heap.objs.size) { s3 with heap := ha, toks := s3.toks + ([] : List (Str × Value)).length } := by
    refine comp_loop (fun n s' => ∃ i σ' H', Inv (cxC X N' sc s3 (upd H2 s2.heap.objs.size (.lst [])) fp (X.pn ++ pins)) [] σ' H' s' ∧ tn i s'.heap ∧ (∀ b ∈ fp, H' b = none) ∧ W i n σ' H') ?_ m0 ⟨0, _, _, I4, st3, fun b hb => (f3 b hb).1, w0⟩
    rintro n s4 ⟨i, σ4, H4, J4, st4, fr4, w4⟩
    have stat : ∀ {H' : Hp}, (∀ b ∈ fp, H' b = none) → ∀ b ∈ fp, FpOk (cxC X N' sc s3 (upd H2 s2.heap.objs.size (.lst [])) fp (X.pn ++ pins)) [] H' b := fun hn b hb =>
      ⟨hn b hb, (I4.ok.exf b hb).1, I4.ok.exfs b hb, .inl hb, fun x c e => (I4.ok.exf b hb).2 x c e, fun p hp => (f3 b hb).2.2.2.2.2 p ((List.mem_append.mp hp).elim id fun z => by cases z)⟩
    rcases turn i n σ4 H4 w4 with ⟨stop, qn⟩ | ⟨go, N, hN, step⟩
    · refine thn (T.done (cxC X N' sc s3 (upd H2 s2.heap.objs.size (.lst [])) fp (X.pn ++ pins)) rfl rfl rfl hc i [] s4 σ4 H4 _ J4 (stat fr4) st4 stop) fun r s5 ⟨hr, J5⟩ => ?_
      subst hr
      exact fin s3 _ fp σ4 H4 s5 _ I3 f3 J5 qn
    · refine thn (T.item (cxC X N' sc s3 (upd H2 s2.heap.objs.size (.lst [])) fp (X.pn ++ pins)) rfl rfl rfl hc i [] s4 σ4 H4 _ J4 (stat fr4) st4 go) fun r s5 ⟨u, hr, h5⟩ => ?_
      subst hr
      refine thn h5 fun _ s6 ⟨x, H6, J6, r6, y6, st6, fr6⟩ => ?_
      have J6' := J6.pinned (stat fr6) (T.obj _ _ st6)
      have back : ∀ {pl : List (Addr × Obj)} {σ7 : St} {H7 : Hp} {s7 : Shared}, Inv (cxC X N' sc s3 (upd H2 s2.heap.objs.size (.lst [])) fp (X.pn ++ pins)) ([] ++ pinsAt fp s6.heap) σ7 H7 s7 → N σ7 H7 →
          ∃ m', m' < n ∧ ∃ i σ' H', Inv (cxC X N' sc s3 (upd H2 s2.heap.objs.size (.lst [])) fp (X.pn ++ pins)) [] σ' H' s7 ∧ tn i s7.heap ∧ (∀ b ∈ fp, H' b = none) ∧ W i m' σ' H' := fun {pl σ7 H7 s7} J7 w7 => by
        obtain ⟨m', hm, w7⟩ := hN _ _ w7
        have pinned : ∀ b ∈ fp, ∀ o, s6.heap.get? b = some o → s7.heap.get? b = some o ∧ H7 b = none := fun b hb o e => by
          have := J7.pin (b, o) (List.mem_append_right _ (List.mem_append_right _ (mem_pinsAt hb e)))
          exact ⟨this.1, this.2.1⟩
        refine ⟨m', hm, i + 1, σ7, H7, J7.unpinned, T.keep _ _ _ st6 fun b hb o e => (pinned b hb o e).1, fun b hb => ?_, w7⟩
        obtain ⟨o, e, _⟩ := T.obj _ _ st6 b hb
        exact (pinned b hb o e).2
      refine thn (hg s3 _ fp _ _ s6 σ4 H6 x u _ J6' r6 (step x H6 y6)) fun _ s7 ⟨σ7, H7, J7, q7⟩ => ?_
      refine thn (ht s3 _ fp _ _ s7 σ7 H7 _ J7 q7) fun ok s8 ⟨H8, J8, q8⟩ => ?_
      cases ok with
      | false =>
        rw [if_neg Bool.false_ne_true] at q8 ⊢
        exact back (pl := []) J8 q8
      | true =>
        rw [if_pos rfl] at q8 ⊢
        refine thn (he s3 _ fp _ _ s8 σ7 H8 _ J8 q8) fun y s9 ⟨yv, H9, J9, r9, xs, hl9, hz9, q9⟩ => ?_
        refine thn (mt_append _ s9 σ7 H9 (.ref s2.heap.objs.size) [yv] (.ref s2.heap.objs.size) [y] (fun _ H' => N σ7 H') J9 rfl (.cons r9 .nil) ⟨_, xs, yv, rfl, rfl, hl9, hz9, q9⟩) fun _ s10 ⟨_, H10, J10, _, q10⟩ => ?_
        exact back (pl := []) J10 q10
  exact codeAny_compStart_list loop (T.self X.A 0 _ _ _ st3 loop)
theorem pe_comp {X : Cx} {N' : List Str} {src : List (Option Nat)} {sc : Scope} {elt tg iter : Expr} {ifs : List Expr} {pos : Pos} {wi : TI} {g : TG} {tt : TT} {te : TE} (hc : X.calm = true) (S : CScope X N' src sc)
    (hi : PI X tg iter wi) (hg : ∀ s3 H3 fp pn, PG (cxC X N' sc s3 H3 fp pn) tg g) (ht : ∀ s3 H3 fp pn, PF (cxC X N' sc s3 H3 fp pn) ifs tt) (he : ∀ s3 H3 fp pn, PE (cxC X N' sc s3 H3 fp pn) elt te)
    (hs : ∀ x, foldedSetIterable iter X.env x = pure x := by intro _; rfl) : PE X (.ListComp elt [⟨tg, iter, ifs, 0⟩] sc pos) (tComp wi src g tt te) := by
  intro pins s σ H Q I h
  rw [eval_ListComp]
  refine comp_core (use := none) hc S hi hg ht he hs I h fun s3 H3 fp σ4 H4 s5 l I3 f3 J5 q => ?_
  obtain ⟨m, hn, _⟩ := J5.loc
  exact ⟨m, hn, fun h' sb => ⟨.ref l, H4, cx_end I3 f3 J5 sb, rfl, q⟩⟩
/-- name = [elt for tg in iter if ..] -/
theorem ps_setC {X : Cx} {N' : List Str} {src : List (Option Nat)} {sc : Scope} {elt tg iter : Expr} {ifs : List Expr} {pos spos px : Pos} {wi : TI} {g : TG} {tt : TT} {te : TE} {i : Nat} {x : Str} (hN : X.N.Nodup) (hi0 : X.N[i]? = some x) (hx : Loc X.env.scope x) (hc : X.calm = true) (S : CScope X N' src sc)
    (hi : PI X tg iter wi) (hg : ∀ s3 H3 fp pn, PG (cxC X N' sc s3 H3 fp pn) tg g) (ht : ∀ s3 H3 fp pn, PF (cxC X N' sc s3 H3 fp pn) ifs tt) (he : ∀ s3 H3 fp pn, PE (cxC X N' sc s3 H3 fp pn) elt te)
    (hsw : swapsWith (.ListComp elt [⟨tg, iter, ifs, 0⟩] sc pos) (some (.Name x px)) spos.line X.env = pure true := by rfl) (hs : ∀ x, foldedSetIterable iter X.env x = pure x := by intro _; rfl)
    (hf : X.fn x = true ∨ X.env.scope.names.lookup x = some .local := by first | exact .inl rfl | exact .inr rfl | assumption) :
    PS X (.Assign [.Name x px] (.ListComp elt [⟨tg, iter, ifs, 0⟩] sc pos) spos) (tAsg (tComp wi src g tt te) (gName i)) := by
  intro pins s σ H D I h
  rw [exec_Assign_Name_used _ _ _ _ hsw]
  refine wpAny_bind (wpAny_standAt (wpAny_bind ?_))
  show wpAny _ X.A (do let _ ← comprehension (.ListComp elt [⟨tg, iter, ifs, 0⟩] sc pos) sc X.env _ (newList []) false (eval iter X.env) (some (assign (.Name x px) X.env))) _ _ s
  refine wpAny_bind (thn (comp_core (R := fun _ s' => SP X pins D .next s') hc S hi hg ht he hs I h fun s3 H3 fp σ4 H4 s5 l I3 f3 J5 q => ?_) fun _ s' hq => wpAny_pure (wpAny_pure hq))
  obtain ⟨m, ⟨oC, es, ep, hoC, r⟩, _⟩ := J5.loc
  have I6 : Inv X pins σ H4 { s5 with heap := s5.heap } := cx_end I3 f3 J5 (Heap.SameBut.refl _ _)
  have hCn : H4 s3.heap.objs.size = none := J5.free
  have neL : s3.heap.objs.size ≠ X.env.locals := Nat.ne_of_gt I3.lt
  have ndat : ∀ v, oC.data ≠ .cell v := fun v z => by rw [r.1] at z; cases z
  have I7 : Inv X (pins ++ [(s3.heap.objs.size, oC)]) σ H4 s5 := I6.pins_of fun p hp => (List.mem_append.mp hp).elim (fun z => I6.pin p (List.mem_append_right _ z)) fun z => by
    cases List.mem_singleton.mp z
    exact ⟨hoC, hCn, neL, I3.nofs (Nat.le_refl _), ndat⟩
  show wpAny _ X.A (assign (.Name x px) X.env (.ref l)) _ _ s5
  refine wpAny_assign_Name (store_ok (v := .ref l) I7 hN hi0 hx rfl (fun s6 I8 => ?_) hf)
  have k8 := (I8.pin (s3.heap.objs.size, oC) (List.mem_append_right _ (List.mem_append_right _ (List.mem_singleton.mpr rfl)))).1
  refine ⟨m, ⟨oC, es, ep, k8, r⟩, fun h' sb => ⟨_, H4, ?_, q⟩⟩
  have I9 := I8.unpinned
  refine I9.turned (t' := s6.toks) (fun b o hb e => sb.extBut b o hb e) hCn neL (.inr I3.sz) (fun y c e z => ?_) (fun p hp z => ?_)
  · obtain ⟨v, o, ho, _⟩ := I3.cell y c e
    exact absurd (Heap.lt_size ho) (by rw [z]; exact Nat.lt_irrefl _)
  · have := (I3.pin p hp).1
    exact absurd (Heap.lt_size this) (by rw [z]; exact Nat.lt_irrefl _)
/-- a comprehension that takes names from the def around it (cells there); N: the def's names -/
theorem CScope.of {X : Cx} {N' : List Str} {src : List (Option Nat)} {sc : Scope} (fsc : Scope) (N : List Str) (hX : X.env.scope = fsc) (hN : X.N = N) (kind : sc.kind = .function) (nocell : ∀ y ∈ sc.names, y.2 ≠ .cell) (loc : ∀ y ∈ sc.names, y.2 = .local → sc.names.lookup y.1 = some .local)
    (fv : ∀ y ∈ sc.names, y.2 = .free → fsc.names.lookup y.1 = some .cell) (len : src.length = N'.length)
    (sr : ((N'.zip src).all fun p => match p.2 with | none => true | some j => decide (N[j]? = some p.1) && decide (sc.names.lookup p.1 = some .free)) = true) : CScope X N' src sc where
  kind := kind
  nocell := nocell
  loc := loc
  fv := fun y hy e => .inl (by show X.env.scope.names.lookup y.1 = some .cell; rw [hX]; exact fv y hy e)
  len := len
  src := fun i x j e1 e2 => by
    rw [List.all_eq_true] at sr
    have hm : (x, some j) ∈ N'.zip src := by
      refine List.mem_of_getElem? (i := i) ?_
      rw [List.getElem?_zip_eq_some]
      exact ⟨e1, e2⟩
    have := sr _ hm
    simp only [Bool.and_eq_true, decide_eq_true_eq] at this
    rw [hN]
    exact this
end L2

set_option Elab.async false
set_option linter.all false
set_option maxRecDepth 100000
set_option maxHeartbeats 4000000

/-! ### further rules over the layer -/
namespace L2
open PySem PySem.Spec PyProof.Rows
section
variable {X : Cx}

/-- isinstance(x, T), T a built-in type -/
@[irreducible] def rIsi (K : PySem.W.Frag) : List V → Hp → VK → Prop := fun xs H Q => ∃ x T t b, xs = [x, .ty T] ∧ TyOf K H x t ∧ PySem.W.kitOne K t (.type T) = some b ∧ Q (.bl b) H
theorem call_isi : CallR X (.builtin "isinstance") (rIsi X.K) := by
  intro pins s σ H xs us Q I r h
  unfold rIsi at h
  obtain ⟨x, T, t, b, rfl, ty, e, q⟩ := h
  obtain ⟨u, w', rfl, rx, rt⟩ := vals2 r
  cases rt
  exact isinst_ok I rx ty e fun tk => ⟨.bl b, H, I.tok tk, rfl, q⟩
theorem kit_int_int {K : PySem.W.Frag} : PySem.W.kitOne K (.type "int") (.type "int") = some true := by rfl
theorem kit_int_bool {K : PySem.W.Frag} : PySem.W.kitOne K (.type "int") (.type "bool") = some false := by rfl
theorem kit_bool_int {K : PySem.W.Frag} : PySem.W.kitOne K (.type "bool") (.type "int") = some true := by rfl
theorem kit_bool_bool {K : PySem.W.Frag} : PySem.W.kitOne K (.type "bool") (.type "bool") = some true := by rfl
theorem kit_none_int {K : PySem.W.Frag} : PySem.W.kitOne K (.type "NoneType") (.type "int") = some false := by rfl
theorem kit_str_int {K : PySem.W.Frag} : PySem.W.kitOne K (.type "str") (.type "int") = some false := by rfl
theorem kit_list_int {K : PySem.W.Frag} : PySem.W.kitOne K (.type "list") (.type "int") = some false := by rfl
theorem kit_tuple_int {K : PySem.W.Frag} : PySem.W.kitOne K (.type "tuple") (.type "int") = some false := by rfl
/-- a value whose kind is known: None, a truth, a whole number, a text, a list, a tuple -/
def Kn (H : Hp) : V → Prop
  | .non => True
  | .bl _ => True
  | .int _ => True
  | .str _ => True
  | .ref a => (∃ xs, H a = some (.lst xs)) ∨ ∃ xs, H a = some (.tup xs)
  | _ => False
def isI : V → Bool
  | .int _ => true
  | .bl _ => true
  | _ => false
def isB : V → Bool
  | .bl _ => true
  | _ => false
theorem Kn.same {H H' : Hp} {v : V} (s : Same H H') (k : Kn H v) : Kn H' v := by
  cases v with
  | ref a => exact k.imp (fun ⟨xs, e⟩ => ⟨xs, s _ _ e⟩) fun ⟨xs, e⟩ => ⟨xs, s _ _ e⟩
  | _ => exact k
/-- isinstance of a value of a known kind -/
theorem isi_int {K : PySem.W.Frag} {H : Hp} {x : V} {Q : VK} (k : Kn H x) (q : Q (.bl (isI x)) H) : rIsi K [x, .ty "int"] H Q := by
  unfold rIsi
  cases x with
  | non => exact ⟨_, _, _, _, rfl, .non, kit_none_int, q⟩
  | bl b => exact ⟨_, _, _, _, rfl, .bl b, kit_bool_int, q⟩
  | int i => exact ⟨_, _, _, _, rfl, .int i, kit_int_int, q⟩
  | str z => exact ⟨_, _, _, _, rfl, .str z, kit_str_int, q⟩
  | ref a =>
    rcases k with ⟨xs, e⟩ | ⟨xs, e⟩
    · exact ⟨_, _, _, _, rfl, .lst e, kit_list_int, q⟩
    · exact ⟨_, _, _, _, rfl, .tup e, kit_tuple_int, q⟩
  | _ => exact k.elim
theorem isi_bool {K : PySem.W.Frag} {H : Hp} {x : V} {Q : VK} (k : isI x = true) (q : Q (.bl (isB x)) H) : rIsi K [x, .ty "bool"] H Q := by
  unfold rIsi
  cases x with
  | bl b => exact ⟨_, _, _, _, rfl, .bl b, kit_bool_bool, q⟩
  | int i => exact ⟨_, _, _, _, rfl, .int i, kit_int_bool, q⟩
  | _ => cases k
/-- all(l), any(l) of a list of truths -/
theorem bools_of : ∀ {bs : List Bool} {us : List Value}, Vals (bs.map V.bl) us → LSm.BoolsAre us bs
  | [], _, .nil => .nil
  | b :: r, _, .cons h t => by
    cases (show _ = Value.bool b from h)
    exact .cons b (bools_of t)
/-! ### data within the tracked heap, and its equality -/
mutual
inductive Rep (H : Hp) : V → PyData → Prop
  | non : Rep H .non .none
  | bl (b : Bool) : Rep H (.bl b) (.bool b)
  | int (i : Int) : Rep H (.int i) (.int i)
  | str (x : Str) : Rep H (.str x) (.str x)
  | tup {a : Addr} {xs : List V} {ds : List PyData} : H a = some (.tup xs) → Reps H xs ds → Rep H (.ref a) (.tuple ds)
  | lst {a : Addr} {xs : List V} {ds : List PyData} : H a = some (.lst xs) → Reps H xs ds → Rep H (.ref a) (.list ds)
inductive Reps (H : Hp) : List V → List PyData → Prop
  | nil : Reps H [] []
  | cons {x : V} {d : PyData} {xs : List V} {ds : List PyData} : Rep H x d → Reps H xs ds → Reps H (x :: xs) (d :: ds)
end
mutual
theorem Rep.reads {P : Program} {w : World} {H : Hp} {h : Heap} (ok : HOk P w H h) : ∀ {v : V} {d : PyData} {u : Value}, Rep H v d → RelV v u → ∃ as, Reads h u d as
  | _, _, _, .non, r => by cases (show _ = Value.none from r); exact ⟨_, .none⟩
  | _, _, _, .bl b, r => by cases (show _ = Value.bool b from r); exact ⟨_, .bool b⟩
  | _, _, _, .int i, r => by obtain ⟨t, rfl⟩ := (show ∃ t, _ = Value.int i t from r); exact ⟨_, .int i t⟩
  | _, _, _, .str x, r => by obtain ⟨t, rfl⟩ := (show ∃ t, _ = Value.str x t from r); exact ⟨_, .str x t⟩
  | _, _, _, .tup (a := a) (xs := xs) e q, r => by
    cases (show _ = Value.ref a from r)
    obtain ⟨_, its, rv, o, ho, hc, n, hd⟩ := (show ObjOk P w H h a (.tup xs) from ok a _ e)
    obtain ⟨as, z⟩ := Reps.reads ok q rv
    exact ⟨_, .tuple ho hc hd (by simpa using z)⟩
  | _, _, _, .lst (a := a) (xs := xs) e q, r => by
    cases (show _ = Value.ref a from r)
    obtain ⟨_, its, n, rv, ho⟩ := (show ObjOk P w H h a (.lst xs) from ok a _ e)
    obtain ⟨as, z⟩ := Reps.reads ok q rv
    exact ⟨_, .list ho rfl rfl (by simpa using z)⟩
theorem Reps.reads {P : Program} {w : World} {H : Hp} {h : Heap} (ok : HOk P w H h) : ∀ {xs : List V} {ds : List PyData} {us : List Value}, Reps H xs ds → Vals xs us → ∃ as, ReadsAll h us ds as
  | _, _, _, .nil, .nil => ⟨_, .nil⟩
  | _, _, _, .cons p q, .cons r t => by
    obtain ⟨as, a1⟩ := Rep.reads ok p r
    obtain ⟨bs, b1⟩ := Reps.reads ok q t
    exact ⟨_, .cons a1 b1⟩
end
theorem op_eqD (hu : X.A.units + 64 < cLine) : OpR X (compareOp .Eq) (fun x y H Q => ∃ d e, Rep H x d ∧ Rep H y e ∧ SeqAt.shaped d = true ∧ SeqAt.shaped e = true ∧ Q (.bl (PyData.eqv d e)) H) := by
  intro pins s σ H x y v u Q I rx ry h
  obtain ⟨d, e, p, p', sd, se, q⟩ := h
  obtain ⟨as, r1⟩ := p.reads I.hok rx
  obtain ⟨bs, r2⟩ := p'.reads I.hok ry
  exact eq_dataH r1 r2 sd se hu ⟨.bl (PyData.eqv d e), H, I, rfl, q⟩
theorem op_neD (hu : X.A.units + 64 < cLine) : OpR X (compareOp .NotEq) (fun x y H Q => ∃ d e, Rep H x d ∧ Rep H y e ∧ SeqAt.shaped d = true ∧ SeqAt.shaped e = true ∧ Q (.bl (!PyData.eqv d e)) H) := by
  intro pins s σ H x y v u Q I rx ry h
  obtain ⟨d, e, p, p', sd, se, q⟩ := h
  obtain ⟨as, r1⟩ := p.reads I.hok rx
  obtain ⟨bs, r2⟩ := p'.reads I.hok ry
  exact ne_dataH r1 r2 sd se hu ⟨.bl (!PyData.eqv d e), H, I, rfl, q⟩
end
end L2

/-! ### defs of the text, each with its promise -/
namespace L2
open PySem PySem.Spec PyProof.Rows
/-- a def as it stands behind the top -/
structure Code (K : PySem.W.Frag) (mg : Str → Option Value) (x : Str) (st : Stmt) (ps : List Str) : Prop where
  ex : ∃ (f : Addr) (fd : FuncData), Fun K x x st f fd ∧ mg x = some (.ref f) ∧ Binds K fd ps []
/-- a def that keeps a promise -/
structure Good (P : Program) (w : World) (K : PySem.W.Frag) (mg : Str → Option Value) (base : Heap) (x : Str) (k : Nat) (ps : List Str) (sp : Sp) : Prop where
  ex : ∃ (f : Addr) (fd : FuncData), mg x = some (.ref f) ∧ PySem.W.keepIn K (.ref f) = true ∧ Binds K fd ps [] ∧ FnOk P w K mg base CX0 k f fd ps sp
theorem Code.good {P : Program} {w : World} {K : PySem.W.Frag} {mg : Str → Option Value} {base : Heap} {x : Str} {st : Stmt} {ps N : List Str} {k : Nat} {sp : Sp} (C : Code K mg x st ps) (S : FnScope N ps (defScope st)) (len : ∀ vs H Q E, sp vs H Q E → vs.length = ps.length)
    (hbody : ∀ (f : Addr) (cdv : Value) (A : Around) (outer : List Env) (s : Shared) (H : Hp) (vs : List V) (Q : VK) (E : XK), Room k (A.deeper (envOfC x (defScope st) s.heap.objs.size f cdv)) → sp vs H Q E →
      ∃ t, PSs (cxOf CX0 P w K mg base N x (defScope st) f cdv A outer s H E).nox (defBody st) t ∧ t { nx := fun _ H' => Q .non H', rt := Q } (start N vs) H) : Good P w K mg base x (k + 1) ps sp := by
  obtain ⟨f, fd, F, m, b⟩ := C.ex
  exact ⟨f, fd, m, F.kp, b, F.ok S len fun cdv A outer s H vs Q E hr h => hbody f cdv A outer s H vs Q E hr h⟩
theorem pcall {X : Cx} {k k' : Nat} {ps : List Str} {sp : Sp} {x : Str} {p pos : Pos} {e : Expr} {es : List Expr} {t : TA} (g : Good X.prog X.w X.K X.mg X.base x k ps sp) (hr : Room k' X.A) (ha : PA X (e :: es) t) (hk : k ≤ k' := by decide) (hg : Gl X x := by rfl)
    (hdb : (x == ("__debug__" : Str)) = false := by decide) (he : starEach (e :: es) X.env = (false, eval e X.env) :: starEach es X.env := by rfl) (hpl : (backTo pos (starEach es X.env)).any (·.1) = false := by rfl) :
    PE X (.Call (.Name x p) (e :: es) [] pos) (tCall sp [] E0 t) := by
  intro pins s σ H Q I h
  obtain ⟨f, fd, m, kp, b, F⟩ := g.ex
  exact pe_call F (hr.mono hk) hg m kp b .nil pass0 ha hdb he hpl pins s σ H Q I h
theorem Code.of {K : PySem.W.Frag} {mg : Str → Option Value} {h : Heap} {x : Str} {st : Stmt} {ps : List Str} {f : Addr} {oc : Value} {od an : Option Addr} {osl : Array (Option Value)} {kV doc pm cdv ct : Value} (X : K.In h) (G : h.Ns mainGlobals mg)
    (a : PySem.W.nsIn K mainGlobals x = some (some (.ref f))) (l : K.lookup f = some ⟨oc, od, .func (PySem.W.fnOf x x (defArgs st) (defBody st) (defScope st) .none kV doc pm an cdv ct), osl⟩) (c : PySem.W.codeIn K cdv x = true) (k : PySem.W.keepIn K (.ref f) = true)
    (hb : ∀ (kV doc pm : Value) (an : Option Addr) (cdv ct : Value) (us : List Value), us.length = ps.length → bindArgs (PySem.W.fnOf x x (defArgs st) (defBody st) (defScope st) .none kV doc pm an cdv ct) ⟨us, []⟩ = pure (ps.zip us)) : Code K mg x st ps := by
  have F := fun_mk (st := st) l c k
  exact ⟨f, _, F, PySem.W.mg_of X G a, F.binds hb⟩
theorem same_new {H : Hp} {p : Addr} (h : H p = none) (o : HO) : Same H (upd H p o) := fun b u q => by rw [upd_ne (ne_of_none q h)]; exact q
/-- a comprehension that takes nothing from around -/
theorem CScope.plain {X : Cx} {N' : List Str} {sc : Scope} (kind : sc.kind = .function) (nocell : ∀ y ∈ sc.names, y.2 ≠ .cell) (loc : ∀ y ∈ sc.names, y.2 = .local → sc.names.lookup y.1 = some .local) (nofree : ∀ y ∈ sc.names, y.2 ≠ .free) :
    CScope X N' (N'.map fun _ => none) sc where
  kind := kind
  nocell := nocell
  loc := loc
  fv := fun y hy e => absurd e (nofree y hy)
  len := by simp
  src := fun i x j _ e => by
    rw [List.getElem?_map] at e
    cases q : N'[i]? with
    | none => rw [q] at e; cases e
    | some z => rw [q] at e; cases e
/-- over a tuple that the turns leave as it is -/
theorem comp_tup {K : PySem.W.Frag} {a l : Addr} {xs : List V} {g : TG} {tt : TT} {te : TE} {Q : VK} {σ0 : St} {H0 : Hp} (Pv : Nat → St → Hp → Prop)
    (h0 : Pv 0 σ0 H0) (hl : ∀ i σ H', i ≤ xs.length → Pv i σ H' → SqT K H' a xs)
    (hs : ∀ i x σ H', xs[i]? = some x → Pv i σ H' → g x σ H' fun σ3 H3 => tt σ3 H3 fun b H4 => if b = true then te σ3 H4 fun y H5 => ∃ ys, H5 l = some (.lst ys) ∧ ys.length < sizeLine ∧ Pv (i + 1) σ3 (upd H5 l (.lst (ys ++ [y]))) else Pv (i + 1) σ3 H4)
    (hd : ∀ σ H', Pv xs.length σ H' → Q (.ref l) H') : CWant (Itt K a) g tt te Q σ0 H0 l := by
  unfold CWant
  refine ⟨fun i m σ H' => m = xs.length - i ∧ i ≤ xs.length ∧ Pv i σ H', ⟨xs.length, by simp, Nat.zero_le _, h0⟩, ?_⟩
  rintro i m σ H' ⟨rfl, hi, p⟩
  have q := hl i σ H' hi p
  by_cases hlt : i < xs.length
  · refine .inr ⟨⟨xs, xs[i], q, by simp [hlt]⟩, Pv (i + 1), fun σ3 H3 p' => ⟨xs.length - (i + 1), by omega, rfl, hlt, p'⟩, fun x H2 y => ?_⟩
    obtain ⟨e, y⟩ := y
    subst e
    exact hs i x σ _ (y xs q) p
  · have e : i = xs.length := by omega
    subst e
    exact .inl ⟨⟨xs, q, Nat.le_refl _⟩, hd σ H' p⟩
/-- over a list that the turns leave as it is -/
theorem comp_list {K : PySem.W.Frag} {a l : Addr} {xs : List V} {g : TG} {tt : TT} {te : TE} {Q : VK} {σ0 : St} {H0 : Hp} (Pv : Nat → St → Hp → Prop)
    (h0 : Pv 0 σ0 H0) (hl : ∀ i σ H', i ≤ xs.length → Pv i σ H' → SqL K H' a xs)
    (hs : ∀ i x σ H', xs[i]? = some x → Pv i σ H' → g x σ H' fun σ3 H3 => tt σ3 H3 fun b H4 => if b = true then te σ3 H4 fun y H5 => ∃ ys, H5 l = some (.lst ys) ∧ ys.length < sizeLine ∧ Pv (i + 1) σ3 (upd H5 l (.lst (ys ++ [y]))) else Pv (i + 1) σ3 H4)
    (hd : ∀ σ H', Pv xs.length σ H' → Q (.ref l) H') : CWant (Itl K a) g tt te Q σ0 H0 l := by
  unfold CWant
  refine ⟨fun i m σ H' => m = xs.length - i ∧ i ≤ xs.length ∧ Pv i σ H', ⟨xs.length, by simp, Nat.zero_le _, h0⟩, ?_⟩
  rintro i m σ H' ⟨rfl, hi, p⟩
  have q := hl i σ H' hi p
  by_cases hlt : i < xs.length
  · refine .inr ⟨⟨xs, xs[i], q, by simp [hlt]⟩, Pv (i + 1), fun σ3 H3 p' => ⟨xs.length - (i + 1), by omega, rfl, hlt, p'⟩, fun x H2 y => ?_⟩
    obtain ⟨e, y⟩ := y
    subst e
    exact hs i x σ _ (y xs q) p
  · have e : i = xs.length := by omega
    subst e
    exact .inl ⟨⟨xs, q, Nat.le_refl _⟩, hd σ H' p⟩
end L2

set_option Elab.async false
set_option linter.all false
set_option maxRecDepth 100000
set_option maxHeartbeats 4000000
/-! ### own classes: methods with their promises, the attributes by their places -/
namespace L2
open PySem PySem.Spec PyProof.Rows
/-- a method as it stands in its class behind the top -/
structure CodeM (K : PySem.W.Frag) (C : Addr) (m qn : Str) (st : Stmt) (ps : List Str) : Prop where
  ex : ∃ (f : Addr) (fd : FuncData), Fun K m qn st f fd ∧ Meth K C m f ∧ Binds K fd ps []
/-- a method that keeps a promise -/
structure GoodM (P : Program) (w : World) (K : PySem.W.Frag) (mg : Str → Option Value) (base : Heap) (C : Addr) (m : Str) (k : Nat) (ps : List Str) (sp : Sp) : Prop where
  ex : ∃ (f : Addr) (fd : FuncData), Meth K C m f ∧ Binds K fd ps [] ∧ FnOk P w K mg base CX0 k f fd ps sp
/-- the class is made with an __init__ that keeps a promise -/
structure GoodI (P : Program) (w : World) (K : PySem.W.Frag) (mg : Str → Option Value) (base : Heap) (C : Addr) (k : Nat) (ps : List Str) (sp : Sp) : Prop where
  ex : ∃ (f : Addr) (fd : FuncData), Mk K C f ∧ Binds K fd ps [] ∧ FnOk P w K mg base CX0 k f fd ps sp
theorem CodeM.good {P : Program} {w : World} {K : PySem.W.Frag} {mg : Str → Option Value} {base : Heap} {C : Addr} {m qn : Str} {st : Stmt} {ps N : List Str} {k : Nat} {sp : Sp} (c : CodeM K C m qn st ps) (S : FnScope N ps (defScope st)) (len : ∀ vs H Q E, sp vs H Q E → vs.length = ps.length)
    (hbody : ∀ (f : Addr) (cdv : Value) (A : Around) (outer : List Env) (s : Shared) (H : Hp) (vs : List V) (Q : VK) (E : XK), Room k (A.deeper (envOfC qn (defScope st) s.heap.objs.size f cdv)) → sp vs H Q E →
      ∃ t, PSs (cxOf CX0 P w K mg base N qn (defScope st) f cdv A outer s H E).nox (defBody st) t ∧ t { nx := fun _ H' => Q .non H', rt := Q } (start N vs) H) : GoodM P w K mg base C m (k + 1) ps sp := by
  obtain ⟨f, fd, F, M, b⟩ := c.ex
  exact ⟨f, fd, M, b, F.ok S len fun cdv A outer s H vs Q E hr h => hbody f cdv A outer s H vs Q E hr h⟩
theorem pmeth {X : Cx} {pl : Sem Bool} {k k' : Nat} {C : Addr} {ps : List Str} {sp : Sp} {m : Str} {apos pos : Pos} {o e : Expr} {es : List Expr} {ta : TE} {t : TA} (he : PE X o ta) (c : Cls X.K C) (g : GoodM X.prog X.w X.K X.mg X.base C m k ps sp) (hr : Room k' X.A) (ha : PA X (e :: es) t) (hk : k ≤ k' := by decide)
    (hst : starEach (e :: es) X.env = (false, eval e X.env) :: starEach es X.env := by rfl) (hpl : (backTo pos (starEach es X.env)).any (·.1) = false := by rfl)
    (ht : eval (.Call (.Attribute o m apos) (e :: es) [] pos) X.env = (do
      let ov ← eval o X.env
      standAt apos.atName
      let (f, first) ← holding [ov] (getMethod ov m pl)
      callWith pos f first (backTo pos (starEach (e :: es) X.env)) (backToKw pos (keywordEach [] X.env))) := by rfl) :
    PE X (.Call (.Attribute o m apos) (e :: es) [] pos) (tMeth C m sp [] E0 ta t) := by
  intro pins s σ H Q I h
  obtain ⟨f, fd, M, b, F⟩ := g.ex
  exact pe_meth (pl := pl) he c M F (hr.mono hk) b .nil pass0 ha hst hpl ht pins s σ H Q I h
theorem pmeth0 {X : Cx} {pl : Sem Bool} {k k' : Nat} {C : Addr} {ps : List Str} {sp : Sp} {m : Str} {apos pos : Pos} {o : Expr} {ta : TE} (he : PE X o ta) (c : Cls X.K C) (g : GoodM X.prog X.w X.K X.mg X.base C m k ps sp) (hr : Room k' X.A) (hk : k ≤ k' := by decide)
    (ht : eval (.Call (.Attribute o m apos) [] [] pos) X.env = (do
      let ov ← eval o X.env
      standAt apos.atName
      let (f, first) ← holding [ov] (getMethod ov m pl)
      callWith pos f first (backTo pos (starEach [] X.env)) (backToKw pos (keywordEach [] X.env))) := by rfl) :
    PE X (.Call (.Attribute o m apos) [] [] pos) (tMeth C m sp [] E0 ta tNil) := by
  intro pins s σ H Q I h
  obtain ⟨f, fd, M, b, F⟩ := g.ex
  exact pe_meth0 (pl := pl) he c M F (hr.mono hk) b .nil pass0 ht pins s σ H Q I h
theorem pmake {X : Cx} {k k' : Nat} {C : Addr} {ps : List Str} {sp : Sp} {x : Str} {p pos : Pos} {e : Expr} {es : List Expr} {t : TA} (g : GoodI X.prog X.w X.K X.mg X.base C k ps sp) (hr : Room k' X.A) (hm : X.mg x = some (.ref C)) (ha : PA X (e :: es) t) (hk : k + 1 ≤ k' := by decide) (hg : Gl X x := by rfl)
    (hdb : (x == ("__debug__" : Str)) = false := by decide) (he : starEach (e :: es) X.env = (false, eval e X.env) :: starEach es X.env := by rfl) (hpl : (backTo pos (starEach es X.env)).any (·.1) = false := by rfl) :
    PE X (.Call (.Name x p) (e :: es) [] pos) (tMake C sp [] E0 t) := by
  intro pins s σ H Q I h
  obtain ⟨f, fd, M, b, F⟩ := g.ex
  exact pe_make M F (hr.mono hk) hg hm b .nil pass0 ha hdb he hpl pins s σ H Q I h
/-- a constant of the text -/
theorem pe_cst {X : Cx} {x : Str} {v : V} {pos : Pos} (hg : Gl X x) (hm : ∃ u, X.mg x = some u ∧ RelV v u) (hd : (x == ("__debug__" : Str)) = false := by decide) : PE X (.Name x pos) (tC v) := by
  obtain ⟨u, h, r⟩ := hm
  exact pe_glob hg h r hd
/-- attributes by their places -/
theorem fl_get : ∀ {fs : List (Str × V)} {i : Nat} {f : Str} {v : V}, (fs.map (·.1)).Nodup → fs[i]? = some (f, v) → fs.lookup f = some v
  | [], _, _, _, _, h => by simp at h
  | (g, u) :: fs, 0, f, v, _, h => by simp at h; obtain ⟨rfl, rfl⟩ := h; simp [List.lookup]
  | (g, u) :: fs, i + 1, f, v, hn, h => by
    rw [List.map_cons, List.nodup_cons] at hn
    have h' : fs[i]? = some (f, v) := by simpa using h
    have hm : f ∈ fs.map (·.1) := List.mem_map.mpr ⟨(f, v), List.mem_of_getElem? h', rfl⟩
    have hne : (f == g) = false := beq_eq_false_iff_ne.mpr fun e => hn.1 (e ▸ hm)
    rw [List.lookup, hne]
    exact fl_get hn.2 h'
theorem fl_no : ∀ {fs : List (Str × V)} {m : Str}, m ∉ fs.map (·.1) → fs.lookup m = none
  | [], _, _ => rfl
  | (g, u) :: fs, m, h => by
    rw [List.map_cons, List.mem_cons] at h
    have hne : (m == g) = false := beq_eq_false_iff_ne.mpr fun e => h (.inl e)
    rw [List.lookup, hne]
    exact fl_no fun z => h (.inr z)
theorem fl_put {y : V} : ∀ {fs : List (Str × V)} {i : Nat} {f : Str} {v : V}, (fs.map (·.1)).Nodup → fs[i]? = some (f, v) → putF f y fs = fs.set i (f, y)
  | [], _, _, _, _, h => by simp at h
  | (g, u) :: fs, 0, f, v, _, h => by
    simp at h
    obtain ⟨rfl, rfl⟩ := h
    show (if g = g then (g, y) :: fs else (g, u) :: putF g y fs) = _
    rw [if_pos rfl]
    rfl
  | (g, u) :: fs, i + 1, f, v, hn, h => by
    rw [List.map_cons, List.nodup_cons] at hn
    have h' : fs[i]? = some (f, v) := by simpa using h
    have hm : f ∈ fs.map (·.1) := List.mem_map.mpr ⟨(f, v), List.mem_of_getElem? h', rfl⟩
    have hne : ¬ g = f := fun e => hn.1 (by rw [show (g, u).fst = g from rfl, e]; exact hm)
    show (if g = f then (g, y) :: fs else (g, u) :: putF f y fs) = _
    rw [if_neg hne, fl_put hn.2 h']
    rfl
theorem fl_new {y : V} : ∀ {fs : List (Str × V)} {f : Str}, f ∉ fs.map (·.1) → putF f y fs = fs ++ [(f, y)]
  | [], _, _ => rfl
  | (g, u) :: fs, f, h => by
    rw [List.map_cons, List.mem_cons] at h
    show (if g = f then (g, y) :: fs else (g, u) :: putF f y fs) = _
    rw [if_neg fun e => h (.inl e.symm), fl_new fun z => h (.inr z)]
    rfl
/-- tuples stay tuples -/
def TupS (H H' : Hp) : Prop := ∀ c xs, H c = some (.tup xs) → H' c = some (.tup xs)
theorem TupS.refl (H : Hp) : TupS H H := fun _ _ e => e
theorem TupS.trans {H H1 H2 : Hp} (a : TupS H H1) (b : TupS H1 H2) : TupS H H2 := fun c xs e => b c xs (a c xs e)
theorem TupS.of {H H1 : Hp} (s : Same H H1) : TupS H H1 := fun c xs e => s c _ e
theorem TupS.upd {H : Hp} {b : Addr} {o : HO} (h : ∀ xs, H b ≠ some (.tup xs)) : TupS H (upd H b o) := fun c xs e => by
  have n : c ≠ b := fun z => h xs (z ▸ e)
  rw [upd_ne n]
  exact e
/-- all but b is as it was -/
def SameB (b : Addr) (H H' : Hp) : Prop := ∀ c o, H c = some o → c ≠ b → H' c = some o
theorem SameB.trans {b : Addr} {H H1 H2 : Hp} (x : SameB b H H1) (y : SameB b H1 H2) : SameB b H H2 := fun c o e n => y c o (x c o e n) n
theorem SameB.of {b : Addr} {H H1 : Hp} (x : Same H H1) : SameB b H H1 := fun c o e _ => x c o e
theorem SameB.refl (b : Addr) (H : Hp) : SameB b H H := fun _ _ e _ => e
theorem SameB.upd {b : Addr} {H : Hp} {o : HO} : SameB b H (upd H b o) := fun c u e n => by rw [upd_ne n]; exact e
theorem SameB.tup {b : Addr} {H H' : Hp} (x : SameB b H H') (h : ∀ xs, H b ≠ some (.tup xs)) : TupS H H' := fun c xs e => x c _ e fun z => h xs (z ▸ e)
theorem SameB.free {b : Addr} {H H' : Hp} (x : SameB b H H') (hb : ∃ o, H' b = some o) {l : Addr} (h : H' l = none) : H l = none := by
  cases e : H l with
  | none => rfl
  | some o =>
    by_cases n : l = b
    · obtain ⟨o', e'⟩ := hb
      rw [n, e'] at h
      cases h
    · rw [x l o e n] at h
      cases h
/-- e.f = value, the heap behind it by what is true of it -/
def sFldE (K : PySem.W.Frag) (ta tv : TE) (f : Str) : TS := fun D σ H => tv σ H fun y H1 => ta σ H1 fun x H2 => ∃ a C dx fs fs', x = .ref a ∧ H2 a = some (.ins C dx fs) ∧ Cls K C ∧ NoAttr K C f ∧ fs.length < 1000 ∧ putF f y fs = fs' ∧
  ∀ H', H' a = some (.ins C dx fs') → SameB a H2 H' → D.nx σ H'
section
variable {X : Cx} {o e value : Expr} {f : Str} {pos pos' tpos : Pos} {ta tv : TE}
theorem ps_fldE (ha : PE X o ta) (hv : PE X value tv) (hs : swapsWith value (some (.Attribute o f pos')) pos.line X.env = pure false) : PS X (.Assign [.Attribute o f pos'] value pos) (sFldE X.K ta tv f) := by
  intro pins s σ H D I h
  refine plainObj_wpAny_Assign_Attribute (thn (hv pins s σ H _ I h) fun u s1 ⟨y, H1, I1, ry, q⟩ => thn (ha pins s1 σ H1 _ I1 q) fun ov s2 ⟨x, H2, I2, rx, a, C, dx, fs, fs', ex, ea, c, n, l, ep, q2⟩ => ?_) hs
  subst ex
  obtain rfl : ov = Value.ref a := rx
  refine setattr_ok I2 ea c n l ry fun s3 I3 => ⟨σ, _, I3, q2 _ ?_ SameB.upd⟩
  rw [upd_same, ep]
end
end L2
namespace L2
open PySem PySem.Spec PyProof.Rows
end L2
/-! ### rules that name the text's facts, within a comprehension -/
namespace L2
open PySem PySem.Spec PyProof.Rows
section
variable {X : Cx} {K : PySem.W.Frag}
theorem ix_tupK (h : X.K = K) : IxR X (rIxT K) := h ▸ ix_tup
theorem op_in_seqK (h : X.K = K) : OpR X (compareOp .In) (rIn K false) := h ▸ op_in_seq
theorem op_notIn_seqK (h : X.K = K) : OpR X (compareOp .NotIn) (rIn K true) := h ▸ op_notIn_seq
theorem pe_fldK {e : Expr} {f : Str} {pos : Pos} {ta : TE} (h : X.K = K) (he : PE X e ta) (hb : attributeBase e f X.env (eval e X.env) = eval e X.env) : PE X (.Attribute e f pos) (tFld K ta f) := h ▸ pe_fld he hb
end
end L2

set_option Elab.async false
set_option linter.all false
set_option maxRecDepth 100000
set_option maxHeartbeats 4000000
namespace PySem
open Sem (wp)
section
variable {prog : Program} {w : World} {A : Around} {E : Value → Shared → Prop} {s : Shared}
end
end PySem
namespace L2
open PySem PySem.Spec PyProof.Rows
section
variable {X : Cx} {pos : Pos}
end
end L2
/-! ### a row of objects that stand in the heap, none twice -/
namespace L2
open PySem PySem.Spec PyProof.Rows
theorem nodup_set {α : Type} : ∀ {l : List α} {i : Nat} {a : α}, l.Nodup → a ∉ l → (l.set i a).Nodup
  | [], _, _, h, _ => by simpa using h
  | x :: r, 0, a, h, n => by
    rw [List.nodup_cons] at h
    rw [List.set_cons_zero, List.nodup_cons]
    exact ⟨fun z => n (List.mem_cons_of_mem _ z), h.2⟩
  | x :: r, i + 1, a, h, n => by
    rw [List.nodup_cons] at h
    rw [List.set_cons_succ, List.nodup_cons]
    refine ⟨fun z => ?_, nodup_set h.2 fun z => n (List.mem_cons_of_mem _ z)⟩
    rcases List.mem_or_eq_of_mem_set z with z | z
    · exact h.1 z
    · exact n (z ▸ List.mem_cons_self)
structure Has (H : Hp) (l : List (Addr × HO)) : Prop where
  nd : (l.map (·.1)).Nodup
  at_ : ∀ x ∈ l, H x.1 = some x.2
theorem Has.get {H : Hp} {l : List (Addr × HO)} (h : Has H l) {i : Nat} {a : Addr} {o : HO} (e : l[i]? = some (a, o)) : H a = some o := h.at_ (a, o) (List.mem_of_getElem? e)
theorem Has.same {H H' : Hp} {l : List (Addr × HO)} (h : Has H l) (s : Same H H') : Has H' l := ⟨h.nd, fun x hx => s _ _ (h.at_ x hx)⟩
theorem Has.sameB {H H' : Hp} {l : List (Addr × HO)} {b : Addr} (h : Has H l) (s : SameB b H H') (n : b ∉ l.map (·.1)) : Has H' l := ⟨h.nd, fun x hx => s _ _ (h.at_ x hx) fun z => n (z ▸ List.mem_map.mpr ⟨x, hx, rfl⟩)⟩
theorem Has.notin {H : Hp} {l : List (Addr × HO)} {a : Addr} (h : Has H l) (e : H a = none) : a ∉ l.map (·.1) := fun z => by
  obtain ⟨x, hx, rfl⟩ := List.mem_map.mp z
  rw [h.at_ x hx] at e
  cases e
theorem map_set {l : List (Addr × HO)} {i : Nat} {a : Addr} {o : HO} : (l.set i (a, o)).map (·.1) = (l.map (·.1)).set i a := by rw [List.map_set]
theorem Has.set {H H' : Hp} {l : List (Addr × HO)} (h : Has H l) (i : Nat) {a : Addr} {o o' : HO} (e : l[i]? = some (a, o)) (s : SameB a H H') (e' : H' a = some o') : Has H' (l.set i (a, o')) := by
  have em : (l.map (·.1))[i]? = some a := by rw [List.getElem?_map, e]; rfl
  have hi := (List.getElem?_eq_some_iff.mp e).1
  refine ⟨?_, fun x hx => ?_⟩
  · rw [map_set]
    have : (l.map (·.1)).set i a = l.map (·.1) := by
      obtain ⟨h1, h2⟩ := List.getElem?_eq_some_iff.mp em
      rw [← h2]
      exact List.set_getElem_self h1
    rw [this]
    exact h.nd
  · obtain ⟨j, hj, ex⟩ := List.mem_iff_getElem.mp hx
    rw [List.getElem_set] at ex
    by_cases q : i = j
    · rw [if_pos q] at ex
      subst ex
      exact e'
    · rw [if_neg q] at ex
      have hj' : j < l.length := by simpa using hj
      have hm : x ∈ l := ex ▸ List.getElem_mem hj'
      refine s _ _ (h.at_ x hm) fun z => q ?_
      have ej : (l.map (·.1))[j]? = some a := by rw [List.getElem?_map, List.getElem?_eq_getElem hj']; rw [← z, ← ex]; rfl
      obtain ⟨h1, h2⟩ := List.getElem?_eq_some_iff.mp em
      obtain ⟨h3, h4⟩ := List.getElem?_eq_some_iff.mp ej
      exact (List.getElem_inj h.nd).mp (h2.trans h4.symm)
theorem Has.put {H : Hp} {l : List (Addr × HO)} (h : Has H l) (i : Nat) {a : Addr} {o : HO} (n : a ∉ l.map (·.1)) (e : H a = some o) : Has H (l.set i (a, o)) := by
  refine ⟨by rw [map_set]; exact nodup_set h.nd n, fun x hx => ?_⟩
  rcases List.mem_or_eq_of_mem_set hx with z | z
  · exact h.at_ x z
  · rw [z]; exact e
theorem Has.new {H H' : Hp} {l : List (Addr × HO)} {a : Addr} {o : HO} (h : Has H l) (n : H a = none) (s : Same H H') (e : H' a = some o) : Has H' (l ++ [(a, o)]) := by
  refine ⟨?_, fun x hx => ?_⟩
  · rw [List.map_append, List.nodup_append]
    refine ⟨h.nd, by simp, fun x hx y hy z => ?_⟩
    have : y = a := by simpa using hy
    subst this
    exact h.notin n (z ▸ hx)
  · rcases List.mem_append.mp hx with z | z
    · exact s _ _ (h.at_ x z)
    · have : x = (a, o) := by simpa using z
      subst this
      exact e
theorem Has.nil (H : Hp) : Has H [] := ⟨List.nodup_nil, fun x hx => by cases hx⟩
theorem Has.ne {H : Hp} {l : List (Addr × HO)} (h : Has H l) {i j : Nat} {a b : Addr} {o p : HO} (e : l[i]? = some (a, o)) (e' : l[j]? = some (b, p)) (n : i ≠ j) : a ≠ b := fun z => by
  have ea : (l.map (·.1))[i]? = some a := by rw [List.getElem?_map, e]; rfl
  have eb : (l.map (·.1))[j]? = some a := by rw [List.getElem?_map, e', z]; rfl
  obtain ⟨h1, h2⟩ := List.getElem?_eq_some_iff.mp ea
  obtain ⟨h3, h4⟩ := List.getElem?_eq_some_iff.mp eb
  exact n ((List.getElem_inj h.nd).mp (h2.trans h4.symm))
theorem Same.stepB {H0 H H' : Hp} {a : Addr} (s : Same H0 H) (b : SameB a H H') (f : H0 a = none) : Same H0 H' := fun c o e => b _ _ (s _ _ e) fun z => by rw [z, f] at e; cases e
end L2

set_option Elab.async false
set_option linter.all false
set_option maxRecDepth 100000
namespace L2
open PySem PySem.Spec PyProof.Rows

/-! ### lists of pairs as tables -/
section
variable {κ : Type} [DecidableEq κ]
def valV (kvs : List (κ × V)) (k : κ) : Option V := (kvs.find? fun kv => decide (kv.1 = k)).map (·.2)
/-- in its place, or at the end -/
def putK (kvs : List (κ × V)) (k : κ) (v : V) : List (κ × V) :=
  if (kvs.any fun kv => decide (kv.1 = k)) = true then kvs.map (fun kv => if kv.1 = k then (kv.1, v) else kv) else kvs ++ [(k, v)]
def dropK (kvs : List (κ × V)) (k : κ) : List (κ × V) := kvs.filter fun kv => decide (kv.1 ≠ k)

theorem valV_pos {p : κ × V} {r : List (κ × V)} {k : κ} (e : p.1 = k) : valV (p :: r) k = some p.2 := by simp [valV, List.find?_cons, e]
theorem valV_neg {p : κ × V} {r : List (κ × V)} {k : κ} (e : ¬ p.1 = k) : valV (p :: r) k = valV r k := by simp [valV, List.find?_cons, e]
theorem valV_any (k : κ) : ∀ kvs : List (κ × V), (kvs.any fun kv => decide (kv.1 = k)) = (valV kvs k).isSome
  | [] => rfl
  | p :: r => by
    rw [List.any_cons]
    by_cases e : p.1 = k
    · simp only [valV_pos e, decide_eq_true e, Bool.true_or, Option.isSome_some]
    · rw [valV_neg e, decide_eq_false e, Bool.false_or]; exact valV_any k r
theorem valV_snoc (k j : κ) (y : V) : ∀ kvs : List (κ × V), valV kvs k = none → valV (kvs ++ [(k, y)]) j = if j = k then some y else valV kvs j
  | [], _ => by
    by_cases e : k = j
    · rw [if_pos e.symm]; exact valV_pos (p := (k, y)) e
    · rw [if_neg (fun z => e z.symm)]; exact valV_neg (p := (k, y)) e
  | p :: r, hn => by
    rw [List.cons_append]
    have hk : ¬ p.1 = k := fun z => by rw [valV_pos z] at hn; cases hn
    rw [valV_neg hk] at hn
    have ih := valV_snoc k j y r hn
    by_cases e : p.1 = j
    · rw [valV_pos e, valV_pos e, if_neg (fun z => hk (e.trans z))]
    · rw [valV_neg e, valV_neg e, ih]
theorem length_putK (kvs : List (κ × V)) (k : κ) (v : V) : (putK kvs k v).length ≤ kvs.length + 1 := by
  unfold putK
  split
  · rw [List.length_map]; omega
  · rw [List.length_append, List.length_cons, List.length_nil]; omega
theorem putK_new {kvs : List (κ × V)} {k : κ} (v : V) (h : valV kvs k = none) : putK kvs k v = kvs ++ [(k, v)] := by
  unfold putK
  rw [valV_any, h]
  exact if_neg (by decide)

theorem RelO.isSome_eq {o : Option V} {u : Option Value} (r : RelO o u) : o.isSome = u.isSome := by
  cases o with
  | none => cases u with
    | none => rfl
    | some _ => exact (show False from r).elim
  | some _ => cases u with
    | none => exact (show False from r).elim
    | some _ => rfl
theorem RelO.getD {o : Option V} {u : Option Value} {d : V} {d' : Value} (r : RelO o u) (rd : RelV d d') : RelV (o.getD d) (u.getD d') := by
  cases o with
  | none => cases u with
    | none => exact rd
    | some _ => exact (show False from r).elim
  | some _ => cases u with
    | none => exact (show False from r).elim
    | some _ => exact r

/-- raw tables of the same keys -/
theorem KV.val {kvs : List (κ × V)} {vs : List (κ × Value)} (r : KV kvs vs) (k : κ) : RelO (valV kvs k) (valueAt vs k) := by
  unfold KV at r
  induction r with
  | nil => exact True.intro
  | @cons p q ps qs h t ih =>
    obtain ⟨h1, h2⟩ := h
    by_cases e : p.1 = k
    · have e' : q.1 = k := h1.symm.trans e
      have b : valueAt (q :: qs) k = some q.2 := by simp [valueAt, List.find?_cons, e']
      rw [valV_pos e, b]; exact h2
    · have e' : ¬ q.1 = k := fun z => e (h1.trans z)
      have b : valueAt (q :: qs) k = valueAt qs k := by simp [valueAt, List.find?_cons, e']
      rw [valV_neg e, b]; exact ih
theorem KV.any {kvs : List (κ × V)} {vs : List (κ × Value)} (r : KV kvs vs) (k : κ) : (kvs.any fun kv => decide (kv.1 = k)) = vs.any fun kv => decide (kv.1 = k) := by
  unfold KV at r
  induction r with
  | nil => rfl
  | cons h t ih => rw [List.any_cons, List.any_cons, ih, h.1]
theorem KV.repl {kvs : List (κ × V)} {vs : List (κ × Value)} (r : KV kvs vs) (k : κ) {y : V} {u : Value} (ry : RelV y u) :
    KV (kvs.map fun kv => if kv.1 = k then (kv.1, y) else kv) (vs.map fun kv => if kv.1 = k then (kv.1, u) else kv) := by
  unfold KV at r ⊢
  induction r with
  | nil => exact .nil
  | @cons p q ps qs h t ih =>
    rw [List.map_cons, List.map_cons]
    refine .cons ?_ ih
    obtain ⟨h1, h2⟩ := h
    by_cases e : p.1 = k
    · rw [if_pos e, if_pos (h1.symm.trans e)]; exact ⟨h1, ry⟩
    · rw [if_neg e, if_neg (fun z => e (h1.trans z))]; exact ⟨h1, h2⟩
theorem KV.put {kvs : List (κ × V)} {vs : List (κ × Value)} (r : KV kvs vs) (k : κ) {y : V} {u : Value} (ry : RelV y u) : KV (putK kvs k y) (stored vs k u) := by
  unfold putK stored
  rw [r.any k]
  by_cases e : (vs.any fun kv => decide (kv.1 = k)) = true
  · rw [if_pos e, if_pos e]; exact r.repl k ry
  · rw [if_neg e, if_neg e]; exact Paired.snoc r ⟨rfl, ry⟩
theorem KV.drop {kvs : List (κ × V)} {vs : List (κ × Value)} (r : KV kvs vs) (k : κ) : KV (dropK kvs k) (without vs k) := by
  unfold KV at r ⊢
  unfold dropK without
  induction r with
  | nil => exact .nil
  | @cons p q ps qs h t ih =>
    obtain ⟨h1, h2⟩ := h
    rw [List.filter_cons, List.filter_cons]
    by_cases e : p.1 = k
    · have a : ¬ decide (p.1 ≠ k) = true := by simp [e]
      have b : ¬ decide (q.1 ≠ k) = true := by simp [h1.symm.trans e]
      rw [if_neg a, if_neg b]; exact ih
    · have e' : ¬ q.1 = k := fun z => e (h1.trans z)
      have a : decide (p.1 ≠ k) = true := by simp [e]
      have b : decide (q.1 ≠ k) = true := by simp [e']
      rw [if_pos a, if_pos b]; exact .cons ⟨h1, h2⟩ ih
theorem KV.keys {kvs : List (κ × V)} {vs : List (κ × Value)} (r : KV kvs vs) : kvs.map (·.1) = vs.map (·.1) := by
  unfold KV at r
  induction r with
  | nil => rfl
  | cons h t ih => rw [List.map_cons, List.map_cons, ih, h.1]
theorem KV.length {kvs : List (κ × V)} {vs : List (κ × Value)} (r : KV kvs vs) : kvs.length = vs.length := Paired.length r
end


/-! ### a tracked dict, its keys ints and texts or tuples of these -/
theorem kV_is {P : Program} {w : World} {k : Key} {u : Value} (r : RelV (kV k) u) : (mixKind P w).is k u = true := by
  cases k with
  | inl i => obtain ⟨t, e⟩ := (show ∃ t, u = Value.int i t from r); subst e; exact mixKind_int P w i t
  | inr x => obtain ⟨t, e⟩ := (show ∃ t, u = Value.str x t from r); subst e; exact mixKind_str P w x t
theorem items_are {P : Program} {w : World} : ∀ {ks : List Key} {us : List Value}, Vals (ks.map kV) us → ItemsAre (mixKind P w) ks us
  | [], _, r => by rw [List.map_nil] at r; cases r; exact .nil
  | k :: ks, _, r => by
    rw [List.map_cons] at r
    cases r with
    | cons h t => exact .cons (kV_is h) (items_are t)

/-- raw entries of a dict with tuple keys -/
abbrev KT (H : Hp) : List (List Key × V) → List (List Key × Addr × Value) → Prop := Paired fun p q => p.1 = q.1 ∧ H q.2.1 = some (.tup (p.1.map kV)) ∧ RelV p.2 q.2.2
theorem KT.val {H : Hp} {kvs : List (List Key × V)} {xs : List (List Key × Addr × Value)} (r : KT H kvs xs) (k : List Key) : RelO (valV kvs k) ((atKey xs k).map (·.2)) := by
  induction r with
  | nil => exact True.intro
  | @cons p q ps qs h t ih =>
    obtain ⟨h1, _, h2⟩ := h
    by_cases e : p.1 = k
    · have e' : q.1 = k := h1.symm.trans e
      have b : atKey (q :: qs) k = some q.2 := by simp [atKey, List.find?_cons, e']
      rw [valV_pos e, b]; exact h2
    · have e' : ¬ q.1 = k := fun z => e (h1.trans z)
      have b : atKey (q :: qs) k = atKey qs k := by simp [atKey, List.find?_cons, e']
      rw [valV_neg e, b]; exact ih
theorem KT.repl {H : Hp} {kvs : List (List Key × V)} {xs : List (List Key × Addr × Value)} (r : KT H kvs xs) (k : List Key) {y : V} {u : Value} (ry : RelV y u) :
    KT H (kvs.map fun kv => if kv.1 = k then (kv.1, y) else kv) (xs.map (putAt k u)) := by
  induction r with
  | nil => exact .nil
  | @cons p q ps qs h t ih =>
    rw [List.map_cons, List.map_cons]
    refine .cons ?_ ih
    obtain ⟨h1, h2, h3⟩ := h
    unfold putAt
    by_cases e : p.1 = k
    · rw [if_pos e, if_pos (h1.symm.trans e)]; exact ⟨h1, h2, ry⟩
    · rw [if_neg e, if_neg (fun z => e (h1.trans z))]; exact ⟨h1, h2, h3⟩
theorem KT.put {H : Hp} {kvs : List (List Key × V)} {xs : List (List Key × Addr × Value)} (r : KT H kvs xs) (k : List Key) {b : Addr} {y : V} {u : Value} (hb : H b = some (.tup (k.map kV))) (ry : RelV y u) :
    KT H (putK kvs k y) (storedH xs k b u) := by
  have e : (kvs.any fun kv => decide (kv.1 = k)) = (atKey xs k).isSome := by
    rw [valV_any, (r.val k).isSome_eq, Option.isSome_map]
  unfold putK storedH
  rw [e]
  by_cases q : (atKey xs k).isSome = true
  · rw [if_pos q, if_pos q]; exact r.repl k ry
  · rw [if_neg q, if_neg q]; exact Paired.snoc r ⟨rfl, hb, ry⟩
theorem KT.keeps {H H' : Hp} {kvs : List (List Key × V)} {xs : List (List Key × Addr × Value)} (r : KT H kvs xs) (ht : ∀ b ys, H b = some (.tup ys) → H' b = some (.tup ys)) : KT H' kvs xs :=
  Paired.mapP r fun _ _ z => ⟨z.1, ht _ _ z.2.1, z.2.2⟩

section
variable {P : Program} {w : World} {H : Hp} {h : Heap} {a : Addr}
theorem rd_of {u : HO} (ok : HOk P w H h) (e : Rd H a u) : ObjOk P w H h a u := e.ok ok
theorem dk_rd {kvs : List (Key × V)} (ok : HOk P w H h) (e : Rd H a (.dK kvs)) : kvs.length ≤ sizeLine ∧ (a == sysModules) = false ∧ ∃ vs, KV kvs vs ∧ h.DictOf (mixKind P w) a vs :=
  show ObjOk P w H h a (.dK kvs) from rd_of ok e
theorem dk_of {kvs : List (Key × V)} (ok : HOk P w H h) (e : H a = some (.dK kvs)) : kvs.length ≤ sizeLine ∧ (a == sysModules) = false ∧ ∃ vs, KV kvs vs ∧ h.DictOf (mixKind P w) a vs := dk_rd ok (.inl e)
/-- a tracked tuple of ints and texts is a key -/
theorem key_of {ks : List Key} (ok : HOk P w H h) (e : H a = some (.tup (ks.map kV))) : (tupleKind (mixKind P w)).is h ks a := by
  obtain ⟨_, its, r, o, h1, h2, n, h3⟩ := (show ObjOk P w H h a (.tup (ks.map kV)) from ok a _ e)
  exact ⟨o, its.toArray, n, h1, h2, h3, by simpa using items_are r⟩
theorem dt_rd {kvs : List (List Key × V)} (ok : HOk P w H h) (e : Rd H a (.dT kvs)) : kvs.length ≤ sizeLine ∧ (a == sysModules) = false ∧
    ∃ xs, KT H kvs xs ∧ h.DictOfH (tupleKind (mixKind P w)) a xs := by
  obtain ⟨z, y, xs, r, o, es, ep, h1, h2, h3, h4, h5⟩ := (show ObjOk P w H h a (.dT kvs) from rd_of ok e)
  refine ⟨z, y, xs, r, o, es, ep, h1, h2, h3, h4, fun x hx => ?_, h5⟩
  have all : ∀ {l : List (List Key × V)} {m : List (List Key × Addr × Value)}, KT H l m → ∀ x ∈ m, (tupleKind (mixKind P w)).is h x.1 x.2.1 := by
    intro l m q
    induction q with
    | nil => intro x hx; exact nomatch hx
    | @cons p q ps qs hq t ih =>
      intro x hx
      rcases List.mem_cons.mp hx with e | hx
      · subst e
        exact key_of ok (by rw [← hq.1]; exact hq.2.1)
      · exact ih x hx
  exact all r x hx
theorem dt_of {kvs : List (List Key × V)} (ok : HOk P w H h) (e : H a = some (.dT kvs)) : kvs.length ≤ sizeLine ∧ (a == sysModules) = false ∧
    ∃ xs, KT H kvs xs ∧ h.DictOfH (tupleKind (mixKind P w)) a xs := dt_rd ok (.inl e)
end

/-- what the dict at a holds at the key y -/
def DGet (H : Hp) (a : Addr) (y : V) (r : Option V) : Prop :=
  (∃ kvs k, Rd H a (.dK kvs) ∧ y = kV k ∧ r = valV kvs k) ∨ ∃ kvs k b, Rd H a (.dT kvs) ∧ y = .ref b ∧ H b = some (.tup (k.map kV)) ∧ r = valV kvs k
/-- the heap behind a[y] = v -/
def DPut (H : Hp) (a : Addr) (y v : V) (H' : Hp) : Prop :=
  (∃ kvs k, H a = some (.dK kvs) ∧ y = kV k ∧ kvs.length < sizeLine ∧ H' = upd H a (.dK (putK kvs k v))) ∨
  ∃ kvs k b, H a = some (.dT kvs) ∧ y = .ref b ∧ H b = some (.tup (k.map kV)) ∧ kvs.length < sizeLine ∧ H' = upd H a (.dT (putK kvs k v))
theorem DGet.k {H : Hp} {a : Addr} {kvs : List (Key × V)} {k : Key} (e : H a = some (.dK kvs)) : DGet H a (kV k) (valV kvs k) := .inl ⟨kvs, k, .inl e, rfl, rfl⟩
theorem DGet.t {H : Hp} {a b : Addr} {kvs : List (List Key × V)} {k : List Key} (e : H a = some (.dT kvs)) (eb : H b = some (.tup (k.map kV))) : DGet H a (.ref b) (valV kvs k) := .inr ⟨kvs, k, b, .inl e, rfl, eb, rfl⟩
theorem DPut.k {H : Hp} {a : Addr} {kvs : List (Key × V)} {k : Key} {v : V} (e : H a = some (.dK kvs)) (hl : kvs.length < sizeLine) : DPut H a (kV k) v (upd H a (.dK (putK kvs k v))) := .inl ⟨kvs, k, e, rfl, hl, rfl⟩
theorem DPut.t {H : Hp} {a b : Addr} {kvs : List (List Key × V)} {k : List Key} {v : V} (e : H a = some (.dT kvs)) (eb : H b = some (.tup (k.map kV))) (hl : kvs.length < sizeLine) :
    DPut H a (.ref b) v (upd H a (.dT (putK kvs k v))) := .inr ⟨kvs, k, b, e, rfl, eb, hl, rfl⟩


section
variable {X : Cx} {pins : List (Addr × Obj)} {σ : St} {H : Hp} {s : Shared} {a : Addr} {y v : V} {u r : Value} {o : Option V} {A : Around} {E : Value → Shared → Prop}

theorem Inv.big (I : Inv X pins σ H s) : sysModules < s.heap.objs.size := by
  have h : mainGlobals < s.heap.objs.size := (I.mod.glob.keeps I.bk).lt
  exact Nat.lt_trans (by decide) h

/-- d[y], there -/
theorem d_getItem {Q : Value → Shared → Prop} (hu : A.units + 1 < cLine) (I : Inv X pins σ H s) (g : DGet H a y (some v)) (ry : RelV y u) (h : ∀ w' s', Inv X pins σ H s' → RelV v w' → Q w' s') :
    wpAny (model X.prog X.w) A (getItem (.ref a) u) Q E s := by
  rcases g with ⟨kvs, k, e, ey, l⟩ | ⟨kvs, k, b, e, ey, eb, l⟩
  · subst ey
    obtain ⟨z, hd, vs, rel, dd⟩ := dk_rd I.hok e
    obtain ⟨w', hw, rw'⟩ := RelO.some_of (v := v) (o := valueAt vs k) (by rw [l]; exact rel.val k)
    exact wpAny_getItem_of (kV_is ry) dd.mapOf hw (h w' _ (I.tok _) rw')
  · subst ey
    cases (show u = Value.ref b from ry)
    obtain ⟨z, hd, xs, rel, dd⟩ := dt_rd I.hok e
    obtain ⟨w', hw, rw'⟩ := RelO.some_of (v := v) (o := (atKey xs k).map (·.2)) (by rw [l]; exact rel.val k)
    obtain ⟨p, hp, hp2⟩ := Option.map_eq_some_iff.mp hw
    refine wpAny_getItem_heap (tupleKind_room_in1 hu) (key_of I.hok eb) dd hp ?_
    rw [hp2]
    exact h w' _ (I.tok _) rw'
theorem d_notIn {Q : Value → Shared → Prop} (hu : A.units + 1 < cLine) (I : Inv X pins σ H s) (g : DGet H a y o) (ry : RelV y u) (h : ∀ s', Inv X pins σ H s' → Q (.bool (!o.isSome)) s') :
    wpAny (model X.prog X.w) A (compareOp .NotIn u (.ref a)) Q E s := by
  rcases g with ⟨kvs, k, e, ey, l⟩ | ⟨kvs, k, b, e, ey, eb, l⟩
  · subst ey
    obtain ⟨z, hd, vs, rel, dd⟩ := dk_rd I.hok e
    refine wpAny_notIn_of (kV_is ry) hd dd.mapOf ?_
    rw [← (rel.val k).isSome_eq, ← l]
    exact h _ (I.tok _)
  · subst ey
    cases (show u = Value.ref b from ry)
    obtain ⟨z, hd, xs, rel, dd⟩ := dt_rd I.hok e
    refine wpAny_notIn_heap (tupleKind_room_in1 hu) (key_of I.hok eb) hd dd ?_
    have q := (rel.val k).isSome_eq
    rw [Option.isSome_map] at q
    rw [← q, ← l]
    exact h _ (I.tok _)
/-- a dict's object is replaced -/
theorem d_write {h' : Heap} {t' : Nat} {ob : HO} (I : Inv X pins σ H s) (mu : Mut (H a)) (hs : Heap.SameBut a s.heap h') (he : ∃ q, h'.get? a = some q) (new : ObjOk X.prog X.w (upd H a ob) h' a ob) :
    Inv X pins σ (upd H a ob) { s with heap := h', toks := t' } :=
  I.write (x := a) (e := a) mu (.inl rfl) (fun b q hb z => (hs.2 b hb).trans z) he new
theorem dk_new {P : Program} {w : World} {H' : Hp} {h' : Heap} {kvs : List (Key × V)} {vs : List (Key × Value)} (z : kvs.length ≤ sizeLine) (hd : (a == sysModules) = false) (rel : KV kvs vs) (dd : h'.DictOf (mixKind P w) a vs) :
    ObjOk P w H' h' a (.dK kvs) := ⟨z, hd, vs, rel, dd⟩
/-- d[y] = v -/
theorem d_setItem {H' : Hp} {Q : Unit → Shared → Prop} (hu : A.units + 1 < cLine) (I : Inv X pins σ H s) (g : DPut H a y v H') (ry : RelV y u) (rv : RelV v r) (h : ∀ s', Inv X pins σ H' s' → Q () s') :
    wpAny (model X.prog X.w) A (setItem (.ref a) u r) Q E s := by
  rcases g with ⟨kvs, k, e, ey, l, eH⟩ | ⟨kvs, k, b, e, ey, eb, l, eH⟩
  · subst ey eH
    obtain ⟨z, hd, vs, rel, dd⟩ := dk_of I.hok e
    have hz : vs.length ≤ sizeLine := by rw [← rel.length]; exact z
    have hl : (putK kvs k v).length ≤ sizeLine := by have := length_putK kvs k v; omega
    refine wpAny_setItem_pairs (hsz := hz) (kV_is ry) dd fun h' dd' hs => h _ ?_
    have he : ∃ q, h'.get? a = some q := let ⟨q, _, _, hq, _⟩ := dd'; ⟨q, hq⟩
    exact d_write I (by rw [e]; exact True.intro) hs he (dk_new hl hd (rel.put k rv) dd')
  · subst ey eH
    cases (show u = Value.ref b from ry)
    obtain ⟨z, hd, xs, rel, dd⟩ := dt_of I.hok e
    have hz : xs.length ≤ sizeLine := by rw [← Paired.length rel]; exact z
    have hl : (putK kvs k v).length ≤ sizeLine := by have := length_putK kvs k v; omega
    refine wpAny_setItem_heap (hsz := hz) (tupleKind_room_in1 hu) (key_of I.hok eb) dd fun h' dd' hs => h _ ?_
    obtain ⟨q, es, ep, hq, h2, h3, h4, _, h5⟩ := dd'
    refine d_write I (by rw [e]; exact True.intro) hs ⟨q, hq⟩ ⟨hl, hd, _, (rel.put k eb rv).keeps fun c ys ec => ?_, q, es, ep, hq, h2, h3, h4, h5⟩
    rw [upd_ne (ne_of ec e (fun z => nomatch z))]
    exact ec
end

section
variable {X : Cx} {pins : List (Addr × Obj)} {σ : St} {H : Hp} {s : Shared} {a : Addr} {kvs : List (Key × V)} {k : Key} {u : Value} {A : Around} {E : Value → Shared → Prop}
end


/-! ### readings and rules -/
/-- the element of a subscription, not a slice -/
def NoSl (i : Expr) : Prop := ∀ ov iv, subscripted i false ov iv = operate [ov, iv] (getItem ov iv)
theorem subD_of {prog : Program} {w : World} {A : Around} {E : Value → Shared → Prop} {s : Shared} {env : Env} {value slice : Expr} {pos : Pos} {T id : String} {Q : Value → Shared → Prop}
    (hl : typeLookup (.type T) "__getitem__" = pure (some (.builtin id))) (hs : NoSl slice)
    (h : wpAny (model prog w) A (eval value env) (fun o s₁ => wpAny (model prog w) A (eval slice env) (fun i s₂ => s₂.TypeIs o T ∧ wpAny (model prog w) A (getItem o i) Q E s₂) E s₁) E s) :
    wpAny (model prog w) A (eval (.Subscript value slice pos) env) Q E s := by
  refine Subscript_ (wpAny_mono h (fun o s₁ h₁ => wpAny_mono h₁ (fun i s₂ h₂ => ?_) fun _ _ x => x) fun _ _ x => x)
  obtain ⟨hT, h₂⟩ := h₂
  unfold subscriptTail
  refine wpAny_bind ?_
  rw [getitemInPython_of_ne hT.not_modules]
  refine wpAny_bind (wpAny_specialOf hT hl ?_)
  have fin : wpAny (model prog w) A (subscripted slice false o i) (fun r s₃ => wpAny (model prog w) A (letTemporaryGo value o r >>= fun _ => pure r) Q E s₃) E s₂ := by
    rw [hs o i]
    exact wpAny_operating (wpAny_mono h₂ (fun r s₃ h₃ => wpAny_bind (wpAny_letTemporaryGo (wpAny_pure h₃))) fun _ _ x => x)
  first
    | exact wpAny_pure (wpAny_bind fin)
    | exact wpAny_bind (wpAny_pure (wpAny_bind fin))
    | exact wpAny_bind fin

theorem dict_typeIs {X : Cx} {pins : List (Addr × Obj)} {σ : St} {H : Hp} {s : Shared} {a : Addr} {y : V} {o : Option V} (I : Inv X pins σ H s) (g : DGet H a y o) : s.TypeIs (.ref a) "dict" := by
  rcases g with ⟨kvs, k, e, _, _⟩ | ⟨kvs, k, b, e, _, _, _⟩
  · obtain ⟨_, _, vs, _, dd⟩ := dk_rd I.hok e
    exact dd.typeIs
  · obtain ⟨_, _, xs, _, dd⟩ := dt_rd I.hok e
    exact dd.typeIs
/-- d[y] -/
def tDGet (td ty : TE) : TE := fun σ H Q => td σ H fun x H1 => ty σ H1 fun y H2 => ∃ a v, x = .ref a ∧ DGet H2 a y (some v) ∧ Q v H2
def tDNotIn (ty td : TE) : TE := fun σ H Q => ty σ H fun y H1 => td σ H1 fun x H2 => ∃ a o, x = .ref a ∧ DGet H2 a y o ∧ Q (.bl (!o.isSome)) H2
/-- d[y] = v -/
def sDPut (td ty tv : TE) : TS := fun D σ H => tv σ H fun v H1 => td σ H1 fun x H2 => ty σ H2 fun y H3 => ∃ a H4, x = .ref a ∧ DPut H3 a y v H4 ∧ D.nx σ H4
section
variable {X : Cx} {o i e value : Expr} {pos pos' tpos : Pos} {td ty tv : TE}
theorem pe_dget (hu : X.A.units + 1 < cLine) (ho : PE X o td) (hi : PE X i ty) (hs : NoSl i) : PE X (.Subscript o i pos) (tDGet td ty) := by
  intro pins s σ H Q I h
  refine subD_of PySem.F.slot_dict_getitem.lookup hs (thn (ho pins s σ H _ I h) fun u s1 ⟨x, H1, I1, rx, q1⟩ => thn (hi pins s1 σ H1 _ I1 q1) fun iv s2 ⟨y, H2, I2, ry, a, v, ex, g, q2⟩ => ?_)
  subst ex
  obtain rfl : u = Value.ref a := rx
  exact ⟨dict_typeIs I2 g, d_getItem hu I2 g ry fun w' s3 I3 rw' => ⟨v, H2, I3, rw', q2⟩⟩
theorem pc_dnotin (hu : X.A.units + 1 < cLine) (hi : PE X i ty) (ho : PE X o td) : PC X .NotIn i o (tDNotIn ty td) := by
  intro pins s σ H Q I h
  refine thn (hi pins s σ H _ I h) fun iv s1 ⟨y, H1, I1, ry, q1⟩ => thn (ho pins s1 σ H1 _ I1 q1) fun u s2 ⟨x, H2, I2, rx, a, ov, ex, g, q2⟩ => ?_
  subst ex
  obtain rfl : u = Value.ref a := rx
  exact d_notIn hu I2 g ry fun s3 I3 => ⟨.bl (!ov.isSome), H2, I3, rfl, q2⟩
theorem ps_dput (hu : X.A.units + 1 < cLine) (ho : PE X o td) (hi : PE X i ty) (hv : PE X value tv) (hs : swapsWith value (some (.Subscript o i pos')) pos.line X.env = pure false) :
    PS X (.Assign [.Subscript o i pos'] value pos) (sDPut td ty tv) := by
  intro pins s σ H D I h
  refine wpAny_Assign_Subscript (thn (hv pins s σ H _ I h) fun r s1 ⟨v, H1, I1, rv, q1⟩ => thn (ho pins s1 σ H1 _ I1 q1) fun u s2 ⟨x, H2, I2, rx, q2⟩ => thn (hi pins s2 σ H2 _ I2 q2) fun iv s3 ⟨y, H3, I3, ry, a, H4, ex, g, q3⟩ => ?_) hs
  subst ex
  obtain rfl : u = Value.ref a := rx
  exact d_setItem hu I3 g ry rv fun s4 I4 => ⟨σ, H4, I4, q3⟩
end


/-! ### displays -/
theorem dk_empty {P : Program} {w : World} {H : Hp} (h : Heap) (hb : sysModules < h.objs.size) : ObjOk P w H (h.push { cls := .type "dict", data := .dict #[] }) h.objs.size (.dK []) :=
  ⟨Nat.zero_le _, beq_eq_false_iff_ne.mpr (Ne.symm (Nat.ne_of_lt hb)), [], .nil, Heap.DictOf.new h⟩
section
variable {X : Cx} {pos : Pos}
end

/-- a is a dict, whatever its keys -/
def IsD (H : Hp) (a : Addr) : Prop := (∃ kvs, Rd H a (.dK kvs)) ∨ ∃ kvs, Rd H a (.dT kvs)
theorem isD_at {X : Cx} {pins : List (Addr × Obj)} {σ : St} {H : Hp} {s : Shared} {a : Addr} (I : Inv X pins σ H s) (d : IsD H a) :
    s.TypeIs (.ref a) "dict" ∧ (∀ b, Value.ref a = .ref b → ∃ ob, s.heap.get? b = some ob ∧ ob.dict = none) ∧ (a == sysModules) = false := by
  rcases d with ⟨kvs, e⟩ | ⟨kvs, e⟩
  · obtain ⟨_, hd, vs, _, dd⟩ := dk_rd I.hok e
    refine ⟨dd.typeIs, fun b q => ?_, hd⟩
    cases q
    obtain ⟨ob, _, _, h1, h2, _⟩ := dd
    exact ⟨ob, h1, h2.2.1⟩
  · obtain ⟨_, hd, xs, _, dd⟩ := dt_rd I.hok e
    refine ⟨dd.typeIs, fun b q => ?_, hd⟩
    cases q
    obtain ⟨ob, _, _, h1, h2, _⟩ := dd
    exact ⟨ob, h1, h2.2.1⟩

section
variable {X : Cx} {pins : List (Addr × Obj)} {σ : St} {H : Hp} {s : Shared} {a : Addr} {y d : V} {u r : Value} {o : Option V} {A : Around} {E : Value → Shared → Prop}
end

section
variable {X : Cx} {o e f : Expr} {apos cpos : Pos} {td ty tx : TE}
end

/-! ### dict(d): a copy -/
section
variable {X : Cx} {pins : List (Addr × Obj)} {σ : St} {H : Hp} {s : Shared} {a : Addr} {kvs : List (Key × V)} {A : Around} {E : Value → Shared → Prop}
end


section
variable {X : Cx} {pins : List (Addr × Obj)} {σ : St} {H : Hp} {s : Shared} {a : Addr} {y : V} {u : Value} {A : Around} {E : Value → Shared → Prop}
end
end L2

namespace L2
open PySem PySem.Spec PyProof.Rows
section
variable {X : Cx}
end
/-! ### a dict's pairs: keys that differ -/
section
variable {κ : Type} [DecidableEq κ]
end
end L2

set_option Elab.async false
set_option linter.all false
set_option maxRecDepth 100000
set_option maxHeartbeats 4000000
/-! ### dict comprehensions -/
namespace L2
open PySem PySem.Spec PyProof.Rows
/-- one turn after another; nothing is raised -/
theorem compd_loop {prog : Program} {w : World} {A : Around} {R : Result → Shared → Prop} {s : Shared} {kx vx target iter : Expr} {ifs : List Expr} {scope : Scope} {pos : Pos} {it : Value} {D : Addr} {env : Env} (J : Nat → Shared → Prop)
    (turn : ∀ n s, J n s → wpAny (model prog w) A (pyNext it) (fun r s1 => match r with
      | none => R (.ok .next) s1
      | some v => wpAny (model prog w) A (letOwnedTupleGo target it v) (fun _ s2 => wpAny (model prog w) A (assign target env v) (fun _ s3 =>
          wpAny (model prog w) A (forIn ifs true fun c r => if r = true then do let ok ← isTrue c env (eval c env); pure (ForInStep.yield ok) else pure (ForInStep.yield r)) (fun ok s4 =>
            if ok = true then wpAny (model prog w) A (eval kx env) (fun kv s5 => wpAny (model prog w) A (eval vx env) (fun vv s6 => wpAny (model prog w) A (dictSet D kv vv) (fun _ s7 => ∃ m, m < n ∧ J m s7) (fun _ _ => False) s6) (fun _ _ => False) s5) (fun _ _ => False) s4
            else ∃ m, m < n ∧ J m s4) (fun _ _ => False) s3) (fun _ _ => False) s2) (fun _ _ => False) s1) (fun _ _ => False) s)
    (n : Nat) (h : J n s) : codeAny (model prog w) A (.compLoop (.DictComp kx vx [⟨target, iter, ifs, 0⟩] scope pos) 0 it (.ref D) env) R s := by
  refine codeAny_loop rfl J (fun k s' hk => ?_) n h
  show wpAny _ A (Sem.onRaise (compTurn (.DictComp kx vx [⟨target, iter, ifs, 0⟩] scope pos) 0 it (.ref D) env) (fun x => do noteFrame x env; theTreesLotGoes x)) _ _ s'
  refine wpAny_noted ?_
  rw [compTurn_dict]
  refine wpAny_bind (wpAny_standAt (wpAny_bind (wpAny_mono (turn k s' hk) (fun r s1 q1 => ?_) fun _ _ f => f.elim)))
  cases r with
  | none => exact wpAny_pure q1
  | some v =>
    refine wpAny_bind (wpAny_mono q1 (fun _ s2 q2 => wpAny_bind (wpAny_mono q2 (fun _ s3 q3 => wpAny_bind (wpAny_mono q3 (fun ok s4 q4 => ?_) fun _ _ f => f.elim)) fun _ _ f => f.elim)) fun _ _ f => f.elim)
    cases ok with
    | false => exact wpAny_pure ⟨rfl, q4⟩
    | true => exact wpAny_bind (wpAny_bind (wpAny_mono q4 (fun kv s5 q5 => wpAny_bind (wpAny_holding (wpAny_mono q5 (fun vv s6 q6 => wpAny_bind (wpAny_standAt (wpAny_holding (wpAny_mono q6 (fun _ s7 q7 => wpAny_pure ⟨rfl, q7⟩) fun _ _ f => f.elim)))) fun _ _ f => f.elim))) fun _ _ f => f.elim))

theorem d_dictSet {X : Cx} {pins : List (Addr × Obj)} {σ : St} {H : Hp} {s : Shared} {A : Around} {E : Value → Shared → Prop} {a : Addr} {kvs : List (Key × V)} {k : Key} {v : V} {u r : Value} {Q : Unit → Shared → Prop} (I : Inv X pins σ H s) (e : H a = some (.dK kvs)) (l : kvs.length < sizeLine) (ry : RelV (kV k) u) (rv : RelV v r)
    (h : ∀ s', Inv X pins σ (upd H a (.dK (putK kvs k v))) s' → Q () s') : wpAny (model X.prog X.w) A (dictSet a u r) Q E s := by
  obtain ⟨z, hd, vs, rel, dd⟩ := dk_of I.hok e
  have hz : vs.length ≤ sizeLine := by rw [← rel.length]; exact z
  have hl : (putK kvs k v).length ≤ sizeLine := by have := length_putK kvs k v; omega
  refine wpAny_dictSet_pairs (hsz := hz) (kV_is ry) dd fun h' dd' hs => h _ ?_
  have he : ∃ q, h'.get? a = some q := let ⟨q, _, _, hq, _⟩ := dd'; ⟨q, hq⟩
  exact d_write I (by rw [e]; exact True.intro) hs he (dk_new hl hd (rel.put k rv) dd')
/-- what a comprehension is to keep, turn by turn: W the invariant by the turn and a measure, over the block's names and the heap; l the new dict -/
@[irreducible] def DWant (J : It) (g : TG) (tt : TT) (tk tv : TE) (Q : VK) (σ0 : St) (H0 : Hp) (l : Addr) : Prop := ∃ W : Nat → Nat → St → Hp → Prop, (∃ m, W 0 m σ0 H0) ∧
  ∀ i m σ' H', W i m σ' H' → (J.stop i H' ∧ Q (.ref l) H') ∨ (J.go i H' ∧ ∃ N : St → Hp → Prop, (∀ σ3 H3, N σ3 H3 → ∃ m', m' < m ∧ W (i + 1) m' σ3 H3) ∧ ∀ x H2, J.yld i H' x H2 → g x σ' H2 fun σ3 H3 => tt σ3 H3 fun b H4 =>
    if b = true then tk σ3 H4 fun y H5 => tv σ3 H5 fun z H6 => ∃ (kvs : List (Key × V)) (k : Key), H6 l = some (.dK kvs) ∧ y = kV k ∧ kvs.length < sizeLine ∧ N σ3 (upd H6 l (.dK (putK kvs k z))) else N σ3 H4)
/-- {k: v for tg in iter if ..} -/
def tDComp (wi : TI) (src : List (Option Nat)) (g : TG) (tt : TT) (tk tv : TE) : TE := fun σ H Q => wi σ H fun J H1 => ∀ l, H1 l = none → DWant J g tt tk tv Q (srcSt src σ) (upd H1 l (.dK [])) l

/-- the core: fin says what is wanted where the block's turns are over -/
theorem compd_core {X : Cx} {N' : List Str} {src : List (Option Nat)} {sc : Scope} {kx vx tg iter : Expr} {ifs : List Expr} {pos pos' : Pos} {wi : TI} {g : TG} {tt : TT} {tk tv : TE} {use : Option (Value → Sem Unit)} {R : Value → Shared → Prop} (hc : X.calm = true) (S : CScope X N' src sc)
    (hi : PI X tg iter wi) (hg : ∀ s3 H3 fp pn, PG (cxC X N' sc s3 H3 fp pn) tg g) (ht : ∀ s3 H3 fp pn, PF (cxC X N' sc s3 H3 fp pn) ifs tt) (hk : ∀ s3 H3 fp pn, PE (cxC X N' sc s3 H3 fp pn) kx tk) (hv : ∀ s3 H3 fp pn, PE (cxC X N' sc s3 H3 fp pn) vx tv)
    (hs : ∀ x, foldedSetIterable iter X.env x = pure x) {pins : List (Addr × Obj)} {s : Shared} {σ : St} {H : Hp} {Q : VK} (I : Inv X pins σ H s) (h : tDComp wi src g tt tk tv σ H Q)
    (fin : ∀ s3 H3 fp σ4 H4 s5 l, Inv X pins σ H3 s3 → (∀ b ∈ fp, FpOk X pins H3 b) → Inv (cxC X N' sc s3 H3 fp (X.pn ++ pins)) [] σ4 H4 s5 → Q (.ref l) H4 →
      compPost (model X.prog X.w) X.A X.xe use R (.ref l) s3.heap.objs.size (.ok .next) s5) :
    wpAny (model X.prog X.w) X.A (comprehension (.DictComp kx vx [⟨tg, iter, ifs, 0⟩] sc pos) sc X.env pos' newDict false (eval iter X.env) use) R X.xe s := by
  refine wpAny_comprehension_free (use := use) (cl := clOf X.env sc.names []) rfl hs (closure_is fun p hp e => I.ok.has p.1 (S.fv p hp e)) S.kind S.loc ?_
  refine thn (hi pins s σ H _ I h) fun v s1 h1 => thn h1 fun itv s2 h2 => ?_
  obtain ⟨it, fp, tn, J, H2, rfl, I2, T, st2, f2, q⟩ := h2
  have q' := q s2.heap.objs.size (I2.hok.fresh (Nat.le_refl _))
  unfold DWant at q'
  obtain ⟨W, ⟨m0, w0⟩, turn⟩ := q'
  refine wpAny_newObj_type (wpAny_newFunctionEnv S.nocell (by intro y hy; simp at hy) (fun ha hns hsb => ?_) S.kind)
  have I3 : Inv X pins σ (upd H2 s2.heap.objs.size (.dK [])) { s2 with heap := s2.heap.push { cls := .type "dict", data := .dict #[] } } :=
    I2.laid (t' := s2.toks) (fun b u e => Heap.get?_push_of_some _ e) (Nat.le_refl _) (dk_empty s2.heap I2.big)
  have hfl : ∀ b ∈ fp, b < s2.heap.objs.size := fun b hb => by
    obtain ⟨o, e, _⟩ := T.obj 0 _ st2 b hb
    exact Heap.lt_size e
  have f3 : ∀ b ∈ fp, FpOk X pins (upd H2 s2.heap.objs.size (.dK [])) b := fun b hb => ⟨by rw [upd_ne (Nat.ne_of_lt (hfl b hb))]; exact (f2 b hb).1, (f2 b hb).2⟩
  generalize hs3 : ({ s2 with heap := s2.heap.push { cls := .type "dict", data := .dict #[] } } : Shared) = s3 at *
  have hsz : s2.heap.objs.size < s3.heap.objs.size := by rw [← hs3]; show s2.heap.objs.size < (s2.heap.push _).objs.size; rw [Heap.size_push]; exact Nat.lt_succ_self _
  have kp : ∀ b o, s3.heap.get? b = some o → ha.get? b = some o := fun b o e => hsb.extBut b o (Nat.ne_of_lt (Heap.lt_size e)) (Heap.get?_push_of_some _ e)
  have st3 : tn 0 ha := T.keep 0 _ _ st2 fun b hb o e => kp b o (by rw [← hs3]; exact Heap.get?_push_of_some _ e)
  have I4 : Inv (cxC X N' sc s3 (upd H2 s2.heap.objs.size (.dK [])) fp (X.pn ++ pins)) [] (srcSt src σ) (upd H2 s2.heap.objs.size (.dK [])) { s3 with heap := ha, toks := s3.toks + ([] : List (Str × Value)).length } :=
    cx_start S I3 f3 (fun b hb => Nat.lt_trans (hfl b hb) hsz) hns kp
  have loop : codeAny (model X.prog X.w) X.A (.compLoop (.DictComp kx vx [⟨tg, iter, ifs, 0⟩] sc pos) 0 (.ref it) (.ref s2.heap.objs.size) (compEnvC sc (clOf X.env sc.names []) s3.heap.objs.size X.env))
      (compPost (model X.prog X.w) X.A X.xe use R (.ref s2.heap.objs.size) s3.heap.objs.size) { s3 with heap := ha, toks := s3.toks + ([] : List (Str × Value)).length } := by
    refine compd_loop (fun n s' => ∃ i σ' H', Inv (cxC X N' sc s3 (upd H2 s2.heap.objs.size (.dK [])) fp (X.pn ++ pins)) [] σ' H' s' ∧ tn i s'.heap ∧ (∀ b ∈ fp, H' b = none) ∧ W i n σ' H') ?_ m0 ⟨0, _, _, I4, st3, fun b hb => (f3 b hb).1, w0⟩
    rintro n s4 ⟨i, σ4, H4, J4, st4, fr4, w4⟩
    have stat : ∀ {H' : Hp}, (∀ b ∈ fp, H' b = none) → ∀ b ∈ fp, FpOk (cxC X N' sc s3 (upd H2 s2.heap.objs.size (.dK [])) fp (X.pn ++ pins)) [] H' b := fun hn b hb =>
      ⟨hn b hb, (I4.ok.exf b hb).1, I4.ok.exfs b hb, .inl hb, fun x c e => (I4.ok.exf b hb).2 x c e, fun p hp => (f3 b hb).2.2.2.2.2 p ((List.mem_append.mp hp).elim id fun z => by cases z)⟩
    rcases turn i n σ4 H4 w4 with ⟨stop, qn⟩ | ⟨go, N, hN, step⟩
    · refine thn (T.done (cxC X N' sc s3 (upd H2 s2.heap.objs.size (.dK [])) fp (X.pn ++ pins)) rfl rfl rfl hc i [] s4 σ4 H4 _ J4 (stat fr4) st4 stop) fun r s5 ⟨hr, J5⟩ => ?_
      subst hr
      exact fin s3 _ fp σ4 H4 s5 _ I3 f3 J5 qn
    · refine thn (T.item (cxC X N' sc s3 (upd H2 s2.heap.objs.size (.dK [])) fp (X.pn ++ pins)) rfl rfl rfl hc i [] s4 σ4 H4 _ J4 (stat fr4) st4 go) fun r s5 ⟨u, hr, h5⟩ => ?_
      subst hr
      refine thn h5 fun _ s6 ⟨x, H6, J6, r6, y6, st6, fr6⟩ => ?_
      have J6' := J6.pinned (stat fr6) (T.obj _ _ st6)
      have back : ∀ {pl : List (Addr × Obj)} {σ7 : St} {H7 : Hp} {s7 : Shared}, Inv (cxC X N' sc s3 (upd H2 s2.heap.objs.size (.dK [])) fp (X.pn ++ pins)) ([] ++ pinsAt fp s6.heap) σ7 H7 s7 → N σ7 H7 →
          ∃ m', m' < n ∧ ∃ i σ' H', Inv (cxC X N' sc s3 (upd H2 s2.heap.objs.size (.dK [])) fp (X.pn ++ pins)) [] σ' H' s7 ∧ tn i s7.heap ∧ (∀ b ∈ fp, H' b = none) ∧ W i m' σ' H' := fun {pl σ7 H7 s7} J7 w7 => by
        obtain ⟨m', hm, w7⟩ := hN _ _ w7
        have pinned : ∀ b ∈ fp, ∀ o, s6.heap.get? b = some o → s7.heap.get? b = some o ∧ H7 b = none := fun b hb o e => by
          have := J7.pin (b, o) (List.mem_append_right _ (List.mem_append_right _ (mem_pinsAt hb e)))
          exact ⟨this.1, this.2.1⟩
        refine ⟨m', hm, i + 1, σ7, H7, J7.unpinned, T.keep _ _ _ st6 fun b hb o e => (pinned b hb o e).1, fun b hb => ?_, w7⟩
        obtain ⟨o, e, _⟩ := T.obj _ _ st6 b hb
        exact (pinned b hb o e).2
      refine thn (hg s3 _ fp _ _ s6 σ4 H6 x u _ J6' r6 (step x H6 y6)) fun _ s7 ⟨σ7, H7, J7, q7⟩ => ?_
      refine thn (ht s3 _ fp _ _ s7 σ7 H7 _ J7 q7) fun ok s8 ⟨H8, J8, q8⟩ => ?_
      cases ok with
      | false =>
        rw [if_neg Bool.false_ne_true] at q8 ⊢
        exact back (pl := []) J8 q8
      | true =>
        rw [if_pos rfl] at q8 ⊢
        refine thn (hk s3 _ fp _ _ s8 σ7 H8 _ J8 q8) fun y s9 ⟨yv, H9, J9, r9, q9⟩ => ?_
        refine thn (hv s3 _ fp _ _ s9 σ7 H9 _ J9 q9) fun z s10 ⟨zv, H10, J10, r10, kvs, k, hl, ey, hz, q10⟩ => ?_
        subst ey
        refine d_dictSet (X := cxC X N' sc s3 (upd H2 s2.heap.objs.size (.dK [])) fp (X.pn ++ pins)) J10 hl hz r9 r10 fun s11 J11 => ?_
        exact back (pl := []) J11 q10
  exact codeAny_compStart_dict loop (T.self X.A 0 _ _ _ st3 loop)
theorem pe_dcomp {X : Cx} {N' : List Str} {src : List (Option Nat)} {sc : Scope} {kx vx tg iter : Expr} {ifs : List Expr} {pos : Pos} {wi : TI} {g : TG} {tt : TT} {tk tv : TE} (hc : X.calm = true) (S : CScope X N' src sc)
    (hi : PI X tg iter wi) (hg : ∀ s3 H3 fp pn, PG (cxC X N' sc s3 H3 fp pn) tg g) (ht : ∀ s3 H3 fp pn, PF (cxC X N' sc s3 H3 fp pn) ifs tt) (hk : ∀ s3 H3 fp pn, PE (cxC X N' sc s3 H3 fp pn) kx tk) (hv : ∀ s3 H3 fp pn, PE (cxC X N' sc s3 H3 fp pn) vx tv)
    (hs : ∀ x, foldedSetIterable iter X.env x = pure x := by intro _; rfl) : PE X (.DictComp kx vx [⟨tg, iter, ifs, 0⟩] sc pos) (tDComp wi src g tt tk tv) := by
  intro pins s σ H Q I h
  rw [arm_eval_DictComp]
  refine compd_core (use := none) hc S hi hg ht hk hv hs I h fun s3 H3 fp σ4 H4 s5 l I3 f3 J5 q => ?_
  obtain ⟨m, hn, _⟩ := J5.loc
  exact ⟨m, hn, fun h' sb => ⟨.ref l, H4, cx_end I3 f3 J5 sb, rfl, q⟩⟩
end L2

set_option Elab.async false
set_option linter.all false
set_option maxRecDepth 100000
set_option maxHeartbeats 4000000
/-! ### enumerate, over tuples and lists, from 0 or 1 -/
namespace PySem
open Sem (wp)
section
variable {prog : Program} {w : World} {A : Around} {E : Value → Shared → Prop} {s : Shared}
theorem nextOf_tup_item {it l : Addr} {i : Nat} {items : Array Value} {x : Value} {Q : Value → Shared → Prop} (hit : s.heap.IsTupleIter it l i) (hl : s.heap.IsTuple l items) (hx : items[i]? = some x)
    (hQ : ∀ h', h'.IsTupleIter it l (i + 1) → Heap.SameBut it s.heap h' → Q x { s with heap := h' }) : wpAny (model prog w) A (Builtin.SmallTypes.nextOf (.ref it)) Q E s := by
  obtain ⟨o, ho, hc, hd⟩ := id hit
  obtain ⟨ol, hol, _, nl, hdl⟩ := hl
  unfold Builtin.SmallTypes.nextOf
  refine wpAny_bind (wpAny_callSpecial?_slot (name := Str.ofString "__next__") hit.typeIs PyProof.Rows.slot_tupleiter_next (wpAny_call_entry PyProof.Rows.slot_tupleiter_next hit.typeIs PyProof.Rows.entry_tupleiter_next ?_ (PyProof.Rows.args_tupleiter_next _)))
  show wpAny _ _ (field (.ref it) 0 >>= _) _ _ s
  refine wpAny_bind (wpAny_field ho hd (x := .ref l) rfl ?_)
  show wpAny _ _ (if (Value.ref l == Value.none) = true then _ else _) _ _ s
  rw [if_neg (show ¬ ((Value.ref l == Value.none) = true) from Bool.false_ne_true)]
  show wpAny _ _ (field (.ref it) 1 >>= _) _ _ s
  refine wpAny_bind (wpAny_field ho hd (x := .int i 0) rfl ?_)
  show wpAny _ _ (seqItems? (.ref l) >>= _) _ _ s
  refine wpAny_bind (wpAny_seqItems hol hdl ?_)
  simp only [Int.toNat_natCast, hx]
  refine wpAny_bind (wpAny_setField ho hd (by simp) (wpAny_pure ⟨x, rfl, wpAny_pure (hQ _ ?_ (Heap.SameBut.update ..))⟩))
  exact ⟨_, Heap.get?_update_self _ ho (Obj.isFreed_of_fields (Obj.data_mapFields hd _)), (Obj.cls_mapFields ..).trans hc, by rw [Obj.data_mapFields hd]; simp [rawInt]⟩
theorem nextOf_tup_end {it l : Addr} {i : Nat} {items : Array Value} {Q : Value → Shared → Prop} (hh : A.handled = none) (hit : s.heap.IsTupleIter it l i) (hl : s.heap.IsTuple l items) (hx : items[i]? = none)
    (hE : ∀ h' e, Heap.ExtBut it s.heap h' → (∃ o, h'.get? e = some o ∧ o.cls = .type "StopIteration") → E (.ref e) { s with heap := h' }) : wpAny (model prog w) A (Builtin.SmallTypes.nextOf (.ref it)) Q E s := by
  obtain ⟨o, ho, hc, hd⟩ := id hit
  obtain ⟨ol, hol, _, nl, hdl⟩ := hl
  unfold Builtin.SmallTypes.nextOf
  refine wpAny_bind (wpAny_callSpecial?_slot (name := Str.ofString "__next__") hit.typeIs PyProof.Rows.slot_tupleiter_next (wpAny_call_entry PyProof.Rows.slot_tupleiter_next hit.typeIs PyProof.Rows.entry_tupleiter_next ?_ (PyProof.Rows.args_tupleiter_next _)))
  show wpAny _ _ (field (.ref it) 0 >>= _) _ _ s
  refine wpAny_bind (wpAny_field ho hd (x := .ref l) rfl ?_)
  show wpAny _ _ (if (Value.ref l == Value.none) = true then _ else _) _ _ s
  rw [if_neg (show ¬ ((Value.ref l == Value.none) = true) from Bool.false_ne_true)]
  show wpAny _ _ (field (.ref it) 1 >>= _) _ _ s
  refine wpAny_bind (wpAny_field ho hd (x := .int i 0) rfl ?_)
  show wpAny _ _ (seqItems? (.ref l) >>= _) _ _ s
  refine wpAny_bind (wpAny_seqItems hol hdl ?_)
  simp only [Int.toNat_natCast, hx]
  refine wpAny_bind (wpAny_rule (wpAny_bind (wpAny_setField ho hd (by simp) ?_)))
  show wpAny _ _ (newExc (.type "StopIteration") [] >>= _) _ _ _
  refine wpAny_bind ?_
  simp only [newExc, newTuple]
  refine wpAny_bind (wpAny_newObj_type ?_ (by size_fits))
  refine wpAny_bind (m := firstArgMember _ _) (wpAny_of_eq (a := Value.none) (by first | rfl | (simp only [firstArgMember]; rfl)) ?_)
  refine wpAny_newObj_type ?_ (by size_fits)
  simp only [raiseNew]
  refine wpAny_bind (wpAny_handled ?_)
  first | rw [show A.in1.handled = none from hh] | rw [hh]
  refine wpAny_bind (wpAny_pure (wpAny_throw ?_))
  exact hE _ _ (((Heap.SameBut.update ..).extBut.push _).push _) ⟨_, Heap.get?_push_size _ rfl, rfl⟩
end
theorem Draws.tup {prog : Program} {w : World} {A : Around} (hh : A.handled = none) (it l : Addr) (hne : l ≠ it) (items : Array Value) :
    Draws prog w A it [it, l] items.size (fun i v => items[i]? = some v) (fun i h => h.IsTupleIter it l i ∧ h.IsTuple l items) where
  live := fun _ _ st => let ⟨o, ho, _⟩ := st.1; ⟨o, ho⟩
  frame := fun _ _ _ st hk => ⟨st.1.at fun o e => hk it (by simp) o e, let ⟨o, e, r⟩ := st.2; ⟨o, hk l (by simp) o e, r⟩⟩
  item := fun i s Q E hi st hQ => nextOf_tup_item st.1 st.2 (x := items[i]) (by simp [hi]) fun h' hit' hs' => hQ _ h' s.toks (by simp [hi]) ⟨hit', let ⟨o, e, r⟩ := st.2; ⟨o, hs'.extBut _ _ hne e, r⟩⟩ hs'
  done := fun s Q E st hE => nextOf_tup_end hh st.1 st.2 (by simp) hE
/-- the same, counted from k on -/
theorem Draws.from {prog : Program} {w : World} {A : Around} {it : Addr} {fp : List Addr} {n : Nat} {P : Nat → Value → Prop} {St : Nat → Heap → Prop} (D : Draws prog w A it fp n P St) (k : Nat) :
    Draws prog w A it fp (k + n) (fun j v => ∃ i, j = k + i ∧ P i v) (fun j h => ∃ i, j = k + i ∧ i ≤ n ∧ St i h) where
  live := fun _ _ ⟨i, _, _, st⟩ => D.live i _ st
  frame := fun _ _ _ ⟨i, e, hi, st⟩ hk => ⟨i, e, hi, D.frame i _ _ st hk⟩
  item := fun j s Q E hj ⟨i, e, hi, st⟩ hQ => D.item i s Q E (by omega) st fun x h' tk p st' sb => hQ x h' tk ⟨i, e, p⟩ ⟨i + 1, by omega, by omega, st'⟩ sb
  done := fun s Q E ⟨i, e, hi, st⟩ hE => by
    have : i = n := by omega
    subst this
    exact D.done s Q E st hE
end PySem
namespace L2
open PySem PySem.Spec PyProof.Rows
section
variable {X : Cx} {pins : List (Addr × Obj)} {σ : St} {H : Hp} {s : Shared} {h' : Heap}
/-- untracked records of ours at fp have turned, and a new object is laid at t -/
theorem Inv.turnedNew {t' : Nat} {fp : List Addr} {t : Addr} {o : HO} (I : Inv X pins σ H s) (ht : s.heap.objs.size ≤ t) (k : ∀ b u, b ∉ fp → s.heap.get? b = some u → h'.get? b = some u) (hf : ∀ b ∈ fp, FpOk X pins H b) (new : ObjOk X.prog X.w (upd H t o) h' t o) :
    Inv X pins σ (upd H t o) { s with heap := h', toks := t' } := by
  have nt := I.hok.fresh ht
  have old : ∀ b u, s.heap.get? b = some u → b ≠ t := fun b u e z => absurd (Nat.lt_of_lt_of_le (Heap.lt_size e) ht) (by rw [z]; exact Nat.lt_irrefl _)
  have nf : ∀ b u, H b = some u → b ∉ fp := fun b u e z => by rw [(hf b z).1] at e; cases e
  have tr : ∀ b u, H b = some u → (upd H t o) b = some u := fun b u e => by rw [upd_ne (ne_of_none e nt)]; exact e
  refine I.step (g' := s.gens) (d' := s.drawn) (ch := fp) (fun b hb => ?_) (fun b u _ _ hc e _ => k b u hc e) (fun b u _ _ hc e _ => ⟨u.slots, k b u hc e⟩) (fun b u hc e n => by rw [upd_ne (old b u e)]; exact n)
    (fun b u hc e => ⟨u, k b u hc e⟩) (fun _ _ e => tr _ _ e) (fun _ _ _ e => tr _ _ e) (fun b ps e => ⟨#[], by rw [tr _ _ e]; simp⟩) (fun m hm => ?_) (fun b u e => ?_) I.bare
  · obtain ⟨_, f1, _, f3, f4, f5⟩ := hf b hb
    exact ⟨f3, f1, f4, f5⟩
  · obtain ⟨u, es, ep, hu, r⟩ := hm
    exact ⟨u, es, ep, k _ u (fun z => (hf _ z).2.1 rfl) hu, r⟩
  · by_cases hb : b = t
    · subst hb
      rw [upd_same] at e
      cases e
      exact new
    · rw [upd_ne hb] at e
      refine (I.hok b u e).stay (fun c v hc q => k c v ?_ q) (fun c q => tr _ _ q) fun c xs q => tr _ _ q
      rcases hc with z | z
      · rw [z]; exact nf b u e
      · exact nf c _ z
theorem Inv.turnedL {t' : Nat} {fp : List Addr} (I : Inv X pins σ H s) (k : ∀ b u, b ∉ fp → s.heap.get? b = some u → h'.get? b = some u) (hf : ∀ b ∈ fp, FpOk X pins H b) : Inv X pins σ H { s with heap := h', toks := t' } := by
  have nf : ∀ b u, H b = some u → b ∉ fp := fun b u e z => by rw [(hf b z).1] at e; cases e
  refine I.step (g' := s.gens) (d' := s.drawn) (ch := fp) (fun b hb => ?_) (fun b u _ _ hc e _ => k b u hc e) (fun b u _ _ hc e _ => ⟨u.slots, k b u hc e⟩) (fun b u hc e n => n)
    (fun b u hc e => ⟨u, k b u hc e⟩) (fun _ _ e => e) (fun _ _ _ e => e) (fun b ps e => ⟨#[], by rw [e]; simp⟩) (fun m hm => ?_) (fun b u e => ?_) I.bare
  · obtain ⟨_, f1, _, f3, f4, f5⟩ := hf b hb
    exact ⟨f3, f1, f4, f5⟩
  · obtain ⟨u, es, ep, hu, r⟩ := hm
    exact ⟨u, es, ep, k _ u (fun z => (hf _ z).2.1 rfl) hu, r⟩
  · refine (I.hok b u e).stay (fun c v hc q => k c v ?_ q) (fun _ q => q) fun _ _ q => q
    rcases hc with z | z
    · rw [z]; exact nf b u e
    · exact nf c _ z
end
end L2

set_option Elab.async false
set_option linter.all false
set_option maxRecDepth 100000
set_option maxHeartbeats 1000000

/-! ### any, sum, max of a tuple; numbers of many figures -/
namespace L2
open PySem PySem.Spec PyProof.Rows
section
variable {X : Cx}

theorem range_any (bs : List Bool) : ((List.range bs.length).any fun i => (bs[i]?).getD false) = bs.any id := by
  induction bs with
  | nil => rfl
  | cons b r ih =>
    rw [List.length_cons, List.range_succ_eq_map, List.any_cons, List.any_map, List.any_cons]
    show ((some b).getD false || _) = _
    rw [show ((fun i => ((b :: r)[i]?).getD false) ∘ Nat.succ) = fun i => (r[i]?).getD false from by funext i; simp [Function.comp]]
    rw [ih]
    rfl
theorem call_any (hc : X.calm = true) : CallR X (.builtin "any") (fun xs H Q => ∃ (p : Addr) (bs : List Bool), xs = [.ref p] ∧ SqL X.K H p (bs.map V.bl) ∧ Q (.bl (bs.any id)) H) := by
  intro pins s σ H xs us Q I r h
  obtain ⟨p, bs, rfl, hq, q⟩ := h
  obtain ⟨u, rfl, rx⟩ := vals1 r
  cases rx
  obtain ⟨its, rv, pl, hz⟩ := I.list hq
  have hb := bools_of rv
  have hl := pl.isList
  have hlt : p < s.heap.objs.size := by obtain ⟨_, e, _⟩ := hl; exact Heap.lt_size e
  refine call_any_walk (wpAny_pyIter_list hl ?_)
  refine ⟨s.heap.objs.size, [s.heap.objs.size, p], [s.heap.objs.size], its.toArray.size, _, _, fun i => (bs[i]?).getD false, rfl, Walks.list (A := X.A.in1) (I.ok.hd hc) _ p (Nat.ne_of_lt hlt) its.toArray,
    ⟨⟨_, Heap.get?_push_size _ rfl, rfl, rfl⟩, hl.push _⟩, fun i v s' Q' E' hP hQ => ?_, fun h' tk hk => ?_⟩
  · obtain ⟨b, e, rfl⟩ := hb.get i v (by simpa using hP)
    simp only [e, Option.getD_some] at hQ
    exact wpAny_truthy_bool hQ
  · have e : ((List.range its.toArray.size).any fun i => (bs[i]?).getD false) = bs.any id := by
      rw [List.size_toArray, hb.length]; exact range_any bs
    rw [e]
    exact ⟨.bl (bs.any id), H, I.kept (LSm.kept_iter hk), rfl, q⟩

/-! numbers of up to 8,000 binary figures -/
def CBig (i j : Int) : Prop := i.natAbs < 2 ^ 8000 ∧ j.natAbs < 2 ^ 8000
theorem bits_big {k : Int} (h : k.natAbs < 2 ^ 8000) : Builtin.Int.intBits k ≤ 8000 := by
  unfold Builtin.Int.intBits
  split
  · exact Nat.zero_le _
  · rcases Nat.eq_zero_or_pos k.natAbs with h0 | hp
    · rw [h0]; decide
    · have := (Nat.log2_lt (Nat.ne_of_gt hp)).mpr h
      omega
theorem CBig.ok {i j : Int} (h : CBig i j) : IntMulOk i j := by
  have h1 := bits_big h.1
  have h2 := bits_big h.2
  unfold IntMulOk
  have e : Builtin.Int.intTooBig (Builtin.Int.intBits i + Builtin.Int.intBits j) = false := by
    unfold Builtin.Int.intTooBig
    rw [bitsLine_eq]
    exact decide_eq_false (by omega)
  rw [e, Bool.and_false]
  exact Bool.false_ne_true
end
end L2

set_option Elab.async false
set_option linter.all false
set_option maxRecDepth 100000
set_option maxHeartbeats 1000000
set_option pp.maxSteps 400
/-! ### zip, of any number of lists and tuples -/
namespace PySem.ZZ
open PySem
section
variable {prog : Program} {w : World} {A : Around} {E : Value → Shared → Prop} {s : Shared}
/-- an iterator that stands at the i-th of a list or a tuple -/
structure Src where
  it : Addr
  a : Addr
  items : Array Value
def SrcAt (h : Heap) (x : Src) (i : Nat) : Prop := (h.IsListIter x.it x.a i ∧ h.IsList x.a x.items) ∨ (h.IsTupleIter x.it x.a i ∧ h.IsTuple x.a x.items)
theorem SrcAt.keep {h h' : Heap} {x : Src} {i : Nat} (q : SrcAt h x i) (k1 : ∀ o, h.get? x.it = some o → h'.get? x.it = some o) (k2 : ∀ o, h.get? x.a = some o → h'.get? x.a = some o) : SrcAt h' x i := by
  rcases q with ⟨q1, q2⟩ | ⟨q1, o, e, r⟩
  · exact .inl ⟨q1.at k1, q2.at k2⟩
  · exact .inr ⟨q1.at k1, o, k2 o e, r⟩
theorem SrcAt.ne {h : Heap} {x : Src} {i : Nat} (q : SrcAt h x i) : x.a ≠ x.it := fun z => by
  rcases q with ⟨⟨o, e, c, _⟩, ⟨o', e', c', _⟩⟩ | ⟨⟨o, e, c, _⟩, ⟨o', e', c', _⟩⟩
  · rw [z, e] at e'; cases e'; rw [c] at c'; injection c' with y; exact absurd y (by decide)
  · rw [z, e] at e'; cases e'; rw [c] at c'; injection c' with y; exact absurd y (by decide)
theorem SrcAt.ex {h : Heap} {x : Src} {i : Nat} (q : SrcAt h x i) : (∃ o, h.get? x.it = some o) ∧ ∃ o, h.get? x.a = some o := by
  rcases q with ⟨⟨o, e, _⟩, ⟨o', e', _⟩⟩ | ⟨⟨o, e, _⟩, ⟨o', e', _⟩⟩
  · exact ⟨⟨o, e⟩, o', e'⟩
  · exact ⟨⟨o, e⟩, o', e'⟩
abbrev IsZ (h : Heap) (z TI TO : Addr) (f0 f1 : Value) : Prop := h.get? z = some { cls := .type "zip", dict := none, data := .fields #[f0, f1, .bool false, .ref TI, .ref TO], slots := #[] }
abbrev IsTu (h : Heap) (T : Addr) (xs : List Value) : Prop := h.get? T = some { cls := .type "tuple", data := .seq xs.toArray }
structure Apart (z TI TO : Addr) (ls : List Src) : Prop where
  TIz : TI ≠ z
  TOz : TO ≠ z
  TITO : TI ≠ TO
  it : ∀ x ∈ ls, x.it ≠ z ∧ x.it ≠ TI ∧ x.it ≠ TO
  a : ∀ x ∈ ls, x.a ≠ z ∧ x.a ≠ TO
  ai : ∀ x ∈ ls, ∀ y ∈ ls, x.a ≠ y.it
  nd : (ls.map (·.it)).Nodup
/-- what zip's turn leaves as it is -/
def Rest (z TO : Addr) (ls : List Src) (h h' : Heap) : Prop := ∀ c o, c ≠ z → c ≠ TO → c ∉ ls.map (·.it) → h.get? c = some o → h'.get? c = some o
/-- between two draws of one turn: k are drawn -/
structure Mid (z TI TO : Addr) (ls : List Src) (xs olds : List Value) (i : Nat) (f0 f1 : Value) (h : Heap) (k : Nat) (h' : Heap) : Prop where
  hz : IsZ h' z TI TO f0 f1
  hTI : IsTu h' TI (ls.map fun x => .ref x.it)
  done : ∀ j x, ls[j]? = some x → SrcAt h' x (if j < k then i + 1 else i)
  rest : Rest z TO ls h h'
  size : h'.objs.size = h.objs.size
theorem Mid.draw {z TI TO : Addr} {ls : List Src} {xs olds : List Value} {i : Nat} {f0 f1 : Value} {h h1 h2 : Heap} {k : Nat} {x : Src} (D : Apart z TI TO ls) (m : Mid z TI TO ls xs olds i f0 f1 h k h1) (hx : ls[k]? = some x) (q : SrcAt h2 x (i + 1)) (sb : Heap.SameBut x.it h1 h2) :
    Mid z TI TO ls xs olds i f0 f1 h (k + 1) h2 := by
  have hm := List.mem_of_getElem? hx
  have hi := D.it x hm
  refine ⟨sb.extBut _ _ hi.1.symm m.hz, sb.extBut _ _ hi.2.1.symm m.hTI, fun j y hy => ?_, fun c o c1 c2 c3 e => sb.extBut _ _ (fun z => c3 (z ▸ List.mem_map.mpr ⟨x, hm, rfl⟩)) (m.rest c o c1 c2 c3 e), by rw [sb.1, m.size]⟩
  by_cases hj : j = k
  · subst hj
    rw [hx] at hy
    cases hy
    rw [if_pos (Nat.lt_succ_self _)]
    exact q
  · have h1 := m.done j y hy
    have hne : y.it ≠ x.it := fun z => hj (by
      have e1 : (ls.map (·.it))[j]? = some y.it := by rw [List.getElem?_map, hy]; rfl
      have e2 : (ls.map (·.it))[k]? = some x.it := by rw [List.getElem?_map, hx]; rfl
      rw [z] at e1
      have l1 := (List.getElem?_eq_some_iff.mp e1)
      have l2 := (List.getElem?_eq_some_iff.mp e2)
      exact (List.getElem_inj D.nd).mp (l1.2.trans l2.2.symm))
    have hc : (if j < k + 1 then i + 1 else i) = (if j < k then i + 1 else i) := by
      by_cases c : j < k
      · rw [if_pos c, if_pos (by omega)]
      · rw [if_neg c, if_neg (by omega)]
    rw [hc]
    exact h1.keep (fun o e => sb.extBut _ _ hne e) (fun o e => sb.extBut _ _ (D.ai y (List.mem_of_getElem? hy) x hm) e)
end
end PySem.ZZ

set_option Elab.async false
set_option linter.all false
set_option maxRecDepth 100000
set_option maxHeartbeats 1000000
set_option pp.maxSteps 400
/-! ### zip(a, b), zip(a, b, c) are made -/
namespace PySem
namespace F
end F
end PySem
namespace PySem.ZZ
open PySem
def SeqK (h : Heap) (a : Addr) (xs : Array Value) (c : String) : Prop := (c = "list_iterator" ∧ h.IsList a xs) ∨ (c = "tuple_iterator" ∧ h.IsTuple a xs)
theorem SeqK.src {h h' : Heap} {a it : Addr} {xs : Array Value} {c : String} (q : SeqK h a xs c) (k : ∀ o, h.get? a = some o → h'.get? a = some o) (e : h'.get? it = some { cls := .type c, data := .fields #[.ref a, .int 0 0] }) : SrcAt h' ⟨it, a, xs⟩ 0 := by
  rcases q with ⟨rfl, q⟩ | ⟨rfl, o, ho, r⟩
  · exact .inl ⟨⟨_, e, rfl, rfl⟩, q.at k⟩
  · exact .inr ⟨⟨_, e, rfl, rfl⟩, o, k o ho, r⟩
theorem SeqK.lt {h : Heap} {a : Addr} {xs : Array Value} {c : String} (q : SeqK h a xs c) : a < h.objs.size := by
  rcases q with ⟨rfl, o, e, _⟩ | ⟨rfl, o, e, _⟩
  · exact Heap.lt_size e
  · exact Heap.lt_size e
abbrev itO (c : String) (l : Addr) : Obj := { cls := .type c, data := .fields #[.ref l, .int 0 0] }
abbrev tuO (xs : Array Value) : Obj := { cls := .type "tuple", data := .seq xs }
abbrev z2a (h : Heap) (c1 c2 : String) (l1 l2 : Addr) : Heap := ((((h.push (itO c1 l1)).push (itO c2 l2)).push (tuO #[.ref h.objs.size, .ref (h.push (itO c1 l1)).objs.size])).push (tuO #[.none, .none]))
abbrev z2 (h : Heap) (c1 c2 : String) (l1 l2 : Addr) : Heap := (z2a h c1 c2 l1 l2).push
  { cls := .type "zip", data := .fields #[.none, .bool false, .bool false, .ref ((h.push (itO c1 l1)).push (itO c2 l2)).objs.size, .ref (((h.push (itO c1 l1)).push (itO c2 l2)).push (tuO #[.ref h.objs.size, .ref (h.push (itO c1 l1)).objs.size])).objs.size] }
abbrev z3a (h : Heap) (c1 c2 c3 : String) (l1 l2 l3 : Addr) : Heap := (((((h.push (itO c1 l1)).push (itO c2 l2)).push (itO c3 l3)).push (tuO #[.ref h.objs.size, .ref (h.push (itO c1 l1)).objs.size, .ref ((h.push (itO c1 l1)).push (itO c2 l2)).objs.size])).push (tuO #[.none, .none, .none]))
abbrev z3 (h : Heap) (c1 c2 c3 : String) (l1 l2 l3 : Addr) : Heap := (z3a h c1 c2 c3 l1 l2 l3).push
  { cls := .type "zip", data := .fields #[.none, .bool false, .bool false, .ref (((h.push (itO c1 l1)).push (itO c2 l2)).push (itO c3 l3)).objs.size, .ref ((((h.push (itO c1 l1)).push (itO c2 l2)).push (itO c3 l3)).push (tuO #[.ref h.objs.size, .ref (h.push (itO c1 l1)).objs.size, .ref ((h.push (itO c1 l1)).push (itO c2 l2)).objs.size])).objs.size] }
/-- a zip that is new -/
structure Fresh (h : Heap) (z TI TO : Addr) (ls : List Src) (h' : Heap) : Prop where
  hz : IsZ h' z TI TO .none (.bool false)
  hTI : IsTu h' TI (ls.map fun x => .ref x.it)
  hTO : IsTu h' TO (ls.map fun _ => .none)
  at_ : ∀ x ∈ ls, SrcAt h' x 0
  ap : Apart z TI TO ls
  new : h.objs.size ≤ z ∧ h.objs.size ≤ TI ∧ h.objs.size ≤ TO ∧ ∀ x ∈ ls, h.objs.size ≤ x.it
  keep : ∀ c o, h.get? c = some o → h'.get? c = some o
section
variable {prog : Program} {w : World} {A : Around} {E : Value → Shared → Prop} {s : Shared}
end
end PySem.ZZ

set_option Elab.async false
set_option linter.all false
set_option maxRecDepth 100000
set_option maxHeartbeats 1000000
set_option pp.maxSteps 400
/-! ### tuple(zip(..)), list(zip(..)) -/
namespace PySem
namespace F
end F
end PySem
namespace PySem.ZZ
open PySem
section
variable {prog : Program} {w : World} {A : Around} {E : Value → Shared → Prop} {s : Shared}
/-- a zip drawn from i times: the tuples told stand at ts -/
structure Run (hb : Heap) (z TI TO : Addr) (ls : List Src) (rows : Nat → List Value) (S : Addr) (ts : List Addr) (h : Heap) : Prop where
  inc : ts.Pairwise (· < ·)
  lo : ∀ t ∈ ts, S < t ∧ t < h.objs.size
  at_ : ∀ j t, ts[j]? = some t → IsTu h t (rows j)
  keep : ∀ c o, hb.get? c = some o → h.get? c = some o
  hTI : IsTu h TI (ls.map fun x => .ref x.it)
  hTO : ∃ olds, IsTu h TO olds ∧ olds.length = ls.length
  src : ∀ x ∈ ls, SrcAt h x ts.length
  hz : (ts = [] ∧ IsZ h z TI TO .none (.bool false)) ∨ ∃ (T : Addr) (f1 : Value), ts[0]? = some T ∧ IsZ h z TI TO (rawInt T) f1
/-- the addresses that are there ahead of S -/
structure Below (hb : Heap) (z TI TO : Addr) (ls : List Src) (S : Addr) : Prop where
  ap : Apart z TI TO ls
  old : hb.objs.size ≤ z ∧ hb.objs.size ≤ TI ∧ hb.objs.size ≤ TO ∧ ∀ x ∈ ls, hb.objs.size ≤ x.it
  lz : z < S
  lTI : TI < S
  lTO : TO < S
  it : ∀ x ∈ ls, x.it < S ∧ x.a < S
  base : hb.objs.size ≤ S
theorem Run.frame {hb : Heap} {z TI TO : Addr} {ls : List Src} {rows : Nat → List Value} {S : Addr} {ts : List Addr} {h h' : Heap} (B : Below hb z TI TO ls S) (r : Run hb z TI TO ls rows S ts h) (hs : h'.objs.size = h.objs.size) (k : ∀ c o, c ≠ S → h.get? c = some o → h'.get? c = some o) : Run hb z TI TO ls rows S ts h' := by
  obtain ⟨olds, o1, o2⟩ := r.hTO
  refine ⟨r.inc, fun t ht => by rw [hs]; exact r.lo t ht, fun j t e => k _ _ (Nat.ne_of_gt (r.lo t (List.mem_of_getElem? e)).1) (r.at_ j t e), fun c o e => k _ _ (Nat.ne_of_lt (Nat.lt_of_lt_of_le (Heap.lt_size e) B.base)) (r.keep c o e), k _ _ (Nat.ne_of_lt B.lTI) r.hTI, ⟨olds, k _ _ (Nat.ne_of_lt B.lTO) o1, o2⟩, fun x hx => ?_, ?_⟩
  · exact (r.src x hx).keep (fun o e => k _ _ (Nat.ne_of_lt (B.it x hx).1) e) (fun o e => k _ _ (Nat.ne_of_lt (B.it x hx).2) e)
  · rcases r.hz with ⟨e, q⟩ | ⟨T, f1, e, q⟩
    · exact .inl ⟨e, k _ _ (Nat.ne_of_lt B.lz) q⟩
    · exact .inr ⟨T, f1, e, k _ _ (Nat.ne_of_lt B.lz) q⟩
theorem Run.more {hb : Heap} {z TI TO : Addr} {ls : List Src} {rows : Nat → List Value} {S : Addr} {ts : List Addr} {h h' : Heap} (B : Below hb z TI TO ls S) (r : Run hb z TI TO ls rows S ts h) (hS : S < h.objs.size) (hs : h'.objs.size = h.objs.size + 1) (hr : Rest z TO ls h h')
    (hTI : IsTu h' TI (ls.map fun x => .ref x.it)) (hTO : ∃ olds, IsTu h' TO olds ∧ olds.length = ls.length) (src : ∀ x ∈ ls, SrcAt h' x (ts.length + 1)) (new : IsTu h' h.objs.size (rows ts.length)) (hz : ∃ (T : Addr) (f1 : Value), (ts ++ [h.objs.size])[0]? = some T ∧ IsZ h' z TI TO (rawInt T) f1) : Run hb z TI TO ls rows S (ts ++ [h.objs.size]) h' := by
  have fr : ∀ t, S < t → t ≠ z ∧ t ≠ TO ∧ t ∉ ls.map (·.it) := fun t ht => ⟨fun e => by rw [e] at ht; exact Nat.lt_asymm ht B.lz, fun e => by rw [e] at ht; exact Nat.lt_asymm ht B.lTO, fun e => by
    obtain ⟨x, hx, e'⟩ := List.mem_map.mp e
    rw [← e'] at ht
    exact Nat.lt_asymm ht (B.it x hx).1⟩
  refine ⟨?_, fun t ht => ?_, fun j t e => ?_, fun c o e => ?_, hTI, hTO, fun x hx => by rw [List.length_append]; exact src x hx, .inr hz⟩
  · exact List.pairwise_append.mpr ⟨r.inc, List.pairwise_singleton _ _, fun a ha b hb' => by
      have : b = h.objs.size := by simpa using hb'
      rw [this]
      exact (r.lo a ha).2⟩
  · rw [hs]
    rcases List.mem_append.mp ht with ht | ht
    · have := r.lo t ht; exact ⟨this.1, Nat.lt_succ_of_lt this.2⟩
    · have : t = h.objs.size := by simpa using ht
      rw [this]
      exact ⟨hS, Nat.lt_succ_self _⟩
  · by_cases c : j < ts.length
    · rw [List.getElem?_append_left c] at e
      have hlo := r.lo t (List.mem_of_getElem? e)
      obtain ⟨f1, f2, f3⟩ := fr t hlo.1
      exact hr t _ f1 f2 f3 (r.at_ j t e)
    · rw [List.getElem?_append_right (Nat.le_of_not_lt c)] at e
      have hj : j - ts.length = 0 := by
        have := (List.getElem?_eq_some_iff.mp e).1
        rw [List.length_singleton] at this
        omega
      rw [hj] at e
      cases e
      have : j = ts.length := by omega
      rw [this]
      exact new
  · have hlt := Heap.lt_size e
    refine hr c o (fun q => ?_) (fun q => ?_) (fun q => ?_) (r.keep c o e)
    · rw [q] at hlt; exact absurd hlt (Nat.not_lt.mpr B.old.1)
    · rw [q] at hlt; exact absurd hlt (Nat.not_lt.mpr B.old.2.2.1)
    · obtain ⟨x, hx, e'⟩ := List.mem_map.mp q
      rw [← e'] at hlt
      exact absurd hlt (Nat.not_lt.mpr (B.old.2.2.2 x hx))
end
end PySem.ZZ

set_option Elab.async false
set_option linter.all false
set_option maxRecDepth 100000
set_option maxHeartbeats 1000000
set_option pp.maxSteps 400
namespace PySem.ZZ
open PySem
section
variable {prog : Program} {w : World} {A : Around} {E : Value → Shared → Prop} {s : Shared}
/-- what is drawn from a zip: so many rows -/
structure Rows (ls : List Src) (n : Nat) (rows : Nat → List Value) : Prop where
  row : ∀ j, j < n → (rows j).length = ls.length ∧ ∀ (k : Nat) (x : Src), ls[k]? = some x → ∃ v, (rows j)[k]? = some v ∧ x.items[j]? = some v
  stop : ∃ x ∈ ls, x.items[n]? = none
  ne : ls ≠ []
  few : ls.length ≤ 100
  most : n ≤ 1000
theorem Fresh.below {hb h : Heap} {z TI TO : Addr} {ls : List Src} (f : Fresh hb z TI TO ls h) (hs : hb.objs.size ≤ h.objs.size) : Below hb z TI TO ls h.objs.size :=
  ⟨f.ap, f.new, Heap.lt_size f.hz, Heap.lt_size f.hTI, Heap.lt_size f.hTO, fun x hx => let ⟨⟨_, e1⟩, _, e2⟩ := (f.at_ x hx).ex; ⟨Heap.lt_size e1, Heap.lt_size e2⟩, hs⟩
end
end PySem.ZZ

set_option Elab.async false
set_option linter.all false
set_option maxRecDepth 100000
set_option maxHeartbeats 1000000
/-! ### data that the heap or the text's own constants hold, and its equality; tuple targets within a comprehension -/
namespace L2
open PySem PySem.Spec PyProof.Rows
mutual
inductive RepK (K : PySem.W.Frag) (H : Hp) : V → PyData → Prop
  | non : RepK K H .non .none
  | bl (b : Bool) : RepK K H (.bl b) (.bool b)
  | int (i : Int) : RepK K H (.int i) (.int i)
  | str (x : Str) : RepK K H (.str x) (.str x)
  | tup {a : Addr} {xs : List V} {ds : List PyData} : SqT K H a xs → RepsK K H xs ds → RepK K H (.ref a) (.tuple ds)
inductive RepsK (K : PySem.W.Frag) (H : Hp) : List V → List PyData → Prop
  | nil : RepsK K H [] []
  | cons {x : V} {d : PyData} {xs : List V} {ds : List PyData} : RepK K H x d → RepsK K H xs ds → RepsK K H (x :: xs) (d :: ds)
end
section
variable {X : Cx} {pins : List (Addr × Obj)} {σ : St} {H : Hp} {s : Shared}
mutual
theorem RepK.reads (I : Inv X pins σ H s) : ∀ {v : V} {d : PyData} {u : Value}, RepK X.K H v d → RelV v u → ∃ as, Reads s.heap u d as
  | _, _, _, .non, r => by cases (show _ = Value.none from r); exact ⟨_, .none⟩
  | _, _, _, .bl b, r => by cases (show _ = Value.bool b from r); exact ⟨_, .bool b⟩
  | _, _, _, .int i, r => by obtain ⟨t, rfl⟩ := (show ∃ t, _ = Value.int i t from r); exact ⟨_, .int i t⟩
  | _, _, _, .str x, r => by obtain ⟨t, rfl⟩ := (show ∃ t, _ = Value.str x t from r); exact ⟨_, .str x t⟩
  | _, _, _, .tup (a := a) (xs := xs) e q, r => by
    cases (show _ = Value.ref a from r)
    obtain ⟨its, rv, ⟨o, ho, hc, n, hd⟩, _⟩ := I.tuple e
    obtain ⟨as, z⟩ := RepsK.reads I q rv
    exact ⟨_, .tuple ho hc hd (by simpa using z)⟩
theorem RepsK.reads (I : Inv X pins σ H s) : ∀ {xs : List V} {ds : List PyData} {us : List Value}, RepsK X.K H xs ds → Vals xs us → ∃ as, ReadsAll s.heap us ds as
  | _, _, _, .nil, .nil => ⟨_, .nil⟩
  | _, _, _, .cons p q, .cons r t => by
    obtain ⟨as, a1⟩ := RepK.reads I p r
    obtain ⟨bs, b1⟩ := RepsK.reads I q t
    exact ⟨_, .cons a1 b1⟩
end
end
section
variable {X : Cx} {K : PySem.W.Frag}
theorem pg_tupK {es : List Expr} {k : Nat} {pos : Pos} {t : TGs} {n : Nat} (hK : X.K = K) (hc : X.calm = true) (h : PGs X es t)
    (hn : (assignEach es X.env).length = n := by rfl) (hst : (assignEach es X.env).findIdx? (·.1) = none := by rfl) : PG X (.Tuple es k pos) (gTup K n t) := hK ▸ pg_tup hc h hn hst
end
end L2

set_option Elab.async false
set_option linter.all false
set_option maxRecDepth 100000
set_option maxHeartbeats 4000000

/-! ### own exception classes: isinstance of an exception -/
namespace L2
open PySem PySem.Spec PyProof.Rows
/-- the classes above ValueError -/
abbrev veMro : List Value := [.type "ValueError", .type "Exception", .type "BaseException", .type "object"]
/-- what the fragment says of an own exception class under ValueError -/
structure XCl (K : PySem.W.Frag) (C : Addr) : Prop where
  ex : PySem.W.excIn K C veMro "ValueError.__new__" = true
  ga : PySem.W.findIn K (.ref C) "__getattribute__" = some (some (.builtin "BaseException.__getattribute__"))
  gn : PySem.W.findIn K (.ref C) "__getattr__" = some none
  ca : PySem.W.findIn K (.ref C) "__class__" = some (some (.builtin "object.__class__"))
  mo : PySem.W.subIn K (.ref C) (.type "object") = some true
  mb : PySem.W.subIn K (.ref C) (.type "BaseException") = some true
  kp : PySem.W.keepIn K (.ref C) = true
section
variable {K : PySem.W.Frag} {C : Addr}
theorem XCl.look (T : XCl K C) : ∃ dd cd sl, K.lookup C = some ⟨.type "type", dd, .cls cd, sl⟩ := by
  have q := T.ex
  unfold PySem.W.excIn at q
  split at q
  · rename_i dd cd sl ho
    exact ⟨dd, cd, sl, ho⟩
  · cases q
/-- the class as the library's rules want it -/
theorem XCl.obj (T : XCl K C) {h : Heap} (X : K.In h) : ∃ bm N nm q bs hdct sn sub ab col dd k0 k1 k2 k3 k5 mN, h.get? C = some (excClassObj nm q C N bs bm hdct sn sub ab col dd k0 k1 k2 k3 k5 "ValueError.__new__") ∧ h.Ns N mN ∧ mN "__init__" = none ∧ OwnTail h veMro bm := by
  have q := T.ex
  unfold PySem.W.excIn at q
  split at q
  · rename_i dd cd sl ho
    split at q
    · rename_i C' bm k0 k1 k2 k3 n k5 hm hs
      simp only [Bool.and_eq_true, beq_iff_eq, Bool.not_eq_true'] at q
      obtain ⟨⟨⟨⟨⟨rfl, rfl⟩, hdel⟩, ht⟩, hok⟩, hni⟩ := q
      obtain ⟨nm, bs, mro, ns, qn, hd, sn, sub, ab, col, del⟩ := cd
      dsimp only at hm hdel hok hni
      subst hm hdel
      have hsl : sl = #[k0, k1, k2, k3, some (.builtin "ValueError.__new__"), k5] := by
        obtain ⟨l⟩ := sl
        simp only at hs
        rw [hs]
      subst hsl
      exact ⟨bm, ns, nm, qn, bs, hd, sn, sub, ab, col, dd, k0, k1, k2, k3, k5, _, X _ _ ho, .of_isNs (PySem.W.isNs_of_in X hok), PySem.W.nsMap_none_of_in X hok hni, PySem.W.tail_of_in X ht⟩
    · cases q
  · cases q
end
/-- an exception of the class at C, without context, lies at a -/
def XAt (a C : Addr) (h : Heap) : Prop := ∃ o vs, h.get? a = some o ∧ o.cls = .ref C ∧ o.data = .fields vs ∧ vs[2]? = some .none
section
variable {prog : Program} {w : World} {A : Around} {E : Value → Shared → Prop} {h : Heap} {g : Array GenState} {d : Drawn} {t : Nat} {os : OsState} {K : PySem.W.Frag} {a C : Addr} {o : Obj}
theorem xclass_get {R : Result → Shared → Prop} (X : K.In h) (T : XCl K C) (hx : h.get? a = some o) (hc : o.cls = .ref C) (hq : R (.ok (.ret (.ref C))) ⟨h, g, d, t, os⟩) :
    codeAny (model prog w) A (.call (.builtin "getset_descriptor.__get__") ⟨[.builtin "object.__class__", .ref a, .ref C], []⟩) R ⟨h, g, d, t, os⟩ := by
  have hT5 : (⟨h, g, d, t, os⟩ : Shared).TypeIs (.builtin "object.__class__") "getset_descriptor" := F.typeOf_object_class
  have f8 : PySem.W.Looks (model prog w) h (isSubtype (.ref C) (.type (".".intercalate ("object.__class__".cutAt '.').dropLast))) true := by
    rw [F.owner_object_class]; exact PySem.W.looks_subIn X T.mo
  refine codeAny_call_builtin F.slot_gs_get.plain F.entry_gs_get (F.slot_gs_get.check _ _ _ _ _ _ _ _ hT5 (F.args_gs_get _ _ _) ?_)
  repeat (any_goals (first | assumption | (with_reducible refine wpAny_loadPart_at hx ?_; rw [hc]) | with_reducible refine f8.at ?_ | wp_step))
  refine ⟨Code.quiet_builtin _ (by decide +kernel), codeAny_builtin F.entry_object_class ?_⟩
  repeat (any_goals (first | assumption | (with_reducible refine wpAny_loadPart_at hx ?_; rw [hc]) | wp_step))
theorem xclass_entry {tk : Tok} {Q : Fin → Shared → Prop} (X : K.In h) (T : XCl K C) (hx : h.get? a = some o) (hc : o.cls = .ref C) (hq : Q (.done (.ret (.ref C))) ⟨h, g, d, t, os⟩) :
    wpAny (model prog w) A (Builtin.«object.__getattribute__» ⟨[.ref a, .str "__class__" tk], []⟩) Q E ⟨h, g, d, t, os⟩ := by
  have hT5 : (⟨h, g, d, t, os⟩ : Shared).TypeIs (.builtin "object.__class__") "getset_descriptor" := F.typeOf_object_class
  have f4 := PySem.W.looks_findIn (M := model prog w) X T.ca
  have f5 := F.typeOf_object_class
  have f6 := F.slot_gs_get.lookup
  have f7 := F.slot_gs_set.lookup
  repeat (any_goals (first | assumption | (with_reducible refine wpAny_loadPart_at hx ?_; rw [hc]) | with_reducible refine f4.at ?_ | wp_step))
  refine xclass_get X T hx hc ?_
  repeat (any_goals (first | assumption | wp_step))
theorem xcheck_ga {M : Model} {nameV : Value} {Q : Unit → Shared → Prop} (X : K.In h) (T : XCl K C) (hx : h.get? a = some o) (hc : o.cls = .ref C) (hq : Q () ⟨h, g, d, t, os⟩) :
    wpAny M A (checkBuiltinCall "BaseException.__getattribute__" ⟨[.ref a, nameV], []⟩) Q E ⟨h, g, d, t, os⟩ := by
  have hk : builtinKind "BaseException.__getattribute__" = some .slot := by decide +kernel
  have hsplit : splitId "BaseException.__getattribute__" = some ("BaseException", "__getattribute__") := by decide +kernel
  have f1 := PySem.W.looks_subIn (M := M) X T.mb
  have ha := F.args_bexc_ga (.ref a) nameV
  simp only [checkBuiltinCall, hk, hsplit]
  refine wpAny_bind ?_
  · unfold isInstance
    repeat (first | (with_reducible refine wpAny_loadPart_at hx ?_; rw [hc]) | with_reducible refine f1.at ?_ | wp_step)
    exact hq
theorem xclass_call {tk : Tok} {R : Result → Shared → Prop} (X : K.In h) (T : XCl K C) (hx : h.get? a = some o) (hc : o.cls = .ref C) (hq : R (.ok (.ret (.ref C))) ⟨h, g, d, t, os⟩) :
    codeAny (model prog w) A (.call (.builtin "BaseException.__getattribute__") ⟨[.ref a, .str "__class__" tk], []⟩) R ⟨h, g, d, t, os⟩ :=
  codeAny_call_builtin F.attr_ValueError.ga.plain F.entry_bexc_ga (xcheck_ga X T hx hc (xclass_entry X T hx hc hq))
theorem xclass_by {tk : Tok} {fill expr : Bool} {Q : Value → Shared → Prop} (X : K.In h) (T : XCl K C) (hx : h.get? a = some o) (hc : o.cls = .ref C) (hq : Q (.ref C) ⟨h, g, d, t, os⟩) :
    wpAny (model prog w) A (getAttrBy (.ref a) (.str "__class__" tk) fill expr) Q E ⟨h, g, d, t, os⟩ := by
  have f1 := PySem.W.looks_findIn (M := model prog w) X T.ga
  have f2 := PySem.W.looks_findIn (M := model prog w) X T.gn
  have f3 := F.attr_ValueError.ga.bind (.ref a)
  have hx0 : (expr && onTheHeap (Value.builtin "BaseException.__getattribute__")) = false := by cases expr <;> rfl
  have hx2 : (Value.builtin "BaseException.__getattribute__" == Value.builtin "object.__getattribute__") = false := by decide +kernel
  have hx1 : (onTheHeap (Value.ref C) && Value.builtin "BaseException.__getattribute__" == Value.builtin "object.__getattribute__") = false := by rw [hx2]; rfl
  repeat (any_goals (first | assumption | (with_reducible refine wpAny_loadPart_at hx ?_; rw [hc]) | with_reducible refine f1.at ?_ | with_reducible refine f2.at ?_ | wp_step))
  refine xclass_call X T hx hc ?_
  repeat (any_goals (first | assumption | wp_step))
theorem xclass_attr {Q : Option Value → Shared → Prop} (X : K.In h) (T : XCl K C) (hx : h.get? a = some o) (hc : o.cls = .ref C) (hq : Q (some (.ref C)) ⟨h, g, d, t + 1, os⟩) : wpAny (model prog w) A (getAttr? (.ref a) "__class__") Q E ⟨h, g, d, t, os⟩ := by
  unfold getAttr? getAttrBy?
  repeat (any_goals (first | assumption | with_reducible apply xclass_by X T hx hc | wp_step))
end
theorem kitx_exc {K : PySem.W.Frag} {a C : Addr} (T : XCl K C) : PySem.W.KitX K (.ref a) (.ref C) (XAt a C) where
  ty := fun M h X p => by
    obtain ⟨o, vs, h1, h2, _⟩ := p
    exact h2 ▸ (PySem.W.Looks.ld h1).andThen .now
  it := fun _ _ X _ => by
    obtain ⟨dd, cd, sl, ho⟩ := T.look
    intro A' Q' E' s' k q
    unfold isType loadHead
    exact wpAny_bind (wpAny_loadPart (k _ _ (X _ _ ho)) (wpAny_pure q))
  ne := fun h tp dd its n sl X htp => by
    obtain ⟨_, cd, _, ho⟩ := T.look
    refine Bool.eq_false_iff.mpr fun q => ?_
    have e : C = tp := Value.ref.inj (beq_iff_eq.mp q)
    subst e
    have z := congrArg Obj.data (Option.some.inj ((X _ _ ho).symm.trans htp))
    cases z
  ca := fun {_ _ _ _ _ s} X p k => by
    obtain ⟨h, g, d, t, os⟩ := s
    obtain ⟨o, vs, h1, h2, _⟩ := p
    exact xclass_attr X T h1 h2 k
/-- an exception, as the abstract heap tells it -/
def xo (a C : Addr) : HO := .ext (XAt a C)
section
variable {X : Cx} {pins : List (Addr × Obj)} {σ : St} {H : Hp} {s : Shared}
theorem xo_at {a C : Addr} (I : Inv X pins σ H s) (e : H a = some (xo a C)) : XAt a C s.heap := (show ObjOk X.prog X.w H s.heap a (xo a C) from I.hok a _ e).1
/-- isinstance(e, D) of an exception: D a class (own, or built-in) -/
theorem isinst_exc {A : Around} {E : Value → Shared → Prop} {Q : Value → Shared → Prop} {a C : Addr} {c : Value} {b : Bool} (I : Inv X pins σ H s) (T : XCl X.K C) (e : H a = some (xo a C)) (k : PySem.W.kitOne X.K (.ref C) c = some b) (h : ∀ tk, Q (.bool b) { s with toks := tk }) :
    wpAny (model X.prog X.w) A (call (.builtin "isinstance") [.ref a, c]) Q E s :=
  PySem.W.kia_one (kitx_exc T) I.kIn (xo_at I e) k (fun z => nomatch z) h
end
end L2

set_option Elab.async false
set_option linter.all false
set_option maxRecDepth 100000
set_option maxHeartbeats 1000000

/-! ### an exception on its way: the frames it leaves -/
namespace L2
open PySem PySem.Spec PyProof.Rows
/-- the exception e, of the class at C, without context. fl: none, no frame is noted yet; some f, the newest entry bears f -/
def XT (B : Heap) (e C : Addr) (fl : Option Value) (h : Heap) : Prop :=
  ∃ oe vs, h.get? e = some oe ∧ oe.cls = .ref C ∧ oe.data = .fields vs ∧ vs[2]? = some .none ∧
    match fl with
    | none => vs[1]? = some .none
    | some f => ∃ T oT ts, vs[1]? = some (.ref T) ∧ B.get? T = none ∧ T ≠ e ∧ h.get? T = some oT ∧ oT.data = .fields ts ∧ ts[3]? = some f
structure Fl (B : Heap) (l : List Env) (e C : Addr) (fl : Option Value) (h : Heap) : Prop where
  stays : B.StaysIn h
  new : B.get? e = none
  fr : h.FunFrames B l
  tr : XT B e C fl h
theorem XT.at {B h : Heap} {e C : Addr} {fl : Option Value} (x : XT B e C fl h) : XAt e C h := by
  obtain ⟨oe, vs, h1, h2, h3, h4, _⟩ := x
  exact ⟨oe, vs, h1, h2, h3, h4⟩
section
variable {M : Model} {A : Around} {E : Value → Shared → Prop} {s : Shared} {B : Heap} {env : Env} {outer l : List Env} {L e C : Addr} {Q : Unit → Shared → Prop}
theorem fl_entry {oe : Obj} {vs : Array Value} {head : Value} {hadNext : Bool} (hfr : A.frames = some (env :: outer)) (hf : env.frame = some L) (st : B.StaysIn s.heap) (new : B.get? e = none) (fr : s.heap.FunFrames B (env :: outer))
    (he : s.heap.get? e = some oe) (hc : oe.cls = .ref C) (hd : oe.data = .fields vs) (h2 : vs[2]? = some .none) (hq : ∀ h', Fl B (env :: outer) e C (some (rawInt L)) h' → s.heap.UpToSlots h' → Q () { s with heap := h' }) :
    wpAny M A (do let fo ← frameOf env; let pl ← entryPlaceOf L hadNext; let tb ← EntryCells.newEntry head fo .none (rawInt L) .none pl; setField (.ref e) 1 tb) Q E s := by
  have hsz : 2 < vs.size := (Array.getElem?_eq_some_iff.mp h2).1
  have nf : e ∉ (env :: outer).filterMap (·.frame) := fun hm => by
    obtain ⟨_, of, hof, nof⟩ := fr.mem hm
    rw [he] at hof
    cases hof
    exact nof vs hd
  refine wpAny_bind (wpAny_frameOf_fun hfr fr hf fun hA sA => ?_)
  refine wpAny_bind (wpAny_entryPlaceOf fun pl ipl => ?_)
  unfold EntryCells.newEntry newFields
  refine wpAny_bind (wpAny_newObj_type ?_ (ipl.sizeOk5 _ _ _ _ _))
  have eA : hA.get? e = some oe := (sA.2.1 e nf).trans he
  have stA : B.StaysIn hA := fun b o q => (sA.2.1 b fun hm => by rw [(fr.mem hm).1] at q; cases q).trans (st b o q)
  have key : ∀ (ob : Obj) (ts : Array Value), ob.data = .fields ts → ob.isFreed = false → ts[3]? = some (rawInt L) → wpAny M A (setField (.ref e) 1 (.ref hA.objs.size)) Q E { s with heap := hA.push ob } := fun ob ts dT nfr iT => by
    have eP := Heap.get?_push_of_some (h := hA) ob eA
    refine wpAny_setField eP hd (by omega) (hq _ ?_ ?_)
    · have hTe : hA.objs.size ≠ e := Nat.ne_of_gt (Heap.lt_size eA)
      have dN := Obj.data_mapFields hd (·.setIfInBounds 1 (Value.ref hA.objs.size))
      have eN := Heap.get?_update_self (Obj.mapFields (·.setIfInBounds 1 (Value.ref hA.objs.size))) eP (Obj.isFreed_of_fields dN)
      have keep : ∀ b o, b ≠ e → hA.get? b = some o → ((hA.push ob).update e (Obj.mapFields (·.setIfInBounds 1 (Value.ref hA.objs.size)))).get? b = some o := fun b o hb q => by
        rw [Heap.get?_update_other _ _ (Ne.symm hb)]
        exact Heap.get?_push_of_some _ q
      refine ⟨fun b o q => keep b o (fun z => by rw [z, new] at q; cases q) (stA b o q), new, fr.of_keeps fun b o q nb => ?_, ⟨_, _, eN, (Obj.cls_mapFields _ _).trans hc, dN, ?_, hA.objs.size, ob, ts, ?_, stA.fresh, hTe, ?_, dT, iT⟩⟩
      · obtain ⟨sl, q'⟩ := sA.2.2 b o q
        exact ⟨_, keep b _ (fun z => by rw [z, he] at q; cases q; exact nb vs hd) q', rfl⟩
      · rw [Array.getElem?_setIfInBounds_ne (by decide)]
        exact h2
      · simp [show 1 < vs.size by omega]
      · rw [Heap.get?_update_other _ _ (Ne.symm hTe)]
        exact Heap.get?_push_size hA nfr
    · intro b o q nb
      obtain ⟨sl, q'⟩ := sA.2.2 b o q
      refine ⟨sl, ?_⟩
      rw [Heap.get?_update_other _ _ (fun z => by rw [← z, he] at q; cases q; exact nb vs hd)]
      exact Heap.get?_push_of_some _ q'
  refine key _ _ rfl rfl ?_
  first | (simp; done) | (rcases ipl with rfl | ⟨_, _, _, _, _, _, _, rfl⟩ <;> simp)
/-- the frame at hand is noted -/
theorem fl_note {fl : Option Value} (hfl : fl = none ∨ fl = some .none) (hfr : A.frames = some (env :: outer)) (hf : env.frame = some L) (x : Fl B (env :: outer) e C fl s.heap)
    (hq : ∀ h', Fl B (env :: outer) e C (some (rawInt L)) h' → s.heap.UpToSlots h' → Q () { s with heap := h' }) : wpAny M A (noteFrame (.ref e) env) Q E s := by
  obtain ⟨st, new, fr, oe, vs, he, hc, hd, h2, ht⟩ := x
  unfold noteFrame
  simp only [hf]
  rcases hfl with rfl | rfl
  · refine wpAny_bind (wpAny_field he hd (show vs[1]? = some .none from ht) ?_)
    rw [if_neg (by decide)]
    exact fl_entry hfr hf st new fr he hc hd h2 hq
  · obtain ⟨T, oT, ts, h1, nT, hTe, hT, dT, iT⟩ := ht
    refine wpAny_bind (wpAny_field he hd h1 ?_)
    rw [if_pos (show (Value.ref T != Value.none) = true from by simp)]
    refine wpAny_bind (wpAny_field hT dT iT ?_)
    rw [if_neg (show ¬ ((Value.none == rawInt L) = true) from by simp [rawInt])]
    refine wpAny_bind (wpAny_setField hT dT (Array.getElem?_eq_some_iff.mp iT).1 ?_)
    have oth : ∀ b o, b ≠ T → s.heap.get? b = some o → (s.heap.update T (Obj.mapFields (·.setIfInBounds 3 Value.none))).get? b = some o := fun b o hb q => (Heap.get?_update_other _ _ (Ne.symm hb)).trans q
    have nrec : ∀ b o, s.heap.get? b = some o → (∀ ws, o.data ≠ .fields ws) → b ≠ T := fun b o q nb z => by rw [z, hT] at q; cases q; exact nb ts dT
    refine fl_entry (s := { s with heap := s.heap.update T (Obj.mapFields (·.setIfInBounds 3 Value.none)) }) hfr hf (fun b o q => oth b o (fun z => by rw [z, nT] at q; cases q) (st b o q)) new
      (fr.of_keeps fun b o q nb => ⟨o, oth b o (nrec b o q nb) q, rfl⟩) (oth e oe (Ne.symm hTe) he) hc hd h2 fun h' y u => hq h' y ?_
    exact fun b o q nb => u b o (oth b o (nrec b o q nb) q) nb
/-- no frame is in flight any more -/
theorem fl_set {f : Value} (x : Fl B l e C (some f) s.heap) (hq : ∀ h', Fl B l e C (some .none) h' → s.heap.UpToSlots h' → Q () { s with heap := h' }) : wpAny M A (setFlight (.ref e) none) Q E s := by
  obtain ⟨st, new, fr, oe, vs, he, hc, hd, h2, T, oT, ts, h1, nT, hTe, hT, dT, iT⟩ := x
  have hsz : 3 < ts.size := (Array.getElem?_eq_some_iff.mp iT).1
  have oth : ∀ b o, b ≠ T → s.heap.get? b = some o → (s.heap.update T (Obj.mapFields (·.setIfInBounds 3 Value.none))).get? b = some o := fun b o hb q => (Heap.get?_update_other _ _ (Ne.symm hb)).trans q
  have nrec : ∀ b o, s.heap.get? b = some o → (∀ ws, o.data ≠ .fields ws) → b ≠ T := fun b o q nb z => by rw [z, hT] at q; cases q; exact nb ts dT
  unfold setFlight
  refine wpAny_bind (wpAny_field he hd h1 ?_)
  rw [if_pos (show (Value.ref T != Value.none) = true from by simp)]
  refine wpAny_setField hT dT hsz (hq (s.heap.update T (Obj.mapFields (·.setIfInBounds 3 Value.none))) ⟨fun b o q => oth b o (fun z => by rw [z, nT] at q; cases q) (st b o q), new, fr.of_keeps fun b o q nb => ⟨o, oth b o (nrec b o q nb) q, rfl⟩, ?_⟩
    fun b o q nb => ⟨o.slots, oth b o (nrec b o q nb) q⟩)
  have dN := Obj.data_mapFields dT (·.setIfInBounds 3 Value.none)
  exact ⟨oe, vs, oth e oe (Ne.symm hTe) he, hc, hd, h2, T, _, _, h1, nT, hTe, Heap.get?_update_self _ hT (Obj.isFreed_of_fields dN), dN, by simp [hsz]⟩
/-- the frame is left -/
theorem fl_leave {fl : Option Value} (hfl : fl = none ∨ fl = some .none) (hfr : A.frames = some (env :: outer)) (hf : env.frame = some L) (x : Fl B (env :: outer) e C fl s.heap)
    (hq : ∀ h', Fl B outer e C (some .none) h' → s.heap.UpToSlots h' → Q () { s with heap := h' }) : wpAny M A (leaving env (.ref e)) Q E s := by
  unfold leaving
  refine wpAny_bind (fl_note hfl hfr hf x fun h1 y u1 => ?_)
  refine fl_set y fun h2 z u2 => hq h2 ⟨z.stays, z.new, z.fr.2.2, z.tr⟩ (u1.trans u2)
end
end L2

set_option Elab.async false
set_option linter.all false
set_option maxRecDepth 100000
set_option maxHeartbeats 1000000

/-! ### raise, calls that raise, try -/
namespace L2
open PySem PySem.Spec PyProof.Rows
theorem ObjOk.there {P : Program} {w : World} {H : Hp} {h : Heap} {a : Addr} {o : HO} (x : ObjOk P w H h a o) : ∃ u, h.get? a = some u := by
  cases o with
  | lst xs => obtain ⟨_, its, n, _, q⟩ := x; exact ⟨_, q⟩
  | tup xs => obtain ⟨_, its, _, ob, q, _⟩ := x; exact ⟨_, q⟩
  | dK kvs => obtain ⟨_, _, vs, _, ob, es, ep, q, _⟩ := x; exact ⟨_, q⟩
  | dT kvs => obtain ⟨_, _, xs, _, ob, es, ep, q, _⟩ := x; exact ⟨_, q⟩
  | set S n => obtain ⟨ob, es, ep, t, q, _⟩ := x; exact ⟨_, q⟩
  | ins C dx fs => obtain ⟨_, _, _, q, _⟩ := x; exact ⟨_, q⟩
  | own y => exact x
  | xd fs => obtain ⟨mA, ⟨od, es, ep, q, _⟩, _⟩ := x; exact ⟨_, q⟩
  | rng lo hi => obtain ⟨t, u, v, q⟩ := x; exact ⟨_, q⟩
  | frz ob u => exact ⟨_, x.1⟩
  | tbl ps => exact ⟨_, x⟩
  | met f y => exact ⟨_, x⟩
  | ext φ => exact x.2.1
/-- an exception behind a call: e, of the class at C; B: the things that it has not touched -/
structure Exc (P : Program) (w : World) (outer : List Env) (H : Hp) (s : Shared) (e C : Addr) (B : Heap) (H' : Hp) (s' : Shared) : Prop where
  os : s'.os = s.os
  bare : AllBare s'.gens
  fl : ∃ fl, (fl = none ∨ fl = some .none) ∧ Fl B outer e C fl s'.heap
  un : Un (frs outer) [] H H' s.heap s'.heap
  hok : HOk P w H' s'.heap
  tin : ∀ b o, s'.heap.get? b = some o → H' b ≠ none → B.get? b = some o
  old : ∀ b o, s.heap.get? b = some o → H b = none → b ∉ frs outer → B.get? b = some o
  ex : ∀ b o, s.heap.get? b = some o → b ∉ frs outer → ∃ o', B.get? b = some o'
/-- how an exception lies behind a call -/
def CX1 (P : Program) (w : World) : CXT := fun outer H s E ev s' => ∃ e C B H', ev = .ref e ∧ Exc P w outer H s e C B H' s' ∧ E (.ref C) none H'
section
variable {P : Program} {w : World} {outer : List Env} {H H' : Hp} {s s' : Shared} {e C : Addr} {B h2 : Heap} {fl : Option Value}
theorem Exc.hokAt (x : Exc P w outer H s e C B H' s') (st : B.StaysIn h2) : HOk P w H' h2 := fun a o q =>
  (x.hok a o q).stay (fun b u hb hu => st b u (x.tin b u hu (by
    rcases hb with rfl | hb
    · rw [q]; exact fun z => nomatch z
    · rw [hb]; exact fun z => nomatch z))) (fun _ z => z) fun _ _ z => z
theorem Exc.unAt (x : Exc P w outer H s e C B H' s') (f : Fl B outer e C fl h2) (u : s'.heap.UpToSlots h2) : Un (frs outer) [] H H' s.heap h2 := by
  refine ⟨fun b o q n hb _ => f.stays b o (x.old b o q n hb), fun b o q n hb hx => ?_, x.un.free, fun b o q hx => ?_, x.un.tups, x.un.frzs, x.un.tbls⟩
  · obtain ⟨sl, q1⟩ := x.un.slot b o q n hb hx
    obtain ⟨_, _, g⟩ := x.fl
    obtain ⟨_, o1, q2, nf⟩ := g.fr.mem hb
    rw [q1] at q2
    cases q2
    obtain ⟨sl2, q3⟩ := u b _ q1 nf
    exact ⟨sl2, q3⟩
  · by_cases hb : b ∈ frs outer
    · obtain ⟨_, o1, q2, _⟩ := f.fr.mem hb
      exact ⟨o1, q2⟩
    · obtain ⟨o1, q1⟩ := x.ex b o q hb
      exact ⟨o1, f.stays b o1 q1⟩
theorem Exc.tinAt (x : Exc P w outer H s e C B H' s') (st : B.StaysIn h2) : ∀ b o, h2.get? b = some o → H' b ≠ none → B.get? b = some o := fun b o q hb => by
  cases hq : H' b with
  | none => exact absurd hq hb
  | some v =>
    obtain ⟨o1, q1⟩ := (x.hok b v hq).there
    have q2 := x.tin b o1 q1 hb
    have q3 := st b o1 q2
    rw [q] at q3
    cases q3
    exact q2
theorem Exc.free (x : Exc P w outer H s e C B H' s') : H' e = none := by
  cases hq : H' e with
  | none => rfl
  | some v =>
    obtain ⟨o1, q1⟩ := (x.hok e v hq).there
    have q2 := x.tin e o1 q1 (by rw [hq]; exact fun z => nomatch z)
    obtain ⟨_, _, g⟩ := x.fl
    rw [g.new] at q2
    cases q2
theorem Exc.fresh (x : Exc P w outer H s e C B H' s') : s.heap.get? e = none := by
  cases hq : s.heap.get? e with
  | none => rfl
  | some o =>
    obtain ⟨_, _, g⟩ := x.fl
    by_cases hb : e ∈ frs outer
    · obtain ⟨_, o1, q1, nf⟩ := g.fr.mem hb
      obtain ⟨oe, vs, q2, _, q3, _⟩ := g.tr
      rw [q1] at q2
      cases q2
      exact absurd q3 (nf vs)
    · obtain ⟨o1, q1⟩ := x.ex e o hq hb
      rw [g.new] at q1
      cases q1
end
section
variable {X : Cx} {pins : List (Addr × Obj)} {σ : St} {H H' : Hp} {s s' : Shared} {e C : Addr} {B h2 : Heap} {fl : Option Value}
/-- an exception made here -/
theorem Exc.made {args : List Value} {h' : Heap} (I : Inv X pins σ H s) (hx : Heap.MadeExcOf s.heap h' e (.ref C) args) : Exc X.prog X.w X.stack H s e C (PySem.W.hideAll s.heap (frs X.stack)) H { s with heap := h' } := by
  have st : (PySem.W.hideAll s.heap (frs X.stack)).StaysIn s.heap := fun b o q => PySem.W.of_hideAll _ q
  refine ⟨rfl, I.bare, ⟨none, .inl rfl, ⟨fun b o q => hx.keeps b o (st b o q), ?_, ?_, ?_⟩⟩, Un.kept hx.keeps, I.hok.kept hx.keeps, fun b o q hb => ?_, fun b o q n hb => PySem.W.hideAll_get _ q hb, fun b o q hb => ⟨o, PySem.W.hideAll_get _ q hb⟩⟩
  · cases hq : (PySem.W.hideAll s.heap (frs X.stack)).get? e with
    | none => rfl
    | some o =>
      have q := st e o hq
      rw [hx.new] at q
      cases q
  · have f0 : s.heap.FunFrames (PySem.W.hideAll s.heap (frs X.stack)) X.stack := PySem.W.funFrames_hide I.stack fun env he a ha => List.mem_filterMap.mpr ⟨env, he, ha⟩
    exact f0.of_keeps fun b o q _ => ⟨o, hx.keeps b o q, rfl⟩
  · obtain ⟨t, q, _⟩ := hx.there
    exact ⟨_, _, q, rfl, rfl, rfl, rfl⟩
  · cases hq : H b with
    | none => exact absurd hq hb
    | some v =>
      obtain ⟨o1, q1⟩ := (I.hok b v hq).there
      have q2 := hx.keeps b o1 q1
      have q' : h'.get? b = some o := q
      rw [q'] at q2
      cases q2
      refine PySem.W.hideAll_get _ q1 fun hm => ?_
      rw [I.stkFree b hm] at hq
      cases hq
/-- a def's frame is left by an exception -/
theorem Exc.leave {M : Model} {E1 : Value → Shared → Prop} {Q : Unit → Shared → Prop} (I : Inv X pins σ H s) (hs : X.stack = X.env :: X.outer) (hf : X.env.frame = some X.env.locals) (hx : X.ex = []) (x : Exc X.prog X.w X.stack H s e C B H' s')
    (hq : ∀ h2, Exc X.prog X.w X.outer X.H₀ X.s₀ e C B H' { s' with heap := h2 } → Q () { s' with heap := h2 }) : wpAny M X.A (leaving X.env (.ref e)) Q E1 s' := by
  obtain ⟨fl, hfl, f⟩ := x.fl
  have f' := f
  rw [hs] at f'
  have nl : ∀ b o, X.s₀.heap.get? b = some o → b ≠ X.env.locals := fun b o q => Nat.ne_of_lt (Nat.lt_of_lt_of_le (Heap.lt_size q) I.ok.above)
  have ns : ∀ b o, X.s₀.heap.get? b = some o → b ∉ X.fs → b ∉ frs X.stack := fun b o q hb hm => (List.mem_cons.mp (I.stkSub b hm)).elim (nl b o q) hb
  have fsub : ∀ b, b ∈ X.fs → b ∈ frs X.stack := fun b hb => by
    rw [hs]
    unfold frs
    rw [List.filterMap_cons, hf]
    exact List.mem_cons_of_mem _ hb
  have nx : ∀ b : Addr, b ∉ X.ex := fun b => by rw [hx]; simp
  refine fl_leave hfl (I.ok.frames.trans (congrArg some hs)) hf f' fun h2 g u => hq h2 ⟨x.os.trans I.os, x.bare, ⟨_, .inr rfl, g⟩, ?_, x.hokAt g.stays, x.tinAt g.stays, fun b o q n hb => ?_, fun b o q hb => ?_⟩
  · refine ⟨fun b o q n hb _ => ?_, fun b o q n hb _ => ?_, fun b o q n _ => ?_, fun b o q _ => ?_, fun b xs q => x.un.tups b xs (I.base.tups b xs q), fun b o v q => x.un.frzs b o v (I.base.frzs b o v q), fun b ps q => ?_⟩
    · exact g.stays b o (x.old b o (I.base.keep b o q n hb (nx b)) (I.base.free b o q n (nx b)) (ns b o q hb))
    · obtain ⟨sl, q1⟩ := I.base.slot b o q n hb (nx b)
      obtain ⟨sl2, q2⟩ := x.un.slot b _ q1 (I.base.free b o q n (nx b)) (fsub b hb) (by simp)
      obtain ⟨_, o1, q3, nf⟩ := f.fr.mem (fsub b hb)
      rw [q2] at q3
      cases q3
      obtain ⟨sl3, q4⟩ := u b _ q2 nf
      exact ⟨sl3, q4⟩
    · obtain ⟨o1, q1⟩ := I.base.there b o q (nx b)
      exact x.un.free b o1 q1 (I.base.free b o q n (nx b)) (by simp)
    · by_cases hb : b ∈ X.fs
      · obtain ⟨_, o1, q1, _⟩ := g.fr.mem hb
        exact ⟨o1, q1⟩
      · obtain ⟨o1, q1⟩ := I.base.there b o q (nx b)
        obtain ⟨o2, q2⟩ := x.ex b o1 q1 (ns b o q hb)
        exact ⟨o2, g.stays b o2 q2⟩
    · obtain ⟨m1, q1⟩ := I.base.tbls b ps q
      obtain ⟨m2, q2⟩ := x.un.tbls b _ q1
      exact ⟨m1 ++ m2, by rw [q2, Array.append_assoc]⟩
  · exact x.old b o (I.base.keep b o q n hb (nx b)) (I.base.free b o q n (nx b)) (ns b o q hb)
  · obtain ⟨o1, q1⟩ := I.base.there b o q (nx b)
    exact x.ex b o1 q1 (ns b o q hb)
/-- an exception caught here: it is tracked from now on -/
theorem Exc.caught (I : Inv X pins σ H s) (x : Exc X.prog X.w X.stack H s e C B H' s') (f : Fl B X.stack e C fl h2) (u : s'.heap.UpToSlots h2) : Inv X pins σ (upd H' e (xo e C)) { s' with heap := h2 } := by
  have v := x.unAt f u
  have he := x.fresh
  have hn := x.free
  have ne : ∀ b o, s.heap.get? b = some o → b ≠ e := fun b o q z => by rw [z, he] at q; cases q
  have un : Un (frs X.stack) [] H (upd H' e (xo e C)) s.heap h2 := ⟨v.keep, v.slot, fun b o q n hx => by rw [upd_ne (ne b o q)]; exact v.free b o q n hx, v.there, fun b xs q => by rw [upd_ne (ne_of_none (v.tups b xs q) hn)]; exact v.tups b xs q,
    fun b o w q => by rw [upd_ne (ne_of_none (v.frzs b o w q) hn)]; exact v.frzs b o w q, fun b ps q => by
      obtain ⟨m, q1⟩ := v.tbls b ps q
      exact ⟨m, by rw [upd_ne (ne_of_none q1 hn)]; exact q1⟩⟩
  have hok : HOk X.prog X.w (upd H' e (xo e C)) h2 := fun b o q => by
    by_cases hb : b = e
    · subst hb
      rw [upd_same] at q
      cases q
      have at_ := f.tr.at
      refine ⟨at_, ?_, fun h1 h3 p k => ?_⟩
      · obtain ⟨oe, vs, q1, _⟩ := at_
        exact ⟨oe, q1⟩
      · obtain ⟨oe, vs, q1, q2⟩ := p
        exact ⟨oe, vs, k oe q1, q2⟩
    · rw [upd_ne hb] at q
      exact (x.hokAt f.stays b o q).stay (fun c w _ q1 => q1) (fun c q1 => by rw [upd_ne (ne_of_none q1 hn)]; exact q1) fun c xs q1 => by rw [upd_ne (ne_of_none q1 hn)]; exact q1
  exact I.call' (s' := { s' with heap := h2 }) x.os un hok x.bare fun b z => absurd z (by simp)
end

/-! ### an exception reaches what the body wants of exceptions; the wish may hang on the names' values -/
def PassX (X : Cx) (EX : St → XK) : Prop := ∀ (pins : List (Addr × Obj)) (σ : St) (H : Hp) (s : Shared) (ev : Value) (s' : Shared), Inv X pins σ H s → CX1 X.prog X.w X.stack H s (EX σ) ev s' → X.xe ev s'
theorem passX0 {X : Cx} : PassX X (fun _ => E0) := fun _ _ _ _ _ _ _ h => by
  obtain ⟨_, _, _, _, _, _, z⟩ := h
  exact z.elim
theorem pass_def {P : Program} {w : World} {K : PySem.W.Frag} {mg : Str → Option Value} {base : Heap} {N : List Str} {qual : Str} {scope : Scope} {f : Addr} {cd : Value} {A : Around} {outer : List Env} {s : Shared} {H : Hp} {E : XK} :
    PassX (cxOf (CX1 P w) P w K mg base N qual scope f cd A outer s H E) (fun _ => E) := fun pins σ H1 s1 ev s' I h => by
  obtain ⟨e, C, B, H', rfl, x, q⟩ := h
  exact x.leave I rfl rfl rfl fun h2 y => ⟨e, C, B, H', rfl, y, q⟩
/-- raise C(..) -/
def tRaise (C : Addr) (EX : St → XK) (t : TA) : TS := fun _ σ H => t σ H fun vs H1 => vs.length ≤ sizeLine ∧ EX σ (.ref C) none H1
theorem ps_raise {X : Cx} {EX : St → XK} {C : Addr} {x : Str} {np cpos pos : Pos} {e : Expr} {es : List Expr} {t : TA} (hc : X.calm = true) (T : XCl X.K C) (hg : Gl X x) (hm : X.mg x = some (.ref C)) (hx : PassX X EX) (ha : PA X (e :: es) t)
    (hdb : (x == ("__debug__" : Str)) = false := by decide) (he : starEach (e :: es) X.env = (false, eval e X.env) :: starEach es X.env := by rfl) (hpl : (backTo cpos (starEach es X.env)).any (·.1) = false := by rfl) :
    PS X (.Raise (some (.Call (.Name x np) (e :: es) [] cpos)) none pos) (tRaise C EX t) := by
  intro pins s σ H D I h
  obtain ⟨bm, N, nm, q, bs, hdct, sn, sub, ab, col, dd, k0, k1, k2, k3, k5, mN, hC, hN, hni, TL⟩ := T.obj I.mod.kin
  refine wpAny_Raise_call_subT F.excBase_ValueError (bm := bm) (nm := nm) (C := C) (q := q) (bs := bs) (N := N) (sn := sn) (hdct := hdct) (sub := sub) (col := col) (ab := ab) (dd := dd) (k5 := k5) (k3 := k3) (k2 := k2) (k1 := k1) (k0 := k0) (TL.hasType (by decide +kernel)) (I.ok.hd hc) (by rw [he]; show (false || (backTo cpos (starEach es X.env)).any (·.1)) = false; rw [hpl]; rfl) hni (ld_glob I hg hm ⟨rfl, ?_⟩ hdb)
  have h2 := ha cpos pins s σ H _ I h
  rw [he] at h2 ⊢
  refine Calls.evalArgs_plain (thn h2 fun us s2 ⟨vs, H2, I2, r, hl, hE⟩ => ⟨rfl, ?_⟩)
  refine ⟨by rw [← r.length]; exact hl, I2.bk _ _ hC, hN.keeps I2.bk, TL.keeps I2.bk, fun h' ea mx => ?_⟩
  exact hx pins σ H2 s2 (.ref ea) { s2 with heap := h' } I2 ⟨ea, C, _, H2, rfl, Exc.made I2 mx, hE⟩

/-! ### defs that may raise -/
structure GoodX (P : Program) (w : World) (K : PySem.W.Frag) (mg : Str → Option Value) (base : Heap) (x : Str) (k : Nat) (ps : List Str) (sp : Sp) : Prop where
  ex : ∃ (f : Addr) (fd : FuncData), mg x = some (.ref f) ∧ PySem.W.keepIn K (.ref f) = true ∧ Binds K fd ps [] ∧ FnOk P w K mg base (CX1 P w) k f fd ps sp
theorem Code.goodX {P : Program} {w : World} {K : PySem.W.Frag} {mg : Str → Option Value} {base : Heap} {x : Str} {st : Stmt} {ps N : List Str} {k : Nat} {sp : Sp} (C : Code K mg x st ps) (S : FnScope N ps (defScope st)) (len : ∀ vs H Q E, sp vs H Q E → vs.length = ps.length)
    (hbody : ∀ (X : Cx) (f : Addr) (cdv : Value) (A : Around) (outer : List Env) (s : Shared) (H : Hp) (vs : List V) (Q : VK) (E : XK), X = cxOf (CX1 P w) P w K mg base N x (defScope st) f cdv A outer s H E → PassX X (fun _ => E) → Room k X.A → sp vs H Q E →
      ∃ t, PSs X (defBody st) t ∧ t { nx := fun _ H' => Q .non H', rt := Q } (start N vs) H) : GoodX P w K mg base x (k + 1) ps sp := by
  obtain ⟨f, fd, F, m, b⟩ := C.ex
  refine ⟨f, fd, m, F.kp, b, ?_⟩
  obtain ⟨oc, od, kV, doc, pm, an, cdv, ct, osl, rfl, lk, hcd⟩ := F.ex
  exact fn_of lk hcd S len fun A outer s H vs Q E hr hsp => hbody _ f cdv A outer s H vs Q E rfl pass_def hr hsp
theorem PS.nox {X : Cx} {st : Stmt} {t : TS} (h : PS X.nox st t) : PS X st t := fun pins s σ H D I hw =>
  wpAny_mono (h pins s σ H D (I.wish _) hw) (fun _ _ q => q.unwish) fun _ _ z => False.elim z
end L2

set_option Elab.async false
set_option linter.all false
set_option maxRecDepth 100000
set_option maxHeartbeats 1000000

/-! ### try .. except, and what runs within an except suite -/
namespace L2
open PySem PySem.Spec PyProof.Rows
section
variable {M : Model} {A : Around} {E : Value → Shared → Prop} {h : Heap} {g : Array GenState} {d : Drawn} {t : Nat} {os : OsState} {K : PySem.W.Frag} {e C HC : Addr}
theorem xmatch {Q : Bool → Shared → Prop} (X : K.In h) (TH : XCl K HC) (hs : PySem.W.subIn K (.ref C) (.ref HC) = some true) (x : XAt e C h) (hq : Q true ⟨h, g, d, t, os⟩) : wpAny M A (excMatches (.ref e) (.ref HC)) Q E ⟨h, g, d, t, os⟩ := by
  obtain ⟨oe, vs, he, hc, _⟩ := x
  obtain ⟨dd, cd, sl, ho⟩ := TH.look
  have hH := X _ _ ho
  have f1 := PySem.W.looks_subIn (M := M) X TH.mb
  have f2 := PySem.W.looks_subIn (M := M) X hs
  have f3 := tc_notTuple
  unfold excMatches
  repeat (first | (with_reducible refine wpAny_loadPart_at he ?_; rw [hc]) | with_reducible refine wpAny_loadPart_at hH ?_ | with_reducible refine f1.at ?_ | with_reducible refine f2.at ?_ | wp_step)
  exact hq
end
/-- other pins that every state bears, another wish -/
abbrev Cx.by (X : Cx) (pn : List (Addr × Obj)) (E : Value → Shared → Prop) : Cx := { X with pn := pn, xe := E }
/-- within an except suite -/
abbrev Cx.suite (X : Cx) (pn : List (Addr × Obj)) (ev : Value) : Cx := { X with pn := pn, xe := fun _ _ => False, A := X.A.mark (some ev), calm := false }
section
variable {X : Cx} {pins pins' pn : List (Addr × Obj)} {σ : St} {H : Hp} {s : Shared} {E : Value → Shared → Prop} {ev : Value}
theorem Inv.by (I : Inv X pins σ H s) (E : Value → Shared → Prop) : Inv (X.by (X.pn ++ pins) E) [] σ H s :=
  ⟨⟨I.ok.mod, I.ok.kind, I.ok.glob, I.ok.blt, I.ok.above, I.ok.inj, I.ok.has, I.ok.cab, I.ok.hd, I.ok.frames, I.ok.stk, I.ok.exf, I.ok.bs, I.ok.bsz, I.ok.noex, I.ok.exfs, I.ok.funs, I.ok.frf⟩, I.os, I.bare, I.base, I.loc, I.cell, I.free, I.freeC,
    fun p hp => I.pin p (by simpa using hp), I.hok, I.len⟩
theorem Inv.unby (I : Inv (X.by (X.pn ++ pins) E) pins' σ H s) : Inv X pins σ H s :=
  ⟨⟨I.ok.mod, I.ok.kind, I.ok.glob, I.ok.blt, I.ok.above, I.ok.inj, I.ok.has, I.ok.cab, I.ok.hd, I.ok.frames, I.ok.stk, I.ok.exf, I.ok.bs, I.ok.bsz, I.ok.noex, I.ok.exfs, I.ok.funs, I.ok.frf⟩, I.os, I.bare, I.base, I.loc, I.cell, I.free, I.freeC,
    fun p hp => I.pin p (List.mem_append_left _ hp), I.hok, I.len⟩
theorem Inv.suite (I : Inv (X.by pn E) pins' σ H s) (ev : Value) : Inv (X.suite pn ev) pins' σ H s :=
  ⟨⟨I.ok.mod, I.ok.kind, I.ok.glob, I.ok.blt, I.ok.above, I.ok.inj, I.ok.has, I.ok.cab, (fun z => nomatch z), I.ok.frames, I.ok.stk, I.ok.exf, I.ok.bs, I.ok.bsz, I.ok.noex, I.ok.exfs, I.ok.funs, I.ok.frf⟩, I.os, I.bare, I.base, I.loc, I.cell, I.free, I.freeC,
    I.pin, I.hok, I.len⟩
theorem Inv.unsuite (hd : X.calm = true → X.A.handled = none) (I : Inv (X.suite (X.pn ++ pins) ev) pins' σ H s) : Inv X pins σ H s :=
  ⟨⟨I.ok.mod, I.ok.kind, I.ok.glob, I.ok.blt, I.ok.above, I.ok.inj, I.ok.has, I.ok.cab, hd, I.ok.frames, I.ok.stk, I.ok.exf, I.ok.bs, I.ok.bsz, I.ok.noex, I.ok.exfs, I.ok.funs, I.ok.frf⟩, I.os, I.bare, I.base, I.loc, I.cell, I.free, I.freeC,
    fun p hp => I.pin p (List.mem_append_left _ hp), I.hok, I.len⟩
theorem SP.unby {D : Ends} {f : Flow} (h : SP (X.by (X.pn ++ pins) E) pins' D f s) : SP X pins D f s := by
  cases f with
  | next => obtain ⟨σ', H', I, q⟩ := h; exact ⟨σ', H', I.unby, q⟩
  | brk => obtain ⟨σ', H', I, q⟩ := h; exact ⟨σ', H', I.unby, q⟩
  | cont => obtain ⟨σ', H', I, q⟩ := h; exact ⟨σ', H', I.unby, q⟩
  | ret u => obtain ⟨v, σ', H', I, r, q⟩ := h; exact ⟨v, σ', H', I.unby, r, q⟩
/-- a local name goes -/
theorem goes_ok {M : Model} {A : Around} {E1 : Value → Shared → Prop} {i : Nat} {n : Str} {pos : Pos} {Q : Unit → Shared → Prop} (I : Inv X pins σ H s) (hN : X.N.Nodup) (hi : X.N[i]? = some n) (hl : X.env.scope.names.lookup n = some .local)
    (hq : ∀ s', Inv X pins (σ.set i none) H s' → Q () s') : wpAny M A (do bindName X.env n .none; unbindBehindTheSuite X.env n pos) Q E1 s := by
  obtain ⟨m, hn, hm⟩ := id I.loc
  have hcls : (X.env.scope.kind == .class || (X.env.scope.kind == .module && X.env.locals != X.env.globals)) = false := by rw [I.ok.kind]; rfl
  refine wpAny_nameGoes_keeps hl hn hcls fun h' v nsv sb => ?_
  have hiσ : i < σ.length := by rw [I.len]; exact (List.getElem?_eq_some_iff.mp hi).1
  obtain ⟨oL, _, _, hoL, _⟩ := id hn
  have below : ∀ b o, X.s₀.heap.get? b = some o → b ≠ X.env.locals := fun b o q => Nat.ne_of_lt (Nat.lt_of_lt_of_le (Heap.lt_size q) I.ok.above)
  refine hq _ ⟨I.ok, I.os, I.bare, ⟨fun b o q nn hb hx => ?_, fun b o q nn hb hx => ?_, I.base.free, fun b o q hx => ?_, I.base.tups, I.base.frzs, I.base.tbls⟩, ⟨_, nsv, fun j y w e1 e2 e3 => ?_⟩, fun y c q => ?_, I.free, I.freeC, fun p hp => ?_, fun b ob q => ?_, ?_⟩
  · exact (sb.2 b (below b o q)).trans (I.base.keep b o q nn hb hx)
  · obtain ⟨sl, q1⟩ := I.base.slot b o q nn hb hx
    exact ⟨sl, (sb.2 b (below b o q)).trans q1⟩
  · obtain ⟨o', q1⟩ := I.base.there b o q hx
    exact ⟨o', (sb.2 b (below b o q)).trans q1⟩
  · by_cases hj : j = i
    · subst hj
      rw [List.getElem?_set_self hiσ] at e2
      cases e2
    · rw [List.getElem?_set_ne (Ne.symm hj)] at e2
      obtain ⟨u, r, q⟩ := hm j y w e1 e2 e3
      refine ⟨u, r, ?_⟩
      rcases q with ⟨k, q⟩ | ⟨k, c, q, z⟩
      · have ny : y ≠ n := fun z => hj (nodup_ix hN e1 (z ▸ hi))
        exact .inl ⟨k, by simp [ny, q]⟩
      · exact .inr ⟨k, c, q, z.sameBut sb (I.cne y c q)⟩
  · obtain ⟨u, z⟩ := I.cell y c q
    exact ⟨u, z.sameBut sb (I.cne y c q)⟩
  · obtain ⟨q, nn, ne, nf, dd⟩ := I.pin p hp
    exact ⟨(sb.2 p.1 ne).trans q, nn, ne, nf, dd⟩
  · refine (I.hok b ob q).stay (fun c u hc q1 => (sb.2 c ?_).trans q1) (fun _ z => z) fun _ _ z => z
    rintro rfl
    rcases hc with rfl | hc
    · rw [I.free] at q; cases q
    · rw [I.free] at hc; cases hc
  · rw [List.length_set]; exact I.len
end
/-- the ends of an except suite: its name goes -/
def Ends.drop (D : Ends) (i : Nat) : Ends where
  nx := fun σ H => D.nx (σ.set i none) H
  rt := D.rt
  bk := fun σ H => D.bk (σ.set i none) H
  ct := fun σ H => D.ct (σ.set i none) H
/-- what is wanted of an exception in a try: the suite -/
def exTry (K : PySem.W.Frag) (HC : Addr) (i : Nat) (th : Addr → TS) (D : Ends) : St → XK := fun σ cls _ H => ∃ C, cls = .ref C ∧ XCl K C ∧ PySem.W.subIn K (.ref C) (.ref HC) = some true ∧ ∀ e, H e = none → th e (D.drop i) (σ.set i (some (.ref e))) (upd H e (xo e C))
def tTry (K : PySem.W.Frag) (HC : Addr) (i : Nat) (tb : (St → XK) → TS) (th : Addr → TS) : TS := fun D σ H => tb (exTry K HC i th D) D σ H
theorem ps_try {X : Cx} {HC : Addr} {i : Nat} {n x : Str} {tb : (St → XK) → TS} {th : Addr → TS} {body suite : List Stmt} {b₀ : Stmt} {np hpos pos : Pos} (hN : X.N.Nodup) (hi : X.N[i]? = some n) (hl : X.env.scope.names.lookup n = some .local) (hst : X.stack = X.env :: X.outer)
    (hf : X.env.frame = some X.env.locals) (hg : Gl X x) (hm : X.mg x = some (.ref HC)) (TH : XCl X.K HC)
    (h1 : ∀ pn E1 EX, PassX (X.by pn E1) EX → PSs (X.by pn E1) body (tb EX)) (h2 : ∀ pn (e : Addr), PSs (X.suite pn (.ref e)) (b₀ :: suite) (th e)) (hdb : (x == ("__debug__" : Str)) = false := by decide) :
    PS X (.Try body [.ExceptHandler (some (.Name x np)) (some n) (b₀ :: suite) hpos] [] [] pos) (tTry X.K HC i tb th) := by
  intro pins s σ H D I h
  have hfr : X.A.frames = some (X.env :: X.outer) := I.ok.frames.trans (congrArg some hst)
  let E1 : Value → Shared → Prop := fun ev s'' => ∃ (pins' : List (Addr × Obj)) (σ' : St) (H' : Hp) (s' : Shared), Inv (X.by (X.pn ++ pins) fun _ _ => False) pins' σ' H' s' ∧ CX1 X.prog X.w X.stack H' s' (exTry X.K HC i th D σ') ev s''
  have hp : PassX (X.by (X.pn ++ pins) E1) (exTry X.K HC i th D) := fun pins' σ' H' s' ev s'' I' c => ⟨pins', σ', H', s', ⟨⟨I'.ok.mod, I'.ok.kind, I'.ok.glob, I'.ok.blt, I'.ok.above, I'.ok.inj, I'.ok.has, I'.ok.cab, I'.ok.hd, I'.ok.frames, I'.ok.stk, I'.ok.exf, I'.ok.bs, I'.ok.bsz, I'.ok.noex, I'.ok.exfs, I'.ok.funs, I'.ok.frf⟩, I'.os, I'.bare, I'.base, I'.loc, I'.cell, I'.free, I'.freeC, I'.pin, I'.hok, I'.len⟩, c⟩
  refine wpAny_Try_except (wpAny_mono (h1 _ E1 _ hp [] s σ H D (I.by E1) h) (fun f s1 q => ?_) fun ev s1 q => ?_)
  · cases f with
    | next => exact wpAny_execs_nil q.unby
    | brk => exact q.unby
    | cont => exact q.unby
    | ret u => exact q.unby
  · obtain ⟨pins', σ', H', s', I', e, C, B, H2, rfl, x1, D1, hC, T, hs, hth⟩ := q
    cases hC
    obtain ⟨fl, hfl, f0⟩ := x1.fl
    rw [hst] at f0
    refine fl_note hfl hfr hf f0 fun ha fa ua => ?_
    refine fl_set fa fun hb fb ub => ?_
    have fb' : Fl B X.stack e C (some .none) hb := by rw [hst]; exact fb
    have J := Exc.caught I' x1 fb' (ua.trans ub)
    have JS := J.suite (Value.ref e)
    refine wpAny_handleBy_cons (codeAny_handlers_test (ld_glob JS hg hm ?_ hdb)) (by intro q; cases q)
    refine xmatch JS.kIn TH hs fb.tr.at (codeAny_handlers_suite_as ?_)
    refine fl_set fb fun hc fc uc => ?_
    have fc' : Fl B X.stack e C (some .none) hc := by rw [hst]; exact fc
    have J2 := (Exc.caught I' x1 fc' ((ua.trans ub).trans uc)).suite (Value.ref e)
    refine store_ok (X := X.suite (X.pn ++ pins) (.ref e)) (v := .ref e) (i := i) J2 hN hi (.inl hl) rfl (fun s4 J4 => ?_) (.inr hl)
    refine wpAny_mono (h2 _ _ pins' s4 _ _ (D.drop i) J4 (hth e x1.free)) (fun f s5 q => ?_) fun _ _ z => z.elim
    cases f with
    | next =>
      obtain ⟨σ5, H5, I5, q5⟩ := q
      exact goes_ok (I5.unsuite I.ok.hd) hN hi hl fun s6 I6 => ⟨_, _, I6, q5⟩
    | brk =>
      obtain ⟨σ5, H5, I5, q5⟩ := q
      exact goes_ok (I5.unsuite I.ok.hd) hN hi hl fun s6 I6 => ⟨_, _, I6, q5⟩
    | cont =>
      obtain ⟨σ5, H5, I5, q5⟩ := q
      exact goes_ok (I5.unsuite I.ok.hd) hN hi hl fun s6 I6 => ⟨_, _, I6, q5⟩
    | ret u =>
      obtain ⟨v5, σ5, H5, I5, r5, q5⟩ := q
      exact goes_ok (I5.unsuite I.ok.hd) hN hi hl fun s6 I6 => ⟨v5, _, _, I6, r5, q5⟩

/-! ### a def that runs within an except suite -/
structure RoomH (k : Nat) (A : Around) : Prop where
  dp : A.depth + 3 * k + 5 < recursionLimit
  un : A.units + 16 * k + 200 < cLine
theorem Room.inH {k : Nat} {A : Around} (r : Room k A) (h : Option Value) : RoomH k (A.mark h) := ⟨r.dp, r.un⟩
theorem RoomH.deeper {k : Nat} {A : Around} (r : RoomH (k + 1) A) (env : Env) : RoomH k (A.deeper env) :=
  ⟨by have := r.dp; show A.depth + 1 + 3 * k + 5 < _; omega, by have := r.un; show A.units + 3 + 16 * k + 200 < _; omega⟩
theorem RoomH.mono {j k : Nat} {A : Around} (r : RoomH k A) (h : j ≤ k) : RoomH j A := ⟨by have := r.dp; omega, by have := r.un; omega⟩
theorem RoomH.units {k : Nat} {A : Around} (r : RoomH k A) : A.units + 64 < cLine := by have := r.un; omega
structure GoodH (P : Program) (w : World) (K : PySem.W.Frag) (mg : Str → Option Value) (base : Heap) (x : Str) (k : Nat) (ps : List Str) (sp : Sp) : Prop where
  ex : ∃ (f : Addr) (fd : FuncData), mg x = some (.ref f) ∧ PySem.W.keepIn K (.ref f) = true ∧ Binds K fd ps [] ∧ (∀ vs H Q E, sp vs H Q E → vs.length = ps.length) ∧
    ∀ (A : Around) (outer : List Env) (s : Shared) (H : Hp) (args : Args) (us : List Value) (vs : List V) (Q : VK), RoomH k A → Env0 P w K mg base A outer s H → BindsTo s fd args (ps.zip us) → Vals vs us → sp vs H Q E0 →
      codeAny (model P w) A (.call (.ref f) args) (CR CX0 outer P w H s Q E0) s
/-- a def's body, also within an except suite -/
abbrev cxH (P : Program) (w : World) (K : PySem.W.Frag) (mg : Str → Option Value) (base : Heap) (N : List Str) (qual : Str) (scope : Scope) (f : Addr) (cd : Value) (A : Around) (outer : List Env) (s : Shared) (H : Hp) : Cx :=
  { cxOf CX0 P w K mg base N qual scope f cd A outer s H E0 with calm := false, xe := fun _ _ => False }
theorem Code.goodH {P : Program} {w : World} {K : PySem.W.Frag} {mg : Str → Option Value} {base : Heap} {x : Str} {st : Stmt} {ps N : List Str} {k : Nat} {sp : Sp} (C : Code K mg x st ps) (S : FnScope N ps (defScope st)) (len : ∀ vs H Q E, sp vs H Q E → vs.length = ps.length)
    (hbody : ∀ (f : Addr) (cdv : Value) (A : Around) (outer : List Env) (s : Shared) (H : Hp) (vs : List V) (Q : VK), RoomH k (A.deeper (envOfC x (defScope st) s.heap.objs.size f cdv)) → sp vs H Q E0 →
      ∃ t, PSs (cxH P w K mg base N x (defScope st) f cdv A outer s H) (defBody st) t ∧ t { nx := fun _ H' => Q .non H', rt := Q } (start N vs) H) : GoodH P w K mg base x (k + 1) ps sp := by
  obtain ⟨f, fd, F, m, b⟩ := C.ex
  refine ⟨f, fd, m, F.kp, b, len, fun A outer s H args us vs Q hr e0 hb r hsp => ?_⟩
  obtain ⟨oc, od, kV, doc, pm, an, cdv, ct, osl, rfl, lk, hcd⟩ := F.ex
  have hlen := len _ _ _ _ hsp
  have KX : K.In s.heap := e0.mod.kin.keeps fun b o q => (e0.bs b o q).1
  have lim : s.heap.NoLimit := e0.mod.nolimit.keeps fun b o q => (e0.bs b o q).1
  have hkind : ∀ y ∈ ps.zip us, (defScope st).names.lookup y.1 = some .local ∨ ((defScope st).names.lookup y.1 = some .cell ∧ ((cellsFrom (s.heap.objs.size + 1) (defScope st).names []).lookup y.1).isSome = true) := fun ⟨n, v⟩ hy => by
    rcases S.par n (List.of_mem_zip hy).1 with q | q
    · exact .inl q
    · exact .inr ⟨q, PySem.W.cellsFrom_some _ _ _ (.inl q)⟩
  refine codeAny_call_function (by have := hr.dp; omega) (KX _ _ lk) rfl S.co S.gen rfl (PySem.W.codeRec_of KX hcd) (hb _ _ _ _ ?_)
  refine wpAny_newFunctionEnv_cells S.kind hkind fun env he s1 ic => ?_
  subst he
  refine ⟨lim.keeps ic.toInCall.keep, codeAny_func ?_⟩
  obtain ⟨t, ht, hq⟩ := hbody f cdv A outer s H vs Q (hr.deeper _) hsp
  have e1 : Env0 P w K mg base { A with handled := none } outer s H := ⟨e0.frames, e0.mod, e0.bs, e0.bsz, e0.funs, e0.frf, e0.hok, e0.bare⟩
  have I0 : Inv (cxOf CX0 P w K mg base N x (defScope st) f cdv { A with handled := none } outer s H E0) [] (start N vs) H s1 := inv_start S rfl e1 hlen r ic
  have I : Inv (cxH P w K mg base N x (defScope st) f cdv A outer s H) [] (start N vs) H s1 :=
    ⟨⟨I0.ok.mod, I0.ok.kind, I0.ok.glob, I0.ok.blt, I0.ok.above, I0.ok.inj, I0.ok.has, I0.ok.cab, (fun z => nomatch z), Around.frames_deeper e0.frames, I0.ok.stk, I0.ok.exf, I0.ok.bs, I0.ok.bsz, I0.ok.noex, I0.ok.exfs, I0.ok.funs, I0.ok.frf⟩, I0.os, I0.bare, I0.base, I0.loc, I0.cell, I0.free, I0.freeC,
      I0.pin, I0.hok, I0.len⟩
  refine wpAny_mono (ht [] s1 (start N vs) H _ I hq) (fun fl s' hs => ?_) fun e s' z => z.elim
  have fin : ∀ {σ' : St} {H' : Hp} {v : V} {u : Value}, Inv (cxH P w K mg base N x (defScope st) f cdv A outer s H) [] σ' H' s' → RelV v u → Q v H' → CE outer P w H s Q u s' := fun {σ' H' v u} J rv q => ⟨v, H', J.os, J.bare, J.base, J.hok, rv, q⟩
  cases fl with
  | ret u =>
    obtain ⟨v, σ', H', J, rv, q⟩ := hs
    exact fin J rv q
  | next =>
    obtain ⟨σ', H', J, q⟩ := hs
    exact fin (v := V.non) (u := Value.none) J rfl q
  | brk => obtain ⟨_, _, _, q⟩ := hs; exact False.elim q
  | cont => obtain ⟨_, _, _, q⟩ := hs; exact False.elim q
theorem pcallH {X : Cx} {k k' : Nat} {ps : List Str} {sp : Sp} {x : Str} {p pos : Pos} {e : Expr} {es : List Expr} {t : TA} (g : GoodH X.prog X.w X.K X.mg X.base x k ps sp) (hr : RoomH k' X.A) (ha : PA X (e :: es) t) (hk : k ≤ k' := by decide)
    (hg : Gl X x := by rfl) (hdb : (x == ("__debug__" : Str)) = false := by decide) (he : starEach (e :: es) X.env = (false, eval e X.env) :: starEach es X.env := by rfl) (hpl : (backTo pos (starEach es X.env)).any (·.1) = false := by rfl) :
    PE X (.Call (.Name x p) (e :: es) [] pos) (tCall sp [] E0 t) := by
  intro pins s σ H Q I h
  obtain ⟨f, fd, m, kp, b, len, run⟩ := g.ex
  refine wpAny_Call_Name_kw (ld_glob I hg m ?_ hdb)
  refine PySem.W.callWith_K (h₀ := X.base) I.ok.mod.kin kp (thn (ha pos pins s σ H _ I h) fun us s1 ⟨vs, H1, I1, r, q⟩ => ⟨I1.kIn, ?_⟩) he hpl
  have q : sp (vs ++ []) H1 Q E0 := q
  rw [List.append_nil] at q
  have hl : us.length = ps.length := by rw [← r.length]; exact len _ _ _ _ q
  have bd := b s1 us I1.kIn (by rw [List.append_nil]; exact hl)
  rw [List.append_nil] at bd
  refine wpAny_call (codeAny_mono (run X.A X.stack s1 H1 ⟨us, []⟩ us vs Q (hr.mono hk) I1.env0 bd r q) fun rr s' hq => ?_)
  cases rr with
  | error ev => exact False.elim hq
  | ok fl =>
    cases fl with
    | ret u => exact I1.after hq
    | next => exact False.elim hq
    | brk => exact False.elim hq
    | cont => exact False.elim hq
/-- isinstance(e, D), e an exception that is tracked, D an own class -/
@[irreducible] def rIsx (K : PySem.W.Frag) : List V → Hp → VK → Prop := fun xs H Q => ∃ a D C b, xs = [.ref a, .ref D] ∧ H a = some (xo a C) ∧ XCl K C ∧ PySem.W.kitOne K (.ref C) (.ref D) = some b ∧ Q (.bl b) H
theorem call_isx {X : Cx} : CallR X (.builtin "isinstance") (rIsx X.K) := by
  intro pins s σ H xs us Q I r h
  unfold rIsx at h
  obtain ⟨a, D, C, b, rfl, ea, T, k, q⟩ := h
  obtain ⟨u, w', rfl, rx, rt⟩ := vals2 r
  cases rx
  cases rt
  exact isinst_exc I T ea k fun tk => ⟨.bl b, H, I.tok tk, rfl, q⟩
/-- .., a built-in class -/
@[irreducible] def rIsxT (K : PySem.W.Frag) : List V → Hp → VK → Prop := fun xs H Q => ∃ a T C b, xs = [.ref a, .ty T] ∧ H a = some (xo a C) ∧ XCl K C ∧ PySem.W.kitOne K (.ref C) (.type T) = some b ∧ Q (.bl b) H
theorem call_isxT {X : Cx} : CallR X (.builtin "isinstance") (rIsxT X.K) := by
  intro pins s σ H xs us Q I r h
  unfold rIsxT at h
  obtain ⟨a, T, C, b, rfl, ea, TC, k, q⟩ := h
  obtain ⟨u, w', rfl, rx, rt⟩ := vals2 r
  cases rx
  cases rt
  exact isinst_exc I TC ea k fun tk => ⟨.bl b, H, I.tok tk, rfl, q⟩
end L2

set_option Elab.async false
set_option linter.all false
set_option maxRecDepth 100000
set_option maxHeartbeats 1000000

/-! ### count and index of truths; max within an except suite -/
namespace L2
open PySem PySem.Spec PyProof.Rows PySem.SeqAt
theorem st_const {c : Const} {k : Nat} {p : Pos} {es : List Expr} {env : Env} : starEach (.Constant c k p :: es) env = (false, eval (.Constant c k p) env) :: starEach es env := by rfl
def isT : Value → Bool
  | .bool b => b
  | _ => false
theorem boolsT : ∀ {bs : List Bool} {us : List Value}, Vals (bs.map V.bl) us → us = bs.map Value.bool
  | [], _, .nil => rfl
  | b :: bs, _, .cons r t => by
    cases (show _ = Value.bool b from r)
    rw [boolsT t]
    rfl
section
variable {X : Cx}
@[irreducible] def rCountT : V → List V → Hp → VK → Prop := fun x xs H Q => ∃ (l : Addr) (bs : List Bool), x = .ref l ∧ xs = [.bl true] ∧ H l = some (.lst (bs.map V.bl)) ∧ Q (.int ((bs.countP id : Nat) : Int)) H
theorem eqT {A : Around} {s : Shared} {bs : List Bool} : ∀ y, y ∈ (bs.map Value.bool).toArray → EqAt A s y (.bool true) (isT y) := fun y hy => by
  have hy' : y ∈ bs.map Value.bool := by simpa using hy
  obtain ⟨b, _, rfl⟩ := List.mem_map.mp hy'
  have := EqAt.bool_bool (A := A) (s := s) b true
  rw [show (b == true) = isT (.bool b) by cases b <;> rfl] at this
  exact this
theorem countT_mk {l : Addr} {bs : List Bool} {H : Hp} {Q : VK} (h : H l = some (.lst (bs.map V.bl))) (q : Q (.int ((bs.countP id : Nat) : Int)) H) : rCountT (.ref l) [.bl true] H Q := by
  unfold rCountT
  exact ⟨l, bs, rfl, rfl, h, q⟩
theorem mt_countT : MtM X "list.count" rCountT := by
  intro pins s σ H x vs v us Q I rx rv h
  unfold rCountT at h
  obtain ⟨l, bs, rfl, rfl, hH, q⟩ := h
  cases rx
  obtain ⟨u, rfl, ru⟩ := rv.one
  cases (show _ = Value.bool true from ru)
  obtain ⟨z, its, n, r, hl, e⟩ := I.lstM hH
  have hi := boolsT r
  subst hi
  refine call_meets F.slot_list_count ⟨_, e, rfl⟩ F.entry_list_count (F.args_list_count_2 _ _) (list_countAt l (bs.map Value.bool).toArray n none #[] (.bool true) isT) ⟨e, eqT, ?_⟩
  refine ⟨.int ((bs.countP id : Nat) : Int), H, I.tok _, ⟨s.toks, ?_⟩, q⟩
  have hc : (bs.map Value.bool).countP isT = bs.countP id := by
    rw [List.countP_map]
    congr 1
  simp only [hc]
/-- the place of the first truth -/
@[irreducible] def rIndexT : V → List V → Hp → VK → Prop := fun x xs H Q => ∃ (l : Addr) (bs : List Bool) (j : Nat), x = .ref l ∧ xs = [.bl true] ∧ H l = some (.lst (bs.map V.bl)) ∧ j ≤ 1000 ∧ bs[j]? = some true ∧ (∀ m, m < j → bs[m]? = some false) ∧ Q (.int (j : Int)) H
theorem indexT_mk {l : Addr} {bs : List Bool} {j : Nat} {H : Hp} {Q : VK} (h : H l = some (.lst (bs.map V.bl))) (h1 : j ≤ 1000) (h2 : bs[j]? = some true) (h3 : ∀ m, m < j → bs[m]? = some false) (q : Q (.int (j : Int)) H) : rIndexT (.ref l) [.bl true] H Q := by
  unfold rIndexT
  exact ⟨l, bs, j, rfl, rfl, h, h1, h2, h3, q⟩
theorem mt_indexT : MtM X "list.index" rIndexT := by
  intro pins s σ H x vs v us Q I rx rv h
  unfold rIndexT at h
  obtain ⟨l, bs, j, rfl, rfl, hH, hj1, hj, hno, q⟩ := h
  cases rx
  obtain ⟨u, rfl, ru⟩ := rv.one
  cases (show _ = Value.bool true from ru)
  obtain ⟨z, its, n, r, hl, e⟩ := I.lstM hH
  have hi := boolsT r
  subst hi
  have hjl : j < bs.length := (List.getElem?_eq_some_iff.mp hj).1
  have hj2 : j < (bs.map Value.bool).toArray.size := by simpa using hjl
  have hit : isT ((bs.map Value.bool).toArray[j]'hj2) = true := by
    have h1 : bs[j] = true := (List.getElem?_eq_some_iff.mp hj).2
    simp [h1, isT]
  have hn : ∀ m (hm : m < (bs.map Value.bool).toArray.size), m < j → isT (bs.map Value.bool).toArray[m] = false := fun m hm hmj => by
    have h1 := (List.getElem?_eq_some_iff.mp (hno m hmj)).2
    simp [h1, isT]
  refine call_meets F.slot_list_index ⟨_, e, rfl⟩ F.entry_list_index (F.args_list_index_2 _ _) (list_indexAt l (bs.map Value.bool).toArray n none #[] (.bool true) isT j hj2 (Int.lt_of_le_of_lt (b := 1000) (by omega) (by decide +kernel)) hit hn) ⟨e, eqT, ?_⟩
  exact ⟨.int (j : Int), H, I.tok _, ⟨_, rfl⟩, q⟩
end

theorem isx_mk {K : PySem.W.Frag} {a D C : Addr} {b : Bool} {H : Hp} {Q : VK} (h : H a = some (xo a C)) (T : XCl K C) (k : PySem.W.kitOne K (.ref C) (.ref D) = some b) (q : Q (.bl b) H) : rIsx K [.ref a, .ref D] H Q := by
  unfold rIsx
  exact ⟨a, D, C, b, rfl, h, T, k, q⟩
theorem isxT_mk {K : PySem.W.Frag} {a C : Addr} {T : String} {b : Bool} {H : Hp} {Q : VK} (h : H a = some (xo a C)) (TC : XCl K C) (k : PySem.W.kitOne K (.ref C) (.type T) = some b) (q : Q (.bl b) H) : rIsxT K [.ref a, .ty T] H Q := by
  unfold rIsxT
  exact ⟨a, T, C, b, rfl, h, TC, k, q⟩
section
variable {prog : Program} {w : World} {A : Around} {E : Value → Shared → Prop} {s : Shared}
end
end L2

set_option Elab.async false
set_option linter.all false
set_option maxRecDepth 100000
set_option maxHeartbeats 1000000

/-! ### loops and comprehensions over a dict and its items: the dict is frozen while it is walked, thawed behind -/
namespace L2
open PySem PySem.Spec PyProof.Rows
theorem keyRel {k : Key} {u : Value} (h : keyIs k u = true) : RelV (kV k) u := by
  rcases keyIs_shape h with ⟨i, t, rfl, rfl⟩ | ⟨x, t, rfl, rfl⟩
  · exact ⟨t, rfl⟩
  · exact ⟨t, rfl⟩
section
variable {X : Cx} {pins : List (Addr × Obj)} {σ : St} {H : Hp} {s : Shared} {a : Addr} {kvs : List (Key × V)} {o : Obj}
theorem Inv.freeze (I : Inv X pins σ H s) (e : H a = some (.dK kvs)) : ∃ o, s.heap.get? a = some o ∧ Inv X pins σ (upd H a (.frz o (.dK kvs))) s := by
  obtain ⟨o, ho⟩ := (I.hok a _ e).there
  have n0 : ∀ b, H b = none → b ≠ a := fun b n z => by rw [z, e] at n; cases n
  have n1 : ∀ b u, H b = some u → u ≠ .dK kvs → b ≠ a := fun b u q nu z => by rw [z, e] at q; exact nu (Option.some.inj q).symm
  refine ⟨o, ho, I.step (h' := s.heap) (g' := s.gens) (d' := s.drawn) (t' := s.toks) (ch := []) (fun b hb => absurd hb (by simp)) (fun b u _ _ _ q _ => q) (fun b u _ _ _ q _ => ⟨u.slots, q⟩) (fun b u _ q n => by rw [upd_ne (n0 b n)]; exact n)
    (fun b u _ q => ⟨u, q⟩) (fun b xs q => by rw [upd_ne (n1 b _ q (by intro z; cases z))]; exact q) (fun b u v q => by rw [upd_ne (n1 b _ q (by intro z; cases z))]; exact q)
    (fun b ps q => ⟨#[], by rw [upd_ne (n1 b _ q (by intro z; cases z)), q]; simp⟩) (fun m hm => hm) (fun b u q => ?_) I.bare⟩
  have st : ∀ b u, ObjOk X.prog X.w H s.heap b u → ObjOk X.prog X.w (upd H a (.frz o (.dK kvs))) s.heap b u := fun b u x =>
    x.stay (fun _ _ _ q => q) (fun c q => by rw [upd_ne (n1 c _ q (by intro z; cases z))]; exact q) fun c xs q => by rw [upd_ne (n1 c _ q (by intro z; cases z))]; exact q
  by_cases hb : b = a
  · subst hb
    rw [upd_same] at q
    cases q
    exact ⟨ho, st _ _ (I.hok _ _ e)⟩
  · rw [upd_ne hb] at q
    exact st _ _ (I.hok b u q)
theorem Inv.thaw (I : Inv X pins σ H s) (e : H a = some (.frz o (.dK kvs))) (h0 : ∀ o' u, X.H₀ a ≠ some (.frz o' u)) : Inv X pins σ (upd H a (.dK kvs)) s := by
  have n0 : ∀ b, H b = none → b ≠ a := fun b n z => by rw [z, e] at n; cases n
  have n1 : ∀ b u, H b = some u → u ≠ .frz o (.dK kvs) → b ≠ a := fun b u q nu z => by rw [z, e] at q; exact nu (Option.some.inj q).symm
  refine ⟨I.ok, I.os, I.bare, ⟨I.base.keep, I.base.slot, fun b u q n hx => ?_, I.base.there, fun b xs q => ?_, fun b u v q => ?_, fun b ps q => ?_⟩, I.loc, I.cell, ?_, fun x c q => ?_, fun p hp => ?_, fun b u q => ?_, I.len⟩
  · rw [upd_ne (n0 b (I.base.free b u q n hx))]
    exact I.base.free b u q n hx
  · have z := I.base.tups b xs q
    rw [upd_ne (n1 b _ z (by intro w; cases w))]
    exact z
  · have z := I.base.frzs b u v q
    have nb : b ≠ a := fun w => h0 u v (by rw [← w]; exact q)
    rw [upd_ne nb]
    exact z
  · obtain ⟨m, z⟩ := I.base.tbls b ps q
    exact ⟨m, by rw [upd_ne (n1 b _ z (by intro w; cases w))]; exact z⟩
  · rw [upd_ne (n0 _ I.free)]; exact I.free
  · rw [upd_ne (n0 _ (I.freeC x c q))]; exact I.freeC x c q
  · obtain ⟨p1, p2, p3⟩ := I.pin p hp
    exact ⟨p1, by rw [upd_ne (n0 _ p2)]; exact p2, p3⟩
  · have st : ∀ b u, ObjOk X.prog X.w H s.heap b u → ObjOk X.prog X.w (upd H a (.dK kvs)) s.heap b u := fun b u x =>
      x.stay (fun _ _ _ q => q) (fun c q => by rw [upd_ne (n1 c _ q (by intro z; cases z))]; exact q) fun c xs q => by rw [upd_ne (n1 c _ q (by intro z; cases z))]; exact q
    by_cases hb : b = a
    · subst hb
      rw [upd_same] at q
      cases q
      exact st _ _ (show ObjOk X.prog X.w H s.heap b (.frz o (.dK kvs)) from I.hok _ _ e).2
    · rw [upd_ne hb] at q
      exact st _ _ (I.hok b u q)
end
/-- a frozen dict is thawed; H0: the heap at the def's entry, where it was not frozen -/
def Thaw (H0 H : Hp) (P : Hp → Prop) : Prop := ∃ a o kvs, H a = some (.frz o (.dK kvs)) ∧ (∀ o' u, H0 a ≠ some (.frz o' u)) ∧ P (upd H a (.dK kvs))
def Ends.thaw (D : Ends) (H0 : Hp) : Ends where
  nx := fun σ H => Thaw H0 H (D.nx σ)
  rt := fun v H => Thaw H0 H (D.rt v)
  bk := fun σ H => Thaw H0 H (D.bk σ)
  ct := fun σ H => Thaw H0 H (D.ct σ)
def tThaw (H0 : Hp) (t : TS) : TS := fun D σ H => t (D.thaw H0) σ H
def tThawE (H0 : Hp) (t : TE) : TE := fun σ H Q => t σ H fun v H1 => Thaw H0 H1 (Q v)
theorem ps_thaw {X : Cx} {st : Stmt} {t : TS} {H0 : Hp} (h0 : X.H₀ = H0) (h : PS X st t) : PS X st (tThaw H0 t) := by
  subst h0
  intro pins s σ H D I q
  refine thn (h pins s σ H _ I q) fun f s1 z => ?_
  cases f with
  | next => obtain ⟨σ', H', I', a, o, kvs, e, n, q'⟩ := z; exact ⟨σ', _, I'.thaw e n, q'⟩
  | brk => obtain ⟨σ', H', I', a, o, kvs, e, n, q'⟩ := z; exact ⟨σ', _, I'.thaw e n, q'⟩
  | cont => obtain ⟨σ', H', I', a, o, kvs, e, n, q'⟩ := z; exact ⟨σ', _, I'.thaw e n, q'⟩
  | ret u => obtain ⟨v, σ', H', I', r, a, o, kvs, e, n, q'⟩ := z; exact ⟨v, σ', _, I'.thaw e n, r, q'⟩
theorem pe_thaw {X : Cx} {x : Expr} {t : TE} {H0 : Hp} (h0 : X.H₀ = H0) (h : PE X x t) : PE X x (tThawE H0 t) := by
  subst h0
  intro pins s σ H Q I q
  refine thn (h pins s σ H _ I q) fun u s1 ⟨v, H', I', r, a, o, kvs, e, n, q'⟩ => ⟨v, _, I'.thaw e n, r, q'⟩

/-! #### the keys -/
def Itdk (a : Addr) (o : Obj) (kvs : List (Key × V)) : It :=
  ⟨fun i H => i < kvs.length ∧ H a = some (.frz o (.dK kvs)), fun i H x H' => H' = H ∧ ∃ kv, kvs[i]? = some kv ∧ x = kV kv.1, fun i H => i = kvs.length ∧ H a = some (.frz o (.dK kvs))⟩
/-- what a frozen dict is -/
theorem frz_dict {X : Cx} {pins : List (Addr × Obj)} {σ : St} {H : Hp} {s : Shared} {a : Addr} {kvs : List (Key × V)} {o : Obj} {es : Array DictEntry} {ep : Nat} (I : Inv X pins σ H s) (e : H a = some (.frz o (.dK kvs))) (ho : o.data = .dict es ep) :
    (a == sysModules) = false ∧ ∃ vs, KV kvs vs ∧ s.heap.DictAt (mixKind X.prog X.w) a vs ep := by
  obtain ⟨h1, _, h2, vs, h3, ob, es', ep', h4, h5, h6, h7⟩ := (show ObjOk X.prog X.w H s.heap a (.frz o (.dK kvs)) from I.hok a _ e)
  have z := h1.symm.trans h4
  cases z
  rw [ho] at h6
  cases h6
  exact ⟨h2, vs, h3, o, es, h1, h5, ho, h7⟩
theorem kv_at {kvs : List (Key × V)} {vs : List (Key × Value)} {i : Nat} {kv : Key × V} (r : KV kvs vs) (h : kvs[i]? = some kv) : ∃ x, vs[i]? = some (kv.1, x) ∧ RelV kv.2 x := by
  have go : ∀ {l : List (Key × V)} {m : List (Key × Value)} {i : Nat} {p : Key × V}, Paired (fun (p : Key × V) (q : Key × Value) => p.1 = q.1 ∧ RelV p.2 q.2) l m → l[i]? = some p → ∃ x, m[i]? = some (p.1, x) ∧ RelV p.2 x := by
    intro l m i p r
    induction r generalizing i with
    | nil => intro h; cases h
    | cons a t ih =>
      intro h
      cases i with
      | zero => cases h; exact ⟨_, by rw [a.1]; rfl, a.2⟩
      | succ i => exact ih h
  exact go r h
theorem turn_dk {P : Program} {w : World} {K : PySem.W.Frag} {tg : Expr} (a it : Addr) (o : Obj) (kvs : List (Key × V)) {es : Array DictEntry} {ep : Nat} (ho : o.data = .dict es ep) : Turn P w K tg (Itdk a o kvs) [it] it (fun i h => h.IsKeyIter it a i kvs.length ep) where
  mem := by simp
  obj := fun i h st b hb => by
    have e : b = it := by simpa using hb
    subst e
    obtain ⟨oi, q, c, d⟩ := st
    exact ⟨oi, q, fun v z => by rw [d] at z; cases z⟩
  keep := fun i h h' st k => st.at fun ob q => k it (by simp) ob q
  item := by
    intro X hP hw hK hc i pins s σ H E I hf st hg
    subst hP hw hK
    obtain ⟨hi, hfz⟩ := hg
    obtain ⟨_, vs, rel, da⟩ := frz_dict I hfz ho
    have hlen : kvs.length = vs.length := KV.length rel
    obtain ⟨kv, hkv⟩ : ∃ kv, kvs[i]? = some kv := ⟨kvs[i], by simp [hi]⟩
    obtain ⟨x, hx, rx⟩ := kv_at rel hkv
    rw [hlen] at st
    refine wpAny_pyNext_dict_item st da hx fun key h' hkey st' sb => ?_
    have I1 : Inv X pins σ H { s with heap := h' } := I.turnedL (t' := s.toks) (fun b ob hb q => (sb.2 b (fun z => hb (by simp [z]))).trans q) hf
    obtain ⟨oi, q, c, d⟩ := id st'
    rw [← hlen] at st'
    exact ⟨key, rfl, go_of (s := { s with heap := h' }) q c d (by decide) ⟨kV kv.1, H, I1, keyRel hkey, ⟨rfl, kv, hkv, rfl⟩, st', fun b hb => (hf b hb).1⟩⟩
  done := by
    intro X hP hw hK hc i pins s σ H E I hf st hg
    subst hP hw hK
    obtain ⟨hi, hfz⟩ := hg
    obtain ⟨_, vs, rel, da⟩ := frz_dict I hfz ho
    have hlen : kvs.length = vs.length := KV.length rel
    rw [hlen] at st
    exact wpAny_pyNext_dict_end (I.ok.hd hc) st da (by simp; omega) fun h' ext => ⟨rfl, I.turnedL (t' := s.toks) (fun b ob hb q => ext b ob (fun z => hb (by simp [z])) q) hf⟩
  self := fun A i s Q E st q => wpAny_pyIter_keyiter st q
/-- for x in d -/
def iDict (td : TE) : TI := fun σ H R => td σ H fun x H1 => ∃ a kvs, x = .ref a ∧ H1 a = some (.dK kvs) ∧ ∀ o, R (Itdk a o kvs) (upd H1 a (.frz o (.dK kvs)))
theorem pi_dict {X : Cx} {tg d : Expr} {td : TE} (hd : PE X d td) : PI X tg d (iDict td) := by
  intro pins s σ H R I h
  refine thn (hd pins s σ H _ I h) fun v s1 ⟨x, H1, I1, r1, a, kvs, ex, e, q⟩ => ?_
  subst ex
  cases r1
  obtain ⟨o, ho, I2⟩ := I1.freeze e
  obtain ⟨_, hsm, vs, rel, ob, es, ep, h4, h5, h6, h7⟩ := (show ObjOk X.prog X.w H1 s1.heap a (.dK kvs) from I1.hok a _ e)
  rw [ho] at h4
  cases h4
  have da : s1.heap.DictAt (mixKind X.prog X.w) a vs ep := ⟨o, es, ho, h5, h6, h7⟩
  refine wpAny_pyIter_dict hsm da ?_
  refine ⟨s1.heap.objs.size, [s1.heap.objs.size], _, _, _, rfl, I2.kept (t' := s1.toks) fun b u q => Heap.get?_push_of_some _ q, turn_dk a _ o kvs h6, ?_, fun b hb => ?_, q o⟩
  · rw [KV.length rel]
    exact ⟨_, Heap.get?_push_size _ rfl, rfl, rfl⟩
  · have z : b = s1.heap.objs.size := by simpa using hb
    subst z
    exact I2.fpOk (Nat.le_refl _) (I2.hok.fresh (Nat.le_refl _))

/-! #### the items -/
def Itdi (a : Addr) (o : Obj) (kvs : List (Key × V)) : It :=
  ⟨fun i H => i < kvs.length ∧ H a = some (.frz o (.dK kvs)), fun i H x H' => ∃ p kv, H p = none ∧ kvs[i]? = some kv ∧ x = .ref p ∧ H' = upd H p (.tup [kV kv.1, kv.2]), fun i H => i = kvs.length ∧ H a = some (.frz o (.dK kvs))⟩
theorem entry_itemiter_iter : entryFor table "dict_itemiterator.__iter__" = some Builtin.«dict_keyiterator.__iter__» := entryFor_alias (id' := "dict_keyiterator.__iter__") (by kernel_rfl) rfl (by decide +kernel) (by kernel_rfl)
theorem iter_itemiter {prog : Program} {w : World} {A : Around} {E : Value → Shared → Prop} {s : Shared} {it d : Addr} {i n ep : Nat} {ok ov : Value} {Q : Value → Shared → Prop} (hit : IsItemIter s.heap it d i n ep ok ov) (h : Q (.ref it) s) :
    wpAny (model prog w) A (pyIter (.ref it)) Q E s := by
  have hT : s.TypeIs (.ref it) "dict_itemiterator" := ⟨_, hit, rfl⟩
  refine wpAny_pyIter_slot hT F.slot_dict_itemiterator_iter (wpAny_call_entry F.slot_dict_itemiterator_iter hT entry_itemiter_iter ?_ (F.args_dict_itemiterator_iter_1 _))
  exact wpAny_pure ⟨_, rfl, "dict_itemiterator", _, hT, F.slot_dict_itemiterator_next.lookup, h⟩
theorem turn_di {P : Program} {w : World} {K : PySem.W.Frag} {elts : List Expr} {k : Nat} {pos : Pos} (a it : Addr) (o : Obj) (kvs : List (Key × V)) {es : Array DictEntry} {ep : Nat} (ho : o.data = .dict es ep) :
    Turn P w K (.Tuple elts k pos) (Itdi a o kvs) [it] it (fun i h => ∃ ok ov, IsItemIter h it a i kvs.length ep ok ov) where
  mem := by simp
  obj := fun i h st b hb => by
    have e : b = it := by simpa using hb
    subst e
    obtain ⟨ok, ov, q⟩ := st
    exact ⟨_, q, fun v z => by cases (show Data.fields _ = Data.cell v from z)⟩
  keep := fun i h h' st k => by
    obtain ⟨ok, ov, q⟩ := st
    exact ⟨ok, ov, k it (by simp) _ q⟩
  item := by
    intro X hP hw hK hc i pins s σ H E I hf st hg
    subst hP hw hK
    obtain ⟨hi, hfz⟩ := hg
    obtain ⟨ok, ov, st⟩ := st
    obtain ⟨_, vs, rel, da⟩ := frz_dict I hfz ho
    have hlen : kvs.length = vs.length := KV.length rel
    obtain ⟨kv, hkv⟩ : ∃ kv, kvs[i]? = some kv := ⟨kvs[i], by simp [hi]⟩
    obtain ⟨x, hx, rx⟩ := kv_at rel hkv
    rw [hlen] at st
    refine wpAny_pyNext_items_item st da hx fun key h' hkey hout htup hsz hkeep => ?_
    refine ⟨_, rfl, wpAny_letOwnedTupleGo_items hout fun h2 he2 hs2 => ?_⟩
    have nit : s.heap.objs.size ≠ it := Nat.ne_of_gt (Heap.lt_size st)
    have new : ObjOk X.prog X.w (upd H s.heap.objs.size (.tup [kV kv.1, kv.2])) h2 s.heap.objs.size (.tup [kV kv.1, kv.2]) :=
      ⟨by show 2 ≤ sizeLine; decide, [key, x], .cons (keyRel hkey) (.cons rx .nil), _, (hs2.2 _ nit).trans htup, rfl, 0, rfl⟩
    have I1 := I.turnedNew (h' := h2) (t' := s.toks) (Nat.le_refl _) (fun b q hb z => (hs2.2 b (fun w => hb (by simp [w]))).trans (hkeep b q (fun w => hb (by simp [w])) z)) hf new
    refine ⟨.ref s.heap.objs.size, _, I1, rfl, ⟨s.heap.objs.size, kv, I.hok.fresh (Nat.le_refl _), hkv, rfl, rfl⟩, ⟨key, x, ?_⟩, fun b hb => ?_⟩
    · rw [hlen]; exact he2
    · have z : b = it := by simpa using hb
      subst z
      rw [upd_ne (Ne.symm nit)]
      exact (hf b hb).1
  done := by
    intro X hP hw hK hc i pins s σ H E I hf st hg
    subst hP hw hK
    obtain ⟨hi, hfz⟩ := hg
    obtain ⟨ok, ov, st⟩ := st
    obtain ⟨_, vs, rel, da⟩ := frz_dict I hfz ho
    have hlen : kvs.length = vs.length := KV.length rel
    rw [hlen] at st
    exact wpAny_pyNext_items_end (I.ok.hd hc) st da (by simp; omega) fun h' ext => ⟨rfl, I.turnedL (t' := s.toks) (fun b ob hb q => ext b ob (fun z => hb (by simp [z])) q) hf⟩
  self := fun A i s Q E st q => by
    obtain ⟨ok, ov, st⟩ := st
    exact iter_itemiter st q
/-- for k, v in d.items() -/
def iItems (td : TE) : TI := fun σ H R => td σ H fun x H1 => ∃ a kvs, x = .ref a ∧ H1 a = some (.dK kvs) ∧ ∀ o, R (Itdi a o kvs) (upd H1 a (.frz o (.dK kvs)))
theorem pi_items {X : Cx} {d : Expr} {td : TE} {elts : List Expr} {k : Nat} {tp apos cpos : Pos} (hd : PE X d td) (hbase : attributeBase d "items" X.env (eval d X.env) = eval d X.env := by rfl) (hline : (apos.endLine == cpos.line) = true := by rfl) :
    PI X (.Tuple elts k tp) (.Call (.Attribute d "items" apos) [] [] cpos) (iItems td) := by
  intro pins s σ H R I h
  refine wpAny_Call_method0_late hbase hline (thn (hd pins s σ H _ I h) fun v s1 ⟨x, H1, I1, r1, a, kvs, ex, e, q⟩ => ?_)
  subst ex
  cases r1
  obtain ⟨t1, t2, hsm⟩ := isD_at I1 (.inl ⟨kvs, .inl e⟩)
  obtain ⟨o, ho, I2⟩ := I1.freeze e
  obtain ⟨_, _, vs, rel, ob, es, ep, h4, h5, h6, h7⟩ := (show ObjOk X.prog X.w H1 s1.heap a (.dK kvs) from I1.hok a _ e)
  rw [ho] at h4
  cases h4
  have da : s1.heap.DictAt (mixKind X.prog X.w) a vs ep := ⟨o, es, ho, h5, h6, h7⟩
  refine ⟨"dict", "dict.items", F.plainAttrs_dict, F.slot_dict_items, F.type_dict_items, t1, t2, Calls.callWith_builtin rfl (PySem.evalArgs_none ?_)⟩
  refine call_meetsIn F.slot_dict_items t1 F.entry_dict_items (F.args_dict_items_1 _) (meets_dict_items (mixKind X.prog X.w) a hsm) ⟨⟨vs, da.dictOf⟩, ?_⟩
  have hz : (s1.heap.push { cls := .type "dict_items", data := .fields #[.ref a] }).objs.size = s1.heap.objs.size + 1 := Heap.size_push ..
  refine wpAny_pyIter_items (knd := mixKind X.prog X.w) (d := a) (kvs := vs) (ep := ep) ⟨_, Heap.get?_push_size _ rfl, rfl, rfl⟩ (da.push _) ?_
  refine ⟨(s1.heap.push { cls := .type "dict_items", data := .fields #[.ref a] }).objs.size, [(s1.heap.push { cls := .type "dict_items", data := .fields #[.ref a] }).objs.size], _, _, _, rfl,
    I2.kept (t' := s1.toks) fun b u q => Heap.get?_push_of_some _ (Heap.get?_push_of_some _ q), turn_di a _ o kvs h6, ?_, fun b hb => ?_, q o⟩
  · rw [KV.length rel]
    exact ⟨_, _, Heap.get?_push_size _ rfl⟩
  · have z : b = (s1.heap.push { cls := .type "dict_items", data := .fields #[.ref a] }).objs.size := by simpa using hb
    have z2 : s1.heap.objs.size ≤ b := by rw [z, hz]; exact Nat.le_succ _
    exact I2.fpOk z2 (I2.hok.fresh z2)

/-! #### loops, comprehensions -/
section
variable {a l : Addr} {o : Obj} {kvs : List (Key × V)} {g : TG} {tb : TS} {D : Ends} {σ : St} {H : Hp} {tt : TT} {te tk tv : TE} {Q : VK}
theorem for_dk (Pv : Nat → St → Hp → Prop) (h0 : Pv 0 σ H) (hl : ∀ i σ H', i ≤ kvs.length → Pv i σ H' → H' a = some (.frz o (.dK kvs)))
    (hs : ∀ i kv σ H', kvs[i]? = some kv → Pv i σ H' → g (kV kv.1) σ H' fun σ2 H2 => tb { D with nx := Pv (i + 1), ct := Pv (i + 1), bk := D.nx } σ2 H2) (hd : ∀ σ H', Pv kvs.length σ H' → D.nx σ H') :
    ∃ W : Nat → Nat → St → Hp → Prop, (∃ m, W 0 m σ H) ∧ ∀ i m σ H, W i m σ H →
      ((Itdk a o kvs).stop i H ∧ D.nx σ H) ∨ ((Itdk a o kvs).go i H ∧ ∃ N : St → Hp → Prop, (∀ σ' H', N σ' H' → ∃ m', m' < m ∧ W (i + 1) m' σ' H') ∧ ∀ x H', (Itdk a o kvs).yld i H x H' → g x σ H' fun σ2 H2 => tb { D with nx := N, ct := N, bk := D.nx } σ2 H2) := by
  refine ⟨fun i m σ H => m = kvs.length - i ∧ i ≤ kvs.length ∧ Pv i σ H, ⟨kvs.length, by simp, Nat.zero_le _, h0⟩, ?_⟩
  rintro i m σ H ⟨rfl, hi, p⟩
  have q := hl i σ H hi p
  by_cases hlt : i < kvs.length
  · refine .inr ⟨⟨hlt, q⟩, Pv (i + 1), fun σ' H' p' => ⟨kvs.length - (i + 1), by omega, rfl, hlt, p'⟩, fun x H' y => ?_⟩
    obtain ⟨rfl, kv, hkv, rfl⟩ := y
    exact hs i kv σ _ hkv p
  · have e : i = kvs.length := by omega
    subst e
    exact .inl ⟨⟨rfl, q⟩, hd σ H p⟩
theorem comp_di {σ0 : St} {H0 : Hp} (Pv : Nat → St → Hp → Prop) (h0 : Pv 0 σ0 H0) (hl : ∀ i σ H', i ≤ kvs.length → Pv i σ H' → H' a = some (.frz o (.dK kvs)))
    (hs : ∀ i kv p σ H', kvs[i]? = some kv → Pv i σ H' → H' p = none → g (.ref p) σ (upd H' p (.tup [kV kv.1, kv.2])) fun σ3 H3 => tt σ3 H3 fun b H4 => if b = true then te σ3 H4 fun y H5 => ∃ ys, H5 l = some (.lst ys) ∧ ys.length < sizeLine ∧ Pv (i + 1) σ3 (upd H5 l (.lst (ys ++ [y]))) else Pv (i + 1) σ3 H4)
    (hd : ∀ σ H', Pv kvs.length σ H' → Q (.ref l) H') : CWant (Itdi a o kvs) g tt te Q σ0 H0 l := by
  unfold CWant
  refine ⟨fun i m σ H' => m = kvs.length - i ∧ i ≤ kvs.length ∧ Pv i σ H', ⟨kvs.length, by simp, Nat.zero_le _, h0⟩, ?_⟩
  rintro i m σ H' ⟨rfl, hi, p⟩
  have q := hl i σ H' hi p
  by_cases hlt : i < kvs.length
  · refine .inr ⟨⟨hlt, q⟩, Pv (i + 1), fun σ3 H3 p' => ⟨kvs.length - (i + 1), by omega, rfl, hlt, p'⟩, fun x H2 y => ?_⟩
    obtain ⟨pa, kv, hp, hkv, rfl, rfl⟩ := y
    exact hs i kv pa σ H' hkv p hp
  · have e : i = kvs.length := by omega
    subst e
    exact .inl ⟨⟨rfl, q⟩, hd σ H' p⟩
/-- {k: v for .. in d.items()} -/
theorem dcomp_di {σ0 : St} {H0 : Hp} (Pv : Nat → St → Hp → Prop) (h0 : Pv 0 σ0 H0) (hl : ∀ i σ H', i ≤ kvs.length → Pv i σ H' → H' a = some (.frz o (.dK kvs)))
    (hs : ∀ i kv p σ H', kvs[i]? = some kv → Pv i σ H' → H' p = none → g (.ref p) σ (upd H' p (.tup [kV kv.1, kv.2])) fun σ3 H3 => tt σ3 H3 fun b H4 => if b = true then tk σ3 H4 fun y H5 => tv σ3 H5 fun z H6 => ∃ (kvs : List (Key × V)) (k : Key), H6 l = some (.dK kvs) ∧ y = kV k ∧ kvs.length < sizeLine ∧ Pv (i + 1) σ3 (upd H6 l (.dK (putK kvs k z))) else Pv (i + 1) σ3 H4)
    (hd : ∀ σ H', Pv kvs.length σ H' → Q (.ref l) H') : DWant (Itdi a o kvs) g tt tk tv Q σ0 H0 l := by
  unfold DWant
  refine ⟨fun i m σ H' => m = kvs.length - i ∧ i ≤ kvs.length ∧ Pv i σ H', ⟨kvs.length, by simp, Nat.zero_le _, h0⟩, ?_⟩
  rintro i m σ H' ⟨rfl, hi, p⟩
  have q := hl i σ H' hi p
  by_cases hlt : i < kvs.length
  · refine .inr ⟨⟨hlt, q⟩, Pv (i + 1), fun σ3 H3 p' => ⟨kvs.length - (i + 1), by omega, rfl, hlt, p'⟩, fun x H2 y => ?_⟩
    obtain ⟨pa, kv, hp, hkv, rfl, rfl⟩ := y
    exact hs i kv pa σ H' hkv p hp
  · have e : i = kvs.length := by omega
    subst e
    exact .inl ⟨⟨rfl, q⟩, hd σ H' p⟩
/-- {k: v for .. in t}, t a tuple -/
theorem dcomp_tup {K : PySem.W.Frag} {xs : List V} {σ0 : St} {H0 : Hp} (Pv : Nat → St → Hp → Prop) (h0 : Pv 0 σ0 H0) (hl : ∀ i σ H', i ≤ xs.length → Pv i σ H' → SqT K H' a xs)
    (hs : ∀ i x σ H', xs[i]? = some x → Pv i σ H' → g x σ H' fun σ3 H3 => tt σ3 H3 fun b H4 => if b = true then tk σ3 H4 fun y H5 => tv σ3 H5 fun z H6 => ∃ (kvs : List (Key × V)) (k : Key), H6 l = some (.dK kvs) ∧ y = kV k ∧ kvs.length < sizeLine ∧ Pv (i + 1) σ3 (upd H6 l (.dK (putK kvs k z))) else Pv (i + 1) σ3 H4)
    (hd : ∀ σ H', Pv xs.length σ H' → Q (.ref l) H') : DWant (Itt K a) g tt tk tv Q σ0 H0 l := by
  unfold DWant
  refine ⟨fun i m σ H' => m = xs.length - i ∧ i ≤ xs.length ∧ Pv i σ H', ⟨xs.length, by simp, Nat.zero_le _, h0⟩, ?_⟩
  rintro i m σ H' ⟨rfl, hi, p⟩
  have q := hl i σ H' hi p
  by_cases hlt : i < xs.length
  · refine .inr ⟨⟨xs, xs[i], q, by simp [hlt]⟩, Pv (i + 1), fun σ3 H3 p' => ⟨xs.length - (i + 1), by omega, rfl, hlt, p'⟩, fun x H2 y => ?_⟩
    obtain ⟨e, y⟩ := y
    subst e
    exact hs i x σ _ (y xs q) p
  · have e : i = xs.length := by omega
    subst e
    exact .inl ⟨⟨xs, q, Nat.le_refl _⟩, hd σ H' p⟩
end
end L2

set_option Elab.async false
set_option linter.all false
set_option maxRecDepth 100000
set_option maxHeartbeats 1000000

/-! ### sorted(l), l a list of tuples of whole numbers: some order of the same -/
namespace L2
open PySem PySem.Spec PyProof.Rows
open PySem.W (KasT kas_asc kas_desc kas_rev kas_tail3 kas_descPart kas_count kas_place kas_bin kas_sort)
/-- every answer leads to what P says, and asks within n alone -/
def kAll {α : Type} (n : Nat) (P : α → Prop) : KasT α → Prop
  | .ret a => P a
  | .ask i j k => i < n ∧ j < n ∧ ∀ b, kAll n P (k b)
theorem kAll_bind {α β : Type} {n : Nat} {P : α → Prop} {Q : β → Prop} {f : α → KasT β} : ∀ t : KasT α, kAll n P t → (∀ a, P a → kAll n Q (f a)) → kAll n Q (t.bind f)
  | .ret a, h, q => q a h
  | .ask i j k, h, q => ⟨h.1, h.2.1, fun b => kAll_bind (k b) (h.2.2 b) q⟩
theorem kAll_wp {α : Type} {n : Nat} {P : α → Prop} {Q : α → Shared → Prop} {s : Shared} {cmp : Nat → Nat → (Bool → Shared → Prop) → Shared → Prop} (hc : ∀ i j C, i < n → j < n → (∀ b, C b s) → cmp i j C s) : ∀ t : KasT α, kAll n P t → (∀ a, P a → Q a s) → t.kasWp cmp Q s
  | .ret a, h, q => q a h
  | .ask i j k, h, q => hc i j _ h.1 h.2.1 fun b => kAll_wp hc (k b) (h.2.2 b) q
def Pm (n : Nat) (p : Array Nat) : Prop := p.toList.Perm (List.range n)
theorem Pm.rev {n : Nat} {p : Array Nat} (h : Pm n p) (i j : Nat) : Pm n (kas_rev p i j) := (Array.perm_iff_toList_perm.mp (mirror_perm p i j ((j - i) / 2))).trans h
theorem Pm.bub {n : Nat} {p : Array Nat} (h : Pm n p) (k d : Nat) : Pm n (bubble p k d) := (Array.perm_iff_toList_perm.mp (bubble_perm p k d)).trans h
theorem Pm.lt {n : Nat} {p : Array Nat} (h : Pm n p) (n0 : 0 < n) (i : Nat) : p.getD i 0 < n := by
  by_cases hi : i < p.size
  · have e : p.getD i 0 = p[i] := by simp [hi]
    rw [e]
    have hm : p[i] ∈ p.toList := by simp
    exact List.mem_range.mp (h.mem_iff.mp hm)
  · have e : p.getD i 0 = 0 := by simp [hi]
    rw [e]; exact n0
section
variable {n : Nat} (n0 : 0 < n)
include n0
theorem all_asc {p : Array Nat} (h : Pm n p) : ∀ f k, kAll n (fun _ => True) (kas_asc p f k)
  | 0, k => trivial
  | f + 1, k => ⟨h.lt n0 _, h.lt n0 _, fun b => by
    cases b with
    | true => exact trivial
    | false => exact all_asc h f (k + 1)⟩
theorem all_desc : ∀ f (p : Array Nat), Pm n p → ∀ k q, kAll n (fun r : Array Nat × Nat × Nat => Pm n r.1) (kas_desc f p k q)
  | 0, p, h, k, q => h
  | f + 1, p, h, k, q => ⟨h.lt n0 _, h.lt n0 _, fun b => by
    cases b with
    | true =>
      show kAll n _ (if q > 0 then kas_desc f (kas_rev p (k - (q + 1)) k) (k + 1) 0 else kas_desc f p (k + 1) 0)
      split
      · exact all_desc f _ (h.rev _ _) _ _
      · exact all_desc f _ h _ _
    | false => exact ⟨h.lt n0 _, h.lt n0 _, fun d => by
        cases d with
        | true => exact h
        | false => exact all_desc f _ h _ _⟩⟩
theorem all_tail {p : Array Nat} (h : Pm n p) (a b : Nat) : kAll n (fun r : Nat × Array Nat => Pm n r.2) (kas_tail3 a b p) :=
  kAll_bind _ (all_asc n0 (h.rev 0 a) _ _) fun m _ => h.rev 0 a
theorem all_descPart {p : Array Nat} (h : Pm n p) (a b : Nat) : kAll n (fun r : Nat × Array Nat => Pm n r.2) (kas_descPart a b p) :=
  kAll_bind _ (all_desc n0 _ p h _ _) fun r hr => by
    show kAll n _ (if r.2.2 > 0 then _ else _)
    split
    · exact all_tail n0 (Pm.rev hr _ _) _ _
    · exact all_tail n0 hr _ _
theorem all_count {p : Array Nat} (h : Pm n p) (a : Nat) : kAll n (fun r : Nat × Array Nat => Pm n r.2) (kas_count a p) :=
  kAll_bind _ (all_asc n0 h _ _) fun m _ => by
    show kAll n _ (if (m == a) = true then _ else if m > 1 then _ else _)
    split
    · exact h
    · split
      · refine ⟨h.lt n0 _, h.lt n0 _, fun b => ?_⟩
        cases b with
        | true => exact h
        | false => exact all_descPart n0 (h.rev _ _) _ _
      · exact all_descPart n0 h _ _
theorem all_place {p : Array Nat} (h : Pm n p) (k : Nat) : ∀ f l r, kAll n (fun _ => True) (kas_place p k f l r)
  | 0, _, _ => trivial
  | f + 1, l, r => by
    show kAll n _ (if l ≥ r then _ else _)
    split
    · exact trivial
    · refine ⟨h.lt n0 _, h.lt n0 _, fun b => ?_⟩
      cases b with
      | true => exact all_place h k f _ _
      | false => exact all_place h k f _ _
theorem all_bin : ∀ f (p : Array Nat), Pm n p → ∀ k, kAll n (Pm n) (kas_bin f p k)
  | 0, p, h, _ => h
  | f + 1, p, h, k => kAll_bind _ (all_place n0 h k _ _ _) fun l _ => all_bin f _ (h.bub _ _) _
theorem all_sort : kAll n (Pm n) (kas_sort n) :=
  kAll_bind _ (all_count n0 (p := List.toArray (List.range n)) (show Pm n _ by unfold Pm; exact List.Perm.refl _) n) fun r hr => by
    show kAll n _ (if r.1 < n then _ else _)
    split
    · exact all_bin n0 _ _ hr _
    · exact hr
end
section
variable {prog : Program} {w : World} {A : Around} {E : Value → Shared → Prop} {s : Shared}
/-- two tuples of whole numbers are compared: some answer, nothing changed -/
theorem lexI {fin : Bool} {C : Bool → Shared → Prop} (hC : ∀ b, C b s) : ∀ (l : List (Value × Value)) (i : Nat), (∀ pq ∈ l, ∃ a t b u, pq = (.int a t, .int b u)) → PySem.W.KatLex prog w A true fin C l i s
  | [], _, _ => hC fin
  | (p, q) :: r, i, h => by
    obtain ⟨a, t, b, u, e⟩ := h _ (List.mem_cons_self ..)
    cases e
    refine PySem.W.kat_cons (wpAny_eqBool_int ?_)
    refine PySem.W.kat_go (fun _ => PySem.W.kat_yes (lexI hC r (i + 1) fun pq hp => h pq (List.mem_cons_of_mem _ hp))) fun _ => PySem.W.kat_no ?_
    cases hi : (true && i == 0) with
    | true => exact oneLt_int (hC _)
    | false => exact PySem.W.kat_one _ _ (lt_int (hC _))
/-- a list of less than two -/
theorem sorted_short {l : Addr} {vs : List Value} {Q : Value → Shared → Prop} (hl : s.heap.IsList l vs.toArray) (h1 : vs.length < 2)
    (h : ∀ D h' c, s.heap.objs.size ≤ D → h'.get? D = some (seqObj "list" vs.toArray c) → (∀ b o, s.heap.get? b = some o → h'.get? b = some o) → Q (.ref D) { s with heap := h' }) : wpAny (model prog w) A (call (.builtin "sorted") [.ref l]) Q E s := by
  have h2 : vs.toArray.size < 2 := by rw [List.size_toArray]; exact h1
  have hz : vs.length ≤ sizeLine := Nat.le_of_lt (small1000 (by omega))
  refine Calls.call_function_entry (Q := Q) kind_sorted plain_sorted entry_sorted (args_sorted1 (.ref l)) ?_
  unfold Builtin.«sorted»
  refine wpAny_bind (m := checkCount "sorted" 1 1 [Value.ref l].length) (wpAny_pure ?_)
  refine wpAny_bind (collect_list (vs := vs) hl ?_ hz)
  have k1 : ∀ b o, s.heap.get? b = some o → ((s.heap.push (seqObj "list" #[] 0)).update s.heap.objs.size (Obj.mapSeq (· ++ vs.toArray))).get? b = some o := fun b o q => by
    rw [Heap.get?_update_other _ _ (Nat.ne_of_gt (Heap.lt_size q))]
    exact Heap.get?_push_of_some _ q
  have z1 : ((s.heap.push (seqObj "list" #[] 0)).update s.heap.objs.size (Obj.mapSeq (· ++ vs.toArray))).objs.size = s.heap.objs.size + 1 := by rw [Heap.size_update, Heap.size_push]
  generalize ((s.heap.push (seqObj "list" #[] 0)).update s.heap.objs.size (Obj.mapSeq (· ++ vs.toArray))) = g1 at k1 z1
  refine wpAny_bind (wpAny_newList ?_ hz)
  have oD : (g1.push (seqObj "list" vs.toArray 0)).get? g1.objs.size = some (seqObj "list" vs.toArray 0) := Heap.get?_push_size _ rfl
  have k2 : ∀ b o, s.heap.get? b = some o → b ≠ g1.objs.size ∧ (g1.push (seqObj "list" vs.toArray 0)).get? b = some o := fun b o q => ⟨by rw [z1]; exact Nat.ne_of_lt (Nat.lt_succ_of_lt (Heap.lt_size q)), Heap.get?_push_of_some _ (k1 b o q)⟩
  refine wpAny_bind (wpAny_holding (wpAny_call_entry slot_list_sort ⟨_, oD, rfl⟩ entry_list_sort ?_ (args_list_sort _)))
  rw [list_sort_plain]
  have zD : s.heap.objs.size ≤ g1.objs.size := by rw [z1]; exact Nat.le_succ _
  generalize g1.objs.size = D at oD k2 zD
  generalize hg2 : g1.push (seqObj "list" vs.toArray 0) = g2 at oD k2
  refine wpAny_bind (listItems_at (a := D) oD rfl ?_)
  refine wpAny_bind (listUpdate_at (a := D) oD rfl ?_ (by rw [List.size_toArray]; exact hz) (Nat.zero_le _))
  obtain ⟨e1, o1⟩ : ∃ e1, (g2.update D (Obj.mapSeq fun _ => (#[] : Array Value))).get? D = some (seqObj "list" #[] e1) := ⟨_, get?_update_seq oD fun _ => #[]⟩
  have k3 : ∀ b o, s.heap.get? b = some o → b ≠ D ∧ (g2.update D (Obj.mapSeq fun _ => (#[] : Array Value))).get? b = some o := fun b o q => ⟨(k2 b o q).1, by rw [Heap.get?_update_other _ _ (Ne.symm (k2 b o q).1)]; exact (k2 b o q).2⟩
  have zip2 : (arrOf (SortSt.mk' general' (vs.toArray.zip vs.toArray) #[] 7 none)).map (·.2) = vs.toArray := by
    show (vs.toArray.zip vs.toArray).map (·.2) = vs.toArray
    apply Array.toList_inj.mp
    simp [Array.toList_zip, List.map_snd_zip]
  dsimp only
  generalize g2.update D (Obj.mapSeq fun _ => (#[] : Array Value)) = g3 at o1 k3 ⊢
  refine wpAny_bind (seqEpoch_at (a := D) o1 rfl ?_)
  refine wpAny_bind (wpAny_newTuple ?_ (by simpa using hz))
  refine wpAny_bind (wpAny_newList (items := []) ?_ (Nat.zero_le _))
  refine wpAny_holding ?_
  have o5 : ∀ x y : Obj, ((g3.push x).push y).get? D = some (seqObj "list" #[] e1) := fun x y => Heap.get?_push_of_some _ (Heap.get?_push_of_some _ o1)
  have k5 : ∀ x y : Obj, ∀ b o, s.heap.get? b = some o → b ≠ D ∧ ((g3.push x).push y).get? b = some o := fun x y b o q => ⟨(k3 b o q).1, Heap.get?_push_of_some _ (Heap.get?_push_of_some _ (k3 b o q).2)⟩
  dsimp only
  rw [if_pos h2, if_pos h2]
  refine wpAny_bind (wpAny_pure ?_)
  rw [StateT.run_pure]
  refine wpAny_bind (wpAny_pure ?_)
  dsimp only
  refine wpAny_bind (seqEpoch_at (a := D) (o5 _ _) rfl ?_)
  rw [zip2]
  refine wpAny_bind (listUpdate_at (a := D) (o5 _ _) rfl ?_ (Nat.zero_le _) (by first | (rw [List.size_toArray]; exact hz) | (rw [List.size_toArray]; omega)))
  simp only [bne_self_eq_false, Bool.false_eq_true, if_false]
  obtain ⟨c, oF⟩ : ∃ c, (((g3.push { cls := .type "tuple", data := .seq vs.toArray }).push { cls := .type "list", data := .seq #[] }).update D (Obj.mapSeq fun _ => vs.toArray)).get? D = some (seqObj "list" vs.toArray c) := ⟨_, get?_update_seq (o5 _ _) fun _ => vs.toArray⟩
  refine wpAny_pure ⟨_, rfl, wpAny_pure ⟨_, rfl, h D _ c zD oF fun b o q => ?_⟩⟩
  rw [Heap.get?_update_other _ _ (Ne.symm (k3 b o q).1)]
  exact (k5 _ _ b o q).2
end
theorem ns_uniq {h : Heap} {a : Addr} {m m' : Str → Option Value} (x : h.Ns a m) (y : h.Ns a m') : m = m' := by
  obtain ⟨o, es, ep, h1, h2, _, h3⟩ := x
  obtain ⟨o', es', ep', g1, g2, _, g3⟩ := y
  rw [h1] at g1
  cases g1
  rw [h2] at g2
  cases g2
  funext k
  rw [← h3, ← g3]
theorem perm_getD {α β : Type} (d : α) (e : β) : ∀ {vs : List α} {its : List β} {F : α → β → Prop} {is : List Nat}, Paired F vs its → (∀ i ∈ is, i < vs.length) → Paired F (is.map fun i => vs.getD i d) (is.map fun i => its.getD i e)
  | vs, its, F, [], _, _ => .nil
  | vs, its, F, i :: is, r, h => by
    refine .cons ?_ (perm_getD d e r fun j hj => h j (List.mem_cons_of_mem _ hj))
    have hi := h i (List.mem_cons_self ..)
    have go : ∀ {l : List α} {m : List β} {i : Nat}, Paired F l m → i < l.length → F (l.getD i d) (m.getD i e) := by
      intro l m i r
      induction r generalizing i with
      | nil => intro h; exact absurd h (Nat.not_lt_zero _)
      | cons a t ih =>
        intro h
        cases i with
        | zero => exact a
        | succ i => exact ih (Nat.lt_of_succ_lt_succ h)
    exact go r hi
theorem range_getD {α : Type} (d : α) (vs : List α) : (List.range vs.length).map (fun i => vs.getD i d) = vs := by
  apply List.ext_getElem
  · simp
  · intro i h1 h2
    simp [h2]
/-- a row of tuples of whole numbers -/
def RowsI (K : PySem.W.Frag) (H : Hp) (vs : List V) : Prop := ∀ v ∈ vs, ∃ t ns, v = .ref t ∧ SqT K H t ((ns : List Int).map V.int) ∧ 0 < ns.length
@[irreducible] def rSortT (K : PySem.W.Frag) : List V → Hp → VK → Prop := fun xs H Q => ∃ (p : Addr) (vs : List V), xs = [.ref p] ∧ SqL K H p vs ∧ vs.length < 64 ∧ RowsI K H vs ∧ ∀ vs' l, vs'.Perm vs → H l = none → Q (.ref l) (upd H l (.lst vs'))
theorem sortT_mk {K : PySem.W.Frag} {p : Addr} {vs : List V} {H : Hp} {Q : VK} (h1 : SqL K H p vs) (h2 : vs.length < 64) (h3 : RowsI K H vs) (q : ∀ vs' l, vs'.Perm vs → H l = none → Q (.ref l) (upd H l (.lst vs'))) : rSortT K [.ref p] H Q := by
  unfold rSortT
  exact ⟨p, vs, rfl, h1, h2, h3, q⟩
theorem katTups {X : Cx} {pins : List (Addr × Obj)} {σ : St} {H : Hp} {s : Shared} {h' : Heap} (I : Inv X pins σ H s) (k : ∀ b o, H b ≠ none ∨ (∃ u, X.base.get? b = some u) → s.heap.get? b = some o → h'.get? b = some o) : ∀ {vs : List V} {its : List Value}, Vals vs its → RowsI X.K H vs →
    ∃ fs, PySem.W.KatTups h' its fs ∧ fs.length = its.length ∧ ∀ f ∈ fs, ∃ i t, f = Value.int i t
  | _, _, .nil, _ => ⟨[], trivial, rfl, fun f h => nomatch h⟩
  | _, _, .cons r t, h => by
    obtain ⟨fs, f1, f2, f3⟩ := katTups I k t fun v hv => h v (List.mem_cons_of_mem _ hv)
    obtain ⟨tp, ns, rfl, hq, hn⟩ := h _ (List.mem_cons_self ..)
    cases r
    obtain ⟨its, rv, ⟨o, ho, hc, n, hd⟩, _⟩ := I.tuple hq
    have ho' : h'.get? tp = some o := by
      refine k tp o ?_ ho
      rcases hq with (e | ⟨_, e⟩) | ⟨_, _, _, e, _⟩
      · exact .inl (by rw [e]; exact fun z => nomatch z)
      · exact .inl (by rw [e]; exact fun z => nomatch z)
      · exact .inr ⟨_, I.mod.kin _ _ e⟩
    cases ns with
    | nil => exact absurd hn (Nat.lt_irrefl _)
    | cons n0 nr =>
      cases rv with
      | cons r0 rr =>
        obtain ⟨tk, rfl⟩ := r0
        exact ⟨Value.int n0 tk :: fs, PySem.W.KatTups.cons ho' hc hd (by simp) f1, by simp [f2], fun f hf => by
          rcases List.mem_cons.mp hf with rfl | hf
          · exact ⟨_, _, rfl⟩
          · exact f3 f hf⟩
theorem call_sortedT {X : Cx} : CallR X (.builtin "sorted") (rSortT X.K) := by
  intro pins s σ H xs us Q I r h
  unfold rSortT at h
  obtain ⟨p, vs, rfl, hq, h64, hR, q⟩ := h
  obtain ⟨u, rfl, rx⟩ := vals1 r
  cases rx
  obtain ⟨its, rv, pl, hz⟩ := I.list hq
  have hlen : vs.length = its.length := rv.length
  by_cases h2 : 2 ≤ its.length
  · obtain ⟨m, hn, _⟩ := id I.loc
    refine PySem.W.kat_sorted (Att.fr_all hn) (news_all (g := Att.noObjs s.heap) (h := s.heap) (L := X.env.locals)) pl.isList h2 (by omega) fun D e1 h' F' N' hD => ?_
    have kp : ∀ b o, b ≠ X.env.locals → s.heap.get? b = some o → h'.get? b = some o := fun b o hb e => (N' (b, o) (List.mem_cons_of_mem _ (mem_allNews hb (Att.noObjs_get _ _) e))).1
    have nl : ∀ b, H b ≠ none ∨ (∃ u, X.base.get? b = some u) → b ≠ X.env.locals := fun b hb z => by
      rcases hb with hb | ⟨u, hb⟩
      · exact hb (by rw [z]; exact I.free)
      · have := Heap.lt_size hb
        rw [z] at this
        exact absurd (Nat.lt_of_lt_of_le this (Nat.le_trans I.ok.bsz I.ok.above)) (Nat.lt_irrefl _)
    obtain ⟨fs, f1, f2, f3⟩ := katTups (h' := h') I (fun b o hb e => kp b o (nl b hb) e) rv hR
    refine PySem.W.kat_kind f1 (by omega) (fun v hv => by obtain ⟨i, t, rfl⟩ := f3 v hv; exact PySem.W.Looks.of_pure rfl) (T := .type "int") (by decide) ?_
    refine kAll_wp (n := its.length) (fun i j C hi hj hC => ?_) _ (all_sort (by omega)) fun pp hp => ?_
    · have tupAt : ∀ i, i < its.length → ∃ (x : Addr) (ox : Obj) (ws : Array Value) (n : Nat), its.getD i Value.none = .ref x ∧ h'.get? x = some ox ∧ ox.data = .seq ws n ∧ ∀ y ∈ ws.toList, ∃ a t, y = Value.int a t := fun i hi => by
        have hvi : i < vs.length := by omega
        obtain ⟨u, hu, ru⟩ := rv.get (x := vs[i]) (i := i) (by simp [hvi])
        obtain ⟨tp, ns, e, hq', _⟩ := hR vs[i] (List.getElem_mem hvi)
        rw [e] at ru
        cases ru
        obtain ⟨ws, rw', ⟨o, ho, hc, n, hd⟩, _⟩ := I.tuple hq'
        refine ⟨tp, o, ws.toArray, n, ?_, kp tp o (nl tp ?_) ho, hd, fun y hy => ?_⟩
        · rw [List.getD_eq_getElem?_getD, hu]; rfl
        · rcases hq' with (z | ⟨_, z⟩) | ⟨_, _, _, z, _⟩
          · exact .inl (by rw [z]; exact fun z => nomatch z)
          · exact .inl (by rw [z]; exact fun z => nomatch z)
          · exact .inr ⟨_, I.mod.kin _ _ z⟩
        · have go : ∀ {ns : List Int} {ws : List Value}, Vals (ns.map V.int) ws → ∀ y ∈ ws, ∃ a t, y = Value.int a t := by
            intro ns
            induction ns with
            | nil => intro ws r; cases r; exact fun y hy => nomatch hy
            | cons n0 nr ih =>
              intro ws r
              cases r with
              | cons r0 rr =>
                intro y hy
                rcases List.mem_cons.mp hy with rfl | hy
                · obtain ⟨t, e⟩ := r0; exact ⟨_, _, e⟩
                · exact ih rr y hy
          exact go rw' y (by simpa using hy)
      obtain ⟨x, ox, wx, nx, ex, hx, dx, ix⟩ := tupAt i hi
      obtain ⟨y, oy, wy, ny, ey, hy, dy, iy⟩ := tupAt j hj
      unfold PySem.W.kas_ask
      rw [ex, ey]
      refine PySem.W.kat_lt hx dx hy dy (lexI hC _ 0 fun pq hpq => ?_)
      obtain ⟨h1, h2'⟩ := List.of_mem_zip (a := pq.1) (b := pq.2) hpq
      obtain ⟨a, t, e1'⟩ := ix _ h1
      obtain ⟨b, u, e2'⟩ := iy _ h2'
      exact ⟨a, t, b, u, Prod.ext e1' e2'⟩
    · refine PySem.W.KasFin.intro F' N' (.head fun q hq => Nat.ne_of_lt (hD q hq)) fun h2' c F2 N2 => ?_
      have kp2 : ∀ b o, b ≠ X.env.locals → s.heap.get? b = some o → h2'.get? b = some o := fun b o hb e => (N2 (b, o) (List.mem_cons_of_mem _ (mem_allNews hb (Att.noObjs_get _ _) e))).1
      obtain ⟨oD, DL, _⟩ := N2 (D, _) (List.mem_cons_self ..)
      have nD : ∀ b o, s.heap.get? b = some o → b ≠ D := fun b o e z => by
        by_cases hb : b = X.env.locals
        · exact DL (by rw [← z]; exact hb)
        · have := hD (b, o) (mem_allNews hb (Att.noObjs_get _ _) e)
          rw [z] at this
          exact Nat.lt_irrefl _ this
      have hDn : H D = none := by
        cases e : H D with
        | none => rfl
        | some v =>
          obtain ⟨o, ho⟩ := (I.hok D v e).there
          exact absurd rfl (nD D o ho)
      have tr : ∀ (o : HO) b u, H b = some u → (upd H D o) b = some u := fun o b u e => by rw [upd_ne (ne_of_none e hDn)]; exact e
      have hmem : ∀ i ∈ pp.toList, i < vs.length := fun i hi => by rw [hlen]; exact List.mem_range.mp (hp.mem_iff.mp hi)
      have rv2 : Vals (pp.toList.map fun i => vs.getD i .non) (pp.toList.map fun i => its.getD i Value.none) := perm_getD V.non Value.none rv hmem
      have pm : (pp.toList.map fun i => vs.getD i .non).Perm vs := by
        have := hp.map fun i => vs.getD i V.non
        rw [← hlen, range_getD] at this
        exact this
      have I2 : Inv X pins σ (upd H D (.lst (pp.toList.map fun i => vs.getD i .non))) { s with heap := h2' } := by
        refine I.step (h' := h2') (g' := s.gens) (d' := s.drawn) (t' := s.toks) (ch := []) (fun b hb => absurd hb (by simp)) (fun b u hb _ _ e _ => kp2 b u hb e) (fun b u hb _ _ e _ => ⟨u.slots, kp2 b u hb e⟩) (fun b u _ e n => by rw [upd_ne (nD b u e)]; exact n)
          (fun b u _ e => ?_) (fun b ys e => tr _ _ _ e) (fun b u v e => tr _ _ _ e) (fun b ps e => ⟨#[], by rw [tr _ _ _ e]; simp⟩) (fun m' hm' => by rw [ns_uniq hm' hn]; exact F2.ns) (fun b u e => ?_) I.bare
        · by_cases hb : b = X.env.locals
          · obtain ⟨o, _, _, ho, _⟩ := F2.ns
            exact ⟨o, by rw [hb]; exact ho⟩
          · exact ⟨u, kp2 b u hb e⟩
        · by_cases hb : b = D
          · subst hb
            rw [upd_same] at e
            cases e
            exact ⟨by rw [pm.length_eq]; exact Nat.le_of_lt (small1000 (by omega)), _, c, rv2, oD⟩
          · rw [upd_ne hb] at e
            refine (I.hok b u e).stay (fun x v hx e1 => kp2 x v ?_ e1) (fun x e1 => tr _ _ _ e1) fun x ys e1 => tr _ _ _ e1
            intro z
            rcases hx with hx | hx
            · rw [← hx, z, I.free] at e; cases e
            · rw [z, I.free] at hx; cases hx
      exact ⟨.ref D, _, I2, rfl, q _ D pm hDn⟩
  · refine sorted_short pl.isList (by omega) fun D h' c hD oD kp => ?_
    refine ⟨.ref D, _, I.laid (t' := s.toks) (o := .lst vs) kp hD ?_, rfl, q vs D (List.Perm.refl _) (I.hok.fresh hD)⟩
    exact ⟨Nat.le_of_lt (small1000 (by omega)), its, c, rv, oD⟩
end L2

set_option Elab.async false
set_option linter.all false
set_option maxRecDepth 100000
set_option maxHeartbeats 1000000
namespace L2
open PySem PySem.Spec PyProof.Rows
theorem lk_list_keys : typeLookup (.type "list") "keys" = pure none := by rw [typeLookup_type, builtinLookup_eq_fast]; kernel_rfl
theorem lk_list_hook : typeLookup (.type "list") "__getattr__" = pure none := by rw [typeLookup_type, builtinLookup_eq_fast]; kernel_rfl
theorem sub_ae : isSubtype (.type "AttributeError") (.type "AttributeError") = pure true := by rw [isSubtype_type]; kernel_rfl
section
variable {M : Model} {A : Around} {E : Value → Shared → Prop} {s : Shared}
theorem note_new {e : Addr} {o : Obj} {x nm T : Value} {Q : Unit → Shared → Prop} (ho : s.heap.get? e = some o) (hc : o.cls = .type "AttributeError") (hd : o.data = .fields #[T, .none, .none, .none, .bool false, .none, unsetMember, unsetMember])
    (h : ∀ h', (∀ b u, b ≠ e → s.heap.get? b = some u → h'.get? b = some u) → (∃ o', h'.get? e = some o' ∧ o'.cls = .type "AttributeError") → Q () { s with heap := h' }) : wpAny M A (noteAttr (.ref e) x nm) Q E s := by
  obtain ⟨oc, od, oa, os⟩ := o
  cases hc
  cases hd
  have hT : s.TypeIs (.ref e) "AttributeError" := ⟨_, ho, rfl⟩
  unfold noteAttr
  refine wpAny_bind ?_
  unfold lacksNameAndObj
  refine wpAny_bind (wpAny_isInstance hT sub_ae ?_)
  simp only [Bool.not_true, Bool.false_eq_true, if_false]
  refine wpAny_bind (wpAny_load ho ?_)
  refine wpAny_pure ?_
  rw [if_pos rfl]
  refine wpAny_bind (wpAny_rule ?_)
  refine wpAny_bind (wpAny_typeOf hT ?_)
  show wpAny _ _ (layMembers e 6 #[nm, x]) _ _ _
  unfold layMembers
  refine wpAny_bind (wpAny_load ho ?_)
  refine wpAny_update ho ?_
  refine h _ (fun b u nb q => ?_) ⟨_, Heap.get?_update_self _ ho rfl, rfl⟩
  rw [Heap.get?_update_other _ _ (Ne.symm nb)]
  exact q
end
section
variable {prog : Program} {w : World} {A : Around} {E : Value → Shared → Prop} {s : Shared}
/-- what is raised -/
theorem raise_ae {α : Type} {x : Value} {nm msg : Str} {Q : α → Shared → Prop} (hm : msg.length ≤ sizeLine) (hh : A.handled = none) (hq : ∀ h' tk' e o, (∀ b u, s.heap.get? b = some u → h'.get? b = some u) → h'.get? e = some o → o.cls = .type "AttributeError" → E (.ref e) { s with heap := h', toks := tk' }) :
    wpAny (model prog w) A (raiseAttrError x nm msg : Sem α) Q E s := by
  unfold raiseAttrError
  refine wpAny_bind (wpAny_mkStr (wpAny_bind ?_) hm)
  unfold newExc newTuple
  refine wpAny_bind (wpAny_newObj_type ?_)
  refine wpAny_bind (m := firstArgMember _ _) (wpAny_of_eq (a := Value.none) (by kernel_rfl) ?_)
  refine wpAny_newObj_type ?_
  refine wpAny_bind (wpAny_mkText (wpAny_bind ?_))
  refine note_new (Heap.get?_push_size _ rfl) rfl rfl fun h' k1 ⟨o', k2, k3⟩ => ?_
  unfold raiseNew
  refine wpAny_bind (wpAny_handled ?_)
  rw [hh]
  first
    | refine wpAny_throw ?_
    | refine wpAny_bind (wpAny_pure (wpAny_throw ?_))
  exact hq _ _ _ o' (fun b u q => k1 b u (Nat.ne_of_lt (by rw [Heap.size_push]; exact Nat.lt_succ_of_lt (Heap.lt_size q))) (Heap.get?_push_of_some _ (Heap.get?_push_of_some _ q))) k2 k3
end
section
variable {prog : Program} {w : World} {A : Around} {E : Value → Shared → Prop} {h : Heap} {g : Array GenState} {d : Drawn} {t : Nat} {os : OsState} {a : Addr} {xs : Array Value} {c : Nat}
theorem nk_entry {tk : Tok} {Q : Fin → Shared → Prop} (hh : A.handled = none) (hx : h.get? a = some (seqObj "list" xs c)) (hq : ∀ h' tk' e o, (∀ b u, h.get? b = some u → h'.get? b = some u) → h'.get? e = some o → o.cls = .type "AttributeError" → E (.ref e) ⟨h', g, d, tk', os⟩) :
    wpAny (model prog w) A (Builtin.«object.__getattribute__» ⟨[.ref a, .str "keys" tk], []⟩) Q E ⟨h, g, d, t, os⟩ := by
  have hT : (⟨h, g, d, t, os⟩ : Shared).TypeIs (.ref a) "list" := ⟨_, hx, rfl⟩
  have f4 := lk_list_keys
  repeat (any_goals (first | assumption | wp_step))
  exact raise_ae (Nat.le_of_lt (small1000 (by decide +kernel))) hh fun h' tk' e o k1 k2 k3 => hq h' tk' e o k1 k2 k3
theorem nk_call {tk : Tok} {R : Result → Shared → Prop} (hh : A.handled = none) (hx : h.get? a = some (seqObj "list" xs c)) (hq : ∀ h' tk' e o, (∀ b u, h.get? b = some u → h'.get? b = some u) → h'.get? e = some o → o.cls = .type "AttributeError" → R (.error (.ref e)) ⟨h', g, d, tk', os⟩) :
    codeAny (model prog w) A (.call (.builtin "list.__getattribute__") ⟨[.ref a, .str "keys" tk], []⟩) R ⟨h, g, d, t, os⟩ :=
  codeAny_call_builtin F.slot_list_getattribute.plain F.entry_list_ga (F.slot_list_getattribute.check _ _ _ _ _ _ _ _ (show (⟨h, g, d, t, os⟩ : Shared).TypeIs (.ref a) "list" from ⟨_, hx, rfl⟩) (F.args_list_getattribute_2 _ _) (nk_entry hh hx hq))
theorem nk_by {tk : Tok} {Q : Value → Shared → Prop} (hh : A.handled = none) (hx : h.get? a = some (seqObj "list" xs c)) (hq : ∀ h' tk' e o, (∀ b u, h.get? b = some u → h'.get? b = some u) → h'.get? e = some o → o.cls = .type "AttributeError" → E (.ref e) ⟨h', g, d, tk', os⟩) : wpAny (model prog w) A (getAttrBy (.ref a) (.str "keys" tk) false) Q E ⟨h, g, d, t, os⟩ := by
  have hT : (⟨h, g, d, t, os⟩ : Shared).TypeIs (.ref a) "list" := ⟨_, hx, rfl⟩
  have f2 := F.slot_list_getattribute.lookup
  have f3 := F.slot_list_getattribute.bind (.ref a)
  have f5 := lk_list_hook
  repeat (any_goals (first | assumption | wp_step))
  refine nk_call hh hx fun h' tk' e o k1 k2 k3 => ?_
  have hT2 : (⟨h', g, d, tk', os⟩ : Shared).TypeIs (.ref e) "AttributeError" := ⟨_, k2, k3⟩
  have f6 := sub_ae
  repeat (any_goals (first | assumption | wp_step))
  all_goals exact hq h' tk' e o k1 k2 k3
theorem nk_attr {Q : Option Value → Shared → Prop} (hh : A.handled = none) (hx : h.get? a = some (seqObj "list" xs c)) (hq : ∀ h' tk', (∀ b u, h.get? b = some u → h'.get? b = some u) → Q none ⟨h', g, d, tk', os⟩) : wpAny (model prog w) A (getAttr? (.ref a) "keys") Q E ⟨h, g, d, t, os⟩ := by
  unfold getAttr? getAttrBy?
  refine wpAny_bind (wpAny_mkText (wpAny_bind (wpAny_attempt ?_)))
  refine nk_by hh hx fun h' tk' e o k1 k2 k3 => ?_
  have hT2 : (⟨h', g, d, tk', os⟩ : Shared).TypeIs (.ref e) "AttributeError" := ⟨_, k2, k3⟩
  refine wpAny_bind (wpAny_isInstance hT2 sub_ae ?_)
  rw [if_pos rfl]
  exact wpAny_pure (hq _ _ k1)
end
/-! #### dict(l), l a list of pairs -/
theorem plain_upd_loop : plainId "dict.update.loop" = true := by decide +kernel
theorem entry_upd_loop : entryFor table "dict.update.loop" = some Builtin.«dict.update.loop» := entryFor_of_fast (by kernel_rfl)
section
variable {prog : Program} {w : World} {κ : Type} [DecidableEq κ] {knd : KeyKind prog w κ} {A : Around} {E : Value → Shared → Prop} {s : Shared} {R : Result → Shared → Prop}
theorem upd_loop {d it l : Addr} {items : List Value} {res : Value} (hh : A.handled = none) (ndi : d ≠ it) (nld : l ≠ d) (nli : l ≠ it) : ∀ (rs : List (Addr × κ × Value × Value)) (i : Nat) (acc : List (κ × Value)) (s : Shared), s.heap.IsListIter it l i → s.heap.IsList l items.toArray →
    items.drop i = rs.map (fun r => Value.ref r.1) → (∀ r ∈ rs, s.heap.IsTuple r.1 #[r.2.2.1, r.2.2.2] ∧ knd.is r.2.1 r.2.2.1 = true ∧ r.1 ≠ d ∧ r.1 ≠ it) → s.heap.DictOf knd d acc → acc.length + rs.length ≤ sizeLine →
    (∀ h' tk, h'.DictOf knd d (rs.foldl (fun a r => stored a r.2.1 r.2.2.2) acc) → (∀ b o, b ≠ d → b ≠ it → s.heap.get? b = some o → h'.get? b = some o) → R (.ok (.ret res)) { s with heap := h', toks := tk }) →
    codeAny (model prog w) A (.builtin "dict.update.loop" ⟨[.ref d, .ref it, rawInt i, res], []⟩) R s
  | [], i, acc, s, hit, hl, hd, _, hm, hz, hR => by
    refine codeAny_builtin entry_upd_loop ?_
    rw [Around.under_plainId plain_upd_loop _]
    show wpAny _ A.in1 (pyNext (.ref it) >>= _) _ _ s
    have hx : items.toArray[i]? = none := by
      have : items.length ≤ i := by simpa using hd
      simp [this]
    refine wpAny_bind (wpAny_pyNext_list_end (show A.in1.handled = none from hh) hit hl hx fun h' ex => ?_)
    refine wpAny_bind (wpAny_pure ?_)
    refine wpAny_pure ?_
    obtain ⟨o, es, ep, a1, a2⟩ := hm
    exact hR h' s.toks ⟨o, es, ep, ex _ _ ndi a1, a2⟩ fun b o nb nt q => ex b o nt q
  | (t, k, key, v) :: rs, i, acc, s, hit, hl, hd, hr, hm, hz, hR => by
    refine codeAny_builtin entry_upd_loop ?_
    rw [Around.under_plainId plain_upd_loop _]
    show wpAny _ A.in1 (pyNext (.ref it) >>= _) _ _ s
    have hx : items.toArray[i]? = some (.ref t) := by
      have := congrArg List.head? hd
      rw [List.head?_drop] at this
      simpa using this
    have hd' : items.drop (i + 1) = rs.map (fun r => Value.ref r.1) := by
      rw [← List.tail_drop, hd]; rfl
    obtain ⟨⟨ot, ho, hc, n, hdt⟩, hk, nd, ni⟩ := hr _ (List.mem_cons_self ..)
    refine wpAny_bind (wpAny_pyNext_list_item hit hl hx fun h1 hit1 sb1 => ?_)
    have k1 : ∀ b o, b ≠ it → s.heap.get? b = some o → h1.get? b = some o := fun b o nb q => (sb1.2 b nb).trans q
    refine wpAny_bind (wpAny_holding ?_)
    refine wpAny_bind (wpAny_tryCatch ?_)
    have hT : (⟨h1, s.gens, s.drawn, s.toks, s.os⟩ : Shared).TypeIs (.ref t) "tuple" := ⟨ot, k1 _ _ ni ho, hc⟩
    unfold Builtin.Dict.pairItems
    refine wpAny_bind (wpAny_typeOf hT ?_)
    rw [if_pos (by decide)]
    refine wpAny_bind (wpAny_seqItems (k1 _ _ ni ho) hdt (wpAny_pure ?_))
    show wpAny _ A.in1 (holding [key, v] (dictSet d key v)) _ _ _
    obtain ⟨od, es, ep, a1, a2⟩ := hm
    have hm1 : h1.DictOf knd d acc := ⟨od, es, ep, k1 _ _ ndi a1, a2⟩
    have hz0 : acc.length + (rs.length + 1) ≤ sizeLine := hz
    refine wpAny_holding (wpAny_dictSet_pairs hk hm1 (fun h2 hm2 sb2 => ?_) (by omega))
    have k2 : ∀ b o, b ≠ d → h1.get? b = some o → h2.get? b = some o := fun b o nb q => (sb2.2 b nb).trans q
    refine wpAny_pure ⟨plainId_quiet plain_upd_loop _, ?_⟩
    have key : ∀ j : Int, rawInt (j + 1) = rawInt (j + 1) := fun _ => rfl
    have e1 : rawInt ((i : Int) + 1) = rawInt ((i + 1 : Nat) : Int) := by rw [Int.natCast_add]; rfl
    show codeAny (model prog w) A (.builtin "dict.update.loop" ⟨[.ref d, .ref it, rawInt ((i : Int) + 1), res], []⟩) R _
    rw [e1]
    obtain ⟨oi, b1, b2⟩ := hit1
    obtain ⟨ol, c1, c2⟩ := hl
    refine upd_loop hh ndi nld nli rs (i + 1) (stored acc k v) _ ⟨oi, k2 _ _ (Ne.symm ndi) b1, b2⟩ ⟨ol, k2 _ _ nld (k1 _ _ nli c1), c2⟩ hd' (fun r hrm => ?_) hm2 ?_ fun h' tk x y => hR h' tk x fun b o nb nt q => y b o nb nt (k2 _ _ nb (k1 _ _ nt q))
    · obtain ⟨⟨ob, d1, d2⟩, d3, d4, d5⟩ := hr r (List.mem_cons_of_mem _ hrm)
      exact ⟨⟨ob, k2 _ _ d4 (k1 _ _ d5 d1), d2⟩, d3, d4, d5⟩
    · have := stored_length_le acc k v
      omega
end
section
variable {prog : Program} {w : World} {κ : Type} [DecidableEq κ] {knd : KeyKind prog w κ} {A : Around} {E : Value → Shared → Prop} {s : Shared}
theorem dictOf_pairs {l : Addr} {items : List Value} {c : Nat} {rs : List (Addr × κ × Value × Value)} {Q : Value → Shared → Prop} (hh : A.handled = none) (hl : s.heap.get? l = some (seqObj "list" items.toArray c)) (hi : items = rs.map (fun r => Value.ref r.1))
    (hr : ∀ r ∈ rs, s.heap.IsTuple r.1 #[r.2.2.1, r.2.2.2] ∧ knd.is r.2.1 r.2.2.1 = true) (hz : rs.length ≤ sizeLine)
    (h : ∀ d h' tk, s.heap.objs.size ≤ d → h'.DictOf knd d (rs.foldl (fun a r => stored a r.2.1 r.2.2.2) []) → (∀ b o, s.heap.get? b = some o → h'.get? b = some o) → Q (.ref d) { s with heap := h', toks := tk }) :
    wpAny (model prog w) A (call (.type "dict") [.ref l]) Q E s := by
  refine callType_codes (Q₁ := fun obj s₁ => obj = .ref s.heap.objs.size ∧ s₁ = { s with heap := s.heap.push { cls := .type "dict", data := .dict #[] } }) F.kt_called_dict (F.kt_typeCall_dict_1 _) F.entry_dict_init (kt_code_dict_new _ ⟨rfl, rfl⟩) ?_
  rintro obj s₁ ⟨rfl, rfl⟩
  have hnew : (s.heap.push { cls := .type "dict", data := .dict #[] }).DictOf knd s.heap.objs.size [] := Heap.DictOf.new s.heap
  have k1 : ∀ b o, s.heap.get? b = some o → b ≠ s.heap.objs.size ∧ (s.heap.push { cls := .type "dict", data := .dict #[] }).get? b = some o := fun b o q => ⟨Nat.ne_of_lt (Heap.lt_size q), Heap.get?_push_of_some _ q⟩
  generalize hd : s.heap.objs.size = d at hnew k1
  have ld : s.heap.objs.size ≤ d := Nat.le_of_eq hd
  generalize s.heap.push { cls := .type "dict", data := .dict #[] } = g1 at hnew k1
  refine ⟨hnew.typeIs, F.args_dict_init_2 _ _, ?_⟩
  unfold Builtin.«dict.__init__»
  refine wpAny_bind ?_
  unfold Builtin.Dict.selfAndRest
  refine wpAny_bind (wpAny_notOrdered_dict hnew.typeIs ?_)
  show wpAny _ _ (pure (d, [Value.ref l])) _ _ _
  refine wpAny_pure ?_
  show wpAny _ _ (Builtin.Dict.updateFrom "dict.__init__" d (.ref l) [] .none) _ _ _
  unfold Builtin.Dict.updateFrom
  have hl1 := (k1 _ _ hl).2
  refine wpAny_bind (wpAny_typeOf (show (⟨g1, s.gens, s.drawn, s.toks, s.os⟩ : Shared).TypeIs (.ref l) "list" from ⟨_, hl1, rfl⟩) ?_)
  rw [if_pos (by decide)]
  refine wpAny_bind (nk_attr (show A.in1.in1.handled = none from hh) hl1 fun g2 tk k2 => ?_)
  rw [show (none : Option Value).isNone = true from rfl, if_pos rfl]
  refine wpAny_bind (wpAny_rule ?_)
  have hl2 := k2 _ _ hl1
  refine wpAny_bind (wpAny_pyIter_list (items := items.toArray) ⟨_, hl2, rfl, _, rfl⟩ ?_)
  obtain ⟨od, es, ep, a1, a2⟩ := hnew
  have nit : ∀ b o, g2.get? b = some o → b ≠ g2.objs.size := fun b o q => Nat.ne_of_lt (Heap.lt_size q)
  have k3 : ∀ b o, g2.get? b = some o → (g2.push { cls := .type "list_iterator", data := .fields #[.ref l, .int 0 0] }).get? b = some o := fun b o q => Heap.get?_push_of_some _ q
  refine wpAny_pure ⟨plainId_quiet plain_upd_loop _, ?_⟩
  refine upd_loop (knd := knd) (items := items) (show A.in1.handled = none from hh) (nit _ _ (k2 _ _ a1)) (k1 _ _ hl).1 (nit _ _ hl2) rs 0 [] _ ⟨_, Heap.get?_push_size _ rfl, rfl, rfl⟩ ⟨_, k3 _ _ hl2, rfl, _, rfl⟩ (by rw [List.drop_zero]; exact hi) (fun r hrm => ?_) ⟨od, es, ep, k3 _ _ (k2 _ _ a1), a2⟩ (by rw [List.length_nil]; omega) fun h' tk' x y => ⟨rfl, h d h' tk' ld x fun b o q => y b o (k1 _ _ q).1 (nit _ _ (k2 _ _ (k1 _ _ q).2)) (k3 _ _ (k2 _ _ (k1 _ _ q).2))⟩
  obtain ⟨⟨ob, d1, d2⟩, d3⟩ := hr r hrm
  exact ⟨⟨ob, k3 _ _ (k2 _ _ (k1 _ _ d1).2), d2⟩, d3, (k1 _ _ d1).1, nit _ _ (k2 _ _ (k1 _ _ d1).2)⟩
end
theorem foldl_merged {κ : Type} [DecidableEq κ] (rs : List (Addr × κ × Value × Value)) : rs.foldl (fun a r => stored a r.2.1 r.2.2.2) [] = merged [] (rs.map fun r => (r.2.1, r.2.2.2)) := by
  unfold merged
  rw [List.foldl_map]
def RowAt (H : Hp) (v : V) (r : Key × V) : Prop := ∃ t, v = .ref t ∧ H t = some (.tup [kV r.1, r.2])
theorem rows_at {P : Program} {w : World} {H : Hp} {h : Heap} (ok : HOk P w H h) : ∀ {vs : List V} {rows : List (Key × V)} {us : List Value}, Paired (RowAt H) vs rows → Vals vs us →
    ∃ rs : List (Addr × Key × Value × Value), us = rs.map (fun r => Value.ref r.1) ∧ (∀ r ∈ rs, h.IsTuple r.1 #[r.2.2.1, r.2.2.2] ∧ (mixKind P w).is r.2.1 r.2.2.1 = true) ∧ KV rows (rs.map fun r => (r.2.1, r.2.2.2)) ∧ rs.length = rows.length
  | _, _, _, .nil, .nil => ⟨[], rfl, (fun _ h => by cases h), .nil, rfl⟩
  | _, _, _, .cons ⟨t, e, ht⟩ p, .cons r q => by
    obtain ⟨rs, h1, h2, h3, h4⟩ := rows_at ok p q
    subst e
    cases r
    obtain ⟨_, its, rv, o, ho, hc, n, hd⟩ := ok t _ ht
    cases rv with
    | cons a1 rv =>
      rename_i u1 us1
      cases rv with
      | cons a2 rv =>
        rename_i u2 us2
        cases rv
        refine ⟨(t, _, u1, u2) :: rs, by rw [h1]; rfl, fun r hr => ?_, .cons ⟨rfl, a2⟩ h3, by rw [List.length_cons, h4]; rfl⟩
        rcases List.mem_cons.mp hr with e | e
        · rw [e]; exact ⟨⟨o, ho, hc, n, hd⟩, kV_is a1⟩
        · exact h2 r e
/-- dict(l): l a list of pairs with keys apart -/
def rDictP : List V → Hp → VK → Prop := fun xs H Q => ∃ l vs rows, xs = [.ref l] ∧ H l = some (.lst vs) ∧ Paired (RowAt H) vs rows ∧ (rows.map (·.1)).Nodup ∧ rows.length < 1000 ∧ ∀ d, H d = none → Q (.ref d) (upd H d (.dK rows))
theorem call_dictP {X : Cx} (hc : X.calm = true) : CallR X (.type "dict") rDictP := by
  intro pins s σ H xs us Q I r h
  obtain ⟨l, vs, rows, rfl, hl, pr, nd, hz, q⟩ := h
  obtain ⟨u, rfl, rx⟩ := vals1 r
  cases rx
  obtain ⟨_, its, n, rv, ho⟩ := (show ObjOk X.prog X.w H s.heap l (.lst vs) from I.hok l _ hl)
  obtain ⟨rs, h1, h2, h3, h4⟩ := rows_at I.hok pr rv
  have zz : rows.length ≤ sizeLine := Nat.le_of_lt (small1000 (Nat.le_of_lt hz))
  refine dictOf_pairs (knd := mixKind X.prog X.w) (I.ok.hd hc) ho h1 h2 (by rw [h4]; exact zz) fun d h' tk ld hd kp => ?_
  rw [foldl_merged, merged_nil_of_nodup _ (by rw [← KV.keys h3]; exact nd)] at hd
  have fr := I.hok.fresh ld
  refine ⟨.ref d, _, I.laid (t' := tk) kp ld (dk_new zz ?_ h3 hd), rfl, q d fr⟩
  have hb := I.big
  exact beq_eq_false_iff_ne.mpr (Nat.ne_of_gt (Nat.lt_of_lt_of_le hb ld))
theorem op_neK {X : Cx} {K : PySem.W.Frag} (h : X.K = K) (hu : X.A.units + 64 < cLine) : OpR X (compareOp .NotEq) (fun x y H Q => ∃ d e, RepK K H x d ∧ RepK K H y e ∧ SeqAt.shaped d = true ∧ SeqAt.shaped e = true ∧ Q (.bl (!PyData.eqv d e)) H) := by
  subst h
  intro pins s σ H x y v u Q I rx ry h
  obtain ⟨d, e, p, p', sd, se, q⟩ := h
  obtain ⟨as, r1⟩ := p.reads I rx
  obtain ⟨bs, r2⟩ := p'.reads I ry
  exact ne_dataH r1 r2 sd se hu ⟨.bl (!PyData.eqv d e), H, I, rfl, q⟩
/-- isinstance(t, tuple), t a tuple of the heap or of the text -/
def rIsiT (K : PySem.W.Frag) : List V → Hp → VK → Prop := fun xs H Q => ∃ a ys, xs = [.ref a, .ty "tuple"] ∧ SqT K H a ys ∧ Q (.bl true) H
theorem call_isiT {X : Cx} : CallR X (.builtin "isinstance") (rIsiT X.K) := by
  intro pins s σ H xs us Q I r h
  obtain ⟨a, ys, rfl, hs, q⟩ := h
  cases r with
  | cons r1 r =>
    cases r with
    | cons r2 r =>
      cases r
      cases r1
      cases r2
      obtain ⟨its, rv, ⟨o, ho, hc, n, hd⟩, _⟩ := I.tuple hs
      exact PySem.W.kia_one PySem.W.kitx_tuple I.kIn ⟨o, ho, hc⟩ (by rfl : PySem.W.kitOne X.K (.type "tuple") (.type "tuple") = some true) (fun z => nomatch z) fun tk => ⟨.bl true, H, I.tok tk, rfl, q⟩
end L2

set_option Elab.async false
set_option linter.all false
set_option maxRecDepth 100000
set_option maxHeartbeats 1000000
/-! ### methods that may raise; isinstance(x, (int, str)) -/
namespace L2
open PySem PySem.Spec PyProof.Rows
structure GoodMX (P : Program) (w : World) (K : PySem.W.Frag) (mg : Str → Option Value) (base : Heap) (C : Addr) (m : Str) (k : Nat) (ps : List Str) (sp : Sp) : Prop where
  ex : ∃ (f : Addr) (fd : FuncData), Meth K C m f ∧ Binds K fd ps [] ∧ FnOk P w K mg base (CX1 P w) k f fd ps sp
theorem CodeM.goodX {P : Program} {w : World} {K : PySem.W.Frag} {mg : Str → Option Value} {base : Heap} {C : Addr} {m qn : Str} {st : Stmt} {ps N : List Str} {k : Nat} {sp : Sp} (c : CodeM K C m qn st ps) (S : FnScope N ps (defScope st)) (len : ∀ vs H Q E, sp vs H Q E → vs.length = ps.length)
    (hbody : ∀ (X : Cx) (f : Addr) (cdv : Value) (A : Around) (outer : List Env) (s : Shared) (H : Hp) (vs : List V) (Q : VK) (E : XK), X = cxOf (CX1 P w) P w K mg base N qn (defScope st) f cdv A outer s H E → PassX X (fun _ => E) → Room k X.A → sp vs H Q E →
      ∃ t, PSs X (defBody st) t ∧ t { nx := fun _ H' => Q .non H', rt := Q } (start N vs) H) : GoodMX P w K mg base C m (k + 1) ps sp := by
  obtain ⟨f, fd, F, M, b⟩ := c.ex
  refine ⟨f, fd, M, b, ?_⟩
  obtain ⟨oc, od, kV, doc, pm, an, cdv, ct, osl, rfl, lk, hcd⟩ := F.ex
  exact fn_of lk hcd S len fun A outer s H vs Q E hr hsp => hbody _ f cdv A outer s H vs Q E rfl pass_def hr hsp
def tMethX (C : Addr) (m : Str) (sp : Sp) (EX : St → XK) (ta : TE) (t : TA) : TE := fun σ H Q => ta σ H fun x H1 => ∃ a dx fs, x = .ref a ∧ H1 a = some (.ins C dx fs) ∧ fs.lookup m = none ∧ t σ H1 fun vs H2 => sp (x :: vs) H2 Q (EX σ)
theorem pmethX {X : Cx} {EX : St → XK} {pl : Sem Bool} {k k' : Nat} {C : Addr} {ps : List Str} {sp : Sp} {m : Str} {apos pos : Pos} {o e : Expr} {es : List Expr} {ta : TE} {t : TA} (he0 : PE X o ta) (c : Cls X.K C) (g : GoodMX X.prog X.w X.K X.mg X.base C m k ps sp) (hr : Room k' X.A) (hx : PassX X EX) (ha : PA X (e :: es) t) (hk : k ≤ k' := by decide)
    (hst : starEach (e :: es) X.env = (false, eval e X.env) :: starEach es X.env := by rfl) (hpl : (backTo pos (starEach es X.env)).any (·.1) = false := by rfl)
    (ht : eval (.Call (.Attribute o m apos) (e :: es) [] pos) X.env = (do
      let ov ← eval o X.env
      standAt apos.atName
      let (f, first) ← holding [ov] (getMethod ov m pl)
      callWith pos f first (backTo pos (starEach (e :: es) X.env)) (backToKw pos (keywordEach [] X.env))) := by rfl) :
    PE X (.Call (.Attribute o m apos) (e :: es) [] pos) (tMethX C m sp EX ta t) := by
  intro pins s σ H Q I h
  obtain ⟨f, fd, hm, b, F⟩ := g.ex
  refine PySem.W.methodCall_KW (pl := pl) (thn (he0 pins s σ H _ I h) fun u s1 ⟨x, H1, I1, rx, a, dx, fs, ex, ea, l, q⟩ => ?_) ht
  subst ex
  obtain rfl : u = Value.ref a := rx
  refine getmeth_ok I1 ea c hm l ?_
  refine PySem.W.callWith_K (first := [.ref a]) (h₀ := X.base) I.ok.mod.kin hm.kp (thn (ha pos pins s1 σ H1 _ I1 q) fun us s2 ⟨vs, H2, I2, r, q2⟩ => ⟨I2.kIn, ?_⟩) hst hpl
  have r' : Vals (.ref a :: vs) (Value.ref a :: us) := .cons rfl r
  have hl : (Value.ref a :: us).length = ps.length := by rw [← r'.length]; exact F.len _ _ _ _ q2
  have bd := b s2 (Value.ref a :: us) I2.kIn (by rw [List.append_nil]; exact hl)
  rw [List.append_nil] at bd
  refine wpAny_call (codeAny_mono (F.run X.A X.stack s2 H2 ⟨Value.ref a :: us, []⟩ (Value.ref a :: us) (.ref a :: vs) Q (EX σ) (hr.mono hk) I2.env0 bd r' q2) fun rr s' hq => ?_)
  cases rr with
  | error ev => exact hx pins σ H2 s2 ev s' I2 hq
  | ok fl =>
    cases fl with
    | ret u => exact I2.after hq
    | next => exact False.elim hq
    | brk => exact False.elim hq
    | cont => exact False.elim hq
/-- isinstance(x, (int, str)), x one of these -/
def rIsi2 : List V → Hp → VK → Prop := fun xs H Q => ∃ x tp, xs = [x, .ref tp] ∧ H tp = some (.tup [.ty "int", .ty "str"]) ∧ ((∃ i, x = .int i) ∨ ∃ y, x = .str y) ∧ Q (.bl true) H
theorem call_isi2 {X : Cx} : CallR X (.builtin "isinstance") rIsi2 := by
  intro pins s σ H xs us Q I r h
  obtain ⟨x, tp, rfl, ht, hx, q⟩ := h
  obtain ⟨u, w', rfl, rx, rt⟩ := vals2 r
  cases rt
  obtain ⟨_, its, rv, o, ho, hc, n, hd⟩ := (show ObjOk X.prog X.w H s.heap tp (.tup [.ty "int", .ty "str"]) from I.hok tp _ ht)
  obtain ⟨u1, u2, rfl, r1, r2⟩ := vals2 rv
  cases r1
  cases r2
  obtain ⟨oc, od, oa, os⟩ := o
  cases hc
  cases hd
  rcases hx with ⟨i, rfl⟩ | ⟨y, rfl⟩
  · obtain ⟨t, rfl⟩ := (show ∃ t, u = Value.int i t from rx)
    exact PySem.W.kia_tup PySem.W.kitx_int I.kIn True.intro ho (by rfl) (fun z => nomatch z) fun tk => ⟨.bl true, H, I.tok tk, rfl, q⟩
  · obtain ⟨t, rfl⟩ := (show ∃ t, u = Value.str y t from rx)
    exact PySem.W.kia_tup PySem.W.kitx_str I.kIn True.intro ho (by rfl) (fun z => nomatch z) fun tk => ⟨.bl true, H, I.tok tk, rfl, q⟩
end L2

set_option Elab.async false
set_option linter.all false
set_option maxRecDepth 100000
set_option maxHeartbeats 1000000
/-! ### dict(t), t a tuple of pairs -/
namespace L2
open PySem PySem.Spec PyProof.Rows
theorem lk_tuple_keys : typeLookup (.type "tuple") "keys" = pure none := by rw [typeLookup_type, builtinLookup_eq_fast]; kernel_rfl
theorem lk_tuple_hook : typeLookup (.type "tuple") "__getattr__" = pure none := by rw [typeLookup_type, builtinLookup_eq_fast]; kernel_rfl
section
variable {prog : Program} {w : World} {A : Around} {E : Value → Shared → Prop} {h : Heap} {g : Array GenState} {d : Drawn} {t : Nat} {os : OsState} {a : Addr} {xs : Array Value} {c : Nat} {ob : Obj}
theorem tk_entry {tk : Tok} {Q : Fin → Shared → Prop} (hh : A.handled = none) (hx : h.get? a = some ob) (hcl : ob.cls = .type "tuple") (hdn : ob.dict = none) (hda : ob.data = .seq xs c) (hq : ∀ h' tk' e o, (∀ b u, h.get? b = some u → h'.get? b = some u) → h'.get? e = some o → o.cls = .type "AttributeError" → E (.ref e) ⟨h', g, d, tk', os⟩) :
    wpAny (model prog w) A (Builtin.«object.__getattribute__» ⟨[.ref a, .str "keys" tk], []⟩) Q E ⟨h, g, d, t, os⟩ := by
  obtain ⟨oc, od, oa, osl⟩ := ob
  cases hcl
  cases hdn
  cases hda
  have hT : (⟨h, g, d, t, os⟩ : Shared).TypeIs (.ref a) "tuple" := ⟨_, hx, rfl⟩
  have f4 := lk_tuple_keys
  repeat (any_goals (first | assumption | wp_step))
  exact raise_ae (Nat.le_of_lt (small1000 (by decide +kernel))) hh fun h' tk' e o k1 k2 k3 => hq h' tk' e o k1 k2 k3
theorem tk_call {tk : Tok} {R : Result → Shared → Prop} (hh : A.handled = none) (hx : h.get? a = some ob) (hcl : ob.cls = .type "tuple") (hdn : ob.dict = none) (hda : ob.data = .seq xs c) (hq : ∀ h' tk' e o, (∀ b u, h.get? b = some u → h'.get? b = some u) → h'.get? e = some o → o.cls = .type "AttributeError" → R (.error (.ref e)) ⟨h', g, d, tk', os⟩) :
    codeAny (model prog w) A (.call (.builtin "tuple.__getattribute__") ⟨[.ref a, .str "keys" tk], []⟩) R ⟨h, g, d, t, os⟩ :=
  codeAny_call_builtin F.slot_tuple_getattribute.plain F.entry_tuple_ga (F.slot_tuple_getattribute.check _ _ _ _ _ _ _ _ (show (⟨h, g, d, t, os⟩ : Shared).TypeIs (.ref a) "tuple" from ⟨_, hx, hcl⟩) (F.args_tuple_getattribute_2 _ _) (tk_entry hh hx hcl hdn hda hq))
theorem tk_by {tk : Tok} {Q : Value → Shared → Prop} (hh : A.handled = none) (hx : h.get? a = some ob) (hcl : ob.cls = .type "tuple") (hdn : ob.dict = none) (hda : ob.data = .seq xs c) (hq : ∀ h' tk' e o, (∀ b u, h.get? b = some u → h'.get? b = some u) → h'.get? e = some o → o.cls = .type "AttributeError" → E (.ref e) ⟨h', g, d, tk', os⟩) : wpAny (model prog w) A (getAttrBy (.ref a) (.str "keys" tk) false) Q E ⟨h, g, d, t, os⟩ := by
  have hT : (⟨h, g, d, t, os⟩ : Shared).TypeIs (.ref a) "tuple" := ⟨_, hx, hcl⟩
  have f2 := F.slot_tuple_getattribute.lookup
  have f3 := F.slot_tuple_getattribute.bind (.ref a)
  have f5 := lk_tuple_hook
  repeat (any_goals (first | assumption | wp_step))
  refine tk_call hh hx hcl hdn hda fun h' tk' e o k1 k2 k3 => ?_
  have hT2 : (⟨h', g, d, tk', os⟩ : Shared).TypeIs (.ref e) "AttributeError" := ⟨_, k2, k3⟩
  have f6 := sub_ae
  repeat (any_goals (first | assumption | wp_step))
  all_goals exact hq h' tk' e o k1 k2 k3
theorem tk_attr {Q : Option Value → Shared → Prop} (hh : A.handled = none) (hx : h.get? a = some ob) (hcl : ob.cls = .type "tuple") (hdn : ob.dict = none) (hda : ob.data = .seq xs c) (hq : ∀ h' tk', (∀ b u, h.get? b = some u → h'.get? b = some u) → Q none ⟨h', g, d, tk', os⟩) : wpAny (model prog w) A (getAttr? (.ref a) "keys") Q E ⟨h, g, d, t, os⟩ := by
  unfold getAttr? getAttrBy?
  refine wpAny_bind (wpAny_mkText (wpAny_bind (wpAny_attempt ?_)))
  refine tk_by hh hx hcl hdn hda fun h' tk' e o k1 k2 k3 => ?_
  have hT2 : (⟨h', g, d, tk', os⟩ : Shared).TypeIs (.ref e) "AttributeError" := ⟨_, k2, k3⟩
  refine wpAny_bind (wpAny_isInstance hT2 sub_ae ?_)
  rw [if_pos rfl]
  exact wpAny_pure (hq _ _ k1)
end
section
variable {prog : Program} {w : World} {κ : Type} [DecidableEq κ] {knd : KeyKind prog w κ} {A : Around} {E : Value → Shared → Prop} {s : Shared} {R : Result → Shared → Prop}
theorem upd_loopT {d it l : Addr} {items : List Value} {res : Value} (hh : A.handled = none) (ndi : d ≠ it) (nld : l ≠ d) (nli : l ≠ it) : ∀ (rs : List (Addr × κ × Value × Value)) (i : Nat) (acc : List (κ × Value)) (s : Shared), s.heap.IsTupleIter it l i → s.heap.IsTuple l items.toArray →
    items.drop i = rs.map (fun r => Value.ref r.1) → (∀ r ∈ rs, s.heap.IsTuple r.1 #[r.2.2.1, r.2.2.2] ∧ knd.is r.2.1 r.2.2.1 = true ∧ r.1 ≠ d ∧ r.1 ≠ it) → s.heap.DictOf knd d acc → acc.length + rs.length ≤ sizeLine →
    (∀ h' tk, h'.DictOf knd d (rs.foldl (fun a r => stored a r.2.1 r.2.2.2) acc) → (∀ b o, b ≠ d → b ≠ it → s.heap.get? b = some o → h'.get? b = some o) → R (.ok (.ret res)) { s with heap := h', toks := tk }) →
    codeAny (model prog w) A (.builtin "dict.update.loop" ⟨[.ref d, .ref it, rawInt i, res], []⟩) R s
  | [], i, acc, s, hit, hl, hd, _, hm, hz, hR => by
    refine codeAny_builtin entry_upd_loop ?_
    rw [Around.under_plainId plain_upd_loop _]
    show wpAny _ A.in1 (pyNext (.ref it) >>= _) _ _ s
    have hx : items.toArray[i]? = none := by
      have : items.length ≤ i := by simpa using hd
      simp [this]
    refine wpAny_bind (wpAny_pyNext_tuple_end (show A.in1.handled = none from hh) hit hl hx fun h' ex => ?_)
    refine wpAny_bind (wpAny_pure ?_)
    refine wpAny_pure ?_
    obtain ⟨o, es, ep, a1, a2⟩ := hm
    exact hR h' s.toks ⟨o, es, ep, ex _ _ ndi a1, a2⟩ fun b o nb nt q => ex b o nt q
  | (t, k, key, v) :: rs, i, acc, s, hit, hl, hd, hr, hm, hz, hR => by
    refine codeAny_builtin entry_upd_loop ?_
    rw [Around.under_plainId plain_upd_loop _]
    show wpAny _ A.in1 (pyNext (.ref it) >>= _) _ _ s
    have hx : items.toArray[i]? = some (.ref t) := by
      have := congrArg List.head? hd
      rw [List.head?_drop] at this
      simpa using this
    have hd' : items.drop (i + 1) = rs.map (fun r => Value.ref r.1) := by
      rw [← List.tail_drop, hd]; rfl
    obtain ⟨⟨ot, ho, hc, n, hdt⟩, hk, nd, ni⟩ := hr _ (List.mem_cons_self ..)
    refine wpAny_bind (wpAny_pyNext_tuple_item hit hl hx fun h1 hit1 sb1 => ?_)
    have k1 : ∀ b o, b ≠ it → s.heap.get? b = some o → h1.get? b = some o := fun b o nb q => (sb1.2 b nb).trans q
    refine wpAny_bind (wpAny_holding ?_)
    refine wpAny_bind (wpAny_tryCatch ?_)
    have hT : (⟨h1, s.gens, s.drawn, s.toks, s.os⟩ : Shared).TypeIs (.ref t) "tuple" := ⟨ot, k1 _ _ ni ho, hc⟩
    unfold Builtin.Dict.pairItems
    refine wpAny_bind (wpAny_typeOf hT ?_)
    rw [if_pos (by decide)]
    refine wpAny_bind (wpAny_seqItems (k1 _ _ ni ho) hdt (wpAny_pure ?_))
    show wpAny _ A.in1 (holding [key, v] (dictSet d key v)) _ _ _
    obtain ⟨od, es, ep, a1, a2⟩ := hm
    have hm1 : h1.DictOf knd d acc := ⟨od, es, ep, k1 _ _ ndi a1, a2⟩
    have hz0 : acc.length + (rs.length + 1) ≤ sizeLine := hz
    refine wpAny_holding (wpAny_dictSet_pairs hk hm1 (fun h2 hm2 sb2 => ?_) (by omega))
    have k2 : ∀ b o, b ≠ d → h1.get? b = some o → h2.get? b = some o := fun b o nb q => (sb2.2 b nb).trans q
    refine wpAny_pure ⟨plainId_quiet plain_upd_loop _, ?_⟩
    have key : ∀ j : Int, rawInt (j + 1) = rawInt (j + 1) := fun _ => rfl
    have e1 : rawInt ((i : Int) + 1) = rawInt ((i + 1 : Nat) : Int) := by rw [Int.natCast_add]; rfl
    show codeAny (model prog w) A (.builtin "dict.update.loop" ⟨[.ref d, .ref it, rawInt ((i : Int) + 1), res], []⟩) R _
    rw [e1]
    obtain ⟨oi, b1, b2⟩ := hit1
    obtain ⟨ol, c1, c2⟩ := hl
    refine upd_loopT hh ndi nld nli rs (i + 1) (stored acc k v) _ ⟨oi, k2 _ _ (Ne.symm ndi) b1, b2⟩ ⟨ol, k2 _ _ nld (k1 _ _ nli c1), c2⟩ hd' (fun r hrm => ?_) hm2 ?_ fun h' tk x y => hR h' tk x fun b o nb nt q => y b o nb nt (k2 _ _ nb (k1 _ _ nt q))
    · obtain ⟨⟨ob, d1, d2⟩, d3, d4, d5⟩ := hr r (List.mem_cons_of_mem _ hrm)
      exact ⟨⟨ob, k2 _ _ d4 (k1 _ _ d5 d1), d2⟩, d3, d4, d5⟩
    · have := stored_length_le acc k v
      omega
theorem dictOf_pairsT {l : Addr} {items : List Value} {ob : Obj} {c : Nat} {rs : List (Addr × κ × Value × Value)} {Q : Value → Shared → Prop} (hh : A.handled = none) (hl : s.heap.get? l = some ob) (hcl : ob.cls = .type "tuple") (hdn : ob.dict = none) (hda : ob.data = .seq items.toArray c) (hi : items = rs.map (fun r => Value.ref r.1))
    (hr : ∀ r ∈ rs, s.heap.IsTuple r.1 #[r.2.2.1, r.2.2.2] ∧ knd.is r.2.1 r.2.2.1 = true) (hz : rs.length ≤ sizeLine)
    (h : ∀ d h' tk, s.heap.objs.size ≤ d → h'.DictOf knd d (rs.foldl (fun a r => stored a r.2.1 r.2.2.2) []) → (∀ b o, s.heap.get? b = some o → h'.get? b = some o) → Q (.ref d) { s with heap := h', toks := tk }) :
    wpAny (model prog w) A (call (.type "dict") [.ref l]) Q E s := by
  refine callType_codes (Q₁ := fun obj s₁ => obj = .ref s.heap.objs.size ∧ s₁ = { s with heap := s.heap.push { cls := .type "dict", data := .dict #[] } }) F.kt_called_dict (F.kt_typeCall_dict_1 _) F.entry_dict_init (kt_code_dict_new _ ⟨rfl, rfl⟩) ?_
  rintro obj s₁ ⟨rfl, rfl⟩
  have hnew : (s.heap.push { cls := .type "dict", data := .dict #[] }).DictOf knd s.heap.objs.size [] := Heap.DictOf.new s.heap
  have k1 : ∀ b o, s.heap.get? b = some o → b ≠ s.heap.objs.size ∧ (s.heap.push { cls := .type "dict", data := .dict #[] }).get? b = some o := fun b o q => ⟨Nat.ne_of_lt (Heap.lt_size q), Heap.get?_push_of_some _ q⟩
  generalize hd : s.heap.objs.size = d at hnew k1
  have ld : s.heap.objs.size ≤ d := Nat.le_of_eq hd
  generalize s.heap.push { cls := .type "dict", data := .dict #[] } = g1 at hnew k1
  refine ⟨hnew.typeIs, F.args_dict_init_2 _ _, ?_⟩
  unfold Builtin.«dict.__init__»
  refine wpAny_bind ?_
  unfold Builtin.Dict.selfAndRest
  refine wpAny_bind (wpAny_notOrdered_dict hnew.typeIs ?_)
  show wpAny _ _ (pure (d, [Value.ref l])) _ _ _
  refine wpAny_pure ?_
  show wpAny _ _ (Builtin.Dict.updateFrom "dict.__init__" d (.ref l) [] .none) _ _ _
  unfold Builtin.Dict.updateFrom
  have hl1 := (k1 _ _ hl).2
  refine wpAny_bind (wpAny_typeOf (show (⟨g1, s.gens, s.drawn, s.toks, s.os⟩ : Shared).TypeIs (.ref l) "tuple" from ⟨_, hl1, hcl⟩) ?_)
  rw [if_pos (by decide)]
  refine wpAny_bind (tk_attr (show A.in1.in1.handled = none from hh) hl1 hcl hdn hda fun g2 tk k2 => ?_)
  rw [show (none : Option Value).isNone = true from rfl, if_pos rfl]
  refine wpAny_bind (wpAny_rule ?_)
  have hl2 := k2 _ _ hl1
  refine wpAny_bind (wpAny_pyIter_tuple (items := items.toArray) ⟨_, hl2, hcl, _, hda⟩ ?_)
  obtain ⟨od, es, ep, a1, a2⟩ := hnew
  have nit : ∀ b o, g2.get? b = some o → b ≠ g2.objs.size := fun b o q => Nat.ne_of_lt (Heap.lt_size q)
  have k3 : ∀ b o, g2.get? b = some o → (g2.push { cls := .type "tuple_iterator", data := .fields #[.ref l, .int 0 0] }).get? b = some o := fun b o q => Heap.get?_push_of_some _ q
  refine wpAny_pure ⟨plainId_quiet plain_upd_loop _, ?_⟩
  refine upd_loopT (knd := knd) (items := items) (show A.in1.handled = none from hh) (nit _ _ (k2 _ _ a1)) (k1 _ _ hl).1 (nit _ _ hl2) rs 0 [] _ ⟨_, Heap.get?_push_size _ rfl, rfl, rfl⟩ ⟨_, k3 _ _ hl2, hcl, _, hda⟩ (by rw [List.drop_zero]; exact hi) (fun r hrm => ?_) ⟨od, es, ep, k3 _ _ (k2 _ _ a1), a2⟩ (by rw [List.length_nil]; omega) fun h' tk' x y => ⟨rfl, h d h' tk' ld x fun b o q => y b o (k1 _ _ q).1 (nit _ _ (k2 _ _ (k1 _ _ q).2)) (k3 _ _ (k2 _ _ (k1 _ _ q).2))⟩
  obtain ⟨⟨ob, d1, d2⟩, d3⟩ := hr r hrm
  exact ⟨⟨ob, k3 _ _ (k2 _ _ (k1 _ _ d1).2), d2⟩, d3, (k1 _ _ d1).1, nit _ _ (k2 _ _ (k1 _ _ d1).2)⟩
end
def Tp (o : Obj) : Prop := o.cls = .type "tuple" ∧ o.dict = none
def rTupF (K : PySem.W.Frag) : List V → Hp → VK → Prop := fun xs H Q => ∃ p ys, xs = [.ref p] ∧ SqL K H p ys ∧ ∀ l o, H l = none → Tp o → Q (.ref l) (upd H l (.frz o (.tup ys)))
/-- tuple(l), known to have no attributes -/
theorem call_tuple_ofF {X : Cx} : CallR X (.type "tuple") (rTupF X.K) := by
  intro pins s σ H xs us Q I r h
  obtain ⟨p, ys, rfl, hq, q⟩ := h
  obtain ⟨u, rfl, rx⟩ := vals1 r
  cases rx
  obtain ⟨its, r', pl, hz⟩ := I.list hq
  have hlen := r'.length
  refine call_tuple_list pl.isList (fun h' kp => ?_) (by simp only [List.size_toArray] <;> omega)
  have I1 : Inv X pins σ H { s with heap := h' } := I.kept (t' := s.toks) kp
  have I2 : Inv X pins σ (upd H h'.objs.size (.frz { cls := .type "tuple", data := .seq its.toArray } (.tup ys))) { s with heap := h'.push { cls := .type "tuple", data := .seq its.toArray } } :=
    I1.laid (t' := s.toks) (fun b o e => Heap.get?_push_of_some _ e) (Nat.le_refl _) ⟨Heap.get?_push_size _ rfl, show ObjOk X.prog X.w _ _ _ (.tup ys) from ⟨hz, its, r', IsTup.new _ _⟩⟩
  exact ⟨.ref h'.objs.size, _, I2, rfl, q _ _ (I1.hok.fresh (Nat.le_refl _)) ⟨rfl, rfl⟩⟩
/-- dict(t): t a tuple of pairs with keys apart -/
def rDictT : List V → Hp → VK → Prop := fun xs H Q => ∃ l o vs rows, xs = [.ref l] ∧ H l = some (.frz o (.tup vs)) ∧ Tp o ∧ Paired (RowAt H) vs rows ∧ (rows.map (·.1)).Nodup ∧ rows.length < 1000 ∧ ∀ d, H d = none → Q (.ref d) (upd H d (.dK rows))
theorem call_dictT {X : Cx} (hc : X.calm = true) : CallR X (.type "dict") rDictT := by
  intro pins s σ H xs us Q I r h
  obtain ⟨l, ob, vs, rows, rfl, hl, tp, pr, nd, hz, q⟩ := h
  obtain ⟨u, rfl, rx⟩ := vals1 r
  cases rx
  obtain ⟨hob, _, its, rv, o, ho, hcl, n, hd⟩ := (show ObjOk X.prog X.w H s.heap l (.frz ob (.tup vs)) from I.hok l _ hl)
  rw [hob] at ho
  cases ho
  obtain ⟨rs, h1, h2, h3, h4⟩ := rows_at I.hok pr rv
  have zz : rows.length ≤ sizeLine := Nat.le_of_lt (small1000 (Nat.le_of_lt hz))
  refine dictOf_pairsT (knd := mixKind X.prog X.w) (I.ok.hd hc) hob hcl tp.2 hd h1 h2 (by rw [h4]; exact zz) fun d h' tk ld hd kp => ?_
  rw [foldl_merged, merged_nil_of_nodup _ (by rw [← KV.keys h3]; exact nd)] at hd
  have fr := I.hok.fresh ld
  refine ⟨.ref d, _, I.laid (t' := tk) kp ld (dk_new zz ?_ h3 hd), rfl, q d fr⟩
  have hb := I.big
  exact beq_eq_false_iff_ne.mpr (Nat.ne_of_gt (Nat.lt_of_lt_of_le hb ld))
end L2

set_option Elab.async false
set_option linter.all false
set_option maxRecDepth 100000
set_option maxHeartbeats 4000000
namespace K31
open PySem L2
def top (i : Nat) : Stmt := PySem.Challenge.pw_warnloop_k31_hands.main.body.getD i (.Pass ⟨0, 0, 0, 0⟩)
theorem bt_isinstance : bootBuiltins "isinstance" = some (.builtin "isinstance") := by decide +kernel
theorem bt_int : bootBuiltins "int" = some (.type "int") := by decide +kernel
theorem bt_bool : bootBuiltins "bool" = some (.type "bool") := by decide +kernel
theorem bt_tuple : bootBuiltins "tuple" = some (.type "tuple") := by decide +kernel
theorem bt_list : bootBuiltins "list" = some (.type "list") := by decide +kernel
theorem bt_str : bootBuiltins "str" = some (.type "str") := by decide +kernel
theorem bt_len : bootBuiltins "len" = some (.builtin "len") := by decide +kernel
theorem bt_abs : bootBuiltins "abs" = some (.builtin "abs") := by decide +kernel
theorem bt_max : bootBuiltins "max" = some (.builtin "max") := by decide +kernel
theorem bt_any : bootBuiltins "any" = some (.builtin "any") := by decide +kernel
theorem bt_sorted : bootBuiltins "sorted" = some (.builtin "sorted") := by decide +kernel
theorem bt_min : bootBuiltins "min" = some (.builtin "min") := by decide +kernel
theorem bt_dict : bootBuiltins "dict" = some (.type "dict") := by decide +kernel
/-- the built-in names that the text does not bind -/
structure Nm (mg : Str → Option Value) : Prop where
  isinstance : mg "isinstance" = none
  int : mg "int" = none
  bool : mg "bool" = none
  tuple : mg "tuple" = none
  list : mg "list" = none
  str : mg "str" = none
  len : mg "len" = none
  all : mg "all" = none
  abs : mg "abs" = none
  max : mg "max" = none
  min : mg "min" = none
  range : mg "range" = none
  sorted : mg "sorted" = none
  any : mg "any" = none
  sum : mg "sum" = none
  enumerate : mg "enumerate" = none
  zip : mg "zip" = none
  reversed : mg "reversed" = none
  dict : mg "dict" = none
  ord : mg "ord" = none
abbrev s_l_bag : Stmt := top 25
abbrev p_l_bag : List Str := ["_law_script", "_law_k"]
theorem sc_l_bag : FnScope ["_law_script", "_law_k", "_law_cell"] p_l_bag (defScope s_l_bag) := ⟨rfl, rfl, rfl, by decide +kernel, rfl, by decide +kernel, by decide +kernel⟩
abbrev s_l_take : Stmt := top 26
abbrev p_l_take : List Str := ["_law_bag_here", "_law_many"]
theorem sc_l_take : FnScope ["_law_bag_here", "_law_many", "_law_digit", "_law_primes", "_law_step", "_law_base", "_law_found"] p_l_take (defScope s_l_take) := ⟨rfl, rfl, rfl, by decide +kernel, rfl, by decide +kernel, by decide +kernel⟩
/-- a bag of draws: three whole numbers, the last one (how often it was drawn by the second) at most n -/
def BagAt (H : Hp) (b : Addr) (n : Nat) : Prop := ∃ x y z : Int, H b = some (.lst [.int x, .int y, .int z]) ∧ 0 ≤ x ∧ 0 ≤ y ∧ y ≤ 4294967296 ∧ 0 ≤ z ∧ z ≤ n
theorem BagAt.same {H H' : Hp} {b : Addr} {n : Nat} (h : BagAt H b n) (s : Same H H') : BagAt H' b n := by
  obtain ⟨x, y, z, e, r⟩ := h
  exact ⟨x, y, z, s _ _ e, r⟩
theorem BagAt.mono {H : Hp} {b : Addr} {n m : Nat} (h : BagAt H b n) (l : n ≤ m) : BagAt H b m := by
  obtain ⟨x, y, z, e, h1, h2, h3, h4, h5⟩ := h
  exact ⟨x, y, z, e, h1, h2, h3, h4, by omega⟩
theorem BagAt.nb {H : Hp} {b p : Addr} {n : Nat} (h : BagAt H b n) (hp : H p = none) : b ≠ p := by obtain ⟨_, _, _, e, _⟩ := h; exact ne_of_none e hp
theorem BagAt.ntup {H : Hp} {b : Addr} {n : Nat} (h : BagAt H b n) : ∀ xs, H b ≠ some (.tup xs) := fun xs z => by obtain ⟨_, _, _, e, _⟩ := h; rw [e] at z; cases z
theorem BagAt.ex {H : Hp} {b : Addr} {n : Nat} (h : BagAt H b n) : ∃ o, H b = some o := by obtain ⟨_, _, _, e, _⟩ := h; exact ⟨_, e⟩
theorem BagAt.sameB {H H' : Hp} {a b : Addr} {n : Nat} (h : BagAt H b n) (s : SameB a H H') (ne : b ≠ a) : BagAt H' b n := by
  obtain ⟨x, y, z, e, r⟩ := h
  exact ⟨x, y, z, s _ _ e ne, r⟩
theorem leSize {n : Nat} (h : n ≤ 1000) : n ≤ sizeLine := Nat.le_of_lt (small1000 h)
def spBag (K : PySem.W.Frag) : Sp := fun vs H Q _ => ∃ (a : Addr) (ns : List Int) (k : Int), vs = [.ref a, .int k] ∧ SqL K H a (ns.map V.int) ∧ ns.length ≤ 63 ∧ 0 ≤ k ∧ k ≤ 100 ∧ ∀ p o, H p = none → BagAt (upd H p o) p 0 → Q (.ref p) (upd H p o)
def spTake : Sp := fun vs H Q _ => ∃ (b : Addr) (n : Nat) (m : Int), vs = [.ref b, .int m] ∧ BagAt H b n ∧ n ≤ 10000 ∧ 0 < m ∧ m < 1073741824 ∧ ∀ r H', 0 ≤ r → r < m → BagAt H' b (n + 1) → SameB b H H' → Q (.int r) H'
def spLaw (K : PySem.W.Frag) : Sp := fun vs H Q _ => ∃ (a : Addr) (ns : List Int), vs = [.ref a] ∧ SqL K H a (ns.map V.int) ∧ ns.length ≤ 63 ∧ ∀ H', Q (.bl true) H'
theorem at7 {i : Int} (h0 : 0 ≤ i) (h7 : i < 7) {a b c d e f g : Int} (P : Int → Prop) (ha : P a) (hb : P b) (hc : P c) (hd : P d) (he : P e) (hf : P f) (hg : P g) : ∃ p, atI [V.int a, .int b, .int c, .int d, .int e, .int f, .int g] i = some (.int p) ∧ P p := by
  have : i = 0 ∨ i = 1 ∨ i = 2 ∨ i = 3 ∨ i = 4 ∨ i = 5 ∨ i = 6 := by omega
  rcases this with rfl | rfl | rfl | rfl | rfl | rfl | rfl
  · exact ⟨_, rfl, ha⟩
  · exact ⟨_, rfl, hb⟩
  · exact ⟨_, rfl, hc⟩
  · exact ⟨_, rfl, hd⟩
  · exact ⟨_, rfl, he⟩
  · exact ⟨_, rfl, hf⟩
  · exact ⟨_, rfl, hg⟩
theorem cm01 {x : Int} {b : Bool} : CMul x (if b = true then 1 else 0) := .inr (by cases b <;> exact ⟨by decide, by decide⟩)
section
variable {P : Program} {w : World} {K : PySem.W.Frag} {mg : Str → Option Value} {base : Heap}
theorem ok_l_bag (C : Code K mg "_law_bag" s_l_bag p_l_bag) (T : Nm mg) : Good P w K mg base "_law_bag" 1 p_l_bag (spBag K) := by
  refine C.good sc_l_bag (fun vs H Q E h => ?_) (fun f cdv A outer s H vs Q E hr h => ?_)
  · obtain ⟨a, ns, k, rfl, _⟩ := h
    rfl
  obtain ⟨a, ns, k, rfl, hS, h63, h0, h1, q⟩ := h
  refine ⟨_, (pss_cons (ps_set (i := 2) sc_l_bag.nd rfl (Or.inl rfl) (pe_op op_add (pe_op op_add (pe_op op_mul (pe_op op_mul pe_int (pv 1)) (pv 1)) (pe_op op_mul pe_int (pv 1))) pe_int))
  (pss_cons (ps_if (pt_cmpR op_lt (pv 1) (pe_callB call_len_seq rfl T.len bt_len (pa_cons (pv 0) pa_nil)) (nomark _)) (pss_one (ps_set (i := 2) sc_l_bag.nd rfl (Or.inl rfl) (pe_ix ix_list (pv 0) (pv 1) (fun _ _ => rfl)))) pss_nil)
  (pss_one (ps_ret (pe_lst (pa_cons (pe_op op_mul (pe_callB call_abs rfl T.abs bt_abs (pa_cons (pv 2) pa_nil)) (pe_callTy call_int1 rfl T.int bt_int (pa_cons (pe_cmpR op_ge (pe_callB call_abs rfl T.abs bt_abs (pa_cons (pv 2) pa_nil)) (pe_op op_pow pe_int pe_int) (nomark _)) pa_nil))) (pa_cons (pe_op op_add (pe_op op_mod (pv 2) pe_int) (pe_op op_mul pe_int (pv 1))) (pa_cons pe_int pa_nil)))))))), ?_⟩
  refine ⟨_, rfl, _, _, rfl, rfl, .inl ⟨by decide, by decide⟩, _, rfl, _, _, rfl, rfl, .inr ⟨by omega, by omega⟩, _, rfl, _, _, rfl, rfl, .inl ⟨by decide, by decide⟩, _, _, rfl, rfl, _, _, rfl, rfl, ?_⟩
  refine ⟨_, rfl, _, rfl, a, _, rfl, .inl hS, _, _, rfl, rfl, _, rfl, ?_⟩
  have hl : (ns.map V.int).length = ns.length := List.length_map _
  have fin : ∀ (c : Int) (p : Addr), H p = none → Q (.ref p) (upd H p (.lst [.int ((if c < 0 then -c else c) * (if decide ((10 : Int) ^ (18 : Int).toNat ≤ (if c < 0 then -c else c)) = true then 1 else 0)), .int (c % 2147483647 + 37 * k), .int 0])) := fun c p hp => by
    refine q p _ hp ⟨_, _, _, upd_same, ?_, ?_, ?_, by omega, by omega⟩
    · refine Int.mul_nonneg ?_ ?_
      · split <;> omega
      · split <;> omega
    · have := Int.emod_nonneg c (show (2147483647 : Int) ≠ 0 by decide)
      omega
    · have := Int.emod_lt_of_pos c (show (0 : Int) < 2147483647 by decide)
      omega
  refine ite2 (fun c1 => ?_) (fun c1 => ?_)
  · have c' : k < (((ns.map V.int).length : Nat) : Int) := of_decide_eq_true c1
    rw [hl] at c'
    have hk : k.toNat < ns.length := by omega
    have hat : atI (ns.map V.int) ((k.toNat : Nat) : Int) = some (.int ns[k.toNat]) := atI_nat (by rw [List.getElem?_map]; simp [hk])
    rw [Int.toNat_of_nonneg h0] at hat
    refine ⟨_, rfl, _, rfl, a, _, _, _, rfl, rfl, hS, hat, ?_⟩
    exact ⟨_, rfl, _, rfl, _, rfl, _, rfl, _, _, rfl, rfl, ⟨by decide, by decide, by decide⟩, _, _, rfl, rfl, .inr ⟨_, rfl, _, _, rfl, rfl, cm01, _, rfl, _, _, rfl, rfl, (by show (0 : Int) < 2147483647; decide), _, rfl, _, _, rfl, rfl, .inl ⟨by decide, by decide⟩, _, _, rfl, rfl,
      (by show 3 ≤ sizeLine; decide), fun l hl' => fin _ l hl'⟩⟩
  · exact ⟨_, rfl, _, rfl, _, rfl, _, rfl, _, _, rfl, rfl, ⟨by decide, by decide, by decide⟩, _, _, rfl, rfl, .inr ⟨_, rfl, _, _, rfl, rfl, cm01, _, rfl, _, _, rfl, rfl, (by show (0 : Int) < 2147483647; decide), _, rfl, _, _, rfl, rfl, .inl ⟨by decide, by decide⟩, _, _, rfl, rfl,
      (by show 3 ≤ sizeLine; decide), fun l hl' => fin _ l hl'⟩⟩
theorem ok_l_take (C : Code K mg "_law_take" s_l_take p_l_take) (T : Nm mg) : Good P w K mg base "_law_take" 1 p_l_take spTake := by
  refine C.good sc_l_take (fun vs H Q E h => ?_) (fun f cdv A outer s H vs Q E hr h => ?_)
  · obtain ⟨b, n, m, rfl, _⟩ := h
    rfl
  obtain ⟨b, n, m, rfl, ⟨x, y, z, hb, x0, y0, y1, z0, z1⟩, hn, m0, m1, q⟩ := h
  refine ⟨_, (pss_cons (ps_if (pt_cmpR op_gt (pe_ix ix_list (pv 0) pe_int (fun _ _ => rfl)) pe_int (nomark _)) (pss_cons (ps_set (i := 2) sc_l_take.nd rfl (Or.inl rfl) (pe_op op_mod (pe_ix ix_list (pv 0) pe_int (fun _ _ => rfl)) (pv 1)))
  (pss_cons (ps_asg (pe_op op_fdiv (pe_ix ix_list (pv 0) pe_int (fun _ _ => rfl)) (pv 1)) (pg_sub (pv 0) pe_int set_list))
  (pss_one (ps_ret (pv 2))))) pss_nil)
  (pss_cons (ps_set (i := 3) sc_l_take.nd rfl (Or.inl rfl) (@pe_tup _ _ _ _ _ (@pa_cons _ _ _ _ _ (@pe_int _ _ _ _) (@pa_cons _ _ _ _ _ (@pe_int _ _ _ _) (@pa_cons _ _ _ _ _ (@pe_int _ _ _ _) (@pa_cons _ _ _ _ _ (@pe_int _ _ _ _) (@pa_cons _ _ _ _ _ (@pe_int _ _ _ _) (@pa_cons _ _ _ _ _ (@pe_int _ _ _ _) (@pa_cons _ _ _ _ _ (@pe_int _ _ _ _) (@pa_nil _) st_const) st_const) st_const) st_const) st_const) st_const) st_const)))
  (pss_cons (ps_asg (pe_op op_add (pe_ix ix_list (pv 0) pe_int (fun _ _ => rfl)) pe_int) (pg_sub (pv 0) pe_int set_list))
  (pss_cons (ps_set (i := 4) sc_l_take.nd rfl (Or.inl rfl) (pe_ix ix_list (pv 0) pe_int (fun _ _ => rfl)))
  (pss_cons (ps_set (i := 5) sc_l_take.nd rfl (Or.inl rfl) (pe_op op_add (pe_op op_add (pe_op op_mul (pe_ix ix_list (pv 0) pe_int (fun _ _ => rfl)) (pe_op op_add (pe_op op_mul pe_int (pv 4)) pe_int)) (pe_op op_mul (pe_op op_mul pe_int (pv 4)) (pv 4))) pe_int))
  (pss_cons (ps_set (i := 6) sc_l_take.nd rfl (Or.inl rfl) (pe_op op_mod (pe_op op_pow (pv 5) pe_int) (pe_ix ix_tup (pv 3) (pe_op op_mod (pv 4) pe_int) (fun _ _ => rfl))))
  (pss_one (ps_ret (pe_op op_mod (pe_op op_fdiv (pe_op op_mod (pe_op op_mul (pv 6) (pe_op op_add (pe_op op_fdiv (pv 6) pe_int) pe_int)) (pe_ix ix_tup (pv 3) (pe_op op_mod (pe_op op_add (pv 4) pe_int) pe_int) (fun _ _ => rfl))) pe_int) (pv 1)))))))))), ?_⟩
  refine ⟨_, rfl, b, _, _, _, rfl, rfl, SqL.of hb, rfl, _, _, rfl, rfl, _, rfl, ?_⟩
  refine ite2 (fun c1 => ?_) (fun c1 => ?_)
  · have c' : 0 < x := of_decide_eq_true c1
    refine ⟨_, rfl, b, _, _, _, rfl, rfl, SqL.of hb, rfl, _, rfl, _, _, rfl, rfl, m0, ?_⟩
    refine ⟨_, rfl, b, _, _, _, rfl, rfl, SqL.of hb, rfl, _, rfl, _, _, rfl, rfl, ⟨m0, m1⟩, _, rfl, b, _, _, _, rfl, rfl, hb, rfl, ?_⟩
    exact ⟨_, rfl, q _ _ (Int.emod_nonneg x (by omega)) (Int.emod_lt_of_pos x m0) ⟨x / m, y, z, upd_same, Int.ediv_nonneg x0 (by omega), y0, y1, z0, by omega⟩ SameB.upd⟩
  · refine ⟨(by show 7 ≤ sizeLine; decide), fun tp htp => ?_⟩
    have nbt : b ≠ tp := ne_of_none hb htp
    have hb1 : ∀ o, (upd H tp o) b = some (.lst [.int x, .int y, .int z]) := fun o => by rw [upd_ne nbt]; exact hb
    have ht1 : ∀ o u, (upd (upd H tp o) b u) tp = some o := fun o u => by rw [upd_ne nbt.symm, upd_same]
    refine ⟨_, rfl, b, _, _, _, rfl, rfl, SqL.of (hb1 _), rfl, _, _, rfl, rfl, _, rfl, b, _, _, _, rfl, rfl, hb1 _, rfl, ?_⟩
    refine ⟨_, rfl, b, _, _, _, rfl, rfl, SqL.of upd_same, rfl, ?_⟩
    have s0 : 0 ≤ z + 1 := by omega
    have s1 : z + 1 ≤ 10001 := by omega
    refine ⟨_, rfl, b, _, _, _, rfl, rfl, SqL.of upd_same, rfl, _, rfl, _, _, rfl, rfl, .inl ⟨by decide, by decide⟩, _, _, rfl, rfl, _, _, rfl, rfl, .inl ⟨by omega, by omega⟩, _, rfl, _, _, rfl, rfl, .inl ⟨by decide, by decide⟩, _, rfl, _, _, rfl, rfl, .inr ⟨by omega, by omega⟩,
      _, _, rfl, rfl, _, _, rfl, rfl, ?_⟩
    have hbase : (y * (2 * (z + 1) + 1) + 6007 * (z + 1) * (z + 1) + 29).natAbs < 2 ^ 64 := by
      have h1 : 0 ≤ y * (2 * (z + 1) + 1) := Int.mul_nonneg y0 (by omega)
      have h2 : y * (2 * (z + 1) + 1) ≤ 4294967296 * 20003 := Int.mul_le_mul y1 (by omega) (by omega) (by omega)
      have h3 : 0 ≤ 6007 * (z + 1) * (z + 1) := Int.mul_nonneg (by omega) s0
      have h4 : 6007 * (z + 1) * (z + 1) ≤ (6007 * 10001) * 10001 := Int.mul_le_mul (by omega) s1 s0 (by omega)
      omega
    obtain ⟨p1, e1, p10, p11⟩ := at7 (i := (z + 1) % 7) (Int.emod_nonneg _ (by decide)) (Int.emod_lt_of_pos _ (by decide)) (a := 2147483629) (b := 2147483587) (c := 2147483579) (d := 2147483563) (e := 2147483549) (f := 2147483543) (g := 2147483497)
      (fun p => 0 < p ∧ p < 2147483648) (by decide) (by decide) (by decide) (by decide) (by decide) (by decide) (by decide)
    obtain ⟨p2, e2, p20, p21⟩ := at7 (i := (z + 1 + 3) % 7) (Int.emod_nonneg _ (by decide)) (Int.emod_lt_of_pos _ (by decide)) (a := 2147483629) (b := 2147483587) (c := 2147483579) (d := 2147483563) (e := 2147483549) (f := 2147483543) (g := 2147483497)
      (fun p => 0 < p ∧ p < 2147483648) (by decide) (by decide) (by decide) (by decide) (by decide) (by decide) (by decide)
    refine ⟨_, rfl, _, _, rfl, rfl, ⟨by decide, by decide, hbase⟩, _, rfl, _, rfl, _, _, rfl, rfl, (by show (0 : Int) < 7; decide), tp, _, _, _, rfl, rfl, SqT.of (ht1 _ _), e1, _, _, rfl, rfl, p10, ?_⟩
    generalize hF : (y * (2 * (z + 1) + 1) + 6007 * (z + 1) * (z + 1) + 29) ^ (3 : Int).toNat % p1 = F
    have F0 : 0 ≤ F := by rw [← hF]; exact Int.emod_nonneg _ (by omega)
    have F1 : F < p1 := by rw [← hF]; exact Int.emod_lt_of_pos _ p10
    refine ⟨_, rfl, _, rfl, _, _, rfl, rfl, ⟨by decide, by decide⟩, _, _, rfl, rfl, _, _, rfl, rfl, .inl ⟨by omega, by omega⟩, _, rfl, _, rfl, _, _, rfl, rfl, _, _, rfl, rfl, (by show (0 : Int) < 7; decide), tp, _, _, _, rfl, rfl, SqT.of (ht1 _ _), e2, _, _, rfl, rfl, p20,
      _, _, rfl, rfl, ⟨by decide, by decide⟩, _, rfl, _, _, rfl, rfl, m0, ?_⟩
    refine q _ _ (Int.emod_nonneg _ (by omega)) (Int.emod_lt_of_pos _ m0) ⟨x, y, z + 1, upd_same, x0, y0, y1, s0, by omega⟩ fun c o e nc => ?_
    rw [upd_ne nc, upd_ne (ne_of_none e htp)]
    exact e
end
end K31

set_option Elab.async false
set_option linter.all false
set_option maxRecDepth 100000
set_option maxHeartbeats 1000000
namespace K31
open PySem L2
abbrev s_l_kind : Stmt := top 34
abbrev p_l_kind : List Str := ["_law_e"]
theorem sc_l_kind : FnScope ["_law_e", "_law_kinds", "_law_names"] p_l_kind (defScope s_l_kind) := ⟨rfl, rfl, rfl, by decide +kernel, rfl, by decide +kernel, by decide +kernel⟩
/-- the classes of refusals, as the text names them -/
structure Er (K : PySem.W.Frag) (mg : Str → Option Value) (hc c0 c1 c2 c3 c4 c5 c6 c7 c8 c9 c10 c11 c12 : Addr) : Prop where
  ve : mg "ValueError" = none
  nHouseError : mg "HouseError" = some (.ref hc)
  xHouseError : XCl K hc
  nNoPlan : mg "NoPlan" = some (.ref c0)
  nNoText : mg "NoText" = some (.ref c1)
  nNoStretch : mg "NoStretch" = some (.ref c2)
  nNoSpot : mg "NoSpot" = some (.ref c3)
  nNoOpener : mg "NoOpener" = some (.ref c4)
  nNoAddress : mg "NoAddress" = some (.ref c5)
  nNoRules : mg "NoRules" = some (.ref c6)
  nNoHand : mg "NoHand" = some (.ref c7)
  nNoPanel : mg "NoPanel" = some (.ref c8)
  nNoLink : mg "NoLink" = some (.ref c9)
  nNoLog : mg "NoLog" = some (.ref c10)
  nNoDeed : mg "NoDeed" = some (.ref c11)
  nNoRow : mg "NoRow" = some (.ref c12)
/-- the class at C is the j-th of these -/
structure Knd (K : PySem.W.Frag) (hc C : Addr) (cs : List Addr) (j : Nat) : Prop where
  xc : XCl K C
  sub : PySem.W.subIn K (.ref C) (.ref hc) = some true
  kit : ∀ i d, cs[i]? = some d → PySem.W.kitOne K (.ref C) (.ref d) = some (decide (i = j))
  kv : PySem.W.kitOne K (.ref C) (.type "ValueError") = some true
def kWord (j : Nat) : Str := (["plan", "text", "stretch", "spot", "opener", "address", "rules", "hand", "panel", "link", "log", "deed", "row"] : List Str).getD j ""
def bsl (j : Nat) : List Bool := [decide (0 = j), decide (1 = j), decide (2 = j), decide (3 = j), decide (4 = j), decide (5 = j), decide (6 = j), decide (7 = j), decide (8 = j), decide (9 = j), decide (10 = j), decide (11 = j), decide (12 = j)]
theorem bsl_count : ∀ j, j < 13 → (bsl j).countP id = 1 := by decide
theorem bsl_at : ∀ j, j < 13 → (bsl j)[j]? = some true := by decide
theorem bsl_no : ∀ j, j < 13 → ∀ m, m < j → (bsl j)[m]? = some false := by decide
theorem wordAt : ∀ j, j < 13 → ([.str "plan", .str "text", .str "stretch", .str "spot", .str "opener", .str "address", .str "rules", .str "hand", .str "panel", .str "link", .str "log", .str "deed", .str "row"] : List V)[j]? = some (.str (kWord j))
  | 0, _ => rfl
  | 1, _ => rfl
  | 2, _ => rfl
  | 3, _ => rfl
  | 4, _ => rfl
  | 5, _ => rfl
  | 6, _ => rfl
  | 7, _ => rfl
  | 8, _ => rfl
  | 9, _ => rfl
  | 10, _ => rfl
  | 11, _ => rfl
  | 12, _ => rfl
  | n + 13, h => absurd h (by omega)
def spKind (K : PySem.W.Frag) (hc : Addr) (cs : List Addr) : Sp := fun vs H Q _ => ∃ (e C : Addr) (j : Nat), vs = [.ref e] ∧ H e = some (xo e C) ∧ Knd K hc C cs j ∧ j < 13 ∧ ∀ H', Same H H' → Q (.str (kWord j)) H'
section
variable {P : Program} {w : World} {K : PySem.W.Frag} {mg : Str → Option Value} {base : Heap} {hc c0 c1 c2 c3 c4 c5 c6 c7 c8 c9 c10 c11 c12 : Addr}
theorem ok_kind (C : Code K mg "_law_kind" s_l_kind p_l_kind) (T : Nm mg) (XE : Er K mg hc c0 c1 c2 c3 c4 c5 c6 c7 c8 c9 c10 c11 c12) : GoodH P w K mg base "_law_kind" 1 p_l_kind (spKind K hc [c0, c1, c2, c3, c4, c5, c6, c7, c8, c9, c10, c11, c12]) := by
  refine C.goodH sc_l_kind (fun vs H Q E h => ?_) (fun f cdv A outer s H vs Q hr h => ?_)
  · obtain ⟨e, C, j, rfl, _⟩ := h
    rfl
  obtain ⟨e, C, j, rfl, he, k, hj, q⟩ := h
  refine ⟨_, (@pss_cons _ _ _ _ _ (@ps_set _ _ 1 _ _ _ _ sc_l_kind.nd rfl (Or.inl rfl) (pe_lst (pa_cons (pe_callB call_isx rfl T.isinstance bt_isinstance (pa_cons (pv 0) (pa_cons (pe_glob (v := .ref _) rfl XE.nNoPlan rfl) pa_nil))) (pa_cons (pe_callB call_isx rfl T.isinstance bt_isinstance (pa_cons (pv 0) (pa_cons (pe_glob (v := .ref _) rfl XE.nNoText rfl) pa_nil))) (pa_cons (pe_callB call_isx rfl T.isinstance bt_isinstance (pa_cons (pv 0) (pa_cons (pe_glob (v := .ref _) rfl XE.nNoStretch rfl) pa_nil))) (pa_cons (pe_callB call_isx rfl T.isinstance bt_isinstance (pa_cons (pv 0) (pa_cons (pe_glob (v := .ref _) rfl XE.nNoSpot rfl) pa_nil))) pa_nil))))) (by rfl) (by first | exact .inl rfl | exact .inr rfl))
  (@pss_cons _ _ _ _ _ (@ps_set _ _ 1 _ _ _ _ sc_l_kind.nd rfl (Or.inl rfl) (pe_op op_cat (pv 1) (pe_lst (pa_cons (pe_callB call_isx rfl T.isinstance bt_isinstance (pa_cons (pv 0) (pa_cons (pe_glob (v := .ref _) rfl XE.nNoOpener rfl) pa_nil))) (pa_cons (pe_callB call_isx rfl T.isinstance bt_isinstance (pa_cons (pv 0) (pa_cons (pe_glob (v := .ref _) rfl XE.nNoAddress rfl) pa_nil))) (pa_cons (pe_callB call_isx rfl T.isinstance bt_isinstance (pa_cons (pv 0) (pa_cons (pe_glob (v := .ref _) rfl XE.nNoRules rfl) pa_nil))) (pa_cons (pe_callB call_isx rfl T.isinstance bt_isinstance (pa_cons (pv 0) (pa_cons (pe_glob (v := .ref _) rfl XE.nNoHand rfl) pa_nil))) pa_nil)))))) (by rfl) (by first | exact .inl rfl | exact .inr rfl))
  (@pss_cons _ _ _ _ _ (@ps_set _ _ 1 _ _ _ _ sc_l_kind.nd rfl (Or.inl rfl) (pe_op op_cat (pv 1) (pe_lst (pa_cons (pe_callB call_isx rfl T.isinstance bt_isinstance (pa_cons (pv 0) (pa_cons (pe_glob (v := .ref _) rfl XE.nNoPanel rfl) pa_nil))) (pa_cons (pe_callB call_isx rfl T.isinstance bt_isinstance (pa_cons (pv 0) (pa_cons (pe_glob (v := .ref _) rfl XE.nNoLink rfl) pa_nil))) (pa_cons (pe_callB call_isx rfl T.isinstance bt_isinstance (pa_cons (pv 0) (pa_cons (pe_glob (v := .ref _) rfl XE.nNoLog rfl) pa_nil))) (pa_cons (pe_callB call_isx rfl T.isinstance bt_isinstance (pa_cons (pv 0) (pa_cons (pe_glob (v := .ref _) rfl XE.nNoDeed rfl) pa_nil))) pa_nil)))))) (by rfl) (by first | exact .inl rfl | exact .inr rfl))
  (@pss_cons _ _ _ _ _ (ps_expr (pe_bm PySem.F.plainAttrs_list PySem.F.slot_list_append PySem.F.type_list_append mt_append (pv 1) (pa_cons (pe_callB call_isx rfl T.isinstance bt_isinstance (pa_cons (pv 0) (pa_cons (pe_glob (v := .ref _) rfl XE.nNoRow rfl) pa_nil))) pa_nil)))
  (@pss_cons _ _ _ _ _ (@ps_set _ _ 2 _ _ _ _ sc_l_kind.nd rfl (Or.inl rfl) (@pe_lst _ _ _ _ (@pa_cons _ _ _ _ _ (@pe_str _ _ _ _) (@pa_cons _ _ _ _ _ (@pe_str _ _ _ _) (@pa_cons _ _ _ _ _ (@pe_str _ _ _ _) (@pa_cons _ _ _ _ _ (@pe_str _ _ _ _) (@pa_cons _ _ _ _ _ (@pe_str _ _ _ _) (@pa_cons _ _ _ _ _ (@pe_str _ _ _ _) (@pa_cons _ _ _ _ _ (@pe_str _ _ _ _) (@pa_cons _ _ _ _ _ (@pe_str _ _ _ _) (@pa_cons _ _ _ _ _ (@pe_str _ _ _ _) (@pa_cons _ _ _ _ _ (@pe_str _ _ _ _) (@pa_cons _ _ _ _ _ (@pe_str _ _ _ _) (@pa_cons _ _ _ _ _ (@pe_str _ _ _ _) (@pa_nil _) st_const) st_const) st_const) st_const) st_const) st_const) st_const) st_const) st_const) st_const) st_const) st_const)) (by rfl) (by first | exact .inl rfl | exact .inr rfl))
  (@pss_cons _ _ _ _ _ (ps_expr (pe_bm PySem.F.plainAttrs_list PySem.F.slot_list_append PySem.F.type_list_append mt_append (pv 2) (pa_cons pe_str pa_nil)))
  (@pss_cons _ _ _ _ _ (ps_if (PW.pt (pw_or (pt_not (pt_val (pe_callB call_isxT rfl T.isinstance bt_isinstance (pa_cons (pv 0) (pa_cons (pe_bltn (v := .ty "ValueError") rfl XE.ve PyProof.Rows.Boot.«ValueError» rfl) pa_nil))))) (pw_or1 (pt_cmpR op_ne (pe_bm PySem.F.plainAttrs_list PySem.F.slot_list_count PySem.F.type_list_count mt_countT (pv 1) (pa_cons pe_bl pa_nil)) pe_int (nomark _))))) (@pss_one _ _ _ (ps_ret pe_str)) pss_nil)
  (@pss_one _ _ _ (ps_ret (pe_ix ix_list (pv 2) (pe_bm PySem.F.plainAttrs_list PySem.F.slot_list_index PySem.F.type_list_index mt_indexT (pv 1) (pa_cons pe_bl pa_nil)) (fun _ _ => rfl))))))))))), ?_⟩
  refine ⟨_, rfl, isx_mk he k.xc (k.kit 0 _ rfl) ⟨_, rfl, isx_mk he k.xc (k.kit 1 _ rfl) ⟨_, rfl, isx_mk he k.xc (k.kit 2 _ rfl) ⟨_, rfl, isx_mk he k.xc (k.kit 3 _ rfl) ⟨leSize (by show 4 ≤ 1000; decide), fun l1 hl1 => ?_⟩⟩⟩⟩⟩
  have s1 := same_new hl1 (.lst [V.bl (decide (0 = j)), .bl (decide (1 = j)), .bl (decide (2 = j)), .bl (decide (3 = j))])
  have e1 : upd H l1 (.lst [V.bl (decide (0 = j)), .bl (decide (1 = j)), .bl (decide (2 = j)), .bl (decide (3 = j))]) l1 = some (.lst [V.bl (decide (0 = j)), .bl (decide (1 = j)), .bl (decide (2 = j)), .bl (decide (3 = j))]) := upd_same
  generalize upd H l1 (.lst [V.bl (decide (0 = j)), .bl (decide (1 = j)), .bl (decide (2 = j)), .bl (decide (3 = j))]) = H1 at s1 e1 ⊢
  have he1 := s1 _ _ he
  refine ⟨_, rfl, ⟨_, rfl, isx_mk he1 k.xc (k.kit 4 _ rfl) ⟨_, rfl, isx_mk he1 k.xc (k.kit 5 _ rfl) ⟨_, rfl, isx_mk he1 k.xc (k.kit 6 _ rfl) ⟨_, rfl, isx_mk he1 k.xc (k.kit 7 _ rfl) ⟨leSize (by show 4 ≤ 1000; decide), fun la hla => ⟨l1, la, _, _, rfl, rfl, same_new hla _ _ _ e1, upd_same, leSize (by show 8 ≤ 1000; decide), fun lb hlb => ?_⟩⟩⟩⟩⟩⟩⟩
  have sa := same_new hla (.lst [V.bl (decide (4 = j)), .bl (decide (5 = j)), .bl (decide (6 = j)), .bl (decide (7 = j))])
  have sb := same_new hlb (.lst ([V.bl (decide (0 = j)), .bl (decide (1 = j)), .bl (decide (2 = j)), .bl (decide (3 = j))] ++ [V.bl (decide (4 = j)), .bl (decide (5 = j)), .bl (decide (6 = j)), .bl (decide (7 = j))]))
  have e2 : upd (upd H1 la (.lst [V.bl (decide (4 = j)), .bl (decide (5 = j)), .bl (decide (6 = j)), .bl (decide (7 = j))])) lb (.lst ([V.bl (decide (0 = j)), .bl (decide (1 = j)), .bl (decide (2 = j)), .bl (decide (3 = j))] ++ [V.bl (decide (4 = j)), .bl (decide (5 = j)), .bl (decide (6 = j)), .bl (decide (7 = j))])) lb = some (.lst ([V.bl (decide (0 = j)), .bl (decide (1 = j)), .bl (decide (2 = j)), .bl (decide (3 = j))] ++ [V.bl (decide (4 = j)), .bl (decide (5 = j)), .bl (decide (6 = j)), .bl (decide (7 = j))])) := upd_same
  have s2 := s1.trans (sa.trans sb)
  generalize upd (upd H1 la (.lst [V.bl (decide (4 = j)), .bl (decide (5 = j)), .bl (decide (6 = j)), .bl (decide (7 = j))])) lb (.lst ([V.bl (decide (0 = j)), .bl (decide (1 = j)), .bl (decide (2 = j)), .bl (decide (3 = j))] ++ [V.bl (decide (4 = j)), .bl (decide (5 = j)), .bl (decide (6 = j)), .bl (decide (7 = j))])) = H2 at sb e2 s2 ⊢
  have he2 := s2 _ _ he
  refine ⟨_, rfl, ⟨_, rfl, isx_mk he2 k.xc (k.kit 8 _ rfl) ⟨_, rfl, isx_mk he2 k.xc (k.kit 9 _ rfl) ⟨_, rfl, isx_mk he2 k.xc (k.kit 10 _ rfl) ⟨_, rfl, isx_mk he2 k.xc (k.kit 11 _ rfl) ⟨leSize (by show 4 ≤ 1000; decide), fun lc hlc => ⟨lb, lc, _, _, rfl, rfl, same_new hlc _ _ _ e2, upd_same, leSize (by show 12 ≤ 1000; decide), fun ld hld => ?_⟩⟩⟩⟩⟩⟩⟩
  have sc := same_new hlc (.lst [V.bl (decide (8 = j)), .bl (decide (9 = j)), .bl (decide (10 = j)), .bl (decide (11 = j))])
  have sd := same_new hld (.lst ([V.bl (decide (0 = j)), .bl (decide (1 = j)), .bl (decide (2 = j)), .bl (decide (3 = j))] ++ [V.bl (decide (4 = j)), .bl (decide (5 = j)), .bl (decide (6 = j)), .bl (decide (7 = j))] ++ [V.bl (decide (8 = j)), .bl (decide (9 = j)), .bl (decide (10 = j)), .bl (decide (11 = j))]))
  have e3 : upd (upd H2 lc (.lst [V.bl (decide (8 = j)), .bl (decide (9 = j)), .bl (decide (10 = j)), .bl (decide (11 = j))])) ld (.lst ([V.bl (decide (0 = j)), .bl (decide (1 = j)), .bl (decide (2 = j)), .bl (decide (3 = j))] ++ [V.bl (decide (4 = j)), .bl (decide (5 = j)), .bl (decide (6 = j)), .bl (decide (7 = j))] ++ [V.bl (decide (8 = j)), .bl (decide (9 = j)), .bl (decide (10 = j)), .bl (decide (11 = j))])) ld = some (.lst ([V.bl (decide (0 = j)), .bl (decide (1 = j)), .bl (decide (2 = j)), .bl (decide (3 = j))] ++ [V.bl (decide (4 = j)), .bl (decide (5 = j)), .bl (decide (6 = j)), .bl (decide (7 = j))] ++ [V.bl (decide (8 = j)), .bl (decide (9 = j)), .bl (decide (10 = j)), .bl (decide (11 = j))])) := upd_same
  have s3 := s2.trans (sc.trans sd)
  have fd : H ld = none := s2.free (sc.free hld)
  generalize upd (upd H2 lc (.lst [V.bl (decide (8 = j)), .bl (decide (9 = j)), .bl (decide (10 = j)), .bl (decide (11 = j))])) ld (.lst ([V.bl (decide (0 = j)), .bl (decide (1 = j)), .bl (decide (2 = j)), .bl (decide (3 = j))] ++ [V.bl (decide (4 = j)), .bl (decide (5 = j)), .bl (decide (6 = j)), .bl (decide (7 = j))] ++ [V.bl (decide (8 = j)), .bl (decide (9 = j)), .bl (decide (10 = j)), .bl (decide (11 = j))])) = H3 at sd e3 s3 ⊢
  have he3 := s3 _ _ he
  refine ⟨_, rfl, .inl ⟨rfl, _, SqL.of e3⟩, _, rfl, isx_mk he3 k.xc (k.kit 12 _ rfl) ⟨ld, _, _, rfl, rfl, e3, small1000 (by show 12 ≤ 1000; decide), ?_⟩⟩
  have e4 : upd H3 ld (.lst ([V.bl (decide (0 = j)), .bl (decide (1 = j)), .bl (decide (2 = j)), .bl (decide (3 = j))] ++ [V.bl (decide (4 = j)), .bl (decide (5 = j)), .bl (decide (6 = j)), .bl (decide (7 = j))] ++ [V.bl (decide (8 = j)), .bl (decide (9 = j)), .bl (decide (10 = j)), .bl (decide (11 = j))] ++ [.bl (decide (12 = j))])) ld = some (.lst ((bsl j).map V.bl)) := upd_same
  have s4 : Same H (upd H3 ld (.lst ([V.bl (decide (0 = j)), .bl (decide (1 = j)), .bl (decide (2 = j)), .bl (decide (3 = j))] ++ [V.bl (decide (4 = j)), .bl (decide (5 = j)), .bl (decide (6 = j)), .bl (decide (7 = j))] ++ [V.bl (decide (8 = j)), .bl (decide (9 = j)), .bl (decide (10 = j)), .bl (decide (11 = j))] ++ [.bl (decide (12 = j))]))) := s3.stepB SameB.upd fd
  generalize upd H3 ld (.lst ([V.bl (decide (0 = j)), .bl (decide (1 = j)), .bl (decide (2 = j)), .bl (decide (3 = j))] ++ [V.bl (decide (4 = j)), .bl (decide (5 = j)), .bl (decide (6 = j)), .bl (decide (7 = j))] ++ [V.bl (decide (8 = j)), .bl (decide (9 = j)), .bl (decide (10 = j)), .bl (decide (11 = j))] ++ [.bl (decide (12 = j))])) = H4 at e4 s4 ⊢
  have he4 := s4 _ _ he
  refine ⟨leSize (by show 12 ≤ 1000; decide), fun ln hln => ?_⟩
  have nd : ld ≠ ln := ne_of_none e4 hln
  have fn : H ln = none := s4.free hln
  have s5 := s4.trans (same_new hln (.lst [V.str "plan", .str "text", .str "stretch", .str "spot", .str "opener", .str "address", .str "rules", .str "hand", .str "panel", .str "link", .str "log", .str "deed"]))
  have e5 := same_new hln (.lst [V.str "plan", .str "text", .str "stretch", .str "spot", .str "opener", .str "address", .str "rules", .str "hand", .str "panel", .str "link", .str "log", .str "deed"]) _ _ e4
  refine ⟨_, rfl, .inl ⟨rfl, _, SqL.of upd_same⟩, ln, _, _, rfl, rfl, upd_same, small1000 (by show 12 ≤ 1000; decide), ?_⟩
  generalize upd H4 ln (.lst [V.str "plan", .str "text", .str "stretch", .str "spot", .str "opener", .str "address", .str "rules", .str "hand", .str "panel", .str "link", .str "log", .str "deed"]) = H5 at s5 e5 ⊢
  have e6 : ∀ o, upd H5 ln o ld = some (.lst ((bsl j).map V.bl)) := fun o => by rw [upd_ne nd]; exact e5
  have s6 : ∀ o, Same H (upd H5 ln o) := fun o => s5.stepB SameB.upd fn
  refine ⟨_, rfl, isxT_mk (s6 _ _ _ he) k.xc k.kv ⟨_, rfl, iteF ?_⟩⟩
  refine ⟨_, rfl, .inl ⟨rfl, _, SqL.of (e6 _)⟩, countT_mk (e6 _) ⟨rfl, _, rfl, ?_⟩⟩
  rw [bsl_count j hj]
  refine iteNS rfl ?_
  refine ⟨_, rfl, _, rfl, .inl ⟨rfl, _, SqL.of (e6 _)⟩, indexT_mk (e6 _) (by omega) (bsl_at j hj) (bsl_no j hj) ⟨ln, _, _, _, rfl, rfl, SqL.of upd_same, atI_nat (wordAt j hj), q _ (s6 _)⟩⟩
end
end K31

set_option Elab.async false
set_option linter.all false
set_option maxRecDepth 100000
set_option pp.maxSteps 300
set_option maxHeartbeats 1000000
namespace K31
open PySem L2
abbrev s_is_whole : Stmt := top 17
abbrev p_is_whole : List Str := ["thing"]
theorem sc_is_whole : FnScope ["thing"] p_is_whole (defScope s_is_whole) := ⟨rfl, rfl, rfl, by decide +kernel, rfl, by decide +kernel, by decide +kernel⟩
abbrev s_waiting : Stmt := top 22
abbrev p_waiting : List Str := ["left"]
theorem sc_waiting : FnScope ["left"] p_waiting (defScope s_waiting) := ⟨rfl, rfl, rfl, by decide +kernel, rfl, by decide +kernel, by decide +kernel⟩
abbrev s_Sounder___init__ : Stmt := (inClass (top 23) 0)
abbrev p_Sounder___init__ : List Str := ["self", "outs"]
theorem sc_Sounder___init__ : FnScope ["self", "outs"] p_Sounder___init__ (defScope s_Sounder___init__) := ⟨rfl, rfl, rfl, by decide +kernel, rfl, by decide +kernel, by decide +kernel⟩
abbrev s_Sounder_next_of : Stmt := (inClass (top 23) 2)
abbrev p_Sounder_next_of : List Str := ["self", "address", "is_wanted", "has_new"]
theorem sc_Sounder_next_of : FnScope ["self", "address", "is_wanted", "has_new", "how", "left"] p_Sounder_next_of (defScope s_Sounder_next_of) := ⟨rfl, rfl, rfl, by decide +kernel, rfl, by decide +kernel, by decide +kernel⟩
abbrev s_Sounder_count_unused : Stmt := (inClass (top 23) 3)
abbrev p_Sounder_count_unused : List Str := ["self"]
theorem sc_Sounder_count_unused : FnScope ["self", "ended"] p_Sounder_count_unused (defScope s_Sounder_count_unused) := ⟨rfl, rfl, rfl, by decide +kernel, rfl, by decide +kernel, by decide +kernel⟩
abbrev s_Sounder_check_address : Stmt := (inClass (top 23) 9)
abbrev p_Sounder_check_address : List Str := ["self", "address"]
theorem sc_Sounder_check_address : FnScope ["self", "address"] p_Sounder_check_address (defScope s_Sounder_check_address) := ⟨rfl, rfl, rfl, by decide +kernel, rfl, by decide +kernel, by decide +kernel⟩
abbrev s_Sounder_state_of : Stmt := (inClass (top 23) 12)
abbrev p_Sounder_state_of : List Str := ["self", "address"]
theorem sc_Sounder_state_of : FnScope ["self", "address"] p_Sounder_state_of (defScope s_Sounder_state_of) := ⟨rfl, rfl, rfl, by decide +kernel, rfl, by decide +kernel, by decide +kernel⟩
abbrev s_Sounder_lengthen : Stmt := (inClass (top 23) 10)
abbrev p_Sounder_lengthen : List Str := ["self", "address"]
theorem sc_Sounder_lengthen : FnScope ["self", "address", "how", "left"] p_Sounder_lengthen (defScope s_Sounder_lengthen) := ⟨rfl, rfl, rfl, by decide +kernel, rfl, by decide +kernel, by decide +kernel⟩
abbrev s_Sounder_standing_by : Stmt := (inClass (top 23) 4)
abbrev p_Sounder_standing_by : List Str := ["self", "words"]
theorem sc_Sounder_standing_by : FnScope ["self", "words"] p_Sounder_standing_by (defScope s_Sounder_standing_by) := ⟨rfl, rfl, rfl, by decide +kernel, rfl, by decide +kernel, by decide +kernel⟩
abbrev s_Sounder_put_all : Stmt := (inClass (top 23) 5)
abbrev p_Sounder_put_all : List Str := ["self", "addresses", "stand"]
theorem sc_Sounder_put_all : FnScope ["self", "addresses", "stand", "address"] p_Sounder_put_all (defScope s_Sounder_put_all) := ⟨rfl, rfl, rfl, by decide +kernel, rfl, by decide +kernel, by decide +kernel⟩
abbrev s_Sounder_press : Stmt := (inClass (top 23) 6)
abbrev p_Sounder_press : List Str := ["self"]
theorem sc_Sounder_press : FnScope ["self"] p_Sounder_press (defScope s_Sounder_press) := ⟨rfl, rfl, rfl, by decide +kernel, rfl, by decide +kernel, by decide +kernel⟩
abbrev s_Sounder_silence : Stmt := (inClass (top 23) 7)
abbrev p_Sounder_silence : List Str := ["self"]
theorem sc_Sounder_silence : FnScope ["self"] p_Sounder_silence (defScope s_Sounder_silence) := ⟨rfl, rfl, rfl, by decide +kernel, rfl, by decide +kernel, by decide +kernel⟩
abbrev s_Sounder_reset : Stmt := (inClass (top 23) 8)
abbrev p_Sounder_reset : List Str := ["self"]
theorem sc_Sounder_reset : FnScope ["self", "loud"] p_Sounder_reset (defScope s_Sounder_reset) := ⟨rfl, rfl, rfl, by decide +kernel, rfl, by decide +kernel, by decide +kernel⟩
def isT : HO → Bool
  | .tup _ => true
  | .frz _ (.tup _) => true
  | _ => false
/-- tuples stay, the known ones too -/
structure TupF (H H' : Hp) : Prop where
  t : TupS H H'
  f : ∀ c o xs, H c = some (.frz o (.tup xs)) → H' c = some (.frz o (.tup xs))
instance {H H' : Hp} : CoeFun (TupF H H') (fun _ => TupS H H') := ⟨TupF.t⟩
theorem TupF.refl (H : Hp) : TupF H H := ⟨fun _ _ e => e, fun _ _ _ e => e⟩
theorem TupF.trans {H H1 H2 : Hp} (a : TupF H H1) (b : TupF H1 H2) : TupF H H2 := ⟨fun c xs e => b.t c xs (a.t c xs e), fun c o xs e => b.f c o xs (a.f c o xs e)⟩
theorem TupF.of {H H1 : Hp} (s : Same H H1) : TupF H H1 := ⟨fun c xs e => s c _ e, fun c o xs e => s c _ e⟩
theorem _root_.L2.SameB.tupF {b : Addr} {H H' : Hp} (x : SameB b H H') (h : ∀ o, H b = some o → isT o = false) : TupF H H' :=
  ⟨fun c xs e => x c _ e fun z => (by have q := h (.tup xs) (by rw [← z]; exact e); cases q), fun c o xs e => x c _ e fun z => (by have q := h (.frz o (.tup xs)) (by rw [← z]; exact e); cases q)⟩
theorem TupF.upd {H : Hp} {b : Addr} {o : HO} (h : ∀ o, H b = some o → isT o = false) : TupF H (upd H b o) := SameB.tupF SameB.upd h
theorem ntOf {H : Hp} {b : Addr} {o : HO} (e : H b = some o) (h : isT o = false := by rfl) : ∀ o', H b = some o' → isT o' = false := fun o' e' => by
  rw [e] at e'
  cases e'
  exact h
theorem BagAt.ntupF {H : Hp} {b : Addr} {n : Nat} (h : BagAt H b n) : ∀ o, H b = some o → isT o = false := by obtain ⟨_, _, _, e, _⟩ := h; exact ntOf e
/-! dicts by the outs' addresses -/
def dk (n : Nat) (a : Nat → Int) (v : Nat → V) : List (Key × V) := (List.range n).map fun j => ((.inl (a j) : Key), v j)
def upF {α : Type} (v : Nat → α) (i : Nat) (x : α) : Nat → α := fun j => if j = i then x else v j
def Apart (n : Nat) (a : Nat → Int) : Prop := ∀ i j, i < n → j < n → a i = a j → i = j
theorem dk_len (n : Nat) (a : Nat → Int) (v : Nat → V) : (dk n a v).length = n := by unfold dk; rw [List.length_map, List.length_range]
theorem dk_get {n i : Nat} {a : Nat → Int} {v : Nat → V} (h : i < n) : (dk n a v)[i]? = some (.inl (a i), v i) := by
  unfold dk
  rw [List.getElem?_map, List.getElem?_range h]
  rfl
theorem dk_at {n i : Nat} {a : Nat → Int} {v : Nat → V} {kv : Key × V} (h : (dk n a v)[i]? = some kv) : i < n ∧ kv = (.inl (a i), v i) := by
  have hi : i < n := by
    have := (List.getElem?_eq_some_iff.mp h).1
    rw [dk_len] at this
    exact this
  rw [dk_get hi] at h
  exact ⟨hi, (Option.some.inj h).symm⟩
theorem dk_succ (n : Nat) (a : Nat → Int) (v : Nat → V) : dk (n + 1) a v = dk n a v ++ [(.inl (a n), v n)] := by
  unfold dk
  rw [List.range_succ, List.map_append]
  rfl
theorem dk_keys (n : Nat) (a : Nat → Int) (v : Nat → V) : (dk n a v).map (·.1) = (List.range n).map fun j => (.inl (a j) : Key) := by
  unfold dk
  rw [List.map_map]
  rfl
theorem dk_congr {n : Nat} {a : Nat → Int} {v v' : Nat → V} (h : ∀ j, j < n → v j = v' j) : dk n a v = dk n a v' := by
  unfold dk
  refine List.map_congr_left fun j hj => ?_
  rw [h j (List.mem_range.mp hj)]
theorem dk_none {n : Nat} {a : Nat → Int} {v : Nat → V} {x : Int} (h : ∀ j, j < n → a j ≠ x) : valV (dk n a v) (.inl x) = none := by
  have h1 := valV_any (Sum.inl x : Key) (dk n a v)
  cases e : valV (dk n a v) (Sum.inl x : Key) with
  | none => rfl
  | some y =>
    rw [e] at h1
    obtain ⟨kv, hm, hk⟩ := List.any_eq_true.mp h1
    unfold dk at hm
    obtain ⟨j, hj, rfl⟩ := List.mem_map.mp hm
    exact absurd (Sum.inl.inj (of_decide_eq_true hk)) (h j (List.mem_range.mp hj))
theorem dk_val {a : Nat → Int} {v : Nat → V} : ∀ {n i : Nat}, Apart n a → i < n → valV (dk n a v) (.inl (a i)) = some (v i) := by
  intro n
  induction n with
  | zero => intro i _ h; exact absurd h (Nat.not_lt_zero _)
  | succ n ih =>
    intro i ap hi
    have ap' : Apart n a := fun x y hx hy e => ap x y (by omega) (by omega) e
    have hn : valV (dk n a v) (.inl (a n)) = none := dk_none fun j hj e => by have := ap j n (by omega) (by omega) e; omega
    rw [dk_succ, valV_snoc _ _ _ _ hn]
    by_cases e : i = n
    · rw [e, if_pos rfl]
    · rw [if_neg, ih ap' (by omega)]
      intro z
      exact e (ap i n hi (by omega) (Sum.inl.inj z))
theorem dk_put {n i : Nat} {a : Nat → Int} {v : Nat → V} (ap : Apart n a) (hi : i < n) (x : V) : putK (dk n a v) (.inl (a i)) x = dk n a (upF v i x) := by
  have h := dk_val (v := v) ap hi
  have h1 := valV_any (Sum.inl (a i) : Key) (dk n a v)
  rw [h] at h1
  unfold putK
  rw [if_pos (show ((dk n a v).any fun kv => decide (kv.1 = Sum.inl (a i))) = true from h1)]
  unfold dk
  rw [List.map_map]
  refine List.map_congr_left fun j hj => ?_
  have hj := List.mem_range.mp hj
  show (if (Sum.inl (a j) : Key) = Sum.inl (a i) then ((Sum.inl (a j) : Key), x) else (Sum.inl (a j), v j)) = (Sum.inl (a j), upF v i x j)
  unfold upF
  by_cases e : j = i
  · rw [e, if_pos rfl, if_pos rfl]
  · rw [if_neg e, if_neg fun z => e (ap j i hj hi (Sum.inl.inj z))]
/-- what an out stands by: the word, and what is left -/
abbrev Sta := Str × Int
def StAt (K : PySem.W.Frag) (H : Hp) (v : V) (s : Sta) : Prop := ∃ t, v = .ref t ∧ (H t = some (.tup [.str s.1, .int s.2]) ∨ ∀ H', SqT K H' t [.str s.1, .int s.2])
theorem StAt.sq {K : PySem.W.Frag} {H : Hp} {v : V} {s : Sta} (h : StAt K H v s) : ∃ t, v = .ref t ∧ SqT K H t [.str s.1, .int s.2] := by
  obtain ⟨t, e, h⟩ := h
  rcases h with h | h
  · exact ⟨t, e, SqT.of h⟩
  · exact ⟨t, e, h H⟩
theorem StAt.tups {K : PySem.W.Frag} {H H' : Hp} {v : V} {s : Sta} (h : StAt K H v s) (t : TupF H H') : StAt K H' v s := by
  obtain ⟨u, e, h⟩ := h
  rcases h with h | h
  · exact ⟨u, e, .inl (t _ _ h)⟩
  · exact ⟨u, e, .inr h⟩
def wt (l : Int) : Sta := if l > 0 then ("waiting", l) else ("sounding", 0)
/-- the marks of the lengthened behind it -/
def ng (g : Nat → Bool) (i : Nat) (w : Bool) (s : Sta) : Nat → Bool := if s.1 = "still" ∧ w = true then upF g i false else g
/-- how an out stands behind a beat -/
def nx (dl : Int) (w n : Bool) (s : Sta) : Sta :=
  if s.1 = "silenced" ∧ n = true then ("sounding", 0)
  else if s.1 = "still" ∧ w = true then wt dl
  else if s.1 = "waiting" then (if w = true then wt (s.2 - 1) else ("still", 0))
  else s
structure Tx (K : PySem.W.Frag) (mg : Str → Option Value) (C st so si : Addr) : Prop extends Nm mg where
  cl : Cls K C
  mgC : mg "Sounder" = some (.ref C)
  n_delays : NoAttr K C "delays"
  n_standing : NoAttr K C "standing"
  n_lengthened : NoAttr K C "lengthened"
  n_unused : NoAttr K C "unused"
  n_wanted : NoAttr K C "wanted"
  STILL : ∃ u, mg "STILL" = some u ∧ RelV (.ref st) u
  SOUNDING : ∃ u, mg "SOUNDING" = some u ∧ RelV (.ref so) u
  SILENCED : ∃ u, mg "SILENCED" = some u ∧ RelV (.ref si) u
  silenced : ∀ H, SqT K H si [.str "silenced", .int 0]
  still : ∀ H, SqT K H st [.str "still", .int 0]
  sounding : ∀ H, SqT K H so [.str "sounding", .int 0]
/-! the attributes -/
def fl (d1 d2 d3 d4 wa : Addr) : List (Str × V) := [("delays", .ref d1), ("standing", .ref d2), ("lengthened", .ref d3), ("unused", .ref d4), ("wanted", .ref wa)]
theorem names_nd : (["delays", "standing", "lengthened", "unused", "wanted"] : List Str).Nodup := by decide +kernel
section
variable (d1 d2 d3 d4 wa : Addr)
theorem fnd : ((fl d1 d2 d3 d4 wa).map (·.1)).Nodup := names_nd
theorem fl_len : (fl d1 d2 d3 d4 wa).length < 1000 := by show 5 < 1000; decide
theorem get_delays : List.lookup ("delays" : Str) (fl d1 d2 d3 d4 wa) = some (V.ref d1) := fl_get (i := 0) (fnd d1 d2 d3 d4 wa) rfl
theorem get_standing : List.lookup ("standing" : Str) (fl d1 d2 d3 d4 wa) = some (V.ref d2) := fl_get (i := 1) (fnd d1 d2 d3 d4 wa) rfl
theorem get_lengthened : List.lookup ("lengthened" : Str) (fl d1 d2 d3 d4 wa) = some (V.ref d3) := fl_get (i := 2) (fnd d1 d2 d3 d4 wa) rfl
theorem get_unused : List.lookup ("unused" : Str) (fl d1 d2 d3 d4 wa) = some (V.ref d4) := fl_get (i := 3) (fnd d1 d2 d3 d4 wa) rfl
theorem get_wanted : List.lookup ("wanted" : Str) (fl d1 d2 d3 d4 wa) = some (V.ref wa) := fl_get (i := 4) (fnd d1 d2 d3 d4 wa) rfl
theorem put_unused (d : Addr) : putF "unused" (.ref d) (fl d1 d2 d3 d4 wa) = fl d1 d2 d3 d wa := fl_put (i := 3) (fnd d1 d2 d3 d4 wa) rfl
theorem put_wanted (d : Addr) : putF "wanted" (.ref d) (fl d1 d2 d3 d4 wa) = fl d1 d2 d3 d4 d := fl_put (i := 4) (fnd d1 d2 d3 d4 wa) rfl
end
theorem fno {d1 d2 d3 d4 wa : Addr} {x : Str} (h : x ∉ (["delays", "standing", "lengthened", "unused", "wanted"] : List Str)) : (fl d1 d2 d3 d4 wa).lookup x = none := fl_no h
/-- a sounder's outs and how they stand; delays may be walked -/
structure SdR (C : Addr) (K : PySem.W.Frag) (H : Hp) (p d1 d2 d3 d4 wa : Addr) (n : Nat) (a dl : Nat → Int) (s : Nat → Sta) (g : Nat → Bool) : Prop where
  ins : ∃ dx, H p = some (.ins C dx (fl d1 d2 d3 d4 wa))
  del : Rd H d1 (.dK (dk n a fun j => .int (dl j)))
  sta : ∃ v, H d2 = some (.dK (dk n a v)) ∧ ∀ j, j < n → StAt K H (v j) (s j)
  len : H d3 = some (.dK (dk n a fun j => .bl (g j)))
  ap : Apart n a
  few : n ≤ 100
  n12 : d1 ≠ d2
  n13 : d1 ≠ d3
  n23 : d2 ≠ d3
theorem rd_tup {H H' : Hp} {d : Addr} {u : HO} (h : Rd H d u) (s : ∀ o, H d = some o → H' d = some o) : Rd H' d u := by
  rcases h with h | ⟨o, h⟩
  · exact .inl (s _ h)
  · exact .inr ⟨o, s _ h⟩
/-- the outs: a tuple of pairs -/
def OTup (H : Hp) (oa : Addr) (vs : List V) : Prop := ∃ o, H oa = some (.frz o (.tup vs)) ∧ Tp o
theorem OTup.sq {K : PySem.W.Frag} {H : Hp} {oa : Addr} {vs : List V} (h : OTup H oa vs) : SqT K H oa vs := by
  obtain ⟨o, e, _⟩ := h
  exact .inl (.inr ⟨o, e⟩)
theorem OTup.tups {H H' : Hp} {oa : Addr} {vs : List V} (h : OTup H oa vs) (s : TupF H H') : OTup H' oa vs := by
  obtain ⟨o, e, p⟩ := h
  exact ⟨o, s.f _ _ _ e, p⟩
theorem OTup.same {H H' : Hp} {oa : Addr} {vs : List V} (h : OTup H oa vs) (s : Same H H') : OTup H' oa vs := h.tups (TupF.of s)
def OutsAt (H : Hp) (oa : Addr) (n : Nat) (a dl : Nat → Int) : Prop := ∃ t : Nat → Addr, OTup H oa ((List.range n).map fun j => V.ref (t j)) ∧ ∀ j, j < n → H (t j) = some (.tup [.int (a j), .int (dl j)])
theorem OutsAt.tups {H H' : Hp} {oa : Addr} {n : Nat} {a dl : Nat → Int} (h : OutsAt H oa n a dl) (s : TupF H H') : OutsAt H' oa n a dl := by
  obtain ⟨t, h1, h2⟩ := h
  exact ⟨t, h1.tups s, fun j hj => s _ _ (h2 j hj)⟩
theorem rg_get {α : Type} {n i : Nat} {f : Nat → α} {x : α} (h : ((List.range n).map f)[i]? = some x) : i < n ∧ x = f i := by
  have hi : i < n := by
    have := (List.getElem?_eq_some_iff.mp h).1
    rw [List.length_map, List.length_range] at this
    exact this
  rw [List.getElem?_map, List.getElem?_range hi] at h
  exact ⟨hi, (Option.some.inj h).symm⟩
theorem dk_new {a : Nat → Int} {v : Nat → V} {n i : Nat} (ap : Apart n a) (hi : i < n) : putK (dk i a v) (.inl (a i)) (v i) = dk (i + 1) a v := by
  rw [putK_new, dk_succ]
  exact dk_none fun j hj e => by have := ap j i (by omega) hi e; omega
theorem thaw_same {H HH : Hp} {d : Addr} {o : Obj} {u : HO} (s : Same (upd H d (.frz o u)) HH) (h : H d = some u) : Same H (upd HH d u) := fun c x e => by
  by_cases z : c = d
  · subst z
    rw [upd_same, ← h, e]
  · rw [upd_ne z]
    exact s _ _ (by rw [upd_ne z]; exact e)
/-- {address: .. for address, delay in outs} -/
theorem dcompO {K : PySem.W.Frag} {H : Hp} {oa l : Addr} {n : Nat} {a dl : Nat → Int} {tv : TE} {Q : VK} (f : Nat → V) (ho : OutsAt H oa n a dl) (ap : Apart n a) (few : n ≤ 100) (hl : H l = none)
    (htv : ∀ j HH (R : VK), R (f j) HH → tv [some (.int (a j)), some (.int (dl j))] HH R) (q : Q (.ref l) (upd H l (.dK (dk n a f)))) :
    DWant (Itt K oa) (gTup K 2 (gCons (gName 0) (gCons (gName 1) gNil))) (fun _ H Q => Q true H) (tVar 0) tv Q [none, none] (upd H l (.dK [])) l := by
  obtain ⟨t, h1, h2⟩ := ho
  refine dcomp_tup (xs := (List.range n).map fun j => V.ref (t j)) (fun i σ HH => (∃ u v, σ = [u, v]) ∧ HH = upd H l (.dK (dk i a f))) ⟨⟨none, none, rfl⟩, rfl⟩ (fun i σ HH _ h => ?_) (fun i x σ HH hx h => ?_) (fun σ HH h => ?_)
  · obtain ⟨_, rfl⟩ := h
    exact (h1.same (same_new hl _)).sq
  · obtain ⟨⟨u, v, rfl⟩, rfl⟩ := h
    obtain ⟨hi, rfl⟩ := rg_get hx
    refine ⟨t i, _, rfl, SqT.of (same_new hl _ _ _ (h2 i hi)), rfl, _, _, rfl, _, _, rfl, rfl, iteT ⟨_, rfl, htv i _ _ ⟨_, .inl (a i), upd_same, rfl, ?_, ⟨_, _, rfl⟩, ?_⟩⟩⟩
    · rw [dk_len]; exact small1000 (by omega)
    · rw [upd_upd, dk_new ap hi]
  · obtain ⟨_, rfl⟩ := h
    rw [List.length_map, List.length_range]
    exact q
def spWait (K : PySem.W.Frag) : Sp := fun vs H Q _ => ∃ l : Int, vs = [.int l] ∧ ∀ v H', StAt K H' v (wt l) → Same H H' → Q v H'
def spNext (C : Addr) (K : PySem.W.Frag) : Sp := fun vs H Q _ => ∃ p d1 d2 d3 d4 wa n a dl s g i w m, vs = [.ref p, .int (a i), .bl w, .bl m] ∧ i < n ∧ SdR C K H p d1 d2 d3 d4 wa n a dl s g ∧
  ∀ v H', StAt K H' v (nx (dl i) w m (s i)) → H' d3 = some (.dK (dk n a fun j => .bl (ng g i w (s i) j))) → SameB d3 H H' → Q v H'
theorem if2 {c d : Bool} {o : Option (Option V)} {A B : Prop} (ho : o = some (some (V.bl d))) (h1 : c = true → d = true → A) (h2 : ¬ (c = true ∧ d = true) → B) :
    if c = true then (∃ v, o = some (some v) ∧ ∃ k, v = V.bl k ∧ if k = true then A else B) else (if false = true then A else B) := by
  cases c with
  | false =>
    rw [if_neg Bool.false_ne_true, if_neg Bool.false_ne_true]
    exact h2 fun z => Bool.false_ne_true z.1
  | true =>
    rw [if_pos rfl]
    refine ⟨_, ho, d, rfl, ?_⟩
    cases d with
    | false => rw [if_neg Bool.false_ne_true]; exact h2 fun z => Bool.false_ne_true z.2
    | true => rw [if_pos rfl]; exact h1 rfl rfl
theorem dstr {x y : Str} (h : decide (V.str x = V.str y) = true) : x = y := V.str.inj (of_decide_eq_true h)
theorem dstr' {x y : Str} (h : ¬ decide (V.str x = V.str y) = true) : x ≠ y := fun z => h (decide_eq_true (by rw [z]))
theorem dstr2 {x y : Str} {d : Bool} (h : ¬ (decide (V.str x = V.str y) = true ∧ d = true)) : ¬ (x = y ∧ d = true) := fun z => h ⟨decide_eq_true (by rw [z.1]), z.2⟩
def zer : Nat → V := fun _ => .int 0
def spW : Sp := fun vs H Q _ => ∃ i : Int, vs = [.int i] ∧ Q (.bl true) H
def spChk (C ca : Addr) (K : PySem.W.Frag) : Sp := fun vs H Q E => ∃ p d1 d2 d3 d4 wa n a dl s g x, vs = [.ref p, .int x] ∧ SdR C K H p d1 d2 d3 d4 wa n a dl s g ∧ ((∃ i, i < n ∧ a i = x) → Q .non H) ∧ ((∀ i, i < n → a i ≠ x) → ∀ H', Same H H' → E (.ref ca) none H')
def spState (C : Addr) (K : PySem.W.Frag) : Sp := fun vs H Q _ => ∃ p d1 d2 d3 d4 wa n a dl s g i, vs = [.ref p, .int (a i)] ∧ i < n ∧ SdR C K H p d1 d2 d3 d4 wa n a dl s g ∧ ∀ v, StAt K H v (s i) → Q v H
def spCount (C : Addr) : Sp := fun vs H Q _ => ∃ p dx d1 d2 d3 d4 wa n a, vs = [.ref p] ∧ H p = some (.ins C dx (fl d1 d2 d3 d4 wa)) ∧ H d4 = some (.dK (dk n a zer)) ∧ Apart n a ∧ n ≤ 100 ∧
  ∀ t d H', H t = none → H d = none → H' t = some (.lst []) → H' d = some (.dK (dk n a zer)) → H' p = some (.ins C dx (fl d1 d2 d3 d wa)) → SameB p H H' → Q (.ref t) H'
def spInit (C : Addr) (K : PySem.W.Frag) : Sp := fun vs H Q _ => ∃ p dx oa n a dl, vs = [.ref p, .ref oa] ∧ H p = some (.ins C dx []) ∧ OutsAt H oa n a dl ∧ Apart n a ∧ n ≤ 100 ∧
  ∀ d1 d2 d3 d4 wa H', H d1 = none → H d2 = none → H d3 = none → H d4 = none → H wa = none → SdR C K H' p d1 d2 d3 d4 wa n a dl (fun _ => ("still", 0)) (fun _ => false) → H' d1 = some (.dK (dk n a fun j => .int (dl j))) → H' d4 = some (.dK (dk n a zer)) → H' wa = some (.tup []) → d4 ≠ d1 → d4 ≠ d2 → d4 ≠ d3 → SameB p H H' → Q .non H'
section
variable {P : Program} {w : World} {K : PySem.W.Frag} {mg : Str → Option Value} {base : Heap} {C st so si : Addr}
theorem ok_waiting (c : Code K mg "waiting" s_waiting p_waiting) (T : Tx K mg C st so si) : Good P w K mg base "waiting" 1 p_waiting (spWait K) := by
  refine c.good sc_waiting (fun vs H Q E h => ?_) (fun f cdv A outer s H vs Q E hr h => ?_)
  · obtain ⟨l, rfl, _⟩ := h
    rfl
  obtain ⟨l, rfl, q⟩ := h
  refine ⟨_, (pss_one (ps_ret (pe_ifExp (pt_cmpR op_gt (pv 0) pe_int (nomark _)) (pe_tup (pa_cons pe_str (pa_cons (pv 0) pa_nil))) (pe_cst rfl T.SOUNDING)))), ?_⟩
  refine ⟨_, rfl, _, _, rfl, rfl, _, rfl, ite2 (fun c1 => ?_) (fun c1 => ?_)⟩
  · have c' : l > 0 := of_decide_eq_true c1
    refine ⟨_, rfl, leSize (by show 2 ≤ 1000; decide), fun t ht => q _ _ ?_ (same_new ht _)⟩
    unfold wt
    rw [if_pos c']
    exact ⟨t, rfl, .inl upd_same⟩
  · have c' : ¬ l > 0 := fun z => c1 (decide_eq_true z)
    refine q _ _ ?_ (Same.refl H)
    unfold wt
    rw [if_neg c']
    exact ⟨so, rfl, .inr T.sounding⟩
theorem ok_next (c : CodeM K C "next_of" "Sounder.next_of" s_Sounder_next_of p_Sounder_next_of) (T : Tx K mg C st so si) (g_waiting : Good P w K mg base "waiting" 1 p_waiting (spWait K)) : GoodM P w K mg base C "next_of" 2 p_Sounder_next_of (spNext C K) := by
  refine c.good sc_Sounder_next_of (fun vs H Q E h => ?_) (fun f cdv A outer s H vs Q E hr h => ?_)
  · obtain ⟨p, d1, d2, d3, d4, wa, n, a, dl, s, g, i, w, m, rfl, _⟩ := h
    rfl
  obtain ⟨p, d1, d2, d3, d4, wa, n, a, dl, s, g, i, w, m, rfl, hi, ⟨⟨dx, hp⟩, h1, ⟨v, h2, hv⟩, h3, ap, few, n12, n13, n23⟩, q⟩ := h
  refine ⟨_, (pss_cons (ps_asg (pe_dget (hu_of hr) (pe_fld (pv 0) rfl) (pv 1) (fun _ _ => rfl)) (pg_tup rfl (pgs_cons (pg_name (i := 4) sc_Sounder_next_of.nd rfl (Or.inl rfl)) (pgs_cons (pg_name (i := 5) sc_Sounder_next_of.nd rfl (Or.inl rfl)) pgs_nil))))
  (pss_cons (ps_if (PW.pt (pw_and (pt_cmpR op_eq (pv 4) pe_str (nomark _)) (pw_and1 (pt_val (pv 3))))) (pss_one (ps_ret (pe_cst rfl T.SOUNDING))) pss_nil)
  (pss_cons (ps_if (PW.pt (pw_and (pt_cmpR op_eq (pv 4) pe_str (nomark _)) (pw_and1 (pt_val (pv 2))))) (pss_cons (ps_dput (hu_of hr) (pe_fld (pv 0) rfl) (pv 1) pe_bl rfl)
  (pss_one (ps_ret (pcall g_waiting hr (pa_cons (pe_dget (hu_of hr) (pe_fld (pv 0) rfl) (pv 1) (fun _ _ => rfl)) pa_nil))))) pss_nil)
  (pss_cons (ps_if (pt_cmpR op_eq (pv 4) pe_str (nomark _)) (pss_one (ps_ret (pe_ifExp (pt_val (pv 2)) (pcall g_waiting hr (pa_cons (pe_op op_sub (pv 5) pe_int) pa_nil)) (pe_cst rfl T.STILL)))) pss_nil)
  (pss_one (ps_ret (pe_tup (pa_cons (pv 4) (pa_cons (pv 5) pa_nil))))))))), ?_⟩
  obtain ⟨t, et, ht⟩ := (hv i hi).sq
  refine ⟨_, rfl, p, C, dx, _, _, rfl, hp, T.cl, T.n_standing, get_standing d1 d2 d3 d4 wa, _, rfl, d2, _, rfl, (by have z := DGet.k (k := .inl (a i)) h2; rw [dk_val ap hi] at z; exact z), ?_⟩
  have q' := q
  clear q
  generalize hsi : s i = si at ht q'
  obtain ⟨x, lf⟩ := si
  refine ⟨t, _, et, ht, rfl, _, _, rfl, _, _, rfl, rfl, ?_⟩
  simp only [List.set_cons_succ, List.set_cons_zero]
  have keep : ∀ {H' : Hp}, SameB d3 H H' → H' d3 = some (.dK (dk n a fun j => .bl (g j))) → ¬ (x = "still" ∧ w = true) → H' d3 = some (.dK (dk n a fun j => .bl (ng g i w (x, lf) j))) := fun {H'} _ h3 z => by
    rw [show ng g i w (x, lf) = g from if_neg z]
    exact h3
  refine ⟨_, rfl, rfl, _, rfl, if2 rfl (fun c1 c2 => ?_) (fun c => ?_)⟩
  · refine q' _ _ ?_ (keep (SameB.refl d3 H) h3 fun z => by rw [dstr c1] at z; exact absurd z.1 (by decide +kernel)) (SameB.refl d3 H)
    unfold nx
    rw [if_pos ⟨dstr c1, c2⟩]
    exact ⟨so, rfl, .inr T.sounding⟩
  have e1 := dstr2 c
  refine ⟨_, rfl, rfl, _, rfl, if2 rfl (fun c1 c2 => ?_) (fun c => ?_)⟩
  · refine ⟨_, rfl, p, C, dx, _, _, rfl, hp, T.cl, T.n_lengthened, get_lengthened d1 d2 d3 d4 wa, _, rfl, d3, _, rfl, DPut.k (k := .inl (a i)) h3 (by rw [dk_len]; exact small1000 (by omega)), ?_⟩
    rw [dk_put ap hi]
    have np : p ≠ d3 := fun z => by rw [z, h3] at hp; cases hp
    have hp1 : ∀ o, (upd H d3 o) p = some (.ins C dx (fl d1 d2 d3 d4 wa)) := fun o => by rw [upd_ne np]; exact hp
    have h11 : ∀ o, Rd (upd H d3 o) d1 (.dK (dk n a fun j => .int (dl j))) := fun o => rd_tup h1 fun u z => by rw [upd_ne n13]; exact z
    refine ⟨_, rfl, p, C, dx, _, _, rfl, hp1 _, T.cl, T.n_delays, get_delays d1 d2 d3 d4 wa, _, rfl, d1, _, rfl, .inl ⟨_, .inl (a i), h11 _, rfl, (dk_val ap hi).symm⟩, _, rfl, fun v H' hv' s' => ?_⟩
    have ngp : (fun j => V.bl (ng g i w (x, lf) j)) = upF (fun j => V.bl (g j)) i (.bl false) := by
      rw [show ng g i w (x, lf) = upF g i false from if_pos ⟨dstr c1, c2⟩]
      funext j
      unfold upF
      split <;> rfl
    refine q' _ _ ?_ (by rw [ngp]; exact s' _ _ upd_same) (SameB.upd.trans (SameB.of s'))
    unfold nx
    rw [if_neg e1, if_pos ⟨dstr c1, c2⟩]
    exact hv'
  have e2 := dstr2 c
  refine ⟨_, rfl, rfl, _, rfl, ite2 (fun c1 => ?_) (fun c1 => ?_)⟩
  · refine ⟨_, rfl, _, rfl, ite2 (fun c2 => ?_) (fun c2 => ?_)⟩
    · refine ⟨_, rfl, _, _, rfl, rfl, _, rfl, fun v H' hv' s' => q' _ _ ?_ (keep (SameB.of s') (s' _ _ h3) e2) (SameB.of s')⟩
      unfold nx
      rw [if_neg e1, if_neg e2, if_pos (dstr c1), if_pos c2]
      exact hv'
    · refine q' _ _ ?_ (keep (SameB.refl d3 H) h3 e2) (SameB.refl d3 H)
      unfold nx
      rw [if_neg e1, if_neg e2, if_pos (dstr c1), if_neg c2]
      exact ⟨st, rfl, .inr T.still⟩
  · refine ⟨_, rfl, _, rfl, leSize (by show 2 ≤ 1000; decide), fun u hu => q' _ _ ?_ (keep (SameB.of (same_new hu _)) (same_new hu _ _ _ h3) e2) (SameB.of (same_new hu _))⟩
    unfold nx
    rw [if_neg e1, if_neg e2, if_neg (dstr' c1)]
    exact ⟨u, rfl, .inl upd_same⟩
theorem ok_whole (c : Code K mg "is_whole" s_is_whole p_is_whole) (T : Tx K mg C st so si) : Good P w K mg base "is_whole" 1 p_is_whole spW := by
  refine c.good sc_is_whole (fun vs H Q E h => ?_) (fun f cdv A outer s H vs Q E hr h => ?_)
  · obtain ⟨i, rfl, _⟩ := h
    rfl
  obtain ⟨i, rfl, q⟩ := h
  refine ⟨_, (pss_one (ps_ret (pe_and (pe_callB call_isi rfl T.isinstance bt_isinstance (pa_cons (pv 0) (pa_cons (pe_bltn (v := .ty "int") rfl T.int bt_int rfl) pa_nil))) (pe_one (pe_not (pe_callB call_isi rfl T.isinstance bt_isinstance (pa_cons (pv 0) (pa_cons (pe_bltn (v := .ty "bool") rfl T.bool bt_bool rfl) pa_nil)))))))), ?_⟩
  exact ⟨_, rfl, isi_int True.intro ⟨_, rfl, iteT ⟨_, rfl, isi_bool rfl ⟨_, rfl, q⟩⟩⟩⟩
theorem ok_check {hc c0 c1 c2 c3 c4 c5 c6 c7 c8 c9 c10 c11 c12 : Addr} (c : CodeM K C "check_address" "Sounder.check_address" s_Sounder_check_address p_Sounder_check_address) (T : Tx K mg C st so si) (XE : Er K mg hc c0 c1 c2 c3 c4 c5 c6 c7 c8 c9 c10 c11 c12) (k_NoAddress : Knd K hc c5 [c0, c1, c2, c3, c4, c5, c6, c7, c8, c9, c10, c11, c12] 5) (g_is_whole : Good P w K mg base "is_whole" 1 p_is_whole spW) : GoodMX P w K mg base C "check_address" 2 p_Sounder_check_address (spChk C c5 K) := by
  refine c.goodX sc_Sounder_check_address (fun vs H Q E h => ?_) (fun X f cdv A outer s H vs Q E eX hx hr h => ?_)
  · obtain ⟨p, d1, d2, d3, d4, wa, n, a, dl, s, g, x, rfl, _⟩ := h
    rfl
  subst eX
  obtain ⟨p, d1, d2, d3, d4, wa, n, a, dl, s, g, x, rfl, ⟨⟨dx, hp⟩, h1, _, _, ap, few, n12, n13, n23⟩, q, qE⟩ := h
  refine ⟨_, (pss_one (ps_if (PW.pt (pw_or (pt_not (pt_val (pcall g_is_whole hr (pa_cons (pv 1) pa_nil)))) (pw_or1 (pt_cmp (pc_dnotin (hu_of hr) (pv 1) (pe_fld (pv 0) rfl)))))) (pss_one (ps_raise rfl k_NoAddress.xc rfl XE.nNoAddress hx (pa_cons pe_str pa_nil))) pss_nil)), ?_⟩
  by_cases hx' : ∃ i, i < n ∧ a i = x
  · obtain ⟨i, hi, rfl⟩ := hx'
    exact ⟨_, rfl, _, rfl, ⟨_, rfl, iteF ⟨_, rfl, _, rfl, p, C, dx, _, _, rfl, hp, T.cl, T.n_delays, get_delays d1 d2 d3 d4 wa, d1, _, rfl, .inl ⟨_, .inl (a i), h1, rfl, (dk_val ap hi).symm⟩, _, rfl, iteF (q ⟨i, hi, rfl⟩)⟩⟩⟩
  · have no : ∀ i, i < n → a i ≠ x := fun i hi e => hx' ⟨i, hi, e⟩
    exact ⟨_, rfl, _, rfl, ⟨_, rfl, iteF ⟨_, rfl, _, rfl, p, C, dx, _, _, rfl, hp, T.cl, T.n_delays, get_delays d1 d2 d3 d4 wa, d1, _, rfl, .inl ⟨_, .inl x, h1, rfl, (dk_none no).symm⟩, _, rfl, iteT ⟨leSize (by show 1 ≤ 1000; decide), qE no _ (Same.refl H)⟩⟩⟩⟩
theorem ok_state {ca : Addr} (c : CodeM K C "state_of" "Sounder.state_of" s_Sounder_state_of p_Sounder_state_of) (T : Tx K mg C st so si) (g_m_check_address : GoodMX P w K mg base C "check_address" 2 p_Sounder_check_address (spChk C ca K)) : GoodM P w K mg base C "state_of" 3 p_Sounder_state_of (spState C K) := by
  refine c.good sc_Sounder_state_of (fun vs H Q E h => ?_) (fun f cdv A outer s H vs Q E hr h => ?_)
  · obtain ⟨p, d1, d2, d3, d4, wa, n, a, dl, s, g, i, rfl, _⟩ := h
    rfl
  obtain ⟨p, d1, d2, d3, d4, wa, n, a, dl, s, g, i, rfl, hi, S, q⟩ := h
  refine ⟨_, (pss_cons (ps_expr (pmethX (pv 0) T.cl g_m_check_address hr passX0 (pa_cons (pv 1) pa_nil)))
  (pss_one (ps_ret (pe_dget (hu_of hr) (pe_fld (pv 0) rfl) (pv 1) (fun _ _ => rfl))))), ?_⟩
  have S' := S
  obtain ⟨⟨dx, hp⟩, h1, ⟨v, h2, hv⟩, _, ap, few, n12, n13, n23⟩ := S'
  refine ⟨_, rfl, p, dx, _, rfl, hp, fno (by decide +kernel), _, rfl, p, d1, d2, d3, d4, wa, n, a, dl, s, g, _, rfl, S, (fun _ => ?_), (fun no => absurd rfl (no i hi))⟩
  exact ⟨_, rfl, p, C, dx, _, _, rfl, hp, T.cl, T.n_standing, get_standing d1 d2 d3 d4 wa, _, rfl, d2, _, rfl, .inl ⟨_, .inl (a i), .inl h2, rfl, (dk_val ap hi).symm⟩, q _ (hv i hi)⟩
theorem ok_init (F : ∃ f fd, Fun K "__init__" "Sounder.__init__" s_Sounder___init__ f fd ∧ Mk K C f ∧ Binds K fd p_Sounder___init__ []) (T : Tx K mg C st so si) : GoodI P w K mg base C 1 p_Sounder___init__ (spInit C K) := by
  obtain ⟨f, fd, F, Mk, b⟩ := F
  refine ⟨f, fd, Mk, b, F.ok sc_Sounder___init__ (fun vs H Q E h => ?_) (fun cdv A outer s H vs Q E hr h => ?_)⟩
  · obtain ⟨p, dx, oa, n, a, dl, rfl, _⟩ := h
    rfl
  obtain ⟨p, dx, oa, n, a, dl, rfl, hp, ho, ap, few, q⟩ := h
  refine ⟨_, (pss_cons (ps_fldE (pv 0) (pe_dcomp (N' := ["address", "delay"]) rfl (CScope.plain rfl (by decide +kernel) (by decide +kernel) (by decide +kernel)) (pi_tup (pv 1)) (fun _ _ _ _ => (pg_tupK (K := K) (n := 2) rfl rfl (pgs_cons (pg_name (i := 0) (show List.Nodup (["address", "delay"] : List Str) by decide +kernel) rfl (Or.inl rfl)) (pgs_cons (pg_name (i := 1) (show List.Nodup (["address", "delay"] : List Str) by decide +kernel) rfl (Or.inl rfl)) pgs_nil)))) (fun _ _ _ _ => pf_nil) (fun _ _ _ _ => (pv 0)) (fun _ _ _ _ => (pv 1))) rfl)
  (pss_cons (ps_fldE (pv 0) (pe_dcomp (N' := ["address", "delay"]) rfl (CScope.plain rfl (by decide +kernel) (by decide +kernel) (by decide +kernel)) (pi_tup (pv 1)) (fun _ _ _ _ => (pg_tupK (K := K) (n := 2) rfl rfl (pgs_cons (pg_name (i := 0) (show List.Nodup (["address", "delay"] : List Str) by decide +kernel) rfl (Or.inl rfl)) (pgs_cons (pg_name (i := 1) (show List.Nodup (["address", "delay"] : List Str) by decide +kernel) rfl (Or.inl rfl)) pgs_nil)))) (fun _ _ _ _ => pf_nil) (fun _ _ _ _ => (pv 0)) (fun _ _ _ _ => (pe_cst rfl T.STILL))) rfl)
  (pss_cons (ps_fldE (pv 0) (pe_dcomp (N' := ["address", "delay"]) rfl (CScope.plain rfl (by decide +kernel) (by decide +kernel) (by decide +kernel)) (pi_tup (pv 1)) (fun _ _ _ _ => (pg_tupK (K := K) (n := 2) rfl rfl (pgs_cons (pg_name (i := 0) (show List.Nodup (["address", "delay"] : List Str) by decide +kernel) rfl (Or.inl rfl)) (pgs_cons (pg_name (i := 1) (show List.Nodup (["address", "delay"] : List Str) by decide +kernel) rfl (Or.inl rfl)) pgs_nil)))) (fun _ _ _ _ => pf_nil) (fun _ _ _ _ => (pv 0)) (fun _ _ _ _ => pe_bl)) rfl)
  (pss_cons (ps_fldE (pv 0) (pe_dcomp (N' := ["address", "delay"]) rfl (CScope.plain rfl (by decide +kernel) (by decide +kernel) (by decide +kernel)) (pi_tup (pv 1)) (fun _ _ _ _ => (pg_tupK (K := K) (n := 2) rfl rfl (pgs_cons (pg_name (i := 0) (show List.Nodup (["address", "delay"] : List Str) by decide +kernel) rfl (Or.inl rfl)) (pgs_cons (pg_name (i := 1) (show List.Nodup (["address", "delay"] : List Str) by decide +kernel) rfl (Or.inl rfl)) pgs_nil)))) (fun _ _ _ _ => pf_nil) (fun _ _ _ _ => (pv 0)) (fun _ _ _ _ => pe_int)) rfl)
  (pss_one (ps_fldE (pv 0) (pe_tup pa_nil) rfl)))))), ?_⟩
  have ntp : ∀ H' : Hp, (∃ o, H' p = some (.ins C dx o)) → ∀ o', H' p = some o' → isT o' = false := fun H' ⟨o, e⟩ => ntOf e
  refine ⟨_, rfl, oa, rfl, ⟨_, ho.choose_spec.1.sq⟩, fun d1 f1 => dcompO (fun j => .int (dl j)) ho ap few f1 (fun j HH R r => ⟨_, rfl, r⟩) ?_⟩
  have k1 := same_new f1 (.dK (dk n a fun j => .int (dl j)))
  have u1 : (upd H d1 (.dK (dk n a fun j => .int (dl j)))) d1 = _ := upd_same
  refine ⟨_, rfl, p, C, dx, _, _, rfl, k1 _ _ hp, T.cl, T.n_delays, (by show 0 < 1000; decide), fl_new (by show _ ∉ ([] : List Str); decide +kernel), fun H1 h1 s1 => ?_⟩
  have np1 : d1 ≠ p := fun z => by rw [z, hp] at f1; cases f1
  have ho1 := ho.tups ((TupF.of k1).trans (s1.tupF (ntp _ ⟨_, k1 _ _ hp⟩)))
  have u11 := s1 _ _ u1 np1
  have r1 : SameB p H H1 := (SameB.of k1).trans s1
  refine ⟨_, rfl, oa, rfl, ⟨_, ho1.choose_spec.1.sq⟩, fun d2 f2 => dcompO (fun _ => .ref st) ho1 ap few f2 (fun j HH R r => r) ?_⟩
  have k2 := same_new f2 (.dK (dk n a fun _ => .ref st))
  have u2 : (upd H1 d2 (.dK (dk n a fun _ => .ref st))) d2 = _ := upd_same
  refine ⟨_, rfl, p, C, dx, _, _, rfl, k2 _ _ h1, T.cl, T.n_standing, (by show 1 < 1000; decide), fl_new (by show _ ∉ (["delays"] : List Str); decide +kernel), fun H2 h2 s2 => ?_⟩
  have np2 : d2 ≠ p := fun z => by rw [z, h1] at f2; cases f2
  have ho2 := ho1.tups ((TupF.of k2).trans (s2.tupF (ntp _ ⟨_, k2 _ _ h1⟩)))
  have u12 := s2 _ _ (k2 _ _ u11) np1
  have u22 := s2 _ _ u2 np2
  have r2 : SameB p H1 H2 := (SameB.of k2).trans s2
  refine ⟨_, rfl, oa, rfl, ⟨_, ho2.choose_spec.1.sq⟩, fun d3 f3 => dcompO (fun _ => .bl false) ho2 ap few f3 (fun j HH R r => r) ?_⟩
  have k3 := same_new f3 (.dK (dk n a fun _ => .bl false))
  have u3 : (upd H2 d3 (.dK (dk n a fun _ => .bl false))) d3 = _ := upd_same
  refine ⟨_, rfl, p, C, dx, _, _, rfl, k3 _ _ h2, T.cl, T.n_lengthened, (by show 2 < 1000; decide), fl_new (by show _ ∉ (["delays", "standing"] : List Str); decide +kernel), fun H3 h3 s3 => ?_⟩
  have np3 : d3 ≠ p := fun z => by rw [z, h2] at f3; cases f3
  have ho3 := ho2.tups ((TupF.of k3).trans (s3.tupF (ntp _ ⟨_, k3 _ _ h2⟩)))
  have u13 := s3 _ _ (k3 _ _ u12) np1
  have u23 := s3 _ _ (k3 _ _ u22) np2
  have u33 := s3 _ _ u3 np3
  have r3 : SameB p H2 H3 := (SameB.of k3).trans s3
  refine ⟨_, rfl, oa, rfl, ⟨_, ho3.choose_spec.1.sq⟩, fun d4 f4 => dcompO zer ho3 ap few f4 (fun j HH R r => r) ?_⟩
  have k4 := same_new f4 (.dK (dk n a zer))
  have u4 : (upd H3 d4 (.dK (dk n a zer))) d4 = _ := upd_same
  refine ⟨_, rfl, p, C, dx, _, _, rfl, k4 _ _ h3, T.cl, T.n_unused, (by show 3 < 1000; decide), fl_new (by show _ ∉ (["delays", "standing", "lengthened"] : List Str); decide +kernel), fun H4 h4 s4 => ?_⟩
  have np4 : d4 ≠ p := fun z => by rw [z, h3] at f4; cases f4
  have u14 := s4 _ _ (k4 _ _ u13) np1
  have u24 := s4 _ _ (k4 _ _ u23) np2
  have u34 := s4 _ _ (k4 _ _ u33) np3
  have u44 := s4 _ _ u4 np4
  have r4 : SameB p H3 H4 := (SameB.of k4).trans s4
  refine ⟨Nat.zero_le _, fun wa fw => ?_⟩
  have k5 := same_new fw (.tup [])
  have u5 : (upd H4 wa (.tup [])) wa = _ := upd_same
  refine ⟨_, rfl, p, C, dx, _, _, rfl, k5 _ _ h4, T.cl, T.n_wanted, (by show 4 < 1000; decide), fl_new (by show _ ∉ (["delays", "standing", "lengthened", "unused"] : List Str); decide +kernel), fun H5 h5 s5 => ?_⟩
  have npw : wa ≠ p := fun z => by rw [z, h4] at fw; cases fw
  have u15 := s5 _ _ (k5 _ _ u14) np1
  have u25 := s5 _ _ (k5 _ _ u24) np2
  have u35 := s5 _ _ (k5 _ _ u34) np3
  have u45 := s5 _ _ (k5 _ _ u44) np4
  have u55 := s5 _ _ u5 npw
  have r5 : SameB p H4 H5 := (SameB.of k5).trans s5
  have r12 := r1.trans r2
  have r123 := r12.trans r3
  have r1234 := r123.trans r4
  refine q d1 d2 d3 d4 wa H5 f1 (r1.free ⟨_, h1⟩ f2) (r12.free ⟨_, h2⟩ f3) (r123.free ⟨_, h3⟩ f4) (r1234.free ⟨_, h4⟩ fw) ⟨⟨dx, h5⟩, .inl u15, ⟨_, u25, fun j _ => ⟨st, rfl, .inr T.still⟩⟩, u35, ap, few, ?_, ?_, ?_⟩ u15 u45 u55 ?_ ?_ ?_ (r1234.trans r5)
  · exact ne_of_none u11 f2
  · exact ne_of_none u12 f3
  · exact ne_of_none u22 f3
  · exact (ne_of_none u13 f4).symm
  · exact (ne_of_none u23 f4).symm
  · exact (ne_of_none u33 f4).symm
theorem ok_count (c : CodeM K C "count_unused" "Sounder.count_unused" s_Sounder_count_unused p_Sounder_count_unused) (T : Tx K mg C st so si) : GoodM P w K mg base C "count_unused" 1 p_Sounder_count_unused (spCount C) := by
  refine c.good sc_Sounder_count_unused (fun vs H Q E h => ?_) (fun f cdv A outer s H vs Q E hr h => ?_)
  · obtain ⟨p, dx, d1, d2, d3, d4, wa, n, a, rfl, _⟩ := h
    rfl
  obtain ⟨p, dx, d1, d2, d3, d4, wa, n, a, rfl, hp, h4, ap, few, q⟩ := h
  refine ⟨_, (pss_cons (ps_thaw rfl (ps_setC (i := 1) sc_Sounder_count_unused.nd rfl (Or.inl rfl) (N' := ["address", "beats"]) rfl (CScope.plain rfl (by decide +kernel) (by decide +kernel) (by decide +kernel)) (pi_items (pe_fld (pv 0) rfl)) (fun _ _ _ _ => (pg_tupK (K := K) (n := 2) rfl rfl (pgs_cons (pg_name (i := 0) (show List.Nodup (["address", "beats"] : List Str) by decide +kernel) rfl (Or.inl rfl)) (pgs_cons (pg_name (i := 1) (show List.Nodup (["address", "beats"] : List Str) by decide +kernel) rfl (Or.inl rfl)) pgs_nil)))) (fun _ _ _ _ => (pf_one (pt_cmpR op_eq (pv 1) pe_int (nomark _)))) (fun _ _ _ _ => (pv 0))))
  (pss_cons (ps_fldE (pv 0) (pe_thaw rfl (pe_dcomp (N' := ["address", "beats"]) rfl (CScope.plain rfl (by decide +kernel) (by decide +kernel) (by decide +kernel)) (pi_items (pe_fld (pv 0) rfl)) (fun _ _ _ _ => (pg_tupK (K := K) (n := 2) rfl rfl (pgs_cons (pg_name (i := 0) (show List.Nodup (["address", "beats"] : List Str) by decide +kernel) rfl (Or.inl rfl)) (pgs_cons (pg_name (i := 1) (show List.Nodup (["address", "beats"] : List Str) by decide +kernel) rfl (Or.inl rfl)) pgs_nil)))) (fun _ _ _ _ => pf_nil) (fun _ _ _ _ => (pv 0)) (fun _ _ _ _ => (pe_callB (call_max2 rfl) rfl T.max bt_max (pa_cons pe_int (pa_cons (pe_op op_sub (pv 1) pe_int) pa_nil)))))) rfl)
  (pss_one (ps_ret (pe_comp (N' := ["address"]) rfl (CScope.plain rfl (by decide +kernel) (by decide +kernel) (by decide +kernel)) (pi_list (pv 1)) (fun _ _ _ _ => (pg_name (i := 0) (show List.Nodup (["address"] : List Str) by decide +kernel) rfl (Or.inl rfl))) (fun _ _ _ _ => pf_nil) (fun _ _ _ _ => (pe_tup (pa_cons pe_str (pa_cons (pv 0) pa_nil))))))))), ?_⟩
  have np : p ≠ d4 := fun z => by rw [z, h4] at hp; cases hp
  have nfz : ∀ o' u, H d4 ≠ some (.frz o' u) := fun o' u z => by rw [h4] at z; cases z
  refine ⟨_, rfl, p, C, dx, _, _, rfl, hp, T.cl, T.n_unused, get_unused d1 d2 d3 d4 wa, d4, _, rfl, h4, fun o l hl => ?_⟩
  refine comp_di (fun i σ HH => (∃ u v, σ = [u, v]) ∧ HH l = some (.lst []) ∧ Same (upd H d4 (.frz o (.dK (dk n a zer)))) HH) ⟨⟨none, none, rfl⟩, upd_same, same_new hl _⟩ (fun i σ HH _ h => h.2.2 _ _ upd_same) (fun i kv t σ HH hx h ft => ?_) (fun σ HH h => ?_)
  · obtain ⟨⟨u, v, rfl⟩, hl1, sm⟩ := h
    obtain ⟨hi, rfl⟩ := dk_at hx
    refine ⟨t, _, rfl, SqT.of upd_same, rfl, _, _, rfl, _, _, rfl, rfl, ?_⟩
    refine ⟨_, rfl, rfl, _, rfl, ite2 (fun c1 => ?_) (fun _ => ⟨⟨_, _, rfl⟩, same_new ft _ _ _ hl1, sm.trans (same_new ft _)⟩)⟩
    have z : V.int 0 = V.int 1 := of_decide_eq_true c1
    cases z
  obtain ⟨_, hl1, sm⟩ := h
  refine ⟨d4, o, dk n a zer, sm _ _ upd_same, nfz, ?_⟩
  have nl : l ≠ d4 := fun z => by rw [z, upd_same] at hl; cases hl
  have fl0 : H l = none := by rw [upd_ne nl] at hl; exact hl
  have sT := thaw_same sm h4
  have lT : (upd HH d4 (.dK (dk n a zer))) l = some (.lst []) := by rw [upd_ne nl]; exact hl1
  generalize upd HH d4 (.dK (dk n a zer)) = HT at sT lT ⊢
  clear sm hl1
  refine ⟨_, rfl, p, C, dx, _, _, rfl, sT _ _ hp, T.cl, T.n_unused, get_unused d1 d2 d3 d4 wa, d4, _, rfl, sT _ _ h4, fun o2 d hd => ?_⟩
  refine dcomp_di (fun i σ HH => (∃ u v, σ = [u, v]) ∧ HH d = some (.dK (dk i a zer)) ∧ Same (upd HT d4 (.frz o2 (.dK (dk n a zer)))) HH) ⟨⟨none, none, rfl⟩, upd_same, same_new hd _⟩ (fun i σ HH _ h => h.2.2 _ _ upd_same) (fun i kv t σ HH hx h ft => ?_) (fun σ HH h => ?_)
  · obtain ⟨⟨u, v, rfl⟩, hd1, sm⟩ := h
    obtain ⟨hi, rfl⟩ := dk_at hx
    have nd : d ≠ t := ne_of_none hd1 ft
    refine ⟨t, _, rfl, SqT.of upd_same, rfl, _, _, rfl, _, _, rfl, rfl, iteT ⟨_, rfl, _, rfl, _, _, rfl, rfl, _, _, rfl, _, .inl (a i), same_new ft _ _ _ hd1, rfl, ?_, ⟨_, _, rfl⟩, ?_, ?_⟩⟩
    · rw [dk_len]; exact small1000 (by omega)
    · rw [upd_same]
      show some (HO.dK (putK (dk i a zer) (.inl (a i)) (zer i))) = _
      rw [dk_new ap hi]
    · intro c x e
      have nc : c ≠ d := fun z => by rw [z, hd] at e; cases e
      rw [upd_ne nc]
      exact same_new ft _ _ _ (sm _ _ e)
  obtain ⟨_, hd1, sm⟩ := h
  rw [dk_len] at hd1
  refine ⟨d4, o2, dk n a zer, sm _ _ upd_same, nfz, ?_⟩
  have nd : d ≠ d4 := fun z => by rw [z, upd_same] at hd; cases hd
  have fd0 : H d = none := by rw [upd_ne nd] at hd; exact sT.free hd
  have nld : l ≠ d := fun z => by rw [upd_ne nd, ← z, lT] at hd; cases hd
  have sU := thaw_same sm (sT _ _ h4)
  have dU : (upd HH d4 (.dK (dk n a zer))) d = some (.dK (dk n a zer)) := by rw [upd_ne nd]; exact hd1
  generalize upd HH d4 (.dK (dk n a zer)) = HU at sU dU ⊢
  clear sm hd1
  have sHU := sT.trans sU
  have npd : d ≠ p := fun z => by rw [z, hp] at fd0; cases fd0
  have npl : l ≠ p := fun z => by rw [z, hp] at fl0; cases fl0
  refine ⟨_, rfl, p, C, dx, _, _, rfl, sHU _ _ hp, T.cl, T.n_unused, fl_len d1 d2 d3 d4 wa, put_unused d1 d2 d3 d4 wa d, fun H3 h3 s3 => ?_⟩
  have l3 := s3 _ _ (sU _ _ lT) npl
  have dd3 := s3 _ _ dU npd
  have r3 : SameB p H H3 := (SameB.of sHU).trans s3
  refine ⟨_, rfl, l, rfl, ⟨_, SqL.of l3⟩, fun r hr => ?_⟩
  refine comp_list (xs := []) (fun i σ HH => HH = upd H3 r (.lst [])) rfl (fun i σ HH _ h => ?_) (fun i x σ HH hx h => by cases hx) (fun σ HH h => ?_)
  · rw [h]; exact SqL.of (same_new hr _ _ _ l3)
  · rw [h]
    exact q r d _ (r3.free ⟨_, h3⟩ hr) fd0 upd_same (same_new hr _ _ _ dd3) (same_new hr _ _ _ h3) (r3.trans (SameB.of (same_new hr _)))
end
end K31

set_option Elab.async false
set_option linter.all false
set_option maxRecDepth 100000
set_option pp.maxSteps 300
set_option maxHeartbeats 1000000
namespace K31
open PySem L2
abbrev s_Sounder_beat : Stmt := (inClass (top 23) 1)
abbrev p_Sounder_beat : List Str := ["self", "wanted"]
theorem sc_Sounder_beat : FnScope ["self", "wanted", "has_new", "told", "address", "how"] p_Sounder_beat (defScope s_Sounder_beat) := ⟨rfl, rfl, rfl, by decide +kernel, rfl, by decide +kernel, by decide +kernel⟩
def intsV (ws : List Int) : List V := ws.map V.int
theorem intsV_flat (ws : List Int) : (intsV ws).all flatV = true := by
  unfold intsV
  rw [List.all_map]
  exact List.all_eq_true.mpr fun _ _ => rfl
def newB (ws ws' : List Int) : List Bool := ws'.map fun x => !inV (.int x) (intsV ws)
/-- some wanted address was not wanted ahead -/
def hasNew (ws ws' : List Int) : Bool := (newB ws ws').any id
def nxt (a dl : Nat → Int) (ws ws' : List Int) (s : Nat → Sta) : Nat → Sta := fun j => nx (dl j) (inV (.int (a j)) (intsV ws')) (hasNew ws ws') (s j)
def nxg (a : Nat → Int) (ws' : List Int) (s : Nat → Sta) (g : Nat → Bool) : Nat → Bool := fun j => if (s j).1 = "still" ∧ inV (.int (a j)) (intsV ws') = true then false else g j
theorem ng_step {a : Nat → Int} {ws' : List Int} {s : Nat → Sta} {g : Nat → Bool} {i : Nat} : ng (fun j => if j < i then nxg a ws' s g j else g j) i (inV (.int (a i)) (intsV ws')) (s i) = fun j => if j < i + 1 then nxg a ws' s g j else g j := by
  funext j
  unfold ng
  by_cases c : (s i).1 = "still" ∧ inV (.int (a i)) (intsV ws') = true
  · rw [if_pos c]
    unfold upF
    by_cases e : j = i
    · rw [if_pos e, if_pos (by omega), e]
      unfold nxg
      rw [if_pos c]
    · rw [if_neg e]
      show (if j < i then nxg a ws' s g j else g j) = _
      by_cases e2 : j < i
      · rw [if_pos e2, if_pos (by omega)]
      · rw [if_neg e2, if_neg (by omega)]
  · rw [if_neg c]
    show (if j < i then nxg a ws' s g j else g j) = _
    by_cases e : j = i
    · rw [e, if_neg (Nat.lt_irrefl i), if_pos (Nat.lt_succ_self i)]
      unfold nxg
      rw [if_neg c]
    · by_cases e2 : j < i
      · rw [if_pos e2, if_pos (by omega)]
      · rw [if_neg e2, if_neg (by omega)]
abbrev Ev := Str × Int
def EvAt (H : Hp) (v : V) (e : Ev) : Prop := ∃ t, v = .ref t ∧ H t = some (.tup [.str e.1, .int e.2])
theorem EvAt.tups {H H' : Hp} {v : V} {e : Ev} (h : EvAt H v e) (s : TupF H H') : EvAt H' v e := by
  obtain ⟨t, e, q⟩ := h
  exact ⟨t, e, s _ _ q⟩
theorem Evs.tups {H H' : Hp} {vs : List V} {es : List Ev} (h : Paired (EvAt H) vs es) (s : TupF H H') : Paired (EvAt H') vs es := Paired.mapP h fun _ _ z => z.tups s
def evs (a : Nat → Int) (s s' : Nat → Sta) (i : Nat) : List Ev := (List.range i).flatMap fun j => if (s' j).1 = (s j).1 then [] else [((s' j).1, a j)]
theorem evs_succ (a : Nat → Int) (s s' : Nat → Sta) (i : Nat) : evs a s s' (i + 1) = evs a s s' i ++ (if (s' i).1 = (s i).1 then [] else [((s' i).1, a i)]) := by
  unfold evs
  rw [List.range_succ, List.flatMap_append]
  simp
theorem evs_len (a : Nat → Int) (s s' : Nat → Sta) : ∀ i, (evs a s s' i).length ≤ i
  | 0 => Nat.le_refl _
  | i + 1 => by
    have := evs_len a s s' i
    rw [evs_succ, List.length_append]
    split
    · show _ + 0 ≤ _; omega
    · show _ + 1 ≤ _; omega
/-- all that is there but these -/
def SameX (cs : List Addr) (H H' : Hp) : Prop := ∀ p o, H p = some o → p ∉ cs → H' p = some o
theorem SameX.refl (cs : List Addr) (H : Hp) : SameX cs H H := fun _ _ e _ => e
theorem SameX.trans {cs : List Addr} {H H1 H2 : Hp} (x : SameX cs H H1) (y : SameX cs H1 H2) : SameX cs H H2 := fun p o e n => y p o (x p o e n) n
theorem SameX.of {cs : List Addr} {H H1 : Hp} (x : Same H H1) : SameX cs H H1 := fun p o e _ => x p o e
theorem SameX.ofB {cs : List Addr} {b : Addr} {H H1 : Hp} (x : SameB b H H1) (h : b ∈ cs) : SameX cs H H1 := fun p o e n => x p o e fun z => n (by rw [z]; exact h)
theorem SameX.sub {cs ds : List Addr} {H H1 : Hp} (x : SameX cs H H1) (h : ∀ c ∈ cs, c ∈ ds) : SameX ds H H1 := fun p o e n => x p o e fun z => n (h p z)
theorem SameX.drop {c : Addr} {cs : List Addr} {H H1 : Hp} (x : SameX (c :: cs) H H1) (h : H c = none) : SameX cs H H1 := fun p o e n => x p o e fun z => by
  rcases List.mem_cons.mp z with z | z
  · rw [z, h] at e; cases e
  · exact n z
theorem SameX.tupF {cs : List Addr} {H H1 : Hp} (x : SameX cs H H1) (h : ∀ c ∈ cs, ∀ o, H c = some o → isT o = false) : TupF H H1 :=
  ⟨fun c xs e => x c _ e fun z => (by have q := h c z _ e; cases q), fun c o xs e => x c _ e fun z => (by have q := h c z _ e; cases q)⟩
theorem SameX.free {cs : List Addr} {H H1 : Hp} (x : SameX cs H H1) (h : ∀ c ∈ cs, ∃ o, H1 c = some o) {l : Addr} (hl : H1 l = none) : H l = none := by
  cases e : H l with
  | none => rfl
  | some o =>
    by_cases n : l ∈ cs
    · obtain ⟨o', e'⟩ := h l n
      rw [e'] at hl; cases hl
    · rw [x l o e n] at hl; cases hl
theorem SdR.mv {C : Addr} {K : PySem.W.Frag} {H H' : Hp} {p d1 d2 d3 d4 wa : Addr} {n : Nat} {a dl : Nat → Int} {s : Nat → Sta} {g : Nat → Bool} (R : SdR C K H p d1 d2 d3 d4 wa n a dl s g) (k : ∀ c, c = p ∨ c = d1 ∨ c = d2 ∨ c = d3 → ∀ o, H c = some o → H' c = some o) (t : TupF H H') : SdR C K H' p d1 d2 d3 d4 wa n a dl s g := by
  obtain ⟨⟨dx, hp⟩, h1, ⟨v, h2, hv⟩, h3, ap, few, n12, n13, n23⟩ := R
  exact ⟨⟨dx, k _ (.inl rfl) _ hp⟩, rd_tup h1 (k _ (.inr (.inl rfl))), ⟨v, k _ (.inr (.inr (.inl rfl))) _ h2, fun j hj => (hv j hj).tups t⟩, k _ (.inr (.inr (.inr rfl))) _ h3, ap, few, n12, n13, n23⟩
def delV (dl : Nat → Int) : Nat → V := fun j => .int (dl j)
structure Sd (C : Addr) (K : PySem.W.Frag) (H : Hp) (p d1 d2 d3 d4 wa : Addr) (n : Nat) (a dl : Nat → Int) (s : Nat → Sta) (g : Nat → Bool) (ws : List Int) : Prop where
  r : SdR C K H p d1 d2 d3 d4 wa n a dl s g
  del : H d1 = some (.dK (dk n a (delV dl)))
  un : H d4 = some (.dK (dk n a zer))
  wan : H wa = some (.tup (intsV ws))
  n41 : d4 ≠ d1
  n42 : d4 ≠ d2
  n43 : d4 ≠ d3
def spBeat (C : Addr) (K : PySem.W.Frag) : Sp := fun vs H Q _ => ∃ p d1 d2 d3 d4 wa n a dl s g ws wb ws', vs = [.ref p, .ref wb] ∧ Sd C K H p d1 d2 d3 d4 wa n a dl s g ws ∧ H wb = some (.tup (intsV ws')) ∧ ws'.length ≤ 100 ∧
  ∀ t d tv H', H t = none → H d = none → H' t = some (.lst tv) → Paired (EvAt H') tv (evs a s (nxt a dl ws ws' s) n) → Sd C K H' p d1 d2 d3 d wb n a dl (nxt a dl ws ws' s) (nxg a ws' s g) ws' → SameX [p, d2, d3] H H' → Q (.ref t) H'
section
variable {P : Program} {w : World} {K : PySem.W.Frag} {mg : Str → Option Value} {base : Heap} {C st so si : Addr}
theorem ok_beat (c : CodeM K C "beat" "Sounder.beat" s_Sounder_beat p_Sounder_beat) (T : Tx K mg C st so si) (g_m_next_of : GoodM P w K mg base C "next_of" 2 p_Sounder_next_of (spNext C K)) (g_m_count_unused : GoodM P w K mg base C "count_unused" 1 p_Sounder_count_unused (spCount C)) : GoodM P w K mg base C "beat" 3 p_Sounder_beat (spBeat C K) := by
  refine c.good sc_Sounder_beat (fun vs H Q E h => ?_) (fun f cdv A outer s H vs Q E hr h => ?_)
  · obtain ⟨p, d1, d2, d3, d4, wa, n, a, dl, s, g, ws, wb, ws', rfl, _⟩ := h
    rfl
  obtain ⟨p, d1, d2, d3, d4, wa, n, a, dl, s, g, ws, wb, ws', rfl, ⟨R, h1, h4, hwa, n41, n42, n43⟩, hwb, lw, q⟩ := h
  refine ⟨_, (pss_cons (ps_set (i := 2) sc_Sounder_beat.nd rfl (Or.inl rfl) (pe_callB (call_any rfl) rfl T.any bt_any (pa_cons (pe_comp (N' := ["address", "self"]) rfl (CScope.of (src := [none, some 0]) (defScope s_Sounder_beat) ["self", "wanted", "has_new", "told", "address", "how"] rfl rfl rfl (by decide +kernel) (by decide +kernel) (by decide +kernel) rfl (by decide +kernel)) (pi_tup (pv 1)) (fun _ _ _ _ => (pg_name (i := 0) (show List.Nodup (["address", "self"] : List Str) by decide +kernel) rfl (Or.inl rfl))) (fun _ _ _ _ => pf_nil) (fun _ _ _ _ => (pe_cmpR (op_notIn_seqK (K := K) rfl) (pv 0) (pe_fldK (K := K) rfl (pv 1) rfl) (by with_unfolding_all rfl)))) pa_nil)))
  (pss_cons (ps_set (i := 3) sc_Sounder_beat.nd rfl (Or.inl rfl) (pe_lst pa_nil))
  (pss_cons (ps_thaw rfl (ps_for PassesOwn.never rfl (pi_dict (pe_fld (pv 0) rfl)) (pg_name (i := 4) sc_Sounder_beat.nd rfl (Or.inl rfl))
  (pss_cons (ps_set (i := 5) sc_Sounder_beat.nd rfl (Or.inl rfl) (pe_ix ix_tup (pe_dget (hu_of hr) (pe_fld (pv 0) rfl) (pv 4) (fun _ _ => rfl)) pe_int (fun _ _ => rfl)))
  (pss_cons (ps_dput (hu_of hr) (pe_fld (pv 0) rfl) (pv 4) (pmeth (pv 0) T.cl g_m_next_of hr (pa_cons (pv 4) (pa_cons (pe_cmpR op_in_seq (pv 4) (pv 1) (by with_unfolding_all rfl)) (pa_cons (pv 2) pa_nil)))) rfl)
  (pss_one (ps_if (pt_cmpR op_ne (pe_ix ix_tup (pe_dget (hu_of hr) (pe_fld (pv 0) rfl) (pv 4) (fun _ _ => rfl)) pe_int (fun _ _ => rfl)) (pv 5) (nomark _)) (pss_one (ps_expr (pe_bm PySem.F.plainAttrs_list PySem.F.slot_list_append PySem.F.type_list_append mt_append (pv 3) (pa_cons (pe_tup (pa_cons (pe_ix ix_tup (pe_dget (hu_of hr) (pe_fld (pv 0) rfl) (pv 4) (fun _ _ => rfl)) pe_int (fun _ _ => rfl)) (pa_cons (pv 4) pa_nil))) pa_nil)))) pss_nil))))))
  (pss_cons (ps_fldE (pv 0) (pe_callTy call_tuple_of rfl T.tuple bt_tuple (pa_cons (pv 1) pa_nil)) rfl)
  (pss_one (ps_ret (pe_op op_cat (pv 3) (pmeth0 (pv 0) T.cl g_m_count_unused hr)))))))), ?_⟩
  obtain ⟨⟨dx, hp⟩, _, ⟨v2, h2, hv⟩, h3, ap, few, n12, n13, n23⟩ := id R
  -- has_new
  refine ⟨_, rfl, wb, rfl, ⟨_, SqT.of hwb⟩, fun l hl => ?_⟩
  have kl := fun o => same_new hl o
  refine comp_tup (xs := intsV ws') (fun i σ HH => (∃ u, σ = [u, some (.ref p)]) ∧ HH = upd H l (.lst ((newB ws (ws'.take i)).map V.bl))) ⟨⟨none, rfl⟩, rfl⟩ (fun i σ HH _ h => ?_) (fun i x σ HH hx h => ?_) (fun σ HH h => ?_)
  · obtain ⟨_, rfl⟩ := h
    exact SqT.of (kl _ _ _ hwb)
  · obtain ⟨⟨u, rfl⟩, rfl⟩ := h
    unfold intsV at hx
    rw [List.getElem?_map] at hx
    obtain ⟨y, hy, rfl⟩ := Option.map_eq_some_iff.mp hx
    show tOp (rIn K true) (tVar 0) (tFld K (tVar 1) "wanted") _ _ _
    refine ⟨_, rfl, _, rfl, p, C, dx, _, _, rfl, kl _ _ _ hp, T.cl, T.n_wanted, get_wanted d1 d2 d3 d4 wa, wa, _, rfl, .inr (SqT.of (kl _ _ _ hwa)), rfl, intsV_flat ws, _, upd_same, ?_, ⟨_, rfl⟩, ?_⟩
    · rw [List.length_map]
      unfold newB
      rw [List.length_map, List.length_take]
      exact small1000 (by omega)
    · rw [upd_upd]
      unfold newB
      rw [List.take_add_one, hy, List.map_append, List.map_append]
      rfl
  obtain ⟨_, rfl⟩ := h
  have e0 : intsV ws' = ws'.map V.int := rfl
  rw [e0, List.length_map, List.take_length]
  refine ⟨l, newB ws ws', rfl, SqL.of upd_same, ?_⟩
  simp only [List.set_cons_succ, List.set_cons_zero]
  have s0 := kl (.lst ((newB ws ws').map V.bl))
  generalize upd H l (.lst ((newB ws ws').map V.bl)) = H0 at s0 ⊢
  show tSeq _ _ _ _ _
  -- told
  refine ⟨Nat.zero_le _, fun lt hlt => ?_⟩
  simp only [List.set_cons_succ, List.set_cons_zero]
  have s1 : Same H (upd H0 lt (.lst [])) := s0.trans (same_new hlt _)
  have flt : H lt = none := s0.free hlt
  have ut : (upd H0 lt (.lst [])) lt = some (.lst []) := upd_same
  generalize upd H0 lt (.lst []) = H1 at s1 ut ⊢
  have hp1 := s1 _ _ hp
  have h11 := s1 _ _ h1
  have h21 := s1 _ _ h2
  have h31 := s1 _ _ h3
  have h41 := s1 _ _ h4
  have hwb1 := s1 _ _ hwb
  have hv1 : ∀ j, j < n → StAt K H1 (v2 j) (s j) := fun j hj => (hv j hj).tups (TupF.of s1)
  refine ⟨_, rfl, p, C, dx, _, _, rfl, hp1, T.cl, T.n_delays, get_delays d1 d2 d3 d4 wa, d1, _, rfl, h11, fun o => ?_⟩
  have np1 : p ≠ d1 := fun z => by rw [z, h1] at hp; cases hp
  have np2 : p ≠ d2 := fun z => by rw [z, h2] at hp; cases hp
  have np3 : p ≠ d3 := fun z => by rw [z, h3] at hp; cases hp
  have np4 : p ≠ d4 := fun z => by rw [z, h4] at hp; cases hp
  have nl1 : lt ≠ d1 := (ne_of_none h1 flt).symm
  have nl2 : lt ≠ d2 := (ne_of_none h2 flt).symm
  have nl3 : lt ≠ d3 := (ne_of_none h3 flt).symm
  have nlp : lt ≠ p := (ne_of_none hp flt).symm
  refine for_dk (fun i σ HH => (∃ u4 u5, σ = [some (.ref p), some (.ref wb), some (.bl (hasNew ws ws')), some (.ref lt), u4, u5]) ∧ HH d1 = some (.frz o (.dK (dk n a (delV dl)))) ∧ SdR C K HH p d1 d2 d3 d4 wa n a dl (fun j => if j < i then nxt a dl ws ws' s j else s j) (fun j => if j < i then nxg a ws' s g j else g j) ∧
      (∃ tv, HH lt = some (.lst tv) ∧ Paired (EvAt HH) tv (evs a s (nxt a dl ws ws' s) i)) ∧ SameX [d2, d3, lt] (upd H1 d1 (.frz o (.dK (dk n a (delV dl))))) HH) ⟨⟨_, _, rfl⟩, upd_same, ?_, ⟨[], ?_, .nil⟩, SameX.refl _ _⟩ (fun i σ HH _ h => h.2.1) (fun i kv σ HH hx h => ?_) (fun σ HH h => ?_)
  · refine ⟨⟨dx, by rw [upd_ne np1]; exact hp1⟩, .inr ⟨o, upd_same⟩, ⟨v2, by rw [upd_ne n12.symm]; exact h21, fun j hj => ?_⟩, (by rw [upd_ne n13.symm]; exact h31), ap, few, n12, n13, n23⟩
    show StAt K _ (v2 j) (if j < 0 then _ else s j)
    rw [if_neg (Nat.not_lt_zero j)]
    exact (hv1 j hj).tups (TupF.upd (ntOf (h11)))
  · rw [upd_ne nl1]; exact ut
  · obtain ⟨⟨u4, u5, rfl⟩, hd1, RR, ⟨tv, htv, ptv⟩, sx⟩ := h
    obtain ⟨hi, rfl⟩ := dk_at hx
    simp only [List.set_cons_succ, List.set_cons_zero]
    obtain ⟨⟨dx', hpH⟩, _, ⟨v, h2H, hvH⟩, h3H, _, _, _, _, _⟩ := id RR
    have hsi := hvH i hi
    have esi : (if i < i then nxt a dl ws ws' s i else s i) = s i := if_neg (Nat.lt_irrefl i)
    rw [esi] at hsi
    obtain ⟨t, et, ht⟩ := hsi.sq
    have np2' := np2
    refine ⟨_, rfl, p, C, dx', _, _, rfl, hpH, T.cl, T.n_standing, get_standing d1 d2 d3 d4 wa, _, rfl, d2, _, rfl, .inl ⟨_, .inl (a i), .inl h2H, rfl, (dk_val ap hi).symm⟩, t, _, _, _, et, rfl, ht, rfl, ?_⟩
    simp only [List.set_cons_succ, List.set_cons_zero]
    have hwbH : HH wb = some (.tup (intsV ws')) := sx _ _ (by rw [upd_ne (fun z => by rw [z, h11] at hwb1; cases hwb1)]; exact hwb1) (by
      intro z
      simp only [List.mem_cons, List.not_mem_nil, or_false] at z
      rcases z with z | z | z
      · rw [z, h2] at hwb; cases hwb
      · rw [z, h3] at hwb; cases hwb
      · rw [z, flt] at hwb; cases hwb)
    refine ⟨_, rfl, p, dx', _, rfl, hpH, fno (by decide +kernel), _, rfl, _, rfl, _, rfl, wb, _, rfl, .inr (SqT.of hwbH), rfl, intsV_flat ws', _, rfl, p, d1, d2, d3, d4, wa, n, a, dl, _, _, i, _, _, rfl, hi, RR, fun vn HN hvn h3N sN => ?_⟩
    have hvn2 : StAt K HN vn (nxt a dl ws ws' s i) := by
      unfold nxt
      rw [← esi]
      exact hvn
    have h3N : HN d3 = some (.dK (dk n a fun j => .bl (if j < i + 1 then nxg a ws' s g j else g j))) := by
      have z : HN d3 = some (.dK (dk n a fun j => .bl (ng (fun j => if j < i then nxg a ws' s g j else g j) i (inV (.int (a i)) (intsV ws')) (if i < i then nxt a dl ws ws' s i else s i) j))) := h3N
      rw [esi, ng_step] at z
      exact z
    have hpN := sN _ _ hpH np3
    have h2N := sN _ _ h2H n23
    have h1N := sN _ _ hd1 n13
    have ltN := sN _ _ htv nl3
    have tN : TupF HH HN := sN.tupF (ntOf (h3H))
    refine ⟨_, rfl, p, C, dx', _, _, rfl, hpN, T.cl, T.n_standing, get_standing d1 d2 d3 d4 wa, _, rfl, d2, _, rfl, DPut.k (k := .inl (a i)) h2N (by rw [dk_len]; exact small1000 (by omega)), ?_⟩
    rw [dk_put ap hi]
    have tM : TupF HN (upd HN d2 (.dK (dk n a (upF v i vn)))) := TupF.upd (ntOf (h2N))
    have sM : SameB d2 HN (upd HN d2 (.dK (dk n a (upF v i vn)))) := SameB.upd
    have h2M : (upd HN d2 (.dK (dk n a (upF v i vn)))) d2 = some (.dK (dk n a (upF v i vn))) := upd_same
    generalize upd HN d2 (.dK (dk n a (upF v i vn))) = HM at tM sM h2M ⊢
    have hpM := sM _ _ hpN np2
    have h1M := sM _ _ h1N n12
    have ltM := sM _ _ ltN nl2
    have h3M := sM _ _ h3N n23.symm
    have tHM := tN.trans tM
    have hvM := hvn2.tups tM
    have RM : SdR C K HM p d1 d2 d3 d4 wa n a dl (fun j => if j < i + 1 then nxt a dl ws ws' s j else s j) (fun j => if j < i + 1 then nxg a ws' s g j else g j) := by
      refine ⟨⟨dx', hpM⟩, .inr ⟨o, h1M⟩, ⟨_, h2M, fun j hj => ?_⟩, h3M, ap, few, n12, n13, n23⟩
      show StAt K HM (upF v i vn j) (if j < i + 1 then nxt a dl ws ws' s j else s j)
      unfold upF
      by_cases e : j = i
      · rw [if_pos e, if_pos (by omega), e]
        exact hvM
      · rw [if_neg e]
        have z := (hvH j hj).tups tHM
        by_cases e2 : j < i
        · have z : StAt K HM (v j) (if j < i then nxt a dl ws ws' s j else s j) := z
          rw [if_pos e2] at z
          rw [if_pos (by omega)]
          exact z
        · have z : StAt K HM (v j) (if j < i then nxt a dl ws ws' s j else s j) := z
          rw [if_neg e2] at z
          rw [if_neg (by omega)]
          exact z
    have pM := Evs.tups ptv tHM
    have sxM : SameX [d2, d3, lt] (upd H1 d1 (.frz o (.dK (dk n a (delV dl))))) HM := (sx.trans (SameX.ofB sN (by simp))).trans (SameX.ofB sM (by simp))
    obtain ⟨tn, etn, htn⟩ := hvM.sq
    have eup : upF v i vn i = .ref tn := by unfold upF; rw [if_pos rfl]; exact etn
    have gM : DGet HM d2 (.int (a i)) (some (upF v i vn i)) := .inl ⟨_, .inl (a i), .inl h2M, rfl, (dk_val ap hi).symm⟩
    refine ⟨_, rfl, p, C, dx', _, _, rfl, hpM, T.cl, T.n_standing, get_standing d1 d2 d3 d4 wa, _, rfl, d2, _, rfl, gM, tn, _, _, _, eup, rfl, htn, rfl, _, rfl, rfl, _, rfl, ite2 (fun c1 => ?_) (fun c1 => ?_)⟩
    · have ne : ¬ (nxt a dl ws ws' s i).1 = (s i).1 := fun z => by rw [z, decide_eq_true rfl] at c1; cases c1
      refine ⟨_, rfl, .inl ⟨rfl, _, SqL.of ltM⟩, _, rfl, p, C, dx', _, _, rfl, hpM, T.cl, T.n_standing, get_standing d1 d2 d3 d4 wa, _, rfl, d2, _, rfl, gM, tn, _, _, _, eup, rfl, htn, rfl, _, rfl, leSize (by show 2 ≤ 1000; decide), fun u hu => ⟨lt, tv, _, rfl, rfl, same_new hu _ _ _ ltM, ?_, ?_⟩⟩
      · have z := evs_len a s (nxt a dl ws ws' s) i
        rw [Paired.length pM]
        exact small1000 (by omega)
      have ku := same_new hu (.tup [.str (nxt a dl ws ws' s i).1, .int (a i)])
      have uu : (upd HM u (.tup [.str (nxt a dl ws ws' s i).1, .int (a i)])) u = _ := upd_same
      have nlu : u ≠ lt := (ne_of_none ltM hu).symm
      have k2 : SameB lt (upd HM u (.tup [.str (nxt a dl ws ws' s i).1, .int (a i)])) (upd (upd HM u (.tup [.str (nxt a dl ws ws' s i).1, .int (a i)])) lt (.lst (tv ++ [.ref u]))) := SameB.upd
      have tt : TupF (upd HM u (.tup [.str (nxt a dl ws ws' s i).1, .int (a i)])) (upd (upd HM u (.tup [.str (nxt a dl ws ws' s i).1, .int (a i)])) lt (.lst (tv ++ [.ref u]))) := k2.tupF (ntOf (ku _ _ ltM))
      refine ⟨⟨_, _, rfl⟩, k2 _ _ (ku _ _ h1M) nl1.symm, RM.mv (fun c hc o e => k2 _ _ (ku _ _ e) ?_) ((TupF.of ku).trans tt), ⟨tv ++ [.ref u], upd_same, ?_⟩, sxM.trans ((SameX.of ku).trans (SameX.ofB k2 (by simp)))⟩
      · rcases hc with z | z | z | z
        · rw [z]; exact nlp.symm
        · rw [z]; exact nl1.symm
        · rw [z]; exact nl2.symm
        · rw [z]; exact nl3.symm
      · rw [evs_succ, if_neg ne]
        exact Paired.snoc (Evs.tups pM ((TupF.of ku).trans tt)) ⟨u, rfl, tt _ _ uu⟩
    · have eq : (nxt a dl ws ws' s i).1 = (s i).1 := by
        have z : decide (V.str (nxt a dl ws ws' s i).1 = V.str (s i).1) = true := by
          cases e : decide (V.str (nxt a dl ws ws' s i).1 = V.str (s i).1) with
          | true => rfl
          | false => rw [e] at c1; exact absurd rfl c1
        exact dstr z
      refine ⟨⟨_, _, rfl⟩, h1M, RM, ⟨tv, ltM, ?_⟩, sxM⟩
      rw [evs_succ, if_pos eq, List.append_nil]
      exact pM
  obtain ⟨⟨u4, u5, rfl⟩, hd1, RR, ⟨tv, htv, ptv⟩, sx⟩ := h
  rw [dk_len] at RR ptv
  refine ⟨d1, o, _, hd1, (fun o' u z => by have z' : H d1 = some (.frz o' u) := z; rw [h1] at z'; cases z'), ?_⟩
  have sT : SameX [d2, d3] H (upd HH d1 (.dK (dk n a (delV dl)))) := fun c x e nc => by
    by_cases z : c = d1
    · rw [z, upd_same, ← h1, ← z, e]
    · rw [upd_ne z]
      refine sx _ _ (by rw [upd_ne z]; exact s1 _ _ e) fun m => nc ?_
      simp only [List.mem_cons, List.not_mem_nil, or_false] at m ⊢
      rcases m with m | m | m
      · exact .inl m
      · exact .inr m
      · rw [m, flt] at e; cases e
  have tT : TupF HH (upd HH d1 (.dK (dk n a (delV dl)))) := TupF.upd (ntOf (hd1))
  have kT : SameB d1 HH (upd HH d1 (.dK (dk n a (delV dl)))) := SameB.upd
  have h1T : (upd HH d1 (.dK (dk n a (delV dl)))) d1 = some (.dK (dk n a (delV dl))) := upd_same
  generalize upd HH d1 (.dK (dk n a (delV dl))) = HT at sT tT kT h1T ⊢
  obtain ⟨⟨dx', hpH⟩, _, ⟨v, h2H, hvH⟩, h3H, _, _, _, _, _⟩ := id RR
  have hpT := kT _ _ hpH np1
  have h2T := kT _ _ h2H n12.symm
  have h3T := kT _ _ h3H n13.symm
  have ltT := kT _ _ htv nl1
  have pT := Evs.tups ptv tT
  have hvT : ∀ j, j < n → StAt K HT (v j) (nxt a dl ws ws' s j) := fun j hj => by
    have z : StAt K HT (v j) (if j < n then nxt a dl ws ws' s j else s j) := (hvH j hj).tups tT
    rw [if_pos hj] at z
    exact z
  have ndk : ∀ c x, H c = some (.tup x) → c ∉ [d2, d3] := fun c x e m => by
    simp only [List.mem_cons, List.not_mem_nil, or_false] at m
    rcases m with m | m
    · rw [m, h2] at e; cases e
    · rw [m, h3] at e; cases e
  have hwbT := sT _ _ hwb (ndk _ _ hwb)
  have h4T := sT _ _ h4 (by simp [n42, n43])
  refine ⟨_, rfl, wb, _, rfl, .inr ⟨SqT.of hwbT, _, rfl, p, C, dx', _, _, rfl, hpT, T.cl, T.n_wanted, fl_len d1 d2 d3 d4 wa, put_wanted d1 d2 d3 d4 wa wb, fun H5 h5 s5 => ?_⟩⟩
  have nwp : wb ≠ p := fun z => by rw [z, hp] at hwb; cases hwb
  have x5 : SameX [p, d2, d3] H H5 := (sT.sub (by simp)).trans (SameX.ofB s5 (by simp))
  have t5 : TupF HT H5 := s5.tupF (ntOf (hpT))
  refine ⟨_, rfl, _, rfl, p, dx', _, rfl, h5, fno (by decide +kernel), p, dx', d1, d2, d3, d4, wb, n, a, rfl, h5, s5 _ _ h4T np4.symm, ap, few, fun t d H6 ft fd ht6 hd6 hp6 s6 => ?_⟩
  have lt6 := s6 _ _ (s5 _ _ ltT nlp) nlp
  have t6 : TupF H5 H6 := s6.tupF (ntOf (h5))
  have h25 := s5 _ _ h2T np2.symm
  have h35 := s5 _ _ h3T np3.symm
  have h15 := s5 _ _ h1T np1.symm
  have fr5 : ∀ {l}, H5 l = none → H l = none := fun {l} e => x5.free (fun c hc => by
    simp only [List.mem_cons, List.not_mem_nil, or_false] at hc
    rcases hc with z | z | z
    · rw [z]; exact ⟨_, h5⟩
    · rw [z]; exact ⟨_, h25⟩
    · rw [z]; exact ⟨_, h35⟩) e
  refine ⟨lt, t, tv, [], rfl, rfl, lt6, ht6, ?_, fun r fr => ?_⟩
  · have z := evs_len a s (nxt a dl ws ws' s) n
    rw [Paired.length pT]
    exact leSize (by show _ + 0 ≤ _; omega)
  have eg : dk n a (fun j => V.bl (if j < n then nxg a ws' s g j else g j)) = dk n a fun j => V.bl (nxg a ws' s g j) := dk_congr fun j hj => by rw [if_pos hj]
  have kr := same_new fr (.lst (tv ++ []))
  have t7 := (t5.trans t6).trans (TupF.of kr)
  have fr' : H5 r = none := s6.free ⟨_, hp6⟩ fr
  refine q r d (tv ++ []) _ (fr5 fr') (fr5 fd) upd_same (by have z := Evs.tups pT t7; rw [List.append_nil] at z ⊢; exact z) ⟨⟨⟨dx', kr _ _ hp6⟩, .inl (kr _ _ (s6 _ _ h15 np1.symm)), ⟨v, kr _ _ (s6 _ _ h25 np2.symm), fun j hj => (hvT j hj).tups t7⟩, (by rw [← eg]; exact kr _ _ (s6 _ _ h35 np3.symm)), ap, few, n12, n13, n23⟩, kr _ _ (s6 _ _ h15 np1.symm), kr _ _ hd6, t7 _ _ hwbT, (ne_of_none h15 fd).symm, (ne_of_none h25 fd).symm, (ne_of_none h35 fd).symm⟩ ((x5.trans (SameX.ofB s6 (by simp))).trans (SameX.of kr))
end
end K31

set_option Elab.async false
set_option linter.all false
set_option maxRecDepth 100000
set_option pp.maxSteps 300
set_option maxHeartbeats 1000000
namespace K31
open PySem L2
abbrev s_l_wanted : Stmt := top 28
abbrev p_l_wanted : List Str := ["_law_bag_here", "_law_outs_here", "_law_wanted_here", "_law_often"]
theorem sc_l_wanted : FnScope ["_law_bag_here", "_law_outs_here", "_law_wanted_here", "_law_often", "_law_found", "_law_address", "_law_delay"] p_l_wanted (defScope s_l_wanted) := ⟨rfl, rfl, rfl, by decide +kernel, rfl, by decide +kernel, by decide +kernel⟩
abbrev s_l_next : Stmt := top 29
abbrev p_l_next : List Str := ["_law_state", "_law_delay", "_law_wanted_here", "_law_woken"]
theorem sc_l_next : FnScope ["_law_state", "_law_delay", "_law_wanted_here", "_law_woken", "_law_how", "_law_left"] p_l_next (defScope s_l_next) := ⟨rfl, rfl, rfl, by decide +kernel, rfl, by decide +kernel, by decide +kernel⟩
abbrev s_l_beaten : Stmt := top 30
abbrev p_l_beaten : List Str := ["_law_outs_here", "_law_states", "_law_wanted_here", "_law_before"]
theorem sc_l_beaten : FnScope ["_law_outs_here", "_law_states", "_law_wanted_here", "_law_before", "_law_woken", "_law_found", "_law_address", "_law_delay", "_law_state"] p_l_beaten (defScope s_l_beaten) := ⟨rfl, rfl, rfl, by decide +kernel, rfl, by decide +kernel, by decide +kernel⟩
abbrev s_l_stand_right : Stmt := top 31
abbrev p_l_stand_right : List Str := ["_law_sounder", "_law_outs_here", "_law_states"]
theorem sc_l_stand_right : FnScope ["_law_sounder", "_law_outs_here", "_law_states", "_law_address", "_law_delay", "_law_state"] p_l_stand_right (defScope s_l_stand_right) := ⟨rfl, rfl, rfl, by decide +kernel, rfl, by decide +kernel, by decide +kernel⟩
theorem ifE {c e : Bool} {A B E : Prop} (hE : (if e = true then A else B) → E) (h1 : c = true → e = true → A) (h2 : ¬ (c = true ∧ e = true) → B) : if c = true then E else (if false = true then A else B) := by
  cases c with
  | false =>
    rw [if_neg Bool.false_ne_true, if_neg Bool.false_ne_true]
    exact h2 fun z => Bool.false_ne_true z.1
  | true =>
    rw [if_pos rfl]
    refine hE ?_
    cases e with
    | false => rw [if_neg Bool.false_ne_true]; exact h2 fun z => Bool.false_ne_true z.2
    | true => rw [if_pos rfl]; exact h1 rfl rfl
/-- the outs' states as the law holds them -/
def LdAt (K : PySem.W.Frag) (H : Hp) (d : Addr) (n : Nat) (a : Nat → Int) (s : Nat → Sta) : Prop := ∃ v, H d = some (.dK (dk n a v)) ∧ ∀ j, j < n → StAt K H (v j) (s j)
def okW (s : Sta) : Prop := PyData.strOk s.1 = true
theorem ok_wt (l : Int) : okW (wt l) := by
  unfold wt okW
  split
  · show PyData.strOk "waiting" = true; decide +kernel
  · show PyData.strOk "sounding" = true; decide +kernel
theorem ok_nx {dl : Int} {w n : Bool} {s : Sta} (h : okW s) : okW (nx dl w n s) := by
  unfold nx
  split
  · show PyData.strOk "sounding" = true; decide +kernel
  · split
    · exact ok_wt _
    · split
      · split
        · exact ok_wt _
        · show PyData.strOk "still" = true; decide +kernel
      · exact h
def spLNext (K : PySem.W.Frag) : Sp := fun vs H Q _ => ∃ v dl w m s, vs = [v, .int dl, .bl w, .bl m] ∧ StAt K H v s ∧ ∀ v' H', StAt K H' v' (nx dl w m s) → Same H H' → Q v' H'
def spWanted : Sp := fun vs H Q _ => ∃ b oa wa k n a dl ws often, vs = [.ref b, .ref oa, .ref wa, .int often] ∧ BagAt H b k ∧ k + n ≤ 9000 ∧ OutsAt H oa n a dl ∧ n ≤ 100 ∧ H wa = some (.tup (intsV ws)) ∧ 0 < often ∧ often < 100 ∧
  ∀ wb ws' H', H' wb = some (.tup (intsV ws')) → ws'.length ≤ n → BagAt H' b (k + n) → SameB b H H' → Q (.ref wb) H'
def spBeaten (K : PySem.W.Frag) : Sp := fun vs H Q _ => ∃ oa ld wb wa n a dl s ws ws', vs = [.ref oa, .ref ld, .ref wb, .ref wa] ∧ OutsAt H oa n a dl ∧ Apart n a ∧ n ≤ 100 ∧ LdAt K H ld n a s ∧ H wb = some (.tup (intsV ws')) ∧ H wa = some (.tup (intsV ws)) ∧ ws'.length ≤ 100 ∧
  ∀ t tv H', H t = none → H' t = some (.lst tv) → Paired (EvAt H') tv (evs a s (nxt a dl ws ws' s) n) → LdAt K H' ld n a (nxt a dl ws ws' s) → SameB ld H H' → Q (.ref t) H'
def spStand (C : Addr) (K : PySem.W.Frag) : Sp := fun vs H Q _ => ∃ p oa ld d1 d2 d3 d4 wa n a dl s g, vs = [.ref p, .ref oa, .ref ld] ∧ SdR C K H p d1 d2 d3 d4 wa n a dl s g ∧ OutsAt H oa n a dl ∧ LdAt K H ld n a s ∧ (∀ j, j < n → okW (s j)) ∧ Q (.bl true) H
theorem any_in (bs : List Bool) : inV (.bl true) (bs.map V.bl) = bs.any id := by
  unfold inV
  rw [List.any_map]
  congr 1
  funext b
  cases b <;> rfl
def stD (s : Sta) : PyData := .tuple [.str s.1, .int s.2]
theorem StAt.rep {K : PySem.W.Frag} {H : Hp} {v : V} {s : Sta} (h : StAt K H v s) : RepK K H v (stD s) := by
  obtain ⟨t, rfl, h2⟩ := h.sq
  exact .tup h2 (.cons (.str _) (.cons (.int _) .nil))
theorem st_shaped {s : Sta} (h : okW s) : SeqAt.shaped (stD s) = true := by
  unfold okW at h
  show ((PyData.strOk s.1 && (true && true)) && decide (max 0 (max 0 0) + 1 ≤ 64)) = true
  rw [h]
  rfl
section
variable {P : Program} {w : World} {K : PySem.W.Frag} {mg : Str → Option Value} {base : Heap} {C st so si : Addr}
theorem ok_lnext (c : Code K mg "_law_next" s_l_next p_l_next) (T : Tx K mg C st so si) : Good P w K mg base "_law_next" 1 p_l_next (spLNext K) := by
  refine c.good sc_l_next (fun vs H Q E h => ?_) (fun f cdv A outer s H vs Q E hr h => ?_)
  · obtain ⟨v, dl, w, m, s, rfl, _⟩ := h
    rfl
  obtain ⟨v, dl, w, m, ⟨x, lf⟩, rfl, hv, q⟩ := h
  refine ⟨_, (pss_cons (ps_asg (pv 0) (pg_tup rfl (pgs_cons (pg_name (i := 4) sc_l_next.nd rfl (Or.inl rfl)) (pgs_cons (pg_name (i := 5) sc_l_next.nd rfl (Or.inl rfl)) pgs_nil))))
  (pss_cons (ps_if (PW.pt (pw_and (pt_cmpR op_eq (pv 4) pe_str (nomark _)) (pw_and1 (pt_val (pv 3))))) (pss_one (ps_ret (pe_tup (pa_cons pe_str (pa_cons pe_int pa_nil))))) pss_nil)
  (pss_cons (ps_if (PW.pt (pw_and (pt_cmpR op_eq (pv 4) pe_str (nomark _)) (pw_and (pt_val (pv 2)) (pw_and1 (pt_cmpR op_gt (pv 1) pe_int (nomark _)))))) (pss_one (ps_ret (pe_tup (pa_cons pe_str (pa_cons (pv 1) pa_nil))))) pss_nil)
  (pss_cons (ps_if (PW.pt (pw_and (pt_cmpR op_eq (pv 4) pe_str (nomark _)) (pw_and1 (pt_val (pv 2))))) (pss_one (ps_ret (pe_tup (pa_cons pe_str (pa_cons pe_int pa_nil))))) pss_nil)
  (pss_cons (ps_if (PW.pt (pw_and (pt_cmpR op_eq (pv 4) pe_str (nomark _)) (pw_and1 (pt_not (pt_val (pv 2)))))) (pss_one (ps_ret (pe_tup (pa_cons pe_str (pa_cons pe_int pa_nil))))) pss_nil)
  (pss_cons (ps_if (PW.pt (pw_and (pt_cmpR op_eq (pv 4) pe_str (nomark _)) (pw_and1 (pt_cmpR op_gt (pv 5) pe_int (nomark _))))) (pss_one (ps_ret (pe_tup (pa_cons pe_str (pa_cons (pe_op op_sub (pv 5) pe_int) pa_nil))))) pss_nil)
  (pss_cons (ps_if (pt_cmpR op_eq (pv 4) pe_str (nomark _)) (pss_one (ps_ret (pe_tup (pa_cons pe_str (pa_cons pe_int pa_nil))))) pss_nil)
  (pss_one (ps_ret (pv 0)))))))))), ?_⟩
  obtain ⟨t, rfl, ht⟩ := hv.sq
  refine ⟨_, rfl, t, _, rfl, ht, rfl, _, _, rfl, _, _, rfl, rfl, ?_⟩
  have mk : ∀ (y : Str) (z : Int) (hs : nx dl w m (x, lf) = (y, z)) (u : Addr) (hu : H u = none), Q (.ref u) (upd H u (.tup [.str y, .int z])) := fun y z hs u hu => q _ _ (by rw [hs]; exact ⟨u, rfl, .inl upd_same⟩) (same_new hu _)
  refine ⟨_, rfl, rfl, _, rfl, if2 rfl (fun c1 c2 => ?_) (fun c => ?_)⟩
  · exact ⟨leSize (by show 2 ≤ 1000; decide), fun u hu => mk _ _ (by unfold nx; rw [if_pos ⟨dstr c1, c2⟩]) u hu⟩
  have e1 := dstr2 c
  refine ⟨_, rfl, rfl, _, rfl, ifE (e := w && decide (0 < dl)) ?_ (fun c1 c2 => ?_) (fun c => ?_)⟩
  · intro z
    refine ⟨_, rfl, w, rfl, ?_⟩
    cases w with
    | false => exact iteF (iteF (by simpa using z))
    | true => exact iteT ⟨_, rfl, _, _, rfl, rfl, _, rfl, z⟩
  · have c2 := (Bool.and_eq_true _ _).mp c2
    refine ⟨_, rfl, leSize (by show 2 ≤ 1000; decide), fun u hu => mk _ _ ?_ u hu⟩
    unfold nx
    rw [if_neg e1, if_pos ⟨dstr c1, c2.1⟩]
    unfold wt
    rw [if_pos (of_decide_eq_true c2.2)]
  have e2 := dstr2 c
  refine ⟨_, rfl, rfl, _, rfl, if2 rfl (fun c1 c2 => ?_) (fun c => ?_)⟩
  · refine ⟨leSize (by show 2 ≤ 1000; decide), fun u hu => mk _ _ ?_ u hu⟩
    unfold nx
    rw [if_neg e1, if_pos ⟨dstr c1, c2⟩]
    unfold wt
    rw [if_neg fun z => e2 ⟨dstr c1, by rw [c2, decide_eq_true z]; rfl⟩]
  have e3 := dstr2 c
  refine ⟨_, rfl, rfl, _, rfl, ifE (e := !w) (fun z => ⟨_, rfl, w, rfl, z⟩) (fun c1 c2 => ?_) (fun c => ?_)⟩
  · refine ⟨leSize (by show 2 ≤ 1000; decide), fun u hu => mk _ _ ?_ u hu⟩
    unfold nx
    rw [if_neg e1, if_neg e3, if_pos (dstr c1), if_neg (by intro z; rw [z] at c2; cases c2)]
  have e4 := dstr2 c
  have w1 : x = "waiting" → w = true := fun z => by
    cases w with
    | true => rfl
    | false => exact absurd ⟨z, rfl⟩ e4
  refine ⟨_, rfl, rfl, _, rfl, ifE (e := decide (1 < lf)) (fun z => ⟨_, rfl, _, _, rfl, rfl, _, rfl, z⟩) (fun c1 c2 => ?_) (fun c => ?_)⟩
  · refine ⟨_, rfl, _, _, rfl, rfl, leSize (by show 2 ≤ 1000; decide), fun u hu => mk _ _ ?_ u hu⟩
    have := of_decide_eq_true c2
    unfold nx
    rw [if_neg e1, if_neg e3, if_pos (dstr c1), if_pos (w1 (dstr c1))]
    unfold wt
    rw [if_pos (by show lf - 1 > 0; omega)]
  have e5 := dstr2 c
  refine ⟨_, rfl, rfl, _, rfl, ite2 (fun c1 => ?_) (fun c1 => ?_)⟩
  · refine ⟨leSize (by show 2 ≤ 1000; decide), fun u hu => mk _ _ ?_ u hu⟩
    unfold nx
    rw [if_neg e1, if_neg e3, if_pos (dstr c1), if_pos (w1 (dstr c1))]
    unfold wt
    rw [if_neg]
    intro z
    have z : lf - 1 > 0 := z
    exact e5 ⟨dstr c1, decide_eq_true (by omega)⟩
  · refine ⟨_, rfl, q _ _ ?_ (Same.refl H)⟩
    unfold nx
    rw [if_neg e1, if_neg e3, if_neg (dstr' c1)]
    exact hv
theorem ok_stand (c : Code K mg "_law_stand_right" s_l_stand_right p_l_stand_right) (T : Tx K mg C st so si) (g_m_state_of : GoodM P w K mg base C "state_of" 3 p_Sounder_state_of (spState C K)) : Good P w K mg base "_law_stand_right" 4 p_l_stand_right (spStand C K) := by
  refine c.good sc_l_stand_right (fun vs H Q E h => ?_) (fun f cdv A outer s H vs Q E hr h => ?_)
  · obtain ⟨p, oa, ld, d1, d2, d3, d4, wa, n, a, dl, s, g, rfl, _⟩ := h
    rfl
  obtain ⟨p, oa, ld, d1, d2, d3, d4, wa, n, a, dl, s, g, rfl, R, ⟨t, ho, hto⟩, ⟨v, hl, hv⟩, hw, q⟩ := h
  refine ⟨_, (pss_cons (ps_for PassesOwn.never rfl (pi_tup (pv 1)) (pg_tup rfl (pgs_cons (pg_name (i := 3) sc_l_stand_right.nd rfl (Or.inl rfl)) (pgs_cons (pg_name (i := 4) sc_l_stand_right.nd rfl (Or.inl rfl)) pgs_nil)))
  (pss_cons (ps_set (i := 5) sc_l_stand_right.nd rfl (Or.inl rfl) (pmeth (pv 0) T.cl g_m_state_of hr (pa_cons (pv 3) pa_nil)))
  (pss_one (ps_if (PW.pt (pw_or (pt_not (pt_val (pe_callB call_isiT rfl T.isinstance bt_isinstance (pa_cons (pv 5) (pa_cons (pe_bltn (v := .ty "tuple") rfl T.tuple bt_tuple rfl) pa_nil))))) (pw_or (pt_cmpR (op_neK (K := K) rfl hr.units) (pv 5) (pe_dget (hu_of hr) (pv 2) (pv 3) (fun _ _ => rfl)) (nomark _)) (pw_or1 (pt_val (pe_callB call_isi rfl T.isinstance bt_isinstance (pa_cons (pe_ix ix_tup (pv 5) pe_int (fun _ _ => rfl)) (pa_cons (pe_bltn (v := .ty "bool") rfl T.bool bt_bool rfl) pa_nil)))))))) (pss_one (ps_ret pe_bl)) pss_nil))))
  (pss_one (ps_ret pe_bl))), ?_⟩
  obtain ⟨dx, hp⟩ := R.ins
  refine ⟨_, rfl, oa, rfl, ⟨_, ho.sq⟩, ?_⟩
  refine for_tup (xs := (List.range n).map fun j => V.ref (t j)) (fun i σ HH => HH = H ∧ ∃ u3 u4 u5, σ = [some (.ref p), some (.ref oa), some (.ref ld), u3, u4, u5]) ⟨rfl, _, _, _, rfl⟩ (fun i σ HH _ h => ?_) (fun i x σ HH hx h => ?_) (fun σ HH h => ?_)
  · rw [h.1]; exact ho.sq
  · obtain ⟨rfl, u3, u4, u5, rfl⟩ := h
    obtain ⟨hi, rfl⟩ := rg_get hx
    refine ⟨t i, _, rfl, SqT.of (hto i hi), rfl, _, _, rfl, _, _, rfl, rfl, ?_⟩
    simp only [List.set_cons_succ, List.set_cons_zero]
    refine ⟨_, rfl, p, dx, _, rfl, hp, fno (by decide +kernel), _, rfl, p, d1, d2, d3, d4, wa, n, a, dl, s, g, i, rfl, hi, R, fun vs' hs => ?_⟩
    simp only [List.set_cons_succ, List.set_cons_zero]
    obtain ⟨t5, rfl, ht5⟩ := hs.sq
    refine ⟨_, rfl, t5, _, rfl, ht5, ⟨_, rfl, iteF ⟨_, rfl, _, rfl, _, rfl, ld, _, rfl, .inl ⟨_, .inl (a i), .inl hl, rfl, (dk_val R.ap hi).symm⟩, stD (s i), stD (s i), hs.rep, (hv i hi).rep, st_shaped (hw i hi), st_shaped (hw i hi), _, rfl, ?_⟩⟩⟩
    rw [SeqAt.eqv_refl _ (SeqAt.canLay_of_shaped (st_shaped (hw i hi)))]
    exact iteF ⟨_, rfl, t5, _, _, _, rfl, rfl, ht5, rfl, isi_bool rfl ⟨_, rfl, iteF ⟨rfl, _, _, _, rfl⟩⟩⟩
  · obtain ⟨rfl, u3, u4, u5, rfl⟩ := h
    exact q
end
end K31

set_option Elab.async false
set_option linter.all false
set_option maxRecDepth 100000
set_option pp.maxSteps 300
set_option maxHeartbeats 1000000
namespace K31
open PySem L2
theorem bls_flat (bs : List Bool) : (bs.map V.bl).all flatV = true := by
  rw [List.all_map]
  exact List.all_eq_true.mpr fun _ _ => rfl
theorem intsV_snoc (ws : List Int) (x : Int) : intsV ws ++ [V.int x] = intsV (ws ++ [x]) := by
  unfold intsV
  rw [List.map_append]
  rfl
theorem intsV_len (ws : List Int) : (intsV ws).length = ws.length := List.length_map _
section
variable {P : Program} {w : World} {K : PySem.W.Frag} {mg : Str → Option Value} {base : Heap} {C st so si : Addr}
theorem ok_wanted (c : Code K mg "_law_wanted" s_l_wanted p_l_wanted) (T : Tx K mg C st so si) (g_l_take : Good P w K mg base "_law_take" 1 p_l_take spTake) : Good P w K mg base "_law_wanted" 2 p_l_wanted spWanted := by
  refine c.good sc_l_wanted (fun vs H Q E h => ?_) (fun f cdv A outer s H vs Q E hr h => ?_)
  · obtain ⟨b, oa, wa, k, n, a, dl, ws, often, rfl, _⟩ := h
    rfl
  obtain ⟨b, oa, wa, k, n, a, dl, ws, often, rfl, hb, hk, ho, few, hwa, o0, o1, q⟩ := h
  refine ⟨_, (pss_cons (ps_set (i := 4) sc_l_wanted.nd rfl (Or.inl rfl) (pe_lst pa_nil))
  (pss_cons (ps_for PassesOwn.never rfl (pi_tup (pv 1)) (pg_tup rfl (pgs_cons (pg_name (i := 5) sc_l_wanted.nd rfl (Or.inl rfl)) (pgs_cons (pg_name (i := 6) sc_l_wanted.nd rfl (Or.inl rfl)) pgs_nil)))
  (pss_one (ps_if (pt_cmpR op_ne (pe_cmpR op_in_seq (pv 5) (pv 2) (by with_unfolding_all rfl)) (pe_cmpR op_eq (pcall g_l_take hr (pa_cons (pv 0) (pa_cons (pv 3) pa_nil))) pe_int (nomark _)) (nomark _)) (pss_one (ps_expr (pe_bm PySem.F.plainAttrs_list PySem.F.slot_list_append PySem.F.type_list_append mt_append (pv 4) (pa_cons (pv 5) pa_nil)))) pss_nil)))
  (pss_one (ps_ret (pe_callTy call_tuple_of rfl T.tuple bt_tuple (pa_cons (pv 4) pa_nil)))))), ?_⟩
  refine ⟨Nat.zero_le _, fun lf hlf => ?_⟩
  have k1 := same_new hlf (.lst [])
  have nbl : b ≠ lf := hb.nb hlf
  obtain ⟨t, hoa, hto⟩ := ho.tups (TupF.of k1)
  have hwa1 := k1 _ _ hwa
  have hb1 := hb.same k1
  have hl1 : (upd H lf (.lst [])) lf = some (.lst (intsV [])) := upd_same
  have ntb := hb1.ntupF
  generalize upd H lf (.lst []) = H1 at k1 hoa hto hwa1 hb1 hl1 ntb ⊢
  have ntl : ∀ xs, H1 lf ≠ some (.tup xs) := fun xs z => by rw [hl1] at z; cases z
  refine ⟨_, rfl, oa, rfl, ⟨_, hoa.sq⟩, ?_⟩
  refine for_tup (xs := (List.range n).map fun j => V.ref (t j)) (fun i σ HH => ∃ u5 u6 ws', σ = [some (.ref b), some (.ref oa), some (.ref wa), some (.int often), some (.ref lf), u5, u6] ∧ HH lf = some (.lst (intsV ws')) ∧ ws'.length ≤ i ∧ BagAt HH b (k + i) ∧ SameX [b, lf] H1 HH ∧ TupF H1 HH) ⟨_, _, [], rfl, hl1, Nat.le_refl _, hb1, SameX.refl _ _, TupF.refl _⟩ (fun i σ HH _ h => ?_) (fun i x σ HH hx h => ?_) (fun σ HH h => ?_)
  · obtain ⟨u5, u6, ws', rfl, h1, h2, h3, h4, h5⟩ := h
    exact (hoa.tups h5).sq
  · obtain ⟨u5, u6, ws', rfl, h1, h2, h3, h4, h5⟩ := h
    obtain ⟨hi, rfl⟩ := rg_get hx
    refine ⟨t i, _, rfl, SqT.of (h5 _ _ (hto i hi)), rfl, _, _, rfl, _, _, rfl, rfl, ?_⟩
    simp only [List.set_cons_succ, List.set_cons_zero]
    refine ⟨_, rfl, _, rfl, wa, _, rfl, .inr (SqT.of (h5 _ _ hwa1)), rfl, intsV_flat ws, _, rfl, _, rfl, b, _, often, rfl, h3, by omega, o0, by omega, fun r H2 _ _ hb2 s2 => ⟨rfl, rfl, _, rfl, ite2 (fun _ => ?_) (fun _ => ?_)⟩⟩
    · have l2 := s2 _ _ h1 nbl.symm
      have t2 : TupF HH H2 := s2.tupF h3.ntupF
      have t3 : TupF H2 (upd H2 lf (.lst (intsV ws' ++ [.int (a i)]))) := TupF.upd (ntOf (l2))
      refine ⟨_, rfl, .inl ⟨rfl, _, SqL.of l2⟩, _, rfl, lf, _, _, rfl, rfl, l2, ?_, _, _, ws' ++ [a i], rfl, ?_, ?_, ?_, ?_, ?_⟩
      · rw [intsV_len]; exact small1000 (by omega)
      · rw [upd_same, intsV_snoc]
      · rw [List.length_append]; show _ + 1 ≤ _; omega
      · exact hb2.sameB SameB.upd nbl
      · exact (h4.trans (SameX.ofB s2 (by simp))).trans (SameX.ofB SameB.upd (by simp))
      · exact (h5.trans t2).trans t3
    · exact ⟨_, _, ws', rfl, s2 _ _ h1 nbl.symm, by omega, hb2, h4.trans (SameX.ofB s2 (by simp)), h5.trans (s2.tupF h3.ntupF)⟩
  obtain ⟨u5, u6, ws', rfl, h1, h2, h3, h4, h5⟩ := h
  rw [List.length_map, List.length_range] at h2 h3
  refine ⟨_, rfl, lf, _, rfl, .inl ⟨SqL.of h1, fun wb hwb => q wb ws' _ upd_same h2 (h3.same (same_new hwb _)) fun c o e nc => ?_⟩⟩
  refine same_new hwb _ _ _ (h4 _ _ (k1 _ _ e) ?_)
  simp only [List.mem_cons, List.not_mem_nil, or_false]
  rintro (z | z)
  · exact nc z
  · rw [z, hlf] at e; cases e
theorem ok_beaten (c : Code K mg "_law_beaten" s_l_beaten p_l_beaten) (T : Tx K mg C st so si) (g_l_next : Good P w K mg base "_law_next" 1 p_l_next (spLNext K)) : Good P w K mg base "_law_beaten" 2 p_l_beaten (spBeaten K) := by
  refine c.good sc_l_beaten (fun vs H Q E h => ?_) (fun f cdv A outer s H vs Q E hr h => ?_)
  · obtain ⟨oa, ld, wb, wa, n, a, dl, s, ws, ws', rfl, _⟩ := h
    rfl
  obtain ⟨oa, ld, wb, wa, n, a, dl, s, ws, ws', rfl, ho, ap, few, ⟨v0, hl, hv⟩, hwb, hwa, lw, q⟩ := h
  refine ⟨_, (pss_cons (ps_set (i := 4) sc_l_beaten.nd rfl (Or.inl rfl) (pe_cmpR op_in_seq pe_bl (pe_comp (N' := ["_law_address", "_law_before"]) rfl (CScope.of (src := [none, some 3]) (defScope s_l_beaten) ["_law_outs_here", "_law_states", "_law_wanted_here", "_law_before", "_law_woken", "_law_found", "_law_address", "_law_delay", "_law_state"] rfl rfl rfl (by decide +kernel) (by decide +kernel) (by decide +kernel) rfl (by decide +kernel)) (pi_tup (pv 2)) (fun _ _ _ _ => (pg_name (i := 0) (show List.Nodup (["_law_address", "_law_before"] : List Str) by decide +kernel) rfl (Or.inl rfl))) (fun _ _ _ _ => pf_nil) (fun _ _ _ _ => (pe_cmpR (op_notIn_seqK (K := K) rfl) (pv 0) (pv 1) (by with_unfolding_all rfl)))) (by with_unfolding_all rfl)))
  (pss_cons (ps_set (i := 5) sc_l_beaten.nd rfl (Or.inl rfl) (pe_lst pa_nil))
  (pss_cons (ps_for PassesOwn.never rfl (pi_tup (pv 0)) (pg_tup rfl (pgs_cons (pg_name (i := 6) sc_l_beaten.nd rfl (Or.inl rfl)) (pgs_cons (pg_name (i := 7) sc_l_beaten.nd rfl (Or.inl rfl)) pgs_nil)))
  (pss_cons (ps_set (i := 8) sc_l_beaten.nd rfl (Or.inl rfl) (pcall g_l_next hr (pa_cons (pe_dget (hu_of hr) (pv 1) (pv 6) (fun _ _ => rfl)) (pa_cons (pv 7) (pa_cons (pe_cmpR op_in_seq (pv 6) (pv 2) (by with_unfolding_all rfl)) (pa_cons (pv 4) pa_nil))))))
  (pss_cons (ps_if (pt_cmpR op_ne (pe_ix ix_tup (pv 8) pe_int (fun _ _ => rfl)) (pe_ix ix_tup (pe_dget (hu_of hr) (pv 1) (pv 6) (fun _ _ => rfl)) pe_int (fun _ _ => rfl)) (nomark _)) (pss_one (ps_expr (pe_bm PySem.F.plainAttrs_list PySem.F.slot_list_append PySem.F.type_list_append mt_append (pv 5) (pa_cons (pe_tup (pa_cons (pe_ix ix_tup (pv 8) pe_int (fun _ _ => rfl)) (pa_cons (pv 6) pa_nil))) pa_nil)))) pss_nil)
  (pss_one (ps_dput (hu_of hr) (pv 1) (pv 6) (pv 8) rfl)))))
  (pss_one (ps_ret (pv 5)))))), ?_⟩
  refine ⟨_, rfl, wb, rfl, ⟨_, SqT.of hwb⟩, fun l hl0 => ?_⟩
  have kl := fun o => same_new hl0 o
  refine comp_tup (xs := intsV ws') (fun i σ HH => (∃ u, σ = [u, some (.ref wa)]) ∧ HH = upd H l (.lst ((newB ws (ws'.take i)).map V.bl))) ⟨⟨none, rfl⟩, rfl⟩ (fun i σ HH _ h => ?_) (fun i x σ HH hx h => ?_) (fun σ HH h => ?_)
  · obtain ⟨_, rfl⟩ := h
    exact SqT.of (kl _ _ _ hwb)
  · obtain ⟨⟨u, rfl⟩, rfl⟩ := h
    unfold intsV at hx
    rw [List.getElem?_map] at hx
    obtain ⟨y, hy, rfl⟩ := Option.map_eq_some_iff.mp hx
    show tOp (rIn K true) (tVar 0) (tVar 1) _ _ _
    refine ⟨_, rfl, _, rfl, wa, _, rfl, .inr (SqT.of (kl _ _ _ hwa)), rfl, intsV_flat ws, _, upd_same, ?_, ⟨_, rfl⟩, ?_⟩
    · rw [List.length_map]
      unfold newB
      rw [List.length_map, List.length_take]
      exact small1000 (by omega)
    · rw [upd_upd]
      unfold newB
      rw [List.take_add_one, hy, List.map_append, List.map_append]
      rfl
  obtain ⟨_, rfl⟩ := h
  rw [intsV_len, List.take_length]
  refine ⟨l, _, rfl, .inl (SqL.of upd_same), rfl, bls_flat _, ?_⟩
  show tSeq _ _ _ _ _
  have e0 : (if false = true then !inV (V.bl true) ((newB ws ws').map V.bl) else inV (V.bl true) ((newB ws ws').map V.bl)) = hasNew ws ws' := by
    rw [if_neg Bool.false_ne_true, any_in]
    rfl
  rw [e0]
  have s0 := kl (.lst ((newB ws ws').map V.bl))
  generalize upd H l (.lst ((newB ws ws').map V.bl)) = H0 at s0 ⊢
  refine ⟨Nat.zero_le _, fun lt hlt => ?_⟩
  have s1 : Same H (upd H0 lt (.lst [])) := s0.trans (same_new hlt _)
  have flt : H lt = none := s0.free hlt
  have ut : (upd H0 lt (.lst [])) lt = some (.lst []) := upd_same
  generalize upd H0 lt (.lst []) = H1 at s1 ut ⊢
  have hl1 := s1 _ _ hl
  have hwb1 := s1 _ _ hwb
  have nld : ld ≠ lt := ne_of_none hl flt
  have hv1 : ∀ j, j < n → StAt K H1 (v0 j) (s j) := fun j hj => (hv j hj).tups (TupF.of s1)
  obtain ⟨t, hoa, hto⟩ := ho.tups (TupF.of s1)
  refine ⟨_, rfl, oa, rfl, ⟨_, hoa.sq⟩, ?_⟩
  refine for_tup (xs := (List.range n).map fun j => V.ref (t j)) (fun i σ HH => (∃ u6 u7 u8, σ = [some (.ref oa), some (.ref ld), some (.ref wb), some (.ref wa), some (.bl (hasNew ws ws')), some (.ref lt), u6, u7, u8]) ∧ LdAt K HH ld n a (fun j => if j < i then nxt a dl ws ws' s j else s j) ∧
      (∃ tv, HH lt = some (.lst tv) ∧ Paired (EvAt HH) tv (evs a s (nxt a dl ws ws' s) i)) ∧ SameX [ld, lt] H1 HH ∧ TupF H1 HH) ⟨⟨_, _, _, rfl⟩, ⟨v0, hl1, fun j hj => ?_⟩, ⟨[], ut, .nil⟩, SameX.refl _ _, TupF.refl _⟩ (fun i σ HH _ h => (hoa.tups h.2.2.2.2).sq) (fun i x σ HH hx h => ?_) (fun σ HH h => ?_)
  · show StAt K _ (v0 j) (if j < 0 then _ else s j)
    rw [if_neg (Nat.not_lt_zero j)]
    exact hv1 j hj
  · obtain ⟨⟨u6, u7, u8, rfl⟩, ⟨v, hlH, hvH⟩, ⟨tv, htv, ptv⟩, sx, tx⟩ := h
    obtain ⟨hi, rfl⟩ := rg_get hx
    refine ⟨t i, _, rfl, SqT.of (tx _ _ (hto i hi)), rfl, _, _, rfl, _, _, rfl, rfl, ?_⟩
    simp only [List.set_cons_succ, List.set_cons_zero]
    have esi : (if i < i then nxt a dl ws ws' s i else s i) = s i := if_neg (Nat.lt_irrefl i)
    have hsi : StAt K HH (v i) (if i < i then nxt a dl ws ws' s i else s i) := hvH i hi
    rw [esi] at hsi
    refine ⟨_, rfl, _, rfl, ld, _, rfl, .inl ⟨_, .inl (a i), .inl hlH, rfl, (dk_val ap hi).symm⟩, _, rfl, _, rfl, _, rfl, wb, _, rfl, .inr (SqT.of (tx _ _ hwb1)), rfl, intsV_flat ws', _, rfl, _, dl i, _, _, s i, rfl, hsi, fun vn HN hvn sN => ?_⟩
    simp only [List.set_cons_succ, List.set_cons_zero]
    have hvn : StAt K HN vn (nxt a dl ws ws' s i) := hvn
    have hlN := sN _ _ hlH
    have ltN := sN _ _ htv
    have tN := TupF.of sN
    have pN := Evs.tups ptv tN
    have sxN : SameX [ld, lt] H1 HN := sx.trans (SameX.of sN)
    have gN : ∀ HA : Hp, HA ld = some (.dK (dk n a v)) → DGet HA ld (.int (a i)) (some (v i)) := fun HA z => .inl ⟨_, .inl (a i), .inl z, rfl, (dk_val ap hi).symm⟩
    have fin : ∀ (HA : Hp) (tv' : List V) (u6 u7 u8 : Option V), HA ld = some (.dK (dk n a v)) → TupF HN HA → HA lt = some (.lst tv') → Paired (EvAt HA) tv' (evs a s (nxt a dl ws ws' s) (i + 1)) → SameX [ld, lt] H1 HA →
        (∃ w6 w7 w8, [some (.ref oa), some (.ref ld), some (.ref wb), some (.ref wa), some (.bl (hasNew ws ws')), some (.ref lt), u6, u7, u8] = [some (.ref oa), some (.ref ld), some (.ref wb), some (.ref wa), some (.bl (hasNew ws ws')), some (.ref lt), w6, w7, w8]) ∧ LdAt K (upd HA ld (.dK (dk n a (upF v i vn)))) ld n a (fun j => if j < i + 1 then nxt a dl ws ws' s j else s j) ∧
        (∃ tv, (upd HA ld (.dK (dk n a (upF v i vn)))) lt = some (.lst tv) ∧ Paired (EvAt (upd HA ld (.dK (dk n a (upF v i vn))))) tv (evs a s (nxt a dl ws ws' s) (i + 1))) ∧ SameX [ld, lt] H1 (upd HA ld (.dK (dk n a (upF v i vn)))) ∧ TupF H1 (upd HA ld (.dK (dk n a (upF v i vn)))) := by
      intro HA tv' u6 u7 u8 a1 a2 a3 a4 a5
      have tM : TupF HA (upd HA ld (.dK (dk n a (upF v i vn)))) := TupF.upd (ntOf (a1))
      refine ⟨⟨_, _, _, rfl⟩, ⟨_, upd_same, fun j hj => ?_⟩, ⟨tv', by rw [upd_ne nld.symm]; exact a3, Evs.tups a4 tM⟩, a5.trans (SameX.ofB SameB.upd (by simp)), ((tx.trans tN).trans a2).trans tM⟩
      show StAt K _ (upF v i vn j) (if j < i + 1 then nxt a dl ws ws' s j else s j)
      unfold upF
      by_cases e : j = i
      · rw [if_pos e, if_pos (by omega), e]
        exact (hvn.tups a2).tups tM
      · rw [if_neg e]
        have z : StAt K HA (v j) (if j < i then nxt a dl ws ws' s j else s j) := ((hvH j hj).tups tN).tups a2
        by_cases e2 : j < i
        · rw [if_pos e2] at z
          rw [if_pos (by omega)]
          exact z.tups tM
        · rw [if_neg e2] at z
          rw [if_neg (by omega)]
          exact z.tups tM
    obtain ⟨tn, rfl, htn⟩ := hvn.sq
    obtain ⟨t0, et0, ht0⟩ := (hsi.tups tN).sq
    refine ⟨_, rfl, tn, _, _, _, rfl, rfl, htn, rfl, _, rfl, _, rfl, ld, _, rfl, gN _ hlN, t0, _, _, _, et0, rfl, ht0, rfl, rfl, _, rfl, ite2 (fun c1 => ?_) (fun c1 => ?_)⟩
    · have ne : ¬ (nxt a dl ws ws' s i).1 = (s i).1 := fun z => by rw [z, decide_eq_true rfl] at c1; cases c1
      refine ⟨_, rfl, .inl ⟨rfl, _, SqL.of ltN⟩, _, rfl, tn, _, _, _, rfl, rfl, htn, rfl, _, rfl, leSize (by show 2 ≤ 1000; decide), fun u hu => ⟨lt, tv, _, rfl, rfl, same_new hu _ _ _ ltN, ?_, ?_⟩⟩
      · have z := evs_len a s (nxt a dl ws ws' s) i
        rw [Paired.length pN]
        exact small1000 (by omega)
      have ku := same_new hu (.tup [.str (nxt a dl ws ws' s i).1, .int (a i)])
      have uu : (upd HN u (.tup [.str (nxt a dl ws ws' s i).1, .int (a i)])) u = _ := upd_same
      have k2 : SameB lt (upd HN u (.tup [.str (nxt a dl ws ws' s i).1, .int (a i)])) (upd (upd HN u (.tup [.str (nxt a dl ws ws' s i).1, .int (a i)])) lt (.lst (tv ++ [.ref u]))) := SameB.upd
      have tt : TupF (upd HN u (.tup [.str (nxt a dl ws ws' s i).1, .int (a i)])) (upd (upd HN u (.tup [.str (nxt a dl ws ws' s i).1, .int (a i)])) lt (.lst (tv ++ [.ref u]))) := k2.tupF (ntOf (ku _ _ ltN))
      have ldA := k2 _ _ (ku _ _ hlN) nld
      refine ⟨_, rfl, _, rfl, _, rfl, ld, _, rfl, DPut.k (k := .inl (a i)) ldA (by rw [dk_len]; exact small1000 (by omega)), ?_⟩
      rw [dk_put ap hi]
      refine fin _ (tv ++ [.ref u]) _ _ _ ldA ((TupF.of ku).trans tt) upd_same ?_ (sxN.trans ((SameX.of ku).trans (SameX.ofB k2 (by simp))))
      rw [evs_succ, if_neg ne]
      exact Paired.snoc (Evs.tups pN ((TupF.of ku).trans tt)) ⟨u, rfl, tt _ _ uu⟩
    · have eq : (nxt a dl ws ws' s i).1 = (s i).1 := by
        have z : decide (V.str (nxt a dl ws ws' s i).1 = V.str (s i).1) = true := by
          cases e : decide (V.str (nxt a dl ws ws' s i).1 = V.str (s i).1) with
          | true => rfl
          | false => rw [e] at c1; exact absurd rfl c1
        exact dstr z
      refine ⟨_, rfl, _, rfl, _, rfl, ld, _, rfl, DPut.k (k := .inl (a i)) hlN (by rw [dk_len]; exact small1000 (by omega)), ?_⟩
      rw [dk_put ap hi]
      refine fin _ tv _ _ _ hlN (TupF.refl _) ltN ?_ sxN
      rw [evs_succ, if_pos eq, List.append_nil]
      exact pN
  obtain ⟨⟨u6, u7, u8, rfl⟩, ⟨v, hlH, hvH⟩, ⟨tv, htv, ptv⟩, sx, tx⟩ := h
  rw [List.length_map, List.length_range] at ptv hvH
  refine ⟨_, rfl, q lt tv HH flt htv ptv ⟨v, hlH, fun j hj => ?_⟩ fun c o e nc => sx _ _ (s1 _ _ e) ?_⟩
  · have z : StAt K HH (v j) (if j < n then nxt a dl ws ws' s j else s j) := hvH j hj
    rw [if_pos hj] at z
    exact z
  · simp only [List.mem_cons, List.not_mem_nil, or_false]
    rintro (z | z)
    · exact nc z
    · rw [z, flt] at e; cases e
end
end K31

set_option Elab.async false
set_option linter.all false
set_option maxRecDepth 100000
set_option pp.maxSteps 300
set_option maxHeartbeats 1000000
namespace K31
open PySem L2
abbrev s_l_outs : Stmt := top 27
abbrev p_l_outs : List Str := ["_law_bag_here"]
theorem sc_l_outs : FnScope ["_law_bag_here", "_law_many", "_law_start", "_law_stride", "_law_found", "_law_place"] p_l_outs (defScope s_l_outs) := ⟨rfl, rfl, rfl, by decide +kernel, rfl, by decide +kernel, by decide +kernel⟩
def spOuts : Sp := fun vs H Q _ => ∃ b k, vs = [.ref b] ∧ BagAt H b k ∧ k ≤ 1000 ∧ ∀ oa n a dl H', OutsAt H' oa n a dl → Apart n a → (∀ j, j < n → 0 ≤ dl j) → n ≤ 30 → BagAt H' b (k + 64) → SameB b H H' → Q (.ref oa) H'
def strides : List Int := [1, 2, 5, 7, 10, 98]
theorem apart_of {s d : Int} (h : d ∈ strides) {n : Nat} (hn : n ≤ 30) : Apart n fun j => (s + d * (0 + (j : Int))) % 99 + 1 := by
  intro i j hi hj e
  have e : (s + d * (0 + (i : Int))) % 99 + 1 = (s + d * (0 + (j : Int))) % 99 + 1 := e
  simp only [strides, List.mem_cons, List.not_mem_nil, or_false] at h
  rcases h with rfl | rfl | rfl | rfl | rfl | rfl <;> omega
theorem nodup_get {α : Type} : ∀ {l : List α} {i j : Nat} {x : α}, l.Nodup → l[i]? = some x → l[j]? = some x → i = j
  | [], i, _, _, _, h, _ => by simp at h
  | y :: r, i, j, x, nd, h1, h2 => by
    obtain ⟨a, nd'⟩ := List.nodup_cons.mp nd
    cases i with
    | zero =>
      cases j with
      | zero => rfl
      | succ j =>
        have e : y = x := by simpa using h1
        have m : r[j]? = some x := by simpa using h2
        exact absurd (List.mem_of_getElem? m) (by rw [← e]; exact a)
    | succ i =>
      cases j with
      | zero =>
        have e : y = x := by simpa using h2
        have m : r[i]? = some x := by simpa using h1
        exact absurd (List.mem_of_getElem? m) (by rw [← e]; exact a)
      | succ j => rw [nodup_get (i := i) (j := j) nd' (by simpa using h1) (by simpa using h2)]
theorem rg_at {α : Type} {n i : Nat} {f : Nat → α} (h : i < n) : ((List.range n).map f)[i]? = some (f i) := by
  rw [List.getElem?_map, List.getElem?_range h]
  rfl
theorem perm_fun {n : Nat} {t : Nat → Addr} {vs : List V} (hp : vs.Perm ((List.range n).map fun j => V.ref (t j))) (inj : ∀ i j, i < n → j < n → t i = t j → i = j) :
    ∃ π : Nat → Nat, (∀ j, j < n → π j < n) ∧ vs = (List.range n).map (fun j => V.ref (t (π j))) ∧ ∀ i j, i < n → j < n → π i = π j → i = j := by
  have hl : vs.length = n := by rw [hp.length_eq, List.length_map, List.length_range]
  have h1 : ∀ j, j < n → ∃ i, i < n ∧ vs[j]? = some (V.ref (t i)) := fun j hj => by
    have hj' : j < vs.length := by omega
    have hm : vs[j] ∈ (List.range n).map fun j => V.ref (t j) := hp.mem_iff.mp (List.getElem_mem hj')
    obtain ⟨i, hi, e⟩ := List.mem_map.mp hm
    exact ⟨i, List.mem_range.mp hi, by rw [List.getElem?_eq_getElem hj', e]⟩
  have nd0 : ((List.range n).map fun j => V.ref (t j)).Nodup := by
    unfold List.Nodup
    rw [List.pairwise_map]
    refine List.Pairwise.imp_of_mem ?_ List.nodup_range
    intro a b ha hb ne e
    exact ne (inj a b (List.mem_range.mp ha) (List.mem_range.mp hb) (V.ref.inj e))
  have nd : vs.Nodup := hp.nodup_iff.mpr nd0
  refine ⟨fun j => if h : j < n then (h1 j h).choose else 0, fun j hj => ?_, ?_, fun i j hi hj e => ?_⟩
  · show (if h : j < n then _ else _) < n
    rw [dif_pos hj]
    exact (h1 j hj).choose_spec.1
  · refine List.ext_getElem? fun j => ?_
    by_cases hj : j < n
    · rw [rg_at hj, (h1 j hj).choose_spec.2]
      show _ = some (V.ref (t (if h : j < n then _ else _)))
      rw [dif_pos hj]
    · rw [List.getElem?_eq_none (by omega), List.getElem?_eq_none (by rw [List.length_map, List.length_range]; omega)]
  · have e : (if h : i < n then (h1 i h).choose else 0) = if h : j < n then (h1 j h).choose else 0 := e
    rw [dif_pos hi, dif_pos hj] at e
    have a1 := (h1 i hi).choose_spec.2
    have a2 := (h1 j hj).choose_spec.2
    rw [← e] at a2
    exact nodup_get nd a1 a2
section
variable {P : Program} {w : World} {K : PySem.W.Frag} {mg : Str → Option Value} {base : Heap} {C st so si : Addr}
theorem ok_outs (c : Code K mg "_law_outs" s_l_outs p_l_outs) (T : Tx K mg C st so si) (g_l_take : Good P w K mg base "_law_take" 1 p_l_take spTake) : Good P w K mg base "_law_outs" 2 p_l_outs spOuts := by
  refine c.good sc_l_outs (fun vs H Q E h => ?_) (fun f cdv A outer s H vs Q E hr h => ?_)
  · obtain ⟨b, k, rfl, _⟩ := h
    rfl
  obtain ⟨b, k, rfl, hb, hk, q⟩ := h
  refine ⟨_, (pss_cons (ps_set (i := 1) sc_l_outs.nd rfl (Or.inl rfl) (pe_ix ix_list (pe_lst (pa_cons (pe_op op_add pe_int (pcall g_l_take hr (pa_cons (pv 0) (pa_cons pe_int pa_nil)))) (pa_cons pe_int (pa_cons pe_int pa_nil)))) (pe_callB (call_max2 rfl) rfl T.max bt_max (pa_cons pe_int (pa_cons (pe_op op_sub (pcall g_l_take hr (pa_cons (pv 0) (pa_cons pe_int pa_nil))) pe_int) pa_nil))) (fun _ _ => rfl)))
  (pss_cons (ps_par (i := 2) (j := 3) rfl sc_l_outs.nd rfl rfl (by decide) rfl rfl (pa_cons (pcall g_l_take hr (pa_cons (pv 0) (pa_cons pe_int pa_nil))) (pa_cons (pe_ix ix_list (@pe_lst _ _ _ _ (@pa_cons _ _ _ _ _ (@pe_int _ _ _ _) (@pa_cons _ _ _ _ _ (@pe_int _ _ _ _) (@pa_cons _ _ _ _ _ (@pe_int _ _ _ _) (@pa_cons _ _ _ _ _ (@pe_int _ _ _ _) (@pa_cons _ _ _ _ _ (@pe_int _ _ _ _) (@pa_cons _ _ _ _ _ (@pe_int _ _ _ _) (@pa_nil _) st_const) st_const) st_const) st_const) st_const) st_const)) (pcall g_l_take hr (pa_cons (pv 0) (pa_cons pe_int pa_nil))) (fun _ _ => rfl)) pa_nil)) rfl)
  (pss_cons (ps_set (i := 4) sc_l_outs.nd rfl (Or.inl rfl) (pe_lst pa_nil))
  (pss_cons (ps_for PassesOwn.never rfl (pi_range1 rfl T.range (pa_cons (pv 1) pa_nil)) (pg_name (i := 5) sc_l_outs.nd rfl (Or.inl rfl))
  (pss_one (ps_expr (pe_bm PySem.F.plainAttrs_list PySem.F.slot_list_append PySem.F.type_list_append mt_append (pv 4) (pa_cons (pe_tup (pa_cons (pe_op op_add (pe_op op_mod (pe_op op_add (pv 2) (pe_op op_mul (pv 3) (pv 5))) pe_int) pe_int) (pa_cons (pcall g_l_take hr (pa_cons (pv 0) (pa_cons (pe_ix ix_list (pe_lst (pa_cons pe_int (pa_cons pe_int (pa_cons pe_int pa_nil)))) (pcall g_l_take hr (pa_cons (pv 0) (pa_cons pe_int pa_nil))) (fun _ _ => rfl)) pa_nil))) pa_nil))) pa_nil)))))
  (pss_one (ps_ret (pe_callTy call_tuple_ofF rfl T.tuple bt_tuple (pa_cons (pe_callB call_sortedT rfl T.sorted bt_sorted (pa_cons (pv 4) pa_nil)) pa_nil)))))))), ?_⟩
  refine ⟨_, rfl, b, k, 8, rfl, hb, by omega, by decide, by decide, fun r1 H1 r10 r11 hb1 s1 => ⟨_, _, rfl, rfl, leSize (by show 3 ≤ 1000; decide), fun l1 hl1 => ?_⟩⟩
  have kl1 := same_new hl1 (.lst [.int (1 + r1), .int 30, .int 0])
  have ul1 : (upd H1 l1 (.lst [.int (1 + r1), .int 30, .int 0])) l1 = some (.lst [.int (1 + r1), .int 30, .int 0]) := upd_same
  have nb1 := hb1.nb hl1
  have hb1 := hb1.same kl1
  have s1 := s1.trans (SameB.of kl1)
  refine ⟨_, rfl, b, k + 1, 8, rfl, hb1, by omega, by decide, by decide, fun r2 H2 r20 r21 hb2 s2 => ?_⟩
  have ul1 := s2 _ _ ul1 nb1.symm
  have s2 := s1.trans s2
  obtain ⟨many, hm, hm0, hm1⟩ : ∃ z : Int, atI [V.int (1 + r1), .int 30, .int 0] (if r2 - 5 > 0 then r2 - 5 else 0) = some (.int z) ∧ 0 ≤ z ∧ z ≤ 30 := by
    have : r2 ≤ 5 ∨ r2 = 6 ∨ r2 = 7 := by omega
    rcases this with z | rfl | rfl
    · rw [if_neg (by omega)]
      exact ⟨1 + r1, rfl, by omega, by omega⟩
    · exact ⟨30, rfl, by omega, by omega⟩
    · exact ⟨0, rfl, by omega, by omega⟩
  refine ⟨_, _, rfl, rfl, _, _, rfl, l1, _, _, _, rfl, rfl, SqL.of ul1, hm, ?_⟩
  refine ⟨_, rfl, b, k + 2, 99, rfl, hb2, by omega, by decide, by decide, fun r3 H3 r30 r31 hb3 s3 => ⟨leSize (by show 6 ≤ 1000; decide), fun l2 hl2 => ?_⟩⟩
  have s3 := s2.trans s3
  have kl2 := same_new hl2 (.lst [.int 1, .int 2, .int 5, .int 7, .int 10, .int 98])
  have ul2 : (upd H3 l2 (.lst [.int 1, .int 2, .int 5, .int 7, .int 10, .int 98])) l2 = some (.lst [.int 1, .int 2, .int 5, .int 7, .int 10, .int 98]) := upd_same
  have nb2 := hb3.nb hl2
  have hb3 := hb3.same kl2
  have s3 := s3.trans (SameB.of kl2)
  refine ⟨_, rfl, b, k + 3, 6, rfl, hb3, by omega, by decide, by decide, fun r4 H4 r40 r41 hb4 s4 => ?_⟩
  have ul2 := s4 _ _ ul2 nb2.symm
  have s4 := s3.trans s4
  obtain ⟨d, hd, hds⟩ : ∃ z : Int, atI [V.int 1, .int 2, .int 5, .int 7, .int 10, .int 98] r4 = some (.int z) ∧ z ∈ strides := by
    have : r4 = 0 ∨ r4 = 1 ∨ r4 = 2 ∨ r4 = 3 ∨ r4 = 4 ∨ r4 = 5 := by omega
    rcases this with rfl | rfl | rfl | rfl | rfl | rfl
    · exact ⟨_, rfl, by simp [strides]⟩
    · exact ⟨_, rfl, by simp [strides]⟩
    · exact ⟨_, rfl, by simp [strides]⟩
    · exact ⟨_, rfl, by simp [strides]⟩
    · exact ⟨_, rfl, by simp [strides]⟩
    · exact ⟨_, rfl, by simp [strides]⟩
  refine ⟨l2, _, _, _, rfl, rfl, SqL.of ul2, hd, _, _, rfl, ?_⟩
  refine ⟨Nat.zero_le _, fun lf hlf => ?_⟩
  have klf := same_new hlf (.lst [])
  have ulf : (upd H4 lf (.lst [])) lf = some (.lst []) := upd_same
  have nbf := hb4.nb hlf
  have hb5 := hb4.same klf
  have flf : H lf = none := s4.free hb4.ex hlf
  have s5 := s4.trans (SameB.of klf)
  generalize upd H4 lf (.lst []) = H5 at ulf hb5 s5 ⊢
  obtain ⟨n, rfl⟩ : ∃ n : Nat, many = n := ⟨many.toNat, by omega⟩
  have hd0 : 1 ≤ d ∧ d ≤ 98 := by
    simp only [strides, List.mem_cons, List.not_mem_nil, or_false] at hds
    omega
  refine ⟨_, rfl, _, rfl, by omega, by omega, ?_⟩
  refine for_range (fun i σ HH => ∃ (u5 : Option V) (t : Nat → Addr) (dl : Nat → Int), σ = [some (.ref b), some (.int (n : Int)), some (.int r3), some (.int d), some (.ref lf), u5] ∧ HH lf = some (.lst ((List.range i).map fun j => V.ref (t j))) ∧ (∀ j, j < i → HH (t j) = some (.tup [.int ((r3 + d * (0 + (j : Int))) % 99 + 1), .int (dl j)])) ∧ BagAt HH b (k + 4 + 2 * i) ∧ SameX [b, lf] H5 HH ∧ ∀ j, j < i → 0 ≤ dl j)
    ⟨_, fun _ => 0, fun _ => 0, rfl, ulf, (fun j hj => absurd hj (Nat.not_lt_zero _)), hb5, SameX.refl _ _, (fun j hj => absurd hj (Nat.not_lt_zero _))⟩ (fun i σ HH hi h => ?_) (fun σ HH h => ?_)
  · obtain ⟨u5, t, dl, rfl, h1, h2, h3, h4, h5⟩ := h
    have hi : i < n := by simpa using hi
    simp only [List.set_cons_succ, List.set_cons_zero]
    refine ⟨_, rfl, .inl ⟨rfl, _, SqL.of h1⟩, _, rfl, _, rfl, _, rfl, _, _, rfl, rfl, .inl ⟨by omega, by omega⟩, _, _, rfl, rfl, _, _, rfl, rfl, (by show (0 : Int) < 99; decide), _, _, rfl, rfl, _, rfl, leSize (by show 3 ≤ 1000; decide), fun l3 hl3 => ?_⟩
    have k3 := same_new hl3 (.lst [.int 1, .int 4, .int 21])
    have u3 : (upd HH l3 (.lst [.int 1, .int 4, .int 21])) l3 = some (.lst [.int 1, .int 4, .int 21]) := upd_same
    have nb3 := h3.nb hl3
    have h3 := h3.same k3
    refine ⟨_, rfl, b, k + 4 + 2 * i, 3, rfl, h3, by omega, by decide, by decide, fun r5 H6 r50 r51 hb6 s6 => ?_⟩
    have u3 := s6 _ _ u3 nb3.symm
    obtain ⟨m, hm, hm0, hm1⟩ : ∃ z : Int, atI [V.int 1, .int 4, .int 21] r5 = some (.int z) ∧ 0 < z ∧ z ≤ 21 := by
      have : r5 = 0 ∨ r5 = 1 ∨ r5 = 2 := by omega
      rcases this with rfl | rfl | rfl
      · exact ⟨_, rfl, by decide, by decide⟩
      · exact ⟨_, rfl, by decide, by decide⟩
      · exact ⟨_, rfl, by decide, by decide⟩
    refine ⟨l3, _, _, _, rfl, rfl, SqL.of u3, hm, b, k + 4 + 2 * i + 1, m, rfl, hb6, by omega, hm0, by omega, fun r6 H7 r60 _ hb7 s7 => ⟨leSize (by show 2 ≤ 1000; decide), fun u hu => ?_⟩⟩
    have s67 : SameB b HH H7 := (SameB.of k3).trans (s6.trans s7)
    have l7 := s67 _ _ h1 nbf.symm
    have ku := same_new hu (.tup [.int ((r3 + d * (0 + (i : Int))) % 99 + 1), .int r6])
    have uu : (upd H7 u (.tup [.int ((r3 + d * (0 + (i : Int))) % 99 + 1), .int r6])) u = _ := upd_same
    have nub := hb7.nb hu
    have hb7 := hb7.same ku
    have t67 : TupF HH H7 := (TupF.of k3).trans ((s6.tupF h3.ntupF).trans (s7.tupF hb6.ntupF))
    refine ⟨lf, _, _, rfl, rfl, ku _ _ l7, by rw [List.length_map, List.length_range]; exact small1000 (by omega), ?_⟩
    have k8 : SameB lf (upd H7 u (.tup [.int ((r3 + d * (0 + (i : Int))) % 99 + 1), .int r6])) (upd (upd H7 u (.tup [.int ((r3 + d * (0 + (i : Int))) % 99 + 1), .int r6])) lf (.lst ((List.range i).map (fun j => V.ref (t j)) ++ [V.ref u]))) := SameB.upd
    have t8 : TupF (upd H7 u (.tup [.int ((r3 + d * (0 + (i : Int))) % 99 + 1), .int r6])) (upd (upd H7 u (.tup [.int ((r3 + d * (0 + (i : Int))) % 99 + 1), .int r6])) lf (.lst ((List.range i).map (fun j => V.ref (t j)) ++ [V.ref u]))) := k8.tupF (ntOf (ku _ _ l7))
    refine ⟨_, upF t i u, upF dl i r6, rfl, ?_, fun j hj => ?_, (hb7.sameB k8 nbf).mono (by omega), (h4.trans (SameX.ofB s67 (by simp))).trans ((SameX.of ku).trans (SameX.ofB k8 (by simp))), fun j hj => ?_⟩
    · rw [upd_same, List.range_succ, List.map_append]
      have e1 : (List.range i).map (fun j => V.ref (upF t i u j)) = (List.range i).map fun j => V.ref (t j) := List.map_congr_left fun j hj => by
        unfold upF
        rw [if_neg (Nat.ne_of_lt (List.mem_range.mp hj))]
      rw [e1]
      show some (HO.lst (_ ++ [V.ref u])) = some (HO.lst (_ ++ [V.ref (upF t i u i)]))
      unfold upF
      rw [if_pos rfl]
    · unfold upF
      by_cases e : j = i
      · rw [if_pos e, if_pos e, e]
        exact t8 _ _ uu
      · rw [if_neg e, if_neg e]
        exact t8 _ _ (ku _ _ (t67 _ _ (h2 j (by omega))))
    · unfold upF
      by_cases e : j = i
      · rw [if_pos e]; exact r60
      · rw [if_neg e]; exact h5 j (by omega)
  obtain ⟨u5, t, dl, rfl, h1, h2, h3, h4, h5⟩ := h
  have en : ((n : Int) - 0).toNat = n := by omega
  simp only [Int.toNat_natCast] at h1 h2 h3 h5
  have ap : Apart n fun j => (r3 + d * (0 + (j : Int))) % 99 + 1 := apart_of hds (by omega)
  refine ⟨_, rfl, sortT_mk (SqL.of h1) (by rw [List.length_map, List.length_range]; omega) (fun v hv => ?_) fun vs' l hperm hl => ?_⟩
  · obtain ⟨j, hj, rfl⟩ := List.mem_map.mp hv
    exact ⟨t j, [_, _], rfl, SqT.of (h2 j (List.mem_range.mp hj)), by show 0 < 2; decide⟩
  obtain ⟨π, p1, rfl, p2⟩ := perm_fun hperm fun i j hi hj e => by
    have a1 := h2 i hi
    have a2 := h2 j hj
    rw [e, a2] at a1
    injection a1 with a1
    injection a1 with a1
    injection a1 with a1
    injection a1 with a1
    exact (ap i j hi hj a1.symm)
  refine ⟨l, _, rfl, SqL.of upd_same, fun oa ob hoa htp => ?_⟩
  have k9 := (same_new hl (.lst ((List.range n).map fun j => V.ref (t (π j))))).trans (same_new hoa (.frz ob (.tup ((List.range n).map fun j => V.ref (t (π j))))))
  refine q oa n (fun j => (r3 + d * (0 + ((π j : Nat) : Int))) % 99 + 1) (fun j => dl (π j)) _ ⟨fun j => t (π j), ⟨ob, upd_same, htp⟩, fun j hj => k9 _ _ (h2 _ (p1 j hj))⟩ (fun i j hi hj e => p2 i j hi hj (ap _ _ (p1 i hi) (p1 j hj) e)) (fun j hj => h5 _ (p1 j hj)) (by omega) ((h3.same k9).mono (by omega)) fun c o e nc => k9 _ _ (h4 _ _ (s5 _ _ e nc) ?_)
  simp only [List.mem_cons, List.not_mem_nil, or_false]
  rintro (z | z)
  · exact nc z
  · rw [z, flf] at e; cases e
end
end K31

set_option Elab.async false
set_option linter.all false
set_option maxRecDepth 100000
set_option pp.maxSteps 300
set_option maxHeartbeats 2000000
namespace K31
open PySem L2
theorem isi_list {K : PySem.W.Frag} {H : Hp} {a : Addr} {xs : List V} {Q : VK} (h : H a = some (.lst xs)) (q : Q (.bl true) H) : rIsi K [.ref a, .ty "list"] H Q := by
  unfold rIsi
  exact ⟨_, _, _, _, rfl, .lst h, by rfl, q⟩
def LsAt (H : Hp) (l : Addr) (es : List Ev) : Prop := ∃ tv, H l = some (.lst tv) ∧ Paired (EvAt H) tv es
theorem LsAt.mv {H H' : Hp} {l : Addr} {es : List Ev} (h : LsAt H l es) (k : ∀ o, H l = some o → H' l = some o) (t : TupF H H') : LsAt H' l es := by
  obtain ⟨tv, h1, h2⟩ := h
  exact ⟨tv, k _ h1, Evs.tups h2 t⟩
theorem LsAt.same {H H' : Hp} {l : Addr} {es : List Ev} (h : LsAt H l es) (k : Same H H') : LsAt H' l es := h.mv (fun o e => k _ _ e) (TupF.of k)
def evD (e : Ev) : PyData := .tuple [.str e.1, .int e.2]
def esD (es : List Ev) : PyData := .list (es.map evD)
def okE (es : List Ev) : Prop := ∀ e ∈ es, PyData.strOk e.1 = true
theorem evs_ok {a : Nat → Int} {s s' : Nat → Sta} : ∀ {n : Nat}, (∀ j, j < n → okW (s' j)) → okE (evs a s s' n)
  | 0, _ => fun e h => by cases h
  | n + 1, h => fun e he => by
    rw [evs_succ] at he
    rcases List.mem_append.mp he with z | z
    · exact evs_ok (fun j hj => h j (by omega)) e z
    · split at z
      · cases z
      · have : e = ((s' n).1, a n) := by simpa using z
        rw [this]
        exact h n (by omega)
theorem evs_reps {H : Hp} : ∀ {vs : List V} {es : List Ev}, Paired (EvAt H) vs es → Reps H vs (es.map evD)
  | _, _, .nil => .nil
  | _, _, .cons ⟨t, e, h⟩ r => .cons (by rw [e]; exact .tup h (.cons (.str _) (.cons (.int _) .nil))) (evs_reps r)
theorem LsAt.rep {H : Hp} {l : Addr} {es : List Ev} (h : LsAt H l es) : Rep H (.ref l) (esD es) := by
  obtain ⟨tv, h1, h2⟩ := h
  exact .lst h1 (evs_reps h2)
theorem es_lay : ∀ {es : List Ev}, okE es → PyData.canLayAll0 (es.map evD) = true ∧ PyData.depthAll (es.map evD) ≤ 1
  | [], _ => ⟨rfl, by show 0 ≤ 1; decide⟩
  | e :: es, h => by
    have ih := es_lay (es := es) fun x hx => h x (List.mem_cons_of_mem _ hx)
    have he := h e (List.mem_cons_self ..)
    refine ⟨?_, ?_⟩
    · show ((PyData.strOk e.1 && (true && true)) && PyData.canLayAll0 (es.map evD)) = true
      rw [ih.1, he]; rfl
    · show max (max 0 (max 0 0) + 1) (PyData.depthAll (es.map evD)) ≤ 1
      exact Nat.max_le.mpr ⟨by decide, ih.2⟩
theorem es_shaped {es : List Ev} (h : okE es) : SeqAt.shaped (esD es) = true := by
  have h1 := es_lay h
  show (PyData.canLayAll0 (es.map evD) && decide (PyData.depthAll (es.map evD) + 1 ≤ 64)) = true
  rw [h1.1, Bool.true_and]
  exact decide_eq_true (by omega)
theorem es_eq {es : List Ev} (h : okE es) : PyData.eqv (esD es) (esD es) = true := SeqAt.eqv_refl _ (SeqAt.canLay_of_shaped (es_shaped h))
/-- what stands at a turn: H the heap ahead of all, HH the one now -/
structure Bg (C : Addr) (K : PySem.W.Frag) (H HH : Hp) (b oa p ld d1 d2 d3 d4 wa : Addr) (n kk : Nat) (a dl : Nat → Int) (s sl : Nat → Sta) (g : Nat → Bool) (ws : List Int) : Prop where
  sm : Same H HH
  bag : BagAt HH b kk
  outs : OutsAt HH oa n a dl
  sd : Sd C K HH p d1 d2 d3 d4 wa n a dl s g ws
  ldt : LdAt K HH ld n a sl
  few : n ≤ 30
  lw : ws.length ≤ 100
  fb : H b = none
  fp : H p = none
  f2 : H d2 = none
  f3 : H d3 = none
  fl : H ld = none
  l1 : ld ≠ d1
  l2 : ld ≠ d2
  l3 : ld ≠ d3
  l4 : ld ≠ d4
theorem Sd.mv {C : Addr} {K : PySem.W.Frag} {H H' : Hp} {p d1 d2 d3 d4 wa : Addr} {n : Nat} {a dl : Nat → Int} {s : Nat → Sta} {g : Nat → Bool} {ws : List Int} (R : Sd C K H p d1 d2 d3 d4 wa n a dl s g ws) (k : ∀ c, c = p ∨ c = d1 ∨ c = d2 ∨ c = d3 ∨ c = d4 → ∀ o, H c = some o → H' c = some o) (t : TupF H H') : Sd C K H' p d1 d2 d3 d4 wa n a dl s g ws :=
  ⟨R.r.mv (fun c hc => k c (by rcases hc with z | z | z | z <;> simp [z])) t, k _ (by simp) _ R.del, k _ (by simp) _ R.un, t _ _ R.wan, R.n41, R.n42, R.n43⟩
section
variable {C : Addr} {K : PySem.W.Frag} {H HH H1 : Hp} {b oa p ld d1 d2 d3 d4 wa : Addr} {n kk : Nat} {a dl : Nat → Int} {s sl : Nat → Sta} {g : Nat → Bool} {ws : List Int}
theorem Bg.kinds (B : Bg C K H HH b oa p ld d1 d2 d3 d4 wa n kk a dl s sl g ws) : (∃ x, HH b = some (.lst x)) ∧ (∃ dx x, HH p = some (.ins C dx x)) ∧ (∃ x, HH d1 = some (.dK x)) ∧ (∃ x, HH d2 = some (.dK x)) ∧ (∃ x, HH d3 = some (.dK x)) ∧ (∃ x, HH d4 = some (.dK x)) ∧ ∃ x, HH ld = some (.dK x) := by
  obtain ⟨x, y, z, e, _⟩ := B.bag
  obtain ⟨dx, hp⟩ := B.sd.r.ins
  obtain ⟨v, h2, _⟩ := B.sd.r.sta
  have h3 := B.sd.r.len
  obtain ⟨vl, hl, _⟩ := B.ldt
  exact ⟨⟨_, e⟩, ⟨_, _, hp⟩, ⟨_, B.sd.del⟩, ⟨_, h2⟩, ⟨_, h3⟩, ⟨_, B.sd.un⟩, ⟨_, hl⟩⟩
theorem LdAt.mv {H H' : Hp} {d : Addr} (h : LdAt K H d n a s) (k : ∀ o, H d = some o → H' d = some o) (t : TupF H H') : LdAt K H' d n a s := by
  obtain ⟨v, h1, h2⟩ := h
  exact ⟨v, k _ h1, fun j hj => (h2 j hj).tups t⟩
theorem Bg.grow (B : Bg C K H HH b oa p ld d1 d2 d3 d4 wa n kk a dl s sl g ws) (k : Same HH H1) : Bg C K H H1 b oa p ld d1 d2 d3 d4 wa n kk a dl s sl g ws :=
  { B with sm := B.sm.trans k, bag := B.bag.same k, outs := B.outs.tups (TupF.of k), sd := B.sd.mv (fun _ _ o e => k _ _ e) (TupF.of k), ldt := B.ldt.mv (fun o e => k _ _ e) (TupF.of k) }
/-- the bag is drawn from -/
theorem Bg.draw {k' : Nat} (B : Bg C K H HH b oa p ld d1 d2 d3 d4 wa n kk a dl s sl g ws) (k : SameB b HH H1) (hb : BagAt H1 b k') : Bg C K H H1 b oa p ld d1 d2 d3 d4 wa n k' a dl s sl g ws := by
  obtain ⟨⟨q1, e1⟩, ⟨dx, q2, e2⟩, ⟨q3, e3⟩, ⟨q4, e4⟩, ⟨q5, e5⟩, ⟨q6, e6⟩, q7, e7⟩ := B.kinds
  have t : TupF HH H1 := k.tupF B.bag.ntupF
  have nx : ∀ y o, HH y = some o → (∀ z, o ≠ .lst z) → y ≠ b := fun y o e no z => by
    rw [z, e1] at e
    cases e
    exact no _ rfl
  refine { B with sm := fun y o e => k _ _ (B.sm _ _ e) (fun z => by have f := B.fb; rw [← z, e] at f; cases f), bag := hb, outs := B.outs.tups t, sd := B.sd.mv (fun y hy o e => k _ _ e ?_) t, ldt := B.ldt.mv (fun o e => k _ _ e (nx _ _ e7 (by intro z w; cases w))) t }
  rcases hy with z | z | z | z | z
  · rw [z]; exact nx _ _ e2 (by intro z w; cases w)
  · rw [z]; exact nx _ _ e3 (by intro z w; cases w)
  · rw [z]; exact nx _ _ e4 (by intro z w; cases w)
  · rw [z]; exact nx _ _ e5 (by intro z w; cases w)
  · rw [z]; exact nx _ _ e6 (by intro z w; cases w)
/-- the law's states are put -/
theorem Bg.law {sl' : Nat → Sta} (B : Bg C K H HH b oa p ld d1 d2 d3 d4 wa n kk a dl s sl g ws) (k : SameB ld HH H1) (hl : LdAt K H1 ld n a sl') : Bg C K H H1 b oa p ld d1 d2 d3 d4 wa n kk a dl s sl' g ws := by
  obtain ⟨⟨q1, e1⟩, ⟨dx, q2, e2⟩, ⟨q3, e3⟩, ⟨q4, e4⟩, ⟨q5, e5⟩, ⟨q6, e6⟩, q7, e7⟩ := B.kinds
  have t : TupF HH H1 := k.tupF (ntOf (e7))
  refine { B with sm := fun y o e => k _ _ (B.sm _ _ e) (fun z => by have f := B.fl; rw [← z, e] at f; cases f), bag := B.bag.sameB k (fun z => by rw [z, e7] at e1; cases e1), outs := B.outs.tups t, sd := B.sd.mv (fun y hy o e => k _ _ e ?_) t, ldt := hl }
  rcases hy with z | z | z | z | z
  · rw [z]; intro w; rw [w, e7] at e2; cases e2
  · rw [z]; exact B.l1.symm
  · rw [z]; exact B.l2.symm
  · rw [z]; exact B.l3.symm
  · rw [z]; exact B.l4.symm
/-- a beat -/
theorem Bg.beat {d wb : Addr} {s' : Nat → Sta} {g' : Nat → Bool} {ws' : List Int} (B : Bg C K H HH b oa p ld d1 d2 d3 d4 wa n kk a dl s sl g ws) (k : SameX [p, d2, d3] HH H1) (hs : Sd C K H1 p d1 d2 d3 d wb n a dl s' g' ws') (fd : HH d = none) (lw : ws'.length ≤ 100) : Bg C K H H1 b oa p ld d1 d2 d3 d wb n kk a dl s' sl g' ws' := by
  obtain ⟨⟨q1, e1⟩, ⟨dx, q2, e2⟩, ⟨q3, e3⟩, ⟨q4, e4⟩, ⟨q5, e5⟩, ⟨q6, e6⟩, q7, e7⟩ := B.kinds
  have t : TupF HH H1 := k.tupF fun c hc o z => by
    simp only [List.mem_cons, List.not_mem_nil, or_false] at hc
    rcases hc with w | w | w
    · rw [w, e2] at z; cases z; rfl
    · rw [w, e4] at z; cases z; rfl
    · rw [w, e5] at z; cases z; rfl
  refine { B with sm := fun y o e => k _ _ (B.sm _ _ e) (fun z => ?_), bag := ?_, outs := B.outs.tups t, sd := hs, ldt := B.ldt.mv (fun o e => k _ _ e ?_) t, lw := lw, l4 := fun z => by rw [← z, e7] at fd; cases fd }
  · simp only [List.mem_cons, List.not_mem_nil, or_false] at z
    rcases z with w | w | w
    · have f := B.fp; rw [← w, e] at f; cases f
    · have f := B.f2; rw [← w, e] at f; cases f
    · have f := B.f3; rw [← w, e] at f; cases f
  · obtain ⟨x, y, z, e, r⟩ := B.bag
    refine ⟨x, y, z, k _ _ e fun m => ?_, r⟩
    simp only [List.mem_cons, List.not_mem_nil, or_false] at m
    rcases m with w | w | w
    · rw [w, e2] at e; cases e
    · rw [w, e4] at e; cases e
    · rw [w, e5] at e; cases e
  · intro m
    simp only [List.mem_cons, List.not_mem_nil, or_false] at m
    rcases m with w | w | w
    · rw [w, e2] at e7; cases e7
    · exact B.l2 w
    · exact B.l3 w
theorem Bg.lsBeat {l : Addr} {es : List Ev} (B : Bg C K H HH b oa p ld d1 d2 d3 d4 wa n kk a dl s sl g ws) (k : SameX [p, d2, d3] HH H1) (h : LsAt HH l es) : LsAt H1 l es := by
  obtain ⟨_, ⟨dx, q2, e2⟩, _, ⟨q4, e4⟩, ⟨q5, e5⟩, _, _⟩ := B.kinds
  obtain ⟨tv, h1, h2⟩ := h
  refine ⟨tv, k _ _ h1 (fun m => ?_), Evs.tups h2 (k.tupF fun c hc o z => ?_)⟩
  · simp only [List.mem_cons, List.not_mem_nil, or_false] at m
    rcases m with w | w | w
    · rw [w, e2] at h1; cases h1
    · rw [w, e4] at h1; cases h1
    · rw [w, e5] at h1; cases h1
  · simp only [List.mem_cons, List.not_mem_nil, or_false] at hc
    rcases hc with w | w | w
    · rw [w, e2] at z; cases z; rfl
    · rw [w, e4] at z; cases z; rfl
    · rw [w, e5] at z; cases z; rfl
end
end K31

set_option Elab.async false
set_option linter.all false
set_option maxRecDepth 100000
set_option pp.maxSteps 300
set_option maxHeartbeats 1000000
namespace K31
open PySem L2
/-- the places, and the addresses, of the outs that P picks -/
def pk (n : Nat) (p : Nat → Bool) : List Nat := (List.range n).filter p
def sel (n : Nat) (a : Nat → Int) (p : Nat → Bool) : List Int := (pk n p).map a
theorem pk_succ (i : Nat) (p : Nat → Bool) : pk (i + 1) p = pk i p ++ (if p i = true then [i] else []) := by
  unfold pk
  rw [List.range_succ, List.filter_append]
  congr 1
  cases e : p i with
  | true => simp [e]
  | false => simp [e]
theorem sel_succ (i : Nat) (a : Nat → Int) (p : Nat → Bool) : sel (i + 1) a p = sel i a p ++ (if p i = true then [a i] else []) := by
  unfold sel
  rw [pk_succ, List.map_append]
  congr 1
  split <;> rfl
theorem pk_len (n : Nat) (p : Nat → Bool) : (pk n p).length ≤ n := by
  unfold pk
  have := List.length_filter_le p (List.range n)
  rw [List.length_range] at this
  exact this
theorem sel_len (n : Nat) (a : Nat → Int) (p : Nat → Bool) : (sel n a p).length ≤ n := by unfold sel; rw [List.length_map]; exact pk_len n p
theorem pk_mem {n j : Nat} {p : Nat → Bool} : j ∈ pk n p ↔ j < n ∧ p j = true := by
  unfold pk
  rw [List.mem_filter, List.mem_range]
theorem sel_filter (n : Nat) (a : Nat → Int) (p : Nat → Bool) (f : Int → Bool) : (sel n a p).filter f = sel n a fun j => p j && f (a j) := by
  unfold sel pk
  rw [List.filter_map, List.filter_filter]
  congr 1
  congr 1
  funext j
  show (f (a j) && p j) = _
  rw [Bool.and_comm]
def strsV (xs : List Str) : List V := xs.map V.str
theorem strsV_flat (xs : List Str) : (strsV xs).all flatV = true := by
  unfold strsV
  rw [List.all_map]
  exact List.all_eq_true.mpr fun _ _ => rfl
def byW (s : Nat → Sta) (xs : List Str) : Nat → Bool := fun j => inV (.str (s j).1) (strsV xs)
/-- these stand so, the others as they stood -/
def putS (s : Nat → Sta) (p : Nat → Bool) (z : Sta) : Nat → Sta := fun j => if p j = true then z else s j
def spBy (C : Addr) (K : PySem.W.Frag) : Sp := fun vs H Q _ => ∃ p d1 d2 d3 d4 wa n a dl s g wt xs, vs = [.ref p, .ref wt] ∧ SdR C K H p d1 d2 d3 d4 wa n a dl s g ∧ H wt = some (.tup (strsV xs)) ∧ ∀ l H', H l = none → H' l = some (.lst (intsV (sel n a (byW s xs)))) → Same H H' → Q (.ref l) H'
def spPut (C : Addr) (K : PySem.W.Frag) : Sp := fun vs H Q _ => ∃ p d1 d2 d3 d4 wa n a dl s g l pj v z, vs = [.ref p, .ref l, v] ∧ SdR C K H p d1 d2 d3 d4 wa n a dl s g ∧ H l = some (.lst (intsV (sel n a pj))) ∧ StAt K H v z ∧ ∀ H', SdR C K H' p d1 d2 d3 d4 wa n a dl (putS s pj z) g → SameB d2 H H' → Q (.ref l) H'
/-- a deed by hand on those that stand by these words (and are not wanted) -/
def spDo (C : Addr) (K : PySem.W.Frag) (pick : (Nat → Sta) → (Nat → Int) → List Int → Nat → Bool) (z : Sta) : Sp := fun vs H Q _ => ∃ p d1 d2 d3 d4 wa n a dl s g ws, vs = [.ref p] ∧ SdR C K H p d1 d2 d3 d4 wa n a dl s g ∧ H wa = some (.tup (intsV ws)) ∧ ∀ l H', H l = none → H' l = some (.lst (intsV (sel n a (pick s a ws)))) → SdR C K H' p d1 d2 d3 d4 wa n a dl (putS s (pick s a ws) z) g → SameB d2 H H' → Q (.ref l) H'
section
variable {P : Program} {w : World} {K : PySem.W.Frag} {mg : Str → Option Value} {base : Heap} {C st so si : Addr}
theorem ok_by (c : CodeM K C "standing_by" "Sounder.standing_by" s_Sounder_standing_by p_Sounder_standing_by) (T : Tx K mg C st so si) : GoodM P w K mg base C "standing_by" 1 p_Sounder_standing_by (spBy C K) := by
  refine c.good sc_Sounder_standing_by (fun vs H Q E h => ?_) (fun f cdv A outer s H vs Q E hr h => ?_)
  · obtain ⟨p, d1, d2, d3, d4, wa, n, a, dl, s, g, wt, xs, rfl, _⟩ := h
    rfl
  obtain ⟨p, d1, d2, d3, d4, wa, n, a, dl, s, g, wt, xs, rfl, ⟨⟨dx, hp⟩, h1, ⟨v, h2, hv⟩, h3, ap, few, n12, n13, n23⟩, hwt, q⟩ := h
  refine ⟨_, (pss_one (ps_ret (pe_thaw rfl (pe_comp (N' := ["address", "stand", "words"]) rfl (CScope.of (src := [none, none, some 1]) (defScope s_Sounder_standing_by) ["self", "words"] rfl rfl rfl (by decide +kernel) (by decide +kernel) (by decide +kernel) rfl (by decide +kernel)) (pi_items (pe_fld (pv 0) rfl)) (fun _ _ _ _ => (pg_tupK (K := K) (n := 2) rfl rfl (pgs_cons (pg_name (i := 0) (show List.Nodup (["address", "stand", "words"] : List Str) by decide +kernel) rfl (Or.inl rfl)) (pgs_cons (pg_name (i := 1) (show List.Nodup (["address", "stand", "words"] : List Str) by decide +kernel) rfl (Or.inl rfl)) pgs_nil)))) (fun _ _ _ _ => (pf_one (pt_cmpR (op_in_seqK (K := K) rfl) (pe_ix (ix_tupK (K := K) rfl) (pv 1) pe_int (fun _ _ => rfl)) (pv 2) (by with_unfolding_all rfl)))) (fun _ _ _ _ => (pv 0)))))), ?_⟩
  have nfz : ∀ o' u, H d2 ≠ some (.frz o' u) := fun o' u z => by rw [h2] at z; cases z
  refine ⟨_, rfl, p, C, dx, _, _, rfl, hp, T.cl, T.n_standing, get_standing d1 d2 d3 d4 wa, d2, _, rfl, h2, fun o l hl => ?_⟩
  have t0 : TupF H (upd H d2 (.frz o (.dK (dk n a v)))) := TupF.upd (ntOf h2)
  refine comp_di (fun i σ HH => (∃ u v, σ = [u, v, some (.ref wt)]) ∧ HH l = some (.lst (intsV (sel i a (byW s xs)))) ∧ SameB l (upd (upd H d2 (.frz o (.dK (dk n a v)))) l (.lst [])) HH) ⟨⟨none, none, rfl⟩, upd_same, SameB.refl _ _⟩ (fun i σ HH _ h => ?_) (fun i kv t σ HH hx h ft => ?_) (fun σ HH h => ?_)
  · exact h.2.2 _ _ (same_new hl _ _ _ upd_same) (fun z => by rw [← z, upd_same] at hl; cases hl)
  · obtain ⟨⟨u, v', rfl⟩, hl1, sm⟩ := h
    obtain ⟨hi, rfl⟩ := dk_at hx
    have nlt : l ≠ t := ne_of_none hl1 ft
    have kt := same_new ft (.tup [kV (.inl (a i)), v i])
    have tt : TupF H (upd HH t (.tup [kV (.inl (a i)), v i])) := ((t0.trans (TupF.of (same_new hl (.lst [])))).trans (sm.tupF (ntOf upd_same))).trans (TupF.of kt)
    obtain ⟨ts, ets, hts⟩ := ((hv i hi).tups tt).sq
    refine ⟨t, _, rfl, SqT.of upd_same, rfl, _, _, rfl, _, _, rfl, rfl, ?_⟩
    refine ⟨_, rfl, ts, _, _, _, ets, rfl, hts, rfl, _, rfl, wt, _, rfl, .inr (SqT.of (tt _ _ hwt)), rfl, strsV_flat xs, _, rfl, ite2 (fun c1 => ?_) (fun c1 => ?_)⟩
    · have c1 : byW s xs i = true := c1
      refine ⟨_, rfl, _, kt _ _ hl1, ?_, ⟨_, _, rfl⟩, ?_, sm.trans ((SameB.of kt).trans SameB.upd)⟩
      · have := sel_len i a (byW s xs)
        rw [intsV_len]; exact small1000 (by omega)
      · rw [upd_same, sel_succ, if_pos c1, ← intsV_snoc]
        rfl
    · have c1 : ¬ byW s xs i = true := c1
      refine ⟨⟨_, _, rfl⟩, ?_, sm.trans (SameB.of kt)⟩
      rw [sel_succ, if_neg c1, List.append_nil]
      exact kt _ _ hl1
  obtain ⟨_, hl1, sm⟩ := h
  rw [dk_len] at hl1
  have nl : l ≠ d2 := fun z => by rw [z, upd_same] at hl; cases hl
  have fl0 : H l = none := by rw [upd_ne nl] at hl; exact hl
  have sm' : Same (upd H d2 (.frz o (.dK (dk n a v)))) HH := fun y x e => sm _ _ (same_new hl _ _ _ e) fun z => by rw [z, hl] at e; cases e
  refine ⟨d2, o, dk n a v, sm' _ _ upd_same, nfz, q l _ fl0 ?_ (thaw_same sm' h2)⟩
  rw [upd_ne nl]
  exact hl1
theorem ok_put (c : CodeM K C "put_all" "Sounder.put_all" s_Sounder_put_all p_Sounder_put_all) (T : Tx K mg C st so si) : GoodM P w K mg base C "put_all" 1 p_Sounder_put_all (spPut C K) := by
  refine c.good sc_Sounder_put_all (fun vs H Q E h => ?_) (fun f cdv A outer s H vs Q E hr h => ?_)
  · obtain ⟨p, d1, d2, d3, d4, wa, n, a, dl, s, g, l, pj, v, z, rfl, _⟩ := h
    rfl
  obtain ⟨p, d1, d2, d3, d4, wa, n, a, dl, s, g, l, pj, v, z, rfl, ⟨⟨dx, hp⟩, h1, ⟨v2, h2, hv⟩, h3, ap, few, n12, n13, n23⟩, hl, hz, q⟩ := h
  refine ⟨_, (pss_cons (ps_for PassesOwn.never rfl (pi_list (pv 1)) (pg_name (i := 3) sc_Sounder_put_all.nd rfl (Or.inl rfl))
  (pss_one (ps_dput (hu_of hr) (pe_fld (pv 0) rfl) (pv 3) (pv 2) rfl)))
  (pss_one (ps_ret (pv 1)))), ?_⟩
  have np : p ≠ d2 := fun z => by rw [z, h2] at hp; cases hp
  have nl : l ≠ d2 := fun z => by rw [z, h2] at hl; cases hl
  refine ⟨_, rfl, l, rfl, ⟨_, SqL.of hl⟩, ?_⟩
  refine for_list (xs := intsV (sel n a pj)) (fun i σ HH => (∃ u, σ = [some (.ref p), some (.ref l), some v, u]) ∧ SameB d2 H HH ∧ ∃ v', HH d2 = some (.dK (dk n a v')) ∧ ∀ j, j < n → StAt K HH (v' j) (if j ∈ (pk n pj).take i then z else s j)) ⟨⟨_, rfl⟩, SameB.refl _ _, v2, h2, fun j hj => ?_⟩ (fun i σ HH _ h => SqL.of (h.2.1 _ _ hl nl)) (fun i x σ HH hx h => ?_) (fun σ HH h => ?_)
  · rw [List.take_zero, if_neg (by simp)]
    exact hv j hj
  · obtain ⟨⟨u, rfl⟩, sm, v', h2H, hvH⟩ := h
    simp only [List.set_cons_succ, List.set_cons_zero]
    unfold intsV sel at hx
    rw [List.getElem?_map, List.getElem?_map] at hx
    cases ej : (pk n pj)[i]? with
    | none => rw [ej] at hx; cases hx
    | some j0 =>
      rw [ej] at hx
      cases hx
      have hj0 : j0 < n := (pk_mem.mp (List.mem_of_getElem? ej)).1
      refine ⟨_, rfl, _, rfl, p, C, dx, _, _, rfl, sm _ _ hp np, T.cl, T.n_standing, get_standing d1 d2 d3 d4 wa, _, rfl, d2, _, rfl, DPut.k (k := .inl (a j0)) h2H (by rw [dk_len]; exact small1000 (by omega)), ?_⟩
      rw [dk_put ap hj0]
      have tM : TupF HH (upd HH d2 (.dK (dk n a (upF v' j0 v)))) := TupF.upd (ntOf h2H)
      refine ⟨⟨_, rfl⟩, sm.trans SameB.upd, _, upd_same, fun j hj => ?_⟩
      have et : (pk n pj).take (i + 1) = (pk n pj).take i ++ [j0] := by rw [List.take_add_one, ej]; rfl
      rw [et]
      unfold upF
      by_cases e : j = j0
      · rw [if_pos e, if_pos (by rw [e]; simp)]
        exact (hz.tups (sm.tupF (ntOf h2))).tups tM
      · have := (hvH j hj).tups tM
        rw [if_neg e]
        by_cases m : j ∈ (pk n pj).take i
        · rw [if_pos m] at this
          rw [if_pos (List.mem_append_left _ m)]
          exact this
        · rw [if_neg m] at this
          rw [if_neg (by simp [m, e])]
          exact this
  obtain ⟨⟨u, rfl⟩, sm, v', h2H, hvH⟩ := h
  have tM : TupF H HH := sm.tupF (ntOf h2)
  refine ⟨_, rfl, q HH ⟨⟨dx, sm _ _ hp np⟩, rd_tup h1 (fun o e => sm _ _ e n12), ⟨v', h2H, fun j hj => ?_⟩, sm _ _ h3 n23.symm, ap, few, n12, n13, n23⟩ sm⟩
  have := hvH j hj
  rw [intsV_len, show (sel n a pj).length = (pk n pj).length from List.length_map _, List.take_length] at this
  unfold putS
  by_cases m : pj j = true
  · rw [if_pos m]
    rw [if_pos (pk_mem.mpr ⟨hj, m⟩)] at this
    exact this
  · rw [if_neg m]
    rw [if_neg (fun z => m (pk_mem.mp z).2)] at this
    exact this
end
end K31

set_option Elab.async false
set_option linter.all false
set_option maxRecDepth 100000
set_option pp.maxSteps 300
set_option maxHeartbeats 1000000
namespace K31
open PySem L2
theorem SdR.same {C : Addr} {K : PySem.W.Frag} {H H' : Hp} {p d1 d2 d3 d4 wa : Addr} {n : Nat} {a dl : Nat → Int} {s : Nat → Sta} {g : Nat → Bool} (R : SdR C K H p d1 d2 d3 d4 wa n a dl s g) (k : Same H H') : SdR C K H' p d1 d2 d3 d4 wa n a dl s g := R.mv (fun _ _ o e => k _ _ e) (TupF.of k)
theorem intsV_append (xs ys : List Int) : intsV xs ++ intsV ys = intsV (xs ++ ys) := by unfold intsV; rw [List.map_append]
def pPress : (Nat → Sta) → (Nat → Int) → List Int → Nat → Bool := fun s _ _ => byW s ["waiting"]
def pSil : (Nat → Sta) → (Nat → Int) → List Int → Nat → Bool := fun s _ _ => byW s ["sounding"]
def pRes : (Nat → Sta) → (Nat → Int) → List Int → Nat → Bool := fun s a ws j => byW s ["sounding", "silenced"] j && !inV (.int (a j)) (intsV ws)
def spLen (C ca ch : Addr) (K : PySem.W.Frag) : Sp := fun vs H Q E => ∃ p d1 d2 d3 d4 wa n a dl s g x, vs = [.ref p, .int x] ∧ SdR C K H p d1 d2 d3 d4 wa n a dl s g ∧ ((∀ i, i < n → a i ≠ x) → ∀ H', Same H H' → E (.ref ca) none H') ∧
  ∀ i, i < n → a i = x → ((¬ ((s i).1 = "waiting" ∧ g i = false)) → ∀ H', Same H H' → E (.ref ch) none H') ∧
    ((s i).1 = "waiting" → g i = false → ∀ H', SdR C K H' p d1 d2 d3 d4 wa n a dl (upF s i (wt ((s i).2 + dl i))) (upF g i true) → SameX [d2, d3] H H' → Q (.int ((s i).2 + dl i)) H')
section
variable {P : Program} {w : World} {K : PySem.W.Frag} {mg : Str → Option Value} {base : Heap} {C st so si : Addr}
theorem ok_press (c : CodeM K C "press" "Sounder.press" s_Sounder_press p_Sounder_press) (T : Tx K mg C st so si) (g_m_standing_by : GoodM P w K mg base C "standing_by" 1 p_Sounder_standing_by (spBy C K)) (g_m_put_all : GoodM P w K mg base C "put_all" 1 p_Sounder_put_all (spPut C K)) (g_waiting : Good P w K mg base "waiting" 1 p_waiting (spWait K)) : GoodM P w K mg base C "press" 2 p_Sounder_press (spDo C K pPress ("waiting", 1)) := by
  refine c.good sc_Sounder_press (fun vs H Q E h => ?_) (fun f cdv A outer s H vs Q E hr h => ?_)
  · obtain ⟨p, d1, d2, d3, d4, wa, n, a, dl, s, g, ws, rfl, _⟩ := h
    rfl
  obtain ⟨p, d1, d2, d3, d4, wa, n, a, dl, s, g, ws, rfl, R, hwa, q⟩ := h
  refine ⟨_, (pss_one (ps_ret (pmeth (pv 0) T.cl g_m_put_all hr (pa_cons (pmeth (pv 0) T.cl g_m_standing_by hr (pa_cons (pe_tup (pa_cons pe_str pa_nil)) pa_nil)) (pa_cons (pcall g_waiting hr (pa_cons pe_int pa_nil)) pa_nil))))), ?_⟩
  obtain ⟨dx, hp⟩ := R.ins
  obtain ⟨v2, h2, _⟩ := R.sta
  refine ⟨_, rfl, p, dx, _, rfl, hp, fno (by decide +kernel), _, rfl, p, dx, _, rfl, hp, fno (by decide +kernel), leSize (by show 1 ≤ 1000; decide), fun wt hwt => ?_⟩
  have k1 := same_new hwt (.tup [.str "waiting"])
  refine ⟨p, d1, d2, d3, d4, wa, n, a, dl, s, g, wt, ["waiting"], rfl, R.same k1, upd_same, fun l H1 fl hl1 s1 => ?_⟩
  refine ⟨1, rfl, fun v H2 hv2 s2 => ?_⟩
  have k12 := k1.trans (s1.trans s2)
  refine ⟨p, d1, d2, d3, d4, wa, n, a, dl, s, g, l, byW s ["waiting"], v, ("waiting", 1), rfl, R.same k12, s2 _ _ hl1, hv2, fun H3 R3 s3 => q l H3 (k1.free fl) ?_ R3 ((SameB.of k12).trans s3)⟩
  exact s3 _ _ (s2 _ _ hl1) (fun z => by rw [z, k1 _ _ h2] at fl; cases fl)
theorem ok_silence (c : CodeM K C "silence" "Sounder.silence" s_Sounder_silence p_Sounder_silence) (T : Tx K mg C st so si) (g_m_standing_by : GoodM P w K mg base C "standing_by" 1 p_Sounder_standing_by (spBy C K)) (g_m_put_all : GoodM P w K mg base C "put_all" 1 p_Sounder_put_all (spPut C K)) : GoodM P w K mg base C "silence" 2 p_Sounder_silence (spDo C K pSil ("silenced", 0)) := by
  refine c.good sc_Sounder_silence (fun vs H Q E h => ?_) (fun f cdv A outer s H vs Q E hr h => ?_)
  · obtain ⟨p, d1, d2, d3, d4, wa, n, a, dl, s, g, ws, rfl, _⟩ := h
    rfl
  obtain ⟨p, d1, d2, d3, d4, wa, n, a, dl, s, g, ws, rfl, R, hwa, q⟩ := h
  refine ⟨_, (pss_one (ps_ret (pmeth (pv 0) T.cl g_m_put_all hr (pa_cons (pmeth (pv 0) T.cl g_m_standing_by hr (pa_cons (pe_tup (pa_cons pe_str pa_nil)) pa_nil)) (pa_cons (pe_cst rfl T.SILENCED) pa_nil))))), ?_⟩
  obtain ⟨dx, hp⟩ := R.ins
  obtain ⟨v2, h2, _⟩ := R.sta
  refine ⟨_, rfl, p, dx, _, rfl, hp, fno (by decide +kernel), _, rfl, p, dx, _, rfl, hp, fno (by decide +kernel), leSize (by show 1 ≤ 1000; decide), fun wt hwt => ?_⟩
  have k1 := same_new hwt (.tup [.str "sounding"])
  refine ⟨p, d1, d2, d3, d4, wa, n, a, dl, s, g, wt, ["sounding"], rfl, R.same k1, upd_same, fun l H1 fl hl1 s1 => ?_⟩
  have k12 := k1.trans s1
  refine ⟨p, d1, d2, d3, d4, wa, n, a, dl, s, g, l, byW s ["sounding"], _, ("silenced", 0), rfl, R.same k12, hl1, ⟨si, rfl, .inr T.silenced⟩, fun H3 R3 s3 => q l H3 (k1.free fl) ?_ R3 ((SameB.of k12).trans s3)⟩
  exact s3 _ _ hl1 (fun z => by rw [z, k1 _ _ h2] at fl; cases fl)
theorem ok_reset (c : CodeM K C "reset" "Sounder.reset" s_Sounder_reset p_Sounder_reset) (T : Tx K mg C st so si) (g_m_standing_by : GoodM P w K mg base C "standing_by" 1 p_Sounder_standing_by (spBy C K)) (g_m_put_all : GoodM P w K mg base C "put_all" 1 p_Sounder_put_all (spPut C K)) : GoodM P w K mg base C "reset" 2 p_Sounder_reset (spDo C K pRes ("still", 0)) := by
  refine c.good sc_Sounder_reset (fun vs H Q E h => ?_) (fun f cdv A outer s H vs Q E hr h => ?_)
  · obtain ⟨p, d1, d2, d3, d4, wa, n, a, dl, s, g, ws, rfl, _⟩ := h
    rfl
  obtain ⟨p, d1, d2, d3, d4, wa, n, a, dl, s, g, ws, rfl, R, hwa, q⟩ := h
  refine ⟨_, (pss_cons (ps_set (i := 1) sc_Sounder_reset.nd rfl (Or.inl rfl) (pmeth (pv 0) T.cl g_m_standing_by hr (pa_cons (pe_tup (pa_cons pe_str (pa_cons pe_str pa_nil))) pa_nil)))
  (pss_one (ps_ret (pmeth (pv 0) T.cl g_m_put_all hr (pa_cons (pe_comp (N' := ["address", "self"]) rfl (CScope.of (src := [none, some 0]) (defScope s_Sounder_reset) ["self", "loud"] rfl rfl rfl (by decide +kernel) (by decide +kernel) (by decide +kernel) rfl (by decide +kernel)) (pi_list (pv 1)) (fun _ _ _ _ => (pg_name (i := 0) (show List.Nodup (["address", "self"] : List Str) by decide +kernel) rfl (Or.inl rfl))) (fun _ _ _ _ => (pf_one (pt_cmpR (op_notIn_seqK (K := K) rfl) (pv 0) (pe_fldK (K := K) rfl (pv 1) rfl) (by with_unfolding_all rfl)))) (fun _ _ _ _ => (pv 0))) (pa_cons (pe_cst rfl T.STILL) pa_nil)))))), ?_⟩
  obtain ⟨dx, hp⟩ := R.ins
  obtain ⟨v2, h2, _⟩ := R.sta
  refine ⟨_, rfl, p, dx, _, rfl, hp, fno (by decide +kernel), leSize (by show 2 ≤ 1000; decide), fun wt hwt => ?_⟩
  have k1 := same_new hwt (.tup [.str "sounding", .str "silenced"])
  refine ⟨p, d1, d2, d3, d4, wa, n, a, dl, s, g, wt, ["sounding", "silenced"], rfl, R.same k1, upd_same, fun l0 H1 fl0 hl0 s1 => ?_⟩
  have k12 := k1.trans s1
  refine ⟨_, rfl, p, dx, _, rfl, k12 _ _ hp, fno (by decide +kernel), _, rfl, l0, rfl, ⟨_, SqL.of hl0⟩, fun l hl => ?_⟩
  have few := R.few
  refine comp_list (xs := intsV (sel n a (byW s ["sounding", "silenced"]))) (fun i σ HH => (∃ u, σ = [u, some (.ref p)]) ∧ HH = upd H1 l (.lst (intsV (((sel n a (byW s ["sounding", "silenced"])).take i).filter fun x => !inV (.int x) (intsV ws))))) ⟨⟨none, rfl⟩, rfl⟩ (fun i σ HH _ h => ?_) (fun i x σ HH hx h => ?_) (fun σ HH h => ?_)
  · rw [h.2]; exact SqL.of (same_new hl _ _ _ hl0)
  · obtain ⟨⟨u, rfl⟩, rfl⟩ := h
    unfold intsV at hx
    rw [List.getElem?_map] at hx
    obtain ⟨y, hy, rfl⟩ := Option.map_eq_some_iff.mp hx
    have kl := fun o => same_new hl o
    refine ⟨_, rfl, _, rfl, p, C, dx, _, _, rfl, kl _ _ _ (k12 _ _ hp), T.cl, T.n_wanted, get_wanted d1 d2 d3 d4 wa, wa, _, rfl, .inr (SqT.of (kl _ _ _ (k12 _ _ hwa))), rfl, intsV_flat ws, _, rfl, ite2 (fun c1 => ?_) (fun c1 => ?_)⟩
    · have c1 : (!inV (.int y) (intsV ws)) = true := c1
      refine ⟨_, rfl, _, upd_same, ?_, ⟨_, rfl⟩, ?_⟩
      · have z1 := List.length_filter_le (fun x => !inV (.int x) (intsV ws)) ((sel n a (byW s ["sounding", "silenced"])).take i)
        have z2 := sel_len n a (byW s ["sounding", "silenced"])
        rw [List.length_take] at z1
        rw [intsV_len]; exact small1000 (by omega)
      · rw [upd_upd, List.take_add_one, hy, List.filter_append, ← intsV_append]
        congr 3
        show _ = intsV (List.filter _ [y])
        rw [List.filter_cons_of_pos (p := fun x => !inV (.int x) (intsV ws)) c1]
        rfl
    · have c1 : ¬ (!inV (.int y) (intsV ws)) = true := c1
      refine ⟨⟨_, rfl⟩, ?_⟩
      rw [List.take_add_one, hy, List.filter_append]
      show _ = upd H1 l (.lst (intsV (_ ++ List.filter _ [y])))
      rw [List.filter_cons_of_neg (p := fun x => !inV (.int x) (intsV ws)) c1]
      show _ = upd H1 l (.lst (intsV (_ ++ [])))
      rw [List.append_nil]
  obtain ⟨_, rfl⟩ := h
  rw [intsV_len, List.take_length, sel_filter]
  have k3 := same_new hl (.lst (intsV (sel n a fun j => byW s ["sounding", "silenced"] j && !inV (.int (a j)) (intsV ws))))
  have k13 := k12.trans k3
  refine ⟨p, d1, d2, d3, d4, wa, n, a, dl, s, g, l, pRes s a ws, _, ("still", 0), rfl, R.same k13, upd_same, ⟨st, rfl, .inr T.still⟩, fun H3 R3 s3 => q l H3 (k12.free hl) ?_ R3 ((SameB.of k13).trans s3)⟩
  exact s3 _ _ upd_same (fun z => by rw [z, k12 _ _ h2] at hl; cases hl)
theorem ok_lengthen {hc c0 c1 c2 c3 c4 c5 c6 c7 c8 c9 c10 c11 c12 : Addr} (c : CodeM K C "lengthen" "Sounder.lengthen" s_Sounder_lengthen p_Sounder_lengthen) (T : Tx K mg C st so si) (XE : Er K mg hc c0 c1 c2 c3 c4 c5 c6 c7 c8 c9 c10 c11 c12) (k_NoHand : Knd K hc c7 [c0, c1, c2, c3, c4, c5, c6, c7, c8, c9, c10, c11, c12] 7) (g_m_check_address : GoodMX P w K mg base C "check_address" 2 p_Sounder_check_address (spChk C c5 K)) (g_waiting : Good P w K mg base "waiting" 1 p_waiting (spWait K)) : GoodMX P w K mg base C "lengthen" 3 p_Sounder_lengthen (spLen C c5 c7 K) := by
  refine c.goodX sc_Sounder_lengthen (fun vs H Q E h => ?_) (fun X f cdv A outer s H vs Q E eX hx hr h => ?_)
  · obtain ⟨p, d1, d2, d3, d4, wa, n, a, dl, s, g, x, rfl, _⟩ := h
    rfl
  subst eX
  obtain ⟨p, d1, d2, d3, d4, wa, n, a, dl, s, g, x, rfl, R, qA, q⟩ := h
  refine ⟨_, (pss_cons (ps_expr (pmethX (pv 0) T.cl g_m_check_address hr hx (pa_cons (pv 1) pa_nil)))
  (pss_cons (ps_asg (pe_dget (hu_of hr) (pe_fld (pv 0) rfl) (pv 1) (fun _ _ => rfl)) (pg_tup rfl (pgs_cons (pg_name (i := 2) sc_Sounder_lengthen.nd rfl (Or.inl rfl)) (pgs_cons (pg_name (i := 3) sc_Sounder_lengthen.nd rfl (Or.inl rfl)) pgs_nil))))
  (pss_cons (ps_if (PW.pt (pw_or (pt_cmpR op_ne (pv 2) pe_str (nomark _)) (pw_or1 (pt_val (pe_dget (hu_of hr) (pe_fld (pv 0) rfl) (pv 1) (fun _ _ => rfl)))))) (pss_one (ps_raise rfl k_NoHand.xc rfl XE.nNoHand hx (pa_cons pe_str pa_nil))) pss_nil)
  (pss_cons (ps_dput (hu_of hr) (pe_fld (pv 0) rfl) (pv 1) pe_bl rfl)
  (pss_cons (ps_dput (hu_of hr) (pe_fld (pv 0) rfl) (pv 1) (pcall g_waiting hr (pa_cons (pe_op op_add (pv 3) (pe_dget (hu_of hr) (pe_fld (pv 0) rfl) (pv 1) (fun _ _ => rfl))) pa_nil)) rfl)
  (pss_one (ps_ret (pe_op op_add (pv 3) (pe_dget (hu_of hr) (pe_fld (pv 0) rfl) (pv 1) (fun _ _ => rfl)))))))))), ?_⟩
  have R' := R
  obtain ⟨⟨dx, hp⟩, h1, ⟨v, h2, hv⟩, h3, ap, few, n12, n13, n23⟩ := R'
  refine ⟨_, rfl, p, dx, _, rfl, hp, fno (by decide +kernel), _, rfl, p, d1, d2, d3, d4, wa, n, a, dl, s, g, x, rfl, R, (fun hex => ?_), (fun no H' s' => qA no H' s')⟩
  obtain ⟨i, hi, rfl⟩ := hex
  obtain ⟨qH, qQ⟩ := q i hi rfl
  obtain ⟨t, et, ht⟩ := (hv i hi).sq
  have g2 : DGet H d2 (.int (a i)) (some (v i)) := .inl ⟨_, .inl (a i), .inl h2, rfl, (dk_val ap hi).symm⟩
  have g3 : DGet H d3 (.int (a i)) (some (.bl (g i))) := .inl ⟨_, .inl (a i), .inl h3, rfl, (dk_val (v := fun j => V.bl (g j)) ap hi).symm⟩
  refine ⟨_, rfl, p, C, dx, _, _, rfl, hp, T.cl, T.n_standing, get_standing d1 d2 d3 d4 wa, _, rfl, d2, _, rfl, g2, t, _, et, ht, rfl, _, _, rfl, _, _, rfl, rfl, ?_⟩
  simp only [List.set_cons_succ, List.set_cons_zero]
  refine ⟨_, rfl, rfl, _, rfl, ite2 (fun c1 => ?_) (fun c1 => ?_)⟩
  · refine iteT ⟨leSize (by show 1 ≤ 1000; decide), qH (fun z => ?_) _ (Same.refl H)⟩
    rw [z.1, decide_eq_true rfl] at c1
    cases c1
  have hw : (s i).1 = "waiting" := by
    have z : decide (V.str (s i).1 = V.str "waiting") = true := by
      cases e : decide (V.str (s i).1 = V.str "waiting") with
      | true => rfl
      | false => rw [e] at c1; exact absurd rfl c1
    exact dstr z
  refine ⟨_, rfl, p, C, dx, _, _, rfl, hp, T.cl, T.n_lengthened, get_lengthened d1 d2 d3 d4 wa, _, rfl, d3, _, rfl, g3, _, rfl, ite2 (fun c2 => ?_) (fun c2 => ?_)⟩
  · exact ⟨leSize (by show 1 ≤ 1000; decide), qH (fun z => by rw [z.2] at c2; cases c2) _ (Same.refl H)⟩
  have hg : g i = false := by
    cases e : g i with
    | false => rfl
    | true => rw [e] at c2; exact absurd rfl c2
  have np1 : p ≠ d3 := fun z => by rw [z, h3] at hp; cases hp
  have np2 : p ≠ d2 := fun z => by rw [z, h2] at hp; cases hp
  refine ⟨_, rfl, p, C, dx, _, _, rfl, hp, T.cl, T.n_lengthened, get_lengthened d1 d2 d3 d4 wa, _, rfl, d3, _, rfl, DPut.k (k := .inl (a i)) h3 (by rw [dk_len]; exact small1000 (by omega)), ?_⟩
  rw [dk_put ap hi]
  have eg : upF (fun j => V.bl (g j)) i (.bl true) = fun j => V.bl (upF g i true j) := by
    funext j
    unfold upF
    split <;> rfl
  rw [eg]
  have k1 : SameB d3 H (upd H d3 (.dK (dk n a fun j => V.bl (upF g i true j)))) := SameB.upd
  have u3 : (upd H d3 (.dK (dk n a fun j => V.bl (upF g i true j)))) d3 = some (.dK (dk n a fun j => V.bl (upF g i true j))) := upd_same
  have t1 : TupF H (upd H d3 (.dK (dk n a fun j => V.bl (upF g i true j)))) := TupF.upd (ntOf h3)
  generalize upd H d3 (.dK (dk n a fun j => V.bl (upF g i true j))) = H1 at k1 u3 t1 ⊢
  have gD : ∀ H' : Hp, Rd H' d1 (.dK (dk n a fun j => .int (dl j))) → DGet H' d1 (.int (a i)) (some (.int (dl i))) := fun H' r => .inl ⟨_, .inl (a i), r, rfl, (dk_val (v := fun j => V.int (dl j)) ap hi).symm⟩
  have h11 := rd_tup h1 (H' := H1) fun u z => k1 _ _ z n13
  refine ⟨_, rfl, _, rfl, p, C, dx, _, _, rfl, k1 _ _ hp np1, T.cl, T.n_delays, get_delays d1 d2 d3 d4 wa, _, rfl, d1, _, rfl, gD _ h11, _, _, rfl, rfl, _, rfl, fun vn HN hvn sN => ?_⟩
  have h2N := sN _ _ (k1 _ _ h2 n23)
  refine ⟨_, rfl, p, C, dx, _, _, rfl, sN _ _ (k1 _ _ hp np1), T.cl, T.n_standing, get_standing d1 d2 d3 d4 wa, _, rfl, d2, _, rfl, DPut.k (k := .inl (a i)) h2N (by rw [dk_len]; exact small1000 (by omega)), ?_⟩
  rw [dk_put ap hi]
  have k2 : SameB d2 HN (upd HN d2 (.dK (dk n a (upF v i vn)))) := SameB.upd
  have u2 : (upd HN d2 (.dK (dk n a (upF v i vn)))) d2 = some (.dK (dk n a (upF v i vn))) := upd_same
  have t2 : TupF HN (upd HN d2 (.dK (dk n a (upF v i vn)))) := TupF.upd (ntOf h2N)
  generalize upd HN d2 (.dK (dk n a (upF v i vn))) = H2 at k2 u2 t2 ⊢
  have h12 := rd_tup (rd_tup h11 (H' := HN) fun u z => sN _ _ z) (H' := H2) fun u z => k2 _ _ z n12
  have hp2 := k2 _ _ (sN _ _ (k1 _ _ hp np1)) np2
  refine ⟨_, rfl, _, rfl, p, C, dx, _, _, rfl, hp2, T.cl, T.n_delays, get_delays d1 d2 d3 d4 wa, _, rfl, d1, _, rfl, gD _ h12, _, _, rfl, rfl, ?_⟩
  refine qQ hw hg H2 ⟨⟨dx, hp2⟩, h12, ⟨_, u2, fun j hj => ?_⟩, k2 _ _ (sN _ _ u3) n23.symm, ap, few, n12, n13, n23⟩ (((SameX.ofB k1 (by simp)).trans (SameX.of sN)).trans (SameX.ofB k2 (by simp)))
  unfold upF
  by_cases e : j = i
  · rw [if_pos e, if_pos e]
    exact hvn.tups t2
  · rw [if_neg e, if_neg e]
    exact (((hv j hj).tups t1).tups (TupF.of sN)).tups t2
end
end K31

set_option Elab.async false
set_option linter.all false
set_option maxRecDepth 100000
set_option maxHeartbeats 1000000
namespace K31
open PySem L2
theorem paired_rg {α β : Type} {F : α → β → Prop} {f : Nat → α} {g : Nat → β} : ∀ {n : Nat}, (∀ j, j < n → F (f j) (g j)) → Paired F ((List.range n).map f) ((List.range n).map g)
  | 0, _ => .nil
  | n + 1, h => by
    rw [List.range_succ, List.map_append, List.map_append]
    exact Paired.snoc (paired_rg fun j hj => h j (by omega)) (h n (by omega))
theorem dk_nd {n : Nat} {a : Nat → Int} {v : Nat → V} (ap : Apart n a) : ((dk n a v).map (·.1)).Nodup := by
  rw [dk_keys]
  unfold List.Nodup
  rw [List.pairwise_map]
  refine List.Pairwise.imp_of_mem ?_ List.nodup_range
  intro i j hi hj ne e
  exact ne (ap i j (List.mem_range.mp hi) (List.mem_range.mp hj) (Sum.inl.inj e))
end K31

set_option Elab.async false
set_option linter.all false
set_option maxRecDepth 100000
set_option pp.maxSteps 300
set_option maxHeartbeats 1000000
namespace K31
open PySem L2
abbrev s_l_hand : Stmt := top 32
abbrev p_l_hand : List Str := ["_law_outs_here", "_law_states", "_law_longer", "_law_wanted_here", "_law_way", "_law_address"]
theorem sc_l_hand : FnScope ["_law_outs_here", "_law_states", "_law_longer", "_law_wanted_here", "_law_way", "_law_address", "_law_delays", "_law_found", "_law_one"] p_l_hand (defScope s_l_hand) := ⟨rfl, rfl, rfl, by decide +kernel, rfl, by decide +kernel, by decide +kernel⟩
theorem byW1 (s : Nat → Sta) (x : Str) (j : Nat) : byW s [x] j = decide (V.str (s j).1 = V.str x) := by
  show ((x == (s j).1) || false) = _
  rw [Bool.or_false]
  by_cases e : (s j).1 = x
  · rw [e, decide_eq_true rfl, beq_self_eq_true]
  · rw [decide_eq_false (fun z => e (V.str.inj z))]
    exact beq_eq_false_iff_ne.mpr (Ne.symm e)
/-- for one in found: states[one] = (word, k) -/
theorem putLoop {K : PySem.W.Frag} {D : Ends} {H : Hp} {ld l : Addr} {n : Nat} {a : Nat → Int} {s : Nat → Sta} {pj : Nat → Bool} {x : Str} {k : Int} {A0 A2 A3 A4 A5 A6 A8 : Option V} (ap : Apart n a) (few : n ≤ 100) (hl : H l = some (.lst (intsV (sel n a pj)))) (hld : LdAt K H ld n a s)
    (q : ∀ u H', LdAt K H' ld n a (putS s pj (x, k)) → SameB ld H H' → D.nx [A0, some (.ref ld), A2, A3, A4, A5, A6, some (.ref l), u] H') :
    tFor (iList K (tVar 7)) (gName 8) (sDPut (tVar 1) (tVar 8) (tTup (tCons (tC (.str x)) (tCons (tC (.int k)) tNil)))) D [A0, some (.ref ld), A2, A3, A4, A5, A6, some (.ref l), A8] H := by
  obtain ⟨v2, h2, hv⟩ := hld
  have nl : l ≠ ld := fun z => by rw [z, h2] at hl; cases hl
  refine ⟨_, rfl, l, rfl, ⟨_, SqL.of hl⟩, ?_⟩
  refine for_list (xs := intsV (sel n a pj)) (fun i σ HH => (∃ u, σ = [A0, some (.ref ld), A2, A3, A4, A5, A6, some (.ref l), u]) ∧ SameB ld H HH ∧ ∃ v', HH ld = some (.dK (dk n a v')) ∧ ∀ j, j < n → StAt K HH (v' j) (if j ∈ (pk n pj).take i then (x, k) else s j)) ⟨⟨_, rfl⟩, SameB.refl _ _, v2, h2, fun j hj => ?_⟩ (fun i σ HH _ h => SqL.of (h.2.1 _ _ hl nl)) (fun i y σ HH hx h => ?_) (fun σ HH h => ?_)
  · rw [List.take_zero, if_neg (by simp)]
    exact hv j hj
  · obtain ⟨⟨u, rfl⟩, sm, v', h2H, hvH⟩ := h
    unfold intsV sel at hx
    rw [List.getElem?_map, List.getElem?_map] at hx
    cases ej : (pk n pj)[i]? with
    | none => rw [ej] at hx; cases hx
    | some j0 =>
      rw [ej] at hx
      cases hx
      have hj0 : j0 < n := (pk_mem.mp (List.mem_of_getElem? ej)).1
      refine ⟨leSize (by show 2 ≤ 1000; decide), fun t ht => ?_⟩
      have kt := same_new ht (.tup [.str x, .int k])
      have ut : (upd HH t (.tup [.str x, .int k])) t = some (.tup [.str x, .int k]) := upd_same
      generalize upd HH t (.tup [.str x, .int k]) = HT at kt ut ⊢
      have h2T := kt _ _ h2H
      refine ⟨_, rfl, _, rfl, ld, _, rfl, DPut.k (k := .inl (a j0)) h2T (by rw [dk_len]; exact small1000 (by omega)), ?_⟩
      rw [dk_put ap hj0]
      have tM : TupF HT (upd HT ld (.dK (dk n a (upF v' j0 (.ref t))))) := TupF.upd (ntOf h2T)
      refine ⟨⟨_, rfl⟩, sm.trans ((SameB.of kt).trans SameB.upd), _, upd_same, fun j hj => ?_⟩
      have et : (pk n pj).take (i + 1) = (pk n pj).take i ++ [j0] := by rw [List.take_add_one, ej]; rfl
      rw [et]
      unfold upF
      by_cases e : j = j0
      · rw [if_pos e, if_pos (by rw [e]; simp)]
        exact ⟨t, rfl, .inl (tM _ _ ut)⟩
      · have := ((hvH j hj).tups (TupF.of kt)).tups tM
        rw [if_neg e]
        by_cases m : j ∈ (pk n pj).take i
        · rw [if_pos m] at this
          rw [if_pos (List.mem_append_left _ m)]
          exact this
        · rw [if_neg m] at this
          rw [if_neg (by simp [m, e])]
          exact this
  obtain ⟨⟨u, rfl⟩, sm, v', h2H, hvH⟩ := h
  refine q u HH ⟨v', h2H, fun j hj => ?_⟩ sm
  have := hvH j hj
  rw [intsV_len, show (sel n a pj).length = (pk n pj).length from List.length_map _, List.take_length] at this
  unfold putS
  by_cases m : pj j = true
  · rw [if_pos m]
    rw [if_pos (pk_mem.mpr ⟨hj, m⟩)] at this
    exact this
  · rw [if_neg m]
    rw [if_neg (fun z => m (pk_mem.mp z).2)] at this
    exact this
/-- [one for one, delay in outs if states[one][0] == word] -/
theorem selComp {K : PySem.W.Frag} {H : Hp} {oa ld l : Addr} {n : Nat} {a dl : Nat → Int} {s : Nat → Sta} {x : Str} {Q : VK} (ho : OutsAt H oa n a dl) (ap : Apart n a) (few : n ≤ 100) (hld : LdAt K H ld n a s) (hl : H l = none) (q : Q (.ref l) (upd H l (.lst (intsV (sel n a (byW s [x])))))) :
    CWant (Itt K oa) (gTup K 2 (gCons (gName 0) (gCons (gName 1) gNil))) (tTest (tOp rEq (tOp (rIxT K) (tDGet (tVar 2) (tVar 0)) (tC (.int 0))) (tC (.str x)))) (tVar 0) Q [none, none, some (.ref ld)] (upd H l (.lst [])) l := by
  obtain ⟨t, h1, h2⟩ := ho
  obtain ⟨v, e2, hv⟩ := hld
  refine comp_tup (xs := (List.range n).map fun j => V.ref (t j)) (fun i σ HH => (∃ u w, σ = [u, w, some (.ref ld)]) ∧ HH = upd H l (.lst (intsV (sel i a (byW s [x]))))) ⟨⟨none, none, rfl⟩, rfl⟩ (fun i σ HH _ h => ?_) (fun i y σ HH hx h => ?_) (fun σ HH h => ?_)
  · rw [h.2]; exact (h1.same (same_new hl _)).sq
  · obtain ⟨⟨u, w, rfl⟩, rfl⟩ := h
    obtain ⟨hi, rfl⟩ := rg_get hx
    have kl := fun o => same_new hl o
    obtain ⟨ts, ets, hts⟩ := ((hv i hi).tups (TupF.of (kl (.lst (intsV (sel i a (byW s [x]))))))).sq
    refine ⟨t i, _, rfl, SqT.of (kl _ _ _ (h2 i hi)), rfl, _, _, rfl, _, _, rfl, rfl, ?_⟩
    refine ⟨_, rfl, _, rfl, ld, _, rfl, .inl ⟨_, .inl (a i), .inl (kl _ _ _ e2), rfl, (dk_val ap hi).symm⟩, ts, _, _, _, ets, rfl, hts, rfl, rfl, _, rfl, ite2 (fun c1 => ?_) (fun c1 => ?_)⟩
    · have c1 : byW s [x] i = true := by rw [byW1]; exact c1
      refine ⟨_, rfl, _, upd_same, ?_, ⟨_, _, rfl⟩, ?_⟩
      · have := sel_len i a (byW s [x])
        rw [intsV_len]; exact small1000 (by omega)
      · rw [upd_upd, sel_succ, if_pos c1, ← intsV_snoc]
    · have c1 : ¬ byW s [x] i = true := by rw [byW1]; exact c1
      refine ⟨⟨_, _, rfl⟩, ?_⟩
      rw [sel_succ, if_neg c1, List.append_nil]
  · obtain ⟨_, rfl⟩ := h
    rw [List.length_map, List.length_range]
    exact q
def Dn (K : PySem.W.Frag) (H : Hp) (ld : Addr) (n : Nat) (a : Nat → Int) (s : Nat → Sta) (pj : Nat → Bool) (z : Sta) (Q : VK) : Prop := ∀ l H', H l = none → H' l = some (.lst (intsV (sel n a pj))) → LdAt K H' ld n a (putS s pj z) → SameB ld H H' → Q (.ref l) H'
def spHand (K : PySem.W.Frag) : Sp := fun vs H Q _ => ∃ oa ld lg wv n a dl s lo ws way x, vs = [.ref oa, .ref ld, .ref lg, .ref wv, .int way, .int x] ∧ OutsAt H oa n a dl ∧ Apart n a ∧ n ≤ 100 ∧ LdAt K H ld n a s ∧ H lg = some (.lst (intsV lo)) ∧ lo.length ≤ 500 ∧ H wv = some (.tup (intsV ws)) ∧
  (way = 0 → Dn K H ld n a s (pPress s a ws) ("waiting", 1) Q) ∧ (way = 1 → Dn K H ld n a s (pSil s a ws) ("silenced", 0) Q) ∧ (way = 2 → Dn K H ld n a s (pRes s a ws) ("still", 0) Q) ∧
  (way ≠ 0 → way ≠ 1 → way ≠ 2 → ((∀ i, i < n → a i ≠ x) → ∀ H', Same H H' → Q (.str "address") H') ∧ ∀ i, i < n → a i = x →
    (¬ ((s i).1 = "waiting" ∧ inV (.int x) (intsV lo) = false) → ∀ H', Same H H' → Q (.str "hand") H') ∧
    ((s i).1 = "waiting" → inV (.int x) (intsV lo) = false → ∀ H', H' lg = some (.lst (intsV (lo ++ [x]))) → LdAt K H' ld n a (upF s i ("waiting", (s i).2 + dl i)) → SameX [ld, lg] H H' → Q (.int ((s i).2 + dl i)) H'))
section
variable {P : Program} {w : World} {K : PySem.W.Frag} {mg : Str → Option Value} {base : Heap} {C st so si : Addr}
theorem ok_hand (c : Code K mg "_law_hand" s_l_hand p_l_hand) (T : Tx K mg C st so si) : Good P w K mg base "_law_hand" 1 p_l_hand (spHand K) := by
  refine c.good sc_l_hand (fun vs H Q E h => ?_) (fun f cdv A outer s H vs Q E hr h => ?_)
  · obtain ⟨oa, ld, lg, wv, n, a, dl, s, lo, ws, way, x, rfl, _⟩ := h
    rfl
  obtain ⟨oa, ld, lg, wv, n, a, dl, s, lo, ws, way, x, rfl, ho, ap, few, hld, hlg, hll, hwv, q0, q1, q2, q3⟩ := h
  refine ⟨_, (pss_cons (ps_set (i := 6) sc_l_hand.nd rfl (Or.inl rfl) (pe_callTy (call_dictT rfl) rfl T.dict bt_dict (pa_cons (pv 0) pa_nil)))
  (pss_cons (ps_if (pt_cmpR op_eq (pv 4) pe_int (nomark _)) (pss_cons (ps_setC (i := 7) sc_l_hand.nd rfl (Or.inl rfl) (N' := ["_law_one", "_law_delay", "_law_states"]) rfl (CScope.of (src := [none, none, some 1]) (defScope s_l_hand) ["_law_outs_here", "_law_states", "_law_longer", "_law_wanted_here", "_law_way", "_law_address", "_law_delays", "_law_found", "_law_one"] rfl rfl rfl (by decide +kernel) (by decide +kernel) (by decide +kernel) rfl (by decide +kernel)) (pi_tup (pv 0)) (fun _ _ _ _ => (pg_tupK (K := K) (n := 2) rfl rfl (pgs_cons (pg_name (i := 0) (show List.Nodup (["_law_one", "_law_delay", "_law_states"] : List Str) by decide +kernel) rfl (Or.inl rfl)) (pgs_cons (pg_name (i := 1) (show List.Nodup (["_law_one", "_law_delay", "_law_states"] : List Str) by decide +kernel) rfl (Or.inl rfl)) pgs_nil)))) (fun _ _ _ _ => (pf_one (pt_cmpR op_eq (pe_ix (ix_tupK (K := K) rfl) (pe_dget (hu_of hr) (pv 2) (pv 0) (fun _ _ => rfl)) pe_int (fun _ _ => rfl)) pe_str (nomark _)))) (fun _ _ _ _ => (pv 0)))
  (pss_cons (ps_for PassesOwn.never rfl (pi_list (pv 7)) (pg_name (i := 8) sc_l_hand.nd rfl (Or.inl rfl))
  (pss_one (ps_dput (hu_of hr) (pv 1) (pv 8) (pe_tup (pa_cons pe_str (pa_cons pe_int pa_nil))) rfl)))
  (pss_one (ps_ret (pv 7))))) pss_nil)
  (pss_cons (ps_if (pt_cmpR op_eq (pv 4) pe_int (nomark _)) (pss_cons (ps_setC (i := 7) sc_l_hand.nd rfl (Or.inl rfl) (N' := ["_law_one", "_law_delay", "_law_states"]) rfl (CScope.of (src := [none, none, some 1]) (defScope s_l_hand) ["_law_outs_here", "_law_states", "_law_longer", "_law_wanted_here", "_law_way", "_law_address", "_law_delays", "_law_found", "_law_one"] rfl rfl rfl (by decide +kernel) (by decide +kernel) (by decide +kernel) rfl (by decide +kernel)) (pi_tup (pv 0)) (fun _ _ _ _ => (pg_tupK (K := K) (n := 2) rfl rfl (pgs_cons (pg_name (i := 0) (show List.Nodup (["_law_one", "_law_delay", "_law_states"] : List Str) by decide +kernel) rfl (Or.inl rfl)) (pgs_cons (pg_name (i := 1) (show List.Nodup (["_law_one", "_law_delay", "_law_states"] : List Str) by decide +kernel) rfl (Or.inl rfl)) pgs_nil)))) (fun _ _ _ _ => (pf_one (pt_cmpR op_eq (pe_ix (ix_tupK (K := K) rfl) (pe_dget (hu_of hr) (pv 2) (pv 0) (fun _ _ => rfl)) pe_int (fun _ _ => rfl)) pe_str (nomark _)))) (fun _ _ _ _ => (pv 0)))
  (pss_cons (ps_for PassesOwn.never rfl (pi_list (pv 7)) (pg_name (i := 8) sc_l_hand.nd rfl (Or.inl rfl))
  (pss_one (ps_dput (hu_of hr) (pv 1) (pv 8) (pe_tup (pa_cons pe_str (pa_cons pe_int pa_nil))) rfl)))
  (pss_one (ps_ret (pv 7))))) pss_nil)
  (pss_cons (ps_if (pt_cmpR op_eq (pv 4) pe_int (nomark _)) (pss_cons (ps_setC (i := 7) sc_l_hand.nd rfl (Or.inl rfl) (N' := ["_law_one", "_law_delay", "_law_wanted_here", "_law_states"]) rfl (CScope.of (src := [none, none, some 3, some 1]) (defScope s_l_hand) ["_law_outs_here", "_law_states", "_law_longer", "_law_wanted_here", "_law_way", "_law_address", "_law_delays", "_law_found", "_law_one"] rfl rfl rfl (by decide +kernel) (by decide +kernel) (by decide +kernel) rfl (by decide +kernel)) (pi_tup (pv 0)) (fun _ _ _ _ => (pg_tupK (K := K) (n := 2) rfl rfl (pgs_cons (pg_name (i := 0) (show List.Nodup (["_law_one", "_law_delay", "_law_wanted_here", "_law_states"] : List Str) by decide +kernel) rfl (Or.inl rfl)) (pgs_cons (pg_name (i := 1) (show List.Nodup (["_law_one", "_law_delay", "_law_wanted_here", "_law_states"] : List Str) by decide +kernel) rfl (Or.inl rfl)) pgs_nil)))) (fun _ _ _ _ => (pf_one (PW.pt (pw_and (pt_cmpR (op_in_seqK (K := K) rfl) (pe_ix (ix_tupK (K := K) rfl) (pe_dget (hu_of hr) (pv 3) (pv 0) (fun _ _ => rfl)) pe_int (fun _ _ => rfl)) (pe_tup (pa_cons pe_str (pa_cons pe_str pa_nil))) (by with_unfolding_all rfl)) (pw_and1 (pt_cmpR (op_notIn_seqK (K := K) rfl) (pv 0) (pv 2) (by with_unfolding_all rfl))))))) (fun _ _ _ _ => (pv 0)))
  (pss_cons (ps_for PassesOwn.never rfl (pi_list (pv 7)) (pg_name (i := 8) sc_l_hand.nd rfl (Or.inl rfl))
  (pss_one (ps_dput (hu_of hr) (pv 1) (pv 8) (pe_tup (pa_cons pe_str (pa_cons pe_int pa_nil))) rfl)))
  (pss_one (ps_ret (pv 7))))) pss_nil)
  (pss_cons (ps_if (pt_cmp (pc_dnotin (hu_of hr) (pv 5) (pv 6))) (pss_one (ps_ret pe_str)) pss_nil)
  (pss_cons (ps_if (PW.pt (pw_or (pt_cmpR op_ne (pe_ix ix_tup (pe_dget (hu_of hr) (pv 1) (pv 5) (fun _ _ => rfl)) pe_int (fun _ _ => rfl)) pe_str (nomark _)) (pw_or1 (pt_cmpR op_in_seq (pv 5) (pv 2) (by with_unfolding_all rfl))))) (pss_one (ps_ret pe_str)) pss_nil)
  (pss_cons (ps_expr (pe_bm PySem.F.plainAttrs_list PySem.F.slot_list_append PySem.F.type_list_append mt_append (pv 2) (pa_cons (pv 5) pa_nil)))
  (pss_cons (ps_dput (hu_of hr) (pv 1) (pv 5) (pe_tup (pa_cons pe_str (pa_cons (pe_op op_add (pe_ix ix_tup (pe_dget (hu_of hr) (pv 1) (pv 5) (fun _ _ => rfl)) pe_int (fun _ _ => rfl)) (pe_dget (hu_of hr) (pv 6) (pv 5) (fun _ _ => rfl))) pa_nil))) rfl)
  (pss_one (ps_ret (pe_ix ix_tup (pe_dget (hu_of hr) (pv 1) (pv 5) (fun _ _ => rfl)) pe_int (fun _ _ => rfl)))))))))))), ?_⟩
  obtain ⟨t, ⟨ob, hoa, htp⟩, hto⟩ := id ho
  refine ⟨_, rfl, oa, ob, _, dk n a (fun j => V.int (dl j)), rfl, hoa, htp, paired_rg fun j hj => ⟨t j, rfl, hto j hj⟩, dk_nd ap, by rw [dk_len]; omega, fun dd hdd => ?_⟩
  have k1 := same_new hdd (.dK (dk n a fun j => V.int (dl j)))
  have ud : (upd H dd (.dK (dk n a fun j => V.int (dl j)))) dd = some (.dK (dk n a fun j => V.int (dl j))) := upd_same
  have ho := ho.tups (TupF.of k1)
  have hlg := k1 _ _ hlg
  have hwv := k1 _ _ hwv
  obtain ⟨vl, el, hvl⟩ := id hld
  have nld : ld ≠ dd := ne_of_none el hdd
  have hld := hld.mv (fun o e => k1 _ _ e) (TupF.of k1)
  generalize upd H dd (.dK (dk n a fun j => V.int (dl j))) = H1 at k1 ud ho hlg hwv hld ⊢
  refine ⟨_, rfl, rfl, _, rfl, ite2 (fun c0 => ?_) (fun c0 => ?_)⟩
  · have e0 : way = 0 := V.int.inj (of_decide_eq_true c0)
    refine ⟨_, rfl, oa, rfl, ⟨_, ho.choose_spec.1.sq⟩, fun l hl => selComp ho ap few hld hl ?_⟩
    have k2 := same_new hl (.lst (intsV (sel n a (byW s ["waiting"]))))
    refine putLoop ap few upd_same (hld.mv (fun o e => k2 _ _ e) (TupF.of k2)) fun u H' h' s' => ?_
    refine ⟨_, rfl, q0 e0 l H' (k1.free hl) (s' _ _ upd_same fun z => by obtain ⟨v, z', _⟩ := hld; rw [z, z'] at hl; cases hl) h' ((SameB.of (k1.trans k2)).trans s')⟩
  refine ⟨_, rfl, rfl, _, rfl, ite2 (fun c1 => ?_) (fun c1 => ?_)⟩
  · have e0 : way = 1 := V.int.inj (of_decide_eq_true c1)
    refine ⟨_, rfl, oa, rfl, ⟨_, ho.choose_spec.1.sq⟩, fun l hl => selComp ho ap few hld hl ?_⟩
    have k2 := same_new hl (.lst (intsV (sel n a (byW s ["sounding"]))))
    refine putLoop ap few upd_same (hld.mv (fun o e => k2 _ _ e) (TupF.of k2)) fun u H' h' s' => ?_
    refine ⟨_, rfl, q1 e0 l H' (k1.free hl) (s' _ _ upd_same fun z => by obtain ⟨v, z', _⟩ := hld; rw [z, z'] at hl; cases hl) h' ((SameB.of (k1.trans k2)).trans s')⟩
  refine ⟨_, rfl, rfl, _, rfl, ite2 (fun c2 => ?_) (fun c2 => ?_)⟩
  · have e0 : way = 2 := V.int.inj (of_decide_eq_true c2)
    obtain ⟨t1, hoa1, hto1⟩ := id ho
    obtain ⟨v, e2, hv⟩ := id hld
    refine ⟨_, rfl, oa, rfl, ⟨_, hoa1.sq⟩, fun l hl => ?_⟩
    refine comp_tup (xs := (List.range n).map fun j => V.ref (t1 j)) (fun i σ HH => (∃ u w, σ = [u, w, some (.ref wv), some (.ref ld)]) ∧ HH l = some (.lst (intsV (sel i a (pRes s a ws)))) ∧ SameB l (upd H1 l (.lst [])) HH) ⟨⟨none, none, rfl⟩, upd_same, SameB.refl _ _⟩ (fun i σ HH _ h => ?_) (fun i y σ HH hx h => ?_) (fun σ HH h => ?_)
    · exact (hoa1.tups ((TupF.of (same_new hl (.lst []))).trans (h.2.2.tupF (ntOf upd_same)))).sq
    · obtain ⟨⟨u, w', rfl⟩, hl1, sm⟩ := h
      obtain ⟨hi, rfl⟩ := rg_get hx
      have t0 : TupF H1 HH := (TupF.of (same_new hl (.lst []))).trans (sm.tupF (ntOf upd_same))
      have e2H : HH ld = some (.dK (dk n a v)) := sm _ _ (same_new hl _ _ _ e2) (fun z => by rw [z, hl] at e2; cases e2)
      obtain ⟨ts, ets, hts⟩ := ((hv i hi).tups t0).sq
      refine ⟨t1 i, _, rfl, SqT.of (t0 _ _ (hto1 i hi)), rfl, _, _, rfl, _, _, rfl, rfl, ?_⟩
      refine ⟨_, rfl, _, rfl, ld, _, rfl, .inl ⟨_, .inl (a i), .inl e2H, rfl, (dk_val ap hi).symm⟩, ts, _, _, _, ets, rfl, hts, rfl, leSize (by show 2 ≤ 1000; decide), fun u2 hu2 => ?_⟩
      have ku := same_new hu2 (.tup [.str "sounding", .str "silenced"])
      refine ⟨u2, _, rfl, .inr (SqT.of upd_same), rfl, strsV_flat ["sounding", "silenced"], _, rfl, ifE (e := !inV (.int (a i)) (intsV ws)) (fun z => ⟨_, rfl, _, rfl, wv, _, rfl, .inr (SqT.of (ku _ _ (t0 _ _ hwv))), rfl, intsV_flat ws, _, rfl, z⟩) (fun c1 c2 => ?_) (fun c => ?_)⟩
      · have c3 : pRes s a ws i = true := by
          show (byW s ["sounding", "silenced"] i && !inV (.int (a i)) (intsV ws)) = true
          rw [c2, Bool.and_true]
          exact c1
        refine ⟨_, rfl, _, ku _ _ hl1, ?_, ⟨_, _, rfl⟩, ?_, sm.trans ((SameB.of ku).trans SameB.upd)⟩
        · have := sel_len i a (pRes s a ws)
          rw [intsV_len]; exact small1000 (by omega)
        · rw [upd_same, sel_succ, if_pos c3, ← intsV_snoc]
      · have c3 : ¬ pRes s a ws i = true := fun z => c (by
          have z : (byW s ["sounding", "silenced"] i && !inV (.int (a i)) (intsV ws)) = true := z
          exact (Bool.and_eq_true _ _).mp z)
        refine ⟨⟨_, _, rfl⟩, ?_, sm.trans (SameB.of ku)⟩
        rw [sel_succ, if_neg c3, List.append_nil]
        exact ku _ _ hl1
    obtain ⟨_, hl1, sm⟩ := h
    rw [List.length_map, List.length_range] at hl1
    have k2 : Same H1 HH := fun y o e => sm _ _ (same_new hl _ _ _ e) fun z => by rw [z, hl] at e; cases e
    refine putLoop ap few hl1 (hld.mv (fun o e => k2 _ _ e) (TupF.of k2)) fun u H' h' s' => ?_
    refine ⟨_, rfl, q2 e0 l H' (k1.free hl) (s' _ _ hl1 fun z => by rw [z, e2] at hl; cases hl) h' ((SameB.of (k1.trans k2)).trans s')⟩
  have w0 : way ≠ 0 := fun z => c0 (decide_eq_true (by rw [z]))
  have w1 : way ≠ 1 := fun z => c1 (decide_eq_true (by rw [z]))
  have w2 : way ≠ 2 := fun z => c2 (decide_eq_true (by rw [z]))
  obtain ⟨qA, qI⟩ := q3 w0 w1 w2
  by_cases hx : ∃ i, i < n ∧ a i = x
  · obtain ⟨i, hi, rfl⟩ := hx
    obtain ⟨qH, qQ⟩ := qI i hi rfl
    have gd : ∀ HA : Hp, HA dd = some (.dK (dk n a fun j => V.int (dl j))) → DGet HA dd (.int (a i)) (some (.int (dl i))) := fun HA z => .inl ⟨_, .inl (a i), .inl z, rfl, (dk_val (v := fun j => V.int (dl j)) ap hi).symm⟩
    refine ⟨_, rfl, _, rfl, dd, _, rfl, gd _ ud, _, rfl, iteF ?_⟩
    obtain ⟨v, e2, hv⟩ := id hld
    have gl : ∀ HA : Hp, HA ld = some (.dK (dk n a v)) → DGet HA ld (.int (a i)) (some (v i)) := fun HA z => .inl ⟨_, .inl (a i), .inl z, rfl, (dk_val ap hi).symm⟩
    obtain ⟨ts, ets, hts⟩ := (hv i hi).sq
    refine ⟨_, rfl, _, rfl, ld, _, rfl, gl _ e2, ts, _, _, _, ets, rfl, hts, rfl, rfl, _, rfl, ite2 (fun c => ?_) (fun c => ?_)⟩
    · refine iteT (qH (fun z => ?_) H1 k1)
      rw [z.1, decide_eq_true rfl] at c
      cases c
    have hw : (s i).1 = "waiting" := by
      have z : decide (V.str (s i).1 = V.str "waiting") = true := by
        cases e : decide (V.str (s i).1 = V.str "waiting") with
        | true => rfl
        | false => rw [e] at c; exact absurd rfl c
      exact dstr z
    refine ⟨_, rfl, _, rfl, lg, _, rfl, .inl (SqL.of hlg), rfl, intsV_flat lo, _, rfl, ite2 (fun c' => ?_) (fun c' => ?_)⟩
    · have c' : inV (.int (a i)) (intsV lo) = true := c'
      exact qH (fun z => by rw [z.2] at c'; cases c') H1 k1
    have hin : inV (.int (a i)) (intsV lo) = false := by
      have c' : ¬ inV (.int (a i)) (intsV lo) = true := c'
      exact Bool.eq_false_iff.mpr c'
    have nlg : lg ≠ ld := fun z => by rw [z, e2] at hlg; cases hlg
    have nlgd : lg ≠ dd := fun z => by rw [z, ud] at hlg; cases hlg
    refine ⟨_, rfl, .inl ⟨rfl, _, SqL.of hlg⟩, _, rfl, lg, _, _, rfl, rfl, hlg, by rw [intsV_len]; exact small1000 (by omega), ?_⟩
    rw [intsV_snoc]
    have k2 : SameB lg H1 (upd H1 lg (.lst (intsV (lo ++ [a i])))) := SameB.upd
    have ul : (upd H1 lg (.lst (intsV (lo ++ [a i])))) lg = some (.lst (intsV (lo ++ [a i]))) := upd_same
    have t2 : TupF H1 (upd H1 lg (.lst (intsV (lo ++ [a i])))) := TupF.upd (ntOf hlg)
    generalize upd H1 lg (.lst (intsV (lo ++ [a i]))) = H2 at k2 ul t2 ⊢
    have e2' := k2 _ _ e2 nlg.symm
    have ud' := k2 _ _ ud nlgd.symm
    obtain ⟨ts', ets', hts'⟩ := ((hv i hi).tups t2).sq
    refine ⟨_, rfl, _, rfl, ld, _, rfl, gl _ e2', ts', _, _, _, ets', rfl, hts', rfl, _, rfl, _, rfl, dd, _, rfl, gd _ ud', _, _, rfl, rfl, leSize (by show 2 ≤ 1000; decide), fun u hu => ?_⟩
    have ku := same_new hu (.tup [.str "waiting", .int ((s i).2 + dl i)])
    have uu : (upd H2 u (.tup [.str "waiting", .int ((s i).2 + dl i)])) u = some (.tup [.str "waiting", .int ((s i).2 + dl i)]) := upd_same
    generalize upd H2 u (.tup [.str "waiting", .int ((s i).2 + dl i)]) = H3 at ku uu ⊢
    have e3 := ku _ _ e2'
    refine ⟨_, rfl, _, rfl, ld, _, rfl, DPut.k (k := .inl (a i)) e3 (by rw [dk_len]; exact small1000 (by omega)), ?_⟩
    rw [dk_put ap hi]
    have k4 : SameB ld H3 (upd H3 ld (.dK (dk n a (upF v i (.ref u))))) := SameB.upd
    have u4 : (upd H3 ld (.dK (dk n a (upF v i (.ref u))))) ld = some (.dK (dk n a (upF v i (.ref u)))) := upd_same
    have t4 : TupF H3 (upd H3 ld (.dK (dk n a (upF v i (.ref u))))) := TupF.upd (ntOf e3)
    generalize upd H3 ld (.dK (dk n a (upF v i (.ref u)))) = H4 at k4 u4 t4 ⊢
    have eu : upF v i (.ref u) i = .ref u := by unfold upF; rw [if_pos rfl]
    refine ⟨_, rfl, _, rfl, ld, _, rfl, .inl ⟨_, .inl (a i), .inl u4, rfl, (dk_val ap hi).symm⟩, u, _, _, _, eu, rfl, SqT.of (t4 _ _ uu), rfl, ?_⟩
    refine qQ hw hin H4 (k4 _ _ (ku _ _ ul) nlg) ⟨_, u4, fun j hj => ?_⟩ ((((SameX.of k1).trans (SameX.ofB k2 (by simp))).trans (SameX.of ku)).trans (SameX.ofB k4 (by simp)))
    unfold upF
    by_cases e : j = i
    · rw [if_pos e, if_pos e]
      exact ⟨u, rfl, .inl (t4 _ _ uu)⟩
    · rw [if_neg e, if_neg e]
      exact (((hv j hj).tups t2).tups (TupF.of ku)).tups t4
  · have no : ∀ i, i < n → a i ≠ x := fun i hi e => hx ⟨i, hi, e⟩
    exact ⟨_, rfl, _, rfl, dd, _, rfl, .inl ⟨_, .inl x, .inl ud, rfl, (dk_none no).symm⟩, _, rfl, iteT (qA no H1 k1)⟩
end
end K31

set_option Elab.async false
set_option linter.all false
set_option maxRecDepth 100000
set_option pp.maxSteps 300
set_option maxHeartbeats 1000000
namespace K31
open PySem L2
abbrev s_l_hand_done : Stmt := top 33
abbrev p_l_hand_done : List Str := ["_law_sounder", "_law_way", "_law_address"]
theorem sc_l_hand_done : FnScope ["_law_sounder", "_law_way", "_law_address", "_law_e"] p_l_hand_done (defScope s_l_hand_done) := ⟨rfl, rfl, rfl, by decide +kernel, rfl, by decide +kernel, by decide +kernel⟩
abbrev s_l_is_told : Stmt := top 35
abbrev p_l_is_told : List Str := ["_law_told", "_law_due"]
theorem sc_l_is_told : FnScope ["_law_told", "_law_due", "_law_some"] p_l_is_told (defScope s_l_is_told) := ⟨rfl, rfl, rfl, by decide +kernel, rfl, by decide +kernel, by decide +kernel⟩
def DnP (C : Addr) (K : PySem.W.Frag) (H : Hp) (p d1 d2 d3 d4 wa : Addr) (n : Nat) (a dl : Nat → Int) (s : Nat → Sta) (g : Nat → Bool) (pj : Nat → Bool) (z : Sta) (Q : VK) : Prop := ∀ l H', H l = none → H' l = some (.lst (intsV (sel n a pj))) → SdR C K H' p d1 d2 d3 d4 wa n a dl (putS s pj z) g → SameB d2 H H' → Q (.ref l) H'
def spDone (C : Addr) (K : PySem.W.Frag) : Sp := fun vs H Q _ => ∃ p d1 d2 d3 d4 wa n a dl s g ws way x, vs = [.ref p, .int way, .int x] ∧ SdR C K H p d1 d2 d3 d4 wa n a dl s g ∧ H wa = some (.tup (intsV ws)) ∧
  (way = 0 → DnP C K H p d1 d2 d3 d4 wa n a dl s g (pPress s a ws) ("waiting", 1) Q) ∧ (way = 1 → DnP C K H p d1 d2 d3 d4 wa n a dl s g (pSil s a ws) ("silenced", 0) Q) ∧ (way = 2 → DnP C K H p d1 d2 d3 d4 wa n a dl s g (pRes s a ws) ("still", 0) Q) ∧
  (way ≠ 0 → way ≠ 1 → way ≠ 2 → ((∀ i, i < n → a i ≠ x) → ∀ H', Same H H' → Q (.str "address") H') ∧ ∀ i, i < n → a i = x →
    (¬ ((s i).1 = "waiting" ∧ g i = false) → ∀ H', Same H H' → Q (.str "hand") H') ∧
    ((s i).1 = "waiting" → g i = false → ∀ H', SdR C K H' p d1 d2 d3 d4 wa n a dl (upF s i (wt ((s i).2 + dl i))) (upF g i true) → SameX [d2, d3] H H' → Q (.int ((s i).2 + dl i)) H'))
/-- what is told and what is due are alike: a list of whole numbers, a number, a word -/
def Alike (H : Hp) (u v : V) : Prop := (∃ l1 l2 zs, u = .ref l1 ∧ v = .ref l2 ∧ H l1 = some (.lst (intsV zs)) ∧ H l2 = some (.lst (intsV zs)) ∧ zs.length ≤ 100) ∨ (∃ i, u = .int i ∧ v = .int i) ∨ ∃ y, u = .str y ∧ v = .str y ∧ PyData.strOk y = true
def spTold : Sp := fun vs H Q _ => ∃ u v, vs = [u, v] ∧ Alike H u v ∧ ∀ H', Same H H' → Q (.bl true) H'
theorem isi_no {K : PySem.W.Frag} {H : Hp} {x : V} {T : String} {t : Value} {Q : VK} (ty : TyOf K H x t) (k : PySem.W.kitOne K t (.type T) = some false) (q : Q (.bl false) H) : rIsi K [x, .ty T] H Q := by
  unfold rIsi
  exact ⟨_, _, _, _, rfl, ty, k, q⟩
def oneE (e : V) : Prop := (∃ i, e = .int i) ∨ ∃ y, e = .str y
theorem isb_no {K : PySem.W.Frag} {H : Hp} {e : V} {Q : VK} (h : oneE e) (q : Q (.bl false) H) : rIsi K [e, .ty "bool"] H Q := by
  rcases h with ⟨i, rfl⟩ | ⟨y, rfl⟩
  · exact isi_no (.int i) (by rfl) q
  · exact isi_no (.str y) (by rfl) q
theorem ints_reps {H : Hp} : ∀ zs : List Int, Reps H (intsV zs) (zs.map PyData.int)
  | [] => .nil
  | z :: r => .cons (.int z) (ints_reps r)
theorem ints_lay : ∀ zs : List Int, PyData.canLayAll0 (zs.map PyData.int) = true ∧ PyData.depthAll (zs.map PyData.int) ≤ 1
  | [] => ⟨rfl, by show 0 ≤ 1; decide⟩
  | b :: r => by
    have ih := ints_lay r
    refine ⟨?_, ?_⟩
    · show (true && PyData.canLayAll0 (r.map PyData.int)) = true
      rw [ih.1]; rfl
    · show max 0 (PyData.depthAll (r.map PyData.int)) ≤ 1
      exact Nat.max_le.mpr ⟨by decide, ih.2⟩
theorem ints_shaped (zs : List Int) : SeqAt.shaped (.list (zs.map PyData.int)) = true := by
  have h1 := ints_lay zs
  show (PyData.canLayAll0 (zs.map PyData.int) && decide (PyData.depthAll (zs.map PyData.int) + 1 ≤ 64)) = true
  rw [h1.1, Bool.true_and]
  exact decide_eq_true (by omega)
theorem Alike.rep {H : Hp} {u v : V} (h : Alike H u v) : ∃ d, Rep H u d ∧ Rep H v d ∧ SeqAt.shaped d = true := by
  rcases h with ⟨l1, l2, zs, rfl, rfl, h1, h2, _⟩ | ⟨i, rfl, rfl⟩ | ⟨y, rfl, rfl, hy⟩
  · exact ⟨_, .lst h1 (ints_reps zs), .lst h2 (ints_reps zs), ints_shaped zs⟩
  · exact ⟨_, .int i, .int i, by rfl⟩
  · refine ⟨_, .str y, .str y, ?_⟩
    show (PyData.strOk y && decide (0 ≤ 64)) = true
    rw [hy]; rfl
theorem Alike.same {H H' : Hp} {u v : V} (h : Alike H u v) (k : Same H H') : Alike H' u v := by
  rcases h with ⟨l1, l2, zs, e1, e2, h1, h2, h3⟩ | h | h
  · exact .inl ⟨l1, l2, zs, e1, e2, k _ _ h1, k _ _ h2, h3⟩
  · exact .inr (.inl h)
  · exact .inr (.inr h)
theorem rep_no (n : Nat) : inV (.bl false) (List.replicate n (V.bl true)) = false := by
  unfold inV
  rw [List.any_eq_false]
  intro x hx
  rw [List.eq_of_mem_replicate hx]
  decide
theorem rep_flat (n : Nat) : (List.replicate n (V.bl true)).all flatV = true := by
  rw [List.all_eq_true]
  intro x hx
  rw [List.eq_of_mem_replicate hx]
  rfl
section
variable {P : Program} {w : World} {K : PySem.W.Frag} {mg : Str → Option Value} {base : Heap} {C st so si : Addr}
theorem call_isiK {X : Cx} {K : PySem.W.Frag} (h : X.K = K) : CallR X (.builtin "isinstance") (rIsi K) := h ▸ call_isi
theorem told_tail {K : PySem.W.Frag} {H H1 : Hp} {u v : V} {l0 : Addr} {es : List V} {Q : VK} {D : Ends} (hD : D.rt = Q) (h0 : H1 l0 = some (.lst es)) (len : es.length ≤ 100) (one : ∀ e ∈ es, oneE e) (sH : Same H H1) (al : Alike H u v) (q : ∀ H', Same H H' → Q (.bl true) H') :
    tSeq (tIfS (tTest (tOp (rIn K false) (tC (V.bl false)) (tComp (iList K (tVar 2)) [none] (gName 0) (fun x H Q => Q true H) (tAndV (tCB rIsi2 (tCons (tVar 0) (tCons (tTup (tCons (tC (V.ty "int")) (tCons (tC (V.ty "str")) tNil))) tNil))) (tNotV (tCB (rIsi K) (tCons (tVar 0) (tCons (tC (V.ty "bool")) tNil)))))))) (tRet (tC (V.bl false))) tNext)
      (tRet (tOp (fun x y H Q => ∃ d e, Rep H x d ∧ Rep H y e ∧ SeqAt.shaped d = true ∧ SeqAt.shaped e = true ∧ Q (V.bl (d.eqv e)) H) (tVar 0) (tVar 1))) D [some u, some v, some (.ref l0)] H1 := by
  refine ⟨_, rfl, l0, rfl, ⟨_, SqL.of h0⟩, fun l hl => ?_⟩
  refine comp_list (xs := es) (fun i σ HH => (∃ u, σ = [u]) ∧ HH l = some (.lst (List.replicate i (V.bl true))) ∧ i ≤ es.length ∧ SameB l (upd H1 l (.lst [])) HH) ⟨⟨none, rfl⟩, upd_same, Nat.zero_le _, SameB.refl _ _⟩ (fun i σ HH _ h => SqL.of (h.2.2.2 _ _ (same_new hl _ _ _ h0) (fun z => by rw [z, hl] at h0; cases h0))) (fun i x σ HH hx h => ?_) (fun σ HH h => ?_)
  · obtain ⟨⟨u, rfl⟩, hl1, hi, sm⟩ := h
    have ho := one x (List.mem_of_getElem? hx)
    have hi' : i < es.length := (List.getElem?_eq_some_iff.mp hx).1
    show tAndV (tCB rIsi2 (tCons (tVar 0) (tCons (tTup (tCons (tC (V.ty "int")) (tCons (tC (V.ty "str")) tNil))) tNil))) (tNotV (tCB (rIsi K) (tCons (tVar 0) (tCons (tC (V.ty "bool")) tNil)))) _ _ _
    refine ⟨_, rfl, leSize (by show 2 ≤ 1000; decide), fun tp htp => ?_⟩
    have kt := same_new htp (.tup [.ty "int", .ty "str"])
    refine ⟨x, tp, rfl, upd_same, ho, _, rfl, iteT ⟨_, rfl, isb_no ho ⟨_, rfl, _, kt _ _ hl1, ?_, ⟨_, rfl⟩, ?_, hi', sm.trans ((SameB.of kt).trans SameB.upd)⟩⟩⟩
    · rw [List.length_replicate]; exact small1000 (by omega)
    · rw [upd_same, List.replicate_succ']
      rfl
  obtain ⟨_, hl1, _, sm⟩ := h
  have s2 : Same H HH := fun y o e => sm _ _ (same_new hl _ _ _ (sH _ _ e)) fun z => by rw [z, sH.free hl] at e; cases e
  refine ⟨l, _, rfl, .inl (SqL.of hl1), rfl, rep_flat _, _, rfl, ite2 (fun c => ?_) (fun _ => ?_)⟩
  · have c : inV (.bl false) (List.replicate es.length (V.bl true)) = true := c
    rw [rep_no] at c
    cases c
  obtain ⟨d, r1, r2, sh⟩ := (al.same s2).rep
  refine ⟨_, rfl, _, rfl, d, d, r1, r2, sh, sh, ?_⟩
  rw [SeqAt.eqv_refl _ (SeqAt.canLay_of_shaped sh), hD]
  exact q HH s2
theorem ok_told (c : Code K mg "_law_is_told" s_l_is_told p_l_is_told) (T : Tx K mg C st so si) : Good P w K mg base "_law_is_told" 1 p_l_is_told spTold := by
  refine c.good sc_l_is_told (fun vs H Q E h => ?_) (fun f cdv A outer s H vs Q E hr h => ?_)
  · obtain ⟨u, v, rfl, _⟩ := h
    rfl
  obtain ⟨u, v, rfl, al, q⟩ := h
  refine ⟨_, (pss_cons (ps_set (i := 2) sc_l_is_told.nd rfl (Or.inl rfl) (pe_ifExp (pt_val (pe_callB call_isi rfl T.isinstance bt_isinstance (pa_cons (pv 0) (pa_cons (pe_bltn (v := .ty "list") rfl T.list bt_list rfl) pa_nil)))) (pv 0) (pe_lst (pa_cons (pv 0) pa_nil))))
  (pss_cons (ps_if (pt_cmpR op_in_seq pe_bl (pe_comp (N' := ["_law_one"]) rfl (CScope.plain rfl (by decide +kernel) (by decide +kernel) (by decide +kernel)) (pi_list (pv 2)) (fun _ _ _ _ => (pg_name (i := 0) (show List.Nodup (["_law_one"] : List Str) by decide +kernel) rfl (Or.inl rfl))) (fun _ _ _ _ => pf_nil) (fun _ _ _ _ => (pe_and (pe_callB call_isi2 rfl T.isinstance bt_isinstance (pa_cons (pv 0) (pa_cons (pe_tup (pa_cons (pe_bltn (v := .ty "int") rfl T.int bt_int rfl) (pa_cons (pe_bltn (v := .ty "str") rfl T.str bt_str rfl) pa_nil))) pa_nil))) (pe_one (pe_not (pe_callB (call_isiK (K := K) rfl) rfl T.isinstance bt_isinstance (pa_cons (pv 0) (pa_cons (pe_bltn (v := .ty "bool") rfl T.bool bt_bool rfl) pa_nil)))))))) (by with_unfolding_all rfl)) (pss_one (ps_ret pe_bl)) pss_nil)
  (pss_one (ps_ret (pe_cmpR (op_eqD hr.units) (pv 0) (pv 1) (nomark _)))))), ?_⟩
  have al' := al
  rcases al with ⟨l1, l2, zs, rfl, rfl, h1, h2, hz⟩ | ⟨i, rfl, rfl⟩ | ⟨y, rfl, rfl, hy⟩
  · refine ⟨_, rfl, isi_list h1 ⟨_, rfl, iteT ⟨_, rfl, ?_⟩⟩⟩
    exact told_tail (K := K) rfl h1 (by rw [intsV_len]; exact hz) (fun e he => by
      obtain ⟨z, _, rfl⟩ := List.mem_map.mp he
      exact .inl ⟨z, rfl⟩) (Same.refl H) al' q
  · refine ⟨_, rfl, isi_no (.int i) (by rfl) ⟨_, rfl, iteF ⟨_, rfl, leSize (by show 1 ≤ 1000; decide), fun l0 hl0 => ?_⟩⟩⟩
    exact told_tail (K := K) rfl upd_same (by show 1 ≤ 100; decide) (fun e he => by
      have : e = .int i := by simpa using he
      exact .inl ⟨i, this⟩) (same_new hl0 _) al' q
  · refine ⟨_, rfl, isi_no (.str y) (by rfl) ⟨_, rfl, iteF ⟨_, rfl, leSize (by show 1 ≤ 1000; decide), fun l0 hl0 => ?_⟩⟩⟩
    exact told_tail (K := K) rfl upd_same (by show 1 ≤ 100; decide) (fun e he => by
      have : e = .str y := by simpa using he
      exact .inr ⟨y, this⟩) (same_new hl0 _) al' q
theorem ok_done {hc c0 c1 c2 c3 c4 c5 c6 c7 c8 c9 c10 c11 c12 : Addr} (c : Code K mg "_law_hand_done" s_l_hand_done p_l_hand_done) (T : Tx K mg C st so si) (XE : Er K mg hc c0 c1 c2 c3 c4 c5 c6 c7 c8 c9 c10 c11 c12) (k_NoAddress : Knd K hc c5 [c0, c1, c2, c3, c4, c5, c6, c7, c8, c9, c10, c11, c12] 5) (k_NoHand : Knd K hc c7 [c0, c1, c2, c3, c4, c5, c6, c7, c8, c9, c10, c11, c12] 7)
    (g_m_press : GoodM P w K mg base C "press" 2 p_Sounder_press (spDo C K pPress ("waiting", 1))) (g_m_silence : GoodM P w K mg base C "silence" 2 p_Sounder_silence (spDo C K pSil ("silenced", 0))) (g_m_reset : GoodM P w K mg base C "reset" 2 p_Sounder_reset (spDo C K pRes ("still", 0))) (g_m_lengthen : GoodMX P w K mg base C "lengthen" 3 p_Sounder_lengthen (spLen C c5 c7 K))
    (h_l_kind : GoodH P w K mg base "_law_kind" 1 p_l_kind (spKind K hc [c0, c1, c2, c3, c4, c5, c6, c7, c8, c9, c10, c11, c12])) : Good P w K mg base "_law_hand_done" 4 p_l_hand_done (spDone C K) := by
  refine c.good sc_l_hand_done (fun vs H Q E h => ?_) (fun f cdv A outer s H vs Q E hr h => ?_)
  · obtain ⟨p, d1, d2, d3, d4, wa, n, a, dl, s, g, ws, way, x, rfl, _⟩ := h
    rfl
  obtain ⟨p, d1, d2, d3, d4, wa, n, a, dl, s, g, ws, way, x, rfl, R, hwa, q0, q1, q2, q3⟩ := h
  refine ⟨_, (pss_one (ps_try (i := 3) sc_l_hand_done.nd rfl rfl rfl rfl rfl XE.nHouseError XE.xHouseError (fun pn E1 EX hx => (pss_cons (ps_if (pt_cmpR op_eq (pv 1) pe_int (nomark _)) (pss_one (ps_ret (pmeth0 (pv 0) T.cl g_m_press hr))) pss_nil)
  (pss_cons (ps_if (pt_cmpR op_eq (pv 1) pe_int (nomark _)) (pss_one (ps_ret (pmeth0 (pv 0) T.cl g_m_silence hr))) pss_nil)
  (pss_cons (ps_if (pt_cmpR op_eq (pv 1) pe_int (nomark _)) (pss_one (ps_ret (pmeth0 (pv 0) T.cl g_m_reset hr))) pss_nil)
  (pss_one (ps_ret (pmethX (pv 0) T.cl g_m_lengthen hr hx (pa_cons (pv 2) pa_nil))))))))
  (fun pn ea => (pss_one (ps_ret (pcallH h_l_kind (hr.inH _) (pa_cons (pv 3) pa_nil))))))), ?_⟩
  obtain ⟨dx, hp⟩ := R.ins
  refine ⟨_, rfl, rfl, _, rfl, ite2 (fun c0 => ?_) (fun c0 => ?_)⟩
  · exact ⟨_, rfl, p, dx, _, rfl, hp, fno (by decide +kernel), p, d1, d2, d3, d4, wa, n, a, dl, s, g, ws, rfl, R, hwa, q0 (V.int.inj (of_decide_eq_true c0))⟩
  refine ⟨_, rfl, rfl, _, rfl, ite2 (fun c1 => ?_) (fun c1 => ?_)⟩
  · exact ⟨_, rfl, p, dx, _, rfl, hp, fno (by decide +kernel), p, d1, d2, d3, d4, wa, n, a, dl, s, g, ws, rfl, R, hwa, q1 (V.int.inj (of_decide_eq_true c1))⟩
  refine ⟨_, rfl, rfl, _, rfl, ite2 (fun c2 => ?_) (fun c2 => ?_)⟩
  · exact ⟨_, rfl, p, dx, _, rfl, hp, fno (by decide +kernel), p, d1, d2, d3, d4, wa, n, a, dl, s, g, ws, rfl, R, hwa, q2 (V.int.inj (of_decide_eq_true c2))⟩
  have w0 : way ≠ 0 := fun z => c0 (decide_eq_true (by rw [z]))
  have w1 : way ≠ 1 := fun z => c1 (decide_eq_true (by rw [z]))
  have w2 : way ≠ 2 := fun z => c2 (decide_eq_true (by rw [z]))
  obtain ⟨qA, qI⟩ := q3 w0 w1 w2
  refine ⟨_, rfl, p, dx, _, rfl, hp, fno (by decide +kernel), _, rfl, p, d1, d2, d3, d4, wa, n, a, dl, s, g, x, rfl, R, (fun no H' s' => ?_), fun i hi e => ⟨fun nh H' s' => ?_, fun hw hg H' R' x' => (qI i hi e).2 hw hg H' R' x'⟩⟩
  · refine ⟨_, rfl, k_NoAddress.xc, k_NoAddress.sub, fun e he => ?_⟩
    exact ⟨_, rfl, e, _, 5, rfl, upd_same, k_NoAddress, by decide, fun HB sB => qA no HB (s'.trans ((same_new he _).trans sB))⟩
  · refine ⟨_, rfl, k_NoHand.xc, k_NoHand.sub, fun e' he => ?_⟩
    exact ⟨_, rfl, e', _, 7, rfl, upd_same, k_NoHand, by decide, fun HB sB => (qI i hi e).1 nh HB (s'.trans ((same_new he _).trans sB))⟩
end
end K31

set_option Elab.async false
set_option linter.all false
set_option maxRecDepth 100000
set_option pp.maxSteps 300
set_option maxHeartbeats 2000000
namespace K31
open PySem L2
theorem Bg.mono {C : Addr} {K : PySem.W.Frag} {H HH : Hp} {b oa p ld d1 d2 d3 d4 wa : Addr} {n kk k' : Nat} {a dl : Nat → Int} {s sl : Nat → Sta} {g : Nat → Bool} {ws : List Int} (B : Bg C K H HH b oa p ld d1 d2 d3 d4 wa n kk a dl s sl g ws) (h : kk ≤ k') : Bg C K H HH b oa p ld d1 d2 d3 d4 wa n k' a dl s sl g ws :=
  { B with bag := B.bag.mono h }
def stl : Nat → Sta := fun _ => ("still", 0)
theorem ok_stl (j : Nat) : okW (stl j) := by show PyData.strOk "still" = true; decide +kernel
theorem ok_nxt {a dl : Nat → Int} {ws ws' : List Int} {s : Nat → Sta} {n : Nat} (h : ∀ j, j < n → okW (s j)) : ∀ j, j < n → okW (nxt a dl ws ws' s j) := fun j hj => ok_nx (h j hj)
/-- a waiting out has beats left -/
def posW (n : Nat) (s : Nat → Sta) : Prop := ∀ j, j < n → (s j).1 = "waiting" → 0 < (s j).2
theorem pos_wt (l : Int) : (wt l).1 = "waiting" → 0 < (wt l).2 := by
  unfold wt
  split
  · intro _; assumption
  · intro h; exact absurd h (by decide +kernel)
theorem pos_nx {dl : Int} {w m : Bool} {s : Sta} (h : s.1 = "waiting" → 0 < s.2) : (nx dl w m s).1 = "waiting" → 0 < (nx dl w m s).2 := by
  unfold nx
  split
  · intro h; exact absurd h (by decide +kernel)
  · split
    · exact pos_wt _
    · split
      · split
        · exact pos_wt _
        · intro h; exact absurd h (by decide +kernel)
      · exact h
/-- the lengthened ones that the law holds -/
def LgOk (n : Nat) (a : Nat → Int) (s : Nat → Sta) (g : Nat → Bool) (lo : List Int) : Prop := ∀ x, x ∈ lo ↔ ∃ j, j < n ∧ a j = x ∧ (s j).1 = "waiting" ∧ g j = true
theorem inV_mem (x : Int) (lo : List Int) : inV (.int x) (intsV lo) = true ↔ x ∈ lo := by
  unfold inV intsV
  rw [List.any_map, List.any_eq_true]
  constructor
  · rintro ⟨y, hy, e⟩
    have e : (y == x) = true := e
    rw [← eq_of_beq e]
    exact hy
  · intro h
    exact ⟨x, h, show (x == x) = true from beq_self_eq_true x⟩
def isWt (n : Nat) (a : Nat → Int) (s : Nat → Sta) (x : Int) : Bool := (List.range n).any fun j => decide (a j = x ∧ (s j).1 = "waiting")
theorem isWt_at {n j : Nat} {a : Nat → Int} {s : Nat → Sta} (ap : Apart n a) (hj : j < n) : isWt n a s (a j) = decide (V.str (s j).1 = V.str "waiting") := by
  unfold isWt
  by_cases e : (s j).1 = "waiting"
  · rw [decide_eq_true (by rw [e]), List.any_eq_true]
    exact ⟨j, List.mem_range.mpr hj, decide_eq_true ⟨rfl, e⟩⟩
  · rw [decide_eq_false (fun z => e (V.str.inj z)), List.any_eq_false]
    intro i hi
    rw [decide_eq_true_eq]
    rintro ⟨z1, z2⟩
    exact e (by rw [← ap i j (List.mem_range.mp hi) hj z1]; exact z2)
/-- [one for one in longer if states[one][0] == "waiting"] -/
theorem lgComp {K : PySem.W.Frag} {H : Hp} {ld lg l : Addr} {n : Nat} {a : Nat → Int} {s : Nat → Sta} {lo : List Int} {Q : VK} (ap : Apart n a) (hld : LdAt K H ld n a s) (hlg : H lg = some (.lst (intsV lo))) (hlen : lo.length ≤ 500) (hin : ∀ x ∈ lo, ∃ j, j < n ∧ a j = x) (hl : H l = none)
    (q : Q (.ref l) (upd H l (.lst (intsV (lo.filter (isWt n a s)))))) :
    CWant (Itl K lg) (gName 0) (tTest (tOp rEq (tOp (rIxT K) (tDGet (tVar 1) (tVar 0)) (tC (.int 0))) (tC (.str "waiting")))) (tVar 0) Q [none, some (.ref ld)] (upd H l (.lst [])) l := by
  obtain ⟨v, e2, hv⟩ := hld
  refine comp_list (xs := intsV lo) (fun i σ HH => (∃ u, σ = [u, some (.ref ld)]) ∧ HH = upd H l (.lst (intsV ((lo.take i).filter (isWt n a s))))) ⟨⟨none, rfl⟩, rfl⟩ (fun i σ HH _ h => ?_) (fun i y σ HH hx h => ?_) (fun σ HH h => ?_)
  · rw [h.2]; exact SqL.of (same_new hl _ _ _ hlg)
  · obtain ⟨⟨u, rfl⟩, rfl⟩ := h
    unfold intsV at hx
    rw [List.getElem?_map] at hx
    obtain ⟨x, hy, rfl⟩ := Option.map_eq_some_iff.mp hx
    obtain ⟨j, hj, rfl⟩ := hin x (List.mem_of_getElem? hy)
    have kl := fun o => same_new hl o
    obtain ⟨ts, ets, hts⟩ := ((hv j hj).tups (TupF.of (kl (.lst (intsV ((lo.take i).filter (isWt n a s))))))).sq
    refine ⟨_, rfl, _, rfl, ld, _, rfl, .inl ⟨_, .inl (a j), .inl (kl _ _ _ e2), rfl, (dk_val ap hj).symm⟩, ts, _, _, _, ets, rfl, hts, rfl, rfl, _, rfl, ite2 (fun c1 => ?_) (fun c1 => ?_)⟩
    · have c1 : isWt n a s (a j) = true := by rw [isWt_at ap hj]; exact c1
      refine ⟨_, rfl, _, upd_same, ?_, ⟨_, rfl⟩, ?_⟩
      · have z1 := List.length_filter_le (isWt n a s) (lo.take i)
        rw [List.length_take] at z1
        rw [intsV_len]; exact small1000 (by omega)
      · rw [upd_upd, List.take_add_one, hy, List.filter_append, ← intsV_append]
        congr 3
        show _ = intsV (List.filter _ [a j])
        rw [List.filter_cons_of_pos (p := isWt n a s) c1]
        rfl
    · have c1 : ¬ isWt n a s (a j) = true := by rw [isWt_at ap hj]; exact c1
      refine ⟨⟨_, rfl⟩, ?_⟩
      rw [List.take_add_one, hy, List.filter_append]
      show _ = upd H l (.lst (intsV (_ ++ List.filter _ [a j])))
      rw [List.filter_cons_of_neg (p := isWt n a s) c1]
      show _ = upd H l (.lst (intsV (_ ++ [])))
      rw [List.append_nil]
  · obtain ⟨_, rfl⟩ := h
    rw [intsV_len, List.take_length]
    exact q
theorem isWt_iff {n : Nat} {a : Nat → Int} {s : Nat → Sta} {x : Int} : isWt n a s x = true ↔ ∃ j, j < n ∧ a j = x ∧ (s j).1 = "waiting" := by
  unfold isWt
  rw [List.any_eq_true]
  constructor
  · rintro ⟨j, hj, e⟩
    have e := of_decide_eq_true e
    exact ⟨j, List.mem_range.mp hj, e.1, e.2⟩
  · rintro ⟨j, hj, e1, e2⟩
    exact ⟨j, List.mem_range.mpr hj, decide_eq_true ⟨e1, e2⟩⟩
theorem lg_beat {n : Nat} {a dl : Nat → Int} {ws ws' : List Int} {s : Nat → Sta} {g : Nat → Bool} {lo : List Int} (ap : Apart n a) (h : LgOk n a s g lo) : LgOk n a (nxt a dl ws ws' s) (nxg a ws' s g) ((lo.filter (isWt n a s)).filter (isWt n a (nxt a dl ws ws' s))) := fun x => by
  rw [List.mem_filter, List.mem_filter, h x, isWt_iff, isWt_iff]
  constructor
  · rintro ⟨⟨⟨j, hj, e, w1, w2⟩, _⟩, ⟨j', hj', e', w'⟩⟩
    have : j' = j := ap j' j hj' hj (e'.trans e.symm)
    subst this
    refine ⟨j', hj, e, w', ?_⟩
    unfold nxg
    rw [if_neg (fun z => by rw [w1] at z; exact absurd z.1 (by decide +kernel))]
    exact w2
  · rintro ⟨j, hj, e, w', gg⟩
    have ns : ¬ ((s j).1 = "still" ∧ inV (.int (a j)) (intsV ws') = true) := fun z => by
      unfold nxg at gg
      rw [if_pos z] at gg
      cases gg
    have g1 : g j = true := by
      unfold nxg at gg
      rw [if_neg ns] at gg
      exact gg
    have w1 : (s j).1 = "waiting" := by
      unfold nxt nx at w'
      by_cases c1 : (s j).1 = "silenced" ∧ hasNew ws ws' = true
      · rw [if_pos c1] at w'; exact absurd w' (by decide +kernel)
      · rw [if_neg c1, if_neg ns] at w'
        by_cases c2 : (s j).1 = "waiting"
        · exact c2
        · rw [if_neg c2] at w'; exact w'
    exact ⟨⟨⟨j, hj, e, w1, g1⟩, ⟨j, hj, e, w1⟩⟩, ⟨j, hj, e, w'⟩⟩
theorem putS_w {n : Nat} {s : Nat → Sta} {p : Nat → Bool} {z : Sta} (h : ∀ j, j < n → okW (s j)) (hz : okW z) : ∀ j, j < n → okW (putS s p z j) := fun j hj => by
  unfold putS
  split
  · exact hz
  · exact h j hj
theorem putS_pos {n : Nat} {s : Nat → Sta} {p : Nat → Bool} {z : Sta} (h : posW n s) (hz : z.1 = "waiting" → 0 < z.2) : posW n (putS s p z) := fun j hj => by
  unfold putS
  split
  · exact hz
  · exact h j hj
theorem byW_iff {s : Nat → Sta} {x : Str} {j : Nat} : byW s [x] j = true ↔ (s j).1 = x := by
  rw [byW1, decide_eq_true_eq]
  constructor
  · exact V.str.inj
  · intro e; rw [e]
/-- a deed that lets none that waits, and none else, wait -/
theorem lg_put {n : Nat} {a : Nat → Int} {s : Nat → Sta} {g : Nat → Bool} {lo : List Int} {p : Nat → Bool} {z : Sta} (h : LgOk n a s g lo) (hp : ∀ j, j < n → p j = true → ((s j).1 = "waiting" ↔ z.1 = "waiting")) : LgOk n a (putS s p z) g lo := fun x => by
  rw [h x]
  have e : ∀ j, j < n → ((putS s p z j).1 = "waiting" ↔ (s j).1 = "waiting") := fun j hj => by
    unfold putS
    by_cases c : p j = true
    · rw [if_pos c]; exact (hp j hj c).symm
    · rw [if_neg c]
  constructor
  · rintro ⟨j, hj, e1, e2, e3⟩; exact ⟨j, hj, e1, (e j hj).mpr e2, e3⟩
  · rintro ⟨j, hj, e1, e2, e3⟩; exact ⟨j, hj, e1, (e j hj).mp e2, e3⟩
theorem lg_len {n i : Nat} {a : Nat → Int} {s : Nat → Sta} {g : Nat → Bool} {lo : List Int} {y : Int} (ap : Apart n a) (hi : i < n) (h : LgOk n a s g lo) (hw : (s i).1 = "waiting") : LgOk n a (upF s i ("waiting", y)) (upF g i true) (lo ++ [a i]) := fun x => by
  rw [List.mem_append, h x, List.mem_singleton]
  unfold upF
  constructor
  · rintro (⟨j, hj, e1, e2, e3⟩ | rfl)
    · refine ⟨j, hj, e1, ?_, ?_⟩
      · split
        · rfl
        · exact e2
      · split
        · rfl
        · exact e3
    · exact ⟨i, hi, rfl, by rw [if_pos rfl], by rw [if_pos rfl]⟩
  · rintro ⟨j, hj, e1, e2, e3⟩
    by_cases e : j = i
    · exact .inr (by rw [← e1, e])
    · rw [if_neg e] at e2 e3
      exact .inl ⟨j, hj, e1, e2, e3⟩
section
variable {P : Program} {w : World} {K : PySem.W.Frag} {mg : Str → Option Value} {base : Heap} {C st so si : Addr}
end
end K31

set_option Elab.async false
set_option linter.all false
set_option maxRecDepth 100000
set_option pp.maxSteps 300
set_option maxHeartbeats 2000000
namespace K31
open PySem L2
/-- a turn's beginning -/
def Tn (C : Addr) (K : PySem.W.Frag) (H : Hp) (sa b oa p ld d1 d2 d3 : Addr) (kv : V) (often : Int) (n : Nat) (a dl : Nat → Int) (i : Nat) (σ : St) (HH : Hp) : Prop := ∃ (d4 wa lg wv : Addr) (u9 u10 u11 u12 u13 u14 : Option V) (s : Nat → Sta) (g : Nat → Bool) (ws lo : List Int),
  σ = [some (.ref sa), some kv, some (.ref b), some (.ref oa), some (.ref p), some (.ref ld), some (.ref lg), some (.ref wv), some (.int often), u9, u10, u11, u12, u13, u14] ∧ Bg C K H HH b oa p ld d1 d2 d3 d4 wa n (67 + i * 40) a dl s s g ws ∧ HH wv = some (.tup (intsV ws)) ∧ (∀ j, j < n → okW (s j)) ∧ posW n s ∧ HH lg = some (.lst (intsV lo)) ∧ lo.length ≤ i ∧ LgOk n a s g lo ∧ H lg = none ∧ lg ≠ b
theorem turn_fin {C : Addr} {K : PySem.W.Frag} {H HF : Hp} {sa b oa p ld d1 d2 d3 d4 wa lg wv : Addr} {kv : V} {often : Int} {n i : Nat} {a dl : Nat → Int} {u9 u10 u11 u12 u13 u14 : Option V} {s : Nat → Sta} {g : Nat → Bool} {ws lo : List Int} {DD : Ends} (hD : DD.nx = Tn C K H sa b oa p ld d1 d2 d3 kv often n a dl (i + 1))
    (B : Bg C K H HF b oa p ld d1 d2 d3 d4 wa n (67 + (i + 1) * 40) a dl s s g ws) (hwv : HF wv = some (.tup (intsV ws))) (okw : ∀ j, j < n → okW (s j)) (ps : posW n s) (hlg : HF lg = some (.lst (intsV lo))) (ll : lo.length ≤ i + 1) (lk : LgOk n a s g lo) (fg : H lg = none) (nb : lg ≠ b) :
    tIfS (tNot (tB (tCall (spStand C K) [] E0 (tCons (tVar 4) (tCons (tVar 3) (tCons (tVar 5) tNil)))))) (tRet (tC (.bl false))) tNext DD [some (.ref sa), some kv, some (.ref b), some (.ref oa), some (.ref p), some (.ref ld), some (.ref lg), some (.ref wv), some (.int often), u9, u10, u11, u12, u13, u14] HF := by
  refine ⟨_, rfl, _, rfl, _, rfl, p, oa, ld, d1, d2, d3, d4, wa, n, a, dl, _, _, rfl, B.sd.r, B.outs, B.ldt, okw, ⟨_, rfl, iteF ?_⟩⟩
  show DD.nx _ _
  rw [hD]
  exact ⟨d4, wa, lg, wv, _, _, _, _, _, _, s, g, ws, lo, rfl, B, hwv, okw, ps, hlg, ll, lk, fg, nb⟩
theorem ok_put0 {s : Nat → Sta} {n i : Nat} {y : Int} (h : ∀ j, j < n → okW (s j)) : ∀ j, j < n → okW (upF s i ("waiting", y) j) := fun j hj => by
  unfold upF
  split
  · show PyData.strOk "waiting" = true; decide +kernel
  · exact h j hj
theorem wt_pos {l : Int} (h : 0 < l) : wt l = (("waiting" : Str), l) := if_pos h
/-- a deed by hand -/
theorem turn_hand {C : Addr} {K : PySem.W.Frag} {H H1 : Hp} {sa b oa p ld d1 d2 d3 d4 wa lg wv : Addr} {kv : V} {often : Int} {n i : Nat} {a dl : Nat → Int} {u9 u10 u11 u12 : Option V} {way x : Int} {s : Nat → Sta} {g : Nat → Bool} {ws lo : List Int} {D1 : Ends} (ap : Apart n a) (dl0 : ∀ j, j < n → 0 ≤ dl j)
    (fin : ∀ (HF : Hp) (u11 : Option V) (s : Nat → Sta) (g : Nat → Bool) (lo : List Int), Bg C K H HF b oa p ld d1 d2 d3 d4 wa n (67 + (i + 1) * 40) a dl s s g ws → HF wv = some (.tup (intsV ws)) → (∀ j, j < n → okW (s j)) → posW n s → HF lg = some (.lst (intsV lo)) → lo.length ≤ i + 1 → LgOk n a s g lo → D1.nx [some (.ref sa), some kv, some (.ref b), some (.ref oa), some (.ref p), some (.ref ld), some (.ref lg), some (.ref wv), some (.int often), u9, u10, u11, u12, some (.int way), some (.int x)] HF)
    (B : Bg C K H H1 b oa p ld d1 d2 d3 d4 wa n (67 + (i + 1) * 40) a dl s s g ws) (hwv : H1 wv = some (.tup (intsV ws))) (okw : ∀ j, j < n → okW (s j)) (ps : posW n s) (hlg : H1 lg = some (.lst (intsV lo))) (ll : lo.length ≤ i) (hi : i < 80) (lk : LgOk n a s g lo) (fg : H lg = none) (nb : lg ≠ b) :
    tSeq (tAsg (tCall (spHand K) [] E0 (tCons (tVar 3) (tCons (tVar 5) (tCons (tVar 6) (tCons (tVar 7) (tCons (tVar 13) (tCons (tVar 14) tNil))))))) (gName 11))
      (tIfS (tNot (tB (tCall spTold [] E0 (tCons (tCall (spDone C K) [] E0 (tCons (tVar 4) (tCons (tVar 13) (tCons (tVar 14) tNil)))) (tCons (tVar 11) tNil))))) (tRet (tC (.bl false))) tNext) D1 [some (.ref sa), some kv, some (.ref b), some (.ref oa), some (.ref p), some (.ref ld), some (.ref lg), some (.ref wv), some (.int often), u9, u10, u11, u12, some (.int way), some (.int x)] H1 := by
  have few := B.few
  -- deeds on many
  have step : ∀ (pj : Nat → Bool) (z : Sta), okW z → (z.1 = "waiting" → 0 < z.2) → (∀ j, j < n → pj j = true → ((s j).1 = "waiting" ↔ z.1 = "waiting")) → ∀ (l : Addr) (H2 : Hp), H1 l = none → H2 l = some (.lst (intsV (sel n a pj))) → LdAt K H2 ld n a (putS s pj z) → SameB ld H1 H2 → ∀ (l' : Addr) (H3 : Hp), H2 l' = none → H3 l' = some (.lst (intsV (sel n a pj))) → SdR C K H3 p d1 d2 d3 d4 wa n a dl (putS s pj z) g → SameB d2 H2 H3 →
      Alike H3 (.ref l') (.ref l) ∧ ∀ H4, Same H3 H4 → D1.nx [some (.ref sa), some kv, some (.ref b), some (.ref oa), some (.ref p), some (.ref ld), some (.ref lg), some (.ref wv), some (.int often), u9, u10, some (.ref l), u12, some (.int way), some (.int x)] H4 := by
    intro pj z okz pz iz l H2 fl hl2 ld2 s2 l' H3 fl' hl3 R3 s3
    have B2 := B.law s2 ld2
    obtain ⟨_, _, _, ⟨q4, e4⟩, _, _, q7, e7⟩ := B.kinds
    obtain ⟨_, _, _, ⟨q4', e4'⟩, _, _, q7', e7'⟩ := B2.kinds
    have t3 : TupF H2 H3 := s3.tupF (ntOf e4')
    have lgne : lg ≠ ld := fun w => by rw [w, e7] at hlg; cases hlg
    have lg2 := s2 _ _ hlg lgne
    have lg3 := s3 _ _ lg2 (fun w => by rw [w, e4'] at lg2; cases lg2)
    have hl3' := s3 _ _ hl2 (fun w => by rw [w, e4'] at hl2; cases hl2)
    have t2 : TupF H1 H2 := s2.tupF (ntOf e7)
    have wv3 := t3 _ _ (t2 _ _ hwv)
    have S3 : Sd C K H3 p d1 d2 d3 d4 wa n a dl (putS s pj z) g ws := ⟨R3, s3 _ _ B2.sd.del B2.sd.r.n12, s3 _ _ B2.sd.un B2.sd.n42, t3 _ _ B2.sd.wan, B2.sd.n41, B2.sd.n42, B2.sd.n43⟩
    have B3 : Bg C K H H3 b oa p ld d1 d2 d3 d4 wa n (67 + (i + 1) * 40) a dl (putS s pj z) (putS s pj z) g ws := by
      refine { B2 with sm := fun y o e => s3 _ _ (B2.sm _ _ e) (fun w => by have f := B2.f2; rw [← w, e] at f; cases f), bag := B2.bag.sameB s3 (fun w => by obtain ⟨q1, e1⟩ := B2.kinds.1; rw [w, e4'] at e1; cases e1), outs := B2.outs.tups t3, sd := S3, ldt := B2.ldt.mv (fun o e => s3 _ _ e B2.l2) t3 }
    refine ⟨.inl ⟨l', l, _, rfl, rfl, hl3, hl3', by have := sel_len n a pj; omega⟩, fun H4 s4 => ?_⟩
    exact fin H4 _ _ g lo (B3.grow s4) (s4 _ _ wv3) (putS_w okw okz) (putS_pos ps pz) (s4 _ _ lg3) (by omega) (lg_put lk iz)
  refine ⟨_, rfl, _, rfl, _, rfl, _, rfl, _, rfl, _, rfl, oa, ld, lg, wv, n, a, dl, s, lo, ws, way, x, rfl, B.outs, ap, by omega, B.ldt, hlg, by omega, hwv, (fun w0 l H2 fl hl2 ld2 s2 => ?_), (fun w1 l H2 fl hl2 ld2 s2 => ?_), (fun w2 l H2 fl hl2 ld2 s2 => ?_), (fun w0 w1 w2 => ⟨fun no H2 s2 => ?_, fun j hj e => ⟨fun nh H2 s2 => ?_, fun hw hin H2 lg2 ld2 x2 => ?_⟩⟩)⟩
  · have B2 := B.law s2 ld2
    refine ⟨_, rfl, _, rfl, _, rfl, p, d1, d2, d3, d4, wa, n, a, dl, s, g, ws, way, x, rfl, B2.sd.r, B2.sd.wan, (fun _ l' H3 fl' hl3 R3 s3 => ?_), (fun z => absurd (w0.symm.trans z) (by decide)), (fun z => absurd (w0.symm.trans z) (by decide)), (fun z => absurd w0 z)⟩
    obtain ⟨al, go⟩ := step (pPress s a ws) ("waiting", 1) (by show PyData.strOk "waiting" = true; decide +kernel) (fun _ => by decide) (fun j _ pj => ⟨fun _ => rfl, fun _ => byW_iff.mp pj⟩) l H2 fl hl2 ld2 s2 l' H3 fl' hl3 R3 s3
    exact ⟨_, rfl, _, _, rfl, al, fun H4 s4 => ⟨_, rfl, iteF (go H4 s4)⟩⟩
  · have B2 := B.law s2 ld2
    refine ⟨_, rfl, _, rfl, _, rfl, p, d1, d2, d3, d4, wa, n, a, dl, s, g, ws, way, x, rfl, B2.sd.r, B2.sd.wan, (fun z => absurd (w1.symm.trans z) (by decide)), (fun _ l' H3 fl' hl3 R3 s3 => ?_), (fun z => absurd (w1.symm.trans z) (by decide)), (fun _ z => absurd w1 z)⟩
    obtain ⟨al, go⟩ := step (pSil s a ws) ("silenced", 0) (by show PyData.strOk "silenced" = true; decide +kernel) (fun z => absurd z (by decide +kernel)) (fun j _ pj => ⟨fun z => by have := byW_iff.mp pj; rw [z] at this; exact absurd this (by decide +kernel), fun z => absurd z (by decide +kernel)⟩) l H2 fl hl2 ld2 s2 l' H3 fl' hl3 R3 s3
    exact ⟨_, rfl, _, _, rfl, al, fun H4 s4 => ⟨_, rfl, iteF (go H4 s4)⟩⟩
  · have B2 := B.law s2 ld2
    refine ⟨_, rfl, _, rfl, _, rfl, p, d1, d2, d3, d4, wa, n, a, dl, s, g, ws, way, x, rfl, B2.sd.r, B2.sd.wan, (fun z => absurd (w2.symm.trans z) (by decide)), (fun z => absurd (w2.symm.trans z) (by decide)), (fun _ l' H3 fl' hl3 R3 s3 => ?_), (fun _ _ z => absurd w2 z)⟩
    obtain ⟨al, go⟩ := step (pRes s a ws) ("still", 0) (by show PyData.strOk "still" = true; decide +kernel) (fun z => absurd z (by decide +kernel)) (fun j _ pj => ⟨fun z => by
      have h1 := ((Bool.and_eq_true _ _).mp pj).1
      have h2 : byW s ["sounding", "silenced"] j = true := h1
      unfold byW at h2
      rw [z] at h2
      exact absurd h2 (by decide +kernel), fun z => absurd z (by decide +kernel)⟩) l H2 fl hl2 ld2 s2 l' H3 fl' hl3 R3 s3
    exact ⟨_, rfl, _, _, rfl, al, fun H4 s4 => ⟨_, rfl, iteF (go H4 s4)⟩⟩
  · have B2 := B.grow s2
    refine ⟨_, rfl, _, rfl, _, rfl, p, d1, d2, d3, d4, wa, n, a, dl, s, g, ws, way, x, rfl, B2.sd.r, B2.sd.wan, (fun z => absurd z w0), (fun z => absurd z w1), (fun z => absurd z w2), (fun _ _ _ => ⟨fun _ H3 s3 => ?_, fun j hj e => absurd e (no j hj)⟩)⟩
    exact ⟨_, rfl, _, _, rfl, .inr (.inr ⟨_, rfl, rfl, by decide +kernel⟩), fun H4 s4 => ⟨_, rfl, iteF (fin H4 _ s g lo (B2.grow (s3.trans s4)) ((s2.trans (s3.trans s4)) _ _ hwv) okw ps ((s2.trans (s3.trans s4)) _ _ hlg) (by omega) lk)⟩⟩
  · have B2 := B.grow s2
    refine ⟨_, rfl, _, rfl, _, rfl, p, d1, d2, d3, d4, wa, n, a, dl, s, g, ws, way, x, rfl, B2.sd.r, B2.sd.wan, (fun z => absurd z w0), (fun z => absurd z w1), (fun z => absurd z w2), (fun _ _ _ => ⟨fun no => absurd e (no j hj), fun j' hj' e' => ?_⟩)⟩
    have ej : j' = j := ap j' j hj' hj (e'.trans e.symm)
    subst ej
    have nh' : ¬ ((s j').1 = "waiting" ∧ g j' = false) := fun z => nh ⟨z.1, Bool.eq_false_iff.mpr fun m => by
      obtain ⟨k, hk, ek, _, gk⟩ := (lk x).mp ((inV_mem x lo).mp m)
      have : k = j' := ap k j' hk hj (ek.trans e.symm)
      rw [this, z.2] at gk
      cases gk⟩
    refine ⟨fun _ H3 s3 => ?_, fun hw hg => absurd ⟨hw, hg⟩ nh'⟩
    exact ⟨_, rfl, _, _, rfl, .inr (.inr ⟨_, rfl, rfl, by decide +kernel⟩), fun H4 s4 => ⟨_, rfl, iteF (fin H4 _ s g lo (B2.grow (s3.trans s4)) ((s2.trans (s3.trans s4)) _ _ hwv) okw ps ((s2.trans (s3.trans s4)) _ _ hlg) (by omega) lk)⟩⟩
  · subst e
    obtain ⟨⟨q1, e1⟩, ⟨dx, q2, e2⟩, ⟨q3, e3⟩, ⟨q4, e4⟩, ⟨q5, e5⟩, ⟨q6, e6⟩, q7, e7⟩ := B.kinds
    have t2 : TupF H1 H2 := x2.tupF fun c hc o z => by
      simp only [List.mem_cons, List.not_mem_nil, or_false] at hc
      rcases hc with w | w
      · rw [w, e7] at z; cases z; rfl
      · rw [w, hlg] at z; cases z; rfl
    have nin : ∀ c o, H1 c = some o → c ≠ ld → (∀ z, o ≠ .lst z) → c ∉ [ld, lg] := fun c o ec n1 n2 m => by
      simp only [List.mem_cons, List.not_mem_nil, or_false] at m
      rcases m with w | w
      · exact n1 w
      · rw [w, hlg] at ec; cases ec; exact n2 _ rfl
    have B2 : Bg C K H H2 b oa p ld d1 d2 d3 d4 wa n (67 + (i + 1) * 40) a dl s (upF s j ("waiting", (s j).2 + dl j)) g ws := by
      refine { B with sm := fun y o ey => x2 _ _ (B.sm _ _ ey) (fun m => ?_), bag := ?_, outs := B.outs.tups t2, sd := B.sd.mv (fun y hy o ey => x2 _ _ ey ?_) t2, ldt := ld2 }
      · simp only [List.mem_cons, List.not_mem_nil, or_false] at m
        rcases m with w | w
        · have f := B.fl; rw [← w, ey] at f; cases f
        · rw [w, fg] at ey; cases ey
      · obtain ⟨x', y', z', eb, r⟩ := B.bag
        refine ⟨x', y', z', x2 _ _ eb (fun m => ?_), r⟩
        simp only [List.mem_cons, List.not_mem_nil, or_false] at m
        rcases m with w | w
        · rw [w, e7] at eb; cases eb
        · exact nb w.symm
      · rcases hy with z | z | z | z | z
        · rw [z]; exact nin _ _ e2 (fun w => by rw [w, e7] at e2; cases e2) (by intro z w; cases w)
        · rw [z]; exact nin _ _ e3 B.l1.symm (by intro z w; cases w)
        · rw [z]; exact nin _ _ e4 B.l2.symm (by intro z w; cases w)
        · rw [z]; exact nin _ _ e5 B.l3.symm (by intro z w; cases w)
        · rw [z]; exact nin _ _ e6 B.l4.symm (by intro z w; cases w)
    have hg : g j = false := Bool.eq_false_iff.mpr fun m => by
      have : inV (.int (a j)) (intsV lo) = true := (inV_mem _ _).mpr ((lk (a j)).mpr ⟨j, hj, rfl, hw, m⟩)
      rw [this] at hin
      cases hin
    have pos : 0 < (s j).2 + dl j := by
      have h1 := ps j hj hw
      have h2 := dl0 j hj
      omega
    refine ⟨_, rfl, _, rfl, _, rfl, p, d1, d2, d3, d4, wa, n, a, dl, s, g, ws, way, a j, rfl, B2.sd.r, B2.sd.wan, (fun z => absurd z w0), (fun z => absurd z w1), (fun z => absurd z w2), (fun _ _ _ => ⟨fun no => absurd rfl (no j hj), fun j' hj' e' => ?_⟩)⟩
    have ej : j' = j := ap j' j hj' hj e'
    subst ej
    refine ⟨fun nh => absurd ⟨hw, hg⟩ nh, fun _ _ H3 R3 x3 => ?_⟩
    rw [wt_pos pos] at R3
    obtain ⟨⟨r1, c1⟩, ⟨dx', r2, c2⟩, _, ⟨r4, c4⟩, ⟨r5, c5⟩, _, r7, c7⟩ := B2.kinds
    have t3 : TupF H2 H3 := x3.tupF fun c hc o z => by
      simp only [List.mem_cons, List.not_mem_nil, or_false] at hc
      rcases hc with w | w
      · rw [w, c4] at z; cases z; rfl
      · rw [w, c5] at z; cases z; rfl
    have no2 : ∀ c, c ≠ d2 → c ≠ d3 → c ∉ [d2, d3] := fun c n1 n2 m => by
      simp only [List.mem_cons, List.not_mem_nil, or_false] at m
      rcases m with w | w
      · exact n1 w
      · exact n2 w
    have S3 : Sd C K H3 p d1 d2 d3 d4 wa n a dl (upF s j' ("waiting", (s j').2 + dl j')) (upF g j' true) ws := ⟨R3, x3 _ _ B2.sd.del (no2 _ B2.sd.r.n12 B2.sd.r.n13), x3 _ _ B2.sd.un (no2 _ B2.sd.n42 B2.sd.n43), t3 _ _ B2.sd.wan, B2.sd.n41, B2.sd.n42, B2.sd.n43⟩
    have B3 : Bg C K H H3 b oa p ld d1 d2 d3 d4 wa n (67 + (i + 1) * 40) a dl (upF s j' ("waiting", (s j').2 + dl j')) (upF s j' ("waiting", (s j').2 + dl j')) (upF g j' true) ws := by
      refine { B2 with sm := fun y o ey => x3 _ _ (B2.sm _ _ ey) (no2 _ (fun w => by have f := B2.f2; rw [← w, ey] at f; cases f) (fun w => by have f := B2.f3; rw [← w, ey] at f; cases f)), bag := ?_, outs := B2.outs.tups t3, sd := S3, ldt := B2.ldt.mv (fun o ey => x3 _ _ ey (no2 _ B2.l2 B2.l3)) t3 }
      obtain ⟨x', y', z', eb, r⟩ := B2.bag
      exact ⟨x', y', z', x3 _ _ eb (no2 _ (fun w => by rw [w, c4] at eb; cases eb) (fun w => by rw [w, c5] at eb; cases eb)), r⟩
    have lg3 := x3 _ _ lg2 (no2 _ (fun w => by rw [w, c4] at lg2; cases lg2) (fun w => by rw [w, c5] at lg2; cases lg2))
    have wv3 := t3 _ _ (t2 _ _ hwv)
    refine ⟨_, rfl, _, _, rfl, .inr (.inl ⟨_, rfl, rfl⟩), fun H4 s4 => ⟨_, rfl, iteF ?_⟩⟩
    refine fin H4 _ _ _ (lo ++ [a j']) (B3.grow s4) (s4 _ _ wv3) (ok_put0 okw) (fun k hk => ?_) (s4 _ _ lg3) (by rw [List.length_append]; show _ + 1 ≤ _; omega) (lg_len ap hj lk hw)
    unfold upF
    split
    · intro _; exact pos
    · exact ps k hk
end K31

set_option Elab.async false
set_option linter.all false
set_option maxRecDepth 100000
set_option pp.maxSteps 300
set_option maxHeartbeats 2000000
namespace K31
open PySem L2
abbrev s_law : Stmt := top 36
abbrev p_law : List Str := ["_law_script"]
theorem sc_law : FnScope ["_law_script", "_law_k", "_law_bag_here", "_law_outs_here", "_law_sounder", "_law_states", "_law_longer", "_law_wanted_here", "_law_often", "_law_turn", "_law_before", "_law_due", "_law_told", "_law_way", "_law_address"] p_law (defScope s_law) := ⟨rfl, rfl, rfl, by decide +kernel, rfl, by decide +kernel, by decide +kernel⟩
theorem reps_map {K : PySem.W.Frag} {H : Hp} {f : Nat → V} {d : Nat → PyData} : ∀ l : List Nat, (∀ j ∈ l, RepK K H (f j) (d j)) → RepsK K H (l.map f) (l.map d)
  | [], _ => .nil
  | j :: r, h => .cons (h j (List.mem_cons_self ..)) (reps_map r fun x hx => h x (List.mem_cons_of_mem _ hx))
def ouD (a dl : Nat → Int) (j : Nat) : PyData := .tuple [.int (a j), .int (dl j)]
theorem ou_lay (a dl : Nat → Int) : ∀ l : List Nat, PyData.canLayAll0 (l.map (ouD a dl)) = true ∧ PyData.depthAll (l.map (ouD a dl)) ≤ 1
  | [] => ⟨rfl, by show 0 ≤ 1; decide⟩
  | j :: r => by
    have ih := ou_lay a dl r
    refine ⟨?_, ?_⟩
    · show ((true && (true && true)) && PyData.canLayAll0 (r.map (ouD a dl))) = true
      rw [ih.1]; rfl
    · show max (max 0 (max 0 0) + 1) (PyData.depthAll (r.map (ouD a dl))) ≤ 1
      exact Nat.max_le.mpr ⟨by decide, ih.2⟩
theorem ou_shaped (a dl : Nat → Int) (l : List Nat) : SeqAt.shaped (.tuple (l.map (ouD a dl))) = true := by
  have h1 := ou_lay a dl l
  show (PyData.canLayAll0 (l.map (ouD a dl)) && decide (PyData.depthAll (l.map (ouD a dl)) + 1 ≤ 64)) = true
  rw [h1.1, Bool.true_and]
  exact decide_eq_true (by omega)
section
variable {P : Program} {w : World} {K : PySem.W.Frag} {mg : Str → Option Value} {base : Heap} {C st so si : Addr}
theorem ok_law {f : Addr} {fd : FuncData} (F : Fun K "law" "law" s_law f fd) (T : Tx K mg C st so si) (g_l_bag : Good P w K mg base "_law_bag" 1 p_l_bag (spBag K)) (g_l_take : Good P w K mg base "_law_take" 1 p_l_take spTake) (g_l_outs : Good P w K mg base "_law_outs" 2 p_l_outs spOuts)
    (g_i_Sounder : GoodI P w K mg base C 1 p_Sounder___init__ (spInit C K)) (g_l_stand_right : Good P w K mg base "_law_stand_right" 4 p_l_stand_right (spStand C K)) (g_l_wanted : Good P w K mg base "_law_wanted" 2 p_l_wanted spWanted) (g_l_beaten : Good P w K mg base "_law_beaten" 2 p_l_beaten (spBeaten K))
    (g_m_beat : GoodM P w K mg base C "beat" 3 p_Sounder_beat (spBeat C K)) (g_l_hand : Good P w K mg base "_law_hand" 1 p_l_hand (spHand K)) (g_l_hand_done : Good P w K mg base "_law_hand_done" 4 p_l_hand_done (spDone C K)) (g_l_is_told : Good P w K mg base "_law_is_told" 1 p_l_is_told spTold) : FnOk P w K mg base CX0 5 f fd p_law (spLaw K) := by
  refine F.ok sc_law (fun vs H Q E h => ?_) (fun cdv A outer s H vs Q E hr h => ?_)
  · obtain ⟨a, ns, rfl, _⟩ := h
    rfl
  obtain ⟨sa, ns, rfl, hS, h63, q⟩ := h
  refine ⟨_, (pss_cons (ps_for PassesOwn.never rfl (pi_range1 rfl T.range (pa_cons (pe_callB (call_max2 rfl) rfl T.max bt_max (pa_cons pe_int (pa_cons (pe_callB (call_min2 rfl) rfl T.min bt_min (pa_cons pe_int (pa_cons (pe_callB call_len_seq rfl T.len bt_len (pa_cons (pv 0) pa_nil)) pa_nil))) pa_nil))) pa_nil)) (pg_name (i := 1) sc_law.nd rfl (Or.inl rfl))
  (pss_cons (ps_set (i := 2) sc_law.nd rfl (Or.inl rfl) (pcall g_l_bag hr (pa_cons (pv 0) (pa_cons (pv 1) pa_nil))))
  (pss_cons (ps_set (i := 3) sc_law.nd rfl (Or.inl rfl) (pcall g_l_outs hr (pa_cons (pv 2) pa_nil)))
  (pss_cons (ps_set (i := 4) sc_law.nd rfl (Or.inl rfl) (pmake g_i_Sounder hr T.mgC (pa_cons (pv 3) pa_nil)))
  (pss_cons (ps_set (i := 5) sc_law.nd rfl (Or.inr rfl) (pe_callTy (call_dictP rfl) rfl T.dict bt_dict (pa_cons (pe_comp (N' := ["_law_address", "_law_delay"]) rfl (CScope.plain rfl (by decide +kernel) (by decide +kernel) (by decide +kernel)) (pi_tup (pv 3)) (fun _ _ _ _ => (pg_tupK (K := K) (n := 2) rfl rfl (pgs_cons (pg_name (i := 0) (show List.Nodup (["_law_address", "_law_delay"] : List Str) by decide +kernel) rfl (Or.inl rfl)) (pgs_cons (pg_name (i := 1) (show List.Nodup (["_law_address", "_law_delay"] : List Str) by decide +kernel) rfl (Or.inl rfl)) pgs_nil)))) (fun _ _ _ _ => pf_nil) (fun _ _ _ _ => (pe_tup (pa_cons (pv 0) (pa_cons (pe_tup (pa_cons pe_str (pa_cons pe_int pa_nil))) pa_nil))))) pa_nil)))
  (pss_cons (ps_set (i := 6) sc_law.nd rfl (Or.inl rfl) (pe_lst pa_nil))
  (pss_cons (ps_set (i := 7) sc_law.nd rfl (Or.inl rfl) (pe_tup pa_nil))
  (pss_cons (ps_set (i := 8) sc_law.nd rfl (Or.inl rfl) (pe_ix ix_list (pe_lst (pa_cons pe_int (pa_cons pe_int pa_nil))) (pcall g_l_take hr (pa_cons (pv 2) (pa_cons pe_int pa_nil))) (fun _ _ => rfl)))
  (pss_one (ps_for PassesOwn.never rfl (pi_range1 rfl T.range (pa_cons (pe_ix ix_list (pe_lst (pa_cons (pe_op op_add pe_int (pcall g_l_take hr (pa_cons (pv 2) (pa_cons pe_int pa_nil)))) (pa_cons pe_int pa_nil))) (pe_callTy call_int1 rfl T.int bt_int (pa_cons (pe_cmpR op_eq (pcall g_l_take hr (pa_cons (pv 2) (pa_cons pe_int pa_nil))) pe_int (nomark _)) pa_nil)) (fun _ _ => rfl)) pa_nil)) (pg_name (i := 9) sc_law.nd rfl (Or.inl rfl))
  (pss_cons (ps_if (pt_cmpR op_eq (pcall g_l_take hr (pa_cons (pv 2) (pa_cons pe_int pa_nil))) pe_int (nomark _)) (pss_cons (ps_set (i := 10) sc_law.nd rfl (Or.inl rfl) (pv 7))
  (pss_cons (ps_set (i := 7) sc_law.nd rfl (Or.inl rfl) (pcall g_l_wanted hr (pa_cons (pv 2) (pa_cons (pv 3) (pa_cons (pv 7) (pa_cons (pv 8) pa_nil))))))
  (pss_cons (ps_setC (i := 6) sc_law.nd rfl (Or.inl rfl) (N' := ["_law_one", "_law_states"]) rfl (CScope.of (src := [none, some 5]) (defScope s_law) ["_law_script", "_law_k", "_law_bag_here", "_law_outs_here", "_law_sounder", "_law_states", "_law_longer", "_law_wanted_here", "_law_often", "_law_turn", "_law_before", "_law_due", "_law_told", "_law_way", "_law_address"] rfl rfl rfl (by decide +kernel) (by decide +kernel) (by decide +kernel) rfl (by decide +kernel)) (pi_list (pv 6)) (fun _ _ _ _ => (pg_name (i := 0) (show List.Nodup (["_law_one", "_law_states"] : List Str) by decide +kernel) rfl (Or.inl rfl))) (fun _ _ _ _ => (pf_one (pt_cmpR op_eq (pe_ix (ix_tupK (K := K) rfl) (pe_dget (hu_of hr) (pv 1) (pv 0) (fun _ _ => rfl)) pe_int (fun _ _ => rfl)) pe_str (nomark _)))) (fun _ _ _ _ => (pv 0)))
  (pss_cons (ps_set (i := 11) sc_law.nd rfl (Or.inl rfl) (pcall g_l_beaten hr (pa_cons (pv 3) (pa_cons (pv 5) (pa_cons (pv 7) (pa_cons (pv 10) pa_nil))))))
  (pss_cons (ps_setC (i := 6) sc_law.nd rfl (Or.inl rfl) (N' := ["_law_one", "_law_states"]) rfl (CScope.of (src := [none, some 5]) (defScope s_law) ["_law_script", "_law_k", "_law_bag_here", "_law_outs_here", "_law_sounder", "_law_states", "_law_longer", "_law_wanted_here", "_law_often", "_law_turn", "_law_before", "_law_due", "_law_told", "_law_way", "_law_address"] rfl rfl rfl (by decide +kernel) (by decide +kernel) (by decide +kernel) rfl (by decide +kernel)) (pi_list (pv 6)) (fun _ _ _ _ => (pg_name (i := 0) (show List.Nodup (["_law_one", "_law_states"] : List Str) by decide +kernel) rfl (Or.inl rfl))) (fun _ _ _ _ => (pf_one (pt_cmpR op_eq (pe_ix (ix_tupK (K := K) rfl) (pe_dget (hu_of hr) (pv 1) (pv 0) (fun _ _ => rfl)) pe_int (fun _ _ => rfl)) pe_str (nomark _)))) (fun _ _ _ _ => (pv 0)))
  (pss_cons (ps_set (i := 12) sc_law.nd rfl (Or.inl rfl) (pmeth (pv 4) T.cl g_m_beat hr (pa_cons (pv 7) pa_nil)))
  (pss_one (ps_if (PW.pt (pw_or (pt_not (pt_val (pe_callB call_isi rfl T.isinstance bt_isinstance (pa_cons (pv 12) (pa_cons (pe_bltn (v := .ty "list") rfl T.list bt_list rfl) pa_nil))))) (pw_or1 (pt_cmpR (op_neD hr.units) (pv 12) (pv 11) (nomark _))))) (pss_one (ps_ret pe_bl)) pss_nil)))))))) (pss_cons (ps_set (i := 13) sc_law.nd rfl (Or.inl rfl) (pcall g_l_take hr (pa_cons (pv 2) (pa_cons pe_int pa_nil))))
  (pss_cons (ps_set (i := 14) sc_law.nd rfl (Or.inl rfl) (pe_op op_add pe_int (pcall g_l_take hr (pa_cons (pv 2) (pa_cons pe_int pa_nil)))))
  (pss_cons (ps_if (PW.pt (pw_and (pt_cmpR (op_neK (K := K) rfl hr.units) (pv 3) (pe_tup pa_nil) (nomark _)) (pw_and1 (pt_cmpR op_gt (pcall g_l_take hr (pa_cons (pv 2) (pa_cons pe_int pa_nil))) pe_int (nomark _))))) (pss_one (ps_set (i := 14) sc_law.nd rfl (Or.inl rfl) (pe_ix ix_tup (pe_ix ix_tup (pv 3) (pcall g_l_take hr (pa_cons (pv 2) (pa_cons (pe_callB call_len_seq rfl T.len bt_len (pa_cons (pv 3) pa_nil)) pa_nil))) (fun _ _ => rfl)) pe_int (fun _ _ => rfl)))) pss_nil)
  (pss_cons (ps_set (i := 11) sc_law.nd rfl (Or.inl rfl) (pcall g_l_hand hr (@pa_cons _ _ _ _ _ (pv 3) (@pa_cons _ _ _ _ _ (pv 5) (@pa_cons _ _ _ _ _ (pv 6) (@pa_cons _ _ _ _ _ (pv 7) (@pa_cons _ _ _ _ _ (pv 13) (@pa_cons _ _ _ _ _ (pv 14) (@pa_nil _) (by rfl)) (by rfl)) (by rfl)) (by rfl)) (by rfl)) (by rfl))))
  (pss_one (ps_if (pt_not (pt_val (pcall g_l_is_told hr (pa_cons (pcall g_l_hand_done hr (pa_cons (pv 4) (pa_cons (pv 13) (pa_cons (pv 14) pa_nil)))) (pa_cons (pv 11) pa_nil))))) (pss_one (ps_ret pe_bl)) pss_nil)))))))
  (pss_one (ps_if (pt_not (pt_val (pcall g_l_stand_right hr (pa_cons (pv 4) (pa_cons (pv 3) (pa_cons (pv 5) pa_nil)))))) (pss_one (ps_ret pe_bl)) pss_nil)))))))))))))
  (pss_one (ps_ret pe_bl))), ?_⟩
  have hl : (ns.map V.int).length = ns.length := List.length_map _
  refine ⟨_, rfl, sa, _, rfl, .inl hS, _, _, rfl, _, _, rfl, _, rfl, ?_, ?_, ?_⟩
  · rw [hl]; split <;> split <;> omega
  · rw [hl]; split <;> split <;> omega
  refine for_range (fun i σ H' => Same H H' ∧ ∃ u1 u2 u3 u4 u5 u6 u7 u8 u9 u10 u11 u12 u13 u14, σ = [some (.ref sa), u1, u2, u3, u4, u5, u6, u7, u8, u9, u10, u11, u12, u13, u14]) ⟨Same.refl H, _, _, _, _, _, _, _, _, _, _, _, _, _, _, rfl⟩ (fun i0 σ H' hi h => ?_) (fun σ H' h => ?_)
  · obtain ⟨sm, u1, u2, u3, u4, u5, u6, u7, u8, u9, u10, u11, u12, u13, u14, rfl⟩ := h
    rw [hl] at hi
    have hi' : (i0 : Int) ≤ 100 := by
      revert hi
      split <;> split <;> omega
    refine ⟨_, rfl, _, rfl, sa, ns, _, rfl, sm.seq hS, h63, by omega, by omega, fun b o hb0 hbag => ?_⟩
    have s1 : Same H (upd H' b o) := sm.trans (same_new hb0 o)
    have fb : H b = none := sm.free hb0
    generalize upd H' b o = H1 at s1 hbag ⊢
    simp only [List.set_cons_succ, List.set_cons_zero]
    refine ⟨_, rfl, b, 0, rfl, hbag, by omega, fun oa n a dl H2 ho ap dl0 few hb2 sb2 => ?_⟩
    have s2 := s1.stepB sb2 fb
    simp only [List.set_cons_succ, List.set_cons_zero]
    -- the sounder
    refine ⟨_, rfl, fun p dx fp2 fdx ndx => ⟨p, dx, oa, n, a, dl, rfl, upd_same, ?_, ap, by omega, fun d1 d2 d3 d4 wa H8 f1 f2 f3 f4 fw R8 e1 e4 ew n41 n42 n43 s8 => ⟨rfl, ?_⟩⟩⟩
    · exact ho.tups (TupF.of ((same_new fdx _).trans (same_new (by rw [upd_ne (Ne.symm ndx)]; exact fp2) _)))
    have k0 : Same H2 (upd (upd H2 dx (.own p)) p (.ins C dx [])) := (same_new fdx _).trans (same_new (by rw [upd_ne (Ne.symm ndx)]; exact fp2) _)
    have up : (upd (upd H2 dx (.own p)) p (.ins C dx [])) p = some (.ins C dx []) := upd_same
    generalize upd (upd H2 dx (.own p)) p (.ins C dx []) = Hx at k0 up f1 f2 f3 f4 fw s8
    have fp : H p = none := s2.free fp2
    have sx := s2.trans k0
    have s9 : Same H H8 := sx.stepB s8 fp
    have nbp : b ≠ p := hb2.nb fp2
    have hb8 : BagAt H8 b 64 := (hb2.same k0).sameB s8 nbp
    have t8 : TupF Hx H8 := s8.tupF (ntOf (up))
    have ho8 := ho.tups ((TupF.of k0).trans t8)
    have f1 := sx.free f1
    have f2 := sx.free f2
    have f3 := sx.free f3
    have f4 := sx.free f4
    simp only [List.set_cons_succ, List.set_cons_zero]
    -- the states
    obtain ⟨to, hoa, hto⟩ := id ho8
    refine ⟨_, rfl, oa, rfl, ⟨_, hoa.sq⟩, fun l hl8 => ?_⟩
    refine comp_tup (xs := (List.range n).map fun j => V.ref (to j)) (fun i σ HH => (∃ u v, σ = [u, v]) ∧ ∃ e t : Nat → Addr, HH l = some (.lst ((List.range i).map fun j => V.ref (e j))) ∧ (∀ j, j < i → HH (e j) = some (.tup [.int (a j), .ref (t j)]) ∧ HH (t j) = some (.tup [.str "still", .int 0])) ∧ SameB l (upd H8 l (.lst [])) HH) ⟨⟨none, none, rfl⟩, fun _ => 0, fun _ => 0, upd_same, (fun j hj => absurd hj (Nat.not_lt_zero _)), SameB.refl _ _⟩ (fun i σ HH _ h => ?_) (fun i x σ HH hx h => ?_) (fun σ HH h => ?_)
    · obtain ⟨_, e, t, _, _, k⟩ := h
      exact (hoa.tups ((TupF.of (same_new hl8 _)).trans (k.tupF (ntOf upd_same)))).sq
    · obtain ⟨⟨u, v, rfl⟩, e, t, q1, q2, q3⟩ := h
      obtain ⟨hj, rfl⟩ := rg_get hx
      have hti := q3 _ _ (same_new hl8 (.lst []) _ _ (hto i hj)) (fun z => by have := hto i hj; rw [z, hl8] at this; cases this)
      refine ⟨to i, _, rfl, SqT.of hti, rfl, _, _, rfl, _, _, rfl, rfl, iteT ⟨_, rfl, leSize (by show 2 ≤ 1000; decide), fun u1 hu1 => ⟨leSize (by show 2 ≤ 1000; decide), fun u2 hu2 => ?_⟩⟩⟩
      have k1 := same_new hu1 (.tup [.str "still", .int 0])
      have w1 : (upd HH u1 (.tup [.str "still", .int 0])) u1 = some (.tup [.str "still", .int 0]) := upd_same
      have k2 := same_new hu2 (.tup [.int (a i), .ref u1])
      have w2 : (upd (upd HH u1 (.tup [.str "still", .int 0])) u2 (.tup [.int (a i), .ref u1])) u2 = some (.tup [.int (a i), .ref u1]) := upd_same
      have w1 := k2 _ _ w1
      have k12 := k1.trans k2
      refine ⟨_, k12 _ _ q1, by rw [List.length_map, List.length_range]; exact small1000 (by omega), ⟨_, _, rfl⟩, upF e i u2, upF t i u1, ?_, fun j hj2 => ?_, ?_⟩
      · rw [upd_same, List.range_succ, List.map_append]
        have e1 : (List.range i).map (fun j => V.ref (upF e i u2 j)) = (List.range i).map fun j => V.ref (e j) := List.map_congr_left fun j hj => by
          unfold upF
          rw [if_neg (Nat.ne_of_lt (List.mem_range.mp hj))]
        rw [e1]
        show some (HO.lst (_ ++ [V.ref u2])) = some (HO.lst (_ ++ [V.ref (upF e i u2 i)]))
        unfold upF
        rw [if_pos rfl]
      · have tl : ∀ y xs, (upd (upd HH u1 (.tup [.str "still", .int 0])) u2 (.tup [.int (a i), .ref u1])) y = some (.tup xs) → y ≠ l := fun y xs z w => by rw [w, k12 _ _ q1] at z; cases z
        unfold upF
        by_cases ej : j = i
        · rw [if_pos ej, if_pos ej, ej, upd_ne (tl _ _ w2), upd_ne (tl _ _ w1)]
          exact ⟨w2, w1⟩
        · obtain ⟨z1, z2⟩ := q2 j (by omega)
          rw [if_neg ej, if_neg ej, upd_ne (tl _ _ (k12 _ _ z1)), upd_ne (tl _ _ (k12 _ _ z2))]
          exact ⟨k12 _ _ z1, k12 _ _ z2⟩
      · exact q3.trans ((SameB.of k12).trans SameB.upd)
    obtain ⟨_, e, t, q1, q2, q3⟩ := h
    rw [List.length_map, List.length_range] at q1 q2
    have s8H : Same H8 HH := fun y o z => q3 _ _ (same_new hl8 _ _ _ z) fun w => by rw [w, hl8] at z; cases z
    refine ⟨l, _, dk n a fun j => V.ref (t j), rfl, q1, paired_rg fun j hj => ⟨e j, rfl, (q2 j hj).1⟩, dk_nd ap, by rw [dk_len]; omega, fun ld fld => ?_⟩
    have kd := same_new fld (.dK (dk n a fun j => V.ref (t j)))
    have hld : LdAt K (upd HH ld (.dK (dk n a fun j => V.ref (t j)))) ld n a stl := ⟨_, upd_same, fun j hj => ⟨t j, rfl, .inl (kd _ _ (q2 j hj).2)⟩⟩
    have s9H := s8H.trans kd
    have fl8 : H8 ld = none := s8H.free fld
    have B : Bg C K H (upd HH ld (.dK (dk n a fun j => V.ref (t j)))) b oa p ld d1 d2 d3 d4 wa n 64 a dl stl stl (fun _ => false) [] := by
      refine ⟨s9.trans s9H, hb8.same s9H, ho8.tups (TupF.of s9H), Sd.mv ⟨R8, e1, e4, ew, n41, n42, n43⟩ (fun _ _ o z => s9H _ _ z) (TupF.of s9H), hld, few, Nat.zero_le _, fb, fp, f2, f3, s9.free fl8, ?_, ?_, ?_, ?_⟩
      · exact (ne_of_none e1 fl8).symm
      · obtain ⟨v, z, _⟩ := R8.sta; exact (ne_of_none z fl8).symm
      · exact (ne_of_none R8.len fl8).symm
      · exact (ne_of_none e4 fl8).symm
    generalize upd HH ld (.dK (dk n a fun j => V.ref (t j))) = H9 at B
    clear kd hld s9H q1 q2 q3 s8H fld fl8 R8 e1 e4 ew
    simp only [List.set_cons_succ, List.set_cons_zero]
    -- none lengthened, nothing wanted
    refine ⟨Nat.zero_le _, fun lg hlg0 => ?_⟩
    have hlg : (upd H9 lg (.lst [])) lg = some (.lst (intsV [])) := upd_same
    have nlg : lg ≠ b := (B.bag.nb hlg0).symm
    have flg : H lg = none := B.sm.free hlg0
    have B := B.grow (same_new hlg0 (.lst []))
    generalize upd H9 lg (.lst []) = H10 at hlg B ⊢
    simp only [List.set_cons_succ, List.set_cons_zero]
    refine ⟨Nat.zero_le _, fun w0 hw0 => ?_⟩
    have hwv : (upd H10 w0 (.tup [])) w0 = some (.tup (intsV [])) := upd_same
    have hlg := same_new hw0 (.tup []) _ _ hlg
    have B := B.grow (same_new hw0 (.tup []))
    generalize upd H10 w0 (.tup []) = H11 at hwv hlg B ⊢
    simp only [List.set_cons_succ, List.set_cons_zero]
    -- how often
    refine ⟨leSize (by show 2 ≤ 1000; decide), fun lo hlo => ?_⟩
    have klo := same_new hlo (.lst [.int 2, .int 9])
    have ulo : (upd H11 lo (.lst [.int 2, .int 9])) lo = some (.lst [.int 2, .int 9]) := upd_same
    have nlo : lo ≠ b := (B.bag.nb hlo).symm
    have B := B.grow klo
    have hwv := klo _ _ hwv
    have hlg := klo _ _ hlg
    refine ⟨_, rfl, b, 64, 2, rfl, B.bag, by omega, by decide, by decide, fun r1 H12 r10 r11 hb12 s12 => ?_⟩
    have ulo := s12 _ _ ulo nlo
    have hwv := s12.tupF B.bag.ntupF _ _ hwv
    have hlg := s12 _ _ hlg nlg
    have B := B.draw s12 hb12
    obtain ⟨often, hof, o0, o1⟩ : ∃ z : Int, atI [V.int 2, .int 9] r1 = some (.int z) ∧ 0 < z ∧ z < 100 := by
      have : r1 = 0 ∨ r1 = 1 := by omega
      rcases this with rfl | rfl
      · exact ⟨_, rfl, by decide, by decide⟩
      · exact ⟨_, rfl, by decide, by decide⟩
    refine ⟨lo, _, _, _, rfl, rfl, SqL.of ulo, hof, ?_⟩
    simp only [List.set_cons_succ, List.set_cons_zero]
    -- how many turns
    refine ⟨_, rfl, b, _, 20, rfl, B.bag, by omega, by decide, by decide, fun r2 H13 r20 r21 hb13 s13 => ⟨_, _, rfl, rfl, leSize (by show 2 ≤ 1000; decide), fun lr hlr => ?_⟩⟩
    have hwv := s13.tupF B.bag.ntupF _ _ hwv
    have hlg := s13 _ _ hlg nlg
    have B := B.draw s13 hb13
    have klr := same_new hlr (.lst [.int (1 + r2), .int 80])
    have ulr : (upd H13 lr (.lst [.int (1 + r2), .int 80])) lr = some (.lst [.int (1 + r2), .int 80]) := upd_same
    have nlr : lr ≠ b := (B.bag.nb hlr).symm
    have B := B.grow klr
    have hwv := klr _ _ hwv
    have hlg := klr _ _ hlg
    refine ⟨_, rfl, b, _, 4, rfl, B.bag, by omega, by decide, by decide, fun r3 H14 r30 r31 hb14 s14 => ?_⟩
    have ulr := s14 _ _ ulr nlr
    have hwv := s14.tupF B.bag.ntupF _ _ hwv
    have hlg := s14 _ _ hlg nlg
    have B := B.draw s14 hb14
    obtain ⟨many, hmany, m0, m1⟩ : ∃ z : Int, atI [V.int (1 + r2), .int 80] (if decide (V.int r3 = V.int 0) = true then 1 else 0) = some (.int z) ∧ 0 ≤ z ∧ z ≤ 80 := by
      split
      · exact ⟨_, rfl, by decide, by decide⟩
      · exact ⟨1 + r2, rfl, by omega, by omega⟩
    refine ⟨rfl, .inr ⟨_, rfl, lr, _, _, _, rfl, rfl, SqL.of ulr, hmany, _, rfl, by omega, by omega, ?_⟩⟩
    obtain ⟨m, rfl⟩ : ∃ m : Nat, many = m := ⟨many.toNat, by omega⟩
    refine for_range (Tn C K H sa b oa p ld d1 d2 d3 (.int (0 + (i0 : Int))) often n a dl) ⟨d4, wa, lg, w0, _, _, _, _, _, _, stl, fun _ => false, [], [], rfl, B.mono (by omega), hwv, fun j _ => ok_stl j, (fun j _ h => absurd h (by show ¬ ("still" : Str) = "waiting"; decide +kernel)), hlg, Nat.zero_le _, (fun x => ⟨(fun h => by cases h), (fun ⟨j, _, _, _, h⟩ => by cases h)⟩), flg, nlg⟩ (fun i σ HH hi2 h => ?_) (fun σ HH h => ?_)
    · clear B hlg hwv nlg flg s14 s13 s12 hb14 hb13 hb12 ulr ulo
      obtain ⟨d4, wa, lg, wv, u9, u10, u11, u12, u13, u14, s, g, ws, lo, rfl, B, hwv, okw, ps, hlg, ll, lk, flg, nlg⟩ := h
      have hi3 : i < 80 := by
        have : i < m := by simpa using hi2
        omega
      have few := B.few
      simp only [List.set_cons_succ, List.set_cons_zero]
      refine ⟨_, rfl, b, _, 2, rfl, B.bag, by omega, by decide, by decide, fun r H1 _ _ hb1 s1 => ⟨rfl, _, rfl, ite2 (fun _ => ?_) (fun _ => ?_)⟩⟩
      · have hwv := s1.tupF B.bag.ntupF _ _ hwv
        have hlg := s1 _ _ hlg nlg
        have B := B.draw s1 hb1
        refine ⟨_, rfl, ?_⟩
        simp only [List.set_cons_succ, List.set_cons_zero]
        refine ⟨_, rfl, _, rfl, _, rfl, _, rfl, b, oa, wv, _, n, a, dl, ws, often, rfl, B.bag, by omega, B.outs, by omega, hwv, o0, o1, fun wb ws' H2 hwb lw hb2 s2 => ?_⟩
        have hwv := s2.tupF B.bag.ntupF _ _ hwv
        have hlg := s2 _ _ hlg nlg
        have B := B.draw s2 hb2
        simp only [List.set_cons_succ, List.set_cons_zero]
        refine ⟨_, rfl, lg, rfl, ⟨_, SqL.of hlg⟩, fun l1 hl1 => lgComp ap B.ldt hlg (by omega) (fun x hx => by obtain ⟨j, hj, e, _⟩ := (lk x).mp hx; exact ⟨j, hj, e⟩) hl1 ?_⟩
        have k3 := same_new hl1 (.lst (intsV (lo.filter (isWt n a s))))
        have ul1 : (upd H2 l1 (.lst (intsV (lo.filter (isWt n a s))))) l1 = some (.lst (intsV (lo.filter (isWt n a s)))) := upd_same
        have B := B.grow k3
        have hwv := k3 _ _ hwv
        have hwb := k3 _ _ hwb
        generalize upd H2 l1 (.lst (intsV (lo.filter (isWt n a s)))) = H3 at ul1 B hwv hwb ⊢
        simp only [List.set_cons_succ, List.set_cons_zero]
        refine ⟨_, rfl, _, rfl, _, rfl, _, rfl, oa, ld, wb, wv, n, a, dl, s, ws, ws', rfl, B.outs, ap, by omega, B.ldt, hwb, hwv, by omega, fun t tv H4 ft ht4 ptv hl4 s4 => ?_⟩
        obtain ⟨_, _, _, _, _, _, q7, e7⟩ := B.kinds
        have tl : TupF H3 H4 := s4.tupF (ntOf e7)
        have hwb := tl _ _ hwb
        have ul1 := s4 _ _ ul1 (fun z => by rw [z, e7] at ul1; cases ul1)
        have B := B.law s4 hl4
        have Ldue : LsAt H4 t _ := ⟨tv, ht4, ptv⟩
        simp only [List.set_cons_succ, List.set_cons_zero]
        have lf1 := List.length_filter_le (isWt n a s) lo
        refine ⟨_, rfl, l1, rfl, ⟨_, SqL.of ul1⟩, fun l2 hl2 => lgComp ap B.ldt ul1 (by omega) (fun x hx => by obtain ⟨j, hj, e, _⟩ := (lk x).mp (List.mem_filter.mp hx).1; exact ⟨j, hj, e⟩) hl2 ?_⟩
        have k5 := same_new hl2 (.lst (intsV ((lo.filter (isWt n a s)).filter (isWt n a (nxt a dl ws ws' s)))))
        have ul2 : (upd H4 l2 (.lst (intsV ((lo.filter (isWt n a s)).filter (isWt n a (nxt a dl ws ws' s)))))) l2 = some (.lst (intsV ((lo.filter (isWt n a s)).filter (isWt n a (nxt a dl ws ws' s))))) := upd_same
        have nl2 : l2 ≠ b := (B.bag.nb hl2).symm
        have fl2 : H l2 = none := B.sm.free hl2
        have B := B.grow k5
        have hwb := k5 _ _ hwb
        have Ldue := Ldue.same k5
        generalize upd H4 l2 (.lst (intsV ((lo.filter (isWt n a s)).filter (isWt n a (nxt a dl ws ws' s))))) = H5 at ul2 B hwb Ldue ⊢
        simp only [List.set_cons_succ, List.set_cons_zero]
        obtain ⟨dx, hp5⟩ := B.sd.r.ins
        refine ⟨_, rfl, p, dx, _, rfl, hp5, fno (by decide +kernel), _, rfl, p, d1, d2, d3, d4, wa, n, a, dl, s, g, ws, wb, ws', rfl, B.sd, hwb, by omega, fun t' d tv' H6 ft' fd ht6 ptv' S6 x6 => ?_⟩
        have Ldue := B.lsBeat x6 Ldue
        obtain ⟨_, ⟨dx', q2, e2⟩, _, ⟨q4, e4⟩, ⟨q5, e5⟩, _, _⟩ := B.kinds
        have ul2 := x6 _ _ ul2 (fun mm => by
          simp only [List.mem_cons, List.not_mem_nil, or_false] at mm
          rcases mm with z | z | z
          · rw [z, e2] at ul2; cases ul2
          · rw [z, e4] at ul2; cases ul2
          · rw [z, e5] at ul2; cases ul2)
        have B := B.beat x6 S6 fd (by omega)
        have Ltold : LsAt H6 t' _ := ⟨tv', ht6, ptv'⟩
        have hwb := S6.wan
        have okw' := ok_nxt (a := a) (dl := dl) (ws := ws) (ws' := ws') okw
        have oke' : okE (evs a s (nxt a dl ws ws' s) n) := evs_ok okw'
        simp only [List.set_cons_succ, List.set_cons_zero]
        refine ⟨_, rfl, isi_list ht6 ⟨_, rfl, iteF ⟨_, rfl, _, rfl, _, _, Ltold.rep, Ldue.rep, es_shaped oke', es_shaped oke', _, rfl, ?_⟩⟩⟩
        rw [es_eq oke']
        refine iteF ?_
        have lf2 := List.length_filter_le (isWt n a (nxt a dl ws ws' s)) (lo.filter (isWt n a s))
        exact turn_fin (K := K) rfl (B.mono (by omega)) hwb okw' (fun j hj => pos_nx (ps j hj)) ul2 (by omega) (lg_beat ap lk) fl2 nl2
      · have hwv := s1.tupF B.bag.ntupF _ _ hwv
        have hlg := s1 _ _ hlg nlg
        have B := B.draw s1 hb1
        refine ⟨_, rfl, b, _, 5, rfl, B.bag, by omega, by decide, by decide, fun way H2 _ _ hb2 s2 => ?_⟩
        have hwv := s2.tupF B.bag.ntupF _ _ hwv
        have hlg := s2 _ _ hlg nlg
        have B := B.draw s2 hb2
        simp only [List.set_cons_succ, List.set_cons_zero]
        refine ⟨_, rfl, b, _, 99, rfl, B.bag, by omega, by decide, by decide, fun r3' H3 _ _ hb3 s3 => ⟨_, _, rfl, rfl, ?_⟩⟩
        have hwv := s3.tupF B.bag.ntupF _ _ hwv
        have hlg := s3 _ _ hlg nlg
        have B := B.draw s3 hb3
        refine ⟨_, rfl, Nat.zero_le _, fun z0 hz0 => ?_⟩
        have kz := same_new hz0 (.tup [])
        have uz : (upd H3 z0 (.tup [])) z0 = some (.tup []) := upd_same
        have B := B.grow kz
        have hwv := kz _ _ hwv
        have hlg := kz _ _ hlg
        generalize upd H3 z0 (.tup []) = H4 at uz B hwv hlg ⊢
        obtain ⟨to, hoa, hto⟩ := id B.outs
        refine ⟨.tuple ((List.range n).map (ouD a dl)), .tuple [], .tup hoa.sq (reps_map _ fun j hj => .tup (SqT.of (hto j (List.mem_range.mp hj))) (.cons (.int _) (.cons (.int _) .nil))), .tup (SqT.of uz) .nil, ou_shaped a dl _, by rfl, _, rfl, ite2 (fun c1 => ?_) (fun c1 => ?_)⟩
        · have n0 : n ≠ 0 := fun z => by
            subst z
            have c1 : (!(PyData.tuple []).eqv (PyData.tuple [])) = true := c1
            exact absurd c1 (by decide +kernel)
          refine ⟨_, rfl, b, _, 8, rfl, B.bag, by omega, by decide, by decide, fun r4 H5 _ _ hb5 s5 => ⟨_, _, rfl, rfl, _, rfl, ite2 (fun _ => ?_) (fun _ => ?_)⟩⟩
          · have hwv := s5.tupF B.bag.ntupF _ _ hwv
            have hlg := s5 _ _ hlg nlg
            have B := B.draw s5 hb5
            obtain ⟨to, hoa, hto⟩ := id B.outs
            refine ⟨_, rfl, _, rfl, _, rfl, oa, _, rfl, .inr hoa.sq, b, _, _, rfl, B.bag, by omega, by rw [List.length_map, List.length_range]; omega, by rw [List.length_map, List.length_range]; omega, fun r6 H6 r60 r61 hb6 s6 => ?_⟩
            have hwv := s6.tupF B.bag.ntupF _ _ hwv
            have hlg := s6 _ _ hlg nlg
            have t6 := s6.tupF B.bag.ntupF
            have B := B.draw s6 hb6
            rw [List.length_map, List.length_range] at r61
            obtain ⟨j, rfl⟩ : ∃ j : Nat, r6 = j := ⟨r6.toNat, by omega⟩
            have hj : j < n := by omega
            refine ⟨oa, _, _, _, rfl, rfl, (hoa.tups t6).sq, atI_nat (rg_at hj), to j, _, _, _, rfl, rfl, SqT.of (t6 _ _ (hto j hj)), rfl, ?_⟩
            exact turn_hand (K := K) ap dl0 (fun HF u11 s g lo B hwv okw ps hlg ll lk => turn_fin (K := K) rfl B hwv okw ps hlg ll lk flg nlg) (B.mono (by omega)) hwv okw ps hlg ll hi3 lk flg nlg
          · have hwv := s5.tupF B.bag.ntupF _ _ hwv
            have hlg := s5 _ _ hlg nlg
            have B := B.draw s5 hb5
            exact turn_hand (K := K) ap dl0 (fun HF u11 s g lo B hwv okw ps hlg ll lk => turn_fin (K := K) rfl B hwv okw ps hlg ll lk flg nlg) (B.mono (by omega)) hwv okw ps hlg ll hi3 lk flg nlg
        · exact iteF (turn_hand (K := K) ap dl0 (fun HF u11 s g lo B hwv okw ps hlg ll lk => turn_fin (K := K) rfl B hwv okw ps hlg ll lk flg nlg) (B.mono (by omega)) hwv okw ps hlg ll hi3 lk flg nlg)
    · obtain ⟨d4, wa, lg, wv, u9, u10, u11, u12, u13, u14, s, g, ws, lo, rfl, B, _⟩ := h
      exact ⟨B.sm, _, _, _, _, _, _, _, _, _, _, _, _, _, _, rfl⟩
  · exact q _
end
end K31

set_option Elab.async false
set_option linter.all false
set_option maxRecDepth 100000
set_option pp.maxSteps 300
set_option maxHeartbeats 4000000
namespace K31
open PySem L2
theorem kit13 {K : PySem.W.Frag} {C c0 c1 c2 c3 c4 c5 c6 c7 c8 c9 c10 c11 c12 : Addr} {j : Nat} (q0 : PySem.W.kitOne K (.ref C) (.ref c0) = some (decide (0 = j))) (q1 : PySem.W.kitOne K (.ref C) (.ref c1) = some (decide (1 = j))) (q2 : PySem.W.kitOne K (.ref C) (.ref c2) = some (decide (2 = j))) (q3 : PySem.W.kitOne K (.ref C) (.ref c3) = some (decide (3 = j))) (q4 : PySem.W.kitOne K (.ref C) (.ref c4) = some (decide (4 = j))) (q5 : PySem.W.kitOne K (.ref C) (.ref c5) = some (decide (5 = j))) (q6 : PySem.W.kitOne K (.ref C) (.ref c6) = some (decide (6 = j))) (q7 : PySem.W.kitOne K (.ref C) (.ref c7) = some (decide (7 = j))) (q8 : PySem.W.kitOne K (.ref C) (.ref c8) = some (decide (8 = j))) (q9 : PySem.W.kitOne K (.ref C) (.ref c9) = some (decide (9 = j))) (q10 : PySem.W.kitOne K (.ref C) (.ref c10) = some (decide (10 = j))) (q11 : PySem.W.kitOne K (.ref C) (.ref c11) = some (decide (11 = j))) (q12 : PySem.W.kitOne K (.ref C) (.ref c12) = some (decide (12 = j))) :
    ∀ i d, ([c0, c1, c2, c3, c4, c5, c6, c7, c8, c9, c10, c11, c12] : List Addr)[i]? = some d → PySem.W.kitOne K (.ref C) (.ref d) = some (decide (i = j)) := fun i d h => by
  match i, h with
  | 0, h => cases h; exact q0
  | 1, h => cases h; exact q1
  | 2, h => cases h; exact q2
  | 3, h => cases h; exact q3
  | 4, h => cases h; exact q4
  | 5, h => cases h; exact q5
  | 6, h => cases h; exact q6
  | 7, h => cases h; exact q7
  | 8, h => cases h; exact q8
  | 9, h => cases h; exact q9
  | 10, h => cases h; exact q10
  | 11, h => cases h; exact q11
  | 12, h => cases h; exact q12
  | n + 13, h => cases h
theorem all_mk {l : PySem.W.OpenLaw} {w : World} {K : PySem.W.Frag} {h : Heap} {mg : Str → Option Value} {fa C f1 f2 f3 f4 f5 f6 f7 f8 f9 f10 f11 f12 f13 f14 fm1 fm2 fm3 fm4 fm5 fm6 fm7 fm8 fm9 fm10 fm11 fm12 : Addr} (X : K.In h) (G : h.Ns mainGlobals mg) (hfa : mg "law" = some (.ref fa))
    {od1 an1 od2 an2 od3 an3 od4 an4 od5 an5 od6 an6 od7 an7 od8 an8 od9 an9 od10 an10 od11 an11 od12 an12 od13 an13 od14 an14 odm1 anm1 odm2 anm2 odm3 anm3 odm4 anm4 odm5 anm5 odm6 anm6 odm7 anm7 odm8 anm8 odm9 anm9 odm10 anm10 odm11 anm11 odm12 anm12 : Option Addr} {sl1 sl2 sl3 sl4 sl5 sl6 sl7 sl8 sl9 sl10 sl11 sl12 sl13 sl14 slm1 slm2 slm3 slm4 slm5 slm6 slm7 slm8 slm9 slm10 slm11 slm12 : Array (Option Value)} {oc1 kV1 dc1 pm1 cd1 ct1 oc2 kV2 dc2 pm2 cd2 ct2 oc3 kV3 dc3 pm3 cd3 ct3 oc4 kV4 dc4 pm4 cd4 ct4 oc5 kV5 dc5 pm5 cd5 ct5 oc6 kV6 dc6 pm6 cd6 ct6 oc7 kV7 dc7 pm7 cd7 ct7 oc8 kV8 dc8 pm8 cd8 ct8 oc9 kV9 dc9 pm9 cd9 ct9 oc10 kV10 dc10 pm10 cd10 ct10 oc11 kV11 dc11 pm11 cd11 ct11 oc12 kV12 dc12 pm12 cd12 ct12 oc13 kV13 dc13 pm13 cd13 ct13 oc14 kV14 dc14 pm14 cd14 ct14 ocm1 kVm1 dcm1 pmm1 cdm1 ctm1 ocm2 kVm2 dcm2 pmm2 cdm2 ctm2 ocm3 kVm3 dcm3 pmm3 cdm3 ctm3 ocm4 kVm4 dcm4 pmm4 cdm4 ctm4 ocm5 kVm5 dcm5 pmm5 cdm5 ctm5 ocm6 kVm6 dcm6 pmm6 cdm6 ctm6 ocm7 kVm7 dcm7 pmm7 cdm7 ctm7 ocm8 kVm8 dcm8 pmm8 cdm8 ctm8 ocm9 kVm9 dcm9 pmm9 cdm9 ctm9 ocm10 kVm10 dcm10 pmm10 cdm10 ctm10 ocm11 kVm11 dcm11 pmm11 cdm11 ctm11 ocm12 kVm12 dcm12 pmm12 cdm12 ctm12 : Value} 
    (aC : PySem.W.nsIn K mainGlobals "Sounder" = some (some (.ref C)))
    (am1 : PySem.W.findIn K (.ref C) "__init__" = some (some (.ref fm1))) (im1 : PySem.W.isFn K (.ref fm1) = true) (lm1 : K.lookup fm1 = some ⟨ocm1, odm1, .func (PySem.W.fnOf "__init__" "Sounder.__init__" (defArgs s_Sounder___init__) (defBody s_Sounder___init__) (defScope s_Sounder___init__) .none kVm1 dcm1 pmm1 anm1 cdm1 ctm1), slm1⟩) (cm1 : PySem.W.codeIn K cdm1 "Sounder.__init__" = true) (km1 : PySem.W.keepIn K (.ref fm1) = true)
    (am2 : PySem.W.findIn K (.ref C) "beat" = some (some (.ref fm2))) (im2 : PySem.W.isFn K (.ref fm2) = true) (lm2 : K.lookup fm2 = some ⟨ocm2, odm2, .func (PySem.W.fnOf "beat" "Sounder.beat" (defArgs s_Sounder_beat) (defBody s_Sounder_beat) (defScope s_Sounder_beat) .none kVm2 dcm2 pmm2 anm2 cdm2 ctm2), slm2⟩) (cm2 : PySem.W.codeIn K cdm2 "Sounder.beat" = true) (km2 : PySem.W.keepIn K (.ref fm2) = true)
    (am3 : PySem.W.findIn K (.ref C) "next_of" = some (some (.ref fm3))) (im3 : PySem.W.isFn K (.ref fm3) = true) (lm3 : K.lookup fm3 = some ⟨ocm3, odm3, .func (PySem.W.fnOf "next_of" "Sounder.next_of" (defArgs s_Sounder_next_of) (defBody s_Sounder_next_of) (defScope s_Sounder_next_of) .none kVm3 dcm3 pmm3 anm3 cdm3 ctm3), slm3⟩) (cm3 : PySem.W.codeIn K cdm3 "Sounder.next_of" = true) (km3 : PySem.W.keepIn K (.ref fm3) = true)
    (am4 : PySem.W.findIn K (.ref C) "count_unused" = some (some (.ref fm4))) (im4 : PySem.W.isFn K (.ref fm4) = true) (lm4 : K.lookup fm4 = some ⟨ocm4, odm4, .func (PySem.W.fnOf "count_unused" "Sounder.count_unused" (defArgs s_Sounder_count_unused) (defBody s_Sounder_count_unused) (defScope s_Sounder_count_unused) .none kVm4 dcm4 pmm4 anm4 cdm4 ctm4), slm4⟩) (cm4 : PySem.W.codeIn K cdm4 "Sounder.count_unused" = true) (km4 : PySem.W.keepIn K (.ref fm4) = true)
    (am5 : PySem.W.findIn K (.ref C) "standing_by" = some (some (.ref fm5))) (im5 : PySem.W.isFn K (.ref fm5) = true) (lm5 : K.lookup fm5 = some ⟨ocm5, odm5, .func (PySem.W.fnOf "standing_by" "Sounder.standing_by" (defArgs s_Sounder_standing_by) (defBody s_Sounder_standing_by) (defScope s_Sounder_standing_by) .none kVm5 dcm5 pmm5 anm5 cdm5 ctm5), slm5⟩) (cm5 : PySem.W.codeIn K cdm5 "Sounder.standing_by" = true) (km5 : PySem.W.keepIn K (.ref fm5) = true)
    (am6 : PySem.W.findIn K (.ref C) "put_all" = some (some (.ref fm6))) (im6 : PySem.W.isFn K (.ref fm6) = true) (lm6 : K.lookup fm6 = some ⟨ocm6, odm6, .func (PySem.W.fnOf "put_all" "Sounder.put_all" (defArgs s_Sounder_put_all) (defBody s_Sounder_put_all) (defScope s_Sounder_put_all) .none kVm6 dcm6 pmm6 anm6 cdm6 ctm6), slm6⟩) (cm6 : PySem.W.codeIn K cdm6 "Sounder.put_all" = true) (km6 : PySem.W.keepIn K (.ref fm6) = true)
    (am7 : PySem.W.findIn K (.ref C) "press" = some (some (.ref fm7))) (im7 : PySem.W.isFn K (.ref fm7) = true) (lm7 : K.lookup fm7 = some ⟨ocm7, odm7, .func (PySem.W.fnOf "press" "Sounder.press" (defArgs s_Sounder_press) (defBody s_Sounder_press) (defScope s_Sounder_press) .none kVm7 dcm7 pmm7 anm7 cdm7 ctm7), slm7⟩) (cm7 : PySem.W.codeIn K cdm7 "Sounder.press" = true) (km7 : PySem.W.keepIn K (.ref fm7) = true)
    (am8 : PySem.W.findIn K (.ref C) "silence" = some (some (.ref fm8))) (im8 : PySem.W.isFn K (.ref fm8) = true) (lm8 : K.lookup fm8 = some ⟨ocm8, odm8, .func (PySem.W.fnOf "silence" "Sounder.silence" (defArgs s_Sounder_silence) (defBody s_Sounder_silence) (defScope s_Sounder_silence) .none kVm8 dcm8 pmm8 anm8 cdm8 ctm8), slm8⟩) (cm8 : PySem.W.codeIn K cdm8 "Sounder.silence" = true) (km8 : PySem.W.keepIn K (.ref fm8) = true)
    (am9 : PySem.W.findIn K (.ref C) "reset" = some (some (.ref fm9))) (im9 : PySem.W.isFn K (.ref fm9) = true) (lm9 : K.lookup fm9 = some ⟨ocm9, odm9, .func (PySem.W.fnOf "reset" "Sounder.reset" (defArgs s_Sounder_reset) (defBody s_Sounder_reset) (defScope s_Sounder_reset) .none kVm9 dcm9 pmm9 anm9 cdm9 ctm9), slm9⟩) (cm9 : PySem.W.codeIn K cdm9 "Sounder.reset" = true) (km9 : PySem.W.keepIn K (.ref fm9) = true)
    (am10 : PySem.W.findIn K (.ref C) "check_address" = some (some (.ref fm10))) (im10 : PySem.W.isFn K (.ref fm10) = true) (lm10 : K.lookup fm10 = some ⟨ocm10, odm10, .func (PySem.W.fnOf "check_address" "Sounder.check_address" (defArgs s_Sounder_check_address) (defBody s_Sounder_check_address) (defScope s_Sounder_check_address) .none kVm10 dcm10 pmm10 anm10 cdm10 ctm10), slm10⟩) (cm10 : PySem.W.codeIn K cdm10 "Sounder.check_address" = true) (km10 : PySem.W.keepIn K (.ref fm10) = true)
    (am11 : PySem.W.findIn K (.ref C) "lengthen" = some (some (.ref fm11))) (im11 : PySem.W.isFn K (.ref fm11) = true) (lm11 : K.lookup fm11 = some ⟨ocm11, odm11, .func (PySem.W.fnOf "lengthen" "Sounder.lengthen" (defArgs s_Sounder_lengthen) (defBody s_Sounder_lengthen) (defScope s_Sounder_lengthen) .none kVm11 dcm11 pmm11 anm11 cdm11 ctm11), slm11⟩) (cm11 : PySem.W.codeIn K cdm11 "Sounder.lengthen" = true) (km11 : PySem.W.keepIn K (.ref fm11) = true)
    (am12 : PySem.W.findIn K (.ref C) "state_of" = some (some (.ref fm12))) (im12 : PySem.W.isFn K (.ref fm12) = true) (lm12 : K.lookup fm12 = some ⟨ocm12, odm12, .func (PySem.W.fnOf "state_of" "Sounder.state_of" (defArgs s_Sounder_state_of) (defBody s_Sounder_state_of) (defScope s_Sounder_state_of) .none kVm12 dcm12 pmm12 anm12 cdm12 ctm12), slm12⟩) (cm12 : PySem.W.codeIn K cdm12 "Sounder.state_of" = true) (km12 : PySem.W.keepIn K (.ref fm12) = true)
    (a1 : PySem.W.nsIn K mainGlobals "is_whole" = some (some (.ref f1))) (l1 : K.lookup f1 = some ⟨oc1, od1, .func (PySem.W.fnOf "is_whole" "is_whole" (defArgs s_is_whole) (defBody s_is_whole) (defScope s_is_whole) .none kV1 dc1 pm1 an1 cd1 ct1), sl1⟩) (c1 : PySem.W.codeIn K cd1 "is_whole" = true) (k1 : PySem.W.keepIn K (.ref f1) = true)
    (a2 : PySem.W.nsIn K mainGlobals "waiting" = some (some (.ref f2))) (l2 : K.lookup f2 = some ⟨oc2, od2, .func (PySem.W.fnOf "waiting" "waiting" (defArgs s_waiting) (defBody s_waiting) (defScope s_waiting) .none kV2 dc2 pm2 an2 cd2 ct2), sl2⟩) (c2 : PySem.W.codeIn K cd2 "waiting" = true) (k2 : PySem.W.keepIn K (.ref f2) = true)
    (a3 : PySem.W.nsIn K mainGlobals "_law_bag" = some (some (.ref f3))) (l3 : K.lookup f3 = some ⟨oc3, od3, .func (PySem.W.fnOf "_law_bag" "_law_bag" (defArgs s_l_bag) (defBody s_l_bag) (defScope s_l_bag) .none kV3 dc3 pm3 an3 cd3 ct3), sl3⟩) (c3 : PySem.W.codeIn K cd3 "_law_bag" = true) (k3 : PySem.W.keepIn K (.ref f3) = true)
    (a4 : PySem.W.nsIn K mainGlobals "_law_take" = some (some (.ref f4))) (l4 : K.lookup f4 = some ⟨oc4, od4, .func (PySem.W.fnOf "_law_take" "_law_take" (defArgs s_l_take) (defBody s_l_take) (defScope s_l_take) .none kV4 dc4 pm4 an4 cd4 ct4), sl4⟩) (c4 : PySem.W.codeIn K cd4 "_law_take" = true) (k4 : PySem.W.keepIn K (.ref f4) = true)
    (a5 : PySem.W.nsIn K mainGlobals "_law_outs" = some (some (.ref f5))) (l5 : K.lookup f5 = some ⟨oc5, od5, .func (PySem.W.fnOf "_law_outs" "_law_outs" (defArgs s_l_outs) (defBody s_l_outs) (defScope s_l_outs) .none kV5 dc5 pm5 an5 cd5 ct5), sl5⟩) (c5 : PySem.W.codeIn K cd5 "_law_outs" = true) (k5 : PySem.W.keepIn K (.ref f5) = true)
    (a6 : PySem.W.nsIn K mainGlobals "_law_wanted" = some (some (.ref f6))) (l6 : K.lookup f6 = some ⟨oc6, od6, .func (PySem.W.fnOf "_law_wanted" "_law_wanted" (defArgs s_l_wanted) (defBody s_l_wanted) (defScope s_l_wanted) .none kV6 dc6 pm6 an6 cd6 ct6), sl6⟩) (c6 : PySem.W.codeIn K cd6 "_law_wanted" = true) (k6 : PySem.W.keepIn K (.ref f6) = true)
    (a7 : PySem.W.nsIn K mainGlobals "_law_next" = some (some (.ref f7))) (l7 : K.lookup f7 = some ⟨oc7, od7, .func (PySem.W.fnOf "_law_next" "_law_next" (defArgs s_l_next) (defBody s_l_next) (defScope s_l_next) .none kV7 dc7 pm7 an7 cd7 ct7), sl7⟩) (c7 : PySem.W.codeIn K cd7 "_law_next" = true) (k7 : PySem.W.keepIn K (.ref f7) = true)
    (a8 : PySem.W.nsIn K mainGlobals "_law_beaten" = some (some (.ref f8))) (l8 : K.lookup f8 = some ⟨oc8, od8, .func (PySem.W.fnOf "_law_beaten" "_law_beaten" (defArgs s_l_beaten) (defBody s_l_beaten) (defScope s_l_beaten) .none kV8 dc8 pm8 an8 cd8 ct8), sl8⟩) (c8 : PySem.W.codeIn K cd8 "_law_beaten" = true) (k8 : PySem.W.keepIn K (.ref f8) = true)
    (a9 : PySem.W.nsIn K mainGlobals "_law_stand_right" = some (some (.ref f9))) (l9 : K.lookup f9 = some ⟨oc9, od9, .func (PySem.W.fnOf "_law_stand_right" "_law_stand_right" (defArgs s_l_stand_right) (defBody s_l_stand_right) (defScope s_l_stand_right) .none kV9 dc9 pm9 an9 cd9 ct9), sl9⟩) (c9 : PySem.W.codeIn K cd9 "_law_stand_right" = true) (k9 : PySem.W.keepIn K (.ref f9) = true)
    (a10 : PySem.W.nsIn K mainGlobals "_law_hand" = some (some (.ref f10))) (l10 : K.lookup f10 = some ⟨oc10, od10, .func (PySem.W.fnOf "_law_hand" "_law_hand" (defArgs s_l_hand) (defBody s_l_hand) (defScope s_l_hand) .none kV10 dc10 pm10 an10 cd10 ct10), sl10⟩) (c10 : PySem.W.codeIn K cd10 "_law_hand" = true) (k10 : PySem.W.keepIn K (.ref f10) = true)
    (a11 : PySem.W.nsIn K mainGlobals "_law_hand_done" = some (some (.ref f11))) (l11 : K.lookup f11 = some ⟨oc11, od11, .func (PySem.W.fnOf "_law_hand_done" "_law_hand_done" (defArgs s_l_hand_done) (defBody s_l_hand_done) (defScope s_l_hand_done) .none kV11 dc11 pm11 an11 cd11 ct11), sl11⟩) (c11 : PySem.W.codeIn K cd11 "_law_hand_done" = true) (k11 : PySem.W.keepIn K (.ref f11) = true)
    (a12 : PySem.W.nsIn K mainGlobals "_law_kind" = some (some (.ref f12))) (l12 : K.lookup f12 = some ⟨oc12, od12, .func (PySem.W.fnOf "_law_kind" "_law_kind" (defArgs s_l_kind) (defBody s_l_kind) (defScope s_l_kind) .none kV12 dc12 pm12 an12 cd12 ct12), sl12⟩) (c12 : PySem.W.codeIn K cd12 "_law_kind" = true) (k12 : PySem.W.keepIn K (.ref f12) = true)
    (a13 : PySem.W.nsIn K mainGlobals "_law_is_told" = some (some (.ref f13))) (l13 : K.lookup f13 = some ⟨oc13, od13, .func (PySem.W.fnOf "_law_is_told" "_law_is_told" (defArgs s_l_is_told) (defBody s_l_is_told) (defScope s_l_is_told) .none kV13 dc13 pm13 an13 cd13 ct13), sl13⟩) (c13 : PySem.W.codeIn K cd13 "_law_is_told" = true) (k13 : PySem.W.keepIn K (.ref f13) = true)
    (a14 : PySem.W.nsIn K mainGlobals "law" = some (some (.ref f14))) (l14 : K.lookup f14 = some ⟨oc14, od14, .func (PySem.W.fnOf "law" "law" (defArgs s_law) (defBody s_law) (defScope s_law) .none kV14 dc14 pm14 an14 cd14 ct14), sl14⟩) (c14 : PySem.W.codeIn K cd14 "law" = true) (k14 : PySem.W.keepIn K (.ref f14) = true)
    (pg : PySem.W.plainGet K C Str.empty = true) (hd : PySem.W.hasDictIn K C = true) (po : PySem.W.plainOver K C = true) (sa : PySem.W.findIn K (.ref C) "__setattr__" = some (some (.builtin "object.__setattr__"))) (mk : PySem.W.makesIn K C = true) (kc : PySem.W.keepIn K (.ref C) = true)
    (n0 : PySem.W.findIn K (.ref C) "delays" = some none)
    (n1 : PySem.W.findIn K (.ref C) "standing" = some none)
    (n2 : PySem.W.findIn K (.ref C) "lengthened" = some none)
    (n3 : PySem.W.findIn K (.ref C) "unused" = some none)
    (n4 : PySem.W.findIn K (.ref C) "wanted" = some none)
    (z0 : PySem.W.nsIn K mainGlobals "isinstance" = some none)
    (z1 : PySem.W.nsIn K mainGlobals "int" = some none)
    (z2 : PySem.W.nsIn K mainGlobals "bool" = some none)
    (z3 : PySem.W.nsIn K mainGlobals "tuple" = some none)
    (z4 : PySem.W.nsIn K mainGlobals "list" = some none)
    (z5 : PySem.W.nsIn K mainGlobals "str" = some none)
    (z6 : PySem.W.nsIn K mainGlobals "len" = some none)
    (z7 : PySem.W.nsIn K mainGlobals "all" = some none)
    (z8 : PySem.W.nsIn K mainGlobals "abs" = some none)
    (z9 : PySem.W.nsIn K mainGlobals "max" = some none)
    (z10 : PySem.W.nsIn K mainGlobals "min" = some none)
    (z11 : PySem.W.nsIn K mainGlobals "range" = some none)
    (z12 : PySem.W.nsIn K mainGlobals "sorted" = some none)
    (z13 : PySem.W.nsIn K mainGlobals "any" = some none)
    (z14 : PySem.W.nsIn K mainGlobals "sum" = some none)
    (z15 : PySem.W.nsIn K mainGlobals "enumerate" = some none)
    (z16 : PySem.W.nsIn K mainGlobals "zip" = some none)
    (z17 : PySem.W.nsIn K mainGlobals "reversed" = some none)
    (z18 : PySem.W.nsIn K mainGlobals "dict" = some none)
    (z19 : PySem.W.nsIn K mainGlobals "ord" = some none)
    {st so si : Addr} {ods odo : Option Addr} {nS nO : Nat} {slS slO : Array (Option Value)} {tk1 tk2 tk3 tk4 : Tok} {odi : Option Addr} {nI : Nat} {slI : Array (Option Value)} {tk5 tk6 : Tok} {hc u0 u1 u2 u3 u4 u5 u6 u7 u8 u9 u10 u11 u12 : Addr}
    (aS : PySem.W.nsIn K mainGlobals "STILL" = some (some (.ref st)))
    (lS : K.lookup st = some ⟨.type "tuple", ods, .seq #[.str "still" tk1, .int 0 tk2] nS, slS⟩)
    (aO : PySem.W.nsIn K mainGlobals "SOUNDING" = some (some (.ref so)))
    (lO : K.lookup so = some ⟨.type "tuple", odo, .seq #[.str "sounding" tk3, .int 0 tk4] nO, slO⟩)
    (aI : PySem.W.nsIn K mainGlobals "SILENCED" = some (some (.ref si)))
    (lI : K.lookup si = some ⟨.type "tuple", odi, .seq #[.str "silenced" tk5, .int 0 tk6] nI, slI⟩)
    (xzv : PySem.W.nsIn K mainGlobals "ValueError" = some none)
    (xeh : PySem.W.nsIn K mainGlobals "HouseError" = some (some (.ref hc)))
    (xe0 : PySem.W.nsIn K mainGlobals "NoPlan" = some (some (.ref u0)))
    (xe1 : PySem.W.nsIn K mainGlobals "NoText" = some (some (.ref u1)))
    (xe2 : PySem.W.nsIn K mainGlobals "NoStretch" = some (some (.ref u2)))
    (xe3 : PySem.W.nsIn K mainGlobals "NoSpot" = some (some (.ref u3)))
    (xe4 : PySem.W.nsIn K mainGlobals "NoOpener" = some (some (.ref u4)))
    (xe5 : PySem.W.nsIn K mainGlobals "NoAddress" = some (some (.ref u5)))
    (xe6 : PySem.W.nsIn K mainGlobals "NoRules" = some (some (.ref u6)))
    (xe7 : PySem.W.nsIn K mainGlobals "NoHand" = some (some (.ref u7)))
    (xe8 : PySem.W.nsIn K mainGlobals "NoPanel" = some (some (.ref u8)))
    (xe9 : PySem.W.nsIn K mainGlobals "NoLink" = some (some (.ref u9)))
    (xe10 : PySem.W.nsIn K mainGlobals "NoLog" = some (some (.ref u10)))
    (xe11 : PySem.W.nsIn K mainGlobals "NoDeed" = some (some (.ref u11)))
    (xe12 : PySem.W.nsIn K mainGlobals "NoRow" = some (some (.ref u12)))
    (xhx : PySem.W.excIn K hc [.type "ValueError", .type "Exception", .type "BaseException", .type "object"] "ValueError.__new__" = true)
    (xha : PySem.W.findIn K (.ref hc) "__getattribute__" = some (some (.builtin "BaseException.__getattribute__")))
    (xhn : PySem.W.findIn K (.ref hc) "__getattr__" = some none)
    (xhc : PySem.W.findIn K (.ref hc) "__class__" = some (some (.builtin "object.__class__")))
    (xho : PySem.W.subIn K (.ref hc) (.type "object") = some true)
    (xhb : PySem.W.subIn K (.ref hc) (.type "BaseException") = some true)
    (xhk : PySem.W.keepIn K (.ref hc) = true)
    (k5px : PySem.W.excIn K u5 [.type "ValueError", .type "Exception", .type "BaseException", .type "object"] "ValueError.__new__" = true)
    (k5pa : PySem.W.findIn K (.ref u5) "__getattribute__" = some (some (.builtin "BaseException.__getattribute__")))
    (k5pn : PySem.W.findIn K (.ref u5) "__getattr__" = some none)
    (k5pc : PySem.W.findIn K (.ref u5) "__class__" = some (some (.builtin "object.__class__")))
    (k5po : PySem.W.subIn K (.ref u5) (.type "object") = some true)
    (k5pb : PySem.W.subIn K (.ref u5) (.type "BaseException") = some true)
    (k5pk : PySem.W.keepIn K (.ref u5) = true)
    (k5su : PySem.W.subIn K (.ref u5) (.ref hc) = some true)
    (k5q0 : PySem.W.kitOne K (.ref u5) (.ref u0) = some false)
    (k5q1 : PySem.W.kitOne K (.ref u5) (.ref u1) = some false)
    (k5q2 : PySem.W.kitOne K (.ref u5) (.ref u2) = some false)
    (k5q3 : PySem.W.kitOne K (.ref u5) (.ref u3) = some false)
    (k5q4 : PySem.W.kitOne K (.ref u5) (.ref u4) = some false)
    (k5q5 : PySem.W.kitOne K (.ref u5) (.ref u5) = some true)
    (k5q6 : PySem.W.kitOne K (.ref u5) (.ref u6) = some false)
    (k5q7 : PySem.W.kitOne K (.ref u5) (.ref u7) = some false)
    (k5q8 : PySem.W.kitOne K (.ref u5) (.ref u8) = some false)
    (k5q9 : PySem.W.kitOne K (.ref u5) (.ref u9) = some false)
    (k5q10 : PySem.W.kitOne K (.ref u5) (.ref u10) = some false)
    (k5q11 : PySem.W.kitOne K (.ref u5) (.ref u11) = some false)
    (k5q12 : PySem.W.kitOne K (.ref u5) (.ref u12) = some false)
    (k5qv : PySem.W.kitOne K (.ref u5) (.type "ValueError") = some true)
    (k7px : PySem.W.excIn K u7 [.type "ValueError", .type "Exception", .type "BaseException", .type "object"] "ValueError.__new__" = true)
    (k7pa : PySem.W.findIn K (.ref u7) "__getattribute__" = some (some (.builtin "BaseException.__getattribute__")))
    (k7pn : PySem.W.findIn K (.ref u7) "__getattr__" = some none)
    (k7pc : PySem.W.findIn K (.ref u7) "__class__" = some (some (.builtin "object.__class__")))
    (k7po : PySem.W.subIn K (.ref u7) (.type "object") = some true)
    (k7pb : PySem.W.subIn K (.ref u7) (.type "BaseException") = some true)
    (k7pk : PySem.W.keepIn K (.ref u7) = true)
    (k7su : PySem.W.subIn K (.ref u7) (.ref hc) = some true)
    (k7q0 : PySem.W.kitOne K (.ref u7) (.ref u0) = some false)
    (k7q1 : PySem.W.kitOne K (.ref u7) (.ref u1) = some false)
    (k7q2 : PySem.W.kitOne K (.ref u7) (.ref u2) = some false)
    (k7q3 : PySem.W.kitOne K (.ref u7) (.ref u3) = some false)
    (k7q4 : PySem.W.kitOne K (.ref u7) (.ref u4) = some false)
    (k7q5 : PySem.W.kitOne K (.ref u7) (.ref u5) = some false)
    (k7q6 : PySem.W.kitOne K (.ref u7) (.ref u6) = some false)
    (k7q7 : PySem.W.kitOne K (.ref u7) (.ref u7) = some true)
    (k7q8 : PySem.W.kitOne K (.ref u7) (.ref u8) = some false)
    (k7q9 : PySem.W.kitOne K (.ref u7) (.ref u9) = some false)
    (k7q10 : PySem.W.kitOne K (.ref u7) (.ref u10) = some false)
    (k7q11 : PySem.W.kitOne K (.ref u7) (.ref u11) = some false)
    (k7q12 : PySem.W.kitOne K (.ref u7) (.ref u12) = some false)
    (k7qv : PySem.W.kitOne K (.ref u7) (.type "ValueError") = some true)
    : ∃ fd : FuncData, (∀ (s : Shared) (v : Value), BindsTo s fd ⟨[v], []⟩ [("_law_script", v)]) ∧ ∀ base : Heap, K.In base → base.Ns mainGlobals mg → FnOk l.prog w K mg base CX0 5 fa fd ["_law_script"] (spLaw K) := by
  have e := hfa.symm.trans (PySem.W.mg_of X G a14)
  cases e
  have TN : Nm mg := ⟨PySem.W.mg_none_of X G z0, PySem.W.mg_none_of X G z1, PySem.W.mg_none_of X G z2, PySem.W.mg_none_of X G z3, PySem.W.mg_none_of X G z4, PySem.W.mg_none_of X G z5, PySem.W.mg_none_of X G z6, PySem.W.mg_none_of X G z7, PySem.W.mg_none_of X G z8, PySem.W.mg_none_of X G z9, PySem.W.mg_none_of X G z10, PySem.W.mg_none_of X G z11, PySem.W.mg_none_of X G z12, PySem.W.mg_none_of X G z13, PySem.W.mg_none_of X G z14, PySem.W.mg_none_of X G z15, PySem.W.mg_none_of X G z16, PySem.W.mg_none_of X G z17, PySem.W.mg_none_of X G z18, PySem.W.mg_none_of X G z19⟩
  have T : Tx K mg C st so si := { toNm := TN, cl := ⟨pg, hd, po, sa⟩, mgC := PySem.W.mg_of X G aC, n_delays := n0, n_standing := n1, n_lengthened := n2, n_unused := n3, n_wanted := n4, STILL := ⟨_, PySem.W.mg_of X G aS, rfl⟩, SOUNDING := ⟨_, PySem.W.mg_of X G aO, rfl⟩, SILENCED := ⟨_, PySem.W.mg_of X G aI, rfl⟩, silenced := fun H => .inr ⟨_, _, _, lI, rfl, rfl, (by show 2 ≤ sizeLine; decide), .cons ⟨_, rfl⟩ (.cons ⟨_, rfl⟩ .nil)⟩, still := fun H => .inr ⟨_, _, _, lS, rfl, rfl, (by show 2 ≤ sizeLine; decide), .cons ⟨_, rfl⟩ (.cons ⟨_, rfl⟩ .nil)⟩, sounding := fun H => .inr ⟨_, _, _, lO, rfl, rfl, (by show 2 ≤ sizeLine; decide), .cons ⟨_, rfl⟩ (.cons ⟨_, rfl⟩ .nil)⟩ }
  have XE : Er K mg hc u0 u1 u2 u3 u4 u5 u6 u7 u8 u9 u10 u11 u12 := ⟨PySem.W.mg_none_of X G xzv, PySem.W.mg_of X G xeh, ⟨xhx, xha, xhn, xhc, xho, xhb, xhk⟩, PySem.W.mg_of X G xe0, PySem.W.mg_of X G xe1, PySem.W.mg_of X G xe2, PySem.W.mg_of X G xe3, PySem.W.mg_of X G xe4, PySem.W.mg_of X G xe5, PySem.W.mg_of X G xe6, PySem.W.mg_of X G xe7, PySem.W.mg_of X G xe8, PySem.W.mg_of X G xe9, PySem.W.mg_of X G xe10, PySem.W.mg_of X G xe11, PySem.W.mg_of X G xe12⟩
  have k_NoAddress : Knd K hc u5 [u0, u1, u2, u3, u4, u5, u6, u7, u8, u9, u10, u11, u12] 5 := ⟨⟨k5px, k5pa, k5pn, k5pc, k5po, k5pb, k5pk⟩, k5su, kit13 (j := 5) k5q0 k5q1 k5q2 k5q3 k5q4 k5q5 k5q6 k5q7 k5q8 k5q9 k5q10 k5q11 k5q12, k5qv⟩
  have k_NoHand : Knd K hc u7 [u0, u1, u2, u3, u4, u5, u6, u7, u8, u9, u10, u11, u12] 7 := ⟨⟨k7px, k7pa, k7pn, k7pc, k7po, k7pb, k7pk⟩, k7su, kit13 (j := 7) k7q0 k7q1 k7q2 k7q3 k7q4 k7q5 k7q6 k7q7 k7q8 k7q9 k7q10 k7q11 k7q12, k7qv⟩
  have Fm1 := fun_mk (st := s_Sounder___init__) lm1 cm1 km1
  have bm1 := Fm1.binds (ps := p_Sounder___init__) fun _ _ _ _ _ _ us hl => match us, hl with | [_, _], _ => rfl
  have M___init__ : ∃ f fd, Fun K "__init__" "Sounder.__init__" s_Sounder___init__ f fd ∧ Mk K C f ∧ Binds K fd p_Sounder___init__ [] := ⟨fm1, _, Fm1, ⟨mk, am1, im1, kc⟩, bm1⟩
  have Fm2 := fun_mk (st := s_Sounder_beat) lm2 cm2 km2
  have bm2 := Fm2.binds (ps := p_Sounder_beat) fun _ _ _ _ _ _ us hl => match us, hl with | [_, _], _ => rfl
  have M_beat : CodeM K C "beat" "Sounder.beat" s_Sounder_beat p_Sounder_beat := ⟨fm2, _, Fm2, ⟨am2, im2, km2⟩, bm2⟩
  have Fm3 := fun_mk (st := s_Sounder_next_of) lm3 cm3 km3
  have bm3 := Fm3.binds (ps := p_Sounder_next_of) fun _ _ _ _ _ _ us hl => match us, hl with | [_, _, _, _], _ => rfl
  have M_next_of : CodeM K C "next_of" "Sounder.next_of" s_Sounder_next_of p_Sounder_next_of := ⟨fm3, _, Fm3, ⟨am3, im3, km3⟩, bm3⟩
  have Fm4 := fun_mk (st := s_Sounder_count_unused) lm4 cm4 km4
  have bm4 := Fm4.binds (ps := p_Sounder_count_unused) fun _ _ _ _ _ _ us hl => match us, hl with | [_], _ => rfl
  have M_count_unused : CodeM K C "count_unused" "Sounder.count_unused" s_Sounder_count_unused p_Sounder_count_unused := ⟨fm4, _, Fm4, ⟨am4, im4, km4⟩, bm4⟩
  have Fm5 := fun_mk (st := s_Sounder_standing_by) lm5 cm5 km5
  have bm5 := Fm5.binds (ps := p_Sounder_standing_by) fun _ _ _ _ _ _ us hl => match us, hl with | [_, _], _ => rfl
  have M_standing_by : CodeM K C "standing_by" "Sounder.standing_by" s_Sounder_standing_by p_Sounder_standing_by := ⟨fm5, _, Fm5, ⟨am5, im5, km5⟩, bm5⟩
  have Fm6 := fun_mk (st := s_Sounder_put_all) lm6 cm6 km6
  have bm6 := Fm6.binds (ps := p_Sounder_put_all) fun _ _ _ _ _ _ us hl => match us, hl with | [_, _, _], _ => rfl
  have M_put_all : CodeM K C "put_all" "Sounder.put_all" s_Sounder_put_all p_Sounder_put_all := ⟨fm6, _, Fm6, ⟨am6, im6, km6⟩, bm6⟩
  have Fm7 := fun_mk (st := s_Sounder_press) lm7 cm7 km7
  have bm7 := Fm7.binds (ps := p_Sounder_press) fun _ _ _ _ _ _ us hl => match us, hl with | [_], _ => rfl
  have M_press : CodeM K C "press" "Sounder.press" s_Sounder_press p_Sounder_press := ⟨fm7, _, Fm7, ⟨am7, im7, km7⟩, bm7⟩
  have Fm8 := fun_mk (st := s_Sounder_silence) lm8 cm8 km8
  have bm8 := Fm8.binds (ps := p_Sounder_silence) fun _ _ _ _ _ _ us hl => match us, hl with | [_], _ => rfl
  have M_silence : CodeM K C "silence" "Sounder.silence" s_Sounder_silence p_Sounder_silence := ⟨fm8, _, Fm8, ⟨am8, im8, km8⟩, bm8⟩
  have Fm9 := fun_mk (st := s_Sounder_reset) lm9 cm9 km9
  have bm9 := Fm9.binds (ps := p_Sounder_reset) fun _ _ _ _ _ _ us hl => match us, hl with | [_], _ => rfl
  have M_reset : CodeM K C "reset" "Sounder.reset" s_Sounder_reset p_Sounder_reset := ⟨fm9, _, Fm9, ⟨am9, im9, km9⟩, bm9⟩
  have Fm10 := fun_mk (st := s_Sounder_check_address) lm10 cm10 km10
  have bm10 := Fm10.binds (ps := p_Sounder_check_address) fun _ _ _ _ _ _ us hl => match us, hl with | [_, _], _ => rfl
  have M_check_address : CodeM K C "check_address" "Sounder.check_address" s_Sounder_check_address p_Sounder_check_address := ⟨fm10, _, Fm10, ⟨am10, im10, km10⟩, bm10⟩
  have Fm11 := fun_mk (st := s_Sounder_lengthen) lm11 cm11 km11
  have bm11 := Fm11.binds (ps := p_Sounder_lengthen) fun _ _ _ _ _ _ us hl => match us, hl with | [_, _], _ => rfl
  have M_lengthen : CodeM K C "lengthen" "Sounder.lengthen" s_Sounder_lengthen p_Sounder_lengthen := ⟨fm11, _, Fm11, ⟨am11, im11, km11⟩, bm11⟩
  have Fm12 := fun_mk (st := s_Sounder_state_of) lm12 cm12 km12
  have bm12 := Fm12.binds (ps := p_Sounder_state_of) fun _ _ _ _ _ _ us hl => match us, hl with | [_, _], _ => rfl
  have M_state_of : CodeM K C "state_of" "Sounder.state_of" s_Sounder_state_of p_Sounder_state_of := ⟨fm12, _, Fm12, ⟨am12, im12, km12⟩, bm12⟩
  have C_is_whole : Code K mg "is_whole" s_is_whole p_is_whole := Code.of X G a1 l1 c1 k1 fun _ _ _ _ _ _ us hl => match us, hl with | [_], _ => rfl
  have C_waiting : Code K mg "waiting" s_waiting p_waiting := Code.of X G a2 l2 c2 k2 fun _ _ _ _ _ _ us hl => match us, hl with | [_], _ => rfl
  have C_l_bag : Code K mg "_law_bag" s_l_bag p_l_bag := Code.of X G a3 l3 c3 k3 fun _ _ _ _ _ _ us hl => match us, hl with | [_, _], _ => rfl
  have C_l_take : Code K mg "_law_take" s_l_take p_l_take := Code.of X G a4 l4 c4 k4 fun _ _ _ _ _ _ us hl => match us, hl with | [_, _], _ => rfl
  have C_l_outs : Code K mg "_law_outs" s_l_outs p_l_outs := Code.of X G a5 l5 c5 k5 fun _ _ _ _ _ _ us hl => match us, hl with | [_], _ => rfl
  have C_l_wanted : Code K mg "_law_wanted" s_l_wanted p_l_wanted := Code.of X G a6 l6 c6 k6 fun _ _ _ _ _ _ us hl => match us, hl with | [_, _, _, _], _ => rfl
  have C_l_next : Code K mg "_law_next" s_l_next p_l_next := Code.of X G a7 l7 c7 k7 fun _ _ _ _ _ _ us hl => match us, hl with | [_, _, _, _], _ => rfl
  have C_l_beaten : Code K mg "_law_beaten" s_l_beaten p_l_beaten := Code.of X G a8 l8 c8 k8 fun _ _ _ _ _ _ us hl => match us, hl with | [_, _, _, _], _ => rfl
  have C_l_stand_right : Code K mg "_law_stand_right" s_l_stand_right p_l_stand_right := Code.of X G a9 l9 c9 k9 fun _ _ _ _ _ _ us hl => match us, hl with | [_, _, _], _ => rfl
  have C_l_hand : Code K mg "_law_hand" s_l_hand p_l_hand := Code.of X G a10 l10 c10 k10 fun _ _ _ _ _ _ us hl => match us, hl with | [_, _, _, _, _, _], _ => rfl
  have C_l_hand_done : Code K mg "_law_hand_done" s_l_hand_done p_l_hand_done := Code.of X G a11 l11 c11 k11 fun _ _ _ _ _ _ us hl => match us, hl with | [_, _, _], _ => rfl
  have C_l_kind : Code K mg "_law_kind" s_l_kind p_l_kind := Code.of X G a12 l12 c12 k12 fun _ _ _ _ _ _ us hl => match us, hl with | [_], _ => rfl
  have C_l_is_told : Code K mg "_law_is_told" s_l_is_told p_l_is_told := Code.of X G a13 l13 c13 k13 fun _ _ _ _ _ _ us hl => match us, hl with | [_, _], _ => rfl
  have F_law := fun_mk (st := s_law) l14 c14 k14
  refine ⟨PySem.W.fnOf "law" "law" (defArgs s_law) (defBody s_law) (defScope s_law) .none kV14 dc14 pm14 an14 cd14 ct14, fun s v => .of_eq rfl, fun base _ _ => ?_⟩
  have g_l_bag := ok_l_bag (P := l.prog) (w := w) (base := base) C_l_bag TN
  have g_l_take := ok_l_take (P := l.prog) (w := w) (base := base) C_l_take TN
  have h_kind := ok_kind (P := l.prog) (w := w) (base := base) C_l_kind TN XE
  have g_whole := ok_whole (P := l.prog) (w := w) (base := base) C_is_whole T
  have g_wait := ok_waiting (P := l.prog) (w := w) (base := base) C_waiting T
  have g_next := ok_next (P := l.prog) (w := w) (base := base) M_next_of T g_wait
  have g_count := ok_count (P := l.prog) (w := w) (base := base) M_count_unused T
  have g_check := ok_check (P := l.prog) (w := w) (base := base) M_check_address T XE k_NoAddress g_whole
  have g_state := ok_state (P := l.prog) (w := w) (base := base) M_state_of T g_check
  have g_beat := ok_beat (P := l.prog) (w := w) (base := base) M_beat T g_next g_count
  have g_init := ok_init (P := l.prog) (w := w) (base := base) M___init__ T
  have g_by := ok_by (P := l.prog) (w := w) (base := base) M_standing_by T
  have g_put := ok_put (P := l.prog) (w := w) (base := base) M_put_all T
  have g_press := ok_press (P := l.prog) (w := w) (base := base) M_press T g_by g_put g_wait
  have g_sil := ok_silence (P := l.prog) (w := w) (base := base) M_silence T g_by g_put
  have g_res := ok_reset (P := l.prog) (w := w) (base := base) M_reset T g_by g_put
  have g_len := ok_lengthen (P := l.prog) (w := w) (base := base) M_lengthen T XE k_NoHand g_check g_wait
  have g_outs := ok_outs (P := l.prog) (w := w) (base := base) C_l_outs T g_l_take
  have g_wan := ok_wanted (P := l.prog) (w := w) (base := base) C_l_wanted T g_l_take
  have g_ln := ok_lnext (P := l.prog) (w := w) (base := base) C_l_next T
  have g_bt := ok_beaten (P := l.prog) (w := w) (base := base) C_l_beaten T g_ln
  have g_sr := ok_stand (P := l.prog) (w := w) (base := base) C_l_stand_right T g_state
  have g_hand := ok_hand (P := l.prog) (w := w) (base := base) C_l_hand T
  have g_told := ok_told (P := l.prog) (w := w) (base := base) C_l_is_told T
  have g_done := ok_done (P := l.prog) (w := w) (base := base) C_l_hand_done T XE k_NoAddress k_NoHand g_press g_sil g_res g_len h_kind
  exact ok_law F_law T g_l_bag g_l_take g_outs g_init g_sr g_wan g_bt g_beat g_hand g_done g_told
theorem walk {l : PySem.W.OpenLaw} {q : Program} {loose : List Str} {XP : (Str → Option Value) → Heap → Prop} {YP : World → Heap → Prop} {d : DefRec} {K : Params → PySem.W.Frag} (hn : l.most = some 63) (hdf : d.params.defaults = [])
    (hY : ∀ (w : World) (h : Heap), YP w h → (K w.params).In h)
    (F : ∀ (w : World) (mg : Str → Option Value) (fa : Addr) (h : Heap), (K w.params).In h → h.Ns mainGlobals mg → mg d.name = some (.ref fa) →
      ∃ fd : FuncData, (∀ (s : Shared) (u : Value), BindsTo s fd ⟨[u], []⟩ [("_law_script", u)]) ∧ ∀ base : Heap, (K w.params).In base → base.Ns mainGlobals mg → FnOk l.prog w (K w.params) mg base CX0 5 fa fd ["_law_script"] (spLaw (K w.params))) :
    PySem.W.WalkO q loose XP YP l.row.toRowW d [] (fun f vs => PySem.call f vs) :=
  L2.walk_of (n := 63) (k := 5) (x := "_law_script") (CX := fun _ => CX0) (sp := fun w => spLaw (K w.params)) hn (by decide) hdf ⟨rfl, by decide, by decide⟩ hY F (fun _ _ a ns hl _ hS => ⟨a, ns, rfl, hS, hl, fun _ => rfl⟩) fun _ _ _ _ _ z => z
end K31
/-! names that stay free of quick twins: the head comes through without them, and the compiled text is much smaller -/
def PySem.W.Fast.tw10508977230226813983 : Nat := 0
def PySem.W.Fast.tw5541729032672950404 : Nat := 0
def PySem.W.Fast.tw10999659098297334919 : Nat := 0
def PySem.W.Fast.tw6114348636771929373 : Nat := 0
def PySem.W.Fast.tw13574081561410484009 : Nat := 0
def PySem.W.Fast.tw9586169091597060732 : Nat := 0
def PySem.W.Fast.tw7892687780898026905 : Nat := 0
def PySem.W.Fast.tw15862609268181383155 : Nat := 0
def PySem.W.Fast.tw4681636825197014493 : Nat := 0
def PySem.W.Fast.tw7762119322538292391 : Nat := 0
def PySem.W.Fast.tw16767712190270366741 : Nat := 0
def PySem.W.Fast.tw4157059130380648388 : Nat := 0
def PySem.W.Fast.tw11150753215529465124 : Nat := 0
def PySem.W.Fast.tw13607528935313235360 : Nat := 0
def PySem.W.Fast.tw8649351862984877704 : Nat := 0
def PySem.W.Fast.tw15002979688724828834 : Nat := 0
def PySem.W.Fast.tw7471300123949914741 : Nat := 0
def PySem.W.Fast.tw9519399699499110105 : Nat := 0
def PySem.W.Fast.tw12114406090948767476 : Nat := 0
def PySem.W.Fast.tw442070506307235421 : Nat := 0
def PySem.W.Fast.tw6877482910156636958 : Nat := 0
def PySem.W.Fast.tw17246873625802936297 : Nat := 0
def PySem.W.Fast.tw8998329187350224773 : Nat := 0
open PySem PySem.W PyProof.Rows
set_option maxRecDepth 100000 in
set_option maxHeartbeats 0 in
theorem PySem.Challenge.cw_warnloop_k31_hands_holds : PySem.Challenge.rw_warnloop_k31_hands.Holds := by
  w_on; o_law; k_head; (case hw => w_witness2)
  k_fill
  refine K31.walk (l := PySem.Challenge.rw_warnloop_k31_hands) rfl rfl (fun w h Y => PySem.W.kIn_of Y) ?F
  case F =>
    intro w mg fa h KX G hmg
    refine' K31.all_mk KX G hmg ?aC ?am1 ?im1 ?lm1 ?cm1 ?km1 ?am2 ?im2 ?lm2 ?cm2 ?km2 ?am3 ?im3 ?lm3 ?cm3 ?km3 ?am4 ?im4 ?lm4 ?cm4 ?km4 ?am5 ?im5 ?lm5 ?cm5 ?km5 ?am6 ?im6 ?lm6 ?cm6 ?km6 ?am7 ?im7 ?lm7 ?cm7 ?km7 ?am8 ?im8 ?lm8 ?cm8 ?km8 ?am9 ?im9 ?lm9 ?cm9 ?km9 ?am10 ?im10 ?lm10 ?cm10 ?km10 ?am11 ?im11 ?lm11 ?cm11 ?km11 ?am12 ?im12 ?lm12 ?cm12 ?km12 ?a1 ?l1 ?c1 ?k1 ?a2 ?l2 ?c2 ?k2 ?a3 ?l3 ?c3 ?k3 ?a4 ?l4 ?c4 ?k4 ?a5 ?l5 ?c5 ?k5 ?a6 ?l6 ?c6 ?k6 ?a7 ?l7 ?c7 ?k7 ?a8 ?l8 ?c8 ?k8 ?a9 ?l9 ?c9 ?k9 ?a10 ?l10 ?c10 ?k10 ?a11 ?l11 ?c11 ?k11 ?a12 ?l12 ?c12 ?k12 ?a13 ?l13 ?c13 ?k13 ?a14 ?l14 ?c14 ?k14 ?pg ?hd ?po ?sa ?mk ?kc ?n0 ?n1 ?n2 ?n3 ?n4 ?z0 ?z1 ?z2 ?z3 ?z4 ?z5 ?z6 ?z7 ?z8 ?z9 ?z10 ?z11 ?z12 ?z13 ?z14 ?z15 ?z16 ?z17 ?z18 ?z19 ?aS ?lS ?aO ?lO ?aI ?lI ?xzv ?xeh ?xe0 ?xe1 ?xe2 ?xe3 ?xe4 ?xe5 ?xe6 ?xe7 ?xe8 ?xe9 ?xe10 ?xe11 ?xe12 ?xhx ?xha ?xhn ?xhc ?xho ?xhb ?xhk ?k5px ?k5pa ?k5pn ?k5pc ?k5po ?k5pb ?k5pk ?k5su ?k5q0 ?k5q1 ?k5q2 ?k5q3 ?k5q4 ?k5q5 ?k5q6 ?k5q7 ?k5q8 ?k5q9 ?k5q10 ?k5q11 ?k5q12 ?k5qv ?k7px ?k7pa ?k7pn ?k7pc ?k7po ?k7pb ?k7pk ?k7su ?k7q0 ?k7q1 ?k7q2 ?k7q3 ?k7q4 ?k7q5 ?k7q6 ?k7q7 ?k7q8 ?k7q9 ?k7q10 ?k7q11 ?k7q12 ?k7qv
    (case aC => k_is)
    (case am1 => k_is)
    (case im1 => k_is)
    (case lm1 => k_is)
    (case cm1 => k_is)
    (case km1 => k_is)
    (case am2 => k_is)
    (case im2 => k_is)
    (case lm2 => k_is)
    (case cm2 => k_is)
    (case km2 => k_is)
    (case am3 => k_is)
    (case im3 => k_is)
    (case lm3 => k_is)
    (case cm3 => k_is)
    (case km3 => k_is)
    (case am4 => k_is)
    (case im4 => k_is)
    (case lm4 => k_is)
    (case cm4 => k_is)
    (case km4 => k_is)
    (case am5 => k_is)
    (case im5 => k_is)
    (case lm5 => k_is)
    (case cm5 => k_is)
    (case km5 => k_is)
    (case am6 => k_is)
    (case im6 => k_is)
    (case lm6 => k_is)
    (case cm6 => k_is)
    (case km6 => k_is)
    (case am7 => k_is)
    (case im7 => k_is)
    (case lm7 => k_is)
    (case cm7 => k_is)
    (case km7 => k_is)
    (case am8 => k_is)
    (case im8 => k_is)
    (case lm8 => k_is)
    (case cm8 => k_is)
    (case km8 => k_is)
    (case am9 => k_is)
    (case im9 => k_is)
    (case lm9 => k_is)
    (case cm9 => k_is)
    (case km9 => k_is)
    (case am10 => k_is)
    (case im10 => k_is)
    (case lm10 => k_is)
    (case cm10 => k_is)
    (case km10 => k_is)
    (case am11 => k_is)
    (case im11 => k_is)
    (case lm11 => k_is)
    (case cm11 => k_is)
    (case km11 => k_is)
    (case am12 => k_is)
    (case im12 => k_is)
    (case lm12 => k_is)
    (case cm12 => k_is)
    (case km12 => k_is)
    (case a1 => k_is)
    (case l1 => k_is)
    (case c1 => k_is)
    (case k1 => k_is)
    (case a2 => k_is)
    (case l2 => k_is)
    (case c2 => k_is)
    (case k2 => k_is)
    (case a3 => k_is)
    (case l3 => k_is)
    (case c3 => k_is)
    (case k3 => k_is)
    (case a4 => k_is)
    (case l4 => k_is)
    (case c4 => k_is)
    (case k4 => k_is)
    (case a5 => k_is)
    (case l5 => k_is)
    (case c5 => k_is)
    (case k5 => k_is)
    (case a6 => k_is)
    (case l6 => k_is)
    (case c6 => k_is)
    (case k6 => k_is)
    (case a7 => k_is)
    (case l7 => k_is)
    (case c7 => k_is)
    (case k7 => k_is)
    (case a8 => k_is)
    (case l8 => k_is)
    (case c8 => k_is)
    (case k8 => k_is)
    (case a9 => k_is)
    (case l9 => k_is)
    (case c9 => k_is)
    (case k9 => k_is)
    (case a10 => k_is)
    (case l10 => k_is)
    (case c10 => k_is)
    (case k10 => k_is)
    (case a11 => k_is)
    (case l11 => k_is)
    (case c11 => k_is)
    (case k11 => k_is)
    (case a12 => k_is)
    (case l12 => k_is)
    (case c12 => k_is)
    (case k12 => k_is)
    (case a13 => k_is)
    (case l13 => k_is)
    (case c13 => k_is)
    (case k13 => k_is)
    (case a14 => k_is)
    (case l14 => k_is)
    (case c14 => k_is)
    (case k14 => k_is)
    (case pg => k_is)
    (case hd => k_is)
    (case po => k_is)
    (case sa => k_is)
    (case mk => k_is)
    (case kc => k_is)
    (case n0 => k_is)
    (case n1 => k_is)
    (case n2 => k_is)
    (case n3 => k_is)
    (case n4 => k_is)
    (case z0 => k_is)
    (case z1 => k_is)
    (case z2 => k_is)
    (case z3 => k_is)
    (case z4 => k_is)
    (case z5 => k_is)
    (case z6 => k_is)
    (case z7 => k_is)
    (case z8 => k_is)
    (case z9 => k_is)
    (case z10 => k_is)
    (case z11 => k_is)
    (case z12 => k_is)
    (case z13 => k_is)
    (case z14 => k_is)
    (case z15 => k_is)
    (case z16 => k_is)
    (case z17 => k_is)
    (case z18 => k_is)
    (case z19 => k_is)
    (case aS => k_is)
    (case lS => k_is)
    (case aO => k_is)
    (case lO => k_is)
    (case aI => k_is)
    (case lI => k_is)
    (case xzv => k_is)
    (case xeh => k_is)
    (case xe0 => k_is)
    (case xe1 => k_is)
    (case xe2 => k_is)
    (case xe3 => k_is)
    (case xe4 => k_is)
    (case xe5 => k_is)
    (case xe6 => k_is)
    (case xe7 => k_is)
    (case xe8 => k_is)
    (case xe9 => k_is)
    (case xe10 => k_is)
    (case xe11 => k_is)
    (case xe12 => k_is)
    (case xhx => k_exc)
    (case xha => k_is)
    (case xhn => k_is)
    (case xhc => k_is)
    (case xho => k_is)
    (case xhb => k_is)
    (case xhk => k_is)
    (case k5px => k_exc)
    (case k5pa => k_is)
    (case k5pn => k_is)
    (case k5pc => k_is)
    (case k5po => k_is)
    (case k5pb => k_is)
    (case k5pk => k_is)
    (case k5su => k_is)
    (case k5q0 => kit_is)
    (case k5q1 => kit_is)
    (case k5q2 => kit_is)
    (case k5q3 => kit_is)
    (case k5q4 => kit_is)
    (case k5q5 => kit_is)
    (case k5q6 => kit_is)
    (case k5q7 => kit_is)
    (case k5q8 => kit_is)
    (case k5q9 => kit_is)
    (case k5q10 => kit_is)
    (case k5q11 => kit_is)
    (case k5q12 => kit_is)
    (case k5qv => kit_is)
    (case k7px => k_exc)
    (case k7pa => k_is)
    (case k7pn => k_is)
    (case k7pc => k_is)
    (case k7po => k_is)
    (case k7pb => k_is)
    (case k7pk => k_is)
    (case k7su => k_is)
    (case k7q0 => kit_is)
    (case k7q1 => kit_is)
    (case k7q2 => kit_is)
    (case k7q3 => kit_is)
    (case k7q4 => kit_is)
    (case k7q5 => kit_is)
    (case k7q6 => kit_is)
    (case k7q7 => kit_is)
    (case k7q8 => kit_is)
    (case k7q9 => kit_is)
    (case k7q10 => kit_is)
    (case k7q11 => kit_is)
    (case k7q12 => kit_is)
    (case k7qv => kit_is)

