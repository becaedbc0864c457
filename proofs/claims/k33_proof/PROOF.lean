import PyProof.Rows.All
import Wide.All
import OpenK.AllK
import Wide.FinOn
import Lean
import PyProof.EqAt
import PyProof.EqKinds
import PyProof.TupleCall
import PySem.Challenge.RW_warnloop_k33_whole_wanted_is_not_still
set_option Elab.async false
set_option linter.all false
set_option maxRecDepth 100000
/-! THE HAND LAYER, for ints, bools, texts, own classes, LISTS and tuples (index, slices, in, append, pop ..), calls, loops. Paste it whole ahead of your own text; what your proof does not reach may be deleted. -/
namespace L2
open PySem PySem.Spec PyProof.Rows

/-- a key: an int or a str -/
abbrev Key := Sum Int Str
def keyIs : Key → Value → Bool
  | .inl k, v => Value.isInt k v
  | .inr x, v => Value.isStrOf x v
def keyH (w : World) : Key → Int
  | .inl k => hashInt k
  | .inr x => hashStr w x
theorem keyIs_shape : ∀ {k : Key} {v : Value}, keyIs k v = true → (∃ i t, k = Sum.inl i ∧ v = Value.int i t) ∨ (∃ x t, k = Sum.inr x ∧ v = Value.str x t)
  | .inl i, v, h => by
    obtain ⟨t, e⟩ := Value.isInt_shape (k := i) (v := v) h
    exact .inl ⟨i, t, rfl, e⟩
  | .inr x, v, h => by
    obtain ⟨t, e⟩ := Value.isStrOf_shape (x := x) (v := v) h
    exact .inr ⟨x, t, rfl, e⟩
theorem keyIs_int (i : Int) (t : Tok) : keyIs (.inl i) (.int i t) = true := by simp [keyIs, Value.isInt]
theorem keyIs_str (x : Str) (t : Tok) : keyIs (.inr x) (.str x t) = true := by simp [keyIs, Value.isStrOf]
theorem key_ll (a b : Int) : decide ((Sum.inl a : Key) = Sum.inl b) = (a == b) := by
  by_cases e : a = b
  · subst e; simp
  · have h : ¬ (Sum.inl a : Key) = Sum.inl b := fun q => e (Sum.inl.inj q)
    rw [decide_eq_false h]
    exact (beq_eq_false_iff_ne.mpr e).symm
theorem key_rr (a b : Str) : decide ((Sum.inr a : Key) = Sum.inr b) = decide (a = b) := by
  by_cases e : a = b
  · subst e; simp
  · have h : ¬ (Sum.inr a : Key) = Sum.inr b := fun q => e (Sum.inr.inj q)
    rw [decide_eq_false h, decide_eq_false e]
theorem key_lr (a : Int) (b : Str) : decide ((Sum.inl a : Key) = Sum.inr b) = false := decide_eq_false (fun q => nomatch q)
theorem key_rl (a : Str) (b : Int) : decide ((Sum.inr a : Key) = Sum.inl b) = false := decide_eq_false (fun q => nomatch q)

def mixKind (prog : Program) (w : World) : PySem.KeyKind prog w Key where
  is := keyIs
  hash := keyH w
  inj := fun v a b ha hb => by
    rcases keyIs_shape ha with ⟨i, t, rfl, rfl⟩ | ⟨x, t, rfl, rfl⟩
    · rcases keyIs_shape hb with ⟨j, u, rfl, e⟩ | ⟨y, u, rfl, e⟩
      · injection e with e1 _; rw [e1]
      · exact nomatch e
    · rcases keyIs_shape hb with ⟨j, u, rfl, e⟩ | ⟨y, u, rfl, e⟩
      · exact nomatch e
      · injection e with e1 _; rw [e1]
  byValue := fun k v h => by
    rcases keyIs_shape h with ⟨i, t, rfl, rfl⟩ | ⟨x, t, rfl, rfl⟩ <;> rfl
  pyHash := fun hv h => by
    rcases keyIs_shape hv with ⟨i, t, rfl, rfl⟩ | ⟨x, t, rfl, rfl⟩
    · exact wpAny_pyHash_int h
    · exact wpAny_pyHash_str h
  eqBool := fun hu hv h => by
    rcases keyIs_shape hu with ⟨i, t, rfl, rfl⟩ | ⟨x, t, rfl, rfl⟩
    · rcases keyIs_shape hv with ⟨j, u, rfl, rfl⟩ | ⟨y, u, rfl, rfl⟩
      · rw [key_ll] at h; exact wpAny_eqBool_int h
      · rw [key_lr] at h; exact SeqAt.EqAt.int_str i t y u _ _ _ _ h
    · rcases keyIs_shape hv with ⟨j, u, rfl, rfl⟩ | ⟨y, u, rfl, rfl⟩
      · rw [key_rl] at h; exact SeqAt.EqAt.str_int x t j u _ _ _ _ h
      · rw [key_rr] at h; exact wpAny_eqBool_str h
  «strs» := fun k x t v h => by
    rcases keyIs_shape h with ⟨i, u, rfl, e⟩ | ⟨y, u, rfl, e⟩
    · exact nomatch e
    · injection e with e1 _
      subst e1
      cases v <;> rfl

theorem mixKind_int (prog : Program) (w : World) (i : Int) (t : Tok) : (mixKind prog w).is (.inl i) (.int i t) = true := keyIs_int i t
theorem mixKind_str (prog : Program) (w : World) (x : Str) (t : Tok) : (mixKind prog w).is (.inr x) (.str x t) = true := keyIs_str x t
end L2

namespace L2
open PySem PySem.Spec PyProof.Rows

/-- a value, without the heap -/
inductive V where
  | non | bl (b : Bool) | int (i : Int) | str (x : Str) | byt (b : Array UInt8) | flt (b : UInt64) | ref (a : Addr) | ty (n : String)
  deriving DecidableEq

def RelV : V → Value → Prop
  | .non, u => u = Value.none
  | .bl b, u => u = Value.bool b
  | .int i, u => ∃ t, u = Value.int i t
  | .str x, u => ∃ t, u = Value.str x t
  | .byt b, u => ∃ t, u = Value.bytes b t
  | .flt b, u => ∃ t, u = Value.float b t
  | .ref a, u => u = Value.ref a
  | .ty n, u => u = Value.type n

abbrev Vals : List V → List Value → Prop := Paired RelV
theorem Vals.length {xs : List V} {us : List Value} (r : Vals xs us) : xs.length = us.length := Paired.length r
theorem Vals.get : ∀ {xs : List V} {us : List Value} {i : Nat} {x : V}, Vals xs us → xs[i]? = some x → ∃ u, us[i]? = some u ∧ RelV x u
  | _, _, _, _, .nil, e => by simp at e
  | _, _, 0, _, .cons r _, e => by simp at e; subst e; exact ⟨_, rfl, r⟩
  | _, _, i + 1, x, .cons _ t, e => by
    obtain ⟨u, h1, h2⟩ := Vals.get (i := i) (x := x) t (by simpa using e)
    exact ⟨u, by simpa using h1, h2⟩
theorem Vals.set {x : V} {u : Value} (r : RelV x u) : ∀ {xs : List V} {us : List Value} (i : Nat), Vals xs us → Vals (xs.set i x) (us.set i u)
  | _, _, _, .nil => .nil
  | _, _, 0, .cons _ t => .cons r t
  | _, _, i + 1, .cons q t => .cons q (Vals.set r i t)
theorem Vals.append : ∀ {xs ys : List V} {us ws : List Value}, Vals xs us → Vals ys ws → Vals (xs ++ ys) (us ++ ws)
  | _, _, _, _, .nil, s => s
  | _, _, _, _, .cons r t, s => .cons r (Vals.append t s)
theorem Vals.take : ∀ {xs : List V} {us : List Value} (n : Nat), Vals xs us → Vals (xs.take n) (us.take n)
  | _, _, 0, _ => .nil
  | _, _, _ + 1, .nil => .nil
  | _, _, n + 1, .cons r t => .cons r (Vals.take n t)
theorem Vals.drop : ∀ {xs : List V} {us : List Value} (n : Nat), Vals xs us → Vals (xs.drop n) (us.drop n)
  | _, _, 0, r => r
  | _, _, _ + 1, .nil => .nil
  | _, _, n + 1, .cons _ t => Vals.drop n t
theorem Vals.none_of : ∀ {xs : List V} {us : List Value} {i : Nat}, Vals xs us → xs[i]? = none → us[i]? = none := fun {xs us i} r e => by
  have h1 := r.length
  have h2 : xs.length ≤ i := List.getElem?_eq_none_iff.mp e
  exact List.getElem?_eq_none_iff.mpr (by omega)

def RelO : Option V → Option Value → Prop
  | some v, some u => RelV v u
  | none, none => True
  | _, _ => False
def KV {κ : Type} : List (κ × V) → List (κ × Value) → Prop := Paired fun (p : κ × V) (q : κ × Value) => p.1 = q.1 ∧ RelV p.2 q.2

/-- a key of a dict (00_mix): an int or a text -/
def kV : Key → V
  | .inl i => .int i
  | .inr x => .str x

/-- what stands at a tracked address -/
inductive HO where
  /-- a list -/
  | lst (xs : List V)
  /-- a tuple (never changes) -/
  | tup (xs : List V)
  /-- a dict whose keys are ints and texts; one whose keys are tuples of ints and texts (the empty one is both) -/
  | dK (kvs : List (Key × V)) | dT (kvs : List (List Key × V))
  /-- a set of ints: its members, its size -/
  | set (S : Int → Bool) (n : Nat)
  /-- an instance of the class at C, its dict at dx, its attributes -/
  | ins (C dx : Addr) (fs : List (Str × V))
  /-- the dict of the instance at x -/
  | own (x : Addr)
  /-- the dict of an exception -/
  | xd (fs : List (Str × V))
  /-- a bound method, f of x -/
  | met (f x : Addr)
  /-- a range object lo, lo + 1, .. below hi -/
  | rng (lo hi : Int)
  /-- a thing that is known to the object (the script; a dict while a loop walks it): read, never written while it is so -/
  | frz (o : Obj) (u : HO)
  /-- a code object's table -/
  | tbl (ps : Array Value)
  /-- any other thing, by what is true of its one object (a def of one's own: SetO a S n := HO.ext fun h => ..) -/
  | ext (φ : Heap → Prop)

abbrev Hp := Addr → Option HO
def upd (H : Hp) (a : Addr) (o : HO) : Hp := fun b => if b = a then some o else H b
theorem upd_same {H : Hp} {a : Addr} {o : HO} : upd H a o a = some o := by unfold upd; rw [if_pos rfl]
theorem upd_ne {H : Hp} {a b : Addr} {o : HO} (h : b ≠ a) : upd H a o b = H b := by unfold upd; rw [if_neg h]
theorem upd_upd {H : Hp} {a : Addr} {o u : HO} : upd (upd H a o) a u = upd H a u := by
  funext b; unfold upd; split <;> rfl
/-- two objects of different content stand apart -/
theorem ne_of {H : Hp} {a b : Addr} {o u : HO} (h : H a = some o) (h' : H b = some u) (d : o ≠ u) : a ≠ b := by
  intro e; subst e; rw [h] at h'; exact d (Option.some.inj h')
theorem ne_of_none {H : Hp} {a b : Addr} {o : HO} (h : H a = some o) (h' : H b = none) : a ≠ b := by
  intro e; subst e; rw [h] at h'; cases h'

section
variable (P : Program) (w : World)
def ObjOk (H : Hp) (h : Heap) (a : Addr) : HO → Prop
  | .lst xs => xs.length ≤ sizeLine ∧ ∃ (its : List Value) (n : Nat), Vals xs its ∧ h.get? a = some { cls := .type "list", data := .seq its.toArray n }
  | .tup xs => xs.length ≤ sizeLine ∧ ∃ its : List Value, Vals xs its ∧ IsTup h a its.toArray
  | .dK kvs => kvs.length ≤ sizeLine ∧ (a == sysModules) = false ∧ ∃ vs, KV kvs vs ∧ h.DictOf (mixKind P w) a vs
  | .dT kvs => kvs.length ≤ sizeLine ∧ (a == sysModules) = false ∧ ∃ xs : List (List Key × Addr × Value),
      Paired (fun (p : List Key × V) (q : List Key × Addr × Value) => p.1 = q.1 ∧ H q.2.1 = some (.tup (p.1.map kV)) ∧ RelV p.2 q.2.2) kvs xs ∧
      ∃ o es ep, h.get? a = some o ∧ o.ExactDict ∧ o.data = .dict es ep ∧ es.toList = xs.map (entryOfKey (tupleKind (mixKind P w))) ∧ (xs.map (·.1)).Nodup
  | .set S n => h.SetOf (intKind P w) a S n
  | .ins C dx fs => H dx = some (.own a) ∧ fs.length ≤ 1000 ∧ dx ≠ a ∧ h.get? a = some (PySem.W.instObj C dx) ∧
      ∃ mA, h.Ns1 dx mA ∧ (∀ f, RelO (fs.lookup f) (mA f)) ∧ PySem.Within mA (fs.map (·.1))
  | .own _ => ∃ o, h.get? a = some o
  | .xd fs => ∃ mA, h.Ns1 a mA ∧ ∀ f, RelO (fs.lookup f) (mA f)
  | .rng lo hi => ∃ t u v, h.get? a = some { cls := .type "range", data := .fields #[.int lo t, .int hi u, .int 1 v] }
  | .frz o u => h.get? a = some o ∧ ObjOk H h a u
  | .tbl ps => h.get? a = some { cls := .none, data := .fields ps }
  | .met f x => h.get? a = some (PySem.W.methodObj (.ref f) (.ref x))
  | .ext φ => φ h ∧ (∃ o, h.get? a = some o) ∧ ∀ h1 h2 : Heap, φ h1 → (∀ o, h1.get? a = some o → h2.get? a = some o) → φ h2
/-- the abstract heap is held -/
def HOk (H : Hp) (h : Heap) : Prop := ∀ a o, H a = some o → ObjOk P w H h a o
end

section
variable {P : Program} {w : World} {H H' : Hp} {h h' : Heap} {a : Addr} {o : HO}
theorem ObjOk.lt (x : ObjOk P w H h a o) : a < h.objs.size := by
  cases o with
  | lst xs => obtain ⟨_, _, _, _, e⟩ := x; exact Heap.lt_size e
  | tup xs => obtain ⟨_, _, _, p⟩ := x; exact p.lt
  | dK kvs => obtain ⟨_, _, _, _, o, _, _, e, _⟩ := x; exact Heap.lt_size e
  | dT kvs => obtain ⟨_, _, _, _, o, _, _, e, _⟩ := x; exact Heap.lt_size e
  | set S n => obtain ⟨o, _, _, _, e, _⟩ := x; exact Heap.lt_size e
  | ins C dx fs => obtain ⟨_, _, _, e, _⟩ := x; exact Heap.lt_size e
  | own y => obtain ⟨_, e⟩ := x; exact Heap.lt_size e
  | xd fs => obtain ⟨_, ⟨_, _, _, e, _⟩, _⟩ := x; exact Heap.lt_size e
  | rng lo hi => obtain ⟨_, _, _, e⟩ := x; exact Heap.lt_size e
  | frz ob u => obtain ⟨e, _⟩ := x; exact Heap.lt_size e
  | tbl ps => exact Heap.lt_size (show h.get? a = some _ from x)
  | met f y => exact Heap.lt_size (show h.get? a = some _ from x)
  | ext φ => obtain ⟨_, ⟨_, e⟩, _⟩ := x; exact Heap.lt_size e
theorem Paired.mapP {α β : Type} {F G : α → β → Prop} : ∀ {l₁ : List α} {l₂ : List β}, Paired F l₁ l₂ → (∀ a b, F a b → G a b) → Paired G l₁ l₂
  | _, _, .nil, _ => .nil
  | _, _, .cons r t, f => .cons (f _ _ r) (Paired.mapP t f)
/-- what an object's description leans on: its own object, its own dict, the tuples -/
theorem ObjOk.stay (x : ObjOk P w H h a o) (k : ∀ b u, (b = a ∨ H b = some (.own a)) → h.get? b = some u → h'.get? b = some u)
    (ho : ∀ b, H b = some (.own a) → H' b = some (.own a)) (ht : ∀ b xs, H b = some (.tup xs) → H' b = some (.tup xs)) : ObjOk P w H' h' a o := by
  induction o with
  | lst xs => obtain ⟨z, its, n, r, e⟩ := x; exact ⟨z, its, n, r, k _ _ (.inl rfl) e⟩
  | tup xs => obtain ⟨z, its, r, ob, e, c⟩ := x; exact ⟨z, its, r, ob, k _ _ (.inl rfl) e, c⟩
  | dK kvs => obtain ⟨z, y, vs, r, ob, es, ep, e, c⟩ := x; exact ⟨z, y, vs, r, ob, es, ep, k _ _ (.inl rfl) e, c⟩
  | dT kvs =>
    obtain ⟨z, y, xs, r, ob, es, ep, e, c⟩ := x
    exact ⟨z, y, xs, Paired.mapP r fun p q z => ⟨z.1, ht _ _ z.2.1, z.2.2⟩, ob, es, ep, k _ _ (.inl rfl) e, c⟩
  | set S n => obtain ⟨ob, es, ep, t, e, c⟩ := x; exact ⟨ob, es, ep, t, k _ _ (.inl rfl) e, c⟩
  | ins C dx fs =>
    obtain ⟨d, z, ne, e, mA, ⟨od, es, ep, e2, c⟩, r⟩ := x
    exact ⟨ho _ d, z, ne, k _ _ (.inl rfl) e, mA, ⟨od, es, ep, k _ _ (.inr d) e2, c⟩, r⟩
  | own y => obtain ⟨ob, e⟩ := x; exact ⟨ob, k _ _ (.inl rfl) e⟩
  | xd fs => obtain ⟨mA, ⟨od, es, ep, e, c⟩, r⟩ := x; exact ⟨mA, ⟨od, es, ep, k _ _ (.inl rfl) e, c⟩, r⟩
  | rng lo hi => obtain ⟨t, u, v, e⟩ := x; exact ⟨t, u, v, k _ _ (.inl rfl) e⟩
  | frz ob u ih => obtain ⟨e, q⟩ := x; exact ⟨k _ _ (.inl rfl) e, ih q⟩
  | tbl ps =>
    have e : h.get? a = some { cls := .none, data := .fields ps } := x
    show h'.get? a = some { cls := .none, data := .fields ps }
    exact k a _ (.inl rfl) e
  | met f y =>
    have e : h.get? a = some (PySem.W.methodObj (.ref f) (.ref y)) := x
    show h'.get? a = some (PySem.W.methodObj (.ref f) (.ref y))
    exact k a _ (.inl rfl) e
  | ext φ => obtain ⟨p, ⟨o, e⟩, st⟩ := x; exact ⟨st _ _ p fun o q => k _ _ (.inl rfl) q, ⟨o, k _ _ (.inl rfl) e⟩, st⟩
theorem HOk.lt (x : HOk P w H h) (e : H a = some o) : a < h.objs.size := (x a o e).lt
theorem HOk.fresh (x : HOk P w H h) (e : h.objs.size ≤ a) : H a = none := by
  cases q : H a with
  | none => rfl
  | some u => exact absurd (Nat.lt_of_lt_of_le (x.lt q) e) (Nat.lt_irrefl _)
/-- every object of the heap is kept -/
theorem HOk.kept (x : HOk P w H h) (k : ∀ b u, h.get? b = some u → h'.get? b = some u) : HOk P w H h' := fun a o e =>
  (x a o e).stay (fun b u _ q => k b u q) (fun _ q => q) fun _ _ q => q
/-- a new object is laid and tracked -/
theorem HOk.laid (x : HOk P w H h) (k : ∀ b u, h.get? b = some u → h'.get? b = some u) (hp : h.objs.size ≤ a) (new : ObjOk P w (upd H a o) h' a o) : HOk P w (upd H a o) h' := fun b u e => by
  have hn := x.fresh hp
  by_cases hb : b = a
  · subst hb; rw [upd_same] at e; cases e; exact new
  · rw [upd_ne hb] at e
    exact (x b u e).stay (fun c v _ q => k c v q) (fun c q => by rw [upd_ne (ne_of_none q hn)]; exact q) fun c xs q => by rw [upd_ne (ne_of_none q hn)]; exact q
end

/-- what may be read as u: it is u, or a known u -/
def Rd (H : Hp) (a : Addr) (u : HO) : Prop := H a = some u ∨ ∃ o, H a = some (.frz o u)
theorem Rd.of {H : Hp} {a : Addr} {u : HO} (h : H a = some u) : Rd H a u := .inl h
theorem Rd.ok {P : Program} {w : World} {H : Hp} {h : Heap} {a : Addr} {u : HO} (r : Rd H a u) (x : HOk P w H h) : ObjOk P w H h a u := by
  rcases r with r | ⟨o, r⟩
  · exact x a u r
  · obtain ⟨_, q⟩ := x a _ r
    exact q
/-- what may be written -/
def Mut : Option HO → Prop
  | some (.lst _) => True
  | some (.dK _) => True
  | some (.dT _) => True
  | some (.set _ _) => True
  | some (.ins _ _ _) => True
  | some (.ext _) => True
  | _ => False
section
variable {P : Program} {w : World} {H : Hp} {h h' : Heap} {x e : Addr} {o' : HO}
/-- the object at e is changed: x itself, or the dict of the instance x -/
theorem HOk.write (ok : HOk P w H h) (mu : Mut (H x)) (he : e = x ∨ H e = some (.own x)) (k : ∀ b u, b ≠ e → h.get? b = some u → h'.get? b = some u) (heo : ∃ u, h'.get? e = some u)
    (new : ObjOk P w (upd H x o') h' x o') : HOk P w (upd H x o') h' := fun b u q => by
  have nown : ∀ c y, H c = some (.own y) → c ≠ x := fun c y r z => by subst z; rw [r] at mu; exact mu
  have ntup : ∀ c xs, H c = some (.tup xs) → c ≠ x := fun c xs r z => by subst z; rw [r] at mu; exact mu
  by_cases hb : b = x
  · subst hb; rw [upd_same] at q; cases q; exact new
  · rw [upd_ne hb] at q
    by_cases hbe : b = e
    · have q' : H b = some (.own x) := by
        rcases he with z | z
        · exact absurd (hbe.trans z) hb
        · rw [hbe]; exact z
      rw [q] at q'; cases q'
      obtain ⟨v, hv⟩ := heo
      exact ⟨v, by rw [hbe]; exact hv⟩
    · refine (ok b u q).stay (fun c v hc r => k c v ?_ r) (fun c r => by rw [upd_ne (nown c b r)]; exact r) fun c xs r => by rw [upd_ne (ntup c xs r)]; exact r
      rcases hc with rfl | hc
      · exact hbe
      · rintro rfl
        rcases he with z | z
        · exact nown c b hc z
        · rw [hc] at z; cases z; exact hb rfl
end

/-! ### kept unless tracked; of the frames at fs (the callers') the slots may change (an exception that passes writes there); of the records at ex (iterators) nothing is said -/
structure Un (fs ex : List Addr) (H H' : Hp) (h h' : Heap) : Prop where
  keep : ∀ b o, h.get? b = some o → H b = none → b ∉ fs → b ∉ ex → h'.get? b = some o
  slot : ∀ b o, h.get? b = some o → H b = none → b ∈ fs → b ∉ ex → ∃ sl, h'.get? b = some { o with slots := sl }
  free : ∀ b o, h.get? b = some o → H b = none → b ∉ ex → H' b = none
  there : ∀ b o, h.get? b = some o → b ∉ ex → ∃ o', h'.get? b = some o'
  tups : ∀ b xs, H b = some (.tup xs) → H' b = some (.tup xs)
  frzs : ∀ b o u, H b = some (.frz o u) → H' b = some (.frz o u)
  tbls : ∀ b ps, H b = some (.tbl ps) → ∃ more, H' b = some (.tbl (ps ++ more))
section
variable {fs fs' ex ex' : List Addr} {H H1 H2 : Hp} {h h1 h2 h' : Heap} {a x e : Addr} {o : HO}
theorem Un.any (u : Un fs ex H H1 h h1) {b : Addr} {ob : Obj} (q : h.get? b = some ob) (n : H b = none) (hx : b ∉ ex) : ∃ sl, h1.get? b = some { ob with slots := sl } := by
  by_cases hb : b ∈ fs
  · exact u.slot b ob q n hb hx
  · exact ⟨ob.slots, u.keep b ob q n hb hx⟩
theorem Un.trans (a : Un fs ex H H1 h h1) (b : Un fs ex H1 H2 h1 h2) : Un fs ex H H2 h h2 where
  keep := fun c ob q n hc hx => b.keep c ob (a.keep c ob q n hc hx) (a.free c ob q n hx) hc hx
  slot := fun c ob q n hc hx => by
    obtain ⟨sl, e1⟩ := a.slot c ob q n hc hx
    obtain ⟨sl', e2⟩ := b.slot c _ e1 (a.free c ob q n hx) hc hx
    exact ⟨sl', e2⟩
  free := fun c ob q n hx => by
    obtain ⟨o', e1⟩ := a.there c ob q hx
    exact b.free c o' e1 (a.free c ob q n hx) hx
  there := fun c ob q hx => by
    obtain ⟨o', e1⟩ := a.there c ob q hx
    exact b.there c o' e1 hx
  tups := fun c xs q => b.tups c xs (a.tups c xs q)
  frzs := fun c ob xs q => b.frzs c ob xs (a.frzs c ob xs q)
  tbls := fun c ps q => by
    obtain ⟨m1, e1⟩ := a.tbls c ps q
    obtain ⟨m2, e2⟩ := b.tbls c _ e1
    exact ⟨m1 ++ m2, by rw [e2, Array.append_assoc]⟩
theorem Un.kept (k : ∀ b u, h.get? b = some u → h'.get? b = some u) : Un fs ex H H h h' :=
  ⟨fun b ob q _ _ _ => k b ob q, fun b ob q _ _ _ => ⟨ob.slots, k b ob q⟩, fun _ _ _ n _ => n, fun b ob q _ => ⟨ob, k b ob q⟩, fun _ _ q => q, fun _ _ _ q => q, fun _ ps q => ⟨#[], by rw [q]; simp⟩⟩
theorem Un.refl : Un fs ex H H h h := Un.kept fun _ _ q => q
theorem Un.laid (k : ∀ b u, h.get? b = some u → h'.get? b = some u) (hp : h.objs.size ≤ a) (hn : H a = none) : Un fs ex H (upd H a o) h h' where
  keep := fun b u q _ _ _ => k b u q
  slot := fun b u q _ _ _ => ⟨u.slots, k b u q⟩
  free := fun b u q n _ => by rw [upd_ne (Nat.ne_of_lt (Nat.lt_of_lt_of_le (Heap.lt_size q) hp))]; exact n
  there := fun b u q _ => ⟨u, k b u q⟩
  tups := fun b xs q => by rw [upd_ne (ne_of_none q hn)]; exact q
  frzs := fun b u xs q => by rw [upd_ne (ne_of_none q hn)]; exact q
  tbls := fun b ps q => ⟨#[], by rw [upd_ne (ne_of_none q hn), q]; simp⟩
theorem Un.write (mu : Mut (H x)) (he : e = x ∨ H e = some (.own x)) (k : ∀ b u, b ≠ e → h.get? b = some u → h'.get? b = some u) (heo : ∃ u, h'.get? e = some u) : Un fs ex H (upd H x o) h h' := by
  have hx : ∀ b, H b = none → b ≠ x := fun b n z => by subst z; rw [n] at mu; exact mu
  have hb : ∀ b, H b = none → b ≠ e := fun b n z => by
    subst z
    rcases he with r | r
    · exact hx b n r
    · rw [n] at r; cases r
  have hm : ∀ b u, H b = some u → ¬ Mut (some u) → b ≠ x := fun b u q nm z => by subst z; rw [q] at mu; exact nm mu
  refine ⟨fun b u q n _ _ => k b u (hb b n) q, fun b u q n _ _ => ⟨u.slots, k b u (hb b n) q⟩, fun b u q n _ => by rw [upd_ne (hx b n)]; exact n, fun b u q _ => ?_,
    fun b xs q => by rw [upd_ne (hm b _ q fun z => z)]; exact q, fun b u xs q => by rw [upd_ne (hm b _ q fun z => z)]; exact q, fun b ps q => ⟨#[], by rw [upd_ne (hm b _ q fun z => z), q]; simp⟩⟩
  by_cases hbe : b = e
  · subst hbe; exact heo
  · exact ⟨u, k b u hbe q⟩
theorem Un.mono (u : Un fs ex H H1 h h1) (hs : ∀ b ∈ fs, b ∈ fs') (hx : ∀ b ∈ ex, b ∈ ex') : Un fs' ex' H H1 h h1 :=
  ⟨fun b ob q n hb he => u.keep b ob q n (fun z => hb (hs b z)) fun z => he (hx b z), fun _ _ q n _ he => u.any q n fun z => he (hx _ z), fun b ob q n he => u.free b ob q n fun z => he (hx b z), fun b ob q he => u.there b ob q fun z => he (hx b z), u.tups, u.frzs, u.tbls⟩
end

/-! ### the heap without what is tracked -/
def trk (h : Heap) (H : Hp) : List Addr := (List.range h.objs.size).filter fun a => (H a).isSome
def hidT (h : Heap) (H : Hp) : Heap := PySem.W.hideAll h (trk h H)
theorem hidT_size (h : Heap) (H : Hp) : (hidT h H).objs.size = h.objs.size := PySem.W.hideAll_size _ _
theorem hidT_get {h : Heap} {H : Hp} {b : Addr} {o : Obj} (e : h.get? b = some o) (n : H b = none) : (hidT h H).get? b = some o :=
  PySem.W.hideAll_get _ e fun hm => by
    have q : (H b).isSome = true := (List.mem_filter.mp hm).2
    rw [n] at q; simp at q
theorem of_hidT {h : Heap} {H : Hp} {b : Addr} {o : Obj} (e : (hidT h H).get? b = some o) : h.get? b = some o ∧ H b = none := by
  have e' : h.get? b = some o := PySem.W.of_hideAll (trk h H) e
  refine ⟨e', ?_⟩
  cases q : H b with
  | none => rfl
  | some x =>
    have hm : b ∈ trk h H := List.mem_filter.mpr ⟨List.mem_range.mpr (Heap.lt_size e'), by simp [q]⟩
    have z : (hidT h H).get? b = none := PySem.W.hideAll_none (trk h H) hm
    rw [z] at e; cases e

/-! ### OpenK's ledger, filled with every new object but one -/
def allNews (g h : Heap) (L : Addr) : List (Addr × Obj) := (List.range h.objs.size).filterMap fun a => if a = L ∨ (g.get? a).isSome = true then none else (h.get? a).map fun o => (a, o)
theorem mem_allNews {g h : Heap} {L a : Addr} {o : Obj} (h1 : a ≠ L) (h2 : g.get? a = none) (h3 : h.get? a = some o) : (a, o) ∈ allNews g h L :=
  List.mem_filterMap.mpr ⟨a, List.mem_range.mpr (Heap.lt_size h3), by simp [h1, h2, h3]⟩
theorem of_mem_allNews {g h : Heap} {L : Addr} {p : Addr × Obj} (hp : p ∈ allNews g h L) : p.1 ≠ L ∧ g.get? p.1 = none ∧ h.get? p.1 = some p.2 := by
  obtain ⟨b, _, e⟩ := List.mem_filterMap.mp hp
  split at e
  · cases e
  · rename_i hn
    cases q : h.get? b with
    | none => rw [q] at e; simp at e
    | some u =>
      rw [q] at e
      simp only [Option.map_some, Option.some.injEq] at e
      subst e
      refine ⟨fun z => hn (.inl z), ?_, q⟩
      show g.get? b = none
      cases r : g.get? b with
      | none => rfl
      | some v => exact (hn (.inr (by simp [r]))).elim
def rest (g h : Heap) (L d : Addr) : List (Addr × Obj) := (allNews g h L).filter fun p => decide (p.1 ≠ d)
theorem news_all {g h : Heap} {L : Addr} : News g L h (allNews g h L) := fun p hp => let ⟨a, b, c⟩ := of_mem_allNews hp; ⟨c, a, b⟩
end L2

namespace L2
open PySem PySem.Spec PyProof.Rows

/-- the module's facts, over the base: the heap at the law's entry without what is tracked there -/
structure Mod (K : PySem.W.Frag) (mg : Str → Option Value) (base : Heap) : Prop where
  kin : K.In base
  glob : base.Ns mainGlobals mg
  blt : ∃ mb, base.Ns builtinsNs mb ∧ ∀ x : Str, x ≠ "__name__" → mb x = bootBuiltins x
  nolimit : base.NoLimit

/-- the context: a def's body (or a comprehension's block) running. base: fixed through the whole law; s₀, H₀: the entry; outer: the frames whose slots others may change (a def's callers); stack: all frames that run;
   ex: iterators that were made ahead of the entry and are walked here (a comprehension's); fn: the names whose cells were made at the entry (a def: all; a comprehension's block: its own); calm: not within an except suite; pn: pins that every state bears; xe: what is wanted of an exception that leaves the code -/
structure Cx where
  prog : Program
  w : World
  K : PySem.W.Frag
  mg : Str → Option Value
  base : Heap
  A : Around
  N : List Str
  s₀ : Shared
  H₀ : Hp
  env : Env
  outer : List Env
  stack : List Env
  ex : List Addr
  fn : Str → Bool
  calm : Bool
  pn : List (Addr × Obj)
  xe : Value → Shared → Prop
/-- the callers' frames -/
def frs (l : List Env) : List Addr := l.filterMap (·.frame)
abbrev Cx.fs (X : Cx) : List Addr := frs X.outer

def Vis (sc : Scope) (x : Str) : Prop := sc.names.lookup x = some .local ∨ sc.names.lookup x = some .cell ∨ sc.names.lookup x = some .free
def Loc (sc : Scope) (x : Str) : Prop := sc.names.lookup x = some .local ∨ sc.names.lookup x = some .cell
def Look (env : Env) (h : Heap) (m : Str → Option Value) (x : Str) (u : Value) : Prop :=
  (env.kindOf x = some .local ∧ m x = some u) ∨ ((env.kindOf x = some .cell ∨ env.kindOf x = some .free) ∧ ∃ c, env.cells.lookup x = some c ∧ h.IsCell c (some u))

structure Cx.Ok (X : Cx) : Prop where
  mod : Mod X.K X.mg X.base
  kind : X.env.scope.kind = .function
  glob : X.env.globals = mainGlobals
  blt : X.env.builtins = builtinsNs
  above : X.s₀.heap.objs.size ≤ X.env.locals
  inj : ∀ x y c, X.env.cells.lookup x = some c → X.env.cells.lookup y = some c → x = y
  has : ∀ x, (X.env.kindOf x = some .cell ∨ X.env.kindOf x = some .free) → ∃ c, X.env.cells.lookup x = some c
  cab : ∀ x c, X.fn x = true → X.env.cells.lookup x = some c → X.s₀.heap.objs.size ≤ c
  hd : X.calm = true → X.A.handled = none
  frames : X.A.frames = some X.stack
  stk : X.stack = X.outer ∨ (X.stack = X.env :: X.outer ∧ X.env.frame = some X.env.locals)
  exf : ∀ b ∈ X.ex, b ≠ X.env.locals ∧ ∀ x c, X.env.cells.lookup x = some c → c ≠ b
  bs : ∀ b o, X.base.get? b = some o → X.s₀.heap.get? b = some o ∧ X.H₀ b = none
  bsz : X.base.objs.size ≤ X.s₀.heap.objs.size
  noex : ∀ b o, X.base.get? b = some o → b ∉ X.ex
  exfs : ∀ b ∈ X.ex, b ∉ X.fs
  funs : X.s₀.heap.FunFrames X.base X.outer
  frf : ∀ b ∈ X.fs, X.H₀ b = none

structure Inv (X : Cx) (pins : List (Addr × Obj)) (σ : List (Option V)) (H : Hp) (s : Shared) : Prop where
  ok : X.Ok
  os : s.os = X.s₀.os
  bare : AllBare s.gens
  base : Un X.fs X.ex X.H₀ H X.s₀.heap s.heap
  loc : ∃ m, s.heap.Ns X.env.locals m ∧ ∀ (i : Nat) (x : Str) (v : V), X.N[i]? = some x → σ[i]? = some (some v) → Vis X.env.scope x → ∃ u, RelV v u ∧ Look X.env s.heap m x u
  cell : ∀ x c, X.env.cells.lookup x = some c → ∃ v, s.heap.IsCell c v
  free : H X.env.locals = none
  freeC : ∀ x c, X.env.cells.lookup x = some c → H c = none
  pin : ∀ p ∈ X.pn ++ pins, s.heap.get? p.1 = some p.2 ∧ H p.1 = none ∧ p.1 ≠ X.env.locals ∧ p.1 ∉ X.fs ∧ ∀ v, p.2.data ≠ .cell v
  hok : HOk X.prog X.w H s.heap
  len : σ.length = X.N.length

section
variable {X : Cx} {pins : List (Addr × Obj)} {σ : List (Option V)} {H H' : Hp} {s : Shared} {h' : Heap}

theorem Cx.Ok.nofr (ok : X.Ok) {b : Addr} {o : Obj} (e : X.base.get? b = some o) : b ∉ X.fs := fun hb => by
  have := (ok.funs.mem hb).1
  rw [e] at this; cases this
theorem Inv.bs (I : Inv X pins σ H s) : ∀ b o, X.base.get? b = some o → s.heap.get? b = some o ∧ H b = none := fun b o e =>
  ⟨I.base.keep b o (I.ok.bs b o e).1 (I.ok.bs b o e).2 (I.ok.nofr e) (I.ok.noex b o e), I.base.free b o (I.ok.bs b o e).1 (I.ok.bs b o e).2 (I.ok.noex b o e)⟩
theorem Inv.bk (I : Inv X pins σ H s) : ∀ b o, X.base.get? b = some o → s.heap.get? b = some o := fun b o e => (I.bs b o e).1
theorem Inv.mod (I : Inv X pins σ H s) : Mod X.K X.mg X.base := I.ok.mod
theorem Inv.kIn (I : Inv X pins σ H s) : X.K.In s.heap := I.ok.mod.kin.keeps I.bk
theorem Inv.nolimit (I : Inv X pins σ H s) : s.heap.NoLimit := I.ok.mod.nolimit.keeps I.bk
/-- the frame over the base: for OpenK's rules (K.In X.base is I.mod.kin) -/
theorem Inv.fr (I : Inv X pins σ H s) : ∃ m, Fr X.base X.env.locals s.heap m :=
  let ⟨m, hn, _⟩ := I.loc
  ⟨m, hn, I.bk, Nat.le_trans I.ok.bsz I.ok.above⟩
theorem Inv.lt (I : Inv X pins σ H s) : X.env.locals < s.heap.objs.size := let ⟨_, hn, _⟩ := I.loc; hn.lt
theorem Inv.sz (I : Inv X pins σ H s) : X.s₀.heap.objs.size ≤ s.heap.objs.size := Nat.le_trans I.ok.above (Nat.le_of_lt I.lt)
theorem Inv.nofs (I : Inv X pins σ H s) {a : Addr} (h : s.heap.objs.size ≤ a) : a ∉ X.fs := fun hb => by
  obtain ⟨_, o, ho, _⟩ := I.ok.funs.mem hb
  exact absurd (Nat.lt_of_lt_of_le (Heap.lt_size ho) (Nat.le_trans I.sz h)) (Nat.lt_irrefl _)
theorem Inv.cne (I : Inv X pins σ H s) : ∀ x c, X.env.cells.lookup x = some c → c ≠ X.env.locals := fun x c e z => by
  obtain ⟨v, o, ho, hd⟩ := I.cell x c e
  obtain ⟨m, ⟨o', es, ep, ho', hd', _⟩, _⟩ := I.loc
  rw [z, ho'] at ho; cases ho; rw [hd'] at hd; cases hd
theorem Inv.funs (I : Inv X pins σ H s) : s.heap.FunFrames X.base X.outer := by
  have all : ∀ (l : List Env), (∀ b ∈ frs l, b ∈ X.fs) → X.s₀.heap.FunFrames X.base l → s.heap.FunFrames X.base l := by
    intro l
    induction l with
    | nil => intro _ _; trivial
    | cons env r ih =>
      intro hs hl
      obtain ⟨hk, ⟨L, o, hf, hn, ho, hd⟩, hr⟩ := hl
      have hL : L ∈ X.fs := hs L (by unfold frs; rw [List.filterMap_cons, hf]; exact List.mem_cons_self)
      obtain ⟨sl, e⟩ := I.base.slot L o ho (I.ok.frf L hL) hL fun z => I.ok.exfs L z hL
      exact ⟨hk, ⟨L, _, hf, hn, e, hd⟩, ih (fun b hb => hs b (by unfold frs; rw [List.filterMap_cons, hf]; exact List.mem_cons_of_mem _ hb)) hr⟩
  exact all X.outer (fun _ hb => hb) I.ok.funs

/-- the frames that run, for a call -/
theorem Inv.stack (I : Inv X pins σ H s) : s.heap.FunFrames X.base X.stack := by
  rcases I.ok.stk with e | ⟨e, hf⟩
  · rw [e]; exact I.funs
  · rw [e]
    obtain ⟨m, hn, _⟩ := I.loc
    refine .cons (by rw [I.ok.kind]; decide) hf hn ?_ I.funs
    exact Heap.get?_none_of_le (Nat.le_trans I.ok.bsz I.ok.above)
theorem Inv.stkSub (I : Inv X pins σ H s) : ∀ b ∈ frs X.stack, b ∈ X.env.locals :: X.fs := fun b hb => by
  rcases I.ok.stk with e | ⟨e, hf⟩
  · rw [e] at hb; exact List.mem_cons_of_mem _ hb
  · rw [e] at hb
    unfold frs at hb
    rw [List.filterMap_cons, hf] at hb
    exact hb
theorem Inv.stkFree (I : Inv X pins σ H s) : ∀ b ∈ frs X.stack, H b = none := fun b hb => by
  rcases List.mem_cons.mp (I.stkSub b hb) with e | hb
  · rw [e]; exact I.free
  · obtain ⟨_, o, ho, _⟩ := I.ok.funs.mem hb
    exact I.base.free b o ho (I.ok.frf b hb) fun z => I.ok.exfs b z hb

/-- THE STEP: the untracked objects but the frame and the records at ch are kept (the callers' frames up to slots), the frame's map is kept, the new abstract heap is held -/
theorem Inv.step {g' : Array GenState} {t' : Nat} {d' : Drawn} {ch : List Addr} (I : Inv X pins σ H s)
    (hch : ∀ b ∈ ch, (b ∈ X.ex ∨ X.s₀.heap.objs.size ≤ b) ∧ b ≠ X.env.locals ∧ (∀ x c, X.env.cells.lookup x = some c → c ≠ b) ∧ ∀ p ∈ X.pn ++ pins, p.1 ≠ b)
    (keep : ∀ b o, b ≠ X.env.locals → b ∉ X.fs → b ∉ ch → s.heap.get? b = some o → H b = none → h'.get? b = some o)
    (slot : ∀ b o, b ≠ X.env.locals → b ∈ X.fs → b ∉ ch → s.heap.get? b = some o → H b = none → ∃ sl, h'.get? b = some { o with slots := sl }) (free : ∀ b o, b ∉ ch → s.heap.get? b = some o → H b = none → H' b = none)
    (there : ∀ b o, b ∉ ch → s.heap.get? b = some o → ∃ o', h'.get? b = some o')
    (tups : ∀ b xs, H b = some (.tup xs) → H' b = some (.tup xs)) (frzs : ∀ b o u, H b = some (.frz o u) → H' b = some (.frz o u)) (tbls : ∀ b ps, H b = some (.tbl ps) → ∃ more, H' b = some (.tbl (ps ++ more)))
    (ns : ∀ m, s.heap.Ns X.env.locals m → h'.Ns X.env.locals m) (hok : HOk X.prog X.w H' h') (hg : AllBare g') :
    Inv X pins σ H' { s with heap := h', gens := g', drawn := d', toks := t' } := by
  have neL : ∀ b o, X.s₀.heap.get? b = some o → b ≠ X.env.locals := fun b o e => Nat.ne_of_lt (Nat.lt_of_lt_of_le (Heap.lt_size e) I.ok.above)
  have neC : ∀ b o, X.s₀.heap.get? b = some o → b ∉ X.ex → b ∉ ch := fun b o e hx hb => by
    rcases (hch b hb).1 with z | z
    · exact hx z
    · exact absurd (Nat.lt_of_lt_of_le (Heap.lt_size e) z) (Nat.lt_irrefl _)
  have cellK : ∀ x c, X.env.cells.lookup x = some c → ∀ v, s.heap.IsCell c v → h'.IsCell c v := fun x c e v ⟨o, ho, hd⟩ => by
    have nch : c ∉ ch := fun z => (hch c z).2.2.1 x c e rfl
    by_cases hc : c ∈ X.fs
    · obtain ⟨sl, q⟩ := slot c o (I.cne x c e) hc nch ho (I.freeC x c e)
      exact ⟨_, q, hd⟩
    · exact ⟨o, keep c o (I.cne x c e) hc nch ho (I.freeC x c e), hd⟩
  refine ⟨I.ok, I.os, hg, ⟨fun b o e n hb hx => ?_, fun b o e n hb hx => ?_, fun b o e n hx => ?_, fun b o e hx => ?_, fun b xs e => tups b xs (I.base.tups b xs e), fun b o xs e => frzs b o xs (I.base.frzs b o xs e), fun b ps e => ?_⟩, ?_, fun x c e => ?_, ?_, fun x c e => ?_, fun p hp => ?_, hok, I.len⟩
  · exact keep b o (neL b o e) hb (neC b o e hx) (I.base.keep b o e n hb hx) (I.base.free b o e n hx)
  · obtain ⟨sl, e1⟩ := I.base.slot b o e n hb hx
    obtain ⟨sl', e2⟩ := slot b _ (neL b o e) hb (neC b o e hx) e1 (I.base.free b o e n hx)
    exact ⟨sl', e2⟩
  · obtain ⟨o', e1⟩ := I.base.there b o e hx
    exact free b o' (neC b o e hx) e1 (I.base.free b o e n hx)
  · obtain ⟨o', e1⟩ := I.base.there b o e hx
    exact there b o' (neC b o e hx) e1
  · obtain ⟨m1, e1⟩ := I.base.tbls b ps e
    obtain ⟨m2, e2⟩ := tbls b _ e1
    exact ⟨m1 ++ m2, by rw [e2, Array.append_assoc]⟩
  · obtain ⟨m, hn, hl⟩ := I.loc
    refine ⟨m, ns m hn, fun i x v e1 e2 e3 => ?_⟩
    obtain ⟨u, r, l⟩ := hl i x v e1 e2 e3
    refine ⟨u, r, ?_⟩
    rcases l with l | ⟨k, c, e, z⟩
    · exact .inl l
    · exact .inr ⟨k, c, e, cellK x c e _ z⟩
  · obtain ⟨v, z⟩ := I.cell x c e
    exact ⟨v, cellK x c e v z⟩
  · obtain ⟨m, ⟨o, _, _, ho, _⟩, _⟩ := I.loc
    exact free _ o (fun z => (hch _ z).2.1 rfl) ho I.free
  · obtain ⟨v, o, ho, hd⟩ := I.cell x c e
    exact free c o (fun z => (hch c z).2.2.1 x c e rfl) ho (I.freeC x c e)
  · obtain ⟨e, n, ne, nf, d⟩ := I.pin p hp
    have nch : p.1 ∉ ch := fun z => (hch p.1 z).2.2.2 p hp rfl
    exact ⟨keep p.1 p.2 ne nf nch e n, free p.1 p.2 nch e n, ne, nf, d⟩
/-- .. where the frame's own object is kept too -/
theorem Inv.un {t' : Nat} (I : Inv X pins σ H s) (u : Un X.fs [] H H' s.heap h') (hok : HOk X.prog X.w H' h') : Inv X pins σ H' { s with heap := h', toks := t' } := by
  obtain ⟨m, ⟨o, es, ep, ho, r⟩, _⟩ := id I.loc
  obtain ⟨sl, hL⟩ := u.any ho I.free (by simp)
  exact I.step (g' := s.gens) (d' := s.drawn) (ch := []) (fun _ z => nomatch z) (fun b o _ hb _ e n => u.keep b o e n hb (by simp)) (fun b o _ hb _ e n => u.slot b o e n hb (by simp)) (fun b o _ e n => u.free b o e n (by simp)) (fun b o _ e => u.there b o e (by simp)) u.tups u.frzs u.tbls (fun m' hm => by
    obtain ⟨o', es', ep', ho', r'⟩ := hm
    rw [ho] at ho'; cases ho'
    exact ⟨_, es', ep', hL, r'⟩) hok I.bare
/-- behind a call (or a comprehension's block): the slots of this frame may have changed too, the records at ch may have turned -/
theorem Inv.call {g' : Array GenState} {t' : Nat} {d' : Drawn} {ch : List Addr} (I : Inv X pins σ H s) (u : Un (frs X.stack) ch H H' s.heap h') (hok : HOk X.prog X.w H' h') (hg : AllBare g')
    (hch : ∀ b ∈ ch, (b ∈ X.ex ∨ X.s₀.heap.objs.size ≤ b) ∧ b ≠ X.env.locals ∧ (∀ x c, X.env.cells.lookup x = some c → c ≠ b) ∧ ∀ p ∈ X.pn ++ pins, p.1 ≠ b) :
    Inv X pins σ H' { s with heap := h', gens := g', drawn := d', toks := t' } := by
  obtain ⟨m, ⟨o, es, ep, ho, r⟩, _⟩ := id I.loc
  obtain ⟨sl, hL⟩ := u.any ho I.free fun z => (hch _ z).2.1 rfl
  exact I.step (ch := ch) hch (fun b o hL hb hc e n => u.keep b o e n (fun z => (List.mem_cons.mp (I.stkSub b z)).elim hL hb) hc) (fun b o _ _ hc e n => u.any e n hc) (fun b o hc e n => u.free b o e n hc) (fun b o hc e => u.there b o e hc) u.tups u.frzs u.tbls (fun m' hm => by
    obtain ⟨o', es', ep', ho', r'⟩ := hm
    rw [ho] at ho'; cases ho'
    exact ⟨_, es', ep', hL, r'⟩) hok hg
/-- an untracked record of ours (an iterator) has turned -/
theorem Inv.turned {t' : Nat} {it : Addr} (I : Inv X pins σ H s) (k : ∀ b o, b ≠ it → s.heap.get? b = some o → h'.get? b = some o) (hn : H it = none) (hL : it ≠ X.env.locals)
    (h1 : it ∈ X.ex ∨ X.s₀.heap.objs.size ≤ it) (h2 : ∀ x c, X.env.cells.lookup x = some c → c ≠ it) (h3 : ∀ p ∈ X.pn ++ pins, p.1 ≠ it) : Inv X pins σ H { s with heap := h', toks := t' } := by
  have nit : ∀ b u, H b = some u → b ≠ it := fun b u e z => by rw [z, hn] at e; cases e
  refine I.step (g' := s.gens) (d' := s.drawn) (ch := [it]) (fun b hb => ?_) (fun b o _ _ hc e _ => k b o (fun z => hc (by simp [z])) e) (fun b o _ _ hc e _ => ⟨o.slots, k b o (fun z => hc (by simp [z])) e⟩) (fun _ _ _ _ n => n)
    (fun b o hc e => ⟨o, k b o (fun z => hc (by simp [z])) e⟩) (fun _ _ e => e) (fun _ _ _ e => e) (fun b ps e => ⟨#[], by rw [e]; simp⟩) (fun m hm => ?_) (fun b u e => ?_) I.bare
  · have e : b = it := by simpa using hb
    subst e
    exact ⟨h1, hL, h2, h3⟩
  · obtain ⟨o, es, ep, ho, r⟩ := hm
    exact ⟨o, es, ep, k _ o (Ne.symm hL) ho, r⟩
  · refine (I.hok b u e).stay (fun c v hc q => k c v ?_ q) (fun _ q => q) fun _ _ q => q
    rcases hc with z | z
    · rw [z]; exact nit b u e
    · exact nit c _ z
theorem Inv.tok (I : Inv X pins σ H s) (t : Nat) : Inv X pins σ H { s with toks := t } := I.un (h' := s.heap) (t' := t) Un.refl I.hok
/-- all objects kept -/
theorem Inv.kept {t' : Nat} (I : Inv X pins σ H s) (k : ∀ b u, s.heap.get? b = some u → h'.get? b = some u) : Inv X pins σ H { s with heap := h', toks := t' } := I.un (Un.kept k) (I.hok.kept k)
/-- a new object laid and tracked -/
theorem Inv.laid {a : Addr} {o : HO} {t' : Nat} (I : Inv X pins σ H s) (k : ∀ b u, s.heap.get? b = some u → h'.get? b = some u) (hp : s.heap.objs.size ≤ a) (new : ObjOk X.prog X.w (upd H a o) h' a o) :
    Inv X pins σ (upd H a o) { s with heap := h', toks := t' } := I.un (Un.laid k hp (I.hok.fresh hp)) (I.hok.laid k hp new)
/-- an object written -/
theorem Inv.write {x e : Addr} {o : HO} {t' : Nat} (I : Inv X pins σ H s) (mu : Mut (H x)) (he : e = x ∨ H e = some (.own x)) (k : ∀ b u, b ≠ e → s.heap.get? b = some u → h'.get? b = some u) (heo : ∃ u, h'.get? e = some u)
    (new : ObjOk X.prog X.w (upd H x o) h' x o) : Inv X pins σ (upd H x o) { s with heap := h', toks := t' } := I.un (Un.write mu he k heo) (I.hok.write mu he k heo new)
theorem Inv.pins_of {pins' : List (Addr × Obj)} (I : Inv X pins σ H s) (h : ∀ p ∈ pins', s.heap.get? p.1 = some p.2 ∧ H p.1 = none ∧ p.1 ≠ X.env.locals ∧ p.1 ∉ X.fs ∧ ∀ v, p.2.data ≠ .cell v) : Inv X pins' σ H s :=
  ⟨I.ok, I.os, I.bare, I.base, I.loc, I.cell, I.free, I.freeC, fun p hp => (List.mem_append.mp hp).elim (fun z => I.pin p (List.mem_append_left _ z)) (h p), I.hok, I.len⟩

theorem nodup_ix {N : List Str} (hN : N.Nodup) {i j : Nat} {x : Str} (a : N[i]? = some x) (b : N[j]? = some x) : i = j := by
  obtain ⟨h1, e1⟩ := List.getElem?_eq_some_iff.mp a
  obtain ⟨h2, e2⟩ := List.getElem?_eq_some_iff.mp b
  exact (List.getElem_inj hN).mp (e1.trans e2.symm)

/-- a name is stored; what changed -/
theorem store_ok2 {M : Model} {A : Around} {E : Value → Shared → Prop} {i : Nat} {x : Str} {v : V} {u : Value} {Q : Unit → Shared → Prop} (I : Inv X pins σ H s) (hN : X.N.Nodup) (hi : X.N[i]? = some x) (hx : Loc X.env.scope x) (r : RelV v u)
    (h : ∀ s', Inv X pins (σ.set i (some v)) H s' → (∃ a, Heap.SameBut a s.heap s'.heap ∧ (a = X.env.locals ∨ X.env.cells.lookup x = some a)) → Q () s') (hf : X.fn x = true ∨ X.env.scope.names.lookup x = some .local := by first | exact .inl rfl | exact .inr rfl | assumption) : wpAny M A (storeName X.env x u) Q E s := by
  obtain ⟨m, hn, hl⟩ := id I.loc
  have hcls : (X.env.scope.kind == .class || (X.env.scope.kind == .module && X.env.locals != X.env.globals)) = false := by rw [I.ok.kind]; rfl
  have hiσ : i < σ.length := by rw [I.len]; exact (List.getElem?_eq_some_iff.mp hi).1
  have cne := I.cne
  have tracked : ∀ {a : Addr} {h' : Heap}, (∃ o, s.heap.get? a = some o ∧ H a = none) → Heap.SameBut a s.heap h' → HOk X.prog X.w H h' := fun {a h'} ha hs b ob e => by
    obtain ⟨_, _, hfree⟩ := ha
    refine (I.hok b ob e).stay (fun c w' hc q => (hs.2 c ?_).trans q) (fun _ q => q) fun _ _ q => q
    rintro rfl
    rcases hc with rfl | hc
    · rw [hfree] at e; cases e
    · rw [hfree] at hc; cases hc
  rcases hx with hk | hk
  · refine wpAny_storeName_local hk hn (fun h' hn' hs => ?_) hcls
    obtain ⟨oL, _, _, hoL, _⟩ := id hn
    refine h _ ⟨I.ok, I.os, I.bare, ⟨fun b o e n hb hx => ?_, fun b o e n hb hx => ?_, I.base.free, fun b o e hx => ?_, I.base.tups, I.base.frzs, I.base.tbls⟩, ⟨_, hn', fun j y v' e1 e2 e3 => ?_⟩, fun y c e => ?_, I.free, I.freeC, fun p hp => ?_, tracked ⟨oL, hoL, I.free⟩ hs, by simpa using I.len⟩ ⟨_, hs, .inl rfl⟩
    · exact (hs.2 b (Nat.ne_of_lt (Nat.lt_of_lt_of_le (Heap.lt_size e) I.ok.above))).trans (I.base.keep b o e n hb hx)
    · obtain ⟨sl, e1⟩ := I.base.slot b o e n hb hx
      exact ⟨sl, (hs.2 b (Nat.ne_of_lt (Nat.lt_of_lt_of_le (Heap.lt_size e) I.ok.above))).trans e1⟩
    · obtain ⟨o', e1⟩ := I.base.there b o e hx
      exact ⟨o', (hs.2 b (Nat.ne_of_lt (Nat.lt_of_lt_of_le (Heap.lt_size e) I.ok.above))).trans e1⟩
    · by_cases hj : j = i
      · subst hj
        rw [hi] at e1; cases e1
        rw [List.getElem?_set_self hiσ] at e2
        cases e2
        exact ⟨u, r, .inl ⟨hk, by simp⟩⟩
      · rw [List.getElem?_set_ne (Ne.symm hj)] at e2
        obtain ⟨u', r', q⟩ := hl j y v' e1 e2 e3
        refine ⟨u', r', ?_⟩
        rcases q with ⟨k, e⟩ | ⟨k, c, e, z⟩
        · refine .inl ⟨k, ?_⟩
          have : y ≠ x := fun e => hj (nodup_ix hN e1 (e ▸ hi))
          simp [this, e]
        · exact .inr ⟨k, c, e, z.sameBut hs (cne y c e)⟩
    · obtain ⟨w', z⟩ := I.cell y c e
      exact ⟨w', z.sameBut hs (cne y c e)⟩
    · obtain ⟨e, n, ne, nf, d⟩ := I.pin p hp
      exact ⟨(hs.2 p.1 ne).trans e, n, ne, nf, d⟩
  · have hfn : X.fn x = true := by
      rcases hf with z | z
      · exact z
      · rw [z] at hk; cases hk
    obtain ⟨c, hc⟩ := I.ok.has x (.inl hk)
    obtain ⟨w', z⟩ := I.cell x c hc
    refine wpAny_storeName_cell I.ok.kind hk hc z (fun h' hc' hs => ?_)
    obtain ⟨oc, hoc, hocd⟩ := id z
    refine h { s with heap := h' } ⟨I.ok, I.os, I.bare, ⟨fun b o e n hb hx => ?_, fun b o e n hb hx => ?_, I.base.free, fun b o e hx => ?_, I.base.tups, I.base.frzs, I.base.tbls⟩, ⟨m, hn.sameBut hs (Ne.symm (cne x c hc)), fun j y v' e1 e2 e3 => ?_⟩, fun y c' e => ?_, I.free, I.freeC, fun p hp => ?_, tracked ⟨oc, hoc, I.freeC x c hc⟩ hs, by simpa using I.len⟩ ⟨c, hs, .inr hc⟩
    · exact (hs.2 b (Nat.ne_of_lt (Nat.lt_of_lt_of_le (Heap.lt_size e) (I.ok.cab x c hfn hc)))).trans (I.base.keep b o e n hb hx)
    · obtain ⟨sl, e1⟩ := I.base.slot b o e n hb hx
      exact ⟨sl, (hs.2 b (Nat.ne_of_lt (Nat.lt_of_lt_of_le (Heap.lt_size e) (I.ok.cab x c hfn hc)))).trans e1⟩
    · obtain ⟨o', e1⟩ := I.base.there b o e hx
      exact ⟨o', (hs.2 b (Nat.ne_of_lt (Nat.lt_of_lt_of_le (Heap.lt_size e) (I.ok.cab x c hfn hc)))).trans e1⟩
    · by_cases hj : j = i
      · subst hj
        rw [hi] at e1; cases e1
        rw [List.getElem?_set_self hiσ] at e2
        cases e2
        exact ⟨u, r, .inr ⟨.inl hk, c, hc, hc'⟩⟩
      · rw [List.getElem?_set_ne (Ne.symm hj)] at e2
        obtain ⟨u', r', q⟩ := hl j y v' e1 e2 e3
        refine ⟨u', r', ?_⟩
        rcases q with q | ⟨k, c', e, z'⟩
        · exact .inl q
        · refine .inr ⟨k, c', e, z'.sameBut hs ?_⟩
          rintro rfl
          exact hj (nodup_ix hN e1 (I.ok.inj _ _ _ e hc ▸ hi))
    · by_cases hcc : c' = c
      · subst hcc; exact ⟨_, hc'⟩
      · obtain ⟨w2, z2⟩ := I.cell y c' e
        exact ⟨w2, z2.sameBut hs hcc⟩
    · obtain ⟨e, n, ne, nf, d⟩ := I.pin p hp
      refine ⟨(hs.2 p.1 ?_).trans e, n, ne, nf, d⟩
      intro q
      rw [q, hoc] at e
      have q' : oc = p.2 := Option.some.inj e
      exact d w' (by rw [← q']; exact hocd)
theorem store_ok {M : Model} {A : Around} {E : Value → Shared → Prop} {i : Nat} {x : Str} {v : V} {u : Value} {Q : Unit → Shared → Prop} (I : Inv X pins σ H s) (hN : X.N.Nodup) (hi : X.N[i]? = some x) (hx : Loc X.env.scope x) (r : RelV v u)
    (h : ∀ s', Inv X pins (σ.set i (some v)) H s' → Q () s') (hf : X.fn x = true ∨ X.env.scope.names.lookup x = some .local := by first | exact .inl rfl | exact .inr rfl | assumption) : wpAny M A (storeName X.env x u) Q E s :=
  store_ok2 I hN hi hx r (fun s' I' _ => h s' I') hf
/-- behind a call or a block, the state as it is -/
theorem Inv.call' {s' : Shared} {ch : List Addr} (I : Inv X pins σ H s) (ho : s'.os = s.os) (u : Un (frs X.stack) ch H H' s.heap s'.heap) (hok : HOk X.prog X.w H' s'.heap) (hg : AllBare s'.gens)
    (hch : ∀ b ∈ ch, (b ∈ X.ex ∨ X.s₀.heap.objs.size ≤ b) ∧ b ≠ X.env.locals ∧ (∀ x c, X.env.cells.lookup x = some c → c ≠ b) ∧ ∀ p ∈ X.pn ++ pins, p.1 ≠ b) : Inv X pins σ H' s' := by
  obtain ⟨h', g', d', t', o'⟩ := s'
  have e : o' = s.os := ho
  subst e
  exact I.call (g' := g') (t' := t') (d' := d') u hok hg hch
end

/-! ### the judgements -/
/-- an exception: its class, its own dict's address (where it has one), the abstract heap behind it -/
abbrev XK := Value → Option Addr → Hp → Prop
abbrev St := List (Option V)
abbrev VK := V → Hp → Prop
/-- an expression's reading; a test's; an argument list's -/
abbrev TE := St → Hp → VK → Prop
abbrev TT := St → Hp → (Bool → Hp → Prop) → Prop
abbrev TA := St → Hp → (List V → Hp → Prop) → Prop
/-- what is wanted behind a statement -/
structure Ends where
  nx : St → Hp → Prop
  rt : VK
  bk : St → Hp → Prop := fun _ _ => False
  ct : St → Hp → Prop := fun _ _ => False
abbrev TS := Ends → St → Hp → Prop

def EP (X : Cx) (pins : List (Addr × Obj)) (σ : St) (Q : VK) (u : Value) (s' : Shared) : Prop := ∃ v H', Inv X pins σ H' s' ∧ RelV v u ∧ Q v H'
def TP (X : Cx) (pins : List (Addr × Obj)) (σ : St) (Q : Bool → Hp → Prop) (b : Bool) (s' : Shared) : Prop := ∃ H', Inv X pins σ H' s' ∧ Q b H'
def AP (X : Cx) (pins : List (Addr × Obj)) (σ : St) (Q : List V → Hp → Prop) (us : List Value) (s' : Shared) : Prop := ∃ vs H', Inv X pins σ H' s' ∧ Vals vs us ∧ Q vs H'
def SP (X : Cx) (pins : List (Addr × Obj)) (D : Ends) (f : Flow) (s' : Shared) : Prop :=
  match f with
  | .next => ∃ σ' H', Inv X pins σ' H' s' ∧ D.nx σ' H'
  | .brk => ∃ σ' H', Inv X pins σ' H' s' ∧ D.bk σ' H'
  | .cont => ∃ σ' H', Inv X pins σ' H' s' ∧ D.ct σ' H'
  | .ret u => ∃ v σ' H', Inv X pins σ' H' s' ∧ RelV v u ∧ D.rt v H'

def PE (X : Cx) (e : Expr) (t : TE) : Prop :=
  ∀ (pins : List (Addr × Obj)) (s : Shared) (σ : St) (H : Hp) (Q : VK), Inv X pins σ H s → t σ H Q → wpAny (model X.prog X.w) X.A (eval e X.env) (EP X pins σ Q) X.xe s
def PT (X : Cx) (e : Expr) (t : TT) : Prop :=
  ∀ (pins : List (Addr × Obj)) (s : Shared) (σ : St) (H : Hp) (Q : Bool → Hp → Prop), Inv X pins σ H s → t σ H Q → wpAny (model X.prog X.w) X.A (isTrue e X.env (eval e X.env)) (TP X pins σ Q) X.xe s
/-- a test whatever its 'whole' is (and, or) -/
def PW (X : Cx) (e : Expr) (t : TT) : Prop :=
  ∀ (whole : Sem Value) (pins : List (Addr × Obj)) (s : Shared) (σ : St) (H : Hp) (Q : Bool → Hp → Prop), Inv X pins σ H s → t σ H Q → wpAny (model X.prog X.w) X.A (isTrue e X.env whole) (TP X pins σ Q) X.xe s
theorem PW.pt {X : Cx} {e : Expr} {t : TT} (h : PW X e t) : PT X e t := h _
/-- an argument list (no star), from the left -/
def PA (X : Cx) (es : List Expr) (t : TA) : Prop :=
  ∀ (pos : Pos) (pins : List (Addr × Obj)) (s : Shared) (σ : St) (H : Hp) (Q : List V → Hp → Prop), Inv X pins σ H s → t σ H Q → wpAny (model X.prog X.w) X.A (spliced (backTo pos (starEach es X.env))) (AP X pins σ Q) X.xe s
def PS (X : Cx) (st : Stmt) (t : TS) : Prop :=
  ∀ (pins : List (Addr × Obj)) (s : Shared) (σ : St) (H : Hp) (D : Ends), Inv X pins σ H s → t D σ H → wpAny (model X.prog X.w) X.A (exec st X.env) (SP X pins D) X.xe s
def PSs (X : Cx) (st : List Stmt) (t : TS) : Prop :=
  ∀ (pins : List (Addr × Obj)) (s : Shared) (σ : St) (H : Hp) (D : Ends), Inv X pins σ H s → t D σ H → wpAny (model X.prog X.w) X.A (execs st X.env) (SP X pins D) X.xe s
/-- weaken the end -/
theorem thn {α : Type} {t : Sem α} {Q Q' : α → Shared → Prop} {M : Model} {A : Around} {E : Value → Shared → Prop} {s : Shared} (h : wpAny M A t Q E s) (hQ : ∀ a s, Q a s → Q' a s) : wpAny M A t Q' E s := wpAny_mono h hQ fun _ _ x => x
end L2

namespace L2
open PySem PySem.Spec PyProof.Rows
section
variable {X : Cx}

/-! ### names and constants -/
def tVar (i : Nat) : TE := fun σ H Q => ∃ v, σ[i]? = some (some v) ∧ Q v H
def tC (v : V) : TE := fun _ H Q => Q v H
theorem pe_var {i : Nat} {x : Str} {pos : Pos} (hN : X.N[i]? = some x) (hv : Vis X.env.scope x) (hd : (x == ("__debug__" : Str)) = false := by decide) (hcd : (x == ("__classdict__" : Str)) = false := by decide) : PE X (.Name x pos) (tVar i) := by
  intro pins s σ H Q I h
  obtain ⟨v, e, h⟩ := h
  obtain ⟨m, hn, hl⟩ := I.loc
  obtain ⟨u, r, l⟩ := hl i x v hN e hv
  have fin : EP X pins σ Q u s := ⟨v, H, I, r, h⟩
  rcases l with ⟨hk, hm⟩ | ⟨hk, c, hc, hcell⟩
  · exact wpAny_Name (wpAny_loadName_local I.ok.kind hk hn hm fin) hd
  · rcases hk with hk | hk
    · exact wpAny_Name (wpAny_loadName_cell I.ok.kind hk hc hcell fin) hd
    · exact wpAny_Name (wpAny_loadName_free I.ok.kind hk hc hcell fin hcd) hd
theorem pe_int {i j pos} : PE X (.Constant (.int i) j pos) (tC (.int i)) := fun _ _ _ H _ I h => wpAny_Constant_int ⟨.int i, H, I.tok _, ⟨_, rfl⟩, h⟩
theorem pe_bl {b j pos} : PE X (.Constant (.bool b) j pos) (tC (.bl b)) := fun _ _ _ H _ I h => Constant_bool ⟨.bl b, H, I, rfl, h⟩
theorem pe_str {x j pos} : PE X (.Constant (.str x) j pos) (tC (.str x)) := fun _ _ _ H _ I h => Calls.Constant_str ⟨.str x, H, I.tok _, ⟨_, rfl⟩, h⟩

/-- a global name of the def -/
def Gl (X : Cx) (x : Str) : Prop := X.env.kindOf x = some .globalImplicit
theorem ld_glob {E : Value → Shared → Prop} {pins : List (Addr × Obj)} {s : Shared} {σ : St} {H : Hp} {x : Str} {u : Value} {pos : Pos} {Q : Value → Shared → Prop} (I : Inv X pins σ H s) (hg : Gl X x) (hm : X.mg x = some u) (h : Q u s)
    (hd : (x == ("__debug__" : Str)) = false := by decide) : wpAny (model X.prog X.w) X.A (eval (.Name x pos) X.env) Q E s :=
  Calls.Name_function_global I.ok.kind hg (Calls.loadGlobal_global (by rw [I.ok.glob]; exact I.mod.glob.keeps I.bk) hm h) hd
theorem ld_blt {E : Value → Shared → Prop} {pins : List (Addr × Obj)} {s : Shared} {σ : St} {H : Hp} {x : Str} {u : Value} {pos : Pos} {Q : Value → Shared → Prop} (I : Inv X pins σ H s) (hg : Gl X x) (hm : X.mg x = none) (hv : bootBuiltins x = some u) (h : Q u s)
    (hn : x ≠ "__name__" := by decide) (hd : (x == ("__debug__" : Str)) = false := by decide) : wpAny (model X.prog X.w) X.A (eval (.Name x pos) X.env) Q E s := by
  obtain ⟨mb, h1, h2⟩ := I.mod.blt
  exact Calls.Name_function_global I.ok.kind hg (Calls.loadGlobal_builtin (by rw [I.ok.glob]; exact I.mod.glob.keeps I.bk) hm (by rw [I.ok.blt]; exact h1.keeps I.bk) ((h2 x hn).trans hv) h) hd
/-- a module's constant, a class, a function, as a value -/
theorem pe_glob {x : Str} {v : V} {u : Value} {pos : Pos} (hg : Gl X x) (hm : X.mg x = some u) (r : RelV v u) (hd : (x == ("__debug__" : Str)) = false := by decide) : PE X (.Name x pos) (tC v) :=
  fun _ _ _ H _ I h => ld_glob I hg hm ⟨v, H, I, r, h⟩ hd
theorem pe_bltn {x : Str} {v : V} {u : Value} {pos : Pos} (hg : Gl X x) (hm : X.mg x = none) (hv : bootBuiltins x = some u) (r : RelV v u) (hn : x ≠ "__name__" := by decide) (hd : (x == ("__debug__" : Str)) = false := by decide) : PE X (.Name x pos) (tC v) :=
  fun _ _ _ H _ I h => ld_blt I hg hm hv ⟨v, H, I, r, h⟩ hn hd

variable {a b : Expr} {ta tb : TE} {pos : Pos}
/-! ### comparisons -/
def PC (X : Cx) (op : CmpOp) (a b : Expr) (t : TE) : Prop :=
  ∀ (pins : List (Addr × Obj)) (s : Shared) (σ : St) (H : Hp) (Q : VK), Inv X pins σ H s → t σ H Q →
    wpAny (model X.prog X.w) X.A (eval a X.env) (fun v s₁ => wpAny (model X.prog X.w) X.A (eval b X.env) (fun u s₂ => wpAny (model X.prog X.w) X.A (compareOp op v u) (EP X pins σ Q) X.xe s₂) X.xe s₁) X.xe s
theorem nobehind (b : Expr) {op : CmpOp} (h : op ≠ .In) (h2 : op ≠ .NotIn) : behindInMarks op b = false := by
  have e1 : (op == CmpOp.In) = false := by cases op <;> first | rfl | exact absurd rfl h
  have e2 : (op == CmpOp.NotIn) = false := by cases op <;> first | rfl | exact absurd rfl h2
  cases b <;> simp [behindInMarks, e1, e2]
/-- a comparison as a value, as a test -/
def tB (t : TE) : TT := fun σ H Q => t σ H fun x H1 => ∃ c, x = .bl c ∧ Q c H1
theorem pt_cmp {op : CmpOp} {t : TE} (h : PC X op a b t) (h1 : behindInMarks op b = false := by first | exact nobehind _ (by decide) (by decide) | rfl) : PT X (.Compare a [op] [b] pos) (tB t) := by
  intro pins s σ H Q I hw
  refine wpAny_isTrue_Compare1 (thn (h pins s σ H _ I hw) fun v s1 h1 => thn h1 fun u s2 h2 => thn h2 fun c s3 ⟨x, H1, I1, r1, q1⟩ => ?_) h1
  obtain ⟨d, rfl, q⟩ := q1
  cases r1
  exact wpAny_truthy_bool ⟨H1, I1, q⟩
/-- an expression whose value is a bool, as a test -/
theorem pt_val {e : Expr} {t : TE} (h : PE X e t) (he : ∀ whole, isTrue e X.env whole = (do let v ← whole; standAt e.pos; holding [v] (truthy v)) := by intro _; rfl) : PT X e (tB t) := by
  intro pins s σ H Q I hw
  refine isTrue_plain (thn (h pins s σ H _ I hw) fun v s1 ⟨x, H1, I1, r1, q1⟩ => ?_) (he _)
  obtain ⟨d, rfl, q⟩ := q1
  cases r1
  exact wpAny_truthy_bool ⟨H1, I1, q⟩

/-! ### and, or, not -/
variable {tA tB' : TT} {rest : List Expr}
def tAnd (t u : TT) : TT := fun σ H Q => t σ H fun c H1 => if c = true then u σ H1 Q else Q false H1
def tOr (t u : TT) : TT := fun σ H Q => t σ H fun c H1 => if c = true then Q true H1 else u σ H1 Q
def tNot (t : TT) : TT := fun σ H Q => t σ H fun c H1 => Q (!c) H1
theorem pw_and1 (ha : PT X a tA) : PW X (.BoolOp .And [a] pos) tA := by
  intro wh pins s σ H Q I h
  refine isTrue_and (thn (ha pins s σ H Q I h) fun c s1 e => ?_)
  cases c with
  | true => exact isTrue_and_nil e
  | false => exact e
theorem pw_or1 (ha : PT X a tA) : PW X (.BoolOp .Or [a] pos) tA := by
  intro wh pins s σ H Q I h
  refine isTrue_or (thn (ha pins s σ H Q I h) fun c s1 e => ?_)
  cases c with
  | false => exact isTrue_or_nil e
  | true => exact e
theorem pw_and (ha : PT X a tA) (hb : PW X (.BoolOp .And (b :: rest) pos) tB') : PW X (.BoolOp .And (a :: b :: rest) pos) (tAnd tA tB') := by
  intro wh pins s σ H Q I h
  refine isTrue_and (thn (ha pins s σ H _ I h) fun c s1 ⟨H1, I1, q1⟩ => ?_)
  cases c with
  | true => exact hb wh pins s1 σ H1 Q I1 q1
  | false => exact ⟨H1, I1, q1⟩
theorem pw_or (ha : PT X a tA) (hb : PW X (.BoolOp .Or (b :: rest) pos) tB') : PW X (.BoolOp .Or (a :: b :: rest) pos) (tOr tA tB') := by
  intro wh pins s σ H Q I h
  refine isTrue_or (thn (ha pins s σ H _ I h) fun c s1 ⟨H1, I1, q1⟩ => ?_)
  cases c with
  | true => exact ⟨H1, I1, q1⟩
  | false => exact hb wh pins s1 σ H1 Q I1 q1
theorem pt_not (ha : PT X a tA) : PT X (.UnaryOp .Not a pos) (tNot tA) := by
  intro pins s σ H Q I h
  exact isTrue_not (ha pins s σ H (fun c H1 => Q (!c) H1) I h)
/-- .. as values (bools) -/
def tAndV (ta tb : TE) : TE := fun σ H Q => ta σ H fun x H1 => ∃ c, x = .bl c ∧ if c = true then tb σ H1 Q else Q (.bl false) H1
def tNotV (ta : TE) : TE := fun σ H Q => ta σ H fun x H1 => ∃ c, x = .bl c ∧ Q (.bl (!c)) H1
theorem pe_one {op} {t : TE} (h : PE X a t) : PE X (.BoolOp op [a] pos) t := fun pins s σ H Q I hw => BoolOp_one (h pins s σ H Q I hw)
theorem pe_and (ha : PE X a ta) (hb : PE X (.BoolOp .And (b :: rest) pos) tb) : PE X (.BoolOp .And (a :: b :: rest) pos) (tAndV ta tb) := by
  intro pins s σ H Q I h
  refine BoolOp_and (thn (ha pins s σ H _ I h) fun v s1 ⟨x, H1, I1, r1, q1⟩ => ?_)
  obtain ⟨c, rfl, q1⟩ := q1
  cases r1
  refine wpAny_truthy_bool ?_
  cases c with
  | true => exact hb pins s1 σ H1 Q I1 q1
  | false => exact ⟨.bl false, H1, I1, rfl, q1⟩
theorem pe_not (ha : PE X a ta) : PE X (.UnaryOp .Not a pos) (tNotV ta) := by
  intro pins s σ H Q I h
  refine UnaryOp_ (thn (ha pins s σ H _ I h) fun v s1 ⟨x, H1, I1, r1, q1⟩ => ?_)
  obtain ⟨c, rfl, q1⟩ := q1
  cases r1
  exact not_of (wpAny_truthy_bool ⟨.bl (!c), H1, I1, rfl, q1⟩)
/-- a if t else b -/
def tIf (t : TT) (ta tb : TE) : TE := fun σ H Q => t σ H fun c H1 => if c = true then ta σ H1 Q else tb σ H1 Q
theorem pe_ifExp {c : Expr} (hc : PT X c tA) (ha : PE X a ta) (hb : PE X b tb) : PE X (.IfExp c a b pos) (tIf tA ta tb) := by
  intro pins s σ H Q I h
  refine wpAny_IfExp (thn (hc pins s σ H _ I h) fun d s1 ⟨H1, I1, q1⟩ => ?_)
  cases d with
  | true => exact ha pins s1 σ H1 Q I1 q1
  | false => exact hb pins s1 σ H1 Q I1 q1
end
end L2

namespace L2
open PySem PySem.Spec PyProof.Rows

/-! ### a list, a tuple that is read: tracked, frozen, or an object of the module -/
def SqL (K : PySem.W.Frag) (H : Hp) (a : Addr) (xs : List V) : Prop :=
  Rd H a (.lst xs) ∨
    ∃ (o : Obj) (its : Array Value) (n : Nat), K.lookup a = some o ∧ o.cls = .type "list" ∧ o.dict = none ∧ o.data = .seq its n ∧ its.size ≤ sizeLine ∧ Vals xs its.toList
def SqT (K : PySem.W.Frag) (H : Hp) (a : Addr) (xs : List V) : Prop :=
  Rd H a (.tup xs) ∨
    ∃ (o : Obj) (its : Array Value) (n : Nat), K.lookup a = some o ∧ o.cls = .type "tuple" ∧ o.data = .seq its n ∧ its.size ≤ sizeLine ∧ Vals xs its.toList
def absV : Value → Option V
  | .none => some .non
  | .bool b => some (.bl b)
  | .int i _ => some (.int i)
  | .str x _ => some (.str x)
  | .bytes b _ => some (.byt b)
  | .float b _ => some (.flt b)
  | .ref a => some (.ref a)
  | .type n => some (.ty n)
  | _ => none
theorem RelV.abs {x : V} {u : Value} (r : RelV x u) : absV u = some x := by
  cases x with
  | non => cases r; rfl
  | bl _ => cases r; rfl
  | int _ => obtain ⟨t, rfl⟩ := r; rfl
  | str _ => obtain ⟨t, rfl⟩ := r; rfl
  | byt _ => obtain ⟨t, rfl⟩ := r; rfl
  | flt _ => obtain ⟨t, rfl⟩ := r; rfl
  | ref _ => cases r; rfl
  | ty _ => cases r; rfl
theorem RelV.inj {x y : V} {u : Value} (r : RelV x u) (q : RelV y u) : x = y := Option.some.inj (r.abs.symm.trans q.abs)
theorem Vals.inj : ∀ {xs ys : List V} {us : List Value}, Vals xs us → Vals ys us → xs = ys
  | _, _, _, .nil, .nil => rfl
  | _, _, _, .cons r t, .cons r' t' => by rw [r.inj r', Vals.inj t t']
section
variable {X : Cx} {pins : List (Addr × Obj)} {σ : St} {H : Hp} {s : Shared} {a : Addr} {xs ys : List V}
theorem SqL.of {K : PySem.W.Frag} (h : H a = some (.lst xs)) : SqL K H a xs := .inl (.inl h)
theorem SqT.of {K : PySem.W.Frag} (h : H a = some (.tup xs)) : SqT K H a xs := .inl (.inl h)
theorem Inv.list (I : Inv X pins σ H s) (h : SqL X.K H a xs) : ∃ its : List Value, Vals xs its ∧ PlainL s.heap a its.toArray ∧ xs.length ≤ sizeLine := by
  rcases h with h | ⟨o, its, n, hk, hc, hd, hs, hz, r⟩
  · obtain ⟨z, its, n, r, e⟩ := h.ok I.hok
    exact ⟨its, r, ⟨_, n, e, rfl, rfl, rfl⟩, z⟩
  · refine ⟨its.toList, r, ⟨o, n, I.kIn a o hk, hc, hd, by simpa using hs⟩, ?_⟩
    have e := r.length
    simp only [Array.length_toList] at e
    omega
theorem Inv.tuple (I : Inv X pins σ H s) (h : SqT X.K H a xs) : ∃ its : List Value, Vals xs its ∧ IsTup s.heap a its.toArray ∧ xs.length ≤ sizeLine := by
  rcases h with h | ⟨o, its, n, hk, hc, hs, hz, r⟩
  · obtain ⟨z, its, r, p⟩ := h.ok I.hok
    exact ⟨its, r, p, z⟩
  · refine ⟨its.toList, r, ⟨o, I.kIn a o hk, hc, n, by simpa using hs⟩, ?_⟩
    have e := r.length
    simp only [Array.length_toList] at e
    omega
theorem Inv.list_inj (I : Inv X pins σ H s) (h : SqL X.K H a xs) (h' : SqL X.K H a ys) : xs = ys := by
  obtain ⟨its, r, ⟨o, n, e, _, _, d⟩, _⟩ := I.list h
  obtain ⟨its', r', ⟨o', n', e', _, _, d'⟩, _⟩ := I.list h'
  rw [e] at e'; cases e'
  rw [d] at d'
  injection d' with d1 _
  have : its = its' := by simpa using congrArg Array.toList d1
  subst this
  exact r.inj r'
theorem Inv.tuple_inj (I : Inv X pins σ H s) (h : SqT X.K H a xs) (h' : SqT X.K H a ys) : xs = ys := by
  obtain ⟨its, r, ⟨o, e, _, n, d⟩, _⟩ := I.tuple h
  obtain ⟨its', r', ⟨o', e', _, n', d'⟩, _⟩ := I.tuple h'
  rw [e] at e'; cases e'
  rw [d] at d'
  injection d' with d1 _
  have : its = its' := by simpa using congrArg Array.toList d1
  subst this
  exact r.inj r'
end

/-! ### another wish about exceptions -/
abbrev Cx.wish (X : Cx) (E : Value → Shared → Prop) : Cx := { X with xe := E }
/-- no exception leaves -/
abbrev Cx.nox (X : Cx) : Cx := X.wish fun _ _ => False
theorem Cx.Ok.wish {X : Cx} (ok : X.Ok) (E : Value → Shared → Prop) : (X.wish E).Ok :=
  ⟨ok.mod, ok.kind, ok.glob, ok.blt, ok.above, ok.inj, ok.has, ok.cab, ok.hd, ok.frames, ok.stk, ok.exf, ok.bs, ok.bsz, ok.noex, ok.exfs, ok.funs, ok.frf⟩
theorem Cx.Ok.unwish {X : Cx} {E : Value → Shared → Prop} (ok : (X.wish E).Ok) : X.Ok :=
  ⟨ok.mod, ok.kind, ok.glob, ok.blt, ok.above, ok.inj, ok.has, ok.cab, ok.hd, ok.frames, ok.stk, ok.exf, ok.bs, ok.bsz, ok.noex, ok.exfs, ok.funs, ok.frf⟩
section
variable {X : Cx} {pins : List (Addr × Obj)} {σ : St} {H : Hp} {s : Shared} {E : Value → Shared → Prop}
theorem Inv.wish (I : Inv X pins σ H s) (E : Value → Shared → Prop) : Inv (X.wish E) pins σ H s := ⟨I.ok.wish E, I.os, I.bare, I.base, I.loc, I.cell, I.free, I.freeC, I.pin, I.hok, I.len⟩
theorem Inv.unwish (I : Inv (X.wish E) pins σ H s) : Inv X pins σ H s := ⟨I.ok.unwish, I.os, I.bare, I.base, I.loc, I.cell, I.free, I.freeC, I.pin, I.hok, I.len⟩
theorem SP.unwish {D : Ends} {f : Flow} {s' : Shared} (h : SP (X.wish E) pins D f s') : SP X pins D f s' := by
  cases f with
  | next => obtain ⟨σ', H', I, q⟩ := h; exact ⟨σ', H', I.unwish, q⟩
  | brk => obtain ⟨σ', H', I, q⟩ := h; exact ⟨σ', H', I.unwish, q⟩
  | cont => obtain ⟨σ', H', I, q⟩ := h; exact ⟨σ', H', I.unwish, q⟩
  | ret u => obtain ⟨v, σ', H', I, r, q⟩ := h; exact ⟨v, σ', H', I.unwish, r, q⟩
theorem PE.nox {e : Expr} {t : TE} (h : PE X.nox e t) : PE X e t := fun pins s σ H Q I hw =>
  wpAny_mono (h pins s σ H Q (I.wish _) hw) (fun _ _ ⟨v, H', I', r, q⟩ => ⟨v, H', I'.unwish, r, q⟩) fun _ _ z => False.elim z
theorem PT.nox {e : Expr} {t : TT} (h : PT X.nox e t) : PT X e t := fun pins s σ H Q I hw =>
  wpAny_mono (h pins s σ H Q (I.wish _) hw) (fun _ _ ⟨H', I', q⟩ => ⟨H', I'.unwish, q⟩) fun _ _ z => False.elim z
theorem PSs.nox {st : List Stmt} {t : TS} (h : PSs X.nox st t) : PSs X st t := fun pins s σ H D I hw =>
  wpAny_mono (h pins s σ H D (I.wish _) hw) (fun _ _ q => q.unwish) fun _ _ z => False.elim z
end

/-! ### blocks and small statements -/
section
variable {X : Cx} {st : Stmt} {rest : List Stmt} {t u : TS} {e : Expr} {te : TE} {pos : Pos}
def tNext : TS := fun D σ H => D.nx σ H
def tSeq (t u : TS) : TS := fun D σ H => t { D with nx := u D } σ H
theorem pss_nil : PSs X [] tNext := fun _ _ σ H _ I h => wpAny_execs_nil ⟨σ, H, I, h⟩
theorem pss_cons (h1 : PS X st t) (h2 : PSs X rest u) : PSs X (st :: rest) (tSeq t u) := by
  intro pins s σ H D I h
  refine wpAny_execs_cons (thn (h1 pins s σ H { D with nx := u D } I h) fun f s1 q => ?_)
  cases f with
  | next =>
    obtain ⟨σ', H', I', q⟩ := q
    exact h2 pins s1 σ' H' D I' q
  | ret v => exact q
  | brk => exact q
  | cont => exact q
theorem pss_one (h1 : PS X st t) : PSs X [st] t := by
  intro pins s σ H D I h
  refine wpAny_execs_cons (thn (h1 pins s σ H D I h) fun f s1 q => ?_)
  cases f with
  | next => exact wpAny_execs_nil q
  | ret v => exact q
  | brk => exact q
  | cont => exact q
/-- in a def's body nothing is shown -/
theorem Inv.quiet {pins : List (Addr × Obj)} {σ : St} {H : Hp} {s : Shared} (I : Inv X pins σ H s) : interactive X.env = false := by simp [interactive, I.ok.kind]
/-- an expression whose value is dropped -/
def tDrop (te : TE) : TS := fun D σ H => te σ H fun _ H1 => D.nx σ H1
theorem ps_expr (he : PE X e te) (hs : swapsWith e none pos.line X.env = pure false := by rfl) : PS X (.Expr e pos) (tDrop te) := by
  intro pins s σ H D I h
  exact wpAny_Expr_any (thn (he pins s σ H _ I h) fun v s1 ⟨x, H1, I1, r1, q1⟩ => ⟨σ, H1, I1, q1⟩) I.quiet hs
def tRet (te : TE) : TS := fun D σ H => te σ H D.rt
theorem ps_ret (he : PE X e te) : PS X (.Return (some e) pos) (tRet te) := by
  intro pins s σ H D I h
  exact wpAny_Return_some (thn (he pins s σ H _ I h) fun v s1 ⟨x, H1, I1, r1, q1⟩ => ⟨x, σ, H1, I1, r1, q1⟩)
def tIfS (c : TT) (t u : TS) : TS := fun D σ H => c σ H fun b H1 => if b = true then t D σ H1 else u D σ H1
theorem ps_if {c : Expr} {a b : List Stmt} {tc : TT} (hc : PT X c tc) (ha : PSs X a t) (hb : PSs X b u) : PS X (.If c a b pos) (tIfS tc t u) := by
  intro pins s σ H D I h
  refine wpAny_If (thn (hc pins s σ H _ I h) fun d s1 ⟨H1, I1, q1⟩ => ?_)
  cases d with
  | true => exact ha pins s1 σ H1 D I1 q1
  | false => exact hb pins s1 σ H1 D I1 q1
end

/-! ### targets -/
abbrev TG := V → St → Hp → (St → Hp → Prop) → Prop
abbrev TGs := List V → St → Hp → (St → Hp → Prop) → Prop
def PG (X : Cx) (target : Expr) (t : TG) : Prop :=
  ∀ (pins : List (Addr × Obj)) (s : Shared) (σ : St) (H : Hp) (v : V) (u : Value) (Q : St → Hp → Prop), Inv X pins σ H s → RelV v u → t v σ H Q →
    wpAny (model X.prog X.w) X.A (assign target X.env u) (fun _ s' => ∃ σ' H', Inv X pins σ' H' s' ∧ Q σ' H') X.xe s
/-- several targets, one after another -/
def PGs (X : Cx) (ts : List Expr) (t : TGs) : Prop :=
  ∀ (pins : List (Addr × Obj)) (s : Shared) (σ : St) (H : Hp) (vs : List V) (us : List Value) (Q : St → Hp → Prop), Inv X pins σ H s → Vals vs us → t vs σ H Q →
    wpAny (model X.prog X.w) X.A (assignInOrder ((assignEach ts X.env).map (·.2)) us) (fun _ s' => ∃ σ' H', Inv X pins σ' H' s' ∧ Q σ' H') X.xe s
/-- o[i] = v, by values -/
abbrev TSet := V → V → V → Hp → (Hp → Prop) → Prop
def PSet (X : Cx) (t : TSet) : Prop :=
  ∀ (pins : List (Addr × Obj)) (s : Shared) (σ : St) (H : Hp) (o i v : V) (ov iv u : Value) (Q : Hp → Prop), Inv X pins σ H s → RelV o ov → RelV i iv → RelV v u → t o i v H Q →
    wpAny (model X.prog X.w) X.A (setItem ov iv u) (fun _ s' => ∃ H', Inv X pins σ H' s' ∧ Q H') X.xe s
section
variable {X : Cx} {pos : Pos}
def gName (i : Nat) : TG := fun v σ H Q => Q (σ.set i (some v)) H
theorem pg_name {i : Nat} {x : Str} (hN : X.N.Nodup) (hi : X.N[i]? = some x) (hx : Loc X.env.scope x) (hf : X.fn x = true ∨ X.env.scope.names.lookup x = some .local := by first | exact .inl rfl | exact .inr rfl | assumption) : PG X (.Name x pos) (gName i) := by
  intro pins s σ H v u Q I r h
  exact wpAny_assign_Name (store_ok I hN hi hx r (fun s' I' => ⟨_, H, I', h⟩) hf)
def gNil : TGs := fun vs σ H Q => vs = [] ∧ Q σ H
def gCons (t : TG) (u : TGs) : TGs := fun vs σ H Q => ∃ v r, vs = v :: r ∧ t v σ H fun σ' H' => u r σ' H' Q
theorem pgs_nil : PGs X [] gNil := by
  intro pins s σ H vs us Q I r h
  obtain ⟨e, h⟩ := h
  subst e
  cases r
  exact assignInOrder_nil ⟨σ, H, I, h⟩
theorem pgs_cons {e : Expr} {es : List Expr} {t : TG} {u : TGs} (h1 : PG X e t) (h2 : PGs X es u)
    (hs : (assignEach (e :: es) X.env).map (·.2) = assign e X.env :: (assignEach es X.env).map (·.2) := by rfl) : PGs X (e :: es) (gCons t u) := by
  intro pins s σ H vs us Q I r h
  obtain ⟨v, vr, e1, h⟩ := h
  subst e1
  cases r with
  | cons r rr =>
    rw [hs]
    refine assignInOrder_cons (thn (h1 pins s σ H _ _ _ I r h) fun _ s1 ⟨σ1, H1, I1, q1⟩ => ?_)
    exact h2 pins s1 σ1 H1 _ _ Q I1 rr q1
/-- (a, b, ..) = a tuple of that length -/
def gTup (K : PySem.W.Frag) (n : Nat) (t : TGs) : TG := fun v σ H Q => ∃ a xs, v = .ref a ∧ SqT K H a xs ∧ xs.length = n ∧ t xs σ H Q
theorem pg_tup {es : List Expr} {k : Nat} {t : TGs} {n : Nat} (hc : X.calm = true) (h : PGs X es t)
    (hn : (assignEach es X.env).length = n := by rfl) (hst : (assignEach es X.env).findIdx? (·.1) = none := by rfl) : PG X (.Tuple es k pos) (gTup X.K n t) := by
  intro pins s σ H v u Q I r hw
  obtain ⟨a, xs, e1, hq, hl, hw⟩ := hw
  subst e1
  cases r
  obtain ⟨its, rv, ht, hz⟩ := I.tuple hq
  refine assign_Tuple_tuple (I.ok.hd hc) ht (by simp [hn, ← hl, rv.length]) hst fun h' hx => ?_
  have I1 : Inv X pins σ H { s with heap := h' } := I.kept (t' := s.toks) fun b o e => hx b o (Nat.ne_of_lt (Heap.lt_size e)) e
  exact h pins _ σ H xs _ Q I1 (by simpa using rv) hw
/-- o[i] = .. -/
def gSub (to ti : TE) (t : TSet) : TG := fun v σ H Q => to σ H fun o H1 => ti σ H1 fun i H2 => t o i v H2 fun H3 => Q σ H3
theorem pg_sub {o i : Expr} {to ti : TE} {t : TSet} (ho : PE X o to) (hi : PE X i ti) (hs : PSet X t)
    (ha : ∀ v, assign (.Subscript o i pos) X.env v = (do
      let ov ← holding [v] (eval o X.env)
      let iv ← holding [v, ov] (eval i X.env)
      standAt pos
      holding [v, ov, iv] (setItem ov iv v)
      release [v, ov, iv] []) := by intro _; rfl) : PG X (.Subscript o i pos) (gSub to ti t) := by
  intro pins s σ H v u Q I r h
  rw [ha]
  refine wpAny_bind (wpAny_holding (thn (ho pins s σ H _ I h) fun ov s1 ⟨x, H1, I1, r1, q1⟩ => ?_))
  refine wpAny_bind (wpAny_holding (thn (hi pins s1 σ H1 _ I1 q1) fun iv s2 ⟨y, H2, I2, r2, q2⟩ => ?_))
  refine wpAny_bind (wpAny_standAt (wpAny_bind (wpAny_holding (thn (hs pins s2 σ H2 x y v ov iv u _ I2 r1 r2 r q2) fun _ s3 ⟨H3, I3, q3⟩ => ?_))))
  exact wpAny_release ⟨σ, H3, I3, q3⟩
/-- target = value -/
def tAsg (te : TE) (g : TG) : TS := fun D σ H => te σ H fun x H1 => g x σ H1 D.nx
theorem ps_asg {tg e : Expr} {te : TE} {g : TG} (he : PE X e te) (hg : PG X tg g) (hs : swapsWithSole [tg] e pos.line X.env = pure false := by rfl) (hw : swappedStores [tg] e X.env = pure none := by rfl)
    (h1 : (assignEach [tg] X.env).map (·.2) = [assign tg X.env] := by rfl) : PS X (.Assign [tg] e pos) (tAsg te g) := by
  intro pins s σ H D I h
  refine wpAny_Assign_stores (thn (he pins s σ H _ I h) fun v s1 ⟨x, H1, I1, r1, q1⟩ => ?_) hs hw
  rw [h1]
  exact thn (hg pins s1 σ H1 x v _ I1 r1 q1) fun _ s2 q => q
/-- name = value -/
theorem ps_set {i : Nat} {x : Str} {e : Expr} {te : TE} {pos' : Pos} (hN : X.N.Nodup) (hi : X.N[i]? = some x) (hx : Loc X.env.scope x) (he : PE X e te) (hs : swapsWith e (some (.Name x pos')) pos.line X.env = pure false := by rfl) (hf : X.fn x = true ∨ X.env.scope.names.lookup x = some .local := by first | exact .inl rfl | exact .inr rfl | assumption) :
    PS X (.Assign [.Name x pos'] e pos) (tAsg te (gName i)) := by
  intro pins s σ H D I h
  refine wpAny_Assign_Name (thn (he pins s σ H _ I h) fun v s1 ⟨y, H1, I1, r1, q1⟩ => ?_) hs
  exact store_ok I1 hN hi hx r1 (fun s2 I2 => ⟨_, H1, I2, q1⟩) hf
/-- a, b = x, y with plain local names: stored from the right; the pair itself is not tracked (the opening rows as in PyProof/Rows/TupAssign.lean:23) -/
def tPar (i j : Nat) (ta : TA) : TS := fun D σ H => ta σ H fun vs H1 => ∃ v w, vs = [v, w] ∧ D.nx ((σ.set i (some v)).set j (some w)) H1
theorem ps_par {i j : Nat} {x y : Str} {a b : Expr} {ta : TA} {px py pt : Pos} {kt k2 pt2} (hc : X.calm = true) (hN : X.N.Nodup) (hi : X.N[i]? = some x) (hj : X.N[j]? = some y) (hij : i ≠ j)
    (hx : X.env.scope.names.lookup x = some .local) (hy : X.env.scope.names.lookup y = some .local) (ha : PA X [a, b] ta)
    (hw : swappedStores [.Tuple [.Name x px, .Name y py] kt pt] (.Tuple [a, b] k2 pt2) X.env = pure (some [x, y]))
    (hs : swapsWithSole [.Tuple [.Name x px, .Name y py] kt pt] (.Tuple [a, b] k2 pt2) pos.line X.env = pure false := by rfl) :
    PS X (.Assign [.Tuple [.Name x px, .Name y py] kt pt] (.Tuple [a, b] k2 pt2) pos) (tPar i j ta) := by
  intro pins s σ H D I h
  rw [exec_Assign_arm]
  refine wpAny_bind (wpAny_standAt ?_)
  rw [hs]
  refine wpAny_bind (wpAny_pure ?_)
  rw [if_neg (by decide)]
  refine wpAny_bind (Tuple_ (thn (ha _ pins s σ H _ I h) fun us s1 ⟨vs, H1, I1, r1, q1⟩ => ?_))
  obtain ⟨v, w, e1, q1⟩ := q1
  subst e1
  obtain ⟨u1, u2, rfl, rv, rw'⟩ : ∃ u1 u2, us = [u1, u2] ∧ RelV v u1 ∧ RelV w u2 := by
    cases r1 with
    | cons p q =>
      cases q with
      | cons p' q' =>
        cases q'
        exact ⟨_, _, rfl, p, p'⟩
  refine wpAny_newObj_type ?_ (by show 2 ≤ sizeLine; decide)
  have I2 : Inv X pins σ H1 { s1 with heap := s1.heap.push { cls := .type "tuple", data := .seq [u1, u2].toArray } } := I1.kept (t' := s1.toks) fun b o e => Heap.get?_push_of_some _ e
  rw [hw]
  refine wpAny_bind (wpAny_pure ?_)
  show wpAny (model X.prog X.w) X.A (do rule "assign.swapped-stores"; let items ← unpackItems (.ref s1.heap.objs.size) 2 none; assignInOrder [fun v => bindName X.env y v, fun v => bindName X.env x v] items.reverse; pure Flow.next) _ _ _
  refine wpAny_bind (wpAny_rule (wpAny_bind (unpackItems_tuple (items := #[u1, u2]) (I.ok.hd hc) (IsTup.new s1.heap _) fun h' hx' => ?_)))
  have I3 := I2.kept (h' := h') (t' := s1.toks) fun b o e => hx' b o (Nat.ne_of_lt (Heap.lt_size e)) e
  show wpAny _ _ (assignInOrder [fun v => bindName X.env y v, fun v => bindName X.env x v] [u2, u1] >>= fun _ => pure Flow.next) _ _ _
  refine wpAny_bind (assignInOrder_cons (wpAny_bindName (store_ok I3 hN hj (.inl hy) rw' (fun s2 I4 => ?_) (.inr hy))))
  refine assignInOrder_cons (wpAny_bindName (store_ok I4 hN hi (.inl hx) rv (fun s3 I5 => assignInOrder_nil (wpAny_pure ?_)) (.inr hx)))
  rw [List.set_comm _ _ (Ne.symm hij)] at I5
  exact ⟨_, H1, I5, q1⟩
end

/-! ### while -/
section
variable {X : Cx} {pos : Pos}
end

/-! ### what a loop or a comprehension walks -/
/-- at turn i: it yields x (the heap may grow), or it stops -/
structure It where
  go : Nat → Hp → Prop
  yld : Nat → Hp → V → Hp → Prop
  stop : Nat → Hp → Prop
/-- the iterator's own objects may turn: they are not the frame's, not pinned, younger than the entry (or a comprehension's own) -/
def FpOk (X : Cx) (pins : List (Addr × Obj)) (H : Hp) (b : Addr) : Prop :=
  H b = none ∧ b ≠ X.env.locals ∧ b ∉ X.fs ∧ (b ∈ X.ex ∨ X.s₀.heap.objs.size ≤ b) ∧ (∀ x c, X.env.cells.lookup x = some c → c ≠ b) ∧ ∀ p ∈ X.pn ++ pins, p.1 ≠ b
theorem Inv.fpOk {X : Cx} {pins : List (Addr × Obj)} {σ : St} {H H' : Hp} {s : Shared} {b : Addr} (I : Inv X pins σ H s) (hb : s.heap.objs.size ≤ b) (hn : H' b = none) : FpOk X pins H' b := by
  refine ⟨hn, Nat.ne_of_gt (Nat.lt_of_lt_of_le I.lt hb), I.nofs hb, .inr (Nat.le_trans I.sz hb), fun x c e z => ?_, fun p hp z => ?_⟩
  · obtain ⟨v, q⟩ := I.cell x c e
    exact absurd (Nat.lt_of_lt_of_le q.lt (by rw [z]; exact hb)) (Nat.lt_irrefl _)
  · exact absurd (Nat.lt_of_lt_of_le (Heap.lt_size (I.pin p hp).1) (by rw [z]; exact hb)) (Nat.lt_irrefl _)
structure Turn (P : Program) (w : World) (K : PySem.W.Frag) (tg : Expr) (J : It) (fp : List Addr) (it : Addr) (tn : Nat → Heap → Prop) : Prop where
  mem : it ∈ fp
  obj : ∀ i h, tn i h → ∀ b ∈ fp, ∃ o, h.get? b = some o ∧ ∀ v, o.data ≠ .cell v
  keep : ∀ i h h', tn i h → (∀ b ∈ fp, ∀ o, h.get? b = some o → h'.get? b = some o) → tn i h'
  item : ∀ (X : Cx), X.prog = P → X.w = w → X.K = K → X.calm = true → ∀ (i : Nat) (pins : List (Addr × Obj)) (s : Shared) (σ : St) (H : Hp) (E : Value → Shared → Prop), Inv X pins σ H s → (∀ b ∈ fp, FpOk X pins H b) → tn i s.heap → J.go i H →
    wpAny (model P w) X.A (pyNext (.ref it)) (fun r s1 => ∃ u, r = some u ∧
      wpAny (model P w) X.A (letOwnedTupleGo tg (.ref it) u) (fun _ s2 => ∃ x H', Inv X pins σ H' s2 ∧ RelV x u ∧ J.yld i H x H' ∧ tn (i + 1) s2.heap ∧ ∀ b ∈ fp, H' b = none) E s1) E s
  done : ∀ (X : Cx), X.prog = P → X.w = w → X.K = K → X.calm = true → ∀ (i : Nat) (pins : List (Addr × Obj)) (s : Shared) (σ : St) (H : Hp) (E : Value → Shared → Prop), Inv X pins σ H s → (∀ b ∈ fp, FpOk X pins H b) → tn i s.heap → J.stop i H →
    wpAny (model P w) X.A (pyNext (.ref it)) (fun r s1 => r = none ∧ Inv X pins σ H s1) E s
  self : ∀ (A : Around) (i : Nat) (s : Shared) (Q : Value → Shared → Prop) (E : Value → Shared → Prop), tn i s.heap → Q (.ref it) s → wpAny (model P w) A (pyIter (.ref it)) Q E s
abbrev TI := St → Hp → (It → Hp → Prop) → Prop
/-- an iterator has come -/
def PIE (X : Cx) (pins : List (Addr × Obj)) (σ : St) (tg : Expr) (R : It → Hp → Prop) (itv : Value) (s2 : Shared) : Prop :=
  ∃ (it : Addr) (fp : List Addr) (tn : Nat → Heap → Prop) (J : It) (H' : Hp), itv = .ref it ∧ Inv X pins σ H' s2 ∧ Turn X.prog X.w X.K tg J fp it tn ∧ tn 0 s2.heap ∧ (∀ b ∈ fp, FpOk X pins H' b) ∧ R J H'
def PI (X : Cx) (tg iter : Expr) (wi : TI) : Prop :=
  ∀ (pins : List (Addr × Obj)) (s : Shared) (σ : St) (H : Hp) (R : It → Hp → Prop), Inv X pins σ H s → wi σ H R →
    wpAny (model X.prog X.w) X.A (eval iter X.env) (fun v s1 => wpAny (model X.prog X.w) X.A (pyIter v) (PIE X pins σ tg R) X.xe s1) X.xe s

/-- the step ahead of the store is nothing for an iterator that keeps no tuple -/
theorem go_of {M : Model} {A : Around} {E : Value → Shared → Prop} {s : Shared} {tg : Expr} {it : Addr} {u : Value} {o : Obj} {n : String} {vs : Array Value} {Q : Unit → Shared → Prop} (ho : s.heap.get? it = some o) (hc : o.cls = .type n) (hd : o.data = .fields vs)
    (hn : ["enumerate", "zip", "dict_itemiterator", "dict_reverseitemiterator", "odict_iterator", "itertools.zip_longest", "itertools.pairwise"].contains n = false) (hQ : Q () s) : wpAny M A (letOwnedTupleGo tg (.ref it) u) Q E s := by
  unfold letOwnedTupleGo
  cases tg <;> first
    | exact wpAny_pure hQ
    | (cases u <;> first
        | exact wpAny_pure hQ
        | (refine wpAny_bind (wpAny_load ho ?_)
           rw [hc, hd]
           show wpAny M A (if (["enumerate", "zip", "dict_itemiterator", "dict_reverseitemiterator", "odict_iterator", "itertools.zip_longest", "itertools.pairwise"].contains n && vs[0]? == some (rawInt _)) = true then _ else _) Q E s
           rw [if_neg (by intro h; rw [hn, Bool.false_and] at h; cases h)]
           exact wpAny_pure hQ))

/-- the list at a, as it stands at each turn (a loop may append to it) -/
def Itl (K : PySem.W.Frag) (a : Addr) : It :=
  ⟨fun i H => ∃ xs x, SqL K H a xs ∧ xs[i]? = some x, fun i H x H' => H' = H ∧ ∀ xs, SqL K H a xs → xs[i]? = some x, fun i H => ∃ xs, SqL K H a xs ∧ xs.length ≤ i⟩
def Itt (K : PySem.W.Frag) (a : Addr) : It :=
  ⟨fun i H => ∃ xs x, SqT K H a xs ∧ xs[i]? = some x, fun i H x H' => H' = H ∧ ∀ xs, SqT K H a xs → xs[i]? = some x, fun i H => ∃ xs, SqT K H a xs ∧ xs.length ≤ i⟩
/-- lo, lo + 1, .. (n of them) -/
def Itr (lo : Int) (n : Nat) : It := ⟨fun i _ => i < n, fun i H x H' => H' = H ∧ x = .int (lo + i), fun i _ => n ≤ i⟩
theorem turn_list {P : Program} {w : World} {K : PySem.W.Frag} {tg : Expr} (a it : Addr) : Turn P w K tg (Itl K a) [it] it (fun i h => h.IsListIter it a i) where
  mem := by simp
  obj := fun i h st b hb => by
    have e : b = it := by simpa using hb
    subst e
    obtain ⟨o, e, c, d⟩ := st
    exact ⟨o, e, fun v z => by rw [d] at z; cases z⟩
  keep := fun i h h' st k => st.at fun o e => k it (by simp) o e
  item := by
    intro X hP hw hK hc i pins s σ H E I hf st hg
    subst hP hw hK
    obtain ⟨xs, x, hq, hx⟩ := hg
    obtain ⟨its, rv, p, hz⟩ := I.list hq
    obtain ⟨u, hu, ru⟩ := rv.get hx
    obtain ⟨f0, f1, f2, f3, f4, f5⟩ := hf it (by simp)
    refine wpAny_pyNext_list_item st p.isList (x := u) (by simpa using hu) fun h' st' sb => ?_
    have I1 : Inv X pins σ H { s with heap := h' } := I.turned (t' := s.toks) (fun b o hb e => (sb.2 b hb).trans e) f0 f1 f3 f4 f5
    obtain ⟨o, e, c, d⟩ := id st'
    exact ⟨u, rfl, go_of (s := { s with heap := h' }) e c d (by decide) ⟨x, H, I1, ru, ⟨rfl, fun ys hy => by rw [I.list_inj hy hq]; exact hx⟩, st', fun b hb => (hf b hb).1⟩⟩
  done := by
    intro X hP hw hK hc i pins s σ H E I hf st hg
    subst hP hw hK
    obtain ⟨xs, hq, hx⟩ := hg
    obtain ⟨its, rv, p, hz⟩ := I.list hq
    obtain ⟨f0, f1, f2, f3, f4, f5⟩ := hf it (by simp)
    have hl := rv.length
    exact wpAny_pyNext_list_end (I.ok.hd hc) st p.isList (by simp; omega) fun h' eb => ⟨rfl, I.turned (t' := s.toks) (fun b o hb e => eb b o hb e) f0 f1 f3 f4 f5⟩
  self := fun _ _ _ _ _ st h => wpAny_pyIter_listiter st h
theorem turn_tuple {P : Program} {w : World} {K : PySem.W.Frag} {tg : Expr} (a it : Addr) : Turn P w K tg (Itt K a) [it] it (fun i h => h.IsTupleIter it a i) where
  mem := by simp
  obj := fun i h st b hb => by
    have e : b = it := by simpa using hb
    subst e
    obtain ⟨o, e, c, d⟩ := st
    exact ⟨o, e, fun v z => by rw [d] at z; cases z⟩
  keep := fun i h h' st k => st.at fun o e => k it (by simp) o e
  item := by
    intro X hP hw hK hc i pins s σ H E I hf st hg
    subst hP hw hK
    obtain ⟨xs, x, hq, hx⟩ := hg
    obtain ⟨its, rv, p, hz⟩ := I.tuple hq
    obtain ⟨u, hu, ru⟩ := rv.get hx
    obtain ⟨f0, f1, f2, f3, f4, f5⟩ := hf it (by simp)
    refine wpAny_pyNext_tuple_item st (show s.heap.IsTuple a its.toArray from p) (x := u) (by simpa using hu) fun h' st' sb => ?_
    have I1 : Inv X pins σ H { s with heap := h' } := I.turned (t' := s.toks) (fun b o hb e => (sb.2 b hb).trans e) f0 f1 f3 f4 f5
    obtain ⟨o, e, c, d⟩ := id st'
    exact ⟨u, rfl, go_of (s := { s with heap := h' }) e c d (by decide) ⟨x, H, I1, ru, ⟨rfl, fun ys hy => by rw [I.tuple_inj hy hq]; exact hx⟩, st', fun b hb => (hf b hb).1⟩⟩
  done := by
    intro X hP hw hK hc i pins s σ H E I hf st hg
    subst hP hw hK
    obtain ⟨xs, hq, hx⟩ := hg
    obtain ⟨its, rv, p, hz⟩ := I.tuple hq
    obtain ⟨f0, f1, f2, f3, f4, f5⟩ := hf it (by simp)
    have hl := rv.length
    exact wpAny_pyNext_tuple_end (I.ok.hd hc) st (show s.heap.IsTuple a its.toArray from p) (by simp; omega) fun h' eb => ⟨rfl, I.turned (t' := s.toks) (fun b o hb e => eb b o hb e) f0 f1 f3 f4 f5⟩
  self := fun _ _ _ _ _ st h => wpAny_pyIter_tupleiter st h
theorem turn_range {P : Program} {w : World} {K : PySem.W.Frag} {tg : Expr} (it : Addr) (lo : Int) (n : Nat) : Turn P w K tg (Itr lo n) [it] it (fun i h => IsRangeIter h it (lo + (i : Nat) * 1) ((n : Int) - (i : Nat)) 1) where
  mem := by simp
  obj := fun i h st b hb => by
    have e : b = it := by simpa using hb
    subst e
    exact ⟨_, st, fun v z => by
      have z' : Data.fields _ = Data.cell v := z
      cases z'⟩
  keep := fun i h h' st k => k it (by simp) _ st
  item := by
    intro X hP hw hK hc i pins s σ H E I hf st hg
    subst hP hw hK
    obtain ⟨f0, f1, f2, f3, f4, f5⟩ := hf it (by simp)
    have W := Walks.range (prog := X.prog) (w := X.w) (I.ok.hd hc) it lo 1 n
    refine W.item i s _ _ hg st fun v h' tk hv st' kk => ?_
    obtain ⟨t, rfl⟩ := hv
    have I1 : Inv X pins σ H { s with heap := h', toks := tk } := I.turned (fun b o hb e => kk b o (by simpa using hb) e) f0 f1 f3 f4 f5
    refine ⟨_, rfl, go_of (s := { s with heap := h', toks := tk }) (n := "range_iterator") st' rfl rfl (by decide) ⟨.int (lo + i), H, I1, ⟨t, ?_⟩, ⟨rfl, rfl⟩, st', fun b hb => (hf b hb).1⟩⟩
    rw [Int.mul_one]
  done := by
    intro X hP hw hK hc i pins s σ H E I hf st hg
    subst hP hw hK
    obtain ⟨f0, f1, f2, f3, f4, f5⟩ := hf it (by simp)
    exact wpAny_pyNext_range_end (I.ok.hd hc) st (by have : n ≤ i := hg; omega) fun h' eb => ⟨rfl, I.turned (t' := s.toks) (fun b o hb e => eb b o hb e) f0 f1 f3 f4 f5⟩
  self := fun _ _ _ _ _ st h => wpAny_pyIter_rangeiter st h
end L2

namespace L2
open PySem PySem.Spec PyProof.Rows
section
variable {X : Cx} {tg : Expr}
def iList (K : PySem.W.Frag) (tl : TE) : TI := fun σ H R => tl σ H fun x H1 => ∃ a, x = .ref a ∧ (∃ xs, SqL K H1 a xs) ∧ R (Itl K a) H1
def iTup (K : PySem.W.Frag) (tl : TE) : TI := fun σ H R => tl σ H fun x H1 => ∃ a, x = .ref a ∧ (∃ xs, SqT K H1 a xs) ∧ R (Itt K a) H1
theorem pi_list {l : Expr} {tl : TE} (hl : PE X l tl) : PI X tg l (iList X.K tl) := by
  intro pins s σ H R I h
  refine thn (hl pins s σ H _ I h) fun v s1 ⟨x, H1, I1, r1, q1⟩ => ?_
  obtain ⟨a, e, ⟨xs, hq⟩, q⟩ := q1
  subst e
  cases r1
  obtain ⟨its, rv, p, hz⟩ := I1.list hq
  refine wpAny_pyIter_list p.isList ?_
  refine ⟨s1.heap.objs.size, [s1.heap.objs.size], _, _, H1, rfl, I1.kept (t' := s1.toks) fun b o e => Heap.get?_push_of_some _ e, turn_list a _, ⟨_, Heap.get?_push_size _ rfl, rfl, rfl⟩, fun b hb => ?_, q⟩
  have e : b = s1.heap.objs.size := by simpa using hb
  subst e
  exact I1.fpOk (Nat.le_refl _) (I1.hok.fresh (Nat.le_refl _))
theorem pi_tup {l : Expr} {tl : TE} (hl : PE X l tl) : PI X tg l (iTup X.K tl) := by
  intro pins s σ H R I h
  refine thn (hl pins s σ H _ I h) fun v s1 ⟨x, H1, I1, r1, q1⟩ => ?_
  obtain ⟨a, e, ⟨xs, hq⟩, q⟩ := q1
  subst e
  cases r1
  obtain ⟨its, rv, p, hz⟩ := I1.tuple hq
  refine wpAny_pyIter_tuple (show s1.heap.IsTuple a its.toArray from p) ?_
  refine ⟨s1.heap.objs.size, [s1.heap.objs.size], _, _, H1, rfl, I1.kept (t' := s1.toks) fun b o e => Heap.get?_push_of_some _ e, turn_tuple a _, ⟨_, Heap.get?_push_size _ rfl, rfl, rfl⟩, fun b hb => ?_, q⟩
  have e : b = s1.heap.objs.size := by simpa using hb
  subst e
  exact I1.fpOk (Nat.le_refl _) (I1.hok.fresh (Nat.le_refl _))
/-- a range object just made, walked -/
theorem range_it {pins : List (Addr × Obj)} {σ : St} {H : Hp} {s : Shared} {R : It → Hp → Prop} {E : Value → Shared → Prop} {lo hi : Int} {t u v : Tok} {tk : Nat} (I : Inv X pins σ H s) (h1 : -(2 ^ 62) ≤ lo) (h2 : lo < 2 ^ 62) (h3 : -(2 ^ 62) ≤ hi) (h4 : hi < 2 ^ 62)
    (q : R (Itr lo (hi - lo).toNat) H) : wpAny (model X.prog X.w) X.A (pyIter (.ref s.heap.objs.size)) (PIE X pins σ tg R) E { s with heap := s.heap.push { cls := .type "range", data := .fields #[.int lo t, .int hi u, .int 1 v] }, toks := tk } := by
  refine wpAny_pyIter_range (IsRange.new ..) (small_one h1 h2 h3 h4) ?_
  have I1 : Inv X pins σ H { s with heap := s.heap.push { cls := .type "range", data := .fields #[.int lo t, .int hi u, .int 1 v] }, toks := tk } := I.kept fun b o e => Heap.get?_push_of_some _ e
  refine ⟨(s.heap.push { cls := .type "range", data := .fields #[.int lo t, .int hi u, .int 1 v] }).objs.size, [(s.heap.push { cls := .type "range", data := .fields #[.int lo t, .int hi u, .int 1 v] }).objs.size], _, _, H, rfl,
    I1.kept (t' := tk) fun b o e => Heap.get?_push_of_some _ e, turn_range _ lo (hi - lo).toNat, ?_, fun b hb => ?_, q⟩
  · have e1 : lo + ((0 : Nat) : Int) * 1 = lo := by simp
    have e2 : (((hi - lo).toNat : Nat) : Int) - ((0 : Nat) : Int) = Builtin.Range.rangeSize lo hi 1 := by rw [rangeSize_one]; split <;> omega
    show IsRangeIter _ _ (lo + ((0 : Nat) : Int) * 1) ((((hi - lo).toNat : Nat) : Int) - ((0 : Nat) : Int)) 1
    rw [e1, e2]
    exact Heap.get?_push_size _ rfl
  · have e : b = (s.heap.push { cls := .type "range", data := .fields #[.int lo t, .int hi u, .int 1 v] }).objs.size := by simpa using hb
    subst e
    exact I1.fpOk (Nat.le_refl _) (I1.hok.fresh (Nat.le_refl _))
def iRng1 (ta : TA) : TI := fun σ H R => ta σ H fun vs H1 => ∃ j : Int, vs = [.int j] ∧ -(2 ^ 62) ≤ j ∧ j < 2 ^ 62 ∧ R (Itr 0 j.toNat) H1
theorem pi_range1 {a : Expr} {ta : TA} {p pos : Pos} (hg : Gl X "range") (hm : X.mg "range" = none) (ha : PA X [a] ta) (hs : starEach [a] X.env = [(false, eval a X.env)] := by rfl) : PI X tg (.Call (.Name "range" p) [a] [] pos) (iRng1 ta) := by
  intro pins s σ H R I h
  refine Call_ (ld_blt I hg hm boot_range (PyProof.Rows.callWith_type1 (thn (ha pos pins s σ H _ I h) fun us s1 ⟨vs, H1, I1, r1, q1⟩ => ?_) hs rfl))
  obtain ⟨j, e, q1, q2, q⟩ := q1
  subst e
  cases r1 with
  | cons r rr =>
    cases rr
    obtain ⟨t, rfl⟩ := r
    exact call_range_1 (range_it I1 (by omega) (by omega) q1 q2 (by simpa using q))
/-! ### for -/
/-- W: the invariant by the turn and a measure; N: what the body is to reach -/
def tFor (wi : TI) (g : TG) (tb : TS) : TS := fun D σ H => wi σ H fun J H1 => ∃ W : Nat → Nat → St → Hp → Prop, (∃ m, W 0 m σ H1) ∧ ∀ i m σ H, W i m σ H →
  (J.stop i H ∧ D.nx σ H) ∨ (J.go i H ∧ ∃ N : St → Hp → Prop, (∀ σ' H', N σ' H' → ∃ m', m' < m ∧ W (i + 1) m' σ' H') ∧ ∀ x H', J.yld i H x H' → g x σ H' fun σ2 H2 => tb { D with nx := N, ct := N, bk := D.nx } σ2 H2)
/-- the records at fp as they stand -/
def pinsAt (fp : List Addr) (h : Heap) : List (Addr × Obj) := fp.filterMap fun b => (h.get? b).map fun o => (b, o)
theorem mem_pinsAt {fp : List Addr} {h : Heap} {b : Addr} {o : Obj} (hb : b ∈ fp) (e : h.get? b = some o) : (b, o) ∈ pinsAt fp h := List.mem_filterMap.mpr ⟨b, hb, by rw [e]; rfl⟩
theorem of_pinsAt {fp : List Addr} {h : Heap} {p : Addr × Obj} (hp : p ∈ pinsAt fp h) : p.1 ∈ fp ∧ h.get? p.1 = some p.2 := by
  obtain ⟨b, hb, e⟩ := List.mem_filterMap.mp hp
  cases q : h.get? b with
  | none => rw [q] at e; cases e
  | some o =>
    rw [q] at e
    have e' : (b, o) = p := Option.some.inj e
    subst e'
    exact ⟨hb, q⟩
theorem Inv.pinned {pins : List (Addr × Obj)} {σ : St} {H : Hp} {s : Shared} {fp : List Addr} (I : Inv X pins σ H s) (hf : ∀ b ∈ fp, FpOk X pins H b) (ho : ∀ b ∈ fp, ∃ o, s.heap.get? b = some o ∧ ∀ v, o.data ≠ .cell v) : Inv X (pins ++ pinsAt fp s.heap) σ H s :=
  I.pins_of fun p hp => (List.mem_append.mp hp).elim (fun z => I.pin p (List.mem_append_right _ z)) fun z => by
    obtain ⟨hb, e⟩ := of_pinsAt z
    obtain ⟨f0, f1, f2, _⟩ := hf p.1 hb
    obtain ⟨o, e', d⟩ := ho p.1 hb
    rw [e] at e'; cases e'
    exact ⟨e, f0, f1, f2, d⟩
theorem Inv.unpinned {pins pl : List (Addr × Obj)} {σ : St} {H : Hp} {s : Shared} (I : Inv X (pins ++ pl) σ H s) : Inv X pins σ H s := I.pins_of fun p hp => I.pin p (List.mem_append_right _ (List.mem_append_left _ hp))
theorem ps_for {iter : Expr} {body : List Stmt} {wi : TI} {g : TG} {tb : TS} {pos : Pos} (hp : PassesOwn (model X.prog X.w) X.A X.env X.xe) (hc : X.calm = true) (hi : PI X tg iter wi) (hg : PG X tg g) (hb : PSs X body tb)
    (hs : ∀ x, foldedSetIterable iter X.env x = pure x := by intro _; rfl) : PS X (.For tg iter body [] pos) (tFor wi g tb) := by
  intro pins s σ H D I h
  refine wpAny_For (thn (hi pins s σ H _ I h) fun v s1 h1 => thn h1 fun itv s2 h2 => ?_) hs
  obtain ⟨it, fp, tn, J, H2, e, I2, T, st2, f2, W, ⟨m0, w0⟩, turn⟩ := h2
  subst e
  -- what stays true of the iterator's objects through the loop
  have stat : ∀ {H' : Hp}, (∀ b ∈ fp, H' b = none) → ∀ b ∈ fp, FpOk X pins H' b := fun hn b hb => ⟨hn b hb, (f2 b hb).2⟩
  refine codeAny_forLoop_any (fun n s' => ∃ i σ' H', Inv X pins σ' H' s' ∧ tn i s'.heap ∧ (∀ b ∈ fp, H' b = none) ∧ W i n σ' H') ?_ m0 ⟨0, σ, H2, I2, st2, fun b hb => (f2 b hb).1, w0⟩
  rintro n s3 ⟨i, σ3, H3, I3, st3, fr3, w3⟩
  rcases turn i n σ3 H3 w3 with ⟨stop, qn⟩ | ⟨go, N, hN, step⟩
  · refine wpAny_passesOwn hp (thn (T.done X rfl rfl rfl hc i pins s3 σ3 H3 X.xe I3 (stat fr3) st3 stop) fun r s4 ⟨hr, I4⟩ => ?_)
    subst hr
    exact wpAny_execs_nil ⟨σ3, H3, I4, qn⟩
  · refine wpAny_passesOwn hp (thn (T.item X rfl rfl rfl hc i pins s3 σ3 H3 X.xe I3 (stat fr3) st3 go) fun r s4 ⟨u, hr, h4⟩ => ?_)
    subst hr
    refine wpAny_passesOwn hp (thn h4 fun _ s5 ⟨x, H5, I5, r5, y5, st5, fr5⟩ => ?_)
    have I5' := I5.pinned (stat fr5) (T.obj _ _ st5)
    refine wpAny_passesOwn hp (thn (hg _ s5 σ3 H5 x u _ I5' r5 (step x H5 y5)) fun _ s6 ⟨σ6, H6, I6, q6⟩ => ?_)
    refine wpAny_passesOwn hp (thn (hb _ s6 σ6 H6 _ I6 q6) fun f s7 q7 => ?_)
    have again : ∀ {σ7 : St} {H7 : Hp}, Inv X (pins ++ pinsAt fp s5.heap) σ7 H7 s7 → N σ7 H7 → ∃ m, m < n ∧ ∃ i σ' H', Inv X pins σ' H' s7 ∧ tn i s7.heap ∧ (∀ b ∈ fp, H' b = none) ∧ W i m σ' H' := fun {σ7 H7} I7 n7 => by
      obtain ⟨m', hm, w7⟩ := hN σ7 H7 n7
      refine ⟨m', hm, i + 1, σ7, H7, I7.unpinned, T.keep _ _ _ st5 fun b hb o e => (I7.pin (b, o) (List.mem_append_right _ (List.mem_append_right _ (mem_pinsAt hb e)))).1, fun b hb => ?_, w7⟩
      obtain ⟨o, e, d⟩ := T.obj _ _ st5 b hb
      exact (I7.pin (b, o) (List.mem_append_right _ (List.mem_append_right _ (mem_pinsAt hb e)))).2.1
    cases f with
    | next => obtain ⟨σ7, H7, I7, n7⟩ := q7; exact again I7 n7
    | cont => obtain ⟨σ7, H7, I7, n7⟩ := q7; exact again I7 n7
    | brk => obtain ⟨σ7, H7, I7, q7⟩ := q7; exact ⟨σ7, H7, I7.unpinned, q7⟩
    | ret v => obtain ⟨x7, σ7, H7, I7, r7, q7⟩ := q7; exact ⟨x7, σ7, H7, I7.unpinned, r7, q7⟩
end

/-! ### the forms one uses -/
/-- over a list that the body leaves as it is -/
theorem for_list {K : PySem.W.Frag} {a : Addr} {xs : List V} {g : TG} {tb : TS} {D : Ends} {σ : St} {H : Hp} (Pv : Nat → St → Hp → Prop) (h0 : Pv 0 σ H) (hl : ∀ i σ H, i ≤ xs.length → Pv i σ H → SqL K H a xs)
    (hs : ∀ i x σ H, xs[i]? = some x → Pv i σ H → g x σ H fun σ2 H2 => tb { D with nx := Pv (i + 1), ct := Pv (i + 1), bk := D.nx } σ2 H2) (hd : ∀ σ H, Pv xs.length σ H → D.nx σ H) :
    ∃ W : Nat → Nat → St → Hp → Prop, (∃ m, W 0 m σ H) ∧ ∀ i m σ H, W i m σ H →
      ((Itl K a).stop i H ∧ D.nx σ H) ∨ ((Itl K a).go i H ∧ ∃ N : St → Hp → Prop, (∀ σ' H', N σ' H' → ∃ m', m' < m ∧ W (i + 1) m' σ' H') ∧ ∀ x H', (Itl K a).yld i H x H' → g x σ H' fun σ2 H2 => tb { D with nx := N, ct := N, bk := D.nx } σ2 H2) := by
  refine ⟨fun i m σ H => m = xs.length - i ∧ i ≤ xs.length ∧ Pv i σ H, ⟨xs.length, by simp, Nat.zero_le _, h0⟩, ?_⟩
  rintro i m σ H ⟨rfl, hi, p⟩
  have q := hl i σ H hi p
  by_cases hlt : i < xs.length
  · refine .inr ⟨⟨xs, xs[i], q, by simp [hlt]⟩, Pv (i + 1), fun σ' H' p' => ⟨xs.length - (i + 1), by omega, rfl, hlt, p'⟩, fun x H' y => ?_⟩
    obtain ⟨e, y⟩ := y
    subst e
    exact hs i x σ _ (y xs q) p
  · have e : i = xs.length := by omega
    subst e
    exact .inl ⟨⟨xs, q, Nat.le_refl _⟩, hd σ H p⟩
theorem for_tup {K : PySem.W.Frag} {a : Addr} {xs : List V} {g : TG} {tb : TS} {D : Ends} {σ : St} {H : Hp} (Pv : Nat → St → Hp → Prop) (h0 : Pv 0 σ H) (hl : ∀ i σ H, i ≤ xs.length → Pv i σ H → SqT K H a xs)
    (hs : ∀ i x σ H, xs[i]? = some x → Pv i σ H → g x σ H fun σ2 H2 => tb { D with nx := Pv (i + 1), ct := Pv (i + 1), bk := D.nx } σ2 H2) (hd : ∀ σ H, Pv xs.length σ H → D.nx σ H) :
    ∃ W : Nat → Nat → St → Hp → Prop, (∃ m, W 0 m σ H) ∧ ∀ i m σ H, W i m σ H →
      ((Itt K a).stop i H ∧ D.nx σ H) ∨ ((Itt K a).go i H ∧ ∃ N : St → Hp → Prop, (∀ σ' H', N σ' H' → ∃ m', m' < m ∧ W (i + 1) m' σ' H') ∧ ∀ x H', (Itt K a).yld i H x H' → g x σ H' fun σ2 H2 => tb { D with nx := N, ct := N, bk := D.nx } σ2 H2) := by
  refine ⟨fun i m σ H => m = xs.length - i ∧ i ≤ xs.length ∧ Pv i σ H, ⟨xs.length, by simp, Nat.zero_le _, h0⟩, ?_⟩
  rintro i m σ H ⟨rfl, hi, p⟩
  have q := hl i σ H hi p
  by_cases hlt : i < xs.length
  · refine .inr ⟨⟨xs, xs[i], q, by simp [hlt]⟩, Pv (i + 1), fun σ' H' p' => ⟨xs.length - (i + 1), by omega, rfl, hlt, p'⟩, fun x H' y => ?_⟩
    obtain ⟨e, y⟩ := y
    subst e
    exact hs i x σ _ (y xs q) p
  · have e : i = xs.length := by omega
    subst e
    exact .inl ⟨⟨xs, q, Nat.le_refl _⟩, hd σ H p⟩
theorem for_range {lo : Int} {n : Nat} {g : TG} {tb : TS} {D : Ends} {σ : St} {H : Hp} (Pv : Nat → St → Hp → Prop) (h0 : Pv 0 σ H)
    (hs : ∀ i σ H, i < n → Pv i σ H → g (.int (lo + i)) σ H fun σ2 H2 => tb { D with nx := Pv (i + 1), ct := Pv (i + 1), bk := D.nx } σ2 H2) (hd : ∀ σ H, Pv n σ H → D.nx σ H) :
    ∃ W : Nat → Nat → St → Hp → Prop, (∃ m, W 0 m σ H) ∧ ∀ i m σ H, W i m σ H →
      ((Itr lo n).stop i H ∧ D.nx σ H) ∨ ((Itr lo n).go i H ∧ ∃ N : St → Hp → Prop, (∀ σ' H', N σ' H' → ∃ m', m' < m ∧ W (i + 1) m' σ' H') ∧ ∀ x H', (Itr lo n).yld i H x H' → g x σ H' fun σ2 H2 => tb { D with nx := N, ct := N, bk := D.nx } σ2 H2) := by
  refine ⟨fun i m σ H => m = n - i ∧ i ≤ n ∧ Pv i σ H, ⟨n, by simp, Nat.zero_le _, h0⟩, ?_⟩
  rintro i m σ H ⟨rfl, hi, p⟩
  by_cases hlt : i < n
  · refine .inr ⟨hlt, Pv (i + 1), fun σ' H' p' => ⟨n - (i + 1), by omega, rfl, hlt, p'⟩, fun x H' y => ?_⟩
    obtain ⟨e, y⟩ := y
    subst e y
    exact hs i σ _ hlt p
  · have e : i = n := by omega
    subst e
    exact .inl ⟨Nat.le_refl _, hd σ H p⟩
end L2

namespace L2
open PySem PySem.Spec PyProof.Rows

abbrev R2 := V → V → Hp → VK → Prop
/-- a two-place operation on values: f is binaryOp op, inplaceOp op or compareOp op -/
def OpR (X : Cx) (f : Value → Value → Sem Value) (r : R2) : Prop :=
  ∀ (pins : List (Addr × Obj)) (s : Shared) (σ : St) (H : Hp) (x y : V) (v u : Value) (Q : VK), Inv X pins σ H s → RelV x v → RelV y u → r x y H Q →
    wpAny (model X.prog X.w) X.A (f v u) (EP X pins σ Q) X.xe s
/-- a call of a value that is known (a builtin, a type) with values -/
def CallR (X : Cx) (f : Value) (r : List V → Hp → VK → Prop) : Prop :=
  ∀ (pins : List (Addr × Obj)) (s : Shared) (σ : St) (H : Hp) (xs : List V) (us : List Value) (Q : VK), Inv X pins σ H s → Vals xs us → r xs H Q →
    wpAny (model X.prog X.w) X.A (call f us) (EP X pins σ Q) X.xe s
def tOp (r : R2) (ta tb : TE) : TE := fun σ H Q => ta σ H fun x H1 => tb σ H1 fun y H2 => r x y H2 Q
/-- ints in, under C, and a value out -/
def rI (C : Int → Int → Prop) (g : Int → Int → V) : R2 := fun x y H Q => ∃ i j, x = .int i ∧ y = .int j ∧ C i j ∧ Q (g i j) H
def rI0 (g : Int → Int → V) : R2 := fun x y H Q => ∃ i j, x = .int i ∧ y = .int j ∧ Q (g i j) H
section
variable {X : Cx} {a b c : Expr} {ta tb tc : TE} {pos : Pos}

theorem binT (ha : PE X a ta) (hb : PE X b tb) {pins : List (Addr × Obj)} {s : Shared} {σ : St} {H : Hp} {R : V → V → Hp → Prop} (I : Inv X pins σ H s)
    (h : ta σ H fun x H1 => tb σ H1 fun y H2 => R x y H2) {Q : Value → Shared → Prop} {f : Value → Value → Sem Value}
    (hf : ∀ v u s2 x y H2, Inv X pins σ H2 s2 → RelV x v → RelV y u → R x y H2 → wpAny (model X.prog X.w) X.A (f v u) Q X.xe s2) :
    wpAny (model X.prog X.w) X.A (eval a X.env) (fun v s₁ => wpAny (model X.prog X.w) X.A (eval b X.env) (fun u s₂ => wpAny (model X.prog X.w) X.A (f v u) Q X.xe s₂) X.xe s₁) X.xe s := by
  refine thn (ha pins s σ H _ I h) fun v s1 ⟨x, H1, I1, r1, q1⟩ => ?_
  refine thn (hb pins s1 σ H1 _ I1 q1) fun u s2 ⟨y, H2, I2, r2, q2⟩ => ?_
  exact hf v u s2 x y H2 I2 r1 r2 q2

theorem pe_op {op : Operator} {r : R2} (ho : OpR X (binaryOp op) r) (ha : PE X a ta) (hb : PE X b tb) : PE X (.BinOp a op b pos) (tOp r ta tb) := by
  intro pins s σ H Q I h
  exact wpAny_BinOp (binT ha hb I h fun v u s2 x y H2 I2 rx ry q => ho pins s2 σ H2 x y v u Q I2 rx ry q)
/-! ### ints -/
theorem opI {f : Value → Value → Sem Value} {C : Int → Int → Prop} {g : Int → Int → Int}
    (rule : ∀ (i j : Int) (t u : Tok) (s : Shared) (Q : Value → Shared → Prop) (E : Value → Shared → Prop), C i j → Q (.int (g i j) s.toks) { s with toks := s.toks + 1 } → wpAny (model X.prog X.w) X.A (f (.int i t) (.int j u)) Q E s) :
    OpR X f (rI C fun i j => .int (g i j)) := by
  intro pins s σ H x y v u Q I rx ry h
  obtain ⟨i, j, rfl, rfl, hc, q⟩ := h
  obtain ⟨t, rfl⟩ := rx
  obtain ⟨t', rfl⟩ := ry
  exact rule i j t t' s _ _ hc ⟨.int (g i j), H, I.tok _, ⟨_, rfl⟩, q⟩
theorem opI0 {f : Value → Value → Sem Value} {g : Int → Int → Int}
    (rule : ∀ (i j : Int) (t u : Tok) (s : Shared) (Q : Value → Shared → Prop) (E : Value → Shared → Prop), Q (.int (g i j) s.toks) { s with toks := s.toks + 1 } → wpAny (model X.prog X.w) X.A (f (.int i t) (.int j u)) Q E s) :
    OpR X f (rI0 fun i j => .int (g i j)) := by
  intro pins s σ H x y v u Q I rx ry h
  obtain ⟨i, j, rfl, rfl, q⟩ := h
  obtain ⟨t, rfl⟩ := rx
  obtain ⟨t', rfl⟩ := ry
  exact rule i j t t' s _ _ ⟨.int (g i j), H, I.tok _, ⟨_, rfl⟩, q⟩
theorem opB0 {f : Value → Value → Sem Value} {g : Int → Int → Bool}
    (rule : ∀ (i j : Int) (t u : Tok) (s : Shared) (Q : Value → Shared → Prop) (E : Value → Shared → Prop), Q (.bool (g i j)) s → wpAny (model X.prog X.w) X.A (f (.int i t) (.int j u)) Q E s) :
    OpR X f (rI0 fun i j => .bl (g i j)) := by
  intro pins s σ H x y v u Q I rx ry h
  obtain ⟨i, j, rfl, rfl, q⟩ := h
  obtain ⟨t, rfl⟩ := rx
  obtain ⟨t', rfl⟩ := ry
  exact rule i j t t' s _ _ ⟨.bl (g i j), H, I, rfl, q⟩

def CDiv (i j : Int) : Prop := 0 < j ∧ j < 1073741824
def CPow (i j : Int) : Prop := 0 ≤ j ∧ j ≤ 1000000 ∧ i.natAbs < 2 ^ 64
def CMul (i j : Int) : Prop := (-(2 ^ 64) < i ∧ i < 2 ^ 64) ∨ (-(2 ^ 64) < j ∧ j < 2 ^ 64)
theorem CMul.ok {i j : Int} (h : CMul i j) : IntMulOk i j := by
  rcases h with ⟨h1, h2⟩ | ⟨h1, h2⟩
  · exact .of_left (intBits_le_64 h1 h2)
  · exact .of_right (intBits_le_64 h1 h2)
theorem op_add : OpR X (binaryOp .Add) (rI0 fun i j => .int (i + j)) := opI0 fun _ _ _ _ _ _ _ q => add_int q
theorem op_sub : OpR X (binaryOp .Sub) (rI0 fun i j => .int (i - j)) := opI0 fun _ _ _ _ _ _ _ q => sub_int q
theorem op_mul : OpR X (binaryOp .Mult) (rI CMul fun i j => .int (i * j)) := opI fun _ _ _ _ _ _ _ hc q => mul_int q hc.ok
/-- // by a positive divisor -/
theorem op_fdiv : OpR X (binaryOp .FloorDiv) (rI CDiv fun i j => .int (i / j)) := opI fun i j _ _ _ _ _ hc q => by
  have h1 : (0 : Int) < j := hc.1
  have h2 : j < 1073741824 := hc.2
  exact floordiv_int (by omega) (by rw [Int.fdiv_eq_ediv_of_nonneg i (by omega)]; exact q) (.inl (PyProof.noPylong_small (by omega)))
/-- % by a positive divisor of any size -/
theorem op_mod : OpR X (binaryOp .Mod) (rI (fun _ j => 0 < j) fun i j => .int (i % j)) := opI fun i j _ _ _ _ _ hc q => by
  have h1 : (0 : Int) < j := hc
  exact mod_int' (by omega) (by rw [Int.fmod_eq_emod_of_nonneg i (by omega)]; exact q)
theorem op_pow : OpR X (binaryOp .Pow) (rI CPow fun i j => .int (i ^ j.toNat)) := opI fun _ _ _ _ _ _ _ hc q => pow_int_small hc.1 hc.2.1 hc.2.2 q
end

/-! ### comparisons -/
/-- the scalars that == tells apart as data does -/
def scal : V → V → Bool
  | .non, .non => true | .non, .int _ => true | .int _, .non => true | .non, .bl _ => true | .bl _, .non => true | .non, .str _ => true | .str _, .non => true
  | .int _, .int _ => true | .bl _, .bl _ => true | .str _, .str _ => true | .byt _, .byt _ => true
  | .int _, .str _ => true | .str _, .int _ => true | .bl _, .str _ => true | .str _, .bl _ => true
  | _, _ => false
def rEq : R2 := fun x y H Q => scal x y = true ∧ Q (.bl (decide (x = y))) H
def rNe : R2 := fun x y H Q => scal x y = true ∧ Q (.bl (!decide (x = y))) H

theorem dec_int {i j : Int} : decide (V.int i = V.int j) = (i == j) := by
  rw [Bool.eq_iff_iff]
  simp
theorem dec_bl {i j : Bool} : decide (V.bl i = V.bl j) = (i == j) := by
  rw [Bool.eq_iff_iff]
  simp
theorem dec_str {i j : Str} : decide (V.str i = V.str j) = (i == j) := by
  rw [Bool.eq_iff_iff]
  simp
theorem dec_byt {i j : Array UInt8} : decide (V.byt i = V.byt j) = (i.toList == j.toList) := by
  rw [Bool.eq_iff_iff]
  cases i
  cases j
  simp

section
variable {X : Cx} {a b c : Expr} {ta tb tc : TE} {pos : Pos}
theorem fin_bl {pins : List (Addr × Obj)} {σ : St} {H : Hp} {s : Shared} {Q : VK} {k k' : Bool} (I : Inv X pins σ H s) (q : Q (.bl k) H) (e : k = k') : EP X pins σ Q (.bool k') s := by
  subst e
  exact ⟨.bl k, H, I, rfl, q⟩
theorem op_eq : OpR X (compareOp .Eq) rEq := by
  intro pins s σ H x y v u Q I rx ry h
  obtain ⟨hs, q⟩ := h
  cases x with
  | non =>
    cases rx
    cases y with
    | non => cases ry; exact PySem.EqNone.eq_none_none (fin_bl I q (by simp))
    | bl j => cases ry; exact PySem.EqNone.eq_none_bool (fin_bl I q (by simp))
    | int j => obtain ⟨t', rfl⟩ := ry; exact PySem.EqNone.eq_none_int (fin_bl I q (by simp))
    | str j => obtain ⟨t', rfl⟩ := ry; exact PySem.EqNone.eq_none_str (fin_bl I q (by simp))
    | _ => exact absurd (show false = true from hs) Bool.false_ne_true
  | bl i =>
    cases rx
    cases y with
    | non => cases ry; exact PySem.EqNone.eq_bool_none (fin_bl I q (by simp))
    | bl j => cases ry; exact eq_bool (fin_bl I q dec_bl)
    | str j => obtain ⟨t', rfl⟩ := ry; exact PySem.EqMixed.eq_bool_str (fin_bl I q (by simp))
    | _ => exact absurd (show false = true from hs) Bool.false_ne_true
  | int i =>
    obtain ⟨t, rfl⟩ := rx
    cases y with
    | non => cases ry; exact PySem.EqNone.eq_int_none (fin_bl I q (by simp))
    | int j => obtain ⟨t', rfl⟩ := ry; exact eq_int (fin_bl I q dec_int)
    | str j => obtain ⟨t', rfl⟩ := ry; exact PySem.EqMixed.eq_int_str (fin_bl I q (by simp))
    | _ => exact absurd (show false = true from hs) Bool.false_ne_true
  | str i =>
    obtain ⟨t, rfl⟩ := rx
    cases y with
    | non => cases ry; exact PySem.EqNone.eq_str_none (fin_bl I q (by simp))
    | bl j => cases ry; exact PySem.EqMixed.eq_str_bool (fin_bl I q (by simp))
    | int j => obtain ⟨t', rfl⟩ := ry; exact PySem.EqMixed.eq_str_int (fin_bl I q (by simp))
    | str j => obtain ⟨t', rfl⟩ := ry; exact eq_str (fin_bl I q dec_str)
    | _ => exact absurd (show false = true from hs) Bool.false_ne_true
  | byt i =>
    obtain ⟨t, rfl⟩ := rx
    cases y with
    | byt j => obtain ⟨t', rfl⟩ := ry; exact PySem.W.eq_bytes (fin_bl I q dec_byt)
    | _ => exact absurd (show false = true from hs) Bool.false_ne_true
  | _ => cases y <;> exact absurd (show false = true from hs) Bool.false_ne_true
theorem op_ne : OpR X (compareOp .NotEq) rNe := by
  intro pins s σ H x y v u Q I rx ry h
  obtain ⟨hs, q⟩ := h
  cases x with
  | non =>
    cases rx
    cases y with
    | non => cases ry; exact PySem.EqNone.ne_none_none (fin_bl I q (by simp))
    | bl j => cases ry; exact PySem.EqNone.ne_none_bool (fin_bl I q (by simp))
    | int j => obtain ⟨t', rfl⟩ := ry; exact PySem.EqNone.ne_none_int (fin_bl I q (by simp))
    | str j => obtain ⟨t', rfl⟩ := ry; exact PySem.EqNone.ne_none_str (fin_bl I q (by simp))
    | _ => exact absurd (show false = true from hs) Bool.false_ne_true
  | bl i =>
    cases rx
    cases y with
    | non => cases ry; exact PySem.EqNone.ne_bool_none (fin_bl I q (by simp))
    | bl j => cases ry; exact ne_bool (fin_bl I q (congrArg not dec_bl))
    | str j => obtain ⟨t', rfl⟩ := ry; exact PySem.EqMixed.ne_bool_str (fin_bl I q (by simp))
    | _ => exact absurd (show false = true from hs) Bool.false_ne_true
  | int i =>
    obtain ⟨t, rfl⟩ := rx
    cases y with
    | non => cases ry; exact PySem.EqNone.ne_int_none (fin_bl I q (by simp))
    | int j => obtain ⟨t', rfl⟩ := ry; exact ne_int (fin_bl I q (congrArg not dec_int))
    | str j => obtain ⟨t', rfl⟩ := ry; exact PySem.EqMixed.ne_int_str (fin_bl I q (by simp))
    | _ => exact absurd (show false = true from hs) Bool.false_ne_true
  | str i =>
    obtain ⟨t, rfl⟩ := rx
    cases y with
    | non => cases ry; exact PySem.EqNone.ne_str_none (fin_bl I q (by simp))
    | bl j => cases ry; exact PySem.EqMixed.ne_str_bool (fin_bl I q (by simp))
    | int j => obtain ⟨t', rfl⟩ := ry; exact PySem.EqMixed.ne_str_int (fin_bl I q (by simp))
    | str j => obtain ⟨t', rfl⟩ := ry; exact ne_str (fin_bl I q (congrArg not dec_str))
    | _ => exact absurd (show false = true from hs) Bool.false_ne_true
  | byt i =>
    obtain ⟨t, rfl⟩ := rx
    cases y with
    | byt j => obtain ⟨t', rfl⟩ := ry; exact PySem.W.ne_bytes (fin_bl I q (congrArg not dec_byt))
    | _ => exact absurd (show false = true from hs) Bool.false_ne_true
  | _ => cases y <;> exact absurd (show false = true from hs) Bool.false_ne_true

theorem op_lt : OpR X (compareOp .Lt) (rI0 fun i j => .bl (decide (i < j))) := opB0 fun _ _ _ _ _ _ _ q => lt_int q
theorem op_le : OpR X (compareOp .LtE) (rI0 fun i j => .bl (decide (i ≤ j))) := opB0 fun _ _ _ _ _ _ _ q => le_int q
theorem op_gt : OpR X (compareOp .Gt) (rI0 fun i j => .bl (decide (j < i))) := opB0 fun _ _ _ _ _ _ _ q => gt_int q
theorem op_ge : OpR X (compareOp .GtE) (rI0 fun i j => .bl (decide (j ≤ i))) := opB0 fun _ _ _ _ _ _ _ q => ge_int q
theorem nomark (b : Expr) {op : CmpOp} (h : op ≠ .In := by decide) (h2 : op ≠ .NotIn := by decide) : behindInMarks op b = false := by
  have e1 : (op == CmpOp.In) = false := by cases op <;> first | rfl | exact absurd rfl h
  have e2 : (op == CmpOp.NotIn) = false := by cases op <;> first | rfl | exact absurd rfl h2
  cases b <;> simp [behindInMarks, e1, e2]
/-- a comparison as a value; hm: nomark b, or (for in, not in) by with_unfolding_all rfl -/
theorem pe_cmpR {op : CmpOp} {r : R2} (ho : OpR X (compareOp op) r) (ha : PE X a ta) (hb : PE X b tb) (hm : behindInMarks op b = false) : PE X (.Compare a [op] [b] pos) (tOp r ta tb) := by
  intro pins s σ H Q I h
  exact wpAny_Compare1 (binT ha hb I h fun v u s2 x y H2 I2 rx ry q => ho pins s2 σ H2 x y v u Q I2 rx ry q) hm
/-- a reading of a value as a test -/
def tTest (t : TE) : TT := fun σ H Q => t σ H fun x H' => ∃ k, x = .bl k ∧ Q k H'
theorem pt_cmpR {op : CmpOp} {r : R2} (ho : OpR X (compareOp op) r) (ha : PE X a ta) (hb : PE X b tb) (hm : behindInMarks op b = false) : PT X (.Compare a [op] [b] pos) (tTest (tOp r ta tb)) := by
  intro pins s σ H Q I h
  refine wpAny_isTrue_Compare1 (thn (ha pins s σ H _ I h) fun v s1 ⟨x, H1, I1, r1, q1⟩ => thn (hb pins s1 σ H1 _ I1 q1) fun u s2 ⟨y, H2, I2, r2, q2⟩ =>
    thn (ho pins s2 σ H2 x y v u _ I2 r1 r2 q2) fun c s3 ⟨z, H3, I3, r3, k, e, q3⟩ => ?_) hm
  subst e
  cases r3
  exact wpAny_truthy_bool ⟨H3, I3, q3⟩
theorem line63 : (sizeLine : Nat) < 2 ^ 63 := by rw [sizeLine_eq]; decide
/-! ### scalar builtins, by CallR -/
theorem vals1 {x : V} {us : List Value} (r : Vals [x] us) : ∃ u, us = [u] ∧ RelV x u := by
  cases r with
  | cons r1 r2 => cases r2; exact ⟨_, rfl, r1⟩
theorem vals2 {x y : V} {us : List Value} (r : Vals [x, y] us) : ∃ u w', us = [u, w'] ∧ RelV x u ∧ RelV y w' := by
  cases r with
  | cons r1 r2 =>
    cases r2 with
    | cons r3 r4 => cases r4; exact ⟨_, _, rfl, r1, r3⟩
theorem call_abs : CallR X (.builtin "abs") (fun xs H Q => ∃ i, xs = [.int i] ∧ Q (.int (if i < 0 then -i else i)) H) := by
  intro pins s σ H xs us Q I r h
  obtain ⟨i, rfl, q⟩ := h
  obtain ⟨u, rfl, t, rfl⟩ := vals1 r
  exact call_abs_int fun u tk => ⟨.int (if i < 0 then -i else i), H, I.tok _, ⟨_, rfl⟩, q⟩
theorem call_max2 (hc : X.calm = true) : CallR X (.builtin "max") (fun xs H Q => ∃ i j, xs = [.int i, .int j] ∧ Q (.int (if j > i then j else i)) H) := by
  intro pins s σ H xs us Q I r h
  obtain ⟨i, j, rfl, q⟩ := h
  obtain ⟨u, w', rfl, ⟨t, rfl⟩, ⟨t', rfl⟩⟩ := vals2 r
  refine max_two_ints (I.ok.hd hc) fun h' tk k => ⟨_, H, I.kept k, ?_, q⟩
  by_cases hj : j > i
  · rw [if_pos hj, if_pos hj]; exact ⟨_, rfl⟩
  · rw [if_neg hj, if_neg hj]; exact ⟨_, rfl⟩
theorem call_min2 (hc : X.calm = true) : CallR X (.builtin "min") (fun xs H Q => ∃ i j, xs = [.int i, .int j] ∧ Q (.int (if j < i then j else i)) H) := by
  intro pins s σ H xs us Q I r h
  obtain ⟨i, j, rfl, q⟩ := h
  obtain ⟨u, w', rfl, ⟨t, rfl⟩, ⟨t', rfl⟩⟩ := vals2 r
  refine min_two_ints (I.ok.hd hc) fun h' tk k => ⟨_, H, I.kept k, ?_, q⟩
  by_cases hj : j < i
  · rw [if_pos hj, if_pos hj]; exact ⟨_, rfl⟩
  · rw [if_neg hj, if_neg hj]; exact ⟨_, rfl⟩
theorem call_int1 : CallR X (.type "int") (fun xs H Q => (∃ i, xs = [.int i] ∧ Q (.int i) H) ∨ ∃ k, xs = [.bl k] ∧ Q (.int (if k then 1 else 0)) H) := by
  intro pins s σ H xs us Q I r h
  rcases h with ⟨i, rfl, q⟩ | ⟨k, rfl, q⟩
  · obtain ⟨u, rfl, t, rfl⟩ := vals1 r
    exact call_int_int ⟨.int i, H, I, ⟨_, rfl⟩, q⟩
  · obtain ⟨u, rfl, r1⟩ := vals1 r
    cases r1
    exact call_int_bool ⟨.int (if k then 1 else 0), H, I.tok _, ⟨_, rfl⟩, q⟩
end
end L2

namespace L2
open PySem PySem.Spec PyProof.Rows

/-! ### an instance, its attributes a map -/
structure ObjM (h : Heap) (x dx C : Addr) (mA : Str → Option Value) : Prop where
  obj : h.get? x = some (PySem.W.instObj C dx)
  ns : h.Ns1 dx mA
  ne : dx ≠ x

theorem lookIn_ns {h : Heap} {dx : Addr} {mA : Str → Option Value} (n : h.Ns1 dx mA) : ∃ od, h.get? dx = some od ∧ ∀ name, PySem.W.lookIn name od = some (mA name) := by
  obtain ⟨o, es, ep, ho, hd, hk, _, hm⟩ := n
  refine ⟨o, ho, fun name => ?_⟩
  have e := hm name
  unfold nsFind findBy at e
  rw [← Array.find?_toList] at e
  unfold PySem.W.lookIn
  rw [hd]
  dsimp only
  split
  · rename_i y q
    rw [q] at e
    exact congrArg some e
  · rename_i q
    rw [q] at e
    have a : es.toList.any (·.refKey) = false := by
      rw [List.any_eq_false]
      intro y hy
      obtain ⟨z, t, hkey⟩ := hk y (Array.mem_toList_iff.mp hy)
      simp [DictEntry.refKey, hkey]
    have a' : ¬ es.toList.any (·.refKey) = true := by rw [a]; exact Bool.false_ne_true
    rw [if_neg a']
    exact congrArg some e

theorem ObjM.look {h : Heap} {x dx C : Addr} {mA : Str → Option Value} (I : ObjM h x dx C mA) : ∃ od, PySem.W.InstAt h x (PySem.W.instObj C dx) C (some od) ∧ ∀ name, PySem.W.lookIn name od = some (mA name) :=
  let ⟨od, ho, hl⟩ := lookIn_ns I.ns
  ⟨od, ⟨I.obj, rfl, rfl, ho⟩, hl⟩

section
variable {prog : Program} {w : World} {A : Around} {E : Value → Shared → Prop} {s : Shared} {K : PySem.W.Frag} {x dx C f : Addr} {mA : Str → Option Value} {name : Str} {v : Value}

theorem get_map {expr : Bool} {Q : Value → Shared → Prop} (X : K.In s.heap) (I : ObjM s.heap x dx C mA) (hg : PySem.W.plainGet K C name = true) (hh : PySem.W.hasDictIn K C = true)
    (ha : PySem.W.findIn K (.ref C) name = some none) (hv : mA name = some v) (hv' : PySem.W.handedIn v = true) (h : Q v { s with toks := s.toks + 1 }) :
    wpAny (model prog w) A (getAttr (.ref x) name expr) Q E s := by
  obtain ⟨od, J, hl⟩ := I.look
  exact PySem.W.get_value X J (PySem.W.plainGet_of hg).1 (PySem.W.findObj_own hh ha rfl (by rw [hl, hv])) hv' h

theorem get_meth {pl : Sem Bool} {Q : Value × List Value → Shared → Prop} (X : K.In s.heap) (I : ObjM s.heap x dx C mA) (hg : PySem.W.plainGet K C name = true)
    (hf : PySem.W.findIn K (.ref C) name = some (some (.ref f))) (ht : PySem.W.isFn K (.ref f) = true) (hv : mA name = none) (h : Q (.ref f, [.ref x]) s) :
    wpAny (model prog w) A (getMethod (.ref x) name pl) Q E s := by
  obtain ⟨od, J, hl⟩ := I.look
  exact PySem.W.method_fn X J (PySem.W.plainGet_of hg).1 (PySem.W.plainGet_of hg).2 hf (beq_iff_eq.mp ht) (by show (PySem.W.lookIn name od).map (·.isSome) = some false; rw [hl, hv]; rfl) h

theorem set_map {ns : List Str} {Q : Unit → Shared → Prop} (X : K.In s.heap) (I : ObjM s.heap x dx C mA)
    (hs : PySem.W.findIn K (.ref C) "__setattr__" = some (some (.builtin "object.__setattr__"))) (hp : PySem.W.plainOver K C = true) (ht : PySem.W.takerIn K C name = some none) (hh : PySem.W.hasDictIn K C = true)
    (hw : PySem.Within mA ns) (hsz : ns.length ≤ sizeLine)
    (h : ∀ h', ObjM h' x dx C (fun y => if y = name then some v else mA y) → Heap.SameBut dx s.heap h' → Q () { s with heap := h', toks := s.toks + 2 }) :
    wpAny (model prog w) A (setAttr (.ref x) name v) Q E s := by
  obtain ⟨od, J, hl⟩ := I.look
  refine PySem.W.set_plain X J hs (PySem.W.osa_open (s := { s with toks := s.toks + 1 }) (r := none) X J hp ht fun b => ?_)
  obtain ⟨cd, hc, hd'⟩ := PySem.W.any_some hh
  have hx : s.heap.get? x = some ⟨.ref C, some dx, .plain, #[]⟩ := I.obj
  refine wpAny_bind (wpAny_pure (wpAny_bind (wpAny_bind (wpAny_loadPart hx (wpAny_bind (PySem.W.Looks.here (s := { s with toks := s.toks + 1 }) (PySem.W.looks_clsIn X hc) ?_))))))
  rw [hd']
  refine wpAny_pure (a := some dx) (wpAny_bind (wpAny_pure (wpAny_bind ?_)))
  refine wpAny_nsSet1 (s := { s with toks := s.toks + 1 }) I.ns fun h' hn2 hs2 => ?_
  obtain ⟨oD, esD, epD, hoD, hdD, hcD⟩ := hn2.count (PySem.Within.cons name v hw)
  refine wpAny_bind (wpAny_lookBehind hoD (by rw [hdD]; exact pastItsLine_dict (Nat.le_trans hcD (by rw [List.length_cons]; omega))) ?_)
  exact wpAny_pure (h _ ⟨(hs2.2 _ (Ne.symm I.ne)).trans I.obj, hn2, I.ne⟩ hs2)

/-- C(..): the dict at the heap's end, the instance behind it; then its __init__ -/
theorem make_map {R : Result → Shared → Prop} {vs : List Value} {kw : List (Str × Value)} (X : K.In s.heap) (hm : PySem.W.makesIn K C = true)
    (hi : PySem.W.findIn K (.ref C) "__init__" = some (some (.ref f))) (hf : PySem.W.typeIn K (.ref f) = some (.type "function"))
    (h : codeAny (model prog w) (A.under (.builtin "type.__call__" ⟨.ref C :: vs, kw⟩)) (.call (.ref f) ⟨.ref (s.heap.objs.size + 1) :: vs, kw⟩) (PySem.W.InitBack (s.heap.objs.size + 1) R)
      { s with heap := (s.heap.push PySem.W.emptyDict).push (PySem.W.instObj C s.heap.objs.size) }) :
    codeAny (model prog w) A (.call (.ref C) ⟨vs, kw⟩) R s := by
  obtain ⟨hh, g, d, t, os⟩ := s
  exact PySem.W.make_core (PySem.W.makes_of X hm) (PySem.W.looks_findIn X hi) (fun self => PySem.W.bind_fn X self hf) (.inl rfl) h
end

/-! ### the attributes as a list of pairs -/
def putF (f : Str) (v : V) : List (Str × V) → List (Str × V)
  | [] => [(f, v)]
  | (g, x) :: r => if g = f then (g, v) :: r else (g, x) :: putF f v r
theorem lookup_putF (f g : Str) (v : V) : ∀ fs : List (Str × V), (putF f v fs).lookup g = if g = f then some v else fs.lookup g
  | [] => by
    show List.lookup g [(f, v)] = _
    by_cases h : g = f
    · have hb : (g == f) = true := beq_iff_eq.mpr h
      simp only [List.lookup, hb, if_pos h]
    · have hb : (g == f) = false := beq_eq_false_iff_ne.mpr h
      simp only [List.lookup, hb, if_neg h]
  | (k, x) :: r => by
    have ih := lookup_putF f g v r
    rw [show putF f v ((k, x) :: r) = (if k = f then (k, v) :: r else (k, x) :: putF f v r) from rfl]
    by_cases hk : k = f
    · rw [if_pos hk]
      by_cases h : g = k
      · have hb : (g == k) = true := beq_iff_eq.mpr h
        simp only [List.lookup, hb, if_pos (h.trans hk)]
      · have hb : (g == k) = false := beq_eq_false_iff_ne.mpr h
        simp only [List.lookup, hb, if_neg (fun e : g = f => h (e.trans hk.symm))]
    · rw [if_neg hk]
      by_cases h : g = k
      · have hb : (g == k) = true := beq_iff_eq.mpr h
        simp only [List.lookup, hb, if_neg (fun e : g = f => hk (h.symm.trans e))]
      · have hb : (g == k) = false := beq_eq_false_iff_ne.mpr h
        simp only [List.lookup, hb]
        exact ih
theorem keys_putF (f : Str) (v : V) : ∀ fs : List (Str × V), f ∈ (putF f v fs).map (·.1) ∧ ∀ g, g ∈ fs.map (·.1) → g ∈ (putF f v fs).map (·.1)
  | [] => ⟨by simp [putF], fun g h => by simp at h⟩
  | (k, x) :: r => by
    obtain ⟨i1, i2⟩ := keys_putF f v r
    rw [show putF f v ((k, x) :: r) = (if k = f then (k, v) :: r else (k, x) :: putF f v r) from rfl]
    by_cases hk : k = f
    · rw [if_pos hk]
      subst hk
      exact ⟨by simp, fun g h => by simpa using h⟩
    · rw [if_neg hk]
      refine ⟨?_, fun g h => ?_⟩
      · rw [List.map_cons]
        exact List.mem_cons_of_mem _ i1
      · rw [List.map_cons] at h ⊢
        rcases List.mem_cons.mp h with e | e
        · exact List.mem_cons.mpr (.inl e)
        · exact List.mem_cons_of_mem _ (i2 g e)
theorem length_putF (f : Str) (v : V) : ∀ fs : List (Str × V), (putF f v fs).length ≤ fs.length + 1
  | [] => by simp [putF]
  | (k, x) :: r => by
    have ih := length_putF f v r
    rw [show putF f v ((k, x) :: r) = (if k = f then (k, v) :: r else (k, x) :: putF f v r) from rfl]
    by_cases hk : k = f
    · rw [if_pos hk, List.length_cons, List.length_cons]; omega
    · rw [if_neg hk, List.length_cons, List.length_cons]; omega

theorem RelO.some_of {v : V} {o : Option Value} (r : RelO (some v) o) : ∃ u, o = some u ∧ RelV v u := by
  cases o with
  | none => exact (show False from r).elim
  | some u => exact ⟨u, rfl, r⟩
theorem RelO.none_of {o : Option Value} (r : RelO none o) : o = none := by
  cases o with
  | none => rfl
  | some u => exact (show False from r).elim
theorem handed_of {v : V} {u : Value} (r : RelV v u) : PySem.W.handedIn u = true := by
  cases v with
  | non => cases (show u = Value.none from r); rfl
  | bl b => cases (show u = Value.bool b from r); rfl
  | int i => obtain ⟨t, e⟩ := (show ∃ t, u = Value.int i t from r); cases e; rfl
  | str x => obtain ⟨t, e⟩ := (show ∃ t, u = Value.str x t from r); cases e; rfl
  | byt b => obtain ⟨t, e⟩ := (show ∃ t, u = Value.bytes b t from r); cases e; rfl
  | flt b => obtain ⟨t, e⟩ := (show ∃ t, u = Value.float b t from r); cases e; rfl
  | ref a => cases (show u = Value.ref a from r); rfl
  | ty n => cases (show u = Value.type n from r); rfl

section
variable {P : Program} {w : World} {H H' : Hp} {h h' : Heap} {a C dx : Addr} {fs fs' : List (Str × V)}
theorem ins_get (hok : HOk P w H h) (e : H a = some (.ins C dx fs)) : ∃ mA, ObjM h a dx C mA ∧ (∀ f, RelO (fs.lookup f) (mA f)) ∧ PySem.Within mA (fs.map (·.1)) ∧ fs.length ≤ 1000 ∧ H dx = some (.own a) := by
  obtain ⟨d, z, ne, ob, mA, n, r, q⟩ := (show ObjOk P w H h a (.ins C dx fs) from hok a _ e)
  exact ⟨mA, ⟨ob, n, ne⟩, r, q, z, d⟩
end

/-! ### what of the text a class must have -/
structure Cls (K : PySem.W.Frag) (C : Addr) : Prop where
  pg : PySem.W.plainGet K C Str.empty = true
  hd : PySem.W.hasDictIn K C = true
  po : PySem.W.plainOver K C = true
  sa : PySem.W.findIn K (.ref C) "__setattr__" = some (some (.builtin "object.__setattr__"))
theorem Cls.get {K : PySem.W.Frag} {C : Addr} (c : Cls K C) (f : Str) : PySem.W.plainGet K C f = true := c.pg
/-- no class of it has the name -/
def NoAttr (K : PySem.W.Frag) (C : Addr) (f : Str) : Prop := PySem.W.findIn K (.ref C) f = some none
theorem NoAttr.taker {K : PySem.W.Frag} {C : Addr} {f : Str} (n : NoAttr K C f) : PySem.W.takerIn K C f = some none := by
  unfold PySem.W.takerIn
  rw [show PySem.W.findIn K (.ref C) f = some none from n]
  rfl
/-- a method: a plain def of the class or of one above it -/
structure Meth (K : PySem.W.Frag) (C : Addr) (m : Str) (f : Addr) : Prop where
  at_ : PySem.W.findIn K (.ref C) m = some (some (.ref f))
  fn : PySem.W.isFn K (.ref f) = true
  kp : PySem.W.keepIn K (.ref f) = true

section
variable {X : Cx} {pins : List (Addr × Obj)} {σ : St} {H : Hp} {s : Shared} {a C dx : Addr} {fs : List (Str × V)} {f : Str} {v : V} {A : Around} {E : Value → Shared → Prop}

theorem getattr_ok {b : Bool} {Q : Value → Shared → Prop} (I : Inv X pins σ H s) (e : H a = some (.ins C dx fs)) (c : Cls X.K C) (n : NoAttr X.K C f) (l : fs.lookup f = some v)
    (h : ∀ u s', Inv X pins σ H s' → RelV v u → Q u s') : wpAny (model X.prog X.w) A (getAttr (.ref a) f b) Q E s := by
  obtain ⟨mA, O, r, _, _, _⟩ := ins_get I.hok e
  obtain ⟨u, hu, ru⟩ := RelO.some_of (v := v) (o := mA f) (by rw [← l]; exact r f)
  exact get_map I.kIn O (c.get f) c.hd n hu (handed_of ru) (h u _ (I.tok _) ru)

theorem getmeth_ok {m : Str} {g : Addr} {pl : Sem Bool} {Q : Value × List Value → Shared → Prop} (I : Inv X pins σ H s) (e : H a = some (.ins C dx fs)) (c : Cls X.K C) (k : Meth X.K C m g) (l : fs.lookup m = none)
    (h : Q (.ref g, [.ref a]) s) : wpAny (model X.prog X.w) A (getMethod (.ref a) m pl) Q E s := by
  obtain ⟨mA, O, r, _, _, _⟩ := ins_get I.hok e
  have hn : mA m = none := RelO.none_of (by rw [← l]; exact r m)
  exact get_meth I.kIn O (c.get m) k.at_ k.fn hn h

theorem setattr_ok {y : V} {u : Value} {Q : Unit → Shared → Prop} (I : Inv X pins σ H s) (e : H a = some (.ins C dx fs)) (c : Cls X.K C) (n : NoAttr X.K C f) (hl : fs.length < 1000) (ry : RelV y u)
    (h : ∀ s', Inv X pins σ (upd H a (.ins C dx (putF f y fs))) s' → Q () s') : wpAny (model X.prog X.w) A (setAttr (.ref a) f u) Q E s := by
  obtain ⟨mA, O, r, wi, _, ho⟩ := ins_get I.hok e
  have hz : (fs.map (·.1)).length ≤ sizeLine := by rw [List.length_map, sizeLine_eq]; omega
  refine set_map I.kIn O c.sa c.po n.taker c.hd wi hz fun h' O' sb => h _ ?_
  have hd : ∃ o, h'.get? dx = some o := let ⟨o, _, _, e', _⟩ := O'.ns; ⟨o, e'⟩
  refine I.write (x := a) (e := dx) (by rw [e]; exact True.intro) (.inr ho) (fun b q hb z => (sb.2 b hb).trans z) hd ?_
  refine ⟨by rw [upd_ne O.ne]; exact ho, ?_, O.ne, O'.obj, _, O'.ns, fun g => ?_, fun g hg => ?_⟩
  · have := length_putF f y fs; omega
  · show RelO ((putF f y fs).lookup g) (if g = f then some u else mA g)
    rw [lookup_putF]
    by_cases q : g = f
    · rw [if_pos q, if_pos q]; exact ry
    · rw [if_neg q, if_neg q]; exact r g
  · by_cases q : g = f
    · rw [q]; exact (keys_putF f y fs).1
    · refine (keys_putF f y fs).2 g (wi g fun z => hg ?_)
      show (if g = f then some u else mA g) = none
      rw [if_neg q]; exact z

/-- a new instance, tracked, without attributes -/
theorem Inv.made (I : Inv X pins σ H s) : Inv X pins σ (upd (upd H s.heap.objs.size (.own (s.heap.objs.size + 1))) (s.heap.objs.size + 1) (.ins C s.heap.objs.size []))
    { s with heap := (s.heap.push PySem.W.emptyDict).push (PySem.W.instObj C s.heap.objs.size) } := by
  have e1 : (s.heap.push PySem.W.emptyDict).get? s.heap.objs.size = some PySem.W.emptyDict := Heap.get?_push_size s.heap rfl
  have e2 : ((s.heap.push PySem.W.emptyDict).push (PySem.W.instObj C s.heap.objs.size)).get? (s.heap.objs.size + 1) = some (PySem.W.instObj C s.heap.objs.size) := by
    have := Heap.get?_push_size (s.heap.push PySem.W.emptyDict) (o := PySem.W.instObj C s.heap.objs.size) rfl
    rwa [Heap.size_push] at this
  have e3 : (s.heap.push PySem.W.emptyDict).Ns s.heap.objs.size (fun _ => none) := ⟨PySem.W.emptyDict, #[], _, e1, rfl, (fun e he => absurd he (by simp)), fun _ => rfl⟩
  have I1 := I.laid (a := s.heap.objs.size) (o := .own (s.heap.objs.size + 1)) (h' := s.heap.push PySem.W.emptyDict) (t' := s.toks) (fun b u q => Heap.get?_push_of_some _ q) (Nat.le_refl _) ⟨_, e1⟩
  refine I1.laid (a := s.heap.objs.size + 1) (o := .ins C s.heap.objs.size []) (t' := s.toks) (fun b u q => Heap.get?_push_of_some _ q) (Nat.le_of_eq (Heap.size_push _ _)) ?_
  have ne : s.heap.objs.size ≠ s.heap.objs.size + 1 := Nat.ne_of_lt (Nat.lt_succ_self _)
  refine ⟨by rw [upd_ne ne, upd_same], Nat.zero_le _, ne, e2, fun _ => none, (Heap.Ns1.of_empty e3).at fun o q => Heap.get?_push_of_some _ q, fun _ => True.intro, fun y hy => absurd rfl hy⟩

/-- e.f where nothing but the object is asked: through attributeBase (super) and the last hold -/
theorem attr_of {prog : Program} {w : World} {env : Env} {e : Expr} {f : Str} {pos : Pos} {s : Shared} {Q : Value → Shared → Prop} (hb : attributeBase e f env (eval e env) = eval e env)
    (h : wpAny (model prog w) A (eval e env) (fun o s₁ => wpAny (model prog w) A (getAttr o f true) Q E s₁) E s) : wpAny (model prog w) A (eval (.Attribute e f pos) env) Q E s :=
  Attribute_any_ h (by rw [arm_eval_Attribute, hb])
end

/-! ### readings and rules -/
/-- e.f, an attribute of the instance -/
def tFld (K : PySem.W.Frag) (ta : TE) (f : Str) : TE := fun σ H Q => ta σ H fun x H1 => ∃ a C dx fs v, x = .ref a ∧ H1 a = some (.ins C dx fs) ∧ Cls K C ∧ NoAttr K C f ∧ fs.lookup f = some v ∧ Q v H1
section
variable {X : Cx} {o e value : Expr} {f : Str} {pos pos' tpos : Pos} {ta tv : TE}
theorem pe_fld (he : PE X e ta) (hb : attributeBase e f X.env (eval e X.env) = eval e X.env) : PE X (.Attribute e f pos) (tFld X.K ta f) := by
  intro pins s σ H Q I h
  refine attr_of hb (thn (he pins s σ H _ I h) fun u s1 ⟨x, H1, I1, rx, a, C, dx, fs, v, ex, ea, c, n, l, q⟩ => ?_)
  subst ex
  obtain rfl : u = Value.ref a := rx
  exact getattr_ok I1 ea c n l fun u' s2 I2 ru => ⟨v, H1, I2, ru, q⟩
end

/-! ### isinstance -/
section
variable {X : Cx} {pins : List (Addr × Obj)} {σ : St} {H : Hp} {s : Shared} {A : Around} {E : Value → Shared → Prop} {Q : Value → Shared → Prop} {c : Value} {b : Bool}
/-- the type of a value, as the fragment's deciders take it; for an instance its class -/
inductive TyOf (K : PySem.W.Frag) (H : Hp) : V → Value → Prop where
  | non : TyOf K H .non (.type "NoneType")
  | bl (x : Bool) : TyOf K H (.bl x) (.type "bool")
  | int (i : Int) : TyOf K H (.int i) (.type "int")
  | str (x : Str) : TyOf K H (.str x) (.type "str")
  | flt (x : UInt64) : TyOf K H (.flt x) (.type "float")
  | lst {a : Addr} {xs : List V} (e : H a = some (.lst xs)) : TyOf K H (.ref a) (.type "list")
  | frz {a : Addr} {o : Obj} {xs : List V} (e : H a = some (.frz o (.lst xs))) : TyOf K H (.ref a) (.type "list")
  | tup {a : Addr} {xs : List V} (e : H a = some (.tup xs)) : TyOf K H (.ref a) (.type "tuple")
  | dK {a : Addr} {kvs : List (Key × V)} (e : H a = some (.dK kvs)) : TyOf K H (.ref a) (.type "dict")
  | dT {a : Addr} {kvs : List (List Key × V)} (e : H a = some (.dT kvs)) : TyOf K H (.ref a) (.type "dict")
  | ins {a C dx : Addr} {fs : List (Str × V)} (e : H a = some (.ins C dx fs)) (cl : Cls K C) (ha : PySem.W.findIn K (.ref C) "__class__" = some (some (.builtin "object.__class__")))
      (hn : PySem.W.specialIn K (.builtin "object.__class__") "__get__" = some (some (.builtin "getset_descriptor.__get__"))) (htk : PySem.W.takesIn K (.builtin "object.__class__") = some true)
      (hm : PySem.W.mroIn K C (.type "object") = some true) : TyOf K H (.ref a) (.ref C)
/-- isinstance(x, c) for one class c, a built-in or an own one: kitOne's answer -/
theorem isinst_ok {x : V} {u t : Value} (I : Inv X pins σ H s) (rx : RelV x u) (ty : TyOf X.K H x t) (e : PySem.W.kitOne X.K t c = some b) (h : ∀ tk, Q (.bool b) { s with toks := tk }) :
    wpAny (model X.prog X.w) A (call (.builtin "isinstance") [u, c]) Q E s := by
  cases ty with
  | non => cases (show u = Value.none from rx); exact PySem.W.kia_one PySem.W.kitx_none I.kIn True.intro e (fun z => nomatch z) h
  | bl y => cases (show u = Value.bool y from rx); exact PySem.W.kia_one PySem.W.kitx_bool I.kIn True.intro e (fun z => nomatch z) h
  | int i => obtain ⟨t, q⟩ := (show ∃ t, u = Value.int i t from rx); cases q; exact PySem.W.kia_one PySem.W.kitx_int I.kIn True.intro e (fun z => nomatch z) h
  | str y => obtain ⟨t, q⟩ := (show ∃ t, u = Value.str y t from rx); cases q; exact PySem.W.kia_one PySem.W.kitx_str I.kIn True.intro e (fun z => nomatch z) h
  | flt y => obtain ⟨t, q⟩ := (show ∃ t, u = Value.float y t from rx); cases q; exact PySem.W.kia_one PySem.W.kitx_float I.kIn True.intro e (fun z => nomatch z) h
  | @lst a xs ea =>
    cases (show u = Value.ref a from rx)
    obtain ⟨_, _, n, _, h1⟩ := (show ObjOk X.prog X.w H s.heap a (.lst xs) from I.hok a _ ea)
    exact PySem.W.kia_one PySem.W.kitx_list I.kIn ⟨_, h1, rfl⟩ e (fun z => nomatch z) h
  | @frz a ob xs ea =>
    cases (show u = Value.ref a from rx)
    obtain ⟨_, _, _, n, _, h1⟩ := (show ObjOk X.prog X.w H s.heap a (.frz ob (.lst xs)) from I.hok a _ ea)
    exact PySem.W.kia_one PySem.W.kitx_list I.kIn ⟨_, h1, rfl⟩ e (fun z => nomatch z) h
  | @tup a xs ea =>
    cases (show u = Value.ref a from rx)
    obtain ⟨_, _, _, p⟩ := (show ObjOk X.prog X.w H s.heap a (.tup xs) from I.hok a _ ea)
    obtain ⟨o, h1, h2, _⟩ := p
    exact PySem.W.kia_one PySem.W.kitx_tuple I.kIn ⟨o, h1, h2⟩ e (fun z => nomatch z) h
  | @dK a kvs ea =>
    cases (show u = Value.ref a from rx)
    obtain ⟨_, _, vs, _, p⟩ := (show ObjOk X.prog X.w H s.heap a (.dK kvs) from I.hok a _ ea)
    obtain ⟨o, es, ep, h1, h2, _⟩ := p
    exact PySem.W.kia_one PySem.W.kitx_dict I.kIn ⟨o, h1, h2.1⟩ e (fun z => nomatch z) h
  | @dT a kvs ea =>
    cases (show u = Value.ref a from rx)
    obtain ⟨_, _, xs, _, o, es, ep, h1, h2, _⟩ := (show ObjOk X.prog X.w H s.heap a (.dT kvs) from I.hok a _ ea)
    exact PySem.W.kia_one PySem.W.kitx_dict I.kIn ⟨o, h1, h2.1⟩ e (fun z => nomatch z) h
  | @ins a C dx fs ea cl ha hn htk hm =>
    cases (show u = Value.ref a from rx)
    obtain ⟨mA, O, _⟩ := ins_get I.hok ea
    obtain ⟨od, J, _⟩ := O.look
    exact PySem.W.kia_one (PySem.W.kitx_own (cl.get _) cl.hd ha hn htk hm) I.kIn J e (fun z => nomatch z) h
end
end L2

namespace L2
open PySem PySem.Spec PyProof.Rows

/-! ### room -/
structure Room (k : Nat) (A : Around) : Prop where
  hd : A.handled = none
  dp : A.depth + 3 * k + 5 < recursionLimit
  un : A.units + 16 * k + 200 < cLine
theorem Room.mono {j k : Nat} {A : Around} (r : Room k A) (h : j ≤ k) : Room j A := ⟨r.hd, by have := r.dp; omega, by have := r.un; omega⟩
theorem Room.deeper {k : Nat} {A : Around} (r : Room (k + 1) A) (env : Env) : Room k (A.deeper env) :=
  ⟨r.hd, by have := r.dp; show A.depth + 1 + 3 * k + 5 < _; omega, by have := r.un; show A.units + 3 + 16 * k + 200 < _; omega⟩
theorem Room.in1 {k : Nat} {A : Around} (r : Room (k + 1) A) : Room k A.in1 :=
  ⟨r.hd, by have := r.dp; show A.depth + 3 * k + 5 < _; omega, by have := r.un; show A.units + 1 + 16 * k + 200 < _; omega⟩
theorem make_depth {A : Around} {C : Addr} {us : List Value} {kw : List (Str × Value)} : (A.under (.builtin "type.__call__" ⟨.ref C :: us, kw⟩)).depth = A.depth + 1 := by
  first | rfl | simp [Around.under, Code.weight, Code.isCreation, Code.isGuard, Code.isCaller, Code.frames, Code.isFrame, guardIds]
theorem make_units {A : Around} {C : Addr} {us : List Value} {kw : List (Str × Value)} : (A.under (.builtin "type.__call__" ⟨.ref C :: us, kw⟩)).units = A.units + 1 := by
  first | rfl | simp [Around.under, Code.cUnits, Code.frames, Code.isFrame]
theorem Room.make {k : Nat} {A : Around} (r : Room (k + 1) A) (C : Addr) (us : List Value) (kw : List (Str × Value)) : Room k (A.under (.builtin "type.__call__" ⟨.ref C :: us, kw⟩)) :=
  ⟨r.hd, by have := r.dp; rw [make_depth]; omega, by have := r.un; rw [make_units]; omega⟩
theorem Room.depth {k : Nat} {A : Around} (r : Room k A) : A.depth < recursionLimit := by have := r.dp; omega
theorem Room.units {k : Nat} {A : Around} (r : Room k A) : A.units + 64 < cLine := by have := r.un; omega
/-! ### argument lists and displays -/
def tNil : TA := fun _ H Q => Q [] H
def tCons (ta : TE) (tr : TA) : TA := fun σ H Q => ta σ H fun x H1 => tr σ H1 fun xs H2 => Q (x :: xs) H2
section
variable {X : Cx} {e : Expr} {es : List Expr} {te : TE} {t : TA} {pos : Pos}
theorem pa_nil : PA X [] tNil := fun _ _ _ _ H Q I h => Calls.spliced_nil ⟨[], H, I, .nil, h⟩
theorem pa_cons (ha : PE X e te) (hr : PA X es t) (hs : starEach (e :: es) X.env = (false, eval e X.env) :: starEach es X.env := by rfl) : PA X (e :: es) (tCons te t) := by
  intro pos pins s σ H Q I h
  rw [hs]
  show wpAny _ _ (spliced ((false, eval e X.env) :: backTo pos (starEach es X.env))) _ _ s
  refine Calls.spliced_cons (thn (ha pins s σ H _ I h) fun u s1 ⟨x, H1, I1, r1, q1⟩ => ?_)
  exact thn (hr pos pins s1 σ H1 _ I1 q1) fun us s2 ⟨xs, H2, I2, r2, q2⟩ => ⟨x :: xs, H2, I2, .cons r1 r2, q2⟩

/-- a tuple, a list of written items -/
def tTup (t : TA) : TE := fun σ H Q => t σ H fun xs H1 => xs.length ≤ sizeLine ∧ ∀ p, H1 p = none → Q (.ref p) (upd H1 p (.tup xs))
def tLst (t : TA) : TE := fun σ H Q => t σ H fun xs H1 => xs.length ≤ sizeLine ∧ ∀ p, H1 p = none → Q (.ref p) (upd H1 p (.lst xs))
theorem pe_tup {x1} (h : PA X es t) : PE X (.Tuple es x1 pos) (tTup t) := by
  intro pins s σ H Q I hq
  refine wpAny_Tuple_spliced (thn (h pos pins s σ H _ I hq) fun us s1 ⟨xs, H1, I1, r, z, q⟩ => ⟨by rw [← r.length]; exact z, ?_⟩)
  have hf : H1 s1.heap.objs.size = none := I1.hok.fresh (Nat.le_refl _)
  refine ⟨.ref s1.heap.objs.size, upd H1 s1.heap.objs.size (.tup xs), I1.laid (t' := s1.toks) (fun b u e => Heap.get?_push_of_some _ e) (Nat.le_refl _) ?_, rfl, q _ hf⟩
  exact ⟨z, us, r, ⟨_, Heap.get?_push_size _ rfl, rfl, _, rfl⟩⟩
theorem pe_lst (h : PA X es t) : PE X (.List es pos) (tLst t) := by
  intro pins s σ H Q I hq
  refine wpAny_List_spliced (thn (h pos pins s σ H _ I hq) fun us s1 ⟨xs, H1, I1, r, z, q⟩ => ⟨by rw [← r.length]; exact z, ?_⟩)
  have hf : H1 s1.heap.objs.size = none := I1.hok.fresh (Nat.le_refl _)
  refine ⟨.ref s1.heap.objs.size, upd H1 s1.heap.objs.size (.lst xs), I1.laid (t' := s1.toks) (fun b u e => Heap.get?_push_of_some _ e) (Nat.le_refl _) ?_, rfl, q _ hf⟩
  exact ⟨z, us, 0, r, Heap.get?_push_size _ rfl⟩
end

/-! ### what a def promises -/
/-- a def's promise: the bound arguments in the parameters' order, the heap, the wanted end, the wanted exception -/
abbrev Sp := List V → Hp → VK → XK → Prop
/-- how an exception lies behind a call (file 08 gives it): the callers' frames, abstract heap and state ahead of the call, the wish, the exception, the state -/
abbrev CXT := List Env → Hp → Shared → XK → Value → Shared → Prop

/-- the state at a call -/
structure Env0 (P : Program) (w : World) (K : PySem.W.Frag) (mg : Str → Option Value) (base : Heap) (A : Around) (outer : List Env) (s : Shared) (H : Hp) : Prop where
  frames : A.frames = some outer
  mod : Mod K mg base
  bs : ∀ b o, base.get? b = some o → s.heap.get? b = some o ∧ H b = none
  bsz : base.objs.size ≤ s.heap.objs.size
  funs : s.heap.FunFrames base outer
  frf : ∀ b ∈ frs outer, H b = none
  hok : HOk P w H s.heap
  bare : AllBare s.gens
/-- a call's end -/
def CE (outer : List Env) (P : Program) (w : World) (H : Hp) (s : Shared) (Q : VK) (u : Value) (s' : Shared) : Prop :=
  ∃ v H', s'.os = s.os ∧ AllBare s'.gens ∧ Un (frs outer) [] H H' s.heap s'.heap ∧ HOk P w H' s'.heap ∧ RelV v u ∧ Q v H'
def CR (CX : CXT) (outer : List Env) (P : Program) (w : World) (H : Hp) (s : Shared) (Q : VK) (E : XK) (r : Result) (s' : Shared) : Prop :=
  match r with
  | .ok (.ret u) => CE outer P w H s Q u s'
  | .ok _ => False
  | .error e => CX outer H s E e s'
structure FnOk (P : Program) (w : World) (K : PySem.W.Frag) (mg : Str → Option Value) (base : Heap) (CX : CXT) (k : Nat) (f : Addr) (fd : FuncData) (ps : List Str) (sp : Sp) : Prop where
  len : ∀ vs H Q E, sp vs H Q E → vs.length = ps.length
  run : ∀ (A : Around) (outer : List Env) (s : Shared) (H : Hp) (args : Args) (us : List Value) (vs : List V) (Q : VK) (E : XK), Room k A → Env0 P w K mg base A outer s H → BindsTo s fd args (ps.zip us) → Vals vs us → sp vs H Q E →
    codeAny (model P w) A (.call (.ref f) args) (CR CX outer P w H s Q E) s
theorem FnOk.mono {P : Program} {w : World} {K : PySem.W.Frag} {mg : Str → Option Value} {base : Heap} {CX : CXT} {j k : Nat} {f : Addr} {fd : FuncData} {ps : List Str} {sp : Sp} (F : FnOk P w K mg base CX j f fd ps sp) (h : j ≤ k) :
    FnOk P w K mg base CX k f fd ps sp := ⟨F.len, fun A outer s H args us vs Q E hr => F.run A outer s H args us vs Q E (hr.mono h)⟩
/-- a weaker promise -/
theorem FnOk.imp {P : Program} {w : World} {K : PySem.W.Frag} {mg : Str → Option Value} {base : Heap} {CX : CXT} {k : Nat} {f : Addr} {fd : FuncData} {ps : List Str} {sp sp' : Sp} (F : FnOk P w K mg base CX k f fd ps sp)
    (h : ∀ vs H Q E, sp' vs H Q E → sp vs H Q E) : FnOk P w K mg base CX k f fd ps sp' :=
  ⟨fun vs H Q E q => F.len vs H Q E (h _ _ _ _ q), fun A outer s H args us vs Q E hr he hb hv hs => F.run A outer s H args us vs Q E hr he hb hv (h _ _ _ _ hs)⟩

theorem Env0.make {P : Program} {w : World} {K : PySem.W.Frag} {mg : Str → Option Value} {base : Heap} {A : Around} {outer : List Env} {s : Shared} {H : Hp} (e : Env0 P w K mg base A outer s H) (C : Addr) (us : List Value) (kw : List (Str × Value)) :
    Env0 P w K mg base (A.under (.builtin "type.__call__" ⟨.ref C :: us, kw⟩)) outer s H := ⟨by first | exact e.frames | (simpa [Around.under, Code.envs, Code.isFrame, pushEnvs] using e.frames), e.mod, e.bs, e.bsz, e.funs, e.frf, e.hok, e.bare⟩
theorem Env0.in1 {P : Program} {w : World} {K : PySem.W.Frag} {mg : Str → Option Value} {base : Heap} {A : Around} {outer : List Env} {s : Shared} {H : Hp} (e : Env0 P w K mg base A outer s H) :
    Env0 P w K mg base A.in1 outer s H := ⟨e.frames, e.mod, e.bs, e.bsz, e.funs, e.frf, e.hok, e.bare⟩

section
variable {X : Cx} {pins : List (Addr × Obj)} {σ : St} {H : Hp} {s s' : Shared}
/-- from a body: what a callee wants -/
theorem Inv.env0 (I : Inv X pins σ H s) : Env0 X.prog X.w X.K X.mg X.base X.A X.stack s H :=
  ⟨I.ok.frames, I.ok.mod, I.bs, Nat.le_trans I.ok.bsz I.sz, I.stack, I.stkFree, I.hok, I.bare⟩
/-- behind a call -/
theorem Inv.after {Q : VK} {u : Value} (I : Inv X pins σ H s) (h : CE X.stack X.prog X.w H s Q u s') : EP X pins σ Q u s' := by
  obtain ⟨v, H', os, bare, un, hok, r, q⟩ := h
  obtain ⟨hh, g, d, t, os'⟩ := s'
  obtain rfl : os' = s.os := os
  exact ⟨v, H', I.call (h' := hh) (g' := g) (d' := d) (t' := t) (ch := []) un hok bare (fun b z => absurd z (by simp)), r, q⟩
end

/-! ### calls -/
/-- f(..): the written arguments, then the defaults dvs; E: what is wanted of an exception -/
def tCall (sp : Sp) (dvs : List V) (E : XK) (t : TA) : TE := fun σ H Q => t σ H fun vs H1 => sp (vs ++ dvs) H1 Q E
/-- o.m(..) of an instance of the class at C -/
def tMeth (C : Addr) (m : Str) (sp : Sp) (dvs : List V) (E : XK) (ta : TE) (t : TA) : TE := fun σ H Q => ta σ H fun x H1 => ∃ a dx fs, x = .ref a ∧ H1 a = some (.ins C dx fs) ∧ fs.lookup m = none ∧
  t σ H1 fun vs H2 => sp (x :: (vs ++ dvs)) H2 Q E
/-- C(..): a new instance and its dict, then __init__ -/
def tMake (C : Addr) (sp : Sp) (dvs : List V) (E : XK) (t : TA) : TE := fun σ H Q => t σ H fun vs H1 => ∀ x dx, H1 x = none → H1 dx = none → dx ≠ x →
  sp (.ref x :: (vs ++ dvs)) (upd (upd H1 dx (.own x)) x (.ins C dx [])) (fun v H2 => v = .non ∧ Q (.ref x) H2) E

/-- how the parameters are bound: us the positional arguments, kw the keywords' values by name, ds the defaults that fill up -/
def Binds (K : PySem.W.Frag) (fd : FuncData) (ps : List Str) (ds : List Value) : Prop :=
  ∀ (s : Shared) (us : List Value), K.In s.heap → (us ++ ds).length = ps.length → BindsTo s fd ⟨us, []⟩ (ps.zip (us ++ ds))
/-- every parameter is given -/
theorem Binds.all {K : PySem.W.Frag} {fd : FuncData} {ps : List Str} (h : ∀ us : List Value, us.length = ps.length → bindArgs fd ⟨us, []⟩ = pure (ps.zip us)) : Binds K fd ps [] := fun s us _ hl => by
  rw [List.append_nil] at hl ⊢
  exact .of_eq (h us hl)

/-- an exception of a callee reaches what this body wants of exceptions -/
def Passes (CX : CXT) (X : Cx) (E : XK) : Prop := ∀ (pins : List (Addr × Obj)) (σ : St) (H : Hp) (s : Shared) (e : Value) (s' : Shared), Inv X pins σ H s → CX X.stack H s E e s' → X.xe e s'

section
variable {X : Cx} {CX : CXT} {k : Nat} {f C : Addr} {fd : FuncData} {ps : List Str} {sp : Sp} {dvs : List V} {ds : List Value} {E : XK} {x m : Str} {p pos apos : Pos} {e o : Expr} {es : List Expr} {ta : TE} {t : TA}

/-- the callee runs -/
theorem run_fn {pins : List (Addr × Obj)} {σ : St} {H : Hp} {s : Shared} {Q : VK} {us : List Value} {vs : List V} (F : FnOk X.prog X.w X.K X.mg X.base CX k f fd ps sp) (hr : Room k X.A) (hb : Binds X.K fd ps ds) (hd : Vals dvs ds) (hx : Passes CX X E)
    (I : Inv X pins σ H s) (r : Vals vs us) (h : sp (vs ++ dvs) H Q E) : wpAny (model X.prog X.w) X.A (call (.ref f) us) (EP X pins σ Q) X.xe s := by
  have r2 : Vals (vs ++ dvs) (us ++ ds) := r.append hd
  have hl : (us ++ ds).length = ps.length := by rw [← r2.length]; exact F.len _ _ _ _ h
  refine wpAny_call (codeAny_mono (F.run X.A X.stack s H ⟨us, []⟩ (us ++ ds) (vs ++ dvs) Q E hr I.env0 (hb s us I.kIn hl) r2 h) fun r s' hq => ?_)
  cases r with
  | error e => exact hx pins σ H s e s' I hq
  | ok fl =>
    cases fl with
    | ret u => exact I.after hq
    | next => exact False.elim hq
    | brk => exact False.elim hq
    | cont => exact False.elim hq

theorem pe_call (F : FnOk X.prog X.w X.K X.mg X.base CX k f fd ps sp) (hr : Room k X.A) (hg : Gl X x) (hm : X.mg x = some (.ref f)) (hk : PySem.W.keepIn X.K (.ref f) = true) (hb : Binds X.K fd ps ds) (hd : Vals dvs ds) (hx : Passes CX X E)
    (ha : PA X (e :: es) t) (hdb : (x == ("__debug__" : Str)) = false := by decide) (he : starEach (e :: es) X.env = (false, eval e X.env) :: starEach es X.env := by rfl) (hpl : (backTo pos (starEach es X.env)).any (·.1) = false := by rfl) :
    PE X (.Call (.Name x p) (e :: es) [] pos) (tCall sp dvs E t) := by
  intro pins s σ H Q I h
  refine wpAny_Call_Name_kw (ld_glob I hg hm ?_ hdb)
  refine PySem.W.callWith_K (h₀ := X.base) I.ok.mod.kin hk (thn (ha pos pins s σ H _ I h) fun us s1 ⟨vs, H1, I1, r, q⟩ => ⟨I1.kIn, ?_⟩) he hpl
  exact run_fn F hr hb hd hx I1 r q
/-- o.m(e, ..) -/
theorem pe_meth {pl : Sem Bool} (he : PE X o ta) (c : Cls X.K C) (hm : Meth X.K C m f) (F : FnOk X.prog X.w X.K X.mg X.base CX k f fd ps sp) (hr : Room k X.A) (hb : Binds X.K fd ps ds) (hd : Vals dvs ds) (hx : Passes CX X E) (ha : PA X (e :: es) t)
    (hst : starEach (e :: es) X.env = (false, eval e X.env) :: starEach es X.env := by rfl) (hpl : (backTo pos (starEach es X.env)).any (·.1) = false := by rfl)
    (ht : eval (.Call (.Attribute o m apos) (e :: es) [] pos) X.env = (do
      let ov ← eval o X.env
      standAt apos.atName
      let (f, first) ← holding [ov] (getMethod ov m pl)
      callWith pos f first (backTo pos (starEach (e :: es) X.env)) (backToKw pos (keywordEach [] X.env))) := by rfl) :
    PE X (.Call (.Attribute o m apos) (e :: es) [] pos) (tMeth C m sp dvs E ta t) := by
  intro pins s σ H Q I h
  refine PySem.W.methodCall_KW (pl := pl) (thn (he pins s σ H _ I h) fun u s1 ⟨x, H1, I1, rx, a, dx, fs, ex, ea, l, q⟩ => ?_) ht
  subst ex
  obtain rfl : u = Value.ref a := rx
  refine getmeth_ok I1 ea c hm l ?_
  refine PySem.W.callWith_K (first := [.ref a]) (h₀ := X.base) I.ok.mod.kin hm.kp (thn (ha pos pins s1 σ H1 _ I1 q) fun us s2 ⟨vs, H2, I2, r, q2⟩ => ⟨I2.kIn, ?_⟩) hst hpl
  exact run_fn (us := .ref a :: us) (vs := .ref a :: vs) F hr hb hd hx I2 (.cons rfl r) q2
/-- o.m() -/
theorem pe_meth0 {pl : Sem Bool} (he : PE X o ta) (c : Cls X.K C) (hm : Meth X.K C m f) (F : FnOk X.prog X.w X.K X.mg X.base CX k f fd ps sp) (hr : Room k X.A) (hb : Binds X.K fd ps ds) (hd : Vals dvs ds) (hx : Passes CX X E)
    (ht : eval (.Call (.Attribute o m apos) [] [] pos) X.env = (do
      let ov ← eval o X.env
      standAt apos.atName
      let (f, first) ← holding [ov] (getMethod ov m pl)
      callWith pos f first (backTo pos (starEach [] X.env)) (backToKw pos (keywordEach [] X.env))) := by rfl) :
    PE X (.Call (.Attribute o m apos) [] [] pos) (tMeth C m sp dvs E ta tNil) := by
  intro pins s σ H Q I h
  refine PySem.W.methodCall_KW (pl := pl) (thn (he pins s σ H _ I h) fun u s1 ⟨x, H1, I1, rx, a, dx, fs, ex, ea, l, q⟩ => ?_) ht
  subst ex
  obtain rfl : u = Value.ref a := rx
  refine getmeth_ok I1 ea c hm l ?_
  exact PySem.W.callWith_K0 (first := [.ref a]) I1.kIn hm.kp (run_fn (us := [.ref a]) (vs := [.ref a]) F hr hb hd hx I1 (.cons rfl .nil) q)

/-- what a class must have to be made -/
structure Mk (K : PySem.W.Frag) (C f : Addr) : Prop where
  makes : PySem.W.makesIn K C = true
  init : PySem.W.findIn K (.ref C) "__init__" = some (some (.ref f))
  fn : PySem.W.isFn K (.ref f) = true
  kp : PySem.W.keepIn K (.ref C) = true

theorem run_make {pins : List (Addr × Obj)} {σ : St} {H : Hp} {s : Shared} {Q : VK} {us : List Value} {vs : List V} (M : Mk X.K C f) (F : FnOk X.prog X.w X.K X.mg X.base CX k f fd ps sp) (hr : Room (k + 1) X.A) (hb : Binds X.K fd ps ds) (hd : Vals dvs ds)
    (hx : Passes CX X E) (I : Inv X pins σ H s) (r : Vals vs us)
    (h : ∀ x dx, H x = none → H dx = none → dx ≠ x → sp (.ref x :: (vs ++ dvs)) (upd (upd H dx (.own x)) x (.ins C dx [])) (fun v H2 => v = .non ∧ Q (.ref x) H2) E) :
    wpAny (model X.prog X.w) X.A (call (.ref C) us) (EP X pins σ Q) X.xe s := by
  have hq := h (s.heap.objs.size + 1) s.heap.objs.size (I.hok.fresh (Nat.le_succ _)) (I.hok.fresh (Nat.le_refl _)) (Nat.ne_of_lt (Nat.lt_succ_self _))
  have I2 := Inv.made (C := C) I
  have r2 : Vals (V.ref (s.heap.objs.size + 1) :: (vs ++ dvs)) (Value.ref (s.heap.objs.size + 1) :: (us ++ ds)) := .cons rfl (r.append hd)
  have hl : (Value.ref (s.heap.objs.size + 1) :: us ++ ds).length = ps.length := by
    have e := r2.length
    rw [F.len _ _ _ _ hq] at e
    exact e.symm
  refine wpAny_call (make_map (f := f) I.kIn M.makes M.init (beq_iff_eq.mp M.fn) (codeAny_mono (F.run _ X.stack _ _ ⟨Value.ref (s.heap.objs.size + 1) :: us, []⟩ (Value.ref (s.heap.objs.size + 1) :: (us ++ ds)) _ _ E (hr.make C us [])
    (I2.env0.make C us []) (hb _ (Value.ref (s.heap.objs.size + 1) :: us) I2.kIn hl) r2 hq) fun r s' hq' => ?_))
  cases r with
  | error e => exact hx pins σ _ _ e s' I2 hq'
  | ok fl =>
    cases fl with
    | ret u =>
      obtain ⟨v, H', I3, rv, ev, q3⟩ := I2.after hq'
      subst ev
      exact ⟨rv, ⟨V.ref (s.heap.objs.size + 1), H', I3, rfl, q3⟩⟩
    | next => exact False.elim hq'
    | brk => exact False.elim hq'
    | cont => exact False.elim hq'
theorem pe_make (M : Mk X.K C f) (F : FnOk X.prog X.w X.K X.mg X.base CX k f fd ps sp) (hr : Room (k + 1) X.A) (hg : Gl X x) (hm : X.mg x = some (.ref C)) (hb : Binds X.K fd ps ds) (hd : Vals dvs ds) (hx : Passes CX X E)
    (ha : PA X (e :: es) t) (hdb : (x == ("__debug__" : Str)) = false := by decide) (he : starEach (e :: es) X.env = (false, eval e X.env) :: starEach es X.env := by rfl) (hpl : (backTo pos (starEach es X.env)).any (·.1) = false := by rfl) :
    PE X (.Call (.Name x p) (e :: es) [] pos) (tMake C sp dvs E t) := by
  intro pins s σ H Q I h
  refine wpAny_Call_Name_kw (ld_glob I hg hm ?_ hdb)
  refine PySem.W.callWith_K (h₀ := X.base) I.ok.mod.kin M.kp (thn (ha pos pins s σ H _ I h) fun us s1 ⟨vs, H1, I1, r, q⟩ => ⟨I1.kIn, ?_⟩) he hpl
  exact run_make M F hr hb hd hx I1 r q
end

section
variable {X : Cx} {CX : CXT} {k : Nat} {f C : Addr} {fd : FuncData} {ps ks : List Str} {sp : Sp} {E : XK} {x m : Str} {p pos apos kpos : Pos} {e o : Expr} {es : List Expr} {kws : List Keyword} {te ta : TE} {t tk : TA} {nm : Option Str}
variable {g : List Value → List Value → List Value} {gV : List V → List V → List V}
end

/-! ### a def's body keeps its promise -/
/-- names: the parameters first -/
structure FnScope (N P : List Str) (sc : Scope) : Prop where
  kind : sc.kind = .function
  co : sc.isCoroutine = false
  gen : sc.isGenerator = false
  nd : N.Nodup
  pre : N.take P.length = P
  par : ∀ x ∈ P, sc.names.lookup x = some .local ∨ sc.names.lookup x = some .cell
  nofree : ∀ y ∈ sc.names, y.2 ≠ .free

theorem bindL_out {kindOf : Str → Option NameKind} {x : Str} : ∀ {binds : List (Str × Value)} {m : Str → Option Value}, (∀ v, (x, v) ∉ binds) → bindL kindOf binds m x = m x
  | [], _, _ => rfl
  | (n, v) :: r, m, h => by
    unfold bindL
    rw [bindL_out fun w hw => h w (List.mem_cons_of_mem _ hw)]
    split
    · have : x ≠ n := by rintro rfl; exact h v List.mem_cons_self
      simp [this]
    · rfl
theorem bindC_out {kindOf : Str → Option NameKind} {x : Str} : ∀ {binds : List (Str × Value)} {m : Str → Option Value}, (∀ v, (x, v) ∉ binds) → bindC kindOf binds m x = m x
  | [], _, _ => rfl
  | (n, v) :: r, m, h => by
    unfold bindC
    rw [bindC_out fun w hw => h w (List.mem_cons_of_mem _ hw)]
    split
    · rfl
    · have : x ≠ n := by rintro rfl; exact h v List.mem_cons_self
      simp [this]
theorem bindL_get {kindOf : Str → Option NameKind} {x : Str} {v : Value} : ∀ {P : List Str} {vs : List Value} {i : Nat} {m : Str → Option Value}, P.Nodup → P[i]? = some x → vs[i]? = some v → kindOf x = some .local →
    bindL kindOf (P.zip vs) m x = some v
  | [], _, _, _, _, h, _, _ => by simp at h
  | _ :: _, [], _, _, _, _, h, _ => by simp at h
  | p :: P, w :: vs, 0, m, nd, h1, h2, hk => by
    simp at h1 h2; subst h1; subst h2
    show bindL kindOf ((p, w) :: P.zip vs) m p = _
    unfold bindL
    rw [bindL_out fun v hv => (List.nodup_cons.mp nd).1 (List.of_mem_zip hv).1, if_pos hk]
    simp
  | p :: P, w :: vs, i + 1, m, nd, h1, h2, hk => by
    show bindL kindOf ((p, w) :: P.zip vs) m x = _
    unfold bindL
    exact bindL_get (i := i) (List.nodup_cons.mp nd).2 (by simpa using h1) (by simpa using h2) hk
theorem bindC_get {kindOf : Str → Option NameKind} {x : Str} {v : Value} : ∀ {P : List Str} {vs : List Value} {i : Nat} {m : Str → Option Value}, P.Nodup → P[i]? = some x → vs[i]? = some v → kindOf x ≠ some .local →
    bindC kindOf (P.zip vs) m x = some v
  | [], _, _, _, _, h, _, _ => by simp at h
  | _ :: _, [], _, _, _, _, h, _ => by simp at h
  | p :: P, w :: vs, 0, m, nd, h1, h2, hk => by
    simp at h1 h2; subst h1; subst h2
    show bindC kindOf ((p, w) :: P.zip vs) m p = _
    unfold bindC
    rw [bindC_out fun v hv => (List.nodup_cons.mp nd).1 (List.of_mem_zip hv).1, if_neg hk]
    simp
  | p :: P, w :: vs, i + 1, m, nd, h1, h2, hk => by
    show bindC kindOf ((p, w) :: P.zip vs) m x = _
    unfold bindC
    exact bindC_get (i := i) (List.nodup_cons.mp nd).2 (by simpa using h1) (by simpa using h2) hk

/-- the names' values at the entry -/
def start (N : List Str) (vs : List V) : St := vs.map some ++ List.replicate (N.length - vs.length) none

/-- the context of a def's body, at its entry; an exception leaves the frame, then lies as CX says -/
def cxOf (CX : CXT) (P : Program) (w : World) (K : PySem.W.Frag) (mg : Str → Option Value) (base : Heap) (N : List Str) (qual : Str) (scope : Scope) (f : Addr) (cd : Value) (A : Around) (outer : List Env) (s : Shared) (H : Hp) (E : XK) : Cx where
  prog := P
  w := w
  K := K
  mg := mg
  base := base
  A := A.deeper (envOfC qual scope s.heap.objs.size f cd)
  N := N
  s₀ := s
  H₀ := H
  env := envOfC qual scope s.heap.objs.size f cd
  outer := outer
  stack := envOfC qual scope s.heap.objs.size f cd :: outer
  ex := []
  calm := true
  fn := fun _ => true
  pn := []
  xe := fun e s' => wpAny (model P w) (A.deeper (envOfC qual scope s.heap.objs.size f cd)) (leaving (envOfC qual scope s.heap.objs.size f cd) e) (fun _ s'' => CX outer H s E e s'') (fun e' s'' => CX outer H s E e' s'') s'

theorem cell_has {sc : Scope} {n : Nat} {x : Str} (h : sc.names.lookup x = some .cell) : ∃ c, (cellsFrom n sc.names []).lookup x = some c := by
  have q := PySem.W.cellsFrom_some sc.names n [] (.inl h)
  exact Option.isSome_iff_exists.mp q

theorem inv_start {CX : CXT} {P : Program} {w : World} {K : PySem.W.Frag} {mg : Str → Option Value} {base : Heap} {N ps : List Str} {qual : Str} {scope : Scope} {f : Addr} {cd : Value} {A : Around} {outer : List Env} {s s1 : Shared} {H : Hp} {E : XK} {us : List Value} {vs : List V}
    (S : FnScope N ps scope) (hd : A.handled = none) (e0 : Env0 P w K mg base A outer s H) (hl : vs.length = ps.length) (r : Vals vs us)
    (x : InCallC s s.heap.objs.size (bindL (envOfC qual scope s.heap.objs.size f cd).kindOf (ps.zip us) fun _ => none) (cellsFrom (s.heap.objs.size + 1) scope.names []) (bindC (envOfC qual scope s.heap.objs.size f cd).kindOf (ps.zip us) fun _ => none) s1) :
    Inv (cxOf CX P w K mg base N qual scope f cd A outer s H E) [] (start N vs) H s1 := by
  have hpl : ps.length ≤ N.length := by have := congrArg List.length S.pre; rw [List.length_take] at this; omega
  obtain ⟨h1, tk, rfl, hk⟩ := x.done
  have noA : ∀ b : Addr, b ∉ (cxOf CX P w K mg base N qual scope f cd A outer s H E).ex := fun b z => absurd (show b ∈ ([] : List Addr) from z) (by simp)
  refine ⟨⟨e0.mod, S.kind, rfl, rfl, Nat.le_refl _, fun y z c h1 h2 => ?_, fun y hy => ?_, fun y c _ h => ?_, fun _ => hd, Around.frames_deeper e0.frames, .inr ⟨rfl, rfl⟩, fun b z => absurd z (noA b), e0.bs, e0.bsz, fun b _ _ => noA b, fun b z => absurd z (noA b), e0.funs, e0.frf⟩,
    rfl, e0.bare, Un.kept hk, ⟨_, x.toInCall.ns, fun i y v h1 h2 h3 => ?_⟩, fun y c h => ⟨_, x.cell y c h⟩, e0.hok.fresh (Nat.le_refl _), fun y c h => ?_, fun p hp => absurd (show p ∈ ([] : List (Addr × Obj)) from hp) (by simp), e0.hok.kept hk, ?_⟩
  · exact name_of_addr x.apart (PySem.mem_of_lookup h1) (PySem.mem_of_lookup h2)
  · have hy : scope.names.lookup y = some .cell ∨ scope.names.lookup y = some .free := hy
    rcases hy with hy | hy
    · exact cell_has hy
    · exact absurd rfl (S.nofree _ (PySem.mem_of_lookup hy))
  · exact Nat.le_of_lt (x.above y c (PySem.mem_of_lookup h))
  · have hi : i < vs.length := by
      unfold start at h2
      by_cases hi : i < vs.length
      · exact hi
      · rw [List.getElem?_append_right (by simpa using hi)] at h2
        rw [List.getElem?_replicate] at h2
        split at h2 <;> cases h2
    have ha : vs[i]? = some v := by
      unfold start at h2
      rw [List.getElem?_append_left (by simpa using hi), List.getElem?_map] at h2
      cases e : vs[i]? with
      | none => rw [e] at h2; cases h2
      | some a => rw [e] at h2; cases h2; rfl
    obtain ⟨u, hu, rv⟩ := r.get ha
    have hp : ps[i]? = some y := by
      rw [← S.pre, List.getElem?_take_of_lt (by omega)]; exact h1
    have ndP : ps.Nodup := by rw [← S.pre]; exact S.nd.sublist (List.take_sublist _ _)
    refine ⟨u, rv, ?_⟩
    rcases S.par y (List.mem_of_getElem? hp) with k | k
    · exact .inl ⟨k, bindL_get ndP hp hu k⟩
    · obtain ⟨c, e⟩ := cell_has (n := s.heap.objs.size + 1) k
      refine .inr ⟨.inl k, c, e, ?_⟩
      have q := x.cell y c e
      rw [bindC_get ndP hp hu (by show scope.names.lookup y ≠ _; rw [k]; decide)] at q
      exact q
  · exact e0.hok.fresh (Nat.le_of_lt (x.above y c (PySem.mem_of_lookup h)))
  · unfold start
    show _ = N.length
    rw [List.length_append, List.length_map, List.length_replicate]
    omega

/-- THE RULE: a def (or a method) of the text, by its body. The body's reading t is chosen for each entry; it is run at the parameters' values -/
theorem fn_of {CX : CXT} {P : Program} {w : World} {K : PySem.W.Frag} {mg : Str → Option Value} {base : Heap} {k : Nat} {f : Addr} {name qual : Str} {params : Arguments} {body : List Stmt} {scope : Scope} {dV kV doc pm cdv ct oc : Value} {an od : Option Addr}
    {osl : Array (Option Value)} {N ps : List Str} {sp : Sp} (lk : K.lookup f = some ⟨oc, od, .func (PySem.W.fnOf name qual params body scope dV kV doc pm an cdv ct), osl⟩) (hcd : PySem.W.codeIn K cdv qual = true) (S : FnScope N ps scope)
    (len : ∀ vs H Q E, sp vs H Q E → vs.length = ps.length)
    (hbody : ∀ (A : Around) (outer : List Env) (s : Shared) (H : Hp) (vs : List V) (Q : VK) (E : XK), Room k (A.deeper (envOfC qual scope s.heap.objs.size f cdv)) → sp vs H Q E →
      ∃ t, PSs (cxOf CX P w K mg base N qual scope f cdv A outer s H E) body t ∧ t { nx := fun _ H' => Q .non H', rt := Q } (start N vs) H) :
    FnOk P w K mg base CX (k + 1) f (PySem.W.fnOf name qual params body scope dV kV doc pm an cdv ct) ps sp := by
  refine ⟨len, fun A outer s H args us vs Q E hr e0 hb r hsp => ?_⟩
  have hl := len _ _ _ _ hsp
  have KX : K.In s.heap := e0.mod.kin.keeps fun b o e => (e0.bs b o e).1
  have lim : s.heap.NoLimit := e0.mod.nolimit.keeps fun b o e => (e0.bs b o e).1
  have hkind : ∀ y ∈ ps.zip us, scope.names.lookup y.1 = some .local ∨ (scope.names.lookup y.1 = some .cell ∧ ((cellsFrom (s.heap.objs.size + 1) scope.names []).lookup y.1).isSome = true) := fun ⟨n, v⟩ hy => by
    rcases S.par n (List.of_mem_zip hy).1 with q | q
    · exact .inl q
    · exact .inr ⟨q, PySem.W.cellsFrom_some _ _ _ (.inl q)⟩
  refine codeAny_call_function hr.depth (KX _ _ lk) rfl S.co S.gen rfl (PySem.W.codeRec_of KX hcd) (hb _ _ _ _ ?_)
  refine wpAny_newFunctionEnv_cells S.kind hkind fun env he s1 x => ?_
  subst he
  refine ⟨lim.keeps x.toInCall.keep, codeAny_func ?_⟩
  obtain ⟨t, ht, hq⟩ := hbody A outer s H vs Q E (hr.deeper _) hsp
  have I : Inv (cxOf CX P w K mg base N qual scope f cdv A outer s H E) [] (start N vs) H s1 := inv_start S hr.hd e0 hl r x
  refine wpAny_mono (ht [] s1 (start N vs) H _ I hq) (fun fl s' hs => ?_) fun e s' hs => hs
  have fin : ∀ {σ' : St} {H' : Hp} {v : V} {u : Value}, Inv (cxOf CX P w K mg base N qual scope f cdv A outer s H E) [] σ' H' s' → RelV v u → Q v H' → CE outer P w H s Q u s' :=
    fun {σ' H' v u} J rv q => ⟨v, H', J.os, J.bare, J.base, J.hok, rv, q⟩
  cases fl with
  | ret u =>
    obtain ⟨v, σ', H', J, rv, q⟩ := hs
    exact fin J rv q
  | next =>
    obtain ⟨σ', H', J, q⟩ := hs
    exact fin (v := V.non) (u := Value.none) J rfl q
  | brk =>
    obtain ⟨_, _, _, q⟩ := hs
    exact False.elim q
  | cont =>
    obtain ⟨_, _, _, q⟩ := hs
    exact False.elim q
end L2

namespace L2
open PySem PySem.Spec PyProof.Rows
section
variable {X : Cx} {x : Str} {p pos : Pos} {e : Expr} {es : List Expr} {t : TA} {id T : String} {r : List V → Hp → VK → Prop}

def tCB (r : List V → Hp → VK → Prop) (t : TA) : TE := fun σ H Q => t σ H fun vs H1 => r vs H1 Q
/-- f(e, ..), f a built-in function -/
theorem pe_callB (hc : CallR X (.builtin id) r) (hg : Gl X x) (hm : X.mg x = none) (hv : bootBuiltins x = some (.builtin id)) (ha : PA X (e :: es) t) (hn : x ≠ "__name__" := by decide) (hdb : (x == ("__debug__" : Str)) = false := by decide)
    (he : starEach (e :: es) X.env = (false, eval e X.env) :: starEach es X.env := by rfl) (hpl : (backTo pos (starEach es X.env)).any (·.1) = false := by rfl) : PE X (.Call (.Name x p) (e :: es) [] pos) (tCB r t) := by
  intro pins s σ H Q I h
  refine wpAny_Call_Name_kw (ld_blt I hg hm hv ?_ hn hdb)
  exact PyProof.Rows.callWith_builtin1 (thn (ha pos pins s σ H _ I h) fun us s1 ⟨vs, H1, I1, r1, q1⟩ => hc pins s1 σ H1 vs us Q I1 r1 q1) he hpl
/-- T(e, ..), T a built-in type -/
theorem pe_callTy (hc : CallR X (.type T) r) (hg : Gl X x) (hm : X.mg x = none) (hv : bootBuiltins x = some (.type T)) (ha : PA X (e :: es) t) (hn : x ≠ "__name__" := by decide) (hdb : (x == ("__debug__" : Str)) = false := by decide)
    (he : starEach (e :: es) X.env = (false, eval e X.env) :: starEach es X.env := by rfl) (hpl : (backTo pos (starEach es X.env)).any (·.1) = false := by rfl) : PE X (.Call (.Name x p) (e :: es) [] pos) (tCB r t) := by
  intro pins s σ H Q I h
  refine wpAny_Call_Name_kw (ld_blt I hg hm hv ?_ hn hdb)
  exact PyProof.Rows.callWith_type1 (thn (ha pos pins s σ H _ I h) fun us s1 ⟨vs, H1, I1, r1, q1⟩ => hc pins s1 σ H1 vs us Q I1 r1 q1) he hpl
end
end L2

namespace HT
open PySem PyProof.Rows

section
open PySem.SeqAt
open PySem.AutoSeq1 (wpAny_loadPart')
open PySem.MeetsSeq PySem.MeetsSeq2 PySem.MeetsSeq3

end

section
variable {prog : Program} {w : World} {A : Around} {E : Value → Shared → Prop} {s : Shared}

end
end HT

namespace L2
open PySem PySem.Spec PyProof.Rows

/-! ### the parts of a slice -/
abbrev TO := St → Hp → (Option Int → Hp → Prop) → Prop
theorem intsAre_of {ns : List Int} : ∀ {us : List Value}, Vals (ns.map V.int) us → IntsAre us ns := by
  induction ns with
  | nil => intro us r; rw [List.map_nil] at r; cases r; exact .nil
  | cons n ns ih =>
    intro us r
    rw [List.map_cons] at r
    cases r with
    | cons r1 r2 =>
      obtain ⟨t, e⟩ := r1
      subst e
      exact .cons n t (ih r2)

section
variable {X : Cx} {e : Expr} {te : TE} {lo hi : Option Expr} {tl th : TO} {pos p2 : Pos}

end
end L2

namespace L2
open PySem PySem.Spec PyProof.Rows

/-! ### places -/
/-- the place that an index of any sign means -/
def ixN (n : Nat) (i : Int) : Option Nat := if 0 ≤ i then (if i < n then some i.toNat else none) else if -(n : Int) ≤ i then some (i + n).toNat else none
def atI {α : Type} (xs : List α) (i : Int) : Option α := (ixN xs.length i).bind fun j => xs[j]?
theorem ixN_seq {n : Nat} {i : Int} {j : Nat} (h : ixN n i = some j) : seqIndex? i n = some j ∧ j < n ∧ -(n : Int) ≤ i ∧ i < n := by
  unfold ixN at h
  by_cases h0 : 0 ≤ i
  · rw [if_pos h0] at h
    by_cases h1 : i < n
    · rw [if_pos h1] at h
      have e : i.toNat = j := Option.some.inj h
      exact ⟨by rw [seqIndex_of h0 h1, e], by omega, by omega, h1⟩
    · rw [if_neg h1] at h; cases h
  · rw [if_neg h0] at h
    by_cases h1 : -(n : Int) ≤ i
    · rw [if_pos h1] at h
      have e : (i + n).toNat = j := Option.some.inj h
      exact ⟨by rw [seqIndex_neg (by omega) h1, e], by omega, h1, by omega⟩
    · rw [if_neg h1] at h; cases h
theorem atI_get {α : Type} {xs : List α} {i : Int} {v : α} (h : atI xs i = some v) : ∃ j, seqIndex? i xs.length = some j ∧ xs[j]? = some v ∧ j < xs.length ∧ -(xs.length : Int) ≤ i ∧ i < xs.length := by
  unfold atI at h
  cases e : ixN xs.length i with
  | none => rw [e] at h; cases h
  | some j =>
    rw [e] at h
    obtain ⟨h1, h2, h3, h4⟩ := ixN_seq e
    exact ⟨j, h1, h, h2, h3, h4⟩
theorem atI_nat {α : Type} {xs : List α} {j : Nat} {v : α} (h : xs[j]? = some v) : atI xs (j : Int) = some v := by
  have hj : j < xs.length := (List.getElem?_eq_some_iff.mp h).1
  have e : ixN xs.length (j : Int) = some j := by
    unfold ixN
    rw [if_pos (by omega), if_pos (by omega)]; simp
  unfold atI; rw [e]; exact h
/-! ### what may be subscripted -/
/-- what stands as an index of a plain subscript -/
def PlainIx (b : Expr) : Prop := ∀ o i, subscripted b false o i = operate [o, i] (getItem o i)
/-- a subscript by values -/
def IxR (X : Cx) (r : R2) : Prop :=
  ∀ (value slice : Expr) (pins : List (Addr × Obj)) (s : Shared) (σ : St) (H : Hp) (x y : V) (v u : Value) (Q : VK), Inv X pins σ H s → RelV x v → RelV y u → r x y H Q →
    subscripted slice false v u = operate [v, u] (getItem v u) → wpAny (model X.prog X.w) X.A (subscriptTail value slice v u) (EP X pins σ Q) X.xe s
/-- a call of a builtin's method by values: the receiver, the arguments -/
def MtR (X : Cx) (id : String) (r : V → List V → Hp → VK → Prop) : Prop :=
  ∀ (pins : List (Addr × Obj)) (s : Shared) (σ : St) (H : Hp) (x : V) (xs : List V) (v : Value) (us : List Value) (Q : VK), Inv X pins σ H s → RelV x v → Vals xs us → r x xs H Q →
    wpAny (model X.prog X.w) X.A (call (.builtin id) (v :: us)) (EP X pins σ Q) X.xe s
section
variable {X : Cx} {a b : Expr} {ta tb : TE} {pos : Pos}
/-- a[b] -/
theorem pe_ix {r : R2} (hr : IxR X r) (ha : PE X a ta) (hb : PE X b tb) (hs : PlainIx b) : PE X (.Subscript a b pos) (tOp r ta tb) := by
  intro pins s σ H Q I h
  exact Subscript_ (binT ha hb I h fun v u s2 x y H2 I2 rx ry q => hr a b pins s2 σ H2 x y v u Q I2 rx ry q (hs _ _))

def rIxL (K : PySem.W.Frag) : R2 := fun x y H Q => ∃ p xs i v, x = .ref p ∧ y = .int i ∧ SqL K H p xs ∧ atI xs i = some v ∧ Q v H
def rIxT (K : PySem.W.Frag) : R2 := fun x y H Q => ∃ p xs i v, x = .ref p ∧ y = .int i ∧ SqT K H p xs ∧ atI xs i = some v ∧ Q v H
theorem ix_list : IxR X (rIxL X.K) := by
  intro value slice pins s σ H x y v u Q I rx ry h hs
  obtain ⟨p, xs, i, z, rfl, rfl, hq, he, q⟩ := h
  cases rx
  obtain ⟨t, rfl⟩ := ry
  obtain ⟨its, r, pl, hz⟩ := I.list hq
  obtain ⟨j, h1, h2, h3, h4, h5⟩ := atI_get he
  obtain ⟨w, ew, rw'⟩ := r.get h2
  have hl := r.length
  have hn := line63
  have fin : EP X pins σ Q w s := ⟨z, H, I, rw', q⟩
  by_cases h0 : 0 ≤ i
  · have hj : i.toNat = j := by
      rw [seqIndex_of h0 h5] at h1
      exact Option.some.inj h1
    exact item_listR pl.isList h0 (by omega) (by rw [hj]; simpa using ew) fin hs
  · have hj : (i + (its.toArray.size : Int)).toNat = j := by
      rw [seqIndex_neg (by omega) h4] at h1
      rw [List.size_toArray, ← hl]
      exact Option.some.inj h1
    exact subscriptTail_builtinR (x := w) pl.isList.typeIs slot_list_getitem.lookup
      (wpAny_getItem_list_neg (Q := fun r s' => r = w ∧ EP X pins σ Q r s') pl.isList (by omega) (by rw [List.size_toArray] <;> omega) (by omega) (by rw [hj]; simpa using ew) ⟨rfl, fin⟩) hs
theorem ix_tup : IxR X (rIxT X.K) := by
  intro value slice pins s σ H x y v u Q I rx ry h hs
  obtain ⟨p, xs, i, z, rfl, rfl, hq, he, q⟩ := h
  cases rx
  obtain ⟨t, rfl⟩ := ry
  obtain ⟨its, r, pl, hz⟩ := I.tuple hq
  obtain ⟨j, h1, h2, h3, h4, h5⟩ := atI_get he
  obtain ⟨w, ew, rw'⟩ := r.get h2
  have hl := r.length
  have hn := line63
  have fin : EP X pins σ Q w s := ⟨z, H, I, rw', q⟩
  exact subscriptTail_builtinR (x := w) pl.typeIs slot_tuple_getitem.lookup
    (getItem_tuple (j := j) (Q := fun r s' => r = w ∧ EP X pins σ Q r s') pl (by omega) (by omega) (by rw [List.size_toArray, ← hl]; exact h1) (by simpa using ew) ⟨rfl, fin⟩) hs
/-! ### xs[i] = v, any sign -/
/-- the list's object behind a store -/
theorem mapSeq_set (its : List Value) (n j : Nat) (u : Value) : Obj.mapSeq (·.setIfInBounds j u) { cls := .type "list", data := .seq its.toArray n } = { cls := .type "list", data := .seq (its.set j u).toArray n } := by
  simp [Obj.mapSeq]
theorem Inv.lst {pins : List (Addr × Obj)} {σ : St} {H : Hp} {s : Shared} {p : Addr} {xs : List V} (I : Inv X pins σ H s) (h : H p = some (.lst xs)) :
    ∃ (its : List Value) (n : Nat), Vals xs its ∧ s.heap.get? p = some { cls := .type "list", data := .seq its.toArray n } ∧ xs.length ≤ sizeLine := by
  obtain ⟨z, its, n, r, e⟩ := I.hok p _ h
  exact ⟨its, n, r, e, z⟩
/-- the list at p is written by an update of its object -/
theorem Inv.lstUpd {pins : List (Addr × Obj)} {σ : St} {H : Hp} {s : Shared} {p : Addr} {xs ys : List V} {its its' : List Value} {n n' : Nat} {f : Obj → Obj} (I : Inv X pins σ H s) (h : H p = some (.lst xs))
    (ho : s.heap.get? p = some { cls := .type "list", data := .seq its.toArray n }) (hf : f { cls := .type "list", data := .seq its.toArray n } = { cls := .type "list", data := .seq its'.toArray n' }) (r : Vals ys its') (hz : ys.length ≤ sizeLine) (t : Nat) :
    Inv X pins σ (upd H p (.lst ys)) { s with heap := s.heap.update p f, toks := t } := by
  have e : (s.heap.update p f).get? p = some { cls := .type "list", data := .seq its'.toArray n' } := by
    rw [Heap.get?_update_self f ho (by rw [hf] <;> rfl), hf]
  refine I.write (x := p) (e := p) (by rw [h]; trivial) (.inl rfl) (fun b u hb q => (Heap.get?_update_other _ _ (Ne.symm hb)).trans q) ⟨_, e⟩ ?_
  exact ⟨hz, its', n', r, e⟩
def rSetL : V → V → V → Hp → (Hp → Prop) → Prop := fun o i v H Q => ∃ p xs k j, o = .ref p ∧ i = .int k ∧ H p = some (.lst xs) ∧ ixN xs.length k = some j ∧ Q (upd H p (.lst (xs.set j v)))
theorem set_list : PSet X rSetL := by
  intro pins s σ H o i v ov iv u Q I ro ri rv h
  obtain ⟨p, xs, k, j, rfl, rfl, hp, hj, q⟩ := h
  cases ro
  obtain ⟨t, rfl⟩ := ri
  obtain ⟨its, n, r, ho, hz⟩ := I.lst hp
  obtain ⟨h1, h2, h3, h4⟩ := ixN_seq hj
  have hl := r.length
  have hn := line63
  have I' : Inv X pins σ (upd H p (.lst (xs.set j v))) { s with heap := s.heap.update p (Obj.mapSeq (·.setIfInBounds j u)) } :=
    I.lstUpd hp ho (mapSeq_set its n j u) (r.set rv j) (by rw [List.length_set]; exact hz) s.toks
  by_cases h0 : 0 ≤ k
  · have hk : k.toNat = j := by
      rw [seqIndex_of h0 h4] at h1
      exact Option.some.inj h1
    exact PySem.W.ki_setAt ho h0 (by omega) (by rw [List.size_toArray, ← hl]; exact h4) (by rw [hk]; exact ⟨_, I', q⟩)
  · have hk : (k + (its.toArray.size : Int)).toNat = j := by
      rw [seqIndex_neg (by omega) h3] at h1
      rw [List.size_toArray, ← hl]
      exact Option.some.inj h1
    exact PySem.W.ki_setBack ho (by omega) (by rw [List.size_toArray, ← hl]; exact h3) (by omega) (by rw [hk]; exact ⟨_, I', q⟩)

/-! ### in, not in: flat items -/
def flatV : V → Bool
  | .non => true
  | .bl _ => true
  | .int _ => true
  | .str _ => true
  | _ => false
/-- == of flat values -/
def eqV : V → V → Bool
  | .non, .non => true
  | .bl a, .bl b => a == b
  | .bl a, .int b => (if a then 1 else 0) == b
  | .int a, .bl b => a == (if b then 1 else 0)
  | .int a, .int b => a == b
  | .str a, .str b => a == b
  | _, _ => false
theorem eqAt_V {A : Around} {s : Shared} {y x : V} {u v : Value} (ry : RelV y u) (rx : RelV x v) (fy : flatV y = true) (fx : flatV x = true) : SeqAt.EqAt A s u v (eqV y x) := by
  cases y with
  | non =>
    cases ry
    cases x with
    | non => cases rx; exact SeqAt.EqAt.same _
    | bl b => cases rx; exact SeqAt.EqAt.none_bool b
    | int b => obtain ⟨t, rfl⟩ := rx; exact SeqAt.EqAt.none_int b t
    | str b => obtain ⟨t, rfl⟩ := rx; exact SeqAt.EqAt.none_str b t
    | _ => exact absurd (show false = true from fx) Bool.false_ne_true
  | bl a =>
    cases ry
    cases x with
    | non => cases rx; exact SeqAt.EqAt.bool_none a
    | bl b => cases rx; exact SeqAt.EqAt.bool_bool a b
    | int b => obtain ⟨t, rfl⟩ := rx; exact SeqAt.EqAt.bool_int a b t
    | str b => obtain ⟨t, rfl⟩ := rx; exact SeqAt.EqAt.bool_str a b t
    | _ => exact absurd (show false = true from fx) Bool.false_ne_true
  | int a =>
    obtain ⟨t', rfl⟩ := ry
    cases x with
    | non => cases rx; exact SeqAt.EqAt.int_none a t'
    | bl b => cases rx; exact SeqAt.EqAt.int_bool a t' b
    | int b => obtain ⟨t, rfl⟩ := rx; exact SeqAt.EqAt.int_int a t' b t
    | str b => obtain ⟨t, rfl⟩ := rx; exact SeqAt.EqAt.int_str a t' b t
    | _ => exact absurd (show false = true from fx) Bool.false_ne_true
  | str a =>
    obtain ⟨t', rfl⟩ := ry
    cases x with
    | non => cases rx; exact SeqAt.EqAt.str_none a t'
    | bl b => cases rx; exact SeqAt.EqAt.str_bool a t' b
    | int b => obtain ⟨t, rfl⟩ := rx; exact SeqAt.EqAt.str_int a t' b t
    | str b => obtain ⟨t, rfl⟩ := rx; exact SeqAt.EqAt.str_str a t' b t
    | _ => exact absurd (show false = true from fx) Bool.false_ne_true
  | _ => exact absurd (show false = true from fy) Bool.false_ne_true
/-- the items' answers, read off the values (a value's own answer does not lean on its token) -/
def eqU (x : V) (u : Value) : Bool := match u with
  | .none => eqV .non x
  | .bool b => eqV (.bl b) x
  | .int i _ => eqV (.int i) x
  | .str z _ => eqV (.str z) x
  | _ => false
theorem eqU_of {x y : V} {u : Value} (r : RelV y u) (f : flatV y = true) : eqU x u = eqV y x := by
  cases y with
  | non => cases r; rfl
  | bl b => cases r; rfl
  | int i => obtain ⟨t, rfl⟩ := r; rfl
  | str z => obtain ⟨t, rfl⟩ := r; rfl
  | _ => exact absurd (show false = true from f) Bool.false_ne_true
theorem any_eqU {x : V} : ∀ {xs : List V} {us : List Value}, Vals xs us → xs.all flatV = true → us.any (eqU x) = xs.any fun y => eqV y x
  | _, _, .nil, _ => rfl
  | y :: xs, u :: us, .cons r t, f => by
    rw [List.all_cons, Bool.and_eq_true] at f
    rw [List.any_cons, List.any_cons, eqU_of r f.1, any_eqU t f.2]
theorem mem_eqAt {A : Around} {s : Shared} {x : V} {v : Value} (rx : RelV x v) (fx : flatV x = true) : ∀ {xs : List V} {us : List Value}, Vals xs us → xs.all flatV = true → ∀ u ∈ us, SeqAt.EqAt A s u v (eqU x u)
  | _, _, .nil, _ => fun u hu => by cases hu
  | y :: xs, u :: us, .cons r t, f => fun u' hu => by
    rw [List.all_cons, Bool.and_eq_true] at f
    rcases List.mem_cons.mp hu with rfl | hu
    · rw [eqU_of r f.1]; exact eqAt_V r rx f.1 fx
    · exact mem_eqAt rx fx t f.2 u' hu
def inV (x : V) (xs : List V) : Bool := xs.any fun y => eqV y x
/-- x in a list or tuple of flat items -/
def rIn (K : PySem.W.Frag) (neg : Bool) : R2 := fun x y H Q => ∃ p xs, y = .ref p ∧ (SqL K H p xs ∨ SqT K H p xs) ∧ flatV x = true ∧ xs.all flatV = true ∧ Q (.bl (if neg then !inV x xs else inV x xs)) H
theorem op_in_seq : OpR X (compareOp .In) (rIn X.K false) := by
  intro pins s σ H x y v u Q I rx ry h
  obtain ⟨p, xs, rfl, hq, fx, fs, q⟩ := h
  cases ry
  rcases hq with hq | hq
  · obtain ⟨its, r, pl, hz⟩ := I.list hq
    refine SeqAt.in_listAt (eqU x) pl.isList (fun w hw => mem_eqAt rx fx r fs w (by simpa using hw)) ⟨.bl _, H, I, rfl, ?_⟩
    rw [show its.toArray.any (eqU x) = its.any (eqU x) by simp, any_eqU r fs]
    exact q
  · obtain ⟨its, r, pl, hz⟩ := I.tuple hq
    refine SeqAt.in_tupleAt (eqU x) pl (fun w hw => mem_eqAt rx fx r fs w (by simpa using hw)) ⟨.bl _, H, I, rfl, ?_⟩
    rw [show its.toArray.any (eqU x) = its.any (eqU x) by simp, any_eqU r fs]
    exact q
theorem op_notIn_seq : OpR X (compareOp .NotIn) (rIn X.K true) := by
  intro pins s σ H x y v u Q I rx ry h
  obtain ⟨p, xs, rfl, hq, fx, fs, q⟩ := h
  cases ry
  rcases hq with hq | hq
  · obtain ⟨its, r, pl, hz⟩ := I.list hq
    refine SeqAt.notIn_listAt (eqU x) pl.isList (fun w hw => mem_eqAt rx fx r fs w (by simpa using hw)) ⟨.bl _, H, I, rfl, ?_⟩
    rw [show its.toArray.any (eqU x) = its.any (eqU x) by simp, any_eqU r fs]
    exact q
  · obtain ⟨its, r, pl, hz⟩ := I.tuple hq
    refine SeqAt.notIn_tupleAt (eqU x) pl (fun w hw => mem_eqAt rx fx r fs w (by simpa using hw)) ⟨.bl _, H, I, rfl, ?_⟩
    rw [show its.toArray.any (eqU x) = its.any (eqU x) by simp, any_eqU r fs]
    exact q
/-! ### len, list(x), tuple(x) of any list or tuple that is read -/
theorem call_len_seq : CallR X (.builtin "len") (fun xs H Q => ∃ p ys, xs = [.ref p] ∧ (SqL X.K H p ys ∨ SqT X.K H p ys) ∧ Q (.int ys.length) H) := by
  intro pins s σ H xs us Q I r h
  obtain ⟨p, ys, rfl, hq, q⟩ := h
  obtain ⟨u, rfl, rx⟩ := vals1 r
  cases rx
  have hn := line63
  rcases hq with hq | hq
  · obtain ⟨its, r', pl, hz⟩ := I.list hq
    have hlen := r'.length
    exact Calls.call_len_list pl.isList (by simp only [List.size_toArray] <;> omega) ⟨.int ys.length, H, I.tok _, ⟨s.toks + 1, by rw [List.size_toArray, hlen]⟩, q⟩
  · obtain ⟨its, r', pl, hz⟩ := I.tuple hq
    have hlen := r'.length
    exact len_tuple pl (by simp only [List.size_toArray] <;> omega) ⟨.int ys.length, H, I.tok _, ⟨s.toks + 1, by rw [List.size_toArray, hlen]⟩, q⟩
theorem call_tuple_of : CallR X (.type "tuple") (fun xs H Q => ∃ p ys, xs = [.ref p] ∧ ((SqL X.K H p ys ∧ ∀ l, H l = none → Q (.ref l) (upd H l (.tup ys))) ∨ (SqT X.K H p ys ∧ Q (.ref p) H))) := by
  intro pins s σ H xs us Q I r h
  obtain ⟨p, ys, rfl, h⟩ := h
  obtain ⟨u, rfl, rx⟩ := vals1 r
  cases rx
  rcases h with ⟨hq, q⟩ | ⟨hq, q⟩
  · obtain ⟨its, r', pl, hz⟩ := I.list hq
    have hlen := r'.length
    refine call_tuple_list pl.isList (fun h' kp => ?_) (by simp only [List.size_toArray] <;> omega)
    have I1 : Inv X pins σ H { s with heap := h' } := I.kept (t' := s.toks) kp
    have I2 : Inv X pins σ (upd H h'.objs.size (.tup ys)) { s with heap := h'.push { cls := .type "tuple", data := .seq its.toArray } } :=
      I1.laid (t' := s.toks) (fun b o e => Heap.get?_push_of_some _ e) (Nat.le_refl _) (show ObjOk X.prog X.w _ _ _ (.tup ys) from ⟨hz, its, r', IsTup.new _ _⟩)
    exact ⟨.ref h'.objs.size, _, I2, rfl, q _ (I1.hok.fresh (Nat.le_refl _))⟩
  · obtain ⟨its, r', pl, hz⟩ := I.tuple hq
    exact call_tuple_same pl ⟨.ref p, H, I, rfl, q⟩

/-! ### the call of a builtin's method: o.m(..) -/
/-- the value is of that builtin type -/
def tyV (K : PySem.W.Frag) (T : String) (x : V) (H : Hp) : Prop := match x with
  | .str _ => T = "str"
  | .int _ => T = "int"
  | .ref p => (T = "list" ∧ ∃ xs, SqL K H p xs) ∨ (T = "tuple" ∧ ∃ o, K.lookup p = some o ∧ o.cls = .type "tuple" ∧ o.dict = none) ∨
      (T = "dict" ∧ ((∃ kvs, H p = some (.dK kvs)) ∨ ∃ kvs, H p = some (.dT kvs))) ∨ (T = "set" ∧ ∃ S n, H p = some (.set S n))
  | _ => False
theorem tyV_is {pins : List (Addr × Obj)} {σ : St} {H : Hp} {s : Shared} {T : String} {x : V} {v : Value} (I : Inv X pins σ H s) (r : RelV x v) (ty : tyV X.K T x H) :
    s.TypeIs v T ∧ ∀ a, v = .ref a → ∃ ob, s.heap.get? a = some ob ∧ ob.dict = none := by
  cases x with
  | str z =>
    obtain ⟨t, rfl⟩ := r
    cases (show T = "str" from ty)
    exact ⟨typeIs_str s z t, fun _ e => nomatch e⟩
  | int i =>
    obtain ⟨t, rfl⟩ := r
    cases (show T = "int" from ty)
    exact ⟨typeIs_int s i t, fun _ e => nomatch e⟩
  | ref p =>
    cases r
    rcases ty with ⟨rfl, xs, hq⟩ | ⟨rfl, o, hk, hc, hd⟩ | ⟨rfl, hk⟩ | ⟨rfl, S, n, hk⟩
    · obtain ⟨its, _, pl, _⟩ := I.list hq
      refine ⟨pl.isList.typeIs, fun a e => ?_⟩
      cases e
      obtain ⟨o, n, e, c, hd, _⟩ := pl
      exact ⟨o, e, hd⟩
    · refine ⟨⟨o, I.kIn p o hk, hc⟩, fun a e => ?_⟩
      cases e
      exact ⟨o, I.kIn _ o hk, hd⟩
    · have z : ∃ o, s.heap.get? p = some o ∧ o.ExactDict := by
        rcases hk with ⟨kvs, hk⟩ | ⟨kvs, hk⟩
        · obtain ⟨_, _, _, _, o, _, _, e, ex, _⟩ := I.hok p _ hk
          exact ⟨o, e, ex⟩
        · obtain ⟨_, _, _, _, o, _, _, e, ex, _⟩ := I.hok p _ hk
          exact ⟨o, e, ex⟩
      obtain ⟨o, e, ex⟩ := z
      refine ⟨⟨o, e, ex.1⟩, fun a e2 => ?_⟩
      cases e2
      exact ⟨o, e, ex.2.1⟩
    · obtain ⟨o, _, _, _, e, ex, _⟩ := I.hok p _ hk
      refine ⟨⟨o, e, ex.1⟩, fun a e2 => ?_⟩
      cases e2
      exact ⟨o, e, ex.2.1⟩
  | _ => exact False.elim ty
def tBM (K : PySem.W.Frag) (T : String) (r : V → List V → Hp → VK → Prop) (to : TE) (t : TA) : TE := fun σ H Q => to σ H fun x H1 => tyV K T x H1 ∧ t σ H1 fun xs H2 => r x xs H2 Q
variable {o e : Expr} {es : List Expr} {to : TE} {t : TA} {name : Str} {apos cpos : Pos} {T id : String} {r : V → List V → Hp → VK → Prop}
theorem pe_bm (pa : PlainAttrs T) (slot : Slot T name id) (hty : typeOf (.builtin id) = pure (.type "method_descriptor")) (hm : MtR X id r) (ho : PE X o to) (ha : PA X (e :: es) t)
    (hbase : attributeBase o name X.env (eval o X.env) = eval o X.env := by rfl)
    (hfew : ((backTo cpos (starEach (e :: es) X.env)).all (fun x => !x.1) && (backToKw cpos (keywordEach [] X.env)).all (fun x => x.1.isSome)
      && decide ((e :: es).length + ([] : List Keyword).length + (if ([] : List Keyword).isEmpty then 0 else 1) < 30)) = true := by rfl)
    (hline : (apos.endLine == cpos.line) = true := by rfl) (hs : starEach (e :: es) X.env = (false, eval e X.env) :: starEach es X.env := by rfl) (hplain : (backTo cpos (starEach es X.env)).any (·.1) = false := by rfl) :
    PE X (.Call (.Attribute o name apos) (e :: es) [] cpos) (tBM X.K T r to t) := by
  intro pins s σ H Q I h
  refine wpAny_Call_method_late hbase hfew hline rfl (thn (ho pins s σ H _ I h) fun v s1 ⟨x, H1, I1, r1, ty, q1⟩ => ?_)
  obtain ⟨h1, h2⟩ := tyV_is I1 r1 ty
  refine ⟨T, id, pa, slot, hty, h1, h2, ?_⟩
  have hA := ha cpos pins s1 σ H1 _ I1 q1
  rw [hs] at hA ⊢
  refine Calls.callWith_builtin (by show (false || (backTo cpos (starEach es X.env)).any (·.1)) = false; rw [hplain] <;> rfl) (Calls.evalArgs_plain ?_)
  exact thn hA fun us s2 ⟨vs, H2, I2, r2, q2⟩ => hm pins s2 σ H2 x vs v us Q I2 r1 r2 q2
/- xs.append(e), list.index on a module's tuple .. are MtR facts of 06m -/
end
end L2

namespace L2
open PySem PySem.Spec PyProof.Rows

def MtM (X : Cx) (id : String) (r : V → List V → Hp → VK → Prop) : Prop :=
  ∀ (pins : List (Addr × Obj)) (s : Shared) (σ : St) (H : Hp) (x : V) (xs : List V) (v : Value) (us : List Value) (Q : VK), Inv X pins σ H s → RelV x v → Vals xs us → r x xs H Q →
    wpAny (model X.prog X.w) X.A (call (.builtin id) (v :: us)) (EP X pins σ Q) X.xe s

/-! ### lists of values -/
theorem Vals.one : ∀ {x : V} {us : List Value}, Vals [x] us → ∃ u, us = [u] ∧ RelV x u
  | _, _, .cons r .nil => ⟨_, rfl, r⟩
theorem Vals.two : ∀ {x y : V} {us : List Value}, Vals [x, y] us → ∃ u v, us = [u, v] ∧ RelV x u ∧ RelV y v
  | _, _, _, .cons r (.cons q .nil) => ⟨_, _, rfl, r, q⟩
theorem Vals.zero : ∀ {us : List Value}, Vals [] us → us = []
  | _, .nil => rfl
theorem Vals.reverse {xs : List V} {us : List Value} (h : Vals xs us) : Vals xs.reverse us.reverse := by
  induction h with
  | nil => exact .nil
  | cons r t ih => rw [List.reverse_cons, List.reverse_cons]; exact Vals.append ih (.cons r .nil)
theorem Vals.rep {xs : List V} {us : List Value} (h : Vals xs us) : ∀ k : Nat, Vals (List.replicate k xs).flatten (List.replicate k us).flatten
  | 0 => .nil
  | k + 1 => by
    rw [List.replicate_succ, List.replicate_succ, List.flatten_cons, List.flatten_cons]
    exact Vals.append h (Vals.rep h k)
section
variable {X : Cx} {pins : List (Addr × Obj)} {σ : St} {H : Hp} {s : Shared} {l b : Addr} {xs ys zs : List V}

/-! ### the two steps: a tracked list is rewritten, a new list is laid -/
theorem Inv.lset {its its' : List Value} {n : Nat} {f : Array Value → Array Value} {t' : Nat} (I : Inv X pins σ H s) (hH : H l = some (.lst xs))
    (e : s.heap.get? l = some { cls := .type "list", data := .seq its.toArray n }) (hf : f its.toArray = its'.toArray) (hv : Vals ys its') (hz : ys.length ≤ sizeLine) :
    Inv X pins σ (upd H l (.lst ys)) { s with heap := s.heap.update l (Obj.mapSeq f), toks := t' } := by
  have q := PySem.IsL.update e f
  rw [hf] at q
  refine I.write (x := l) (e := l) (by rw [hH]; exact trivial) (.inl rfl) (fun b' u hb hu => (Heap.get?_update_other s.heap (Obj.mapSeq f) (Ne.symm hb)).trans hu) ⟨_, q⟩ ?_
  exact ⟨hz, its', _, hv, q⟩
theorem Inv.lnew {its : List Value} {t' : Nat} (I : Inv X pins σ H s) (hv : Vals ys its) (hz : ys.length ≤ sizeLine) :
    Inv X pins σ (upd H s.heap.objs.size (.lst ys)) { s with heap := s.heap.push { cls := .type "list", data := .seq its.toArray }, toks := t' } :=
  I.laid (fun _ _ q => Heap.get?_push_of_some _ q) (Nat.le_refl _) ⟨hz, its, 0, hv, Heap.get?_push_size _ rfl⟩
theorem Inv.fresh (I : Inv X pins σ H s) : H s.heap.objs.size = none := I.hok.fresh (Nat.le_refl _)
theorem Inv.lstM (I : Inv X pins σ H s) (hH : H l = some (.lst xs)) : xs.length ≤ sizeLine ∧ ∃ (its : List Value) (n : Nat), Vals xs its ∧ xs.length = its.length ∧ s.heap.get? l = some { cls := .type "list", data := .seq its.toArray n } := by
  obtain ⟨z, its, n, r, e⟩ := I.hok l _ hH
  exact ⟨z, its, n, r, r.length, e⟩

end

section
variable {X : Cx}

/-! ### methods -/
def rAppend : V → List V → Hp → VK → Prop := fun x vs H Q => ∃ l xs y, x = .ref l ∧ vs = [y] ∧ H l = some (.lst xs) ∧ xs.length < sizeLine ∧ Q .non (upd H l (.lst (xs ++ [y])))
theorem mt_append : MtM X "list.append" rAppend := by
  intro pins s σ H x vs v us Q I rx rv h
  obtain ⟨l, xs, y, rfl, rfl, hH, hz, q⟩ := h
  cases rx
  obtain ⟨u, rfl, ru⟩ := rv.one
  obtain ⟨z, its, n, r, hl, e⟩ := I.lstM hH
  refine call_meets F.slot_list_append ⟨_, e, rfl⟩ F.entry_list_append (F.args_list_append_2 _ _) (PySem.list_append l its.toArray n u (by rw [List.size_toArray]; omega)) ⟨e, ?_⟩
  refine ⟨.non, _, I.lset (its' := its ++ [u]) hH e (by simp) (r.append (.cons ru .nil)) ?_, rfl, q⟩
  rw [List.length_append, List.length_singleton]
  omega

/-! ### list + list, list += list, list * int -/
def rCat : R2 := fun x y H Q => ∃ l b xs zs, x = .ref l ∧ y = .ref b ∧ H l = some (.lst xs) ∧ H b = some (.lst zs) ∧ xs.length + zs.length ≤ sizeLine ∧ ∀ p, H p = none → Q (.ref p) (upd H p (.lst (xs ++ zs)))
theorem op_cat : OpR X (binaryOp .Add) rCat := by
  intro pins s σ H x y v u Q I rx ry h
  obtain ⟨l, b, xs, zs, rfl, rfl, hH, hB, hz, q⟩ := h
  cases rx
  cases ry
  obtain ⟨z, its, n, r, hl, e⟩ := I.lstM hH
  obtain ⟨z2, its2, n2, r2, hl2, e2⟩ := I.lstM hB
  refine PySem.P.add_list e e2 ?_ (by rw [List.size_toArray, List.size_toArray]; omega)
  have ea : its.toArray ++ its2.toArray = (its ++ its2).toArray := by simp
  rw [ea]
  exact ⟨.ref _, _, I.lnew (t' := s.toks) (r.append r2) (by rw [List.length_append]; omega), rfl, q _ I.fresh⟩
end

/-! ### xs[a:b] = ys -/
section
variable {prog : Program} {w : World} {A : Around} {E : Value → Shared → Prop} {s : Shared}
set_option maxRecDepth 100000 in
end

section
variable {X : Cx}
end
end L2

namespace Att
open PySem PySem.W PySem.Calls PyProof.Rows

/-! ### the script -/
theorem ints_of_wellAll {P : Params} {h : Heap} : ∀ (ns : List Int) (vs : List Value), WellAll P h vs (ns.map WData.int) → IntsAre vs ns := by
  intro ns
  induction ns with
  | nil =>
    intro vs w
    rw [List.map_nil] at w
    cases w
    exact .nil
  | cons n ns ih =>
    intro vs w
    rw [List.map_cons] at w
    cases w with
    | cons a b =>
      cases a
      exact .cons _ _ (ih _ b)

theorem script_of {l : OpenLaw} {n : Nat} (hn : l.most = some n) {P : Params} {h : Heap} {args : List WData} {vals : List Value}
    (hpre : l.row.toRowW.claim.pre args = true) (hwl : WellAll P h vals args) :
    ∃ a vs ns, vals = [Value.ref a] ∧ args = [WData.list (ns.map WData.int)] ∧ h.get? a = some { cls := .type "list", data := .seq vs.toArray } ∧ IntsAre vs ns ∧ ns.length ≤ n := by
  have hsh : WShape.hasAll [] args [.list .int] = true := (pre_splitW hpre).1
  have hc : l.pre.holds [] { args := args } = true := (pre_splitW hpre).2
  obtain ⟨d, r, rfl, h1, h2⟩ := hasAllW_cons hsh
  obtain rfl := hasAllW_nil h2
  obtain ⟨xs, rfl, h3⟩ := hasW_list h1
  obtain ⟨ns, rfl⟩ := items_int h3
  have hlen : ns.length ≤ n := by
    unfold OpenLaw.pre at hc
    have h4 : (WTm.not (.lt (.lit (.int (n : Int))) (.len (.arg 0)))).holds [] { args := [.list (ns.map .int)] } = true := by
      have h4 := (holds_andW hc).1
      rw [hn] at h4
      exact h4
    have h5 := condW_of h4 (w_not (w_lt w_lit (w_len_list (w_arg rfl))))
    rw [List.length_map] at h5
    refine Nat.le_of_not_lt fun q => ?_
    have q' : (n : Int) < ((ns.length : Nat) : Int) := by omega
    first
      | (rw [decide_eq_true q'] at h5; exact absurd h5 (by decide))
      | (simp at h5; omega)
  cases hwl with
  | cons w1 w2 =>
    cases w2
    cases w1 with
    | list ho hall => exact ⟨_, _, ns, rfl, rfl, ho, ints_of_wellAll ns _ hall, hlen⟩

theorem post_true (l : OpenLaw) (args : List WData) : l.row.toRowW.claim.post args (.bool true) args = true :=
  postW_of (r := l.row.toRowW) (X := (true == true))
    (show WShape.has [] (.bool true) .bool = true by first | rfl | decide | simp [WShape.has, WShape.arms, WShape.armsAll])
    (show (WTm.eq .res (.lit (.bool true))).value [] { args := args, res := some (.bool true), after := args } = some (.bool (true == true)) from w_eq_bool (w_res rfl) w_lit) rfl

/-- the same from a codeAny of the CALL (for a layer whose function contracts speak of calls) -/
theorem attach_call {l : OpenLaw} {n : Nat} {q : Program} {loose : List Str} {XP : (Str → Option Value) → Heap → Prop} {YP : World → Heap → Prop} {d : DefRec}
    (hn : l.most = some n) (hdf : d.params.defaults = [])
    (call : ∀ (w : World) (s₀ s₁ : Shared) (mg mb : Str → Option Value) (fa : Addr) (o : Obj) (pm cd doc : Value) (a : Addr) (vs : List Value) (ns : List Int),
      Ground q loose [] XP w s₀ mg mb s₁.heap → YP w s₁.heap →
      s₁.heap.get? fa = some o → o.data = .func (docDef d.name d.params d.body d.scope pm cd doc) → s₁.heap.CodeRec cd d.name → mg d.name = some (.ref fa) →
      s₁.heap.get? a = some { cls := .type "list", data := .seq vs.toArray } → IntsAre vs ns → ns.length ≤ n → s₁.gens = #[] →
      codeAny (model l.prog w) callerA (.call (.ref fa) ⟨[.ref a], []⟩) (fun r s' => r = .ok (.ret (.bool true)) ∧ OldK s₁.heap s'.heap ∧ s'.os = s₁.os ∧ AllBare s'.gens) s₁) :
    WalkO q loose XP YP l.row.toRowW d [] (fun f vs => PySem.call f vs) := by
  intro w s₀ s₁ mg mb G Y fa o pm cd doc dV kV ho hd hcd hD hmg hg args vals as hpre hlay hrd hwl hlo
  obtain rfl : dV = .none := Dflts.none hD hdf
  obtain rfl : kV = .none := Dflts.noKw hD
  obtain ⟨a, vs, ns, rfl, rfl, hobj, hints, hlen⟩ := script_of hn hpre hwl
  refine enter_call (codeAny_mono (call w s₀ s₁ mg mb fa o pm cd doc a vs ns G Y ho (fd_plain hd) hcd hmg hobj hints hlen hg) fun r s' hq => ?_)
  obtain ⟨rfl, h2, h3, h4⟩ := hq
  exact ⟨.inl ⟨.bool true, .bool true, [], rfl, fun _ => rfl, .bool true, post_true l _, fun _ => ⟨List.Pairwise.nil, fun _ hm => (nomatch hm)⟩⟩, h2, h3, h4⟩

/-! ### rules over ANY heap (no ledger) from facts about the written part K: the library's own take a ledger (News) for what they write -/
section
variable {prog : Program} {w : World} {A : Around} {E : Value → Shared → Prop} {s : Shared} {K : Frag}

/-! the whole heap as the ledger: makes every rule that writes through a ledger a rule over any heap -/
def noObjs (h : Heap) : Heap := { h with objs := #[] }
theorem noObjs_get (h : Heap) (b : Addr) : (noObjs h).get? b = none := by
  cases e : (noObjs h).get? b with
  | none => rfl
  | some o => exact absurd (Heap.lt_size e) (Nat.not_lt_zero _)
theorem fr_all {h : Heap} {L : Addr} {m : Str → Option Value} (n : h.Ns L m) : Fr (noObjs h) L h m :=
  ⟨n, fun b o e => (by rw [noObjs_get] at e; cases e), Nat.zero_le _⟩
end
end Att

namespace L2
open PySem PySem.Spec PyProof.Rows

theorem vals_ints : ∀ {vs : List Value} {ns : List Int}, IntsAre vs ns → Vals (ns.map V.int) vs
  | _, _, .nil => .nil
  | _, _, .cons n t h => .cons ⟨t, rfl⟩ (vals_ints h)

/-- nothing is tracked but the script, known to the object (or it is an object of the module) -/
def Only (H : Hp) : Prop := ∀ b, H b = none ∨ ∃ o xs, H b = some (.frz o (.lst xs))

/-- THE HEAD: the law's promise, at the heap behind the top. F, the promise of the law's def, may use that base is part of the heap (so K.In base, base.Ns mainGlobals mg stand in Mod) -/
theorem law_call {P : Program} {w : World} {K : PySem.W.Frag} {mg mb : Str → Option Value} {CX : CXT} {k : Nat} {fa a : Addr} {fd : FuncData} {x : Str} {sp : Sp} {s₁ : Shared} {vs : List Value} {ns : List Int}
    (KX : K.In s₁.heap) (hns : s₁.heap.Ns mainGlobals mg) (hb : s₁.heap.Ns builtinsNs mb) (hbb : ∀ x : Str, x ≠ "__name__" → mb x = bootBuiltins x) (hlim : s₁.heap.NoLimit) (hg : s₁.gens = #[])
    (ha : s₁.heap.get? a = some { cls := .type "list", data := .seq vs.toArray }) (hi : IntsAre vs ns) (hl : ns.length ≤ sizeLine) (hr : Room k callerA)
    (F : ∀ base : Heap, K.In base → base.Ns mainGlobals mg → FnOk P w K mg base CX k fa fd [x] sp) (hbind : ∀ (s : Shared) (u : Value), BindsTo s fd ⟨[u], []⟩ [(x, u)])
    (hsp : ∀ H : Hp, Only H → SqL K H a (ns.map V.int) → sp [.ref a] H (fun v _ => v = .bl true) fun _ _ _ => False)
    (hCX : ∀ H e s', CX [] H s₁ (fun _ _ _ => False) e s' → False) :
    codeAny (model P w) callerA (.call (.ref fa) ⟨[.ref a], []⟩) (fun r s' => r = .ok (.ret (.bool true)) ∧ OldK s₁.heap s'.heap ∧ s'.os = s₁.os ∧ AllBare s'.gens) s₁ := by
  have rv := vals_ints hi
  have lenV := hi.length
  -- from an abstract heap in which nothing but the script may be tracked
  have core : ∀ H : Hp, Only H → SqL K H a (ns.map V.int) → HOk P w H s₁.heap → (∀ b, H b ≠ none → b = a) → (H a ≠ none → K.lookup a = none) →
      codeAny (model P w) callerA (.call (.ref fa) ⟨[.ref a], []⟩) (fun r s' => r = .ok (.ret (.bool true)) ∧ OldK s₁.heap s'.heap ∧ s'.os = s₁.os ∧ AllBare s'.gens) s₁ := by
    intro H hO hS hok hA hK
    have base_of : ∀ {b : Addr} {o : Obj}, s₁.heap.get? b = some o → H b = none → (hidT s₁.heap H).get? b = some o := fun e n => hidT_get e n
    have noA : ∀ {b : Addr} {o : Obj} {es : Array DictEntry} {ep : Nat}, s₁.heap.get? b = some o → o.data = .dict es ep → H b = none := fun {b o es ep} e d => by
      cases q : H b with
      | none => rfl
      | some u =>
        have e' : b = a := hA b (by rw [q]; simp)
        subst e'
        rw [ha] at e; cases e
        have d' : Data.seq vs.toArray _ = Data.dict es ep := d
        cases d'
    have nsK : ∀ {b : Addr} {m : Str → Option Value}, s₁.heap.Ns b m → (hidT s₁.heap H).Ns b m := fun {b m} ⟨o, es, ep, e, d, r⟩ => ⟨o, es, ep, base_of e (noA e d), d, r⟩
    have hKb : K.In (hidT s₁.heap H) := fun b o e => base_of (KX b o e) (by
      cases q : H b with
      | none => rfl
      | some u =>
        have e' : b = a := hA b (by rw [q]; simp)
        subst e'
        rw [hK (by rw [q]; simp)] at e; cases e)
    have hM : Mod K mg (hidT s₁.heap H) := ⟨hKb, nsK hns, ⟨mb, nsK hb, hbb⟩, let ⟨mc, h1, h2⟩ := hlim; ⟨mc, nsK h1, h2⟩⟩
    have e0 : Env0 P w K mg (hidT s₁.heap H) callerA [] s₁ H := ⟨rfl, hM, fun b o e => of_hidT e, Nat.le_of_eq (hidT_size _ _), trivial, fun b hb => absurd (show b ∈ ([] : List Addr) from hb) (by simp), hok, .of_eq hg⟩
    refine codeAny_mono ((F _ hKb (nsK hns)).run callerA [] s₁ H ⟨[.ref a], []⟩ [.ref a] [.ref a] _ _ hr e0 (hbind s₁ (.ref a)) (.cons rfl .nil) (hsp H hO hS)) fun r s' h => ?_
    cases r with
    | error e => exact (hCX H e s' h).elim
    | ok fl =>
      cases fl with
      | next => exact False.elim h
      | brk => exact False.elim h
      | cont => exact False.elim h
      | ret u =>
        obtain ⟨v, H', os, bare, un, hok', r', q⟩ := h
        have q' : v = .bl true := q
        subst q'
        obtain rfl : u = Value.bool true := r'
        refine ⟨rfl, OldK.of_keep fun b o e => ?_, os, bare⟩
        cases q : H b with
        | none => exact un.keep b o e q (by intro z; exact absurd (show b ∈ ([] : List Addr) from z) (by simp)) (by simp)
        | some u =>
          rcases hO b with z | ⟨ob, xs, z⟩
          · rw [q] at z; cases z
          · have z2 := un.frzs b ob _ z
            obtain ⟨e1, _⟩ := hok b _ z
            obtain ⟨e2, _⟩ := hok' b _ z2
            rw [e] at e1; cases e1
            exact e2
  cases hk : K.lookup a with
  | some o =>
    -- the script is one of the module's own objects
    have e := KX a o hk
    rw [ha] at e
    cases e
    refine core (fun _ => none) (fun _ => .inl rfl) (.inr ⟨_, vs.toArray, _, hk, rfl, rfl, rfl, by rw [List.size_toArray, lenV]; exact hl, by simpa using rv⟩) (fun b u z => by have z' : (none : Option HO) = some u := z; cases z') (fun b z => absurd rfl z) fun z => absurd rfl z
  | none =>
    refine core (fun b => if b = a then some (.frz { cls := .type "list", data := .seq vs.toArray } (.lst (ns.map V.int))) else none) (fun b => ?_) (.inl (.inr ⟨{ cls := .type "list", data := .seq vs.toArray }, if_pos rfl⟩)) (fun b u z => ?_) (fun b z => ?_) fun _ => hk
    · by_cases hb : b = a
      · exact .inr ⟨_, _, if_pos hb⟩
      · exact .inl (if_neg hb)
    · by_cases hb : b = a
      · have z' := (if_pos hb).symm.trans z
        cases z'
        subst hb
        exact ⟨ha, by rw [List.length_map]; exact hl, vs, _, rv, ha⟩
      · have z' := (if_neg hb).symm.trans z
        cases z'
    · by_cases hb : b = a
      · exact hb
      · exact absurd (if_neg hb) z
end L2

namespace L2
open PySem PySem.Spec PyProof.Rows

/-- the goal that k_head leaves (case hc), from the law's promise. F gives the function object fd (K's own) once, then the promise over every base -/
theorem walk_of {l : PySem.W.OpenLaw} {n k : Nat} {q : Program} {loose : List Str} {XP : (Str → Option Value) → Heap → Prop} {YP : World → Heap → Prop} {d : DefRec} {K : Params → PySem.W.Frag} {CX : World → CXT} {sp : World → Sp} {x : Str}
    (hn : l.most = some n) (hn2 : n ≤ sizeLine) (hdf : d.params.defaults = []) (hr : Room k callerA)
    (hY : ∀ (w : World) (h : Heap), YP w h → (K w.params).In h)
    (F : ∀ (w : World) (mg : Str → Option Value) (fa : Addr) (h : Heap), (K w.params).In h → h.Ns mainGlobals mg → mg d.name = some (.ref fa) →
      ∃ fd : FuncData, (∀ (s : Shared) (u : Value), BindsTo s fd ⟨[u], []⟩ [(x, u)]) ∧
        ∀ base : Heap, (K w.params).In base → base.Ns mainGlobals mg → FnOk l.prog w (K w.params) mg base (CX w) k fa fd [x] (sp w))
    (hsp : ∀ (w : World) (H : Hp) (a : Addr) (ns : List Int), ns.length ≤ n → Only H → SqL (K w.params) H a (ns.map V.int) → sp w [.ref a] H (fun v _ => v = .bl true) fun _ _ _ => False)
    (hCX : ∀ (w : World) (H : Hp) (s : Shared) (e : Value) (s' : Shared), CX w [] H s (fun _ _ _ => False) e s' → False) :
    PySem.W.WalkO q loose XP YP l.row.toRowW d [] (fun f vs => PySem.call f vs) := by
  refine Att.attach_call hn hdf fun w s₀ s₁ mg mb fa o pm cd doc a vs ns G Y ho hd hcd hmg hobj hints hlen hg => ?_
  have KX := hY w _ Y
  obtain ⟨fd, hb, hF⟩ := F w mg fa _ KX G.T.g hmg
  exact law_call KX G.T.g G.T.b G.T.builtins G.T.nolimit hg hobj hints (Nat.le_trans hlen hn2) hr hF hb (fun H hO hS => hsp w H a ns hlen hO hS) fun H e s' => hCX w H s₁ e s'
end L2



/-! SHORT WORDS over the layer: a def of the text, its body, what a loop and a test want. -/
namespace L2
open PySem PySem.Spec PyProof.Rows

/-! ### the text by places -/
/-- the j-th statement of a class's body -/
def inClass (s : Stmt) (j : Nat) : Stmt := match s with
  | .ClassDef _ _ _ body _ _ _ _ _ _ _ => body.getD j (.Pass ⟨0, 0, 0, 0⟩)
  | _ => .Pass ⟨0, 0, 0, 0⟩
def defArgs (s : Stmt) : Arguments := match s with
  | .FunctionDef _ a _ _ _ _ _ _ _ _ => a
  | _ => { posonlyargs := [], args := [], vararg := none, kwonlyargs := [], kw_defaults := [], kwarg := none, defaults := [] }
def defBody (s : Stmt) : List Stmt := match s with
  | .FunctionDef _ _ b _ _ _ _ _ _ _ => b
  | _ => []
def defScope (s : Stmt) : Scope := match s with
  | .FunctionDef _ _ _ _ _ _ sc _ _ _ => sc
  | _ => { kind := .function, names := [], isGenerator := false, isCoroutine := false }

/-! ### no exception leaves a def -/
abbrev CX0 : CXT := fun _ _ _ _ _ _ => False
abbrev E0 : XK := fun _ _ _ => False
theorem pass0 {X : Cx} : Passes CX0 X E0 := fun _ _ _ _ _ _ _ h => h.elim

/-! ### a def (or method) of the text as it stands behind the top -/
structure Fun (K : PySem.W.Frag) (x qual : Str) (st : Stmt) (f : Addr) (fd : FuncData) : Prop where
  ex : ∃ (oc : Value) (od : Option Addr) (kV doc pm : Value) (an : Option Addr) (cdv ct : Value) (osl : Array (Option Value)),
    fd = PySem.W.fnOf x qual (defArgs st) (defBody st) (defScope st) .none kV doc pm an cdv ct ∧ K.lookup f = some ⟨oc, od, .func fd, osl⟩ ∧ PySem.W.codeIn K cdv qual = true
  kp : PySem.W.keepIn K (.ref f) = true
section
variable {P : Program} {w : World} {K : PySem.W.Frag} {mg : Str → Option Value} {base : Heap}
/-- THE RULE for a def: its body as a term of rules, and the reading of that term -/
theorem Fun.ok {x qual : Str} {st : Stmt} {f : Addr} {fd : FuncData} {N ps : List Str} {k : Nat} {sp : Sp} (F : Fun K x qual st f fd) (S : FnScope N ps (defScope st)) (len : ∀ vs H Q E, sp vs H Q E → vs.length = ps.length)
    (hbody : ∀ (cdv : Value) (A : Around) (outer : List Env) (s : Shared) (H : Hp) (vs : List V) (Q : VK) (E : XK), Room k (A.deeper (envOfC qual (defScope st) s.heap.objs.size f cdv)) → sp vs H Q E →
      ∃ t, PSs (cxOf CX0 P w K mg base N qual (defScope st) f cdv A outer s H E).nox (defBody st) t ∧ t { nx := fun _ H' => Q .non H', rt := Q } (start N vs) H) : FnOk P w K mg base CX0 (k + 1) f fd ps sp := by
  obtain ⟨oc, od, kV, doc, pm, an, cdv, ct, osl, rfl, lk, hcd⟩ := F.ex
  refine fn_of lk hcd S len fun A outer s H vs Q E hr hsp => ?_
  obtain ⟨t, h, q⟩ := hbody cdv A outer s H vs Q E hr hsp
  exact ⟨t, h.nox, q⟩
/-- how its arguments bind (no defaults): h is «fun _ _ _ _ _ _ us hl => match us, hl with | [_, _], _ => rfl», one _ a parameter -/
theorem Fun.binds {x qual : Str} {st : Stmt} {f : Addr} {fd : FuncData} {ps : List Str} (F : Fun K x qual st f fd)
    (h : ∀ (kV doc pm : Value) (an : Option Addr) (cdv ct : Value) (us : List Value), us.length = ps.length → bindArgs (PySem.W.fnOf x qual (defArgs st) (defBody st) (defScope st) .none kV doc pm an cdv ct) ⟨us, []⟩ = pure (ps.zip us)) : Binds K fd ps [] := by
  obtain ⟨oc, od, kV, doc, pm, an, cdv, ct, osl, rfl, lk, hcd⟩ := F.ex
  exact .all (h kV doc pm an cdv ct)
theorem fun_mk {x qual : Str} {st : Stmt} {f : Addr} {oc : Value} {od an : Option Addr} {osl : Array (Option Value)} {kV doc pm cdv ct : Value} (l : K.lookup f = some ⟨oc, od, .func (PySem.W.fnOf x qual (defArgs st) (defBody st) (defScope st) .none kV doc pm an cdv ct), osl⟩)
    (c : PySem.W.codeIn K cdv qual = true) (k : PySem.W.keepIn K (.ref f) = true) : Fun K x qual st f (PySem.W.fnOf x qual (defArgs st) (defBody st) (defScope st) .none kV doc pm an cdv ct) := ⟨⟨oc, od, kV, doc, pm, an, cdv, ct, osl, rfl, l, c⟩, k⟩
end
theorem hu_of {A : Around} {k : Nat} (hr : Room k A) : A.units + 1 < cLine := Nat.lt_of_le_of_lt (Nat.add_le_add_left (by decide : 1 ≤ 64) _) hr.units
theorem small1000 {n : Nat} (h : n ≤ 1000) : n < sizeLine := Nat.lt_of_le_of_lt h (by decide)

/-! ### expressions in short: the name that stands in the i-th slot -/
section
variable {X : Cx}
theorem pv (i : Nat) {x : Str} {pos : Pos} (hN : X.N[i]? = some x := by rfl) (hv : Vis X.env.scope x := by first | exact Or.inl rfl | exact Or.inr (Or.inl rfl) | exact Or.inr (Or.inr rfl)) (hd : (x == ("__debug__" : Str)) = false := by decide)
    (hcd : (x == ("__classdict__" : Str)) = false := by decide) : PE X (.Name x pos) (tVar i) := pe_var hN hv hd hcd
end

/-! ### tests -/
theorem iteF {A B : Prop} (h : B) : if false = true then A else B := by
  rw [if_neg Bool.false_ne_true]
  exact h
theorem iteT {A B : Prop} (h : A) : if true = true then A else B := by
  rw [if_pos rfl]
  exact h
theorem ite2 {c A B : Prop} [Decidable c] (h1 : c → A) (h2 : ¬ c → B) : if c then A else B := by
  by_cases h : c
  · rw [if_pos h]
    exact h1 h
  · rw [if_neg h]
    exact h2 h
/-! ### heaps -/
/-- all that was tracked is as it was -/
def Same (H H' : Hp) : Prop := ∀ b o, H b = some o → H' b = some o
theorem Same.refl (H : Hp) : Same H H := fun _ _ h => h
theorem Same.trans {H H1 H2 : Hp} (a : Same H H1) (b : Same H1 H2) : Same H H2 := fun c o h => b c o (a c o h)
theorem Same.free {H H' : Hp} (e : Same H H') {l : Addr} (h : H' l = Option.none) : H l = Option.none := by
  cases q : H l with
  | none => rfl
  | some o =>
    rw [e l o q] at h
    cases h
theorem Same.seq {K : PySem.W.Frag} {H H' : Hp} {a : Addr} {xs : List V} (e : Same H H') (h : SqL K H a xs) : SqL K H' a xs := by
  rcases h with (h | ⟨o, h⟩) | h
  · exact .inl (.inl (e _ _ h))
  · exact .inl (.inr ⟨o, e _ _ h⟩)
  · exact .inr h

end L2

set_option Elab.async false
set_option linter.all false
set_option maxRecDepth 100000
set_option maxHeartbeats 4000000

/-! ### list comprehensions, over the layer -/
namespace L2
open PySem PySem.Spec PyProof.Rows

/-- the cells that a block takes from the frame around it -/
def clOf (env : Env) : List (Str × NameKind) → List (Str × Addr) → List (Str × Addr)
  | [], cs => cs
  | (n, k) :: r, cs => clOf env r (if (k == .free) = true then (match env.cells.lookup n with | some c => (n, c) :: cs | none => cs) else cs)

theorem clOf_run {env : Env} : ∀ (names : List (Str × NameKind)) (cs : List (Str × Addr)), (∀ p ∈ names, p.2 = .free → ∃ c, env.cells.lookup p.1 = some c) →
    (forIn names cs fun (p : Str × NameKind) (r : List (Str × Addr)) => (if (p.2 == .free) = true then do
        let c ← cellOf env p.1
        pure (ForInStep.yield ((p.1, c) :: r))
      else pure (ForInStep.yield r) : Sem (ForInStep (List (Str × Addr))))) = pure (clOf env names cs)
  | [], cs, _ => rfl
  | (n, k) :: rest, cs, h => by
    have ih := fun cs' => clOf_run rest cs' fun p hp => h p (List.mem_cons_of_mem _ hp)
    rw [List.forIn_cons]
    cases hk : (k == NameKind.free) with
    | true =>
      obtain ⟨c, hc⟩ := h (n, k) List.mem_cons_self (eq_of_beq hk)
      have e1 : cellOf env n = pure c := by unfold cellOf; rw [hc]
      have e2 : clOf env ((n, k) :: rest) cs = clOf env rest ((n, c) :: cs) := by simp only [clOf, hk, if_true, hc]
      rw [e2, ← ih]
      simp only [hk, if_true, e1, pure_bind]
    | false =>
      have e2 : clOf env ((n, k) :: rest) cs = clOf env rest cs := by simp only [clOf, hk, Bool.false_eq_true, if_false]
      rw [e2, ← ih]
      simp only [hk, Bool.false_eq_true, if_false, pure_bind]
theorem closure_is {env : Env} {scope : Scope} (h : ∀ p ∈ scope.names, p.2 = .free → ∃ c, env.cells.lookup p.1 = some c) : closureFor scope env = pure (clOf env scope.names []) := by
  have e := clOf_run (env := env) scope.names [] h
  unfold closureFor
  simp only [bind_pure]
  exact e
theorem clOf_sub {env : Env} : ∀ (names : List (Str × NameKind)) (cs : List (Str × Addr)), (∀ x c, cs.lookup x = some c → env.cells.lookup x = some c) →
    ∀ x c, (clOf env names cs).lookup x = some c → env.cells.lookup x = some c
  | [], cs, h, x, c, e => h x c e
  | (n, k) :: rest, cs, h, x, c, e => by
    refine clOf_sub rest _ (fun y d z => ?_) x c e
    split at z
    · split at z
      · rename_i c' hc'
        rw [List.lookup_cons] at z
        cases q : y == n with
        | true => rw [q] at z; cases z; rw [eq_of_beq q]; exact hc'
        | false => rw [q] at z; exact h y d z
      · exact h y d z
    · exact h y d z
theorem clOf_has {env : Env} : ∀ (names : List (Str × NameKind)) (cs : List (Str × Addr)) (x : Str), ((cs.lookup x).isSome = true ∨ ((x, NameKind.free) ∈ names ∧ ∃ c, env.cells.lookup x = some c)) →
    ∃ c, (clOf env names cs).lookup x = some c
  | [], cs, x, h => by
    rcases h with h | ⟨h, _⟩
    · exact Option.isSome_iff_exists.mp h
    · cases h
  | (n, k) :: rest, cs, x, h => by
    refine clOf_has rest _ x ?_
    have grow : (cs.lookup x).isSome = true → (List.lookup x (if (k == .free) = true then (match env.cells.lookup n with | some c => (n, c) :: cs | none => cs) else cs)).isSome = true := fun z => by
      split
      · split
        · rw [List.lookup_cons]
          cases x == n with
          | true => rfl
          | false => exact z
        · exact z
      · exact z
    rcases h with h | ⟨h, c, hc⟩
    · exact .inl (grow h)
    · rcases List.mem_cons.mp h with z | z
      · cases z
        refine .inl ?_
        simp [hc, List.lookup_cons]
      · exact .inr ⟨z, c, hc⟩

def relK (env : Env) (n : Str) (k : NameKind) : NameKind := if (k == .free && env.scope.kind == .function && env.kindOf n == some .cell) = true then .cell else k
theorem lookup_rel (env : Env) : ∀ (l : List (Str × NameKind)) (x : Str),
    (l.map fun (n, k) => if (k == NameKind.free && env.scope.kind == .function && env.kindOf n == some .cell) then (n, NameKind.cell) else (n, k)).lookup x = (l.lookup x).map (relK env x)
  | [], _ => rfl
  | (n, k) :: r, x => by
    have ih := lookup_rel env r x
    have e : (if (k == NameKind.free && env.scope.kind == .function && env.kindOf n == some .cell) = true then (n, NameKind.cell) else (n, k)) = (n, relK env n k) := by
      unfold relK; split <;> rfl
    rw [List.map_cons]
    show List.lookup x ((if (k == NameKind.free && env.scope.kind == .function && env.kindOf n == some .cell) = true then (n, NameKind.cell) else (n, k)) :: _) = _
    rw [e, List.lookup_cons, List.lookup_cons]
    cases q : x == n with
    | true => rw [eq_of_beq q]; rfl
    | false => exact ih
theorem relK_vis {env : Env} {n : Str} {k : NameKind} (h : relK env n k = .cell ∨ relK env n k = .free) : k = .cell ∨ k = .free := by
  unfold relK at h
  split at h
  · rename_i q
    simp only [Bool.and_eq_true] at q
    exact .inr (eq_of_beq q.1.1)
  · exact h

/-- one turn after another; nothing is raised -/
theorem comp_loop {prog : Program} {w : World} {A : Around} {R : Result → Shared → Prop} {s : Shared} {elt target iter : Expr} {ifs : List Expr} {scope : Scope} {pos : Pos} {it acc : Value} {env : Env} (J : Nat → Shared → Prop)
    (turn : ∀ n s, J n s → wpAny (model prog w) A (pyNext it) (fun r s1 => match r with
      | none => R (.ok .next) s1
      | some v => wpAny (model prog w) A (letOwnedTupleGo target it v) (fun _ s2 => wpAny (model prog w) A (assign target env v) (fun _ s3 =>
          wpAny (model prog w) A (forIn ifs true fun c r => if r = true then do let ok ← isTrue c env (eval c env); pure (ForInStep.yield ok) else pure (ForInStep.yield r)) (fun ok s4 =>
            if ok = true then wpAny (model prog w) A (eval elt env) (fun x s5 => wpAny (model prog w) A (call (.builtin "list.append") [acc, x]) (fun _ s6 => ∃ m, m < n ∧ J m s6) (fun _ _ => False) s5) (fun _ _ => False) s4
            else ∃ m, m < n ∧ J m s4) (fun _ _ => False) s3) (fun _ _ => False) s2) (fun _ _ => False) s1) (fun _ _ => False) s)
    (n : Nat) (h : J n s) : codeAny (model prog w) A (.compLoop (.ListComp elt [⟨target, iter, ifs, 0⟩] scope pos) 0 it acc env) R s := by
  refine codeAny_loop rfl J (fun k s' hk => ?_) n h
  show wpAny _ A (Sem.onRaise (compTurn (.ListComp elt [⟨target, iter, ifs, 0⟩] scope pos) 0 it acc env) (fun x => do noteFrame x env; theTreesLotGoes x)) _ _ s'
  refine wpAny_noted ?_
  rw [compTurn_list]
  refine wpAny_bind (wpAny_standAt (wpAny_bind (wpAny_mono (turn k s' hk) (fun r s1 q1 => ?_) fun _ _ f => f.elim)))
  cases r with
  | none => exact wpAny_pure q1
  | some v =>
    refine wpAny_bind (wpAny_mono q1 (fun _ s2 q2 => wpAny_bind (wpAny_mono q2 (fun _ s3 q3 => wpAny_bind (wpAny_mono q3 (fun ok s4 q4 => ?_) fun _ _ f => f.elim)) fun _ _ f => f.elim)) fun _ _ f => f.elim)
    cases ok with
    | false => exact wpAny_pure ⟨rfl, q4⟩
    | true => exact wpAny_bind (wpAny_bind (wpAny_mono q4 (fun x s5 q5 => wpAny_bind (wpAny_mono q5 (fun _ s6 q6 => wpAny_pure (wpAny_pure ⟨rfl, q6⟩)) fun _ _ f => f.elim)) fun _ _ f => f.elim))

/-- the context of a comprehension's block -/
def cxC (X : Cx) (N' : List Str) (scope : Scope) (s3 : Shared) (H3 : Hp) (fp : List Addr) (pn : List (Addr × Obj)) : Cx where
  prog := X.prog
  w := X.w
  K := X.K
  mg := X.mg
  base := X.base
  A := X.A
  N := N'
  s₀ := s3
  H₀ := H3
  env := compEnvC scope (clOf X.env scope.names []) s3.heap.objs.size X.env
  outer := X.stack
  stack := X.stack
  ex := fp
  fn := fun _ => false
  calm := X.calm
  pn := pn
  xe := fun _ _ => False
/-- what is fixed of a comprehension's names: N' its own and those it takes from around; src: where these lie there -/
structure CScope (X : Cx) (N' : List Str) (src : List (Option Nat)) (sc : Scope) : Prop where
  kind : sc.kind = .function
  nocell : ∀ y ∈ sc.names, y.2 ≠ .cell
  loc : ∀ y ∈ sc.names, y.2 = .local → sc.names.lookup y.1 = some .local
  fv : ∀ y ∈ sc.names, y.2 = .free → X.env.kindOf y.1 = some .cell ∨ X.env.kindOf y.1 = some .free
  len : src.length = N'.length
  src : ∀ (i : Nat) (x : Str) (j : Nat), N'[i]? = some x → src[i]? = some (some j) → X.N[j]? = some x ∧ sc.names.lookup x = some .free
def srcSt (src : List (Option Nat)) (σ : St) : St := src.map fun o => match o with | none => none | some j => (σ[j]?).join

/-- the tests of a clause -/
def PF (X : Cx) (ifs : List Expr) (t : TT) : Prop :=
  ∀ (pins : List (Addr × Obj)) (s : Shared) (σ : St) (H : Hp) (Q : Bool → Hp → Prop), Inv X pins σ H s → t σ H Q →
    wpAny (model X.prog X.w) X.A (forIn ifs true fun c r => if r = true then do let ok ← isTrue c X.env (eval c X.env); pure (ForInStep.yield ok) else pure (ForInStep.yield r)) (TP X pins σ Q) X.xe s
theorem pf_nil {X : Cx} : PF X [] (fun _ H Q => Q true H) := fun _ _ _ H _ I h => wpAny_tests_nil ⟨H, I, h⟩
theorem pf_one {X : Cx} {c : Expr} {t : TT} (hc : PT X c t) : PF X [c] t := fun pins s σ H Q I h => wpAny_tests_one (hc pins s σ H Q I h)

theorem Un.ahead {fs ex : List Addr} {H H' : Hp} {h h1 h' : Heap} (u : Un fs ex H H' h h1) (k : ∀ b o, b < h.objs.size → h1.get? b = some o → h'.get? b = some o) : Un fs ex H H' h h' where
  keep := fun b o e n hb hx => k b o (Heap.lt_size e) (u.keep b o e n hb hx)
  slot := fun b o e n hb hx => by
    obtain ⟨sl, q⟩ := u.slot b o e n hb hx
    exact ⟨sl, k b _ (Heap.lt_size e) q⟩
  free := u.free
  there := fun b o e hx => by
    obtain ⟨o', q⟩ := u.there b o e hx
    exact ⟨o', k b _ (Heap.lt_size e) q⟩
  tups := u.tups
  frzs := u.frzs
  tbls := u.tbls

section
variable {X : Cx} {N' : List Str} {src : List (Option Nat)} {sc : Scope} {pins : List (Addr × Obj)} {σ : St} {H : Hp} {s3 : Shared} {fp : List Addr} {h1 : Heap} {tk : Nat}
/-- the block begins -/
theorem cx_start (S : CScope X N' src sc) (I : Inv X pins σ H s3) (hf : ∀ b ∈ fp, FpOk X pins H b) (ht : ∀ b ∈ fp, b < s3.heap.objs.size)
    (ns : h1.Ns s3.heap.objs.size fun _ => none) (kp : ∀ b o, s3.heap.get? b = some o → h1.get? b = some o) :
    Inv (cxC X N' sc s3 H fp (X.pn ++ pins)) [] (srcSt src σ) H { s3 with heap := h1, toks := tk } := by
  have hcl : ∀ x c, (clOf X.env sc.names []).lookup x = some c → X.env.cells.lookup x = some c := clOf_sub sc.names [] fun x c e => by cases e
  have old : ∀ x c, (clOf X.env sc.names []).lookup x = some c → ∃ o, s3.heap.get? c = some o := fun x c e => by
    obtain ⟨v, o, ho, _⟩ := I.cell x c (hcl x c e)
    exact ⟨o, ho⟩
  have fvh : ∀ x, (x, NameKind.free) ∈ sc.names → ∃ c, X.env.cells.lookup x = some c := fun x hx => I.ok.has x (S.fv _ hx rfl)
  have stkL : ∀ b, b ≠ X.env.locals → b ∉ X.fs → b ∉ frs X.stack := fun b h1 h2 hb => (List.mem_cons.mp (I.stkSub b hb)).elim h1 h2
  have kindOf_eq : ∀ x, (compEnvC sc (clOf X.env sc.names []) s3.heap.objs.size X.env).kindOf x = (sc.names.lookup x).map (relK X.env x) := fun x => lookup_rel X.env sc.names x
  refine ⟨⟨I.ok.mod, S.kind, I.ok.glob, I.ok.blt, Nat.le_refl _, fun x y c e1 e2 => I.ok.inj x y c (hcl x c e1) (hcl y c e2), fun x hx => ?_, fun x c hf => absurd hf Bool.false_ne_true, I.ok.hd, I.ok.frames, .inl rfl, fun b hb => ?_, I.bs, Nat.le_trans I.ok.bsz I.sz,
    fun b o e hb => ?_, fun b hb => ?_, I.stack, I.stkFree⟩, rfl, I.bare, Un.kept kp, ⟨_, ns, fun i x v e1 e2 e3 => ?_⟩, fun x c e => ?_, I.hok.fresh (Nat.le_refl _), fun x c e => I.freeC x c (hcl x c e), fun p hp => ?_, I.hok.kept kp, ?_⟩
  · -- has
    have hx' : (sc.names.lookup x).map (relK X.env x) = some .cell ∨ (sc.names.lookup x).map (relK X.env x) = some .free := by
      rw [← kindOf_eq x]; exact hx
    cases q : sc.names.lookup x with
    | none => rw [q] at hx'; rcases hx' with z | z <;> cases z
    | some k =>
      rw [q] at hx'
      have hk : k = .cell ∨ k = .free := relK_vis (env := X.env) (n := x) (hx'.imp (fun z => Option.some.inj z) fun z => Option.some.inj z)
      have hm := PySem.mem_of_lookup q
      rcases hk with rfl | rfl
      · exact absurd rfl (S.nocell _ hm)
      · exact clOf_has sc.names [] x (.inr ⟨hm, fvh x hm⟩)
  · -- exf
    obtain ⟨f0, f1, f2, f3, f4, f5⟩ := hf b hb
    exact ⟨Nat.ne_of_lt (ht b hb), fun x c e => f4 x c (hcl x c e)⟩
  · -- noex
    obtain ⟨f0, f1, f2, f3, f4, f5⟩ := hf b hb
    rcases f3 with z | z
    · exact I.ok.noex b o e z
    · exact absurd (Nat.lt_of_lt_of_le (Heap.lt_size e) (Nat.le_trans I.ok.bsz z)) (Nat.lt_irrefl _)
  · -- exfs
    obtain ⟨f0, f1, f2, f3, f4, f5⟩ := hf b hb
    exact stkL b f1 f2
  · -- loc
    have e2' : (srcSt src σ)[i]? = some (some v) := e2
    unfold srcSt at e2'
    rw [List.getElem?_map] at e2'
    cases q : src[i]? with
    | none => rw [q] at e2'; cases e2'
    | some oj =>
      rw [q] at e2'
      cases oj with
      | none => cases e2'
      | some j =>
        have e4 : (σ[j]?).join = some v := Option.some.inj e2'
        have e5 : σ[j]? = some (some v) := by
          cases r : σ[j]? with
          | none => rw [r] at e4; cases e4
          | some z => rw [r] at e4; cases z with
            | none => cases e4
            | some y => cases e4; rfl
        obtain ⟨hN, hfr⟩ := S.src i x j e1 q
        have hm := PySem.mem_of_lookup hfr
        have kx := S.fv _ hm rfl
        obtain ⟨m, hn, hl⟩ := I.loc
        obtain ⟨u, r, l⟩ := hl j x v hN e5 (.inr kx)
        refine ⟨u, r, ?_⟩
        rcases l with ⟨k1, _⟩ | ⟨_, c, hc, hcell⟩
        · rcases kx with z | z <;> (rw [z] at k1; cases k1)
        · obtain ⟨c', hc'⟩ := clOf_has (env := X.env) sc.names [] x (.inr ⟨hm, c, hc⟩)
          have e6 : c' = c := by
            have := hcl x c' hc'
            rw [hc] at this
            exact (Option.some.inj this).symm
          subst e6
          refine .inr ⟨?_, c', hc', ?_⟩
          · have : (compEnvC sc (clOf X.env sc.names []) s3.heap.objs.size X.env).kindOf x = some (relK X.env x .free) := by rw [kindOf_eq x, hfr]; rfl
            show (compEnvC sc (clOf X.env sc.names []) s3.heap.objs.size X.env).kindOf x = some .cell ∨ (compEnvC sc (clOf X.env sc.names []) s3.heap.objs.size X.env).kindOf x = some .free
            rw [this]
            unfold relK
            split
            · exact .inl rfl
            · exact .inr rfl
          · obtain ⟨o, ho, hd⟩ := hcell
            exact ⟨o, kp _ o ho, hd⟩
  · -- cell
    obtain ⟨v, o, ho, hd⟩ := I.cell x c (hcl x c e)
    exact ⟨v, o, kp _ o ho, hd⟩
  · -- pin
    have hp' : p ∈ X.pn ++ pins := (List.mem_append.mp hp).elim id fun z => by cases z
    obtain ⟨a1, a2, a3, a4, a5⟩ := I.pin p hp'
    exact ⟨kp _ _ a1, a2, Nat.ne_of_lt (Heap.lt_size a1), stkL p.1 a3 a4, a5⟩
  · show (srcSt src σ).length = N'.length
    unfold srcSt
    rw [List.length_map]
    exact S.len

/-- the block ends -/
theorem cx_end {s1 : Shared} {σ' : St} {H' : Hp} {h' : Heap} (I : Inv X pins σ H s3) (hf : ∀ b ∈ fp, FpOk X pins H b) (I' : Inv (cxC X N' sc s3 H fp (X.pn ++ pins)) [] σ' H' s1)
    (sb : Heap.SameBut s3.heap.objs.size s1.heap h') : Inv X pins σ H' { s1 with heap := h' } := by
  have fr : H' s3.heap.objs.size = none := I'.free
  refine I.call' (s' := { s1 with heap := h' }) (ch := fp) I'.os ?_ ?_ I'.bare fun b hb => ?_
  · exact Un.ahead (h := s3.heap) (h1 := s1.heap) I'.base fun b o hb e => sb.extBut b o (Nat.ne_of_lt hb) e
  · exact fun b u e => (I'.hok b u e).stay (fun c v hc q => sb.extBut c v (by
      intro z
      rcases hc with y | y
      · rw [← y, z, fr] at e; cases e
      · rw [z, fr] at y; cases y) q) (fun _ q => q) fun _ _ q => q
  · obtain ⟨f0, f1, f2, f3, f4, f5⟩ := hf b hb
    exact ⟨f3, f1, f4, fun p hp => f5 p hp⟩
end

/-- what a comprehension is to keep, turn by turn: W the invariant by the turn and a measure, over the block's names and the heap; l the new list -/
@[irreducible] def CWant (J : It) (g : TG) (tt : TT) (te : TE) (Q : VK) (σ0 : St) (H0 : Hp) (l : Addr) : Prop := ∃ W : Nat → Nat → St → Hp → Prop, (∃ m, W 0 m σ0 H0) ∧
  ∀ i m σ' H', W i m σ' H' → (J.stop i H' ∧ Q (.ref l) H') ∨ (J.go i H' ∧ ∃ N : St → Hp → Prop, (∀ σ3 H3, N σ3 H3 → ∃ m', m' < m ∧ W (i + 1) m' σ3 H3) ∧ ∀ x H2, J.yld i H' x H2 → g x σ' H2 fun σ3 H3 => tt σ3 H3 fun b H4 =>
    if b = true then te σ3 H4 fun y H5 => ∃ xs, H5 l = some (.lst xs) ∧ xs.length < sizeLine ∧ N σ3 (upd H5 l (.lst (xs ++ [y]))) else N σ3 H4)
/-- [elt for tg in iter if ..] -/
def tComp (wi : TI) (src : List (Option Nat)) (g : TG) (tt : TT) (te : TE) : TE := fun σ H Q => wi σ H fun J H1 => ∀ l, H1 l = none → CWant J g tt te Q (srcSt src σ) (upd H1 l (.lst [])) l

/-- the core: fin says what is wanted where the block's turns are over -/
theorem comp_core {X : Cx} {N' : List Str} {src : List (Option Nat)} {sc : Scope} {elt tg iter : Expr} {ifs : List Expr} {pos pos' : Pos} {wi : TI} {g : TG} {tt : TT} {te : TE} {use : Option (Value → Sem Unit)} {R : Value → Shared → Prop} (hc : X.calm = true) (S : CScope X N' src sc)
    (hi : PI X tg iter wi) (hg : ∀ s3 H3 fp pn, PG (cxC X N' sc s3 H3 fp pn) tg g) (ht : ∀ s3 H3 fp pn, PF (cxC X N' sc s3 H3 fp pn) ifs tt) (he : ∀ s3 H3 fp pn, PE (cxC X N' sc s3 H3 fp pn) elt te)
    (hs : ∀ x, foldedSetIterable iter X.env x = pure x) {pins : List (Addr × Obj)} {s : Shared} {σ : St} {H : Hp} {Q : VK} (I : Inv X pins σ H s) (h : tComp wi src g tt te σ H Q)
    (fin : ∀ s3 H3 fp σ4 H4 s5 l, Inv X pins σ H3 s3 → (∀ b ∈ fp, FpOk X pins H3 b) → Inv (cxC X N' sc s3 H3 fp (X.pn ++ pins)) [] σ4 H4 s5 → Q (.ref l) H4 →
      compPost (model X.prog X.w) X.A X.xe use R (.ref l) s3.heap.objs.size (.ok .next) s5) :
    wpAny (model X.prog X.w) X.A (comprehension (.ListComp elt [⟨tg, iter, ifs, 0⟩] sc pos) sc X.env pos' (newList []) false (eval iter X.env) use) R X.xe s := by
  refine wpAny_comprehension_free (use := use) (cl := clOf X.env sc.names []) rfl hs (closure_is fun p hp e => I.ok.has p.1 (S.fv p hp e)) S.kind S.loc ?_
  refine thn (hi pins s σ H _ I h) fun v s1 h1 => thn h1 fun itv s2 h2 => ?_
  obtain ⟨it, fp, tn, J, H2, rfl, I2, T, st2, f2, q⟩ := h2
  have q' := q s2.heap.objs.size (I2.hok.fresh (Nat.le_refl _))
  unfold CWant at q'
  obtain ⟨W, ⟨m0, w0⟩, turn⟩ := q'
  refine wpAny_newObj_type (wpAny_newFunctionEnv S.nocell (by intro y hy; simp at hy) (fun ha hns hsb => ?_) S.kind)
  have I3 : Inv X pins σ (upd H2 s2.heap.objs.size (.lst [])) { s2 with heap := s2.heap.push { cls := .type "list", dict := none, data := .seq ([] : List Value).toArray } } :=
    I2.laid (t' := s2.toks) (fun b u e => Heap.get?_push_of_some _ e) (Nat.le_refl _) ⟨Nat.zero_le _, [], 0, .nil, Heap.get?_push_size _ rfl⟩
  have hfl : ∀ b ∈ fp, b < s2.heap.objs.size := fun b hb => by
    obtain ⟨o, e, _⟩ := T.obj 0 _ st2 b hb
    exact Heap.lt_size e
  have f3 : ∀ b ∈ fp, FpOk X pins (upd H2 s2.heap.objs.size (.lst [])) b := fun b hb => ⟨by rw [upd_ne (Nat.ne_of_lt (hfl b hb))]; exact (f2 b hb).1, (f2 b hb).2⟩
  generalize hs3 : ({ s2 with heap := s2.heap.push { cls := .type "list", dict := none, data := .seq ([] : List Value).toArray } } : Shared) = s3 at *
  have hsz : s2.heap.objs.size < s3.heap.objs.size := by rw [← hs3]; show s2.heap.objs.size < (s2.heap.push _).objs.size; rw [Heap.size_push]; exact Nat.lt_succ_self _
  have kp : ∀ b o, s3.heap.get? b = some o → ha.get? b = some o := fun b o e => hsb.extBut b o (Nat.ne_of_lt (Heap.lt_size e)) (Heap.get?_push_of_some _ e)
  have st3 : tn 0 ha := T.keep 0 _ _ st2 fun b hb o e => kp b o (by rw [← hs3]; exact Heap.get?_push_of_some _ e)
  have I4 : Inv (cxC X N' sc s3 (upd H2 s2.heap.objs.size (.lst [])) fp (X.pn ++ pins)) [] (srcSt src σ) (upd H2 s2.heap.objs.size (.lst [])) { s3 with heap := ha, toks := s3.toks + ([] : List (Str × Value)).length } :=
    cx_start S I3 f3 (fun b hb => Nat.lt_trans (hfl b hb) hsz) hns kp
  have loop : codeAny (model X.prog X.w) X.A (.compLoop (.ListComp elt [⟨tg, iter, ifs, 0⟩] sc pos) 0 (.ref it) (.ref s2.heap.objs.size) (compEnvC sc (clOf X.env sc.names []) s3.heap.objs.size X.env))
      (compPost (model X.prog X.w) X.A X.xe use R (.ref s2.heap.objs.size) s3.heap.objs.size) { s3 with heap := ha, toks := s3.toks + ([] : List (Str × Value)).length } := by
    refine comp_loop (fun n s' => ∃ i σ' H', Inv (cxC X N' sc s3 (upd H2 s2.heap.objs.size (.lst [])) fp (X.pn ++ pins)) [] σ' H' s' ∧ tn i s'.heap ∧ (∀ b ∈ fp, H' b = none) ∧ W i n σ' H') ?_ m0 ⟨0, _, _, I4, st3, fun b hb => (f3 b hb).1, w0⟩
    rintro n s4 ⟨i, σ4, H4, J4, st4, fr4, w4⟩
    have stat : ∀ {H' : Hp}, (∀ b ∈ fp, H' b = none) → ∀ b ∈ fp, FpOk (cxC X N' sc s3 (upd H2 s2.heap.objs.size (.lst [])) fp (X.pn ++ pins)) [] H' b := fun hn b hb =>
      ⟨hn b hb, (I4.ok.exf b hb).1, I4.ok.exfs b hb, .inl hb, fun x c e => (I4.ok.exf b hb).2 x c e, fun p hp => (f3 b hb).2.2.2.2.2 p ((List.mem_append.mp hp).elim id fun z => by cases z)⟩
    rcases turn i n σ4 H4 w4 with ⟨stop, qn⟩ | ⟨go, N, hN, step⟩
    · refine thn (T.done (cxC X N' sc s3 (upd H2 s2.heap.objs.size (.lst [])) fp (X.pn ++ pins)) rfl rfl rfl hc i [] s4 σ4 H4 _ J4 (stat fr4) st4 stop) fun r s5 ⟨hr, J5⟩ => ?_
      subst hr
      exact fin s3 _ fp σ4 H4 s5 _ I3 f3 J5 qn
    · refine thn (T.item (cxC X N' sc s3 (upd H2 s2.heap.objs.size (.lst [])) fp (X.pn ++ pins)) rfl rfl rfl hc i [] s4 σ4 H4 _ J4 (stat fr4) st4 go) fun r s5 ⟨u, hr, h5⟩ => ?_
      subst hr
      refine thn h5 fun _ s6 ⟨x, H6, J6, r6, y6, st6, fr6⟩ => ?_
      have J6' := J6.pinned (stat fr6) (T.obj _ _ st6)
      have back : ∀ {pl : List (Addr × Obj)} {σ7 : St} {H7 : Hp} {s7 : Shared}, Inv (cxC X N' sc s3 (upd H2 s2.heap.objs.size (.lst [])) fp (X.pn ++ pins)) ([] ++ pinsAt fp s6.heap) σ7 H7 s7 → N σ7 H7 →
          ∃ m', m' < n ∧ ∃ i σ' H', Inv (cxC X N' sc s3 (upd H2 s2.heap.objs.size (.lst [])) fp (X.pn ++ pins)) [] σ' H' s7 ∧ tn i s7.heap ∧ (∀ b ∈ fp, H' b = none) ∧ W i m' σ' H' := fun {pl σ7 H7 s7} J7 w7 => by
        obtain ⟨m', hm, w7⟩ := hN _ _ w7
        have pinned : ∀ b ∈ fp, ∀ o, s6.heap.get? b = some o → s7.heap.get? b = some o ∧ H7 b = none := fun b hb o e => by
          have := J7.pin (b, o) (List.mem_append_right _ (List.mem_append_right _ (mem_pinsAt hb e)))
          exact ⟨this.1, this.2.1⟩
        refine ⟨m', hm, i + 1, σ7, H7, J7.unpinned, T.keep _ _ _ st6 fun b hb o e => (pinned b hb o e).1, fun b hb => ?_, w7⟩
        obtain ⟨o, e, _⟩ := T.obj _ _ st6 b hb
        exact (pinned b hb o e).2
      refine thn (hg s3 _ fp _ _ s6 σ4 H6 x u _ J6' r6 (step x H6 y6)) fun _ s7 ⟨σ7, H7, J7, q7⟩ => ?_
      refine thn (ht s3 _ fp _ _ s7 σ7 H7 _ J7 q7) fun ok s8 ⟨H8, J8, q8⟩ => ?_
      cases ok with
      | false =>
        rw [if_neg Bool.false_ne_true] at q8 ⊢
        exact back (pl := []) J8 q8
      | true =>
        rw [if_pos rfl] at q8 ⊢
        refine thn (he s3 _ fp _ _ s8 σ7 H8 _ J8 q8) fun y s9 ⟨yv, H9, J9, r9, xs, hl9, hz9, q9⟩ => ?_
        refine thn (mt_append _ s9 σ7 H9 (.ref s2.heap.objs.size) [yv] (.ref s2.heap.objs.size) [y] (fun _ H' => N σ7 H') J9 rfl (.cons r9 .nil) ⟨_, xs, yv, rfl, rfl, hl9, hz9, q9⟩) fun _ s10 ⟨_, H10, J10, _, q10⟩ => ?_
        exact back (pl := []) J10 q10
  exact codeAny_compStart_list loop (T.self X.A 0 _ _ _ st3 loop)
theorem pe_comp {X : Cx} {N' : List Str} {src : List (Option Nat)} {sc : Scope} {elt tg iter : Expr} {ifs : List Expr} {pos : Pos} {wi : TI} {g : TG} {tt : TT} {te : TE} (hc : X.calm = true) (S : CScope X N' src sc)
    (hi : PI X tg iter wi) (hg : ∀ s3 H3 fp pn, PG (cxC X N' sc s3 H3 fp pn) tg g) (ht : ∀ s3 H3 fp pn, PF (cxC X N' sc s3 H3 fp pn) ifs tt) (he : ∀ s3 H3 fp pn, PE (cxC X N' sc s3 H3 fp pn) elt te)
    (hs : ∀ x, foldedSetIterable iter X.env x = pure x := by intro _; rfl) : PE X (.ListComp elt [⟨tg, iter, ifs, 0⟩] sc pos) (tComp wi src g tt te) := by
  intro pins s σ H Q I h
  rw [eval_ListComp]
  refine comp_core (use := none) hc S hi hg ht he hs I h fun s3 H3 fp σ4 H4 s5 l I3 f3 J5 q => ?_
  obtain ⟨m, hn, _⟩ := J5.loc
  exact ⟨m, hn, fun h' sb => ⟨.ref l, H4, cx_end I3 f3 J5 sb, rfl, q⟩⟩
/-- name = [elt for tg in iter if ..] -/
theorem ps_setC {X : Cx} {N' : List Str} {src : List (Option Nat)} {sc : Scope} {elt tg iter : Expr} {ifs : List Expr} {pos spos px : Pos} {wi : TI} {g : TG} {tt : TT} {te : TE} {i : Nat} {x : Str} (hN : X.N.Nodup) (hi0 : X.N[i]? = some x) (hx : Loc X.env.scope x) (hc : X.calm = true) (S : CScope X N' src sc)
    (hi : PI X tg iter wi) (hg : ∀ s3 H3 fp pn, PG (cxC X N' sc s3 H3 fp pn) tg g) (ht : ∀ s3 H3 fp pn, PF (cxC X N' sc s3 H3 fp pn) ifs tt) (he : ∀ s3 H3 fp pn, PE (cxC X N' sc s3 H3 fp pn) elt te)
    (hsw : swapsWith (.ListComp elt [⟨tg, iter, ifs, 0⟩] sc pos) (some (.Name x px)) spos.line X.env = pure true := by rfl) (hs : ∀ x, foldedSetIterable iter X.env x = pure x := by intro _; rfl)
    (hf : X.fn x = true ∨ X.env.scope.names.lookup x = some .local := by first | exact .inl rfl | exact .inr rfl | assumption) :
    PS X (.Assign [.Name x px] (.ListComp elt [⟨tg, iter, ifs, 0⟩] sc pos) spos) (tAsg (tComp wi src g tt te) (gName i)) := by
  intro pins s σ H D I h
  rw [exec_Assign_Name_used _ _ _ _ hsw]
  refine wpAny_bind (wpAny_standAt (wpAny_bind ?_))
  show wpAny _ X.A (do let _ ← comprehension (.ListComp elt [⟨tg, iter, ifs, 0⟩] sc pos) sc X.env _ (newList []) false (eval iter X.env) (some (assign (.Name x px) X.env))) _ _ s
  refine wpAny_bind (thn (comp_core (R := fun _ s' => SP X pins D .next s') hc S hi hg ht he hs I h fun s3 H3 fp σ4 H4 s5 l I3 f3 J5 q => ?_) fun _ s' hq => wpAny_pure (wpAny_pure hq))
  obtain ⟨m, ⟨oC, es, ep, hoC, r⟩, _⟩ := J5.loc
  have I6 : Inv X pins σ H4 { s5 with heap := s5.heap } := cx_end I3 f3 J5 (Heap.SameBut.refl _ _)
  have hCn : H4 s3.heap.objs.size = none := J5.free
  have neL : s3.heap.objs.size ≠ X.env.locals := Nat.ne_of_gt I3.lt
  have ndat : ∀ v, oC.data ≠ .cell v := fun v z => by rw [r.1] at z; cases z
  have I7 : Inv X (pins ++ [(s3.heap.objs.size, oC)]) σ H4 s5 := I6.pins_of fun p hp => (List.mem_append.mp hp).elim (fun z => I6.pin p (List.mem_append_right _ z)) fun z => by
    cases List.mem_singleton.mp z
    exact ⟨hoC, hCn, neL, I3.nofs (Nat.le_refl _), ndat⟩
  show wpAny _ X.A (assign (.Name x px) X.env (.ref l)) _ _ s5
  refine wpAny_assign_Name (store_ok (v := .ref l) I7 hN hi0 hx rfl (fun s6 I8 => ?_) hf)
  have k8 := (I8.pin (s3.heap.objs.size, oC) (List.mem_append_right _ (List.mem_append_right _ (List.mem_singleton.mpr rfl)))).1
  refine ⟨m, ⟨oC, es, ep, k8, r⟩, fun h' sb => ⟨_, H4, ?_, q⟩⟩
  have I9 := I8.unpinned
  refine I9.turned (t' := s6.toks) (fun b o hb e => sb.extBut b o hb e) hCn neL (.inr I3.sz) (fun y c e z => ?_) (fun p hp z => ?_)
  · obtain ⟨v, o, ho, _⟩ := I3.cell y c e
    exact absurd (Heap.lt_size ho) (by rw [z]; exact Nat.lt_irrefl _)
  · have := (I3.pin p hp).1
    exact absurd (Heap.lt_size this) (by rw [z]; exact Nat.lt_irrefl _)
/-- a comprehension that takes names from the def around it (cells there); N: the def's names -/
theorem CScope.of {X : Cx} {N' : List Str} {src : List (Option Nat)} {sc : Scope} (fsc : Scope) (N : List Str) (hX : X.env.scope = fsc) (hN : X.N = N) (kind : sc.kind = .function) (nocell : ∀ y ∈ sc.names, y.2 ≠ .cell) (loc : ∀ y ∈ sc.names, y.2 = .local → sc.names.lookup y.1 = some .local)
    (fv : ∀ y ∈ sc.names, y.2 = .free → fsc.names.lookup y.1 = some .cell) (len : src.length = N'.length)
    (sr : ((N'.zip src).all fun p => match p.2 with | none => true | some j => decide (N[j]? = some p.1) && decide (sc.names.lookup p.1 = some .free)) = true) : CScope X N' src sc where
  kind := kind
  nocell := nocell
  loc := loc
  fv := fun y hy e => .inl (by show X.env.scope.names.lookup y.1 = some .cell; rw [hX]; exact fv y hy e)
  len := len
  src := fun i x j e1 e2 => by
    rw [List.all_eq_true] at sr
    have hm : (x, some j) ∈ N'.zip src := by
      refine List.mem_of_getElem? (i := i) ?_
      rw [List.getElem?_zip_eq_some]
      exact ⟨e1, e2⟩
    have := sr _ hm
    simp only [Bool.and_eq_true, decide_eq_true_eq] at this
    rw [hN]
    exact this
end L2

set_option Elab.async false
set_option linter.all false
set_option maxRecDepth 100000
set_option maxHeartbeats 4000000

/-! ### further rules over the layer -/
namespace L2
open PySem PySem.Spec PyProof.Rows
section
variable {X : Cx}

/-- isinstance(x, T), T a built-in type -/
@[irreducible] def rIsi (K : PySem.W.Frag) : List V → Hp → VK → Prop := fun xs H Q => ∃ x T t b, xs = [x, .ty T] ∧ TyOf K H x t ∧ PySem.W.kitOne K t (.type T) = some b ∧ Q (.bl b) H
theorem call_isi : CallR X (.builtin "isinstance") (rIsi X.K) := by
  intro pins s σ H xs us Q I r h
  unfold rIsi at h
  obtain ⟨x, T, t, b, rfl, ty, e, q⟩ := h
  obtain ⟨u, w', rfl, rx, rt⟩ := vals2 r
  cases rt
  exact isinst_ok I rx ty e fun tk => ⟨.bl b, H, I.tok tk, rfl, q⟩
theorem kit_int_int {K : PySem.W.Frag} : PySem.W.kitOne K (.type "int") (.type "int") = some true := by rfl
theorem kit_int_bool {K : PySem.W.Frag} : PySem.W.kitOne K (.type "int") (.type "bool") = some false := by rfl
theorem kit_bool_int {K : PySem.W.Frag} : PySem.W.kitOne K (.type "bool") (.type "int") = some true := by rfl
theorem kit_bool_bool {K : PySem.W.Frag} : PySem.W.kitOne K (.type "bool") (.type "bool") = some true := by rfl
theorem kit_none_int {K : PySem.W.Frag} : PySem.W.kitOne K (.type "NoneType") (.type "int") = some false := by rfl
theorem kit_str_int {K : PySem.W.Frag} : PySem.W.kitOne K (.type "str") (.type "int") = some false := by rfl
theorem kit_list_int {K : PySem.W.Frag} : PySem.W.kitOne K (.type "list") (.type "int") = some false := by rfl
theorem kit_tuple_int {K : PySem.W.Frag} : PySem.W.kitOne K (.type "tuple") (.type "int") = some false := by rfl
/-- a value whose kind is known: None, a truth, a whole number, a text, a list, a tuple -/
def Kn (H : Hp) : V → Prop
  | .non => True
  | .bl _ => True
  | .int _ => True
  | .str _ => True
  | .ref a => (∃ xs, H a = some (.lst xs)) ∨ ∃ xs, H a = some (.tup xs)
  | _ => False
def isI : V → Bool
  | .int _ => true
  | .bl _ => true
  | _ => false
def isB : V → Bool
  | .bl _ => true
  | _ => false
theorem Kn.same {H H' : Hp} {v : V} (s : Same H H') (k : Kn H v) : Kn H' v := by
  cases v with
  | ref a => exact k.imp (fun ⟨xs, e⟩ => ⟨xs, s _ _ e⟩) fun ⟨xs, e⟩ => ⟨xs, s _ _ e⟩
  | _ => exact k
/-- isinstance of a value of a known kind -/
theorem isi_int {K : PySem.W.Frag} {H : Hp} {x : V} {Q : VK} (k : Kn H x) (q : Q (.bl (isI x)) H) : rIsi K [x, .ty "int"] H Q := by
  unfold rIsi
  cases x with
  | non => exact ⟨_, _, _, _, rfl, .non, kit_none_int, q⟩
  | bl b => exact ⟨_, _, _, _, rfl, .bl b, kit_bool_int, q⟩
  | int i => exact ⟨_, _, _, _, rfl, .int i, kit_int_int, q⟩
  | str z => exact ⟨_, _, _, _, rfl, .str z, kit_str_int, q⟩
  | ref a =>
    rcases k with ⟨xs, e⟩ | ⟨xs, e⟩
    · exact ⟨_, _, _, _, rfl, .lst e, kit_list_int, q⟩
    · exact ⟨_, _, _, _, rfl, .tup e, kit_tuple_int, q⟩
  | _ => exact k.elim
theorem isi_bool {K : PySem.W.Frag} {H : Hp} {x : V} {Q : VK} (k : isI x = true) (q : Q (.bl (isB x)) H) : rIsi K [x, .ty "bool"] H Q := by
  unfold rIsi
  cases x with
  | bl b => exact ⟨_, _, _, _, rfl, .bl b, kit_bool_bool, q⟩
  | int i => exact ⟨_, _, _, _, rfl, .int i, kit_int_bool, q⟩
  | _ => cases k
/-- all(l), any(l) of a list of truths -/
theorem bools_of : ∀ {bs : List Bool} {us : List Value}, Vals (bs.map V.bl) us → LSm.BoolsAre us bs
  | [], _, .nil => .nil
  | b :: r, _, .cons h t => by
    cases (show _ = Value.bool b from h)
    exact .cons b (bools_of t)
/-! ### data within the tracked heap, and its equality -/
mutual
inductive Rep (H : Hp) : V → PyData → Prop
  | non : Rep H .non .none
  | bl (b : Bool) : Rep H (.bl b) (.bool b)
  | int (i : Int) : Rep H (.int i) (.int i)
  | str (x : Str) : Rep H (.str x) (.str x)
  | tup {a : Addr} {xs : List V} {ds : List PyData} : H a = some (.tup xs) → Reps H xs ds → Rep H (.ref a) (.tuple ds)
  | lst {a : Addr} {xs : List V} {ds : List PyData} : H a = some (.lst xs) → Reps H xs ds → Rep H (.ref a) (.list ds)
inductive Reps (H : Hp) : List V → List PyData → Prop
  | nil : Reps H [] []
  | cons {x : V} {d : PyData} {xs : List V} {ds : List PyData} : Rep H x d → Reps H xs ds → Reps H (x :: xs) (d :: ds)
end
mutual
theorem Rep.reads {P : Program} {w : World} {H : Hp} {h : Heap} (ok : HOk P w H h) : ∀ {v : V} {d : PyData} {u : Value}, Rep H v d → RelV v u → ∃ as, Reads h u d as
  | _, _, _, .non, r => by cases (show _ = Value.none from r); exact ⟨_, .none⟩
  | _, _, _, .bl b, r => by cases (show _ = Value.bool b from r); exact ⟨_, .bool b⟩
  | _, _, _, .int i, r => by obtain ⟨t, rfl⟩ := (show ∃ t, _ = Value.int i t from r); exact ⟨_, .int i t⟩
  | _, _, _, .str x, r => by obtain ⟨t, rfl⟩ := (show ∃ t, _ = Value.str x t from r); exact ⟨_, .str x t⟩
  | _, _, _, .tup (a := a) (xs := xs) e q, r => by
    cases (show _ = Value.ref a from r)
    obtain ⟨_, its, rv, o, ho, hc, n, hd⟩ := (show ObjOk P w H h a (.tup xs) from ok a _ e)
    obtain ⟨as, z⟩ := Reps.reads ok q rv
    exact ⟨_, .tuple ho hc hd (by simpa using z)⟩
  | _, _, _, .lst (a := a) (xs := xs) e q, r => by
    cases (show _ = Value.ref a from r)
    obtain ⟨_, its, n, rv, ho⟩ := (show ObjOk P w H h a (.lst xs) from ok a _ e)
    obtain ⟨as, z⟩ := Reps.reads ok q rv
    exact ⟨_, .list ho rfl rfl (by simpa using z)⟩
theorem Reps.reads {P : Program} {w : World} {H : Hp} {h : Heap} (ok : HOk P w H h) : ∀ {xs : List V} {ds : List PyData} {us : List Value}, Reps H xs ds → Vals xs us → ∃ as, ReadsAll h us ds as
  | _, _, _, .nil, .nil => ⟨_, .nil⟩
  | _, _, _, .cons p q, .cons r t => by
    obtain ⟨as, a1⟩ := Rep.reads ok p r
    obtain ⟨bs, b1⟩ := Reps.reads ok q t
    exact ⟨_, .cons a1 b1⟩
end
theorem op_eqD (hu : X.A.units + 64 < cLine) : OpR X (compareOp .Eq) (fun x y H Q => ∃ d e, Rep H x d ∧ Rep H y e ∧ SeqAt.shaped d = true ∧ SeqAt.shaped e = true ∧ Q (.bl (PyData.eqv d e)) H) := by
  intro pins s σ H x y v u Q I rx ry h
  obtain ⟨d, e, p, p', sd, se, q⟩ := h
  obtain ⟨as, r1⟩ := p.reads I.hok rx
  obtain ⟨bs, r2⟩ := p'.reads I.hok ry
  exact eq_dataH r1 r2 sd se hu ⟨.bl (PyData.eqv d e), H, I, rfl, q⟩
theorem op_neD (hu : X.A.units + 64 < cLine) : OpR X (compareOp .NotEq) (fun x y H Q => ∃ d e, Rep H x d ∧ Rep H y e ∧ SeqAt.shaped d = true ∧ SeqAt.shaped e = true ∧ Q (.bl (!PyData.eqv d e)) H) := by
  intro pins s σ H x y v u Q I rx ry h
  obtain ⟨d, e, p, p', sd, se, q⟩ := h
  obtain ⟨as, r1⟩ := p.reads I.hok rx
  obtain ⟨bs, r2⟩ := p'.reads I.hok ry
  exact ne_dataH r1 r2 sd se hu ⟨.bl (!PyData.eqv d e), H, I, rfl, q⟩
end
end L2

/-! ### defs of the text, each with its promise -/
namespace L2
open PySem PySem.Spec PyProof.Rows
/-- a def as it stands behind the top -/
structure Code (K : PySem.W.Frag) (mg : Str → Option Value) (x : Str) (st : Stmt) (ps : List Str) : Prop where
  ex : ∃ (f : Addr) (fd : FuncData), Fun K x x st f fd ∧ mg x = some (.ref f) ∧ Binds K fd ps []
/-- a def that keeps a promise -/
structure Good (P : Program) (w : World) (K : PySem.W.Frag) (mg : Str → Option Value) (base : Heap) (x : Str) (k : Nat) (ps : List Str) (sp : Sp) : Prop where
  ex : ∃ (f : Addr) (fd : FuncData), mg x = some (.ref f) ∧ PySem.W.keepIn K (.ref f) = true ∧ Binds K fd ps [] ∧ FnOk P w K mg base CX0 k f fd ps sp
theorem Code.good {P : Program} {w : World} {K : PySem.W.Frag} {mg : Str → Option Value} {base : Heap} {x : Str} {st : Stmt} {ps N : List Str} {k : Nat} {sp : Sp} (C : Code K mg x st ps) (S : FnScope N ps (defScope st)) (len : ∀ vs H Q E, sp vs H Q E → vs.length = ps.length)
    (hbody : ∀ (f : Addr) (cdv : Value) (A : Around) (outer : List Env) (s : Shared) (H : Hp) (vs : List V) (Q : VK) (E : XK), Room k (A.deeper (envOfC x (defScope st) s.heap.objs.size f cdv)) → sp vs H Q E →
      ∃ t, PSs (cxOf CX0 P w K mg base N x (defScope st) f cdv A outer s H E).nox (defBody st) t ∧ t { nx := fun _ H' => Q .non H', rt := Q } (start N vs) H) : Good P w K mg base x (k + 1) ps sp := by
  obtain ⟨f, fd, F, m, b⟩ := C.ex
  exact ⟨f, fd, m, F.kp, b, F.ok S len fun cdv A outer s H vs Q E hr h => hbody f cdv A outer s H vs Q E hr h⟩
theorem pcall {X : Cx} {k k' : Nat} {ps : List Str} {sp : Sp} {x : Str} {p pos : Pos} {e : Expr} {es : List Expr} {t : TA} (g : Good X.prog X.w X.K X.mg X.base x k ps sp) (hr : Room k' X.A) (ha : PA X (e :: es) t) (hk : k ≤ k' := by decide) (hg : Gl X x := by rfl)
    (hdb : (x == ("__debug__" : Str)) = false := by decide) (he : starEach (e :: es) X.env = (false, eval e X.env) :: starEach es X.env := by rfl) (hpl : (backTo pos (starEach es X.env)).any (·.1) = false := by rfl) :
    PE X (.Call (.Name x p) (e :: es) [] pos) (tCall sp [] E0 t) := by
  intro pins s σ H Q I h
  obtain ⟨f, fd, m, kp, b, F⟩ := g.ex
  exact pe_call F (hr.mono hk) hg m kp b .nil pass0 ha hdb he hpl pins s σ H Q I h
theorem Code.of {K : PySem.W.Frag} {mg : Str → Option Value} {h : Heap} {x : Str} {st : Stmt} {ps : List Str} {f : Addr} {oc : Value} {od an : Option Addr} {osl : Array (Option Value)} {kV doc pm cdv ct : Value} (X : K.In h) (G : h.Ns mainGlobals mg)
    (a : PySem.W.nsIn K mainGlobals x = some (some (.ref f))) (l : K.lookup f = some ⟨oc, od, .func (PySem.W.fnOf x x (defArgs st) (defBody st) (defScope st) .none kV doc pm an cdv ct), osl⟩) (c : PySem.W.codeIn K cdv x = true) (k : PySem.W.keepIn K (.ref f) = true)
    (hb : ∀ (kV doc pm : Value) (an : Option Addr) (cdv ct : Value) (us : List Value), us.length = ps.length → bindArgs (PySem.W.fnOf x x (defArgs st) (defBody st) (defScope st) .none kV doc pm an cdv ct) ⟨us, []⟩ = pure (ps.zip us)) : Code K mg x st ps := by
  have F := fun_mk (st := st) l c k
  exact ⟨f, _, F, PySem.W.mg_of X G a, F.binds hb⟩
theorem same_new {H : Hp} {p : Addr} (h : H p = none) (o : HO) : Same H (upd H p o) := fun b u q => by rw [upd_ne (ne_of_none q h)]; exact q
/-- a comprehension that takes nothing from around -/
theorem CScope.plain {X : Cx} {N' : List Str} {sc : Scope} (kind : sc.kind = .function) (nocell : ∀ y ∈ sc.names, y.2 ≠ .cell) (loc : ∀ y ∈ sc.names, y.2 = .local → sc.names.lookup y.1 = some .local) (nofree : ∀ y ∈ sc.names, y.2 ≠ .free) :
    CScope X N' (N'.map fun _ => none) sc where
  kind := kind
  nocell := nocell
  loc := loc
  fv := fun y hy e => absurd e (nofree y hy)
  len := by simp
  src := fun i x j _ e => by
    rw [List.getElem?_map] at e
    cases q : N'[i]? with
    | none => rw [q] at e; cases e
    | some z => rw [q] at e; cases e
/-- over a tuple that the turns leave as it is -/
theorem comp_tup {K : PySem.W.Frag} {a l : Addr} {xs : List V} {g : TG} {tt : TT} {te : TE} {Q : VK} {σ0 : St} {H0 : Hp} (Pv : Nat → St → Hp → Prop)
    (h0 : Pv 0 σ0 H0) (hl : ∀ i σ H', i ≤ xs.length → Pv i σ H' → SqT K H' a xs)
    (hs : ∀ i x σ H', xs[i]? = some x → Pv i σ H' → g x σ H' fun σ3 H3 => tt σ3 H3 fun b H4 => if b = true then te σ3 H4 fun y H5 => ∃ ys, H5 l = some (.lst ys) ∧ ys.length < sizeLine ∧ Pv (i + 1) σ3 (upd H5 l (.lst (ys ++ [y]))) else Pv (i + 1) σ3 H4)
    (hd : ∀ σ H', Pv xs.length σ H' → Q (.ref l) H') : CWant (Itt K a) g tt te Q σ0 H0 l := by
  unfold CWant
  refine ⟨fun i m σ H' => m = xs.length - i ∧ i ≤ xs.length ∧ Pv i σ H', ⟨xs.length, by simp, Nat.zero_le _, h0⟩, ?_⟩
  rintro i m σ H' ⟨rfl, hi, p⟩
  have q := hl i σ H' hi p
  by_cases hlt : i < xs.length
  · refine .inr ⟨⟨xs, xs[i], q, by simp [hlt]⟩, Pv (i + 1), fun σ3 H3 p' => ⟨xs.length - (i + 1), by omega, rfl, hlt, p'⟩, fun x H2 y => ?_⟩
    obtain ⟨e, y⟩ := y
    subst e
    exact hs i x σ _ (y xs q) p
  · have e : i = xs.length := by omega
    subst e
    exact .inl ⟨⟨xs, q, Nat.le_refl _⟩, hd σ H' p⟩
/-- over a list that the turns leave as it is -/
theorem comp_list {K : PySem.W.Frag} {a l : Addr} {xs : List V} {g : TG} {tt : TT} {te : TE} {Q : VK} {σ0 : St} {H0 : Hp} (Pv : Nat → St → Hp → Prop)
    (h0 : Pv 0 σ0 H0) (hl : ∀ i σ H', i ≤ xs.length → Pv i σ H' → SqL K H' a xs)
    (hs : ∀ i x σ H', xs[i]? = some x → Pv i σ H' → g x σ H' fun σ3 H3 => tt σ3 H3 fun b H4 => if b = true then te σ3 H4 fun y H5 => ∃ ys, H5 l = some (.lst ys) ∧ ys.length < sizeLine ∧ Pv (i + 1) σ3 (upd H5 l (.lst (ys ++ [y]))) else Pv (i + 1) σ3 H4)
    (hd : ∀ σ H', Pv xs.length σ H' → Q (.ref l) H') : CWant (Itl K a) g tt te Q σ0 H0 l := by
  unfold CWant
  refine ⟨fun i m σ H' => m = xs.length - i ∧ i ≤ xs.length ∧ Pv i σ H', ⟨xs.length, by simp, Nat.zero_le _, h0⟩, ?_⟩
  rintro i m σ H' ⟨rfl, hi, p⟩
  have q := hl i σ H' hi p
  by_cases hlt : i < xs.length
  · refine .inr ⟨⟨xs, xs[i], q, by simp [hlt]⟩, Pv (i + 1), fun σ3 H3 p' => ⟨xs.length - (i + 1), by omega, rfl, hlt, p'⟩, fun x H2 y => ?_⟩
    obtain ⟨e, y⟩ := y
    subst e
    exact hs i x σ _ (y xs q) p
  · have e : i = xs.length := by omega
    subst e
    exact .inl ⟨⟨xs, q, Nat.le_refl _⟩, hd σ H' p⟩
end L2

set_option Elab.async false
set_option linter.all false
set_option maxRecDepth 100000
set_option maxHeartbeats 4000000

/-! ### further rules: max, sorted, join, texts walked, slices that may be the whole -/
namespace L2
open PySem PySem.Spec PyProof.Rows
section
variable {X : Cx}

/-- sorted(l) of a list of whole numbers -/
theorem ints_vals : ∀ {us : List Value} {ns : List Int}, IntsAre us ns → Vals (ns.map V.int) us := fun h => vals_ints h
theorem call_sortedI : CallR X (.builtin "sorted") (fun xs H Q => ∃ (p : Addr) (ns : List Int), xs = [.ref p] ∧ SqL X.K H p (ns.map V.int) ∧ ns.length < 64 ∧
    ∀ (ms : List Int) l, ms.Perm ns → ms.Pairwise (· ≤ ·) → H l = none → Q (.ref l) (upd H l (.lst (ms.map V.int)))) := by
  intro pins s σ H xs us Q I r h
  obtain ⟨p, ns, rfl, hq, h64, q⟩ := h
  obtain ⟨u, rfl, rx⟩ := vals1 r
  cases rx
  obtain ⟨its, rv, pl, hz⟩ := I.list hq
  have hi : IntsAre its ns := intsAre_of rv
  have hlen := hi.length
  refine sorted_ints pl.isList hi (by omega) fun out ms a1 a2 a3 => ?_
  obtain ⟨e, he⟩ := sortedAll_at s.heap its out
  have hml := a2.length_eq
  refine ⟨.ref (s.heap.objs.size + 1), _, I.laid (t' := s.toks) (o := .lst (ms.map V.int)) (fun b o q => sortedAll_old q) (Nat.le_succ _) ?_, rfl, q ms _ a2 a3 (I.hok.fresh (Nat.le_succ _))⟩
  exact ⟨by rw [List.length_map]; exact Nat.le_of_lt (small1000 (by omega)), out.toList, e, ints_vals a1, he⟩

end
end L2

namespace L2
open PySem PySem.Spec PyProof.Rows
section
variable {X : Cx} {tg : Expr}
end
end L2

namespace HT
open PySem PyProof.Rows
section
variable {prog : Program} {w : World} {A : Around} {E : Value → Shared → Prop} {s : Shared}
end
end HT

namespace L2
open PySem PySem.Spec PyProof.Rows
section
variable {X : Cx}
end
end L2

set_option Elab.async false
set_option linter.all false
set_option maxRecDepth 100000
set_option maxHeartbeats 4000000
/-! ### own classes: methods with their promises, the attributes by their places -/
namespace L2
open PySem PySem.Spec PyProof.Rows
/-- a method as it stands in its class behind the top -/
structure CodeM (K : PySem.W.Frag) (C : Addr) (m qn : Str) (st : Stmt) (ps : List Str) : Prop where
  ex : ∃ (f : Addr) (fd : FuncData), Fun K m qn st f fd ∧ Meth K C m f ∧ Binds K fd ps []
/-- a method that keeps a promise -/
structure GoodM (P : Program) (w : World) (K : PySem.W.Frag) (mg : Str → Option Value) (base : Heap) (C : Addr) (m : Str) (k : Nat) (ps : List Str) (sp : Sp) : Prop where
  ex : ∃ (f : Addr) (fd : FuncData), Meth K C m f ∧ Binds K fd ps [] ∧ FnOk P w K mg base CX0 k f fd ps sp
/-- the class is made with an __init__ that keeps a promise -/
structure GoodI (P : Program) (w : World) (K : PySem.W.Frag) (mg : Str → Option Value) (base : Heap) (C : Addr) (k : Nat) (ps : List Str) (sp : Sp) : Prop where
  ex : ∃ (f : Addr) (fd : FuncData), Mk K C f ∧ Binds K fd ps [] ∧ FnOk P w K mg base CX0 k f fd ps sp
theorem CodeM.good {P : Program} {w : World} {K : PySem.W.Frag} {mg : Str → Option Value} {base : Heap} {C : Addr} {m qn : Str} {st : Stmt} {ps N : List Str} {k : Nat} {sp : Sp} (c : CodeM K C m qn st ps) (S : FnScope N ps (defScope st)) (len : ∀ vs H Q E, sp vs H Q E → vs.length = ps.length)
    (hbody : ∀ (f : Addr) (cdv : Value) (A : Around) (outer : List Env) (s : Shared) (H : Hp) (vs : List V) (Q : VK) (E : XK), Room k (A.deeper (envOfC qn (defScope st) s.heap.objs.size f cdv)) → sp vs H Q E →
      ∃ t, PSs (cxOf CX0 P w K mg base N qn (defScope st) f cdv A outer s H E).nox (defBody st) t ∧ t { nx := fun _ H' => Q .non H', rt := Q } (start N vs) H) : GoodM P w K mg base C m (k + 1) ps sp := by
  obtain ⟨f, fd, F, M, b⟩ := c.ex
  exact ⟨f, fd, M, b, F.ok S len fun cdv A outer s H vs Q E hr h => hbody f cdv A outer s H vs Q E hr h⟩
theorem pmeth {X : Cx} {pl : Sem Bool} {k k' : Nat} {C : Addr} {ps : List Str} {sp : Sp} {m : Str} {apos pos : Pos} {o e : Expr} {es : List Expr} {ta : TE} {t : TA} (he : PE X o ta) (c : Cls X.K C) (g : GoodM X.prog X.w X.K X.mg X.base C m k ps sp) (hr : Room k' X.A) (ha : PA X (e :: es) t) (hk : k ≤ k' := by decide)
    (hst : starEach (e :: es) X.env = (false, eval e X.env) :: starEach es X.env := by rfl) (hpl : (backTo pos (starEach es X.env)).any (·.1) = false := by rfl)
    (ht : eval (.Call (.Attribute o m apos) (e :: es) [] pos) X.env = (do
      let ov ← eval o X.env
      standAt apos.atName
      let (f, first) ← holding [ov] (getMethod ov m pl)
      callWith pos f first (backTo pos (starEach (e :: es) X.env)) (backToKw pos (keywordEach [] X.env))) := by rfl) :
    PE X (.Call (.Attribute o m apos) (e :: es) [] pos) (tMeth C m sp [] E0 ta t) := by
  intro pins s σ H Q I h
  obtain ⟨f, fd, M, b, F⟩ := g.ex
  exact pe_meth (pl := pl) he c M F (hr.mono hk) b .nil pass0 ha hst hpl ht pins s σ H Q I h
theorem pmeth0 {X : Cx} {pl : Sem Bool} {k k' : Nat} {C : Addr} {ps : List Str} {sp : Sp} {m : Str} {apos pos : Pos} {o : Expr} {ta : TE} (he : PE X o ta) (c : Cls X.K C) (g : GoodM X.prog X.w X.K X.mg X.base C m k ps sp) (hr : Room k' X.A) (hk : k ≤ k' := by decide)
    (ht : eval (.Call (.Attribute o m apos) [] [] pos) X.env = (do
      let ov ← eval o X.env
      standAt apos.atName
      let (f, first) ← holding [ov] (getMethod ov m pl)
      callWith pos f first (backTo pos (starEach [] X.env)) (backToKw pos (keywordEach [] X.env))) := by rfl) :
    PE X (.Call (.Attribute o m apos) [] [] pos) (tMeth C m sp [] E0 ta tNil) := by
  intro pins s σ H Q I h
  obtain ⟨f, fd, M, b, F⟩ := g.ex
  exact pe_meth0 (pl := pl) he c M F (hr.mono hk) b .nil pass0 ht pins s σ H Q I h
theorem pmake {X : Cx} {k k' : Nat} {C : Addr} {ps : List Str} {sp : Sp} {x : Str} {p pos : Pos} {e : Expr} {es : List Expr} {t : TA} (g : GoodI X.prog X.w X.K X.mg X.base C k ps sp) (hr : Room k' X.A) (hm : X.mg x = some (.ref C)) (ha : PA X (e :: es) t) (hk : k + 1 ≤ k' := by decide) (hg : Gl X x := by rfl)
    (hdb : (x == ("__debug__" : Str)) = false := by decide) (he : starEach (e :: es) X.env = (false, eval e X.env) :: starEach es X.env := by rfl) (hpl : (backTo pos (starEach es X.env)).any (·.1) = false := by rfl) :
    PE X (.Call (.Name x p) (e :: es) [] pos) (tMake C sp [] E0 t) := by
  intro pins s σ H Q I h
  obtain ⟨f, fd, M, b, F⟩ := g.ex
  exact pe_make M F (hr.mono hk) hg hm b .nil pass0 ha hdb he hpl pins s σ H Q I h
/-- a constant of the text -/
theorem pe_cst {X : Cx} {x : Str} {v : V} {pos : Pos} (hg : Gl X x) (hm : ∃ u, X.mg x = some u ∧ RelV v u) (hd : (x == ("__debug__" : Str)) = false := by decide) : PE X (.Name x pos) (tC v) := by
  obtain ⟨u, h, r⟩ := hm
  exact pe_glob hg h r hd
/-- attributes by their places -/
theorem fl_get : ∀ {fs : List (Str × V)} {i : Nat} {f : Str} {v : V}, (fs.map (·.1)).Nodup → fs[i]? = some (f, v) → fs.lookup f = some v
  | [], _, _, _, _, h => by simp at h
  | (g, u) :: fs, 0, f, v, _, h => by simp at h; obtain ⟨rfl, rfl⟩ := h; simp [List.lookup]
  | (g, u) :: fs, i + 1, f, v, hn, h => by
    rw [List.map_cons, List.nodup_cons] at hn
    have h' : fs[i]? = some (f, v) := by simpa using h
    have hm : f ∈ fs.map (·.1) := List.mem_map.mpr ⟨(f, v), List.mem_of_getElem? h', rfl⟩
    have hne : (f == g) = false := beq_eq_false_iff_ne.mpr fun e => hn.1 (e ▸ hm)
    rw [List.lookup, hne]
    exact fl_get hn.2 h'
theorem fl_no : ∀ {fs : List (Str × V)} {m : Str}, m ∉ fs.map (·.1) → fs.lookup m = none
  | [], _, _ => rfl
  | (g, u) :: fs, m, h => by
    rw [List.map_cons, List.mem_cons] at h
    have hne : (m == g) = false := beq_eq_false_iff_ne.mpr fun e => h (.inl e)
    rw [List.lookup, hne]
    exact fl_no fun z => h (.inr z)
theorem fl_put {y : V} : ∀ {fs : List (Str × V)} {i : Nat} {f : Str} {v : V}, (fs.map (·.1)).Nodup → fs[i]? = some (f, v) → putF f y fs = fs.set i (f, y)
  | [], _, _, _, _, h => by simp at h
  | (g, u) :: fs, 0, f, v, _, h => by
    simp at h
    obtain ⟨rfl, rfl⟩ := h
    show (if g = g then (g, y) :: fs else (g, u) :: putF g y fs) = _
    rw [if_pos rfl]
    rfl
  | (g, u) :: fs, i + 1, f, v, hn, h => by
    rw [List.map_cons, List.nodup_cons] at hn
    have h' : fs[i]? = some (f, v) := by simpa using h
    have hm : f ∈ fs.map (·.1) := List.mem_map.mpr ⟨(f, v), List.mem_of_getElem? h', rfl⟩
    have hne : ¬ g = f := fun e => hn.1 (by rw [show (g, u).fst = g from rfl, e]; exact hm)
    show (if g = f then (g, y) :: fs else (g, u) :: putF f y fs) = _
    rw [if_neg hne, fl_put hn.2 h']
    rfl
theorem fl_new {y : V} : ∀ {fs : List (Str × V)} {f : Str}, f ∉ fs.map (·.1) → putF f y fs = fs ++ [(f, y)]
  | [], _, _ => rfl
  | (g, u) :: fs, f, h => by
    rw [List.map_cons, List.mem_cons] at h
    show (if g = f then (g, y) :: fs else (g, u) :: putF f y fs) = _
    rw [if_neg fun e => h (.inl e.symm), fl_new fun z => h (.inr z)]
    rfl
/-- tuples stay tuples -/
def TupS (H H' : Hp) : Prop := ∀ c xs, H c = some (.tup xs) → H' c = some (.tup xs)
theorem TupS.refl (H : Hp) : TupS H H := fun _ _ e => e
theorem TupS.trans {H H1 H2 : Hp} (a : TupS H H1) (b : TupS H1 H2) : TupS H H2 := fun c xs e => b c xs (a c xs e)
theorem TupS.of {H H1 : Hp} (s : Same H H1) : TupS H H1 := fun c xs e => s c _ e
theorem TupS.upd {H : Hp} {b : Addr} {o : HO} (h : ∀ xs, H b ≠ some (.tup xs)) : TupS H (upd H b o) := fun c xs e => by
  have n : c ≠ b := fun z => h xs (z ▸ e)
  rw [upd_ne n]
  exact e
/-- all but b is as it was -/
def SameB (b : Addr) (H H' : Hp) : Prop := ∀ c o, H c = some o → c ≠ b → H' c = some o
theorem SameB.trans {b : Addr} {H H1 H2 : Hp} (x : SameB b H H1) (y : SameB b H1 H2) : SameB b H H2 := fun c o e n => y c o (x c o e n) n
theorem SameB.of {b : Addr} {H H1 : Hp} (x : Same H H1) : SameB b H H1 := fun c o e _ => x c o e
theorem SameB.refl (b : Addr) (H : Hp) : SameB b H H := fun _ _ e _ => e
theorem SameB.upd {b : Addr} {H : Hp} {o : HO} : SameB b H (upd H b o) := fun c u e n => by rw [upd_ne n]; exact e
theorem SameB.tup {b : Addr} {H H' : Hp} (x : SameB b H H') (h : ∀ xs, H b ≠ some (.tup xs)) : TupS H H' := fun c xs e => x c _ e fun z => h xs (z ▸ e)
theorem SameB.free {b : Addr} {H H' : Hp} (x : SameB b H H') (hb : ∃ o, H' b = some o) {l : Addr} (h : H' l = none) : H l = none := by
  cases e : H l with
  | none => rfl
  | some o =>
    by_cases n : l = b
    · obtain ⟨o', e'⟩ := hb
      rw [n, e'] at h
      cases h
    · rw [x l o e n] at h
      cases h
/-- e.f = value, the heap behind it by what is true of it -/
def sFldE (K : PySem.W.Frag) (ta tv : TE) (f : Str) : TS := fun D σ H => tv σ H fun y H1 => ta σ H1 fun x H2 => ∃ a C dx fs fs', x = .ref a ∧ H2 a = some (.ins C dx fs) ∧ Cls K C ∧ NoAttr K C f ∧ fs.length < 1000 ∧ putF f y fs = fs' ∧
  ∀ H', H' a = some (.ins C dx fs') → SameB a H2 H' → D.nx σ H'
section
variable {X : Cx} {o e value : Expr} {f : Str} {pos pos' tpos : Pos} {ta tv : TE}
theorem ps_fldE (ha : PE X o ta) (hv : PE X value tv) (hs : swapsWith value (some (.Attribute o f pos')) pos.line X.env = pure false) : PS X (.Assign [.Attribute o f pos'] value pos) (sFldE X.K ta tv f) := by
  intro pins s σ H D I h
  refine plainObj_wpAny_Assign_Attribute (thn (hv pins s σ H _ I h) fun u s1 ⟨y, H1, I1, ry, q⟩ => thn (ha pins s1 σ H1 _ I1 q) fun ov s2 ⟨x, H2, I2, rx, a, C, dx, fs, fs', ex, ea, c, n, l, ep, q2⟩ => ?_) hs
  subst ex
  obtain rfl : ov = Value.ref a := rx
  refine setattr_ok I2 ea c n l ry fun s3 I3 => ⟨σ, _, I3, q2 _ ?_ SameB.upd⟩
  rw [upd_same, ep]
end
end L2
namespace L2
open PySem PySem.Spec PyProof.Rows
end L2
/-! ### rules that name the text's facts, within a comprehension -/
namespace L2
open PySem PySem.Spec PyProof.Rows
section
variable {X : Cx} {K : PySem.W.Frag}
theorem ix_tupK (h : X.K = K) : IxR X (rIxT K) := h ▸ ix_tup
theorem op_in_seqK (h : X.K = K) : OpR X (compareOp .In) (rIn K false) := h ▸ op_in_seq
theorem op_notIn_seqK (h : X.K = K) : OpR X (compareOp .NotIn) (rIn K true) := h ▸ op_notIn_seq
theorem pe_fldK {e : Expr} {f : Str} {pos : Pos} {ta : TE} (h : X.K = K) (he : PE X e ta) (hb : attributeBase e f X.env (eval e X.env) = eval e X.env) : PE X (.Attribute e f pos) (tFld K ta f) := h ▸ pe_fld he hb
end
end L2

set_option Elab.async false
set_option linter.all false
set_option maxRecDepth 100000
set_option maxHeartbeats 4000000
namespace PySem
open Sem (wp)
section
variable {prog : Program} {w : World} {A : Around} {E : Value → Shared → Prop} {s : Shared}
end
end PySem
namespace L2
open PySem PySem.Spec PyProof.Rows
section
variable {X : Cx} {pos : Pos}
end
end L2
/-! ### a row of objects that stand in the heap, none twice -/
namespace L2
open PySem PySem.Spec PyProof.Rows
theorem nodup_set {α : Type} : ∀ {l : List α} {i : Nat} {a : α}, l.Nodup → a ∉ l → (l.set i a).Nodup
  | [], _, _, h, _ => by simpa using h
  | x :: r, 0, a, h, n => by
    rw [List.nodup_cons] at h
    rw [List.set_cons_zero, List.nodup_cons]
    exact ⟨fun z => n (List.mem_cons_of_mem _ z), h.2⟩
  | x :: r, i + 1, a, h, n => by
    rw [List.nodup_cons] at h
    rw [List.set_cons_succ, List.nodup_cons]
    refine ⟨fun z => ?_, nodup_set h.2 fun z => n (List.mem_cons_of_mem _ z)⟩
    rcases List.mem_or_eq_of_mem_set z with z | z
    · exact h.1 z
    · exact n (z ▸ List.mem_cons_self)
structure Has (H : Hp) (l : List (Addr × HO)) : Prop where
  nd : (l.map (·.1)).Nodup
  at_ : ∀ x ∈ l, H x.1 = some x.2
theorem Has.get {H : Hp} {l : List (Addr × HO)} (h : Has H l) {i : Nat} {a : Addr} {o : HO} (e : l[i]? = some (a, o)) : H a = some o := h.at_ (a, o) (List.mem_of_getElem? e)
theorem Has.same {H H' : Hp} {l : List (Addr × HO)} (h : Has H l) (s : Same H H') : Has H' l := ⟨h.nd, fun x hx => s _ _ (h.at_ x hx)⟩
theorem Has.sameB {H H' : Hp} {l : List (Addr × HO)} {b : Addr} (h : Has H l) (s : SameB b H H') (n : b ∉ l.map (·.1)) : Has H' l := ⟨h.nd, fun x hx => s _ _ (h.at_ x hx) fun z => n (z ▸ List.mem_map.mpr ⟨x, hx, rfl⟩)⟩
theorem Has.notin {H : Hp} {l : List (Addr × HO)} {a : Addr} (h : Has H l) (e : H a = none) : a ∉ l.map (·.1) := fun z => by
  obtain ⟨x, hx, rfl⟩ := List.mem_map.mp z
  rw [h.at_ x hx] at e
  cases e
theorem map_set {l : List (Addr × HO)} {i : Nat} {a : Addr} {o : HO} : (l.set i (a, o)).map (·.1) = (l.map (·.1)).set i a := by rw [List.map_set]
theorem Has.set {H H' : Hp} {l : List (Addr × HO)} (h : Has H l) (i : Nat) {a : Addr} {o o' : HO} (e : l[i]? = some (a, o)) (s : SameB a H H') (e' : H' a = some o') : Has H' (l.set i (a, o')) := by
  have em : (l.map (·.1))[i]? = some a := by rw [List.getElem?_map, e]; rfl
  have hi := (List.getElem?_eq_some_iff.mp e).1
  refine ⟨?_, fun x hx => ?_⟩
  · rw [map_set]
    have : (l.map (·.1)).set i a = l.map (·.1) := by
      obtain ⟨h1, h2⟩ := List.getElem?_eq_some_iff.mp em
      rw [← h2]
      exact List.set_getElem_self h1
    rw [this]
    exact h.nd
  · obtain ⟨j, hj, ex⟩ := List.mem_iff_getElem.mp hx
    rw [List.getElem_set] at ex
    by_cases q : i = j
    · rw [if_pos q] at ex
      subst ex
      exact e'
    · rw [if_neg q] at ex
      have hj' : j < l.length := by simpa using hj
      have hm : x ∈ l := ex ▸ List.getElem_mem hj'
      refine s _ _ (h.at_ x hm) fun z => q ?_
      have ej : (l.map (·.1))[j]? = some a := by rw [List.getElem?_map, List.getElem?_eq_getElem hj']; rw [← z, ← ex]; rfl
      obtain ⟨h1, h2⟩ := List.getElem?_eq_some_iff.mp em
      obtain ⟨h3, h4⟩ := List.getElem?_eq_some_iff.mp ej
      exact (List.getElem_inj h.nd).mp (h2.trans h4.symm)
theorem Has.put {H : Hp} {l : List (Addr × HO)} (h : Has H l) (i : Nat) {a : Addr} {o : HO} (n : a ∉ l.map (·.1)) (e : H a = some o) : Has H (l.set i (a, o)) := by
  refine ⟨by rw [map_set]; exact nodup_set h.nd n, fun x hx => ?_⟩
  rcases List.mem_or_eq_of_mem_set hx with z | z
  · exact h.at_ x z
  · rw [z]; exact e
theorem Has.new {H H' : Hp} {l : List (Addr × HO)} {a : Addr} {o : HO} (h : Has H l) (n : H a = none) (s : Same H H') (e : H' a = some o) : Has H' (l ++ [(a, o)]) := by
  refine ⟨?_, fun x hx => ?_⟩
  · rw [List.map_append, List.nodup_append]
    refine ⟨h.nd, by simp, fun x hx y hy z => ?_⟩
    have : y = a := by simpa using hy
    subst this
    exact h.notin n (z ▸ hx)
  · rcases List.mem_append.mp hx with z | z
    · exact s _ _ (h.at_ x z)
    · have : x = (a, o) := by simpa using z
      subst this
      exact e
theorem Has.nil (H : Hp) : Has H [] := ⟨List.nodup_nil, fun x hx => by cases hx⟩
theorem Has.ne {H : Hp} {l : List (Addr × HO)} (h : Has H l) {i j : Nat} {a b : Addr} {o p : HO} (e : l[i]? = some (a, o)) (e' : l[j]? = some (b, p)) (n : i ≠ j) : a ≠ b := fun z => by
  have ea : (l.map (·.1))[i]? = some a := by rw [List.getElem?_map, e]; rfl
  have eb : (l.map (·.1))[j]? = some a := by rw [List.getElem?_map, e', z]; rfl
  obtain ⟨h1, h2⟩ := List.getElem?_eq_some_iff.mp ea
  obtain ⟨h3, h4⟩ := List.getElem?_eq_some_iff.mp eb
  exact n ((List.getElem_inj h.nd).mp (h2.trans h4.symm))
theorem Same.stepB {H0 H H' : Hp} {a : Addr} (s : Same H0 H) (b : SameB a H H') (f : H0 a = none) : Same H0 H' := fun c o e => b _ _ (s _ _ e) fun z => by rw [z, f] at e; cases e
end L2

set_option Elab.async false
set_option linter.all false
set_option maxRecDepth 100000
namespace L2
open PySem PySem.Spec PyProof.Rows

/-! ### lists of pairs as tables -/
section
variable {κ : Type} [DecidableEq κ]
def valV (kvs : List (κ × V)) (k : κ) : Option V := (kvs.find? fun kv => decide (kv.1 = k)).map (·.2)
/-- in its place, or at the end -/
def putK (kvs : List (κ × V)) (k : κ) (v : V) : List (κ × V) :=
  if (kvs.any fun kv => decide (kv.1 = k)) = true then kvs.map (fun kv => if kv.1 = k then (kv.1, v) else kv) else kvs ++ [(k, v)]
def dropK (kvs : List (κ × V)) (k : κ) : List (κ × V) := kvs.filter fun kv => decide (kv.1 ≠ k)

theorem valV_pos {p : κ × V} {r : List (κ × V)} {k : κ} (e : p.1 = k) : valV (p :: r) k = some p.2 := by simp [valV, List.find?_cons, e]
theorem valV_neg {p : κ × V} {r : List (κ × V)} {k : κ} (e : ¬ p.1 = k) : valV (p :: r) k = valV r k := by simp [valV, List.find?_cons, e]
theorem valV_any (k : κ) : ∀ kvs : List (κ × V), (kvs.any fun kv => decide (kv.1 = k)) = (valV kvs k).isSome
  | [] => rfl
  | p :: r => by
    rw [List.any_cons]
    by_cases e : p.1 = k
    · simp only [valV_pos e, decide_eq_true e, Bool.true_or, Option.isSome_some]
    · rw [valV_neg e, decide_eq_false e, Bool.false_or]; exact valV_any k r
theorem valV_snoc (k j : κ) (y : V) : ∀ kvs : List (κ × V), valV kvs k = none → valV (kvs ++ [(k, y)]) j = if j = k then some y else valV kvs j
  | [], _ => by
    by_cases e : k = j
    · rw [if_pos e.symm]; exact valV_pos (p := (k, y)) e
    · rw [if_neg (fun z => e z.symm)]; exact valV_neg (p := (k, y)) e
  | p :: r, hn => by
    rw [List.cons_append]
    have hk : ¬ p.1 = k := fun z => by rw [valV_pos z] at hn; cases hn
    rw [valV_neg hk] at hn
    have ih := valV_snoc k j y r hn
    by_cases e : p.1 = j
    · rw [valV_pos e, valV_pos e, if_neg (fun z => hk (e.trans z))]
    · rw [valV_neg e, valV_neg e, ih]
theorem length_putK (kvs : List (κ × V)) (k : κ) (v : V) : (putK kvs k v).length ≤ kvs.length + 1 := by
  unfold putK
  split
  · rw [List.length_map]; omega
  · rw [List.length_append, List.length_cons, List.length_nil]; omega
theorem putK_new {kvs : List (κ × V)} {k : κ} (v : V) (h : valV kvs k = none) : putK kvs k v = kvs ++ [(k, v)] := by
  unfold putK
  rw [valV_any, h]
  exact if_neg (by decide)

theorem RelO.isSome_eq {o : Option V} {u : Option Value} (r : RelO o u) : o.isSome = u.isSome := by
  cases o with
  | none => cases u with
    | none => rfl
    | some _ => exact (show False from r).elim
  | some _ => cases u with
    | none => exact (show False from r).elim
    | some _ => rfl
theorem RelO.getD {o : Option V} {u : Option Value} {d : V} {d' : Value} (r : RelO o u) (rd : RelV d d') : RelV (o.getD d) (u.getD d') := by
  cases o with
  | none => cases u with
    | none => exact rd
    | some _ => exact (show False from r).elim
  | some _ => cases u with
    | none => exact (show False from r).elim
    | some _ => exact r

/-- raw tables of the same keys -/
theorem KV.val {kvs : List (κ × V)} {vs : List (κ × Value)} (r : KV kvs vs) (k : κ) : RelO (valV kvs k) (valueAt vs k) := by
  unfold KV at r
  induction r with
  | nil => exact True.intro
  | @cons p q ps qs h t ih =>
    obtain ⟨h1, h2⟩ := h
    by_cases e : p.1 = k
    · have e' : q.1 = k := h1.symm.trans e
      have b : valueAt (q :: qs) k = some q.2 := by simp [valueAt, List.find?_cons, e']
      rw [valV_pos e, b]; exact h2
    · have e' : ¬ q.1 = k := fun z => e (h1.trans z)
      have b : valueAt (q :: qs) k = valueAt qs k := by simp [valueAt, List.find?_cons, e']
      rw [valV_neg e, b]; exact ih
theorem KV.any {kvs : List (κ × V)} {vs : List (κ × Value)} (r : KV kvs vs) (k : κ) : (kvs.any fun kv => decide (kv.1 = k)) = vs.any fun kv => decide (kv.1 = k) := by
  unfold KV at r
  induction r with
  | nil => rfl
  | cons h t ih => rw [List.any_cons, List.any_cons, ih, h.1]
theorem KV.repl {kvs : List (κ × V)} {vs : List (κ × Value)} (r : KV kvs vs) (k : κ) {y : V} {u : Value} (ry : RelV y u) :
    KV (kvs.map fun kv => if kv.1 = k then (kv.1, y) else kv) (vs.map fun kv => if kv.1 = k then (kv.1, u) else kv) := by
  unfold KV at r ⊢
  induction r with
  | nil => exact .nil
  | @cons p q ps qs h t ih =>
    rw [List.map_cons, List.map_cons]
    refine .cons ?_ ih
    obtain ⟨h1, h2⟩ := h
    by_cases e : p.1 = k
    · rw [if_pos e, if_pos (h1.symm.trans e)]; exact ⟨h1, ry⟩
    · rw [if_neg e, if_neg (fun z => e (h1.trans z))]; exact ⟨h1, h2⟩
theorem KV.put {kvs : List (κ × V)} {vs : List (κ × Value)} (r : KV kvs vs) (k : κ) {y : V} {u : Value} (ry : RelV y u) : KV (putK kvs k y) (stored vs k u) := by
  unfold putK stored
  rw [r.any k]
  by_cases e : (vs.any fun kv => decide (kv.1 = k)) = true
  · rw [if_pos e, if_pos e]; exact r.repl k ry
  · rw [if_neg e, if_neg e]; exact Paired.snoc r ⟨rfl, ry⟩
theorem KV.drop {kvs : List (κ × V)} {vs : List (κ × Value)} (r : KV kvs vs) (k : κ) : KV (dropK kvs k) (without vs k) := by
  unfold KV at r ⊢
  unfold dropK without
  induction r with
  | nil => exact .nil
  | @cons p q ps qs h t ih =>
    obtain ⟨h1, h2⟩ := h
    rw [List.filter_cons, List.filter_cons]
    by_cases e : p.1 = k
    · have a : ¬ decide (p.1 ≠ k) = true := by simp [e]
      have b : ¬ decide (q.1 ≠ k) = true := by simp [h1.symm.trans e]
      rw [if_neg a, if_neg b]; exact ih
    · have e' : ¬ q.1 = k := fun z => e (h1.trans z)
      have a : decide (p.1 ≠ k) = true := by simp [e]
      have b : decide (q.1 ≠ k) = true := by simp [e']
      rw [if_pos a, if_pos b]; exact .cons ⟨h1, h2⟩ ih
theorem KV.keys {kvs : List (κ × V)} {vs : List (κ × Value)} (r : KV kvs vs) : kvs.map (·.1) = vs.map (·.1) := by
  unfold KV at r
  induction r with
  | nil => rfl
  | cons h t ih => rw [List.map_cons, List.map_cons, ih, h.1]
theorem KV.length {kvs : List (κ × V)} {vs : List (κ × Value)} (r : KV kvs vs) : kvs.length = vs.length := Paired.length r
end


/-! ### a tracked dict, its keys ints and texts or tuples of these -/
theorem kV_is {P : Program} {w : World} {k : Key} {u : Value} (r : RelV (kV k) u) : (mixKind P w).is k u = true := by
  cases k with
  | inl i => obtain ⟨t, e⟩ := (show ∃ t, u = Value.int i t from r); subst e; exact mixKind_int P w i t
  | inr x => obtain ⟨t, e⟩ := (show ∃ t, u = Value.str x t from r); subst e; exact mixKind_str P w x t
theorem items_are {P : Program} {w : World} : ∀ {ks : List Key} {us : List Value}, Vals (ks.map kV) us → ItemsAre (mixKind P w) ks us
  | [], _, r => by rw [List.map_nil] at r; cases r; exact .nil
  | k :: ks, _, r => by
    rw [List.map_cons] at r
    cases r with
    | cons h t => exact .cons (kV_is h) (items_are t)

/-- raw entries of a dict with tuple keys -/
abbrev KT (H : Hp) : List (List Key × V) → List (List Key × Addr × Value) → Prop := Paired fun p q => p.1 = q.1 ∧ H q.2.1 = some (.tup (p.1.map kV)) ∧ RelV p.2 q.2.2
theorem KT.val {H : Hp} {kvs : List (List Key × V)} {xs : List (List Key × Addr × Value)} (r : KT H kvs xs) (k : List Key) : RelO (valV kvs k) ((atKey xs k).map (·.2)) := by
  induction r with
  | nil => exact True.intro
  | @cons p q ps qs h t ih =>
    obtain ⟨h1, _, h2⟩ := h
    by_cases e : p.1 = k
    · have e' : q.1 = k := h1.symm.trans e
      have b : atKey (q :: qs) k = some q.2 := by simp [atKey, List.find?_cons, e']
      rw [valV_pos e, b]; exact h2
    · have e' : ¬ q.1 = k := fun z => e (h1.trans z)
      have b : atKey (q :: qs) k = atKey qs k := by simp [atKey, List.find?_cons, e']
      rw [valV_neg e, b]; exact ih
theorem KT.repl {H : Hp} {kvs : List (List Key × V)} {xs : List (List Key × Addr × Value)} (r : KT H kvs xs) (k : List Key) {y : V} {u : Value} (ry : RelV y u) :
    KT H (kvs.map fun kv => if kv.1 = k then (kv.1, y) else kv) (xs.map (putAt k u)) := by
  induction r with
  | nil => exact .nil
  | @cons p q ps qs h t ih =>
    rw [List.map_cons, List.map_cons]
    refine .cons ?_ ih
    obtain ⟨h1, h2, h3⟩ := h
    unfold putAt
    by_cases e : p.1 = k
    · rw [if_pos e, if_pos (h1.symm.trans e)]; exact ⟨h1, h2, ry⟩
    · rw [if_neg e, if_neg (fun z => e (h1.trans z))]; exact ⟨h1, h2, h3⟩
theorem KT.put {H : Hp} {kvs : List (List Key × V)} {xs : List (List Key × Addr × Value)} (r : KT H kvs xs) (k : List Key) {b : Addr} {y : V} {u : Value} (hb : H b = some (.tup (k.map kV))) (ry : RelV y u) :
    KT H (putK kvs k y) (storedH xs k b u) := by
  have e : (kvs.any fun kv => decide (kv.1 = k)) = (atKey xs k).isSome := by
    rw [valV_any, (r.val k).isSome_eq, Option.isSome_map]
  unfold putK storedH
  rw [e]
  by_cases q : (atKey xs k).isSome = true
  · rw [if_pos q, if_pos q]; exact r.repl k ry
  · rw [if_neg q, if_neg q]; exact Paired.snoc r ⟨rfl, hb, ry⟩
theorem KT.keeps {H H' : Hp} {kvs : List (List Key × V)} {xs : List (List Key × Addr × Value)} (r : KT H kvs xs) (ht : ∀ b ys, H b = some (.tup ys) → H' b = some (.tup ys)) : KT H' kvs xs :=
  Paired.mapP r fun _ _ z => ⟨z.1, ht _ _ z.2.1, z.2.2⟩

section
variable {P : Program} {w : World} {H : Hp} {h : Heap} {a : Addr}
theorem rd_of {u : HO} (ok : HOk P w H h) (e : Rd H a u) : ObjOk P w H h a u := e.ok ok
theorem dk_rd {kvs : List (Key × V)} (ok : HOk P w H h) (e : Rd H a (.dK kvs)) : kvs.length ≤ sizeLine ∧ (a == sysModules) = false ∧ ∃ vs, KV kvs vs ∧ h.DictOf (mixKind P w) a vs :=
  show ObjOk P w H h a (.dK kvs) from rd_of ok e
theorem dk_of {kvs : List (Key × V)} (ok : HOk P w H h) (e : H a = some (.dK kvs)) : kvs.length ≤ sizeLine ∧ (a == sysModules) = false ∧ ∃ vs, KV kvs vs ∧ h.DictOf (mixKind P w) a vs := dk_rd ok (.inl e)
/-- a tracked tuple of ints and texts is a key -/
theorem key_of {ks : List Key} (ok : HOk P w H h) (e : H a = some (.tup (ks.map kV))) : (tupleKind (mixKind P w)).is h ks a := by
  obtain ⟨_, its, r, o, h1, h2, n, h3⟩ := (show ObjOk P w H h a (.tup (ks.map kV)) from ok a _ e)
  exact ⟨o, its.toArray, n, h1, h2, h3, by simpa using items_are r⟩
theorem dt_rd {kvs : List (List Key × V)} (ok : HOk P w H h) (e : Rd H a (.dT kvs)) : kvs.length ≤ sizeLine ∧ (a == sysModules) = false ∧
    ∃ xs, KT H kvs xs ∧ h.DictOfH (tupleKind (mixKind P w)) a xs := by
  obtain ⟨z, y, xs, r, o, es, ep, h1, h2, h3, h4, h5⟩ := (show ObjOk P w H h a (.dT kvs) from rd_of ok e)
  refine ⟨z, y, xs, r, o, es, ep, h1, h2, h3, h4, fun x hx => ?_, h5⟩
  have all : ∀ {l : List (List Key × V)} {m : List (List Key × Addr × Value)}, KT H l m → ∀ x ∈ m, (tupleKind (mixKind P w)).is h x.1 x.2.1 := by
    intro l m q
    induction q with
    | nil => intro x hx; exact nomatch hx
    | @cons p q ps qs hq t ih =>
      intro x hx
      rcases List.mem_cons.mp hx with e | hx
      · subst e
        exact key_of ok (by rw [← hq.1]; exact hq.2.1)
      · exact ih x hx
  exact all r x hx
theorem dt_of {kvs : List (List Key × V)} (ok : HOk P w H h) (e : H a = some (.dT kvs)) : kvs.length ≤ sizeLine ∧ (a == sysModules) = false ∧
    ∃ xs, KT H kvs xs ∧ h.DictOfH (tupleKind (mixKind P w)) a xs := dt_rd ok (.inl e)
end

/-- what the dict at a holds at the key y -/
def DGet (H : Hp) (a : Addr) (y : V) (r : Option V) : Prop :=
  (∃ kvs k, Rd H a (.dK kvs) ∧ y = kV k ∧ r = valV kvs k) ∨ ∃ kvs k b, Rd H a (.dT kvs) ∧ y = .ref b ∧ H b = some (.tup (k.map kV)) ∧ r = valV kvs k
/-- the heap behind a[y] = v -/
def DPut (H : Hp) (a : Addr) (y v : V) (H' : Hp) : Prop :=
  (∃ kvs k, H a = some (.dK kvs) ∧ y = kV k ∧ kvs.length < sizeLine ∧ H' = upd H a (.dK (putK kvs k v))) ∨
  ∃ kvs k b, H a = some (.dT kvs) ∧ y = .ref b ∧ H b = some (.tup (k.map kV)) ∧ kvs.length < sizeLine ∧ H' = upd H a (.dT (putK kvs k v))
theorem DGet.k {H : Hp} {a : Addr} {kvs : List (Key × V)} {k : Key} (e : H a = some (.dK kvs)) : DGet H a (kV k) (valV kvs k) := .inl ⟨kvs, k, .inl e, rfl, rfl⟩
theorem DGet.t {H : Hp} {a b : Addr} {kvs : List (List Key × V)} {k : List Key} (e : H a = some (.dT kvs)) (eb : H b = some (.tup (k.map kV))) : DGet H a (.ref b) (valV kvs k) := .inr ⟨kvs, k, b, .inl e, rfl, eb, rfl⟩
theorem DPut.k {H : Hp} {a : Addr} {kvs : List (Key × V)} {k : Key} {v : V} (e : H a = some (.dK kvs)) (hl : kvs.length < sizeLine) : DPut H a (kV k) v (upd H a (.dK (putK kvs k v))) := .inl ⟨kvs, k, e, rfl, hl, rfl⟩
theorem DPut.t {H : Hp} {a b : Addr} {kvs : List (List Key × V)} {k : List Key} {v : V} (e : H a = some (.dT kvs)) (eb : H b = some (.tup (k.map kV))) (hl : kvs.length < sizeLine) :
    DPut H a (.ref b) v (upd H a (.dT (putK kvs k v))) := .inr ⟨kvs, k, b, e, rfl, eb, hl, rfl⟩


section
variable {X : Cx} {pins : List (Addr × Obj)} {σ : St} {H : Hp} {s : Shared} {a : Addr} {y v : V} {u r : Value} {o : Option V} {A : Around} {E : Value → Shared → Prop}

theorem Inv.big (I : Inv X pins σ H s) : sysModules < s.heap.objs.size := by
  have h : mainGlobals < s.heap.objs.size := (I.mod.glob.keeps I.bk).lt
  exact Nat.lt_trans (by decide) h

/-- d[y], there -/
theorem d_getItem {Q : Value → Shared → Prop} (hu : A.units + 1 < cLine) (I : Inv X pins σ H s) (g : DGet H a y (some v)) (ry : RelV y u) (h : ∀ w' s', Inv X pins σ H s' → RelV v w' → Q w' s') :
    wpAny (model X.prog X.w) A (getItem (.ref a) u) Q E s := by
  rcases g with ⟨kvs, k, e, ey, l⟩ | ⟨kvs, k, b, e, ey, eb, l⟩
  · subst ey
    obtain ⟨z, hd, vs, rel, dd⟩ := dk_rd I.hok e
    obtain ⟨w', hw, rw'⟩ := RelO.some_of (v := v) (o := valueAt vs k) (by rw [l]; exact rel.val k)
    exact wpAny_getItem_of (kV_is ry) dd.mapOf hw (h w' _ (I.tok _) rw')
  · subst ey
    cases (show u = Value.ref b from ry)
    obtain ⟨z, hd, xs, rel, dd⟩ := dt_rd I.hok e
    obtain ⟨w', hw, rw'⟩ := RelO.some_of (v := v) (o := (atKey xs k).map (·.2)) (by rw [l]; exact rel.val k)
    obtain ⟨p, hp, hp2⟩ := Option.map_eq_some_iff.mp hw
    refine wpAny_getItem_heap (tupleKind_room_in1 hu) (key_of I.hok eb) dd hp ?_
    rw [hp2]
    exact h w' _ (I.tok _) rw'
theorem d_notIn {Q : Value → Shared → Prop} (hu : A.units + 1 < cLine) (I : Inv X pins σ H s) (g : DGet H a y o) (ry : RelV y u) (h : ∀ s', Inv X pins σ H s' → Q (.bool (!o.isSome)) s') :
    wpAny (model X.prog X.w) A (compareOp .NotIn u (.ref a)) Q E s := by
  rcases g with ⟨kvs, k, e, ey, l⟩ | ⟨kvs, k, b, e, ey, eb, l⟩
  · subst ey
    obtain ⟨z, hd, vs, rel, dd⟩ := dk_rd I.hok e
    refine wpAny_notIn_of (kV_is ry) hd dd.mapOf ?_
    rw [← (rel.val k).isSome_eq, ← l]
    exact h _ (I.tok _)
  · subst ey
    cases (show u = Value.ref b from ry)
    obtain ⟨z, hd, xs, rel, dd⟩ := dt_rd I.hok e
    refine wpAny_notIn_heap (tupleKind_room_in1 hu) (key_of I.hok eb) hd dd ?_
    have q := (rel.val k).isSome_eq
    rw [Option.isSome_map] at q
    rw [← q, ← l]
    exact h _ (I.tok _)
/-- a dict's object is replaced -/
theorem d_write {h' : Heap} {t' : Nat} {ob : HO} (I : Inv X pins σ H s) (mu : Mut (H a)) (hs : Heap.SameBut a s.heap h') (he : ∃ q, h'.get? a = some q) (new : ObjOk X.prog X.w (upd H a ob) h' a ob) :
    Inv X pins σ (upd H a ob) { s with heap := h', toks := t' } :=
  I.write (x := a) (e := a) mu (.inl rfl) (fun b q hb z => (hs.2 b hb).trans z) he new
theorem dk_new {P : Program} {w : World} {H' : Hp} {h' : Heap} {kvs : List (Key × V)} {vs : List (Key × Value)} (z : kvs.length ≤ sizeLine) (hd : (a == sysModules) = false) (rel : KV kvs vs) (dd : h'.DictOf (mixKind P w) a vs) :
    ObjOk P w H' h' a (.dK kvs) := ⟨z, hd, vs, rel, dd⟩
/-- d[y] = v -/
theorem d_setItem {H' : Hp} {Q : Unit → Shared → Prop} (hu : A.units + 1 < cLine) (I : Inv X pins σ H s) (g : DPut H a y v H') (ry : RelV y u) (rv : RelV v r) (h : ∀ s', Inv X pins σ H' s' → Q () s') :
    wpAny (model X.prog X.w) A (setItem (.ref a) u r) Q E s := by
  rcases g with ⟨kvs, k, e, ey, l, eH⟩ | ⟨kvs, k, b, e, ey, eb, l, eH⟩
  · subst ey eH
    obtain ⟨z, hd, vs, rel, dd⟩ := dk_of I.hok e
    have hz : vs.length ≤ sizeLine := by rw [← rel.length]; exact z
    have hl : (putK kvs k v).length ≤ sizeLine := by have := length_putK kvs k v; omega
    refine wpAny_setItem_pairs (hsz := hz) (kV_is ry) dd fun h' dd' hs => h _ ?_
    have he : ∃ q, h'.get? a = some q := let ⟨q, _, _, hq, _⟩ := dd'; ⟨q, hq⟩
    exact d_write I (by rw [e]; exact True.intro) hs he (dk_new hl hd (rel.put k rv) dd')
  · subst ey eH
    cases (show u = Value.ref b from ry)
    obtain ⟨z, hd, xs, rel, dd⟩ := dt_of I.hok e
    have hz : xs.length ≤ sizeLine := by rw [← Paired.length rel]; exact z
    have hl : (putK kvs k v).length ≤ sizeLine := by have := length_putK kvs k v; omega
    refine wpAny_setItem_heap (hsz := hz) (tupleKind_room_in1 hu) (key_of I.hok eb) dd fun h' dd' hs => h _ ?_
    obtain ⟨q, es, ep, hq, h2, h3, h4, _, h5⟩ := dd'
    refine d_write I (by rw [e]; exact True.intro) hs ⟨q, hq⟩ ⟨hl, hd, _, (rel.put k eb rv).keeps fun c ys ec => ?_, q, es, ep, hq, h2, h3, h4, h5⟩
    rw [upd_ne (ne_of ec e (fun z => nomatch z))]
    exact ec
end

section
variable {X : Cx} {pins : List (Addr × Obj)} {σ : St} {H : Hp} {s : Shared} {a : Addr} {kvs : List (Key × V)} {k : Key} {u : Value} {A : Around} {E : Value → Shared → Prop}
end


/-! ### readings and rules -/
/-- the element of a subscription, not a slice -/
def NoSl (i : Expr) : Prop := ∀ ov iv, subscripted i false ov iv = operate [ov, iv] (getItem ov iv)
theorem subD_of {prog : Program} {w : World} {A : Around} {E : Value → Shared → Prop} {s : Shared} {env : Env} {value slice : Expr} {pos : Pos} {T id : String} {Q : Value → Shared → Prop}
    (hl : typeLookup (.type T) "__getitem__" = pure (some (.builtin id))) (hs : NoSl slice)
    (h : wpAny (model prog w) A (eval value env) (fun o s₁ => wpAny (model prog w) A (eval slice env) (fun i s₂ => s₂.TypeIs o T ∧ wpAny (model prog w) A (getItem o i) Q E s₂) E s₁) E s) :
    wpAny (model prog w) A (eval (.Subscript value slice pos) env) Q E s := by
  refine Subscript_ (wpAny_mono h (fun o s₁ h₁ => wpAny_mono h₁ (fun i s₂ h₂ => ?_) fun _ _ x => x) fun _ _ x => x)
  obtain ⟨hT, h₂⟩ := h₂
  unfold subscriptTail
  refine wpAny_bind ?_
  rw [getitemInPython_of_ne hT.not_modules]
  refine wpAny_bind (wpAny_specialOf hT hl ?_)
  have fin : wpAny (model prog w) A (subscripted slice false o i) (fun r s₃ => wpAny (model prog w) A (letTemporaryGo value o r >>= fun _ => pure r) Q E s₃) E s₂ := by
    rw [hs o i]
    exact wpAny_operating (wpAny_mono h₂ (fun r s₃ h₃ => wpAny_bind (wpAny_letTemporaryGo (wpAny_pure h₃))) fun _ _ x => x)
  first
    | exact wpAny_pure (wpAny_bind fin)
    | exact wpAny_bind (wpAny_pure (wpAny_bind fin))
    | exact wpAny_bind fin

theorem dict_typeIs {X : Cx} {pins : List (Addr × Obj)} {σ : St} {H : Hp} {s : Shared} {a : Addr} {y : V} {o : Option V} (I : Inv X pins σ H s) (g : DGet H a y o) : s.TypeIs (.ref a) "dict" := by
  rcases g with ⟨kvs, k, e, _, _⟩ | ⟨kvs, k, b, e, _, _, _⟩
  · obtain ⟨_, _, vs, _, dd⟩ := dk_rd I.hok e
    exact dd.typeIs
  · obtain ⟨_, _, xs, _, dd⟩ := dt_rd I.hok e
    exact dd.typeIs
/-- d[y] -/
def tDGet (td ty : TE) : TE := fun σ H Q => td σ H fun x H1 => ty σ H1 fun y H2 => ∃ a v, x = .ref a ∧ DGet H2 a y (some v) ∧ Q v H2
def tDNotIn (ty td : TE) : TE := fun σ H Q => ty σ H fun y H1 => td σ H1 fun x H2 => ∃ a o, x = .ref a ∧ DGet H2 a y o ∧ Q (.bl (!o.isSome)) H2
/-- d[y] = v -/
def sDPut (td ty tv : TE) : TS := fun D σ H => tv σ H fun v H1 => td σ H1 fun x H2 => ty σ H2 fun y H3 => ∃ a H4, x = .ref a ∧ DPut H3 a y v H4 ∧ D.nx σ H4
section
variable {X : Cx} {o i e value : Expr} {pos pos' tpos : Pos} {td ty tv : TE}
theorem pe_dget (hu : X.A.units + 1 < cLine) (ho : PE X o td) (hi : PE X i ty) (hs : NoSl i) : PE X (.Subscript o i pos) (tDGet td ty) := by
  intro pins s σ H Q I h
  refine subD_of PySem.F.slot_dict_getitem.lookup hs (thn (ho pins s σ H _ I h) fun u s1 ⟨x, H1, I1, rx, q1⟩ => thn (hi pins s1 σ H1 _ I1 q1) fun iv s2 ⟨y, H2, I2, ry, a, v, ex, g, q2⟩ => ?_)
  subst ex
  obtain rfl : u = Value.ref a := rx
  exact ⟨dict_typeIs I2 g, d_getItem hu I2 g ry fun w' s3 I3 rw' => ⟨v, H2, I3, rw', q2⟩⟩
theorem pc_dnotin (hu : X.A.units + 1 < cLine) (hi : PE X i ty) (ho : PE X o td) : PC X .NotIn i o (tDNotIn ty td) := by
  intro pins s σ H Q I h
  refine thn (hi pins s σ H _ I h) fun iv s1 ⟨y, H1, I1, ry, q1⟩ => thn (ho pins s1 σ H1 _ I1 q1) fun u s2 ⟨x, H2, I2, rx, a, ov, ex, g, q2⟩ => ?_
  subst ex
  obtain rfl : u = Value.ref a := rx
  exact d_notIn hu I2 g ry fun s3 I3 => ⟨.bl (!ov.isSome), H2, I3, rfl, q2⟩
theorem ps_dput (hu : X.A.units + 1 < cLine) (ho : PE X o td) (hi : PE X i ty) (hv : PE X value tv) (hs : swapsWith value (some (.Subscript o i pos')) pos.line X.env = pure false) :
    PS X (.Assign [.Subscript o i pos'] value pos) (sDPut td ty tv) := by
  intro pins s σ H D I h
  refine wpAny_Assign_Subscript (thn (hv pins s σ H _ I h) fun r s1 ⟨v, H1, I1, rv, q1⟩ => thn (ho pins s1 σ H1 _ I1 q1) fun u s2 ⟨x, H2, I2, rx, q2⟩ => thn (hi pins s2 σ H2 _ I2 q2) fun iv s3 ⟨y, H3, I3, ry, a, H4, ex, g, q3⟩ => ?_) hs
  subst ex
  obtain rfl : u = Value.ref a := rx
  exact d_setItem hu I3 g ry rv fun s4 I4 => ⟨σ, H4, I4, q3⟩
end


/-! ### displays -/
theorem dk_empty {P : Program} {w : World} {H : Hp} (h : Heap) (hb : sysModules < h.objs.size) : ObjOk P w H (h.push { cls := .type "dict", data := .dict #[] }) h.objs.size (.dK []) :=
  ⟨Nat.zero_le _, beq_eq_false_iff_ne.mpr (Ne.symm (Nat.ne_of_lt hb)), [], .nil, Heap.DictOf.new h⟩
section
variable {X : Cx} {pos : Pos}
end

/-- a is a dict, whatever its keys -/
def IsD (H : Hp) (a : Addr) : Prop := (∃ kvs, Rd H a (.dK kvs)) ∨ ∃ kvs, Rd H a (.dT kvs)
theorem isD_at {X : Cx} {pins : List (Addr × Obj)} {σ : St} {H : Hp} {s : Shared} {a : Addr} (I : Inv X pins σ H s) (d : IsD H a) :
    s.TypeIs (.ref a) "dict" ∧ (∀ b, Value.ref a = .ref b → ∃ ob, s.heap.get? b = some ob ∧ ob.dict = none) ∧ (a == sysModules) = false := by
  rcases d with ⟨kvs, e⟩ | ⟨kvs, e⟩
  · obtain ⟨_, hd, vs, _, dd⟩ := dk_rd I.hok e
    refine ⟨dd.typeIs, fun b q => ?_, hd⟩
    cases q
    obtain ⟨ob, _, _, h1, h2, _⟩ := dd
    exact ⟨ob, h1, h2.2.1⟩
  · obtain ⟨_, hd, xs, _, dd⟩ := dt_rd I.hok e
    refine ⟨dd.typeIs, fun b q => ?_, hd⟩
    cases q
    obtain ⟨ob, _, _, h1, h2, _⟩ := dd
    exact ⟨ob, h1, h2.2.1⟩

section
variable {X : Cx} {pins : List (Addr × Obj)} {σ : St} {H : Hp} {s : Shared} {a : Addr} {y d : V} {u r : Value} {o : Option V} {A : Around} {E : Value → Shared → Prop}
end

section
variable {X : Cx} {o e f : Expr} {apos cpos : Pos} {td ty tx : TE}
end

/-! ### dict(d): a copy -/
section
variable {X : Cx} {pins : List (Addr × Obj)} {σ : St} {H : Hp} {s : Shared} {a : Addr} {kvs : List (Key × V)} {A : Around} {E : Value → Shared → Prop}
theorem d_copyOf {Q : Value → Shared → Prop} (I : Inv X pins σ H s) (e : Rd H a (.dK kvs)) (h : ∀ p s', H p = none → Inv X pins σ (upd H p (.dK kvs)) s' → Q (.ref p) s') : wpAny (model X.prog X.w) A (call (.type "dict") [.ref a]) Q E s := by
  obtain ⟨z, hd, vs, rel, dd⟩ := dk_rd I.hok e
  refine kt_call_dict hd dd (by rw [← rel.length]; exact z) fun h' dd' hs => ?_
  refine h _ _ (I.hok.fresh (Nat.le_refl _)) (I.laid (a := s.heap.objs.size) (o := .dK kvs) (t' := s.toks) (fun b q hq => ?_) (Nat.le_refl _) (dk_new z (beq_eq_false_iff_ne.mpr (Ne.symm (Nat.ne_of_lt I.big))) rel dd'))
  exact (hs.2 b (Nat.ne_of_lt (Heap.lt_size hq))).trans (Heap.get?_push_of_some _ hq)
end


section
variable {X : Cx} {pins : List (Addr × Obj)} {σ : St} {H : Hp} {s : Shared} {a : Addr} {y : V} {u : Value} {A : Around} {E : Value → Shared → Prop}
end
end L2

namespace L2
open PySem PySem.Spec PyProof.Rows
section
variable {X : Cx}
end
/-! ### a dict's pairs: keys that differ -/
section
variable {κ : Type} [DecidableEq κ]
end
end L2

set_option Elab.async false
set_option linter.all false
set_option maxRecDepth 100000
set_option maxHeartbeats 4000000
/-! ### dict comprehensions -/
namespace L2
open PySem PySem.Spec PyProof.Rows
/-- one turn after another; nothing is raised -/
theorem compd_loop {prog : Program} {w : World} {A : Around} {R : Result → Shared → Prop} {s : Shared} {kx vx target iter : Expr} {ifs : List Expr} {scope : Scope} {pos : Pos} {it : Value} {D : Addr} {env : Env} (J : Nat → Shared → Prop)
    (turn : ∀ n s, J n s → wpAny (model prog w) A (pyNext it) (fun r s1 => match r with
      | none => R (.ok .next) s1
      | some v => wpAny (model prog w) A (letOwnedTupleGo target it v) (fun _ s2 => wpAny (model prog w) A (assign target env v) (fun _ s3 =>
          wpAny (model prog w) A (forIn ifs true fun c r => if r = true then do let ok ← isTrue c env (eval c env); pure (ForInStep.yield ok) else pure (ForInStep.yield r)) (fun ok s4 =>
            if ok = true then wpAny (model prog w) A (eval kx env) (fun kv s5 => wpAny (model prog w) A (eval vx env) (fun vv s6 => wpAny (model prog w) A (dictSet D kv vv) (fun _ s7 => ∃ m, m < n ∧ J m s7) (fun _ _ => False) s6) (fun _ _ => False) s5) (fun _ _ => False) s4
            else ∃ m, m < n ∧ J m s4) (fun _ _ => False) s3) (fun _ _ => False) s2) (fun _ _ => False) s1) (fun _ _ => False) s)
    (n : Nat) (h : J n s) : codeAny (model prog w) A (.compLoop (.DictComp kx vx [⟨target, iter, ifs, 0⟩] scope pos) 0 it (.ref D) env) R s := by
  refine codeAny_loop rfl J (fun k s' hk => ?_) n h
  show wpAny _ A (Sem.onRaise (compTurn (.DictComp kx vx [⟨target, iter, ifs, 0⟩] scope pos) 0 it (.ref D) env) (fun x => do noteFrame x env; theTreesLotGoes x)) _ _ s'
  refine wpAny_noted ?_
  rw [compTurn_dict]
  refine wpAny_bind (wpAny_standAt (wpAny_bind (wpAny_mono (turn k s' hk) (fun r s1 q1 => ?_) fun _ _ f => f.elim)))
  cases r with
  | none => exact wpAny_pure q1
  | some v =>
    refine wpAny_bind (wpAny_mono q1 (fun _ s2 q2 => wpAny_bind (wpAny_mono q2 (fun _ s3 q3 => wpAny_bind (wpAny_mono q3 (fun ok s4 q4 => ?_) fun _ _ f => f.elim)) fun _ _ f => f.elim)) fun _ _ f => f.elim)
    cases ok with
    | false => exact wpAny_pure ⟨rfl, q4⟩
    | true => exact wpAny_bind (wpAny_bind (wpAny_mono q4 (fun kv s5 q5 => wpAny_bind (wpAny_holding (wpAny_mono q5 (fun vv s6 q6 => wpAny_bind (wpAny_standAt (wpAny_holding (wpAny_mono q6 (fun _ s7 q7 => wpAny_pure ⟨rfl, q7⟩) fun _ _ f => f.elim)))) fun _ _ f => f.elim))) fun _ _ f => f.elim))

theorem d_dictSet {X : Cx} {pins : List (Addr × Obj)} {σ : St} {H : Hp} {s : Shared} {A : Around} {E : Value → Shared → Prop} {a : Addr} {kvs : List (Key × V)} {k : Key} {v : V} {u r : Value} {Q : Unit → Shared → Prop} (I : Inv X pins σ H s) (e : H a = some (.dK kvs)) (l : kvs.length < sizeLine) (ry : RelV (kV k) u) (rv : RelV v r)
    (h : ∀ s', Inv X pins σ (upd H a (.dK (putK kvs k v))) s' → Q () s') : wpAny (model X.prog X.w) A (dictSet a u r) Q E s := by
  obtain ⟨z, hd, vs, rel, dd⟩ := dk_of I.hok e
  have hz : vs.length ≤ sizeLine := by rw [← rel.length]; exact z
  have hl : (putK kvs k v).length ≤ sizeLine := by have := length_putK kvs k v; omega
  refine wpAny_dictSet_pairs (hsz := hz) (kV_is ry) dd fun h' dd' hs => h _ ?_
  have he : ∃ q, h'.get? a = some q := let ⟨q, _, _, hq, _⟩ := dd'; ⟨q, hq⟩
  exact d_write I (by rw [e]; exact True.intro) hs he (dk_new hl hd (rel.put k rv) dd')
/-- what a comprehension is to keep, turn by turn: W the invariant by the turn and a measure, over the block's names and the heap; l the new dict -/
@[irreducible] def DWant (J : It) (g : TG) (tt : TT) (tk tv : TE) (Q : VK) (σ0 : St) (H0 : Hp) (l : Addr) : Prop := ∃ W : Nat → Nat → St → Hp → Prop, (∃ m, W 0 m σ0 H0) ∧
  ∀ i m σ' H', W i m σ' H' → (J.stop i H' ∧ Q (.ref l) H') ∨ (J.go i H' ∧ ∃ N : St → Hp → Prop, (∀ σ3 H3, N σ3 H3 → ∃ m', m' < m ∧ W (i + 1) m' σ3 H3) ∧ ∀ x H2, J.yld i H' x H2 → g x σ' H2 fun σ3 H3 => tt σ3 H3 fun b H4 =>
    if b = true then tk σ3 H4 fun y H5 => tv σ3 H5 fun z H6 => ∃ (kvs : List (Key × V)) (k : Key), H6 l = some (.dK kvs) ∧ y = kV k ∧ kvs.length < sizeLine ∧ N σ3 (upd H6 l (.dK (putK kvs k z))) else N σ3 H4)
/-- {k: v for tg in iter if ..} -/
def tDComp (wi : TI) (src : List (Option Nat)) (g : TG) (tt : TT) (tk tv : TE) : TE := fun σ H Q => wi σ H fun J H1 => ∀ l, H1 l = none → DWant J g tt tk tv Q (srcSt src σ) (upd H1 l (.dK [])) l

/-- the core: fin says what is wanted where the block's turns are over -/
theorem compd_core {X : Cx} {N' : List Str} {src : List (Option Nat)} {sc : Scope} {kx vx tg iter : Expr} {ifs : List Expr} {pos pos' : Pos} {wi : TI} {g : TG} {tt : TT} {tk tv : TE} {use : Option (Value → Sem Unit)} {R : Value → Shared → Prop} (hc : X.calm = true) (S : CScope X N' src sc)
    (hi : PI X tg iter wi) (hg : ∀ s3 H3 fp pn, PG (cxC X N' sc s3 H3 fp pn) tg g) (ht : ∀ s3 H3 fp pn, PF (cxC X N' sc s3 H3 fp pn) ifs tt) (hk : ∀ s3 H3 fp pn, PE (cxC X N' sc s3 H3 fp pn) kx tk) (hv : ∀ s3 H3 fp pn, PE (cxC X N' sc s3 H3 fp pn) vx tv)
    (hs : ∀ x, foldedSetIterable iter X.env x = pure x) {pins : List (Addr × Obj)} {s : Shared} {σ : St} {H : Hp} {Q : VK} (I : Inv X pins σ H s) (h : tDComp wi src g tt tk tv σ H Q)
    (fin : ∀ s3 H3 fp σ4 H4 s5 l, Inv X pins σ H3 s3 → (∀ b ∈ fp, FpOk X pins H3 b) → Inv (cxC X N' sc s3 H3 fp (X.pn ++ pins)) [] σ4 H4 s5 → Q (.ref l) H4 →
      compPost (model X.prog X.w) X.A X.xe use R (.ref l) s3.heap.objs.size (.ok .next) s5) :
    wpAny (model X.prog X.w) X.A (comprehension (.DictComp kx vx [⟨tg, iter, ifs, 0⟩] sc pos) sc X.env pos' newDict false (eval iter X.env) use) R X.xe s := by
  refine wpAny_comprehension_free (use := use) (cl := clOf X.env sc.names []) rfl hs (closure_is fun p hp e => I.ok.has p.1 (S.fv p hp e)) S.kind S.loc ?_
  refine thn (hi pins s σ H _ I h) fun v s1 h1 => thn h1 fun itv s2 h2 => ?_
  obtain ⟨it, fp, tn, J, H2, rfl, I2, T, st2, f2, q⟩ := h2
  have q' := q s2.heap.objs.size (I2.hok.fresh (Nat.le_refl _))
  unfold DWant at q'
  obtain ⟨W, ⟨m0, w0⟩, turn⟩ := q'
  refine wpAny_newObj_type (wpAny_newFunctionEnv S.nocell (by intro y hy; simp at hy) (fun ha hns hsb => ?_) S.kind)
  have I3 : Inv X pins σ (upd H2 s2.heap.objs.size (.dK [])) { s2 with heap := s2.heap.push { cls := .type "dict", data := .dict #[] } } :=
    I2.laid (t' := s2.toks) (fun b u e => Heap.get?_push_of_some _ e) (Nat.le_refl _) (dk_empty s2.heap I2.big)
  have hfl : ∀ b ∈ fp, b < s2.heap.objs.size := fun b hb => by
    obtain ⟨o, e, _⟩ := T.obj 0 _ st2 b hb
    exact Heap.lt_size e
  have f3 : ∀ b ∈ fp, FpOk X pins (upd H2 s2.heap.objs.size (.dK [])) b := fun b hb => ⟨by rw [upd_ne (Nat.ne_of_lt (hfl b hb))]; exact (f2 b hb).1, (f2 b hb).2⟩
  generalize hs3 : ({ s2 with heap := s2.heap.push { cls := .type "dict", data := .dict #[] } } : Shared) = s3 at *
  have hsz : s2.heap.objs.size < s3.heap.objs.size := by rw [← hs3]; show s2.heap.objs.size < (s2.heap.push _).objs.size; rw [Heap.size_push]; exact Nat.lt_succ_self _
  have kp : ∀ b o, s3.heap.get? b = some o → ha.get? b = some o := fun b o e => hsb.extBut b o (Nat.ne_of_lt (Heap.lt_size e)) (Heap.get?_push_of_some _ e)
  have st3 : tn 0 ha := T.keep 0 _ _ st2 fun b hb o e => kp b o (by rw [← hs3]; exact Heap.get?_push_of_some _ e)
  have I4 : Inv (cxC X N' sc s3 (upd H2 s2.heap.objs.size (.dK [])) fp (X.pn ++ pins)) [] (srcSt src σ) (upd H2 s2.heap.objs.size (.dK [])) { s3 with heap := ha, toks := s3.toks + ([] : List (Str × Value)).length } :=
    cx_start S I3 f3 (fun b hb => Nat.lt_trans (hfl b hb) hsz) hns kp
  have loop : codeAny (model X.prog X.w) X.A (.compLoop (.DictComp kx vx [⟨tg, iter, ifs, 0⟩] sc pos) 0 (.ref it) (.ref s2.heap.objs.size) (compEnvC sc (clOf X.env sc.names []) s3.heap.objs.size X.env))
      (compPost (model X.prog X.w) X.A X.xe use R (.ref s2.heap.objs.size) s3.heap.objs.size) { s3 with heap := ha, toks := s3.toks + ([] : List (Str × Value)).length } := by
    refine compd_loop (fun n s' => ∃ i σ' H', Inv (cxC X N' sc s3 (upd H2 s2.heap.objs.size (.dK [])) fp (X.pn ++ pins)) [] σ' H' s' ∧ tn i s'.heap ∧ (∀ b ∈ fp, H' b = none) ∧ W i n σ' H') ?_ m0 ⟨0, _, _, I4, st3, fun b hb => (f3 b hb).1, w0⟩
    rintro n s4 ⟨i, σ4, H4, J4, st4, fr4, w4⟩
    have stat : ∀ {H' : Hp}, (∀ b ∈ fp, H' b = none) → ∀ b ∈ fp, FpOk (cxC X N' sc s3 (upd H2 s2.heap.objs.size (.dK [])) fp (X.pn ++ pins)) [] H' b := fun hn b hb =>
      ⟨hn b hb, (I4.ok.exf b hb).1, I4.ok.exfs b hb, .inl hb, fun x c e => (I4.ok.exf b hb).2 x c e, fun p hp => (f3 b hb).2.2.2.2.2 p ((List.mem_append.mp hp).elim id fun z => by cases z)⟩
    rcases turn i n σ4 H4 w4 with ⟨stop, qn⟩ | ⟨go, N, hN, step⟩
    · refine thn (T.done (cxC X N' sc s3 (upd H2 s2.heap.objs.size (.dK [])) fp (X.pn ++ pins)) rfl rfl rfl hc i [] s4 σ4 H4 _ J4 (stat fr4) st4 stop) fun r s5 ⟨hr, J5⟩ => ?_
      subst hr
      exact fin s3 _ fp σ4 H4 s5 _ I3 f3 J5 qn
    · refine thn (T.item (cxC X N' sc s3 (upd H2 s2.heap.objs.size (.dK [])) fp (X.pn ++ pins)) rfl rfl rfl hc i [] s4 σ4 H4 _ J4 (stat fr4) st4 go) fun r s5 ⟨u, hr, h5⟩ => ?_
      subst hr
      refine thn h5 fun _ s6 ⟨x, H6, J6, r6, y6, st6, fr6⟩ => ?_
      have J6' := J6.pinned (stat fr6) (T.obj _ _ st6)
      have back : ∀ {pl : List (Addr × Obj)} {σ7 : St} {H7 : Hp} {s7 : Shared}, Inv (cxC X N' sc s3 (upd H2 s2.heap.objs.size (.dK [])) fp (X.pn ++ pins)) ([] ++ pinsAt fp s6.heap) σ7 H7 s7 → N σ7 H7 →
          ∃ m', m' < n ∧ ∃ i σ' H', Inv (cxC X N' sc s3 (upd H2 s2.heap.objs.size (.dK [])) fp (X.pn ++ pins)) [] σ' H' s7 ∧ tn i s7.heap ∧ (∀ b ∈ fp, H' b = none) ∧ W i m' σ' H' := fun {pl σ7 H7 s7} J7 w7 => by
        obtain ⟨m', hm, w7⟩ := hN _ _ w7
        have pinned : ∀ b ∈ fp, ∀ o, s6.heap.get? b = some o → s7.heap.get? b = some o ∧ H7 b = none := fun b hb o e => by
          have := J7.pin (b, o) (List.mem_append_right _ (List.mem_append_right _ (mem_pinsAt hb e)))
          exact ⟨this.1, this.2.1⟩
        refine ⟨m', hm, i + 1, σ7, H7, J7.unpinned, T.keep _ _ _ st6 fun b hb o e => (pinned b hb o e).1, fun b hb => ?_, w7⟩
        obtain ⟨o, e, _⟩ := T.obj _ _ st6 b hb
        exact (pinned b hb o e).2
      refine thn (hg s3 _ fp _ _ s6 σ4 H6 x u _ J6' r6 (step x H6 y6)) fun _ s7 ⟨σ7, H7, J7, q7⟩ => ?_
      refine thn (ht s3 _ fp _ _ s7 σ7 H7 _ J7 q7) fun ok s8 ⟨H8, J8, q8⟩ => ?_
      cases ok with
      | false =>
        rw [if_neg Bool.false_ne_true] at q8 ⊢
        exact back (pl := []) J8 q8
      | true =>
        rw [if_pos rfl] at q8 ⊢
        refine thn (hk s3 _ fp _ _ s8 σ7 H8 _ J8 q8) fun y s9 ⟨yv, H9, J9, r9, q9⟩ => ?_
        refine thn (hv s3 _ fp _ _ s9 σ7 H9 _ J9 q9) fun z s10 ⟨zv, H10, J10, r10, kvs, k, hl, ey, hz, q10⟩ => ?_
        subst ey
        refine d_dictSet (X := cxC X N' sc s3 (upd H2 s2.heap.objs.size (.dK [])) fp (X.pn ++ pins)) J10 hl hz r9 r10 fun s11 J11 => ?_
        exact back (pl := []) J11 q10
  exact codeAny_compStart_dict loop (T.self X.A 0 _ _ _ st3 loop)
theorem pe_dcomp {X : Cx} {N' : List Str} {src : List (Option Nat)} {sc : Scope} {kx vx tg iter : Expr} {ifs : List Expr} {pos : Pos} {wi : TI} {g : TG} {tt : TT} {tk tv : TE} (hc : X.calm = true) (S : CScope X N' src sc)
    (hi : PI X tg iter wi) (hg : ∀ s3 H3 fp pn, PG (cxC X N' sc s3 H3 fp pn) tg g) (ht : ∀ s3 H3 fp pn, PF (cxC X N' sc s3 H3 fp pn) ifs tt) (hk : ∀ s3 H3 fp pn, PE (cxC X N' sc s3 H3 fp pn) kx tk) (hv : ∀ s3 H3 fp pn, PE (cxC X N' sc s3 H3 fp pn) vx tv)
    (hs : ∀ x, foldedSetIterable iter X.env x = pure x := by intro _; rfl) : PE X (.DictComp kx vx [⟨tg, iter, ifs, 0⟩] sc pos) (tDComp wi src g tt tk tv) := by
  intro pins s σ H Q I h
  rw [arm_eval_DictComp]
  refine compd_core (use := none) hc S hi hg ht hk hv hs I h fun s3 H3 fp σ4 H4 s5 l I3 f3 J5 q => ?_
  obtain ⟨m, hn, _⟩ := J5.loc
  exact ⟨m, hn, fun h' sb => ⟨.ref l, H4, cx_end I3 f3 J5 sb, rfl, q⟩⟩
end L2

set_option Elab.async false
set_option linter.all false
set_option maxRecDepth 100000
set_option maxHeartbeats 4000000
/-! ### enumerate, over tuples and lists, from 0 or 1 -/
namespace PySem
open Sem (wp)
section
variable {prog : Program} {w : World} {A : Around} {E : Value → Shared → Prop} {s : Shared}
theorem nextOf_tup_item {it l : Addr} {i : Nat} {items : Array Value} {x : Value} {Q : Value → Shared → Prop} (hit : s.heap.IsTupleIter it l i) (hl : s.heap.IsTuple l items) (hx : items[i]? = some x)
    (hQ : ∀ h', h'.IsTupleIter it l (i + 1) → Heap.SameBut it s.heap h' → Q x { s with heap := h' }) : wpAny (model prog w) A (Builtin.SmallTypes.nextOf (.ref it)) Q E s := by
  obtain ⟨o, ho, hc, hd⟩ := id hit
  obtain ⟨ol, hol, _, nl, hdl⟩ := hl
  unfold Builtin.SmallTypes.nextOf
  refine wpAny_bind (wpAny_callSpecial?_slot (name := Str.ofString "__next__") hit.typeIs PyProof.Rows.slot_tupleiter_next (wpAny_call_entry PyProof.Rows.slot_tupleiter_next hit.typeIs PyProof.Rows.entry_tupleiter_next ?_ (PyProof.Rows.args_tupleiter_next _)))
  show wpAny _ _ (field (.ref it) 0 >>= _) _ _ s
  refine wpAny_bind (wpAny_field ho hd (x := .ref l) rfl ?_)
  show wpAny _ _ (if (Value.ref l == Value.none) = true then _ else _) _ _ s
  rw [if_neg (show ¬ ((Value.ref l == Value.none) = true) from Bool.false_ne_true)]
  show wpAny _ _ (field (.ref it) 1 >>= _) _ _ s
  refine wpAny_bind (wpAny_field ho hd (x := .int i 0) rfl ?_)
  show wpAny _ _ (seqItems? (.ref l) >>= _) _ _ s
  refine wpAny_bind (wpAny_seqItems hol hdl ?_)
  simp only [Int.toNat_natCast, hx]
  refine wpAny_bind (wpAny_setField ho hd (by simp) (wpAny_pure ⟨x, rfl, wpAny_pure (hQ _ ?_ (Heap.SameBut.update ..))⟩))
  exact ⟨_, Heap.get?_update_self _ ho (Obj.isFreed_of_fields (Obj.data_mapFields hd _)), (Obj.cls_mapFields ..).trans hc, by rw [Obj.data_mapFields hd]; simp [rawInt]⟩
theorem nextOf_tup_end {it l : Addr} {i : Nat} {items : Array Value} {Q : Value → Shared → Prop} (hh : A.handled = none) (hit : s.heap.IsTupleIter it l i) (hl : s.heap.IsTuple l items) (hx : items[i]? = none)
    (hE : ∀ h' e, Heap.ExtBut it s.heap h' → (∃ o, h'.get? e = some o ∧ o.cls = .type "StopIteration") → E (.ref e) { s with heap := h' }) : wpAny (model prog w) A (Builtin.SmallTypes.nextOf (.ref it)) Q E s := by
  obtain ⟨o, ho, hc, hd⟩ := id hit
  obtain ⟨ol, hol, _, nl, hdl⟩ := hl
  unfold Builtin.SmallTypes.nextOf
  refine wpAny_bind (wpAny_callSpecial?_slot (name := Str.ofString "__next__") hit.typeIs PyProof.Rows.slot_tupleiter_next (wpAny_call_entry PyProof.Rows.slot_tupleiter_next hit.typeIs PyProof.Rows.entry_tupleiter_next ?_ (PyProof.Rows.args_tupleiter_next _)))
  show wpAny _ _ (field (.ref it) 0 >>= _) _ _ s
  refine wpAny_bind (wpAny_field ho hd (x := .ref l) rfl ?_)
  show wpAny _ _ (if (Value.ref l == Value.none) = true then _ else _) _ _ s
  rw [if_neg (show ¬ ((Value.ref l == Value.none) = true) from Bool.false_ne_true)]
  show wpAny _ _ (field (.ref it) 1 >>= _) _ _ s
  refine wpAny_bind (wpAny_field ho hd (x := .int i 0) rfl ?_)
  show wpAny _ _ (seqItems? (.ref l) >>= _) _ _ s
  refine wpAny_bind (wpAny_seqItems hol hdl ?_)
  simp only [Int.toNat_natCast, hx]
  refine wpAny_bind (wpAny_rule (wpAny_bind (wpAny_setField ho hd (by simp) ?_)))
  show wpAny _ _ (newExc (.type "StopIteration") [] >>= _) _ _ _
  refine wpAny_bind ?_
  simp only [newExc, newTuple]
  refine wpAny_bind (wpAny_newObj_type ?_ (by size_fits))
  refine wpAny_bind (m := firstArgMember _ _) (wpAny_of_eq (a := Value.none) (by first | rfl | (simp only [firstArgMember]; rfl)) ?_)
  refine wpAny_newObj_type ?_ (by size_fits)
  simp only [raiseNew]
  refine wpAny_bind (wpAny_handled ?_)
  first | rw [show A.in1.handled = none from hh] | rw [hh]
  refine wpAny_bind (wpAny_pure (wpAny_throw ?_))
  exact hE _ _ (((Heap.SameBut.update ..).extBut.push _).push _) ⟨_, Heap.get?_push_size _ rfl, rfl⟩
end
theorem Draws.tup {prog : Program} {w : World} {A : Around} (hh : A.handled = none) (it l : Addr) (hne : l ≠ it) (items : Array Value) :
    Draws prog w A it [it, l] items.size (fun i v => items[i]? = some v) (fun i h => h.IsTupleIter it l i ∧ h.IsTuple l items) where
  live := fun _ _ st => let ⟨o, ho, _⟩ := st.1; ⟨o, ho⟩
  frame := fun _ _ _ st hk => ⟨st.1.at fun o e => hk it (by simp) o e, let ⟨o, e, r⟩ := st.2; ⟨o, hk l (by simp) o e, r⟩⟩
  item := fun i s Q E hi st hQ => nextOf_tup_item st.1 st.2 (x := items[i]) (by simp [hi]) fun h' hit' hs' => hQ _ h' s.toks (by simp [hi]) ⟨hit', let ⟨o, e, r⟩ := st.2; ⟨o, hs'.extBut _ _ hne e, r⟩⟩ hs'
  done := fun s Q E st hE => nextOf_tup_end hh st.1 st.2 (by simp) hE
/-- the same, counted from k on -/
theorem Draws.from {prog : Program} {w : World} {A : Around} {it : Addr} {fp : List Addr} {n : Nat} {P : Nat → Value → Prop} {St : Nat → Heap → Prop} (D : Draws prog w A it fp n P St) (k : Nat) :
    Draws prog w A it fp (k + n) (fun j v => ∃ i, j = k + i ∧ P i v) (fun j h => ∃ i, j = k + i ∧ i ≤ n ∧ St i h) where
  live := fun _ _ ⟨i, _, _, st⟩ => D.live i _ st
  frame := fun _ _ _ ⟨i, e, hi, st⟩ hk => ⟨i, e, hi, D.frame i _ _ st hk⟩
  item := fun j s Q E hj ⟨i, e, hi, st⟩ hQ => D.item i s Q E (by omega) st fun x h' tk p st' sb => hQ x h' tk ⟨i, e, p⟩ ⟨i + 1, by omega, by omega, st'⟩ sb
  done := fun s Q E ⟨i, e, hi, st⟩ hE => by
    have : i = n := by omega
    subst this
    exact D.done s Q E st hE
end PySem
namespace L2
open PySem PySem.Spec PyProof.Rows
section
variable {X : Cx} {pins : List (Addr × Obj)} {σ : St} {H : Hp} {s : Shared} {h' : Heap}
/-- untracked records of ours at fp have turned, and a new object is laid at t -/
theorem Inv.turnedNew {t' : Nat} {fp : List Addr} {t : Addr} {o : HO} (I : Inv X pins σ H s) (ht : s.heap.objs.size ≤ t) (k : ∀ b u, b ∉ fp → s.heap.get? b = some u → h'.get? b = some u) (hf : ∀ b ∈ fp, FpOk X pins H b) (new : ObjOk X.prog X.w (upd H t o) h' t o) :
    Inv X pins σ (upd H t o) { s with heap := h', toks := t' } := by
  have nt := I.hok.fresh ht
  have old : ∀ b u, s.heap.get? b = some u → b ≠ t := fun b u e z => absurd (Nat.lt_of_lt_of_le (Heap.lt_size e) ht) (by rw [z]; exact Nat.lt_irrefl _)
  have nf : ∀ b u, H b = some u → b ∉ fp := fun b u e z => by rw [(hf b z).1] at e; cases e
  have tr : ∀ b u, H b = some u → (upd H t o) b = some u := fun b u e => by rw [upd_ne (ne_of_none e nt)]; exact e
  refine I.step (g' := s.gens) (d' := s.drawn) (ch := fp) (fun b hb => ?_) (fun b u _ _ hc e _ => k b u hc e) (fun b u _ _ hc e _ => ⟨u.slots, k b u hc e⟩) (fun b u hc e n => by rw [upd_ne (old b u e)]; exact n)
    (fun b u hc e => ⟨u, k b u hc e⟩) (fun _ _ e => tr _ _ e) (fun _ _ _ e => tr _ _ e) (fun b ps e => ⟨#[], by rw [tr _ _ e]; simp⟩) (fun m hm => ?_) (fun b u e => ?_) I.bare
  · obtain ⟨_, f1, _, f3, f4, f5⟩ := hf b hb
    exact ⟨f3, f1, f4, f5⟩
  · obtain ⟨u, es, ep, hu, r⟩ := hm
    exact ⟨u, es, ep, k _ u (fun z => (hf _ z).2.1 rfl) hu, r⟩
  · by_cases hb : b = t
    · subst hb
      rw [upd_same] at e
      cases e
      exact new
    · rw [upd_ne hb] at e
      refine (I.hok b u e).stay (fun c v hc q => k c v ?_ q) (fun c q => tr _ _ q) fun c xs q => tr _ _ q
      rcases hc with z | z
      · rw [z]; exact nf b u e
      · exact nf c _ z
theorem Inv.turnedL {t' : Nat} {fp : List Addr} (I : Inv X pins σ H s) (k : ∀ b u, b ∉ fp → s.heap.get? b = some u → h'.get? b = some u) (hf : ∀ b ∈ fp, FpOk X pins H b) : Inv X pins σ H { s with heap := h', toks := t' } := by
  have nf : ∀ b u, H b = some u → b ∉ fp := fun b u e z => by rw [(hf b z).1] at e; cases e
  refine I.step (g' := s.gens) (d' := s.drawn) (ch := fp) (fun b hb => ?_) (fun b u _ _ hc e _ => k b u hc e) (fun b u _ _ hc e _ => ⟨u.slots, k b u hc e⟩) (fun b u hc e n => n)
    (fun b u hc e => ⟨u, k b u hc e⟩) (fun _ _ e => e) (fun _ _ _ e => e) (fun b ps e => ⟨#[], by rw [e]; simp⟩) (fun m hm => ?_) (fun b u e => ?_) I.bare
  · obtain ⟨_, f1, _, f3, f4, f5⟩ := hf b hb
    exact ⟨f3, f1, f4, f5⟩
  · obtain ⟨u, es, ep, hu, r⟩ := hm
    exact ⟨u, es, ep, k _ u (fun z => (hf _ z).2.1 rfl) hu, r⟩
  · refine (I.hok b u e).stay (fun c v hc q => k c v ?_ q) (fun _ q => q) fun _ _ q => q
    rcases hc with z | z
    · rw [z]; exact nf b u e
    · exact nf c _ z
end
end L2

set_option Elab.async false
set_option linter.all false
set_option maxRecDepth 100000
set_option maxHeartbeats 1000000

/-! ### any, sum, max of a tuple; numbers of many figures -/
namespace L2
open PySem PySem.Spec PyProof.Rows
section
variable {X : Cx}

theorem range_any (bs : List Bool) : ((List.range bs.length).any fun i => (bs[i]?).getD false) = bs.any id := by
  induction bs with
  | nil => rfl
  | cons b r ih =>
    rw [List.length_cons, List.range_succ_eq_map, List.any_cons, List.any_map, List.any_cons]
    show ((some b).getD false || _) = _
    rw [show ((fun i => ((b :: r)[i]?).getD false) ∘ Nat.succ) = fun i => (r[i]?).getD false from by funext i; simp [Function.comp]]
    rw [ih]
    rfl
theorem call_any (hc : X.calm = true) : CallR X (.builtin "any") (fun xs H Q => ∃ (p : Addr) (bs : List Bool), xs = [.ref p] ∧ SqL X.K H p (bs.map V.bl) ∧ Q (.bl (bs.any id)) H) := by
  intro pins s σ H xs us Q I r h
  obtain ⟨p, bs, rfl, hq, q⟩ := h
  obtain ⟨u, rfl, rx⟩ := vals1 r
  cases rx
  obtain ⟨its, rv, pl, hz⟩ := I.list hq
  have hb := bools_of rv
  have hl := pl.isList
  have hlt : p < s.heap.objs.size := by obtain ⟨_, e, _⟩ := hl; exact Heap.lt_size e
  refine call_any_walk (wpAny_pyIter_list hl ?_)
  refine ⟨s.heap.objs.size, [s.heap.objs.size, p], [s.heap.objs.size], its.toArray.size, _, _, fun i => (bs[i]?).getD false, rfl, Walks.list (A := X.A.in1) (I.ok.hd hc) _ p (Nat.ne_of_lt hlt) its.toArray,
    ⟨⟨_, Heap.get?_push_size _ rfl, rfl, rfl⟩, hl.push _⟩, fun i v s' Q' E' hP hQ => ?_, fun h' tk hk => ?_⟩
  · obtain ⟨b, e, rfl⟩ := hb.get i v (by simpa using hP)
    simp only [e, Option.getD_some] at hQ
    exact wpAny_truthy_bool hQ
  · have e : ((List.range its.toArray.size).any fun i => (bs[i]?).getD false) = bs.any id := by
      rw [List.size_toArray, hb.length]; exact range_any bs
    rw [e]
    exact ⟨.bl (bs.any id), H, I.kept (LSm.kept_iter hk), rfl, q⟩

/-! numbers of up to 8,000 binary figures -/
def CBig (i j : Int) : Prop := i.natAbs < 2 ^ 8000 ∧ j.natAbs < 2 ^ 8000
theorem bits_big {k : Int} (h : k.natAbs < 2 ^ 8000) : Builtin.Int.intBits k ≤ 8000 := by
  unfold Builtin.Int.intBits
  split
  · exact Nat.zero_le _
  · rcases Nat.eq_zero_or_pos k.natAbs with h0 | hp
    · rw [h0]; decide
    · have := (Nat.log2_lt (Nat.ne_of_gt hp)).mpr h
      omega
theorem CBig.ok {i j : Int} (h : CBig i j) : IntMulOk i j := by
  have h1 := bits_big h.1
  have h2 := bits_big h.2
  unfold IntMulOk
  have e : Builtin.Int.intTooBig (Builtin.Int.intBits i + Builtin.Int.intBits j) = false := by
    unfold Builtin.Int.intTooBig
    rw [bitsLine_eq]
    exact decide_eq_false (by omega)
  rw [e, Bool.and_false]
  exact Bool.false_ne_true
end
end L2

set_option Elab.async false
set_option linter.all false
set_option maxRecDepth 100000
set_option maxHeartbeats 1000000
set_option pp.maxSteps 400
/-! ### zip, of any number of lists and tuples -/
namespace PySem.ZZ
open PySem
section
variable {prog : Program} {w : World} {A : Around} {E : Value → Shared → Prop} {s : Shared}
/-- an iterator that stands at the i-th of a list or a tuple -/
structure Src where
  it : Addr
  a : Addr
  items : Array Value
def SrcAt (h : Heap) (x : Src) (i : Nat) : Prop := (h.IsListIter x.it x.a i ∧ h.IsList x.a x.items) ∨ (h.IsTupleIter x.it x.a i ∧ h.IsTuple x.a x.items)
theorem SrcAt.keep {h h' : Heap} {x : Src} {i : Nat} (q : SrcAt h x i) (k1 : ∀ o, h.get? x.it = some o → h'.get? x.it = some o) (k2 : ∀ o, h.get? x.a = some o → h'.get? x.a = some o) : SrcAt h' x i := by
  rcases q with ⟨q1, q2⟩ | ⟨q1, o, e, r⟩
  · exact .inl ⟨q1.at k1, q2.at k2⟩
  · exact .inr ⟨q1.at k1, o, k2 o e, r⟩
theorem SrcAt.ne {h : Heap} {x : Src} {i : Nat} (q : SrcAt h x i) : x.a ≠ x.it := fun z => by
  rcases q with ⟨⟨o, e, c, _⟩, ⟨o', e', c', _⟩⟩ | ⟨⟨o, e, c, _⟩, ⟨o', e', c', _⟩⟩
  · rw [z, e] at e'; cases e'; rw [c] at c'; injection c' with y; exact absurd y (by decide)
  · rw [z, e] at e'; cases e'; rw [c] at c'; injection c' with y; exact absurd y (by decide)
theorem SrcAt.ex {h : Heap} {x : Src} {i : Nat} (q : SrcAt h x i) : (∃ o, h.get? x.it = some o) ∧ ∃ o, h.get? x.a = some o := by
  rcases q with ⟨⟨o, e, _⟩, ⟨o', e', _⟩⟩ | ⟨⟨o, e, _⟩, ⟨o', e', _⟩⟩
  · exact ⟨⟨o, e⟩, o', e'⟩
  · exact ⟨⟨o, e⟩, o', e'⟩
abbrev IsZ (h : Heap) (z TI TO : Addr) (f0 f1 : Value) : Prop := h.get? z = some { cls := .type "zip", dict := none, data := .fields #[f0, f1, .bool false, .ref TI, .ref TO], slots := #[] }
abbrev IsTu (h : Heap) (T : Addr) (xs : List Value) : Prop := h.get? T = some { cls := .type "tuple", data := .seq xs.toArray }
structure Apart (z TI TO : Addr) (ls : List Src) : Prop where
  TIz : TI ≠ z
  TOz : TO ≠ z
  TITO : TI ≠ TO
  it : ∀ x ∈ ls, x.it ≠ z ∧ x.it ≠ TI ∧ x.it ≠ TO
  a : ∀ x ∈ ls, x.a ≠ z ∧ x.a ≠ TO
  ai : ∀ x ∈ ls, ∀ y ∈ ls, x.a ≠ y.it
  nd : (ls.map (·.it)).Nodup
/-- what zip's turn leaves as it is -/
def Rest (z TO : Addr) (ls : List Src) (h h' : Heap) : Prop := ∀ c o, c ≠ z → c ≠ TO → c ∉ ls.map (·.it) → h.get? c = some o → h'.get? c = some o
/-- between two draws of one turn: k are drawn -/
structure Mid (z TI TO : Addr) (ls : List Src) (xs olds : List Value) (i : Nat) (f0 f1 : Value) (h : Heap) (k : Nat) (h' : Heap) : Prop where
  hz : IsZ h' z TI TO f0 f1
  hTI : IsTu h' TI (ls.map fun x => .ref x.it)
  done : ∀ j x, ls[j]? = some x → SrcAt h' x (if j < k then i + 1 else i)
  rest : Rest z TO ls h h'
  size : h'.objs.size = h.objs.size
theorem Mid.draw {z TI TO : Addr} {ls : List Src} {xs olds : List Value} {i : Nat} {f0 f1 : Value} {h h1 h2 : Heap} {k : Nat} {x : Src} (D : Apart z TI TO ls) (m : Mid z TI TO ls xs olds i f0 f1 h k h1) (hx : ls[k]? = some x) (q : SrcAt h2 x (i + 1)) (sb : Heap.SameBut x.it h1 h2) :
    Mid z TI TO ls xs olds i f0 f1 h (k + 1) h2 := by
  have hm := List.mem_of_getElem? hx
  have hi := D.it x hm
  refine ⟨sb.extBut _ _ hi.1.symm m.hz, sb.extBut _ _ hi.2.1.symm m.hTI, fun j y hy => ?_, fun c o c1 c2 c3 e => sb.extBut _ _ (fun z => c3 (z ▸ List.mem_map.mpr ⟨x, hm, rfl⟩)) (m.rest c o c1 c2 c3 e), by rw [sb.1, m.size]⟩
  by_cases hj : j = k
  · subst hj
    rw [hx] at hy
    cases hy
    rw [if_pos (Nat.lt_succ_self _)]
    exact q
  · have h1 := m.done j y hy
    have hne : y.it ≠ x.it := fun z => hj (by
      have e1 : (ls.map (·.it))[j]? = some y.it := by rw [List.getElem?_map, hy]; rfl
      have e2 : (ls.map (·.it))[k]? = some x.it := by rw [List.getElem?_map, hx]; rfl
      rw [z] at e1
      have l1 := (List.getElem?_eq_some_iff.mp e1)
      have l2 := (List.getElem?_eq_some_iff.mp e2)
      exact (List.getElem_inj D.nd).mp (l1.2.trans l2.2.symm))
    have hc : (if j < k + 1 then i + 1 else i) = (if j < k then i + 1 else i) := by
      by_cases c : j < k
      · rw [if_pos c, if_pos (by omega)]
      · rw [if_neg c, if_neg (by omega)]
    rw [hc]
    exact h1.keep (fun o e => sb.extBut _ _ hne e) (fun o e => sb.extBut _ _ (D.ai y (List.mem_of_getElem? hy) x hm) e)
theorem Mid.other {z TI TO : Addr} {ls : List Src} {xs olds : List Value} {i : Nat} {f0 f1 : Value} {h h1 h2 : Heap} {k : Nat} (D : Apart z TI TO ls) (m : Mid z TI TO ls xs olds i f0 f1 h k h1) (sb : Heap.SameBut TO h1 h2) : Mid z TI TO ls xs olds i f0 f1 h k h2 := by
  refine ⟨sb.extBut _ _ D.TOz.symm m.hz, sb.extBut _ _ D.TITO m.hTI, fun j y hy => ?_, fun c o c1 c2 c3 e => sb.extBut _ _ c2 (m.rest c o c1 c2 c3 e), by rw [sb.1, m.size]⟩
  have hm := List.mem_of_getElem? hy
  exact (m.done j y hy).keep (fun o e => sb.extBut _ _ (D.it y hm).2.2 e) (fun o e => sb.extBut _ _ (D.a y hm).2 e)
end
end PySem.ZZ

set_option Elab.async false
set_option linter.all false
set_option maxRecDepth 100000
set_option maxHeartbeats 1000000
set_option pp.maxSteps 400
/-! ### zip(a, b), zip(a, b, c) are made -/
namespace PySem
namespace F
end F
end PySem
namespace PySem.ZZ
open PySem
def SeqK (h : Heap) (a : Addr) (xs : Array Value) (c : String) : Prop := (c = "list_iterator" ∧ h.IsList a xs) ∨ (c = "tuple_iterator" ∧ h.IsTuple a xs)
theorem SeqK.src {h h' : Heap} {a it : Addr} {xs : Array Value} {c : String} (q : SeqK h a xs c) (k : ∀ o, h.get? a = some o → h'.get? a = some o) (e : h'.get? it = some { cls := .type c, data := .fields #[.ref a, .int 0 0] }) : SrcAt h' ⟨it, a, xs⟩ 0 := by
  rcases q with ⟨rfl, q⟩ | ⟨rfl, o, ho, r⟩
  · exact .inl ⟨⟨_, e, rfl, rfl⟩, q.at k⟩
  · exact .inr ⟨⟨_, e, rfl, rfl⟩, o, k o ho, r⟩
theorem SeqK.lt {h : Heap} {a : Addr} {xs : Array Value} {c : String} (q : SeqK h a xs c) : a < h.objs.size := by
  rcases q with ⟨rfl, o, e, _⟩ | ⟨rfl, o, e, _⟩
  · exact Heap.lt_size e
  · exact Heap.lt_size e
abbrev itO (c : String) (l : Addr) : Obj := { cls := .type c, data := .fields #[.ref l, .int 0 0] }
abbrev tuO (xs : Array Value) : Obj := { cls := .type "tuple", data := .seq xs }
abbrev z2a (h : Heap) (c1 c2 : String) (l1 l2 : Addr) : Heap := ((((h.push (itO c1 l1)).push (itO c2 l2)).push (tuO #[.ref h.objs.size, .ref (h.push (itO c1 l1)).objs.size])).push (tuO #[.none, .none]))
abbrev z2 (h : Heap) (c1 c2 : String) (l1 l2 : Addr) : Heap := (z2a h c1 c2 l1 l2).push
  { cls := .type "zip", data := .fields #[.none, .bool false, .bool false, .ref ((h.push (itO c1 l1)).push (itO c2 l2)).objs.size, .ref (((h.push (itO c1 l1)).push (itO c2 l2)).push (tuO #[.ref h.objs.size, .ref (h.push (itO c1 l1)).objs.size])).objs.size] }
abbrev z3a (h : Heap) (c1 c2 c3 : String) (l1 l2 l3 : Addr) : Heap := (((((h.push (itO c1 l1)).push (itO c2 l2)).push (itO c3 l3)).push (tuO #[.ref h.objs.size, .ref (h.push (itO c1 l1)).objs.size, .ref ((h.push (itO c1 l1)).push (itO c2 l2)).objs.size])).push (tuO #[.none, .none, .none]))
abbrev z3 (h : Heap) (c1 c2 c3 : String) (l1 l2 l3 : Addr) : Heap := (z3a h c1 c2 c3 l1 l2 l3).push
  { cls := .type "zip", data := .fields #[.none, .bool false, .bool false, .ref (((h.push (itO c1 l1)).push (itO c2 l2)).push (itO c3 l3)).objs.size, .ref ((((h.push (itO c1 l1)).push (itO c2 l2)).push (itO c3 l3)).push (tuO #[.ref h.objs.size, .ref (h.push (itO c1 l1)).objs.size, .ref ((h.push (itO c1 l1)).push (itO c2 l2)).objs.size])).objs.size] }
/-- a zip that is new -/
structure Fresh (h : Heap) (z TI TO : Addr) (ls : List Src) (h' : Heap) : Prop where
  hz : IsZ h' z TI TO .none (.bool false)
  hTI : IsTu h' TI (ls.map fun x => .ref x.it)
  hTO : IsTu h' TO (ls.map fun _ => .none)
  at_ : ∀ x ∈ ls, SrcAt h' x 0
  ap : Apart z TI TO ls
  new : h.objs.size ≤ z ∧ h.objs.size ≤ TI ∧ h.objs.size ≤ TO ∧ ∀ x ∈ ls, h.objs.size ≤ x.it
  keep : ∀ c o, h.get? c = some o → h'.get? c = some o
section
variable {prog : Program} {w : World} {A : Around} {E : Value → Shared → Prop} {s : Shared}
end
end PySem.ZZ

set_option Elab.async false
set_option linter.all false
set_option maxRecDepth 100000
set_option maxHeartbeats 1000000
set_option pp.maxSteps 400
/-! ### tuple(zip(..)), list(zip(..)) -/
namespace PySem
namespace F
end F
end PySem
namespace PySem.ZZ
open PySem
section
variable {prog : Program} {w : World} {A : Around} {E : Value → Shared → Prop} {s : Shared}
/-- a zip drawn from i times: the tuples told stand at ts -/
structure Run (hb : Heap) (z TI TO : Addr) (ls : List Src) (rows : Nat → List Value) (S : Addr) (ts : List Addr) (h : Heap) : Prop where
  inc : ts.Pairwise (· < ·)
  lo : ∀ t ∈ ts, S < t ∧ t < h.objs.size
  at_ : ∀ j t, ts[j]? = some t → IsTu h t (rows j)
  keep : ∀ c o, hb.get? c = some o → h.get? c = some o
  hTI : IsTu h TI (ls.map fun x => .ref x.it)
  hTO : ∃ olds, IsTu h TO olds ∧ olds.length = ls.length
  src : ∀ x ∈ ls, SrcAt h x ts.length
  hz : (ts = [] ∧ IsZ h z TI TO .none (.bool false)) ∨ ∃ (T : Addr) (f1 : Value), ts[0]? = some T ∧ IsZ h z TI TO (rawInt T) f1
/-- the addresses that are there ahead of S -/
structure Below (hb : Heap) (z TI TO : Addr) (ls : List Src) (S : Addr) : Prop where
  ap : Apart z TI TO ls
  old : hb.objs.size ≤ z ∧ hb.objs.size ≤ TI ∧ hb.objs.size ≤ TO ∧ ∀ x ∈ ls, hb.objs.size ≤ x.it
  lz : z < S
  lTI : TI < S
  lTO : TO < S
  it : ∀ x ∈ ls, x.it < S ∧ x.a < S
  base : hb.objs.size ≤ S
theorem Run.frame {hb : Heap} {z TI TO : Addr} {ls : List Src} {rows : Nat → List Value} {S : Addr} {ts : List Addr} {h h' : Heap} (B : Below hb z TI TO ls S) (r : Run hb z TI TO ls rows S ts h) (hs : h'.objs.size = h.objs.size) (k : ∀ c o, c ≠ S → h.get? c = some o → h'.get? c = some o) : Run hb z TI TO ls rows S ts h' := by
  obtain ⟨olds, o1, o2⟩ := r.hTO
  refine ⟨r.inc, fun t ht => by rw [hs]; exact r.lo t ht, fun j t e => k _ _ (Nat.ne_of_gt (r.lo t (List.mem_of_getElem? e)).1) (r.at_ j t e), fun c o e => k _ _ (Nat.ne_of_lt (Nat.lt_of_lt_of_le (Heap.lt_size e) B.base)) (r.keep c o e), k _ _ (Nat.ne_of_lt B.lTI) r.hTI, ⟨olds, k _ _ (Nat.ne_of_lt B.lTO) o1, o2⟩, fun x hx => ?_, ?_⟩
  · exact (r.src x hx).keep (fun o e => k _ _ (Nat.ne_of_lt (B.it x hx).1) e) (fun o e => k _ _ (Nat.ne_of_lt (B.it x hx).2) e)
  · rcases r.hz with ⟨e, q⟩ | ⟨T, f1, e, q⟩
    · exact .inl ⟨e, k _ _ (Nat.ne_of_lt B.lz) q⟩
    · exact .inr ⟨T, f1, e, k _ _ (Nat.ne_of_lt B.lz) q⟩
theorem Run.more {hb : Heap} {z TI TO : Addr} {ls : List Src} {rows : Nat → List Value} {S : Addr} {ts : List Addr} {h h' : Heap} (B : Below hb z TI TO ls S) (r : Run hb z TI TO ls rows S ts h) (hS : S < h.objs.size) (hs : h'.objs.size = h.objs.size + 1) (hr : Rest z TO ls h h')
    (hTI : IsTu h' TI (ls.map fun x => .ref x.it)) (hTO : ∃ olds, IsTu h' TO olds ∧ olds.length = ls.length) (src : ∀ x ∈ ls, SrcAt h' x (ts.length + 1)) (new : IsTu h' h.objs.size (rows ts.length)) (hz : ∃ (T : Addr) (f1 : Value), (ts ++ [h.objs.size])[0]? = some T ∧ IsZ h' z TI TO (rawInt T) f1) : Run hb z TI TO ls rows S (ts ++ [h.objs.size]) h' := by
  have fr : ∀ t, S < t → t ≠ z ∧ t ≠ TO ∧ t ∉ ls.map (·.it) := fun t ht => ⟨fun e => by rw [e] at ht; exact Nat.lt_asymm ht B.lz, fun e => by rw [e] at ht; exact Nat.lt_asymm ht B.lTO, fun e => by
    obtain ⟨x, hx, e'⟩ := List.mem_map.mp e
    rw [← e'] at ht
    exact Nat.lt_asymm ht (B.it x hx).1⟩
  refine ⟨?_, fun t ht => ?_, fun j t e => ?_, fun c o e => ?_, hTI, hTO, fun x hx => by rw [List.length_append]; exact src x hx, .inr hz⟩
  · exact List.pairwise_append.mpr ⟨r.inc, List.pairwise_singleton _ _, fun a ha b hb' => by
      have : b = h.objs.size := by simpa using hb'
      rw [this]
      exact (r.lo a ha).2⟩
  · rw [hs]
    rcases List.mem_append.mp ht with ht | ht
    · have := r.lo t ht; exact ⟨this.1, Nat.lt_succ_of_lt this.2⟩
    · have : t = h.objs.size := by simpa using ht
      rw [this]
      exact ⟨hS, Nat.lt_succ_self _⟩
  · by_cases c : j < ts.length
    · rw [List.getElem?_append_left c] at e
      have hlo := r.lo t (List.mem_of_getElem? e)
      obtain ⟨f1, f2, f3⟩ := fr t hlo.1
      exact hr t _ f1 f2 f3 (r.at_ j t e)
    · rw [List.getElem?_append_right (Nat.le_of_not_lt c)] at e
      have hj : j - ts.length = 0 := by
        have := (List.getElem?_eq_some_iff.mp e).1
        rw [List.length_singleton] at this
        omega
      rw [hj] at e
      cases e
      have : j = ts.length := by omega
      rw [this]
      exact new
  · have hlt := Heap.lt_size e
    refine hr c o (fun q => ?_) (fun q => ?_) (fun q => ?_) (r.keep c o e)
    · rw [q] at hlt; exact absurd hlt (Nat.not_lt.mpr B.old.1)
    · rw [q] at hlt; exact absurd hlt (Nat.not_lt.mpr B.old.2.2.1)
    · obtain ⟨x, hx, e'⟩ := List.mem_map.mp q
      rw [← e'] at hlt
      exact absurd hlt (Nat.not_lt.mpr (B.old.2.2.2 x hx))
end
end PySem.ZZ

set_option Elab.async false
set_option linter.all false
set_option maxRecDepth 100000
set_option maxHeartbeats 1000000
set_option pp.maxSteps 400
namespace PySem.ZZ
open PySem
section
variable {prog : Program} {w : World} {A : Around} {E : Value → Shared → Prop} {s : Shared}
/-- what is drawn from a zip: so many rows -/
structure Rows (ls : List Src) (n : Nat) (rows : Nat → List Value) : Prop where
  row : ∀ j, j < n → (rows j).length = ls.length ∧ ∀ (k : Nat) (x : Src), ls[k]? = some x → ∃ v, (rows j)[k]? = some v ∧ x.items[j]? = some v
  stop : ∃ x ∈ ls, x.items[n]? = none
  ne : ls ≠ []
  few : ls.length ≤ 100
  most : n ≤ 1000
theorem Fresh.below {hb h : Heap} {z TI TO : Addr} {ls : List Src} (f : Fresh hb z TI TO ls h) (hs : hb.objs.size ≤ h.objs.size) : Below hb z TI TO ls h.objs.size :=
  ⟨f.ap, f.new, Heap.lt_size f.hz, Heap.lt_size f.hTI, Heap.lt_size f.hTO, fun x hx => let ⟨⟨_, e1⟩, _, e2⟩ := (f.at_ x hx).ex; ⟨Heap.lt_size e1, Heap.lt_size e2⟩, hs⟩
end
end PySem.ZZ

set_option Elab.async false
set_option linter.all false
set_option maxRecDepth 100000
set_option maxHeartbeats 1000000
/-! ### data that the heap or the text's own constants hold, and its equality; tuple targets within a comprehension -/
namespace L2
open PySem PySem.Spec PyProof.Rows
mutual
inductive RepK (K : PySem.W.Frag) (H : Hp) : V → PyData → Prop
  | non : RepK K H .non .none
  | bl (b : Bool) : RepK K H (.bl b) (.bool b)
  | int (i : Int) : RepK K H (.int i) (.int i)
  | str (x : Str) : RepK K H (.str x) (.str x)
  | tup {a : Addr} {xs : List V} {ds : List PyData} : SqT K H a xs → RepsK K H xs ds → RepK K H (.ref a) (.tuple ds)
inductive RepsK (K : PySem.W.Frag) (H : Hp) : List V → List PyData → Prop
  | nil : RepsK K H [] []
  | cons {x : V} {d : PyData} {xs : List V} {ds : List PyData} : RepK K H x d → RepsK K H xs ds → RepsK K H (x :: xs) (d :: ds)
end
section
variable {X : Cx} {pins : List (Addr × Obj)} {σ : St} {H : Hp} {s : Shared}
mutual
theorem RepK.reads (I : Inv X pins σ H s) : ∀ {v : V} {d : PyData} {u : Value}, RepK X.K H v d → RelV v u → ∃ as, Reads s.heap u d as
  | _, _, _, .non, r => by cases (show _ = Value.none from r); exact ⟨_, .none⟩
  | _, _, _, .bl b, r => by cases (show _ = Value.bool b from r); exact ⟨_, .bool b⟩
  | _, _, _, .int i, r => by obtain ⟨t, rfl⟩ := (show ∃ t, _ = Value.int i t from r); exact ⟨_, .int i t⟩
  | _, _, _, .str x, r => by obtain ⟨t, rfl⟩ := (show ∃ t, _ = Value.str x t from r); exact ⟨_, .str x t⟩
  | _, _, _, .tup (a := a) (xs := xs) e q, r => by
    cases (show _ = Value.ref a from r)
    obtain ⟨its, rv, ⟨o, ho, hc, n, hd⟩, _⟩ := I.tuple e
    obtain ⟨as, z⟩ := RepsK.reads I q rv
    exact ⟨_, .tuple ho hc hd (by simpa using z)⟩
theorem RepsK.reads (I : Inv X pins σ H s) : ∀ {xs : List V} {ds : List PyData} {us : List Value}, RepsK X.K H xs ds → Vals xs us → ∃ as, ReadsAll s.heap us ds as
  | _, _, _, .nil, .nil => ⟨_, .nil⟩
  | _, _, _, .cons p q, .cons r t => by
    obtain ⟨as, a1⟩ := RepK.reads I p r
    obtain ⟨bs, b1⟩ := RepsK.reads I q t
    exact ⟨_, .cons a1 b1⟩
end
end
section
variable {X : Cx} {K : PySem.W.Frag}
theorem op_eqK (h : X.K = K) (hu : X.A.units + 64 < cLine) : OpR X (compareOp .Eq) (fun x y H Q => ∃ d e, RepK K H x d ∧ RepK K H y e ∧ SeqAt.shaped d = true ∧ SeqAt.shaped e = true ∧ Q (.bl (PyData.eqv d e)) H) := by
  subst h
  intro pins s σ H x y v u Q I rx ry h
  obtain ⟨d, e, p, p', sd, se, q⟩ := h
  obtain ⟨as, r1⟩ := p.reads I rx
  obtain ⟨bs, r2⟩ := p'.reads I ry
  exact eq_dataH r1 r2 sd se hu ⟨.bl (PyData.eqv d e), H, I, rfl, q⟩
theorem pg_tupK {es : List Expr} {k : Nat} {pos : Pos} {t : TGs} {n : Nat} (hK : X.K = K) (hc : X.calm = true) (h : PGs X es t)
    (hn : (assignEach es X.env).length = n := by rfl) (hst : (assignEach es X.env).findIdx? (·.1) = none := by rfl) : PG X (.Tuple es k pos) (gTup K n t) := hK ▸ pg_tup hc h hn hst
end
end L2

set_option Elab.async false
set_option linter.all false
set_option maxRecDepth 100000
set_option maxHeartbeats 4000000

/-! ### own exception classes: isinstance of an exception -/
namespace L2
open PySem PySem.Spec PyProof.Rows
/-- the classes above ValueError -/
abbrev veMro : List Value := [.type "ValueError", .type "Exception", .type "BaseException", .type "object"]
/-- what the fragment says of an own exception class under ValueError -/
structure XCl (K : PySem.W.Frag) (C : Addr) : Prop where
  ex : PySem.W.excIn K C veMro "ValueError.__new__" = true
  ga : PySem.W.findIn K (.ref C) "__getattribute__" = some (some (.builtin "BaseException.__getattribute__"))
  gn : PySem.W.findIn K (.ref C) "__getattr__" = some none
  ca : PySem.W.findIn K (.ref C) "__class__" = some (some (.builtin "object.__class__"))
  mo : PySem.W.subIn K (.ref C) (.type "object") = some true
  mb : PySem.W.subIn K (.ref C) (.type "BaseException") = some true
  kp : PySem.W.keepIn K (.ref C) = true
section
variable {K : PySem.W.Frag} {C : Addr}
theorem XCl.look (T : XCl K C) : ∃ dd cd sl, K.lookup C = some ⟨.type "type", dd, .cls cd, sl⟩ := by
  have q := T.ex
  unfold PySem.W.excIn at q
  split at q
  · rename_i dd cd sl ho
    exact ⟨dd, cd, sl, ho⟩
  · cases q
/-- the class as the library's rules want it -/
theorem XCl.obj (T : XCl K C) {h : Heap} (X : K.In h) : ∃ bm N nm q bs hdct sn sub ab col dd k0 k1 k2 k3 k5 mN, h.get? C = some (excClassObj nm q C N bs bm hdct sn sub ab col dd k0 k1 k2 k3 k5 "ValueError.__new__") ∧ h.Ns N mN ∧ mN "__init__" = none ∧ OwnTail h veMro bm := by
  have q := T.ex
  unfold PySem.W.excIn at q
  split at q
  · rename_i dd cd sl ho
    split at q
    · rename_i C' bm k0 k1 k2 k3 n k5 hm hs
      simp only [Bool.and_eq_true, beq_iff_eq, Bool.not_eq_true'] at q
      obtain ⟨⟨⟨⟨⟨rfl, rfl⟩, hdel⟩, ht⟩, hok⟩, hni⟩ := q
      obtain ⟨nm, bs, mro, ns, qn, hd, sn, sub, ab, col, del⟩ := cd
      dsimp only at hm hdel hok hni
      subst hm hdel
      have hsl : sl = #[k0, k1, k2, k3, some (.builtin "ValueError.__new__"), k5] := by
        obtain ⟨l⟩ := sl
        simp only at hs
        rw [hs]
      subst hsl
      exact ⟨bm, ns, nm, qn, bs, hd, sn, sub, ab, col, dd, k0, k1, k2, k3, k5, _, X _ _ ho, .of_isNs (PySem.W.isNs_of_in X hok), PySem.W.nsMap_none_of_in X hok hni, PySem.W.tail_of_in X ht⟩
    · cases q
  · cases q
end
/-- an exception of the class at C, without context, lies at a -/
def XAt (a C : Addr) (h : Heap) : Prop := ∃ o vs, h.get? a = some o ∧ o.cls = .ref C ∧ o.data = .fields vs ∧ vs[2]? = some .none
section
variable {prog : Program} {w : World} {A : Around} {E : Value → Shared → Prop} {h : Heap} {g : Array GenState} {d : Drawn} {t : Nat} {os : OsState} {K : PySem.W.Frag} {a C : Addr} {o : Obj}
end
/-- an exception, as the abstract heap tells it -/
def xo (a C : Addr) : HO := .ext (XAt a C)
section
variable {X : Cx} {pins : List (Addr × Obj)} {σ : St} {H : Hp} {s : Shared}
end
end L2

set_option Elab.async false
set_option linter.all false
set_option maxRecDepth 100000
set_option maxHeartbeats 1000000

/-! ### an exception on its way: the frames it leaves -/
namespace L2
open PySem PySem.Spec PyProof.Rows
/-- the exception e, of the class at C, without context. fl: none, no frame is noted yet; some f, the newest entry bears f -/
def XT (B : Heap) (e C : Addr) (fl : Option Value) (h : Heap) : Prop :=
  ∃ oe vs, h.get? e = some oe ∧ oe.cls = .ref C ∧ oe.data = .fields vs ∧ vs[2]? = some .none ∧
    match fl with
    | none => vs[1]? = some .none
    | some f => ∃ T oT ts, vs[1]? = some (.ref T) ∧ B.get? T = none ∧ T ≠ e ∧ h.get? T = some oT ∧ oT.data = .fields ts ∧ ts[3]? = some f
structure Fl (B : Heap) (l : List Env) (e C : Addr) (fl : Option Value) (h : Heap) : Prop where
  stays : B.StaysIn h
  new : B.get? e = none
  fr : h.FunFrames B l
  tr : XT B e C fl h
theorem XT.at {B h : Heap} {e C : Addr} {fl : Option Value} (x : XT B e C fl h) : XAt e C h := by
  obtain ⟨oe, vs, h1, h2, h3, h4, _⟩ := x
  exact ⟨oe, vs, h1, h2, h3, h4⟩
section
variable {M : Model} {A : Around} {E : Value → Shared → Prop} {s : Shared} {B : Heap} {env : Env} {outer l : List Env} {L e C : Addr} {Q : Unit → Shared → Prop}
theorem fl_entry {oe : Obj} {vs : Array Value} {head : Value} {hadNext : Bool} (hfr : A.frames = some (env :: outer)) (hf : env.frame = some L) (st : B.StaysIn s.heap) (new : B.get? e = none) (fr : s.heap.FunFrames B (env :: outer))
    (he : s.heap.get? e = some oe) (hc : oe.cls = .ref C) (hd : oe.data = .fields vs) (h2 : vs[2]? = some .none) (hq : ∀ h', Fl B (env :: outer) e C (some (rawInt L)) h' → s.heap.UpToSlots h' → Q () { s with heap := h' }) :
    wpAny M A (do let fo ← frameOf env; let pl ← entryPlaceOf L hadNext; let tb ← EntryCells.newEntry head fo .none (rawInt L) .none pl; setField (.ref e) 1 tb) Q E s := by
  have hsz : 2 < vs.size := (Array.getElem?_eq_some_iff.mp h2).1
  have nf : e ∉ (env :: outer).filterMap (·.frame) := fun hm => by
    obtain ⟨_, of, hof, nof⟩ := fr.mem hm
    rw [he] at hof
    cases hof
    exact nof vs hd
  refine wpAny_bind (wpAny_frameOf_fun hfr fr hf fun hA sA => ?_)
  refine wpAny_bind (wpAny_entryPlaceOf fun pl ipl => ?_)
  unfold EntryCells.newEntry newFields
  refine wpAny_bind (wpAny_newObj_type ?_ (ipl.sizeOk5 _ _ _ _ _))
  have eA : hA.get? e = some oe := (sA.2.1 e nf).trans he
  have stA : B.StaysIn hA := fun b o q => (sA.2.1 b fun hm => by rw [(fr.mem hm).1] at q; cases q).trans (st b o q)
  have key : ∀ (ob : Obj) (ts : Array Value), ob.data = .fields ts → ob.isFreed = false → ts[3]? = some (rawInt L) → wpAny M A (setField (.ref e) 1 (.ref hA.objs.size)) Q E { s with heap := hA.push ob } := fun ob ts dT nfr iT => by
    have eP := Heap.get?_push_of_some (h := hA) ob eA
    refine wpAny_setField eP hd (by omega) (hq _ ?_ ?_)
    · have hTe : hA.objs.size ≠ e := Nat.ne_of_gt (Heap.lt_size eA)
      have dN := Obj.data_mapFields hd (·.setIfInBounds 1 (Value.ref hA.objs.size))
      have eN := Heap.get?_update_self (Obj.mapFields (·.setIfInBounds 1 (Value.ref hA.objs.size))) eP (Obj.isFreed_of_fields dN)
      have keep : ∀ b o, b ≠ e → hA.get? b = some o → ((hA.push ob).update e (Obj.mapFields (·.setIfInBounds 1 (Value.ref hA.objs.size)))).get? b = some o := fun b o hb q => by
        rw [Heap.get?_update_other _ _ (Ne.symm hb)]
        exact Heap.get?_push_of_some _ q
      refine ⟨fun b o q => keep b o (fun z => by rw [z, new] at q; cases q) (stA b o q), new, fr.of_keeps fun b o q nb => ?_, ⟨_, _, eN, (Obj.cls_mapFields _ _).trans hc, dN, ?_, hA.objs.size, ob, ts, ?_, stA.fresh, hTe, ?_, dT, iT⟩⟩
      · obtain ⟨sl, q'⟩ := sA.2.2 b o q
        exact ⟨_, keep b _ (fun z => by rw [z, he] at q; cases q; exact nb vs hd) q', rfl⟩
      · rw [Array.getElem?_setIfInBounds_ne (by decide)]
        exact h2
      · simp [show 1 < vs.size by omega]
      · rw [Heap.get?_update_other _ _ (Ne.symm hTe)]
        exact Heap.get?_push_size hA nfr
    · intro b o q nb
      obtain ⟨sl, q'⟩ := sA.2.2 b o q
      refine ⟨sl, ?_⟩
      rw [Heap.get?_update_other _ _ (fun z => by rw [← z, he] at q; cases q; exact nb vs hd)]
      exact Heap.get?_push_of_some _ q'
  refine key _ _ rfl rfl ?_
  first | (simp; done) | (rcases ipl with rfl | ⟨_, _, _, _, _, _, _, rfl⟩ <;> simp)
/-- the frame at hand is noted -/
theorem fl_note {fl : Option Value} (hfl : fl = none ∨ fl = some .none) (hfr : A.frames = some (env :: outer)) (hf : env.frame = some L) (x : Fl B (env :: outer) e C fl s.heap)
    (hq : ∀ h', Fl B (env :: outer) e C (some (rawInt L)) h' → s.heap.UpToSlots h' → Q () { s with heap := h' }) : wpAny M A (noteFrame (.ref e) env) Q E s := by
  obtain ⟨st, new, fr, oe, vs, he, hc, hd, h2, ht⟩ := x
  unfold noteFrame
  simp only [hf]
  rcases hfl with rfl | rfl
  · refine wpAny_bind (wpAny_field he hd (show vs[1]? = some .none from ht) ?_)
    rw [if_neg (by decide)]
    exact fl_entry hfr hf st new fr he hc hd h2 hq
  · obtain ⟨T, oT, ts, h1, nT, hTe, hT, dT, iT⟩ := ht
    refine wpAny_bind (wpAny_field he hd h1 ?_)
    rw [if_pos (show (Value.ref T != Value.none) = true from by simp)]
    refine wpAny_bind (wpAny_field hT dT iT ?_)
    rw [if_neg (show ¬ ((Value.none == rawInt L) = true) from by simp [rawInt])]
    refine wpAny_bind (wpAny_setField hT dT (Array.getElem?_eq_some_iff.mp iT).1 ?_)
    have oth : ∀ b o, b ≠ T → s.heap.get? b = some o → (s.heap.update T (Obj.mapFields (·.setIfInBounds 3 Value.none))).get? b = some o := fun b o hb q => (Heap.get?_update_other _ _ (Ne.symm hb)).trans q
    have nrec : ∀ b o, s.heap.get? b = some o → (∀ ws, o.data ≠ .fields ws) → b ≠ T := fun b o q nb z => by rw [z, hT] at q; cases q; exact nb ts dT
    refine fl_entry (s := { s with heap := s.heap.update T (Obj.mapFields (·.setIfInBounds 3 Value.none)) }) hfr hf (fun b o q => oth b o (fun z => by rw [z, nT] at q; cases q) (st b o q)) new
      (fr.of_keeps fun b o q nb => ⟨o, oth b o (nrec b o q nb) q, rfl⟩) (oth e oe (Ne.symm hTe) he) hc hd h2 fun h' y u => hq h' y ?_
    exact fun b o q nb => u b o (oth b o (nrec b o q nb) q) nb
/-- no frame is in flight any more -/
theorem fl_set {f : Value} (x : Fl B l e C (some f) s.heap) (hq : ∀ h', Fl B l e C (some .none) h' → s.heap.UpToSlots h' → Q () { s with heap := h' }) : wpAny M A (setFlight (.ref e) none) Q E s := by
  obtain ⟨st, new, fr, oe, vs, he, hc, hd, h2, T, oT, ts, h1, nT, hTe, hT, dT, iT⟩ := x
  have hsz : 3 < ts.size := (Array.getElem?_eq_some_iff.mp iT).1
  have oth : ∀ b o, b ≠ T → s.heap.get? b = some o → (s.heap.update T (Obj.mapFields (·.setIfInBounds 3 Value.none))).get? b = some o := fun b o hb q => (Heap.get?_update_other _ _ (Ne.symm hb)).trans q
  have nrec : ∀ b o, s.heap.get? b = some o → (∀ ws, o.data ≠ .fields ws) → b ≠ T := fun b o q nb z => by rw [z, hT] at q; cases q; exact nb ts dT
  unfold setFlight
  refine wpAny_bind (wpAny_field he hd h1 ?_)
  rw [if_pos (show (Value.ref T != Value.none) = true from by simp)]
  refine wpAny_setField hT dT hsz (hq (s.heap.update T (Obj.mapFields (·.setIfInBounds 3 Value.none))) ⟨fun b o q => oth b o (fun z => by rw [z, nT] at q; cases q) (st b o q), new, fr.of_keeps fun b o q nb => ⟨o, oth b o (nrec b o q nb) q, rfl⟩, ?_⟩
    fun b o q nb => ⟨o.slots, oth b o (nrec b o q nb) q⟩)
  have dN := Obj.data_mapFields dT (·.setIfInBounds 3 Value.none)
  exact ⟨oe, vs, oth e oe (Ne.symm hTe) he, hc, hd, h2, T, _, _, h1, nT, hTe, Heap.get?_update_self _ hT (Obj.isFreed_of_fields dN), dN, by simp [hsz]⟩
/-- the frame is left -/
theorem fl_leave {fl : Option Value} (hfl : fl = none ∨ fl = some .none) (hfr : A.frames = some (env :: outer)) (hf : env.frame = some L) (x : Fl B (env :: outer) e C fl s.heap)
    (hq : ∀ h', Fl B outer e C (some .none) h' → s.heap.UpToSlots h' → Q () { s with heap := h' }) : wpAny M A (leaving env (.ref e)) Q E s := by
  unfold leaving
  refine wpAny_bind (fl_note hfl hfr hf x fun h1 y u1 => ?_)
  refine fl_set y fun h2 z u2 => hq h2 ⟨z.stays, z.new, z.fr.2.2, z.tr⟩ (u1.trans u2)
end
end L2

set_option Elab.async false
set_option linter.all false
set_option maxRecDepth 100000
set_option maxHeartbeats 1000000

/-! ### raise, calls that raise, try -/
namespace L2
open PySem PySem.Spec PyProof.Rows
theorem ObjOk.there {P : Program} {w : World} {H : Hp} {h : Heap} {a : Addr} {o : HO} (x : ObjOk P w H h a o) : ∃ u, h.get? a = some u := by
  cases o with
  | lst xs => obtain ⟨_, its, n, _, q⟩ := x; exact ⟨_, q⟩
  | tup xs => obtain ⟨_, its, _, ob, q, _⟩ := x; exact ⟨_, q⟩
  | dK kvs => obtain ⟨_, _, vs, _, ob, es, ep, q, _⟩ := x; exact ⟨_, q⟩
  | dT kvs => obtain ⟨_, _, xs, _, ob, es, ep, q, _⟩ := x; exact ⟨_, q⟩
  | set S n => obtain ⟨ob, es, ep, t, q, _⟩ := x; exact ⟨_, q⟩
  | ins C dx fs => obtain ⟨_, _, _, q, _⟩ := x; exact ⟨_, q⟩
  | own y => exact x
  | xd fs => obtain ⟨mA, ⟨od, es, ep, q, _⟩, _⟩ := x; exact ⟨_, q⟩
  | rng lo hi => obtain ⟨t, u, v, q⟩ := x; exact ⟨_, q⟩
  | frz ob u => exact ⟨_, x.1⟩
  | tbl ps => exact ⟨_, x⟩
  | met f y => exact ⟨_, x⟩
  | ext φ => exact x.2.1
/-- an exception behind a call: e, of the class at C; B: the things that it has not touched -/
structure Exc (P : Program) (w : World) (outer : List Env) (H : Hp) (s : Shared) (e C : Addr) (B : Heap) (H' : Hp) (s' : Shared) : Prop where
  os : s'.os = s.os
  bare : AllBare s'.gens
  fl : ∃ fl, (fl = none ∨ fl = some .none) ∧ Fl B outer e C fl s'.heap
  un : Un (frs outer) [] H H' s.heap s'.heap
  hok : HOk P w H' s'.heap
  tin : ∀ b o, s'.heap.get? b = some o → H' b ≠ none → B.get? b = some o
  old : ∀ b o, s.heap.get? b = some o → H b = none → b ∉ frs outer → B.get? b = some o
  ex : ∀ b o, s.heap.get? b = some o → b ∉ frs outer → ∃ o', B.get? b = some o'
/-- how an exception lies behind a call -/
def CX1 (P : Program) (w : World) : CXT := fun outer H s E ev s' => ∃ e C B H', ev = .ref e ∧ Exc P w outer H s e C B H' s' ∧ E (.ref C) none H'
section
variable {P : Program} {w : World} {outer : List Env} {H H' : Hp} {s s' : Shared} {e C : Addr} {B h2 : Heap} {fl : Option Value}
theorem Exc.hokAt (x : Exc P w outer H s e C B H' s') (st : B.StaysIn h2) : HOk P w H' h2 := fun a o q =>
  (x.hok a o q).stay (fun b u hb hu => st b u (x.tin b u hu (by
    rcases hb with rfl | hb
    · rw [q]; exact fun z => nomatch z
    · rw [hb]; exact fun z => nomatch z))) (fun _ z => z) fun _ _ z => z
theorem Exc.unAt (x : Exc P w outer H s e C B H' s') (f : Fl B outer e C fl h2) (u : s'.heap.UpToSlots h2) : Un (frs outer) [] H H' s.heap h2 := by
  refine ⟨fun b o q n hb _ => f.stays b o (x.old b o q n hb), fun b o q n hb hx => ?_, x.un.free, fun b o q hx => ?_, x.un.tups, x.un.frzs, x.un.tbls⟩
  · obtain ⟨sl, q1⟩ := x.un.slot b o q n hb hx
    obtain ⟨_, _, g⟩ := x.fl
    obtain ⟨_, o1, q2, nf⟩ := g.fr.mem hb
    rw [q1] at q2
    cases q2
    obtain ⟨sl2, q3⟩ := u b _ q1 nf
    exact ⟨sl2, q3⟩
  · by_cases hb : b ∈ frs outer
    · obtain ⟨_, o1, q2, _⟩ := f.fr.mem hb
      exact ⟨o1, q2⟩
    · obtain ⟨o1, q1⟩ := x.ex b o q hb
      exact ⟨o1, f.stays b o1 q1⟩
theorem Exc.tinAt (x : Exc P w outer H s e C B H' s') (st : B.StaysIn h2) : ∀ b o, h2.get? b = some o → H' b ≠ none → B.get? b = some o := fun b o q hb => by
  cases hq : H' b with
  | none => exact absurd hq hb
  | some v =>
    obtain ⟨o1, q1⟩ := (x.hok b v hq).there
    have q2 := x.tin b o1 q1 hb
    have q3 := st b o1 q2
    rw [q] at q3
    cases q3
    exact q2
theorem Exc.free (x : Exc P w outer H s e C B H' s') : H' e = none := by
  cases hq : H' e with
  | none => rfl
  | some v =>
    obtain ⟨o1, q1⟩ := (x.hok e v hq).there
    have q2 := x.tin e o1 q1 (by rw [hq]; exact fun z => nomatch z)
    obtain ⟨_, _, g⟩ := x.fl
    rw [g.new] at q2
    cases q2
theorem Exc.fresh (x : Exc P w outer H s e C B H' s') : s.heap.get? e = none := by
  cases hq : s.heap.get? e with
  | none => rfl
  | some o =>
    obtain ⟨_, _, g⟩ := x.fl
    by_cases hb : e ∈ frs outer
    · obtain ⟨_, o1, q1, nf⟩ := g.fr.mem hb
      obtain ⟨oe, vs, q2, _, q3, _⟩ := g.tr
      rw [q1] at q2
      cases q2
      exact absurd q3 (nf vs)
    · obtain ⟨o1, q1⟩ := x.ex e o hq hb
      rw [g.new] at q1
      cases q1
end
section
variable {X : Cx} {pins : List (Addr × Obj)} {σ : St} {H H' : Hp} {s s' : Shared} {e C : Addr} {B h2 : Heap} {fl : Option Value}
/-- an exception made here -/
theorem Exc.made {args : List Value} {h' : Heap} (I : Inv X pins σ H s) (hx : Heap.MadeExcOf s.heap h' e (.ref C) args) : Exc X.prog X.w X.stack H s e C (PySem.W.hideAll s.heap (frs X.stack)) H { s with heap := h' } := by
  have st : (PySem.W.hideAll s.heap (frs X.stack)).StaysIn s.heap := fun b o q => PySem.W.of_hideAll _ q
  refine ⟨rfl, I.bare, ⟨none, .inl rfl, ⟨fun b o q => hx.keeps b o (st b o q), ?_, ?_, ?_⟩⟩, Un.kept hx.keeps, I.hok.kept hx.keeps, fun b o q hb => ?_, fun b o q n hb => PySem.W.hideAll_get _ q hb, fun b o q hb => ⟨o, PySem.W.hideAll_get _ q hb⟩⟩
  · cases hq : (PySem.W.hideAll s.heap (frs X.stack)).get? e with
    | none => rfl
    | some o =>
      have q := st e o hq
      rw [hx.new] at q
      cases q
  · have f0 : s.heap.FunFrames (PySem.W.hideAll s.heap (frs X.stack)) X.stack := PySem.W.funFrames_hide I.stack fun env he a ha => List.mem_filterMap.mpr ⟨env, he, ha⟩
    exact f0.of_keeps fun b o q _ => ⟨o, hx.keeps b o q, rfl⟩
  · obtain ⟨t, q, _⟩ := hx.there
    exact ⟨_, _, q, rfl, rfl, rfl, rfl⟩
  · cases hq : H b with
    | none => exact absurd hq hb
    | some v =>
      obtain ⟨o1, q1⟩ := (I.hok b v hq).there
      have q2 := hx.keeps b o1 q1
      have q' : h'.get? b = some o := q
      rw [q'] at q2
      cases q2
      refine PySem.W.hideAll_get _ q1 fun hm => ?_
      rw [I.stkFree b hm] at hq
      cases hq
/-- a def's frame is left by an exception -/
theorem Exc.leave {M : Model} {E1 : Value → Shared → Prop} {Q : Unit → Shared → Prop} (I : Inv X pins σ H s) (hs : X.stack = X.env :: X.outer) (hf : X.env.frame = some X.env.locals) (hx : X.ex = []) (x : Exc X.prog X.w X.stack H s e C B H' s')
    (hq : ∀ h2, Exc X.prog X.w X.outer X.H₀ X.s₀ e C B H' { s' with heap := h2 } → Q () { s' with heap := h2 }) : wpAny M X.A (leaving X.env (.ref e)) Q E1 s' := by
  obtain ⟨fl, hfl, f⟩ := x.fl
  have f' := f
  rw [hs] at f'
  have nl : ∀ b o, X.s₀.heap.get? b = some o → b ≠ X.env.locals := fun b o q => Nat.ne_of_lt (Nat.lt_of_lt_of_le (Heap.lt_size q) I.ok.above)
  have ns : ∀ b o, X.s₀.heap.get? b = some o → b ∉ X.fs → b ∉ frs X.stack := fun b o q hb hm => (List.mem_cons.mp (I.stkSub b hm)).elim (nl b o q) hb
  have fsub : ∀ b, b ∈ X.fs → b ∈ frs X.stack := fun b hb => by
    rw [hs]
    unfold frs
    rw [List.filterMap_cons, hf]
    exact List.mem_cons_of_mem _ hb
  have nx : ∀ b : Addr, b ∉ X.ex := fun b => by rw [hx]; simp
  refine fl_leave hfl (I.ok.frames.trans (congrArg some hs)) hf f' fun h2 g u => hq h2 ⟨x.os.trans I.os, x.bare, ⟨_, .inr rfl, g⟩, ?_, x.hokAt g.stays, x.tinAt g.stays, fun b o q n hb => ?_, fun b o q hb => ?_⟩
  · refine ⟨fun b o q n hb _ => ?_, fun b o q n hb _ => ?_, fun b o q n _ => ?_, fun b o q _ => ?_, fun b xs q => x.un.tups b xs (I.base.tups b xs q), fun b o v q => x.un.frzs b o v (I.base.frzs b o v q), fun b ps q => ?_⟩
    · exact g.stays b o (x.old b o (I.base.keep b o q n hb (nx b)) (I.base.free b o q n (nx b)) (ns b o q hb))
    · obtain ⟨sl, q1⟩ := I.base.slot b o q n hb (nx b)
      obtain ⟨sl2, q2⟩ := x.un.slot b _ q1 (I.base.free b o q n (nx b)) (fsub b hb) (by simp)
      obtain ⟨_, o1, q3, nf⟩ := f.fr.mem (fsub b hb)
      rw [q2] at q3
      cases q3
      obtain ⟨sl3, q4⟩ := u b _ q2 nf
      exact ⟨sl3, q4⟩
    · obtain ⟨o1, q1⟩ := I.base.there b o q (nx b)
      exact x.un.free b o1 q1 (I.base.free b o q n (nx b)) (by simp)
    · by_cases hb : b ∈ X.fs
      · obtain ⟨_, o1, q1, _⟩ := g.fr.mem hb
        exact ⟨o1, q1⟩
      · obtain ⟨o1, q1⟩ := I.base.there b o q (nx b)
        obtain ⟨o2, q2⟩ := x.ex b o1 q1 (ns b o q hb)
        exact ⟨o2, g.stays b o2 q2⟩
    · obtain ⟨m1, q1⟩ := I.base.tbls b ps q
      obtain ⟨m2, q2⟩ := x.un.tbls b _ q1
      exact ⟨m1 ++ m2, by rw [q2, Array.append_assoc]⟩
  · exact x.old b o (I.base.keep b o q n hb (nx b)) (I.base.free b o q n (nx b)) (ns b o q hb)
  · obtain ⟨o1, q1⟩ := I.base.there b o q (nx b)
    exact x.ex b o1 q1 (ns b o q hb)
/-- an exception caught here: it is tracked from now on -/
theorem Exc.caught (I : Inv X pins σ H s) (x : Exc X.prog X.w X.stack H s e C B H' s') (f : Fl B X.stack e C fl h2) (u : s'.heap.UpToSlots h2) : Inv X pins σ (upd H' e (xo e C)) { s' with heap := h2 } := by
  have v := x.unAt f u
  have he := x.fresh
  have hn := x.free
  have ne : ∀ b o, s.heap.get? b = some o → b ≠ e := fun b o q z => by rw [z, he] at q; cases q
  have un : Un (frs X.stack) [] H (upd H' e (xo e C)) s.heap h2 := ⟨v.keep, v.slot, fun b o q n hx => by rw [upd_ne (ne b o q)]; exact v.free b o q n hx, v.there, fun b xs q => by rw [upd_ne (ne_of_none (v.tups b xs q) hn)]; exact v.tups b xs q,
    fun b o w q => by rw [upd_ne (ne_of_none (v.frzs b o w q) hn)]; exact v.frzs b o w q, fun b ps q => by
      obtain ⟨m, q1⟩ := v.tbls b ps q
      exact ⟨m, by rw [upd_ne (ne_of_none q1 hn)]; exact q1⟩⟩
  have hok : HOk X.prog X.w (upd H' e (xo e C)) h2 := fun b o q => by
    by_cases hb : b = e
    · subst hb
      rw [upd_same] at q
      cases q
      have at_ := f.tr.at
      refine ⟨at_, ?_, fun h1 h3 p k => ?_⟩
      · obtain ⟨oe, vs, q1, _⟩ := at_
        exact ⟨oe, q1⟩
      · obtain ⟨oe, vs, q1, q2⟩ := p
        exact ⟨oe, vs, k oe q1, q2⟩
    · rw [upd_ne hb] at q
      exact (x.hokAt f.stays b o q).stay (fun c w _ q1 => q1) (fun c q1 => by rw [upd_ne (ne_of_none q1 hn)]; exact q1) fun c xs q1 => by rw [upd_ne (ne_of_none q1 hn)]; exact q1
  exact I.call' (s' := { s' with heap := h2 }) x.os un hok x.bare fun b z => absurd z (by simp)
end

/-! ### an exception reaches what the body wants of exceptions; the wish may hang on the names' values -/
def PassX (X : Cx) (EX : St → XK) : Prop := ∀ (pins : List (Addr × Obj)) (σ : St) (H : Hp) (s : Shared) (ev : Value) (s' : Shared), Inv X pins σ H s → CX1 X.prog X.w X.stack H s (EX σ) ev s' → X.xe ev s'
theorem passX0 {X : Cx} : PassX X (fun _ => E0) := fun _ _ _ _ _ _ _ h => by
  obtain ⟨_, _, _, _, _, _, z⟩ := h
  exact z.elim
theorem pass_def {P : Program} {w : World} {K : PySem.W.Frag} {mg : Str → Option Value} {base : Heap} {N : List Str} {qual : Str} {scope : Scope} {f : Addr} {cd : Value} {A : Around} {outer : List Env} {s : Shared} {H : Hp} {E : XK} :
    PassX (cxOf (CX1 P w) P w K mg base N qual scope f cd A outer s H E) (fun _ => E) := fun pins σ H1 s1 ev s' I h => by
  obtain ⟨e, C, B, H', rfl, x, q⟩ := h
  exact x.leave I rfl rfl rfl fun h2 y => ⟨e, C, B, H', rfl, y, q⟩
/-- raise C(..) -/
def tRaise (C : Addr) (EX : St → XK) (t : TA) : TS := fun _ σ H => t σ H fun vs H1 => vs.length ≤ sizeLine ∧ EX σ (.ref C) none H1
theorem ps_raise {X : Cx} {EX : St → XK} {C : Addr} {x : Str} {np cpos pos : Pos} {e : Expr} {es : List Expr} {t : TA} (hc : X.calm = true) (T : XCl X.K C) (hg : Gl X x) (hm : X.mg x = some (.ref C)) (hx : PassX X EX) (ha : PA X (e :: es) t)
    (hdb : (x == ("__debug__" : Str)) = false := by decide) (he : starEach (e :: es) X.env = (false, eval e X.env) :: starEach es X.env := by rfl) (hpl : (backTo cpos (starEach es X.env)).any (·.1) = false := by rfl) :
    PS X (.Raise (some (.Call (.Name x np) (e :: es) [] cpos)) none pos) (tRaise C EX t) := by
  intro pins s σ H D I h
  obtain ⟨bm, N, nm, q, bs, hdct, sn, sub, ab, col, dd, k0, k1, k2, k3, k5, mN, hC, hN, hni, TL⟩ := T.obj I.mod.kin
  refine wpAny_Raise_call_subT F.excBase_ValueError (bm := bm) (nm := nm) (C := C) (q := q) (bs := bs) (N := N) (sn := sn) (hdct := hdct) (sub := sub) (col := col) (ab := ab) (dd := dd) (k5 := k5) (k3 := k3) (k2 := k2) (k1 := k1) (k0 := k0) (TL.hasType (by decide +kernel)) (I.ok.hd hc) (by rw [he]; show (false || (backTo cpos (starEach es X.env)).any (·.1)) = false; rw [hpl]; rfl) hni (ld_glob I hg hm ⟨rfl, ?_⟩ hdb)
  have h2 := ha cpos pins s σ H _ I h
  rw [he] at h2 ⊢
  refine Calls.evalArgs_plain (thn h2 fun us s2 ⟨vs, H2, I2, r, hl, hE⟩ => ⟨rfl, ?_⟩)
  refine ⟨by rw [← r.length]; exact hl, I2.bk _ _ hC, hN.keeps I2.bk, TL.keeps I2.bk, fun h' ea mx => ?_⟩
  exact hx pins σ H2 s2 (.ref ea) { s2 with heap := h' } I2 ⟨ea, C, _, H2, rfl, Exc.made I2 mx, hE⟩

/-! ### defs that may raise -/
structure GoodX (P : Program) (w : World) (K : PySem.W.Frag) (mg : Str → Option Value) (base : Heap) (x : Str) (k : Nat) (ps : List Str) (sp : Sp) : Prop where
  ex : ∃ (f : Addr) (fd : FuncData), mg x = some (.ref f) ∧ PySem.W.keepIn K (.ref f) = true ∧ Binds K fd ps [] ∧ FnOk P w K mg base (CX1 P w) k f fd ps sp
theorem Code.goodX {P : Program} {w : World} {K : PySem.W.Frag} {mg : Str → Option Value} {base : Heap} {x : Str} {st : Stmt} {ps N : List Str} {k : Nat} {sp : Sp} (C : Code K mg x st ps) (S : FnScope N ps (defScope st)) (len : ∀ vs H Q E, sp vs H Q E → vs.length = ps.length)
    (hbody : ∀ (X : Cx) (f : Addr) (cdv : Value) (A : Around) (outer : List Env) (s : Shared) (H : Hp) (vs : List V) (Q : VK) (E : XK), X = cxOf (CX1 P w) P w K mg base N x (defScope st) f cdv A outer s H E → PassX X (fun _ => E) → Room k X.A → sp vs H Q E →
      ∃ t, PSs X (defBody st) t ∧ t { nx := fun _ H' => Q .non H', rt := Q } (start N vs) H) : GoodX P w K mg base x (k + 1) ps sp := by
  obtain ⟨f, fd, F, m, b⟩ := C.ex
  refine ⟨f, fd, m, F.kp, b, ?_⟩
  obtain ⟨oc, od, kV, doc, pm, an, cdv, ct, osl, rfl, lk, hcd⟩ := F.ex
  exact fn_of lk hcd S len fun A outer s H vs Q E hr hsp => hbody _ f cdv A outer s H vs Q E rfl pass_def hr hsp
theorem PS.nox {X : Cx} {st : Stmt} {t : TS} (h : PS X.nox st t) : PS X st t := fun pins s σ H D I hw =>
  wpAny_mono (h pins s σ H D (I.wish _) hw) (fun _ _ q => q.unwish) fun _ _ z => False.elim z
end L2

set_option Elab.async false
set_option linter.all false
set_option maxRecDepth 100000
set_option maxHeartbeats 1000000

/-! ### try .. except, and what runs within an except suite -/
namespace L2
open PySem PySem.Spec PyProof.Rows
section
variable {M : Model} {A : Around} {E : Value → Shared → Prop} {h : Heap} {g : Array GenState} {d : Drawn} {t : Nat} {os : OsState} {K : PySem.W.Frag} {e C HC : Addr}
theorem xmatch {Q : Bool → Shared → Prop} (X : K.In h) (TH : XCl K HC) (hs : PySem.W.subIn K (.ref C) (.ref HC) = some true) (x : XAt e C h) (hq : Q true ⟨h, g, d, t, os⟩) : wpAny M A (excMatches (.ref e) (.ref HC)) Q E ⟨h, g, d, t, os⟩ := by
  obtain ⟨oe, vs, he, hc, _⟩ := x
  obtain ⟨dd, cd, sl, ho⟩ := TH.look
  have hH := X _ _ ho
  have f1 := PySem.W.looks_subIn (M := M) X TH.mb
  have f2 := PySem.W.looks_subIn (M := M) X hs
  have f3 := tc_notTuple
  unfold excMatches
  repeat (first | (with_reducible refine wpAny_loadPart_at he ?_; rw [hc]) | with_reducible refine wpAny_loadPart_at hH ?_ | with_reducible refine f1.at ?_ | with_reducible refine f2.at ?_ | wp_step)
  exact hq
end
/-- other pins that every state bears, another wish -/
abbrev Cx.by (X : Cx) (pn : List (Addr × Obj)) (E : Value → Shared → Prop) : Cx := { X with pn := pn, xe := E }
/-- within an except suite -/
abbrev Cx.suite (X : Cx) (pn : List (Addr × Obj)) (ev : Value) : Cx := { X with pn := pn, xe := fun _ _ => False, A := X.A.mark (some ev), calm := false }
section
variable {X : Cx} {pins pins' pn : List (Addr × Obj)} {σ : St} {H : Hp} {s : Shared} {E : Value → Shared → Prop} {ev : Value}
theorem Inv.by (I : Inv X pins σ H s) (E : Value → Shared → Prop) : Inv (X.by (X.pn ++ pins) E) [] σ H s :=
  ⟨⟨I.ok.mod, I.ok.kind, I.ok.glob, I.ok.blt, I.ok.above, I.ok.inj, I.ok.has, I.ok.cab, I.ok.hd, I.ok.frames, I.ok.stk, I.ok.exf, I.ok.bs, I.ok.bsz, I.ok.noex, I.ok.exfs, I.ok.funs, I.ok.frf⟩, I.os, I.bare, I.base, I.loc, I.cell, I.free, I.freeC,
    fun p hp => I.pin p (by simpa using hp), I.hok, I.len⟩
theorem Inv.unby (I : Inv (X.by (X.pn ++ pins) E) pins' σ H s) : Inv X pins σ H s :=
  ⟨⟨I.ok.mod, I.ok.kind, I.ok.glob, I.ok.blt, I.ok.above, I.ok.inj, I.ok.has, I.ok.cab, I.ok.hd, I.ok.frames, I.ok.stk, I.ok.exf, I.ok.bs, I.ok.bsz, I.ok.noex, I.ok.exfs, I.ok.funs, I.ok.frf⟩, I.os, I.bare, I.base, I.loc, I.cell, I.free, I.freeC,
    fun p hp => I.pin p (List.mem_append_left _ hp), I.hok, I.len⟩
theorem Inv.suite (I : Inv (X.by pn E) pins' σ H s) (ev : Value) : Inv (X.suite pn ev) pins' σ H s :=
  ⟨⟨I.ok.mod, I.ok.kind, I.ok.glob, I.ok.blt, I.ok.above, I.ok.inj, I.ok.has, I.ok.cab, (fun z => nomatch z), I.ok.frames, I.ok.stk, I.ok.exf, I.ok.bs, I.ok.bsz, I.ok.noex, I.ok.exfs, I.ok.funs, I.ok.frf⟩, I.os, I.bare, I.base, I.loc, I.cell, I.free, I.freeC,
    I.pin, I.hok, I.len⟩
theorem Inv.unsuite (hd : X.calm = true → X.A.handled = none) (I : Inv (X.suite (X.pn ++ pins) ev) pins' σ H s) : Inv X pins σ H s :=
  ⟨⟨I.ok.mod, I.ok.kind, I.ok.glob, I.ok.blt, I.ok.above, I.ok.inj, I.ok.has, I.ok.cab, hd, I.ok.frames, I.ok.stk, I.ok.exf, I.ok.bs, I.ok.bsz, I.ok.noex, I.ok.exfs, I.ok.funs, I.ok.frf⟩, I.os, I.bare, I.base, I.loc, I.cell, I.free, I.freeC,
    fun p hp => I.pin p (List.mem_append_left _ hp), I.hok, I.len⟩
theorem SP.unby {D : Ends} {f : Flow} (h : SP (X.by (X.pn ++ pins) E) pins' D f s) : SP X pins D f s := by
  cases f with
  | next => obtain ⟨σ', H', I, q⟩ := h; exact ⟨σ', H', I.unby, q⟩
  | brk => obtain ⟨σ', H', I, q⟩ := h; exact ⟨σ', H', I.unby, q⟩
  | cont => obtain ⟨σ', H', I, q⟩ := h; exact ⟨σ', H', I.unby, q⟩
  | ret u => obtain ⟨v, σ', H', I, r, q⟩ := h; exact ⟨v, σ', H', I.unby, r, q⟩
/-- a local name goes -/
theorem goes_ok {M : Model} {A : Around} {E1 : Value → Shared → Prop} {i : Nat} {n : Str} {pos : Pos} {Q : Unit → Shared → Prop} (I : Inv X pins σ H s) (hN : X.N.Nodup) (hi : X.N[i]? = some n) (hl : X.env.scope.names.lookup n = some .local)
    (hq : ∀ s', Inv X pins (σ.set i none) H s' → Q () s') : wpAny M A (do bindName X.env n .none; unbindBehindTheSuite X.env n pos) Q E1 s := by
  obtain ⟨m, hn, hm⟩ := id I.loc
  have hcls : (X.env.scope.kind == .class || (X.env.scope.kind == .module && X.env.locals != X.env.globals)) = false := by rw [I.ok.kind]; rfl
  refine wpAny_nameGoes_keeps hl hn hcls fun h' v nsv sb => ?_
  have hiσ : i < σ.length := by rw [I.len]; exact (List.getElem?_eq_some_iff.mp hi).1
  obtain ⟨oL, _, _, hoL, _⟩ := id hn
  have below : ∀ b o, X.s₀.heap.get? b = some o → b ≠ X.env.locals := fun b o q => Nat.ne_of_lt (Nat.lt_of_lt_of_le (Heap.lt_size q) I.ok.above)
  refine hq _ ⟨I.ok, I.os, I.bare, ⟨fun b o q nn hb hx => ?_, fun b o q nn hb hx => ?_, I.base.free, fun b o q hx => ?_, I.base.tups, I.base.frzs, I.base.tbls⟩, ⟨_, nsv, fun j y w e1 e2 e3 => ?_⟩, fun y c q => ?_, I.free, I.freeC, fun p hp => ?_, fun b ob q => ?_, ?_⟩
  · exact (sb.2 b (below b o q)).trans (I.base.keep b o q nn hb hx)
  · obtain ⟨sl, q1⟩ := I.base.slot b o q nn hb hx
    exact ⟨sl, (sb.2 b (below b o q)).trans q1⟩
  · obtain ⟨o', q1⟩ := I.base.there b o q hx
    exact ⟨o', (sb.2 b (below b o q)).trans q1⟩
  · by_cases hj : j = i
    · subst hj
      rw [List.getElem?_set_self hiσ] at e2
      cases e2
    · rw [List.getElem?_set_ne (Ne.symm hj)] at e2
      obtain ⟨u, r, q⟩ := hm j y w e1 e2 e3
      refine ⟨u, r, ?_⟩
      rcases q with ⟨k, q⟩ | ⟨k, c, q, z⟩
      · have ny : y ≠ n := fun z => hj (nodup_ix hN e1 (z ▸ hi))
        exact .inl ⟨k, by simp [ny, q]⟩
      · exact .inr ⟨k, c, q, z.sameBut sb (I.cne y c q)⟩
  · obtain ⟨u, z⟩ := I.cell y c q
    exact ⟨u, z.sameBut sb (I.cne y c q)⟩
  · obtain ⟨q, nn, ne, nf, dd⟩ := I.pin p hp
    exact ⟨(sb.2 p.1 ne).trans q, nn, ne, nf, dd⟩
  · refine (I.hok b ob q).stay (fun c u hc q1 => (sb.2 c ?_).trans q1) (fun _ z => z) fun _ _ z => z
    rintro rfl
    rcases hc with rfl | hc
    · rw [I.free] at q; cases q
    · rw [I.free] at hc; cases hc
  · rw [List.length_set]; exact I.len
end
/-- the ends of an except suite: its name goes -/
def Ends.drop (D : Ends) (i : Nat) : Ends where
  nx := fun σ H => D.nx (σ.set i none) H
  rt := D.rt
  bk := fun σ H => D.bk (σ.set i none) H
  ct := fun σ H => D.ct (σ.set i none) H
/-- what is wanted of an exception in a try: the suite -/
def exTry (K : PySem.W.Frag) (HC : Addr) (i : Nat) (th : Addr → TS) (D : Ends) : St → XK := fun σ cls _ H => ∃ C, cls = .ref C ∧ XCl K C ∧ PySem.W.subIn K (.ref C) (.ref HC) = some true ∧ ∀ e, H e = none → th e (D.drop i) (σ.set i (some (.ref e))) (upd H e (xo e C))
def tTry (K : PySem.W.Frag) (HC : Addr) (i : Nat) (tb : (St → XK) → TS) (th : Addr → TS) : TS := fun D σ H => tb (exTry K HC i th D) D σ H
theorem ps_try {X : Cx} {HC : Addr} {i : Nat} {n x : Str} {tb : (St → XK) → TS} {th : Addr → TS} {body suite : List Stmt} {b₀ : Stmt} {np hpos pos : Pos} (hN : X.N.Nodup) (hi : X.N[i]? = some n) (hl : X.env.scope.names.lookup n = some .local) (hst : X.stack = X.env :: X.outer)
    (hf : X.env.frame = some X.env.locals) (hg : Gl X x) (hm : X.mg x = some (.ref HC)) (TH : XCl X.K HC)
    (h1 : ∀ pn E1 EX, PassX (X.by pn E1) EX → PSs (X.by pn E1) body (tb EX)) (h2 : ∀ pn (e : Addr), PSs (X.suite pn (.ref e)) (b₀ :: suite) (th e)) (hdb : (x == ("__debug__" : Str)) = false := by decide) :
    PS X (.Try body [.ExceptHandler (some (.Name x np)) (some n) (b₀ :: suite) hpos] [] [] pos) (tTry X.K HC i tb th) := by
  intro pins s σ H D I h
  have hfr : X.A.frames = some (X.env :: X.outer) := I.ok.frames.trans (congrArg some hst)
  let E1 : Value → Shared → Prop := fun ev s'' => ∃ (pins' : List (Addr × Obj)) (σ' : St) (H' : Hp) (s' : Shared), Inv (X.by (X.pn ++ pins) fun _ _ => False) pins' σ' H' s' ∧ CX1 X.prog X.w X.stack H' s' (exTry X.K HC i th D σ') ev s''
  have hp : PassX (X.by (X.pn ++ pins) E1) (exTry X.K HC i th D) := fun pins' σ' H' s' ev s'' I' c => ⟨pins', σ', H', s', ⟨⟨I'.ok.mod, I'.ok.kind, I'.ok.glob, I'.ok.blt, I'.ok.above, I'.ok.inj, I'.ok.has, I'.ok.cab, I'.ok.hd, I'.ok.frames, I'.ok.stk, I'.ok.exf, I'.ok.bs, I'.ok.bsz, I'.ok.noex, I'.ok.exfs, I'.ok.funs, I'.ok.frf⟩, I'.os, I'.bare, I'.base, I'.loc, I'.cell, I'.free, I'.freeC, I'.pin, I'.hok, I'.len⟩, c⟩
  refine wpAny_Try_except (wpAny_mono (h1 _ E1 _ hp [] s σ H D (I.by E1) h) (fun f s1 q => ?_) fun ev s1 q => ?_)
  · cases f with
    | next => exact wpAny_execs_nil q.unby
    | brk => exact q.unby
    | cont => exact q.unby
    | ret u => exact q.unby
  · obtain ⟨pins', σ', H', s', I', e, C, B, H2, rfl, x1, D1, hC, T, hs, hth⟩ := q
    cases hC
    obtain ⟨fl, hfl, f0⟩ := x1.fl
    rw [hst] at f0
    refine fl_note hfl hfr hf f0 fun ha fa ua => ?_
    refine fl_set fa fun hb fb ub => ?_
    have fb' : Fl B X.stack e C (some .none) hb := by rw [hst]; exact fb
    have J := Exc.caught I' x1 fb' (ua.trans ub)
    have JS := J.suite (Value.ref e)
    refine wpAny_handleBy_cons (codeAny_handlers_test (ld_glob JS hg hm ?_ hdb)) (by intro q; cases q)
    refine xmatch JS.kIn TH hs fb.tr.at (codeAny_handlers_suite_as ?_)
    refine fl_set fb fun hc fc uc => ?_
    have fc' : Fl B X.stack e C (some .none) hc := by rw [hst]; exact fc
    have J2 := (Exc.caught I' x1 fc' ((ua.trans ub).trans uc)).suite (Value.ref e)
    refine store_ok (X := X.suite (X.pn ++ pins) (.ref e)) (v := .ref e) (i := i) J2 hN hi (.inl hl) rfl (fun s4 J4 => ?_) (.inr hl)
    refine wpAny_mono (h2 _ _ pins' s4 _ _ (D.drop i) J4 (hth e x1.free)) (fun f s5 q => ?_) fun _ _ z => z.elim
    cases f with
    | next =>
      obtain ⟨σ5, H5, I5, q5⟩ := q
      exact goes_ok (I5.unsuite I.ok.hd) hN hi hl fun s6 I6 => ⟨_, _, I6, q5⟩
    | brk =>
      obtain ⟨σ5, H5, I5, q5⟩ := q
      exact goes_ok (I5.unsuite I.ok.hd) hN hi hl fun s6 I6 => ⟨_, _, I6, q5⟩
    | cont =>
      obtain ⟨σ5, H5, I5, q5⟩ := q
      exact goes_ok (I5.unsuite I.ok.hd) hN hi hl fun s6 I6 => ⟨_, _, I6, q5⟩
    | ret u =>
      obtain ⟨v5, σ5, H5, I5, r5, q5⟩ := q
      exact goes_ok (I5.unsuite I.ok.hd) hN hi hl fun s6 I6 => ⟨v5, _, _, I6, r5, q5⟩

/-! ### a def that runs within an except suite -/
structure RoomH (k : Nat) (A : Around) : Prop where
  dp : A.depth + 3 * k + 5 < recursionLimit
  un : A.units + 16 * k + 200 < cLine
theorem Room.inH {k : Nat} {A : Around} (r : Room k A) (h : Option Value) : RoomH k (A.mark h) := ⟨r.dp, r.un⟩
theorem RoomH.deeper {k : Nat} {A : Around} (r : RoomH (k + 1) A) (env : Env) : RoomH k (A.deeper env) :=
  ⟨by have := r.dp; show A.depth + 1 + 3 * k + 5 < _; omega, by have := r.un; show A.units + 3 + 16 * k + 200 < _; omega⟩
theorem RoomH.mono {j k : Nat} {A : Around} (r : RoomH k A) (h : j ≤ k) : RoomH j A := ⟨by have := r.dp; omega, by have := r.un; omega⟩
theorem RoomH.units {k : Nat} {A : Around} (r : RoomH k A) : A.units + 64 < cLine := by have := r.un; omega
end L2

set_option Elab.async false
set_option linter.all false
set_option maxRecDepth 100000
set_option maxHeartbeats 1000000

/-! ### count and index of truths; max within an except suite -/
namespace L2
open PySem PySem.Spec PyProof.Rows PySem.SeqAt
theorem st_const {c : Const} {k : Nat} {p : Pos} {es : List Expr} {env : Env} : starEach (.Constant c k p :: es) env = (false, eval (.Constant c k p) env) :: starEach es env := by rfl
def isT : Value → Bool
  | .bool b => b
  | _ => false
section
variable {X : Cx}
end

section
variable {prog : Program} {w : World} {A : Around} {E : Value → Shared → Prop} {s : Shared}
end
end L2

set_option Elab.async false
set_option linter.all false
set_option maxRecDepth 100000
set_option maxHeartbeats 1000000

/-! ### loops and comprehensions over a dict and its items: the dict is frozen while it is walked, thawed behind -/
namespace L2
open PySem PySem.Spec PyProof.Rows
theorem keyRel {k : Key} {u : Value} (h : keyIs k u = true) : RelV (kV k) u := by
  rcases keyIs_shape h with ⟨i, t, rfl, rfl⟩ | ⟨x, t, rfl, rfl⟩
  · exact ⟨t, rfl⟩
  · exact ⟨t, rfl⟩
section
variable {X : Cx} {pins : List (Addr × Obj)} {σ : St} {H : Hp} {s : Shared} {a : Addr} {kvs : List (Key × V)} {o : Obj}
theorem Inv.freeze (I : Inv X pins σ H s) (e : H a = some (.dK kvs)) : ∃ o, s.heap.get? a = some o ∧ Inv X pins σ (upd H a (.frz o (.dK kvs))) s := by
  obtain ⟨o, ho⟩ := (I.hok a _ e).there
  have n0 : ∀ b, H b = none → b ≠ a := fun b n z => by rw [z, e] at n; cases n
  have n1 : ∀ b u, H b = some u → u ≠ .dK kvs → b ≠ a := fun b u q nu z => by rw [z, e] at q; exact nu (Option.some.inj q).symm
  refine ⟨o, ho, I.step (h' := s.heap) (g' := s.gens) (d' := s.drawn) (t' := s.toks) (ch := []) (fun b hb => absurd hb (by simp)) (fun b u _ _ _ q _ => q) (fun b u _ _ _ q _ => ⟨u.slots, q⟩) (fun b u _ q n => by rw [upd_ne (n0 b n)]; exact n)
    (fun b u _ q => ⟨u, q⟩) (fun b xs q => by rw [upd_ne (n1 b _ q (by intro z; cases z))]; exact q) (fun b u v q => by rw [upd_ne (n1 b _ q (by intro z; cases z))]; exact q)
    (fun b ps q => ⟨#[], by rw [upd_ne (n1 b _ q (by intro z; cases z)), q]; simp⟩) (fun m hm => hm) (fun b u q => ?_) I.bare⟩
  have st : ∀ b u, ObjOk X.prog X.w H s.heap b u → ObjOk X.prog X.w (upd H a (.frz o (.dK kvs))) s.heap b u := fun b u x =>
    x.stay (fun _ _ _ q => q) (fun c q => by rw [upd_ne (n1 c _ q (by intro z; cases z))]; exact q) fun c xs q => by rw [upd_ne (n1 c _ q (by intro z; cases z))]; exact q
  by_cases hb : b = a
  · subst hb
    rw [upd_same] at q
    cases q
    exact ⟨ho, st _ _ (I.hok _ _ e)⟩
  · rw [upd_ne hb] at q
    exact st _ _ (I.hok b u q)
theorem Inv.thaw (I : Inv X pins σ H s) (e : H a = some (.frz o (.dK kvs))) (h0 : ∀ o' u, X.H₀ a ≠ some (.frz o' u)) : Inv X pins σ (upd H a (.dK kvs)) s := by
  have n0 : ∀ b, H b = none → b ≠ a := fun b n z => by rw [z, e] at n; cases n
  have n1 : ∀ b u, H b = some u → u ≠ .frz o (.dK kvs) → b ≠ a := fun b u q nu z => by rw [z, e] at q; exact nu (Option.some.inj q).symm
  refine ⟨I.ok, I.os, I.bare, ⟨I.base.keep, I.base.slot, fun b u q n hx => ?_, I.base.there, fun b xs q => ?_, fun b u v q => ?_, fun b ps q => ?_⟩, I.loc, I.cell, ?_, fun x c q => ?_, fun p hp => ?_, fun b u q => ?_, I.len⟩
  · rw [upd_ne (n0 b (I.base.free b u q n hx))]
    exact I.base.free b u q n hx
  · have z := I.base.tups b xs q
    rw [upd_ne (n1 b _ z (by intro w; cases w))]
    exact z
  · have z := I.base.frzs b u v q
    have nb : b ≠ a := fun w => h0 u v (by rw [← w]; exact q)
    rw [upd_ne nb]
    exact z
  · obtain ⟨m, z⟩ := I.base.tbls b ps q
    exact ⟨m, by rw [upd_ne (n1 b _ z (by intro w; cases w))]; exact z⟩
  · rw [upd_ne (n0 _ I.free)]; exact I.free
  · rw [upd_ne (n0 _ (I.freeC x c q))]; exact I.freeC x c q
  · obtain ⟨p1, p2, p3⟩ := I.pin p hp
    exact ⟨p1, by rw [upd_ne (n0 _ p2)]; exact p2, p3⟩
  · have st : ∀ b u, ObjOk X.prog X.w H s.heap b u → ObjOk X.prog X.w (upd H a (.dK kvs)) s.heap b u := fun b u x =>
      x.stay (fun _ _ _ q => q) (fun c q => by rw [upd_ne (n1 c _ q (by intro z; cases z))]; exact q) fun c xs q => by rw [upd_ne (n1 c _ q (by intro z; cases z))]; exact q
    by_cases hb : b = a
    · subst hb
      rw [upd_same] at q
      cases q
      exact st _ _ (show ObjOk X.prog X.w H s.heap b (.frz o (.dK kvs)) from I.hok _ _ e).2
    · rw [upd_ne hb] at q
      exact st _ _ (I.hok b u q)
end
/-- a frozen dict is thawed; H0: the heap at the def's entry, where it was not frozen -/
def Thaw (H0 H : Hp) (P : Hp → Prop) : Prop := ∃ a o kvs, H a = some (.frz o (.dK kvs)) ∧ (∀ o' u, H0 a ≠ some (.frz o' u)) ∧ P (upd H a (.dK kvs))
def Ends.thaw (D : Ends) (H0 : Hp) : Ends where
  nx := fun σ H => Thaw H0 H (D.nx σ)
  rt := fun v H => Thaw H0 H (D.rt v)
  bk := fun σ H => Thaw H0 H (D.bk σ)
  ct := fun σ H => Thaw H0 H (D.ct σ)
def tThaw (H0 : Hp) (t : TS) : TS := fun D σ H => t (D.thaw H0) σ H
def tThawE (H0 : Hp) (t : TE) : TE := fun σ H Q => t σ H fun v H1 => Thaw H0 H1 (Q v)
theorem ps_thaw {X : Cx} {st : Stmt} {t : TS} {H0 : Hp} (h0 : X.H₀ = H0) (h : PS X st t) : PS X st (tThaw H0 t) := by
  subst h0
  intro pins s σ H D I q
  refine thn (h pins s σ H _ I q) fun f s1 z => ?_
  cases f with
  | next => obtain ⟨σ', H', I', a, o, kvs, e, n, q'⟩ := z; exact ⟨σ', _, I'.thaw e n, q'⟩
  | brk => obtain ⟨σ', H', I', a, o, kvs, e, n, q'⟩ := z; exact ⟨σ', _, I'.thaw e n, q'⟩
  | cont => obtain ⟨σ', H', I', a, o, kvs, e, n, q'⟩ := z; exact ⟨σ', _, I'.thaw e n, q'⟩
  | ret u => obtain ⟨v, σ', H', I', r, a, o, kvs, e, n, q'⟩ := z; exact ⟨v, σ', _, I'.thaw e n, r, q'⟩
theorem pe_thaw {X : Cx} {x : Expr} {t : TE} {H0 : Hp} (h0 : X.H₀ = H0) (h : PE X x t) : PE X x (tThawE H0 t) := by
  subst h0
  intro pins s σ H Q I q
  refine thn (h pins s σ H _ I q) fun u s1 ⟨v, H', I', r, a, o, kvs, e, n, q'⟩ => ⟨v, _, I'.thaw e n, r, q'⟩

/-! #### the keys -/
def Itdk (a : Addr) (o : Obj) (kvs : List (Key × V)) : It :=
  ⟨fun i H => i < kvs.length ∧ H a = some (.frz o (.dK kvs)), fun i H x H' => H' = H ∧ ∃ kv, kvs[i]? = some kv ∧ x = kV kv.1, fun i H => i = kvs.length ∧ H a = some (.frz o (.dK kvs))⟩
/-- what a frozen dict is -/
theorem frz_dict {X : Cx} {pins : List (Addr × Obj)} {σ : St} {H : Hp} {s : Shared} {a : Addr} {kvs : List (Key × V)} {o : Obj} {es : Array DictEntry} {ep : Nat} (I : Inv X pins σ H s) (e : H a = some (.frz o (.dK kvs))) (ho : o.data = .dict es ep) :
    (a == sysModules) = false ∧ ∃ vs, KV kvs vs ∧ s.heap.DictAt (mixKind X.prog X.w) a vs ep := by
  obtain ⟨h1, _, h2, vs, h3, ob, es', ep', h4, h5, h6, h7⟩ := (show ObjOk X.prog X.w H s.heap a (.frz o (.dK kvs)) from I.hok a _ e)
  have z := h1.symm.trans h4
  cases z
  rw [ho] at h6
  cases h6
  exact ⟨h2, vs, h3, o, es, h1, h5, ho, h7⟩
theorem kv_at {kvs : List (Key × V)} {vs : List (Key × Value)} {i : Nat} {kv : Key × V} (r : KV kvs vs) (h : kvs[i]? = some kv) : ∃ x, vs[i]? = some (kv.1, x) ∧ RelV kv.2 x := by
  have go : ∀ {l : List (Key × V)} {m : List (Key × Value)} {i : Nat} {p : Key × V}, Paired (fun (p : Key × V) (q : Key × Value) => p.1 = q.1 ∧ RelV p.2 q.2) l m → l[i]? = some p → ∃ x, m[i]? = some (p.1, x) ∧ RelV p.2 x := by
    intro l m i p r
    induction r generalizing i with
    | nil => intro h; cases h
    | cons a t ih =>
      intro h
      cases i with
      | zero => cases h; exact ⟨_, by rw [a.1]; rfl, a.2⟩
      | succ i => exact ih h
  exact go r h
theorem turn_dk {P : Program} {w : World} {K : PySem.W.Frag} {tg : Expr} (a it : Addr) (o : Obj) (kvs : List (Key × V)) {es : Array DictEntry} {ep : Nat} (ho : o.data = .dict es ep) : Turn P w K tg (Itdk a o kvs) [it] it (fun i h => h.IsKeyIter it a i kvs.length ep) where
  mem := by simp
  obj := fun i h st b hb => by
    have e : b = it := by simpa using hb
    subst e
    obtain ⟨oi, q, c, d⟩ := st
    exact ⟨oi, q, fun v z => by rw [d] at z; cases z⟩
  keep := fun i h h' st k => st.at fun ob q => k it (by simp) ob q
  item := by
    intro X hP hw hK hc i pins s σ H E I hf st hg
    subst hP hw hK
    obtain ⟨hi, hfz⟩ := hg
    obtain ⟨_, vs, rel, da⟩ := frz_dict I hfz ho
    have hlen : kvs.length = vs.length := KV.length rel
    obtain ⟨kv, hkv⟩ : ∃ kv, kvs[i]? = some kv := ⟨kvs[i], by simp [hi]⟩
    obtain ⟨x, hx, rx⟩ := kv_at rel hkv
    rw [hlen] at st
    refine wpAny_pyNext_dict_item st da hx fun key h' hkey st' sb => ?_
    have I1 : Inv X pins σ H { s with heap := h' } := I.turnedL (t' := s.toks) (fun b ob hb q => (sb.2 b (fun z => hb (by simp [z]))).trans q) hf
    obtain ⟨oi, q, c, d⟩ := id st'
    rw [← hlen] at st'
    exact ⟨key, rfl, go_of (s := { s with heap := h' }) q c d (by decide) ⟨kV kv.1, H, I1, keyRel hkey, ⟨rfl, kv, hkv, rfl⟩, st', fun b hb => (hf b hb).1⟩⟩
  done := by
    intro X hP hw hK hc i pins s σ H E I hf st hg
    subst hP hw hK
    obtain ⟨hi, hfz⟩ := hg
    obtain ⟨_, vs, rel, da⟩ := frz_dict I hfz ho
    have hlen : kvs.length = vs.length := KV.length rel
    rw [hlen] at st
    exact wpAny_pyNext_dict_end (I.ok.hd hc) st da (by simp; omega) fun h' ext => ⟨rfl, I.turnedL (t' := s.toks) (fun b ob hb q => ext b ob (fun z => hb (by simp [z])) q) hf⟩
  self := fun A i s Q E st q => wpAny_pyIter_keyiter st q
/-- for x in d -/
def iDict (td : TE) : TI := fun σ H R => td σ H fun x H1 => ∃ a kvs, x = .ref a ∧ H1 a = some (.dK kvs) ∧ ∀ o, R (Itdk a o kvs) (upd H1 a (.frz o (.dK kvs)))
theorem pi_dict {X : Cx} {tg d : Expr} {td : TE} (hd : PE X d td) : PI X tg d (iDict td) := by
  intro pins s σ H R I h
  refine thn (hd pins s σ H _ I h) fun v s1 ⟨x, H1, I1, r1, a, kvs, ex, e, q⟩ => ?_
  subst ex
  cases r1
  obtain ⟨o, ho, I2⟩ := I1.freeze e
  obtain ⟨_, hsm, vs, rel, ob, es, ep, h4, h5, h6, h7⟩ := (show ObjOk X.prog X.w H1 s1.heap a (.dK kvs) from I1.hok a _ e)
  rw [ho] at h4
  cases h4
  have da : s1.heap.DictAt (mixKind X.prog X.w) a vs ep := ⟨o, es, ho, h5, h6, h7⟩
  refine wpAny_pyIter_dict hsm da ?_
  refine ⟨s1.heap.objs.size, [s1.heap.objs.size], _, _, _, rfl, I2.kept (t' := s1.toks) fun b u q => Heap.get?_push_of_some _ q, turn_dk a _ o kvs h6, ?_, fun b hb => ?_, q o⟩
  · rw [KV.length rel]
    exact ⟨_, Heap.get?_push_size _ rfl, rfl, rfl⟩
  · have z : b = s1.heap.objs.size := by simpa using hb
    subst z
    exact I2.fpOk (Nat.le_refl _) (I2.hok.fresh (Nat.le_refl _))

/-! #### the items -/
def Itdi (a : Addr) (o : Obj) (kvs : List (Key × V)) : It :=
  ⟨fun i H => i < kvs.length ∧ H a = some (.frz o (.dK kvs)), fun i H x H' => ∃ p kv, H p = none ∧ kvs[i]? = some kv ∧ x = .ref p ∧ H' = upd H p (.tup [kV kv.1, kv.2]), fun i H => i = kvs.length ∧ H a = some (.frz o (.dK kvs))⟩
theorem entry_itemiter_iter : entryFor table "dict_itemiterator.__iter__" = some Builtin.«dict_keyiterator.__iter__» := entryFor_alias (id' := "dict_keyiterator.__iter__") (by kernel_rfl) rfl (by decide +kernel) (by kernel_rfl)
theorem iter_itemiter {prog : Program} {w : World} {A : Around} {E : Value → Shared → Prop} {s : Shared} {it d : Addr} {i n ep : Nat} {ok ov : Value} {Q : Value → Shared → Prop} (hit : IsItemIter s.heap it d i n ep ok ov) (h : Q (.ref it) s) :
    wpAny (model prog w) A (pyIter (.ref it)) Q E s := by
  have hT : s.TypeIs (.ref it) "dict_itemiterator" := ⟨_, hit, rfl⟩
  refine wpAny_pyIter_slot hT F.slot_dict_itemiterator_iter (wpAny_call_entry F.slot_dict_itemiterator_iter hT entry_itemiter_iter ?_ (F.args_dict_itemiterator_iter_1 _))
  exact wpAny_pure ⟨_, rfl, "dict_itemiterator", _, hT, F.slot_dict_itemiterator_next.lookup, h⟩
theorem turn_di {P : Program} {w : World} {K : PySem.W.Frag} {elts : List Expr} {k : Nat} {pos : Pos} (a it : Addr) (o : Obj) (kvs : List (Key × V)) {es : Array DictEntry} {ep : Nat} (ho : o.data = .dict es ep) :
    Turn P w K (.Tuple elts k pos) (Itdi a o kvs) [it] it (fun i h => ∃ ok ov, IsItemIter h it a i kvs.length ep ok ov) where
  mem := by simp
  obj := fun i h st b hb => by
    have e : b = it := by simpa using hb
    subst e
    obtain ⟨ok, ov, q⟩ := st
    exact ⟨_, q, fun v z => by cases (show Data.fields _ = Data.cell v from z)⟩
  keep := fun i h h' st k => by
    obtain ⟨ok, ov, q⟩ := st
    exact ⟨ok, ov, k it (by simp) _ q⟩
  item := by
    intro X hP hw hK hc i pins s σ H E I hf st hg
    subst hP hw hK
    obtain ⟨hi, hfz⟩ := hg
    obtain ⟨ok, ov, st⟩ := st
    obtain ⟨_, vs, rel, da⟩ := frz_dict I hfz ho
    have hlen : kvs.length = vs.length := KV.length rel
    obtain ⟨kv, hkv⟩ : ∃ kv, kvs[i]? = some kv := ⟨kvs[i], by simp [hi]⟩
    obtain ⟨x, hx, rx⟩ := kv_at rel hkv
    rw [hlen] at st
    refine wpAny_pyNext_items_item st da hx fun key h' hkey hout htup hsz hkeep => ?_
    refine ⟨_, rfl, wpAny_letOwnedTupleGo_items hout fun h2 he2 hs2 => ?_⟩
    have nit : s.heap.objs.size ≠ it := Nat.ne_of_gt (Heap.lt_size st)
    have new : ObjOk X.prog X.w (upd H s.heap.objs.size (.tup [kV kv.1, kv.2])) h2 s.heap.objs.size (.tup [kV kv.1, kv.2]) :=
      ⟨by show 2 ≤ sizeLine; decide, [key, x], .cons (keyRel hkey) (.cons rx .nil), _, (hs2.2 _ nit).trans htup, rfl, 0, rfl⟩
    have I1 := I.turnedNew (h' := h2) (t' := s.toks) (Nat.le_refl _) (fun b q hb z => (hs2.2 b (fun w => hb (by simp [w]))).trans (hkeep b q (fun w => hb (by simp [w])) z)) hf new
    refine ⟨.ref s.heap.objs.size, _, I1, rfl, ⟨s.heap.objs.size, kv, I.hok.fresh (Nat.le_refl _), hkv, rfl, rfl⟩, ⟨key, x, ?_⟩, fun b hb => ?_⟩
    · rw [hlen]; exact he2
    · have z : b = it := by simpa using hb
      subst z
      rw [upd_ne (Ne.symm nit)]
      exact (hf b hb).1
  done := by
    intro X hP hw hK hc i pins s σ H E I hf st hg
    subst hP hw hK
    obtain ⟨hi, hfz⟩ := hg
    obtain ⟨ok, ov, st⟩ := st
    obtain ⟨_, vs, rel, da⟩ := frz_dict I hfz ho
    have hlen : kvs.length = vs.length := KV.length rel
    rw [hlen] at st
    exact wpAny_pyNext_items_end (I.ok.hd hc) st da (by simp; omega) fun h' ext => ⟨rfl, I.turnedL (t' := s.toks) (fun b ob hb q => ext b ob (fun z => hb (by simp [z])) q) hf⟩
  self := fun A i s Q E st q => by
    obtain ⟨ok, ov, st⟩ := st
    exact iter_itemiter st q
/-- for k, v in d.items() -/
def iItems (td : TE) : TI := fun σ H R => td σ H fun x H1 => ∃ a kvs, x = .ref a ∧ H1 a = some (.dK kvs) ∧ ∀ o, R (Itdi a o kvs) (upd H1 a (.frz o (.dK kvs)))
theorem pi_items {X : Cx} {d : Expr} {td : TE} {elts : List Expr} {k : Nat} {tp apos cpos : Pos} (hd : PE X d td) (hbase : attributeBase d "items" X.env (eval d X.env) = eval d X.env := by rfl) (hline : (apos.endLine == cpos.line) = true := by rfl) :
    PI X (.Tuple elts k tp) (.Call (.Attribute d "items" apos) [] [] cpos) (iItems td) := by
  intro pins s σ H R I h
  refine wpAny_Call_method0_late hbase hline (thn (hd pins s σ H _ I h) fun v s1 ⟨x, H1, I1, r1, a, kvs, ex, e, q⟩ => ?_)
  subst ex
  cases r1
  obtain ⟨t1, t2, hsm⟩ := isD_at I1 (.inl ⟨kvs, .inl e⟩)
  obtain ⟨o, ho, I2⟩ := I1.freeze e
  obtain ⟨_, _, vs, rel, ob, es, ep, h4, h5, h6, h7⟩ := (show ObjOk X.prog X.w H1 s1.heap a (.dK kvs) from I1.hok a _ e)
  rw [ho] at h4
  cases h4
  have da : s1.heap.DictAt (mixKind X.prog X.w) a vs ep := ⟨o, es, ho, h5, h6, h7⟩
  refine ⟨"dict", "dict.items", F.plainAttrs_dict, F.slot_dict_items, F.type_dict_items, t1, t2, Calls.callWith_builtin rfl (PySem.evalArgs_none ?_)⟩
  refine call_meetsIn F.slot_dict_items t1 F.entry_dict_items (F.args_dict_items_1 _) (meets_dict_items (mixKind X.prog X.w) a hsm) ⟨⟨vs, da.dictOf⟩, ?_⟩
  have hz : (s1.heap.push { cls := .type "dict_items", data := .fields #[.ref a] }).objs.size = s1.heap.objs.size + 1 := Heap.size_push ..
  refine wpAny_pyIter_items (knd := mixKind X.prog X.w) (d := a) (kvs := vs) (ep := ep) ⟨_, Heap.get?_push_size _ rfl, rfl, rfl⟩ (da.push _) ?_
  refine ⟨(s1.heap.push { cls := .type "dict_items", data := .fields #[.ref a] }).objs.size, [(s1.heap.push { cls := .type "dict_items", data := .fields #[.ref a] }).objs.size], _, _, _, rfl,
    I2.kept (t' := s1.toks) fun b u q => Heap.get?_push_of_some _ (Heap.get?_push_of_some _ q), turn_di a _ o kvs h6, ?_, fun b hb => ?_, q o⟩
  · rw [KV.length rel]
    exact ⟨_, _, Heap.get?_push_size _ rfl⟩
  · have z : b = (s1.heap.push { cls := .type "dict_items", data := .fields #[.ref a] }).objs.size := by simpa using hb
    have z2 : s1.heap.objs.size ≤ b := by rw [z, hz]; exact Nat.le_succ _
    exact I2.fpOk z2 (I2.hok.fresh z2)

/-! #### loops, comprehensions -/
section
variable {a l : Addr} {o : Obj} {kvs : List (Key × V)} {g : TG} {tb : TS} {D : Ends} {σ : St} {H : Hp} {tt : TT} {te tk tv : TE} {Q : VK}
theorem for_dk (Pv : Nat → St → Hp → Prop) (h0 : Pv 0 σ H) (hl : ∀ i σ H', i ≤ kvs.length → Pv i σ H' → H' a = some (.frz o (.dK kvs)))
    (hs : ∀ i kv σ H', kvs[i]? = some kv → Pv i σ H' → g (kV kv.1) σ H' fun σ2 H2 => tb { D with nx := Pv (i + 1), ct := Pv (i + 1), bk := D.nx } σ2 H2) (hd : ∀ σ H', Pv kvs.length σ H' → D.nx σ H') :
    ∃ W : Nat → Nat → St → Hp → Prop, (∃ m, W 0 m σ H) ∧ ∀ i m σ H, W i m σ H →
      ((Itdk a o kvs).stop i H ∧ D.nx σ H) ∨ ((Itdk a o kvs).go i H ∧ ∃ N : St → Hp → Prop, (∀ σ' H', N σ' H' → ∃ m', m' < m ∧ W (i + 1) m' σ' H') ∧ ∀ x H', (Itdk a o kvs).yld i H x H' → g x σ H' fun σ2 H2 => tb { D with nx := N, ct := N, bk := D.nx } σ2 H2) := by
  refine ⟨fun i m σ H => m = kvs.length - i ∧ i ≤ kvs.length ∧ Pv i σ H, ⟨kvs.length, by simp, Nat.zero_le _, h0⟩, ?_⟩
  rintro i m σ H ⟨rfl, hi, p⟩
  have q := hl i σ H hi p
  by_cases hlt : i < kvs.length
  · refine .inr ⟨⟨hlt, q⟩, Pv (i + 1), fun σ' H' p' => ⟨kvs.length - (i + 1), by omega, rfl, hlt, p'⟩, fun x H' y => ?_⟩
    obtain ⟨rfl, kv, hkv, rfl⟩ := y
    exact hs i kv σ _ hkv p
  · have e : i = kvs.length := by omega
    subst e
    exact .inl ⟨⟨rfl, q⟩, hd σ H p⟩
theorem comp_di {σ0 : St} {H0 : Hp} (Pv : Nat → St → Hp → Prop) (h0 : Pv 0 σ0 H0) (hl : ∀ i σ H', i ≤ kvs.length → Pv i σ H' → H' a = some (.frz o (.dK kvs)))
    (hs : ∀ i kv p σ H', kvs[i]? = some kv → Pv i σ H' → H' p = none → g (.ref p) σ (upd H' p (.tup [kV kv.1, kv.2])) fun σ3 H3 => tt σ3 H3 fun b H4 => if b = true then te σ3 H4 fun y H5 => ∃ ys, H5 l = some (.lst ys) ∧ ys.length < sizeLine ∧ Pv (i + 1) σ3 (upd H5 l (.lst (ys ++ [y]))) else Pv (i + 1) σ3 H4)
    (hd : ∀ σ H', Pv kvs.length σ H' → Q (.ref l) H') : CWant (Itdi a o kvs) g tt te Q σ0 H0 l := by
  unfold CWant
  refine ⟨fun i m σ H' => m = kvs.length - i ∧ i ≤ kvs.length ∧ Pv i σ H', ⟨kvs.length, by simp, Nat.zero_le _, h0⟩, ?_⟩
  rintro i m σ H' ⟨rfl, hi, p⟩
  have q := hl i σ H' hi p
  by_cases hlt : i < kvs.length
  · refine .inr ⟨⟨hlt, q⟩, Pv (i + 1), fun σ3 H3 p' => ⟨kvs.length - (i + 1), by omega, rfl, hlt, p'⟩, fun x H2 y => ?_⟩
    obtain ⟨pa, kv, hp, hkv, rfl, rfl⟩ := y
    exact hs i kv pa σ H' hkv p hp
  · have e : i = kvs.length := by omega
    subst e
    exact .inl ⟨⟨rfl, q⟩, hd σ H' p⟩
/-- {k: v for .. in d.items()} -/
theorem dcomp_di {σ0 : St} {H0 : Hp} (Pv : Nat → St → Hp → Prop) (h0 : Pv 0 σ0 H0) (hl : ∀ i σ H', i ≤ kvs.length → Pv i σ H' → H' a = some (.frz o (.dK kvs)))
    (hs : ∀ i kv p σ H', kvs[i]? = some kv → Pv i σ H' → H' p = none → g (.ref p) σ (upd H' p (.tup [kV kv.1, kv.2])) fun σ3 H3 => tt σ3 H3 fun b H4 => if b = true then tk σ3 H4 fun y H5 => tv σ3 H5 fun z H6 => ∃ (kvs : List (Key × V)) (k : Key), H6 l = some (.dK kvs) ∧ y = kV k ∧ kvs.length < sizeLine ∧ Pv (i + 1) σ3 (upd H6 l (.dK (putK kvs k z))) else Pv (i + 1) σ3 H4)
    (hd : ∀ σ H', Pv kvs.length σ H' → Q (.ref l) H') : DWant (Itdi a o kvs) g tt tk tv Q σ0 H0 l := by
  unfold DWant
  refine ⟨fun i m σ H' => m = kvs.length - i ∧ i ≤ kvs.length ∧ Pv i σ H', ⟨kvs.length, by simp, Nat.zero_le _, h0⟩, ?_⟩
  rintro i m σ H' ⟨rfl, hi, p⟩
  have q := hl i σ H' hi p
  by_cases hlt : i < kvs.length
  · refine .inr ⟨⟨hlt, q⟩, Pv (i + 1), fun σ3 H3 p' => ⟨kvs.length - (i + 1), by omega, rfl, hlt, p'⟩, fun x H2 y => ?_⟩
    obtain ⟨pa, kv, hp, hkv, rfl, rfl⟩ := y
    exact hs i kv pa σ H' hkv p hp
  · have e : i = kvs.length := by omega
    subst e
    exact .inl ⟨⟨rfl, q⟩, hd σ H' p⟩
/-- {k: v for .. in t}, t a tuple -/
theorem dcomp_tup {K : PySem.W.Frag} {xs : List V} {σ0 : St} {H0 : Hp} (Pv : Nat → St → Hp → Prop) (h0 : Pv 0 σ0 H0) (hl : ∀ i σ H', i ≤ xs.length → Pv i σ H' → SqT K H' a xs)
    (hs : ∀ i x σ H', xs[i]? = some x → Pv i σ H' → g x σ H' fun σ3 H3 => tt σ3 H3 fun b H4 => if b = true then tk σ3 H4 fun y H5 => tv σ3 H5 fun z H6 => ∃ (kvs : List (Key × V)) (k : Key), H6 l = some (.dK kvs) ∧ y = kV k ∧ kvs.length < sizeLine ∧ Pv (i + 1) σ3 (upd H6 l (.dK (putK kvs k z))) else Pv (i + 1) σ3 H4)
    (hd : ∀ σ H', Pv xs.length σ H' → Q (.ref l) H') : DWant (Itt K a) g tt tk tv Q σ0 H0 l := by
  unfold DWant
  refine ⟨fun i m σ H' => m = xs.length - i ∧ i ≤ xs.length ∧ Pv i σ H', ⟨xs.length, by simp, Nat.zero_le _, h0⟩, ?_⟩
  rintro i m σ H' ⟨rfl, hi, p⟩
  have q := hl i σ H' hi p
  by_cases hlt : i < xs.length
  · refine .inr ⟨⟨xs, xs[i], q, by simp [hlt]⟩, Pv (i + 1), fun σ3 H3 p' => ⟨xs.length - (i + 1), by omega, rfl, hlt, p'⟩, fun x H2 y => ?_⟩
    obtain ⟨e, y⟩ := y
    subst e
    exact hs i x σ _ (y xs q) p
  · have e : i = xs.length := by omega
    subst e
    exact .inl ⟨⟨xs, q, Nat.le_refl _⟩, hd σ H' p⟩
end
end L2

set_option Elab.async false
set_option linter.all false
set_option maxRecDepth 100000
set_option maxHeartbeats 1000000

/-! ### sorted(l), l a list of tuples of whole numbers: some order of the same -/
namespace L2
open PySem PySem.Spec PyProof.Rows
open PySem.W (KasT kas_asc kas_desc kas_rev kas_tail3 kas_descPart kas_count kas_place kas_bin kas_sort)
/-- every answer leads to what P says, and asks within n alone -/
def kAll {α : Type} (n : Nat) (P : α → Prop) : KasT α → Prop
  | .ret a => P a
  | .ask i j k => i < n ∧ j < n ∧ ∀ b, kAll n P (k b)
theorem kAll_bind {α β : Type} {n : Nat} {P : α → Prop} {Q : β → Prop} {f : α → KasT β} : ∀ t : KasT α, kAll n P t → (∀ a, P a → kAll n Q (f a)) → kAll n Q (t.bind f)
  | .ret a, h, q => q a h
  | .ask i j k, h, q => ⟨h.1, h.2.1, fun b => kAll_bind (k b) (h.2.2 b) q⟩
def Pm (n : Nat) (p : Array Nat) : Prop := p.toList.Perm (List.range n)
theorem Pm.rev {n : Nat} {p : Array Nat} (h : Pm n p) (i j : Nat) : Pm n (kas_rev p i j) := (Array.perm_iff_toList_perm.mp (mirror_perm p i j ((j - i) / 2))).trans h
theorem Pm.bub {n : Nat} {p : Array Nat} (h : Pm n p) (k d : Nat) : Pm n (bubble p k d) := (Array.perm_iff_toList_perm.mp (bubble_perm p k d)).trans h
theorem Pm.lt {n : Nat} {p : Array Nat} (h : Pm n p) (n0 : 0 < n) (i : Nat) : p.getD i 0 < n := by
  by_cases hi : i < p.size
  · have e : p.getD i 0 = p[i] := by simp [hi]
    rw [e]
    have hm : p[i] ∈ p.toList := by simp
    exact List.mem_range.mp (h.mem_iff.mp hm)
  · have e : p.getD i 0 = 0 := by simp [hi]
    rw [e]; exact n0
section
variable {n : Nat} (n0 : 0 < n)
include n0
theorem all_asc {p : Array Nat} (h : Pm n p) : ∀ f k, kAll n (fun _ => True) (kas_asc p f k)
  | 0, k => trivial
  | f + 1, k => ⟨h.lt n0 _, h.lt n0 _, fun b => by
    cases b with
    | true => exact trivial
    | false => exact all_asc h f (k + 1)⟩
theorem all_desc : ∀ f (p : Array Nat), Pm n p → ∀ k q, kAll n (fun r : Array Nat × Nat × Nat => Pm n r.1) (kas_desc f p k q)
  | 0, p, h, k, q => h
  | f + 1, p, h, k, q => ⟨h.lt n0 _, h.lt n0 _, fun b => by
    cases b with
    | true =>
      show kAll n _ (if q > 0 then kas_desc f (kas_rev p (k - (q + 1)) k) (k + 1) 0 else kas_desc f p (k + 1) 0)
      split
      · exact all_desc f _ (h.rev _ _) _ _
      · exact all_desc f _ h _ _
    | false => exact ⟨h.lt n0 _, h.lt n0 _, fun d => by
        cases d with
        | true => exact h
        | false => exact all_desc f _ h _ _⟩⟩
theorem all_tail {p : Array Nat} (h : Pm n p) (a b : Nat) : kAll n (fun r : Nat × Array Nat => Pm n r.2) (kas_tail3 a b p) :=
  kAll_bind _ (all_asc n0 (h.rev 0 a) _ _) fun m _ => h.rev 0 a
theorem all_descPart {p : Array Nat} (h : Pm n p) (a b : Nat) : kAll n (fun r : Nat × Array Nat => Pm n r.2) (kas_descPart a b p) :=
  kAll_bind _ (all_desc n0 _ p h _ _) fun r hr => by
    show kAll n _ (if r.2.2 > 0 then _ else _)
    split
    · exact all_tail n0 (Pm.rev hr _ _) _ _
    · exact all_tail n0 hr _ _
theorem all_count {p : Array Nat} (h : Pm n p) (a : Nat) : kAll n (fun r : Nat × Array Nat => Pm n r.2) (kas_count a p) :=
  kAll_bind _ (all_asc n0 h _ _) fun m _ => by
    show kAll n _ (if (m == a) = true then _ else if m > 1 then _ else _)
    split
    · exact h
    · split
      · refine ⟨h.lt n0 _, h.lt n0 _, fun b => ?_⟩
        cases b with
        | true => exact h
        | false => exact all_descPart n0 (h.rev _ _) _ _
      · exact all_descPart n0 h _ _
theorem all_place {p : Array Nat} (h : Pm n p) (k : Nat) : ∀ f l r, kAll n (fun _ => True) (kas_place p k f l r)
  | 0, _, _ => trivial
  | f + 1, l, r => by
    show kAll n _ (if l ≥ r then _ else _)
    split
    · exact trivial
    · refine ⟨h.lt n0 _, h.lt n0 _, fun b => ?_⟩
      cases b with
      | true => exact all_place h k f _ _
      | false => exact all_place h k f _ _
theorem all_bin : ∀ f (p : Array Nat), Pm n p → ∀ k, kAll n (Pm n) (kas_bin f p k)
  | 0, p, h, _ => h
  | f + 1, p, h, k => kAll_bind _ (all_place n0 h k _ _ _) fun l _ => all_bin f _ (h.bub _ _) _
theorem all_sort : kAll n (Pm n) (kas_sort n) :=
  kAll_bind _ (all_count n0 (p := List.toArray (List.range n)) (show Pm n _ by unfold Pm; exact List.Perm.refl _) n) fun r hr => by
    show kAll n _ (if r.1 < n then _ else _)
    split
    · exact all_bin n0 _ _ hr _
    · exact hr
end
section
variable {prog : Program} {w : World} {A : Around} {E : Value → Shared → Prop} {s : Shared}
/-- a list of less than two -/
theorem sorted_short {l : Addr} {vs : List Value} {Q : Value → Shared → Prop} (hl : s.heap.IsList l vs.toArray) (h1 : vs.length < 2)
    (h : ∀ D h' c, s.heap.objs.size ≤ D → h'.get? D = some (seqObj "list" vs.toArray c) → (∀ b o, s.heap.get? b = some o → h'.get? b = some o) → Q (.ref D) { s with heap := h' }) : wpAny (model prog w) A (call (.builtin "sorted") [.ref l]) Q E s := by
  have h2 : vs.toArray.size < 2 := by rw [List.size_toArray]; exact h1
  have hz : vs.length ≤ sizeLine := Nat.le_of_lt (small1000 (by omega))
  refine Calls.call_function_entry (Q := Q) kind_sorted plain_sorted entry_sorted (args_sorted1 (.ref l)) ?_
  unfold Builtin.«sorted»
  refine wpAny_bind (m := checkCount "sorted" 1 1 [Value.ref l].length) (wpAny_pure ?_)
  refine wpAny_bind (collect_list (vs := vs) hl ?_ hz)
  have k1 : ∀ b o, s.heap.get? b = some o → ((s.heap.push (seqObj "list" #[] 0)).update s.heap.objs.size (Obj.mapSeq (· ++ vs.toArray))).get? b = some o := fun b o q => by
    rw [Heap.get?_update_other _ _ (Nat.ne_of_gt (Heap.lt_size q))]
    exact Heap.get?_push_of_some _ q
  have z1 : ((s.heap.push (seqObj "list" #[] 0)).update s.heap.objs.size (Obj.mapSeq (· ++ vs.toArray))).objs.size = s.heap.objs.size + 1 := by rw [Heap.size_update, Heap.size_push]
  generalize ((s.heap.push (seqObj "list" #[] 0)).update s.heap.objs.size (Obj.mapSeq (· ++ vs.toArray))) = g1 at k1 z1
  refine wpAny_bind (wpAny_newList ?_ hz)
  have oD : (g1.push (seqObj "list" vs.toArray 0)).get? g1.objs.size = some (seqObj "list" vs.toArray 0) := Heap.get?_push_size _ rfl
  have k2 : ∀ b o, s.heap.get? b = some o → b ≠ g1.objs.size ∧ (g1.push (seqObj "list" vs.toArray 0)).get? b = some o := fun b o q => ⟨by rw [z1]; exact Nat.ne_of_lt (Nat.lt_succ_of_lt (Heap.lt_size q)), Heap.get?_push_of_some _ (k1 b o q)⟩
  refine wpAny_bind (wpAny_holding (wpAny_call_entry slot_list_sort ⟨_, oD, rfl⟩ entry_list_sort ?_ (args_list_sort _)))
  rw [list_sort_plain]
  have zD : s.heap.objs.size ≤ g1.objs.size := by rw [z1]; exact Nat.le_succ _
  generalize g1.objs.size = D at oD k2 zD
  generalize hg2 : g1.push (seqObj "list" vs.toArray 0) = g2 at oD k2
  refine wpAny_bind (listItems_at (a := D) oD rfl ?_)
  refine wpAny_bind (listUpdate_at (a := D) oD rfl ?_ (by rw [List.size_toArray]; exact hz) (Nat.zero_le _))
  obtain ⟨e1, o1⟩ : ∃ e1, (g2.update D (Obj.mapSeq fun _ => (#[] : Array Value))).get? D = some (seqObj "list" #[] e1) := ⟨_, get?_update_seq oD fun _ => #[]⟩
  have k3 : ∀ b o, s.heap.get? b = some o → b ≠ D ∧ (g2.update D (Obj.mapSeq fun _ => (#[] : Array Value))).get? b = some o := fun b o q => ⟨(k2 b o q).1, by rw [Heap.get?_update_other _ _ (Ne.symm (k2 b o q).1)]; exact (k2 b o q).2⟩
  have zip2 : (arrOf (SortSt.mk' general' (vs.toArray.zip vs.toArray) #[] 7 none)).map (·.2) = vs.toArray := by
    show (vs.toArray.zip vs.toArray).map (·.2) = vs.toArray
    apply Array.toList_inj.mp
    simp [Array.toList_zip, List.map_snd_zip]
  dsimp only
  generalize g2.update D (Obj.mapSeq fun _ => (#[] : Array Value)) = g3 at o1 k3 ⊢
  refine wpAny_bind (seqEpoch_at (a := D) o1 rfl ?_)
  refine wpAny_bind (wpAny_newTuple ?_ (by simpa using hz))
  refine wpAny_bind (wpAny_newList (items := []) ?_ (Nat.zero_le _))
  refine wpAny_holding ?_
  have o5 : ∀ x y : Obj, ((g3.push x).push y).get? D = some (seqObj "list" #[] e1) := fun x y => Heap.get?_push_of_some _ (Heap.get?_push_of_some _ o1)
  have k5 : ∀ x y : Obj, ∀ b o, s.heap.get? b = some o → b ≠ D ∧ ((g3.push x).push y).get? b = some o := fun x y b o q => ⟨(k3 b o q).1, Heap.get?_push_of_some _ (Heap.get?_push_of_some _ (k3 b o q).2)⟩
  dsimp only
  rw [if_pos h2, if_pos h2]
  refine wpAny_bind (wpAny_pure ?_)
  rw [StateT.run_pure]
  refine wpAny_bind (wpAny_pure ?_)
  dsimp only
  refine wpAny_bind (seqEpoch_at (a := D) (o5 _ _) rfl ?_)
  rw [zip2]
  refine wpAny_bind (listUpdate_at (a := D) (o5 _ _) rfl ?_ (Nat.zero_le _) (by first | (rw [List.size_toArray]; exact hz) | (rw [List.size_toArray]; omega)))
  simp only [bne_self_eq_false, Bool.false_eq_true, if_false]
  obtain ⟨c, oF⟩ : ∃ c, (((g3.push { cls := .type "tuple", data := .seq vs.toArray }).push { cls := .type "list", data := .seq #[] }).update D (Obj.mapSeq fun _ => vs.toArray)).get? D = some (seqObj "list" vs.toArray c) := ⟨_, get?_update_seq (o5 _ _) fun _ => vs.toArray⟩
  refine wpAny_pure ⟨_, rfl, wpAny_pure ⟨_, rfl, h D _ c zD oF fun b o q => ?_⟩⟩
  rw [Heap.get?_update_other _ _ (Ne.symm (k3 b o q).1)]
  exact (k5 _ _ b o q).2
end
theorem ns_uniq {h : Heap} {a : Addr} {m m' : Str → Option Value} (x : h.Ns a m) (y : h.Ns a m') : m = m' := by
  obtain ⟨o, es, ep, h1, h2, _, h3⟩ := x
  obtain ⟨o', es', ep', g1, g2, _, g3⟩ := y
  rw [h1] at g1
  cases g1
  rw [h2] at g2
  cases g2
  funext k
  rw [← h3, ← g3]
theorem perm_getD {α β : Type} (d : α) (e : β) : ∀ {vs : List α} {its : List β} {F : α → β → Prop} {is : List Nat}, Paired F vs its → (∀ i ∈ is, i < vs.length) → Paired F (is.map fun i => vs.getD i d) (is.map fun i => its.getD i e)
  | vs, its, F, [], _, _ => .nil
  | vs, its, F, i :: is, r, h => by
    refine .cons ?_ (perm_getD d e r fun j hj => h j (List.mem_cons_of_mem _ hj))
    have hi := h i (List.mem_cons_self ..)
    have go : ∀ {l : List α} {m : List β} {i : Nat}, Paired F l m → i < l.length → F (l.getD i d) (m.getD i e) := by
      intro l m i r
      induction r generalizing i with
      | nil => intro h; exact absurd h (Nat.not_lt_zero _)
      | cons a t ih =>
        intro h
        cases i with
        | zero => exact a
        | succ i => exact ih (Nat.lt_of_succ_lt_succ h)
    exact go r hi
theorem range_getD {α : Type} (d : α) (vs : List α) : (List.range vs.length).map (fun i => vs.getD i d) = vs := by
  apply List.ext_getElem
  · simp
  · intro i h1 h2
    simp [h2]
/-- a row of tuples of whole numbers -/
def RowsI (K : PySem.W.Frag) (H : Hp) (vs : List V) : Prop := ∀ v ∈ vs, ∃ t ns, v = .ref t ∧ SqT K H t ((ns : List Int).map V.int) ∧ 0 < ns.length
theorem katTups {X : Cx} {pins : List (Addr × Obj)} {σ : St} {H : Hp} {s : Shared} {h' : Heap} (I : Inv X pins σ H s) (k : ∀ b o, H b ≠ none ∨ (∃ u, X.base.get? b = some u) → s.heap.get? b = some o → h'.get? b = some o) : ∀ {vs : List V} {its : List Value}, Vals vs its → RowsI X.K H vs →
    ∃ fs, PySem.W.KatTups h' its fs ∧ fs.length = its.length ∧ ∀ f ∈ fs, ∃ i t, f = Value.int i t
  | _, _, .nil, _ => ⟨[], trivial, rfl, fun f h => nomatch h⟩
  | _, _, .cons r t, h => by
    obtain ⟨fs, f1, f2, f3⟩ := katTups I k t fun v hv => h v (List.mem_cons_of_mem _ hv)
    obtain ⟨tp, ns, rfl, hq, hn⟩ := h _ (List.mem_cons_self ..)
    cases r
    obtain ⟨its, rv, ⟨o, ho, hc, n, hd⟩, _⟩ := I.tuple hq
    have ho' : h'.get? tp = some o := by
      refine k tp o ?_ ho
      rcases hq with (e | ⟨_, e⟩) | ⟨_, _, _, e, _⟩
      · exact .inl (by rw [e]; exact fun z => nomatch z)
      · exact .inl (by rw [e]; exact fun z => nomatch z)
      · exact .inr ⟨_, I.mod.kin _ _ e⟩
    cases ns with
    | nil => exact absurd hn (Nat.lt_irrefl _)
    | cons n0 nr =>
      cases rv with
      | cons r0 rr =>
        obtain ⟨tk, rfl⟩ := r0
        exact ⟨Value.int n0 tk :: fs, PySem.W.KatTups.cons ho' hc hd (by simp) f1, by simp [f2], fun f hf => by
          rcases List.mem_cons.mp hf with rfl | hf
          · exact ⟨_, _, rfl⟩
          · exact f3 f hf⟩
end L2

set_option Elab.async false
set_option linter.all false
set_option maxRecDepth 100000
set_option maxHeartbeats 1000000
namespace L2
open PySem PySem.Spec PyProof.Rows
theorem lk_list_keys : typeLookup (.type "list") "keys" = pure none := by rw [typeLookup_type, builtinLookup_eq_fast]; kernel_rfl
theorem lk_list_hook : typeLookup (.type "list") "__getattr__" = pure none := by rw [typeLookup_type, builtinLookup_eq_fast]; kernel_rfl
theorem sub_ae : isSubtype (.type "AttributeError") (.type "AttributeError") = pure true := by rw [isSubtype_type]; kernel_rfl
section
variable {M : Model} {A : Around} {E : Value → Shared → Prop} {s : Shared}
theorem note_new {e : Addr} {o : Obj} {x nm T : Value} {Q : Unit → Shared → Prop} (ho : s.heap.get? e = some o) (hc : o.cls = .type "AttributeError") (hd : o.data = .fields #[T, .none, .none, .none, .bool false, .none, unsetMember, unsetMember])
    (h : ∀ h', (∀ b u, b ≠ e → s.heap.get? b = some u → h'.get? b = some u) → (∃ o', h'.get? e = some o' ∧ o'.cls = .type "AttributeError") → Q () { s with heap := h' }) : wpAny M A (noteAttr (.ref e) x nm) Q E s := by
  obtain ⟨oc, od, oa, os⟩ := o
  cases hc
  cases hd
  have hT : s.TypeIs (.ref e) "AttributeError" := ⟨_, ho, rfl⟩
  unfold noteAttr
  refine wpAny_bind ?_
  unfold lacksNameAndObj
  refine wpAny_bind (wpAny_isInstance hT sub_ae ?_)
  simp only [Bool.not_true, Bool.false_eq_true, if_false]
  refine wpAny_bind (wpAny_load ho ?_)
  refine wpAny_pure ?_
  rw [if_pos rfl]
  refine wpAny_bind (wpAny_rule ?_)
  refine wpAny_bind (wpAny_typeOf hT ?_)
  show wpAny _ _ (layMembers e 6 #[nm, x]) _ _ _
  unfold layMembers
  refine wpAny_bind (wpAny_load ho ?_)
  refine wpAny_update ho ?_
  refine h _ (fun b u nb q => ?_) ⟨_, Heap.get?_update_self _ ho rfl, rfl⟩
  rw [Heap.get?_update_other _ _ (Ne.symm nb)]
  exact q
end
section
variable {prog : Program} {w : World} {A : Around} {E : Value → Shared → Prop} {s : Shared}
/-- what is raised -/
theorem raise_ae {α : Type} {x : Value} {nm msg : Str} {Q : α → Shared → Prop} (hm : msg.length ≤ sizeLine) (hh : A.handled = none) (hq : ∀ h' tk' e o, (∀ b u, s.heap.get? b = some u → h'.get? b = some u) → h'.get? e = some o → o.cls = .type "AttributeError" → E (.ref e) { s with heap := h', toks := tk' }) :
    wpAny (model prog w) A (raiseAttrError x nm msg : Sem α) Q E s := by
  unfold raiseAttrError
  refine wpAny_bind (wpAny_mkStr (wpAny_bind ?_) hm)
  unfold newExc newTuple
  refine wpAny_bind (wpAny_newObj_type ?_)
  refine wpAny_bind (m := firstArgMember _ _) (wpAny_of_eq (a := Value.none) (by kernel_rfl) ?_)
  refine wpAny_newObj_type ?_
  refine wpAny_bind (wpAny_mkText (wpAny_bind ?_))
  refine note_new (Heap.get?_push_size _ rfl) rfl rfl fun h' k1 ⟨o', k2, k3⟩ => ?_
  unfold raiseNew
  refine wpAny_bind (wpAny_handled ?_)
  rw [hh]
  first
    | refine wpAny_throw ?_
    | refine wpAny_bind (wpAny_pure (wpAny_throw ?_))
  exact hq _ _ _ o' (fun b u q => k1 b u (Nat.ne_of_lt (by rw [Heap.size_push]; exact Nat.lt_succ_of_lt (Heap.lt_size q))) (Heap.get?_push_of_some _ (Heap.get?_push_of_some _ q))) k2 k3
end
section
variable {prog : Program} {w : World} {A : Around} {E : Value → Shared → Prop} {h : Heap} {g : Array GenState} {d : Drawn} {t : Nat} {os : OsState} {a : Addr} {xs : Array Value} {c : Nat}
theorem nk_entry {tk : Tok} {Q : Fin → Shared → Prop} (hh : A.handled = none) (hx : h.get? a = some (seqObj "list" xs c)) (hq : ∀ h' tk' e o, (∀ b u, h.get? b = some u → h'.get? b = some u) → h'.get? e = some o → o.cls = .type "AttributeError" → E (.ref e) ⟨h', g, d, tk', os⟩) :
    wpAny (model prog w) A (Builtin.«object.__getattribute__» ⟨[.ref a, .str "keys" tk], []⟩) Q E ⟨h, g, d, t, os⟩ := by
  have hT : (⟨h, g, d, t, os⟩ : Shared).TypeIs (.ref a) "list" := ⟨_, hx, rfl⟩
  have f4 := lk_list_keys
  repeat (any_goals (first | assumption | wp_step))
  exact raise_ae (Nat.le_of_lt (small1000 (by decide +kernel))) hh fun h' tk' e o k1 k2 k3 => hq h' tk' e o k1 k2 k3
theorem nk_call {tk : Tok} {R : Result → Shared → Prop} (hh : A.handled = none) (hx : h.get? a = some (seqObj "list" xs c)) (hq : ∀ h' tk' e o, (∀ b u, h.get? b = some u → h'.get? b = some u) → h'.get? e = some o → o.cls = .type "AttributeError" → R (.error (.ref e)) ⟨h', g, d, tk', os⟩) :
    codeAny (model prog w) A (.call (.builtin "list.__getattribute__") ⟨[.ref a, .str "keys" tk], []⟩) R ⟨h, g, d, t, os⟩ :=
  codeAny_call_builtin F.slot_list_getattribute.plain F.entry_list_ga (F.slot_list_getattribute.check _ _ _ _ _ _ _ _ (show (⟨h, g, d, t, os⟩ : Shared).TypeIs (.ref a) "list" from ⟨_, hx, rfl⟩) (F.args_list_getattribute_2 _ _) (nk_entry hh hx hq))
theorem nk_by {tk : Tok} {Q : Value → Shared → Prop} (hh : A.handled = none) (hx : h.get? a = some (seqObj "list" xs c)) (hq : ∀ h' tk' e o, (∀ b u, h.get? b = some u → h'.get? b = some u) → h'.get? e = some o → o.cls = .type "AttributeError" → E (.ref e) ⟨h', g, d, tk', os⟩) : wpAny (model prog w) A (getAttrBy (.ref a) (.str "keys" tk) false) Q E ⟨h, g, d, t, os⟩ := by
  have hT : (⟨h, g, d, t, os⟩ : Shared).TypeIs (.ref a) "list" := ⟨_, hx, rfl⟩
  have f2 := F.slot_list_getattribute.lookup
  have f3 := F.slot_list_getattribute.bind (.ref a)
  have f5 := lk_list_hook
  repeat (any_goals (first | assumption | wp_step))
  refine nk_call hh hx fun h' tk' e o k1 k2 k3 => ?_
  have hT2 : (⟨h', g, d, tk', os⟩ : Shared).TypeIs (.ref e) "AttributeError" := ⟨_, k2, k3⟩
  have f6 := sub_ae
  repeat (any_goals (first | assumption | wp_step))
  all_goals exact hq h' tk' e o k1 k2 k3
theorem nk_attr {Q : Option Value → Shared → Prop} (hh : A.handled = none) (hx : h.get? a = some (seqObj "list" xs c)) (hq : ∀ h' tk', (∀ b u, h.get? b = some u → h'.get? b = some u) → Q none ⟨h', g, d, tk', os⟩) : wpAny (model prog w) A (getAttr? (.ref a) "keys") Q E ⟨h, g, d, t, os⟩ := by
  unfold getAttr? getAttrBy?
  refine wpAny_bind (wpAny_mkText (wpAny_bind (wpAny_attempt ?_)))
  refine nk_by hh hx fun h' tk' e o k1 k2 k3 => ?_
  have hT2 : (⟨h', g, d, tk', os⟩ : Shared).TypeIs (.ref e) "AttributeError" := ⟨_, k2, k3⟩
  refine wpAny_bind (wpAny_isInstance hT2 sub_ae ?_)
  rw [if_pos rfl]
  exact wpAny_pure (hq _ _ k1)
end
/-! #### dict(l), l a list of pairs -/
theorem plain_upd_loop : plainId "dict.update.loop" = true := by decide +kernel
theorem entry_upd_loop : entryFor table "dict.update.loop" = some Builtin.«dict.update.loop» := entryFor_of_fast (by kernel_rfl)
section
variable {prog : Program} {w : World} {κ : Type} [DecidableEq κ] {knd : KeyKind prog w κ} {A : Around} {E : Value → Shared → Prop} {s : Shared} {R : Result → Shared → Prop}
theorem upd_loop {d it l : Addr} {items : List Value} {res : Value} (hh : A.handled = none) (ndi : d ≠ it) (nld : l ≠ d) (nli : l ≠ it) : ∀ (rs : List (Addr × κ × Value × Value)) (i : Nat) (acc : List (κ × Value)) (s : Shared), s.heap.IsListIter it l i → s.heap.IsList l items.toArray →
    items.drop i = rs.map (fun r => Value.ref r.1) → (∀ r ∈ rs, s.heap.IsTuple r.1 #[r.2.2.1, r.2.2.2] ∧ knd.is r.2.1 r.2.2.1 = true ∧ r.1 ≠ d ∧ r.1 ≠ it) → s.heap.DictOf knd d acc → acc.length + rs.length ≤ sizeLine →
    (∀ h' tk, h'.DictOf knd d (rs.foldl (fun a r => stored a r.2.1 r.2.2.2) acc) → (∀ b o, b ≠ d → b ≠ it → s.heap.get? b = some o → h'.get? b = some o) → R (.ok (.ret res)) { s with heap := h', toks := tk }) →
    codeAny (model prog w) A (.builtin "dict.update.loop" ⟨[.ref d, .ref it, rawInt i, res], []⟩) R s
  | [], i, acc, s, hit, hl, hd, _, hm, hz, hR => by
    refine codeAny_builtin entry_upd_loop ?_
    rw [Around.under_plainId plain_upd_loop _]
    show wpAny _ A.in1 (pyNext (.ref it) >>= _) _ _ s
    have hx : items.toArray[i]? = none := by
      have : items.length ≤ i := by simpa using hd
      simp [this]
    refine wpAny_bind (wpAny_pyNext_list_end (show A.in1.handled = none from hh) hit hl hx fun h' ex => ?_)
    refine wpAny_bind (wpAny_pure ?_)
    refine wpAny_pure ?_
    obtain ⟨o, es, ep, a1, a2⟩ := hm
    exact hR h' s.toks ⟨o, es, ep, ex _ _ ndi a1, a2⟩ fun b o nb nt q => ex b o nt q
  | (t, k, key, v) :: rs, i, acc, s, hit, hl, hd, hr, hm, hz, hR => by
    refine codeAny_builtin entry_upd_loop ?_
    rw [Around.under_plainId plain_upd_loop _]
    show wpAny _ A.in1 (pyNext (.ref it) >>= _) _ _ s
    have hx : items.toArray[i]? = some (.ref t) := by
      have := congrArg List.head? hd
      rw [List.head?_drop] at this
      simpa using this
    have hd' : items.drop (i + 1) = rs.map (fun r => Value.ref r.1) := by
      rw [← List.tail_drop, hd]; rfl
    obtain ⟨⟨ot, ho, hc, n, hdt⟩, hk, nd, ni⟩ := hr _ (List.mem_cons_self ..)
    refine wpAny_bind (wpAny_pyNext_list_item hit hl hx fun h1 hit1 sb1 => ?_)
    have k1 : ∀ b o, b ≠ it → s.heap.get? b = some o → h1.get? b = some o := fun b o nb q => (sb1.2 b nb).trans q
    refine wpAny_bind (wpAny_holding ?_)
    refine wpAny_bind (wpAny_tryCatch ?_)
    have hT : (⟨h1, s.gens, s.drawn, s.toks, s.os⟩ : Shared).TypeIs (.ref t) "tuple" := ⟨ot, k1 _ _ ni ho, hc⟩
    unfold Builtin.Dict.pairItems
    refine wpAny_bind (wpAny_typeOf hT ?_)
    rw [if_pos (by decide)]
    refine wpAny_bind (wpAny_seqItems (k1 _ _ ni ho) hdt (wpAny_pure ?_))
    show wpAny _ A.in1 (holding [key, v] (dictSet d key v)) _ _ _
    obtain ⟨od, es, ep, a1, a2⟩ := hm
    have hm1 : h1.DictOf knd d acc := ⟨od, es, ep, k1 _ _ ndi a1, a2⟩
    have hz0 : acc.length + (rs.length + 1) ≤ sizeLine := hz
    refine wpAny_holding (wpAny_dictSet_pairs hk hm1 (fun h2 hm2 sb2 => ?_) (by omega))
    have k2 : ∀ b o, b ≠ d → h1.get? b = some o → h2.get? b = some o := fun b o nb q => (sb2.2 b nb).trans q
    refine wpAny_pure ⟨plainId_quiet plain_upd_loop _, ?_⟩
    have key : ∀ j : Int, rawInt (j + 1) = rawInt (j + 1) := fun _ => rfl
    have e1 : rawInt ((i : Int) + 1) = rawInt ((i + 1 : Nat) : Int) := by rw [Int.natCast_add]; rfl
    show codeAny (model prog w) A (.builtin "dict.update.loop" ⟨[.ref d, .ref it, rawInt ((i : Int) + 1), res], []⟩) R _
    rw [e1]
    obtain ⟨oi, b1, b2⟩ := hit1
    obtain ⟨ol, c1, c2⟩ := hl
    refine upd_loop hh ndi nld nli rs (i + 1) (stored acc k v) _ ⟨oi, k2 _ _ (Ne.symm ndi) b1, b2⟩ ⟨ol, k2 _ _ nld (k1 _ _ nli c1), c2⟩ hd' (fun r hrm => ?_) hm2 ?_ fun h' tk x y => hR h' tk x fun b o nb nt q => y b o nb nt (k2 _ _ nb (k1 _ _ nt q))
    · obtain ⟨⟨ob, d1, d2⟩, d3, d4, d5⟩ := hr r (List.mem_cons_of_mem _ hrm)
      exact ⟨⟨ob, k2 _ _ d4 (k1 _ _ d5 d1), d2⟩, d3, d4, d5⟩
    · have := stored_length_le acc k v
      omega
end
section
variable {prog : Program} {w : World} {κ : Type} [DecidableEq κ] {knd : KeyKind prog w κ} {A : Around} {E : Value → Shared → Prop} {s : Shared}
theorem dictOf_pairs {l : Addr} {items : List Value} {c : Nat} {rs : List (Addr × κ × Value × Value)} {Q : Value → Shared → Prop} (hh : A.handled = none) (hl : s.heap.get? l = some (seqObj "list" items.toArray c)) (hi : items = rs.map (fun r => Value.ref r.1))
    (hr : ∀ r ∈ rs, s.heap.IsTuple r.1 #[r.2.2.1, r.2.2.2] ∧ knd.is r.2.1 r.2.2.1 = true) (hz : rs.length ≤ sizeLine)
    (h : ∀ d h' tk, s.heap.objs.size ≤ d → h'.DictOf knd d (rs.foldl (fun a r => stored a r.2.1 r.2.2.2) []) → (∀ b o, s.heap.get? b = some o → h'.get? b = some o) → Q (.ref d) { s with heap := h', toks := tk }) :
    wpAny (model prog w) A (call (.type "dict") [.ref l]) Q E s := by
  refine callType_codes (Q₁ := fun obj s₁ => obj = .ref s.heap.objs.size ∧ s₁ = { s with heap := s.heap.push { cls := .type "dict", data := .dict #[] } }) F.kt_called_dict (F.kt_typeCall_dict_1 _) F.entry_dict_init (kt_code_dict_new _ ⟨rfl, rfl⟩) ?_
  rintro obj s₁ ⟨rfl, rfl⟩
  have hnew : (s.heap.push { cls := .type "dict", data := .dict #[] }).DictOf knd s.heap.objs.size [] := Heap.DictOf.new s.heap
  have k1 : ∀ b o, s.heap.get? b = some o → b ≠ s.heap.objs.size ∧ (s.heap.push { cls := .type "dict", data := .dict #[] }).get? b = some o := fun b o q => ⟨Nat.ne_of_lt (Heap.lt_size q), Heap.get?_push_of_some _ q⟩
  generalize hd : s.heap.objs.size = d at hnew k1
  have ld : s.heap.objs.size ≤ d := Nat.le_of_eq hd
  generalize s.heap.push { cls := .type "dict", data := .dict #[] } = g1 at hnew k1
  refine ⟨hnew.typeIs, F.args_dict_init_2 _ _, ?_⟩
  unfold Builtin.«dict.__init__»
  refine wpAny_bind ?_
  unfold Builtin.Dict.selfAndRest
  refine wpAny_bind (wpAny_notOrdered_dict hnew.typeIs ?_)
  show wpAny _ _ (pure (d, [Value.ref l])) _ _ _
  refine wpAny_pure ?_
  show wpAny _ _ (Builtin.Dict.updateFrom "dict.__init__" d (.ref l) [] .none) _ _ _
  unfold Builtin.Dict.updateFrom
  have hl1 := (k1 _ _ hl).2
  refine wpAny_bind (wpAny_typeOf (show (⟨g1, s.gens, s.drawn, s.toks, s.os⟩ : Shared).TypeIs (.ref l) "list" from ⟨_, hl1, rfl⟩) ?_)
  rw [if_pos (by decide)]
  refine wpAny_bind (nk_attr (show A.in1.in1.handled = none from hh) hl1 fun g2 tk k2 => ?_)
  rw [show (none : Option Value).isNone = true from rfl, if_pos rfl]
  refine wpAny_bind (wpAny_rule ?_)
  have hl2 := k2 _ _ hl1
  refine wpAny_bind (wpAny_pyIter_list (items := items.toArray) ⟨_, hl2, rfl, _, rfl⟩ ?_)
  obtain ⟨od, es, ep, a1, a2⟩ := hnew
  have nit : ∀ b o, g2.get? b = some o → b ≠ g2.objs.size := fun b o q => Nat.ne_of_lt (Heap.lt_size q)
  have k3 : ∀ b o, g2.get? b = some o → (g2.push { cls := .type "list_iterator", data := .fields #[.ref l, .int 0 0] }).get? b = some o := fun b o q => Heap.get?_push_of_some _ q
  refine wpAny_pure ⟨plainId_quiet plain_upd_loop _, ?_⟩
  refine upd_loop (knd := knd) (items := items) (show A.in1.handled = none from hh) (nit _ _ (k2 _ _ a1)) (k1 _ _ hl).1 (nit _ _ hl2) rs 0 [] _ ⟨_, Heap.get?_push_size _ rfl, rfl, rfl⟩ ⟨_, k3 _ _ hl2, rfl, _, rfl⟩ (by rw [List.drop_zero]; exact hi) (fun r hrm => ?_) ⟨od, es, ep, k3 _ _ (k2 _ _ a1), a2⟩ (by rw [List.length_nil]; omega) fun h' tk' x y => ⟨rfl, h d h' tk' ld x fun b o q => y b o (k1 _ _ q).1 (nit _ _ (k2 _ _ (k1 _ _ q).2)) (k3 _ _ (k2 _ _ (k1 _ _ q).2))⟩
  obtain ⟨⟨ob, d1, d2⟩, d3⟩ := hr r hrm
  exact ⟨⟨ob, k3 _ _ (k2 _ _ (k1 _ _ d1).2), d2⟩, d3, (k1 _ _ d1).1, nit _ _ (k2 _ _ (k1 _ _ d1).2)⟩
end
theorem foldl_merged {κ : Type} [DecidableEq κ] (rs : List (Addr × κ × Value × Value)) : rs.foldl (fun a r => stored a r.2.1 r.2.2.2) [] = merged [] (rs.map fun r => (r.2.1, r.2.2.2)) := by
  unfold merged
  rw [List.foldl_map]
def RowAt (H : Hp) (v : V) (r : Key × V) : Prop := ∃ t, v = .ref t ∧ H t = some (.tup [kV r.1, r.2])
theorem rows_at {P : Program} {w : World} {H : Hp} {h : Heap} (ok : HOk P w H h) : ∀ {vs : List V} {rows : List (Key × V)} {us : List Value}, Paired (RowAt H) vs rows → Vals vs us →
    ∃ rs : List (Addr × Key × Value × Value), us = rs.map (fun r => Value.ref r.1) ∧ (∀ r ∈ rs, h.IsTuple r.1 #[r.2.2.1, r.2.2.2] ∧ (mixKind P w).is r.2.1 r.2.2.1 = true) ∧ KV rows (rs.map fun r => (r.2.1, r.2.2.2)) ∧ rs.length = rows.length
  | _, _, _, .nil, .nil => ⟨[], rfl, (fun _ h => by cases h), .nil, rfl⟩
  | _, _, _, .cons ⟨t, e, ht⟩ p, .cons r q => by
    obtain ⟨rs, h1, h2, h3, h4⟩ := rows_at ok p q
    subst e
    cases r
    obtain ⟨_, its, rv, o, ho, hc, n, hd⟩ := ok t _ ht
    cases rv with
    | cons a1 rv =>
      rename_i u1 us1
      cases rv with
      | cons a2 rv =>
        rename_i u2 us2
        cases rv
        refine ⟨(t, _, u1, u2) :: rs, by rw [h1]; rfl, fun r hr => ?_, .cons ⟨rfl, a2⟩ h3, by rw [List.length_cons, h4]; rfl⟩
        rcases List.mem_cons.mp hr with e | e
        · rw [e]; exact ⟨⟨o, ho, hc, n, hd⟩, kV_is a1⟩
        · exact h2 r e
/-- dict(l): l a list of pairs with keys apart -/
def rDictP : List V → Hp → VK → Prop := fun xs H Q => ∃ l vs rows, xs = [.ref l] ∧ H l = some (.lst vs) ∧ Paired (RowAt H) vs rows ∧ (rows.map (·.1)).Nodup ∧ rows.length < 1000 ∧ ∀ d, H d = none → Q (.ref d) (upd H d (.dK rows))
theorem call_dictP {X : Cx} (hc : X.calm = true) : CallR X (.type "dict") rDictP := by
  intro pins s σ H xs us Q I r h
  obtain ⟨l, vs, rows, rfl, hl, pr, nd, hz, q⟩ := h
  obtain ⟨u, rfl, rx⟩ := vals1 r
  cases rx
  obtain ⟨_, its, n, rv, ho⟩ := (show ObjOk X.prog X.w H s.heap l (.lst vs) from I.hok l _ hl)
  obtain ⟨rs, h1, h2, h3, h4⟩ := rows_at I.hok pr rv
  have zz : rows.length ≤ sizeLine := Nat.le_of_lt (small1000 (Nat.le_of_lt hz))
  refine dictOf_pairs (knd := mixKind X.prog X.w) (I.ok.hd hc) ho h1 h2 (by rw [h4]; exact zz) fun d h' tk ld hd kp => ?_
  rw [foldl_merged, merged_nil_of_nodup _ (by rw [← KV.keys h3]; exact nd)] at hd
  have fr := I.hok.fresh ld
  refine ⟨.ref d, _, I.laid (t' := tk) kp ld (dk_new zz ?_ h3 hd), rfl, q d fr⟩
  have hb := I.big
  exact beq_eq_false_iff_ne.mpr (Nat.ne_of_gt (Nat.lt_of_lt_of_le hb ld))
theorem op_neK {X : Cx} {K : PySem.W.Frag} (h : X.K = K) (hu : X.A.units + 64 < cLine) : OpR X (compareOp .NotEq) (fun x y H Q => ∃ d e, RepK K H x d ∧ RepK K H y e ∧ SeqAt.shaped d = true ∧ SeqAt.shaped e = true ∧ Q (.bl (!PyData.eqv d e)) H) := by
  subst h
  intro pins s σ H x y v u Q I rx ry h
  obtain ⟨d, e, p, p', sd, se, q⟩ := h
  obtain ⟨as, r1⟩ := p.reads I rx
  obtain ⟨bs, r2⟩ := p'.reads I ry
  exact ne_dataH r1 r2 sd se hu ⟨.bl (!PyData.eqv d e), H, I, rfl, q⟩
end L2

set_option Elab.async false
set_option linter.all false
set_option maxRecDepth 100000
set_option maxHeartbeats 1000000
/-! ### methods that may raise; isinstance(x, (int, str)) -/
namespace L2
open PySem PySem.Spec PyProof.Rows
structure GoodMX (P : Program) (w : World) (K : PySem.W.Frag) (mg : Str → Option Value) (base : Heap) (C : Addr) (m : Str) (k : Nat) (ps : List Str) (sp : Sp) : Prop where
  ex : ∃ (f : Addr) (fd : FuncData), Meth K C m f ∧ Binds K fd ps [] ∧ FnOk P w K mg base (CX1 P w) k f fd ps sp
theorem CodeM.goodX {P : Program} {w : World} {K : PySem.W.Frag} {mg : Str → Option Value} {base : Heap} {C : Addr} {m qn : Str} {st : Stmt} {ps N : List Str} {k : Nat} {sp : Sp} (c : CodeM K C m qn st ps) (S : FnScope N ps (defScope st)) (len : ∀ vs H Q E, sp vs H Q E → vs.length = ps.length)
    (hbody : ∀ (X : Cx) (f : Addr) (cdv : Value) (A : Around) (outer : List Env) (s : Shared) (H : Hp) (vs : List V) (Q : VK) (E : XK), X = cxOf (CX1 P w) P w K mg base N qn (defScope st) f cdv A outer s H E → PassX X (fun _ => E) → Room k X.A → sp vs H Q E →
      ∃ t, PSs X (defBody st) t ∧ t { nx := fun _ H' => Q .non H', rt := Q } (start N vs) H) : GoodMX P w K mg base C m (k + 1) ps sp := by
  obtain ⟨f, fd, F, M, b⟩ := c.ex
  refine ⟨f, fd, M, b, ?_⟩
  obtain ⟨oc, od, kV, doc, pm, an, cdv, ct, osl, rfl, lk, hcd⟩ := F.ex
  exact fn_of lk hcd S len fun A outer s H vs Q E hr hsp => hbody _ f cdv A outer s H vs Q E rfl pass_def hr hsp
def tMethX (C : Addr) (m : Str) (sp : Sp) (EX : St → XK) (ta : TE) (t : TA) : TE := fun σ H Q => ta σ H fun x H1 => ∃ a dx fs, x = .ref a ∧ H1 a = some (.ins C dx fs) ∧ fs.lookup m = none ∧ t σ H1 fun vs H2 => sp (x :: vs) H2 Q (EX σ)
theorem pmethX {X : Cx} {EX : St → XK} {pl : Sem Bool} {k k' : Nat} {C : Addr} {ps : List Str} {sp : Sp} {m : Str} {apos pos : Pos} {o e : Expr} {es : List Expr} {ta : TE} {t : TA} (he0 : PE X o ta) (c : Cls X.K C) (g : GoodMX X.prog X.w X.K X.mg X.base C m k ps sp) (hr : Room k' X.A) (hx : PassX X EX) (ha : PA X (e :: es) t) (hk : k ≤ k' := by decide)
    (hst : starEach (e :: es) X.env = (false, eval e X.env) :: starEach es X.env := by rfl) (hpl : (backTo pos (starEach es X.env)).any (·.1) = false := by rfl)
    (ht : eval (.Call (.Attribute o m apos) (e :: es) [] pos) X.env = (do
      let ov ← eval o X.env
      standAt apos.atName
      let (f, first) ← holding [ov] (getMethod ov m pl)
      callWith pos f first (backTo pos (starEach (e :: es) X.env)) (backToKw pos (keywordEach [] X.env))) := by rfl) :
    PE X (.Call (.Attribute o m apos) (e :: es) [] pos) (tMethX C m sp EX ta t) := by
  intro pins s σ H Q I h
  obtain ⟨f, fd, hm, b, F⟩ := g.ex
  refine PySem.W.methodCall_KW (pl := pl) (thn (he0 pins s σ H _ I h) fun u s1 ⟨x, H1, I1, rx, a, dx, fs, ex, ea, l, q⟩ => ?_) ht
  subst ex
  obtain rfl : u = Value.ref a := rx
  refine getmeth_ok I1 ea c hm l ?_
  refine PySem.W.callWith_K (first := [.ref a]) (h₀ := X.base) I.ok.mod.kin hm.kp (thn (ha pos pins s1 σ H1 _ I1 q) fun us s2 ⟨vs, H2, I2, r, q2⟩ => ⟨I2.kIn, ?_⟩) hst hpl
  have r' : Vals (.ref a :: vs) (Value.ref a :: us) := .cons rfl r
  have hl : (Value.ref a :: us).length = ps.length := by rw [← r'.length]; exact F.len _ _ _ _ q2
  have bd := b s2 (Value.ref a :: us) I2.kIn (by rw [List.append_nil]; exact hl)
  rw [List.append_nil] at bd
  refine wpAny_call (codeAny_mono (F.run X.A X.stack s2 H2 ⟨Value.ref a :: us, []⟩ (Value.ref a :: us) (.ref a :: vs) Q (EX σ) (hr.mono hk) I2.env0 bd r' q2) fun rr s' hq => ?_)
  cases rr with
  | error ev => exact hx pins σ H2 s2 ev s' I2 hq
  | ok fl =>
    cases fl with
    | ret u => exact I2.after hq
    | next => exact False.elim hq
    | brk => exact False.elim hq
    | cont => exact False.elim hq
end L2

set_option Elab.async false
set_option linter.all false
set_option maxRecDepth 100000
set_option maxHeartbeats 1000000
/-! ### dict(t), t a tuple of pairs -/
namespace L2
open PySem PySem.Spec PyProof.Rows
theorem lk_tuple_keys : typeLookup (.type "tuple") "keys" = pure none := by rw [typeLookup_type, builtinLookup_eq_fast]; kernel_rfl
theorem lk_tuple_hook : typeLookup (.type "tuple") "__getattr__" = pure none := by rw [typeLookup_type, builtinLookup_eq_fast]; kernel_rfl
section
variable {prog : Program} {w : World} {A : Around} {E : Value → Shared → Prop} {h : Heap} {g : Array GenState} {d : Drawn} {t : Nat} {os : OsState} {a : Addr} {xs : Array Value} {c : Nat} {ob : Obj}
theorem tk_entry {tk : Tok} {Q : Fin → Shared → Prop} (hh : A.handled = none) (hx : h.get? a = some ob) (hcl : ob.cls = .type "tuple") (hdn : ob.dict = none) (hda : ob.data = .seq xs c) (hq : ∀ h' tk' e o, (∀ b u, h.get? b = some u → h'.get? b = some u) → h'.get? e = some o → o.cls = .type "AttributeError" → E (.ref e) ⟨h', g, d, tk', os⟩) :
    wpAny (model prog w) A (Builtin.«object.__getattribute__» ⟨[.ref a, .str "keys" tk], []⟩) Q E ⟨h, g, d, t, os⟩ := by
  obtain ⟨oc, od, oa, osl⟩ := ob
  cases hcl
  cases hdn
  cases hda
  have hT : (⟨h, g, d, t, os⟩ : Shared).TypeIs (.ref a) "tuple" := ⟨_, hx, rfl⟩
  have f4 := lk_tuple_keys
  repeat (any_goals (first | assumption | wp_step))
  exact raise_ae (Nat.le_of_lt (small1000 (by decide +kernel))) hh fun h' tk' e o k1 k2 k3 => hq h' tk' e o k1 k2 k3
theorem tk_call {tk : Tok} {R : Result → Shared → Prop} (hh : A.handled = none) (hx : h.get? a = some ob) (hcl : ob.cls = .type "tuple") (hdn : ob.dict = none) (hda : ob.data = .seq xs c) (hq : ∀ h' tk' e o, (∀ b u, h.get? b = some u → h'.get? b = some u) → h'.get? e = some o → o.cls = .type "AttributeError" → R (.error (.ref e)) ⟨h', g, d, tk', os⟩) :
    codeAny (model prog w) A (.call (.builtin "tuple.__getattribute__") ⟨[.ref a, .str "keys" tk], []⟩) R ⟨h, g, d, t, os⟩ :=
  codeAny_call_builtin F.slot_tuple_getattribute.plain F.entry_tuple_ga (F.slot_tuple_getattribute.check _ _ _ _ _ _ _ _ (show (⟨h, g, d, t, os⟩ : Shared).TypeIs (.ref a) "tuple" from ⟨_, hx, hcl⟩) (F.args_tuple_getattribute_2 _ _) (tk_entry hh hx hcl hdn hda hq))
theorem tk_by {tk : Tok} {Q : Value → Shared → Prop} (hh : A.handled = none) (hx : h.get? a = some ob) (hcl : ob.cls = .type "tuple") (hdn : ob.dict = none) (hda : ob.data = .seq xs c) (hq : ∀ h' tk' e o, (∀ b u, h.get? b = some u → h'.get? b = some u) → h'.get? e = some o → o.cls = .type "AttributeError" → E (.ref e) ⟨h', g, d, tk', os⟩) : wpAny (model prog w) A (getAttrBy (.ref a) (.str "keys" tk) false) Q E ⟨h, g, d, t, os⟩ := by
  have hT : (⟨h, g, d, t, os⟩ : Shared).TypeIs (.ref a) "tuple" := ⟨_, hx, hcl⟩
  have f2 := F.slot_tuple_getattribute.lookup
  have f3 := F.slot_tuple_getattribute.bind (.ref a)
  have f5 := lk_tuple_hook
  repeat (any_goals (first | assumption | wp_step))
  refine tk_call hh hx hcl hdn hda fun h' tk' e o k1 k2 k3 => ?_
  have hT2 : (⟨h', g, d, tk', os⟩ : Shared).TypeIs (.ref e) "AttributeError" := ⟨_, k2, k3⟩
  have f6 := sub_ae
  repeat (any_goals (first | assumption | wp_step))
  all_goals exact hq h' tk' e o k1 k2 k3
theorem tk_attr {Q : Option Value → Shared → Prop} (hh : A.handled = none) (hx : h.get? a = some ob) (hcl : ob.cls = .type "tuple") (hdn : ob.dict = none) (hda : ob.data = .seq xs c) (hq : ∀ h' tk', (∀ b u, h.get? b = some u → h'.get? b = some u) → Q none ⟨h', g, d, tk', os⟩) : wpAny (model prog w) A (getAttr? (.ref a) "keys") Q E ⟨h, g, d, t, os⟩ := by
  unfold getAttr? getAttrBy?
  refine wpAny_bind (wpAny_mkText (wpAny_bind (wpAny_attempt ?_)))
  refine tk_by hh hx hcl hdn hda fun h' tk' e o k1 k2 k3 => ?_
  have hT2 : (⟨h', g, d, tk', os⟩ : Shared).TypeIs (.ref e) "AttributeError" := ⟨_, k2, k3⟩
  refine wpAny_bind (wpAny_isInstance hT2 sub_ae ?_)
  rw [if_pos rfl]
  exact wpAny_pure (hq _ _ k1)
end
section
variable {prog : Program} {w : World} {κ : Type} [DecidableEq κ] {knd : KeyKind prog w κ} {A : Around} {E : Value → Shared → Prop} {s : Shared} {R : Result → Shared → Prop}
theorem upd_loopT {d it l : Addr} {items : List Value} {res : Value} (hh : A.handled = none) (ndi : d ≠ it) (nld : l ≠ d) (nli : l ≠ it) : ∀ (rs : List (Addr × κ × Value × Value)) (i : Nat) (acc : List (κ × Value)) (s : Shared), s.heap.IsTupleIter it l i → s.heap.IsTuple l items.toArray →
    items.drop i = rs.map (fun r => Value.ref r.1) → (∀ r ∈ rs, s.heap.IsTuple r.1 #[r.2.2.1, r.2.2.2] ∧ knd.is r.2.1 r.2.2.1 = true ∧ r.1 ≠ d ∧ r.1 ≠ it) → s.heap.DictOf knd d acc → acc.length + rs.length ≤ sizeLine →
    (∀ h' tk, h'.DictOf knd d (rs.foldl (fun a r => stored a r.2.1 r.2.2.2) acc) → (∀ b o, b ≠ d → b ≠ it → s.heap.get? b = some o → h'.get? b = some o) → R (.ok (.ret res)) { s with heap := h', toks := tk }) →
    codeAny (model prog w) A (.builtin "dict.update.loop" ⟨[.ref d, .ref it, rawInt i, res], []⟩) R s
  | [], i, acc, s, hit, hl, hd, _, hm, hz, hR => by
    refine codeAny_builtin entry_upd_loop ?_
    rw [Around.under_plainId plain_upd_loop _]
    show wpAny _ A.in1 (pyNext (.ref it) >>= _) _ _ s
    have hx : items.toArray[i]? = none := by
      have : items.length ≤ i := by simpa using hd
      simp [this]
    refine wpAny_bind (wpAny_pyNext_tuple_end (show A.in1.handled = none from hh) hit hl hx fun h' ex => ?_)
    refine wpAny_bind (wpAny_pure ?_)
    refine wpAny_pure ?_
    obtain ⟨o, es, ep, a1, a2⟩ := hm
    exact hR h' s.toks ⟨o, es, ep, ex _ _ ndi a1, a2⟩ fun b o nb nt q => ex b o nt q
  | (t, k, key, v) :: rs, i, acc, s, hit, hl, hd, hr, hm, hz, hR => by
    refine codeAny_builtin entry_upd_loop ?_
    rw [Around.under_plainId plain_upd_loop _]
    show wpAny _ A.in1 (pyNext (.ref it) >>= _) _ _ s
    have hx : items.toArray[i]? = some (.ref t) := by
      have := congrArg List.head? hd
      rw [List.head?_drop] at this
      simpa using this
    have hd' : items.drop (i + 1) = rs.map (fun r => Value.ref r.1) := by
      rw [← List.tail_drop, hd]; rfl
    obtain ⟨⟨ot, ho, hc, n, hdt⟩, hk, nd, ni⟩ := hr _ (List.mem_cons_self ..)
    refine wpAny_bind (wpAny_pyNext_tuple_item hit hl hx fun h1 hit1 sb1 => ?_)
    have k1 : ∀ b o, b ≠ it → s.heap.get? b = some o → h1.get? b = some o := fun b o nb q => (sb1.2 b nb).trans q
    refine wpAny_bind (wpAny_holding ?_)
    refine wpAny_bind (wpAny_tryCatch ?_)
    have hT : (⟨h1, s.gens, s.drawn, s.toks, s.os⟩ : Shared).TypeIs (.ref t) "tuple" := ⟨ot, k1 _ _ ni ho, hc⟩
    unfold Builtin.Dict.pairItems
    refine wpAny_bind (wpAny_typeOf hT ?_)
    rw [if_pos (by decide)]
    refine wpAny_bind (wpAny_seqItems (k1 _ _ ni ho) hdt (wpAny_pure ?_))
    show wpAny _ A.in1 (holding [key, v] (dictSet d key v)) _ _ _
    obtain ⟨od, es, ep, a1, a2⟩ := hm
    have hm1 : h1.DictOf knd d acc := ⟨od, es, ep, k1 _ _ ndi a1, a2⟩
    have hz0 : acc.length + (rs.length + 1) ≤ sizeLine := hz
    refine wpAny_holding (wpAny_dictSet_pairs hk hm1 (fun h2 hm2 sb2 => ?_) (by omega))
    have k2 : ∀ b o, b ≠ d → h1.get? b = some o → h2.get? b = some o := fun b o nb q => (sb2.2 b nb).trans q
    refine wpAny_pure ⟨plainId_quiet plain_upd_loop _, ?_⟩
    have key : ∀ j : Int, rawInt (j + 1) = rawInt (j + 1) := fun _ => rfl
    have e1 : rawInt ((i : Int) + 1) = rawInt ((i + 1 : Nat) : Int) := by rw [Int.natCast_add]; rfl
    show codeAny (model prog w) A (.builtin "dict.update.loop" ⟨[.ref d, .ref it, rawInt ((i : Int) + 1), res], []⟩) R _
    rw [e1]
    obtain ⟨oi, b1, b2⟩ := hit1
    obtain ⟨ol, c1, c2⟩ := hl
    refine upd_loopT hh ndi nld nli rs (i + 1) (stored acc k v) _ ⟨oi, k2 _ _ (Ne.symm ndi) b1, b2⟩ ⟨ol, k2 _ _ nld (k1 _ _ nli c1), c2⟩ hd' (fun r hrm => ?_) hm2 ?_ fun h' tk x y => hR h' tk x fun b o nb nt q => y b o nb nt (k2 _ _ nb (k1 _ _ nt q))
    · obtain ⟨⟨ob, d1, d2⟩, d3, d4, d5⟩ := hr r (List.mem_cons_of_mem _ hrm)
      exact ⟨⟨ob, k2 _ _ d4 (k1 _ _ d5 d1), d2⟩, d3, d4, d5⟩
    · have := stored_length_le acc k v
      omega
theorem dictOf_pairsT {l : Addr} {items : List Value} {ob : Obj} {c : Nat} {rs : List (Addr × κ × Value × Value)} {Q : Value → Shared → Prop} (hh : A.handled = none) (hl : s.heap.get? l = some ob) (hcl : ob.cls = .type "tuple") (hdn : ob.dict = none) (hda : ob.data = .seq items.toArray c) (hi : items = rs.map (fun r => Value.ref r.1))
    (hr : ∀ r ∈ rs, s.heap.IsTuple r.1 #[r.2.2.1, r.2.2.2] ∧ knd.is r.2.1 r.2.2.1 = true) (hz : rs.length ≤ sizeLine)
    (h : ∀ d h' tk, s.heap.objs.size ≤ d → h'.DictOf knd d (rs.foldl (fun a r => stored a r.2.1 r.2.2.2) []) → (∀ b o, s.heap.get? b = some o → h'.get? b = some o) → Q (.ref d) { s with heap := h', toks := tk }) :
    wpAny (model prog w) A (call (.type "dict") [.ref l]) Q E s := by
  refine callType_codes (Q₁ := fun obj s₁ => obj = .ref s.heap.objs.size ∧ s₁ = { s with heap := s.heap.push { cls := .type "dict", data := .dict #[] } }) F.kt_called_dict (F.kt_typeCall_dict_1 _) F.entry_dict_init (kt_code_dict_new _ ⟨rfl, rfl⟩) ?_
  rintro obj s₁ ⟨rfl, rfl⟩
  have hnew : (s.heap.push { cls := .type "dict", data := .dict #[] }).DictOf knd s.heap.objs.size [] := Heap.DictOf.new s.heap
  have k1 : ∀ b o, s.heap.get? b = some o → b ≠ s.heap.objs.size ∧ (s.heap.push { cls := .type "dict", data := .dict #[] }).get? b = some o := fun b o q => ⟨Nat.ne_of_lt (Heap.lt_size q), Heap.get?_push_of_some _ q⟩
  generalize hd : s.heap.objs.size = d at hnew k1
  have ld : s.heap.objs.size ≤ d := Nat.le_of_eq hd
  generalize s.heap.push { cls := .type "dict", data := .dict #[] } = g1 at hnew k1
  refine ⟨hnew.typeIs, F.args_dict_init_2 _ _, ?_⟩
  unfold Builtin.«dict.__init__»
  refine wpAny_bind ?_
  unfold Builtin.Dict.selfAndRest
  refine wpAny_bind (wpAny_notOrdered_dict hnew.typeIs ?_)
  show wpAny _ _ (pure (d, [Value.ref l])) _ _ _
  refine wpAny_pure ?_
  show wpAny _ _ (Builtin.Dict.updateFrom "dict.__init__" d (.ref l) [] .none) _ _ _
  unfold Builtin.Dict.updateFrom
  have hl1 := (k1 _ _ hl).2
  refine wpAny_bind (wpAny_typeOf (show (⟨g1, s.gens, s.drawn, s.toks, s.os⟩ : Shared).TypeIs (.ref l) "tuple" from ⟨_, hl1, hcl⟩) ?_)
  rw [if_pos (by decide)]
  refine wpAny_bind (tk_attr (show A.in1.in1.handled = none from hh) hl1 hcl hdn hda fun g2 tk k2 => ?_)
  rw [show (none : Option Value).isNone = true from rfl, if_pos rfl]
  refine wpAny_bind (wpAny_rule ?_)
  have hl2 := k2 _ _ hl1
  refine wpAny_bind (wpAny_pyIter_tuple (items := items.toArray) ⟨_, hl2, hcl, _, hda⟩ ?_)
  obtain ⟨od, es, ep, a1, a2⟩ := hnew
  have nit : ∀ b o, g2.get? b = some o → b ≠ g2.objs.size := fun b o q => Nat.ne_of_lt (Heap.lt_size q)
  have k3 : ∀ b o, g2.get? b = some o → (g2.push { cls := .type "tuple_iterator", data := .fields #[.ref l, .int 0 0] }).get? b = some o := fun b o q => Heap.get?_push_of_some _ q
  refine wpAny_pure ⟨plainId_quiet plain_upd_loop _, ?_⟩
  refine upd_loopT (knd := knd) (items := items) (show A.in1.handled = none from hh) (nit _ _ (k2 _ _ a1)) (k1 _ _ hl).1 (nit _ _ hl2) rs 0 [] _ ⟨_, Heap.get?_push_size _ rfl, rfl, rfl⟩ ⟨_, k3 _ _ hl2, hcl, _, hda⟩ (by rw [List.drop_zero]; exact hi) (fun r hrm => ?_) ⟨od, es, ep, k3 _ _ (k2 _ _ a1), a2⟩ (by rw [List.length_nil]; omega) fun h' tk' x y => ⟨rfl, h d h' tk' ld x fun b o q => y b o (k1 _ _ q).1 (nit _ _ (k2 _ _ (k1 _ _ q).2)) (k3 _ _ (k2 _ _ (k1 _ _ q).2))⟩
  obtain ⟨⟨ob, d1, d2⟩, d3⟩ := hr r hrm
  exact ⟨⟨ob, k3 _ _ (k2 _ _ (k1 _ _ d1).2), d2⟩, d3, (k1 _ _ d1).1, nit _ _ (k2 _ _ (k1 _ _ d1).2)⟩
end
def Tp (o : Obj) : Prop := o.cls = .type "tuple" ∧ o.dict = none
def rTupF (K : PySem.W.Frag) : List V → Hp → VK → Prop := fun xs H Q => ∃ p ys, xs = [.ref p] ∧ SqL K H p ys ∧ ∀ l o, H l = none → Tp o → Q (.ref l) (upd H l (.frz o (.tup ys)))
/-- tuple(l), known to have no attributes -/
theorem call_tuple_ofF {X : Cx} : CallR X (.type "tuple") (rTupF X.K) := by
  intro pins s σ H xs us Q I r h
  obtain ⟨p, ys, rfl, hq, q⟩ := h
  obtain ⟨u, rfl, rx⟩ := vals1 r
  cases rx
  obtain ⟨its, r', pl, hz⟩ := I.list hq
  have hlen := r'.length
  refine call_tuple_list pl.isList (fun h' kp => ?_) (by simp only [List.size_toArray] <;> omega)
  have I1 : Inv X pins σ H { s with heap := h' } := I.kept (t' := s.toks) kp
  have I2 : Inv X pins σ (upd H h'.objs.size (.frz { cls := .type "tuple", data := .seq its.toArray } (.tup ys))) { s with heap := h'.push { cls := .type "tuple", data := .seq its.toArray } } :=
    I1.laid (t' := s.toks) (fun b o e => Heap.get?_push_of_some _ e) (Nat.le_refl _) ⟨Heap.get?_push_size _ rfl, show ObjOk X.prog X.w _ _ _ (.tup ys) from ⟨hz, its, r', IsTup.new _ _⟩⟩
  exact ⟨.ref h'.objs.size, _, I2, rfl, q _ _ (I1.hok.fresh (Nat.le_refl _)) ⟨rfl, rfl⟩⟩
/-- dict(t): t a tuple of pairs with keys apart -/
def rDictT : List V → Hp → VK → Prop := fun xs H Q => ∃ l o vs rows, xs = [.ref l] ∧ H l = some (.frz o (.tup vs)) ∧ Tp o ∧ Paired (RowAt H) vs rows ∧ (rows.map (·.1)).Nodup ∧ rows.length < 1000 ∧ ∀ d, H d = none → Q (.ref d) (upd H d (.dK rows))
theorem call_dictT {X : Cx} (hc : X.calm = true) : CallR X (.type "dict") rDictT := by
  intro pins s σ H xs us Q I r h
  obtain ⟨l, ob, vs, rows, rfl, hl, tp, pr, nd, hz, q⟩ := h
  obtain ⟨u, rfl, rx⟩ := vals1 r
  cases rx
  obtain ⟨hob, _, its, rv, o, ho, hcl, n, hd⟩ := (show ObjOk X.prog X.w H s.heap l (.frz ob (.tup vs)) from I.hok l _ hl)
  rw [hob] at ho
  cases ho
  obtain ⟨rs, h1, h2, h3, h4⟩ := rows_at I.hok pr rv
  have zz : rows.length ≤ sizeLine := Nat.le_of_lt (small1000 (Nat.le_of_lt hz))
  refine dictOf_pairsT (knd := mixKind X.prog X.w) (I.ok.hd hc) hob hcl tp.2 hd h1 h2 (by rw [h4]; exact zz) fun d h' tk ld hd kp => ?_
  rw [foldl_merged, merged_nil_of_nodup _ (by rw [← KV.keys h3]; exact nd)] at hd
  have fr := I.hok.fresh ld
  refine ⟨.ref d, _, I.laid (t' := tk) kp ld (dk_new zz ?_ h3 hd), rfl, q d fr⟩
  have hb := I.big
  exact beq_eq_false_iff_ne.mpr (Nat.ne_of_gt (Nat.lt_of_lt_of_le hb ld))
end L2

set_option Elab.async false
set_option linter.all false
set_option maxRecDepth 100000
set_option maxHeartbeats 1000000

/-! ### sorted(l) rises: l a list of tuples of whole numbers whose first ones differ, or of whole numbers -/
namespace L2
open PySem PySem.Spec PyProof.Rows
open PySem.W (KasT kas_asc kas_desc kas_rev kas_tail3 kas_descPart kas_count kas_place kas_bin kas_sort)
/-- the tree of questions, answered by lt -/
def kRun {α : Type} (lt : Nat → Nat → Bool) : KasT α → α
  | .ret a => a
  | .ask i j k => kRun lt (k (lt i j))
theorem kRun_bind {α β : Type} {lt : Nat → Nat → Bool} {f : α → KasT β} : ∀ t : KasT α, kRun lt (t.bind f) = kRun lt (f (kRun lt t))
  | .ret a => rfl
  | .ask i j k => kRun_bind (k (lt i j))
theorem kRun_all {α : Type} {lt : Nat → Nat → Bool} {n : Nat} {P : α → Prop} : ∀ t : KasT α, kAll n P t → P (kRun lt t)
  | .ret a, h => h
  | .ask i j k, h => kRun_all (k (lt i j)) (h.2.2 _)
theorem kRun_wp {α : Type} {lt : Nat → Nat → Bool} {n : Nat} {P : α → Prop} {Q : α → Shared → Prop} {s : Shared} {cmp : Nat → Nat → (Bool → Shared → Prop) → Shared → Prop} (hc : ∀ i j C, i < n → j < n → C (lt i j) s → cmp i j C s) : ∀ t : KasT α, kAll n P t → Q (kRun lt t) s → t.kasWp cmp Q s
  | .ret a, h, q => q
  | .ask i j k, h, q => hc i j _ h.1 h.2.1 (kRun_wp hc (k (lt i j)) (h.2.2 _) q)
section
variable {n : Nat} {ky : Nat → Int}
def Gk (ky : Nat → Int) (p : Array Nat) (i : Nat) : Int := ky (p.getD i 0)
def ltK (ky : Nat → Int) (i j : Nat) : Bool := decide (ky i < ky j)
def Inj (n : Nat) (ky : Nat → Int) : Prop := ∀ i j, i < n → j < n → ky i = ky j → i = j
def Rise (ky : Nat → Int) (p : Array Nat) (m : Nat) : Prop := ∀ i, i + 1 < m → Gk ky p i < Gk ky p (i + 1)
def Fall (ky : Nat → Int) (p : Array Nat) (m : Nat) : Prop := ∀ i, i + 1 < m → Gk ky p (i + 1) < Gk ky p i
def RiseT (ky : Nat → Int) (p : Array Nat) (m : Nat) : Prop := ∀ i j, i < j → j < m → Gk ky p i < Gk ky p j
theorem Rise.all {p : Array Nat} {m : Nat} (h : Rise ky p m) : RiseT ky p m := fun i j hij hj => by
  induction j with
  | zero => omega
  | succ j ih =>
    have h1 := h j hj
    by_cases e : i = j
    · rw [e]; exact h1
    · exact Int.lt_trans (ih (by omega) (by omega)) h1
theorem nd_inj {α : Type} {l : List α} (nd : l.Nodup) {i j : Nat} (hi : i < l.length) (hj : j < l.length) (e : l[i] = l[j]) : i = j := by
  rcases Nat.lt_trichotomy i j with h | h | h
  · exact absurd e (List.pairwise_iff_getElem.mp nd i j hi hj h)
  · exact h
  · exact absurd e.symm (List.pairwise_iff_getElem.mp nd j i hj hi h)
theorem Pm.size {p : Array Nat} (h : Pm n p) : p.size = n := by
  have := List.Perm.length_eq h
  simpa using this
theorem Pm.ne (hi : Inj n ky) {p : Array Nat} (h : Pm n p) {i j : Nat} (a : i < n) (b : j < n) (ne : i ≠ j) : Gk ky p i ≠ Gk ky p j := fun e => by
  have n0 : 0 < n := by omega
  have hs := h.size
  have e := hi _ _ (h.lt n0 i) (h.lt n0 j) e
  have nd : p.toList.Nodup := (List.Perm.nodup_iff h).mpr List.nodup_range
  have e1 : p.getD i 0 = p.toList[i]'(by simp [hs, a]) := by simp [hs, a]
  have e2 : p.getD j 0 = p.toList[j]'(by simp [hs, b]) := by simp [hs, b]
  rw [e1, e2] at e
  exact ne (nd_inj nd _ _ e)
theorem run_asc (hi : Inj n ky) {p : Array Nat} (h : Pm n p) : ∀ f k, 1 ≤ k → k + f ≤ n → Rise ky p k → ∃ m, kRun (ltK ky) (kas_asc p f k) = m ∧ k ≤ m ∧ m ≤ k + f ∧ Rise ky p m ∧ (m < k + f → Gk ky p m < Gk ky p (m - 1))
  | 0, k, _, _, r => ⟨k, rfl, Nat.le_refl _, Nat.le_refl _, r, fun z => absurd z (Nat.lt_irrefl _)⟩
  | f + 1, k, h1, h2, r => by
    show ∃ m, kRun (ltK ky) (if ltK ky (p.getD k 0) (p.getD (k - 1) 0) = true then KasT.ret k else kas_asc p f (k + 1)) = m ∧ _
    by_cases c : Gk ky p k < Gk ky p (k - 1)
    · rw [if_pos (show ltK ky _ _ = true from decide_eq_true c)]
      exact ⟨k, rfl, Nat.le_refl _, by omega, r, fun _ => c⟩
    · rw [if_neg (show ¬ ltK ky _ _ = true from fun z => c (of_decide_eq_true z))]
      obtain ⟨m, e, a, b, d, g⟩ := run_asc hi h f (k + 1) (by omega) (by omega) (fun i hi' => by
        by_cases e : i + 1 = k
        · have := h.ne hi (i := i) (j := i + 1) (by omega) (by omega) (by omega)
          have c : ¬ Gk ky p (i + 1) < Gk ky p i := by rw [← e] at c; exact c
          omega
        · exact r i (by omega))
      exact ⟨m, e, by omega, by omega, d, fun z => g (by omega)⟩
theorem run_desc (hi : Inj n ky) {p : Array Nat} (h : Pm n p) : ∀ f k, 1 ≤ k → k + f ≤ n → Fall ky p k → ∃ m, kRun (ltK ky) (kas_desc f p k 0) = (p, m, 0) ∧ k ≤ m ∧ m ≤ k + f ∧ Fall ky p m
  | 0, k, _, _, r => ⟨k, rfl, Nat.le_refl _, Nat.le_refl _, r⟩
  | f + 1, k, h1, h2, r => by
    show ∃ m, kRun (ltK ky) (if ltK ky (p.getD k 0) (p.getD (k - 1) 0) = true then (if 0 > 0 then kas_desc f (kas_rev p (k - (0 + 1)) k) (k + 1) 0 else kas_desc f p (k + 1) 0) else KasT.ask (p.getD (k - 1) 0) (p.getD k 0) fun d => if d = true then KasT.ret (p, k, 0) else kas_desc f p (k + 1) (0 + 1)) = (p, m, 0) ∧ _
    by_cases c : Gk ky p k < Gk ky p (k - 1)
    · rw [if_pos (show ltK ky _ _ = true from decide_eq_true c), if_neg (Nat.lt_irrefl 0)]
      obtain ⟨m, e, a, b, d⟩ := run_desc hi h f (k + 1) (by omega) (by omega) (fun i hi' => by
        by_cases e : i + 1 = k
        · rw [← e] at c; exact c
        · exact r i (by omega))
      exact ⟨m, e, by omega, by omega, d⟩
    · rw [if_neg (show ¬ ltK ky _ _ = true from fun z => c (of_decide_eq_true z))]
      have ne := h.ne hi (i := k) (j := k - 1) (by omega) (by omega) (by omega)
      show ∃ m, kRun (ltK ky) (if ltK ky (p.getD (k - 1) 0) (p.getD k 0) = true then KasT.ret (p, k, 0) else kas_desc f p (k + 1) (0 + 1)) = (p, m, 0) ∧ _
      rw [if_pos (show ltK ky _ _ = true from decide_eq_true (show Gk ky p (k - 1) < Gk ky p k by omega))]
      exact ⟨k, rfl, Nat.le_refl _, by omega, r⟩
theorem Gk_of {p q : Array Nat} {i j : Nat} (e : p[i]? = q[j]?) : Gk ky p i = Gk ky q j := by
  unfold Gk
  rw [Array.getD_eq_getD_getElem?, Array.getD_eq_getD_getElem?, e]
theorem Gk_rev {p : Array Nat} {m i : Nat} (hm : m ≤ p.size) (hi : i < m) : Gk ky (kas_rev p 0 m) i = Gk ky p (m - 1 - i) := by
  apply Gk_of
  unfold kas_rev
  rw [getElem?_mirror_all hm, if_pos ⟨Nat.zero_le _, hi⟩]
  congr 1
  omega
theorem Gk_bub {p : Array Nat} {k l i : Nat} (hk : k < p.size) (hl : l ≤ k) : Gk ky (bubble p k (k - l)) i = if i = l then Gk ky p k else if l < i ∧ i ≤ k then Gk ky p (i - 1) else Gk ky p i := by
  have e := getElem?_bubble hk (k - l) (by omega) i
  rw [show k - (k - l) = l by omega] at e
  split at e
  · rename_i h; rw [if_pos h]; exact Gk_of e
  · rename_i h
    rw [if_neg h]
    split at e
    · rename_i h; rw [if_pos h]; exact Gk_of e
    · rename_i h; rw [if_neg h]; exact Gk_of e
def Done (n : Nat) (ky : Nat → Int) (r : Nat × Array Nat) : Prop := 1 ≤ r.1 ∧ r.1 ≤ n ∧ Rise ky r.2 r.1
theorem run_tail (hi : Inj n ky) {p : Array Nat} (h : Pm n p) {m : Nat} (h1 : 1 ≤ m) (h2 : m ≤ n) (f : Fall ky p m) : Done n ky (kRun (ltK ky) (kas_tail3 m n p)) := by
  have hs := h.size
  have r0 : Rise ky (kas_rev p 0 m) m := fun i hi' => by
    rw [Gk_rev (by omega) (by omega), Gk_rev (by omega) (by omega)]
    have := f (m - 1 - (i + 1)) (by omega)
    rw [show m - 1 - (i + 1) + 1 = m - 1 - i by omega] at this
    exact this
  obtain ⟨k, e, a, b, d, _⟩ := run_asc hi (h.rev 0 m) (n - m) m h1 (by omega) r0
  unfold kas_tail3
  rw [kRun_bind, e]
  exact ⟨by show 1 ≤ k; omega, by show k ≤ n; omega, d⟩
theorem run_count (hi : Inj n ky) {p : Array Nat} (h : Pm n p) (n0 : 2 ≤ n) : Done n ky (kRun (ltK ky) (kas_count n p)) := by
  obtain ⟨m, e, a, b, d, g⟩ := run_asc hi h (n - 1) 1 (Nat.le_refl _) (by omega) (fun i hi' => by omega)
  unfold kas_count
  rw [kRun_bind, e]
  by_cases c1 : m = n
  · rw [if_pos (by rw [c1]; exact beq_self_eq_true n)]
    exact ⟨a, by show m ≤ n; omega, d⟩
  · rw [if_neg (fun z => c1 (eq_of_beq z))]
    by_cases c2 : m > 1
    · rw [if_pos c2]
      show Done n ky (kRun (ltK ky) (if ltK ky (p.getD 0 0) (p.getD (m - 1) 0) = true then KasT.ret (m, p) else kas_descPart m n (kas_rev p 0 m)))
      rw [if_pos (show ltK ky _ _ = true from decide_eq_true (d.all 0 (m - 1) (by omega) (by omega)))]
      exact ⟨a, by show m ≤ n; omega, d⟩
    · rw [if_neg c2]
      have m1 : m = 1 := by omega
      subst m1
      have g := g (by omega)
      obtain ⟨k, e, a, b, d⟩ := run_desc hi h (n - (1 + 1)) (1 + 1) (by omega) (by omega) (fun i hi' => by
        have : i = 0 := by omega
        subst this
        exact g)
      unfold kas_descPart
      rw [kRun_bind, e]
      show Done n ky (kRun (ltK ky) (if 0 > 0 then _ else kas_tail3 k n p))
      rw [if_neg (Nat.lt_irrefl 0)]
      exact run_tail hi h (by omega) (by omega) d
theorem run_place (hi : Inj n ky) {p : Array Nat} (h : Pm n p) {k : Nat} (hk : k < n) (R : RiseT ky p k) : ∀ f l r, r ≤ l + f → l ≤ r → r ≤ k → (∀ i, i < l → Gk ky p i < Gk ky p k) → (∀ i, r ≤ i → i < k → Gk ky p k < Gk ky p i) → ∃ m, kRun (ltK ky) (kas_place p k f l r) = m ∧ m ≤ k ∧ (∀ i, i < m → Gk ky p i < Gk ky p k) ∧ ∀ i, m ≤ i → i < k → Gk ky p k < Gk ky p i
  | 0, l, r, h1, h2, h3, h4, h5 => ⟨l, rfl, by omega, h4, fun i a b => h5 i (by omega) b⟩
  | f + 1, l, r, h1, h2, h3, h4, h5 => by
    unfold kas_place
    by_cases c : l ≥ r
    · rw [if_pos c]
      exact ⟨l, rfl, by omega, h4, fun i a b => h5 i (by omega) b⟩
    · rw [if_neg c]
      show ∃ m, kRun (ltK ky) (if ltK ky (p.getD k 0) (p.getD ((l + r) / 2) 0) = true then kas_place p k f l ((l + r) / 2) else kas_place p k f ((l + r) / 2 + 1) r) = m ∧ _
      have hm : (l + r) / 2 < r ∧ l ≤ (l + r) / 2 := by omega
      generalize (l + r) / 2 = q at hm ⊢
      by_cases d : Gk ky p k < Gk ky p q
      · rw [if_pos (show ltK ky _ _ = true from decide_eq_true d)]
        refine run_place hi h hk R f l q (by omega) (by omega) (by omega) h4 fun i a b => ?_
        by_cases e : i = q
        · rw [e]; exact d
        · exact Int.lt_trans d (R q i (by omega) b)
      · rw [if_neg (show ¬ ltK ky _ _ = true from fun z => d (of_decide_eq_true z))]
        refine run_place hi h hk R f (q + 1) r (by omega) (by omega) (by omega) (fun i a => ?_) h5
        have ne := h.ne hi (i := q) (j := k) (by omega) (by omega) (by omega)
        have lt : Gk ky p q < Gk ky p k := by omega
        by_cases e : i = q
        · rw [e]; exact lt
        · exact Int.lt_trans (R i q (by omega) (by omega)) lt
theorem run_bin (hi : Inj n ky) : ∀ f (p : Array Nat), Pm n p → ∀ k, k + f = n → RiseT ky p k → RiseT ky (kRun (ltK ky) (kas_bin f p k)) n
  | 0, p, h, k, e, R => by rw [← e]; exact R
  | f + 1, p, h, k, e, R => by
    have hs := h.size
    show RiseT ky (kRun (ltK ky) ((kas_place p k k 0 k).bind fun l => kas_bin f (bubble p k (k - l)) (k + 1))) n
    rw [kRun_bind]
    obtain ⟨l, el, a, b, c⟩ := run_place hi h (k := k) (by omega) R k 0 k (by omega) (Nat.zero_le _) (Nat.le_refl _) (fun i z => absurd z (Nat.not_lt_zero _)) (fun i x y => by omega)
    rw [el]
    refine run_bin hi f _ (h.bub _ _) (k + 1) (by omega) fun i j hij hj => ?_
    rw [Gk_bub (by omega) a, Gk_bub (by omega) a]
    by_cases ei : i = l
    · rw [if_pos ei, if_neg (by omega), if_pos ⟨by omega, by omega⟩]
      exact c _ (by omega) (by omega)
    · rw [if_neg ei]
      by_cases ej : j = l
      · rw [if_neg (by omega), if_pos ej]
        exact b _ (by omega)
      · rw [if_neg ej]
        by_cases gi : l < i
        · rw [if_pos ⟨gi, by omega⟩, if_pos ⟨by omega, by omega⟩]
          exact R _ _ (by omega) (by omega)
        · rw [if_neg (fun z => gi z.1)]
          by_cases gj : l < j
          · rw [if_pos ⟨gj, by omega⟩]
            exact R _ _ (by omega) (by omega)
          · rw [if_neg (fun z => gj z.1)]
            exact R _ _ (by omega) (by omega)
theorem run_sort (hi : Inj n ky) (n0 : 2 ≤ n) : RiseT ky (kRun (ltK ky) (kas_sort n)) n := by
  have h0 : Pm n (List.toArray (List.range n)) := by unfold Pm; exact List.Perm.refl _
  obtain ⟨a, b, c⟩ := run_count hi h0 n0
  have hp := kRun_all (lt := ltK ky) _ (all_count (by omega) h0 n)
  unfold kas_sort
  rw [kRun_bind]
  generalize kRun (ltK ky) (kas_count n (List.toArray (List.range n))) = r at a b c hp
  show RiseT ky (kRun (ltK ky) (if r.1 < n then kas_bin (n - max r.1 1) r.2 (max r.1 1) else KasT.ret r.2)) n
  have em : max r.1 1 = r.1 := by omega
  by_cases d : r.1 < n
  · rw [if_pos d, em]
    exact run_bin hi _ _ hp _ (by omega) c.all
  · rw [if_neg d]
    have : r.1 = n := by omega
    rw [← this]
    exact c.all
theorem RiseT.list {p : Array Nat} (h : Pm n p) (R : RiseT ky p n) : (p.toList.map ky).Pairwise (· < ·) := by
  have hs := h.size
  rw [List.pairwise_iff_getElem]
  intro i j hi hj hij
  have hi' : i < n := by simpa [hs] using hi
  have hj' : j < n := by simpa [hs] using hj
  have := R i j hij hj'
  unfold Gk at this
  have e1 : p.getD i 0 = p[i]'(by omega) := by simp [hs, hi']
  have e2 : p.getD j 0 = p[j]'(by omega) := by simp [hs, hj']
  rw [e1, e2] at this
  simpa using this
end

/-- a row of tuples of whole numbers, by their first ones -/
def KeyAt (K : PySem.W.Frag) (H : Hp) (v : V) (k : Int) : Prop := ∃ t ns, v = .ref t ∧ SqT K H t (((k :: ns) : List Int).map V.int)
theorem rowsK {K : PySem.W.Frag} {H : Hp} : ∀ {vs : List V} {ks : List Int}, Paired (KeyAt K H) vs ks → RowsI K H vs
  | _, _, .nil, _, h => nomatch h
  | _, _, .cons a r, v, h => by
    rcases List.mem_cons.mp h with rfl | h
    · obtain ⟨t, ns, e, q⟩ := a
      exact ⟨t, _, e, q, Nat.succ_pos _⟩
    · exact rowsK r v h
theorem paired_getD {α β : Type} (d : α) (e : β) {F : α → β → Prop} : ∀ {l : List α} {m : List β} {i : Nat}, Paired F l m → i < l.length → F (l.getD i d) (m.getD i e) := by
  intro l m i r
  induction r generalizing i with
  | nil => intro h; exact absurd h (Nat.not_lt_zero _)
  | cons a t ih =>
    intro h
    cases i with
    | zero => exact a
    | succ i => exact ih (Nat.lt_of_succ_lt_succ h)
section
variable {prog : Program} {w : World} {A : Around} {s : Shared}
theorem lexF {fin : Bool} {C : Bool → Shared → Prop} {a b : Int} {t u : Tok} {r r' : List Value} (ne : a ≠ b) (hC : C (decide (a < b)) s) : PySem.W.KatLex prog w A true fin C ((Value.int a t :: r).zip (Value.int b u :: r')) 0 s := by
  rw [List.zip_cons_cons]
  refine PySem.W.kat_cons (wpAny_eqBool_int ?_)
  rw [show (a == b) = false from beq_eq_false_iff_ne.mpr ne]
  exact PySem.W.kat_no (oneLt_int hC)
theorem lexS {fin : Bool} {C : Bool → Shared → Prop} (hC : C fin s) : ∀ (l : List Value), (∀ y ∈ l, ∃ a t, y = Value.int a t) → ∀ i, PySem.W.KatLex prog w A true fin C (l.zip l) i s
  | [], _, _ => hC
  | y :: r, h, i => by
    obtain ⟨a, t, rfl⟩ := h y (List.mem_cons_self ..)
    rw [List.zip_cons_cons]
    refine PySem.W.kat_cons (wpAny_eqBool_int ?_)
    rw [show (a == a) = true from beq_self_eq_true a]
    exact PySem.W.kat_yes (lexS hC r (fun y hy => h y (List.mem_cons_of_mem _ hy)) (i + 1))
end
@[irreducible] def rSortK (K : PySem.W.Frag) : List V → Hp → VK → Prop := fun xs H Q => ∃ (p : Addr) (vs : List V) (ks : List Int), xs = [.ref p] ∧ SqL K H p vs ∧ vs.length < 64 ∧ Paired (KeyAt K H) vs ks ∧ ks.Nodup ∧
  ∀ (is : List Nat) l, is.Perm (List.range vs.length) → (is.map fun i => ks.getD i 0).Pairwise (· < ·) → H l = none → Q (.ref l) (upd H l (.lst (is.map fun i => vs.getD i .non)))
theorem sortK_mk {K : PySem.W.Frag} {p : Addr} {vs : List V} {ks : List Int} {H : Hp} {Q : VK} (h1 : SqL K H p vs) (h2 : vs.length < 64) (h3 : Paired (KeyAt K H) vs ks) (h4 : ks.Nodup)
    (q : ∀ (is : List Nat) l, is.Perm (List.range vs.length) → (is.map fun i => ks.getD i 0).Pairwise (· < ·) → H l = none → Q (.ref l) (upd H l (.lst (is.map fun i => vs.getD i .non)))) : rSortK K [.ref p] H Q := by
  unfold rSortK
  exact ⟨p, vs, ks, rfl, h1, h2, h3, h4, q⟩
theorem call_sortedK {X : Cx} : CallR X (.builtin "sorted") (rSortK X.K) := by
  intro pins s σ H xs us Q I r h
  unfold rSortK at h
  obtain ⟨p, vs, ks, rfl, hq, h64, hK, hnd, q⟩ := h
  have hR : RowsI X.K H vs := rowsK hK
  have hkl : vs.length = ks.length := Paired.length hK
  obtain ⟨u, rfl, rx⟩ := vals1 r
  cases rx
  obtain ⟨its, rv, pl, hz⟩ := I.list hq
  have hlen : vs.length = its.length := rv.length
  by_cases h2 : 2 ≤ its.length
  · obtain ⟨m, hn, _⟩ := id I.loc
    refine PySem.W.kat_sorted (Att.fr_all hn) (news_all (g := Att.noObjs s.heap) (h := s.heap) (L := X.env.locals)) pl.isList h2 (by omega) fun D e1 h' F' N' hD => ?_
    have kp : ∀ b o, b ≠ X.env.locals → s.heap.get? b = some o → h'.get? b = some o := fun b o hb e => (N' (b, o) (List.mem_cons_of_mem _ (mem_allNews hb (Att.noObjs_get _ _) e))).1
    have nl : ∀ b, H b ≠ none ∨ (∃ u, X.base.get? b = some u) → b ≠ X.env.locals := fun b hb z => by
      rcases hb with hb | ⟨u, hb⟩
      · exact hb (by rw [z]; exact I.free)
      · have := Heap.lt_size hb
        rw [z] at this
        exact absurd (Nat.lt_of_lt_of_le this (Nat.le_trans I.ok.bsz I.ok.above)) (Nat.lt_irrefl _)
    obtain ⟨fs, f1, f2, f3⟩ := katTups (h' := h') I (fun b o hb e => kp b o (nl b hb) e) rv hR
    refine PySem.W.kat_kind f1 (by omega) (fun v hv => by obtain ⟨i, t, rfl⟩ := f3 v hv; exact PySem.W.Looks.of_pure rfl) (T := .type "int") (by decide) ?_
    have inj : Inj its.length (fun i => ks.getD i 0) := fun i j hi hj e => by
      have e : ks.getD i 0 = ks.getD j 0 := e
      have e1 : ks.getD i 0 = ks[i]'(by omega) := by simp [show i < ks.length by omega]
      have e2 : ks.getD j 0 = ks[j]'(by omega) := by simp [show j < ks.length by omega]
      rw [e1, e2] at e
      exact nd_inj hnd _ _ e
    have hp := kRun_all (lt := ltK fun i => ks.getD i 0) _ (all_sort (n := its.length) (by omega))
    have hrise := RiseT.list hp (run_sort inj h2)
    refine kRun_wp (lt := ltK fun i => ks.getD i 0) (n := its.length) (fun i j C hi hj hC => ?_) _ (all_sort (by omega)) ?_
    · have tupAt : ∀ i, i < its.length → ∃ (x : Addr) (ox : Obj) (ws : Array Value) (n : Nat), its.getD i Value.none = .ref x ∧ h'.get? x = some ox ∧ ox.data = .seq ws n ∧ (∃ t r, ws.toList = Value.int (ks.getD i 0) t :: r) ∧ ∀ y ∈ ws.toList, ∃ a t, y = Value.int a t := fun i hi => by
        have hvi : i < vs.length := by omega
        obtain ⟨u, hu, ru⟩ := rv.get (x := vs[i]) (i := i) (by simp [hvi])
        obtain ⟨tp, ns, e, hq'⟩ := paired_getD V.non (0 : Int) hK hvi
        have ev : vs.getD i V.non = vs[i] := by simp [hvi]
        rw [ev] at e
        rw [e] at ru
        cases ru
        obtain ⟨ws, rw', ⟨o, ho, hc, n, hd⟩, _⟩ := I.tuple hq'
        have go : ∀ {ns : List Int} {ws : List Value}, Vals (ns.map V.int) ws → ∀ y ∈ ws, ∃ a t, y = Value.int a t := by
          intro ns
          induction ns with
          | nil => intro ws r; cases r; exact fun y hy => nomatch hy
          | cons n0 nr ih =>
            intro ws r
            cases r with
            | cons r0 rr =>
              intro y hy
              rcases List.mem_cons.mp hy with rfl | hy
              · obtain ⟨t, e⟩ := r0; exact ⟨_, _, e⟩
              · exact ih rr y hy
        refine ⟨tp, o, ws.toArray, n, ?_, kp tp o (nl tp ?_) ho, hd, ?_, fun y hy => go rw' y (by simpa using hy)⟩
        · rw [List.getD_eq_getElem?_getD, hu]; rfl
        · rcases hq' with (z | ⟨_, z⟩) | ⟨_, _, _, z, _⟩
          · exact .inl (by rw [z]; exact fun z => nomatch z)
          · exact .inl (by rw [z]; exact fun z => nomatch z)
          · exact .inr ⟨_, I.mod.kin _ _ z⟩
        · cases rw' with
          | cons r0 rr =>
            obtain ⟨t, e⟩ := r0
            exact ⟨t, _, by rw [e]⟩
      obtain ⟨x, ox, wx, nx, ex, hx, dx, ⟨tx, rx, fx⟩, ix⟩ := tupAt i hi
      obtain ⟨y, oy, wy, ny, ey, hy, dy, ⟨ty, ry, fy⟩, iy⟩ := tupAt j hj
      unfold PySem.W.kas_ask
      rw [ex, ey]
      refine PySem.W.kat_lt hx dx hy dy ?_
      by_cases ne : i = j
      · subst ne
        rw [ex] at ey
        cases ey
        rw [hx] at hy
        cases hy
        rw [dx] at dy
        cases dy
        have e0 : ltK (fun i => ks.getD i 0) i i = false := decide_eq_false (Int.lt_irrefl _)
        rw [e0] at hC
        have e1 : decide (wx.size < wx.size) = false := decide_eq_false (Nat.lt_irrefl _)
        rw [e1]
        exact lexS hC _ ix 0
      · rw [fx, fy]
        exact lexF (fun z => ne (inj i j hi hj z)) hC
    · refine PySem.W.KasFin.intro F' N' (.head fun q hq => Nat.ne_of_lt (hD q hq)) fun h2' c F2 N2 => ?_
      generalize kRun (ltK fun i => ks.getD i 0) (kas_sort its.length) = pp at hp hrise N2 ⊢
      have kp2 : ∀ b o, b ≠ X.env.locals → s.heap.get? b = some o → h2'.get? b = some o := fun b o hb e => (N2 (b, o) (List.mem_cons_of_mem _ (mem_allNews hb (Att.noObjs_get _ _) e))).1
      obtain ⟨oD, DL, _⟩ := N2 (D, _) (List.mem_cons_self ..)
      have nD : ∀ b o, s.heap.get? b = some o → b ≠ D := fun b o e z => by
        by_cases hb : b = X.env.locals
        · exact DL (by rw [← z]; exact hb)
        · have := hD (b, o) (mem_allNews hb (Att.noObjs_get _ _) e)
          rw [z] at this
          exact Nat.lt_irrefl _ this
      have hDn : H D = none := by
        cases e : H D with
        | none => rfl
        | some v =>
          obtain ⟨o, ho⟩ := (I.hok D v e).there
          exact absurd rfl (nD D o ho)
      have tr : ∀ (o : HO) b u, H b = some u → (upd H D o) b = some u := fun o b u e => by rw [upd_ne (ne_of_none e hDn)]; exact e
      have hmem : ∀ i ∈ pp.toList, i < vs.length := fun i hi => by rw [hlen]; exact List.mem_range.mp (hp.mem_iff.mp hi)
      have rv2 : Vals (pp.toList.map fun i => vs.getD i .non) (pp.toList.map fun i => its.getD i Value.none) := perm_getD V.non Value.none rv hmem
      have pm : (pp.toList.map fun i => vs.getD i .non).Perm vs := by
        have := hp.map fun i => vs.getD i V.non
        rw [← hlen, range_getD] at this
        exact this
      have I2 : Inv X pins σ (upd H D (.lst (pp.toList.map fun i => vs.getD i .non))) { s with heap := h2' } := by
        refine I.step (h' := h2') (g' := s.gens) (d' := s.drawn) (t' := s.toks) (ch := []) (fun b hb => absurd hb (by simp)) (fun b u hb _ _ e _ => kp2 b u hb e) (fun b u hb _ _ e _ => ⟨u.slots, kp2 b u hb e⟩) (fun b u _ e n => by rw [upd_ne (nD b u e)]; exact n)
          (fun b u _ e => ?_) (fun b ys e => tr _ _ _ e) (fun b u v e => tr _ _ _ e) (fun b ps e => ⟨#[], by rw [tr _ _ _ e]; simp⟩) (fun m' hm' => by rw [ns_uniq hm' hn]; exact F2.ns) (fun b u e => ?_) I.bare
        · by_cases hb : b = X.env.locals
          · obtain ⟨o, _, _, ho, _⟩ := F2.ns
            exact ⟨o, by rw [hb]; exact ho⟩
          · exact ⟨u, kp2 b u hb e⟩
        · by_cases hb : b = D
          · subst hb
            rw [upd_same] at e
            cases e
            exact ⟨by rw [pm.length_eq]; exact Nat.le_of_lt (small1000 (by omega)), _, c, rv2, oD⟩
          · rw [upd_ne hb] at e
            refine (I.hok b u e).stay (fun x v hx e1 => kp2 x v ?_ e1) (fun x e1 => tr _ _ _ e1) fun x ys e1 => tr _ _ _ e1
            intro z
            rcases hx with hx | hx
            · rw [← hx, z, I.free] at e; cases e
            · rw [z, I.free] at hx; cases hx
      exact ⟨.ref D, _, I2, rfl, q _ D (by rw [hlen]; exact hp) hrise hDn⟩
  · refine sorted_short pl.isList (by omega) fun D h' c hD oD kp => ?_
    refine ⟨.ref D, _, I.laid (t' := s.toks) (o := .lst vs) kp hD ?_, rfl, ?_⟩
    · exact ⟨Nat.le_of_lt (small1000 (by omega)), its, c, rv, oD⟩
    · have z := q (List.range vs.length) D (List.Perm.refl _) (by
        rw [hkl, range_getD]
        match ks, (show ks.length < 2 by omega) with
        | [], _ => exact List.Pairwise.nil
        | [k], _ => exact List.pairwise_singleton _ _) (I.hok.fresh hD)
      rw [range_getD] at z
      exact z

/-- list(d): its keys -/
@[irreducible] def rListD : List V → Hp → VK → Prop := fun xs H Q => ∃ (a : Addr) (kvs : List (Key × V)), xs = [.ref a] ∧ H a = some (.dK kvs) ∧ ∀ l, H l = none → Q (.ref l) (upd H l (.lst (kvs.map fun kv => kV kv.1)))
theorem listD_mk {a : Addr} {kvs : List (Key × V)} {H : Hp} {Q : VK} (h : H a = some (.dK kvs)) (q : ∀ l, H l = none → Q (.ref l) (upd H l (.lst (kvs.map fun kv => kV kv.1)))) : rListD [.ref a] H Q := by
  unfold rListD
  exact ⟨a, kvs, rfl, h, q⟩
theorem keys_vals : ∀ {kvs : List (Key × V)} {us : List Value}, us.length = kvs.length → (∀ (j : Nat) (u : Value), us[j]? = some u → ∃ kv : Key × V, kvs[j]? = some kv ∧ RelV (kV kv.1) u) → Vals (kvs.map fun kv => kV kv.1) us
  | [], [], _, _ => .nil
  | [], _ :: _, h, _ => by simp at h
  | _ :: _, [], h, _ => by simp at h
  | kv :: r, u :: us, h, g => by
    refine .cons ?_ (keys_vals (by simpa using h) fun j u hu => ?_)
    · obtain ⟨kv', e, q⟩ := g 0 u rfl
      cases e
      exact q
    · obtain ⟨kv', e, q⟩ := g (j + 1) u (by simpa using hu)
      exact ⟨kv', by simpa using e, q⟩
theorem call_listD {X : Cx} (hc : X.calm = true) : CallR X (.type "list") rListD := by
  intro pins s σ H xs us Q I r h
  unfold rListD at h
  obtain ⟨a, kvs, rfl, e, q⟩ := h
  obtain ⟨u, rfl, rx⟩ := vals1 r
  cases rx
  obtain ⟨z, lo, vs, rel, dd⟩ := dk_of I.hok e
  obtain ⟨ep, hat⟩ := dd.dictAt
  have hlen : kvs.length = vs.length := KV.length rel
  refine PySem.W.kdl_call (PySem.W.kdl_dict (knd := mixKind X.prog X.w) (kvs := vs) (ep := ep) lo) (I.ok.hd hc) hat (by omega) fun h' tk acc c' hk hS hacc => ?_
  refine ⟨.ref s.heap.objs.size, _, I.laid (t' := tk) (o := .lst (kvs.map fun kv => kV kv.1)) (fun b o q => hk b o q) (Nat.le_refl _) ?_, rfl, q _ (I.hok.fresh (Nat.le_refl _))⟩
  refine ⟨by rw [List.length_map]; exact z, acc.toList, c', keys_vals (by rw [Array.length_toList, hacc.1, hlen]) fun j u hu => ?_, hS⟩
  obtain ⟨k, x, hx, hkk⟩ := hacc.2 j u (by rw [← Array.getElem?_toList]; exact hu)
  have hj : j < vs.length := (List.getElem?_eq_some_iff.mp hx).1
  obtain ⟨x', hx', _⟩ := kv_at rel (i := j) (kv := kvs[j]'(by omega)) (by simp [show j < kvs.length by omega])
  rw [hx] at hx'
  have ek := congrArg Prod.fst (Option.some.inj hx')
  refine ⟨kvs[j]'(by omega), List.getElem?_eq_getElem (by omega), ?_⟩
  have ek : k = (kvs[j]'(by omega)).1 := ek
  rw [← ek]
  exact keyRel hkk
end L2

set_option Elab.async false
set_option linter.all false
set_option maxRecDepth 100000
set_option maxHeartbeats 1000000

/-! ### dict(d) of a dict; two dicts of the same keys and values compared; a tuple in a list of tuples -/
namespace L2
open PySem PySem.Spec PyProof.Rows
@[irreducible] def rCopyD : List V → Hp → VK → Prop := fun xs H Q => ∃ (a : Addr) (kvs : List (Key × V)), xs = [.ref a] ∧ H a = some (.dK kvs) ∧ ∀ p, H p = none → Q (.ref p) (upd H p (.dK kvs))
theorem copyD_mk {a : Addr} {kvs : List (Key × V)} {H : Hp} {Q : VK} (h : H a = some (.dK kvs)) (q : ∀ p, H p = none → Q (.ref p) (upd H p (.dK kvs))) : rCopyD [.ref a] H Q := by
  unfold rCopyD
  exact ⟨a, kvs, rfl, h, q⟩
theorem call_copyD {X : Cx} : CallR X (.type "dict") rCopyD := by
  intro pins s σ H xs us Q I r h
  unfold rCopyD at h
  obtain ⟨a, kvs, rfl, e, q⟩ := h
  obtain ⟨u, rfl, rx⟩ := vals1 r
  cases rx
  exact d_copyOf I (.inl e) fun p s' hp I' => ⟨.ref p, _, I', rfl, q p hp⟩
theorem Room.units2 {k : Nat} {A : Around} (r : Room k A) : A.units + 66 < cLine := by have := r.un; omega
/-- two dicts of the same keys, in order, and of alike values -/
@[irreducible] def Twin (K : PySem.W.Frag) (H : Hp) (x y : V) : Prop := ∃ (a b : Addr) (ka kb : List (Key × V)) (ds : List PyData), x = .ref a ∧ y = .ref b ∧ H a = some (.dK ka) ∧ H b = some (.dK kb) ∧ ka.map (·.1) = kb.map (·.1) ∧ (ka.map (·.1)).Nodup ∧ Paired (RepK K H) (ka.map (·.2)) ds ∧ Paired (RepK K H) (kb.map (·.2)) ds ∧ ∀ d ∈ ds, SeqAt.shaped d = true
theorem twin_mk {K : PySem.W.Frag} {H : Hp} {a b : Addr} {ka kb : List (Key × V)} {ds : List PyData} (h1 : H a = some (.dK ka)) (h2 : H b = some (.dK kb)) (h3 : ka.map (·.1) = kb.map (·.1)) (h4 : (ka.map (·.1)).Nodup) (h5 : Paired (RepK K H) (ka.map (·.2)) ds) (h6 : Paired (RepK K H) (kb.map (·.2)) ds) (h7 : ∀ d ∈ ds, SeqAt.shaped d = true) : Twin K H (.ref a) (.ref b) := by
  unfold Twin
  exact ⟨a, b, ka, kb, ds, rfl, rfl, h1, h2, h3, h4, h5, h6, h7⟩
theorem valueAt_cons_ne {κ : Type} [DecidableEq κ] {k j : κ} {v : Value} {r : List (κ × Value)} (h : k ≠ j) : valueAt ((k, v) :: r) j = valueAt r j := by
  unfold valueAt
  rw [List.find?_cons_of_neg (by simpa using h)]
theorem valueAt_cons_eq {κ : Type} [DecidableEq κ] {k : κ} {v : Value} {r : List (κ × Value)} : valueAt ((k, v) :: r) k = some v := by
  unfold valueAt
  rw [List.find?_cons_of_pos (by simp)]
  rfl
theorem hits_go {X : Cx} {pins : List (Addr × Obj)} {σ : St} {H : Hp} {s : Shared} {A : Around} (I : Inv X pins σ H s) (hu : A.in1.units + 64 < cLine) {kb : List (Key × Value)} :
    ∀ {ka : List (Key × V)} {va : List (Key × Value)} {kb' : List (Key × V)} {vb : List (Key × Value)} {ds : List PyData}, KV ka va → KV kb' vb → ka.map (·.1) = kb'.map (·.1) → Paired (RepK X.K H) (ka.map (·.2)) ds → Paired (RepK X.K H) (kb'.map (·.2)) ds → (∀ d ∈ ds, SeqAt.shaped d = true) → (∀ k v, (k, v) ∈ vb → valueAt kb k = some v) → PySem.W.KeqHits A.in1 s kb va true
  | [], _, _, _, _, .nil, _, _, _, _, _, _ => .nil
  | (k, x) :: ra, _, [], _, _, _, _, e, _, _, _, _ => by simp at e
  | (k, x) :: ra, _, (k', y) :: rb, _, _, .cons a1 t1, .cons a2 t2, e, .cons p1 q1, .cons p2 q2, sh, hv => by
    simp only [List.map_cons, List.cons.injEq] at e
    obtain ⟨e1, e2⟩ := e
    have ek : k = k' := e1
    rename_i va0 va1 vb0 vb1 d0 ds1
    obtain ⟨kk, vv⟩ := va0
    obtain ⟨kk', vv'⟩ := vb0
    have z1 : k = kk := a1.1
    have z2 : k' = kk' := a2.1
    subst z1 z2 ek
    obtain ⟨as, r1⟩ := RepK.reads I p1 a1.2
    obtain ⟨bs, r2⟩ := RepK.reads I p2 a2.2
    have sd := sh d0 (List.mem_cons_self ..)
    have at_ := PySem.W.keq_at (A := A) r1 r2 sd sd hu
    have := PySem.W.KeqHits.hit (A := A.in1) (s := s) (hv k vv' (List.mem_cons_self ..)) at_ (hits_go I hu t1 t2 e2 q1 q2 (fun d hd => sh d (List.mem_cons_of_mem _ hd)) (fun k v hm => hv k v (List.mem_cons_of_mem _ hm)))
    rw [SeqAt.eqv_refl _ (SeqAt.canLay_of_shaped sd)] at this
    exact this
theorem valueAt_mem {κ : Type} [DecidableEq κ] : ∀ {l : List (κ × Value)} {k : κ} {v : Value}, (l.map (·.1)).Nodup → (k, v) ∈ l → valueAt l k = some v
  | [], _, _, _, h => nomatch h
  | (j, u) :: r, k, v, nd, h => by
    rw [List.map_cons] at nd
    obtain ⟨n1, n2⟩ := List.nodup_cons.mp nd
    rcases List.mem_cons.mp h with e | h
    · cases e
      exact valueAt_cons_eq
    · have ne : j ≠ k := fun z => n1 (by rw [z]; exact List.mem_map.mpr ⟨(k, v), h, rfl⟩)
      rw [valueAt_cons_ne ne]
      exact valueAt_mem n2 h
section
variable {X : Cx} {K : PySem.W.Frag}
theorem twin_hits {A : Around} {pins : List (Addr × Obj)} {σ : St} {H : Hp} {s : Shared} {x y : V} {v u : Value} {M : Prop} (h : X.K = K) (hu : A.units + 66 < cLine) (I : Inv X pins σ H s) (rx : RelV x v) (ry : RelV y u) (t : Twin K H x y)
    (go : ∀ (a b : Addr) (va vb : List (Key × Value)), v = .ref a → u = .ref b → (a == sysModules) = false → (b == sysModules) = false → s.heap.DictOf (mixKind X.prog X.w) a va → s.heap.DictOf (mixKind X.prog X.w) b vb → va.length = vb.length → PySem.W.KeqHits A.in1 s vb va true → M) : M := by
  subst h
  unfold Twin at t
  obtain ⟨a, b, ka, kb, ds, rfl, rfl, h1, h2, h3, h4, h5, h6, h7⟩ := t
  cases rx
  cases ry
  obtain ⟨_, lo, va, rel, dd⟩ := dk_of I.hok h1
  obtain ⟨_, lo', vb, rel', dd'⟩ := dk_of I.hok h2
  have nb : (vb.map (·.1)).Nodup := by rw [← KV.keys rel', ← h3]; exact h4
  have len : va.length = vb.length := by
    have e := congrArg List.length h3
    rw [List.length_map, List.length_map] at e
    rw [← KV.length rel, ← KV.length rel', e]
  refine go a b va vb rfl rfl lo lo' dd dd' len (hits_go I (by show A.units + 1 + 64 < cLine; omega) rel rel' h3 h5 h6 h7 fun k v hm => valueAt_mem nb hm)
theorem op_eqDD (h : X.K = K) (hu : X.A.units + 66 < cLine) : OpR X (compareOp .Eq) (fun x y H Q => Twin K H x y ∧ Q (.bl true) H) := by
  intro pins s σ H x y v u Q I rx ry hh
  obtain ⟨t, q⟩ := hh
  refine twin_hits (A := X.A) h hu I rx ry t fun a b va vb ev eu lo lo' dd dd' len hits => ?_
  subst ev eu
  refine PySem.W.keq_eq lo lo' dd dd' (by omega) (fun _ => hits) ⟨.bl true, H, I, ?_, q⟩
  rw [len, beq_self_eq_true]
  rfl
theorem op_neDD (h : X.K = K) (hu : X.A.units + 66 < cLine) : OpR X (compareOp .NotEq) (fun x y H Q => Twin K H x y ∧ Q (.bl false) H) := by
  intro pins s σ H x y v u Q I rx ry hh
  obtain ⟨t, q⟩ := hh
  refine twin_hits (A := X.A) h hu I rx ry t fun a b va vb ev eu lo lo' dd dd' len hits => ?_
  subst ev eu
  refine PySem.W.keq_ne lo lo' dd dd' (by omega) (fun _ => hits) ⟨.bl false, H, I, ?_, q⟩
  rw [len, beq_self_eq_true]
  rfl
/-- x in a list of data -/
theorem op_inKL (h : X.K = K) (hu : X.A.units + 66 < cLine) : OpR X (compareOp .In) (fun x y H Q => ∃ l xs d ds, y = .ref l ∧ SqL K H l xs ∧ RepsK K H xs ds ∧ RepK K H x d ∧ SeqAt.shaped d = true ∧ PyData.canLayAll0 ds = true ∧ Q (.bl (ds.any fun z => PyData.eqv z d)) H) := by
  subst h
  intro pins s σ H x y v u Q I rx ry hh
  obtain ⟨l, xs, d, ds, rfl, hq, hr, hx, sd, hc, q⟩ := hh
  cases ry
  obtain ⟨its, rv, ⟨o, n, ho, hcl, hdt, hd⟩, _⟩ := I.list hq
  obtain ⟨as, r1⟩ := RepsK.reads I hr rv
  obtain ⟨bs, r2⟩ := RepK.reads I hx rx
  refine SeqAt.in_list_reads (xs := ds) (d := d) (.list ho hcl hd (by simpa using r1)) r2 hc (SeqAt.canLay_of_shaped sd) (room_in_shaped sd (by omega)) ⟨.bl _, H, I, rfl, q⟩
end
end L2

set_option Elab.async false
set_option linter.all false
set_option maxRecDepth 100000
set_option maxHeartbeats 4000000
namespace K33
open PySem L2
def top (i : Nat) : Stmt := PySem.Challenge.pw_warnloop_k33_whole_wanted_is_not_still.main.body.getD i (.Pass ⟨0, 0, 0, 0⟩)
theorem bt_isinstance : bootBuiltins "isinstance" = some (.builtin "isinstance") := by decide +kernel
theorem bt_int : bootBuiltins "int" = some (.type "int") := by decide +kernel
theorem bt_bool : bootBuiltins "bool" = some (.type "bool") := by decide +kernel
theorem bt_tuple : bootBuiltins "tuple" = some (.type "tuple") := by decide +kernel
theorem bt_list : bootBuiltins "list" = some (.type "list") := by decide +kernel
theorem bt_len : bootBuiltins "len" = some (.builtin "len") := by decide +kernel
theorem bt_abs : bootBuiltins "abs" = some (.builtin "abs") := by decide +kernel
theorem bt_max : bootBuiltins "max" = some (.builtin "max") := by decide +kernel
theorem bt_any : bootBuiltins "any" = some (.builtin "any") := by decide +kernel
theorem bt_sorted : bootBuiltins "sorted" = some (.builtin "sorted") := by decide +kernel
theorem bt_min : bootBuiltins "min" = some (.builtin "min") := by decide +kernel
theorem bt_dict : bootBuiltins "dict" = some (.type "dict") := by decide +kernel
/-- the built-in names that the text does not bind -/
structure Nm (mg : Str → Option Value) : Prop where
  isinstance : mg "isinstance" = none
  int : mg "int" = none
  bool : mg "bool" = none
  tuple : mg "tuple" = none
  list : mg "list" = none
  str : mg "str" = none
  len : mg "len" = none
  all : mg "all" = none
  abs : mg "abs" = none
  max : mg "max" = none
  min : mg "min" = none
  range : mg "range" = none
  sorted : mg "sorted" = none
  any : mg "any" = none
  sum : mg "sum" = none
  enumerate : mg "enumerate" = none
  zip : mg "zip" = none
  reversed : mg "reversed" = none
  dict : mg "dict" = none
  ord : mg "ord" = none
abbrev s_l_bag : Stmt := top 13
abbrev p_l_bag : List Str := ["_law_script", "_law_k"]
theorem sc_l_bag : FnScope ["_law_script", "_law_k", "_law_cell"] p_l_bag (defScope s_l_bag) := ⟨rfl, rfl, rfl, by decide +kernel, rfl, by decide +kernel, by decide +kernel⟩
abbrev s_l_take : Stmt := top 14
abbrev p_l_take : List Str := ["_law_bag_here", "_law_many"]
theorem sc_l_take : FnScope ["_law_bag_here", "_law_many", "_law_digit", "_law_primes", "_law_step", "_law_base", "_law_found"] p_l_take (defScope s_l_take) := ⟨rfl, rfl, rfl, by decide +kernel, rfl, by decide +kernel, by decide +kernel⟩
/-- a bag of draws: three whole numbers, the last one (how often it was drawn by the second) at most n -/
def BagAt (H : Hp) (b : Addr) (n : Nat) : Prop := ∃ x y z : Int, H b = some (.lst [.int x, .int y, .int z]) ∧ 0 ≤ x ∧ 0 ≤ y ∧ y ≤ 4294967296 ∧ 0 ≤ z ∧ z ≤ n
theorem BagAt.same {H H' : Hp} {b : Addr} {n : Nat} (h : BagAt H b n) (s : Same H H') : BagAt H' b n := by
  obtain ⟨x, y, z, e, r⟩ := h
  exact ⟨x, y, z, s _ _ e, r⟩
theorem BagAt.mono {H : Hp} {b : Addr} {n m : Nat} (h : BagAt H b n) (l : n ≤ m) : BagAt H b m := by
  obtain ⟨x, y, z, e, h1, h2, h3, h4, h5⟩ := h
  exact ⟨x, y, z, e, h1, h2, h3, h4, by omega⟩
theorem BagAt.nb {H : Hp} {b p : Addr} {n : Nat} (h : BagAt H b n) (hp : H p = none) : b ≠ p := by obtain ⟨_, _, _, e, _⟩ := h; exact ne_of_none e hp
theorem BagAt.ntup {H : Hp} {b : Addr} {n : Nat} (h : BagAt H b n) : ∀ xs, H b ≠ some (.tup xs) := fun xs z => by obtain ⟨_, _, _, e, _⟩ := h; rw [e] at z; cases z
theorem BagAt.ex {H : Hp} {b : Addr} {n : Nat} (h : BagAt H b n) : ∃ o, H b = some o := by obtain ⟨_, _, _, e, _⟩ := h; exact ⟨_, e⟩
theorem BagAt.sameB {H H' : Hp} {a b : Addr} {n : Nat} (h : BagAt H b n) (s : SameB a H H') (ne : b ≠ a) : BagAt H' b n := by
  obtain ⟨x, y, z, e, r⟩ := h
  exact ⟨x, y, z, s _ _ e ne, r⟩
theorem leSize {n : Nat} (h : n ≤ 1000) : n ≤ sizeLine := Nat.le_of_lt (small1000 h)
def spBag (K : PySem.W.Frag) : Sp := fun vs H Q _ => ∃ (a : Addr) (ns : List Int) (k : Int), vs = [.ref a, .int k] ∧ SqL K H a (ns.map V.int) ∧ ns.length ≤ 63 ∧ 0 ≤ k ∧ k ≤ 100 ∧ ∀ p o, H p = none → BagAt (upd H p o) p 0 → Q (.ref p) (upd H p o)
def spTake : Sp := fun vs H Q _ => ∃ (b : Addr) (n : Nat) (m : Int), vs = [.ref b, .int m] ∧ BagAt H b n ∧ n ≤ 10000 ∧ 0 < m ∧ m < 1073741824 ∧ ∀ r H', 0 ≤ r → r < m → BagAt H' b (n + 1) → SameB b H H' → Q (.int r) H'
def spLaw (K : PySem.W.Frag) : Sp := fun vs H Q _ => ∃ (a : Addr) (ns : List Int), vs = [.ref a] ∧ SqL K H a (ns.map V.int) ∧ ns.length ≤ 63 ∧ ∀ H', Q (.bl true) H'
theorem at7 {i : Int} (h0 : 0 ≤ i) (h7 : i < 7) {a b c d e f g : Int} (P : Int → Prop) (ha : P a) (hb : P b) (hc : P c) (hd : P d) (he : P e) (hf : P f) (hg : P g) : ∃ p, atI [V.int a, .int b, .int c, .int d, .int e, .int f, .int g] i = some (.int p) ∧ P p := by
  have : i = 0 ∨ i = 1 ∨ i = 2 ∨ i = 3 ∨ i = 4 ∨ i = 5 ∨ i = 6 := by omega
  rcases this with rfl | rfl | rfl | rfl | rfl | rfl | rfl
  · exact ⟨_, rfl, ha⟩
  · exact ⟨_, rfl, hb⟩
  · exact ⟨_, rfl, hc⟩
  · exact ⟨_, rfl, hd⟩
  · exact ⟨_, rfl, he⟩
  · exact ⟨_, rfl, hf⟩
  · exact ⟨_, rfl, hg⟩
theorem cm01 {x : Int} {b : Bool} : CMul x (if b = true then 1 else 0) := .inr (by cases b <;> exact ⟨by decide, by decide⟩)
section
variable {P : Program} {w : World} {K : PySem.W.Frag} {mg : Str → Option Value} {base : Heap}
theorem ok_l_bag (C : Code K mg "_law_bag" s_l_bag p_l_bag) (T : Nm mg) : Good P w K mg base "_law_bag" 1 p_l_bag (spBag K) := by
  refine C.good sc_l_bag (fun vs H Q E h => ?_) (fun f cdv A outer s H vs Q E hr h => ?_)
  · obtain ⟨a, ns, k, rfl, _⟩ := h
    rfl
  obtain ⟨a, ns, k, rfl, hS, h63, h0, h1, q⟩ := h
  refine ⟨_, (pss_cons (ps_set (i := 2) sc_l_bag.nd rfl (Or.inl rfl) (pe_op op_add (pe_op op_add (pe_op op_mul (pe_op op_mul pe_int (pv 1)) (pv 1)) (pe_op op_mul pe_int (pv 1))) pe_int))
  (pss_cons (ps_if (pt_cmpR op_lt (pv 1) (pe_callB call_len_seq rfl T.len bt_len (pa_cons (pv 0) pa_nil)) (nomark _)) (pss_one (ps_set (i := 2) sc_l_bag.nd rfl (Or.inl rfl) (pe_ix ix_list (pv 0) (pv 1) (fun _ _ => rfl)))) pss_nil)
  (pss_one (ps_ret (pe_lst (pa_cons (pe_op op_mul (pe_callB call_abs rfl T.abs bt_abs (pa_cons (pv 2) pa_nil)) (pe_callTy call_int1 rfl T.int bt_int (pa_cons (pe_cmpR op_ge (pe_callB call_abs rfl T.abs bt_abs (pa_cons (pv 2) pa_nil)) (pe_op op_pow pe_int pe_int) (nomark _)) pa_nil))) (pa_cons (pe_op op_add (pe_op op_mod (pv 2) pe_int) (pe_op op_mul pe_int (pv 1))) (pa_cons pe_int pa_nil)))))))), ?_⟩
  refine ⟨_, rfl, _, _, rfl, rfl, .inl ⟨by decide, by decide⟩, _, rfl, _, _, rfl, rfl, .inr ⟨by omega, by omega⟩, _, rfl, _, _, rfl, rfl, .inl ⟨by decide, by decide⟩, _, _, rfl, rfl, _, _, rfl, rfl, ?_⟩
  refine ⟨_, rfl, _, rfl, a, _, rfl, .inl hS, _, _, rfl, rfl, _, rfl, ?_⟩
  have hl : (ns.map V.int).length = ns.length := List.length_map _
  have fin : ∀ (c : Int) (p : Addr), H p = none → Q (.ref p) (upd H p (.lst [.int ((if c < 0 then -c else c) * (if decide ((10 : Int) ^ (18 : Int).toNat ≤ (if c < 0 then -c else c)) = true then 1 else 0)), .int (c % 2147483647 + 37 * k), .int 0])) := fun c p hp => by
    refine q p _ hp ⟨_, _, _, upd_same, ?_, ?_, ?_, by omega, by omega⟩
    · refine Int.mul_nonneg ?_ ?_
      · split <;> omega
      · split <;> omega
    · have := Int.emod_nonneg c (show (2147483647 : Int) ≠ 0 by decide)
      omega
    · have := Int.emod_lt_of_pos c (show (0 : Int) < 2147483647 by decide)
      omega
  refine ite2 (fun c1 => ?_) (fun c1 => ?_)
  · have c' : k < (((ns.map V.int).length : Nat) : Int) := of_decide_eq_true c1
    rw [hl] at c'
    have hk : k.toNat < ns.length := by omega
    have hat : atI (ns.map V.int) ((k.toNat : Nat) : Int) = some (.int ns[k.toNat]) := atI_nat (by rw [List.getElem?_map]; simp [hk])
    rw [Int.toNat_of_nonneg h0] at hat
    refine ⟨_, rfl, _, rfl, a, _, _, _, rfl, rfl, hS, hat, ?_⟩
    exact ⟨_, rfl, _, rfl, _, rfl, _, rfl, _, _, rfl, rfl, ⟨by decide, by decide, by decide⟩, _, _, rfl, rfl, .inr ⟨_, rfl, _, _, rfl, rfl, cm01, _, rfl, _, _, rfl, rfl, (by show (0 : Int) < 2147483647; decide), _, rfl, _, _, rfl, rfl, .inl ⟨by decide, by decide⟩, _, _, rfl, rfl,
      (by show 3 ≤ sizeLine; decide), fun l hl' => fin _ l hl'⟩⟩
  · exact ⟨_, rfl, _, rfl, _, rfl, _, rfl, _, _, rfl, rfl, ⟨by decide, by decide, by decide⟩, _, _, rfl, rfl, .inr ⟨_, rfl, _, _, rfl, rfl, cm01, _, rfl, _, _, rfl, rfl, (by show (0 : Int) < 2147483647; decide), _, rfl, _, _, rfl, rfl, .inl ⟨by decide, by decide⟩, _, _, rfl, rfl,
      (by show 3 ≤ sizeLine; decide), fun l hl' => fin _ l hl'⟩⟩
theorem ok_l_take (C : Code K mg "_law_take" s_l_take p_l_take) (T : Nm mg) : Good P w K mg base "_law_take" 1 p_l_take spTake := by
  refine C.good sc_l_take (fun vs H Q E h => ?_) (fun f cdv A outer s H vs Q E hr h => ?_)
  · obtain ⟨b, n, m, rfl, _⟩ := h
    rfl
  obtain ⟨b, n, m, rfl, ⟨x, y, z, hb, x0, y0, y1, z0, z1⟩, hn, m0, m1, q⟩ := h
  refine ⟨_, (pss_cons (ps_if (pt_cmpR op_gt (pe_ix ix_list (pv 0) pe_int (fun _ _ => rfl)) pe_int (nomark _)) (pss_cons (ps_set (i := 2) sc_l_take.nd rfl (Or.inl rfl) (pe_op op_mod (pe_ix ix_list (pv 0) pe_int (fun _ _ => rfl)) (pv 1)))
  (pss_cons (ps_asg (pe_op op_fdiv (pe_ix ix_list (pv 0) pe_int (fun _ _ => rfl)) (pv 1)) (pg_sub (pv 0) pe_int set_list))
  (pss_one (ps_ret (pv 2))))) pss_nil)
  (pss_cons (ps_set (i := 3) sc_l_take.nd rfl (Or.inl rfl) (@pe_tup _ _ _ _ _ (@pa_cons _ _ _ _ _ (@pe_int _ _ _ _) (@pa_cons _ _ _ _ _ (@pe_int _ _ _ _) (@pa_cons _ _ _ _ _ (@pe_int _ _ _ _) (@pa_cons _ _ _ _ _ (@pe_int _ _ _ _) (@pa_cons _ _ _ _ _ (@pe_int _ _ _ _) (@pa_cons _ _ _ _ _ (@pe_int _ _ _ _) (@pa_cons _ _ _ _ _ (@pe_int _ _ _ _) (@pa_nil _) st_const) st_const) st_const) st_const) st_const) st_const) st_const)))
  (pss_cons (ps_asg (pe_op op_add (pe_ix ix_list (pv 0) pe_int (fun _ _ => rfl)) pe_int) (pg_sub (pv 0) pe_int set_list))
  (pss_cons (ps_set (i := 4) sc_l_take.nd rfl (Or.inl rfl) (pe_ix ix_list (pv 0) pe_int (fun _ _ => rfl)))
  (pss_cons (ps_set (i := 5) sc_l_take.nd rfl (Or.inl rfl) (pe_op op_add (pe_op op_add (pe_op op_mul (pe_ix ix_list (pv 0) pe_int (fun _ _ => rfl)) (pe_op op_add (pe_op op_mul pe_int (pv 4)) pe_int)) (pe_op op_mul (pe_op op_mul pe_int (pv 4)) (pv 4))) pe_int))
  (pss_cons (ps_set (i := 6) sc_l_take.nd rfl (Or.inl rfl) (pe_op op_mod (pe_op op_pow (pv 5) pe_int) (pe_ix ix_tup (pv 3) (pe_op op_mod (pv 4) pe_int) (fun _ _ => rfl))))
  (pss_one (ps_ret (pe_op op_mod (pe_op op_fdiv (pe_op op_mod (pe_op op_mul (pv 6) (pe_op op_add (pe_op op_fdiv (pv 6) pe_int) pe_int)) (pe_ix ix_tup (pv 3) (pe_op op_mod (pe_op op_add (pv 4) pe_int) pe_int) (fun _ _ => rfl))) pe_int) (pv 1)))))))))), ?_⟩
  refine ⟨_, rfl, b, _, _, _, rfl, rfl, SqL.of hb, rfl, _, _, rfl, rfl, _, rfl, ?_⟩
  refine ite2 (fun c1 => ?_) (fun c1 => ?_)
  · have c' : 0 < x := of_decide_eq_true c1
    refine ⟨_, rfl, b, _, _, _, rfl, rfl, SqL.of hb, rfl, _, rfl, _, _, rfl, rfl, m0, ?_⟩
    refine ⟨_, rfl, b, _, _, _, rfl, rfl, SqL.of hb, rfl, _, rfl, _, _, rfl, rfl, ⟨m0, m1⟩, _, rfl, b, _, _, _, rfl, rfl, hb, rfl, ?_⟩
    exact ⟨_, rfl, q _ _ (Int.emod_nonneg x (by omega)) (Int.emod_lt_of_pos x m0) ⟨x / m, y, z, upd_same, Int.ediv_nonneg x0 (by omega), y0, y1, z0, by omega⟩ SameB.upd⟩
  · refine ⟨(by show 7 ≤ sizeLine; decide), fun tp htp => ?_⟩
    have nbt : b ≠ tp := ne_of_none hb htp
    have hb1 : ∀ o, (upd H tp o) b = some (.lst [.int x, .int y, .int z]) := fun o => by rw [upd_ne nbt]; exact hb
    have ht1 : ∀ o u, (upd (upd H tp o) b u) tp = some o := fun o u => by rw [upd_ne nbt.symm, upd_same]
    refine ⟨_, rfl, b, _, _, _, rfl, rfl, SqL.of (hb1 _), rfl, _, _, rfl, rfl, _, rfl, b, _, _, _, rfl, rfl, hb1 _, rfl, ?_⟩
    refine ⟨_, rfl, b, _, _, _, rfl, rfl, SqL.of upd_same, rfl, ?_⟩
    have s0 : 0 ≤ z + 1 := by omega
    have s1 : z + 1 ≤ 10001 := by omega
    refine ⟨_, rfl, b, _, _, _, rfl, rfl, SqL.of upd_same, rfl, _, rfl, _, _, rfl, rfl, .inl ⟨by decide, by decide⟩, _, _, rfl, rfl, _, _, rfl, rfl, .inl ⟨by omega, by omega⟩, _, rfl, _, _, rfl, rfl, .inl ⟨by decide, by decide⟩, _, rfl, _, _, rfl, rfl, .inr ⟨by omega, by omega⟩,
      _, _, rfl, rfl, _, _, rfl, rfl, ?_⟩
    have hbase : (y * (2 * (z + 1) + 1) + 6007 * (z + 1) * (z + 1) + 29).natAbs < 2 ^ 64 := by
      have h1 : 0 ≤ y * (2 * (z + 1) + 1) := Int.mul_nonneg y0 (by omega)
      have h2 : y * (2 * (z + 1) + 1) ≤ 4294967296 * 20003 := Int.mul_le_mul y1 (by omega) (by omega) (by omega)
      have h3 : 0 ≤ 6007 * (z + 1) * (z + 1) := Int.mul_nonneg (by omega) s0
      have h4 : 6007 * (z + 1) * (z + 1) ≤ (6007 * 10001) * 10001 := Int.mul_le_mul (by omega) s1 s0 (by omega)
      omega
    obtain ⟨p1, e1, p10, p11⟩ := at7 (i := (z + 1) % 7) (Int.emod_nonneg _ (by decide)) (Int.emod_lt_of_pos _ (by decide)) (a := 2147483629) (b := 2147483587) (c := 2147483579) (d := 2147483563) (e := 2147483549) (f := 2147483543) (g := 2147483497)
      (fun p => 0 < p ∧ p < 2147483648) (by decide) (by decide) (by decide) (by decide) (by decide) (by decide) (by decide)
    obtain ⟨p2, e2, p20, p21⟩ := at7 (i := (z + 1 + 3) % 7) (Int.emod_nonneg _ (by decide)) (Int.emod_lt_of_pos _ (by decide)) (a := 2147483629) (b := 2147483587) (c := 2147483579) (d := 2147483563) (e := 2147483549) (f := 2147483543) (g := 2147483497)
      (fun p => 0 < p ∧ p < 2147483648) (by decide) (by decide) (by decide) (by decide) (by decide) (by decide) (by decide)
    refine ⟨_, rfl, _, _, rfl, rfl, ⟨by decide, by decide, hbase⟩, _, rfl, _, rfl, _, _, rfl, rfl, (by show (0 : Int) < 7; decide), tp, _, _, _, rfl, rfl, SqT.of (ht1 _ _), e1, _, _, rfl, rfl, p10, ?_⟩
    generalize hF : (y * (2 * (z + 1) + 1) + 6007 * (z + 1) * (z + 1) + 29) ^ (3 : Int).toNat % p1 = F
    have F0 : 0 ≤ F := by rw [← hF]; exact Int.emod_nonneg _ (by omega)
    have F1 : F < p1 := by rw [← hF]; exact Int.emod_lt_of_pos _ p10
    refine ⟨_, rfl, _, rfl, _, _, rfl, rfl, ⟨by decide, by decide⟩, _, _, rfl, rfl, _, _, rfl, rfl, .inl ⟨by omega, by omega⟩, _, rfl, _, rfl, _, _, rfl, rfl, _, _, rfl, rfl, (by show (0 : Int) < 7; decide), tp, _, _, _, rfl, rfl, SqT.of (ht1 _ _), e2, _, _, rfl, rfl, p20,
      _, _, rfl, rfl, ⟨by decide, by decide⟩, _, rfl, _, _, rfl, rfl, m0, ?_⟩
    refine q _ _ (Int.emod_nonneg _ (by omega)) (Int.emod_lt_of_pos _ m0) ⟨x, y, z + 1, upd_same, x0, y0, y1, s0, by omega⟩ fun c o e nc => ?_
    rw [upd_ne nc, upd_ne (ne_of_none e htp)]
    exact e
end
end K33

set_option Elab.async false
set_option linter.all false
set_option maxRecDepth 100000
set_option maxHeartbeats 1000000
namespace K33
open PySem L2
/-- the classes of refusals that are met here -/
structure Er (K : PySem.W.Frag) (mg : Str → Option Value) (hc c0 c1 c2 c3 c4 c5 c6 c7 c8 c9 c10 c11 c12 : Addr) : Prop where
  nHouseError : mg "HouseError" = some (.ref hc)
  xHouseError : XCl K hc
  nNoAddress : mg "NoAddress" = some (.ref c5)
  nNoHand : mg "NoHand" = some (.ref c7)
structure Knd (K : PySem.W.Frag) (hc C : Addr) (cs : List Addr) (j : Nat) : Prop where
  xc : XCl K C
  sub : PySem.W.subIn K (.ref C) (.ref hc) = some true
end K33

set_option Elab.async false
set_option linter.all false
set_option maxRecDepth 100000
set_option pp.maxSteps 300
set_option maxHeartbeats 1000000
namespace K33
open PySem L2
abbrev s_is_whole : Stmt := top 5
abbrev p_is_whole : List Str := ["thing"]
theorem sc_is_whole : FnScope ["thing"] p_is_whole (defScope s_is_whole) := ⟨rfl, rfl, rfl, by decide +kernel, rfl, by decide +kernel, by decide +kernel⟩
abbrev s_waiting : Stmt := top 10
abbrev p_waiting : List Str := ["left"]
theorem sc_waiting : FnScope ["left"] p_waiting (defScope s_waiting) := ⟨rfl, rfl, rfl, by decide +kernel, rfl, by decide +kernel, by decide +kernel⟩
abbrev s_Sounder___init__ : Stmt := (inClass (top 11) 0)
abbrev p_Sounder___init__ : List Str := ["self", "outs"]
theorem sc_Sounder___init__ : FnScope ["self", "outs"] p_Sounder___init__ (defScope s_Sounder___init__) := ⟨rfl, rfl, rfl, by decide +kernel, rfl, by decide +kernel, by decide +kernel⟩
abbrev s_Sounder_next_of : Stmt := (inClass (top 11) 2)
abbrev p_Sounder_next_of : List Str := ["self", "address", "is_wanted", "has_new"]
theorem sc_Sounder_next_of : FnScope ["self", "address", "is_wanted", "has_new", "how", "left"] p_Sounder_next_of (defScope s_Sounder_next_of) := ⟨rfl, rfl, rfl, by decide +kernel, rfl, by decide +kernel, by decide +kernel⟩
abbrev s_Sounder_count_unused : Stmt := (inClass (top 11) 3)
abbrev p_Sounder_count_unused : List Str := ["self"]
theorem sc_Sounder_count_unused : FnScope ["self", "ended"] p_Sounder_count_unused (defScope s_Sounder_count_unused) := ⟨rfl, rfl, rfl, by decide +kernel, rfl, by decide +kernel, by decide +kernel⟩
abbrev s_Sounder_check_address : Stmt := (inClass (top 11) 9)
abbrev p_Sounder_check_address : List Str := ["self", "address"]
theorem sc_Sounder_check_address : FnScope ["self", "address"] p_Sounder_check_address (defScope s_Sounder_check_address) := ⟨rfl, rfl, rfl, by decide +kernel, rfl, by decide +kernel, by decide +kernel⟩
abbrev s_Sounder_state_of : Stmt := (inClass (top 11) 12)
abbrev p_Sounder_state_of : List Str := ["self", "address"]
theorem sc_Sounder_state_of : FnScope ["self", "address"] p_Sounder_state_of (defScope s_Sounder_state_of) := ⟨rfl, rfl, rfl, by decide +kernel, rfl, by decide +kernel, by decide +kernel⟩
abbrev s_Sounder_lengthen : Stmt := (inClass (top 11) 10)
abbrev p_Sounder_lengthen : List Str := ["self", "address"]
theorem sc_Sounder_lengthen : FnScope ["self", "address", "how", "left"] p_Sounder_lengthen (defScope s_Sounder_lengthen) := ⟨rfl, rfl, rfl, by decide +kernel, rfl, by decide +kernel, by decide +kernel⟩
abbrev s_Sounder_standing_by : Stmt := (inClass (top 11) 4)
abbrev p_Sounder_standing_by : List Str := ["self", "words"]
theorem sc_Sounder_standing_by : FnScope ["self", "words"] p_Sounder_standing_by (defScope s_Sounder_standing_by) := ⟨rfl, rfl, rfl, by decide +kernel, rfl, by decide +kernel, by decide +kernel⟩
abbrev s_Sounder_put_all : Stmt := (inClass (top 11) 5)
abbrev p_Sounder_put_all : List Str := ["self", "addresses", "stand"]
theorem sc_Sounder_put_all : FnScope ["self", "addresses", "stand", "address"] p_Sounder_put_all (defScope s_Sounder_put_all) := ⟨rfl, rfl, rfl, by decide +kernel, rfl, by decide +kernel, by decide +kernel⟩
abbrev s_Sounder_press : Stmt := (inClass (top 11) 6)
abbrev p_Sounder_press : List Str := ["self"]
theorem sc_Sounder_press : FnScope ["self"] p_Sounder_press (defScope s_Sounder_press) := ⟨rfl, rfl, rfl, by decide +kernel, rfl, by decide +kernel, by decide +kernel⟩
abbrev s_Sounder_silence : Stmt := (inClass (top 11) 7)
abbrev p_Sounder_silence : List Str := ["self"]
theorem sc_Sounder_silence : FnScope ["self"] p_Sounder_silence (defScope s_Sounder_silence) := ⟨rfl, rfl, rfl, by decide +kernel, rfl, by decide +kernel, by decide +kernel⟩
abbrev s_Sounder_reset : Stmt := (inClass (top 11) 8)
abbrev p_Sounder_reset : List Str := ["self"]
theorem sc_Sounder_reset : FnScope ["self", "loud"] p_Sounder_reset (defScope s_Sounder_reset) := ⟨rfl, rfl, rfl, by decide +kernel, rfl, by decide +kernel, by decide +kernel⟩
abbrev s_Sounder_put_out : Stmt := (inClass (top 11) 11)
abbrev p_Sounder_put_out : List Str := ["self", "address", "beats"]
theorem sc_Sounder_put_out : FnScope ["self", "address", "beats"] p_Sounder_put_out (defScope s_Sounder_put_out) := ⟨rfl, rfl, rfl, by decide +kernel, rfl, by decide +kernel, by decide +kernel⟩
abbrev s_Sounder_sounded : Stmt := (inClass (top 11) 13)
abbrev p_Sounder_sounded : List Str := ["self"]
theorem sc_Sounder_sounded : FnScope ["self"] p_Sounder_sounded (defScope s_Sounder_sounded) := ⟨rfl, rfl, rfl, by decide +kernel, rfl, by decide +kernel, by decide +kernel⟩
abbrev s_Sounder_out_of_use : Stmt := (inClass (top 11) 14)
abbrev p_Sounder_out_of_use : List Str := ["self"]
theorem sc_Sounder_out_of_use : FnScope ["self"] p_Sounder_out_of_use (defScope s_Sounder_out_of_use) := ⟨rfl, rfl, rfl, by decide +kernel, rfl, by decide +kernel, by decide +kernel⟩
def isT : HO → Bool
  | .tup _ => true
  | .frz _ (.tup _) => true
  | _ => false
/-- tuples stay, the known ones too -/
structure TupF (H H' : Hp) : Prop where
  t : TupS H H'
  f : ∀ c o xs, H c = some (.frz o (.tup xs)) → H' c = some (.frz o (.tup xs))
instance {H H' : Hp} : CoeFun (TupF H H') (fun _ => TupS H H') := ⟨TupF.t⟩
theorem TupF.refl (H : Hp) : TupF H H := ⟨fun _ _ e => e, fun _ _ _ e => e⟩
theorem TupF.trans {H H1 H2 : Hp} (a : TupF H H1) (b : TupF H1 H2) : TupF H H2 := ⟨fun c xs e => b.t c xs (a.t c xs e), fun c o xs e => b.f c o xs (a.f c o xs e)⟩
theorem TupF.of {H H1 : Hp} (s : Same H H1) : TupF H H1 := ⟨fun c xs e => s c _ e, fun c o xs e => s c _ e⟩
theorem _root_.L2.SameB.tupF {b : Addr} {H H' : Hp} (x : SameB b H H') (h : ∀ o, H b = some o → isT o = false) : TupF H H' :=
  ⟨fun c xs e => x c _ e fun z => (by have q := h (.tup xs) (by rw [← z]; exact e); cases q), fun c o xs e => x c _ e fun z => (by have q := h (.frz o (.tup xs)) (by rw [← z]; exact e); cases q)⟩
theorem TupF.upd {H : Hp} {b : Addr} {o : HO} (h : ∀ o, H b = some o → isT o = false) : TupF H (upd H b o) := SameB.tupF SameB.upd h
theorem ntOf {H : Hp} {b : Addr} {o : HO} (e : H b = some o) (h : isT o = false := by rfl) : ∀ o', H b = some o' → isT o' = false := fun o' e' => by
  rw [e] at e'
  cases e'
  exact h
theorem BagAt.ntupF {H : Hp} {b : Addr} {n : Nat} (h : BagAt H b n) : ∀ o, H b = some o → isT o = false := by obtain ⟨_, _, _, e, _⟩ := h; exact ntOf e
/-! dicts by the outs' addresses -/
def dk (n : Nat) (a : Nat → Int) (v : Nat → V) : List (Key × V) := (List.range n).map fun j => ((.inl (a j) : Key), v j)
def upF {α : Type} (v : Nat → α) (i : Nat) (x : α) : Nat → α := fun j => if j = i then x else v j
def Apart (n : Nat) (a : Nat → Int) : Prop := ∀ i j, i < n → j < n → a i = a j → i = j
theorem dk_len (n : Nat) (a : Nat → Int) (v : Nat → V) : (dk n a v).length = n := by unfold dk; rw [List.length_map, List.length_range]
theorem dk_get {n i : Nat} {a : Nat → Int} {v : Nat → V} (h : i < n) : (dk n a v)[i]? = some (.inl (a i), v i) := by
  unfold dk
  rw [List.getElem?_map, List.getElem?_range h]
  rfl
theorem dk_at {n i : Nat} {a : Nat → Int} {v : Nat → V} {kv : Key × V} (h : (dk n a v)[i]? = some kv) : i < n ∧ kv = (.inl (a i), v i) := by
  have hi : i < n := by
    have := (List.getElem?_eq_some_iff.mp h).1
    rw [dk_len] at this
    exact this
  rw [dk_get hi] at h
  exact ⟨hi, (Option.some.inj h).symm⟩
theorem dk_succ (n : Nat) (a : Nat → Int) (v : Nat → V) : dk (n + 1) a v = dk n a v ++ [(.inl (a n), v n)] := by
  unfold dk
  rw [List.range_succ, List.map_append]
  rfl
theorem dk_keys (n : Nat) (a : Nat → Int) (v : Nat → V) : (dk n a v).map (·.1) = (List.range n).map fun j => (.inl (a j) : Key) := by
  unfold dk
  rw [List.map_map]
  rfl
theorem dk_congr {n : Nat} {a : Nat → Int} {v v' : Nat → V} (h : ∀ j, j < n → v j = v' j) : dk n a v = dk n a v' := by
  unfold dk
  refine List.map_congr_left fun j hj => ?_
  rw [h j (List.mem_range.mp hj)]
theorem dk_none {n : Nat} {a : Nat → Int} {v : Nat → V} {x : Int} (h : ∀ j, j < n → a j ≠ x) : valV (dk n a v) (.inl x) = none := by
  have h1 := valV_any (Sum.inl x : Key) (dk n a v)
  cases e : valV (dk n a v) (Sum.inl x : Key) with
  | none => rfl
  | some y =>
    rw [e] at h1
    obtain ⟨kv, hm, hk⟩ := List.any_eq_true.mp h1
    unfold dk at hm
    obtain ⟨j, hj, rfl⟩ := List.mem_map.mp hm
    exact absurd (Sum.inl.inj (of_decide_eq_true hk)) (h j (List.mem_range.mp hj))
theorem dk_val {a : Nat → Int} {v : Nat → V} : ∀ {n i : Nat}, Apart n a → i < n → valV (dk n a v) (.inl (a i)) = some (v i) := by
  intro n
  induction n with
  | zero => intro i _ h; exact absurd h (Nat.not_lt_zero _)
  | succ n ih =>
    intro i ap hi
    have ap' : Apart n a := fun x y hx hy e => ap x y (by omega) (by omega) e
    have hn : valV (dk n a v) (.inl (a n)) = none := dk_none fun j hj e => by have := ap j n (by omega) (by omega) e; omega
    rw [dk_succ, valV_snoc _ _ _ _ hn]
    by_cases e : i = n
    · rw [e, if_pos rfl]
    · rw [if_neg, ih ap' (by omega)]
      intro z
      exact e (ap i n hi (by omega) (Sum.inl.inj z))
theorem dk_put {n i : Nat} {a : Nat → Int} {v : Nat → V} (ap : Apart n a) (hi : i < n) (x : V) : putK (dk n a v) (.inl (a i)) x = dk n a (upF v i x) := by
  have h := dk_val (v := v) ap hi
  have h1 := valV_any (Sum.inl (a i) : Key) (dk n a v)
  rw [h] at h1
  unfold putK
  rw [if_pos (show ((dk n a v).any fun kv => decide (kv.1 = Sum.inl (a i))) = true from h1)]
  unfold dk
  rw [List.map_map]
  refine List.map_congr_left fun j hj => ?_
  have hj := List.mem_range.mp hj
  show (if (Sum.inl (a j) : Key) = Sum.inl (a i) then ((Sum.inl (a j) : Key), x) else (Sum.inl (a j), v j)) = (Sum.inl (a j), upF v i x j)
  unfold upF
  by_cases e : j = i
  · rw [e, if_pos rfl, if_pos rfl]
  · rw [if_neg e, if_neg fun z => e (ap j i hj hi (Sum.inl.inj z))]
/-- what an out stands by: the word, and what is left -/
abbrev Sta := Str × Int
def StAt (K : PySem.W.Frag) (H : Hp) (v : V) (s : Sta) : Prop := ∃ t, v = .ref t ∧ (H t = some (.tup [.str s.1, .int s.2]) ∨ ∀ H', SqT K H' t [.str s.1, .int s.2])
theorem StAt.sq {K : PySem.W.Frag} {H : Hp} {v : V} {s : Sta} (h : StAt K H v s) : ∃ t, v = .ref t ∧ SqT K H t [.str s.1, .int s.2] := by
  obtain ⟨t, e, h⟩ := h
  rcases h with h | h
  · exact ⟨t, e, SqT.of h⟩
  · exact ⟨t, e, h H⟩
theorem StAt.tups {K : PySem.W.Frag} {H H' : Hp} {v : V} {s : Sta} (h : StAt K H v s) (t : TupF H H') : StAt K H' v s := by
  obtain ⟨u, e, h⟩ := h
  rcases h with h | h
  · exact ⟨u, e, .inl (t _ _ h)⟩
  · exact ⟨u, e, .inr h⟩
def wt (l : Int) : Sta := if l > 0 then ("waiting", l) else ("sounding", 0)
/-- the marks of the lengthened behind it -/
def ng (g : Nat → Bool) (i : Nat) (w : Bool) (s : Sta) : Nat → Bool := if s.1 = "still" ∧ w = true then upF g i false else g
/-- how an out stands behind a beat -/
def nx (dl : Int) (w n : Bool) (s : Sta) : Sta :=
  if s.1 = "silenced" ∧ n = true then ("sounding", 0)
  else if s.1 = "still" ∧ w = true then wt dl
  else if s.1 = "waiting" then (if w = true then wt (s.2 - 1) else ("still", 0))
  else s
structure Tx (K : PySem.W.Frag) (mg : Str → Option Value) (C st so si : Addr) : Prop extends Nm mg where
  cl : Cls K C
  mgC : mg "Sounder" = some (.ref C)
  n_delays : NoAttr K C "delays"
  n_standing : NoAttr K C "standing"
  n_lengthened : NoAttr K C "lengthened"
  n_unused : NoAttr K C "unused"
  n_wanted : NoAttr K C "wanted"
  STILL : ∃ u, mg "STILL" = some u ∧ RelV (.ref st) u
  SOUNDING : ∃ u, mg "SOUNDING" = some u ∧ RelV (.ref so) u
  SILENCED : ∃ u, mg "SILENCED" = some u ∧ RelV (.ref si) u
  silenced : ∀ H, SqT K H si [.str "silenced", .int 0]
  still : ∀ H, SqT K H st [.str "still", .int 0]
  sounding : ∀ H, SqT K H so [.str "sounding", .int 0]
/-! the attributes -/
def fl (d1 d2 d3 d4 wa : Addr) : List (Str × V) := [("delays", .ref d1), ("standing", .ref d2), ("lengthened", .ref d3), ("unused", .ref d4), ("wanted", .ref wa)]
theorem names_nd : (["delays", "standing", "lengthened", "unused", "wanted"] : List Str).Nodup := by decide +kernel
section
variable (d1 d2 d3 d4 wa : Addr)
theorem fnd : ((fl d1 d2 d3 d4 wa).map (·.1)).Nodup := names_nd
theorem fl_len : (fl d1 d2 d3 d4 wa).length < 1000 := by show 5 < 1000; decide
theorem get_delays : List.lookup ("delays" : Str) (fl d1 d2 d3 d4 wa) = some (V.ref d1) := fl_get (i := 0) (fnd d1 d2 d3 d4 wa) rfl
theorem get_standing : List.lookup ("standing" : Str) (fl d1 d2 d3 d4 wa) = some (V.ref d2) := fl_get (i := 1) (fnd d1 d2 d3 d4 wa) rfl
theorem get_lengthened : List.lookup ("lengthened" : Str) (fl d1 d2 d3 d4 wa) = some (V.ref d3) := fl_get (i := 2) (fnd d1 d2 d3 d4 wa) rfl
theorem get_unused : List.lookup ("unused" : Str) (fl d1 d2 d3 d4 wa) = some (V.ref d4) := fl_get (i := 3) (fnd d1 d2 d3 d4 wa) rfl
theorem get_wanted : List.lookup ("wanted" : Str) (fl d1 d2 d3 d4 wa) = some (V.ref wa) := fl_get (i := 4) (fnd d1 d2 d3 d4 wa) rfl
theorem put_unused (d : Addr) : putF "unused" (.ref d) (fl d1 d2 d3 d4 wa) = fl d1 d2 d3 d wa := fl_put (i := 3) (fnd d1 d2 d3 d4 wa) rfl
theorem put_wanted (d : Addr) : putF "wanted" (.ref d) (fl d1 d2 d3 d4 wa) = fl d1 d2 d3 d4 d := fl_put (i := 4) (fnd d1 d2 d3 d4 wa) rfl
end
theorem fno {d1 d2 d3 d4 wa : Addr} {x : Str} (h : x ∉ (["delays", "standing", "lengthened", "unused", "wanted"] : List Str)) : (fl d1 d2 d3 d4 wa).lookup x = none := fl_no h
/-- a sounder's outs and how they stand; delays may be walked -/
structure SdR (C : Addr) (K : PySem.W.Frag) (H : Hp) (p d1 d2 d3 d4 wa : Addr) (n : Nat) (a dl : Nat → Int) (s : Nat → Sta) (g : Nat → Bool) : Prop where
  ins : ∃ dx, H p = some (.ins C dx (fl d1 d2 d3 d4 wa))
  del : Rd H d1 (.dK (dk n a fun j => .int (dl j)))
  sta : ∃ v, H d2 = some (.dK (dk n a v)) ∧ ∀ j, j < n → StAt K H (v j) (s j)
  len : H d3 = some (.dK (dk n a fun j => .bl (g j)))
  ap : Apart n a
  few : n ≤ 100
  n12 : d1 ≠ d2
  n13 : d1 ≠ d3
  n23 : d2 ≠ d3
theorem rd_tup {H H' : Hp} {d : Addr} {u : HO} (h : Rd H d u) (s : ∀ o, H d = some o → H' d = some o) : Rd H' d u := by
  rcases h with h | ⟨o, h⟩
  · exact .inl (s _ h)
  · exact .inr ⟨o, s _ h⟩
/-- the outs: a tuple of pairs -/
def OTup (H : Hp) (oa : Addr) (vs : List V) : Prop := ∃ o, H oa = some (.frz o (.tup vs)) ∧ Tp o
theorem OTup.sq {K : PySem.W.Frag} {H : Hp} {oa : Addr} {vs : List V} (h : OTup H oa vs) : SqT K H oa vs := by
  obtain ⟨o, e, _⟩ := h
  exact .inl (.inr ⟨o, e⟩)
theorem OTup.tups {H H' : Hp} {oa : Addr} {vs : List V} (h : OTup H oa vs) (s : TupF H H') : OTup H' oa vs := by
  obtain ⟨o, e, p⟩ := h
  exact ⟨o, s.f _ _ _ e, p⟩
theorem OTup.same {H H' : Hp} {oa : Addr} {vs : List V} (h : OTup H oa vs) (s : Same H H') : OTup H' oa vs := h.tups (TupF.of s)
def OutsAt (H : Hp) (oa : Addr) (n : Nat) (a dl : Nat → Int) : Prop := ∃ t : Nat → Addr, OTup H oa ((List.range n).map fun j => V.ref (t j)) ∧ ∀ j, j < n → H (t j) = some (.tup [.int (a j), .int (dl j)])
theorem OutsAt.tups {H H' : Hp} {oa : Addr} {n : Nat} {a dl : Nat → Int} (h : OutsAt H oa n a dl) (s : TupF H H') : OutsAt H' oa n a dl := by
  obtain ⟨t, h1, h2⟩ := h
  exact ⟨t, h1.tups s, fun j hj => s _ _ (h2 j hj)⟩
theorem rg_get {α : Type} {n i : Nat} {f : Nat → α} {x : α} (h : ((List.range n).map f)[i]? = some x) : i < n ∧ x = f i := by
  have hi : i < n := by
    have := (List.getElem?_eq_some_iff.mp h).1
    rw [List.length_map, List.length_range] at this
    exact this
  rw [List.getElem?_map, List.getElem?_range hi] at h
  exact ⟨hi, (Option.some.inj h).symm⟩
theorem dk_new {a : Nat → Int} {v : Nat → V} {n i : Nat} (ap : Apart n a) (hi : i < n) : putK (dk i a v) (.inl (a i)) (v i) = dk (i + 1) a v := by
  rw [putK_new, dk_succ]
  exact dk_none fun j hj e => by have := ap j i (by omega) hi e; omega
theorem thaw_same {H HH : Hp} {d : Addr} {o : Obj} {u : HO} (s : Same (upd H d (.frz o u)) HH) (h : H d = some u) : Same H (upd HH d u) := fun c x e => by
  by_cases z : c = d
  · subst z
    rw [upd_same, ← h, e]
  · rw [upd_ne z]
    exact s _ _ (by rw [upd_ne z]; exact e)
/-- {address: .. for address, delay in outs} -/
theorem dcompO {K : PySem.W.Frag} {H : Hp} {oa l : Addr} {n : Nat} {a dl : Nat → Int} {tv : TE} {Q : VK} (f : Nat → V) (ho : OutsAt H oa n a dl) (ap : Apart n a) (few : n ≤ 100) (hl : H l = none)
    (htv : ∀ j HH (R : VK), R (f j) HH → tv [some (.int (a j)), some (.int (dl j))] HH R) (q : Q (.ref l) (upd H l (.dK (dk n a f)))) :
    DWant (Itt K oa) (gTup K 2 (gCons (gName 0) (gCons (gName 1) gNil))) (fun _ H Q => Q true H) (tVar 0) tv Q [none, none] (upd H l (.dK [])) l := by
  obtain ⟨t, h1, h2⟩ := ho
  refine dcomp_tup (xs := (List.range n).map fun j => V.ref (t j)) (fun i σ HH => (∃ u v, σ = [u, v]) ∧ HH = upd H l (.dK (dk i a f))) ⟨⟨none, none, rfl⟩, rfl⟩ (fun i σ HH _ h => ?_) (fun i x σ HH hx h => ?_) (fun σ HH h => ?_)
  · obtain ⟨_, rfl⟩ := h
    exact (h1.same (same_new hl _)).sq
  · obtain ⟨⟨u, v, rfl⟩, rfl⟩ := h
    obtain ⟨hi, rfl⟩ := rg_get hx
    refine ⟨t i, _, rfl, SqT.of (same_new hl _ _ _ (h2 i hi)), rfl, _, _, rfl, _, _, rfl, rfl, iteT ⟨_, rfl, htv i _ _ ⟨_, .inl (a i), upd_same, rfl, ?_, ⟨_, _, rfl⟩, ?_⟩⟩⟩
    · rw [dk_len]; exact small1000 (by omega)
    · rw [upd_upd, dk_new ap hi]
  · obtain ⟨_, rfl⟩ := h
    rw [List.length_map, List.length_range]
    exact q
def spWait (K : PySem.W.Frag) : Sp := fun vs H Q _ => ∃ l : Int, vs = [.int l] ∧ ∀ v H', StAt K H' v (wt l) → Same H H' → Q v H'
def spNext (C : Addr) (K : PySem.W.Frag) : Sp := fun vs H Q _ => ∃ p d1 d2 d3 d4 wa n a dl s g i w m, vs = [.ref p, .int (a i), .bl w, .bl m] ∧ i < n ∧ SdR C K H p d1 d2 d3 d4 wa n a dl s g ∧
  ∀ v H', StAt K H' v (nx (dl i) w m (s i)) → H' d3 = some (.dK (dk n a fun j => .bl (ng g i w (s i) j))) → SameB d3 H H' → Q v H'
theorem if2 {c d : Bool} {o : Option (Option V)} {A B : Prop} (ho : o = some (some (V.bl d))) (h1 : c = true → d = true → A) (h2 : ¬ (c = true ∧ d = true) → B) :
    if c = true then (∃ v, o = some (some v) ∧ ∃ k, v = V.bl k ∧ if k = true then A else B) else (if false = true then A else B) := by
  cases c with
  | false =>
    rw [if_neg Bool.false_ne_true, if_neg Bool.false_ne_true]
    exact h2 fun z => Bool.false_ne_true z.1
  | true =>
    rw [if_pos rfl]
    refine ⟨_, ho, d, rfl, ?_⟩
    cases d with
    | false => rw [if_neg Bool.false_ne_true]; exact h2 fun z => Bool.false_ne_true z.2
    | true => rw [if_pos rfl]; exact h1 rfl rfl
theorem dstr {x y : Str} (h : decide (V.str x = V.str y) = true) : x = y := V.str.inj (of_decide_eq_true h)
theorem dstr' {x y : Str} (h : ¬ decide (V.str x = V.str y) = true) : x ≠ y := fun z => h (decide_eq_true (by rw [z]))
theorem dstr2 {x y : Str} {d : Bool} (h : ¬ (decide (V.str x = V.str y) = true ∧ d = true)) : ¬ (x = y ∧ d = true) := fun z => h ⟨decide_eq_true (by rw [z.1]), z.2⟩
def zer : Nat → V := fun _ => .int 0
def spW : Sp := fun vs H Q _ => ∃ i : Int, vs = [.int i] ∧ Q (.bl true) H
def spChk (C ca : Addr) (K : PySem.W.Frag) : Sp := fun vs H Q E => ∃ p d1 d2 d3 d4 wa n a dl s g x, vs = [.ref p, .int x] ∧ SdR C K H p d1 d2 d3 d4 wa n a dl s g ∧ ((∃ i, i < n ∧ a i = x) → Q .non H) ∧ ((∀ i, i < n → a i ≠ x) → ∀ H', Same H H' → E (.ref ca) none H')
def spState (C : Addr) (K : PySem.W.Frag) : Sp := fun vs H Q _ => ∃ p d1 d2 d3 d4 wa n a dl s g i, vs = [.ref p, .int (a i)] ∧ i < n ∧ SdR C K H p d1 d2 d3 d4 wa n a dl s g ∧ ∀ v, StAt K H v (s i) → Q v H
/-- the places, and the addresses, of the outs that P picks -/
def pk (n : Nat) (p : Nat → Bool) : List Nat := (List.range n).filter p
def sel (n : Nat) (a : Nat → Int) (p : Nat → Bool) : List Int := (pk n p).map a
theorem pk_succ (i : Nat) (p : Nat → Bool) : pk (i + 1) p = pk i p ++ (if p i = true then [i] else []) := by
  unfold pk
  rw [List.range_succ, List.filter_append]
  congr 1
  cases e : p i with
  | true => simp [e]
  | false => simp [e]
theorem sel_succ (i : Nat) (a : Nat → Int) (p : Nat → Bool) : sel (i + 1) a p = sel i a p ++ (if p i = true then [a i] else []) := by
  unfold sel
  rw [pk_succ, List.map_append]
  congr 1
  split <;> rfl
theorem pk_len (n : Nat) (p : Nat → Bool) : (pk n p).length ≤ n := by
  unfold pk
  have := List.length_filter_le p (List.range n)
  rw [List.length_range] at this
  exact this
theorem sel_len (n : Nat) (a : Nat → Int) (p : Nat → Bool) : (sel n a p).length ≤ n := by unfold sel; rw [List.length_map]; exact pk_len n p
theorem pk_mem {n j : Nat} {p : Nat → Bool} : j ∈ pk n p ↔ j < n ∧ p j = true := by
  unfold pk
  rw [List.mem_filter, List.mem_range]
theorem sel_filter (n : Nat) (a : Nat → Int) (p : Nat → Bool) (f : Int → Bool) : (sel n a p).filter f = sel n a fun j => p j && f (a j) := by
  unfold sel pk
  rw [List.filter_map, List.filter_filter]
  congr 1
  congr 1
  funext j
  show (f (a j) && p j) = _
  rw [Bool.and_comm]
def intsV (ws : List Int) : List V := ws.map V.int
theorem intsV_flat (ws : List Int) : (intsV ws).all flatV = true := by
  unfold intsV
  rw [List.all_map]
  exact List.all_eq_true.mpr fun _ _ => rfl
theorem intsV_snoc (ws : List Int) (x : Int) : intsV ws ++ [V.int x] = intsV (ws ++ [x]) := by
  unfold intsV
  rw [List.map_append]
  rfl
theorem intsV_len (ws : List Int) : (intsV ws).length = ws.length := List.length_map _
abbrev Ev := Str × Int
def EvAt (H : Hp) (v : V) (e : Ev) : Prop := ∃ t, v = .ref t ∧ H t = some (.tup [.str e.1, .int e.2])
theorem EvAt.tups {H H' : Hp} {v : V} {e : Ev} (h : EvAt H v e) (s : TupF H H') : EvAt H' v e := by
  obtain ⟨t, e, q⟩ := h
  exact ⟨t, e, s _ _ q⟩
theorem Evs.tups {H H' : Hp} {vs : List V} {es : List Ev} (h : Paired (EvAt H) vs es) (s : TupF H H') : Paired (EvAt H') vs es := Paired.mapP h fun _ _ z => z.tups s
/-- beats out of use -/
def unV (u : Nat → Int) : Nat → V := fun j => .int (u j)
def one (u : Nat → Int) : Nat → Bool := fun j => decide (V.int (u j) = V.int 1)
def dec (u : Nat → Int) : Nat → Int := fun j => if u j - 1 > 0 then u j - 1 else 0
def usE (x : Int) : Ev := ("used", x)
def usd (n : Nat) (a u : Nat → Int) : List Ev := (sel n a (one u)).map usE
theorem usd_len (n : Nat) (a u : Nat → Int) : (usd n a u).length ≤ n := by unfold usd; rw [List.length_map]; exact sel_len n a _
theorem Paired.app {α β : Type} {F : α → β → Prop} : ∀ {l : List α} {m : List β} {l' : List α} {m' : List β}, Paired F l m → Paired F l' m' → Paired F (l ++ l') (m ++ m')
  | _, _, _, _, .nil, r => r
  | _, _, _, _, .cons a t, r => .cons a (Paired.app t r)
def spCount (C : Addr) : Sp := fun vs H Q _ => ∃ p dx d1 d2 d3 d4 wa n a u, vs = [.ref p] ∧ H p = some (.ins C dx (fl d1 d2 d3 d4 wa)) ∧ H d4 = some (.dK (dk n a (unV u))) ∧ Apart n a ∧ n ≤ 100 ∧
  ∀ t d tv H', H t = none → H d = none → H' t = some (.lst tv) → Paired (EvAt H') tv (usd n a u) → H' d = some (.dK (dk n a (unV (dec u)))) → H' p = some (.ins C dx (fl d1 d2 d3 d wa)) → SameB p H H' → Q (.ref t) H'
def spInit (C : Addr) (K : PySem.W.Frag) : Sp := fun vs H Q _ => ∃ p dx oa n a dl, vs = [.ref p, .ref oa] ∧ H p = some (.ins C dx []) ∧ OutsAt H oa n a dl ∧ Apart n a ∧ n ≤ 100 ∧
  ∀ d1 d2 d3 d4 wa H', H d1 = none → H d2 = none → H d3 = none → H d4 = none → H wa = none → SdR C K H' p d1 d2 d3 d4 wa n a dl (fun _ => ("still", 0)) (fun _ => false) → H' d1 = some (.dK (dk n a fun j => .int (dl j))) → H' d4 = some (.dK (dk n a (unV fun _ => 0))) → H' wa = some (.tup []) → d4 ≠ d1 → d4 ≠ d2 → d4 ≠ d3 → SameB p H H' → Q .non H'
section
variable {P : Program} {w : World} {K : PySem.W.Frag} {mg : Str → Option Value} {base : Heap} {C st so si : Addr}
theorem ok_waiting (c : Code K mg "waiting" s_waiting p_waiting) (T : Tx K mg C st so si) : Good P w K mg base "waiting" 1 p_waiting (spWait K) := by
  refine c.good sc_waiting (fun vs H Q E h => ?_) (fun f cdv A outer s H vs Q E hr h => ?_)
  · obtain ⟨l, rfl, _⟩ := h
    rfl
  obtain ⟨l, rfl, q⟩ := h
  refine ⟨_, (pss_one (ps_ret (pe_ifExp (pt_cmpR op_gt (pv 0) pe_int (nomark _)) (pe_tup (pa_cons pe_str (pa_cons (pv 0) pa_nil))) (pe_cst rfl T.SOUNDING)))), ?_⟩
  refine ⟨_, rfl, _, _, rfl, rfl, _, rfl, ite2 (fun c1 => ?_) (fun c1 => ?_)⟩
  · have c' : l > 0 := of_decide_eq_true c1
    refine ⟨_, rfl, leSize (by show 2 ≤ 1000; decide), fun t ht => q _ _ ?_ (same_new ht _)⟩
    unfold wt
    rw [if_pos c']
    exact ⟨t, rfl, .inl upd_same⟩
  · have c' : ¬ l > 0 := fun z => c1 (decide_eq_true z)
    refine q _ _ ?_ (Same.refl H)
    unfold wt
    rw [if_neg c']
    exact ⟨so, rfl, .inr T.sounding⟩
theorem ok_next (c : CodeM K C "next_of" "Sounder.next_of" s_Sounder_next_of p_Sounder_next_of) (T : Tx K mg C st so si) (g_waiting : Good P w K mg base "waiting" 1 p_waiting (spWait K)) : GoodM P w K mg base C "next_of" 2 p_Sounder_next_of (spNext C K) := by
  refine c.good sc_Sounder_next_of (fun vs H Q E h => ?_) (fun f cdv A outer s H vs Q E hr h => ?_)
  · obtain ⟨p, d1, d2, d3, d4, wa, n, a, dl, s, g, i, w, m, rfl, _⟩ := h
    rfl
  obtain ⟨p, d1, d2, d3, d4, wa, n, a, dl, s, g, i, w, m, rfl, hi, ⟨⟨dx, hp⟩, h1, ⟨v, h2, hv⟩, h3, ap, few, n12, n13, n23⟩, q⟩ := h
  refine ⟨_, (pss_cons (ps_asg (pe_dget (hu_of hr) (pe_fld (pv 0) rfl) (pv 1) (fun _ _ => rfl)) (pg_tup rfl (pgs_cons (pg_name (i := 4) sc_Sounder_next_of.nd rfl (Or.inl rfl)) (pgs_cons (pg_name (i := 5) sc_Sounder_next_of.nd rfl (Or.inl rfl)) pgs_nil))))
  (pss_cons (ps_if (PW.pt (pw_and (pt_cmpR op_eq (pv 4) pe_str (nomark _)) (pw_and1 (pt_val (pv 3))))) (pss_one (ps_ret (pe_cst rfl T.SOUNDING))) pss_nil)
  (pss_cons (ps_if (PW.pt (pw_and (pt_cmpR op_eq (pv 4) pe_str (nomark _)) (pw_and1 (pt_val (pv 2))))) (pss_cons (ps_dput (hu_of hr) (pe_fld (pv 0) rfl) (pv 1) pe_bl rfl)
  (pss_one (ps_ret (pcall g_waiting hr (pa_cons (pe_dget (hu_of hr) (pe_fld (pv 0) rfl) (pv 1) (fun _ _ => rfl)) pa_nil))))) pss_nil)
  (pss_cons (ps_if (pt_cmpR op_eq (pv 4) pe_str (nomark _)) (pss_one (ps_ret (pe_ifExp (pt_val (pv 2)) (pcall g_waiting hr (pa_cons (pe_op op_sub (pv 5) pe_int) pa_nil)) (pe_cst rfl T.STILL)))) pss_nil)
  (pss_one (ps_ret (pe_tup (pa_cons (pv 4) (pa_cons (pv 5) pa_nil))))))))), ?_⟩
  obtain ⟨t, et, ht⟩ := (hv i hi).sq
  refine ⟨_, rfl, p, C, dx, _, _, rfl, hp, T.cl, T.n_standing, get_standing d1 d2 d3 d4 wa, _, rfl, d2, _, rfl, (by have z := DGet.k (k := .inl (a i)) h2; rw [dk_val ap hi] at z; exact z), ?_⟩
  have q' := q
  clear q
  generalize hsi : s i = si at ht q'
  obtain ⟨x, lf⟩ := si
  refine ⟨t, _, et, ht, rfl, _, _, rfl, _, _, rfl, rfl, ?_⟩
  simp only [List.set_cons_succ, List.set_cons_zero]
  have keep : ∀ {H' : Hp}, SameB d3 H H' → H' d3 = some (.dK (dk n a fun j => .bl (g j))) → ¬ (x = "still" ∧ w = true) → H' d3 = some (.dK (dk n a fun j => .bl (ng g i w (x, lf) j))) := fun {H'} _ h3 z => by
    rw [show ng g i w (x, lf) = g from if_neg z]
    exact h3
  refine ⟨_, rfl, rfl, _, rfl, if2 rfl (fun c1 c2 => ?_) (fun c => ?_)⟩
  · refine q' _ _ ?_ (keep (SameB.refl d3 H) h3 fun z => by rw [dstr c1] at z; exact absurd z.1 (by decide +kernel)) (SameB.refl d3 H)
    unfold nx
    rw [if_pos ⟨dstr c1, c2⟩]
    exact ⟨so, rfl, .inr T.sounding⟩
  have e1 := dstr2 c
  refine ⟨_, rfl, rfl, _, rfl, if2 rfl (fun c1 c2 => ?_) (fun c => ?_)⟩
  · refine ⟨_, rfl, p, C, dx, _, _, rfl, hp, T.cl, T.n_lengthened, get_lengthened d1 d2 d3 d4 wa, _, rfl, d3, _, rfl, DPut.k (k := .inl (a i)) h3 (by rw [dk_len]; exact small1000 (by omega)), ?_⟩
    rw [dk_put ap hi]
    have np : p ≠ d3 := fun z => by rw [z, h3] at hp; cases hp
    have hp1 : ∀ o, (upd H d3 o) p = some (.ins C dx (fl d1 d2 d3 d4 wa)) := fun o => by rw [upd_ne np]; exact hp
    have h11 : ∀ o, Rd (upd H d3 o) d1 (.dK (dk n a fun j => .int (dl j))) := fun o => rd_tup h1 fun u z => by rw [upd_ne n13]; exact z
    refine ⟨_, rfl, p, C, dx, _, _, rfl, hp1 _, T.cl, T.n_delays, get_delays d1 d2 d3 d4 wa, _, rfl, d1, _, rfl, .inl ⟨_, .inl (a i), h11 _, rfl, (dk_val ap hi).symm⟩, _, rfl, fun v H' hv' s' => ?_⟩
    have ngp : (fun j => V.bl (ng g i w (x, lf) j)) = upF (fun j => V.bl (g j)) i (.bl false) := by
      rw [show ng g i w (x, lf) = upF g i false from if_pos ⟨dstr c1, c2⟩]
      funext j
      unfold upF
      split <;> rfl
    refine q' _ _ ?_ (by rw [ngp]; exact s' _ _ upd_same) (SameB.upd.trans (SameB.of s'))
    unfold nx
    rw [if_neg e1, if_pos ⟨dstr c1, c2⟩]
    exact hv'
  have e2 := dstr2 c
  refine ⟨_, rfl, rfl, _, rfl, ite2 (fun c1 => ?_) (fun c1 => ?_)⟩
  · refine ⟨_, rfl, _, rfl, ite2 (fun c2 => ?_) (fun c2 => ?_)⟩
    · refine ⟨_, rfl, _, _, rfl, rfl, _, rfl, fun v H' hv' s' => q' _ _ ?_ (keep (SameB.of s') (s' _ _ h3) e2) (SameB.of s')⟩
      unfold nx
      rw [if_neg e1, if_neg e2, if_pos (dstr c1), if_pos c2]
      exact hv'
    · refine q' _ _ ?_ (keep (SameB.refl d3 H) h3 e2) (SameB.refl d3 H)
      unfold nx
      rw [if_neg e1, if_neg e2, if_pos (dstr c1), if_neg c2]
      exact ⟨st, rfl, .inr T.still⟩
  · refine ⟨_, rfl, _, rfl, leSize (by show 2 ≤ 1000; decide), fun u hu => q' _ _ ?_ (keep (SameB.of (same_new hu _)) (same_new hu _ _ _ h3) e2) (SameB.of (same_new hu _))⟩
    unfold nx
    rw [if_neg e1, if_neg e2, if_neg (dstr' c1)]
    exact ⟨u, rfl, .inl upd_same⟩
theorem ok_whole (c : Code K mg "is_whole" s_is_whole p_is_whole) (T : Tx K mg C st so si) : Good P w K mg base "is_whole" 1 p_is_whole spW := by
  refine c.good sc_is_whole (fun vs H Q E h => ?_) (fun f cdv A outer s H vs Q E hr h => ?_)
  · obtain ⟨i, rfl, _⟩ := h
    rfl
  obtain ⟨i, rfl, q⟩ := h
  refine ⟨_, (pss_one (ps_ret (pe_and (pe_callB call_isi rfl T.isinstance bt_isinstance (pa_cons (pv 0) (pa_cons (pe_bltn (v := .ty "int") rfl T.int bt_int rfl) pa_nil))) (pe_one (pe_not (pe_callB call_isi rfl T.isinstance bt_isinstance (pa_cons (pv 0) (pa_cons (pe_bltn (v := .ty "bool") rfl T.bool bt_bool rfl) pa_nil)))))))), ?_⟩
  exact ⟨_, rfl, isi_int True.intro ⟨_, rfl, iteT ⟨_, rfl, isi_bool rfl ⟨_, rfl, q⟩⟩⟩⟩
theorem ok_check {hc c0 c1 c2 c3 c4 c5 c6 c7 c8 c9 c10 c11 c12 : Addr} (c : CodeM K C "check_address" "Sounder.check_address" s_Sounder_check_address p_Sounder_check_address) (T : Tx K mg C st so si) (XE : Er K mg hc c0 c1 c2 c3 c4 c5 c6 c7 c8 c9 c10 c11 c12) (k_NoAddress : Knd K hc c5 [c0, c1, c2, c3, c4, c5, c6, c7, c8, c9, c10, c11, c12] 5) (g_is_whole : Good P w K mg base "is_whole" 1 p_is_whole spW) : GoodMX P w K mg base C "check_address" 2 p_Sounder_check_address (spChk C c5 K) := by
  refine c.goodX sc_Sounder_check_address (fun vs H Q E h => ?_) (fun X f cdv A outer s H vs Q E eX hx hr h => ?_)
  · obtain ⟨p, d1, d2, d3, d4, wa, n, a, dl, s, g, x, rfl, _⟩ := h
    rfl
  subst eX
  obtain ⟨p, d1, d2, d3, d4, wa, n, a, dl, s, g, x, rfl, ⟨⟨dx, hp⟩, h1, _, _, ap, few, n12, n13, n23⟩, q, qE⟩ := h
  refine ⟨_, (pss_one (ps_if (PW.pt (pw_or (pt_not (pt_val (pcall g_is_whole hr (pa_cons (pv 1) pa_nil)))) (pw_or1 (pt_cmp (pc_dnotin (hu_of hr) (pv 1) (pe_fld (pv 0) rfl)))))) (pss_one (ps_raise rfl k_NoAddress.xc rfl XE.nNoAddress hx (pa_cons pe_str pa_nil))) pss_nil)), ?_⟩
  by_cases hx' : ∃ i, i < n ∧ a i = x
  · obtain ⟨i, hi, rfl⟩ := hx'
    exact ⟨_, rfl, _, rfl, ⟨_, rfl, iteF ⟨_, rfl, _, rfl, p, C, dx, _, _, rfl, hp, T.cl, T.n_delays, get_delays d1 d2 d3 d4 wa, d1, _, rfl, .inl ⟨_, .inl (a i), h1, rfl, (dk_val ap hi).symm⟩, _, rfl, iteF (q ⟨i, hi, rfl⟩)⟩⟩⟩
  · have no : ∀ i, i < n → a i ≠ x := fun i hi e => hx' ⟨i, hi, e⟩
    exact ⟨_, rfl, _, rfl, ⟨_, rfl, iteF ⟨_, rfl, _, rfl, p, C, dx, _, _, rfl, hp, T.cl, T.n_delays, get_delays d1 d2 d3 d4 wa, d1, _, rfl, .inl ⟨_, .inl x, h1, rfl, (dk_none no).symm⟩, _, rfl, iteT ⟨leSize (by show 1 ≤ 1000; decide), qE no _ (Same.refl H)⟩⟩⟩⟩
theorem ok_state {ca : Addr} (c : CodeM K C "state_of" "Sounder.state_of" s_Sounder_state_of p_Sounder_state_of) (T : Tx K mg C st so si) (g_m_check_address : GoodMX P w K mg base C "check_address" 2 p_Sounder_check_address (spChk C ca K)) : GoodM P w K mg base C "state_of" 3 p_Sounder_state_of (spState C K) := by
  refine c.good sc_Sounder_state_of (fun vs H Q E h => ?_) (fun f cdv A outer s H vs Q E hr h => ?_)
  · obtain ⟨p, d1, d2, d3, d4, wa, n, a, dl, s, g, i, rfl, _⟩ := h
    rfl
  obtain ⟨p, d1, d2, d3, d4, wa, n, a, dl, s, g, i, rfl, hi, S, q⟩ := h
  refine ⟨_, (pss_cons (ps_expr (pmethX (pv 0) T.cl g_m_check_address hr passX0 (pa_cons (pv 1) pa_nil)))
  (pss_one (ps_ret (pe_dget (hu_of hr) (pe_fld (pv 0) rfl) (pv 1) (fun _ _ => rfl))))), ?_⟩
  have S' := S
  obtain ⟨⟨dx, hp⟩, h1, ⟨v, h2, hv⟩, _, ap, few, n12, n13, n23⟩ := S'
  refine ⟨_, rfl, p, dx, _, rfl, hp, fno (by decide +kernel), _, rfl, p, d1, d2, d3, d4, wa, n, a, dl, s, g, _, rfl, S, (fun _ => ?_), (fun no => absurd rfl (no i hi))⟩
  exact ⟨_, rfl, p, C, dx, _, _, rfl, hp, T.cl, T.n_standing, get_standing d1 d2 d3 d4 wa, _, rfl, d2, _, rfl, .inl ⟨_, .inl (a i), .inl h2, rfl, (dk_val ap hi).symm⟩, q _ (hv i hi)⟩
theorem ok_init (F : ∃ f fd, Fun K "__init__" "Sounder.__init__" s_Sounder___init__ f fd ∧ Mk K C f ∧ Binds K fd p_Sounder___init__ []) (T : Tx K mg C st so si) : GoodI P w K mg base C 1 p_Sounder___init__ (spInit C K) := by
  obtain ⟨f, fd, F, Mk, b⟩ := F
  refine ⟨f, fd, Mk, b, F.ok sc_Sounder___init__ (fun vs H Q E h => ?_) (fun cdv A outer s H vs Q E hr h => ?_)⟩
  · obtain ⟨p, dx, oa, n, a, dl, rfl, _⟩ := h
    rfl
  obtain ⟨p, dx, oa, n, a, dl, rfl, hp, ho, ap, few, q⟩ := h
  refine ⟨_, (pss_cons (ps_fldE (pv 0) (pe_dcomp (N' := ["address", "delay"]) rfl (CScope.plain rfl (by decide +kernel) (by decide +kernel) (by decide +kernel)) (pi_tup (pv 1)) (fun _ _ _ _ => (pg_tupK (K := K) (n := 2) rfl rfl (pgs_cons (pg_name (i := 0) (show List.Nodup (["address", "delay"] : List Str) by decide +kernel) rfl (Or.inl rfl)) (pgs_cons (pg_name (i := 1) (show List.Nodup (["address", "delay"] : List Str) by decide +kernel) rfl (Or.inl rfl)) pgs_nil)))) (fun _ _ _ _ => pf_nil) (fun _ _ _ _ => (pv 0)) (fun _ _ _ _ => (pv 1))) rfl)
  (pss_cons (ps_fldE (pv 0) (pe_dcomp (N' := ["address", "delay"]) rfl (CScope.plain rfl (by decide +kernel) (by decide +kernel) (by decide +kernel)) (pi_tup (pv 1)) (fun _ _ _ _ => (pg_tupK (K := K) (n := 2) rfl rfl (pgs_cons (pg_name (i := 0) (show List.Nodup (["address", "delay"] : List Str) by decide +kernel) rfl (Or.inl rfl)) (pgs_cons (pg_name (i := 1) (show List.Nodup (["address", "delay"] : List Str) by decide +kernel) rfl (Or.inl rfl)) pgs_nil)))) (fun _ _ _ _ => pf_nil) (fun _ _ _ _ => (pv 0)) (fun _ _ _ _ => (pe_cst rfl T.STILL))) rfl)
  (pss_cons (ps_fldE (pv 0) (pe_dcomp (N' := ["address", "delay"]) rfl (CScope.plain rfl (by decide +kernel) (by decide +kernel) (by decide +kernel)) (pi_tup (pv 1)) (fun _ _ _ _ => (pg_tupK (K := K) (n := 2) rfl rfl (pgs_cons (pg_name (i := 0) (show List.Nodup (["address", "delay"] : List Str) by decide +kernel) rfl (Or.inl rfl)) (pgs_cons (pg_name (i := 1) (show List.Nodup (["address", "delay"] : List Str) by decide +kernel) rfl (Or.inl rfl)) pgs_nil)))) (fun _ _ _ _ => pf_nil) (fun _ _ _ _ => (pv 0)) (fun _ _ _ _ => pe_bl)) rfl)
  (pss_cons (ps_fldE (pv 0) (pe_dcomp (N' := ["address", "delay"]) rfl (CScope.plain rfl (by decide +kernel) (by decide +kernel) (by decide +kernel)) (pi_tup (pv 1)) (fun _ _ _ _ => (pg_tupK (K := K) (n := 2) rfl rfl (pgs_cons (pg_name (i := 0) (show List.Nodup (["address", "delay"] : List Str) by decide +kernel) rfl (Or.inl rfl)) (pgs_cons (pg_name (i := 1) (show List.Nodup (["address", "delay"] : List Str) by decide +kernel) rfl (Or.inl rfl)) pgs_nil)))) (fun _ _ _ _ => pf_nil) (fun _ _ _ _ => (pv 0)) (fun _ _ _ _ => pe_int)) rfl)
  (pss_one (ps_fldE (pv 0) (pe_tup pa_nil) rfl)))))), ?_⟩
  have ntp : ∀ H' : Hp, (∃ o, H' p = some (.ins C dx o)) → ∀ o', H' p = some o' → isT o' = false := fun H' ⟨o, e⟩ => ntOf e
  refine ⟨_, rfl, oa, rfl, ⟨_, ho.choose_spec.1.sq⟩, fun d1 f1 => dcompO (fun j => .int (dl j)) ho ap few f1 (fun j HH R r => ⟨_, rfl, r⟩) ?_⟩
  have k1 := same_new f1 (.dK (dk n a fun j => .int (dl j)))
  have u1 : (upd H d1 (.dK (dk n a fun j => .int (dl j)))) d1 = _ := upd_same
  refine ⟨_, rfl, p, C, dx, _, _, rfl, k1 _ _ hp, T.cl, T.n_delays, (by show 0 < 1000; decide), fl_new (by show _ ∉ ([] : List Str); decide +kernel), fun H1 h1 s1 => ?_⟩
  have np1 : d1 ≠ p := fun z => by rw [z, hp] at f1; cases f1
  have ho1 := ho.tups ((TupF.of k1).trans (s1.tupF (ntp _ ⟨_, k1 _ _ hp⟩)))
  have u11 := s1 _ _ u1 np1
  have r1 : SameB p H H1 := (SameB.of k1).trans s1
  refine ⟨_, rfl, oa, rfl, ⟨_, ho1.choose_spec.1.sq⟩, fun d2 f2 => dcompO (fun _ => .ref st) ho1 ap few f2 (fun j HH R r => r) ?_⟩
  have k2 := same_new f2 (.dK (dk n a fun _ => .ref st))
  have u2 : (upd H1 d2 (.dK (dk n a fun _ => .ref st))) d2 = _ := upd_same
  refine ⟨_, rfl, p, C, dx, _, _, rfl, k2 _ _ h1, T.cl, T.n_standing, (by show 1 < 1000; decide), fl_new (by show _ ∉ (["delays"] : List Str); decide +kernel), fun H2 h2 s2 => ?_⟩
  have np2 : d2 ≠ p := fun z => by rw [z, h1] at f2; cases f2
  have ho2 := ho1.tups ((TupF.of k2).trans (s2.tupF (ntp _ ⟨_, k2 _ _ h1⟩)))
  have u12 := s2 _ _ (k2 _ _ u11) np1
  have u22 := s2 _ _ u2 np2
  have r2 : SameB p H1 H2 := (SameB.of k2).trans s2
  refine ⟨_, rfl, oa, rfl, ⟨_, ho2.choose_spec.1.sq⟩, fun d3 f3 => dcompO (fun _ => .bl false) ho2 ap few f3 (fun j HH R r => r) ?_⟩
  have k3 := same_new f3 (.dK (dk n a fun _ => .bl false))
  have u3 : (upd H2 d3 (.dK (dk n a fun _ => .bl false))) d3 = _ := upd_same
  refine ⟨_, rfl, p, C, dx, _, _, rfl, k3 _ _ h2, T.cl, T.n_lengthened, (by show 2 < 1000; decide), fl_new (by show _ ∉ (["delays", "standing"] : List Str); decide +kernel), fun H3 h3 s3 => ?_⟩
  have np3 : d3 ≠ p := fun z => by rw [z, h2] at f3; cases f3
  have ho3 := ho2.tups ((TupF.of k3).trans (s3.tupF (ntp _ ⟨_, k3 _ _ h2⟩)))
  have u13 := s3 _ _ (k3 _ _ u12) np1
  have u23 := s3 _ _ (k3 _ _ u22) np2
  have u33 := s3 _ _ u3 np3
  have r3 : SameB p H2 H3 := (SameB.of k3).trans s3
  refine ⟨_, rfl, oa, rfl, ⟨_, ho3.choose_spec.1.sq⟩, fun d4 f4 => dcompO zer ho3 ap few f4 (fun j HH R r => r) ?_⟩
  have k4 := same_new f4 (.dK (dk n a zer))
  have u4 : (upd H3 d4 (.dK (dk n a zer))) d4 = _ := upd_same
  refine ⟨_, rfl, p, C, dx, _, _, rfl, k4 _ _ h3, T.cl, T.n_unused, (by show 3 < 1000; decide), fl_new (by show _ ∉ (["delays", "standing", "lengthened"] : List Str); decide +kernel), fun H4 h4 s4 => ?_⟩
  have np4 : d4 ≠ p := fun z => by rw [z, h3] at f4; cases f4
  have u14 := s4 _ _ (k4 _ _ u13) np1
  have u24 := s4 _ _ (k4 _ _ u23) np2
  have u34 := s4 _ _ (k4 _ _ u33) np3
  have u44 := s4 _ _ u4 np4
  have r4 : SameB p H3 H4 := (SameB.of k4).trans s4
  refine ⟨Nat.zero_le _, fun wa fw => ?_⟩
  have k5 := same_new fw (.tup [])
  have u5 : (upd H4 wa (.tup [])) wa = _ := upd_same
  refine ⟨_, rfl, p, C, dx, _, _, rfl, k5 _ _ h4, T.cl, T.n_wanted, (by show 4 < 1000; decide), fl_new (by show _ ∉ (["delays", "standing", "lengthened", "unused"] : List Str); decide +kernel), fun H5 h5 s5 => ?_⟩
  have npw : wa ≠ p := fun z => by rw [z, h4] at fw; cases fw
  have u15 := s5 _ _ (k5 _ _ u14) np1
  have u25 := s5 _ _ (k5 _ _ u24) np2
  have u35 := s5 _ _ (k5 _ _ u34) np3
  have u45 := s5 _ _ (k5 _ _ u44) np4
  have u55 := s5 _ _ u5 npw
  have r5 : SameB p H4 H5 := (SameB.of k5).trans s5
  have r12 := r1.trans r2
  have r123 := r12.trans r3
  have r1234 := r123.trans r4
  refine q d1 d2 d3 d4 wa H5 f1 (r1.free ⟨_, h1⟩ f2) (r12.free ⟨_, h2⟩ f3) (r123.free ⟨_, h3⟩ f4) (r1234.free ⟨_, h4⟩ fw) ⟨⟨dx, h5⟩, .inl u15, ⟨_, u25, fun j _ => ⟨st, rfl, .inr T.still⟩⟩, u35, ap, few, ?_, ?_, ?_⟩ u15 u45 u55 ?_ ?_ ?_ (r1234.trans r5)
  · exact ne_of_none u11 f2
  · exact ne_of_none u12 f3
  · exact ne_of_none u22 f3
  · exact (ne_of_none u13 f4).symm
  · exact (ne_of_none u23 f4).symm
  · exact (ne_of_none u33 f4).symm
theorem ok_count (c : CodeM K C "count_unused" "Sounder.count_unused" s_Sounder_count_unused p_Sounder_count_unused) (T : Tx K mg C st so si) : GoodM P w K mg base C "count_unused" 1 p_Sounder_count_unused (spCount C) := by
  refine c.good sc_Sounder_count_unused (fun vs H Q E h => ?_) (fun f cdv A outer s H vs Q E hr h => ?_)
  · obtain ⟨p, dx, d1, d2, d3, d4, wa, n, a, u, rfl, _⟩ := h
    rfl
  obtain ⟨p, dx, d1, d2, d3, d4, wa, n, a, u, rfl, hp, h4, ap, few, q⟩ := h
  refine ⟨_, (pss_cons (ps_thaw rfl (ps_setC (i := 1) sc_Sounder_count_unused.nd rfl (Or.inl rfl) (N' := ["address", "beats"]) rfl (CScope.plain rfl (by decide +kernel) (by decide +kernel) (by decide +kernel)) (pi_items (pe_fld (pv 0) rfl)) (fun _ _ _ _ => (pg_tupK (K := K) (n := 2) rfl rfl (pgs_cons (pg_name (i := 0) (show List.Nodup (["address", "beats"] : List Str) by decide +kernel) rfl (Or.inl rfl)) (pgs_cons (pg_name (i := 1) (show List.Nodup (["address", "beats"] : List Str) by decide +kernel) rfl (Or.inl rfl)) pgs_nil)))) (fun _ _ _ _ => (pf_one (pt_cmpR op_eq (pv 1) pe_int (nomark _)))) (fun _ _ _ _ => (pv 0))))
  (pss_cons (ps_fldE (pv 0) (pe_thaw rfl (pe_dcomp (N' := ["address", "beats"]) rfl (CScope.plain rfl (by decide +kernel) (by decide +kernel) (by decide +kernel)) (pi_items (pe_fld (pv 0) rfl)) (fun _ _ _ _ => (pg_tupK (K := K) (n := 2) rfl rfl (pgs_cons (pg_name (i := 0) (show List.Nodup (["address", "beats"] : List Str) by decide +kernel) rfl (Or.inl rfl)) (pgs_cons (pg_name (i := 1) (show List.Nodup (["address", "beats"] : List Str) by decide +kernel) rfl (Or.inl rfl)) pgs_nil)))) (fun _ _ _ _ => pf_nil) (fun _ _ _ _ => (pv 0)) (fun _ _ _ _ => (pe_callB (call_max2 rfl) rfl T.max bt_max (pa_cons pe_int (pa_cons (pe_op op_sub (pv 1) pe_int) pa_nil)))))) rfl)
  (pss_one (ps_ret (pe_comp (N' := ["address"]) rfl (CScope.plain rfl (by decide +kernel) (by decide +kernel) (by decide +kernel)) (pi_list (pv 1)) (fun _ _ _ _ => (pg_name (i := 0) (show List.Nodup (["address"] : List Str) by decide +kernel) rfl (Or.inl rfl))) (fun _ _ _ _ => pf_nil) (fun _ _ _ _ => (pe_tup (pa_cons pe_str (pa_cons (pv 0) pa_nil))))))))), ?_⟩
  have np : p ≠ d4 := fun z => by rw [z, h4] at hp; cases hp
  have nfz : ∀ o' u, H d4 ≠ some (.frz o' u) := fun o' u z => by rw [h4] at z; cases z
  refine ⟨_, rfl, p, C, dx, _, _, rfl, hp, T.cl, T.n_unused, get_unused d1 d2 d3 d4 wa, d4, _, rfl, h4, fun o l hl => ?_⟩
  refine comp_di (fun i σ HH => (∃ u' v, σ = [u', v]) ∧ HH l = some (.lst (intsV (sel i a (one u)))) ∧ SameB l (upd (upd H d4 (.frz o (.dK (dk n a (unV u))))) l (.lst [])) HH) ⟨⟨none, none, rfl⟩, upd_same, SameB.refl _ _⟩ (fun i σ HH _ h => ?_) (fun i kv t σ HH hx h ft => ?_) (fun σ HH h => ?_)
  · exact h.2.2 _ _ (same_new hl _ _ _ upd_same) (fun z => by rw [← z, upd_same] at hl; cases hl)
  · obtain ⟨⟨u', v, rfl⟩, hl1, sm⟩ := h
    obtain ⟨hi, rfl⟩ := dk_at hx
    have kt := same_new ft (.tup [kV (.inl (a i)), unV u i])
    refine ⟨t, _, rfl, SqT.of upd_same, rfl, _, _, rfl, _, _, rfl, rfl, ?_⟩
    refine ⟨_, rfl, rfl, _, rfl, ite2 (fun c1 => ?_) (fun c1 => ?_)⟩
    · have c1 : one u i = true := c1
      refine ⟨_, rfl, _, kt _ _ hl1, ?_, ⟨_, _, rfl⟩, ?_, sm.trans ((SameB.of kt).trans SameB.upd)⟩
      · have := sel_len i a (one u)
        rw [intsV_len]; exact small1000 (by omega)
      · rw [upd_same, sel_succ, if_pos c1, ← intsV_snoc]
        rfl
    · have c1 : ¬ one u i = true := c1
      refine ⟨⟨_, _, rfl⟩, ?_, sm.trans (SameB.of kt)⟩
      rw [sel_succ, if_neg c1, List.append_nil]
      exact kt _ _ hl1
  obtain ⟨_, hl1, sm'⟩ := h
  rw [dk_len] at hl1
  have nl : l ≠ d4 := fun z => by rw [z, upd_same] at hl; cases hl
  have fl0 : H l = none := by rw [upd_ne nl] at hl; exact hl
  have sm : Same (upd H d4 (.frz o (.dK (dk n a (unV u))))) HH := fun y x e => sm' _ _ (same_new hl _ _ _ e) fun z => by rw [z, hl] at e; cases e
  refine ⟨d4, o, dk n a (unV u), sm _ _ upd_same, nfz, ?_⟩
  have sT := thaw_same sm h4
  have lT : (upd HH d4 (.dK (dk n a (unV u)))) l = some (.lst (intsV (sel n a (one u)))) := by rw [upd_ne nl]; exact hl1
  generalize upd HH d4 (.dK (dk n a (unV u))) = HT at sT lT ⊢
  clear sm sm' hl1
  refine ⟨_, rfl, p, C, dx, _, _, rfl, sT _ _ hp, T.cl, T.n_unused, get_unused d1 d2 d3 d4 wa, d4, _, rfl, sT _ _ h4, fun o2 d hd => ?_⟩
  refine dcomp_di (fun i σ HH => (∃ u' v, σ = [u', v]) ∧ HH d = some (.dK (dk i a (unV (dec u)))) ∧ Same (upd HT d4 (.frz o2 (.dK (dk n a (unV u))))) HH) ⟨⟨none, none, rfl⟩, upd_same, same_new hd _⟩ (fun i σ HH _ h => h.2.2 _ _ upd_same) (fun i kv t σ HH hx h ft => ?_) (fun σ HH h => ?_)
  · obtain ⟨⟨u', v, rfl⟩, hd1, sm⟩ := h
    obtain ⟨hi, rfl⟩ := dk_at hx
    have nd : d ≠ t := ne_of_none hd1 ft
    refine ⟨t, _, rfl, SqT.of upd_same, rfl, _, _, rfl, _, _, rfl, rfl, iteT ⟨_, rfl, _, rfl, _, _, rfl, rfl, _, _, rfl, _, .inl (a i), same_new ft _ _ _ hd1, rfl, ?_, ⟨_, _, rfl⟩, ?_, ?_⟩⟩
    · rw [dk_len]; exact small1000 (by omega)
    · rw [upd_same]
      show some (HO.dK (putK (dk i a (unV (dec u))) (.inl (a i)) (unV (dec u) i))) = _
      rw [dk_new ap hi]
    · intro c x e
      have nc : c ≠ d := fun z => by rw [z, hd] at e; cases e
      rw [upd_ne nc]
      exact same_new ft _ _ _ (sm _ _ e)
  obtain ⟨_, hd1, sm⟩ := h
  rw [dk_len] at hd1
  refine ⟨d4, o2, dk n a (unV u), sm _ _ upd_same, nfz, ?_⟩
  have nd : d ≠ d4 := fun z => by rw [z, upd_same] at hd; cases hd
  have fd0 : H d = none := by rw [upd_ne nd] at hd; exact sT.free hd
  have nld : l ≠ d := fun z => by rw [upd_ne nd, ← z, lT] at hd; cases hd
  have sU := thaw_same sm (sT _ _ h4)
  have dU : (upd HH d4 (.dK (dk n a (unV u)))) d = some (.dK (dk n a (unV (dec u)))) := by rw [upd_ne nd]; exact hd1
  generalize upd HH d4 (.dK (dk n a (unV u))) = HU at sU dU ⊢
  clear sm hd1
  have sHU := sT.trans sU
  have npd : d ≠ p := fun z => by rw [z, hp] at fd0; cases fd0
  have npl : l ≠ p := fun z => by rw [z, hp] at fl0; cases fl0
  refine ⟨_, rfl, p, C, dx, _, _, rfl, sHU _ _ hp, T.cl, T.n_unused, fl_len d1 d2 d3 d4 wa, put_unused d1 d2 d3 d4 wa d, fun H3 h3 s3 => ?_⟩
  have l3 := s3 _ _ (sU _ _ lT) npl
  have dd3 := s3 _ _ dU npd
  have r3 : SameB p H H3 := (SameB.of sHU).trans s3
  refine ⟨_, rfl, l, rfl, ⟨_, SqL.of l3⟩, fun r hr => ?_⟩
  have kr := same_new hr (.lst [])
  have nlr : l ≠ r := ne_of_none l3 hr
  refine comp_list (xs := intsV (sel n a (one u))) (fun i σ HH => (∃ u', σ = [u']) ∧ (∃ tv, HH r = some (.lst tv) ∧ Paired (EvAt HH) tv (((sel n a (one u)).take i).map usE)) ∧ SameB r (upd H3 r (.lst [])) HH) ⟨⟨none, rfl⟩, ⟨[], upd_same, .nil⟩, SameB.refl _ _⟩ (fun i σ HH _ h => ?_) (fun i x σ HH hx h => ?_) (fun σ HH h => ?_)
  · exact SqL.of (h.2.2 _ _ (kr _ _ l3) nlr)
  · obtain ⟨⟨u', rfl⟩, ⟨tv, hr1, ptv⟩, sm⟩ := h
    unfold intsV at hx
    rw [List.getElem?_map] at hx
    obtain ⟨y, hy, rfl⟩ := Option.map_eq_some_iff.mp hx
    unfold gName
    dsimp only
    refine iteT ?_
    refine ⟨_, rfl, leSize (by show 2 ≤ 1000; decide), fun t ht => ?_⟩
    have kt := same_new ht (.tup [.str "used", .int y])
    have ut : (upd HH t (.tup [.str "used", .int y])) t = some (.tup [.str "used", .int y]) := upd_same
    generalize upd HH t (.tup [.str "used", .int y]) = HW at kt ut ⊢
    have k2 : SameB r HW (upd HW r (.lst (tv ++ [.ref t]))) := SameB.upd
    have t2 := k2.tupF (ntOf (kt _ _ hr1))
    refine ⟨tv, kt _ _ hr1, ?_, ⟨_, rfl⟩, ⟨_, upd_same, ?_⟩, sm.trans ((SameB.of kt).trans k2)⟩
    · rw [Paired.length ptv, List.length_map, List.length_take]
      have := sel_len n a (one u)
      exact small1000 (by omega)
    · rw [List.take_add_one, hy, List.map_append]
      exact Paired.snoc (Evs.tups ptv ((TupF.of kt).trans t2)) ⟨t, rfl, t2 _ _ ut⟩
  · obtain ⟨_, ⟨tv, hr1, ptv⟩, sm⟩ := h
    rw [intsV_len, List.take_length] at ptv
    have s4 : Same H3 HH := fun y x e => sm _ _ (kr _ _ e) fun z => by rw [z, hr] at e; cases e
    exact q r d tv HH (r3.free ⟨_, h3⟩ hr) fd0 hr1 ptv (s4 _ _ dd3) (s4 _ _ h3) (r3.trans (SameB.of s4))
end
end K33

set_option Elab.async false
set_option linter.all false
set_option maxRecDepth 100000
set_option pp.maxSteps 300
set_option maxHeartbeats 1000000
namespace K33
open PySem L2
abbrev s_Sounder_beat : Stmt := (inClass (top 11) 1)
abbrev p_Sounder_beat : List Str := ["self", "wanted"]
theorem sc_Sounder_beat : FnScope ["self", "wanted", "has_new", "told", "address", "how"] p_Sounder_beat (defScope s_Sounder_beat) := ⟨rfl, rfl, rfl, by decide +kernel, rfl, by decide +kernel, by decide +kernel⟩
def newB (ws ws' : List Int) : List Bool := ws'.map fun x => !inV (.int x) (intsV ws)
/-- some wanted address was not wanted ahead -/
def hasNew (ws ws' : List Int) : Bool := (newB ws ws').any id
def nxt (a dl : Nat → Int) (ws ws' : List Int) (s : Nat → Sta) : Nat → Sta := fun j => nx (dl j) (inV (.int (a j)) (intsV ws')) (hasNew ws ws') (s j)
def nxg (a : Nat → Int) (ws' : List Int) (s : Nat → Sta) (g : Nat → Bool) : Nat → Bool := fun j => if (s j).1 = "still" ∧ inV (.int (a j)) (intsV ws') = true then false else g j
theorem ng_step {a : Nat → Int} {ws' : List Int} {s : Nat → Sta} {g : Nat → Bool} {i : Nat} : ng (fun j => if j < i then nxg a ws' s g j else g j) i (inV (.int (a i)) (intsV ws')) (s i) = fun j => if j < i + 1 then nxg a ws' s g j else g j := by
  funext j
  unfold ng
  by_cases c : (s i).1 = "still" ∧ inV (.int (a i)) (intsV ws') = true
  · rw [if_pos c]
    unfold upF
    by_cases e : j = i
    · rw [if_pos e, if_pos (by omega), e]
      unfold nxg
      rw [if_pos c]
    · rw [if_neg e]
      show (if j < i then nxg a ws' s g j else g j) = _
      by_cases e2 : j < i
      · rw [if_pos e2, if_pos (by omega)]
      · rw [if_neg e2, if_neg (by omega)]
  · rw [if_neg c]
    show (if j < i then nxg a ws' s g j else g j) = _
    by_cases e : j = i
    · rw [e, if_neg (Nat.lt_irrefl i), if_pos (Nat.lt_succ_self i)]
      unfold nxg
      rw [if_neg c]
    · by_cases e2 : j < i
      · rw [if_pos e2, if_pos (by omega)]
      · rw [if_neg e2, if_neg (by omega)]
def evs (a : Nat → Int) (s s' : Nat → Sta) (i : Nat) : List Ev := (List.range i).flatMap fun j => if (s' j).1 = (s j).1 then [] else [((s' j).1, a j)]
theorem evs_succ (a : Nat → Int) (s s' : Nat → Sta) (i : Nat) : evs a s s' (i + 1) = evs a s s' i ++ (if (s' i).1 = (s i).1 then [] else [((s' i).1, a i)]) := by
  unfold evs
  rw [List.range_succ, List.flatMap_append]
  simp
theorem evs_len (a : Nat → Int) (s s' : Nat → Sta) : ∀ i, (evs a s s' i).length ≤ i
  | 0 => Nat.le_refl _
  | i + 1 => by
    have := evs_len a s s' i
    rw [evs_succ, List.length_append]
    split
    · show _ + 0 ≤ _; omega
    · show _ + 1 ≤ _; omega
/-- all that is there but these -/
def SameX (cs : List Addr) (H H' : Hp) : Prop := ∀ p o, H p = some o → p ∉ cs → H' p = some o
theorem SameX.refl (cs : List Addr) (H : Hp) : SameX cs H H := fun _ _ e _ => e
theorem SameX.trans {cs : List Addr} {H H1 H2 : Hp} (x : SameX cs H H1) (y : SameX cs H1 H2) : SameX cs H H2 := fun p o e n => y p o (x p o e n) n
theorem SameX.of {cs : List Addr} {H H1 : Hp} (x : Same H H1) : SameX cs H H1 := fun p o e _ => x p o e
theorem SameX.ofB {cs : List Addr} {b : Addr} {H H1 : Hp} (x : SameB b H H1) (h : b ∈ cs) : SameX cs H H1 := fun p o e n => x p o e fun z => n (by rw [z]; exact h)
theorem SameX.sub {cs ds : List Addr} {H H1 : Hp} (x : SameX cs H H1) (h : ∀ c ∈ cs, c ∈ ds) : SameX ds H H1 := fun p o e n => x p o e fun z => n (h p z)
theorem SameX.drop {c : Addr} {cs : List Addr} {H H1 : Hp} (x : SameX (c :: cs) H H1) (h : H c = none) : SameX cs H H1 := fun p o e n => x p o e fun z => by
  rcases List.mem_cons.mp z with z | z
  · rw [z, h] at e; cases e
  · exact n z
theorem SameX.tupF {cs : List Addr} {H H1 : Hp} (x : SameX cs H H1) (h : ∀ c ∈ cs, ∀ o, H c = some o → isT o = false) : TupF H H1 :=
  ⟨fun c xs e => x c _ e fun z => (by have q := h c z _ e; cases q), fun c o xs e => x c _ e fun z => (by have q := h c z _ e; cases q)⟩
theorem SameX.free {cs : List Addr} {H H1 : Hp} (x : SameX cs H H1) (h : ∀ c ∈ cs, ∃ o, H1 c = some o) {l : Addr} (hl : H1 l = none) : H l = none := by
  cases e : H l with
  | none => rfl
  | some o =>
    by_cases n : l ∈ cs
    · obtain ⟨o', e'⟩ := h l n
      rw [e'] at hl; cases hl
    · rw [x l o e n] at hl; cases hl
theorem SdR.mv {C : Addr} {K : PySem.W.Frag} {H H' : Hp} {p d1 d2 d3 d4 wa : Addr} {n : Nat} {a dl : Nat → Int} {s : Nat → Sta} {g : Nat → Bool} (R : SdR C K H p d1 d2 d3 d4 wa n a dl s g) (k : ∀ c, c = p ∨ c = d1 ∨ c = d2 ∨ c = d3 → ∀ o, H c = some o → H' c = some o) (t : TupF H H') : SdR C K H' p d1 d2 d3 d4 wa n a dl s g := by
  obtain ⟨⟨dx, hp⟩, h1, ⟨v, h2, hv⟩, h3, ap, few, n12, n13, n23⟩ := R
  exact ⟨⟨dx, k _ (.inl rfl) _ hp⟩, rd_tup h1 (k _ (.inr (.inl rfl))), ⟨v, k _ (.inr (.inr (.inl rfl))) _ h2, fun j hj => (hv j hj).tups t⟩, k _ (.inr (.inr (.inr rfl))) _ h3, ap, few, n12, n13, n23⟩
def delV (dl : Nat → Int) : Nat → V := fun j => .int (dl j)
structure Sd (C : Addr) (K : PySem.W.Frag) (H : Hp) (p d1 d2 d3 d4 wa : Addr) (n : Nat) (a dl : Nat → Int) (s : Nat → Sta) (g : Nat → Bool) (ws : List Int) : Prop where
  r : SdR C K H p d1 d2 d3 d4 wa n a dl s g
  del : H d1 = some (.dK (dk n a (delV dl)))
  un : ∃ x, H d4 = some (.dK x)
  wan : H wa = some (.tup (intsV ws))
  n41 : d4 ≠ d1
  n42 : d4 ≠ d2
  n43 : d4 ≠ d3
def spBeat (C : Addr) (K : PySem.W.Frag) : Sp := fun vs H Q _ => ∃ p d1 d2 d3 d4 wa n a dl s g ws u wb ws', vs = [.ref p, .ref wb] ∧ Sd C K H p d1 d2 d3 d4 wa n a dl s g ws ∧ H d4 = some (.dK (dk n a (unV u))) ∧ H wb = some (.tup (intsV ws')) ∧ ws'.length ≤ 100 ∧
  ∀ t d tv H', H t = none → H d = none → H' t = some (.lst tv) → Paired (EvAt H') tv (evs a s (nxt a dl ws ws' s) n ++ usd n a u) → Sd C K H' p d1 d2 d3 d wb n a dl (nxt a dl ws ws' s) (nxg a ws' s g) ws' → H' d = some (.dK (dk n a (unV (dec u)))) → SameX [p, d2, d3] H H' → Q (.ref t) H'
section
variable {P : Program} {w : World} {K : PySem.W.Frag} {mg : Str → Option Value} {base : Heap} {C st so si : Addr}
theorem ok_beat (c : CodeM K C "beat" "Sounder.beat" s_Sounder_beat p_Sounder_beat) (T : Tx K mg C st so si) (g_m_next_of : GoodM P w K mg base C "next_of" 2 p_Sounder_next_of (spNext C K)) (g_m_count_unused : GoodM P w K mg base C "count_unused" 1 p_Sounder_count_unused (spCount C)) : GoodM P w K mg base C "beat" 3 p_Sounder_beat (spBeat C K) := by
  refine c.good sc_Sounder_beat (fun vs H Q E h => ?_) (fun f cdv A outer s H vs Q E hr h => ?_)
  · obtain ⟨p, d1, d2, d3, d4, wa, n, a, dl, s, g, ws, u, wb, ws', rfl, _⟩ := h
    rfl
  obtain ⟨p, d1, d2, d3, d4, wa, n, a, dl, s, g, ws, u, wb, ws', rfl, ⟨R, h1, _, hwa, n41, n42, n43⟩, h4, hwb, lw, q⟩ := h
  refine ⟨_, (pss_cons (ps_set (i := 2) sc_Sounder_beat.nd rfl (Or.inl rfl) (pe_callB (call_any rfl) rfl T.any bt_any (pa_cons (pe_comp (N' := ["address", "self"]) rfl (CScope.of (src := [none, some 0]) (defScope s_Sounder_beat) ["self", "wanted", "has_new", "told", "address", "how"] rfl rfl rfl (by decide +kernel) (by decide +kernel) (by decide +kernel) rfl (by decide +kernel)) (pi_tup (pv 1)) (fun _ _ _ _ => (pg_name (i := 0) (show List.Nodup (["address", "self"] : List Str) by decide +kernel) rfl (Or.inl rfl))) (fun _ _ _ _ => pf_nil) (fun _ _ _ _ => (pe_cmpR (op_notIn_seqK (K := K) rfl) (pv 0) (pe_fldK (K := K) rfl (pv 1) rfl) (by with_unfolding_all rfl)))) pa_nil)))
  (pss_cons (ps_set (i := 3) sc_Sounder_beat.nd rfl (Or.inl rfl) (pe_lst pa_nil))
  (pss_cons (ps_thaw rfl (ps_for PassesOwn.never rfl (pi_dict (pe_fld (pv 0) rfl)) (pg_name (i := 4) sc_Sounder_beat.nd rfl (Or.inl rfl))
  (pss_cons (ps_set (i := 5) sc_Sounder_beat.nd rfl (Or.inl rfl) (pe_ix ix_tup (pe_dget (hu_of hr) (pe_fld (pv 0) rfl) (pv 4) (fun _ _ => rfl)) pe_int (fun _ _ => rfl)))
  (pss_cons (ps_dput (hu_of hr) (pe_fld (pv 0) rfl) (pv 4) (pmeth (pv 0) T.cl g_m_next_of hr (pa_cons (pv 4) (pa_cons (pe_cmpR op_in_seq (pv 4) (pv 1) (by with_unfolding_all rfl)) (pa_cons (pv 2) pa_nil)))) rfl)
  (pss_one (ps_if (pt_cmpR op_ne (pe_ix ix_tup (pe_dget (hu_of hr) (pe_fld (pv 0) rfl) (pv 4) (fun _ _ => rfl)) pe_int (fun _ _ => rfl)) (pv 5) (nomark _)) (pss_one (ps_expr (pe_bm PySem.F.plainAttrs_list PySem.F.slot_list_append PySem.F.type_list_append mt_append (pv 3) (pa_cons (pe_tup (pa_cons (pe_ix ix_tup (pe_dget (hu_of hr) (pe_fld (pv 0) rfl) (pv 4) (fun _ _ => rfl)) pe_int (fun _ _ => rfl)) (pa_cons (pv 4) pa_nil))) pa_nil)))) pss_nil))))))
  (pss_cons (ps_fldE (pv 0) (pe_callTy call_tuple_of rfl T.tuple bt_tuple (pa_cons (pv 1) pa_nil)) rfl)
  (pss_one (ps_ret (pe_op op_cat (pv 3) (pmeth0 (pv 0) T.cl g_m_count_unused hr)))))))), ?_⟩
  obtain ⟨⟨dx, hp⟩, _, ⟨v2, h2, hv⟩, h3, ap, few, n12, n13, n23⟩ := id R
  -- has_new
  refine ⟨_, rfl, wb, rfl, ⟨_, SqT.of hwb⟩, fun l hl => ?_⟩
  have kl := fun o => same_new hl o
  refine comp_tup (xs := intsV ws') (fun i σ HH => (∃ u, σ = [u, some (.ref p)]) ∧ HH = upd H l (.lst ((newB ws (ws'.take i)).map V.bl))) ⟨⟨none, rfl⟩, rfl⟩ (fun i σ HH _ h => ?_) (fun i x σ HH hx h => ?_) (fun σ HH h => ?_)
  · obtain ⟨_, rfl⟩ := h
    exact SqT.of (kl _ _ _ hwb)
  · obtain ⟨⟨u, rfl⟩, rfl⟩ := h
    unfold intsV at hx
    rw [List.getElem?_map] at hx
    obtain ⟨y, hy, rfl⟩ := Option.map_eq_some_iff.mp hx
    show tOp (rIn K true) (tVar 0) (tFld K (tVar 1) "wanted") _ _ _
    refine ⟨_, rfl, _, rfl, p, C, dx, _, _, rfl, kl _ _ _ hp, T.cl, T.n_wanted, get_wanted d1 d2 d3 d4 wa, wa, _, rfl, .inr (SqT.of (kl _ _ _ hwa)), rfl, intsV_flat ws, _, upd_same, ?_, ⟨_, rfl⟩, ?_⟩
    · rw [List.length_map]
      unfold newB
      rw [List.length_map, List.length_take]
      exact small1000 (by omega)
    · rw [upd_upd]
      unfold newB
      rw [List.take_add_one, hy, List.map_append, List.map_append]
      rfl
  obtain ⟨_, rfl⟩ := h
  have e0 : intsV ws' = ws'.map V.int := rfl
  rw [e0, List.length_map, List.take_length]
  refine ⟨l, newB ws ws', rfl, SqL.of upd_same, ?_⟩
  simp only [List.set_cons_succ, List.set_cons_zero]
  have s0 := kl (.lst ((newB ws ws').map V.bl))
  generalize upd H l (.lst ((newB ws ws').map V.bl)) = H0 at s0 ⊢
  show tSeq _ _ _ _ _
  -- told
  refine ⟨Nat.zero_le _, fun lt hlt => ?_⟩
  simp only [List.set_cons_succ, List.set_cons_zero]
  have s1 : Same H (upd H0 lt (.lst [])) := s0.trans (same_new hlt _)
  have flt : H lt = none := s0.free hlt
  have ut : (upd H0 lt (.lst [])) lt = some (.lst []) := upd_same
  generalize upd H0 lt (.lst []) = H1 at s1 ut ⊢
  have hp1 := s1 _ _ hp
  have h11 := s1 _ _ h1
  have h21 := s1 _ _ h2
  have h31 := s1 _ _ h3
  have h41 := s1 _ _ h4
  have hwb1 := s1 _ _ hwb
  have hv1 : ∀ j, j < n → StAt K H1 (v2 j) (s j) := fun j hj => (hv j hj).tups (TupF.of s1)
  refine ⟨_, rfl, p, C, dx, _, _, rfl, hp1, T.cl, T.n_delays, get_delays d1 d2 d3 d4 wa, d1, _, rfl, h11, fun o => ?_⟩
  have np1 : p ≠ d1 := fun z => by rw [z, h1] at hp; cases hp
  have np2 : p ≠ d2 := fun z => by rw [z, h2] at hp; cases hp
  have np3 : p ≠ d3 := fun z => by rw [z, h3] at hp; cases hp
  have np4 : p ≠ d4 := fun z => by rw [z, h4] at hp; cases hp
  have nl1 : lt ≠ d1 := (ne_of_none h1 flt).symm
  have nl2 : lt ≠ d2 := (ne_of_none h2 flt).symm
  have nl3 : lt ≠ d3 := (ne_of_none h3 flt).symm
  have nlp : lt ≠ p := (ne_of_none hp flt).symm
  refine for_dk (fun i σ HH => (∃ u4 u5, σ = [some (.ref p), some (.ref wb), some (.bl (hasNew ws ws')), some (.ref lt), u4, u5]) ∧ HH d1 = some (.frz o (.dK (dk n a (delV dl)))) ∧ SdR C K HH p d1 d2 d3 d4 wa n a dl (fun j => if j < i then nxt a dl ws ws' s j else s j) (fun j => if j < i then nxg a ws' s g j else g j) ∧
      (∃ tv, HH lt = some (.lst tv) ∧ Paired (EvAt HH) tv (evs a s (nxt a dl ws ws' s) i)) ∧ SameX [d2, d3, lt] (upd H1 d1 (.frz o (.dK (dk n a (delV dl))))) HH) ⟨⟨_, _, rfl⟩, upd_same, ?_, ⟨[], ?_, .nil⟩, SameX.refl _ _⟩ (fun i σ HH _ h => h.2.1) (fun i kv σ HH hx h => ?_) (fun σ HH h => ?_)
  · refine ⟨⟨dx, by rw [upd_ne np1]; exact hp1⟩, .inr ⟨o, upd_same⟩, ⟨v2, by rw [upd_ne n12.symm]; exact h21, fun j hj => ?_⟩, (by rw [upd_ne n13.symm]; exact h31), ap, few, n12, n13, n23⟩
    show StAt K _ (v2 j) (if j < 0 then _ else s j)
    rw [if_neg (Nat.not_lt_zero j)]
    exact (hv1 j hj).tups (TupF.upd (ntOf (h11)))
  · rw [upd_ne nl1]; exact ut
  · obtain ⟨⟨u4, u5, rfl⟩, hd1, RR, ⟨tv, htv, ptv⟩, sx⟩ := h
    obtain ⟨hi, rfl⟩ := dk_at hx
    simp only [List.set_cons_succ, List.set_cons_zero]
    obtain ⟨⟨dx', hpH⟩, _, ⟨v, h2H, hvH⟩, h3H, _, _, _, _, _⟩ := id RR
    have hsi := hvH i hi
    have esi : (if i < i then nxt a dl ws ws' s i else s i) = s i := if_neg (Nat.lt_irrefl i)
    rw [esi] at hsi
    obtain ⟨t, et, ht⟩ := hsi.sq
    have np2' := np2
    refine ⟨_, rfl, p, C, dx', _, _, rfl, hpH, T.cl, T.n_standing, get_standing d1 d2 d3 d4 wa, _, rfl, d2, _, rfl, .inl ⟨_, .inl (a i), .inl h2H, rfl, (dk_val ap hi).symm⟩, t, _, _, _, et, rfl, ht, rfl, ?_⟩
    simp only [List.set_cons_succ, List.set_cons_zero]
    have hwbH : HH wb = some (.tup (intsV ws')) := sx _ _ (by rw [upd_ne (fun z => by rw [z, h11] at hwb1; cases hwb1)]; exact hwb1) (by
      intro z
      simp only [List.mem_cons, List.not_mem_nil, or_false] at z
      rcases z with z | z | z
      · rw [z, h2] at hwb; cases hwb
      · rw [z, h3] at hwb; cases hwb
      · rw [z, flt] at hwb; cases hwb)
    refine ⟨_, rfl, p, dx', _, rfl, hpH, fno (by decide +kernel), _, rfl, _, rfl, _, rfl, wb, _, rfl, .inr (SqT.of hwbH), rfl, intsV_flat ws', _, rfl, p, d1, d2, d3, d4, wa, n, a, dl, _, _, i, _, _, rfl, hi, RR, fun vn HN hvn h3N sN => ?_⟩
    have hvn2 : StAt K HN vn (nxt a dl ws ws' s i) := by
      unfold nxt
      rw [← esi]
      exact hvn
    have h3N : HN d3 = some (.dK (dk n a fun j => .bl (if j < i + 1 then nxg a ws' s g j else g j))) := by
      have z : HN d3 = some (.dK (dk n a fun j => .bl (ng (fun j => if j < i then nxg a ws' s g j else g j) i (inV (.int (a i)) (intsV ws')) (if i < i then nxt a dl ws ws' s i else s i) j))) := h3N
      rw [esi, ng_step] at z
      exact z
    have hpN := sN _ _ hpH np3
    have h2N := sN _ _ h2H n23
    have h1N := sN _ _ hd1 n13
    have ltN := sN _ _ htv nl3
    have tN : TupF HH HN := sN.tupF (ntOf (h3H))
    refine ⟨_, rfl, p, C, dx', _, _, rfl, hpN, T.cl, T.n_standing, get_standing d1 d2 d3 d4 wa, _, rfl, d2, _, rfl, DPut.k (k := .inl (a i)) h2N (by rw [dk_len]; exact small1000 (by omega)), ?_⟩
    rw [dk_put ap hi]
    have tM : TupF HN (upd HN d2 (.dK (dk n a (upF v i vn)))) := TupF.upd (ntOf (h2N))
    have sM : SameB d2 HN (upd HN d2 (.dK (dk n a (upF v i vn)))) := SameB.upd
    have h2M : (upd HN d2 (.dK (dk n a (upF v i vn)))) d2 = some (.dK (dk n a (upF v i vn))) := upd_same
    generalize upd HN d2 (.dK (dk n a (upF v i vn))) = HM at tM sM h2M ⊢
    have hpM := sM _ _ hpN np2
    have h1M := sM _ _ h1N n12
    have ltM := sM _ _ ltN nl2
    have h3M := sM _ _ h3N n23.symm
    have tHM := tN.trans tM
    have hvM := hvn2.tups tM
    have RM : SdR C K HM p d1 d2 d3 d4 wa n a dl (fun j => if j < i + 1 then nxt a dl ws ws' s j else s j) (fun j => if j < i + 1 then nxg a ws' s g j else g j) := by
      refine ⟨⟨dx', hpM⟩, .inr ⟨o, h1M⟩, ⟨_, h2M, fun j hj => ?_⟩, h3M, ap, few, n12, n13, n23⟩
      show StAt K HM (upF v i vn j) (if j < i + 1 then nxt a dl ws ws' s j else s j)
      unfold upF
      by_cases e : j = i
      · rw [if_pos e, if_pos (by omega), e]
        exact hvM
      · rw [if_neg e]
        have z := (hvH j hj).tups tHM
        by_cases e2 : j < i
        · have z : StAt K HM (v j) (if j < i then nxt a dl ws ws' s j else s j) := z
          rw [if_pos e2] at z
          rw [if_pos (by omega)]
          exact z
        · have z : StAt K HM (v j) (if j < i then nxt a dl ws ws' s j else s j) := z
          rw [if_neg e2] at z
          rw [if_neg (by omega)]
          exact z
    have pM := Evs.tups ptv tHM
    have sxM : SameX [d2, d3, lt] (upd H1 d1 (.frz o (.dK (dk n a (delV dl))))) HM := (sx.trans (SameX.ofB sN (by simp))).trans (SameX.ofB sM (by simp))
    obtain ⟨tn, etn, htn⟩ := hvM.sq
    have eup : upF v i vn i = .ref tn := by unfold upF; rw [if_pos rfl]; exact etn
    have gM : DGet HM d2 (.int (a i)) (some (upF v i vn i)) := .inl ⟨_, .inl (a i), .inl h2M, rfl, (dk_val ap hi).symm⟩
    refine ⟨_, rfl, p, C, dx', _, _, rfl, hpM, T.cl, T.n_standing, get_standing d1 d2 d3 d4 wa, _, rfl, d2, _, rfl, gM, tn, _, _, _, eup, rfl, htn, rfl, _, rfl, rfl, _, rfl, ite2 (fun c1 => ?_) (fun c1 => ?_)⟩
    · have ne : ¬ (nxt a dl ws ws' s i).1 = (s i).1 := fun z => by rw [z, decide_eq_true rfl] at c1; cases c1
      refine ⟨_, rfl, .inl ⟨rfl, _, SqL.of ltM⟩, _, rfl, p, C, dx', _, _, rfl, hpM, T.cl, T.n_standing, get_standing d1 d2 d3 d4 wa, _, rfl, d2, _, rfl, gM, tn, _, _, _, eup, rfl, htn, rfl, _, rfl, leSize (by show 2 ≤ 1000; decide), fun u hu => ⟨lt, tv, _, rfl, rfl, same_new hu _ _ _ ltM, ?_, ?_⟩⟩
      · have z := evs_len a s (nxt a dl ws ws' s) i
        rw [Paired.length pM]
        exact small1000 (by omega)
      have ku := same_new hu (.tup [.str (nxt a dl ws ws' s i).1, .int (a i)])
      have uu : (upd HM u (.tup [.str (nxt a dl ws ws' s i).1, .int (a i)])) u = _ := upd_same
      have nlu : u ≠ lt := (ne_of_none ltM hu).symm
      have k2 : SameB lt (upd HM u (.tup [.str (nxt a dl ws ws' s i).1, .int (a i)])) (upd (upd HM u (.tup [.str (nxt a dl ws ws' s i).1, .int (a i)])) lt (.lst (tv ++ [.ref u]))) := SameB.upd
      have tt : TupF (upd HM u (.tup [.str (nxt a dl ws ws' s i).1, .int (a i)])) (upd (upd HM u (.tup [.str (nxt a dl ws ws' s i).1, .int (a i)])) lt (.lst (tv ++ [.ref u]))) := k2.tupF (ntOf (ku _ _ ltM))
      refine ⟨⟨_, _, rfl⟩, k2 _ _ (ku _ _ h1M) nl1.symm, RM.mv (fun c hc o e => k2 _ _ (ku _ _ e) ?_) ((TupF.of ku).trans tt), ⟨tv ++ [.ref u], upd_same, ?_⟩, sxM.trans ((SameX.of ku).trans (SameX.ofB k2 (by simp)))⟩
      · rcases hc with z | z | z | z
        · rw [z]; exact nlp.symm
        · rw [z]; exact nl1.symm
        · rw [z]; exact nl2.symm
        · rw [z]; exact nl3.symm
      · rw [evs_succ, if_neg ne]
        exact Paired.snoc (Evs.tups pM ((TupF.of ku).trans tt)) ⟨u, rfl, tt _ _ uu⟩
    · have eq : (nxt a dl ws ws' s i).1 = (s i).1 := by
        have z : decide (V.str (nxt a dl ws ws' s i).1 = V.str (s i).1) = true := by
          cases e : decide (V.str (nxt a dl ws ws' s i).1 = V.str (s i).1) with
          | true => rfl
          | false => rw [e] at c1; exact absurd rfl c1
        exact dstr z
      refine ⟨⟨_, _, rfl⟩, h1M, RM, ⟨tv, ltM, ?_⟩, sxM⟩
      rw [evs_succ, if_pos eq, List.append_nil]
      exact pM
  obtain ⟨⟨u4, u5, rfl⟩, hd1, RR, ⟨tv, htv, ptv⟩, sx⟩ := h
  rw [dk_len] at RR ptv
  refine ⟨d1, o, _, hd1, (fun o' u z => by have z' : H d1 = some (.frz o' u) := z; rw [h1] at z'; cases z'), ?_⟩
  have sT : SameX [d2, d3] H (upd HH d1 (.dK (dk n a (delV dl)))) := fun c x e nc => by
    by_cases z : c = d1
    · rw [z, upd_same, ← h1, ← z, e]
    · rw [upd_ne z]
      refine sx _ _ (by rw [upd_ne z]; exact s1 _ _ e) fun m => nc ?_
      simp only [List.mem_cons, List.not_mem_nil, or_false] at m ⊢
      rcases m with m | m | m
      · exact .inl m
      · exact .inr m
      · rw [m, flt] at e; cases e
  have tT : TupF HH (upd HH d1 (.dK (dk n a (delV dl)))) := TupF.upd (ntOf (hd1))
  have kT : SameB d1 HH (upd HH d1 (.dK (dk n a (delV dl)))) := SameB.upd
  have h1T : (upd HH d1 (.dK (dk n a (delV dl)))) d1 = some (.dK (dk n a (delV dl))) := upd_same
  generalize upd HH d1 (.dK (dk n a (delV dl))) = HT at sT tT kT h1T ⊢
  obtain ⟨⟨dx', hpH⟩, _, ⟨v, h2H, hvH⟩, h3H, _, _, _, _, _⟩ := id RR
  have hpT := kT _ _ hpH np1
  have h2T := kT _ _ h2H n12.symm
  have h3T := kT _ _ h3H n13.symm
  have ltT := kT _ _ htv nl1
  have pT := Evs.tups ptv tT
  have hvT : ∀ j, j < n → StAt K HT (v j) (nxt a dl ws ws' s j) := fun j hj => by
    have z : StAt K HT (v j) (if j < n then nxt a dl ws ws' s j else s j) := (hvH j hj).tups tT
    rw [if_pos hj] at z
    exact z
  have ndk : ∀ c x, H c = some (.tup x) → c ∉ [d2, d3] := fun c x e m => by
    simp only [List.mem_cons, List.not_mem_nil, or_false] at m
    rcases m with m | m
    · rw [m, h2] at e; cases e
    · rw [m, h3] at e; cases e
  have hwbT := sT _ _ hwb (ndk _ _ hwb)
  have h4T := sT _ _ h4 (by simp [n42, n43])
  refine ⟨_, rfl, wb, _, rfl, .inr ⟨SqT.of hwbT, _, rfl, p, C, dx', _, _, rfl, hpT, T.cl, T.n_wanted, fl_len d1 d2 d3 d4 wa, put_wanted d1 d2 d3 d4 wa wb, fun H5 h5 s5 => ?_⟩⟩
  have nwp : wb ≠ p := fun z => by rw [z, hp] at hwb; cases hwb
  have x5 : SameX [p, d2, d3] H H5 := (sT.sub (by simp)).trans (SameX.ofB s5 (by simp))
  have t5 : TupF HT H5 := s5.tupF (ntOf (hpT))
  refine ⟨_, rfl, _, rfl, p, dx', _, rfl, h5, fno (by decide +kernel), p, dx', d1, d2, d3, d4, wb, n, a, u, rfl, h5, s5 _ _ h4T np4.symm, ap, few, fun t d tu H6 ft fd ht6 ptu hd6 hp6 s6 => ?_⟩
  have lt6 := s6 _ _ (s5 _ _ ltT nlp) nlp
  have t6 : TupF H5 H6 := s6.tupF (ntOf (h5))
  have h25 := s5 _ _ h2T np2.symm
  have h35 := s5 _ _ h3T np3.symm
  have h15 := s5 _ _ h1T np1.symm
  have fr5 : ∀ {l}, H5 l = none → H l = none := fun {l} e => x5.free (fun c hc => by
    simp only [List.mem_cons, List.not_mem_nil, or_false] at hc
    rcases hc with z | z | z
    · rw [z]; exact ⟨_, h5⟩
    · rw [z]; exact ⟨_, h25⟩
    · rw [z]; exact ⟨_, h35⟩) e
  refine ⟨lt, t, tv, tu, rfl, rfl, lt6, ht6, ?_, fun r fr => ?_⟩
  · have z := evs_len a s (nxt a dl ws ws' s) n
    have z2 := usd_len n a u
    rw [Paired.length pT, Paired.length ptu]
    exact leSize (by omega)
  have eg : dk n a (fun j => V.bl (if j < n then nxg a ws' s g j else g j)) = dk n a fun j => V.bl (nxg a ws' s g j) := dk_congr fun j hj => by rw [if_pos hj]
  have kr := same_new fr (.lst (tv ++ tu))
  have t7 := (t5.trans t6).trans (TupF.of kr)
  have fr' : H5 r = none := s6.free ⟨_, hp6⟩ fr
  refine q r d (tv ++ tu) _ (fr5 fr') (fr5 fd) upd_same (Paired.app (Evs.tups pT t7) (Evs.tups ptu (TupF.of kr))) ⟨⟨⟨dx', kr _ _ hp6⟩, .inl (kr _ _ (s6 _ _ h15 np1.symm)), ⟨v, kr _ _ (s6 _ _ h25 np2.symm), fun j hj => (hvT j hj).tups t7⟩, (by rw [← eg]; exact kr _ _ (s6 _ _ h35 np3.symm)), ap, few, n12, n13, n23⟩, kr _ _ (s6 _ _ h15 np1.symm), ⟨_, kr _ _ hd6⟩, t7 _ _ hwbT, (ne_of_none h15 fd).symm, (ne_of_none h25 fd).symm, (ne_of_none h35 fd).symm⟩ (kr _ _ hd6) ((x5.trans (SameX.ofB s6 (by simp))).trans (SameX.of kr))
end
end K33

set_option Elab.async false
set_option linter.all false
set_option maxRecDepth 100000
set_option pp.maxSteps 300
set_option maxHeartbeats 1000000
namespace K33
open PySem L2
abbrev s_l_wanted : Stmt := top 16
abbrev p_l_wanted : List Str := ["_law_bag_here", "_law_outs_here", "_law_wanted_here", "_law_often"]
theorem sc_l_wanted : FnScope ["_law_bag_here", "_law_outs_here", "_law_wanted_here", "_law_often", "_law_found", "_law_address", "_law_delay"] p_l_wanted (defScope s_l_wanted) := ⟨rfl, rfl, rfl, by decide +kernel, rfl, by decide +kernel, by decide +kernel⟩
/-- the outs' states as the law holds them -/
def LdAt (K : PySem.W.Frag) (H : Hp) (d : Addr) (n : Nat) (a : Nat → Int) (s : Nat → Sta) : Prop := ∃ v, H d = some (.dK (dk n a v)) ∧ ∀ j, j < n → StAt K H (v j) (s j)
def okW (s : Sta) : Prop := PyData.strOk s.1 = true
theorem ok_wt (l : Int) : okW (wt l) := by
  unfold wt okW
  split
  · show PyData.strOk "waiting" = true; decide +kernel
  · show PyData.strOk "sounding" = true; decide +kernel
theorem ok_nx {dl : Int} {w n : Bool} {s : Sta} (h : okW s) : okW (nx dl w n s) := by
  unfold nx
  split
  · show PyData.strOk "sounding" = true; decide +kernel
  · split
    · exact ok_wt _
    · split
      · split
        · exact ok_wt _
        · show PyData.strOk "still" = true; decide +kernel
      · exact h
def spWanted : Sp := fun vs H Q _ => ∃ b oa wa k n a dl ws often, vs = [.ref b, .ref oa, .ref wa, .int often] ∧ BagAt H b k ∧ k + n ≤ 9000 ∧ OutsAt H oa n a dl ∧ n ≤ 100 ∧ H wa = some (.tup (intsV ws)) ∧ 0 < often ∧ often < 100 ∧
  ∀ wb ws' H', H' wb = some (.tup (intsV ws')) → ws'.length ≤ n → (∀ x ∈ ws', ∃ j, j < n ∧ a j = x) → BagAt H' b (k + n) → SameB b H H' → Q (.ref wb) H'
theorem any_in (bs : List Bool) : inV (.bl true) (bs.map V.bl) = bs.any id := by
  unfold inV
  rw [List.any_map]
  congr 1
  funext b
  cases b <;> rfl
def stD (s : Sta) : PyData := .tuple [.str s.1, .int s.2]
theorem StAt.rep {K : PySem.W.Frag} {H : Hp} {v : V} {s : Sta} (h : StAt K H v s) : RepK K H v (stD s) := by
  obtain ⟨t, rfl, h2⟩ := h.sq
  exact .tup h2 (.cons (.str _) (.cons (.int _) .nil))
theorem st_shaped {s : Sta} (h : okW s) : SeqAt.shaped (stD s) = true := by
  unfold okW at h
  show ((PyData.strOk s.1 && (true && true)) && decide (max 0 (max 0 0) + 1 ≤ 64)) = true
  rw [h]
  rfl
theorem bls_flat (bs : List Bool) : (bs.map V.bl).all flatV = true := by
  rw [List.all_map]
  exact List.all_eq_true.mpr fun _ _ => rfl
section
variable {P : Program} {w : World} {K : PySem.W.Frag} {mg : Str → Option Value} {base : Heap} {C st so si : Addr}
theorem ok_wanted (c : Code K mg "_law_wanted" s_l_wanted p_l_wanted) (T : Tx K mg C st so si) (g_l_take : Good P w K mg base "_law_take" 1 p_l_take spTake) : Good P w K mg base "_law_wanted" 2 p_l_wanted spWanted := by
  refine c.good sc_l_wanted (fun vs H Q E h => ?_) (fun f cdv A outer s H vs Q E hr h => ?_)
  · obtain ⟨b, oa, wa, k, n, a, dl, ws, often, rfl, _⟩ := h
    rfl
  obtain ⟨b, oa, wa, k, n, a, dl, ws, often, rfl, hb, hk, ho, few, hwa, o0, o1, q⟩ := h
  refine ⟨_, (pss_cons (ps_set (i := 4) sc_l_wanted.nd rfl (Or.inl rfl) (pe_lst pa_nil))
  (pss_cons (ps_for PassesOwn.never rfl (pi_tup (pv 1)) (pg_tup rfl (pgs_cons (pg_name (i := 5) sc_l_wanted.nd rfl (Or.inl rfl)) (pgs_cons (pg_name (i := 6) sc_l_wanted.nd rfl (Or.inl rfl)) pgs_nil)))
  (pss_one (ps_if (pt_cmpR op_ne (pe_cmpR op_in_seq (pv 5) (pv 2) (by with_unfolding_all rfl)) (pe_cmpR op_eq (pcall g_l_take hr (pa_cons (pv 0) (pa_cons (pv 3) pa_nil))) pe_int (nomark _)) (nomark _)) (pss_one (ps_expr (pe_bm PySem.F.plainAttrs_list PySem.F.slot_list_append PySem.F.type_list_append mt_append (pv 4) (pa_cons (pv 5) pa_nil)))) pss_nil)))
  (pss_one (ps_ret (pe_callTy call_tuple_of rfl T.tuple bt_tuple (pa_cons (pv 4) pa_nil)))))), ?_⟩
  refine ⟨Nat.zero_le _, fun lf hlf => ?_⟩
  have k1 := same_new hlf (.lst [])
  have nbl : b ≠ lf := hb.nb hlf
  obtain ⟨t, hoa, hto⟩ := ho.tups (TupF.of k1)
  have hwa1 := k1 _ _ hwa
  have hb1 := hb.same k1
  have hl1 : (upd H lf (.lst [])) lf = some (.lst (intsV [])) := upd_same
  have ntb := hb1.ntupF
  generalize upd H lf (.lst []) = H1 at k1 hoa hto hwa1 hb1 hl1 ntb ⊢
  have ntl : ∀ xs, H1 lf ≠ some (.tup xs) := fun xs z => by rw [hl1] at z; cases z
  refine ⟨_, rfl, oa, rfl, ⟨_, hoa.sq⟩, ?_⟩
  refine for_tup (xs := (List.range n).map fun j => V.ref (t j)) (fun i σ HH => ∃ u5 u6 ws', σ = [some (.ref b), some (.ref oa), some (.ref wa), some (.int often), some (.ref lf), u5, u6] ∧ HH lf = some (.lst (intsV ws')) ∧ ws'.length ≤ i ∧ BagAt HH b (k + i) ∧ SameX [b, lf] H1 HH ∧ TupF H1 HH ∧ ∀ x ∈ ws', ∃ j, j < n ∧ a j = x) ⟨_, _, [], rfl, hl1, Nat.le_refl _, hb1, SameX.refl _ _, TupF.refl _, fun x hx => nomatch hx⟩ (fun i σ HH _ h => ?_) (fun i x σ HH hx h => ?_) (fun σ HH h => ?_)
  · obtain ⟨u5, u6, ws', rfl, h1, h2, h3, h4, h5, h6⟩ := h
    exact (hoa.tups h5).sq
  · obtain ⟨u5, u6, ws', rfl, h1, h2, h3, h4, h5, h6⟩ := h
    obtain ⟨hi, rfl⟩ := rg_get hx
    refine ⟨t i, _, rfl, SqT.of (h5 _ _ (hto i hi)), rfl, _, _, rfl, _, _, rfl, rfl, ?_⟩
    simp only [List.set_cons_succ, List.set_cons_zero]
    refine ⟨_, rfl, _, rfl, wa, _, rfl, .inr (SqT.of (h5 _ _ hwa1)), rfl, intsV_flat ws, _, rfl, _, rfl, b, _, often, rfl, h3, by omega, o0, by omega, fun r H2 _ _ hb2 s2 => ⟨rfl, rfl, _, rfl, ite2 (fun _ => ?_) (fun _ => ?_)⟩⟩
    · have l2 := s2 _ _ h1 nbl.symm
      have t2 : TupF HH H2 := s2.tupF h3.ntupF
      have t3 : TupF H2 (upd H2 lf (.lst (intsV ws' ++ [.int (a i)]))) := TupF.upd (ntOf (l2))
      refine ⟨_, rfl, .inl ⟨rfl, _, SqL.of l2⟩, _, rfl, lf, _, _, rfl, rfl, l2, ?_, _, _, ws' ++ [a i], rfl, ?_, ?_, ?_, ?_, ?_, ?_⟩
      · rw [intsV_len]; exact small1000 (by omega)
      · rw [upd_same, intsV_snoc]
      · rw [List.length_append]; show _ + 1 ≤ _; omega
      · exact hb2.sameB SameB.upd nbl
      · exact (h4.trans (SameX.ofB s2 (by simp))).trans (SameX.ofB SameB.upd (by simp))
      · exact (h5.trans t2).trans t3
      · intro y hy
        rcases List.mem_append.mp hy with z | z
        · exact h6 y z
        · exact ⟨i, hi, (List.mem_singleton.mp z).symm⟩
    · exact ⟨_, _, ws', rfl, s2 _ _ h1 nbl.symm, by omega, hb2, h4.trans (SameX.ofB s2 (by simp)), h5.trans (s2.tupF h3.ntupF), h6⟩
  obtain ⟨u5, u6, ws', rfl, h1, h2, h3, h4, h5, h6⟩ := h
  rw [List.length_map, List.length_range] at h2 h3
  refine ⟨_, rfl, lf, _, rfl, .inl ⟨SqL.of h1, fun wb hwb => q wb ws' _ upd_same h2 h6 (h3.same (same_new hwb _)) fun c o e nc => ?_⟩⟩
  refine same_new hwb _ _ _ (h4 _ _ (k1 _ _ e) ?_)
  simp only [List.mem_cons, List.not_mem_nil, or_false]
  rintro (z | z)
  · exact nc z
  · rw [z, hlf] at e; cases e
end
end K33

set_option Elab.async false
set_option linter.all false
set_option maxRecDepth 100000
set_option pp.maxSteps 300
set_option maxHeartbeats 1000000
namespace K33
open PySem L2
abbrev s_l_outs : Stmt := top 15
abbrev p_l_outs : List Str := ["_law_bag_here"]
theorem sc_l_outs : FnScope ["_law_bag_here", "_law_many", "_law_start", "_law_stride", "_law_found", "_law_place"] p_l_outs (defScope s_l_outs) := ⟨rfl, rfl, rfl, by decide +kernel, rfl, by decide +kernel, by decide +kernel⟩
/-- the addresses rise -/
def Asc (n : Nat) (a : Nat → Int) : Prop := ∀ i j, i < j → j < n → a i < a j
def spOuts : Sp := fun vs H Q _ => ∃ b k, vs = [.ref b] ∧ BagAt H b k ∧ k ≤ 1000 ∧ ∀ oa n a dl H', OutsAt H' oa n a dl → Asc n a → (∀ j, j < n → 0 ≤ dl j) → n ≤ 30 → BagAt H' b (k + 64) → SameB b H H' → Q (.ref oa) H'
def strides : List Int := [1, 2, 5, 7, 10, 98]
theorem apart_of {s d : Int} (h : d ∈ strides) {n : Nat} (hn : n ≤ 30) : Apart n fun j => (s + d * (0 + (j : Int))) % 99 + 1 := by
  intro i j hi hj e
  have e : (s + d * (0 + (i : Int))) % 99 + 1 = (s + d * (0 + (j : Int))) % 99 + 1 := e
  simp only [strides, List.mem_cons, List.not_mem_nil, or_false] at h
  rcases h with rfl | rfl | rfl | rfl | rfl | rfl <;> omega
theorem rg_at {α : Type} {n i : Nat} {f : Nat → α} (h : i < n) : ((List.range n).map f)[i]? = some (f i) := by
  rw [List.getElem?_map, List.getElem?_range h]
  rfl
theorem Asc.ap {n : Nat} {a : Nat → Int} (h : Asc n a) : Apart n a := fun i j hi hj e => by
  rcases Nat.lt_trichotomy i j with z | z | z
  · have := h i j z hj; omega
  · exact z
  · have := h j i z hi; omega
theorem rg_getD {α : Type} {n i : Nat} {f : Nat → α} {d : α} (h : i < n) : ((List.range n).map f).getD i d = f i := by
  rw [List.getD_eq_getElem?_getD, rg_at h]
  rfl
theorem outs_perm {n : Nat} {t : Nat → Addr} {ad : Nat → Int} {is : List Nat} (hp : is.Perm (List.range ((List.range n).map fun j => V.ref (t j)).length)) (hr : (is.map fun i => ((List.range n).map ad).getD i 0).Pairwise (· < ·)) :
    ∃ π : Nat → Nat, (∀ j, j < n → π j < n) ∧ is.map (fun i => ((List.range n).map fun j => V.ref (t j)).getD i .non) = (List.range n).map (fun j => V.ref (t (π j))) ∧ ∀ i j, i < j → j < n → ad (π i) < ad (π j) := by
  rw [List.length_map, List.length_range] at hp
  have hl : is.length = n := by rw [hp.length_eq, List.length_range]
  have hm : ∀ i ∈ is, i < n := fun i hi => List.mem_range.mp (hp.mem_iff.mp hi)
  have hg : ∀ j, j < n → is.getD j 0 ∈ is := fun j hj => by
    have e : is.getD j 0 = is[j]'(by omega) := by simp [show j < is.length by omega]
    rw [e]
    exact List.getElem_mem _
  refine ⟨fun j => is.getD j 0, fun j hj => hm _ (hg j hj), ?_, fun i j hij hj => ?_⟩
  · have e := range_getD (0 : Nat) is
    rw [hl] at e
    have e2 : (List.range n).map (fun j => V.ref (t (is.getD j 0))) = is.map fun i => V.ref (t i) := by
      rw [show ((fun j => V.ref (t (is.getD j 0))) : Nat → V) = (fun i => V.ref (t i)) ∘ (fun i => is.getD i 0) from rfl, ← List.map_map, e]
    rw [e2]
    exact List.map_congr_left fun i hi => rg_getD (hm i hi)
  · rw [List.pairwise_map] at hr
    have z := List.pairwise_iff_getElem.mp hr i j (by omega) (by omega) hij
    rw [rg_getD (hm _ (List.getElem_mem _)), rg_getD (hm _ (List.getElem_mem _))] at z
    have e1 : is.getD i 0 = is[i]'(by omega) := by simp [show i < is.length by omega]
    have e2 : is.getD j 0 = is[j]'(by omega) := by simp [show j < is.length by omega]
    show ad (is.getD i 0) < ad (is.getD j 0)
    rw [e1, e2]
    exact z
theorem paired_rg {α β : Type} {F : α → β → Prop} {f : Nat → α} {g : Nat → β} : ∀ {n : Nat}, (∀ j, j < n → F (f j) (g j)) → Paired F ((List.range n).map f) ((List.range n).map g)
  | 0, _ => .nil
  | n + 1, h => by
    rw [List.range_succ, List.map_append, List.map_append]
    exact Paired.snoc (paired_rg fun j hj => h j (by omega)) (h n (by omega))
section
variable {P : Program} {w : World} {K : PySem.W.Frag} {mg : Str → Option Value} {base : Heap} {C st so si : Addr}
theorem ok_outs (c : Code K mg "_law_outs" s_l_outs p_l_outs) (T : Tx K mg C st so si) (g_l_take : Good P w K mg base "_law_take" 1 p_l_take spTake) : Good P w K mg base "_law_outs" 2 p_l_outs spOuts := by
  refine c.good sc_l_outs (fun vs H Q E h => ?_) (fun f cdv A outer s H vs Q E hr h => ?_)
  · obtain ⟨b, k, rfl, _⟩ := h
    rfl
  obtain ⟨b, k, rfl, hb, hk, q⟩ := h
  refine ⟨_, (pss_cons (ps_set (i := 1) sc_l_outs.nd rfl (Or.inl rfl) (pe_ix ix_list (pe_lst (pa_cons (pe_op op_add pe_int (pcall g_l_take hr (pa_cons (pv 0) (pa_cons pe_int pa_nil)))) (pa_cons pe_int (pa_cons pe_int pa_nil)))) (pe_callB (call_max2 rfl) rfl T.max bt_max (pa_cons pe_int (pa_cons (pe_op op_sub (pcall g_l_take hr (pa_cons (pv 0) (pa_cons pe_int pa_nil))) pe_int) pa_nil))) (fun _ _ => rfl)))
  (pss_cons (ps_par (i := 2) (j := 3) rfl sc_l_outs.nd rfl rfl (by decide) rfl rfl (pa_cons (pcall g_l_take hr (pa_cons (pv 0) (pa_cons pe_int pa_nil))) (pa_cons (pe_ix ix_list (@pe_lst _ _ _ _ (@pa_cons _ _ _ _ _ (@pe_int _ _ _ _) (@pa_cons _ _ _ _ _ (@pe_int _ _ _ _) (@pa_cons _ _ _ _ _ (@pe_int _ _ _ _) (@pa_cons _ _ _ _ _ (@pe_int _ _ _ _) (@pa_cons _ _ _ _ _ (@pe_int _ _ _ _) (@pa_cons _ _ _ _ _ (@pe_int _ _ _ _) (@pa_nil _) st_const) st_const) st_const) st_const) st_const) st_const)) (pcall g_l_take hr (pa_cons (pv 0) (pa_cons pe_int pa_nil))) (fun _ _ => rfl)) pa_nil)) rfl)
  (pss_cons (ps_set (i := 4) sc_l_outs.nd rfl (Or.inl rfl) (pe_lst pa_nil))
  (pss_cons (ps_for PassesOwn.never rfl (pi_range1 rfl T.range (pa_cons (pv 1) pa_nil)) (pg_name (i := 5) sc_l_outs.nd rfl (Or.inl rfl))
  (pss_one (ps_expr (pe_bm PySem.F.plainAttrs_list PySem.F.slot_list_append PySem.F.type_list_append mt_append (pv 4) (pa_cons (pe_tup (pa_cons (pe_op op_add (pe_op op_mod (pe_op op_add (pv 2) (pe_op op_mul (pv 3) (pv 5))) pe_int) pe_int) (pa_cons (pcall g_l_take hr (pa_cons (pv 0) (pa_cons (pe_ix ix_list (pe_lst (pa_cons pe_int (pa_cons pe_int (pa_cons pe_int pa_nil)))) (pcall g_l_take hr (pa_cons (pv 0) (pa_cons pe_int pa_nil))) (fun _ _ => rfl)) pa_nil))) pa_nil))) pa_nil)))))
  (pss_one (ps_ret (pe_callTy call_tuple_ofF rfl T.tuple bt_tuple (pa_cons (pe_callB call_sortedK rfl T.sorted bt_sorted (pa_cons (pv 4) pa_nil)) pa_nil)))))))), ?_⟩
  refine ⟨_, rfl, b, k, 8, rfl, hb, by omega, by decide, by decide, fun r1 H1 r10 r11 hb1 s1 => ⟨_, _, rfl, rfl, leSize (by show 3 ≤ 1000; decide), fun l1 hl1 => ?_⟩⟩
  have kl1 := same_new hl1 (.lst [.int (1 + r1), .int 30, .int 0])
  have ul1 : (upd H1 l1 (.lst [.int (1 + r1), .int 30, .int 0])) l1 = some (.lst [.int (1 + r1), .int 30, .int 0]) := upd_same
  have nb1 := hb1.nb hl1
  have hb1 := hb1.same kl1
  have s1 := s1.trans (SameB.of kl1)
  refine ⟨_, rfl, b, k + 1, 8, rfl, hb1, by omega, by decide, by decide, fun r2 H2 r20 r21 hb2 s2 => ?_⟩
  have ul1 := s2 _ _ ul1 nb1.symm
  have s2 := s1.trans s2
  obtain ⟨many, hm, hm0, hm1⟩ : ∃ z : Int, atI [V.int (1 + r1), .int 30, .int 0] (if r2 - 5 > 0 then r2 - 5 else 0) = some (.int z) ∧ 0 ≤ z ∧ z ≤ 30 := by
    have : r2 ≤ 5 ∨ r2 = 6 ∨ r2 = 7 := by omega
    rcases this with z | rfl | rfl
    · rw [if_neg (by omega)]
      exact ⟨1 + r1, rfl, by omega, by omega⟩
    · exact ⟨30, rfl, by omega, by omega⟩
    · exact ⟨0, rfl, by omega, by omega⟩
  refine ⟨_, _, rfl, rfl, _, _, rfl, l1, _, _, _, rfl, rfl, SqL.of ul1, hm, ?_⟩
  refine ⟨_, rfl, b, k + 2, 99, rfl, hb2, by omega, by decide, by decide, fun r3 H3 r30 r31 hb3 s3 => ⟨leSize (by show 6 ≤ 1000; decide), fun l2 hl2 => ?_⟩⟩
  have s3 := s2.trans s3
  have kl2 := same_new hl2 (.lst [.int 1, .int 2, .int 5, .int 7, .int 10, .int 98])
  have ul2 : (upd H3 l2 (.lst [.int 1, .int 2, .int 5, .int 7, .int 10, .int 98])) l2 = some (.lst [.int 1, .int 2, .int 5, .int 7, .int 10, .int 98]) := upd_same
  have nb2 := hb3.nb hl2
  have hb3 := hb3.same kl2
  have s3 := s3.trans (SameB.of kl2)
  refine ⟨_, rfl, b, k + 3, 6, rfl, hb3, by omega, by decide, by decide, fun r4 H4 r40 r41 hb4 s4 => ?_⟩
  have ul2 := s4 _ _ ul2 nb2.symm
  have s4 := s3.trans s4
  obtain ⟨d, hd, hds⟩ : ∃ z : Int, atI [V.int 1, .int 2, .int 5, .int 7, .int 10, .int 98] r4 = some (.int z) ∧ z ∈ strides := by
    have : r4 = 0 ∨ r4 = 1 ∨ r4 = 2 ∨ r4 = 3 ∨ r4 = 4 ∨ r4 = 5 := by omega
    rcases this with rfl | rfl | rfl | rfl | rfl | rfl
    · exact ⟨_, rfl, by simp [strides]⟩
    · exact ⟨_, rfl, by simp [strides]⟩
    · exact ⟨_, rfl, by simp [strides]⟩
    · exact ⟨_, rfl, by simp [strides]⟩
    · exact ⟨_, rfl, by simp [strides]⟩
    · exact ⟨_, rfl, by simp [strides]⟩
  refine ⟨l2, _, _, _, rfl, rfl, SqL.of ul2, hd, _, _, rfl, ?_⟩
  refine ⟨Nat.zero_le _, fun lf hlf => ?_⟩
  have klf := same_new hlf (.lst [])
  have ulf : (upd H4 lf (.lst [])) lf = some (.lst []) := upd_same
  have nbf := hb4.nb hlf
  have hb5 := hb4.same klf
  have flf : H lf = none := s4.free hb4.ex hlf
  have s5 := s4.trans (SameB.of klf)
  generalize upd H4 lf (.lst []) = H5 at ulf hb5 s5 ⊢
  obtain ⟨n, rfl⟩ : ∃ n : Nat, many = n := ⟨many.toNat, by omega⟩
  have hd0 : 1 ≤ d ∧ d ≤ 98 := by
    simp only [strides, List.mem_cons, List.not_mem_nil, or_false] at hds
    omega
  refine ⟨_, rfl, _, rfl, by omega, by omega, ?_⟩
  refine for_range (fun i σ HH => ∃ (u5 : Option V) (t : Nat → Addr) (dl : Nat → Int), σ = [some (.ref b), some (.int (n : Int)), some (.int r3), some (.int d), some (.ref lf), u5] ∧ HH lf = some (.lst ((List.range i).map fun j => V.ref (t j))) ∧ (∀ j, j < i → HH (t j) = some (.tup [.int ((r3 + d * (0 + (j : Int))) % 99 + 1), .int (dl j)])) ∧ BagAt HH b (k + 4 + 2 * i) ∧ SameX [b, lf] H5 HH ∧ ∀ j, j < i → 0 ≤ dl j)
    ⟨_, fun _ => 0, fun _ => 0, rfl, ulf, (fun j hj => absurd hj (Nat.not_lt_zero _)), hb5, SameX.refl _ _, (fun j hj => absurd hj (Nat.not_lt_zero _))⟩ (fun i σ HH hi h => ?_) (fun σ HH h => ?_)
  · obtain ⟨u5, t, dl, rfl, h1, h2, h3, h4, h5⟩ := h
    have hi : i < n := by simpa using hi
    simp only [List.set_cons_succ, List.set_cons_zero]
    refine ⟨_, rfl, .inl ⟨rfl, _, SqL.of h1⟩, _, rfl, _, rfl, _, rfl, _, _, rfl, rfl, .inl ⟨by omega, by omega⟩, _, _, rfl, rfl, _, _, rfl, rfl, (by show (0 : Int) < 99; decide), _, _, rfl, rfl, _, rfl, leSize (by show 3 ≤ 1000; decide), fun l3 hl3 => ?_⟩
    have k3 := same_new hl3 (.lst [.int 1, .int 4, .int 21])
    have u3 : (upd HH l3 (.lst [.int 1, .int 4, .int 21])) l3 = some (.lst [.int 1, .int 4, .int 21]) := upd_same
    have nb3 := h3.nb hl3
    have h3 := h3.same k3
    refine ⟨_, rfl, b, k + 4 + 2 * i, 3, rfl, h3, by omega, by decide, by decide, fun r5 H6 r50 r51 hb6 s6 => ?_⟩
    have u3 := s6 _ _ u3 nb3.symm
    obtain ⟨m, hm, hm0, hm1⟩ : ∃ z : Int, atI [V.int 1, .int 4, .int 21] r5 = some (.int z) ∧ 0 < z ∧ z ≤ 21 := by
      have : r5 = 0 ∨ r5 = 1 ∨ r5 = 2 := by omega
      rcases this with rfl | rfl | rfl
      · exact ⟨_, rfl, by decide, by decide⟩
      · exact ⟨_, rfl, by decide, by decide⟩
      · exact ⟨_, rfl, by decide, by decide⟩
    refine ⟨l3, _, _, _, rfl, rfl, SqL.of u3, hm, b, k + 4 + 2 * i + 1, m, rfl, hb6, by omega, hm0, by omega, fun r6 H7 r60 _ hb7 s7 => ⟨leSize (by show 2 ≤ 1000; decide), fun u hu => ?_⟩⟩
    have s67 : SameB b HH H7 := (SameB.of k3).trans (s6.trans s7)
    have l7 := s67 _ _ h1 nbf.symm
    have ku := same_new hu (.tup [.int ((r3 + d * (0 + (i : Int))) % 99 + 1), .int r6])
    have uu : (upd H7 u (.tup [.int ((r3 + d * (0 + (i : Int))) % 99 + 1), .int r6])) u = _ := upd_same
    have nub := hb7.nb hu
    have hb7 := hb7.same ku
    have t67 : TupF HH H7 := (TupF.of k3).trans ((s6.tupF h3.ntupF).trans (s7.tupF hb6.ntupF))
    refine ⟨lf, _, _, rfl, rfl, ku _ _ l7, by rw [List.length_map, List.length_range]; exact small1000 (by omega), ?_⟩
    have k8 : SameB lf (upd H7 u (.tup [.int ((r3 + d * (0 + (i : Int))) % 99 + 1), .int r6])) (upd (upd H7 u (.tup [.int ((r3 + d * (0 + (i : Int))) % 99 + 1), .int r6])) lf (.lst ((List.range i).map (fun j => V.ref (t j)) ++ [V.ref u]))) := SameB.upd
    have t8 : TupF (upd H7 u (.tup [.int ((r3 + d * (0 + (i : Int))) % 99 + 1), .int r6])) (upd (upd H7 u (.tup [.int ((r3 + d * (0 + (i : Int))) % 99 + 1), .int r6])) lf (.lst ((List.range i).map (fun j => V.ref (t j)) ++ [V.ref u]))) := k8.tupF (ntOf (ku _ _ l7))
    refine ⟨_, upF t i u, upF dl i r6, rfl, ?_, fun j hj => ?_, (hb7.sameB k8 nbf).mono (by omega), (h4.trans (SameX.ofB s67 (by simp))).trans ((SameX.of ku).trans (SameX.ofB k8 (by simp))), fun j hj => ?_⟩
    · rw [upd_same, List.range_succ, List.map_append]
      have e1 : (List.range i).map (fun j => V.ref (upF t i u j)) = (List.range i).map fun j => V.ref (t j) := List.map_congr_left fun j hj => by
        unfold upF
        rw [if_neg (Nat.ne_of_lt (List.mem_range.mp hj))]
      rw [e1]
      show some (HO.lst (_ ++ [V.ref u])) = some (HO.lst (_ ++ [V.ref (upF t i u i)]))
      unfold upF
      rw [if_pos rfl]
    · unfold upF
      by_cases e : j = i
      · rw [if_pos e, if_pos e, e]
        exact t8 _ _ uu
      · rw [if_neg e, if_neg e]
        exact t8 _ _ (ku _ _ (t67 _ _ (h2 j (by omega))))
    · unfold upF
      by_cases e : j = i
      · rw [if_pos e]; exact r60
      · rw [if_neg e]; exact h5 j (by omega)
  obtain ⟨u5, t, dl, rfl, h1, h2, h3, h4, h5⟩ := h
  have en : ((n : Int) - 0).toNat = n := by omega
  simp only [Int.toNat_natCast] at h1 h2 h3 h5
  have ap : Apart n fun j => (r3 + d * (0 + (j : Int))) % 99 + 1 := apart_of hds (by omega)
  refine ⟨_, rfl, sortK_mk (ks := (List.range n).map fun (j : Nat) => (r3 + d * (0 + (j : Int))) % 99 + 1) (SqL.of h1) (by rw [List.length_map, List.length_range]; omega) (paired_rg fun j hj => ⟨t j, [dl j], rfl, SqT.of (h2 j hj)⟩) ?_ fun is l hperm hrise hl => ?_⟩
  · unfold List.Nodup
    rw [List.pairwise_map]
    refine List.Pairwise.imp_of_mem ?_ List.nodup_range
    intro i j hi hj ne e
    exact ne (ap i j (List.mem_range.mp hi) (List.mem_range.mp hj) e)
  obtain ⟨π, p1, ep, p2⟩ := outs_perm hperm hrise
  rw [ep]
  refine ⟨l, _, rfl, SqL.of upd_same, fun oa ob hoa htp => ?_⟩
  have k9 := (same_new hl (.lst ((List.range n).map fun j => V.ref (t (π j))))).trans (same_new hoa (.frz ob (.tup ((List.range n).map fun j => V.ref (t (π j))))))
  refine q oa n (fun j => (r3 + d * (0 + ((π j : Nat) : Int))) % 99 + 1) (fun j => dl (π j)) _ ⟨fun j => t (π j), ⟨ob, upd_same, htp⟩, fun j hj => k9 _ _ (h2 _ (p1 j hj))⟩ (fun i j hij hj => p2 i j hij hj) (fun j hj => h5 _ (p1 j hj)) (by omega) ((h3.same k9).mono (by omega)) fun c o e nc => k9 _ _ (h4 _ _ (s5 _ _ e nc) ?_)
  simp only [List.mem_cons, List.not_mem_nil, or_false]
  rintro (z | z)
  · exact nc z
  · rw [z, flf] at e; cases e
end
end K33

set_option Elab.async false
set_option linter.all false
set_option maxRecDepth 100000
set_option pp.maxSteps 300
set_option maxHeartbeats 1000000
namespace K33
open PySem L2
def LsAt (H : Hp) (l : Addr) (es : List Ev) : Prop := ∃ tv, H l = some (.lst tv) ∧ Paired (EvAt H) tv es
theorem LsAt.mv {H H' : Hp} {l : Addr} {es : List Ev} (h : LsAt H l es) (k : ∀ o, H l = some o → H' l = some o) (t : TupF H H') : LsAt H' l es := by
  obtain ⟨tv, h1, h2⟩ := h
  exact ⟨tv, k _ h1, Evs.tups h2 t⟩
theorem LsAt.same {H H' : Hp} {l : Addr} {es : List Ev} (h : LsAt H l es) (k : Same H H') : LsAt H' l es := h.mv (fun o e => k _ _ e) (TupF.of k)
def evD (e : Ev) : PyData := .tuple [.str e.1, .int e.2]
def esD (es : List Ev) : PyData := .list (es.map evD)
def okE (es : List Ev) : Prop := ∀ e ∈ es, PyData.strOk e.1 = true
theorem evs_ok {a : Nat → Int} {s s' : Nat → Sta} : ∀ {n : Nat}, (∀ j, j < n → okW (s' j)) → okE (evs a s s' n)
  | 0, _ => fun e h => by cases h
  | n + 1, h => fun e he => by
    rw [evs_succ] at he
    rcases List.mem_append.mp he with z | z
    · exact evs_ok (fun j hj => h j (by omega)) e z
    · split at z
      · cases z
      · have : e = ((s' n).1, a n) := by simpa using z
        rw [this]
        exact h n (by omega)
theorem evs_reps {H : Hp} : ∀ {vs : List V} {es : List Ev}, Paired (EvAt H) vs es → Reps H vs (es.map evD)
  | _, _, .nil => .nil
  | _, _, .cons ⟨t, e, h⟩ r => .cons (by rw [e]; exact .tup h (.cons (.str _) (.cons (.int _) .nil))) (evs_reps r)
theorem LsAt.rep {H : Hp} {l : Addr} {es : List Ev} (h : LsAt H l es) : Rep H (.ref l) (esD es) := by
  obtain ⟨tv, h1, h2⟩ := h
  exact .lst h1 (evs_reps h2)
theorem es_lay : ∀ {es : List Ev}, okE es → PyData.canLayAll0 (es.map evD) = true ∧ PyData.depthAll (es.map evD) ≤ 1
  | [], _ => ⟨rfl, by show 0 ≤ 1; decide⟩
  | e :: es, h => by
    have ih := es_lay (es := es) fun x hx => h x (List.mem_cons_of_mem _ hx)
    have he := h e (List.mem_cons_self ..)
    refine ⟨?_, ?_⟩
    · show ((PyData.strOk e.1 && (true && true)) && PyData.canLayAll0 (es.map evD)) = true
      rw [ih.1, he]; rfl
    · show max (max 0 (max 0 0) + 1) (PyData.depthAll (es.map evD)) ≤ 1
      exact Nat.max_le.mpr ⟨by decide, ih.2⟩
theorem es_shaped {es : List Ev} (h : okE es) : SeqAt.shaped (esD es) = true := by
  have h1 := es_lay h
  show (PyData.canLayAll0 (es.map evD) && decide (PyData.depthAll (es.map evD) + 1 ≤ 64)) = true
  rw [h1.1, Bool.true_and]
  exact decide_eq_true (by omega)
theorem es_eq {es : List Ev} (h : okE es) : PyData.eqv (esD es) (esD es) = true := SeqAt.eqv_refl _ (SeqAt.canLay_of_shaped (es_shaped h))
/-! the law's dict of those out of use -/
def dj (js : List Nat) (a u : Nat → Int) : List (Key × V) := js.map fun j => ((.inl (a j) : Key), V.int (u j))
theorem dj_none {js : List Nat} {a u : Nat → Int} {x : Int} (h : ∀ j ∈ js, a j ≠ x) : valV (dj js a u) (.inl x) = none := by
  have h1 := valV_any (Sum.inl x : Key) (dj js a u)
  cases e : valV (dj js a u) (Sum.inl x : Key) with
  | none => rfl
  | some y =>
    rw [e] at h1
    obtain ⟨kv, hm, hk⟩ := List.any_eq_true.mp h1
    unfold dj at hm
    obtain ⟨j, hj, rfl⟩ := List.mem_map.mp hm
    exact absurd (Sum.inl.inj (of_decide_eq_true hk)) (h j hj)
def InjL (js : List Nat) (a : Nat → Int) : Prop := ∀ i ∈ js, ∀ j ∈ js, a i = a j → i = j
theorem dj_val {a u : Nat → Int} : ∀ {js : List Nat} {j : Nat}, InjL js a → j ∈ js → valV (dj js a u) (.inl (a j)) = some (.int (u j))
  | [], _, _, h => nomatch h
  | i :: r, j, inj, h => by
    show valV (((.inl (a i) : Key), V.int (u i)) :: dj r a u) (.inl (a j)) = _
    by_cases e : a i = a j
    · rw [valV_pos (by rw [e]), inj i (List.mem_cons_self ..) j h e]
    · rw [valV_neg (fun z => e (Sum.inl.inj z))]
      rcases List.mem_cons.mp h with z | z
      · exact absurd (by rw [z]) e
      · exact dj_val (fun x hx y hy => inj x (List.mem_cons_of_mem _ hx) y (List.mem_cons_of_mem _ hy)) z
theorem dj_put {js : List Nat} {a u : Nat → Int} {j : Nat} (inj : InjL js a) (hj : j ∈ js) (x : Int) : putK (dj js a u) (.inl (a j)) (.int x) = dj js a (upF u j x) := by
  have h := dj_val (u := u) inj hj
  have h1 := valV_any (Sum.inl (a j) : Key) (dj js a u)
  rw [h] at h1
  unfold putK
  rw [if_pos (show ((dj js a u).any fun kv => decide (kv.1 = Sum.inl (a j))) = true from h1)]
  unfold dj
  rw [List.map_map]
  refine List.map_congr_left fun i hi => ?_
  show (if (Sum.inl (a i) : Key) = Sum.inl (a j) then ((Sum.inl (a i) : Key), V.int x) else (Sum.inl (a i), V.int (u i))) = (Sum.inl (a i), V.int (upF u j x i))
  unfold upF
  by_cases e : i = j
  · rw [e, if_pos rfl, if_pos rfl]
  · rw [if_neg e, if_neg fun z => e (inj i hi j hj (Sum.inl.inj z))]
theorem dj_congr {js : List Nat} {a u u' : Nat → Int} (h : ∀ j ∈ js, u j = u' j) : dj js a u = dj js a u' := by
  unfold dj
  exact List.map_congr_left fun j hj => by rw [h j hj]
theorem dj_new {js : List Nat} {a u : Nat → Int} {j : Nat} (h : ∀ i ∈ js, a i ≠ a j) (x : Int) : putK (dj js a u) (.inl (a j)) (.int x) = dj (js ++ [j]) a (upF u j x) := by
  rw [putK_new _ (dj_none h)]
  have e : dj js a u = dj js a (upF u j x) := dj_congr fun i hi => by
    unfold upF
    rw [if_neg (fun z => h i hi (by rw [z]))]
  rw [e]
  unfold dj
  rw [List.map_append]
  congr 1
  show _ = [((Sum.inl (a j) : Key), V.int (upF u j x j))]
  unfold upF
  rw [if_pos rfl]
theorem dj_drop {js : List Nat} {a u : Nat → Int} {j : Nat} (inj : InjL js a) (hj : j ∈ js) : dropK (dj js a u) (.inl (a j)) = dj (js.filter fun i => decide (i ≠ j)) a u := by
  unfold dropK dj
  rw [List.filter_map]
  congr 1
  refine List.filter_congr fun i hi => ?_
  show decide ((Sum.inl (a i) : Key) ≠ Sum.inl (a j)) = decide (i ≠ j)
  by_cases e : i = j
  · rw [e]; simp
  · have e2 : (Sum.inl (a i) : Key) ≠ Sum.inl (a j) := fun z => e (inj i hi j hj (Sum.inl.inj z))
    rw [decide_eq_true e2, decide_eq_true (show i ≠ j from e)]
structure Js (n : Nat) (u : Nat → Int) (js : List Nat) : Prop where
  nd : js.Nodup
  mem : ∀ j, j ∈ js ↔ j < n ∧ 0 < u j
theorem Js.inj {n : Nat} {a u : Nat → Int} {js : List Nat} (h : Js n u js) (ap : Apart n a) : InjL js a := fun i hi j hj e => ap i j ((h.mem i).mp hi).1 ((h.mem j).mp hj).1 e
theorem Js.len {n : Nat} {u : Nat → Int} {js : List Nat} (h : Js n u js) : js.length ≤ n := by
  have := List.Nodup.length_le_of_subset h.nd (l₂ := List.range n) fun j hj => List.mem_range.mpr ((h.mem j).mp hj).1
  rw [List.length_range] at this
  exact this
theorem dj_len (js : List Nat) (a u : Nat → Int) : (dj js a u).length = js.length := List.length_map _
/-- a number above nought is put -/
theorem Js.put {n j : Nat} {a u : Nat → Int} {js : List Nat} (h : Js n u js) (ap : Apart n a) (hj : j < n) {x : Int} (hx : 0 < x) : ∃ js', Js n (upF u j x) js' ∧ putK (dj js a u) (.inl (a j)) (.int x) = dj js' a (upF u j x) := by
  have go : ∀ i, (i < n ∧ 0 < upF u j x i) ↔ (i = j ∨ (i < n ∧ 0 < u i)) := fun i => by
    unfold upF
    by_cases e : i = j
    · rw [if_pos e, e]
      exact ⟨fun _ => .inl rfl, fun _ => ⟨hj, hx⟩⟩
    · rw [if_neg e]
      exact ⟨.inr, fun z => z.resolve_left e⟩
  by_cases m : j ∈ js
  · refine ⟨js, ⟨h.nd, fun i => ?_⟩, dj_put (h.inj ap) m x⟩
    rw [go, ← h.mem]
    exact ⟨.inr, fun z => z.elim (fun w => by rw [w]; exact m) id⟩
  · refine ⟨js ++ [j], ⟨?_, fun i => ?_⟩, dj_new (fun i hi e => m (by rw [← ap i j ((h.mem i).mp hi).1 hj e]; exact hi)) x⟩
    · refine List.nodup_append.mpr ⟨h.nd, by simp, fun i hi y hy => ?_⟩
      have : y = j := by simpa using hy
      rw [this]
      exact fun z => m (by rw [← z]; exact hi)
    · rw [go, List.mem_append, List.mem_singleton, h.mem]
      exact Or.comm
/-- one that is nought is taken out -/
theorem Js.drop {n j : Nat} {a u : Nat → Int} {js : List Nat} (h : Js n u js) (ap : Apart n a) (hj : j ∈ js) : ∃ js', Js n (upF u j 0) js' ∧ dropK (putK (dj js a u) (.inl (a j)) (.int 0)) (.inl (a j)) = dj js' a (upF u j 0) := by
  refine ⟨js.filter fun i => decide (i ≠ j), ⟨List.Pairwise.filter _ h.nd, fun i => ?_⟩, ?_⟩
  · rw [List.mem_filter, h.mem, decide_eq_true_eq]
    unfold upF
    by_cases e : i = j
    · rw [if_pos e]
      exact ⟨fun z => absurd e z.2, fun z => absurd z.2 (by decide)⟩
    · rw [if_neg e]
      exact ⟨fun z => z.1, fun z => ⟨z, e⟩⟩
  · rw [dj_put (h.inj ap) hj, dj_drop (h.inj ap) hj]
def LuAt (H : Hp) (lu : Addr) (n : Nat) (a u : Nat → Int) : Prop := ∃ js, H lu = some (.dK (dj js a u)) ∧ Js n u js
theorem LuAt.mv {H H' : Hp} {lu : Addr} {n : Nat} {a u : Nat → Int} (h : LuAt H lu n a u) (k : ∀ o, H lu = some o → H' lu = some o) : LuAt H' lu n a u := by
  obtain ⟨js, h1, h2⟩ := h
  exact ⟨js, k _ h1, h2⟩
theorem Sd.mv {C : Addr} {K : PySem.W.Frag} {H H' : Hp} {p d1 d2 d3 d4 wa : Addr} {n : Nat} {a dl : Nat → Int} {s : Nat → Sta} {g : Nat → Bool} {ws : List Int} (R : Sd C K H p d1 d2 d3 d4 wa n a dl s g ws) (k : ∀ c, c = p ∨ c = d1 ∨ c = d2 ∨ c = d3 ∨ c = d4 → ∀ o, H c = some o → H' c = some o) (t : TupF H H') : Sd C K H' p d1 d2 d3 d4 wa n a dl s g ws :=
  ⟨R.r.mv (fun c hc => k c (by rcases hc with z | z | z | z <;> simp [z])) t, k _ (by simp) _ R.del, R.un.imp fun x e => k _ (by simp) _ e, t _ _ R.wan, R.n41, R.n42, R.n43⟩
theorem LdAt.mv {K : PySem.W.Frag} {n : Nat} {a : Nat → Int} {s : Nat → Sta} {H H' : Hp} {d : Addr} (h : LdAt K H d n a s) (k : ∀ o, H d = some o → H' d = some o) (t : TupF H H') : LdAt K H' d n a s := by
  obtain ⟨v, h1, h2⟩ := h
  exact ⟨v, k _ h1, fun j hj => (h2 j hj).tups t⟩
end K33

set_option Elab.async false
set_option linter.all false
set_option maxRecDepth 100000
set_option pp.maxSteps 300
set_option maxHeartbeats 1000000
namespace K33
open PySem L2
def strsV (xs : List Str) : List V := xs.map V.str
theorem strsV_flat (xs : List Str) : (strsV xs).all flatV = true := by
  unfold strsV
  rw [List.all_map]
  exact List.all_eq_true.mpr fun _ _ => rfl
def byW (s : Nat → Sta) (xs : List Str) : Nat → Bool := fun j => inV (.str (s j).1) (strsV xs)
/-- these stand so, the others as they stood -/
def putS (s : Nat → Sta) (p : Nat → Bool) (z : Sta) : Nat → Sta := fun j => if p j = true then z else s j
def spBy (C : Addr) (K : PySem.W.Frag) : Sp := fun vs H Q _ => ∃ p d1 d2 d3 d4 wa n a dl s g wt xs, vs = [.ref p, .ref wt] ∧ SdR C K H p d1 d2 d3 d4 wa n a dl s g ∧ H wt = some (.tup (strsV xs)) ∧ ∀ l H', H l = none → H' l = some (.lst (intsV (sel n a (byW s xs)))) → Same H H' → Q (.ref l) H'
def spPut (C : Addr) (K : PySem.W.Frag) : Sp := fun vs H Q _ => ∃ p d1 d2 d3 d4 wa n a dl s g l pj v z, vs = [.ref p, .ref l, v] ∧ SdR C K H p d1 d2 d3 d4 wa n a dl s g ∧ H l = some (.lst (intsV (sel n a pj))) ∧ StAt K H v z ∧ ∀ H', SdR C K H' p d1 d2 d3 d4 wa n a dl (putS s pj z) g → SameB d2 H H' → Q (.ref l) H'
/-- a deed by hand on those that stand by these words (and are not wanted) -/
def spDo (C : Addr) (K : PySem.W.Frag) (pick : (Nat → Sta) → (Nat → Int) → List Int → Nat → Bool) (z : Sta) : Sp := fun vs H Q _ => ∃ p d1 d2 d3 d4 wa n a dl s g ws, vs = [.ref p] ∧ SdR C K H p d1 d2 d3 d4 wa n a dl s g ∧ H wa = some (.tup (intsV ws)) ∧ ∀ l H', H l = none → H' l = some (.lst (intsV (sel n a (pick s a ws)))) → SdR C K H' p d1 d2 d3 d4 wa n a dl (putS s (pick s a ws) z) g → SameB d2 H H' → Q (.ref l) H'
section
variable {P : Program} {w : World} {K : PySem.W.Frag} {mg : Str → Option Value} {base : Heap} {C st so si : Addr}
theorem ok_by (c : CodeM K C "standing_by" "Sounder.standing_by" s_Sounder_standing_by p_Sounder_standing_by) (T : Tx K mg C st so si) : GoodM P w K mg base C "standing_by" 1 p_Sounder_standing_by (spBy C K) := by
  refine c.good sc_Sounder_standing_by (fun vs H Q E h => ?_) (fun f cdv A outer s H vs Q E hr h => ?_)
  · obtain ⟨p, d1, d2, d3, d4, wa, n, a, dl, s, g, wt, xs, rfl, _⟩ := h
    rfl
  obtain ⟨p, d1, d2, d3, d4, wa, n, a, dl, s, g, wt, xs, rfl, ⟨⟨dx, hp⟩, h1, ⟨v, h2, hv⟩, h3, ap, few, n12, n13, n23⟩, hwt, q⟩ := h
  refine ⟨_, (pss_one (ps_ret (pe_thaw rfl (pe_comp (N' := ["address", "stand", "words"]) rfl (CScope.of (src := [none, none, some 1]) (defScope s_Sounder_standing_by) ["self", "words"] rfl rfl rfl (by decide +kernel) (by decide +kernel) (by decide +kernel) rfl (by decide +kernel)) (pi_items (pe_fld (pv 0) rfl)) (fun _ _ _ _ => (pg_tupK (K := K) (n := 2) rfl rfl (pgs_cons (pg_name (i := 0) (show List.Nodup (["address", "stand", "words"] : List Str) by decide +kernel) rfl (Or.inl rfl)) (pgs_cons (pg_name (i := 1) (show List.Nodup (["address", "stand", "words"] : List Str) by decide +kernel) rfl (Or.inl rfl)) pgs_nil)))) (fun _ _ _ _ => (pf_one (pt_cmpR (op_in_seqK (K := K) rfl) (pe_ix (ix_tupK (K := K) rfl) (pv 1) pe_int (fun _ _ => rfl)) (pv 2) (by with_unfolding_all rfl)))) (fun _ _ _ _ => (pv 0)))))), ?_⟩
  have nfz : ∀ o' u, H d2 ≠ some (.frz o' u) := fun o' u z => by rw [h2] at z; cases z
  refine ⟨_, rfl, p, C, dx, _, _, rfl, hp, T.cl, T.n_standing, get_standing d1 d2 d3 d4 wa, d2, _, rfl, h2, fun o l hl => ?_⟩
  have t0 : TupF H (upd H d2 (.frz o (.dK (dk n a v)))) := TupF.upd (ntOf h2)
  refine comp_di (fun i σ HH => (∃ u v, σ = [u, v, some (.ref wt)]) ∧ HH l = some (.lst (intsV (sel i a (byW s xs)))) ∧ SameB l (upd (upd H d2 (.frz o (.dK (dk n a v)))) l (.lst [])) HH) ⟨⟨none, none, rfl⟩, upd_same, SameB.refl _ _⟩ (fun i σ HH _ h => ?_) (fun i kv t σ HH hx h ft => ?_) (fun σ HH h => ?_)
  · exact h.2.2 _ _ (same_new hl _ _ _ upd_same) (fun z => by rw [← z, upd_same] at hl; cases hl)
  · obtain ⟨⟨u, v', rfl⟩, hl1, sm⟩ := h
    obtain ⟨hi, rfl⟩ := dk_at hx
    have nlt : l ≠ t := ne_of_none hl1 ft
    have kt := same_new ft (.tup [kV (.inl (a i)), v i])
    have tt : TupF H (upd HH t (.tup [kV (.inl (a i)), v i])) := ((t0.trans (TupF.of (same_new hl (.lst [])))).trans (sm.tupF (ntOf upd_same))).trans (TupF.of kt)
    obtain ⟨ts, ets, hts⟩ := ((hv i hi).tups tt).sq
    refine ⟨t, _, rfl, SqT.of upd_same, rfl, _, _, rfl, _, _, rfl, rfl, ?_⟩
    refine ⟨_, rfl, ts, _, _, _, ets, rfl, hts, rfl, _, rfl, wt, _, rfl, .inr (SqT.of (tt _ _ hwt)), rfl, strsV_flat xs, _, rfl, ite2 (fun c1 => ?_) (fun c1 => ?_)⟩
    · have c1 : byW s xs i = true := c1
      refine ⟨_, rfl, _, kt _ _ hl1, ?_, ⟨_, _, rfl⟩, ?_, sm.trans ((SameB.of kt).trans SameB.upd)⟩
      · have := sel_len i a (byW s xs)
        rw [intsV_len]; exact small1000 (by omega)
      · rw [upd_same, sel_succ, if_pos c1, ← intsV_snoc]
        rfl
    · have c1 : ¬ byW s xs i = true := c1
      refine ⟨⟨_, _, rfl⟩, ?_, sm.trans (SameB.of kt)⟩
      rw [sel_succ, if_neg c1, List.append_nil]
      exact kt _ _ hl1
  obtain ⟨_, hl1, sm⟩ := h
  rw [dk_len] at hl1
  have nl : l ≠ d2 := fun z => by rw [z, upd_same] at hl; cases hl
  have fl0 : H l = none := by rw [upd_ne nl] at hl; exact hl
  have sm' : Same (upd H d2 (.frz o (.dK (dk n a v)))) HH := fun y x e => sm _ _ (same_new hl _ _ _ e) fun z => by rw [z, hl] at e; cases e
  refine ⟨d2, o, dk n a v, sm' _ _ upd_same, nfz, q l _ fl0 ?_ (thaw_same sm' h2)⟩
  rw [upd_ne nl]
  exact hl1
theorem ok_put (c : CodeM K C "put_all" "Sounder.put_all" s_Sounder_put_all p_Sounder_put_all) (T : Tx K mg C st so si) : GoodM P w K mg base C "put_all" 1 p_Sounder_put_all (spPut C K) := by
  refine c.good sc_Sounder_put_all (fun vs H Q E h => ?_) (fun f cdv A outer s H vs Q E hr h => ?_)
  · obtain ⟨p, d1, d2, d3, d4, wa, n, a, dl, s, g, l, pj, v, z, rfl, _⟩ := h
    rfl
  obtain ⟨p, d1, d2, d3, d4, wa, n, a, dl, s, g, l, pj, v, z, rfl, ⟨⟨dx, hp⟩, h1, ⟨v2, h2, hv⟩, h3, ap, few, n12, n13, n23⟩, hl, hz, q⟩ := h
  refine ⟨_, (pss_cons (ps_for PassesOwn.never rfl (pi_list (pv 1)) (pg_name (i := 3) sc_Sounder_put_all.nd rfl (Or.inl rfl))
  (pss_one (ps_dput (hu_of hr) (pe_fld (pv 0) rfl) (pv 3) (pv 2) rfl)))
  (pss_one (ps_ret (pv 1)))), ?_⟩
  have np : p ≠ d2 := fun z => by rw [z, h2] at hp; cases hp
  have nl : l ≠ d2 := fun z => by rw [z, h2] at hl; cases hl
  refine ⟨_, rfl, l, rfl, ⟨_, SqL.of hl⟩, ?_⟩
  refine for_list (xs := intsV (sel n a pj)) (fun i σ HH => (∃ u, σ = [some (.ref p), some (.ref l), some v, u]) ∧ SameB d2 H HH ∧ ∃ v', HH d2 = some (.dK (dk n a v')) ∧ ∀ j, j < n → StAt K HH (v' j) (if j ∈ (pk n pj).take i then z else s j)) ⟨⟨_, rfl⟩, SameB.refl _ _, v2, h2, fun j hj => ?_⟩ (fun i σ HH _ h => SqL.of (h.2.1 _ _ hl nl)) (fun i x σ HH hx h => ?_) (fun σ HH h => ?_)
  · rw [List.take_zero, if_neg (by simp)]
    exact hv j hj
  · obtain ⟨⟨u, rfl⟩, sm, v', h2H, hvH⟩ := h
    simp only [List.set_cons_succ, List.set_cons_zero]
    unfold intsV sel at hx
    rw [List.getElem?_map, List.getElem?_map] at hx
    cases ej : (pk n pj)[i]? with
    | none => rw [ej] at hx; cases hx
    | some j0 =>
      rw [ej] at hx
      cases hx
      have hj0 : j0 < n := (pk_mem.mp (List.mem_of_getElem? ej)).1
      refine ⟨_, rfl, _, rfl, p, C, dx, _, _, rfl, sm _ _ hp np, T.cl, T.n_standing, get_standing d1 d2 d3 d4 wa, _, rfl, d2, _, rfl, DPut.k (k := .inl (a j0)) h2H (by rw [dk_len]; exact small1000 (by omega)), ?_⟩
      rw [dk_put ap hj0]
      have tM : TupF HH (upd HH d2 (.dK (dk n a (upF v' j0 v)))) := TupF.upd (ntOf h2H)
      refine ⟨⟨_, rfl⟩, sm.trans SameB.upd, _, upd_same, fun j hj => ?_⟩
      have et : (pk n pj).take (i + 1) = (pk n pj).take i ++ [j0] := by rw [List.take_add_one, ej]; rfl
      rw [et]
      unfold upF
      by_cases e : j = j0
      · rw [if_pos e, if_pos (by rw [e]; simp)]
        exact (hz.tups (sm.tupF (ntOf h2))).tups tM
      · have := (hvH j hj).tups tM
        rw [if_neg e]
        by_cases m : j ∈ (pk n pj).take i
        · rw [if_pos m] at this
          rw [if_pos (List.mem_append_left _ m)]
          exact this
        · rw [if_neg m] at this
          rw [if_neg (by simp [m, e])]
          exact this
  obtain ⟨⟨u, rfl⟩, sm, v', h2H, hvH⟩ := h
  have tM : TupF H HH := sm.tupF (ntOf h2)
  refine ⟨_, rfl, q HH ⟨⟨dx, sm _ _ hp np⟩, rd_tup h1 (fun o e => sm _ _ e n12), ⟨v', h2H, fun j hj => ?_⟩, sm _ _ h3 n23.symm, ap, few, n12, n13, n23⟩ sm⟩
  have := hvH j hj
  rw [intsV_len, show (sel n a pj).length = (pk n pj).length from List.length_map _, List.take_length] at this
  unfold putS
  by_cases m : pj j = true
  · rw [if_pos m]
    rw [if_pos (pk_mem.mpr ⟨hj, m⟩)] at this
    exact this
  · rw [if_neg m]
    rw [if_neg (fun z => m (pk_mem.mp z).2)] at this
    exact this
end
end K33

set_option Elab.async false
set_option linter.all false
set_option maxRecDepth 100000
set_option pp.maxSteps 300
set_option maxHeartbeats 1000000
namespace K33
open PySem L2
theorem SdR.same {C : Addr} {K : PySem.W.Frag} {H H' : Hp} {p d1 d2 d3 d4 wa : Addr} {n : Nat} {a dl : Nat → Int} {s : Nat → Sta} {g : Nat → Bool} (R : SdR C K H p d1 d2 d3 d4 wa n a dl s g) (k : Same H H') : SdR C K H' p d1 d2 d3 d4 wa n a dl s g := R.mv (fun _ _ o e => k _ _ e) (TupF.of k)
theorem intsV_append (xs ys : List Int) : intsV xs ++ intsV ys = intsV (xs ++ ys) := by unfold intsV; rw [List.map_append]
def pPress : (Nat → Sta) → (Nat → Int) → List Int → Nat → Bool := fun s _ _ => byW s ["waiting"]
def pSil : (Nat → Sta) → (Nat → Int) → List Int → Nat → Bool := fun s _ _ => byW s ["sounding"]
def pRes : (Nat → Sta) → (Nat → Int) → List Int → Nat → Bool := fun s a ws j => byW s ["sounding", "silenced"] j && !inV (.int (a j)) (intsV ws)
def spLen (C ca ch : Addr) (K : PySem.W.Frag) : Sp := fun vs H Q E => ∃ p d1 d2 d3 d4 wa n a dl s g x, vs = [.ref p, .int x] ∧ SdR C K H p d1 d2 d3 d4 wa n a dl s g ∧ ((∀ i, i < n → a i ≠ x) → ∀ H', Same H H' → E (.ref ca) none H') ∧
  ∀ i, i < n → a i = x → ((¬ ((s i).1 = "waiting" ∧ g i = false)) → ∀ H', Same H H' → E (.ref ch) none H') ∧
    ((s i).1 = "waiting" → g i = false → ∀ H', SdR C K H' p d1 d2 d3 d4 wa n a dl (upF s i (wt ((s i).2 + dl i))) (upF g i true) → SameX [d2, d3] H H' → Q (.int ((s i).2 + dl i)) H')
section
variable {P : Program} {w : World} {K : PySem.W.Frag} {mg : Str → Option Value} {base : Heap} {C st so si : Addr}
theorem ok_press (c : CodeM K C "press" "Sounder.press" s_Sounder_press p_Sounder_press) (T : Tx K mg C st so si) (g_m_standing_by : GoodM P w K mg base C "standing_by" 1 p_Sounder_standing_by (spBy C K)) (g_m_put_all : GoodM P w K mg base C "put_all" 1 p_Sounder_put_all (spPut C K)) (g_waiting : Good P w K mg base "waiting" 1 p_waiting (spWait K)) : GoodM P w K mg base C "press" 2 p_Sounder_press (spDo C K pPress ("waiting", 1)) := by
  refine c.good sc_Sounder_press (fun vs H Q E h => ?_) (fun f cdv A outer s H vs Q E hr h => ?_)
  · obtain ⟨p, d1, d2, d3, d4, wa, n, a, dl, s, g, ws, rfl, _⟩ := h
    rfl
  obtain ⟨p, d1, d2, d3, d4, wa, n, a, dl, s, g, ws, rfl, R, hwa, q⟩ := h
  refine ⟨_, (pss_one (ps_ret (pmeth (pv 0) T.cl g_m_put_all hr (pa_cons (pmeth (pv 0) T.cl g_m_standing_by hr (pa_cons (pe_tup (pa_cons pe_str pa_nil)) pa_nil)) (pa_cons (pcall g_waiting hr (pa_cons pe_int pa_nil)) pa_nil))))), ?_⟩
  obtain ⟨dx, hp⟩ := R.ins
  obtain ⟨v2, h2, _⟩ := R.sta
  refine ⟨_, rfl, p, dx, _, rfl, hp, fno (by decide +kernel), _, rfl, p, dx, _, rfl, hp, fno (by decide +kernel), leSize (by show 1 ≤ 1000; decide), fun wt hwt => ?_⟩
  have k1 := same_new hwt (.tup [.str "waiting"])
  refine ⟨p, d1, d2, d3, d4, wa, n, a, dl, s, g, wt, ["waiting"], rfl, R.same k1, upd_same, fun l H1 fl hl1 s1 => ?_⟩
  refine ⟨1, rfl, fun v H2 hv2 s2 => ?_⟩
  have k12 := k1.trans (s1.trans s2)
  refine ⟨p, d1, d2, d3, d4, wa, n, a, dl, s, g, l, byW s ["waiting"], v, ("waiting", 1), rfl, R.same k12, s2 _ _ hl1, hv2, fun H3 R3 s3 => q l H3 (k1.free fl) ?_ R3 ((SameB.of k12).trans s3)⟩
  exact s3 _ _ (s2 _ _ hl1) (fun z => by rw [z, k1 _ _ h2] at fl; cases fl)
theorem ok_silence (c : CodeM K C "silence" "Sounder.silence" s_Sounder_silence p_Sounder_silence) (T : Tx K mg C st so si) (g_m_standing_by : GoodM P w K mg base C "standing_by" 1 p_Sounder_standing_by (spBy C K)) (g_m_put_all : GoodM P w K mg base C "put_all" 1 p_Sounder_put_all (spPut C K)) : GoodM P w K mg base C "silence" 2 p_Sounder_silence (spDo C K pSil ("silenced", 0)) := by
  refine c.good sc_Sounder_silence (fun vs H Q E h => ?_) (fun f cdv A outer s H vs Q E hr h => ?_)
  · obtain ⟨p, d1, d2, d3, d4, wa, n, a, dl, s, g, ws, rfl, _⟩ := h
    rfl
  obtain ⟨p, d1, d2, d3, d4, wa, n, a, dl, s, g, ws, rfl, R, hwa, q⟩ := h
  refine ⟨_, (pss_one (ps_ret (pmeth (pv 0) T.cl g_m_put_all hr (pa_cons (pmeth (pv 0) T.cl g_m_standing_by hr (pa_cons (pe_tup (pa_cons pe_str pa_nil)) pa_nil)) (pa_cons (pe_cst rfl T.SILENCED) pa_nil))))), ?_⟩
  obtain ⟨dx, hp⟩ := R.ins
  obtain ⟨v2, h2, _⟩ := R.sta
  refine ⟨_, rfl, p, dx, _, rfl, hp, fno (by decide +kernel), _, rfl, p, dx, _, rfl, hp, fno (by decide +kernel), leSize (by show 1 ≤ 1000; decide), fun wt hwt => ?_⟩
  have k1 := same_new hwt (.tup [.str "sounding"])
  refine ⟨p, d1, d2, d3, d4, wa, n, a, dl, s, g, wt, ["sounding"], rfl, R.same k1, upd_same, fun l H1 fl hl1 s1 => ?_⟩
  have k12 := k1.trans s1
  refine ⟨p, d1, d2, d3, d4, wa, n, a, dl, s, g, l, byW s ["sounding"], _, ("silenced", 0), rfl, R.same k12, hl1, ⟨si, rfl, .inr T.silenced⟩, fun H3 R3 s3 => q l H3 (k1.free fl) ?_ R3 ((SameB.of k12).trans s3)⟩
  exact s3 _ _ hl1 (fun z => by rw [z, k1 _ _ h2] at fl; cases fl)
theorem ok_reset (c : CodeM K C "reset" "Sounder.reset" s_Sounder_reset p_Sounder_reset) (T : Tx K mg C st so si) (g_m_standing_by : GoodM P w K mg base C "standing_by" 1 p_Sounder_standing_by (spBy C K)) (g_m_put_all : GoodM P w K mg base C "put_all" 1 p_Sounder_put_all (spPut C K)) : GoodM P w K mg base C "reset" 2 p_Sounder_reset (spDo C K pRes ("still", 0)) := by
  refine c.good sc_Sounder_reset (fun vs H Q E h => ?_) (fun f cdv A outer s H vs Q E hr h => ?_)
  · obtain ⟨p, d1, d2, d3, d4, wa, n, a, dl, s, g, ws, rfl, _⟩ := h
    rfl
  obtain ⟨p, d1, d2, d3, d4, wa, n, a, dl, s, g, ws, rfl, R, hwa, q⟩ := h
  refine ⟨_, (pss_cons (ps_set (i := 1) sc_Sounder_reset.nd rfl (Or.inl rfl) (pmeth (pv 0) T.cl g_m_standing_by hr (pa_cons (pe_tup (pa_cons pe_str (pa_cons pe_str pa_nil))) pa_nil)))
  (pss_one (ps_ret (pmeth (pv 0) T.cl g_m_put_all hr (pa_cons (pe_comp (N' := ["address", "self"]) rfl (CScope.of (src := [none, some 0]) (defScope s_Sounder_reset) ["self", "loud"] rfl rfl rfl (by decide +kernel) (by decide +kernel) (by decide +kernel) rfl (by decide +kernel)) (pi_list (pv 1)) (fun _ _ _ _ => (pg_name (i := 0) (show List.Nodup (["address", "self"] : List Str) by decide +kernel) rfl (Or.inl rfl))) (fun _ _ _ _ => (pf_one (pt_cmpR (op_notIn_seqK (K := K) rfl) (pv 0) (pe_fldK (K := K) rfl (pv 1) rfl) (by with_unfolding_all rfl)))) (fun _ _ _ _ => (pv 0))) (pa_cons (pe_cst rfl T.STILL) pa_nil)))))), ?_⟩
  obtain ⟨dx, hp⟩ := R.ins
  obtain ⟨v2, h2, _⟩ := R.sta
  refine ⟨_, rfl, p, dx, _, rfl, hp, fno (by decide +kernel), leSize (by show 2 ≤ 1000; decide), fun wt hwt => ?_⟩
  have k1 := same_new hwt (.tup [.str "sounding", .str "silenced"])
  refine ⟨p, d1, d2, d3, d4, wa, n, a, dl, s, g, wt, ["sounding", "silenced"], rfl, R.same k1, upd_same, fun l0 H1 fl0 hl0 s1 => ?_⟩
  have k12 := k1.trans s1
  refine ⟨_, rfl, p, dx, _, rfl, k12 _ _ hp, fno (by decide +kernel), _, rfl, l0, rfl, ⟨_, SqL.of hl0⟩, fun l hl => ?_⟩
  have few := R.few
  refine comp_list (xs := intsV (sel n a (byW s ["sounding", "silenced"]))) (fun i σ HH => (∃ u, σ = [u, some (.ref p)]) ∧ HH = upd H1 l (.lst (intsV (((sel n a (byW s ["sounding", "silenced"])).take i).filter fun x => !inV (.int x) (intsV ws))))) ⟨⟨none, rfl⟩, rfl⟩ (fun i σ HH _ h => ?_) (fun i x σ HH hx h => ?_) (fun σ HH h => ?_)
  · rw [h.2]; exact SqL.of (same_new hl _ _ _ hl0)
  · obtain ⟨⟨u, rfl⟩, rfl⟩ := h
    unfold intsV at hx
    rw [List.getElem?_map] at hx
    obtain ⟨y, hy, rfl⟩ := Option.map_eq_some_iff.mp hx
    have kl := fun o => same_new hl o
    refine ⟨_, rfl, _, rfl, p, C, dx, _, _, rfl, kl _ _ _ (k12 _ _ hp), T.cl, T.n_wanted, get_wanted d1 d2 d3 d4 wa, wa, _, rfl, .inr (SqT.of (kl _ _ _ (k12 _ _ hwa))), rfl, intsV_flat ws, _, rfl, ite2 (fun c1 => ?_) (fun c1 => ?_)⟩
    · have c1 : (!inV (.int y) (intsV ws)) = true := c1
      refine ⟨_, rfl, _, upd_same, ?_, ⟨_, rfl⟩, ?_⟩
      · have z1 := List.length_filter_le (fun x => !inV (.int x) (intsV ws)) ((sel n a (byW s ["sounding", "silenced"])).take i)
        have z2 := sel_len n a (byW s ["sounding", "silenced"])
        rw [List.length_take] at z1
        rw [intsV_len]; exact small1000 (by omega)
      · rw [upd_upd, List.take_add_one, hy, List.filter_append, ← intsV_append]
        congr 3
        show _ = intsV (List.filter _ [y])
        rw [List.filter_cons_of_pos (p := fun x => !inV (.int x) (intsV ws)) c1]
        rfl
    · have c1 : ¬ (!inV (.int y) (intsV ws)) = true := c1
      refine ⟨⟨_, rfl⟩, ?_⟩
      rw [List.take_add_one, hy, List.filter_append]
      show _ = upd H1 l (.lst (intsV (_ ++ List.filter _ [y])))
      rw [List.filter_cons_of_neg (p := fun x => !inV (.int x) (intsV ws)) c1]
      show _ = upd H1 l (.lst (intsV (_ ++ [])))
      rw [List.append_nil]
  obtain ⟨_, rfl⟩ := h
  rw [intsV_len, List.take_length, sel_filter]
  have k3 := same_new hl (.lst (intsV (sel n a fun j => byW s ["sounding", "silenced"] j && !inV (.int (a j)) (intsV ws))))
  have k13 := k12.trans k3
  refine ⟨p, d1, d2, d3, d4, wa, n, a, dl, s, g, l, pRes s a ws, _, ("still", 0), rfl, R.same k13, upd_same, ⟨st, rfl, .inr T.still⟩, fun H3 R3 s3 => q l H3 (k12.free hl) ?_ R3 ((SameB.of k13).trans s3)⟩
  exact s3 _ _ upd_same (fun z => by rw [z, k12 _ _ h2] at hl; cases hl)
theorem ok_lengthen {hc c0 c1 c2 c3 c4 c5 c6 c7 c8 c9 c10 c11 c12 : Addr} (c : CodeM K C "lengthen" "Sounder.lengthen" s_Sounder_lengthen p_Sounder_lengthen) (T : Tx K mg C st so si) (XE : Er K mg hc c0 c1 c2 c3 c4 c5 c6 c7 c8 c9 c10 c11 c12) (k_NoHand : Knd K hc c7 [c0, c1, c2, c3, c4, c5, c6, c7, c8, c9, c10, c11, c12] 7) (g_m_check_address : GoodMX P w K mg base C "check_address" 2 p_Sounder_check_address (spChk C c5 K)) (g_waiting : Good P w K mg base "waiting" 1 p_waiting (spWait K)) : GoodMX P w K mg base C "lengthen" 3 p_Sounder_lengthen (spLen C c5 c7 K) := by
  refine c.goodX sc_Sounder_lengthen (fun vs H Q E h => ?_) (fun X f cdv A outer s H vs Q E eX hx hr h => ?_)
  · obtain ⟨p, d1, d2, d3, d4, wa, n, a, dl, s, g, x, rfl, _⟩ := h
    rfl
  subst eX
  obtain ⟨p, d1, d2, d3, d4, wa, n, a, dl, s, g, x, rfl, R, qA, q⟩ := h
  refine ⟨_, (pss_cons (ps_expr (pmethX (pv 0) T.cl g_m_check_address hr hx (pa_cons (pv 1) pa_nil)))
  (pss_cons (ps_asg (pe_dget (hu_of hr) (pe_fld (pv 0) rfl) (pv 1) (fun _ _ => rfl)) (pg_tup rfl (pgs_cons (pg_name (i := 2) sc_Sounder_lengthen.nd rfl (Or.inl rfl)) (pgs_cons (pg_name (i := 3) sc_Sounder_lengthen.nd rfl (Or.inl rfl)) pgs_nil))))
  (pss_cons (ps_if (PW.pt (pw_or (pt_cmpR op_ne (pv 2) pe_str (nomark _)) (pw_or1 (pt_val (pe_dget (hu_of hr) (pe_fld (pv 0) rfl) (pv 1) (fun _ _ => rfl)))))) (pss_one (ps_raise rfl k_NoHand.xc rfl XE.nNoHand hx (pa_cons pe_str pa_nil))) pss_nil)
  (pss_cons (ps_dput (hu_of hr) (pe_fld (pv 0) rfl) (pv 1) pe_bl rfl)
  (pss_cons (ps_dput (hu_of hr) (pe_fld (pv 0) rfl) (pv 1) (pcall g_waiting hr (pa_cons (pe_op op_add (pv 3) (pe_dget (hu_of hr) (pe_fld (pv 0) rfl) (pv 1) (fun _ _ => rfl))) pa_nil)) rfl)
  (pss_one (ps_ret (pe_op op_add (pv 3) (pe_dget (hu_of hr) (pe_fld (pv 0) rfl) (pv 1) (fun _ _ => rfl)))))))))), ?_⟩
  have R' := R
  obtain ⟨⟨dx, hp⟩, h1, ⟨v, h2, hv⟩, h3, ap, few, n12, n13, n23⟩ := R'
  refine ⟨_, rfl, p, dx, _, rfl, hp, fno (by decide +kernel), _, rfl, p, d1, d2, d3, d4, wa, n, a, dl, s, g, x, rfl, R, (fun hex => ?_), (fun no H' s' => qA no H' s')⟩
  obtain ⟨i, hi, rfl⟩ := hex
  obtain ⟨qH, qQ⟩ := q i hi rfl
  obtain ⟨t, et, ht⟩ := (hv i hi).sq
  have g2 : DGet H d2 (.int (a i)) (some (v i)) := .inl ⟨_, .inl (a i), .inl h2, rfl, (dk_val ap hi).symm⟩
  have g3 : DGet H d3 (.int (a i)) (some (.bl (g i))) := .inl ⟨_, .inl (a i), .inl h3, rfl, (dk_val (v := fun j => V.bl (g j)) ap hi).symm⟩
  refine ⟨_, rfl, p, C, dx, _, _, rfl, hp, T.cl, T.n_standing, get_standing d1 d2 d3 d4 wa, _, rfl, d2, _, rfl, g2, t, _, et, ht, rfl, _, _, rfl, _, _, rfl, rfl, ?_⟩
  simp only [List.set_cons_succ, List.set_cons_zero]
  refine ⟨_, rfl, rfl, _, rfl, ite2 (fun c1 => ?_) (fun c1 => ?_)⟩
  · refine iteT ⟨leSize (by show 1 ≤ 1000; decide), qH (fun z => ?_) _ (Same.refl H)⟩
    rw [z.1, decide_eq_true rfl] at c1
    cases c1
  have hw : (s i).1 = "waiting" := by
    have z : decide (V.str (s i).1 = V.str "waiting") = true := by
      cases e : decide (V.str (s i).1 = V.str "waiting") with
      | true => rfl
      | false => rw [e] at c1; exact absurd rfl c1
    exact dstr z
  refine ⟨_, rfl, p, C, dx, _, _, rfl, hp, T.cl, T.n_lengthened, get_lengthened d1 d2 d3 d4 wa, _, rfl, d3, _, rfl, g3, _, rfl, ite2 (fun c2 => ?_) (fun c2 => ?_)⟩
  · exact ⟨leSize (by show 1 ≤ 1000; decide), qH (fun z => by rw [z.2] at c2; cases c2) _ (Same.refl H)⟩
  have hg : g i = false := by
    cases e : g i with
    | false => rfl
    | true => rw [e] at c2; exact absurd rfl c2
  have np1 : p ≠ d3 := fun z => by rw [z, h3] at hp; cases hp
  have np2 : p ≠ d2 := fun z => by rw [z, h2] at hp; cases hp
  refine ⟨_, rfl, p, C, dx, _, _, rfl, hp, T.cl, T.n_lengthened, get_lengthened d1 d2 d3 d4 wa, _, rfl, d3, _, rfl, DPut.k (k := .inl (a i)) h3 (by rw [dk_len]; exact small1000 (by omega)), ?_⟩
  rw [dk_put ap hi]
  have eg : upF (fun j => V.bl (g j)) i (.bl true) = fun j => V.bl (upF g i true j) := by
    funext j
    unfold upF
    split <;> rfl
  rw [eg]
  have k1 : SameB d3 H (upd H d3 (.dK (dk n a fun j => V.bl (upF g i true j)))) := SameB.upd
  have u3 : (upd H d3 (.dK (dk n a fun j => V.bl (upF g i true j)))) d3 = some (.dK (dk n a fun j => V.bl (upF g i true j))) := upd_same
  have t1 : TupF H (upd H d3 (.dK (dk n a fun j => V.bl (upF g i true j)))) := TupF.upd (ntOf h3)
  generalize upd H d3 (.dK (dk n a fun j => V.bl (upF g i true j))) = H1 at k1 u3 t1 ⊢
  have gD : ∀ H' : Hp, Rd H' d1 (.dK (dk n a fun j => .int (dl j))) → DGet H' d1 (.int (a i)) (some (.int (dl i))) := fun H' r => .inl ⟨_, .inl (a i), r, rfl, (dk_val (v := fun j => V.int (dl j)) ap hi).symm⟩
  have h11 := rd_tup h1 (H' := H1) fun u z => k1 _ _ z n13
  refine ⟨_, rfl, _, rfl, p, C, dx, _, _, rfl, k1 _ _ hp np1, T.cl, T.n_delays, get_delays d1 d2 d3 d4 wa, _, rfl, d1, _, rfl, gD _ h11, _, _, rfl, rfl, _, rfl, fun vn HN hvn sN => ?_⟩
  have h2N := sN _ _ (k1 _ _ h2 n23)
  refine ⟨_, rfl, p, C, dx, _, _, rfl, sN _ _ (k1 _ _ hp np1), T.cl, T.n_standing, get_standing d1 d2 d3 d4 wa, _, rfl, d2, _, rfl, DPut.k (k := .inl (a i)) h2N (by rw [dk_len]; exact small1000 (by omega)), ?_⟩
  rw [dk_put ap hi]
  have k2 : SameB d2 HN (upd HN d2 (.dK (dk n a (upF v i vn)))) := SameB.upd
  have u2 : (upd HN d2 (.dK (dk n a (upF v i vn)))) d2 = some (.dK (dk n a (upF v i vn))) := upd_same
  have t2 : TupF HN (upd HN d2 (.dK (dk n a (upF v i vn)))) := TupF.upd (ntOf h2N)
  generalize upd HN d2 (.dK (dk n a (upF v i vn))) = H2 at k2 u2 t2 ⊢
  have h12 := rd_tup (rd_tup h11 (H' := HN) fun u z => sN _ _ z) (H' := H2) fun u z => k2 _ _ z n12
  have hp2 := k2 _ _ (sN _ _ (k1 _ _ hp np1)) np2
  refine ⟨_, rfl, _, rfl, p, C, dx, _, _, rfl, hp2, T.cl, T.n_delays, get_delays d1 d2 d3 d4 wa, _, rfl, d1, _, rfl, gD _ h12, _, _, rfl, rfl, ?_⟩
  refine qQ hw hg H2 ⟨⟨dx, hp2⟩, h12, ⟨_, u2, fun j hj => ?_⟩, k2 _ _ (sN _ _ u3) n23.symm, ap, few, n12, n13, n23⟩ (((SameX.ofB k1 (by simp)).trans (SameX.of sN)).trans (SameX.ofB k2 (by simp)))
  unfold upF
  by_cases e : j = i
  · rw [if_pos e, if_pos e]
    exact hvn.tups t2
  · rw [if_neg e, if_neg e]
    exact (((hv j hj).tups t1).tups (TupF.of sN)).tups t2
end
end K33

set_option Elab.async false
set_option linter.all false
set_option maxRecDepth 100000
set_option maxHeartbeats 1000000
namespace K33
open PySem L2
theorem dk_nd {n : Nat} {a : Nat → Int} {v : Nat → V} (ap : Apart n a) : ((dk n a v).map (·.1)).Nodup := by
  rw [dk_keys]
  unfold List.Nodup
  rw [List.pairwise_map]
  refine List.Pairwise.imp_of_mem ?_ List.nodup_range
  intro i j hi hj ne e
  exact ne (ap i j (List.mem_range.mp hi) (List.mem_range.mp hj) (Sum.inl.inj e))
end K33

set_option Elab.async false
set_option linter.all false
set_option maxRecDepth 100000
set_option pp.maxSteps 300
set_option maxHeartbeats 1000000
namespace K33
open PySem L2
theorem ints_reps {H : Hp} : ∀ zs : List Int, Reps H (intsV zs) (zs.map PyData.int)
  | [] => .nil
  | z :: r => .cons (.int z) (ints_reps r)
theorem ints_lay : ∀ zs : List Int, PyData.canLayAll0 (zs.map PyData.int) = true ∧ PyData.depthAll (zs.map PyData.int) ≤ 1
  | [] => ⟨rfl, by show 0 ≤ 1; decide⟩
  | b :: r => by
    have ih := ints_lay r
    refine ⟨?_, ?_⟩
    · show (true && PyData.canLayAll0 (r.map PyData.int)) = true
      rw [ih.1]; rfl
    · show max 0 (PyData.depthAll (r.map PyData.int)) ≤ 1
      exact Nat.max_le.mpr ⟨by decide, ih.2⟩
theorem ints_shaped (zs : List Int) : SeqAt.shaped (.list (zs.map PyData.int)) = true := by
  have h1 := ints_lay zs
  show (PyData.canLayAll0 (zs.map PyData.int) && decide (PyData.depthAll (zs.map PyData.int) + 1 ≤ 64)) = true
  rw [h1.1, Bool.true_and]
  exact decide_eq_true (by omega)
/-- pairs of whole numbers -/
def PrAt (H : Hp) (v : V) (e : Int × Int) : Prop := ∃ t, v = .ref t ∧ H t = some (.tup [.int e.1, .int e.2])
theorem PrAt.tups {H H' : Hp} {v : V} {e : Int × Int} (h : PrAt H v e) (s : TupF H H') : PrAt H' v e := by
  obtain ⟨t, e, q⟩ := h
  exact ⟨t, e, s _ _ q⟩
theorem Prs.tups {H H' : Hp} {vs : List V} {es : List (Int × Int)} (h : Paired (PrAt H) vs es) (s : TupF H H') : Paired (PrAt H') vs es := Paired.mapP h fun _ _ z => z.tups s
def pos (u : Nat → Int) : Nat → Bool := fun j => decide (0 < u j)
def prs (n : Nat) (a u : Nat → Int) : List (Int × Int) := (pk n (pos u)).map fun j => (a j, u j)
theorem prs_succ (i : Nat) (a u : Nat → Int) : prs (i + 1) a u = prs i a u ++ (if pos u i = true then [(a i, u i)] else []) := by
  unfold prs
  rw [pk_succ, List.map_append]
  congr 1
  split <;> rfl
theorem prs_len (n : Nat) (a u : Nat → Int) : (prs n a u).length ≤ n := by unfold prs; rw [List.length_map]; exact pk_len n _
def sndU (s : Nat → Sta) (u : Nat → Int) : Nat → Bool := fun j => byW s ["sounding"] j && decide (u j ≤ 0)
def spOut (C : Addr) (K : PySem.W.Frag) : Sp := fun vs H Q _ => ∃ p d1 d2 d3 d4 wa n a dl s g u i y, vs = [.ref p, .int (a i), .int y] ∧ i < n ∧ SdR C K H p d1 d2 d3 d4 wa n a dl s g ∧ H d4 = some (.dK (dk n a (unV u))) ∧ ∀ H', H' d4 = some (.dK (dk n a (unV (upF u i y)))) → SameB d4 H H' → Q .non H'
def spSnd (C : Addr) (K : PySem.W.Frag) : Sp := fun vs H Q _ => ∃ p d1 d2 d3 d4 wa n a dl s g u, vs = [.ref p] ∧ SdR C K H p d1 d2 d3 d4 wa n a dl s g ∧ H d4 = some (.dK (dk n a (unV u))) ∧ ∀ l H', H l = none → H' l = some (.lst (intsV (sel n a (sndU s u)))) → Same H H' → Q (.ref l) H'
def spOou (C : Addr) (K : PySem.W.Frag) : Sp := fun vs H Q _ => ∃ p d1 d2 d3 d4 wa n a dl s g u, vs = [.ref p] ∧ SdR C K H p d1 d2 d3 d4 wa n a dl s g ∧ H d4 = some (.dK (dk n a (unV u))) ∧ ∀ l tv H', H l = none → H' l = some (.lst tv) → Paired (PrAt H') tv (prs n a u) → Same H H' → Q (.ref l) H'
theorem pk_nd (n : Nat) (p : Nat → Bool) : (pk n p).Nodup := by
  unfold pk
  exact List.Pairwise.filter _ List.nodup_range
theorem sel_rise {n : Nat} {a : Nat → Int} (h : Asc n a) (p : Nat → Bool) : (sel n a p).Pairwise (· ≤ ·) := by
  unfold sel pk
  rw [List.pairwise_map]
  refine List.Pairwise.filter _ (List.Pairwise.imp_of_mem ?_ List.pairwise_lt_range)
  intro i j _ hj hij
  exact Int.le_of_lt (h i j hij (List.mem_range.mp hj))
theorem js_perm {n : Nat} {u : Nat → Int} {js : List Nat} (h : Js n u js) : js.Perm (pk n (pos u)) := (List.perm_ext_iff_of_nodup h.nd (pk_nd n _)).mpr fun j => by
  rw [h.mem, pk_mem]
  unfold pos
  rw [decide_eq_true_eq]
/-- sorted(list(unused)): the addresses of those out of use, rising -/
theorem sorted_sel {n : Nat} {a u : Nat → Int} {js : List Nat} {ms : List Int} (as : Asc n a) (h : Js n u js) (pm : ms.Perm (js.map a)) (pw : ms.Pairwise (· ≤ ·)) : ms = sel n a (pos u) :=
  List.Perm.eq_of_pairwise (le := (· ≤ ·)) (fun x y _ _ h1 h2 => Int.le_antisymm h1 h2) pw (sel_rise as _) (pm.trans ((js_perm h).map a))
theorem dj_keys (js : List Nat) (a u : Nat → Int) : (dj js a u).map (fun kv => kV kv.1) = (js.map a).map V.int := by
  unfold dj
  rw [List.map_map, List.map_map]
  rfl
theorem LuAt.get {H : Hp} {lu : Addr} {n j : Nat} {a u : Nat → Int} (h : LuAt H lu n a u) (ap : Apart n a) (hj : j < n) : DGet H lu (.int (a j)) (if 0 < u j then some (.int (u j)) else none) := by
  obtain ⟨js, h1, h2⟩ := h
  refine .inl ⟨_, .inl (a j), .inl h1, rfl, ?_⟩
  by_cases c : 0 < u j
  · rw [if_pos c, dj_val (h2.inj ap) ((h2.mem j).mpr ⟨hj, c⟩)]
  · rw [if_neg c, dj_none fun i hi e => c (by rw [← ap i j ((h2.mem i).mp hi).1 hj e]; exact ((h2.mem i).mp hi).2)]
def prD (e : Int × Int) : PyData := .tuple [.int e.1, .int e.2]
theorem prs_reps {H : Hp} : ∀ {vs : List V} {es : List (Int × Int)}, Paired (PrAt H) vs es → Reps H vs (es.map prD)
  | _, _, .nil => .nil
  | _, _, .cons ⟨t, e, h⟩ r => .cons (by rw [e]; exact .tup h (.cons (.int _) (.cons (.int _) .nil))) (prs_reps r)
theorem pr_lay : ∀ es : List (Int × Int), PyData.canLayAll0 (es.map prD) = true ∧ PyData.depthAll (es.map prD) ≤ 1
  | [] => ⟨rfl, by show 0 ≤ 1; decide⟩
  | e :: r => by
    have ih := pr_lay r
    refine ⟨?_, ?_⟩
    · show ((true && (true && true)) && PyData.canLayAll0 (r.map prD)) = true
      rw [ih.1]; rfl
    · show max (max 0 (max 0 0) + 1) (PyData.depthAll (r.map prD)) ≤ 1
      exact Nat.max_le.mpr ⟨by decide, ih.2⟩
theorem pr_shaped (es : List (Int × Int)) : SeqAt.shaped (.list (es.map prD)) = true := by
  have h1 := pr_lay es
  show (PyData.canLayAll0 (es.map prD) && decide (PyData.depthAll (es.map prD) + 1 ≤ 64)) = true
  rw [h1.1, Bool.true_and]
  exact decide_eq_true (by omega)
theorem byW1 (s : Nat → Sta) (x : Str) (j : Nat) : byW s [x] j = decide (V.str (s j).1 = V.str x) := by
  show ((x == (s j).1) || false) = _
  rw [Bool.or_false]
  by_cases e : (s j).1 = x
  · rw [e, decide_eq_true rfl, beq_self_eq_true]
  · rw [decide_eq_false (fun z => e (V.str.inj z))]
    exact beq_eq_false_iff_ne.mpr (Ne.symm e)
section
variable {P : Program} {w : World} {K : PySem.W.Frag} {mg : Str → Option Value} {base : Heap} {C st so si : Addr}
theorem ok_put_out {ca : Addr} (c : CodeM K C "put_out" "Sounder.put_out" s_Sounder_put_out p_Sounder_put_out) (T : Tx K mg C st so si) (g_m_check_address : GoodMX P w K mg base C "check_address" 2 p_Sounder_check_address (spChk C ca K)) : GoodM P w K mg base C "put_out" 3 p_Sounder_put_out (spOut C K) := by
  refine c.good sc_Sounder_put_out (fun vs H Q E h => ?_) (fun f cdv A outer s H vs Q E hr h => ?_)
  · obtain ⟨p, d1, d2, d3, d4, wa, n, a, dl, s, g, u, i, y, rfl, _⟩ := h
    rfl
  obtain ⟨p, d1, d2, d3, d4, wa, n, a, dl, s, g, u, i, y, rfl, hi, R, h4, q⟩ := h
  refine ⟨_, (pss_cons (ps_expr (pmethX (pv 0) T.cl g_m_check_address hr passX0 (pa_cons (pv 1) pa_nil)))
  (pss_one (ps_dput (hu_of hr) (pe_fld (pv 0) rfl) (pv 1) (pv 2) rfl))), ?_⟩
  obtain ⟨⟨dx, hp⟩, h1, ⟨v, h2, hv⟩, h3, ap, few, n12, n13, n23⟩ := id R
  refine ⟨_, rfl, p, dx, _, rfl, hp, fno (by decide +kernel), _, rfl, p, d1, d2, d3, d4, wa, n, a, dl, s, g, _, rfl, R, (fun _ => ?_), (fun no => absurd rfl (no i hi))⟩
  refine ⟨_, rfl, _, rfl, p, C, dx, _, _, rfl, hp, T.cl, T.n_unused, get_unused d1 d2 d3 d4 wa, _, rfl, d4, _, rfl, DPut.k (k := .inl (a i)) h4 (by rw [dk_len]; exact small1000 (by omega)), ?_⟩
  rw [dk_put ap hi]
  have eu : upF (unV u) i (.int y) = unV (upF u i y) := by
    funext j
    show (if j = i then V.int y else V.int (u j)) = V.int (if j = i then y else u j)
    split <;> rfl
  rw [eu]
  exact q _ upd_same SameB.upd
theorem ok_sounded (c : CodeM K C "sounded" "Sounder.sounded" s_Sounder_sounded p_Sounder_sounded) (T : Tx K mg C st so si) (g_m_standing_by : GoodM P w K mg base C "standing_by" 1 p_Sounder_standing_by (spBy C K)) : GoodM P w K mg base C "sounded" 2 p_Sounder_sounded (spSnd C K) := by
  refine c.good sc_Sounder_sounded (fun vs H Q E h => ?_) (fun f cdv A outer s H vs Q E hr h => ?_)
  · obtain ⟨p, d1, d2, d3, d4, wa, n, a, dl, s, g, u, rfl, _⟩ := h
    rfl
  obtain ⟨p, d1, d2, d3, d4, wa, n, a, dl, s, g, u, rfl, R, h4, q⟩ := h
  refine ⟨_, (pss_one (ps_ret (pe_comp (N' := ["address", "self"]) rfl (CScope.of (src := [none, some 0]) (defScope s_Sounder_sounded) ["self"] rfl rfl rfl (by decide +kernel) (by decide +kernel) (by decide +kernel) rfl (by decide +kernel)) (pi_list (pmeth (pv 0) T.cl g_m_standing_by hr (pa_cons (pe_tup (pa_cons pe_str pa_nil)) pa_nil))) (fun _ _ _ _ => (pg_name (i := 0) (show List.Nodup (["address", "self"] : List Str) by decide +kernel) rfl (Or.inl rfl))) (fun _ _ _ _ => (pf_one (pt_cmpR op_le (pe_dget (hu_of hr) (pe_fldK (K := K) rfl (pv 1) rfl) (pv 0) (fun _ _ => rfl)) pe_int (nomark _)))) (fun _ _ _ _ => (pv 0))))), ?_⟩
  obtain ⟨⟨dx, hp⟩, h1, ⟨v, h2, hv⟩, h3, ap, few, n12, n13, n23⟩ := id R
  refine ⟨_, rfl, p, dx, _, rfl, hp, fno (by decide +kernel), leSize (by show 1 ≤ 1000; decide), fun wt hwt => ?_⟩
  have k1 := same_new hwt (.tup [.str "sounding"])
  refine ⟨p, d1, d2, d3, d4, wa, n, a, dl, s, g, wt, ["sounding"], rfl, R.same k1, upd_same, fun l0 H1 fl0 hl0 s1 => ?_⟩
  have k12 := k1.trans s1
  have kl := fun {l} (hl : H1 l = none) o => same_new hl o
  refine ⟨l0, rfl, ⟨_, SqL.of hl0⟩, fun l hl => ?_⟩
  refine comp_list (xs := intsV (sel n a (byW s ["sounding"]))) (fun i σ HH => (∃ u', σ = [u', some (.ref p)]) ∧ HH = upd H1 l (.lst (intsV ((((pk n (byW s ["sounding"])).take i).filter fun j => decide (u j ≤ 0)).map a)))) ⟨⟨none, rfl⟩, rfl⟩ (fun i σ HH _ h => ?_) (fun i x σ HH hx h => ?_) (fun σ HH h => ?_)
  · rw [h.2]; exact SqL.of (kl hl _ _ _ hl0)
  · obtain ⟨⟨u', rfl⟩, rfl⟩ := h
    unfold intsV sel at hx
    rw [List.getElem?_map, List.getElem?_map] at hx
    cases ej : (pk n (byW s ["sounding"]))[i]? with
    | none => rw [ej] at hx; cases hx
    | some j0 =>
      rw [ej] at hx
      cases hx
      have hj0 : j0 < n := (pk_mem.mp (List.mem_of_getElem? ej)).1
      refine ⟨_, rfl, p, C, dx, _, _, rfl, kl hl _ _ _ (k12 _ _ hp), T.cl, T.n_unused, get_unused d1 d2 d3 d4 wa, _, rfl, d4, _, rfl, .inl ⟨_, .inl (a j0), .inl (kl hl _ _ _ (k12 _ _ h4)), rfl, (dk_val ap hj0).symm⟩, _, _, rfl, rfl, _, rfl, ite2 (fun c1 => ?_) (fun c1 => ?_)⟩
      · refine ⟨_, rfl, _, upd_same, ?_, ⟨_, rfl⟩, ?_⟩
        · have z1 := List.length_filter_le (fun j => decide (u j ≤ 0)) ((pk n (byW s ["sounding"])).take i)
          have z2 := pk_len n (byW s ["sounding"])
          rw [List.length_take] at z1
          rw [intsV_len, List.length_map]; exact small1000 (by omega)
        · rw [upd_upd, List.take_add_one, ej, List.filter_append, List.map_append, ← intsV_append]
          congr 3
          show _ = intsV ((List.filter _ [j0]).map a)
          rw [List.filter_cons_of_pos (p := fun j => decide (u j ≤ 0)) c1]
          rfl
      · refine ⟨⟨_, rfl⟩, ?_⟩
        rw [List.take_add_one, ej, List.filter_append]
        show _ = upd H1 l (.lst (intsV ((_ ++ List.filter _ [j0]).map a)))
        rw [List.filter_cons_of_neg (p := fun j => decide (u j ≤ 0)) c1]
        show _ = upd H1 l (.lst (intsV ((_ ++ []).map a)))
        rw [List.append_nil]
  · obtain ⟨_, rfl⟩ := h
    have e : ((pk n (byW s ["sounding"])).take (intsV (sel n a (byW s ["sounding"]))).length).filter (fun j => decide (u j ≤ 0)) = pk n (sndU s u) := by
      rw [intsV_len, show (sel n a (byW s ["sounding"])).length = (pk n (byW s ["sounding"])).length from List.length_map _, List.take_length]
      unfold pk
      rw [List.filter_filter]
      congr 1
      funext j
      show (decide (u j ≤ 0) && byW s ["sounding"] j) = _
      rw [Bool.and_comm]
      rfl
    rw [e]
    exact q l _ (k12.free hl) upd_same (k12.trans (kl hl _))
theorem ok_oou (c : CodeM K C "out_of_use" "Sounder.out_of_use" s_Sounder_out_of_use p_Sounder_out_of_use) (T : Tx K mg C st so si) : GoodM P w K mg base C "out_of_use" 1 p_Sounder_out_of_use (spOou C K) := by
  refine c.good sc_Sounder_out_of_use (fun vs H Q E h => ?_) (fun f cdv A outer s H vs Q E hr h => ?_)
  · obtain ⟨p, d1, d2, d3, d4, wa, n, a, dl, s, g, u, rfl, _⟩ := h
    rfl
  obtain ⟨p, d1, d2, d3, d4, wa, n, a, dl, s, g, u, rfl, R, h4, q⟩ := h
  refine ⟨_, (pss_one (ps_ret (pe_thaw rfl (pe_comp (N' := ["address", "beats"]) rfl (CScope.plain rfl (by decide +kernel) (by decide +kernel) (by decide +kernel)) (pi_items (pe_fld (pv 0) rfl)) (fun _ _ _ _ => (pg_tupK (K := K) (n := 2) rfl rfl (pgs_cons (pg_name (i := 0) (show List.Nodup (["address", "beats"] : List Str) by decide +kernel) rfl (Or.inl rfl)) (pgs_cons (pg_name (i := 1) (show List.Nodup (["address", "beats"] : List Str) by decide +kernel) rfl (Or.inl rfl)) pgs_nil)))) (fun _ _ _ _ => (pf_one (pt_cmpR op_gt (pv 1) pe_int (nomark _)))) (fun _ _ _ _ => (pe_tup (pa_cons (pv 0) (pa_cons (pv 1) pa_nil)))))))), ?_⟩
  obtain ⟨⟨dx, hp⟩, h1, ⟨v, h2, hv⟩, h3, ap, few, n12, n13, n23⟩ := id R
  have nfz : ∀ o' u, H d4 ≠ some (.frz o' u) := fun o' u z => by rw [h4] at z; cases z
  refine ⟨_, rfl, p, C, dx, _, _, rfl, hp, T.cl, T.n_unused, get_unused d1 d2 d3 d4 wa, d4, _, rfl, h4, fun o l hl => ?_⟩
  refine comp_di (fun i σ HH => (∃ u' v, σ = [u', v]) ∧ (∃ tv, HH l = some (.lst tv) ∧ Paired (PrAt HH) tv (prs i a u)) ∧ SameB l (upd (upd H d4 (.frz o (.dK (dk n a (unV u))))) l (.lst [])) HH) ⟨⟨none, none, rfl⟩, ⟨[], upd_same, .nil⟩, SameB.refl _ _⟩ (fun i σ HH _ h => ?_) (fun i kv t σ HH hx h ft => ?_) (fun σ HH h => ?_)
  · exact h.2.2 _ _ (same_new hl _ _ _ upd_same) (fun z => by rw [← z, upd_same] at hl; cases hl)
  · obtain ⟨⟨u', v, rfl⟩, ⟨tv, hl1, ptv⟩, sm⟩ := h
    obtain ⟨hi, rfl⟩ := dk_at hx
    have kt := same_new ft (.tup [kV (.inl (a i)), unV u i])
    refine ⟨t, _, rfl, SqT.of upd_same, rfl, _, _, rfl, _, _, rfl, rfl, ?_⟩
    refine ⟨_, rfl, _, _, rfl, rfl, _, rfl, ite2 (fun c1 => ?_) (fun c1 => ?_)⟩
    · have c1 : pos u i = true := c1
      refine ⟨_, rfl, _, rfl, leSize (by show 2 ≤ 1000; decide), fun t2 ht2 => ?_⟩
      have k2 := same_new ht2 (.tup [.int (a i), .int (u i)])
      have k12 := kt.trans k2
      have u2 : (upd (upd HH t (.tup [kV (.inl (a i)), unV u i])) t2 (.tup [.int (a i), .int (u i)])) t2 = some (.tup [.int (a i), .int (u i)]) := upd_same
      have k3 : SameB l (upd (upd HH t (.tup [kV (.inl (a i)), unV u i])) t2 (.tup [.int (a i), .int (u i)])) (upd (upd (upd HH t (.tup [kV (.inl (a i)), unV u i])) t2 (.tup [.int (a i), .int (u i)])) l (.lst (tv ++ [.ref t2]))) := SameB.upd
      have t3 := k3.tupF (ntOf (k12 _ _ hl1))
      refine ⟨tv, k12 _ _ hl1, ?_, ⟨_, _, rfl⟩, ⟨_, upd_same, ?_⟩, sm.trans ((SameB.of k12).trans k3)⟩
      · have := prs_len i a u
        rw [Paired.length ptv]; exact small1000 (by omega)
      · rw [prs_succ, if_pos c1]
        exact Paired.snoc (Prs.tups ptv ((TupF.of k12).trans t3)) ⟨t2, rfl, t3 _ _ u2⟩
    · have c1 : ¬ pos u i = true := c1
      refine ⟨⟨_, _, rfl⟩, ⟨tv, kt _ _ hl1, ?_⟩, sm.trans (SameB.of kt)⟩
      rw [prs_succ, if_neg c1, List.append_nil]
      exact Prs.tups ptv (TupF.of kt)
  obtain ⟨_, ⟨tv, hl1, ptv⟩, sm'⟩ := h
  rw [dk_len] at ptv
  have nl : l ≠ d4 := fun z => by rw [z, upd_same] at hl; cases hl
  have fl0 : H l = none := by rw [upd_ne nl] at hl; exact hl
  have sm : Same (upd H d4 (.frz o (.dK (dk n a (unV u))))) HH := fun y x e => sm' _ _ (same_new hl _ _ _ e) fun z => by rw [z, hl] at e; cases e
  refine ⟨d4, o, dk n a (unV u), sm _ _ upd_same, nfz, q l tv _ fl0 ?_ (Prs.tups ptv (TupF.upd (ntOf (sm _ _ upd_same)))) (thaw_same sm h4)⟩
  rw [upd_ne nl]
  exact hl1
end
end K33

set_option Elab.async false
set_option linter.all false
set_option maxRecDepth 100000
set_option pp.maxSteps 300
set_option maxHeartbeats 1000000
namespace K33
open PySem L2
abbrev s_l_standing : Stmt := top 17
abbrev p_l_standing : List Str := ["_law_sounder", "_law_outs_here"]
theorem sc_l_standing : FnScope ["_law_sounder", "_law_outs_here"] p_l_standing (defScope s_l_standing) := ⟨rfl, rfl, rfl, by decide +kernel, rfl, by decide +kernel, by decide +kernel⟩
abbrev s_l_passes : Stmt := top 18
abbrev p_l_passes : List Str := ["_law_was", "_law_now", "_law_wanted_here", "_law_woken", "_law_delay"]
theorem sc_l_passes : FnScope ["_law_was", "_law_now", "_law_wanted_here", "_law_woken", "_law_delay", "_law_left"] p_l_passes (defScope s_l_passes) := ⟨rfl, rfl, rfl, by decide +kernel, rfl, by decide +kernel, by decide +kernel⟩
theorem iteDT {c : Prop} [Decidable c] {A B : Prop} (h : c) (a : A) : if decide c = true then A else B := by rw [if_pos (decide_eq_true h)]; exact a
theorem iteDF {c : Prop} [Decidable c] {A B : Prop} (h : ¬ c) (b : B) : if decide c = true then A else B := by rw [if_neg (fun z => h (of_decide_eq_true z))]; exact b
theorem ws1 : ¬ V.str "still" = V.str "sounding" := by intro h; exact absurd (V.str.inj h) (by decide +kernel)
theorem ws2 : ¬ V.str "still" = V.str "silenced" := by intro h; exact absurd (V.str.inj h) (by decide +kernel)
theorem ws3 : ¬ V.str "still" = V.str "waiting" := by intro h; exact absurd (V.str.inj h) (by decide +kernel)
theorem ww1 : ¬ V.str "waiting" = V.str "sounding" := by intro h; exact absurd (V.str.inj h) (by decide +kernel)
theorem ww2 : ¬ V.str "waiting" = V.str "silenced" := by intro h; exact absurd (V.str.inj h) (by decide +kernel)
theorem wi1 : ¬ V.str "silenced" = V.str "sounding" := by intro h; exact absurd (V.str.inj h) (by decide +kernel)
theorem ns1 : ¬ ("still" : Str) = "silenced" := by decide +kernel
theorem ns2 : ¬ ("still" : Str) = "waiting" := by decide +kernel
theorem ns3 : ¬ ("sounding" : Str) = "silenced" := by decide +kernel
theorem ns4 : ¬ ("sounding" : Str) = "still" := by decide +kernel
theorem ns5 : ¬ ("sounding" : Str) = "waiting" := by decide +kernel
theorem ns6 : ¬ ("silenced" : Str) = "still" := by decide +kernel
theorem ns7 : ¬ ("silenced" : Str) = "waiting" := by decide +kernel
theorem ns8 : ¬ ("waiting" : Str) = "silenced" := by decide +kernel
theorem ns9 : ¬ ("waiting" : Str) = "still" := by decide +kernel
/-- the ways in which an out stands -/
def Gd (s : Sta) : Prop := s = (("still" : Str), (0 : Int)) ∨ s = (("sounding" : Str), (0 : Int)) ∨ s = (("silenced" : Str), (0 : Int)) ∨ ∃ l : Int, 0 < l ∧ s = (("waiting" : Str), l)
theorem Gd.ok {s : Sta} (h : Gd s) : okW s := by
  rcases h with rfl | rfl | rfl | ⟨l, _, rfl⟩
  · show PyData.strOk "still" = true; decide +kernel
  · show PyData.strOk "sounding" = true; decide +kernel
  · show PyData.strOk "silenced" = true; decide +kernel
  · show PyData.strOk "waiting" = true; decide +kernel
theorem gd_wt (l : Int) : Gd (wt l) := by
  unfold wt
  split
  · exact .inr (.inr (.inr ⟨l, by assumption, rfl⟩))
  · exact .inr (.inl rfl)
theorem Gd.nx {dl : Int} {w m : Bool} {s : Sta} (h : Gd s) : Gd (nx dl w m s) := by
  unfold K33.nx
  split
  · exact .inr (.inl rfl)
  · split
    · exact gd_wt _
    · split
      · split
        · exact gd_wt _
        · exact .inl rfl
      · exact h
theorem nx_still {dl : Int} {m : Bool} : nx dl false m ("still", 0) = (("still" : Str), (0 : Int)) := by
  unfold nx
  rw [if_neg (fun z => ns1 z.1), if_neg (fun z => Bool.false_ne_true z.2), if_neg ns2]
theorem nx_stillW {dl : Int} {m : Bool} : nx dl true m ("still", 0) = wt dl := by
  unfold nx
  rw [if_neg (fun z => ns1 z.1), if_pos ⟨rfl, rfl⟩]
theorem nx_snd {dl : Int} {w m : Bool} : nx dl w m ("sounding", 0) = (("sounding" : Str), (0 : Int)) := by
  unfold nx
  rw [if_neg (fun z => ns3 z.1), if_neg (fun z => ns4 z.1), if_neg ns5]
theorem nx_sil {dl : Int} {w : Bool} : nx dl w true ("silenced", 0) = (("sounding" : Str), (0 : Int)) := by
  unfold nx
  rw [if_pos ⟨rfl, rfl⟩]
theorem nx_sil0 {dl : Int} {w : Bool} : nx dl w false ("silenced", 0) = (("silenced" : Str), (0 : Int)) := by
  unfold nx
  rw [if_neg (fun z => Bool.false_ne_true z.2), if_neg (fun z => ns6 z.1), if_neg ns7]
theorem nx_wait {dl l : Int} {m : Bool} : nx dl false m ("waiting", l) = (("still" : Str), (0 : Int)) := by
  unfold nx
  rw [if_neg (fun z => ns8 z.1), if_neg (fun z => ns9 z.1), if_pos rfl, if_neg Bool.false_ne_true]
theorem nx_waitW {dl l : Int} {m : Bool} : nx dl true m ("waiting", l) = wt (l - 1) := by
  unfold nx
  rw [if_neg (fun z => ns8 z.1), if_neg (fun z => ns9 z.1), if_pos rfl, if_pos rfl]
def spStg (C : Addr) (K : PySem.W.Frag) : Sp := fun vs H Q _ => ∃ p oa d1 d2 d3 d4 wa n a dl s g, vs = [.ref p, .ref oa] ∧ SdR C K H p d1 d2 d3 d4 wa n a dl s g ∧ OutsAt H oa n a dl ∧ ∀ d H', H d = none → LdAt K H' d n a s → Same H H' → Q (.ref d) H'
def spPass (K : PySem.W.Frag) : Sp := fun vs H Q _ => ∃ v v' w m dl s, vs = [v, v', .bl w, .bl m, .int dl] ∧ StAt K H v s ∧ StAt K H v' (nx dl w m s) ∧ Gd s ∧ ∀ H', Same H H' → Q (.bl true) H'
section
variable {P : Program} {w : World} {K : PySem.W.Frag} {mg : Str → Option Value} {base : Heap} {C st so si : Addr}
theorem ok_stg (c : Code K mg "_law_standing" s_l_standing p_l_standing) (T : Tx K mg C st so si) (g_m_state_of : GoodM P w K mg base C "state_of" 3 p_Sounder_state_of (spState C K)) : Good P w K mg base "_law_standing" 4 p_l_standing (spStg C K) := by
  refine c.good sc_l_standing (fun vs H Q E h => ?_) (fun f cdv A outer s H vs Q E hr h => ?_)
  · obtain ⟨p, oa, d1, d2, d3, d4, wa, n, a, dl, s, g, rfl, _⟩ := h
    rfl
  obtain ⟨p, oa, d1, d2, d3, d4, wa, n, a, dl, s, g, rfl, R, ⟨to, hoa, hto⟩, q⟩ := h
  refine ⟨_, (pss_one (ps_ret (pe_callTy (call_dictP rfl) rfl T.dict bt_dict (pa_cons (pe_comp (N' := ["_law_address", "_law_delay", "_law_sounder"]) rfl (CScope.of (src := [none, none, some 0]) (defScope s_l_standing) ["_law_sounder", "_law_outs_here"] rfl rfl rfl (by decide +kernel) (by decide +kernel) (by decide +kernel) rfl (by decide +kernel)) (pi_tup (pv 1)) (fun _ _ _ _ => (pg_tupK (K := K) (n := 2) rfl rfl (pgs_cons (pg_name (i := 0) (show List.Nodup (["_law_address", "_law_delay", "_law_sounder"] : List Str) by decide +kernel) rfl (Or.inl rfl)) (pgs_cons (pg_name (i := 1) (show List.Nodup (["_law_address", "_law_delay", "_law_sounder"] : List Str) by decide +kernel) rfl (Or.inl rfl)) pgs_nil)))) (fun _ _ _ _ => pf_nil) (fun _ _ _ _ => (pe_tup (pa_cons (pv 0) (pa_cons (pmeth (pv 2) T.cl g_m_state_of hr (pa_cons (pv 0) pa_nil)) pa_nil))))) pa_nil)))), ?_⟩
  have few := R.few
  have ap := R.ap
  refine ⟨_, rfl, oa, rfl, ⟨_, hoa.sq⟩, fun l hl => ?_⟩
  have kl := same_new hl (.lst [])
  refine comp_tup (xs := (List.range n).map fun j => V.ref (to j)) (fun i σ HH => (∃ u v, σ = [u, v, some (.ref p)]) ∧ (∃ (e : Nat → Addr) (vv : Nat → V), HH l = some (.lst ((List.range i).map fun j => V.ref (e j))) ∧ ∀ j, j < i → HH (e j) = some (.tup [.int (a j), vv j]) ∧ StAt K HH (vv j) (s j)) ∧ SameB l (upd H l (.lst [])) HH) ⟨⟨none, none, rfl⟩, ⟨fun _ => 0, fun _ => .non, upd_same, fun j hj => absurd hj (Nat.not_lt_zero _)⟩, SameB.refl _ _⟩ (fun i σ HH _ h => ?_) (fun i x σ HH hx h => ?_) (fun σ HH h => ?_)
  · exact (hoa.tups ((TupF.of kl).trans (h.2.2.tupF (ntOf upd_same)))).sq
  · obtain ⟨⟨u, v, rfl⟩, ⟨e, vv, q1, q2⟩, q3⟩ := h
    obtain ⟨hj, rfl⟩ := rg_get hx
    have t0 : TupF H HH := (TupF.of kl).trans (q3.tupF (ntOf upd_same))
    have RH : SdR C K HH p d1 d2 d3 d4 wa n a dl s g := R.mv (fun c _ o z => q3 _ _ (kl _ _ z) (fun w => by rw [w, hl] at z; cases z)) t0
    obtain ⟨dx, hp⟩ := RH.ins
    refine ⟨to i, _, rfl, SqT.of (t0 _ _ (hto i hj)), rfl, _, _, rfl, _, _, rfl, rfl, iteT ⟨_, rfl, _, rfl, p, dx, _, rfl, hp, fno (by decide +kernel), _, rfl, p, d1, d2, d3, d4, wa, n, a, dl, s, g, i, rfl, hj, RH, fun vs' hs => ⟨leSize (by show 2 ≤ 1000; decide), fun u2 hu2 => ?_⟩⟩⟩
    have k2 := same_new hu2 (.tup [.int (a i), vs'])
    have w2 : (upd HH u2 (.tup [.int (a i), vs'])) u2 = some (.tup [.int (a i), vs']) := upd_same
    generalize upd HH u2 (.tup [.int (a i), vs']) = H2 at k2 w2 ⊢
    have k3 : SameB l H2 (upd H2 l (.lst ((List.range i).map (fun j => V.ref (e j)) ++ [.ref u2]))) := SameB.upd
    have t3 := k3.tupF (ntOf (k2 _ _ q1))
    refine ⟨_, k2 _ _ q1, by rw [List.length_map, List.length_range]; exact small1000 (by omega), ⟨_, _, rfl⟩, ⟨upF e i u2, upF vv i vs', ?_, fun j hj2 => ?_⟩, q3.trans ((SameB.of k2).trans k3)⟩
    · rw [upd_same, List.range_succ, List.map_append]
      have e1 : (List.range i).map (fun j => V.ref (upF e i u2 j)) = (List.range i).map fun j => V.ref (e j) := List.map_congr_left fun j hj => by
        unfold upF
        rw [if_neg (Nat.ne_of_lt (List.mem_range.mp hj))]
      rw [e1]
      show some (HO.lst (_ ++ [V.ref u2])) = some (HO.lst (_ ++ [V.ref (upF e i u2 i)]))
      unfold upF
      rw [if_pos rfl]
    · unfold upF
      by_cases ej : j = i
      · rw [if_pos ej, if_pos ej, ej]
        exact ⟨t3 _ _ w2, (hs.tups (TupF.of k2)).tups t3⟩
      · obtain ⟨z1, z2⟩ := q2 j (by omega)
        rw [if_neg ej, if_neg ej]
        exact ⟨t3 _ _ (k2 _ _ z1), (z2.tups (TupF.of k2)).tups t3⟩
  obtain ⟨_, ⟨e, vv, q1, q2⟩, q3⟩ := h
  rw [List.length_map, List.length_range] at q1 q2
  have s8H : Same H HH := fun y o z => q3 _ _ (kl _ _ z) fun w => by rw [w, hl] at z; cases z
  refine ⟨l, _, dk n a vv, rfl, q1, paired_rg fun j hj => ⟨e j, rfl, (q2 j hj).1⟩, dk_nd ap, by rw [dk_len]; omega, fun ld fld => ?_⟩
  have kd := same_new fld (.dK (dk n a vv))
  exact q ld _ (s8H.free fld) ⟨vv, upd_same, fun j hj => (q2 j hj).2.tups (TupF.of kd)⟩ (s8H.trans kd)
theorem st_eqv1 {s : Sta} (h : Gd s) : PyData.eqv (stD s) (stD s) = true := SeqAt.eqv_refl _ (SeqAt.canLay_of_shaped (st_shaped h.ok))
theorem ok_pass (c : Code K mg "_law_passes" s_l_passes p_l_passes) (T : Tx K mg C st so si) : Good P w K mg base "_law_passes" 1 p_l_passes (spPass K) := by
  refine c.good sc_l_passes (fun vs H Q E h => ?_) (fun f cdv A outer s H vs Q E hr h => ?_)
  · obtain ⟨v, v', w, m, dl, s, rfl, _⟩ := h
    rfl
  obtain ⟨v, v', w, m, dl, s, rfl, hv, hv', gd, q⟩ := h
  refine ⟨_, (pss_cons (ps_if (PW.pt (pw_or (pt_cmpR op_eq (pe_ix ix_tup (pv 0) pe_int (fun _ _ => rfl)) pe_str (nomark _)) (pw_or1 (pt_cmpR op_eq (pe_ix ix_tup (pv 0) pe_int (fun _ _ => rfl)) pe_str (nomark _))))) (pss_one (ps_ret (pe_ifExp (PW.pt (pw_or (pt_val (pv 3)) (pw_or1 (pt_cmpR op_eq (pe_ix ix_tup (pv 0) pe_int (fun _ _ => rfl)) pe_str (nomark _))))) (pe_cmpR (op_eqK (K := K) rfl hr.units) (pv 1) (pe_tup (pa_cons pe_str (pa_cons pe_int pa_nil))) (nomark _)) (pe_cmpR (op_eqK (K := K) rfl hr.units) (pv 1) (pv 0) (nomark _))))) pss_nil)
  (pss_cons (ps_if (pt_not (pt_val (pv 2))) (pss_one (ps_ret (pe_cmpR (op_eqK (K := K) rfl hr.units) (pv 1) (pe_tup (pa_cons pe_str (pa_cons pe_int pa_nil))) (nomark _)))) pss_nil)
  (pss_cons (ps_set (i := 5) sc_l_passes.nd rfl (Or.inl rfl) (pe_ifExp (pt_cmpR op_eq (pe_ix ix_tup (pv 0) pe_int (fun _ _ => rfl)) pe_str (nomark _)) (pe_op op_sub (pe_ix ix_tup (pv 0) pe_int (fun _ _ => rfl)) pe_int) (pv 4)))
  (pss_one (ps_ret (pe_cmpR (op_eqK (K := K) rfl hr.units) (pv 1) (pe_ifExp (pt_cmpR op_gt (pv 5) pe_int (nomark _)) (pe_tup (pa_cons pe_str (pa_cons (pv 5) pa_nil))) (pe_tup (pa_cons pe_str (pa_cons pe_int pa_nil)))) (nomark _))))))), ?_⟩
  obtain ⟨t, rfl, ht⟩ := hv.sq
  have snd0 : Gd ("sounding", 0) := .inr (.inl rfl)
  have sil0 : Gd ("silenced", 0) := .inr (.inr (.inl rfl))
  have stl0 : Gd ("still", 0) := .inl rfl
  have tupS : ∀ (x : Str) (y : Int), Gd (x, y) → StAt K H v' (x, y) → ∀ t, H t = none → ∃ d e, RepK K (upd H t (.tup [.str x, .int y])) v' d ∧ RepK K (upd H t (.tup [.str x, .int y])) (.ref t) e ∧ SeqAt.shaped d = true ∧ SeqAt.shaped e = true ∧ Q (.bl (PyData.eqv d e)) (upd H t (.tup [.str x, .int y])) := fun x y g hs t ht => by
    refine ⟨stD (x, y), stD (x, y), (hs.tups (TupF.of (same_new ht _))).rep, StAt.rep ⟨t, rfl, .inl upd_same⟩, st_shaped g.ok, st_shaped g.ok, ?_⟩
    rw [st_eqv1 g]
    exact q _ (same_new ht _)
  have gd' := gd
  rcases gd with rfl | rfl | rfl | ⟨l, l0, rfl⟩
  · -- still
    refine ⟨_, rfl, t, _, _, _, rfl, rfl, ht, rfl, rfl, _, rfl, iteDF ws1 ⟨_, rfl, t, _, _, _, rfl, rfl, ht, rfl, rfl, _, rfl, iteDF ws2 ?_⟩⟩
    cases w with
    | false =>
      rw [nx_still] at hv'
      exact ⟨_, rfl, _, rfl, iteT ⟨_, rfl, leSize (by show 2 ≤ 1000; decide), fun u hu => tupS _ _ stl0 hv' u hu⟩⟩
    | true =>
      rw [nx_stillW] at hv'
      refine ⟨_, rfl, _, rfl, iteF ⟨_, rfl, t, _, _, _, rfl, rfl, ht, rfl, rfl, _, rfl, iteDF ws3 ⟨_, rfl, ⟨_, rfl, _, rfl, _, _, rfl, rfl, _, rfl, ite2 (fun c1 => ?_) (fun c1 => ?_)⟩⟩⟩⟩
      · have c1 := of_decide_eq_true c1
        rw [show wt dl = (("waiting" : Str), dl) from if_pos c1] at hv'
        exact ⟨_, rfl, leSize (by show 2 ≤ 1000; decide), fun u hu => tupS _ _ (.inr (.inr (.inr ⟨dl, c1, rfl⟩))) hv' u hu⟩
      · rw [show wt dl = (("sounding" : Str), (0 : Int)) from if_neg (fun z => c1 (decide_eq_true z))] at hv'
        exact ⟨leSize (by show 2 ≤ 1000; decide), fun u hu => tupS _ _ snd0 hv' u hu⟩
  · -- sounding
    rw [nx_snd] at hv'
    refine ⟨_, rfl, t, _, _, _, rfl, rfl, ht, rfl, rfl, _, rfl, iteDT rfl (iteT ?_)⟩
    cases m with
    | true => exact ⟨_, rfl, _, rfl, iteT (iteT ⟨_, rfl, leSize (by show 2 ≤ 1000; decide), fun u hu => tupS _ _ snd0 hv' u hu⟩)⟩
    | false => exact ⟨_, rfl, _, rfl, iteF ⟨_, rfl, t, _, _, _, rfl, rfl, ht, rfl, rfl, _, rfl, iteDT rfl ⟨_, rfl, leSize (by show 2 ≤ 1000; decide), fun u hu => tupS _ _ snd0 hv' u hu⟩⟩⟩
  · -- silenced
    refine ⟨_, rfl, t, _, _, _, rfl, rfl, ht, rfl, rfl, _, rfl, iteDF wi1 ⟨_, rfl, t, _, _, _, rfl, rfl, ht, rfl, rfl, _, rfl, iteDT rfl ?_⟩⟩
    cases m with
    | true =>
      rw [nx_sil] at hv'
      exact ⟨_, rfl, _, rfl, iteT (iteT ⟨_, rfl, leSize (by show 2 ≤ 1000; decide), fun u hu => tupS _ _ snd0 hv' u hu⟩)⟩
    | false =>
      rw [nx_sil0] at hv'
      refine ⟨_, rfl, _, rfl, iteF ⟨_, rfl, t, _, _, _, rfl, rfl, ht, rfl, rfl, _, rfl, iteDF wi1 ⟨_, rfl, _, rfl, stD ("silenced", 0), stD ("silenced", 0), hv'.rep, hv.rep, st_shaped sil0.ok, st_shaped sil0.ok, ?_⟩⟩⟩
      rw [st_eqv1 sil0]
      exact q H (Same.refl H)
  · -- waiting
    refine ⟨_, rfl, t, _, _, _, rfl, rfl, ht, rfl, rfl, _, rfl, iteDF ww1 ⟨_, rfl, t, _, _, _, rfl, rfl, ht, rfl, rfl, _, rfl, iteDF ww2 ?_⟩⟩
    cases w with
    | false =>
      rw [nx_wait] at hv'
      exact ⟨_, rfl, _, rfl, iteT ⟨_, rfl, leSize (by show 2 ≤ 1000; decide), fun u hu => tupS _ _ stl0 hv' u hu⟩⟩
    | true =>
      rw [nx_waitW] at hv'
      refine ⟨_, rfl, _, rfl, iteF ⟨_, rfl, t, _, _, _, rfl, rfl, ht, rfl, rfl, _, rfl, iteDT rfl ⟨_, rfl, t, _, _, _, rfl, rfl, ht, rfl, _, _, rfl, rfl, ⟨_, rfl, _, rfl, _, _, rfl, rfl, _, rfl, ite2 (fun c1 => ?_) (fun c1 => ?_)⟩⟩⟩⟩
      · have c1 := of_decide_eq_true c1
        rw [show wt (l - 1) = (("waiting" : Str), l - 1) from if_pos c1] at hv'
        exact ⟨_, rfl, leSize (by show 2 ≤ 1000; decide), fun u hu => tupS _ _ (.inr (.inr (.inr ⟨l - 1, c1, rfl⟩))) hv' u hu⟩
      · rw [show wt (l - 1) = (("sounding" : Str), (0 : Int)) from if_neg (fun z => c1 (decide_eq_true z))] at hv'
        exact ⟨leSize (by show 2 ≤ 1000; decide), fun u hu => tupS _ _ snd0 hv' u hu⟩
end
end K33

set_option Elab.async false
set_option linter.all false
set_option maxRecDepth 100000
set_option pp.maxSteps 300
set_option maxHeartbeats 2000000
namespace K33
open PySem L2
abbrev s_l_beat_right : Stmt := top 19
abbrev p_l_beat_right : List Str := ["_law_sounder", "_law_outs_here", "_law_wanted_here", "_law_before"]
theorem sc_l_beat_right : FnScope ["_law_sounder", "_law_outs_here", "_law_wanted_here", "_law_before", "_law_was", "_law_unused", "_law_told", "_law_now", "_law_woken", "_law_address", "_law_delay", "_law_due", "_law_some", "_law_left"] p_l_beat_right (defScope s_l_beat_right) := ⟨rfl, rfl, rfl, by decide +kernel, rfl, by decide +kernel, by decide +kernel⟩
def two (u : Nat → Int) : Nat → Bool := fun j => decide (1 < u j)
theorem prs_dj {H : Hp} {a u : Nat → Int} : ∀ {M : List Nat} {vs : List V}, Paired (PrAt H) vs (M.map fun j => (a j, u j)) → Paired (fun (v : V) (kv : Key × V) => ∃ t, v = .ref t ∧ H t = some (.tup [kV kv.1, kv.2])) vs (dj M a u)
  | [], _, .nil => .nil
  | j :: r, _, .cons ⟨t, e, h⟩ q => .cons ⟨t, e, h⟩ (prs_dj q)
theorem pk_js (n : Nat) (u : Nat → Int) : Js n u (pk n (pos u)) := ⟨pk_nd n _, fun j => by
  rw [pk_mem]
  unfold pos
  rw [decide_eq_true_eq]⟩
theorem dj_nd {n : Nat} {a u : Nat → Int} (ap : Apart n a) : ((dj (pk n (pos u)) a u).map (·.1)).Nodup := by
  unfold dj
  rw [List.map_map]
  unfold List.Nodup
  rw [List.pairwise_map]
  refine List.Pairwise.imp_of_mem ?_ (pk_nd n (pos u))
  intro i j hi hj ne e
  exact ne (ap i j (pk_mem.mp hi).1 (pk_mem.mp hj).1 (Sum.inl.inj e))
theorem m_one (n : Nat) (u : Nat → Int) : (pk n (pos u)).filter (one u) = pk n (one u) := by
  unfold pk
  rw [List.filter_filter]
  congr 1
  funext j
  by_cases o : one u j = true
  · have : u j = 1 := V.int.inj (of_decide_eq_true o)
    rw [o, Bool.true_and]
    exact decide_eq_true (by omega)
  · rw [Bool.eq_false_iff.mpr o, Bool.false_and]
theorem m_two (n : Nat) (a u : Nat → Int) : ((pk n (pos u)).filter (two u)).map (fun j => (a j, u j - 1)) = prs n a (dec u) := by
  have e : (pk n (pos u)).filter (two u) = pk n (pos (dec u)) := by
    unfold pk
    rw [List.filter_filter]
    congr 1
    funext j
    unfold two pos dec
    by_cases c : 1 < u j
    · rw [decide_eq_true c, Bool.true_and, decide_eq_true (show 0 < u j by omega), if_pos (show u j - 1 > 0 by omega), decide_eq_true (show 0 < u j - 1 by omega)]
    · rw [decide_eq_false c, Bool.false_and, if_neg (show ¬ u j - 1 > 0 by omega)]
      rfl
  rw [e]
  unfold prs
  refine List.map_congr_left fun j hj => ?_
  have := of_decide_eq_true (pk_mem.mp hj).2
  have h : 0 < dec u j := this
  unfold dec at h ⊢
  split at h
  · rename_i c; rw [if_pos c]
  · omega
def spBR (C : Addr) (K : PySem.W.Frag) : Sp := fun vs H Q _ => ∃ p oa wb wv d1 d2 d3 d4 wa n a dl s g ws u ws', vs = [.ref p, .ref oa, .ref wb, .ref wv] ∧ Sd C K H p d1 d2 d3 d4 wa n a dl s g ws ∧ H d4 = some (.dK (dk n a (unV u))) ∧ OutsAt H oa n a dl ∧ Asc n a ∧ n ≤ 30 ∧ (∀ j, j < n → Gd (s j)) ∧ H wb = some (.tup (intsV ws')) ∧ ws'.length ≤ 100 ∧ H wv = some (.tup (intsV ws)) ∧
  ∀ d H', H d = none → Sd C K H' p d1 d2 d3 d wb n a dl (nxt a dl ws ws' s) (nxg a ws' s g) ws' → H' d = some (.dK (dk n a (unV (dec u)))) → SameX [p, d2, d3] H H' → Q (.bl true) H'
theorem LdAt.keepX {K : PySem.W.Frag} {n : Nat} {a : Nat → Int} {s : Nat → Sta} {cs : List Addr} {H H' : Hp} {d : Addr} (h : LdAt K H d n a s) (k : SameX cs H H') (t : TupF H H') (hc : d ∉ cs) : LdAt K H' d n a s := h.mv (fun o e => k _ _ e hc) t
section
variable {P : Program} {w : World} {K : PySem.W.Frag} {mg : Str → Option Value} {base : Heap} {C st so si : Addr}
theorem ok_br (c : Code K mg "_law_beat_right" s_l_beat_right p_l_beat_right) (T : Tx K mg C st so si) (g_l_standing : Good P w K mg base "_law_standing" 4 p_l_standing (spStg C K)) (g_m_out_of_use : GoodM P w K mg base C "out_of_use" 1 p_Sounder_out_of_use (spOou C K)) (g_m_beat : GoodM P w K mg base C "beat" 3 p_Sounder_beat (spBeat C K)) (g_l_passes : Good P w K mg base "_law_passes" 1 p_l_passes (spPass K)) : Good P w K mg base "_law_beat_right" 5 p_l_beat_right (spBR C K) := by
  refine c.good sc_l_beat_right (fun vs H Q E h => ?_) (fun f cdv A outer s H vs Q E hr h => ?_)
  · obtain ⟨p, oa, wb, wv, d1, d2, d3, d4, wa, n, a, dl, s, g, ws, u, ws', rfl, _⟩ := h
    rfl
  obtain ⟨p, oa, wb, wv, d1, d2, d3, d4, wa, n, a, dl, s, g, ws, u, ws', rfl, S, h4, ho, as, few, gd, hwb, lw, hwv, q⟩ := h
  refine ⟨_, (pss_cons (ps_set (i := 4) sc_l_beat_right.nd rfl (Or.inr rfl) (pcall g_l_standing hr (pa_cons (pv 0) (pa_cons (pv 1) pa_nil))))
  (pss_cons (ps_set (i := 5) sc_l_beat_right.nd rfl (Or.inr rfl) (pe_callTy (call_dictP rfl) rfl T.dict bt_dict (pa_cons (pmeth0 (pv 0) T.cl g_m_out_of_use hr) pa_nil)))
  (pss_cons (ps_set (i := 6) sc_l_beat_right.nd rfl (Or.inl rfl) (pmeth (pv 0) T.cl g_m_beat hr (pa_cons (pv 2) pa_nil)))
  (pss_cons (ps_set (i := 7) sc_l_beat_right.nd rfl (Or.inr rfl) (pcall g_l_standing hr (pa_cons (pv 0) (pa_cons (pv 1) pa_nil))))
  (pss_cons (ps_set (i := 8) sc_l_beat_right.nd rfl (Or.inl rfl) (pe_cmpR op_in_seq pe_bl (pe_comp (N' := ["_law_address", "_law_before"]) rfl (CScope.of (src := [none, some 3]) (defScope s_l_beat_right) ["_law_sounder", "_law_outs_here", "_law_wanted_here", "_law_before", "_law_was", "_law_unused", "_law_told", "_law_now", "_law_woken", "_law_address", "_law_delay", "_law_due", "_law_some", "_law_left"] rfl rfl rfl (by decide +kernel) (by decide +kernel) (by decide +kernel) rfl (by decide +kernel)) (pi_tup (pv 2)) (fun _ _ _ _ => (pg_name (i := 0) (show List.Nodup (["_law_address", "_law_before"] : List Str) by decide +kernel) rfl (Or.inl rfl))) (fun _ _ _ _ => pf_nil) (fun _ _ _ _ => (pe_cmpR (op_notIn_seqK (K := K) rfl) (pv 0) (pv 1) (by with_unfolding_all rfl)))) (by with_unfolding_all rfl)))
  (pss_cons (ps_for PassesOwn.never rfl (pi_tup (pv 1)) (pg_tup rfl (pgs_cons (pg_name (i := 9) sc_l_beat_right.nd rfl (Or.inl rfl)) (pgs_cons (pg_name (i := 10) sc_l_beat_right.nd rfl (Or.inl rfl)) pgs_nil)))
  (pss_one (ps_if (pt_not (pt_val (pcall g_l_passes hr (@pa_cons _ _ _ _ _ (pe_dget (hu_of hr) (pv 4) (pv 9) (fun _ _ => rfl)) (@pa_cons _ _ _ _ _ (pe_dget (hu_of hr) (pv 7) (pv 9) (fun _ _ => rfl)) (@pa_cons _ _ _ _ _ (pe_cmpR op_in_seq (pv 9) (pv 2) (by with_unfolding_all rfl)) (@pa_cons _ _ _ _ _ (pv 8) (@pa_cons _ _ _ _ _ (pv 10) (@pa_nil _) (by rfl)) (by rfl)) (by rfl)) (by rfl)) (by rfl))))) (pss_one (ps_ret pe_bl)) pss_nil)))
  (pss_cons (ps_setC (i := 11) sc_l_beat_right.nd rfl (Or.inl rfl) (N' := ["_law_address", "_law_delay", "_law_now", "_law_was"]) rfl (CScope.of (src := [none, none, some 7, some 4]) (defScope s_l_beat_right) ["_law_sounder", "_law_outs_here", "_law_wanted_here", "_law_before", "_law_was", "_law_unused", "_law_told", "_law_now", "_law_woken", "_law_address", "_law_delay", "_law_due", "_law_some", "_law_left"] rfl rfl rfl (by decide +kernel) (by decide +kernel) (by decide +kernel) rfl (by decide +kernel)) (pi_tup (pv 1)) (fun _ _ _ _ => (pg_tupK (K := K) (n := 2) rfl rfl (pgs_cons (pg_name (i := 0) (show List.Nodup (["_law_address", "_law_delay", "_law_now", "_law_was"] : List Str) by decide +kernel) rfl (Or.inl rfl)) (pgs_cons (pg_name (i := 1) (show List.Nodup (["_law_address", "_law_delay", "_law_now", "_law_was"] : List Str) by decide +kernel) rfl (Or.inl rfl)) pgs_nil)))) (fun _ _ _ _ => (pf_one (pt_cmpR op_ne (pe_ix (ix_tupK (K := K) rfl) (pe_dget (hu_of hr) (pv 2) (pv 0) (fun _ _ => rfl)) pe_int (fun _ _ => rfl)) (pe_ix (ix_tupK (K := K) rfl) (pe_dget (hu_of hr) (pv 3) (pv 0) (fun _ _ => rfl)) pe_int (fun _ _ => rfl)) (nomark _)))) (fun _ _ _ _ => (pe_tup (pa_cons (pe_ix (ix_tupK (K := K) rfl) (pe_dget (hu_of hr) (pv 2) (pv 0) (fun _ _ => rfl)) pe_int (fun _ _ => rfl)) (pa_cons (pv 0) pa_nil)))))
  (pss_cons (ps_set (i := 12) sc_l_beat_right.nd rfl (Or.inl rfl) (pe_callB call_sortedI rfl T.sorted bt_sorted (pa_cons (pe_callTy (call_listD rfl) rfl T.list bt_list (pa_cons (pv 5) pa_nil)) pa_nil)))
  (pss_cons (ps_set (i := 11) sc_l_beat_right.nd rfl (Or.inl rfl) (pe_op op_cat (pv 11) (pe_comp (N' := ["_law_address", "_law_unused"]) rfl (CScope.of (src := [none, some 5]) (defScope s_l_beat_right) ["_law_sounder", "_law_outs_here", "_law_wanted_here", "_law_before", "_law_was", "_law_unused", "_law_told", "_law_now", "_law_woken", "_law_address", "_law_delay", "_law_due", "_law_some", "_law_left"] rfl rfl rfl (by decide +kernel) (by decide +kernel) (by decide +kernel) rfl (by decide +kernel)) (pi_list (pv 12)) (fun _ _ _ _ => (pg_name (i := 0) (show List.Nodup (["_law_address", "_law_unused"] : List Str) by decide +kernel) rfl (Or.inl rfl))) (fun _ _ _ _ => (pf_one (pt_cmpR op_eq (pe_dget (hu_of hr) (pv 1) (pv 0) (fun _ _ => rfl)) pe_int (nomark _)))) (fun _ _ _ _ => (pe_tup (pa_cons pe_str (pa_cons (pv 0) pa_nil)))))))
  (pss_cons (ps_setC (i := 13) sc_l_beat_right.nd rfl (Or.inl rfl) (N' := ["_law_address", "_law_unused"]) rfl (CScope.of (src := [none, some 5]) (defScope s_l_beat_right) ["_law_sounder", "_law_outs_here", "_law_wanted_here", "_law_before", "_law_was", "_law_unused", "_law_told", "_law_now", "_law_woken", "_law_address", "_law_delay", "_law_due", "_law_some", "_law_left"] rfl rfl rfl (by decide +kernel) (by decide +kernel) (by decide +kernel) rfl (by decide +kernel)) (pi_list (pv 12)) (fun _ _ _ _ => (pg_name (i := 0) (show List.Nodup (["_law_address", "_law_unused"] : List Str) by decide +kernel) rfl (Or.inl rfl))) (fun _ _ _ _ => (pf_one (pt_cmpR op_gt (pe_dget (hu_of hr) (pv 1) (pv 0) (fun _ _ => rfl)) pe_int (nomark _)))) (fun _ _ _ _ => (pe_tup (pa_cons (pv 0) (pa_cons (pe_op op_sub (pe_dget (hu_of hr) (pv 1) (pv 0) (fun _ _ => rfl)) pe_int) pa_nil)))))
  (pss_one (ps_ret (pe_and (pe_cmpR (op_eqD hr.units) (pv 6) (pv 11) (nomark _)) (pe_one (pe_cmpR (op_eqD hr.units) (pmeth0 (pv 0) T.cl g_m_out_of_use hr) (pv 13) (nomark _)))))))))))))))), ?_⟩
  have ap := as.ap
  -- was
  refine ⟨_, rfl, _, rfl, p, oa, d1, d2, d3, d4, wa, n, a, dl, s, g, rfl, S.r, ho, fun dw H1 fdw hdw s1 => ?_⟩
  simp only [List.set_cons_succ, List.set_cons_zero]
  have S1 : Sd C K H1 p d1 d2 d3 d4 wa n a dl s g ws := S.mv (fun _ _ o e => s1 _ _ e) (TupF.of s1)
  have h41 := s1 _ _ h4
  obtain ⟨dx, hp1⟩ := S1.r.ins
  -- unused
  refine ⟨_, rfl, p, dx, _, rfl, hp1, fno (by decide +kernel), p, d1, d2, d3, d4, wa, n, a, dl, s, g, u, rfl, S1.r, h41, fun l0 tv0 H2 fl0 hl0 ptv0 s2 => ?_⟩
  refine ⟨l0, _, dj (pk n (pos u)) a u, rfl, hl0, prs_dj ptv0, dj_nd ap, by rw [dj_len]; have := pk_len n (pos u); omega, fun du fdu => ?_⟩
  have kdu := same_new fdu (.dK (dj (pk n (pos u)) a u))
  have hdu : (upd H2 du (.dK (dj (pk n (pos u)) a u))) du = some (.dK (dj (pk n (pos u)) a u)) := upd_same
  have s12 := s2.trans kdu
  have fdu1 : H1 du = none := s2.free fdu
  generalize upd H2 du (.dK (dj (pk n (pos u)) a u)) = H3 at kdu hdu s12 ⊢
  clear s2 kdu hl0 ptv0 fl0
  simp only [List.set_cons_succ, List.set_cons_zero]
  have s13 := s1.trans s12
  have S3 : Sd C K H3 p d1 d2 d3 d4 wa n a dl s g ws := S.mv (fun _ _ o e => s13 _ _ e) (TupF.of s13)
  have hdw3 := hdw.mv (fun o e => s12 _ _ e) (TupF.of s12)
  have fdw' := fdw
  have fdu' : H du = none := s1.free fdu1
  -- told
  refine ⟨_, rfl, p, dx, _, rfl, s12 _ _ hp1, fno (by decide +kernel), _, rfl, p, d1, d2, d3, d4, wa, n, a, dl, s, g, ws, u, wb, ws', rfl, S3, s13 _ _ h4, s13 _ _ hwb, lw, fun t' d tv' H4 ft' fd ht4 ptv S4 hu4 x4 => ?_⟩
  simp only [List.set_cons_succ, List.set_cons_zero]
  obtain ⟨dx3, hp3⟩ := S3.r.ins
  obtain ⟨v3, h23, _⟩ := S3.r.sta
  have h33 := S3.r.len
  have t4 : TupF H3 H4 := x4.tupF fun c hc o z => by
    simp only [List.mem_cons, List.not_mem_nil, or_false] at hc
    rcases hc with w | w | w
    · rw [w, hp3] at z; cases z; rfl
    · rw [w, h23] at z; cases z; rfl
    · rw [w, h33] at z; cases z; rfl
  obtain ⟨dx0, hp0⟩ := S.r.ins
  obtain ⟨v0, h20, _⟩ := S.r.sta
  have h30 := S.r.len
  have fr : ∀ {c}, H c = none → c ∉ [p, d2, d3] := fun {c} fc m => by
    simp only [List.mem_cons, List.not_mem_nil, or_false] at m
    rcases m with w | w | w
    · rw [w, hp0] at fc; cases fc
    · rw [w, h20] at fc; cases fc
    · rw [w, h30] at fc; cases fc
  have hdw4 := hdw3.keepX x4 t4 (fr fdw)
  have hdu4 := x4 _ _ hdu (fr fdu')
  have x04 : SameX [p, d2, d3] H H4 := (SameX.of s13).trans x4
  have t04 : TupF H H4 := (TupF.of s13).trans t4
  have ho4 := ho.tups t04
  have Ltold : LsAt H4 t' (evs a s (nxt a dl ws ws' s) n ++ usd n a u) := ⟨tv', ht4, ptv⟩
  have fd0 : H d = none := s13.free fd
  -- now
  refine ⟨_, rfl, _, rfl, p, oa, d1, d2, d3, d, wb, n, a, dl, _, _, rfl, S4.r, ho4, fun dn H5 fdn hdn s5 => ?_⟩
  simp only [List.set_cons_succ, List.set_cons_zero]
  have hdw5 := hdw4.mv (fun o e => s5 _ _ e) (TupF.of s5)
  have hdu5 := s5 _ _ hdu4
  have Ltold := Ltold.same s5
  have hwb5 := s5 _ _ (t04 _ _ hwb)
  have hwv5 := s5 _ _ (t04 _ _ hwv)
  -- woken
  refine ⟨_, rfl, wb, rfl, ⟨_, SqT.of hwb5⟩, fun l hl => ?_⟩
  have kl := fun o => same_new hl o
  refine comp_tup (xs := intsV ws') (fun i σ HH => (∃ x, σ = [x, some (.ref wv)]) ∧ HH = upd H5 l (.lst ((newB ws (ws'.take i)).map V.bl))) ⟨⟨none, rfl⟩, rfl⟩ (fun i σ HH _ h => ?_) (fun i x σ HH hx h => ?_) (fun σ HH h => ?_)
  · obtain ⟨_, rfl⟩ := h
    exact SqT.of (kl _ _ _ hwb5)
  · obtain ⟨⟨x0, rfl⟩, rfl⟩ := h
    unfold intsV at hx
    rw [List.getElem?_map] at hx
    obtain ⟨y, hy, rfl⟩ := Option.map_eq_some_iff.mp hx
    show tOp (rIn K true) (tVar 0) (tVar 1) _ _ _
    refine ⟨_, rfl, _, rfl, wv, _, rfl, .inr (SqT.of (kl _ _ _ hwv5)), rfl, intsV_flat ws, _, upd_same, ?_, ⟨_, rfl⟩, ?_⟩
    · rw [List.length_map]
      unfold newB
      rw [List.length_map, List.length_take]
      exact small1000 (by omega)
    · rw [upd_upd]
      unfold newB
      rw [List.take_add_one, hy, List.map_append, List.map_append]
      rfl
  obtain ⟨_, rfl⟩ := h
  rw [intsV_len, List.take_length]
  refine ⟨l, _, rfl, .inl (SqL.of upd_same), rfl, bls_flat _, ?_⟩
  have e0 : (if false = true then !inV (V.bl true) ((newB ws ws').map V.bl) else inV (V.bl true) ((newB ws ws').map V.bl)) = hasNew ws ws' := by
    rw [if_neg Bool.false_ne_true, any_in]
    rfl
  rw [e0]
  have s6 := kl (.lst ((newB ws ws').map V.bl))
  generalize upd H5 l (.lst ((newB ws ws').map V.bl)) = H6 at s6 ⊢
  show tSeq _ _ _ _ _
  have s46 := s5.trans s6
  have hdw6 := hdw5.mv (fun o e => s6 _ _ e) (TupF.of s6)
  have hdn6 := hdn.mv (fun o e => s6 _ _ e) (TupF.of s6)
  have hdu6 := s6 _ _ hdu5
  have Ltold := Ltold.same s6
  have hwb6 := s6 _ _ hwb5
  obtain ⟨to, hoa, hto⟩ := ho4.tups (TupF.of s46)
  clear hdw5 hdn hdu5 hwb5 hwv5 s6 kl hl hdw4 hdu4 hdw3 hdu S3 S1 h41 hp1
  -- each passes on
  refine ⟨_, rfl, oa, rfl, ⟨_, hoa.sq⟩, ?_⟩
  refine for_tup (xs := (List.range n).map fun j => V.ref (to j)) (fun i σ HH => Same H6 HH ∧ ∃ x9 x10 x11 x12 x13, σ = [some (.ref p), some (.ref oa), some (.ref wb), some (.ref wv), some (.ref dw), some (.ref du), some (.ref t'), some (.ref dn), some (.bl (hasNew ws ws')), x9, x10, x11, x12, x13]) ⟨Same.refl _, _, _, _, _, _, rfl⟩ (fun i σ HH _ h => (hoa.tups (TupF.of h.1)).sq) (fun i x σ HH hx h => ?_) (fun σ HH h => ?_)
  · obtain ⟨s7, x9, x10, x11, x12, x13, rfl⟩ := h
    obtain ⟨hi, rfl⟩ := rg_get hx
    refine ⟨to i, _, rfl, SqT.of (s7 _ _ (hto i hi)), rfl, _, _, rfl, _, _, rfl, rfl, ?_⟩
    simp only [List.set_cons_succ, List.set_cons_zero]
    obtain ⟨vw, ew, hvw⟩ := hdw6.mv (fun o e => s7 _ _ e) (TupF.of s7)
    obtain ⟨vn, en, hvn⟩ := hdn6.mv (fun o e => s7 _ _ e) (TupF.of s7)
    refine ⟨_, rfl, _, rfl, dw, _, rfl, .inl ⟨_, .inl (a i), .inl ew, rfl, (dk_val ap hi).symm⟩, _, rfl, _, rfl, dn, _, rfl, .inl ⟨_, .inl (a i), .inl en, rfl, (dk_val ap hi).symm⟩, _, rfl, _, rfl, wb, _, rfl, .inr (SqT.of (s7 _ _ hwb6)), rfl, intsV_flat ws', _, rfl, _, rfl, _, _, _, _, dl i, s i, rfl, hvw i hi, hvn i hi, gd i hi, fun H8 s8 => ⟨_, rfl, iteF ⟨s7.trans s8, _, _, _, _, _, rfl⟩⟩⟩
  obtain ⟨s7, x9, x10, x11, x12, x13, rfl⟩ := h
  obtain ⟨vw, ew, hvw⟩ := hdw6.mv (fun o e => s7 _ _ e) (TupF.of s7)
  obtain ⟨vn, en, hvn⟩ := hdn6.mv (fun o e => s7 _ _ e) (TupF.of s7)
  have hdu7 := s7 _ _ hdu6
  have Ltold := Ltold.same s7
  have hoa7 := hoa.tups (TupF.of s7)
  have hto7 : ∀ j, j < n → HH (to j) = some (.tup [.int (a j), .int (dl j)]) := fun j hj => s7 _ _ (hto j hj)
  have s47 := s46.trans s7
  clear hdw6 hdn6 hdu6 hoa hto s46 s7 hwb6
  -- what changes
  refine ⟨_, rfl, oa, rfl, ⟨_, hoa7.sq⟩, fun l hl => ?_⟩
  have kl := same_new hl (.lst [])
  refine comp_tup (xs := (List.range n).map fun j => V.ref (to j)) (fun i σ HG => (∃ x y, σ = [x, y, some (.ref dn), some (.ref dw)]) ∧ (∃ tv, HG l = some (.lst tv) ∧ Paired (EvAt HG) tv (evs a s (nxt a dl ws ws' s) i)) ∧ SameB l (upd HH l (.lst [])) HG) ⟨⟨none, none, rfl⟩, ⟨[], upd_same, .nil⟩, SameB.refl _ _⟩ (fun i σ HG _ h => ?_) (fun i x σ HG hx h => ?_) (fun σ HG h => ?_)
  · exact (hoa7.tups ((TupF.of kl).trans (h.2.2.tupF (ntOf upd_same)))).sq
  · obtain ⟨⟨x, y, rfl⟩, ⟨tv, hl1, ptv⟩, sm⟩ := h
    obtain ⟨hi, rfl⟩ := rg_get hx
    have t0 : TupF HH HG := (TupF.of kl).trans (sm.tupF (ntOf upd_same))
    have gN : HG dn = some (.dK (dk n a vn)) := sm _ _ (kl _ _ en) (fun z => by rw [z, hl] at en; cases en)
    have gW : HG dw = some (.dK (dk n a vw)) := sm _ _ (kl _ _ ew) (fun z => by rw [z, hl] at ew; cases ew)
    obtain ⟨tn, etn, htn⟩ := ((hvn i hi).tups t0).sq
    obtain ⟨tw, etw, htw⟩ := ((hvw i hi).tups t0).sq
    have dgN : DGet HG dn (.int (a i)) (some (vn i)) := .inl ⟨_, .inl (a i), .inl gN, rfl, (dk_val ap hi).symm⟩
    have dgW : DGet HG dw (.int (a i)) (some (vw i)) := .inl ⟨_, .inl (a i), .inl gW, rfl, (dk_val ap hi).symm⟩
    refine ⟨to i, _, rfl, SqT.of (t0 _ _ (hto7 i hi)), rfl, _, _, rfl, _, _, rfl, rfl, ?_⟩
    refine ⟨_, rfl, _, rfl, dn, _, rfl, dgN, tn, _, _, _, etn, rfl, htn, rfl, _, rfl, _, rfl, dw, _, rfl, dgW, tw, _, _, _, etw, rfl, htw, rfl, rfl, _, rfl, ite2 (fun c1 => ?_) (fun c1 => ?_)⟩
    · have ne : ¬ (nxt a dl ws ws' s i).1 = (s i).1 := fun z => by rw [z, decide_eq_true rfl] at c1; cases c1
      refine ⟨_, rfl, _, rfl, dn, _, rfl, dgN, tn, _, _, _, etn, rfl, htn, rfl, _, rfl, leSize (by show 2 ≤ 1000; decide), fun u2 hu2 => ?_⟩
      have ku := same_new hu2 (.tup [.str (nxt a dl ws ws' s i).1, .int (a i)])
      have uu : (upd HG u2 (.tup [.str (nxt a dl ws ws' s i).1, .int (a i)])) u2 = some (.tup [.str (nxt a dl ws ws' s i).1, .int (a i)]) := upd_same
      have k3 : SameB l (upd HG u2 (.tup [.str (nxt a dl ws ws' s i).1, .int (a i)])) (upd (upd HG u2 (.tup [.str (nxt a dl ws ws' s i).1, .int (a i)])) l (.lst (tv ++ [.ref u2]))) := SameB.upd
      have t3 := k3.tupF (ntOf (ku _ _ hl1))
      refine ⟨tv, ku _ _ hl1, ?_, ⟨_, _, rfl⟩, ⟨_, upd_same, ?_⟩, sm.trans ((SameB.of ku).trans k3)⟩
      · have z := evs_len a s (nxt a dl ws ws' s) i
        rw [Paired.length ptv]; exact small1000 (by omega)
      · rw [evs_succ, if_neg ne]
        exact Paired.snoc (Evs.tups ptv ((TupF.of ku).trans t3)) ⟨u2, rfl, t3 _ _ uu⟩
    · have eq : (nxt a dl ws ws' s i).1 = (s i).1 := by
        have z : decide (V.str (nxt a dl ws ws' s i).1 = V.str (s i).1) = true := by
          cases e : decide (V.str (nxt a dl ws ws' s i).1 = V.str (s i).1) with
          | true => rfl
          | false => rw [e] at c1; exact absurd rfl c1
        exact dstr z
      refine ⟨⟨_, _, rfl⟩, ⟨tv, hl1, ?_⟩, sm⟩
      rw [evs_succ, if_pos eq, List.append_nil]
      exact ptv
  obtain ⟨_, ⟨tvd, hl1, ptd⟩, sm⟩ := h
  rw [List.length_map, List.length_range] at ptd
  have s8 : Same HH HG := fun y o z => sm _ _ (kl _ _ z) fun w => by rw [w, hl] at z; cases z
  have s48 := s47.trans s8
  have hdu8 := s8 _ _ hdu7
  have Ltold := Ltold.same s8
  clear sm kl hl hdu7 s8 s47 ew en hvw hvn hoa7 hto7
  simp only [List.set_cons_succ, List.set_cons_zero]
  -- some
  refine ⟨_, rfl, listD_mk hdu8 fun l1 hll => ?_⟩
  have k2 := same_new hll (.lst ((dj (pk n (pos u)) a u).map fun kv => kV kv.1))
  have u1 : (upd HG l1 (.lst ((dj (pk n (pos u)) a u).map fun kv => kV kv.1))) l1 = some (.lst (((pk n (pos u)).map a).map V.int)) := by rw [upd_same, dj_keys]
  generalize upd HG l1 (.lst ((dj (pk n (pos u)) a u).map fun kv => kV kv.1)) = H9 at k2 u1 ⊢
  refine ⟨l1, (pk n (pos u)).map a, rfl, SqL.of u1, by rw [List.length_map]; have := pk_len n (pos u); omega, fun ms l2 pm pw hl2 => ?_⟩
  have em := sorted_sel as (pk_js n u) pm pw
  subst em
  have k3 := same_new hl2 (.lst ((sel n a (pos u)).map V.int))
  have u2 : (upd H9 l2 (.lst ((sel n a (pos u)).map V.int))) l2 = some (.lst (intsV (sel n a (pos u)))) := upd_same
  generalize upd H9 l2 (.lst ((sel n a (pos u)).map V.int)) = HA at k3 u2 ⊢
  have kA := k2.trans k3
  have s4A := s48.trans kA
  have hduA := kA _ _ hdu8
  have LtoldA := Ltold.same kA
  have LdA : LsAt HA l (evs a s (nxt a dl ws ws' s) n) := (LsAt.same ⟨tvd, hl1, ptd⟩ kA)
  clear k2 k3 u1 hll hl2 kA hdu8 s48 Ltold hl1 ptd
  simp only [List.set_cons_succ, List.set_cons_zero]
  have M0 : (pk n (pos u)).length ≤ n := pk_len n _
  have dg : ∀ (HB : Hp) (j0 : Nat), HB du = some (.dK (dj (pk n (pos u)) a u)) → j0 ∈ pk n (pos u) → DGet HB du (.int (a j0)) (some (.int (u j0))) := fun HB j0 z m => .inl ⟨_, .inl (a j0), .inl z, rfl, (dj_val ((pk_js n u).inj ap) m).symm⟩
  -- due + used
  refine ⟨_, rfl, _, rfl, l2, rfl, ⟨_, SqL.of u2⟩, fun l5 hl5 => ?_⟩
  have k5 := same_new hl5 (.lst [])
  refine comp_list (xs := intsV (sel n a (pos u))) (fun i σ HB => (∃ x, σ = [x, some (.ref du)]) ∧ (∃ tv, HB l5 = some (.lst tv) ∧ Paired (EvAt HB) tv ((((pk n (pos u)).take i).filter (one u)).map fun j => usE (a j))) ∧ SameB l5 (upd HA l5 (.lst [])) HB) ⟨⟨none, rfl⟩, ⟨[], upd_same, .nil⟩, SameB.refl _ _⟩ (fun i σ HB _ h => ?_) (fun i x σ HB hx h => ?_) (fun σ HB h => ?_)
  · exact SqL.of (h.2.2 _ _ (k5 _ _ u2) (ne_of_none u2 hl5))
  · obtain ⟨⟨x0, rfl⟩, ⟨tv, hr1, ptv⟩, sm⟩ := h
    unfold intsV sel at hx
    rw [List.getElem?_map, List.getElem?_map] at hx
    cases ej : (pk n (pos u))[i]? with
    | none => rw [ej] at hx; cases hx
    | some j0 =>
      rw [ej] at hx
      cases hx
      have m0 := List.mem_of_getElem? ej
      have duB := sm _ _ (k5 _ _ hduA) (ne_of_none hduA hl5)
      have et : (pk n (pos u)).take (i + 1) = (pk n (pos u)).take i ++ [j0] := by rw [List.take_add_one, ej]; rfl
      refine ⟨_, rfl, _, rfl, du, _, rfl, dg _ _ duB m0, rfl, _, rfl, ite2 (fun c1 => ?_) (fun c1 => ?_)⟩
      · have o1 : one u j0 = true := c1
        refine ⟨_, rfl, leSize (by show 2 ≤ 1000; decide), fun t ht => ?_⟩
        have kt := same_new ht (.tup [.str "used", .int (a j0)])
        have ut : (upd HB t (.tup [.str "used", .int (a j0)])) t = some (.tup [.str "used", .int (a j0)]) := upd_same
        generalize upd HB t (.tup [.str "used", .int (a j0)]) = HW at kt ut ⊢
        have k2 : SameB l5 HW (upd HW l5 (.lst (tv ++ [.ref t]))) := SameB.upd
        have t2 := k2.tupF (ntOf (kt _ _ hr1))
        refine ⟨tv, kt _ _ hr1, ?_, ⟨_, rfl⟩, ⟨_, upd_same, ?_⟩, sm.trans ((SameB.of kt).trans k2)⟩
        · rw [Paired.length ptv, List.length_map]
          have z1 := List.length_filter_le (one u) ((pk n (pos u)).take i)
          rw [List.length_take] at z1
          exact small1000 (by omega)
        · rw [et, List.filter_append, List.map_append, List.filter_cons_of_pos o1]
          exact Paired.snoc (Evs.tups ptv ((TupF.of kt).trans t2)) ⟨t, rfl, t2 _ _ ut⟩
      · have o1 : ¬ one u j0 = true := c1
        refine ⟨⟨_, rfl⟩, ⟨tv, hr1, ?_⟩, sm⟩
        rw [et, List.filter_append, List.map_append, List.filter_cons_of_neg o1]
        show Paired (EvAt HB) tv (_ ++ [])
        rw [List.append_nil]
        exact ptv
  obtain ⟨_, ⟨tvu, hl5B, ptu⟩, sm⟩ := h
  rw [intsV_len, show (sel n a (pos u)).length = (pk n (pos u)).length from List.length_map _, List.take_length, m_one] at ptu
  have sB : Same HA HB := fun y o e => sm _ _ (k5 _ _ e) fun z => by rw [z, hl5] at e; cases e
  have ptu : Paired (EvAt HB) tvu (usd n a u) := by
    unfold usd sel
    rw [List.map_map]
    exact ptu
  obtain ⟨tvd, hlB, pdB⟩ := LdA.same sB
  have LtoldB := LtoldA.same sB
  have hduB := sB _ _ hduA
  have u2B := sB _ _ u2
  have s4B := s4A.trans sB
  clear sm k5 hl5 sB LdA LtoldA hduA u2 s4A
  refine ⟨l, l5, tvd, tvu, rfl, rfl, hlB, hl5B, ?_, fun r fr0 => ?_⟩
  · have z := evs_len a s (nxt a dl ws ws' s) n
    have z2 := usd_len n a u
    rw [Paired.length pdB, Paired.length ptu]
    exact leSize (by omega)
  have kr := same_new fr0 (.lst (tvd ++ tvu))
  have Lr : LsAt (upd HB r (.lst (tvd ++ tvu))) r (evs a s (nxt a dl ws ws' s) n ++ usd n a u) := ⟨_, upd_same, Paired.app (Evs.tups pdB (TupF.of kr)) (Evs.tups ptu (TupF.of kr))⟩
  have LtoldC := LtoldB.same kr
  have hduC := kr _ _ hduB
  have u2C := kr _ _ u2B
  have s4C := s4B.trans kr
  generalize upd HB r (.lst (tvd ++ tvu)) = HC at Lr LtoldC hduC u2C s4C ⊢
  clear kr LtoldB hduB u2B s4B hlB hl5B pdB ptu fr0
  simp only [List.set_cons_succ, List.set_cons_zero]
  -- left
  refine ⟨_, rfl, l2, rfl, ⟨_, SqL.of u2C⟩, fun l6 hl6 => ?_⟩
  have k6 := same_new hl6 (.lst [])
  refine comp_list (xs := intsV (sel n a (pos u))) (fun i σ HD => (∃ x, σ = [x, some (.ref du)]) ∧ (∃ tv, HD l6 = some (.lst tv) ∧ Paired (PrAt HD) tv ((((pk n (pos u)).take i).filter (two u)).map fun j => (a j, u j - 1))) ∧ SameB l6 (upd HC l6 (.lst [])) HD) ⟨⟨none, rfl⟩, ⟨[], upd_same, .nil⟩, SameB.refl _ _⟩ (fun i σ HD _ h => ?_) (fun i x σ HD hx h => ?_) (fun σ HD h => ?_)
  · exact SqL.of (h.2.2 _ _ (k6 _ _ u2C) (ne_of_none u2C hl6))
  · obtain ⟨⟨x0, rfl⟩, ⟨tv, hr1, ptv⟩, sm⟩ := h
    unfold intsV sel at hx
    rw [List.getElem?_map, List.getElem?_map] at hx
    cases ej : (pk n (pos u))[i]? with
    | none => rw [ej] at hx; cases hx
    | some j0 =>
      rw [ej] at hx
      cases hx
      have m0 := List.mem_of_getElem? ej
      have duD := sm _ _ (k6 _ _ hduC) (ne_of_none hduC hl6)
      have et : (pk n (pos u)).take (i + 1) = (pk n (pos u)).take i ++ [j0] := by rw [List.take_add_one, ej]; rfl
      refine ⟨_, rfl, _, rfl, du, _, rfl, dg _ _ duD m0, _, _, rfl, rfl, _, rfl, ite2 (fun c1 => ?_) (fun c1 => ?_)⟩
      · have o1 : two u j0 = true := c1
        refine ⟨_, rfl, _, rfl, _, rfl, du, _, rfl, dg _ _ duD m0, _, _, rfl, rfl, leSize (by show 2 ≤ 1000; decide), fun t ht => ?_⟩
        have kt := same_new ht (.tup [.int (a j0), .int (u j0 - 1)])
        have ut : (upd HD t (.tup [.int (a j0), .int (u j0 - 1)])) t = some (.tup [.int (a j0), .int (u j0 - 1)]) := upd_same
        have k2 : SameB l6 (upd HD t (.tup [.int (a j0), .int (u j0 - 1)])) (upd (upd HD t (.tup [.int (a j0), .int (u j0 - 1)])) l6 (.lst (tv ++ [.ref t]))) := SameB.upd
        have t2 := k2.tupF (ntOf (kt _ _ hr1))
        refine ⟨tv, kt _ _ hr1, ?_, ⟨_, rfl⟩, ⟨_, upd_same, ?_⟩, sm.trans ((SameB.of kt).trans k2)⟩
        · rw [Paired.length ptv, List.length_map]
          have z1 := List.length_filter_le (two u) ((pk n (pos u)).take i)
          rw [List.length_take] at z1
          exact small1000 (by omega)
        · rw [et, List.filter_append, List.map_append, List.filter_cons_of_pos o1]
          exact Paired.snoc (Prs.tups ptv ((TupF.of kt).trans t2)) ⟨t, rfl, t2 _ _ ut⟩
      · have o1 : ¬ two u j0 = true := c1
        refine ⟨⟨_, rfl⟩, ⟨tv, hr1, ?_⟩, sm⟩
        rw [et, List.filter_append, List.map_append, List.filter_cons_of_neg o1]
        show Paired (PrAt HD) tv (_ ++ [])
        rw [List.append_nil]
        exact ptv
  obtain ⟨_, ⟨tvl, hl6D, ptl⟩, sm⟩ := h
  rw [intsV_len, show (sel n a (pos u)).length = (pk n (pos u)).length from List.length_map _, List.take_length, m_two] at ptl
  have sD : Same HC HD := fun y o e => sm _ _ (k6 _ _ e) fun z => by rw [z, hl6] at e; cases e
  have LrD := Lr.same sD
  have LtoldD := LtoldC.same sD
  have s4D := s4C.trans sD
  clear sm k6 hl6 sD Lr LtoldC hduC u2C s4C
  simp only [List.set_cons_succ, List.set_cons_zero]
  have okw' : ∀ j, j < n → okW (nxt a dl ws ws' s j) := fun j hj => ok_nx (gd j hj).ok
  have oke : okE (evs a s (nxt a dl ws ws' s) n ++ usd n a u) := fun e he => by
    rcases List.mem_append.mp he with z | z
    · exact evs_ok okw' e z
    · unfold usd at z
      obtain ⟨x, _, rfl⟩ := List.mem_map.mp z
      show PyData.strOk "used" = true
      decide +kernel
  refine ⟨_, rfl, _, rfl, _, _, LtoldD.rep, LrD.rep, es_shaped oke, es_shaped oke, ?_⟩
  rw [es_eq oke]
  have SD : Sd C K HD p d1 d2 d3 d wb n a dl (nxt a dl ws ws' s) (nxg a ws' s g) ws' := S4.mv (fun _ _ o e => s4D _ _ e) (TupF.of s4D)
  obtain ⟨dxD, hpD⟩ := SD.r.ins
  refine ⟨_, rfl, iteT ⟨_, rfl, p, dxD, _, rfl, hpD, fno (by decide +kernel), p, d1, d2, d3, d, wb, n, a, dl, _, _, dec u, rfl, SD.r, s4D _ _ hu4, fun l7 tv7 HE fl7 hl7 ptv7 sE => ?_⟩⟩
  refine ⟨_, rfl, _, _, .lst hl7 (prs_reps ptv7), .lst (sE _ _ hl6D) (prs_reps (Prs.tups ptl (TupF.of sE))), pr_shaped _, pr_shaped _, ?_⟩
  rw [SeqAt.eqv_refl _ (SeqAt.canLay_of_shaped (pr_shaped _))]
  exact q d HE fd0 (SD.mv (fun _ _ o e => sE _ _ e) (TupF.of sE)) (sE _ _ (s4D _ _ hu4)) (x04.trans (SameX.of (s4D.trans sE)))
end
end K33

set_option Elab.async false
set_option linter.all false
set_option maxRecDepth 100000
set_option pp.maxSteps 300
set_option maxHeartbeats 2000000
namespace K33
open PySem L2
theorem hu_ofH {A : Around} {k : Nat} (hr : RoomH k A) : A.units + 1 < cLine := Nat.lt_of_le_of_lt (Nat.add_le_add_left (by decide : 1 ≤ 64) _) hr.units
theorem reps_map {K : PySem.W.Frag} {H : Hp} {f : Nat → V} {d : Nat → PyData} : ∀ l : List Nat, (∀ j ∈ l, RepK K H (f j) (d j)) → RepsK K H (l.map f) (l.map d)
  | [], _ => .nil
  | j :: r, h => .cons (h j (List.mem_cons_self ..)) (reps_map r fun x hx => h x (List.mem_cons_of_mem _ hx))
def ouD (a dl : Nat → Int) (j : Nat) : PyData := .tuple [.int (a j), .int (dl j)]
theorem ou_lay (a dl : Nat → Int) : ∀ l : List Nat, PyData.canLayAll0 (l.map (ouD a dl)) = true ∧ PyData.depthAll (l.map (ouD a dl)) ≤ 1
  | [] => ⟨rfl, by show 0 ≤ 1; decide⟩
  | j :: r => by
    have ih := ou_lay a dl r
    refine ⟨?_, ?_⟩
    · show ((true && (true && true)) && PyData.canLayAll0 (r.map (ouD a dl))) = true
      rw [ih.1]; rfl
    · show max (max 0 (max 0 0) + 1) (PyData.depthAll (r.map (ouD a dl))) ≤ 1
      exact Nat.max_le.mpr ⟨by decide, ih.2⟩
theorem ou_shaped (a dl : Nat → Int) (l : List Nat) : SeqAt.shaped (.tuple (l.map (ouD a dl))) = true := by
  have h1 := ou_lay a dl l
  show (PyData.canLayAll0 (l.map (ouD a dl)) && decide (PyData.depthAll (l.map (ouD a dl)) + 1 ≤ 64)) = true
  rw [h1.1, Bool.true_and]
  exact decide_eq_true (by omega)
def NotStill (n : Nat) (a : Nat → Int) (s : Nat → Sta) (ws : List Int) : Prop := ∀ j, j < n → a j ∈ ws → (s j).1 ≠ "still"
def spHR (C : Addr) (K : PySem.W.Frag) : Sp := fun vs H Q _ => ∃ b p oa wv d1 d2 d3 d4 wa n k a dl s g ws u, vs = [.ref b, .ref p, .ref oa, .ref wv] ∧ BagAt H b k ∧ k ≤ 8000 ∧ Sd C K H p d1 d2 d3 d4 wa n a dl s g ws ∧ H d4 = some (.dK (dk n a (unV u))) ∧ OutsAt H oa n a dl ∧ Asc n a ∧ n ≤ 30 ∧ (∀ j, j < n → 0 ≤ dl j) ∧ (∀ j, j < n → Gd (s j)) ∧ NotStill n a s ws ∧ H wv = some (.tup (intsV ws)) ∧
  ∀ s' g' u' H', BagAt H' b (k + 3) → Sd C K H' p d1 d2 d3 d4 wa n a dl s' g' ws → H' d4 = some (.dK (dk n a (unV u'))) → (∀ j, j < n → Gd (s' j)) → NotStill n a s' ws → SameX [b, d2, d3, d4] H H' → Q (.bl true) H'
/-- what stands within a deed by hand: H the heap ahead of it; sw as it stood, s as it stands, sd as it is due -/
structure Hw (C : Addr) (K : PySem.W.Frag) (H HH : Hp) (b p oa wv dw dd d1 d2 d3 d4 wa : Addr) (n kk : Nat) (a dl : Nat → Int) (s sw sd : Nat → Sta) (g : Nat → Bool) (ws : List Int) (u : Nat → Int) : Prop where
  bag : BagAt HH b kk
  sdr : Sd C K HH p d1 d2 d3 d4 wa n a dl s g ws
  un : HH d4 = some (.dK (dk n a (unV u)))
  outs : OutsAt HH oa n a dl
  was : LdAt K HH dw n a sw
  due : LdAt K HH dd n a sd
  wan : HH wv = some (.tup (intsV ws))
  sx : SameX [b, d2, d3, d4] H HH
  nw : dw ∉ [b, d2, d3, d4]
  nd : dd ∉ [b, d2, d3, d4]
  nwd : dw ≠ dd
  fd : H dd = none
  nd1 : dd ≠ d1
  nb2 : b ≠ d2
  nb3 : b ≠ d3
  nb4 : b ≠ d4
section
variable {C : Addr} {K : PySem.W.Frag} {H HH H1 : Hp} {b p oa wv dw dd d1 d2 d3 d4 wa : Addr} {n kk k : Nat} {a dl : Nat → Int} {s sw sd : Nat → Sta} {g : Nat → Bool} {ws : List Int} {u : Nat → Int}
theorem Hw.grow (W : Hw C K H HH b p oa wv dw dd d1 d2 d3 d4 wa n kk a dl s sw sd g ws u) (k : Same HH H1) : Hw C K H H1 b p oa wv dw dd d1 d2 d3 d4 wa n kk a dl s sw sd g ws u :=
  { W with bag := W.bag.same k, sdr := W.sdr.mv (fun _ _ o e => k _ _ e) (TupF.of k), un := k _ _ W.un, outs := W.outs.tups (TupF.of k), was := W.was.mv (fun o e => k _ _ e) (TupF.of k), due := W.due.mv (fun o e => k _ _ e) (TupF.of k), wan := k _ _ W.wan, sx := W.sx.trans (SameX.of k) }
theorem Hw.mono {k' : Nat} (W : Hw C K H HH b p oa wv dw dd d1 d2 d3 d4 wa n kk a dl s sw sd g ws u) (h : kk ≤ k') : Hw C K H HH b p oa wv dw dd d1 d2 d3 d4 wa n k' a dl s sw sd g ws u := { W with bag := W.bag.mono h }
theorem Hw.kinds (W : Hw C K H HH b p oa wv dw dd d1 d2 d3 d4 wa n kk a dl s sw sd g ws u) : (∃ x, HH b = some (.lst x)) ∧ (∃ dx x, HH p = some (.ins C dx x)) ∧ (∃ x, HH d1 = some (.dK x)) ∧ (∃ x, HH d2 = some (.dK x)) ∧ (∃ x, HH d3 = some (.dK x)) ∧ (∃ x, HH d4 = some (.dK x)) ∧ (∃ x, HH dw = some (.dK x)) ∧ ∃ x, HH dd = some (.dK x) := by
  obtain ⟨x, y, z, e, _⟩ := W.bag
  obtain ⟨dx, hp⟩ := W.sdr.r.ins
  obtain ⟨v, h2, _⟩ := W.sdr.r.sta
  obtain ⟨vw, hw, _⟩ := W.was
  obtain ⟨vd, hd, _⟩ := W.due
  exact ⟨⟨_, e⟩, ⟨_, _, hp⟩, ⟨_, W.sdr.del⟩, ⟨_, h2⟩, ⟨_, W.sdr.r.len⟩, W.sdr.un, ⟨_, hw⟩, ⟨_, hd⟩⟩
theorem Hw.draw {k' : Nat} (W : Hw C K H HH b p oa wv dw dd d1 d2 d3 d4 wa n kk a dl s sw sd g ws u) (k : SameB b HH H1) (hb : BagAt H1 b k') : Hw C K H H1 b p oa wv dw dd d1 d2 d3 d4 wa n k' a dl s sw sd g ws u := by
  have t : TupF HH H1 := k.tupF W.bag.ntupF
  obtain ⟨⟨q1, e1⟩, ⟨dx, q2, e2⟩, ⟨q3, e3⟩, ⟨q4, e4⟩, ⟨q5, e5⟩, ⟨q6, e6⟩, ⟨q7, e7⟩, q8, e8⟩ := W.kinds
  have nx : ∀ y o, HH y = some o → (∀ z, o ≠ .lst z) → y ≠ b := fun y o e no z => by
    rw [z, e1] at e
    cases e
    exact no _ rfl
  refine { W with bag := hb, sdr := W.sdr.mv (fun y hy o e => k _ _ e ?_) t, un := k _ _ W.un (nx _ _ e6 (by intro z w; cases w)), outs := W.outs.tups t, was := W.was.mv (fun o e => k _ _ e (nx _ _ e7 (by intro z w; cases w))) t, due := W.due.mv (fun o e => k _ _ e (nx _ _ e8 (by intro z w; cases w))) t, wan := t _ _ W.wan, sx := W.sx.trans (SameX.ofB k (by simp)) }
  rcases hy with z | z | z | z | z
  · rw [z]; exact nx _ _ e2 (by intro z w; cases w)
  · rw [z]; exact nx _ _ e3 (by intro z w; cases w)
  · rw [z]; exact nx _ _ e4 (by intro z w; cases w)
  · rw [z]; exact nx _ _ e5 (by intro z w; cases w)
  · rw [z]; exact nx _ _ e6 (by intro z w; cases w)
/-- the states of the sounder are put -/
theorem Hw.deed {s' : Nat → Sta} {g' : Nat → Bool} (W : Hw C K H HH b p oa wv dw dd d1 d2 d3 d4 wa n kk a dl s sw sd g ws u) (k : SameX [d2, d3] HH H1) (R : SdR C K H1 p d1 d2 d3 d4 wa n a dl s' g') : Hw C K H H1 b p oa wv dw dd d1 d2 d3 d4 wa n kk a dl s' sw sd g' ws u := by
  obtain ⟨⟨q1, e1⟩, ⟨dx, q2, e2⟩, ⟨q3, e3⟩, ⟨q4, e4⟩, ⟨q5, e5⟩, ⟨q6, e6⟩, ⟨q7, e7⟩, q8, e8⟩ := W.kinds
  have t : TupF HH H1 := k.tupF fun c hc o z => by
    simp only [List.mem_cons, List.not_mem_nil, or_false] at hc
    rcases hc with w | w
    · rw [w, e4] at z; cases z; rfl
    · rw [w, e5] at z; cases z; rfl
  have sub : ∀ c, c ∉ [b, d2, d3, d4] → c ∉ [d2, d3] := fun c h m => h (by
    simp only [List.mem_cons, List.not_mem_nil, or_false] at m ⊢
    rcases m with w | w
    · exact .inr (.inl w)
    · exact .inr (.inr (.inl w)))
  have no2 : ∀ c, c ≠ d2 → c ≠ d3 → c ∉ [d2, d3] := fun c n1 n2 m => by
    simp only [List.mem_cons, List.not_mem_nil, or_false] at m
    rcases m with w | w
    · exact n1 w
    · exact n2 w
  have S : Sd C K H1 p d1 d2 d3 d4 wa n a dl s' g' ws := ⟨R, k _ _ W.sdr.del (no2 _ W.sdr.r.n12 W.sdr.r.n13), ⟨_, k _ _ e6 (no2 _ W.sdr.n42 W.sdr.n43)⟩, t _ _ W.sdr.wan, W.sdr.n41, W.sdr.n42, W.sdr.n43⟩
  obtain ⟨x, y, z, eb, r⟩ := W.bag
  exact { W with bag := ⟨x, y, z, k _ _ eb (no2 _ W.nb2 W.nb3), r⟩, sdr := S, un := k _ _ W.un (no2 _ W.sdr.n42 W.sdr.n43), outs := W.outs.tups t, was := W.was.mv (fun o e => k _ _ e (sub _ W.nw)) t, due := W.due.mv (fun o e => k _ _ e (sub _ W.nd)) t, wan := t _ _ W.wan, sx := W.sx.trans (k.sub (by simp)) }
/-- what is due is put -/
theorem Hw.put {sd' : Nat → Sta} (W : Hw C K H HH b p oa wv dw dd d1 d2 d3 d4 wa n kk a dl s sw sd g ws u) (k : SameB dd HH H1) (hd : LdAt K H1 dd n a sd') : Hw C K H H1 b p oa wv dw dd d1 d2 d3 d4 wa n kk a dl s sw sd' g ws u := by
  obtain ⟨⟨q1, e1⟩, ⟨dx, q2, e2⟩, ⟨q3, e3⟩, ⟨q4, e4⟩, ⟨q5, e5⟩, ⟨q6, e6⟩, ⟨q7, e7⟩, q8, e8⟩ := W.kinds
  have t : TupF HH H1 := k.tupF (ntOf e8)
  have nd := W.nd
  simp only [List.mem_cons, List.not_mem_nil, or_false, not_or] at nd
  obtain ⟨nb, n2, n3, n4⟩ := nd
  have hw' : dw ≠ dd := W.nwd
  have nu := W.fd
  refine { W with bag := W.bag.sameB k (fun z => nb z.symm), sdr := W.sdr.mv (fun y hy o e => k _ _ e ?_) t, un := k _ _ W.un (fun z => n4 z.symm), outs := W.outs.tups t, was := W.was.mv (fun o e => k _ _ e hw') t, due := hd, wan := t _ _ W.wan, sx := fun c o e nc => k _ _ (W.sx _ _ e nc) (fun z => by rw [z, nu] at e; cases e) }
  rcases hy with z | z | z | z | z
  · rw [z]; intro w; rw [w, e8] at e2; cases e2
  · rw [z]; exact W.nd1.symm
  · rw [z]; exact fun w => n2 w.symm
  · rw [z]; exact fun w => n3 w.symm
  · rw [z]; exact fun w => n4 w.symm
theorem dk_vals (n : Nat) (a : Nat → Int) (v : Nat → V) : (dk n a v).map (·.2) = (List.range n).map v := by
  unfold dk
  rw [List.map_map]
  rfl
theorem twin_ld {dn : Addr} (ap : Apart n a) (h1 : LdAt K H dn n a s) (h2 : LdAt K H dd n a s) (gd : ∀ j, j < n → Gd (s j)) : Twin K H (.ref dn) (.ref dd) := by
  obtain ⟨v1, e1, q1⟩ := h1
  obtain ⟨v2, e2, q2⟩ := h2
  refine twin_mk (ds := (List.range n).map fun j => stD (s j)) e1 e2 (by rw [dk_keys, dk_keys]) (dk_nd ap) ?_ ?_ fun d hd => ?_
  · rw [dk_vals]
    exact paired_rg fun j hj => (q1 j hj).rep
  · rw [dk_vals]
    exact paired_rg fun j hj => (q2 j hj).rep
  · obtain ⟨j, hj, rfl⟩ := List.mem_map.mp hd
    exact st_shaped (gd j (List.mem_range.mp hj)).ok
abbrev Kq (C : Addr) (K : PySem.W.Frag) (H : Hp) (b p d1 d2 d3 d4 wa : Addr) (n k : Nat) (a dl : Nat → Int) (ws : List Int) (Q : VK) : Prop := ∀ s' g' u' H', BagAt H' b (k + 3) → Sd C K H' p d1 d2 d3 d4 wa n a dl s' g' ws → H' d4 = some (.dK (dk n a (unV u'))) → (∀ j, j < n → Gd (s' j)) → NotStill n a s' ws → SameX [b, d2, d3, d4] H H' → Q (.bl true) H'
abbrev tEnd (C : Addr) (K : PySem.W.Frag) : TS := tRet (tOp (fun x y H Q => Twin K H x y ∧ Q (V.bl true) H) (tCall (spStg C K) [] E0 (tCons (tVar 1) (tCons (tVar 2) tNil))) (tVar 7))
theorem hr_end {x0 x3 x4 x5 x6 x8 x9 x10 x11 x12 : Option V} {Q : VK} {D : Ends} (hD : D.rt = Q) (q : Kq C K H b p d1 d2 d3 d4 wa n k a dl ws Q) (W : Hw C K H HH b p oa wv dw dd d1 d2 d3 d4 wa n (k + 3) a dl s sw s g ws u) (ap : Apart n a) (gd : ∀ j, j < n → Gd (s j)) (nst : NotStill n a s ws) :
    tEnd C K D [x0, some (.ref p), some (.ref oa), x3, x4, x5, x6, some (.ref dd), x8, x9, x10, x11, x12] HH := by
  refine ⟨_, rfl, _, rfl, p, oa, d1, d2, d3, d4, wa, n, a, dl, s, g, rfl, W.sdr.r, W.outs, fun dn H' fdn hdn s1 => ?_⟩
  have W := W.grow s1
  refine ⟨_, rfl, twin_ld ap hdn W.due gd, ?_⟩
  show D.rt _ _
  rw [hD]
  exact q s g u H' W.bag W.sdr W.un gd nst W.sx
/-- behind the deed: what stands is due -/
abbrev Fn (C : Addr) (K : PySem.W.Frag) (H : Hp) (b p oa wv dw dd d1 d2 d3 d4 wa : Addr) (n k : Nat) (a dl : Nat → Int) (ws : List Int) (way x : Int) (D : Ends) : Prop := ∀ (HF : Hp) (s sw : Nat → Sta) (g : Nat → Bool) (u : Nat → Int) (x8 x9 x10 x11 x12 : Option V), Hw C K H HF b p oa wv dw dd d1 d2 d3 d4 wa n (k + 3) a dl s sw s g ws u → (∀ j, j < n → Gd (s j)) → NotStill n a s ws → D.nx [some (.ref b), some (.ref p), some (.ref oa), some (.ref wv), some (.ref dw), some (.int way), some (.int x), some (.ref dd), x8, x9, x10, x11, x12] HF
variable {way x : Int} {x8 x9 x10 x11 x12 : Option V} {D : Ends}
abbrev tPutO (C : Addr) (K : PySem.W.Frag) : TS := tDrop (tMeth C (Str.ofString "put_out") (spOut C K) [] E0 (tVar 1) (tCons (tVar 6) (tCons (tOp (rI0 fun i j => V.int (i + j)) (tC (V.int 1)) (tCall spTake [] E0 (tCons (tVar 0) (tCons (tC (V.int 6)) tNil)))) tNil)))
theorem hr_put {i : Nat} (hk : k ≤ 8000) (fin : Fn C K H b p oa wv dw dd d1 d2 d3 d4 wa n k a dl ws way x D) (W : Hw C K H HH b p oa wv dw dd d1 d2 d3 d4 wa n (k + 2) a dl s s s g ws u) (gd : ∀ j, j < n → Gd (s j)) (nst : NotStill n a s ws) (hi : i < n) (ex : x = a i) : tPutO C K D [some (.ref b), some (.ref p), some (.ref oa), some (.ref wv), some (.ref dw), some (.int way), some (.int x), some (.ref dd), x8, x9, x10, x11, x12] HH := by
  subst ex
  obtain ⟨dx, hp⟩ := W.sdr.r.ins
  refine ⟨_, rfl, p, dx, _, rfl, hp, fno (by decide +kernel), _, rfl, _, rfl, b, _, 6, rfl, W.bag, by omega, by decide, by decide, fun r H2 _ _ hb2 s2 => ⟨_, _, rfl, rfl, ?_⟩⟩
  have W := W.draw s2 hb2
  refine ⟨p, d1, d2, d3, d4, wa, n, a, dl, s, g, u, i, _, rfl, hi, W.sdr.r, W.un, fun H' h4' s' => ?_⟩
  show D.nx _ _
  obtain ⟨⟨q1, e1⟩, ⟨dx', q2, e2⟩, ⟨q3, e3⟩, ⟨q4, e4⟩, ⟨q5, e5⟩, ⟨q6, e6⟩, ⟨q7, e7⟩, q8, e8⟩ := W.kinds
  have t : TupF H2 H' := s'.tupF (ntOf e6)
  have np : p ≠ d4 := fun z => by rw [z, e6] at e2; cases e2
  have R : SdR C K H' p d1 d2 d3 d4 wa n a dl s g := W.sdr.r.mv (fun c hc o e => s' _ _ e (by
    rcases hc with z | z | z | z
    · rw [z]; exact np
    · rw [z]; exact W.sdr.n41.symm
    · rw [z]; exact W.sdr.n42.symm
    · rw [z]; exact W.sdr.n43.symm)) t
  have S : Sd C K H' p d1 d2 d3 d4 wa n a dl s g ws := ⟨R, s' _ _ W.sdr.del W.sdr.n41.symm, ⟨_, h4'⟩, t _ _ W.sdr.wan, W.sdr.n41, W.sdr.n42, W.sdr.n43⟩
  have nw := W.nw
  have nd := W.nd
  simp only [List.mem_cons, List.not_mem_nil, or_false, not_or] at nw nd
  refine fin _ s s g _ _ _ _ _ _ { W with bag := W.bag.sameB s' W.nb4, sdr := S, un := h4', outs := W.outs.tups t, was := W.was.mv (fun o e => s' _ _ e nw.2.2.2) t, due := W.due.mv (fun o e => s' _ _ e nd.2.2.2) t, wan := t _ _ W.wan, sx := W.sx.trans (SameX.ofB s' (by simp)) } gd nst
abbrev tLen (C : Addr) (K : PySem.W.Frag) (hc c5 c7 : Addr) : TS := tSeq (tTry K hc 9 (fun EX => tAsg (tMethX C (Str.ofString "lengthen") (spLen C c5 c7 K) EX (tVar 1) (tCons (tVar 6) tNil)) (gName 8)) fun ea => tAsg (tOp (rIxT K) (tDGet (tVar 4) (tVar 6)) (tC (V.int 1))) (gName 8))
  (tSeq (tIfS (tTest (tOp (rIn K true) (tVar 8) (tLst (tCons (tOp (rIxT K) (tDGet (tVar 4) (tVar 6)) (tC (V.int 1))) (tCons (tOp (rI0 fun i j => V.int (i + j)) (tOp (rIxT K) (tDGet (tVar 4) (tVar 6)) (tC (V.int 1))) (tDGet (tCB rDictT (tCons (tVar 2) tNil)) (tVar 6))) tNil))))) (tRet (tC (V.bl false))) tNext)
  (sDPut (tVar 7) (tVar 6) (tTup (tCons (tC (V.str (Str.ofString "waiting"))) (tCons (tVar 8) tNil)))))
theorem upF_same {i : Nat} {s : Nat → Sta} {z : Sta} (h : s i = z) : upF s i z = s := by
  funext j
  unfold upF
  split
  · rename_i e; rw [e, h]
  · rfl
theorem len_rest {i : Nat} {left l : Int} (as : Asc n a) (few : n ≤ 30) (fin : Fn C K H b p oa wv dw dd d1 d2 d3 d4 wa n k a dl ws way (a i) D) (W : Hw C K H HH b p oa wv dw dd d1 d2 d3 d4 wa n (k + 3) a dl (upF s i ("waiting", left)) s s g ws u) (gd : ∀ j, j < n → Gd (s j)) (nst : NotStill n a s ws) (hi : i < n) (hs : s i = (("waiting" : Str), l)) (hl : left = l ∨ left = l + dl i) (pl : 0 < left) :
    tSeq (tIfS (tTest (tOp (rIn K true) (tVar 8) (tLst (tCons (tOp (rIxT K) (tDGet (tVar 4) (tVar 6)) (tC (V.int 1))) (tCons (tOp (rI0 fun i j => V.int (i + j)) (tOp (rIxT K) (tDGet (tVar 4) (tVar 6)) (tC (V.int 1))) (tDGet (tCB rDictT (tCons (tVar 2) tNil)) (tVar 6))) tNil))))) (tRet (tC (V.bl false))) tNext)
      (sDPut (tVar 7) (tVar 6) (tTup (tCons (tC (V.str (Str.ofString "waiting"))) (tCons (tVar 8) tNil)))) D [some (.ref b), some (.ref p), some (.ref oa), some (.ref wv), some (.ref dw), some (.int way), some (.int (a i)), some (.ref dd), some (.int left), x9, x10, x11, x12] HH := by
  have ap := as.ap
  obtain ⟨vw, ew, hvw⟩ := id W.was
  have hvi := hvw i hi
  rw [hs] at hvi
  obtain ⟨t, et, ht⟩ := hvi.sq
  obtain ⟨to, ⟨ob, hoa, htp⟩, hto⟩ := id W.outs
  have gw : DGet HH dw (.int (a i)) (some (vw i)) := .inl ⟨_, .inl (a i), .inl ew, rfl, (dk_val ap hi).symm⟩
  refine ⟨_, rfl, _, rfl, _, rfl, dw, _, rfl, gw, t, _, _, _, et, rfl, ht, rfl, _, rfl, _, rfl, dw, _, rfl, gw, t, _, _, _, et, rfl, ht, rfl, _, rfl, oa, ob, _, dk n a (fun j => V.int (dl j)), rfl, hoa, htp, paired_rg fun j hj => ⟨to j, rfl, hto j hj⟩, dk_nd ap, by rw [dk_len]; omega, fun d6 hd6 => ?_⟩
  have k6 := same_new hd6 (.dK (dk n a fun j => V.int (dl j)))
  have W := W.grow k6
  refine ⟨_, rfl, d6, _, rfl, .inl ⟨_, .inl (a i), .inl upd_same, rfl, (dk_val (v := fun j => V.int (dl j)) ap hi).symm⟩, _, _, rfl, rfl, leSize (by show 2 ≤ 1000; decide), fun l7 hl7 => ?_⟩
  have k7 := same_new hl7 (.lst [.int l, .int (l + dl i)])
  have e7 : (upd (upd HH d6 (.dK (dk n a fun j => V.int (dl j)))) l7 (.lst [.int l, .int (l + dl i)])) l7 = some (.lst [.int l, .int (l + dl i)]) := upd_same
  have W := W.grow k7
  generalize upd (upd HH d6 (.dK (dk n a fun j => V.int (dl j)))) l7 (.lst [.int l, .int (l + dl i)]) = H7 at W e7 ⊢
  have hin : inV (.int left) [.int l, .int (l + dl i)] = true := by
    show ((l == left) || ((l + dl i == left) || false)) = true
    rcases hl with e | e
    · rw [e, beq_self_eq_true]; rfl
    · rw [e, beq_self_eq_true]
      cases (l == l + dl i) <;> rfl
  refine ⟨l7, _, rfl, .inl (SqL.of e7), rfl, rfl, _, rfl, ?_⟩
  show if (!inV (.int left) [.int l, .int (l + dl i)]) = true then _ else _
  rw [hin]
  refine iteF ?_
  show sDPut (tVar 7) (tVar 6) (tTup (tCons (tC (V.str (Str.ofString "waiting"))) (tCons (tVar 8) tNil))) D _ H7
  refine ⟨_, rfl, leSize (by show 2 ≤ 1000; decide), fun tt htt => ?_⟩
  have kt := same_new htt (.tup [.str "waiting", .int left])
  have ut : (upd H7 tt (.tup [.str "waiting", .int left])) tt = some (.tup [.str "waiting", .int left]) := upd_same
  have W := W.grow kt
  generalize upd H7 tt (.tup [.str "waiting", .int left]) = H8 at W ut ⊢
  obtain ⟨vd, ed, hvd⟩ := id W.due
  refine ⟨_, rfl, _, rfl, dd, _, rfl, DPut.k (k := .inl (a i)) ed (by rw [dk_len]; exact small1000 (by omega)), ?_⟩
  rw [dk_put ap hi]
  have kd : SameB dd H8 (upd H8 dd (.dK (dk n a (upF vd i (.ref tt))))) := SameB.upd
  have td := kd.tupF (ntOf ed)
  have gd' : ∀ j, j < n → Gd (upF s i ("waiting", left) j) := fun j hj => by
    unfold upF
    split
    · exact .inr (.inr (.inr ⟨left, pl, rfl⟩))
    · exact gd j hj
  have nst' : NotStill n a (upF s i ("waiting", left)) ws := fun j hj hm => by
    unfold upF
    split
    · exact ns9
    · exact nst j hj hm
  refine fin _ _ _ g _ _ _ _ _ _ (W.put kd ⟨_, upd_same, fun j hj => ?_⟩) gd' nst'
  unfold upF
  by_cases e : j = i
  · rw [if_pos e, if_pos e]
    exact ⟨tt, rfl, .inl (td _ _ ut)⟩
  · rw [if_neg e, if_neg e]
    exact (hvd j hj).tups td
theorem hr_len {i : Nat} {hc c5 c7 : Addr} {cs : List Addr} (k_NoHand : Knd K hc c7 cs 7) (as : Asc n a) (few : n ≤ 30) (dl0 : ∀ j, j < n → 0 ≤ dl j) (fin : Fn C K H b p oa wv dw dd d1 d2 d3 d4 wa n k a dl ws way x D) (W : Hw C K H HH b p oa wv dw dd d1 d2 d3 d4 wa n (k + 3) a dl s s s g ws u) (gd : ∀ j, j < n → Gd (s j)) (nst : NotStill n a s ws) (hi : i < n) (ex : x = a i) (hw : (s i).1 = "waiting") :
    tLen C K hc c5 c7 D [some (.ref b), some (.ref p), some (.ref oa), some (.ref wv), some (.ref dw), some (.int way), some (.int x), some (.ref dd), x8, x9, x10, x11, x12] HH := by
  subst ex
  have ap := as.ap
  obtain ⟨l, l0, hs⟩ : ∃ l, 0 < l ∧ s i = (("waiting" : Str), l) := by
    rcases gd i hi with e | e | e | ⟨l, l0, e⟩
    · rw [e] at hw; exact absurd hw ns2
    · rw [e] at hw; exact absurd hw ns5
    · rw [e] at hw; exact absurd hw ns7
    · exact ⟨l, l0, e⟩
  obtain ⟨dx, hp⟩ := W.sdr.r.ins
  refine ⟨_, rfl, p, dx, _, rfl, hp, fno (by decide +kernel), _, rfl, p, d1, d2, d3, d4, wa, n, a, dl, s, g, _, rfl, W.sdr.r, (fun no => absurd rfl (no i hi)), fun j hj e => ?_⟩
  have ej : j = i := ap j i hj hi e
  subst ej
  refine ⟨fun nh H' s' => ?_, fun hw' hg H' R' x' => ?_⟩
  · refine ⟨_, rfl, k_NoHand.xc, k_NoHand.sub, fun e he => ?_⟩
    have W := (W.grow s').grow (same_new he (xo e c7))
    obtain ⟨vw, ew, hvw⟩ := id W.was
    have hvi := hvw j hi
    rw [hs] at hvi
    obtain ⟨t, et, ht⟩ := hvi.sq
    refine ⟨_, rfl, _, rfl, dw, _, rfl, .inl ⟨_, .inl (a j), .inl ew, rfl, (dk_val ap hi).symm⟩, t, _, _, _, et, rfl, ht, rfl, ?_⟩
    exact len_rest (s := s) as few fin (by rw [upF_same hs]; exact W) gd nst hi hs (.inl rfl) l0
  · have e2 : (s j).2 = l := by rw [hs]
    rw [e2] at R' ⊢
    have pl : 0 < l + dl j := by have := dl0 j hi; omega
    rw [show wt (l + dl j) = (("waiting" : Str), l + dl j) from if_pos pl] at R'
    exact len_rest (s := s) as few fin (W.deed x' R') gd nst hi hs (.inr rfl) pl
def tEqR : R2 := fun x y H Q => ∃ d e, Rep H x d ∧ Rep H y e ∧ SeqAt.shaped d = true ∧ SeqAt.shaped e = true ∧ Q (V.bl !d.eqv e) H
abbrev tHiT (K : PySem.W.Frag) : TS := tSeq (tFor (iList K (tVar 10)) (gName 11) (sDPut (tVar 7) (tVar 11) (tOp (rIxL K) (tLst (tCons (tTup (tCons (tC (V.str (Str.ofString "waiting"))) (tCons (tC (V.int 1)) tNil))) (tCons (tTup (tCons (tC (V.str (Str.ofString "silenced"))) (tCons (tC (V.int 0)) tNil))) (tCons (tTup (tCons (tC (V.str (Str.ofString "still"))) (tCons (tC (V.int 0)) tNil))) tNil)))) (tVar 5))))
  (tSeq (tAsg (tOp (rIxL K) (tLst (tCons (tTup (tCons (tC (V.str (Str.ofString "waiting"))) tNil)) (tCons (tTup (tCons (tC (V.str (Str.ofString "sounding"))) tNil)) (tCons (tTup (tCons (tC (V.str (Str.ofString "sounding"))) (tCons (tC (V.str (Str.ofString "silenced"))) tNil))) tNil)))) (tVar 5)) (gName 12))
  (tIfS (tTest (tOp tEqR (tVar 10) (tComp (iTup K (tVar 2)) [none, none, some 12, some 5, some 3, some 4] (gTup K 2 (gCons (gName 0) (gCons (gName 1) gNil))) (tAnd (tTest (tOp (rIn K false) (tOp (rIxT K) (tDGet (tVar 5) (tVar 0)) (tC (V.int 0))) (tVar 2))) (tOr (tTest (tOp (rI0 fun i j => V.bl (decide (i < j))) (tVar 3) (tC (V.int 2)))) (tTest (tOp (rIn K true) (tVar 0) (tVar 4))))) (tVar 0)))) (tRet (tC (V.bl false))) tNext))
def Way (s : Nat → Sta) (a : Nat → Int) (ws : List Int) (way : Int) (pj : Nat → Bool) (z : Sta) (xs : List Str) : Prop :=
  (way = 0 ∧ pj = pPress s a ws ∧ z = (("waiting" : Str), (1 : Int)) ∧ xs = (["waiting"] : List Str)) ∨ (way = 1 ∧ pj = pSil s a ws ∧ z = (("silenced" : Str), (0 : Int)) ∧ xs = (["sounding"] : List Str)) ∨ (way = 2 ∧ pj = pRes s a ws ∧ z = (("still" : Str), (0 : Int)) ∧ xs = (["sounding", "silenced"] : List Str))
theorem hi_tail {l : Addr} {pj : Nat → Bool} {z : Sta} {xs : List Str} (as : Asc n a) (few : n ≤ 30) (hz : Way s a ws way pj z xs) (fin : Fn C K H b p oa wv dw dd d1 d2 d3 d4 wa n k a dl ws way x D) (W : Hw C K H HH b p oa wv dw dd d1 d2 d3 d4 wa n (k + 3) a dl (putS s pj z) s s g ws u) (hl : HH l = some (.lst (intsV (sel n a pj)))) (gd : ∀ j, j < n → Gd (s j)) (gd' : ∀ j, j < n → Gd (putS s pj z j)) (nst : NotStill n a (putS s pj z) ws) :
    tHiT K D [some (.ref b), some (.ref p), some (.ref oa), some (.ref wv), some (.ref dw), some (.int way), some (.int x), some (.ref dd), x8, x9, some (.ref l), x11, x12] HH := by
  have ap := as.ap
  obtain ⟨_, _, _, _, _, _, _, q8, e8⟩ := W.kinds
  have nl : l ≠ dd := fun w => by rw [w, e8] at hl; cases hl
  refine ⟨_, rfl, l, rfl, ⟨_, SqL.of hl⟩, ?_⟩
  refine for_list (xs := intsV (sel n a pj)) (fun i σ HG => (∃ y, σ = [some (.ref b), some (.ref p), some (.ref oa), some (.ref wv), some (.ref dw), some (.int way), some (.int x), some (.ref dd), x8, x9, some (.ref l), y, x12]) ∧ SameB dd HH HG ∧ LdAt K HG dd n a (fun j => if j ∈ (pk n pj).take i then z else s j)) ⟨⟨_, rfl⟩, SameB.refl _ _, ?_⟩ (fun i σ HG _ h => SqL.of (h.2.1 _ _ hl nl)) (fun i y σ HG hx h => ?_) (fun σ HG h => ?_)
  · have e : (fun j => if j ∈ (pk n pj).take 0 then z else s j) = s := by
      funext j
      rw [List.take_zero, if_neg (by simp)]
    rw [e]
    exact W.due
  · obtain ⟨⟨y0, rfl⟩, sm, v', h2H, hvH⟩ := h
    unfold intsV sel at hx
    rw [List.getElem?_map, List.getElem?_map] at hx
    cases ej : (pk n pj)[i]? with
    | none => rw [ej] at hx; cases hx
    | some j0 =>
      rw [ej] at hx
      cases hx
      have hj0 : j0 < n := (pk_mem.mp (List.mem_of_getElem? ej)).1
      refine ⟨leSize (by show 2 ≤ 1000; decide), fun t0 h0 => ⟨leSize (by show 2 ≤ 1000; decide), fun t1 h1 => ⟨leSize (by show 2 ≤ 1000; decide), fun t2 h2 => ⟨leSize (by show 3 ≤ 1000; decide), fun l3 hl3 => ?_⟩⟩⟩⟩
      have k0 := same_new h0 (.tup [.str "waiting", .int 1])
      have k1 := same_new h1 (.tup [.str "silenced", .int 0])
      have k2 := same_new h2 (.tup [.str "still", .int 0])
      have k3 := same_new hl3 (.lst [.ref t0, .ref t1, .ref t2])
      have e0 := k3 _ _ (k2 _ _ (k1 _ _ (show (upd HG t0 (.tup [.str "waiting", .int 1])) t0 = some (.tup [.str "waiting", .int 1]) from upd_same)))
      have e1 := k3 _ _ (k2 _ _ (show (upd (upd HG t0 (.tup [.str "waiting", .int 1])) t1 (.tup [.str "silenced", .int 0])) t1 = some (.tup [.str "silenced", .int 0]) from upd_same))
      have e2 := k3 _ _ (show (upd (upd (upd HG t0 (.tup [.str "waiting", .int 1])) t1 (.tup [.str "silenced", .int 0])) t2 (.tup [.str "still", .int 0])) t2 = some (.tup [.str "still", .int 0]) from upd_same)
      have e3 : (upd (upd (upd (upd HG t0 (.tup [.str "waiting", .int 1])) t1 (.tup [.str "silenced", .int 0])) t2 (.tup [.str "still", .int 0])) l3 (.lst [.ref t0, .ref t1, .ref t2])) l3 = some (.lst [.ref t0, .ref t1, .ref t2]) := upd_same
      have k03 := ((k0.trans k1).trans k2).trans k3
      generalize upd (upd (upd (upd HG t0 (.tup [.str "waiting", .int 1])) t1 (.tup [.str "silenced", .int 0])) t2 (.tup [.str "still", .int 0])) l3 (.lst [.ref t0, .ref t1, .ref t2]) = H3 at e0 e1 e2 e3 k03 ⊢
      clear k0 k1 k2 k3
      obtain ⟨tz, ez, hz3⟩ : ∃ tz, atI [V.ref t0, .ref t1, .ref t2] way = some (.ref tz) ∧ H3 tz = some (.tup [.str z.1, .int z.2]) := by
        rcases hz with ⟨rfl, _, rfl, _⟩ | ⟨rfl, _, rfl, _⟩ | ⟨rfl, _, rfl, _⟩
        · exact ⟨t0, rfl, e0⟩
        · exact ⟨t1, rfl, e1⟩
        · exact ⟨t2, rfl, e2⟩
      have h2T := k03 _ _ h2H
      refine ⟨_, rfl, l3, _, _, _, rfl, rfl, SqL.of e3, ez, _, rfl, _, rfl, dd, _, rfl, DPut.k (k := .inl (a j0)) h2T (by rw [dk_len]; exact small1000 (by omega)), ?_⟩
      rw [dk_put ap hj0]
      have tM : TupF H3 (upd H3 dd (.dK (dk n a (upF v' j0 (.ref tz))))) := TupF.upd (ntOf h2T)
      refine ⟨⟨_, rfl⟩, sm.trans ((SameB.of k03).trans SameB.upd), _, upd_same, fun j hj => ?_⟩
      have et : (pk n pj).take (i + 1) = (pk n pj).take i ++ [j0] := by rw [List.take_add_one, ej]; rfl
      show StAt K _ (upF v' j0 (.ref tz) j) (if j ∈ (pk n pj).take (i + 1) then z else s j)
      rw [et]
      unfold upF
      by_cases e : j = j0
      · rw [if_pos e, if_pos (by rw [e]; simp)]
        exact ⟨tz, rfl, .inl (tM _ _ hz3)⟩
      · have := ((hvH j hj).tups (TupF.of k03)).tups tM
        have this : StAt K _ (v' j) (if j ∈ (pk n pj).take i then z else s j) := this
        rw [if_neg e]
        by_cases m : j ∈ (pk n pj).take i
        · rw [if_pos m] at this
          rw [if_pos (List.mem_append_left _ m)]
          exact this
        · rw [if_neg m] at this
          rw [if_neg (by simp [m, e])]
          exact this
  obtain ⟨⟨y0, rfl⟩, sm, hdG⟩ := h
  have ef : (fun j => if j ∈ (pk n pj).take (intsV (sel n a pj)).length then z else s j) = fun j => if j ∈ pk n pj then z else s j := by
    rw [intsV_len, show (sel n a pj).length = (pk n pj).length from List.length_map _, List.take_length]
  rw [ef] at hdG
  have hdG : LdAt K HG dd n a (putS s pj z) := by
    obtain ⟨v, e, h⟩ := hdG
    refine ⟨v, e, fun j hj => ?_⟩
    have := h j hj
    have this : StAt K HG (v j) (if j ∈ pk n pj then z else s j) := this
    unfold putS
    by_cases m : pj j = true
    · rw [if_pos m]
      rw [if_pos (pk_mem.mpr ⟨hj, m⟩)] at this
      exact this
    · rw [if_neg m]
      rw [if_neg (fun z => m (pk_mem.mp z).2)] at this
      exact this
  have W := W.put sm hdG
  have hl := sm _ _ hl nl
  clear sm hdG ef
  -- some
  refine ⟨leSize (by show 1 ≤ 1000; decide), fun t0 h0 => ⟨leSize (by show 1 ≤ 1000; decide), fun t1 h1 => ⟨leSize (by show 2 ≤ 1000; decide), fun t2 h2 => ⟨leSize (by show 3 ≤ 1000; decide), fun l3 hl3 => ?_⟩⟩⟩⟩
  have k0 := same_new h0 (.tup [.str "waiting"])
  have k1 := same_new h1 (.tup [.str "sounding"])
  have k2 := same_new h2 (.tup [.str "sounding", .str "silenced"])
  have k3 := same_new hl3 (.lst [.ref t0, .ref t1, .ref t2])
  have e0 := k3 _ _ (k2 _ _ (k1 _ _ (show (upd HG t0 (.tup [.str "waiting"])) t0 = some (.tup [.str "waiting"]) from upd_same)))
  have e1 := k3 _ _ (k2 _ _ (show (upd (upd HG t0 (.tup [.str "waiting"])) t1 (.tup [.str "sounding"])) t1 = some (.tup [.str "sounding"]) from upd_same))
  have e2 := k3 _ _ (show (upd (upd (upd HG t0 (.tup [.str "waiting"])) t1 (.tup [.str "sounding"])) t2 (.tup [.str "sounding", .str "silenced"])) t2 = some (.tup [.str "sounding", .str "silenced"]) from upd_same)
  have e3 : (upd (upd (upd (upd HG t0 (.tup [.str "waiting"])) t1 (.tup [.str "sounding"])) t2 (.tup [.str "sounding", .str "silenced"])) l3 (.lst [.ref t0, .ref t1, .ref t2])) l3 = some (.lst [.ref t0, .ref t1, .ref t2]) := upd_same
  have k03 := ((k0.trans k1).trans k2).trans k3
  generalize upd (upd (upd (upd HG t0 (.tup [.str "waiting"])) t1 (.tup [.str "sounding"])) t2 (.tup [.str "sounding", .str "silenced"])) l3 (.lst [.ref t0, .ref t1, .ref t2]) = H3 at e0 e1 e2 e3 k03 ⊢
  clear k0 k1 k2 k3
  have W := W.grow k03
  have hl := k03 _ _ hl
  obtain ⟨tx, ex, hx3⟩ : ∃ tx, atI [V.ref t0, .ref t1, .ref t2] way = some (.ref tx) ∧ H3 tx = some (.tup (strsV xs)) := by
    rcases hz with ⟨rfl, _, _, rfl⟩ | ⟨rfl, _, _, rfl⟩ | ⟨rfl, _, _, rfl⟩
    · exact ⟨t0, rfl, e0⟩
    · exact ⟨t1, rfl, e1⟩
    · exact ⟨t2, rfl, e2⟩
  refine ⟨_, rfl, l3, _, _, _, rfl, rfl, SqL.of e3, ex, ?_⟩
  clear e0 e1 e2 e3 k03
  -- what is told is what stood so
  have epj : ∀ j, (byW s xs j && (decide (way < 2) || !inV (.int (a j)) (intsV ws))) = pj j := by
    intro j
    rcases hz with ⟨rfl, rfl, _, rfl⟩ | ⟨rfl, rfl, _, rfl⟩ | ⟨rfl, rfl, _, rfl⟩
    · show (byW s ["waiting"] j && (true || _)) = byW s ["waiting"] j
      rw [Bool.true_or, Bool.and_true]
    · show (byW s ["sounding"] j && (true || _)) = byW s ["sounding"] j
      rw [Bool.true_or, Bool.and_true]
    · show (byW s ["sounding", "silenced"] j && (false || !inV (.int (a j)) (intsV ws))) = (byW s ["sounding", "silenced"] j && !inV (.int (a j)) (intsV ws))
      rw [Bool.false_or]
  obtain ⟨to, hoa, hto⟩ := id W.outs
  obtain ⟨vw, ew, hvw⟩ := id W.was
  refine ⟨_, rfl, _, rfl, oa, rfl, ⟨_, hoa.sq⟩, fun l5 hl5 => ?_⟩
  have kl := fun o => same_new hl5 o
  refine comp_tup (xs := (List.range n).map fun j => V.ref (to j)) (fun i σ HB => (∃ u w, σ = [u, w, some (.ref tx), some (.int way), some (.ref wv), some (.ref dw)]) ∧ HB = upd H3 l5 (.lst (intsV (sel i a pj)))) ⟨⟨none, none, rfl⟩, rfl⟩ (fun i σ HB _ h => ?_) (fun i y σ HB hx h => ?_) (fun σ HB h => ?_)
  · rw [h.2]; exact (hoa.same (kl _)).sq
  · obtain ⟨⟨u1, w1, rfl⟩, rfl⟩ := h
    obtain ⟨hi, rfl⟩ := rg_get hx
    obtain ⟨ts, ets, hts⟩ := ((hvw i hi).tups (TupF.of (kl (.lst (intsV (sel i a pj)))))).sq
    refine ⟨to i, _, rfl, SqT.of (kl _ _ _ (hto i hi)), rfl, _, _, rfl, _, _, rfl, rfl, ?_⟩
    have yes : pj i = true → _ := fun c1 => (⟨_, rfl, _, upd_same, (by have := sel_len i a pj; rw [intsV_len]; exact small1000 (by omega)), ⟨_, _, rfl⟩, (by rw [upd_upd, sel_succ, if_pos c1, ← intsV_snoc])⟩ : tVar 0 [some (.int (a i)), some (.int (dl i)), some (.ref tx), some (.int way), some (.ref wv), some (.ref dw)] (upd H3 l5 (.lst (intsV (sel i a pj)))) fun y H5 => ∃ ys, H5 l5 = some (.lst ys) ∧ ys.length < sizeLine ∧ (∃ u w, [some (V.int (a i)), some (.int (dl i)), some (.ref tx), some (.int way), some (.ref wv), some (.ref dw)] = [u, w, some (.ref tx), some (.int way), some (.ref wv), some (.ref dw)]) ∧ upd H5 l5 (.lst (ys ++ [y])) = upd H3 l5 (.lst (intsV (sel (i + 1) a pj))))
    have no : ¬ pj i = true → (∃ u w, [some (V.int (a i)), some (.int (dl i)), some (.ref tx), some (.int way), some (.ref wv), some (.ref dw)] = [u, w, some (.ref tx), some (.int way), some (.ref wv), some (.ref dw)]) ∧ upd H3 l5 (.lst (intsV (sel i a pj))) = upd H3 l5 (.lst (intsV (sel (i + 1) a pj))) := fun c1 => ⟨⟨_, _, rfl⟩, by rw [sel_succ, if_neg c1, List.append_nil]⟩
    have ei := epj i
    refine ⟨_, rfl, _, rfl, dw, _, rfl, .inl ⟨_, .inl (a i), .inl (kl _ _ _ ew), rfl, (dk_val ap hi).symm⟩, ts, _, _, _, ets, rfl, hts, rfl, _, rfl, tx, _, rfl, .inr (SqT.of (kl _ _ _ hx3)), rfl, strsV_flat xs, _, rfl, ite2 (fun c1 => ?_) (fun c1 => ?_)⟩
    · have c1 : byW s xs i = true := c1
      rw [c1, Bool.true_and] at ei
      refine ⟨_, rfl, _, _, rfl, rfl, _, rfl, ite2 (fun c2 => ?_) (fun c2 => ?_)⟩
      · rw [show decide (way < 2) = true from c2, Bool.true_or] at ei
        exact iteT (yes ei.symm)
      · rw [show decide (way < 2) = false from Bool.eq_false_iff.mpr c2, Bool.false_or] at ei
        refine ⟨_, rfl, _, rfl, wv, _, rfl, .inr (SqT.of (kl _ _ _ W.wan)), rfl, intsV_flat ws, _, rfl, ite2 (fun c3 => ?_) (fun c3 => ?_)⟩
        · exact yes (by rw [← ei]; exact c3)
        · exact no (by rw [← ei]; exact c3)
    · have c1 : ¬ byW s xs i = true := c1
      rw [Bool.eq_false_iff.mpr c1, Bool.false_and] at ei
      exact iteF (no (by rw [← ei]; exact Bool.false_ne_true))
  · obtain ⟨_, rfl⟩ := h
    rw [List.length_map, List.length_range]
    have kf := kl (.lst (intsV (sel n a pj)))
    refine ⟨_, _, .lst (kf _ _ hl) (ints_reps _), .lst upd_same (ints_reps _), ints_shaped _, ints_shaped _, _, rfl, ?_⟩
    rw [SeqAt.eqv_refl _ (SeqAt.canLay_of_shaped (ints_shaped _))]
    refine iteF ?_
    exact fin _ _ _ g u _ _ _ _ _ (W.grow kf) gd' nst
end
end K33

set_option Elab.async false
set_option linter.all false
set_option maxRecDepth 100000
set_option pp.maxSteps 300
set_option maxHeartbeats 2000000
namespace K33
open PySem L2
theorem inV_mem (x : Int) (lo : List Int) : inV (.int x) (intsV lo) = true ↔ x ∈ lo := by
  unfold inV intsV
  rw [List.any_map, List.any_eq_true]
  constructor
  · rintro ⟨y, hy, e⟩
    have e : (y == x) = true := e
    rw [← eq_of_beq e]
    exact hy
  · intro h
    exact ⟨x, h, show (x == x) = true from beq_self_eq_true x⟩
def tNeK (K : PySem.W.Frag) : R2 := fun x y H Q => ∃ d e, RepK K H x d ∧ RepK K H y e ∧ SeqAt.shaped d = true ∧ SeqAt.shaped e = true ∧ Q (V.bl !d.eqv e) H
theorem outs_ne {K : PySem.W.Frag} {HH : Hp} {oa : Addr} {n : Nat} {a dl : Nat → Int} {Q : VK} {σ : St} (ho : OutsAt HH oa n a dl) (q : ∀ z0, HH z0 = none → Q (.bl (decide (n ≠ 0))) (upd HH z0 (.tup []))) : tTup tNil σ HH fun y H1 => tNeK K (.ref oa) y H1 Q := by
  refine ⟨Nat.zero_le _, fun z0 hz0 => ?_⟩
  have kz := same_new hz0 (.tup [])
  obtain ⟨to, hoa, hto⟩ := id (ho.tups (TupF.of kz))
  refine ⟨.tuple ((List.range n).map (ouD a dl)), .tuple [], .tup hoa.sq (reps_map _ fun j hj => .tup (SqT.of (hto j (List.mem_range.mp hj))) (.cons (.int _) (.cons (.int _) .nil))), .tup (SqT.of upd_same) .nil, ou_shaped a dl _, by rfl, ?_⟩
  have e : (!(PyData.tuple ((List.range n).map (ouD a dl))).eqv (.tuple [])) = decide (n ≠ 0) := by
    cases n with
    | zero => show (!(PyData.tuple []).eqv (PyData.tuple [])) = decide (0 ≠ 0); decide +kernel
    | succ m =>
      rw [List.range_succ_eq_map, List.map_cons, decide_eq_true (Nat.succ_ne_zero m)]
      rfl
  rw [e]
  exact q z0 hz0
theorem outs_e (n : Nat) (a dl : Nat → Int) : (!(PyData.tuple ((List.range n).map (ouD a dl))).eqv (.tuple [])) = decide (n ≠ 0) := by
  cases n with
  | zero => show (!(PyData.tuple []).eqv (PyData.tuple [])) = decide (0 ≠ 0); decide +kernel
  | succ m =>
    rw [List.range_succ_eq_map, List.map_cons, decide_eq_true (Nat.succ_ne_zero m)]
    rfl
theorem outs_rp {K : PySem.W.Frag} {HH : Hp} {oa z0 : Addr} {n : Nat} {a dl : Nat → Int} (ho : OutsAt HH oa n a dl) (hz0 : HH z0 = none) : RepK K (upd HH z0 (.tup [])) (.ref oa) (.tuple ((List.range n).map (ouD a dl))) ∧ RepK K (upd HH z0 (.tup [])) (.ref z0) (.tuple []) := by
  obtain ⟨to, hoa, hto⟩ := id (ho.tups (TupF.of (same_new hz0 (.tup []))))
  exact ⟨.tup hoa.sq (reps_map _ fun j hj => .tup (SqT.of (hto j (List.mem_range.mp hj))) (.cons (.int _) (.cons (.int _) .nil))), .tup (SqT.of upd_same) .nil⟩
section
variable {C : Addr} {K : PySem.W.Frag} {H HH H1 : Hp} {b p oa wv dw dd d1 d2 d3 d4 wa : Addr} {n kk k : Nat} {a dl : Nat → Int} {s sw sd : Nat → Sta} {g : Nat → Bool} {ws : List Int} {u : Nat → Int} {way x : Int} {x7 x8 x9 x10 x11 x12 : Option V} {D : Ends}
abbrev tHi (C : Addr) (K : PySem.W.Frag) : TS := tSeq (tIfS (tTest (tOp rEq (tVar 5) (tC (V.int 0)))) (tAsg (tMeth C (Str.ofString "press") (spDo C K pPress (Str.ofString "waiting", 1)) [] E0 (tVar 1) tNil) (gName 10)) (tAsg (tIf (tTest (tOp rEq (tVar 5) (tC (V.int 1)))) (tMeth C (Str.ofString "silence") (spDo C K pSil (Str.ofString "silenced", 0)) [] E0 (tVar 1) tNil) (tMeth C (Str.ofString "reset") (spDo C K pRes (Str.ofString "still", 0)) [] E0 (tVar 1) tNil)) (gName 10))) (tHiT K)
theorem hr_hi (w0 : 0 ≤ way) (as : Asc n a) (few : n ≤ 30) (fin : Fn C K H b p oa wv dw dd d1 d2 d3 d4 wa n k a dl ws way x D) (W : Hw C K H HH b p oa wv dw dd d1 d2 d3 d4 wa n (k + 3) a dl s s s g ws u) (gd : ∀ j, j < n → Gd (s j)) (nst : NotStill n a s ws) :
    tIfS (tTest (tOp (rI0 fun i j => V.bl (decide (i < j))) (tVar 5) (tC (V.int 3)))) (tHi C K) tNext D [some (.ref b), some (.ref p), some (.ref oa), some (.ref wv), some (.ref dw), some (.int way), some (.int x), some (.ref dd), x8, x9, x10, x11, x12] HH := by
  refine ⟨_, rfl, _, _, rfl, rfl, _, rfl, ite2 (fun c3 => ?_) (fun c3 => ?_)⟩
  · have c3 : way < 3 := of_decide_eq_true c3
    obtain ⟨dx, hp⟩ := W.sdr.r.ins
    obtain ⟨_, _, _, ⟨q4, e4⟩, _, _, _, _⟩ := W.kinds
    have putG : ∀ (pj : Nat → Bool) (z : Sta), Gd z → ∀ j, j < n → Gd (putS s pj z j) := fun pj z gz j hj => by
      unfold putS
      split
      · exact gz
      · exact gd j hj
    have putN : ∀ (pj : Nat → Bool) (z : Sta), z.1 ≠ "still" → NotStill n a (putS s pj z) ws := fun pj z nz j hj hm => by
      unfold putS
      split
      · exact nz
      · exact nst j hj hm
    refine ⟨_, rfl, rfl, _, rfl, ite2 (fun c0 => ?_) (fun c0 => ?_)⟩
    · have e0 : way = 0 := V.int.inj (of_decide_eq_true c0)
      refine ⟨_, rfl, p, dx, _, rfl, hp, fno (by decide +kernel), p, d1, d2, d3, d4, wa, n, a, dl, s, g, ws, rfl, W.sdr.r, W.sdr.wan, fun l H' fl hl R' s' => ?_⟩
      exact hi_tail as few (.inl ⟨e0, rfl, rfl, rfl⟩) fin (W.deed (SameX.ofB s' (by simp)) R') hl gd (putG _ _ (.inr (.inr (.inr ⟨1, by decide, rfl⟩)))) (putN _ _ ns9)
    · have n0 : way ≠ 0 := fun z => c0 (decide_eq_true (by rw [z]))
      refine ⟨_, rfl, rfl, _, rfl, ite2 (fun c1 => ?_) (fun c1 => ?_)⟩
      · have e1 : way = 1 := V.int.inj (of_decide_eq_true c1)
        refine ⟨_, rfl, p, dx, _, rfl, hp, fno (by decide +kernel), p, d1, d2, d3, d4, wa, n, a, dl, s, g, ws, rfl, W.sdr.r, W.sdr.wan, fun l H' fl hl R' s' => ?_⟩
        exact hi_tail as few (.inr (.inl ⟨e1, rfl, rfl, rfl⟩)) fin (W.deed (SameX.ofB s' (by simp)) R') hl gd (putG _ _ (.inr (.inr (.inl rfl)))) (putN _ _ ns6)
      · have n1 : way ≠ 1 := fun z => c1 (decide_eq_true (by rw [z]))
        refine ⟨_, rfl, p, dx, _, rfl, hp, fno (by decide +kernel), p, d1, d2, d3, d4, wa, n, a, dl, s, g, ws, rfl, W.sdr.r, W.sdr.wan, fun l H' fl hl R' s' => ?_⟩
        refine hi_tail as few (.inr (.inr ⟨by omega, rfl, rfl, rfl⟩)) fin (W.deed (SameX.ofB s' (by simp)) R') hl gd (putG _ _ (.inl rfl)) fun j hj hm => ?_
        unfold putS
        split
        · rename_i hp'
          have h2 := ((Bool.and_eq_true _ _).mp hp').2
          have h3 : inV (.int (a j)) (intsV ws) = true := (inV_mem _ _).mpr hm
          rw [h3] at h2
          cases h2
        · exact nst j hj hm
  · exact fin _ _ _ _ _ _ _ _ _ _ W gd nst
abbrev tElif (C : Addr) (K : PySem.W.Frag) (hc c5 c7 : Addr) : TS := tIfS (tAnd (tTest (tOp rEq (tVar 5) (tC (V.int 4)))) (tAnd (tTest (tOp (tNeK K) (tVar 2) (tTup tNil))) (tTest (tOp rEq (tOp (rIxT K) (tDGet (tVar 4) (tVar 6)) (tC (V.int 0))) (tC (V.str (Str.ofString "waiting"))))))) (tLen C K hc c5 c7) (tIfS (tTest (tOp (rI0 fun i j => V.bl (decide (i < j))) (tVar 5) (tC (V.int 3)))) (tHi C K) tNext)
theorem hr_elif {hc c5 c7 : Addr} {cs : List Addr} (k_NoHand : Knd K hc c7 cs 7) (w0 : 0 ≤ way) (as : Asc n a) (few : n ≤ 30) (dl0 : ∀ j, j < n → 0 ≤ dl j) (hx : n ≠ 0 → ∃ i, i < n ∧ x = a i) (fin : Fn C K H b p oa wv dw dd d1 d2 d3 d4 wa n k a dl ws way x D) (W : Hw C K H HH b p oa wv dw dd d1 d2 d3 d4 wa n (k + 3) a dl s s s g ws u) (gd : ∀ j, j < n → Gd (s j)) (nst : NotStill n a s ws) :
    tElif C K hc c5 c7 D [some (.ref b), some (.ref p), some (.ref oa), some (.ref wv), some (.ref dw), some (.int way), some (.int x), some (.ref dd), x8, x9, x10, x11, x12] HH := by
  refine ⟨_, rfl, rfl, _, rfl, ite2 (fun c4 => ?_) (fun c4 => iteF (hr_hi w0 as few fin W gd nst))⟩
  refine ⟨_, rfl, outs_ne W.outs fun z0 hz0 => ⟨_, rfl, ite2 (fun c1 => ?_) (fun c1 => iteF (hr_hi w0 as few fin (W.grow (same_new hz0 _)) gd nst))⟩⟩
  obtain ⟨i, hi, ex⟩ := hx (of_decide_eq_true c1)
  have W := W.grow (same_new hz0 (.tup []))
  obtain ⟨vw, ew, hvw⟩ := id W.was
  obtain ⟨t, et, ht⟩ := (hvw i hi).sq
  refine ⟨_, rfl, _, rfl, dw, _, rfl, .inl ⟨_, .inl (a i), .inl ew, (by rw [ex]; rfl), (dk_val as.ap hi).symm⟩, t, _, _, _, et, rfl, ht, rfl, rfl, _, rfl, ite2 (fun c5 => ?_) (fun c5 => hr_hi w0 as few fin W gd nst)⟩
  exact hr_len k_NoHand as few dl0 fin W gd nst hi ex (dstr c5)
abbrev tRestH (C : Addr) (K : PySem.W.Frag) (hc c5 c7 : Addr) : TS := tSeq (tAsg (tCB rCopyD (tCons (tVar 4) tNil)) (gName 7)) (tSeq (tIfS (tAnd (tTest (tOp rEq (tVar 5) (tC (V.int 3)))) (tTest (tOp (tNeK K) (tVar 2) (tTup tNil)))) (tPutO C K) (tElif C K hc c5 c7)) (tEnd C K))
theorem hr_rest {hc c5 c7 : Addr} {cs : List Addr} {Q : VK} (hD : D.rt = Q) (q : Kq C K H b p d1 d2 d3 d4 wa n k a dl ws Q) (hk : k ≤ 8000) (k_NoHand : Knd K hc c7 cs 7) (w0 : 0 ≤ way) (as : Asc n a) (few : n ≤ 30) (dl0 : ∀ j, j < n → 0 ≤ dl j) (hx : n ≠ 0 → ∃ i, i < n ∧ x = a i)
    (hb : BagAt HH b (k + 2)) (S : Sd C K HH p d1 d2 d3 d4 wa n a dl s g ws) (h4 : HH d4 = some (.dK (dk n a (unV u)))) (ho : OutsAt HH oa n a dl) (hw : LdAt K HH dw n a s) (hwv : HH wv = some (.tup (intsV ws))) (sx : SameX [b, d2, d3, d4] H HH) (nw : dw ∉ [b, d2, d3, d4]) (eb : ∃ o, H b = some o) (e1 : ∃ o, H d1 = some o) (e2 : ∃ o, H d2 = some o) (e3 : ∃ o, H d3 = some o) (e4 : ∃ o, H d4 = some o) (gd : ∀ j, j < n → Gd (s j)) (nst : NotStill n a s ws) :
    tRestH C K hc c5 c7 D [some (.ref b), some (.ref p), some (.ref oa), some (.ref wv), some (.ref dw), some (.int way), some (.int x), x7, x8, x9, x10, x11, x12] HH := by
  obtain ⟨vw, ew, hvw⟩ := id hw
  refine ⟨_, rfl, copyD_mk ew fun dd hdd => ?_⟩
  have kd := same_new hdd (.dK (dk n a vw))
  have hd : LdAt K (upd HH dd (.dK (dk n a vw))) dd n a s := ⟨vw, upd_same, fun j hj => (hvw j hj).tups (TupF.of kd)⟩
  have fr : ∀ c, (∃ o, HH c = some o) → dd ≠ c := fun c ⟨o, e⟩ => (ne_of_none e hdd).symm
  obtain ⟨v2, h2, _⟩ := S.r.sta
  have h3 := S.r.len
  obtain ⟨xb, yb, zb, ebb, _⟩ := id hb
  have fdd : H dd = none := by
    cases e : H dd with
    | none => rfl
    | some o =>
      have nm : dd ∉ [b, d2, d3, d4] := by
        simp only [List.mem_cons, List.not_mem_nil, or_false, not_or]
        exact ⟨fr b ⟨_, ebb⟩, fr d2 ⟨_, h2⟩, fr d3 ⟨_, h3⟩, fr d4 ⟨_, h4⟩⟩
      rw [sx _ _ e nm] at hdd
      cases hdd
  have W : Hw C K H (upd HH dd (.dK (dk n a vw))) b p oa wv dw dd d1 d2 d3 d4 wa n (k + 2) a dl s s s g ws u := by
    refine ⟨hb.same kd, S.mv (fun _ _ o e => kd _ _ e) (TupF.of kd), kd _ _ h4, ho.tups (TupF.of kd), hw.mv (fun o e => kd _ _ e) (TupF.of kd), hd, kd _ _ hwv, sx.trans (SameX.of kd), nw, ?_, ne_of_none ew hdd, fdd, fr d1 ⟨_, S.del⟩, ?_, ?_, ?_⟩
    · simp only [List.mem_cons, List.not_mem_nil, or_false, not_or]
      exact ⟨fr b ⟨_, ebb⟩, fr d2 ⟨_, h2⟩, fr d3 ⟨_, h3⟩, fr d4 ⟨_, h4⟩⟩
    · intro z; rw [z, h2] at ebb; cases ebb
    · intro z; rw [z, h3] at ebb; cases ebb
    · intro z; rw [z, h4] at ebb; cases ebb
  generalize upd HH dd (.dK (dk n a vw)) = H2 at W ⊢
  have fin : Fn C K H b p oa wv dw dd d1 d2 d3 d4 wa n k a dl ws way x { D with nx := fun σ H => tEnd C K D σ H } := fun HF s sw g u x8 x9 x10 x11 x12 W gd nst => hr_end hD q W as.ap gd nst
  refine ⟨_, rfl, rfl, _, rfl, ite2 (fun c3 => ?_) (fun c3 => iteF (hr_elif k_NoHand w0 as few dl0 hx fin (W.mono (by omega)) gd nst))⟩
  refine ⟨_, rfl, outs_ne W.outs fun z0 hz0 => ⟨_, rfl, ite2 (fun c1 => ?_) (fun c1 => hr_elif k_NoHand w0 as few dl0 hx fin ((W.grow (same_new hz0 _)).mono (by omega)) gd nst)⟩⟩
  obtain ⟨i, hi, ex⟩ := hx (of_decide_eq_true c1)
  exact hr_put hk fin (W.grow (same_new hz0 _)) gd nst hi ex
end
end K33

set_option Elab.async false
set_option linter.all false
set_option maxRecDepth 100000
set_option pp.maxSteps 300
set_option maxHeartbeats 2000000
namespace K33
open PySem L2
abbrev s_l_hand_right : Stmt := top 20
abbrev p_l_hand_right : List Str := ["_law_bag_here", "_law_sounder", "_law_outs_here", "_law_wanted_here"]
theorem sc_l_hand_right : FnScope ["_law_bag_here", "_law_sounder", "_law_outs_here", "_law_wanted_here", "_law_was", "_law_way", "_law_address", "_law_due", "_law_left", "e", "_law_told", "_law_one", "_law_some"] p_l_hand_right (defScope s_l_hand_right) := ⟨rfl, rfl, rfl, by decide +kernel, rfl, by decide +kernel, by decide +kernel⟩
section
variable {P : Program} {w : World} {K : PySem.W.Frag} {mg : Str → Option Value} {base : Heap} {C st so si : Addr}
theorem ok_hr {hc c0 c1 c2 c3 c4 c5 c6 c7 c8 c9 c10 c11 c12 : Addr} (c : Code K mg "_law_hand_right" s_l_hand_right p_l_hand_right) (T : Tx K mg C st so si) (XE : Er K mg hc c0 c1 c2 c3 c4 c5 c6 c7 c8 c9 c10 c11 c12) (k_NoAddress : Knd K hc c5 [c0, c1, c2, c3, c4, c5, c6, c7, c8, c9, c10, c11, c12] 5) (k_NoHand : Knd K hc c7 [c0, c1, c2, c3, c4, c5, c6, c7, c8, c9, c10, c11, c12] 7)
    (g_l_take : Good P w K mg base "_law_take" 1 p_l_take spTake) (g_l_standing : Good P w K mg base "_law_standing" 4 p_l_standing (spStg C K)) (g_m_put_out : GoodM P w K mg base C "put_out" 3 p_Sounder_put_out (spOut C K))
    (g_m_press : GoodM P w K mg base C "press" 2 p_Sounder_press (spDo C K pPress ("waiting", 1))) (g_m_silence : GoodM P w K mg base C "silence" 2 p_Sounder_silence (spDo C K pSil ("silenced", 0))) (g_m_reset : GoodM P w K mg base C "reset" 2 p_Sounder_reset (spDo C K pRes ("still", 0))) (g_m_lengthen : GoodMX P w K mg base C "lengthen" 3 p_Sounder_lengthen (spLen C c5 c7 K)) : Good P w K mg base "_law_hand_right" 5 p_l_hand_right (spHR C K) := by
  refine c.good sc_l_hand_right (fun vs H Q E h => ?_) (fun f cdv A outer s H vs Q E hr h => ?_)
  · obtain ⟨b, p, oa, wv, d1, d2, d3, d4, wa, n, k, a, dl, s, g, ws, u, rfl, _⟩ := h
    rfl
  obtain ⟨b, p, oa, wv, d1, d2, d3, d4, wa, n, k, a, dl, s, g, ws, u, rfl, hb, hk, S, h4, ho, as, few, dl0, gd, nst, hwv, q⟩ := h
  refine ⟨_, (pss_cons (ps_set (i := 4) sc_l_hand_right.nd rfl (Or.inr rfl) (pcall g_l_standing hr (pa_cons (pv 1) (pa_cons (pv 2) pa_nil))))
  (pss_cons (ps_set (i := 5) sc_l_hand_right.nd rfl (Or.inr rfl) (pcall g_l_take hr (pa_cons (pv 0) (pa_cons pe_int pa_nil))))
  (pss_cons (ps_set (i := 6) sc_l_hand_right.nd rfl (Or.inl rfl) (pe_ifExp (pt_cmpR (op_neK (K := K) rfl hr.units) (pv 2) (pe_tup pa_nil) (nomark _)) (pe_ix ix_tup (pe_ix ix_tup (pv 2) (pcall g_l_take hr (pa_cons (pv 0) (pa_cons (pe_callB call_len_seq rfl T.len bt_len (pa_cons (pv 2) pa_nil)) pa_nil))) (fun _ _ => rfl)) pe_int (fun _ _ => rfl)) pe_int))
  (pss_cons (ps_set (i := 7) sc_l_hand_right.nd rfl (Or.inl rfl) (pe_callTy call_copyD rfl T.dict bt_dict (pa_cons (pv 4) pa_nil)))
  (pss_cons (ps_if (PW.pt (pw_and (pt_cmpR op_eq (pv 5) pe_int (nomark _)) (pw_and1 (pt_cmpR (op_neK (K := K) rfl hr.units) (pv 2) (pe_tup pa_nil) (nomark _))))) (pss_one (ps_expr (pmeth (pv 1) T.cl g_m_put_out hr (pa_cons (pv 6) (pa_cons (pe_op op_add pe_int (pcall g_l_take hr (pa_cons (pv 0) (pa_cons pe_int pa_nil)))) pa_nil))))) (pss_one (ps_if (PW.pt (pw_and (pt_cmpR op_eq (pv 5) pe_int (nomark _)) (pw_and (pt_cmpR (op_neK (K := K) rfl hr.units) (pv 2) (pe_tup pa_nil) (nomark _)) (pw_and1 (pt_cmpR op_eq (pe_ix ix_tup (pe_dget (hu_of hr) (pv 4) (pv 6) (fun _ _ => rfl)) pe_int (fun _ _ => rfl)) pe_str (nomark _)))))) (pss_cons (ps_try (i := 9) sc_l_hand_right.nd rfl rfl rfl rfl rfl XE.nHouseError XE.xHouseError (fun pn E1 EX hx => (pss_one (ps_set (i := 8) sc_l_hand_right.nd rfl (Or.inl rfl) (pmethX (pv 1) T.cl g_m_lengthen hr hx (pa_cons (pv 6) pa_nil)))))
  (fun pn ea => (pss_one (ps_set (i := 8) sc_l_hand_right.nd rfl (Or.inl rfl) (pe_ix (ix_tupK (K := K) rfl) (pe_dget (hu_ofH (hr.inH _)) (pv 4) (pv 6) (fun _ _ => rfl)) pe_int (fun _ _ => rfl))))))
  (pss_cons (ps_if (pt_cmpR op_notIn_seq (pv 8) (pe_lst (pa_cons (pe_ix ix_tup (pe_dget (hu_of hr) (pv 4) (pv 6) (fun _ _ => rfl)) pe_int (fun _ _ => rfl)) (pa_cons (pe_op op_add (pe_ix ix_tup (pe_dget (hu_of hr) (pv 4) (pv 6) (fun _ _ => rfl)) pe_int (fun _ _ => rfl)) (pe_dget (hu_of hr) (pe_callTy (call_dictT rfl) rfl T.dict bt_dict (pa_cons (pv 2) pa_nil)) (pv 6) (fun _ _ => rfl))) pa_nil))) (by with_unfolding_all rfl)) (pss_one (ps_ret pe_bl)) pss_nil)
  (pss_one (ps_dput (hu_of hr) (pv 7) (pv 6) (pe_tup (pa_cons pe_str (pa_cons (pv 8) pa_nil))) rfl)))) (pss_one (ps_if (pt_cmpR op_lt (pv 5) pe_int (nomark _)) (pss_cons (ps_if (pt_cmpR op_eq (pv 5) pe_int (nomark _)) (pss_one (ps_set (i := 10) sc_l_hand_right.nd rfl (Or.inl rfl) (pmeth0 (pv 1) T.cl g_m_press hr))) (pss_one (ps_set (i := 10) sc_l_hand_right.nd rfl (Or.inl rfl) (pe_ifExp (pt_cmpR op_eq (pv 5) pe_int (nomark _)) (pmeth0 (pv 1) T.cl g_m_silence hr) (pmeth0 (pv 1) T.cl g_m_reset hr)))))
  (pss_cons (ps_for PassesOwn.never rfl (pi_list (pv 10)) (pg_name (i := 11) sc_l_hand_right.nd rfl (Or.inl rfl))
  (pss_one (ps_dput (hu_of hr) (pv 7) (pv 11) (pe_ix ix_list (pe_lst (pa_cons (pe_tup (pa_cons pe_str (pa_cons pe_int pa_nil))) (pa_cons (pe_tup (pa_cons pe_str (pa_cons pe_int pa_nil))) (pa_cons (pe_tup (pa_cons pe_str (pa_cons pe_int pa_nil))) pa_nil)))) (pv 5) (fun _ _ => rfl)) rfl)))
  (pss_cons (ps_set (i := 12) sc_l_hand_right.nd rfl (Or.inr rfl) (pe_ix ix_list (pe_lst (pa_cons (pe_tup (pa_cons pe_str pa_nil)) (pa_cons (pe_tup (pa_cons pe_str pa_nil)) (pa_cons (pe_tup (pa_cons pe_str (pa_cons pe_str pa_nil))) pa_nil)))) (pv 5) (fun _ _ => rfl)))
  (pss_one (ps_if (pt_cmpR (op_neD hr.units) (pv 10) (pe_comp (N' := ["_law_one", "_law_delay", "_law_some", "_law_way", "_law_wanted_here", "_law_was"]) rfl (CScope.of (src := [none, none, some 12, some 5, some 3, some 4]) (defScope s_l_hand_right) ["_law_bag_here", "_law_sounder", "_law_outs_here", "_law_wanted_here", "_law_was", "_law_way", "_law_address", "_law_due", "_law_left", "e", "_law_told", "_law_one", "_law_some"] rfl rfl rfl (by decide +kernel) (by decide +kernel) (by decide +kernel) rfl (by decide +kernel)) (pi_tup (pv 2)) (fun _ _ _ _ => (pg_tupK (K := K) (n := 2) rfl rfl (pgs_cons (pg_name (i := 0) (show List.Nodup (["_law_one", "_law_delay", "_law_some", "_law_way", "_law_wanted_here", "_law_was"] : List Str) by decide +kernel) rfl (Or.inl rfl)) (pgs_cons (pg_name (i := 1) (show List.Nodup (["_law_one", "_law_delay", "_law_some", "_law_way", "_law_wanted_here", "_law_was"] : List Str) by decide +kernel) rfl (Or.inl rfl)) pgs_nil)))) (fun _ _ _ _ => (pf_one (PW.pt (pw_and (pt_cmpR (op_in_seqK (K := K) rfl) (pe_ix (ix_tupK (K := K) rfl) (pe_dget (hu_of hr) (pv 5) (pv 0) (fun _ _ => rfl)) pe_int (fun _ _ => rfl)) (pv 2) (by with_unfolding_all rfl)) (pw_and1 (PW.pt (pw_or (pt_cmpR op_lt (pv 3) pe_int (nomark _)) (pw_or1 (pt_cmpR (op_notIn_seqK (K := K) rfl) (pv 0) (pv 4) (by with_unfolding_all rfl)))))))))) (fun _ _ _ _ => (pv 0))) (nomark _)) (pss_one (ps_ret pe_bl)) pss_nil))))) pss_nil)))))
  (pss_one (ps_ret (pe_cmpR (op_eqDD (K := K) rfl hr.units2) (pcall g_l_standing hr (pa_cons (pv 1) (pa_cons (pv 2) pa_nil))) (pv 7) (nomark _))))))))), ?_⟩
  have ap := as.ap
  -- was
  refine ⟨_, rfl, _, rfl, p, oa, d1, d2, d3, d4, wa, n, a, dl, s, g, rfl, S.r, ho, fun dw H1 fdw hdw s1 => ?_⟩
  simp only [List.set_cons_succ, List.set_cons_zero]
  have hb1 := hb.same s1
  -- way
  refine ⟨_, rfl, b, _, 5, rfl, hb1, by omega, by decide, by decide, fun way H2 w0 w5 hb2 s2 => ?_⟩
  have t2 : TupF H H2 := (TupF.of s1).trans (s2.tupF hb1.ntupF)
  have ho2 := ho.tups t2
  obtain ⟨x0, y0, z0, eb, _⟩ := id hb
  obtain ⟨v2, h2, _⟩ := S.r.sta
  have h3 := S.r.len
  obtain ⟨dx, hp⟩ := S.r.ins
  have nb : ∀ {c o}, H c = some o → (∀ z, o ≠ .lst z) → c ≠ b := fun {c o} e no z => by
    rw [z, eb] at e
    cases e
    exact no _ rfl
  have mv2 : ∀ c, c = p ∨ c = d1 ∨ c = d2 ∨ c = d3 ∨ c = d4 → ∀ o, H c = some o → H2 c = some o := fun c hc o e => s2 _ _ (s1 _ _ e) (by
    rcases hc with z | z | z | z | z
    · rw [z]; exact nb hp (by intro z w; cases w)
    · rw [z]; exact nb S.del (by intro z w; cases w)
    · rw [z]; exact nb h2 (by intro z w; cases w)
    · rw [z]; exact nb h3 (by intro z w; cases w)
    · rw [z]; exact nb h4 (by intro z w; cases w))
  have S2 : Sd C K H2 p d1 d2 d3 d4 wa n a dl s g ws := S.mv mv2 t2
  have h42 := mv2 d4 (by simp) _ h4
  have ndw : ∀ c, (∃ o, H c = some o) → dw ≠ c := fun c ⟨o, e⟩ => (ne_of_none e fdw).symm
  have nw : dw ∉ [b, d2, d3, d4] := by
    simp only [List.mem_cons, List.not_mem_nil, or_false, not_or]
    exact ⟨ndw b ⟨_, eb⟩, ndw d2 ⟨_, h2⟩, ndw d3 ⟨_, h3⟩, ndw d4 ⟨_, h4⟩⟩
  have hw2 : LdAt K H2 dw n a s := hdw.mv (fun o e => s2 _ _ e (ndw b ⟨_, eb⟩)) (s2.tupF hb1.ntupF)
  have sx2 : SameX [b, d2, d3, d4] H H2 := (SameX.of s1).trans (SameX.ofB s2 (by simp))
  have hwv2 := t2 _ _ hwv
  show tSeq _ _ _ [some (.ref b), some (.ref p), some (.ref oa), some (.ref wv), some (.ref dw), some (.int way), none, none, none, none, none, none, none] H2
  refine ⟨_, rfl, Nat.zero_le _, fun z0 hz0 => ⟨_, _, (outs_rp ho2 hz0).1, (outs_rp ho2 hz0).2, ou_shaped a dl _, by rfl, _, rfl, ?_⟩⟩
  rw [outs_e]
  refine ite2 (fun c1 => ?_) (fun c1 => ?_)
  · have n0 := of_decide_eq_true c1
    have kz := same_new hz0 (.tup [])
    have hb2 := hb2.same kz
    have S2 := S2.mv (fun _ _ o e => kz _ _ e) (TupF.of kz)
    have h42 := kz _ _ h42
    have hw2 := hw2.mv (fun o e => kz _ _ e) (TupF.of kz)
    have sx2 := sx2.trans (SameX.of kz)
    have hwv2 := kz _ _ hwv2
    have ho2 := ho2.tups (TupF.of kz)
    generalize upd H2 z0 (.tup []) = H3 at hb2 S2 h42 hw2 sx2 hwv2 ho2 ⊢
    obtain ⟨to, hoa, hto⟩ := id ho2
    refine ⟨_, rfl, _, rfl, _, rfl, oa, _, rfl, .inr hoa.sq, b, _, _, rfl, hb2, by omega, by rw [List.length_map, List.length_range]; omega, by rw [List.length_map, List.length_range]; omega, fun r6 H6 r60 r61 hb6 s6 => ?_⟩
    have t6 := s6.tupF hb2.ntupF
    obtain ⟨x6, y6, z6, eb6, _⟩ := id hb2
    obtain ⟨v3, h23, _⟩ := S2.r.sta
    have h33 := S2.r.len
    obtain ⟨dx3, hp3⟩ := S2.r.ins
    have nb3 : ∀ {c o}, H3 c = some o → (∀ z, o ≠ .lst z) → c ≠ b := fun {c o} e no z => by
      rw [z, eb6] at e
      cases e
      exact no _ rfl
    rw [List.length_map, List.length_range] at r61
    obtain ⟨j, rfl⟩ : ∃ j : Nat, r6 = j := ⟨r6.toNat, by omega⟩
    have hj : j < n := by omega
    refine ⟨oa, _, _, _, rfl, rfl, (hoa.tups t6).sq, atI_nat (rg_at hj), to j, _, _, _, rfl, rfl, SqT.of (t6 _ _ (hto j hj)), rfl, ?_⟩
    refine hr_rest (K := K) rfl q (by omega) k_NoHand w0 as few dl0 (fun _ => ⟨j, hj, rfl⟩) hb6 (S2.mv (fun c hc o e => s6 _ _ e ?_) t6) (s6 _ _ h42 (nb3 h42 (by intro z w; cases w))) (ho2.tups t6) (hw2.mv (fun o e => s6 _ _ e (ndw b ⟨_, eb⟩)) t6) (t6 _ _ hwv2) (sx2.trans (SameX.ofB s6 (by simp))) nw ⟨_, eb⟩ ⟨_, S.del⟩ ⟨_, h2⟩ ⟨_, h3⟩ ⟨_, h4⟩ gd nst
    rcases hc with z | z | z | z | z
    · rw [z]; exact nb3 hp3 (by intro z w; cases w)
    · rw [z]; exact nb3 S2.del (by intro z w; cases w)
    · rw [z]; exact nb3 h23 (by intro z w; cases w)
    · rw [z]; exact nb3 h33 (by intro z w; cases w)
    · rw [z]; exact nb3 h42 (by intro z w; cases w)
  · have kz := same_new hz0 (.tup [])
    exact hr_rest (K := K) rfl q (by omega) k_NoHand w0 as few dl0 (fun n0 => absurd (decide_eq_true n0) c1) ((hb2.same kz).mono (by omega)) (S2.mv (fun _ _ o e => kz _ _ e) (TupF.of kz)) (kz _ _ h42) (ho2.tups (TupF.of kz)) (hw2.mv (fun o e => kz _ _ e) (TupF.of kz)) (kz _ _ hwv2) (sx2.trans (SameX.of kz)) nw ⟨_, eb⟩ ⟨_, S.del⟩ ⟨_, h2⟩ ⟨_, h3⟩ ⟨_, h4⟩ gd nst
end
end K33

set_option Elab.async false
set_option linter.all false
set_option maxRecDepth 100000
set_option pp.maxSteps 300
set_option maxHeartbeats 2000000
namespace K33
open PySem L2
theorem seq_split {I R : TS} {D : Ends} {σ : St} {H : Hp} (P : St → Hp → Prop) (hR : ∀ σ' H', P σ' H' → R D σ' H') (hI : ∀ D' : Ends, (∀ σ' H', P σ' H' → D'.nx σ' H') → I D' σ H) : tSeq I R D σ H := hI { D with nx := fun σ H => R D σ H } hR
/-- a sounder: what stays -/
structure Fx where
  oa : Addr
  p : Addr
  d1 : Addr
  d2 : Addr
  d3 : Addr
  n : Nat
  a : Nat → Int
  dl : Nat → Int
/-- a sounder: what goes on -/
structure Va where
  d4 : Addr
  wa : Addr
  wv : Addr
  s : Nat → Sta
  g : Nat → Bool
  ws : List Int
  u : Nat → Int
def ads (f : Fx) (v : Va) : List Addr := [f.p, f.d1, f.d2, f.d3, v.d4]
structure Stn (C : Addr) (K : PySem.W.Frag) (H HH : Hp) (f : Fx) (v : Va) : Prop where
  outs : OutsAt HH f.oa f.n f.a f.dl
  sd : Sd C K HH f.p f.d1 f.d2 f.d3 v.d4 v.wa f.n f.a f.dl v.s v.g v.ws
  un : HH v.d4 = some (.dK (dk f.n f.a (unV v.u)))
  wan : HH v.wv = some (.tup (intsV v.ws))
  as : Asc f.n f.a
  few : f.n ≤ 30
  dl0 : ∀ j, j < f.n → 0 ≤ f.dl j
  gd : ∀ j, j < f.n → Gd (v.s j)
  nst : NotStill f.n f.a v.s v.ws
  lw : v.ws.length ≤ 30
  win : ∀ x ∈ v.ws, ∃ j, j < f.n ∧ f.a j = x
  fp : H f.p = none
  f1 : H f.d1 = none
  f2 : H f.d2 = none
  f3 : H f.d3 = none
  f4 : H v.d4 = none
section
variable {C : Addr} {K : PySem.W.Frag} {H HH H1 : Hp} {f : Fx} {v : Va}
theorem Stn.keep {cs : List Addr} (S : Stn C K H HH f v) (k : SameX cs HH H1) (t : TupF HH H1) (hc : ∀ c ∈ ads f v, c ∉ cs) : Stn C K H H1 f v := by
  have hp := hc f.p (by simp [ads])
  have h1 := hc f.d1 (by simp [ads])
  have h2 := hc f.d2 (by simp [ads])
  have h3 := hc f.d3 (by simp [ads])
  have h4 := hc v.d4 (by simp [ads])
  refine { S with outs := S.outs.tups t, sd := S.sd.mv (fun y hy o e => k _ _ e ?_) t, un := k _ _ S.un h4, wan := t _ _ S.wan }
  rcases hy with z | z | z | z | z <;> rw [z] <;> assumption
theorem Stn.grow (S : Stn C K H HH f v) (k : Same HH H1) : Stn C K H H1 f v := S.keep (cs := []) (SameX.of k) (TupF.of k) (fun _ _ => by simp)
theorem Stn.kinds (S : Stn C K H HH f v) : (∃ dx x, HH f.p = some (.ins C dx x)) ∧ (∃ x, HH f.d1 = some (.dK x)) ∧ (∃ x, HH f.d2 = some (.dK x)) ∧ (∃ x, HH f.d3 = some (.dK x)) ∧ ∃ x, HH v.d4 = some (.dK x) := by
  obtain ⟨dx, hp⟩ := S.sd.r.ins
  obtain ⟨w, h2, _⟩ := S.sd.r.sta
  exact ⟨⟨_, _, hp⟩, ⟨_, S.sd.del⟩, ⟨_, h2⟩, ⟨_, S.sd.r.len⟩, ⟨_, S.un⟩⟩
/-- none of a sounder's is a list or a tuple -/
theorem Stn.notL (S : Stn C K H HH f v) : ∀ c ∈ ads f v, ∀ o, HH c = some o → isT o = false ∧ ∀ x, o ≠ .lst x := by
  obtain ⟨⟨dx, q2, e2⟩, ⟨q3, e3⟩, ⟨q4, e4⟩, ⟨q5, e5⟩, q6, e6⟩ := S.kinds
  intro c hc o e
  simp only [ads, List.mem_cons, List.not_mem_nil, or_false] at hc
  rcases hc with z | z | z | z | z
  · rw [z, e2] at e; cases e; exact ⟨rfl, by intro x w; cases w⟩
  · rw [z, e3] at e; cases e; exact ⟨rfl, by intro x w; cases w⟩
  · rw [z, e4] at e; cases e; exact ⟨rfl, by intro x w; cases w⟩
  · rw [z, e5] at e; cases e; exact ⟨rfl, by intro x w; cases w⟩
  · rw [z, e6] at e; cases e; exact ⟨rfl, by intro x w; cases w⟩
theorem Stn.free (S : Stn C K H HH f v) : ∀ c ∈ ads f v, H c = none := by
  intro c hc
  simp only [ads, List.mem_cons, List.not_mem_nil, or_false] at hc
  rcases hc with z | z | z | z | z
  · rw [z]; exact S.fp
  · rw [z]; exact S.f1
  · rw [z]; exact S.f2
  · rw [z]; exact S.f3
  · rw [z]; exact S.f4
theorem Stn.there (S : Stn C K H HH f v) : ∀ c ∈ ads f v, ∃ o, HH c = some o := by
  obtain ⟨⟨dx, q2, e2⟩, ⟨q3, e3⟩, ⟨q4, e4⟩, ⟨q5, e5⟩, q6, e6⟩ := S.kinds
  intro c hc
  simp only [ads, List.mem_cons, List.not_mem_nil, or_false] at hc
  rcases hc with z | z | z | z | z
  · rw [z]; exact ⟨_, e2⟩
  · rw [z]; exact ⟨_, e3⟩
  · rw [z]; exact ⟨_, e4⟩
  · rw [z]; exact ⟨_, e5⟩
  · rw [z]; exact ⟨_, e6⟩
end
def upB {α : Type} (f : Bool → α) (w : Bool) (x : α) : Bool → α := fun y => if y = w then x else f y
theorem upB_same {α : Type} (f : Bool → α) (w : Bool) (x : α) : upB f w x w = x := if_pos rfl
theorem upB_not {α : Type} (f : Bool → α) (w : Bool) (x : α) : upB f w x (!w) = f (!w) := if_neg (by cases w <;> decide)
def wI (w : Bool) : Int := if w = true then 1 else 0
theorem atW (x : Bool → V) (w : Bool) : atI [x false, x true] (wI w) = some (x w) := by cases w <;> rfl
theorem atW' (x : Bool → V) (w : Bool) : atI [x false, x true] (1 - wI w) = some (x (!w)) := by cases w <;> rfl
/-- two sounders at a turn: q the tuples in the list of those wanted -/
structure Tw (C : Addr) (K : PySem.W.Frag) (H HH : Hp) (b lo ls lw : Addr) (f : Bool → Fx) (v : Bool → Va) (q : Bool → Addr) (kk : Nat) : Prop where
  sm : Same H HH
  bag : BagAt HH b kk
  hlo : HH lo = some (.lst [.ref (f false).oa, .ref (f true).oa])
  hls : HH ls = some (.lst [.ref (f false).p, .ref (f true).p])
  hlw : HH lw = some (.lst [.ref (q false), .ref (q true)])
  st : ∀ w, Stn C K H HH (f w) (v w)
  sep : ∀ x ∈ ads (f false) (v false), ∀ y ∈ ads (f true) (v true), x ≠ y
  fb : H b = none
  flw : H lw = none
  n1 : lo ≠ b
  n2 : ls ≠ b
  n3 : lw ≠ b
  n4 : lo ≠ lw
  n5 : ls ≠ lw
section
variable {C : Addr} {K : PySem.W.Frag} {H HH H1 : Hp} {b lo ls lw : Addr} {f : Bool → Fx} {v : Bool → Va} {q : Bool → Addr} {kk : Nat}
theorem Tw.sepW (T : Tw C K H HH b lo ls lw f v q kk) (w : Bool) : ∀ x ∈ ads (f (!w)) (v (!w)), x ∉ ads (f w) (v w) := fun x hx hy => by
  cases w with
  | true => exact T.sep x hx x hy rfl
  | false => exact T.sep x hy x hx rfl
theorem Tw.grow (T : Tw C K H HH b lo ls lw f v q kk) (k : Same HH H1) : Tw C K H H1 b lo ls lw f v q kk :=
  { T with sm := T.sm.trans k, bag := T.bag.same k, hlo := k _ _ T.hlo, hls := k _ _ T.hls, hlw := k _ _ T.hlw, st := fun w => (T.st w).grow k }
theorem Tw.mono {k' : Nat} (T : Tw C K H HH b lo ls lw f v q kk) (h : kk ≤ k') : Tw C K H HH b lo ls lw f v q k' := { T with bag := T.bag.mono h }
theorem Tw.notIn (T : Tw C K H HH b lo ls lw f v q kk) (w : Bool) {c : Addr} {x : List V} (hc : HH c = some (.lst x)) : c ∉ ads (f w) (v w) := fun m => ((T.st w).notL c m _ hc).2 _ rfl
theorem Tw.draw {k' : Nat} (T : Tw C K H HH b lo ls lw f v q kk) (k : SameB b HH H1) (hb : BagAt H1 b k') : Tw C K H H1 b lo ls lw f v q k' := by
  obtain ⟨x, y, z, e, _⟩ := id T.bag
  exact { T with sm := (fun y o e => k _ _ (T.sm _ _ e) (fun z => by have g := T.fb; rw [← z, e] at g; cases g)), bag := hb, hlo := k _ _ T.hlo T.n1, hls := k _ _ T.hls T.n2, hlw := k _ _ T.hlw T.n3, st := fun w => (T.st w).keep (cs := [b]) (SameX.ofB k (by simp)) (k.tupF T.bag.ntupF) (fun c hc m => by
    rw [List.mem_singleton.mp m] at hc
    exact T.notIn w e hc) }
theorem Tw.setW {q' : Bool → Addr} (T : Tw C K H HH b lo ls lw f v q kk) (k : SameB lw HH H1) (h : H1 lw = some (.lst [.ref (q' false), .ref (q' true)])) : Tw C K H H1 b lo ls lw f v q' kk :=
  { T with sm := (fun y o e => k _ _ (T.sm _ _ e) (fun z => by have g := T.flw; rw [← z, e] at g; cases g)), bag := T.bag.sameB k T.n3.symm, hlo := k _ _ T.hlo T.n4, hls := k _ _ T.hls T.n5, hlw := h, st := fun w => (T.st w).keep (cs := [lw]) (SameX.ofB k (by simp)) (k.tupF (ntOf T.hlw)) (fun c hc m => by
    rw [List.mem_singleton.mp m] at hc
    exact T.notIn w T.hlw hc) }
/-- one of the two goes on -/
theorem Tw.step {w : Bool} {v' : Va} {k' : Nat} (T : Tw C K H HH b lo ls lw f v q kk) (k : SameX (b :: ads (f w) (v w)) HH H1) (hb : BagAt H1 b k') (hs : Stn C K H H1 (f w) v') (hd : v'.d4 = (v w).d4 ∨ HH v'.d4 = none) : Tw C K H H1 b lo ls lw f (upB v w v') q k' := by
  obtain ⟨x, y, z, e, _⟩ := id T.bag
  have t : TupF HH H1 := k.tupF fun c hc o ho => by
    rcases List.mem_cons.mp hc with z | z
    · rw [z] at ho; exact T.bag.ntupF o ho
    · exact ((T.st w).notL c z o ho).1
  have nl : ∀ {c x}, HH c = some (.lst x) → c ≠ b → c ∉ b :: ads (f w) (v w) := fun hc nb m => by
    rcases List.mem_cons.mp m with z | z
    · exact nb z
    · exact T.notIn w hc z
  have so : Stn C K H H1 (f (!w)) (v (!w)) := (T.st (!w)).keep k t fun c hc m => by
    rcases List.mem_cons.mp m with z | z
    · rw [z] at hc; exact T.notIn (!w) e hc
    · exact T.sepW w c hc z
  have sep' : ∀ x ∈ ads (f (!w)) (v (!w)), x ∉ ads (f w) v' := fun x hx hy => by
    have hy' : x ∈ [(f w).p, (f w).d1, (f w).d2, (f w).d3, v'.d4] := hy
    by_cases ex : x = v'.d4
    · rcases hd with z | z
      · rw [z] at ex
        exact T.sepW w x hx (by rw [ex]; simp [ads])
      · obtain ⟨o, ho⟩ := (T.st (!w)).there x hx
        rw [ex, z] at ho
        cases ho
    · refine T.sepW w x hx ?_
      simp only [List.mem_cons, List.not_mem_nil, or_false] at hy'
      rcases hy' with z | z | z | z | z
      · rw [z]; simp [ads]
      · rw [z]; simp [ads]
      · rw [z]; simp [ads]
      · rw [z]; simp [ads]
      · exact absurd z ex
  refine { T with sm := (fun y o ey => k _ _ (T.sm _ _ ey) (fun m => ?_)), bag := hb, hlo := k _ _ T.hlo (nl T.hlo T.n1), hls := k _ _ T.hls (nl T.hls T.n2), hlw := k _ _ T.hlw (nl T.hlw T.n3), st := fun y => ?_, sep := ?_ }
  · rcases List.mem_cons.mp m with z | z
    · have g := T.fb; rw [← z, ey] at g; cases g
    · have g := (T.st w).free _ z; rw [ey] at g; cases g
  · by_cases ey : y = w
    · rw [ey, upB_same]; exact hs
    · have : y = !w := by cases y <;> cases w <;> first | rfl | exact absurd rfl ey
      rw [this, upB_not]; exact so
  · intro x hx y hy e
    subst e
    cases w with
    | true =>
      rw [upB_same] at hy
      have : upB v true v' false = v false := upB_not v true v'
      rw [this] at hx
      exact sep' x hx hy
    | false =>
      rw [upB_same] at hx
      have : upB v false v' true = v true := upB_not v false v'
      rw [this] at hy
      exact sep' x hy hx
end
theorem nx_notstill {dl : Int} {m : Bool} {s : Sta} (h : Gd s) : (nx dl true m s).1 ≠ "still" := by
  have hw : ∀ l : Int, (wt l).1 ≠ "still" := fun l => by
    unfold wt
    split
    · exact ns9
    · exact ns4
  rcases h with rfl | rfl | rfl | ⟨l, _, rfl⟩
  · rw [nx_stillW]; exact hw _
  · rw [nx_snd]; exact ns4
  · cases m with
    | true => rw [nx_sil]; exact ns4
    | false => rw [nx_sil0]; exact ns6
  · rw [nx_waitW]; exact hw _
theorem nst_beat {n : Nat} {a dl : Nat → Int} {ws ws' : List Int} {s : Nat → Sta} (gd : ∀ j, j < n → Gd (s j)) : NotStill n a (nxt a dl ws ws' s) ws' := fun j hj hm => by
  unfold nxt
  rw [(inV_mem _ _).mpr hm]
  exact nx_notstill (gd j hj)
theorem js_of {n : Nat} {a : Nat → Int} : ∀ {ws : List Int}, (∀ x ∈ ws, ∃ j, j < n ∧ a j = x) → ∃ js : List Nat, ws = js.map a ∧ ∀ j ∈ js, j < n
  | [], _ => ⟨[], rfl, fun _ h => nomatch h⟩
  | x :: r, h => by
    obtain ⟨j, hj, e⟩ := h x (List.mem_cons_self ..)
    obtain ⟨js, e1, e2⟩ := js_of (ws := r) fun y hy => h y (List.mem_cons_of_mem _ hy)
    exact ⟨j :: js, by rw [e1, List.map_cons, e], fun i hi => (List.mem_cons.mp hi).elim (fun z => by rw [z]; exact hj) (e2 i)⟩
theorem sorted_all {n : Nat} {a : Nat → Int} {ms : List Int} (as : Asc n a) (pm : ms.Perm ((List.range n).map a)) (pw : ms.Pairwise (· ≤ ·)) : ms = (List.range n).map a := by
  refine List.Perm.eq_of_pairwise (le := (· ≤ ·)) (fun x y _ _ h1 h2 => Int.le_antisymm h1 h2) pw ?_ pm
  rw [List.pairwise_map]
  refine List.Pairwise.imp_of_mem ?_ List.pairwise_lt_range
  intro i j _ hj hij
  exact Int.le_of_lt (as i j hij (List.mem_range.mp hj))
theorem still_any {n : Nat} {a : Nat → Int} {s : Nat → Sta} {ws : List Int} {js : List Nat} (e : ws = js.map a) (hj : ∀ j ∈ js, j < n) (nst : NotStill n a s ws) : ((js.map fun j => stD (s j)).any fun z => PyData.eqv z (stD ("still", 0))) = false := by
  rw [List.any_eq_false]
  intro d hd
  obtain ⟨j, hj', rfl⟩ := List.mem_map.mp hd
  have h := nst j (hj j hj') (by rw [e]; exact List.mem_map.mpr ⟨j, hj', rfl⟩)
  rw [show PyData.eqv (stD (s j)) (stD ("still", 0)) = ((s j).1 == ("still" : Str) && ((s j).2 == (0 : Int) && true)) by simp [stD, PyData.eqv, PyData.eqvAll]]
  rw [show ((s j).1 == ("still" : Str)) = false from beq_eq_false_iff_ne.mpr h]
  simp
end K33

set_option Elab.async false
set_option linter.all false
set_option maxRecDepth 100000
set_option pp.maxSteps 400
set_option maxHeartbeats 4000000
namespace K33
open PySem L2
abbrev s_law : Stmt := top 21
abbrev p_law : List Str := ["_law_script"]
theorem sc_law : FnScope ["_law_script", "_law_k", "_law_bag_here", "_law_outs_here", "_law_sounders", "_law_wanted_here", "_law_turn", "_law_which", "_law_kept", "_law_before", "_law_now", "_law_unused", "_law_some", "_law_again", "_law_told"] p_law (defScope s_law) := ⟨rfl, rfl, rfl, by decide +kernel, rfl, by decide +kernel, by decide +kernel⟩
def wN (w : Bool) : Nat := if w = true then 1 else 0
theorem ixW (x y : V) (w : Bool) : ixN ([x, y] : List V).length (wI w) = some (wN w) := by cases w <;> rfl
theorem setW (q : Bool → Addr) (w : Bool) (c : Addr) : [V.ref (q false), V.ref (q true)].set (wN w) (.ref c) = [V.ref (upB q w c false), V.ref (upB q w c true)] := by cases w <;> rfl
theorem st_layAll {s : Nat → Sta} {n : Nat} (gd : ∀ j, j < n → Gd (s j)) : ∀ {js : List Nat}, (∀ j ∈ js, j < n) → PyData.canLayAll0 (js.map fun j => stD (s j)) = true
  | [], _ => rfl
  | j :: r, h => by
    have ih := st_layAll gd (js := r) fun i hi => h i (List.mem_cons_of_mem _ hi)
    have ho := (gd j (h j (List.mem_cons_self ..))).ok
    unfold okW at ho
    show ((PyData.strOk (s j).1 && (true && true)) && PyData.canLayAll0 (r.map fun j => stD (s j))) = true
    rw [ih, ho]; rfl
theorem dk_kv (n : Nat) (a : Nat → Int) (v : Nat → V) : (dk n a v).map (fun kv => kV kv.1) = ((List.range n).map a).map V.int := by
  unfold dk
  rw [List.map_map, List.map_map]
  rfl
def npos (u : Nat → Int) : Nat → Bool := fun j => decide (u j ≤ 0)
theorem m_snd (n : Nat) (s : Nat → Sta) (u : Nat → Int) : (pk n (npos u)).filter (byW s ["sounding"]) = pk n (sndU s u) := by
  unfold pk
  rw [List.filter_filter]
  congr 1
def stl : Nat → Sta := fun _ => ("still", 0)
/-- a turn's beginning -/
def Tn (C : Addr) (K : PySem.W.Frag) (H : Hp) (sa b lo ls lw : Addr) (kv : V) (f : Bool → Fx) (i : Nat) (σ : St) (HH : Hp) : Prop := ∃ (v : Bool → Va) (q : Bool → Addr) (x6 x7 x8 x9 x10 x11 x12 x13 x14 : Option V), σ = [some (.ref sa), some kv, some (.ref b), some (.ref lo), some (.ref ls), some (.ref lw), x6, x7, x8, x9, x10, x11, x12, x13, x14] ∧ Tw C K H HH b lo ls lw f v q (140 + i * 40) ∧ ∀ y, q y = (v y).wv
/-- behind the beat or the deed -/
def Mid (C : Addr) (K : PySem.W.Frag) (H : Hp) (sa b lo ls lw dk' : Addr) (kv : V) (f : Bool → Fx) (vo : Va) (w : Bool) (i : Nat) (x6 : Option V) (σ : St) (HH : Hp) : Prop := ∃ (v : Bool → Va) (q : Bool → Addr) (x9 x10 x11 x12 x13 x14 : Option V), σ = [some (.ref sa), some kv, some (.ref b), some (.ref lo), some (.ref ls), some (.ref lw), x6, some (.int (wI w)), some (.ref dk'), x9, x10, x11, x12, x13, x14] ∧ Tw C K H HH b lo ls lw f v q (140 + (i + 1) * 40) ∧ (∀ y, q y = (v y).wv) ∧ v (!w) = vo ∧ LdAt K HH dk' (f (!w)).n (f (!w)).a vo.s
section
variable {P : Program} {w : World} {K : PySem.W.Frag} {mg : Str → Option Value} {base : Heap} {C st so si : Addr}
theorem ok_law {f : Addr} {fd : FuncData} (F : Fun K "law" "law" s_law f fd) (T : Tx K mg C st so si) (g_l_bag : Good P w K mg base "_law_bag" 1 p_l_bag (spBag K)) (g_l_take : Good P w K mg base "_law_take" 1 p_l_take spTake) (g_l_outs : Good P w K mg base "_law_outs" 2 p_l_outs spOuts)
    (g_i_Sounder : GoodI P w K mg base C 1 p_Sounder___init__ (spInit C K)) (g_l_wanted : Good P w K mg base "_law_wanted" 2 p_l_wanted spWanted) (g_l_standing : Good P w K mg base "_law_standing" 4 p_l_standing (spStg C K)) (g_l_beat_right : Good P w K mg base "_law_beat_right" 5 p_l_beat_right (spBR C K)) (g_l_hand_right : Good P w K mg base "_law_hand_right" 5 p_l_hand_right (spHR C K))
    (g_m_out_of_use : GoodM P w K mg base C "out_of_use" 1 p_Sounder_out_of_use (spOou C K)) (g_m_sounded : GoodM P w K mg base C "sounded" 2 p_Sounder_sounded (spSnd C K)) : FnOk P w K mg base CX0 6 f fd p_law (spLaw K) := by
  refine F.ok sc_law (fun vs H Q E h => ?_) (fun cdv A outer s H vs Q E hr h => ?_)
  · obtain ⟨a, ns, rfl, _⟩ := h
    rfl
  obtain ⟨sa, ns, rfl, hS, h63, q⟩ := h
  refine ⟨_, (pss_cons (ps_for PassesOwn.never rfl (pi_range1 rfl T.range (pa_cons (pe_callB (call_max2 rfl) rfl T.max bt_max (pa_cons pe_int (pa_cons (pe_callB (call_min2 rfl) rfl T.min bt_min (pa_cons pe_int (pa_cons (pe_callB call_len_seq rfl T.len bt_len (pa_cons (pv 0) pa_nil)) pa_nil))) pa_nil))) pa_nil)) (pg_name (i := 1) sc_law.nd rfl (Or.inl rfl))
  (pss_cons (ps_set (i := 2) sc_law.nd rfl (Or.inl rfl) (pcall g_l_bag hr (pa_cons (pv 0) (pa_cons (pv 1) pa_nil))))
  (pss_cons (ps_set (i := 3) sc_law.nd rfl (Or.inl rfl) (pe_lst (pa_cons (pcall g_l_outs hr (pa_cons (pv 2) pa_nil)) pa_nil)))
  (pss_cons (ps_expr (pe_bm PySem.F.plainAttrs_list PySem.F.slot_list_append PySem.F.type_list_append mt_append (pv 3) (pa_cons (pe_ix ix_list (pe_lst (pa_cons (pe_ix ix_list (pv 3) pe_int (fun _ _ => rfl)) (pa_cons (pcall g_l_outs hr (pa_cons (pv 2) pa_nil)) pa_nil))) (pcall g_l_take hr (pa_cons (pv 2) (pa_cons pe_int pa_nil))) (fun _ _ => rfl)) pa_nil)))
  (pss_cons (ps_set (i := 4) sc_law.nd rfl (Or.inl rfl) (pe_lst (pa_cons (pmake g_i_Sounder hr T.mgC (pa_cons (pe_ix ix_list (pv 3) pe_int (fun _ _ => rfl)) pa_nil)) (pa_cons (pmake g_i_Sounder hr T.mgC (pa_cons (pe_ix ix_list (pv 3) pe_int (fun _ _ => rfl)) pa_nil)) pa_nil))))
  (pss_cons (ps_set (i := 5) sc_law.nd rfl (Or.inl rfl) (pe_lst (pa_cons (pe_tup pa_nil) (pa_cons (pe_tup pa_nil) pa_nil))))
  (pss_one (ps_for PassesOwn.never rfl (pi_range1 rfl T.range (pa_cons (pe_ix ix_list (pe_lst (pa_cons (pe_op op_add pe_int (pcall g_l_take hr (pa_cons (pv 2) (pa_cons pe_int pa_nil)))) (pa_cons pe_int pa_nil))) (pe_callTy call_int1 rfl T.int bt_int (pa_cons (pe_cmpR op_eq (pcall g_l_take hr (pa_cons (pv 2) (pa_cons pe_int pa_nil))) pe_int (nomark _)) pa_nil)) (fun _ _ => rfl)) pa_nil)) (pg_name (i := 6) sc_law.nd rfl (Or.inl rfl))
  (pss_cons (ps_set (i := 7) sc_law.nd rfl (Or.inl rfl) (pcall g_l_take hr (pa_cons (pv 2) (pa_cons pe_int pa_nil))))
  (pss_cons (ps_set (i := 8) sc_law.nd rfl (Or.inl rfl) (pcall g_l_standing hr (pa_cons (pe_ix ix_list (pv 4) (pe_op op_sub pe_int (pv 7)) (fun _ _ => rfl)) (pa_cons (pe_ix ix_list (pv 3) (pe_op op_sub pe_int (pv 7)) (fun _ _ => rfl)) pa_nil))))
  (pss_cons (ps_if (pt_cmpR op_eq (pcall g_l_take hr (pa_cons (pv 2) (pa_cons pe_int pa_nil))) pe_int (nomark _)) (pss_cons (ps_set (i := 9) sc_law.nd rfl (Or.inl rfl) (pe_ix ix_list (pv 5) (pv 7) (fun _ _ => rfl)))
  (pss_cons (ps_asg (pcall g_l_wanted hr (pa_cons (pv 2) (pa_cons (pe_ix ix_list (pv 3) (pv 7) (fun _ _ => rfl)) (pa_cons (pv 9) (pa_cons pe_int pa_nil))))) (pg_sub (pv 5) (pv 7) set_list))
  (pss_one (ps_if (pt_not (pt_val (pcall g_l_beat_right hr (pa_cons (pe_ix ix_list (pv 4) (pv 7) (fun _ _ => rfl)) (pa_cons (pe_ix ix_list (pv 3) (pv 7) (fun _ _ => rfl)) (pa_cons (pe_ix ix_list (pv 5) (pv 7) (fun _ _ => rfl)) (pa_cons (pv 9) pa_nil))))))) (pss_one (ps_ret pe_bl)) pss_nil)))) (pss_one (ps_if (pt_not (pt_val (pcall g_l_hand_right hr (pa_cons (pv 2) (pa_cons (pe_ix ix_list (pv 4) (pv 7) (fun _ _ => rfl)) (pa_cons (pe_ix ix_list (pv 3) (pv 7) (fun _ _ => rfl)) (pa_cons (pe_ix ix_list (pv 5) (pv 7) (fun _ _ => rfl)) pa_nil))))))) (pss_one (ps_ret pe_bl)) pss_nil)))
  (pss_cons (ps_set (i := 10) sc_law.nd rfl (Or.inr rfl) (pcall g_l_standing hr (pa_cons (pe_ix ix_list (pv 4) (pv 7) (fun _ _ => rfl)) (pa_cons (pe_ix ix_list (pv 3) (pv 7) (fun _ _ => rfl)) pa_nil))))
  (pss_cons (ps_if (pt_cmpR (op_inKL (K := K) rfl hr.units2) (pe_tup (pa_cons pe_str (pa_cons pe_int pa_nil))) (pe_comp (N' := ["_law_address", "_law_now"]) rfl (CScope.of (src := [none, some 10]) (defScope s_law) ["_law_script", "_law_k", "_law_bag_here", "_law_outs_here", "_law_sounders", "_law_wanted_here", "_law_turn", "_law_which", "_law_kept", "_law_before", "_law_now", "_law_unused", "_law_some", "_law_again", "_law_told"] rfl rfl rfl (by decide +kernel) (by decide +kernel) (by decide +kernel) rfl (by decide +kernel)) (pi_tup (pe_ix ix_list (pv 5) (pv 7) (fun _ _ => rfl))) (fun _ _ _ _ => (pg_name (i := 0) (show List.Nodup (["_law_address", "_law_now"] : List Str) by decide +kernel) rfl (Or.inl rfl))) (fun _ _ _ _ => pf_nil) (fun _ _ _ _ => (pe_dget (hu_of hr) (pv 1) (pv 0) (fun _ _ => rfl)))) (by with_unfolding_all rfl)) (pss_one (ps_ret pe_bl)) pss_nil)
  (pss_cons (ps_set (i := 11) sc_law.nd rfl (Or.inr rfl) (pe_callTy (call_dictP rfl) rfl T.dict bt_dict (pa_cons (pmeth0 (pe_ix ix_list (pv 4) (pv 7) (fun _ _ => rfl)) T.cl g_m_out_of_use hr) pa_nil)))
  (pss_cons (ps_setC (i := 12) sc_law.nd rfl (Or.inl rfl) (N' := ["_law_address", "_law_unused"]) rfl (CScope.of (src := [none, some 11]) (defScope s_law) ["_law_script", "_law_k", "_law_bag_here", "_law_outs_here", "_law_sounders", "_law_wanted_here", "_law_turn", "_law_which", "_law_kept", "_law_before", "_law_now", "_law_unused", "_law_some", "_law_again", "_law_told"] rfl rfl rfl (by decide +kernel) (by decide +kernel) (by decide +kernel) rfl (by decide +kernel)) (pi_list (pe_callB call_sortedI rfl T.sorted bt_sorted (pa_cons (pe_callTy (call_listD rfl) rfl T.list bt_list (pa_cons (pv 10) pa_nil)) pa_nil))) (fun _ _ _ _ => (pg_name (i := 0) (show List.Nodup (["_law_address", "_law_unused"] : List Str) by decide +kernel) rfl (Or.inl rfl))) (fun _ _ _ _ => (pf_one (pt_cmp (pc_dnotin (hu_of hr) (pv 0) (pv 1))))) (fun _ _ _ _ => (pv 0)))
  (pss_cons (ps_for PassesOwn.never rfl (pi_range1 rfl T.range (pa_cons pe_int pa_nil)) (pg_name (i := 13) sc_law.nd rfl (Or.inl rfl))
  (pss_cons (ps_set (i := 14) sc_law.nd rfl (Or.inl rfl) (pmeth0 (pe_ix ix_list (pv 4) (pv 7) (fun _ _ => rfl)) T.cl g_m_sounded hr))
  (pss_cons (ps_if (pt_cmpR (op_neD hr.units) (pv 14) (pe_comp (N' := ["_law_address", "_law_now"]) rfl (CScope.of (src := [none, some 10]) (defScope s_law) ["_law_script", "_law_k", "_law_bag_here", "_law_outs_here", "_law_sounders", "_law_wanted_here", "_law_turn", "_law_which", "_law_kept", "_law_before", "_law_now", "_law_unused", "_law_some", "_law_again", "_law_told"] rfl rfl rfl (by decide +kernel) (by decide +kernel) (by decide +kernel) rfl (by decide +kernel)) (pi_list (pv 12)) (fun _ _ _ _ => (pg_name (i := 0) (show List.Nodup (["_law_address", "_law_now"] : List Str) by decide +kernel) rfl (Or.inl rfl))) (fun _ _ _ _ => (pf_one (pt_cmpR op_eq (pe_ix (ix_tupK (K := K) rfl) (pe_dget (hu_of hr) (pv 1) (pv 0) (fun _ _ => rfl)) pe_int (fun _ _ => rfl)) pe_str (nomark _)))) (fun _ _ _ _ => (pv 0))) (nomark _)) (pss_one (ps_ret pe_bl)) pss_nil)
  (pss_one (ps_expr (pe_bm PySem.F.plainAttrs_list PySem.F.slot_list_append PySem.F.type_list_append mt_append (pv 14) (pa_cons pe_int pa_nil)))))))
  (pss_one (ps_if (pt_cmpR (op_neDD (K := K) rfl hr.units2) (pcall g_l_standing hr (pa_cons (pe_ix ix_list (pv 4) (pe_op op_sub pe_int (pv 7)) (fun _ _ => rfl)) (pa_cons (pe_ix ix_list (pv 3) (pe_op op_sub pe_int (pv 7)) (fun _ _ => rfl)) pa_nil))) (pv 8) (nomark _)) (pss_one (ps_ret pe_bl)) pss_nil))))))))))))))))))
  (pss_one (ps_ret pe_bl))), ?_⟩
  have hl : (ns.map V.int).length = ns.length := List.length_map _
  refine ⟨_, rfl, sa, _, rfl, .inl hS, _, _, rfl, _, _, rfl, _, rfl, ?_, ?_, ?_⟩
  · rw [hl]; split <;> split <;> omega
  · rw [hl]; split <;> split <;> omega
  refine for_range (fun i σ H' => Same H H' ∧ ∃ u1 u2 u3 u4 u5 u6 u7 u8 u9 u10 u11 u12 u13 u14, σ = [some (.ref sa), u1, u2, u3, u4, u5, u6, u7, u8, u9, u10, u11, u12, u13, u14]) ⟨Same.refl H, _, _, _, _, _, _, _, _, _, _, _, _, _, _, rfl⟩ (fun i0 σ H' hi h => ?_) (fun σ H' h => ?_)
  · obtain ⟨sm, u1, u2, u3, u4, u5, u6, u7, u8, u9, u10, u11, u12, u13, u14, rfl⟩ := h
    rw [hl] at hi
    have hi' : (i0 : Int) ≤ 100 := by
      revert hi
      split <;> split <;> omega
    refine ⟨_, rfl, _, rfl, sa, ns, _, rfl, sm.seq hS, h63, by omega, by omega, fun b o hb0 hbag => ?_⟩
    have s1 : Same H (upd H' b o) := sm.trans (same_new hb0 o)
    have fb : H b = none := sm.free hb0
    generalize upd H' b o = H1 at s1 hbag ⊢
    simp only [List.set_cons_succ, List.set_cons_zero]
    -- outs
    refine ⟨_, rfl, b, 0, rfl, hbag, by omega, fun oa0 n0 a0 dl0 H2 ho0 as0 dp0 few0 hb2 sb2 => ⟨leSize (by show 1 ≤ 1000; decide), fun lo hlo => ?_⟩⟩
    have s2 := s1.stepB sb2 fb
    have klo := same_new hlo (.lst [.ref oa0])
    have ulo : (upd H2 lo (.lst [.ref oa0])) lo = some (.lst [.ref oa0]) := upd_same
    have nlo : lo ≠ b := (hb2.nb hlo).symm
    have flo : H lo = none := s2.free hlo
    have hb2 := hb2.same klo
    have ho0 := ho0.tups (TupF.of klo)
    have s2 := s2.trans klo
    generalize upd H2 lo (.lst [.ref oa0]) = H3 at ulo hb2 ho0 s2 ⊢
    simp only [List.set_cons_succ, List.set_cons_zero]
    refine ⟨_, rfl, .inl ⟨rfl, _, SqL.of ulo⟩, _, rfl, lo, _, _, _, rfl, rfl, SqL.of ulo, rfl, _, rfl, b, _, rfl, hb2, by omega, fun oaN nN aN dlN H4 hoN asN dpN fewN hb4 sb4 => ⟨leSize (by show 2 ≤ 1000; decide), fun l2 hl2 => ?_⟩⟩
    have ulo := sb4 _ _ ulo nlo
    have ho0 := ho0.tups (sb4.tupF hb2.ntupF)
    have s4 := s2.stepB sb4 fb
    have k2 := same_new hl2 (.lst [.ref oa0, .ref oaN])
    have ul2 : (upd H4 l2 (.lst [.ref oa0, .ref oaN])) l2 = some (.lst [.ref oa0, .ref oaN]) := upd_same
    have nl2 : l2 ≠ b := (hb4.nb hl2).symm
    have ulo := k2 _ _ ulo
    have hb4 := hb4.same k2
    have ho0 := ho0.tups (TupF.of k2)
    have hoN := hoN.tups (TupF.of k2)
    have s4 := s4.trans k2
    generalize upd H4 l2 (.lst [.ref oa0, .ref oaN]) = H5 at ul2 ulo hb4 ho0 hoN s4 ⊢
    refine ⟨_, rfl, b, _, 2, rfl, hb4, by omega, by decide, by decide, fun r1 H6 r10 r11 hb6 s6 => ?_⟩
    have ul2 := s6 _ _ ul2 nl2
    have ulo := s6 _ _ ulo nlo
    have t6 := s6.tupF hb4.ntupF
    have ho0 := ho0.tups t6
    have hoN := hoN.tups t6
    have s6 := s4.stepB s6 fb
    obtain ⟨oa1, n1, a1, dl1, hat, ho1, as1, dp1, few1⟩ : ∃ oa1 n1 a1 dl1, atI [V.ref oa0, .ref oaN] r1 = some (.ref oa1) ∧ OutsAt H6 oa1 n1 a1 dl1 ∧ Asc n1 a1 ∧ (∀ j, j < n1 → 0 ≤ dl1 j) ∧ n1 ≤ 30 := by
      have : r1 = 0 ∨ r1 = 1 := by omega
      rcases this with rfl | rfl
      · exact ⟨oa0, n0, a0, dl0, rfl, ho0, as0, dp0, few0⟩
      · exact ⟨oaN, nN, aN, dlN, rfl, hoN, asN, dpN, fewN⟩
    refine ⟨l2, _, _, _, rfl, rfl, SqL.of ul2, hat, lo, _, _, rfl, rfl, ulo, small1000 (by show 1 ≤ 1000; decide), ?_⟩
    have klo : SameB lo H6 (upd H6 lo (.lst ([.ref oa0] ++ [.ref oa1]))) := SameB.upd
    have ulo' : (upd H6 lo (.lst ([.ref oa0] ++ [.ref oa1]))) lo = some (.lst [.ref oa0, .ref oa1]) := upd_same
    have tlo := klo.tupF (ntOf ulo)
    have hb7 := hb6.sameB klo nlo.symm
    have ho0 := ho0.tups tlo
    have ho1 := ho1.tups tlo
    have s7 := s6.stepB klo flo
    generalize upd H6 lo (.lst ([.ref oa0] ++ [.ref oa1])) = H7 at ulo' hb7 ho0 ho1 s7 ⊢
    clear klo tlo ul2 ulo hoN asN dpN fewN hat hb6 hb4 hb2 hbag s6 s4 s2 s1
    -- the sounders
    refine ⟨_, rfl, lo, _, _, _, rfl, rfl, SqL.of ulo', rfl, fun p0 dx0 fp0 fdx0 ndx0 => ⟨p0, dx0, oa0, n0, a0, dl0, rfl, upd_same, ?_, as0.ap, by omega, fun d10 d20 d30 d40 wa0 H8 f10 f20 f30 f40 fw0 R0 e10 e40 ew0 n410 n420 n430 s8 => ⟨rfl, ?_⟩⟩⟩
    · exact ho0.tups (TupF.of ((same_new fdx0 _).trans (same_new (by rw [upd_ne (Ne.symm ndx0)]; exact fp0) _)))
    have k0 : Same H7 (upd (upd H7 dx0 (.own p0)) p0 (.ins C dx0 [])) := (same_new fdx0 _).trans (same_new (by rw [upd_ne (Ne.symm ndx0)]; exact fp0) _)
    have up0 : (upd (upd H7 dx0 (.own p0)) p0 (.ins C dx0 [])) p0 = some (.ins C dx0 []) := upd_same
    generalize upd (upd H7 dx0 (.own p0)) p0 (.ins C dx0 []) = Hx at k0 up0 f10 f20 f30 f40 fw0 s8
    have fp0H : H p0 = none := s7.free fp0
    have sx := s7.trans k0
    have s9 : Same H H8 := sx.stepB s8 fp0H
    have nbp0 : b ≠ p0 := hb7.nb fp0
    have hb8 := (hb7.same k0).sameB s8 nbp0
    have t8 : TupF H7 H8 := (TupF.of k0).trans (s8.tupF (ntOf up0))
    have nlop : lo ≠ p0 := ne_of_none ulo' fp0
    have ulo8 := s8 _ _ (k0 _ _ ulo') nlop
    have ho0 := ho0.tups t8
    have ho1 := ho1.tups t8
    have f10 := sx.free f10
    have f20 := sx.free f20
    have f30 := sx.free f30
    have f40 := sx.free f40
    clear k0 up0 sx s8 t8 hb7 s7 ulo' fw0 fdx0 ndx0 fp0
    refine ⟨_, rfl, lo, _, _, _, rfl, rfl, SqL.of ulo8, rfl, fun p1 dx1 fp1 fdx1 ndx1 => ⟨p1, dx1, oa1, n1, a1, dl1, rfl, upd_same, ?_, as1.ap, by omega, fun d11 d21 d31 d41 wa1 HA f11 f21 f31 f41 fw1 R1 e11 e41 ew1 n411 n421 n431 sA => ⟨rfl, ?_⟩⟩⟩
    · exact ho1.tups (TupF.of ((same_new fdx1 _).trans (same_new (by rw [upd_ne (Ne.symm ndx1)]; exact fp1) _)))
    have k1 : Same H8 (upd (upd H8 dx1 (.own p1)) p1 (.ins C dx1 [])) := (same_new fdx1 _).trans (same_new (by rw [upd_ne (Ne.symm ndx1)]; exact fp1) _)
    have up1 : (upd (upd H8 dx1 (.own p1)) p1 (.ins C dx1 [])) p1 = some (.ins C dx1 []) := upd_same
    generalize upd (upd H8 dx1 (.own p1)) p1 (.ins C dx1 []) = Hy at k1 up1 f11 f21 f31 f41 fw1 sA
    have fp1H : H p1 = none := s9.free fp1
    have sy := s9.trans k1
    have s10 : Same H HA := sy.stepB sA fp1H
    have nbp1 : b ≠ p1 := hb8.nb fp1
    have hbA := (hb8.same k1).sameB sA nbp1
    have sAB : SameB p1 H8 HA := (SameB.of k1).trans sA
    have tA : TupF H8 HA := (TupF.of k1).trans (sA.tupF (ntOf up1))
    have nlop1 : lo ≠ p1 := ne_of_none ulo8 fp1
    have uloA := sAB _ _ ulo8 nlop1
    have ho0 := ho0.tups tA
    have ho1 := ho1.tups tA
    have f11H := sy.free f11
    have f21H := sy.free f21
    have f31H := sy.free f31
    have f41H := sy.free f41
    have g11 := k1.free f11
    have g21 := k1.free f21
    have g31 := k1.free f31
    have g41 := k1.free f41
    obtain ⟨dz0, hp0⟩ := R0.ins
    obtain ⟨v20, h20, _⟩ := R0.sta
    have h30 := R0.len
    have F0A : ∀ c, c = p0 ∨ c = d10 ∨ c = d20 ∨ c = d30 ∨ c = d40 → ∃ o, H8 c = some o := fun c hc => by
      rcases hc with z | z | z | z | z
      · rw [z]; exact ⟨_, hp0⟩
      · rw [z]; exact ⟨_, e10⟩
      · rw [z]; exact ⟨_, h20⟩
      · rw [z]; exact ⟨_, h30⟩
      · rw [z]; exact ⟨_, e40⟩
    have S0 : Sd C K H8 p0 d10 d20 d30 d40 wa0 n0 a0 dl0 (fun _ => ("still", 0)) (fun _ => false) [] := ⟨R0, e10, ⟨_, e40⟩, ew0, n410, n420, n430⟩
    have S0 : Sd C K HA p0 d10 d20 d30 d40 wa0 n0 a0 dl0 (fun _ => ("still", 0)) (fun _ => false) [] := S0.mv (fun c hc o e => sAB _ _ e (fun z => by rw [z, fp1] at e; cases e)) tA
    have S1 : Sd C K HA p1 d11 d21 d31 d41 wa1 n1 a1 dl1 (fun _ => ("still", 0)) (fun _ => false) [] := ⟨R1, e11, ⟨_, e41⟩, ew1, n411, n421, n431⟩
    have e40A := sAB _ _ e40 (fun z => by rw [z, fp1] at e40; cases e40)
    have sep0 : ∀ x, x = p0 ∨ x = d10 ∨ x = d20 ∨ x = d30 ∨ x = d40 → ∀ y, y = p1 ∨ y = d11 ∨ y = d21 ∨ y = d31 ∨ y = d41 → x ≠ y := fun x hx y hy e => by
      obtain ⟨o, ho⟩ := F0A x hx
      have fy : H8 y = none := by
        rcases hy with z | z | z | z | z
        · rw [z]; exact fp1
        · rw [z]; exact g11
        · rw [z]; exact g21
        · rw [z]; exact g31
        · rw [z]; exact g41
      rw [e, fy] at ho
      cases ho
    clear k1 up1 sy sA sAB tA hb8 s9 ulo8 fw1 fdx1 ndx1 fp1 R0 R1 hp0 h20 h30 F0A e10 ew0 g11 g21 g31 g41 f11 f21 f31 f41
    -- the list of them, and of those wanted
    refine ⟨leSize (by show 2 ≤ 1000; decide), fun ls hls => ?_⟩
    have kls := same_new hls (.lst [.ref p0, .ref p1])
    have uls : (upd HA ls (.lst [.ref p0, .ref p1])) ls = some (.lst [.ref p0, .ref p1]) := upd_same
    have nls : ls ≠ b := (hbA.nb hls).symm
    have hbA := hbA.same kls
    have uloA := kls _ _ uloA
    have ho0 := ho0.tups (TupF.of kls)
    have ho1 := ho1.tups (TupF.of kls)
    have S0 := S0.mv (fun c hc o e => kls _ _ e) (TupF.of kls)
    have S1 := S1.mv (fun c hc o e => kls _ _ e) (TupF.of kls)
    have e40A := kls _ _ e40A
    have e41 := kls _ _ e41
    have s10 := s10.trans kls
    generalize upd HA ls (.lst [.ref p0, .ref p1]) = HB at uls hbA uloA ho0 ho1 S0 S1 e40A e41 s10 ⊢
    simp only [List.set_cons_succ, List.set_cons_zero]
    refine ⟨Nat.zero_le _, fun w0 hw0 => ⟨Nat.zero_le _, fun w1 hw1 => ⟨leSize (by show 2 ≤ 1000; decide), fun lw hlw => ?_⟩⟩⟩
    have kw := ((same_new hw0 (.tup [])).trans (same_new hw1 (.tup []))).trans (same_new hlw (.lst [.ref w0, .ref w1]))
    have ew0 : (upd (upd (upd HB w0 (.tup [])) w1 (.tup [])) lw (.lst [.ref w0, .ref w1])) w0 = some (.tup (intsV [])) := ((same_new hw1 (.tup [])).trans (same_new hlw (.lst [.ref w0, .ref w1]))) _ _ upd_same
    have ew1 : (upd (upd (upd HB w0 (.tup [])) w1 (.tup [])) lw (.lst [.ref w0, .ref w1])) w1 = some (.tup (intsV [])) := same_new hlw (.lst [.ref w0, .ref w1]) _ _ upd_same
    have ulw : (upd (upd (upd HB w0 (.tup [])) w1 (.tup [])) lw (.lst [.ref w0, .ref w1])) lw = some (.lst [.ref w0, .ref w1]) := upd_same
    have flwB : HB lw = none := ((same_new hw0 (.tup [])).trans (same_new hw1 (.tup []))).free hlw
    generalize upd (upd (upd HB w0 (.tup [])) w1 (.tup [])) lw (.lst [.ref w0, .ref w1]) = HD at kw ew0 ew1 ulw ⊢
    simp only [List.set_cons_succ, List.set_cons_zero]
    have TW : Tw C K H HD b lo ls lw (fun y => cond y ⟨oa1, p1, d11, d21, d31, n1, a1, dl1⟩ ⟨oa0, p0, d10, d20, d30, n0, a0, dl0⟩) (fun y => cond y ⟨d41, wa1, w1, stl, fun _ => false, [], fun _ => 0⟩ ⟨d40, wa0, w0, stl, fun _ => false, [], fun _ => 0⟩) (fun y => cond y w1 w0) 129 := by
      refine ⟨s10.trans kw, (hbA.same kw).mono (by omega), kw _ _ uloA, kw _ _ uls, ulw, fun y => ?_, ?_, fb, s10.free flwB, nlo, nls, (hbA.nb flwB).symm, ne_of_none uloA flwB, ne_of_none uls flwB⟩
      · cases y with
        | false => exact ⟨ho0.tups (TupF.of kw), S0.mv (fun c hc o e => kw _ _ e) (TupF.of kw), kw _ _ e40A, ew0, as0, few0, dp0, fun _ _ => .inl rfl, (fun j _ h => nomatch h), Nat.zero_le _, (fun x h => nomatch h), fp0H, f10, f20, f30, f40⟩
        | true => exact ⟨ho1.tups (TupF.of kw), S1.mv (fun c hc o e => kw _ _ e) (TupF.of kw), kw _ _ e41, ew1, as1, few1, dp1, fun _ _ => .inl rfl, (fun j _ h => nomatch h), Nat.zero_le _, (fun x h => nomatch h), fp1H, f11H, f21H, f31H, f41H⟩
      · intro x hx y hy
        exact sep0 x (by simpa [ads] using hx) y (by simpa [ads] using hy)
    have hq0 : ∀ y, (fun y => cond y w1 w0) y = ((fun y => cond y (⟨d41, wa1, w1, stl, fun _ => false, [], fun _ => 0⟩ : Va) ⟨d40, wa0, w0, stl, fun _ => false, [], fun _ => 0⟩) y).wv := fun y => by cases y <;> rfl
    generalize (fun y => cond y (⟨oa1, p1, d11, d21, d31, n1, a1, dl1⟩ : Fx) ⟨oa0, p0, d10, d20, d30, n0, a0, dl0⟩) = f at TW
    generalize (fun y => cond y (⟨d41, wa1, w1, stl, fun _ => false, [], fun _ => 0⟩ : Va) ⟨d40, wa0, w0, stl, fun _ => false, [], fun _ => 0⟩) = v0 at TW hq0
    generalize (fun y => cond y w1 w0) = q0 at TW hq0
    clear kw ew0 ew1 ulw flwB hw0 hw1 hlw S0 S1 e40A e41 ho0 ho1 uloA uls hbA s10 sep0 nlo nls nbp0 nbp1
    -- how many turns
    refine ⟨_, rfl, b, _, 30, rfl, TW.bag, by omega, by decide, by decide, fun r2 HE r20 r21 hbE sE => ⟨_, _, rfl, rfl, leSize (by show 2 ≤ 1000; decide), fun lr hlr => ?_⟩⟩
    have TW := TW.draw sE hbE
    have klr := same_new hlr (.lst [.int (1 + r2), .int 120])
    have ulr : (upd HE lr (.lst [.int (1 + r2), .int 120])) lr = some (.lst [.int (1 + r2), .int 120]) := upd_same
    have nlr : lr ≠ b := (TW.bag.nb hlr).symm
    have TW := TW.grow klr
    refine ⟨_, rfl, b, _, 4, rfl, TW.bag, by omega, by decide, by decide, fun r3 HF r30 r31 hbF sF => ?_⟩
    have ulr := sF _ _ ulr nlr
    have TW := TW.draw sF hbF
    obtain ⟨many, hmany, m0, m1⟩ : ∃ z : Int, atI [V.int (1 + r2), .int 120] (if decide (V.int r3 = V.int 0) = true then 1 else 0) = some (.int z) ∧ 0 ≤ z ∧ z ≤ 120 := by
      split
      · exact ⟨_, rfl, by decide, by decide⟩
      · exact ⟨1 + r2, rfl, by omega, by omega⟩
    refine ⟨rfl, .inr ⟨_, rfl, lr, _, _, _, rfl, rfl, SqL.of ulr, hmany, _, rfl, by omega, by omega, ?_⟩⟩
    obtain ⟨m, rfl⟩ : ∃ m : Nat, many = m := ⟨many.toNat, by omega⟩
    refine for_range (Tn C K H sa b lo ls lw (.int (0 + (i0 : Int))) f) ⟨v0, q0, _, _, _, _, _, _, _, _, _, rfl, TW.mono (by omega), hq0⟩ (fun i σ HH hi2 h => ?_) (fun σ HH h => ?_)
    · clear TW ulr hq0 sE sF hbE hbF
      obtain ⟨v, q1, x6, x7, x8, x9, x10, x11, x12, x13, x14, rfl, T1, hq⟩ := h
      have hi3 : i < 120 := by
        have : i < m := by simpa using hi2
        omega
      simp only [List.set_cons_succ, List.set_cons_zero]
      refine ⟨_, rfl, b, _, 2, rfl, T1.bag, by omega, by decide, by decide, fun r HG r0 r1' hbG sG => ?_⟩
      have T1 := T1.draw sG hbG
      obtain ⟨ww, rfl⟩ : ∃ ww : Bool, r = wI ww := by
        have : r = 0 ∨ r = 1 := by omega
        rcases this with z | z
        · exact ⟨false, z⟩
        · exact ⟨true, z⟩
      simp only [List.set_cons_succ, List.set_cons_zero]
      have So := T1.st (!ww)
      refine ⟨_, rfl, _, rfl, _, _, rfl, rfl, ls, _, _, _, rfl, rfl, SqL.of T1.hls, atW' (fun y => .ref (f y).p) ww, _, rfl, _, rfl, _, _, rfl, rfl, lo, _, _, _, rfl, rfl, SqL.of T1.hlo, atW' (fun y => .ref (f y).oa) ww, (f (!ww)).p, (f (!ww)).oa, (f (!ww)).d1, (f (!ww)).d2, (f (!ww)).d3, (v (!ww)).d4, (v (!ww)).wa, (f (!ww)).n, (f (!ww)).a, (f (!ww)).dl, (v (!ww)).s, (v (!ww)).g, rfl, So.sd.r, So.outs, fun dk' HI fdk hdk sI => ?_⟩
      have ndk : ∀ c ∈ ads (f ww) (v ww), dk' ≠ c := fun c hc => by
        obtain ⟨o, e⟩ := (T1.st ww).there c hc
        exact (ne_of_none e fdk).symm
      have ndb : dk' ≠ b := by obtain ⟨x, y, z, e, _⟩ := T1.bag; exact (ne_of_none e fdk).symm
      have ndw : dk' ≠ lw := (ne_of_none T1.hlw fdk).symm
      have T1 := T1.grow sI
      simp only [List.set_cons_succ, List.set_cons_zero]
      clear So sI fdk sG hbG
      refine seq_split (Mid C K H sa b lo ls lw dk' (.int (0 + (i0 : Int))) f (v (!ww)) ww i (some (.int (0 + (i : Int))))) (fun σ' H' h => ?_) (fun D' hn => ?_)
      · obtain ⟨v1, q2, x9, x10, x11, x12, x13, x14, rfl, T2, hq2, evo, hdk2⟩ := h
        have Sw := T2.st ww
        have few := Sw.few
        have ap := Sw.as.ap
        clear T1 hdk ndk ndb ndw hq
        -- now
        refine ⟨_, rfl, _, rfl, ls, _, _, _, rfl, rfl, SqL.of T2.hls, atW (fun y => .ref (f y).p) ww, _, rfl, _, rfl, lo, _, _, _, rfl, rfl, SqL.of T2.hlo, atW (fun y => .ref (f y).oa) ww, (f ww).p, (f ww).oa, (f ww).d1, (f ww).d2, (f ww).d3, (v1 ww).d4, (v1 ww).wa, (f ww).n, (f ww).a, (f ww).dl, (v1 ww).s, (v1 ww).g, rfl, Sw.sd.r, Sw.outs, fun dn HJ fdn hdn sJ => ?_⟩
        have T2 := T2.grow sJ
        have hdk2 := hdk2.mv (fun o e => sJ _ _ e) (TupF.of sJ)
        simp only [List.set_cons_succ, List.set_cons_zero]
        clear Sw
        have Sw := T2.st ww
        obtain ⟨vn, en, hvn⟩ := hdn
        obtain ⟨js, ejs, hjs⟩ := js_of Sw.win
        have ljs : js.length ≤ 30 := by
          have := Sw.lw
          rw [ejs, List.length_map] at this
          exact this
        have wan := Sw.wan
        rw [← hq2 ww] at wan
        -- none that is wanted is still
        refine ⟨leSize (by show 2 ≤ 1000; decide), fun t0 h0 => ?_⟩
        have k0 := same_new h0 (.tup [.str "still", .int 0])
        have e0 : (upd HJ t0 (.tup [.str "still", .int 0])) t0 = some (.tup [.str "still", .int 0]) := upd_same
        have T2 := T2.grow k0
        have hdk2 := hdk2.mv (fun o e => k0 _ _ e) (TupF.of k0)
        have en := k0 _ _ en
        have hvn := fun j hj => (hvn j hj).tups (TupF.of k0)
        have wan := k0 _ _ wan
        generalize upd HJ t0 (.tup [.str "still", .int 0]) = HK at T2 hdk2 en hvn wan e0 ⊢
        refine ⟨_, rfl, _, rfl, lw, _, _, _, rfl, rfl, SqL.of T2.hlw, atW (fun y => .ref (q2 y)) ww, q2 ww, rfl, ⟨_, SqT.of wan⟩, fun l hl => ?_⟩
        have kl := fun o => same_new hl o
        refine comp_tup (xs := intsV (v1 ww).ws) (fun i σ HB => (∃ x, σ = [x, some (.ref dn)]) ∧ HB = upd HK l (.lst ((js.take i).map vn))) ⟨⟨none, rfl⟩, rfl⟩ (fun i σ HB _ h => ?_) (fun i x σ HB hx h => ?_) (fun σ HB h => ?_)
        · rw [h.2]; exact SqT.of (kl _ _ _ wan)
        · obtain ⟨⟨x0, rfl⟩, rfl⟩ := h
          rw [ejs] at hx
          unfold intsV at hx
          rw [List.getElem?_map, List.getElem?_map] at hx
          cases ej : js[i]? with
          | none => rw [ej] at hx; cases hx
          | some j0 =>
            rw [ej] at hx
            cases hx
            have hj0 := hjs j0 (List.mem_of_getElem? ej)
            unfold gName
            dsimp only
            refine iteT ⟨_, rfl, _, rfl, dn, _, rfl, .inl ⟨_, .inl ((f ww).a j0), .inl (kl _ _ _ en), rfl, (dk_val ap hj0).symm⟩, _, upd_same, ?_, ⟨_, rfl⟩, ?_⟩
            · rw [List.length_map, List.length_take]; exact small1000 (by omega)
            · rw [upd_upd, List.take_add_one, ej, List.map_append]
              rfl
        obtain ⟨_, rfl⟩ := h
        have elen : (intsV (v1 ww).ws).length = js.length := by rw [intsV_len, ejs, List.length_map]
        rw [elen, List.take_length]
        have kL := kl (.lst (js.map vn))
        refine ⟨l, _, stD ("still", 0), js.map (fun j => stD ((v1 ww).s j)), rfl, SqL.of upd_same, reps_map _ fun j hj => ((hvn j (hjs j hj)).tups (TupF.of kL)).rep, StAt.rep ⟨t0, rfl, .inl (kL _ _ e0)⟩, st_shaped (by show PyData.strOk "still" = true; decide +kernel), st_layAll Sw.gd hjs, _, rfl, ?_⟩
        rw [still_any ejs hjs Sw.nst]
        refine iteF ?_
        have T2 := T2.grow kL
        have hdk2 := hdk2.mv (fun o e => kL _ _ e) (TupF.of kL)
        have en := kL _ _ en
        have hvn := fun j hj => (hvn j hj).tups (TupF.of kL)
        generalize upd HK l (.lst (js.map vn)) = HL at T2 hdk2 en hvn ⊢
        clear kL kl hl wan e0 Sw
        have Sw := T2.st ww
        -- out of use
        obtain ⟨dx, hp⟩ := Sw.sd.r.ins
        refine ⟨_, rfl, _, rfl, ls, _, _, _, rfl, rfl, SqL.of T2.hls, atW (fun y => .ref (f y).p) ww, (f ww).p, dx, _, rfl, hp, fno (by decide +kernel), (f ww).p, (f ww).d1, (f ww).d2, (f ww).d3, (v1 ww).d4, (v1 ww).wa, (f ww).n, (f ww).a, (f ww).dl, (v1 ww).s, (v1 ww).g, (v1 ww).u, rfl, Sw.sd.r, Sw.un, fun l0 tv0 HM fl0 hl0 ptv0 sM => ?_⟩
        refine ⟨l0, _, dj (pk (f ww).n (pos (v1 ww).u)) (f ww).a (v1 ww).u, rfl, hl0, prs_dj ptv0, dj_nd ap, by rw [dj_len]; have := pk_len (f ww).n (pos (v1 ww).u); omega, fun du fdu => ?_⟩
        have kdu := same_new fdu (.dK (dj (pk (f ww).n (pos (v1 ww).u)) (f ww).a (v1 ww).u))
        have hdu : LuAt (upd HM du (.dK (dj (pk (f ww).n (pos (v1 ww).u)) (f ww).a (v1 ww).u))) du (f ww).n (f ww).a (v1 ww).u := ⟨_, upd_same, pk_js _ _⟩
        have sN := sM.trans kdu
        have T2 := T2.grow sN
        have hdk2 := hdk2.mv (fun o e => sN _ _ e) (TupF.of sN)
        have en := sN _ _ en
        have hvn := fun j hj => (hvn j hj).tups (TupF.of sN)
        generalize upd HM du (.dK (dj (pk (f ww).n (pos (v1 ww).u)) (f ww).a (v1 ww).u)) = HN at T2 hdk2 en hvn hdu ⊢
        simp only [List.set_cons_succ, List.set_cons_zero]
        clear sN kdu sM hl0 ptv0 fl0 fdu hp Sw
        -- those in use
        refine ⟨_, rfl, listD_mk en fun l1 hll => ?_⟩
        have k2 := same_new hll (.lst ((dk (f ww).n (f ww).a vn).map fun kv => kV kv.1))
        have u1 : (upd HN l1 (.lst ((dk (f ww).n (f ww).a vn).map fun kv => kV kv.1))) l1 = some (.lst (((List.range (f ww).n).map (f ww).a).map V.int)) := by rw [upd_same, dk_kv]
        generalize upd HN l1 (.lst ((dk (f ww).n (f ww).a vn).map fun kv => kV kv.1)) = HO1 at k2 u1 ⊢
        refine ⟨l1, (List.range (f ww).n).map (f ww).a, rfl, SqL.of u1, by rw [List.length_map, List.length_range]; omega, fun ms l2 pm pw hl2 => ?_⟩
        have em := sorted_all (T2.st ww).as pm pw
        subst em
        have k3 := same_new hl2 (.lst (((List.range (f ww).n).map (f ww).a).map V.int))
        have u2 : (upd HO1 l2 (.lst (((List.range (f ww).n).map (f ww).a).map V.int))) l2 = some (.lst (intsV ((List.range (f ww).n).map (f ww).a))) := upd_same
        generalize upd HO1 l2 (.lst (((List.range (f ww).n).map (f ww).a).map V.int)) = HP at k3 u2 ⊢
        have k23 := k2.trans k3
        have T2 := T2.grow k23
        have hdk2 := hdk2.mv (fun o e => k23 _ _ e) (TupF.of k23)
        have en := k23 _ _ en
        have hvn := fun j hj => (hvn j hj).tups (TupF.of k23)
        have hdu := hdu.mv fun o e => k23 _ _ e
        clear k23 k2 k3 u1 hll hl2
        refine ⟨l2, rfl, ⟨_, SqL.of u2⟩, fun l5 hl5 => ?_⟩
        have kl := fun o => same_new hl5 o
        refine comp_list (xs := intsV ((List.range (f ww).n).map (f ww).a)) (fun i σ HB => (∃ x, σ = [x, some (.ref du)]) ∧ HB = upd HP l5 (.lst (intsV (sel i (f ww).a (npos (v1 ww).u))))) ⟨⟨none, rfl⟩, rfl⟩ (fun i σ HB _ h => ?_) (fun i x σ HB hx h => ?_) (fun σ HB h => ?_)
        · rw [h.2]; exact SqL.of (kl _ _ _ u2)
        · obtain ⟨⟨x0, rfl⟩, rfl⟩ := h
          have hx' : i < (f ww).n ∧ x = V.int ((f ww).a i) := by
            unfold intsV at hx
            rw [List.map_map] at hx
            exact rg_get hx
          obtain ⟨hi4, rfl⟩ := hx'
          have en' : (!(if 0 < (v1 ww).u i then some (V.int ((v1 ww).u i)) else none).isSome) = npos (v1 ww).u i := by
            unfold npos
            by_cases c : 0 < (v1 ww).u i
            · rw [if_pos c, decide_eq_false (by omega)]; rfl
            · rw [if_neg c, decide_eq_true (by omega)]; rfl
          refine ⟨_, rfl, _, rfl, du, _, rfl, (hdu.mv fun o e => kl _ _ _ e).get ap hi4, _, rfl, ?_⟩
          rw [en']
          refine ite2 (fun c1 => ?_) (fun c1 => ?_)
          · refine ⟨_, rfl, _, upd_same, ?_, ⟨_, rfl⟩, ?_⟩
            · have := sel_len i (f ww).a (npos (v1 ww).u)
              rw [intsV_len]; exact small1000 (by omega)
            · rw [upd_upd, sel_succ, if_pos c1, ← intsV_snoc]
          · refine ⟨⟨_, rfl⟩, ?_⟩
            rw [sel_succ, if_neg c1, List.append_nil]
        obtain ⟨_, rfl⟩ := h
        rw [intsV_len, List.length_map, List.length_range]
        have kQ := kl (.lst (intsV (sel (f ww).n (f ww).a (npos (v1 ww).u))))
        have u5 : (upd HP l5 (.lst (intsV (sel (f ww).n (f ww).a (npos (v1 ww).u))))) l5 = some (.lst (intsV (sel (f ww).n (f ww).a (npos (v1 ww).u)))) := upd_same
        have T2 := T2.grow kQ
        have hdk2 := hdk2.mv (fun o e => kQ _ _ e) (TupF.of kQ)
        have en := kQ _ _ en
        have hvn := fun j hj => (hvn j hj).tups (TupF.of kQ)
        generalize upd HP l5 (.lst (intsV (sel (f ww).n (f ww).a (npos (v1 ww).u)))) = HQ at T2 hdk2 en hvn u5 ⊢
        clear kQ kl hl5 u2 hdu
        simp only [List.set_cons_succ, List.set_cons_zero]
        -- sounded, twice
        refine ⟨_, rfl, by decide, by decide, ?_⟩
        refine for_range (fun i' σ HF => Same HQ HF ∧ ∃ y13 y14, σ = [some (.ref sa), some (.int (0 + (i0 : Int))), some (.ref b), some (.ref lo), some (.ref ls), some (.ref lw), some (.int (0 + (i : Int))), some (.int (wI ww)), some (.ref dk'), x9, some (.ref dn), some (.ref du), some (.ref l5), y13, y14]) ⟨Same.refl _, _, _, rfl⟩ (fun i' σ HR _ h => ?_) (fun σ HR h => ?_)
        · obtain ⟨s0, y13, y14, rfl⟩ := h
          simp only [List.set_cons_succ, List.set_cons_zero]
          have TR := T2.grow s0
          have Sr := TR.st ww
          obtain ⟨dx, hp⟩ := Sr.sd.r.ins
          refine ⟨_, rfl, _, rfl, ls, _, _, _, rfl, rfl, SqL.of TR.hls, atW (fun y => .ref (f y).p) ww, (f ww).p, dx, _, rfl, hp, fno (by decide +kernel), (f ww).p, (f ww).d1, (f ww).d2, (f ww).d3, (v1 ww).d4, (v1 ww).wa, (f ww).n, (f ww).a, (f ww).dl, (v1 ww).s, (v1 ww).g, (v1 ww).u, rfl, Sr.sd.r, Sr.un, fun lq HS flq hlq sS => ?_⟩
          simp only [List.set_cons_succ, List.set_cons_zero]
          have flqQ : HQ lq = none := s0.free flq
          have sQS := s0.trans sS
          have en' := sQS _ _ en
          have u5' := sQS _ _ u5
          refine ⟨_, rfl, _, rfl, l5, rfl, ⟨_, SqL.of u5'⟩, fun l6 hl6 => ?_⟩
          have kl := fun o => same_new hl6 o
          refine comp_list (xs := intsV (sel (f ww).n (f ww).a (npos (v1 ww).u))) (fun i σ HB => (∃ x, σ = [x, some (.ref dn)]) ∧ HB = upd HS l6 (.lst (intsV ((((pk (f ww).n (npos (v1 ww).u)).take i).filter (byW (v1 ww).s ["sounding"])).map (f ww).a)))) ⟨⟨none, rfl⟩, rfl⟩ (fun i σ HB _ h => ?_) (fun i x σ HB hx h => ?_) (fun σ HB h => ?_)
          · rw [h.2]; exact SqL.of (kl _ _ _ u5')
          · obtain ⟨⟨x0, rfl⟩, rfl⟩ := h
            unfold intsV sel at hx
            rw [List.getElem?_map, List.getElem?_map] at hx
            cases ej : (pk (f ww).n (npos (v1 ww).u))[i]? with
            | none => rw [ej] at hx; cases hx
            | some j0 =>
              rw [ej] at hx
              cases hx
              have hj0 : j0 < (f ww).n := (pk_mem.mp (List.mem_of_getElem? ej)).1
              obtain ⟨ts, ets, hts⟩ := (((hvn j0 hj0).tups (TupF.of sQS)).tups (TupF.of (kl (.lst (intsV ((((pk (f ww).n (npos (v1 ww).u)).take i).filter (byW (v1 ww).s ["sounding"])).map (f ww).a)))))).sq
              refine ⟨_, rfl, _, rfl, dn, _, rfl, .inl ⟨_, .inl ((f ww).a j0), .inl (kl _ _ _ en'), rfl, (dk_val ap hj0).symm⟩, ts, _, _, _, ets, rfl, hts, rfl, rfl, _, rfl, ite2 (fun c1 => ?_) (fun c1 => ?_)⟩
              · have c1 : byW (v1 ww).s ["sounding"] j0 = true := by rw [byW1]; exact c1
                refine ⟨_, rfl, _, upd_same, ?_, ⟨_, rfl⟩, ?_⟩
                · have z1 := List.length_filter_le (byW (v1 ww).s ["sounding"]) ((pk (f ww).n (npos (v1 ww).u)).take i)
                  have z2 := pk_len (f ww).n (npos (v1 ww).u)
                  rw [List.length_take] at z1
                  rw [intsV_len, List.length_map]; exact small1000 (by omega)
                · rw [upd_upd, List.take_add_one, ej, List.filter_append, List.map_append, ← intsV_append]
                  congr 3
                  show _ = intsV ((List.filter _ [j0]).map (f ww).a)
                  rw [List.filter_cons_of_pos (p := byW (v1 ww).s ["sounding"]) c1]
                  rfl
              · have c1 : ¬ byW (v1 ww).s ["sounding"] j0 = true := by rw [byW1]; exact c1
                refine ⟨⟨_, rfl⟩, ?_⟩
                rw [List.take_add_one, ej, List.filter_append]
                show _ = upd HS l6 (.lst (intsV ((_ ++ List.filter _ [j0]).map (f ww).a)))
                rw [List.filter_cons_of_neg (p := byW (v1 ww).s ["sounding"]) c1]
                show _ = upd HS l6 (.lst (intsV ((_ ++ []).map (f ww).a)))
                rw [List.append_nil]
          obtain ⟨_, rfl⟩ := h
          rw [intsV_len, show (sel (f ww).n (f ww).a (npos (v1 ww).u)).length = (pk (f ww).n (npos (v1 ww).u)).length from List.length_map _, List.take_length, m_snd]
          have k6 := kl (.lst (intsV ((pk (f ww).n (sndU (v1 ww).s (v1 ww).u)).map (f ww).a)))
          have hlq' := k6 _ _ hlq
          refine ⟨_, _, .lst hlq' (ints_reps _), .lst upd_same (ints_reps _), ints_shaped _, ints_shaped _, _, rfl, ?_⟩
          rw [show (pk (f ww).n (sndU (v1 ww).s (v1 ww).u)).map (f ww).a = sel (f ww).n (f ww).a (sndU (v1 ww).s (v1 ww).u) from rfl, SeqAt.eqv_refl _ (SeqAt.canLay_of_shaped (ints_shaped _))]
          refine iteF ?_
          refine ⟨_, rfl, .inl ⟨rfl, _, SqL.of hlq'⟩, lq, _, _, rfl, rfl, hlq', ?_, fun y o e => ?_, _, _, rfl⟩
          · have := sel_len (f ww).n (f ww).a (sndU (v1 ww).s (v1 ww).u)
            rw [intsV_len]; exact small1000 (by omega)
          · rw [upd_ne (fun z => by rw [z, flqQ] at e; cases e)]
            exact (sQS.trans k6) _ _ e
        obtain ⟨s0, y13, y14, rfl⟩ := h
        have T2 := T2.grow s0
        have hdk2 := hdk2.mv (fun o e => s0 _ _ e) (TupF.of s0)
        -- the other one stands as it stood
        have So := T2.st (!ww)
        rw [evo] at So
        refine ⟨_, rfl, _, rfl, _, _, rfl, rfl, ls, _, _, _, rfl, rfl, SqL.of T2.hls, atW' (fun y => .ref (f y).p) ww, _, rfl, _, rfl, _, _, rfl, rfl, lo, _, _, _, rfl, rfl, SqL.of T2.hlo, atW' (fun y => .ref (f y).oa) ww, (f (!ww)).p, (f (!ww)).oa, (f (!ww)).d1, (f (!ww)).d2, (f (!ww)).d3, (v (!ww)).d4, (v (!ww)).wa, (f (!ww)).n, (f (!ww)).a, (f (!ww)).dl, (v (!ww)).s, (v (!ww)).g, rfl, So.sd.r, So.outs, fun dq HT fdq hdq sT => ?_⟩
        refine ⟨_, rfl, twin_ld So.as.ap hdq (hdk2.mv (fun o e => sT _ _ e) (TupF.of sT)) So.gd, _, rfl, iteF ?_⟩
        exact ⟨v1, q2, _, _, _, _, _, _, _, _, _, rfl, T2.grow sT, hq2⟩

      · refine ⟨_, rfl, b, _, 2, rfl, T1.bag, by omega, by decide, by decide, fun r4 HJ _ _ hbJ sJ => ⟨rfl, _, rfl, ite2 (fun _ => ?_) (fun _ => ?_)⟩⟩
        · have hdkJ := hdk.mv (fun o e => sJ _ _ e ndb) (sJ.tupF T1.bag.ntupF)
          have T1 := T1.draw sJ hbJ
          have Sw := T1.st ww
          have few := Sw.few
          refine ⟨_, rfl, _, rfl, lw, _, _, _, rfl, rfl, SqL.of T1.hlw, atW (fun y => .ref (q1 y)) ww, ?_⟩
          simp only [List.set_cons_succ, List.set_cons_zero]
          have wan := Sw.wan
          rw [← hq ww] at wan
          refine ⟨_, rfl, _, rfl, _, rfl, lo, _, _, _, rfl, rfl, SqL.of T1.hlo, atW (fun y => .ref (f y).oa) ww, _, rfl, b, (f ww).oa, q1 ww, _, (f ww).n, (f ww).a, (f ww).dl, (v ww).ws, 4, rfl, T1.bag, by omega, Sw.outs, by omega, wan, by decide, by decide, fun wb ws' HK hwb lw' win' hbK sK => ?_⟩
          have hdkK := hdkJ.mv (fun o e => sK _ _ e ndb) (sK.tupF T1.bag.ntupF)
          have wan := sK.tupF T1.bag.ntupF _ _ wan
          have T1 := T1.draw sK hbK
          refine ⟨_, rfl, _, rfl, lw, _, _, _, rfl, rfl, T1.hlw, ixW _ _ ww, ?_⟩
          rw [setW]
          have kw : SameB lw HK (upd HK lw (.lst [V.ref (upB q1 ww wb false), V.ref (upB q1 ww wb true)])) := SameB.upd
          have uw : (upd HK lw (.lst [V.ref (upB q1 ww wb false), V.ref (upB q1 ww wb true)])) lw = some (.lst [V.ref (upB q1 ww wb false), V.ref (upB q1 ww wb true)]) := upd_same
          have tw := kw.tupF (ntOf T1.hlw)
          have hdkL := hdkK.mv (fun o e => kw _ _ e ndw) tw
          have wan := tw _ _ wan
          have hwb := tw _ _ hwb
          have T1 := T1.setW kw uw
          generalize upd HK lw (.lst [V.ref (upB q1 ww wb false), V.ref (upB q1 ww wb true)]) = HL at T1 hdkL wan hwb ⊢
          have Sw := T1.st ww
          refine ⟨_, rfl, _, rfl, ls, _, _, _, rfl, rfl, SqL.of T1.hls, atW (fun y => .ref (f y).p) ww, _, rfl, _, rfl, lo, _, _, _, rfl, rfl, SqL.of T1.hlo, atW (fun y => .ref (f y).oa) ww, _, rfl, _, rfl, lw, _, _, _, rfl, rfl, SqL.of T1.hlw, atW (fun y => .ref (upB q1 ww wb y)) ww, _, rfl, (f ww).p, (f ww).oa, wb, q1 ww, (f ww).d1, (f ww).d2, (f ww).d3, (v ww).d4, (v ww).wa, (f ww).n, (f ww).a, (f ww).dl, (v ww).s, (v ww).g, (v ww).ws, (v ww).u, ws', by rw [upB_same]; rfl, Sw.sd, Sw.un, Sw.outs, Sw.as, Sw.few, Sw.gd, hwb, by omega, wan, fun d HM fd SM uM xM => ⟨_, rfl, iteF ?_⟩⟩
          have kM : SameX (b :: ads (f ww) (v ww)) HL HM := xM.sub (by simp [ads])
          have hdM : LdAt K HM dk' (f (!ww)).n (f (!ww)).a (v (!ww)).s := hdkL.keepX kM (kM.tupF fun c hc o ho => by
            rcases List.mem_cons.mp hc with z | z
            · rw [z] at ho; exact T1.bag.ntupF o ho
            · exact (Sw.notL c z o ho).1) (fun m => (List.mem_cons.mp m).elim ndb fun z => ndk _ z rfl)
          have tM : TupF HL HM := kM.tupF fun c hc o ho => by
            rcases List.mem_cons.mp hc with z | z
            · rw [z] at ho; exact T1.bag.ntupF o ho
            · exact (Sw.notL c z o ho).1
          have hbM : BagAt HM b (140 + i * 40 + 1 + 1 + (f ww).n) := by
            obtain ⟨x, y, z, e, r⟩ := T1.bag
            refine ⟨x, y, z, xM _ _ e (fun m => T1.notIn ww e ?_), r⟩
            simp only [List.mem_cons, List.not_mem_nil, or_false] at m
            rcases m with z | z | z <;> rw [z] <;> simp [ads]
          have SW' : Stn C K H HM (f ww) ⟨d, wb, wb, nxt (f ww).a (f ww).dl (v ww).ws ws' (v ww).s, nxg (f ww).a ws' (v ww).s (v ww).g, ws', dec (v ww).u⟩ := ⟨Sw.outs.tups tM, SM, uM, SM.wan, Sw.as, Sw.few, Sw.dl0, fun j hj => (Sw.gd j hj).nx, nst_beat Sw.gd, by show ws'.length ≤ 30; omega, win', Sw.fp, Sw.f1, Sw.f2, Sw.f3, T1.sm.free fd⟩
          have T2 := T1.step kM hbM SW' (.inr fd)
          refine hn _ _ ⟨_, _, _, _, _, _, _, _, rfl, T2.mono (by omega), fun y => ?_, upB_not _ _ _, hdM⟩
          by_cases ey : y = ww
          · rw [ey, upB_same, upB_same]
          · have : y = !ww := by cases y <;> cases ww <;> first | rfl | exact absurd rfl ey
            rw [this, upB_not, upB_not]
            exact hq _
        · have hdkJ := hdk.mv (fun o e => sJ _ _ e ndb) (sJ.tupF T1.bag.ntupF)
          have T1 := T1.draw sJ hbJ
          have Sw := T1.st ww
          have few := Sw.few
          have wan := Sw.wan
          rw [← hq ww] at wan
          refine ⟨_, rfl, _, rfl, _, rfl, ls, _, _, _, rfl, rfl, SqL.of T1.hls, atW (fun y => .ref (f y).p) ww, _, rfl, _, rfl, lo, _, _, _, rfl, rfl, SqL.of T1.hlo, atW (fun y => .ref (f y).oa) ww, _, rfl, _, rfl, lw, _, _, _, rfl, rfl, SqL.of T1.hlw, atW (fun y => .ref (q1 y)) ww, b, (f ww).p, (f ww).oa, q1 ww, (f ww).d1, (f ww).d2, (f ww).d3, (v ww).d4, (v ww).wa, (f ww).n, _, (f ww).a, (f ww).dl, (v ww).s, (v ww).g, (v ww).ws, (v ww).u, rfl, T1.bag, by omega, Sw.sd, Sw.un, Sw.outs, Sw.as, Sw.few, Sw.dl0, Sw.gd, Sw.nst, wan, fun s' g' u' HM hbM SM uM gdM nstM xM => ⟨_, rfl, iteF ?_⟩⟩
          have kM : SameX (b :: ads (f ww) (v ww)) HJ HM := xM.sub (by simp [ads])
          have tM : TupF HJ HM := kM.tupF fun c hc o ho => by
            rcases List.mem_cons.mp hc with z | z
            · rw [z] at ho; exact T1.bag.ntupF o ho
            · exact (Sw.notL c z o ho).1
          have hdM : LdAt K HM dk' (f (!ww)).n (f (!ww)).a (v (!ww)).s := hdkJ.keepX kM tM (fun m => (List.mem_cons.mp m).elim ndb fun z => ndk _ z rfl)
          have SW' : Stn C K H HM (f ww) ⟨(v ww).d4, (v ww).wa, (v ww).wv, s', g', (v ww).ws, u'⟩ := ⟨Sw.outs.tups tM, SM, uM, tM _ _ Sw.wan, Sw.as, Sw.few, Sw.dl0, gdM, nstM, Sw.lw, Sw.win, Sw.fp, Sw.f1, Sw.f2, Sw.f3, Sw.f4⟩
          have T2 := T1.step kM hbM SW' (.inl rfl)
          refine hn _ _ ⟨_, _, _, _, _, _, _, _, rfl, T2.mono (by omega), fun y => ?_, upB_not _ _ _, hdM⟩
          by_cases ey : y = ww
          · rw [ey, upB_same]; exact hq _
          · have : y = !ww := by cases y <;> cases ww <;> first | rfl | exact absurd rfl ey
            rw [this, upB_not]
            exact hq _

    · obtain ⟨v, q1, x6, x7, x8, x9, x10, x11, x12, x13, x14, rfl, T1, _⟩ := h
      exact ⟨T1.sm, _, _, _, _, _, _, _, _, _, _, _, _, _, _, rfl⟩
  · exact q _
end
end K33

set_option Elab.async false
set_option linter.all false
set_option maxRecDepth 100000
set_option pp.maxSteps 300
set_option maxHeartbeats 4000000
namespace K33
open PySem L2
theorem all_mk {l : PySem.W.OpenLaw} {w : World} {K : PySem.W.Frag} {h : Heap} {mg : Str → Option Value} {fa C f1 f2 f3 f4 f5 f6 f7 f8 f9 f10 f11 fm1 fm2 fm3 fm4 fm5 fm6 fm7 fm8 fm9 fm10 fm11 fm12 fm13 fm14 fm15 : Addr} (X : K.In h) (G : h.Ns mainGlobals mg) (hfa : mg "law" = some (.ref fa))
    {od1 an1 od2 an2 od3 an3 od4 an4 od5 an5 od6 an6 od7 an7 od8 an8 od9 an9 od10 an10 od11 an11 odm1 anm1 odm2 anm2 odm3 anm3 odm4 anm4 odm5 anm5 odm6 anm6 odm7 anm7 odm8 anm8 odm9 anm9 odm10 anm10 odm11 anm11 odm12 anm12 odm13 anm13 odm14 anm14 odm15 anm15 : Option Addr} {sl1 sl2 sl3 sl4 sl5 sl6 sl7 sl8 sl9 sl10 sl11 slm1 slm2 slm3 slm4 slm5 slm6 slm7 slm8 slm9 slm10 slm11 slm12 slm13 slm14 slm15 : Array (Option Value)} {oc1 kV1 dc1 pm1 cd1 ct1 oc2 kV2 dc2 pm2 cd2 ct2 oc3 kV3 dc3 pm3 cd3 ct3 oc4 kV4 dc4 pm4 cd4 ct4 oc5 kV5 dc5 pm5 cd5 ct5 oc6 kV6 dc6 pm6 cd6 ct6 oc7 kV7 dc7 pm7 cd7 ct7 oc8 kV8 dc8 pm8 cd8 ct8 oc9 kV9 dc9 pm9 cd9 ct9 oc10 kV10 dc10 pm10 cd10 ct10 oc11 kV11 dc11 pm11 cd11 ct11 ocm1 kVm1 dcm1 pmm1 cdm1 ctm1 ocm2 kVm2 dcm2 pmm2 cdm2 ctm2 ocm3 kVm3 dcm3 pmm3 cdm3 ctm3 ocm4 kVm4 dcm4 pmm4 cdm4 ctm4 ocm5 kVm5 dcm5 pmm5 cdm5 ctm5 ocm6 kVm6 dcm6 pmm6 cdm6 ctm6 ocm7 kVm7 dcm7 pmm7 cdm7 ctm7 ocm8 kVm8 dcm8 pmm8 cdm8 ctm8 ocm9 kVm9 dcm9 pmm9 cdm9 ctm9 ocm10 kVm10 dcm10 pmm10 cdm10 ctm10 ocm11 kVm11 dcm11 pmm11 cdm11 ctm11 ocm12 kVm12 dcm12 pmm12 cdm12 ctm12 ocm13 kVm13 dcm13 pmm13 cdm13 ctm13 ocm14 kVm14 dcm14 pmm14 cdm14 ctm14 ocm15 kVm15 dcm15 pmm15 cdm15 ctm15 : Value} 
    (aC : PySem.W.nsIn K mainGlobals "Sounder" = some (some (.ref C)))
    (am1 : PySem.W.findIn K (.ref C) "__init__" = some (some (.ref fm1))) (im1 : PySem.W.isFn K (.ref fm1) = true) (lm1 : K.lookup fm1 = some ⟨ocm1, odm1, .func (PySem.W.fnOf "__init__" "Sounder.__init__" (defArgs s_Sounder___init__) (defBody s_Sounder___init__) (defScope s_Sounder___init__) .none kVm1 dcm1 pmm1 anm1 cdm1 ctm1), slm1⟩) (cm1 : PySem.W.codeIn K cdm1 "Sounder.__init__" = true) (km1 : PySem.W.keepIn K (.ref fm1) = true)
    (am2 : PySem.W.findIn K (.ref C) "beat" = some (some (.ref fm2))) (im2 : PySem.W.isFn K (.ref fm2) = true) (lm2 : K.lookup fm2 = some ⟨ocm2, odm2, .func (PySem.W.fnOf "beat" "Sounder.beat" (defArgs s_Sounder_beat) (defBody s_Sounder_beat) (defScope s_Sounder_beat) .none kVm2 dcm2 pmm2 anm2 cdm2 ctm2), slm2⟩) (cm2 : PySem.W.codeIn K cdm2 "Sounder.beat" = true) (km2 : PySem.W.keepIn K (.ref fm2) = true)
    (am3 : PySem.W.findIn K (.ref C) "next_of" = some (some (.ref fm3))) (im3 : PySem.W.isFn K (.ref fm3) = true) (lm3 : K.lookup fm3 = some ⟨ocm3, odm3, .func (PySem.W.fnOf "next_of" "Sounder.next_of" (defArgs s_Sounder_next_of) (defBody s_Sounder_next_of) (defScope s_Sounder_next_of) .none kVm3 dcm3 pmm3 anm3 cdm3 ctm3), slm3⟩) (cm3 : PySem.W.codeIn K cdm3 "Sounder.next_of" = true) (km3 : PySem.W.keepIn K (.ref fm3) = true)
    (am4 : PySem.W.findIn K (.ref C) "count_unused" = some (some (.ref fm4))) (im4 : PySem.W.isFn K (.ref fm4) = true) (lm4 : K.lookup fm4 = some ⟨ocm4, odm4, .func (PySem.W.fnOf "count_unused" "Sounder.count_unused" (defArgs s_Sounder_count_unused) (defBody s_Sounder_count_unused) (defScope s_Sounder_count_unused) .none kVm4 dcm4 pmm4 anm4 cdm4 ctm4), slm4⟩) (cm4 : PySem.W.codeIn K cdm4 "Sounder.count_unused" = true) (km4 : PySem.W.keepIn K (.ref fm4) = true)
    (am5 : PySem.W.findIn K (.ref C) "standing_by" = some (some (.ref fm5))) (im5 : PySem.W.isFn K (.ref fm5) = true) (lm5 : K.lookup fm5 = some ⟨ocm5, odm5, .func (PySem.W.fnOf "standing_by" "Sounder.standing_by" (defArgs s_Sounder_standing_by) (defBody s_Sounder_standing_by) (defScope s_Sounder_standing_by) .none kVm5 dcm5 pmm5 anm5 cdm5 ctm5), slm5⟩) (cm5 : PySem.W.codeIn K cdm5 "Sounder.standing_by" = true) (km5 : PySem.W.keepIn K (.ref fm5) = true)
    (am6 : PySem.W.findIn K (.ref C) "put_all" = some (some (.ref fm6))) (im6 : PySem.W.isFn K (.ref fm6) = true) (lm6 : K.lookup fm6 = some ⟨ocm6, odm6, .func (PySem.W.fnOf "put_all" "Sounder.put_all" (defArgs s_Sounder_put_all) (defBody s_Sounder_put_all) (defScope s_Sounder_put_all) .none kVm6 dcm6 pmm6 anm6 cdm6 ctm6), slm6⟩) (cm6 : PySem.W.codeIn K cdm6 "Sounder.put_all" = true) (km6 : PySem.W.keepIn K (.ref fm6) = true)
    (am7 : PySem.W.findIn K (.ref C) "press" = some (some (.ref fm7))) (im7 : PySem.W.isFn K (.ref fm7) = true) (lm7 : K.lookup fm7 = some ⟨ocm7, odm7, .func (PySem.W.fnOf "press" "Sounder.press" (defArgs s_Sounder_press) (defBody s_Sounder_press) (defScope s_Sounder_press) .none kVm7 dcm7 pmm7 anm7 cdm7 ctm7), slm7⟩) (cm7 : PySem.W.codeIn K cdm7 "Sounder.press" = true) (km7 : PySem.W.keepIn K (.ref fm7) = true)
    (am8 : PySem.W.findIn K (.ref C) "silence" = some (some (.ref fm8))) (im8 : PySem.W.isFn K (.ref fm8) = true) (lm8 : K.lookup fm8 = some ⟨ocm8, odm8, .func (PySem.W.fnOf "silence" "Sounder.silence" (defArgs s_Sounder_silence) (defBody s_Sounder_silence) (defScope s_Sounder_silence) .none kVm8 dcm8 pmm8 anm8 cdm8 ctm8), slm8⟩) (cm8 : PySem.W.codeIn K cdm8 "Sounder.silence" = true) (km8 : PySem.W.keepIn K (.ref fm8) = true)
    (am9 : PySem.W.findIn K (.ref C) "reset" = some (some (.ref fm9))) (im9 : PySem.W.isFn K (.ref fm9) = true) (lm9 : K.lookup fm9 = some ⟨ocm9, odm9, .func (PySem.W.fnOf "reset" "Sounder.reset" (defArgs s_Sounder_reset) (defBody s_Sounder_reset) (defScope s_Sounder_reset) .none kVm9 dcm9 pmm9 anm9 cdm9 ctm9), slm9⟩) (cm9 : PySem.W.codeIn K cdm9 "Sounder.reset" = true) (km9 : PySem.W.keepIn K (.ref fm9) = true)
    (am10 : PySem.W.findIn K (.ref C) "check_address" = some (some (.ref fm10))) (im10 : PySem.W.isFn K (.ref fm10) = true) (lm10 : K.lookup fm10 = some ⟨ocm10, odm10, .func (PySem.W.fnOf "check_address" "Sounder.check_address" (defArgs s_Sounder_check_address) (defBody s_Sounder_check_address) (defScope s_Sounder_check_address) .none kVm10 dcm10 pmm10 anm10 cdm10 ctm10), slm10⟩) (cm10 : PySem.W.codeIn K cdm10 "Sounder.check_address" = true) (km10 : PySem.W.keepIn K (.ref fm10) = true)
    (am11 : PySem.W.findIn K (.ref C) "lengthen" = some (some (.ref fm11))) (im11 : PySem.W.isFn K (.ref fm11) = true) (lm11 : K.lookup fm11 = some ⟨ocm11, odm11, .func (PySem.W.fnOf "lengthen" "Sounder.lengthen" (defArgs s_Sounder_lengthen) (defBody s_Sounder_lengthen) (defScope s_Sounder_lengthen) .none kVm11 dcm11 pmm11 anm11 cdm11 ctm11), slm11⟩) (cm11 : PySem.W.codeIn K cdm11 "Sounder.lengthen" = true) (km11 : PySem.W.keepIn K (.ref fm11) = true)
    (am12 : PySem.W.findIn K (.ref C) "put_out" = some (some (.ref fm12))) (im12 : PySem.W.isFn K (.ref fm12) = true) (lm12 : K.lookup fm12 = some ⟨ocm12, odm12, .func (PySem.W.fnOf "put_out" "Sounder.put_out" (defArgs s_Sounder_put_out) (defBody s_Sounder_put_out) (defScope s_Sounder_put_out) .none kVm12 dcm12 pmm12 anm12 cdm12 ctm12), slm12⟩) (cm12 : PySem.W.codeIn K cdm12 "Sounder.put_out" = true) (km12 : PySem.W.keepIn K (.ref fm12) = true)
    (am13 : PySem.W.findIn K (.ref C) "state_of" = some (some (.ref fm13))) (im13 : PySem.W.isFn K (.ref fm13) = true) (lm13 : K.lookup fm13 = some ⟨ocm13, odm13, .func (PySem.W.fnOf "state_of" "Sounder.state_of" (defArgs s_Sounder_state_of) (defBody s_Sounder_state_of) (defScope s_Sounder_state_of) .none kVm13 dcm13 pmm13 anm13 cdm13 ctm13), slm13⟩) (cm13 : PySem.W.codeIn K cdm13 "Sounder.state_of" = true) (km13 : PySem.W.keepIn K (.ref fm13) = true)
    (am14 : PySem.W.findIn K (.ref C) "sounded" = some (some (.ref fm14))) (im14 : PySem.W.isFn K (.ref fm14) = true) (lm14 : K.lookup fm14 = some ⟨ocm14, odm14, .func (PySem.W.fnOf "sounded" "Sounder.sounded" (defArgs s_Sounder_sounded) (defBody s_Sounder_sounded) (defScope s_Sounder_sounded) .none kVm14 dcm14 pmm14 anm14 cdm14 ctm14), slm14⟩) (cm14 : PySem.W.codeIn K cdm14 "Sounder.sounded" = true) (km14 : PySem.W.keepIn K (.ref fm14) = true)
    (am15 : PySem.W.findIn K (.ref C) "out_of_use" = some (some (.ref fm15))) (im15 : PySem.W.isFn K (.ref fm15) = true) (lm15 : K.lookup fm15 = some ⟨ocm15, odm15, .func (PySem.W.fnOf "out_of_use" "Sounder.out_of_use" (defArgs s_Sounder_out_of_use) (defBody s_Sounder_out_of_use) (defScope s_Sounder_out_of_use) .none kVm15 dcm15 pmm15 anm15 cdm15 ctm15), slm15⟩) (cm15 : PySem.W.codeIn K cdm15 "Sounder.out_of_use" = true) (km15 : PySem.W.keepIn K (.ref fm15) = true)
    (a1 : PySem.W.nsIn K mainGlobals "is_whole" = some (some (.ref f1))) (l1 : K.lookup f1 = some ⟨oc1, od1, .func (PySem.W.fnOf "is_whole" "is_whole" (defArgs s_is_whole) (defBody s_is_whole) (defScope s_is_whole) .none kV1 dc1 pm1 an1 cd1 ct1), sl1⟩) (c1 : PySem.W.codeIn K cd1 "is_whole" = true) (k1 : PySem.W.keepIn K (.ref f1) = true)
    (a2 : PySem.W.nsIn K mainGlobals "waiting" = some (some (.ref f2))) (l2 : K.lookup f2 = some ⟨oc2, od2, .func (PySem.W.fnOf "waiting" "waiting" (defArgs s_waiting) (defBody s_waiting) (defScope s_waiting) .none kV2 dc2 pm2 an2 cd2 ct2), sl2⟩) (c2 : PySem.W.codeIn K cd2 "waiting" = true) (k2 : PySem.W.keepIn K (.ref f2) = true)
    (a3 : PySem.W.nsIn K mainGlobals "_law_bag" = some (some (.ref f3))) (l3 : K.lookup f3 = some ⟨oc3, od3, .func (PySem.W.fnOf "_law_bag" "_law_bag" (defArgs s_l_bag) (defBody s_l_bag) (defScope s_l_bag) .none kV3 dc3 pm3 an3 cd3 ct3), sl3⟩) (c3 : PySem.W.codeIn K cd3 "_law_bag" = true) (k3 : PySem.W.keepIn K (.ref f3) = true)
    (a4 : PySem.W.nsIn K mainGlobals "_law_take" = some (some (.ref f4))) (l4 : K.lookup f4 = some ⟨oc4, od4, .func (PySem.W.fnOf "_law_take" "_law_take" (defArgs s_l_take) (defBody s_l_take) (defScope s_l_take) .none kV4 dc4 pm4 an4 cd4 ct4), sl4⟩) (c4 : PySem.W.codeIn K cd4 "_law_take" = true) (k4 : PySem.W.keepIn K (.ref f4) = true)
    (a5 : PySem.W.nsIn K mainGlobals "_law_outs" = some (some (.ref f5))) (l5 : K.lookup f5 = some ⟨oc5, od5, .func (PySem.W.fnOf "_law_outs" "_law_outs" (defArgs s_l_outs) (defBody s_l_outs) (defScope s_l_outs) .none kV5 dc5 pm5 an5 cd5 ct5), sl5⟩) (c5 : PySem.W.codeIn K cd5 "_law_outs" = true) (k5 : PySem.W.keepIn K (.ref f5) = true)
    (a6 : PySem.W.nsIn K mainGlobals "_law_wanted" = some (some (.ref f6))) (l6 : K.lookup f6 = some ⟨oc6, od6, .func (PySem.W.fnOf "_law_wanted" "_law_wanted" (defArgs s_l_wanted) (defBody s_l_wanted) (defScope s_l_wanted) .none kV6 dc6 pm6 an6 cd6 ct6), sl6⟩) (c6 : PySem.W.codeIn K cd6 "_law_wanted" = true) (k6 : PySem.W.keepIn K (.ref f6) = true)
    (a7 : PySem.W.nsIn K mainGlobals "_law_standing" = some (some (.ref f7))) (l7 : K.lookup f7 = some ⟨oc7, od7, .func (PySem.W.fnOf "_law_standing" "_law_standing" (defArgs s_l_standing) (defBody s_l_standing) (defScope s_l_standing) .none kV7 dc7 pm7 an7 cd7 ct7), sl7⟩) (c7 : PySem.W.codeIn K cd7 "_law_standing" = true) (k7 : PySem.W.keepIn K (.ref f7) = true)
    (a8 : PySem.W.nsIn K mainGlobals "_law_passes" = some (some (.ref f8))) (l8 : K.lookup f8 = some ⟨oc8, od8, .func (PySem.W.fnOf "_law_passes" "_law_passes" (defArgs s_l_passes) (defBody s_l_passes) (defScope s_l_passes) .none kV8 dc8 pm8 an8 cd8 ct8), sl8⟩) (c8 : PySem.W.codeIn K cd8 "_law_passes" = true) (k8 : PySem.W.keepIn K (.ref f8) = true)
    (a9 : PySem.W.nsIn K mainGlobals "_law_beat_right" = some (some (.ref f9))) (l9 : K.lookup f9 = some ⟨oc9, od9, .func (PySem.W.fnOf "_law_beat_right" "_law_beat_right" (defArgs s_l_beat_right) (defBody s_l_beat_right) (defScope s_l_beat_right) .none kV9 dc9 pm9 an9 cd9 ct9), sl9⟩) (c9 : PySem.W.codeIn K cd9 "_law_beat_right" = true) (k9 : PySem.W.keepIn K (.ref f9) = true)
    (a10 : PySem.W.nsIn K mainGlobals "_law_hand_right" = some (some (.ref f10))) (l10 : K.lookup f10 = some ⟨oc10, od10, .func (PySem.W.fnOf "_law_hand_right" "_law_hand_right" (defArgs s_l_hand_right) (defBody s_l_hand_right) (defScope s_l_hand_right) .none kV10 dc10 pm10 an10 cd10 ct10), sl10⟩) (c10 : PySem.W.codeIn K cd10 "_law_hand_right" = true) (k10 : PySem.W.keepIn K (.ref f10) = true)
    (a11 : PySem.W.nsIn K mainGlobals "law" = some (some (.ref f11))) (l11 : K.lookup f11 = some ⟨oc11, od11, .func (PySem.W.fnOf "law" "law" (defArgs s_law) (defBody s_law) (defScope s_law) .none kV11 dc11 pm11 an11 cd11 ct11), sl11⟩) (c11 : PySem.W.codeIn K cd11 "law" = true) (k11 : PySem.W.keepIn K (.ref f11) = true)
    (pg : PySem.W.plainGet K C Str.empty = true) (hd : PySem.W.hasDictIn K C = true) (po : PySem.W.plainOver K C = true) (sa : PySem.W.findIn K (.ref C) "__setattr__" = some (some (.builtin "object.__setattr__"))) (mk : PySem.W.makesIn K C = true) (kc : PySem.W.keepIn K (.ref C) = true)
    (n0 : PySem.W.findIn K (.ref C) "delays" = some none)
    (n1 : PySem.W.findIn K (.ref C) "standing" = some none)
    (n2 : PySem.W.findIn K (.ref C) "lengthened" = some none)
    (n3 : PySem.W.findIn K (.ref C) "unused" = some none)
    (n4 : PySem.W.findIn K (.ref C) "wanted" = some none)
    (z0 : PySem.W.nsIn K mainGlobals "isinstance" = some none)
    (z1 : PySem.W.nsIn K mainGlobals "int" = some none)
    (z2 : PySem.W.nsIn K mainGlobals "bool" = some none)
    (z3 : PySem.W.nsIn K mainGlobals "tuple" = some none)
    (z4 : PySem.W.nsIn K mainGlobals "list" = some none)
    (z5 : PySem.W.nsIn K mainGlobals "str" = some none)
    (z6 : PySem.W.nsIn K mainGlobals "len" = some none)
    (z7 : PySem.W.nsIn K mainGlobals "all" = some none)
    (z8 : PySem.W.nsIn K mainGlobals "abs" = some none)
    (z9 : PySem.W.nsIn K mainGlobals "max" = some none)
    (z10 : PySem.W.nsIn K mainGlobals "min" = some none)
    (z11 : PySem.W.nsIn K mainGlobals "range" = some none)
    (z12 : PySem.W.nsIn K mainGlobals "sorted" = some none)
    (z13 : PySem.W.nsIn K mainGlobals "any" = some none)
    (z14 : PySem.W.nsIn K mainGlobals "sum" = some none)
    (z15 : PySem.W.nsIn K mainGlobals "enumerate" = some none)
    (z16 : PySem.W.nsIn K mainGlobals "zip" = some none)
    (z17 : PySem.W.nsIn K mainGlobals "reversed" = some none)
    (z18 : PySem.W.nsIn K mainGlobals "dict" = some none)
    (z19 : PySem.W.nsIn K mainGlobals "ord" = some none)
    {st so si : Addr} {ods odo : Option Addr} {nS nO : Nat} {slS slO : Array (Option Value)} {tk1 tk2 tk3 tk4 : Tok} {odi : Option Addr} {nI : Nat} {slI : Array (Option Value)} {tk5 tk6 : Tok} {hc u5 u7 : Addr}
    (aS : PySem.W.nsIn K mainGlobals "STILL" = some (some (.ref st)))
    (lS : K.lookup st = some ⟨.type "tuple", ods, .seq #[.str "still" tk1, .int 0 tk2] nS, slS⟩)
    (aO : PySem.W.nsIn K mainGlobals "SOUNDING" = some (some (.ref so)))
    (lO : K.lookup so = some ⟨.type "tuple", odo, .seq #[.str "sounding" tk3, .int 0 tk4] nO, slO⟩)
    (aI : PySem.W.nsIn K mainGlobals "SILENCED" = some (some (.ref si)))
    (lI : K.lookup si = some ⟨.type "tuple", odi, .seq #[.str "silenced" tk5, .int 0 tk6] nI, slI⟩)
    (xeh : PySem.W.nsIn K mainGlobals "HouseError" = some (some (.ref hc)))
    (xe5 : PySem.W.nsIn K mainGlobals "NoAddress" = some (some (.ref u5)))
    (xe7 : PySem.W.nsIn K mainGlobals "NoHand" = some (some (.ref u7)))
    (xhx : PySem.W.excIn K hc [.type "ValueError", .type "Exception", .type "BaseException", .type "object"] "ValueError.__new__" = true)
    (xha : PySem.W.findIn K (.ref hc) "__getattribute__" = some (some (.builtin "BaseException.__getattribute__")))
    (xhn : PySem.W.findIn K (.ref hc) "__getattr__" = some none)
    (xhc : PySem.W.findIn K (.ref hc) "__class__" = some (some (.builtin "object.__class__")))
    (xho : PySem.W.subIn K (.ref hc) (.type "object") = some true)
    (xhb : PySem.W.subIn K (.ref hc) (.type "BaseException") = some true)
    (xhk : PySem.W.keepIn K (.ref hc) = true)
    (k5px : PySem.W.excIn K u5 [.type "ValueError", .type "Exception", .type "BaseException", .type "object"] "ValueError.__new__" = true)
    (k5pa : PySem.W.findIn K (.ref u5) "__getattribute__" = some (some (.builtin "BaseException.__getattribute__")))
    (k5pn : PySem.W.findIn K (.ref u5) "__getattr__" = some none)
    (k5pc : PySem.W.findIn K (.ref u5) "__class__" = some (some (.builtin "object.__class__")))
    (k5po : PySem.W.subIn K (.ref u5) (.type "object") = some true)
    (k5pb : PySem.W.subIn K (.ref u5) (.type "BaseException") = some true)
    (k5pk : PySem.W.keepIn K (.ref u5) = true)
    (k5su : PySem.W.subIn K (.ref u5) (.ref hc) = some true)
    (k7px : PySem.W.excIn K u7 [.type "ValueError", .type "Exception", .type "BaseException", .type "object"] "ValueError.__new__" = true)
    (k7pa : PySem.W.findIn K (.ref u7) "__getattribute__" = some (some (.builtin "BaseException.__getattribute__")))
    (k7pn : PySem.W.findIn K (.ref u7) "__getattr__" = some none)
    (k7pc : PySem.W.findIn K (.ref u7) "__class__" = some (some (.builtin "object.__class__")))
    (k7po : PySem.W.subIn K (.ref u7) (.type "object") = some true)
    (k7pb : PySem.W.subIn K (.ref u7) (.type "BaseException") = some true)
    (k7pk : PySem.W.keepIn K (.ref u7) = true)
    (k7su : PySem.W.subIn K (.ref u7) (.ref hc) = some true)
    : ∃ fd : FuncData, (∀ (s : Shared) (v : Value), BindsTo s fd ⟨[v], []⟩ [("_law_script", v)]) ∧ ∀ base : Heap, K.In base → base.Ns mainGlobals mg → FnOk l.prog w K mg base CX0 6 fa fd ["_law_script"] (spLaw K) := by
  have e := hfa.symm.trans (PySem.W.mg_of X G a11)
  cases e
  have TN : Nm mg := ⟨PySem.W.mg_none_of X G z0, PySem.W.mg_none_of X G z1, PySem.W.mg_none_of X G z2, PySem.W.mg_none_of X G z3, PySem.W.mg_none_of X G z4, PySem.W.mg_none_of X G z5, PySem.W.mg_none_of X G z6, PySem.W.mg_none_of X G z7, PySem.W.mg_none_of X G z8, PySem.W.mg_none_of X G z9, PySem.W.mg_none_of X G z10, PySem.W.mg_none_of X G z11, PySem.W.mg_none_of X G z12, PySem.W.mg_none_of X G z13, PySem.W.mg_none_of X G z14, PySem.W.mg_none_of X G z15, PySem.W.mg_none_of X G z16, PySem.W.mg_none_of X G z17, PySem.W.mg_none_of X G z18, PySem.W.mg_none_of X G z19⟩
  have T : Tx K mg C st so si := { toNm := TN, cl := ⟨pg, hd, po, sa⟩, mgC := PySem.W.mg_of X G aC, n_delays := n0, n_standing := n1, n_lengthened := n2, n_unused := n3, n_wanted := n4, STILL := ⟨_, PySem.W.mg_of X G aS, rfl⟩, SOUNDING := ⟨_, PySem.W.mg_of X G aO, rfl⟩, SILENCED := ⟨_, PySem.W.mg_of X G aI, rfl⟩, silenced := fun H => .inr ⟨_, _, _, lI, rfl, rfl, (by show 2 ≤ sizeLine; decide), .cons ⟨_, rfl⟩ (.cons ⟨_, rfl⟩ .nil)⟩, still := fun H => .inr ⟨_, _, _, lS, rfl, rfl, (by show 2 ≤ sizeLine; decide), .cons ⟨_, rfl⟩ (.cons ⟨_, rfl⟩ .nil)⟩, sounding := fun H => .inr ⟨_, _, _, lO, rfl, rfl, (by show 2 ≤ sizeLine; decide), .cons ⟨_, rfl⟩ (.cons ⟨_, rfl⟩ .nil)⟩ }
  have XE : Er K mg hc u5 u5 u5 u5 u5 u5 u5 u7 u5 u5 u5 u5 u5 := ⟨PySem.W.mg_of X G xeh, ⟨xhx, xha, xhn, xhc, xho, xhb, xhk⟩, PySem.W.mg_of X G xe5, PySem.W.mg_of X G xe7⟩
  have k_NoAddress : Knd K hc u5 [u5, u5, u5, u5, u5, u5, u5, u7, u5, u5, u5, u5, u5] 5 := ⟨⟨k5px, k5pa, k5pn, k5pc, k5po, k5pb, k5pk⟩, k5su⟩
  have k_NoHand : Knd K hc u7 [u5, u5, u5, u5, u5, u5, u5, u7, u5, u5, u5, u5, u5] 7 := ⟨⟨k7px, k7pa, k7pn, k7pc, k7po, k7pb, k7pk⟩, k7su⟩
  have Fm1 := fun_mk (st := s_Sounder___init__) lm1 cm1 km1
  have bm1 := Fm1.binds (ps := p_Sounder___init__) fun _ _ _ _ _ _ us hl => match us, hl with | [_, _], _ => rfl
  have M___init__ : ∃ f fd, Fun K "__init__" "Sounder.__init__" s_Sounder___init__ f fd ∧ Mk K C f ∧ Binds K fd p_Sounder___init__ [] := ⟨fm1, _, Fm1, ⟨mk, am1, im1, kc⟩, bm1⟩
  have Fm2 := fun_mk (st := s_Sounder_beat) lm2 cm2 km2
  have bm2 := Fm2.binds (ps := p_Sounder_beat) fun _ _ _ _ _ _ us hl => match us, hl with | [_, _], _ => rfl
  have M_beat : CodeM K C "beat" "Sounder.beat" s_Sounder_beat p_Sounder_beat := ⟨fm2, _, Fm2, ⟨am2, im2, km2⟩, bm2⟩
  have Fm3 := fun_mk (st := s_Sounder_next_of) lm3 cm3 km3
  have bm3 := Fm3.binds (ps := p_Sounder_next_of) fun _ _ _ _ _ _ us hl => match us, hl with | [_, _, _, _], _ => rfl
  have M_next_of : CodeM K C "next_of" "Sounder.next_of" s_Sounder_next_of p_Sounder_next_of := ⟨fm3, _, Fm3, ⟨am3, im3, km3⟩, bm3⟩
  have Fm4 := fun_mk (st := s_Sounder_count_unused) lm4 cm4 km4
  have bm4 := Fm4.binds (ps := p_Sounder_count_unused) fun _ _ _ _ _ _ us hl => match us, hl with | [_], _ => rfl
  have M_count_unused : CodeM K C "count_unused" "Sounder.count_unused" s_Sounder_count_unused p_Sounder_count_unused := ⟨fm4, _, Fm4, ⟨am4, im4, km4⟩, bm4⟩
  have Fm5 := fun_mk (st := s_Sounder_standing_by) lm5 cm5 km5
  have bm5 := Fm5.binds (ps := p_Sounder_standing_by) fun _ _ _ _ _ _ us hl => match us, hl with | [_, _], _ => rfl
  have M_standing_by : CodeM K C "standing_by" "Sounder.standing_by" s_Sounder_standing_by p_Sounder_standing_by := ⟨fm5, _, Fm5, ⟨am5, im5, km5⟩, bm5⟩
  have Fm6 := fun_mk (st := s_Sounder_put_all) lm6 cm6 km6
  have bm6 := Fm6.binds (ps := p_Sounder_put_all) fun _ _ _ _ _ _ us hl => match us, hl with | [_, _, _], _ => rfl
  have M_put_all : CodeM K C "put_all" "Sounder.put_all" s_Sounder_put_all p_Sounder_put_all := ⟨fm6, _, Fm6, ⟨am6, im6, km6⟩, bm6⟩
  have Fm7 := fun_mk (st := s_Sounder_press) lm7 cm7 km7
  have bm7 := Fm7.binds (ps := p_Sounder_press) fun _ _ _ _ _ _ us hl => match us, hl with | [_], _ => rfl
  have M_press : CodeM K C "press" "Sounder.press" s_Sounder_press p_Sounder_press := ⟨fm7, _, Fm7, ⟨am7, im7, km7⟩, bm7⟩
  have Fm8 := fun_mk (st := s_Sounder_silence) lm8 cm8 km8
  have bm8 := Fm8.binds (ps := p_Sounder_silence) fun _ _ _ _ _ _ us hl => match us, hl with | [_], _ => rfl
  have M_silence : CodeM K C "silence" "Sounder.silence" s_Sounder_silence p_Sounder_silence := ⟨fm8, _, Fm8, ⟨am8, im8, km8⟩, bm8⟩
  have Fm9 := fun_mk (st := s_Sounder_reset) lm9 cm9 km9
  have bm9 := Fm9.binds (ps := p_Sounder_reset) fun _ _ _ _ _ _ us hl => match us, hl with | [_], _ => rfl
  have M_reset : CodeM K C "reset" "Sounder.reset" s_Sounder_reset p_Sounder_reset := ⟨fm9, _, Fm9, ⟨am9, im9, km9⟩, bm9⟩
  have Fm10 := fun_mk (st := s_Sounder_check_address) lm10 cm10 km10
  have bm10 := Fm10.binds (ps := p_Sounder_check_address) fun _ _ _ _ _ _ us hl => match us, hl with | [_, _], _ => rfl
  have M_check_address : CodeM K C "check_address" "Sounder.check_address" s_Sounder_check_address p_Sounder_check_address := ⟨fm10, _, Fm10, ⟨am10, im10, km10⟩, bm10⟩
  have Fm11 := fun_mk (st := s_Sounder_lengthen) lm11 cm11 km11
  have bm11 := Fm11.binds (ps := p_Sounder_lengthen) fun _ _ _ _ _ _ us hl => match us, hl with | [_, _], _ => rfl
  have M_lengthen : CodeM K C "lengthen" "Sounder.lengthen" s_Sounder_lengthen p_Sounder_lengthen := ⟨fm11, _, Fm11, ⟨am11, im11, km11⟩, bm11⟩
  have Fm12 := fun_mk (st := s_Sounder_put_out) lm12 cm12 km12
  have bm12 := Fm12.binds (ps := p_Sounder_put_out) fun _ _ _ _ _ _ us hl => match us, hl with | [_, _, _], _ => rfl
  have M_put_out : CodeM K C "put_out" "Sounder.put_out" s_Sounder_put_out p_Sounder_put_out := ⟨fm12, _, Fm12, ⟨am12, im12, km12⟩, bm12⟩
  have Fm13 := fun_mk (st := s_Sounder_state_of) lm13 cm13 km13
  have bm13 := Fm13.binds (ps := p_Sounder_state_of) fun _ _ _ _ _ _ us hl => match us, hl with | [_, _], _ => rfl
  have M_state_of : CodeM K C "state_of" "Sounder.state_of" s_Sounder_state_of p_Sounder_state_of := ⟨fm13, _, Fm13, ⟨am13, im13, km13⟩, bm13⟩
  have Fm14 := fun_mk (st := s_Sounder_sounded) lm14 cm14 km14
  have bm14 := Fm14.binds (ps := p_Sounder_sounded) fun _ _ _ _ _ _ us hl => match us, hl with | [_], _ => rfl
  have M_sounded : CodeM K C "sounded" "Sounder.sounded" s_Sounder_sounded p_Sounder_sounded := ⟨fm14, _, Fm14, ⟨am14, im14, km14⟩, bm14⟩
  have Fm15 := fun_mk (st := s_Sounder_out_of_use) lm15 cm15 km15
  have bm15 := Fm15.binds (ps := p_Sounder_out_of_use) fun _ _ _ _ _ _ us hl => match us, hl with | [_], _ => rfl
  have M_out_of_use : CodeM K C "out_of_use" "Sounder.out_of_use" s_Sounder_out_of_use p_Sounder_out_of_use := ⟨fm15, _, Fm15, ⟨am15, im15, km15⟩, bm15⟩
  have C_is_whole : Code K mg "is_whole" s_is_whole p_is_whole := Code.of X G a1 l1 c1 k1 fun _ _ _ _ _ _ us hl => match us, hl with | [_], _ => rfl
  have C_waiting : Code K mg "waiting" s_waiting p_waiting := Code.of X G a2 l2 c2 k2 fun _ _ _ _ _ _ us hl => match us, hl with | [_], _ => rfl
  have C_l_bag : Code K mg "_law_bag" s_l_bag p_l_bag := Code.of X G a3 l3 c3 k3 fun _ _ _ _ _ _ us hl => match us, hl with | [_, _], _ => rfl
  have C_l_take : Code K mg "_law_take" s_l_take p_l_take := Code.of X G a4 l4 c4 k4 fun _ _ _ _ _ _ us hl => match us, hl with | [_, _], _ => rfl
  have C_l_outs : Code K mg "_law_outs" s_l_outs p_l_outs := Code.of X G a5 l5 c5 k5 fun _ _ _ _ _ _ us hl => match us, hl with | [_], _ => rfl
  have C_l_wanted : Code K mg "_law_wanted" s_l_wanted p_l_wanted := Code.of X G a6 l6 c6 k6 fun _ _ _ _ _ _ us hl => match us, hl with | [_, _, _, _], _ => rfl
  have C_l_standing : Code K mg "_law_standing" s_l_standing p_l_standing := Code.of X G a7 l7 c7 k7 fun _ _ _ _ _ _ us hl => match us, hl with | [_, _], _ => rfl
  have C_l_passes : Code K mg "_law_passes" s_l_passes p_l_passes := Code.of X G a8 l8 c8 k8 fun _ _ _ _ _ _ us hl => match us, hl with | [_, _, _, _, _], _ => rfl
  have C_l_beat_right : Code K mg "_law_beat_right" s_l_beat_right p_l_beat_right := Code.of X G a9 l9 c9 k9 fun _ _ _ _ _ _ us hl => match us, hl with | [_, _, _, _], _ => rfl
  have C_l_hand_right : Code K mg "_law_hand_right" s_l_hand_right p_l_hand_right := Code.of X G a10 l10 c10 k10 fun _ _ _ _ _ _ us hl => match us, hl with | [_, _, _, _], _ => rfl
  have F_law := fun_mk (st := s_law) l11 c11 k11
  refine ⟨PySem.W.fnOf "law" "law" (defArgs s_law) (defBody s_law) (defScope s_law) .none kV11 dc11 pm11 an11 cd11 ct11, fun s v => .of_eq rfl, fun base _ _ => ?_⟩
  have g_l_bag := ok_l_bag (P := l.prog) (w := w) (base := base) C_l_bag TN
  have g_l_take := ok_l_take (P := l.prog) (w := w) (base := base) C_l_take TN
  have g_whole := ok_whole (P := l.prog) (w := w) (base := base) C_is_whole T
  have g_wait := ok_waiting (P := l.prog) (w := w) (base := base) C_waiting T
  have g_next := ok_next (P := l.prog) (w := w) (base := base) M_next_of T g_wait
  have g_count := ok_count (P := l.prog) (w := w) (base := base) M_count_unused T
  have g_check := ok_check (P := l.prog) (w := w) (base := base) M_check_address T XE k_NoAddress g_whole
  have g_state := ok_state (P := l.prog) (w := w) (base := base) M_state_of T g_check
  have g_beat := ok_beat (P := l.prog) (w := w) (base := base) M_beat T g_next g_count
  have g_init := ok_init (P := l.prog) (w := w) (base := base) M___init__ T
  have g_by := ok_by (P := l.prog) (w := w) (base := base) M_standing_by T
  have g_put := ok_put (P := l.prog) (w := w) (base := base) M_put_all T
  have g_press := ok_press (P := l.prog) (w := w) (base := base) M_press T g_by g_put g_wait
  have g_sil := ok_silence (P := l.prog) (w := w) (base := base) M_silence T g_by g_put
  have g_res := ok_reset (P := l.prog) (w := w) (base := base) M_reset T g_by g_put
  have g_len := ok_lengthen (P := l.prog) (w := w) (base := base) M_lengthen T XE k_NoHand g_check g_wait
  have g_outs := ok_outs (P := l.prog) (w := w) (base := base) C_l_outs T g_l_take
  have g_wan := ok_wanted (P := l.prog) (w := w) (base := base) C_l_wanted T g_l_take
  have g_out := ok_put_out (P := l.prog) (w := w) (base := base) M_put_out T g_check
  have g_snd := ok_sounded (P := l.prog) (w := w) (base := base) M_sounded T g_by
  have g_oou := ok_oou (P := l.prog) (w := w) (base := base) M_out_of_use T
  have g_stg := ok_stg (P := l.prog) (w := w) (base := base) C_l_standing T g_state
  have g_pass := ok_pass (P := l.prog) (w := w) (base := base) C_l_passes T
  have g_br := ok_br (P := l.prog) (w := w) (base := base) C_l_beat_right T g_stg g_oou g_beat g_pass
  have g_hr := ok_hr (P := l.prog) (w := w) (base := base) C_l_hand_right T XE k_NoAddress k_NoHand g_l_take g_stg g_out g_press g_sil g_res g_len
  exact ok_law F_law T g_l_bag g_l_take g_outs g_init g_wan g_stg g_br g_hr g_oou g_snd
theorem walk {l : PySem.W.OpenLaw} {q : Program} {loose : List Str} {XP : (Str → Option Value) → Heap → Prop} {YP : World → Heap → Prop} {d : DefRec} {K : Params → PySem.W.Frag} (hn : l.most = some 63) (hdf : d.params.defaults = [])
    (hY : ∀ (w : World) (h : Heap), YP w h → (K w.params).In h)
    (F : ∀ (w : World) (mg : Str → Option Value) (fa : Addr) (h : Heap), (K w.params).In h → h.Ns mainGlobals mg → mg d.name = some (.ref fa) →
      ∃ fd : FuncData, (∀ (s : Shared) (u : Value), BindsTo s fd ⟨[u], []⟩ [("_law_script", u)]) ∧ ∀ base : Heap, (K w.params).In base → base.Ns mainGlobals mg → FnOk l.prog w (K w.params) mg base CX0 6 fa fd ["_law_script"] (spLaw (K w.params))) :
    PySem.W.WalkO q loose XP YP l.row.toRowW d [] (fun f vs => PySem.call f vs) :=
  L2.walk_of (n := 63) (k := 6) (x := "_law_script") (CX := fun _ => CX0) (sp := fun w => spLaw (K w.params)) hn (by decide) hdf ⟨rfl, by decide, by decide⟩ hY F (fun _ _ a ns hl _ hS => ⟨a, ns, rfl, hS, hl, fun _ => rfl⟩) fun _ _ _ _ _ z => z
end K33
/-! names that stay free of quick twins: the head comes through without them, and the compiled text is much smaller -/
def PySem.W.Fast.tw16865575630986713913 : Nat := 0
def PySem.W.Fast.tw8310185346515933966 : Nat := 0
def PySem.W.Fast.tw15724540307135012636 : Nat := 0
def PySem.W.Fast.tw11860700189439945204 : Nat := 0
def PySem.W.Fast.tw11069958484470277786 : Nat := 0
def PySem.W.Fast.tw840085041913480650 : Nat := 0
def PySem.W.Fast.tw3198049575810548638 : Nat := 0
def PySem.W.Fast.tw15885687117508383841 : Nat := 0
def PySem.W.Fast.tw14416764941777564173 : Nat := 0
def PySem.W.Fast.tw14704910732736444599 : Nat := 0
def PySem.W.Fast.tw3042363252034546402 : Nat := 0
def PySem.W.Fast.tw10132756562269274768 : Nat := 0
open PySem PySem.W PyProof.Rows
set_option maxRecDepth 100000 in
set_option maxHeartbeats 0 in
theorem PySem.Challenge.cw_warnloop_k33_whole_wanted_is_not_still_holds : PySem.Challenge.rw_warnloop_k33_whole_wanted_is_not_still.Holds := by
  w_on; o_law; k_head; (case hw => w_witness2)
  k_fill
  refine K33.walk (l := PySem.Challenge.rw_warnloop_k33_whole_wanted_is_not_still) rfl rfl (fun w h Y => PySem.W.kIn_of Y) ?F
  case F =>
    intro w mg fa h KX G hmg
    refine' K33.all_mk KX G hmg ?aC ?am1 ?im1 ?lm1 ?cm1 ?km1 ?am2 ?im2 ?lm2 ?cm2 ?km2 ?am3 ?im3 ?lm3 ?cm3 ?km3 ?am4 ?im4 ?lm4 ?cm4 ?km4 ?am5 ?im5 ?lm5 ?cm5 ?km5 ?am6 ?im6 ?lm6 ?cm6 ?km6 ?am7 ?im7 ?lm7 ?cm7 ?km7 ?am8 ?im8 ?lm8 ?cm8 ?km8 ?am9 ?im9 ?lm9 ?cm9 ?km9 ?am10 ?im10 ?lm10 ?cm10 ?km10 ?am11 ?im11 ?lm11 ?cm11 ?km11 ?am12 ?im12 ?lm12 ?cm12 ?km12 ?am13 ?im13 ?lm13 ?cm13 ?km13 ?am14 ?im14 ?lm14 ?cm14 ?km14 ?am15 ?im15 ?lm15 ?cm15 ?km15 ?a1 ?l1 ?c1 ?k1 ?a2 ?l2 ?c2 ?k2 ?a3 ?l3 ?c3 ?k3 ?a4 ?l4 ?c4 ?k4 ?a5 ?l5 ?c5 ?k5 ?a6 ?l6 ?c6 ?k6 ?a7 ?l7 ?c7 ?k7 ?a8 ?l8 ?c8 ?k8 ?a9 ?l9 ?c9 ?k9 ?a10 ?l10 ?c10 ?k10 ?a11 ?l11 ?c11 ?k11 ?pg ?hd ?po ?sa ?mk ?kc ?n0 ?n1 ?n2 ?n3 ?n4 ?z0 ?z1 ?z2 ?z3 ?z4 ?z5 ?z6 ?z7 ?z8 ?z9 ?z10 ?z11 ?z12 ?z13 ?z14 ?z15 ?z16 ?z17 ?z18 ?z19 ?aS ?lS ?aO ?lO ?aI ?lI ?xeh ?xe5 ?xe7 ?xhx ?xha ?xhn ?xhc ?xho ?xhb ?xhk ?k5px ?k5pa ?k5pn ?k5pc ?k5po ?k5pb ?k5pk ?k5su ?k7px ?k7pa ?k7pn ?k7pc ?k7po ?k7pb ?k7pk ?k7su
    (case aC => k_is)
    (case am1 => k_is)
    (case im1 => k_is)
    (case lm1 => k_is)
    (case cm1 => k_is)
    (case km1 => k_is)
    (case am2 => k_is)
    (case im2 => k_is)
    (case lm2 => k_is)
    (case cm2 => k_is)
    (case km2 => k_is)
    (case am3 => k_is)
    (case im3 => k_is)
    (case lm3 => k_is)
    (case cm3 => k_is)
    (case km3 => k_is)
    (case am4 => k_is)
    (case im4 => k_is)
    (case lm4 => k_is)
    (case cm4 => k_is)
    (case km4 => k_is)
    (case am5 => k_is)
    (case im5 => k_is)
    (case lm5 => k_is)
    (case cm5 => k_is)
    (case km5 => k_is)
    (case am6 => k_is)
    (case im6 => k_is)
    (case lm6 => k_is)
    (case cm6 => k_is)
    (case km6 => k_is)
    (case am7 => k_is)
    (case im7 => k_is)
    (case lm7 => k_is)
    (case cm7 => k_is)
    (case km7 => k_is)
    (case am8 => k_is)
    (case im8 => k_is)
    (case lm8 => k_is)
    (case cm8 => k_is)
    (case km8 => k_is)
    (case am9 => k_is)
    (case im9 => k_is)
    (case lm9 => k_is)
    (case cm9 => k_is)
    (case km9 => k_is)
    (case am10 => k_is)
    (case im10 => k_is)
    (case lm10 => k_is)
    (case cm10 => k_is)
    (case km10 => k_is)
    (case am11 => k_is)
    (case im11 => k_is)
    (case lm11 => k_is)
    (case cm11 => k_is)
    (case km11 => k_is)
    (case am12 => k_is)
    (case im12 => k_is)
    (case lm12 => k_is)
    (case cm12 => k_is)
    (case km12 => k_is)
    (case am13 => k_is)
    (case im13 => k_is)
    (case lm13 => k_is)
    (case cm13 => k_is)
    (case km13 => k_is)
    (case am14 => k_is)
    (case im14 => k_is)
    (case lm14 => k_is)
    (case cm14 => k_is)
    (case km14 => k_is)
    (case am15 => k_is)
    (case im15 => k_is)
    (case lm15 => k_is)
    (case cm15 => k_is)
    (case km15 => k_is)
    (case a1 => k_is)
    (case l1 => k_is)
    (case c1 => k_is)
    (case k1 => k_is)
    (case a2 => k_is)
    (case l2 => k_is)
    (case c2 => k_is)
    (case k2 => k_is)
    (case a3 => k_is)
    (case l3 => k_is)
    (case c3 => k_is)
    (case k3 => k_is)
    (case a4 => k_is)
    (case l4 => k_is)
    (case c4 => k_is)
    (case k4 => k_is)
    (case a5 => k_is)
    (case l5 => k_is)
    (case c5 => k_is)
    (case k5 => k_is)
    (case a6 => k_is)
    (case l6 => k_is)
    (case c6 => k_is)
    (case k6 => k_is)
    (case a7 => k_is)
    (case l7 => k_is)
    (case c7 => k_is)
    (case k7 => k_is)
    (case a8 => k_is)
    (case l8 => k_is)
    (case c8 => k_is)
    (case k8 => k_is)
    (case a9 => k_is)
    (case l9 => k_is)
    (case c9 => k_is)
    (case k9 => k_is)
    (case a10 => k_is)
    (case l10 => k_is)
    (case c10 => k_is)
    (case k10 => k_is)
    (case a11 => k_is)
    (case l11 => k_is)
    (case c11 => k_is)
    (case k11 => k_is)
    (case pg => k_is)
    (case hd => k_is)
    (case po => k_is)
    (case sa => k_is)
    (case mk => k_is)
    (case kc => k_is)
    (case n0 => k_is)
    (case n1 => k_is)
    (case n2 => k_is)
    (case n3 => k_is)
    (case n4 => k_is)
    (case z0 => k_is)
    (case z1 => k_is)
    (case z2 => k_is)
    (case z3 => k_is)
    (case z4 => k_is)
    (case z5 => k_is)
    (case z6 => k_is)
    (case z7 => k_is)
    (case z8 => k_is)
    (case z9 => k_is)
    (case z10 => k_is)
    (case z11 => k_is)
    (case z12 => k_is)
    (case z13 => k_is)
    (case z14 => k_is)
    (case z15 => k_is)
    (case z16 => k_is)
    (case z17 => k_is)
    (case z18 => k_is)
    (case z19 => k_is)
    (case aS => k_is)
    (case lS => k_is)
    (case aO => k_is)
    (case lO => k_is)
    (case aI => k_is)
    (case lI => k_is)
    (case xeh => k_is)
    (case xe5 => k_is)
    (case xe7 => k_is)
    (case xhx => k_exc)
    (case xha => k_is)
    (case xhn => k_is)
    (case xhc => k_is)
    (case xho => k_is)
    (case xhb => k_is)
    (case xhk => k_is)
    (case k5px => k_exc)
    (case k5pa => k_is)
    (case k5pn => k_is)
    (case k5pc => k_is)
    (case k5po => k_is)
    (case k5pb => k_is)
    (case k5pk => k_is)
    (case k5su => k_is)
    (case k7px => k_exc)
    (case k7pa => k_is)
    (case k7pn => k_is)
    (case k7pc => k_is)
    (case k7po => k_is)
    (case k7pb => k_is)
    (case k7pk => k_is)
    (case k7su => k_is)

