import PyProof.Rows.All
import Wide.All
import OpenK.AllK
import Wide.FinOn
import Lean
import PyProof.EqAt
import PyProof.EqKinds
import PyProof.TupleCall
import PySem.Challenge.RW_warnloop_k15_one_beat
set_option Elab.async false
set_option linter.all false
set_option maxRecDepth 100000
/-! THE HAND LAYER, for ints, bools, texts, own classes, LISTS and tuples (index, slices, in, append, pop ..), calls, loops. Paste it whole ahead of your own text; what your proof does not reach may be deleted. -/
namespace L2
open PySem PySem.Spec PyProof.Rows

/-- a key: an int or a str -/
abbrev Key := Sum Int Str
def keyIs : Key → Value → Bool
  | .inl k, v => Value.isInt k v
  | .inr x, v => Value.isStrOf x v
def keyH (w : World) : Key → Int
  | .inl k => hashInt k
  | .inr x => hashStr w x
theorem keyIs_shape : ∀ {k : Key} {v : Value}, keyIs k v = true → (∃ i t, k = Sum.inl i ∧ v = Value.int i t) ∨ (∃ x t, k = Sum.inr x ∧ v = Value.str x t)
  | .inl i, v, h => by
    obtain ⟨t, e⟩ := Value.isInt_shape (k := i) (v := v) h
    exact .inl ⟨i, t, rfl, e⟩
  | .inr x, v, h => by
    obtain ⟨t, e⟩ := Value.isStrOf_shape (x := x) (v := v) h
    exact .inr ⟨x, t, rfl, e⟩
theorem keyIs_int (i : Int) (t : Tok) : keyIs (.inl i) (.int i t) = true := by simp [keyIs, Value.isInt]
theorem keyIs_str (x : Str) (t : Tok) : keyIs (.inr x) (.str x t) = true := by simp [keyIs, Value.isStrOf]
theorem key_ll (a b : Int) : decide ((Sum.inl a : Key) = Sum.inl b) = (a == b) := by
  by_cases e : a = b
  · subst e; simp
  · have h : ¬ (Sum.inl a : Key) = Sum.inl b := fun q => e (Sum.inl.inj q)
    rw [decide_eq_false h]
    exact (beq_eq_false_iff_ne.mpr e).symm
theorem key_rr (a b : Str) : decide ((Sum.inr a : Key) = Sum.inr b) = decide (a = b) := by
  by_cases e : a = b
  · subst e; simp
  · have h : ¬ (Sum.inr a : Key) = Sum.inr b := fun q => e (Sum.inr.inj q)
    rw [decide_eq_false h, decide_eq_false e]
theorem key_lr (a : Int) (b : Str) : decide ((Sum.inl a : Key) = Sum.inr b) = false := decide_eq_false (fun q => nomatch q)
theorem key_rl (a : Str) (b : Int) : decide ((Sum.inr a : Key) = Sum.inl b) = false := decide_eq_false (fun q => nomatch q)

def mixKind (prog : Program) (w : World) : PySem.KeyKind prog w Key where
  is := keyIs
  hash := keyH w
  inj := fun v a b ha hb => by
    rcases keyIs_shape ha with ⟨i, t, rfl, rfl⟩ | ⟨x, t, rfl, rfl⟩
    · rcases keyIs_shape hb with ⟨j, u, rfl, e⟩ | ⟨y, u, rfl, e⟩
      · injection e with e1 _; rw [e1]
      · exact nomatch e
    · rcases keyIs_shape hb with ⟨j, u, rfl, e⟩ | ⟨y, u, rfl, e⟩
      · exact nomatch e
      · injection e with e1 _; rw [e1]
  byValue := fun k v h => by
    rcases keyIs_shape h with ⟨i, t, rfl, rfl⟩ | ⟨x, t, rfl, rfl⟩ <;> rfl
  pyHash := fun hv h => by
    rcases keyIs_shape hv with ⟨i, t, rfl, rfl⟩ | ⟨x, t, rfl, rfl⟩
    · exact wpAny_pyHash_int h
    · exact wpAny_pyHash_str h
  eqBool := fun hu hv h => by
    rcases keyIs_shape hu with ⟨i, t, rfl, rfl⟩ | ⟨x, t, rfl, rfl⟩
    · rcases keyIs_shape hv with ⟨j, u, rfl, rfl⟩ | ⟨y, u, rfl, rfl⟩
      · rw [key_ll] at h; exact wpAny_eqBool_int h
      · rw [key_lr] at h; exact SeqAt.EqAt.int_str i t y u _ _ _ _ h
    · rcases keyIs_shape hv with ⟨j, u, rfl, rfl⟩ | ⟨y, u, rfl, rfl⟩
      · rw [key_rl] at h; exact SeqAt.EqAt.str_int x t j u _ _ _ _ h
      · rw [key_rr] at h; exact wpAny_eqBool_str h
  «strs» := fun k x t v h => by
    rcases keyIs_shape h with ⟨i, u, rfl, e⟩ | ⟨y, u, rfl, e⟩
    · exact nomatch e
    · injection e with e1 _
      subst e1
      cases v <;> rfl

theorem mixKind_int (prog : Program) (w : World) (i : Int) (t : Tok) : (mixKind prog w).is (.inl i) (.int i t) = true := keyIs_int i t
theorem mixKind_str (prog : Program) (w : World) (x : Str) (t : Tok) : (mixKind prog w).is (.inr x) (.str x t) = true := keyIs_str x t
end L2

namespace L2
open PySem PySem.Spec PyProof.Rows

/-- a value, without the heap -/
inductive V where
  | non | bl (b : Bool) | int (i : Int) | str (x : Str) | byt (b : Array UInt8) | flt (b : UInt64) | ref (a : Addr) | ty (n : String)
  deriving DecidableEq

def RelV : V → Value → Prop
  | .non, u => u = Value.none
  | .bl b, u => u = Value.bool b
  | .int i, u => ∃ t, u = Value.int i t
  | .str x, u => ∃ t, u = Value.str x t
  | .byt b, u => ∃ t, u = Value.bytes b t
  | .flt b, u => ∃ t, u = Value.float b t
  | .ref a, u => u = Value.ref a
  | .ty n, u => u = Value.type n

abbrev Vals : List V → List Value → Prop := Paired RelV
theorem Vals.length {xs : List V} {us : List Value} (r : Vals xs us) : xs.length = us.length := Paired.length r
theorem Vals.get : ∀ {xs : List V} {us : List Value} {i : Nat} {x : V}, Vals xs us → xs[i]? = some x → ∃ u, us[i]? = some u ∧ RelV x u
  | _, _, _, _, .nil, e => by simp at e
  | _, _, 0, _, .cons r _, e => by simp at e; subst e; exact ⟨_, rfl, r⟩
  | _, _, i + 1, x, .cons _ t, e => by
    obtain ⟨u, h1, h2⟩ := Vals.get (i := i) (x := x) t (by simpa using e)
    exact ⟨u, by simpa using h1, h2⟩
theorem Vals.set {x : V} {u : Value} (r : RelV x u) : ∀ {xs : List V} {us : List Value} (i : Nat), Vals xs us → Vals (xs.set i x) (us.set i u)
  | _, _, _, .nil => .nil
  | _, _, 0, .cons _ t => .cons r t
  | _, _, i + 1, .cons q t => .cons q (Vals.set r i t)
theorem Vals.append : ∀ {xs ys : List V} {us ws : List Value}, Vals xs us → Vals ys ws → Vals (xs ++ ys) (us ++ ws)
  | _, _, _, _, .nil, s => s
  | _, _, _, _, .cons r t, s => .cons r (Vals.append t s)
theorem Vals.take : ∀ {xs : List V} {us : List Value} (n : Nat), Vals xs us → Vals (xs.take n) (us.take n)
  | _, _, 0, _ => .nil
  | _, _, _ + 1, .nil => .nil
  | _, _, n + 1, .cons r t => .cons r (Vals.take n t)
theorem Vals.drop : ∀ {xs : List V} {us : List Value} (n : Nat), Vals xs us → Vals (xs.drop n) (us.drop n)
  | _, _, 0, r => r
  | _, _, _ + 1, .nil => .nil
  | _, _, n + 1, .cons _ t => Vals.drop n t
theorem Vals.none_of : ∀ {xs : List V} {us : List Value} {i : Nat}, Vals xs us → xs[i]? = none → us[i]? = none := fun {xs us i} r e => by
  have h1 := r.length
  have h2 : xs.length ≤ i := List.getElem?_eq_none_iff.mp e
  exact List.getElem?_eq_none_iff.mpr (by omega)

def RelO : Option V → Option Value → Prop
  | some v, some u => RelV v u
  | none, none => True
  | _, _ => False
def KV {κ : Type} : List (κ × V) → List (κ × Value) → Prop := Paired fun (p : κ × V) (q : κ × Value) => p.1 = q.1 ∧ RelV p.2 q.2

/-- a key of a dict (00_mix): an int or a text -/
def kV : Key → V
  | .inl i => .int i
  | .inr x => .str x

/-- what stands at a tracked address -/
inductive HO where
  /-- a list -/
  | lst (xs : List V)
  /-- a tuple (never changes) -/
  | tup (xs : List V)
  /-- a dict whose keys are ints and texts; one whose keys are tuples of ints and texts (the empty one is both) -/
  | dK (kvs : List (Key × V)) | dT (kvs : List (List Key × V))
  /-- a set of ints: its members, its size -/
  | set (S : Int → Bool) (n : Nat)
  /-- an instance of the class at C, its dict at dx, its attributes -/
  | ins (C dx : Addr) (fs : List (Str × V))
  /-- the dict of the instance at x -/
  | own (x : Addr)
  /-- the dict of an exception -/
  | xd (fs : List (Str × V))
  /-- a bound method, f of x -/
  | met (f x : Addr)
  /-- a range object lo, lo + 1, .. below hi -/
  | rng (lo hi : Int)
  /-- a thing that is known to the object (the script; a dict while a loop walks it): read, never written while it is so -/
  | frz (o : Obj) (u : HO)
  /-- a code object's table -/
  | tbl (ps : Array Value)
  /-- any other thing, by what is true of its one object (a def of one's own: SetO a S n := HO.ext fun h => ..) -/
  | ext (φ : Heap → Prop)

abbrev Hp := Addr → Option HO
def upd (H : Hp) (a : Addr) (o : HO) : Hp := fun b => if b = a then some o else H b
theorem upd_same {H : Hp} {a : Addr} {o : HO} : upd H a o a = some o := by unfold upd; rw [if_pos rfl]
theorem upd_ne {H : Hp} {a b : Addr} {o : HO} (h : b ≠ a) : upd H a o b = H b := by unfold upd; rw [if_neg h]
theorem upd_upd {H : Hp} {a : Addr} {o u : HO} : upd (upd H a o) a u = upd H a u := by
  funext b; unfold upd; split <;> rfl
/-- two objects of different content stand apart -/
theorem ne_of {H : Hp} {a b : Addr} {o u : HO} (h : H a = some o) (h' : H b = some u) (d : o ≠ u) : a ≠ b := by
  intro e; subst e; rw [h] at h'; exact d (Option.some.inj h')
theorem ne_of_none {H : Hp} {a b : Addr} {o : HO} (h : H a = some o) (h' : H b = none) : a ≠ b := by
  intro e; subst e; rw [h] at h'; cases h'

section
variable (P : Program) (w : World)
def ObjOk (H : Hp) (h : Heap) (a : Addr) : HO → Prop
  | .lst xs => xs.length ≤ sizeLine ∧ ∃ (its : List Value) (n : Nat), Vals xs its ∧ h.get? a = some { cls := .type "list", data := .seq its.toArray n }
  | .tup xs => xs.length ≤ sizeLine ∧ ∃ its : List Value, Vals xs its ∧ IsTup h a its.toArray
  | .dK kvs => kvs.length ≤ sizeLine ∧ (a == sysModules) = false ∧ ∃ vs, KV kvs vs ∧ h.DictOf (mixKind P w) a vs
  | .dT kvs => kvs.length ≤ sizeLine ∧ (a == sysModules) = false ∧ ∃ xs : List (List Key × Addr × Value),
      Paired (fun (p : List Key × V) (q : List Key × Addr × Value) => p.1 = q.1 ∧ H q.2.1 = some (.tup (p.1.map kV)) ∧ RelV p.2 q.2.2) kvs xs ∧
      ∃ o es ep, h.get? a = some o ∧ o.ExactDict ∧ o.data = .dict es ep ∧ es.toList = xs.map (entryOfKey (tupleKind (mixKind P w))) ∧ (xs.map (·.1)).Nodup
  | .set S n => h.SetOf (intKind P w) a S n
  | .ins C dx fs => H dx = some (.own a) ∧ fs.length ≤ 1000 ∧ dx ≠ a ∧ h.get? a = some (PySem.W.instObj C dx) ∧
      ∃ mA, h.Ns1 dx mA ∧ (∀ f, RelO (fs.lookup f) (mA f)) ∧ PySem.Within mA (fs.map (·.1))
  | .own _ => ∃ o, h.get? a = some o
  | .xd fs => ∃ mA, h.Ns1 a mA ∧ ∀ f, RelO (fs.lookup f) (mA f)
  | .rng lo hi => ∃ t u v, h.get? a = some { cls := .type "range", data := .fields #[.int lo t, .int hi u, .int 1 v] }
  | .frz o u => h.get? a = some o ∧ ObjOk H h a u
  | .tbl ps => h.get? a = some { cls := .none, data := .fields ps }
  | .met f x => h.get? a = some (PySem.W.methodObj (.ref f) (.ref x))
  | .ext φ => φ h ∧ (∃ o, h.get? a = some o) ∧ ∀ h1 h2 : Heap, φ h1 → (∀ o, h1.get? a = some o → h2.get? a = some o) → φ h2
/-- the abstract heap is held -/
def HOk (H : Hp) (h : Heap) : Prop := ∀ a o, H a = some o → ObjOk P w H h a o
end

section
variable {P : Program} {w : World} {H H' : Hp} {h h' : Heap} {a : Addr} {o : HO}
theorem ObjOk.lt (x : ObjOk P w H h a o) : a < h.objs.size := by
  cases o with
  | lst xs => obtain ⟨_, _, _, _, e⟩ := x; exact Heap.lt_size e
  | tup xs => obtain ⟨_, _, _, p⟩ := x; exact p.lt
  | dK kvs => obtain ⟨_, _, _, _, o, _, _, e, _⟩ := x; exact Heap.lt_size e
  | dT kvs => obtain ⟨_, _, _, _, o, _, _, e, _⟩ := x; exact Heap.lt_size e
  | set S n => obtain ⟨o, _, _, _, e, _⟩ := x; exact Heap.lt_size e
  | ins C dx fs => obtain ⟨_, _, _, e, _⟩ := x; exact Heap.lt_size e
  | own y => obtain ⟨_, e⟩ := x; exact Heap.lt_size e
  | xd fs => obtain ⟨_, ⟨_, _, _, e, _⟩, _⟩ := x; exact Heap.lt_size e
  | rng lo hi => obtain ⟨_, _, _, e⟩ := x; exact Heap.lt_size e
  | frz ob u => obtain ⟨e, _⟩ := x; exact Heap.lt_size e
  | tbl ps => exact Heap.lt_size (show h.get? a = some _ from x)
  | met f y => exact Heap.lt_size (show h.get? a = some _ from x)
  | ext φ => obtain ⟨_, ⟨_, e⟩, _⟩ := x; exact Heap.lt_size e
theorem Paired.mapP {α β : Type} {F G : α → β → Prop} : ∀ {l₁ : List α} {l₂ : List β}, Paired F l₁ l₂ → (∀ a b, F a b → G a b) → Paired G l₁ l₂
  | _, _, .nil, _ => .nil
  | _, _, .cons r t, f => .cons (f _ _ r) (Paired.mapP t f)
/-- what an object's description leans on: its own object, its own dict, the tuples -/
theorem ObjOk.stay (x : ObjOk P w H h a o) (k : ∀ b u, (b = a ∨ H b = some (.own a)) → h.get? b = some u → h'.get? b = some u)
    (ho : ∀ b, H b = some (.own a) → H' b = some (.own a)) (ht : ∀ b xs, H b = some (.tup xs) → H' b = some (.tup xs)) : ObjOk P w H' h' a o := by
  induction o with
  | lst xs => obtain ⟨z, its, n, r, e⟩ := x; exact ⟨z, its, n, r, k _ _ (.inl rfl) e⟩
  | tup xs => obtain ⟨z, its, r, ob, e, c⟩ := x; exact ⟨z, its, r, ob, k _ _ (.inl rfl) e, c⟩
  | dK kvs => obtain ⟨z, y, vs, r, ob, es, ep, e, c⟩ := x; exact ⟨z, y, vs, r, ob, es, ep, k _ _ (.inl rfl) e, c⟩
  | dT kvs =>
    obtain ⟨z, y, xs, r, ob, es, ep, e, c⟩ := x
    exact ⟨z, y, xs, Paired.mapP r fun p q z => ⟨z.1, ht _ _ z.2.1, z.2.2⟩, ob, es, ep, k _ _ (.inl rfl) e, c⟩
  | set S n => obtain ⟨ob, es, ep, t, e, c⟩ := x; exact ⟨ob, es, ep, t, k _ _ (.inl rfl) e, c⟩
  | ins C dx fs =>
    obtain ⟨d, z, ne, e, mA, ⟨od, es, ep, e2, c⟩, r⟩ := x
    exact ⟨ho _ d, z, ne, k _ _ (.inl rfl) e, mA, ⟨od, es, ep, k _ _ (.inr d) e2, c⟩, r⟩
  | own y => obtain ⟨ob, e⟩ := x; exact ⟨ob, k _ _ (.inl rfl) e⟩
  | xd fs => obtain ⟨mA, ⟨od, es, ep, e, c⟩, r⟩ := x; exact ⟨mA, ⟨od, es, ep, k _ _ (.inl rfl) e, c⟩, r⟩
  | rng lo hi => obtain ⟨t, u, v, e⟩ := x; exact ⟨t, u, v, k _ _ (.inl rfl) e⟩
  | frz ob u ih => obtain ⟨e, q⟩ := x; exact ⟨k _ _ (.inl rfl) e, ih q⟩
  | tbl ps =>
    have e : h.get? a = some { cls := .none, data := .fields ps } := x
    show h'.get? a = some { cls := .none, data := .fields ps }
    exact k a _ (.inl rfl) e
  | met f y =>
    have e : h.get? a = some (PySem.W.methodObj (.ref f) (.ref y)) := x
    show h'.get? a = some (PySem.W.methodObj (.ref f) (.ref y))
    exact k a _ (.inl rfl) e
  | ext φ => obtain ⟨p, ⟨o, e⟩, st⟩ := x; exact ⟨st _ _ p fun o q => k _ _ (.inl rfl) q, ⟨o, k _ _ (.inl rfl) e⟩, st⟩
theorem HOk.lt (x : HOk P w H h) (e : H a = some o) : a < h.objs.size := (x a o e).lt
theorem HOk.fresh (x : HOk P w H h) (e : h.objs.size ≤ a) : H a = none := by
  cases q : H a with
  | none => rfl
  | some u => exact absurd (Nat.lt_of_lt_of_le (x.lt q) e) (Nat.lt_irrefl _)
/-- every object of the heap is kept -/
theorem HOk.kept (x : HOk P w H h) (k : ∀ b u, h.get? b = some u → h'.get? b = some u) : HOk P w H h' := fun a o e =>
  (x a o e).stay (fun b u _ q => k b u q) (fun _ q => q) fun _ _ q => q
/-- a new object is laid and tracked -/
theorem HOk.laid (x : HOk P w H h) (k : ∀ b u, h.get? b = some u → h'.get? b = some u) (hp : h.objs.size ≤ a) (new : ObjOk P w (upd H a o) h' a o) : HOk P w (upd H a o) h' := fun b u e => by
  have hn := x.fresh hp
  by_cases hb : b = a
  · subst hb; rw [upd_same] at e; cases e; exact new
  · rw [upd_ne hb] at e
    exact (x b u e).stay (fun c v _ q => k c v q) (fun c q => by rw [upd_ne (ne_of_none q hn)]; exact q) fun c xs q => by rw [upd_ne (ne_of_none q hn)]; exact q
end

/-- what may be read as u: it is u, or a known u -/
def Rd (H : Hp) (a : Addr) (u : HO) : Prop := H a = some u ∨ ∃ o, H a = some (.frz o u)
theorem Rd.of {H : Hp} {a : Addr} {u : HO} (h : H a = some u) : Rd H a u := .inl h
theorem Rd.ok {P : Program} {w : World} {H : Hp} {h : Heap} {a : Addr} {u : HO} (r : Rd H a u) (x : HOk P w H h) : ObjOk P w H h a u := by
  rcases r with r | ⟨o, r⟩
  · exact x a u r
  · obtain ⟨_, q⟩ := x a _ r
    exact q
/-- what may be written -/
def Mut : Option HO → Prop
  | some (.lst _) => True
  | some (.dK _) => True
  | some (.dT _) => True
  | some (.set _ _) => True
  | some (.ins _ _ _) => True
  | some (.ext _) => True
  | _ => False
section
variable {P : Program} {w : World} {H : Hp} {h h' : Heap} {x e : Addr} {o' : HO}
/-- the object at e is changed: x itself, or the dict of the instance x -/
theorem HOk.write (ok : HOk P w H h) (mu : Mut (H x)) (he : e = x ∨ H e = some (.own x)) (k : ∀ b u, b ≠ e → h.get? b = some u → h'.get? b = some u) (heo : ∃ u, h'.get? e = some u)
    (new : ObjOk P w (upd H x o') h' x o') : HOk P w (upd H x o') h' := fun b u q => by
  have nown : ∀ c y, H c = some (.own y) → c ≠ x := fun c y r z => by subst z; rw [r] at mu; exact mu
  have ntup : ∀ c xs, H c = some (.tup xs) → c ≠ x := fun c xs r z => by subst z; rw [r] at mu; exact mu
  by_cases hb : b = x
  · subst hb; rw [upd_same] at q; cases q; exact new
  · rw [upd_ne hb] at q
    by_cases hbe : b = e
    · have q' : H b = some (.own x) := by
        rcases he with z | z
        · exact absurd (hbe.trans z) hb
        · rw [hbe]; exact z
      rw [q] at q'; cases q'
      obtain ⟨v, hv⟩ := heo
      exact ⟨v, by rw [hbe]; exact hv⟩
    · refine (ok b u q).stay (fun c v hc r => k c v ?_ r) (fun c r => by rw [upd_ne (nown c b r)]; exact r) fun c xs r => by rw [upd_ne (ntup c xs r)]; exact r
      rcases hc with rfl | hc
      · exact hbe
      · rintro rfl
        rcases he with z | z
        · exact nown c b hc z
        · rw [hc] at z; cases z; exact hb rfl
end

/-! ### kept unless tracked; of the frames at fs (the callers') the slots may change (an exception that passes writes there); of the records at ex (iterators) nothing is said -/
structure Un (fs ex : List Addr) (H H' : Hp) (h h' : Heap) : Prop where
  keep : ∀ b o, h.get? b = some o → H b = none → b ∉ fs → b ∉ ex → h'.get? b = some o
  slot : ∀ b o, h.get? b = some o → H b = none → b ∈ fs → b ∉ ex → ∃ sl, h'.get? b = some { o with slots := sl }
  free : ∀ b o, h.get? b = some o → H b = none → b ∉ ex → H' b = none
  there : ∀ b o, h.get? b = some o → b ∉ ex → ∃ o', h'.get? b = some o'
  tups : ∀ b xs, H b = some (.tup xs) → H' b = some (.tup xs)
  frzs : ∀ b o u, H b = some (.frz o u) → H' b = some (.frz o u)
  tbls : ∀ b ps, H b = some (.tbl ps) → ∃ more, H' b = some (.tbl (ps ++ more))
section
variable {fs fs' ex ex' : List Addr} {H H1 H2 : Hp} {h h1 h2 h' : Heap} {a x e : Addr} {o : HO}
theorem Un.any (u : Un fs ex H H1 h h1) {b : Addr} {ob : Obj} (q : h.get? b = some ob) (n : H b = none) (hx : b ∉ ex) : ∃ sl, h1.get? b = some { ob with slots := sl } := by
  by_cases hb : b ∈ fs
  · exact u.slot b ob q n hb hx
  · exact ⟨ob.slots, u.keep b ob q n hb hx⟩
theorem Un.trans (a : Un fs ex H H1 h h1) (b : Un fs ex H1 H2 h1 h2) : Un fs ex H H2 h h2 where
  keep := fun c ob q n hc hx => b.keep c ob (a.keep c ob q n hc hx) (a.free c ob q n hx) hc hx
  slot := fun c ob q n hc hx => by
    obtain ⟨sl, e1⟩ := a.slot c ob q n hc hx
    obtain ⟨sl', e2⟩ := b.slot c _ e1 (a.free c ob q n hx) hc hx
    exact ⟨sl', e2⟩
  free := fun c ob q n hx => by
    obtain ⟨o', e1⟩ := a.there c ob q hx
    exact b.free c o' e1 (a.free c ob q n hx) hx
  there := fun c ob q hx => by
    obtain ⟨o', e1⟩ := a.there c ob q hx
    exact b.there c o' e1 hx
  tups := fun c xs q => b.tups c xs (a.tups c xs q)
  frzs := fun c ob xs q => b.frzs c ob xs (a.frzs c ob xs q)
  tbls := fun c ps q => by
    obtain ⟨m1, e1⟩ := a.tbls c ps q
    obtain ⟨m2, e2⟩ := b.tbls c _ e1
    exact ⟨m1 ++ m2, by rw [e2, Array.append_assoc]⟩
theorem Un.kept (k : ∀ b u, h.get? b = some u → h'.get? b = some u) : Un fs ex H H h h' :=
  ⟨fun b ob q _ _ _ => k b ob q, fun b ob q _ _ _ => ⟨ob.slots, k b ob q⟩, fun _ _ _ n _ => n, fun b ob q _ => ⟨ob, k b ob q⟩, fun _ _ q => q, fun _ _ _ q => q, fun _ ps q => ⟨#[], by rw [q]; simp⟩⟩
theorem Un.refl : Un fs ex H H h h := Un.kept fun _ _ q => q
theorem Un.laid (k : ∀ b u, h.get? b = some u → h'.get? b = some u) (hp : h.objs.size ≤ a) (hn : H a = none) : Un fs ex H (upd H a o) h h' where
  keep := fun b u q _ _ _ => k b u q
  slot := fun b u q _ _ _ => ⟨u.slots, k b u q⟩
  free := fun b u q n _ => by rw [upd_ne (Nat.ne_of_lt (Nat.lt_of_lt_of_le (Heap.lt_size q) hp))]; exact n
  there := fun b u q _ => ⟨u, k b u q⟩
  tups := fun b xs q => by rw [upd_ne (ne_of_none q hn)]; exact q
  frzs := fun b u xs q => by rw [upd_ne (ne_of_none q hn)]; exact q
  tbls := fun b ps q => ⟨#[], by rw [upd_ne (ne_of_none q hn), q]; simp⟩
theorem Un.write (mu : Mut (H x)) (he : e = x ∨ H e = some (.own x)) (k : ∀ b u, b ≠ e → h.get? b = some u → h'.get? b = some u) (heo : ∃ u, h'.get? e = some u) : Un fs ex H (upd H x o) h h' := by
  have hx : ∀ b, H b = none → b ≠ x := fun b n z => by subst z; rw [n] at mu; exact mu
  have hb : ∀ b, H b = none → b ≠ e := fun b n z => by
    subst z
    rcases he with r | r
    · exact hx b n r
    · rw [n] at r; cases r
  have hm : ∀ b u, H b = some u → ¬ Mut (some u) → b ≠ x := fun b u q nm z => by subst z; rw [q] at mu; exact nm mu
  refine ⟨fun b u q n _ _ => k b u (hb b n) q, fun b u q n _ _ => ⟨u.slots, k b u (hb b n) q⟩, fun b u q n _ => by rw [upd_ne (hx b n)]; exact n, fun b u q _ => ?_,
    fun b xs q => by rw [upd_ne (hm b _ q fun z => z)]; exact q, fun b u xs q => by rw [upd_ne (hm b _ q fun z => z)]; exact q, fun b ps q => ⟨#[], by rw [upd_ne (hm b _ q fun z => z), q]; simp⟩⟩
  by_cases hbe : b = e
  · subst hbe; exact heo
  · exact ⟨u, k b u hbe q⟩
theorem Un.mono (u : Un fs ex H H1 h h1) (hs : ∀ b ∈ fs, b ∈ fs') (hx : ∀ b ∈ ex, b ∈ ex') : Un fs' ex' H H1 h h1 :=
  ⟨fun b ob q n hb he => u.keep b ob q n (fun z => hb (hs b z)) fun z => he (hx b z), fun _ _ q n _ he => u.any q n fun z => he (hx _ z), fun b ob q n he => u.free b ob q n fun z => he (hx b z), fun b ob q he => u.there b ob q fun z => he (hx b z), u.tups, u.frzs, u.tbls⟩
end

/-! ### the heap without what is tracked -/
def trk (h : Heap) (H : Hp) : List Addr := (List.range h.objs.size).filter fun a => (H a).isSome
def hidT (h : Heap) (H : Hp) : Heap := PySem.W.hideAll h (trk h H)
theorem hidT_size (h : Heap) (H : Hp) : (hidT h H).objs.size = h.objs.size := PySem.W.hideAll_size _ _
theorem hidT_get {h : Heap} {H : Hp} {b : Addr} {o : Obj} (e : h.get? b = some o) (n : H b = none) : (hidT h H).get? b = some o :=
  PySem.W.hideAll_get _ e fun hm => by
    have q : (H b).isSome = true := (List.mem_filter.mp hm).2
    rw [n] at q; simp at q
theorem of_hidT {h : Heap} {H : Hp} {b : Addr} {o : Obj} (e : (hidT h H).get? b = some o) : h.get? b = some o ∧ H b = none := by
  have e' : h.get? b = some o := PySem.W.of_hideAll (trk h H) e
  refine ⟨e', ?_⟩
  cases q : H b with
  | none => rfl
  | some x =>
    have hm : b ∈ trk h H := List.mem_filter.mpr ⟨List.mem_range.mpr (Heap.lt_size e'), by simp [q]⟩
    have z : (hidT h H).get? b = none := PySem.W.hideAll_none (trk h H) hm
    rw [z] at e; cases e

/-! ### OpenK's ledger, filled with every new object but one -/
def allNews (g h : Heap) (L : Addr) : List (Addr × Obj) := (List.range h.objs.size).filterMap fun a => if a = L ∨ (g.get? a).isSome = true then none else (h.get? a).map fun o => (a, o)
def rest (g h : Heap) (L d : Addr) : List (Addr × Obj) := (allNews g h L).filter fun p => decide (p.1 ≠ d)
end L2

namespace L2
open PySem PySem.Spec PyProof.Rows

/-- the module's facts, over the base: the heap at the law's entry without what is tracked there -/
structure Mod (K : PySem.W.Frag) (mg : Str → Option Value) (base : Heap) : Prop where
  kin : K.In base
  glob : base.Ns mainGlobals mg
  blt : ∃ mb, base.Ns builtinsNs mb ∧ ∀ x : Str, x ≠ "__name__" → mb x = bootBuiltins x
  nolimit : base.NoLimit

/-- the context: a def's body (or a comprehension's block) running. base: fixed through the whole law; s₀, H₀: the entry; outer: the frames whose slots others may change (a def's callers); stack: all frames that run;
   ex: iterators that were made ahead of the entry and are walked here (a comprehension's); fn: the names whose cells were made at the entry (a def: all; a comprehension's block: its own); calm: not within an except suite; pn: pins that every state bears; xe: what is wanted of an exception that leaves the code -/
structure Cx where
  prog : Program
  w : World
  K : PySem.W.Frag
  mg : Str → Option Value
  base : Heap
  A : Around
  N : List Str
  s₀ : Shared
  H₀ : Hp
  env : Env
  outer : List Env
  stack : List Env
  ex : List Addr
  fn : Str → Bool
  calm : Bool
  pn : List (Addr × Obj)
  xe : Value → Shared → Prop
/-- the callers' frames -/
def frs (l : List Env) : List Addr := l.filterMap (·.frame)
abbrev Cx.fs (X : Cx) : List Addr := frs X.outer

def Vis (sc : Scope) (x : Str) : Prop := sc.names.lookup x = some .local ∨ sc.names.lookup x = some .cell ∨ sc.names.lookup x = some .free
def Loc (sc : Scope) (x : Str) : Prop := sc.names.lookup x = some .local ∨ sc.names.lookup x = some .cell
def Look (env : Env) (h : Heap) (m : Str → Option Value) (x : Str) (u : Value) : Prop :=
  (env.kindOf x = some .local ∧ m x = some u) ∨ ((env.kindOf x = some .cell ∨ env.kindOf x = some .free) ∧ ∃ c, env.cells.lookup x = some c ∧ h.IsCell c (some u))

structure Cx.Ok (X : Cx) : Prop where
  mod : Mod X.K X.mg X.base
  kind : X.env.scope.kind = .function
  glob : X.env.globals = mainGlobals
  blt : X.env.builtins = builtinsNs
  above : X.s₀.heap.objs.size ≤ X.env.locals
  inj : ∀ x y c, X.env.cells.lookup x = some c → X.env.cells.lookup y = some c → x = y
  has : ∀ x, (X.env.kindOf x = some .cell ∨ X.env.kindOf x = some .free) → ∃ c, X.env.cells.lookup x = some c
  cab : ∀ x c, X.fn x = true → X.env.cells.lookup x = some c → X.s₀.heap.objs.size ≤ c
  hd : X.calm = true → X.A.handled = none
  frames : X.A.frames = some X.stack
  stk : X.stack = X.outer ∨ (X.stack = X.env :: X.outer ∧ X.env.frame = some X.env.locals)
  exf : ∀ b ∈ X.ex, b ≠ X.env.locals ∧ ∀ x c, X.env.cells.lookup x = some c → c ≠ b
  bs : ∀ b o, X.base.get? b = some o → X.s₀.heap.get? b = some o ∧ X.H₀ b = none
  bsz : X.base.objs.size ≤ X.s₀.heap.objs.size
  noex : ∀ b o, X.base.get? b = some o → b ∉ X.ex
  exfs : ∀ b ∈ X.ex, b ∉ X.fs
  funs : X.s₀.heap.FunFrames X.base X.outer
  frf : ∀ b ∈ X.fs, X.H₀ b = none

structure Inv (X : Cx) (pins : List (Addr × Obj)) (σ : List (Option V)) (H : Hp) (s : Shared) : Prop where
  ok : X.Ok
  os : s.os = X.s₀.os
  bare : AllBare s.gens
  base : Un X.fs X.ex X.H₀ H X.s₀.heap s.heap
  loc : ∃ m, s.heap.Ns X.env.locals m ∧ ∀ (i : Nat) (x : Str) (v : V), X.N[i]? = some x → σ[i]? = some (some v) → Vis X.env.scope x → ∃ u, RelV v u ∧ Look X.env s.heap m x u
  cell : ∀ x c, X.env.cells.lookup x = some c → ∃ v, s.heap.IsCell c v
  free : H X.env.locals = none
  freeC : ∀ x c, X.env.cells.lookup x = some c → H c = none
  pin : ∀ p ∈ X.pn ++ pins, s.heap.get? p.1 = some p.2 ∧ H p.1 = none ∧ p.1 ≠ X.env.locals ∧ p.1 ∉ X.fs ∧ ∀ v, p.2.data ≠ .cell v
  hok : HOk X.prog X.w H s.heap
  len : σ.length = X.N.length

section
variable {X : Cx} {pins : List (Addr × Obj)} {σ : List (Option V)} {H H' : Hp} {s : Shared} {h' : Heap}

theorem Cx.Ok.nofr (ok : X.Ok) {b : Addr} {o : Obj} (e : X.base.get? b = some o) : b ∉ X.fs := fun hb => by
  have := (ok.funs.mem hb).1
  rw [e] at this; cases this
theorem Inv.bs (I : Inv X pins σ H s) : ∀ b o, X.base.get? b = some o → s.heap.get? b = some o ∧ H b = none := fun b o e =>
  ⟨I.base.keep b o (I.ok.bs b o e).1 (I.ok.bs b o e).2 (I.ok.nofr e) (I.ok.noex b o e), I.base.free b o (I.ok.bs b o e).1 (I.ok.bs b o e).2 (I.ok.noex b o e)⟩
theorem Inv.bk (I : Inv X pins σ H s) : ∀ b o, X.base.get? b = some o → s.heap.get? b = some o := fun b o e => (I.bs b o e).1
theorem Inv.mod (I : Inv X pins σ H s) : Mod X.K X.mg X.base := I.ok.mod
theorem Inv.kIn (I : Inv X pins σ H s) : X.K.In s.heap := I.ok.mod.kin.keeps I.bk
theorem Inv.nolimit (I : Inv X pins σ H s) : s.heap.NoLimit := I.ok.mod.nolimit.keeps I.bk
/-- the frame over the base: for OpenK's rules (K.In X.base is I.mod.kin) -/
theorem Inv.fr (I : Inv X pins σ H s) : ∃ m, Fr X.base X.env.locals s.heap m :=
  let ⟨m, hn, _⟩ := I.loc
  ⟨m, hn, I.bk, Nat.le_trans I.ok.bsz I.ok.above⟩
theorem Inv.lt (I : Inv X pins σ H s) : X.env.locals < s.heap.objs.size := let ⟨_, hn, _⟩ := I.loc; hn.lt
theorem Inv.sz (I : Inv X pins σ H s) : X.s₀.heap.objs.size ≤ s.heap.objs.size := Nat.le_trans I.ok.above (Nat.le_of_lt I.lt)
theorem Inv.nofs (I : Inv X pins σ H s) {a : Addr} (h : s.heap.objs.size ≤ a) : a ∉ X.fs := fun hb => by
  obtain ⟨_, o, ho, _⟩ := I.ok.funs.mem hb
  exact absurd (Nat.lt_of_lt_of_le (Heap.lt_size ho) (Nat.le_trans I.sz h)) (Nat.lt_irrefl _)
theorem Inv.cne (I : Inv X pins σ H s) : ∀ x c, X.env.cells.lookup x = some c → c ≠ X.env.locals := fun x c e z => by
  obtain ⟨v, o, ho, hd⟩ := I.cell x c e
  obtain ⟨m, ⟨o', es, ep, ho', hd', _⟩, _⟩ := I.loc
  rw [z, ho'] at ho; cases ho; rw [hd'] at hd; cases hd
theorem Inv.funs (I : Inv X pins σ H s) : s.heap.FunFrames X.base X.outer := by
  have all : ∀ (l : List Env), (∀ b ∈ frs l, b ∈ X.fs) → X.s₀.heap.FunFrames X.base l → s.heap.FunFrames X.base l := by
    intro l
    induction l with
    | nil => intro _ _; trivial
    | cons env r ih =>
      intro hs hl
      obtain ⟨hk, ⟨L, o, hf, hn, ho, hd⟩, hr⟩ := hl
      have hL : L ∈ X.fs := hs L (by unfold frs; rw [List.filterMap_cons, hf]; exact List.mem_cons_self)
      obtain ⟨sl, e⟩ := I.base.slot L o ho (I.ok.frf L hL) hL fun z => I.ok.exfs L z hL
      exact ⟨hk, ⟨L, _, hf, hn, e, hd⟩, ih (fun b hb => hs b (by unfold frs; rw [List.filterMap_cons, hf]; exact List.mem_cons_of_mem _ hb)) hr⟩
  exact all X.outer (fun _ hb => hb) I.ok.funs

/-- the frames that run, for a call -/
theorem Inv.stack (I : Inv X pins σ H s) : s.heap.FunFrames X.base X.stack := by
  rcases I.ok.stk with e | ⟨e, hf⟩
  · rw [e]; exact I.funs
  · rw [e]
    obtain ⟨m, hn, _⟩ := I.loc
    refine .cons (by rw [I.ok.kind]; decide) hf hn ?_ I.funs
    exact Heap.get?_none_of_le (Nat.le_trans I.ok.bsz I.ok.above)
theorem Inv.stkSub (I : Inv X pins σ H s) : ∀ b ∈ frs X.stack, b ∈ X.env.locals :: X.fs := fun b hb => by
  rcases I.ok.stk with e | ⟨e, hf⟩
  · rw [e] at hb; exact List.mem_cons_of_mem _ hb
  · rw [e] at hb
    unfold frs at hb
    rw [List.filterMap_cons, hf] at hb
    exact hb
theorem Inv.stkFree (I : Inv X pins σ H s) : ∀ b ∈ frs X.stack, H b = none := fun b hb => by
  rcases List.mem_cons.mp (I.stkSub b hb) with e | hb
  · rw [e]; exact I.free
  · obtain ⟨_, o, ho, _⟩ := I.ok.funs.mem hb
    exact I.base.free b o ho (I.ok.frf b hb) fun z => I.ok.exfs b z hb

/-- THE STEP: the untracked objects but the frame and the records at ch are kept (the callers' frames up to slots), the frame's map is kept, the new abstract heap is held -/
theorem Inv.step {g' : Array GenState} {t' : Nat} {d' : Drawn} {ch : List Addr} (I : Inv X pins σ H s)
    (hch : ∀ b ∈ ch, (b ∈ X.ex ∨ X.s₀.heap.objs.size ≤ b) ∧ b ≠ X.env.locals ∧ (∀ x c, X.env.cells.lookup x = some c → c ≠ b) ∧ ∀ p ∈ X.pn ++ pins, p.1 ≠ b)
    (keep : ∀ b o, b ≠ X.env.locals → b ∉ X.fs → b ∉ ch → s.heap.get? b = some o → H b = none → h'.get? b = some o)
    (slot : ∀ b o, b ≠ X.env.locals → b ∈ X.fs → b ∉ ch → s.heap.get? b = some o → H b = none → ∃ sl, h'.get? b = some { o with slots := sl }) (free : ∀ b o, b ∉ ch → s.heap.get? b = some o → H b = none → H' b = none)
    (there : ∀ b o, b ∉ ch → s.heap.get? b = some o → ∃ o', h'.get? b = some o')
    (tups : ∀ b xs, H b = some (.tup xs) → H' b = some (.tup xs)) (frzs : ∀ b o u, H b = some (.frz o u) → H' b = some (.frz o u)) (tbls : ∀ b ps, H b = some (.tbl ps) → ∃ more, H' b = some (.tbl (ps ++ more)))
    (ns : ∀ m, s.heap.Ns X.env.locals m → h'.Ns X.env.locals m) (hok : HOk X.prog X.w H' h') (hg : AllBare g') :
    Inv X pins σ H' { s with heap := h', gens := g', drawn := d', toks := t' } := by
  have neL : ∀ b o, X.s₀.heap.get? b = some o → b ≠ X.env.locals := fun b o e => Nat.ne_of_lt (Nat.lt_of_lt_of_le (Heap.lt_size e) I.ok.above)
  have neC : ∀ b o, X.s₀.heap.get? b = some o → b ∉ X.ex → b ∉ ch := fun b o e hx hb => by
    rcases (hch b hb).1 with z | z
    · exact hx z
    · exact absurd (Nat.lt_of_lt_of_le (Heap.lt_size e) z) (Nat.lt_irrefl _)
  have cellK : ∀ x c, X.env.cells.lookup x = some c → ∀ v, s.heap.IsCell c v → h'.IsCell c v := fun x c e v ⟨o, ho, hd⟩ => by
    have nch : c ∉ ch := fun z => (hch c z).2.2.1 x c e rfl
    by_cases hc : c ∈ X.fs
    · obtain ⟨sl, q⟩ := slot c o (I.cne x c e) hc nch ho (I.freeC x c e)
      exact ⟨_, q, hd⟩
    · exact ⟨o, keep c o (I.cne x c e) hc nch ho (I.freeC x c e), hd⟩
  refine ⟨I.ok, I.os, hg, ⟨fun b o e n hb hx => ?_, fun b o e n hb hx => ?_, fun b o e n hx => ?_, fun b o e hx => ?_, fun b xs e => tups b xs (I.base.tups b xs e), fun b o xs e => frzs b o xs (I.base.frzs b o xs e), fun b ps e => ?_⟩, ?_, fun x c e => ?_, ?_, fun x c e => ?_, fun p hp => ?_, hok, I.len⟩
  · exact keep b o (neL b o e) hb (neC b o e hx) (I.base.keep b o e n hb hx) (I.base.free b o e n hx)
  · obtain ⟨sl, e1⟩ := I.base.slot b o e n hb hx
    obtain ⟨sl', e2⟩ := slot b _ (neL b o e) hb (neC b o e hx) e1 (I.base.free b o e n hx)
    exact ⟨sl', e2⟩
  · obtain ⟨o', e1⟩ := I.base.there b o e hx
    exact free b o' (neC b o e hx) e1 (I.base.free b o e n hx)
  · obtain ⟨o', e1⟩ := I.base.there b o e hx
    exact there b o' (neC b o e hx) e1
  · obtain ⟨m1, e1⟩ := I.base.tbls b ps e
    obtain ⟨m2, e2⟩ := tbls b _ e1
    exact ⟨m1 ++ m2, by rw [e2, Array.append_assoc]⟩
  · obtain ⟨m, hn, hl⟩ := I.loc
    refine ⟨m, ns m hn, fun i x v e1 e2 e3 => ?_⟩
    obtain ⟨u, r, l⟩ := hl i x v e1 e2 e3
    refine ⟨u, r, ?_⟩
    rcases l with l | ⟨k, c, e, z⟩
    · exact .inl l
    · exact .inr ⟨k, c, e, cellK x c e _ z⟩
  · obtain ⟨v, z⟩ := I.cell x c e
    exact ⟨v, cellK x c e v z⟩
  · obtain ⟨m, ⟨o, _, _, ho, _⟩, _⟩ := I.loc
    exact free _ o (fun z => (hch _ z).2.1 rfl) ho I.free
  · obtain ⟨v, o, ho, hd⟩ := I.cell x c e
    exact free c o (fun z => (hch c z).2.2.1 x c e rfl) ho (I.freeC x c e)
  · obtain ⟨e, n, ne, nf, d⟩ := I.pin p hp
    have nch : p.1 ∉ ch := fun z => (hch p.1 z).2.2.2 p hp rfl
    exact ⟨keep p.1 p.2 ne nf nch e n, free p.1 p.2 nch e n, ne, nf, d⟩
/-- .. where the frame's own object is kept too -/
theorem Inv.un {t' : Nat} (I : Inv X pins σ H s) (u : Un X.fs [] H H' s.heap h') (hok : HOk X.prog X.w H' h') : Inv X pins σ H' { s with heap := h', toks := t' } := by
  obtain ⟨m, ⟨o, es, ep, ho, r⟩, _⟩ := id I.loc
  obtain ⟨sl, hL⟩ := u.any ho I.free (by simp)
  exact I.step (g' := s.gens) (d' := s.drawn) (ch := []) (fun _ z => nomatch z) (fun b o _ hb _ e n => u.keep b o e n hb (by simp)) (fun b o _ hb _ e n => u.slot b o e n hb (by simp)) (fun b o _ e n => u.free b o e n (by simp)) (fun b o _ e => u.there b o e (by simp)) u.tups u.frzs u.tbls (fun m' hm => by
    obtain ⟨o', es', ep', ho', r'⟩ := hm
    rw [ho] at ho'; cases ho'
    exact ⟨_, es', ep', hL, r'⟩) hok I.bare
/-- behind a call (or a comprehension's block): the slots of this frame may have changed too, the records at ch may have turned -/
theorem Inv.call {g' : Array GenState} {t' : Nat} {d' : Drawn} {ch : List Addr} (I : Inv X pins σ H s) (u : Un (frs X.stack) ch H H' s.heap h') (hok : HOk X.prog X.w H' h') (hg : AllBare g')
    (hch : ∀ b ∈ ch, (b ∈ X.ex ∨ X.s₀.heap.objs.size ≤ b) ∧ b ≠ X.env.locals ∧ (∀ x c, X.env.cells.lookup x = some c → c ≠ b) ∧ ∀ p ∈ X.pn ++ pins, p.1 ≠ b) :
    Inv X pins σ H' { s with heap := h', gens := g', drawn := d', toks := t' } := by
  obtain ⟨m, ⟨o, es, ep, ho, r⟩, _⟩ := id I.loc
  obtain ⟨sl, hL⟩ := u.any ho I.free fun z => (hch _ z).2.1 rfl
  exact I.step (ch := ch) hch (fun b o hL hb hc e n => u.keep b o e n (fun z => (List.mem_cons.mp (I.stkSub b z)).elim hL hb) hc) (fun b o _ _ hc e n => u.any e n hc) (fun b o hc e n => u.free b o e n hc) (fun b o hc e => u.there b o e hc) u.tups u.frzs u.tbls (fun m' hm => by
    obtain ⟨o', es', ep', ho', r'⟩ := hm
    rw [ho] at ho'; cases ho'
    exact ⟨_, es', ep', hL, r'⟩) hok hg
/-- an untracked record of ours (an iterator) has turned -/
theorem Inv.turned {t' : Nat} {it : Addr} (I : Inv X pins σ H s) (k : ∀ b o, b ≠ it → s.heap.get? b = some o → h'.get? b = some o) (hn : H it = none) (hL : it ≠ X.env.locals)
    (h1 : it ∈ X.ex ∨ X.s₀.heap.objs.size ≤ it) (h2 : ∀ x c, X.env.cells.lookup x = some c → c ≠ it) (h3 : ∀ p ∈ X.pn ++ pins, p.1 ≠ it) : Inv X pins σ H { s with heap := h', toks := t' } := by
  have nit : ∀ b u, H b = some u → b ≠ it := fun b u e z => by rw [z, hn] at e; cases e
  refine I.step (g' := s.gens) (d' := s.drawn) (ch := [it]) (fun b hb => ?_) (fun b o _ _ hc e _ => k b o (fun z => hc (by simp [z])) e) (fun b o _ _ hc e _ => ⟨o.slots, k b o (fun z => hc (by simp [z])) e⟩) (fun _ _ _ _ n => n)
    (fun b o hc e => ⟨o, k b o (fun z => hc (by simp [z])) e⟩) (fun _ _ e => e) (fun _ _ _ e => e) (fun b ps e => ⟨#[], by rw [e]; simp⟩) (fun m hm => ?_) (fun b u e => ?_) I.bare
  · have e : b = it := by simpa using hb
    subst e
    exact ⟨h1, hL, h2, h3⟩
  · obtain ⟨o, es, ep, ho, r⟩ := hm
    exact ⟨o, es, ep, k _ o (Ne.symm hL) ho, r⟩
  · refine (I.hok b u e).stay (fun c v hc q => k c v ?_ q) (fun _ q => q) fun _ _ q => q
    rcases hc with z | z
    · rw [z]; exact nit b u e
    · exact nit c _ z
theorem Inv.tok (I : Inv X pins σ H s) (t : Nat) : Inv X pins σ H { s with toks := t } := I.un (h' := s.heap) (t' := t) Un.refl I.hok
/-- all objects kept -/
theorem Inv.kept {t' : Nat} (I : Inv X pins σ H s) (k : ∀ b u, s.heap.get? b = some u → h'.get? b = some u) : Inv X pins σ H { s with heap := h', toks := t' } := I.un (Un.kept k) (I.hok.kept k)
/-- a new object laid and tracked -/
theorem Inv.laid {a : Addr} {o : HO} {t' : Nat} (I : Inv X pins σ H s) (k : ∀ b u, s.heap.get? b = some u → h'.get? b = some u) (hp : s.heap.objs.size ≤ a) (new : ObjOk X.prog X.w (upd H a o) h' a o) :
    Inv X pins σ (upd H a o) { s with heap := h', toks := t' } := I.un (Un.laid k hp (I.hok.fresh hp)) (I.hok.laid k hp new)
/-- an object written -/
theorem Inv.write {x e : Addr} {o : HO} {t' : Nat} (I : Inv X pins σ H s) (mu : Mut (H x)) (he : e = x ∨ H e = some (.own x)) (k : ∀ b u, b ≠ e → s.heap.get? b = some u → h'.get? b = some u) (heo : ∃ u, h'.get? e = some u)
    (new : ObjOk X.prog X.w (upd H x o) h' x o) : Inv X pins σ (upd H x o) { s with heap := h', toks := t' } := I.un (Un.write mu he k heo) (I.hok.write mu he k heo new)
theorem Inv.pins_of {pins' : List (Addr × Obj)} (I : Inv X pins σ H s) (h : ∀ p ∈ pins', s.heap.get? p.1 = some p.2 ∧ H p.1 = none ∧ p.1 ≠ X.env.locals ∧ p.1 ∉ X.fs ∧ ∀ v, p.2.data ≠ .cell v) : Inv X pins' σ H s :=
  ⟨I.ok, I.os, I.bare, I.base, I.loc, I.cell, I.free, I.freeC, fun p hp => (List.mem_append.mp hp).elim (fun z => I.pin p (List.mem_append_left _ z)) (h p), I.hok, I.len⟩

theorem nodup_ix {N : List Str} (hN : N.Nodup) {i j : Nat} {x : Str} (a : N[i]? = some x) (b : N[j]? = some x) : i = j := by
  obtain ⟨h1, e1⟩ := List.getElem?_eq_some_iff.mp a
  obtain ⟨h2, e2⟩ := List.getElem?_eq_some_iff.mp b
  exact (List.getElem_inj hN).mp (e1.trans e2.symm)

/-- a name is stored; what changed -/
theorem store_ok2 {M : Model} {A : Around} {E : Value → Shared → Prop} {i : Nat} {x : Str} {v : V} {u : Value} {Q : Unit → Shared → Prop} (I : Inv X pins σ H s) (hN : X.N.Nodup) (hi : X.N[i]? = some x) (hx : Loc X.env.scope x) (r : RelV v u)
    (h : ∀ s', Inv X pins (σ.set i (some v)) H s' → (∃ a, Heap.SameBut a s.heap s'.heap ∧ (a = X.env.locals ∨ X.env.cells.lookup x = some a)) → Q () s') (hf : X.fn x = true ∨ X.env.scope.names.lookup x = some .local := by first | exact .inl rfl | exact .inr rfl | assumption) : wpAny M A (storeName X.env x u) Q E s := by
  obtain ⟨m, hn, hl⟩ := id I.loc
  have hcls : (X.env.scope.kind == .class || (X.env.scope.kind == .module && X.env.locals != X.env.globals)) = false := by rw [I.ok.kind]; rfl
  have hiσ : i < σ.length := by rw [I.len]; exact (List.getElem?_eq_some_iff.mp hi).1
  have cne := I.cne
  have tracked : ∀ {a : Addr} {h' : Heap}, (∃ o, s.heap.get? a = some o ∧ H a = none) → Heap.SameBut a s.heap h' → HOk X.prog X.w H h' := fun {a h'} ha hs b ob e => by
    obtain ⟨_, _, hfree⟩ := ha
    refine (I.hok b ob e).stay (fun c w' hc q => (hs.2 c ?_).trans q) (fun _ q => q) fun _ _ q => q
    rintro rfl
    rcases hc with rfl | hc
    · rw [hfree] at e; cases e
    · rw [hfree] at hc; cases hc
  rcases hx with hk | hk
  · refine wpAny_storeName_local hk hn (fun h' hn' hs => ?_) hcls
    obtain ⟨oL, _, _, hoL, _⟩ := id hn
    refine h _ ⟨I.ok, I.os, I.bare, ⟨fun b o e n hb hx => ?_, fun b o e n hb hx => ?_, I.base.free, fun b o e hx => ?_, I.base.tups, I.base.frzs, I.base.tbls⟩, ⟨_, hn', fun j y v' e1 e2 e3 => ?_⟩, fun y c e => ?_, I.free, I.freeC, fun p hp => ?_, tracked ⟨oL, hoL, I.free⟩ hs, by simpa using I.len⟩ ⟨_, hs, .inl rfl⟩
    · exact (hs.2 b (Nat.ne_of_lt (Nat.lt_of_lt_of_le (Heap.lt_size e) I.ok.above))).trans (I.base.keep b o e n hb hx)
    · obtain ⟨sl, e1⟩ := I.base.slot b o e n hb hx
      exact ⟨sl, (hs.2 b (Nat.ne_of_lt (Nat.lt_of_lt_of_le (Heap.lt_size e) I.ok.above))).trans e1⟩
    · obtain ⟨o', e1⟩ := I.base.there b o e hx
      exact ⟨o', (hs.2 b (Nat.ne_of_lt (Nat.lt_of_lt_of_le (Heap.lt_size e) I.ok.above))).trans e1⟩
    · by_cases hj : j = i
      · subst hj
        rw [hi] at e1; cases e1
        rw [List.getElem?_set_self hiσ] at e2
        cases e2
        exact ⟨u, r, .inl ⟨hk, by simp⟩⟩
      · rw [List.getElem?_set_ne (Ne.symm hj)] at e2
        obtain ⟨u', r', q⟩ := hl j y v' e1 e2 e3
        refine ⟨u', r', ?_⟩
        rcases q with ⟨k, e⟩ | ⟨k, c, e, z⟩
        · refine .inl ⟨k, ?_⟩
          have : y ≠ x := fun e => hj (nodup_ix hN e1 (e ▸ hi))
          simp [this, e]
        · exact .inr ⟨k, c, e, z.sameBut hs (cne y c e)⟩
    · obtain ⟨w', z⟩ := I.cell y c e
      exact ⟨w', z.sameBut hs (cne y c e)⟩
    · obtain ⟨e, n, ne, nf, d⟩ := I.pin p hp
      exact ⟨(hs.2 p.1 ne).trans e, n, ne, nf, d⟩
  · have hfn : X.fn x = true := by
      rcases hf with z | z
      · exact z
      · rw [z] at hk; cases hk
    obtain ⟨c, hc⟩ := I.ok.has x (.inl hk)
    obtain ⟨w', z⟩ := I.cell x c hc
    refine wpAny_storeName_cell I.ok.kind hk hc z (fun h' hc' hs => ?_)
    obtain ⟨oc, hoc, hocd⟩ := id z
    refine h { s with heap := h' } ⟨I.ok, I.os, I.bare, ⟨fun b o e n hb hx => ?_, fun b o e n hb hx => ?_, I.base.free, fun b o e hx => ?_, I.base.tups, I.base.frzs, I.base.tbls⟩, ⟨m, hn.sameBut hs (Ne.symm (cne x c hc)), fun j y v' e1 e2 e3 => ?_⟩, fun y c' e => ?_, I.free, I.freeC, fun p hp => ?_, tracked ⟨oc, hoc, I.freeC x c hc⟩ hs, by simpa using I.len⟩ ⟨c, hs, .inr hc⟩
    · exact (hs.2 b (Nat.ne_of_lt (Nat.lt_of_lt_of_le (Heap.lt_size e) (I.ok.cab x c hfn hc)))).trans (I.base.keep b o e n hb hx)
    · obtain ⟨sl, e1⟩ := I.base.slot b o e n hb hx
      exact ⟨sl, (hs.2 b (Nat.ne_of_lt (Nat.lt_of_lt_of_le (Heap.lt_size e) (I.ok.cab x c hfn hc)))).trans e1⟩
    · obtain ⟨o', e1⟩ := I.base.there b o e hx
      exact ⟨o', (hs.2 b (Nat.ne_of_lt (Nat.lt_of_lt_of_le (Heap.lt_size e) (I.ok.cab x c hfn hc)))).trans e1⟩
    · by_cases hj : j = i
      · subst hj
        rw [hi] at e1; cases e1
        rw [List.getElem?_set_self hiσ] at e2
        cases e2
        exact ⟨u, r, .inr ⟨.inl hk, c, hc, hc'⟩⟩
      · rw [List.getElem?_set_ne (Ne.symm hj)] at e2
        obtain ⟨u', r', q⟩ := hl j y v' e1 e2 e3
        refine ⟨u', r', ?_⟩
        rcases q with q | ⟨k, c', e, z'⟩
        · exact .inl q
        · refine .inr ⟨k, c', e, z'.sameBut hs ?_⟩
          rintro rfl
          exact hj (nodup_ix hN e1 (I.ok.inj _ _ _ e hc ▸ hi))
    · by_cases hcc : c' = c
      · subst hcc; exact ⟨_, hc'⟩
      · obtain ⟨w2, z2⟩ := I.cell y c' e
        exact ⟨w2, z2.sameBut hs hcc⟩
    · obtain ⟨e, n, ne, nf, d⟩ := I.pin p hp
      refine ⟨(hs.2 p.1 ?_).trans e, n, ne, nf, d⟩
      intro q
      rw [q, hoc] at e
      have q' : oc = p.2 := Option.some.inj e
      exact d w' (by rw [← q']; exact hocd)
theorem store_ok {M : Model} {A : Around} {E : Value → Shared → Prop} {i : Nat} {x : Str} {v : V} {u : Value} {Q : Unit → Shared → Prop} (I : Inv X pins σ H s) (hN : X.N.Nodup) (hi : X.N[i]? = some x) (hx : Loc X.env.scope x) (r : RelV v u)
    (h : ∀ s', Inv X pins (σ.set i (some v)) H s' → Q () s') (hf : X.fn x = true ∨ X.env.scope.names.lookup x = some .local := by first | exact .inl rfl | exact .inr rfl | assumption) : wpAny M A (storeName X.env x u) Q E s :=
  store_ok2 I hN hi hx r (fun s' I' _ => h s' I') hf
/-- behind a call or a block, the state as it is -/
theorem Inv.call' {s' : Shared} {ch : List Addr} (I : Inv X pins σ H s) (ho : s'.os = s.os) (u : Un (frs X.stack) ch H H' s.heap s'.heap) (hok : HOk X.prog X.w H' s'.heap) (hg : AllBare s'.gens)
    (hch : ∀ b ∈ ch, (b ∈ X.ex ∨ X.s₀.heap.objs.size ≤ b) ∧ b ≠ X.env.locals ∧ (∀ x c, X.env.cells.lookup x = some c → c ≠ b) ∧ ∀ p ∈ X.pn ++ pins, p.1 ≠ b) : Inv X pins σ H' s' := by
  obtain ⟨h', g', d', t', o'⟩ := s'
  have e : o' = s.os := ho
  subst e
  exact I.call (g' := g') (t' := t') (d' := d') u hok hg hch
end

/-! ### the judgements -/
/-- an exception: its class, its own dict's address (where it has one), the abstract heap behind it -/
abbrev XK := Value → Option Addr → Hp → Prop
abbrev St := List (Option V)
abbrev VK := V → Hp → Prop
/-- an expression's reading; a test's; an argument list's -/
abbrev TE := St → Hp → VK → Prop
abbrev TT := St → Hp → (Bool → Hp → Prop) → Prop
abbrev TA := St → Hp → (List V → Hp → Prop) → Prop
/-- what is wanted behind a statement -/
structure Ends where
  nx : St → Hp → Prop
  rt : VK
  bk : St → Hp → Prop := fun _ _ => False
  ct : St → Hp → Prop := fun _ _ => False
abbrev TS := Ends → St → Hp → Prop

def EP (X : Cx) (pins : List (Addr × Obj)) (σ : St) (Q : VK) (u : Value) (s' : Shared) : Prop := ∃ v H', Inv X pins σ H' s' ∧ RelV v u ∧ Q v H'
def TP (X : Cx) (pins : List (Addr × Obj)) (σ : St) (Q : Bool → Hp → Prop) (b : Bool) (s' : Shared) : Prop := ∃ H', Inv X pins σ H' s' ∧ Q b H'
def AP (X : Cx) (pins : List (Addr × Obj)) (σ : St) (Q : List V → Hp → Prop) (us : List Value) (s' : Shared) : Prop := ∃ vs H', Inv X pins σ H' s' ∧ Vals vs us ∧ Q vs H'
def SP (X : Cx) (pins : List (Addr × Obj)) (D : Ends) (f : Flow) (s' : Shared) : Prop :=
  match f with
  | .next => ∃ σ' H', Inv X pins σ' H' s' ∧ D.nx σ' H'
  | .brk => ∃ σ' H', Inv X pins σ' H' s' ∧ D.bk σ' H'
  | .cont => ∃ σ' H', Inv X pins σ' H' s' ∧ D.ct σ' H'
  | .ret u => ∃ v σ' H', Inv X pins σ' H' s' ∧ RelV v u ∧ D.rt v H'

def PE (X : Cx) (e : Expr) (t : TE) : Prop :=
  ∀ (pins : List (Addr × Obj)) (s : Shared) (σ : St) (H : Hp) (Q : VK), Inv X pins σ H s → t σ H Q → wpAny (model X.prog X.w) X.A (eval e X.env) (EP X pins σ Q) X.xe s
def PT (X : Cx) (e : Expr) (t : TT) : Prop :=
  ∀ (pins : List (Addr × Obj)) (s : Shared) (σ : St) (H : Hp) (Q : Bool → Hp → Prop), Inv X pins σ H s → t σ H Q → wpAny (model X.prog X.w) X.A (isTrue e X.env (eval e X.env)) (TP X pins σ Q) X.xe s
/-- a test whatever its 'whole' is (and, or) -/
def PW (X : Cx) (e : Expr) (t : TT) : Prop :=
  ∀ (whole : Sem Value) (pins : List (Addr × Obj)) (s : Shared) (σ : St) (H : Hp) (Q : Bool → Hp → Prop), Inv X pins σ H s → t σ H Q → wpAny (model X.prog X.w) X.A (isTrue e X.env whole) (TP X pins σ Q) X.xe s
theorem PW.pt {X : Cx} {e : Expr} {t : TT} (h : PW X e t) : PT X e t := h _
/-- an argument list (no star), from the left -/
def PA (X : Cx) (es : List Expr) (t : TA) : Prop :=
  ∀ (pos : Pos) (pins : List (Addr × Obj)) (s : Shared) (σ : St) (H : Hp) (Q : List V → Hp → Prop), Inv X pins σ H s → t σ H Q → wpAny (model X.prog X.w) X.A (spliced (backTo pos (starEach es X.env))) (AP X pins σ Q) X.xe s
def PS (X : Cx) (st : Stmt) (t : TS) : Prop :=
  ∀ (pins : List (Addr × Obj)) (s : Shared) (σ : St) (H : Hp) (D : Ends), Inv X pins σ H s → t D σ H → wpAny (model X.prog X.w) X.A (exec st X.env) (SP X pins D) X.xe s
def PSs (X : Cx) (st : List Stmt) (t : TS) : Prop :=
  ∀ (pins : List (Addr × Obj)) (s : Shared) (σ : St) (H : Hp) (D : Ends), Inv X pins σ H s → t D σ H → wpAny (model X.prog X.w) X.A (execs st X.env) (SP X pins D) X.xe s
/-- weaken the end -/
theorem thn {α : Type} {t : Sem α} {Q Q' : α → Shared → Prop} {M : Model} {A : Around} {E : Value → Shared → Prop} {s : Shared} (h : wpAny M A t Q E s) (hQ : ∀ a s, Q a s → Q' a s) : wpAny M A t Q' E s := wpAny_mono h hQ fun _ _ x => x
end L2

namespace L2
open PySem PySem.Spec PyProof.Rows
section
variable {X : Cx}

/-! ### names and constants -/
def tVar (i : Nat) : TE := fun σ H Q => ∃ v, σ[i]? = some (some v) ∧ Q v H
def tC (v : V) : TE := fun _ H Q => Q v H
theorem pe_var {i : Nat} {x : Str} {pos : Pos} (hN : X.N[i]? = some x) (hv : Vis X.env.scope x) (hd : (x == ("__debug__" : Str)) = false := by decide) (hcd : (x == ("__classdict__" : Str)) = false := by decide) : PE X (.Name x pos) (tVar i) := by
  intro pins s σ H Q I h
  obtain ⟨v, e, h⟩ := h
  obtain ⟨m, hn, hl⟩ := I.loc
  obtain ⟨u, r, l⟩ := hl i x v hN e hv
  have fin : EP X pins σ Q u s := ⟨v, H, I, r, h⟩
  rcases l with ⟨hk, hm⟩ | ⟨hk, c, hc, hcell⟩
  · exact wpAny_Name (wpAny_loadName_local I.ok.kind hk hn hm fin) hd
  · rcases hk with hk | hk
    · exact wpAny_Name (wpAny_loadName_cell I.ok.kind hk hc hcell fin) hd
    · exact wpAny_Name (wpAny_loadName_free I.ok.kind hk hc hcell fin hcd) hd
theorem pe_int {i j pos} : PE X (.Constant (.int i) j pos) (tC (.int i)) := fun _ _ _ H _ I h => wpAny_Constant_int ⟨.int i, H, I.tok _, ⟨_, rfl⟩, h⟩
theorem pe_bl {b j pos} : PE X (.Constant (.bool b) j pos) (tC (.bl b)) := fun _ _ _ H _ I h => Constant_bool ⟨.bl b, H, I, rfl, h⟩
theorem pe_non {j pos} : PE X (.Constant .none j pos) (tC .non) := fun _ _ _ H _ I h => Constant_none ⟨.non, H, I, rfl, h⟩
theorem pe_str {x j pos} : PE X (.Constant (.str x) j pos) (tC (.str x)) := fun _ _ _ H _ I h => Calls.Constant_str ⟨.str x, H, I.tok _, ⟨_, rfl⟩, h⟩

/-- a global name of the def -/
def Gl (X : Cx) (x : Str) : Prop := X.env.kindOf x = some .globalImplicit
theorem ld_glob {E : Value → Shared → Prop} {pins : List (Addr × Obj)} {s : Shared} {σ : St} {H : Hp} {x : Str} {u : Value} {pos : Pos} {Q : Value → Shared → Prop} (I : Inv X pins σ H s) (hg : Gl X x) (hm : X.mg x = some u) (h : Q u s)
    (hd : (x == ("__debug__" : Str)) = false := by decide) : wpAny (model X.prog X.w) X.A (eval (.Name x pos) X.env) Q E s :=
  Calls.Name_function_global I.ok.kind hg (Calls.loadGlobal_global (by rw [I.ok.glob]; exact I.mod.glob.keeps I.bk) hm h) hd
theorem ld_blt {E : Value → Shared → Prop} {pins : List (Addr × Obj)} {s : Shared} {σ : St} {H : Hp} {x : Str} {u : Value} {pos : Pos} {Q : Value → Shared → Prop} (I : Inv X pins σ H s) (hg : Gl X x) (hm : X.mg x = none) (hv : bootBuiltins x = some u) (h : Q u s)
    (hn : x ≠ "__name__" := by decide) (hd : (x == ("__debug__" : Str)) = false := by decide) : wpAny (model X.prog X.w) X.A (eval (.Name x pos) X.env) Q E s := by
  obtain ⟨mb, h1, h2⟩ := I.mod.blt
  exact Calls.Name_function_global I.ok.kind hg (Calls.loadGlobal_builtin (by rw [I.ok.glob]; exact I.mod.glob.keeps I.bk) hm (by rw [I.ok.blt]; exact h1.keeps I.bk) ((h2 x hn).trans hv) h) hd
/-- a module's constant, a class, a function, as a value -/
theorem pe_glob {x : Str} {v : V} {u : Value} {pos : Pos} (hg : Gl X x) (hm : X.mg x = some u) (r : RelV v u) (hd : (x == ("__debug__" : Str)) = false := by decide) : PE X (.Name x pos) (tC v) :=
  fun _ _ _ H _ I h => ld_glob I hg hm ⟨v, H, I, r, h⟩ hd
theorem pe_bltn {x : Str} {v : V} {u : Value} {pos : Pos} (hg : Gl X x) (hm : X.mg x = none) (hv : bootBuiltins x = some u) (r : RelV v u) (hn : x ≠ "__name__" := by decide) (hd : (x == ("__debug__" : Str)) = false := by decide) : PE X (.Name x pos) (tC v) :=
  fun _ _ _ H _ I h => ld_blt I hg hm hv ⟨v, H, I, r, h⟩ hn hd

variable {a b : Expr} {ta tb : TE} {pos : Pos}
/-! ### comparisons -/
def PC (X : Cx) (op : CmpOp) (a b : Expr) (t : TE) : Prop :=
  ∀ (pins : List (Addr × Obj)) (s : Shared) (σ : St) (H : Hp) (Q : VK), Inv X pins σ H s → t σ H Q →
    wpAny (model X.prog X.w) X.A (eval a X.env) (fun v s₁ => wpAny (model X.prog X.w) X.A (eval b X.env) (fun u s₂ => wpAny (model X.prog X.w) X.A (compareOp op v u) (EP X pins σ Q) X.xe s₂) X.xe s₁) X.xe s
theorem nobehind (b : Expr) {op : CmpOp} (h : op ≠ .In) (h2 : op ≠ .NotIn) : behindInMarks op b = false := by
  have e1 : (op == CmpOp.In) = false := by cases op <;> first | rfl | exact absurd rfl h
  have e2 : (op == CmpOp.NotIn) = false := by cases op <;> first | rfl | exact absurd rfl h2
  cases b <;> simp [behindInMarks, e1, e2]
/-- a comparison as a value, as a test -/
def tB (t : TE) : TT := fun σ H Q => t σ H fun x H1 => ∃ c, x = .bl c ∧ Q c H1
theorem pt_cmp {op : CmpOp} {t : TE} (h : PC X op a b t) (h1 : behindInMarks op b = false := by first | exact nobehind _ (by decide) (by decide) | rfl) : PT X (.Compare a [op] [b] pos) (tB t) := by
  intro pins s σ H Q I hw
  refine wpAny_isTrue_Compare1 (thn (h pins s σ H _ I hw) fun v s1 h1 => thn h1 fun u s2 h2 => thn h2 fun c s3 ⟨x, H1, I1, r1, q1⟩ => ?_) h1
  obtain ⟨d, rfl, q⟩ := q1
  cases r1
  exact wpAny_truthy_bool ⟨H1, I1, q⟩
/-- an expression whose value is a bool, as a test -/
theorem pt_val {e : Expr} {t : TE} (h : PE X e t) (he : ∀ whole, isTrue e X.env whole = (do let v ← whole; standAt e.pos; holding [v] (truthy v)) := by intro _; rfl) : PT X e (tB t) := by
  intro pins s σ H Q I hw
  refine isTrue_plain (thn (h pins s σ H _ I hw) fun v s1 ⟨x, H1, I1, r1, q1⟩ => ?_) (he _)
  obtain ⟨d, rfl, q⟩ := q1
  cases r1
  exact wpAny_truthy_bool ⟨H1, I1, q⟩

/-! ### and, or, not -/
variable {tA tB' : TT} {rest : List Expr}
def tAnd (t u : TT) : TT := fun σ H Q => t σ H fun c H1 => if c = true then u σ H1 Q else Q false H1
def tOr (t u : TT) : TT := fun σ H Q => t σ H fun c H1 => if c = true then Q true H1 else u σ H1 Q
def tNot (t : TT) : TT := fun σ H Q => t σ H fun c H1 => Q (!c) H1
theorem pw_and1 (ha : PT X a tA) : PW X (.BoolOp .And [a] pos) tA := by
  intro wh pins s σ H Q I h
  refine isTrue_and (thn (ha pins s σ H Q I h) fun c s1 e => ?_)
  cases c with
  | true => exact isTrue_and_nil e
  | false => exact e
theorem pw_or1 (ha : PT X a tA) : PW X (.BoolOp .Or [a] pos) tA := by
  intro wh pins s σ H Q I h
  refine isTrue_or (thn (ha pins s σ H Q I h) fun c s1 e => ?_)
  cases c with
  | false => exact isTrue_or_nil e
  | true => exact e
theorem pw_and (ha : PT X a tA) (hb : PW X (.BoolOp .And (b :: rest) pos) tB') : PW X (.BoolOp .And (a :: b :: rest) pos) (tAnd tA tB') := by
  intro wh pins s σ H Q I h
  refine isTrue_and (thn (ha pins s σ H _ I h) fun c s1 ⟨H1, I1, q1⟩ => ?_)
  cases c with
  | true => exact hb wh pins s1 σ H1 Q I1 q1
  | false => exact ⟨H1, I1, q1⟩
theorem pw_or (ha : PT X a tA) (hb : PW X (.BoolOp .Or (b :: rest) pos) tB') : PW X (.BoolOp .Or (a :: b :: rest) pos) (tOr tA tB') := by
  intro wh pins s σ H Q I h
  refine isTrue_or (thn (ha pins s σ H _ I h) fun c s1 ⟨H1, I1, q1⟩ => ?_)
  cases c with
  | true => exact ⟨H1, I1, q1⟩
  | false => exact hb wh pins s1 σ H1 Q I1 q1
theorem pt_not (ha : PT X a tA) : PT X (.UnaryOp .Not a pos) (tNot tA) := by
  intro pins s σ H Q I h
  exact isTrue_not (ha pins s σ H (fun c H1 => Q (!c) H1) I h)
/-- .. as values (bools) -/
def tAndV (ta tb : TE) : TE := fun σ H Q => ta σ H fun x H1 => ∃ c, x = .bl c ∧ if c = true then tb σ H1 Q else Q (.bl false) H1
def tNotV (ta : TE) : TE := fun σ H Q => ta σ H fun x H1 => ∃ c, x = .bl c ∧ Q (.bl (!c)) H1
theorem pe_one {op} {t : TE} (h : PE X a t) : PE X (.BoolOp op [a] pos) t := fun pins s σ H Q I hw => BoolOp_one (h pins s σ H Q I hw)
theorem pe_and (ha : PE X a ta) (hb : PE X (.BoolOp .And (b :: rest) pos) tb) : PE X (.BoolOp .And (a :: b :: rest) pos) (tAndV ta tb) := by
  intro pins s σ H Q I h
  refine BoolOp_and (thn (ha pins s σ H _ I h) fun v s1 ⟨x, H1, I1, r1, q1⟩ => ?_)
  obtain ⟨c, rfl, q1⟩ := q1
  cases r1
  refine wpAny_truthy_bool ?_
  cases c with
  | true => exact hb pins s1 σ H1 Q I1 q1
  | false => exact ⟨.bl false, H1, I1, rfl, q1⟩
theorem pe_not (ha : PE X a ta) : PE X (.UnaryOp .Not a pos) (tNotV ta) := by
  intro pins s σ H Q I h
  refine UnaryOp_ (thn (ha pins s σ H _ I h) fun v s1 ⟨x, H1, I1, r1, q1⟩ => ?_)
  obtain ⟨c, rfl, q1⟩ := q1
  cases r1
  exact not_of (wpAny_truthy_bool ⟨.bl (!c), H1, I1, rfl, q1⟩)
/-- a if t else b -/
def tIf (t : TT) (ta tb : TE) : TE := fun σ H Q => t σ H fun c H1 => if c = true then ta σ H1 Q else tb σ H1 Q
theorem pe_ifExp {c : Expr} (hc : PT X c tA) (ha : PE X a ta) (hb : PE X b tb) : PE X (.IfExp c a b pos) (tIf tA ta tb) := by
  intro pins s σ H Q I h
  refine wpAny_IfExp (thn (hc pins s σ H _ I h) fun d s1 ⟨H1, I1, q1⟩ => ?_)
  cases d with
  | true => exact ha pins s1 σ H1 Q I1 q1
  | false => exact hb pins s1 σ H1 Q I1 q1
end
end L2

namespace L2
open PySem PySem.Spec PyProof.Rows

/-! ### a list, a tuple that is read: tracked, frozen, or an object of the module -/
def SqL (K : PySem.W.Frag) (H : Hp) (a : Addr) (xs : List V) : Prop :=
  Rd H a (.lst xs) ∨
    ∃ (o : Obj) (its : Array Value) (n : Nat), K.lookup a = some o ∧ o.cls = .type "list" ∧ o.dict = none ∧ o.data = .seq its n ∧ its.size ≤ sizeLine ∧ Vals xs its.toList
def SqT (K : PySem.W.Frag) (H : Hp) (a : Addr) (xs : List V) : Prop :=
  Rd H a (.tup xs) ∨
    ∃ (o : Obj) (its : Array Value) (n : Nat), K.lookup a = some o ∧ o.cls = .type "tuple" ∧ o.data = .seq its n ∧ its.size ≤ sizeLine ∧ Vals xs its.toList
def absV : Value → Option V
  | .none => some .non
  | .bool b => some (.bl b)
  | .int i _ => some (.int i)
  | .str x _ => some (.str x)
  | .bytes b _ => some (.byt b)
  | .float b _ => some (.flt b)
  | .ref a => some (.ref a)
  | .type n => some (.ty n)
  | _ => none
theorem RelV.abs {x : V} {u : Value} (r : RelV x u) : absV u = some x := by
  cases x with
  | non => cases r; rfl
  | bl _ => cases r; rfl
  | int _ => obtain ⟨t, rfl⟩ := r; rfl
  | str _ => obtain ⟨t, rfl⟩ := r; rfl
  | byt _ => obtain ⟨t, rfl⟩ := r; rfl
  | flt _ => obtain ⟨t, rfl⟩ := r; rfl
  | ref _ => cases r; rfl
  | ty _ => cases r; rfl
theorem RelV.inj {x y : V} {u : Value} (r : RelV x u) (q : RelV y u) : x = y := Option.some.inj (r.abs.symm.trans q.abs)
theorem Vals.inj : ∀ {xs ys : List V} {us : List Value}, Vals xs us → Vals ys us → xs = ys
  | _, _, _, .nil, .nil => rfl
  | _, _, _, .cons r t, .cons r' t' => by rw [r.inj r', Vals.inj t t']
section
variable {X : Cx} {pins : List (Addr × Obj)} {σ : St} {H : Hp} {s : Shared} {a : Addr} {xs ys : List V}
theorem SqL.of {K : PySem.W.Frag} (h : H a = some (.lst xs)) : SqL K H a xs := .inl (.inl h)
theorem SqT.of {K : PySem.W.Frag} (h : H a = some (.tup xs)) : SqT K H a xs := .inl (.inl h)
theorem Inv.list (I : Inv X pins σ H s) (h : SqL X.K H a xs) : ∃ its : List Value, Vals xs its ∧ PlainL s.heap a its.toArray ∧ xs.length ≤ sizeLine := by
  rcases h with h | ⟨o, its, n, hk, hc, hd, hs, hz, r⟩
  · obtain ⟨z, its, n, r, e⟩ := h.ok I.hok
    exact ⟨its, r, ⟨_, n, e, rfl, rfl, rfl⟩, z⟩
  · refine ⟨its.toList, r, ⟨o, n, I.kIn a o hk, hc, hd, by simpa using hs⟩, ?_⟩
    have e := r.length
    simp only [Array.length_toList] at e
    omega
theorem Inv.tuple (I : Inv X pins σ H s) (h : SqT X.K H a xs) : ∃ its : List Value, Vals xs its ∧ IsTup s.heap a its.toArray ∧ xs.length ≤ sizeLine := by
  rcases h with h | ⟨o, its, n, hk, hc, hs, hz, r⟩
  · obtain ⟨z, its, r, p⟩ := h.ok I.hok
    exact ⟨its, r, p, z⟩
  · refine ⟨its.toList, r, ⟨o, I.kIn a o hk, hc, n, by simpa using hs⟩, ?_⟩
    have e := r.length
    simp only [Array.length_toList] at e
    omega
theorem Inv.list_inj (I : Inv X pins σ H s) (h : SqL X.K H a xs) (h' : SqL X.K H a ys) : xs = ys := by
  obtain ⟨its, r, ⟨o, n, e, _, _, d⟩, _⟩ := I.list h
  obtain ⟨its', r', ⟨o', n', e', _, _, d'⟩, _⟩ := I.list h'
  rw [e] at e'; cases e'
  rw [d] at d'
  injection d' with d1 _
  have : its = its' := by simpa using congrArg Array.toList d1
  subst this
  exact r.inj r'
theorem Inv.tuple_inj (I : Inv X pins σ H s) (h : SqT X.K H a xs) (h' : SqT X.K H a ys) : xs = ys := by
  obtain ⟨its, r, ⟨o, e, _, n, d⟩, _⟩ := I.tuple h
  obtain ⟨its', r', ⟨o', e', _, n', d'⟩, _⟩ := I.tuple h'
  rw [e] at e'; cases e'
  rw [d] at d'
  injection d' with d1 _
  have : its = its' := by simpa using congrArg Array.toList d1
  subst this
  exact r.inj r'
end

/-! ### another wish about exceptions -/
abbrev Cx.wish (X : Cx) (E : Value → Shared → Prop) : Cx := { X with xe := E }
/-- no exception leaves -/
abbrev Cx.nox (X : Cx) : Cx := X.wish fun _ _ => False
theorem Cx.Ok.wish {X : Cx} (ok : X.Ok) (E : Value → Shared → Prop) : (X.wish E).Ok :=
  ⟨ok.mod, ok.kind, ok.glob, ok.blt, ok.above, ok.inj, ok.has, ok.cab, ok.hd, ok.frames, ok.stk, ok.exf, ok.bs, ok.bsz, ok.noex, ok.exfs, ok.funs, ok.frf⟩
theorem Cx.Ok.unwish {X : Cx} {E : Value → Shared → Prop} (ok : (X.wish E).Ok) : X.Ok :=
  ⟨ok.mod, ok.kind, ok.glob, ok.blt, ok.above, ok.inj, ok.has, ok.cab, ok.hd, ok.frames, ok.stk, ok.exf, ok.bs, ok.bsz, ok.noex, ok.exfs, ok.funs, ok.frf⟩
section
variable {X : Cx} {pins : List (Addr × Obj)} {σ : St} {H : Hp} {s : Shared} {E : Value → Shared → Prop}
theorem Inv.wish (I : Inv X pins σ H s) (E : Value → Shared → Prop) : Inv (X.wish E) pins σ H s := ⟨I.ok.wish E, I.os, I.bare, I.base, I.loc, I.cell, I.free, I.freeC, I.pin, I.hok, I.len⟩
theorem Inv.unwish (I : Inv (X.wish E) pins σ H s) : Inv X pins σ H s := ⟨I.ok.unwish, I.os, I.bare, I.base, I.loc, I.cell, I.free, I.freeC, I.pin, I.hok, I.len⟩
theorem SP.unwish {D : Ends} {f : Flow} {s' : Shared} (h : SP (X.wish E) pins D f s') : SP X pins D f s' := by
  cases f with
  | next => obtain ⟨σ', H', I, q⟩ := h; exact ⟨σ', H', I.unwish, q⟩
  | brk => obtain ⟨σ', H', I, q⟩ := h; exact ⟨σ', H', I.unwish, q⟩
  | cont => obtain ⟨σ', H', I, q⟩ := h; exact ⟨σ', H', I.unwish, q⟩
  | ret u => obtain ⟨v, σ', H', I, r, q⟩ := h; exact ⟨v, σ', H', I.unwish, r, q⟩
theorem PE.nox {e : Expr} {t : TE} (h : PE X.nox e t) : PE X e t := fun pins s σ H Q I hw =>
  wpAny_mono (h pins s σ H Q (I.wish _) hw) (fun _ _ ⟨v, H', I', r, q⟩ => ⟨v, H', I'.unwish, r, q⟩) fun _ _ z => False.elim z
theorem PT.nox {e : Expr} {t : TT} (h : PT X.nox e t) : PT X e t := fun pins s σ H Q I hw =>
  wpAny_mono (h pins s σ H Q (I.wish _) hw) (fun _ _ ⟨H', I', q⟩ => ⟨H', I'.unwish, q⟩) fun _ _ z => False.elim z
theorem PSs.nox {st : List Stmt} {t : TS} (h : PSs X.nox st t) : PSs X st t := fun pins s σ H D I hw =>
  wpAny_mono (h pins s σ H D (I.wish _) hw) (fun _ _ q => q.unwish) fun _ _ z => False.elim z
end

/-! ### blocks and small statements -/
section
variable {X : Cx} {st : Stmt} {rest : List Stmt} {t u : TS} {e : Expr} {te : TE} {pos : Pos}
def tNext : TS := fun D σ H => D.nx σ H
def tSeq (t u : TS) : TS := fun D σ H => t { D with nx := u D } σ H
theorem pss_nil : PSs X [] tNext := fun _ _ σ H _ I h => wpAny_execs_nil ⟨σ, H, I, h⟩
theorem pss_cons (h1 : PS X st t) (h2 : PSs X rest u) : PSs X (st :: rest) (tSeq t u) := by
  intro pins s σ H D I h
  refine wpAny_execs_cons (thn (h1 pins s σ H { D with nx := u D } I h) fun f s1 q => ?_)
  cases f with
  | next =>
    obtain ⟨σ', H', I', q⟩ := q
    exact h2 pins s1 σ' H' D I' q
  | ret v => exact q
  | brk => exact q
  | cont => exact q
theorem pss_one (h1 : PS X st t) : PSs X [st] t := by
  intro pins s σ H D I h
  refine wpAny_execs_cons (thn (h1 pins s σ H D I h) fun f s1 q => ?_)
  cases f with
  | next => exact wpAny_execs_nil q
  | ret v => exact q
  | brk => exact q
  | cont => exact q
/-- in a def's body nothing is shown -/
theorem Inv.quiet {pins : List (Addr × Obj)} {σ : St} {H : Hp} {s : Shared} (I : Inv X pins σ H s) : interactive X.env = false := by simp [interactive, I.ok.kind]
/-- an expression whose value is dropped -/
def tDrop (te : TE) : TS := fun D σ H => te σ H fun _ H1 => D.nx σ H1
theorem ps_expr (he : PE X e te) (hs : swapsWith e none pos.line X.env = pure false := by rfl) : PS X (.Expr e pos) (tDrop te) := by
  intro pins s σ H D I h
  exact wpAny_Expr_any (thn (he pins s σ H _ I h) fun v s1 ⟨x, H1, I1, r1, q1⟩ => ⟨σ, H1, I1, q1⟩) I.quiet hs
def tRet (te : TE) : TS := fun D σ H => te σ H D.rt
theorem ps_ret (he : PE X e te) : PS X (.Return (some e) pos) (tRet te) := by
  intro pins s σ H D I h
  exact wpAny_Return_some (thn (he pins s σ H _ I h) fun v s1 ⟨x, H1, I1, r1, q1⟩ => ⟨x, σ, H1, I1, r1, q1⟩)
def tIfS (c : TT) (t u : TS) : TS := fun D σ H => c σ H fun b H1 => if b = true then t D σ H1 else u D σ H1
theorem ps_if {c : Expr} {a b : List Stmt} {tc : TT} (hc : PT X c tc) (ha : PSs X a t) (hb : PSs X b u) : PS X (.If c a b pos) (tIfS tc t u) := by
  intro pins s σ H D I h
  refine wpAny_If (thn (hc pins s σ H _ I h) fun d s1 ⟨H1, I1, q1⟩ => ?_)
  cases d with
  | true => exact ha pins s1 σ H1 D I1 q1
  | false => exact hb pins s1 σ H1 D I1 q1
/-- code that the proof never comes to -/
def tNever : TS := fun _ _ _ => False
theorem ps_never : PS X st tNever := fun _ _ _ _ _ _ h => h.elim
end

/-! ### targets -/
abbrev TG := V → St → Hp → (St → Hp → Prop) → Prop
abbrev TGs := List V → St → Hp → (St → Hp → Prop) → Prop
def PG (X : Cx) (target : Expr) (t : TG) : Prop :=
  ∀ (pins : List (Addr × Obj)) (s : Shared) (σ : St) (H : Hp) (v : V) (u : Value) (Q : St → Hp → Prop), Inv X pins σ H s → RelV v u → t v σ H Q →
    wpAny (model X.prog X.w) X.A (assign target X.env u) (fun _ s' => ∃ σ' H', Inv X pins σ' H' s' ∧ Q σ' H') X.xe s
/-- several targets, one after another -/
def PGs (X : Cx) (ts : List Expr) (t : TGs) : Prop :=
  ∀ (pins : List (Addr × Obj)) (s : Shared) (σ : St) (H : Hp) (vs : List V) (us : List Value) (Q : St → Hp → Prop), Inv X pins σ H s → Vals vs us → t vs σ H Q →
    wpAny (model X.prog X.w) X.A (assignInOrder ((assignEach ts X.env).map (·.2)) us) (fun _ s' => ∃ σ' H', Inv X pins σ' H' s' ∧ Q σ' H') X.xe s
/-- o[i] = v, by values -/
abbrev TSet := V → V → V → Hp → (Hp → Prop) → Prop
def PSet (X : Cx) (t : TSet) : Prop :=
  ∀ (pins : List (Addr × Obj)) (s : Shared) (σ : St) (H : Hp) (o i v : V) (ov iv u : Value) (Q : Hp → Prop), Inv X pins σ H s → RelV o ov → RelV i iv → RelV v u → t o i v H Q →
    wpAny (model X.prog X.w) X.A (setItem ov iv u) (fun _ s' => ∃ H', Inv X pins σ H' s' ∧ Q H') X.xe s
section
variable {X : Cx} {pos : Pos}
def gName (i : Nat) : TG := fun v σ H Q => Q (σ.set i (some v)) H
theorem pg_name {i : Nat} {x : Str} (hN : X.N.Nodup) (hi : X.N[i]? = some x) (hx : Loc X.env.scope x) (hf : X.fn x = true ∨ X.env.scope.names.lookup x = some .local := by first | exact .inl rfl | exact .inr rfl | assumption) : PG X (.Name x pos) (gName i) := by
  intro pins s σ H v u Q I r h
  exact wpAny_assign_Name (store_ok I hN hi hx r (fun s' I' => ⟨_, H, I', h⟩) hf)
def gNil : TGs := fun vs σ H Q => vs = [] ∧ Q σ H
def gCons (t : TG) (u : TGs) : TGs := fun vs σ H Q => ∃ v r, vs = v :: r ∧ t v σ H fun σ' H' => u r σ' H' Q
theorem pgs_nil : PGs X [] gNil := by
  intro pins s σ H vs us Q I r h
  obtain ⟨e, h⟩ := h
  subst e
  cases r
  exact assignInOrder_nil ⟨σ, H, I, h⟩
theorem pgs_cons {e : Expr} {es : List Expr} {t : TG} {u : TGs} (h1 : PG X e t) (h2 : PGs X es u)
    (hs : (assignEach (e :: es) X.env).map (·.2) = assign e X.env :: (assignEach es X.env).map (·.2) := by rfl) : PGs X (e :: es) (gCons t u) := by
  intro pins s σ H vs us Q I r h
  obtain ⟨v, vr, e1, h⟩ := h
  subst e1
  cases r with
  | cons r rr =>
    rw [hs]
    refine assignInOrder_cons (thn (h1 pins s σ H _ _ _ I r h) fun _ s1 ⟨σ1, H1, I1, q1⟩ => ?_)
    exact h2 pins s1 σ1 H1 _ _ Q I1 rr q1
/-- (a, b, ..) = a tuple of that length -/
def gTup (K : PySem.W.Frag) (n : Nat) (t : TGs) : TG := fun v σ H Q => ∃ a xs, v = .ref a ∧ SqT K H a xs ∧ xs.length = n ∧ t xs σ H Q
theorem pg_tup {es : List Expr} {k : Nat} {t : TGs} {n : Nat} (hc : X.calm = true) (h : PGs X es t)
    (hn : (assignEach es X.env).length = n := by rfl) (hst : (assignEach es X.env).findIdx? (·.1) = none := by rfl) : PG X (.Tuple es k pos) (gTup X.K n t) := by
  intro pins s σ H v u Q I r hw
  obtain ⟨a, xs, e1, hq, hl, hw⟩ := hw
  subst e1
  cases r
  obtain ⟨its, rv, ht, hz⟩ := I.tuple hq
  refine assign_Tuple_tuple (I.ok.hd hc) ht (by simp [hn, ← hl, rv.length]) hst fun h' hx => ?_
  have I1 : Inv X pins σ H { s with heap := h' } := I.kept (t' := s.toks) fun b o e => hx b o (Nat.ne_of_lt (Heap.lt_size e)) e
  exact h pins _ σ H xs _ Q I1 (by simpa using rv) hw
/-- o[i] = .. -/
def gSub (to ti : TE) (t : TSet) : TG := fun v σ H Q => to σ H fun o H1 => ti σ H1 fun i H2 => t o i v H2 fun H3 => Q σ H3
theorem pg_sub {o i : Expr} {to ti : TE} {t : TSet} (ho : PE X o to) (hi : PE X i ti) (hs : PSet X t)
    (ha : ∀ v, assign (.Subscript o i pos) X.env v = (do
      let ov ← holding [v] (eval o X.env)
      let iv ← holding [v, ov] (eval i X.env)
      standAt pos
      holding [v, ov, iv] (setItem ov iv v)
      release [v, ov, iv] []) := by intro _; rfl) : PG X (.Subscript o i pos) (gSub to ti t) := by
  intro pins s σ H v u Q I r h
  rw [ha]
  refine wpAny_bind (wpAny_holding (thn (ho pins s σ H _ I h) fun ov s1 ⟨x, H1, I1, r1, q1⟩ => ?_))
  refine wpAny_bind (wpAny_holding (thn (hi pins s1 σ H1 _ I1 q1) fun iv s2 ⟨y, H2, I2, r2, q2⟩ => ?_))
  refine wpAny_bind (wpAny_standAt (wpAny_bind (wpAny_holding (thn (hs pins s2 σ H2 x y v ov iv u _ I2 r1 r2 r q2) fun _ s3 ⟨H3, I3, q3⟩ => ?_))))
  exact wpAny_release ⟨σ, H3, I3, q3⟩
/-- target = value -/
def tAsg (te : TE) (g : TG) : TS := fun D σ H => te σ H fun x H1 => g x σ H1 D.nx
theorem ps_asg {tg e : Expr} {te : TE} {g : TG} (he : PE X e te) (hg : PG X tg g) (hs : swapsWithSole [tg] e pos.line X.env = pure false := by rfl) (hw : swappedStores [tg] e X.env = pure none := by rfl)
    (h1 : (assignEach [tg] X.env).map (·.2) = [assign tg X.env] := by rfl) : PS X (.Assign [tg] e pos) (tAsg te g) := by
  intro pins s σ H D I h
  refine wpAny_Assign_stores (thn (he pins s σ H _ I h) fun v s1 ⟨x, H1, I1, r1, q1⟩ => ?_) hs hw
  rw [h1]
  exact thn (hg pins s1 σ H1 x v _ I1 r1 q1) fun _ s2 q => q
/-- name = value -/
theorem ps_set {i : Nat} {x : Str} {e : Expr} {te : TE} {pos' : Pos} (hN : X.N.Nodup) (hi : X.N[i]? = some x) (hx : Loc X.env.scope x) (he : PE X e te) (hs : swapsWith e (some (.Name x pos')) pos.line X.env = pure false := by rfl) (hf : X.fn x = true ∨ X.env.scope.names.lookup x = some .local := by first | exact .inl rfl | exact .inr rfl | assumption) :
    PS X (.Assign [.Name x pos'] e pos) (tAsg te (gName i)) := by
  intro pins s σ H D I h
  refine wpAny_Assign_Name (thn (he pins s σ H _ I h) fun v s1 ⟨y, H1, I1, r1, q1⟩ => ?_) hs
  exact store_ok I1 hN hi hx r1 (fun s2 I2 => ⟨_, H1, I2, q1⟩) hf
end

/-! ### while -/
section
variable {X : Cx} {pos : Pos}
end

/-! ### what a loop or a comprehension walks -/
/-- at turn i: it yields x (the heap may grow), or it stops -/
structure It where
  go : Nat → Hp → Prop
  yld : Nat → Hp → V → Hp → Prop
  stop : Nat → Hp → Prop
/-- the iterator's own objects may turn: they are not the frame's, not pinned, younger than the entry (or a comprehension's own) -/
def FpOk (X : Cx) (pins : List (Addr × Obj)) (H : Hp) (b : Addr) : Prop :=
  H b = none ∧ b ≠ X.env.locals ∧ b ∉ X.fs ∧ (b ∈ X.ex ∨ X.s₀.heap.objs.size ≤ b) ∧ (∀ x c, X.env.cells.lookup x = some c → c ≠ b) ∧ ∀ p ∈ X.pn ++ pins, p.1 ≠ b
theorem Inv.fpOk {X : Cx} {pins : List (Addr × Obj)} {σ : St} {H H' : Hp} {s : Shared} {b : Addr} (I : Inv X pins σ H s) (hb : s.heap.objs.size ≤ b) (hn : H' b = none) : FpOk X pins H' b := by
  refine ⟨hn, Nat.ne_of_gt (Nat.lt_of_lt_of_le I.lt hb), I.nofs hb, .inr (Nat.le_trans I.sz hb), fun x c e z => ?_, fun p hp z => ?_⟩
  · obtain ⟨v, q⟩ := I.cell x c e
    exact absurd (Nat.lt_of_lt_of_le q.lt (by rw [z]; exact hb)) (Nat.lt_irrefl _)
  · exact absurd (Nat.lt_of_lt_of_le (Heap.lt_size (I.pin p hp).1) (by rw [z]; exact hb)) (Nat.lt_irrefl _)
structure Turn (P : Program) (w : World) (K : PySem.W.Frag) (tg : Expr) (J : It) (fp : List Addr) (it : Addr) (tn : Nat → Heap → Prop) : Prop where
  mem : it ∈ fp
  obj : ∀ i h, tn i h → ∀ b ∈ fp, ∃ o, h.get? b = some o ∧ ∀ v, o.data ≠ .cell v
  keep : ∀ i h h', tn i h → (∀ b ∈ fp, ∀ o, h.get? b = some o → h'.get? b = some o) → tn i h'
  item : ∀ (X : Cx), X.prog = P → X.w = w → X.K = K → X.calm = true → ∀ (i : Nat) (pins : List (Addr × Obj)) (s : Shared) (σ : St) (H : Hp) (E : Value → Shared → Prop), Inv X pins σ H s → (∀ b ∈ fp, FpOk X pins H b) → tn i s.heap → J.go i H →
    wpAny (model P w) X.A (pyNext (.ref it)) (fun r s1 => ∃ u, r = some u ∧
      wpAny (model P w) X.A (letOwnedTupleGo tg (.ref it) u) (fun _ s2 => ∃ x H', Inv X pins σ H' s2 ∧ RelV x u ∧ J.yld i H x H' ∧ tn (i + 1) s2.heap ∧ ∀ b ∈ fp, H' b = none) E s1) E s
  done : ∀ (X : Cx), X.prog = P → X.w = w → X.K = K → X.calm = true → ∀ (i : Nat) (pins : List (Addr × Obj)) (s : Shared) (σ : St) (H : Hp) (E : Value → Shared → Prop), Inv X pins σ H s → (∀ b ∈ fp, FpOk X pins H b) → tn i s.heap → J.stop i H →
    wpAny (model P w) X.A (pyNext (.ref it)) (fun r s1 => r = none ∧ Inv X pins σ H s1) E s
  self : ∀ (A : Around) (i : Nat) (s : Shared) (Q : Value → Shared → Prop) (E : Value → Shared → Prop), tn i s.heap → Q (.ref it) s → wpAny (model P w) A (pyIter (.ref it)) Q E s
abbrev TI := St → Hp → (It → Hp → Prop) → Prop
/-- an iterator has come -/
def PIE (X : Cx) (pins : List (Addr × Obj)) (σ : St) (tg : Expr) (R : It → Hp → Prop) (itv : Value) (s2 : Shared) : Prop :=
  ∃ (it : Addr) (fp : List Addr) (tn : Nat → Heap → Prop) (J : It) (H' : Hp), itv = .ref it ∧ Inv X pins σ H' s2 ∧ Turn X.prog X.w X.K tg J fp it tn ∧ tn 0 s2.heap ∧ (∀ b ∈ fp, FpOk X pins H' b) ∧ R J H'
def PI (X : Cx) (tg iter : Expr) (wi : TI) : Prop :=
  ∀ (pins : List (Addr × Obj)) (s : Shared) (σ : St) (H : Hp) (R : It → Hp → Prop), Inv X pins σ H s → wi σ H R →
    wpAny (model X.prog X.w) X.A (eval iter X.env) (fun v s1 => wpAny (model X.prog X.w) X.A (pyIter v) (PIE X pins σ tg R) X.xe s1) X.xe s

/-- the step ahead of the store is nothing for an iterator that keeps no tuple -/
theorem go_of {M : Model} {A : Around} {E : Value → Shared → Prop} {s : Shared} {tg : Expr} {it : Addr} {u : Value} {o : Obj} {n : String} {vs : Array Value} {Q : Unit → Shared → Prop} (ho : s.heap.get? it = some o) (hc : o.cls = .type n) (hd : o.data = .fields vs)
    (hn : ["enumerate", "zip", "dict_itemiterator", "dict_reverseitemiterator", "odict_iterator", "itertools.zip_longest", "itertools.pairwise"].contains n = false) (hQ : Q () s) : wpAny M A (letOwnedTupleGo tg (.ref it) u) Q E s := by
  unfold letOwnedTupleGo
  cases tg <;> first
    | exact wpAny_pure hQ
    | (cases u <;> first
        | exact wpAny_pure hQ
        | (refine wpAny_bind (wpAny_load ho ?_)
           rw [hc, hd]
           show wpAny M A (if (["enumerate", "zip", "dict_itemiterator", "dict_reverseitemiterator", "odict_iterator", "itertools.zip_longest", "itertools.pairwise"].contains n && vs[0]? == some (rawInt _)) = true then _ else _) Q E s
           rw [if_neg (by intro h; rw [hn, Bool.false_and] at h; cases h)]
           exact wpAny_pure hQ))

/-- the list at a, as it stands at each turn (a loop may append to it) -/
def Itl (K : PySem.W.Frag) (a : Addr) : It :=
  ⟨fun i H => ∃ xs x, SqL K H a xs ∧ xs[i]? = some x, fun i H x H' => H' = H ∧ ∀ xs, SqL K H a xs → xs[i]? = some x, fun i H => ∃ xs, SqL K H a xs ∧ xs.length ≤ i⟩
def Itt (K : PySem.W.Frag) (a : Addr) : It :=
  ⟨fun i H => ∃ xs x, SqT K H a xs ∧ xs[i]? = some x, fun i H x H' => H' = H ∧ ∀ xs, SqT K H a xs → xs[i]? = some x, fun i H => ∃ xs, SqT K H a xs ∧ xs.length ≤ i⟩
/-- lo, lo + 1, .. (n of them) -/
def Itr (lo : Int) (n : Nat) : It := ⟨fun i _ => i < n, fun i H x H' => H' = H ∧ x = .int (lo + i), fun i _ => n ≤ i⟩
theorem turn_list {P : Program} {w : World} {K : PySem.W.Frag} {tg : Expr} (a it : Addr) : Turn P w K tg (Itl K a) [it] it (fun i h => h.IsListIter it a i) where
  mem := by simp
  obj := fun i h st b hb => by
    have e : b = it := by simpa using hb
    subst e
    obtain ⟨o, e, c, d⟩ := st
    exact ⟨o, e, fun v z => by rw [d] at z; cases z⟩
  keep := fun i h h' st k => st.at fun o e => k it (by simp) o e
  item := by
    intro X hP hw hK hc i pins s σ H E I hf st hg
    subst hP hw hK
    obtain ⟨xs, x, hq, hx⟩ := hg
    obtain ⟨its, rv, p, hz⟩ := I.list hq
    obtain ⟨u, hu, ru⟩ := rv.get hx
    obtain ⟨f0, f1, f2, f3, f4, f5⟩ := hf it (by simp)
    refine wpAny_pyNext_list_item st p.isList (x := u) (by simpa using hu) fun h' st' sb => ?_
    have I1 : Inv X pins σ H { s with heap := h' } := I.turned (t' := s.toks) (fun b o hb e => (sb.2 b hb).trans e) f0 f1 f3 f4 f5
    obtain ⟨o, e, c, d⟩ := id st'
    exact ⟨u, rfl, go_of (s := { s with heap := h' }) e c d (by decide) ⟨x, H, I1, ru, ⟨rfl, fun ys hy => by rw [I.list_inj hy hq]; exact hx⟩, st', fun b hb => (hf b hb).1⟩⟩
  done := by
    intro X hP hw hK hc i pins s σ H E I hf st hg
    subst hP hw hK
    obtain ⟨xs, hq, hx⟩ := hg
    obtain ⟨its, rv, p, hz⟩ := I.list hq
    obtain ⟨f0, f1, f2, f3, f4, f5⟩ := hf it (by simp)
    have hl := rv.length
    exact wpAny_pyNext_list_end (I.ok.hd hc) st p.isList (by simp; omega) fun h' eb => ⟨rfl, I.turned (t' := s.toks) (fun b o hb e => eb b o hb e) f0 f1 f3 f4 f5⟩
  self := fun _ _ _ _ _ st h => wpAny_pyIter_listiter st h
theorem turn_tuple {P : Program} {w : World} {K : PySem.W.Frag} {tg : Expr} (a it : Addr) : Turn P w K tg (Itt K a) [it] it (fun i h => h.IsTupleIter it a i) where
  mem := by simp
  obj := fun i h st b hb => by
    have e : b = it := by simpa using hb
    subst e
    obtain ⟨o, e, c, d⟩ := st
    exact ⟨o, e, fun v z => by rw [d] at z; cases z⟩
  keep := fun i h h' st k => st.at fun o e => k it (by simp) o e
  item := by
    intro X hP hw hK hc i pins s σ H E I hf st hg
    subst hP hw hK
    obtain ⟨xs, x, hq, hx⟩ := hg
    obtain ⟨its, rv, p, hz⟩ := I.tuple hq
    obtain ⟨u, hu, ru⟩ := rv.get hx
    obtain ⟨f0, f1, f2, f3, f4, f5⟩ := hf it (by simp)
    refine wpAny_pyNext_tuple_item st (show s.heap.IsTuple a its.toArray from p) (x := u) (by simpa using hu) fun h' st' sb => ?_
    have I1 : Inv X pins σ H { s with heap := h' } := I.turned (t' := s.toks) (fun b o hb e => (sb.2 b hb).trans e) f0 f1 f3 f4 f5
    obtain ⟨o, e, c, d⟩ := id st'
    exact ⟨u, rfl, go_of (s := { s with heap := h' }) e c d (by decide) ⟨x, H, I1, ru, ⟨rfl, fun ys hy => by rw [I.tuple_inj hy hq]; exact hx⟩, st', fun b hb => (hf b hb).1⟩⟩
  done := by
    intro X hP hw hK hc i pins s σ H E I hf st hg
    subst hP hw hK
    obtain ⟨xs, hq, hx⟩ := hg
    obtain ⟨its, rv, p, hz⟩ := I.tuple hq
    obtain ⟨f0, f1, f2, f3, f4, f5⟩ := hf it (by simp)
    have hl := rv.length
    exact wpAny_pyNext_tuple_end (I.ok.hd hc) st (show s.heap.IsTuple a its.toArray from p) (by simp; omega) fun h' eb => ⟨rfl, I.turned (t' := s.toks) (fun b o hb e => eb b o hb e) f0 f1 f3 f4 f5⟩
  self := fun _ _ _ _ _ st h => wpAny_pyIter_tupleiter st h
theorem turn_range {P : Program} {w : World} {K : PySem.W.Frag} {tg : Expr} (it : Addr) (lo : Int) (n : Nat) : Turn P w K tg (Itr lo n) [it] it (fun i h => IsRangeIter h it (lo + (i : Nat) * 1) ((n : Int) - (i : Nat)) 1) where
  mem := by simp
  obj := fun i h st b hb => by
    have e : b = it := by simpa using hb
    subst e
    exact ⟨_, st, fun v z => by
      have z' : Data.fields _ = Data.cell v := z
      cases z'⟩
  keep := fun i h h' st k => k it (by simp) _ st
  item := by
    intro X hP hw hK hc i pins s σ H E I hf st hg
    subst hP hw hK
    obtain ⟨f0, f1, f2, f3, f4, f5⟩ := hf it (by simp)
    have W := Walks.range (prog := X.prog) (w := X.w) (I.ok.hd hc) it lo 1 n
    refine W.item i s _ _ hg st fun v h' tk hv st' kk => ?_
    obtain ⟨t, rfl⟩ := hv
    have I1 : Inv X pins σ H { s with heap := h', toks := tk } := I.turned (fun b o hb e => kk b o (by simpa using hb) e) f0 f1 f3 f4 f5
    refine ⟨_, rfl, go_of (s := { s with heap := h', toks := tk }) (n := "range_iterator") st' rfl rfl (by decide) ⟨.int (lo + i), H, I1, ⟨t, ?_⟩, ⟨rfl, rfl⟩, st', fun b hb => (hf b hb).1⟩⟩
    rw [Int.mul_one]
  done := by
    intro X hP hw hK hc i pins s σ H E I hf st hg
    subst hP hw hK
    obtain ⟨f0, f1, f2, f3, f4, f5⟩ := hf it (by simp)
    exact wpAny_pyNext_range_end (I.ok.hd hc) st (by have : n ≤ i := hg; omega) fun h' eb => ⟨rfl, I.turned (t' := s.toks) (fun b o hb e => eb b o hb e) f0 f1 f3 f4 f5⟩
  self := fun _ _ _ _ _ st h => wpAny_pyIter_rangeiter st h
end L2

namespace L2
open PySem PySem.Spec PyProof.Rows
section
variable {X : Cx} {tg : Expr}
def iList (K : PySem.W.Frag) (tl : TE) : TI := fun σ H R => tl σ H fun x H1 => ∃ a, x = .ref a ∧ (∃ xs, SqL K H1 a xs) ∧ R (Itl K a) H1
def iTup (K : PySem.W.Frag) (tl : TE) : TI := fun σ H R => tl σ H fun x H1 => ∃ a, x = .ref a ∧ (∃ xs, SqT K H1 a xs) ∧ R (Itt K a) H1
theorem pi_list {l : Expr} {tl : TE} (hl : PE X l tl) : PI X tg l (iList X.K tl) := by
  intro pins s σ H R I h
  refine thn (hl pins s σ H _ I h) fun v s1 ⟨x, H1, I1, r1, q1⟩ => ?_
  obtain ⟨a, e, ⟨xs, hq⟩, q⟩ := q1
  subst e
  cases r1
  obtain ⟨its, rv, p, hz⟩ := I1.list hq
  refine wpAny_pyIter_list p.isList ?_
  refine ⟨s1.heap.objs.size, [s1.heap.objs.size], _, _, H1, rfl, I1.kept (t' := s1.toks) fun b o e => Heap.get?_push_of_some _ e, turn_list a _, ⟨_, Heap.get?_push_size _ rfl, rfl, rfl⟩, fun b hb => ?_, q⟩
  have e : b = s1.heap.objs.size := by simpa using hb
  subst e
  exact I1.fpOk (Nat.le_refl _) (I1.hok.fresh (Nat.le_refl _))
theorem pi_tup {l : Expr} {tl : TE} (hl : PE X l tl) : PI X tg l (iTup X.K tl) := by
  intro pins s σ H R I h
  refine thn (hl pins s σ H _ I h) fun v s1 ⟨x, H1, I1, r1, q1⟩ => ?_
  obtain ⟨a, e, ⟨xs, hq⟩, q⟩ := q1
  subst e
  cases r1
  obtain ⟨its, rv, p, hz⟩ := I1.tuple hq
  refine wpAny_pyIter_tuple (show s1.heap.IsTuple a its.toArray from p) ?_
  refine ⟨s1.heap.objs.size, [s1.heap.objs.size], _, _, H1, rfl, I1.kept (t' := s1.toks) fun b o e => Heap.get?_push_of_some _ e, turn_tuple a _, ⟨_, Heap.get?_push_size _ rfl, rfl, rfl⟩, fun b hb => ?_, q⟩
  have e : b = s1.heap.objs.size := by simpa using hb
  subst e
  exact I1.fpOk (Nat.le_refl _) (I1.hok.fresh (Nat.le_refl _))
/-- a range object just made, walked -/
theorem range_it {pins : List (Addr × Obj)} {σ : St} {H : Hp} {s : Shared} {R : It → Hp → Prop} {E : Value → Shared → Prop} {lo hi : Int} {t u v : Tok} {tk : Nat} (I : Inv X pins σ H s) (h1 : -(2 ^ 62) ≤ lo) (h2 : lo < 2 ^ 62) (h3 : -(2 ^ 62) ≤ hi) (h4 : hi < 2 ^ 62)
    (q : R (Itr lo (hi - lo).toNat) H) : wpAny (model X.prog X.w) X.A (pyIter (.ref s.heap.objs.size)) (PIE X pins σ tg R) E { s with heap := s.heap.push { cls := .type "range", data := .fields #[.int lo t, .int hi u, .int 1 v] }, toks := tk } := by
  refine wpAny_pyIter_range (IsRange.new ..) (small_one h1 h2 h3 h4) ?_
  have I1 : Inv X pins σ H { s with heap := s.heap.push { cls := .type "range", data := .fields #[.int lo t, .int hi u, .int 1 v] }, toks := tk } := I.kept fun b o e => Heap.get?_push_of_some _ e
  refine ⟨(s.heap.push { cls := .type "range", data := .fields #[.int lo t, .int hi u, .int 1 v] }).objs.size, [(s.heap.push { cls := .type "range", data := .fields #[.int lo t, .int hi u, .int 1 v] }).objs.size], _, _, H, rfl,
    I1.kept (t' := tk) fun b o e => Heap.get?_push_of_some _ e, turn_range _ lo (hi - lo).toNat, ?_, fun b hb => ?_, q⟩
  · have e1 : lo + ((0 : Nat) : Int) * 1 = lo := by simp
    have e2 : (((hi - lo).toNat : Nat) : Int) - ((0 : Nat) : Int) = Builtin.Range.rangeSize lo hi 1 := by rw [rangeSize_one]; split <;> omega
    show IsRangeIter _ _ (lo + ((0 : Nat) : Int) * 1) ((((hi - lo).toNat : Nat) : Int) - ((0 : Nat) : Int)) 1
    rw [e1, e2]
    exact Heap.get?_push_size _ rfl
  · have e : b = (s.heap.push { cls := .type "range", data := .fields #[.int lo t, .int hi u, .int 1 v] }).objs.size := by simpa using hb
    subst e
    exact I1.fpOk (Nat.le_refl _) (I1.hok.fresh (Nat.le_refl _))
def iRng1 (ta : TA) : TI := fun σ H R => ta σ H fun vs H1 => ∃ j : Int, vs = [.int j] ∧ -(2 ^ 62) ≤ j ∧ j < 2 ^ 62 ∧ R (Itr 0 j.toNat) H1
def iRng2 (ta : TA) : TI := fun σ H R => ta σ H fun vs H1 => ∃ i j : Int, vs = [.int i, .int j] ∧ (-(2 ^ 62) ≤ i ∧ i < 2 ^ 62 ∧ -(2 ^ 62) ≤ j ∧ j < 2 ^ 62) ∧ R (Itr i (j - i).toNat) H1
theorem pi_range1 {a : Expr} {ta : TA} {p pos : Pos} (hg : Gl X "range") (hm : X.mg "range" = none) (ha : PA X [a] ta) (hs : starEach [a] X.env = [(false, eval a X.env)] := by rfl) : PI X tg (.Call (.Name "range" p) [a] [] pos) (iRng1 ta) := by
  intro pins s σ H R I h
  refine Call_ (ld_blt I hg hm boot_range (PyProof.Rows.callWith_type1 (thn (ha pos pins s σ H _ I h) fun us s1 ⟨vs, H1, I1, r1, q1⟩ => ?_) hs rfl))
  obtain ⟨j, e, q1, q2, q⟩ := q1
  subst e
  cases r1 with
  | cons r rr =>
    cases rr
    obtain ⟨t, rfl⟩ := r
    exact call_range_1 (range_it I1 (by omega) (by omega) q1 q2 (by simpa using q))
theorem pi_range2 {a b : Expr} {ta : TA} {p pos : Pos} (hg : Gl X "range") (hm : X.mg "range" = none) (ha : PA X [a, b] ta) (hs : starEach [a, b] X.env = [(false, eval a X.env), (false, eval b X.env)] := by rfl) (hs2 : starEach [b] X.env = [(false, eval b X.env)] := by rfl) :
    PI X tg (.Call (.Name "range" p) [a, b] [] pos) (iRng2 ta) := by
  intro pins s σ H R I h
  refine Call_ (ld_blt I hg hm boot_range (PyProof.Rows.callWith_type1 (thn (ha pos pins s σ H _ I h) fun us s1 ⟨vs, H1, I1, r1, q1⟩ => ?_) (by rw [hs, hs2]) (by rw [hs2]; rfl)))
  obtain ⟨i, j, e, ⟨q1, q2, q3, q4⟩, q⟩ := q1
  subst e
  cases r1 with
  | cons r rr =>
    cases rr with
    | cons r' rr =>
      cases rr
      obtain ⟨t, rfl⟩ := r
      obtain ⟨t', rfl⟩ := r'
      exact call_range_2 (range_it I1 q1 q2 q3 q4 q)

/-! ### for -/
/-- W: the invariant by the turn and a measure; N: what the body is to reach -/
def tFor (wi : TI) (g : TG) (tb : TS) : TS := fun D σ H => wi σ H fun J H1 => ∃ W : Nat → Nat → St → Hp → Prop, (∃ m, W 0 m σ H1) ∧ ∀ i m σ H, W i m σ H →
  (J.stop i H ∧ D.nx σ H) ∨ (J.go i H ∧ ∃ N : St → Hp → Prop, (∀ σ' H', N σ' H' → ∃ m', m' < m ∧ W (i + 1) m' σ' H') ∧ ∀ x H', J.yld i H x H' → g x σ H' fun σ2 H2 => tb { D with nx := N, ct := N, bk := D.nx } σ2 H2)
/-- the records at fp as they stand -/
def pinsAt (fp : List Addr) (h : Heap) : List (Addr × Obj) := fp.filterMap fun b => (h.get? b).map fun o => (b, o)
theorem mem_pinsAt {fp : List Addr} {h : Heap} {b : Addr} {o : Obj} (hb : b ∈ fp) (e : h.get? b = some o) : (b, o) ∈ pinsAt fp h := List.mem_filterMap.mpr ⟨b, hb, by rw [e]; rfl⟩
theorem of_pinsAt {fp : List Addr} {h : Heap} {p : Addr × Obj} (hp : p ∈ pinsAt fp h) : p.1 ∈ fp ∧ h.get? p.1 = some p.2 := by
  obtain ⟨b, hb, e⟩ := List.mem_filterMap.mp hp
  cases q : h.get? b with
  | none => rw [q] at e; cases e
  | some o =>
    rw [q] at e
    have e' : (b, o) = p := Option.some.inj e
    subst e'
    exact ⟨hb, q⟩
theorem Inv.pinned {pins : List (Addr × Obj)} {σ : St} {H : Hp} {s : Shared} {fp : List Addr} (I : Inv X pins σ H s) (hf : ∀ b ∈ fp, FpOk X pins H b) (ho : ∀ b ∈ fp, ∃ o, s.heap.get? b = some o ∧ ∀ v, o.data ≠ .cell v) : Inv X (pins ++ pinsAt fp s.heap) σ H s :=
  I.pins_of fun p hp => (List.mem_append.mp hp).elim (fun z => I.pin p (List.mem_append_right _ z)) fun z => by
    obtain ⟨hb, e⟩ := of_pinsAt z
    obtain ⟨f0, f1, f2, _⟩ := hf p.1 hb
    obtain ⟨o, e', d⟩ := ho p.1 hb
    rw [e] at e'; cases e'
    exact ⟨e, f0, f1, f2, d⟩
theorem Inv.unpinned {pins pl : List (Addr × Obj)} {σ : St} {H : Hp} {s : Shared} (I : Inv X (pins ++ pl) σ H s) : Inv X pins σ H s := I.pins_of fun p hp => I.pin p (List.mem_append_right _ (List.mem_append_left _ hp))
theorem ps_for {iter : Expr} {body : List Stmt} {wi : TI} {g : TG} {tb : TS} {pos : Pos} (hp : PassesOwn (model X.prog X.w) X.A X.env X.xe) (hc : X.calm = true) (hi : PI X tg iter wi) (hg : PG X tg g) (hb : PSs X body tb)
    (hs : ∀ x, foldedSetIterable iter X.env x = pure x := by intro _; rfl) : PS X (.For tg iter body [] pos) (tFor wi g tb) := by
  intro pins s σ H D I h
  refine wpAny_For (thn (hi pins s σ H _ I h) fun v s1 h1 => thn h1 fun itv s2 h2 => ?_) hs
  obtain ⟨it, fp, tn, J, H2, e, I2, T, st2, f2, W, ⟨m0, w0⟩, turn⟩ := h2
  subst e
  -- what stays true of the iterator's objects through the loop
  have stat : ∀ {H' : Hp}, (∀ b ∈ fp, H' b = none) → ∀ b ∈ fp, FpOk X pins H' b := fun hn b hb => ⟨hn b hb, (f2 b hb).2⟩
  refine codeAny_forLoop_any (fun n s' => ∃ i σ' H', Inv X pins σ' H' s' ∧ tn i s'.heap ∧ (∀ b ∈ fp, H' b = none) ∧ W i n σ' H') ?_ m0 ⟨0, σ, H2, I2, st2, fun b hb => (f2 b hb).1, w0⟩
  rintro n s3 ⟨i, σ3, H3, I3, st3, fr3, w3⟩
  rcases turn i n σ3 H3 w3 with ⟨stop, qn⟩ | ⟨go, N, hN, step⟩
  · refine wpAny_passesOwn hp (thn (T.done X rfl rfl rfl hc i pins s3 σ3 H3 X.xe I3 (stat fr3) st3 stop) fun r s4 ⟨hr, I4⟩ => ?_)
    subst hr
    exact wpAny_execs_nil ⟨σ3, H3, I4, qn⟩
  · refine wpAny_passesOwn hp (thn (T.item X rfl rfl rfl hc i pins s3 σ3 H3 X.xe I3 (stat fr3) st3 go) fun r s4 ⟨u, hr, h4⟩ => ?_)
    subst hr
    refine wpAny_passesOwn hp (thn h4 fun _ s5 ⟨x, H5, I5, r5, y5, st5, fr5⟩ => ?_)
    have I5' := I5.pinned (stat fr5) (T.obj _ _ st5)
    refine wpAny_passesOwn hp (thn (hg _ s5 σ3 H5 x u _ I5' r5 (step x H5 y5)) fun _ s6 ⟨σ6, H6, I6, q6⟩ => ?_)
    refine wpAny_passesOwn hp (thn (hb _ s6 σ6 H6 _ I6 q6) fun f s7 q7 => ?_)
    have again : ∀ {σ7 : St} {H7 : Hp}, Inv X (pins ++ pinsAt fp s5.heap) σ7 H7 s7 → N σ7 H7 → ∃ m, m < n ∧ ∃ i σ' H', Inv X pins σ' H' s7 ∧ tn i s7.heap ∧ (∀ b ∈ fp, H' b = none) ∧ W i m σ' H' := fun {σ7 H7} I7 n7 => by
      obtain ⟨m', hm, w7⟩ := hN σ7 H7 n7
      refine ⟨m', hm, i + 1, σ7, H7, I7.unpinned, T.keep _ _ _ st5 fun b hb o e => (I7.pin (b, o) (List.mem_append_right _ (List.mem_append_right _ (mem_pinsAt hb e)))).1, fun b hb => ?_, w7⟩
      obtain ⟨o, e, d⟩ := T.obj _ _ st5 b hb
      exact (I7.pin (b, o) (List.mem_append_right _ (List.mem_append_right _ (mem_pinsAt hb e)))).2.1
    cases f with
    | next => obtain ⟨σ7, H7, I7, n7⟩ := q7; exact again I7 n7
    | cont => obtain ⟨σ7, H7, I7, n7⟩ := q7; exact again I7 n7
    | brk => obtain ⟨σ7, H7, I7, q7⟩ := q7; exact ⟨σ7, H7, I7.unpinned, q7⟩
    | ret v => obtain ⟨x7, σ7, H7, I7, r7, q7⟩ := q7; exact ⟨x7, σ7, H7, I7.unpinned, r7, q7⟩
end

/-! ### the forms one uses -/
/-- over a list that the body leaves as it is -/
theorem for_list {K : PySem.W.Frag} {a : Addr} {xs : List V} {g : TG} {tb : TS} {D : Ends} {σ : St} {H : Hp} (Pv : Nat → St → Hp → Prop) (h0 : Pv 0 σ H) (hl : ∀ i σ H, i ≤ xs.length → Pv i σ H → SqL K H a xs)
    (hs : ∀ i x σ H, xs[i]? = some x → Pv i σ H → g x σ H fun σ2 H2 => tb { D with nx := Pv (i + 1), ct := Pv (i + 1), bk := D.nx } σ2 H2) (hd : ∀ σ H, Pv xs.length σ H → D.nx σ H) :
    ∃ W : Nat → Nat → St → Hp → Prop, (∃ m, W 0 m σ H) ∧ ∀ i m σ H, W i m σ H →
      ((Itl K a).stop i H ∧ D.nx σ H) ∨ ((Itl K a).go i H ∧ ∃ N : St → Hp → Prop, (∀ σ' H', N σ' H' → ∃ m', m' < m ∧ W (i + 1) m' σ' H') ∧ ∀ x H', (Itl K a).yld i H x H' → g x σ H' fun σ2 H2 => tb { D with nx := N, ct := N, bk := D.nx } σ2 H2) := by
  refine ⟨fun i m σ H => m = xs.length - i ∧ i ≤ xs.length ∧ Pv i σ H, ⟨xs.length, by simp, Nat.zero_le _, h0⟩, ?_⟩
  rintro i m σ H ⟨rfl, hi, p⟩
  have q := hl i σ H hi p
  by_cases hlt : i < xs.length
  · refine .inr ⟨⟨xs, xs[i], q, by simp [hlt]⟩, Pv (i + 1), fun σ' H' p' => ⟨xs.length - (i + 1), by omega, rfl, hlt, p'⟩, fun x H' y => ?_⟩
    obtain ⟨e, y⟩ := y
    subst e
    exact hs i x σ _ (y xs q) p
  · have e : i = xs.length := by omega
    subst e
    exact .inl ⟨⟨xs, q, Nat.le_refl _⟩, hd σ H p⟩
theorem for_tup {K : PySem.W.Frag} {a : Addr} {xs : List V} {g : TG} {tb : TS} {D : Ends} {σ : St} {H : Hp} (Pv : Nat → St → Hp → Prop) (h0 : Pv 0 σ H) (hl : ∀ i σ H, i ≤ xs.length → Pv i σ H → SqT K H a xs)
    (hs : ∀ i x σ H, xs[i]? = some x → Pv i σ H → g x σ H fun σ2 H2 => tb { D with nx := Pv (i + 1), ct := Pv (i + 1), bk := D.nx } σ2 H2) (hd : ∀ σ H, Pv xs.length σ H → D.nx σ H) :
    ∃ W : Nat → Nat → St → Hp → Prop, (∃ m, W 0 m σ H) ∧ ∀ i m σ H, W i m σ H →
      ((Itt K a).stop i H ∧ D.nx σ H) ∨ ((Itt K a).go i H ∧ ∃ N : St → Hp → Prop, (∀ σ' H', N σ' H' → ∃ m', m' < m ∧ W (i + 1) m' σ' H') ∧ ∀ x H', (Itt K a).yld i H x H' → g x σ H' fun σ2 H2 => tb { D with nx := N, ct := N, bk := D.nx } σ2 H2) := by
  refine ⟨fun i m σ H => m = xs.length - i ∧ i ≤ xs.length ∧ Pv i σ H, ⟨xs.length, by simp, Nat.zero_le _, h0⟩, ?_⟩
  rintro i m σ H ⟨rfl, hi, p⟩
  have q := hl i σ H hi p
  by_cases hlt : i < xs.length
  · refine .inr ⟨⟨xs, xs[i], q, by simp [hlt]⟩, Pv (i + 1), fun σ' H' p' => ⟨xs.length - (i + 1), by omega, rfl, hlt, p'⟩, fun x H' y => ?_⟩
    obtain ⟨e, y⟩ := y
    subst e
    exact hs i x σ _ (y xs q) p
  · have e : i = xs.length := by omega
    subst e
    exact .inl ⟨⟨xs, q, Nat.le_refl _⟩, hd σ H p⟩
theorem for_range {lo : Int} {n : Nat} {g : TG} {tb : TS} {D : Ends} {σ : St} {H : Hp} (Pv : Nat → St → Hp → Prop) (h0 : Pv 0 σ H)
    (hs : ∀ i σ H, i < n → Pv i σ H → g (.int (lo + i)) σ H fun σ2 H2 => tb { D with nx := Pv (i + 1), ct := Pv (i + 1), bk := D.nx } σ2 H2) (hd : ∀ σ H, Pv n σ H → D.nx σ H) :
    ∃ W : Nat → Nat → St → Hp → Prop, (∃ m, W 0 m σ H) ∧ ∀ i m σ H, W i m σ H →
      ((Itr lo n).stop i H ∧ D.nx σ H) ∨ ((Itr lo n).go i H ∧ ∃ N : St → Hp → Prop, (∀ σ' H', N σ' H' → ∃ m', m' < m ∧ W (i + 1) m' σ' H') ∧ ∀ x H', (Itr lo n).yld i H x H' → g x σ H' fun σ2 H2 => tb { D with nx := N, ct := N, bk := D.nx } σ2 H2) := by
  refine ⟨fun i m σ H => m = n - i ∧ i ≤ n ∧ Pv i σ H, ⟨n, by simp, Nat.zero_le _, h0⟩, ?_⟩
  rintro i m σ H ⟨rfl, hi, p⟩
  by_cases hlt : i < n
  · refine .inr ⟨hlt, Pv (i + 1), fun σ' H' p' => ⟨n - (i + 1), by omega, rfl, hlt, p'⟩, fun x H' y => ?_⟩
    obtain ⟨e, y⟩ := y
    subst e y
    exact hs i σ _ hlt p
  · have e : i = n := by omega
    subst e
    exact .inl ⟨Nat.le_refl _, hd σ H p⟩
end L2

namespace L2
open PySem PySem.Spec PyProof.Rows

abbrev R2 := V → V → Hp → VK → Prop
/-- a two-place operation on values: f is binaryOp op, inplaceOp op or compareOp op -/
def OpR (X : Cx) (f : Value → Value → Sem Value) (r : R2) : Prop :=
  ∀ (pins : List (Addr × Obj)) (s : Shared) (σ : St) (H : Hp) (x y : V) (v u : Value) (Q : VK), Inv X pins σ H s → RelV x v → RelV y u → r x y H Q →
    wpAny (model X.prog X.w) X.A (f v u) (EP X pins σ Q) X.xe s
/-- a one-place operation -/
def UnR (X : Cx) (f : Value → Sem Value) (r : V → Hp → VK → Prop) : Prop :=
  ∀ (pins : List (Addr × Obj)) (s : Shared) (σ : St) (H : Hp) (x : V) (v : Value) (Q : VK), Inv X pins σ H s → RelV x v → r x H Q →
    wpAny (model X.prog X.w) X.A (f v) (EP X pins σ Q) X.xe s
/-- a call of a value that is known (a builtin, a type) with values -/
def CallR (X : Cx) (f : Value) (r : List V → Hp → VK → Prop) : Prop :=
  ∀ (pins : List (Addr × Obj)) (s : Shared) (σ : St) (H : Hp) (xs : List V) (us : List Value) (Q : VK), Inv X pins σ H s → Vals xs us → r xs H Q →
    wpAny (model X.prog X.w) X.A (call f us) (EP X pins σ Q) X.xe s
def tOp (r : R2) (ta tb : TE) : TE := fun σ H Q => ta σ H fun x H1 => tb σ H1 fun y H2 => r x y H2 Q
def tUn (r : V → Hp → VK → Prop) (ta : TE) : TE := fun σ H Q => ta σ H fun x H1 => r x H1 Q
/-- ints in, under C, and a value out -/
def rI (C : Int → Int → Prop) (g : Int → Int → V) : R2 := fun x y H Q => ∃ i j, x = .int i ∧ y = .int j ∧ C i j ∧ Q (g i j) H
def rI0 (g : Int → Int → V) : R2 := fun x y H Q => ∃ i j, x = .int i ∧ y = .int j ∧ Q (g i j) H
def rU (g : Int → V) : V → Hp → VK → Prop := fun x H Q => ∃ i, x = .int i ∧ Q (g i) H

section
variable {X : Cx} {a b c : Expr} {ta tb tc : TE} {pos : Pos}

theorem binT (ha : PE X a ta) (hb : PE X b tb) {pins : List (Addr × Obj)} {s : Shared} {σ : St} {H : Hp} {R : V → V → Hp → Prop} (I : Inv X pins σ H s)
    (h : ta σ H fun x H1 => tb σ H1 fun y H2 => R x y H2) {Q : Value → Shared → Prop} {f : Value → Value → Sem Value}
    (hf : ∀ v u s2 x y H2, Inv X pins σ H2 s2 → RelV x v → RelV y u → R x y H2 → wpAny (model X.prog X.w) X.A (f v u) Q X.xe s2) :
    wpAny (model X.prog X.w) X.A (eval a X.env) (fun v s₁ => wpAny (model X.prog X.w) X.A (eval b X.env) (fun u s₂ => wpAny (model X.prog X.w) X.A (f v u) Q X.xe s₂) X.xe s₁) X.xe s := by
  refine thn (ha pins s σ H _ I h) fun v s1 ⟨x, H1, I1, r1, q1⟩ => ?_
  refine thn (hb pins s1 σ H1 _ I1 q1) fun u s2 ⟨y, H2, I2, r2, q2⟩ => ?_
  exact hf v u s2 x y H2 I2 r1 r2 q2

theorem pe_op {op : Operator} {r : R2} (ho : OpR X (binaryOp op) r) (ha : PE X a ta) (hb : PE X b tb) : PE X (.BinOp a op b pos) (tOp r ta tb) := by
  intro pins s σ H Q I h
  exact wpAny_BinOp (binT ha hb I h fun v u s2 x y H2 I2 rx ry q => ho pins s2 σ H2 x y v u Q I2 rx ry q)
theorem pe_un {op : UnaryOp} {r : V → Hp → VK → Prop} (ho : UnR X (unaryOp op) r) (ha : PE X a ta) : PE X (.UnaryOp op a pos) (tUn r ta) := by
  intro pins s σ H Q I h
  exact UnaryOp_ (thn (ha pins s σ H _ I h) fun v s1 ⟨x, H1, I1, r1, q1⟩ => ho pins s1 σ H1 x v Q I1 r1 q1)
/-! ### ints -/
theorem opI {f : Value → Value → Sem Value} {C : Int → Int → Prop} {g : Int → Int → Int}
    (rule : ∀ (i j : Int) (t u : Tok) (s : Shared) (Q : Value → Shared → Prop) (E : Value → Shared → Prop), C i j → Q (.int (g i j) s.toks) { s with toks := s.toks + 1 } → wpAny (model X.prog X.w) X.A (f (.int i t) (.int j u)) Q E s) :
    OpR X f (rI C fun i j => .int (g i j)) := by
  intro pins s σ H x y v u Q I rx ry h
  obtain ⟨i, j, rfl, rfl, hc, q⟩ := h
  obtain ⟨t, rfl⟩ := rx
  obtain ⟨t', rfl⟩ := ry
  exact rule i j t t' s _ _ hc ⟨.int (g i j), H, I.tok _, ⟨_, rfl⟩, q⟩
theorem opI0 {f : Value → Value → Sem Value} {g : Int → Int → Int}
    (rule : ∀ (i j : Int) (t u : Tok) (s : Shared) (Q : Value → Shared → Prop) (E : Value → Shared → Prop), Q (.int (g i j) s.toks) { s with toks := s.toks + 1 } → wpAny (model X.prog X.w) X.A (f (.int i t) (.int j u)) Q E s) :
    OpR X f (rI0 fun i j => .int (g i j)) := by
  intro pins s σ H x y v u Q I rx ry h
  obtain ⟨i, j, rfl, rfl, q⟩ := h
  obtain ⟨t, rfl⟩ := rx
  obtain ⟨t', rfl⟩ := ry
  exact rule i j t t' s _ _ ⟨.int (g i j), H, I.tok _, ⟨_, rfl⟩, q⟩
theorem opB0 {f : Value → Value → Sem Value} {g : Int → Int → Bool}
    (rule : ∀ (i j : Int) (t u : Tok) (s : Shared) (Q : Value → Shared → Prop) (E : Value → Shared → Prop), Q (.bool (g i j)) s → wpAny (model X.prog X.w) X.A (f (.int i t) (.int j u)) Q E s) :
    OpR X f (rI0 fun i j => .bl (g i j)) := by
  intro pins s σ H x y v u Q I rx ry h
  obtain ⟨i, j, rfl, rfl, q⟩ := h
  obtain ⟨t, rfl⟩ := rx
  obtain ⟨t', rfl⟩ := ry
  exact rule i j t t' s _ _ ⟨.bl (g i j), H, I, rfl, q⟩

def CDiv (i j : Int) : Prop := 0 < j ∧ j < 1073741824
def CPow (i j : Int) : Prop := 0 ≤ j ∧ j ≤ 1000000 ∧ i.natAbs < 2 ^ 64
def CMul (i j : Int) : Prop := (-(2 ^ 64) < i ∧ i < 2 ^ 64) ∨ (-(2 ^ 64) < j ∧ j < 2 ^ 64)
theorem CMul.ok {i j : Int} (h : CMul i j) : IntMulOk i j := by
  rcases h with ⟨h1, h2⟩ | ⟨h1, h2⟩
  · exact .of_left (intBits_le_64 h1 h2)
  · exact .of_right (intBits_le_64 h1 h2)
theorem op_add : OpR X (binaryOp .Add) (rI0 fun i j => .int (i + j)) := opI0 fun _ _ _ _ _ _ _ q => add_int q
theorem op_sub : OpR X (binaryOp .Sub) (rI0 fun i j => .int (i - j)) := opI0 fun _ _ _ _ _ _ _ q => sub_int q
theorem op_mul : OpR X (binaryOp .Mult) (rI CMul fun i j => .int (i * j)) := opI fun _ _ _ _ _ _ _ hc q => mul_int q hc.ok
/-- // by a positive divisor -/
theorem op_fdiv : OpR X (binaryOp .FloorDiv) (rI CDiv fun i j => .int (i / j)) := opI fun i j _ _ _ _ _ hc q => by
  have h1 : (0 : Int) < j := hc.1
  have h2 : j < 1073741824 := hc.2
  exact floordiv_int (by omega) (by rw [Int.fdiv_eq_ediv_of_nonneg i (by omega)]; exact q) (.inl (PyProof.noPylong_small (by omega)))
/-- % by a positive divisor of any size -/
theorem op_mod : OpR X (binaryOp .Mod) (rI (fun _ j => 0 < j) fun i j => .int (i % j)) := opI fun i j _ _ _ _ _ hc q => by
  have h1 : (0 : Int) < j := hc
  exact mod_int' (by omega) (by rw [Int.fmod_eq_emod_of_nonneg i (by omega)]; exact q)
theorem op_pow : OpR X (binaryOp .Pow) (rI CPow fun i j => .int (i ^ j.toNat)) := opI fun _ _ _ _ _ _ _ hc q => pow_int_small hc.1 hc.2.1 hc.2.2 q
theorem unI {f : Value → Sem Value} {g : Int → Int}
    (rule : ∀ (i : Int) (t : Tok) (s : Shared) (Q : Value → Shared → Prop) (E : Value → Shared → Prop), Q (.int (g i) s.toks) { s with toks := s.toks + 1 } → wpAny (model X.prog X.w) X.A (f (.int i t)) Q E s) :
    UnR X f (rU fun i => .int (g i)) := by
  intro pins s σ H x v Q I rx h
  obtain ⟨i, rfl, q⟩ := h
  obtain ⟨t, rfl⟩ := rx
  exact rule i t s _ _ ⟨.int (g i), H, I.tok _, ⟨_, rfl⟩, q⟩
theorem un_neg : UnR X (unaryOp .USub) (rU fun i => .int (-i)) := unI fun _ _ _ _ _ q => neg_int q
end

/-! ### comparisons -/
/-- the scalars that == tells apart as data does -/
def scal : V → V → Bool
  | .non, .non => true | .non, .int _ => true | .int _, .non => true | .non, .bl _ => true | .bl _, .non => true | .non, .str _ => true | .str _, .non => true
  | .int _, .int _ => true | .bl _, .bl _ => true | .str _, .str _ => true | .byt _, .byt _ => true
  | .int _, .str _ => true | .str _, .int _ => true | .bl _, .str _ => true | .str _, .bl _ => true
  | _, _ => false
def rEq : R2 := fun x y H Q => scal x y = true ∧ Q (.bl (decide (x = y))) H
def rNe : R2 := fun x y H Q => scal x y = true ∧ Q (.bl (!decide (x = y))) H

theorem dec_int {i j : Int} : decide (V.int i = V.int j) = (i == j) := by
  rw [Bool.eq_iff_iff]
  simp
theorem dec_bl {i j : Bool} : decide (V.bl i = V.bl j) = (i == j) := by
  rw [Bool.eq_iff_iff]
  simp
theorem dec_str {i j : Str} : decide (V.str i = V.str j) = (i == j) := by
  rw [Bool.eq_iff_iff]
  simp
theorem dec_byt {i j : Array UInt8} : decide (V.byt i = V.byt j) = (i.toList == j.toList) := by
  rw [Bool.eq_iff_iff]
  cases i
  cases j
  simp

section
variable {X : Cx} {a b c : Expr} {ta tb tc : TE} {pos : Pos}
theorem fin_bl {pins : List (Addr × Obj)} {σ : St} {H : Hp} {s : Shared} {Q : VK} {k k' : Bool} (I : Inv X pins σ H s) (q : Q (.bl k) H) (e : k = k') : EP X pins σ Q (.bool k') s := by
  subst e
  exact ⟨.bl k, H, I, rfl, q⟩
theorem op_eq : OpR X (compareOp .Eq) rEq := by
  intro pins s σ H x y v u Q I rx ry h
  obtain ⟨hs, q⟩ := h
  cases x with
  | non =>
    cases rx
    cases y with
    | non => cases ry; exact PySem.EqNone.eq_none_none (fin_bl I q (by simp))
    | bl j => cases ry; exact PySem.EqNone.eq_none_bool (fin_bl I q (by simp))
    | int j => obtain ⟨t', rfl⟩ := ry; exact PySem.EqNone.eq_none_int (fin_bl I q (by simp))
    | str j => obtain ⟨t', rfl⟩ := ry; exact PySem.EqNone.eq_none_str (fin_bl I q (by simp))
    | _ => exact absurd (show false = true from hs) Bool.false_ne_true
  | bl i =>
    cases rx
    cases y with
    | non => cases ry; exact PySem.EqNone.eq_bool_none (fin_bl I q (by simp))
    | bl j => cases ry; exact eq_bool (fin_bl I q dec_bl)
    | str j => obtain ⟨t', rfl⟩ := ry; exact PySem.EqMixed.eq_bool_str (fin_bl I q (by simp))
    | _ => exact absurd (show false = true from hs) Bool.false_ne_true
  | int i =>
    obtain ⟨t, rfl⟩ := rx
    cases y with
    | non => cases ry; exact PySem.EqNone.eq_int_none (fin_bl I q (by simp))
    | int j => obtain ⟨t', rfl⟩ := ry; exact eq_int (fin_bl I q dec_int)
    | str j => obtain ⟨t', rfl⟩ := ry; exact PySem.EqMixed.eq_int_str (fin_bl I q (by simp))
    | _ => exact absurd (show false = true from hs) Bool.false_ne_true
  | str i =>
    obtain ⟨t, rfl⟩ := rx
    cases y with
    | non => cases ry; exact PySem.EqNone.eq_str_none (fin_bl I q (by simp))
    | bl j => cases ry; exact PySem.EqMixed.eq_str_bool (fin_bl I q (by simp))
    | int j => obtain ⟨t', rfl⟩ := ry; exact PySem.EqMixed.eq_str_int (fin_bl I q (by simp))
    | str j => obtain ⟨t', rfl⟩ := ry; exact eq_str (fin_bl I q dec_str)
    | _ => exact absurd (show false = true from hs) Bool.false_ne_true
  | byt i =>
    obtain ⟨t, rfl⟩ := rx
    cases y with
    | byt j => obtain ⟨t', rfl⟩ := ry; exact PySem.W.eq_bytes (fin_bl I q dec_byt)
    | _ => exact absurd (show false = true from hs) Bool.false_ne_true
  | _ => cases y <;> exact absurd (show false = true from hs) Bool.false_ne_true
theorem op_ne : OpR X (compareOp .NotEq) rNe := by
  intro pins s σ H x y v u Q I rx ry h
  obtain ⟨hs, q⟩ := h
  cases x with
  | non =>
    cases rx
    cases y with
    | non => cases ry; exact PySem.EqNone.ne_none_none (fin_bl I q (by simp))
    | bl j => cases ry; exact PySem.EqNone.ne_none_bool (fin_bl I q (by simp))
    | int j => obtain ⟨t', rfl⟩ := ry; exact PySem.EqNone.ne_none_int (fin_bl I q (by simp))
    | str j => obtain ⟨t', rfl⟩ := ry; exact PySem.EqNone.ne_none_str (fin_bl I q (by simp))
    | _ => exact absurd (show false = true from hs) Bool.false_ne_true
  | bl i =>
    cases rx
    cases y with
    | non => cases ry; exact PySem.EqNone.ne_bool_none (fin_bl I q (by simp))
    | bl j => cases ry; exact ne_bool (fin_bl I q (congrArg not dec_bl))
    | str j => obtain ⟨t', rfl⟩ := ry; exact PySem.EqMixed.ne_bool_str (fin_bl I q (by simp))
    | _ => exact absurd (show false = true from hs) Bool.false_ne_true
  | int i =>
    obtain ⟨t, rfl⟩ := rx
    cases y with
    | non => cases ry; exact PySem.EqNone.ne_int_none (fin_bl I q (by simp))
    | int j => obtain ⟨t', rfl⟩ := ry; exact ne_int (fin_bl I q (congrArg not dec_int))
    | str j => obtain ⟨t', rfl⟩ := ry; exact PySem.EqMixed.ne_int_str (fin_bl I q (by simp))
    | _ => exact absurd (show false = true from hs) Bool.false_ne_true
  | str i =>
    obtain ⟨t, rfl⟩ := rx
    cases y with
    | non => cases ry; exact PySem.EqNone.ne_str_none (fin_bl I q (by simp))
    | bl j => cases ry; exact PySem.EqMixed.ne_str_bool (fin_bl I q (by simp))
    | int j => obtain ⟨t', rfl⟩ := ry; exact PySem.EqMixed.ne_str_int (fin_bl I q (by simp))
    | str j => obtain ⟨t', rfl⟩ := ry; exact ne_str (fin_bl I q (congrArg not dec_str))
    | _ => exact absurd (show false = true from hs) Bool.false_ne_true
  | byt i =>
    obtain ⟨t, rfl⟩ := rx
    cases y with
    | byt j => obtain ⟨t', rfl⟩ := ry; exact PySem.W.ne_bytes (fin_bl I q (congrArg not dec_byt))
    | _ => exact absurd (show false = true from hs) Bool.false_ne_true
  | _ => cases y <;> exact absurd (show false = true from hs) Bool.false_ne_true

theorem op_lt : OpR X (compareOp .Lt) (rI0 fun i j => .bl (decide (i < j))) := opB0 fun _ _ _ _ _ _ _ q => lt_int q
theorem op_le : OpR X (compareOp .LtE) (rI0 fun i j => .bl (decide (i ≤ j))) := opB0 fun _ _ _ _ _ _ _ q => le_int q
theorem op_gt : OpR X (compareOp .Gt) (rI0 fun i j => .bl (decide (j < i))) := opB0 fun _ _ _ _ _ _ _ q => gt_int q
theorem op_ge : OpR X (compareOp .GtE) (rI0 fun i j => .bl (decide (j ≤ i))) := opB0 fun _ _ _ _ _ _ _ q => ge_int q
theorem op_notN : OpR X (compareOp .IsNot) (fun x y H Q => y = .non ∧ Q (.bl (!decide (x = .non))) H) := by
  intro pins s σ H x y v u Q I rx ry h
  obtain ⟨rfl, q⟩ := h
  cases ry
  refine isnot_none_gen (fin_bl I q ?_)
  cases x <;> first
    | (cases rx; rfl)
    | (obtain ⟨t, rfl⟩ := rx; rfl)

theorem nomark (b : Expr) {op : CmpOp} (h : op ≠ .In := by decide) (h2 : op ≠ .NotIn := by decide) : behindInMarks op b = false := by
  have e1 : (op == CmpOp.In) = false := by cases op <;> first | rfl | exact absurd rfl h
  have e2 : (op == CmpOp.NotIn) = false := by cases op <;> first | rfl | exact absurd rfl h2
  cases b <;> simp [behindInMarks, e1, e2]
/-- a comparison as a value; hm: nomark b, or (for in, not in) by with_unfolding_all rfl -/
theorem pe_cmpR {op : CmpOp} {r : R2} (ho : OpR X (compareOp op) r) (ha : PE X a ta) (hb : PE X b tb) (hm : behindInMarks op b = false) : PE X (.Compare a [op] [b] pos) (tOp r ta tb) := by
  intro pins s σ H Q I h
  exact wpAny_Compare1 (binT ha hb I h fun v u s2 x y H2 I2 rx ry q => ho pins s2 σ H2 x y v u Q I2 rx ry q) hm
/-- a reading of a value as a test -/
def tTest (t : TE) : TT := fun σ H Q => t σ H fun x H' => ∃ k, x = .bl k ∧ Q k H'
theorem pt_cmpR {op : CmpOp} {r : R2} (ho : OpR X (compareOp op) r) (ha : PE X a ta) (hb : PE X b tb) (hm : behindInMarks op b = false) : PT X (.Compare a [op] [b] pos) (tTest (tOp r ta tb)) := by
  intro pins s σ H Q I h
  refine wpAny_isTrue_Compare1 (thn (ha pins s σ H _ I h) fun v s1 ⟨x, H1, I1, r1, q1⟩ => thn (hb pins s1 σ H1 _ I1 q1) fun u s2 ⟨y, H2, I2, r2, q2⟩ =>
    thn (ho pins s2 σ H2 x y v u _ I2 r1 r2 q2) fun c s3 ⟨z, H3, I3, r3, k, e, q3⟩ => ?_) hm
  subst e
  cases r3
  exact wpAny_truthy_bool ⟨H3, I3, q3⟩
/-- a op1 b op2 c -/
def tChain (r r' : R2) (ta tb tc : TE) : TE := fun σ H Q => ta σ H fun x H1 => tb σ H1 fun y H2 => r x y H2 fun z H3 => ∃ k, z = .bl k ∧
  (if k = true then tc σ H3 fun w' H4 => r' y w' H4 Q else Q (.bl false) H3)
theorem pe_chain {op op' : CmpOp} {r r' : R2} (ho : OpR X (compareOp op) r) (ho' : OpR X (compareOp op') r') (ha : PE X a ta) (hb : PE X b tb) (hc : PE X c tc)
    (hm : lastMarks [op, op'] [b, c] = false := by with_unfolding_all rfl) : PE X (.Compare a [op, op'] [b, c] pos) (tChain r r' ta tb tc) := by
  intro pins s σ H Q I h
  refine Compare_chain (thn (ha pins s σ H _ I h) fun v s1 ⟨x, H1, I1, r1, q1⟩ => chain_link (thn (hb pins s1 σ H1 _ I1 q1) fun u s2 ⟨y, H2, I2, r2, q2⟩ =>
    thn (ho pins s2 σ H2 x y v u _ I2 r1 r2 q2) fun d s3 ⟨z, H3, I3, r3, k, e, q3⟩ => ?_)) hm
  subst e
  cases r3
  refine wpAny_truthy_bool ?_
  cases k with
  | false => exact ite_ff ⟨.bl false, H3, I3, rfl, q3⟩
  | true => exact ite_tt (chain_last (thn (hc pins s3 σ H3 _ I3 q3) fun w' s4 ⟨z', H4, I4, r4, q4⟩ => ho' pins s4 σ H4 y z' u w' Q I4 r2 r4 q4))
theorem pt_chain {op op' : CmpOp} {r r' : R2} (ho : OpR X (compareOp op) r) (ho' : OpR X (compareOp op') r') (ha : PE X a ta) (hb : PE X b tb) (hc : PE X c tc)
    (hm : lastMarks [op, op'] [b, c] = false := by with_unfolding_all rfl) : PT X (.Compare a [op, op'] [b, c] pos) (tTest (tChain r r' ta tb tc)) := by
  intro pins s σ H Q I h
  refine isTrue_chain (thn (ha pins s σ H _ I h) fun v s1 ⟨x, H1, I1, r1, q1⟩ => test_link (thn (hb pins s1 σ H1 _ I1 q1) fun u s2 ⟨y, H2, I2, r2, q2⟩ =>
    thn (ho pins s2 σ H2 x y v u _ I2 r1 r2 q2) fun d s3 ⟨z, H3, I3, r3, k, e, q3⟩ => ?_)) hm
  subst e
  cases r3
  refine wpAny_truthy_bool ?_
  cases k with
  | false =>
    obtain ⟨k', e', q'⟩ := q3
    cases e'
    exact ite_ff ⟨H3, I3, q'⟩
  | true =>
    refine ite_tt (test_last (thn (hc pins s3 σ H3 _ I3 q3) fun w' s4 ⟨z', H4, I4, r4, q4⟩ => thn (ho' pins s4 σ H4 y z' u w' _ I4 r2 r4 q4) fun d' s5 ⟨z2, H5, I5, r5, k2, e2, q5⟩ => ?_))
    subst e2
    cases r5
    exact wpAny_truthy_bool ⟨H5, I5, q5⟩

theorem line63 : (sizeLine : Nat) < 2 ^ 63 := by rw [sizeLine_eq]; decide
/-! ### scalar builtins, by CallR -/
theorem vals1 {x : V} {us : List Value} (r : Vals [x] us) : ∃ u, us = [u] ∧ RelV x u := by
  cases r with
  | cons r1 r2 => cases r2; exact ⟨_, rfl, r1⟩
theorem vals2 {x y : V} {us : List Value} (r : Vals [x, y] us) : ∃ u w', us = [u, w'] ∧ RelV x u ∧ RelV y w' := by
  cases r with
  | cons r1 r2 =>
    cases r2 with
    | cons r3 r4 => cases r4; exact ⟨_, _, rfl, r1, r3⟩
theorem call_abs : CallR X (.builtin "abs") (fun xs H Q => ∃ i, xs = [.int i] ∧ Q (.int (if i < 0 then -i else i)) H) := by
  intro pins s σ H xs us Q I r h
  obtain ⟨i, rfl, q⟩ := h
  obtain ⟨u, rfl, t, rfl⟩ := vals1 r
  exact call_abs_int fun u tk => ⟨.int (if i < 0 then -i else i), H, I.tok _, ⟨_, rfl⟩, q⟩
theorem call_max2 (hc : X.calm = true) : CallR X (.builtin "max") (fun xs H Q => ∃ i j, xs = [.int i, .int j] ∧ Q (.int (if j > i then j else i)) H) := by
  intro pins s σ H xs us Q I r h
  obtain ⟨i, j, rfl, q⟩ := h
  obtain ⟨u, w', rfl, ⟨t, rfl⟩, ⟨t', rfl⟩⟩ := vals2 r
  refine max_two_ints (I.ok.hd hc) fun h' tk k => ⟨_, H, I.kept k, ?_, q⟩
  by_cases hj : j > i
  · rw [if_pos hj, if_pos hj]; exact ⟨_, rfl⟩
  · rw [if_neg hj, if_neg hj]; exact ⟨_, rfl⟩
theorem call_min2 (hc : X.calm = true) : CallR X (.builtin "min") (fun xs H Q => ∃ i j, xs = [.int i, .int j] ∧ Q (.int (if j < i then j else i)) H) := by
  intro pins s σ H xs us Q I r h
  obtain ⟨i, j, rfl, q⟩ := h
  obtain ⟨u, w', rfl, ⟨t, rfl⟩, ⟨t', rfl⟩⟩ := vals2 r
  refine min_two_ints (I.ok.hd hc) fun h' tk k => ⟨_, H, I.kept k, ?_, q⟩
  by_cases hj : j < i
  · rw [if_pos hj, if_pos hj]; exact ⟨_, rfl⟩
  · rw [if_neg hj, if_neg hj]; exact ⟨_, rfl⟩
theorem call_int1 : CallR X (.type "int") (fun xs H Q => (∃ i, xs = [.int i] ∧ Q (.int i) H) ∨ ∃ k, xs = [.bl k] ∧ Q (.int (if k then 1 else 0)) H) := by
  intro pins s σ H xs us Q I r h
  rcases h with ⟨i, rfl, q⟩ | ⟨k, rfl, q⟩
  · obtain ⟨u, rfl, t, rfl⟩ := vals1 r
    exact call_int_int ⟨.int i, H, I, ⟨_, rfl⟩, q⟩
  · obtain ⟨u, rfl, r1⟩ := vals1 r
    cases r1
    exact call_int_bool ⟨.int (if k then 1 else 0), H, I.tok _, ⟨_, rfl⟩, q⟩
end
end L2

namespace L2
open PySem PySem.Spec PyProof.Rows

/-! ### an instance, its attributes a map -/
structure ObjM (h : Heap) (x dx C : Addr) (mA : Str → Option Value) : Prop where
  obj : h.get? x = some (PySem.W.instObj C dx)
  ns : h.Ns1 dx mA
  ne : dx ≠ x

theorem lookIn_ns {h : Heap} {dx : Addr} {mA : Str → Option Value} (n : h.Ns1 dx mA) : ∃ od, h.get? dx = some od ∧ ∀ name, PySem.W.lookIn name od = some (mA name) := by
  obtain ⟨o, es, ep, ho, hd, hk, _, hm⟩ := n
  refine ⟨o, ho, fun name => ?_⟩
  have e := hm name
  unfold nsFind findBy at e
  rw [← Array.find?_toList] at e
  unfold PySem.W.lookIn
  rw [hd]
  dsimp only
  split
  · rename_i y q
    rw [q] at e
    exact congrArg some e
  · rename_i q
    rw [q] at e
    have a : es.toList.any (·.refKey) = false := by
      rw [List.any_eq_false]
      intro y hy
      obtain ⟨z, t, hkey⟩ := hk y (Array.mem_toList_iff.mp hy)
      simp [DictEntry.refKey, hkey]
    have a' : ¬ es.toList.any (·.refKey) = true := by rw [a]; exact Bool.false_ne_true
    rw [if_neg a']
    exact congrArg some e

theorem ObjM.look {h : Heap} {x dx C : Addr} {mA : Str → Option Value} (I : ObjM h x dx C mA) : ∃ od, PySem.W.InstAt h x (PySem.W.instObj C dx) C (some od) ∧ ∀ name, PySem.W.lookIn name od = some (mA name) :=
  let ⟨od, ho, hl⟩ := lookIn_ns I.ns
  ⟨od, ⟨I.obj, rfl, rfl, ho⟩, hl⟩

section
variable {prog : Program} {w : World} {A : Around} {E : Value → Shared → Prop} {s : Shared} {K : PySem.W.Frag} {x dx C f : Addr} {mA : Str → Option Value} {name : Str} {v : Value}

theorem get_map {expr : Bool} {Q : Value → Shared → Prop} (X : K.In s.heap) (I : ObjM s.heap x dx C mA) (hg : PySem.W.plainGet K C name = true) (hh : PySem.W.hasDictIn K C = true)
    (ha : PySem.W.findIn K (.ref C) name = some none) (hv : mA name = some v) (hv' : PySem.W.handedIn v = true) (h : Q v { s with toks := s.toks + 1 }) :
    wpAny (model prog w) A (getAttr (.ref x) name expr) Q E s := by
  obtain ⟨od, J, hl⟩ := I.look
  exact PySem.W.get_value X J (PySem.W.plainGet_of hg).1 (PySem.W.findObj_own hh ha rfl (by rw [hl, hv])) hv' h

theorem get_meth {pl : Sem Bool} {Q : Value × List Value → Shared → Prop} (X : K.In s.heap) (I : ObjM s.heap x dx C mA) (hg : PySem.W.plainGet K C name = true)
    (hf : PySem.W.findIn K (.ref C) name = some (some (.ref f))) (ht : PySem.W.isFn K (.ref f) = true) (hv : mA name = none) (h : Q (.ref f, [.ref x]) s) :
    wpAny (model prog w) A (getMethod (.ref x) name pl) Q E s := by
  obtain ⟨od, J, hl⟩ := I.look
  exact PySem.W.method_fn X J (PySem.W.plainGet_of hg).1 (PySem.W.plainGet_of hg).2 hf (beq_iff_eq.mp ht) (by show (PySem.W.lookIn name od).map (·.isSome) = some false; rw [hl, hv]; rfl) h

theorem set_map {ns : List Str} {Q : Unit → Shared → Prop} (X : K.In s.heap) (I : ObjM s.heap x dx C mA)
    (hs : PySem.W.findIn K (.ref C) "__setattr__" = some (some (.builtin "object.__setattr__"))) (hp : PySem.W.plainOver K C = true) (ht : PySem.W.takerIn K C name = some none) (hh : PySem.W.hasDictIn K C = true)
    (hw : PySem.Within mA ns) (hsz : ns.length ≤ sizeLine)
    (h : ∀ h', ObjM h' x dx C (fun y => if y = name then some v else mA y) → Heap.SameBut dx s.heap h' → Q () { s with heap := h', toks := s.toks + 2 }) :
    wpAny (model prog w) A (setAttr (.ref x) name v) Q E s := by
  obtain ⟨od, J, hl⟩ := I.look
  refine PySem.W.set_plain X J hs (PySem.W.osa_open (s := { s with toks := s.toks + 1 }) (r := none) X J hp ht fun b => ?_)
  obtain ⟨cd, hc, hd'⟩ := PySem.W.any_some hh
  have hx : s.heap.get? x = some ⟨.ref C, some dx, .plain, #[]⟩ := I.obj
  refine wpAny_bind (wpAny_pure (wpAny_bind (wpAny_bind (wpAny_loadPart hx (wpAny_bind (PySem.W.Looks.here (s := { s with toks := s.toks + 1 }) (PySem.W.looks_clsIn X hc) ?_))))))
  rw [hd']
  refine wpAny_pure (a := some dx) (wpAny_bind (wpAny_pure (wpAny_bind ?_)))
  refine wpAny_nsSet1 (s := { s with toks := s.toks + 1 }) I.ns fun h' hn2 hs2 => ?_
  obtain ⟨oD, esD, epD, hoD, hdD, hcD⟩ := hn2.count (PySem.Within.cons name v hw)
  refine wpAny_bind (wpAny_lookBehind hoD (by rw [hdD]; exact pastItsLine_dict (Nat.le_trans hcD (by rw [List.length_cons]; omega))) ?_)
  exact wpAny_pure (h _ ⟨(hs2.2 _ (Ne.symm I.ne)).trans I.obj, hn2, I.ne⟩ hs2)

/-- C(..): the dict at the heap's end, the instance behind it; then its __init__ -/
theorem make_map {R : Result → Shared → Prop} {vs : List Value} {kw : List (Str × Value)} (X : K.In s.heap) (hm : PySem.W.makesIn K C = true)
    (hi : PySem.W.findIn K (.ref C) "__init__" = some (some (.ref f))) (hf : PySem.W.typeIn K (.ref f) = some (.type "function"))
    (h : codeAny (model prog w) (A.under (.builtin "type.__call__" ⟨.ref C :: vs, kw⟩)) (.call (.ref f) ⟨.ref (s.heap.objs.size + 1) :: vs, kw⟩) (PySem.W.InitBack (s.heap.objs.size + 1) R)
      { s with heap := (s.heap.push PySem.W.emptyDict).push (PySem.W.instObj C s.heap.objs.size) }) :
    codeAny (model prog w) A (.call (.ref C) ⟨vs, kw⟩) R s := by
  obtain ⟨hh, g, d, t, os⟩ := s
  exact PySem.W.make_core (PySem.W.makes_of X hm) (PySem.W.looks_findIn X hi) (fun self => PySem.W.bind_fn X self hf) (.inl rfl) h
end

/-! ### the attributes as a list of pairs -/
def putF (f : Str) (v : V) : List (Str × V) → List (Str × V)
  | [] => [(f, v)]
  | (g, x) :: r => if g = f then (g, v) :: r else (g, x) :: putF f v r
theorem lookup_putF (f g : Str) (v : V) : ∀ fs : List (Str × V), (putF f v fs).lookup g = if g = f then some v else fs.lookup g
  | [] => by
    show List.lookup g [(f, v)] = _
    by_cases h : g = f
    · have hb : (g == f) = true := beq_iff_eq.mpr h
      simp only [List.lookup, hb, if_pos h]
    · have hb : (g == f) = false := beq_eq_false_iff_ne.mpr h
      simp only [List.lookup, hb, if_neg h]
  | (k, x) :: r => by
    have ih := lookup_putF f g v r
    rw [show putF f v ((k, x) :: r) = (if k = f then (k, v) :: r else (k, x) :: putF f v r) from rfl]
    by_cases hk : k = f
    · rw [if_pos hk]
      by_cases h : g = k
      · have hb : (g == k) = true := beq_iff_eq.mpr h
        simp only [List.lookup, hb, if_pos (h.trans hk)]
      · have hb : (g == k) = false := beq_eq_false_iff_ne.mpr h
        simp only [List.lookup, hb, if_neg (fun e : g = f => h (e.trans hk.symm))]
    · rw [if_neg hk]
      by_cases h : g = k
      · have hb : (g == k) = true := beq_iff_eq.mpr h
        simp only [List.lookup, hb, if_neg (fun e : g = f => hk (h.symm.trans e))]
      · have hb : (g == k) = false := beq_eq_false_iff_ne.mpr h
        simp only [List.lookup, hb]
        exact ih
theorem keys_putF (f : Str) (v : V) : ∀ fs : List (Str × V), f ∈ (putF f v fs).map (·.1) ∧ ∀ g, g ∈ fs.map (·.1) → g ∈ (putF f v fs).map (·.1)
  | [] => ⟨by simp [putF], fun g h => by simp at h⟩
  | (k, x) :: r => by
    obtain ⟨i1, i2⟩ := keys_putF f v r
    rw [show putF f v ((k, x) :: r) = (if k = f then (k, v) :: r else (k, x) :: putF f v r) from rfl]
    by_cases hk : k = f
    · rw [if_pos hk]
      subst hk
      exact ⟨by simp, fun g h => by simpa using h⟩
    · rw [if_neg hk]
      refine ⟨?_, fun g h => ?_⟩
      · rw [List.map_cons]
        exact List.mem_cons_of_mem _ i1
      · rw [List.map_cons] at h ⊢
        rcases List.mem_cons.mp h with e | e
        · exact List.mem_cons.mpr (.inl e)
        · exact List.mem_cons_of_mem _ (i2 g e)
theorem length_putF (f : Str) (v : V) : ∀ fs : List (Str × V), (putF f v fs).length ≤ fs.length + 1
  | [] => by simp [putF]
  | (k, x) :: r => by
    have ih := length_putF f v r
    rw [show putF f v ((k, x) :: r) = (if k = f then (k, v) :: r else (k, x) :: putF f v r) from rfl]
    by_cases hk : k = f
    · rw [if_pos hk, List.length_cons, List.length_cons]; omega
    · rw [if_neg hk, List.length_cons, List.length_cons]; omega

theorem RelO.some_of {v : V} {o : Option Value} (r : RelO (some v) o) : ∃ u, o = some u ∧ RelV v u := by
  cases o with
  | none => exact (show False from r).elim
  | some u => exact ⟨u, rfl, r⟩
theorem RelO.none_of {o : Option Value} (r : RelO none o) : o = none := by
  cases o with
  | none => rfl
  | some u => exact (show False from r).elim
theorem handed_of {v : V} {u : Value} (r : RelV v u) : PySem.W.handedIn u = true := by
  cases v with
  | non => cases (show u = Value.none from r); rfl
  | bl b => cases (show u = Value.bool b from r); rfl
  | int i => obtain ⟨t, e⟩ := (show ∃ t, u = Value.int i t from r); cases e; rfl
  | str x => obtain ⟨t, e⟩ := (show ∃ t, u = Value.str x t from r); cases e; rfl
  | byt b => obtain ⟨t, e⟩ := (show ∃ t, u = Value.bytes b t from r); cases e; rfl
  | flt b => obtain ⟨t, e⟩ := (show ∃ t, u = Value.float b t from r); cases e; rfl
  | ref a => cases (show u = Value.ref a from r); rfl
  | ty n => cases (show u = Value.type n from r); rfl

section
variable {P : Program} {w : World} {H H' : Hp} {h h' : Heap} {a C dx : Addr} {fs fs' : List (Str × V)}
theorem ins_get (hok : HOk P w H h) (e : H a = some (.ins C dx fs)) : ∃ mA, ObjM h a dx C mA ∧ (∀ f, RelO (fs.lookup f) (mA f)) ∧ PySem.Within mA (fs.map (·.1)) ∧ fs.length ≤ 1000 ∧ H dx = some (.own a) := by
  obtain ⟨d, z, ne, ob, mA, n, r, q⟩ := (show ObjOk P w H h a (.ins C dx fs) from hok a _ e)
  exact ⟨mA, ⟨ob, n, ne⟩, r, q, z, d⟩
end

/-! ### what of the text a class must have -/
structure Cls (K : PySem.W.Frag) (C : Addr) : Prop where
  pg : PySem.W.plainGet K C Str.empty = true
  hd : PySem.W.hasDictIn K C = true
  po : PySem.W.plainOver K C = true
  sa : PySem.W.findIn K (.ref C) "__setattr__" = some (some (.builtin "object.__setattr__"))
theorem Cls.get {K : PySem.W.Frag} {C : Addr} (c : Cls K C) (f : Str) : PySem.W.plainGet K C f = true := c.pg
/-- no class of it has the name -/
def NoAttr (K : PySem.W.Frag) (C : Addr) (f : Str) : Prop := PySem.W.findIn K (.ref C) f = some none
theorem NoAttr.taker {K : PySem.W.Frag} {C : Addr} {f : Str} (n : NoAttr K C f) : PySem.W.takerIn K C f = some none := by
  unfold PySem.W.takerIn
  rw [show PySem.W.findIn K (.ref C) f = some none from n]
  rfl
/-- a method: a plain def of the class or of one above it -/
structure Meth (K : PySem.W.Frag) (C : Addr) (m : Str) (f : Addr) : Prop where
  at_ : PySem.W.findIn K (.ref C) m = some (some (.ref f))
  fn : PySem.W.isFn K (.ref f) = true
  kp : PySem.W.keepIn K (.ref f) = true

section
variable {X : Cx} {pins : List (Addr × Obj)} {σ : St} {H : Hp} {s : Shared} {a C dx : Addr} {fs : List (Str × V)} {f : Str} {v : V} {A : Around} {E : Value → Shared → Prop}

theorem getattr_ok {b : Bool} {Q : Value → Shared → Prop} (I : Inv X pins σ H s) (e : H a = some (.ins C dx fs)) (c : Cls X.K C) (n : NoAttr X.K C f) (l : fs.lookup f = some v)
    (h : ∀ u s', Inv X pins σ H s' → RelV v u → Q u s') : wpAny (model X.prog X.w) A (getAttr (.ref a) f b) Q E s := by
  obtain ⟨mA, O, r, _, _, _⟩ := ins_get I.hok e
  obtain ⟨u, hu, ru⟩ := RelO.some_of (v := v) (o := mA f) (by rw [← l]; exact r f)
  exact get_map I.kIn O (c.get f) c.hd n hu (handed_of ru) (h u _ (I.tok _) ru)

theorem getmeth_ok {m : Str} {g : Addr} {pl : Sem Bool} {Q : Value × List Value → Shared → Prop} (I : Inv X pins σ H s) (e : H a = some (.ins C dx fs)) (c : Cls X.K C) (k : Meth X.K C m g) (l : fs.lookup m = none)
    (h : Q (.ref g, [.ref a]) s) : wpAny (model X.prog X.w) A (getMethod (.ref a) m pl) Q E s := by
  obtain ⟨mA, O, r, _, _, _⟩ := ins_get I.hok e
  have hn : mA m = none := RelO.none_of (by rw [← l]; exact r m)
  exact get_meth I.kIn O (c.get m) k.at_ k.fn hn h

theorem setattr_ok {y : V} {u : Value} {Q : Unit → Shared → Prop} (I : Inv X pins σ H s) (e : H a = some (.ins C dx fs)) (c : Cls X.K C) (n : NoAttr X.K C f) (hl : fs.length < 1000) (ry : RelV y u)
    (h : ∀ s', Inv X pins σ (upd H a (.ins C dx (putF f y fs))) s' → Q () s') : wpAny (model X.prog X.w) A (setAttr (.ref a) f u) Q E s := by
  obtain ⟨mA, O, r, wi, _, ho⟩ := ins_get I.hok e
  have hz : (fs.map (·.1)).length ≤ sizeLine := by rw [List.length_map, sizeLine_eq]; omega
  refine set_map I.kIn O c.sa c.po n.taker c.hd wi hz fun h' O' sb => h _ ?_
  have hd : ∃ o, h'.get? dx = some o := let ⟨o, _, _, e', _⟩ := O'.ns; ⟨o, e'⟩
  refine I.write (x := a) (e := dx) (by rw [e]; exact True.intro) (.inr ho) (fun b q hb z => (sb.2 b hb).trans z) hd ?_
  refine ⟨by rw [upd_ne O.ne]; exact ho, ?_, O.ne, O'.obj, _, O'.ns, fun g => ?_, fun g hg => ?_⟩
  · have := length_putF f y fs; omega
  · show RelO ((putF f y fs).lookup g) (if g = f then some u else mA g)
    rw [lookup_putF]
    by_cases q : g = f
    · rw [if_pos q, if_pos q]; exact ry
    · rw [if_neg q, if_neg q]; exact r g
  · by_cases q : g = f
    · rw [q]; exact (keys_putF f y fs).1
    · refine (keys_putF f y fs).2 g (wi g fun z => hg ?_)
      show (if g = f then some u else mA g) = none
      rw [if_neg q]; exact z

/-- a new instance, tracked, without attributes -/
theorem Inv.made (I : Inv X pins σ H s) : Inv X pins σ (upd (upd H s.heap.objs.size (.own (s.heap.objs.size + 1))) (s.heap.objs.size + 1) (.ins C s.heap.objs.size []))
    { s with heap := (s.heap.push PySem.W.emptyDict).push (PySem.W.instObj C s.heap.objs.size) } := by
  have e1 : (s.heap.push PySem.W.emptyDict).get? s.heap.objs.size = some PySem.W.emptyDict := Heap.get?_push_size s.heap rfl
  have e2 : ((s.heap.push PySem.W.emptyDict).push (PySem.W.instObj C s.heap.objs.size)).get? (s.heap.objs.size + 1) = some (PySem.W.instObj C s.heap.objs.size) := by
    have := Heap.get?_push_size (s.heap.push PySem.W.emptyDict) (o := PySem.W.instObj C s.heap.objs.size) rfl
    rwa [Heap.size_push] at this
  have e3 : (s.heap.push PySem.W.emptyDict).Ns s.heap.objs.size (fun _ => none) := ⟨PySem.W.emptyDict, #[], _, e1, rfl, (fun e he => absurd he (by simp)), fun _ => rfl⟩
  have I1 := I.laid (a := s.heap.objs.size) (o := .own (s.heap.objs.size + 1)) (h' := s.heap.push PySem.W.emptyDict) (t' := s.toks) (fun b u q => Heap.get?_push_of_some _ q) (Nat.le_refl _) ⟨_, e1⟩
  refine I1.laid (a := s.heap.objs.size + 1) (o := .ins C s.heap.objs.size []) (t' := s.toks) (fun b u q => Heap.get?_push_of_some _ q) (Nat.le_of_eq (Heap.size_push _ _)) ?_
  have ne : s.heap.objs.size ≠ s.heap.objs.size + 1 := Nat.ne_of_lt (Nat.lt_succ_self _)
  refine ⟨by rw [upd_ne ne, upd_same], Nat.zero_le _, ne, e2, fun _ => none, (Heap.Ns1.of_empty e3).at fun o q => Heap.get?_push_of_some _ q, fun _ => True.intro, fun y hy => absurd rfl hy⟩

/-- e.f where nothing but the object is asked: through attributeBase (super) and the last hold -/
theorem attr_of {prog : Program} {w : World} {env : Env} {e : Expr} {f : Str} {pos : Pos} {s : Shared} {Q : Value → Shared → Prop} (hb : attributeBase e f env (eval e env) = eval e env)
    (h : wpAny (model prog w) A (eval e env) (fun o s₁ => wpAny (model prog w) A (getAttr o f true) Q E s₁) E s) : wpAny (model prog w) A (eval (.Attribute e f pos) env) Q E s :=
  Attribute_any_ h (by rw [arm_eval_Attribute, hb])
end

/-! ### readings and rules -/
/-- e.f, an attribute of the instance -/
def tFld (K : PySem.W.Frag) (ta : TE) (f : Str) : TE := fun σ H Q => ta σ H fun x H1 => ∃ a C dx fs v, x = .ref a ∧ H1 a = some (.ins C dx fs) ∧ Cls K C ∧ NoAttr K C f ∧ fs.lookup f = some v ∧ Q v H1
/-- an augmented operator on two values -/
def InOp (X : Cx) (op : Operator) (rd : V → V → Hp → VK → Prop) : Prop :=
  ∀ (pins : List (Addr × Obj)) (s : Shared) (σ : St) (H : Hp) (x y : V) (u v : Value) (Q : VK), Inv X pins σ H s → RelV x u → RelV y v → rd x y H Q → wpAny (model X.prog X.w) X.A (inplaceOp op u v) (EP X pins σ Q) X.xe s
section
variable {X : Cx} {o e value : Expr} {f : Str} {pos pos' tpos : Pos} {ta tv : TE}
theorem pe_fld (he : PE X e ta) (hb : attributeBase e f X.env (eval e X.env) = eval e X.env) : PE X (.Attribute e f pos) (tFld X.K ta f) := by
  intro pins s σ H Q I h
  refine attr_of hb (thn (he pins s σ H _ I h) fun u s1 ⟨x, H1, I1, rx, a, C, dx, fs, v, ex, ea, c, n, l, q⟩ => ?_)
  subst ex
  obtain rfl : u = Value.ref a := rx
  exact getattr_ok I1 ea c n l fun u' s2 I2 ru => ⟨v, H1, I2, ru, q⟩
def rAdd : V → V → Hp → VK → Prop := fun x y H Q => ∃ i j, x = .int i ∧ y = .int j ∧ Q (.int (i + j)) H
theorem in_add : InOp X .Add rAdd := by
  rintro pins s σ H x y u v Q I rx ry ⟨i, j, rfl, rfl, q⟩
  obtain ⟨t, rfl⟩ := (show ∃ t, u = Value.int i t from rx)
  obtain ⟨t', rfl⟩ := (show ∃ t', v = Value.int j t' from ry)
  exact PyProof.Rows.iadd_int ⟨.int (i + j), H, I.tok _, ⟨_, rfl⟩, q⟩
end

/-! ### isinstance -/
section
variable {X : Cx} {pins : List (Addr × Obj)} {σ : St} {H : Hp} {s : Shared} {A : Around} {E : Value → Shared → Prop} {Q : Value → Shared → Prop} {c : Value} {b : Bool}
/-- the type of a value, as the fragment's deciders take it; for an instance its class -/
inductive TyOf (K : PySem.W.Frag) (H : Hp) : V → Value → Prop where
  | non : TyOf K H .non (.type "NoneType")
  | bl (x : Bool) : TyOf K H (.bl x) (.type "bool")
  | int (i : Int) : TyOf K H (.int i) (.type "int")
  | str (x : Str) : TyOf K H (.str x) (.type "str")
  | flt (x : UInt64) : TyOf K H (.flt x) (.type "float")
  | lst {a : Addr} {xs : List V} (e : H a = some (.lst xs)) : TyOf K H (.ref a) (.type "list")
  | frz {a : Addr} {o : Obj} {xs : List V} (e : H a = some (.frz o (.lst xs))) : TyOf K H (.ref a) (.type "list")
  | tup {a : Addr} {xs : List V} (e : H a = some (.tup xs)) : TyOf K H (.ref a) (.type "tuple")
  | dK {a : Addr} {kvs : List (Key × V)} (e : H a = some (.dK kvs)) : TyOf K H (.ref a) (.type "dict")
  | dT {a : Addr} {kvs : List (List Key × V)} (e : H a = some (.dT kvs)) : TyOf K H (.ref a) (.type "dict")
  | ins {a C dx : Addr} {fs : List (Str × V)} (e : H a = some (.ins C dx fs)) (cl : Cls K C) (ha : PySem.W.findIn K (.ref C) "__class__" = some (some (.builtin "object.__class__")))
      (hn : PySem.W.specialIn K (.builtin "object.__class__") "__get__" = some (some (.builtin "getset_descriptor.__get__"))) (htk : PySem.W.takesIn K (.builtin "object.__class__") = some true)
      (hm : PySem.W.mroIn K C (.type "object") = some true) : TyOf K H (.ref a) (.ref C)
/-- isinstance(x, c) for one class c, a built-in or an own one: kitOne's answer -/
theorem isinst_ok {x : V} {u t : Value} (I : Inv X pins σ H s) (rx : RelV x u) (ty : TyOf X.K H x t) (e : PySem.W.kitOne X.K t c = some b) (h : ∀ tk, Q (.bool b) { s with toks := tk }) :
    wpAny (model X.prog X.w) A (call (.builtin "isinstance") [u, c]) Q E s := by
  cases ty with
  | non => cases (show u = Value.none from rx); exact PySem.W.kia_one PySem.W.kitx_none I.kIn True.intro e (fun z => nomatch z) h
  | bl y => cases (show u = Value.bool y from rx); exact PySem.W.kia_one PySem.W.kitx_bool I.kIn True.intro e (fun z => nomatch z) h
  | int i => obtain ⟨t, q⟩ := (show ∃ t, u = Value.int i t from rx); cases q; exact PySem.W.kia_one PySem.W.kitx_int I.kIn True.intro e (fun z => nomatch z) h
  | str y => obtain ⟨t, q⟩ := (show ∃ t, u = Value.str y t from rx); cases q; exact PySem.W.kia_one PySem.W.kitx_str I.kIn True.intro e (fun z => nomatch z) h
  | flt y => obtain ⟨t, q⟩ := (show ∃ t, u = Value.float y t from rx); cases q; exact PySem.W.kia_one PySem.W.kitx_float I.kIn True.intro e (fun z => nomatch z) h
  | @lst a xs ea =>
    cases (show u = Value.ref a from rx)
    obtain ⟨_, _, n, _, h1⟩ := (show ObjOk X.prog X.w H s.heap a (.lst xs) from I.hok a _ ea)
    exact PySem.W.kia_one PySem.W.kitx_list I.kIn ⟨_, h1, rfl⟩ e (fun z => nomatch z) h
  | @frz a ob xs ea =>
    cases (show u = Value.ref a from rx)
    obtain ⟨_, _, _, n, _, h1⟩ := (show ObjOk X.prog X.w H s.heap a (.frz ob (.lst xs)) from I.hok a _ ea)
    exact PySem.W.kia_one PySem.W.kitx_list I.kIn ⟨_, h1, rfl⟩ e (fun z => nomatch z) h
  | @tup a xs ea =>
    cases (show u = Value.ref a from rx)
    obtain ⟨_, _, _, p⟩ := (show ObjOk X.prog X.w H s.heap a (.tup xs) from I.hok a _ ea)
    obtain ⟨o, h1, h2, _⟩ := p
    exact PySem.W.kia_one PySem.W.kitx_tuple I.kIn ⟨o, h1, h2⟩ e (fun z => nomatch z) h
  | @dK a kvs ea =>
    cases (show u = Value.ref a from rx)
    obtain ⟨_, _, vs, _, p⟩ := (show ObjOk X.prog X.w H s.heap a (.dK kvs) from I.hok a _ ea)
    obtain ⟨o, es, ep, h1, h2, _⟩ := p
    exact PySem.W.kia_one PySem.W.kitx_dict I.kIn ⟨o, h1, h2.1⟩ e (fun z => nomatch z) h
  | @dT a kvs ea =>
    cases (show u = Value.ref a from rx)
    obtain ⟨_, _, xs, _, o, es, ep, h1, h2, _⟩ := (show ObjOk X.prog X.w H s.heap a (.dT kvs) from I.hok a _ ea)
    exact PySem.W.kia_one PySem.W.kitx_dict I.kIn ⟨o, h1, h2.1⟩ e (fun z => nomatch z) h
  | @ins a C dx fs ea cl ha hn htk hm =>
    cases (show u = Value.ref a from rx)
    obtain ⟨mA, O, _⟩ := ins_get I.hok ea
    obtain ⟨od, J, _⟩ := O.look
    exact PySem.W.kia_one (PySem.W.kitx_own (cl.get _) cl.hd ha hn htk hm) I.kIn J e (fun z => nomatch z) h
end
end L2

namespace L2
open PySem PySem.Spec PyProof.Rows

/-! ### room -/
structure Room (k : Nat) (A : Around) : Prop where
  hd : A.handled = none
  dp : A.depth + 3 * k + 5 < recursionLimit
  un : A.units + 16 * k + 200 < cLine
theorem Room.mono {j k : Nat} {A : Around} (r : Room k A) (h : j ≤ k) : Room j A := ⟨r.hd, by have := r.dp; omega, by have := r.un; omega⟩
theorem Room.deeper {k : Nat} {A : Around} (r : Room (k + 1) A) (env : Env) : Room k (A.deeper env) :=
  ⟨r.hd, by have := r.dp; show A.depth + 1 + 3 * k + 5 < _; omega, by have := r.un; show A.units + 3 + 16 * k + 200 < _; omega⟩
theorem Room.in1 {k : Nat} {A : Around} (r : Room (k + 1) A) : Room k A.in1 :=
  ⟨r.hd, by have := r.dp; show A.depth + 3 * k + 5 < _; omega, by have := r.un; show A.units + 1 + 16 * k + 200 < _; omega⟩
theorem make_depth {A : Around} {C : Addr} {us : List Value} {kw : List (Str × Value)} : (A.under (.builtin "type.__call__" ⟨.ref C :: us, kw⟩)).depth = A.depth + 1 := by
  first | rfl | simp [Around.under, Code.weight, Code.isCreation, Code.isGuard, Code.isCaller, Code.frames, Code.isFrame, guardIds]
theorem make_units {A : Around} {C : Addr} {us : List Value} {kw : List (Str × Value)} : (A.under (.builtin "type.__call__" ⟨.ref C :: us, kw⟩)).units = A.units + 1 := by
  first | rfl | simp [Around.under, Code.cUnits, Code.frames, Code.isFrame]
theorem Room.make {k : Nat} {A : Around} (r : Room (k + 1) A) (C : Addr) (us : List Value) (kw : List (Str × Value)) : Room k (A.under (.builtin "type.__call__" ⟨.ref C :: us, kw⟩)) :=
  ⟨r.hd, by have := r.dp; rw [make_depth]; omega, by have := r.un; rw [make_units]; omega⟩
theorem Room.depth {k : Nat} {A : Around} (r : Room k A) : A.depth < recursionLimit := by have := r.dp; omega
theorem Room.units {k : Nat} {A : Around} (r : Room k A) : A.units + 64 < cLine := by have := r.un; omega
/-! ### argument lists and displays -/
def tNil : TA := fun _ H Q => Q [] H
def tCons (ta : TE) (tr : TA) : TA := fun σ H Q => ta σ H fun x H1 => tr σ H1 fun xs H2 => Q (x :: xs) H2
section
variable {X : Cx} {e : Expr} {es : List Expr} {te : TE} {t : TA} {pos : Pos}
theorem pa_nil : PA X [] tNil := fun _ _ _ _ H Q I h => Calls.spliced_nil ⟨[], H, I, .nil, h⟩
theorem pa_cons (ha : PE X e te) (hr : PA X es t) (hs : starEach (e :: es) X.env = (false, eval e X.env) :: starEach es X.env := by rfl) : PA X (e :: es) (tCons te t) := by
  intro pos pins s σ H Q I h
  rw [hs]
  show wpAny _ _ (spliced ((false, eval e X.env) :: backTo pos (starEach es X.env))) _ _ s
  refine Calls.spliced_cons (thn (ha pins s σ H _ I h) fun u s1 ⟨x, H1, I1, r1, q1⟩ => ?_)
  exact thn (hr pos pins s1 σ H1 _ I1 q1) fun us s2 ⟨xs, H2, I2, r2, q2⟩ => ⟨x :: xs, H2, I2, .cons r1 r2, q2⟩

/-- a tuple, a list of written items -/
def tTup (t : TA) : TE := fun σ H Q => t σ H fun xs H1 => xs.length ≤ sizeLine ∧ ∀ p, H1 p = none → Q (.ref p) (upd H1 p (.tup xs))
def tLst (t : TA) : TE := fun σ H Q => t σ H fun xs H1 => xs.length ≤ sizeLine ∧ ∀ p, H1 p = none → Q (.ref p) (upd H1 p (.lst xs))
theorem pe_tup {x1} (h : PA X es t) : PE X (.Tuple es x1 pos) (tTup t) := by
  intro pins s σ H Q I hq
  refine wpAny_Tuple_spliced (thn (h pos pins s σ H _ I hq) fun us s1 ⟨xs, H1, I1, r, z, q⟩ => ⟨by rw [← r.length]; exact z, ?_⟩)
  have hf : H1 s1.heap.objs.size = none := I1.hok.fresh (Nat.le_refl _)
  refine ⟨.ref s1.heap.objs.size, upd H1 s1.heap.objs.size (.tup xs), I1.laid (t' := s1.toks) (fun b u e => Heap.get?_push_of_some _ e) (Nat.le_refl _) ?_, rfl, q _ hf⟩
  exact ⟨z, us, r, ⟨_, Heap.get?_push_size _ rfl, rfl, _, rfl⟩⟩
theorem pe_lst (h : PA X es t) : PE X (.List es pos) (tLst t) := by
  intro pins s σ H Q I hq
  refine wpAny_List_spliced (thn (h pos pins s σ H _ I hq) fun us s1 ⟨xs, H1, I1, r, z, q⟩ => ⟨by rw [← r.length]; exact z, ?_⟩)
  have hf : H1 s1.heap.objs.size = none := I1.hok.fresh (Nat.le_refl _)
  refine ⟨.ref s1.heap.objs.size, upd H1 s1.heap.objs.size (.lst xs), I1.laid (t' := s1.toks) (fun b u e => Heap.get?_push_of_some _ e) (Nat.le_refl _) ?_, rfl, q _ hf⟩
  exact ⟨z, us, 0, r, Heap.get?_push_size _ rfl⟩
end

/-! ### what a def promises -/
/-- a def's promise: the bound arguments in the parameters' order, the heap, the wanted end, the wanted exception -/
abbrev Sp := List V → Hp → VK → XK → Prop
/-- how an exception lies behind a call (file 08 gives it): the callers' frames, abstract heap and state ahead of the call, the wish, the exception, the state -/
abbrev CXT := List Env → Hp → Shared → XK → Value → Shared → Prop

/-- the state at a call -/
structure Env0 (P : Program) (w : World) (K : PySem.W.Frag) (mg : Str → Option Value) (base : Heap) (A : Around) (outer : List Env) (s : Shared) (H : Hp) : Prop where
  frames : A.frames = some outer
  mod : Mod K mg base
  bs : ∀ b o, base.get? b = some o → s.heap.get? b = some o ∧ H b = none
  bsz : base.objs.size ≤ s.heap.objs.size
  funs : s.heap.FunFrames base outer
  frf : ∀ b ∈ frs outer, H b = none
  hok : HOk P w H s.heap
  bare : AllBare s.gens
/-- a call's end -/
def CE (outer : List Env) (P : Program) (w : World) (H : Hp) (s : Shared) (Q : VK) (u : Value) (s' : Shared) : Prop :=
  ∃ v H', s'.os = s.os ∧ AllBare s'.gens ∧ Un (frs outer) [] H H' s.heap s'.heap ∧ HOk P w H' s'.heap ∧ RelV v u ∧ Q v H'
def CR (CX : CXT) (outer : List Env) (P : Program) (w : World) (H : Hp) (s : Shared) (Q : VK) (E : XK) (r : Result) (s' : Shared) : Prop :=
  match r with
  | .ok (.ret u) => CE outer P w H s Q u s'
  | .ok _ => False
  | .error e => CX outer H s E e s'
structure FnOk (P : Program) (w : World) (K : PySem.W.Frag) (mg : Str → Option Value) (base : Heap) (CX : CXT) (k : Nat) (f : Addr) (fd : FuncData) (ps : List Str) (sp : Sp) : Prop where
  len : ∀ vs H Q E, sp vs H Q E → vs.length = ps.length
  run : ∀ (A : Around) (outer : List Env) (s : Shared) (H : Hp) (args : Args) (us : List Value) (vs : List V) (Q : VK) (E : XK), Room k A → Env0 P w K mg base A outer s H → BindsTo s fd args (ps.zip us) → Vals vs us → sp vs H Q E →
    codeAny (model P w) A (.call (.ref f) args) (CR CX outer P w H s Q E) s
theorem FnOk.mono {P : Program} {w : World} {K : PySem.W.Frag} {mg : Str → Option Value} {base : Heap} {CX : CXT} {j k : Nat} {f : Addr} {fd : FuncData} {ps : List Str} {sp : Sp} (F : FnOk P w K mg base CX j f fd ps sp) (h : j ≤ k) :
    FnOk P w K mg base CX k f fd ps sp := ⟨F.len, fun A outer s H args us vs Q E hr => F.run A outer s H args us vs Q E (hr.mono h)⟩
/-- a weaker promise -/
theorem FnOk.imp {P : Program} {w : World} {K : PySem.W.Frag} {mg : Str → Option Value} {base : Heap} {CX : CXT} {k : Nat} {f : Addr} {fd : FuncData} {ps : List Str} {sp sp' : Sp} (F : FnOk P w K mg base CX k f fd ps sp)
    (h : ∀ vs H Q E, sp' vs H Q E → sp vs H Q E) : FnOk P w K mg base CX k f fd ps sp' :=
  ⟨fun vs H Q E q => F.len vs H Q E (h _ _ _ _ q), fun A outer s H args us vs Q E hr he hb hv hs => F.run A outer s H args us vs Q E hr he hb hv (h _ _ _ _ hs)⟩

theorem Env0.make {P : Program} {w : World} {K : PySem.W.Frag} {mg : Str → Option Value} {base : Heap} {A : Around} {outer : List Env} {s : Shared} {H : Hp} (e : Env0 P w K mg base A outer s H) (C : Addr) (us : List Value) (kw : List (Str × Value)) :
    Env0 P w K mg base (A.under (.builtin "type.__call__" ⟨.ref C :: us, kw⟩)) outer s H := ⟨by first | exact e.frames | (simpa [Around.under, Code.envs, Code.isFrame, pushEnvs] using e.frames), e.mod, e.bs, e.bsz, e.funs, e.frf, e.hok, e.bare⟩
theorem Env0.in1 {P : Program} {w : World} {K : PySem.W.Frag} {mg : Str → Option Value} {base : Heap} {A : Around} {outer : List Env} {s : Shared} {H : Hp} (e : Env0 P w K mg base A outer s H) :
    Env0 P w K mg base A.in1 outer s H := ⟨e.frames, e.mod, e.bs, e.bsz, e.funs, e.frf, e.hok, e.bare⟩

section
variable {X : Cx} {pins : List (Addr × Obj)} {σ : St} {H : Hp} {s s' : Shared}
/-- from a body: what a callee wants -/
theorem Inv.env0 (I : Inv X pins σ H s) : Env0 X.prog X.w X.K X.mg X.base X.A X.stack s H :=
  ⟨I.ok.frames, I.ok.mod, I.bs, Nat.le_trans I.ok.bsz I.sz, I.stack, I.stkFree, I.hok, I.bare⟩
/-- behind a call -/
theorem Inv.after {Q : VK} {u : Value} (I : Inv X pins σ H s) (h : CE X.stack X.prog X.w H s Q u s') : EP X pins σ Q u s' := by
  obtain ⟨v, H', os, bare, un, hok, r, q⟩ := h
  obtain ⟨hh, g, d, t, os'⟩ := s'
  obtain rfl : os' = s.os := os
  exact ⟨v, H', I.call (h' := hh) (g' := g) (d' := d) (t' := t) (ch := []) un hok bare (fun b z => absurd z (by simp)), r, q⟩
end

/-! ### calls -/
/-- f(..): the written arguments, then the defaults dvs; E: what is wanted of an exception -/
def tCall (sp : Sp) (dvs : List V) (E : XK) (t : TA) : TE := fun σ H Q => t σ H fun vs H1 => sp (vs ++ dvs) H1 Q E
/-- o.m(..) of an instance of the class at C -/
def tMeth (C : Addr) (m : Str) (sp : Sp) (dvs : List V) (E : XK) (ta : TE) (t : TA) : TE := fun σ H Q => ta σ H fun x H1 => ∃ a dx fs, x = .ref a ∧ H1 a = some (.ins C dx fs) ∧ fs.lookup m = none ∧
  t σ H1 fun vs H2 => sp (x :: (vs ++ dvs)) H2 Q E
/-- C(..): a new instance and its dict, then __init__ -/
def tMake (C : Addr) (sp : Sp) (dvs : List V) (E : XK) (t : TA) : TE := fun σ H Q => t σ H fun vs H1 => ∀ x dx, H1 x = none → H1 dx = none → dx ≠ x →
  sp (.ref x :: (vs ++ dvs)) (upd (upd H1 dx (.own x)) x (.ins C dx [])) (fun v H2 => v = .non ∧ Q (.ref x) H2) E

/-- how the parameters are bound: us the positional arguments, kw the keywords' values by name, ds the defaults that fill up -/
def Binds (K : PySem.W.Frag) (fd : FuncData) (ps : List Str) (ds : List Value) : Prop :=
  ∀ (s : Shared) (us : List Value), K.In s.heap → (us ++ ds).length = ps.length → BindsTo s fd ⟨us, []⟩ (ps.zip (us ++ ds))
/-- every parameter is given -/
theorem Binds.all {K : PySem.W.Frag} {fd : FuncData} {ps : List Str} (h : ∀ us : List Value, us.length = ps.length → bindArgs fd ⟨us, []⟩ = pure (ps.zip us)) : Binds K fd ps [] := fun s us _ hl => by
  rw [List.append_nil] at hl ⊢
  exact .of_eq (h us hl)

/-- an exception of a callee reaches what this body wants of exceptions -/
def Passes (CX : CXT) (X : Cx) (E : XK) : Prop := ∀ (pins : List (Addr × Obj)) (σ : St) (H : Hp) (s : Shared) (e : Value) (s' : Shared), Inv X pins σ H s → CX X.stack H s E e s' → X.xe e s'

section
variable {X : Cx} {CX : CXT} {k : Nat} {f C : Addr} {fd : FuncData} {ps : List Str} {sp : Sp} {dvs : List V} {ds : List Value} {E : XK} {x m : Str} {p pos apos : Pos} {e o : Expr} {es : List Expr} {ta : TE} {t : TA}

/-- the callee runs -/
theorem run_fn {pins : List (Addr × Obj)} {σ : St} {H : Hp} {s : Shared} {Q : VK} {us : List Value} {vs : List V} (F : FnOk X.prog X.w X.K X.mg X.base CX k f fd ps sp) (hr : Room k X.A) (hb : Binds X.K fd ps ds) (hd : Vals dvs ds) (hx : Passes CX X E)
    (I : Inv X pins σ H s) (r : Vals vs us) (h : sp (vs ++ dvs) H Q E) : wpAny (model X.prog X.w) X.A (call (.ref f) us) (EP X pins σ Q) X.xe s := by
  have r2 : Vals (vs ++ dvs) (us ++ ds) := r.append hd
  have hl : (us ++ ds).length = ps.length := by rw [← r2.length]; exact F.len _ _ _ _ h
  refine wpAny_call (codeAny_mono (F.run X.A X.stack s H ⟨us, []⟩ (us ++ ds) (vs ++ dvs) Q E hr I.env0 (hb s us I.kIn hl) r2 h) fun r s' hq => ?_)
  cases r with
  | error e => exact hx pins σ H s e s' I hq
  | ok fl =>
    cases fl with
    | ret u => exact I.after hq
    | next => exact False.elim hq
    | brk => exact False.elim hq
    | cont => exact False.elim hq

theorem pe_call (F : FnOk X.prog X.w X.K X.mg X.base CX k f fd ps sp) (hr : Room k X.A) (hg : Gl X x) (hm : X.mg x = some (.ref f)) (hk : PySem.W.keepIn X.K (.ref f) = true) (hb : Binds X.K fd ps ds) (hd : Vals dvs ds) (hx : Passes CX X E)
    (ha : PA X (e :: es) t) (hdb : (x == ("__debug__" : Str)) = false := by decide) (he : starEach (e :: es) X.env = (false, eval e X.env) :: starEach es X.env := by rfl) (hpl : (backTo pos (starEach es X.env)).any (·.1) = false := by rfl) :
    PE X (.Call (.Name x p) (e :: es) [] pos) (tCall sp dvs E t) := by
  intro pins s σ H Q I h
  refine wpAny_Call_Name_kw (ld_glob I hg hm ?_ hdb)
  refine PySem.W.callWith_K (h₀ := X.base) I.ok.mod.kin hk (thn (ha pos pins s σ H _ I h) fun us s1 ⟨vs, H1, I1, r, q⟩ => ⟨I1.kIn, ?_⟩) he hpl
  exact run_fn F hr hb hd hx I1 r q
/-- o.m(e, ..) -/
theorem pe_meth {pl : Sem Bool} (he : PE X o ta) (c : Cls X.K C) (hm : Meth X.K C m f) (F : FnOk X.prog X.w X.K X.mg X.base CX k f fd ps sp) (hr : Room k X.A) (hb : Binds X.K fd ps ds) (hd : Vals dvs ds) (hx : Passes CX X E) (ha : PA X (e :: es) t)
    (hst : starEach (e :: es) X.env = (false, eval e X.env) :: starEach es X.env := by rfl) (hpl : (backTo pos (starEach es X.env)).any (·.1) = false := by rfl)
    (ht : eval (.Call (.Attribute o m apos) (e :: es) [] pos) X.env = (do
      let ov ← eval o X.env
      standAt apos.atName
      let (f, first) ← holding [ov] (getMethod ov m pl)
      callWith pos f first (backTo pos (starEach (e :: es) X.env)) (backToKw pos (keywordEach [] X.env))) := by rfl) :
    PE X (.Call (.Attribute o m apos) (e :: es) [] pos) (tMeth C m sp dvs E ta t) := by
  intro pins s σ H Q I h
  refine PySem.W.methodCall_KW (pl := pl) (thn (he pins s σ H _ I h) fun u s1 ⟨x, H1, I1, rx, a, dx, fs, ex, ea, l, q⟩ => ?_) ht
  subst ex
  obtain rfl : u = Value.ref a := rx
  refine getmeth_ok I1 ea c hm l ?_
  refine PySem.W.callWith_K (first := [.ref a]) (h₀ := X.base) I.ok.mod.kin hm.kp (thn (ha pos pins s1 σ H1 _ I1 q) fun us s2 ⟨vs, H2, I2, r, q2⟩ => ⟨I2.kIn, ?_⟩) hst hpl
  exact run_fn (us := .ref a :: us) (vs := .ref a :: vs) F hr hb hd hx I2 (.cons rfl r) q2
/-- o.m() -/
theorem pe_meth0 {pl : Sem Bool} (he : PE X o ta) (c : Cls X.K C) (hm : Meth X.K C m f) (F : FnOk X.prog X.w X.K X.mg X.base CX k f fd ps sp) (hr : Room k X.A) (hb : Binds X.K fd ps ds) (hd : Vals dvs ds) (hx : Passes CX X E)
    (ht : eval (.Call (.Attribute o m apos) [] [] pos) X.env = (do
      let ov ← eval o X.env
      standAt apos.atName
      let (f, first) ← holding [ov] (getMethod ov m pl)
      callWith pos f first (backTo pos (starEach [] X.env)) (backToKw pos (keywordEach [] X.env))) := by rfl) :
    PE X (.Call (.Attribute o m apos) [] [] pos) (tMeth C m sp dvs E ta tNil) := by
  intro pins s σ H Q I h
  refine PySem.W.methodCall_KW (pl := pl) (thn (he pins s σ H _ I h) fun u s1 ⟨x, H1, I1, rx, a, dx, fs, ex, ea, l, q⟩ => ?_) ht
  subst ex
  obtain rfl : u = Value.ref a := rx
  refine getmeth_ok I1 ea c hm l ?_
  exact PySem.W.callWith_K0 (first := [.ref a]) I1.kIn hm.kp (run_fn (us := [.ref a]) (vs := [.ref a]) F hr hb hd hx I1 (.cons rfl .nil) q)

/-- what a class must have to be made -/
structure Mk (K : PySem.W.Frag) (C f : Addr) : Prop where
  makes : PySem.W.makesIn K C = true
  init : PySem.W.findIn K (.ref C) "__init__" = some (some (.ref f))
  fn : PySem.W.isFn K (.ref f) = true
  kp : PySem.W.keepIn K (.ref C) = true

theorem run_make {pins : List (Addr × Obj)} {σ : St} {H : Hp} {s : Shared} {Q : VK} {us : List Value} {vs : List V} (M : Mk X.K C f) (F : FnOk X.prog X.w X.K X.mg X.base CX k f fd ps sp) (hr : Room (k + 1) X.A) (hb : Binds X.K fd ps ds) (hd : Vals dvs ds)
    (hx : Passes CX X E) (I : Inv X pins σ H s) (r : Vals vs us)
    (h : ∀ x dx, H x = none → H dx = none → dx ≠ x → sp (.ref x :: (vs ++ dvs)) (upd (upd H dx (.own x)) x (.ins C dx [])) (fun v H2 => v = .non ∧ Q (.ref x) H2) E) :
    wpAny (model X.prog X.w) X.A (call (.ref C) us) (EP X pins σ Q) X.xe s := by
  have hq := h (s.heap.objs.size + 1) s.heap.objs.size (I.hok.fresh (Nat.le_succ _)) (I.hok.fresh (Nat.le_refl _)) (Nat.ne_of_lt (Nat.lt_succ_self _))
  have I2 := Inv.made (C := C) I
  have r2 : Vals (V.ref (s.heap.objs.size + 1) :: (vs ++ dvs)) (Value.ref (s.heap.objs.size + 1) :: (us ++ ds)) := .cons rfl (r.append hd)
  have hl : (Value.ref (s.heap.objs.size + 1) :: us ++ ds).length = ps.length := by
    have e := r2.length
    rw [F.len _ _ _ _ hq] at e
    exact e.symm
  refine wpAny_call (make_map (f := f) I.kIn M.makes M.init (beq_iff_eq.mp M.fn) (codeAny_mono (F.run _ X.stack _ _ ⟨Value.ref (s.heap.objs.size + 1) :: us, []⟩ (Value.ref (s.heap.objs.size + 1) :: (us ++ ds)) _ _ E (hr.make C us [])
    (I2.env0.make C us []) (hb _ (Value.ref (s.heap.objs.size + 1) :: us) I2.kIn hl) r2 hq) fun r s' hq' => ?_))
  cases r with
  | error e => exact hx pins σ _ _ e s' I2 hq'
  | ok fl =>
    cases fl with
    | ret u =>
      obtain ⟨v, H', I3, rv, ev, q3⟩ := I2.after hq'
      subst ev
      exact ⟨rv, ⟨V.ref (s.heap.objs.size + 1), H', I3, rfl, q3⟩⟩
    | next => exact False.elim hq'
    | brk => exact False.elim hq'
    | cont => exact False.elim hq'
theorem pe_make (M : Mk X.K C f) (F : FnOk X.prog X.w X.K X.mg X.base CX k f fd ps sp) (hr : Room (k + 1) X.A) (hg : Gl X x) (hm : X.mg x = some (.ref C)) (hb : Binds X.K fd ps ds) (hd : Vals dvs ds) (hx : Passes CX X E)
    (ha : PA X (e :: es) t) (hdb : (x == ("__debug__" : Str)) = false := by decide) (he : starEach (e :: es) X.env = (false, eval e X.env) :: starEach es X.env := by rfl) (hpl : (backTo pos (starEach es X.env)).any (·.1) = false := by rfl) :
    PE X (.Call (.Name x p) (e :: es) [] pos) (tMake C sp dvs E t) := by
  intro pins s σ H Q I h
  refine wpAny_Call_Name_kw (ld_glob I hg hm ?_ hdb)
  refine PySem.W.callWith_K (h₀ := X.base) I.ok.mod.kin M.kp (thn (ha pos pins s σ H _ I h) fun us s1 ⟨vs, H1, I1, r, q⟩ => ⟨I1.kIn, ?_⟩) he hpl
  exact run_make M F hr hb hd hx I1 r q
end

section
variable {X : Cx} {CX : CXT} {k : Nat} {f C : Addr} {fd : FuncData} {ps ks : List Str} {sp : Sp} {E : XK} {x m : Str} {p pos apos kpos : Pos} {e o : Expr} {es : List Expr} {kws : List Keyword} {te ta : TE} {t tk : TA} {nm : Option Str}
variable {g : List Value → List Value → List Value} {gV : List V → List V → List V}
end

/-! ### a def's body keeps its promise -/
/-- names: the parameters first -/
structure FnScope (N P : List Str) (sc : Scope) : Prop where
  kind : sc.kind = .function
  co : sc.isCoroutine = false
  gen : sc.isGenerator = false
  nd : N.Nodup
  pre : N.take P.length = P
  par : ∀ x ∈ P, sc.names.lookup x = some .local ∨ sc.names.lookup x = some .cell
  nofree : ∀ y ∈ sc.names, y.2 ≠ .free

theorem bindL_out {kindOf : Str → Option NameKind} {x : Str} : ∀ {binds : List (Str × Value)} {m : Str → Option Value}, (∀ v, (x, v) ∉ binds) → bindL kindOf binds m x = m x
  | [], _, _ => rfl
  | (n, v) :: r, m, h => by
    unfold bindL
    rw [bindL_out fun w hw => h w (List.mem_cons_of_mem _ hw)]
    split
    · have : x ≠ n := by rintro rfl; exact h v List.mem_cons_self
      simp [this]
    · rfl
theorem bindC_out {kindOf : Str → Option NameKind} {x : Str} : ∀ {binds : List (Str × Value)} {m : Str → Option Value}, (∀ v, (x, v) ∉ binds) → bindC kindOf binds m x = m x
  | [], _, _ => rfl
  | (n, v) :: r, m, h => by
    unfold bindC
    rw [bindC_out fun w hw => h w (List.mem_cons_of_mem _ hw)]
    split
    · rfl
    · have : x ≠ n := by rintro rfl; exact h v List.mem_cons_self
      simp [this]
theorem bindL_get {kindOf : Str → Option NameKind} {x : Str} {v : Value} : ∀ {P : List Str} {vs : List Value} {i : Nat} {m : Str → Option Value}, P.Nodup → P[i]? = some x → vs[i]? = some v → kindOf x = some .local →
    bindL kindOf (P.zip vs) m x = some v
  | [], _, _, _, _, h, _, _ => by simp at h
  | _ :: _, [], _, _, _, _, h, _ => by simp at h
  | p :: P, w :: vs, 0, m, nd, h1, h2, hk => by
    simp at h1 h2; subst h1; subst h2
    show bindL kindOf ((p, w) :: P.zip vs) m p = _
    unfold bindL
    rw [bindL_out fun v hv => (List.nodup_cons.mp nd).1 (List.of_mem_zip hv).1, if_pos hk]
    simp
  | p :: P, w :: vs, i + 1, m, nd, h1, h2, hk => by
    show bindL kindOf ((p, w) :: P.zip vs) m x = _
    unfold bindL
    exact bindL_get (i := i) (List.nodup_cons.mp nd).2 (by simpa using h1) (by simpa using h2) hk
theorem bindC_get {kindOf : Str → Option NameKind} {x : Str} {v : Value} : ∀ {P : List Str} {vs : List Value} {i : Nat} {m : Str → Option Value}, P.Nodup → P[i]? = some x → vs[i]? = some v → kindOf x ≠ some .local →
    bindC kindOf (P.zip vs) m x = some v
  | [], _, _, _, _, h, _, _ => by simp at h
  | _ :: _, [], _, _, _, _, h, _ => by simp at h
  | p :: P, w :: vs, 0, m, nd, h1, h2, hk => by
    simp at h1 h2; subst h1; subst h2
    show bindC kindOf ((p, w) :: P.zip vs) m p = _
    unfold bindC
    rw [bindC_out fun v hv => (List.nodup_cons.mp nd).1 (List.of_mem_zip hv).1, if_neg hk]
    simp
  | p :: P, w :: vs, i + 1, m, nd, h1, h2, hk => by
    show bindC kindOf ((p, w) :: P.zip vs) m x = _
    unfold bindC
    exact bindC_get (i := i) (List.nodup_cons.mp nd).2 (by simpa using h1) (by simpa using h2) hk

/-- the names' values at the entry -/
def start (N : List Str) (vs : List V) : St := vs.map some ++ List.replicate (N.length - vs.length) none

/-- the context of a def's body, at its entry; an exception leaves the frame, then lies as CX says -/
def cxOf (CX : CXT) (P : Program) (w : World) (K : PySem.W.Frag) (mg : Str → Option Value) (base : Heap) (N : List Str) (qual : Str) (scope : Scope) (f : Addr) (cd : Value) (A : Around) (outer : List Env) (s : Shared) (H : Hp) (E : XK) : Cx where
  prog := P
  w := w
  K := K
  mg := mg
  base := base
  A := A.deeper (envOfC qual scope s.heap.objs.size f cd)
  N := N
  s₀ := s
  H₀ := H
  env := envOfC qual scope s.heap.objs.size f cd
  outer := outer
  stack := envOfC qual scope s.heap.objs.size f cd :: outer
  ex := []
  calm := true
  fn := fun _ => true
  pn := []
  xe := fun e s' => wpAny (model P w) (A.deeper (envOfC qual scope s.heap.objs.size f cd)) (leaving (envOfC qual scope s.heap.objs.size f cd) e) (fun _ s'' => CX outer H s E e s'') (fun e' s'' => CX outer H s E e' s'') s'

theorem cell_has {sc : Scope} {n : Nat} {x : Str} (h : sc.names.lookup x = some .cell) : ∃ c, (cellsFrom n sc.names []).lookup x = some c := by
  have q := PySem.W.cellsFrom_some sc.names n [] (.inl h)
  exact Option.isSome_iff_exists.mp q

theorem inv_start {CX : CXT} {P : Program} {w : World} {K : PySem.W.Frag} {mg : Str → Option Value} {base : Heap} {N ps : List Str} {qual : Str} {scope : Scope} {f : Addr} {cd : Value} {A : Around} {outer : List Env} {s s1 : Shared} {H : Hp} {E : XK} {us : List Value} {vs : List V}
    (S : FnScope N ps scope) (hd : A.handled = none) (e0 : Env0 P w K mg base A outer s H) (hl : vs.length = ps.length) (r : Vals vs us)
    (x : InCallC s s.heap.objs.size (bindL (envOfC qual scope s.heap.objs.size f cd).kindOf (ps.zip us) fun _ => none) (cellsFrom (s.heap.objs.size + 1) scope.names []) (bindC (envOfC qual scope s.heap.objs.size f cd).kindOf (ps.zip us) fun _ => none) s1) :
    Inv (cxOf CX P w K mg base N qual scope f cd A outer s H E) [] (start N vs) H s1 := by
  have hpl : ps.length ≤ N.length := by have := congrArg List.length S.pre; rw [List.length_take] at this; omega
  obtain ⟨h1, tk, rfl, hk⟩ := x.done
  have noA : ∀ b : Addr, b ∉ (cxOf CX P w K mg base N qual scope f cd A outer s H E).ex := fun b z => absurd (show b ∈ ([] : List Addr) from z) (by simp)
  refine ⟨⟨e0.mod, S.kind, rfl, rfl, Nat.le_refl _, fun y z c h1 h2 => ?_, fun y hy => ?_, fun y c _ h => ?_, fun _ => hd, Around.frames_deeper e0.frames, .inr ⟨rfl, rfl⟩, fun b z => absurd z (noA b), e0.bs, e0.bsz, fun b _ _ => noA b, fun b z => absurd z (noA b), e0.funs, e0.frf⟩,
    rfl, e0.bare, Un.kept hk, ⟨_, x.toInCall.ns, fun i y v h1 h2 h3 => ?_⟩, fun y c h => ⟨_, x.cell y c h⟩, e0.hok.fresh (Nat.le_refl _), fun y c h => ?_, fun p hp => absurd (show p ∈ ([] : List (Addr × Obj)) from hp) (by simp), e0.hok.kept hk, ?_⟩
  · exact name_of_addr x.apart (PySem.mem_of_lookup h1) (PySem.mem_of_lookup h2)
  · have hy : scope.names.lookup y = some .cell ∨ scope.names.lookup y = some .free := hy
    rcases hy with hy | hy
    · exact cell_has hy
    · exact absurd rfl (S.nofree _ (PySem.mem_of_lookup hy))
  · exact Nat.le_of_lt (x.above y c (PySem.mem_of_lookup h))
  · have hi : i < vs.length := by
      unfold start at h2
      by_cases hi : i < vs.length
      · exact hi
      · rw [List.getElem?_append_right (by simpa using hi)] at h2
        rw [List.getElem?_replicate] at h2
        split at h2 <;> cases h2
    have ha : vs[i]? = some v := by
      unfold start at h2
      rw [List.getElem?_append_left (by simpa using hi), List.getElem?_map] at h2
      cases e : vs[i]? with
      | none => rw [e] at h2; cases h2
      | some a => rw [e] at h2; cases h2; rfl
    obtain ⟨u, hu, rv⟩ := r.get ha
    have hp : ps[i]? = some y := by
      rw [← S.pre, List.getElem?_take_of_lt (by omega)]; exact h1
    have ndP : ps.Nodup := by rw [← S.pre]; exact S.nd.sublist (List.take_sublist _ _)
    refine ⟨u, rv, ?_⟩
    rcases S.par y (List.mem_of_getElem? hp) with k | k
    · exact .inl ⟨k, bindL_get ndP hp hu k⟩
    · obtain ⟨c, e⟩ := cell_has (n := s.heap.objs.size + 1) k
      refine .inr ⟨.inl k, c, e, ?_⟩
      have q := x.cell y c e
      rw [bindC_get ndP hp hu (by show scope.names.lookup y ≠ _; rw [k]; decide)] at q
      exact q
  · exact e0.hok.fresh (Nat.le_of_lt (x.above y c (PySem.mem_of_lookup h)))
  · unfold start
    show _ = N.length
    rw [List.length_append, List.length_map, List.length_replicate]
    omega

/-- THE RULE: a def (or a method) of the text, by its body. The body's reading t is chosen for each entry; it is run at the parameters' values -/
theorem fn_of {CX : CXT} {P : Program} {w : World} {K : PySem.W.Frag} {mg : Str → Option Value} {base : Heap} {k : Nat} {f : Addr} {name qual : Str} {params : Arguments} {body : List Stmt} {scope : Scope} {dV kV doc pm cdv ct oc : Value} {an od : Option Addr}
    {osl : Array (Option Value)} {N ps : List Str} {sp : Sp} (lk : K.lookup f = some ⟨oc, od, .func (PySem.W.fnOf name qual params body scope dV kV doc pm an cdv ct), osl⟩) (hcd : PySem.W.codeIn K cdv qual = true) (S : FnScope N ps scope)
    (len : ∀ vs H Q E, sp vs H Q E → vs.length = ps.length)
    (hbody : ∀ (A : Around) (outer : List Env) (s : Shared) (H : Hp) (vs : List V) (Q : VK) (E : XK), Room k (A.deeper (envOfC qual scope s.heap.objs.size f cdv)) → sp vs H Q E →
      ∃ t, PSs (cxOf CX P w K mg base N qual scope f cdv A outer s H E) body t ∧ t { nx := fun _ H' => Q .non H', rt := Q } (start N vs) H) :
    FnOk P w K mg base CX (k + 1) f (PySem.W.fnOf name qual params body scope dV kV doc pm an cdv ct) ps sp := by
  refine ⟨len, fun A outer s H args us vs Q E hr e0 hb r hsp => ?_⟩
  have hl := len _ _ _ _ hsp
  have KX : K.In s.heap := e0.mod.kin.keeps fun b o e => (e0.bs b o e).1
  have lim : s.heap.NoLimit := e0.mod.nolimit.keeps fun b o e => (e0.bs b o e).1
  have hkind : ∀ y ∈ ps.zip us, scope.names.lookup y.1 = some .local ∨ (scope.names.lookup y.1 = some .cell ∧ ((cellsFrom (s.heap.objs.size + 1) scope.names []).lookup y.1).isSome = true) := fun ⟨n, v⟩ hy => by
    rcases S.par n (List.of_mem_zip hy).1 with q | q
    · exact .inl q
    · exact .inr ⟨q, PySem.W.cellsFrom_some _ _ _ (.inl q)⟩
  refine codeAny_call_function hr.depth (KX _ _ lk) rfl S.co S.gen rfl (PySem.W.codeRec_of KX hcd) (hb _ _ _ _ ?_)
  refine wpAny_newFunctionEnv_cells S.kind hkind fun env he s1 x => ?_
  subst he
  refine ⟨lim.keeps x.toInCall.keep, codeAny_func ?_⟩
  obtain ⟨t, ht, hq⟩ := hbody A outer s H vs Q E (hr.deeper _) hsp
  have I : Inv (cxOf CX P w K mg base N qual scope f cdv A outer s H E) [] (start N vs) H s1 := inv_start S hr.hd e0 hl r x
  refine wpAny_mono (ht [] s1 (start N vs) H _ I hq) (fun fl s' hs => ?_) fun e s' hs => hs
  have fin : ∀ {σ' : St} {H' : Hp} {v : V} {u : Value}, Inv (cxOf CX P w K mg base N qual scope f cdv A outer s H E) [] σ' H' s' → RelV v u → Q v H' → CE outer P w H s Q u s' :=
    fun {σ' H' v u} J rv q => ⟨v, H', J.os, J.bare, J.base, J.hok, rv, q⟩
  cases fl with
  | ret u =>
    obtain ⟨v, σ', H', J, rv, q⟩ := hs
    exact fin J rv q
  | next =>
    obtain ⟨σ', H', J, q⟩ := hs
    exact fin (v := V.non) (u := Value.none) J rfl q
  | brk =>
    obtain ⟨_, _, _, q⟩ := hs
    exact False.elim q
  | cont =>
    obtain ⟨_, _, _, q⟩ := hs
    exact False.elim q
end L2

namespace L2
open PySem PySem.Spec PyProof.Rows
section
variable {X : Cx} {x : Str} {p pos : Pos} {e : Expr} {es : List Expr} {t : TA} {id T : String} {r : List V → Hp → VK → Prop}

def tCB (r : List V → Hp → VK → Prop) (t : TA) : TE := fun σ H Q => t σ H fun vs H1 => r vs H1 Q
/-- f(e, ..), f a built-in function -/
theorem pe_callB (hc : CallR X (.builtin id) r) (hg : Gl X x) (hm : X.mg x = none) (hv : bootBuiltins x = some (.builtin id)) (ha : PA X (e :: es) t) (hn : x ≠ "__name__" := by decide) (hdb : (x == ("__debug__" : Str)) = false := by decide)
    (he : starEach (e :: es) X.env = (false, eval e X.env) :: starEach es X.env := by rfl) (hpl : (backTo pos (starEach es X.env)).any (·.1) = false := by rfl) : PE X (.Call (.Name x p) (e :: es) [] pos) (tCB r t) := by
  intro pins s σ H Q I h
  refine wpAny_Call_Name_kw (ld_blt I hg hm hv ?_ hn hdb)
  exact PyProof.Rows.callWith_builtin1 (thn (ha pos pins s σ H _ I h) fun us s1 ⟨vs, H1, I1, r1, q1⟩ => hc pins s1 σ H1 vs us Q I1 r1 q1) he hpl
/-- T(e, ..), T a built-in type -/
theorem pe_callTy (hc : CallR X (.type T) r) (hg : Gl X x) (hm : X.mg x = none) (hv : bootBuiltins x = some (.type T)) (ha : PA X (e :: es) t) (hn : x ≠ "__name__" := by decide) (hdb : (x == ("__debug__" : Str)) = false := by decide)
    (he : starEach (e :: es) X.env = (false, eval e X.env) :: starEach es X.env := by rfl) (hpl : (backTo pos (starEach es X.env)).any (·.1) = false := by rfl) : PE X (.Call (.Name x p) (e :: es) [] pos) (tCB r t) := by
  intro pins s σ H Q I h
  refine wpAny_Call_Name_kw (ld_blt I hg hm hv ?_ hn hdb)
  exact PyProof.Rows.callWith_type1 (thn (ha pos pins s σ H _ I h) fun us s1 ⟨vs, H1, I1, r1, q1⟩ => hc pins s1 σ H1 vs us Q I1 r1 q1) he hpl
end
end L2

namespace HT
open PySem PyProof.Rows

section
open PySem.SeqAt
open PySem.AutoSeq1 (wpAny_loadPart')
open PySem.MeetsSeq PySem.MeetsSeq2 PySem.MeetsSeq3

end

section
variable {prog : Program} {w : World} {A : Around} {E : Value → Shared → Prop} {s : Shared}

/-- t + u, t not empty -/
theorem cat_tup {t b : Addr} {vs ws : List Value} {Q : Value → Shared → Prop} (ht : IsTup s.heap t vs.toArray) (hb : IsTup s.heap b ws.toArray) (hv : vs ≠ [])
    (h1 : ws = [] → Q (.ref t) s) (h2 : ws ≠ [] → Q (.ref s.heap.objs.size) { s with heap := s.heap.push { cls := .type "tuple", data := .seq (vs ++ ws).toArray } })
    (hsz : vs.length + ws.length ≤ sizeLine) : wpAny (model prog w) A (binaryOp .Add (.ref t) (.ref b)) Q E s := by
  obtain ⟨⟨cls, dd, data, sl⟩, ho, hc, n, hd⟩ := id ht
  obtain ⟨⟨cls2, dd2, data2, sl2⟩, ho2, hc2, n2, hd2⟩ := id hb
  simp only at hc hd hc2 hd2
  subst hc hd hc2 hd2
  have e : vs.toArray ++ ws.toArray = (vs ++ ws).toArray := by simp
  by_cases hw : ws = []
  · exact concat_meets ⟨_, ho, rfl⟩ ⟨_, ho2, rfl⟩ noFill_tuple_add seq_tuple_add PySem.F.slot_tuple_add PySem.F.entry_tuple_add (PySem.F.args_tuple_add_2 _ _)
      (tuple_addW1 t b vs.toArray ws.toArray n n2 dd dd2 sl sl2 (by simpa using hv) (by simp [hw])) ⟨ho, ho2, h1 hw⟩
  · refine concat_meets ⟨_, ho, rfl⟩ ⟨_, ho2, rfl⟩ noFill_tuple_add seq_tuple_add PySem.F.slot_tuple_add PySem.F.entry_tuple_add (PySem.F.args_tuple_add_2 _ _)
      (tuple_addW2 t b vs.toArray ws.toArray n n2 dd dd2 sl sl2 (by simpa using hv) (by simpa using hw) (by rw [List.size_toArray, List.size_toArray]; exact hsz)) ⟨ho, ho2, ?_⟩
    rw [e]
    exact h2 hw

/-! ### t[a:b], not the whole -/
/-- a slice's bound as a place among n (d where it is left out) -/
def sIx (n d : Nat) : Option Int → Nat
  | none => d
  | some v => if v < 0 then (v + (n : Int)).toNat else min v.toNat n
theorem sIx_le (n d : Nat) (hd : d ≤ n) (o : Option Int) : sIx n d o ≤ n := by
  cases o with
  | none => exact hd
  | some v =>
    show (if v < 0 then (v + (n : Int)).toNat else min v.toNat n) ≤ n
    by_cases hv : v < 0
    · rw [if_pos hv]; omega
    · rw [if_neg hv]; exact Nat.min_le_right _ _
theorem clip_eq (v : Int) (n d : Nat) : (if v < 0 then max (v + (n : Int)) 0 else min v (n : Int)) = ((sIx n d (some v) : Nat) : Int) := by
  show (if v < 0 then max (v + (n : Int)) 0 else min v (n : Int)) = (((if v < 0 then (v + (n : Int)).toNat else min v.toNat n) : Nat) : Int)
  by_cases hv : v < 0
  · simp only [if_pos hv]; omega
  · simp only [if_neg hv]; omega
theorem adjust_gen (lo hi : Option Int) (n : Nat) : Builtin.Slice.sliceAdjust lo hi 1 (n : Int) = (((sIx n 0 lo : Nat) : Int), ((sIx n n hi : Nat) : Int)) := by
  have h1 : ¬ ((1 : Int) < 0) := by omega
  unfold Builtin.Slice.sliceAdjust
  simp only [h1, if_false]
  refine Prod.ext ?_ ?_
  · cases lo with
    | none => rfl
    | some v => exact clip_eq v n 0
  · cases hi with
    | none => rfl
    | some v => exact clip_eq v n n
theorem places_gen (i j : Nat) : Builtin.Slice.slicePlaces (i : Int) (j : Int) 1 = j - i := by
  unfold Builtin.Slice.slicePlaces
  have h1 : (1 : Int) > 0 := by omega
  simp only [h1, if_true, Int.ediv_one]
  split <;> omega
theorem slicePart_ {v : Value} {o : Option Int} {Q : Option Int → Shared → Prop} (p : IsPart v o) (h : Q o s) : wpAny (model prog w) A (Builtin.Slice.slicePartIndex v) Q E s := by
  cases p with
  | none => exact slicePart_none h
  | int i t => exact slicePart_int h
theorem sliceApplied_gen {sl : Addr} {vl vu : Value} {lo hi : Option Int} {n : Nat} {Q : Int × Int × Nat → Shared → Prop} (hs : s.heap.IsSliceOf sl vl vu .none) (pl : IsPart vl lo) (pu : IsPart vu hi)
    (h : Q (((sIx n 0 lo : Nat) : Int), 1, sIx n n hi - sIx n 0 lo) s) : wpAny (model prog w) A (Builtin.Slice.sliceApplied (.ref sl) (pure (n : Int))) Q E s := by
  obtain ⟨os, hos, hcs, hds⟩ := id hs
  unfold Builtin.Slice.sliceApplied Builtin.Slice.sliceFields
  refine wpAny_bind (wpAny_bind (wpAny_field hos hds (x := vl) rfl (wpAny_bind (wpAny_field hos hds (x := vu) rfl (wpAny_bind (wpAny_field hos hds (x := .none) rfl (wpAny_pure ?_)))))))
  refine wpAny_bind (slicePart_none ?_)
  show wpAny _ _ (if ((1 : Int) == 0) = true then _ else _) _ _ s
  rw [if_neg (by decide)]
  refine wpAny_bind (slicePart_ pl (wpAny_bind (slicePart_ pu (wpAny_bind (wpAny_pure ?_)))))
  show wpAny _ _ (match Builtin.Slice.sliceAdjust lo hi 1 (n : Int) with | (lo, hi) => pure (lo, (1 : Int), Builtin.Slice.slicePlaces lo hi 1)) _ _ s
  rw [adjust_gen lo hi n]
  show wpAny _ _ (pure (((sIx n 0 lo : Nat) : Int), (1 : Int), Builtin.Slice.slicePlaces ((sIx n 0 lo : Nat) : Int) ((sIx n n hi : Nat) : Int) 1)) _ _ s
  rw [places_gen]
  exact wpAny_pure h
theorem pick_gen (xs : Array Value) (i k : Nat) : ((List.range k).filterMap fun (m : Nat) => xs[((i : Int) + (m : Int) * 1).toNat]?).toArray = ((xs.toList.drop i).take k).toArray := by
  have e : (fun (m : Nat) => xs[((i : Int) + (m : Int) * 1).toNat]?) = fun m => xs[i + m]? := by
    funext m
    have : ((i : Int) + (m : Int) * 1).toNat = i + m := by omega
    rw [this]
  rw [e]
  have := pick_run xs i k
  rw [List.filterMap_map] at this
  have e2 : ((fun x => xs[x]?) ∘ fun x => i + x) = fun m => xs[i + m]? := rfl
  rw [e2] at this
  rw [this]

theorem getItem_tuple_cut {t sl : Addr} {items : Array Value} {vl vu : Value} {lo hi : Option Int} {Q : Value → Shared → Prop} (ht : IsTup s.heap t items) (hs : s.heap.IsSliceOf sl vl vu .none) (pl : IsPart vl lo) (pu : IsPart vu hi)
    (hw : ¬ (sIx items.size 0 lo = 0 ∧ sIx items.size items.size hi = items.size))
    (h : Q (.ref s.heap.objs.size) { s with heap := s.heap.push { cls := .type "tuple", data := .seq ((items.toList.drop (sIx items.size 0 lo)).take (sIx items.size items.size hi - sIx items.size 0 lo)).toArray } })
    (hsz : items.size ≤ sizeLine) : wpAny (model prog w) A (getItem (.ref t) (.ref sl)) Q E s := by
  have htake : sizeOk (.seq ((items.toList.drop (sIx items.size 0 lo)).take (sIx items.size items.size hi - sIx items.size 0 lo)).toArray) := by
    show ((items.toList.drop (sIx items.size 0 lo)).take (sIx items.size items.size hi - sIx items.size 0 lo)).toArray.size ≤ sizeLine
    rw [List.size_toArray, List.length_take, List.length_drop, Array.length_toList]
    omega
  have hj : sIx items.size items.size hi ≤ items.size := sIx_le _ _ (Nat.le_refl _) hi
  obtain ⟨os, hos, hcs, hds⟩ := id hs
  have hTs : s.TypeIs (.ref sl) "slice" := ⟨os, hos, hcs⟩
  unfold getItem
  try with_reducible refine wpAny_holding ?_
  first | refine wpAny_bind (wpAny_pure ?_) | skip
  refine wpAny_bind (wpAny_sequenceKey ht.typeIs (by decide) ?_)
  refine wpAny_bind (wpAny_callSpecial?_slot (name := Str.ofString "__getitem__") ht.typeIs PyProof.Rows.slot_tuple_getitem
    (wpAny_call_entry PyProof.Rows.slot_tuple_getitem ht.typeIs entry_tuple_getitem ?_ (args_tuple_getitem _ _)))
  show wpAny _ _ (Builtin.Tuple.tupleItemsOf (.ref t) >>= _) _ _ s
  refine wpAny_bind (tupleItemsOf_ ht ?_)
  refine wpAny_bind (wpAny_typeOf hTs ?_)
  rw [if_pos (by decide)]
  refine wpAny_bind (sliceApplied_gen hs pl pu ?_)
  have hno : ¬ ((((sIx items.size 0 lo : Nat) : Int) == 0 && (1 : Int) == 1 && (sIx items.size items.size hi - sIx items.size 0 lo) == items.size) = true) := by
    intro q
    rw [Bool.and_eq_true, Bool.and_eq_true] at q
    have q1 : ((sIx items.size 0 lo : Nat) : Int) = 0 := eq_of_beq q.1.1
    have q2 : sIx items.size items.size hi - sIx items.size 0 lo = items.size := eq_of_beq q.2
    exact hw ⟨by omega, by omega⟩
  show wpAny _ _ (if (((sIx items.size 0 lo : Nat) : Int) == 0 && (1 : Int) == 1 && (sIx items.size items.size hi - sIx items.size 0 lo) == items.size) = true then _ else _) _ _ s
  rw [if_neg hno, pick_gen]
  first
    | exact wpAny_bind (m := Builtin.Tuple.tupleExact _) (wpAny_newObj_type (wpAny_pure ⟨_, rfl, wpAny_pure h⟩) htake)
    | exact wpAny_bind (m := Builtin.Tuple.tupleExact _) (wpAny_newObj_type (wpAny_bind (wpAny_pure (wpAny_pure ⟨_, rfl, wpAny_pure h⟩))) htake)
    | exact wpAny_bind (wpAny_bind (m := Builtin.Tuple.tupleExact _) (wpAny_newObj_type (wpAny_pure (wpAny_pure ⟨_, rfl, wpAny_pure h⟩)) htake))
    | exact wpAny_bind (wpAny_bind (m := Builtin.Tuple.tupleExact _) (wpAny_newObj_type (wpAny_pure ⟨_, rfl, wpAny_pure h⟩) htake))
end
end HT

namespace L2
open PySem PySem.Spec PyProof.Rows

/-! ### the parts of a slice -/
abbrev TO := St → Hp → (Option Int → Hp → Prop) → Prop
/-- a slice's part (left out, or an int) -/
def PO (X : Cx) (e : Option Expr) (t : TO) : Prop :=
  ∀ (pins : List (Addr × Obj)) (s : Shared) (σ : St) (H : Hp) (Q : Option Int → Hp → Prop), Inv X pins σ H s → t σ H Q →
    wpAny (model X.prog X.w) X.A (evalPart e X.env) (fun u s' => ∃ o H', Inv X pins σ H' s' ∧ IsPart u o ∧ Q o H') X.xe s
def tNoPart : TO := fun _ H Q => Q none H
def tPart (t : TE) : TO := fun σ H Q => t σ H fun x H1 => ∃ i, x = .int i ∧ Q (some i) H1

theorem intsAre_of {ns : List Int} : ∀ {us : List Value}, Vals (ns.map V.int) us → IntsAre us ns := by
  induction ns with
  | nil => intro us r; rw [List.map_nil] at r; cases r; exact .nil
  | cons n ns ih =>
    intro us r
    rw [List.map_cons] at r
    cases r with
    | cons r1 r2 =>
      obtain ⟨t, e⟩ := r1
      subst e
      exact .cons n t (ih r2)

section
variable {X : Cx} {e : Expr} {te : TE} {lo hi : Option Expr} {tl th : TO} {pos p2 : Pos}

theorem po_none : PO X none tNoPart := by
  intro pins s σ H Q I h
  rw [evalPart_none]
  exact wpAny_pure ⟨none, H, I, .none, h⟩
theorem po_some (h : PE X e te) : PO X (some e) (tPart te) := by
  intro pins s σ H Q I hw
  rw [evalPart_some]
  refine thn (h pins s σ H _ I hw) fun u s1 ⟨x, H1, I1, r1, q1⟩ => ?_
  obtain ⟨i, rfl, q⟩ := q1
  obtain ⟨t, rfl⟩ := r1
  exact ⟨some i, H1, I1, .int i t, q⟩

/-- what a slice of a value is, by values: the slice object stands at sl -/
def SlR (X : Cx) (r : V → Option Int → Option Int → Hp → VK → Prop) : Prop :=
  ∀ (pins : List (Addr × Obj)) (s : Shared) (σ : St) (H : Hp) (x : V) (v vl vu : Value) (lo hi : Option Int) (sl : Addr) (Q : VK), Inv X pins σ H s → RelV x v → s.heap.IsSliceOf sl vl vu .none → IsPart vl lo → IsPart vu hi → r x lo hi H Q →
    ∃ T id, typeLookup (.type T) "__getitem__" = pure (some (.builtin id)) ∧ s.TypeIs v T ∧ wpAny (model X.prog X.w) X.A (getItem v (.ref sl)) (EP X pins σ Q) X.xe s
def tSl (r : V → Option Int → Option Int → Hp → VK → Prop) (te : TE) (tl th : TO) : TE := fun σ H Q => te σ H fun x H1 => tl σ H1 fun l H2 => th σ H2 fun u H3 => r x l u H3 Q
/-- a[lo:hi], any a -/
theorem pe_slice {r : V → Option Int → Option Int → Hp → VK → Prop} (hr : SlR X r) (he : PE X e te) (hl : PO X lo tl) (hu : PO X hi th) : PE X (.Subscript e (.Slice lo hi none p2) pos) (tSl r te tl th) := by
  intro pins s σ H Q I h
  refine Subscript_ (thn (he pins s σ H _ I h) fun v s1 ⟨x, H1, I1, r1, q1⟩ => ?_)
  refine wpAny_Slice (thn (hl pins s1 σ H1 _ I1 q1) fun vl s2 ⟨l, H2, I2, pl, q2⟩ => thn (hu pins s2 σ H2 _ I2 q2) fun vu s3 ⟨u, H3, I3, pu, q3⟩ => ?_)
  rw [evalPart_none]
  refine wpAny_pure ?_
  have I4 : Inv X pins σ H3 { s3 with heap := s3.heap.push { cls := .type "slice", data := .fields #[vl, vu, .none] } } := I3.kept (t' := s3.toks) fun b ob q => Heap.get?_push_of_some _ q
  obtain ⟨T, id, hT, ht, hg⟩ := hr pins { s3 with heap := s3.heap.push { cls := .type "slice", data := .fields #[vl, vu, .none] } } σ H3 x v vl vu l u s3.heap.objs.size Q I4 r1 (Heap.IsSliceOf.new ..) pl pu q3
  show wpAny (model X.prog X.w) X.A (subscriptTail e (.Slice lo hi none p2) v (.ref s3.heap.objs.size)) (EP X pins σ Q) X.xe { s3 with heap := s3.heap.push { cls := .type "slice", data := .fields #[vl, vu, .none] } }
  exact tail_any (ops := [.ref s3.heap.objs.size, v]) ht hT hg (by with_unfolding_all rfl)

/-- the items of xs[lo:hi] -/
def cutV (xs : List V) (lo hi : Option Int) : List V := (xs.drop (HT.sIx xs.length 0 lo)).take (HT.sIx xs.length xs.length hi - HT.sIx xs.length 0 lo)
theorem cutV_length (xs : List V) (lo hi : Option Int) : (cutV xs lo hi).length ≤ xs.length := by
  unfold cutV
  rw [List.length_take, List.length_drop]
  omega
/-- t[lo:hi], not the whole of it (the whole would be t itself) -/
def rSlT (K : PySem.W.Frag) : V → Option Int → Option Int → Hp → VK → Prop := fun x lo hi H Q => ∃ a xs, x = .ref a ∧ SqT K H a xs ∧
  ¬ (HT.sIx xs.length 0 lo = 0 ∧ HT.sIx xs.length xs.length hi = xs.length) ∧ ∀ p, H p = none → Q (.ref p) (upd H p (.tup (cutV xs lo hi)))
theorem sl_tup : SlR X (rSlT X.K) := by
  intro pins s σ H x v vl vu lo hi sl Q I rx hs pl pu h
  obtain ⟨a, xs, rfl, hx, hw, q⟩ := h
  cases rx
  obtain ⟨its, r, ht, hz⟩ := I.tuple hx
  have hlen : its.toArray.size = xs.length := by rw [List.size_toArray]; exact r.length.symm
  refine ⟨"tuple", _, PyProof.Rows.slot_tuple_getitem.lookup, ht.typeIs, ?_⟩
  refine HT.getItem_tuple_cut ht hs pl pu (by rw [hlen]; exact hw) ?_ (by rw [hlen]; exact hz)
  rw [hlen]
  refine ⟨.ref s.heap.objs.size, _, I.laid (t' := s.toks) (o := .tup (cutV xs lo hi)) (fun b ob q => Heap.get?_push_of_some _ q) (Nat.le_refl _) ?_, rfl, q _ (I.hok.fresh (Nat.le_refl _))⟩
  exact ⟨Nat.le_trans (cutV_length xs lo hi) hz, _, (r.drop (HT.sIx xs.length 0 lo)).take (HT.sIx xs.length xs.length hi - HT.sIx xs.length 0 lo), IsTup.new _ _⟩

/-- t + u, t not empty: u empty gives t itself -/
def rCatT (K : PySem.W.Frag) : R2 := fun x y H Q => ∃ a b xs ys, x = .ref a ∧ y = .ref b ∧ SqT K H a xs ∧ SqT K H b ys ∧ xs ≠ [] ∧ xs.length + ys.length ≤ sizeLine ∧
  (ys = [] → Q (.ref a) H) ∧ (ys ≠ [] → ∀ p, H p = none → Q (.ref p) (upd H p (.tup (xs ++ ys))))
theorem Vals.nil_iff {xs : List V} {us : List Value} (r : Vals xs us) : us = [] ↔ xs = [] := by
  cases r with
  | nil => simp
  | cons _ _ => simp
theorem op_catT : OpR X (binaryOp .Add) (rCatT X.K) := by
  intro pins s σ H x y v u Q I rx ry h
  obtain ⟨a, b, xs, ys, rfl, rfl, ha, hb, hx, hz, q1, q2⟩ := h
  cases rx
  cases ry
  obtain ⟨its, r1, p1, _⟩ := I.tuple ha
  obtain ⟨its2, r2, p2, _⟩ := I.tuple hb
  refine HT.cat_tup p1 p2 (fun z => hx (r1.nil_iff.mp z)) (fun z => ⟨.ref a, H, I, rfl, q1 (r2.nil_iff.mp z)⟩) (fun z => ?_) (by rw [← r1.length, ← r2.length]; exact hz)
  refine ⟨.ref s.heap.objs.size, _, I.laid (t' := s.toks) (o := .tup (xs ++ ys)) (fun b ob q => Heap.get?_push_of_some _ q) (Nat.le_refl _) ?_, rfl, q2 (fun w => z (r2.nil_iff.mpr w)) _ (I.hok.fresh (Nat.le_refl _))⟩
  exact ⟨by rw [List.length_append]; exact hz, _, r1.append r2, IsTup.new _ _⟩
end
end L2

namespace L2
open PySem PySem.Spec PyProof.Rows

/-! ### places -/
/-- the place that an index of any sign means -/
def ixN (n : Nat) (i : Int) : Option Nat := if 0 ≤ i then (if i < n then some i.toNat else none) else if -(n : Int) ≤ i then some (i + n).toNat else none
def atI {α : Type} (xs : List α) (i : Int) : Option α := (ixN xs.length i).bind fun j => xs[j]?
theorem ixN_seq {n : Nat} {i : Int} {j : Nat} (h : ixN n i = some j) : seqIndex? i n = some j ∧ j < n ∧ -(n : Int) ≤ i ∧ i < n := by
  unfold ixN at h
  by_cases h0 : 0 ≤ i
  · rw [if_pos h0] at h
    by_cases h1 : i < n
    · rw [if_pos h1] at h
      have e : i.toNat = j := Option.some.inj h
      exact ⟨by rw [seqIndex_of h0 h1, e], by omega, by omega, h1⟩
    · rw [if_neg h1] at h; cases h
  · rw [if_neg h0] at h
    by_cases h1 : -(n : Int) ≤ i
    · rw [if_pos h1] at h
      have e : (i + n).toNat = j := Option.some.inj h
      exact ⟨by rw [seqIndex_neg (by omega) h1, e], by omega, h1, by omega⟩
    · rw [if_neg h1] at h; cases h
theorem atI_get {α : Type} {xs : List α} {i : Int} {v : α} (h : atI xs i = some v) : ∃ j, seqIndex? i xs.length = some j ∧ xs[j]? = some v ∧ j < xs.length ∧ -(xs.length : Int) ≤ i ∧ i < xs.length := by
  unfold atI at h
  cases e : ixN xs.length i with
  | none => rw [e] at h; cases h
  | some j =>
    rw [e] at h
    obtain ⟨h1, h2, h3, h4⟩ := ixN_seq e
    exact ⟨j, h1, h, h2, h3, h4⟩
theorem atI_nat {α : Type} {xs : List α} {j : Nat} {v : α} (h : xs[j]? = some v) : atI xs (j : Int) = some v := by
  have hj : j < xs.length := (List.getElem?_eq_some_iff.mp h).1
  have e : ixN xs.length (j : Int) = some j := by
    unfold ixN
    rw [if_pos (by omega), if_pos (by omega)]; simp
  unfold atI; rw [e]; exact h
/-! ### what may be subscripted -/
/-- what stands as an index of a plain subscript -/
def PlainIx (b : Expr) : Prop := ∀ o i, subscripted b false o i = operate [o, i] (getItem o i)
/-- a subscript by values -/
def IxR (X : Cx) (r : R2) : Prop :=
  ∀ (value slice : Expr) (pins : List (Addr × Obj)) (s : Shared) (σ : St) (H : Hp) (x y : V) (v u : Value) (Q : VK), Inv X pins σ H s → RelV x v → RelV y u → r x y H Q →
    subscripted slice false v u = operate [v, u] (getItem v u) → wpAny (model X.prog X.w) X.A (subscriptTail value slice v u) (EP X pins σ Q) X.xe s
/-- a call of a builtin's method by values: the receiver, the arguments -/
def MtR (X : Cx) (id : String) (r : V → List V → Hp → VK → Prop) : Prop :=
  ∀ (pins : List (Addr × Obj)) (s : Shared) (σ : St) (H : Hp) (x : V) (xs : List V) (v : Value) (us : List Value) (Q : VK), Inv X pins σ H s → RelV x v → Vals xs us → r x xs H Q →
    wpAny (model X.prog X.w) X.A (call (.builtin id) (v :: us)) (EP X pins σ Q) X.xe s
section
variable {X : Cx} {a b : Expr} {ta tb : TE} {pos : Pos}
/-- a[b] -/
theorem pe_ix {r : R2} (hr : IxR X r) (ha : PE X a ta) (hb : PE X b tb) (hs : PlainIx b) : PE X (.Subscript a b pos) (tOp r ta tb) := by
  intro pins s σ H Q I h
  exact Subscript_ (binT ha hb I h fun v u s2 x y H2 I2 rx ry q => hr a b pins s2 σ H2 x y v u Q I2 rx ry q (hs _ _))

def rIxL (K : PySem.W.Frag) : R2 := fun x y H Q => ∃ p xs i v, x = .ref p ∧ y = .int i ∧ SqL K H p xs ∧ atI xs i = some v ∧ Q v H
def rIxT (K : PySem.W.Frag) : R2 := fun x y H Q => ∃ p xs i v, x = .ref p ∧ y = .int i ∧ SqT K H p xs ∧ atI xs i = some v ∧ Q v H
theorem ix_list : IxR X (rIxL X.K) := by
  intro value slice pins s σ H x y v u Q I rx ry h hs
  obtain ⟨p, xs, i, z, rfl, rfl, hq, he, q⟩ := h
  cases rx
  obtain ⟨t, rfl⟩ := ry
  obtain ⟨its, r, pl, hz⟩ := I.list hq
  obtain ⟨j, h1, h2, h3, h4, h5⟩ := atI_get he
  obtain ⟨w, ew, rw'⟩ := r.get h2
  have hl := r.length
  have hn := line63
  have fin : EP X pins σ Q w s := ⟨z, H, I, rw', q⟩
  by_cases h0 : 0 ≤ i
  · have hj : i.toNat = j := by
      rw [seqIndex_of h0 h5] at h1
      exact Option.some.inj h1
    exact item_listR pl.isList h0 (by omega) (by rw [hj]; simpa using ew) fin hs
  · have hj : (i + (its.toArray.size : Int)).toNat = j := by
      rw [seqIndex_neg (by omega) h4] at h1
      rw [List.size_toArray, ← hl]
      exact Option.some.inj h1
    exact subscriptTail_builtinR (x := w) pl.isList.typeIs slot_list_getitem.lookup
      (wpAny_getItem_list_neg (Q := fun r s' => r = w ∧ EP X pins σ Q r s') pl.isList (by omega) (by rw [List.size_toArray] <;> omega) (by omega) (by rw [hj]; simpa using ew) ⟨rfl, fin⟩) hs
theorem ix_tup : IxR X (rIxT X.K) := by
  intro value slice pins s σ H x y v u Q I rx ry h hs
  obtain ⟨p, xs, i, z, rfl, rfl, hq, he, q⟩ := h
  cases rx
  obtain ⟨t, rfl⟩ := ry
  obtain ⟨its, r, pl, hz⟩ := I.tuple hq
  obtain ⟨j, h1, h2, h3, h4, h5⟩ := atI_get he
  obtain ⟨w, ew, rw'⟩ := r.get h2
  have hl := r.length
  have hn := line63
  have fin : EP X pins σ Q w s := ⟨z, H, I, rw', q⟩
  exact subscriptTail_builtinR (x := w) pl.typeIs slot_tuple_getitem.lookup
    (getItem_tuple (j := j) (Q := fun r s' => r = w ∧ EP X pins σ Q r s') pl (by omega) (by omega) (by rw [List.size_toArray, ← hl]; exact h1) (by simpa using ew) ⟨rfl, fin⟩) hs
/-! ### xs[i] = v, any sign -/
/-- the list's object behind a store -/
theorem mapSeq_set (its : List Value) (n j : Nat) (u : Value) : Obj.mapSeq (·.setIfInBounds j u) { cls := .type "list", data := .seq its.toArray n } = { cls := .type "list", data := .seq (its.set j u).toArray n } := by
  simp [Obj.mapSeq]
theorem Inv.lst {pins : List (Addr × Obj)} {σ : St} {H : Hp} {s : Shared} {p : Addr} {xs : List V} (I : Inv X pins σ H s) (h : H p = some (.lst xs)) :
    ∃ (its : List Value) (n : Nat), Vals xs its ∧ s.heap.get? p = some { cls := .type "list", data := .seq its.toArray n } ∧ xs.length ≤ sizeLine := by
  obtain ⟨z, its, n, r, e⟩ := I.hok p _ h
  exact ⟨its, n, r, e, z⟩
/-- the list at p is written by an update of its object -/
theorem Inv.lstUpd {pins : List (Addr × Obj)} {σ : St} {H : Hp} {s : Shared} {p : Addr} {xs ys : List V} {its its' : List Value} {n n' : Nat} {f : Obj → Obj} (I : Inv X pins σ H s) (h : H p = some (.lst xs))
    (ho : s.heap.get? p = some { cls := .type "list", data := .seq its.toArray n }) (hf : f { cls := .type "list", data := .seq its.toArray n } = { cls := .type "list", data := .seq its'.toArray n' }) (r : Vals ys its') (hz : ys.length ≤ sizeLine) (t : Nat) :
    Inv X pins σ (upd H p (.lst ys)) { s with heap := s.heap.update p f, toks := t } := by
  have e : (s.heap.update p f).get? p = some { cls := .type "list", data := .seq its'.toArray n' } := by
    rw [Heap.get?_update_self f ho (by rw [hf] <;> rfl), hf]
  refine I.write (x := p) (e := p) (by rw [h]; trivial) (.inl rfl) (fun b u hb q => (Heap.get?_update_other _ _ (Ne.symm hb)).trans q) ⟨_, e⟩ ?_
  exact ⟨hz, its', n', r, e⟩
def rSetL : V → V → V → Hp → (Hp → Prop) → Prop := fun o i v H Q => ∃ p xs k j, o = .ref p ∧ i = .int k ∧ H p = some (.lst xs) ∧ ixN xs.length k = some j ∧ Q (upd H p (.lst (xs.set j v)))
theorem set_list : PSet X rSetL := by
  intro pins s σ H o i v ov iv u Q I ro ri rv h
  obtain ⟨p, xs, k, j, rfl, rfl, hp, hj, q⟩ := h
  cases ro
  obtain ⟨t, rfl⟩ := ri
  obtain ⟨its, n, r, ho, hz⟩ := I.lst hp
  obtain ⟨h1, h2, h3, h4⟩ := ixN_seq hj
  have hl := r.length
  have hn := line63
  have I' : Inv X pins σ (upd H p (.lst (xs.set j v))) { s with heap := s.heap.update p (Obj.mapSeq (·.setIfInBounds j u)) } :=
    I.lstUpd hp ho (mapSeq_set its n j u) (r.set rv j) (by rw [List.length_set]; exact hz) s.toks
  by_cases h0 : 0 ≤ k
  · have hk : k.toNat = j := by
      rw [seqIndex_of h0 h4] at h1
      exact Option.some.inj h1
    exact PySem.W.ki_setAt ho h0 (by omega) (by rw [List.size_toArray, ← hl]; exact h4) (by rw [hk]; exact ⟨_, I', q⟩)
  · have hk : (k + (its.toArray.size : Int)).toNat = j := by
      rw [seqIndex_neg (by omega) h3] at h1
      rw [List.size_toArray, ← hl]
      exact Option.some.inj h1
    exact PySem.W.ki_setBack ho (by omega) (by rw [List.size_toArray, ← hl]; exact h3) (by omega) (by rw [hk]; exact ⟨_, I', q⟩)

/-! ### in, not in: flat items -/
def flatV : V → Bool
  | .non => true
  | .bl _ => true
  | .int _ => true
  | .str _ => true
  | _ => false
/-- == of flat values -/
def eqV : V → V → Bool
  | .non, .non => true
  | .bl a, .bl b => a == b
  | .bl a, .int b => (if a then 1 else 0) == b
  | .int a, .bl b => a == (if b then 1 else 0)
  | .int a, .int b => a == b
  | .str a, .str b => a == b
  | _, _ => false
theorem eqAt_V {A : Around} {s : Shared} {y x : V} {u v : Value} (ry : RelV y u) (rx : RelV x v) (fy : flatV y = true) (fx : flatV x = true) : SeqAt.EqAt A s u v (eqV y x) := by
  cases y with
  | non =>
    cases ry
    cases x with
    | non => cases rx; exact SeqAt.EqAt.same _
    | bl b => cases rx; exact SeqAt.EqAt.none_bool b
    | int b => obtain ⟨t, rfl⟩ := rx; exact SeqAt.EqAt.none_int b t
    | str b => obtain ⟨t, rfl⟩ := rx; exact SeqAt.EqAt.none_str b t
    | _ => exact absurd (show false = true from fx) Bool.false_ne_true
  | bl a =>
    cases ry
    cases x with
    | non => cases rx; exact SeqAt.EqAt.bool_none a
    | bl b => cases rx; exact SeqAt.EqAt.bool_bool a b
    | int b => obtain ⟨t, rfl⟩ := rx; exact SeqAt.EqAt.bool_int a b t
    | str b => obtain ⟨t, rfl⟩ := rx; exact SeqAt.EqAt.bool_str a b t
    | _ => exact absurd (show false = true from fx) Bool.false_ne_true
  | int a =>
    obtain ⟨t', rfl⟩ := ry
    cases x with
    | non => cases rx; exact SeqAt.EqAt.int_none a t'
    | bl b => cases rx; exact SeqAt.EqAt.int_bool a t' b
    | int b => obtain ⟨t, rfl⟩ := rx; exact SeqAt.EqAt.int_int a t' b t
    | str b => obtain ⟨t, rfl⟩ := rx; exact SeqAt.EqAt.int_str a t' b t
    | _ => exact absurd (show false = true from fx) Bool.false_ne_true
  | str a =>
    obtain ⟨t', rfl⟩ := ry
    cases x with
    | non => cases rx; exact SeqAt.EqAt.str_none a t'
    | bl b => cases rx; exact SeqAt.EqAt.str_bool a t' b
    | int b => obtain ⟨t, rfl⟩ := rx; exact SeqAt.EqAt.str_int a t' b t
    | str b => obtain ⟨t, rfl⟩ := rx; exact SeqAt.EqAt.str_str a t' b t
    | _ => exact absurd (show false = true from fx) Bool.false_ne_true
  | _ => exact absurd (show false = true from fy) Bool.false_ne_true
/-- the items' answers, read off the values (a value's own answer does not lean on its token) -/
def eqU (x : V) (u : Value) : Bool := match u with
  | .none => eqV .non x
  | .bool b => eqV (.bl b) x
  | .int i _ => eqV (.int i) x
  | .str z _ => eqV (.str z) x
  | _ => false
theorem eqU_of {x y : V} {u : Value} (r : RelV y u) (f : flatV y = true) : eqU x u = eqV y x := by
  cases y with
  | non => cases r; rfl
  | bl b => cases r; rfl
  | int i => obtain ⟨t, rfl⟩ := r; rfl
  | str z => obtain ⟨t, rfl⟩ := r; rfl
  | _ => exact absurd (show false = true from f) Bool.false_ne_true
theorem any_eqU {x : V} : ∀ {xs : List V} {us : List Value}, Vals xs us → xs.all flatV = true → us.any (eqU x) = xs.any fun y => eqV y x
  | _, _, .nil, _ => rfl
  | y :: xs, u :: us, .cons r t, f => by
    rw [List.all_cons, Bool.and_eq_true] at f
    rw [List.any_cons, List.any_cons, eqU_of r f.1, any_eqU t f.2]
theorem mem_eqAt {A : Around} {s : Shared} {x : V} {v : Value} (rx : RelV x v) (fx : flatV x = true) : ∀ {xs : List V} {us : List Value}, Vals xs us → xs.all flatV = true → ∀ u ∈ us, SeqAt.EqAt A s u v (eqU x u)
  | _, _, .nil, _ => fun u hu => by cases hu
  | y :: xs, u :: us, .cons r t, f => fun u' hu => by
    rw [List.all_cons, Bool.and_eq_true] at f
    rcases List.mem_cons.mp hu with rfl | hu
    · rw [eqU_of r f.1]; exact eqAt_V r rx f.1 fx
    · exact mem_eqAt rx fx t f.2 u' hu
def inV (x : V) (xs : List V) : Bool := xs.any fun y => eqV y x
/-- x in a list or tuple of flat items -/
def rIn (K : PySem.W.Frag) (neg : Bool) : R2 := fun x y H Q => ∃ p xs, y = .ref p ∧ (SqL K H p xs ∨ SqT K H p xs) ∧ flatV x = true ∧ xs.all flatV = true ∧ Q (.bl (if neg then !inV x xs else inV x xs)) H
theorem op_in_seq : OpR X (compareOp .In) (rIn X.K false) := by
  intro pins s σ H x y v u Q I rx ry h
  obtain ⟨p, xs, rfl, hq, fx, fs, q⟩ := h
  cases ry
  rcases hq with hq | hq
  · obtain ⟨its, r, pl, hz⟩ := I.list hq
    refine SeqAt.in_listAt (eqU x) pl.isList (fun w hw => mem_eqAt rx fx r fs w (by simpa using hw)) ⟨.bl _, H, I, rfl, ?_⟩
    rw [show its.toArray.any (eqU x) = its.any (eqU x) by simp, any_eqU r fs]
    exact q
  · obtain ⟨its, r, pl, hz⟩ := I.tuple hq
    refine SeqAt.in_tupleAt (eqU x) pl (fun w hw => mem_eqAt rx fx r fs w (by simpa using hw)) ⟨.bl _, H, I, rfl, ?_⟩
    rw [show its.toArray.any (eqU x) = its.any (eqU x) by simp, any_eqU r fs]
    exact q
theorem op_notIn_seq : OpR X (compareOp .NotIn) (rIn X.K true) := by
  intro pins s σ H x y v u Q I rx ry h
  obtain ⟨p, xs, rfl, hq, fx, fs, q⟩ := h
  cases ry
  rcases hq with hq | hq
  · obtain ⟨its, r, pl, hz⟩ := I.list hq
    refine SeqAt.notIn_listAt (eqU x) pl.isList (fun w hw => mem_eqAt rx fx r fs w (by simpa using hw)) ⟨.bl _, H, I, rfl, ?_⟩
    rw [show its.toArray.any (eqU x) = its.any (eqU x) by simp, any_eqU r fs]
    exact q
  · obtain ⟨its, r, pl, hz⟩ := I.tuple hq
    refine SeqAt.notIn_tupleAt (eqU x) pl (fun w hw => mem_eqAt rx fx r fs w (by simpa using hw)) ⟨.bl _, H, I, rfl, ?_⟩
    rw [show its.toArray.any (eqU x) = its.any (eqU x) by simp, any_eqU r fs]
    exact q
/-! ### len, list(x), tuple(x) of any list or tuple that is read -/
theorem call_len_seq : CallR X (.builtin "len") (fun xs H Q => ∃ p ys, xs = [.ref p] ∧ (SqL X.K H p ys ∨ SqT X.K H p ys) ∧ Q (.int ys.length) H) := by
  intro pins s σ H xs us Q I r h
  obtain ⟨p, ys, rfl, hq, q⟩ := h
  obtain ⟨u, rfl, rx⟩ := vals1 r
  cases rx
  have hn := line63
  rcases hq with hq | hq
  · obtain ⟨its, r', pl, hz⟩ := I.list hq
    have hlen := r'.length
    exact Calls.call_len_list pl.isList (by simp only [List.size_toArray] <;> omega) ⟨.int ys.length, H, I.tok _, ⟨s.toks + 1, by rw [List.size_toArray, hlen]⟩, q⟩
  · obtain ⟨its, r', pl, hz⟩ := I.tuple hq
    have hlen := r'.length
    exact len_tuple pl (by simp only [List.size_toArray] <;> omega) ⟨.int ys.length, H, I.tok _, ⟨s.toks + 1, by rw [List.size_toArray, hlen]⟩, q⟩
theorem call_list_of : CallR X (.type "list") (fun xs H Q => ∃ p ys, xs = [.ref p] ∧ (SqL X.K H p ys ∨ SqT X.K H p ys) ∧ ∀ l, H l = none → Q (.ref l) (upd H l (.lst ys))) := by
  intro pins s σ H xs us Q I r h
  obtain ⟨p, ys, rfl, hq, q⟩ := h
  obtain ⟨u, rfl, rx⟩ := vals1 r
  cases rx
  have fin : ∀ (its : List Value), Vals ys its → ys.length ≤ sizeLine → ∀ (h' : Heap) (c' : Nat), (∀ b o', s.heap.get? b = some o' → h'.get? b = some o') →
      h'.get? s.heap.objs.size = some { cls := .type "list", dict := none, data := .seq its.toArray c', slots := #[] } → EP X pins σ Q (.ref s.heap.objs.size) { s with heap := h' } := fun its r' hz h' c' kp e =>
    ⟨.ref s.heap.objs.size, _, I.laid (t' := s.toks) kp (Nat.le_refl _) (show ObjOk X.prog X.w _ h' _ (.lst ys) from ⟨hz, its, c', r', e⟩), rfl, q _ (I.hok.fresh (Nat.le_refl _))⟩
  rcases hq with hq | hq
  · obtain ⟨its, r', pl, hz⟩ := I.list hq
    have hlen := r'.length
    obtain ⟨o, ho, hc, n, hd⟩ := pl.isList
    exact call_list_seq p (.inl rfl) ho hc hd (fun h' c' kp e => fin its r' hz h' c' kp e) (by simp only [List.size_toArray] <;> omega)
  · obtain ⟨its, r', pl, hz⟩ := I.tuple hq
    have hlen := r'.length
    obtain ⟨o, ho, hc, n, hd⟩ := pl
    exact call_list_seq p (.inr rfl) ho hc hd (fun h' c' kp e => fin its r' hz h' c' kp e) (by simp only [List.size_toArray] <;> omega)
theorem call_tuple_of : CallR X (.type "tuple") (fun xs H Q => ∃ p ys, xs = [.ref p] ∧ ((SqL X.K H p ys ∧ ∀ l, H l = none → Q (.ref l) (upd H l (.tup ys))) ∨ (SqT X.K H p ys ∧ Q (.ref p) H))) := by
  intro pins s σ H xs us Q I r h
  obtain ⟨p, ys, rfl, h⟩ := h
  obtain ⟨u, rfl, rx⟩ := vals1 r
  cases rx
  rcases h with ⟨hq, q⟩ | ⟨hq, q⟩
  · obtain ⟨its, r', pl, hz⟩ := I.list hq
    have hlen := r'.length
    refine call_tuple_list pl.isList (fun h' kp => ?_) (by simp only [List.size_toArray] <;> omega)
    have I1 : Inv X pins σ H { s with heap := h' } := I.kept (t' := s.toks) kp
    have I2 : Inv X pins σ (upd H h'.objs.size (.tup ys)) { s with heap := h'.push { cls := .type "tuple", data := .seq its.toArray } } :=
      I1.laid (t' := s.toks) (fun b o e => Heap.get?_push_of_some _ e) (Nat.le_refl _) (show ObjOk X.prog X.w _ _ _ (.tup ys) from ⟨hz, its, r', IsTup.new _ _⟩)
    exact ⟨.ref h'.objs.size, _, I2, rfl, q _ (I1.hok.fresh (Nat.le_refl _))⟩
  · obtain ⟨its, r', pl, hz⟩ := I.tuple hq
    exact call_tuple_same pl ⟨.ref p, H, I, rfl, q⟩

/-! ### the call of a builtin's method: o.m(..) -/
/-- the value is of that builtin type -/
def tyV (K : PySem.W.Frag) (T : String) (x : V) (H : Hp) : Prop := match x with
  | .str _ => T = "str"
  | .int _ => T = "int"
  | .ref p => (T = "list" ∧ ∃ xs, SqL K H p xs) ∨ (T = "tuple" ∧ ∃ o, K.lookup p = some o ∧ o.cls = .type "tuple" ∧ o.dict = none) ∨
      (T = "dict" ∧ ((∃ kvs, H p = some (.dK kvs)) ∨ ∃ kvs, H p = some (.dT kvs))) ∨ (T = "set" ∧ ∃ S n, H p = some (.set S n))
  | _ => False
theorem tyV_is {pins : List (Addr × Obj)} {σ : St} {H : Hp} {s : Shared} {T : String} {x : V} {v : Value} (I : Inv X pins σ H s) (r : RelV x v) (ty : tyV X.K T x H) :
    s.TypeIs v T ∧ ∀ a, v = .ref a → ∃ ob, s.heap.get? a = some ob ∧ ob.dict = none := by
  cases x with
  | str z =>
    obtain ⟨t, rfl⟩ := r
    cases (show T = "str" from ty)
    exact ⟨typeIs_str s z t, fun _ e => nomatch e⟩
  | int i =>
    obtain ⟨t, rfl⟩ := r
    cases (show T = "int" from ty)
    exact ⟨typeIs_int s i t, fun _ e => nomatch e⟩
  | ref p =>
    cases r
    rcases ty with ⟨rfl, xs, hq⟩ | ⟨rfl, o, hk, hc, hd⟩ | ⟨rfl, hk⟩ | ⟨rfl, S, n, hk⟩
    · obtain ⟨its, _, pl, _⟩ := I.list hq
      refine ⟨pl.isList.typeIs, fun a e => ?_⟩
      cases e
      obtain ⟨o, n, e, c, hd, _⟩ := pl
      exact ⟨o, e, hd⟩
    · refine ⟨⟨o, I.kIn p o hk, hc⟩, fun a e => ?_⟩
      cases e
      exact ⟨o, I.kIn _ o hk, hd⟩
    · have z : ∃ o, s.heap.get? p = some o ∧ o.ExactDict := by
        rcases hk with ⟨kvs, hk⟩ | ⟨kvs, hk⟩
        · obtain ⟨_, _, _, _, o, _, _, e, ex, _⟩ := I.hok p _ hk
          exact ⟨o, e, ex⟩
        · obtain ⟨_, _, _, _, o, _, _, e, ex, _⟩ := I.hok p _ hk
          exact ⟨o, e, ex⟩
      obtain ⟨o, e, ex⟩ := z
      refine ⟨⟨o, e, ex.1⟩, fun a e2 => ?_⟩
      cases e2
      exact ⟨o, e, ex.2.1⟩
    · obtain ⟨o, _, _, _, e, ex, _⟩ := I.hok p _ hk
      refine ⟨⟨o, e, ex.1⟩, fun a e2 => ?_⟩
      cases e2
      exact ⟨o, e, ex.2.1⟩
  | _ => exact False.elim ty
def tBM0 (K : PySem.W.Frag) (T : String) (r : V → List V → Hp → VK → Prop) (to : TE) : TE := fun σ H Q => to σ H fun x H1 => tyV K T x H1 ∧ r x [] H1 Q
def tBM (K : PySem.W.Frag) (T : String) (r : V → List V → Hp → VK → Prop) (to : TE) (t : TA) : TE := fun σ H Q => to σ H fun x H1 => tyV K T x H1 ∧ t σ H1 fun xs H2 => r x xs H2 Q
variable {o e : Expr} {es : List Expr} {to : TE} {t : TA} {name : Str} {apos cpos : Pos} {T id : String} {r : V → List V → Hp → VK → Prop}
theorem pe_bm0 (pa : PlainAttrs T) (slot : Slot T name id) (hty : typeOf (.builtin id) = pure (.type "method_descriptor")) (hm : MtR X id r) (ho : PE X o to)
    (hbase : attributeBase o name X.env (eval o X.env) = eval o X.env := by rfl) (hline : (apos.endLine == cpos.line) = true := by rfl) : PE X (.Call (.Attribute o name apos) [] [] cpos) (tBM0 X.K T r to) := by
  intro pins s σ H Q I h
  refine wpAny_Call_method0_late hbase hline (thn (ho pins s σ H _ I h) fun v s1 ⟨x, H1, I1, r1, ty, q1⟩ => ?_)
  obtain ⟨h1, h2⟩ := tyV_is I1 r1 ty
  exact ⟨T, id, pa, slot, hty, h1, h2, Calls.callWith_builtin rfl (PySem.evalArgs_none (hm pins s1 σ H1 x [] v [] Q I1 r1 .nil q1))⟩
theorem pe_bm (pa : PlainAttrs T) (slot : Slot T name id) (hty : typeOf (.builtin id) = pure (.type "method_descriptor")) (hm : MtR X id r) (ho : PE X o to) (ha : PA X (e :: es) t)
    (hbase : attributeBase o name X.env (eval o X.env) = eval o X.env := by rfl)
    (hfew : ((backTo cpos (starEach (e :: es) X.env)).all (fun x => !x.1) && (backToKw cpos (keywordEach [] X.env)).all (fun x => x.1.isSome)
      && decide ((e :: es).length + ([] : List Keyword).length + (if ([] : List Keyword).isEmpty then 0 else 1) < 30)) = true := by rfl)
    (hline : (apos.endLine == cpos.line) = true := by rfl) (hs : starEach (e :: es) X.env = (false, eval e X.env) :: starEach es X.env := by rfl) (hplain : (backTo cpos (starEach es X.env)).any (·.1) = false := by rfl) :
    PE X (.Call (.Attribute o name apos) (e :: es) [] cpos) (tBM X.K T r to t) := by
  intro pins s σ H Q I h
  refine wpAny_Call_method_late hbase hfew hline rfl (thn (ho pins s σ H _ I h) fun v s1 ⟨x, H1, I1, r1, ty, q1⟩ => ?_)
  obtain ⟨h1, h2⟩ := tyV_is I1 r1 ty
  refine ⟨T, id, pa, slot, hty, h1, h2, ?_⟩
  have hA := ha cpos pins s1 σ H1 _ I1 q1
  rw [hs] at hA ⊢
  refine Calls.callWith_builtin (by show (false || (backTo cpos (starEach es X.env)).any (·.1)) = false; rw [hplain] <;> rfl) (Calls.evalArgs_plain ?_)
  exact thn hA fun us s2 ⟨vs, H2, I2, r2, q2⟩ => hm pins s2 σ H2 x vs v us Q I2 r1 r2 q2
/- xs.append(e), list.index on a module's tuple .. are MtR facts of 06m -/
end
end L2

namespace L2
open PySem PySem.Spec PyProof.Rows

def MtM (X : Cx) (id : String) (r : V → List V → Hp → VK → Prop) : Prop :=
  ∀ (pins : List (Addr × Obj)) (s : Shared) (σ : St) (H : Hp) (x : V) (xs : List V) (v : Value) (us : List Value) (Q : VK), Inv X pins σ H s → RelV x v → Vals xs us → r x xs H Q →
    wpAny (model X.prog X.w) X.A (call (.builtin id) (v :: us)) (EP X pins σ Q) X.xe s

/-! ### lists of values -/
theorem Vals.one : ∀ {x : V} {us : List Value}, Vals [x] us → ∃ u, us = [u] ∧ RelV x u
  | _, _, .cons r .nil => ⟨_, rfl, r⟩
theorem Vals.two : ∀ {x y : V} {us : List Value}, Vals [x, y] us → ∃ u v, us = [u, v] ∧ RelV x u ∧ RelV y v
  | _, _, _, .cons r (.cons q .nil) => ⟨_, _, rfl, r, q⟩
theorem Vals.zero : ∀ {us : List Value}, Vals [] us → us = []
  | _, .nil => rfl
theorem Vals.dropLast {xs : List V} {us : List Value} (h : Vals xs us) : Vals xs.dropLast us.dropLast := by
  induction h with
  | nil => exact .nil
  | cons r t ih =>
    cases t with
    | nil => exact .nil
    | cons q t' => exact .cons r ih
theorem Vals.eraseIdx : ∀ {xs : List V} {us : List Value} (i : Nat), Vals xs us → Vals (xs.eraseIdx i) (us.eraseIdx i)
  | _, _, _, .nil => .nil
  | _, _, 0, .cons _ t => t
  | _, _, i + 1, .cons r t => .cons r (Vals.eraseIdx i t)
theorem len_erase {α : Type} : ∀ (l : List α) (i : Nat), (l.eraseIdx i).length ≤ l.length
  | [], _ => Nat.le_refl _
  | _ :: _, 0 => Nat.le_succ _
  | _ :: r, i + 1 => Nat.succ_le_succ (len_erase r i)
section
variable {X : Cx} {pins : List (Addr × Obj)} {σ : St} {H : Hp} {s : Shared} {l b : Addr} {xs ys zs : List V}

/-! ### the two steps: a tracked list is rewritten, a new list is laid -/
theorem Inv.lset {its its' : List Value} {n : Nat} {f : Array Value → Array Value} {t' : Nat} (I : Inv X pins σ H s) (hH : H l = some (.lst xs))
    (e : s.heap.get? l = some { cls := .type "list", data := .seq its.toArray n }) (hf : f its.toArray = its'.toArray) (hv : Vals ys its') (hz : ys.length ≤ sizeLine) :
    Inv X pins σ (upd H l (.lst ys)) { s with heap := s.heap.update l (Obj.mapSeq f), toks := t' } := by
  have q := PySem.IsL.update e f
  rw [hf] at q
  refine I.write (x := l) (e := l) (by rw [hH]; exact trivial) (.inl rfl) (fun b' u hb hu => (Heap.get?_update_other s.heap (Obj.mapSeq f) (Ne.symm hb)).trans hu) ⟨_, q⟩ ?_
  exact ⟨hz, its', _, hv, q⟩
theorem Inv.lnew {its : List Value} {t' : Nat} (I : Inv X pins σ H s) (hv : Vals ys its) (hz : ys.length ≤ sizeLine) :
    Inv X pins σ (upd H s.heap.objs.size (.lst ys)) { s with heap := s.heap.push { cls := .type "list", data := .seq its.toArray }, toks := t' } :=
  I.laid (fun _ _ q => Heap.get?_push_of_some _ q) (Nat.le_refl _) ⟨hz, its, 0, hv, Heap.get?_push_size _ rfl⟩
theorem Inv.fresh (I : Inv X pins σ H s) : H s.heap.objs.size = none := I.hok.fresh (Nat.le_refl _)
theorem Inv.lstM (I : Inv X pins σ H s) (hH : H l = some (.lst xs)) : xs.length ≤ sizeLine ∧ ∃ (its : List Value) (n : Nat), Vals xs its ∧ xs.length = its.length ∧ s.heap.get? l = some { cls := .type "list", data := .seq its.toArray n } := by
  obtain ⟨z, its, n, r, e⟩ := I.hok l _ hH
  exact ⟨z, its, n, r, r.length, e⟩

theorem notLongL {n : Nat} (h : n ≤ sizeLine) : Builtin.List.listTooLong n = false := by
  unfold Builtin.List.listTooLong
  exact decide_eq_false (by omega)
end

section
variable {X : Cx}

/-! ### methods -/
def rAppend : V → List V → Hp → VK → Prop := fun x vs H Q => ∃ l xs y, x = .ref l ∧ vs = [y] ∧ H l = some (.lst xs) ∧ xs.length < sizeLine ∧ Q .non (upd H l (.lst (xs ++ [y])))
theorem mt_append : MtM X "list.append" rAppend := by
  intro pins s σ H x vs v us Q I rx rv h
  obtain ⟨l, xs, y, rfl, rfl, hH, hz, q⟩ := h
  cases rx
  obtain ⟨u, rfl, ru⟩ := rv.one
  obtain ⟨z, its, n, r, hl, e⟩ := I.lstM hH
  refine call_meets F.slot_list_append ⟨_, e, rfl⟩ F.entry_list_append (F.args_list_append_2 _ _) (PySem.list_append l its.toArray n u (by rw [List.size_toArray]; omega)) ⟨e, ?_⟩
  refine ⟨.non, _, I.lset (its' := its ++ [u]) hH e (by simp) (r.append (.cons ru .nil)) ?_, rfl, q⟩
  rw [List.length_append, List.length_singleton]
  omega

def rExtend : V → List V → Hp → VK → Prop := fun x vs H Q => ∃ l b xs zs, x = .ref l ∧ vs = [.ref b] ∧ H l = some (.lst xs) ∧ H b = some (.lst zs) ∧ xs.length + zs.length ≤ sizeLine ∧ Q .non (upd H l (.lst (xs ++ zs)))
theorem mt_extend : MtM X "list.extend" rExtend := by
  intro pins s σ H x vs v us Q I rx rv h
  obtain ⟨l, b, xs, zs, rfl, rfl, hH, hB, hz, q⟩ := h
  cases rx
  obtain ⟨u, rfl, ru⟩ := rv.one
  cases ru
  obtain ⟨z, its, n, r, hl, e⟩ := I.lstM hH
  obtain ⟨z2, its2, n2, r2, hl2, e2⟩ := I.lstM hB
  have hsz : its.toArray.size + its2.toArray.size ≤ sizeLine := by rw [List.size_toArray, List.size_toArray]; omega
  have hlong : ¬ (!its.toArray.isEmpty && Builtin.List.listTooLong (its.toArray.size + its2.toArray.size)) = true := by
    rw [notLongL hsz, Bool.and_false]
    exact Bool.false_ne_true
  refine call_meets F.slot_list_extend ⟨_, e, rfl⟩ F.entry_list_extend (F.args_list_extend_2 _ _)
    (AutoSeq1.list_extend_list_list_0 l its.toArray n b its2.toArray n2 hlong (by rw [List.size_toArray]; omega) (by omega)) ⟨e, e2, ?_⟩
  refine ⟨.non, _, I.lset (its' := its ++ its2) hH e (by simp) (r.append r2) ?_, rfl, q⟩
  rw [List.length_append]
  omega

def rPopAt : V → List V → Hp → VK → Prop := fun x vs H Q => ∃ l xs i k y, x = .ref l ∧ vs = [.int i] ∧ H l = some (.lst xs) ∧ -(2 ^ 63) ≤ i ∧ i < 2 ^ 63 ∧ seqIndex? i xs.length = some k ∧ xs[k]? = some y ∧ Q y (upd H l (.lst (xs.eraseIdx k)))
theorem mt_popAt : MtM X "list.pop" rPopAt := by
  intro pins s σ H x vs v us Q I rx rv h
  obtain ⟨l, xs, i, k, y, rfl, rfl, hH, h1, h2, hk, hy, q⟩ := h
  cases rx
  obtain ⟨u, rfl, ru⟩ := rv.one
  obtain ⟨t, rfl⟩ := ru
  obtain ⟨z, its, n, r, hl, e⟩ := I.lstM hH
  obtain ⟨w, hw, rw'⟩ := r.get hy
  refine call_meets F.slot_list_pop ⟨_, e, rfl⟩ F.entry_list_pop (F.args_list_pop_2 _ _)
    (MeetsSeq.list_pop_at l its.toArray n i t k w (fitsIndex_both h1 h2) (by rw [List.size_toArray, ← hl]; exact hk) (by rw [← Array.getElem?_toList]; exact hw) (by rw [List.size_toArray]; omega)) ⟨e, ?_⟩
  refine ⟨y, _, I.lset (its' := its.eraseIdx k) hH e ?_ (r.eraseIdx k) ?_, rw', q⟩
  · show its.toArray.eraseIdxIfInBounds k = (its.eraseIdx k).toArray
    rw [List.eraseIdxIfInBounds_toArray]
  · have := len_erase xs k
    omega

def rClear : V → List V → Hp → VK → Prop := fun x vs H Q => ∃ l xs, x = .ref l ∧ vs = [] ∧ H l = some (.lst xs) ∧ Q .non (upd H l (.lst []))
theorem mt_clear : MtM X "list.clear" rClear := by
  intro pins s σ H x vs v us Q I rx rv h
  obtain ⟨l, xs, rfl, rfl, hH, q⟩ := h
  cases rx
  have hus := rv.zero
  subst hus
  obtain ⟨z, its, n, r, hl, e⟩ := I.lstM hH
  refine call_meets F.slot_list_clear ⟨_, e, rfl⟩ F.entry_list_clear (F.args_list_clear_1 _) (AutoSeq1.list_clear_list_0 l its.toArray n (by rw [List.size_toArray]; omega)) ⟨e, ?_⟩
  exact ⟨.non, _, I.lset (its' := []) (ys := []) hH e rfl .nil (Nat.zero_le _), rfl, q⟩

/-! ### list + list, list += list, list * int -/
def rCat : R2 := fun x y H Q => ∃ l b xs zs, x = .ref l ∧ y = .ref b ∧ H l = some (.lst xs) ∧ H b = some (.lst zs) ∧ xs.length + zs.length ≤ sizeLine ∧ ∀ p, H p = none → Q (.ref p) (upd H p (.lst (xs ++ zs)))
theorem op_cat : OpR X (binaryOp .Add) rCat := by
  intro pins s σ H x y v u Q I rx ry h
  obtain ⟨l, b, xs, zs, rfl, rfl, hH, hB, hz, q⟩ := h
  cases rx
  cases ry
  obtain ⟨z, its, n, r, hl, e⟩ := I.lstM hH
  obtain ⟨z2, its2, n2, r2, hl2, e2⟩ := I.lstM hB
  refine PySem.P.add_list e e2 ?_ (by rw [List.size_toArray, List.size_toArray]; omega)
  have ea : its.toArray ++ its2.toArray = (its ++ its2).toArray := by simp
  rw [ea]
  exact ⟨.ref _, _, I.lnew (t' := s.toks) (r.append r2) (by rw [List.length_append]; omega), rfl, q _ I.fresh⟩
end

/-! ### xs[a:b] = ys -/
section
variable {prog : Program} {w : World} {A : Around} {E : Value → Shared → Prop} {s : Shared}
set_option maxRecDepth 100000 in
end

section
variable {X : Cx}
end
end L2

namespace Att
open PySem PySem.W PySem.Calls PyProof.Rows

/-! ### the script -/
theorem ints_of_wellAll {P : Params} {h : Heap} : ∀ (ns : List Int) (vs : List Value), WellAll P h vs (ns.map WData.int) → IntsAre vs ns := by
  intro ns
  induction ns with
  | nil =>
    intro vs w
    rw [List.map_nil] at w
    cases w
    exact .nil
  | cons n ns ih =>
    intro vs w
    rw [List.map_cons] at w
    cases w with
    | cons a b =>
      cases a
      exact .cons _ _ (ih _ b)

theorem script_of {l : OpenLaw} {n : Nat} (hn : l.most = some n) {P : Params} {h : Heap} {args : List WData} {vals : List Value}
    (hpre : l.row.toRowW.claim.pre args = true) (hwl : WellAll P h vals args) :
    ∃ a vs ns, vals = [Value.ref a] ∧ args = [WData.list (ns.map WData.int)] ∧ h.get? a = some { cls := .type "list", data := .seq vs.toArray } ∧ IntsAre vs ns ∧ ns.length ≤ n := by
  have hsh : WShape.hasAll [] args [.list .int] = true := (pre_splitW hpre).1
  have hc : l.pre.holds [] { args := args } = true := (pre_splitW hpre).2
  obtain ⟨d, r, rfl, h1, h2⟩ := hasAllW_cons hsh
  obtain rfl := hasAllW_nil h2
  obtain ⟨xs, rfl, h3⟩ := hasW_list h1
  obtain ⟨ns, rfl⟩ := items_int h3
  have hlen : ns.length ≤ n := by
    unfold OpenLaw.pre at hc
    have h4 : (WTm.not (.lt (.lit (.int (n : Int))) (.len (.arg 0)))).holds [] { args := [.list (ns.map .int)] } = true := by
      have h4 := (holds_andW hc).1
      rw [hn] at h4
      exact h4
    have h5 := condW_of h4 (w_not (w_lt w_lit (w_len_list (w_arg rfl))))
    rw [List.length_map] at h5
    refine Nat.le_of_not_lt fun q => ?_
    have q' : (n : Int) < ((ns.length : Nat) : Int) := by omega
    first
      | (rw [decide_eq_true q'] at h5; exact absurd h5 (by decide))
      | (simp at h5; omega)
  cases hwl with
  | cons w1 w2 =>
    cases w2
    cases w1 with
    | list ho hall => exact ⟨_, _, ns, rfl, rfl, ho, ints_of_wellAll ns _ hall, hlen⟩

theorem post_true (l : OpenLaw) (args : List WData) : l.row.toRowW.claim.post args (.bool true) args = true :=
  postW_of (r := l.row.toRowW) (X := (true == true))
    (show WShape.has [] (.bool true) .bool = true by first | rfl | decide | simp [WShape.has, WShape.arms, WShape.armsAll])
    (show (WTm.eq .res (.lit (.bool true))).value [] { args := args, res := some (.bool true), after := args } = some (.bool (true == true)) from w_eq_bool (w_res rfl) w_lit) rfl

/-- the same from a codeAny of the CALL (for a layer whose function contracts speak of calls) -/
theorem attach_call {l : OpenLaw} {n : Nat} {q : Program} {loose : List Str} {XP : (Str → Option Value) → Heap → Prop} {YP : World → Heap → Prop} {d : DefRec}
    (hn : l.most = some n) (hdf : d.params.defaults = [])
    (call : ∀ (w : World) (s₀ s₁ : Shared) (mg mb : Str → Option Value) (fa : Addr) (o : Obj) (pm cd doc : Value) (a : Addr) (vs : List Value) (ns : List Int),
      Ground q loose [] XP w s₀ mg mb s₁.heap → YP w s₁.heap →
      s₁.heap.get? fa = some o → o.data = .func (docDef d.name d.params d.body d.scope pm cd doc) → s₁.heap.CodeRec cd d.name → mg d.name = some (.ref fa) →
      s₁.heap.get? a = some { cls := .type "list", data := .seq vs.toArray } → IntsAre vs ns → ns.length ≤ n → s₁.gens = #[] →
      codeAny (model l.prog w) callerA (.call (.ref fa) ⟨[.ref a], []⟩) (fun r s' => r = .ok (.ret (.bool true)) ∧ OldK s₁.heap s'.heap ∧ s'.os = s₁.os ∧ AllBare s'.gens) s₁) :
    WalkO q loose XP YP l.row.toRowW d [] (fun f vs => PySem.call f vs) := by
  intro w s₀ s₁ mg mb G Y fa o pm cd doc dV kV ho hd hcd hD hmg hg args vals as hpre hlay hrd hwl hlo
  obtain rfl : dV = .none := Dflts.none hD hdf
  obtain rfl : kV = .none := Dflts.noKw hD
  obtain ⟨a, vs, ns, rfl, rfl, hobj, hints, hlen⟩ := script_of hn hpre hwl
  refine enter_call (codeAny_mono (call w s₀ s₁ mg mb fa o pm cd doc a vs ns G Y ho (fd_plain hd) hcd hmg hobj hints hlen hg) fun r s' hq => ?_)
  obtain ⟨rfl, h2, h3, h4⟩ := hq
  exact ⟨.inl ⟨.bool true, .bool true, [], rfl, fun _ => rfl, .bool true, post_true l _, fun _ => ⟨List.Pairwise.nil, fun _ hm => (nomatch hm)⟩⟩, h2, h3, h4⟩

/-! ### rules over ANY heap (no ledger) from facts about the written part K: the library's own take a ledger (News) for what they write -/
section
variable {prog : Program} {w : World} {A : Around} {E : Value → Shared → Prop} {s : Shared} {K : Frag}

end
end Att

namespace L2
open PySem PySem.Spec PyProof.Rows

theorem vals_ints : ∀ {vs : List Value} {ns : List Int}, IntsAre vs ns → Vals (ns.map V.int) vs
  | _, _, .nil => .nil
  | _, _, .cons n t h => .cons ⟨t, rfl⟩ (vals_ints h)

/-- nothing is tracked but the script, known to the object (or it is an object of the module) -/
def Only (H : Hp) : Prop := ∀ b, H b = none ∨ ∃ o xs, H b = some (.frz o (.lst xs))

/-- THE HEAD: the law's promise, at the heap behind the top. F, the promise of the law's def, may use that base is part of the heap (so K.In base, base.Ns mainGlobals mg stand in Mod) -/
theorem law_call {P : Program} {w : World} {K : PySem.W.Frag} {mg mb : Str → Option Value} {CX : CXT} {k : Nat} {fa a : Addr} {fd : FuncData} {x : Str} {sp : Sp} {s₁ : Shared} {vs : List Value} {ns : List Int}
    (KX : K.In s₁.heap) (hns : s₁.heap.Ns mainGlobals mg) (hb : s₁.heap.Ns builtinsNs mb) (hbb : ∀ x : Str, x ≠ "__name__" → mb x = bootBuiltins x) (hlim : s₁.heap.NoLimit) (hg : s₁.gens = #[])
    (ha : s₁.heap.get? a = some { cls := .type "list", data := .seq vs.toArray }) (hi : IntsAre vs ns) (hl : ns.length ≤ sizeLine) (hr : Room k callerA)
    (F : ∀ base : Heap, K.In base → base.Ns mainGlobals mg → FnOk P w K mg base CX k fa fd [x] sp) (hbind : ∀ (s : Shared) (u : Value), BindsTo s fd ⟨[u], []⟩ [(x, u)])
    (hsp : ∀ H : Hp, Only H → SqL K H a (ns.map V.int) → sp [.ref a] H (fun v _ => v = .bl true) fun _ _ _ => False)
    (hCX : ∀ H e s', CX [] H s₁ (fun _ _ _ => False) e s' → False) :
    codeAny (model P w) callerA (.call (.ref fa) ⟨[.ref a], []⟩) (fun r s' => r = .ok (.ret (.bool true)) ∧ OldK s₁.heap s'.heap ∧ s'.os = s₁.os ∧ AllBare s'.gens) s₁ := by
  have rv := vals_ints hi
  have lenV := hi.length
  -- from an abstract heap in which nothing but the script may be tracked
  have core : ∀ H : Hp, Only H → SqL K H a (ns.map V.int) → HOk P w H s₁.heap → (∀ b, H b ≠ none → b = a) → (H a ≠ none → K.lookup a = none) →
      codeAny (model P w) callerA (.call (.ref fa) ⟨[.ref a], []⟩) (fun r s' => r = .ok (.ret (.bool true)) ∧ OldK s₁.heap s'.heap ∧ s'.os = s₁.os ∧ AllBare s'.gens) s₁ := by
    intro H hO hS hok hA hK
    have base_of : ∀ {b : Addr} {o : Obj}, s₁.heap.get? b = some o → H b = none → (hidT s₁.heap H).get? b = some o := fun e n => hidT_get e n
    have noA : ∀ {b : Addr} {o : Obj} {es : Array DictEntry} {ep : Nat}, s₁.heap.get? b = some o → o.data = .dict es ep → H b = none := fun {b o es ep} e d => by
      cases q : H b with
      | none => rfl
      | some u =>
        have e' : b = a := hA b (by rw [q]; simp)
        subst e'
        rw [ha] at e; cases e
        have d' : Data.seq vs.toArray _ = Data.dict es ep := d
        cases d'
    have nsK : ∀ {b : Addr} {m : Str → Option Value}, s₁.heap.Ns b m → (hidT s₁.heap H).Ns b m := fun {b m} ⟨o, es, ep, e, d, r⟩ => ⟨o, es, ep, base_of e (noA e d), d, r⟩
    have hKb : K.In (hidT s₁.heap H) := fun b o e => base_of (KX b o e) (by
      cases q : H b with
      | none => rfl
      | some u =>
        have e' : b = a := hA b (by rw [q]; simp)
        subst e'
        rw [hK (by rw [q]; simp)] at e; cases e)
    have hM : Mod K mg (hidT s₁.heap H) := ⟨hKb, nsK hns, ⟨mb, nsK hb, hbb⟩, let ⟨mc, h1, h2⟩ := hlim; ⟨mc, nsK h1, h2⟩⟩
    have e0 : Env0 P w K mg (hidT s₁.heap H) callerA [] s₁ H := ⟨rfl, hM, fun b o e => of_hidT e, Nat.le_of_eq (hidT_size _ _), trivial, fun b hb => absurd (show b ∈ ([] : List Addr) from hb) (by simp), hok, .of_eq hg⟩
    refine codeAny_mono ((F _ hKb (nsK hns)).run callerA [] s₁ H ⟨[.ref a], []⟩ [.ref a] [.ref a] _ _ hr e0 (hbind s₁ (.ref a)) (.cons rfl .nil) (hsp H hO hS)) fun r s' h => ?_
    cases r with
    | error e => exact (hCX H e s' h).elim
    | ok fl =>
      cases fl with
      | next => exact False.elim h
      | brk => exact False.elim h
      | cont => exact False.elim h
      | ret u =>
        obtain ⟨v, H', os, bare, un, hok', r', q⟩ := h
        have q' : v = .bl true := q
        subst q'
        obtain rfl : u = Value.bool true := r'
        refine ⟨rfl, OldK.of_keep fun b o e => ?_, os, bare⟩
        cases q : H b with
        | none => exact un.keep b o e q (by intro z; exact absurd (show b ∈ ([] : List Addr) from z) (by simp)) (by simp)
        | some u =>
          rcases hO b with z | ⟨ob, xs, z⟩
          · rw [q] at z; cases z
          · have z2 := un.frzs b ob _ z
            obtain ⟨e1, _⟩ := hok b _ z
            obtain ⟨e2, _⟩ := hok' b _ z2
            rw [e] at e1; cases e1
            exact e2
  cases hk : K.lookup a with
  | some o =>
    -- the script is one of the module's own objects
    have e := KX a o hk
    rw [ha] at e
    cases e
    refine core (fun _ => none) (fun _ => .inl rfl) (.inr ⟨_, vs.toArray, _, hk, rfl, rfl, rfl, by rw [List.size_toArray, lenV]; exact hl, by simpa using rv⟩) (fun b u z => by have z' : (none : Option HO) = some u := z; cases z') (fun b z => absurd rfl z) fun z => absurd rfl z
  | none =>
    refine core (fun b => if b = a then some (.frz { cls := .type "list", data := .seq vs.toArray } (.lst (ns.map V.int))) else none) (fun b => ?_) (.inl (.inr ⟨{ cls := .type "list", data := .seq vs.toArray }, if_pos rfl⟩)) (fun b u z => ?_) (fun b z => ?_) fun _ => hk
    · by_cases hb : b = a
      · exact .inr ⟨_, _, if_pos hb⟩
      · exact .inl (if_neg hb)
    · by_cases hb : b = a
      · have z' := (if_pos hb).symm.trans z
        cases z'
        subst hb
        exact ⟨ha, by rw [List.length_map]; exact hl, vs, _, rv, ha⟩
      · have z' := (if_neg hb).symm.trans z
        cases z'
    · by_cases hb : b = a
      · exact hb
      · exact absurd (if_neg hb) z
end L2

namespace L2
open PySem PySem.Spec PyProof.Rows

/-- the goal that k_head leaves (case hc), from the law's promise. F gives the function object fd (K's own) once, then the promise over every base -/
theorem walk_of {l : PySem.W.OpenLaw} {n k : Nat} {q : Program} {loose : List Str} {XP : (Str → Option Value) → Heap → Prop} {YP : World → Heap → Prop} {d : DefRec} {K : Params → PySem.W.Frag} {CX : World → CXT} {sp : World → Sp} {x : Str}
    (hn : l.most = some n) (hn2 : n ≤ sizeLine) (hdf : d.params.defaults = []) (hr : Room k callerA)
    (hY : ∀ (w : World) (h : Heap), YP w h → (K w.params).In h)
    (F : ∀ (w : World) (mg : Str → Option Value) (fa : Addr) (h : Heap), (K w.params).In h → h.Ns mainGlobals mg → mg d.name = some (.ref fa) →
      ∃ fd : FuncData, (∀ (s : Shared) (u : Value), BindsTo s fd ⟨[u], []⟩ [(x, u)]) ∧
        ∀ base : Heap, (K w.params).In base → base.Ns mainGlobals mg → FnOk l.prog w (K w.params) mg base (CX w) k fa fd [x] (sp w))
    (hsp : ∀ (w : World) (H : Hp) (a : Addr) (ns : List Int), ns.length ≤ n → Only H → SqL (K w.params) H a (ns.map V.int) → sp w [.ref a] H (fun v _ => v = .bl true) fun _ _ _ => False)
    (hCX : ∀ (w : World) (H : Hp) (s : Shared) (e : Value) (s' : Shared), CX w [] H s (fun _ _ _ => False) e s' → False) :
    PySem.W.WalkO q loose XP YP l.row.toRowW d [] (fun f vs => PySem.call f vs) := by
  refine Att.attach_call hn hdf fun w s₀ s₁ mg mb fa o pm cd doc a vs ns G Y ho hd hcd hmg hobj hints hlen hg => ?_
  have KX := hY w _ Y
  obtain ⟨fd, hb, hF⟩ := F w mg fa _ KX G.T.g hmg
  exact law_call KX G.T.g G.T.b G.T.builtins G.T.nolimit hg hobj hints (Nat.le_trans hlen hn2) hr hF hb (fun H hO hS => hsp w H a ns hlen hO hS) fun H e s' => hCX w H s₁ e s'
end L2



/-! SHORT WORDS over the layer: a def of the text, its body, what a loop and a test want. -/
namespace L2
open PySem PySem.Spec PyProof.Rows

/-! ### the text by places -/
/-- the j-th statement of a class's body -/
def inClass (s : Stmt) (j : Nat) : Stmt := match s with
  | .ClassDef _ _ _ body _ _ _ _ _ _ _ => body.getD j (.Pass ⟨0, 0, 0, 0⟩)
  | _ => .Pass ⟨0, 0, 0, 0⟩
def defArgs (s : Stmt) : Arguments := match s with
  | .FunctionDef _ a _ _ _ _ _ _ _ _ => a
  | _ => { posonlyargs := [], args := [], vararg := none, kwonlyargs := [], kw_defaults := [], kwarg := none, defaults := [] }
def defBody (s : Stmt) : List Stmt := match s with
  | .FunctionDef _ _ b _ _ _ _ _ _ _ => b
  | _ => []
def defScope (s : Stmt) : Scope := match s with
  | .FunctionDef _ _ _ _ _ _ sc _ _ _ => sc
  | _ => { kind := .function, names := [], isGenerator := false, isCoroutine := false }

/-! ### no exception leaves a def -/
abbrev CX0 : CXT := fun _ _ _ _ _ _ => False
abbrev E0 : XK := fun _ _ _ => False
theorem pass0 {X : Cx} : Passes CX0 X E0 := fun _ _ _ _ _ _ _ h => h.elim

/-! ### a def (or method) of the text as it stands behind the top -/
structure Fun (K : PySem.W.Frag) (x qual : Str) (st : Stmt) (f : Addr) (fd : FuncData) : Prop where
  ex : ∃ (oc : Value) (od : Option Addr) (kV doc pm : Value) (an : Option Addr) (cdv ct : Value) (osl : Array (Option Value)),
    fd = PySem.W.fnOf x qual (defArgs st) (defBody st) (defScope st) .none kV doc pm an cdv ct ∧ K.lookup f = some ⟨oc, od, .func fd, osl⟩ ∧ PySem.W.codeIn K cdv qual = true
  kp : PySem.W.keepIn K (.ref f) = true
section
variable {P : Program} {w : World} {K : PySem.W.Frag} {mg : Str → Option Value} {base : Heap}
/-- THE RULE for a def: its body as a term of rules, and the reading of that term -/
theorem Fun.ok {x qual : Str} {st : Stmt} {f : Addr} {fd : FuncData} {N ps : List Str} {k : Nat} {sp : Sp} (F : Fun K x qual st f fd) (S : FnScope N ps (defScope st)) (len : ∀ vs H Q E, sp vs H Q E → vs.length = ps.length)
    (hbody : ∀ (cdv : Value) (A : Around) (outer : List Env) (s : Shared) (H : Hp) (vs : List V) (Q : VK) (E : XK), Room k (A.deeper (envOfC qual (defScope st) s.heap.objs.size f cdv)) → sp vs H Q E →
      ∃ t, PSs (cxOf CX0 P w K mg base N qual (defScope st) f cdv A outer s H E).nox (defBody st) t ∧ t { nx := fun _ H' => Q .non H', rt := Q } (start N vs) H) : FnOk P w K mg base CX0 (k + 1) f fd ps sp := by
  obtain ⟨oc, od, kV, doc, pm, an, cdv, ct, osl, rfl, lk, hcd⟩ := F.ex
  refine fn_of lk hcd S len fun A outer s H vs Q E hr hsp => ?_
  obtain ⟨t, h, q⟩ := hbody cdv A outer s H vs Q E hr hsp
  exact ⟨t, h.nox, q⟩
/-- how its arguments bind (no defaults): h is «fun _ _ _ _ _ _ us hl => match us, hl with | [_, _], _ => rfl», one _ a parameter -/
theorem Fun.binds {x qual : Str} {st : Stmt} {f : Addr} {fd : FuncData} {ps : List Str} (F : Fun K x qual st f fd)
    (h : ∀ (kV doc pm : Value) (an : Option Addr) (cdv ct : Value) (us : List Value), us.length = ps.length → bindArgs (PySem.W.fnOf x qual (defArgs st) (defBody st) (defScope st) .none kV doc pm an cdv ct) ⟨us, []⟩ = pure (ps.zip us)) : Binds K fd ps [] := by
  obtain ⟨oc, od, kV, doc, pm, an, cdv, ct, osl, rfl, lk, hcd⟩ := F.ex
  exact .all (h kV doc pm an cdv ct)
theorem fun_mk {x qual : Str} {st : Stmt} {f : Addr} {oc : Value} {od an : Option Addr} {osl : Array (Option Value)} {kV doc pm cdv ct : Value} (l : K.lookup f = some ⟨oc, od, .func (PySem.W.fnOf x qual (defArgs st) (defBody st) (defScope st) .none kV doc pm an cdv ct), osl⟩)
    (c : PySem.W.codeIn K cdv qual = true) (k : PySem.W.keepIn K (.ref f) = true) : Fun K x qual st f (PySem.W.fnOf x qual (defArgs st) (defBody st) (defScope st) .none kV doc pm an cdv ct) := ⟨⟨oc, od, kV, doc, pm, an, cdv, ct, osl, rfl, l, c⟩, k⟩
end
theorem hu_of {A : Around} {k : Nat} (hr : Room k A) : A.units + 1 < cLine := Nat.lt_of_le_of_lt (Nat.add_le_add_left (by decide : 1 ≤ 64) _) hr.units
theorem small1000 {n : Nat} (h : n ≤ 1000) : n < sizeLine := Nat.lt_of_le_of_lt h (by decide)

/-! ### expressions in short: the name that stands in the i-th slot -/
section
variable {X : Cx}
theorem pv (i : Nat) {x : Str} {pos : Pos} (hN : X.N[i]? = some x := by rfl) (hv : Vis X.env.scope x := by first | exact Or.inl rfl | exact Or.inr (Or.inl rfl) | exact Or.inr (Or.inr rfl)) (hd : (x == ("__debug__" : Str)) = false := by decide)
    (hcd : (x == ("__classdict__" : Str)) = false := by decide) : PE X (.Name x pos) (tVar i) := pe_var hN hv hd hcd
end

/-! ### tests -/
theorem iteF {A B : Prop} (h : B) : if false = true then A else B := by
  rw [if_neg Bool.false_ne_true]
  exact h
theorem iteT {A B : Prop} (h : A) : if true = true then A else B := by
  rw [if_pos rfl]
  exact h
theorem ite2 {c A B : Prop} [Decidable c] (h1 : c → A) (h2 : ¬ c → B) : if c then A else B := by
  by_cases h : c
  · rw [if_pos h]
    exact h1 h
  · rw [if_neg h]
    exact h2 h
theorem iteNS {c A B : Prop} [Decidable c] (hc : c) (h : B) : if (!decide c) = true then A else B := by
  rw [decide_eq_true hc]
  exact iteF h

/-! ### heaps -/
/-- all that was tracked is as it was -/
def Same (H H' : Hp) : Prop := ∀ b o, H b = some o → H' b = some o
theorem Same.refl (H : Hp) : Same H H := fun _ _ h => h
theorem Same.trans {H H1 H2 : Hp} (a : Same H H1) (b : Same H1 H2) : Same H H2 := fun c o h => b c o (a c o h)
theorem Same.free {H H' : Hp} (e : Same H H') {l : Addr} (h : H' l = Option.none) : H l = Option.none := by
  cases q : H l with
  | none => rfl
  | some o =>
    rw [e l o q] at h
    cases h
theorem Same.seq {K : PySem.W.Frag} {H H' : Hp} {a : Addr} {xs : List V} (e : Same H H') (h : SqL K H a xs) : SqL K H' a xs := by
  rcases h with (h | ⟨o, h⟩) | h
  · exact .inl (.inl (e _ _ h))
  · exact .inl (.inr ⟨o, e _ _ h⟩)
  · exact .inr h

end L2

set_option Elab.async false
set_option linter.all false
set_option maxRecDepth 100000
set_option maxHeartbeats 4000000

/-! ### list comprehensions, over the layer -/
namespace L2
open PySem PySem.Spec PyProof.Rows

/-- the cells that a block takes from the frame around it -/
def clOf (env : Env) : List (Str × NameKind) → List (Str × Addr) → List (Str × Addr)
  | [], cs => cs
  | (n, k) :: r, cs => clOf env r (if (k == .free) = true then (match env.cells.lookup n with | some c => (n, c) :: cs | none => cs) else cs)

theorem clOf_run {env : Env} : ∀ (names : List (Str × NameKind)) (cs : List (Str × Addr)), (∀ p ∈ names, p.2 = .free → ∃ c, env.cells.lookup p.1 = some c) →
    (forIn names cs fun (p : Str × NameKind) (r : List (Str × Addr)) => (if (p.2 == .free) = true then do
        let c ← cellOf env p.1
        pure (ForInStep.yield ((p.1, c) :: r))
      else pure (ForInStep.yield r) : Sem (ForInStep (List (Str × Addr))))) = pure (clOf env names cs)
  | [], cs, _ => rfl
  | (n, k) :: rest, cs, h => by
    have ih := fun cs' => clOf_run rest cs' fun p hp => h p (List.mem_cons_of_mem _ hp)
    rw [List.forIn_cons]
    cases hk : (k == NameKind.free) with
    | true =>
      obtain ⟨c, hc⟩ := h (n, k) List.mem_cons_self (eq_of_beq hk)
      have e1 : cellOf env n = pure c := by unfold cellOf; rw [hc]
      have e2 : clOf env ((n, k) :: rest) cs = clOf env rest ((n, c) :: cs) := by simp only [clOf, hk, if_true, hc]
      rw [e2, ← ih]
      simp only [hk, if_true, e1, pure_bind]
    | false =>
      have e2 : clOf env ((n, k) :: rest) cs = clOf env rest cs := by simp only [clOf, hk, Bool.false_eq_true, if_false]
      rw [e2, ← ih]
      simp only [hk, Bool.false_eq_true, if_false, pure_bind]
theorem closure_is {env : Env} {scope : Scope} (h : ∀ p ∈ scope.names, p.2 = .free → ∃ c, env.cells.lookup p.1 = some c) : closureFor scope env = pure (clOf env scope.names []) := by
  have e := clOf_run (env := env) scope.names [] h
  unfold closureFor
  simp only [bind_pure]
  exact e
theorem clOf_sub {env : Env} : ∀ (names : List (Str × NameKind)) (cs : List (Str × Addr)), (∀ x c, cs.lookup x = some c → env.cells.lookup x = some c) →
    ∀ x c, (clOf env names cs).lookup x = some c → env.cells.lookup x = some c
  | [], cs, h, x, c, e => h x c e
  | (n, k) :: rest, cs, h, x, c, e => by
    refine clOf_sub rest _ (fun y d z => ?_) x c e
    split at z
    · split at z
      · rename_i c' hc'
        rw [List.lookup_cons] at z
        cases q : y == n with
        | true => rw [q] at z; cases z; rw [eq_of_beq q]; exact hc'
        | false => rw [q] at z; exact h y d z
      · exact h y d z
    · exact h y d z
theorem clOf_has {env : Env} : ∀ (names : List (Str × NameKind)) (cs : List (Str × Addr)) (x : Str), ((cs.lookup x).isSome = true ∨ ((x, NameKind.free) ∈ names ∧ ∃ c, env.cells.lookup x = some c)) →
    ∃ c, (clOf env names cs).lookup x = some c
  | [], cs, x, h => by
    rcases h with h | ⟨h, _⟩
    · exact Option.isSome_iff_exists.mp h
    · cases h
  | (n, k) :: rest, cs, x, h => by
    refine clOf_has rest _ x ?_
    have grow : (cs.lookup x).isSome = true → (List.lookup x (if (k == .free) = true then (match env.cells.lookup n with | some c => (n, c) :: cs | none => cs) else cs)).isSome = true := fun z => by
      split
      · split
        · rw [List.lookup_cons]
          cases x == n with
          | true => rfl
          | false => exact z
        · exact z
      · exact z
    rcases h with h | ⟨h, c, hc⟩
    · exact .inl (grow h)
    · rcases List.mem_cons.mp h with z | z
      · cases z
        refine .inl ?_
        simp [hc, List.lookup_cons]
      · exact .inr ⟨z, c, hc⟩

def relK (env : Env) (n : Str) (k : NameKind) : NameKind := if (k == .free && env.scope.kind == .function && env.kindOf n == some .cell) = true then .cell else k
theorem lookup_rel (env : Env) : ∀ (l : List (Str × NameKind)) (x : Str),
    (l.map fun (n, k) => if (k == NameKind.free && env.scope.kind == .function && env.kindOf n == some .cell) then (n, NameKind.cell) else (n, k)).lookup x = (l.lookup x).map (relK env x)
  | [], _ => rfl
  | (n, k) :: r, x => by
    have ih := lookup_rel env r x
    have e : (if (k == NameKind.free && env.scope.kind == .function && env.kindOf n == some .cell) = true then (n, NameKind.cell) else (n, k)) = (n, relK env n k) := by
      unfold relK; split <;> rfl
    rw [List.map_cons]
    show List.lookup x ((if (k == NameKind.free && env.scope.kind == .function && env.kindOf n == some .cell) = true then (n, NameKind.cell) else (n, k)) :: _) = _
    rw [e, List.lookup_cons, List.lookup_cons]
    cases q : x == n with
    | true => rw [eq_of_beq q]; rfl
    | false => exact ih
theorem relK_vis {env : Env} {n : Str} {k : NameKind} (h : relK env n k = .cell ∨ relK env n k = .free) : k = .cell ∨ k = .free := by
  unfold relK at h
  split at h
  · rename_i q
    simp only [Bool.and_eq_true] at q
    exact .inr (eq_of_beq q.1.1)
  · exact h

/-- one turn after another; nothing is raised -/
theorem comp_loop {prog : Program} {w : World} {A : Around} {R : Result → Shared → Prop} {s : Shared} {elt target iter : Expr} {ifs : List Expr} {scope : Scope} {pos : Pos} {it acc : Value} {env : Env} (J : Nat → Shared → Prop)
    (turn : ∀ n s, J n s → wpAny (model prog w) A (pyNext it) (fun r s1 => match r with
      | none => R (.ok .next) s1
      | some v => wpAny (model prog w) A (letOwnedTupleGo target it v) (fun _ s2 => wpAny (model prog w) A (assign target env v) (fun _ s3 =>
          wpAny (model prog w) A (forIn ifs true fun c r => if r = true then do let ok ← isTrue c env (eval c env); pure (ForInStep.yield ok) else pure (ForInStep.yield r)) (fun ok s4 =>
            if ok = true then wpAny (model prog w) A (eval elt env) (fun x s5 => wpAny (model prog w) A (call (.builtin "list.append") [acc, x]) (fun _ s6 => ∃ m, m < n ∧ J m s6) (fun _ _ => False) s5) (fun _ _ => False) s4
            else ∃ m, m < n ∧ J m s4) (fun _ _ => False) s3) (fun _ _ => False) s2) (fun _ _ => False) s1) (fun _ _ => False) s)
    (n : Nat) (h : J n s) : codeAny (model prog w) A (.compLoop (.ListComp elt [⟨target, iter, ifs, 0⟩] scope pos) 0 it acc env) R s := by
  refine codeAny_loop rfl J (fun k s' hk => ?_) n h
  show wpAny _ A (Sem.onRaise (compTurn (.ListComp elt [⟨target, iter, ifs, 0⟩] scope pos) 0 it acc env) (fun x => do noteFrame x env; theTreesLotGoes x)) _ _ s'
  refine wpAny_noted ?_
  rw [compTurn_list]
  refine wpAny_bind (wpAny_standAt (wpAny_bind (wpAny_mono (turn k s' hk) (fun r s1 q1 => ?_) fun _ _ f => f.elim)))
  cases r with
  | none => exact wpAny_pure q1
  | some v =>
    refine wpAny_bind (wpAny_mono q1 (fun _ s2 q2 => wpAny_bind (wpAny_mono q2 (fun _ s3 q3 => wpAny_bind (wpAny_mono q3 (fun ok s4 q4 => ?_) fun _ _ f => f.elim)) fun _ _ f => f.elim)) fun _ _ f => f.elim)
    cases ok with
    | false => exact wpAny_pure ⟨rfl, q4⟩
    | true => exact wpAny_bind (wpAny_bind (wpAny_mono q4 (fun x s5 q5 => wpAny_bind (wpAny_mono q5 (fun _ s6 q6 => wpAny_pure (wpAny_pure ⟨rfl, q6⟩)) fun _ _ f => f.elim)) fun _ _ f => f.elim))

/-- the context of a comprehension's block -/
def cxC (X : Cx) (N' : List Str) (scope : Scope) (s3 : Shared) (H3 : Hp) (fp : List Addr) (pn : List (Addr × Obj)) : Cx where
  prog := X.prog
  w := X.w
  K := X.K
  mg := X.mg
  base := X.base
  A := X.A
  N := N'
  s₀ := s3
  H₀ := H3
  env := compEnvC scope (clOf X.env scope.names []) s3.heap.objs.size X.env
  outer := X.stack
  stack := X.stack
  ex := fp
  fn := fun _ => false
  calm := X.calm
  pn := pn
  xe := fun _ _ => False
/-- what is fixed of a comprehension's names: N' its own and those it takes from around; src: where these lie there -/
structure CScope (X : Cx) (N' : List Str) (src : List (Option Nat)) (sc : Scope) : Prop where
  kind : sc.kind = .function
  nocell : ∀ y ∈ sc.names, y.2 ≠ .cell
  loc : ∀ y ∈ sc.names, y.2 = .local → sc.names.lookup y.1 = some .local
  fv : ∀ y ∈ sc.names, y.2 = .free → X.env.kindOf y.1 = some .cell ∨ X.env.kindOf y.1 = some .free
  len : src.length = N'.length
  src : ∀ (i : Nat) (x : Str) (j : Nat), N'[i]? = some x → src[i]? = some (some j) → X.N[j]? = some x ∧ sc.names.lookup x = some .free
def srcSt (src : List (Option Nat)) (σ : St) : St := src.map fun o => match o with | none => none | some j => (σ[j]?).join

/-- the tests of a clause -/
def PF (X : Cx) (ifs : List Expr) (t : TT) : Prop :=
  ∀ (pins : List (Addr × Obj)) (s : Shared) (σ : St) (H : Hp) (Q : Bool → Hp → Prop), Inv X pins σ H s → t σ H Q →
    wpAny (model X.prog X.w) X.A (forIn ifs true fun c r => if r = true then do let ok ← isTrue c X.env (eval c X.env); pure (ForInStep.yield ok) else pure (ForInStep.yield r)) (TP X pins σ Q) X.xe s
theorem pf_nil {X : Cx} : PF X [] (fun _ H Q => Q true H) := fun _ _ _ H _ I h => wpAny_tests_nil ⟨H, I, h⟩
theorem pf_one {X : Cx} {c : Expr} {t : TT} (hc : PT X c t) : PF X [c] t := fun pins s σ H Q I h => wpAny_tests_one (hc pins s σ H Q I h)

theorem Un.ahead {fs ex : List Addr} {H H' : Hp} {h h1 h' : Heap} (u : Un fs ex H H' h h1) (k : ∀ b o, b < h.objs.size → h1.get? b = some o → h'.get? b = some o) : Un fs ex H H' h h' where
  keep := fun b o e n hb hx => k b o (Heap.lt_size e) (u.keep b o e n hb hx)
  slot := fun b o e n hb hx => by
    obtain ⟨sl, q⟩ := u.slot b o e n hb hx
    exact ⟨sl, k b _ (Heap.lt_size e) q⟩
  free := u.free
  there := fun b o e hx => by
    obtain ⟨o', q⟩ := u.there b o e hx
    exact ⟨o', k b _ (Heap.lt_size e) q⟩
  tups := u.tups
  frzs := u.frzs
  tbls := u.tbls

section
variable {X : Cx} {N' : List Str} {src : List (Option Nat)} {sc : Scope} {pins : List (Addr × Obj)} {σ : St} {H : Hp} {s3 : Shared} {fp : List Addr} {h1 : Heap} {tk : Nat}
/-- the block begins -/
theorem cx_start (S : CScope X N' src sc) (I : Inv X pins σ H s3) (hf : ∀ b ∈ fp, FpOk X pins H b) (ht : ∀ b ∈ fp, b < s3.heap.objs.size)
    (ns : h1.Ns s3.heap.objs.size fun _ => none) (kp : ∀ b o, s3.heap.get? b = some o → h1.get? b = some o) :
    Inv (cxC X N' sc s3 H fp (X.pn ++ pins)) [] (srcSt src σ) H { s3 with heap := h1, toks := tk } := by
  have hcl : ∀ x c, (clOf X.env sc.names []).lookup x = some c → X.env.cells.lookup x = some c := clOf_sub sc.names [] fun x c e => by cases e
  have old : ∀ x c, (clOf X.env sc.names []).lookup x = some c → ∃ o, s3.heap.get? c = some o := fun x c e => by
    obtain ⟨v, o, ho, _⟩ := I.cell x c (hcl x c e)
    exact ⟨o, ho⟩
  have fvh : ∀ x, (x, NameKind.free) ∈ sc.names → ∃ c, X.env.cells.lookup x = some c := fun x hx => I.ok.has x (S.fv _ hx rfl)
  have stkL : ∀ b, b ≠ X.env.locals → b ∉ X.fs → b ∉ frs X.stack := fun b h1 h2 hb => (List.mem_cons.mp (I.stkSub b hb)).elim h1 h2
  have kindOf_eq : ∀ x, (compEnvC sc (clOf X.env sc.names []) s3.heap.objs.size X.env).kindOf x = (sc.names.lookup x).map (relK X.env x) := fun x => lookup_rel X.env sc.names x
  refine ⟨⟨I.ok.mod, S.kind, I.ok.glob, I.ok.blt, Nat.le_refl _, fun x y c e1 e2 => I.ok.inj x y c (hcl x c e1) (hcl y c e2), fun x hx => ?_, fun x c hf => absurd hf Bool.false_ne_true, I.ok.hd, I.ok.frames, .inl rfl, fun b hb => ?_, I.bs, Nat.le_trans I.ok.bsz I.sz,
    fun b o e hb => ?_, fun b hb => ?_, I.stack, I.stkFree⟩, rfl, I.bare, Un.kept kp, ⟨_, ns, fun i x v e1 e2 e3 => ?_⟩, fun x c e => ?_, I.hok.fresh (Nat.le_refl _), fun x c e => I.freeC x c (hcl x c e), fun p hp => ?_, I.hok.kept kp, ?_⟩
  · -- has
    have hx' : (sc.names.lookup x).map (relK X.env x) = some .cell ∨ (sc.names.lookup x).map (relK X.env x) = some .free := by
      rw [← kindOf_eq x]; exact hx
    cases q : sc.names.lookup x with
    | none => rw [q] at hx'; rcases hx' with z | z <;> cases z
    | some k =>
      rw [q] at hx'
      have hk : k = .cell ∨ k = .free := relK_vis (env := X.env) (n := x) (hx'.imp (fun z => Option.some.inj z) fun z => Option.some.inj z)
      have hm := PySem.mem_of_lookup q
      rcases hk with rfl | rfl
      · exact absurd rfl (S.nocell _ hm)
      · exact clOf_has sc.names [] x (.inr ⟨hm, fvh x hm⟩)
  · -- exf
    obtain ⟨f0, f1, f2, f3, f4, f5⟩ := hf b hb
    exact ⟨Nat.ne_of_lt (ht b hb), fun x c e => f4 x c (hcl x c e)⟩
  · -- noex
    obtain ⟨f0, f1, f2, f3, f4, f5⟩ := hf b hb
    rcases f3 with z | z
    · exact I.ok.noex b o e z
    · exact absurd (Nat.lt_of_lt_of_le (Heap.lt_size e) (Nat.le_trans I.ok.bsz z)) (Nat.lt_irrefl _)
  · -- exfs
    obtain ⟨f0, f1, f2, f3, f4, f5⟩ := hf b hb
    exact stkL b f1 f2
  · -- loc
    have e2' : (srcSt src σ)[i]? = some (some v) := e2
    unfold srcSt at e2'
    rw [List.getElem?_map] at e2'
    cases q : src[i]? with
    | none => rw [q] at e2'; cases e2'
    | some oj =>
      rw [q] at e2'
      cases oj with
      | none => cases e2'
      | some j =>
        have e4 : (σ[j]?).join = some v := Option.some.inj e2'
        have e5 : σ[j]? = some (some v) := by
          cases r : σ[j]? with
          | none => rw [r] at e4; cases e4
          | some z => rw [r] at e4; cases z with
            | none => cases e4
            | some y => cases e4; rfl
        obtain ⟨hN, hfr⟩ := S.src i x j e1 q
        have hm := PySem.mem_of_lookup hfr
        have kx := S.fv _ hm rfl
        obtain ⟨m, hn, hl⟩ := I.loc
        obtain ⟨u, r, l⟩ := hl j x v hN e5 (.inr kx)
        refine ⟨u, r, ?_⟩
        rcases l with ⟨k1, _⟩ | ⟨_, c, hc, hcell⟩
        · rcases kx with z | z <;> (rw [z] at k1; cases k1)
        · obtain ⟨c', hc'⟩ := clOf_has (env := X.env) sc.names [] x (.inr ⟨hm, c, hc⟩)
          have e6 : c' = c := by
            have := hcl x c' hc'
            rw [hc] at this
            exact (Option.some.inj this).symm
          subst e6
          refine .inr ⟨?_, c', hc', ?_⟩
          · have : (compEnvC sc (clOf X.env sc.names []) s3.heap.objs.size X.env).kindOf x = some (relK X.env x .free) := by rw [kindOf_eq x, hfr]; rfl
            show (compEnvC sc (clOf X.env sc.names []) s3.heap.objs.size X.env).kindOf x = some .cell ∨ (compEnvC sc (clOf X.env sc.names []) s3.heap.objs.size X.env).kindOf x = some .free
            rw [this]
            unfold relK
            split
            · exact .inl rfl
            · exact .inr rfl
          · obtain ⟨o, ho, hd⟩ := hcell
            exact ⟨o, kp _ o ho, hd⟩
  · -- cell
    obtain ⟨v, o, ho, hd⟩ := I.cell x c (hcl x c e)
    exact ⟨v, o, kp _ o ho, hd⟩
  · -- pin
    have hp' : p ∈ X.pn ++ pins := (List.mem_append.mp hp).elim id fun z => by cases z
    obtain ⟨a1, a2, a3, a4, a5⟩ := I.pin p hp'
    exact ⟨kp _ _ a1, a2, Nat.ne_of_lt (Heap.lt_size a1), stkL p.1 a3 a4, a5⟩
  · show (srcSt src σ).length = N'.length
    unfold srcSt
    rw [List.length_map]
    exact S.len

/-- the block ends -/
theorem cx_end {s1 : Shared} {σ' : St} {H' : Hp} {h' : Heap} (I : Inv X pins σ H s3) (hf : ∀ b ∈ fp, FpOk X pins H b) (I' : Inv (cxC X N' sc s3 H fp (X.pn ++ pins)) [] σ' H' s1)
    (sb : Heap.SameBut s3.heap.objs.size s1.heap h') : Inv X pins σ H' { s1 with heap := h' } := by
  have fr : H' s3.heap.objs.size = none := I'.free
  refine I.call' (s' := { s1 with heap := h' }) (ch := fp) I'.os ?_ ?_ I'.bare fun b hb => ?_
  · exact Un.ahead (h := s3.heap) (h1 := s1.heap) I'.base fun b o hb e => sb.extBut b o (Nat.ne_of_lt hb) e
  · exact fun b u e => (I'.hok b u e).stay (fun c v hc q => sb.extBut c v (by
      intro z
      rcases hc with y | y
      · rw [← y, z, fr] at e; cases e
      · rw [z, fr] at y; cases y) q) (fun _ q => q) fun _ _ q => q
  · obtain ⟨f0, f1, f2, f3, f4, f5⟩ := hf b hb
    exact ⟨f3, f1, f4, fun p hp => f5 p hp⟩
end

/-- what a comprehension is to keep, turn by turn: W the invariant by the turn and a measure, over the block's names and the heap; l the new list -/
@[irreducible] def CWant (J : It) (g : TG) (tt : TT) (te : TE) (Q : VK) (σ0 : St) (H0 : Hp) (l : Addr) : Prop := ∃ W : Nat → Nat → St → Hp → Prop, (∃ m, W 0 m σ0 H0) ∧
  ∀ i m σ' H', W i m σ' H' → (J.stop i H' ∧ Q (.ref l) H') ∨ (J.go i H' ∧ ∃ N : St → Hp → Prop, (∀ σ3 H3, N σ3 H3 → ∃ m', m' < m ∧ W (i + 1) m' σ3 H3) ∧ ∀ x H2, J.yld i H' x H2 → g x σ' H2 fun σ3 H3 => tt σ3 H3 fun b H4 =>
    if b = true then te σ3 H4 fun y H5 => ∃ xs, H5 l = some (.lst xs) ∧ xs.length < sizeLine ∧ N σ3 (upd H5 l (.lst (xs ++ [y]))) else N σ3 H4)
/-- [elt for tg in iter if ..] -/
def tComp (wi : TI) (src : List (Option Nat)) (g : TG) (tt : TT) (te : TE) : TE := fun σ H Q => wi σ H fun J H1 => ∀ l, H1 l = none → CWant J g tt te Q (srcSt src σ) (upd H1 l (.lst [])) l

/-- the core: fin says what is wanted where the block's turns are over -/
theorem comp_core {X : Cx} {N' : List Str} {src : List (Option Nat)} {sc : Scope} {elt tg iter : Expr} {ifs : List Expr} {pos pos' : Pos} {wi : TI} {g : TG} {tt : TT} {te : TE} {use : Option (Value → Sem Unit)} {R : Value → Shared → Prop} (hc : X.calm = true) (S : CScope X N' src sc)
    (hi : PI X tg iter wi) (hg : ∀ s3 H3 fp pn, PG (cxC X N' sc s3 H3 fp pn) tg g) (ht : ∀ s3 H3 fp pn, PF (cxC X N' sc s3 H3 fp pn) ifs tt) (he : ∀ s3 H3 fp pn, PE (cxC X N' sc s3 H3 fp pn) elt te)
    (hs : ∀ x, foldedSetIterable iter X.env x = pure x) {pins : List (Addr × Obj)} {s : Shared} {σ : St} {H : Hp} {Q : VK} (I : Inv X pins σ H s) (h : tComp wi src g tt te σ H Q)
    (fin : ∀ s3 H3 fp σ4 H4 s5 l, Inv X pins σ H3 s3 → (∀ b ∈ fp, FpOk X pins H3 b) → Inv (cxC X N' sc s3 H3 fp (X.pn ++ pins)) [] σ4 H4 s5 → Q (.ref l) H4 →
      compPost (model X.prog X.w) X.A X.xe use R (.ref l) s3.heap.objs.size (.ok .next) s5) :
    wpAny (model X.prog X.w) X.A (comprehension (.ListComp elt [⟨tg, iter, ifs, 0⟩] sc pos) sc X.env pos' (newList []) false (eval iter X.env) use) R X.xe s := by
  refine wpAny_comprehension_free (use := use) (cl := clOf X.env sc.names []) rfl hs (closure_is fun p hp e => I.ok.has p.1 (S.fv p hp e)) S.kind S.loc ?_
  refine thn (hi pins s σ H _ I h) fun v s1 h1 => thn h1 fun itv s2 h2 => ?_
  obtain ⟨it, fp, tn, J, H2, rfl, I2, T, st2, f2, q⟩ := h2
  have q' := q s2.heap.objs.size (I2.hok.fresh (Nat.le_refl _))
  unfold CWant at q'
  obtain ⟨W, ⟨m0, w0⟩, turn⟩ := q'
  refine wpAny_newObj_type (wpAny_newFunctionEnv S.nocell (by intro y hy; simp at hy) (fun ha hns hsb => ?_) S.kind)
  have I3 : Inv X pins σ (upd H2 s2.heap.objs.size (.lst [])) { s2 with heap := s2.heap.push { cls := .type "list", dict := none, data := .seq ([] : List Value).toArray } } :=
    I2.laid (t' := s2.toks) (fun b u e => Heap.get?_push_of_some _ e) (Nat.le_refl _) ⟨Nat.zero_le _, [], 0, .nil, Heap.get?_push_size _ rfl⟩
  have hfl : ∀ b ∈ fp, b < s2.heap.objs.size := fun b hb => by
    obtain ⟨o, e, _⟩ := T.obj 0 _ st2 b hb
    exact Heap.lt_size e
  have f3 : ∀ b ∈ fp, FpOk X pins (upd H2 s2.heap.objs.size (.lst [])) b := fun b hb => ⟨by rw [upd_ne (Nat.ne_of_lt (hfl b hb))]; exact (f2 b hb).1, (f2 b hb).2⟩
  generalize hs3 : ({ s2 with heap := s2.heap.push { cls := .type "list", dict := none, data := .seq ([] : List Value).toArray } } : Shared) = s3 at *
  have hsz : s2.heap.objs.size < s3.heap.objs.size := by rw [← hs3]; show s2.heap.objs.size < (s2.heap.push _).objs.size; rw [Heap.size_push]; exact Nat.lt_succ_self _
  have kp : ∀ b o, s3.heap.get? b = some o → ha.get? b = some o := fun b o e => hsb.extBut b o (Nat.ne_of_lt (Heap.lt_size e)) (Heap.get?_push_of_some _ e)
  have st3 : tn 0 ha := T.keep 0 _ _ st2 fun b hb o e => kp b o (by rw [← hs3]; exact Heap.get?_push_of_some _ e)
  have I4 : Inv (cxC X N' sc s3 (upd H2 s2.heap.objs.size (.lst [])) fp (X.pn ++ pins)) [] (srcSt src σ) (upd H2 s2.heap.objs.size (.lst [])) { s3 with heap := ha, toks := s3.toks + ([] : List (Str × Value)).length } :=
    cx_start S I3 f3 (fun b hb => Nat.lt_trans (hfl b hb) hsz) hns kp
  have loop : codeAny (model X.prog X.w) X.A (.compLoop (.ListComp elt [⟨tg, iter, ifs, 0⟩] sc pos) 0 (.ref it) (.ref s2.heap.objs.size) (compEnvC sc (clOf X.env sc.names []) s3.heap.objs.size X.env))
      (compPost (model X.prog X.w) X.A X.xe use R (.ref s2.heap.objs.size) s3.heap.objs.size) { s3 with heap := ha, toks := s3.toks + ([] : List (Str × Value)).length } := by
    refine comp_loop (fun n s' => ∃ i σ' H', Inv (cxC X N' sc s3 (upd H2 s2.heap.objs.size (.lst [])) fp (X.pn ++ pins)) [] σ' H' s' ∧ tn i s'.heap ∧ (∀ b ∈ fp, H' b = none) ∧ W i n σ' H') ?_ m0 ⟨0, _, _, I4, st3, fun b hb => (f3 b hb).1, w0⟩
    rintro n s4 ⟨i, σ4, H4, J4, st4, fr4, w4⟩
    have stat : ∀ {H' : Hp}, (∀ b ∈ fp, H' b = none) → ∀ b ∈ fp, FpOk (cxC X N' sc s3 (upd H2 s2.heap.objs.size (.lst [])) fp (X.pn ++ pins)) [] H' b := fun hn b hb =>
      ⟨hn b hb, (I4.ok.exf b hb).1, I4.ok.exfs b hb, .inl hb, fun x c e => (I4.ok.exf b hb).2 x c e, fun p hp => (f3 b hb).2.2.2.2.2 p ((List.mem_append.mp hp).elim id fun z => by cases z)⟩
    rcases turn i n σ4 H4 w4 with ⟨stop, qn⟩ | ⟨go, N, hN, step⟩
    · refine thn (T.done (cxC X N' sc s3 (upd H2 s2.heap.objs.size (.lst [])) fp (X.pn ++ pins)) rfl rfl rfl hc i [] s4 σ4 H4 _ J4 (stat fr4) st4 stop) fun r s5 ⟨hr, J5⟩ => ?_
      subst hr
      exact fin s3 _ fp σ4 H4 s5 _ I3 f3 J5 qn
    · refine thn (T.item (cxC X N' sc s3 (upd H2 s2.heap.objs.size (.lst [])) fp (X.pn ++ pins)) rfl rfl rfl hc i [] s4 σ4 H4 _ J4 (stat fr4) st4 go) fun r s5 ⟨u, hr, h5⟩ => ?_
      subst hr
      refine thn h5 fun _ s6 ⟨x, H6, J6, r6, y6, st6, fr6⟩ => ?_
      have J6' := J6.pinned (stat fr6) (T.obj _ _ st6)
      have back : ∀ {pl : List (Addr × Obj)} {σ7 : St} {H7 : Hp} {s7 : Shared}, Inv (cxC X N' sc s3 (upd H2 s2.heap.objs.size (.lst [])) fp (X.pn ++ pins)) ([] ++ pinsAt fp s6.heap) σ7 H7 s7 → N σ7 H7 →
          ∃ m', m' < n ∧ ∃ i σ' H', Inv (cxC X N' sc s3 (upd H2 s2.heap.objs.size (.lst [])) fp (X.pn ++ pins)) [] σ' H' s7 ∧ tn i s7.heap ∧ (∀ b ∈ fp, H' b = none) ∧ W i m' σ' H' := fun {pl σ7 H7 s7} J7 w7 => by
        obtain ⟨m', hm, w7⟩ := hN _ _ w7
        have pinned : ∀ b ∈ fp, ∀ o, s6.heap.get? b = some o → s7.heap.get? b = some o ∧ H7 b = none := fun b hb o e => by
          have := J7.pin (b, o) (List.mem_append_right _ (List.mem_append_right _ (mem_pinsAt hb e)))
          exact ⟨this.1, this.2.1⟩
        refine ⟨m', hm, i + 1, σ7, H7, J7.unpinned, T.keep _ _ _ st6 fun b hb o e => (pinned b hb o e).1, fun b hb => ?_, w7⟩
        obtain ⟨o, e, _⟩ := T.obj _ _ st6 b hb
        exact (pinned b hb o e).2
      refine thn (hg s3 _ fp _ _ s6 σ4 H6 x u _ J6' r6 (step x H6 y6)) fun _ s7 ⟨σ7, H7, J7, q7⟩ => ?_
      refine thn (ht s3 _ fp _ _ s7 σ7 H7 _ J7 q7) fun ok s8 ⟨H8, J8, q8⟩ => ?_
      cases ok with
      | false =>
        rw [if_neg Bool.false_ne_true] at q8 ⊢
        exact back (pl := []) J8 q8
      | true =>
        rw [if_pos rfl] at q8 ⊢
        refine thn (he s3 _ fp _ _ s8 σ7 H8 _ J8 q8) fun y s9 ⟨yv, H9, J9, r9, xs, hl9, hz9, q9⟩ => ?_
        refine thn (mt_append _ s9 σ7 H9 (.ref s2.heap.objs.size) [yv] (.ref s2.heap.objs.size) [y] (fun _ H' => N σ7 H') J9 rfl (.cons r9 .nil) ⟨_, xs, yv, rfl, rfl, hl9, hz9, q9⟩) fun _ s10 ⟨_, H10, J10, _, q10⟩ => ?_
        exact back (pl := []) J10 q10
  exact codeAny_compStart_list loop (T.self X.A 0 _ _ _ st3 loop)
theorem pe_comp {X : Cx} {N' : List Str} {src : List (Option Nat)} {sc : Scope} {elt tg iter : Expr} {ifs : List Expr} {pos : Pos} {wi : TI} {g : TG} {tt : TT} {te : TE} (hc : X.calm = true) (S : CScope X N' src sc)
    (hi : PI X tg iter wi) (hg : ∀ s3 H3 fp pn, PG (cxC X N' sc s3 H3 fp pn) tg g) (ht : ∀ s3 H3 fp pn, PF (cxC X N' sc s3 H3 fp pn) ifs tt) (he : ∀ s3 H3 fp pn, PE (cxC X N' sc s3 H3 fp pn) elt te)
    (hs : ∀ x, foldedSetIterable iter X.env x = pure x := by intro _; rfl) : PE X (.ListComp elt [⟨tg, iter, ifs, 0⟩] sc pos) (tComp wi src g tt te) := by
  intro pins s σ H Q I h
  rw [eval_ListComp]
  refine comp_core (use := none) hc S hi hg ht he hs I h fun s3 H3 fp σ4 H4 s5 l I3 f3 J5 q => ?_
  obtain ⟨m, hn, _⟩ := J5.loc
  exact ⟨m, hn, fun h' sb => ⟨.ref l, H4, cx_end I3 f3 J5 sb, rfl, q⟩⟩
/-- name = [elt for tg in iter if ..] -/
theorem ps_setC {X : Cx} {N' : List Str} {src : List (Option Nat)} {sc : Scope} {elt tg iter : Expr} {ifs : List Expr} {pos spos px : Pos} {wi : TI} {g : TG} {tt : TT} {te : TE} {i : Nat} {x : Str} (hN : X.N.Nodup) (hi0 : X.N[i]? = some x) (hx : Loc X.env.scope x) (hc : X.calm = true) (S : CScope X N' src sc)
    (hi : PI X tg iter wi) (hg : ∀ s3 H3 fp pn, PG (cxC X N' sc s3 H3 fp pn) tg g) (ht : ∀ s3 H3 fp pn, PF (cxC X N' sc s3 H3 fp pn) ifs tt) (he : ∀ s3 H3 fp pn, PE (cxC X N' sc s3 H3 fp pn) elt te)
    (hsw : swapsWith (.ListComp elt [⟨tg, iter, ifs, 0⟩] sc pos) (some (.Name x px)) spos.line X.env = pure true := by rfl) (hs : ∀ x, foldedSetIterable iter X.env x = pure x := by intro _; rfl)
    (hf : X.fn x = true ∨ X.env.scope.names.lookup x = some .local := by first | exact .inl rfl | exact .inr rfl | assumption) :
    PS X (.Assign [.Name x px] (.ListComp elt [⟨tg, iter, ifs, 0⟩] sc pos) spos) (tAsg (tComp wi src g tt te) (gName i)) := by
  intro pins s σ H D I h
  rw [exec_Assign_Name_used _ _ _ _ hsw]
  refine wpAny_bind (wpAny_standAt (wpAny_bind ?_))
  show wpAny _ X.A (do let _ ← comprehension (.ListComp elt [⟨tg, iter, ifs, 0⟩] sc pos) sc X.env _ (newList []) false (eval iter X.env) (some (assign (.Name x px) X.env))) _ _ s
  refine wpAny_bind (thn (comp_core (R := fun _ s' => SP X pins D .next s') hc S hi hg ht he hs I h fun s3 H3 fp σ4 H4 s5 l I3 f3 J5 q => ?_) fun _ s' hq => wpAny_pure (wpAny_pure hq))
  obtain ⟨m, ⟨oC, es, ep, hoC, r⟩, _⟩ := J5.loc
  have I6 : Inv X pins σ H4 { s5 with heap := s5.heap } := cx_end I3 f3 J5 (Heap.SameBut.refl _ _)
  have hCn : H4 s3.heap.objs.size = none := J5.free
  have neL : s3.heap.objs.size ≠ X.env.locals := Nat.ne_of_gt I3.lt
  have ndat : ∀ v, oC.data ≠ .cell v := fun v z => by rw [r.1] at z; cases z
  have I7 : Inv X (pins ++ [(s3.heap.objs.size, oC)]) σ H4 s5 := I6.pins_of fun p hp => (List.mem_append.mp hp).elim (fun z => I6.pin p (List.mem_append_right _ z)) fun z => by
    cases List.mem_singleton.mp z
    exact ⟨hoC, hCn, neL, I3.nofs (Nat.le_refl _), ndat⟩
  show wpAny _ X.A (assign (.Name x px) X.env (.ref l)) _ _ s5
  refine wpAny_assign_Name (store_ok (v := .ref l) I7 hN hi0 hx rfl (fun s6 I8 => ?_) hf)
  have k8 := (I8.pin (s3.heap.objs.size, oC) (List.mem_append_right _ (List.mem_append_right _ (List.mem_singleton.mpr rfl)))).1
  refine ⟨m, ⟨oC, es, ep, k8, r⟩, fun h' sb => ⟨_, H4, ?_, q⟩⟩
  have I9 := I8.unpinned
  refine I9.turned (t' := s6.toks) (fun b o hb e => sb.extBut b o hb e) hCn neL (.inr I3.sz) (fun y c e z => ?_) (fun p hp z => ?_)
  · obtain ⟨v, o, ho, _⟩ := I3.cell y c e
    exact absurd (Heap.lt_size ho) (by rw [z]; exact Nat.lt_irrefl _)
  · have := (I3.pin p hp).1
    exact absurd (Heap.lt_size this) (by rw [z]; exact Nat.lt_irrefl _)
/-- a comprehension that takes names from the def around it (cells there); N: the def's names -/
theorem CScope.of {X : Cx} {N' : List Str} {src : List (Option Nat)} {sc : Scope} (fsc : Scope) (N : List Str) (hX : X.env.scope = fsc) (hN : X.N = N) (kind : sc.kind = .function) (nocell : ∀ y ∈ sc.names, y.2 ≠ .cell) (loc : ∀ y ∈ sc.names, y.2 = .local → sc.names.lookup y.1 = some .local)
    (fv : ∀ y ∈ sc.names, y.2 = .free → fsc.names.lookup y.1 = some .cell) (len : src.length = N'.length)
    (sr : ((N'.zip src).all fun p => match p.2 with | none => true | some j => decide (N[j]? = some p.1) && decide (sc.names.lookup p.1 = some .free)) = true) : CScope X N' src sc where
  kind := kind
  nocell := nocell
  loc := loc
  fv := fun y hy e => .inl (by show X.env.scope.names.lookup y.1 = some .cell; rw [hX]; exact fv y hy e)
  len := len
  src := fun i x j e1 e2 => by
    rw [List.all_eq_true] at sr
    have hm : (x, some j) ∈ N'.zip src := by
      refine List.mem_of_getElem? (i := i) ?_
      rw [List.getElem?_zip_eq_some]
      exact ⟨e1, e2⟩
    have := sr _ hm
    simp only [Bool.and_eq_true, decide_eq_true_eq] at this
    rw [hN]
    exact this
end L2

set_option Elab.async false
set_option linter.all false
set_option maxRecDepth 100000
set_option maxHeartbeats 4000000

/-! ### further rules over the layer -/
namespace L2
open PySem PySem.Spec PyProof.Rows
section
variable {X : Cx}

/-- isinstance(x, T), T a built-in type -/
@[irreducible] def rIsi (K : PySem.W.Frag) : List V → Hp → VK → Prop := fun xs H Q => ∃ x T t b, xs = [x, .ty T] ∧ TyOf K H x t ∧ PySem.W.kitOne K t (.type T) = some b ∧ Q (.bl b) H
theorem call_isi : CallR X (.builtin "isinstance") (rIsi X.K) := by
  intro pins s σ H xs us Q I r h
  unfold rIsi at h
  obtain ⟨x, T, t, b, rfl, ty, e, q⟩ := h
  obtain ⟨u, w', rfl, rx, rt⟩ := vals2 r
  cases rt
  exact isinst_ok I rx ty e fun tk => ⟨.bl b, H, I.tok tk, rfl, q⟩
theorem kit_int_int {K : PySem.W.Frag} : PySem.W.kitOne K (.type "int") (.type "int") = some true := by rfl
theorem kit_int_bool {K : PySem.W.Frag} : PySem.W.kitOne K (.type "int") (.type "bool") = some false := by rfl
theorem kit_bool_int {K : PySem.W.Frag} : PySem.W.kitOne K (.type "bool") (.type "int") = some true := by rfl
theorem kit_bool_bool {K : PySem.W.Frag} : PySem.W.kitOne K (.type "bool") (.type "bool") = some true := by rfl
theorem kit_none_int {K : PySem.W.Frag} : PySem.W.kitOne K (.type "NoneType") (.type "int") = some false := by rfl
theorem kit_str_int {K : PySem.W.Frag} : PySem.W.kitOne K (.type "str") (.type "int") = some false := by rfl
theorem kit_list_int {K : PySem.W.Frag} : PySem.W.kitOne K (.type "list") (.type "int") = some false := by rfl
theorem kit_tuple_int {K : PySem.W.Frag} : PySem.W.kitOne K (.type "tuple") (.type "int") = some false := by rfl
theorem kit_none_tuple {K : PySem.W.Frag} : PySem.W.kitOne K (.type "NoneType") (.type "tuple") = some false := by rfl
theorem kit_bool_tuple {K : PySem.W.Frag} : PySem.W.kitOne K (.type "bool") (.type "tuple") = some false := by rfl
theorem kit_int_tuple {K : PySem.W.Frag} : PySem.W.kitOne K (.type "int") (.type "tuple") = some false := by rfl
theorem kit_str_tuple {K : PySem.W.Frag} : PySem.W.kitOne K (.type "str") (.type "tuple") = some false := by rfl
theorem kit_list_tuple {K : PySem.W.Frag} : PySem.W.kitOne K (.type "list") (.type "tuple") = some false := by rfl
theorem kit_tuple_tuple {K : PySem.W.Frag} : PySem.W.kitOne K (.type "tuple") (.type "tuple") = some true := by rfl

/-- a value whose kind is known: None, a truth, a whole number, a text, a list, a tuple -/
def Kn (H : Hp) : V → Prop
  | .non => True
  | .bl _ => True
  | .int _ => True
  | .str _ => True
  | .ref a => (∃ xs, H a = some (.lst xs)) ∨ ∃ xs, H a = some (.tup xs)
  | _ => False
def isI : V → Bool
  | .int _ => true
  | .bl _ => true
  | _ => false
def isB : V → Bool
  | .bl _ => true
  | _ => false
def isW : V → Bool
  | .int _ => true
  | _ => false
/-- the parts of a tuple -/
def tupOf (H : Hp) : V → Option (List V)
  | .ref a => match H a with
    | some (.tup xs) => some xs
    | _ => none
  | _ => none
theorem tupOf_at {H : Hp} {a : Addr} {xs : List V} (h : H a = some (.tup xs)) : tupOf H (.ref a) = some xs := by
  show (match H a with | some (.tup xs) => some xs | _ => none) = some xs
  rw [h]
theorem tupOf_lst {H : Hp} {a : Addr} {xs : List V} (h : H a = some (.lst xs)) : tupOf H (.ref a) = none := by
  show (match H a with | some (.tup xs) => some xs | _ => none) = none
  rw [h]
theorem of_tupOf {H : Hp} {v : V} {xs : List V} (h : tupOf H v = some xs) : ∃ a, v = .ref a ∧ H a = some (.tup xs) := by
  cases v with
  | ref a =>
    refine ⟨a, rfl, ?_⟩
    have h' : (match H a with | some (.tup xs) => some xs | _ => none) = some xs := h
    split at h'
    · rename_i e; cases h'; exact e
    · cases h'
  | _ => cases h
theorem Kn.same {H H' : Hp} {v : V} (s : Same H H') (k : Kn H v) : Kn H' v := by
  cases v with
  | ref a => exact k.imp (fun ⟨xs, e⟩ => ⟨xs, s _ _ e⟩) fun ⟨xs, e⟩ => ⟨xs, s _ _ e⟩
  | _ => exact k
theorem tupOf_same {H H' : Hp} {v : V} (s : Same H H') (k : Kn H v) : tupOf H' v = tupOf H v := by
  cases v with
  | ref a =>
    rcases k with ⟨xs, e⟩ | ⟨xs, e⟩
    · rw [tupOf_lst e, tupOf_lst (s _ _ e)]
    · rw [tupOf_at e, tupOf_at (s _ _ e)]
  | _ => rfl

/-- isinstance of a value of a known kind -/
theorem isi_int {K : PySem.W.Frag} {H : Hp} {x : V} {Q : VK} (k : Kn H x) (q : Q (.bl (isI x)) H) : rIsi K [x, .ty "int"] H Q := by
  unfold rIsi
  cases x with
  | non => exact ⟨_, _, _, _, rfl, .non, kit_none_int, q⟩
  | bl b => exact ⟨_, _, _, _, rfl, .bl b, kit_bool_int, q⟩
  | int i => exact ⟨_, _, _, _, rfl, .int i, kit_int_int, q⟩
  | str z => exact ⟨_, _, _, _, rfl, .str z, kit_str_int, q⟩
  | ref a =>
    rcases k with ⟨xs, e⟩ | ⟨xs, e⟩
    · exact ⟨_, _, _, _, rfl, .lst e, kit_list_int, q⟩
    · exact ⟨_, _, _, _, rfl, .tup e, kit_tuple_int, q⟩
  | _ => exact k.elim
theorem isi_bool {K : PySem.W.Frag} {H : Hp} {x : V} {Q : VK} (k : isI x = true) (q : Q (.bl (isB x)) H) : rIsi K [x, .ty "bool"] H Q := by
  unfold rIsi
  cases x with
  | bl b => exact ⟨_, _, _, _, rfl, .bl b, kit_bool_bool, q⟩
  | int i => exact ⟨_, _, _, _, rfl, .int i, kit_int_bool, q⟩
  | _ => cases k
theorem isi_tuple {K : PySem.W.Frag} {H : Hp} {x : V} {Q : VK} (k : Kn H x) (q : Q (.bl (tupOf H x).isSome) H) : rIsi K [x, .ty "tuple"] H Q := by
  unfold rIsi
  cases x with
  | non => exact ⟨_, _, _, _, rfl, .non, kit_none_tuple, q⟩
  | bl b => exact ⟨_, _, _, _, rfl, .bl b, kit_bool_tuple, q⟩
  | int i => exact ⟨_, _, _, _, rfl, .int i, kit_int_tuple, q⟩
  | str z => exact ⟨_, _, _, _, rfl, .str z, kit_str_tuple, q⟩
  | ref a =>
    rcases k with ⟨xs, e⟩ | ⟨xs, e⟩
    · rw [tupOf_lst e] at q
      exact ⟨_, _, _, _, rfl, .lst e, kit_list_tuple, q⟩
    · rw [tupOf_at e] at q
      exact ⟨_, _, _, _, rfl, .tup e, kit_tuple_tuple, q⟩
  | _ => exact k.elim

/-- all(l), any(l) of a list of truths -/
theorem bools_of : ∀ {bs : List Bool} {us : List Value}, Vals (bs.map V.bl) us → LSm.BoolsAre us bs
  | [], _, .nil => .nil
  | b :: r, _, .cons h t => by
    cases (show _ = Value.bool b from h)
    exact .cons b (bools_of t)
theorem call_all (hc : X.calm = true) : CallR X (.builtin "all") (fun xs H Q => ∃ (p : Addr) (bs : List Bool), xs = [.ref p] ∧ SqL X.K H p (bs.map V.bl) ∧ Q (.bl (bs.all id)) H) := by
  intro pins s σ H xs us Q I r h
  obtain ⟨p, bs, rfl, hq, q⟩ := h
  obtain ⟨u, rfl, rx⟩ := vals1 r
  cases rx
  obtain ⟨its, rv, pl, hz⟩ := I.list hq
  have hb := bools_of rv
  have hl := pl.isList
  have hlt : p < s.heap.objs.size := by obtain ⟨_, e, _⟩ := hl; exact Heap.lt_size e
  refine call_all_walk (wpAny_pyIter_list hl ?_)
  refine ⟨s.heap.objs.size, [s.heap.objs.size, p], [s.heap.objs.size], its.toArray.size, _, _, fun i => (bs[i]?).getD true, rfl, Walks.list (A := X.A.in1) (I.ok.hd hc) _ p (Nat.ne_of_lt hlt) its.toArray,
    ⟨⟨_, Heap.get?_push_size _ rfl, rfl, rfl⟩, hl.push _⟩, fun i v s' Q' E' hP hQ => ?_, fun h' tk hk => ?_⟩
  · obtain ⟨b, e, rfl⟩ := hb.get i v (by simpa using hP)
    simp only [e, Option.getD_some] at hQ
    exact wpAny_truthy_bool hQ
  · have e : ((List.range its.toArray.size).all fun i => (bs[i]?).getD true) = bs.all id := by
      rw [List.size_toArray, hb.length]; exact LSm.range_all bs
    rw [e]
    exact ⟨.bl (bs.all id), H, I.kept (LSm.kept_iter hk), rfl, q⟩

/-- () + u is u itself -/
def rCatT0 (K : PySem.W.Frag) : R2 := fun x y H Q => ∃ a b ys, x = .ref a ∧ y = .ref b ∧ SqT K H a [] ∧ SqT K H b ys ∧ Q (.ref b) H
theorem op_catT0 : OpR X (binaryOp .Add) (rCatT0 X.K) := by
  intro pins s σ H x y v u Q I rx ry h
  obtain ⟨a, b, ys, rfl, rfl, ha, hb, q⟩ := h
  cases rx
  cases ry
  obtain ⟨its, r1, p1, _⟩ := I.tuple ha
  obtain ⟨its2, r2, p2, _⟩ := I.tuple hb
  cases r1
  obtain ⟨⟨cls, dd, data, sl⟩, ho, hc, n, hd⟩ := id p1
  obtain ⟨⟨cls2, dd2, data2, sl2⟩, ho2, hc2, n2, hd2⟩ := id p2
  simp only at hc hd hc2 hd2
  subst hc hd hc2 hd2
  exact concat_meets ⟨_, ho, rfl⟩ ⟨_, ho2, rfl⟩ noFill_tuple_add seq_tuple_add PySem.F.slot_tuple_add PySem.F.entry_tuple_add (PySem.F.args_tuple_add_2 _ _)
    (tuple_addW0 a b #[] its2.toArray n n2 dd dd2 sl sl2 rfl) ⟨ho, ho2, ⟨.ref b, H, I, rfl, q⟩⟩
/-- t + u of tracked tuples: the result is one, too -/
theorem op_catTH : OpR X (binaryOp .Add) (fun x y H Q => ∃ a b xs ys, x = .ref a ∧ y = .ref b ∧ H a = some (.tup xs) ∧ H b = some (.tup ys) ∧ xs.length + ys.length ≤ sizeLine ∧
    ∀ p H', H' p = some (.tup (xs ++ ys)) → Same H H' → Q (.ref p) H') := by
  intro pins s σ H x y v u Q I rx ry h
  obtain ⟨a, b, xs, ys, rfl, rfl, ha, hb, hz, q⟩ := h
  cases xs with
  | nil => exact op_catT0 pins s σ H _ _ v u Q I rx ry ⟨a, b, ys, rfl, rfl, SqT.of ha, SqT.of hb, q b H hb (Same.refl H)⟩
  | cons x0 xr =>
    refine op_catT pins s σ H _ _ v u Q I rx ry ⟨a, b, x0 :: xr, ys, rfl, rfl, SqT.of ha, SqT.of hb, (fun z => by cases z), hz, fun z => ?_, fun z p hp => ?_⟩
    · subst z
      exact q a H (by rw [List.append_nil]; exact ha) (Same.refl H)
    · refine q p _ upd_same fun c o e => ?_
      rw [upd_ne (ne_of_none e hp)]
      exact e

/-! ### data within the tracked heap, and its equality -/
mutual
inductive Rep (H : Hp) : V → PyData → Prop
  | non : Rep H .non .none
  | bl (b : Bool) : Rep H (.bl b) (.bool b)
  | int (i : Int) : Rep H (.int i) (.int i)
  | str (x : Str) : Rep H (.str x) (.str x)
  | tup {a : Addr} {xs : List V} {ds : List PyData} : H a = some (.tup xs) → Reps H xs ds → Rep H (.ref a) (.tuple ds)
  | lst {a : Addr} {xs : List V} {ds : List PyData} : H a = some (.lst xs) → Reps H xs ds → Rep H (.ref a) (.list ds)
inductive Reps (H : Hp) : List V → List PyData → Prop
  | nil : Reps H [] []
  | cons {x : V} {d : PyData} {xs : List V} {ds : List PyData} : Rep H x d → Reps H xs ds → Reps H (x :: xs) (d :: ds)
end
mutual
theorem Rep.reads {P : Program} {w : World} {H : Hp} {h : Heap} (ok : HOk P w H h) : ∀ {v : V} {d : PyData} {u : Value}, Rep H v d → RelV v u → ∃ as, Reads h u d as
  | _, _, _, .non, r => by cases (show _ = Value.none from r); exact ⟨_, .none⟩
  | _, _, _, .bl b, r => by cases (show _ = Value.bool b from r); exact ⟨_, .bool b⟩
  | _, _, _, .int i, r => by obtain ⟨t, rfl⟩ := (show ∃ t, _ = Value.int i t from r); exact ⟨_, .int i t⟩
  | _, _, _, .str x, r => by obtain ⟨t, rfl⟩ := (show ∃ t, _ = Value.str x t from r); exact ⟨_, .str x t⟩
  | _, _, _, .tup (a := a) (xs := xs) e q, r => by
    cases (show _ = Value.ref a from r)
    obtain ⟨_, its, rv, o, ho, hc, n, hd⟩ := (show ObjOk P w H h a (.tup xs) from ok a _ e)
    obtain ⟨as, z⟩ := Reps.reads ok q rv
    exact ⟨_, .tuple ho hc hd (by simpa using z)⟩
  | _, _, _, .lst (a := a) (xs := xs) e q, r => by
    cases (show _ = Value.ref a from r)
    obtain ⟨_, its, n, rv, ho⟩ := (show ObjOk P w H h a (.lst xs) from ok a _ e)
    obtain ⟨as, z⟩ := Reps.reads ok q rv
    exact ⟨_, .list ho rfl rfl (by simpa using z)⟩
theorem Reps.reads {P : Program} {w : World} {H : Hp} {h : Heap} (ok : HOk P w H h) : ∀ {xs : List V} {ds : List PyData} {us : List Value}, Reps H xs ds → Vals xs us → ∃ as, ReadsAll h us ds as
  | _, _, _, .nil, .nil => ⟨_, .nil⟩
  | _, _, _, .cons p q, .cons r t => by
    obtain ⟨as, a1⟩ := Rep.reads ok p r
    obtain ⟨bs, b1⟩ := Reps.reads ok q t
    exact ⟨_, .cons a1 b1⟩
end
theorem op_eqD (hu : X.A.units + 64 < cLine) : OpR X (compareOp .Eq) (fun x y H Q => ∃ d e, Rep H x d ∧ Rep H y e ∧ SeqAt.shaped d = true ∧ SeqAt.shaped e = true ∧ Q (.bl (PyData.eqv d e)) H) := by
  intro pins s σ H x y v u Q I rx ry h
  obtain ⟨d, e, p, p', sd, se, q⟩ := h
  obtain ⟨as, r1⟩ := p.reads I.hok rx
  obtain ⟨bs, r2⟩ := p'.reads I.hok ry
  exact eq_dataH r1 r2 sd se hu ⟨.bl (PyData.eqv d e), H, I, rfl, q⟩
theorem op_neD (hu : X.A.units + 64 < cLine) : OpR X (compareOp .NotEq) (fun x y H Q => ∃ d e, Rep H x d ∧ Rep H y e ∧ SeqAt.shaped d = true ∧ SeqAt.shaped e = true ∧ Q (.bl (!PyData.eqv d e)) H) := by
  intro pins s σ H x y v u Q I rx ry h
  obtain ⟨d, e, p, p', sd, se, q⟩ := h
  obtain ⟨as, r1⟩ := p.reads I.hok rx
  obtain ⟨bs, r2⟩ := p'.reads I.hok ry
  exact ne_dataH r1 r2 sd se hu ⟨.bl (!PyData.eqv d e), H, I, rfl, q⟩
end
end L2

/-! ### defs of the text, each with its promise -/
namespace L2
open PySem PySem.Spec PyProof.Rows
/-- a def as it stands behind the top -/
structure Code (K : PySem.W.Frag) (mg : Str → Option Value) (x : Str) (st : Stmt) (ps : List Str) : Prop where
  ex : ∃ (f : Addr) (fd : FuncData), Fun K x x st f fd ∧ mg x = some (.ref f) ∧ Binds K fd ps []
/-- a def that keeps a promise -/
structure Good (P : Program) (w : World) (K : PySem.W.Frag) (mg : Str → Option Value) (base : Heap) (x : Str) (k : Nat) (ps : List Str) (sp : Sp) : Prop where
  ex : ∃ (f : Addr) (fd : FuncData), mg x = some (.ref f) ∧ PySem.W.keepIn K (.ref f) = true ∧ Binds K fd ps [] ∧ FnOk P w K mg base CX0 k f fd ps sp
theorem Code.good {P : Program} {w : World} {K : PySem.W.Frag} {mg : Str → Option Value} {base : Heap} {x : Str} {st : Stmt} {ps N : List Str} {k : Nat} {sp : Sp} (C : Code K mg x st ps) (S : FnScope N ps (defScope st)) (len : ∀ vs H Q E, sp vs H Q E → vs.length = ps.length)
    (hbody : ∀ (f : Addr) (cdv : Value) (A : Around) (outer : List Env) (s : Shared) (H : Hp) (vs : List V) (Q : VK) (E : XK), Room k (A.deeper (envOfC x (defScope st) s.heap.objs.size f cdv)) → sp vs H Q E →
      ∃ t, PSs (cxOf CX0 P w K mg base N x (defScope st) f cdv A outer s H E).nox (defBody st) t ∧ t { nx := fun _ H' => Q .non H', rt := Q } (start N vs) H) : Good P w K mg base x (k + 1) ps sp := by
  obtain ⟨f, fd, F, m, b⟩ := C.ex
  exact ⟨f, fd, m, F.kp, b, F.ok S len fun cdv A outer s H vs Q E hr h => hbody f cdv A outer s H vs Q E hr h⟩
theorem pcall {X : Cx} {k k' : Nat} {ps : List Str} {sp : Sp} {x : Str} {p pos : Pos} {e : Expr} {es : List Expr} {t : TA} (g : Good X.prog X.w X.K X.mg X.base x k ps sp) (hr : Room k' X.A) (ha : PA X (e :: es) t) (hk : k ≤ k' := by decide) (hg : Gl X x := by rfl)
    (hdb : (x == ("__debug__" : Str)) = false := by decide) (he : starEach (e :: es) X.env = (false, eval e X.env) :: starEach es X.env := by rfl) (hpl : (backTo pos (starEach es X.env)).any (·.1) = false := by rfl) :
    PE X (.Call (.Name x p) (e :: es) [] pos) (tCall sp [] E0 t) := by
  intro pins s σ H Q I h
  obtain ⟨f, fd, m, kp, b, F⟩ := g.ex
  exact pe_call F (hr.mono hk) hg m kp b .nil pass0 ha hdb he hpl pins s σ H Q I h
theorem Code.of {K : PySem.W.Frag} {mg : Str → Option Value} {h : Heap} {x : Str} {st : Stmt} {ps : List Str} {f : Addr} {oc : Value} {od an : Option Addr} {osl : Array (Option Value)} {kV doc pm cdv ct : Value} (X : K.In h) (G : h.Ns mainGlobals mg)
    (a : PySem.W.nsIn K mainGlobals x = some (some (.ref f))) (l : K.lookup f = some ⟨oc, od, .func (PySem.W.fnOf x x (defArgs st) (defBody st) (defScope st) .none kV doc pm an cdv ct), osl⟩) (c : PySem.W.codeIn K cdv x = true) (k : PySem.W.keepIn K (.ref f) = true)
    (hb : ∀ (kV doc pm : Value) (an : Option Addr) (cdv ct : Value) (us : List Value), us.length = ps.length → bindArgs (PySem.W.fnOf x x (defArgs st) (defBody st) (defScope st) .none kV doc pm an cdv ct) ⟨us, []⟩ = pure (ps.zip us)) : Code K mg x st ps := by
  have F := fun_mk (st := st) l c k
  exact ⟨f, _, F, PySem.W.mg_of X G a, F.binds hb⟩
theorem same_new {H : Hp} {p : Addr} (h : H p = none) (o : HO) : Same H (upd H p o) := fun b u q => by rw [upd_ne (ne_of_none q h)]; exact q
/-- a comprehension that takes nothing from around -/
theorem CScope.plain {X : Cx} {N' : List Str} {sc : Scope} (kind : sc.kind = .function) (nocell : ∀ y ∈ sc.names, y.2 ≠ .cell) (loc : ∀ y ∈ sc.names, y.2 = .local → sc.names.lookup y.1 = some .local) (nofree : ∀ y ∈ sc.names, y.2 ≠ .free) :
    CScope X N' (N'.map fun _ => none) sc where
  kind := kind
  nocell := nocell
  loc := loc
  fv := fun y hy e => absurd e (nofree y hy)
  len := by simp
  src := fun i x j _ e => by
    rw [List.getElem?_map] at e
    cases q : N'[i]? with
    | none => rw [q] at e; cases e
    | some z => rw [q] at e; cases e
/-- over a tuple that the turns leave as it is -/
theorem comp_tup {K : PySem.W.Frag} {a l : Addr} {xs : List V} {g : TG} {tt : TT} {te : TE} {Q : VK} {σ0 : St} {H0 : Hp} (Pv : Nat → St → Hp → Prop)
    (h0 : Pv 0 σ0 H0) (hl : ∀ i σ H', i ≤ xs.length → Pv i σ H' → SqT K H' a xs)
    (hs : ∀ i x σ H', xs[i]? = some x → Pv i σ H' → g x σ H' fun σ3 H3 => tt σ3 H3 fun b H4 => if b = true then te σ3 H4 fun y H5 => ∃ ys, H5 l = some (.lst ys) ∧ ys.length < sizeLine ∧ Pv (i + 1) σ3 (upd H5 l (.lst (ys ++ [y]))) else Pv (i + 1) σ3 H4)
    (hd : ∀ σ H', Pv xs.length σ H' → Q (.ref l) H') : CWant (Itt K a) g tt te Q σ0 H0 l := by
  unfold CWant
  refine ⟨fun i m σ H' => m = xs.length - i ∧ i ≤ xs.length ∧ Pv i σ H', ⟨xs.length, by simp, Nat.zero_le _, h0⟩, ?_⟩
  rintro i m σ H' ⟨rfl, hi, p⟩
  have q := hl i σ H' hi p
  by_cases hlt : i < xs.length
  · refine .inr ⟨⟨xs, xs[i], q, by simp [hlt]⟩, Pv (i + 1), fun σ3 H3 p' => ⟨xs.length - (i + 1), by omega, rfl, hlt, p'⟩, fun x H2 y => ?_⟩
    obtain ⟨e, y⟩ := y
    subst e
    exact hs i x σ _ (y xs q) p
  · have e : i = xs.length := by omega
    subst e
    exact .inl ⟨⟨xs, q, Nat.le_refl _⟩, hd σ H' p⟩
/-- over lo, lo + 1, .. -/
theorem comp_range {lo : Int} {n : Nat} {l : Addr} {g : TG} {tt : TT} {te : TE} {Q : VK} {σ0 : St} {H0 : Hp} (Pv : Nat → St → Hp → Prop) (h0 : Pv 0 σ0 H0)
    (hs : ∀ i σ H', i < n → Pv i σ H' → g (.int (lo + i)) σ H' fun σ3 H3 => tt σ3 H3 fun b H4 => if b = true then te σ3 H4 fun y H5 => ∃ ys, H5 l = some (.lst ys) ∧ ys.length < sizeLine ∧ Pv (i + 1) σ3 (upd H5 l (.lst (ys ++ [y]))) else Pv (i + 1) σ3 H4)
    (hd : ∀ σ H', Pv n σ H' → Q (.ref l) H') : CWant (Itr lo n) g tt te Q σ0 H0 l := by
  unfold CWant
  refine ⟨fun i m σ H' => m = n - i ∧ i ≤ n ∧ Pv i σ H', ⟨n, by simp, Nat.zero_le _, h0⟩, ?_⟩
  rintro i m σ H' ⟨rfl, hi, p⟩
  by_cases hlt : i < n
  · refine .inr ⟨hlt, Pv (i + 1), fun σ3 H3 p' => ⟨n - (i + 1), by omega, rfl, hlt, p'⟩, fun x H2 y => ?_⟩
    obtain ⟨e, y⟩ := y
    subst e y
    exact hs i σ _ hlt p
  · have e : i = n := by omega
    subst e
    exact .inl ⟨Nat.le_refl _, hd σ H' p⟩
end L2

set_option Elab.async false
set_option linter.all false
set_option maxRecDepth 100000
set_option maxHeartbeats 4000000

/-! ### further rules: max, sorted, join, texts walked, slices that may be the whole -/
namespace L2
open PySem PySem.Spec PyProof.Rows
section
variable {X : Cx}

/-- sorted(l) of a list of whole numbers -/
theorem ints_vals : ∀ {us : List Value} {ns : List Int}, IntsAre us ns → Vals (ns.map V.int) us := fun h => vals_ints h
theorem call_sortedI : CallR X (.builtin "sorted") (fun xs H Q => ∃ (p : Addr) (ns : List Int), xs = [.ref p] ∧ SqL X.K H p (ns.map V.int) ∧ ns.length < 64 ∧
    ∀ (ms : List Int) l, ms.Perm ns → ms.Pairwise (· ≤ ·) → H l = none → Q (.ref l) (upd H l (.lst (ms.map V.int)))) := by
  intro pins s σ H xs us Q I r h
  obtain ⟨p, ns, rfl, hq, h64, q⟩ := h
  obtain ⟨u, rfl, rx⟩ := vals1 r
  cases rx
  obtain ⟨its, rv, pl, hz⟩ := I.list hq
  have hi : IntsAre its ns := intsAre_of rv
  have hlen := hi.length
  refine sorted_ints pl.isList hi (by omega) fun out ms a1 a2 a3 => ?_
  obtain ⟨e, he⟩ := sortedAll_at s.heap its out
  have hml := a2.length_eq
  refine ⟨.ref (s.heap.objs.size + 1), _, I.laid (t' := s.toks) (o := .lst (ms.map V.int)) (fun b o q => sortedAll_old q) (Nat.le_succ _) ?_, rfl, q ms _ a2 a3 (I.hok.fresh (Nat.le_succ _))⟩
  exact ⟨by rw [List.length_map]; exact Nat.le_of_lt (small1000 (by omega)), out.toList, e, ints_vals a1, he⟩

end
end L2

namespace L2
open PySem PySem.Spec PyProof.Rows
section
variable {X : Cx} {tg : Expr}
end
end L2

namespace HT
open PySem PyProof.Rows
section
variable {prog : Program} {w : World} {A : Around} {E : Value → Shared → Prop} {s : Shared}
/-- t[lo:hi], the whole of it: t itself -/
theorem getItem_tuple_all {t sl : Addr} {items : Array Value} {vl vu : Value} {lo hi : Option Int} {Q : Value → Shared → Prop} (ht : IsTup s.heap t items) (hs : s.heap.IsSliceOf sl vl vu .none) (pl : IsPart vl lo) (pu : IsPart vu hi)
    (hw : sIx items.size 0 lo = 0 ∧ sIx items.size items.size hi = items.size) (h : Q (.ref t) s) : wpAny (model prog w) A (getItem (.ref t) (.ref sl)) Q E s := by
  obtain ⟨os, hos, hcs, hds⟩ := id hs
  have hTs : s.TypeIs (.ref sl) "slice" := ⟨os, hos, hcs⟩
  unfold getItem
  try with_reducible refine wpAny_holding ?_
  first | refine wpAny_bind (wpAny_pure ?_) | skip
  refine wpAny_bind (wpAny_sequenceKey ht.typeIs (by decide) ?_)
  refine wpAny_bind (wpAny_callSpecial?_slot (name := Str.ofString "__getitem__") ht.typeIs PyProof.Rows.slot_tuple_getitem (wpAny_call_entry PyProof.Rows.slot_tuple_getitem ht.typeIs entry_tuple_getitem ?_ (args_tuple_getitem _ _)))
  show wpAny _ _ (Builtin.Tuple.tupleItemsOf (.ref t) >>= _) _ _ s
  refine wpAny_bind (tupleItemsOf_ ht ?_)
  refine wpAny_bind (wpAny_typeOf hTs ?_)
  rw [if_pos (by decide)]
  refine wpAny_bind (sliceApplied_gen hs pl pu ?_)
  rw [hw.1, hw.2]
  show wpAny _ _ (if (((0 : Nat) : Int) == 0 && (1 : Int) == 1 && (items.size - 0) == items.size) = true then _ else _) _ _ s
  rw [if_pos (by simp)]
  refine wpAny_bind ?_
  unfold Builtin.Tuple.tupleIsExact
  refine wpAny_bind (wpAny_typeOf ht.typeIs (wpAny_pure ?_))
  rw [if_pos (by decide)]
  exact wpAny_bind (wpAny_rule (wpAny_pure ⟨_, rfl, wpAny_pure h⟩))
end
end HT

namespace L2
open PySem PySem.Spec PyProof.Rows
section
variable {X : Cx}
/-- t[lo:hi] of a tracked tuple, the whole or not -/
theorem sl_tupW : SlR X (fun x lo hi H Q => ∃ a xs, x = .ref a ∧ H a = some (.tup xs) ∧ ∀ p H', H' p = some (.tup (cutV xs lo hi)) → Same H H' → Q (.ref p) H') := by
  intro pins s σ H x v vl vu lo hi sl Q I rx hs pl pu h
  obtain ⟨a, xs, rfl, hx, q⟩ := h
  by_cases hw : HT.sIx xs.length 0 lo = 0 ∧ HT.sIx xs.length xs.length hi = xs.length
  · cases rx
    obtain ⟨its, r, ht, hz⟩ := I.tuple (SqT.of hx)
    have hlen : its.toArray.size = xs.length := by rw [List.size_toArray]; exact r.length.symm
    refine ⟨"tuple", _, PyProof.Rows.slot_tuple_getitem.lookup, ht.typeIs, ?_⟩
    refine HT.getItem_tuple_all ht hs pl pu (by rw [hlen]; exact hw) ⟨.ref a, H, I, rfl, q a H ?_ (Same.refl H)⟩
    have e : cutV xs lo hi = xs := by unfold cutV; rw [hw.1, hw.2]; simp
    rw [e]
    exact hx
  · exact sl_tup pins s σ H _ v vl vu lo hi sl Q I rx hs pl pu ⟨a, xs, rfl, SqT.of hx, hw, fun p hp => q p _ upd_same (fun c o e => by rw [upd_ne (ne_of_none e hp)]; exact e)⟩
end
end L2

set_option Elab.async false
set_option linter.all false
set_option maxRecDepth 100000
set_option maxHeartbeats 4000000
/-! ### own classes: methods with their promises, the attributes by their places -/
namespace L2
open PySem PySem.Spec PyProof.Rows
/-- a method as it stands in its class behind the top -/
structure CodeM (K : PySem.W.Frag) (C : Addr) (m qn : Str) (st : Stmt) (ps : List Str) : Prop where
  ex : ∃ (f : Addr) (fd : FuncData), Fun K m qn st f fd ∧ Meth K C m f ∧ Binds K fd ps []
/-- a method that keeps a promise -/
structure GoodM (P : Program) (w : World) (K : PySem.W.Frag) (mg : Str → Option Value) (base : Heap) (C : Addr) (m : Str) (k : Nat) (ps : List Str) (sp : Sp) : Prop where
  ex : ∃ (f : Addr) (fd : FuncData), Meth K C m f ∧ Binds K fd ps [] ∧ FnOk P w K mg base CX0 k f fd ps sp
/-- the class is made with an __init__ that keeps a promise -/
structure GoodI (P : Program) (w : World) (K : PySem.W.Frag) (mg : Str → Option Value) (base : Heap) (C : Addr) (k : Nat) (ps : List Str) (sp : Sp) : Prop where
  ex : ∃ (f : Addr) (fd : FuncData), Mk K C f ∧ Binds K fd ps [] ∧ FnOk P w K mg base CX0 k f fd ps sp
theorem CodeM.good {P : Program} {w : World} {K : PySem.W.Frag} {mg : Str → Option Value} {base : Heap} {C : Addr} {m qn : Str} {st : Stmt} {ps N : List Str} {k : Nat} {sp : Sp} (c : CodeM K C m qn st ps) (S : FnScope N ps (defScope st)) (len : ∀ vs H Q E, sp vs H Q E → vs.length = ps.length)
    (hbody : ∀ (f : Addr) (cdv : Value) (A : Around) (outer : List Env) (s : Shared) (H : Hp) (vs : List V) (Q : VK) (E : XK), Room k (A.deeper (envOfC qn (defScope st) s.heap.objs.size f cdv)) → sp vs H Q E →
      ∃ t, PSs (cxOf CX0 P w K mg base N qn (defScope st) f cdv A outer s H E).nox (defBody st) t ∧ t { nx := fun _ H' => Q .non H', rt := Q } (start N vs) H) : GoodM P w K mg base C m (k + 1) ps sp := by
  obtain ⟨f, fd, F, M, b⟩ := c.ex
  exact ⟨f, fd, M, b, F.ok S len fun cdv A outer s H vs Q E hr h => hbody f cdv A outer s H vs Q E hr h⟩
theorem pmeth {X : Cx} {pl : Sem Bool} {k k' : Nat} {C : Addr} {ps : List Str} {sp : Sp} {m : Str} {apos pos : Pos} {o e : Expr} {es : List Expr} {ta : TE} {t : TA} (he : PE X o ta) (c : Cls X.K C) (g : GoodM X.prog X.w X.K X.mg X.base C m k ps sp) (hr : Room k' X.A) (ha : PA X (e :: es) t) (hk : k ≤ k' := by decide)
    (hst : starEach (e :: es) X.env = (false, eval e X.env) :: starEach es X.env := by rfl) (hpl : (backTo pos (starEach es X.env)).any (·.1) = false := by rfl)
    (ht : eval (.Call (.Attribute o m apos) (e :: es) [] pos) X.env = (do
      let ov ← eval o X.env
      standAt apos.atName
      let (f, first) ← holding [ov] (getMethod ov m pl)
      callWith pos f first (backTo pos (starEach (e :: es) X.env)) (backToKw pos (keywordEach [] X.env))) := by rfl) :
    PE X (.Call (.Attribute o m apos) (e :: es) [] pos) (tMeth C m sp [] E0 ta t) := by
  intro pins s σ H Q I h
  obtain ⟨f, fd, M, b, F⟩ := g.ex
  exact pe_meth (pl := pl) he c M F (hr.mono hk) b .nil pass0 ha hst hpl ht pins s σ H Q I h
theorem pmeth0 {X : Cx} {pl : Sem Bool} {k k' : Nat} {C : Addr} {ps : List Str} {sp : Sp} {m : Str} {apos pos : Pos} {o : Expr} {ta : TE} (he : PE X o ta) (c : Cls X.K C) (g : GoodM X.prog X.w X.K X.mg X.base C m k ps sp) (hr : Room k' X.A) (hk : k ≤ k' := by decide)
    (ht : eval (.Call (.Attribute o m apos) [] [] pos) X.env = (do
      let ov ← eval o X.env
      standAt apos.atName
      let (f, first) ← holding [ov] (getMethod ov m pl)
      callWith pos f first (backTo pos (starEach [] X.env)) (backToKw pos (keywordEach [] X.env))) := by rfl) :
    PE X (.Call (.Attribute o m apos) [] [] pos) (tMeth C m sp [] E0 ta tNil) := by
  intro pins s σ H Q I h
  obtain ⟨f, fd, M, b, F⟩ := g.ex
  exact pe_meth0 (pl := pl) he c M F (hr.mono hk) b .nil pass0 ht pins s σ H Q I h
theorem pmake {X : Cx} {k k' : Nat} {C : Addr} {ps : List Str} {sp : Sp} {x : Str} {p pos : Pos} {e : Expr} {es : List Expr} {t : TA} (g : GoodI X.prog X.w X.K X.mg X.base C k ps sp) (hr : Room k' X.A) (hm : X.mg x = some (.ref C)) (ha : PA X (e :: es) t) (hk : k + 1 ≤ k' := by decide) (hg : Gl X x := by rfl)
    (hdb : (x == ("__debug__" : Str)) = false := by decide) (he : starEach (e :: es) X.env = (false, eval e X.env) :: starEach es X.env := by rfl) (hpl : (backTo pos (starEach es X.env)).any (·.1) = false := by rfl) :
    PE X (.Call (.Name x p) (e :: es) [] pos) (tMake C sp [] E0 t) := by
  intro pins s σ H Q I h
  obtain ⟨f, fd, M, b, F⟩ := g.ex
  exact pe_make M F (hr.mono hk) hg hm b .nil pass0 ha hdb he hpl pins s σ H Q I h
/-- a constant of the text -/
theorem pe_cst {X : Cx} {x : Str} {v : V} {pos : Pos} (hg : Gl X x) (hm : ∃ u, X.mg x = some u ∧ RelV v u) (hd : (x == ("__debug__" : Str)) = false := by decide) : PE X (.Name x pos) (tC v) := by
  obtain ⟨u, h, r⟩ := hm
  exact pe_glob hg h r hd
/-- attributes by their places -/
theorem fl_get : ∀ {fs : List (Str × V)} {i : Nat} {f : Str} {v : V}, (fs.map (·.1)).Nodup → fs[i]? = some (f, v) → fs.lookup f = some v
  | [], _, _, _, _, h => by simp at h
  | (g, u) :: fs, 0, f, v, _, h => by simp at h; obtain ⟨rfl, rfl⟩ := h; simp [List.lookup]
  | (g, u) :: fs, i + 1, f, v, hn, h => by
    rw [List.map_cons, List.nodup_cons] at hn
    have h' : fs[i]? = some (f, v) := by simpa using h
    have hm : f ∈ fs.map (·.1) := List.mem_map.mpr ⟨(f, v), List.mem_of_getElem? h', rfl⟩
    have hne : (f == g) = false := beq_eq_false_iff_ne.mpr fun e => hn.1 (e ▸ hm)
    rw [List.lookup, hne]
    exact fl_get hn.2 h'
theorem fl_no : ∀ {fs : List (Str × V)} {m : Str}, m ∉ fs.map (·.1) → fs.lookup m = none
  | [], _, _ => rfl
  | (g, u) :: fs, m, h => by
    rw [List.map_cons, List.mem_cons] at h
    have hne : (m == g) = false := beq_eq_false_iff_ne.mpr fun e => h (.inl e)
    rw [List.lookup, hne]
    exact fl_no fun z => h (.inr z)
theorem fl_put {y : V} : ∀ {fs : List (Str × V)} {i : Nat} {f : Str} {v : V}, (fs.map (·.1)).Nodup → fs[i]? = some (f, v) → putF f y fs = fs.set i (f, y)
  | [], _, _, _, _, h => by simp at h
  | (g, u) :: fs, 0, f, v, _, h => by
    simp at h
    obtain ⟨rfl, rfl⟩ := h
    show (if g = g then (g, y) :: fs else (g, u) :: putF g y fs) = _
    rw [if_pos rfl]
    rfl
  | (g, u) :: fs, i + 1, f, v, hn, h => by
    rw [List.map_cons, List.nodup_cons] at hn
    have h' : fs[i]? = some (f, v) := by simpa using h
    have hm : f ∈ fs.map (·.1) := List.mem_map.mpr ⟨(f, v), List.mem_of_getElem? h', rfl⟩
    have hne : ¬ g = f := fun e => hn.1 (by rw [show (g, u).fst = g from rfl, e]; exact hm)
    show (if g = f then (g, y) :: fs else (g, u) :: putF f y fs) = _
    rw [if_neg hne, fl_put hn.2 h']
    rfl
theorem fl_new {y : V} : ∀ {fs : List (Str × V)} {f : Str}, f ∉ fs.map (·.1) → putF f y fs = fs ++ [(f, y)]
  | [], _, _ => rfl
  | (g, u) :: fs, f, h => by
    rw [List.map_cons, List.mem_cons] at h
    show (if g = f then (g, y) :: fs else (g, u) :: putF f y fs) = _
    rw [if_neg fun e => h (.inl e.symm), fl_new fun z => h (.inr z)]
    rfl
/-- tuples stay tuples -/
def TupS (H H' : Hp) : Prop := ∀ c xs, H c = some (.tup xs) → H' c = some (.tup xs)
theorem TupS.refl (H : Hp) : TupS H H := fun _ _ e => e
theorem TupS.trans {H H1 H2 : Hp} (a : TupS H H1) (b : TupS H1 H2) : TupS H H2 := fun c xs e => b c xs (a c xs e)
theorem TupS.of {H H1 : Hp} (s : Same H H1) : TupS H H1 := fun c xs e => s c _ e
theorem TupS.upd {H : Hp} {b : Addr} {o : HO} (h : ∀ xs, H b ≠ some (.tup xs)) : TupS H (upd H b o) := fun c xs e => by
  have n : c ≠ b := fun z => h xs (z ▸ e)
  rw [upd_ne n]
  exact e
/-- all but b is as it was -/
def SameB (b : Addr) (H H' : Hp) : Prop := ∀ c o, H c = some o → c ≠ b → H' c = some o
theorem SameB.trans {b : Addr} {H H1 H2 : Hp} (x : SameB b H H1) (y : SameB b H1 H2) : SameB b H H2 := fun c o e n => y c o (x c o e n) n
theorem SameB.of {b : Addr} {H H1 : Hp} (x : Same H H1) : SameB b H H1 := fun c o e _ => x c o e
theorem SameB.refl (b : Addr) (H : Hp) : SameB b H H := fun _ _ e _ => e
theorem SameB.upd {b : Addr} {H : Hp} {o : HO} : SameB b H (upd H b o) := fun c u e n => by rw [upd_ne n]; exact e
theorem SameB.tup {b : Addr} {H H' : Hp} (x : SameB b H H') (h : ∀ xs, H b ≠ some (.tup xs)) : TupS H H' := fun c xs e => x c _ e fun z => h xs (z ▸ e)
theorem SameB.free {b : Addr} {H H' : Hp} (x : SameB b H H') (hb : ∃ o, H' b = some o) {l : Addr} (h : H' l = none) : H l = none := by
  cases e : H l with
  | none => rfl
  | some o =>
    by_cases n : l = b
    · obtain ⟨o', e'⟩ := hb
      rw [n, e'] at h
      cases h
    · rw [x l o e n] at h
      cases h
/-- e.f = value, the heap behind it by what is true of it -/
def sFldE (K : PySem.W.Frag) (ta tv : TE) (f : Str) : TS := fun D σ H => tv σ H fun y H1 => ta σ H1 fun x H2 => ∃ a C dx fs fs', x = .ref a ∧ H2 a = some (.ins C dx fs) ∧ Cls K C ∧ NoAttr K C f ∧ fs.length < 1000 ∧ putF f y fs = fs' ∧
  ∀ H', H' a = some (.ins C dx fs') → SameB a H2 H' → D.nx σ H'
def sFldAugE (K : PySem.W.Frag) (ta tv : TE) (rd : V → V → Hp → VK → Prop) (f : Str) : TS := fun D σ H => ta σ H fun x H1 => ∃ a C dx fs v, x = .ref a ∧ H1 a = some (.ins C dx fs) ∧ Cls K C ∧ NoAttr K C f ∧ fs.lookup f = some v ∧
  tv σ H1 fun y H2 => rd v y H2 fun z H3 => ∃ dx' fs' fs'', H3 a = some (.ins C dx' fs') ∧ fs'.length < 1000 ∧ putF f z fs' = fs'' ∧ ∀ H', H' a = some (.ins C dx' fs'') → SameB a H3 H' → D.nx σ H'
section
variable {X : Cx} {o e value : Expr} {f : Str} {pos pos' tpos : Pos} {ta tv : TE}
theorem ps_fldE (ha : PE X o ta) (hv : PE X value tv) (hs : swapsWith value (some (.Attribute o f pos')) pos.line X.env = pure false) : PS X (.Assign [.Attribute o f pos'] value pos) (sFldE X.K ta tv f) := by
  intro pins s σ H D I h
  refine plainObj_wpAny_Assign_Attribute (thn (hv pins s σ H _ I h) fun u s1 ⟨y, H1, I1, ry, q⟩ => thn (ha pins s1 σ H1 _ I1 q) fun ov s2 ⟨x, H2, I2, rx, a, C, dx, fs, fs', ex, ea, c, n, l, ep, q2⟩ => ?_) hs
  subst ex
  obtain rfl : ov = Value.ref a := rx
  refine setattr_ok I2 ea c n l ry fun s3 I3 => ⟨σ, _, I3, q2 _ ?_ SameB.upd⟩
  rw [upd_same, ep]
theorem ps_fldaugE {op : Operator} {rd : V → V → Hp → VK → Prop} (ha : PE X o ta) (hv : PE X value tv) (hop : InOp X op rd) : PS X (.AugAssign (.Attribute o f tpos) op value pos) (sFldAugE X.K ta tv rd f) := by
  intro pins s σ H D I h
  refine wpAny_AugAssign_AttributeAny (thn (ha pins s σ H _ I h) fun ov s1 ⟨x, H1, I1, rx, a, C, dx, fs, v, ex, ea, c, n, l, q⟩ => ?_)
  subst ex
  obtain rfl : ov = Value.ref a := rx
  refine getattr_ok I1 ea c n l fun u s2 I2 ru => thn (hv pins s2 σ H1 _ I2 q) fun w3 s3 ⟨y, H2, I3, ry, q3⟩ => thn (hop pins s3 σ H2 v y u w3 _ I3 ru ry q3) fun w4 s4 ⟨z, H3, I4, rz, dx', fs', fs'', ea', l', ep, q4⟩ => ?_
  refine setattr_ok I4 ea' c n l' rz fun s5 I5 => ⟨σ, _, I5, q4 _ ?_ SameB.upd⟩
  rw [upd_same, ep]
end
end L2
namespace L2
open PySem PySem.Spec PyProof.Rows
end L2
/-! ### rules that name the text's facts, within a comprehension -/
namespace L2
open PySem PySem.Spec PyProof.Rows
section
variable {X : Cx} {K : PySem.W.Frag}
theorem op_notIn_seqK (h : X.K = K) : OpR X (compareOp .NotIn) (rIn K true) := h ▸ op_notIn_seq
end
end L2

set_option Elab.async false
set_option linter.all false
set_option maxRecDepth 100000
set_option maxHeartbeats 4000000
namespace PySem
open Sem (wp)
section
variable {prog : Program} {w : World} {A : Around} {E : Value → Shared → Prop} {s : Shared}
end
end PySem
namespace L2
open PySem PySem.Spec PyProof.Rows
section
variable {X : Cx} {pos : Pos}
theorem vals_items {i : Int} {n : Nat} {acc : Array Value} (h : ItemsOf (fun k v => ∃ t, v = .int (i + k * 1) t) acc n) : Vals ((List.range n).map fun k : Nat => V.int (i + k)) acc.toList := by
  have key : ∀ (us : List Value) (m : Nat), (∀ k v, us[k]? = some v → ∃ t, v = Value.int (i + ((m + k : Nat) : Int)) t) → Vals ((List.range' m us.length).map fun k : Nat => V.int (i + k)) us := by
    intro us
    induction us with
    | nil => intro m _; exact .nil
    | cons u r ih =>
      intro m hu
      rw [List.length_cons, List.range'_succ, List.map_cons]
      refine .cons (hu 0 u rfl) (ih (m + 1) fun k v hv => ?_)
      have := hu (k + 1) v (by simpa using hv)
      rw [show m + 1 + k = m + (k + 1) by omega]
      exact this
  have e : acc.toList.length = n := by rw [Array.length_toList]; exact h.1
  rw [List.range_eq_range', ← e]
  refine key acc.toList 0 fun k v hv => ?_
  obtain ⟨t, rfl⟩ := h.2 k v (by simpa using hv)
  exact ⟨t, by rw [Int.mul_one, Nat.zero_add]⟩
end
end L2
/-! ### a row of objects that stand in the heap, none twice -/
namespace L2
open PySem PySem.Spec PyProof.Rows
theorem nodup_set {α : Type} : ∀ {l : List α} {i : Nat} {a : α}, l.Nodup → a ∉ l → (l.set i a).Nodup
  | [], _, _, h, _ => by simpa using h
  | x :: r, 0, a, h, n => by
    rw [List.nodup_cons] at h
    rw [List.set_cons_zero, List.nodup_cons]
    exact ⟨fun z => n (List.mem_cons_of_mem _ z), h.2⟩
  | x :: r, i + 1, a, h, n => by
    rw [List.nodup_cons] at h
    rw [List.set_cons_succ, List.nodup_cons]
    refine ⟨fun z => ?_, nodup_set h.2 fun z => n (List.mem_cons_of_mem _ z)⟩
    rcases List.mem_or_eq_of_mem_set z with z | z
    · exact h.1 z
    · exact n (z ▸ List.mem_cons_self)
structure Has (H : Hp) (l : List (Addr × HO)) : Prop where
  nd : (l.map (·.1)).Nodup
  at_ : ∀ x ∈ l, H x.1 = some x.2
theorem Has.get {H : Hp} {l : List (Addr × HO)} (h : Has H l) {i : Nat} {a : Addr} {o : HO} (e : l[i]? = some (a, o)) : H a = some o := h.at_ (a, o) (List.mem_of_getElem? e)
theorem Has.same {H H' : Hp} {l : List (Addr × HO)} (h : Has H l) (s : Same H H') : Has H' l := ⟨h.nd, fun x hx => s _ _ (h.at_ x hx)⟩
theorem Has.sameB {H H' : Hp} {l : List (Addr × HO)} {b : Addr} (h : Has H l) (s : SameB b H H') (n : b ∉ l.map (·.1)) : Has H' l := ⟨h.nd, fun x hx => s _ _ (h.at_ x hx) fun z => n (z ▸ List.mem_map.mpr ⟨x, hx, rfl⟩)⟩
theorem Has.notin {H : Hp} {l : List (Addr × HO)} {a : Addr} (h : Has H l) (e : H a = none) : a ∉ l.map (·.1) := fun z => by
  obtain ⟨x, hx, rfl⟩ := List.mem_map.mp z
  rw [h.at_ x hx] at e
  cases e
theorem map_set {l : List (Addr × HO)} {i : Nat} {a : Addr} {o : HO} : (l.set i (a, o)).map (·.1) = (l.map (·.1)).set i a := by rw [List.map_set]
theorem Has.set {H H' : Hp} {l : List (Addr × HO)} (h : Has H l) (i : Nat) {a : Addr} {o o' : HO} (e : l[i]? = some (a, o)) (s : SameB a H H') (e' : H' a = some o') : Has H' (l.set i (a, o')) := by
  have em : (l.map (·.1))[i]? = some a := by rw [List.getElem?_map, e]; rfl
  have hi := (List.getElem?_eq_some_iff.mp e).1
  refine ⟨?_, fun x hx => ?_⟩
  · rw [map_set]
    have : (l.map (·.1)).set i a = l.map (·.1) := by
      obtain ⟨h1, h2⟩ := List.getElem?_eq_some_iff.mp em
      rw [← h2]
      exact List.set_getElem_self h1
    rw [this]
    exact h.nd
  · obtain ⟨j, hj, ex⟩ := List.mem_iff_getElem.mp hx
    rw [List.getElem_set] at ex
    by_cases q : i = j
    · rw [if_pos q] at ex
      subst ex
      exact e'
    · rw [if_neg q] at ex
      have hj' : j < l.length := by simpa using hj
      have hm : x ∈ l := ex ▸ List.getElem_mem hj'
      refine s _ _ (h.at_ x hm) fun z => q ?_
      have ej : (l.map (·.1))[j]? = some a := by rw [List.getElem?_map, List.getElem?_eq_getElem hj']; rw [← z, ← ex]; rfl
      obtain ⟨h1, h2⟩ := List.getElem?_eq_some_iff.mp em
      obtain ⟨h3, h4⟩ := List.getElem?_eq_some_iff.mp ej
      exact (List.getElem_inj h.nd).mp (h2.trans h4.symm)
theorem Has.put {H : Hp} {l : List (Addr × HO)} (h : Has H l) (i : Nat) {a : Addr} {o : HO} (n : a ∉ l.map (·.1)) (e : H a = some o) : Has H (l.set i (a, o)) := by
  refine ⟨by rw [map_set]; exact nodup_set h.nd n, fun x hx => ?_⟩
  rcases List.mem_or_eq_of_mem_set hx with z | z
  · exact h.at_ x z
  · rw [z]; exact e
theorem Has.new {H H' : Hp} {l : List (Addr × HO)} {a : Addr} {o : HO} (h : Has H l) (n : H a = none) (s : Same H H') (e : H' a = some o) : Has H' (l ++ [(a, o)]) := by
  refine ⟨?_, fun x hx => ?_⟩
  · rw [List.map_append, List.nodup_append]
    refine ⟨h.nd, by simp, fun x hx y hy z => ?_⟩
    have : y = a := by simpa using hy
    subst this
    exact h.notin n (z ▸ hx)
  · rcases List.mem_append.mp hx with z | z
    · exact s _ _ (h.at_ x z)
    · have : x = (a, o) := by simpa using z
      subst this
      exact e
theorem Has.nil (H : Hp) : Has H [] := ⟨List.nodup_nil, fun x hx => by cases hx⟩
theorem Has.ne {H : Hp} {l : List (Addr × HO)} (h : Has H l) {i j : Nat} {a b : Addr} {o p : HO} (e : l[i]? = some (a, o)) (e' : l[j]? = some (b, p)) (n : i ≠ j) : a ≠ b := fun z => by
  have ea : (l.map (·.1))[i]? = some a := by rw [List.getElem?_map, e]; rfl
  have eb : (l.map (·.1))[j]? = some a := by rw [List.getElem?_map, e', z]; rfl
  obtain ⟨h1, h2⟩ := List.getElem?_eq_some_iff.mp ea
  obtain ⟨h3, h4⟩ := List.getElem?_eq_some_iff.mp eb
  exact n ((List.getElem_inj h.nd).mp (h2.trans h4.symm))
theorem Same.stepB {H0 H H' : Hp} {a : Addr} (s : Same H0 H) (b : SameB a H H') (f : H0 a = none) : Same H0 H' := fun c o e => b _ _ (s _ _ e) fun z => by rw [z, f] at e; cases e
end L2

set_option Elab.async false
set_option linter.all false
set_option maxRecDepth 100000
namespace L2
open PySem PySem.Spec PyProof.Rows

/-! ### lists of pairs as tables -/
section
variable {κ : Type} [DecidableEq κ]
def valV (kvs : List (κ × V)) (k : κ) : Option V := (kvs.find? fun kv => decide (kv.1 = k)).map (·.2)
/-- in its place, or at the end -/
def putK (kvs : List (κ × V)) (k : κ) (v : V) : List (κ × V) :=
  if (kvs.any fun kv => decide (kv.1 = k)) = true then kvs.map (fun kv => if kv.1 = k then (kv.1, v) else kv) else kvs ++ [(k, v)]
def dropK (kvs : List (κ × V)) (k : κ) : List (κ × V) := kvs.filter fun kv => decide (kv.1 ≠ k)

theorem valV_pos {p : κ × V} {r : List (κ × V)} {k : κ} (e : p.1 = k) : valV (p :: r) k = some p.2 := by simp [valV, List.find?_cons, e]
theorem valV_neg {p : κ × V} {r : List (κ × V)} {k : κ} (e : ¬ p.1 = k) : valV (p :: r) k = valV r k := by simp [valV, List.find?_cons, e]
theorem valV_any (k : κ) : ∀ kvs : List (κ × V), (kvs.any fun kv => decide (kv.1 = k)) = (valV kvs k).isSome
  | [] => rfl
  | p :: r => by
    rw [List.any_cons]
    by_cases e : p.1 = k
    · simp only [valV_pos e, decide_eq_true e, Bool.true_or, Option.isSome_some]
    · rw [valV_neg e, decide_eq_false e, Bool.false_or]; exact valV_any k r
theorem valV_snoc (k j : κ) (y : V) : ∀ kvs : List (κ × V), valV kvs k = none → valV (kvs ++ [(k, y)]) j = if j = k then some y else valV kvs j
  | [], _ => by
    by_cases e : k = j
    · rw [if_pos e.symm]; exact valV_pos (p := (k, y)) e
    · rw [if_neg (fun z => e z.symm)]; exact valV_neg (p := (k, y)) e
  | p :: r, hn => by
    rw [List.cons_append]
    have hk : ¬ p.1 = k := fun z => by rw [valV_pos z] at hn; cases hn
    rw [valV_neg hk] at hn
    have ih := valV_snoc k j y r hn
    by_cases e : p.1 = j
    · rw [valV_pos e, valV_pos e, if_neg (fun z => hk (e.trans z))]
    · rw [valV_neg e, valV_neg e, ih]
theorem length_putK (kvs : List (κ × V)) (k : κ) (v : V) : (putK kvs k v).length ≤ kvs.length + 1 := by
  unfold putK
  split
  · rw [List.length_map]; omega
  · rw [List.length_append, List.length_cons, List.length_nil]; omega
theorem putK_new {kvs : List (κ × V)} {k : κ} (v : V) (h : valV kvs k = none) : putK kvs k v = kvs ++ [(k, v)] := by
  unfold putK
  rw [valV_any, h]
  exact if_neg (by decide)

theorem RelO.isSome_eq {o : Option V} {u : Option Value} (r : RelO o u) : o.isSome = u.isSome := by
  cases o with
  | none => cases u with
    | none => rfl
    | some _ => exact (show False from r).elim
  | some _ => cases u with
    | none => exact (show False from r).elim
    | some _ => rfl
theorem RelO.getD {o : Option V} {u : Option Value} {d : V} {d' : Value} (r : RelO o u) (rd : RelV d d') : RelV (o.getD d) (u.getD d') := by
  cases o with
  | none => cases u with
    | none => exact rd
    | some _ => exact (show False from r).elim
  | some _ => cases u with
    | none => exact (show False from r).elim
    | some _ => exact r

/-- raw tables of the same keys -/
theorem KV.val {kvs : List (κ × V)} {vs : List (κ × Value)} (r : KV kvs vs) (k : κ) : RelO (valV kvs k) (valueAt vs k) := by
  unfold KV at r
  induction r with
  | nil => exact True.intro
  | @cons p q ps qs h t ih =>
    obtain ⟨h1, h2⟩ := h
    by_cases e : p.1 = k
    · have e' : q.1 = k := h1.symm.trans e
      have b : valueAt (q :: qs) k = some q.2 := by simp [valueAt, List.find?_cons, e']
      rw [valV_pos e, b]; exact h2
    · have e' : ¬ q.1 = k := fun z => e (h1.trans z)
      have b : valueAt (q :: qs) k = valueAt qs k := by simp [valueAt, List.find?_cons, e']
      rw [valV_neg e, b]; exact ih
theorem KV.any {kvs : List (κ × V)} {vs : List (κ × Value)} (r : KV kvs vs) (k : κ) : (kvs.any fun kv => decide (kv.1 = k)) = vs.any fun kv => decide (kv.1 = k) := by
  unfold KV at r
  induction r with
  | nil => rfl
  | cons h t ih => rw [List.any_cons, List.any_cons, ih, h.1]
theorem KV.repl {kvs : List (κ × V)} {vs : List (κ × Value)} (r : KV kvs vs) (k : κ) {y : V} {u : Value} (ry : RelV y u) :
    KV (kvs.map fun kv => if kv.1 = k then (kv.1, y) else kv) (vs.map fun kv => if kv.1 = k then (kv.1, u) else kv) := by
  unfold KV at r ⊢
  induction r with
  | nil => exact .nil
  | @cons p q ps qs h t ih =>
    rw [List.map_cons, List.map_cons]
    refine .cons ?_ ih
    obtain ⟨h1, h2⟩ := h
    by_cases e : p.1 = k
    · rw [if_pos e, if_pos (h1.symm.trans e)]; exact ⟨h1, ry⟩
    · rw [if_neg e, if_neg (fun z => e (h1.trans z))]; exact ⟨h1, h2⟩
theorem KV.put {kvs : List (κ × V)} {vs : List (κ × Value)} (r : KV kvs vs) (k : κ) {y : V} {u : Value} (ry : RelV y u) : KV (putK kvs k y) (stored vs k u) := by
  unfold putK stored
  rw [r.any k]
  by_cases e : (vs.any fun kv => decide (kv.1 = k)) = true
  · rw [if_pos e, if_pos e]; exact r.repl k ry
  · rw [if_neg e, if_neg e]; exact Paired.snoc r ⟨rfl, ry⟩
theorem KV.drop {kvs : List (κ × V)} {vs : List (κ × Value)} (r : KV kvs vs) (k : κ) : KV (dropK kvs k) (without vs k) := by
  unfold KV at r ⊢
  unfold dropK without
  induction r with
  | nil => exact .nil
  | @cons p q ps qs h t ih =>
    obtain ⟨h1, h2⟩ := h
    rw [List.filter_cons, List.filter_cons]
    by_cases e : p.1 = k
    · have a : ¬ decide (p.1 ≠ k) = true := by simp [e]
      have b : ¬ decide (q.1 ≠ k) = true := by simp [h1.symm.trans e]
      rw [if_neg a, if_neg b]; exact ih
    · have e' : ¬ q.1 = k := fun z => e (h1.trans z)
      have a : decide (p.1 ≠ k) = true := by simp [e]
      have b : decide (q.1 ≠ k) = true := by simp [e']
      rw [if_pos a, if_pos b]; exact .cons ⟨h1, h2⟩ ih
theorem KV.length {kvs : List (κ × V)} {vs : List (κ × Value)} (r : KV kvs vs) : kvs.length = vs.length := Paired.length r
end


/-! ### a tracked dict, its keys ints and texts or tuples of these -/
theorem kV_is {P : Program} {w : World} {k : Key} {u : Value} (r : RelV (kV k) u) : (mixKind P w).is k u = true := by
  cases k with
  | inl i => obtain ⟨t, e⟩ := (show ∃ t, u = Value.int i t from r); subst e; exact mixKind_int P w i t
  | inr x => obtain ⟨t, e⟩ := (show ∃ t, u = Value.str x t from r); subst e; exact mixKind_str P w x t
theorem items_are {P : Program} {w : World} : ∀ {ks : List Key} {us : List Value}, Vals (ks.map kV) us → ItemsAre (mixKind P w) ks us
  | [], _, r => by rw [List.map_nil] at r; cases r; exact .nil
  | k :: ks, _, r => by
    rw [List.map_cons] at r
    cases r with
    | cons h t => exact .cons (kV_is h) (items_are t)

/-- raw entries of a dict with tuple keys -/
abbrev KT (H : Hp) : List (List Key × V) → List (List Key × Addr × Value) → Prop := Paired fun p q => p.1 = q.1 ∧ H q.2.1 = some (.tup (p.1.map kV)) ∧ RelV p.2 q.2.2
theorem KT.val {H : Hp} {kvs : List (List Key × V)} {xs : List (List Key × Addr × Value)} (r : KT H kvs xs) (k : List Key) : RelO (valV kvs k) ((atKey xs k).map (·.2)) := by
  induction r with
  | nil => exact True.intro
  | @cons p q ps qs h t ih =>
    obtain ⟨h1, _, h2⟩ := h
    by_cases e : p.1 = k
    · have e' : q.1 = k := h1.symm.trans e
      have b : atKey (q :: qs) k = some q.2 := by simp [atKey, List.find?_cons, e']
      rw [valV_pos e, b]; exact h2
    · have e' : ¬ q.1 = k := fun z => e (h1.trans z)
      have b : atKey (q :: qs) k = atKey qs k := by simp [atKey, List.find?_cons, e']
      rw [valV_neg e, b]; exact ih
theorem KT.repl {H : Hp} {kvs : List (List Key × V)} {xs : List (List Key × Addr × Value)} (r : KT H kvs xs) (k : List Key) {y : V} {u : Value} (ry : RelV y u) :
    KT H (kvs.map fun kv => if kv.1 = k then (kv.1, y) else kv) (xs.map (putAt k u)) := by
  induction r with
  | nil => exact .nil
  | @cons p q ps qs h t ih =>
    rw [List.map_cons, List.map_cons]
    refine .cons ?_ ih
    obtain ⟨h1, h2, h3⟩ := h
    unfold putAt
    by_cases e : p.1 = k
    · rw [if_pos e, if_pos (h1.symm.trans e)]; exact ⟨h1, h2, ry⟩
    · rw [if_neg e, if_neg (fun z => e (h1.trans z))]; exact ⟨h1, h2, h3⟩
theorem KT.put {H : Hp} {kvs : List (List Key × V)} {xs : List (List Key × Addr × Value)} (r : KT H kvs xs) (k : List Key) {b : Addr} {y : V} {u : Value} (hb : H b = some (.tup (k.map kV))) (ry : RelV y u) :
    KT H (putK kvs k y) (storedH xs k b u) := by
  have e : (kvs.any fun kv => decide (kv.1 = k)) = (atKey xs k).isSome := by
    rw [valV_any, (r.val k).isSome_eq, Option.isSome_map]
  unfold putK storedH
  rw [e]
  by_cases q : (atKey xs k).isSome = true
  · rw [if_pos q, if_pos q]; exact r.repl k ry
  · rw [if_neg q, if_neg q]; exact Paired.snoc r ⟨rfl, hb, ry⟩
theorem KT.keeps {H H' : Hp} {kvs : List (List Key × V)} {xs : List (List Key × Addr × Value)} (r : KT H kvs xs) (ht : ∀ b ys, H b = some (.tup ys) → H' b = some (.tup ys)) : KT H' kvs xs :=
  Paired.mapP r fun _ _ z => ⟨z.1, ht _ _ z.2.1, z.2.2⟩

section
variable {P : Program} {w : World} {H : Hp} {h : Heap} {a : Addr}
theorem rd_of {u : HO} (ok : HOk P w H h) (e : Rd H a u) : ObjOk P w H h a u := e.ok ok
theorem dk_rd {kvs : List (Key × V)} (ok : HOk P w H h) (e : Rd H a (.dK kvs)) : kvs.length ≤ sizeLine ∧ (a == sysModules) = false ∧ ∃ vs, KV kvs vs ∧ h.DictOf (mixKind P w) a vs :=
  show ObjOk P w H h a (.dK kvs) from rd_of ok e
theorem dk_of {kvs : List (Key × V)} (ok : HOk P w H h) (e : H a = some (.dK kvs)) : kvs.length ≤ sizeLine ∧ (a == sysModules) = false ∧ ∃ vs, KV kvs vs ∧ h.DictOf (mixKind P w) a vs := dk_rd ok (.inl e)
/-- a tracked tuple of ints and texts is a key -/
theorem key_of {ks : List Key} (ok : HOk P w H h) (e : H a = some (.tup (ks.map kV))) : (tupleKind (mixKind P w)).is h ks a := by
  obtain ⟨_, its, r, o, h1, h2, n, h3⟩ := (show ObjOk P w H h a (.tup (ks.map kV)) from ok a _ e)
  exact ⟨o, its.toArray, n, h1, h2, h3, by simpa using items_are r⟩
theorem dt_rd {kvs : List (List Key × V)} (ok : HOk P w H h) (e : Rd H a (.dT kvs)) : kvs.length ≤ sizeLine ∧ (a == sysModules) = false ∧
    ∃ xs, KT H kvs xs ∧ h.DictOfH (tupleKind (mixKind P w)) a xs := by
  obtain ⟨z, y, xs, r, o, es, ep, h1, h2, h3, h4, h5⟩ := (show ObjOk P w H h a (.dT kvs) from rd_of ok e)
  refine ⟨z, y, xs, r, o, es, ep, h1, h2, h3, h4, fun x hx => ?_, h5⟩
  have all : ∀ {l : List (List Key × V)} {m : List (List Key × Addr × Value)}, KT H l m → ∀ x ∈ m, (tupleKind (mixKind P w)).is h x.1 x.2.1 := by
    intro l m q
    induction q with
    | nil => intro x hx; exact nomatch hx
    | @cons p q ps qs hq t ih =>
      intro x hx
      rcases List.mem_cons.mp hx with e | hx
      · subst e
        exact key_of ok (by rw [← hq.1]; exact hq.2.1)
      · exact ih x hx
  exact all r x hx
theorem dt_of {kvs : List (List Key × V)} (ok : HOk P w H h) (e : H a = some (.dT kvs)) : kvs.length ≤ sizeLine ∧ (a == sysModules) = false ∧
    ∃ xs, KT H kvs xs ∧ h.DictOfH (tupleKind (mixKind P w)) a xs := dt_rd ok (.inl e)
end

/-- what the dict at a holds at the key y -/
def DGet (H : Hp) (a : Addr) (y : V) (r : Option V) : Prop :=
  (∃ kvs k, Rd H a (.dK kvs) ∧ y = kV k ∧ r = valV kvs k) ∨ ∃ kvs k b, Rd H a (.dT kvs) ∧ y = .ref b ∧ H b = some (.tup (k.map kV)) ∧ r = valV kvs k
/-- the heap behind a[y] = v -/
def DPut (H : Hp) (a : Addr) (y v : V) (H' : Hp) : Prop :=
  (∃ kvs k, H a = some (.dK kvs) ∧ y = kV k ∧ kvs.length < sizeLine ∧ H' = upd H a (.dK (putK kvs k v))) ∨
  ∃ kvs k b, H a = some (.dT kvs) ∧ y = .ref b ∧ H b = some (.tup (k.map kV)) ∧ kvs.length < sizeLine ∧ H' = upd H a (.dT (putK kvs k v))
theorem DGet.k {H : Hp} {a : Addr} {kvs : List (Key × V)} {k : Key} (e : H a = some (.dK kvs)) : DGet H a (kV k) (valV kvs k) := .inl ⟨kvs, k, .inl e, rfl, rfl⟩
theorem DGet.t {H : Hp} {a b : Addr} {kvs : List (List Key × V)} {k : List Key} (e : H a = some (.dT kvs)) (eb : H b = some (.tup (k.map kV))) : DGet H a (.ref b) (valV kvs k) := .inr ⟨kvs, k, b, .inl e, rfl, eb, rfl⟩
theorem DPut.k {H : Hp} {a : Addr} {kvs : List (Key × V)} {k : Key} {v : V} (e : H a = some (.dK kvs)) (hl : kvs.length < sizeLine) : DPut H a (kV k) v (upd H a (.dK (putK kvs k v))) := .inl ⟨kvs, k, e, rfl, hl, rfl⟩
theorem DPut.t {H : Hp} {a b : Addr} {kvs : List (List Key × V)} {k : List Key} {v : V} (e : H a = some (.dT kvs)) (eb : H b = some (.tup (k.map kV))) (hl : kvs.length < sizeLine) :
    DPut H a (.ref b) v (upd H a (.dT (putK kvs k v))) := .inr ⟨kvs, k, b, e, rfl, eb, hl, rfl⟩


section
variable {X : Cx} {pins : List (Addr × Obj)} {σ : St} {H : Hp} {s : Shared} {a : Addr} {y v : V} {u r : Value} {o : Option V} {A : Around} {E : Value → Shared → Prop}

theorem Inv.big (I : Inv X pins σ H s) : sysModules < s.heap.objs.size := by
  have h : mainGlobals < s.heap.objs.size := (I.mod.glob.keeps I.bk).lt
  exact Nat.lt_trans (by decide) h

/-- d[y], there -/
theorem d_getItem {Q : Value → Shared → Prop} (hu : A.units + 1 < cLine) (I : Inv X pins σ H s) (g : DGet H a y (some v)) (ry : RelV y u) (h : ∀ w' s', Inv X pins σ H s' → RelV v w' → Q w' s') :
    wpAny (model X.prog X.w) A (getItem (.ref a) u) Q E s := by
  rcases g with ⟨kvs, k, e, ey, l⟩ | ⟨kvs, k, b, e, ey, eb, l⟩
  · subst ey
    obtain ⟨z, hd, vs, rel, dd⟩ := dk_rd I.hok e
    obtain ⟨w', hw, rw'⟩ := RelO.some_of (v := v) (o := valueAt vs k) (by rw [l]; exact rel.val k)
    exact wpAny_getItem_of (kV_is ry) dd.mapOf hw (h w' _ (I.tok _) rw')
  · subst ey
    cases (show u = Value.ref b from ry)
    obtain ⟨z, hd, xs, rel, dd⟩ := dt_rd I.hok e
    obtain ⟨w', hw, rw'⟩ := RelO.some_of (v := v) (o := (atKey xs k).map (·.2)) (by rw [l]; exact rel.val k)
    obtain ⟨p, hp, hp2⟩ := Option.map_eq_some_iff.mp hw
    refine wpAny_getItem_heap (tupleKind_room_in1 hu) (key_of I.hok eb) dd hp ?_
    rw [hp2]
    exact h w' _ (I.tok _) rw'
/-- y in d -/
theorem d_in {Q : Value → Shared → Prop} (hu : A.units + 1 < cLine) (I : Inv X pins σ H s) (g : DGet H a y o) (ry : RelV y u) (h : ∀ s', Inv X pins σ H s' → Q (.bool o.isSome) s') :
    wpAny (model X.prog X.w) A (compareOp .In u (.ref a)) Q E s := by
  rcases g with ⟨kvs, k, e, ey, l⟩ | ⟨kvs, k, b, e, ey, eb, l⟩
  · subst ey
    obtain ⟨z, hd, vs, rel, dd⟩ := dk_rd I.hok e
    refine wpAny_in_of (kV_is ry) hd dd.mapOf ?_
    rw [← (rel.val k).isSome_eq, ← l]
    exact h _ (I.tok _)
  · subst ey
    cases (show u = Value.ref b from ry)
    obtain ⟨z, hd, xs, rel, dd⟩ := dt_rd I.hok e
    refine wpAny_in_heap (tupleKind_room_in1 hu) (key_of I.hok eb) hd dd ?_
    have q := (rel.val k).isSome_eq
    rw [Option.isSome_map] at q
    rw [← q, ← l]
    exact h _ (I.tok _)
theorem d_notIn {Q : Value → Shared → Prop} (hu : A.units + 1 < cLine) (I : Inv X pins σ H s) (g : DGet H a y o) (ry : RelV y u) (h : ∀ s', Inv X pins σ H s' → Q (.bool (!o.isSome)) s') :
    wpAny (model X.prog X.w) A (compareOp .NotIn u (.ref a)) Q E s := by
  rcases g with ⟨kvs, k, e, ey, l⟩ | ⟨kvs, k, b, e, ey, eb, l⟩
  · subst ey
    obtain ⟨z, hd, vs, rel, dd⟩ := dk_rd I.hok e
    refine wpAny_notIn_of (kV_is ry) hd dd.mapOf ?_
    rw [← (rel.val k).isSome_eq, ← l]
    exact h _ (I.tok _)
  · subst ey
    cases (show u = Value.ref b from ry)
    obtain ⟨z, hd, xs, rel, dd⟩ := dt_rd I.hok e
    refine wpAny_notIn_heap (tupleKind_room_in1 hu) (key_of I.hok eb) hd dd ?_
    have q := (rel.val k).isSome_eq
    rw [Option.isSome_map] at q
    rw [← q, ← l]
    exact h _ (I.tok _)
/-- a dict's object is replaced -/
theorem d_write {h' : Heap} {t' : Nat} {ob : HO} (I : Inv X pins σ H s) (mu : Mut (H a)) (hs : Heap.SameBut a s.heap h') (he : ∃ q, h'.get? a = some q) (new : ObjOk X.prog X.w (upd H a ob) h' a ob) :
    Inv X pins σ (upd H a ob) { s with heap := h', toks := t' } :=
  I.write (x := a) (e := a) mu (.inl rfl) (fun b q hb z => (hs.2 b hb).trans z) he new
theorem dk_new {P : Program} {w : World} {H' : Hp} {h' : Heap} {kvs : List (Key × V)} {vs : List (Key × Value)} (z : kvs.length ≤ sizeLine) (hd : (a == sysModules) = false) (rel : KV kvs vs) (dd : h'.DictOf (mixKind P w) a vs) :
    ObjOk P w H' h' a (.dK kvs) := ⟨z, hd, vs, rel, dd⟩
/-- d[y] = v -/
theorem d_setItem {H' : Hp} {Q : Unit → Shared → Prop} (hu : A.units + 1 < cLine) (I : Inv X pins σ H s) (g : DPut H a y v H') (ry : RelV y u) (rv : RelV v r) (h : ∀ s', Inv X pins σ H' s' → Q () s') :
    wpAny (model X.prog X.w) A (setItem (.ref a) u r) Q E s := by
  rcases g with ⟨kvs, k, e, ey, l, eH⟩ | ⟨kvs, k, b, e, ey, eb, l, eH⟩
  · subst ey eH
    obtain ⟨z, hd, vs, rel, dd⟩ := dk_of I.hok e
    have hz : vs.length ≤ sizeLine := by rw [← rel.length]; exact z
    have hl : (putK kvs k v).length ≤ sizeLine := by have := length_putK kvs k v; omega
    refine wpAny_setItem_pairs (hsz := hz) (kV_is ry) dd fun h' dd' hs => h _ ?_
    have he : ∃ q, h'.get? a = some q := let ⟨q, _, _, hq, _⟩ := dd'; ⟨q, hq⟩
    exact d_write I (by rw [e]; exact True.intro) hs he (dk_new hl hd (rel.put k rv) dd')
  · subst ey eH
    cases (show u = Value.ref b from ry)
    obtain ⟨z, hd, xs, rel, dd⟩ := dt_of I.hok e
    have hz : xs.length ≤ sizeLine := by rw [← Paired.length rel]; exact z
    have hl : (putK kvs k v).length ≤ sizeLine := by have := length_putK kvs k v; omega
    refine wpAny_setItem_heap (hsz := hz) (tupleKind_room_in1 hu) (key_of I.hok eb) dd fun h' dd' hs => h _ ?_
    obtain ⟨q, es, ep, hq, h2, h3, h4, _, h5⟩ := dd'
    refine d_write I (by rw [e]; exact True.intro) hs ⟨q, hq⟩ ⟨hl, hd, _, (rel.put k eb rv).keeps fun c ys ec => ?_, q, es, ep, hq, h2, h3, h4, h5⟩
    rw [upd_ne (ne_of ec e (fun z => nomatch z))]
    exact ec
end

section
variable {X : Cx} {pins : List (Addr × Obj)} {σ : St} {H : Hp} {s : Shared} {a : Addr} {kvs : List (Key × V)} {k : Key} {u : Value} {A : Around} {E : Value → Shared → Prop}
end


/-! ### readings and rules -/
/-- the element of a subscription, not a slice -/
def NoSl (i : Expr) : Prop := ∀ ov iv, subscripted i false ov iv = operate [ov, iv] (getItem ov iv)
theorem subD_of {prog : Program} {w : World} {A : Around} {E : Value → Shared → Prop} {s : Shared} {env : Env} {value slice : Expr} {pos : Pos} {T id : String} {Q : Value → Shared → Prop}
    (hl : typeLookup (.type T) "__getitem__" = pure (some (.builtin id))) (hs : NoSl slice)
    (h : wpAny (model prog w) A (eval value env) (fun o s₁ => wpAny (model prog w) A (eval slice env) (fun i s₂ => s₂.TypeIs o T ∧ wpAny (model prog w) A (getItem o i) Q E s₂) E s₁) E s) :
    wpAny (model prog w) A (eval (.Subscript value slice pos) env) Q E s := by
  refine Subscript_ (wpAny_mono h (fun o s₁ h₁ => wpAny_mono h₁ (fun i s₂ h₂ => ?_) fun _ _ x => x) fun _ _ x => x)
  obtain ⟨hT, h₂⟩ := h₂
  unfold subscriptTail
  refine wpAny_bind ?_
  rw [getitemInPython_of_ne hT.not_modules]
  refine wpAny_bind (wpAny_specialOf hT hl ?_)
  have fin : wpAny (model prog w) A (subscripted slice false o i) (fun r s₃ => wpAny (model prog w) A (letTemporaryGo value o r >>= fun _ => pure r) Q E s₃) E s₂ := by
    rw [hs o i]
    exact wpAny_operating (wpAny_mono h₂ (fun r s₃ h₃ => wpAny_bind (wpAny_letTemporaryGo (wpAny_pure h₃))) fun _ _ x => x)
  first
    | exact wpAny_pure (wpAny_bind fin)
    | exact wpAny_bind (wpAny_pure (wpAny_bind fin))
    | exact wpAny_bind fin

theorem dict_typeIs {X : Cx} {pins : List (Addr × Obj)} {σ : St} {H : Hp} {s : Shared} {a : Addr} {y : V} {o : Option V} (I : Inv X pins σ H s) (g : DGet H a y o) : s.TypeIs (.ref a) "dict" := by
  rcases g with ⟨kvs, k, e, _, _⟩ | ⟨kvs, k, b, e, _, _, _⟩
  · obtain ⟨_, _, vs, _, dd⟩ := dk_rd I.hok e
    exact dd.typeIs
  · obtain ⟨_, _, xs, _, dd⟩ := dt_rd I.hok e
    exact dd.typeIs
/-- d[y] -/
def tDGet (td ty : TE) : TE := fun σ H Q => td σ H fun x H1 => ty σ H1 fun y H2 => ∃ a v, x = .ref a ∧ DGet H2 a y (some v) ∧ Q v H2
/-- y in d, y not in d -/
def tDIn (ty td : TE) : TE := fun σ H Q => ty σ H fun y H1 => td σ H1 fun x H2 => ∃ a o, x = .ref a ∧ DGet H2 a y o ∧ Q (.bl o.isSome) H2
def tDNotIn (ty td : TE) : TE := fun σ H Q => ty σ H fun y H1 => td σ H1 fun x H2 => ∃ a o, x = .ref a ∧ DGet H2 a y o ∧ Q (.bl (!o.isSome)) H2
/-- d[y] = v -/
def sDPut (td ty tv : TE) : TS := fun D σ H => tv σ H fun v H1 => td σ H1 fun x H2 => ty σ H2 fun y H3 => ∃ a H4, x = .ref a ∧ DPut H3 a y v H4 ∧ D.nx σ H4
/-- d[y] op= v -/
def sDAug (td ty tv : TE) (rd : V → V → Hp → VK → Prop) : TS := fun D σ H => td σ H fun x H1 => ty σ H1 fun y H2 => ∃ a v, x = .ref a ∧ DGet H2 a y (some v) ∧
  tv σ H2 fun y2 H3 => rd v y2 H3 fun z H4 => ∃ H5, DPut H4 a y z H5 ∧ D.nx σ H5
section
variable {X : Cx} {o i e value : Expr} {pos pos' tpos : Pos} {td ty tv : TE}
theorem pe_dget (hu : X.A.units + 1 < cLine) (ho : PE X o td) (hi : PE X i ty) (hs : NoSl i) : PE X (.Subscript o i pos) (tDGet td ty) := by
  intro pins s σ H Q I h
  refine subD_of PySem.F.slot_dict_getitem.lookup hs (thn (ho pins s σ H _ I h) fun u s1 ⟨x, H1, I1, rx, q1⟩ => thn (hi pins s1 σ H1 _ I1 q1) fun iv s2 ⟨y, H2, I2, ry, a, v, ex, g, q2⟩ => ?_)
  subst ex
  obtain rfl : u = Value.ref a := rx
  exact ⟨dict_typeIs I2 g, d_getItem hu I2 g ry fun w' s3 I3 rw' => ⟨v, H2, I3, rw', q2⟩⟩
theorem pc_din (hu : X.A.units + 1 < cLine) (hi : PE X i ty) (ho : PE X o td) : PC X .In i o (tDIn ty td) := by
  intro pins s σ H Q I h
  refine thn (hi pins s σ H _ I h) fun iv s1 ⟨y, H1, I1, ry, q1⟩ => thn (ho pins s1 σ H1 _ I1 q1) fun u s2 ⟨x, H2, I2, rx, a, ov, ex, g, q2⟩ => ?_
  subst ex
  obtain rfl : u = Value.ref a := rx
  exact d_in hu I2 g ry fun s3 I3 => ⟨.bl ov.isSome, H2, I3, rfl, q2⟩
theorem pc_dnotin (hu : X.A.units + 1 < cLine) (hi : PE X i ty) (ho : PE X o td) : PC X .NotIn i o (tDNotIn ty td) := by
  intro pins s σ H Q I h
  refine thn (hi pins s σ H _ I h) fun iv s1 ⟨y, H1, I1, ry, q1⟩ => thn (ho pins s1 σ H1 _ I1 q1) fun u s2 ⟨x, H2, I2, rx, a, ov, ex, g, q2⟩ => ?_
  subst ex
  obtain rfl : u = Value.ref a := rx
  exact d_notIn hu I2 g ry fun s3 I3 => ⟨.bl (!ov.isSome), H2, I3, rfl, q2⟩
theorem ps_dput (hu : X.A.units + 1 < cLine) (ho : PE X o td) (hi : PE X i ty) (hv : PE X value tv) (hs : swapsWith value (some (.Subscript o i pos')) pos.line X.env = pure false) :
    PS X (.Assign [.Subscript o i pos'] value pos) (sDPut td ty tv) := by
  intro pins s σ H D I h
  refine wpAny_Assign_Subscript (thn (hv pins s σ H _ I h) fun r s1 ⟨v, H1, I1, rv, q1⟩ => thn (ho pins s1 σ H1 _ I1 q1) fun u s2 ⟨x, H2, I2, rx, q2⟩ => thn (hi pins s2 σ H2 _ I2 q2) fun iv s3 ⟨y, H3, I3, ry, a, H4, ex, g, q3⟩ => ?_) hs
  subst ex
  obtain rfl : u = Value.ref a := rx
  exact d_setItem hu I3 g ry rv fun s4 I4 => ⟨σ, H4, I4, q3⟩
theorem ps_daug {op : Operator} {rd : V → V → Hp → VK → Prop} (hu : X.A.units + 1 < cLine) (ho : PE X o td) (hi : PE X i ty) (hv : PE X value tv) (hop : InOp X op rd)
    (ha : ∀ ov iv new, augStore i ov iv new = (do holding [new, ov, iv] (setItem ov iv new); release [new, ov, iv] []; pure .next)) : PS X (.AugAssign (.Subscript o i tpos) op value pos) (sDAug td ty tv rd) := by
  intro pins s σ H D I h
  refine wpAny_AugAssign_SubscriptAny (thn (ho pins s σ H _ I h) fun u s1 ⟨x, H1, I1, rx, q1⟩ => thn (hi pins s1 σ H1 _ I1 q1) fun iv s2 ⟨y, H2, I2, ry, a, v, ex, g, q2⟩ => ?_) ha
  subst ex
  obtain rfl : u = Value.ref a := rx
  refine d_getItem hu I2 g ry fun w' s3 I3 rw' => thn (hv pins s3 σ H2 _ I3 q2) fun w2 s4 ⟨y2, H3, I4, ry2, q3⟩ => thn (hop pins s4 σ H3 v y2 w' w2 _ I4 rw' ry2 q3) fun w3 s5 ⟨z, H4, I5, rz, H5, g5, q4⟩ => ?_
  exact d_setItem hu I5 g5 ry rz fun s6 I6 => ⟨σ, H5, I6, q4⟩
end


/-! ### displays -/
theorem dk_empty {P : Program} {w : World} {H : Hp} (h : Heap) (hb : sysModules < h.objs.size) : ObjOk P w H (h.push { cls := .type "dict", data := .dict #[] }) h.objs.size (.dK []) :=
  ⟨Nat.zero_le _, beq_eq_false_iff_ne.mpr (Ne.symm (Nat.ne_of_lt hb)), [], .nil, Heap.DictOf.new h⟩
/-- {}, to be a dict of the kind that is wanted -/
def tDNewK : TE := fun _ H Q => ∀ p, H p = none → Q (.ref p) (upd H p (.dK []))
section
variable {X : Cx} {pos : Pos}
theorem pe_dnewK : PE X (.Dict [] [] pos) tDNewK := fun pins s σ H Q I h =>
  wpAny_Dict_empty ⟨.ref s.heap.objs.size, _, I.laid (a := s.heap.objs.size) (o := .dK []) (t' := s.toks) (fun _ _ q => Heap.get?_push_of_some _ q) (Nat.le_refl _) (dk_empty s.heap I.big), rfl, h _ (I.hok.fresh (Nat.le_refl _))⟩
end

/-- a is a dict, whatever its keys -/
def IsD (H : Hp) (a : Addr) : Prop := (∃ kvs, Rd H a (.dK kvs)) ∨ ∃ kvs, Rd H a (.dT kvs)
theorem isD_at {X : Cx} {pins : List (Addr × Obj)} {σ : St} {H : Hp} {s : Shared} {a : Addr} (I : Inv X pins σ H s) (d : IsD H a) :
    s.TypeIs (.ref a) "dict" ∧ (∀ b, Value.ref a = .ref b → ∃ ob, s.heap.get? b = some ob ∧ ob.dict = none) ∧ (a == sysModules) = false := by
  rcases d with ⟨kvs, e⟩ | ⟨kvs, e⟩
  · obtain ⟨_, hd, vs, _, dd⟩ := dk_rd I.hok e
    refine ⟨dd.typeIs, fun b q => ?_, hd⟩
    cases q
    obtain ⟨ob, _, _, h1, h2, _⟩ := dd
    exact ⟨ob, h1, h2.2.1⟩
  · obtain ⟨_, hd, xs, _, dd⟩ := dt_rd I.hok e
    refine ⟨dd.typeIs, fun b q => ?_, hd⟩
    cases q
    obtain ⟨ob, _, _, h1, h2, _⟩ := dd
    exact ⟨ob, h1, h2.2.1⟩

section
variable {X : Cx} {pins : List (Addr × Obj)} {σ : St} {H : Hp} {s : Shared} {a : Addr} {y d : V} {u r : Value} {o : Option V} {A : Around} {E : Value → Shared → Prop}
end

section
variable {X : Cx} {o e f : Expr} {apos cpos : Pos} {td ty tx : TE}
end

/-! ### dict(d): a copy -/
section
variable {X : Cx} {pins : List (Addr × Obj)} {σ : St} {H : Hp} {s : Shared} {a : Addr} {kvs : List (Key × V)} {A : Around} {E : Value → Shared → Prop}
end


section
variable {X : Cx} {pins : List (Addr × Obj)} {σ : St} {H : Hp} {s : Shared} {a : Addr} {y : V} {u : Value} {A : Around} {E : Value → Shared → Prop}
end
end L2

namespace L2
open PySem PySem.Spec PyProof.Rows
section
variable {X : Cx}
end
/-! ### a dict's pairs: keys that differ -/
section
variable {κ : Type} [DecidableEq κ]
end
end L2

set_option Elab.async false
set_option linter.all false
set_option maxRecDepth 100000
set_option maxHeartbeats 4000000
/-! ### dict comprehensions -/
namespace L2
open PySem PySem.Spec PyProof.Rows
/-- one turn after another; nothing is raised -/
theorem compd_loop {prog : Program} {w : World} {A : Around} {R : Result → Shared → Prop} {s : Shared} {kx vx target iter : Expr} {ifs : List Expr} {scope : Scope} {pos : Pos} {it : Value} {D : Addr} {env : Env} (J : Nat → Shared → Prop)
    (turn : ∀ n s, J n s → wpAny (model prog w) A (pyNext it) (fun r s1 => match r with
      | none => R (.ok .next) s1
      | some v => wpAny (model prog w) A (letOwnedTupleGo target it v) (fun _ s2 => wpAny (model prog w) A (assign target env v) (fun _ s3 =>
          wpAny (model prog w) A (forIn ifs true fun c r => if r = true then do let ok ← isTrue c env (eval c env); pure (ForInStep.yield ok) else pure (ForInStep.yield r)) (fun ok s4 =>
            if ok = true then wpAny (model prog w) A (eval kx env) (fun kv s5 => wpAny (model prog w) A (eval vx env) (fun vv s6 => wpAny (model prog w) A (dictSet D kv vv) (fun _ s7 => ∃ m, m < n ∧ J m s7) (fun _ _ => False) s6) (fun _ _ => False) s5) (fun _ _ => False) s4
            else ∃ m, m < n ∧ J m s4) (fun _ _ => False) s3) (fun _ _ => False) s2) (fun _ _ => False) s1) (fun _ _ => False) s)
    (n : Nat) (h : J n s) : codeAny (model prog w) A (.compLoop (.DictComp kx vx [⟨target, iter, ifs, 0⟩] scope pos) 0 it (.ref D) env) R s := by
  refine codeAny_loop rfl J (fun k s' hk => ?_) n h
  show wpAny _ A (Sem.onRaise (compTurn (.DictComp kx vx [⟨target, iter, ifs, 0⟩] scope pos) 0 it (.ref D) env) (fun x => do noteFrame x env; theTreesLotGoes x)) _ _ s'
  refine wpAny_noted ?_
  rw [compTurn_dict]
  refine wpAny_bind (wpAny_standAt (wpAny_bind (wpAny_mono (turn k s' hk) (fun r s1 q1 => ?_) fun _ _ f => f.elim)))
  cases r with
  | none => exact wpAny_pure q1
  | some v =>
    refine wpAny_bind (wpAny_mono q1 (fun _ s2 q2 => wpAny_bind (wpAny_mono q2 (fun _ s3 q3 => wpAny_bind (wpAny_mono q3 (fun ok s4 q4 => ?_) fun _ _ f => f.elim)) fun _ _ f => f.elim)) fun _ _ f => f.elim)
    cases ok with
    | false => exact wpAny_pure ⟨rfl, q4⟩
    | true => exact wpAny_bind (wpAny_bind (wpAny_mono q4 (fun kv s5 q5 => wpAny_bind (wpAny_holding (wpAny_mono q5 (fun vv s6 q6 => wpAny_bind (wpAny_standAt (wpAny_holding (wpAny_mono q6 (fun _ s7 q7 => wpAny_pure ⟨rfl, q7⟩) fun _ _ f => f.elim)))) fun _ _ f => f.elim))) fun _ _ f => f.elim))

theorem d_dictSet {X : Cx} {pins : List (Addr × Obj)} {σ : St} {H : Hp} {s : Shared} {A : Around} {E : Value → Shared → Prop} {a : Addr} {kvs : List (Key × V)} {k : Key} {v : V} {u r : Value} {Q : Unit → Shared → Prop} (I : Inv X pins σ H s) (e : H a = some (.dK kvs)) (l : kvs.length < sizeLine) (ry : RelV (kV k) u) (rv : RelV v r)
    (h : ∀ s', Inv X pins σ (upd H a (.dK (putK kvs k v))) s' → Q () s') : wpAny (model X.prog X.w) A (dictSet a u r) Q E s := by
  obtain ⟨z, hd, vs, rel, dd⟩ := dk_of I.hok e
  have hz : vs.length ≤ sizeLine := by rw [← rel.length]; exact z
  have hl : (putK kvs k v).length ≤ sizeLine := by have := length_putK kvs k v; omega
  refine wpAny_dictSet_pairs (hsz := hz) (kV_is ry) dd fun h' dd' hs => h _ ?_
  have he : ∃ q, h'.get? a = some q := let ⟨q, _, _, hq, _⟩ := dd'; ⟨q, hq⟩
  exact d_write I (by rw [e]; exact True.intro) hs he (dk_new hl hd (rel.put k rv) dd')
/-- what a comprehension is to keep, turn by turn: W the invariant by the turn and a measure, over the block's names and the heap; l the new dict -/
@[irreducible] def DWant (J : It) (g : TG) (tt : TT) (tk tv : TE) (Q : VK) (σ0 : St) (H0 : Hp) (l : Addr) : Prop := ∃ W : Nat → Nat → St → Hp → Prop, (∃ m, W 0 m σ0 H0) ∧
  ∀ i m σ' H', W i m σ' H' → (J.stop i H' ∧ Q (.ref l) H') ∨ (J.go i H' ∧ ∃ N : St → Hp → Prop, (∀ σ3 H3, N σ3 H3 → ∃ m', m' < m ∧ W (i + 1) m' σ3 H3) ∧ ∀ x H2, J.yld i H' x H2 → g x σ' H2 fun σ3 H3 => tt σ3 H3 fun b H4 =>
    if b = true then tk σ3 H4 fun y H5 => tv σ3 H5 fun z H6 => ∃ (kvs : List (Key × V)) (k : Key), H6 l = some (.dK kvs) ∧ y = kV k ∧ kvs.length < sizeLine ∧ N σ3 (upd H6 l (.dK (putK kvs k z))) else N σ3 H4)
/-- {k: v for tg in iter if ..} -/
def tDComp (wi : TI) (src : List (Option Nat)) (g : TG) (tt : TT) (tk tv : TE) : TE := fun σ H Q => wi σ H fun J H1 => ∀ l, H1 l = none → DWant J g tt tk tv Q (srcSt src σ) (upd H1 l (.dK [])) l

/-- the core: fin says what is wanted where the block's turns are over -/
theorem compd_core {X : Cx} {N' : List Str} {src : List (Option Nat)} {sc : Scope} {kx vx tg iter : Expr} {ifs : List Expr} {pos pos' : Pos} {wi : TI} {g : TG} {tt : TT} {tk tv : TE} {use : Option (Value → Sem Unit)} {R : Value → Shared → Prop} (hc : X.calm = true) (S : CScope X N' src sc)
    (hi : PI X tg iter wi) (hg : ∀ s3 H3 fp pn, PG (cxC X N' sc s3 H3 fp pn) tg g) (ht : ∀ s3 H3 fp pn, PF (cxC X N' sc s3 H3 fp pn) ifs tt) (hk : ∀ s3 H3 fp pn, PE (cxC X N' sc s3 H3 fp pn) kx tk) (hv : ∀ s3 H3 fp pn, PE (cxC X N' sc s3 H3 fp pn) vx tv)
    (hs : ∀ x, foldedSetIterable iter X.env x = pure x) {pins : List (Addr × Obj)} {s : Shared} {σ : St} {H : Hp} {Q : VK} (I : Inv X pins σ H s) (h : tDComp wi src g tt tk tv σ H Q)
    (fin : ∀ s3 H3 fp σ4 H4 s5 l, Inv X pins σ H3 s3 → (∀ b ∈ fp, FpOk X pins H3 b) → Inv (cxC X N' sc s3 H3 fp (X.pn ++ pins)) [] σ4 H4 s5 → Q (.ref l) H4 →
      compPost (model X.prog X.w) X.A X.xe use R (.ref l) s3.heap.objs.size (.ok .next) s5) :
    wpAny (model X.prog X.w) X.A (comprehension (.DictComp kx vx [⟨tg, iter, ifs, 0⟩] sc pos) sc X.env pos' newDict false (eval iter X.env) use) R X.xe s := by
  refine wpAny_comprehension_free (use := use) (cl := clOf X.env sc.names []) rfl hs (closure_is fun p hp e => I.ok.has p.1 (S.fv p hp e)) S.kind S.loc ?_
  refine thn (hi pins s σ H _ I h) fun v s1 h1 => thn h1 fun itv s2 h2 => ?_
  obtain ⟨it, fp, tn, J, H2, rfl, I2, T, st2, f2, q⟩ := h2
  have q' := q s2.heap.objs.size (I2.hok.fresh (Nat.le_refl _))
  unfold DWant at q'
  obtain ⟨W, ⟨m0, w0⟩, turn⟩ := q'
  refine wpAny_newObj_type (wpAny_newFunctionEnv S.nocell (by intro y hy; simp at hy) (fun ha hns hsb => ?_) S.kind)
  have I3 : Inv X pins σ (upd H2 s2.heap.objs.size (.dK [])) { s2 with heap := s2.heap.push { cls := .type "dict", data := .dict #[] } } :=
    I2.laid (t' := s2.toks) (fun b u e => Heap.get?_push_of_some _ e) (Nat.le_refl _) (dk_empty s2.heap I2.big)
  have hfl : ∀ b ∈ fp, b < s2.heap.objs.size := fun b hb => by
    obtain ⟨o, e, _⟩ := T.obj 0 _ st2 b hb
    exact Heap.lt_size e
  have f3 : ∀ b ∈ fp, FpOk X pins (upd H2 s2.heap.objs.size (.dK [])) b := fun b hb => ⟨by rw [upd_ne (Nat.ne_of_lt (hfl b hb))]; exact (f2 b hb).1, (f2 b hb).2⟩
  generalize hs3 : ({ s2 with heap := s2.heap.push { cls := .type "dict", data := .dict #[] } } : Shared) = s3 at *
  have hsz : s2.heap.objs.size < s3.heap.objs.size := by rw [← hs3]; show s2.heap.objs.size < (s2.heap.push _).objs.size; rw [Heap.size_push]; exact Nat.lt_succ_self _
  have kp : ∀ b o, s3.heap.get? b = some o → ha.get? b = some o := fun b o e => hsb.extBut b o (Nat.ne_of_lt (Heap.lt_size e)) (Heap.get?_push_of_some _ e)
  have st3 : tn 0 ha := T.keep 0 _ _ st2 fun b hb o e => kp b o (by rw [← hs3]; exact Heap.get?_push_of_some _ e)
  have I4 : Inv (cxC X N' sc s3 (upd H2 s2.heap.objs.size (.dK [])) fp (X.pn ++ pins)) [] (srcSt src σ) (upd H2 s2.heap.objs.size (.dK [])) { s3 with heap := ha, toks := s3.toks + ([] : List (Str × Value)).length } :=
    cx_start S I3 f3 (fun b hb => Nat.lt_trans (hfl b hb) hsz) hns kp
  have loop : codeAny (model X.prog X.w) X.A (.compLoop (.DictComp kx vx [⟨tg, iter, ifs, 0⟩] sc pos) 0 (.ref it) (.ref s2.heap.objs.size) (compEnvC sc (clOf X.env sc.names []) s3.heap.objs.size X.env))
      (compPost (model X.prog X.w) X.A X.xe use R (.ref s2.heap.objs.size) s3.heap.objs.size) { s3 with heap := ha, toks := s3.toks + ([] : List (Str × Value)).length } := by
    refine compd_loop (fun n s' => ∃ i σ' H', Inv (cxC X N' sc s3 (upd H2 s2.heap.objs.size (.dK [])) fp (X.pn ++ pins)) [] σ' H' s' ∧ tn i s'.heap ∧ (∀ b ∈ fp, H' b = none) ∧ W i n σ' H') ?_ m0 ⟨0, _, _, I4, st3, fun b hb => (f3 b hb).1, w0⟩
    rintro n s4 ⟨i, σ4, H4, J4, st4, fr4, w4⟩
    have stat : ∀ {H' : Hp}, (∀ b ∈ fp, H' b = none) → ∀ b ∈ fp, FpOk (cxC X N' sc s3 (upd H2 s2.heap.objs.size (.dK [])) fp (X.pn ++ pins)) [] H' b := fun hn b hb =>
      ⟨hn b hb, (I4.ok.exf b hb).1, I4.ok.exfs b hb, .inl hb, fun x c e => (I4.ok.exf b hb).2 x c e, fun p hp => (f3 b hb).2.2.2.2.2 p ((List.mem_append.mp hp).elim id fun z => by cases z)⟩
    rcases turn i n σ4 H4 w4 with ⟨stop, qn⟩ | ⟨go, N, hN, step⟩
    · refine thn (T.done (cxC X N' sc s3 (upd H2 s2.heap.objs.size (.dK [])) fp (X.pn ++ pins)) rfl rfl rfl hc i [] s4 σ4 H4 _ J4 (stat fr4) st4 stop) fun r s5 ⟨hr, J5⟩ => ?_
      subst hr
      exact fin s3 _ fp σ4 H4 s5 _ I3 f3 J5 qn
    · refine thn (T.item (cxC X N' sc s3 (upd H2 s2.heap.objs.size (.dK [])) fp (X.pn ++ pins)) rfl rfl rfl hc i [] s4 σ4 H4 _ J4 (stat fr4) st4 go) fun r s5 ⟨u, hr, h5⟩ => ?_
      subst hr
      refine thn h5 fun _ s6 ⟨x, H6, J6, r6, y6, st6, fr6⟩ => ?_
      have J6' := J6.pinned (stat fr6) (T.obj _ _ st6)
      have back : ∀ {pl : List (Addr × Obj)} {σ7 : St} {H7 : Hp} {s7 : Shared}, Inv (cxC X N' sc s3 (upd H2 s2.heap.objs.size (.dK [])) fp (X.pn ++ pins)) ([] ++ pinsAt fp s6.heap) σ7 H7 s7 → N σ7 H7 →
          ∃ m', m' < n ∧ ∃ i σ' H', Inv (cxC X N' sc s3 (upd H2 s2.heap.objs.size (.dK [])) fp (X.pn ++ pins)) [] σ' H' s7 ∧ tn i s7.heap ∧ (∀ b ∈ fp, H' b = none) ∧ W i m' σ' H' := fun {pl σ7 H7 s7} J7 w7 => by
        obtain ⟨m', hm, w7⟩ := hN _ _ w7
        have pinned : ∀ b ∈ fp, ∀ o, s6.heap.get? b = some o → s7.heap.get? b = some o ∧ H7 b = none := fun b hb o e => by
          have := J7.pin (b, o) (List.mem_append_right _ (List.mem_append_right _ (mem_pinsAt hb e)))
          exact ⟨this.1, this.2.1⟩
        refine ⟨m', hm, i + 1, σ7, H7, J7.unpinned, T.keep _ _ _ st6 fun b hb o e => (pinned b hb o e).1, fun b hb => ?_, w7⟩
        obtain ⟨o, e, _⟩ := T.obj _ _ st6 b hb
        exact (pinned b hb o e).2
      refine thn (hg s3 _ fp _ _ s6 σ4 H6 x u _ J6' r6 (step x H6 y6)) fun _ s7 ⟨σ7, H7, J7, q7⟩ => ?_
      refine thn (ht s3 _ fp _ _ s7 σ7 H7 _ J7 q7) fun ok s8 ⟨H8, J8, q8⟩ => ?_
      cases ok with
      | false =>
        rw [if_neg Bool.false_ne_true] at q8 ⊢
        exact back (pl := []) J8 q8
      | true =>
        rw [if_pos rfl] at q8 ⊢
        refine thn (hk s3 _ fp _ _ s8 σ7 H8 _ J8 q8) fun y s9 ⟨yv, H9, J9, r9, q9⟩ => ?_
        refine thn (hv s3 _ fp _ _ s9 σ7 H9 _ J9 q9) fun z s10 ⟨zv, H10, J10, r10, kvs, k, hl, ey, hz, q10⟩ => ?_
        subst ey
        refine d_dictSet (X := cxC X N' sc s3 (upd H2 s2.heap.objs.size (.dK [])) fp (X.pn ++ pins)) J10 hl hz r9 r10 fun s11 J11 => ?_
        exact back (pl := []) J11 q10
  exact codeAny_compStart_dict loop (T.self X.A 0 _ _ _ st3 loop)
theorem pe_dcomp {X : Cx} {N' : List Str} {src : List (Option Nat)} {sc : Scope} {kx vx tg iter : Expr} {ifs : List Expr} {pos : Pos} {wi : TI} {g : TG} {tt : TT} {tk tv : TE} (hc : X.calm = true) (S : CScope X N' src sc)
    (hi : PI X tg iter wi) (hg : ∀ s3 H3 fp pn, PG (cxC X N' sc s3 H3 fp pn) tg g) (ht : ∀ s3 H3 fp pn, PF (cxC X N' sc s3 H3 fp pn) ifs tt) (hk : ∀ s3 H3 fp pn, PE (cxC X N' sc s3 H3 fp pn) kx tk) (hv : ∀ s3 H3 fp pn, PE (cxC X N' sc s3 H3 fp pn) vx tv)
    (hs : ∀ x, foldedSetIterable iter X.env x = pure x := by intro _; rfl) : PE X (.DictComp kx vx [⟨tg, iter, ifs, 0⟩] sc pos) (tDComp wi src g tt tk tv) := by
  intro pins s σ H Q I h
  rw [arm_eval_DictComp]
  refine compd_core (use := none) hc S hi hg ht hk hv hs I h fun s3 H3 fp σ4 H4 s5 l I3 f3 J5 q => ?_
  obtain ⟨m, hn, _⟩ := J5.loc
  exact ⟨m, hn, fun h' sb => ⟨.ref l, H4, cx_end I3 f3 J5 sb, rfl, q⟩⟩
end L2

set_option Elab.async false
set_option linter.all false
set_option maxRecDepth 100000
set_option maxHeartbeats 4000000
/-! ### enumerate, over tuples and lists, from 0 or 1 -/
namespace PySem
open Sem (wp)
section
variable {prog : Program} {w : World} {A : Around} {E : Value → Shared → Prop} {s : Shared}
theorem nextOf_tup_item {it l : Addr} {i : Nat} {items : Array Value} {x : Value} {Q : Value → Shared → Prop} (hit : s.heap.IsTupleIter it l i) (hl : s.heap.IsTuple l items) (hx : items[i]? = some x)
    (hQ : ∀ h', h'.IsTupleIter it l (i + 1) → Heap.SameBut it s.heap h' → Q x { s with heap := h' }) : wpAny (model prog w) A (Builtin.SmallTypes.nextOf (.ref it)) Q E s := by
  obtain ⟨o, ho, hc, hd⟩ := id hit
  obtain ⟨ol, hol, _, nl, hdl⟩ := hl
  unfold Builtin.SmallTypes.nextOf
  refine wpAny_bind (wpAny_callSpecial?_slot (name := Str.ofString "__next__") hit.typeIs PyProof.Rows.slot_tupleiter_next (wpAny_call_entry PyProof.Rows.slot_tupleiter_next hit.typeIs PyProof.Rows.entry_tupleiter_next ?_ (PyProof.Rows.args_tupleiter_next _)))
  show wpAny _ _ (field (.ref it) 0 >>= _) _ _ s
  refine wpAny_bind (wpAny_field ho hd (x := .ref l) rfl ?_)
  show wpAny _ _ (if (Value.ref l == Value.none) = true then _ else _) _ _ s
  rw [if_neg (show ¬ ((Value.ref l == Value.none) = true) from Bool.false_ne_true)]
  show wpAny _ _ (field (.ref it) 1 >>= _) _ _ s
  refine wpAny_bind (wpAny_field ho hd (x := .int i 0) rfl ?_)
  show wpAny _ _ (seqItems? (.ref l) >>= _) _ _ s
  refine wpAny_bind (wpAny_seqItems hol hdl ?_)
  simp only [Int.toNat_natCast, hx]
  refine wpAny_bind (wpAny_setField ho hd (by simp) (wpAny_pure ⟨x, rfl, wpAny_pure (hQ _ ?_ (Heap.SameBut.update ..))⟩))
  exact ⟨_, Heap.get?_update_self _ ho (Obj.isFreed_of_fields (Obj.data_mapFields hd _)), (Obj.cls_mapFields ..).trans hc, by rw [Obj.data_mapFields hd]; simp [rawInt]⟩
theorem nextOf_tup_end {it l : Addr} {i : Nat} {items : Array Value} {Q : Value → Shared → Prop} (hh : A.handled = none) (hit : s.heap.IsTupleIter it l i) (hl : s.heap.IsTuple l items) (hx : items[i]? = none)
    (hE : ∀ h' e, Heap.ExtBut it s.heap h' → (∃ o, h'.get? e = some o ∧ o.cls = .type "StopIteration") → E (.ref e) { s with heap := h' }) : wpAny (model prog w) A (Builtin.SmallTypes.nextOf (.ref it)) Q E s := by
  obtain ⟨o, ho, hc, hd⟩ := id hit
  obtain ⟨ol, hol, _, nl, hdl⟩ := hl
  unfold Builtin.SmallTypes.nextOf
  refine wpAny_bind (wpAny_callSpecial?_slot (name := Str.ofString "__next__") hit.typeIs PyProof.Rows.slot_tupleiter_next (wpAny_call_entry PyProof.Rows.slot_tupleiter_next hit.typeIs PyProof.Rows.entry_tupleiter_next ?_ (PyProof.Rows.args_tupleiter_next _)))
  show wpAny _ _ (field (.ref it) 0 >>= _) _ _ s
  refine wpAny_bind (wpAny_field ho hd (x := .ref l) rfl ?_)
  show wpAny _ _ (if (Value.ref l == Value.none) = true then _ else _) _ _ s
  rw [if_neg (show ¬ ((Value.ref l == Value.none) = true) from Bool.false_ne_true)]
  show wpAny _ _ (field (.ref it) 1 >>= _) _ _ s
  refine wpAny_bind (wpAny_field ho hd (x := .int i 0) rfl ?_)
  show wpAny _ _ (seqItems? (.ref l) >>= _) _ _ s
  refine wpAny_bind (wpAny_seqItems hol hdl ?_)
  simp only [Int.toNat_natCast, hx]
  refine wpAny_bind (wpAny_rule (wpAny_bind (wpAny_setField ho hd (by simp) ?_)))
  show wpAny _ _ (newExc (.type "StopIteration") [] >>= _) _ _ _
  refine wpAny_bind ?_
  simp only [newExc, newTuple]
  refine wpAny_bind (wpAny_newObj_type ?_ (by size_fits))
  refine wpAny_bind (m := firstArgMember _ _) (wpAny_of_eq (a := Value.none) (by first | rfl | (simp only [firstArgMember]; rfl)) ?_)
  refine wpAny_newObj_type ?_ (by size_fits)
  simp only [raiseNew]
  refine wpAny_bind (wpAny_handled ?_)
  first | rw [show A.in1.handled = none from hh] | rw [hh]
  refine wpAny_bind (wpAny_pure (wpAny_throw ?_))
  exact hE _ _ (((Heap.SameBut.update ..).extBut.push _).push _) ⟨_, Heap.get?_push_size _ rfl, rfl⟩
end
theorem Draws.tup {prog : Program} {w : World} {A : Around} (hh : A.handled = none) (it l : Addr) (hne : l ≠ it) (items : Array Value) :
    Draws prog w A it [it, l] items.size (fun i v => items[i]? = some v) (fun i h => h.IsTupleIter it l i ∧ h.IsTuple l items) where
  live := fun _ _ st => let ⟨o, ho, _⟩ := st.1; ⟨o, ho⟩
  frame := fun _ _ _ st hk => ⟨st.1.at fun o e => hk it (by simp) o e, let ⟨o, e, r⟩ := st.2; ⟨o, hk l (by simp) o e, r⟩⟩
  item := fun i s Q E hi st hQ => nextOf_tup_item st.1 st.2 (x := items[i]) (by simp [hi]) fun h' hit' hs' => hQ _ h' s.toks (by simp [hi]) ⟨hit', let ⟨o, e, r⟩ := st.2; ⟨o, hs'.extBut _ _ hne e, r⟩⟩ hs'
  done := fun s Q E st hE => nextOf_tup_end hh st.1 st.2 (by simp) hE
/-- the same, counted from k on -/
theorem Draws.from {prog : Program} {w : World} {A : Around} {it : Addr} {fp : List Addr} {n : Nat} {P : Nat → Value → Prop} {St : Nat → Heap → Prop} (D : Draws prog w A it fp n P St) (k : Nat) :
    Draws prog w A it fp (k + n) (fun j v => ∃ i, j = k + i ∧ P i v) (fun j h => ∃ i, j = k + i ∧ i ≤ n ∧ St i h) where
  live := fun _ _ ⟨i, _, _, st⟩ => D.live i _ st
  frame := fun _ _ _ ⟨i, e, hi, st⟩ hk => ⟨i, e, hi, D.frame i _ _ st hk⟩
  item := fun j s Q E hj ⟨i, e, hi, st⟩ hQ => D.item i s Q E (by omega) st fun x h' tk p st' sb => hQ x h' tk ⟨i, e, p⟩ ⟨i + 1, by omega, by omega, st'⟩ sb
  done := fun s Q E ⟨i, e, hi, st⟩ hE => by
    have : i = n := by omega
    subst this
    exact D.done s Q E st hE
end PySem
namespace L2
open PySem PySem.Spec PyProof.Rows
section
variable {X : Cx} {pins : List (Addr × Obj)} {σ : St} {H : Hp} {s : Shared} {h' : Heap}
/-- untracked records of ours at fp have turned, and a new object is laid at t -/
theorem Inv.turnedNew {t' : Nat} {fp : List Addr} {t : Addr} {o : HO} (I : Inv X pins σ H s) (ht : s.heap.objs.size ≤ t) (k : ∀ b u, b ∉ fp → s.heap.get? b = some u → h'.get? b = some u) (hf : ∀ b ∈ fp, FpOk X pins H b) (new : ObjOk X.prog X.w (upd H t o) h' t o) :
    Inv X pins σ (upd H t o) { s with heap := h', toks := t' } := by
  have nt := I.hok.fresh ht
  have old : ∀ b u, s.heap.get? b = some u → b ≠ t := fun b u e z => absurd (Nat.lt_of_lt_of_le (Heap.lt_size e) ht) (by rw [z]; exact Nat.lt_irrefl _)
  have nf : ∀ b u, H b = some u → b ∉ fp := fun b u e z => by rw [(hf b z).1] at e; cases e
  have tr : ∀ b u, H b = some u → (upd H t o) b = some u := fun b u e => by rw [upd_ne (ne_of_none e nt)]; exact e
  refine I.step (g' := s.gens) (d' := s.drawn) (ch := fp) (fun b hb => ?_) (fun b u _ _ hc e _ => k b u hc e) (fun b u _ _ hc e _ => ⟨u.slots, k b u hc e⟩) (fun b u hc e n => by rw [upd_ne (old b u e)]; exact n)
    (fun b u hc e => ⟨u, k b u hc e⟩) (fun _ _ e => tr _ _ e) (fun _ _ _ e => tr _ _ e) (fun b ps e => ⟨#[], by rw [tr _ _ e]; simp⟩) (fun m hm => ?_) (fun b u e => ?_) I.bare
  · obtain ⟨_, f1, _, f3, f4, f5⟩ := hf b hb
    exact ⟨f3, f1, f4, f5⟩
  · obtain ⟨u, es, ep, hu, r⟩ := hm
    exact ⟨u, es, ep, k _ u (fun z => (hf _ z).2.1 rfl) hu, r⟩
  · by_cases hb : b = t
    · subst hb
      rw [upd_same] at e
      cases e
      exact new
    · rw [upd_ne hb] at e
      refine (I.hok b u e).stay (fun c v hc q => k c v ?_ q) (fun c q => tr _ _ q) fun c xs q => tr _ _ q
      rcases hc with z | z
      · rw [z]; exact nf b u e
      · exact nf c _ z
theorem Inv.turnedL {t' : Nat} {fp : List Addr} (I : Inv X pins σ H s) (k : ∀ b u, b ∉ fp → s.heap.get? b = some u → h'.get? b = some u) (hf : ∀ b ∈ fp, FpOk X pins H b) : Inv X pins σ H { s with heap := h', toks := t' } := by
  have nf : ∀ b u, H b = some u → b ∉ fp := fun b u e z => by rw [(hf b z).1] at e; cases e
  refine I.step (g' := s.gens) (d' := s.drawn) (ch := fp) (fun b hb => ?_) (fun b u _ _ hc e _ => k b u hc e) (fun b u _ _ hc e _ => ⟨u.slots, k b u hc e⟩) (fun b u hc e n => n)
    (fun b u hc e => ⟨u, k b u hc e⟩) (fun _ _ e => e) (fun _ _ _ e => e) (fun b ps e => ⟨#[], by rw [e]; simp⟩) (fun m hm => ?_) (fun b u e => ?_) I.bare
  · obtain ⟨_, f1, _, f3, f4, f5⟩ := hf b hb
    exact ⟨f3, f1, f4, f5⟩
  · obtain ⟨u, es, ep, hu, r⟩ := hm
    exact ⟨u, es, ep, k _ u (fun z => (hf _ z).2.1 rfl) hu, r⟩
  · refine (I.hok b u e).stay (fun c v hc q => k c v ?_ q) (fun _ q => q) fun _ _ q => q
    rcases hc with z | z
    · rw [z]; exact nf b u e
    · exact nf c _ z
end
end L2

set_option Elab.async false
set_option linter.all false
set_option maxRecDepth 100000
set_option maxHeartbeats 1000000

/-! ### any, sum, max of a tuple; numbers of many figures -/
namespace L2
open PySem PySem.Spec PyProof.Rows
section
variable {X : Cx}

/-! numbers of up to 8,000 binary figures -/
def CBig (i j : Int) : Prop := i.natAbs < 2 ^ 8000 ∧ j.natAbs < 2 ^ 8000
theorem bits_big {k : Int} (h : k.natAbs < 2 ^ 8000) : Builtin.Int.intBits k ≤ 8000 := by
  unfold Builtin.Int.intBits
  split
  · exact Nat.zero_le _
  · rcases Nat.eq_zero_or_pos k.natAbs with h0 | hp
    · rw [h0]; decide
    · have := (Nat.log2_lt (Nat.ne_of_gt hp)).mpr h
      omega
theorem CBig.ok {i j : Int} (h : CBig i j) : IntMulOk i j := by
  have h1 := bits_big h.1
  have h2 := bits_big h.2
  unfold IntMulOk
  have e : Builtin.Int.intTooBig (Builtin.Int.intBits i + Builtin.Int.intBits j) = false := by
    unfold Builtin.Int.intTooBig
    rw [bitsLine_eq]
    exact decide_eq_false (by omega)
  rw [e, Bool.and_false]
  exact Bool.false_ne_true
end
end L2

set_option Elab.async false
set_option linter.all false
set_option maxRecDepth 100000
set_option maxHeartbeats 1000000

/-! ### list(range(a, b)) -/
namespace L2
open PySem PySem.Spec PyProof.Rows
section
variable {X : Cx}
def tLstRange (ta : TA) : TE := fun σ H Q => ta σ H fun vs H1 => ∃ i j : Int, vs = [.int i, .int j] ∧ (-(2 ^ 62) ≤ i ∧ i < 2 ^ 62 ∧ -(2 ^ 62) ≤ j ∧ j < 2 ^ 62) ∧ (j - i).toNat ≤ 1000 ∧ ∀ p, H1 p = none → Q (.ref p) (upd H1 p (.lst ((List.range (j - i).toNat).map fun k : Nat => V.int (i + k))))
theorem pe_lstrange2 {a b : Expr} {ta : TA} {p q pos pos2 : Pos} (hc : X.calm = true) (hgt : Gl X "list") (hmt : X.mg "list" = none) (hg : Gl X "range") (hm : X.mg "range" = none) (ha : PA X [a, b] ta)
    (hs : starEach [a, b] X.env = [(false, eval a X.env), (false, eval b X.env)] := by rfl) (hs2 : starEach [b] X.env = [(false, eval b X.env)] := by rfl)
    (hs0 : starEach [.Call (.Name "range" p) [a, b] [] pos] X.env = [(false, eval (.Call (.Name "range" p) [a, b] [] pos) X.env)] := by rfl) :
    PE X (.Call (.Name "list" q) [.Call (.Name "range" p) [a, b] [] pos] [] pos2) (tLstRange ta) := by
  intro pins s σ H Q I h
  have inner : wpAny (model X.prog X.w) X.A (eval (.Call (.Name "range" p) [a, b] [] pos) X.env) (fun v s1 => ∃ (H1 : Hp) (i j : Int) (r : Addr) (t u w : Tok), v = .ref r ∧ Inv X pins σ H1 s1 ∧ IsRange s1.heap r i j 1 t u w ∧ (-(2 ^ 62) ≤ i ∧ i < 2 ^ 62 ∧ -(2 ^ 62) ≤ j ∧ j < 2 ^ 62) ∧ (j - i).toNat ≤ 1000 ∧
      ∀ p, H1 p = none → Q (.ref p) (upd H1 p (.lst ((List.range (j - i).toNat).map fun k : Nat => V.int (i + k))))) X.xe s := by
    refine Call_ (ld_blt I hg hm boot_range (PyProof.Rows.callWith_type1 (thn (ha pos pins s σ H _ I h) fun us s1 ⟨vs, H1, I1, r1, q1⟩ => ?_) (by rw [hs, hs2]) (by rw [hs2]; rfl)))
    obtain ⟨i, j, e, hb, hn, q⟩ := q1
    subst e
    cases r1 with
    | cons r rr =>
      cases rr with
      | cons r' rr =>
        cases rr
        obtain ⟨t, rfl⟩ := r
        obtain ⟨t', rfl⟩ := r'
        refine call_range_2 ⟨H1, i, j, _, t, t', _, rfl, I1.kept (t' := s1.toks + 1) fun b o e => Heap.get?_push_of_some _ e, IsRange.new .., hb, hn, q⟩
  refine Call_ (ld_blt I hgt hmt (u := .type "list") (by decide +kernel) (PyProof.Rows.callWith_type1 (Q := EP X pins σ Q) ?_ hs0 rfl))
  rw [hs0]
  show wpAny _ _ (spliced ((false, eval (.Call (.Name "range" p) [a, b] [] pos) X.env) :: backTo pos2 [])) _ _ s
  refine Calls.spliced_cons (thn inner fun v s1 ⟨H1, i, j, r, t, u, w, e, I1, hr, ⟨b1, b2, b3, b4⟩, hn, q⟩ => ?_)
  subst e
  refine Calls.spliced_nil ?_
  have hrs : Builtin.Range.rangeSize i j 1 = (((j - i).toNat : Nat) : Int) := by rw [rangeSize_one]; split <;> omega
  refine call_list_range (I1.ok.hd hc) hr (small_one b1 b2 b3 b4) hrs (by omega) fun h' tk acc c' hk hS hacc => ?_
  have rv := vals_items hacc
  have I3 : Inv X pins σ (upd H1 s1.heap.objs.size (.lst ((List.range (j - i).toNat).map fun k : Nat => V.int (i + k)))) { s1 with heap := h', toks := tk } :=
    I1.laid (t' := tk) hk (Nat.le_refl _) (show ObjOk X.prog X.w _ _ _ (.lst _) from ⟨by rw [List.length_map, List.length_range]; exact Nat.le_of_lt (small1000 hn), acc.toList, c', rv, by simpa using hS⟩)
  exact ⟨.ref s1.heap.objs.size, _, I3, rfl, q _ (I1.hok.fresh (Nat.le_refl _))⟩
end
end L2

set_option Elab.async false
set_option linter.all false
set_option maxRecDepth 100000
set_option maxHeartbeats 1000000
set_option pp.maxSteps 400
/-! ### zip, of any number of lists and tuples -/
namespace PySem.ZZ
open PySem
section
variable {prog : Program} {w : World} {A : Around} {E : Value → Shared → Prop} {s : Shared}
/-- an iterator that stands at the i-th of a list or a tuple -/
structure Src where
  it : Addr
  a : Addr
  items : Array Value
def SrcAt (h : Heap) (x : Src) (i : Nat) : Prop := (h.IsListIter x.it x.a i ∧ h.IsList x.a x.items) ∨ (h.IsTupleIter x.it x.a i ∧ h.IsTuple x.a x.items)
theorem SrcAt.keep {h h' : Heap} {x : Src} {i : Nat} (q : SrcAt h x i) (k1 : ∀ o, h.get? x.it = some o → h'.get? x.it = some o) (k2 : ∀ o, h.get? x.a = some o → h'.get? x.a = some o) : SrcAt h' x i := by
  rcases q with ⟨q1, q2⟩ | ⟨q1, o, e, r⟩
  · exact .inl ⟨q1.at k1, q2.at k2⟩
  · exact .inr ⟨q1.at k1, o, k2 o e, r⟩
theorem SrcAt.ne {h : Heap} {x : Src} {i : Nat} (q : SrcAt h x i) : x.a ≠ x.it := fun z => by
  rcases q with ⟨⟨o, e, c, _⟩, ⟨o', e', c', _⟩⟩ | ⟨⟨o, e, c, _⟩, ⟨o', e', c', _⟩⟩
  · rw [z, e] at e'; cases e'; rw [c] at c'; injection c' with y; exact absurd y (by decide)
  · rw [z, e] at e'; cases e'; rw [c] at c'; injection c' with y; exact absurd y (by decide)
theorem SrcAt.ex {h : Heap} {x : Src} {i : Nat} (q : SrcAt h x i) : (∃ o, h.get? x.it = some o) ∧ ∃ o, h.get? x.a = some o := by
  rcases q with ⟨⟨o, e, _⟩, ⟨o', e', _⟩⟩ | ⟨⟨o, e, _⟩, ⟨o', e', _⟩⟩
  · exact ⟨⟨o, e⟩, o', e'⟩
  · exact ⟨⟨o, e⟩, o', e'⟩
abbrev IsZ (h : Heap) (z TI TO : Addr) (f0 f1 : Value) : Prop := h.get? z = some { cls := .type "zip", dict := none, data := .fields #[f0, f1, .bool false, .ref TI, .ref TO], slots := #[] }
abbrev IsTu (h : Heap) (T : Addr) (xs : List Value) : Prop := h.get? T = some { cls := .type "tuple", data := .seq xs.toArray }
structure Apart (z TI TO : Addr) (ls : List Src) : Prop where
  TIz : TI ≠ z
  TOz : TO ≠ z
  TITO : TI ≠ TO
  it : ∀ x ∈ ls, x.it ≠ z ∧ x.it ≠ TI ∧ x.it ≠ TO
  a : ∀ x ∈ ls, x.a ≠ z ∧ x.a ≠ TO
  ai : ∀ x ∈ ls, ∀ y ∈ ls, x.a ≠ y.it
  nd : (ls.map (·.it)).Nodup
/-- what zip's turn leaves as it is -/
def Rest (z TO : Addr) (ls : List Src) (h h' : Heap) : Prop := ∀ c o, c ≠ z → c ≠ TO → c ∉ ls.map (·.it) → h.get? c = some o → h'.get? c = some o
end
end PySem.ZZ

set_option Elab.async false
set_option linter.all false
set_option maxRecDepth 100000
set_option maxHeartbeats 1000000
set_option pp.maxSteps 400
/-! ### zip(a, b), zip(a, b, c) are made -/
namespace PySem
namespace F
end F
end PySem
namespace PySem.ZZ
open PySem
def SeqK (h : Heap) (a : Addr) (xs : Array Value) (c : String) : Prop := (c = "list_iterator" ∧ h.IsList a xs) ∨ (c = "tuple_iterator" ∧ h.IsTuple a xs)
theorem SeqK.src {h h' : Heap} {a it : Addr} {xs : Array Value} {c : String} (q : SeqK h a xs c) (k : ∀ o, h.get? a = some o → h'.get? a = some o) (e : h'.get? it = some { cls := .type c, data := .fields #[.ref a, .int 0 0] }) : SrcAt h' ⟨it, a, xs⟩ 0 := by
  rcases q with ⟨rfl, q⟩ | ⟨rfl, o, ho, r⟩
  · exact .inl ⟨⟨_, e, rfl, rfl⟩, q.at k⟩
  · exact .inr ⟨⟨_, e, rfl, rfl⟩, o, k o ho, r⟩
theorem SeqK.lt {h : Heap} {a : Addr} {xs : Array Value} {c : String} (q : SeqK h a xs c) : a < h.objs.size := by
  rcases q with ⟨rfl, o, e, _⟩ | ⟨rfl, o, e, _⟩
  · exact Heap.lt_size e
  · exact Heap.lt_size e
abbrev itO (c : String) (l : Addr) : Obj := { cls := .type c, data := .fields #[.ref l, .int 0 0] }
abbrev tuO (xs : Array Value) : Obj := { cls := .type "tuple", data := .seq xs }
abbrev z2a (h : Heap) (c1 c2 : String) (l1 l2 : Addr) : Heap := ((((h.push (itO c1 l1)).push (itO c2 l2)).push (tuO #[.ref h.objs.size, .ref (h.push (itO c1 l1)).objs.size])).push (tuO #[.none, .none]))
abbrev z2 (h : Heap) (c1 c2 : String) (l1 l2 : Addr) : Heap := (z2a h c1 c2 l1 l2).push
  { cls := .type "zip", data := .fields #[.none, .bool false, .bool false, .ref ((h.push (itO c1 l1)).push (itO c2 l2)).objs.size, .ref (((h.push (itO c1 l1)).push (itO c2 l2)).push (tuO #[.ref h.objs.size, .ref (h.push (itO c1 l1)).objs.size])).objs.size] }
abbrev z3a (h : Heap) (c1 c2 c3 : String) (l1 l2 l3 : Addr) : Heap := (((((h.push (itO c1 l1)).push (itO c2 l2)).push (itO c3 l3)).push (tuO #[.ref h.objs.size, .ref (h.push (itO c1 l1)).objs.size, .ref ((h.push (itO c1 l1)).push (itO c2 l2)).objs.size])).push (tuO #[.none, .none, .none]))
abbrev z3 (h : Heap) (c1 c2 c3 : String) (l1 l2 l3 : Addr) : Heap := (z3a h c1 c2 c3 l1 l2 l3).push
  { cls := .type "zip", data := .fields #[.none, .bool false, .bool false, .ref (((h.push (itO c1 l1)).push (itO c2 l2)).push (itO c3 l3)).objs.size, .ref ((((h.push (itO c1 l1)).push (itO c2 l2)).push (itO c3 l3)).push (tuO #[.ref h.objs.size, .ref (h.push (itO c1 l1)).objs.size, .ref ((h.push (itO c1 l1)).push (itO c2 l2)).objs.size])).objs.size] }
/-- a zip that is new -/
structure Fresh (h : Heap) (z TI TO : Addr) (ls : List Src) (h' : Heap) : Prop where
  hz : IsZ h' z TI TO .none (.bool false)
  hTI : IsTu h' TI (ls.map fun x => .ref x.it)
  hTO : IsTu h' TO (ls.map fun _ => .none)
  at_ : ∀ x ∈ ls, SrcAt h' x 0
  ap : Apart z TI TO ls
  new : h.objs.size ≤ z ∧ h.objs.size ≤ TI ∧ h.objs.size ≤ TO ∧ ∀ x ∈ ls, h.objs.size ≤ x.it
  keep : ∀ c o, h.get? c = some o → h'.get? c = some o
section
variable {prog : Program} {w : World} {A : Around} {E : Value → Shared → Prop} {s : Shared}
end
end PySem.ZZ

set_option Elab.async false
set_option linter.all false
set_option maxRecDepth 100000
set_option maxHeartbeats 1000000
set_option pp.maxSteps 400
/-! ### tuple(zip(..)), list(zip(..)) -/
namespace PySem
namespace F
end F
end PySem
namespace PySem.ZZ
open PySem
section
variable {prog : Program} {w : World} {A : Around} {E : Value → Shared → Prop} {s : Shared}
/-- a zip drawn from i times: the tuples told stand at ts -/
structure Run (hb : Heap) (z TI TO : Addr) (ls : List Src) (rows : Nat → List Value) (S : Addr) (ts : List Addr) (h : Heap) : Prop where
  inc : ts.Pairwise (· < ·)
  lo : ∀ t ∈ ts, S < t ∧ t < h.objs.size
  at_ : ∀ j t, ts[j]? = some t → IsTu h t (rows j)
  keep : ∀ c o, hb.get? c = some o → h.get? c = some o
  hTI : IsTu h TI (ls.map fun x => .ref x.it)
  hTO : ∃ olds, IsTu h TO olds ∧ olds.length = ls.length
  src : ∀ x ∈ ls, SrcAt h x ts.length
  hz : (ts = [] ∧ IsZ h z TI TO .none (.bool false)) ∨ ∃ (T : Addr) (f1 : Value), ts[0]? = some T ∧ IsZ h z TI TO (rawInt T) f1
/-- the addresses that are there ahead of S -/
structure Below (hb : Heap) (z TI TO : Addr) (ls : List Src) (S : Addr) : Prop where
  ap : Apart z TI TO ls
  old : hb.objs.size ≤ z ∧ hb.objs.size ≤ TI ∧ hb.objs.size ≤ TO ∧ ∀ x ∈ ls, hb.objs.size ≤ x.it
  lz : z < S
  lTI : TI < S
  lTO : TO < S
  it : ∀ x ∈ ls, x.it < S ∧ x.a < S
  base : hb.objs.size ≤ S
theorem Run.frame {hb : Heap} {z TI TO : Addr} {ls : List Src} {rows : Nat → List Value} {S : Addr} {ts : List Addr} {h h' : Heap} (B : Below hb z TI TO ls S) (r : Run hb z TI TO ls rows S ts h) (hs : h'.objs.size = h.objs.size) (k : ∀ c o, c ≠ S → h.get? c = some o → h'.get? c = some o) : Run hb z TI TO ls rows S ts h' := by
  obtain ⟨olds, o1, o2⟩ := r.hTO
  refine ⟨r.inc, fun t ht => by rw [hs]; exact r.lo t ht, fun j t e => k _ _ (Nat.ne_of_gt (r.lo t (List.mem_of_getElem? e)).1) (r.at_ j t e), fun c o e => k _ _ (Nat.ne_of_lt (Nat.lt_of_lt_of_le (Heap.lt_size e) B.base)) (r.keep c o e), k _ _ (Nat.ne_of_lt B.lTI) r.hTI, ⟨olds, k _ _ (Nat.ne_of_lt B.lTO) o1, o2⟩, fun x hx => ?_, ?_⟩
  · exact (r.src x hx).keep (fun o e => k _ _ (Nat.ne_of_lt (B.it x hx).1) e) (fun o e => k _ _ (Nat.ne_of_lt (B.it x hx).2) e)
  · rcases r.hz with ⟨e, q⟩ | ⟨T, f1, e, q⟩
    · exact .inl ⟨e, k _ _ (Nat.ne_of_lt B.lz) q⟩
    · exact .inr ⟨T, f1, e, k _ _ (Nat.ne_of_lt B.lz) q⟩
theorem Run.more {hb : Heap} {z TI TO : Addr} {ls : List Src} {rows : Nat → List Value} {S : Addr} {ts : List Addr} {h h' : Heap} (B : Below hb z TI TO ls S) (r : Run hb z TI TO ls rows S ts h) (hS : S < h.objs.size) (hs : h'.objs.size = h.objs.size + 1) (hr : Rest z TO ls h h')
    (hTI : IsTu h' TI (ls.map fun x => .ref x.it)) (hTO : ∃ olds, IsTu h' TO olds ∧ olds.length = ls.length) (src : ∀ x ∈ ls, SrcAt h' x (ts.length + 1)) (new : IsTu h' h.objs.size (rows ts.length)) (hz : ∃ (T : Addr) (f1 : Value), (ts ++ [h.objs.size])[0]? = some T ∧ IsZ h' z TI TO (rawInt T) f1) : Run hb z TI TO ls rows S (ts ++ [h.objs.size]) h' := by
  have fr : ∀ t, S < t → t ≠ z ∧ t ≠ TO ∧ t ∉ ls.map (·.it) := fun t ht => ⟨fun e => by rw [e] at ht; exact Nat.lt_asymm ht B.lz, fun e => by rw [e] at ht; exact Nat.lt_asymm ht B.lTO, fun e => by
    obtain ⟨x, hx, e'⟩ := List.mem_map.mp e
    rw [← e'] at ht
    exact Nat.lt_asymm ht (B.it x hx).1⟩
  refine ⟨?_, fun t ht => ?_, fun j t e => ?_, fun c o e => ?_, hTI, hTO, fun x hx => by rw [List.length_append]; exact src x hx, .inr hz⟩
  · exact List.pairwise_append.mpr ⟨r.inc, List.pairwise_singleton _ _, fun a ha b hb' => by
      have : b = h.objs.size := by simpa using hb'
      rw [this]
      exact (r.lo a ha).2⟩
  · rw [hs]
    rcases List.mem_append.mp ht with ht | ht
    · have := r.lo t ht; exact ⟨this.1, Nat.lt_succ_of_lt this.2⟩
    · have : t = h.objs.size := by simpa using ht
      rw [this]
      exact ⟨hS, Nat.lt_succ_self _⟩
  · by_cases c : j < ts.length
    · rw [List.getElem?_append_left c] at e
      have hlo := r.lo t (List.mem_of_getElem? e)
      obtain ⟨f1, f2, f3⟩ := fr t hlo.1
      exact hr t _ f1 f2 f3 (r.at_ j t e)
    · rw [List.getElem?_append_right (Nat.le_of_not_lt c)] at e
      have hj : j - ts.length = 0 := by
        have := (List.getElem?_eq_some_iff.mp e).1
        rw [List.length_singleton] at this
        omega
      rw [hj] at e
      cases e
      have : j = ts.length := by omega
      rw [this]
      exact new
  · have hlt := Heap.lt_size e
    refine hr c o (fun q => ?_) (fun q => ?_) (fun q => ?_) (r.keep c o e)
    · rw [q] at hlt; exact absurd hlt (Nat.not_lt.mpr B.old.1)
    · rw [q] at hlt; exact absurd hlt (Nat.not_lt.mpr B.old.2.2.1)
    · obtain ⟨x, hx, e'⟩ := List.mem_map.mp q
      rw [← e'] at hlt
      exact absurd hlt (Nat.not_lt.mpr (B.old.2.2.2 x hx))
end
end PySem.ZZ

set_option Elab.async false
set_option linter.all false
set_option maxRecDepth 100000
set_option maxHeartbeats 1000000
set_option pp.maxSteps 400
namespace PySem.ZZ
open PySem
section
variable {prog : Program} {w : World} {A : Around} {E : Value → Shared → Prop} {s : Shared}
/-- what is drawn from a zip: so many rows -/
structure Rows (ls : List Src) (n : Nat) (rows : Nat → List Value) : Prop where
  row : ∀ j, j < n → (rows j).length = ls.length ∧ ∀ (k : Nat) (x : Src), ls[k]? = some x → ∃ v, (rows j)[k]? = some v ∧ x.items[j]? = some v
  stop : ∃ x ∈ ls, x.items[n]? = none
  ne : ls ≠ []
  few : ls.length ≤ 100
  most : n ≤ 1000
theorem Fresh.below {hb h : Heap} {z TI TO : Addr} {ls : List Src} (f : Fresh hb z TI TO ls h) (hs : hb.objs.size ≤ h.objs.size) : Below hb z TI TO ls h.objs.size :=
  ⟨f.ap, f.new, Heap.lt_size f.hz, Heap.lt_size f.hTI, Heap.lt_size f.hTO, fun x hx => let ⟨⟨_, e1⟩, _, e2⟩ := (f.at_ x hx).ex; ⟨Heap.lt_size e1, Heap.lt_size e2⟩, hs⟩
end
end PySem.ZZ

set_option Elab.async false
set_option linter.all false
set_option maxRecDepth 100000
set_option maxHeartbeats 1000000
/-! ### data that the heap or the text's own constants hold, and its equality; tuple targets within a comprehension -/
namespace L2
open PySem PySem.Spec PyProof.Rows
mutual
inductive RepK (K : PySem.W.Frag) (H : Hp) : V → PyData → Prop
  | non : RepK K H .non .none
  | bl (b : Bool) : RepK K H (.bl b) (.bool b)
  | int (i : Int) : RepK K H (.int i) (.int i)
  | str (x : Str) : RepK K H (.str x) (.str x)
  | tup {a : Addr} {xs : List V} {ds : List PyData} : SqT K H a xs → RepsK K H xs ds → RepK K H (.ref a) (.tuple ds)
inductive RepsK (K : PySem.W.Frag) (H : Hp) : List V → List PyData → Prop
  | nil : RepsK K H [] []
  | cons {x : V} {d : PyData} {xs : List V} {ds : List PyData} : RepK K H x d → RepsK K H xs ds → RepsK K H (x :: xs) (d :: ds)
end
section
variable {X : Cx} {pins : List (Addr × Obj)} {σ : St} {H : Hp} {s : Shared}
mutual
theorem RepK.reads (I : Inv X pins σ H s) : ∀ {v : V} {d : PyData} {u : Value}, RepK X.K H v d → RelV v u → ∃ as, Reads s.heap u d as
  | _, _, _, .non, r => by cases (show _ = Value.none from r); exact ⟨_, .none⟩
  | _, _, _, .bl b, r => by cases (show _ = Value.bool b from r); exact ⟨_, .bool b⟩
  | _, _, _, .int i, r => by obtain ⟨t, rfl⟩ := (show ∃ t, _ = Value.int i t from r); exact ⟨_, .int i t⟩
  | _, _, _, .str x, r => by obtain ⟨t, rfl⟩ := (show ∃ t, _ = Value.str x t from r); exact ⟨_, .str x t⟩
  | _, _, _, .tup (a := a) (xs := xs) e q, r => by
    cases (show _ = Value.ref a from r)
    obtain ⟨its, rv, ⟨o, ho, hc, n, hd⟩, _⟩ := I.tuple e
    obtain ⟨as, z⟩ := RepsK.reads I q rv
    exact ⟨_, .tuple ho hc hd (by simpa using z)⟩
theorem RepsK.reads (I : Inv X pins σ H s) : ∀ {xs : List V} {ds : List PyData} {us : List Value}, RepsK X.K H xs ds → Vals xs us → ∃ as, ReadsAll s.heap us ds as
  | _, _, _, .nil, .nil => ⟨_, .nil⟩
  | _, _, _, .cons p q, .cons r t => by
    obtain ⟨as, a1⟩ := RepK.reads I p r
    obtain ⟨bs, b1⟩ := RepsK.reads I q t
    exact ⟨_, .cons a1 b1⟩
end
end
section
variable {X : Cx} {K : PySem.W.Frag}
theorem pg_tupK {es : List Expr} {k : Nat} {pos : Pos} {t : TGs} {n : Nat} (hK : X.K = K) (hc : X.calm = true) (h : PGs X es t)
    (hn : (assignEach es X.env).length = n := by rfl) (hst : (assignEach es X.env).findIdx? (·.1) = none := by rfl) : PG X (.Tuple es k pos) (gTup K n t) := hK ▸ pg_tup hc h hn hst
end
end L2

set_option Elab.async false
set_option linter.all false
set_option maxRecDepth 100000
set_option maxHeartbeats 4000000

/-! ### own exception classes: isinstance of an exception -/
namespace L2
open PySem PySem.Spec PyProof.Rows
/-- the classes above ValueError -/
abbrev veMro : List Value := [.type "ValueError", .type "Exception", .type "BaseException", .type "object"]
/-- what the fragment says of an own exception class under ValueError -/
structure XCl (K : PySem.W.Frag) (C : Addr) : Prop where
  ex : PySem.W.excIn K C veMro "ValueError.__new__" = true
  ga : PySem.W.findIn K (.ref C) "__getattribute__" = some (some (.builtin "BaseException.__getattribute__"))
  gn : PySem.W.findIn K (.ref C) "__getattr__" = some none
  ca : PySem.W.findIn K (.ref C) "__class__" = some (some (.builtin "object.__class__"))
  mo : PySem.W.subIn K (.ref C) (.type "object") = some true
  mb : PySem.W.subIn K (.ref C) (.type "BaseException") = some true
  kp : PySem.W.keepIn K (.ref C) = true
section
variable {K : PySem.W.Frag} {C : Addr}
theorem XCl.look (T : XCl K C) : ∃ dd cd sl, K.lookup C = some ⟨.type "type", dd, .cls cd, sl⟩ := by
  have q := T.ex
  unfold PySem.W.excIn at q
  split at q
  · rename_i dd cd sl ho
    exact ⟨dd, cd, sl, ho⟩
  · cases q
/-- the class as the library's rules want it -/
theorem XCl.obj (T : XCl K C) {h : Heap} (X : K.In h) : ∃ bm N nm q bs hdct sn sub ab col dd k0 k1 k2 k3 k5 mN, h.get? C = some (excClassObj nm q C N bs bm hdct sn sub ab col dd k0 k1 k2 k3 k5 "ValueError.__new__") ∧ h.Ns N mN ∧ mN "__init__" = none ∧ OwnTail h veMro bm := by
  have q := T.ex
  unfold PySem.W.excIn at q
  split at q
  · rename_i dd cd sl ho
    split at q
    · rename_i C' bm k0 k1 k2 k3 n k5 hm hs
      simp only [Bool.and_eq_true, beq_iff_eq, Bool.not_eq_true'] at q
      obtain ⟨⟨⟨⟨⟨rfl, rfl⟩, hdel⟩, ht⟩, hok⟩, hni⟩ := q
      obtain ⟨nm, bs, mro, ns, qn, hd, sn, sub, ab, col, del⟩ := cd
      dsimp only at hm hdel hok hni
      subst hm hdel
      have hsl : sl = #[k0, k1, k2, k3, some (.builtin "ValueError.__new__"), k5] := by
        obtain ⟨l⟩ := sl
        simp only at hs
        rw [hs]
      subst hsl
      exact ⟨bm, ns, nm, qn, bs, hd, sn, sub, ab, col, dd, k0, k1, k2, k3, k5, _, X _ _ ho, .of_isNs (PySem.W.isNs_of_in X hok), PySem.W.nsMap_none_of_in X hok hni, PySem.W.tail_of_in X ht⟩
    · cases q
  · cases q
end
/-- an exception of the class at C, without context, lies at a -/
def XAt (a C : Addr) (h : Heap) : Prop := ∃ o vs, h.get? a = some o ∧ o.cls = .ref C ∧ o.data = .fields vs ∧ vs[2]? = some .none
section
variable {prog : Program} {w : World} {A : Around} {E : Value → Shared → Prop} {h : Heap} {g : Array GenState} {d : Drawn} {t : Nat} {os : OsState} {K : PySem.W.Frag} {a C : Addr} {o : Obj}
theorem xclass_get {R : Result → Shared → Prop} (X : K.In h) (T : XCl K C) (hx : h.get? a = some o) (hc : o.cls = .ref C) (hq : R (.ok (.ret (.ref C))) ⟨h, g, d, t, os⟩) :
    codeAny (model prog w) A (.call (.builtin "getset_descriptor.__get__") ⟨[.builtin "object.__class__", .ref a, .ref C], []⟩) R ⟨h, g, d, t, os⟩ := by
  have hT5 : (⟨h, g, d, t, os⟩ : Shared).TypeIs (.builtin "object.__class__") "getset_descriptor" := F.typeOf_object_class
  have f8 : PySem.W.Looks (model prog w) h (isSubtype (.ref C) (.type (".".intercalate ("object.__class__".cutAt '.').dropLast))) true := by
    rw [F.owner_object_class]; exact PySem.W.looks_subIn X T.mo
  refine codeAny_call_builtin F.slot_gs_get.plain F.entry_gs_get (F.slot_gs_get.check _ _ _ _ _ _ _ _ hT5 (F.args_gs_get _ _ _) ?_)
  repeat (any_goals (first | assumption | (with_reducible refine wpAny_loadPart_at hx ?_; rw [hc]) | with_reducible refine f8.at ?_ | wp_step))
  refine ⟨Code.quiet_builtin _ (by decide +kernel), codeAny_builtin F.entry_object_class ?_⟩
  repeat (any_goals (first | assumption | (with_reducible refine wpAny_loadPart_at hx ?_; rw [hc]) | wp_step))
theorem xclass_entry {tk : Tok} {Q : Fin → Shared → Prop} (X : K.In h) (T : XCl K C) (hx : h.get? a = some o) (hc : o.cls = .ref C) (hq : Q (.done (.ret (.ref C))) ⟨h, g, d, t, os⟩) :
    wpAny (model prog w) A (Builtin.«object.__getattribute__» ⟨[.ref a, .str "__class__" tk], []⟩) Q E ⟨h, g, d, t, os⟩ := by
  have hT5 : (⟨h, g, d, t, os⟩ : Shared).TypeIs (.builtin "object.__class__") "getset_descriptor" := F.typeOf_object_class
  have f4 := PySem.W.looks_findIn (M := model prog w) X T.ca
  have f5 := F.typeOf_object_class
  have f6 := F.slot_gs_get.lookup
  have f7 := F.slot_gs_set.lookup
  repeat (any_goals (first | assumption | (with_reducible refine wpAny_loadPart_at hx ?_; rw [hc]) | with_reducible refine f4.at ?_ | wp_step))
  refine xclass_get X T hx hc ?_
  repeat (any_goals (first | assumption | wp_step))
theorem xcheck_ga {M : Model} {nameV : Value} {Q : Unit → Shared → Prop} (X : K.In h) (T : XCl K C) (hx : h.get? a = some o) (hc : o.cls = .ref C) (hq : Q () ⟨h, g, d, t, os⟩) :
    wpAny M A (checkBuiltinCall "BaseException.__getattribute__" ⟨[.ref a, nameV], []⟩) Q E ⟨h, g, d, t, os⟩ := by
  have hk : builtinKind "BaseException.__getattribute__" = some .slot := by decide +kernel
  have hsplit : splitId "BaseException.__getattribute__" = some ("BaseException", "__getattribute__") := by decide +kernel
  have f1 := PySem.W.looks_subIn (M := M) X T.mb
  have ha := F.args_bexc_ga (.ref a) nameV
  simp only [checkBuiltinCall, hk, hsplit]
  refine wpAny_bind ?_
  · unfold isInstance
    repeat (first | (with_reducible refine wpAny_loadPart_at hx ?_; rw [hc]) | with_reducible refine f1.at ?_ | wp_step)
    exact hq
theorem xclass_call {tk : Tok} {R : Result → Shared → Prop} (X : K.In h) (T : XCl K C) (hx : h.get? a = some o) (hc : o.cls = .ref C) (hq : R (.ok (.ret (.ref C))) ⟨h, g, d, t, os⟩) :
    codeAny (model prog w) A (.call (.builtin "BaseException.__getattribute__") ⟨[.ref a, .str "__class__" tk], []⟩) R ⟨h, g, d, t, os⟩ :=
  codeAny_call_builtin F.attr_ValueError.ga.plain F.entry_bexc_ga (xcheck_ga X T hx hc (xclass_entry X T hx hc hq))
theorem xclass_by {tk : Tok} {fill expr : Bool} {Q : Value → Shared → Prop} (X : K.In h) (T : XCl K C) (hx : h.get? a = some o) (hc : o.cls = .ref C) (hq : Q (.ref C) ⟨h, g, d, t, os⟩) :
    wpAny (model prog w) A (getAttrBy (.ref a) (.str "__class__" tk) fill expr) Q E ⟨h, g, d, t, os⟩ := by
  have f1 := PySem.W.looks_findIn (M := model prog w) X T.ga
  have f2 := PySem.W.looks_findIn (M := model prog w) X T.gn
  have f3 := F.attr_ValueError.ga.bind (.ref a)
  have hx0 : (expr && onTheHeap (Value.builtin "BaseException.__getattribute__")) = false := by cases expr <;> rfl
  have hx2 : (Value.builtin "BaseException.__getattribute__" == Value.builtin "object.__getattribute__") = false := by decide +kernel
  have hx1 : (onTheHeap (Value.ref C) && Value.builtin "BaseException.__getattribute__" == Value.builtin "object.__getattribute__") = false := by rw [hx2]; rfl
  repeat (any_goals (first | assumption | (with_reducible refine wpAny_loadPart_at hx ?_; rw [hc]) | with_reducible refine f1.at ?_ | with_reducible refine f2.at ?_ | wp_step))
  refine xclass_call X T hx hc ?_
  repeat (any_goals (first | assumption | wp_step))
theorem xclass_attr {Q : Option Value → Shared → Prop} (X : K.In h) (T : XCl K C) (hx : h.get? a = some o) (hc : o.cls = .ref C) (hq : Q (some (.ref C)) ⟨h, g, d, t + 1, os⟩) : wpAny (model prog w) A (getAttr? (.ref a) "__class__") Q E ⟨h, g, d, t, os⟩ := by
  unfold getAttr? getAttrBy?
  repeat (any_goals (first | assumption | with_reducible apply xclass_by X T hx hc | wp_step))
end
theorem kitx_exc {K : PySem.W.Frag} {a C : Addr} (T : XCl K C) : PySem.W.KitX K (.ref a) (.ref C) (XAt a C) where
  ty := fun M h X p => by
    obtain ⟨o, vs, h1, h2, _⟩ := p
    exact h2 ▸ (PySem.W.Looks.ld h1).andThen .now
  it := fun _ _ X _ => by
    obtain ⟨dd, cd, sl, ho⟩ := T.look
    intro A' Q' E' s' k q
    unfold isType loadHead
    exact wpAny_bind (wpAny_loadPart (k _ _ (X _ _ ho)) (wpAny_pure q))
  ne := fun h tp dd its n sl X htp => by
    obtain ⟨_, cd, _, ho⟩ := T.look
    refine Bool.eq_false_iff.mpr fun q => ?_
    have e : C = tp := Value.ref.inj (beq_iff_eq.mp q)
    subst e
    have z := congrArg Obj.data (Option.some.inj ((X _ _ ho).symm.trans htp))
    cases z
  ca := fun {_ _ _ _ _ s} X p k => by
    obtain ⟨h, g, d, t, os⟩ := s
    obtain ⟨o, vs, h1, h2, _⟩ := p
    exact xclass_attr X T h1 h2 k
/-- an exception, as the abstract heap tells it -/
def xo (a C : Addr) : HO := .ext (XAt a C)
section
variable {X : Cx} {pins : List (Addr × Obj)} {σ : St} {H : Hp} {s : Shared}
theorem xo_at {a C : Addr} (I : Inv X pins σ H s) (e : H a = some (xo a C)) : XAt a C s.heap := (show ObjOk X.prog X.w H s.heap a (xo a C) from I.hok a _ e).1
/-- isinstance(e, D) of an exception: D a class (own, or built-in) -/
theorem isinst_exc {A : Around} {E : Value → Shared → Prop} {Q : Value → Shared → Prop} {a C : Addr} {c : Value} {b : Bool} (I : Inv X pins σ H s) (T : XCl X.K C) (e : H a = some (xo a C)) (k : PySem.W.kitOne X.K (.ref C) c = some b) (h : ∀ tk, Q (.bool b) { s with toks := tk }) :
    wpAny (model X.prog X.w) A (call (.builtin "isinstance") [.ref a, c]) Q E s :=
  PySem.W.kia_one (kitx_exc T) I.kIn (xo_at I e) k (fun z => nomatch z) h
end
end L2

set_option Elab.async false
set_option linter.all false
set_option maxRecDepth 100000
set_option maxHeartbeats 1000000

/-! ### an exception on its way: the frames it leaves -/
namespace L2
open PySem PySem.Spec PyProof.Rows
/-- the exception e, of the class at C, without context. fl: none, no frame is noted yet; some f, the newest entry bears f -/
def XT (B : Heap) (e C : Addr) (fl : Option Value) (h : Heap) : Prop :=
  ∃ oe vs, h.get? e = some oe ∧ oe.cls = .ref C ∧ oe.data = .fields vs ∧ vs[2]? = some .none ∧
    match fl with
    | none => vs[1]? = some .none
    | some f => ∃ T oT ts, vs[1]? = some (.ref T) ∧ B.get? T = none ∧ T ≠ e ∧ h.get? T = some oT ∧ oT.data = .fields ts ∧ ts[3]? = some f
structure Fl (B : Heap) (l : List Env) (e C : Addr) (fl : Option Value) (h : Heap) : Prop where
  stays : B.StaysIn h
  new : B.get? e = none
  fr : h.FunFrames B l
  tr : XT B e C fl h
theorem XT.at {B h : Heap} {e C : Addr} {fl : Option Value} (x : XT B e C fl h) : XAt e C h := by
  obtain ⟨oe, vs, h1, h2, h3, h4, _⟩ := x
  exact ⟨oe, vs, h1, h2, h3, h4⟩
section
variable {M : Model} {A : Around} {E : Value → Shared → Prop} {s : Shared} {B : Heap} {env : Env} {outer l : List Env} {L e C : Addr} {Q : Unit → Shared → Prop}
theorem fl_entry {oe : Obj} {vs : Array Value} {head : Value} {hadNext : Bool} (hfr : A.frames = some (env :: outer)) (hf : env.frame = some L) (st : B.StaysIn s.heap) (new : B.get? e = none) (fr : s.heap.FunFrames B (env :: outer))
    (he : s.heap.get? e = some oe) (hc : oe.cls = .ref C) (hd : oe.data = .fields vs) (h2 : vs[2]? = some .none) (hq : ∀ h', Fl B (env :: outer) e C (some (rawInt L)) h' → s.heap.UpToSlots h' → Q () { s with heap := h' }) :
    wpAny M A (do let fo ← frameOf env; let pl ← entryPlaceOf L hadNext; let tb ← EntryCells.newEntry head fo .none (rawInt L) .none pl; setField (.ref e) 1 tb) Q E s := by
  have hsz : 2 < vs.size := (Array.getElem?_eq_some_iff.mp h2).1
  have nf : e ∉ (env :: outer).filterMap (·.frame) := fun hm => by
    obtain ⟨_, of, hof, nof⟩ := fr.mem hm
    rw [he] at hof
    cases hof
    exact nof vs hd
  refine wpAny_bind (wpAny_frameOf_fun hfr fr hf fun hA sA => ?_)
  refine wpAny_bind (wpAny_entryPlaceOf fun pl ipl => ?_)
  unfold EntryCells.newEntry newFields
  refine wpAny_bind (wpAny_newObj_type ?_ (ipl.sizeOk5 _ _ _ _ _))
  have eA : hA.get? e = some oe := (sA.2.1 e nf).trans he
  have stA : B.StaysIn hA := fun b o q => (sA.2.1 b fun hm => by rw [(fr.mem hm).1] at q; cases q).trans (st b o q)
  have key : ∀ (ob : Obj) (ts : Array Value), ob.data = .fields ts → ob.isFreed = false → ts[3]? = some (rawInt L) → wpAny M A (setField (.ref e) 1 (.ref hA.objs.size)) Q E { s with heap := hA.push ob } := fun ob ts dT nfr iT => by
    have eP := Heap.get?_push_of_some (h := hA) ob eA
    refine wpAny_setField eP hd (by omega) (hq _ ?_ ?_)
    · have hTe : hA.objs.size ≠ e := Nat.ne_of_gt (Heap.lt_size eA)
      have dN := Obj.data_mapFields hd (·.setIfInBounds 1 (Value.ref hA.objs.size))
      have eN := Heap.get?_update_self (Obj.mapFields (·.setIfInBounds 1 (Value.ref hA.objs.size))) eP (Obj.isFreed_of_fields dN)
      have keep : ∀ b o, b ≠ e → hA.get? b = some o → ((hA.push ob).update e (Obj.mapFields (·.setIfInBounds 1 (Value.ref hA.objs.size)))).get? b = some o := fun b o hb q => by
        rw [Heap.get?_update_other _ _ (Ne.symm hb)]
        exact Heap.get?_push_of_some _ q
      refine ⟨fun b o q => keep b o (fun z => by rw [z, new] at q; cases q) (stA b o q), new, fr.of_keeps fun b o q nb => ?_, ⟨_, _, eN, (Obj.cls_mapFields _ _).trans hc, dN, ?_, hA.objs.size, ob, ts, ?_, stA.fresh, hTe, ?_, dT, iT⟩⟩
      · obtain ⟨sl, q'⟩ := sA.2.2 b o q
        exact ⟨_, keep b _ (fun z => by rw [z, he] at q; cases q; exact nb vs hd) q', rfl⟩
      · rw [Array.getElem?_setIfInBounds_ne (by decide)]
        exact h2
      · simp [show 1 < vs.size by omega]
      · rw [Heap.get?_update_other _ _ (Ne.symm hTe)]
        exact Heap.get?_push_size hA nfr
    · intro b o q nb
      obtain ⟨sl, q'⟩ := sA.2.2 b o q
      refine ⟨sl, ?_⟩
      rw [Heap.get?_update_other _ _ (fun z => by rw [← z, he] at q; cases q; exact nb vs hd)]
      exact Heap.get?_push_of_some _ q'
  refine key _ _ rfl rfl ?_
  first | (simp; done) | (rcases ipl with rfl | ⟨_, _, _, _, _, _, _, rfl⟩ <;> simp)
/-- the frame at hand is noted -/
theorem fl_note {fl : Option Value} (hfl : fl = none ∨ fl = some .none) (hfr : A.frames = some (env :: outer)) (hf : env.frame = some L) (x : Fl B (env :: outer) e C fl s.heap)
    (hq : ∀ h', Fl B (env :: outer) e C (some (rawInt L)) h' → s.heap.UpToSlots h' → Q () { s with heap := h' }) : wpAny M A (noteFrame (.ref e) env) Q E s := by
  obtain ⟨st, new, fr, oe, vs, he, hc, hd, h2, ht⟩ := x
  unfold noteFrame
  simp only [hf]
  rcases hfl with rfl | rfl
  · refine wpAny_bind (wpAny_field he hd (show vs[1]? = some .none from ht) ?_)
    rw [if_neg (by decide)]
    exact fl_entry hfr hf st new fr he hc hd h2 hq
  · obtain ⟨T, oT, ts, h1, nT, hTe, hT, dT, iT⟩ := ht
    refine wpAny_bind (wpAny_field he hd h1 ?_)
    rw [if_pos (show (Value.ref T != Value.none) = true from by simp)]
    refine wpAny_bind (wpAny_field hT dT iT ?_)
    rw [if_neg (show ¬ ((Value.none == rawInt L) = true) from by simp [rawInt])]
    refine wpAny_bind (wpAny_setField hT dT (Array.getElem?_eq_some_iff.mp iT).1 ?_)
    have oth : ∀ b o, b ≠ T → s.heap.get? b = some o → (s.heap.update T (Obj.mapFields (·.setIfInBounds 3 Value.none))).get? b = some o := fun b o hb q => (Heap.get?_update_other _ _ (Ne.symm hb)).trans q
    have nrec : ∀ b o, s.heap.get? b = some o → (∀ ws, o.data ≠ .fields ws) → b ≠ T := fun b o q nb z => by rw [z, hT] at q; cases q; exact nb ts dT
    refine fl_entry (s := { s with heap := s.heap.update T (Obj.mapFields (·.setIfInBounds 3 Value.none)) }) hfr hf (fun b o q => oth b o (fun z => by rw [z, nT] at q; cases q) (st b o q)) new
      (fr.of_keeps fun b o q nb => ⟨o, oth b o (nrec b o q nb) q, rfl⟩) (oth e oe (Ne.symm hTe) he) hc hd h2 fun h' y u => hq h' y ?_
    exact fun b o q nb => u b o (oth b o (nrec b o q nb) q) nb
/-- no frame is in flight any more -/
theorem fl_set {f : Value} (x : Fl B l e C (some f) s.heap) (hq : ∀ h', Fl B l e C (some .none) h' → s.heap.UpToSlots h' → Q () { s with heap := h' }) : wpAny M A (setFlight (.ref e) none) Q E s := by
  obtain ⟨st, new, fr, oe, vs, he, hc, hd, h2, T, oT, ts, h1, nT, hTe, hT, dT, iT⟩ := x
  have hsz : 3 < ts.size := (Array.getElem?_eq_some_iff.mp iT).1
  have oth : ∀ b o, b ≠ T → s.heap.get? b = some o → (s.heap.update T (Obj.mapFields (·.setIfInBounds 3 Value.none))).get? b = some o := fun b o hb q => (Heap.get?_update_other _ _ (Ne.symm hb)).trans q
  have nrec : ∀ b o, s.heap.get? b = some o → (∀ ws, o.data ≠ .fields ws) → b ≠ T := fun b o q nb z => by rw [z, hT] at q; cases q; exact nb ts dT
  unfold setFlight
  refine wpAny_bind (wpAny_field he hd h1 ?_)
  rw [if_pos (show (Value.ref T != Value.none) = true from by simp)]
  refine wpAny_setField hT dT hsz (hq (s.heap.update T (Obj.mapFields (·.setIfInBounds 3 Value.none))) ⟨fun b o q => oth b o (fun z => by rw [z, nT] at q; cases q) (st b o q), new, fr.of_keeps fun b o q nb => ⟨o, oth b o (nrec b o q nb) q, rfl⟩, ?_⟩
    fun b o q nb => ⟨o.slots, oth b o (nrec b o q nb) q⟩)
  have dN := Obj.data_mapFields dT (·.setIfInBounds 3 Value.none)
  exact ⟨oe, vs, oth e oe (Ne.symm hTe) he, hc, hd, h2, T, _, _, h1, nT, hTe, Heap.get?_update_self _ hT (Obj.isFreed_of_fields dN), dN, by simp [hsz]⟩
/-- the frame is left -/
theorem fl_leave {fl : Option Value} (hfl : fl = none ∨ fl = some .none) (hfr : A.frames = some (env :: outer)) (hf : env.frame = some L) (x : Fl B (env :: outer) e C fl s.heap)
    (hq : ∀ h', Fl B outer e C (some .none) h' → s.heap.UpToSlots h' → Q () { s with heap := h' }) : wpAny M A (leaving env (.ref e)) Q E s := by
  unfold leaving
  refine wpAny_bind (fl_note hfl hfr hf x fun h1 y u1 => ?_)
  refine fl_set y fun h2 z u2 => hq h2 ⟨z.stays, z.new, z.fr.2.2, z.tr⟩ (u1.trans u2)
end
end L2

set_option Elab.async false
set_option linter.all false
set_option maxRecDepth 100000
set_option maxHeartbeats 1000000

/-! ### raise, calls that raise, try -/
namespace L2
open PySem PySem.Spec PyProof.Rows
theorem ObjOk.there {P : Program} {w : World} {H : Hp} {h : Heap} {a : Addr} {o : HO} (x : ObjOk P w H h a o) : ∃ u, h.get? a = some u := by
  cases o with
  | lst xs => obtain ⟨_, its, n, _, q⟩ := x; exact ⟨_, q⟩
  | tup xs => obtain ⟨_, its, _, ob, q, _⟩ := x; exact ⟨_, q⟩
  | dK kvs => obtain ⟨_, _, vs, _, ob, es, ep, q, _⟩ := x; exact ⟨_, q⟩
  | dT kvs => obtain ⟨_, _, xs, _, ob, es, ep, q, _⟩ := x; exact ⟨_, q⟩
  | set S n => obtain ⟨ob, es, ep, t, q, _⟩ := x; exact ⟨_, q⟩
  | ins C dx fs => obtain ⟨_, _, _, q, _⟩ := x; exact ⟨_, q⟩
  | own y => exact x
  | xd fs => obtain ⟨mA, ⟨od, es, ep, q, _⟩, _⟩ := x; exact ⟨_, q⟩
  | rng lo hi => obtain ⟨t, u, v, q⟩ := x; exact ⟨_, q⟩
  | frz ob u => exact ⟨_, x.1⟩
  | tbl ps => exact ⟨_, x⟩
  | met f y => exact ⟨_, x⟩
  | ext φ => exact x.2.1
/-- an exception behind a call: e, of the class at C; B: the things that it has not touched -/
structure Exc (P : Program) (w : World) (outer : List Env) (H : Hp) (s : Shared) (e C : Addr) (B : Heap) (H' : Hp) (s' : Shared) : Prop where
  os : s'.os = s.os
  bare : AllBare s'.gens
  fl : ∃ fl, (fl = none ∨ fl = some .none) ∧ Fl B outer e C fl s'.heap
  un : Un (frs outer) [] H H' s.heap s'.heap
  hok : HOk P w H' s'.heap
  tin : ∀ b o, s'.heap.get? b = some o → H' b ≠ none → B.get? b = some o
  old : ∀ b o, s.heap.get? b = some o → H b = none → b ∉ frs outer → B.get? b = some o
  ex : ∀ b o, s.heap.get? b = some o → b ∉ frs outer → ∃ o', B.get? b = some o'
/-- how an exception lies behind a call -/
def CX1 (P : Program) (w : World) : CXT := fun outer H s E ev s' => ∃ e C B H', ev = .ref e ∧ Exc P w outer H s e C B H' s' ∧ E (.ref C) none H'
section
variable {P : Program} {w : World} {outer : List Env} {H H' : Hp} {s s' : Shared} {e C : Addr} {B h2 : Heap} {fl : Option Value}
theorem Exc.hokAt (x : Exc P w outer H s e C B H' s') (st : B.StaysIn h2) : HOk P w H' h2 := fun a o q =>
  (x.hok a o q).stay (fun b u hb hu => st b u (x.tin b u hu (by
    rcases hb with rfl | hb
    · rw [q]; exact fun z => nomatch z
    · rw [hb]; exact fun z => nomatch z))) (fun _ z => z) fun _ _ z => z
theorem Exc.unAt (x : Exc P w outer H s e C B H' s') (f : Fl B outer e C fl h2) (u : s'.heap.UpToSlots h2) : Un (frs outer) [] H H' s.heap h2 := by
  refine ⟨fun b o q n hb _ => f.stays b o (x.old b o q n hb), fun b o q n hb hx => ?_, x.un.free, fun b o q hx => ?_, x.un.tups, x.un.frzs, x.un.tbls⟩
  · obtain ⟨sl, q1⟩ := x.un.slot b o q n hb hx
    obtain ⟨_, _, g⟩ := x.fl
    obtain ⟨_, o1, q2, nf⟩ := g.fr.mem hb
    rw [q1] at q2
    cases q2
    obtain ⟨sl2, q3⟩ := u b _ q1 nf
    exact ⟨sl2, q3⟩
  · by_cases hb : b ∈ frs outer
    · obtain ⟨_, o1, q2, _⟩ := f.fr.mem hb
      exact ⟨o1, q2⟩
    · obtain ⟨o1, q1⟩ := x.ex b o q hb
      exact ⟨o1, f.stays b o1 q1⟩
theorem Exc.tinAt (x : Exc P w outer H s e C B H' s') (st : B.StaysIn h2) : ∀ b o, h2.get? b = some o → H' b ≠ none → B.get? b = some o := fun b o q hb => by
  cases hq : H' b with
  | none => exact absurd hq hb
  | some v =>
    obtain ⟨o1, q1⟩ := (x.hok b v hq).there
    have q2 := x.tin b o1 q1 hb
    have q3 := st b o1 q2
    rw [q] at q3
    cases q3
    exact q2
theorem Exc.free (x : Exc P w outer H s e C B H' s') : H' e = none := by
  cases hq : H' e with
  | none => rfl
  | some v =>
    obtain ⟨o1, q1⟩ := (x.hok e v hq).there
    have q2 := x.tin e o1 q1 (by rw [hq]; exact fun z => nomatch z)
    obtain ⟨_, _, g⟩ := x.fl
    rw [g.new] at q2
    cases q2
theorem Exc.fresh (x : Exc P w outer H s e C B H' s') : s.heap.get? e = none := by
  cases hq : s.heap.get? e with
  | none => rfl
  | some o =>
    obtain ⟨_, _, g⟩ := x.fl
    by_cases hb : e ∈ frs outer
    · obtain ⟨_, o1, q1, nf⟩ := g.fr.mem hb
      obtain ⟨oe, vs, q2, _, q3, _⟩ := g.tr
      rw [q1] at q2
      cases q2
      exact absurd q3 (nf vs)
    · obtain ⟨o1, q1⟩ := x.ex e o hq hb
      rw [g.new] at q1
      cases q1
end
section
variable {X : Cx} {pins : List (Addr × Obj)} {σ : St} {H H' : Hp} {s s' : Shared} {e C : Addr} {B h2 : Heap} {fl : Option Value}
/-- an exception made here -/
theorem Exc.made {args : List Value} {h' : Heap} (I : Inv X pins σ H s) (hx : Heap.MadeExcOf s.heap h' e (.ref C) args) : Exc X.prog X.w X.stack H s e C (PySem.W.hideAll s.heap (frs X.stack)) H { s with heap := h' } := by
  have st : (PySem.W.hideAll s.heap (frs X.stack)).StaysIn s.heap := fun b o q => PySem.W.of_hideAll _ q
  refine ⟨rfl, I.bare, ⟨none, .inl rfl, ⟨fun b o q => hx.keeps b o (st b o q), ?_, ?_, ?_⟩⟩, Un.kept hx.keeps, I.hok.kept hx.keeps, fun b o q hb => ?_, fun b o q n hb => PySem.W.hideAll_get _ q hb, fun b o q hb => ⟨o, PySem.W.hideAll_get _ q hb⟩⟩
  · cases hq : (PySem.W.hideAll s.heap (frs X.stack)).get? e with
    | none => rfl
    | some o =>
      have q := st e o hq
      rw [hx.new] at q
      cases q
  · have f0 : s.heap.FunFrames (PySem.W.hideAll s.heap (frs X.stack)) X.stack := PySem.W.funFrames_hide I.stack fun env he a ha => List.mem_filterMap.mpr ⟨env, he, ha⟩
    exact f0.of_keeps fun b o q _ => ⟨o, hx.keeps b o q, rfl⟩
  · obtain ⟨t, q, _⟩ := hx.there
    exact ⟨_, _, q, rfl, rfl, rfl, rfl⟩
  · cases hq : H b with
    | none => exact absurd hq hb
    | some v =>
      obtain ⟨o1, q1⟩ := (I.hok b v hq).there
      have q2 := hx.keeps b o1 q1
      have q' : h'.get? b = some o := q
      rw [q'] at q2
      cases q2
      refine PySem.W.hideAll_get _ q1 fun hm => ?_
      rw [I.stkFree b hm] at hq
      cases hq
/-- a def's frame is left by an exception -/
theorem Exc.leave {M : Model} {E1 : Value → Shared → Prop} {Q : Unit → Shared → Prop} (I : Inv X pins σ H s) (hs : X.stack = X.env :: X.outer) (hf : X.env.frame = some X.env.locals) (hx : X.ex = []) (x : Exc X.prog X.w X.stack H s e C B H' s')
    (hq : ∀ h2, Exc X.prog X.w X.outer X.H₀ X.s₀ e C B H' { s' with heap := h2 } → Q () { s' with heap := h2 }) : wpAny M X.A (leaving X.env (.ref e)) Q E1 s' := by
  obtain ⟨fl, hfl, f⟩ := x.fl
  have f' := f
  rw [hs] at f'
  have nl : ∀ b o, X.s₀.heap.get? b = some o → b ≠ X.env.locals := fun b o q => Nat.ne_of_lt (Nat.lt_of_lt_of_le (Heap.lt_size q) I.ok.above)
  have ns : ∀ b o, X.s₀.heap.get? b = some o → b ∉ X.fs → b ∉ frs X.stack := fun b o q hb hm => (List.mem_cons.mp (I.stkSub b hm)).elim (nl b o q) hb
  have fsub : ∀ b, b ∈ X.fs → b ∈ frs X.stack := fun b hb => by
    rw [hs]
    unfold frs
    rw [List.filterMap_cons, hf]
    exact List.mem_cons_of_mem _ hb
  have nx : ∀ b : Addr, b ∉ X.ex := fun b => by rw [hx]; simp
  refine fl_leave hfl (I.ok.frames.trans (congrArg some hs)) hf f' fun h2 g u => hq h2 ⟨x.os.trans I.os, x.bare, ⟨_, .inr rfl, g⟩, ?_, x.hokAt g.stays, x.tinAt g.stays, fun b o q n hb => ?_, fun b o q hb => ?_⟩
  · refine ⟨fun b o q n hb _ => ?_, fun b o q n hb _ => ?_, fun b o q n _ => ?_, fun b o q _ => ?_, fun b xs q => x.un.tups b xs (I.base.tups b xs q), fun b o v q => x.un.frzs b o v (I.base.frzs b o v q), fun b ps q => ?_⟩
    · exact g.stays b o (x.old b o (I.base.keep b o q n hb (nx b)) (I.base.free b o q n (nx b)) (ns b o q hb))
    · obtain ⟨sl, q1⟩ := I.base.slot b o q n hb (nx b)
      obtain ⟨sl2, q2⟩ := x.un.slot b _ q1 (I.base.free b o q n (nx b)) (fsub b hb) (by simp)
      obtain ⟨_, o1, q3, nf⟩ := f.fr.mem (fsub b hb)
      rw [q2] at q3
      cases q3
      obtain ⟨sl3, q4⟩ := u b _ q2 nf
      exact ⟨sl3, q4⟩
    · obtain ⟨o1, q1⟩ := I.base.there b o q (nx b)
      exact x.un.free b o1 q1 (I.base.free b o q n (nx b)) (by simp)
    · by_cases hb : b ∈ X.fs
      · obtain ⟨_, o1, q1, _⟩ := g.fr.mem hb
        exact ⟨o1, q1⟩
      · obtain ⟨o1, q1⟩ := I.base.there b o q (nx b)
        obtain ⟨o2, q2⟩ := x.ex b o1 q1 (ns b o q hb)
        exact ⟨o2, g.stays b o2 q2⟩
    · obtain ⟨m1, q1⟩ := I.base.tbls b ps q
      obtain ⟨m2, q2⟩ := x.un.tbls b _ q1
      exact ⟨m1 ++ m2, by rw [q2, Array.append_assoc]⟩
  · exact x.old b o (I.base.keep b o q n hb (nx b)) (I.base.free b o q n (nx b)) (ns b o q hb)
  · obtain ⟨o1, q1⟩ := I.base.there b o q (nx b)
    exact x.ex b o1 q1 (ns b o q hb)
/-- an exception caught here: it is tracked from now on -/
theorem Exc.caught (I : Inv X pins σ H s) (x : Exc X.prog X.w X.stack H s e C B H' s') (f : Fl B X.stack e C fl h2) (u : s'.heap.UpToSlots h2) : Inv X pins σ (upd H' e (xo e C)) { s' with heap := h2 } := by
  have v := x.unAt f u
  have he := x.fresh
  have hn := x.free
  have ne : ∀ b o, s.heap.get? b = some o → b ≠ e := fun b o q z => by rw [z, he] at q; cases q
  have un : Un (frs X.stack) [] H (upd H' e (xo e C)) s.heap h2 := ⟨v.keep, v.slot, fun b o q n hx => by rw [upd_ne (ne b o q)]; exact v.free b o q n hx, v.there, fun b xs q => by rw [upd_ne (ne_of_none (v.tups b xs q) hn)]; exact v.tups b xs q,
    fun b o w q => by rw [upd_ne (ne_of_none (v.frzs b o w q) hn)]; exact v.frzs b o w q, fun b ps q => by
      obtain ⟨m, q1⟩ := v.tbls b ps q
      exact ⟨m, by rw [upd_ne (ne_of_none q1 hn)]; exact q1⟩⟩
  have hok : HOk X.prog X.w (upd H' e (xo e C)) h2 := fun b o q => by
    by_cases hb : b = e
    · subst hb
      rw [upd_same] at q
      cases q
      have at_ := f.tr.at
      refine ⟨at_, ?_, fun h1 h3 p k => ?_⟩
      · obtain ⟨oe, vs, q1, _⟩ := at_
        exact ⟨oe, q1⟩
      · obtain ⟨oe, vs, q1, q2⟩ := p
        exact ⟨oe, vs, k oe q1, q2⟩
    · rw [upd_ne hb] at q
      exact (x.hokAt f.stays b o q).stay (fun c w _ q1 => q1) (fun c q1 => by rw [upd_ne (ne_of_none q1 hn)]; exact q1) fun c xs q1 => by rw [upd_ne (ne_of_none q1 hn)]; exact q1
  exact I.call' (s' := { s' with heap := h2 }) x.os un hok x.bare fun b z => absurd z (by simp)
end

/-! ### an exception reaches what the body wants of exceptions; the wish may hang on the names' values -/
def PassX (X : Cx) (EX : St → XK) : Prop := ∀ (pins : List (Addr × Obj)) (σ : St) (H : Hp) (s : Shared) (ev : Value) (s' : Shared), Inv X pins σ H s → CX1 X.prog X.w X.stack H s (EX σ) ev s' → X.xe ev s'
theorem pass_def {P : Program} {w : World} {K : PySem.W.Frag} {mg : Str → Option Value} {base : Heap} {N : List Str} {qual : Str} {scope : Scope} {f : Addr} {cd : Value} {A : Around} {outer : List Env} {s : Shared} {H : Hp} {E : XK} :
    PassX (cxOf (CX1 P w) P w K mg base N qual scope f cd A outer s H E) (fun _ => E) := fun pins σ H1 s1 ev s' I h => by
  obtain ⟨e, C, B, H', rfl, x, q⟩ := h
  exact x.leave I rfl rfl rfl fun h2 y => ⟨e, C, B, H', rfl, y, q⟩
/-- raise C(..) -/
def tRaise (C : Addr) (EX : St → XK) (t : TA) : TS := fun _ σ H => t σ H fun vs H1 => vs.length ≤ sizeLine ∧ EX σ (.ref C) none H1
theorem ps_raise {X : Cx} {EX : St → XK} {C : Addr} {x : Str} {np cpos pos : Pos} {e : Expr} {es : List Expr} {t : TA} (hc : X.calm = true) (T : XCl X.K C) (hg : Gl X x) (hm : X.mg x = some (.ref C)) (hx : PassX X EX) (ha : PA X (e :: es) t)
    (hdb : (x == ("__debug__" : Str)) = false := by decide) (he : starEach (e :: es) X.env = (false, eval e X.env) :: starEach es X.env := by rfl) (hpl : (backTo cpos (starEach es X.env)).any (·.1) = false := by rfl) :
    PS X (.Raise (some (.Call (.Name x np) (e :: es) [] cpos)) none pos) (tRaise C EX t) := by
  intro pins s σ H D I h
  obtain ⟨bm, N, nm, q, bs, hdct, sn, sub, ab, col, dd, k0, k1, k2, k3, k5, mN, hC, hN, hni, TL⟩ := T.obj I.mod.kin
  refine wpAny_Raise_call_subT F.excBase_ValueError (bm := bm) (nm := nm) (C := C) (q := q) (bs := bs) (N := N) (sn := sn) (hdct := hdct) (sub := sub) (col := col) (ab := ab) (dd := dd) (k5 := k5) (k3 := k3) (k2 := k2) (k1 := k1) (k0 := k0) (TL.hasType (by decide +kernel)) (I.ok.hd hc) (by rw [he]; show (false || (backTo cpos (starEach es X.env)).any (·.1)) = false; rw [hpl]; rfl) hni (ld_glob I hg hm ⟨rfl, ?_⟩ hdb)
  have h2 := ha cpos pins s σ H _ I h
  rw [he] at h2 ⊢
  refine Calls.evalArgs_plain (thn h2 fun us s2 ⟨vs, H2, I2, r, hl, hE⟩ => ⟨rfl, ?_⟩)
  refine ⟨by rw [← r.length]; exact hl, I2.bk _ _ hC, hN.keeps I2.bk, TL.keeps I2.bk, fun h' ea mx => ?_⟩
  exact hx pins σ H2 s2 (.ref ea) { s2 with heap := h' } I2 ⟨ea, C, _, H2, rfl, Exc.made I2 mx, hE⟩

/-! ### defs that may raise -/
structure GoodX (P : Program) (w : World) (K : PySem.W.Frag) (mg : Str → Option Value) (base : Heap) (x : Str) (k : Nat) (ps : List Str) (sp : Sp) : Prop where
  ex : ∃ (f : Addr) (fd : FuncData), mg x = some (.ref f) ∧ PySem.W.keepIn K (.ref f) = true ∧ Binds K fd ps [] ∧ FnOk P w K mg base (CX1 P w) k f fd ps sp
theorem Code.goodX {P : Program} {w : World} {K : PySem.W.Frag} {mg : Str → Option Value} {base : Heap} {x : Str} {st : Stmt} {ps N : List Str} {k : Nat} {sp : Sp} (C : Code K mg x st ps) (S : FnScope N ps (defScope st)) (len : ∀ vs H Q E, sp vs H Q E → vs.length = ps.length)
    (hbody : ∀ (X : Cx) (f : Addr) (cdv : Value) (A : Around) (outer : List Env) (s : Shared) (H : Hp) (vs : List V) (Q : VK) (E : XK), X = cxOf (CX1 P w) P w K mg base N x (defScope st) f cdv A outer s H E → PassX X (fun _ => E) → Room k X.A → sp vs H Q E →
      ∃ t, PSs X (defBody st) t ∧ t { nx := fun _ H' => Q .non H', rt := Q } (start N vs) H) : GoodX P w K mg base x (k + 1) ps sp := by
  obtain ⟨f, fd, F, m, b⟩ := C.ex
  refine ⟨f, fd, m, F.kp, b, ?_⟩
  obtain ⟨oc, od, kV, doc, pm, an, cdv, ct, osl, rfl, lk, hcd⟩ := F.ex
  exact fn_of lk hcd S len fun A outer s H vs Q E hr hsp => hbody _ f cdv A outer s H vs Q E rfl pass_def hr hsp
theorem PS.nox {X : Cx} {st : Stmt} {t : TS} (h : PS X.nox st t) : PS X st t := fun pins s σ H D I hw =>
  wpAny_mono (h pins s σ H D (I.wish _) hw) (fun _ _ q => q.unwish) fun _ _ z => False.elim z
end L2

set_option Elab.async false
set_option linter.all false
set_option maxRecDepth 100000
set_option maxHeartbeats 1000000

/-! ### try .. except, and what runs within an except suite -/
namespace L2
open PySem PySem.Spec PyProof.Rows
section
variable {M : Model} {A : Around} {E : Value → Shared → Prop} {h : Heap} {g : Array GenState} {d : Drawn} {t : Nat} {os : OsState} {K : PySem.W.Frag} {e C HC : Addr}
theorem xmatch {Q : Bool → Shared → Prop} (X : K.In h) (TH : XCl K HC) (hs : PySem.W.subIn K (.ref C) (.ref HC) = some true) (x : XAt e C h) (hq : Q true ⟨h, g, d, t, os⟩) : wpAny M A (excMatches (.ref e) (.ref HC)) Q E ⟨h, g, d, t, os⟩ := by
  obtain ⟨oe, vs, he, hc, _⟩ := x
  obtain ⟨dd, cd, sl, ho⟩ := TH.look
  have hH := X _ _ ho
  have f1 := PySem.W.looks_subIn (M := M) X TH.mb
  have f2 := PySem.W.looks_subIn (M := M) X hs
  have f3 := tc_notTuple
  unfold excMatches
  repeat (first | (with_reducible refine wpAny_loadPart_at he ?_; rw [hc]) | with_reducible refine wpAny_loadPart_at hH ?_ | with_reducible refine f1.at ?_ | with_reducible refine f2.at ?_ | wp_step)
  exact hq
end
/-- other pins that every state bears, another wish -/
abbrev Cx.by (X : Cx) (pn : List (Addr × Obj)) (E : Value → Shared → Prop) : Cx := { X with pn := pn, xe := E }
/-- within an except suite -/
abbrev Cx.suite (X : Cx) (pn : List (Addr × Obj)) (ev : Value) : Cx := { X with pn := pn, xe := fun _ _ => False, A := X.A.mark (some ev), calm := false }
section
variable {X : Cx} {pins pins' pn : List (Addr × Obj)} {σ : St} {H : Hp} {s : Shared} {E : Value → Shared → Prop} {ev : Value}
theorem Inv.by (I : Inv X pins σ H s) (E : Value → Shared → Prop) : Inv (X.by (X.pn ++ pins) E) [] σ H s :=
  ⟨⟨I.ok.mod, I.ok.kind, I.ok.glob, I.ok.blt, I.ok.above, I.ok.inj, I.ok.has, I.ok.cab, I.ok.hd, I.ok.frames, I.ok.stk, I.ok.exf, I.ok.bs, I.ok.bsz, I.ok.noex, I.ok.exfs, I.ok.funs, I.ok.frf⟩, I.os, I.bare, I.base, I.loc, I.cell, I.free, I.freeC,
    fun p hp => I.pin p (by simpa using hp), I.hok, I.len⟩
theorem Inv.unby (I : Inv (X.by (X.pn ++ pins) E) pins' σ H s) : Inv X pins σ H s :=
  ⟨⟨I.ok.mod, I.ok.kind, I.ok.glob, I.ok.blt, I.ok.above, I.ok.inj, I.ok.has, I.ok.cab, I.ok.hd, I.ok.frames, I.ok.stk, I.ok.exf, I.ok.bs, I.ok.bsz, I.ok.noex, I.ok.exfs, I.ok.funs, I.ok.frf⟩, I.os, I.bare, I.base, I.loc, I.cell, I.free, I.freeC,
    fun p hp => I.pin p (List.mem_append_left _ hp), I.hok, I.len⟩
theorem Inv.suite (I : Inv (X.by pn E) pins' σ H s) (ev : Value) : Inv (X.suite pn ev) pins' σ H s :=
  ⟨⟨I.ok.mod, I.ok.kind, I.ok.glob, I.ok.blt, I.ok.above, I.ok.inj, I.ok.has, I.ok.cab, (fun z => nomatch z), I.ok.frames, I.ok.stk, I.ok.exf, I.ok.bs, I.ok.bsz, I.ok.noex, I.ok.exfs, I.ok.funs, I.ok.frf⟩, I.os, I.bare, I.base, I.loc, I.cell, I.free, I.freeC,
    I.pin, I.hok, I.len⟩
theorem Inv.unsuite (hd : X.calm = true → X.A.handled = none) (I : Inv (X.suite (X.pn ++ pins) ev) pins' σ H s) : Inv X pins σ H s :=
  ⟨⟨I.ok.mod, I.ok.kind, I.ok.glob, I.ok.blt, I.ok.above, I.ok.inj, I.ok.has, I.ok.cab, hd, I.ok.frames, I.ok.stk, I.ok.exf, I.ok.bs, I.ok.bsz, I.ok.noex, I.ok.exfs, I.ok.funs, I.ok.frf⟩, I.os, I.bare, I.base, I.loc, I.cell, I.free, I.freeC,
    fun p hp => I.pin p (List.mem_append_left _ hp), I.hok, I.len⟩
theorem SP.unby {D : Ends} {f : Flow} (h : SP (X.by (X.pn ++ pins) E) pins' D f s) : SP X pins D f s := by
  cases f with
  | next => obtain ⟨σ', H', I, q⟩ := h; exact ⟨σ', H', I.unby, q⟩
  | brk => obtain ⟨σ', H', I, q⟩ := h; exact ⟨σ', H', I.unby, q⟩
  | cont => obtain ⟨σ', H', I, q⟩ := h; exact ⟨σ', H', I.unby, q⟩
  | ret u => obtain ⟨v, σ', H', I, r, q⟩ := h; exact ⟨v, σ', H', I.unby, r, q⟩
/-- a local name goes -/
theorem goes_ok {M : Model} {A : Around} {E1 : Value → Shared → Prop} {i : Nat} {n : Str} {pos : Pos} {Q : Unit → Shared → Prop} (I : Inv X pins σ H s) (hN : X.N.Nodup) (hi : X.N[i]? = some n) (hl : X.env.scope.names.lookup n = some .local)
    (hq : ∀ s', Inv X pins (σ.set i none) H s' → Q () s') : wpAny M A (do bindName X.env n .none; unbindBehindTheSuite X.env n pos) Q E1 s := by
  obtain ⟨m, hn, hm⟩ := id I.loc
  have hcls : (X.env.scope.kind == .class || (X.env.scope.kind == .module && X.env.locals != X.env.globals)) = false := by rw [I.ok.kind]; rfl
  refine wpAny_nameGoes_keeps hl hn hcls fun h' v nsv sb => ?_
  have hiσ : i < σ.length := by rw [I.len]; exact (List.getElem?_eq_some_iff.mp hi).1
  obtain ⟨oL, _, _, hoL, _⟩ := id hn
  have below : ∀ b o, X.s₀.heap.get? b = some o → b ≠ X.env.locals := fun b o q => Nat.ne_of_lt (Nat.lt_of_lt_of_le (Heap.lt_size q) I.ok.above)
  refine hq _ ⟨I.ok, I.os, I.bare, ⟨fun b o q nn hb hx => ?_, fun b o q nn hb hx => ?_, I.base.free, fun b o q hx => ?_, I.base.tups, I.base.frzs, I.base.tbls⟩, ⟨_, nsv, fun j y w e1 e2 e3 => ?_⟩, fun y c q => ?_, I.free, I.freeC, fun p hp => ?_, fun b ob q => ?_, ?_⟩
  · exact (sb.2 b (below b o q)).trans (I.base.keep b o q nn hb hx)
  · obtain ⟨sl, q1⟩ := I.base.slot b o q nn hb hx
    exact ⟨sl, (sb.2 b (below b o q)).trans q1⟩
  · obtain ⟨o', q1⟩ := I.base.there b o q hx
    exact ⟨o', (sb.2 b (below b o q)).trans q1⟩
  · by_cases hj : j = i
    · subst hj
      rw [List.getElem?_set_self hiσ] at e2
      cases e2
    · rw [List.getElem?_set_ne (Ne.symm hj)] at e2
      obtain ⟨u, r, q⟩ := hm j y w e1 e2 e3
      refine ⟨u, r, ?_⟩
      rcases q with ⟨k, q⟩ | ⟨k, c, q, z⟩
      · have ny : y ≠ n := fun z => hj (nodup_ix hN e1 (z ▸ hi))
        exact .inl ⟨k, by simp [ny, q]⟩
      · exact .inr ⟨k, c, q, z.sameBut sb (I.cne y c q)⟩
  · obtain ⟨u, z⟩ := I.cell y c q
    exact ⟨u, z.sameBut sb (I.cne y c q)⟩
  · obtain ⟨q, nn, ne, nf, dd⟩ := I.pin p hp
    exact ⟨(sb.2 p.1 ne).trans q, nn, ne, nf, dd⟩
  · refine (I.hok b ob q).stay (fun c u hc q1 => (sb.2 c ?_).trans q1) (fun _ z => z) fun _ _ z => z
    rintro rfl
    rcases hc with rfl | hc
    · rw [I.free] at q; cases q
    · rw [I.free] at hc; cases hc
  · rw [List.length_set]; exact I.len
end
/-- the ends of an except suite: its name goes -/
def Ends.drop (D : Ends) (i : Nat) : Ends where
  nx := fun σ H => D.nx (σ.set i none) H
  rt := D.rt
  bk := fun σ H => D.bk (σ.set i none) H
  ct := fun σ H => D.ct (σ.set i none) H
/-- what is wanted of an exception in a try: the suite -/
def exTry (K : PySem.W.Frag) (HC : Addr) (i : Nat) (th : Addr → TS) (D : Ends) : St → XK := fun σ cls _ H => ∃ C, cls = .ref C ∧ XCl K C ∧ PySem.W.subIn K (.ref C) (.ref HC) = some true ∧ ∀ e, H e = none → th e (D.drop i) (σ.set i (some (.ref e))) (upd H e (xo e C))
def tTry (K : PySem.W.Frag) (HC : Addr) (i : Nat) (tb : (St → XK) → TS) (th : Addr → TS) : TS := fun D σ H => tb (exTry K HC i th D) D σ H
theorem ps_try {X : Cx} {HC : Addr} {i : Nat} {n x : Str} {tb : (St → XK) → TS} {th : Addr → TS} {body suite : List Stmt} {b₀ : Stmt} {np hpos pos : Pos} (hN : X.N.Nodup) (hi : X.N[i]? = some n) (hl : X.env.scope.names.lookup n = some .local) (hst : X.stack = X.env :: X.outer)
    (hf : X.env.frame = some X.env.locals) (hg : Gl X x) (hm : X.mg x = some (.ref HC)) (TH : XCl X.K HC)
    (h1 : ∀ pn E1 EX, PassX (X.by pn E1) EX → PSs (X.by pn E1) body (tb EX)) (h2 : ∀ pn (e : Addr), PSs (X.suite pn (.ref e)) (b₀ :: suite) (th e)) (hdb : (x == ("__debug__" : Str)) = false := by decide) :
    PS X (.Try body [.ExceptHandler (some (.Name x np)) (some n) (b₀ :: suite) hpos] [] [] pos) (tTry X.K HC i tb th) := by
  intro pins s σ H D I h
  have hfr : X.A.frames = some (X.env :: X.outer) := I.ok.frames.trans (congrArg some hst)
  let E1 : Value → Shared → Prop := fun ev s'' => ∃ (pins' : List (Addr × Obj)) (σ' : St) (H' : Hp) (s' : Shared), Inv (X.by (X.pn ++ pins) fun _ _ => False) pins' σ' H' s' ∧ CX1 X.prog X.w X.stack H' s' (exTry X.K HC i th D σ') ev s''
  have hp : PassX (X.by (X.pn ++ pins) E1) (exTry X.K HC i th D) := fun pins' σ' H' s' ev s'' I' c => ⟨pins', σ', H', s', ⟨⟨I'.ok.mod, I'.ok.kind, I'.ok.glob, I'.ok.blt, I'.ok.above, I'.ok.inj, I'.ok.has, I'.ok.cab, I'.ok.hd, I'.ok.frames, I'.ok.stk, I'.ok.exf, I'.ok.bs, I'.ok.bsz, I'.ok.noex, I'.ok.exfs, I'.ok.funs, I'.ok.frf⟩, I'.os, I'.bare, I'.base, I'.loc, I'.cell, I'.free, I'.freeC, I'.pin, I'.hok, I'.len⟩, c⟩
  refine wpAny_Try_except (wpAny_mono (h1 _ E1 _ hp [] s σ H D (I.by E1) h) (fun f s1 q => ?_) fun ev s1 q => ?_)
  · cases f with
    | next => exact wpAny_execs_nil q.unby
    | brk => exact q.unby
    | cont => exact q.unby
    | ret u => exact q.unby
  · obtain ⟨pins', σ', H', s', I', e, C, B, H2, rfl, x1, D1, hC, T, hs, hth⟩ := q
    cases hC
    obtain ⟨fl, hfl, f0⟩ := x1.fl
    rw [hst] at f0
    refine fl_note hfl hfr hf f0 fun ha fa ua => ?_
    refine fl_set fa fun hb fb ub => ?_
    have fb' : Fl B X.stack e C (some .none) hb := by rw [hst]; exact fb
    have J := Exc.caught I' x1 fb' (ua.trans ub)
    have JS := J.suite (Value.ref e)
    refine wpAny_handleBy_cons (codeAny_handlers_test (ld_glob JS hg hm ?_ hdb)) (by intro q; cases q)
    refine xmatch JS.kIn TH hs fb.tr.at (codeAny_handlers_suite_as ?_)
    refine fl_set fb fun hc fc uc => ?_
    have fc' : Fl B X.stack e C (some .none) hc := by rw [hst]; exact fc
    have J2 := (Exc.caught I' x1 fc' ((ua.trans ub).trans uc)).suite (Value.ref e)
    refine store_ok (X := X.suite (X.pn ++ pins) (.ref e)) (v := .ref e) (i := i) J2 hN hi (.inl hl) rfl (fun s4 J4 => ?_) (.inr hl)
    refine wpAny_mono (h2 _ _ pins' s4 _ _ (D.drop i) J4 (hth e x1.free)) (fun f s5 q => ?_) fun _ _ z => z.elim
    cases f with
    | next =>
      obtain ⟨σ5, H5, I5, q5⟩ := q
      exact goes_ok (I5.unsuite I.ok.hd) hN hi hl fun s6 I6 => ⟨_, _, I6, q5⟩
    | brk =>
      obtain ⟨σ5, H5, I5, q5⟩ := q
      exact goes_ok (I5.unsuite I.ok.hd) hN hi hl fun s6 I6 => ⟨_, _, I6, q5⟩
    | cont =>
      obtain ⟨σ5, H5, I5, q5⟩ := q
      exact goes_ok (I5.unsuite I.ok.hd) hN hi hl fun s6 I6 => ⟨_, _, I6, q5⟩
    | ret u =>
      obtain ⟨v5, σ5, H5, I5, r5, q5⟩ := q
      exact goes_ok (I5.unsuite I.ok.hd) hN hi hl fun s6 I6 => ⟨v5, _, _, I6, r5, q5⟩

/-! ### a def that runs within an except suite -/
structure RoomH (k : Nat) (A : Around) : Prop where
  dp : A.depth + 3 * k + 5 < recursionLimit
  un : A.units + 16 * k + 200 < cLine
theorem Room.inH {k : Nat} {A : Around} (r : Room k A) (h : Option Value) : RoomH k (A.mark h) := ⟨r.dp, r.un⟩
theorem RoomH.deeper {k : Nat} {A : Around} (r : RoomH (k + 1) A) (env : Env) : RoomH k (A.deeper env) :=
  ⟨by have := r.dp; show A.depth + 1 + 3 * k + 5 < _; omega, by have := r.un; show A.units + 3 + 16 * k + 200 < _; omega⟩
theorem RoomH.mono {j k : Nat} {A : Around} (r : RoomH k A) (h : j ≤ k) : RoomH j A := ⟨by have := r.dp; omega, by have := r.un; omega⟩
theorem RoomH.units {k : Nat} {A : Around} (r : RoomH k A) : A.units + 64 < cLine := by have := r.un; omega
structure GoodH (P : Program) (w : World) (K : PySem.W.Frag) (mg : Str → Option Value) (base : Heap) (x : Str) (k : Nat) (ps : List Str) (sp : Sp) : Prop where
  ex : ∃ (f : Addr) (fd : FuncData), mg x = some (.ref f) ∧ PySem.W.keepIn K (.ref f) = true ∧ Binds K fd ps [] ∧ (∀ vs H Q E, sp vs H Q E → vs.length = ps.length) ∧
    ∀ (A : Around) (outer : List Env) (s : Shared) (H : Hp) (args : Args) (us : List Value) (vs : List V) (Q : VK), RoomH k A → Env0 P w K mg base A outer s H → BindsTo s fd args (ps.zip us) → Vals vs us → sp vs H Q E0 →
      codeAny (model P w) A (.call (.ref f) args) (CR CX0 outer P w H s Q E0) s
/-- a def's body, also within an except suite -/
abbrev cxH (P : Program) (w : World) (K : PySem.W.Frag) (mg : Str → Option Value) (base : Heap) (N : List Str) (qual : Str) (scope : Scope) (f : Addr) (cd : Value) (A : Around) (outer : List Env) (s : Shared) (H : Hp) : Cx :=
  { cxOf CX0 P w K mg base N qual scope f cd A outer s H E0 with calm := false, xe := fun _ _ => False }
theorem Code.goodH {P : Program} {w : World} {K : PySem.W.Frag} {mg : Str → Option Value} {base : Heap} {x : Str} {st : Stmt} {ps N : List Str} {k : Nat} {sp : Sp} (C : Code K mg x st ps) (S : FnScope N ps (defScope st)) (len : ∀ vs H Q E, sp vs H Q E → vs.length = ps.length)
    (hbody : ∀ (f : Addr) (cdv : Value) (A : Around) (outer : List Env) (s : Shared) (H : Hp) (vs : List V) (Q : VK), RoomH k (A.deeper (envOfC x (defScope st) s.heap.objs.size f cdv)) → sp vs H Q E0 →
      ∃ t, PSs (cxH P w K mg base N x (defScope st) f cdv A outer s H) (defBody st) t ∧ t { nx := fun _ H' => Q .non H', rt := Q } (start N vs) H) : GoodH P w K mg base x (k + 1) ps sp := by
  obtain ⟨f, fd, F, m, b⟩ := C.ex
  refine ⟨f, fd, m, F.kp, b, len, fun A outer s H args us vs Q hr e0 hb r hsp => ?_⟩
  obtain ⟨oc, od, kV, doc, pm, an, cdv, ct, osl, rfl, lk, hcd⟩ := F.ex
  have hlen := len _ _ _ _ hsp
  have KX : K.In s.heap := e0.mod.kin.keeps fun b o q => (e0.bs b o q).1
  have lim : s.heap.NoLimit := e0.mod.nolimit.keeps fun b o q => (e0.bs b o q).1
  have hkind : ∀ y ∈ ps.zip us, (defScope st).names.lookup y.1 = some .local ∨ ((defScope st).names.lookup y.1 = some .cell ∧ ((cellsFrom (s.heap.objs.size + 1) (defScope st).names []).lookup y.1).isSome = true) := fun ⟨n, v⟩ hy => by
    rcases S.par n (List.of_mem_zip hy).1 with q | q
    · exact .inl q
    · exact .inr ⟨q, PySem.W.cellsFrom_some _ _ _ (.inl q)⟩
  refine codeAny_call_function (by have := hr.dp; omega) (KX _ _ lk) rfl S.co S.gen rfl (PySem.W.codeRec_of KX hcd) (hb _ _ _ _ ?_)
  refine wpAny_newFunctionEnv_cells S.kind hkind fun env he s1 ic => ?_
  subst he
  refine ⟨lim.keeps ic.toInCall.keep, codeAny_func ?_⟩
  obtain ⟨t, ht, hq⟩ := hbody f cdv A outer s H vs Q (hr.deeper _) hsp
  have e1 : Env0 P w K mg base { A with handled := none } outer s H := ⟨e0.frames, e0.mod, e0.bs, e0.bsz, e0.funs, e0.frf, e0.hok, e0.bare⟩
  have I0 : Inv (cxOf CX0 P w K mg base N x (defScope st) f cdv { A with handled := none } outer s H E0) [] (start N vs) H s1 := inv_start S rfl e1 hlen r ic
  have I : Inv (cxH P w K mg base N x (defScope st) f cdv A outer s H) [] (start N vs) H s1 :=
    ⟨⟨I0.ok.mod, I0.ok.kind, I0.ok.glob, I0.ok.blt, I0.ok.above, I0.ok.inj, I0.ok.has, I0.ok.cab, (fun z => nomatch z), Around.frames_deeper e0.frames, I0.ok.stk, I0.ok.exf, I0.ok.bs, I0.ok.bsz, I0.ok.noex, I0.ok.exfs, I0.ok.funs, I0.ok.frf⟩, I0.os, I0.bare, I0.base, I0.loc, I0.cell, I0.free, I0.freeC,
      I0.pin, I0.hok, I0.len⟩
  refine wpAny_mono (ht [] s1 (start N vs) H _ I hq) (fun fl s' hs => ?_) fun e s' z => z.elim
  have fin : ∀ {σ' : St} {H' : Hp} {v : V} {u : Value}, Inv (cxH P w K mg base N x (defScope st) f cdv A outer s H) [] σ' H' s' → RelV v u → Q v H' → CE outer P w H s Q u s' := fun {σ' H' v u} J rv q => ⟨v, H', J.os, J.bare, J.base, J.hok, rv, q⟩
  cases fl with
  | ret u =>
    obtain ⟨v, σ', H', J, rv, q⟩ := hs
    exact fin J rv q
  | next =>
    obtain ⟨σ', H', J, q⟩ := hs
    exact fin (v := V.non) (u := Value.none) J rfl q
  | brk => obtain ⟨_, _, _, q⟩ := hs; exact False.elim q
  | cont => obtain ⟨_, _, _, q⟩ := hs; exact False.elim q
theorem pcallH {X : Cx} {k k' : Nat} {ps : List Str} {sp : Sp} {x : Str} {p pos : Pos} {e : Expr} {es : List Expr} {t : TA} (g : GoodH X.prog X.w X.K X.mg X.base x k ps sp) (hr : RoomH k' X.A) (ha : PA X (e :: es) t) (hk : k ≤ k' := by decide)
    (hg : Gl X x := by rfl) (hdb : (x == ("__debug__" : Str)) = false := by decide) (he : starEach (e :: es) X.env = (false, eval e X.env) :: starEach es X.env := by rfl) (hpl : (backTo pos (starEach es X.env)).any (·.1) = false := by rfl) :
    PE X (.Call (.Name x p) (e :: es) [] pos) (tCall sp [] E0 t) := by
  intro pins s σ H Q I h
  obtain ⟨f, fd, m, kp, b, len, run⟩ := g.ex
  refine wpAny_Call_Name_kw (ld_glob I hg m ?_ hdb)
  refine PySem.W.callWith_K (h₀ := X.base) I.ok.mod.kin kp (thn (ha pos pins s σ H _ I h) fun us s1 ⟨vs, H1, I1, r, q⟩ => ⟨I1.kIn, ?_⟩) he hpl
  have q : sp (vs ++ []) H1 Q E0 := q
  rw [List.append_nil] at q
  have hl : us.length = ps.length := by rw [← r.length]; exact len _ _ _ _ q
  have bd := b s1 us I1.kIn (by rw [List.append_nil]; exact hl)
  rw [List.append_nil] at bd
  refine wpAny_call (codeAny_mono (run X.A X.stack s1 H1 ⟨us, []⟩ us vs Q (hr.mono hk) I1.env0 bd r q) fun rr s' hq => ?_)
  cases rr with
  | error ev => exact False.elim hq
  | ok fl =>
    cases fl with
    | ret u => exact I1.after hq
    | next => exact False.elim hq
    | brk => exact False.elim hq
    | cont => exact False.elim hq
/-- isinstance(e, D), e an exception that is tracked, D an own class -/
@[irreducible] def rIsx (K : PySem.W.Frag) : List V → Hp → VK → Prop := fun xs H Q => ∃ a D C b, xs = [.ref a, .ref D] ∧ H a = some (xo a C) ∧ XCl K C ∧ PySem.W.kitOne K (.ref C) (.ref D) = some b ∧ Q (.bl b) H
theorem call_isx {X : Cx} : CallR X (.builtin "isinstance") (rIsx X.K) := by
  intro pins s σ H xs us Q I r h
  unfold rIsx at h
  obtain ⟨a, D, C, b, rfl, ea, T, k, q⟩ := h
  obtain ⟨u, w', rfl, rx, rt⟩ := vals2 r
  cases rx
  cases rt
  exact isinst_exc I T ea k fun tk => ⟨.bl b, H, I.tok tk, rfl, q⟩
/-- .., a built-in class -/
@[irreducible] def rIsxT (K : PySem.W.Frag) : List V → Hp → VK → Prop := fun xs H Q => ∃ a T C b, xs = [.ref a, .ty T] ∧ H a = some (xo a C) ∧ XCl K C ∧ PySem.W.kitOne K (.ref C) (.type T) = some b ∧ Q (.bl b) H
theorem call_isxT {X : Cx} : CallR X (.builtin "isinstance") (rIsxT X.K) := by
  intro pins s σ H xs us Q I r h
  unfold rIsxT at h
  obtain ⟨a, T, C, b, rfl, ea, TC, k, q⟩ := h
  obtain ⟨u, w', rfl, rx, rt⟩ := vals2 r
  cases rx
  cases rt
  exact isinst_exc I TC ea k fun tk => ⟨.bl b, H, I.tok tk, rfl, q⟩
end L2

set_option Elab.async false
set_option linter.all false
set_option maxRecDepth 100000
set_option maxHeartbeats 1000000

/-! ### count and index of truths; max within an except suite -/
namespace L2
open PySem PySem.Spec PyProof.Rows PySem.SeqAt
theorem st_const {c : Const} {k : Nat} {p : Pos} {es : List Expr} {env : Env} : starEach (.Constant c k p :: es) env = (false, eval (.Constant c k p) env) :: starEach es env := by rfl
theorem st_call {f : Expr} {as : List Expr} {ks : List Keyword} {p : Pos} {es : List Expr} {env : Env} : starEach (.Call f as ks p :: es) env = (false, eval (.Call f as ks p) env) :: starEach es env := by rfl
theorem st_tup {as : List Expr} {k : Nat} {p : Pos} {es : List Expr} {env : Env} : starEach (.Tuple as k p :: es) env = (false, eval (.Tuple as k p) env) :: starEach es env := by rfl
def isT : Value → Bool
  | .bool b => b
  | _ => false
theorem boolsT : ∀ {bs : List Bool} {us : List Value}, Vals (bs.map V.bl) us → us = bs.map Value.bool
  | [], _, .nil => rfl
  | b :: bs, _, .cons r t => by
    cases (show _ = Value.bool b from r)
    rw [boolsT t]
    rfl
section
variable {X : Cx}
@[irreducible] def rCountT : V → List V → Hp → VK → Prop := fun x xs H Q => ∃ (l : Addr) (bs : List Bool), x = .ref l ∧ xs = [.bl true] ∧ H l = some (.lst (bs.map V.bl)) ∧ Q (.int ((bs.countP id : Nat) : Int)) H
theorem eqT {A : Around} {s : Shared} {bs : List Bool} : ∀ y, y ∈ (bs.map Value.bool).toArray → EqAt A s y (.bool true) (isT y) := fun y hy => by
  have hy' : y ∈ bs.map Value.bool := by simpa using hy
  obtain ⟨b, _, rfl⟩ := List.mem_map.mp hy'
  have := EqAt.bool_bool (A := A) (s := s) b true
  rw [show (b == true) = isT (.bool b) by cases b <;> rfl] at this
  exact this
theorem countT_mk {l : Addr} {bs : List Bool} {H : Hp} {Q : VK} (h : H l = some (.lst (bs.map V.bl))) (q : Q (.int ((bs.countP id : Nat) : Int)) H) : rCountT (.ref l) [.bl true] H Q := by
  unfold rCountT
  exact ⟨l, bs, rfl, rfl, h, q⟩
theorem mt_countT : MtM X "list.count" rCountT := by
  intro pins s σ H x vs v us Q I rx rv h
  unfold rCountT at h
  obtain ⟨l, bs, rfl, rfl, hH, q⟩ := h
  cases rx
  obtain ⟨u, rfl, ru⟩ := rv.one
  cases (show _ = Value.bool true from ru)
  obtain ⟨z, its, n, r, hl, e⟩ := I.lstM hH
  have hi := boolsT r
  subst hi
  refine call_meets F.slot_list_count ⟨_, e, rfl⟩ F.entry_list_count (F.args_list_count_2 _ _) (list_countAt l (bs.map Value.bool).toArray n none #[] (.bool true) isT) ⟨e, eqT, ?_⟩
  refine ⟨.int ((bs.countP id : Nat) : Int), H, I.tok _, ⟨s.toks, ?_⟩, q⟩
  have hc : (bs.map Value.bool).countP isT = bs.countP id := by
    rw [List.countP_map]
    congr 1
  simp only [hc]
/-- the place of the first truth -/
@[irreducible] def rIndexT : V → List V → Hp → VK → Prop := fun x xs H Q => ∃ (l : Addr) (bs : List Bool) (j : Nat), x = .ref l ∧ xs = [.bl true] ∧ H l = some (.lst (bs.map V.bl)) ∧ j ≤ 1000 ∧ bs[j]? = some true ∧ (∀ m, m < j → bs[m]? = some false) ∧ Q (.int (j : Int)) H
theorem indexT_mk {l : Addr} {bs : List Bool} {j : Nat} {H : Hp} {Q : VK} (h : H l = some (.lst (bs.map V.bl))) (h1 : j ≤ 1000) (h2 : bs[j]? = some true) (h3 : ∀ m, m < j → bs[m]? = some false) (q : Q (.int (j : Int)) H) : rIndexT (.ref l) [.bl true] H Q := by
  unfold rIndexT
  exact ⟨l, bs, j, rfl, rfl, h, h1, h2, h3, q⟩
theorem mt_indexT : MtM X "list.index" rIndexT := by
  intro pins s σ H x vs v us Q I rx rv h
  unfold rIndexT at h
  obtain ⟨l, bs, j, rfl, rfl, hH, hj1, hj, hno, q⟩ := h
  cases rx
  obtain ⟨u, rfl, ru⟩ := rv.one
  cases (show _ = Value.bool true from ru)
  obtain ⟨z, its, n, r, hl, e⟩ := I.lstM hH
  have hi := boolsT r
  subst hi
  have hjl : j < bs.length := (List.getElem?_eq_some_iff.mp hj).1
  have hj2 : j < (bs.map Value.bool).toArray.size := by simpa using hjl
  have hit : isT ((bs.map Value.bool).toArray[j]'hj2) = true := by
    have h1 : bs[j] = true := (List.getElem?_eq_some_iff.mp hj).2
    simp [h1, isT]
  have hn : ∀ m (hm : m < (bs.map Value.bool).toArray.size), m < j → isT (bs.map Value.bool).toArray[m] = false := fun m hm hmj => by
    have h1 := (List.getElem?_eq_some_iff.mp (hno m hmj)).2
    simp [h1, isT]
  refine call_meets F.slot_list_index ⟨_, e, rfl⟩ F.entry_list_index (F.args_list_index_2 _ _) (list_indexAt l (bs.map Value.bool).toArray n none #[] (.bool true) isT j hj2 (Int.lt_of_le_of_lt (b := 1000) (by omega) (by decide +kernel)) hit hn) ⟨e, eqT, ?_⟩
  exact ⟨.int (j : Int), H, I.tok _, ⟨_, rfl⟩, q⟩
end

theorem isx_mk {K : PySem.W.Frag} {a D C : Addr} {b : Bool} {H : Hp} {Q : VK} (h : H a = some (xo a C)) (T : XCl K C) (k : PySem.W.kitOne K (.ref C) (.ref D) = some b) (q : Q (.bl b) H) : rIsx K [.ref a, .ref D] H Q := by
  unfold rIsx
  exact ⟨a, D, C, b, rfl, h, T, k, q⟩
theorem isxT_mk {K : PySem.W.Frag} {a C : Addr} {T : String} {b : Bool} {H : Hp} {Q : VK} (h : H a = some (xo a C)) (TC : XCl K C) (k : PySem.W.kitOne K (.ref C) (.type T) = some b) (q : Q (.bl b) H) : rIsxT K [.ref a, .ty T] H Q := by
  unfold rIsxT
  exact ⟨a, T, C, b, rfl, h, TC, k, q⟩
section
variable {prog : Program} {w : World} {A : Around} {E : Value → Shared → Prop} {s : Shared}
end
end L2

set_option Elab.async false
set_option linter.all false
set_option maxRecDepth 100000
set_option maxHeartbeats 1000000

/-! ### loops and comprehensions over a dict and its items: the dict is frozen while it is walked, thawed behind -/
namespace L2
open PySem PySem.Spec PyProof.Rows
theorem keyRel {k : Key} {u : Value} (h : keyIs k u = true) : RelV (kV k) u := by
  rcases keyIs_shape h with ⟨i, t, rfl, rfl⟩ | ⟨x, t, rfl, rfl⟩
  · exact ⟨t, rfl⟩
  · exact ⟨t, rfl⟩
section
variable {X : Cx} {pins : List (Addr × Obj)} {σ : St} {H : Hp} {s : Shared} {a : Addr} {kvs : List (Key × V)} {o : Obj}
theorem Inv.freeze (I : Inv X pins σ H s) (e : H a = some (.dK kvs)) : ∃ o, s.heap.get? a = some o ∧ Inv X pins σ (upd H a (.frz o (.dK kvs))) s := by
  obtain ⟨o, ho⟩ := (I.hok a _ e).there
  have n0 : ∀ b, H b = none → b ≠ a := fun b n z => by rw [z, e] at n; cases n
  have n1 : ∀ b u, H b = some u → u ≠ .dK kvs → b ≠ a := fun b u q nu z => by rw [z, e] at q; exact nu (Option.some.inj q).symm
  refine ⟨o, ho, I.step (h' := s.heap) (g' := s.gens) (d' := s.drawn) (t' := s.toks) (ch := []) (fun b hb => absurd hb (by simp)) (fun b u _ _ _ q _ => q) (fun b u _ _ _ q _ => ⟨u.slots, q⟩) (fun b u _ q n => by rw [upd_ne (n0 b n)]; exact n)
    (fun b u _ q => ⟨u, q⟩) (fun b xs q => by rw [upd_ne (n1 b _ q (by intro z; cases z))]; exact q) (fun b u v q => by rw [upd_ne (n1 b _ q (by intro z; cases z))]; exact q)
    (fun b ps q => ⟨#[], by rw [upd_ne (n1 b _ q (by intro z; cases z)), q]; simp⟩) (fun m hm => hm) (fun b u q => ?_) I.bare⟩
  have st : ∀ b u, ObjOk X.prog X.w H s.heap b u → ObjOk X.prog X.w (upd H a (.frz o (.dK kvs))) s.heap b u := fun b u x =>
    x.stay (fun _ _ _ q => q) (fun c q => by rw [upd_ne (n1 c _ q (by intro z; cases z))]; exact q) fun c xs q => by rw [upd_ne (n1 c _ q (by intro z; cases z))]; exact q
  by_cases hb : b = a
  · subst hb
    rw [upd_same] at q
    cases q
    exact ⟨ho, st _ _ (I.hok _ _ e)⟩
  · rw [upd_ne hb] at q
    exact st _ _ (I.hok b u q)
theorem Inv.thaw (I : Inv X pins σ H s) (e : H a = some (.frz o (.dK kvs))) (h0 : ∀ o' u, X.H₀ a ≠ some (.frz o' u)) : Inv X pins σ (upd H a (.dK kvs)) s := by
  have n0 : ∀ b, H b = none → b ≠ a := fun b n z => by rw [z, e] at n; cases n
  have n1 : ∀ b u, H b = some u → u ≠ .frz o (.dK kvs) → b ≠ a := fun b u q nu z => by rw [z, e] at q; exact nu (Option.some.inj q).symm
  refine ⟨I.ok, I.os, I.bare, ⟨I.base.keep, I.base.slot, fun b u q n hx => ?_, I.base.there, fun b xs q => ?_, fun b u v q => ?_, fun b ps q => ?_⟩, I.loc, I.cell, ?_, fun x c q => ?_, fun p hp => ?_, fun b u q => ?_, I.len⟩
  · rw [upd_ne (n0 b (I.base.free b u q n hx))]
    exact I.base.free b u q n hx
  · have z := I.base.tups b xs q
    rw [upd_ne (n1 b _ z (by intro w; cases w))]
    exact z
  · have z := I.base.frzs b u v q
    have nb : b ≠ a := fun w => h0 u v (by rw [← w]; exact q)
    rw [upd_ne nb]
    exact z
  · obtain ⟨m, z⟩ := I.base.tbls b ps q
    exact ⟨m, by rw [upd_ne (n1 b _ z (by intro w; cases w))]; exact z⟩
  · rw [upd_ne (n0 _ I.free)]; exact I.free
  · rw [upd_ne (n0 _ (I.freeC x c q))]; exact I.freeC x c q
  · obtain ⟨p1, p2, p3⟩ := I.pin p hp
    exact ⟨p1, by rw [upd_ne (n0 _ p2)]; exact p2, p3⟩
  · have st : ∀ b u, ObjOk X.prog X.w H s.heap b u → ObjOk X.prog X.w (upd H a (.dK kvs)) s.heap b u := fun b u x =>
      x.stay (fun _ _ _ q => q) (fun c q => by rw [upd_ne (n1 c _ q (by intro z; cases z))]; exact q) fun c xs q => by rw [upd_ne (n1 c _ q (by intro z; cases z))]; exact q
    by_cases hb : b = a
    · subst hb
      rw [upd_same] at q
      cases q
      exact st _ _ (show ObjOk X.prog X.w H s.heap b (.frz o (.dK kvs)) from I.hok _ _ e).2
    · rw [upd_ne hb] at q
      exact st _ _ (I.hok b u q)
end
/-- a frozen dict is thawed; H0: the heap at the def's entry, where it was not frozen -/
def Thaw (H0 H : Hp) (P : Hp → Prop) : Prop := ∃ a o kvs, H a = some (.frz o (.dK kvs)) ∧ (∀ o' u, H0 a ≠ some (.frz o' u)) ∧ P (upd H a (.dK kvs))
def Ends.thaw (D : Ends) (H0 : Hp) : Ends where
  nx := fun σ H => Thaw H0 H (D.nx σ)
  rt := fun v H => Thaw H0 H (D.rt v)
  bk := fun σ H => Thaw H0 H (D.bk σ)
  ct := fun σ H => Thaw H0 H (D.ct σ)
def tThaw (H0 : Hp) (t : TS) : TS := fun D σ H => t (D.thaw H0) σ H
def tThawE (H0 : Hp) (t : TE) : TE := fun σ H Q => t σ H fun v H1 => Thaw H0 H1 (Q v)
theorem ps_thaw {X : Cx} {st : Stmt} {t : TS} {H0 : Hp} (h0 : X.H₀ = H0) (h : PS X st t) : PS X st (tThaw H0 t) := by
  subst h0
  intro pins s σ H D I q
  refine thn (h pins s σ H _ I q) fun f s1 z => ?_
  cases f with
  | next => obtain ⟨σ', H', I', a, o, kvs, e, n, q'⟩ := z; exact ⟨σ', _, I'.thaw e n, q'⟩
  | brk => obtain ⟨σ', H', I', a, o, kvs, e, n, q'⟩ := z; exact ⟨σ', _, I'.thaw e n, q'⟩
  | cont => obtain ⟨σ', H', I', a, o, kvs, e, n, q'⟩ := z; exact ⟨σ', _, I'.thaw e n, q'⟩
  | ret u => obtain ⟨v, σ', H', I', r, a, o, kvs, e, n, q'⟩ := z; exact ⟨v, σ', _, I'.thaw e n, r, q'⟩
theorem pe_thaw {X : Cx} {x : Expr} {t : TE} {H0 : Hp} (h0 : X.H₀ = H0) (h : PE X x t) : PE X x (tThawE H0 t) := by
  subst h0
  intro pins s σ H Q I q
  refine thn (h pins s σ H _ I q) fun u s1 ⟨v, H', I', r, a, o, kvs, e, n, q'⟩ => ⟨v, _, I'.thaw e n, r, q'⟩

/-! #### the keys -/
def Itdk (a : Addr) (o : Obj) (kvs : List (Key × V)) : It :=
  ⟨fun i H => i < kvs.length ∧ H a = some (.frz o (.dK kvs)), fun i H x H' => H' = H ∧ ∃ kv, kvs[i]? = some kv ∧ x = kV kv.1, fun i H => i = kvs.length ∧ H a = some (.frz o (.dK kvs))⟩
/-- what a frozen dict is -/
theorem frz_dict {X : Cx} {pins : List (Addr × Obj)} {σ : St} {H : Hp} {s : Shared} {a : Addr} {kvs : List (Key × V)} {o : Obj} {es : Array DictEntry} {ep : Nat} (I : Inv X pins σ H s) (e : H a = some (.frz o (.dK kvs))) (ho : o.data = .dict es ep) :
    (a == sysModules) = false ∧ ∃ vs, KV kvs vs ∧ s.heap.DictAt (mixKind X.prog X.w) a vs ep := by
  obtain ⟨h1, _, h2, vs, h3, ob, es', ep', h4, h5, h6, h7⟩ := (show ObjOk X.prog X.w H s.heap a (.frz o (.dK kvs)) from I.hok a _ e)
  have z := h1.symm.trans h4
  cases z
  rw [ho] at h6
  cases h6
  exact ⟨h2, vs, h3, o, es, h1, h5, ho, h7⟩
theorem kv_at {kvs : List (Key × V)} {vs : List (Key × Value)} {i : Nat} {kv : Key × V} (r : KV kvs vs) (h : kvs[i]? = some kv) : ∃ x, vs[i]? = some (kv.1, x) ∧ RelV kv.2 x := by
  have go : ∀ {l : List (Key × V)} {m : List (Key × Value)} {i : Nat} {p : Key × V}, Paired (fun (p : Key × V) (q : Key × Value) => p.1 = q.1 ∧ RelV p.2 q.2) l m → l[i]? = some p → ∃ x, m[i]? = some (p.1, x) ∧ RelV p.2 x := by
    intro l m i p r
    induction r generalizing i with
    | nil => intro h; cases h
    | cons a t ih =>
      intro h
      cases i with
      | zero => cases h; exact ⟨_, by rw [a.1]; rfl, a.2⟩
      | succ i => exact ih h
  exact go r h
theorem turn_dk {P : Program} {w : World} {K : PySem.W.Frag} {tg : Expr} (a it : Addr) (o : Obj) (kvs : List (Key × V)) {es : Array DictEntry} {ep : Nat} (ho : o.data = .dict es ep) : Turn P w K tg (Itdk a o kvs) [it] it (fun i h => h.IsKeyIter it a i kvs.length ep) where
  mem := by simp
  obj := fun i h st b hb => by
    have e : b = it := by simpa using hb
    subst e
    obtain ⟨oi, q, c, d⟩ := st
    exact ⟨oi, q, fun v z => by rw [d] at z; cases z⟩
  keep := fun i h h' st k => st.at fun ob q => k it (by simp) ob q
  item := by
    intro X hP hw hK hc i pins s σ H E I hf st hg
    subst hP hw hK
    obtain ⟨hi, hfz⟩ := hg
    obtain ⟨_, vs, rel, da⟩ := frz_dict I hfz ho
    have hlen : kvs.length = vs.length := KV.length rel
    obtain ⟨kv, hkv⟩ : ∃ kv, kvs[i]? = some kv := ⟨kvs[i], by simp [hi]⟩
    obtain ⟨x, hx, rx⟩ := kv_at rel hkv
    rw [hlen] at st
    refine wpAny_pyNext_dict_item st da hx fun key h' hkey st' sb => ?_
    have I1 : Inv X pins σ H { s with heap := h' } := I.turnedL (t' := s.toks) (fun b ob hb q => (sb.2 b (fun z => hb (by simp [z]))).trans q) hf
    obtain ⟨oi, q, c, d⟩ := id st'
    rw [← hlen] at st'
    exact ⟨key, rfl, go_of (s := { s with heap := h' }) q c d (by decide) ⟨kV kv.1, H, I1, keyRel hkey, ⟨rfl, kv, hkv, rfl⟩, st', fun b hb => (hf b hb).1⟩⟩
  done := by
    intro X hP hw hK hc i pins s σ H E I hf st hg
    subst hP hw hK
    obtain ⟨hi, hfz⟩ := hg
    obtain ⟨_, vs, rel, da⟩ := frz_dict I hfz ho
    have hlen : kvs.length = vs.length := KV.length rel
    rw [hlen] at st
    exact wpAny_pyNext_dict_end (I.ok.hd hc) st da (by simp; omega) fun h' ext => ⟨rfl, I.turnedL (t' := s.toks) (fun b ob hb q => ext b ob (fun z => hb (by simp [z])) q) hf⟩
  self := fun A i s Q E st q => wpAny_pyIter_keyiter st q
/-- for x in d -/
def iDict (td : TE) : TI := fun σ H R => td σ H fun x H1 => ∃ a kvs, x = .ref a ∧ H1 a = some (.dK kvs) ∧ ∀ o, R (Itdk a o kvs) (upd H1 a (.frz o (.dK kvs)))
theorem pi_dict {X : Cx} {tg d : Expr} {td : TE} (hd : PE X d td) : PI X tg d (iDict td) := by
  intro pins s σ H R I h
  refine thn (hd pins s σ H _ I h) fun v s1 ⟨x, H1, I1, r1, a, kvs, ex, e, q⟩ => ?_
  subst ex
  cases r1
  obtain ⟨o, ho, I2⟩ := I1.freeze e
  obtain ⟨_, hsm, vs, rel, ob, es, ep, h4, h5, h6, h7⟩ := (show ObjOk X.prog X.w H1 s1.heap a (.dK kvs) from I1.hok a _ e)
  rw [ho] at h4
  cases h4
  have da : s1.heap.DictAt (mixKind X.prog X.w) a vs ep := ⟨o, es, ho, h5, h6, h7⟩
  refine wpAny_pyIter_dict hsm da ?_
  refine ⟨s1.heap.objs.size, [s1.heap.objs.size], _, _, _, rfl, I2.kept (t' := s1.toks) fun b u q => Heap.get?_push_of_some _ q, turn_dk a _ o kvs h6, ?_, fun b hb => ?_, q o⟩
  · rw [KV.length rel]
    exact ⟨_, Heap.get?_push_size _ rfl, rfl, rfl⟩
  · have z : b = s1.heap.objs.size := by simpa using hb
    subst z
    exact I2.fpOk (Nat.le_refl _) (I2.hok.fresh (Nat.le_refl _))

/-! #### the items -/
def Itdi (a : Addr) (o : Obj) (kvs : List (Key × V)) : It :=
  ⟨fun i H => i < kvs.length ∧ H a = some (.frz o (.dK kvs)), fun i H x H' => ∃ p kv, H p = none ∧ kvs[i]? = some kv ∧ x = .ref p ∧ H' = upd H p (.tup [kV kv.1, kv.2]), fun i H => i = kvs.length ∧ H a = some (.frz o (.dK kvs))⟩
theorem entry_itemiter_iter : entryFor table "dict_itemiterator.__iter__" = some Builtin.«dict_keyiterator.__iter__» := entryFor_alias (id' := "dict_keyiterator.__iter__") (by kernel_rfl) rfl (by decide +kernel) (by kernel_rfl)
theorem iter_itemiter {prog : Program} {w : World} {A : Around} {E : Value → Shared → Prop} {s : Shared} {it d : Addr} {i n ep : Nat} {ok ov : Value} {Q : Value → Shared → Prop} (hit : IsItemIter s.heap it d i n ep ok ov) (h : Q (.ref it) s) :
    wpAny (model prog w) A (pyIter (.ref it)) Q E s := by
  have hT : s.TypeIs (.ref it) "dict_itemiterator" := ⟨_, hit, rfl⟩
  refine wpAny_pyIter_slot hT F.slot_dict_itemiterator_iter (wpAny_call_entry F.slot_dict_itemiterator_iter hT entry_itemiter_iter ?_ (F.args_dict_itemiterator_iter_1 _))
  exact wpAny_pure ⟨_, rfl, "dict_itemiterator", _, hT, F.slot_dict_itemiterator_next.lookup, h⟩
theorem turn_di {P : Program} {w : World} {K : PySem.W.Frag} {elts : List Expr} {k : Nat} {pos : Pos} (a it : Addr) (o : Obj) (kvs : List (Key × V)) {es : Array DictEntry} {ep : Nat} (ho : o.data = .dict es ep) :
    Turn P w K (.Tuple elts k pos) (Itdi a o kvs) [it] it (fun i h => ∃ ok ov, IsItemIter h it a i kvs.length ep ok ov) where
  mem := by simp
  obj := fun i h st b hb => by
    have e : b = it := by simpa using hb
    subst e
    obtain ⟨ok, ov, q⟩ := st
    exact ⟨_, q, fun v z => by cases (show Data.fields _ = Data.cell v from z)⟩
  keep := fun i h h' st k => by
    obtain ⟨ok, ov, q⟩ := st
    exact ⟨ok, ov, k it (by simp) _ q⟩
  item := by
    intro X hP hw hK hc i pins s σ H E I hf st hg
    subst hP hw hK
    obtain ⟨hi, hfz⟩ := hg
    obtain ⟨ok, ov, st⟩ := st
    obtain ⟨_, vs, rel, da⟩ := frz_dict I hfz ho
    have hlen : kvs.length = vs.length := KV.length rel
    obtain ⟨kv, hkv⟩ : ∃ kv, kvs[i]? = some kv := ⟨kvs[i], by simp [hi]⟩
    obtain ⟨x, hx, rx⟩ := kv_at rel hkv
    rw [hlen] at st
    refine wpAny_pyNext_items_item st da hx fun key h' hkey hout htup hsz hkeep => ?_
    refine ⟨_, rfl, wpAny_letOwnedTupleGo_items hout fun h2 he2 hs2 => ?_⟩
    have nit : s.heap.objs.size ≠ it := Nat.ne_of_gt (Heap.lt_size st)
    have new : ObjOk X.prog X.w (upd H s.heap.objs.size (.tup [kV kv.1, kv.2])) h2 s.heap.objs.size (.tup [kV kv.1, kv.2]) :=
      ⟨by show 2 ≤ sizeLine; decide, [key, x], .cons (keyRel hkey) (.cons rx .nil), _, (hs2.2 _ nit).trans htup, rfl, 0, rfl⟩
    have I1 := I.turnedNew (h' := h2) (t' := s.toks) (Nat.le_refl _) (fun b q hb z => (hs2.2 b (fun w => hb (by simp [w]))).trans (hkeep b q (fun w => hb (by simp [w])) z)) hf new
    refine ⟨.ref s.heap.objs.size, _, I1, rfl, ⟨s.heap.objs.size, kv, I.hok.fresh (Nat.le_refl _), hkv, rfl, rfl⟩, ⟨key, x, ?_⟩, fun b hb => ?_⟩
    · rw [hlen]; exact he2
    · have z : b = it := by simpa using hb
      subst z
      rw [upd_ne (Ne.symm nit)]
      exact (hf b hb).1
  done := by
    intro X hP hw hK hc i pins s σ H E I hf st hg
    subst hP hw hK
    obtain ⟨hi, hfz⟩ := hg
    obtain ⟨ok, ov, st⟩ := st
    obtain ⟨_, vs, rel, da⟩ := frz_dict I hfz ho
    have hlen : kvs.length = vs.length := KV.length rel
    rw [hlen] at st
    exact wpAny_pyNext_items_end (I.ok.hd hc) st da (by simp; omega) fun h' ext => ⟨rfl, I.turnedL (t' := s.toks) (fun b ob hb q => ext b ob (fun z => hb (by simp [z])) q) hf⟩
  self := fun A i s Q E st q => by
    obtain ⟨ok, ov, st⟩ := st
    exact iter_itemiter st q
/-- for k, v in d.items() -/
def iItems (td : TE) : TI := fun σ H R => td σ H fun x H1 => ∃ a kvs, x = .ref a ∧ H1 a = some (.dK kvs) ∧ ∀ o, R (Itdi a o kvs) (upd H1 a (.frz o (.dK kvs)))
theorem pi_items {X : Cx} {d : Expr} {td : TE} {elts : List Expr} {k : Nat} {tp apos cpos : Pos} (hd : PE X d td) (hbase : attributeBase d "items" X.env (eval d X.env) = eval d X.env := by rfl) (hline : (apos.endLine == cpos.line) = true := by rfl) :
    PI X (.Tuple elts k tp) (.Call (.Attribute d "items" apos) [] [] cpos) (iItems td) := by
  intro pins s σ H R I h
  refine wpAny_Call_method0_late hbase hline (thn (hd pins s σ H _ I h) fun v s1 ⟨x, H1, I1, r1, a, kvs, ex, e, q⟩ => ?_)
  subst ex
  cases r1
  obtain ⟨t1, t2, hsm⟩ := isD_at I1 (.inl ⟨kvs, .inl e⟩)
  obtain ⟨o, ho, I2⟩ := I1.freeze e
  obtain ⟨_, _, vs, rel, ob, es, ep, h4, h5, h6, h7⟩ := (show ObjOk X.prog X.w H1 s1.heap a (.dK kvs) from I1.hok a _ e)
  rw [ho] at h4
  cases h4
  have da : s1.heap.DictAt (mixKind X.prog X.w) a vs ep := ⟨o, es, ho, h5, h6, h7⟩
  refine ⟨"dict", "dict.items", F.plainAttrs_dict, F.slot_dict_items, F.type_dict_items, t1, t2, Calls.callWith_builtin rfl (PySem.evalArgs_none ?_)⟩
  refine call_meetsIn F.slot_dict_items t1 F.entry_dict_items (F.args_dict_items_1 _) (meets_dict_items (mixKind X.prog X.w) a hsm) ⟨⟨vs, da.dictOf⟩, ?_⟩
  have hz : (s1.heap.push { cls := .type "dict_items", data := .fields #[.ref a] }).objs.size = s1.heap.objs.size + 1 := Heap.size_push ..
  refine wpAny_pyIter_items (knd := mixKind X.prog X.w) (d := a) (kvs := vs) (ep := ep) ⟨_, Heap.get?_push_size _ rfl, rfl, rfl⟩ (da.push _) ?_
  refine ⟨(s1.heap.push { cls := .type "dict_items", data := .fields #[.ref a] }).objs.size, [(s1.heap.push { cls := .type "dict_items", data := .fields #[.ref a] }).objs.size], _, _, _, rfl,
    I2.kept (t' := s1.toks) fun b u q => Heap.get?_push_of_some _ (Heap.get?_push_of_some _ q), turn_di a _ o kvs h6, ?_, fun b hb => ?_, q o⟩
  · rw [KV.length rel]
    exact ⟨_, _, Heap.get?_push_size _ rfl⟩
  · have z : b = (s1.heap.push { cls := .type "dict_items", data := .fields #[.ref a] }).objs.size := by simpa using hb
    have z2 : s1.heap.objs.size ≤ b := by rw [z, hz]; exact Nat.le_succ _
    exact I2.fpOk z2 (I2.hok.fresh z2)

/-! #### loops, comprehensions -/
section
variable {a l : Addr} {o : Obj} {kvs : List (Key × V)} {g : TG} {tb : TS} {D : Ends} {σ : St} {H : Hp} {tt : TT} {te tk tv : TE} {Q : VK}
theorem for_di (Pv : Nat → St → Hp → Prop) (h0 : Pv 0 σ H) (hl : ∀ i σ H', i ≤ kvs.length → Pv i σ H' → H' a = some (.frz o (.dK kvs)))
    (hs : ∀ i kv p σ H', kvs[i]? = some kv → Pv i σ H' → H' p = none → g (.ref p) σ (upd H' p (.tup [kV kv.1, kv.2])) fun σ2 H2 => tb { D with nx := Pv (i + 1), ct := Pv (i + 1), bk := D.nx } σ2 H2) (hd : ∀ σ H', Pv kvs.length σ H' → D.nx σ H') :
    ∃ W : Nat → Nat → St → Hp → Prop, (∃ m, W 0 m σ H) ∧ ∀ i m σ H, W i m σ H →
      ((Itdi a o kvs).stop i H ∧ D.nx σ H) ∨ ((Itdi a o kvs).go i H ∧ ∃ N : St → Hp → Prop, (∀ σ' H', N σ' H' → ∃ m', m' < m ∧ W (i + 1) m' σ' H') ∧ ∀ x H', (Itdi a o kvs).yld i H x H' → g x σ H' fun σ2 H2 => tb { D with nx := N, ct := N, bk := D.nx } σ2 H2) := by
  refine ⟨fun i m σ H => m = kvs.length - i ∧ i ≤ kvs.length ∧ Pv i σ H, ⟨kvs.length, by simp, Nat.zero_le _, h0⟩, ?_⟩
  rintro i m σ H ⟨rfl, hi, p⟩
  have q := hl i σ H hi p
  by_cases hlt : i < kvs.length
  · refine .inr ⟨⟨hlt, q⟩, Pv (i + 1), fun σ' H' p' => ⟨kvs.length - (i + 1), by omega, rfl, hlt, p'⟩, fun x H' y => ?_⟩
    obtain ⟨pa, kv, hp, hkv, rfl, rfl⟩ := y
    exact hs i kv pa σ H hkv p hp
  · have e : i = kvs.length := by omega
    subst e
    exact .inl ⟨⟨rfl, q⟩, hd σ H p⟩
theorem comp_di {σ0 : St} {H0 : Hp} (Pv : Nat → St → Hp → Prop) (h0 : Pv 0 σ0 H0) (hl : ∀ i σ H', i ≤ kvs.length → Pv i σ H' → H' a = some (.frz o (.dK kvs)))
    (hs : ∀ i kv p σ H', kvs[i]? = some kv → Pv i σ H' → H' p = none → g (.ref p) σ (upd H' p (.tup [kV kv.1, kv.2])) fun σ3 H3 => tt σ3 H3 fun b H4 => if b = true then te σ3 H4 fun y H5 => ∃ ys, H5 l = some (.lst ys) ∧ ys.length < sizeLine ∧ Pv (i + 1) σ3 (upd H5 l (.lst (ys ++ [y]))) else Pv (i + 1) σ3 H4)
    (hd : ∀ σ H', Pv kvs.length σ H' → Q (.ref l) H') : CWant (Itdi a o kvs) g tt te Q σ0 H0 l := by
  unfold CWant
  refine ⟨fun i m σ H' => m = kvs.length - i ∧ i ≤ kvs.length ∧ Pv i σ H', ⟨kvs.length, by simp, Nat.zero_le _, h0⟩, ?_⟩
  rintro i m σ H' ⟨rfl, hi, p⟩
  have q := hl i σ H' hi p
  by_cases hlt : i < kvs.length
  · refine .inr ⟨⟨hlt, q⟩, Pv (i + 1), fun σ3 H3 p' => ⟨kvs.length - (i + 1), by omega, rfl, hlt, p'⟩, fun x H2 y => ?_⟩
    obtain ⟨pa, kv, hp, hkv, rfl, rfl⟩ := y
    exact hs i kv pa σ H' hkv p hp
  · have e : i = kvs.length := by omega
    subst e
    exact .inl ⟨⟨rfl, q⟩, hd σ H' p⟩
/-- {k: v for .. in t}, t a tuple -/
theorem dcomp_tup {K : PySem.W.Frag} {xs : List V} {σ0 : St} {H0 : Hp} (Pv : Nat → St → Hp → Prop) (h0 : Pv 0 σ0 H0) (hl : ∀ i σ H', i ≤ xs.length → Pv i σ H' → SqT K H' a xs)
    (hs : ∀ i x σ H', xs[i]? = some x → Pv i σ H' → g x σ H' fun σ3 H3 => tt σ3 H3 fun b H4 => if b = true then tk σ3 H4 fun y H5 => tv σ3 H5 fun z H6 => ∃ (kvs : List (Key × V)) (k : Key), H6 l = some (.dK kvs) ∧ y = kV k ∧ kvs.length < sizeLine ∧ Pv (i + 1) σ3 (upd H6 l (.dK (putK kvs k z))) else Pv (i + 1) σ3 H4)
    (hd : ∀ σ H', Pv xs.length σ H' → Q (.ref l) H') : DWant (Itt K a) g tt tk tv Q σ0 H0 l := by
  unfold DWant
  refine ⟨fun i m σ H' => m = xs.length - i ∧ i ≤ xs.length ∧ Pv i σ H', ⟨xs.length, by simp, Nat.zero_le _, h0⟩, ?_⟩
  rintro i m σ H' ⟨rfl, hi, p⟩
  have q := hl i σ H' hi p
  by_cases hlt : i < xs.length
  · refine .inr ⟨⟨xs, xs[i], q, by simp [hlt]⟩, Pv (i + 1), fun σ3 H3 p' => ⟨xs.length - (i + 1), by omega, rfl, hlt, p'⟩, fun x H2 y => ?_⟩
    obtain ⟨e, y⟩ := y
    subst e
    exact hs i x σ _ (y xs q) p
  · have e : i = xs.length := by omega
    subst e
    exact .inl ⟨⟨xs, q, Nat.le_refl _⟩, hd σ H' p⟩
end
end L2

set_option Elab.async false
set_option linter.all false
set_option maxRecDepth 100000
set_option maxHeartbeats 1000000

/-! ### sorted(l), l a list of tuples of whole numbers: some order of the same -/
namespace L2
open PySem PySem.Spec PyProof.Rows
open PySem.W (KasT kas_asc kas_desc kas_rev kas_tail3 kas_descPart kas_count kas_place kas_bin kas_sort)
def Pm (n : Nat) (p : Array Nat) : Prop := p.toList.Perm (List.range n)
theorem Pm.lt {n : Nat} {p : Array Nat} (h : Pm n p) (n0 : 0 < n) (i : Nat) : p.getD i 0 < n := by
  by_cases hi : i < p.size
  · have e : p.getD i 0 = p[i] := by simp [hi]
    rw [e]
    have hm : p[i] ∈ p.toList := by simp
    exact List.mem_range.mp (h.mem_iff.mp hm)
  · have e : p.getD i 0 = 0 := by simp [hi]
    rw [e]; exact n0
section
variable {n : Nat} (n0 : 0 < n)
include n0
end
section
variable {prog : Program} {w : World} {A : Around} {E : Value → Shared → Prop} {s : Shared}
end
end L2

set_option Elab.async false
set_option linter.all false
set_option maxRecDepth 100000
set_option maxHeartbeats 1000000
/-! ### methods that may raise; isinstance(x, (int, str)) -/
namespace L2
open PySem PySem.Spec PyProof.Rows
structure GoodMX (P : Program) (w : World) (K : PySem.W.Frag) (mg : Str → Option Value) (base : Heap) (C : Addr) (m : Str) (k : Nat) (ps : List Str) (sp : Sp) : Prop where
  ex : ∃ (f : Addr) (fd : FuncData), Meth K C m f ∧ Binds K fd ps [] ∧ FnOk P w K mg base (CX1 P w) k f fd ps sp
theorem CodeM.goodX {P : Program} {w : World} {K : PySem.W.Frag} {mg : Str → Option Value} {base : Heap} {C : Addr} {m qn : Str} {st : Stmt} {ps N : List Str} {k : Nat} {sp : Sp} (c : CodeM K C m qn st ps) (S : FnScope N ps (defScope st)) (len : ∀ vs H Q E, sp vs H Q E → vs.length = ps.length)
    (hbody : ∀ (X : Cx) (f : Addr) (cdv : Value) (A : Around) (outer : List Env) (s : Shared) (H : Hp) (vs : List V) (Q : VK) (E : XK), X = cxOf (CX1 P w) P w K mg base N qn (defScope st) f cdv A outer s H E → PassX X (fun _ => E) → Room k X.A → sp vs H Q E →
      ∃ t, PSs X (defBody st) t ∧ t { nx := fun _ H' => Q .non H', rt := Q } (start N vs) H) : GoodMX P w K mg base C m (k + 1) ps sp := by
  obtain ⟨f, fd, F, M, b⟩ := c.ex
  refine ⟨f, fd, M, b, ?_⟩
  obtain ⟨oc, od, kV, doc, pm, an, cdv, ct, osl, rfl, lk, hcd⟩ := F.ex
  exact fn_of lk hcd S len fun A outer s H vs Q E hr hsp => hbody _ f cdv A outer s H vs Q E rfl pass_def hr hsp
def tMethX (C : Addr) (m : Str) (sp : Sp) (EX : St → XK) (ta : TE) (t : TA) : TE := fun σ H Q => ta σ H fun x H1 => ∃ a dx fs, x = .ref a ∧ H1 a = some (.ins C dx fs) ∧ fs.lookup m = none ∧ t σ H1 fun vs H2 => sp (x :: vs) H2 Q (EX σ)
theorem pmethX {X : Cx} {EX : St → XK} {pl : Sem Bool} {k k' : Nat} {C : Addr} {ps : List Str} {sp : Sp} {m : Str} {apos pos : Pos} {o e : Expr} {es : List Expr} {ta : TE} {t : TA} (he0 : PE X o ta) (c : Cls X.K C) (g : GoodMX X.prog X.w X.K X.mg X.base C m k ps sp) (hr : Room k' X.A) (hx : PassX X EX) (ha : PA X (e :: es) t) (hk : k ≤ k' := by decide)
    (hst : starEach (e :: es) X.env = (false, eval e X.env) :: starEach es X.env := by rfl) (hpl : (backTo pos (starEach es X.env)).any (·.1) = false := by rfl)
    (ht : eval (.Call (.Attribute o m apos) (e :: es) [] pos) X.env = (do
      let ov ← eval o X.env
      standAt apos.atName
      let (f, first) ← holding [ov] (getMethod ov m pl)
      callWith pos f first (backTo pos (starEach (e :: es) X.env)) (backToKw pos (keywordEach [] X.env))) := by rfl) :
    PE X (.Call (.Attribute o m apos) (e :: es) [] pos) (tMethX C m sp EX ta t) := by
  intro pins s σ H Q I h
  obtain ⟨f, fd, hm, b, F⟩ := g.ex
  refine PySem.W.methodCall_KW (pl := pl) (thn (he0 pins s σ H _ I h) fun u s1 ⟨x, H1, I1, rx, a, dx, fs, ex, ea, l, q⟩ => ?_) ht
  subst ex
  obtain rfl : u = Value.ref a := rx
  refine getmeth_ok I1 ea c hm l ?_
  refine PySem.W.callWith_K (first := [.ref a]) (h₀ := X.base) I.ok.mod.kin hm.kp (thn (ha pos pins s1 σ H1 _ I1 q) fun us s2 ⟨vs, H2, I2, r, q2⟩ => ⟨I2.kIn, ?_⟩) hst hpl
  have r' : Vals (.ref a :: vs) (Value.ref a :: us) := .cons rfl r
  have hl : (Value.ref a :: us).length = ps.length := by rw [← r'.length]; exact F.len _ _ _ _ q2
  have bd := b s2 (Value.ref a :: us) I2.kIn (by rw [List.append_nil]; exact hl)
  rw [List.append_nil] at bd
  refine wpAny_call (codeAny_mono (F.run X.A X.stack s2 H2 ⟨Value.ref a :: us, []⟩ (Value.ref a :: us) (.ref a :: vs) Q (EX σ) (hr.mono hk) I2.env0 bd r' q2) fun rr s' hq => ?_)
  cases rr with
  | error ev => exact hx pins σ H2 s2 ev s' I2 hq
  | ok fl =>
    cases fl with
    | ret u => exact I2.after hq
    | next => exact False.elim hq
    | brk => exact False.elim hq
    | cont => exact False.elim hq
end L2

set_option Elab.async false
set_option linter.all false
set_option maxRecDepth 100000
set_option maxHeartbeats 1000000

/-! ### sorted(l) rises: l a list of tuples of whole numbers whose first ones differ, or of whole numbers -/
namespace L2
open PySem PySem.Spec PyProof.Rows
open PySem.W (KasT kas_asc kas_desc kas_rev kas_tail3 kas_descPart kas_count kas_place kas_bin kas_sort)
section
variable {n : Nat} {ky : Nat → Int}
def Gk (ky : Nat → Int) (p : Array Nat) (i : Nat) : Int := ky (p.getD i 0)
def Inj (n : Nat) (ky : Nat → Int) : Prop := ∀ i j, i < n → j < n → ky i = ky j → i = j
def Rise (ky : Nat → Int) (p : Array Nat) (m : Nat) : Prop := ∀ i, i + 1 < m → Gk ky p i < Gk ky p (i + 1)
def RiseT (ky : Nat → Int) (p : Array Nat) (m : Nat) : Prop := ∀ i j, i < j → j < m → Gk ky p i < Gk ky p j
theorem Rise.all {p : Array Nat} {m : Nat} (h : Rise ky p m) : RiseT ky p m := fun i j hij hj => by
  induction j with
  | zero => omega
  | succ j ih =>
    have h1 := h j hj
    by_cases e : i = j
    · rw [e]; exact h1
    · exact Int.lt_trans (ih (by omega) (by omega)) h1
theorem nd_inj {α : Type} {l : List α} (nd : l.Nodup) {i j : Nat} (hi : i < l.length) (hj : j < l.length) (e : l[i] = l[j]) : i = j := by
  rcases Nat.lt_trichotomy i j with h | h | h
  · exact absurd e (List.pairwise_iff_getElem.mp nd i j hi hj h)
  · exact h
  · exact absurd e.symm (List.pairwise_iff_getElem.mp nd j i hj hi h)
theorem Pm.size {p : Array Nat} (h : Pm n p) : p.size = n := by
  have := List.Perm.length_eq h
  simpa using this
theorem Pm.ne (hi : Inj n ky) {p : Array Nat} (h : Pm n p) {i j : Nat} (a : i < n) (b : j < n) (ne : i ≠ j) : Gk ky p i ≠ Gk ky p j := fun e => by
  have n0 : 0 < n := by omega
  have hs := h.size
  have e := hi _ _ (h.lt n0 i) (h.lt n0 j) e
  have nd : p.toList.Nodup := (List.Perm.nodup_iff h).mpr List.nodup_range
  have e1 : p.getD i 0 = p.toList[i]'(by simp [hs, a]) := by simp [hs, a]
  have e2 : p.getD j 0 = p.toList[j]'(by simp [hs, b]) := by simp [hs, b]
  rw [e1, e2] at e
  exact ne (nd_inj nd _ _ e)
theorem RiseT.list {p : Array Nat} (h : Pm n p) (R : RiseT ky p n) : (p.toList.map ky).Pairwise (· < ·) := by
  have hs := h.size
  rw [List.pairwise_iff_getElem]
  intro i j hi hj hij
  have hi' : i < n := by simpa [hs] using hi
  have hj' : j < n := by simpa [hs] using hj
  have := R i j hij hj'
  unfold Gk at this
  have e1 : p.getD i 0 = p[i]'(by omega) := by simp [hs, hi']
  have e2 : p.getD j 0 = p[j]'(by omega) := by simp [hs, hj']
  rw [e1, e2] at this
  simpa using this
end

section
variable {prog : Program} {w : World} {A : Around} {s : Shared}
end
end L2

set_option Elab.async false
set_option linter.all false
set_option maxRecDepth 100000
set_option maxHeartbeats 4000000
set_option pp.maxSteps 400
/-! ### a name bound to a dict comprehension on its own row -/
namespace L2
open PySem PySem.Spec PyProof.Rows
/-- name = {k: v for tg in iter if ..} -/
theorem ps_setDC {X : Cx} {N' : List Str} {src : List (Option Nat)} {sc : Scope} {kx vx tg iter : Expr} {ifs : List Expr} {pos spos px : Pos} {wi : TI} {g : TG} {tt : TT} {tk tv : TE} {i : Nat} {x : Str} (hN : X.N.Nodup) (hi0 : X.N[i]? = some x) (hx : Loc X.env.scope x) (hc : X.calm = true) (S : CScope X N' src sc)
    (hi : PI X tg iter wi) (hg : ∀ s3 H3 fp pn, PG (cxC X N' sc s3 H3 fp pn) tg g) (ht : ∀ s3 H3 fp pn, PF (cxC X N' sc s3 H3 fp pn) ifs tt) (hk : ∀ s3 H3 fp pn, PE (cxC X N' sc s3 H3 fp pn) kx tk) (hv : ∀ s3 H3 fp pn, PE (cxC X N' sc s3 H3 fp pn) vx tv)
    (hsw : swapsWith (.DictComp kx vx [⟨tg, iter, ifs, 0⟩] sc pos) (some (.Name x px)) spos.line X.env = pure true := by rfl) (hs : ∀ x, foldedSetIterable iter X.env x = pure x := by intro _; rfl)
    (hf : X.fn x = true ∨ X.env.scope.names.lookup x = some .local := by first | exact .inl rfl | exact .inr rfl | assumption) :
    PS X (.Assign [.Name x px] (.DictComp kx vx [⟨tg, iter, ifs, 0⟩] sc pos) spos) (tAsg (tDComp wi src g tt tk tv) (gName i)) := by
  intro pins s σ H D I h
  rw [exec_Assign_Name_used _ _ _ _ hsw]
  refine wpAny_bind (wpAny_standAt (wpAny_bind ?_))
  show wpAny _ X.A (do let _ ← comprehension (.DictComp kx vx [⟨tg, iter, ifs, 0⟩] sc pos) sc X.env _ newDict false (eval iter X.env) (some (assign (.Name x px) X.env))) _ _ s
  refine wpAny_bind (thn (compd_core (R := fun _ s' => SP X pins D .next s') hc S hi hg ht hk hv hs I h fun s3 H3 fp σ4 H4 s5 l I3 f3 J5 q => ?_) fun _ s' hq => wpAny_pure (wpAny_pure hq))
  obtain ⟨m, ⟨oC, es, ep, hoC, r⟩, _⟩ := J5.loc
  have I6 : Inv X pins σ H4 { s5 with heap := s5.heap } := cx_end I3 f3 J5 (Heap.SameBut.refl _ _)
  have hCn : H4 s3.heap.objs.size = none := J5.free
  have neL : s3.heap.objs.size ≠ X.env.locals := Nat.ne_of_gt I3.lt
  have ndat : ∀ v, oC.data ≠ .cell v := fun v z => by rw [r.1] at z; cases z
  have I7 : Inv X (pins ++ [(s3.heap.objs.size, oC)]) σ H4 s5 := I6.pins_of fun p hp => (List.mem_append.mp hp).elim (fun z => I6.pin p (List.mem_append_right _ z)) fun z => by
    cases List.mem_singleton.mp z
    exact ⟨hoC, hCn, neL, I3.nofs (Nat.le_refl _), ndat⟩
  show wpAny _ X.A (assign (.Name x px) X.env (.ref l)) _ _ s5
  refine wpAny_assign_Name (store_ok (v := .ref l) I7 hN hi0 hx rfl (fun s6 I8 => ?_) hf)
  have k8 := (I8.pin (s3.heap.objs.size, oC) (List.mem_append_right _ (List.mem_append_right _ (List.mem_singleton.mpr rfl)))).1
  refine ⟨m, ⟨oC, es, ep, k8, r⟩, fun h' sb => ⟨_, H4, ?_, q⟩⟩
  have I9 := I8.unpinned
  refine I9.turned (t' := s6.toks) (fun b o hb e => sb.extBut b o hb e) hCn neL (.inr I3.sz) (fun y c e z => ?_) (fun p hp z => ?_)
  · obtain ⟨v, o, ho, _⟩ := I3.cell y c e
    exact absurd (Heap.lt_size ho) (by rw [z]; exact Nat.lt_irrefl _)
  · have := (I3.pin p hp).1
    exact absurd (Heap.lt_size this) (by rw [z]; exact Nat.lt_irrefl _)
end L2

set_option Elab.async false
set_option linter.all false
set_option maxRecDepth 100000
set_option maxHeartbeats 4000000
set_option pp.maxSteps 400
/-! ### the same rules, a new list given by what is true of the heap -/
namespace L2
open PySem PySem.Spec PyProof.Rows
def rLstS (K : PySem.W.Frag) : List V → Hp → VK → Prop := fun xs H Q => ∃ p ys, xs = [.ref p] ∧ (SqL K H p ys ∨ SqT K H p ys) ∧ ∀ l H', H l = none → H' l = some (.lst ys) → Same H H' → Q (.ref l) H'
def tLstS (t : TA) : TE := fun σ H Q => t σ H fun xs H1 => xs.length ≤ sizeLine ∧ ∀ p H', H1 p = none → H' p = some (.lst xs) → Same H1 H' → Q (.ref p) H'
section
variable {X : Cx}
theorem call_list_ofS : CallR X (.type "list") (rLstS X.K) := by
  intro pins s σ H xs us Q I r h
  obtain ⟨p, ys, e1, hq, q⟩ := h
  exact call_list_of pins s σ H xs us Q I r ⟨p, ys, e1, hq, fun l hl => q l _ hl upd_same (same_new hl _)⟩
theorem pe_lstS {es : List Expr} {t : TA} {pos : Pos} (h : PA X es t) : PE X (.List es pos) (tLstS t) := by
  intro pins s σ H Q I hq
  refine wpAny_List_spliced (thn (h pos pins s σ H _ I hq) fun us s1 ⟨xs, H1, I1, r, z, q⟩ => ⟨by rw [← r.length]; exact z, ?_⟩)
  have hf : H1 s1.heap.objs.size = none := I1.hok.fresh (Nat.le_refl _)
  refine ⟨.ref s1.heap.objs.size, upd H1 s1.heap.objs.size (.lst xs), I1.laid (t' := s1.toks) (fun b u e => Heap.get?_push_of_some _ e) (Nat.le_refl _) ?_, rfl, q _ _ hf upd_same (same_new hf _)⟩
  exact ⟨z, us, 0, r, Heap.get?_push_size _ rfl⟩
end
end L2

set_option Elab.async false
set_option linter.all false
set_option maxRecDepth 100000
set_option maxHeartbeats 1000000
set_option pp.maxSteps 400
/-! ### list.insert; {k: v for k in d} -/
namespace L2
open PySem PySem.Spec PyProof.Rows
def rInsert : V → List V → Hp → VK → Prop := fun x vs H Q => ∃ l xs i y, x = .ref l ∧ vs = [.int i, y] ∧ H l = some (.lst xs) ∧ 0 ≤ i ∧ i < 2 ^ 62 ∧ xs.length < sizeLine ∧ Q .non (upd H l (.lst (xs.take (min i.toNat xs.length) ++ y :: xs.drop (min i.toNat xs.length))))
theorem mt_insert {X : Cx} : MtM X "list.insert" rInsert := by
  intro pins s σ H x vs v us Q I rx rv h
  obtain ⟨l, xs, i, y, rfl, rfl, hH, h1, h2, hz, q⟩ := h
  cases rx
  obtain ⟨u, u2, rfl, ru, ru2⟩ := vals2 rv
  obtain ⟨t, rfl⟩ := ru
  obtain ⟨z, its, n, r, hl, e⟩ := I.lstM hH
  have hf : Builtin.List.listFitsIndex i = true := fitsIndex_both (by omega) (by omega)
  refine call_meets F.slot_list_insert ⟨_, e, rfl⟩ F.entry_list_insert (F.args_list_insert_3 _ _ _) (AutoSeq1.list_insert_list_int_val_1 l its.toArray n i t u2 (by rw [hf]; simp) (by rw [List.size_toArray]; omega)) ⟨e, ?_⟩
  refine ⟨.non, _, I.lset (its' := its.take (min i.toNat its.length) ++ u2 :: its.drop (min i.toNat its.length)) hH e ?_ ?_ ?_, rfl, q⟩
  · show (let k := if i < 0 then (i + (its.toArray.size : Int)).toNat else min i.toNat its.toArray.size; (its.toArray.extract 0 k).push u2 ++ its.toArray.extract k) = _
    rw [if_neg (by omega)]
    apply Array.toList_inj.mp
    simp
    exact List.take_of_length_le (by rw [List.length_drop]; exact Nat.le_refl _)
  · rw [← hl]
    exact (r.take _).append (.cons ru2 (r.drop _))
  · rw [List.length_append, List.length_cons, List.length_take, List.length_drop]
    omega
section
variable {a l : Addr} {o : Obj} {kvs : List (Key × V)} {g : TG} {tt : TT} {tk tv : TE} {Q : VK}
theorem dcomp_dk {σ0 : St} {H0 : Hp} (Pv : Nat → St → Hp → Prop) (h0 : Pv 0 σ0 H0) (hl : ∀ i σ H', i ≤ kvs.length → Pv i σ H' → H' a = some (.frz o (.dK kvs)))
    (hs : ∀ i kv σ H', kvs[i]? = some kv → Pv i σ H' → g (kV kv.1) σ H' fun σ3 H3 => tt σ3 H3 fun b H4 => if b = true then tk σ3 H4 fun y H5 => tv σ3 H5 fun z H6 => ∃ (kvs : List (Key × V)) (k : Key), H6 l = some (.dK kvs) ∧ y = kV k ∧ kvs.length < sizeLine ∧ Pv (i + 1) σ3 (upd H6 l (.dK (putK kvs k z))) else Pv (i + 1) σ3 H4)
    (hd : ∀ σ H', Pv kvs.length σ H' → Q (.ref l) H') : DWant (Itdk a o kvs) g tt tk tv Q σ0 H0 l := by
  unfold DWant
  refine ⟨fun i m σ H' => m = kvs.length - i ∧ i ≤ kvs.length ∧ Pv i σ H', ⟨kvs.length, by simp, Nat.zero_le _, h0⟩, ?_⟩
  rintro i m σ H' ⟨rfl, hi, p⟩
  have q := hl i σ H' hi p
  by_cases hlt : i < kvs.length
  · refine .inr ⟨⟨hlt, q⟩, Pv (i + 1), fun σ3 H3 p' => ⟨kvs.length - (i + 1), by omega, rfl, hlt, p'⟩, fun x H2 y => ?_⟩
    obtain ⟨rfl, kv, hkv, rfl⟩ := y
    exact hs i kv σ _ hkv p
  · have e : i = kvs.length := by omega
    subst e
    exact .inl ⟨⟨rfl, q⟩, hd σ H' p⟩
end
end L2

set_option Elab.async false
set_option linter.all false
/-! ### pieces of long literals: further kinds -/
namespace L2
open PySem
theorem st_bin {a b : Expr} {op : Operator} {p : Pos} {es : List Expr} {env : Env} : starEach (.BinOp a op b p :: es) env = (false, eval (.BinOp a op b p) env) :: starEach es env := by rfl
theorem st_un {a : Expr} {op : UnaryOp} {p : Pos} {es : List Expr} {env : Env} : starEach (.UnaryOp op a p :: es) env = (false, eval (.UnaryOp op a p) env) :: starEach es env := by rfl
theorem st_lst {as : List Expr} {p : Pos} {es : List Expr} {env : Env} : starEach (.List as p :: es) env = (false, eval (.List as p) env) :: starEach es env := by rfl
theorem st_sub {a b : Expr} {p : Pos} {es : List Expr} {env : Env} : starEach (.Subscript a b p :: es) env = (false, eval (.Subscript a b p) env) :: starEach es env := by rfl
end L2

set_option Elab.async false
set_option linter.all false
set_option maxRecDepth 100000
set_option maxHeartbeats 4000000
namespace K15
open PySem L2
def top (i : Nat) : Stmt := PySem.Challenge.pw_warnloop_k15_one_beat.main.body.getD i (.Pass ⟨0, 0, 0, 0⟩)
theorem bt_isinstance : bootBuiltins "isinstance" = some (.builtin "isinstance") := by decide +kernel
theorem bt_int : bootBuiltins "int" = some (.type "int") := by decide +kernel
theorem bt_bool : bootBuiltins "bool" = some (.type "bool") := by decide +kernel
theorem bt_tuple : bootBuiltins "tuple" = some (.type "tuple") := by decide +kernel
theorem bt_list : bootBuiltins "list" = some (.type "list") := by decide +kernel
theorem bt_len : bootBuiltins "len" = some (.builtin "len") := by decide +kernel
theorem bt_all : bootBuiltins "all" = some (.builtin "all") := by decide +kernel
theorem bt_abs : bootBuiltins "abs" = some (.builtin "abs") := by decide +kernel
theorem bt_max : bootBuiltins "max" = some (.builtin "max") := by decide +kernel
theorem bt_sorted : bootBuiltins "sorted" = some (.builtin "sorted") := by decide +kernel
theorem bt_min : bootBuiltins "min" = some (.builtin "min") := by decide +kernel
/-- the built-in names that the text does not bind -/
structure Nm (mg : Str → Option Value) : Prop where
  isinstance : mg "isinstance" = none
  int : mg "int" = none
  bool : mg "bool" = none
  tuple : mg "tuple" = none
  list : mg "list" = none
  str : mg "str" = none
  len : mg "len" = none
  all : mg "all" = none
  abs : mg "abs" = none
  max : mg "max" = none
  min : mg "min" = none
  range : mg "range" = none
  sorted : mg "sorted" = none
  any : mg "any" = none
  sum : mg "sum" = none
  enumerate : mg "enumerate" = none
  zip : mg "zip" = none
  reversed : mg "reversed" = none
  dict : mg "dict" = none
  ord : mg "ord" = none
abbrev s_l_bag : Stmt := top 28
abbrev p_l_bag : List Str := ["_law_script", "_law_k"]
theorem sc_l_bag : FnScope ["_law_script", "_law_k", "_law_cell"] p_l_bag (defScope s_l_bag) := ⟨rfl, rfl, rfl, by decide +kernel, rfl, by decide +kernel, by decide +kernel⟩
abbrev s_l_take : Stmt := top 29
abbrev p_l_take : List Str := ["_law_bag_here", "_law_many"]
theorem sc_l_take : FnScope ["_law_bag_here", "_law_many", "_law_digit", "_law_primes", "_law_step", "_law_base", "_law_found"] p_l_take (defScope s_l_take) := ⟨rfl, rfl, rfl, by decide +kernel, rfl, by decide +kernel, by decide +kernel⟩
theorem isW_eq (v : V) : isW v = (isI v && !isB v) := by cases v <;> rfl
/-- a bag of draws: three whole numbers, the last one (how often it was drawn by the second) at most n -/
def BagAt (H : Hp) (b : Addr) (n : Nat) : Prop := ∃ x y z : Int, H b = some (.lst [.int x, .int y, .int z]) ∧ 0 ≤ x ∧ 0 ≤ y ∧ y ≤ 4294967296 ∧ 0 ≤ z ∧ z ≤ n
theorem BagAt.same {H H' : Hp} {b : Addr} {n : Nat} (h : BagAt H b n) (s : Same H H') : BagAt H' b n := by
  obtain ⟨x, y, z, e, r⟩ := h
  exact ⟨x, y, z, s _ _ e, r⟩
theorem BagAt.mono {H : Hp} {b : Addr} {n m : Nat} (h : BagAt H b n) (l : n ≤ m) : BagAt H b m := by
  obtain ⟨x, y, z, e, h1, h2, h3, h4, h5⟩ := h
  exact ⟨x, y, z, e, h1, h2, h3, h4, by omega⟩
theorem BagAt.nb {H : Hp} {b p : Addr} {n : Nat} (h : BagAt H b n) (hp : H p = none) : b ≠ p := by obtain ⟨_, _, _, e, _⟩ := h; exact ne_of_none e hp
theorem BagAt.ntup {H : Hp} {b : Addr} {n : Nat} (h : BagAt H b n) : ∀ xs, H b ≠ some (.tup xs) := fun xs z => by obtain ⟨_, _, _, e, _⟩ := h; rw [e] at z; cases z
theorem BagAt.ex {H : Hp} {b : Addr} {n : Nat} (h : BagAt H b n) : ∃ o, H b = some o := by obtain ⟨_, _, _, e, _⟩ := h; exact ⟨_, e⟩
theorem BagAt.sameB {H H' : Hp} {a b : Addr} {n : Nat} (h : BagAt H b n) (s : SameB a H H') (ne : b ≠ a) : BagAt H' b n := by
  obtain ⟨x, y, z, e, r⟩ := h
  exact ⟨x, y, z, s _ _ e ne, r⟩
theorem leSize {n : Nat} (h : n ≤ 1000) : n ≤ sizeLine := Nat.le_of_lt (small1000 h)
def spBag (K : PySem.W.Frag) : Sp := fun vs H Q _ => ∃ (a : Addr) (ns : List Int) (k : Int), vs = [.ref a, .int k] ∧ SqL K H a (ns.map V.int) ∧ ns.length ≤ 63 ∧ 0 ≤ k ∧ k ≤ 100 ∧ ∀ p o, H p = none → BagAt (upd H p o) p 0 → Q (.ref p) (upd H p o)
def spTake : Sp := fun vs H Q _ => ∃ (b : Addr) (n : Nat) (m : Int), vs = [.ref b, .int m] ∧ BagAt H b n ∧ n ≤ 10000 ∧ 0 < m ∧ m < 1073741824 ∧ ∀ r H', 0 ≤ r → r < m → BagAt H' b (n + 1) → SameB b H H' → Q (.int r) H'
def spLaw (K : PySem.W.Frag) : Sp := fun vs H Q _ => ∃ (a : Addr) (ns : List Int), vs = [.ref a] ∧ SqL K H a (ns.map V.int) ∧ ns.length ≤ 63 ∧ ∀ H', Q (.bl true) H'
theorem at7 {i : Int} (h0 : 0 ≤ i) (h7 : i < 7) {a b c d e f g : Int} (P : Int → Prop) (ha : P a) (hb : P b) (hc : P c) (hd : P d) (he : P e) (hf : P f) (hg : P g) : ∃ p, atI [V.int a, .int b, .int c, .int d, .int e, .int f, .int g] i = some (.int p) ∧ P p := by
  have : i = 0 ∨ i = 1 ∨ i = 2 ∨ i = 3 ∨ i = 4 ∨ i = 5 ∨ i = 6 := by omega
  rcases this with rfl | rfl | rfl | rfl | rfl | rfl | rfl
  · exact ⟨_, rfl, ha⟩
  · exact ⟨_, rfl, hb⟩
  · exact ⟨_, rfl, hc⟩
  · exact ⟨_, rfl, hd⟩
  · exact ⟨_, rfl, he⟩
  · exact ⟨_, rfl, hf⟩
  · exact ⟨_, rfl, hg⟩
theorem cm01 {x : Int} {b : Bool} : CMul x (if b = true then 1 else 0) := .inr (by cases b <;> exact ⟨by decide, by decide⟩)
section
variable {P : Program} {w : World} {K : PySem.W.Frag} {mg : Str → Option Value} {base : Heap}
theorem ok_l_bag (C : Code K mg "_law_bag" s_l_bag p_l_bag) (T : Nm mg) : Good P w K mg base "_law_bag" 1 p_l_bag (spBag K) := by
  refine C.good sc_l_bag (fun vs H Q E h => ?_) (fun f cdv A outer s H vs Q E hr h => ?_)
  · obtain ⟨a, ns, k, rfl, _⟩ := h
    rfl
  obtain ⟨a, ns, k, rfl, hS, h63, h0, h1, q⟩ := h
  refine ⟨_, (pss_cons (ps_set (i := 2) sc_l_bag.nd rfl (Or.inl rfl) (pe_op op_add (pe_op op_add (pe_op op_mul (pe_op op_mul pe_int (pv 1)) (pv 1)) (pe_op op_mul pe_int (pv 1))) pe_int))
  (pss_cons (ps_if (pt_cmpR op_lt (pv 1) (pe_callB call_len_seq rfl T.len bt_len (pa_cons (pv 0) pa_nil)) (nomark _)) (pss_one (ps_set (i := 2) sc_l_bag.nd rfl (Or.inl rfl) (pe_ix ix_list (pv 0) (pv 1) (fun _ _ => rfl)))) pss_nil)
  (pss_one (ps_ret (pe_lst (pa_cons (pe_op op_mul (pe_callB call_abs rfl T.abs bt_abs (pa_cons (pv 2) pa_nil)) (pe_callTy call_int1 rfl T.int bt_int (pa_cons (pe_cmpR op_ge (pe_callB call_abs rfl T.abs bt_abs (pa_cons (pv 2) pa_nil)) (pe_op op_pow pe_int pe_int) (nomark _)) pa_nil))) (pa_cons (pe_op op_add (pe_op op_mod (pv 2) pe_int) (pe_op op_mul pe_int (pv 1))) (pa_cons pe_int pa_nil)))))))), ?_⟩
  refine ⟨_, rfl, _, _, rfl, rfl, .inl ⟨by decide, by decide⟩, _, rfl, _, _, rfl, rfl, .inr ⟨by omega, by omega⟩, _, rfl, _, _, rfl, rfl, .inl ⟨by decide, by decide⟩, _, _, rfl, rfl, _, _, rfl, rfl, ?_⟩
  refine ⟨_, rfl, _, rfl, a, _, rfl, .inl hS, _, _, rfl, rfl, _, rfl, ?_⟩
  have hl : (ns.map V.int).length = ns.length := List.length_map _
  have fin : ∀ (c : Int) (p : Addr), H p = none → Q (.ref p) (upd H p (.lst [.int ((if c < 0 then -c else c) * (if decide ((10 : Int) ^ (18 : Int).toNat ≤ (if c < 0 then -c else c)) = true then 1 else 0)), .int (c % 2147483647 + 37 * k), .int 0])) := fun c p hp => by
    refine q p _ hp ⟨_, _, _, upd_same, ?_, ?_, ?_, by omega, by omega⟩
    · refine Int.mul_nonneg ?_ ?_
      · split <;> omega
      · split <;> omega
    · have := Int.emod_nonneg c (show (2147483647 : Int) ≠ 0 by decide)
      omega
    · have := Int.emod_lt_of_pos c (show (0 : Int) < 2147483647 by decide)
      omega
  refine ite2 (fun c1 => ?_) (fun c1 => ?_)
  · have c' : k < (((ns.map V.int).length : Nat) : Int) := of_decide_eq_true c1
    rw [hl] at c'
    have hk : k.toNat < ns.length := by omega
    have hat : atI (ns.map V.int) ((k.toNat : Nat) : Int) = some (.int ns[k.toNat]) := atI_nat (by rw [List.getElem?_map]; simp [hk])
    rw [Int.toNat_of_nonneg h0] at hat
    refine ⟨_, rfl, _, rfl, a, _, _, _, rfl, rfl, hS, hat, ?_⟩
    exact ⟨_, rfl, _, rfl, _, rfl, _, rfl, _, _, rfl, rfl, ⟨by decide, by decide, by decide⟩, _, _, rfl, rfl, .inr ⟨_, rfl, _, _, rfl, rfl, cm01, _, rfl, _, _, rfl, rfl, (by show (0 : Int) < 2147483647; decide), _, rfl, _, _, rfl, rfl, .inl ⟨by decide, by decide⟩, _, _, rfl, rfl,
      (by show 3 ≤ sizeLine; decide), fun l hl' => fin _ l hl'⟩⟩
  · exact ⟨_, rfl, _, rfl, _, rfl, _, rfl, _, _, rfl, rfl, ⟨by decide, by decide, by decide⟩, _, _, rfl, rfl, .inr ⟨_, rfl, _, _, rfl, rfl, cm01, _, rfl, _, _, rfl, rfl, (by show (0 : Int) < 2147483647; decide), _, rfl, _, _, rfl, rfl, .inl ⟨by decide, by decide⟩, _, _, rfl, rfl,
      (by show 3 ≤ sizeLine; decide), fun l hl' => fin _ l hl'⟩⟩
theorem ok_l_take (C : Code K mg "_law_take" s_l_take p_l_take) (T : Nm mg) : Good P w K mg base "_law_take" 1 p_l_take spTake := by
  refine C.good sc_l_take (fun vs H Q E h => ?_) (fun f cdv A outer s H vs Q E hr h => ?_)
  · obtain ⟨b, n, m, rfl, _⟩ := h
    rfl
  obtain ⟨b, n, m, rfl, ⟨x, y, z, hb, x0, y0, y1, z0, z1⟩, hn, m0, m1, q⟩ := h
  refine ⟨_, (pss_cons (ps_if (pt_cmpR op_gt (pe_ix ix_list (pv 0) pe_int (fun _ _ => rfl)) pe_int (nomark _)) (pss_cons (ps_set (i := 2) sc_l_take.nd rfl (Or.inl rfl) (pe_op op_mod (pe_ix ix_list (pv 0) pe_int (fun _ _ => rfl)) (pv 1)))
  (pss_cons (ps_asg (pe_op op_fdiv (pe_ix ix_list (pv 0) pe_int (fun _ _ => rfl)) (pv 1)) (pg_sub (pv 0) pe_int set_list))
  (pss_one (ps_ret (pv 2))))) pss_nil)
  (pss_cons (ps_set (i := 3) sc_l_take.nd rfl (Or.inl rfl) (@pe_tup _ _ _ _ _ (@pa_cons _ _ _ _ _ (@pe_int _ _ _ _) (@pa_cons _ _ _ _ _ (@pe_int _ _ _ _) (@pa_cons _ _ _ _ _ (@pe_int _ _ _ _) (@pa_cons _ _ _ _ _ (@pe_int _ _ _ _) (@pa_cons _ _ _ _ _ (@pe_int _ _ _ _) (@pa_cons _ _ _ _ _ (@pe_int _ _ _ _) (@pa_cons _ _ _ _ _ (@pe_int _ _ _ _) (@pa_nil _) st_const) st_const) st_const) st_const) st_const) st_const) st_const)))
  (pss_cons (ps_asg (pe_op op_add (pe_ix ix_list (pv 0) pe_int (fun _ _ => rfl)) pe_int) (pg_sub (pv 0) pe_int set_list))
  (pss_cons (ps_set (i := 4) sc_l_take.nd rfl (Or.inl rfl) (pe_ix ix_list (pv 0) pe_int (fun _ _ => rfl)))
  (pss_cons (ps_set (i := 5) sc_l_take.nd rfl (Or.inl rfl) (pe_op op_add (pe_op op_add (pe_op op_mul (pe_ix ix_list (pv 0) pe_int (fun _ _ => rfl)) (pe_op op_add (pe_op op_mul pe_int (pv 4)) pe_int)) (pe_op op_mul (pe_op op_mul pe_int (pv 4)) (pv 4))) pe_int))
  (pss_cons (ps_set (i := 6) sc_l_take.nd rfl (Or.inl rfl) (pe_op op_mod (pe_op op_pow (pv 5) pe_int) (pe_ix ix_tup (pv 3) (pe_op op_mod (pv 4) pe_int) (fun _ _ => rfl))))
  (pss_one (ps_ret (pe_op op_mod (pe_op op_fdiv (pe_op op_mod (pe_op op_mul (pv 6) (pe_op op_add (pe_op op_fdiv (pv 6) pe_int) pe_int)) (pe_ix ix_tup (pv 3) (pe_op op_mod (pe_op op_add (pv 4) pe_int) pe_int) (fun _ _ => rfl))) pe_int) (pv 1)))))))))), ?_⟩
  refine ⟨_, rfl, b, _, _, _, rfl, rfl, SqL.of hb, rfl, _, _, rfl, rfl, _, rfl, ?_⟩
  refine ite2 (fun c1 => ?_) (fun c1 => ?_)
  · have c' : 0 < x := of_decide_eq_true c1
    refine ⟨_, rfl, b, _, _, _, rfl, rfl, SqL.of hb, rfl, _, rfl, _, _, rfl, rfl, m0, ?_⟩
    refine ⟨_, rfl, b, _, _, _, rfl, rfl, SqL.of hb, rfl, _, rfl, _, _, rfl, rfl, ⟨m0, m1⟩, _, rfl, b, _, _, _, rfl, rfl, hb, rfl, ?_⟩
    exact ⟨_, rfl, q _ _ (Int.emod_nonneg x (by omega)) (Int.emod_lt_of_pos x m0) ⟨x / m, y, z, upd_same, Int.ediv_nonneg x0 (by omega), y0, y1, z0, by omega⟩ SameB.upd⟩
  · refine ⟨(by show 7 ≤ sizeLine; decide), fun tp htp => ?_⟩
    have nbt : b ≠ tp := ne_of_none hb htp
    have hb1 : ∀ o, (upd H tp o) b = some (.lst [.int x, .int y, .int z]) := fun o => by rw [upd_ne nbt]; exact hb
    have ht1 : ∀ o u, (upd (upd H tp o) b u) tp = some o := fun o u => by rw [upd_ne nbt.symm, upd_same]
    refine ⟨_, rfl, b, _, _, _, rfl, rfl, SqL.of (hb1 _), rfl, _, _, rfl, rfl, _, rfl, b, _, _, _, rfl, rfl, hb1 _, rfl, ?_⟩
    refine ⟨_, rfl, b, _, _, _, rfl, rfl, SqL.of upd_same, rfl, ?_⟩
    have s0 : 0 ≤ z + 1 := by omega
    have s1 : z + 1 ≤ 10001 := by omega
    refine ⟨_, rfl, b, _, _, _, rfl, rfl, SqL.of upd_same, rfl, _, rfl, _, _, rfl, rfl, .inl ⟨by decide, by decide⟩, _, _, rfl, rfl, _, _, rfl, rfl, .inl ⟨by omega, by omega⟩, _, rfl, _, _, rfl, rfl, .inl ⟨by decide, by decide⟩, _, rfl, _, _, rfl, rfl, .inr ⟨by omega, by omega⟩,
      _, _, rfl, rfl, _, _, rfl, rfl, ?_⟩
    have hbase : (y * (2 * (z + 1) + 1) + 6007 * (z + 1) * (z + 1) + 29).natAbs < 2 ^ 64 := by
      have h1 : 0 ≤ y * (2 * (z + 1) + 1) := Int.mul_nonneg y0 (by omega)
      have h2 : y * (2 * (z + 1) + 1) ≤ 4294967296 * 20003 := Int.mul_le_mul y1 (by omega) (by omega) (by omega)
      have h3 : 0 ≤ 6007 * (z + 1) * (z + 1) := Int.mul_nonneg (by omega) s0
      have h4 : 6007 * (z + 1) * (z + 1) ≤ (6007 * 10001) * 10001 := Int.mul_le_mul (by omega) s1 s0 (by omega)
      omega
    obtain ⟨p1, e1, p10, p11⟩ := at7 (i := (z + 1) % 7) (Int.emod_nonneg _ (by decide)) (Int.emod_lt_of_pos _ (by decide)) (a := 2147483629) (b := 2147483587) (c := 2147483579) (d := 2147483563) (e := 2147483549) (f := 2147483543) (g := 2147483497)
      (fun p => 0 < p ∧ p < 2147483648) (by decide) (by decide) (by decide) (by decide) (by decide) (by decide) (by decide)
    obtain ⟨p2, e2, p20, p21⟩ := at7 (i := (z + 1 + 3) % 7) (Int.emod_nonneg _ (by decide)) (Int.emod_lt_of_pos _ (by decide)) (a := 2147483629) (b := 2147483587) (c := 2147483579) (d := 2147483563) (e := 2147483549) (f := 2147483543) (g := 2147483497)
      (fun p => 0 < p ∧ p < 2147483648) (by decide) (by decide) (by decide) (by decide) (by decide) (by decide) (by decide)
    refine ⟨_, rfl, _, _, rfl, rfl, ⟨by decide, by decide, hbase⟩, _, rfl, _, rfl, _, _, rfl, rfl, (by show (0 : Int) < 7; decide), tp, _, _, _, rfl, rfl, SqT.of (ht1 _ _), e1, _, _, rfl, rfl, p10, ?_⟩
    generalize hF : (y * (2 * (z + 1) + 1) + 6007 * (z + 1) * (z + 1) + 29) ^ (3 : Int).toNat % p1 = F
    have F0 : 0 ≤ F := by rw [← hF]; exact Int.emod_nonneg _ (by omega)
    have F1 : F < p1 := by rw [← hF]; exact Int.emod_lt_of_pos _ p10
    refine ⟨_, rfl, _, rfl, _, _, rfl, rfl, ⟨by decide, by decide⟩, _, _, rfl, rfl, _, _, rfl, rfl, .inl ⟨by omega, by omega⟩, _, rfl, _, rfl, _, _, rfl, rfl, _, _, rfl, rfl, (by show (0 : Int) < 7; decide), tp, _, _, _, rfl, rfl, SqT.of (ht1 _ _), e2, _, _, rfl, rfl, p20,
      _, _, rfl, rfl, ⟨by decide, by decide⟩, _, rfl, _, _, rfl, rfl, m0, ?_⟩
    refine q _ _ (Int.emod_nonneg _ (by omega)) (Int.emod_lt_of_pos _ m0) ⟨x, y, z + 1, upd_same, x0, y0, y1, s0, by omega⟩ fun c o e nc => ?_
    rw [upd_ne nc, upd_ne (ne_of_none e htp)]
    exact e
end
end K15

set_option Elab.async false
set_option linter.all false
set_option maxRecDepth 100000
set_option maxHeartbeats 1000000
namespace K15
open PySem L2
abbrev s_l_kind : Stmt := top 31
abbrev p_l_kind : List Str := ["_law_e"]
theorem sc_l_kind : FnScope ["_law_e", "_law_kinds", "_law_names"] p_l_kind (defScope s_l_kind) := ⟨rfl, rfl, rfl, by decide +kernel, rfl, by decide +kernel, by decide +kernel⟩
/-- the classes of refusals, as the text names them -/
structure Er (K : PySem.W.Frag) (mg : Str → Option Value) (hc c0 c1 c2 c3 c4 c5 c6 c7 c8 c9 c10 c11 c12 : Addr) : Prop where
  ve : mg "ValueError" = none
  nHouseError : mg "HouseError" = some (.ref hc)
  xHouseError : XCl K hc
  nNoPlan : mg "NoPlan" = some (.ref c0)
  nNoText : mg "NoText" = some (.ref c1)
  nNoStretch : mg "NoStretch" = some (.ref c2)
  nNoSpot : mg "NoSpot" = some (.ref c3)
  nNoOpener : mg "NoOpener" = some (.ref c4)
  nNoAddress : mg "NoAddress" = some (.ref c5)
  nNoRules : mg "NoRules" = some (.ref c6)
  nNoHand : mg "NoHand" = some (.ref c7)
  nNoPanel : mg "NoPanel" = some (.ref c8)
  nNoLink : mg "NoLink" = some (.ref c9)
  nNoLog : mg "NoLog" = some (.ref c10)
  nNoDeed : mg "NoDeed" = some (.ref c11)
  nNoRow : mg "NoRow" = some (.ref c12)
/-- the class at C is the j-th of these -/
structure Knd (K : PySem.W.Frag) (hc C : Addr) (cs : List Addr) (j : Nat) : Prop where
  xc : XCl K C
  sub : PySem.W.subIn K (.ref C) (.ref hc) = some true
  kit : ∀ i d, cs[i]? = some d → PySem.W.kitOne K (.ref C) (.ref d) = some (decide (i = j))
  kv : PySem.W.kitOne K (.ref C) (.type "ValueError") = some true
def kWord (j : Nat) : Str := (["plan", "text", "stretch", "spot", "opener", "address", "rules", "hand", "panel", "link", "log", "deed", "row"] : List Str).getD j ""
def bsl (j : Nat) : List Bool := [decide (0 = j), decide (1 = j), decide (2 = j), decide (3 = j), decide (4 = j), decide (5 = j), decide (6 = j), decide (7 = j), decide (8 = j), decide (9 = j), decide (10 = j), decide (11 = j), decide (12 = j)]
theorem bsl_count : ∀ j, j < 13 → (bsl j).countP id = 1 := by decide
theorem bsl_at : ∀ j, j < 13 → (bsl j)[j]? = some true := by decide
theorem bsl_no : ∀ j, j < 13 → ∀ m, m < j → (bsl j)[m]? = some false := by decide
theorem wordAt : ∀ j, j < 13 → ([.str "plan", .str "text", .str "stretch", .str "spot", .str "opener", .str "address", .str "rules", .str "hand", .str "panel", .str "link", .str "log", .str "deed", .str "row"] : List V)[j]? = some (.str (kWord j))
  | 0, _ => rfl
  | 1, _ => rfl
  | 2, _ => rfl
  | 3, _ => rfl
  | 4, _ => rfl
  | 5, _ => rfl
  | 6, _ => rfl
  | 7, _ => rfl
  | 8, _ => rfl
  | 9, _ => rfl
  | 10, _ => rfl
  | 11, _ => rfl
  | 12, _ => rfl
  | n + 13, h => absurd h (by omega)
def spKind (K : PySem.W.Frag) (hc : Addr) (cs : List Addr) : Sp := fun vs H Q _ => ∃ (e C : Addr) (j : Nat), vs = [.ref e] ∧ H e = some (xo e C) ∧ Knd K hc C cs j ∧ j < 13 ∧ ∀ H', Same H H' → Q (.str (kWord j)) H'
section
variable {P : Program} {w : World} {K : PySem.W.Frag} {mg : Str → Option Value} {base : Heap} {hc c0 c1 c2 c3 c4 c5 c6 c7 c8 c9 c10 c11 c12 : Addr}
theorem ok_kind (C : Code K mg "_law_kind" s_l_kind p_l_kind) (T : Nm mg) (XE : Er K mg hc c0 c1 c2 c3 c4 c5 c6 c7 c8 c9 c10 c11 c12) : GoodH P w K mg base "_law_kind" 1 p_l_kind (spKind K hc [c0, c1, c2, c3, c4, c5, c6, c7, c8, c9, c10, c11, c12]) := by
  refine C.goodH sc_l_kind (fun vs H Q E h => ?_) (fun f cdv A outer s H vs Q hr h => ?_)
  · obtain ⟨e, C, j, rfl, _⟩ := h
    rfl
  obtain ⟨e, C, j, rfl, he, k, hj, q⟩ := h
  refine ⟨_, (@pss_cons _ _ _ _ _ (@ps_set _ _ 1 _ _ _ _ sc_l_kind.nd rfl (Or.inl rfl) (pe_lst (pa_cons (pe_callB call_isx rfl T.isinstance bt_isinstance (pa_cons (pv 0) (pa_cons (pe_glob (v := .ref _) rfl XE.nNoPlan rfl) pa_nil))) (pa_cons (pe_callB call_isx rfl T.isinstance bt_isinstance (pa_cons (pv 0) (pa_cons (pe_glob (v := .ref _) rfl XE.nNoText rfl) pa_nil))) (pa_cons (pe_callB call_isx rfl T.isinstance bt_isinstance (pa_cons (pv 0) (pa_cons (pe_glob (v := .ref _) rfl XE.nNoStretch rfl) pa_nil))) (pa_cons (pe_callB call_isx rfl T.isinstance bt_isinstance (pa_cons (pv 0) (pa_cons (pe_glob (v := .ref _) rfl XE.nNoSpot rfl) pa_nil))) pa_nil))))) (by rfl) (by first | exact .inl rfl | exact .inr rfl))
  (@pss_cons _ _ _ _ _ (@ps_set _ _ 1 _ _ _ _ sc_l_kind.nd rfl (Or.inl rfl) (@pe_op _ _ _ _ _ _ _ _ op_cat (pv 1) (pe_lst (pa_cons (pe_callB call_isx rfl T.isinstance bt_isinstance (pa_cons (pv 0) (pa_cons (pe_glob (v := .ref _) rfl XE.nNoOpener rfl) pa_nil))) (pa_cons (pe_callB call_isx rfl T.isinstance bt_isinstance (pa_cons (pv 0) (pa_cons (pe_glob (v := .ref _) rfl XE.nNoAddress rfl) pa_nil))) (pa_cons (pe_callB call_isx rfl T.isinstance bt_isinstance (pa_cons (pv 0) (pa_cons (pe_glob (v := .ref _) rfl XE.nNoRules rfl) pa_nil))) (pa_cons (pe_callB call_isx rfl T.isinstance bt_isinstance (pa_cons (pv 0) (pa_cons (pe_glob (v := .ref _) rfl XE.nNoHand rfl) pa_nil))) pa_nil)))))) (by rfl) (by first | exact .inl rfl | exact .inr rfl))
  (@pss_cons _ _ _ _ _ (@ps_set _ _ 1 _ _ _ _ sc_l_kind.nd rfl (Or.inl rfl) (@pe_op _ _ _ _ _ _ _ _ op_cat (pv 1) (pe_lst (pa_cons (pe_callB call_isx rfl T.isinstance bt_isinstance (pa_cons (pv 0) (pa_cons (pe_glob (v := .ref _) rfl XE.nNoPanel rfl) pa_nil))) (pa_cons (pe_callB call_isx rfl T.isinstance bt_isinstance (pa_cons (pv 0) (pa_cons (pe_glob (v := .ref _) rfl XE.nNoLink rfl) pa_nil))) (pa_cons (pe_callB call_isx rfl T.isinstance bt_isinstance (pa_cons (pv 0) (pa_cons (pe_glob (v := .ref _) rfl XE.nNoLog rfl) pa_nil))) (pa_cons (pe_callB call_isx rfl T.isinstance bt_isinstance (pa_cons (pv 0) (pa_cons (pe_glob (v := .ref _) rfl XE.nNoDeed rfl) pa_nil))) pa_nil)))))) (by rfl) (by first | exact .inl rfl | exact .inr rfl))
  (@pss_cons _ _ _ _ _ (ps_expr (pe_bm PySem.F.plainAttrs_list PySem.F.slot_list_append PySem.F.type_list_append mt_append (pv 1) (pa_cons (pe_callB call_isx rfl T.isinstance bt_isinstance (pa_cons (pv 0) (pa_cons (pe_glob (v := .ref _) rfl XE.nNoRow rfl) pa_nil))) pa_nil)))
  (@pss_cons _ _ _ _ _ (@ps_set _ _ 2 _ _ _ _ sc_l_kind.nd rfl (Or.inl rfl) (@pe_lst _ _ _ _ (@pa_cons _ _ _ _ _ (@pe_str _ _ _ _) (@pa_cons _ _ _ _ _ (@pe_str _ _ _ _) (@pa_cons _ _ _ _ _ (@pe_str _ _ _ _) (@pa_cons _ _ _ _ _ (@pe_str _ _ _ _) (@pa_cons _ _ _ _ _ (@pe_str _ _ _ _) (@pa_cons _ _ _ _ _ (@pe_str _ _ _ _) (@pa_cons _ _ _ _ _ (@pe_str _ _ _ _) (@pa_cons _ _ _ _ _ (@pe_str _ _ _ _) (@pa_cons _ _ _ _ _ (@pe_str _ _ _ _) (@pa_cons _ _ _ _ _ (@pe_str _ _ _ _) (@pa_cons _ _ _ _ _ (@pe_str _ _ _ _) (@pa_cons _ _ _ _ _ (@pe_str _ _ _ _) (@pa_nil _) st_const) st_const) st_const) st_const) st_const) st_const) st_const) st_const) st_const) st_const) st_const) st_const)) (by rfl) (by first | exact .inl rfl | exact .inr rfl))
  (@pss_cons _ _ _ _ _ (ps_expr (pe_bm PySem.F.plainAttrs_list PySem.F.slot_list_append PySem.F.type_list_append mt_append (pv 2) (pa_cons pe_str pa_nil)))
  (@pss_cons _ _ _ _ _ (ps_if (PW.pt (pw_or (pt_not (pt_val (pe_callB call_isxT rfl T.isinstance bt_isinstance (pa_cons (pv 0) (pa_cons (pe_bltn (v := .ty "ValueError") rfl XE.ve PyProof.Rows.Boot.«ValueError» rfl) pa_nil))))) (pw_or1 (pt_cmpR op_ne (pe_bm PySem.F.plainAttrs_list PySem.F.slot_list_count PySem.F.type_list_count mt_countT (pv 1) (pa_cons pe_bl pa_nil)) pe_int (nomark _))))) (@pss_one _ _ _ (ps_ret pe_str)) pss_nil)
  (@pss_one _ _ _ (ps_ret (pe_ix ix_list (pv 2) (pe_bm PySem.F.plainAttrs_list PySem.F.slot_list_index PySem.F.type_list_index mt_indexT (pv 1) (pa_cons pe_bl pa_nil)) (fun _ _ => rfl))))))))))), ?_⟩
  refine ⟨_, rfl, isx_mk he k.xc (k.kit 0 _ rfl) ⟨_, rfl, isx_mk he k.xc (k.kit 1 _ rfl) ⟨_, rfl, isx_mk he k.xc (k.kit 2 _ rfl) ⟨_, rfl, isx_mk he k.xc (k.kit 3 _ rfl) ⟨leSize (by show 4 ≤ 1000; decide), fun l1 hl1 => ?_⟩⟩⟩⟩⟩
  have s1 := same_new hl1 (.lst [V.bl (decide (0 = j)), .bl (decide (1 = j)), .bl (decide (2 = j)), .bl (decide (3 = j))])
  have e1 : upd H l1 (.lst [V.bl (decide (0 = j)), .bl (decide (1 = j)), .bl (decide (2 = j)), .bl (decide (3 = j))]) l1 = some (.lst [V.bl (decide (0 = j)), .bl (decide (1 = j)), .bl (decide (2 = j)), .bl (decide (3 = j))]) := upd_same
  generalize upd H l1 (.lst [V.bl (decide (0 = j)), .bl (decide (1 = j)), .bl (decide (2 = j)), .bl (decide (3 = j))]) = H1 at s1 e1 ⊢
  have he1 := s1 _ _ he
  refine ⟨_, rfl, ⟨_, rfl, isx_mk he1 k.xc (k.kit 4 _ rfl) ⟨_, rfl, isx_mk he1 k.xc (k.kit 5 _ rfl) ⟨_, rfl, isx_mk he1 k.xc (k.kit 6 _ rfl) ⟨_, rfl, isx_mk he1 k.xc (k.kit 7 _ rfl) ⟨leSize (by show 4 ≤ 1000; decide), fun la hla => ⟨l1, la, _, _, rfl, rfl, same_new hla _ _ _ e1, upd_same, leSize (by show 8 ≤ 1000; decide), fun lb hlb => ?_⟩⟩⟩⟩⟩⟩⟩
  have sa := same_new hla (.lst [V.bl (decide (4 = j)), .bl (decide (5 = j)), .bl (decide (6 = j)), .bl (decide (7 = j))])
  have sb := same_new hlb (.lst ([V.bl (decide (0 = j)), .bl (decide (1 = j)), .bl (decide (2 = j)), .bl (decide (3 = j))] ++ [V.bl (decide (4 = j)), .bl (decide (5 = j)), .bl (decide (6 = j)), .bl (decide (7 = j))]))
  have e2 : upd (upd H1 la (.lst [V.bl (decide (4 = j)), .bl (decide (5 = j)), .bl (decide (6 = j)), .bl (decide (7 = j))])) lb (.lst ([V.bl (decide (0 = j)), .bl (decide (1 = j)), .bl (decide (2 = j)), .bl (decide (3 = j))] ++ [V.bl (decide (4 = j)), .bl (decide (5 = j)), .bl (decide (6 = j)), .bl (decide (7 = j))])) lb = some (.lst ([V.bl (decide (0 = j)), .bl (decide (1 = j)), .bl (decide (2 = j)), .bl (decide (3 = j))] ++ [V.bl (decide (4 = j)), .bl (decide (5 = j)), .bl (decide (6 = j)), .bl (decide (7 = j))])) := upd_same
  have s2 := s1.trans (sa.trans sb)
  generalize upd (upd H1 la (.lst [V.bl (decide (4 = j)), .bl (decide (5 = j)), .bl (decide (6 = j)), .bl (decide (7 = j))])) lb (.lst ([V.bl (decide (0 = j)), .bl (decide (1 = j)), .bl (decide (2 = j)), .bl (decide (3 = j))] ++ [V.bl (decide (4 = j)), .bl (decide (5 = j)), .bl (decide (6 = j)), .bl (decide (7 = j))])) = H2 at sb e2 s2 ⊢
  have he2 := s2 _ _ he
  refine ⟨_, rfl, ⟨_, rfl, isx_mk he2 k.xc (k.kit 8 _ rfl) ⟨_, rfl, isx_mk he2 k.xc (k.kit 9 _ rfl) ⟨_, rfl, isx_mk he2 k.xc (k.kit 10 _ rfl) ⟨_, rfl, isx_mk he2 k.xc (k.kit 11 _ rfl) ⟨leSize (by show 4 ≤ 1000; decide), fun lc hlc => ⟨lb, lc, _, _, rfl, rfl, same_new hlc _ _ _ e2, upd_same, leSize (by show 12 ≤ 1000; decide), fun ld hld => ?_⟩⟩⟩⟩⟩⟩⟩
  have sc := same_new hlc (.lst [V.bl (decide (8 = j)), .bl (decide (9 = j)), .bl (decide (10 = j)), .bl (decide (11 = j))])
  have sd := same_new hld (.lst ([V.bl (decide (0 = j)), .bl (decide (1 = j)), .bl (decide (2 = j)), .bl (decide (3 = j))] ++ [V.bl (decide (4 = j)), .bl (decide (5 = j)), .bl (decide (6 = j)), .bl (decide (7 = j))] ++ [V.bl (decide (8 = j)), .bl (decide (9 = j)), .bl (decide (10 = j)), .bl (decide (11 = j))]))
  have e3 : upd (upd H2 lc (.lst [V.bl (decide (8 = j)), .bl (decide (9 = j)), .bl (decide (10 = j)), .bl (decide (11 = j))])) ld (.lst ([V.bl (decide (0 = j)), .bl (decide (1 = j)), .bl (decide (2 = j)), .bl (decide (3 = j))] ++ [V.bl (decide (4 = j)), .bl (decide (5 = j)), .bl (decide (6 = j)), .bl (decide (7 = j))] ++ [V.bl (decide (8 = j)), .bl (decide (9 = j)), .bl (decide (10 = j)), .bl (decide (11 = j))])) ld = some (.lst ([V.bl (decide (0 = j)), .bl (decide (1 = j)), .bl (decide (2 = j)), .bl (decide (3 = j))] ++ [V.bl (decide (4 = j)), .bl (decide (5 = j)), .bl (decide (6 = j)), .bl (decide (7 = j))] ++ [V.bl (decide (8 = j)), .bl (decide (9 = j)), .bl (decide (10 = j)), .bl (decide (11 = j))])) := upd_same
  have s3 := s2.trans (sc.trans sd)
  have fd : H ld = none := s2.free (sc.free hld)
  generalize upd (upd H2 lc (.lst [V.bl (decide (8 = j)), .bl (decide (9 = j)), .bl (decide (10 = j)), .bl (decide (11 = j))])) ld (.lst ([V.bl (decide (0 = j)), .bl (decide (1 = j)), .bl (decide (2 = j)), .bl (decide (3 = j))] ++ [V.bl (decide (4 = j)), .bl (decide (5 = j)), .bl (decide (6 = j)), .bl (decide (7 = j))] ++ [V.bl (decide (8 = j)), .bl (decide (9 = j)), .bl (decide (10 = j)), .bl (decide (11 = j))])) = H3 at sd e3 s3 ⊢
  have he3 := s3 _ _ he
  refine ⟨_, rfl, .inl ⟨rfl, _, SqL.of e3⟩, _, rfl, isx_mk he3 k.xc (k.kit 12 _ rfl) ⟨ld, _, _, rfl, rfl, e3, small1000 (by show 12 ≤ 1000; decide), ?_⟩⟩
  have e4 : upd H3 ld (.lst ([V.bl (decide (0 = j)), .bl (decide (1 = j)), .bl (decide (2 = j)), .bl (decide (3 = j))] ++ [V.bl (decide (4 = j)), .bl (decide (5 = j)), .bl (decide (6 = j)), .bl (decide (7 = j))] ++ [V.bl (decide (8 = j)), .bl (decide (9 = j)), .bl (decide (10 = j)), .bl (decide (11 = j))] ++ [.bl (decide (12 = j))])) ld = some (.lst ((bsl j).map V.bl)) := upd_same
  have s4 : Same H (upd H3 ld (.lst ([V.bl (decide (0 = j)), .bl (decide (1 = j)), .bl (decide (2 = j)), .bl (decide (3 = j))] ++ [V.bl (decide (4 = j)), .bl (decide (5 = j)), .bl (decide (6 = j)), .bl (decide (7 = j))] ++ [V.bl (decide (8 = j)), .bl (decide (9 = j)), .bl (decide (10 = j)), .bl (decide (11 = j))] ++ [.bl (decide (12 = j))]))) := s3.stepB SameB.upd fd
  generalize upd H3 ld (.lst ([V.bl (decide (0 = j)), .bl (decide (1 = j)), .bl (decide (2 = j)), .bl (decide (3 = j))] ++ [V.bl (decide (4 = j)), .bl (decide (5 = j)), .bl (decide (6 = j)), .bl (decide (7 = j))] ++ [V.bl (decide (8 = j)), .bl (decide (9 = j)), .bl (decide (10 = j)), .bl (decide (11 = j))] ++ [.bl (decide (12 = j))])) = H4 at e4 s4 ⊢
  have he4 := s4 _ _ he
  refine ⟨leSize (by show 12 ≤ 1000; decide), fun ln hln => ?_⟩
  have nd : ld ≠ ln := ne_of_none e4 hln
  have fn : H ln = none := s4.free hln
  have s5 := s4.trans (same_new hln (.lst [V.str "plan", .str "text", .str "stretch", .str "spot", .str "opener", .str "address", .str "rules", .str "hand", .str "panel", .str "link", .str "log", .str "deed"]))
  have e5 := same_new hln (.lst [V.str "plan", .str "text", .str "stretch", .str "spot", .str "opener", .str "address", .str "rules", .str "hand", .str "panel", .str "link", .str "log", .str "deed"]) _ _ e4
  refine ⟨_, rfl, .inl ⟨rfl, _, SqL.of upd_same⟩, ln, _, _, rfl, rfl, upd_same, small1000 (by show 12 ≤ 1000; decide), ?_⟩
  generalize upd H4 ln (.lst [V.str "plan", .str "text", .str "stretch", .str "spot", .str "opener", .str "address", .str "rules", .str "hand", .str "panel", .str "link", .str "log", .str "deed"]) = H5 at s5 e5 ⊢
  have e6 : ∀ o, upd H5 ln o ld = some (.lst ((bsl j).map V.bl)) := fun o => by rw [upd_ne nd]; exact e5
  have s6 : ∀ o, Same H (upd H5 ln o) := fun o => s5.stepB SameB.upd fn
  refine ⟨_, rfl, isxT_mk (s6 _ _ _ he) k.xc k.kv ⟨_, rfl, iteF ?_⟩⟩
  refine ⟨_, rfl, .inl ⟨rfl, _, SqL.of (e6 _)⟩, countT_mk (e6 _) ⟨rfl, _, rfl, ?_⟩⟩
  rw [bsl_count j hj]
  refine iteNS rfl ?_
  refine ⟨_, rfl, _, rfl, .inl ⟨rfl, _, SqL.of (e6 _)⟩, indexT_mk (e6 _) (by omega) (bsl_at j hj) (bsl_no j hj) ⟨ln, _, _, _, rfl, rfl, SqL.of upd_same, atI_nat (wordAt j hj), q _ (s6 _)⟩⟩
end
end K15

set_option Elab.async false
set_option linter.all false
set_option maxRecDepth 100000
set_option pp.maxSteps 300
set_option maxHeartbeats 1000000
namespace K15
open PySem L2
abbrev s_is_whole : Stmt := top 16
abbrev p_is_whole : List Str := ["thing"]
theorem sc_is_whole : FnScope ["thing"] p_is_whole (defScope s_is_whole) := ⟨rfl, rfl, rfl, by decide +kernel, rfl, by decide +kernel, by decide +kernel⟩
abbrev s_is_within : Stmt := top 17
abbrev p_is_within : List Str := ["thing", "low", "high"]
theorem sc_is_within : FnScope ["thing", "low", "high"] p_is_within (defScope s_is_within) := ⟨rfl, rfl, rfl, by decide +kernel, rfl, by decide +kernel, by decide +kernel⟩
abbrev s_is_row : Stmt := top 18
abbrev p_is_row : List Str := ["thing", "least", "most"]
theorem sc_is_row : FnScope ["thing", "least", "most"] p_is_row (defScope s_is_row) := ⟨rfl, rfl, rfl, by decide +kernel, rfl, by decide +kernel, by decide +kernel⟩
abbrev s_are_wholes : Stmt := top 19
abbrev p_are_wholes : List Str := ["thing", "many"]
theorem sc_are_wholes : FnScope ["thing", "many"] p_are_wholes (defScope s_are_wholes) := ⟨rfl, rfl, rfl, by decide +kernel, rfl, by decide +kernel, by decide +kernel⟩
abbrev s_frame : Stmt := top 21
abbrev p_frame : List Str := ["address", "turn", "word"]
theorem sc_frame : FnScope ["address", "turn", "word"] p_frame (defScope s_frame) := ⟨rfl, rfl, rfl, by decide +kernel, rfl, by decide +kernel, by decide +kernel⟩
abbrev s_is_frame : Stmt := top 22
abbrev p_is_frame : List Str := ["thing"]
theorem sc_is_frame : FnScope ["thing", "address", "turn", "word", "check"] p_is_frame (defScope s_is_frame) := ⟨rfl, rfl, rfl, by decide +kernel, rfl, by decide +kernel, by decide +kernel⟩
theorem ite3 {b : Bool} {A B : Prop} (h1 : b = true → A) (h2 : b = false → B) : if b = true then A else B := by
  cases b with
  | true => exact iteT (h1 rfl)
  | false => exact iteF (h2 rfl)
theorem sbStep {b l : Addr} {H0 H H' : Hp} (s : SameB b H0 H) (t : SameB l H H') (f : H0 l = none) : SameB b H0 H' := fun c o e n => t _ _ (s _ _ e n) (fun z => by rw [z, f] at e; cases e)
theorem gset {i : Nat} {v : V} {σ : St} {H : Hp} {Q : St → Hp → Prop} (h : Q (σ.set i (some v)) H) : gName i v σ H Q := h
theorem seq_split {I R : TS} {D : Ends} {σ : St} {H : Hp} (P : St → Hp → Prop) (hR : ∀ σ' H', P σ' H' → R D σ' H') (hI : ∀ D' : Ends, (∀ σ' H', P σ' H' → D'.nx σ' H') → I D' σ H) : tSeq I R D σ H := hI { D with nx := fun σ H => R D σ H } hR
theorem call_len_seqK {X : Cx} {K : PySem.W.Frag} (h : X.K = K) : CallR X (.builtin "len") (fun xs H Q => ∃ p ys, xs = [.ref p] ∧ (SqL K H p ys ∨ SqT K H p ys) ∧ Q (.int ys.length) H) := h ▸ call_len_seq
theorem isi_list {K : PySem.W.Frag} {H : Hp} {a : Addr} {xs : List V} {Q : VK} (h : H a = some (.lst xs)) (q : Q (.bl true) H) : rIsi K [.ref a, .ty "list"] H Q := by
  unfold rIsi
  exact ⟨_, _, _, _, rfl, .lst h, by rfl, q⟩
theorem isi_tup {K : PySem.W.Frag} {H : Hp} {a : Addr} {xs : List V} {Q : VK} (h : H a = some (.tup xs)) (q : Q (.bl true) H) : rIsi K [.ref a, .ty "tuple"] H Q := by
  unfold rIsi
  exact ⟨_, _, _, _, rfl, .tup h, by rfl, q⟩
def iv (xs : List Int) : List V := xs.map V.int
theorem iv_len (xs : List Int) : (iv xs).length = xs.length := List.length_map ..
theorem iv_app (xs ys : List Int) : iv (xs ++ ys) = iv xs ++ iv ys := List.map_append ..
theorem take_snoc {α : Type} {l : List α} {i : Nat} {x : α} (h : l[i]? = some x) : l.take (i + 1) = l.take i ++ [x] := by rw [List.take_add_one, h]; rfl
theorem ints_reps {H : Hp} : ∀ zs : List Int, Reps H (iv zs) (zs.map PyData.int)
  | [] => .nil
  | z :: r => .cons (.int z) (ints_reps r)
theorem ints_lay : ∀ zs : List Int, PyData.canLayAll0 (zs.map PyData.int) = true ∧ PyData.depthAll (zs.map PyData.int) ≤ 1
  | [] => ⟨rfl, by show 0 ≤ 1; decide⟩
  | z :: r => by
    have ih := ints_lay r
    refine ⟨?_, ?_⟩
    · show (true && PyData.canLayAll0 (r.map PyData.int)) = true
      rw [ih.1]; rfl
    · show max 0 (PyData.depthAll (r.map PyData.int)) ≤ 1
      exact Nat.max_le.mpr ⟨by decide, ih.2⟩
theorem ints_shaped (zs : List Int) : SeqAt.shaped (.list (zs.map PyData.int)) = true := by
  have h1 := ints_lay zs
  show (PyData.canLayAll0 (zs.map PyData.int) && decide (PyData.depthAll (zs.map PyData.int) + 1 ≤ 64)) = true
  rw [h1.1, Bool.true_and]
  exact decide_eq_true (by omega)
theorem tints_shaped (zs : List Int) : SeqAt.shaped (.tuple (zs.map PyData.int)) = true := by
  have h1 := ints_lay zs
  show (PyData.canLayAll0 (zs.map PyData.int) && decide (PyData.depthAll (zs.map PyData.int) + 1 ≤ 64)) = true
  rw [h1.1, Bool.true_and]
  exact decide_eq_true (by omega)
theorem ints_all : ∀ xs ys : List Int, PyData.eqvAll (xs.map PyData.int) (ys.map PyData.int) = decide (xs = ys)
  | [], [] => rfl
  | [], _ :: _ => rfl
  | _ :: _, [] => rfl
  | x :: xs, y :: ys => by
    have ih := ints_all xs ys
    show ((x == y) && PyData.eqvAll (xs.map PyData.int) (ys.map PyData.int)) = _
    rw [ih, Bool.eq_iff_iff]
    simp [List.cons.injEq]
theorem ints_eqv (xs ys : List Int) : PyData.eqv (.list (xs.map PyData.int)) (.list (ys.map PyData.int)) = decide (xs = ys) := ints_all xs ys
theorem tints_eqv (xs ys : List Int) : PyData.eqv (.tuple (xs.map PyData.int)) (.tuple (ys.map PyData.int)) = decide (xs = ys) := ints_all xs ys
/-- the check of a frame -/
def chk (x t w : Int) : Int := (3 * x + 5 * t + 7 * w) % 257
/-- whether four numbers are a frame -/
def isFr (x t w c : Int) : Bool := decide (1 ≤ x ∧ x ≤ 99) && (decide (0 ≤ t ∧ t ≤ 7) && (decide (0 ≤ w ∧ w ≤ 255) && decide (c = chk x t w)))
def fr4 (x t w : Int) : List Int := [x, t, w, chk x t w]
def spW : Sp := fun vs H Q _ => ∃ i : Int, vs = [.int i] ∧ Q (.bl true) H
def spWithin : Sp := fun vs H Q _ => ∃ x lo hi : Int, vs = [.int x, .int lo, .int hi] ∧ Q (.bl (decide (lo ≤ x ∧ x ≤ hi))) H
def spWt : Sp := fun vs H Q _ => ∃ v, vs = [v] ∧ Kn H v ∧ Q (.bl (isW v)) H
def rowB (o : Option (List V)) (a b : Int) : Bool := match o with
  | some xs => decide (a ≤ xs.length) && decide ((xs.length : Int) ≤ b)
  | none => false
def spRowT : Sp := fun vs H Q _ => ∃ v a b, vs = [v, .int a, .int b] ∧ Kn H v ∧ Q (.bl (rowB (tupOf H v) a b)) H
/-- a thing: its kind is known, and of a tuple the parts' -/
structure Th (H : Hp) (v : V) : Prop where
  kn : Kn H v
  parts : ∀ xs, tupOf H v = some xs → xs.length ≤ 100 ∧ ∀ y ∈ xs, Kn H y
theorem Th.same {H H' : Hp} {v : V} (t : Th H v) (s : Same H H') : Th H' v :=
  ⟨t.kn.same s, fun xs e => by
    rw [tupOf_same s t.kn] at e
    exact ⟨(t.parts xs e).1, fun y hy => ((t.parts xs e).2 y hy).same s⟩⟩
def wholesB (o : Option (List V)) (n : Int) : Bool := match o with
  | some xs => rowB (some xs) n n && xs.all isW
  | none => false
theorem wholesB_some {xs : List V} {n : Int} : wholesB (some xs) n = (rowB (some xs) n n && xs.all isW) := rfl
def spWholesT : Sp := fun vs H Q _ => ∃ v n, vs = [v, .int n] ∧ Th H v ∧ ∀ H', Same H H' → Q (.bl (wholesB (tupOf H v) n)) H'
theorem isW_int {v : V} (h : isW v = true) : ∃ i, v = .int i := by
  cases v with
  | int i => exact ⟨i, rfl⟩
  | _ => cases h
theorem four_ints {xs : List V} (hl : xs.length = 4) (h : xs.all isW = true) : ∃ a t w c, xs = [.int a, .int t, .int w, .int c] := by
  match xs, hl with
  | [x1, x2, x3, x4], _ =>
    simp only [List.all_cons, List.all_nil, Bool.and_true, Bool.and_eq_true] at h
    obtain ⟨h1, h2, h3, h4⟩ := h
    obtain ⟨a, rfl⟩ := isW_int h1
    obtain ⟨t, rfl⟩ := isW_int h2
    obtain ⟨w, rfl⟩ := isW_int h3
    obtain ⟨c, rfl⟩ := isW_int h4
    exact ⟨a, t, w, c, rfl⟩
def frO (z : Int × Int × Int × Int) : Option (Int × Int × Int) := if isFr z.1 z.2.1 z.2.2.1 z.2.2.2 = true then some (z.1, z.2.1, z.2.2.1) else none
/-- what a thing tells as an answer -/
def ansO : Option (List V) → Option (Int × Int × Int)
  | some [.int x, .int t, .int w, .int c] => frO (x, t, w, c)
  | _ => none
theorem ans_no {o : Option (List V)} (h : wholesB o 4 = false) : ansO o = none := by
  unfold ansO
  split
  · cases h
  · rfl
theorem ans_yes {o : Option (List V)} (h : wholesB o 4 = true) : ∃ x t w c, o = some [.int x, .int t, .int w, .int c] := by
  cases o with
  | none => cases h
  | some xs =>
    rw [wholesB_some, Bool.and_eq_true] at h
    have h1 : (decide ((4 : Int) ≤ xs.length) && decide ((xs.length : Int) ≤ 4)) = true := h.1
    rw [Bool.and_eq_true] at h1
    have h2 := of_decide_eq_true h1.1
    have h3 := of_decide_eq_true h1.2
    obtain ⟨a, t, w, c, e⟩ := four_ints (by omega) h.2
    exact ⟨a, t, w, c, by rw [e]⟩
def AnsAt (H : Hp) (v : V) (o : Option (Int × Int × Int)) : Prop := Th H v ∧ o = ansO (tupOf H v)
theorem AnsAt.same {H H' : Hp} {v : V} {o : Option (Int × Int × Int)} (h : AnsAt H v o) (s : Same H H') : AnsAt H' v o := ⟨h.1.same s, by rw [tupOf_same s h.1.kn]; exact h.2⟩
theorem AnsAt.some {H : Hp} {v : V} {y : Int × Int × Int} (h : AnsAt H v (some y)) : ∃ p c, v = .ref p ∧ H p = some (.tup (iv [y.1, y.2.1, y.2.2, c])) := by
  obtain ⟨_, hz⟩ := h
  unfold ansO at hz
  split at hz
  · rename_i x t w c e
    obtain ⟨p, e1, e2⟩ := of_tupOf e
    unfold frO at hz
    split at hz
    · cases hz
      exact ⟨p, c, e1, e2⟩
    · cases hz
  · cases hz
def spIsFrameO : Sp := fun vs H Q _ => ∃ v o, vs = [v] ∧ AnsAt H v o ∧ ∀ H', Same H H' → Q (.bl o.isSome) H'
theorem goodImp {P : Program} {w : World} {K : PySem.W.Frag} {mg : Str → Option Value} {base : Heap} {x : Str} {k : Nat} {ps : List Str} {sp sp' : Sp} (g : Good P w K mg base x k ps sp) (h : ∀ vs H Q E, sp' vs H Q E → sp vs H Q E) : Good P w K mg base x k ps sp' := ⟨let ⟨f, fd, a, b, c, F⟩ := g.ex; ⟨f, fd, a, b, c, F.imp h⟩⟩
def spFrame : Sp := fun vs H Q _ => ∃ x t w : Int, vs = [.int x, .int t, .int w] ∧ ∀ p H', H p = none → H' p = some (.tup (iv (fr4 x t w))) → Same H H' → Q (.ref p) H'
/-- a tuple of four numbers -/
def Fr4 (H : Hp) (v : V) (z : Int × Int × Int × Int) : Prop := ∃ p, v = .ref p ∧ H p = some (.tup (iv [z.1, z.2.1, z.2.2.1, z.2.2.2]))
theorem Fr4.same {H H' : Hp} {v : V} {z : Int × Int × Int × Int} (h : Fr4 H v z) (s : Same H H') : Fr4 H' v z := let ⟨p, e, q⟩ := h; ⟨p, e, s _ _ q⟩
section
variable {P : Program} {w : World} {K : PySem.W.Frag} {mg : Str → Option Value} {base : Heap}
theorem ok_is_wholeT (c : Code K mg "is_whole" s_is_whole p_is_whole) (T : Nm mg) : Good P w K mg base "is_whole" 1 p_is_whole spWt := by
  refine c.good sc_is_whole (fun vs H Q E h => ?_) (fun f cdv A outer s H vs Q E hr h => ?_)
  · obtain ⟨v, rfl, _⟩ := h
    rfl
  obtain ⟨v, rfl, k, q⟩ := h
  refine ⟨_, (pss_one (ps_ret (pe_and (pe_callB call_isi rfl T.isinstance bt_isinstance (pa_cons (pv 0) (pa_cons (pe_bltn (v := .ty "int") rfl T.int bt_int rfl) pa_nil))) (pe_one (pe_not (pe_callB call_isi rfl T.isinstance bt_isinstance (pa_cons (pv 0) (pa_cons (pe_bltn (v := .ty "bool") rfl T.bool bt_bool rfl) pa_nil)))))))), ?_⟩
  refine ⟨_, rfl, isi_int k ⟨_, rfl, ?_⟩⟩
  rw [isW_eq] at q
  cases e : isI v with
  | false => rw [e] at q; exact iteF q
  | true => rw [e] at q; exact iteT ⟨_, rfl, isi_bool e ⟨_, rfl, q⟩⟩
theorem ok_is_whole (c : Code K mg "is_whole" s_is_whole p_is_whole) (T : Nm mg) : Good P w K mg base "is_whole" 1 p_is_whole spW := goodImp (ok_is_wholeT c T) fun vs H Q E h => let ⟨i, e, q⟩ := h; ⟨.int i, e, True.intro, q⟩
theorem ok_is_within (c : Code K mg "is_within" s_is_within p_is_within) (T : Nm mg) (g_is_whole : Good P w K mg base "is_whole" 1 p_is_whole spW) : Good P w K mg base "is_within" 2 p_is_within spWithin := by
  refine c.good sc_is_within (fun vs H Q E h => ?_) (fun f cdv A outer s H vs Q E hr h => ?_)
  · obtain ⟨x, lo, hi, rfl, _⟩ := h
    rfl
  obtain ⟨x, lo, hi, rfl, q⟩ := h
  refine ⟨_, (pss_one (ps_ret (pe_and (pcall g_is_whole hr (pa_cons (pv 0) pa_nil)) (pe_one (pe_chain op_le op_le (pv 1) (pv 0) (pv 2)))))), ?_⟩
  refine ⟨_, rfl, x, rfl, _, rfl, iteT ⟨_, rfl, _, rfl, _, _, rfl, rfl, _, rfl, ?_⟩⟩
  by_cases h1 : lo ≤ x
  · rw [decide_eq_true h1]
    refine iteT ⟨_, rfl, _, _, rfl, rfl, ?_⟩
    by_cases h2 : x ≤ hi
    · rw [decide_eq_true ⟨h1, h2⟩] at q
      show Q (.bl (decide (x ≤ hi))) H
      rw [decide_eq_true h2]
      exact q
    · rw [decide_eq_false (fun z => h2 z.2)] at q
      show Q (.bl (decide (x ≤ hi))) H
      rw [decide_eq_false h2]
      exact q
  · rw [decide_eq_false (fun z => h1 z.1)] at q
    rw [decide_eq_false h1]
    exact iteF q
theorem ok_is_row (c : Code K mg "is_row" s_is_row p_is_row) (T : Nm mg) : Good P w K mg base "is_row" 1 p_is_row spRowT := by
  refine c.good sc_is_row (fun vs H Q E h => ?_) (fun f cdv A outer s H vs Q E hr h => ?_)
  · obtain ⟨v, a, b, rfl, _⟩ := h
    rfl
  obtain ⟨v, a, b, rfl, k, q⟩ := h
  refine ⟨_, (pss_one (ps_ret (pe_and (pe_callB call_isi rfl T.isinstance bt_isinstance (pa_cons (pv 0) (pa_cons (pe_bltn (v := .ty "tuple") rfl T.tuple bt_tuple rfl) pa_nil))) (pe_one (pe_chain op_le op_le (pv 1) (pe_callB call_len_seq rfl T.len bt_len (pa_cons (pv 0) pa_nil)) (pv 2)))))), ?_⟩
  refine ⟨_, rfl, isi_tuple k ⟨_, rfl, ?_⟩⟩
  cases e : tupOf H v with
  | none => rw [e] at q; exact iteF q
  | some xs =>
    rw [e] at q
    obtain ⟨p, rfl, hp⟩ := of_tupOf e
    refine iteT ⟨_, rfl, _, rfl, p, xs, rfl, .inr (SqT.of hp), _, _, rfl, rfl, _, rfl, ?_⟩
    by_cases h1 : a ≤ (xs.length : Int)
    · rw [decide_eq_true h1]
      refine iteT ⟨_, rfl, _, _, rfl, rfl, ?_⟩
      simpa [rowB, h1] using q
    · rw [decide_eq_false h1]
      refine iteF ?_
      simpa [rowB, h1] using q
theorem ok_are_wholes (c : Code K mg "are_wholes" s_are_wholes p_are_wholes) (T : Nm mg) (g_is_whole : Good P w K mg base "is_whole" 1 p_is_whole spWt) (g_is_row : Good P w K mg base "is_row" 1 p_is_row spRowT) : Good P w K mg base "are_wholes" 2 p_are_wholes spWholesT := by
  refine c.good sc_are_wholes (fun vs H Q E h => ?_) (fun f cdv A outer s H vs Q E hr h => ?_)
  · obtain ⟨v, n, rfl, _⟩ := h
    rfl
  obtain ⟨v, n, rfl, t, q⟩ := h
  refine ⟨_, (pss_one (ps_ret (pe_and (pcall g_is_row hr (pa_cons (pv 0) (pa_cons (pv 1) (pa_cons (pv 1) pa_nil)))) (pe_one (pe_callB (call_all rfl) rfl T.all bt_all (pa_cons (pe_comp (N' := ["part"]) rfl (CScope.plain rfl (by decide +kernel) (by decide +kernel) (by decide +kernel)) (pi_tup (pv 0)) (fun _ _ _ _ => (pg_name (i := 0) (show List.Nodup (["part"] : List Str) by decide +kernel) rfl (Or.inl rfl))) (fun _ _ _ _ => pf_nil) (fun _ _ _ _ => (pcall g_is_whole hr (pa_cons (pv 0) pa_nil)))) pa_nil)))))), ?_⟩
  refine ⟨_, rfl, _, rfl, _, rfl, v, n, n, rfl, t.kn, _, rfl, ?_⟩
  cases e : tupOf H v with
  | none => exact iteF (by have := q H (Same.refl H); rw [e] at this; exact this)
  | some xs =>
    obtain ⟨p, rfl, hp⟩ := of_tupOf e
    have tp := t.parts xs e
    cases eb : rowB (some xs) n n with
    | false => exact iteF (by have := q H (Same.refl H); rw [e, wholesB_some, eb] at this; exact this)
    | true =>
      refine iteT ⟨_, rfl, p, rfl, ⟨xs, SqT.of hp⟩, fun l hl => ?_⟩
      have hpl : p ≠ l := ne_of_none hp hl
      refine comp_tup (xs := xs) (fun i σ H' => ∃ u, σ = [u] ∧ H' = upd H l (.lst ((xs.take i).map fun y => V.bl (isW y)))) ⟨none, rfl, rfl⟩ (fun i σ H' _ h => ?_) (fun i x σ H' hx h => ?_) (fun σ H' h => ?_)
      · obtain ⟨u, rfl, rfl⟩ := h
        exact SqT.of (by rw [upd_ne hpl]; exact hp)
      · obtain ⟨u, rfl, rfl⟩ := h
        have sm : Same H (upd H l (.lst ((xs.take i).map fun y => V.bl (isW y)))) := same_new hl _
        have et : (xs.take (i + 1)).map (fun y => V.bl (isW y)) = (xs.take i).map (fun y => V.bl (isW y)) ++ [V.bl (isW x)] := by rw [List.take_succ, hx]; simp
        refine ⟨_, rfl, x, rfl, (tp.2 x (List.mem_of_getElem? hx)).same sm, _, upd_same, small1000 (by rw [List.length_map, List.length_take]; omega), _, rfl, ?_⟩
        rw [upd_upd, et]
      · obtain ⟨u, rfl, rfl⟩ := h
        refine ⟨l, xs.map isW, rfl, SqL.of ?_, ?_⟩
        · rw [upd_same, List.take_length, List.map_map]
          rfl
        · have := q _ (same_new hl (.lst ((xs.take xs.length).map fun y => V.bl (isW y))))
          rw [e, wholesB_some, eb, Bool.true_and] at this
          rw [List.all_map]
          exact this
theorem ok_frame (c : Code K mg "frame" s_frame p_frame) (T : Nm mg) : Good P w K mg base "frame" 1 p_frame spFrame := by
  refine c.good sc_frame (fun vs H Q E h => ?_) (fun f cdv A outer s H vs Q E hr h => ?_)
  · obtain ⟨x, t, w, rfl, _⟩ := h
    rfl
  obtain ⟨x, t, w, rfl, q⟩ := h
  refine ⟨_, (pss_one (ps_ret (pe_tup (pa_cons (pv 0) (pa_cons (pv 1) (pa_cons (pv 2) (pa_cons (pe_op op_mod (pe_op op_add (pe_op op_add (pe_op op_mul pe_int (pv 0)) (pe_op op_mul pe_int (pv 1))) (pe_op op_mul pe_int (pv 2))) pe_int) pa_nil))))))), ?_⟩
  refine ⟨_, rfl, _, rfl, _, rfl, _, rfl, _, _, rfl, rfl, .inl ⟨by decide, by decide⟩, _, rfl, _, _, rfl, rfl, .inl ⟨by decide, by decide⟩, _, _, rfl, rfl, _, rfl, _, _, rfl, rfl, .inl ⟨by decide, by decide⟩, _, _, rfl, rfl, _, _, rfl, rfl, (by show (0 : Int) < 257; decide), leSize (by show 4 ≤ 1000; decide), fun p hp => ?_⟩
  exact q p _ hp upd_same (same_new hp _)
theorem ok_is_frameO (c : Code K mg "is_frame" s_is_frame p_is_frame) (T : Nm mg) (g_are_wholes : Good P w K mg base "are_wholes" 2 p_are_wholes spWholesT) (g_is_within : Good P w K mg base "is_within" 2 p_is_within spWithin) (g_frame : Good P w K mg base "frame" 1 p_frame spFrame) : Good P w K mg base "is_frame" 3 p_is_frame spIsFrameO := by
  refine c.good sc_is_frame (fun vs H Q E h => ?_) (fun f cdv A outer s H vs Q E hr h => ?_)
  · obtain ⟨v, o, rfl, _⟩ := h
    rfl
  obtain ⟨v, o, rfl, ⟨th, ho⟩, q⟩ := h
  refine ⟨_, (pss_cons (ps_if (pt_not (pt_val (pcall g_are_wholes hr (pa_cons (pv 0) (pa_cons pe_int pa_nil))))) (pss_one (ps_ret pe_bl)) pss_nil)
  (pss_cons (ps_asg (pv 0) (pg_tup rfl (pgs_cons (pg_name (i := 1) sc_is_frame.nd rfl (Or.inl rfl)) (pgs_cons (pg_name (i := 2) sc_is_frame.nd rfl (Or.inl rfl)) (pgs_cons (pg_name (i := 3) sc_is_frame.nd rfl (Or.inl rfl)) (pgs_cons (pg_name (i := 4) sc_is_frame.nd rfl (Or.inl rfl)) pgs_nil))))))
  (pss_cons (ps_if (PW.pt (pw_or (pt_not (pt_val (pcall g_is_within hr (pa_cons (pv 1) (pa_cons pe_int (pa_cons pe_int pa_nil)))))) (pw_or (pt_not (pt_val (pcall g_is_within hr (pa_cons (pv 2) (pa_cons pe_int (pa_cons pe_int pa_nil)))))) (pw_or1 (pt_not (pt_val (pcall g_is_within hr (pa_cons (pv 3) (pa_cons pe_int (pa_cons pe_int pa_nil)))))))))) (pss_one (ps_ret pe_bl)) pss_nil)
  (pss_one (ps_ret (pe_cmpR (op_eqD hr.units) (pv 0) (pcall g_frame hr (pa_cons (pv 1) (pa_cons (pv 2) (pa_cons (pv 3) pa_nil)))) (nomark _))))))), ?_⟩
  refine ⟨_, rfl, v, 4, rfl, th, fun H1 s1 => ⟨_, rfl, ?_⟩⟩
  cases ew : wholesB (tupOf H v) 4 with
  | false =>
    rw [ans_no ew] at ho
    rw [ho] at q
    exact iteT (q _ s1)
  | true =>
  obtain ⟨x, t, w', c', et⟩ := ans_yes ew
  rw [et] at ho
  obtain ⟨p, rfl, hp⟩ := of_tupOf et
  have hp : H p = some (.tup (iv [x, t, w', c'])) := hp
  have q : ∀ H', Same H H' → Q (.bl (isFr x t w' c')) H' := fun H' s' => by
    have := q H' s'
    have e2 : o.isSome = isFr x t w' c' := by
      rw [ho]
      show (if isFr x t w' c' = true then some (x, t, w') else none).isSome = _
      cases isFr x t w' c' <;> rfl
    rw [e2] at this
    exact this
  refine iteF ?_
  have hp1 := s1 _ _ hp
  refine ⟨_, rfl, p, _, rfl, SqT.of hp1, rfl, _, _, rfl, _, _, rfl, _, _, rfl, _, _, rfl, rfl, ?_⟩
  unfold isFr at q
  refine ⟨_, rfl, x, 1, 99, rfl, _, rfl, ?_⟩
  by_cases h1 : 1 ≤ x ∧ x ≤ 99
  case neg =>
    rw [decide_eq_false h1, Bool.false_and] at q
    rw [decide_eq_false h1]
    exact iteT (q _ s1)
  rw [decide_eq_true h1, Bool.true_and] at q
  rw [decide_eq_true h1]
  refine iteF ⟨_, rfl, t, 0, 7, rfl, _, rfl, ?_⟩
  by_cases h2 : 0 ≤ t ∧ t ≤ 7
  case neg =>
    rw [decide_eq_false h2, Bool.false_and] at q
    rw [decide_eq_false h2]
    exact iteT (q _ s1)
  rw [decide_eq_true h2, Bool.true_and] at q
  rw [decide_eq_true h2]
  refine iteF ⟨_, rfl, w', 0, 255, rfl, _, rfl, ?_⟩
  by_cases h3 : 0 ≤ w' ∧ w' ≤ 255
  case neg =>
    rw [decide_eq_false h3, Bool.false_and] at q
    rw [decide_eq_false h3]
    exact iteT (q _ s1)
  rw [decide_eq_true h3, Bool.true_and] at q
  rw [decide_eq_true h3]
  refine iteF ⟨_, rfl, _, rfl, _, rfl, _, rfl, x, t, w', rfl, fun p2 H2 f2 e2 s2 => ?_⟩
  refine ⟨_, _, .tup (s2 _ _ hp1) (ints_reps _), .tup e2 (ints_reps _), tints_shaped _, tints_shaped _, ?_⟩
  rw [tints_eqv]
  have : decide ([x, t, w', c'] = fr4 x t w') = decide (c' = chk x t w') := by
    by_cases z : c' = chk x t w'
    · rw [decide_eq_true z, z]; exact decide_eq_true rfl
    · rw [decide_eq_false z]
      exact decide_eq_false fun e => z (by unfold fr4 at e; injection e with _ e; injection e with _ e; injection e with _ e; injection e)
  rw [this]
  exact q _ (s1.trans s2)
end
end K15

set_option Elab.async false
set_option linter.all false
set_option maxRecDepth 100000
set_option pp.maxSteps 300
set_option maxHeartbeats 1000000
namespace K15
open PySem L2
def dk (n : Nat) (a : Nat → Int) (v : Nat → V) : List (Key × V) := (List.range n).map fun j => ((.inl (a j) : Key), v j)
def upF {α : Type} (v : Nat → α) (i : Nat) (x : α) : Nat → α := fun j => if j = i then x else v j
def Apart (n : Nat) (a : Nat → Int) : Prop := ∀ i j, i < n → j < n → a i = a j → i = j
theorem dk_len (n : Nat) (a : Nat → Int) (v : Nat → V) : (dk n a v).length = n := by unfold dk; rw [List.length_map, List.length_range]
theorem dk_get {n i : Nat} {a : Nat → Int} {v : Nat → V} (h : i < n) : (dk n a v)[i]? = some (.inl (a i), v i) := by
  unfold dk
  rw [List.getElem?_map, List.getElem?_range h]
  rfl
theorem dk_at {n i : Nat} {a : Nat → Int} {v : Nat → V} {kv : Key × V} (h : (dk n a v)[i]? = some kv) : i < n ∧ kv = (.inl (a i), v i) := by
  have hi : i < n := by
    have := (List.getElem?_eq_some_iff.mp h).1
    rw [dk_len] at this
    exact this
  rw [dk_get hi] at h
  exact ⟨hi, (Option.some.inj h).symm⟩
theorem dk_succ (n : Nat) (a : Nat → Int) (v : Nat → V) : dk (n + 1) a v = dk n a v ++ [(.inl (a n), v n)] := by
  unfold dk
  rw [List.range_succ, List.map_append]
  rfl
theorem dk_congr {n : Nat} {a : Nat → Int} {v v' : Nat → V} (h : ∀ j, j < n → v j = v' j) : dk n a v = dk n a v' := by
  unfold dk
  refine List.map_congr_left fun j hj => ?_
  rw [h j (List.mem_range.mp hj)]
theorem dk_none {n : Nat} {a : Nat → Int} {v : Nat → V} {x : Int} (h : ∀ j, j < n → a j ≠ x) : valV (dk n a v) (.inl x) = none := by
  have h1 := valV_any (Sum.inl x : Key) (dk n a v)
  cases e : valV (dk n a v) (Sum.inl x : Key) with
  | none => rfl
  | some y =>
    rw [e] at h1
    obtain ⟨kv, hm, hk⟩ := List.any_eq_true.mp h1
    unfold dk at hm
    obtain ⟨j, hj, rfl⟩ := List.mem_map.mp hm
    exact absurd (Sum.inl.inj (of_decide_eq_true hk)) (h j (List.mem_range.mp hj))
theorem dk_val {a : Nat → Int} {v : Nat → V} : ∀ {n i : Nat}, Apart n a → i < n → valV (dk n a v) (.inl (a i)) = some (v i) := by
  intro n
  induction n with
  | zero => intro i _ h; exact absurd h (Nat.not_lt_zero _)
  | succ n ih =>
    intro i ap hi
    have ap' : Apart n a := fun x y hx hy e => ap x y (by omega) (by omega) e
    have hn : valV (dk n a v) (.inl (a n)) = none := dk_none fun j hj e => by have := ap j n (by omega) (by omega) e; omega
    rw [dk_succ, valV_snoc _ _ _ _ hn]
    by_cases e : i = n
    · rw [e, if_pos rfl]
    · rw [if_neg, ih ap' (by omega)]
      intro z
      exact e (ap i n hi (by omega) (Sum.inl.inj z))
theorem dk_put {n i : Nat} {a : Nat → Int} {v : Nat → V} (ap : Apart n a) (hi : i < n) (x : V) : putK (dk n a v) (.inl (a i)) x = dk n a (upF v i x) := by
  have h := dk_val (v := v) ap hi
  have h1 := valV_any (Sum.inl (a i) : Key) (dk n a v)
  rw [h] at h1
  unfold putK
  rw [if_pos (show ((dk n a v).any fun kv => decide (kv.1 = Sum.inl (a i))) = true from h1)]
  unfold dk
  rw [List.map_map]
  refine List.map_congr_left fun j hj => ?_
  have hj := List.mem_range.mp hj
  show (if (Sum.inl (a j) : Key) = Sum.inl (a i) then ((Sum.inl (a j) : Key), x) else (Sum.inl (a j), v j)) = (Sum.inl (a j), upF v i x j)
  unfold upF
  by_cases e : j = i
  · rw [e, if_pos rfl, if_pos rfl]
  · rw [if_neg e, if_neg fun z => e (ap j i hj hi (Sum.inl.inj z))]
theorem rg_get {α : Type} {n i : Nat} {f : Nat → α} {x : α} (h : ((List.range n).map f)[i]? = some x) : i < n ∧ x = f i := by
  have hi : i < n := by
    have := (List.getElem?_eq_some_iff.mp h).1
    rw [List.length_map, List.length_range] at this
    exact this
  rw [List.getElem?_map, List.getElem?_range hi] at h
  exact ⟨hi, (Option.some.inj h).symm⟩
theorem dk_new {a : Nat → Int} {v : Nat → V} {n i : Nat} (ap : Apart n a) (hi : i < n) : putK (dk i a v) (.inl (a i)) (v i) = dk (i + 1) a v := by
  rw [putK_new, dk_succ]
  exact dk_none fun j hj e => by have := ap j i (by omega) hi e; omega
theorem thaw_same {H HH : Hp} {d : Addr} {o : Obj} {u : HO} (s : Same (upd H d (.frz o u)) HH) (h : H d = some u) : Same H (upd HH d u) := fun c x e => by
  by_cases z : c = d
  · subst z
    rw [upd_same, ← h, e]
  · rw [upd_ne z]
    exact s _ _ (by rw [upd_ne z]; exact e)
def pk (n : Nat) (p : Nat → Bool) : List Nat := (List.range n).filter p
def sel (n : Nat) (a : Nat → Int) (p : Nat → Bool) : List Int := (pk n p).map a
theorem pk_succ (i : Nat) (p : Nat → Bool) : pk (i + 1) p = pk i p ++ (if p i = true then [i] else []) := by
  unfold pk
  rw [List.range_succ, List.filter_append]
  congr 1
  cases e : p i with
  | true => simp [e]
  | false => simp [e]
theorem sel_succ (i : Nat) (a : Nat → Int) (p : Nat → Bool) : sel (i + 1) a p = sel i a p ++ (if p i = true then [a i] else []) := by
  unfold sel
  rw [pk_succ, List.map_append]
  congr 1
  split <;> rfl
theorem pk_len (n : Nat) (p : Nat → Bool) : (pk n p).length ≤ n := by
  unfold pk
  have := List.length_filter_le p (List.range n)
  rw [List.length_range] at this
  exact this
theorem sel_len (n : Nat) (a : Nat → Int) (p : Nat → Bool) : (sel n a p).length ≤ n := by unfold sel; rw [List.length_map]; exact pk_len n p
abbrev Ev := Str × Int
def EvAt (H : Hp) (v : V) (e : Ev) : Prop := ∃ t, v = .ref t ∧ H t = some (.tup [.str e.1, .int e.2])
theorem EvAt.same {H H' : Hp} {v : V} {e : Ev} (h : EvAt H v e) (s : Same H H') : EvAt H' v e := by
  obtain ⟨t, e, q⟩ := h
  exact ⟨t, e, s _ _ q⟩
theorem Evs.same {H H' : Hp} {vs : List V} {es : List Ev} (h : Paired (EvAt H) vs es) (s : Same H H') : Paired (EvAt H') vs es := Paired.mapP h fun _ _ z => z.same s
theorem Paired.app {α β : Type} {F : α → β → Prop} : ∀ {l : List α} {m : List β} {l' : List α} {m' : List β}, Paired F l m → Paired F l' m' → Paired F (l ++ l') (m ++ m')
  | _, _, _, _, .nil, r => r
  | _, _, _, _, .cons a t, r => .cons a (Paired.app t r)
/-- all but these stays -/
def SameT (S : List Addr) (H H' : Hp) : Prop := ∀ c o, H c = some o → c ∉ S → H' c = some o
theorem SameT.refl (S : List Addr) (H : Hp) : SameT S H H := fun _ _ e _ => e
theorem SameT.trans {S : List Addr} {H H1 H2 : Hp} (x : SameT S H H1) (y : SameT S H1 H2) : SameT S H H2 := fun c o e n => y c o (x c o e n) n
theorem SameT.of {S : List Addr} {H H1 : Hp} (x : Same H H1) : SameT S H H1 := fun c o e _ => x c o e
theorem SameT.mono {S T : List Addr} {H H1 : Hp} (x : SameT S H H1) (h : ∀ c, c ∈ S → c ∈ T) : SameT T H H1 := fun c o e n => x c o e fun z => n (h c z)
theorem SameT.upd {S : List Addr} {H : Hp} {b : Addr} {o : HO} (h : b ∈ S) : SameT S H (upd H b o) := fun c u e n => by rw [upd_ne (fun z => n (by rw [z]; exact h))]; exact e
theorem SameT.stepB {S : List Addr} {H0 H H' : Hp} {b : Addr} (x : SameT S H0 H) (y : SameB b H H') (h : H0 b = none) : SameT S H0 H' := fun c o e n => y c o (x c o e n) fun z => by rw [z, h] at e; cases e
theorem SameT.same {S : List Addr} {H H' : Hp} {S0 : Hp} (x : SameT S H H') (s0 : Same S0 H) (h : ∀ c, c ∈ S → S0 c = none) : Same S0 H' := fun c o e => x c o (s0 c o e) fun z => by rw [h c z] at e; cases e
theorem upF_at {α : Type} (v : Nat → α) (i : Nat) (x : α) : upF v i x i = x := by unfold upF; rw [if_pos rfl]
theorem upF_ne {α : Type} (v : Nat → α) {i j : Nat} (x : α) (h : j ≠ i) : upF v i x j = v j := by unfold upF; rw [if_neg h]
theorem upF_two {α : Type} (v : Nat → α) (i : Nat) (x y : α) : upF (upF v i x) i y = upF v i y := by
  funext j
  unfold upF
  split <;> rfl
theorem inV_iv (w : Int) : ∀ ws : List Int, inV (.int w) (iv ws) = decide (w ∈ ws)
  | [] => rfl
  | x :: r => by
    have ih := inV_iv w r
    unfold inV at ih ⊢
    rw [show iv (x :: r) = V.int x :: iv r from rfl, List.any_cons, ih]
    show (eqV (V.int x) (V.int w) || decide (w ∈ r)) = _
    have : eqV (V.int x) (V.int w) = decide (x = w) := by
      show (x == w) = decide (x = w)
      by_cases h : x = w
      · rw [decide_eq_true h, h]; exact beq_self_eq_true w
      · rw [decide_eq_false h]; exact beq_eq_false_iff_ne.mpr h
    rw [this]
    by_cases h : x = w
    · subst h
      rw [decide_eq_true rfl, Bool.true_or, decide_eq_true (List.mem_cons_self ..)]
    · rw [decide_eq_false h, Bool.false_or]
      by_cases h2 : w ∈ r
      · rw [decide_eq_true h2, decide_eq_true (List.mem_cons_of_mem _ h2)]
      · rw [decide_eq_false h2, decide_eq_false fun z => (List.mem_cons.mp z).elim (fun e => h e.symm) h2]
theorem iv_flat (ws : List Int) : (iv ws).all flatV = true := by
  unfold iv
  rw [List.all_map]
  exact List.all_eq_true.mpr fun _ _ => rfl
end K15

set_option Elab.async false
set_option linter.all false
set_option maxRecDepth 100000
set_option pp.maxSteps 300
set_option maxHeartbeats 1000000
namespace K15
open PySem L2
abbrev s_Talk___init__ : Stmt := (inClass (top 26) 0)
abbrev p_Talk___init__ : List Str := ["self", "addresses"]
theorem sc_Talk___init__ : FnScope ["self", "addresses"] p_Talk___init__ (defScope s_Talk___init__) := ⟨rfl, rfl, rfl, by decide +kernel, rfl, by decide +kernel, by decide +kernel⟩
abbrev s_Talk_turn : Stmt := (inClass (top 26) 1)
abbrev p_Talk_turn : List Str := ["self"]
theorem sc_Talk_turn : FnScope ["self"] p_Talk_turn (defScope s_Talk_turn) := ⟨rfl, rfl, rfl, by decide +kernel, rfl, by decide +kernel, by decide +kernel⟩
abbrev s_Talk_beat : Stmt := (inClass (top 26) 2)
abbrev p_Talk_beat : List Str := ["self", "answers"]
theorem sc_Talk_beat : FnScope ["self", "answers", "counted", "events", "address", "words"] p_Talk_beat (defScope s_Talk_beat) := ⟨rfl, rfl, rfl, by decide +kernel, rfl, by decide +kernel, by decide +kernel⟩
abbrev s_Talk_count_words : Stmt := (inClass (top 26) 3)
abbrev p_Talk_count_words : List Str := ["self", "answers"]
theorem sc_Talk_count_words : FnScope ["self", "answers", "counted", "answer"] p_Talk_count_words (defScope s_Talk_count_words) := ⟨rfl, rfl, rfl, by decide +kernel, rfl, by decide +kernel, by decide +kernel⟩
abbrev s_Talk_hear : Stmt := (inClass (top 26) 4)
abbrev p_Talk_hear : List Str := ["self", "address", "word"]
theorem sc_Talk_hear : FnScope ["self", "address", "word", "events"] p_Talk_hear (defScope s_Talk_hear) := ⟨rfl, rfl, rfl, by decide +kernel, rfl, by decide +kernel, by decide +kernel⟩
abbrev s_Talk_miss : Stmt := (inClass (top 26) 5)
abbrev p_Talk_miss : List Str := ["self", "address", "is_two"]
theorem sc_Talk_miss : FnScope ["self", "address", "is_two", "events"] p_Talk_miss (defScope s_Talk_miss) := ⟨rfl, rfl, rfl, by decide +kernel, rfl, by decide +kernel, by decide +kernel⟩
abbrev s_Talk_word_of : Stmt := (inClass (top 26) 6)
abbrev p_Talk_word_of : List Str := ["self", "address"]
theorem sc_Talk_word_of : FnScope ["self", "address"] p_Talk_word_of (defScope s_Talk_word_of) := ⟨rfl, rfl, rfl, by decide +kernel, rfl, by decide +kernel, by decide +kernel⟩
abbrev s_Talk_lost : Stmt := (inClass (top 26) 7)
abbrev p_Talk_lost : List Str := ["self"]
theorem sc_Talk_lost : FnScope ["self"] p_Talk_lost (defScope s_Talk_lost) := ⟨rfl, rfl, rfl, by decide +kernel, rfl, by decide +kernel, by decide +kernel⟩
abbrev s_Talk_heard_now : Stmt := (inClass (top 26) 8)
abbrev p_Talk_heard_now : List Str := ["self"]
theorem sc_Talk_heard_now : FnScope ["self"] p_Talk_heard_now (defScope s_Talk_heard_now) := ⟨rfl, rfl, rfl, by decide +kernel, rfl, by decide +kernel, by decide +kernel⟩
structure Tx (K : PySem.W.Frag) (mg : Str → Option Value) (C : Addr) : Prop extends Nm mg where
  cl : Cls K C
  mgC : mg "Talk" = some (.ref C)
  n_beats : NoAttr K C "beats"
  n_words : NoAttr K C "words"
  n_missed : NoAttr K C "missed"
  n_doubled : NoAttr K C "doubled"
  n_gone : NoAttr K C "gone"
  TURNS : ∃ u, mg "TURNS" = some u ∧ RelV (.int 8) u
  BEATS_TO_LOST : ∃ u, mg "BEATS_TO_LOST" = some u ∧ RelV (.int 3) u
/-! the attributes -/
def ff (b : Nat) (d1 d2 d3 d4 : Addr) : List (Str × V) := [("beats", .int b), ("words", .ref d1), ("missed", .ref d2), ("doubled", .ref d3), ("gone", .ref d4)]
theorem names_nd : (["beats", "words", "missed", "doubled", "gone"] : List Str).Nodup := by decide +kernel
section
variable (b : Nat) (d1 d2 d3 d4 : Addr)
theorem fnd : ((ff b d1 d2 d3 d4).map (·.1)).Nodup := names_nd
theorem get_beats : List.lookup ("beats" : Str) (ff b d1 d2 d3 d4) = some (V.int b) := fl_get (i := 0) (fnd b d1 d2 d3 d4) rfl
theorem get_words : List.lookup ("words" : Str) (ff b d1 d2 d3 d4) = some (V.ref d1) := fl_get (i := 1) (fnd b d1 d2 d3 d4) rfl
theorem get_missed : List.lookup ("missed" : Str) (ff b d1 d2 d3 d4) = some (V.ref d2) := fl_get (i := 2) (fnd b d1 d2 d3 d4) rfl
theorem get_doubled : List.lookup ("doubled" : Str) (ff b d1 d2 d3 d4) = some (V.ref d3) := fl_get (i := 3) (fnd b d1 d2 d3 d4) rfl
theorem get_gone : List.lookup ("gone" : Str) (ff b d1 d2 d3 d4) = some (V.ref d4) := fl_get (i := 4) (fnd b d1 d2 d3 d4) rfl
theorem put_beats (k : Nat) : putF "beats" (.int k) (ff b d1 d2 d3 d4) = ff k d1 d2 d3 d4 := fl_put (i := 0) (fnd b d1 d2 d3 d4) rfl
end
theorem fno {b : Nat} {d1 d2 d3 d4 : Addr} {x : Str} (h : x ∉ (["beats", "words", "missed", "doubled", "gone"] : List Str)) : (ff b d1 d2 d3 d4).lookup x = none := fl_no h
/-- what is held of one address: its word, how many beats it was not heard, whether two came, whether it is lost -/
structure S1 where
  w : Option Int
  m : Nat
  d : Bool
  g : Bool
def wV : Option Int → V
  | none => .non
  | some i => .int i
def wF (s : Nat → S1) : Nat → V := fun j => wV (s j).w
def mF (s : Nat → S1) : Nat → V := fun j => .int ((s j).m : Int)
def dF (s : Nat → S1) : Nat → V := fun j => .bl (s j).d
def gF (s : Nat → S1) : Nat → V := fun j => .bl (s j).g
structure TalkAt (C : Addr) (H : Hp) (p d1 d2 d3 d4 : Addr) (n : Nat) (a : Nat → Int) (b : Nat) (s : Nat → S1) : Prop where
  ins : ∃ dx, H p = some (.ins C dx (ff b d1 d2 d3 d4))
  wd : H d1 = some (.dK (dk n a (wF s)))
  ms : H d2 = some (.dK (dk n a (mF s)))
  db : H d3 = some (.dK (dk n a (dF s)))
  gn : H d4 = some (.dK (dk n a (gF s)))
  ap : Apart n a
  few : n ≤ 30
  n12 : d1 ≠ d2
  n13 : d1 ≠ d3
  n14 : d1 ≠ d4
  n23 : d2 ≠ d3
  n24 : d2 ≠ d4
  n34 : d3 ≠ d4
section
variable {C : Addr} {H H' : Hp} {p d1 d2 d3 d4 : Addr} {n : Nat} {a : Nat → Int} {b : Nat} {s : Nat → S1}
theorem TalkAt.np (h : TalkAt C H p d1 d2 d3 d4 n a b s) : p ≠ d1 ∧ p ≠ d2 ∧ p ≠ d3 ∧ p ≠ d4 := by
  obtain ⟨⟨dx, hp⟩, h1, h2, h3, h4, _⟩ := h
  exact ⟨fun z => (by rw [z, h1] at hp; cases hp), fun z => (by rw [z, h2] at hp; cases hp), fun z => (by rw [z, h3] at hp; cases hp), fun z => (by rw [z, h4] at hp; cases hp)⟩
theorem TalkAt.same (h : TalkAt C H p d1 d2 d3 d4 n a b s) (k : Same H H') : TalkAt C H' p d1 d2 d3 d4 n a b s :=
  ⟨let ⟨dx, e⟩ := h.ins; ⟨dx, k _ _ e⟩, k _ _ h.wd, k _ _ h.ms, k _ _ h.db, k _ _ h.gn, h.ap, h.few, h.n12, h.n13, h.n14, h.n23, h.n24, h.n34⟩
/-- nothing of it is touched -/
theorem TalkAt.sameT {S : List Addr} (h : TalkAt C H p d1 d2 d3 d4 n a b s) (k : SameT S H H') (hs : p ∉ S ∧ d1 ∉ S ∧ d2 ∉ S ∧ d3 ∉ S ∧ d4 ∉ S) : TalkAt C H' p d1 d2 d3 d4 n a b s :=
  ⟨let ⟨dx, e⟩ := h.ins; ⟨dx, k _ _ e hs.1⟩, k _ _ h.wd hs.2.1, k _ _ h.ms hs.2.2.1, k _ _ h.db hs.2.2.2.1, k _ _ h.gn hs.2.2.2.2, h.ap, h.few, h.n12, h.n13, h.n14, h.n23, h.n24, h.n34⟩
theorem fF_up {α : Type} (f : S1 → α) (s : Nat → S1) (i : Nat) (x : S1) : (fun j => f (upF s i x j)) = upF (fun j => f (s j)) i (f x) := by
  funext j
  unfold upF
  split <;> rfl
theorem fF_id {α : Type} (f : S1 → α) (s : Nat → S1) (i : Nat) (x : S1) (h : f x = f (s i)) : (fun j => f (upF s i x j)) = fun j => f (s j) := by
  funext j
  unfold upF
  split
  · rename_i z; rw [h, z]
  · rfl
theorem TalkAt.putW (h : TalkAt C H p d1 d2 d3 d4 n a b s) (i : Nat) (v : Option Int) : TalkAt C (upd H d1 (.dK (dk n a (upF (wF s) i (wV v))))) p d1 d2 d3 d4 n a b (upF s i { s i with w := v }) := by
  obtain ⟨e1, e2, e3, e4⟩ := h.np
  refine ⟨let ⟨dx, e⟩ := h.ins; ⟨dx, by rw [upd_ne e1]; exact e⟩, ?_, ?_, ?_, ?_, h.ap, h.few, h.n12, h.n13, h.n14, h.n23, h.n24, h.n34⟩
  · rw [upd_same, show wF (upF s i { s i with w := v }) = upF (wF s) i (wV v) from fF_up (fun s => wV s.w) s i _]
  · rw [upd_ne h.n12.symm, show mF (upF s i { s i with w := v }) = mF s from fF_id (fun s => V.int (s.m : Int)) s i _ rfl]; exact h.ms
  · rw [upd_ne h.n13.symm, show dF (upF s i { s i with w := v }) = dF s from fF_id (fun s => V.bl s.d) s i _ rfl]; exact h.db
  · rw [upd_ne h.n14.symm, show gF (upF s i { s i with w := v }) = gF s from fF_id (fun s => V.bl s.g) s i _ rfl]; exact h.gn
theorem TalkAt.putM (h : TalkAt C H p d1 d2 d3 d4 n a b s) (i : Nat) (v : Nat) : TalkAt C (upd H d2 (.dK (dk n a (upF (mF s) i (.int (v : Int)))))) p d1 d2 d3 d4 n a b (upF s i { s i with m := v }) := by
  obtain ⟨e1, e2, e3, e4⟩ := h.np
  refine ⟨let ⟨dx, e⟩ := h.ins; ⟨dx, by rw [upd_ne e2]; exact e⟩, ?_, ?_, ?_, ?_, h.ap, h.few, h.n12, h.n13, h.n14, h.n23, h.n24, h.n34⟩
  · rw [upd_ne h.n12, show wF (upF s i { s i with m := v }) = wF s from fF_id (fun s => wV s.w) s i _ rfl]; exact h.wd
  · rw [upd_same, show mF (upF s i { s i with m := v }) = upF (mF s) i (.int (v : Int)) from fF_up (fun s => V.int (s.m : Int)) s i _]
  · rw [upd_ne h.n23.symm, show dF (upF s i { s i with m := v }) = dF s from fF_id (fun s => V.bl s.d) s i _ rfl]; exact h.db
  · rw [upd_ne h.n24.symm, show gF (upF s i { s i with m := v }) = gF s from fF_id (fun s => V.bl s.g) s i _ rfl]; exact h.gn
theorem TalkAt.putD (h : TalkAt C H p d1 d2 d3 d4 n a b s) (i : Nat) (v : Bool) : TalkAt C (upd H d3 (.dK (dk n a (upF (dF s) i (.bl v))))) p d1 d2 d3 d4 n a b (upF s i { s i with d := v }) := by
  obtain ⟨e1, e2, e3, e4⟩ := h.np
  refine ⟨let ⟨dx, e⟩ := h.ins; ⟨dx, by rw [upd_ne e3]; exact e⟩, ?_, ?_, ?_, ?_, h.ap, h.few, h.n12, h.n13, h.n14, h.n23, h.n24, h.n34⟩
  · rw [upd_ne h.n13, show wF (upF s i { s i with d := v }) = wF s from fF_id (fun s => wV s.w) s i _ rfl]; exact h.wd
  · rw [upd_ne h.n23, show mF (upF s i { s i with d := v }) = mF s from fF_id (fun s => V.int (s.m : Int)) s i _ rfl]; exact h.ms
  · rw [upd_same, show dF (upF s i { s i with d := v }) = upF (dF s) i (.bl v) from fF_up (fun s => V.bl s.d) s i _]
  · rw [upd_ne h.n34.symm, show gF (upF s i { s i with d := v }) = gF s from fF_id (fun s => V.bl s.g) s i _ rfl]; exact h.gn
theorem TalkAt.putG (h : TalkAt C H p d1 d2 d3 d4 n a b s) (i : Nat) (v : Bool) : TalkAt C (upd H d4 (.dK (dk n a (upF (gF s) i (.bl v))))) p d1 d2 d3 d4 n a b (upF s i { s i with g := v }) := by
  obtain ⟨e1, e2, e3, e4⟩ := h.np
  refine ⟨let ⟨dx, e⟩ := h.ins; ⟨dx, by rw [upd_ne e4]; exact e⟩, ?_, ?_, ?_, ?_, h.ap, h.few, h.n12, h.n13, h.n14, h.n23, h.n24, h.n34⟩
  · rw [upd_ne h.n14, show wF (upF s i { s i with g := v }) = wF s from fF_id (fun s => wV s.w) s i _ rfl]; exact h.wd
  · rw [upd_ne h.n24, show mF (upF s i { s i with g := v }) = mF s from fF_id (fun s => V.int (s.m : Int)) s i _ rfl]; exact h.ms
  · rw [upd_ne h.n34, show dF (upF s i { s i with g := v }) = dF s from fF_id (fun s => V.bl s.d) s i _ rfl]; exact h.db
  · rw [upd_same, show gF (upF s i { s i with g := v }) = upF (gF s) i (.bl v) from fF_up (fun s => V.bl s.g) s i _]
theorem TalkAt.gW (h : TalkAt C H p d1 d2 d3 d4 n a b s) {i : Nat} (hi : i < n) : DGet H d1 (.int (a i)) (some (wV (s i).w)) := .inl ⟨_, .inl (a i), .inl h.wd, rfl, (dk_val (v := wF s) h.ap hi).symm⟩
theorem TalkAt.gM (h : TalkAt C H p d1 d2 d3 d4 n a b s) {i : Nat} (hi : i < n) : DGet H d2 (.int (a i)) (some (.int ((s i).m : Int))) := .inl ⟨_, .inl (a i), .inl h.ms, rfl, (dk_val (v := mF s) h.ap hi).symm⟩
theorem TalkAt.gD (h : TalkAt C H p d1 d2 d3 d4 n a b s) {i : Nat} (hi : i < n) : DGet H d3 (.int (a i)) (some (.bl (s i).d)) := .inl ⟨_, .inl (a i), .inl h.db, rfl, (dk_val (v := dF s) h.ap hi).symm⟩
theorem TalkAt.gG (h : TalkAt C H p d1 d2 d3 d4 n a b s) {i : Nat} (hi : i < n) : DGet H d4 (.int (a i)) (some (.bl (s i).g)) := .inl ⟨_, .inl (a i), .inl h.gn, rfl, (dk_val (v := gF s) h.ap hi).symm⟩
theorem TalkAt.sz (h : TalkAt C H p d1 d2 d3 d4 n a b s) (v : Nat → V) : (dk n a v).length < sizeLine := by rw [dk_len]; exact small1000 (by have := h.few; omega)
end
/-! what a beat does to one address -/
def hearS (w : Int) : S1 := ⟨some w, 0, false, false⟩
def hearE (s : S1) (x : Int) : List Ev := if s.g = true then [("back", x)] else []
def missS (s : S1) (two : Bool) : S1 := ⟨s.w, s.m + 1, two, s.g || decide (3 ≤ s.m + 1)⟩
def twoE (s : S1) (two : Bool) (x : Int) : List Ev := if two = true ∧ s.d = false then [("two", x)] else []
def lostE (s : S1) (x : Int) : List Ev := if 3 ≤ s.m + 1 ∧ s.g = false then [("lost", x)] else []
def spTurn (C : Addr) : Sp := fun vs H Q _ => ∃ p dx b d1 d2 d3 d4, vs = [.ref p] ∧ H p = some (.ins C dx (ff b d1 d2 d3 d4)) ∧ Q (.int ((b : Int) % 8)) H
def spHear (C : Addr) : Sp := fun vs H Q _ => ∃ p d1 d2 d3 d4 n a b s i w, vs = [.ref p, .int (a i), .int w] ∧ i < n ∧ TalkAt C H p d1 d2 d3 d4 n a b s ∧ ∀ l es H', H l = none → H' l = some (.lst es) → Paired (EvAt H') es (hearE (s i) (a i)) → TalkAt C H' p d1 d2 d3 d4 n a b (upF s i (hearS w)) → SameT [d1, d2, d3, d4] H H' → Q (.ref l) H'
def spMiss (C : Addr) : Sp := fun vs H Q _ => ∃ p d1 d2 d3 d4 n a b s i two, vs = [.ref p, .int (a i), .bl two] ∧ i < n ∧ TalkAt C H p d1 d2 d3 d4 n a b s ∧ ∀ l es H', H l = none → H' l = some (.lst es) → Paired (EvAt H') es (twoE (s i) two (a i) ++ lostE (s i) (a i)) → TalkAt C H' p d1 d2 d3 d4 n a b (upF s i (missS (s i) two)) → SameT [d1, d2, d3, d4] H H' → Q (.ref l) H'
def spWord (C : Addr) : Sp := fun vs H Q _ => ∃ p d1 d2 d3 d4 n a b s i, vs = [.ref p, .int (a i)] ∧ i < n ∧ TalkAt C H p d1 d2 d3 d4 n a b s ∧ Q (wV (s i).w) H
def spLost (C : Addr) : Sp := fun vs H Q _ => ∃ p d1 d2 d3 d4 n a b s, vs = [.ref p] ∧ TalkAt C H p d1 d2 d3 d4 n a b s ∧ ∀ l H', H l = none → H' l = some (.lst (iv (sel n a fun j => (s j).g))) → Same H H' → Q (.ref l) H'
def heardL (n : Nat) (a : Nat → Int) (b : Nat) (s : Nat → S1) : List Int := if b = 0 then [] else sel n a fun j => decide ((s j).m = 0)
def spHeard (C : Addr) : Sp := fun vs H Q _ => ∃ p d1 d2 d3 d4 n a b s, vs = [.ref p] ∧ TalkAt C H p d1 d2 d3 d4 n a b s ∧ ∀ l H', H l = none → H' l = some (.lst (iv (heardL n a b s))) → Same H H' → Q (.ref l) H'
section
variable {P : Program} {w : World} {K : PySem.W.Frag} {mg : Str → Option Value} {base : Heap} {C : Addr}
theorem ok_turn (c : CodeM K C "turn" "Talk.turn" s_Talk_turn p_Talk_turn) (T : Tx K mg C) : GoodM P w K mg base C "turn" 1 p_Talk_turn (spTurn C) := by
  refine c.good sc_Talk_turn (fun vs H Q E h => ?_) (fun f cdv A outer s H vs Q E hr h => ?_)
  · obtain ⟨p, dx, b, d1, d2, d3, d4, rfl, _⟩ := h
    rfl
  obtain ⟨p, dx, b, d1, d2, d3, d4, rfl, hp, q⟩ := h
  refine ⟨_, (pss_one (ps_ret (pe_op op_mod (pe_fld (pv 0) rfl) (pe_cst rfl T.TURNS)))), ?_⟩
  exact ⟨_, rfl, p, C, dx, _, _, rfl, hp, T.cl, T.n_beats, get_beats b d1 d2 d3 d4, _, _, rfl, rfl, (by show (0 : Int) < 8; decide), q⟩
theorem ok_hear (c : CodeM K C "hear" "Talk.hear" s_Talk_hear p_Talk_hear) (T : Tx K mg C) : GoodM P w K mg base C "hear" 1 p_Talk_hear (spHear C) := by
  refine c.good sc_Talk_hear (fun vs H Q E h => ?_) (fun f cdv A outer s H vs Q E hr h => ?_)
  · obtain ⟨p, d1, d2, d3, d4, n, a, b, s, i, w, rfl, _⟩ := h
    rfl
  obtain ⟨p, d1, d2, d3, d4, n, a, b, s, i, w, rfl, hi, R, q⟩ := h
  refine ⟨_, (pss_cons (ps_set (i := 3) sc_Talk_hear.nd rfl (Or.inl rfl) (pe_ifExp (pt_val (pe_dget (hu_of hr) (pe_fld (pv 0) rfl) (pv 1) (fun _ _ => rfl))) (pe_lstS (pa_cons (pe_tup (pa_cons pe_str (pa_cons (pv 1) pa_nil))) pa_nil)) (pe_lstS pa_nil)))
  (pss_cons (ps_dput (hu_of hr) (pe_fld (pv 0) rfl) (pv 1) (pv 2) rfl)
  (pss_cons (ps_dput (hu_of hr) (pe_fld (pv 0) rfl) (pv 1) pe_int rfl)
  (pss_cons (ps_dput (hu_of hr) (pe_fld (pv 0) rfl) (pv 1) pe_bl rfl)
  (pss_cons (ps_dput (hu_of hr) (pe_fld (pv 0) rfl) (pv 1) pe_bl rfl)
  (pss_one (ps_ret (pv 3)))))))), ?_⟩
  obtain ⟨dx, hp⟩ := R.ins
  have rest : ∀ l es H1, H l = none → H1 l = some (.lst es) → Paired (EvAt H1) es (hearE (s i) (a i)) → Same H H1 →
      (tSeq (sDPut (tFld K (tVar 0) "words") (tVar 1) (tVar 2)) (tSeq (sDPut (tFld K (tVar 0) "missed") (tVar 1) (tC (V.int 0))) (tSeq (sDPut (tFld K (tVar 0) "doubled") (tVar 1) (tC (V.bl false))) (tSeq (sDPut (tFld K (tVar 0) "gone") (tVar 1) (tC (V.bl false))) (tRet (tVar 3)))))) { nx := fun x H' => Q V.non H', rt := Q } [some (.ref p), some (.int (a i)), some (.int w), some (.ref l)] H1 := fun l es H1 fl el he s1 => by
    have R1 := R.same s1
    have hp1 := s1 _ _ hp
    obtain ⟨e1, e2, e3, e4⟩ := R1.np
    refine ⟨_, rfl, _, rfl, p, C, dx, _, _, rfl, hp1, T.cl, T.n_words, get_words b d1 d2 d3 d4, _, rfl, d1, _, rfl, DPut.k (k := .inl (a i)) R1.wd (R1.sz _), ?_⟩
    rw [dk_put R1.ap hi]
    have R2 := R1.putW i (some w)
    have t2 : SameT [d1, d2, d3, d4] H1 (upd H1 d1 (.dK (dk n a (upF (wF s) i (wV (some w)))))) := SameT.upd (by simp)
    have hp2 : (upd H1 d1 (.dK (dk n a (upF (wF s) i (wV (some w)))))) p = some (.ins C dx (ff b d1 d2 d3 d4)) := by rw [upd_ne e1]; exact hp1
    show tSeq _ _ _ _ (upd H1 d1 (.dK (dk n a (upF (wF s) i (wV (some w))))))
    generalize upd H1 d1 (.dK (dk n a (upF (wF s) i (wV (some w))))) = H2 at *
    refine ⟨_, rfl, p, C, dx, _, _, rfl, hp2, T.cl, T.n_missed, get_missed b d1 d2 d3 d4, _, rfl, d2, _, rfl, DPut.k (k := .inl (a i)) R2.ms (R2.sz _), ?_⟩
    rw [dk_put R2.ap hi]
    have R3 := R2.putM i 0
    rw [upF_two, upF_at] at R3
    have t3 : SameT [d1, d2, d3, d4] H2 (upd H2 d2 (.dK (dk n a (upF (mF (upF s i { s i with w := some w })) i (.int ((0 : Nat) : Int)))))) := SameT.upd (by simp)
    have hp3 : (upd H2 d2 (.dK (dk n a (upF (mF (upF s i { s i with w := some w })) i (.int ((0 : Nat) : Int)))))) p = some (.ins C dx (ff b d1 d2 d3 d4)) := by rw [upd_ne e2]; exact hp2
    show tSeq _ _ _ _ (upd H2 d2 (.dK (dk n a (upF (mF (upF s i { s i with w := some w })) i (.int ((0 : Nat) : Int))))))
    generalize upd H2 d2 (.dK (dk n a (upF (mF (upF s i { s i with w := some w })) i (.int ((0 : Nat) : Int))))) = H3 at *
    refine ⟨_, rfl, p, C, dx, _, _, rfl, hp3, T.cl, T.n_doubled, get_doubled b d1 d2 d3 d4, _, rfl, d3, _, rfl, DPut.k (k := .inl (a i)) R3.db (R3.sz _), ?_⟩
    rw [dk_put R3.ap hi]
    have R4 := R3.putD i false
    rw [upF_two, upF_at] at R4
    generalize hD : dF (upF s i { w := some w, m := 0, d := (s i).d, g := (s i).g }) = DD at *
    have t4 : SameT [d1, d2, d3, d4] H3 (upd H3 d3 (.dK (dk n a (upF DD i (.bl false))))) := SameT.upd (by simp)
    have hp4 : (upd H3 d3 (.dK (dk n a (upF DD i (.bl false))))) p = some (.ins C dx (ff b d1 d2 d3 d4)) := by rw [upd_ne e3]; exact hp3
    show tSeq _ _ _ _ (upd H3 d3 (.dK (dk n a (upF DD i (.bl false)))))
    generalize upd H3 d3 (.dK (dk n a (upF DD i (.bl false)))) = H4 at *
    refine ⟨_, rfl, p, C, dx, _, _, rfl, hp4, T.cl, T.n_gone, get_gone b d1 d2 d3 d4, _, rfl, d4, _, rfl, DPut.k (k := .inl (a i)) R4.gn (R4.sz _), ?_⟩
    rw [dk_put R4.ap hi]
    have R5 := R4.putG i false
    rw [upF_two, upF_at] at R5
    generalize hG : gF (upF s i { w := some w, m := 0, d := false, g := (s i).g }) = GG at *
    have t5 : SameT [d1, d2, d3, d4] H4 (upd H4 d4 (.dK (dk n a (upF GG i (.bl false))))) := SameT.upd (by simp)
    generalize upd H4 d4 (.dK (dk n a (upF GG i (.bl false)))) = H5 at *
    have tA := (t2.trans t3).trans (t4.trans t5)
    have nl : l ∉ [d1, d2, d3, d4] := by
      have q1 := ne_of_none (R.wd) fl
      have q2 := ne_of_none (R.ms) fl
      have q3 := ne_of_none (R.db) fl
      have q4 := ne_of_none (R.gn) fl
      simp only [List.mem_cons, List.not_mem_nil, or_false]
      rintro (z | z | z | z)
      · exact q1 z.symm
      · exact q2 z.symm
      · exact q3 z.symm
      · exact q4 z.symm
    refine ⟨_, rfl, q l es H5 fl (tA _ _ el nl) ?_ R5 ((SameT.of s1).trans tA)⟩
    refine Paired.mapP he fun v e hv => ?_
    obtain ⟨t, rfl, ht⟩ := hv
    refine ⟨t, rfl, tA _ _ ht ?_⟩
    simp only [List.mem_cons, List.not_mem_nil, or_false]
    rintro (rfl | rfl | rfl | rfl)
    · rw [R1.wd] at ht; cases ht
    · rw [R1.ms] at ht; cases ht
    · rw [R1.db] at ht; cases ht
    · rw [R1.gn] at ht; cases ht
  refine ⟨_, rfl, p, C, dx, _, _, rfl, hp, T.cl, T.n_gone, get_gone b d1 d2 d3 d4, _, rfl, d4, _, rfl, R.gG hi, _, rfl, ite3 (fun hg => ?_) (fun hg => ?_)⟩
  · refine ⟨_, rfl, leSize (by show 2 ≤ 1000; decide), fun t ht => ⟨leSize (by show 1 ≤ 1000; decide), fun l H2 fl el s2 => ?_⟩⟩
    have st := same_new ht (.tup [.str "back", .int (a i)])
    refine rest l _ H2 (st.free fl) el ?_ (st.trans s2)
    unfold hearE
    rw [if_pos hg]
    exact .cons ⟨t, rfl, s2 _ _ upd_same⟩ .nil
  · refine ⟨leSize (by show 0 ≤ 1000; decide), fun l H2 fl el s2 => ?_⟩
    refine rest l _ H2 fl el ?_ s2
    unfold hearE
    rw [if_neg (by rw [hg]; decide)]
    exact .nil
end
end K15

set_option Elab.async false
set_option linter.all false
set_option maxRecDepth 100000
set_option pp.maxSteps 300
set_option maxHeartbeats 1000000
namespace K15
open PySem L2
section
variable {P : Program} {w : World} {K : PySem.W.Frag} {mg : Str → Option Value} {base : Heap} {C : Addr}
theorem TalkAt.nin {H : Hp} {p d1 d2 d3 d4 : Addr} {n : Nat} {a : Nat → Int} {b : Nat} {s : Nat → S1} (R : TalkAt C H p d1 d2 d3 d4 n a b s) {l : Addr} (h : H l = none ∨ (∃ xs, H l = some (.lst xs)) ∨ (∃ xs, H l = some (.tup xs))) : l ∉ [d1, d2, d3, d4] ∧ l ≠ p := by
  obtain ⟨dx, hp⟩ := R.ins
  have key : ∀ (d : Addr) (o : HO), H d = some o → (∀ xs, o ≠ .lst xs) → (∀ xs, o ≠ .tup xs) → l ≠ d := fun d o e n1 n2 z => by
    rw [z, e] at h
    rcases h with h | ⟨xs, h⟩ | ⟨xs, h⟩
    · cases h
    · exact n1 xs (Option.some.inj h)
    · exact n2 xs (Option.some.inj h)
  refine ⟨?_, key p _ hp (fun _ z => nomatch z) (fun _ z => nomatch z)⟩
  simp only [List.mem_cons, List.not_mem_nil, or_false]
  rintro (z | z | z | z)
  · exact key d1 _ R.wd (fun _ z => nomatch z) (fun _ z => nomatch z) z
  · exact key d2 _ R.ms (fun _ z => nomatch z) (fun _ z => nomatch z) z
  · exact key d3 _ R.db (fun _ z => nomatch z) (fun _ z => nomatch z) z
  · exact key d4 _ R.gn (fun _ z => nomatch z) (fun _ z => nomatch z) z
/-- events stay where only dicts change -/
theorem Evs.sameT {H H' : Hp} {p d1 d2 d3 d4 : Addr} {n : Nat} {a : Nat → Int} {b : Nat} {s : Nat → S1} (R : TalkAt C H p d1 d2 d3 d4 n a b s) {vs : List V} {es : List Ev} (h : Paired (EvAt H) vs es) (k : SameT [d1, d2, d3, d4] H H') : Paired (EvAt H') vs es := Paired.mapP h fun v e hv => by
  obtain ⟨t, rfl, ht⟩ := hv
  exact ⟨t, rfl, k _ _ ht (R.nin (.inr (.inr ⟨_, ht⟩))).1⟩
theorem ok_miss (c : CodeM K C "miss" "Talk.miss" s_Talk_miss p_Talk_miss) (T : Tx K mg C) : GoodM P w K mg base C "miss" 1 p_Talk_miss (spMiss C) := by
  refine c.good sc_Talk_miss (fun vs H Q E h => ?_) (fun f cdv A outer s H vs Q E hr h => ?_)
  · obtain ⟨p, d1, d2, d3, d4, n, a, b, s, i, two, rfl, _⟩ := h
    rfl
  obtain ⟨p, d1, d2, d3, d4, n, a, b, s, i, two, rfl, hi, R, q⟩ := h
  refine ⟨_, (pss_cons (ps_set (i := 3) sc_Talk_miss.nd rfl (Or.inl rfl) (pe_ifExp (PW.pt (pw_and (pt_val (pv 2)) (pw_and1 (pt_not (pt_val (pe_dget (hu_of hr) (pe_fld (pv 0) rfl) (pv 1) (fun _ _ => rfl))))))) (pe_lstS (pa_cons (pe_tup (pa_cons pe_str (pa_cons (pv 1) pa_nil))) pa_nil)) (pe_lstS pa_nil)))
  (pss_cons (ps_daug (hu_of hr) (pe_fld (pv 0) rfl) (pv 1) pe_int in_add (fun _ _ _ => rfl))
  (pss_cons (ps_dput (hu_of hr) (pe_fld (pv 0) rfl) (pv 1) (pv 2) rfl)
  (pss_cons (ps_if (PW.pt (pw_and (pt_cmpR op_ge (pe_dget (hu_of hr) (pe_fld (pv 0) rfl) (pv 1) (fun _ _ => rfl)) (pe_cst rfl T.BEATS_TO_LOST) (nomark _)) (pw_and1 (pt_not (pt_val (pe_dget (hu_of hr) (pe_fld (pv 0) rfl) (pv 1) (fun _ _ => rfl))))))) (pss_cons (ps_dput (hu_of hr) (pe_fld (pv 0) rfl) (pv 1) pe_bl rfl)
  (pss_one (ps_expr (pe_bm PySem.F.plainAttrs_list PySem.F.slot_list_append PySem.F.type_list_append mt_append (pv 3) (pa_cons (pe_tup (pa_cons pe_str (pa_cons (pv 1) pa_nil))) pa_nil))))) pss_nil)
  (pss_one (ps_ret (pv 3))))))), ?_⟩
  obtain ⟨dx, hp⟩ := R.ins
  refine seq_split (fun σ H1 => ∃ l es, σ = [some (.ref p), some (.int (a i)), some (.bl two), some (.ref l)] ∧ H l = none ∧ H1 l = some (.lst es) ∧ Paired (EvAt H1) es (twoE (s i) two (a i)) ∧ es.length ≤ 1 ∧ Same H H1) (fun σ H1 h => ?_) (fun D' hn => ?_)
  rotate_left 1
  · have none_ : ¬ (two = true ∧ (s i).d = false) → (tLstS tNil) [some (.ref p), some (.int (a i)), some (.bl two), none] H fun x H1 => gName 3 x [some (.ref p), some (.int (a i)), some (.bl two), none] H1 D'.nx := fun hn2 => by
      refine ⟨leSize (by show 0 ≤ 1000; decide), fun l H2 fl el s2 => hn _ _ ⟨l, _, rfl, fl, el, ?_, Nat.zero_le _, s2⟩⟩
      unfold twoE
      rw [if_neg hn2]
      exact .nil
    refine ⟨_, rfl, _, rfl, ite3 (fun h2 => ?_) (fun h2 => ?_)⟩
    · refine ⟨_, rfl, p, C, dx, _, _, rfl, hp, T.cl, T.n_doubled, get_doubled b d1 d2 d3 d4, _, rfl, d3, _, rfl, R.gD hi, _, rfl, ite3 (fun h3 => ?_) (fun h3 => ?_)⟩
      · refine ⟨_, rfl, leSize (by show 2 ≤ 1000; decide), fun t ht => ⟨leSize (by show 1 ≤ 1000; decide), fun l H2 fl el s2 => ?_⟩⟩
        have st := same_new ht (.tup [.str "two", .int (a i)])
        refine hn _ _ ⟨l, _, rfl, st.free fl, el, ?_, Nat.le_refl _, st.trans s2⟩
        unfold twoE
        rw [if_pos ⟨h2, by simpa using h3⟩]
        exact .cons ⟨t, rfl, s2 _ _ upd_same⟩ .nil
      · exact none_ (fun z => by rw [z.2] at h3; cases h3)
    · exact none_ (fun z => by rw [z.1] at h2; cases h2)
  obtain ⟨l, es, rfl, fl, el, he, hel, s1⟩ := h
  have R1 := R.same s1
  have hp1 := s1 _ _ hp
  obtain ⟨e1, e2, e3, e4⟩ := R1.np
  refine ⟨_, rfl, p, C, dx, _, _, rfl, hp1, T.cl, T.n_missed, get_missed b d1 d2 d3 d4, _, rfl, d2, _, rfl, R1.gM hi, _, _, rfl, rfl, _, DPut.k (k := .inl (a i)) R1.ms (R1.sz _), ?_⟩
  rw [dk_put R1.ap hi]
  have R2 := R1.putM i ((s i).m + 1)
  rw [show (((s i).m + 1 : Nat) : Int) = ((s i).m : Int) + 1 by omega] at R2
  have t2 : SameT [d1, d2, d3, d4] H1 (upd H1 d2 (.dK (dk n a (upF (mF s) i (.int (((s i).m : Int) + 1)))))) := SameT.upd (by simp)
  have hp2 : (upd H1 d2 (.dK (dk n a (upF (mF s) i (.int (((s i).m : Int) + 1)))))) p = some (.ins C dx (ff b d1 d2 d3 d4)) := by rw [upd_ne e2]; exact hp1
  show tSeq _ _ _ _ (upd H1 d2 (.dK (dk n a (upF (mF s) i (.int (((s i).m : Int) + 1))))))
  generalize upd H1 d2 (.dK (dk n a (upF (mF s) i (.int (((s i).m : Int) + 1))))) = H2 at *
  refine ⟨_, rfl, _, rfl, p, C, dx, _, _, rfl, hp2, T.cl, T.n_doubled, get_doubled b d1 d2 d3 d4, _, rfl, d3, _, rfl, DPut.k (k := .inl (a i)) R2.db (R2.sz _), ?_⟩
  rw [dk_put R2.ap hi]
  have R3 := R2.putD i two
  rw [upF_two, upF_at] at R3
  generalize hD : dF (upF s i { w := (s i).w, m := (s i).m + 1, d := (s i).d, g := (s i).g }) = DD at *
  have t3 : SameT [d1, d2, d3, d4] H2 (upd H2 d3 (.dK (dk n a (upF DD i (.bl two))))) := SameT.upd (by simp)
  have hp3 : (upd H2 d3 (.dK (dk n a (upF DD i (.bl two))))) p = some (.ins C dx (ff b d1 d2 d3 d4)) := by rw [upd_ne e3]; exact hp2
  generalize upd H2 d3 (.dK (dk n a (upF DD i (.bl two)))) = H3 at *
  have t13 := t2.trans t3
  have nl := (R1.nin (.inr (.inl ⟨_, el⟩))).1
  have el3 := t13 _ _ el nl
  have he3 := Evs.sameT R1 he t13
  have gm := R3.gM hi
  rw [upF_at] at gm
  have gg := R3.gG hi
  rw [upF_at] at gg
  clear R2 hp2 t2 t3
  dsimp only
  show tSeq (tIfS _ _ _) _ _ _ _
  refine seq_split (fun σ HF => ∃ es', σ = [some (.ref p), some (.int (a i)), some (.bl two), some (.ref l)] ∧ HF l = some (.lst es') ∧ Paired (EvAt HF) es' (twoE (s i) two (a i) ++ lostE (s i) (a i)) ∧ TalkAt C HF p d1 d2 d3 d4 n a b (upF s i (missS (s i) two)) ∧ SameT [d1, d2, d3, d4] H HF) (fun σ HF h => ?_) (fun D' hn => ?_)
  · obtain ⟨es', rfl, k1, k2, k3, k4⟩ := h
    exact ⟨_, rfl, q l es' HF fl k1 k2 k3 k4⟩
  have noL : ¬ (3 ≤ (s i).m + 1 ∧ (s i).g = false) → D'.nx [some (.ref p), some (.int (a i)), some (.bl two), some (.ref l)] H3 := fun h3 => by
    refine hn _ _ ⟨es, rfl, el3, ?_, ?_, (SameT.of s1).trans t13⟩
    · unfold lostE
      rw [if_neg h3, List.append_nil]
      exact he3
    · have : missS (s i) two = { w := (s i).w, m := (s i).m + 1, d := two, g := (s i).g } := by
        unfold missS
        congr 1
        by_cases z : 3 ≤ (s i).m + 1
        · cases hg : (s i).g with
          | true => rfl
          | false => exact absurd ⟨z, hg⟩ h3
        · rw [decide_eq_false z, Bool.or_false]
      rw [this]
      exact R3
  refine ⟨_, rfl, p, C, dx, _, _, rfl, hp3, T.cl, T.n_missed, get_missed b d1 d2 d3 d4, _, rfl, d2, _, rfl, gm, _, _, rfl, rfl, _, rfl, ite3 (fun h1 => ?_) (fun h1 => ?_)⟩
  rotate_left 1
  · have := of_decide_eq_false h1
    exact noL (fun z => this (by have := z.1; show (3 : Int) ≤ (((s i).m + 1 : Nat) : Int); omega))
  have h1' : 3 ≤ (s i).m + 1 := by have : (3 : Int) ≤ (((s i).m + 1 : Nat) : Int) := of_decide_eq_true h1; omega
  refine ⟨_, rfl, p, C, dx, _, _, rfl, hp3, T.cl, T.n_gone, get_gone b d1 d2 d3 d4, _, rfl, d4, _, rfl, gg, _, rfl, ite3 (fun h2 => ?_) (fun h2 => ?_)⟩
  rotate_left 1
  · exact noL (fun z => by have h2 : (!(s i).g) = false := h2; rw [z.2] at h2; cases h2)
  have h2' : (s i).g = false := by have h2 : (!(s i).g) = true := h2; simpa using h2
  refine ⟨_, rfl, p, C, dx, _, _, rfl, hp3, T.cl, T.n_gone, get_gone b d1 d2 d3 d4, _, rfl, d4, _, rfl, DPut.k (k := .inl (a i)) R3.gn (R3.sz _), ?_⟩
  rw [dk_put R3.ap hi]
  have R4 := R3.putG i true
  rw [upF_two, upF_at] at R4
  generalize hG : gF (upF s i { w := (s i).w, m := (s i).m + 1, d := two, g := (s i).g }) = GG at *
  have t4 : SameT [d1, d2, d3, d4] H3 (upd H3 d4 (.dK (dk n a (upF GG i (.bl true))))) := SameT.upd (by simp)
  have el4 : (upd H3 d4 (.dK (dk n a (upF GG i (.bl true))))) l = some (.lst es) := t4 _ _ el3 nl
  have he4 := Evs.sameT R3 he3 t4
  generalize upd H3 d4 (.dK (dk n a (upF GG i (.bl true)))) = H4 at *
  refine ⟨_, rfl, .inl ⟨rfl, _, SqL.of el4⟩, _, rfl, leSize (by show 2 ≤ 1000; decide), fun t ht => ?_⟩
  have st := same_new ht (.tup [.str "lost", .int (a i)])
  have et : (upd H4 t (.tup [.str "lost", .int (a i)])) t = some (.tup [.str "lost", .int (a i)]) := upd_same
  generalize upd H4 t (.tup [.str "lost", .int (a i)]) = H5 at *
  refine ⟨l, _, _, rfl, rfl, st _ _ el4, small1000 (by omega), hn _ _ ⟨es ++ [.ref t], rfl, upd_same, ?_, ?_, ?_⟩⟩
  · have kk : ∀ c xs, H5 c = some (.tup xs) → (upd H5 l (.lst (es ++ [.ref t]))) c = some (.tup xs) := fun c xs e => by
      rw [upd_ne (fun z => by rw [z, st _ _ el4] at e; cases e)]; exact e
    refine Paired.app (Paired.mapP he4 fun v e hv => ?_) ?_
    · obtain ⟨t', rfl, ht'⟩ := hv
      exact ⟨t', rfl, kk _ _ (st _ _ ht')⟩
    · unfold lostE
      rw [if_pos ⟨h1', h2'⟩]
      exact .cons ⟨t, rfl, kk _ _ et⟩ .nil
  · have : missS (s i) two = { w := (s i).w, m := (s i).m + 1, d := two, g := true } := by
      unfold missS
      rw [decide_eq_true h1', Bool.or_true]
    rw [this]
    have nn := R4.nin (.inr (.inl ⟨_, el4⟩))
    refine (R4.same st).sameT (S := [l]) (SameT.upd (by simp)) ?_
    have nn1 := nn.1
    simp only [List.mem_cons, List.not_mem_nil, or_false, not_or] at nn1 ⊢
    exact ⟨Ne.symm nn.2, Ne.symm nn1.1, Ne.symm nn1.2.1, Ne.symm nn1.2.2.1, Ne.symm nn1.2.2.2⟩
  · exact SameT.stepB (((SameT.of s1).trans t13).trans (t4.trans (SameT.of st))) SameB.upd fl
theorem ok_word (c : CodeM K C "word_of" "Talk.word_of" s_Talk_word_of p_Talk_word_of) (T : Tx K mg C) (g_is_whole : Good P w K mg base "is_whole" 1 p_is_whole spW) : GoodM P w K mg base C "word_of" 2 p_Talk_word_of (spWord C) := by
  refine c.good sc_Talk_word_of (fun vs H Q E h => ?_) (fun f cdv A outer s H vs Q E hr h => ?_)
  · obtain ⟨p, d1, d2, d3, d4, n, a, b, s, i, rfl, _⟩ := h
    rfl
  obtain ⟨p, d1, d2, d3, d4, n, a, b, s, i, rfl, hi, R, q⟩ := h
  refine ⟨_, (pss_cons (ps_if (PW.pt (pw_or (pt_not (pt_val (pcall g_is_whole hr (pa_cons (pv 1) pa_nil)))) (pw_or1 (pt_cmp (pc_dnotin (hu_of hr) (pv 1) (pe_fld (pv 0) rfl)))))) (pss_one ps_never) pss_nil)
  (pss_one (ps_ret (pe_dget (hu_of hr) (pe_fld (pv 0) rfl) (pv 1) (fun _ _ => rfl))))), ?_⟩
  obtain ⟨dx, hp⟩ := R.ins
  refine ⟨_, rfl, _, rfl, _, rfl, iteF ⟨_, rfl, _, rfl, p, C, dx, _, _, rfl, hp, T.cl, T.n_words, get_words b d1 d2 d3 d4, d1, _, rfl, R.gW hi, _, rfl, iteF ?_⟩⟩
  exact ⟨_, rfl, p, C, dx, _, _, rfl, hp, T.cl, T.n_words, get_words b d1 d2 d3 d4, _, rfl, d1, _, rfl, R.gW hi, q⟩
theorem ok_lost (c : CodeM K C "lost" "Talk.lost" s_Talk_lost p_Talk_lost) (T : Tx K mg C) : GoodM P w K mg base C "lost" 1 p_Talk_lost (spLost C) := by
  refine c.good sc_Talk_lost (fun vs H Q E h => ?_) (fun f cdv A outer s H vs Q E hr h => ?_)
  · obtain ⟨p, d1, d2, d3, d4, n, a, b, s, rfl, _⟩ := h
    rfl
  obtain ⟨p, d1, d2, d3, d4, n, a, b, s, rfl, R, q⟩ := h
  refine ⟨_, (pss_one (ps_ret (pe_thaw rfl (pe_comp (N' := ["address", "gone"]) rfl (CScope.plain rfl (by decide +kernel) (by decide +kernel) (by decide +kernel)) (pi_items (pe_fld (pv 0) rfl)) (fun _ _ _ _ => (pg_tupK (K := K) (n := 2) rfl rfl (pgs_cons (pg_name (i := 0) (show List.Nodup (["address", "gone"] : List Str) by decide +kernel) rfl (Or.inl rfl)) (pgs_cons (pg_name (i := 1) (show List.Nodup (["address", "gone"] : List Str) by decide +kernel) rfl (Or.inl rfl)) pgs_nil)))) (fun _ _ _ _ => (pf_one (pt_val (pv 1)))) (fun _ _ _ _ => (pv 0)))))), ?_⟩
  obtain ⟨dx, hp⟩ := R.ins
  have few := R.few
  have nfz : ∀ o' u, H d4 ≠ some (.frz o' u) := fun o' u z => by rw [R.gn] at z; cases z
  refine ⟨_, rfl, p, C, dx, _, _, rfl, hp, T.cl, T.n_gone, get_gone b d1 d2 d3 d4, d4, _, rfl, R.gn, fun o l hl => ?_⟩
  have nl : l ≠ d4 := fun z => by rw [z, upd_same] at hl; cases hl
  have fl0 : H l = none := by rw [upd_ne nl] at hl; exact hl
  refine comp_di (fun i σ HH => (∃ u v, σ = [u, v]) ∧ HH l = some (.lst (iv (sel i a fun j => (s j).g))) ∧ Same (upd H d4 (.frz o (.dK (dk n a (gF s))))) HH) ⟨⟨none, none, rfl⟩, upd_same, same_new hl _⟩ (fun i σ HH _ h => h.2.2 _ _ upd_same) (fun i kv t σ HH hx h ft => ?_) (fun σ HH h => ?_)
  · obtain ⟨⟨u, v', rfl⟩, hl1, sm⟩ := h
    obtain ⟨hi, rfl⟩ := dk_at hx
    have kt := same_new ft (.tup [kV (.inl (a i)), gF s i])
    refine ⟨t, _, rfl, SqT.of upd_same, rfl, _, _, rfl, _, _, rfl, rfl, ?_⟩
    refine ⟨_, rfl, _, rfl, ite3 (fun c1 => ?_) (fun c1 => ?_)⟩
    · refine ⟨_, rfl, _, kt _ _ hl1, ?_, ⟨_, _, rfl⟩, ?_, (sm.trans kt).stepB SameB.upd hl⟩
      · have := sel_len i a fun j => (s j).g
        rw [iv_len]; exact small1000 (by omega)
      · rw [upd_same, sel_succ, if_pos c1, iv_app]
        rfl
    · refine ⟨⟨_, _, rfl⟩, ?_, sm.trans kt⟩
      rw [sel_succ, if_neg (by rw [c1]; decide), List.append_nil]
      exact kt _ _ hl1
  obtain ⟨_, hl1, sm⟩ := h
  rw [dk_len] at hl1
  refine ⟨d4, o, dk n a (gF s), sm _ _ upd_same, nfz, q l _ fl0 ?_ (thaw_same sm R.gn)⟩
  rw [upd_ne nl]
  exact hl1
theorem ok_heard (c : CodeM K C "heard_now" "Talk.heard_now" s_Talk_heard_now p_Talk_heard_now) (T : Tx K mg C) : GoodM P w K mg base C "heard_now" 1 p_Talk_heard_now (spHeard C) := by
  refine c.good sc_Talk_heard_now (fun vs H Q E h => ?_) (fun f cdv A outer s H vs Q E hr h => ?_)
  · obtain ⟨p, d1, d2, d3, d4, n, a, b, s, rfl, _⟩ := h
    rfl
  obtain ⟨p, d1, d2, d3, d4, n, a, b, s, rfl, R, q⟩ := h
  refine ⟨_, (pss_cons (ps_if (pt_cmpR op_eq (pe_fld (pv 0) rfl) pe_int (nomark _)) (pss_one (ps_ret (pe_lst pa_nil))) pss_nil)
  (pss_one (ps_ret (pe_thaw rfl (pe_comp (N' := ["address", "many"]) rfl (CScope.plain rfl (by decide +kernel) (by decide +kernel) (by decide +kernel)) (pi_items (pe_fld (pv 0) rfl)) (fun _ _ _ _ => (pg_tupK (K := K) (n := 2) rfl rfl (pgs_cons (pg_name (i := 0) (show List.Nodup (["address", "many"] : List Str) by decide +kernel) rfl (Or.inl rfl)) (pgs_cons (pg_name (i := 1) (show List.Nodup (["address", "many"] : List Str) by decide +kernel) rfl (Or.inl rfl)) pgs_nil)))) (fun _ _ _ _ => (pf_one (pt_cmpR op_eq (pv 1) pe_int (nomark _)))) (fun _ _ _ _ => (pv 0))))))), ?_⟩
  obtain ⟨dx, hp⟩ := R.ins
  have few := R.few
  have nfz : ∀ o' u, H d2 ≠ some (.frz o' u) := fun o' u z => by rw [R.ms] at z; cases z
  refine ⟨_, rfl, p, C, dx, _, _, rfl, hp, T.cl, T.n_beats, get_beats b d1 d2 d3 d4, rfl, _, rfl, ite3 (fun h0 => ?_) (fun h0 => ?_)⟩
  · have : V.int (b : Int) = V.int 0 := of_decide_eq_true h0
    have hb : b = 0 := by injection this with z; omega
    refine ⟨leSize (by show 0 ≤ 1000; decide), fun l hl => q l _ hl ?_ (same_new hl _)⟩
    rw [upd_same]
    unfold heardL
    rw [if_pos hb]
    rfl
  have hb : b ≠ 0 := fun z => by subst z; cases h0
  have q : ∀ l H', H l = none → H' l = some (.lst (iv (sel n a fun j => decide ((s j).m = 0)))) → Same H H' → Q (.ref l) H' := fun l H' h1 h2 h3 => q l H' h1 (by unfold heardL; rw [if_neg hb]; exact h2) h3
  refine ⟨_, rfl, p, C, dx, _, _, rfl, hp, T.cl, T.n_missed, get_missed b d1 d2 d3 d4, d2, _, rfl, R.ms, fun o l hl => ?_⟩
  have nl : l ≠ d2 := fun z => by rw [z, upd_same] at hl; cases hl
  have fl0 : H l = none := by rw [upd_ne nl] at hl; exact hl
  refine comp_di (fun i σ HH => (∃ u v, σ = [u, v]) ∧ HH l = some (.lst (iv (sel i a fun j => decide ((s j).m = 0)))) ∧ Same (upd H d2 (.frz o (.dK (dk n a (mF s))))) HH) ⟨⟨none, none, rfl⟩, upd_same, same_new hl _⟩ (fun i σ HH _ h => h.2.2 _ _ upd_same) (fun i kv t σ HH hx h ft => ?_) (fun σ HH h => ?_)
  · obtain ⟨⟨u, v', rfl⟩, hl1, sm⟩ := h
    obtain ⟨hi, rfl⟩ := dk_at hx
    have kt := same_new ft (.tup [kV (.inl (a i)), mF s i])
    refine ⟨t, _, rfl, SqT.of upd_same, rfl, _, _, rfl, _, _, rfl, rfl, ?_⟩
    refine ⟨_, rfl, rfl, _, rfl, ite3 (fun c1 => ?_) (fun c1 => ?_)⟩
    · have c2 : (s i).m = 0 := by
        have : V.int ((s i).m : Int) = V.int 0 := of_decide_eq_true c1
        injection this with z
        omega
      refine ⟨_, rfl, _, kt _ _ hl1, ?_, ⟨_, _, rfl⟩, ?_, (sm.trans kt).stepB SameB.upd hl⟩
      · have := sel_len i a fun j => decide ((s j).m = 0)
        rw [iv_len]; exact small1000 (by omega)
      · rw [upd_same, sel_succ, if_pos (decide_eq_true c2), iv_app]
        rfl
    · have c2 : ¬ (s i).m = 0 := fun z => by
        have : ¬ V.int ((s i).m : Int) = V.int 0 := of_decide_eq_false c1
        exact this (by rw [z]; rfl)
      refine ⟨⟨_, _, rfl⟩, ?_, sm.trans kt⟩
      rw [sel_succ, if_neg (by rw [decide_eq_false c2]; decide), List.append_nil]
      exact kt _ _ hl1
  obtain ⟨_, hl1, sm⟩ := h
  rw [dk_len] at hl1
  refine ⟨d2, o, dk n a (mF s), sm _ _ upd_same, nfz, q l _ fl0 ?_ (thaw_same sm R.ms)⟩
  rw [upd_ne nl]
  exact hl1
end
end K15

set_option Elab.async false
set_option linter.all false
set_option maxRecDepth 100000
set_option pp.maxSteps 300
set_option maxHeartbeats 1000000
namespace K15
open PySem L2
/-- the words of one address that came with this turn, each once -/
def wo (turn x : Int) (acc : List Int) (o : Option (Int × Int × Int)) : List Int := match o with
  | none => acc
  | some y => if y.2.1 = turn ∧ y.1 = x ∧ y.2.2 ∉ acc then acc ++ [y.2.2] else acc
def wsOf (turn x : Int) (os : List (Option (Int × Int × Int))) : List Int := os.foldl (wo turn x) []
theorem wsOf_snoc (turn x : Int) (os : List (Option (Int × Int × Int))) (o : Option (Int × Int × Int)) : wsOf turn x (os ++ [o]) = wo turn x (wsOf turn x os) o := by
  unfold wsOf
  rw [List.foldl_append]
  rfl
theorem wo_len (turn x : Int) (acc : List Int) (o : Option (Int × Int × Int)) : (wo turn x acc o).length ≤ acc.length + 1 := by
  unfold wo
  split
  · omega
  · split
    · rw [List.length_append]; exact Nat.le_refl _
    · omega
theorem wsF_len (turn x : Int) : ∀ (os : List (Option (Int × Int × Int))) (acc : List Int), (os.foldl (wo turn x) acc).length ≤ acc.length + os.length
  | [], acc => Nat.le_refl _
  | o :: r, acc => by
    have h1 := wsF_len turn x r (wo turn x acc o)
    have h2 := wo_len turn x acc o
    rw [List.foldl_cons, List.length_cons]
    omega
theorem wsOf_len (turn x : Int) (os : List (Option (Int × Int × Int))) : (wsOf turn x os).length ≤ os.length := by
  have := wsF_len turn x os []
  rw [List.length_nil, Nat.zero_add] at this
  exact this
def stepS (s : S1) (ws : List Int) : S1 := match ws with
  | [w] => hearS w
  | _ => missS s (decide (1 < ws.length))
def stepE (s : S1) (ws : List Int) (x : Int) : List Ev := match ws with
  | [_] => hearE s x
  | _ => twoE s (decide (1 < ws.length)) x ++ lostE s x
theorem step2 (s : S1) {ws : List Int} (x : Int) (h : ws.length ≠ 1) : stepS s ws = missS s (decide (1 < ws.length)) ∧ stepE s ws x = twoE s (decide (1 < ws.length)) x ++ lostE s x := by
  match ws, h with
  | [], _ => exact ⟨rfl, rfl⟩
  | [w], h => exact absurd rfl h
  | w :: u :: r, _ => exact ⟨rfl, rfl⟩
/-- the events of the first i addresses -/
def evsTo (i : Nat) (a : Nat → Int) (s : Nat → S1) (ws : Nat → List Int) : List Ev := (List.range i).flatMap fun j => stepE (s j) (ws j) (a j)
theorem evsTo_succ (i : Nat) (a : Nat → Int) (s : Nat → S1) (ws : Nat → List Int) : evsTo (i + 1) a s ws = evsTo i a s ws ++ stepE (s i) (ws i) (a i) := by
  unfold evsTo
  rw [List.range_succ, List.flatMap_append]
  simp
theorem stepE_len (s : S1) (ws : List Int) (x : Int) : (stepE s ws x).length ≤ 2 := by
  by_cases h : ws.length = 1
  · match ws, h with
    | [w], _ =>
      show (hearE s x).length ≤ 2
      unfold hearE
      split
      · show 1 ≤ 2; decide
      · exact Nat.zero_le _
  · rw [(step2 s x h).2, List.length_append]
    unfold twoE lostE
    split <;> split <;> simp
theorem evsTo_len (i : Nat) (a : Nat → Int) (s : Nat → S1) (ws : Nat → List Int) : (evsTo i a s ws).length ≤ 2 * i := by
  induction i with
  | zero => exact Nat.zero_le _
  | succ i ih =>
    rw [evsTo_succ, List.length_append]
    have := stepE_len (s i) (ws i) (a i)
    omega
/-- the states behind the first i addresses -/
def stTo (i : Nat) (s : Nat → S1) (ws : Nat → List Int) : Nat → S1 := fun j => if j < i then stepS (s j) (ws j) else s j
theorem stTo_succ (i : Nat) (s : Nat → S1) (ws : Nat → List Int) : stTo (i + 1) s ws = upF (stTo i s ws) i (stepS (s i) (ws i)) := by
  funext j
  unfold stTo upF
  dsimp only
  by_cases h : j = i
  · subst h
    rw [if_pos (by omega), if_pos rfl]
  · rw [if_neg h]
    by_cases h2 : j < i
    · rw [if_pos h2, if_pos (by omega)]
    · rw [if_neg h2, if_neg (by omega)]
theorem stTo_at (i : Nat) (s : Nat → S1) (ws : Nat → List Int) : stTo i s ws i = s i := by unfold stTo; rw [if_neg (Nat.lt_irrefl _)]
def spCount (C : Addr) (K : PySem.W.Frag) : Sp := fun vs H Q _ => ∃ p d1 d2 d3 d4 n a b s la xs os, vs = [.ref p, .ref la] ∧ TalkAt C H p d1 d2 d3 d4 n a b s ∧ H la = some (.lst xs) ∧ Paired (AnsAt H) xs os ∧ xs.length ≤ 900 ∧
  ∀ d (L : Nat → Addr) H', H d = none → H' d = some (.dK (dk n a fun j => .ref (L j))) → (∀ j, j < n → H (L j) = none ∧ H' (L j) = some (.lst (iv (wsOf ((b : Int) % 8) (a j) os)))) → Same H H' → Q (.ref d) H'
def spBeat (C : Addr) (K : PySem.W.Frag) : Sp := fun vs H Q _ => ∃ p d1 d2 d3 d4 n a b s la xs os, vs = [.ref p, .ref la] ∧ TalkAt C H p d1 d2 d3 d4 n a b s ∧ H la = some (.lst xs) ∧ Paired (AnsAt H) xs os ∧ xs.length ≤ 900 ∧
  ∀ l es H', H l = none → H' l = some (.lst es) → Paired (EvAt H') es (evsTo n a s fun j => wsOf ((b : Int) % 8) (a j) os) → TalkAt C H' p d1 d2 d3 d4 n a (b + 1) (stTo n s fun j => wsOf ((b : Int) % 8) (a j) os) → SameT [p, d1, d2, d3, d4] H H' → Q (.ref l) H'
def s0 : Nat → S1 := fun _ => ⟨none, 0, false, false⟩
def spInit (C : Addr) : Sp := fun vs H Q _ => ∃ p dx oa n a, vs = [.ref p, .ref oa] ∧ H p = some (.ins C dx []) ∧ H oa = some (.tup ((List.range n).map fun j => V.int (a j))) ∧ Apart n a ∧ n ≤ 30 ∧ ∀ d1 d2 d3 d4 H', H d1 = none → H d2 = none → H d3 = none → H d4 = none → TalkAt C H' p d1 d2 d3 d4 n a 0 s0 → SameB p H H' → Q .non H'
/-- {address: .. for address in addresses} -/
theorem dcompA {K : PySem.W.Frag} {H : Hp} {oa l : Addr} {n : Nat} {a : Nat → Int} {tv : TE} {Q : VK} (x : V) (ho : H oa = some (.tup ((List.range n).map fun j => V.int (a j)))) (ap : Apart n a) (few : n ≤ 30) (hl : H l = none)
    (htv : ∀ σ HH (R : VK), R x HH → tv σ HH R) (q : Q (.ref l) (upd H l (.dK (dk n a fun _ => x)))) :
    DWant (Itt K oa) (gName 0) (fun _ H Q => Q true H) (tVar 0) tv Q [none] (upd H l (.dK [])) l := by
  refine dcomp_tup (xs := (List.range n).map fun j => V.int (a j)) (fun i σ HH => (∃ u, σ = [u]) ∧ HH = upd H l (.dK (dk i a fun _ => x))) ⟨⟨none, rfl⟩, rfl⟩ (fun i σ HH _ h => ?_) (fun i y σ HH hx h => ?_) (fun σ HH h => ?_)
  · obtain ⟨_, rfl⟩ := h
    exact SqT.of (same_new hl _ _ _ ho)
  · obtain ⟨⟨u, rfl⟩, rfl⟩ := h
    obtain ⟨hi, rfl⟩ := rg_get hx
    unfold gName
    dsimp only
    refine iteT ⟨_, rfl, htv _ _ _ ⟨_, .inl (a i), upd_same, rfl, ?_, ⟨_, rfl⟩, ?_⟩⟩
    · rw [dk_len]; exact small1000 (by omega)
    · rw [upd_upd, dk_new (v := fun _ => x) ap hi]
  · obtain ⟨_, rfl⟩ := h
    rw [List.length_map, List.length_range]
    exact q
section
variable {P : Program} {w : World} {K : PySem.W.Frag} {mg : Str → Option Value} {base : Heap} {C : Addr}
theorem ok_init (F : ∃ f fd, Fun K "__init__" "Talk.__init__" s_Talk___init__ f fd ∧ Mk K C f ∧ Binds K fd p_Talk___init__ []) (T : Tx K mg C) : GoodI P w K mg base C 1 p_Talk___init__ (spInit C) := by
  obtain ⟨f, fd, F, Mk, b⟩ := F
  refine ⟨f, fd, Mk, b, F.ok sc_Talk___init__ (fun vs H Q E h => ?_) (fun cdv A outer s H vs Q E hr h => ?_)⟩
  · obtain ⟨p, dx, oa, n, a, rfl, _⟩ := h
    rfl
  obtain ⟨p, dx, oa, n, a, rfl, hp, ho, ap, few, q⟩ := h
  refine ⟨_, (pss_cons (ps_fldE (pv 0) pe_int rfl)
  (pss_cons (ps_fldE (pv 0) (pe_dcomp (N' := ["address"]) rfl (CScope.plain rfl (by decide +kernel) (by decide +kernel) (by decide +kernel)) (pi_tup (pv 1)) (fun _ _ _ _ => (pg_name (i := 0) (show List.Nodup (["address"] : List Str) by decide +kernel) rfl (Or.inl rfl))) (fun _ _ _ _ => pf_nil) (fun _ _ _ _ => (pv 0)) (fun _ _ _ _ => pe_non)) rfl)
  (pss_cons (ps_fldE (pv 0) (pe_dcomp (N' := ["address"]) rfl (CScope.plain rfl (by decide +kernel) (by decide +kernel) (by decide +kernel)) (pi_tup (pv 1)) (fun _ _ _ _ => (pg_name (i := 0) (show List.Nodup (["address"] : List Str) by decide +kernel) rfl (Or.inl rfl))) (fun _ _ _ _ => pf_nil) (fun _ _ _ _ => (pv 0)) (fun _ _ _ _ => pe_int)) rfl)
  (pss_cons (ps_fldE (pv 0) (pe_dcomp (N' := ["address"]) rfl (CScope.plain rfl (by decide +kernel) (by decide +kernel) (by decide +kernel)) (pi_tup (pv 1)) (fun _ _ _ _ => (pg_name (i := 0) (show List.Nodup (["address"] : List Str) by decide +kernel) rfl (Or.inl rfl))) (fun _ _ _ _ => pf_nil) (fun _ _ _ _ => (pv 0)) (fun _ _ _ _ => pe_bl)) rfl)
  (pss_one (ps_fldE (pv 0) (pe_dcomp (N' := ["address"]) rfl (CScope.plain rfl (by decide +kernel) (by decide +kernel) (by decide +kernel)) (pi_tup (pv 1)) (fun _ _ _ _ => (pg_name (i := 0) (show List.Nodup (["address"] : List Str) by decide +kernel) rfl (Or.inl rfl))) (fun _ _ _ _ => pf_nil) (fun _ _ _ _ => (pv 0)) (fun _ _ _ _ => pe_bl)) rfl)))))), ?_⟩
  have npo : oa ≠ p := fun z => by rw [z, hp] at ho; cases ho
  refine ⟨_, rfl, p, C, dx, _, _, rfl, hp, T.cl, T.n_beats, (by show 0 < 1000; decide), fl_new (by show _ ∉ ([] : List Str); decide +kernel), fun H0 h0 s0 => ?_⟩
  have o0 := s0 _ _ ho npo
  refine ⟨_, rfl, oa, rfl, ⟨_, SqT.of o0⟩, fun d1 f1 => dcompA .non o0 ap few f1 (fun σ HH R r => r) ?_⟩
  have k1 := same_new f1 (.dK (dk n a fun _ => V.non))
  have u1 : (upd H0 d1 (.dK (dk n a fun _ => V.non))) d1 = _ := upd_same
  refine ⟨_, rfl, p, C, dx, _, _, rfl, k1 _ _ h0, T.cl, T.n_words, (by show 1 < 1000; decide), fl_new (by show _ ∉ (["beats"] : List Str); decide +kernel), fun H1 h1 s1 => ?_⟩
  have np1 : d1 ≠ p := fun z => by rw [z, h0] at f1; cases f1
  have o1 := s1 _ _ (k1 _ _ o0) npo
  have u11 := s1 _ _ u1 np1
  have r1 : SameB p H H1 := s0.trans ((SameB.of k1).trans s1)
  have f1' : H d1 = none := by
    cases e : H d1 with
    | none => rfl
    | some v => have := s0 _ _ e np1; rw [f1] at this; cases this
  generalize upd H0 d1 (.dK (dk n a fun _ => V.non)) = H0' at *
  refine ⟨_, rfl, oa, rfl, ⟨_, SqT.of o1⟩, fun d2 f2 => dcompA (.int 0) o1 ap few f2 (fun σ HH R r => r) ?_⟩
  have k2 := same_new f2 (.dK (dk n a fun _ => V.int 0))
  have u2 : (upd H1 d2 (.dK (dk n a fun _ => V.int 0))) d2 = _ := upd_same
  refine ⟨_, rfl, p, C, dx, _, _, rfl, k2 _ _ h1, T.cl, T.n_missed, (by show 2 < 1000; decide), fl_new (by show _ ∉ (["beats", "words"] : List Str); decide +kernel), fun H2 h2 s2 => ?_⟩
  have np2 : d2 ≠ p := fun z => by rw [z, h1] at f2; cases f2
  have o2 := s2 _ _ (k2 _ _ o1) npo
  have u12 := s2 _ _ (k2 _ _ u11) np1
  have u22 := s2 _ _ u2 np2
  have n12 : d1 ≠ d2 := ne_of_none u11 f2
  have f2' : H d2 = none := by
    cases e : H d2 with
    | none => rfl
    | some v => have := r1 _ _ e np2; rw [f2] at this; cases this
  have r2 : SameB p H H2 := r1.trans ((SameB.of k2).trans s2)
  generalize upd H1 d2 (.dK (dk n a fun _ => V.int 0)) = H1' at *
  refine ⟨_, rfl, oa, rfl, ⟨_, SqT.of o2⟩, fun d3 f3 => dcompA (.bl false) o2 ap few f3 (fun σ HH R r => r) ?_⟩
  have k3 := same_new f3 (.dK (dk n a fun _ => V.bl false))
  have u3 : (upd H2 d3 (.dK (dk n a fun _ => V.bl false))) d3 = _ := upd_same
  refine ⟨_, rfl, p, C, dx, _, _, rfl, k3 _ _ h2, T.cl, T.n_doubled, (by show 3 < 1000; decide), fl_new (by show _ ∉ (["beats", "words", "missed"] : List Str); decide +kernel), fun H3 h3 s3 => ?_⟩
  have np3 : d3 ≠ p := fun z => by rw [z, h2] at f3; cases f3
  have o3 := s3 _ _ (k3 _ _ o2) npo
  have u13 := s3 _ _ (k3 _ _ u12) np1
  have u23 := s3 _ _ (k3 _ _ u22) np2
  have u33 := s3 _ _ u3 np3
  have n13 : d1 ≠ d3 := ne_of_none u12 f3
  have n23 : d2 ≠ d3 := ne_of_none u22 f3
  have f3' : H d3 = none := by
    cases e : H d3 with
    | none => rfl
    | some v => have := r2 _ _ e np3; rw [f3] at this; cases this
  have r3 : SameB p H H3 := r2.trans ((SameB.of k3).trans s3)
  generalize upd H2 d3 (.dK (dk n a fun _ => V.bl false)) = H2' at *
  refine ⟨_, rfl, oa, rfl, ⟨_, SqT.of o3⟩, fun d4 f4 => dcompA (.bl false) o3 ap few f4 (fun σ HH R r => r) ?_⟩
  have k4 := same_new f4 (.dK (dk n a fun _ => V.bl false))
  have u4 : (upd H3 d4 (.dK (dk n a fun _ => V.bl false))) d4 = _ := upd_same
  refine ⟨_, rfl, p, C, dx, _, _, rfl, k4 _ _ h3, T.cl, T.n_gone, (by show 4 < 1000; decide), fl_new (by show _ ∉ (["beats", "words", "missed", "doubled"] : List Str); decide +kernel), fun H4 h4 s4 => ?_⟩
  have np4 : d4 ≠ p := fun z => by rw [z, h3] at f4; cases f4
  have u14 := s4 _ _ (k4 _ _ u13) np1
  have u24 := s4 _ _ (k4 _ _ u23) np2
  have u34 := s4 _ _ (k4 _ _ u33) np3
  have u44 := s4 _ _ u4 np4
  have f4' : H d4 = none := by
    cases e : H d4 with
    | none => rfl
    | some v => have := r3 _ _ e np4; rw [f4] at this; cases this
  exact q d1 d2 d3 d4 H4 f1' f2' f3' f4' ⟨⟨dx, h4⟩, u14, u24, u34, u44, ap, few, n12, n13, ne_of_none u13 f4, n23, ne_of_none u23 f4, ne_of_none u33 f4⟩ (r3.trans ((SameB.of k4).trans s4))
end
end K15

set_option Elab.async false
set_option linter.all false
set_option maxRecDepth 100000
set_option pp.maxSteps 300
set_option maxHeartbeats 1000000
namespace K15
open PySem L2
theorem paired_get {α β : Type} {F : α → β → Prop} : ∀ {l : List α} {r : List β} {i : Nat} {x : α}, Paired F l r → l[i]? = some x → ∃ y, r[i]? = some y ∧ F x y
  | _, _, 0, _, .cons a _, h => by cases h; exact ⟨_, rfl, a⟩
  | _, _, i + 1, _, .cons _ t, h => paired_get (i := i) t h
theorem paired_len {α β : Type} {F : α → β → Prop} : ∀ {l : List α} {r : List β}, Paired F l r → l.length = r.length
  | _, _, .nil => rfl
  | _, _, .cons _ t => congrArg (· + 1) (paired_len t)
section
variable {P : Program} {w : World} {K : PySem.W.Frag} {mg : Str → Option Value} {base : Heap} {C : Addr}
theorem ok_count (c : CodeM K C "count_words" "Talk.count_words" s_Talk_count_words p_Talk_count_words) (T : Tx K mg C) (g_is_frame : Good P w K mg base "is_frame" 3 p_is_frame spIsFrameO) (g_m_turn : GoodM P w K mg base C "turn" 1 p_Talk_turn (spTurn C)) : GoodM P w K mg base C "count_words" 4 p_Talk_count_words (spCount C K) := by
  refine c.good sc_Talk_count_words (fun vs H Q E h => ?_) (fun f cdv A outer s H vs Q E hr h => ?_)
  · obtain ⟨p, d1, d2, d3, d4, n, a, b, s, la, xs, os, rfl, _⟩ := h
    rfl
  obtain ⟨p, d1, d2, d3, d4, n, a, b, s, la, xs, os, rfl, R, hla, hos, fewx, q⟩ := h
  refine ⟨_, (pss_cons (ps_thaw rfl (ps_setDC (i := 2) sc_Talk_count_words.nd rfl (Or.inl rfl) (N' := ["address"]) rfl (CScope.plain rfl (by decide +kernel) (by decide +kernel) (by decide +kernel)) (pi_dict (pe_fld (pv 0) rfl)) (fun _ _ _ _ => (pg_name (i := 0) (show List.Nodup (["address"] : List Str) by decide +kernel) rfl (Or.inl rfl))) (fun _ _ _ _ => pf_nil) (fun _ _ _ _ => (pv 0)) (fun _ _ _ _ => (pe_lstS pa_nil))))
  (pss_cons (ps_for PassesOwn.never rfl (pi_list (pv 1)) (pg_name (i := 3) sc_Talk_count_words.nd rfl (Or.inl rfl))
  (pss_one (ps_if (PW.pt (pw_and (pt_val (pcall g_is_frame hr (pa_cons (pv 3) pa_nil))) (pw_and (pt_cmpR op_eq (pe_ix ix_tup (pv 3) pe_int (fun _ _ => rfl)) (pmeth0 (pv 0) T.cl g_m_turn hr) (nomark _)) (pw_and1 (pt_cmp (pc_din (hu_of hr) (pe_ix ix_tup (pv 3) pe_int (fun _ _ => rfl)) (pv 2))))))) (pss_one (ps_if (pt_cmpR op_notIn_seq (pe_ix ix_tup (pv 3) pe_int (fun _ _ => rfl)) (pe_dget (hu_of hr) (pv 2) (pe_ix ix_tup (pv 3) pe_int (fun _ _ => rfl)) (fun _ _ => rfl)) (by with_unfolding_all rfl)) (pss_one (ps_expr (pe_bm PySem.F.plainAttrs_list PySem.F.slot_list_append PySem.F.type_list_append mt_append (pe_dget (hu_of hr) (pv 2) (pe_ix ix_tup (pv 3) pe_int (fun _ _ => rfl)) (fun _ _ => rfl)) (pa_cons (pe_ix ix_tup (pv 3) pe_int (fun _ _ => rfl)) pa_nil)))) pss_nil)) pss_nil)))
  (pss_one (ps_ret (pv 2))))), ?_⟩
  obtain ⟨dx, hp⟩ := R.ins
  have few := R.few
  have ap := R.ap
  have nfz : ∀ o' u, H d1 ≠ some (.frz o' u) := fun o' u z => by rw [R.wd] at z; cases z
  refine ⟨_, rfl, p, C, dx, _, _, rfl, hp, T.cl, T.n_words, get_words b d1 d2 d3 d4, d1, _, rfl, R.wd, fun o d hd => ?_⟩
  have nd : d ≠ d1 := fun z => by rw [z, upd_same] at hd; cases hd
  have fd : H d = none := by rw [upd_ne nd] at hd; exact hd
  refine dcomp_dk (fun i σ HH => ∃ (u : Option V) (L : Nat → Addr), σ = [u] ∧ HH d = some (.dK (dk i a fun j => .ref (L j))) ∧ (∀ j, j < i → (upd H d1 (.frz o (.dK (dk n a (wF s))))) (L j) = none ∧ L j ≠ d ∧ HH (L j) = some (.lst [])) ∧ (∀ j k, j < i → k < i → L j = L k → j = k) ∧ Same (upd H d1 (.frz o (.dK (dk n a (wF s))))) HH) ⟨none, fun _ => 0, rfl, upd_same, (fun j hj => absurd hj (Nat.not_lt_zero _)), (fun j k hj => absurd hj (Nat.not_lt_zero _)), same_new hd _⟩ (fun i σ HH _ h => ?_) (fun i kv σ HH hx h => ?_) (fun σ HH h => ?_)
  · obtain ⟨u, L, rfl, g1, g2, g3, g4⟩ := h
    exact g4 _ _ upd_same
  · obtain ⟨u, L, rfl, g1, g2, g3, g4⟩ := h
    obtain ⟨hi, rfl⟩ := dk_at hx
    unfold gName
    dsimp only
    refine iteT ⟨_, rfl, leSize (by show 0 ≤ 1000; decide), fun l H2 fl el s2 => ?_⟩
    have fl0 := g4.free fl
    have nld : l ≠ d := (ne_of_none g1 fl).symm
    have hlt : ∀ j, j < i → l ≠ L j := fun j hj => (ne_of_none (g2 j hj).2.2 fl).symm
    refine ⟨_, .inl (a i), s2 _ _ g1, rfl, ?_, _, upF L i l, rfl, ?_, fun j hj => ?_, fun j k hj hk e => ?_, (g4.trans s2).stepB SameB.upd hd⟩
    · rw [dk_len]; exact small1000 (by omega)
    · rw [upd_same]
      have e1 : dk i a (fun j => V.ref (L j)) = dk i a (fun j => V.ref (upF L i l j)) := dk_congr fun j hj => by rw [upF_ne _ _ (by omega)]
      have e2 := dk_new (v := fun j => V.ref (upF L i l j)) ap hi
      simp only [upF_at] at e2
      rw [e1, e2]
    · by_cases hji : j = i
      · subst hji
        rw [upF_at]
        exact ⟨fl0, nld, by rw [upd_ne nld]; exact el⟩
      · rw [upF_ne _ _ hji]
        obtain ⟨k1, k2, k3⟩ := g2 j (by omega)
        exact ⟨k1, k2, by rw [upd_ne k2]; exact s2 _ _ k3⟩
    · by_cases hji : j = i
      · by_cases hki : k = i
        · omega
        · rw [hji, upF_at, upF_ne _ _ hki] at e
          exact absurd e (hlt k (by omega))
      · by_cases hki : k = i
        · rw [hki, upF_at, upF_ne _ _ hji] at e
          exact absurd e.symm (hlt j (by omega))
        · rw [upF_ne _ _ hji, upF_ne _ _ hki] at e
          exact g3 j k (by omega) (by omega) e
  obtain ⟨u, L, rfl, g1, g2, g3, g4⟩ := h
  rw [dk_len] at g1 g2 g3
  refine ⟨d1, o, dk n a (wF s), g4 _ _ upd_same, nfz, ?_⟩
  have s1 : Same H (upd HH d1 (.dK (dk n a (wF s)))) := thaw_same g4 R.wd
  have ed : (upd HH d1 (.dK (dk n a (wF s)))) d = some (.dK (dk n a fun j => .ref (L j))) := by rw [upd_ne nd]; exact g1
  have eL : ∀ j, j < n → H (L j) = none ∧ L j ≠ d ∧ (upd HH d1 (.dK (dk n a (wF s)))) (L j) = some (.lst []) := fun j hj => by
    obtain ⟨k1, k2, k3⟩ := g2 j hj
    have nl : L j ≠ d1 := fun z => by rw [z, upd_same] at k1; cases k1
    rw [upd_ne nl] at k1
    exact ⟨k1, k2, by rw [upd_ne nl]; exact k3⟩
  clear g1 g2 g4 hd
  generalize upd HH d1 (.dK (dk n a (wF s))) = H1 at *
  refine ⟨_, rfl, la, rfl, ⟨_, SqL.of (s1 _ _ hla)⟩, ?_⟩
  have hxo := paired_len hos
  refine for_list (xs := xs) (fun i σ HF => ∃ u, σ = [some (.ref p), some (.ref la), some (.ref d), u] ∧ HF d = some (.dK (dk n a fun j => .ref (L j))) ∧ (∀ j, j < n → HF (L j) = some (.lst (iv (wsOf ((b : Int) % 8) (a j) (os.take i))))) ∧ Same H HF) ⟨_, rfl, ed, fun j hj => (eL j hj).2.2, s1⟩ (fun i σ HF _ h => ?_) (fun i x σ HF hx h => ?_) (fun σ HF h => ?_)
  · obtain ⟨u, rfl, k1, k2, k3⟩ := h
    exact SqL.of (k3 _ _ hla)
  · obtain ⟨u, rfl, k1, k2, k3⟩ := h
    obtain ⟨y, hy, hA⟩ := paired_get hos hx
    have hiX : i < xs.length := (List.getElem?_eq_some_iff.mp hx).1
    have stay : ∀ HG, Same HF HG → (∀ j, j < n → wo ((b : Int) % 8) (a j) (wsOf ((b : Int) % 8) (a j) (os.take i)) y = wsOf ((b : Int) % 8) (a j) (os.take i)) →
        ∃ u, [some (.ref p), some (.ref la), some (.ref d), some x] = [some (.ref p), some (.ref la), some (.ref d), u] ∧ HG d = some (.dK (dk n a fun j => .ref (L j))) ∧ (∀ j, j < n → HG (L j) = some (.lst (iv (wsOf ((b : Int) % 8) (a j) (os.take (i + 1)))))) ∧ Same H HG := fun HG sg hw => by
      refine ⟨_, rfl, sg _ _ k1, fun j hj => ?_, k3.trans sg⟩
      rw [take_snoc hy, wsOf_snoc, hw j hj]
      exact sg _ _ (k2 j hj)
    refine ⟨_, rfl, x, y, rfl, hA.same k3, fun H2 s2 => ⟨_, rfl, ite3 (fun hk => ?_) (fun hk => ?_)⟩⟩
    rotate_left 1
    · cases y with
      | none => exact stay H2 s2 (fun j hj => rfl)
      | some y => cases hk
    cases y with
    | none => cases hk
    | some y =>
      obtain ⟨p', c', rfl, hp'⟩ := (hA.same (k3.trans s2)).some
      obtain ⟨yx, yt, yw⟩ := y
      have hp' : H2 p' = some (.tup (iv [yx, yt, yw, c'])) := hp'
      have hp2 := (k3.trans s2) _ _ hp
      refine ⟨_, rfl, p', _, _, _, rfl, rfl, SqT.of hp', rfl, _, rfl, p, dx, _, rfl, hp2, fno (by decide +kernel), p, dx, b, d1, d2, d3, d4, rfl, hp2, rfl, _, rfl, ite3 (fun h1 => ?_) (fun h1 => ?_)⟩
      rotate_left 1
      · refine stay H2 s2 (fun j hj => if_neg fun z => ?_)
        have h1 : decide (V.int yt = V.int ((b : Int) % 8)) = false := h1
        have := of_decide_eq_false h1
        have z1 : yt = (b : Int) % 8 := z.1
        exact this (by rw [z1])
      have h1' : yt = (b : Int) % 8 := by
        have h1 : decide (V.int yt = V.int ((b : Int) % 8)) = true := h1
        have := of_decide_eq_true h1
        injection this
      have c2 := s2 _ _ k1
      refine ⟨_, rfl, p', _, _, _, rfl, rfl, SqT.of hp', rfl, _, rfl, d, _, rfl, .inl ⟨_, .inl yx, .inl c2, rfl, rfl⟩, _, rfl, ite3 (fun h2 => ?_) (fun h2 => ?_)⟩
      rotate_left 1
      · refine stay H2 s2 (fun j hj => if_neg fun z => ?_)
        have z2 : yx = a j := z.2.1
        rw [z2, dk_val ap hj] at h2
        cases h2
      obtain ⟨j0, hj0, e0⟩ : ∃ j, j < n ∧ a j = yx := by
        by_cases z : ∃ j, j < n ∧ a j = yx
        · exact z
        · rw [dk_none fun j hj e => z ⟨j, hj, e⟩] at h2
          cases h2
      subst e0
      have gL : DGet H2 d (.int (a j0)) (some (.ref (L j0))) := .inl ⟨_, .inl (a j0), .inl c2, rfl, (dk_val (v := fun j => V.ref (L j)) ap hj0).symm⟩
      have eL2 := s2 _ _ (k2 j0 hj0)
      refine ⟨_, rfl, p', _, _, _, rfl, rfl, SqT.of hp', rfl, _, rfl, _, rfl, p', _, _, _, rfl, rfl, SqT.of hp', rfl, d, _, rfl, gL, L j0, _, rfl, .inl (SqL.of eL2), rfl, iv_flat _, _, rfl, ite3 (fun h3 => ?_) (fun h3 => ?_)⟩
      rotate_left 1
      · have h3 : (!inV (.int yw) (iv (wsOf ((b : Int) % 8) (a j0) (os.take i)))) = false := h3
        rw [inV_iv] at h3
        have hin : yw ∈ wsOf ((b : Int) % 8) (a j0) (os.take i) := by simpa using h3
        refine stay H2 s2 (fun j hj => if_neg fun z => ?_)
        have z2 : a j0 = a j := z.2.1
        have := ap j0 j hj0 hj z2
        subst this
        exact z.2.2 hin
      have h3 : (!inV (.int yw) (iv (wsOf ((b : Int) % 8) (a j0) (os.take i)))) = true := h3
      rw [inV_iv] at h3
      have hin : yw ∉ wsOf ((b : Int) % 8) (a j0) (os.take i) := by simpa using h3
      have wl := wsOf_len ((b : Int) % 8) (a j0) (os.take i)
      rw [List.length_take] at wl
      refine ⟨_, rfl, _, rfl, p', _, _, _, rfl, rfl, SqT.of hp', rfl, d, _, rfl, gL, .inl ⟨rfl, _, SqL.of eL2⟩, _, rfl, p', _, _, _, rfl, rfl, SqT.of hp', rfl, L j0, _, _, rfl, rfl, eL2, small1000 (by rw [iv_len]; omega), ?_⟩
      refine ⟨_, rfl, by rw [upd_ne (Ne.symm (eL j0 hj0).2.1)]; exact c2, fun j hj => ?_, (k3.trans s2).stepB SameB.upd (eL j0 hj0).1⟩
      rw [take_snoc hy, wsOf_snoc]
      by_cases hjj : j = j0
      · subst hjj
        rw [upd_same]
        have : wo ((b : Int) % 8) (a j) (wsOf ((b : Int) % 8) (a j) (os.take i)) (some (a j, yt, yw)) = wsOf ((b : Int) % 8) (a j) (os.take i) ++ [yw] := if_pos ⟨h1', rfl, hin⟩
        rw [this, iv_app]
        rfl
      · rw [upd_ne (fun z => hjj (g3 j j0 hj hj0 z))]
        have : wo ((b : Int) % 8) (a j) (wsOf ((b : Int) % 8) (a j) (os.take i)) (some (a j0, yt, yw)) = wsOf ((b : Int) % 8) (a j) (os.take i) := if_neg fun z => hjj (ap j j0 hj hj0 (Eq.symm z.2.1))
        rw [this]
        exact s2 _ _ (k2 j hj)
  · obtain ⟨u, rfl, k1, k2, k3⟩ := h
    refine ⟨_, rfl, q d L HF fd k1 (fun j hj => ⟨(eL j hj).1, ?_⟩) k3⟩
    have := k2 j hj
    rw [hxo, List.take_length] at this
    exact this
end
end K15

set_option Elab.async false
set_option linter.all false
set_option maxRecDepth 100000
set_option pp.maxSteps 300
set_option maxHeartbeats 1000000
namespace K15
open PySem L2
section
variable {P : Program} {w : World} {K : PySem.W.Frag} {mg : Str → Option Value} {base : Heap} {C : Addr}
/-- a thing laid elsewhere, or changed elsewhere, changes nothing of the talk -/
theorem TalkAt.off {H : Hp} {p d1 d2 d3 d4 : Addr} {n : Nat} {a : Nat → Int} {b : Nat} {s : Nat → S1} (R : TalkAt C H p d1 d2 d3 d4 n a b s) {x : Addr} {u : HO} (h : x ∉ [d1, d2, d3, d4] ∧ x ≠ p) : TalkAt C (upd H x u) p d1 d2 d3 d4 n a b s := by
  refine R.sameT (S := [x]) (SameT.upd (by simp)) ?_
  have h1 := h.1
  simp only [List.mem_cons, List.not_mem_nil, or_false, not_or] at h1 ⊢
  exact ⟨Ne.symm h.2, Ne.symm h1.1, Ne.symm h1.2.1, Ne.symm h1.2.2.1, Ne.symm h1.2.2.2⟩
theorem ok_beat (c : CodeM K C "beat" "Talk.beat" s_Talk_beat p_Talk_beat) (T : Tx K mg C) (g_m_count_words : GoodM P w K mg base C "count_words" 4 p_Talk_count_words (spCount C K)) (g_m_hear : GoodM P w K mg base C "hear" 1 p_Talk_hear (spHear C)) (g_m_miss : GoodM P w K mg base C "miss" 1 p_Talk_miss (spMiss C)) : GoodM P w K mg base C "beat" 5 p_Talk_beat (spBeat C K) := by
  refine c.good sc_Talk_beat (fun vs H Q E h => ?_) (fun f cdv A outer s H vs Q E hr h => ?_)
  · obtain ⟨p, d1, d2, d3, d4, n, a, b, s, la, xs, os, rfl, _⟩ := h
    rfl
  obtain ⟨p, d1, d2, d3, d4, n, a, b, s, la, xs, os, rfl, R, hla, hos, fewx, q⟩ := h
  refine ⟨_, (pss_cons (ps_set (i := 2) sc_Talk_beat.nd rfl (Or.inl rfl) (pmeth (pv 0) T.cl g_m_count_words hr (pa_cons (pv 1) pa_nil)))
  (pss_cons (ps_fldaugE (pv 0) pe_int in_add)
  (pss_cons (ps_set (i := 3) sc_Talk_beat.nd rfl (Or.inl rfl) (pe_lstS pa_nil))
  (pss_cons (ps_thaw rfl (ps_for PassesOwn.never rfl (pi_items (pv 2)) (pg_tup rfl (pgs_cons (pg_name (i := 4) sc_Talk_beat.nd rfl (Or.inl rfl)) (pgs_cons (pg_name (i := 5) sc_Talk_beat.nd rfl (Or.inl rfl)) pgs_nil)))
  (pss_one (ps_if (pt_cmpR op_eq (pe_callB call_len_seq rfl T.len bt_len (pa_cons (pv 5) pa_nil)) pe_int (nomark _)) (pss_one (ps_expr (pe_bm PySem.F.plainAttrs_list PySem.F.slot_list_extend PySem.F.type_list_extend mt_extend (pv 3) (pa_cons (pmeth (pv 0) T.cl g_m_hear hr (pa_cons (pv 4) (pa_cons (pe_ix ix_list (pv 5) pe_int (fun _ _ => rfl)) pa_nil))) pa_nil)))) (pss_one (ps_expr (pe_bm PySem.F.plainAttrs_list PySem.F.slot_list_extend PySem.F.type_list_extend mt_extend (pv 3) (pa_cons (pmeth (pv 0) T.cl g_m_miss hr (pa_cons (pv 4) (pa_cons (pe_cmpR op_gt (pe_callB call_len_seq rfl T.len bt_len (pa_cons (pv 5) pa_nil)) pe_int (nomark _)) pa_nil))) pa_nil))))))))
  (pss_one (ps_ret (pv 3))))))), ?_⟩
  obtain ⟨dx, hp⟩ := R.ins
  have few := R.few
  have ap := R.ap
  refine ⟨_, rfl, p, dx, _, rfl, hp, fno (by decide +kernel), _, rfl, p, d1, d2, d3, d4, n, a, b, s, la, xs, os, rfl, R, hla, hos, fewx, fun d L H1 fd ed eL s1 => ?_⟩
  generalize hws : (fun j => wsOf ((b : Int) % 8) (a j) os) = ws at q
  have eL : ∀ j, j < n → H (L j) = none ∧ H1 (L j) = some (.lst (iv (ws j))) := fun j hj => by rw [← hws]; exact eL j hj
  have R1 := R.same s1
  have hp1 := s1 _ _ hp
  obtain ⟨e1, e2, e3, e4⟩ := R1.np
  refine ⟨_, rfl, p, C, dx, _, _, rfl, hp1, T.cl, T.n_beats, get_beats b d1 d2 d3 d4, _, _, rfl, rfl, dx, _, _, hp1, (by show 5 < 1000; decide), put_beats b d1 d2 d3 d4 (b + 1), fun H2 h2 sb2 => ?_⟩
  have R2 : TalkAt C H2 p d1 d2 d3 d4 n a (b + 1) s := ⟨⟨dx, h2⟩, sb2 _ _ R1.wd e1.symm, sb2 _ _ R1.ms e2.symm, sb2 _ _ R1.db e3.symm, sb2 _ _ R1.gn e4.symm, R1.ap, R1.few, R1.n12, R1.n13, R1.n14, R1.n23, R1.n24, R1.n34⟩
  have np : ∀ c, H c = none → c ≠ p := fun c hc => (ne_of_none hp hc).symm
  have ed2 := sb2 _ _ ed (np d fd)
  have eL2 : ∀ j, j < n → H2 (L j) = some (.lst (iv (ws j))) := fun j hj => sb2 _ _ (eL j hj).2 (np _ (eL j hj).1)
  have t2 : SameT [p, d1, d2, d3, d4] H H2 := fun c o e nc => sb2 _ _ (s1 _ _ e) (fun z => nc (by rw [z]; simp))
  refine ⟨leSize (by show 0 ≤ 1000; decide), fun le H3 fle ele s3 => ?_⟩
  have fle0 : H le = none := by
    cases e : H le with
    | none => rfl
    | some v =>
      have nn := R.nin (l := le)
      by_cases hin : le ∈ [p, d1, d2, d3, d4]
      · exfalso
        simp only [List.mem_cons, List.not_mem_nil, or_false] at hin
        rcases hin with z | z | z | z | z
        · rw [z, h2] at fle; cases fle
        · rw [z, R2.wd] at fle; cases fle
        · rw [z, R2.ms] at fle; cases fle
        · rw [z, R2.db] at fle; cases fle
        · rw [z, R2.gn] at fle; cases fle
      · have := t2 _ _ e hin
        rw [fle] at this; cases this
  have nde : d ≠ le := ne_of_none ed2 fle
  have nLe : ∀ j, j < n → L j ≠ le := fun j hj => ne_of_none (eL2 j hj) fle
  have nLd : ∀ j, j < n → L j ≠ d := fun j hj z => by have := eL2 j hj; rw [z, ed2] at this; cases this
  have R3 := R2.same s3
  have ed3 := s3 _ _ ed2
  have eL3 : ∀ j, j < n → H3 (L j) = some (.lst (iv (ws j))) := fun j hj => s3 _ _ (eL2 j hj)
  have t3 : SameT [p, d1, d2, d3, d4] H H3 := t2.trans (SameT.of s3)
  have hP : ∀ c, H c = none → c ∉ [d1, d2, d3, d4] ∧ c ≠ p := fun c hc => R.nin (.inl hc)
  refine ⟨_, rfl, d, _, rfl, ed3, fun o => ?_⟩
  refine for_di (fun i σ HH => ∃ u4 u5 es, σ = [some (.ref p), some (.ref la), some (.ref d), some (.ref le), u4, u5] ∧ HH d = some (.frz o (.dK (dk n a fun j => .ref (L j)))) ∧ (∀ j, j < n → HH (L j) = some (.lst (iv (ws j)))) ∧ HH le = some (.lst es) ∧ Paired (EvAt HH) es (evsTo i a s ws) ∧ TalkAt C HH p d1 d2 d3 d4 n a (b + 1) (stTo i s ws) ∧ SameT [p, d1, d2, d3, d4] H HH)
    ⟨_, _, [], rfl, upd_same, fun j hj => (by rw [upd_ne (nLd j hj)]; exact eL3 j hj), (by rw [upd_ne nde.symm]; exact ele), .nil, ?_, ?_⟩ (fun i σ HH _ h => ?_) (fun i kv t σ HH hx h ft => ?_) (fun σ HH h => ?_)
  · have : stTo 0 s ws = s := by funext j; unfold stTo; rw [if_neg (Nat.not_lt_zero _)]
    rw [this]
    exact R3.off (hP d fd)
  · exact SameT.stepB t3 SameB.upd fd
  · obtain ⟨u4, u5, es, rfl, g1, _⟩ := h
    exact g1
  · obtain ⟨u4, u5, es, rfl, g1, g2, g3, g4, g5, g6⟩ := h
    obtain ⟨hi, rfl⟩ := dk_at hx
    have st := same_new ft (.tup [kV (.inl (a i)), V.ref (L i)])
    refine ⟨t, _, rfl, SqT.of upd_same, rfl, _, _, rfl, _, _, rfl, rfl, ?_⟩
    have g1' := st _ _ g1
    have g2' : ∀ j, j < n → upd HH t (.tup [kV (.inl (a i)), V.ref (L i)]) (L j) = some (.lst (iv (ws j))) := fun j hj => st _ _ (g2 j hj)
    have g3' := st _ _ g3
    have g4' := Evs.same g4 st
    have g5' := g5.same st
    have g6' := g6.trans (SameT.of st)
    clear g1 g2 g3 g4 g5 g6 ft
    generalize upd HH t (.tup [kV (.inl (a i)), V.ref (L i)]) = H4 at *
    clear st
    have dnd : d ∉ [d1, d2, d3, d4] ∧ d ≠ p := hP d fd
    have lnd : le ∉ [d1, d2, d3, d4] ∧ le ≠ p := hP le fle0
    have fin : ∀ l es' H5, H4 l = none → H5 l = some (.lst es') → Paired (EvAt H5) es' (stepE (s i) (ws i) (a i)) → TalkAt C H5 p d1 d2 d3 d4 n a (b + 1) (upF (stTo i s ws) i (stepS (s i) (ws i))) → SameT [d1, d2, d3, d4] H4 H5 →
        rExtend (V.ref le) [V.ref l] H5 fun _ HF => ∃ u4 u5 es, ([some (V.ref p), some (V.ref la), some (V.ref d), some (V.ref le), some (V.int (a i)), some (V.ref (L i))] : St) = [some (V.ref p), some (.ref la), some (.ref d), some (.ref le), u4, u5] ∧ HF d = some (.frz o (.dK (dk n a fun j => .ref (L j)))) ∧ (∀ j, j < n → HF (L j) = some (.lst (iv (ws j)))) ∧ HF le = some (.lst es) ∧ Paired (EvAt HF) es (evsTo (i + 1) a s ws) ∧ TalkAt C HF p d1 d2 d3 d4 n a (b + 1) (stTo (i + 1) s ws) ∧ SameT [p, d1, d2, d3, d4] H HF := fun l es' H5 fl el hev R5 t5 => by
      have l1 := paired_len g4'
      have l2 := evsTo_len i a s ws
      have l3 := paired_len hev
      have l4 := stepE_len (s i) (ws i) (a i)
      have e5 := t5 _ _ g3' lnd.1
      have kk : ∀ c xs o', H5 c = some (.tup xs) → (upd H5 le (.lst o')) c = some (.tup xs) := fun c xs o' e => by
        rw [upd_ne (fun z => by rw [z, e5] at e; cases e)]; exact e
      refine ⟨le, l, es, es', rfl, rfl, e5, el, leSize (by omega), _, _, es ++ es', rfl, ?_, fun j hj => ?_, upd_same, ?_, ?_, ?_⟩
      · rw [upd_ne nde]; exact t5 _ _ g1' dnd.1
      · rw [upd_ne (nLe j hj)]; exact t5 _ _ (g2' j hj) (hP _ (eL j hj).1).1
      · rw [evsTo_succ]
        refine Paired.app (Paired.mapP (Evs.sameT g5' g4' t5) fun v e hv => ?_) (Paired.mapP hev fun v e hv => ?_)
        · obtain ⟨t', rfl, ht'⟩ := hv
          exact ⟨t', rfl, kk _ _ _ ht'⟩
        · obtain ⟨t', rfl, ht'⟩ := hv
          exact ⟨t', rfl, kk _ _ _ ht'⟩
      · rw [stTo_succ]
        exact R5.off lnd
      · refine SameT.stepB (g6'.trans (t5.mono fun c hc => List.mem_cons_of_mem _ hc)) SameB.upd fle0
    have hsz : (iv (ws i)).length = (ws i).length := iv_len _
    obtain ⟨dx', hp4⟩ := g5'.ins
    refine ⟨_, rfl, L i, _, rfl, .inl (SqL.of (g2' i hi)), rfl, _, rfl, ite3 (fun hk => ?_) (fun hk => ?_)⟩
    · have hk : decide (V.int (((iv (ws i)).length : Nat) : Int) = V.int 1) = true := hk
      have h1 : (ws i).length = 1 := by
        have := of_decide_eq_true hk
        injection this with z
        rw [hsz] at z
        omega
      obtain ⟨w1, hw1⟩ : ∃ w1, ws i = [w1] := by
        match e : ws i, h1 with
        | [w1], _ => exact ⟨w1, rfl⟩
      have gLi := g2' i hi
      rw [hw1] at gLi
      refine ⟨_, rfl, .inl ⟨rfl, _, SqL.of g3'⟩, _, rfl, p, dx', _, rfl, hp4, fno (by decide +kernel), _, rfl, _, rfl, L i, _, _, _, rfl, rfl, SqL.of gLi, rfl, p, d1, d2, d3, d4, n, a, b + 1, stTo i s ws, i, w1, rfl, hi, g5', fun l es' H5 fl el hev R5 t5 => ?_⟩
      rw [stTo_at] at hev
      refine fin l es' H5 fl el ?_ ?_ t5
      · rw [hw1]; exact hev
      · rw [hw1]; exact R5
    · have hk : decide (V.int (((iv (ws i)).length : Nat) : Int) = V.int 1) = false := hk
      have h1 : (ws i).length ≠ 1 := fun z => by
        have := of_decide_eq_false hk
        rw [hsz, z] at this
        exact this rfl
      refine ⟨_, rfl, .inl ⟨rfl, _, SqL.of g3'⟩, _, rfl, p, dx', _, rfl, hp4, fno (by decide +kernel), _, rfl, _, rfl, L i, _, rfl, .inl (SqL.of (g2' i hi)), _, _, rfl, rfl, p, d1, d2, d3, d4, n, a, b + 1, stTo i s ws, i, decide (1 < (ws i).length), ?_, hi, g5', fun l es' H5 fl el hev R5 t5 => ?_⟩
      · show [V.ref p, V.int (a i), V.bl (decide ((1 : Int) < (((iv (ws i)).length : Nat) : Int)))] = _
        have : decide ((1 : Int) < (((iv (ws i)).length : Nat) : Int)) = decide (1 < (ws i).length) := by
          rw [hsz]
          by_cases z : 1 < (ws i).length
          · rw [decide_eq_true z]; exact decide_eq_true (by omega)
          · rw [decide_eq_false z]; exact decide_eq_false (by omega)
        rw [this]
      rw [stTo_at] at hev R5
      have s2 := step2 (s i) (a i) h1
      refine fin l es' H5 fl el ?_ ?_ t5
      · rw [s2.2]; exact hev
      · rw [s2.1]; exact R5
  · obtain ⟨u4, u5, es, rfl, g1, g2, g3, g4, g5, g6⟩ := h
    rw [dk_len] at g4 g5
    have nfz : ∀ o' u, H d ≠ some (.frz o' u) := fun o' u z => by rw [fd] at z; cases z
    refine ⟨d, o, _, g1, nfz, ?_⟩
    refine ⟨_, rfl, q le es _ fle0 (by rw [upd_ne nde.symm]; exact g3) ?_ (g5.off (hP d fd)) (SameT.stepB g6 SameB.upd fd)⟩
    refine Paired.mapP g4 fun v e hv => ?_
    obtain ⟨t', rfl, ht'⟩ := hv
    exact ⟨t', rfl, by rw [upd_ne (fun z => by rw [z, g1] at ht'; cases ht')]; exact ht'⟩
end
end K15

set_option Elab.async false
set_option linter.all false
set_option maxRecDepth 100000
set_option pp.maxSteps 300
set_option maxHeartbeats 2000000
namespace K15
open PySem L2
abbrev s_l_whole : Stmt := top 30
abbrev p_l_whole : List Str := ["_law_thing"]
theorem sc_l_whole : FnScope ["_law_thing"] p_l_whole (defScope s_l_whole) := ⟨rfl, rfl, rfl, by decide +kernel, rfl, by decide +kernel, by decide +kernel⟩
abbrev s_l_frame : Stmt := top 32
abbrev p_l_frame : List Str := ["_law_address", "_law_turn", "_law_word"]
theorem sc_l_frame : FnScope ["_law_address", "_law_turn", "_law_word"] p_l_frame (defScope s_l_frame) := ⟨rfl, rfl, rfl, by decide +kernel, rfl, by decide +kernel, by decide +kernel⟩
abbrev s_l_addresses : Stmt := top 34
abbrev p_l_addresses : List Str := ["_law_bag_here"]
theorem sc_l_addresses : FnScope ["_law_bag_here", "_law_many", "_law_left", "_law_found"] p_l_addresses (defScope s_l_addresses) := ⟨rfl, rfl, rfl, by decide +kernel, rfl, by decide +kernel, by decide +kernel⟩
abbrev s_l_are_events : Stmt := top 35
abbrev p_l_are_events : List Str := ["_law_found", "_law_due_here"]
theorem sc_l_are_events : FnScope ["_law_found", "_law_due_here", "_law_event"] p_l_are_events (defScope s_l_are_events) := ⟨rfl, rfl, rfl, by decide +kernel, rfl, by decide +kernel, by decide +kernel⟩
theorem _root_.L2.pe_bmK {X : Cx} {K : PySem.W.Frag} {o e : Expr} {es : List Expr} {to : TE} {t : TA} {name : Str} {apos cpos : Pos} {T id : String} {r : V → List V → Hp → VK → Prop} (hK : X.K = K) (pa : PlainAttrs T) (slot : Slot T name id) (hty : typeOf (.builtin id) = pure (.type "method_descriptor")) (hm : MtR X id r) (ho : PE X o to) (ha : PA X (e :: es) t)
    (hbase : attributeBase o name X.env (eval o X.env) = eval o X.env := by rfl)
    (hfew : ((backTo cpos (starEach (e :: es) X.env)).all (fun x => !x.1) && (backToKw cpos (keywordEach [] X.env)).all (fun x => x.1.isSome) && decide ((e :: es).length + ([] : List Keyword).length + (if ([] : List Keyword).isEmpty then 0 else 1) < 30)) = true := by rfl)
    (hline : (apos.endLine == cpos.line) = true := by rfl) (hs : starEach (e :: es) X.env = (false, eval e X.env) :: starEach es X.env := by rfl) (hplain : (backTo cpos (starEach es X.env)).any (·.1) = false := by rfl) :
    PE X (.Call (.Attribute o name apos) (e :: es) [] cpos) (tBM K T r to t) := hK ▸ pe_bm pa slot hty hm ho ha hbase hfew hline hs hplain
def spAddr : Sp := fun vs H Q _ => ∃ (b : Addr) (n : Nat), vs = [.ref b] ∧ BagAt H b n ∧ n ≤ 5000 ∧ ∀ oa k a H', H oa = none → H' oa = some (.tup ((List.range k).map fun j => V.int (a j))) → Apart k a → 1 ≤ k → k ≤ 30 → (∀ j, j < k → 1 ≤ a j ∧ a j ≤ 99) → BagAt H' b (n + 40) → SameB b H H' → Q (.ref oa) H'
def spAreEv : Sp := fun vs H Q _ => ∃ (x y : Addr) (us vs' : List V) (es : List Ev), vs = [.ref x, .ref y] ∧ H x = some (.lst us) ∧ Paired (EvAt H) us es ∧ H y = some (.lst vs') ∧ Paired (EvAt H) vs' es ∧ es.length ≤ 900 ∧ (∀ e ∈ es, PyData.strOk e.1 = true) ∧ ∀ H', Same H H' → Q (.bl true) H'
theorem seqIx {i : Int} {n : Nat} (h0 : 0 ≤ i) (h1 : i < n) : seqIndex? i n = some i.toNat := by
  unfold seqIndex?
  dsimp only
  rw [if_neg (show ¬ i < 0 by omega)]
  exact if_pos (by rw [decide_eq_true h0, decide_eq_true h1]; rfl)
theorem at8c {i x : Int} (h0 : 0 ≤ i) (h8 : i < 8) (x0 : 1 ≤ x) (x1 : x ≤ 30) : ∃ k : Nat, 1 ≤ k ∧ k ≤ 30 ∧ atI [V.int 1, .int 2, .int 3, .int 30, .int 30, .int 5, .int x, .int 8] i = some (.int k) := by
  have : i = 0 ∨ i = 1 ∨ i = 2 ∨ i = 3 ∨ i = 4 ∨ i = 5 ∨ i = 6 ∨ i = 7 := by omega
  rcases this with rfl | rfl | rfl | rfl | rfl | rfl | rfl | rfl
  · exact ⟨1, by decide, by decide, rfl⟩
  · exact ⟨2, by decide, by decide, rfl⟩
  · exact ⟨3, by decide, by decide, rfl⟩
  · exact ⟨30, by decide, by decide, rfl⟩
  · exact ⟨30, by decide, by decide, rfl⟩
  · exact ⟨5, by decide, by decide, rfl⟩
  · refine ⟨x.toNat, by omega, by omega, ?_⟩
    rw [Int.toNat_of_nonneg (by omega)]
    rfl
  · exact ⟨8, by decide, by decide, rfl⟩
theorem perm_erase : ∀ (l : List Int) (i : Nat) (h : i < l.length), (l[i] :: l.eraseIdx i).Perm l
  | [], i, h => absurd h (Nat.not_lt_zero _)
  | x :: r, 0, _ => List.Perm.refl _
  | x :: r, i + 1, h => by
    have h' : i < r.length := by simpa using h
    have ih := perm_erase r i h'
    show (r[i] :: x :: r.eraseIdx i).Perm (x :: r)
    exact (List.Perm.swap x r[i] _).trans (List.Perm.cons x ih)
theorem iv_erase : ∀ (l : List Int) (i : Nat), (iv l).eraseIdx i = iv (l.eraseIdx i)
  | [], _ => rfl
  | x :: r, 0 => rfl
  | x :: r, i + 1 => by
    show V.int x :: (iv r).eraseIdx i = V.int x :: iv (r.eraseIdx i)
    rw [iv_erase r i]
theorem rng_nodup : ((List.range 99).map fun k : Nat => (1 : Int) + (k : Int)).Nodup := by decide +kernel
theorem rng_bd : ∀ x ∈ (List.range 99).map fun k : Nat => (1 : Int) + (k : Int), 1 ≤ x ∧ x ≤ 99 := by
  intro x hx
  obtain ⟨k, hk, rfl⟩ := List.mem_map.mp hx
  have := List.mem_range.mp hk
  omega
def evD (e : Ev) : PyData := .tuple [.str e.1, .int e.2]
theorem evs_reps {H : Hp} : ∀ {us : List V} {es : List Ev}, Paired (EvAt H) us es → Reps H us (es.map evD)
  | _, _, .nil => .nil
  | _, _, .cons ⟨t, e, ht⟩ r => by
    subst e
    exact .cons (.tup ht (.cons (.str _) (.cons (.int _) .nil))) (evs_reps r)
theorem evs_lay : ∀ {es : List Ev}, (∀ e ∈ es, PyData.strOk e.1 = true) → PyData.canLayAll0 (es.map evD) = true ∧ PyData.depthAll (es.map evD) ≤ 2
  | [], _ => ⟨rfl, by show 0 ≤ 2; decide⟩
  | e :: r, h => by
    have ih := evs_lay (es := r) fun y hy => h y (List.mem_cons_of_mem _ hy)
    have he := h e (List.mem_cons_self ..)
    refine ⟨?_, ?_⟩
    · show ((PyData.strOk e.1 && (true && true)) && PyData.canLayAll0 (r.map evD)) = true
      rw [ih.1, he]; rfl
    · show max _ (PyData.depthAll (r.map evD)) ≤ 2
      exact Nat.max_le.mpr ⟨by show max 0 (max 0 0) + 1 ≤ 2; decide, ih.2⟩
theorem evs_shaped {es : List Ev} (h : ∀ e ∈ es, PyData.strOk e.1 = true) : SeqAt.shaped (.list (es.map evD)) = true := by
  have h1 := evs_lay h
  show (PyData.canLayAll0 (es.map evD) && decide (PyData.depthAll (es.map evD) + 1 ≤ 64)) = true
  rw [h1.1, Bool.true_and]
  exact decide_eq_true (by omega)
section
variable {P : Program} {w : World} {K : PySem.W.Frag} {mg : Str → Option Value} {base : Heap}
theorem ok_lwhole (c : Code K mg "_law_whole" s_l_whole p_l_whole) (T : Nm mg) : Good P w K mg base "_law_whole" 1 p_l_whole spW := by
  refine c.good sc_l_whole (fun vs H Q E h => ?_) (fun f cdv A outer s H vs Q E hr h => ?_)
  · obtain ⟨i, rfl, _⟩ := h
    rfl
  obtain ⟨i, rfl, q⟩ := h
  refine ⟨_, (pss_one (ps_ret (pe_and (pe_callB call_isi rfl T.isinstance bt_isinstance (pa_cons (pv 0) (pa_cons (pe_bltn (v := .ty "int") rfl T.int bt_int rfl) pa_nil))) (pe_one (pe_not (pe_callB call_isi rfl T.isinstance bt_isinstance (pa_cons (pv 0) (pa_cons (pe_bltn (v := .ty "bool") rfl T.bool bt_bool rfl) pa_nil)))))))), ?_⟩
  exact ⟨_, rfl, isi_int True.intro ⟨_, rfl, iteT ⟨_, rfl, isi_bool rfl ⟨_, rfl, q⟩⟩⟩⟩
theorem ok_lframe (c : Code K mg "_law_frame" s_l_frame p_l_frame) (T : Nm mg) : Good P w K mg base "_law_frame" 1 p_l_frame spFrame := by
  refine c.good sc_l_frame (fun vs H Q E h => ?_) (fun f cdv A outer s H vs Q E hr h => ?_)
  · obtain ⟨x, t, w, rfl, _⟩ := h
    rfl
  obtain ⟨x, t, w, rfl, q⟩ := h
  refine ⟨_, (pss_one (ps_ret (pe_tup (pa_cons (pv 0) (pa_cons (pv 1) (pa_cons (pv 2) (pa_cons (pe_op op_mod (pe_op op_add (pe_op op_add (pe_op op_mul pe_int (pv 0)) (pe_op op_mul pe_int (pv 1))) (pe_op op_mul pe_int (pv 2))) pe_int) pa_nil))))))), ?_⟩
  refine ⟨_, rfl, _, rfl, _, rfl, _, rfl, _, _, rfl, rfl, .inl ⟨by decide, by decide⟩, _, rfl, _, _, rfl, rfl, .inl ⟨by decide, by decide⟩, _, _, rfl, rfl, _, rfl, _, _, rfl, rfl, .inl ⟨by decide, by decide⟩, _, _, rfl, rfl, _, _, rfl, rfl, (by show (0 : Int) < 257; decide), leSize (by show 4 ≤ 1000; decide), fun p hp => ?_⟩
  exact q p _ hp upd_same (same_new hp _)
theorem ok_addresses (c : Code K mg "_law_addresses" s_l_addresses p_l_addresses) (T : Nm mg) (g_l_take : Good P w K mg base "_law_take" 1 p_l_take spTake) : Good P w K mg base "_law_addresses" 2 p_l_addresses spAddr := by
  refine c.good sc_l_addresses (fun vs H Q E h => ?_) (fun f cdv A outer s H vs Q E hr h => ?_)
  · obtain ⟨b, n, rfl, _⟩ := h
    rfl
  obtain ⟨b, n, rfl, hb, hn, q⟩ := h
  refine ⟨_, (@pss_cons _ _ _ _ _ (@ps_set _ _ 1 _ _ _ _ sc_l_addresses.nd rfl (Or.inl rfl) (pe_ix ix_list (@pe_lstS _ _ _ _ (@pa_cons _ _ _ _ _ (@pe_int _ _ _ _) (@pa_cons _ _ _ _ _ (@pe_int _ _ _ _) (@pa_cons _ _ _ _ _ (@pe_int _ _ _ _) (@pa_cons _ _ _ _ _ (@pe_int _ _ _ _) (@pa_cons _ _ _ _ _ (@pe_int _ _ _ _) (@pa_cons _ _ _ _ _ (@pe_int _ _ _ _) (@pa_cons _ _ _ _ _ (@pe_op _ _ _ _ _ _ _ _ op_add pe_int (pcall g_l_take hr (pa_cons (pv 0) (pa_cons pe_int pa_nil)))) (@pa_cons _ _ _ _ _ (@pe_int _ _ _ _) (@pa_nil _) st_const) st_bin) st_const) st_const) st_const) st_const) st_const) st_const)) (pcall g_l_take hr (pa_cons (pv 0) (pa_cons pe_int pa_nil))) (fun _ _ => rfl)) (by rfl) (by first | exact .inl rfl | exact .inr rfl))
  (@pss_cons _ _ _ _ _ (@ps_set _ _ 2 _ _ _ _ sc_l_addresses.nd rfl (Or.inr rfl) (pe_lstrange2 rfl rfl T.list rfl T.range (pa_cons pe_int (pa_cons pe_int pa_nil))) (by rfl) (by first | exact .inl rfl | exact .inr rfl))
  (@pss_cons _ _ _ _ _ (ps_setC (i := 3) sc_l_addresses.nd rfl (Or.inl rfl) (N' := ["_law_place", "_law_left", "_law_bag_here"]) rfl (CScope.of (src := [none, some 2, some 0]) (defScope s_l_addresses) ["_law_bag_here", "_law_many", "_law_left", "_law_found"] rfl rfl rfl (by decide +kernel) (by decide +kernel) (by decide +kernel) rfl (by decide +kernel)) (pi_range1 rfl T.range (pa_cons (pv 1) pa_nil)) (fun _ _ _ _ => (pg_name (i := 0) (show List.Nodup (["_law_place", "_law_left", "_law_bag_here"] : List Str) by decide +kernel) rfl (Or.inl rfl))) (fun _ _ _ _ => pf_nil) (fun _ _ _ _ => (pe_bmK (K := K) rfl PySem.F.plainAttrs_list PySem.F.slot_list_pop PySem.F.type_list_pop mt_popAt (pv 1) (pa_cons (pcall g_l_take hr (pa_cons (pv 2) (pa_cons (pe_callB (call_len_seqK (K := K) rfl) rfl T.len bt_len (pa_cons (pv 1) pa_nil)) pa_nil))) pa_nil))))
  (@pss_one _ _ _ (ps_ret (pe_callTy call_tuple_of rfl T.tuple bt_tuple (pa_cons (pe_callB call_sortedI rfl T.sorted bt_sorted (pa_cons (pv 3) pa_nil)) pa_nil))))))), ?_⟩
  refine ⟨_, rfl, b, n, 30, rfl, hb, by omega, by decide, by decide, fun r1 H1 r10 r11 hb1 sb1 => ⟨_, _, rfl, rfl, leSize (by show 8 ≤ 1000; decide), fun p H2 fp ep s2 => ?_⟩⟩
  have nbp : b ≠ p := hb1.nb fp
  refine ⟨_, rfl, b, _, 8, rfl, hb1.same s2, by omega, by decide, by decide, fun r2 H3 r20 r21 hb3 sb3 => ?_⟩
  obtain ⟨k, k0, k1, hk⟩ := at8c (x := 1 + r1) r20 r21 (by omega) (by omega)
  refine ⟨p, _, _, _, rfl, rfl, SqL.of (sb3 _ _ ep nbp.symm), hk, ?_⟩
  have s3 : SameB b H H3 := sb1.trans ((SameB.of s2).trans sb3)
  refine ⟨_, _, rfl, ⟨by decide, by decide, by decide, by decide⟩, by decide, fun l fl => ?_⟩
  have sl := same_new fl (.lst ((List.range ((100 : Int) - 1).toNat).map fun k : Nat => V.int (1 + (k : Int))))
  have el : (upd H3 l (.lst ((List.range ((100 : Int) - 1).toNat).map fun k : Nat => V.int (1 + (k : Int))))) l = some (.lst (iv ((List.range 99).map fun k : Nat => (1 : Int) + (k : Int)))) := by
    rw [upd_same]
    unfold iv
    rw [List.map_map]
    rfl
  have hb4 := hb3.same sl
  have nbl : b ≠ l := hb3.nb fl
  have fl0 : H l = none := s3.free hb3.ex fl
  have s4 : SameB b H (upd H3 l (.lst ((List.range ((100 : Int) - 1).toNat).map fun k : Nat => V.int (1 + (k : Int))))) := s3.trans (SameB.of sl)
  generalize upd H3 l (.lst ((List.range ((100 : Int) - 1).toNat).map fun k : Nat => V.int (1 + (k : Int)))) = H4 at *
  refine ⟨_, rfl, _, rfl, by omega, by omega, fun lf hlf => ?_⟩
  have nlf : l ≠ lf := ne_of_none el hlf
  have nbf : b ≠ lf := hb4.nb hlf
  have flf : H lf = none := s4.free hb4.ex hlf
  rw [Int.toNat_natCast]
  refine comp_range (n := k) (fun i σ HH => ∃ (u : Option V) (ls fs : List Int), σ = [u, some (.ref l), some (.ref b)] ∧ HH l = some (.lst (iv ls)) ∧ HH lf = some (.lst (iv fs)) ∧ fs.length = i ∧ ls.length + i = 99 ∧ (fs ++ ls).Nodup ∧ (∀ x ∈ fs ++ ls, 1 ≤ x ∧ x ≤ 99) ∧ BagAt HH b (n + 2 + i) ∧ SameB b H HH)
    ⟨none, (List.range 99).map fun k : Nat => (1 : Int) + (k : Int), [], rfl, (by rw [upd_ne nlf]; exact el), upd_same, rfl, (by rw [List.length_map, List.length_range]), rng_nodup, rng_bd, hb4.same (same_new hlf _), s4.trans (SameB.of (same_new hlf _))⟩ (fun i σ HH hi h => ?_) (fun σ HH h => ?_)
  · obtain ⟨u, ls, fs, rfl, g1, g2, g3, g4, g5, g6, g7, g8⟩ := h
    unfold gName
    dsimp only
    refine iteT ⟨_, rfl, .inl ⟨rfl, _, SqL.of g1⟩, _, rfl, _, rfl, l, _, rfl, .inl (SqL.of g1), b, _, _, rfl, g7, by omega, by rw [iv_len]; omega, by rw [iv_len]; omega, fun r H5 r0 r1' hb5 sb5 => ?_⟩
    rw [iv_len] at r1'
    have hr : r.toNat < ls.length := by omega
    have hg : ls[r.toNat]? = some ls[r.toNat] := List.getElem?_eq_getElem hr
    have pm : (ls[r.toNat] :: ls.eraseIdx r.toNat).Perm ls := perm_erase ls r.toNat hr
    have el2 : (ls.eraseIdx r.toNat).length + 1 = ls.length := by rw [List.length_eraseIdx_of_lt hr]; omega
    generalize ls[r.toNat] = y at *
    refine ⟨l, _, r, r.toNat, .int y, rfl, rfl, sb5 _ _ g1 nbl.symm, by omega, by omega, seqIx r0 (by rw [iv_len]; exact r1'), (by unfold iv; rw [List.getElem?_map, hg]; rfl), ?_⟩
    have e5 : (upd H5 l (.lst ((iv ls).eraseIdx r.toNat))) l = some (.lst (iv (ls.eraseIdx r.toNat))) := by rw [upd_same, iv_erase]
    have e6 : (upd H5 l (.lst ((iv ls).eraseIdx r.toNat))) lf = some (.lst (iv fs)) := by rw [upd_ne nlf.symm]; exact sb5 _ _ g2 nbf.symm
    have hb6 : BagAt (upd H5 l (.lst ((iv ls).eraseIdx r.toNat))) b (n + 2 + i + 1) := hb5.sameB SameB.upd nbl
    have s6 : SameB b H (upd H5 l (.lst ((iv ls).eraseIdx r.toNat))) := sbStep (g8.trans sb5) SameB.upd fl0
    generalize upd H5 l (.lst ((iv ls).eraseIdx r.toNat)) = H6 at *
    have pm2 : ((fs ++ [y]) ++ ls.eraseIdx r.toNat).Perm (fs ++ ls) := by
      rw [List.append_assoc]
      exact List.Perm.append_left fs pm
    refine ⟨_, e6, small1000 (by rw [iv_len]; omega), _, ls.eraseIdx r.toNat, fs ++ [y], rfl, (by rw [upd_ne nlf]; exact e5), ?_, ?_, by omega, pm2.nodup_iff.mpr g5, fun x hx => g6 x (pm2.mem_iff.mp hx), hb6.sameB SameB.upd nbf, sbStep s6 SameB.upd flf⟩
    · rw [upd_same, iv_app]; rfl
    · rw [List.length_append, g3]; rfl
  obtain ⟨u, ls, fs, rfl, g1, g2, g3, g4, g5, g6, g7, g8⟩ := h
  refine ⟨_, rfl, lf, fs, rfl, SqL.of g2, by omega, fun ms l2 pm pw fl2 => ?_⟩
  have ml : ms.length = k := by rw [pm.length_eq]; exact g3
  have mnd : ms.Nodup := pm.nodup_iff.mpr (List.nodup_append.mp g5).1
  have s7 := same_new fl2 (.lst (ms.map V.int))
  have e7 : (upd HH l2 (.lst (ms.map V.int))) l2 = some (.lst (ms.map V.int)) := upd_same
  generalize upd HH l2 (.lst (ms.map V.int)) = H7 at *
  refine ⟨l2, _, rfl, .inl ⟨SqL.of e7, fun t ft => ?_⟩⟩
  have st := same_new ft (.tup (ms.map V.int))
  have ft0 : H t = none := (g8.trans (SameB.of s7)).free (g7.same s7).ex ft
  have hat : ∀ j, j < k → ms[j]? = some (ms.getD j 0) := fun j hj => by rw [List.getD_eq_getElem?_getD, List.getElem?_eq_getElem (by omega)]; rfl
  refine q t k (fun j => ms.getD j 0) _ ft0 ?_ (fun i j hi hj e => ?_) k0 k1 (fun j hj => ?_) (((g7.same s7).same st).mono (by omega)) ((g8.trans (SameB.of s7)).trans (SameB.of st))
  · rw [upd_same]
    congr 2
    refine List.ext_getElem? fun j => ?_
    by_cases hj : j < k
    · rw [List.getElem?_map, hat j hj, List.getElem?_map, List.getElem?_range hj]
      rfl
    · rw [List.getElem?_eq_none (by rw [List.length_map]; omega), List.getElem?_eq_none (by rw [List.length_map, List.length_range]; omega)]
  · have h1 := hat i hi
    have h2 := hat j hj
    have e : ms.getD i 0 = ms.getD j 0 := e
    rw [← e] at h2
    exact (List.getElem?_inj (by omega) mnd).mp (h1.trans h2.symm)
  · exact g6 _ (List.mem_append_left _ (pm.mem_iff.mp (List.mem_of_getElem? (hat j hj))))
theorem ok_are_events (c : Code K mg "_law_are_events" s_l_are_events p_l_are_events) (T : Nm mg) (g_l_whole : Good P w K mg base "_law_whole" 1 p_l_whole spW) : Good P w K mg base "_law_are_events" 2 p_l_are_events spAreEv := by
  refine c.good sc_l_are_events (fun vs H Q E h => ?_) (fun f cdv A outer s H vs Q E hr h => ?_)
  · obtain ⟨x, y, us, vs', es, rfl, _⟩ := h
    rfl
  obtain ⟨x, y, us, vs', es, rfl, hx, px, hy, py, few, hso, q⟩ := h
  refine ⟨_, (pss_cons (ps_if (PW.pt (pw_or (pt_not (pt_val (pe_callB call_isi rfl T.isinstance bt_isinstance (pa_cons (pv 0) (pa_cons (pe_bltn (v := .ty "list") rfl T.list bt_list rfl) pa_nil))))) (pw_or1 (pt_cmpR op_ne (pe_callB call_len_seq rfl T.len bt_len (pa_cons (pv 0) pa_nil)) (pe_callB call_len_seq rfl T.len bt_len (pa_cons (pv 1) pa_nil)) (nomark _))))) (pss_one (ps_ret pe_bl)) pss_nil)
  (pss_cons (ps_for PassesOwn.never rfl (pi_list (pv 0)) (pg_name (i := 2) sc_l_are_events.nd rfl (Or.inl rfl))
  (pss_one (ps_if (PW.pt (pw_or (pt_not (pt_val (pe_callB call_isi rfl T.isinstance bt_isinstance (pa_cons (pv 2) (pa_cons (pe_bltn (v := .ty "tuple") rfl T.tuple bt_tuple rfl) pa_nil))))) (pw_or (pt_cmpR op_ne (pe_callB call_len_seq rfl T.len bt_len (pa_cons (pv 2) pa_nil)) pe_int (nomark _)) (pw_or1 (pt_not (pt_val (pcall g_l_whole hr (pa_cons (pe_ix ix_tup (pv 2) pe_int (fun _ _ => rfl)) pa_nil)))))))) (pss_one (ps_ret pe_bl)) pss_nil)))
  (pss_one (ps_ret (pe_cmpR (op_eqD hr.units) (pv 0) (pv 1) (nomark _)))))), ?_⟩
  have l1 := paired_len px
  have l2 := paired_len py
  refine ⟨_, rfl, isi_list hx ⟨_, rfl, iteF ⟨_, rfl, x, _, rfl, .inl (SqL.of hx), _, rfl, y, _, rfl, .inl (SqL.of hy), rfl, _, rfl, ?_⟩⟩⟩
  have hne : (!decide (V.int ((us.length : Nat) : Int) = V.int ((vs'.length : Nat) : Int))) = false := by rw [l1, l2]; simp
  show if (!decide (V.int ((us.length : Nat) : Int) = V.int ((vs'.length : Nat) : Int))) = true then _ else _
  rw [hne]
  refine iteF ⟨_, rfl, x, rfl, ⟨_, SqL.of hx⟩, ?_⟩
  refine for_list (xs := us) (fun i σ HH => ∃ u, σ = [some (.ref x), some (.ref y), u] ∧ HH = H) ⟨_, rfl, rfl⟩ (fun i σ HH _ h => ?_) (fun i v σ HH hv h => ?_) (fun σ HH h => ?_)
  · obtain ⟨u, rfl, rfl⟩ := h
    exact SqL.of hx
  · obtain ⟨u, rfl, rfl⟩ := h
    obtain ⟨e, _, t, rfl, ht⟩ := paired_get px hv
    refine ⟨_, rfl, isi_tup ht ⟨_, rfl, iteF ⟨_, rfl, t, _, rfl, .inr (SqT.of ht), rfl, _, rfl, ?_⟩⟩⟩
    refine iteF ⟨_, rfl, t, _, _, _, rfl, rfl, SqT.of ht, rfl, _, rfl, _, rfl, iteF ⟨_, rfl, rfl⟩⟩
  · obtain ⟨u, rfl, rfl⟩ := h
    refine ⟨_, rfl, _, rfl, _, _, .lst hx (evs_reps px), .lst hy (evs_reps py), evs_shaped hso, evs_shaped hso, ?_⟩
    rw [SeqAt.eqv_refl _ (SeqAt.canLay_of_shaped (evs_shaped hso))]
    exact q _ (Same.refl _)
end
end K15

set_option Elab.async false
set_option linter.all false
set_option maxRecDepth 100000
set_option pp.maxSteps 300
set_option maxHeartbeats 2000000
namespace K15
open PySem L2
abbrev s_l_is_frame : Stmt := top 33
abbrev p_l_is_frame : List Str := ["_law_thing"]
theorem sc_l_is_frame : FnScope ["_law_thing", "_law_address", "_law_turn", "_law_word", "_law_check"] p_l_is_frame (defScope s_l_is_frame) := ⟨rfl, rfl, rfl, by decide +kernel, rfl, by decide +kernel, by decide +kernel⟩
abbrev s_l_answer : Stmt := top 36
abbrev p_l_answer : List Str := ["_law_bag_here", "_law_addresses_here", "_law_turn", "_law_ahead_here"]
theorem sc_l_answer : FnScope ["_law_bag_here", "_law_addresses_here", "_law_turn", "_law_ahead_here", "_law_way", "_law_address", "_law_word", "_law_whole_here", "_law_place"] p_l_answer (defScope s_l_answer) := ⟨rfl, rfl, rfl, by decide +kernel, rfl, by decide +kernel, by decide +kernel⟩
abbrev s_l_answers : Stmt := top 37
abbrev p_l_answers : List Str := ["_law_script", "_law_addresses_here", "_law_turn"]
theorem sc_l_answers : FnScope ["_law_script", "_law_addresses_here", "_law_turn", "_law_found", "_law_k", "_law_bag_here", "_law_place"] p_l_answers (defScope s_l_answers) := ⟨rfl, rfl, rfl, by decide +kernel, rfl, by decide +kernel, by decide +kernel⟩
def Sc (y : V) : Prop := (∃ i, y = .int i) ∨ ∃ b, y = .bl b
/-- the things that are handed in -/
def Tg (H : Hp) (v : V) : Prop := v = .non ∨ v = .str "x" ∨ v = .bl true ∨ (∃ p z, v = .ref p ∧ H p = some (.lst (iv z)) ∧ z.length ≤ 10) ∨ (∃ p xs, v = .ref p ∧ H p = some (.tup xs) ∧ xs.length ≤ 10 ∧ ∀ y ∈ xs, Sc y) ∨ ∃ p q z, v = .ref p ∧ H p = some (.tup [.ref q]) ∧ H q = some (.tup (iv z)) ∧ z.length ≤ 10
theorem Tg.same {H H' : Hp} {v : V} (h : Tg H v) (s : Same H H') : Tg H' v := by
  rcases h with h | h | h | ⟨p, z, h1, h2, h3⟩ | ⟨p, xs, h1, h2, h3, h4⟩ | ⟨p, q, z, h1, h2, h3, h4⟩
  · exact .inl h
  · exact .inr (.inl h)
  · exact .inr (.inr (.inl h))
  · exact .inr (.inr (.inr (.inl ⟨p, z, h1, s _ _ h2, h3⟩)))
  · exact .inr (.inr (.inr (.inr (.inl ⟨p, xs, h1, s _ _ h2, h3, h4⟩))))
  · exact .inr (.inr (.inr (.inr (.inr ⟨p, q, z, h1, s _ _ h2, s _ _ h3, h4⟩))))
theorem Tg.bag {H H' : Hp} {v : V} {b : Addr} {n : Nat} (h : Tg H v) (hv : v ≠ .ref b) (hb : BagAt H b n) (s : SameB b H H') : Tg H' v := by
  have nt : ∀ p xs, H p = some (.tup xs) → p ≠ b := fun p xs e z => by rw [z] at e; exact hb.ntup _ e
  rcases h with h | h | h | ⟨p, z, h1, h2, h3⟩ | ⟨p, xs, h1, h2, h3, h4⟩ | ⟨p, q, z, h1, h2, h3, h4⟩
  · exact .inl h
  · exact .inr (.inl h)
  · exact .inr (.inr (.inl h))
  · exact .inr (.inr (.inr (.inl ⟨p, z, h1, s _ _ h2 (fun e => hv (by rw [h1, e])), h3⟩)))
  · exact .inr (.inr (.inr (.inr (.inl ⟨p, xs, h1, s _ _ h2 (nt _ _ h2), h3, h4⟩))))
  · exact .inr (.inr (.inr (.inr (.inr ⟨p, q, z, h1, s _ _ h2 (nt _ _ h2), s _ _ h3 (nt _ _ h3), h4⟩))))
theorem Sc.kn {H : Hp} {y : V} (h : Sc y) : Kn H y := by
  rcases h with ⟨i, rfl⟩ | ⟨b, rfl⟩
  · exact True.intro
  · exact True.intro
theorem Tg.th {H : Hp} {v : V} (h : Tg H v) : Th H v := by
  rcases h with rfl | rfl | rfl | ⟨p, z, rfl, h2, h3⟩ | ⟨p, xs, rfl, h2, h3, h4⟩ | ⟨p, q, z, rfl, h2, h3, h4⟩
  · exact ⟨True.intro, fun xs e => by cases e⟩
  · exact ⟨True.intro, fun xs e => by cases e⟩
  · exact ⟨True.intro, fun xs e => by cases e⟩
  · exact ⟨.inl ⟨_, h2⟩, fun xs e => by rw [tupOf_lst h2] at e; cases e⟩
  · exact ⟨.inr ⟨_, h2⟩, fun ys e => by rw [tupOf_at h2] at e; cases e; exact ⟨by omega, fun y hy => (h4 y hy).kn⟩⟩
  · refine ⟨.inr ⟨_, h2⟩, fun ys e => ?_⟩
    rw [tupOf_at h2] at e
    cases e
    refine ⟨(by show 1 ≤ 100; decide), fun y hy => ?_⟩
    have : y = .ref q := by simpa using hy
    rw [this]
    exact .inr ⟨_, h3⟩
theorem iv_sc (z : List Int) : ∀ y ∈ iv z, Sc y := fun y hy => by
  obtain ⟨i, _, e⟩ := List.mem_map.mp hy
  exact .inl ⟨i, e.symm⟩
section
variable {P : Program} {w : World} {K : PySem.W.Frag} {mg : Str → Option Value} {base : Heap}
theorem ok_lwholeT (c : Code K mg "_law_whole" s_l_whole p_l_whole) (T : Nm mg) : Good P w K mg base "_law_whole" 1 p_l_whole spWt := by
  refine c.good sc_l_whole (fun vs H Q E h => ?_) (fun f cdv A outer s H vs Q E hr h => ?_)
  · obtain ⟨v, rfl, _⟩ := h
    rfl
  obtain ⟨v, rfl, k, q⟩ := h
  refine ⟨_, (pss_one (ps_ret (pe_and (pe_callB call_isi rfl T.isinstance bt_isinstance (pa_cons (pv 0) (pa_cons (pe_bltn (v := .ty "int") rfl T.int bt_int rfl) pa_nil))) (pe_one (pe_not (pe_callB call_isi rfl T.isinstance bt_isinstance (pa_cons (pv 0) (pa_cons (pe_bltn (v := .ty "bool") rfl T.bool bt_bool rfl) pa_nil)))))))), ?_⟩
  refine ⟨_, rfl, isi_int k ⟨_, rfl, ?_⟩⟩
  rw [isW_eq] at q
  cases e : isI v with
  | false => rw [e] at q; exact iteF q
  | true => rw [e] at q; exact iteT ⟨_, rfl, isi_bool e ⟨_, rfl, q⟩⟩
theorem ok_l_is_frame (c : Code K mg "_law_is_frame" s_l_is_frame p_l_is_frame) (T : Nm mg) (g_l_whole : Good P w K mg base "_law_whole" 1 p_l_whole spWt) (g_l_frame : Good P w K mg base "_law_frame" 1 p_l_frame spFrame) : Good P w K mg base "_law_is_frame" 2 p_l_is_frame spIsFrameO := by
  refine c.good sc_l_is_frame (fun vs H Q E h => ?_) (fun f cdv A outer s H vs Q E hr h => ?_)
  · obtain ⟨v, o, rfl, _⟩ := h
    rfl
  obtain ⟨v, o, rfl, ⟨th, ho⟩, q⟩ := h
  refine ⟨_, (pss_cons (ps_if (PW.pt (pw_or (pt_not (pt_val (pe_callB call_isi rfl T.isinstance bt_isinstance (pa_cons (pv 0) (pa_cons (pe_bltn (v := .ty "tuple") rfl T.tuple bt_tuple rfl) pa_nil))))) (pw_or (pt_cmpR op_ne (pe_callB call_len_seq rfl T.len bt_len (pa_cons (pv 0) pa_nil)) pe_int (nomark _)) (pw_or1 (pt_not (pt_val (pe_callB (call_all rfl) rfl T.all bt_all (pa_cons (pe_comp (N' := ["_law_part"]) rfl (CScope.plain rfl (by decide +kernel) (by decide +kernel) (by decide +kernel)) (pi_tup (pv 0)) (fun _ _ _ _ => (pg_name (i := 0) (show List.Nodup (["_law_part"] : List Str) by decide +kernel) rfl (Or.inl rfl))) (fun _ _ _ _ => pf_nil) (fun _ _ _ _ => (pcall g_l_whole hr (pa_cons (pv 0) pa_nil)))) pa_nil)))))))) (pss_one (ps_ret pe_bl)) pss_nil)
  (pss_cons (ps_asg (pv 0) (pg_tup rfl (pgs_cons (pg_name (i := 1) sc_l_is_frame.nd rfl (Or.inl rfl)) (pgs_cons (pg_name (i := 2) sc_l_is_frame.nd rfl (Or.inl rfl)) (pgs_cons (pg_name (i := 3) sc_l_is_frame.nd rfl (Or.inl rfl)) (pgs_cons (pg_name (i := 4) sc_l_is_frame.nd rfl (Or.inl rfl)) pgs_nil))))))
  (pss_cons (ps_if (PW.pt (pw_or (pt_not (pt_chain op_le op_le pe_int (pv 1) pe_int)) (pw_or (pt_not (pt_chain op_le op_le pe_int (pv 2) pe_int)) (pw_or1 (pt_not (pt_chain op_le op_le pe_int (pv 3) pe_int)))))) (pss_one (ps_ret pe_bl)) pss_nil)
  (pss_one (ps_ret (pe_cmpR (op_eqD hr.units) (pv 0) (pcall g_l_frame hr (pa_cons (pv 1) (pa_cons (pv 2) (pa_cons (pv 3) pa_nil)))) (nomark _))))))), ?_⟩
  refine ⟨_, rfl, isi_tuple th.kn ⟨_, rfl, ?_⟩⟩
  cases et : tupOf H v with
  | none =>
    rw [et] at ho
    have ho : o = none := ho
    rw [ho] at q
    exact iteT (q _ (Same.refl _))
  | some xs =>
  obtain ⟨p, rfl, hp⟩ := of_tupOf et
  rw [et] at ho
  have tp := th.parts xs et
  refine iteF ⟨_, rfl, p, _, rfl, .inr (SqT.of hp), rfl, _, rfl, ?_⟩
  by_cases h4 : xs.length = 4
  case neg =>
    have e1 : (!decide (V.int (xs.length : Int) = V.int 4)) = true := by
      rw [decide_eq_false fun e => ?_]
      · rfl
      · injection e with e
        omega
    have : ansO (some xs) = none := by
      unfold ansO
      split
      · rename_i e
        cases e
        exact absurd rfl h4
      · rfl
    rw [this] at ho
    rw [ho] at q
    show if (!decide (V.int (xs.length : Int) = V.int 4)) = true then _ else _
    rw [e1]
    exact iteT (q _ (Same.refl _))
  have e1 : (!decide (V.int (xs.length : Int) = V.int 4)) = false := by
    rw [h4]
    rfl
  show if (!decide (V.int (xs.length : Int) = V.int 4)) = true then _ else _
  rw [e1]
  refine iteF ⟨_, rfl, p, rfl, ⟨xs, SqT.of hp⟩, fun l hl => ?_⟩
  have hpl : p ≠ l := ne_of_none hp hl
  refine comp_tup (xs := xs) (fun i σ H' => ∃ u, σ = [u] ∧ H' = upd H l (.lst ((xs.take i).map fun y => V.bl (isW y)))) ⟨none, rfl, rfl⟩ (fun i σ H' _ h => ?_) (fun i x σ H' hx h => ?_) (fun σ H' h => ?_)
  · obtain ⟨u, rfl, rfl⟩ := h
    exact SqT.of (by rw [upd_ne hpl]; exact hp)
  · obtain ⟨u, rfl, rfl⟩ := h
    have sm : Same H (upd H l (.lst ((xs.take i).map fun y => V.bl (isW y)))) := same_new hl _
    have et : (xs.take (i + 1)).map (fun y => V.bl (isW y)) = (xs.take i).map (fun y => V.bl (isW y)) ++ [V.bl (isW x)] := by rw [List.take_succ, hx]; simp
    refine ⟨_, rfl, x, rfl, (tp.2 x (List.mem_of_getElem? hx)).same sm, _, upd_same, small1000 (by rw [List.length_map, List.length_take]; omega), _, rfl, ?_⟩
    rw [upd_upd, et]
  obtain ⟨u, rfl, rfl⟩ := h
  have s1 := same_new hl (.lst ((xs.take xs.length).map fun y => V.bl (isW y)))
  refine ⟨l, xs.map isW, rfl, SqL.of (by rw [upd_same, List.take_length, List.map_map]; rfl), ?_⟩
  rw [List.all_map]
  refine ⟨_, rfl, ?_⟩
  cases ew : xs.all (id ∘ isW) with
  | false =>
    have : ansO (some xs) = none := by
      unfold ansO
      split
      · rename_i e
        cases e
        cases ew
      · rfl
    rw [this] at ho
    rw [ho] at q
    exact iteT (q _ s1)
  | true =>
  obtain ⟨x, t, w', c', rfl⟩ := four_ints h4 ew
  have hp1 : H p = some (.tup (iv [x, t, w', c'])) := hp
  have hp2 := s1 _ _ hp1
  have q : ∀ H', Same H H' → Q (.bl (isFr x t w' c')) H' := fun H' s' => by
    have := q H' s'
    have e2 : o.isSome = isFr x t w' c' := by
      rw [ho]
      show (if isFr x t w' c' = true then some (x, t, w') else none).isSome = _
      cases isFr x t w' c' <;> rfl
    rw [e2] at this
    exact this
  unfold isFr at q
  refine iteF ⟨_, rfl, p, _, rfl, SqT.of hp2, rfl, _, _, rfl, _, _, rfl, _, _, rfl, _, _, rfl, rfl, ?_⟩
  refine ⟨_, rfl, _, _, rfl, rfl, _, rfl, ?_⟩
  by_cases a1 : 1 ≤ x
  case neg =>
    rw [decide_eq_false (fun z : 1 ≤ x ∧ x ≤ 99 => a1 z.1), Bool.false_and] at q
    rw [decide_eq_false a1]
    exact iteF ⟨_, rfl, iteT (q _ s1)⟩
  rw [decide_eq_true a1]
  refine iteT ⟨_, _, rfl, rfl, _, rfl, ?_⟩
  by_cases a2 : x ≤ 99
  case neg =>
    rw [decide_eq_false (fun z : 1 ≤ x ∧ x ≤ 99 => a2 z.2), Bool.false_and] at q
    rw [decide_eq_false a2]
    exact iteT (q _ s1)
  rw [decide_eq_true (show 1 ≤ x ∧ x ≤ 99 from ⟨a1, a2⟩), Bool.true_and] at q
  rw [decide_eq_true a2]
  refine iteF ?_
  refine ⟨_, rfl, _, _, rfl, rfl, _, rfl, ?_⟩
  by_cases a1 : 0 ≤ t
  case neg =>
    rw [decide_eq_false (fun z : 0 ≤ t ∧ t ≤ 7 => a1 z.1), Bool.false_and] at q
    rw [decide_eq_false a1]
    exact iteF ⟨_, rfl, iteT (q _ s1)⟩
  rw [decide_eq_true a1]
  refine iteT ⟨_, _, rfl, rfl, _, rfl, ?_⟩
  by_cases a2 : t ≤ 7
  case neg =>
    rw [decide_eq_false (fun z : 0 ≤ t ∧ t ≤ 7 => a2 z.2), Bool.false_and] at q
    rw [decide_eq_false a2]
    exact iteT (q _ s1)
  rw [decide_eq_true (show 0 ≤ t ∧ t ≤ 7 from ⟨a1, a2⟩), Bool.true_and] at q
  rw [decide_eq_true a2]
  clear a1 a2
  refine iteF ?_
  refine ⟨_, rfl, _, _, rfl, rfl, _, rfl, ?_⟩
  by_cases a1 : 0 ≤ w'
  case neg =>
    rw [decide_eq_false (fun z : 0 ≤ w' ∧ w' ≤ 255 => a1 z.1), Bool.false_and] at q
    rw [decide_eq_false a1]
    exact iteF ⟨_, rfl, iteT (q _ s1)⟩
  rw [decide_eq_true a1]
  refine iteT ⟨_, _, rfl, rfl, _, rfl, ?_⟩
  by_cases a2 : w' ≤ 255
  case neg =>
    rw [decide_eq_false (fun z : 0 ≤ w' ∧ w' ≤ 255 => a2 z.2), Bool.false_and] at q
    rw [decide_eq_false a2]
    exact iteT (q _ s1)
  rw [decide_eq_true (show 0 ≤ w' ∧ w' ≤ 255 from ⟨a1, a2⟩), Bool.true_and] at q
  rw [decide_eq_true a2]
  clear a1 a2
  refine iteF ?_
  refine ⟨_, rfl, _, rfl, _, rfl, _, rfl, x, t, w', rfl, fun p2 H2 f2 e2 s2 => ?_⟩
  refine ⟨_, _, .tup (s2 _ _ hp2) (ints_reps _), .tup e2 (ints_reps _), tints_shaped _, tints_shaped _, ?_⟩
  rw [tints_eqv]
  have : decide ([x, t, w', c'] = fr4 x t w') = decide (c' = chk x t w') := by
    by_cases z : c' = chk x t w'
    · rw [decide_eq_true z, z]; exact decide_eq_true rfl
    · rw [decide_eq_false z]
      exact decide_eq_false fun e => z (by unfold fr4 at e; injection e with _ e; injection e with _ e; injection e with _ e; injection e)
  rw [this]
  exact q _ (s1.trans s2)
end
end K15

set_option Elab.async false
set_option linter.all false
set_option maxRecDepth 100000
set_option pp.maxSteps 300
set_option maxHeartbeats 2000000
namespace K15
open PySem L2
def spAnswer : Sp := fun vs H Q _ => ∃ (b oa la : Addr) (m n : Nat) (a : Nat → Int) (t : Int) (xs : List V), vs = [.ref b, .ref oa, .int t, .ref la] ∧ BagAt H b m ∧ m ≤ 900 ∧ la ≠ b ∧ H oa = some (.tup ((List.range n).map fun j => V.int (a j))) ∧ 1 ≤ n ∧ n ≤ 30 ∧ H la = some (.lst xs) ∧ xs.length ≤ 900 ∧ (∀ x ∈ xs, Tg H x ∧ x ≠ .ref b ∧ x ≠ .ref la) ∧ ∀ v H', Tg H' v → v ≠ .ref b → v ≠ .ref la → BagAt H' b (m + 12) → SameB b H H' → Q v H'
theorem at_rg {n : Nat} {a : Nat → Int} {r : Int} (r0 : 0 ≤ r) (r1 : r < (n : Int)) : atI ((List.range n).map fun j => V.int (a j)) r = some (.int (a r.toNat)) := by
  obtain ⟨k, rfl⟩ := Int.eq_ofNat_of_zero_le r0
  exact atI_nat (by rw [List.getElem?_map, List.getElem?_range (by omega)]; rfl)
theorem at_6 {r w1 w2 : Int} (r0 : 0 ≤ r) (r1 : r < 6) : ∃ x : Int, atI [V.int 0, .int 1, .int 255, .int 77, .int w1, .int w2] r = some (.int x) := by
  have : r = 0 ∨ r = 1 ∨ r = 2 ∨ r = 3 ∨ r = 4 ∨ r = 5 := by omega
  rcases this with rfl | rfl | rfl | rfl | rfl | rfl <;> exact ⟨_, rfl⟩
section
variable {P : Program} {w : World} {K : PySem.W.Frag} {mg : Str → Option Value} {base : Heap}
theorem ok_answer (c : Code K mg "_law_answer" s_l_answer p_l_answer) (T : Nm mg) (g_l_take : Good P w K mg base "_law_take" 1 p_l_take spTake) (g_l_frame : Good P w K mg base "_law_frame" 1 p_l_frame spFrame) : Good P w K mg base "_law_answer" 2 p_l_answer spAnswer := by
  refine c.good sc_l_answer (fun vs H Q E h => ?_) (fun f cdv A outer s H vs Q E hr h => ?_)
  · obtain ⟨b, oa, la, m, n, a, t, xs, rfl, _⟩ := h
    rfl
  obtain ⟨b, oa, la, m, n, a, t, xs, rfl, hb, hm, nlb, ho, n1, n30, hla, lx, tgs, q⟩ := h
  refine ⟨_, (@pss_cons _ _ _ _ _ (@ps_set _ _ 4 _ _ _ _ sc_l_answer.nd rfl (Or.inl rfl) (pcall g_l_take hr (pa_cons (pv 0) (pa_cons pe_int pa_nil))) (by rfl) (by first | exact .inl rfl | exact .inr rfl))
  (@pss_cons _ _ _ _ _ (@ps_set _ _ 5 _ _ _ _ sc_l_answer.nd rfl (Or.inl rfl) (pe_ix ix_tup (pv 1) (pcall g_l_take hr (pa_cons (pv 0) (pa_cons (pe_callB call_len_seq rfl T.len bt_len (pa_cons (pv 1) pa_nil)) pa_nil))) (fun _ _ => rfl)) (by rfl) (by first | exact .inl rfl | exact .inr rfl))
  (@pss_cons _ _ _ _ _ (@ps_set _ _ 6 _ _ _ _ sc_l_answer.nd rfl (Or.inl rfl) (pe_ix ix_list (@pe_lstS _ _ _ _ (@pa_cons _ _ _ _ _ (@pe_int _ _ _ _) (@pa_cons _ _ _ _ _ (@pe_int _ _ _ _) (@pa_cons _ _ _ _ _ (@pe_int _ _ _ _) (@pa_cons _ _ _ _ _ (@pe_int _ _ _ _) (@pa_cons _ _ _ _ _ (pcall g_l_take hr (pa_cons (pv 0) (pa_cons pe_int pa_nil))) (@pa_cons _ _ _ _ _ (pcall g_l_take hr (pa_cons (pv 0) (pa_cons pe_int pa_nil))) (@pa_nil _) st_call) st_call) st_const) st_const) st_const) st_const)) (pcall g_l_take hr (pa_cons (pv 0) (pa_cons pe_int pa_nil))) (fun _ _ => rfl)) (by rfl) (by first | exact .inl rfl | exact .inr rfl))
  (@pss_cons _ _ _ _ _ (@ps_set _ _ 7 _ _ _ _ sc_l_answer.nd rfl (Or.inl rfl) (pcall g_l_frame hr (pa_cons (pv 5) (pa_cons (pv 2) (pa_cons (pv 6) pa_nil)))) (by rfl) (by first | exact .inl rfl | exact .inr rfl))
  (@pss_cons _ _ _ _ _ (@ps_set _ _ 8 _ _ _ _ sc_l_answer.nd rfl (Or.inl rfl) (pcall g_l_take hr (pa_cons (pv 0) (pa_cons pe_int pa_nil))) (by rfl) (by first | exact .inl rfl | exact .inr rfl))
  (@pss_cons _ _ _ _ _ (ps_if (pt_cmpR op_eq (pv 4) pe_int (nomark _)) (@pss_one _ _ _ (ps_ret (pcall g_l_frame hr (pa_cons (pv 5) (pa_cons (@pe_op _ _ _ _ _ _ _ _ op_mod (@pe_op _ _ _ _ _ _ _ _ op_add (@pe_op _ _ _ _ _ _ _ _ op_add (pv 2) pe_int) (pcall g_l_take hr (pa_cons (pv 0) (pa_cons pe_int pa_nil)))) pe_int) (pa_cons (pv 6) pa_nil)))))) pss_nil)
  (@pss_cons _ _ _ _ _ (ps_if (pt_cmpR op_eq (pv 4) pe_int (nomark _)) (@pss_one _ _ _ (ps_ret (pcall g_l_frame hr (pa_cons (@pe_op _ _ _ _ _ _ _ _ op_add pe_int (pcall g_l_take hr (pa_cons (pv 0) (pa_cons pe_int pa_nil)))) (pa_cons (pv 2) (pa_cons (pv 6) pa_nil)))))) pss_nil)
  (@pss_cons _ _ _ _ _ (ps_if (PW.pt (pw_and (pt_cmpR op_eq (pv 4) pe_int (nomark _)) (pw_and1 (pt_cmpR op_gt (pe_callB call_len_seq rfl T.len bt_len (pa_cons (pv 3) pa_nil)) pe_int (nomark _))))) (@pss_one _ _ _ (ps_ret (pe_ix ix_list (pv 3) (pcall g_l_take hr (pa_cons (pv 0) (pa_cons (pe_callB call_len_seq rfl T.len bt_len (pa_cons (pv 3) pa_nil)) pa_nil))) (fun _ _ => rfl)))) pss_nil)
  (@pss_cons _ _ _ _ _ (ps_if (pt_cmpR op_eq (pv 4) pe_int (nomark _)) (@pss_one _ _ _ (ps_ret (@pe_op _ _ _ _ _ _ _ _ op_catTH (@pe_op _ _ _ _ _ _ _ _ op_catTH (pe_slice sl_tupW (pv 7) po_none (po_some (pv 8))) (pe_tup (pa_cons (@pe_op _ _ _ _ _ _ _ _ op_add (@pe_op _ _ _ _ _ _ _ _ op_add (pe_ix ix_tup (pv 7) (pv 8) (fun _ _ => rfl)) pe_int) (pcall g_l_take hr (pa_cons (pv 0) (pa_cons pe_int pa_nil)))) pa_nil))) (pe_slice sl_tupW (pv 7) (po_some (@pe_op _ _ _ _ _ _ _ _ op_add (pv 8) pe_int)) po_none)))) pss_nil)
  (@pss_cons _ _ _ _ _ (ps_if (pt_cmpR op_eq (pv 4) pe_int (nomark _)) (@pss_one _ _ _ (ps_ret (@pe_op _ _ _ _ _ _ _ _ op_catTH (@pe_op _ _ _ _ _ _ _ _ op_catTH (pe_slice sl_tupW (pv 7) po_none (po_some (pv 8))) (pe_tup (pa_cons (@pe_op _ _ _ _ _ _ _ _ op_sub (@pe_op _ _ _ _ _ _ _ _ op_sub (pe_ix ix_tup (pv 7) (pv 8) (fun _ _ => rfl)) pe_int) (pcall g_l_take hr (pa_cons (pv 0) (pa_cons pe_int pa_nil)))) pa_nil))) (pe_slice sl_tupW (pv 7) (po_some (@pe_op _ _ _ _ _ _ _ _ op_add (pv 8) pe_int)) po_none)))) pss_nil)
  (@pss_cons _ _ _ _ _ (ps_if (pt_cmpR op_eq (pv 4) pe_int (nomark _)) (@pss_one _ _ _ (ps_ret (pe_ix ix_list (@pe_lstS _ _ _ _ (@pa_cons _ _ _ _ _ (pe_callTy call_list_ofS rfl T.list bt_list (pa_cons (pv 7) pa_nil)) (@pa_cons _ _ _ _ _ pe_non (@pa_cons _ _ _ _ _ (pe_tup pa_nil) (@pa_cons _ _ _ _ _ (pe_slice sl_tupW (pv 7) po_none (po_some pe_int)) (@pa_cons _ _ _ _ _ (@pe_op _ _ _ _ _ _ _ _ op_catTH (pv 7) (pe_tup (pa_cons pe_int pa_nil))) (@pa_cons _ _ _ _ _ (@pe_str _ _ _ _) (@pa_cons _ _ _ _ _ pe_bl (@pa_cons _ _ _ _ _ (pe_tup (pa_cons (pv 7) pa_nil)) (@pa_nil _) st_tup) st_const) st_const) st_bin) st_sub) st_tup) st_const) st_call)) (pcall g_l_take hr (pa_cons (pv 0) (pa_cons pe_int pa_nil))) (fun _ _ => rfl)))) pss_nil)
  (@pss_cons _ _ _ _ _ (ps_if (pt_cmpR op_eq (pv 4) pe_int (nomark _)) (@pss_one _ _ _ (ps_ret (pe_tup (pa_cons pe_int (pa_cons (pv 2) (pa_cons pe_bl (pa_cons (@pe_op _ _ _ _ _ _ _ _ op_mod (@pe_op _ _ _ _ _ _ _ _ op_add pe_int (@pe_op _ _ _ _ _ _ _ _ op_mul pe_int (pv 2))) pe_int) pa_nil))))))) pss_nil)
  (@pss_one _ _ _ (ps_ret (pv 7))))))))))))))), ?_⟩
  have nbo : oa ≠ b := fun z => by rw [z] at ho; exact hb.ntup _ ho
  have lr : ((List.range n).map fun j => V.int (a j)).length = n := by rw [List.length_map, List.length_range]
  refine ⟨_, rfl, b, _, 16, rfl, hb, by omega, by decide, by decide, fun way H1 y0 y1 hb1 sb1 => ?_⟩
  refine ⟨_, rfl, _, rfl, _, rfl, oa, _, rfl, .inr (SqT.of (sb1 _ _ ho nbo)), b, _, (n : Int), (by rw [lr]; rfl), hb1, by omega, by omega, by omega, fun r H2 r0 r1 hb2 sb2 => ⟨oa, _, _, _, rfl, rfl, SqT.of (sb2 _ _ (sb1 _ _ ho nbo) nbo), at_rg r0 r1, ?_⟩⟩
  refine ⟨_, rfl, b, _, 256, rfl, hb2, by omega, by decide, by decide, fun w1 H3 _ _ hb3 sb3 => ⟨_, rfl, b, _, 256, rfl, hb3, by omega, by decide, by decide, fun w2 H4 _ _ hb4 sb4 => ⟨leSize (by show 6 ≤ 1000; decide), fun pl H5 fpl epl s5 => ⟨_, rfl, b, _, 6, rfl, hb4.same s5, by omega, by decide, by decide, fun r6 H6 r60 r61 hb6 sb6 => ?_⟩⟩⟩⟩
  obtain ⟨wd, hwd⟩ := at_6 (w1 := w1) (w2 := w2) r60 r61
  refine ⟨pl, _, _, _, rfl, rfl, SqL.of (sb6 _ _ epl (hb4.nb fpl).symm), hwd, ?_⟩
  have k6 : SameB b H H6 := (sb1.trans sb2).trans ((sb3.trans sb4).trans ((SameB.of s5).trans sb6))
  refine ⟨_, rfl, _, rfl, _, rfl, a r.toNat, t, wd, rfl, fun pw H7 fpw epw s7 => ?_⟩
  refine ⟨_, rfl, b, _, 4, rfl, hb6.same s7, by omega, by decide, by decide, fun place H8 p0 p1 hb8 sb8 => ?_⟩
  have k8 : SameB b H H8 := k6.trans ((SameB.of s7).trans sb8)
  have nbw : pw ≠ b := ((hb6.nb fpw)).symm
  have ew := sb8 _ _ epw nbw
  have ela := k8 _ _ hla nlb
  have tg8 : ∀ x ∈ xs, Tg H8 x := fun x hx => (tgs x hx).1.bag (tgs x hx).2.1 hb k8
  clear sb8 epw fpw s7 k6 sb6 hb6 hwd epl fpl s5 hb4 sb4 hb3 sb3 hb2 sb2 hb1 sb1
  have fin : ∀ (p : Addr) (H' : Hp) (z : List Int), H' p = some (.tup (iv z)) → z.length ≤ 10 → ∀ {k : Nat}, BagAt H' b k → k ≤ m + 12 → SameB b H H' → Q (.ref p) H' := fun p H' z e hz k hbk hk sk => q _ H' (.inr (.inr (.inr (.inr (.inl ⟨p, _, rfl, e, by rw [iv_len]; exact hz, iv_sc z⟩))))) (fun z => by injection z with z; rw [z] at e; exact hbk.ntup _ e) (fun z => by injection z with z; rw [z, sk _ _ hla nlb] at e; cases e) (hbk.mono hk) sk
  have ew : H8 pw = some (.tup (iv [a r.toNat, t, wd, chk (a r.toNat) t wd])) := ew
  refine ⟨_, rfl, rfl, _, rfl, ite3 (fun _ => ?_) (fun _ => ?_)⟩
  · refine ⟨_, rfl, _, rfl, _, _, rfl, rfl, _, rfl, b, _, 7, rfl, hb8, by omega, by decide, by decide, fun d H9 _ _ hb9 sb9 => ⟨_, _, rfl, rfl, _, _, rfl, rfl, (by show (0 : Int) < 8; decide), _, rfl, _, _, _, rfl, fun p HA fp ep sA => ?_⟩⟩
    exact fin p HA _ ep (by show 4 ≤ 10; decide) (hb9.same sA) (by omega) (k8.trans (sb9.trans (SameB.of sA)))
  refine ⟨_, rfl, rfl, _, rfl, ite3 (fun _ => ?_) (fun _ => ?_)⟩
  · refine ⟨_, rfl, b, _, 99, rfl, hb8, by omega, by decide, by decide, fun d H9 _ _ hb9 sb9 => ⟨_, _, rfl, rfl, _, rfl, _, rfl, _, _, _, rfl, fun p HA fp ep sA => ?_⟩⟩
    exact fin p HA _ ep (by show 4 ≤ 10; decide) (hb9.same sA) (by omega) (k8.trans (sb9.trans (SameB.of sA)))
  have whole : Q (.ref pw) H8 := fin pw H8 _ ew (by show 4 ≤ 10; decide) hb8 (by omega) k8
  refine ⟨_, rfl, rfl, _, rfl, ite3 (fun h2 => ?_) (fun _ => ?_)⟩
  · have h2 : way = 2 := by
      have := of_decide_eq_true h2
      injection this
    subst h2
    refine ⟨_, rfl, la, _, rfl, .inl (SqL.of ela), _, _, rfl, rfl, _, rfl, ite3 (fun h3 => ?_) (fun _ => ?_)⟩
    · have h3 : 0 < xs.length := by
        have := of_decide_eq_true h3
        omega
      refine ⟨_, rfl, _, rfl, _, rfl, la, _, rfl, .inl (SqL.of ela), b, _, (xs.length : Int), rfl, hb8, by omega, by omega, by omega, fun d H9 d0 d1 hb9 sb9 => ?_⟩
      obtain ⟨k, rfl⟩ := Int.eq_ofNat_of_zero_le d0
      have hk : k < xs.length := by omega
      have hx := List.getElem_mem hk
      refine ⟨la, _, _, _, rfl, rfl, SqL.of (sb9 _ _ ela nlb), atI_nat (List.getElem?_eq_getElem hk), ?_⟩
      exact q _ H9 ((tg8 _ hx).bag (tgs _ hx).2.1 hb8 sb9) (tgs _ hx).2.1 (tgs _ hx).2.2 (hb9.mono (by omega)) (k8.trans sb9)
    · exact ⟨_, rfl, rfl, _, rfl, iteF ⟨_, rfl, rfl, _, rfl, iteF ⟨_, rfl, rfl, _, rfl, iteF ⟨_, rfl, rfl, _, rfl, iteF ⟨_, rfl, whole⟩⟩⟩⟩⟩
  have pls : place = 0 ∨ place = 1 ∨ place = 2 ∨ place = 3 := by omega
  refine ⟨_, rfl, rfl, _, rfl, ite3 (fun _ => ?_) (fun _ => ?_)⟩
  · rcases pls with rfl | rfl | rfl | rfl
    · refine ⟨_, rfl, _, rfl, _, rfl, pw, _, rfl, ew, fun p1 H9 e1 s9 => ?_⟩
      have n1 : p1 ≠ b := fun z => by rw [z] at e1; exact (hb8.same s9).ntup _ e1
      refine ⟨_, rfl, _, rfl, pw, _, _, _, rfl, rfl, SqT.of (s9 _ _ ew), rfl, _, _, rfl, rfl, _, rfl, b, _, 300, rfl, hb8.same s9, by omega, by decide, by decide, fun d HA _ _ hbA sbA => ⟨_, _, rfl, rfl, leSize (by show 1 ≤ 1000; decide), fun p2 f2 => ?_⟩⟩
      have sB := same_new f2 (.tup [V.int (a r.toNat + 1 + d)])
      refine ⟨p1, p2, _, _, rfl, rfl, sB _ _ (sbA _ _ e1 n1), upd_same, leSize (by show 1 ≤ 1000; decide), fun p3 HC e3 sC => ?_⟩
      refine ⟨_, rfl, _, rfl, _, _, rfl, rfl, _, rfl, pw, _, rfl, (sB.trans sC) _ _ (sbA _ _ (s9 _ _ ew) nbw), fun p4 HD e4 sD => ?_⟩
      refine ⟨p3, p4, _, _, rfl, rfl, sD _ _ e3, e4, leSize (by show 4 ≤ 1000; decide), fun p5 HE e5 sE => ?_⟩
      exact fin p5 HE [a r.toNat + 1 + d, t, wd, chk (a r.toNat) t wd] e5 (by show 4 ≤ 10; decide) (((hbA.same sB).same sC).same (sD.trans sE)) (by omega) (k8.trans ((SameB.of s9).trans (sbA.trans (SameB.of (sB.trans (sC.trans (sD.trans sE)))))))
    · refine ⟨_, rfl, _, rfl, _, rfl, pw, _, rfl, ew, fun p1 H9 e1 s9 => ?_⟩
      have n1 : p1 ≠ b := fun z => by rw [z] at e1; exact (hb8.same s9).ntup _ e1
      refine ⟨_, rfl, _, rfl, pw, _, _, _, rfl, rfl, SqT.of (s9 _ _ ew), rfl, _, _, rfl, rfl, _, rfl, b, _, 300, rfl, hb8.same s9, by omega, by decide, by decide, fun d HA _ _ hbA sbA => ⟨_, _, rfl, rfl, leSize (by show 1 ≤ 1000; decide), fun p2 f2 => ?_⟩⟩
      have sB := same_new f2 (.tup [V.int (t + 1 + d)])
      refine ⟨p1, p2, _, _, rfl, rfl, sB _ _ (sbA _ _ e1 n1), upd_same, leSize (by show 2 ≤ 1000; decide), fun p3 HC e3 sC => ?_⟩
      refine ⟨_, rfl, _, rfl, _, _, rfl, rfl, _, rfl, pw, _, rfl, (sB.trans sC) _ _ (sbA _ _ (s9 _ _ ew) nbw), fun p4 HD e4 sD => ?_⟩
      refine ⟨p3, p4, _, _, rfl, rfl, sD _ _ e3, e4, leSize (by show 4 ≤ 1000; decide), fun p5 HE e5 sE => ?_⟩
      exact fin p5 HE [a r.toNat, t + 1 + d, wd, chk (a r.toNat) t wd] e5 (by show 4 ≤ 10; decide) (((hbA.same sB).same sC).same (sD.trans sE)) (by omega) (k8.trans ((SameB.of s9).trans (sbA.trans (SameB.of (sB.trans (sC.trans (sD.trans sE)))))))
    · refine ⟨_, rfl, _, rfl, _, rfl, pw, _, rfl, ew, fun p1 H9 e1 s9 => ?_⟩
      have n1 : p1 ≠ b := fun z => by rw [z] at e1; exact (hb8.same s9).ntup _ e1
      refine ⟨_, rfl, _, rfl, pw, _, _, _, rfl, rfl, SqT.of (s9 _ _ ew), rfl, _, _, rfl, rfl, _, rfl, b, _, 300, rfl, hb8.same s9, by omega, by decide, by decide, fun d HA _ _ hbA sbA => ⟨_, _, rfl, rfl, leSize (by show 1 ≤ 1000; decide), fun p2 f2 => ?_⟩⟩
      have sB := same_new f2 (.tup [V.int (wd + 1 + d)])
      refine ⟨p1, p2, _, _, rfl, rfl, sB _ _ (sbA _ _ e1 n1), upd_same, leSize (by show 3 ≤ 1000; decide), fun p3 HC e3 sC => ?_⟩
      refine ⟨_, rfl, _, rfl, _, _, rfl, rfl, _, rfl, pw, _, rfl, (sB.trans sC) _ _ (sbA _ _ (s9 _ _ ew) nbw), fun p4 HD e4 sD => ?_⟩
      refine ⟨p3, p4, _, _, rfl, rfl, sD _ _ e3, e4, leSize (by show 4 ≤ 1000; decide), fun p5 HE e5 sE => ?_⟩
      exact fin p5 HE [a r.toNat, t, wd + 1 + d, chk (a r.toNat) t wd] e5 (by show 4 ≤ 10; decide) (((hbA.same sB).same sC).same (sD.trans sE)) (by omega) (k8.trans ((SameB.of s9).trans (sbA.trans (SameB.of (sB.trans (sC.trans (sD.trans sE)))))))
    · refine ⟨_, rfl, _, rfl, _, rfl, pw, _, rfl, ew, fun p1 H9 e1 s9 => ?_⟩
      have n1 : p1 ≠ b := fun z => by rw [z] at e1; exact (hb8.same s9).ntup _ e1
      refine ⟨_, rfl, _, rfl, pw, _, _, _, rfl, rfl, SqT.of (s9 _ _ ew), rfl, _, _, rfl, rfl, _, rfl, b, _, 300, rfl, hb8.same s9, by omega, by decide, by decide, fun d HA _ _ hbA sbA => ⟨_, _, rfl, rfl, leSize (by show 1 ≤ 1000; decide), fun p2 f2 => ?_⟩⟩
      have sB := same_new f2 (.tup [V.int (chk (a r.toNat) t wd + 1 + d)])
      refine ⟨p1, p2, _, _, rfl, rfl, sB _ _ (sbA _ _ e1 n1), upd_same, leSize (by show 4 ≤ 1000; decide), fun p3 HC e3 sC => ?_⟩
      refine ⟨_, rfl, _, rfl, _, _, rfl, rfl, _, rfl, pw, _, rfl, (sB.trans sC) _ _ (sbA _ _ (s9 _ _ ew) nbw), fun p4 HD e4 sD => ?_⟩
      refine ⟨p3, p4, _, _, rfl, rfl, sD _ _ e3, e4, leSize (by show 4 ≤ 1000; decide), fun p5 HE e5 sE => ?_⟩
      exact fin p5 HE [a r.toNat, t, wd, chk (a r.toNat) t wd + 1 + d] e5 (by show 4 ≤ 10; decide) (((hbA.same sB).same sC).same (sD.trans sE)) (by omega) (k8.trans ((SameB.of s9).trans (sbA.trans (SameB.of (sB.trans (sC.trans (sD.trans sE)))))))
  refine ⟨_, rfl, rfl, _, rfl, ite3 (fun _ => ?_) (fun _ => ?_)⟩
  · rcases pls with rfl | rfl | rfl | rfl
    · refine ⟨_, rfl, _, rfl, _, rfl, pw, _, rfl, ew, fun p1 H9 e1 s9 => ?_⟩
      have n1 : p1 ≠ b := fun z => by rw [z] at e1; exact (hb8.same s9).ntup _ e1
      refine ⟨_, rfl, _, rfl, pw, _, _, _, rfl, rfl, SqT.of (s9 _ _ ew), rfl, _, _, rfl, rfl, _, rfl, b, _, 300, rfl, hb8.same s9, by omega, by decide, by decide, fun d HA _ _ hbA sbA => ⟨_, _, rfl, rfl, leSize (by show 1 ≤ 1000; decide), fun p2 f2 => ?_⟩⟩
      have sB := same_new f2 (.tup [V.int (a r.toNat - 1 - d)])
      refine ⟨p1, p2, _, _, rfl, rfl, sB _ _ (sbA _ _ e1 n1), upd_same, leSize (by show 1 ≤ 1000; decide), fun p3 HC e3 sC => ?_⟩
      refine ⟨_, rfl, _, rfl, _, _, rfl, rfl, _, rfl, pw, _, rfl, (sB.trans sC) _ _ (sbA _ _ (s9 _ _ ew) nbw), fun p4 HD e4 sD => ?_⟩
      refine ⟨p3, p4, _, _, rfl, rfl, sD _ _ e3, e4, leSize (by show 4 ≤ 1000; decide), fun p5 HE e5 sE => ?_⟩
      exact fin p5 HE [a r.toNat - 1 - d, t, wd, chk (a r.toNat) t wd] e5 (by show 4 ≤ 10; decide) (((hbA.same sB).same sC).same (sD.trans sE)) (by omega) (k8.trans ((SameB.of s9).trans (sbA.trans (SameB.of (sB.trans (sC.trans (sD.trans sE)))))))
    · refine ⟨_, rfl, _, rfl, _, rfl, pw, _, rfl, ew, fun p1 H9 e1 s9 => ?_⟩
      have n1 : p1 ≠ b := fun z => by rw [z] at e1; exact (hb8.same s9).ntup _ e1
      refine ⟨_, rfl, _, rfl, pw, _, _, _, rfl, rfl, SqT.of (s9 _ _ ew), rfl, _, _, rfl, rfl, _, rfl, b, _, 300, rfl, hb8.same s9, by omega, by decide, by decide, fun d HA _ _ hbA sbA => ⟨_, _, rfl, rfl, leSize (by show 1 ≤ 1000; decide), fun p2 f2 => ?_⟩⟩
      have sB := same_new f2 (.tup [V.int (t - 1 - d)])
      refine ⟨p1, p2, _, _, rfl, rfl, sB _ _ (sbA _ _ e1 n1), upd_same, leSize (by show 2 ≤ 1000; decide), fun p3 HC e3 sC => ?_⟩
      refine ⟨_, rfl, _, rfl, _, _, rfl, rfl, _, rfl, pw, _, rfl, (sB.trans sC) _ _ (sbA _ _ (s9 _ _ ew) nbw), fun p4 HD e4 sD => ?_⟩
      refine ⟨p3, p4, _, _, rfl, rfl, sD _ _ e3, e4, leSize (by show 4 ≤ 1000; decide), fun p5 HE e5 sE => ?_⟩
      exact fin p5 HE [a r.toNat, t - 1 - d, wd, chk (a r.toNat) t wd] e5 (by show 4 ≤ 10; decide) (((hbA.same sB).same sC).same (sD.trans sE)) (by omega) (k8.trans ((SameB.of s9).trans (sbA.trans (SameB.of (sB.trans (sC.trans (sD.trans sE)))))))
    · refine ⟨_, rfl, _, rfl, _, rfl, pw, _, rfl, ew, fun p1 H9 e1 s9 => ?_⟩
      have n1 : p1 ≠ b := fun z => by rw [z] at e1; exact (hb8.same s9).ntup _ e1
      refine ⟨_, rfl, _, rfl, pw, _, _, _, rfl, rfl, SqT.of (s9 _ _ ew), rfl, _, _, rfl, rfl, _, rfl, b, _, 300, rfl, hb8.same s9, by omega, by decide, by decide, fun d HA _ _ hbA sbA => ⟨_, _, rfl, rfl, leSize (by show 1 ≤ 1000; decide), fun p2 f2 => ?_⟩⟩
      have sB := same_new f2 (.tup [V.int (wd - 1 - d)])
      refine ⟨p1, p2, _, _, rfl, rfl, sB _ _ (sbA _ _ e1 n1), upd_same, leSize (by show 3 ≤ 1000; decide), fun p3 HC e3 sC => ?_⟩
      refine ⟨_, rfl, _, rfl, _, _, rfl, rfl, _, rfl, pw, _, rfl, (sB.trans sC) _ _ (sbA _ _ (s9 _ _ ew) nbw), fun p4 HD e4 sD => ?_⟩
      refine ⟨p3, p4, _, _, rfl, rfl, sD _ _ e3, e4, leSize (by show 4 ≤ 1000; decide), fun p5 HE e5 sE => ?_⟩
      exact fin p5 HE [a r.toNat, t, wd - 1 - d, chk (a r.toNat) t wd] e5 (by show 4 ≤ 10; decide) (((hbA.same sB).same sC).same (sD.trans sE)) (by omega) (k8.trans ((SameB.of s9).trans (sbA.trans (SameB.of (sB.trans (sC.trans (sD.trans sE)))))))
    · refine ⟨_, rfl, _, rfl, _, rfl, pw, _, rfl, ew, fun p1 H9 e1 s9 => ?_⟩
      have n1 : p1 ≠ b := fun z => by rw [z] at e1; exact (hb8.same s9).ntup _ e1
      refine ⟨_, rfl, _, rfl, pw, _, _, _, rfl, rfl, SqT.of (s9 _ _ ew), rfl, _, _, rfl, rfl, _, rfl, b, _, 300, rfl, hb8.same s9, by omega, by decide, by decide, fun d HA _ _ hbA sbA => ⟨_, _, rfl, rfl, leSize (by show 1 ≤ 1000; decide), fun p2 f2 => ?_⟩⟩
      have sB := same_new f2 (.tup [V.int (chk (a r.toNat) t wd - 1 - d)])
      refine ⟨p1, p2, _, _, rfl, rfl, sB _ _ (sbA _ _ e1 n1), upd_same, leSize (by show 4 ≤ 1000; decide), fun p3 HC e3 sC => ?_⟩
      refine ⟨_, rfl, _, rfl, _, _, rfl, rfl, _, rfl, pw, _, rfl, (sB.trans sC) _ _ (sbA _ _ (s9 _ _ ew) nbw), fun p4 HD e4 sD => ?_⟩
      refine ⟨p3, p4, _, _, rfl, rfl, sD _ _ e3, e4, leSize (by show 4 ≤ 1000; decide), fun p5 HE e5 sE => ?_⟩
      exact fin p5 HE [a r.toNat, t, wd, chk (a r.toNat) t wd - 1 - d] e5 (by show 4 ≤ 10; decide) (((hbA.same sB).same sC).same (sD.trans sE)) (by omega) (k8.trans ((SameB.of s9).trans (sbA.trans (SameB.of (sB.trans (sC.trans (sD.trans sE)))))))
  refine ⟨_, rfl, rfl, _, rfl, ite3 (fun _ => ?_) (fun _ => ?_)⟩
  · refine ⟨_, rfl, pw, _, rfl, .inr (SqT.of ew), fun l1 H9 f1 e1 s9 => ?_⟩
    refine ⟨leSize (by show 0 ≤ 1000; decide), fun p2 f2 => ?_⟩
    have sA := s9.trans (same_new f2 (.tup []))
    have ep2 : (upd H9 p2 (.tup [])) p2 = some (.tup []) := upd_same
    have e1A := (same_new f2 (.tup [])) _ _ e1
    generalize upd H9 p2 (.tup []) = HA at *
    refine ⟨_, rfl, _, rfl, pw, _, rfl, sA _ _ ew, fun p3 HB e3 sB => ?_⟩
    refine ⟨_, rfl, leSize (by show 1 ≤ 1000; decide), fun p4 f4 => ?_⟩
    have sC := same_new f4 (.tup [V.int 0])
    refine ⟨pw, p4, _, _, rfl, rfl, ((sA.trans sB).trans sC) _ _ ew, upd_same, leSize (by show 5 ≤ 1000; decide), fun p5 HD e5 sD => ?_⟩
    have sAD := sB.trans (sC.trans sD)
    have e3D := (sC.trans sD) _ _ e3
    clear sB sC sD e3 f4
    refine ⟨_, rfl, leSize (by show 1 ≤ 1000; decide), fun p6 f6 => ?_⟩
    have sE := same_new f6 (.tup [V.ref pw])
    have ep6 : (upd HD p6 (.tup [V.ref pw])) p6 = some (.tup [V.ref pw]) := upd_same
    generalize upd HD p6 (.tup [V.ref pw]) = HE at *
    refine ⟨leSize (by show 8 ≤ 1000; decide), fun l8 HF f8 e8 sF => ?_⟩
    have sAF := sAD.trans (sE.trans sF)
    have s8F := sA.trans sAF
    have hbF := hb8.same s8F
    have nb8 : l8 ≠ b := ((hb8.same (sA.trans (sAD.trans sE))).nb f8).symm
    refine ⟨_, rfl, b, _, 8, rfl, hbF, by omega, by decide, by decide, fun d HG d0 d1 hbG sbG => ?_⟩
    have e8G := sbG _ _ e8 nb8
    have nt : ∀ {p ys}, HF p = some (.tup ys) → HG p = some (.tup ys) ∧ V.ref p ≠ V.ref b := fun {p ys} e => by
      have : p ≠ b := fun z => by rw [z] at e; exact hbF.ntup _ e
      exact ⟨sbG _ _ e this, fun z => this (by injection z)⟩
    have n1b : l1 ≠ b := (hb8.nb f1).symm
    have g1 := sbG _ _ (sAF _ _ e1A) n1b
    have g2 := nt (sAF _ _ ep2)
    have g3 := nt ((sE.trans sF) _ _ e3D)
    have g5 := nt ((sE.trans sF) _ _ e5)
    have g6 := nt (sF _ _ ep6)
    have gw := nt (s8F _ _ ew)
    have kG := k8.trans ((SameB.of s8F).trans sbG)
    have hbH := hbG.mono (show _ ≤ m + 12 by omega)
    have : d = 0 ∨ d = 1 ∨ d = 2 ∨ d = 3 ∨ d = 4 ∨ d = 5 ∨ d = 6 ∨ d = 7 := by omega
    rcases this with rfl | rfl | rfl | rfl | rfl | rfl | rfl | rfl
    · exact ⟨l8, _, _, _, rfl, rfl, SqL.of e8G, rfl, q _ HG (.inr (.inr (.inr (.inl ⟨l1, [a r.toNat, t, wd, chk (a r.toNat) t wd], rfl, g1, (by show 4 ≤ 10; decide)⟩)))) (fun z => n1b (by injection z)) (fun z => (ne_of_none ela f1).symm (by injection z)) hbH kG⟩
    · exact ⟨l8, _, _, _, rfl, rfl, SqL.of e8G, rfl, q _ HG (.inl rfl) (fun z => by cases z) (fun z => by cases z) hbH kG⟩
    · exact ⟨l8, _, _, _, rfl, rfl, SqL.of e8G, rfl, fin p2 HG [] g2.1 (by show 0 ≤ 10; decide) hbG (by omega) kG⟩
    · exact ⟨l8, _, _, _, rfl, rfl, SqL.of e8G, rfl, fin p3 HG [a r.toNat, t, wd] g3.1 (by show 3 ≤ 10; decide) hbG (by omega) kG⟩
    · exact ⟨l8, _, _, _, rfl, rfl, SqL.of e8G, rfl, fin p5 HG [a r.toNat, t, wd, chk (a r.toNat) t wd, 0] g5.1 (by show 5 ≤ 10; decide) hbG (by omega) kG⟩
    · exact ⟨l8, _, _, _, rfl, rfl, SqL.of e8G, rfl, q _ HG (.inr (.inl rfl)) (fun z => by cases z) (fun z => by cases z) hbH kG⟩
    · exact ⟨l8, _, _, _, rfl, rfl, SqL.of e8G, rfl, q _ HG (.inr (.inr (.inl rfl))) (fun z => by cases z) (fun z => by cases z) hbH kG⟩
    · exact ⟨l8, _, _, _, rfl, rfl, SqL.of e8G, rfl, q _ HG (.inr (.inr (.inr (.inr (.inr ⟨p6, pw, [a r.toNat, t, wd, chk (a r.toNat) t wd], rfl, g6.1, gw.1, (by show 4 ≤ 10; decide)⟩))))) g6.2 (fun z => by injection z with z; have h6 := g6.1; rw [z, kG _ _ hla nlb] at h6; cases h6) hbH kG⟩
  refine ⟨_, rfl, rfl, _, rfl, ite3 (fun _ => ?_) (fun _ => ⟨_, rfl, whole⟩)⟩
  refine ⟨_, rfl, _, rfl, _, _, rfl, rfl, .inl ⟨by decide, by decide⟩, _, _, rfl, rfl, _, _, rfl, rfl, (by show (0 : Int) < 257; decide), leSize (by show 4 ≤ 1000; decide), fun p fp => ?_⟩
  have sp := same_new fp (.tup [V.int 1, .int t, .bl true, .int ((10 + 5 * t) % 257)])
  have nbp : p ≠ b := (hb8.nb fp).symm
  refine q _ _ (.inr (.inr (.inr (.inr (.inl ⟨p, _, rfl, upd_same, (by show 4 ≤ 10; decide), fun y hy => ?_⟩))))) (fun z => nbp (by injection z)) (fun z => (ne_of_none ela fp).symm (by injection z)) ((hb8.same sp).mono (by omega)) (k8.trans (SameB.of sp))
  simp only [List.mem_cons, List.not_mem_nil, or_false] at hy
  rcases hy with rfl | rfl | rfl | rfl
  · exact .inl ⟨_, rfl⟩
  · exact .inl ⟨_, rfl⟩
  · exact .inr ⟨_, rfl⟩
  · exact .inl ⟨_, rfl⟩
end
end K15

set_option Elab.async false
set_option linter.all false
set_option maxRecDepth 100000
set_option pp.maxSteps 300
set_option maxHeartbeats 2000000
namespace K15
open PySem L2
def spAnswers (K : PySem.W.Frag) : Sp := fun vs H Q _ => ∃ (sa oa : Addr) (ns : List Int) (n : Nat) (a : Nat → Int) (t : Int), vs = [.ref sa, .ref oa, .int t] ∧ SqL K H sa (ns.map V.int) ∧ ns.length ≤ 63 ∧ H oa = some (.tup ((List.range n).map fun j => V.int (a j))) ∧ 1 ≤ n ∧ n ≤ 30 ∧ ∀ l xs H', H l = none → H' l = some (.lst xs) → xs.length ≤ 190 → (∀ x ∈ xs, Tg H' x ∧ x ≠ .ref l) → Same H H' → Q (.ref l) H'
theorem Tg.updL {H : Hp} {v : V} {l : Addr} {ys : List V} {o : HO} (h : Tg H v) (hv : v ≠ .ref l) (hl : H l = some (.lst ys)) : Tg (upd H l o) v := by
  have nt : ∀ p xs, H p = some (.tup xs) → (upd H l o) p = some (.tup xs) := fun p xs e => by rw [upd_ne (fun z => by rw [z, hl] at e; cases e)]; exact e
  rcases h with h | h | h | ⟨p, z, h1, h2, h3⟩ | ⟨p, xs, h1, h2, h3, h4⟩ | ⟨p, q, z, h1, h2, h3, h4⟩
  · exact .inl h
  · exact .inr (.inl h)
  · exact .inr (.inr (.inl h))
  · exact .inr (.inr (.inr (.inl ⟨p, z, h1, by rw [upd_ne (fun e => hv (by rw [h1, e]))]; exact h2, h3⟩)))
  · exact .inr (.inr (.inr (.inr (.inl ⟨p, xs, h1, nt _ _ h2, h3, h4⟩))))
  · exact .inr (.inr (.inr (.inr (.inr ⟨p, q, z, h1, nt _ _ h2, nt _ _ h3, h4⟩))))
section
variable {P : Program} {w : World} {K : PySem.W.Frag} {mg : Str → Option Value} {base : Heap}
theorem ok_answers (c : Code K mg "_law_answers" s_l_answers p_l_answers) (T : Nm mg) (g_l_bag : Good P w K mg base "_law_bag" 1 p_l_bag (spBag K)) (g_l_take : Good P w K mg base "_law_take" 1 p_l_take spTake) (g_l_answer : Good P w K mg base "_law_answer" 2 p_l_answer spAnswer) : Good P w K mg base "_law_answers" 3 p_l_answers (spAnswers K) := by
  refine c.good sc_l_answers (fun vs H Q E h => ?_) (fun f cdv A outer s H vs Q E hr h => ?_)
  · obtain ⟨sa, oa, ns, n, a, t, rfl, _⟩ := h
    rfl
  obtain ⟨sa, oa, ns, n, a, t, rfl, hS, h63, ho, n1, n30, q⟩ := h
  refine ⟨_, (pss_cons (ps_set (i := 3) sc_l_answers.nd rfl (Or.inl rfl) (pe_lstS pa_nil))
  (pss_cons (ps_for PassesOwn.never rfl (pi_range2 rfl T.range (pa_cons pe_int (pa_cons (pe_callB (call_max2 rfl) rfl T.max bt_max (pa_cons pe_int (pa_cons (pe_callB (call_min2 rfl) rfl T.min bt_min (pa_cons (pe_callB call_len_seq rfl T.len bt_len (pa_cons (pv 0) pa_nil)) (pa_cons pe_int pa_nil))) pa_nil))) pa_nil))) (pg_name (i := 4) sc_l_answers.nd rfl (Or.inl rfl))
  (pss_cons (ps_set (i := 5) sc_l_answers.nd rfl (Or.inl rfl) (pcall g_l_bag hr (pa_cons (pv 0) (pa_cons (pv 4) pa_nil))))
  (pss_one (ps_for PassesOwn.never rfl (pi_range1 rfl T.range (pa_cons (pe_op op_add pe_int (pcall g_l_take hr (pa_cons (pv 5) (pa_cons pe_int pa_nil)))) pa_nil)) (pg_name (i := 6) sc_l_answers.nd rfl (Or.inl rfl))
  (pss_one (ps_expr (pe_bm PySem.F.plainAttrs_list PySem.F.slot_list_append PySem.F.type_list_append mt_append (pv 3) (pa_cons (pcall g_l_answer hr (pa_cons (pv 5) (pa_cons (pv 1) (pa_cons (pv 2) (pa_cons (pv 3) pa_nil))))) pa_nil))))))))
  (pss_one (ps_ret (pv 3))))), ?_⟩
  have hl : (ns.map V.int).length = ns.length := List.length_map _
  refine ⟨leSize (by show 0 ≤ 1000; decide), fun la H1 fl el s1 => ?_⟩
  refine ⟨_, rfl, sa, _, rfl, .inl (s1.seq hS), _, _, rfl, _, _, rfl, _, _, rfl, ⟨by decide, by decide, ?_, ?_⟩, ?_⟩
  · rw [hl]; split <;> split <;> omega
  · rw [hl]; split <;> split <;> omega
  refine for_range (fun i σ HH => ∃ u4 u5 u6 xs, σ = [some (.ref sa), some (.ref oa), some (.int t), some (.ref la), u4, u5, u6] ∧ HH la = some (.lst xs) ∧ xs.length ≤ 5 * i ∧ (∀ x ∈ xs, Tg HH x ∧ x ≠ .ref la) ∧ Same H HH) ⟨_, _, _, [], rfl, el, Nat.zero_le _, (fun x hx => by cases hx), s1⟩ (fun i σ HH hi h => ?_) (fun σ HH h => ?_)
  rotate_left 1
  · obtain ⟨u4, u5, u6, xs, rfl, g1, g2, g3, g4⟩ := h
    refine ⟨_, rfl, q la xs HH fl g1 (Nat.le_trans g2 ?_) g3 g4⟩
    rw [hl]; split <;> split <;> omega
  obtain ⟨u4, u5, u6, xs, rfl, g1, g2, g3, g4⟩ := h
  have hi40 : i < 39 := by
    rw [hl] at hi
    revert hi
    split <;> split <;> omega
  refine ⟨_, rfl, _, rfl, sa, ns, _, rfl, g4.seq hS, h63, by omega, by omega, fun b o hbn hb => ?_⟩
  have sbn := same_new hbn o
  have nlb : la ≠ b := ne_of_none g1 hbn
  have fb : H b = none := g4.free hbn
  have nxb : ∀ x ∈ xs, x ≠ .ref b := fun x hx z => by
    rcases (g3 x hx).1 with h | h | h | ⟨p, z', h1, h2, h3⟩ | ⟨p, ys, h1, h2, h3, h4⟩ | ⟨p, q, z', h1, h2, h3, h4⟩
    · rw [z] at h; cases h
    · rw [z] at h; cases h
    · rw [z] at h; cases h
    · rw [z] at h1; cases h1; rw [hbn] at h2; cases h2
    · rw [z] at h1; cases h1; rw [hbn] at h2; cases h2
    · rw [z] at h1; cases h1; rw [hbn] at h2; cases h2
  generalize upd HH b o = H2 at *
  refine ⟨_, rfl, b, _, 5, rfl, hb, by decide, by decide, by decide, fun r H3 r0 r1 hb3 sb3 => ⟨_, _, rfl, rfl, _, rfl, by omega, by omega, ?_⟩⟩
  have s3 : Same HH H3 := sbn.stepB sb3 hbn
  refine for_range (fun k σ HF => ∃ u6 ys, σ = [some (.ref sa), some (.ref oa), some (.int t), some (.ref la), some (.int (2 + (i : Int))), some (.ref b), u6] ∧ HF la = some (.lst ys) ∧ ys.length ≤ 5 * i + k ∧ (∀ x ∈ ys, Tg HF x ∧ x ≠ .ref b ∧ x ≠ .ref la) ∧ BagAt HF b (1 + 12 * k) ∧ Same H HF) ⟨_, xs, rfl, s3 _ _ g1, g2, fun x hx => ⟨(g3 x hx).1.same s3, nxb x hx, (g3 x hx).2⟩, hb3, g4.trans s3⟩ (fun k σ HF hk h => ?_) (fun σ HF h => ?_)
  · obtain ⟨u6, ys, rfl, k1, k2, k3, k4, k5⟩ := h
    have hk5 : k < 5 := by omega
    refine ⟨_, rfl, .inl ⟨rfl, _, SqL.of k1⟩, _, rfl, _, rfl, _, rfl, _, rfl, b, oa, la, _, n, a, t, ys, rfl, k4, by omega, nlb, k5 _ _ ho, n1, n30, k1, by omega, k3, fun v H' tv nvb nvl hb' sb' => ?_⟩
    have k1' := sb' _ _ k1 nlb
    refine ⟨la, _, _, rfl, rfl, k1', small1000 (by omega), _, ys ++ [v], rfl, upd_same, by rw [List.length_append]; show _ + 1 ≤ _; omega, fun x hx => ?_, (hb'.sameB SameB.upd nlb.symm).mono (by omega), (k5.stepB sb' fb).stepB SameB.upd fl⟩
    rcases List.mem_append.mp hx with h | h
    · exact ⟨((k3 x h).1.bag (k3 x h).2.1 k4 sb').updL (k3 x h).2.2 k1', (k3 x h).2⟩
    · have : x = v := by simpa using h
      rw [this]
      exact ⟨tv.updL nvl k1', nvb, nvl⟩
  · obtain ⟨u6, ys, rfl, k1, k2, k3, k4, k5⟩ := h
    exact ⟨_, _, _, ys, rfl, k1, by omega, fun x hx => ⟨(k3 x hx).1, (k3 x hx).2.2⟩, k5⟩
end
end K15

set_option Elab.async false
set_option linter.all false
set_option maxRecDepth 100000
set_option pp.maxSteps 300
set_option maxHeartbeats 2000000
namespace K15
open PySem L2
abbrev s_l_words : Stmt := top 38
abbrev p_l_words : List Str := ["_law_answers_here", "_law_turn", "_law_address"]
theorem sc_l_words : FnScope ["_law_answers_here", "_law_turn", "_law_address", "_law_some", "_law_answer_here"] p_l_words (defScope s_l_words) := ⟨rfl, rfl, rfl, by decide +kernel, rfl, by decide +kernel, by decide +kernel⟩
def spWordsL : Sp := fun vs H Q _ => ∃ (la : Addr) (xs : List V) (os : List (Option (Int × Int × Int))) (t x : Int), vs = [.ref la, .int t, .int x] ∧ H la = some (.lst xs) ∧ Paired (AnsAt H) xs os ∧ xs.length ≤ 900 ∧ ∀ l H', H l = none → H' l = some (.lst (iv (wsOf t x os))) → Same H H' → Q (.ref l) H'
section
variable {P : Program} {w : World} {K : PySem.W.Frag} {mg : Str → Option Value} {base : Heap}
theorem ok_words (c : Code K mg "_law_words" s_l_words p_l_words) (T : Nm mg) (g_l_is_frame : Good P w K mg base "_law_is_frame" 2 p_l_is_frame spIsFrameO) : Good P w K mg base "_law_words" 3 p_l_words spWordsL := by
  refine c.good sc_l_words (fun vs H Q E h => ?_) (fun f cdv A outer s H vs Q E hr h => ?_)
  · obtain ⟨la, xs, os, t, x, rfl, _⟩ := h
    rfl
  obtain ⟨la, xs, os, t, x, rfl, hla, po, lx, q⟩ := h
  refine ⟨_, (pss_cons (ps_set (i := 3) sc_l_words.nd rfl (Or.inl rfl) (pe_lstS pa_nil))
  (pss_cons (ps_for PassesOwn.never rfl (pi_list (pv 0)) (pg_name (i := 4) sc_l_words.nd rfl (Or.inl rfl))
  (pss_one (ps_if (PW.pt (pw_and (pt_val (pcall g_l_is_frame hr (pa_cons (pv 4) pa_nil))) (pw_and (pt_cmpR op_eq (pe_ix ix_tup (pv 4) pe_int (fun _ _ => rfl)) (pv 2) (nomark _)) (pw_and (pt_cmpR op_eq (pe_ix ix_tup (pv 4) pe_int (fun _ _ => rfl)) (pv 1) (nomark _)) (pw_and1 (pt_cmpR op_notIn_seq (pe_ix ix_tup (pv 4) pe_int (fun _ _ => rfl)) (pv 3) (by with_unfolding_all rfl))))))) (pss_one (ps_expr (pe_bm PySem.F.plainAttrs_list PySem.F.slot_list_append PySem.F.type_list_append mt_append (pv 3) (pa_cons (pe_ix ix_tup (pv 4) pe_int (fun _ _ => rfl)) pa_nil)))) pss_nil)))
  (pss_one (ps_ret (pv 3))))), ?_⟩
  refine ⟨leSize (by show 0 ≤ 1000; decide), fun l H1 fl el s1 => ?_⟩
  refine ⟨_, rfl, la, rfl, ⟨_, SqL.of (s1 _ _ hla)⟩, ?_⟩
  refine for_list (xs := xs) (fun i σ HH => ∃ u, σ = [some (.ref la), some (.int t), some (.int x), some (.ref l), u] ∧ HH l = some (.lst (iv (wsOf t x (os.take i)))) ∧ Same H HH) ⟨_, rfl, el, s1⟩ (fun i σ HH _ h => ?_) (fun i v σ HH hv h => ?_) (fun σ HH h => ?_)
  · obtain ⟨u, rfl, k1, k2⟩ := h
    exact SqL.of (k2 _ _ hla)
  · obtain ⟨u, rfl, k1, k2⟩ := h
    obtain ⟨o, ho, ans⟩ := paired_get po hv
    have hi : i < xs.length := (List.getElem?_eq_some_iff.mp hv).1
    have ws1 := wsOf_snoc t x (os.take i) o
    rw [← take_snoc ho] at ws1
    have wl := wsOf_len t x (os.take i)
    rw [List.length_take] at wl
    refine ⟨_, rfl, v, o, rfl, ans.same k2, fun H2 s2 => ⟨_, rfl, ?_⟩⟩
    have k3 := k2.trans s2
    have e2 := s2 _ _ k1
    cases o with
    | none => exact iteF ⟨_, rfl, by rw [ws1]; exact e2, k3⟩
    | some y =>
      obtain ⟨p, c', rfl, hp⟩ := (ans.same k3).some
      have eqI : ∀ {x y : Int}, decide (V.int x = V.int y) = true → x = y := fun h => by
        have := of_decide_eq_true h
        injection this
      have neI : ∀ {x y : Int}, decide (V.int x = V.int y) = false → x ≠ y := fun h z => by
        have := of_decide_eq_false h
        exact this (by rw [z])
      have no : ¬ (y.2.1 = t ∧ y.1 = x ∧ y.2.2 ∉ wsOf t x (os.take i)) → wsOf t x (os.take (i + 1)) = wsOf t x (os.take i) := fun h => by
        rw [ws1]
        exact if_neg h
      refine iteT ⟨_, rfl, p, _, _, _, rfl, rfl, SqT.of hp, rfl, _, rfl, rfl, _, rfl, ite3 (fun h1 => ?_) (fun h1 => ⟨_, rfl, by rw [no fun z => neI h1 z.2.1]; exact e2, k3⟩)⟩
      refine ⟨_, rfl, p, _, _, _, rfl, rfl, SqT.of hp, rfl, _, rfl, rfl, _, rfl, ite3 (fun h2 => ?_) (fun h2 => ⟨_, rfl, by rw [no fun z => neI h2 z.1]; exact e2, k3⟩)⟩
      refine ⟨_, rfl, p, _, _, _, rfl, rfl, SqT.of hp, rfl, _, rfl, l, _, rfl, .inl (SqL.of e2), rfl, iv_flat _, _, rfl, ?_⟩
      rw [inV_iv]
      by_cases hin : y.2.2 ∈ wsOf t x (os.take i)
      · rw [decide_eq_true hin]
        exact iteF ⟨_, rfl, by rw [no fun z => z.2.2 hin]; exact e2, k3⟩
      · rw [decide_eq_false hin]
        refine iteT ⟨_, rfl, .inl ⟨rfl, _, SqL.of e2⟩, _, rfl, p, _, _, _, rfl, rfl, SqT.of hp, rfl, l, _, _, rfl, rfl, e2, small1000 (by rw [iv_len]; omega), _, rfl, ?_, k3.stepB SameB.upd fl⟩
        have : wsOf t x (os.take (i + 1)) = wsOf t x (os.take i) ++ [y.2.2] := by
          rw [ws1]
          exact if_pos ⟨eqI h2, eqI h1, hin⟩
        rw [upd_same, this, iv_app]
        rfl
  obtain ⟨u, rfl, k1, k2⟩ := h
  rw [paired_len po, List.take_length] at k1
  exact ⟨_, rfl, q l HH fl k1 k2⟩
end
end K15

set_option Elab.async false
set_option linter.all false
set_option maxRecDepth 100000
set_option pp.maxSteps 300
set_option maxHeartbeats 2000000
namespace K15
open PySem L2
abbrev s_l_due : Stmt := top 39
abbrev p_l_due : List Str := ["_law_addresses_here", "_law_beats", "_law_words_here"]
theorem sc_l_due : FnScope ["_law_addresses_here", "_law_beats", "_law_words_here", "_law_found", "_law_address"] p_l_due (defScope s_l_due) := ⟨rfl, rfl, rfl, by decide +kernel, rfl, by decide +kernel, by decide +kernel⟩
/-- how each address stands behind so many beats with nothing handed in -/
def sB (b : Nat) : S1 := ⟨none, b, false, decide (3 ≤ b)⟩
theorem stepE_len1 (b : Nat) (ws : List Int) (x : Int) (h : ws.length = 1) : stepE (sB b) ws x = if 2 < b then [(("back" : Str), x)] else [] := by
  obtain ⟨w, rfl⟩ := List.length_eq_one_iff.mp h
  show (if decide (3 ≤ b) = true then _ else _) = _
  by_cases h2 : 2 < b
  · rw [if_pos h2, if_pos (decide_eq_true (by omega))]
  · rw [if_neg h2, if_neg (by rw [decide_eq_false (by omega)]; decide)]
theorem stepE_lenN (b : Nat) (ws : List Int) (x : Int) (h : ws.length ≠ 1) : stepE (sB b) ws x = (if 1 < ws.length then [(("two" : Str), x)] else []) ++ (if b = 2 then [(("lost" : Str), x)] else []) := by
  rw [(step2 (sB b) x h).2]
  congr 1
  · unfold twoE
    by_cases h1 : 1 < ws.length
    · rw [if_pos h1, if_pos ⟨decide_eq_true h1, rfl⟩]
    · rw [if_neg h1, if_neg fun z => h1 (of_decide_eq_true z.1)]
  · unfold lostE
    by_cases h2 : b = 2
    · rw [if_pos h2, if_pos ⟨by show 3 ≤ b + 1; omega, decide_eq_false (by omega)⟩]
    · rw [if_neg h2, if_neg]
      rintro ⟨z1, z2⟩
      have z1 : 3 ≤ b + 1 := z1
      have z2 := of_decide_eq_false z2
      omega
def spDueL : Sp := fun vs H Q _ => ∃ (oa wd : Addr) (n bt : Nat) (a : Nat → Int) (qa : Nat → Addr) (ws : Nat → List Int), vs = [.ref oa, .int (bt : Int), .ref wd] ∧ H oa = some (.tup ((List.range n).map fun j => V.int (a j))) ∧ Apart n a ∧ n ≤ 30 ∧ H wd = some (.dK (dk n a fun j => .ref (qa j))) ∧ (∀ j, j < n → H (qa j) = some (.lst (iv (ws j)))) ∧ ∀ l es H', H l = none → H' l = some (.lst es) → Paired (EvAt H') es (evsTo n a (fun _ => sB bt) ws) → Same H H' → Q (.ref l) H'
section
variable {P : Program} {w : World} {K : PySem.W.Frag} {mg : Str → Option Value} {base : Heap}
theorem ok_dueL (c : Code K mg "_law_due" s_l_due p_l_due) (T : Nm mg) : Good P w K mg base "_law_due" 1 p_l_due spDueL := by
  refine c.good sc_l_due (fun vs H Q E h => ?_) (fun f cdv A outer s H vs Q E hr h => ?_)
  · obtain ⟨oa, wd, n, bt, a, qa, ws, rfl, _⟩ := h
    rfl
  obtain ⟨oa, wd, n, bt, a, qa, ws, rfl, ho, ap, few, hwd, hqa, q⟩ := h
  refine ⟨_, (pss_cons (ps_set (i := 3) sc_l_due.nd rfl (Or.inl rfl) (pe_lstS pa_nil))
  (pss_cons (ps_for PassesOwn.never rfl (pi_tup (pv 0)) (pg_name (i := 4) sc_l_due.nd rfl (Or.inl rfl))
  (pss_cons (ps_if (pt_cmpR op_gt (pe_callB call_len_seq rfl T.len bt_len (pa_cons (pe_dget (hu_of hr) (pv 2) (pv 4) (fun _ _ => rfl)) pa_nil)) pe_int (nomark _)) (pss_one (ps_expr (pe_bm PySem.F.plainAttrs_list PySem.F.slot_list_append PySem.F.type_list_append mt_append (pv 3) (pa_cons (pe_tup (pa_cons pe_str (pa_cons (pv 4) pa_nil))) pa_nil)))) pss_nil)
  (pss_cons (ps_if (PW.pt (pw_and (pt_cmpR op_eq (pv 1) pe_int (nomark _)) (pw_and1 (pt_cmpR op_ne (pe_callB call_len_seq rfl T.len bt_len (pa_cons (pe_dget (hu_of hr) (pv 2) (pv 4) (fun _ _ => rfl)) pa_nil)) pe_int (nomark _))))) (pss_one (ps_expr (pe_bm PySem.F.plainAttrs_list PySem.F.slot_list_append PySem.F.type_list_append mt_append (pv 3) (pa_cons (pe_tup (pa_cons pe_str (pa_cons (pv 4) pa_nil))) pa_nil)))) pss_nil)
  (pss_one (ps_if (PW.pt (pw_and (pt_cmpR op_gt (pv 1) pe_int (nomark _)) (pw_and1 (pt_cmpR op_eq (pe_callB call_len_seq rfl T.len bt_len (pa_cons (pe_dget (hu_of hr) (pv 2) (pv 4) (fun _ _ => rfl)) pa_nil)) pe_int (nomark _))))) (pss_one (ps_expr (pe_bm PySem.F.plainAttrs_list PySem.F.slot_list_append PySem.F.type_list_append mt_append (pv 3) (pa_cons (pe_tup (pa_cons pe_str (pa_cons (pv 4) pa_nil))) pa_nil)))) pss_nil)))))
  (pss_one (ps_ret (pv 3))))), ?_⟩
  refine ⟨leSize (by show 0 ≤ 1000; decide), fun l H1 fl el s1 => ?_⟩
  refine ⟨_, rfl, oa, rfl, ⟨_, SqT.of (s1 _ _ ho)⟩, ?_⟩
  refine for_tup (xs := (List.range n).map fun j => V.int (a j)) (fun i σ HH => ∃ (u : Option V) (es : List V), σ = [some (.ref oa), some (.int (bt : Int)), some (.ref wd), some (.ref l), u] ∧ HH l = some (.lst es) ∧ Paired (EvAt HH) es (evsTo i a (fun _ => sB bt) ws) ∧ Same H HH) ⟨_, [], rfl, el, .nil, s1⟩ (fun i σ HH _ h => ?_) (fun i x σ HH hx h => ?_) (fun σ HH h => ?_)
  · obtain ⟨u, es, rfl, g1, g2, g3⟩ := h
    exact SqT.of (g3 _ _ ho)
  · obtain ⟨u, es, rfl, g1, g2, g3⟩ := h
    obtain ⟨hi, rfl⟩ := rg_get hx
    have le1 := paired_len g2
    have le2 := evsTo_len i a (fun _ => sB bt) ws
    have app : ∀ (HA : Hp) (esA : List V) (evA : List Ev) (word : Str) (R : VK), HA l = some (.lst esA) → Paired (EvAt HA) esA evA → esA.length ≤ 100 → (∀ HB esB, HB l = some (.lst esB) → Paired (EvAt HB) esB (evA ++ [(word, a i)]) → esB.length = esA.length + 1 → SameB l HA HB → R .non HB) → ∀ t, HA t = none → rAppend (V.ref l) [V.ref t] (upd HA t (.tup [.str word, .int (a i)])) R := fun HA esA evA word R h1 h2 h3 k t ht => by
      have st := same_new ht (.tup [.str word, .int (a i)])
      have et : (upd HA t (.tup [.str word, .int (a i)])) t = some (.tup [.str word, .int (a i)]) := upd_same
      have p2 := Evs.same h2 st
      have e2 := st _ _ h1
      generalize upd HA t (.tup [.str word, .int (a i)]) = HB at *
      refine ⟨l, _, _, rfl, rfl, e2, small1000 (by omega), k _ _ upd_same ?_ (by rw [List.length_append]; rfl) ((SameB.of st).trans SameB.upd)⟩
      refine Paired.mapP (Paired.app p2 (.cons ⟨t, rfl, et⟩ .nil)) fun v e hv => ?_
      obtain ⟨t', rfl, ht'⟩ := hv
      exact ⟨t', rfl, by rw [upd_ne (fun z => by rw [z, e2] at ht'; cases ht')]; exact ht'⟩
    have dg : ∀ HF, Same H HF → DGet HF wd (.int (a i)) (some (.ref (qa i))) := fun HF k => .inl ⟨_, .inl (a i), .inl (k _ _ hwd), rfl, (dk_val (v := fun j => .ref (qa j)) ap hi).symm⟩
    have eq := hqa i hi
    have sc := evsTo_succ i a (fun _ => sB bt) ws
    have sc' : evsTo (i + 1) a (fun _ => sB bt) ws = evsTo i a (fun _ => sB bt) ws ++ stepE (sB bt) (ws i) (a i) := sc
    have eqI : ∀ {x y : Int}, decide (V.int x = V.int y) = true → x = y := fun h => by
      have := of_decide_eq_true h
      injection this
    have neI : ∀ {x y : Int}, decide (V.int x = V.int y) = false → x ≠ y := fun h z => by
      have := of_decide_eq_false h
      exact this (by rw [z])
    have ivl := iv_len (ws i)
    refine gset ?_
    dsimp only
    show tSeq (tIfS _ _ _) _ _ _ _
    refine seq_split (fun σ HF => ∃ es', σ = [some (.ref oa), some (.int (bt : Int)), some (.ref wd), some (.ref l), some (.int (a i))] ∧ HF l = some (.lst es') ∧ Paired (EvAt HF) es' (evsTo i a (fun _ => sB bt) ws ++ (if 1 < (ws i).length then [((("two" : Str)), a i)] else [])) ∧ es'.length ≤ es.length + 1 ∧ Same H HF) (fun σ HF h => ?_) (fun D' hn => ?_)
    rotate_left 1
    · refine ⟨_, rfl, _, rfl, wd, _, rfl, dg HH g3, qa i, _, rfl, .inl (SqL.of (g3 _ _ eq)), _, _, rfl, rfl, _, rfl, ite3 (fun h1 => ?_) (fun h1 => ?_)⟩
      · have h1 := of_decide_eq_true h1
        refine ⟨_, rfl, .inl ⟨rfl, _, SqL.of g1⟩, _, rfl, leSize (by show 2 ≤ 1000; decide), ?_⟩
        refine app HH es _ "two" (fun _ HB => D'.nx [some (.ref oa), some (.int (bt : Int)), some (.ref wd), some (.ref l), some (.int (a i))] HB) g1 g2 (by omega) (fun HB esB b1 b2 b3 b4 => hn _ _ ⟨esB, rfl, b1, ?_, by omega, g3.stepB b4 fl⟩)
        rw [if_pos (by omega)]
        exact b2
      · have h1 := of_decide_eq_false h1
        refine hn _ _ ⟨es, rfl, g1, ?_, by omega, g3⟩
        rw [if_neg (by omega), List.append_nil]
        exact g2
    obtain ⟨es', rfl, k1, k2, k3, k4⟩ := h
    have fin : ∀ (HZ : Hp) (ez : List V), HZ l = some (.lst ez) → Paired (EvAt HZ) ez (evsTo i a (fun _ => sB bt) ws ++ stepE (sB bt) (ws i) (a i)) → Same H HZ → ∃ (u : Option V) (es : List V), ([some (V.ref oa), some (V.int (bt : Int)), some (V.ref wd), some (V.ref l), some (V.int (a i))] : St) = [some (.ref oa), some (.int (bt : Int)), some (.ref wd), some (.ref l), u] ∧ HZ l = some (.lst es) ∧ Paired (EvAt HZ) es (evsTo (i + 1) a (fun _ => sB bt) ws) ∧ Same H HZ := fun HZ ez z1 z2 z3 => ⟨_, ez, rfl, z1, by rw [sc']; exact z2, z3⟩
    by_cases hl1 : (ws i).length = 1
    · rw [if_neg (by omega), List.append_nil] at k2
      rw [stepE_len1 bt _ _ hl1] at fin
      have nomore : ¬ 2 < bt → ∃ (u : Option V) (es : List V), ([some (V.ref oa), some (V.int (bt : Int)), some (V.ref wd), some (V.ref l), some (V.int (a i))] : St) = [some (.ref oa), some (.int (bt : Int)), some (.ref wd), some (.ref l), u] ∧ HF l = some (.lst es) ∧ Paired (EvAt HF) es (evsTo (i + 1) a (fun _ => sB bt) ws) ∧ Same H HF := fun h => fin HF es' k1 (by rw [if_neg h, List.append_nil]; exact k2) k4
      refine ⟨_, rfl, rfl, _, rfl, ite3 (fun h2 => ?_) (fun h2 => ?_)⟩
      · have h2 := eqI h2
        refine ⟨_, rfl, _, rfl, wd, _, rfl, dg HF k4, qa i, _, rfl, .inl (SqL.of (k4 _ _ eq)), rfl, _, rfl, ite3 (fun h3 => ?_) (fun h3 => ?_)⟩
        · have h3 : (!decide (V.int ((iv (ws i)).length : Int) = V.int 1)) = true := h3
          rw [ivl, hl1] at h3
          cases h3
        refine ⟨_, rfl, _, _, rfl, rfl, _, rfl, ite3 (fun h4 => ?_) (fun _ => nomore (by omega))⟩
        have h4 := of_decide_eq_true h4
        omega
      · refine ⟨_, rfl, _, _, rfl, rfl, _, rfl, ite3 (fun h4 => ?_) (fun h4 => nomore (by have h4 := of_decide_eq_false h4; omega))⟩
        have h4 := of_decide_eq_true h4
        refine ⟨_, rfl, _, rfl, wd, _, rfl, dg HF k4, qa i, _, rfl, .inl (SqL.of (k4 _ _ eq)), rfl, _, rfl, ite3 (fun _ => ?_) (fun h5 => ?_)⟩
        · refine ⟨_, rfl, .inl ⟨rfl, _, SqL.of k1⟩, _, rfl, leSize (by show 2 ≤ 1000; decide), ?_⟩
          refine app HF es' _ "back" (fun _ HZ => ∃ (u : Option V) (es : List V), ([some (V.ref oa), some (V.int (bt : Int)), some (V.ref wd), some (V.ref l), some (V.int (a i))] : St) = [some (.ref oa), some (.int (bt : Int)), some (.ref wd), some (.ref l), u] ∧ HZ l = some (.lst es) ∧ Paired (EvAt HZ) es (evsTo (i + 1) a (fun _ => sB bt) ws) ∧ Same H HZ) k1 k2 (by omega) (fun HB esB b1 b2 b3 b4 => fin HB esB b1 ?_ (k4.stepB b4 fl))
          rw [if_pos (by omega)]
          exact b2
        · have h5 : decide (V.int ((iv (ws i)).length : Int) = V.int 1) = false := h5
          rw [ivl, hl1] at h5
          cases h5
    · rw [stepE_lenN bt _ _ hl1] at fin
      have ne1 : ∀ b : Bool, decide (V.int ((iv (ws i)).length : Int) = V.int 1) = b → b = false := fun b h => by
        rw [← h]
        exact decide_eq_false fun z => by injection z with z; omega
      refine seq_split (fun σ HG => ∃ e2, σ = [some (.ref oa), some (.int (bt : Int)), some (.ref wd), some (.ref l), some (.int (a i))] ∧ HG l = some (.lst e2) ∧ Paired (EvAt HG) e2 (evsTo i a (fun _ => sB bt) ws ++ ((if 1 < (ws i).length then [((("two" : Str)), a i)] else []) ++ (if bt = 2 then [((("lost" : Str)), a i)] else []))) ∧ Same H HG) (fun σ HG h => ?_) (fun D' hn => ?_)
      · obtain ⟨e2, rfl, j1, j2, j3⟩ := h
        have done := fin HG e2 j1 j2 j3
        refine ⟨_, rfl, _, _, rfl, rfl, _, rfl, ite3 (fun _ => ?_) (fun _ => done)⟩
        refine ⟨_, rfl, _, rfl, wd, _, rfl, dg HG j3, qa i, _, rfl, .inl (SqL.of (j3 _ _ eq)), rfl, _, rfl, ite3 (fun h5 => ?_) (fun _ => done)⟩
        have := ne1 _ h5
        cases this
      refine ⟨_, rfl, rfl, _, rfl, ite3 (fun h2 => ?_) (fun h2 => ?_)⟩
      · have h2 := eqI h2
        refine ⟨_, rfl, _, rfl, wd, _, rfl, dg HF k4, qa i, _, rfl, .inl (SqL.of (k4 _ _ eq)), rfl, _, rfl, ite3 (fun _ => ?_) (fun h3 => ?_)⟩
        · refine ⟨_, rfl, .inl ⟨rfl, _, SqL.of k1⟩, _, rfl, leSize (by show 2 ≤ 1000; decide), ?_⟩
          refine app HF es' _ "lost" (fun _ HB => D'.nx [some (.ref oa), some (.int (bt : Int)), some (.ref wd), some (.ref l), some (.int (a i))] HB) k1 k2 (by omega) (fun HB esB b1 b2 b3 b4 => hn _ _ ⟨esB, rfl, b1, ?_, k4.stepB b4 fl⟩)
          rw [if_pos (show bt = 2 by omega), ← List.append_assoc]
          exact b2
        · have h3 : (!decide (V.int ((iv (ws i)).length : Int) = V.int 1)) = false := h3
          rw [ne1 _ rfl] at h3
          cases h3
      · have h2 := neI h2
        refine hn _ _ ⟨es', rfl, k1, ?_, k4⟩
        rw [if_neg (show ¬ bt = 2 by omega), List.append_nil]
        exact k2
  · obtain ⟨u, es, rfl, g1, g2, g3⟩ := h
    rw [List.length_map, List.length_range] at g2
    exact ⟨_, rfl, q l es HH fl g1 g2 g3⟩
end
end K15

set_option Elab.async false
set_option linter.all false
set_option maxRecDepth 100000
set_option pp.maxSteps 300
set_option maxHeartbeats 2000000
namespace K15
open PySem L2
abbrev s_l_ahead : Stmt := top 40
abbrev p_l_ahead : List Str := ["_law_talk", "_law_addresses_here", "_law_beats"]
theorem sc_l_ahead : FnScope ["_law_talk", "_law_addresses_here", "_law_beats", "_law_address", "_law_beat"] p_l_ahead (defScope s_l_ahead) := ⟨rfl, rfl, rfl, by decide +kernel, rfl, by decide +kernel, by decide +kernel⟩
abbrev s_l_refused : Stmt := top 41
abbrev p_l_refused : List Str := ["_law_talk", "_law_thing"]
theorem sc_l_refused : FnScope ["_law_talk", "_law_thing", "_law_e"] p_l_refused (defScope s_l_refused) := ⟨rfl, rfl, rfl, by decide +kernel, rfl, by decide +kernel, by decide +kernel⟩
theorem TalkAt.congr {C : Addr} {H : Hp} {p d1 d2 d3 d4 : Addr} {n : Nat} {a : Nat → Int} {b : Nat} {s s' : Nat → S1} (R : TalkAt C H p d1 d2 d3 d4 n a b s) (h : ∀ j, j < n → s j = s' j) : TalkAt C H p d1 d2 d3 d4 n a b s' := by
  have f : ∀ g : S1 → V, dk n a (fun j => g (s' j)) = dk n a (fun j => g (s j)) := fun g => dk_congr fun j hj => by rw [h j hj]
  refine ⟨R.ins, ?_, ?_, ?_, ?_, R.ap, R.few, R.n12, R.n13, R.n14, R.n23, R.n24, R.n34⟩
  · rw [R.wd]; exact congrArg (fun x => some (HO.dK x)) (f fun z => wV z.w).symm
  · rw [R.ms]; exact congrArg (fun x => some (HO.dK x)) (f fun z => .int (z.m : Int)).symm
  · rw [R.db]; exact congrArg (fun x => some (HO.dK x)) (f fun z => .bl z.d).symm
  · rw [R.gn]; exact congrArg (fun x => some (HO.dK x)) (f fun z => .bl z.g).symm
theorem sB_step (b : Nat) : stepS (sB b) [] = sB (b + 1) := by
  show (⟨none, b + 1, false, decide (3 ≤ b) || decide (3 ≤ b + 1)⟩ : S1) = ⟨none, b + 1, false, decide (3 ≤ b + 1)⟩
  congr 1
  by_cases h : 3 ≤ b
  · rw [decide_eq_true h, decide_eq_true (show 3 ≤ b + 1 by omega)]; rfl
  · rw [decide_eq_false h, Bool.false_or]
theorem sel_nil {n : Nat} {a : Nat → Int} {f : Nat → Bool} (h : ∀ j, j < n → f j = false) : sel n a f = [] := by
  induction n with
  | zero => rfl
  | succ i ih =>
    rw [sel_succ, ih (fun j hj => h j (by omega)), h i (by omega)]
    rfl
theorem heard_sB (n : Nat) (a : Nat → Int) (b : Nat) : heardL n a b (fun _ => sB b) = [] := by
  unfold heardL
  split
  · rfl
  · rename_i h
    exact sel_nil fun j _ => decide_eq_false h
theorem evs_okB (n : Nat) (a : Nat → Int) (s : Nat → S1) (ws : Nat → List Int) : ∀ e ∈ evsTo n a s ws, PyData.strOk e.1 = true := fun e he => by
  have hb : PyData.strOk "back" = true := by decide +kernel
  have ht : PyData.strOk "two" = true := by decide +kernel
  have hl : PyData.strOk "lost" = true := by decide +kernel
  obtain ⟨j, _, he⟩ := List.mem_flatMap.mp he
  by_cases h1 : (ws j).length = 1
  · obtain ⟨w, hw⟩ := List.length_eq_one_iff.mp h1
    rw [hw] at he
    have he : e ∈ hearE (s j) (a j) := he
    unfold hearE at he
    split at he
    · have : e = (((("back" : Str)), a j) : Ev) := by simpa using he
      rw [this]; exact hb
    · cases he
  · rw [(step2 (s j) (a j) h1).2] at he
    rcases List.mem_append.mp he with h | h
    · unfold twoE at h
      split at h
      · have : e = (((("two" : Str)), a j) : Ev) := by simpa using h
        rw [this]; exact ht
      · cases h
    · unfold lostE at h
      split at h
      · have : e = (((("lost" : Str)), a j) : Ev) := by simpa using h
        rw [this]; exact hl
      · cases h
theorem mem5' {x p d1 d2 d3 d4 : Addr} (h : x ∉ [d1, d2, d3, d4] ∧ x ≠ p) : x ∉ [p, d1, d2, d3, d4] := fun z => (List.mem_cons.mp z).elim h.2 h.1
def spAheadL (C : Addr) : Sp := fun vs H Q _ => ∃ (p d1 d2 d3 d4 oa : Addr) (n bt : Nat) (a : Nat → Int), vs = [.ref p, .ref oa, .int (bt : Int)] ∧ TalkAt C H p d1 d2 d3 d4 n a 0 s0 ∧ H oa = some (.tup ((List.range n).map fun j => V.int (a j))) ∧ bt ≤ 9 ∧ ∀ H', TalkAt C H' p d1 d2 d3 d4 n a bt (fun _ => sB bt) → SameT [p, d1, d2, d3, d4] H H' → Q (.bl true) H'
def spWordX (C ca : Addr) : Sp := fun vs H Q E => ∃ (p d1 d2 d3 d4 : Addr) (n : Nat) (a : Nat → Int) (b : Nat) (s : Nat → S1) (v : V), vs = [.ref p, v] ∧ TalkAt C H p d1 d2 d3 d4 n a b s ∧ Kn H v ∧ (∀ i, i < n → v = .int (a i) → Q (wV (s i).w) H) ∧ ((∀ i, i < n → v ≠ .int (a i)) → ∀ H', Same H H' → E (.ref ca) none H')
def spRefL (C : Addr) : Sp := fun vs H Q _ => ∃ (p d1 d2 d3 d4 : Addr) (n : Nat) (a : Nat → Int) (b : Nat) (s : Nat → S1) (v : V), vs = [.ref p, v] ∧ TalkAt C H p d1 d2 d3 d4 n a b s ∧ Kn H v ∧ (∀ i, i < n → v = .int (a i) → Q (.str "none") H) ∧ ((∀ i, i < n → v ≠ .int (a i)) → ∀ H', Same H H' → Q (.str "address") H')
section
variable {P : Program} {w : World} {K : PySem.W.Frag} {mg : Str → Option Value} {base : Heap} {C : Addr}
theorem ok_ahead (cc : Code K mg "_law_ahead" s_l_ahead p_l_ahead) (T : Tx K mg C) (g_m_word_of : GoodM P w K mg base C "word_of" 2 p_Talk_word_of (spWord C)) (g_m_turn : GoodM P w K mg base C "turn" 1 p_Talk_turn (spTurn C)) (g_m_beat : GoodM P w K mg base C "beat" 5 p_Talk_beat (spBeat C K)) (g_m_heard_now : GoodM P w K mg base C "heard_now" 1 p_Talk_heard_now (spHeard C)) (g_l_are_events : Good P w K mg base "_law_are_events" 2 p_l_are_events spAreEv) : Good P w K mg base "_law_ahead" 6 p_l_ahead (spAheadL C) := by
  refine cc.good sc_l_ahead (fun vs H Q E h => ?_) (fun f cdv A outer s H vs Q E hr h => ?_)
  · obtain ⟨p, d1, d2, d3, d4, oa, n, bt, a, rfl, _⟩ := h
    rfl
  obtain ⟨p, d1, d2, d3, d4, oa, n, bt, a, rfl, R, ho, b9, q⟩ := h
  refine ⟨_, (pss_cons (ps_for PassesOwn.never rfl (pi_tup (pv 1)) (pg_name (i := 3) sc_l_ahead.nd rfl (Or.inl rfl))
  (pss_one (ps_if (pt_cmpR op_notN (pmeth (pv 0) T.cl g_m_word_of hr (pa_cons (pv 3) pa_nil)) pe_non (nomark _)) (pss_one (ps_ret pe_bl)) pss_nil)))
  (pss_cons (ps_for PassesOwn.never rfl (pi_range1 rfl T.range (pa_cons (pv 2) pa_nil)) (pg_name (i := 4) sc_l_ahead.nd rfl (Or.inr rfl))
  (pss_cons (ps_if (pt_cmpR op_ne (pmeth0 (pv 0) T.cl g_m_turn hr) (pe_op op_mod (pv 4) pe_int) (nomark _)) (pss_one (ps_ret pe_bl)) pss_nil)
  (pss_one (ps_if (pt_not (pt_val (pcall g_l_are_events hr (pa_cons (pmeth (pv 0) T.cl g_m_beat hr (pa_cons (pe_lstS pa_nil) pa_nil)) (pa_cons (pe_comp (N' := ["_law_address", "_law_beat"]) rfl (CScope.of (src := [none, some 4]) (defScope s_l_ahead) ["_law_talk", "_law_addresses_here", "_law_beats", "_law_address", "_law_beat"] rfl rfl rfl (by decide +kernel) (by decide +kernel) (by decide +kernel) rfl (by decide +kernel)) (pi_tup (pv 1)) (fun _ _ _ _ => (pg_name (i := 0) (show List.Nodup (["_law_address", "_law_beat"] : List Str) by decide +kernel) rfl (Or.inl rfl))) (fun _ _ _ _ => (pf_one (pt_cmpR op_eq (pv 1) pe_int (nomark _)))) (fun _ _ _ _ => (pe_tup (pa_cons pe_str (pa_cons (pv 0) pa_nil))))) pa_nil))))) (pss_one (ps_ret pe_bl)) pss_nil))))
  (pss_one (ps_ret (pe_and (pe_cmpR op_eq (pmeth0 (pv 0) T.cl g_m_turn hr) (pe_op op_mod (pv 2) pe_int) (nomark _)) (pe_one (pe_cmpR (op_eqD hr.units) (pmeth0 (pv 0) T.cl g_m_heard_now hr) (pe_lstS pa_nil) (nomark _)))))))), ?_⟩
  obtain ⟨dx, hp⟩ := R.ins
  have few := R.few
  have lr : ∀ g : Nat → V, ((List.range n).map g).length = n := fun g => by rw [List.length_map, List.length_range]
  refine ⟨_, rfl, oa, rfl, ⟨_, SqT.of ho⟩, ?_⟩
  refine for_tup (xs := (List.range n).map fun j => V.int (a j)) (fun i σ HH => ∃ u, σ = [some (.ref p), some (.ref oa), some (.int (bt : Int)), u, none] ∧ HH = H) ⟨_, rfl, rfl⟩ (fun i σ HH _ h => ?_) (fun i x σ HH hx h => ?_) (fun σ HH h => ?_)
  · obtain ⟨u, rfl, rfl⟩ := h
    exact SqT.of ho
  · obtain ⟨u, rfl, rfl⟩ := h
    obtain ⟨hi, rfl⟩ := rg_get hx
    refine ⟨_, rfl, p, dx, _, rfl, hp, fno (by decide +kernel), _, rfl, p, d1, d2, d3, d4, n, a, 0, s0, i, rfl, hi, R, rfl, _, rfl, iteF ⟨_, rfl, rfl⟩⟩
  obtain ⟨u, rfl, rfl⟩ := h
  refine ⟨_, rfl, _, rfl, by omega, by omega, ?_⟩
  rw [Int.toNat_natCast]
  refine for_range (n := bt) (fun i σ HF => ∃ u u', σ = [some (.ref p), some (.ref oa), some (.int (bt : Int)), u, u'] ∧ TalkAt C HF p d1 d2 d3 d4 n a i (fun _ => sB i) ∧ SameT [p, d1, d2, d3, d4] HH HF) ⟨_, _, rfl, R, SameT.refl _ _⟩ (fun i σ HF hi h => ?_) (fun σ HF h => ?_)
  · obtain ⟨u1, u2, rfl, R1, k1⟩ := h
    obtain ⟨dx1, hp1⟩ := R1.ins
    have ho1 : HF oa = some (.tup ((List.range n).map fun j => V.int (a j))) := k1 _ _ ho (mem5' (R.nin (.inr (.inr ⟨_, ho⟩))))
    rw [Int.zero_add]
    refine ⟨_, rfl, p, dx1, _, rfl, hp1, fno (by decide +kernel), p, dx1, i, d1, d2, d3, d4, rfl, hp1, _, rfl, _, _, rfl, rfl, (by show (0 : Int) < 8; decide), rfl, _, rfl, ?_⟩
    refine iteNS (by simp) ?_
    refine ⟨_, rfl, p, dx1, _, rfl, hp1, fno (by decide +kernel), leSize (by show 0 ≤ 1000; decide), fun la H2 fla ela s2 => ?_⟩
    refine ⟨p, d1, d2, d3, d4, n, a, i, fun _ => sB i, la, [], [], rfl, R1.same s2, ela, .nil, Nat.zero_le _, fun le es H3 fle ele pev R3 k3 => ?_⟩
    have R3 : TalkAt C H3 p d1 d2 d3 d4 n a (i + 1) (fun _ => sB (i + 1)) := R3.congr fun j hj => by
      show (if j < n then stepS (sB i) [] else sB i) = sB (i + 1)
      rw [if_pos hj, sB_step]
    have pev : Paired (EvAt H3) es (evsTo n a (fun _ => sB i) fun _ => []) := pev
    have k13 : SameT [p, d1, d2, d3, d4] HH H3 := k1.trans ((SameT.of s2).trans k3)
    have ho3 : H3 oa = some (.tup ((List.range n).map fun j => V.int (a j))) := k13 _ _ ho (mem5' (R.nin (.inr (.inr ⟨_, ho⟩))))
    refine ⟨_, rfl, oa, rfl, ⟨_, SqT.of ho3⟩, fun lc hlc => ?_⟩
    refine comp_tup (xs := (List.range n).map fun j => V.int (a j)) (fun k σ HG => ∃ (u : Option V) (es' : List V), σ = [u, some (.int (i : Int))] ∧ HG lc = some (.lst es') ∧ Paired (EvAt HG) es' (evsTo k a (fun _ => sB i) fun _ => []) ∧ Same H3 HG) ⟨none, [], rfl, upd_same, .nil, same_new hlc _⟩ (fun k σ HG _ h => ?_) (fun k x σ HG hx h => ?_) (fun σ HG h => ?_)
    · obtain ⟨u, es', rfl, g1, g2, g3⟩ := h
      exact SqT.of (g3 _ _ ho3)
    · obtain ⟨u, es', rfl, g1, g2, g3⟩ := h
      obtain ⟨hk, rfl⟩ := rg_get hx
      have sc := evsTo_succ k a (fun _ => sB i) (fun _ => [])
      have sc' : evsTo (k + 1) a (fun _ => sB i) (fun _ => []) = evsTo k a (fun _ => sB i) (fun _ => []) ++ (if i = 2 then [(("lost" : Str), a k)] else []) := by
        rw [sc]
        show _ ++ stepE (sB i) [] (a k) = _
        rw [stepE_lenN i [] (a k) (by show 0 ≠ 1; decide)]
        rfl
      have l1 := paired_len g2
      have l2 := evsTo_len k a (fun _ => sB i) (fun _ => [])
      refine ⟨_, rfl, rfl, _, rfl, ite3 (fun h1 => ?_) (fun h1 => ?_)⟩
      · have h2 : i = 2 := by
          have := of_decide_eq_true h1
          injection this with z
          omega
        rw [if_pos h2] at sc'
        refine ⟨_, rfl, leSize (by show 2 ≤ 1000; decide), fun t ht => ?_⟩
        have st := same_new ht (.tup [.str "lost", .int (a k)])
        have et : (upd HG t (.tup [.str "lost", .int (a k)])) t = some (.tup [.str "lost", .int (a k)]) := upd_same
        generalize upd HG t (.tup [.str "lost", .int (a k)]) = HK at *
        have e1 := st _ _ g1
        refine ⟨_, e1, small1000 (by omega), _, es' ++ [.ref t], rfl, upd_same, ?_, (g3.trans st).stepB SameB.upd hlc⟩
        rw [sc']
        refine Paired.mapP (Paired.app (Evs.same g2 st) (.cons ⟨t, rfl, et⟩ .nil)) fun v e hv => ?_
        obtain ⟨t', rfl, ht'⟩ := hv
        exact ⟨t', rfl, by rw [upd_ne (fun z => by rw [z, e1] at ht'; cases ht')]; exact ht'⟩
      · have h2 : i ≠ 2 := fun z => by
          have := of_decide_eq_false h1
          exact this (by rw [z]; rfl)
        rw [if_neg h2, List.append_nil] at sc'
        exact ⟨_, es', rfl, g1, by rw [sc']; exact g2, g3⟩
    obtain ⟨u, es', rfl, g1, g2, g3⟩ := h
    rw [lr] at g2
    have l1 := evsTo_len n a (fun _ => sB i) (fun _ => [])
    refine ⟨le, lc, es, es', _, rfl, g3 _ _ ele, Evs.same pev g3, g1, g2, by omega, evs_okB _ _ _ _, fun HZ sZ => ⟨_, rfl, iteF ?_⟩⟩
    exact ⟨_, _, rfl, R3.same (g3.trans sZ), k13.trans (SameT.of (g3.trans sZ))⟩
  obtain ⟨u1, u2, rfl, R1, k1⟩ := h
  obtain ⟨dx1, hp1⟩ := R1.ins
  refine ⟨_, rfl, p, dx1, _, rfl, hp1, fno (by decide +kernel), p, dx1, bt, d1, d2, d3, d4, rfl, hp1, _, rfl, _, _, rfl, rfl, (by show (0 : Int) < 8; decide), rfl, ?_⟩
  rw [decide_eq_true rfl]
  refine ⟨_, rfl, iteT ⟨_, rfl, p, dx1, _, rfl, hp1, fno (by decide +kernel), p, d1, d2, d3, d4, n, a, bt, fun _ => sB bt, rfl, R1, fun l4 H4 f4 e4 s4 => ?_⟩⟩
  rw [heard_sB] at e4
  refine ⟨leSize (by show 0 ≤ 1000; decide), fun l5 H5 f5 e5 s5 => ⟨_, _, .lst (s5 _ _ e4) (ints_reps []), .lst e5 (ints_reps []), ints_shaped [], ints_shaped [], ?_⟩⟩
  rw [ints_eqv, decide_eq_true rfl]
  exact q _ (R1.same (s4.trans s5)) (k1.trans (SameT.of (s4.trans s5)))
theorem ok_wordX {hc c0 c1 c2 c3 c4 c5 c6 c7 c8 c9 c10 c11 c12 : Addr} (c : CodeM K C "word_of" "Talk.word_of" s_Talk_word_of p_Talk_word_of) (T : Tx K mg C) (XE : Er K mg hc c0 c1 c2 c3 c4 c5 c6 c7 c8 c9 c10 c11 c12) (k_NoAddress : Knd K hc c5 [c0, c1, c2, c3, c4, c5, c6, c7, c8, c9, c10, c11, c12] 5) (g_is_whole : Good P w K mg base "is_whole" 1 p_is_whole spWt) : GoodMX P w K mg base C "word_of" 2 p_Talk_word_of (spWordX C c5) := by
  refine c.goodX sc_Talk_word_of (fun vs H Q E h => ?_) (fun X f cdv A outer s H vs Q E eX hx hr h => ?_)
  · obtain ⟨p, d1, d2, d3, d4, n, a, b, s, v, rfl, _⟩ := h
    rfl
  subst eX
  obtain ⟨p, d1, d2, d3, d4, n, a, b, s, v, rfl, R, kn, q, qE⟩ := h
  refine ⟨_, (pss_cons (ps_if (PW.pt (pw_or (pt_not (pt_val (pcall g_is_whole hr (pa_cons (pv 1) pa_nil)))) (pw_or1 (pt_cmp (pc_dnotin (hu_of hr) (pv 1) (pe_fld (pv 0) rfl)))))) (pss_one (ps_raise rfl k_NoAddress.xc rfl XE.nNoAddress hx (pa_cons pe_str pa_nil))) pss_nil)
  (pss_one (ps_ret (pe_dget (hu_of hr) (pe_fld (pv 0) rfl) (pv 1) (fun _ _ => rfl))))), ?_⟩
  obtain ⟨dx, hp⟩ := R.ins
  refine ⟨_, rfl, v, rfl, kn, _, rfl, ?_⟩
  cases ew : isW v with
  | false =>
    have no : ∀ i, i < n → v ≠ .int (a i) := fun i _ z => by rw [z] at ew; cases ew
    exact iteT ⟨leSize (by show 1 ≤ 1000; decide), qE no _ (Same.refl _)⟩
  | true =>
  obtain ⟨x, rfl⟩ := isW_int ew
  by_cases hx' : ∃ i, i < n ∧ a i = x
  · obtain ⟨i, hi, rfl⟩ := hx'
    refine iteF ⟨_, rfl, _, rfl, p, C, dx, _, _, rfl, hp, T.cl, T.n_words, get_words b d1 d2 d3 d4, d1, _, rfl, R.gW hi, _, rfl, iteF ?_⟩
    exact ⟨_, rfl, p, C, dx, _, _, rfl, hp, T.cl, T.n_words, get_words b d1 d2 d3 d4, _, rfl, d1, _, rfl, R.gW hi, q i hi rfl⟩
  · have no : ∀ i, i < n → a i ≠ x := fun i hi e => hx' ⟨i, hi, e⟩
    refine iteF ⟨_, rfl, _, rfl, p, C, dx, _, _, rfl, hp, T.cl, T.n_words, get_words b d1 d2 d3 d4, d1, _, rfl, .inl ⟨_, .inl x, .inl R.wd, rfl, (dk_none no).symm⟩, _, rfl, iteT ?_⟩
    exact ⟨leSize (by show 1 ≤ 1000; decide), qE (fun i hi z => no i hi (V.int.inj z).symm) _ (Same.refl _)⟩
theorem ok_refusedL {hc c0 c1 c2 c3 c4 c5 c6 c7 c8 c9 c10 c11 c12 : Addr} (c : Code K mg "_law_refused" s_l_refused p_l_refused) (T : Tx K mg C) (XE : Er K mg hc c0 c1 c2 c3 c4 c5 c6 c7 c8 c9 c10 c11 c12) (k_NoAddress : Knd K hc c5 [c0, c1, c2, c3, c4, c5, c6, c7, c8, c9, c10, c11, c12] 5) (g_x_word_of : GoodMX P w K mg base C "word_of" 2 p_Talk_word_of (spWordX C c5)) (h_l_kind : GoodH P w K mg base "_law_kind" 1 p_l_kind (spKind K hc [c0, c1, c2, c3, c4, c5, c6, c7, c8, c9, c10, c11, c12])) : Good P w K mg base "_law_refused" 3 p_l_refused (spRefL C) := by
  refine c.good sc_l_refused (fun vs H Q E h => ?_) (fun f cdv A outer s H vs Q E hr h => ?_)
  · obtain ⟨p, d1, d2, d3, d4, n, a, b, s, v, rfl, _⟩ := h
    rfl
  obtain ⟨p, d1, d2, d3, d4, n, a, b, s, v, rfl, R, kn, q, qA⟩ := h
  refine ⟨_, (pss_cons (ps_try (i := 2) sc_l_refused.nd rfl rfl rfl rfl rfl XE.nHouseError XE.xHouseError (fun pn E1 EX hx => (pss_one (ps_expr (pmethX (pv 0) T.cl g_x_word_of hr hx (pa_cons (pv 1) pa_nil)))))
  (fun pn ea => (pss_one (ps_ret (pcallH h_l_kind (hr.inH _) (pa_cons (pv 2) pa_nil))))))
  (pss_one (ps_ret pe_str))), ?_⟩
  obtain ⟨dx, hp⟩ := R.ins
  refine ⟨_, rfl, p, dx, _, rfl, hp, fno (by decide +kernel), _, rfl, p, d1, d2, d3, d4, n, a, b, s, v, rfl, R, kn, (fun i hi e => q i hi e), (fun no H' s' => ?_)⟩
  refine ⟨_, rfl, k_NoAddress.xc, k_NoAddress.sub, fun e he => ?_⟩
  exact ⟨_, rfl, e, _, 5, rfl, upd_same, k_NoAddress, by decide, fun HB sB => qA no HB (s'.trans ((same_new he _).trans sB))⟩
end
end K15

set_option Elab.async false
set_option linter.all false
set_option maxRecDepth 100000
set_option pp.maxSteps 300
set_option maxHeartbeats 2000000
namespace K15
open PySem L2
abbrev s_l_told : Stmt := top 42
abbrev p_l_told : List Str := ["_law_talk", "_law_addresses_here", "_law_due_here"]
theorem sc_l_told : FnScope ["_law_talk", "_law_addresses_here", "_law_due_here", "_law_heard", "_law_lost", "_law_words_here", "_law_turn", "_law_address", "_law_told_here"] p_l_told (defScope s_l_told) := ⟨rfl, rfl, rfl, by decide +kernel, rfl, by decide +kernel, by decide +kernel⟩
abbrev s_l_standing : Stmt := top 43
abbrev p_l_standing : List Str := ["_law_addresses_here", "_law_beats", "_law_words_here"]
theorem sc_l_standing : FnScope ["_law_addresses_here", "_law_beats", "_law_words_here", "_law_heard", "_law_lost", "_law_last", "_law_address"] p_l_standing (defScope s_l_standing) := ⟨rfl, rfl, rfl, by decide +kernel, rfl, by decide +kernel, by decide +kernel⟩
theorem sel_congr {n : Nat} {a : Nat → Int} {f g : Nat → Bool} (h : ∀ j, j < n → f j = g j) : sel n a f = sel n a g := by
  induction n with
  | zero => rfl
  | succ i ih =>
    rw [sel_succ, sel_succ, ih (fun j hj => h j (by omega)), h i (by omega)]
theorem sel_mem {n : Nat} {a : Nat → Int} {f : Nat → Bool} {x : Int} : x ∈ sel n a f ↔ ∃ j, j < n ∧ f j = true ∧ a j = x := by
  induction n with
  | zero => exact ⟨fun h => (by cases h), fun ⟨j, hj, _⟩ => absurd hj (Nat.not_lt_zero _)⟩
  | succ i ih =>
    rw [sel_succ, List.mem_append, ih]
    constructor
    · rintro (⟨j, h1, h2⟩ | h)
      · exact ⟨j, by omega, h2⟩
      · split at h
        · rename_i hf
          have : x = a i := by simpa using h
          exact ⟨i, by omega, hf, this.symm⟩
        · cases h
    · rintro ⟨j, h1, h2, h3⟩
      by_cases e : j = i
      · subst e
        rw [if_pos h2]
        exact .inr (by rw [h3]; exact List.mem_cons_self ..)
      · exact .inl ⟨j, by omega, h2, h3⟩
/-- how each address stands behind the beat -/
def sA (bt : Nat) (ws : Nat → List Int) : Nat → S1 := fun j => stepS (sB bt) (ws j)
theorem sA_m (bt : Nat) (ws : Nat → List Int) (j : Nat) : decide ((sA bt ws j).m = 0) = decide ((ws j).length = 1) := by
  by_cases h : (ws j).length = 1
  · obtain ⟨w, hw⟩ := List.length_eq_one_iff.mp h
    unfold sA
    rw [hw]
    rfl
  · unfold sA
    rw [(step2 (sB bt) 0 h).1, decide_eq_false h]
    rfl
theorem sA_g (bt : Nat) (ws : Nat → List Int) (j : Nat) : (sA bt ws j).g = (decide (2 ≤ bt) && !decide ((ws j).length = 1)) := by
  by_cases h : (ws j).length = 1
  · obtain ⟨w, hw⟩ := List.length_eq_one_iff.mp h
    unfold sA
    rw [hw]
    show false = (decide (2 ≤ bt) && !decide (1 = 1))
    rw [Bool.and_comm]
    rfl
  · unfold sA
    rw [(step2 (sB bt) 0 h).1, decide_eq_false h, Bool.not_false, Bool.and_true]
    show (decide (3 ≤ bt) || decide (3 ≤ bt + 1)) = decide (2 ≤ bt)
    by_cases h2 : 2 ≤ bt
    · rw [decide_eq_true h2, decide_eq_true (show 3 ≤ bt + 1 by omega), Bool.or_true]
    · rw [decide_eq_false h2, decide_eq_false (show ¬ 3 ≤ bt by omega), decide_eq_false (show ¬ 3 ≤ bt + 1 by omega)]; rfl
theorem sA_w1 {bt : Nat} {ws : Nat → List Int} {j : Nat} {x : Int} (h : ws j = [x]) : (sA bt ws j).w = some x := by unfold sA; rw [h]; rfl
theorem sA_w0 {bt : Nat} {ws : Nat → List Int} {j : Nat} (h : (ws j).length ≠ 1) : (sA bt ws j).w = none := by unfold sA; rw [(step2 (sB bt) 0 h).1]; rfl
def spToldL (C : Addr) : Sp := fun vs H Q _ => ∃ (p d1 d2 d3 d4 : Addr) (n : Nat) (a : Nat → Int) (b : Nat) (s : Nat → S1) (oa t lh ll dl : Addr), vs = [.ref p, .ref oa, .ref t] ∧ TalkAt C H p d1 d2 d3 d4 n a (b + 1) s ∧ H oa = some (.tup ((List.range n).map fun j => V.int (a j))) ∧ H t = some (.tup [.ref lh, .ref ll, .ref dl]) ∧ H lh = some (.lst (iv (heardL n a (b + 1) s))) ∧ H ll = some (.lst (iv (sel n a fun j => (s j).g))) ∧ H dl = some (.dK (dk n a (wF s))) ∧ ∀ H', Same H H' → Q (.bl true) H'
def spStandL : Sp := fun vs H Q _ => ∃ (oa wd : Addr) (n bt : Nat) (a : Nat → Int) (qa : Nat → Addr) (ws : Nat → List Int), vs = [.ref oa, .int (bt : Int), .ref wd] ∧ H oa = some (.tup ((List.range n).map fun j => V.int (a j))) ∧ Apart n a ∧ n ≤ 30 ∧ H wd = some (.dK (dk n a fun j => .ref (qa j))) ∧ (∀ j, j < n → H (qa j) = some (.lst (iv (ws j)))) ∧ ∀ t lh ll dl H', H lh = none → H ll = none → H dl = none → H' t = some (.tup [.ref lh, .ref ll, .ref dl]) → H' lh = some (.lst (iv (heardL n a (bt + 1) (sA bt ws)))) → H' ll = some (.lst (iv (sel n a fun j => (sA bt ws j).g))) → H' dl = some (.dK (dk n a (wF (sA bt ws)))) → Same H H' → Q (.ref t) H'
section
variable {P : Program} {w : World} {K : PySem.W.Frag} {mg : Str → Option Value} {base : Heap} {C : Addr}
theorem ok_toldL (cc : Code K mg "_law_told" s_l_told p_l_told) (T : Tx K mg C) (g_m_heard_now : GoodM P w K mg base C "heard_now" 1 p_Talk_heard_now (spHeard C)) (g_m_lost : GoodM P w K mg base C "lost" 1 p_Talk_lost (spLost C)) (g_m_word_of : GoodM P w K mg base C "word_of" 2 p_Talk_word_of (spWord C)) (g_l_whole : Good P w K mg base "_law_whole" 1 p_l_whole spWt) : Good P w K mg base "_law_told" 4 p_l_told (spToldL C) := by
  refine cc.good sc_l_told (fun vs H Q E h => ?_) (fun f cdv A outer s H vs Q E hr h => ?_)
  · obtain ⟨p, d1, d2, d3, d4, n, a, b, s, oa, t, lh, ll, dl, rfl, _⟩ := h
    rfl
  obtain ⟨p, d1, d2, d3, d4, n, a, b, s, oa, t, lh, ll, dl, rfl, R, ho, ht, eh, el, ed, q⟩ := h
  refine ⟨_, (pss_cons (ps_asg (pv 2) (pg_tup rfl (pgs_cons (pg_name (i := 3) sc_l_told.nd rfl (Or.inl rfl)) (pgs_cons (pg_name (i := 4) sc_l_told.nd rfl (Or.inl rfl)) (pgs_cons (pg_name (i := 5) sc_l_told.nd rfl (Or.inl rfl)) pgs_nil)))))
  (pss_cons (ps_for PassesOwn.never rfl (pi_range1 rfl T.range (pa_cons pe_int pa_nil)) (pg_name (i := 6) sc_l_told.nd rfl (Or.inl rfl))
  (pss_cons (ps_if (PW.pt (pw_or (pt_cmpR (op_neD hr.units) (pmeth0 (pv 0) T.cl g_m_heard_now hr) (pv 3) (nomark _)) (pw_or1 (pt_cmpR (op_neD hr.units) (pmeth0 (pv 0) T.cl g_m_lost hr) (pv 4) (nomark _))))) (pss_one (ps_ret pe_bl)) pss_nil)
  (pss_cons (ps_for PassesOwn.never rfl (pi_tup (pv 1)) (pg_name (i := 7) sc_l_told.nd rfl (Or.inl rfl))
  (pss_cons (ps_set (i := 8) sc_l_told.nd rfl (Or.inl rfl) (pmeth (pv 0) T.cl g_m_word_of hr (pa_cons (pv 7) pa_nil)))
  (pss_one (ps_if (PW.pt (pw_or (pt_cmpR op_ne (pv 8) (pe_dget (hu_of hr) (pv 5) (pv 7) (fun _ _ => rfl)) (nomark _)) (pw_or1 (PW.pt (pw_and (pt_cmpR op_notN (pv 8) pe_non (nomark _)) (pw_and1 (pt_not (pt_val (pcall g_l_whole hr (pa_cons (pv 8) pa_nil)))))))))) (pss_one (ps_ret pe_bl)) pss_nil))))
  (pss_cons (ps_expr (pe_bm PySem.F.plainAttrs_list PySem.F.slot_list_append PySem.F.type_list_append mt_append (pmeth0 (pv 0) T.cl g_m_heard_now hr) (pa_cons pe_int pa_nil)))
  (pss_one (ps_expr (pe_bm PySem.F.plainAttrs_list PySem.F.slot_list_insert PySem.F.type_list_insert mt_insert (pmeth0 (pv 0) T.cl g_m_lost hr) (pa_cons pe_int (pa_cons pe_int pa_nil)))))))))
  (pss_one (ps_ret pe_bl)))), ?_⟩
  obtain ⟨dx, hp⟩ := R.ins
  have few := R.few
  have ap := R.ap
  refine ⟨_, rfl, t, _, rfl, SqT.of ht, rfl, _, _, rfl, _, _, rfl, _, _, rfl, rfl, ?_⟩
  refine ⟨2, rfl, by decide, by decide, ?_⟩
  refine for_range (n := 2) (fun i σ HF => ∃ u6 u7 u8, σ = [some (.ref p), some (.ref oa), some (.ref t), some (.ref lh), some (.ref ll), some (.ref dl), u6, u7, u8] ∧ Same H HF) ⟨_, _, _, rfl, Same.refl _⟩ (fun i σ HF hi h => ?_) (fun σ HF h => ?_)
  · obtain ⟨u6, u7, u8, rfl, s1⟩ := h
    refine ⟨_, rfl, p, dx, _, rfl, s1 _ _ hp, fno (by decide +kernel), p, d1, d2, d3, d4, n, a, b + 1, s, rfl, R.same s1, fun l4 H4 f4 e4 s4 => ?_⟩
    have s4' := s1.trans s4
    refine ⟨_, rfl, _, _, .lst e4 (ints_reps _), .lst (s4' _ _ eh) (ints_reps _), ints_shaped _, ints_shaped _, _, rfl, ?_⟩
    rw [ints_eqv, decide_eq_true rfl]
    refine iteF ⟨_, rfl, p, dx, _, rfl, s4' _ _ hp, fno (by decide +kernel), p, d1, d2, d3, d4, n, a, b + 1, s, rfl, R.same s4', fun l5 H5 f5 e5 s5 => ?_⟩
    have s5' := s4'.trans s5
    refine ⟨_, rfl, _, _, .lst e5 (ints_reps _), .lst (s5' _ _ el) (ints_reps _), ints_shaped _, ints_shaped _, _, rfl, ?_⟩
    rw [ints_eqv, decide_eq_true rfl]
    refine iteF ⟨_, rfl, oa, rfl, ⟨_, SqT.of (s5' _ _ ho)⟩, ?_⟩
    refine for_tup (xs := (List.range n).map fun j => V.int (a j)) (fun k σ HG => ∃ u7 u8, σ = [some (.ref p), some (.ref oa), some (.ref t), some (.ref lh), some (.ref ll), some (.ref dl), some (.int (0 + (i : Int))), u7, u8] ∧ HG = H5) ⟨_, _, rfl, rfl⟩ (fun k σ HG _ h => ?_) (fun k x σ HG hx h => ?_) (fun σ HG h => ?_)
    · obtain ⟨_, _, rfl, rfl⟩ := h
      exact SqT.of (s5' _ _ ho)
    · obtain ⟨_, _, rfl, rfl⟩ := h
      obtain ⟨hk, rfl⟩ := rg_get hx
      refine ⟨_, rfl, p, dx, _, rfl, s5' _ _ hp, fno (by decide +kernel), _, rfl, p, d1, d2, d3, d4, n, a, b + 1, s, k, rfl, hk, R.same s5', ?_⟩
      refine ⟨_, rfl, _, rfl, _, rfl, dl, _, rfl, .inl ⟨_, .inl (a k), .inl (s5' _ _ ed), rfl, (dk_val (v := wF s) ap hk).symm⟩, ?_⟩
      cases hw : (s k).w with
      | none =>
        have : wF s k = wV none := by unfold wF; rw [hw]
        rw [this]
        exact ⟨rfl, _, rfl, iteF ⟨_, rfl, rfl, _, rfl, iteF ⟨_, _, rfl, rfl⟩⟩⟩
      | some w1 =>
        have : wF s k = wV (some w1) := by unfold wF; rw [hw]
        rw [this]
        refine ⟨rfl, _, rfl, ?_⟩
        have e0 : (!decide (wV (some w1) = wV (some w1))) = false := by simp
        show if (!decide (wV (some w1) = wV (some w1))) = true then _ else _
        rw [e0]
        exact iteF ⟨_, rfl, rfl, _, rfl, iteT ⟨_, rfl, .int w1, rfl, True.intro, _, rfl, iteF ⟨_, _, rfl, rfl⟩⟩⟩
    obtain ⟨u7, u8, rfl, rfl⟩ := h
    refine ⟨_, rfl, p, dx, _, rfl, s5' _ _ hp, fno (by decide +kernel), p, d1, d2, d3, d4, n, a, b + 1, s, rfl, R.same s5', fun l6 H6 f6 e6 s6 => ?_⟩
    have hl6 : (iv (heardL n a (b + 1) s)).length ≤ 100 := by
      rw [iv_len]
      unfold heardL
      split
      · exact Nat.zero_le _
      · have := sel_len n a fun j => decide ((s j).m = 0)
        omega
    refine ⟨.inl ⟨rfl, _, SqL.of e6⟩, l6, _, _, rfl, rfl, e6, small1000 (by omega), ?_⟩
    have s6' : Same HG (upd H6 l6 (.lst (iv (heardL n a (b + 1) s) ++ [.int 1]))) := s6.stepB SameB.upd f6
    dsimp only
    generalize upd H6 l6 (.lst (iv (heardL n a (b + 1) s) ++ [.int 1])) = H7 at *
    have s7 := s5'.trans s6'
    refine ⟨_, rfl, p, dx, _, rfl, s7 _ _ hp, fno (by decide +kernel), p, d1, d2, d3, d4, n, a, b + 1, s, rfl, R.same s7, fun l8 H8 f8 e8 s8 => ?_⟩
    have hl8 := sel_len n a fun j => (s j).g
    refine ⟨.inl ⟨rfl, _, SqL.of e8⟩, ?_⟩
    refine ⟨l8, _, 0, .int 7, rfl, rfl, e8, by decide, by decide, small1000 (by rw [iv_len]; omega), _, _, _, rfl, s7.trans (s8.stepB SameB.upd f8)⟩
  obtain ⟨u6, u7, u8, rfl, s1⟩ := h
  exact q _ s1
theorem ok_standL (cc : Code K mg "_law_standing" s_l_standing p_l_standing) (T : Nm mg) : Good P w K mg base "_law_standing" 1 p_l_standing spStandL := by
  refine cc.good sc_l_standing (fun vs H Q E h => ?_) (fun f cdv A outer s H vs Q E hr h => ?_)
  · obtain ⟨oa, wd, n, bt, a, qa, ws, rfl, _⟩ := h
    rfl
  obtain ⟨oa, wd, n, bt, a, qa, ws, rfl, ho, ap, few, hwd, hqa, q⟩ := h
  refine ⟨_, (pss_cons (ps_set (i := 3) sc_l_standing.nd rfl (Or.inr rfl) (pe_comp (N' := ["_law_address", "_law_words_here"]) rfl (CScope.of (src := [none, some 2]) (defScope s_l_standing) ["_law_addresses_here", "_law_beats", "_law_words_here", "_law_heard", "_law_lost", "_law_last", "_law_address"] rfl rfl rfl (by decide +kernel) (by decide +kernel) (by decide +kernel) rfl (by decide +kernel)) (pi_tup (pv 0)) (fun _ _ _ _ => (pg_name (i := 0) (show List.Nodup (["_law_address", "_law_words_here"] : List Str) by decide +kernel) rfl (Or.inl rfl))) (fun _ _ _ _ => (pf_one (pt_cmpR op_eq (pe_callB (call_len_seqK (K := K) rfl) rfl T.len bt_len (pa_cons (pe_dget (hu_of hr) (pv 1) (pv 0) (fun _ _ => rfl)) pa_nil)) pe_int (nomark _)))) (fun _ _ _ _ => (pv 0))))
  (pss_cons (ps_setC (i := 4) sc_l_standing.nd rfl (Or.inl rfl) (N' := ["_law_address", "_law_beats", "_law_heard"]) rfl (CScope.of (src := [none, some 1, some 3]) (defScope s_l_standing) ["_law_addresses_here", "_law_beats", "_law_words_here", "_law_heard", "_law_lost", "_law_last", "_law_address"] rfl rfl rfl (by decide +kernel) (by decide +kernel) (by decide +kernel) rfl (by decide +kernel)) (pi_tup (pv 0)) (fun _ _ _ _ => (pg_name (i := 0) (show List.Nodup (["_law_address", "_law_beats", "_law_heard"] : List Str) by decide +kernel) rfl (Or.inl rfl))) (fun _ _ _ _ => (pf_one (PW.pt (pw_and (pt_cmpR op_ge (pv 1) pe_int (nomark _)) (pw_and1 (pt_cmpR (op_notIn_seqK (K := K) rfl) (pv 0) (pv 2) (by with_unfolding_all rfl))))))) (fun _ _ _ _ => (pv 0)))
  (pss_cons (ps_set (i := 5) sc_l_standing.nd rfl (Or.inl rfl) pe_dnewK)
  (pss_cons (ps_for PassesOwn.never rfl (pi_tup (pv 0)) (pg_name (i := 6) sc_l_standing.nd rfl (Or.inl rfl))
  (pss_cons (ps_dput (hu_of hr) (pv 5) (pv 6) pe_non rfl)
  (pss_one (ps_if (pt_cmpR op_in_seq (pv 6) (pv 3) (by with_unfolding_all rfl)) (pss_one (ps_dput (hu_of hr) (pv 5) (pv 6) (pe_ix ix_list (pe_dget (hu_of hr) (pv 2) (pv 6) (fun _ _ => rfl)) pe_int (fun _ _ => rfl)) rfl)) pss_nil))))
  (pss_one (ps_ret (pe_tup (pa_cons (pv 3) (pa_cons (pv 4) (pa_cons (pv 5) pa_nil)))))))))), ?_⟩
  have lr : ∀ g : Nat → V, ((List.range n).map g).length = n := fun g => by rw [List.length_map, List.length_range]
  have dg : ∀ HF, Same H HF → ∀ i, i < n → DGet HF wd (.int (a i)) (some (.ref (qa i))) := fun HF k i hi => .inl ⟨_, .inl (a i), .inl (k _ _ hwd), rfl, (dk_val (v := fun j => .ref (qa j)) ap hi).symm⟩
  have eqI : ∀ {x y : Int}, decide (V.int x = V.int y) = true → x = y := fun h => by
    have := of_decide_eq_true h
    injection this
  have neI : ∀ {x y : Int}, decide (V.int x = V.int y) = false → x ≠ y := fun h z => by
    have := of_decide_eq_false h
    exact this (by rw [z])
  -- heard
  refine ⟨_, rfl, oa, rfl, ⟨_, SqT.of ho⟩, fun lh hlh => ?_⟩
  refine comp_tup (xs := (List.range n).map fun j => V.int (a j)) (fun i σ HF => ∃ u, σ = [u, some (.ref wd)] ∧ HF lh = some (.lst (iv (sel i a fun j => decide ((ws j).length = 1)))) ∧ Same H HF) ⟨_, rfl, upd_same, same_new hlh _⟩ (fun i σ HF _ h => ?_) (fun i x σ HF hx h => ?_) (fun σ HF h => ?_)
  · obtain ⟨u, rfl, k1, k2⟩ := h
    exact SqT.of (k2 _ _ ho)
  · obtain ⟨u, rfl, k1, k2⟩ := h
    obtain ⟨hi, rfl⟩ := rg_get hx
    have sl := sel_len i a fun j => decide ((ws j).length = 1)
    have ivl := iv_len (ws i)
    refine ⟨_, rfl, _, rfl, wd, _, rfl, dg HF k2 i hi, qa i, _, rfl, .inl (SqL.of (k2 _ _ (hqa i hi))), rfl, _, rfl, ite3 (fun h1 => ?_) (fun h1 => ?_)⟩
    · have h2 := eqI h1
      refine ⟨_, rfl, _, k1, small1000 (by rw [iv_len]; omega), _, rfl, ?_, k2.stepB SameB.upd hlh⟩
      rw [upd_same, sel_succ, if_pos (decide_eq_true (by omega)), iv_app]
      rfl
    · have h2 := neI h1
      refine ⟨_, rfl, ?_, k2⟩
      rw [sel_succ, if_neg (by rw [decide_eq_false (by omega)]; decide), List.append_nil]
      exact k1
  obtain ⟨u, rfl, k1, k2⟩ := h
  rw [lr] at k1
  generalize hHS : sel n a (fun j => decide ((ws j).length = 1)) = HS at k1
  have inH : ∀ i, i < n → inV (.int (a i)) (iv HS) = decide ((ws i).length = 1) := fun i hi => by
    rw [inV_iv, ← hHS]
    by_cases h : (ws i).length = 1
    · rw [decide_eq_true h]
      exact decide_eq_true (sel_mem.mpr ⟨i, hi, decide_eq_true h, rfl⟩)
    · rw [decide_eq_false h]
      refine decide_eq_false fun z => ?_
      obtain ⟨j, hj, h1, h2⟩ := sel_mem.mp z
      rw [ap j i hj hi h2] at h1
      exact h (of_decide_eq_true h1)
  -- lost
  refine ⟨_, rfl, oa, rfl, ⟨_, SqT.of (k2 _ _ ho)⟩, fun ll hll => ?_⟩
  refine comp_tup (xs := (List.range n).map fun j => V.int (a j)) (fun i σ HG => ∃ u, σ = [u, some (.int (bt : Int)), some (.ref lh)] ∧ HG ll = some (.lst (iv (sel i a fun j => (sA bt ws j).g))) ∧ Same HF HG) ⟨_, rfl, upd_same, same_new hll _⟩ (fun i σ HG _ h => ?_) (fun i x σ HG hx h => ?_) (fun σ HG h => ?_)
  · obtain ⟨u, rfl, g1, g2⟩ := h
    exact SqT.of (g2 _ _ (k2 _ _ ho))
  · obtain ⟨u, rfl, g1, g2⟩ := h
    obtain ⟨hi, rfl⟩ := rg_get hx
    have sl := sel_len i a fun j => (sA bt ws j).g
    have sg := sA_g bt ws i
    have yes : (sA bt ws i).g = true → ∃ ys, HG ll = some (.lst ys) ∧ ys.length < sizeLine ∧ ∃ u, ([some (V.int (a i)), some (V.int (bt : Int)), some (V.ref lh)] : St) = [u, some (.int (bt : Int)), some (.ref lh)] ∧ (upd HG ll (.lst (ys ++ [.int (a i)]))) ll = some (.lst (iv (sel (i + 1) a fun j => (sA bt ws j).g))) ∧ Same HF (upd HG ll (.lst (ys ++ [.int (a i)]))) := fun h => by
      refine ⟨_, g1, small1000 (by rw [iv_len]; omega), _, rfl, ?_, g2.stepB SameB.upd hll⟩
      rw [upd_same, sel_succ, if_pos h, iv_app]
      rfl
    have no : (sA bt ws i).g = false → ∃ u, ([some (V.int (a i)), some (V.int (bt : Int)), some (V.ref lh)] : St) = [u, some (.int (bt : Int)), some (.ref lh)] ∧ HG ll = some (.lst (iv (sel (i + 1) a fun j => (sA bt ws j).g))) ∧ Same HF HG := fun h => by
      refine ⟨_, rfl, ?_, g2⟩
      rw [sel_succ, if_neg (by rw [h]; decide), List.append_nil]
      exact g1
    refine ⟨_, rfl, _, _, rfl, rfl, _, rfl, ite3 (fun h1 => ?_) (fun h1 => ?_)⟩
    · have h1 : decide ((2 : Int) ≤ (bt : Int)) = true := h1
      have h2 : 2 ≤ bt := by have := of_decide_eq_true h1; omega
      rw [decide_eq_true h2, Bool.true_and, ← inH i hi] at sg
      refine ⟨_, rfl, _, rfl, lh, _, rfl, .inl (SqL.of (g2 _ _ k1)), rfl, iv_flat _, _, rfl, ite3 (fun h3 => ?_) (fun h3 => ?_)⟩
      · exact ⟨_, rfl, yes (sg.trans h3)⟩
      · exact no (sg.trans h3)
    · have h1 : decide ((2 : Int) ≤ (bt : Int)) = false := h1
      have h2 : ¬ 2 ≤ bt := by have := of_decide_eq_false h1; omega
      rw [decide_eq_false h2, Bool.false_and] at sg
      exact no sg
  obtain ⟨u, rfl, g1, g2⟩ := h
  rw [lr] at g1
  have kG := k2.trans g2
  have e1 := g2 _ _ k1
  have fll : H ll = none := k2.free hll
  -- last
  refine fun dl hdl => ?_
  have s0 := same_new hdl (.dK [])
  have fdl : H dl = none := kG.free hdl
  refine ⟨_, rfl, oa, rfl, ⟨_, SqT.of (s0 _ _ (kG _ _ ho))⟩, ?_⟩
  refine for_tup (xs := (List.range n).map fun j => V.int (a j)) (fun i σ HK => ∃ u, σ = [some (.ref oa), some (.int (bt : Int)), some (.ref wd), some (.ref lh), some (.ref ll), some (.ref dl), u] ∧ HK dl = some (.dK (dk i a (wF (sA bt ws)))) ∧ Same HG HK) ⟨_, rfl, upd_same, s0⟩ (fun i σ HK _ h => ?_) (fun i x σ HK hx h => ?_) (fun σ HK h => ?_)
  · obtain ⟨u, rfl, m1, m2⟩ := h
    exact SqT.of ((kG.trans m2) _ _ ho)
  · obtain ⟨u, rfl, m1, m2⟩ := h
    obtain ⟨hi, rfl⟩ := rg_get hx
    have kK := kG.trans m2
    have dno : ∀ v : Nat → V, valV (dk i a v) (.inl (a i)) = none := fun v => dk_none fun j hj z => by have := ap j i (by omega) hi z; omega
    refine ⟨_, rfl, _, rfl, dl, _, rfl, DPut.k (k := .inl (a i)) m1 (by rw [dk_len]; exact small1000 (by omega)), ?_⟩
    rw [putK_new _ (dno _)]
    have hne : dl ≠ lh := (ne_of_none e1 hdl).symm
    refine ⟨_, rfl, _, rfl, lh, _, rfl, .inl (SqL.of (by rw [upd_ne hne.symm]; exact m2 _ _ e1)), rfl, iv_flat _, _, rfl, ?_⟩
    rw [inH i hi]
    by_cases hl : (ws i).length = 1
    · rw [decide_eq_true hl]
      obtain ⟨x1, hx1⟩ := List.length_eq_one_iff.mp hl
      have eqi := kK _ _ (hqa i hi)
      rw [hx1] at eqi
      have nq : qa i ≠ dl := ne_of_none (hqa i hi) fdl
      have nw : wd ≠ dl := ne_of_none hwd fdl
      refine iteT ⟨_, rfl, _, rfl, wd, _, rfl, .inl ⟨_, .inl (a i), .inl (by rw [upd_ne nw]; exact kK _ _ hwd), rfl, (dk_val (v := fun j => .ref (qa j)) ap hi).symm⟩, qa i, _, _, _, rfl, rfl, SqL.of (by rw [upd_ne nq]; exact eqi), rfl, _, rfl, _, rfl, dl, _, rfl, DPut.k (k := .inl (a i)) upd_same (by rw [List.length_append, dk_len]; exact small1000 (by show i + 1 ≤ 1000; omega)), _, rfl, ?_, ?_⟩
      · rw [upd_upd, upd_same, dk_succ]
        have ew : wF (sA bt ws) i = .int x1 := by unfold wF; rw [sA_w1 hx1]; rfl
        rw [ew]
        have := dk_put (n := i + 1) (v := fun j => if j = i then V.non else wF (sA bt ws) j) (fun j k hj hk => ap j k (by omega) (by omega)) (Nat.lt_succ_self i) (.int x1)
        rw [dk_succ, if_pos rfl, dk_congr (v' := wF (sA bt ws)) (fun j hj => if_neg (by omega))] at this
        rw [this, dk_succ, upF_at, dk_congr (v' := wF (sA bt ws)) (fun j hj => by rw [upF_ne _ _ (by omega), if_neg (by omega)])]
      · rw [upd_upd]
        exact m2.stepB SameB.upd hdl
    · rw [decide_eq_false hl]
      refine iteF ⟨_, rfl, ?_, m2.stepB SameB.upd hdl⟩
      rw [upd_same, dk_succ]
      have ew : wF (sA bt ws) i = .non := by unfold wF; rw [sA_w0 hl]; rfl
      rw [ew]
  obtain ⟨u, rfl, m1, m2⟩ := h
  rw [lr] at m1
  refine ⟨_, rfl, _, rfl, _, rfl, leSize (by show 3 ≤ 1000; decide), fun t ft => ?_⟩
  have st := same_new ft (.tup [.ref lh, .ref ll, .ref dl])
  refine q t lh ll dl _ hlh fll fdl upd_same ?_ (st _ _ (m2 _ _ g1)) (st _ _ m1) ((kG.trans m2).trans st)
  have e2 := st _ _ (m2 _ _ e1)
  rw [e2, ← hHS]
  unfold heardL
  rw [if_neg (by omega), sel_congr fun j _ => (sA_m bt ws j).symm]
end
end K15

set_option Elab.async false
set_option linter.all false
set_option maxRecDepth 100000
set_option pp.maxSteps 300
set_option maxHeartbeats 4000000
namespace K15
open PySem L2
abbrev s_law : Stmt := top 44
abbrev p_law : List Str := ["_law_script"]
theorem sc_law : FnScope ["_law_script", "_law_bag_here", "_law_beats", "_law_addresses_here", "_law_talk", "_law_second", "_law_answers_here", "_law_handed", "_law_events", "_law_words_here", "_law_address", "_law_due_here", "_law_other", "_law_unknown"] p_law (defScope s_law) := ⟨rfl, rfl, rfl, by decide +kernel, rfl, by decide +kernel, by decide +kernel⟩
/-- a row of data, none deeper than k -/
def Dr (H : Hp) (k : Nat) (v : V) : Prop := ∃ d, Rep H v d ∧ PyData.canLay0 d = true ∧ PyData.depth d ≤ k
theorem drs {H : Hp} {k : Nat} : ∀ {xs : List V}, (∀ x ∈ xs, Dr H k x) → ∃ ds, Reps H xs ds ∧ PyData.canLayAll0 ds = true ∧ PyData.depthAll ds ≤ k
  | [], _ => ⟨[], .nil, rfl, Nat.zero_le _⟩
  | x :: r, h => by
    obtain ⟨d, h1, h2, h3⟩ := h x (List.mem_cons_self ..)
    obtain ⟨ds, g1, g2, g3⟩ := drs fun y hy => h y (List.mem_cons_of_mem _ hy)
    refine ⟨d :: ds, .cons h1 g1, ?_, ?_⟩
    · show (PyData.canLay0 d && PyData.canLayAll0 ds) = true
      rw [h2, g2]; rfl
    · show max (PyData.depth d) (PyData.depthAll ds) ≤ k
      omega
theorem Dr.lst {H : Hp} {k : Nat} {p : Addr} {xs : List V} (e : H p = some (.lst xs)) (h : ∀ x ∈ xs, Dr H k x) : Dr H (k + 1) (.ref p) := by
  obtain ⟨ds, g1, g2, g3⟩ := drs h
  exact ⟨.list ds, .lst e g1, g2, by show PyData.depthAll ds + 1 ≤ k + 1; omega⟩
theorem Dr.tup {H : Hp} {k : Nat} {p : Addr} {xs : List V} (e : H p = some (.tup xs)) (h : ∀ x ∈ xs, Dr H k x) : Dr H (k + 1) (.ref p) := by
  obtain ⟨ds, g1, g2, g3⟩ := drs h
  exact ⟨.tuple ds, .tup e g1, g2, by show PyData.depthAll ds + 1 ≤ k + 1; omega⟩
theorem Dr.mono {H : Hp} {k m : Nat} {v : V} (h : Dr H k v) (hk : k ≤ m) : Dr H m v := let ⟨d, a, b, c⟩ := h; ⟨d, a, b, by omega⟩
theorem Sc.dr {H : Hp} {y : V} (h : Sc y) : Dr H 0 y := by
  rcases h with ⟨i, rfl⟩ | ⟨b, rfl⟩
  · exact ⟨.int i, .int i, rfl, Nat.le_refl _⟩
  · exact ⟨.bool b, .bl b, rfl, Nat.le_refl _⟩
theorem Tg.dr {H : Hp} {v : V} (h : Tg H v) : Dr H 2 v := by
  rcases h with rfl | rfl | rfl | ⟨p, z, rfl, h2, h3⟩ | ⟨p, xs, rfl, h2, h3, h4⟩ | ⟨p, q, z, rfl, h2, h3, h4⟩
  · exact ⟨.none, .non, rfl, Nat.zero_le _⟩
  · exact ⟨.str "x", .str _, (by decide +kernel), Nat.zero_le _⟩
  · exact ⟨.bool true, .bl _, rfl, Nat.zero_le _⟩
  · exact (Dr.lst h2 fun y hy => (iv_sc z y hy).dr).mono (by decide)
  · exact (Dr.tup h2 fun y hy => (h4 y hy).dr).mono (by decide)
  · refine Dr.tup h2 fun y hy => ?_
    have : y = .ref q := by simpa using hy
    rw [this]
    exact Dr.tup h3 fun y hy => (iv_sc z y hy).dr
/-- two lists of the same things are equal -/
theorem same_eq {H : Hp} {p q : Addr} {xs : List V} (e1 : H p = some (.lst xs)) (e2 : H q = some (.lst xs)) (h : ∀ x ∈ xs, Tg H x) : ∃ d e, Rep H (.ref p) d ∧ Rep H (.ref q) e ∧ SeqAt.shaped d = true ∧ SeqAt.shaped e = true ∧ PyData.eqv d e = true := by
  obtain ⟨ds, g1, g2, g3⟩ := drs fun x hx => (h x hx).dr
  have sh : SeqAt.shaped (.list ds) = true := by
    show (PyData.canLayAll0 ds && decide (PyData.depthAll ds + 1 ≤ 64)) = true
    rw [g2, Bool.true_and]
    exact decide_eq_true (by omega)
  exact ⟨.list ds, .list ds, .lst e1 g1, .lst e2 g1, sh, sh, SeqAt.eqv_refl _ (SeqAt.canLay_of_shaped sh)⟩
theorem Tg.nref {H : Hp} {v : V} {b : Addr} (h : Tg H v) (hb : H b = none) : v ≠ .ref b := fun z => by
  rcases h with h | h | h | ⟨p, z', h1, h2, h3⟩ | ⟨p, ys, h1, h2, h3, h4⟩ | ⟨p, q, z', h1, h2, h3, h4⟩
  · rw [z] at h; cases h
  · rw [z] at h; cases h
  · rw [z] at h; cases h
  · rw [z] at h1; cases h1; rw [hb] at h2; cases h2
  · rw [z] at h1; cases h1; rw [hb] at h2; cases h2
  · rw [z] at h1; cases h1; rw [hb] at h2; cases h2
theorem seq_splitR {I R : TS} {D : Ends} {σ : St} {H : Hp} (P : St → Hp → Prop) (hR : ∀ σ' H', P σ' H' → R D σ' H') (hI : ∀ N : St → Hp → Prop, (∀ σ' H', P σ' H' → N σ' H') → I { D with nx := N } σ H) : tSeq I R D σ H := hI _ hR
def osOf (H : Hp) (xs : List V) : List (Option (Int × Int × Int)) := xs.map fun v => ansO (tupOf H v)
theorem ans_of {H : Hp} : ∀ {xs : List V}, (∀ x ∈ xs, Tg H x) → Paired (AnsAt H) xs (osOf H xs)
  | [], _ => .nil
  | x :: r, h => .cons ⟨(h x (List.mem_cons_self ..)).th, rfl⟩ (ans_of fun y hy => h y (List.mem_cons_of_mem _ hy))
theorem os_keep {H H' : Hp} {xs : List V} (h : ∀ x ∈ xs, Tg H x) (t : ∀ q ys, H q = some (.tup ys) → H' q = some (.tup ys)) (l : ∀ q ys, H q = some (.lst ys) → ∃ zs, H' q = some (.lst zs)) : osOf H' xs = osOf H xs := List.map_congr_left fun x hx => by
  congr 1
  rcases h x hx with h | h | h | ⟨p, z, h1, h2, h3⟩ | ⟨p, xs, h1, h2, h3, h4⟩ | ⟨p, q, z, h1, h2, h3, h4⟩
  · rw [h]; rfl
  · rw [h]; rfl
  · rw [h]; rfl
  · obtain ⟨zs, e⟩ := l _ _ h2
    rw [h1, tupOf_lst h2, tupOf_lst e]
  · rw [h1, tupOf_at h2, tupOf_at (t _ _ h2)]
  · rw [h1, tupOf_at h2, tupOf_at (t _ _ h2)]
theorem at_unk {r y : Int} {l : Addr} (r0 : 0 ≤ r) (r1 : r < 8) : ∃ v, atI [V.int 0, .int 100, .bl true, .ref l, .str "1", .non, .int y, .int (-1)] r = some v ∧ ((∃ i, v = .int i) ∨ v = .bl true ∨ v = .ref l ∨ v = .str "1" ∨ v = .non) := by
  have : r = 0 ∨ r = 1 ∨ r = 2 ∨ r = 3 ∨ r = 4 ∨ r = 5 ∨ r = 6 ∨ r = 7 := by omega
  rcases this with rfl | rfl | rfl | rfl | rfl | rfl | rfl | rfl
  · exact ⟨_, rfl, .inl ⟨_, rfl⟩⟩
  · exact ⟨_, rfl, .inl ⟨_, rfl⟩⟩
  · exact ⟨_, rfl, .inr (.inl rfl)⟩
  · exact ⟨_, rfl, .inr (.inr (.inl rfl))⟩
  · exact ⟨_, rfl, .inr (.inr (.inr (.inl rfl)))⟩
  · exact ⟨_, rfl, .inr (.inr (.inr (.inr rfl)))⟩
  · exact ⟨_, rfl, .inl ⟨_, rfl⟩⟩
  · exact ⟨_, rfl, .inl ⟨_, rfl⟩⟩
theorem Tg.sameT {C : Addr} {H H' : Hp} {p d1 d2 d3 d4 : Addr} {n : Nat} {a : Nat → Int} {b : Nat} {s : Nat → S1} (R : TalkAt C H p d1 d2 d3 d4 n a b s) {v : V} (h : Tg H v) (k : SameT [p, d1, d2, d3, d4] H H') : Tg H' v := by
  have nt : ∀ q xs, H q = some (.tup xs) → H' q = some (.tup xs) := fun q xs e => k _ _ e (mem5' (R.nin (.inr (.inr ⟨_, e⟩))))
  have nl : ∀ q xs, H q = some (.lst xs) → H' q = some (.lst xs) := fun q xs e => k _ _ e (mem5' (R.nin (.inr (.inl ⟨_, e⟩))))
  rcases h with h | h | h | ⟨p, z, h1, h2, h3⟩ | ⟨p, xs, h1, h2, h3, h4⟩ | ⟨p, q, z, h1, h2, h3, h4⟩
  · exact .inl h
  · exact .inr (.inl h)
  · exact .inr (.inr (.inl h))
  · exact .inr (.inr (.inr (.inl ⟨p, z, h1, nl _ _ h2, h3⟩)))
  · exact .inr (.inr (.inr (.inr (.inl ⟨p, xs, h1, nt _ _ h2, h3, h4⟩))))
  · exact .inr (.inr (.inr (.inr (.inr ⟨p, q, z, h1, nt _ _ h2, nt _ _ h3, h4⟩))))
section
variable {P : Program} {w : World} {K : PySem.W.Frag} {mg : Str → Option Value} {base : Heap} {C : Addr}
theorem talk_inB {HF : Hp} {p d1 d2 d3 d4 : Addr} {n : Nat} {a : Nat → Int} {b : Nat} {s : Nat → S1} (R : TalkAt C HF p d1 d2 d3 d4 n a b s) {x : Addr} (h : x ∈ [p, d1, d2, d3, d4]) : ∃ o, HF x = some o := by
  simp only [List.mem_cons, List.not_mem_nil, or_false] at h
  rcases h with rfl | rfl | rfl | rfl | rfl
  · obtain ⟨dx, e⟩ := R.ins
    exact ⟨_, e⟩
  · exact ⟨_, R.wd⟩
  · exact ⟨_, R.ms⟩
  · exact ⟨_, R.db⟩
  · exact ⟨_, R.gn⟩
theorem ok_law {f : Addr} {fd : FuncData} (F : Fun K "law" "law" s_law f fd) (T : Tx K mg C) (g_l_bag : Good P w K mg base "_law_bag" 1 p_l_bag (spBag K)) (g_l_take : Good P w K mg base "_law_take" 1 p_l_take spTake) (g_l_addresses : Good P w K mg base "_law_addresses" 2 p_l_addresses spAddr) (g_i_Talk : GoodI P w K mg base C 1 p_Talk___init__ (spInit C)) (g_l_ahead : Good P w K mg base "_law_ahead" 6 p_l_ahead (spAheadL C)) (g_l_answers : Good P w K mg base "_law_answers" 3 p_l_answers (spAnswers K)) (g_m_beat : GoodM P w K mg base C "beat" 5 p_Talk_beat (spBeat C K)) (g_l_words : Good P w K mg base "_law_words" 3 p_l_words spWordsL) (g_l_due : Good P w K mg base "_law_due" 1 p_l_due spDueL) (g_l_are_events : Good P w K mg base "_law_are_events" 2 p_l_are_events spAreEv)
    (g_l_standing : Good P w K mg base "_law_standing" 1 p_l_standing spStandL) (g_l_told : Good P w K mg base "_law_told" 4 p_l_told (spToldL C)) (g_l_whole : Good P w K mg base "_law_whole" 1 p_l_whole spWt) (g_l_refused : Good P w K mg base "_law_refused" 3 p_l_refused (spRefL C)) (g_m_heard_now : GoodM P w K mg base C "heard_now" 1 p_Talk_heard_now (spHeard C)) (g_m_lost : GoodM P w K mg base C "lost" 1 p_Talk_lost (spLost C)) (g_m_turn : GoodM P w K mg base C "turn" 1 p_Talk_turn (spTurn C)) : FnOk P w K mg base CX0 7 f fd p_law (spLaw K) := by
  refine F.ok sc_law (fun vs H Q E h => ?_) (fun cdv A outer s H vs Q E hr h => ?_)
  · obtain ⟨a, ns, rfl, _⟩ := h
    rfl
  obtain ⟨sa, ns, rfl, hS, h63, q⟩ := h
  refine ⟨_, (pss_cons (ps_set (i := 1) sc_law.nd rfl (Or.inl rfl) (pcall g_l_bag hr (pa_cons (pv 0) (pa_cons pe_int pa_nil))))
  (pss_cons (ps_set (i := 2) sc_law.nd rfl (Or.inl rfl) (pcall g_l_take hr (pa_cons (pv 1) (pa_cons pe_int pa_nil))))
  (pss_cons (ps_set (i := 3) sc_law.nd rfl (Or.inl rfl) (pcall g_l_addresses hr (pa_cons (pv 1) pa_nil)))
  (pss_cons (ps_set (i := 4) sc_law.nd rfl (Or.inl rfl) (pmake g_i_Talk hr T.mgC (pa_cons (pv 3) pa_nil)))
  (pss_cons (ps_set (i := 5) sc_law.nd rfl (Or.inl rfl) (pmake g_i_Talk hr T.mgC (pa_cons (pv 3) pa_nil)))
  (pss_cons (ps_if (pt_not (pt_val (pcall g_l_ahead hr (pa_cons (pv 4) (pa_cons (pv 3) (pa_cons (pv 2) pa_nil)))))) (pss_one (ps_ret pe_bl)) pss_nil)
  (pss_cons (ps_set (i := 6) sc_law.nd rfl (Or.inl rfl) (pcall g_l_answers hr (pa_cons (pv 0) (pa_cons (pv 3) (pa_cons (pe_op op_mod (pv 2) pe_int) pa_nil)))))
  (pss_cons (ps_set (i := 7) sc_law.nd rfl (Or.inl rfl) (pe_callTy call_list_ofS rfl T.list bt_list (pa_cons (pv 6) pa_nil)))
  (pss_cons (ps_set (i := 8) sc_law.nd rfl (Or.inl rfl) (pmeth (pv 4) T.cl g_m_beat hr (pa_cons (pv 7) pa_nil)))
  (pss_cons (ps_if (pt_cmpR (op_neD hr.units) (pv 7) (pv 6) (nomark _)) (pss_one (ps_ret pe_bl)) pss_nil)
  (pss_cons (ps_expr (pe_bm0 PySem.F.plainAttrs_list PySem.F.slot_list_clear PySem.F.type_list_clear mt_clear (pv 7)))
  (pss_cons (ps_set (i := 9) sc_law.nd rfl (Or.inl rfl) pe_dnewK)
  (pss_cons (ps_for PassesOwn.never rfl (pi_tup (pv 3)) (pg_name (i := 10) sc_law.nd rfl (Or.inl rfl))
  (pss_one (ps_dput (hu_of hr) (pv 9) (pv 10) (pcall g_l_words hr (pa_cons (pv 6) (pa_cons (pe_op op_mod (pv 2) pe_int) (pa_cons (pv 10) pa_nil)))) rfl)))
  (pss_cons (ps_if (pt_not (pt_val (pcall g_l_are_events hr (pa_cons (pv 8) (pa_cons (pcall g_l_due hr (pa_cons (pv 3) (pa_cons (pv 2) (pa_cons (pv 9) pa_nil)))) pa_nil))))) (pss_one (ps_ret pe_bl)) pss_nil)
  (pss_cons (ps_expr (pe_bm0 PySem.F.plainAttrs_list PySem.F.slot_list_clear PySem.F.type_list_clear mt_clear (pv 8)))
  (pss_cons (ps_set (i := 11) sc_law.nd rfl (Or.inl rfl) (pcall g_l_standing hr (pa_cons (pv 3) (pa_cons (pv 2) (pa_cons (pv 9) pa_nil)))))
  (pss_cons (ps_if (pt_not (pt_val (pcall g_l_told hr (pa_cons (pv 4) (pa_cons (pv 3) (pa_cons (pv 11) pa_nil)))))) (pss_one (ps_ret pe_bl)) pss_nil)
  (pss_cons (ps_set (i := 12) sc_law.nd rfl (Or.inl rfl) (pcall g_l_bag hr (pa_cons (pv 0) (pa_cons pe_int pa_nil))))
  (pss_cons (ps_set (i := 13) sc_law.nd rfl (Or.inl rfl) (pe_ix ix_list (@pe_lstS _ _ _ _ (@pa_cons _ _ _ _ _ (@pe_int _ _ _ _) (@pa_cons _ _ _ _ _ (@pe_int _ _ _ _) (@pa_cons _ _ _ _ _ pe_bl (@pa_cons _ _ _ _ _ (pe_lstS (pa_cons pe_int pa_nil)) (@pa_cons _ _ _ _ _ (@pe_str _ _ _ _) (@pa_cons _ _ _ _ _ pe_non (@pa_cons _ _ _ _ _ (pe_op op_add pe_int (pcall g_l_take hr (pa_cons (pv 12) (pa_cons pe_int pa_nil)))) (@pa_cons _ _ _ _ _ (pe_un un_neg pe_int) (@pa_nil _) st_un) st_bin) st_const) st_const) st_lst) st_const) st_const) st_const)) (pcall g_l_take hr (pa_cons (pv 12) (pa_cons pe_int pa_nil))) (fun _ _ => rfl)))
  (pss_cons (ps_if (PW.pt (pw_and (pt_val (pcall g_l_whole hr (pa_cons (pv 13) pa_nil))) (pw_and1 (pt_cmpR op_in_seq (pv 13) (pv 3) (by with_unfolding_all rfl))))) (pss_one (ps_ret (pe_cmpR op_eq (pcall g_l_refused hr (pa_cons (pv 4) (pa_cons (pv 13) pa_nil))) pe_str (nomark _)))) pss_nil)
  (pss_cons (ps_if (PW.pt (pw_or (pt_cmpR op_ne (pcall g_l_refused hr (pa_cons (pv 4) (pa_cons (pv 13) pa_nil))) pe_str (nomark _)) (pw_or (pt_cmpR (op_neD hr.units) (pmeth0 (pv 5) T.cl g_m_heard_now hr) (pe_lstS pa_nil) (nomark _)) (pw_or1 (pt_cmpR (op_neD hr.units) (pmeth0 (pv 5) T.cl g_m_lost hr) (pe_lstS pa_nil) (nomark _)))))) (pss_one (ps_ret pe_bl)) pss_nil)
  (pss_one (ps_ret (pe_and (pcall g_l_told hr (pa_cons (pv 4) (pa_cons (pv 3) (pa_cons (pv 11) pa_nil)))) (pe_one (pe_cmpR op_eq (pmeth0 (pv 4) T.cl g_m_turn hr) (pe_op op_mod (pe_op op_add (pv 2) pe_int) pe_int) (nomark _))))))))))))))))))))))))))), ?_⟩
  refine ⟨_, rfl, sa, ns, 0, rfl, hS, h63, by decide, by decide, fun b0 o hb0 hb => ?_⟩
  have sb0 := same_new hb0 o
  generalize upd H b0 o = H0 at *
  refine ⟨_, rfl, b0, _, 10, rfl, hb, by decide, by decide, by decide, fun r H1 r0 r1 hb1 sb1 => ?_⟩
  obtain ⟨bt, rfl⟩ := Int.eq_ofNat_of_zero_le r0
  refine ⟨_, rfl, b0, _, rfl, hb1, by decide, fun oa n a H2 fo ho ap n1 n30 abd hb2 sb2 => ?_⟩
  have s2 : Same H H2 := (sb0.stepB sb1 hb0).stepB sb2 hb0
  have lr : ∀ g : Nat → V, ((List.range n).map g).length = n := fun g => by rw [List.length_map, List.length_range]
  clear hb1 sb1 hb2 sb2 hb sb0
  -- the first talk
  refine ⟨_, rfl, fun p dx hp hdx ndx => ?_⟩
  have s3 : Same H2 (upd (upd H2 dx (.own p)) p (.ins C dx [])) := (same_new hdx _).trans (same_new (by rw [upd_ne ndx.symm]; exact hp) _)
  have hpx : (upd (upd H2 dx (.own p)) p (.ins C dx [])) p = some (.ins C dx []) := upd_same
  generalize upd (upd H2 dx (.own p)) p (.ins C dx []) = Hx at *
  refine ⟨p, dx, oa, n, a, rfl, hpx, s3 _ _ ho, ap, n30, fun d1 d2 d3 d4 H3 f1 f2 f3 f4 R sb => ⟨rfl, ?_⟩⟩
  have s23 : Same H2 H3 := s3.stepB sb hp
  have fA : ∀ x, x ∈ [p, d1, d2, d3, d4] → H x = none := fun x hx => by
    simp only [List.mem_cons, List.not_mem_nil, or_false] at hx
    rcases hx with rfl | rfl | rfl | rfl | rfl
    · exact s2.free hp
    · exact (s2.trans s3).free f1
    · exact (s2.trans s3).free f2
    · exact (s2.trans s3).free f3
    · exact (s2.trans s3).free f4
  have sH3 := s2.trans s23
  have ho3 := s23 _ _ ho
  clear f1 f2 f3 f4 sb hpx s3 hp hdx ndx s23
  -- the second
  refine ⟨_, rfl, fun p' dy hp' hdy ndy => ?_⟩
  have s4 : Same H3 (upd (upd H3 dy (.own p')) p' (.ins C dy [])) := (same_new hdy _).trans (same_new (by rw [upd_ne ndy.symm]; exact hp') _)
  have hpy : (upd (upd H3 dy (.own p')) p' (.ins C dy [])) p' = some (.ins C dy []) := upd_same
  generalize upd (upd H3 dy (.own p')) p' (.ins C dy []) = Hy at *
  refine ⟨p', dy, oa, n, a, rfl, hpy, s4 _ _ ho3, ap, n30, fun e1 e2 e3 e4 H4 f1 f2 f3 f4 R' sb => ⟨rfl, ?_⟩⟩
  have s34 : Same H3 H4 := s4.stepB sb hp'
  have fB : ∀ x, x ∈ [p', e1, e2, e3, e4] → H3 x = none := fun x hx => by
    simp only [List.mem_cons, List.not_mem_nil, or_false] at hx
    rcases hx with rfl | rfl | rfl | rfl | rfl
    · exact hp'
    · exact s4.free f1
    · exact s4.free f2
    · exact s4.free f3
    · exact s4.free f4
  have dis : ∀ x, x ∈ [p', e1, e2, e3, e4] → x ∉ [p, d1, d2, d3, d4] := fun x h2 h1 => by
    obtain ⟨o, e⟩ := talk_inB R h1
    rw [fB x h2] at e
    cases e
  have R'keep : ∀ HF HG, TalkAt C HF p' e1 e2 e3 e4 n a 0 s0 → SameT [p, d1, d2, d3, d4] HF HG → TalkAt C HG p' e1 e2 e3 e4 n a 0 s0 := fun HF HG RF k => RF.sameT k ⟨dis _ (by simp), dis _ (by simp), dis _ (by simp), dis _ (by simp), dis _ (by simp)⟩
  have R4 := R.same s34
  have sH4 := sH3.trans s34
  have ho4 := s34 _ _ ho3
  clear f1 f2 f3 f4 sb hpy s4 hp' hdy ndy R s34 ho3 sH3 fB ho s2
  -- the beats ahead
  refine ⟨_, rfl, _, rfl, _, rfl, p, d1, d2, d3, d4, oa, n, bt, a, rfl, R4, ho4, by omega, fun H5 R5 k5 => ⟨_, rfl, iteF ?_⟩⟩
  have sH5 : Same H H5 := k5.same sH4 fA
  have ho5 := k5 _ _ ho4 (mem5' (R4.nin (.inr (.inr ⟨_, ho4⟩))))
  have R5' := R'keep _ _ R' k5
  clear k5 sH4 ho4 R4 R'
  -- the answers
  refine ⟨_, rfl, _, rfl, _, rfl, _, _, rfl, rfl, (by show (0 : Int) < 8; decide), sa, oa, ns, n, a, _, rfl, sH5.seq hS, h63, ho5, n1, n30, fun la xs H6 fla ela lx tgs s6 => ?_⟩
  have tg6 : ∀ x ∈ xs, Tg H6 x := fun x hx => (tgs x hx).1
  refine ⟨_, rfl, la, _, rfl, .inl (SqL.of ela), fun lh H7 flh elh s7 => ?_⟩
  have s57 := s6.trans s7
  have R7 := R5.same s57
  have R7' := R5'.same s57
  have ho7 := s57 _ _ ho5
  have nll : la ≠ lh := ne_of_none ela flh
  have nxh : ∀ x ∈ xs, x ≠ .ref lh := fun x hx => (tg6 x hx).nref flh
  have ela7 := s7 _ _ ela
  have tg7 : ∀ x ∈ xs, Tg H7 x := fun x hx => (tg6 x hx).same s7
  have sH7 := sH5.trans s57
  have flh0 : H lh = none := (sH5.trans s6).free flh
  clear s57 s7 s6 ela tg6 tgs sH5 ho5 R5 R5'
  obtain ⟨dx, hp⟩ := R7.ins
  have fla7 : la ∉ [p, d1, d2, d3, d4] := mem5' (R7.nin (.inr (.inl ⟨_, ela7⟩)))
  have flh7 : lh ∉ [p, d1, d2, d3, d4] := mem5' (R7.nin (.inr (.inl ⟨_, elh⟩)))
  refine ⟨_, rfl, p, dx, _, rfl, hp, fno (by decide +kernel), _, rfl, p, d1, d2, d3, d4, n, a, bt, fun _ => sB bt, lh, xs, osOf H7 xs, rfl, R7, elh, ans_of tg7, by omega, fun le es H8 fle ele pev R8 k8 => ?_⟩
  generalize hws : (fun j => wsOf ((bt : Int) % 8) (a j) (osOf H7 xs)) = ws at pev R8
  have R8 : TalkAt C H8 p d1 d2 d3 d4 n a (bt + 1) (sA bt ws) := R8.congr fun j hj => if_pos hj
  have ela8 := k8 _ _ ela7 fla7
  have elh8 := k8 _ _ elh flh7
  have tg8 : ∀ x ∈ xs, Tg H8 x := fun x hx => (tg7 x hx).sameT R7 k8
  have eos : osOf H8 xs = osOf H7 xs := os_keep tg7 (fun q ys e => k8 _ _ e (mem5' (R7.nin (.inr (.inr ⟨_, e⟩))))) (fun q ys e => ⟨ys, k8 _ _ e (mem5' (R7.nin (.inr (.inl ⟨_, e⟩))))⟩)
  have R8' := R'keep _ _ R7' k8
  have ho8 := k8 _ _ ho7 (mem5' (R7.nin (.inr (.inr ⟨_, ho7⟩))))
  have sH8 : Same H H8 := k8.same sH7 fA
  have nle : lh ≠ le := ne_of_none elh fle
  have nle2 : la ≠ le := ne_of_none ela7 fle
  have fle0 : H le = none := sH7.free fle
  clear k8 R7 R7' ho7 sH7 fla7 flh7 ela7 elh tg7 fle hp
  -- what is handed in stays
  obtain ⟨dA, dB, r1', r2', sh1, sh2, eqD⟩ := same_eq elh8 ela8 tg8
  refine ⟨_, rfl, _, rfl, dA, dB, r1', r2', sh1, sh2, _, rfl, ?_⟩
  rw [eqD]
  refine iteF ⟨_, rfl, .inl ⟨rfl, _, SqL.of elh8⟩, lh, _, rfl, rfl, elh8, ?_⟩
  have R9 : TalkAt C (upd H8 lh (.lst [])) p d1 d2 d3 d4 n a (bt + 1) (sA bt ws) := R8.off (R8.nin (.inr (.inl ⟨_, elh8⟩)))
  have R9' : TalkAt C (upd H8 lh (.lst [])) p' e1 e2 e3 e4 n a 0 s0 := R8'.off (R8'.nin (.inr (.inl ⟨_, elh8⟩)))
  have sb9 : SameB lh H8 (upd H8 lh (.lst [])) := SameB.upd
  have tg9 : ∀ x ∈ xs, Tg (upd H8 lh (.lst [])) x := fun x hx => (tg8 x hx).updL (nxh x hx) elh8
  have eos9 : osOf (upd H8 lh (.lst [])) xs = osOf H8 xs := os_keep tg8 (fun q ys e => by rw [upd_ne (fun z => by rw [z, elh8] at e; cases e)]; exact e) (fun q ys e => by
    by_cases z : q = lh
    · exact ⟨[], by rw [z, upd_same]⟩
    · exact ⟨ys, by rw [upd_ne z]; exact e⟩)
  dsimp only
  generalize upd H8 lh (.lst []) = H9 at *
  have ho9 := sb9 _ _ ho8 (fun z => by rw [z, elh8] at ho8; cases ho8)
  have ela9 := sb9 _ _ ela8 nll
  have ele9 := sb9 _ _ ele nle.symm
  have pev9 : Paired (EvAt H9) es (evsTo n a (fun _ => sB bt) ws) := Paired.mapP pev fun _ _ ⟨t, e, ht⟩ => ⟨t, e, sb9 _ _ ht fun z => by rw [z, elh8] at ht; cases ht⟩
  have sH9 : Same H H9 := sH8.stepB sb9 flh0
  have po9 : Paired (AnsAt H9) xs (osOf H7 xs) := by
    have := ans_of tg9
    rw [eos9, eos] at this
    exact this
  clear sb9 sH8 ho8 ela8 ele pev R8 R8' tg8 tg9 eos9 eos elh8 r1' r2' sh1 sh2 eqD
  -- the words
  refine fun wd hwd => ?_
  have s10 := same_new hwd (.dK [])
  refine ⟨_, rfl, oa, rfl, ⟨_, SqT.of (s10 _ _ ho9)⟩, ?_⟩
  refine for_tup (xs := (List.range n).map fun j => V.int (a j)) (fun i σ HH => ∃ (u : Option V) (qa : Nat → Addr), σ = [some (.ref sa), some (.ref b0), some (.int (bt : Int)), some (.ref oa), some (.ref p), some (.ref p'), some (.ref la), some (.ref lh), some (.ref le), some (.ref wd), u, none, none, none] ∧ HH wd = some (.dK (dk i a fun j => .ref (qa j))) ∧ (∀ j, j < i → H9 (qa j) = none ∧ qa j ≠ wd ∧ HH (qa j) = some (.lst (iv (ws j)))) ∧ Same H9 HH) ⟨_, fun _ => 0, rfl, upd_same, (fun j hj => absurd hj (Nat.not_lt_zero _)), s10⟩ (fun i σ HH _ h => ?_) (fun i x σ HH hx h => ?_) (fun σ HH h => ?_)
  · obtain ⟨u, qa, rfl, g1, g2, g3⟩ := h
    exact SqT.of (g3 _ _ ho9)
  · obtain ⟨u, qa, rfl, g1, g2, g3⟩ := h
    obtain ⟨hi, rfl⟩ := rg_get hx
    refine ⟨_, rfl, _, rfl, _, _, rfl, rfl, (by show (0 : Int) < 8; decide), _, rfl, la, xs, osOf H7 xs, _, a i, rfl, g3 _ _ ela9, Paired.mapP po9 fun _ _ z => z.same g3, by omega, fun l HI fl el sI => ?_⟩
    have el : HI l = some (.lst (iv (ws i))) := by rw [← hws]; exact el
    have nld : l ≠ wd := (ne_of_none g1 fl).symm
    refine ⟨_, rfl, _, rfl, wd, _, rfl, DPut.k (k := .inl (a i)) (sI _ _ g1) (by rw [dk_len]; exact small1000 (by omega)), _, upF qa i l, rfl, ?_, fun j hj => ?_, (g3.trans sI).stepB SameB.upd hwd⟩
    · rw [upd_same]
      have e1 : dk i a (fun j => V.ref (qa j)) = dk i a (fun j => V.ref (upF qa i l j)) := dk_congr fun j hj => by rw [upF_ne _ _ (by omega)]
      have e2 := dk_new (v := fun j => V.ref (upF qa i l j)) ap hi
      simp only [upF_at] at e2
      rw [e1, e2]
    · by_cases hji : j = i
      · subst hji
        rw [upF_at]
        exact ⟨g3.free fl, nld, by rw [upd_ne nld]; exact el⟩
      · rw [upF_ne _ _ hji]
        obtain ⟨k1, k2, k3⟩ := g2 j (by omega)
        exact ⟨k1, k2, by rw [upd_ne k2]; exact sI _ _ k3⟩
  obtain ⟨u, qa, rfl, g1, g2, g3⟩ := h
  rw [lr] at g1 g2
  have evl := evsTo_len n a (fun _ => sB bt) ws
  -- the events
  refine ⟨_, rfl, _, rfl, _, rfl, _, rfl, oa, wd, n, bt, a, qa, ws, rfl, g3 _ _ ho9, ap, n30, g1, (fun j hj => (g2 j hj).2.2), fun ld ed HI fld eld pld sI => ?_⟩
  have g3I := g3.trans sI
  refine ⟨le, ld, es, ed, _, rfl, g3I _ _ ele9, Evs.same pev9 g3I, eld, pld, by omega, evs_okB _ _ _ _, fun HJ sJ => ⟨_, rfl, iteF ?_⟩⟩
  have kJ := g3I.trans sJ
  have eleJ := kJ _ _ ele9
  refine ⟨_, rfl, .inl ⟨rfl, _, SqL.of eleJ⟩, le, _, rfl, rfl, eleJ, ?_⟩
  have RK : TalkAt C (upd HJ le (.lst [])) p d1 d2 d3 d4 n a (bt + 1) (sA bt ws) := (R9.same kJ).off ((R9.same kJ).nin (.inr (.inl ⟨_, eleJ⟩)))
  have RK' : TalkAt C (upd HJ le (.lst [])) p' e1 e2 e3 e4 n a 0 s0 := (R9'.same kJ).off ((R9'.same kJ).nin (.inr (.inl ⟨_, eleJ⟩)))
  have sbK : SameB le HJ (upd HJ le (.lst [])) := SameB.upd
  have sHK : Same H (upd HJ le (.lst [])) := (sH9.trans kJ).stepB sbK fle0
  dsimp only
  generalize upd HJ le (.lst []) = HK at *
  have hoK := sbK _ _ (kJ _ _ ho9) (fun z => by rw [z, ele9] at ho9; cases ho9)
  have wdK := sbK _ _ (sJ _ _ (sI _ _ g1)) (ne_of_none ele9 hwd).symm
  have qaK : ∀ j, j < n → HK (qa j) = some (.lst (iv (ws j))) := fun j hj => sbK _ _ (sJ _ _ (sI _ _ (g2 j hj).2.2)) (ne_of_none ele9 (g2 j hj).1).symm
  clear sbK eleJ kJ g3I sJ sI g1 g2 g3 ho9 ela9 ele9 pev9 sH9 po9 R9 R9' s10 hwd eld pld fld
  -- how they stand
  refine ⟨_, rfl, _, rfl, _, rfl, oa, wd, n, bt, a, qa, ws, rfl, hoK, ap, n30, wdK, qaK, fun td lhd lst dl HL _ _ _ etd elhd elst edl sL => ?_⟩
  have RL := RK.same sL
  refine ⟨_, rfl, _, rfl, _, rfl, p, d1, d2, d3, d4, n, a, bt, sA bt ws, oa, td, lhd, lst, dl, rfl, RL, sL _ _ hoK, etd, elhd, elst, edl, fun HM sM => ⟨_, rfl, iteF ?_⟩⟩
  have sLM := sL.trans sM
  have sHM := sHK.trans sLM
  -- a stranger
  refine ⟨_, rfl, sa, ns, 1, rfl, sHM.seq hS, h63, by decide, by decide, fun b1 o1 hb1 hbb => ?_⟩
  have sn := same_new hb1 o1
  generalize upd HM b1 o1 = HN at *
  refine ⟨leSize (by show 1 ≤ 1000; decide), fun l1 HA fl1 el1 sA1 => ?_⟩
  refine ⟨_, rfl, b1, _, 99, rfl, hbb.same sA1, by decide, by decide, by decide, fun y HB y0 y1 hbB sbB => ⟨_, _, rfl, rfl, _, rfl, leSize (by show 8 ≤ 1000; decide), fun lu HC flu elu sC => ⟨_, rfl, b1, _, 8, rfl, hbB.same sC, by decide, by decide, by decide, fun rr HD rr0 rr1 hbD sbD => ?_⟩⟩⟩
  obtain ⟨v, hv, vc⟩ := at_unk (y := 1 + y) (l := l1) rr0 rr1
  have nbl : b1 ≠ l1 := hbb.nb fl1
  have nbu : b1 ≠ lu := hbB.nb flu
  refine ⟨lu, _, _, _, rfl, rfl, SqL.of (sbD _ _ elu nbu.symm), hv, ?_⟩
  have sMD : Same HM HD := (sn.trans sA1).stepB (sbB.trans ((SameB.of sC).trans sbD)) hb1
  have el1D : HD l1 = some (.lst [.int 1]) := sbD _ _ (sC _ _ (sbB _ _ el1 nbl.symm)) nbl.symm
  have kn : Kn HD v := by
    rcases vc with ⟨i, rfl⟩ | rfl | rfl | rfl | rfl
    · exact True.intro
    · exact True.intro
    · exact .inl ⟨_, el1D⟩
    · exact True.intro
    · exact True.intro
  have sKD := sLM.trans sMD
  have sLD := sM.trans sMD
  have RD := RK.same sKD
  have RD' := RK'.same sKD
  have hoD := sKD _ _ hoK
  have hoD' : HD oa = some (.tup (iv ((List.range n).map a))) := by
    rw [hoD]
    unfold iv
    rw [List.map_map]
    rfl
  have etdD := sLD _ _ etd
  have elhdD := sLD _ _ elhd
  have elstD := sLD _ _ elst
  have edlD := sLD _ _ edl
  clear sKD sLD sMD sLM sHM sL sM sn sA1 sC sbB sbD hbb hbB hbD elu flu el1 fl1 hb1 etd elhd elst edl RL RK RK' hoK wdK qaK sHK hv vc el1D
  refine gset ?_
  dsimp only
  show tSeq (tIfS _ _ _) _ _ _ _
  refine seq_splitR (fun σ HF => σ = [some (.ref sa), some (.ref b0), some (.int (bt : Int)), some (.ref oa), some (.ref p), some (.ref p'), some (.ref la), some (.ref lh), some (.ref le), some (.ref wd), u, some (.ref td), some (.ref b1), some v] ∧ HF = HD ∧ ∀ i, i < n → v ≠ .int (a i)) (fun σ HF h => ?_) (fun N hN => ?_)
  · obtain ⟨rfl, rfl, no⟩ := h
    refine ⟨_, rfl, _, rfl, p, d1, d2, d3, d4, n, a, bt + 1, sA bt ws, v, rfl, RD, kn, (fun i hi e => absurd e (no i hi)), fun _ HE sE => ⟨rfl, _, rfl, iteNS rfl ?_⟩⟩
    have RE' := RD'.same sE
    obtain ⟨dy, hp'⟩ := RE'.ins
    refine ⟨_, rfl, p', dy, _, rfl, hp', fno (by decide +kernel), p', e1, e2, e3, e4, n, a, 0, s0, rfl, RE', fun l4 H4 f4 e4' s4 => ⟨leSize (by show 0 ≤ 1000; decide), fun l5 H5 f5 e5 s5 => ?_⟩⟩
    have e4' : H4 l4 = some (.lst (iv [])) := e4'
    refine ⟨_, _, .lst (s5 _ _ e4') (ints_reps []), .lst e5 (ints_reps []), ints_shaped [], ints_shaped [], _, rfl, ?_⟩
    rw [ints_eqv, decide_eq_true rfl]
    have s45 := s4.trans s5
    refine iteF ⟨_, rfl, p', dy, _, rfl, s45 _ _ hp', fno (by decide +kernel), p', e1, e2, e3, e4, n, a, 0, s0, rfl, RE'.same s45, fun l6 H6 f6 e6' s6 => ⟨leSize (by show 0 ≤ 1000; decide), fun l7 H7' f7 e7 s7 => ?_⟩⟩
    have e6' : H6 l6 = some (.lst (iv [])) := by
      rw [e6', sel_nil (f := fun j => (s0 j).g) fun j _ => rfl]
    refine ⟨_, _, .lst (s7 _ _ e6') (ints_reps []), .lst e7 (ints_reps []), ints_shaped [], ints_shaped [], _, rfl, ?_⟩
    rw [ints_eqv, decide_eq_true rfl]
    have s47 := sE.trans (s45.trans (s6.trans s7))
    refine iteF ⟨_, rfl, _, rfl, _, rfl, p, d1, d2, d3, d4, n, a, bt, sA bt ws, oa, td, lhd, lst, dl, rfl, RD.same s47, s47 _ _ hoD, s47 _ _ etdD, s47 _ _ elhdD, s47 _ _ elstD, s47 _ _ edlD, fun HZ sZ => ⟨_, rfl, iteT ?_⟩⟩
    obtain ⟨dz, hpz⟩ := ((RD.same s47).same sZ).ins
    refine ⟨_, rfl, p, dz, _, rfl, hpz, fno (by decide +kernel), p, dz, bt + 1, d1, d2, d3, d4, rfl, hpz, _, rfl, _, _, rfl, rfl, _, _, rfl, rfl, (by show (0 : Int) < 8; decide), rfl, ?_⟩
    have : (decide (V.int (((bt + 1 : Nat) : Int) % 8) = V.int (((bt : Int) + 1) % 8))) = true := decide_eq_true (by rw [Int.natCast_add]; rfl)
    show Q (.bl (decide (V.int (((bt + 1 : Nat) : Int) % 8) = V.int (((bt : Int) + 1) % 8)))) _
    rw [this]
    exact q _
  refine ⟨_, rfl, v, rfl, kn, _, rfl, ?_⟩
  cases ew : isW v with
  | false => exact iteF (hN _ _ ⟨rfl, rfl, fun i _ z => by rw [z] at ew; cases ew⟩)
  | true =>
  obtain ⟨x, rfl⟩ := isW_int ew
  refine iteT ⟨_, rfl, _, rfl, oa, _, rfl, .inr (SqT.of hoD'), rfl, iv_flat _, _, rfl, ?_⟩
  rw [inV_iv]
  by_cases hin : x ∈ (List.range n).map a
  · rw [decide_eq_true hin]
    obtain ⟨i, hi, rfl⟩ := List.mem_map.mp hin
    have hi := List.mem_range.mp hi
    refine iteT ⟨_, rfl, _, rfl, p, d1, d2, d3, d4, n, a, bt + 1, sA bt ws, .int (a i), rfl, RD, kn, (fun j hj e => ⟨rfl, q _⟩), fun no => absurd rfl (no i hi)⟩
  · rw [decide_eq_false hin]
    exact iteF (hN _ _ ⟨rfl, rfl, fun i hi z => hin (by rw [V.int.inj z]; exact List.mem_map.mpr ⟨i, List.mem_range.mpr hi, rfl⟩)⟩)
end
end K15

set_option Elab.async false
set_option linter.all false
set_option maxRecDepth 100000
set_option pp.maxSteps 300
set_option maxHeartbeats 4000000
namespace K15
open PySem L2
theorem kit13 {K : PySem.W.Frag} {C c0 c1 c2 c3 c4 c5 c6 c7 c8 c9 c10 c11 c12 : Addr} {j : Nat} (q0 : PySem.W.kitOne K (.ref C) (.ref c0) = some (decide (0 = j))) (q1 : PySem.W.kitOne K (.ref C) (.ref c1) = some (decide (1 = j))) (q2 : PySem.W.kitOne K (.ref C) (.ref c2) = some (decide (2 = j))) (q3 : PySem.W.kitOne K (.ref C) (.ref c3) = some (decide (3 = j))) (q4 : PySem.W.kitOne K (.ref C) (.ref c4) = some (decide (4 = j))) (q5 : PySem.W.kitOne K (.ref C) (.ref c5) = some (decide (5 = j))) (q6 : PySem.W.kitOne K (.ref C) (.ref c6) = some (decide (6 = j))) (q7 : PySem.W.kitOne K (.ref C) (.ref c7) = some (decide (7 = j))) (q8 : PySem.W.kitOne K (.ref C) (.ref c8) = some (decide (8 = j))) (q9 : PySem.W.kitOne K (.ref C) (.ref c9) = some (decide (9 = j))) (q10 : PySem.W.kitOne K (.ref C) (.ref c10) = some (decide (10 = j))) (q11 : PySem.W.kitOne K (.ref C) (.ref c11) = some (decide (11 = j))) (q12 : PySem.W.kitOne K (.ref C) (.ref c12) = some (decide (12 = j))) :
    ∀ i d, ([c0, c1, c2, c3, c4, c5, c6, c7, c8, c9, c10, c11, c12] : List Addr)[i]? = some d → PySem.W.kitOne K (.ref C) (.ref d) = some (decide (i = j)) := fun i d h => by
  match i, h with
  | 0, h => cases h; exact q0
  | 1, h => cases h; exact q1
  | 2, h => cases h; exact q2
  | 3, h => cases h; exact q3
  | 4, h => cases h; exact q4
  | 5, h => cases h; exact q5
  | 6, h => cases h; exact q6
  | 7, h => cases h; exact q7
  | 8, h => cases h; exact q8
  | 9, h => cases h; exact q9
  | 10, h => cases h; exact q10
  | 11, h => cases h; exact q11
  | 12, h => cases h; exact q12
  | n + 13, h => cases h
theorem all_mk {l : PySem.W.OpenLaw} {w : World} {K : PySem.W.Frag} {h : Heap} {mg : Str → Option Value} {fa C f1 f2 f3 f4 f5 f6 f7 f8 f9 f10 f11 f12 f13 f14 f15 f16 f17 f18 f19 f20 f21 f22 f23 fm1 fm2 fm3 fm4 fm5 fm6 fm7 fm8 fm9 : Addr} (X : K.In h) (G : h.Ns mainGlobals mg) (hfa : mg "law" = some (.ref fa))
    {od1 an1 od2 an2 od3 an3 od4 an4 od5 an5 od6 an6 od7 an7 od8 an8 od9 an9 od10 an10 od11 an11 od12 an12 od13 an13 od14 an14 od15 an15 od16 an16 od17 an17 od18 an18 od19 an19 od20 an20 od21 an21 od22 an22 od23 an23 odm1 anm1 odm2 anm2 odm3 anm3 odm4 anm4 odm5 anm5 odm6 anm6 odm7 anm7 odm8 anm8 odm9 anm9 : Option Addr} {sl1 sl2 sl3 sl4 sl5 sl6 sl7 sl8 sl9 sl10 sl11 sl12 sl13 sl14 sl15 sl16 sl17 sl18 sl19 sl20 sl21 sl22 sl23 slm1 slm2 slm3 slm4 slm5 slm6 slm7 slm8 slm9 : Array (Option Value)} {oc1 kV1 dc1 pm1 cd1 ct1 oc2 kV2 dc2 pm2 cd2 ct2 oc3 kV3 dc3 pm3 cd3 ct3 oc4 kV4 dc4 pm4 cd4 ct4 oc5 kV5 dc5 pm5 cd5 ct5 oc6 kV6 dc6 pm6 cd6 ct6 oc7 kV7 dc7 pm7 cd7 ct7 oc8 kV8 dc8 pm8 cd8 ct8 oc9 kV9 dc9 pm9 cd9 ct9 oc10 kV10 dc10 pm10 cd10 ct10 oc11 kV11 dc11 pm11 cd11 ct11 oc12 kV12 dc12 pm12 cd12 ct12 oc13 kV13 dc13 pm13 cd13 ct13 oc14 kV14 dc14 pm14 cd14 ct14 oc15 kV15 dc15 pm15 cd15 ct15 oc16 kV16 dc16 pm16 cd16 ct16 oc17 kV17 dc17 pm17 cd17 ct17 oc18 kV18 dc18 pm18 cd18 ct18 oc19 kV19 dc19 pm19 cd19 ct19 oc20 kV20 dc20 pm20 cd20 ct20 oc21 kV21 dc21 pm21 cd21 ct21 oc22 kV22 dc22 pm22 cd22 ct22 oc23 kV23 dc23 pm23 cd23 ct23 ocm1 kVm1 dcm1 pmm1 cdm1 ctm1 ocm2 kVm2 dcm2 pmm2 cdm2 ctm2 ocm3 kVm3 dcm3 pmm3 cdm3 ctm3 ocm4 kVm4 dcm4 pmm4 cdm4 ctm4 ocm5 kVm5 dcm5 pmm5 cdm5 ctm5 ocm6 kVm6 dcm6 pmm6 cdm6 ctm6 ocm7 kVm7 dcm7 pmm7 cdm7 ctm7 ocm8 kVm8 dcm8 pmm8 cdm8 ctm8 ocm9 kVm9 dcm9 pmm9 cdm9 ctm9 : Value} {tk0 tk1 : Tok}
    (aC : PySem.W.nsIn K mainGlobals "Talk" = some (some (.ref C)))
    (am1 : PySem.W.findIn K (.ref C) "__init__" = some (some (.ref fm1))) (im1 : PySem.W.isFn K (.ref fm1) = true) (lm1 : K.lookup fm1 = some ⟨ocm1, odm1, .func (PySem.W.fnOf "__init__" "Talk.__init__" (defArgs s_Talk___init__) (defBody s_Talk___init__) (defScope s_Talk___init__) .none kVm1 dcm1 pmm1 anm1 cdm1 ctm1), slm1⟩) (cm1 : PySem.W.codeIn K cdm1 "Talk.__init__" = true) (km1 : PySem.W.keepIn K (.ref fm1) = true)
    (am2 : PySem.W.findIn K (.ref C) "turn" = some (some (.ref fm2))) (im2 : PySem.W.isFn K (.ref fm2) = true) (lm2 : K.lookup fm2 = some ⟨ocm2, odm2, .func (PySem.W.fnOf "turn" "Talk.turn" (defArgs s_Talk_turn) (defBody s_Talk_turn) (defScope s_Talk_turn) .none kVm2 dcm2 pmm2 anm2 cdm2 ctm2), slm2⟩) (cm2 : PySem.W.codeIn K cdm2 "Talk.turn" = true) (km2 : PySem.W.keepIn K (.ref fm2) = true)
    (am3 : PySem.W.findIn K (.ref C) "beat" = some (some (.ref fm3))) (im3 : PySem.W.isFn K (.ref fm3) = true) (lm3 : K.lookup fm3 = some ⟨ocm3, odm3, .func (PySem.W.fnOf "beat" "Talk.beat" (defArgs s_Talk_beat) (defBody s_Talk_beat) (defScope s_Talk_beat) .none kVm3 dcm3 pmm3 anm3 cdm3 ctm3), slm3⟩) (cm3 : PySem.W.codeIn K cdm3 "Talk.beat" = true) (km3 : PySem.W.keepIn K (.ref fm3) = true)
    (am4 : PySem.W.findIn K (.ref C) "count_words" = some (some (.ref fm4))) (im4 : PySem.W.isFn K (.ref fm4) = true) (lm4 : K.lookup fm4 = some ⟨ocm4, odm4, .func (PySem.W.fnOf "count_words" "Talk.count_words" (defArgs s_Talk_count_words) (defBody s_Talk_count_words) (defScope s_Talk_count_words) .none kVm4 dcm4 pmm4 anm4 cdm4 ctm4), slm4⟩) (cm4 : PySem.W.codeIn K cdm4 "Talk.count_words" = true) (km4 : PySem.W.keepIn K (.ref fm4) = true)
    (am5 : PySem.W.findIn K (.ref C) "hear" = some (some (.ref fm5))) (im5 : PySem.W.isFn K (.ref fm5) = true) (lm5 : K.lookup fm5 = some ⟨ocm5, odm5, .func (PySem.W.fnOf "hear" "Talk.hear" (defArgs s_Talk_hear) (defBody s_Talk_hear) (defScope s_Talk_hear) .none kVm5 dcm5 pmm5 anm5 cdm5 ctm5), slm5⟩) (cm5 : PySem.W.codeIn K cdm5 "Talk.hear" = true) (km5 : PySem.W.keepIn K (.ref fm5) = true)
    (am6 : PySem.W.findIn K (.ref C) "miss" = some (some (.ref fm6))) (im6 : PySem.W.isFn K (.ref fm6) = true) (lm6 : K.lookup fm6 = some ⟨ocm6, odm6, .func (PySem.W.fnOf "miss" "Talk.miss" (defArgs s_Talk_miss) (defBody s_Talk_miss) (defScope s_Talk_miss) .none kVm6 dcm6 pmm6 anm6 cdm6 ctm6), slm6⟩) (cm6 : PySem.W.codeIn K cdm6 "Talk.miss" = true) (km6 : PySem.W.keepIn K (.ref fm6) = true)
    (am7 : PySem.W.findIn K (.ref C) "word_of" = some (some (.ref fm7))) (im7 : PySem.W.isFn K (.ref fm7) = true) (lm7 : K.lookup fm7 = some ⟨ocm7, odm7, .func (PySem.W.fnOf "word_of" "Talk.word_of" (defArgs s_Talk_word_of) (defBody s_Talk_word_of) (defScope s_Talk_word_of) .none kVm7 dcm7 pmm7 anm7 cdm7 ctm7), slm7⟩) (cm7 : PySem.W.codeIn K cdm7 "Talk.word_of" = true) (km7 : PySem.W.keepIn K (.ref fm7) = true)
    (am8 : PySem.W.findIn K (.ref C) "lost" = some (some (.ref fm8))) (im8 : PySem.W.isFn K (.ref fm8) = true) (lm8 : K.lookup fm8 = some ⟨ocm8, odm8, .func (PySem.W.fnOf "lost" "Talk.lost" (defArgs s_Talk_lost) (defBody s_Talk_lost) (defScope s_Talk_lost) .none kVm8 dcm8 pmm8 anm8 cdm8 ctm8), slm8⟩) (cm8 : PySem.W.codeIn K cdm8 "Talk.lost" = true) (km8 : PySem.W.keepIn K (.ref fm8) = true)
    (am9 : PySem.W.findIn K (.ref C) "heard_now" = some (some (.ref fm9))) (im9 : PySem.W.isFn K (.ref fm9) = true) (lm9 : K.lookup fm9 = some ⟨ocm9, odm9, .func (PySem.W.fnOf "heard_now" "Talk.heard_now" (defArgs s_Talk_heard_now) (defBody s_Talk_heard_now) (defScope s_Talk_heard_now) .none kVm9 dcm9 pmm9 anm9 cdm9 ctm9), slm9⟩) (cm9 : PySem.W.codeIn K cdm9 "Talk.heard_now" = true) (km9 : PySem.W.keepIn K (.ref fm9) = true)
    (a1 : PySem.W.nsIn K mainGlobals "is_whole" = some (some (.ref f1))) (l1 : K.lookup f1 = some ⟨oc1, od1, .func (PySem.W.fnOf "is_whole" "is_whole" (defArgs s_is_whole) (defBody s_is_whole) (defScope s_is_whole) .none kV1 dc1 pm1 an1 cd1 ct1), sl1⟩) (c1 : PySem.W.codeIn K cd1 "is_whole" = true) (k1 : PySem.W.keepIn K (.ref f1) = true)
    (a2 : PySem.W.nsIn K mainGlobals "is_within" = some (some (.ref f2))) (l2 : K.lookup f2 = some ⟨oc2, od2, .func (PySem.W.fnOf "is_within" "is_within" (defArgs s_is_within) (defBody s_is_within) (defScope s_is_within) .none kV2 dc2 pm2 an2 cd2 ct2), sl2⟩) (c2 : PySem.W.codeIn K cd2 "is_within" = true) (k2 : PySem.W.keepIn K (.ref f2) = true)
    (a3 : PySem.W.nsIn K mainGlobals "is_row" = some (some (.ref f3))) (l3 : K.lookup f3 = some ⟨oc3, od3, .func (PySem.W.fnOf "is_row" "is_row" (defArgs s_is_row) (defBody s_is_row) (defScope s_is_row) .none kV3 dc3 pm3 an3 cd3 ct3), sl3⟩) (c3 : PySem.W.codeIn K cd3 "is_row" = true) (k3 : PySem.W.keepIn K (.ref f3) = true)
    (a4 : PySem.W.nsIn K mainGlobals "are_wholes" = some (some (.ref f4))) (l4 : K.lookup f4 = some ⟨oc4, od4, .func (PySem.W.fnOf "are_wholes" "are_wholes" (defArgs s_are_wholes) (defBody s_are_wholes) (defScope s_are_wholes) .none kV4 dc4 pm4 an4 cd4 ct4), sl4⟩) (c4 : PySem.W.codeIn K cd4 "are_wholes" = true) (k4 : PySem.W.keepIn K (.ref f4) = true)
    (a5 : PySem.W.nsIn K mainGlobals "frame" = some (some (.ref f5))) (l5 : K.lookup f5 = some ⟨oc5, od5, .func (PySem.W.fnOf "frame" "frame" (defArgs s_frame) (defBody s_frame) (defScope s_frame) .none kV5 dc5 pm5 an5 cd5 ct5), sl5⟩) (c5 : PySem.W.codeIn K cd5 "frame" = true) (k5 : PySem.W.keepIn K (.ref f5) = true)
    (a6 : PySem.W.nsIn K mainGlobals "is_frame" = some (some (.ref f6))) (l6 : K.lookup f6 = some ⟨oc6, od6, .func (PySem.W.fnOf "is_frame" "is_frame" (defArgs s_is_frame) (defBody s_is_frame) (defScope s_is_frame) .none kV6 dc6 pm6 an6 cd6 ct6), sl6⟩) (c6 : PySem.W.codeIn K cd6 "is_frame" = true) (k6 : PySem.W.keepIn K (.ref f6) = true)
    (a7 : PySem.W.nsIn K mainGlobals "_law_bag" = some (some (.ref f7))) (l7 : K.lookup f7 = some ⟨oc7, od7, .func (PySem.W.fnOf "_law_bag" "_law_bag" (defArgs s_l_bag) (defBody s_l_bag) (defScope s_l_bag) .none kV7 dc7 pm7 an7 cd7 ct7), sl7⟩) (c7 : PySem.W.codeIn K cd7 "_law_bag" = true) (k7 : PySem.W.keepIn K (.ref f7) = true)
    (a8 : PySem.W.nsIn K mainGlobals "_law_take" = some (some (.ref f8))) (l8 : K.lookup f8 = some ⟨oc8, od8, .func (PySem.W.fnOf "_law_take" "_law_take" (defArgs s_l_take) (defBody s_l_take) (defScope s_l_take) .none kV8 dc8 pm8 an8 cd8 ct8), sl8⟩) (c8 : PySem.W.codeIn K cd8 "_law_take" = true) (k8 : PySem.W.keepIn K (.ref f8) = true)
    (a9 : PySem.W.nsIn K mainGlobals "_law_whole" = some (some (.ref f9))) (l9 : K.lookup f9 = some ⟨oc9, od9, .func (PySem.W.fnOf "_law_whole" "_law_whole" (defArgs s_l_whole) (defBody s_l_whole) (defScope s_l_whole) .none kV9 dc9 pm9 an9 cd9 ct9), sl9⟩) (c9 : PySem.W.codeIn K cd9 "_law_whole" = true) (k9 : PySem.W.keepIn K (.ref f9) = true)
    (a10 : PySem.W.nsIn K mainGlobals "_law_kind" = some (some (.ref f10))) (l10 : K.lookup f10 = some ⟨oc10, od10, .func (PySem.W.fnOf "_law_kind" "_law_kind" (defArgs s_l_kind) (defBody s_l_kind) (defScope s_l_kind) .none kV10 dc10 pm10 an10 cd10 ct10), sl10⟩) (c10 : PySem.W.codeIn K cd10 "_law_kind" = true) (k10 : PySem.W.keepIn K (.ref f10) = true)
    (a11 : PySem.W.nsIn K mainGlobals "_law_frame" = some (some (.ref f11))) (l11 : K.lookup f11 = some ⟨oc11, od11, .func (PySem.W.fnOf "_law_frame" "_law_frame" (defArgs s_l_frame) (defBody s_l_frame) (defScope s_l_frame) .none kV11 dc11 pm11 an11 cd11 ct11), sl11⟩) (c11 : PySem.W.codeIn K cd11 "_law_frame" = true) (k11 : PySem.W.keepIn K (.ref f11) = true)
    (a12 : PySem.W.nsIn K mainGlobals "_law_is_frame" = some (some (.ref f12))) (l12 : K.lookup f12 = some ⟨oc12, od12, .func (PySem.W.fnOf "_law_is_frame" "_law_is_frame" (defArgs s_l_is_frame) (defBody s_l_is_frame) (defScope s_l_is_frame) .none kV12 dc12 pm12 an12 cd12 ct12), sl12⟩) (c12 : PySem.W.codeIn K cd12 "_law_is_frame" = true) (k12 : PySem.W.keepIn K (.ref f12) = true)
    (a13 : PySem.W.nsIn K mainGlobals "_law_addresses" = some (some (.ref f13))) (l13 : K.lookup f13 = some ⟨oc13, od13, .func (PySem.W.fnOf "_law_addresses" "_law_addresses" (defArgs s_l_addresses) (defBody s_l_addresses) (defScope s_l_addresses) .none kV13 dc13 pm13 an13 cd13 ct13), sl13⟩) (c13 : PySem.W.codeIn K cd13 "_law_addresses" = true) (k13 : PySem.W.keepIn K (.ref f13) = true)
    (a14 : PySem.W.nsIn K mainGlobals "_law_are_events" = some (some (.ref f14))) (l14 : K.lookup f14 = some ⟨oc14, od14, .func (PySem.W.fnOf "_law_are_events" "_law_are_events" (defArgs s_l_are_events) (defBody s_l_are_events) (defScope s_l_are_events) .none kV14 dc14 pm14 an14 cd14 ct14), sl14⟩) (c14 : PySem.W.codeIn K cd14 "_law_are_events" = true) (k14 : PySem.W.keepIn K (.ref f14) = true)
    (a15 : PySem.W.nsIn K mainGlobals "_law_answer" = some (some (.ref f15))) (l15 : K.lookup f15 = some ⟨oc15, od15, .func (PySem.W.fnOf "_law_answer" "_law_answer" (defArgs s_l_answer) (defBody s_l_answer) (defScope s_l_answer) .none kV15 dc15 pm15 an15 cd15 ct15), sl15⟩) (c15 : PySem.W.codeIn K cd15 "_law_answer" = true) (k15 : PySem.W.keepIn K (.ref f15) = true)
    (a16 : PySem.W.nsIn K mainGlobals "_law_answers" = some (some (.ref f16))) (l16 : K.lookup f16 = some ⟨oc16, od16, .func (PySem.W.fnOf "_law_answers" "_law_answers" (defArgs s_l_answers) (defBody s_l_answers) (defScope s_l_answers) .none kV16 dc16 pm16 an16 cd16 ct16), sl16⟩) (c16 : PySem.W.codeIn K cd16 "_law_answers" = true) (k16 : PySem.W.keepIn K (.ref f16) = true)
    (a17 : PySem.W.nsIn K mainGlobals "_law_words" = some (some (.ref f17))) (l17 : K.lookup f17 = some ⟨oc17, od17, .func (PySem.W.fnOf "_law_words" "_law_words" (defArgs s_l_words) (defBody s_l_words) (defScope s_l_words) .none kV17 dc17 pm17 an17 cd17 ct17), sl17⟩) (c17 : PySem.W.codeIn K cd17 "_law_words" = true) (k17 : PySem.W.keepIn K (.ref f17) = true)
    (a18 : PySem.W.nsIn K mainGlobals "_law_due" = some (some (.ref f18))) (l18 : K.lookup f18 = some ⟨oc18, od18, .func (PySem.W.fnOf "_law_due" "_law_due" (defArgs s_l_due) (defBody s_l_due) (defScope s_l_due) .none kV18 dc18 pm18 an18 cd18 ct18), sl18⟩) (c18 : PySem.W.codeIn K cd18 "_law_due" = true) (k18 : PySem.W.keepIn K (.ref f18) = true)
    (a19 : PySem.W.nsIn K mainGlobals "_law_ahead" = some (some (.ref f19))) (l19 : K.lookup f19 = some ⟨oc19, od19, .func (PySem.W.fnOf "_law_ahead" "_law_ahead" (defArgs s_l_ahead) (defBody s_l_ahead) (defScope s_l_ahead) .none kV19 dc19 pm19 an19 cd19 ct19), sl19⟩) (c19 : PySem.W.codeIn K cd19 "_law_ahead" = true) (k19 : PySem.W.keepIn K (.ref f19) = true)
    (a20 : PySem.W.nsIn K mainGlobals "_law_refused" = some (some (.ref f20))) (l20 : K.lookup f20 = some ⟨oc20, od20, .func (PySem.W.fnOf "_law_refused" "_law_refused" (defArgs s_l_refused) (defBody s_l_refused) (defScope s_l_refused) .none kV20 dc20 pm20 an20 cd20 ct20), sl20⟩) (c20 : PySem.W.codeIn K cd20 "_law_refused" = true) (k20 : PySem.W.keepIn K (.ref f20) = true)
    (a21 : PySem.W.nsIn K mainGlobals "_law_told" = some (some (.ref f21))) (l21 : K.lookup f21 = some ⟨oc21, od21, .func (PySem.W.fnOf "_law_told" "_law_told" (defArgs s_l_told) (defBody s_l_told) (defScope s_l_told) .none kV21 dc21 pm21 an21 cd21 ct21), sl21⟩) (c21 : PySem.W.codeIn K cd21 "_law_told" = true) (k21 : PySem.W.keepIn K (.ref f21) = true)
    (a22 : PySem.W.nsIn K mainGlobals "_law_standing" = some (some (.ref f22))) (l22 : K.lookup f22 = some ⟨oc22, od22, .func (PySem.W.fnOf "_law_standing" "_law_standing" (defArgs s_l_standing) (defBody s_l_standing) (defScope s_l_standing) .none kV22 dc22 pm22 an22 cd22 ct22), sl22⟩) (c22 : PySem.W.codeIn K cd22 "_law_standing" = true) (k22 : PySem.W.keepIn K (.ref f22) = true)
    (a23 : PySem.W.nsIn K mainGlobals "law" = some (some (.ref f23))) (l23 : K.lookup f23 = some ⟨oc23, od23, .func (PySem.W.fnOf "law" "law" (defArgs s_law) (defBody s_law) (defScope s_law) .none kV23 dc23 pm23 an23 cd23 ct23), sl23⟩) (c23 : PySem.W.codeIn K cd23 "law" = true) (k23 : PySem.W.keepIn K (.ref f23) = true)
    (pg : PySem.W.plainGet K C Str.empty = true) (hd : PySem.W.hasDictIn K C = true) (po : PySem.W.plainOver K C = true) (sa : PySem.W.findIn K (.ref C) "__setattr__" = some (some (.builtin "object.__setattr__"))) (mk : PySem.W.makesIn K C = true) (kc : PySem.W.keepIn K (.ref C) = true)
    (n0 : PySem.W.findIn K (.ref C) "beats" = some none)
    (n1 : PySem.W.findIn K (.ref C) "words" = some none)
    (n2 : PySem.W.findIn K (.ref C) "missed" = some none)
    (n3 : PySem.W.findIn K (.ref C) "doubled" = some none)
    (n4 : PySem.W.findIn K (.ref C) "gone" = some none)
    (cst0 : PySem.W.nsIn K mainGlobals "TURNS" = some (some (.int 8 tk0)))
    (cst1 : PySem.W.nsIn K mainGlobals "BEATS_TO_LOST" = some (some (.int 3 tk1)))
    (z0 : PySem.W.nsIn K mainGlobals "isinstance" = some none)
    (z1 : PySem.W.nsIn K mainGlobals "int" = some none)
    (z2 : PySem.W.nsIn K mainGlobals "bool" = some none)
    (z3 : PySem.W.nsIn K mainGlobals "tuple" = some none)
    (z4 : PySem.W.nsIn K mainGlobals "list" = some none)
    (z5 : PySem.W.nsIn K mainGlobals "str" = some none)
    (z6 : PySem.W.nsIn K mainGlobals "len" = some none)
    (z7 : PySem.W.nsIn K mainGlobals "all" = some none)
    (z8 : PySem.W.nsIn K mainGlobals "abs" = some none)
    (z9 : PySem.W.nsIn K mainGlobals "max" = some none)
    (z10 : PySem.W.nsIn K mainGlobals "min" = some none)
    (z11 : PySem.W.nsIn K mainGlobals "range" = some none)
    (z12 : PySem.W.nsIn K mainGlobals "sorted" = some none)
    (z13 : PySem.W.nsIn K mainGlobals "any" = some none)
    (z14 : PySem.W.nsIn K mainGlobals "sum" = some none)
    (z15 : PySem.W.nsIn K mainGlobals "enumerate" = some none)
    (z16 : PySem.W.nsIn K mainGlobals "zip" = some none)
    (z17 : PySem.W.nsIn K mainGlobals "reversed" = some none)
    (z18 : PySem.W.nsIn K mainGlobals "dict" = some none)
    (z19 : PySem.W.nsIn K mainGlobals "ord" = some none)
    {hc u0 u1 u2 u3 u4 u5 u6 u7 u8 u9 u10 u11 u12 : Addr}
    (xzv : PySem.W.nsIn K mainGlobals "ValueError" = some none)
    (xeh : PySem.W.nsIn K mainGlobals "HouseError" = some (some (.ref hc)))
    (xe0 : PySem.W.nsIn K mainGlobals "NoPlan" = some (some (.ref u0)))
    (xe1 : PySem.W.nsIn K mainGlobals "NoText" = some (some (.ref u1)))
    (xe2 : PySem.W.nsIn K mainGlobals "NoStretch" = some (some (.ref u2)))
    (xe3 : PySem.W.nsIn K mainGlobals "NoSpot" = some (some (.ref u3)))
    (xe4 : PySem.W.nsIn K mainGlobals "NoOpener" = some (some (.ref u4)))
    (xe5 : PySem.W.nsIn K mainGlobals "NoAddress" = some (some (.ref u5)))
    (xe6 : PySem.W.nsIn K mainGlobals "NoRules" = some (some (.ref u6)))
    (xe7 : PySem.W.nsIn K mainGlobals "NoHand" = some (some (.ref u7)))
    (xe8 : PySem.W.nsIn K mainGlobals "NoPanel" = some (some (.ref u8)))
    (xe9 : PySem.W.nsIn K mainGlobals "NoLink" = some (some (.ref u9)))
    (xe10 : PySem.W.nsIn K mainGlobals "NoLog" = some (some (.ref u10)))
    (xe11 : PySem.W.nsIn K mainGlobals "NoDeed" = some (some (.ref u11)))
    (xe12 : PySem.W.nsIn K mainGlobals "NoRow" = some (some (.ref u12)))
    (xhx : PySem.W.excIn K hc [.type "ValueError", .type "Exception", .type "BaseException", .type "object"] "ValueError.__new__" = true)
    (xha : PySem.W.findIn K (.ref hc) "__getattribute__" = some (some (.builtin "BaseException.__getattribute__")))
    (xhn : PySem.W.findIn K (.ref hc) "__getattr__" = some none)
    (xhc : PySem.W.findIn K (.ref hc) "__class__" = some (some (.builtin "object.__class__")))
    (xho : PySem.W.subIn K (.ref hc) (.type "object") = some true)
    (xhb : PySem.W.subIn K (.ref hc) (.type "BaseException") = some true)
    (xhk : PySem.W.keepIn K (.ref hc) = true)
    (k5px : PySem.W.excIn K u5 [.type "ValueError", .type "Exception", .type "BaseException", .type "object"] "ValueError.__new__" = true)
    (k5pa : PySem.W.findIn K (.ref u5) "__getattribute__" = some (some (.builtin "BaseException.__getattribute__")))
    (k5pn : PySem.W.findIn K (.ref u5) "__getattr__" = some none)
    (k5pc : PySem.W.findIn K (.ref u5) "__class__" = some (some (.builtin "object.__class__")))
    (k5po : PySem.W.subIn K (.ref u5) (.type "object") = some true)
    (k5pb : PySem.W.subIn K (.ref u5) (.type "BaseException") = some true)
    (k5pk : PySem.W.keepIn K (.ref u5) = true)
    (k5su : PySem.W.subIn K (.ref u5) (.ref hc) = some true)
    (k5q0 : PySem.W.kitOne K (.ref u5) (.ref u0) = some false)
    (k5q1 : PySem.W.kitOne K (.ref u5) (.ref u1) = some false)
    (k5q2 : PySem.W.kitOne K (.ref u5) (.ref u2) = some false)
    (k5q3 : PySem.W.kitOne K (.ref u5) (.ref u3) = some false)
    (k5q4 : PySem.W.kitOne K (.ref u5) (.ref u4) = some false)
    (k5q5 : PySem.W.kitOne K (.ref u5) (.ref u5) = some true)
    (k5q6 : PySem.W.kitOne K (.ref u5) (.ref u6) = some false)
    (k5q7 : PySem.W.kitOne K (.ref u5) (.ref u7) = some false)
    (k5q8 : PySem.W.kitOne K (.ref u5) (.ref u8) = some false)
    (k5q9 : PySem.W.kitOne K (.ref u5) (.ref u9) = some false)
    (k5q10 : PySem.W.kitOne K (.ref u5) (.ref u10) = some false)
    (k5q11 : PySem.W.kitOne K (.ref u5) (.ref u11) = some false)
    (k5q12 : PySem.W.kitOne K (.ref u5) (.ref u12) = some false)
    (k5qv : PySem.W.kitOne K (.ref u5) (.type "ValueError") = some true)
    : ∃ fd : FuncData, (∀ (s : Shared) (v : Value), BindsTo s fd ⟨[v], []⟩ [("_law_script", v)]) ∧ ∀ base : Heap, K.In base → base.Ns mainGlobals mg → FnOk l.prog w K mg base CX0 7 fa fd ["_law_script"] (spLaw K) := by
  have e := hfa.symm.trans (PySem.W.mg_of X G a23)
  cases e
  have TN : Nm mg := ⟨PySem.W.mg_none_of X G z0, PySem.W.mg_none_of X G z1, PySem.W.mg_none_of X G z2, PySem.W.mg_none_of X G z3, PySem.W.mg_none_of X G z4, PySem.W.mg_none_of X G z5, PySem.W.mg_none_of X G z6, PySem.W.mg_none_of X G z7, PySem.W.mg_none_of X G z8, PySem.W.mg_none_of X G z9, PySem.W.mg_none_of X G z10, PySem.W.mg_none_of X G z11, PySem.W.mg_none_of X G z12, PySem.W.mg_none_of X G z13, PySem.W.mg_none_of X G z14, PySem.W.mg_none_of X G z15, PySem.W.mg_none_of X G z16, PySem.W.mg_none_of X G z17, PySem.W.mg_none_of X G z18, PySem.W.mg_none_of X G z19⟩
  have T : Tx K mg C := { toNm := TN, cl := ⟨pg, hd, po, sa⟩, mgC := PySem.W.mg_of X G aC, n_beats := n0, n_words := n1, n_missed := n2, n_doubled := n3, n_gone := n4, TURNS := ⟨_, PySem.W.mg_of X G cst0, ⟨_, rfl⟩⟩, BEATS_TO_LOST := ⟨_, PySem.W.mg_of X G cst1, ⟨_, rfl⟩⟩ }
  have XE : Er K mg hc u0 u1 u2 u3 u4 u5 u6 u7 u8 u9 u10 u11 u12 := ⟨PySem.W.mg_none_of X G xzv, PySem.W.mg_of X G xeh, ⟨xhx, xha, xhn, xhc, xho, xhb, xhk⟩, PySem.W.mg_of X G xe0, PySem.W.mg_of X G xe1, PySem.W.mg_of X G xe2, PySem.W.mg_of X G xe3, PySem.W.mg_of X G xe4, PySem.W.mg_of X G xe5, PySem.W.mg_of X G xe6, PySem.W.mg_of X G xe7, PySem.W.mg_of X G xe8, PySem.W.mg_of X G xe9, PySem.W.mg_of X G xe10, PySem.W.mg_of X G xe11, PySem.W.mg_of X G xe12⟩
  have k_NoAddress : Knd K hc u5 [u0, u1, u2, u3, u4, u5, u6, u7, u8, u9, u10, u11, u12] 5 := ⟨⟨k5px, k5pa, k5pn, k5pc, k5po, k5pb, k5pk⟩, k5su, kit13 (j := 5) k5q0 k5q1 k5q2 k5q3 k5q4 k5q5 k5q6 k5q7 k5q8 k5q9 k5q10 k5q11 k5q12, k5qv⟩
  have Fm1 := fun_mk (st := s_Talk___init__) lm1 cm1 km1
  have bm1 := Fm1.binds (ps := p_Talk___init__) fun _ _ _ _ _ _ us hl => match us, hl with | [_, _], _ => rfl
  have M___init__ : ∃ f fd, Fun K "__init__" "Talk.__init__" s_Talk___init__ f fd ∧ Mk K C f ∧ Binds K fd p_Talk___init__ [] := ⟨fm1, _, Fm1, ⟨mk, am1, im1, kc⟩, bm1⟩
  have Fm2 := fun_mk (st := s_Talk_turn) lm2 cm2 km2
  have bm2 := Fm2.binds (ps := p_Talk_turn) fun _ _ _ _ _ _ us hl => match us, hl with | [_], _ => rfl
  have M_turn : CodeM K C "turn" "Talk.turn" s_Talk_turn p_Talk_turn := ⟨fm2, _, Fm2, ⟨am2, im2, km2⟩, bm2⟩
  have Fm3 := fun_mk (st := s_Talk_beat) lm3 cm3 km3
  have bm3 := Fm3.binds (ps := p_Talk_beat) fun _ _ _ _ _ _ us hl => match us, hl with | [_, _], _ => rfl
  have M_beat : CodeM K C "beat" "Talk.beat" s_Talk_beat p_Talk_beat := ⟨fm3, _, Fm3, ⟨am3, im3, km3⟩, bm3⟩
  have Fm4 := fun_mk (st := s_Talk_count_words) lm4 cm4 km4
  have bm4 := Fm4.binds (ps := p_Talk_count_words) fun _ _ _ _ _ _ us hl => match us, hl with | [_, _], _ => rfl
  have M_count_words : CodeM K C "count_words" "Talk.count_words" s_Talk_count_words p_Talk_count_words := ⟨fm4, _, Fm4, ⟨am4, im4, km4⟩, bm4⟩
  have Fm5 := fun_mk (st := s_Talk_hear) lm5 cm5 km5
  have bm5 := Fm5.binds (ps := p_Talk_hear) fun _ _ _ _ _ _ us hl => match us, hl with | [_, _, _], _ => rfl
  have M_hear : CodeM K C "hear" "Talk.hear" s_Talk_hear p_Talk_hear := ⟨fm5, _, Fm5, ⟨am5, im5, km5⟩, bm5⟩
  have Fm6 := fun_mk (st := s_Talk_miss) lm6 cm6 km6
  have bm6 := Fm6.binds (ps := p_Talk_miss) fun _ _ _ _ _ _ us hl => match us, hl with | [_, _, _], _ => rfl
  have M_miss : CodeM K C "miss" "Talk.miss" s_Talk_miss p_Talk_miss := ⟨fm6, _, Fm6, ⟨am6, im6, km6⟩, bm6⟩
  have Fm7 := fun_mk (st := s_Talk_word_of) lm7 cm7 km7
  have bm7 := Fm7.binds (ps := p_Talk_word_of) fun _ _ _ _ _ _ us hl => match us, hl with | [_, _], _ => rfl
  have M_word_of : CodeM K C "word_of" "Talk.word_of" s_Talk_word_of p_Talk_word_of := ⟨fm7, _, Fm7, ⟨am7, im7, km7⟩, bm7⟩
  have Fm8 := fun_mk (st := s_Talk_lost) lm8 cm8 km8
  have bm8 := Fm8.binds (ps := p_Talk_lost) fun _ _ _ _ _ _ us hl => match us, hl with | [_], _ => rfl
  have M_lost : CodeM K C "lost" "Talk.lost" s_Talk_lost p_Talk_lost := ⟨fm8, _, Fm8, ⟨am8, im8, km8⟩, bm8⟩
  have Fm9 := fun_mk (st := s_Talk_heard_now) lm9 cm9 km9
  have bm9 := Fm9.binds (ps := p_Talk_heard_now) fun _ _ _ _ _ _ us hl => match us, hl with | [_], _ => rfl
  have M_heard_now : CodeM K C "heard_now" "Talk.heard_now" s_Talk_heard_now p_Talk_heard_now := ⟨fm9, _, Fm9, ⟨am9, im9, km9⟩, bm9⟩
  have C_is_whole : Code K mg "is_whole" s_is_whole p_is_whole := Code.of X G a1 l1 c1 k1 fun _ _ _ _ _ _ us hl => match us, hl with | [_], _ => rfl
  have C_is_within : Code K mg "is_within" s_is_within p_is_within := Code.of X G a2 l2 c2 k2 fun _ _ _ _ _ _ us hl => match us, hl with | [_, _, _], _ => rfl
  have C_is_row : Code K mg "is_row" s_is_row p_is_row := Code.of X G a3 l3 c3 k3 fun _ _ _ _ _ _ us hl => match us, hl with | [_, _, _], _ => rfl
  have C_are_wholes : Code K mg "are_wholes" s_are_wholes p_are_wholes := Code.of X G a4 l4 c4 k4 fun _ _ _ _ _ _ us hl => match us, hl with | [_, _], _ => rfl
  have C_frame : Code K mg "frame" s_frame p_frame := Code.of X G a5 l5 c5 k5 fun _ _ _ _ _ _ us hl => match us, hl with | [_, _, _], _ => rfl
  have C_is_frame : Code K mg "is_frame" s_is_frame p_is_frame := Code.of X G a6 l6 c6 k6 fun _ _ _ _ _ _ us hl => match us, hl with | [_], _ => rfl
  have C_l_bag : Code K mg "_law_bag" s_l_bag p_l_bag := Code.of X G a7 l7 c7 k7 fun _ _ _ _ _ _ us hl => match us, hl with | [_, _], _ => rfl
  have C_l_take : Code K mg "_law_take" s_l_take p_l_take := Code.of X G a8 l8 c8 k8 fun _ _ _ _ _ _ us hl => match us, hl with | [_, _], _ => rfl
  have C_l_whole : Code K mg "_law_whole" s_l_whole p_l_whole := Code.of X G a9 l9 c9 k9 fun _ _ _ _ _ _ us hl => match us, hl with | [_], _ => rfl
  have C_l_kind : Code K mg "_law_kind" s_l_kind p_l_kind := Code.of X G a10 l10 c10 k10 fun _ _ _ _ _ _ us hl => match us, hl with | [_], _ => rfl
  have C_l_frame : Code K mg "_law_frame" s_l_frame p_l_frame := Code.of X G a11 l11 c11 k11 fun _ _ _ _ _ _ us hl => match us, hl with | [_, _, _], _ => rfl
  have C_l_is_frame : Code K mg "_law_is_frame" s_l_is_frame p_l_is_frame := Code.of X G a12 l12 c12 k12 fun _ _ _ _ _ _ us hl => match us, hl with | [_], _ => rfl
  have C_l_addresses : Code K mg "_law_addresses" s_l_addresses p_l_addresses := Code.of X G a13 l13 c13 k13 fun _ _ _ _ _ _ us hl => match us, hl with | [_], _ => rfl
  have C_l_are_events : Code K mg "_law_are_events" s_l_are_events p_l_are_events := Code.of X G a14 l14 c14 k14 fun _ _ _ _ _ _ us hl => match us, hl with | [_, _], _ => rfl
  have C_l_answer : Code K mg "_law_answer" s_l_answer p_l_answer := Code.of X G a15 l15 c15 k15 fun _ _ _ _ _ _ us hl => match us, hl with | [_, _, _, _], _ => rfl
  have C_l_answers : Code K mg "_law_answers" s_l_answers p_l_answers := Code.of X G a16 l16 c16 k16 fun _ _ _ _ _ _ us hl => match us, hl with | [_, _, _], _ => rfl
  have C_l_words : Code K mg "_law_words" s_l_words p_l_words := Code.of X G a17 l17 c17 k17 fun _ _ _ _ _ _ us hl => match us, hl with | [_, _, _], _ => rfl
  have C_l_due : Code K mg "_law_due" s_l_due p_l_due := Code.of X G a18 l18 c18 k18 fun _ _ _ _ _ _ us hl => match us, hl with | [_, _, _], _ => rfl
  have C_l_ahead : Code K mg "_law_ahead" s_l_ahead p_l_ahead := Code.of X G a19 l19 c19 k19 fun _ _ _ _ _ _ us hl => match us, hl with | [_, _, _], _ => rfl
  have C_l_refused : Code K mg "_law_refused" s_l_refused p_l_refused := Code.of X G a20 l20 c20 k20 fun _ _ _ _ _ _ us hl => match us, hl with | [_, _], _ => rfl
  have C_l_told : Code K mg "_law_told" s_l_told p_l_told := Code.of X G a21 l21 c21 k21 fun _ _ _ _ _ _ us hl => match us, hl with | [_, _, _], _ => rfl
  have C_l_standing : Code K mg "_law_standing" s_l_standing p_l_standing := Code.of X G a22 l22 c22 k22 fun _ _ _ _ _ _ us hl => match us, hl with | [_, _, _], _ => rfl
  have F_law := fun_mk (st := s_law) l23 c23 k23
  refine ⟨PySem.W.fnOf "law" "law" (defArgs s_law) (defBody s_law) (defScope s_law) .none kV23 dc23 pm23 an23 cd23 ct23, fun s v => .of_eq rfl, fun base _ _ => ?_⟩
  have g_l_bag := ok_l_bag (P := l.prog) (w := w) (base := base) C_l_bag TN
  have g_l_take := ok_l_take (P := l.prog) (w := w) (base := base) C_l_take TN
  have h_kind := ok_kind (P := l.prog) (w := w) (base := base) C_l_kind TN XE
  have g_iwT := ok_is_wholeT (P := l.prog) (w := w) (base := base) C_is_whole TN
  have g_iw := ok_is_whole (P := l.prog) (w := w) (base := base) C_is_whole TN
  have g_wi := ok_is_within (P := l.prog) (w := w) (base := base) C_is_within TN g_iw
  have g_ro := ok_is_row (P := l.prog) (w := w) (base := base) C_is_row TN
  have g_aw := ok_are_wholes (P := l.prog) (w := w) (base := base) C_are_wholes TN g_iwT g_ro
  have g_fr := ok_frame (P := l.prog) (w := w) (base := base) C_frame TN
  have g_if := ok_is_frameO (P := l.prog) (w := w) (base := base) C_is_frame TN g_aw g_wi g_fr
  have g_init := ok_init (P := l.prog) (w := w) (base := base) M___init__ T
  have g_turn := ok_turn (P := l.prog) (w := w) (base := base) M_turn T
  have g_hear := ok_hear (P := l.prog) (w := w) (base := base) M_hear T
  have g_miss := ok_miss (P := l.prog) (w := w) (base := base) M_miss T
  have g_word := ok_word (P := l.prog) (w := w) (base := base) M_word_of T g_iw
  have g_lost := ok_lost (P := l.prog) (w := w) (base := base) M_lost T
  have g_heard := ok_heard (P := l.prog) (w := w) (base := base) M_heard_now T
  have g_count := ok_count (P := l.prog) (w := w) (base := base) M_count_words T g_if g_turn
  have g_beat := ok_beat (P := l.prog) (w := w) (base := base) M_beat T g_count g_hear g_miss
  have g_lw := ok_lwhole (P := l.prog) (w := w) (base := base) C_l_whole TN
  have g_lwT := ok_lwholeT (P := l.prog) (w := w) (base := base) C_l_whole TN
  have g_lf := ok_lframe (P := l.prog) (w := w) (base := base) C_l_frame TN
  have g_lif := ok_l_is_frame (P := l.prog) (w := w) (base := base) C_l_is_frame TN g_lwT g_lf
  have g_ad := ok_addresses (P := l.prog) (w := w) (base := base) C_l_addresses TN g_l_take
  have g_ae := ok_are_events (P := l.prog) (w := w) (base := base) C_l_are_events TN g_lw
  have g_an := ok_answer (P := l.prog) (w := w) (base := base) C_l_answer TN g_l_take g_lf
  have g_as := ok_answers (P := l.prog) (w := w) (base := base) C_l_answers TN g_l_bag g_l_take g_an
  have g_wd := ok_words (P := l.prog) (w := w) (base := base) C_l_words TN g_lif
  have g_du := ok_dueL (P := l.prog) (w := w) (base := base) C_l_due TN
  have g_ah := ok_ahead (P := l.prog) (w := w) (base := base) C_l_ahead T g_word g_turn g_beat g_heard g_ae
  have g_wx := ok_wordX (P := l.prog) (w := w) (base := base) M_word_of T XE k_NoAddress g_iwT
  have g_re := ok_refusedL (P := l.prog) (w := w) (base := base) C_l_refused T XE k_NoAddress g_wx h_kind
  have g_to := ok_toldL (P := l.prog) (w := w) (base := base) C_l_told T g_heard g_lost g_word g_lwT
  have g_st := ok_standL (P := l.prog) (w := w) (base := base) C_l_standing TN
  exact ok_law F_law T g_l_bag g_l_take g_ad g_init g_ah g_as g_beat g_wd g_du g_ae g_st g_to g_lwT g_re g_heard g_lost g_turn
theorem walk {l : PySem.W.OpenLaw} {q : Program} {loose : List Str} {XP : (Str → Option Value) → Heap → Prop} {YP : World → Heap → Prop} {d : DefRec} {K : Params → PySem.W.Frag} (hn : l.most = some 63) (hdf : d.params.defaults = [])
    (hY : ∀ (w : World) (h : Heap), YP w h → (K w.params).In h)
    (F : ∀ (w : World) (mg : Str → Option Value) (fa : Addr) (h : Heap), (K w.params).In h → h.Ns mainGlobals mg → mg d.name = some (.ref fa) →
      ∃ fd : FuncData, (∀ (s : Shared) (u : Value), BindsTo s fd ⟨[u], []⟩ [("_law_script", u)]) ∧ ∀ base : Heap, (K w.params).In base → base.Ns mainGlobals mg → FnOk l.prog w (K w.params) mg base CX0 7 fa fd ["_law_script"] (spLaw (K w.params))) :
    PySem.W.WalkO q loose XP YP l.row.toRowW d [] (fun f vs => PySem.call f vs) :=
  L2.walk_of (n := 63) (k := 7) (x := "_law_script") (CX := fun _ => CX0) (sp := fun w => spLaw (K w.params)) hn (by decide) hdf ⟨rfl, by decide, by decide⟩ hY F (fun _ _ a ns hl _ hS => ⟨a, ns, rfl, hS, hl, fun _ => rfl⟩) fun _ _ _ _ _ z => z
end K15
/-! names that stay free of quick twins: the head comes through without them, and the compiled text is much smaller -/
def PySem.W.Fast.tw3404725625936382229 : Nat := 0
def PySem.W.Fast.tw9410346740357001239 : Nat := 0
def PySem.W.Fast.tw2535957944777715767 : Nat := 0
def PySem.W.Fast.tw6420285137591879810 : Nat := 0
def PySem.W.Fast.tw8675939660939986834 : Nat := 0
def PySem.W.Fast.tw14307166067741985633 : Nat := 0
def PySem.W.Fast.tw1396518171011804911 : Nat := 0
def PySem.W.Fast.tw4486446042276562995 : Nat := 0
def PySem.W.Fast.tw15563268526930556111 : Nat := 0
def PySem.W.Fast.tw12849613389472898877 : Nat := 0
def PySem.W.Fast.tw7699479708488911096 : Nat := 0
def PySem.W.Fast.tw13355005176356544389 : Nat := 0
def PySem.W.Fast.tw2431067593118963719 : Nat := 0
def PySem.W.Fast.tw4959308751377055223 : Nat := 0
def PySem.W.Fast.tw3099644396199784605 : Nat := 0
def PySem.W.Fast.tw16744540488321665764 : Nat := 0
def PySem.W.Fast.tw2783396437171985340 : Nat := 0
def PySem.W.Fast.tw5033938971675646829 : Nat := 0
def PySem.W.Fast.tw6622036976810157409 : Nat := 0
def PySem.W.Fast.tw16389073823651266321 : Nat := 0
def PySem.W.Fast.tw9239983552961780819 : Nat := 0
def PySem.W.Fast.tw3727581692074346861 : Nat := 0
def PySem.W.Fast.tw14424341981581444511 : Nat := 0
def PySem.W.Fast.tw13786030828213249852 : Nat := 0
def PySem.W.Fast.tw16566519485893621584 : Nat := 0
def PySem.W.Fast.tw4902093910017937814 : Nat := 0
open PySem PySem.W PyProof.Rows
set_option maxRecDepth 100000 in
set_option maxHeartbeats 0 in
theorem PySem.Challenge.cw_warnloop_k15_one_beat_holds : PySem.Challenge.rw_warnloop_k15_one_beat.Holds := by
  w_on; o_law; k_head; (case hw => w_witness2)
  k_fill
  refine K15.walk (l := PySem.Challenge.rw_warnloop_k15_one_beat) rfl rfl (fun w h Y => PySem.W.kIn_of Y) ?F
  case F =>
    intro w mg fa h KX G hmg
    refine' K15.all_mk KX G hmg ?aC ?am1 ?im1 ?lm1 ?cm1 ?km1 ?am2 ?im2 ?lm2 ?cm2 ?km2 ?am3 ?im3 ?lm3 ?cm3 ?km3 ?am4 ?im4 ?lm4 ?cm4 ?km4 ?am5 ?im5 ?lm5 ?cm5 ?km5 ?am6 ?im6 ?lm6 ?cm6 ?km6 ?am7 ?im7 ?lm7 ?cm7 ?km7 ?am8 ?im8 ?lm8 ?cm8 ?km8 ?am9 ?im9 ?lm9 ?cm9 ?km9 ?a1 ?l1 ?c1 ?k1 ?a2 ?l2 ?c2 ?k2 ?a3 ?l3 ?c3 ?k3 ?a4 ?l4 ?c4 ?k4 ?a5 ?l5 ?c5 ?k5 ?a6 ?l6 ?c6 ?k6 ?a7 ?l7 ?c7 ?k7 ?a8 ?l8 ?c8 ?k8 ?a9 ?l9 ?c9 ?k9 ?a10 ?l10 ?c10 ?k10 ?a11 ?l11 ?c11 ?k11 ?a12 ?l12 ?c12 ?k12 ?a13 ?l13 ?c13 ?k13 ?a14 ?l14 ?c14 ?k14 ?a15 ?l15 ?c15 ?k15 ?a16 ?l16 ?c16 ?k16 ?a17 ?l17 ?c17 ?k17 ?a18 ?l18 ?c18 ?k18 ?a19 ?l19 ?c19 ?k19 ?a20 ?l20 ?c20 ?k20 ?a21 ?l21 ?c21 ?k21 ?a22 ?l22 ?c22 ?k22 ?a23 ?l23 ?c23 ?k23 ?pg ?hd ?po ?sa ?mk ?kc ?n0 ?n1 ?n2 ?n3 ?n4 ?cst0 ?cst1 ?z0 ?z1 ?z2 ?z3 ?z4 ?z5 ?z6 ?z7 ?z8 ?z9 ?z10 ?z11 ?z12 ?z13 ?z14 ?z15 ?z16 ?z17 ?z18 ?z19 ?xzv ?xeh ?xe0 ?xe1 ?xe2 ?xe3 ?xe4 ?xe5 ?xe6 ?xe7 ?xe8 ?xe9 ?xe10 ?xe11 ?xe12 ?xhx ?xha ?xhn ?xhc ?xho ?xhb ?xhk ?k5px ?k5pa ?k5pn ?k5pc ?k5po ?k5pb ?k5pk ?k5su ?k5q0 ?k5q1 ?k5q2 ?k5q3 ?k5q4 ?k5q5 ?k5q6 ?k5q7 ?k5q8 ?k5q9 ?k5q10 ?k5q11 ?k5q12 ?k5qv
    (case aC => k_is)
    (case am1 => k_is)
    (case im1 => k_is)
    (case lm1 => k_is)
    (case cm1 => k_is)
    (case km1 => k_is)
    (case am2 => k_is)
    (case im2 => k_is)
    (case lm2 => k_is)
    (case cm2 => k_is)
    (case km2 => k_is)
    (case am3 => k_is)
    (case im3 => k_is)
    (case lm3 => k_is)
    (case cm3 => k_is)
    (case km3 => k_is)
    (case am4 => k_is)
    (case im4 => k_is)
    (case lm4 => k_is)
    (case cm4 => k_is)
    (case km4 => k_is)
    (case am5 => k_is)
    (case im5 => k_is)
    (case lm5 => k_is)
    (case cm5 => k_is)
    (case km5 => k_is)
    (case am6 => k_is)
    (case im6 => k_is)
    (case lm6 => k_is)
    (case cm6 => k_is)
    (case km6 => k_is)
    (case am7 => k_is)
    (case im7 => k_is)
    (case lm7 => k_is)
    (case cm7 => k_is)
    (case km7 => k_is)
    (case am8 => k_is)
    (case im8 => k_is)
    (case lm8 => k_is)
    (case cm8 => k_is)
    (case km8 => k_is)
    (case am9 => k_is)
    (case im9 => k_is)
    (case lm9 => k_is)
    (case cm9 => k_is)
    (case km9 => k_is)
    (case a1 => k_is)
    (case l1 => k_is)
    (case c1 => k_is)
    (case k1 => k_is)
    (case a2 => k_is)
    (case l2 => k_is)
    (case c2 => k_is)
    (case k2 => k_is)
    (case a3 => k_is)
    (case l3 => k_is)
    (case c3 => k_is)
    (case k3 => k_is)
    (case a4 => k_is)
    (case l4 => k_is)
    (case c4 => k_is)
    (case k4 => k_is)
    (case a5 => k_is)
    (case l5 => k_is)
    (case c5 => k_is)
    (case k5 => k_is)
    (case a6 => k_is)
    (case l6 => k_is)
    (case c6 => k_is)
    (case k6 => k_is)
    (case a7 => k_is)
    (case l7 => k_is)
    (case c7 => k_is)
    (case k7 => k_is)
    (case a8 => k_is)
    (case l8 => k_is)
    (case c8 => k_is)
    (case k8 => k_is)
    (case a9 => k_is)
    (case l9 => k_is)
    (case c9 => k_is)
    (case k9 => k_is)
    (case a10 => k_is)
    (case l10 => k_is)
    (case c10 => k_is)
    (case k10 => k_is)
    (case a11 => k_is)
    (case l11 => k_is)
    (case c11 => k_is)
    (case k11 => k_is)
    (case a12 => k_is)
    (case l12 => k_is)
    (case c12 => k_is)
    (case k12 => k_is)
    (case a13 => k_is)
    (case l13 => k_is)
    (case c13 => k_is)
    (case k13 => k_is)
    (case a14 => k_is)
    (case l14 => k_is)
    (case c14 => k_is)
    (case k14 => k_is)
    (case a15 => k_is)
    (case l15 => k_is)
    (case c15 => k_is)
    (case k15 => k_is)
    (case a16 => k_is)
    (case l16 => k_is)
    (case c16 => k_is)
    (case k16 => k_is)
    (case a17 => k_is)
    (case l17 => k_is)
    (case c17 => k_is)
    (case k17 => k_is)
    (case a18 => k_is)
    (case l18 => k_is)
    (case c18 => k_is)
    (case k18 => k_is)
    (case a19 => k_is)
    (case l19 => k_is)
    (case c19 => k_is)
    (case k19 => k_is)
    (case a20 => k_is)
    (case l20 => k_is)
    (case c20 => k_is)
    (case k20 => k_is)
    (case a21 => k_is)
    (case l21 => k_is)
    (case c21 => k_is)
    (case k21 => k_is)
    (case a22 => k_is)
    (case l22 => k_is)
    (case c22 => k_is)
    (case k22 => k_is)
    (case a23 => k_is)
    (case l23 => k_is)
    (case c23 => k_is)
    (case k23 => k_is)
    (case pg => k_is)
    (case hd => k_is)
    (case po => k_is)
    (case sa => k_is)
    (case mk => k_is)
    (case kc => k_is)
    (case n0 => k_is)
    (case n1 => k_is)
    (case n2 => k_is)
    (case n3 => k_is)
    (case n4 => k_is)
    (case cst0 => k_is)
    (case cst1 => k_is)
    (case z0 => k_is)
    (case z1 => k_is)
    (case z2 => k_is)
    (case z3 => k_is)
    (case z4 => k_is)
    (case z5 => k_is)
    (case z6 => k_is)
    (case z7 => k_is)
    (case z8 => k_is)
    (case z9 => k_is)
    (case z10 => k_is)
    (case z11 => k_is)
    (case z12 => k_is)
    (case z13 => k_is)
    (case z14 => k_is)
    (case z15 => k_is)
    (case z16 => k_is)
    (case z17 => k_is)
    (case z18 => k_is)
    (case z19 => k_is)
    (case xzv => k_is)
    (case xeh => k_is)
    (case xe0 => k_is)
    (case xe1 => k_is)
    (case xe2 => k_is)
    (case xe3 => k_is)
    (case xe4 => k_is)
    (case xe5 => k_is)
    (case xe6 => k_is)
    (case xe7 => k_is)
    (case xe8 => k_is)
    (case xe9 => k_is)
    (case xe10 => k_is)
    (case xe11 => k_is)
    (case xe12 => k_is)
    (case xhx => k_exc)
    (case xha => k_is)
    (case xhn => k_is)
    (case xhc => k_is)
    (case xho => k_is)
    (case xhb => k_is)
    (case xhk => k_is)
    (case k5px => k_exc)
    (case k5pa => k_is)
    (case k5pn => k_is)
    (case k5pc => k_is)
    (case k5po => k_is)
    (case k5pb => k_is)
    (case k5pk => k_is)
    (case k5su => k_is)
    (case k5q0 => kit_is)
    (case k5q1 => kit_is)
    (case k5q2 => kit_is)
    (case k5q3 => kit_is)
    (case k5q4 => kit_is)
    (case k5q5 => kit_is)
    (case k5q6 => kit_is)
    (case k5q7 => kit_is)
    (case k5q8 => kit_is)
    (case k5q9 => kit_is)
    (case k5q10 => kit_is)
    (case k5q11 => kit_is)
    (case k5q12 => kit_is)
    (case k5qv => kit_is)

