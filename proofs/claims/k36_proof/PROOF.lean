import PyProof.Rows.All
import Wide.All
import OpenK.AllK
import Wide.FinOn
import Lean
import PyProof.EqAt
import PyProof.EqKinds
import PyProof.TupleCall
import PySem.Challenge.RW_warnloop_k36_one_cell_spoilt
set_option Elab.async false
set_option linter.all false
set_option maxRecDepth 100000
/-! THE HAND LAYER, for ints, bools, texts, own classes, LISTS and tuples (index, slices, in, append, pop ..), calls, loops. Paste it whole ahead of your own text; what your proof does not reach may be deleted. -/
namespace L2
open PySem PySem.Spec PyProof.Rows

/-- a key: an int or a str -/
abbrev Key := Sum Int Str
def keyIs : Key → Value → Bool
  | .inl k, v => Value.isInt k v
  | .inr x, v => Value.isStrOf x v
def keyH (w : World) : Key → Int
  | .inl k => hashInt k
  | .inr x => hashStr w x
theorem keyIs_shape : ∀ {k : Key} {v : Value}, keyIs k v = true → (∃ i t, k = Sum.inl i ∧ v = Value.int i t) ∨ (∃ x t, k = Sum.inr x ∧ v = Value.str x t)
  | .inl i, v, h => by
    obtain ⟨t, e⟩ := Value.isInt_shape (k := i) (v := v) h
    exact .inl ⟨i, t, rfl, e⟩
  | .inr x, v, h => by
    obtain ⟨t, e⟩ := Value.isStrOf_shape (x := x) (v := v) h
    exact .inr ⟨x, t, rfl, e⟩
theorem keyIs_int (i : Int) (t : Tok) : keyIs (.inl i) (.int i t) = true := by simp [keyIs, Value.isInt]
theorem keyIs_str (x : Str) (t : Tok) : keyIs (.inr x) (.str x t) = true := by simp [keyIs, Value.isStrOf]
theorem key_ll (a b : Int) : decide ((Sum.inl a : Key) = Sum.inl b) = (a == b) := by
  by_cases e : a = b
  · subst e; simp
  · have h : ¬ (Sum.inl a : Key) = Sum.inl b := fun q => e (Sum.inl.inj q)
    rw [decide_eq_false h]
    exact (beq_eq_false_iff_ne.mpr e).symm
theorem key_rr (a b : Str) : decide ((Sum.inr a : Key) = Sum.inr b) = decide (a = b) := by
  by_cases e : a = b
  · subst e; simp
  · have h : ¬ (Sum.inr a : Key) = Sum.inr b := fun q => e (Sum.inr.inj q)
    rw [decide_eq_false h, decide_eq_false e]
theorem key_lr (a : Int) (b : Str) : decide ((Sum.inl a : Key) = Sum.inr b) = false := decide_eq_false (fun q => nomatch q)
theorem key_rl (a : Str) (b : Int) : decide ((Sum.inr a : Key) = Sum.inl b) = false := decide_eq_false (fun q => nomatch q)

def mixKind (prog : Program) (w : World) : PySem.KeyKind prog w Key where
  is := keyIs
  hash := keyH w
  inj := fun v a b ha hb => by
    rcases keyIs_shape ha with ⟨i, t, rfl, rfl⟩ | ⟨x, t, rfl, rfl⟩
    · rcases keyIs_shape hb with ⟨j, u, rfl, e⟩ | ⟨y, u, rfl, e⟩
      · injection e with e1 _; rw [e1]
      · exact nomatch e
    · rcases keyIs_shape hb with ⟨j, u, rfl, e⟩ | ⟨y, u, rfl, e⟩
      · exact nomatch e
      · injection e with e1 _; rw [e1]
  byValue := fun k v h => by
    rcases keyIs_shape h with ⟨i, t, rfl, rfl⟩ | ⟨x, t, rfl, rfl⟩ <;> rfl
  pyHash := fun hv h => by
    rcases keyIs_shape hv with ⟨i, t, rfl, rfl⟩ | ⟨x, t, rfl, rfl⟩
    · exact wpAny_pyHash_int h
    · exact wpAny_pyHash_str h
  eqBool := fun hu hv h => by
    rcases keyIs_shape hu with ⟨i, t, rfl, rfl⟩ | ⟨x, t, rfl, rfl⟩
    · rcases keyIs_shape hv with ⟨j, u, rfl, rfl⟩ | ⟨y, u, rfl, rfl⟩
      · rw [key_ll] at h; exact wpAny_eqBool_int h
      · rw [key_lr] at h; exact SeqAt.EqAt.int_str i t y u _ _ _ _ h
    · rcases keyIs_shape hv with ⟨j, u, rfl, rfl⟩ | ⟨y, u, rfl, rfl⟩
      · rw [key_rl] at h; exact SeqAt.EqAt.str_int x t j u _ _ _ _ h
      · rw [key_rr] at h; exact wpAny_eqBool_str h
  «strs» := fun k x t v h => by
    rcases keyIs_shape h with ⟨i, u, rfl, e⟩ | ⟨y, u, rfl, e⟩
    · exact nomatch e
    · injection e with e1 _
      subst e1
      cases v <;> rfl

theorem mixKind_int (prog : Program) (w : World) (i : Int) (t : Tok) : (mixKind prog w).is (.inl i) (.int i t) = true := keyIs_int i t
theorem mixKind_str (prog : Program) (w : World) (x : Str) (t : Tok) : (mixKind prog w).is (.inr x) (.str x t) = true := keyIs_str x t
end L2

namespace L2
open PySem PySem.Spec PyProof.Rows

/-- a value, without the heap -/
inductive V where
  | non | bl (b : Bool) | int (i : Int) | str (x : Str) | byt (b : Array UInt8) | flt (b : UInt64) | ref (a : Addr) | ty (n : String)
  deriving DecidableEq

def RelV : V → Value → Prop
  | .non, u => u = Value.none
  | .bl b, u => u = Value.bool b
  | .int i, u => ∃ t, u = Value.int i t
  | .str x, u => ∃ t, u = Value.str x t
  | .byt b, u => ∃ t, u = Value.bytes b t
  | .flt b, u => ∃ t, u = Value.float b t
  | .ref a, u => u = Value.ref a
  | .ty n, u => u = Value.type n

abbrev Vals : List V → List Value → Prop := Paired RelV
theorem Vals.length {xs : List V} {us : List Value} (r : Vals xs us) : xs.length = us.length := Paired.length r
theorem Vals.get : ∀ {xs : List V} {us : List Value} {i : Nat} {x : V}, Vals xs us → xs[i]? = some x → ∃ u, us[i]? = some u ∧ RelV x u
  | _, _, _, _, .nil, e => by simp at e
  | _, _, 0, _, .cons r _, e => by simp at e; subst e; exact ⟨_, rfl, r⟩
  | _, _, i + 1, x, .cons _ t, e => by
    obtain ⟨u, h1, h2⟩ := Vals.get (i := i) (x := x) t (by simpa using e)
    exact ⟨u, by simpa using h1, h2⟩
theorem Vals.set {x : V} {u : Value} (r : RelV x u) : ∀ {xs : List V} {us : List Value} (i : Nat), Vals xs us → Vals (xs.set i x) (us.set i u)
  | _, _, _, .nil => .nil
  | _, _, 0, .cons _ t => .cons r t
  | _, _, i + 1, .cons q t => .cons q (Vals.set r i t)
theorem Vals.append : ∀ {xs ys : List V} {us ws : List Value}, Vals xs us → Vals ys ws → Vals (xs ++ ys) (us ++ ws)
  | _, _, _, _, .nil, s => s
  | _, _, _, _, .cons r t, s => .cons r (Vals.append t s)
theorem Vals.take : ∀ {xs : List V} {us : List Value} (n : Nat), Vals xs us → Vals (xs.take n) (us.take n)
  | _, _, 0, _ => .nil
  | _, _, _ + 1, .nil => .nil
  | _, _, n + 1, .cons r t => .cons r (Vals.take n t)
theorem Vals.drop : ∀ {xs : List V} {us : List Value} (n : Nat), Vals xs us → Vals (xs.drop n) (us.drop n)
  | _, _, 0, r => r
  | _, _, _ + 1, .nil => .nil
  | _, _, n + 1, .cons _ t => Vals.drop n t
theorem Vals.none_of : ∀ {xs : List V} {us : List Value} {i : Nat}, Vals xs us → xs[i]? = none → us[i]? = none := fun {xs us i} r e => by
  have h1 := r.length
  have h2 : xs.length ≤ i := List.getElem?_eq_none_iff.mp e
  exact List.getElem?_eq_none_iff.mpr (by omega)

def RelO : Option V → Option Value → Prop
  | some v, some u => RelV v u
  | none, none => True
  | _, _ => False
def KV {κ : Type} : List (κ × V) → List (κ × Value) → Prop := Paired fun (p : κ × V) (q : κ × Value) => p.1 = q.1 ∧ RelV p.2 q.2

/-- a key of a dict (00_mix): an int or a text -/
def kV : Key → V
  | .inl i => .int i
  | .inr x => .str x

/-- what stands at a tracked address -/
inductive HO where
  /-- a list -/
  | lst (xs : List V)
  /-- a tuple (never changes) -/
  | tup (xs : List V)
  /-- a dict whose keys are ints and texts; one whose keys are tuples of ints and texts (the empty one is both) -/
  | dK (kvs : List (Key × V)) | dT (kvs : List (List Key × V))
  /-- a set of ints: its members, its size -/
  | set (S : Int → Bool) (n : Nat)
  /-- an instance of the class at C, its dict at dx, its attributes -/
  | ins (C dx : Addr) (fs : List (Str × V))
  /-- the dict of the instance at x -/
  | own (x : Addr)
  /-- the dict of an exception -/
  | xd (fs : List (Str × V))
  /-- a bound method, f of x -/
  | met (f x : Addr)
  /-- a range object lo, lo + 1, .. below hi -/
  | rng (lo hi : Int)
  /-- a thing that is known to the object (the script; a dict while a loop walks it): read, never written while it is so -/
  | frz (o : Obj) (u : HO)
  /-- a code object's table -/
  | tbl (ps : Array Value)
  /-- any other thing, by what is true of its one object (a def of one's own: SetO a S n := HO.ext fun h => ..) -/
  | ext (φ : Heap → Prop)

abbrev Hp := Addr → Option HO
def upd (H : Hp) (a : Addr) (o : HO) : Hp := fun b => if b = a then some o else H b
theorem upd_same {H : Hp} {a : Addr} {o : HO} : upd H a o a = some o := by unfold upd; rw [if_pos rfl]
theorem upd_ne {H : Hp} {a b : Addr} {o : HO} (h : b ≠ a) : upd H a o b = H b := by unfold upd; rw [if_neg h]
theorem ne_of_none {H : Hp} {a b : Addr} {o : HO} (h : H a = some o) (h' : H b = none) : a ≠ b := by
  intro e; subst e; rw [h] at h'; cases h'

section
variable (P : Program) (w : World)
def ObjOk (H : Hp) (h : Heap) (a : Addr) : HO → Prop
  | .lst xs => xs.length ≤ sizeLine ∧ ∃ (its : List Value) (n : Nat), Vals xs its ∧ h.get? a = some { cls := .type "list", data := .seq its.toArray n }
  | .tup xs => xs.length ≤ sizeLine ∧ ∃ its : List Value, Vals xs its ∧ IsTup h a its.toArray
  | .dK kvs => kvs.length ≤ sizeLine ∧ (a == sysModules) = false ∧ ∃ vs, KV kvs vs ∧ h.DictOf (mixKind P w) a vs
  | .dT kvs => kvs.length ≤ sizeLine ∧ (a == sysModules) = false ∧ ∃ xs : List (List Key × Addr × Value),
      Paired (fun (p : List Key × V) (q : List Key × Addr × Value) => p.1 = q.1 ∧ H q.2.1 = some (.tup (p.1.map kV)) ∧ RelV p.2 q.2.2) kvs xs ∧
      ∃ o es ep, h.get? a = some o ∧ o.ExactDict ∧ o.data = .dict es ep ∧ es.toList = xs.map (entryOfKey (tupleKind (mixKind P w))) ∧ (xs.map (·.1)).Nodup
  | .set S n => h.SetOf (intKind P w) a S n
  | .ins C dx fs => H dx = some (.own a) ∧ fs.length ≤ 1000 ∧ dx ≠ a ∧ h.get? a = some (PySem.W.instObj C dx) ∧
      ∃ mA, h.Ns1 dx mA ∧ (∀ f, RelO (fs.lookup f) (mA f)) ∧ PySem.Within mA (fs.map (·.1))
  | .own _ => ∃ o, h.get? a = some o
  | .xd fs => ∃ mA, h.Ns1 a mA ∧ ∀ f, RelO (fs.lookup f) (mA f)
  | .rng lo hi => ∃ t u v, h.get? a = some { cls := .type "range", data := .fields #[.int lo t, .int hi u, .int 1 v] }
  | .frz o u => h.get? a = some o ∧ ObjOk H h a u
  | .tbl ps => h.get? a = some { cls := .none, data := .fields ps }
  | .met f x => h.get? a = some (PySem.W.methodObj (.ref f) (.ref x))
  | .ext φ => φ h ∧ (∃ o, h.get? a = some o) ∧ ∀ h1 h2 : Heap, φ h1 → (∀ o, h1.get? a = some o → h2.get? a = some o) → φ h2
/-- the abstract heap is held -/
def HOk (H : Hp) (h : Heap) : Prop := ∀ a o, H a = some o → ObjOk P w H h a o
end

section
variable {P : Program} {w : World} {H H' : Hp} {h h' : Heap} {a : Addr} {o : HO}
theorem ObjOk.lt (x : ObjOk P w H h a o) : a < h.objs.size := by
  cases o with
  | lst xs => obtain ⟨_, _, _, _, e⟩ := x; exact Heap.lt_size e
  | tup xs => obtain ⟨_, _, _, p⟩ := x; exact p.lt
  | dK kvs => obtain ⟨_, _, _, _, o, _, _, e, _⟩ := x; exact Heap.lt_size e
  | dT kvs => obtain ⟨_, _, _, _, o, _, _, e, _⟩ := x; exact Heap.lt_size e
  | set S n => obtain ⟨o, _, _, _, e, _⟩ := x; exact Heap.lt_size e
  | ins C dx fs => obtain ⟨_, _, _, e, _⟩ := x; exact Heap.lt_size e
  | own y => obtain ⟨_, e⟩ := x; exact Heap.lt_size e
  | xd fs => obtain ⟨_, ⟨_, _, _, e, _⟩, _⟩ := x; exact Heap.lt_size e
  | rng lo hi => obtain ⟨_, _, _, e⟩ := x; exact Heap.lt_size e
  | frz ob u => obtain ⟨e, _⟩ := x; exact Heap.lt_size e
  | tbl ps => exact Heap.lt_size (show h.get? a = some _ from x)
  | met f y => exact Heap.lt_size (show h.get? a = some _ from x)
  | ext φ => obtain ⟨_, ⟨_, e⟩, _⟩ := x; exact Heap.lt_size e
theorem Paired.mapP {α β : Type} {F G : α → β → Prop} : ∀ {l₁ : List α} {l₂ : List β}, Paired F l₁ l₂ → (∀ a b, F a b → G a b) → Paired G l₁ l₂
  | _, _, .nil, _ => .nil
  | _, _, .cons r t, f => .cons (f _ _ r) (Paired.mapP t f)
/-- what an object's description leans on: its own object, its own dict, the tuples -/
theorem ObjOk.stay (x : ObjOk P w H h a o) (k : ∀ b u, (b = a ∨ H b = some (.own a)) → h.get? b = some u → h'.get? b = some u)
    (ho : ∀ b, H b = some (.own a) → H' b = some (.own a)) (ht : ∀ b xs, H b = some (.tup xs) → H' b = some (.tup xs)) : ObjOk P w H' h' a o := by
  induction o with
  | lst xs => obtain ⟨z, its, n, r, e⟩ := x; exact ⟨z, its, n, r, k _ _ (.inl rfl) e⟩
  | tup xs => obtain ⟨z, its, r, ob, e, c⟩ := x; exact ⟨z, its, r, ob, k _ _ (.inl rfl) e, c⟩
  | dK kvs => obtain ⟨z, y, vs, r, ob, es, ep, e, c⟩ := x; exact ⟨z, y, vs, r, ob, es, ep, k _ _ (.inl rfl) e, c⟩
  | dT kvs =>
    obtain ⟨z, y, xs, r, ob, es, ep, e, c⟩ := x
    exact ⟨z, y, xs, Paired.mapP r fun p q z => ⟨z.1, ht _ _ z.2.1, z.2.2⟩, ob, es, ep, k _ _ (.inl rfl) e, c⟩
  | set S n => obtain ⟨ob, es, ep, t, e, c⟩ := x; exact ⟨ob, es, ep, t, k _ _ (.inl rfl) e, c⟩
  | ins C dx fs =>
    obtain ⟨d, z, ne, e, mA, ⟨od, es, ep, e2, c⟩, r⟩ := x
    exact ⟨ho _ d, z, ne, k _ _ (.inl rfl) e, mA, ⟨od, es, ep, k _ _ (.inr d) e2, c⟩, r⟩
  | own y => obtain ⟨ob, e⟩ := x; exact ⟨ob, k _ _ (.inl rfl) e⟩
  | xd fs => obtain ⟨mA, ⟨od, es, ep, e, c⟩, r⟩ := x; exact ⟨mA, ⟨od, es, ep, k _ _ (.inl rfl) e, c⟩, r⟩
  | rng lo hi => obtain ⟨t, u, v, e⟩ := x; exact ⟨t, u, v, k _ _ (.inl rfl) e⟩
  | frz ob u ih => obtain ⟨e, q⟩ := x; exact ⟨k _ _ (.inl rfl) e, ih q⟩
  | tbl ps =>
    have e : h.get? a = some { cls := .none, data := .fields ps } := x
    show h'.get? a = some { cls := .none, data := .fields ps }
    exact k a _ (.inl rfl) e
  | met f y =>
    have e : h.get? a = some (PySem.W.methodObj (.ref f) (.ref y)) := x
    show h'.get? a = some (PySem.W.methodObj (.ref f) (.ref y))
    exact k a _ (.inl rfl) e
  | ext φ => obtain ⟨p, ⟨o, e⟩, st⟩ := x; exact ⟨st _ _ p fun o q => k _ _ (.inl rfl) q, ⟨o, k _ _ (.inl rfl) e⟩, st⟩
theorem HOk.lt (x : HOk P w H h) (e : H a = some o) : a < h.objs.size := (x a o e).lt
theorem HOk.fresh (x : HOk P w H h) (e : h.objs.size ≤ a) : H a = none := by
  cases q : H a with
  | none => rfl
  | some u => exact absurd (Nat.lt_of_lt_of_le (x.lt q) e) (Nat.lt_irrefl _)
/-- every object of the heap is kept -/
theorem HOk.kept (x : HOk P w H h) (k : ∀ b u, h.get? b = some u → h'.get? b = some u) : HOk P w H h' := fun a o e =>
  (x a o e).stay (fun b u _ q => k b u q) (fun _ q => q) fun _ _ q => q
/-- a new object is laid and tracked -/
theorem HOk.laid (x : HOk P w H h) (k : ∀ b u, h.get? b = some u → h'.get? b = some u) (hp : h.objs.size ≤ a) (new : ObjOk P w (upd H a o) h' a o) : HOk P w (upd H a o) h' := fun b u e => by
  have hn := x.fresh hp
  by_cases hb : b = a
  · subst hb; rw [upd_same] at e; cases e; exact new
  · rw [upd_ne hb] at e
    exact (x b u e).stay (fun c v _ q => k c v q) (fun c q => by rw [upd_ne (ne_of_none q hn)]; exact q) fun c xs q => by rw [upd_ne (ne_of_none q hn)]; exact q
end

/-- what may be read as u: it is u, or a known u -/
def Rd (H : Hp) (a : Addr) (u : HO) : Prop := H a = some u ∨ ∃ o, H a = some (.frz o u)
theorem Rd.of {H : Hp} {a : Addr} {u : HO} (h : H a = some u) : Rd H a u := .inl h
theorem Rd.ok {P : Program} {w : World} {H : Hp} {h : Heap} {a : Addr} {u : HO} (r : Rd H a u) (x : HOk P w H h) : ObjOk P w H h a u := by
  rcases r with r | ⟨o, r⟩
  · exact x a u r
  · obtain ⟨_, q⟩ := x a _ r
    exact q
/-- what may be written -/
def Mut : Option HO → Prop
  | some (.lst _) => True
  | some (.dK _) => True
  | some (.dT _) => True
  | some (.set _ _) => True
  | some (.ins _ _ _) => True
  | some (.ext _) => True
  | _ => False
section
variable {P : Program} {w : World} {H : Hp} {h h' : Heap} {x e : Addr} {o' : HO}
/-- the object at e is changed: x itself, or the dict of the instance x -/
theorem HOk.write (ok : HOk P w H h) (mu : Mut (H x)) (he : e = x ∨ H e = some (.own x)) (k : ∀ b u, b ≠ e → h.get? b = some u → h'.get? b = some u) (heo : ∃ u, h'.get? e = some u)
    (new : ObjOk P w (upd H x o') h' x o') : HOk P w (upd H x o') h' := fun b u q => by
  have nown : ∀ c y, H c = some (.own y) → c ≠ x := fun c y r z => by subst z; rw [r] at mu; exact mu
  have ntup : ∀ c xs, H c = some (.tup xs) → c ≠ x := fun c xs r z => by subst z; rw [r] at mu; exact mu
  by_cases hb : b = x
  · subst hb; rw [upd_same] at q; cases q; exact new
  · rw [upd_ne hb] at q
    by_cases hbe : b = e
    · have q' : H b = some (.own x) := by
        rcases he with z | z
        · exact absurd (hbe.trans z) hb
        · rw [hbe]; exact z
      rw [q] at q'; cases q'
      obtain ⟨v, hv⟩ := heo
      exact ⟨v, by rw [hbe]; exact hv⟩
    · refine (ok b u q).stay (fun c v hc r => k c v ?_ r) (fun c r => by rw [upd_ne (nown c b r)]; exact r) fun c xs r => by rw [upd_ne (ntup c xs r)]; exact r
      rcases hc with rfl | hc
      · exact hbe
      · rintro rfl
        rcases he with z | z
        · exact nown c b hc z
        · rw [hc] at z; cases z; exact hb rfl
end

/-! ### kept unless tracked; of the frames at fs (the callers') the slots may change (an exception that passes writes there); of the records at ex (iterators) nothing is said -/
structure Un (fs ex : List Addr) (H H' : Hp) (h h' : Heap) : Prop where
  keep : ∀ b o, h.get? b = some o → H b = none → b ∉ fs → b ∉ ex → h'.get? b = some o
  slot : ∀ b o, h.get? b = some o → H b = none → b ∈ fs → b ∉ ex → ∃ sl, h'.get? b = some { o with slots := sl }
  free : ∀ b o, h.get? b = some o → H b = none → b ∉ ex → H' b = none
  there : ∀ b o, h.get? b = some o → b ∉ ex → ∃ o', h'.get? b = some o'
  tups : ∀ b xs, H b = some (.tup xs) → H' b = some (.tup xs)
  frzs : ∀ b o u, H b = some (.frz o u) → H' b = some (.frz o u)
  tbls : ∀ b ps, H b = some (.tbl ps) → ∃ more, H' b = some (.tbl (ps ++ more))
section
variable {fs fs' ex ex' : List Addr} {H H1 H2 : Hp} {h h1 h2 h' : Heap} {a x e : Addr} {o : HO}
theorem Un.any (u : Un fs ex H H1 h h1) {b : Addr} {ob : Obj} (q : h.get? b = some ob) (n : H b = none) (hx : b ∉ ex) : ∃ sl, h1.get? b = some { ob with slots := sl } := by
  by_cases hb : b ∈ fs
  · exact u.slot b ob q n hb hx
  · exact ⟨ob.slots, u.keep b ob q n hb hx⟩
theorem Un.trans (a : Un fs ex H H1 h h1) (b : Un fs ex H1 H2 h1 h2) : Un fs ex H H2 h h2 where
  keep := fun c ob q n hc hx => b.keep c ob (a.keep c ob q n hc hx) (a.free c ob q n hx) hc hx
  slot := fun c ob q n hc hx => by
    obtain ⟨sl, e1⟩ := a.slot c ob q n hc hx
    obtain ⟨sl', e2⟩ := b.slot c _ e1 (a.free c ob q n hx) hc hx
    exact ⟨sl', e2⟩
  free := fun c ob q n hx => by
    obtain ⟨o', e1⟩ := a.there c ob q hx
    exact b.free c o' e1 (a.free c ob q n hx) hx
  there := fun c ob q hx => by
    obtain ⟨o', e1⟩ := a.there c ob q hx
    exact b.there c o' e1 hx
  tups := fun c xs q => b.tups c xs (a.tups c xs q)
  frzs := fun c ob xs q => b.frzs c ob xs (a.frzs c ob xs q)
  tbls := fun c ps q => by
    obtain ⟨m1, e1⟩ := a.tbls c ps q
    obtain ⟨m2, e2⟩ := b.tbls c _ e1
    exact ⟨m1 ++ m2, by rw [e2, Array.append_assoc]⟩
theorem Un.kept (k : ∀ b u, h.get? b = some u → h'.get? b = some u) : Un fs ex H H h h' :=
  ⟨fun b ob q _ _ _ => k b ob q, fun b ob q _ _ _ => ⟨ob.slots, k b ob q⟩, fun _ _ _ n _ => n, fun b ob q _ => ⟨ob, k b ob q⟩, fun _ _ q => q, fun _ _ _ q => q, fun _ ps q => ⟨#[], by rw [q]; simp⟩⟩
theorem Un.refl : Un fs ex H H h h := Un.kept fun _ _ q => q
theorem Un.laid (k : ∀ b u, h.get? b = some u → h'.get? b = some u) (hp : h.objs.size ≤ a) (hn : H a = none) : Un fs ex H (upd H a o) h h' where
  keep := fun b u q _ _ _ => k b u q
  slot := fun b u q _ _ _ => ⟨u.slots, k b u q⟩
  free := fun b u q n _ => by rw [upd_ne (Nat.ne_of_lt (Nat.lt_of_lt_of_le (Heap.lt_size q) hp))]; exact n
  there := fun b u q _ => ⟨u, k b u q⟩
  tups := fun b xs q => by rw [upd_ne (ne_of_none q hn)]; exact q
  frzs := fun b u xs q => by rw [upd_ne (ne_of_none q hn)]; exact q
  tbls := fun b ps q => ⟨#[], by rw [upd_ne (ne_of_none q hn), q]; simp⟩
theorem Un.write (mu : Mut (H x)) (he : e = x ∨ H e = some (.own x)) (k : ∀ b u, b ≠ e → h.get? b = some u → h'.get? b = some u) (heo : ∃ u, h'.get? e = some u) : Un fs ex H (upd H x o) h h' := by
  have hx : ∀ b, H b = none → b ≠ x := fun b n z => by subst z; rw [n] at mu; exact mu
  have hb : ∀ b, H b = none → b ≠ e := fun b n z => by
    subst z
    rcases he with r | r
    · exact hx b n r
    · rw [n] at r; cases r
  have hm : ∀ b u, H b = some u → ¬ Mut (some u) → b ≠ x := fun b u q nm z => by subst z; rw [q] at mu; exact nm mu
  refine ⟨fun b u q n _ _ => k b u (hb b n) q, fun b u q n _ _ => ⟨u.slots, k b u (hb b n) q⟩, fun b u q n _ => by rw [upd_ne (hx b n)]; exact n, fun b u q _ => ?_,
    fun b xs q => by rw [upd_ne (hm b _ q fun z => z)]; exact q, fun b u xs q => by rw [upd_ne (hm b _ q fun z => z)]; exact q, fun b ps q => ⟨#[], by rw [upd_ne (hm b _ q fun z => z), q]; simp⟩⟩
  by_cases hbe : b = e
  · subst hbe; exact heo
  · exact ⟨u, k b u hbe q⟩
theorem Un.mono (u : Un fs ex H H1 h h1) (hs : ∀ b ∈ fs, b ∈ fs') (hx : ∀ b ∈ ex, b ∈ ex') : Un fs' ex' H H1 h h1 :=
  ⟨fun b ob q n hb he => u.keep b ob q n (fun z => hb (hs b z)) fun z => he (hx b z), fun _ _ q n _ he => u.any q n fun z => he (hx _ z), fun b ob q n he => u.free b ob q n fun z => he (hx b z), fun b ob q he => u.there b ob q fun z => he (hx b z), u.tups, u.frzs, u.tbls⟩
end

/-! ### the heap without what is tracked -/
def trk (h : Heap) (H : Hp) : List Addr := (List.range h.objs.size).filter fun a => (H a).isSome
def hidT (h : Heap) (H : Hp) : Heap := PySem.W.hideAll h (trk h H)
theorem hidT_size (h : Heap) (H : Hp) : (hidT h H).objs.size = h.objs.size := PySem.W.hideAll_size _ _
theorem hidT_get {h : Heap} {H : Hp} {b : Addr} {o : Obj} (e : h.get? b = some o) (n : H b = none) : (hidT h H).get? b = some o :=
  PySem.W.hideAll_get _ e fun hm => by
    have q : (H b).isSome = true := (List.mem_filter.mp hm).2
    rw [n] at q; simp at q
theorem of_hidT {h : Heap} {H : Hp} {b : Addr} {o : Obj} (e : (hidT h H).get? b = some o) : h.get? b = some o ∧ H b = none := by
  have e' : h.get? b = some o := PySem.W.of_hideAll (trk h H) e
  refine ⟨e', ?_⟩
  cases q : H b with
  | none => rfl
  | some x =>
    have hm : b ∈ trk h H := List.mem_filter.mpr ⟨List.mem_range.mpr (Heap.lt_size e'), by simp [q]⟩
    have z : (hidT h H).get? b = none := PySem.W.hideAll_none (trk h H) hm
    rw [z] at e; cases e

/-! ### OpenK's ledger, filled with every new object but one -/
def allNews (g h : Heap) (L : Addr) : List (Addr × Obj) := (List.range h.objs.size).filterMap fun a => if a = L ∨ (g.get? a).isSome = true then none else (h.get? a).map fun o => (a, o)
def rest (g h : Heap) (L d : Addr) : List (Addr × Obj) := (allNews g h L).filter fun p => decide (p.1 ≠ d)
end L2

namespace L2
open PySem PySem.Spec PyProof.Rows

/-- the module's facts, over the base: the heap at the law's entry without what is tracked there -/
structure Mod (K : PySem.W.Frag) (mg : Str → Option Value) (base : Heap) : Prop where
  kin : K.In base
  glob : base.Ns mainGlobals mg
  blt : ∃ mb, base.Ns builtinsNs mb ∧ ∀ x : Str, x ≠ "__name__" → mb x = bootBuiltins x
  nolimit : base.NoLimit

/-- the context: a def's body (or a comprehension's block) running. base: fixed through the whole law; s₀, H₀: the entry; outer: the frames whose slots others may change (a def's callers); stack: all frames that run;
   ex: iterators that were made ahead of the entry and are walked here (a comprehension's); fn: the names whose cells were made at the entry (a def: all; a comprehension's block: its own); calm: not within an except suite; pn: pins that every state bears; xe: what is wanted of an exception that leaves the code -/
structure Cx where
  prog : Program
  w : World
  K : PySem.W.Frag
  mg : Str → Option Value
  base : Heap
  A : Around
  N : List Str
  s₀ : Shared
  H₀ : Hp
  env : Env
  outer : List Env
  stack : List Env
  ex : List Addr
  fn : Str → Bool
  calm : Bool
  pn : List (Addr × Obj)
  xe : Value → Shared → Prop
/-- the callers' frames -/
def frs (l : List Env) : List Addr := l.filterMap (·.frame)
abbrev Cx.fs (X : Cx) : List Addr := frs X.outer

def Vis (sc : Scope) (x : Str) : Prop := sc.names.lookup x = some .local ∨ sc.names.lookup x = some .cell ∨ sc.names.lookup x = some .free
def Loc (sc : Scope) (x : Str) : Prop := sc.names.lookup x = some .local ∨ sc.names.lookup x = some .cell
def Look (env : Env) (h : Heap) (m : Str → Option Value) (x : Str) (u : Value) : Prop :=
  (env.kindOf x = some .local ∧ m x = some u) ∨ ((env.kindOf x = some .cell ∨ env.kindOf x = some .free) ∧ ∃ c, env.cells.lookup x = some c ∧ h.IsCell c (some u))

structure Cx.Ok (X : Cx) : Prop where
  mod : Mod X.K X.mg X.base
  kind : X.env.scope.kind = .function
  glob : X.env.globals = mainGlobals
  blt : X.env.builtins = builtinsNs
  above : X.s₀.heap.objs.size ≤ X.env.locals
  inj : ∀ x y c, X.env.cells.lookup x = some c → X.env.cells.lookup y = some c → x = y
  has : ∀ x, (X.env.kindOf x = some .cell ∨ X.env.kindOf x = some .free) → ∃ c, X.env.cells.lookup x = some c
  cab : ∀ x c, X.fn x = true → X.env.cells.lookup x = some c → X.s₀.heap.objs.size ≤ c
  hd : X.calm = true → X.A.handled = none
  frames : X.A.frames = some X.stack
  stk : X.stack = X.outer ∨ (X.stack = X.env :: X.outer ∧ X.env.frame = some X.env.locals)
  exf : ∀ b ∈ X.ex, b ≠ X.env.locals ∧ ∀ x c, X.env.cells.lookup x = some c → c ≠ b
  bs : ∀ b o, X.base.get? b = some o → X.s₀.heap.get? b = some o ∧ X.H₀ b = none
  bsz : X.base.objs.size ≤ X.s₀.heap.objs.size
  noex : ∀ b o, X.base.get? b = some o → b ∉ X.ex
  exfs : ∀ b ∈ X.ex, b ∉ X.fs
  funs : X.s₀.heap.FunFrames X.base X.outer
  frf : ∀ b ∈ X.fs, X.H₀ b = none

structure Inv (X : Cx) (pins : List (Addr × Obj)) (σ : List (Option V)) (H : Hp) (s : Shared) : Prop where
  ok : X.Ok
  os : s.os = X.s₀.os
  bare : AllBare s.gens
  base : Un X.fs X.ex X.H₀ H X.s₀.heap s.heap
  loc : ∃ m, s.heap.Ns X.env.locals m ∧ ∀ (i : Nat) (x : Str) (v : V), X.N[i]? = some x → σ[i]? = some (some v) → Vis X.env.scope x → ∃ u, RelV v u ∧ Look X.env s.heap m x u
  cell : ∀ x c, X.env.cells.lookup x = some c → ∃ v, s.heap.IsCell c v
  free : H X.env.locals = none
  freeC : ∀ x c, X.env.cells.lookup x = some c → H c = none
  pin : ∀ p ∈ X.pn ++ pins, s.heap.get? p.1 = some p.2 ∧ H p.1 = none ∧ p.1 ≠ X.env.locals ∧ p.1 ∉ X.fs ∧ ∀ v, p.2.data ≠ .cell v
  hok : HOk X.prog X.w H s.heap
  len : σ.length = X.N.length

section
variable {X : Cx} {pins : List (Addr × Obj)} {σ : List (Option V)} {H H' : Hp} {s : Shared} {h' : Heap}

theorem Cx.Ok.nofr (ok : X.Ok) {b : Addr} {o : Obj} (e : X.base.get? b = some o) : b ∉ X.fs := fun hb => by
  have := (ok.funs.mem hb).1
  rw [e] at this; cases this
theorem Inv.bs (I : Inv X pins σ H s) : ∀ b o, X.base.get? b = some o → s.heap.get? b = some o ∧ H b = none := fun b o e =>
  ⟨I.base.keep b o (I.ok.bs b o e).1 (I.ok.bs b o e).2 (I.ok.nofr e) (I.ok.noex b o e), I.base.free b o (I.ok.bs b o e).1 (I.ok.bs b o e).2 (I.ok.noex b o e)⟩
theorem Inv.bk (I : Inv X pins σ H s) : ∀ b o, X.base.get? b = some o → s.heap.get? b = some o := fun b o e => (I.bs b o e).1
theorem Inv.mod (I : Inv X pins σ H s) : Mod X.K X.mg X.base := I.ok.mod
theorem Inv.kIn (I : Inv X pins σ H s) : X.K.In s.heap := I.ok.mod.kin.keeps I.bk
theorem Inv.nolimit (I : Inv X pins σ H s) : s.heap.NoLimit := I.ok.mod.nolimit.keeps I.bk
/-- the frame over the base: for OpenK's rules (K.In X.base is I.mod.kin) -/
theorem Inv.fr (I : Inv X pins σ H s) : ∃ m, Fr X.base X.env.locals s.heap m :=
  let ⟨m, hn, _⟩ := I.loc
  ⟨m, hn, I.bk, Nat.le_trans I.ok.bsz I.ok.above⟩
theorem Inv.lt (I : Inv X pins σ H s) : X.env.locals < s.heap.objs.size := let ⟨_, hn, _⟩ := I.loc; hn.lt
theorem Inv.sz (I : Inv X pins σ H s) : X.s₀.heap.objs.size ≤ s.heap.objs.size := Nat.le_trans I.ok.above (Nat.le_of_lt I.lt)
theorem Inv.nofs (I : Inv X pins σ H s) {a : Addr} (h : s.heap.objs.size ≤ a) : a ∉ X.fs := fun hb => by
  obtain ⟨_, o, ho, _⟩ := I.ok.funs.mem hb
  exact absurd (Nat.lt_of_lt_of_le (Heap.lt_size ho) (Nat.le_trans I.sz h)) (Nat.lt_irrefl _)
theorem Inv.cne (I : Inv X pins σ H s) : ∀ x c, X.env.cells.lookup x = some c → c ≠ X.env.locals := fun x c e z => by
  obtain ⟨v, o, ho, hd⟩ := I.cell x c e
  obtain ⟨m, ⟨o', es, ep, ho', hd', _⟩, _⟩ := I.loc
  rw [z, ho'] at ho; cases ho; rw [hd'] at hd; cases hd
theorem Inv.funs (I : Inv X pins σ H s) : s.heap.FunFrames X.base X.outer := by
  have all : ∀ (l : List Env), (∀ b ∈ frs l, b ∈ X.fs) → X.s₀.heap.FunFrames X.base l → s.heap.FunFrames X.base l := by
    intro l
    induction l with
    | nil => intro _ _; trivial
    | cons env r ih =>
      intro hs hl
      obtain ⟨hk, ⟨L, o, hf, hn, ho, hd⟩, hr⟩ := hl
      have hL : L ∈ X.fs := hs L (by unfold frs; rw [List.filterMap_cons, hf]; exact List.mem_cons_self)
      obtain ⟨sl, e⟩ := I.base.slot L o ho (I.ok.frf L hL) hL fun z => I.ok.exfs L z hL
      exact ⟨hk, ⟨L, _, hf, hn, e, hd⟩, ih (fun b hb => hs b (by unfold frs; rw [List.filterMap_cons, hf]; exact List.mem_cons_of_mem _ hb)) hr⟩
  exact all X.outer (fun _ hb => hb) I.ok.funs

/-- the frames that run, for a call -/
theorem Inv.stack (I : Inv X pins σ H s) : s.heap.FunFrames X.base X.stack := by
  rcases I.ok.stk with e | ⟨e, hf⟩
  · rw [e]; exact I.funs
  · rw [e]
    obtain ⟨m, hn, _⟩ := I.loc
    refine .cons (by rw [I.ok.kind]; decide) hf hn ?_ I.funs
    exact Heap.get?_none_of_le (Nat.le_trans I.ok.bsz I.ok.above)
theorem Inv.stkSub (I : Inv X pins σ H s) : ∀ b ∈ frs X.stack, b ∈ X.env.locals :: X.fs := fun b hb => by
  rcases I.ok.stk with e | ⟨e, hf⟩
  · rw [e] at hb; exact List.mem_cons_of_mem _ hb
  · rw [e] at hb
    unfold frs at hb
    rw [List.filterMap_cons, hf] at hb
    exact hb
theorem Inv.stkFree (I : Inv X pins σ H s) : ∀ b ∈ frs X.stack, H b = none := fun b hb => by
  rcases List.mem_cons.mp (I.stkSub b hb) with e | hb
  · rw [e]; exact I.free
  · obtain ⟨_, o, ho, _⟩ := I.ok.funs.mem hb
    exact I.base.free b o ho (I.ok.frf b hb) fun z => I.ok.exfs b z hb

/-- THE STEP: the untracked objects but the frame and the records at ch are kept (the callers' frames up to slots), the frame's map is kept, the new abstract heap is held -/
theorem Inv.step {g' : Array GenState} {t' : Nat} {d' : Drawn} {ch : List Addr} (I : Inv X pins σ H s)
    (hch : ∀ b ∈ ch, (b ∈ X.ex ∨ X.s₀.heap.objs.size ≤ b) ∧ b ≠ X.env.locals ∧ (∀ x c, X.env.cells.lookup x = some c → c ≠ b) ∧ ∀ p ∈ X.pn ++ pins, p.1 ≠ b)
    (keep : ∀ b o, b ≠ X.env.locals → b ∉ X.fs → b ∉ ch → s.heap.get? b = some o → H b = none → h'.get? b = some o)
    (slot : ∀ b o, b ≠ X.env.locals → b ∈ X.fs → b ∉ ch → s.heap.get? b = some o → H b = none → ∃ sl, h'.get? b = some { o with slots := sl }) (free : ∀ b o, b ∉ ch → s.heap.get? b = some o → H b = none → H' b = none)
    (there : ∀ b o, b ∉ ch → s.heap.get? b = some o → ∃ o', h'.get? b = some o')
    (tups : ∀ b xs, H b = some (.tup xs) → H' b = some (.tup xs)) (frzs : ∀ b o u, H b = some (.frz o u) → H' b = some (.frz o u)) (tbls : ∀ b ps, H b = some (.tbl ps) → ∃ more, H' b = some (.tbl (ps ++ more)))
    (ns : ∀ m, s.heap.Ns X.env.locals m → h'.Ns X.env.locals m) (hok : HOk X.prog X.w H' h') (hg : AllBare g') :
    Inv X pins σ H' { s with heap := h', gens := g', drawn := d', toks := t' } := by
  have neL : ∀ b o, X.s₀.heap.get? b = some o → b ≠ X.env.locals := fun b o e => Nat.ne_of_lt (Nat.lt_of_lt_of_le (Heap.lt_size e) I.ok.above)
  have neC : ∀ b o, X.s₀.heap.get? b = some o → b ∉ X.ex → b ∉ ch := fun b o e hx hb => by
    rcases (hch b hb).1 with z | z
    · exact hx z
    · exact absurd (Nat.lt_of_lt_of_le (Heap.lt_size e) z) (Nat.lt_irrefl _)
  have cellK : ∀ x c, X.env.cells.lookup x = some c → ∀ v, s.heap.IsCell c v → h'.IsCell c v := fun x c e v ⟨o, ho, hd⟩ => by
    have nch : c ∉ ch := fun z => (hch c z).2.2.1 x c e rfl
    by_cases hc : c ∈ X.fs
    · obtain ⟨sl, q⟩ := slot c o (I.cne x c e) hc nch ho (I.freeC x c e)
      exact ⟨_, q, hd⟩
    · exact ⟨o, keep c o (I.cne x c e) hc nch ho (I.freeC x c e), hd⟩
  refine ⟨I.ok, I.os, hg, ⟨fun b o e n hb hx => ?_, fun b o e n hb hx => ?_, fun b o e n hx => ?_, fun b o e hx => ?_, fun b xs e => tups b xs (I.base.tups b xs e), fun b o xs e => frzs b o xs (I.base.frzs b o xs e), fun b ps e => ?_⟩, ?_, fun x c e => ?_, ?_, fun x c e => ?_, fun p hp => ?_, hok, I.len⟩
  · exact keep b o (neL b o e) hb (neC b o e hx) (I.base.keep b o e n hb hx) (I.base.free b o e n hx)
  · obtain ⟨sl, e1⟩ := I.base.slot b o e n hb hx
    obtain ⟨sl', e2⟩ := slot b _ (neL b o e) hb (neC b o e hx) e1 (I.base.free b o e n hx)
    exact ⟨sl', e2⟩
  · obtain ⟨o', e1⟩ := I.base.there b o e hx
    exact free b o' (neC b o e hx) e1 (I.base.free b o e n hx)
  · obtain ⟨o', e1⟩ := I.base.there b o e hx
    exact there b o' (neC b o e hx) e1
  · obtain ⟨m1, e1⟩ := I.base.tbls b ps e
    obtain ⟨m2, e2⟩ := tbls b _ e1
    exact ⟨m1 ++ m2, by rw [e2, Array.append_assoc]⟩
  · obtain ⟨m, hn, hl⟩ := I.loc
    refine ⟨m, ns m hn, fun i x v e1 e2 e3 => ?_⟩
    obtain ⟨u, r, l⟩ := hl i x v e1 e2 e3
    refine ⟨u, r, ?_⟩
    rcases l with l | ⟨k, c, e, z⟩
    · exact .inl l
    · exact .inr ⟨k, c, e, cellK x c e _ z⟩
  · obtain ⟨v, z⟩ := I.cell x c e
    exact ⟨v, cellK x c e v z⟩
  · obtain ⟨m, ⟨o, _, _, ho, _⟩, _⟩ := I.loc
    exact free _ o (fun z => (hch _ z).2.1 rfl) ho I.free
  · obtain ⟨v, o, ho, hd⟩ := I.cell x c e
    exact free c o (fun z => (hch c z).2.2.1 x c e rfl) ho (I.freeC x c e)
  · obtain ⟨e, n, ne, nf, d⟩ := I.pin p hp
    have nch : p.1 ∉ ch := fun z => (hch p.1 z).2.2.2 p hp rfl
    exact ⟨keep p.1 p.2 ne nf nch e n, free p.1 p.2 nch e n, ne, nf, d⟩
/-- .. where the frame's own object is kept too -/
theorem Inv.un {t' : Nat} (I : Inv X pins σ H s) (u : Un X.fs [] H H' s.heap h') (hok : HOk X.prog X.w H' h') : Inv X pins σ H' { s with heap := h', toks := t' } := by
  obtain ⟨m, ⟨o, es, ep, ho, r⟩, _⟩ := id I.loc
  obtain ⟨sl, hL⟩ := u.any ho I.free (by simp)
  exact I.step (g' := s.gens) (d' := s.drawn) (ch := []) (fun _ z => nomatch z) (fun b o _ hb _ e n => u.keep b o e n hb (by simp)) (fun b o _ hb _ e n => u.slot b o e n hb (by simp)) (fun b o _ e n => u.free b o e n (by simp)) (fun b o _ e => u.there b o e (by simp)) u.tups u.frzs u.tbls (fun m' hm => by
    obtain ⟨o', es', ep', ho', r'⟩ := hm
    rw [ho] at ho'; cases ho'
    exact ⟨_, es', ep', hL, r'⟩) hok I.bare
/-- behind a call (or a comprehension's block): the slots of this frame may have changed too, the records at ch may have turned -/
theorem Inv.call {g' : Array GenState} {t' : Nat} {d' : Drawn} {ch : List Addr} (I : Inv X pins σ H s) (u : Un (frs X.stack) ch H H' s.heap h') (hok : HOk X.prog X.w H' h') (hg : AllBare g')
    (hch : ∀ b ∈ ch, (b ∈ X.ex ∨ X.s₀.heap.objs.size ≤ b) ∧ b ≠ X.env.locals ∧ (∀ x c, X.env.cells.lookup x = some c → c ≠ b) ∧ ∀ p ∈ X.pn ++ pins, p.1 ≠ b) :
    Inv X pins σ H' { s with heap := h', gens := g', drawn := d', toks := t' } := by
  obtain ⟨m, ⟨o, es, ep, ho, r⟩, _⟩ := id I.loc
  obtain ⟨sl, hL⟩ := u.any ho I.free fun z => (hch _ z).2.1 rfl
  exact I.step (ch := ch) hch (fun b o hL hb hc e n => u.keep b o e n (fun z => (List.mem_cons.mp (I.stkSub b z)).elim hL hb) hc) (fun b o _ _ hc e n => u.any e n hc) (fun b o hc e n => u.free b o e n hc) (fun b o hc e => u.there b o e hc) u.tups u.frzs u.tbls (fun m' hm => by
    obtain ⟨o', es', ep', ho', r'⟩ := hm
    rw [ho] at ho'; cases ho'
    exact ⟨_, es', ep', hL, r'⟩) hok hg
/-- an untracked record of ours (an iterator) has turned -/
theorem Inv.turned {t' : Nat} {it : Addr} (I : Inv X pins σ H s) (k : ∀ b o, b ≠ it → s.heap.get? b = some o → h'.get? b = some o) (hn : H it = none) (hL : it ≠ X.env.locals)
    (h1 : it ∈ X.ex ∨ X.s₀.heap.objs.size ≤ it) (h2 : ∀ x c, X.env.cells.lookup x = some c → c ≠ it) (h3 : ∀ p ∈ X.pn ++ pins, p.1 ≠ it) : Inv X pins σ H { s with heap := h', toks := t' } := by
  have nit : ∀ b u, H b = some u → b ≠ it := fun b u e z => by rw [z, hn] at e; cases e
  refine I.step (g' := s.gens) (d' := s.drawn) (ch := [it]) (fun b hb => ?_) (fun b o _ _ hc e _ => k b o (fun z => hc (by simp [z])) e) (fun b o _ _ hc e _ => ⟨o.slots, k b o (fun z => hc (by simp [z])) e⟩) (fun _ _ _ _ n => n)
    (fun b o hc e => ⟨o, k b o (fun z => hc (by simp [z])) e⟩) (fun _ _ e => e) (fun _ _ _ e => e) (fun b ps e => ⟨#[], by rw [e]; simp⟩) (fun m hm => ?_) (fun b u e => ?_) I.bare
  · have e : b = it := by simpa using hb
    subst e
    exact ⟨h1, hL, h2, h3⟩
  · obtain ⟨o, es, ep, ho, r⟩ := hm
    exact ⟨o, es, ep, k _ o (Ne.symm hL) ho, r⟩
  · refine (I.hok b u e).stay (fun c v hc q => k c v ?_ q) (fun _ q => q) fun _ _ q => q
    rcases hc with z | z
    · rw [z]; exact nit b u e
    · exact nit c _ z
theorem Inv.tok (I : Inv X pins σ H s) (t : Nat) : Inv X pins σ H { s with toks := t } := I.un (h' := s.heap) (t' := t) Un.refl I.hok
/-- all objects kept -/
theorem Inv.kept {t' : Nat} (I : Inv X pins σ H s) (k : ∀ b u, s.heap.get? b = some u → h'.get? b = some u) : Inv X pins σ H { s with heap := h', toks := t' } := I.un (Un.kept k) (I.hok.kept k)
/-- a new object laid and tracked -/
theorem Inv.laid {a : Addr} {o : HO} {t' : Nat} (I : Inv X pins σ H s) (k : ∀ b u, s.heap.get? b = some u → h'.get? b = some u) (hp : s.heap.objs.size ≤ a) (new : ObjOk X.prog X.w (upd H a o) h' a o) :
    Inv X pins σ (upd H a o) { s with heap := h', toks := t' } := I.un (Un.laid k hp (I.hok.fresh hp)) (I.hok.laid k hp new)
/-- an object written -/
theorem Inv.write {x e : Addr} {o : HO} {t' : Nat} (I : Inv X pins σ H s) (mu : Mut (H x)) (he : e = x ∨ H e = some (.own x)) (k : ∀ b u, b ≠ e → s.heap.get? b = some u → h'.get? b = some u) (heo : ∃ u, h'.get? e = some u)
    (new : ObjOk X.prog X.w (upd H x o) h' x o) : Inv X pins σ (upd H x o) { s with heap := h', toks := t' } := I.un (Un.write mu he k heo) (I.hok.write mu he k heo new)
theorem Inv.pins_of {pins' : List (Addr × Obj)} (I : Inv X pins σ H s) (h : ∀ p ∈ pins', s.heap.get? p.1 = some p.2 ∧ H p.1 = none ∧ p.1 ≠ X.env.locals ∧ p.1 ∉ X.fs ∧ ∀ v, p.2.data ≠ .cell v) : Inv X pins' σ H s :=
  ⟨I.ok, I.os, I.bare, I.base, I.loc, I.cell, I.free, I.freeC, fun p hp => (List.mem_append.mp hp).elim (fun z => I.pin p (List.mem_append_left _ z)) (h p), I.hok, I.len⟩

theorem nodup_ix {N : List Str} (hN : N.Nodup) {i j : Nat} {x : Str} (a : N[i]? = some x) (b : N[j]? = some x) : i = j := by
  obtain ⟨h1, e1⟩ := List.getElem?_eq_some_iff.mp a
  obtain ⟨h2, e2⟩ := List.getElem?_eq_some_iff.mp b
  exact (List.getElem_inj hN).mp (e1.trans e2.symm)

/-- a name is stored; what changed -/
theorem store_ok2 {M : Model} {A : Around} {E : Value → Shared → Prop} {i : Nat} {x : Str} {v : V} {u : Value} {Q : Unit → Shared → Prop} (I : Inv X pins σ H s) (hN : X.N.Nodup) (hi : X.N[i]? = some x) (hx : Loc X.env.scope x) (r : RelV v u)
    (h : ∀ s', Inv X pins (σ.set i (some v)) H s' → (∃ a, Heap.SameBut a s.heap s'.heap ∧ (a = X.env.locals ∨ X.env.cells.lookup x = some a)) → Q () s') (hf : X.fn x = true ∨ X.env.scope.names.lookup x = some .local := by first | exact .inl rfl | exact .inr rfl | assumption) : wpAny M A (storeName X.env x u) Q E s := by
  obtain ⟨m, hn, hl⟩ := id I.loc
  have hcls : (X.env.scope.kind == .class || (X.env.scope.kind == .module && X.env.locals != X.env.globals)) = false := by rw [I.ok.kind]; rfl
  have hiσ : i < σ.length := by rw [I.len]; exact (List.getElem?_eq_some_iff.mp hi).1
  have cne := I.cne
  have tracked : ∀ {a : Addr} {h' : Heap}, (∃ o, s.heap.get? a = some o ∧ H a = none) → Heap.SameBut a s.heap h' → HOk X.prog X.w H h' := fun {a h'} ha hs b ob e => by
    obtain ⟨_, _, hfree⟩ := ha
    refine (I.hok b ob e).stay (fun c w' hc q => (hs.2 c ?_).trans q) (fun _ q => q) fun _ _ q => q
    rintro rfl
    rcases hc with rfl | hc
    · rw [hfree] at e; cases e
    · rw [hfree] at hc; cases hc
  rcases hx with hk | hk
  · refine wpAny_storeName_local hk hn (fun h' hn' hs => ?_) hcls
    obtain ⟨oL, _, _, hoL, _⟩ := id hn
    refine h _ ⟨I.ok, I.os, I.bare, ⟨fun b o e n hb hx => ?_, fun b o e n hb hx => ?_, I.base.free, fun b o e hx => ?_, I.base.tups, I.base.frzs, I.base.tbls⟩, ⟨_, hn', fun j y v' e1 e2 e3 => ?_⟩, fun y c e => ?_, I.free, I.freeC, fun p hp => ?_, tracked ⟨oL, hoL, I.free⟩ hs, by simpa using I.len⟩ ⟨_, hs, .inl rfl⟩
    · exact (hs.2 b (Nat.ne_of_lt (Nat.lt_of_lt_of_le (Heap.lt_size e) I.ok.above))).trans (I.base.keep b o e n hb hx)
    · obtain ⟨sl, e1⟩ := I.base.slot b o e n hb hx
      exact ⟨sl, (hs.2 b (Nat.ne_of_lt (Nat.lt_of_lt_of_le (Heap.lt_size e) I.ok.above))).trans e1⟩
    · obtain ⟨o', e1⟩ := I.base.there b o e hx
      exact ⟨o', (hs.2 b (Nat.ne_of_lt (Nat.lt_of_lt_of_le (Heap.lt_size e) I.ok.above))).trans e1⟩
    · by_cases hj : j = i
      · subst hj
        rw [hi] at e1; cases e1
        rw [List.getElem?_set_self hiσ] at e2
        cases e2
        exact ⟨u, r, .inl ⟨hk, by simp⟩⟩
      · rw [List.getElem?_set_ne (Ne.symm hj)] at e2
        obtain ⟨u', r', q⟩ := hl j y v' e1 e2 e3
        refine ⟨u', r', ?_⟩
        rcases q with ⟨k, e⟩ | ⟨k, c, e, z⟩
        · refine .inl ⟨k, ?_⟩
          have : y ≠ x := fun e => hj (nodup_ix hN e1 (e ▸ hi))
          simp [this, e]
        · exact .inr ⟨k, c, e, z.sameBut hs (cne y c e)⟩
    · obtain ⟨w', z⟩ := I.cell y c e
      exact ⟨w', z.sameBut hs (cne y c e)⟩
    · obtain ⟨e, n, ne, nf, d⟩ := I.pin p hp
      exact ⟨(hs.2 p.1 ne).trans e, n, ne, nf, d⟩
  · have hfn : X.fn x = true := by
      rcases hf with z | z
      · exact z
      · rw [z] at hk; cases hk
    obtain ⟨c, hc⟩ := I.ok.has x (.inl hk)
    obtain ⟨w', z⟩ := I.cell x c hc
    refine wpAny_storeName_cell I.ok.kind hk hc z (fun h' hc' hs => ?_)
    obtain ⟨oc, hoc, hocd⟩ := id z
    refine h { s with heap := h' } ⟨I.ok, I.os, I.bare, ⟨fun b o e n hb hx => ?_, fun b o e n hb hx => ?_, I.base.free, fun b o e hx => ?_, I.base.tups, I.base.frzs, I.base.tbls⟩, ⟨m, hn.sameBut hs (Ne.symm (cne x c hc)), fun j y v' e1 e2 e3 => ?_⟩, fun y c' e => ?_, I.free, I.freeC, fun p hp => ?_, tracked ⟨oc, hoc, I.freeC x c hc⟩ hs, by simpa using I.len⟩ ⟨c, hs, .inr hc⟩
    · exact (hs.2 b (Nat.ne_of_lt (Nat.lt_of_lt_of_le (Heap.lt_size e) (I.ok.cab x c hfn hc)))).trans (I.base.keep b o e n hb hx)
    · obtain ⟨sl, e1⟩ := I.base.slot b o e n hb hx
      exact ⟨sl, (hs.2 b (Nat.ne_of_lt (Nat.lt_of_lt_of_le (Heap.lt_size e) (I.ok.cab x c hfn hc)))).trans e1⟩
    · obtain ⟨o', e1⟩ := I.base.there b o e hx
      exact ⟨o', (hs.2 b (Nat.ne_of_lt (Nat.lt_of_lt_of_le (Heap.lt_size e) (I.ok.cab x c hfn hc)))).trans e1⟩
    · by_cases hj : j = i
      · subst hj
        rw [hi] at e1; cases e1
        rw [List.getElem?_set_self hiσ] at e2
        cases e2
        exact ⟨u, r, .inr ⟨.inl hk, c, hc, hc'⟩⟩
      · rw [List.getElem?_set_ne (Ne.symm hj)] at e2
        obtain ⟨u', r', q⟩ := hl j y v' e1 e2 e3
        refine ⟨u', r', ?_⟩
        rcases q with q | ⟨k, c', e, z'⟩
        · exact .inl q
        · refine .inr ⟨k, c', e, z'.sameBut hs ?_⟩
          rintro rfl
          exact hj (nodup_ix hN e1 (I.ok.inj _ _ _ e hc ▸ hi))
    · by_cases hcc : c' = c
      · subst hcc; exact ⟨_, hc'⟩
      · obtain ⟨w2, z2⟩ := I.cell y c' e
        exact ⟨w2, z2.sameBut hs hcc⟩
    · obtain ⟨e, n, ne, nf, d⟩ := I.pin p hp
      refine ⟨(hs.2 p.1 ?_).trans e, n, ne, nf, d⟩
      intro q
      rw [q, hoc] at e
      have q' : oc = p.2 := Option.some.inj e
      exact d w' (by rw [← q']; exact hocd)
theorem store_ok {M : Model} {A : Around} {E : Value → Shared → Prop} {i : Nat} {x : Str} {v : V} {u : Value} {Q : Unit → Shared → Prop} (I : Inv X pins σ H s) (hN : X.N.Nodup) (hi : X.N[i]? = some x) (hx : Loc X.env.scope x) (r : RelV v u)
    (h : ∀ s', Inv X pins (σ.set i (some v)) H s' → Q () s') (hf : X.fn x = true ∨ X.env.scope.names.lookup x = some .local := by first | exact .inl rfl | exact .inr rfl | assumption) : wpAny M A (storeName X.env x u) Q E s :=
  store_ok2 I hN hi hx r (fun s' I' _ => h s' I') hf
/-- behind a call or a block, the state as it is -/
theorem Inv.call' {s' : Shared} {ch : List Addr} (I : Inv X pins σ H s) (ho : s'.os = s.os) (u : Un (frs X.stack) ch H H' s.heap s'.heap) (hok : HOk X.prog X.w H' s'.heap) (hg : AllBare s'.gens)
    (hch : ∀ b ∈ ch, (b ∈ X.ex ∨ X.s₀.heap.objs.size ≤ b) ∧ b ≠ X.env.locals ∧ (∀ x c, X.env.cells.lookup x = some c → c ≠ b) ∧ ∀ p ∈ X.pn ++ pins, p.1 ≠ b) : Inv X pins σ H' s' := by
  obtain ⟨h', g', d', t', o'⟩ := s'
  have e : o' = s.os := ho
  subst e
  exact I.call (g' := g') (t' := t') (d' := d') u hok hg hch
end

/-! ### the judgements -/
/-- an exception: its class, its own dict's address (where it has one), the abstract heap behind it -/
abbrev XK := Value → Option Addr → Hp → Prop
abbrev St := List (Option V)
abbrev VK := V → Hp → Prop
/-- an expression's reading; a test's; an argument list's -/
abbrev TE := St → Hp → VK → Prop
abbrev TT := St → Hp → (Bool → Hp → Prop) → Prop
abbrev TA := St → Hp → (List V → Hp → Prop) → Prop
/-- what is wanted behind a statement -/
structure Ends where
  nx : St → Hp → Prop
  rt : VK
  bk : St → Hp → Prop := fun _ _ => False
  ct : St → Hp → Prop := fun _ _ => False
abbrev TS := Ends → St → Hp → Prop

def EP (X : Cx) (pins : List (Addr × Obj)) (σ : St) (Q : VK) (u : Value) (s' : Shared) : Prop := ∃ v H', Inv X pins σ H' s' ∧ RelV v u ∧ Q v H'
def TP (X : Cx) (pins : List (Addr × Obj)) (σ : St) (Q : Bool → Hp → Prop) (b : Bool) (s' : Shared) : Prop := ∃ H', Inv X pins σ H' s' ∧ Q b H'
def AP (X : Cx) (pins : List (Addr × Obj)) (σ : St) (Q : List V → Hp → Prop) (us : List Value) (s' : Shared) : Prop := ∃ vs H', Inv X pins σ H' s' ∧ Vals vs us ∧ Q vs H'
def SP (X : Cx) (pins : List (Addr × Obj)) (D : Ends) (f : Flow) (s' : Shared) : Prop :=
  match f with
  | .next => ∃ σ' H', Inv X pins σ' H' s' ∧ D.nx σ' H'
  | .brk => ∃ σ' H', Inv X pins σ' H' s' ∧ D.bk σ' H'
  | .cont => ∃ σ' H', Inv X pins σ' H' s' ∧ D.ct σ' H'
  | .ret u => ∃ v σ' H', Inv X pins σ' H' s' ∧ RelV v u ∧ D.rt v H'

def PE (X : Cx) (e : Expr) (t : TE) : Prop :=
  ∀ (pins : List (Addr × Obj)) (s : Shared) (σ : St) (H : Hp) (Q : VK), Inv X pins σ H s → t σ H Q → wpAny (model X.prog X.w) X.A (eval e X.env) (EP X pins σ Q) X.xe s
def PT (X : Cx) (e : Expr) (t : TT) : Prop :=
  ∀ (pins : List (Addr × Obj)) (s : Shared) (σ : St) (H : Hp) (Q : Bool → Hp → Prop), Inv X pins σ H s → t σ H Q → wpAny (model X.prog X.w) X.A (isTrue e X.env (eval e X.env)) (TP X pins σ Q) X.xe s
/-- a test whatever its 'whole' is (and, or) -/
def PW (X : Cx) (e : Expr) (t : TT) : Prop :=
  ∀ (whole : Sem Value) (pins : List (Addr × Obj)) (s : Shared) (σ : St) (H : Hp) (Q : Bool → Hp → Prop), Inv X pins σ H s → t σ H Q → wpAny (model X.prog X.w) X.A (isTrue e X.env whole) (TP X pins σ Q) X.xe s
theorem PW.pt {X : Cx} {e : Expr} {t : TT} (h : PW X e t) : PT X e t := h _
/-- an argument list (no star), from the left -/
def PA (X : Cx) (es : List Expr) (t : TA) : Prop :=
  ∀ (pos : Pos) (pins : List (Addr × Obj)) (s : Shared) (σ : St) (H : Hp) (Q : List V → Hp → Prop), Inv X pins σ H s → t σ H Q → wpAny (model X.prog X.w) X.A (spliced (backTo pos (starEach es X.env))) (AP X pins σ Q) X.xe s
def PS (X : Cx) (st : Stmt) (t : TS) : Prop :=
  ∀ (pins : List (Addr × Obj)) (s : Shared) (σ : St) (H : Hp) (D : Ends), Inv X pins σ H s → t D σ H → wpAny (model X.prog X.w) X.A (exec st X.env) (SP X pins D) X.xe s
def PSs (X : Cx) (st : List Stmt) (t : TS) : Prop :=
  ∀ (pins : List (Addr × Obj)) (s : Shared) (σ : St) (H : Hp) (D : Ends), Inv X pins σ H s → t D σ H → wpAny (model X.prog X.w) X.A (execs st X.env) (SP X pins D) X.xe s
/-- weaken the end -/
theorem thn {α : Type} {t : Sem α} {Q Q' : α → Shared → Prop} {M : Model} {A : Around} {E : Value → Shared → Prop} {s : Shared} (h : wpAny M A t Q E s) (hQ : ∀ a s, Q a s → Q' a s) : wpAny M A t Q' E s := wpAny_mono h hQ fun _ _ x => x
end L2

namespace L2
open PySem PySem.Spec PyProof.Rows
section
variable {X : Cx}

/-! ### names and constants -/
def tVar (i : Nat) : TE := fun σ H Q => ∃ v, σ[i]? = some (some v) ∧ Q v H
def tC (v : V) : TE := fun _ H Q => Q v H
theorem pe_var {i : Nat} {x : Str} {pos : Pos} (hN : X.N[i]? = some x) (hv : Vis X.env.scope x) (hd : (x == ("__debug__" : Str)) = false := by decide) (hcd : (x == ("__classdict__" : Str)) = false := by decide) : PE X (.Name x pos) (tVar i) := by
  intro pins s σ H Q I h
  obtain ⟨v, e, h⟩ := h
  obtain ⟨m, hn, hl⟩ := I.loc
  obtain ⟨u, r, l⟩ := hl i x v hN e hv
  have fin : EP X pins σ Q u s := ⟨v, H, I, r, h⟩
  rcases l with ⟨hk, hm⟩ | ⟨hk, c, hc, hcell⟩
  · exact wpAny_Name (wpAny_loadName_local I.ok.kind hk hn hm fin) hd
  · rcases hk with hk | hk
    · exact wpAny_Name (wpAny_loadName_cell I.ok.kind hk hc hcell fin) hd
    · exact wpAny_Name (wpAny_loadName_free I.ok.kind hk hc hcell fin hcd) hd
theorem pe_int {i j pos} : PE X (.Constant (.int i) j pos) (tC (.int i)) := fun _ _ _ H _ I h => wpAny_Constant_int ⟨.int i, H, I.tok _, ⟨_, rfl⟩, h⟩
theorem pe_bl {b j pos} : PE X (.Constant (.bool b) j pos) (tC (.bl b)) := fun _ _ _ H _ I h => Constant_bool ⟨.bl b, H, I, rfl, h⟩
theorem pe_non {j pos} : PE X (.Constant .none j pos) (tC .non) := fun _ _ _ H _ I h => Constant_none ⟨.non, H, I, rfl, h⟩
theorem pe_str {x j pos} : PE X (.Constant (.str x) j pos) (tC (.str x)) := fun _ _ _ H _ I h => Calls.Constant_str ⟨.str x, H, I.tok _, ⟨_, rfl⟩, h⟩

/-- a global name of the def -/
def Gl (X : Cx) (x : Str) : Prop := X.env.kindOf x = some .globalImplicit
theorem ld_glob {E : Value → Shared → Prop} {pins : List (Addr × Obj)} {s : Shared} {σ : St} {H : Hp} {x : Str} {u : Value} {pos : Pos} {Q : Value → Shared → Prop} (I : Inv X pins σ H s) (hg : Gl X x) (hm : X.mg x = some u) (h : Q u s)
    (hd : (x == ("__debug__" : Str)) = false := by decide) : wpAny (model X.prog X.w) X.A (eval (.Name x pos) X.env) Q E s :=
  Calls.Name_function_global I.ok.kind hg (Calls.loadGlobal_global (by rw [I.ok.glob]; exact I.mod.glob.keeps I.bk) hm h) hd
theorem ld_blt {E : Value → Shared → Prop} {pins : List (Addr × Obj)} {s : Shared} {σ : St} {H : Hp} {x : Str} {u : Value} {pos : Pos} {Q : Value → Shared → Prop} (I : Inv X pins σ H s) (hg : Gl X x) (hm : X.mg x = none) (hv : bootBuiltins x = some u) (h : Q u s)
    (hn : x ≠ "__name__" := by decide) (hd : (x == ("__debug__" : Str)) = false := by decide) : wpAny (model X.prog X.w) X.A (eval (.Name x pos) X.env) Q E s := by
  obtain ⟨mb, h1, h2⟩ := I.mod.blt
  exact Calls.Name_function_global I.ok.kind hg (Calls.loadGlobal_builtin (by rw [I.ok.glob]; exact I.mod.glob.keeps I.bk) hm (by rw [I.ok.blt]; exact h1.keeps I.bk) ((h2 x hn).trans hv) h) hd
/-- a module's constant, a class, a function, as a value -/
theorem pe_glob {x : Str} {v : V} {u : Value} {pos : Pos} (hg : Gl X x) (hm : X.mg x = some u) (r : RelV v u) (hd : (x == ("__debug__" : Str)) = false := by decide) : PE X (.Name x pos) (tC v) :=
  fun _ _ _ H _ I h => ld_glob I hg hm ⟨v, H, I, r, h⟩ hd
theorem pe_bltn {x : Str} {v : V} {u : Value} {pos : Pos} (hg : Gl X x) (hm : X.mg x = none) (hv : bootBuiltins x = some u) (r : RelV v u) (hn : x ≠ "__name__" := by decide) (hd : (x == ("__debug__" : Str)) = false := by decide) : PE X (.Name x pos) (tC v) :=
  fun _ _ _ H _ I h => ld_blt I hg hm hv ⟨v, H, I, r, h⟩ hn hd

variable {a b : Expr} {ta tb : TE} {pos : Pos}
/-- a comparison as a value, as a test -/
def tB (t : TE) : TT := fun σ H Q => t σ H fun x H1 => ∃ c, x = .bl c ∧ Q c H1
/-- an expression whose value is a bool, as a test -/
theorem pt_val {e : Expr} {t : TE} (h : PE X e t) (he : ∀ whole, isTrue e X.env whole = (do let v ← whole; standAt e.pos; holding [v] (truthy v)) := by intro _; rfl) : PT X e (tB t) := by
  intro pins s σ H Q I hw
  refine isTrue_plain (thn (h pins s σ H _ I hw) fun v s1 ⟨x, H1, I1, r1, q1⟩ => ?_) (he _)
  obtain ⟨d, rfl, q⟩ := q1
  cases r1
  exact wpAny_truthy_bool ⟨H1, I1, q⟩

/-! ### and, or, not -/
variable {tA tB' : TT} {rest : List Expr}
def tAnd (t u : TT) : TT := fun σ H Q => t σ H fun c H1 => if c = true then u σ H1 Q else Q false H1
def tOr (t u : TT) : TT := fun σ H Q => t σ H fun c H1 => if c = true then Q true H1 else u σ H1 Q
def tNot (t : TT) : TT := fun σ H Q => t σ H fun c H1 => Q (!c) H1
theorem pw_and1 (ha : PT X a tA) : PW X (.BoolOp .And [a] pos) tA := by
  intro wh pins s σ H Q I h
  refine isTrue_and (thn (ha pins s σ H Q I h) fun c s1 e => ?_)
  cases c with
  | true => exact isTrue_and_nil e
  | false => exact e
theorem pw_or1 (ha : PT X a tA) : PW X (.BoolOp .Or [a] pos) tA := by
  intro wh pins s σ H Q I h
  refine isTrue_or (thn (ha pins s σ H Q I h) fun c s1 e => ?_)
  cases c with
  | false => exact isTrue_or_nil e
  | true => exact e
theorem pw_and (ha : PT X a tA) (hb : PW X (.BoolOp .And (b :: rest) pos) tB') : PW X (.BoolOp .And (a :: b :: rest) pos) (tAnd tA tB') := by
  intro wh pins s σ H Q I h
  refine isTrue_and (thn (ha pins s σ H _ I h) fun c s1 ⟨H1, I1, q1⟩ => ?_)
  cases c with
  | true => exact hb wh pins s1 σ H1 Q I1 q1
  | false => exact ⟨H1, I1, q1⟩
theorem pw_or (ha : PT X a tA) (hb : PW X (.BoolOp .Or (b :: rest) pos) tB') : PW X (.BoolOp .Or (a :: b :: rest) pos) (tOr tA tB') := by
  intro wh pins s σ H Q I h
  refine isTrue_or (thn (ha pins s σ H _ I h) fun c s1 ⟨H1, I1, q1⟩ => ?_)
  cases c with
  | true => exact ⟨H1, I1, q1⟩
  | false => exact hb wh pins s1 σ H1 Q I1 q1
theorem pt_not (ha : PT X a tA) : PT X (.UnaryOp .Not a pos) (tNot tA) := by
  intro pins s σ H Q I h
  exact isTrue_not (ha pins s σ H (fun c H1 => Q (!c) H1) I h)
/-- .. as values (bools) -/
def tAndV (ta tb : TE) : TE := fun σ H Q => ta σ H fun x H1 => ∃ c, x = .bl c ∧ if c = true then tb σ H1 Q else Q (.bl false) H1
def tNotV (ta : TE) : TE := fun σ H Q => ta σ H fun x H1 => ∃ c, x = .bl c ∧ Q (.bl (!c)) H1
theorem pe_one {op} {t : TE} (h : PE X a t) : PE X (.BoolOp op [a] pos) t := fun pins s σ H Q I hw => BoolOp_one (h pins s σ H Q I hw)
theorem pe_and (ha : PE X a ta) (hb : PE X (.BoolOp .And (b :: rest) pos) tb) : PE X (.BoolOp .And (a :: b :: rest) pos) (tAndV ta tb) := by
  intro pins s σ H Q I h
  refine BoolOp_and (thn (ha pins s σ H _ I h) fun v s1 ⟨x, H1, I1, r1, q1⟩ => ?_)
  obtain ⟨c, rfl, q1⟩ := q1
  cases r1
  refine wpAny_truthy_bool ?_
  cases c with
  | true => exact hb pins s1 σ H1 Q I1 q1
  | false => exact ⟨.bl false, H1, I1, rfl, q1⟩
theorem pe_not (ha : PE X a ta) : PE X (.UnaryOp .Not a pos) (tNotV ta) := by
  intro pins s σ H Q I h
  refine UnaryOp_ (thn (ha pins s σ H _ I h) fun v s1 ⟨x, H1, I1, r1, q1⟩ => ?_)
  obtain ⟨c, rfl, q1⟩ := q1
  cases r1
  exact not_of (wpAny_truthy_bool ⟨.bl (!c), H1, I1, rfl, q1⟩)
/-- a if t else b -/
def tIf (t : TT) (ta tb : TE) : TE := fun σ H Q => t σ H fun c H1 => if c = true then ta σ H1 Q else tb σ H1 Q
theorem pe_ifExp {c : Expr} (hc : PT X c tA) (ha : PE X a ta) (hb : PE X b tb) : PE X (.IfExp c a b pos) (tIf tA ta tb) := by
  intro pins s σ H Q I h
  refine wpAny_IfExp (thn (hc pins s σ H _ I h) fun d s1 ⟨H1, I1, q1⟩ => ?_)
  cases d with
  | true => exact ha pins s1 σ H1 Q I1 q1
  | false => exact hb pins s1 σ H1 Q I1 q1
end
end L2

namespace L2
open PySem PySem.Spec PyProof.Rows

/-! ### a list, a tuple that is read: tracked, frozen, or an object of the module -/
def SqL (K : PySem.W.Frag) (H : Hp) (a : Addr) (xs : List V) : Prop :=
  Rd H a (.lst xs) ∨
    ∃ (o : Obj) (its : Array Value) (n : Nat), K.lookup a = some o ∧ o.cls = .type "list" ∧ o.dict = none ∧ o.data = .seq its n ∧ its.size ≤ sizeLine ∧ Vals xs its.toList
def SqT (K : PySem.W.Frag) (H : Hp) (a : Addr) (xs : List V) : Prop :=
  Rd H a (.tup xs) ∨
    ∃ (o : Obj) (its : Array Value) (n : Nat), K.lookup a = some o ∧ o.cls = .type "tuple" ∧ o.data = .seq its n ∧ its.size ≤ sizeLine ∧ Vals xs its.toList
def absV : Value → Option V
  | .none => some .non
  | .bool b => some (.bl b)
  | .int i _ => some (.int i)
  | .str x _ => some (.str x)
  | .bytes b _ => some (.byt b)
  | .float b _ => some (.flt b)
  | .ref a => some (.ref a)
  | .type n => some (.ty n)
  | _ => none
theorem RelV.abs {x : V} {u : Value} (r : RelV x u) : absV u = some x := by
  cases x with
  | non => cases r; rfl
  | bl _ => cases r; rfl
  | int _ => obtain ⟨t, rfl⟩ := r; rfl
  | str _ => obtain ⟨t, rfl⟩ := r; rfl
  | byt _ => obtain ⟨t, rfl⟩ := r; rfl
  | flt _ => obtain ⟨t, rfl⟩ := r; rfl
  | ref _ => cases r; rfl
  | ty _ => cases r; rfl
theorem RelV.inj {x y : V} {u : Value} (r : RelV x u) (q : RelV y u) : x = y := Option.some.inj (r.abs.symm.trans q.abs)
theorem Vals.inj : ∀ {xs ys : List V} {us : List Value}, Vals xs us → Vals ys us → xs = ys
  | _, _, _, .nil, .nil => rfl
  | _, _, _, .cons r t, .cons r' t' => by rw [r.inj r', Vals.inj t t']
section
variable {X : Cx} {pins : List (Addr × Obj)} {σ : St} {H : Hp} {s : Shared} {a : Addr} {xs ys : List V}
theorem SqL.of {K : PySem.W.Frag} (h : H a = some (.lst xs)) : SqL K H a xs := .inl (.inl h)
theorem SqT.of {K : PySem.W.Frag} (h : H a = some (.tup xs)) : SqT K H a xs := .inl (.inl h)
theorem Inv.list (I : Inv X pins σ H s) (h : SqL X.K H a xs) : ∃ its : List Value, Vals xs its ∧ PlainL s.heap a its.toArray ∧ xs.length ≤ sizeLine := by
  rcases h with h | ⟨o, its, n, hk, hc, hd, hs, hz, r⟩
  · obtain ⟨z, its, n, r, e⟩ := h.ok I.hok
    exact ⟨its, r, ⟨_, n, e, rfl, rfl, rfl⟩, z⟩
  · refine ⟨its.toList, r, ⟨o, n, I.kIn a o hk, hc, hd, by simpa using hs⟩, ?_⟩
    have e := r.length
    simp only [Array.length_toList] at e
    omega
theorem Inv.tuple (I : Inv X pins σ H s) (h : SqT X.K H a xs) : ∃ its : List Value, Vals xs its ∧ IsTup s.heap a its.toArray ∧ xs.length ≤ sizeLine := by
  rcases h with h | ⟨o, its, n, hk, hc, hs, hz, r⟩
  · obtain ⟨z, its, r, p⟩ := h.ok I.hok
    exact ⟨its, r, p, z⟩
  · refine ⟨its.toList, r, ⟨o, I.kIn a o hk, hc, n, by simpa using hs⟩, ?_⟩
    have e := r.length
    simp only [Array.length_toList] at e
    omega
theorem Inv.list_inj (I : Inv X pins σ H s) (h : SqL X.K H a xs) (h' : SqL X.K H a ys) : xs = ys := by
  obtain ⟨its, r, ⟨o, n, e, _, _, d⟩, _⟩ := I.list h
  obtain ⟨its', r', ⟨o', n', e', _, _, d'⟩, _⟩ := I.list h'
  rw [e] at e'; cases e'
  rw [d] at d'
  injection d' with d1 _
  have : its = its' := by simpa using congrArg Array.toList d1
  subst this
  exact r.inj r'
end

/-! ### another wish about exceptions -/
abbrev Cx.wish (X : Cx) (E : Value → Shared → Prop) : Cx := { X with xe := E }
/-- no exception leaves -/
abbrev Cx.nox (X : Cx) : Cx := X.wish fun _ _ => False
theorem Cx.Ok.wish {X : Cx} (ok : X.Ok) (E : Value → Shared → Prop) : (X.wish E).Ok :=
  ⟨ok.mod, ok.kind, ok.glob, ok.blt, ok.above, ok.inj, ok.has, ok.cab, ok.hd, ok.frames, ok.stk, ok.exf, ok.bs, ok.bsz, ok.noex, ok.exfs, ok.funs, ok.frf⟩
theorem Cx.Ok.unwish {X : Cx} {E : Value → Shared → Prop} (ok : (X.wish E).Ok) : X.Ok :=
  ⟨ok.mod, ok.kind, ok.glob, ok.blt, ok.above, ok.inj, ok.has, ok.cab, ok.hd, ok.frames, ok.stk, ok.exf, ok.bs, ok.bsz, ok.noex, ok.exfs, ok.funs, ok.frf⟩
section
variable {X : Cx} {pins : List (Addr × Obj)} {σ : St} {H : Hp} {s : Shared} {E : Value → Shared → Prop}
theorem Inv.wish (I : Inv X pins σ H s) (E : Value → Shared → Prop) : Inv (X.wish E) pins σ H s := ⟨I.ok.wish E, I.os, I.bare, I.base, I.loc, I.cell, I.free, I.freeC, I.pin, I.hok, I.len⟩
theorem Inv.unwish (I : Inv (X.wish E) pins σ H s) : Inv X pins σ H s := ⟨I.ok.unwish, I.os, I.bare, I.base, I.loc, I.cell, I.free, I.freeC, I.pin, I.hok, I.len⟩
theorem SP.unwish {D : Ends} {f : Flow} {s' : Shared} (h : SP (X.wish E) pins D f s') : SP X pins D f s' := by
  cases f with
  | next => obtain ⟨σ', H', I, q⟩ := h; exact ⟨σ', H', I.unwish, q⟩
  | brk => obtain ⟨σ', H', I, q⟩ := h; exact ⟨σ', H', I.unwish, q⟩
  | cont => obtain ⟨σ', H', I, q⟩ := h; exact ⟨σ', H', I.unwish, q⟩
  | ret u => obtain ⟨v, σ', H', I, r, q⟩ := h; exact ⟨v, σ', H', I.unwish, r, q⟩
theorem PE.nox {e : Expr} {t : TE} (h : PE X.nox e t) : PE X e t := fun pins s σ H Q I hw =>
  wpAny_mono (h pins s σ H Q (I.wish _) hw) (fun _ _ ⟨v, H', I', r, q⟩ => ⟨v, H', I'.unwish, r, q⟩) fun _ _ z => False.elim z
theorem PT.nox {e : Expr} {t : TT} (h : PT X.nox e t) : PT X e t := fun pins s σ H Q I hw =>
  wpAny_mono (h pins s σ H Q (I.wish _) hw) (fun _ _ ⟨H', I', q⟩ => ⟨H', I'.unwish, q⟩) fun _ _ z => False.elim z
theorem PSs.nox {st : List Stmt} {t : TS} (h : PSs X.nox st t) : PSs X st t := fun pins s σ H D I hw =>
  wpAny_mono (h pins s σ H D (I.wish _) hw) (fun _ _ q => q.unwish) fun _ _ z => False.elim z
end

/-! ### blocks and small statements -/
section
variable {X : Cx} {st : Stmt} {rest : List Stmt} {t u : TS} {e : Expr} {te : TE} {pos : Pos}
def tNext : TS := fun D σ H => D.nx σ H
def tSeq (t u : TS) : TS := fun D σ H => t { D with nx := u D } σ H
theorem pss_nil : PSs X [] tNext := fun _ _ σ H _ I h => wpAny_execs_nil ⟨σ, H, I, h⟩
theorem pss_cons (h1 : PS X st t) (h2 : PSs X rest u) : PSs X (st :: rest) (tSeq t u) := by
  intro pins s σ H D I h
  refine wpAny_execs_cons (thn (h1 pins s σ H { D with nx := u D } I h) fun f s1 q => ?_)
  cases f with
  | next =>
    obtain ⟨σ', H', I', q⟩ := q
    exact h2 pins s1 σ' H' D I' q
  | ret v => exact q
  | brk => exact q
  | cont => exact q
theorem pss_one (h1 : PS X st t) : PSs X [st] t := by
  intro pins s σ H D I h
  refine wpAny_execs_cons (thn (h1 pins s σ H D I h) fun f s1 q => ?_)
  cases f with
  | next => exact wpAny_execs_nil q
  | ret v => exact q
  | brk => exact q
  | cont => exact q
/-- in a def's body nothing is shown -/
theorem Inv.quiet {pins : List (Addr × Obj)} {σ : St} {H : Hp} {s : Shared} (I : Inv X pins σ H s) : interactive X.env = false := by simp [interactive, I.ok.kind]
/-- an expression whose value is dropped -/
def tDrop (te : TE) : TS := fun D σ H => te σ H fun _ H1 => D.nx σ H1
theorem ps_expr (he : PE X e te) (hs : swapsWith e none pos.line X.env = pure false := by rfl) : PS X (.Expr e pos) (tDrop te) := by
  intro pins s σ H D I h
  exact wpAny_Expr_any (thn (he pins s σ H _ I h) fun v s1 ⟨x, H1, I1, r1, q1⟩ => ⟨σ, H1, I1, q1⟩) I.quiet hs
def tRet (te : TE) : TS := fun D σ H => te σ H D.rt
theorem ps_ret (he : PE X e te) : PS X (.Return (some e) pos) (tRet te) := by
  intro pins s σ H D I h
  exact wpAny_Return_some (thn (he pins s σ H _ I h) fun v s1 ⟨x, H1, I1, r1, q1⟩ => ⟨x, σ, H1, I1, r1, q1⟩)
def tIfS (c : TT) (t u : TS) : TS := fun D σ H => c σ H fun b H1 => if b = true then t D σ H1 else u D σ H1
theorem ps_if {c : Expr} {a b : List Stmt} {tc : TT} (hc : PT X c tc) (ha : PSs X a t) (hb : PSs X b u) : PS X (.If c a b pos) (tIfS tc t u) := by
  intro pins s σ H D I h
  refine wpAny_If (thn (hc pins s σ H _ I h) fun d s1 ⟨H1, I1, q1⟩ => ?_)
  cases d with
  | true => exact ha pins s1 σ H1 D I1 q1
  | false => exact hb pins s1 σ H1 D I1 q1
/-- code that the proof never comes to -/
def tNever : TS := fun _ _ _ => False
theorem ps_never : PS X st tNever := fun _ _ _ _ _ _ h => h.elim
end

/-! ### targets -/
abbrev TG := V → St → Hp → (St → Hp → Prop) → Prop
abbrev TGs := List V → St → Hp → (St → Hp → Prop) → Prop
def PG (X : Cx) (target : Expr) (t : TG) : Prop :=
  ∀ (pins : List (Addr × Obj)) (s : Shared) (σ : St) (H : Hp) (v : V) (u : Value) (Q : St → Hp → Prop), Inv X pins σ H s → RelV v u → t v σ H Q →
    wpAny (model X.prog X.w) X.A (assign target X.env u) (fun _ s' => ∃ σ' H', Inv X pins σ' H' s' ∧ Q σ' H') X.xe s
/-- several targets, one after another -/
def PGs (X : Cx) (ts : List Expr) (t : TGs) : Prop :=
  ∀ (pins : List (Addr × Obj)) (s : Shared) (σ : St) (H : Hp) (vs : List V) (us : List Value) (Q : St → Hp → Prop), Inv X pins σ H s → Vals vs us → t vs σ H Q →
    wpAny (model X.prog X.w) X.A (assignInOrder ((assignEach ts X.env).map (·.2)) us) (fun _ s' => ∃ σ' H', Inv X pins σ' H' s' ∧ Q σ' H') X.xe s
/-- o[i] = v, by values -/
abbrev TSet := V → V → V → Hp → (Hp → Prop) → Prop
def PSet (X : Cx) (t : TSet) : Prop :=
  ∀ (pins : List (Addr × Obj)) (s : Shared) (σ : St) (H : Hp) (o i v : V) (ov iv u : Value) (Q : Hp → Prop), Inv X pins σ H s → RelV o ov → RelV i iv → RelV v u → t o i v H Q →
    wpAny (model X.prog X.w) X.A (setItem ov iv u) (fun _ s' => ∃ H', Inv X pins σ H' s' ∧ Q H') X.xe s
/-- a op= b, by values -/
abbrev TIp := V → V → Hp → VK → Prop
def PIp (X : Cx) (op : Operator) (t : TIp) : Prop :=
  ∀ (pins : List (Addr × Obj)) (s : Shared) (σ : St) (H : Hp) (x y : V) (v u : Value) (Q : VK), Inv X pins σ H s → RelV x v → RelV y u → t x y H Q →
    wpAny (model X.prog X.w) X.A (inplaceOp op v u) (EP X pins σ Q) X.xe s
section
variable {X : Cx} {pos : Pos}
def gName (i : Nat) : TG := fun v σ H Q => Q (σ.set i (some v)) H
theorem pg_name {i : Nat} {x : Str} (hN : X.N.Nodup) (hi : X.N[i]? = some x) (hx : Loc X.env.scope x) (hf : X.fn x = true ∨ X.env.scope.names.lookup x = some .local := by first | exact .inl rfl | exact .inr rfl | assumption) : PG X (.Name x pos) (gName i) := by
  intro pins s σ H v u Q I r h
  exact wpAny_assign_Name (store_ok I hN hi hx r (fun s' I' => ⟨_, H, I', h⟩) hf)
def gNil : TGs := fun vs σ H Q => vs = [] ∧ Q σ H
def gCons (t : TG) (u : TGs) : TGs := fun vs σ H Q => ∃ v r, vs = v :: r ∧ t v σ H fun σ' H' => u r σ' H' Q
theorem pgs_nil : PGs X [] gNil := by
  intro pins s σ H vs us Q I r h
  obtain ⟨e, h⟩ := h
  subst e
  cases r
  exact assignInOrder_nil ⟨σ, H, I, h⟩
theorem pgs_cons {e : Expr} {es : List Expr} {t : TG} {u : TGs} (h1 : PG X e t) (h2 : PGs X es u)
    (hs : (assignEach (e :: es) X.env).map (·.2) = assign e X.env :: (assignEach es X.env).map (·.2) := by rfl) : PGs X (e :: es) (gCons t u) := by
  intro pins s σ H vs us Q I r h
  obtain ⟨v, vr, e1, h⟩ := h
  subst e1
  cases r with
  | cons r rr =>
    rw [hs]
    refine assignInOrder_cons (thn (h1 pins s σ H _ _ _ I r h) fun _ s1 ⟨σ1, H1, I1, q1⟩ => ?_)
    exact h2 pins s1 σ1 H1 _ _ Q I1 rr q1
/-- (a, b, ..) = a tuple of that length -/
def gTup (K : PySem.W.Frag) (n : Nat) (t : TGs) : TG := fun v σ H Q => ∃ a xs, v = .ref a ∧ SqT K H a xs ∧ xs.length = n ∧ t xs σ H Q
theorem pg_tup {es : List Expr} {k : Nat} {t : TGs} {n : Nat} (hc : X.calm = true) (h : PGs X es t)
    (hn : (assignEach es X.env).length = n := by rfl) (hst : (assignEach es X.env).findIdx? (·.1) = none := by rfl) : PG X (.Tuple es k pos) (gTup X.K n t) := by
  intro pins s σ H v u Q I r hw
  obtain ⟨a, xs, e1, hq, hl, hw⟩ := hw
  subst e1
  cases r
  obtain ⟨its, rv, ht, hz⟩ := I.tuple hq
  refine assign_Tuple_tuple (I.ok.hd hc) ht (by simp [hn, ← hl, rv.length]) hst fun h' hx => ?_
  have I1 : Inv X pins σ H { s with heap := h' } := I.kept (t' := s.toks) fun b o e => hx b o (Nat.ne_of_lt (Heap.lt_size e)) e
  exact h pins _ σ H xs _ Q I1 (by simpa using rv) hw
/-- o[i] = .. -/
def gSub (to ti : TE) (t : TSet) : TG := fun v σ H Q => to σ H fun o H1 => ti σ H1 fun i H2 => t o i v H2 fun H3 => Q σ H3
theorem pg_sub {o i : Expr} {to ti : TE} {t : TSet} (ho : PE X o to) (hi : PE X i ti) (hs : PSet X t)
    (ha : ∀ v, assign (.Subscript o i pos) X.env v = (do
      let ov ← holding [v] (eval o X.env)
      let iv ← holding [v, ov] (eval i X.env)
      standAt pos
      holding [v, ov, iv] (setItem ov iv v)
      release [v, ov, iv] []) := by intro _; rfl) : PG X (.Subscript o i pos) (gSub to ti t) := by
  intro pins s σ H v u Q I r h
  rw [ha]
  refine wpAny_bind (wpAny_holding (thn (ho pins s σ H _ I h) fun ov s1 ⟨x, H1, I1, r1, q1⟩ => ?_))
  refine wpAny_bind (wpAny_holding (thn (hi pins s1 σ H1 _ I1 q1) fun iv s2 ⟨y, H2, I2, r2, q2⟩ => ?_))
  refine wpAny_bind (wpAny_standAt (wpAny_bind (wpAny_holding (thn (hs pins s2 σ H2 x y v ov iv u _ I2 r1 r2 r q2) fun _ s3 ⟨H3, I3, q3⟩ => ?_))))
  exact wpAny_release ⟨σ, H3, I3, q3⟩
/-- target = value -/
def tAsg (te : TE) (g : TG) : TS := fun D σ H => te σ H fun x H1 => g x σ H1 D.nx
theorem ps_asg {tg e : Expr} {te : TE} {g : TG} (he : PE X e te) (hg : PG X tg g) (hs : swapsWithSole [tg] e pos.line X.env = pure false := by rfl) (hw : swappedStores [tg] e X.env = pure none := by rfl)
    (h1 : (assignEach [tg] X.env).map (·.2) = [assign tg X.env] := by rfl) : PS X (.Assign [tg] e pos) (tAsg te g) := by
  intro pins s σ H D I h
  refine wpAny_Assign_stores (thn (he pins s σ H _ I h) fun v s1 ⟨x, H1, I1, r1, q1⟩ => ?_) hs hw
  rw [h1]
  exact thn (hg pins s1 σ H1 x v _ I1 r1 q1) fun _ s2 q => q
/-- name = value -/
theorem ps_set {i : Nat} {x : Str} {e : Expr} {te : TE} {pos' : Pos} (hN : X.N.Nodup) (hi : X.N[i]? = some x) (hx : Loc X.env.scope x) (he : PE X e te) (hs : swapsWith e (some (.Name x pos')) pos.line X.env = pure false := by rfl) (hf : X.fn x = true ∨ X.env.scope.names.lookup x = some .local := by first | exact .inl rfl | exact .inr rfl | assumption) :
    PS X (.Assign [.Name x pos'] e pos) (tAsg te (gName i)) := by
  intro pins s σ H D I h
  refine wpAny_Assign_Name (thn (he pins s σ H _ I h) fun v s1 ⟨y, H1, I1, r1, q1⟩ => ?_) hs
  exact store_ok I1 hN hi hx r1 (fun s2 I2 => ⟨_, H1, I2, q1⟩) hf
/-- name op= e -/
def tAug (i : Nat) (te : TE) (ti : TIp) : TS := fun D σ H => ∃ x, σ[i]? = some (some x) ∧ te σ H fun y H1 => ti x y H1 fun z H2 => D.nx (σ.set i (some z)) H2
theorem ps_aug {i : Nat} {x : Str} {e : Expr} {te : TE} {op : Operator} {ti : TIp} {pos' : Pos} (hN : X.N.Nodup) (hi : X.N[i]? = some x) (hx : Loc X.env.scope x) (he : PE X e te) (ho : PIp X op ti) (hf : X.fn x = true ∨ X.env.scope.names.lookup x = some .local := by first | exact .inl rfl | exact .inr rfl | assumption) :
    PS X (.AugAssign (.Name x pos') op e pos) (tAug i te ti) := by
  intro pins s σ H D I h
  obtain ⟨v, e1, h⟩ := h
  obtain ⟨m, hn, hl⟩ := I.loc
  have vis : Vis X.env.scope x := by rcases hx with k | k; exact .inl k; exact .inr (.inl k)
  obtain ⟨u, r, l⟩ := hl i x v hi e1 vis
  refine wpAny_AugAssign_Name ?_
  have go : wpAny (model X.prog X.w) X.A (eval e X.env) (fun w s₂ => wpAny (model X.prog X.w) X.A (inplaceOp op u w) (fun r s₃ => wpAny (model X.prog X.w) X.A (storeName X.env x r) (fun _ => SP X pins D .next) X.xe s₃) X.xe s₂) X.xe s := by
    refine thn (he pins s σ H _ I h) fun w s1 ⟨y, H1, I1, r1, q1⟩ => ?_
    refine thn (ho pins s1 σ H1 v y u w _ I1 r r1 q1) fun z s2 ⟨zv, H2, I2, r2, q2⟩ => ?_
    exact store_ok I2 hN hi hx r2 (fun s3 I3 => ⟨_, H2, I3, q2⟩) hf
  rcases l with ⟨hk, hm⟩ | ⟨hk, c, hc, hcell⟩
  · exact wpAny_loadName_local I.ok.kind hk hn hm go
  · rcases hk with hk | hk
    · exact wpAny_loadName_cell I.ok.kind hk hc hcell go
    · rcases hx with k | k
      · have : X.env.scope.names.lookup x = some .free := hk
        rw [k] at this; cases this
      · have : X.env.scope.names.lookup x = some .free := hk
        rw [k] at this; cases this
/-- ints -/
def ipI (f : Int → Int → Int) : TIp := fun x y H Q => ∃ i j, x = .int i ∧ y = .int j ∧ Q (.int (f i j)) H
theorem ip_add : PIp X .Add (ipI fun i j => i + j) := by
  intro pins s σ H x y v u Q I r1 r2 h
  obtain ⟨i, j, e1, e2, q⟩ := h
  subst e1; subst e2
  obtain ⟨t, rfl⟩ := r1
  obtain ⟨t', rfl⟩ := r2
  exact iadd_int ⟨.int _, H, I.tok _, ⟨_, rfl⟩, q⟩
end

/-! ### while -/
section
variable {X : Cx} {pos : Pos}
/-- the invariant W with its measure -/
def tWhile (c : TT) (tb : TS) : TS := fun D σ H => ∃ W : Nat → St → Hp → Prop, (∃ m, W m σ H) ∧ ∀ m σ H, W m σ H →
  c σ H fun b H1 => if b = true then ∃ N : St → Hp → Prop, (∀ σ' H', N σ' H' → ∃ m', m' < m ∧ W m' σ' H') ∧ tb { D with nx := N, ct := N, bk := D.nx } σ H1 else D.nx σ H1
theorem ps_while {c : Expr} {body : List Stmt} {tc : TT} {tb : TS} (hp : PassesOwn (model X.prog X.w) X.A X.env X.xe) (hc : PT X c tc) (hb : PSs X body tb) : PS X (.While c body [] pos) (tWhile tc tb) := by
  intro pins s σ H D I h
  obtain ⟨W, ⟨m0, w0⟩, turn⟩ := h
  refine wpAny_While (codeAny_whileLoop (fun n s' => ∃ σ' H', Inv X pins σ' H' s' ∧ W n σ' H') ?_ m0 ⟨σ, H, I, w0⟩)
  rintro n s1 ⟨σ1, H1, I1, w1⟩
  refine wpAny_passesOwn hp (thn (hc pins s1 σ1 H1 _ I1 (turn n σ1 H1 w1)) fun b s2 ⟨H2, I2, q2⟩ => ?_)
  cases b with
  | true =>
    obtain ⟨N, hN, q2⟩ := q2
    rw [if_pos rfl]
    refine wpAny_passesOwn hp (thn (hb pins s2 σ1 H2 _ I2 q2) fun f s3 q3 => ?_)
    cases f with
    | next =>
      obtain ⟨σ3, H3, I3, n3⟩ := q3
      obtain ⟨m', hm, w3⟩ := hN σ3 H3 n3
      exact ⟨m', hm, σ3, H3, I3, w3⟩
    | cont =>
      obtain ⟨σ3, H3, I3, n3⟩ := q3
      obtain ⟨m', hm, w3⟩ := hN σ3 H3 n3
      exact ⟨m', hm, σ3, H3, I3, w3⟩
    | brk => exact q3
    | ret v => exact q3
  | false =>
    rw [if_neg Bool.false_ne_true]
    exact wpAny_execs_nil ⟨σ1, H2, I2, q2⟩
end

/-! ### what a loop or a comprehension walks -/
/-- at turn i: it yields x (the heap may grow), or it stops -/
structure It where
  go : Nat → Hp → Prop
  yld : Nat → Hp → V → Hp → Prop
  stop : Nat → Hp → Prop
/-- the iterator's own objects may turn: they are not the frame's, not pinned, younger than the entry (or a comprehension's own) -/
def FpOk (X : Cx) (pins : List (Addr × Obj)) (H : Hp) (b : Addr) : Prop :=
  H b = none ∧ b ≠ X.env.locals ∧ b ∉ X.fs ∧ (b ∈ X.ex ∨ X.s₀.heap.objs.size ≤ b) ∧ (∀ x c, X.env.cells.lookup x = some c → c ≠ b) ∧ ∀ p ∈ X.pn ++ pins, p.1 ≠ b
theorem Inv.fpOk {X : Cx} {pins : List (Addr × Obj)} {σ : St} {H H' : Hp} {s : Shared} {b : Addr} (I : Inv X pins σ H s) (hb : s.heap.objs.size ≤ b) (hn : H' b = none) : FpOk X pins H' b := by
  refine ⟨hn, Nat.ne_of_gt (Nat.lt_of_lt_of_le I.lt hb), I.nofs hb, .inr (Nat.le_trans I.sz hb), fun x c e z => ?_, fun p hp z => ?_⟩
  · obtain ⟨v, q⟩ := I.cell x c e
    exact absurd (Nat.lt_of_lt_of_le q.lt (by rw [z]; exact hb)) (Nat.lt_irrefl _)
  · exact absurd (Nat.lt_of_lt_of_le (Heap.lt_size (I.pin p hp).1) (by rw [z]; exact hb)) (Nat.lt_irrefl _)
structure Turn (P : Program) (w : World) (K : PySem.W.Frag) (tg : Expr) (J : It) (fp : List Addr) (it : Addr) (tn : Nat → Heap → Prop) : Prop where
  mem : it ∈ fp
  obj : ∀ i h, tn i h → ∀ b ∈ fp, ∃ o, h.get? b = some o ∧ ∀ v, o.data ≠ .cell v
  keep : ∀ i h h', tn i h → (∀ b ∈ fp, ∀ o, h.get? b = some o → h'.get? b = some o) → tn i h'
  item : ∀ (X : Cx), X.prog = P → X.w = w → X.K = K → X.calm = true → ∀ (i : Nat) (pins : List (Addr × Obj)) (s : Shared) (σ : St) (H : Hp) (E : Value → Shared → Prop), Inv X pins σ H s → (∀ b ∈ fp, FpOk X pins H b) → tn i s.heap → J.go i H →
    wpAny (model P w) X.A (pyNext (.ref it)) (fun r s1 => ∃ u, r = some u ∧
      wpAny (model P w) X.A (letOwnedTupleGo tg (.ref it) u) (fun _ s2 => ∃ x H', Inv X pins σ H' s2 ∧ RelV x u ∧ J.yld i H x H' ∧ tn (i + 1) s2.heap ∧ ∀ b ∈ fp, H' b = none) E s1) E s
  done : ∀ (X : Cx), X.prog = P → X.w = w → X.K = K → X.calm = true → ∀ (i : Nat) (pins : List (Addr × Obj)) (s : Shared) (σ : St) (H : Hp) (E : Value → Shared → Prop), Inv X pins σ H s → (∀ b ∈ fp, FpOk X pins H b) → tn i s.heap → J.stop i H →
    wpAny (model P w) X.A (pyNext (.ref it)) (fun r s1 => r = none ∧ Inv X pins σ H s1) E s
  self : ∀ (A : Around) (i : Nat) (s : Shared) (Q : Value → Shared → Prop) (E : Value → Shared → Prop), tn i s.heap → Q (.ref it) s → wpAny (model P w) A (pyIter (.ref it)) Q E s
abbrev TI := St → Hp → (It → Hp → Prop) → Prop
/-- an iterator has come -/
def PIE (X : Cx) (pins : List (Addr × Obj)) (σ : St) (tg : Expr) (R : It → Hp → Prop) (itv : Value) (s2 : Shared) : Prop :=
  ∃ (it : Addr) (fp : List Addr) (tn : Nat → Heap → Prop) (J : It) (H' : Hp), itv = .ref it ∧ Inv X pins σ H' s2 ∧ Turn X.prog X.w X.K tg J fp it tn ∧ tn 0 s2.heap ∧ (∀ b ∈ fp, FpOk X pins H' b) ∧ R J H'
def PI (X : Cx) (tg iter : Expr) (wi : TI) : Prop :=
  ∀ (pins : List (Addr × Obj)) (s : Shared) (σ : St) (H : Hp) (R : It → Hp → Prop), Inv X pins σ H s → wi σ H R →
    wpAny (model X.prog X.w) X.A (eval iter X.env) (fun v s1 => wpAny (model X.prog X.w) X.A (pyIter v) (PIE X pins σ tg R) X.xe s1) X.xe s

/-- the step ahead of the store is nothing for an iterator that keeps no tuple -/
theorem go_of {M : Model} {A : Around} {E : Value → Shared → Prop} {s : Shared} {tg : Expr} {it : Addr} {u : Value} {o : Obj} {n : String} {vs : Array Value} {Q : Unit → Shared → Prop} (ho : s.heap.get? it = some o) (hc : o.cls = .type n) (hd : o.data = .fields vs)
    (hn : ["enumerate", "zip", "dict_itemiterator", "dict_reverseitemiterator", "odict_iterator", "itertools.zip_longest", "itertools.pairwise"].contains n = false) (hQ : Q () s) : wpAny M A (letOwnedTupleGo tg (.ref it) u) Q E s := by
  unfold letOwnedTupleGo
  cases tg <;> first
    | exact wpAny_pure hQ
    | (cases u <;> first
        | exact wpAny_pure hQ
        | (refine wpAny_bind (wpAny_load ho ?_)
           rw [hc, hd]
           show wpAny M A (if (["enumerate", "zip", "dict_itemiterator", "dict_reverseitemiterator", "odict_iterator", "itertools.zip_longest", "itertools.pairwise"].contains n && vs[0]? == some (rawInt _)) = true then _ else _) Q E s
           rw [if_neg (by intro h; rw [hn, Bool.false_and] at h; cases h)]
           exact wpAny_pure hQ))

/-- the list at a, as it stands at each turn (a loop may append to it) -/
def Itl (K : PySem.W.Frag) (a : Addr) : It :=
  ⟨fun i H => ∃ xs x, SqL K H a xs ∧ xs[i]? = some x, fun i H x H' => H' = H ∧ ∀ xs, SqL K H a xs → xs[i]? = some x, fun i H => ∃ xs, SqL K H a xs ∧ xs.length ≤ i⟩
/-- lo, lo + 1, .. (n of them) -/
def Itr (lo : Int) (n : Nat) : It := ⟨fun i _ => i < n, fun i H x H' => H' = H ∧ x = .int (lo + i), fun i _ => n ≤ i⟩
theorem turn_list {P : Program} {w : World} {K : PySem.W.Frag} {tg : Expr} (a it : Addr) : Turn P w K tg (Itl K a) [it] it (fun i h => h.IsListIter it a i) where
  mem := by simp
  obj := fun i h st b hb => by
    have e : b = it := by simpa using hb
    subst e
    obtain ⟨o, e, c, d⟩ := st
    exact ⟨o, e, fun v z => by rw [d] at z; cases z⟩
  keep := fun i h h' st k => st.at fun o e => k it (by simp) o e
  item := by
    intro X hP hw hK hc i pins s σ H E I hf st hg
    subst hP hw hK
    obtain ⟨xs, x, hq, hx⟩ := hg
    obtain ⟨its, rv, p, hz⟩ := I.list hq
    obtain ⟨u, hu, ru⟩ := rv.get hx
    obtain ⟨f0, f1, f2, f3, f4, f5⟩ := hf it (by simp)
    refine wpAny_pyNext_list_item st p.isList (x := u) (by simpa using hu) fun h' st' sb => ?_
    have I1 : Inv X pins σ H { s with heap := h' } := I.turned (t' := s.toks) (fun b o hb e => (sb.2 b hb).trans e) f0 f1 f3 f4 f5
    obtain ⟨o, e, c, d⟩ := id st'
    exact ⟨u, rfl, go_of (s := { s with heap := h' }) e c d (by decide) ⟨x, H, I1, ru, ⟨rfl, fun ys hy => by rw [I.list_inj hy hq]; exact hx⟩, st', fun b hb => (hf b hb).1⟩⟩
  done := by
    intro X hP hw hK hc i pins s σ H E I hf st hg
    subst hP hw hK
    obtain ⟨xs, hq, hx⟩ := hg
    obtain ⟨its, rv, p, hz⟩ := I.list hq
    obtain ⟨f0, f1, f2, f3, f4, f5⟩ := hf it (by simp)
    have hl := rv.length
    exact wpAny_pyNext_list_end (I.ok.hd hc) st p.isList (by simp; omega) fun h' eb => ⟨rfl, I.turned (t' := s.toks) (fun b o hb e => eb b o hb e) f0 f1 f3 f4 f5⟩
  self := fun _ _ _ _ _ st h => wpAny_pyIter_listiter st h
theorem turn_range {P : Program} {w : World} {K : PySem.W.Frag} {tg : Expr} (it : Addr) (lo : Int) (n : Nat) : Turn P w K tg (Itr lo n) [it] it (fun i h => IsRangeIter h it (lo + (i : Nat) * 1) ((n : Int) - (i : Nat)) 1) where
  mem := by simp
  obj := fun i h st b hb => by
    have e : b = it := by simpa using hb
    subst e
    exact ⟨_, st, fun v z => by
      have z' : Data.fields _ = Data.cell v := z
      cases z'⟩
  keep := fun i h h' st k => k it (by simp) _ st
  item := by
    intro X hP hw hK hc i pins s σ H E I hf st hg
    subst hP hw hK
    obtain ⟨f0, f1, f2, f3, f4, f5⟩ := hf it (by simp)
    have W := Walks.range (prog := X.prog) (w := X.w) (I.ok.hd hc) it lo 1 n
    refine W.item i s _ _ hg st fun v h' tk hv st' kk => ?_
    obtain ⟨t, rfl⟩ := hv
    have I1 : Inv X pins σ H { s with heap := h', toks := tk } := I.turned (fun b o hb e => kk b o (by simpa using hb) e) f0 f1 f3 f4 f5
    refine ⟨_, rfl, go_of (s := { s with heap := h', toks := tk }) (n := "range_iterator") st' rfl rfl (by decide) ⟨.int (lo + i), H, I1, ⟨t, ?_⟩, ⟨rfl, rfl⟩, st', fun b hb => (hf b hb).1⟩⟩
    rw [Int.mul_one]
  done := by
    intro X hP hw hK hc i pins s σ H E I hf st hg
    subst hP hw hK
    obtain ⟨f0, f1, f2, f3, f4, f5⟩ := hf it (by simp)
    exact wpAny_pyNext_range_end (I.ok.hd hc) st (by have : n ≤ i := hg; omega) fun h' eb => ⟨rfl, I.turned (t' := s.toks) (fun b o hb e => eb b o hb e) f0 f1 f3 f4 f5⟩
  self := fun _ _ _ _ _ st h => wpAny_pyIter_rangeiter st h
end L2

namespace L2
open PySem PySem.Spec PyProof.Rows
section
variable {X : Cx} {tg : Expr}
def iList (K : PySem.W.Frag) (tl : TE) : TI := fun σ H R => tl σ H fun x H1 => ∃ a, x = .ref a ∧ (∃ xs, SqL K H1 a xs) ∧ R (Itl K a) H1
theorem pi_list {l : Expr} {tl : TE} (hl : PE X l tl) : PI X tg l (iList X.K tl) := by
  intro pins s σ H R I h
  refine thn (hl pins s σ H _ I h) fun v s1 ⟨x, H1, I1, r1, q1⟩ => ?_
  obtain ⟨a, e, ⟨xs, hq⟩, q⟩ := q1
  subst e
  cases r1
  obtain ⟨its, rv, p, hz⟩ := I1.list hq
  refine wpAny_pyIter_list p.isList ?_
  refine ⟨s1.heap.objs.size, [s1.heap.objs.size], _, _, H1, rfl, I1.kept (t' := s1.toks) fun b o e => Heap.get?_push_of_some _ e, turn_list a _, ⟨_, Heap.get?_push_size _ rfl, rfl, rfl⟩, fun b hb => ?_, q⟩
  have e : b = s1.heap.objs.size := by simpa using hb
  subst e
  exact I1.fpOk (Nat.le_refl _) (I1.hok.fresh (Nat.le_refl _))
/-- a range object just made, walked -/
theorem range_it {pins : List (Addr × Obj)} {σ : St} {H : Hp} {s : Shared} {R : It → Hp → Prop} {E : Value → Shared → Prop} {lo hi : Int} {t u v : Tok} {tk : Nat} (I : Inv X pins σ H s) (h1 : -(2 ^ 62) ≤ lo) (h2 : lo < 2 ^ 62) (h3 : -(2 ^ 62) ≤ hi) (h4 : hi < 2 ^ 62)
    (q : R (Itr lo (hi - lo).toNat) H) : wpAny (model X.prog X.w) X.A (pyIter (.ref s.heap.objs.size)) (PIE X pins σ tg R) E { s with heap := s.heap.push { cls := .type "range", data := .fields #[.int lo t, .int hi u, .int 1 v] }, toks := tk } := by
  refine wpAny_pyIter_range (IsRange.new ..) (small_one h1 h2 h3 h4) ?_
  have I1 : Inv X pins σ H { s with heap := s.heap.push { cls := .type "range", data := .fields #[.int lo t, .int hi u, .int 1 v] }, toks := tk } := I.kept fun b o e => Heap.get?_push_of_some _ e
  refine ⟨(s.heap.push { cls := .type "range", data := .fields #[.int lo t, .int hi u, .int 1 v] }).objs.size, [(s.heap.push { cls := .type "range", data := .fields #[.int lo t, .int hi u, .int 1 v] }).objs.size], _, _, H, rfl,
    I1.kept (t' := tk) fun b o e => Heap.get?_push_of_some _ e, turn_range _ lo (hi - lo).toNat, ?_, fun b hb => ?_, q⟩
  · have e1 : lo + ((0 : Nat) : Int) * 1 = lo := by simp
    have e2 : (((hi - lo).toNat : Nat) : Int) - ((0 : Nat) : Int) = Builtin.Range.rangeSize lo hi 1 := by rw [rangeSize_one]; split <;> omega
    show IsRangeIter _ _ (lo + ((0 : Nat) : Int) * 1) ((((hi - lo).toNat : Nat) : Int) - ((0 : Nat) : Int)) 1
    rw [e1, e2]
    exact Heap.get?_push_size _ rfl
  · have e : b = (s.heap.push { cls := .type "range", data := .fields #[.int lo t, .int hi u, .int 1 v] }).objs.size := by simpa using hb
    subst e
    exact I1.fpOk (Nat.le_refl _) (I1.hok.fresh (Nat.le_refl _))
def iRng1 (ta : TA) : TI := fun σ H R => ta σ H fun vs H1 => ∃ j : Int, vs = [.int j] ∧ -(2 ^ 62) ≤ j ∧ j < 2 ^ 62 ∧ R (Itr 0 j.toNat) H1
def iRng2 (ta : TA) : TI := fun σ H R => ta σ H fun vs H1 => ∃ i j : Int, vs = [.int i, .int j] ∧ (-(2 ^ 62) ≤ i ∧ i < 2 ^ 62 ∧ -(2 ^ 62) ≤ j ∧ j < 2 ^ 62) ∧ R (Itr i (j - i).toNat) H1
theorem pi_range1 {a : Expr} {ta : TA} {p pos : Pos} (hg : Gl X "range") (hm : X.mg "range" = none) (ha : PA X [a] ta) (hs : starEach [a] X.env = [(false, eval a X.env)] := by rfl) : PI X tg (.Call (.Name "range" p) [a] [] pos) (iRng1 ta) := by
  intro pins s σ H R I h
  refine Call_ (ld_blt I hg hm boot_range (PyProof.Rows.callWith_type1 (thn (ha pos pins s σ H _ I h) fun us s1 ⟨vs, H1, I1, r1, q1⟩ => ?_) hs rfl))
  obtain ⟨j, e, q1, q2, q⟩ := q1
  subst e
  cases r1 with
  | cons r rr =>
    cases rr
    obtain ⟨t, rfl⟩ := r
    exact call_range_1 (range_it I1 (by omega) (by omega) q1 q2 (by simpa using q))
theorem pi_range2 {a b : Expr} {ta : TA} {p pos : Pos} (hg : Gl X "range") (hm : X.mg "range" = none) (ha : PA X [a, b] ta) (hs : starEach [a, b] X.env = [(false, eval a X.env), (false, eval b X.env)] := by rfl) (hs2 : starEach [b] X.env = [(false, eval b X.env)] := by rfl) :
    PI X tg (.Call (.Name "range" p) [a, b] [] pos) (iRng2 ta) := by
  intro pins s σ H R I h
  refine Call_ (ld_blt I hg hm boot_range (PyProof.Rows.callWith_type1 (thn (ha pos pins s σ H _ I h) fun us s1 ⟨vs, H1, I1, r1, q1⟩ => ?_) (by rw [hs, hs2]) (by rw [hs2]; rfl)))
  obtain ⟨i, j, e, ⟨q1, q2, q3, q4⟩, q⟩ := q1
  subst e
  cases r1 with
  | cons r rr =>
    cases rr with
    | cons r' rr =>
      cases rr
      obtain ⟨t, rfl⟩ := r
      obtain ⟨t', rfl⟩ := r'
      exact call_range_2 (range_it I1 q1 q2 q3 q4 q)

/-! ### for -/
/-- W: the invariant by the turn and a measure; N: what the body is to reach -/
def tFor (wi : TI) (g : TG) (tb : TS) : TS := fun D σ H => wi σ H fun J H1 => ∃ W : Nat → Nat → St → Hp → Prop, (∃ m, W 0 m σ H1) ∧ ∀ i m σ H, W i m σ H →
  (J.stop i H ∧ D.nx σ H) ∨ (J.go i H ∧ ∃ N : St → Hp → Prop, (∀ σ' H', N σ' H' → ∃ m', m' < m ∧ W (i + 1) m' σ' H') ∧ ∀ x H', J.yld i H x H' → g x σ H' fun σ2 H2 => tb { D with nx := N, ct := N, bk := D.nx } σ2 H2)
/-- the records at fp as they stand -/
def pinsAt (fp : List Addr) (h : Heap) : List (Addr × Obj) := fp.filterMap fun b => (h.get? b).map fun o => (b, o)
theorem mem_pinsAt {fp : List Addr} {h : Heap} {b : Addr} {o : Obj} (hb : b ∈ fp) (e : h.get? b = some o) : (b, o) ∈ pinsAt fp h := List.mem_filterMap.mpr ⟨b, hb, by rw [e]; rfl⟩
theorem of_pinsAt {fp : List Addr} {h : Heap} {p : Addr × Obj} (hp : p ∈ pinsAt fp h) : p.1 ∈ fp ∧ h.get? p.1 = some p.2 := by
  obtain ⟨b, hb, e⟩ := List.mem_filterMap.mp hp
  cases q : h.get? b with
  | none => rw [q] at e; cases e
  | some o =>
    rw [q] at e
    have e' : (b, o) = p := Option.some.inj e
    subst e'
    exact ⟨hb, q⟩
theorem Inv.pinned {pins : List (Addr × Obj)} {σ : St} {H : Hp} {s : Shared} {fp : List Addr} (I : Inv X pins σ H s) (hf : ∀ b ∈ fp, FpOk X pins H b) (ho : ∀ b ∈ fp, ∃ o, s.heap.get? b = some o ∧ ∀ v, o.data ≠ .cell v) : Inv X (pins ++ pinsAt fp s.heap) σ H s :=
  I.pins_of fun p hp => (List.mem_append.mp hp).elim (fun z => I.pin p (List.mem_append_right _ z)) fun z => by
    obtain ⟨hb, e⟩ := of_pinsAt z
    obtain ⟨f0, f1, f2, _⟩ := hf p.1 hb
    obtain ⟨o, e', d⟩ := ho p.1 hb
    rw [e] at e'; cases e'
    exact ⟨e, f0, f1, f2, d⟩
theorem Inv.unpinned {pins pl : List (Addr × Obj)} {σ : St} {H : Hp} {s : Shared} (I : Inv X (pins ++ pl) σ H s) : Inv X pins σ H s := I.pins_of fun p hp => I.pin p (List.mem_append_right _ (List.mem_append_left _ hp))
theorem ps_for {iter : Expr} {body : List Stmt} {wi : TI} {g : TG} {tb : TS} {pos : Pos} (hp : PassesOwn (model X.prog X.w) X.A X.env X.xe) (hc : X.calm = true) (hi : PI X tg iter wi) (hg : PG X tg g) (hb : PSs X body tb)
    (hs : ∀ x, foldedSetIterable iter X.env x = pure x := by intro _; rfl) : PS X (.For tg iter body [] pos) (tFor wi g tb) := by
  intro pins s σ H D I h
  refine wpAny_For (thn (hi pins s σ H _ I h) fun v s1 h1 => thn h1 fun itv s2 h2 => ?_) hs
  obtain ⟨it, fp, tn, J, H2, e, I2, T, st2, f2, W, ⟨m0, w0⟩, turn⟩ := h2
  subst e
  -- what stays true of the iterator's objects through the loop
  have stat : ∀ {H' : Hp}, (∀ b ∈ fp, H' b = none) → ∀ b ∈ fp, FpOk X pins H' b := fun hn b hb => ⟨hn b hb, (f2 b hb).2⟩
  refine codeAny_forLoop_any (fun n s' => ∃ i σ' H', Inv X pins σ' H' s' ∧ tn i s'.heap ∧ (∀ b ∈ fp, H' b = none) ∧ W i n σ' H') ?_ m0 ⟨0, σ, H2, I2, st2, fun b hb => (f2 b hb).1, w0⟩
  rintro n s3 ⟨i, σ3, H3, I3, st3, fr3, w3⟩
  rcases turn i n σ3 H3 w3 with ⟨stop, qn⟩ | ⟨go, N, hN, step⟩
  · refine wpAny_passesOwn hp (thn (T.done X rfl rfl rfl hc i pins s3 σ3 H3 X.xe I3 (stat fr3) st3 stop) fun r s4 ⟨hr, I4⟩ => ?_)
    subst hr
    exact wpAny_execs_nil ⟨σ3, H3, I4, qn⟩
  · refine wpAny_passesOwn hp (thn (T.item X rfl rfl rfl hc i pins s3 σ3 H3 X.xe I3 (stat fr3) st3 go) fun r s4 ⟨u, hr, h4⟩ => ?_)
    subst hr
    refine wpAny_passesOwn hp (thn h4 fun _ s5 ⟨x, H5, I5, r5, y5, st5, fr5⟩ => ?_)
    have I5' := I5.pinned (stat fr5) (T.obj _ _ st5)
    refine wpAny_passesOwn hp (thn (hg _ s5 σ3 H5 x u _ I5' r5 (step x H5 y5)) fun _ s6 ⟨σ6, H6, I6, q6⟩ => ?_)
    refine wpAny_passesOwn hp (thn (hb _ s6 σ6 H6 _ I6 q6) fun f s7 q7 => ?_)
    have again : ∀ {σ7 : St} {H7 : Hp}, Inv X (pins ++ pinsAt fp s5.heap) σ7 H7 s7 → N σ7 H7 → ∃ m, m < n ∧ ∃ i σ' H', Inv X pins σ' H' s7 ∧ tn i s7.heap ∧ (∀ b ∈ fp, H' b = none) ∧ W i m σ' H' := fun {σ7 H7} I7 n7 => by
      obtain ⟨m', hm, w7⟩ := hN σ7 H7 n7
      refine ⟨m', hm, i + 1, σ7, H7, I7.unpinned, T.keep _ _ _ st5 fun b hb o e => (I7.pin (b, o) (List.mem_append_right _ (List.mem_append_right _ (mem_pinsAt hb e)))).1, fun b hb => ?_, w7⟩
      obtain ⟨o, e, d⟩ := T.obj _ _ st5 b hb
      exact (I7.pin (b, o) (List.mem_append_right _ (List.mem_append_right _ (mem_pinsAt hb e)))).2.1
    cases f with
    | next => obtain ⟨σ7, H7, I7, n7⟩ := q7; exact again I7 n7
    | cont => obtain ⟨σ7, H7, I7, n7⟩ := q7; exact again I7 n7
    | brk => obtain ⟨σ7, H7, I7, q7⟩ := q7; exact ⟨σ7, H7, I7.unpinned, q7⟩
    | ret v => obtain ⟨x7, σ7, H7, I7, r7, q7⟩ := q7; exact ⟨x7, σ7, H7, I7.unpinned, r7, q7⟩
end

/-! ### the forms one uses -/
/-- over a list that the body leaves as it is -/
theorem for_list {K : PySem.W.Frag} {a : Addr} {xs : List V} {g : TG} {tb : TS} {D : Ends} {σ : St} {H : Hp} (Pv : Nat → St → Hp → Prop) (h0 : Pv 0 σ H) (hl : ∀ i σ H, i ≤ xs.length → Pv i σ H → SqL K H a xs)
    (hs : ∀ i x σ H, xs[i]? = some x → Pv i σ H → g x σ H fun σ2 H2 => tb { D with nx := Pv (i + 1), ct := Pv (i + 1), bk := D.nx } σ2 H2) (hd : ∀ σ H, Pv xs.length σ H → D.nx σ H) :
    ∃ W : Nat → Nat → St → Hp → Prop, (∃ m, W 0 m σ H) ∧ ∀ i m σ H, W i m σ H →
      ((Itl K a).stop i H ∧ D.nx σ H) ∨ ((Itl K a).go i H ∧ ∃ N : St → Hp → Prop, (∀ σ' H', N σ' H' → ∃ m', m' < m ∧ W (i + 1) m' σ' H') ∧ ∀ x H', (Itl K a).yld i H x H' → g x σ H' fun σ2 H2 => tb { D with nx := N, ct := N, bk := D.nx } σ2 H2) := by
  refine ⟨fun i m σ H => m = xs.length - i ∧ i ≤ xs.length ∧ Pv i σ H, ⟨xs.length, by simp, Nat.zero_le _, h0⟩, ?_⟩
  rintro i m σ H ⟨rfl, hi, p⟩
  have q := hl i σ H hi p
  by_cases hlt : i < xs.length
  · refine .inr ⟨⟨xs, xs[i], q, by simp [hlt]⟩, Pv (i + 1), fun σ' H' p' => ⟨xs.length - (i + 1), by omega, rfl, hlt, p'⟩, fun x H' y => ?_⟩
    obtain ⟨e, y⟩ := y
    subst e
    exact hs i x σ _ (y xs q) p
  · have e : i = xs.length := by omega
    subst e
    exact .inl ⟨⟨xs, q, Nat.le_refl _⟩, hd σ H p⟩
theorem for_range {lo : Int} {n : Nat} {g : TG} {tb : TS} {D : Ends} {σ : St} {H : Hp} (Pv : Nat → St → Hp → Prop) (h0 : Pv 0 σ H)
    (hs : ∀ i σ H, i < n → Pv i σ H → g (.int (lo + i)) σ H fun σ2 H2 => tb { D with nx := Pv (i + 1), ct := Pv (i + 1), bk := D.nx } σ2 H2) (hd : ∀ σ H, Pv n σ H → D.nx σ H) :
    ∃ W : Nat → Nat → St → Hp → Prop, (∃ m, W 0 m σ H) ∧ ∀ i m σ H, W i m σ H →
      ((Itr lo n).stop i H ∧ D.nx σ H) ∨ ((Itr lo n).go i H ∧ ∃ N : St → Hp → Prop, (∀ σ' H', N σ' H' → ∃ m', m' < m ∧ W (i + 1) m' σ' H') ∧ ∀ x H', (Itr lo n).yld i H x H' → g x σ H' fun σ2 H2 => tb { D with nx := N, ct := N, bk := D.nx } σ2 H2) := by
  refine ⟨fun i m σ H => m = n - i ∧ i ≤ n ∧ Pv i σ H, ⟨n, by simp, Nat.zero_le _, h0⟩, ?_⟩
  rintro i m σ H ⟨rfl, hi, p⟩
  by_cases hlt : i < n
  · refine .inr ⟨hlt, Pv (i + 1), fun σ' H' p' => ⟨n - (i + 1), by omega, rfl, hlt, p'⟩, fun x H' y => ?_⟩
    obtain ⟨e, y⟩ := y
    subst e y
    exact hs i σ _ hlt p
  · have e : i = n := by omega
    subst e
    exact .inl ⟨Nat.le_refl _, hd σ H p⟩
end L2

namespace L2
open PySem PySem.Spec PyProof.Rows

abbrev R2 := V → V → Hp → VK → Prop
/-- a two-place operation on values: f is binaryOp op, inplaceOp op or compareOp op -/
def OpR (X : Cx) (f : Value → Value → Sem Value) (r : R2) : Prop :=
  ∀ (pins : List (Addr × Obj)) (s : Shared) (σ : St) (H : Hp) (x y : V) (v u : Value) (Q : VK), Inv X pins σ H s → RelV x v → RelV y u → r x y H Q →
    wpAny (model X.prog X.w) X.A (f v u) (EP X pins σ Q) X.xe s
/-- a one-place operation -/
def UnR (X : Cx) (f : Value → Sem Value) (r : V → Hp → VK → Prop) : Prop :=
  ∀ (pins : List (Addr × Obj)) (s : Shared) (σ : St) (H : Hp) (x : V) (v : Value) (Q : VK), Inv X pins σ H s → RelV x v → r x H Q →
    wpAny (model X.prog X.w) X.A (f v) (EP X pins σ Q) X.xe s
/-- a call of a value that is known (a builtin, a type) with values -/
def CallR (X : Cx) (f : Value) (r : List V → Hp → VK → Prop) : Prop :=
  ∀ (pins : List (Addr × Obj)) (s : Shared) (σ : St) (H : Hp) (xs : List V) (us : List Value) (Q : VK), Inv X pins σ H s → Vals xs us → r xs H Q →
    wpAny (model X.prog X.w) X.A (call f us) (EP X pins σ Q) X.xe s
def tOp (r : R2) (ta tb : TE) : TE := fun σ H Q => ta σ H fun x H1 => tb σ H1 fun y H2 => r x y H2 Q
def tUn (r : V → Hp → VK → Prop) (ta : TE) : TE := fun σ H Q => ta σ H fun x H1 => r x H1 Q
/-- ints in, under C, and a value out -/
def rI (C : Int → Int → Prop) (g : Int → Int → V) : R2 := fun x y H Q => ∃ i j, x = .int i ∧ y = .int j ∧ C i j ∧ Q (g i j) H
def rI0 (g : Int → Int → V) : R2 := fun x y H Q => ∃ i j, x = .int i ∧ y = .int j ∧ Q (g i j) H
def rU (g : Int → V) : V → Hp → VK → Prop := fun x H Q => ∃ i, x = .int i ∧ Q (g i) H

section
variable {X : Cx} {a b c : Expr} {ta tb tc : TE} {pos : Pos}

theorem binT (ha : PE X a ta) (hb : PE X b tb) {pins : List (Addr × Obj)} {s : Shared} {σ : St} {H : Hp} {R : V → V → Hp → Prop} (I : Inv X pins σ H s)
    (h : ta σ H fun x H1 => tb σ H1 fun y H2 => R x y H2) {Q : Value → Shared → Prop} {f : Value → Value → Sem Value}
    (hf : ∀ v u s2 x y H2, Inv X pins σ H2 s2 → RelV x v → RelV y u → R x y H2 → wpAny (model X.prog X.w) X.A (f v u) Q X.xe s2) :
    wpAny (model X.prog X.w) X.A (eval a X.env) (fun v s₁ => wpAny (model X.prog X.w) X.A (eval b X.env) (fun u s₂ => wpAny (model X.prog X.w) X.A (f v u) Q X.xe s₂) X.xe s₁) X.xe s := by
  refine thn (ha pins s σ H _ I h) fun v s1 ⟨x, H1, I1, r1, q1⟩ => ?_
  refine thn (hb pins s1 σ H1 _ I1 q1) fun u s2 ⟨y, H2, I2, r2, q2⟩ => ?_
  exact hf v u s2 x y H2 I2 r1 r2 q2

theorem pe_op {op : Operator} {r : R2} (ho : OpR X (binaryOp op) r) (ha : PE X a ta) (hb : PE X b tb) : PE X (.BinOp a op b pos) (tOp r ta tb) := by
  intro pins s σ H Q I h
  exact wpAny_BinOp (binT ha hb I h fun v u s2 x y H2 I2 rx ry q => ho pins s2 σ H2 x y v u Q I2 rx ry q)
theorem pe_un {op : UnaryOp} {r : V → Hp → VK → Prop} (ho : UnR X (unaryOp op) r) (ha : PE X a ta) : PE X (.UnaryOp op a pos) (tUn r ta) := by
  intro pins s σ H Q I h
  exact UnaryOp_ (thn (ha pins s σ H _ I h) fun v s1 ⟨x, H1, I1, r1, q1⟩ => ho pins s1 σ H1 x v Q I1 r1 q1)
/-! ### ints -/
theorem opI {f : Value → Value → Sem Value} {C : Int → Int → Prop} {g : Int → Int → Int}
    (rule : ∀ (i j : Int) (t u : Tok) (s : Shared) (Q : Value → Shared → Prop) (E : Value → Shared → Prop), C i j → Q (.int (g i j) s.toks) { s with toks := s.toks + 1 } → wpAny (model X.prog X.w) X.A (f (.int i t) (.int j u)) Q E s) :
    OpR X f (rI C fun i j => .int (g i j)) := by
  intro pins s σ H x y v u Q I rx ry h
  obtain ⟨i, j, rfl, rfl, hc, q⟩ := h
  obtain ⟨t, rfl⟩ := rx
  obtain ⟨t', rfl⟩ := ry
  exact rule i j t t' s _ _ hc ⟨.int (g i j), H, I.tok _, ⟨_, rfl⟩, q⟩
theorem opI0 {f : Value → Value → Sem Value} {g : Int → Int → Int}
    (rule : ∀ (i j : Int) (t u : Tok) (s : Shared) (Q : Value → Shared → Prop) (E : Value → Shared → Prop), Q (.int (g i j) s.toks) { s with toks := s.toks + 1 } → wpAny (model X.prog X.w) X.A (f (.int i t) (.int j u)) Q E s) :
    OpR X f (rI0 fun i j => .int (g i j)) := by
  intro pins s σ H x y v u Q I rx ry h
  obtain ⟨i, j, rfl, rfl, q⟩ := h
  obtain ⟨t, rfl⟩ := rx
  obtain ⟨t', rfl⟩ := ry
  exact rule i j t t' s _ _ ⟨.int (g i j), H, I.tok _, ⟨_, rfl⟩, q⟩
theorem opB0 {f : Value → Value → Sem Value} {g : Int → Int → Bool}
    (rule : ∀ (i j : Int) (t u : Tok) (s : Shared) (Q : Value → Shared → Prop) (E : Value → Shared → Prop), Q (.bool (g i j)) s → wpAny (model X.prog X.w) X.A (f (.int i t) (.int j u)) Q E s) :
    OpR X f (rI0 fun i j => .bl (g i j)) := by
  intro pins s σ H x y v u Q I rx ry h
  obtain ⟨i, j, rfl, rfl, q⟩ := h
  obtain ⟨t, rfl⟩ := rx
  obtain ⟨t', rfl⟩ := ry
  exact rule i j t t' s _ _ ⟨.bl (g i j), H, I, rfl, q⟩

def CDiv (i j : Int) : Prop := 0 < j ∧ j < 1073741824
def CPow (i j : Int) : Prop := 0 ≤ j ∧ j ≤ 1000000 ∧ i.natAbs < 2 ^ 64
def CMul (i j : Int) : Prop := (-(2 ^ 64) < i ∧ i < 2 ^ 64) ∨ (-(2 ^ 64) < j ∧ j < 2 ^ 64)
theorem CMul.ok {i j : Int} (h : CMul i j) : IntMulOk i j := by
  rcases h with ⟨h1, h2⟩ | ⟨h1, h2⟩
  · exact .of_left (intBits_le_64 h1 h2)
  · exact .of_right (intBits_le_64 h1 h2)
theorem op_add : OpR X (binaryOp .Add) (rI0 fun i j => .int (i + j)) := opI0 fun _ _ _ _ _ _ _ q => add_int q
theorem op_sub : OpR X (binaryOp .Sub) (rI0 fun i j => .int (i - j)) := opI0 fun _ _ _ _ _ _ _ q => sub_int q
theorem op_mul : OpR X (binaryOp .Mult) (rI CMul fun i j => .int (i * j)) := opI fun _ _ _ _ _ _ _ hc q => mul_int q hc.ok
/-- // by a positive divisor -/
theorem op_fdiv : OpR X (binaryOp .FloorDiv) (rI CDiv fun i j => .int (i / j)) := opI fun i j _ _ _ _ _ hc q => by
  have h1 : (0 : Int) < j := hc.1
  have h2 : j < 1073741824 := hc.2
  exact floordiv_int (by omega) (by rw [Int.fdiv_eq_ediv_of_nonneg i (by omega)]; exact q) (.inl (PyProof.noPylong_small (by omega)))
/-- % by a positive divisor of any size -/
theorem op_mod : OpR X (binaryOp .Mod) (rI (fun _ j => 0 < j) fun i j => .int (i % j)) := opI fun i j _ _ _ _ _ hc q => by
  have h1 : (0 : Int) < j := hc
  exact mod_int' (by omega) (by rw [Int.fmod_eq_emod_of_nonneg i (by omega)]; exact q)
theorem op_pow : OpR X (binaryOp .Pow) (rI CPow fun i j => .int (i ^ j.toNat)) := opI fun _ _ _ _ _ _ _ hc q => pow_int_small hc.1 hc.2.1 hc.2.2 q
theorem unI {f : Value → Sem Value} {g : Int → Int}
    (rule : ∀ (i : Int) (t : Tok) (s : Shared) (Q : Value → Shared → Prop) (E : Value → Shared → Prop), Q (.int (g i) s.toks) { s with toks := s.toks + 1 } → wpAny (model X.prog X.w) X.A (f (.int i t)) Q E s) :
    UnR X f (rU fun i => .int (g i)) := by
  intro pins s σ H x v Q I rx h
  obtain ⟨i, rfl, q⟩ := h
  obtain ⟨t, rfl⟩ := rx
  exact rule i t s _ _ ⟨.int (g i), H, I.tok _, ⟨_, rfl⟩, q⟩
theorem un_neg : UnR X (unaryOp .USub) (rU fun i => .int (-i)) := unI fun _ _ _ _ _ q => neg_int q
end

/-! ### comparisons -/
/-- the scalars that == tells apart as data does -/
def scal : V → V → Bool
  | .non, .non => true | .non, .int _ => true | .int _, .non => true | .non, .bl _ => true | .bl _, .non => true | .non, .str _ => true | .str _, .non => true
  | .int _, .int _ => true | .bl _, .bl _ => true | .str _, .str _ => true | .byt _, .byt _ => true
  | .int _, .str _ => true | .str _, .int _ => true | .bl _, .str _ => true | .str _, .bl _ => true
  | _, _ => false
def rEq : R2 := fun x y H Q => scal x y = true ∧ Q (.bl (decide (x = y))) H
def rNe : R2 := fun x y H Q => scal x y = true ∧ Q (.bl (!decide (x = y))) H

theorem dec_int {i j : Int} : decide (V.int i = V.int j) = (i == j) := by
  rw [Bool.eq_iff_iff]
  simp
theorem dec_bl {i j : Bool} : decide (V.bl i = V.bl j) = (i == j) := by
  rw [Bool.eq_iff_iff]
  simp
theorem dec_str {i j : Str} : decide (V.str i = V.str j) = (i == j) := by
  rw [Bool.eq_iff_iff]
  simp
theorem dec_byt {i j : Array UInt8} : decide (V.byt i = V.byt j) = (i.toList == j.toList) := by
  rw [Bool.eq_iff_iff]
  cases i
  cases j
  simp

section
variable {X : Cx} {a b c : Expr} {ta tb tc : TE} {pos : Pos}
theorem fin_bl {pins : List (Addr × Obj)} {σ : St} {H : Hp} {s : Shared} {Q : VK} {k k' : Bool} (I : Inv X pins σ H s) (q : Q (.bl k) H) (e : k = k') : EP X pins σ Q (.bool k') s := by
  subst e
  exact ⟨.bl k, H, I, rfl, q⟩
theorem op_eq : OpR X (compareOp .Eq) rEq := by
  intro pins s σ H x y v u Q I rx ry h
  obtain ⟨hs, q⟩ := h
  cases x with
  | non =>
    cases rx
    cases y with
    | non => cases ry; exact PySem.EqNone.eq_none_none (fin_bl I q (by simp))
    | bl j => cases ry; exact PySem.EqNone.eq_none_bool (fin_bl I q (by simp))
    | int j => obtain ⟨t', rfl⟩ := ry; exact PySem.EqNone.eq_none_int (fin_bl I q (by simp))
    | str j => obtain ⟨t', rfl⟩ := ry; exact PySem.EqNone.eq_none_str (fin_bl I q (by simp))
    | _ => exact absurd (show false = true from hs) Bool.false_ne_true
  | bl i =>
    cases rx
    cases y with
    | non => cases ry; exact PySem.EqNone.eq_bool_none (fin_bl I q (by simp))
    | bl j => cases ry; exact eq_bool (fin_bl I q dec_bl)
    | str j => obtain ⟨t', rfl⟩ := ry; exact PySem.EqMixed.eq_bool_str (fin_bl I q (by simp))
    | _ => exact absurd (show false = true from hs) Bool.false_ne_true
  | int i =>
    obtain ⟨t, rfl⟩ := rx
    cases y with
    | non => cases ry; exact PySem.EqNone.eq_int_none (fin_bl I q (by simp))
    | int j => obtain ⟨t', rfl⟩ := ry; exact eq_int (fin_bl I q dec_int)
    | str j => obtain ⟨t', rfl⟩ := ry; exact PySem.EqMixed.eq_int_str (fin_bl I q (by simp))
    | _ => exact absurd (show false = true from hs) Bool.false_ne_true
  | str i =>
    obtain ⟨t, rfl⟩ := rx
    cases y with
    | non => cases ry; exact PySem.EqNone.eq_str_none (fin_bl I q (by simp))
    | bl j => cases ry; exact PySem.EqMixed.eq_str_bool (fin_bl I q (by simp))
    | int j => obtain ⟨t', rfl⟩ := ry; exact PySem.EqMixed.eq_str_int (fin_bl I q (by simp))
    | str j => obtain ⟨t', rfl⟩ := ry; exact eq_str (fin_bl I q dec_str)
    | _ => exact absurd (show false = true from hs) Bool.false_ne_true
  | byt i =>
    obtain ⟨t, rfl⟩ := rx
    cases y with
    | byt j => obtain ⟨t', rfl⟩ := ry; exact PySem.W.eq_bytes (fin_bl I q dec_byt)
    | _ => exact absurd (show false = true from hs) Bool.false_ne_true
  | _ => cases y <;> exact absurd (show false = true from hs) Bool.false_ne_true
theorem op_ne : OpR X (compareOp .NotEq) rNe := by
  intro pins s σ H x y v u Q I rx ry h
  obtain ⟨hs, q⟩ := h
  cases x with
  | non =>
    cases rx
    cases y with
    | non => cases ry; exact PySem.EqNone.ne_none_none (fin_bl I q (by simp))
    | bl j => cases ry; exact PySem.EqNone.ne_none_bool (fin_bl I q (by simp))
    | int j => obtain ⟨t', rfl⟩ := ry; exact PySem.EqNone.ne_none_int (fin_bl I q (by simp))
    | str j => obtain ⟨t', rfl⟩ := ry; exact PySem.EqNone.ne_none_str (fin_bl I q (by simp))
    | _ => exact absurd (show false = true from hs) Bool.false_ne_true
  | bl i =>
    cases rx
    cases y with
    | non => cases ry; exact PySem.EqNone.ne_bool_none (fin_bl I q (by simp))
    | bl j => cases ry; exact ne_bool (fin_bl I q (congrArg not dec_bl))
    | str j => obtain ⟨t', rfl⟩ := ry; exact PySem.EqMixed.ne_bool_str (fin_bl I q (by simp))
    | _ => exact absurd (show false = true from hs) Bool.false_ne_true
  | int i =>
    obtain ⟨t, rfl⟩ := rx
    cases y with
    | non => cases ry; exact PySem.EqNone.ne_int_none (fin_bl I q (by simp))
    | int j => obtain ⟨t', rfl⟩ := ry; exact ne_int (fin_bl I q (congrArg not dec_int))
    | str j => obtain ⟨t', rfl⟩ := ry; exact PySem.EqMixed.ne_int_str (fin_bl I q (by simp))
    | _ => exact absurd (show false = true from hs) Bool.false_ne_true
  | str i =>
    obtain ⟨t, rfl⟩ := rx
    cases y with
    | non => cases ry; exact PySem.EqNone.ne_str_none (fin_bl I q (by simp))
    | bl j => cases ry; exact PySem.EqMixed.ne_str_bool (fin_bl I q (by simp))
    | int j => obtain ⟨t', rfl⟩ := ry; exact PySem.EqMixed.ne_str_int (fin_bl I q (by simp))
    | str j => obtain ⟨t', rfl⟩ := ry; exact ne_str (fin_bl I q (congrArg not dec_str))
    | _ => exact absurd (show false = true from hs) Bool.false_ne_true
  | byt i =>
    obtain ⟨t, rfl⟩ := rx
    cases y with
    | byt j => obtain ⟨t', rfl⟩ := ry; exact PySem.W.ne_bytes (fin_bl I q (congrArg not dec_byt))
    | _ => exact absurd (show false = true from hs) Bool.false_ne_true
  | _ => cases y <;> exact absurd (show false = true from hs) Bool.false_ne_true

theorem op_lt : OpR X (compareOp .Lt) (rI0 fun i j => .bl (decide (i < j))) := opB0 fun _ _ _ _ _ _ _ q => lt_int q
theorem op_le : OpR X (compareOp .LtE) (rI0 fun i j => .bl (decide (i ≤ j))) := opB0 fun _ _ _ _ _ _ _ q => le_int q
theorem op_gt : OpR X (compareOp .Gt) (rI0 fun i j => .bl (decide (j < i))) := opB0 fun _ _ _ _ _ _ _ q => gt_int q
theorem op_ge : OpR X (compareOp .GtE) (rI0 fun i j => .bl (decide (j ≤ i))) := opB0 fun _ _ _ _ _ _ _ q => ge_int q
/-- the one string within the other -/
theorem op_in_str : OpR X (compareOp .In) (fun x y H Q => ∃ i j, x = .str i ∧ y = .str j ∧ Q (.bl (!(Builtin.Str.occurrences j i 0 j.length 1).isEmpty)) H) := by
  intro pins s σ H x y v u Q I rx ry h
  obtain ⟨i, j, rfl, rfl, q⟩ := h
  obtain ⟨t, rfl⟩ := rx
  obtain ⟨t', rfl⟩ := ry
  exact in_str (fin_bl I q rfl)

theorem op_notN : OpR X (compareOp .IsNot) (fun x y H Q => y = .non ∧ Q (.bl (!decide (x = .non))) H) := by
  intro pins s σ H x y v u Q I rx ry h
  obtain ⟨rfl, q⟩ := h
  cases ry
  refine isnot_none_gen (fin_bl I q ?_)
  cases x <;> first
    | (cases rx; rfl)
    | (obtain ⟨t, rfl⟩ := rx; rfl)

theorem nomark (b : Expr) {op : CmpOp} (h : op ≠ .In := by decide) (h2 : op ≠ .NotIn := by decide) : behindInMarks op b = false := by
  have e1 : (op == CmpOp.In) = false := by cases op <;> first | rfl | exact absurd rfl h
  have e2 : (op == CmpOp.NotIn) = false := by cases op <;> first | rfl | exact absurd rfl h2
  cases b <;> simp [behindInMarks, e1, e2]
/-- a comparison as a value; hm: nomark b, or (for in, not in) by with_unfolding_all rfl -/
theorem pe_cmpR {op : CmpOp} {r : R2} (ho : OpR X (compareOp op) r) (ha : PE X a ta) (hb : PE X b tb) (hm : behindInMarks op b = false) : PE X (.Compare a [op] [b] pos) (tOp r ta tb) := by
  intro pins s σ H Q I h
  exact wpAny_Compare1 (binT ha hb I h fun v u s2 x y H2 I2 rx ry q => ho pins s2 σ H2 x y v u Q I2 rx ry q) hm
/-- a reading of a value as a test -/
def tTest (t : TE) : TT := fun σ H Q => t σ H fun x H' => ∃ k, x = .bl k ∧ Q k H'
theorem pt_cmpR {op : CmpOp} {r : R2} (ho : OpR X (compareOp op) r) (ha : PE X a ta) (hb : PE X b tb) (hm : behindInMarks op b = false) : PT X (.Compare a [op] [b] pos) (tTest (tOp r ta tb)) := by
  intro pins s σ H Q I h
  refine wpAny_isTrue_Compare1 (thn (ha pins s σ H _ I h) fun v s1 ⟨x, H1, I1, r1, q1⟩ => thn (hb pins s1 σ H1 _ I1 q1) fun u s2 ⟨y, H2, I2, r2, q2⟩ =>
    thn (ho pins s2 σ H2 x y v u _ I2 r1 r2 q2) fun c s3 ⟨z, H3, I3, r3, k, e, q3⟩ => ?_) hm
  subst e
  cases r3
  exact wpAny_truthy_bool ⟨H3, I3, q3⟩
/-- a op1 b op2 c -/
def tChain (r r' : R2) (ta tb tc : TE) : TE := fun σ H Q => ta σ H fun x H1 => tb σ H1 fun y H2 => r x y H2 fun z H3 => ∃ k, z = .bl k ∧
  (if k = true then tc σ H3 fun w' H4 => r' y w' H4 Q else Q (.bl false) H3)
theorem pe_chain {op op' : CmpOp} {r r' : R2} (ho : OpR X (compareOp op) r) (ho' : OpR X (compareOp op') r') (ha : PE X a ta) (hb : PE X b tb) (hc : PE X c tc)
    (hm : lastMarks [op, op'] [b, c] = false := by with_unfolding_all rfl) : PE X (.Compare a [op, op'] [b, c] pos) (tChain r r' ta tb tc) := by
  intro pins s σ H Q I h
  refine Compare_chain (thn (ha pins s σ H _ I h) fun v s1 ⟨x, H1, I1, r1, q1⟩ => chain_link (thn (hb pins s1 σ H1 _ I1 q1) fun u s2 ⟨y, H2, I2, r2, q2⟩ =>
    thn (ho pins s2 σ H2 x y v u _ I2 r1 r2 q2) fun d s3 ⟨z, H3, I3, r3, k, e, q3⟩ => ?_)) hm
  subst e
  cases r3
  refine wpAny_truthy_bool ?_
  cases k with
  | false => exact ite_ff ⟨.bl false, H3, I3, rfl, q3⟩
  | true => exact ite_tt (chain_last (thn (hc pins s3 σ H3 _ I3 q3) fun w' s4 ⟨z', H4, I4, r4, q4⟩ => ho' pins s4 σ H4 y z' u w' Q I4 r2 r4 q4))
theorem pt_chain {op op' : CmpOp} {r r' : R2} (ho : OpR X (compareOp op) r) (ho' : OpR X (compareOp op') r') (ha : PE X a ta) (hb : PE X b tb) (hc : PE X c tc)
    (hm : lastMarks [op, op'] [b, c] = false := by with_unfolding_all rfl) : PT X (.Compare a [op, op'] [b, c] pos) (tTest (tChain r r' ta tb tc)) := by
  intro pins s σ H Q I h
  refine isTrue_chain (thn (ha pins s σ H _ I h) fun v s1 ⟨x, H1, I1, r1, q1⟩ => test_link (thn (hb pins s1 σ H1 _ I1 q1) fun u s2 ⟨y, H2, I2, r2, q2⟩ =>
    thn (ho pins s2 σ H2 x y v u _ I2 r1 r2 q2) fun d s3 ⟨z, H3, I3, r3, k, e, q3⟩ => ?_)) hm
  subst e
  cases r3
  refine wpAny_truthy_bool ?_
  cases k with
  | false =>
    obtain ⟨k', e', q'⟩ := q3
    cases e'
    exact ite_ff ⟨H3, I3, q'⟩
  | true =>
    refine ite_tt (test_last (thn (hc pins s3 σ H3 _ I3 q3) fun w' s4 ⟨z', H4, I4, r4, q4⟩ => thn (ho' pins s4 σ H4 y z' u w' _ I4 r2 r4 q4) fun d' s5 ⟨z2, H5, I5, r5, k2, e2, q5⟩ => ?_))
    subst e2
    cases r5
    exact wpAny_truthy_bool ⟨H5, I5, q5⟩

theorem line63 : (sizeLine : Nat) < 2 ^ 63 := by rw [sizeLine_eq]; decide
theorem op_add_str : OpR X (binaryOp .Add) (fun x y H Q => ∃ i j, x = .str i ∧ y = .str j ∧ i.length + j.length ≤ sizeLine ∧ Q (.str (i ++ j)) H) := by
  intro pins s σ H x y v u Q I rx ry h
  obtain ⟨i, j, rfl, rfl, hz, q⟩ := h
  obtain ⟨t, rfl⟩ := rx
  obtain ⟨t', rfl⟩ := ry
  exact add_str (fun t' tk => ⟨.str (i ++ j), H, I.tok _, ⟨_, rfl⟩, q⟩) hz
/-! ### scalar builtins, by CallR -/
theorem vals1 {x : V} {us : List Value} (r : Vals [x] us) : ∃ u, us = [u] ∧ RelV x u := by
  cases r with
  | cons r1 r2 => cases r2; exact ⟨_, rfl, r1⟩
theorem vals2 {x y : V} {us : List Value} (r : Vals [x, y] us) : ∃ u w', us = [u, w'] ∧ RelV x u ∧ RelV y w' := by
  cases r with
  | cons r1 r2 =>
    cases r2 with
    | cons r3 r4 => cases r4; exact ⟨_, _, rfl, r1, r3⟩
theorem call_abs : CallR X (.builtin "abs") (fun xs H Q => ∃ i, xs = [.int i] ∧ Q (.int (if i < 0 then -i else i)) H) := by
  intro pins s σ H xs us Q I r h
  obtain ⟨i, rfl, q⟩ := h
  obtain ⟨u, rfl, t, rfl⟩ := vals1 r
  exact call_abs_int fun u tk => ⟨.int (if i < 0 then -i else i), H, I.tok _, ⟨_, rfl⟩, q⟩
theorem call_max2 (hc : X.calm = true) : CallR X (.builtin "max") (fun xs H Q => ∃ i j, xs = [.int i, .int j] ∧ Q (.int (if j > i then j else i)) H) := by
  intro pins s σ H xs us Q I r h
  obtain ⟨i, j, rfl, q⟩ := h
  obtain ⟨u, w', rfl, ⟨t, rfl⟩, ⟨t', rfl⟩⟩ := vals2 r
  refine max_two_ints (I.ok.hd hc) fun h' tk k => ⟨_, H, I.kept k, ?_, q⟩
  by_cases hj : j > i
  · rw [if_pos hj, if_pos hj]; exact ⟨_, rfl⟩
  · rw [if_neg hj, if_neg hj]; exact ⟨_, rfl⟩
theorem call_min2 (hc : X.calm = true) : CallR X (.builtin "min") (fun xs H Q => ∃ i j, xs = [.int i, .int j] ∧ Q (.int (if j < i then j else i)) H) := by
  intro pins s σ H xs us Q I r h
  obtain ⟨i, j, rfl, q⟩ := h
  obtain ⟨u, w', rfl, ⟨t, rfl⟩, ⟨t', rfl⟩⟩ := vals2 r
  refine min_two_ints (I.ok.hd hc) fun h' tk k => ⟨_, H, I.kept k, ?_, q⟩
  by_cases hj : j < i
  · rw [if_pos hj, if_pos hj]; exact ⟨_, rfl⟩
  · rw [if_neg hj, if_neg hj]; exact ⟨_, rfl⟩
theorem call_int1 : CallR X (.type "int") (fun xs H Q => (∃ i, xs = [.int i] ∧ Q (.int i) H) ∨ ∃ k, xs = [.bl k] ∧ Q (.int (if k then 1 else 0)) H) := by
  intro pins s σ H xs us Q I r h
  rcases h with ⟨i, rfl, q⟩ | ⟨k, rfl, q⟩
  · obtain ⟨u, rfl, t, rfl⟩ := vals1 r
    exact call_int_int ⟨.int i, H, I, ⟨_, rfl⟩, q⟩
  · obtain ⟨u, rfl, r1⟩ := vals1 r
    cases r1
    exact call_int_bool ⟨.int (if k then 1 else 0), H, I.tok _, ⟨_, rfl⟩, q⟩
theorem call_ord : CallR X (.builtin "ord") (fun xs H Q => ∃ x, xs = [.str x] ∧ x.length = 1 ∧ Q (.int (x.cps.getD 0 0 : Nat)) H) := by
  intro pins s σ H xs us Q I r h
  obtain ⟨x, rfl, hz, q⟩ := h
  obtain ⟨u, rfl, t, rfl⟩ := vals1 r
  exact ord_of_one hz ⟨.int _, H, I.tok _, ⟨_, rfl⟩, q⟩
end
end L2

namespace L2
open PySem PySem.Spec PyProof.Rows

/-! ### an instance, its attributes a map -/
structure ObjM (h : Heap) (x dx C : Addr) (mA : Str → Option Value) : Prop where
  obj : h.get? x = some (PySem.W.instObj C dx)
  ns : h.Ns1 dx mA
  ne : dx ≠ x

theorem lookIn_ns {h : Heap} {dx : Addr} {mA : Str → Option Value} (n : h.Ns1 dx mA) : ∃ od, h.get? dx = some od ∧ ∀ name, PySem.W.lookIn name od = some (mA name) := by
  obtain ⟨o, es, ep, ho, hd, hk, _, hm⟩ := n
  refine ⟨o, ho, fun name => ?_⟩
  have e := hm name
  unfold nsFind findBy at e
  rw [← Array.find?_toList] at e
  unfold PySem.W.lookIn
  rw [hd]
  dsimp only
  split
  · rename_i y q
    rw [q] at e
    exact congrArg some e
  · rename_i q
    rw [q] at e
    have a : es.toList.any (·.refKey) = false := by
      rw [List.any_eq_false]
      intro y hy
      obtain ⟨z, t, hkey⟩ := hk y (Array.mem_toList_iff.mp hy)
      simp [DictEntry.refKey, hkey]
    have a' : ¬ es.toList.any (·.refKey) = true := by rw [a]; exact Bool.false_ne_true
    rw [if_neg a']
    exact congrArg some e

theorem ObjM.look {h : Heap} {x dx C : Addr} {mA : Str → Option Value} (I : ObjM h x dx C mA) : ∃ od, PySem.W.InstAt h x (PySem.W.instObj C dx) C (some od) ∧ ∀ name, PySem.W.lookIn name od = some (mA name) :=
  let ⟨od, ho, hl⟩ := lookIn_ns I.ns
  ⟨od, ⟨I.obj, rfl, rfl, ho⟩, hl⟩

section
variable {prog : Program} {w : World} {A : Around} {E : Value → Shared → Prop} {s : Shared} {K : PySem.W.Frag} {x dx C f : Addr} {mA : Str → Option Value} {name : Str} {v : Value}

theorem get_map {expr : Bool} {Q : Value → Shared → Prop} (X : K.In s.heap) (I : ObjM s.heap x dx C mA) (hg : PySem.W.plainGet K C name = true) (hh : PySem.W.hasDictIn K C = true)
    (ha : PySem.W.findIn K (.ref C) name = some none) (hv : mA name = some v) (hv' : PySem.W.handedIn v = true) (h : Q v { s with toks := s.toks + 1 }) :
    wpAny (model prog w) A (getAttr (.ref x) name expr) Q E s := by
  obtain ⟨od, J, hl⟩ := I.look
  exact PySem.W.get_value X J (PySem.W.plainGet_of hg).1 (PySem.W.findObj_own hh ha rfl (by rw [hl, hv])) hv' h

theorem get_meth {pl : Sem Bool} {Q : Value × List Value → Shared → Prop} (X : K.In s.heap) (I : ObjM s.heap x dx C mA) (hg : PySem.W.plainGet K C name = true)
    (hf : PySem.W.findIn K (.ref C) name = some (some (.ref f))) (ht : PySem.W.isFn K (.ref f) = true) (hv : mA name = none) (h : Q (.ref f, [.ref x]) s) :
    wpAny (model prog w) A (getMethod (.ref x) name pl) Q E s := by
  obtain ⟨od, J, hl⟩ := I.look
  exact PySem.W.method_fn X J (PySem.W.plainGet_of hg).1 (PySem.W.plainGet_of hg).2 hf (beq_iff_eq.mp ht) (by show (PySem.W.lookIn name od).map (·.isSome) = some false; rw [hl, hv]; rfl) h

theorem set_map {ns : List Str} {Q : Unit → Shared → Prop} (X : K.In s.heap) (I : ObjM s.heap x dx C mA)
    (hs : PySem.W.findIn K (.ref C) "__setattr__" = some (some (.builtin "object.__setattr__"))) (hp : PySem.W.plainOver K C = true) (ht : PySem.W.takerIn K C name = some none) (hh : PySem.W.hasDictIn K C = true)
    (hw : PySem.Within mA ns) (hsz : ns.length ≤ sizeLine)
    (h : ∀ h', ObjM h' x dx C (fun y => if y = name then some v else mA y) → Heap.SameBut dx s.heap h' → Q () { s with heap := h', toks := s.toks + 2 }) :
    wpAny (model prog w) A (setAttr (.ref x) name v) Q E s := by
  obtain ⟨od, J, hl⟩ := I.look
  refine PySem.W.set_plain X J hs (PySem.W.osa_open (s := { s with toks := s.toks + 1 }) (r := none) X J hp ht fun b => ?_)
  obtain ⟨cd, hc, hd'⟩ := PySem.W.any_some hh
  have hx : s.heap.get? x = some ⟨.ref C, some dx, .plain, #[]⟩ := I.obj
  refine wpAny_bind (wpAny_pure (wpAny_bind (wpAny_bind (wpAny_loadPart hx (wpAny_bind (PySem.W.Looks.here (s := { s with toks := s.toks + 1 }) (PySem.W.looks_clsIn X hc) ?_))))))
  rw [hd']
  refine wpAny_pure (a := some dx) (wpAny_bind (wpAny_pure (wpAny_bind ?_)))
  refine wpAny_nsSet1 (s := { s with toks := s.toks + 1 }) I.ns fun h' hn2 hs2 => ?_
  obtain ⟨oD, esD, epD, hoD, hdD, hcD⟩ := hn2.count (PySem.Within.cons name v hw)
  refine wpAny_bind (wpAny_lookBehind hoD (by rw [hdD]; exact pastItsLine_dict (Nat.le_trans hcD (by rw [List.length_cons]; omega))) ?_)
  exact wpAny_pure (h _ ⟨(hs2.2 _ (Ne.symm I.ne)).trans I.obj, hn2, I.ne⟩ hs2)

/-- C(..): the dict at the heap's end, the instance behind it; then its __init__ -/
theorem make_map {R : Result → Shared → Prop} {vs : List Value} {kw : List (Str × Value)} (X : K.In s.heap) (hm : PySem.W.makesIn K C = true)
    (hi : PySem.W.findIn K (.ref C) "__init__" = some (some (.ref f))) (hf : PySem.W.typeIn K (.ref f) = some (.type "function"))
    (h : codeAny (model prog w) (A.under (.builtin "type.__call__" ⟨.ref C :: vs, kw⟩)) (.call (.ref f) ⟨.ref (s.heap.objs.size + 1) :: vs, kw⟩) (PySem.W.InitBack (s.heap.objs.size + 1) R)
      { s with heap := (s.heap.push PySem.W.emptyDict).push (PySem.W.instObj C s.heap.objs.size) }) :
    codeAny (model prog w) A (.call (.ref C) ⟨vs, kw⟩) R s := by
  obtain ⟨hh, g, d, t, os⟩ := s
  exact PySem.W.make_core (PySem.W.makes_of X hm) (PySem.W.looks_findIn X hi) (fun self => PySem.W.bind_fn X self hf) (.inl rfl) h
end

/-! ### the attributes as a list of pairs -/
def putF (f : Str) (v : V) : List (Str × V) → List (Str × V)
  | [] => [(f, v)]
  | (g, x) :: r => if g = f then (g, v) :: r else (g, x) :: putF f v r
theorem lookup_putF (f g : Str) (v : V) : ∀ fs : List (Str × V), (putF f v fs).lookup g = if g = f then some v else fs.lookup g
  | [] => by
    show List.lookup g [(f, v)] = _
    by_cases h : g = f
    · have hb : (g == f) = true := beq_iff_eq.mpr h
      simp only [List.lookup, hb, if_pos h]
    · have hb : (g == f) = false := beq_eq_false_iff_ne.mpr h
      simp only [List.lookup, hb, if_neg h]
  | (k, x) :: r => by
    have ih := lookup_putF f g v r
    rw [show putF f v ((k, x) :: r) = (if k = f then (k, v) :: r else (k, x) :: putF f v r) from rfl]
    by_cases hk : k = f
    · rw [if_pos hk]
      by_cases h : g = k
      · have hb : (g == k) = true := beq_iff_eq.mpr h
        simp only [List.lookup, hb, if_pos (h.trans hk)]
      · have hb : (g == k) = false := beq_eq_false_iff_ne.mpr h
        simp only [List.lookup, hb, if_neg (fun e : g = f => h (e.trans hk.symm))]
    · rw [if_neg hk]
      by_cases h : g = k
      · have hb : (g == k) = true := beq_iff_eq.mpr h
        simp only [List.lookup, hb, if_neg (fun e : g = f => hk (h.symm.trans e))]
      · have hb : (g == k) = false := beq_eq_false_iff_ne.mpr h
        simp only [List.lookup, hb]
        exact ih
theorem keys_putF (f : Str) (v : V) : ∀ fs : List (Str × V), f ∈ (putF f v fs).map (·.1) ∧ ∀ g, g ∈ fs.map (·.1) → g ∈ (putF f v fs).map (·.1)
  | [] => ⟨by simp [putF], fun g h => by simp at h⟩
  | (k, x) :: r => by
    obtain ⟨i1, i2⟩ := keys_putF f v r
    rw [show putF f v ((k, x) :: r) = (if k = f then (k, v) :: r else (k, x) :: putF f v r) from rfl]
    by_cases hk : k = f
    · rw [if_pos hk]
      subst hk
      exact ⟨by simp, fun g h => by simpa using h⟩
    · rw [if_neg hk]
      refine ⟨?_, fun g h => ?_⟩
      · rw [List.map_cons]
        exact List.mem_cons_of_mem _ i1
      · rw [List.map_cons] at h ⊢
        rcases List.mem_cons.mp h with e | e
        · exact List.mem_cons.mpr (.inl e)
        · exact List.mem_cons_of_mem _ (i2 g e)
theorem length_putF (f : Str) (v : V) : ∀ fs : List (Str × V), (putF f v fs).length ≤ fs.length + 1
  | [] => by simp [putF]
  | (k, x) :: r => by
    have ih := length_putF f v r
    rw [show putF f v ((k, x) :: r) = (if k = f then (k, v) :: r else (k, x) :: putF f v r) from rfl]
    by_cases hk : k = f
    · rw [if_pos hk, List.length_cons, List.length_cons]; omega
    · rw [if_neg hk, List.length_cons, List.length_cons]; omega

theorem RelO.some_of {v : V} {o : Option Value} (r : RelO (some v) o) : ∃ u, o = some u ∧ RelV v u := by
  cases o with
  | none => exact (show False from r).elim
  | some u => exact ⟨u, rfl, r⟩
theorem RelO.none_of {o : Option Value} (r : RelO none o) : o = none := by
  cases o with
  | none => rfl
  | some u => exact (show False from r).elim
theorem handed_of {v : V} {u : Value} (r : RelV v u) : PySem.W.handedIn u = true := by
  cases v with
  | non => cases (show u = Value.none from r); rfl
  | bl b => cases (show u = Value.bool b from r); rfl
  | int i => obtain ⟨t, e⟩ := (show ∃ t, u = Value.int i t from r); cases e; rfl
  | str x => obtain ⟨t, e⟩ := (show ∃ t, u = Value.str x t from r); cases e; rfl
  | byt b => obtain ⟨t, e⟩ := (show ∃ t, u = Value.bytes b t from r); cases e; rfl
  | flt b => obtain ⟨t, e⟩ := (show ∃ t, u = Value.float b t from r); cases e; rfl
  | ref a => cases (show u = Value.ref a from r); rfl
  | ty n => cases (show u = Value.type n from r); rfl

section
variable {P : Program} {w : World} {H H' : Hp} {h h' : Heap} {a C dx : Addr} {fs fs' : List (Str × V)}
theorem ins_get (hok : HOk P w H h) (e : H a = some (.ins C dx fs)) : ∃ mA, ObjM h a dx C mA ∧ (∀ f, RelO (fs.lookup f) (mA f)) ∧ PySem.Within mA (fs.map (·.1)) ∧ fs.length ≤ 1000 ∧ H dx = some (.own a) := by
  obtain ⟨d, z, ne, ob, mA, n, r, q⟩ := (show ObjOk P w H h a (.ins C dx fs) from hok a _ e)
  exact ⟨mA, ⟨ob, n, ne⟩, r, q, z, d⟩
end

/-! ### what of the text a class must have -/
structure Cls (K : PySem.W.Frag) (C : Addr) : Prop where
  pg : PySem.W.plainGet K C Str.empty = true
  hd : PySem.W.hasDictIn K C = true
  po : PySem.W.plainOver K C = true
  sa : PySem.W.findIn K (.ref C) "__setattr__" = some (some (.builtin "object.__setattr__"))
theorem Cls.get {K : PySem.W.Frag} {C : Addr} (c : Cls K C) (f : Str) : PySem.W.plainGet K C f = true := c.pg
/-- no class of it has the name -/
def NoAttr (K : PySem.W.Frag) (C : Addr) (f : Str) : Prop := PySem.W.findIn K (.ref C) f = some none
theorem NoAttr.taker {K : PySem.W.Frag} {C : Addr} {f : Str} (n : NoAttr K C f) : PySem.W.takerIn K C f = some none := by
  unfold PySem.W.takerIn
  rw [show PySem.W.findIn K (.ref C) f = some none from n]
  rfl
/-- a method: a plain def of the class or of one above it -/
structure Meth (K : PySem.W.Frag) (C : Addr) (m : Str) (f : Addr) : Prop where
  at_ : PySem.W.findIn K (.ref C) m = some (some (.ref f))
  fn : PySem.W.isFn K (.ref f) = true
  kp : PySem.W.keepIn K (.ref f) = true

section
variable {X : Cx} {pins : List (Addr × Obj)} {σ : St} {H : Hp} {s : Shared} {a C dx : Addr} {fs : List (Str × V)} {f : Str} {v : V} {A : Around} {E : Value → Shared → Prop}

theorem getattr_ok {b : Bool} {Q : Value → Shared → Prop} (I : Inv X pins σ H s) (e : H a = some (.ins C dx fs)) (c : Cls X.K C) (n : NoAttr X.K C f) (l : fs.lookup f = some v)
    (h : ∀ u s', Inv X pins σ H s' → RelV v u → Q u s') : wpAny (model X.prog X.w) A (getAttr (.ref a) f b) Q E s := by
  obtain ⟨mA, O, r, _, _, _⟩ := ins_get I.hok e
  obtain ⟨u, hu, ru⟩ := RelO.some_of (v := v) (o := mA f) (by rw [← l]; exact r f)
  exact get_map I.kIn O (c.get f) c.hd n hu (handed_of ru) (h u _ (I.tok _) ru)

theorem getmeth_ok {m : Str} {g : Addr} {pl : Sem Bool} {Q : Value × List Value → Shared → Prop} (I : Inv X pins σ H s) (e : H a = some (.ins C dx fs)) (c : Cls X.K C) (k : Meth X.K C m g) (l : fs.lookup m = none)
    (h : Q (.ref g, [.ref a]) s) : wpAny (model X.prog X.w) A (getMethod (.ref a) m pl) Q E s := by
  obtain ⟨mA, O, r, _, _, _⟩ := ins_get I.hok e
  have hn : mA m = none := RelO.none_of (by rw [← l]; exact r m)
  exact get_meth I.kIn O (c.get m) k.at_ k.fn hn h

theorem setattr_ok {y : V} {u : Value} {Q : Unit → Shared → Prop} (I : Inv X pins σ H s) (e : H a = some (.ins C dx fs)) (c : Cls X.K C) (n : NoAttr X.K C f) (hl : fs.length < 1000) (ry : RelV y u)
    (h : ∀ s', Inv X pins σ (upd H a (.ins C dx (putF f y fs))) s' → Q () s') : wpAny (model X.prog X.w) A (setAttr (.ref a) f u) Q E s := by
  obtain ⟨mA, O, r, wi, _, ho⟩ := ins_get I.hok e
  have hz : (fs.map (·.1)).length ≤ sizeLine := by rw [List.length_map, sizeLine_eq]; omega
  refine set_map I.kIn O c.sa c.po n.taker c.hd wi hz fun h' O' sb => h _ ?_
  have hd : ∃ o, h'.get? dx = some o := let ⟨o, _, _, e', _⟩ := O'.ns; ⟨o, e'⟩
  refine I.write (x := a) (e := dx) (by rw [e]; exact True.intro) (.inr ho) (fun b q hb z => (sb.2 b hb).trans z) hd ?_
  refine ⟨by rw [upd_ne O.ne]; exact ho, ?_, O.ne, O'.obj, _, O'.ns, fun g => ?_, fun g hg => ?_⟩
  · have := length_putF f y fs; omega
  · show RelO ((putF f y fs).lookup g) (if g = f then some u else mA g)
    rw [lookup_putF]
    by_cases q : g = f
    · rw [if_pos q, if_pos q]; exact ry
    · rw [if_neg q, if_neg q]; exact r g
  · by_cases q : g = f
    · rw [q]; exact (keys_putF f y fs).1
    · refine (keys_putF f y fs).2 g (wi g fun z => hg ?_)
      show (if g = f then some u else mA g) = none
      rw [if_neg q]; exact z

/-- a new instance, tracked, without attributes -/
theorem Inv.made (I : Inv X pins σ H s) : Inv X pins σ (upd (upd H s.heap.objs.size (.own (s.heap.objs.size + 1))) (s.heap.objs.size + 1) (.ins C s.heap.objs.size []))
    { s with heap := (s.heap.push PySem.W.emptyDict).push (PySem.W.instObj C s.heap.objs.size) } := by
  have e1 : (s.heap.push PySem.W.emptyDict).get? s.heap.objs.size = some PySem.W.emptyDict := Heap.get?_push_size s.heap rfl
  have e2 : ((s.heap.push PySem.W.emptyDict).push (PySem.W.instObj C s.heap.objs.size)).get? (s.heap.objs.size + 1) = some (PySem.W.instObj C s.heap.objs.size) := by
    have := Heap.get?_push_size (s.heap.push PySem.W.emptyDict) (o := PySem.W.instObj C s.heap.objs.size) rfl
    rwa [Heap.size_push] at this
  have e3 : (s.heap.push PySem.W.emptyDict).Ns s.heap.objs.size (fun _ => none) := ⟨PySem.W.emptyDict, #[], _, e1, rfl, (fun e he => absurd he (by simp)), fun _ => rfl⟩
  have I1 := I.laid (a := s.heap.objs.size) (o := .own (s.heap.objs.size + 1)) (h' := s.heap.push PySem.W.emptyDict) (t' := s.toks) (fun b u q => Heap.get?_push_of_some _ q) (Nat.le_refl _) ⟨_, e1⟩
  refine I1.laid (a := s.heap.objs.size + 1) (o := .ins C s.heap.objs.size []) (t' := s.toks) (fun b u q => Heap.get?_push_of_some _ q) (Nat.le_of_eq (Heap.size_push _ _)) ?_
  have ne : s.heap.objs.size ≠ s.heap.objs.size + 1 := Nat.ne_of_lt (Nat.lt_succ_self _)
  refine ⟨by rw [upd_ne ne, upd_same], Nat.zero_le _, ne, e2, fun _ => none, (Heap.Ns1.of_empty e3).at fun o q => Heap.get?_push_of_some _ q, fun _ => True.intro, fun y hy => absurd rfl hy⟩

/-- e.f where nothing but the object is asked: through attributeBase (super) and the last hold -/
theorem attr_of {prog : Program} {w : World} {env : Env} {e : Expr} {f : Str} {pos : Pos} {s : Shared} {Q : Value → Shared → Prop} (hb : attributeBase e f env (eval e env) = eval e env)
    (h : wpAny (model prog w) A (eval e env) (fun o s₁ => wpAny (model prog w) A (getAttr o f true) Q E s₁) E s) : wpAny (model prog w) A (eval (.Attribute e f pos) env) Q E s :=
  Attribute_any_ h (by rw [arm_eval_Attribute, hb])
end

/-! ### readings and rules -/
/-- e.f, an attribute of the instance -/
def tFld (K : PySem.W.Frag) (ta : TE) (f : Str) : TE := fun σ H Q => ta σ H fun x H1 => ∃ a C dx fs v, x = .ref a ∧ H1 a = some (.ins C dx fs) ∧ Cls K C ∧ NoAttr K C f ∧ fs.lookup f = some v ∧ Q v H1
section
variable {X : Cx} {o e value : Expr} {f : Str} {pos pos' tpos : Pos} {ta tv : TE}
theorem pe_fld (he : PE X e ta) (hb : attributeBase e f X.env (eval e X.env) = eval e X.env) : PE X (.Attribute e f pos) (tFld X.K ta f) := by
  intro pins s σ H Q I h
  refine attr_of hb (thn (he pins s σ H _ I h) fun u s1 ⟨x, H1, I1, rx, a, C, dx, fs, v, ex, ea, c, n, l, q⟩ => ?_)
  subst ex
  obtain rfl : u = Value.ref a := rx
  exact getattr_ok I1 ea c n l fun u' s2 I2 ru => ⟨v, H1, I2, ru, q⟩
end

/-! ### isinstance -/
section
variable {X : Cx} {pins : List (Addr × Obj)} {σ : St} {H : Hp} {s : Shared} {A : Around} {E : Value → Shared → Prop} {Q : Value → Shared → Prop} {c : Value} {b : Bool}
/-- the type of a value, as the fragment's deciders take it; for an instance its class -/
inductive TyOf (K : PySem.W.Frag) (H : Hp) : V → Value → Prop where
  | non : TyOf K H .non (.type "NoneType")
  | bl (x : Bool) : TyOf K H (.bl x) (.type "bool")
  | int (i : Int) : TyOf K H (.int i) (.type "int")
  | str (x : Str) : TyOf K H (.str x) (.type "str")
  | flt (x : UInt64) : TyOf K H (.flt x) (.type "float")
  | lst {a : Addr} {xs : List V} (e : H a = some (.lst xs)) : TyOf K H (.ref a) (.type "list")
  | frz {a : Addr} {o : Obj} {xs : List V} (e : H a = some (.frz o (.lst xs))) : TyOf K H (.ref a) (.type "list")
  | tup {a : Addr} {xs : List V} (e : H a = some (.tup xs)) : TyOf K H (.ref a) (.type "tuple")
  | dK {a : Addr} {kvs : List (Key × V)} (e : H a = some (.dK kvs)) : TyOf K H (.ref a) (.type "dict")
  | dT {a : Addr} {kvs : List (List Key × V)} (e : H a = some (.dT kvs)) : TyOf K H (.ref a) (.type "dict")
  | ins {a C dx : Addr} {fs : List (Str × V)} (e : H a = some (.ins C dx fs)) (cl : Cls K C) (ha : PySem.W.findIn K (.ref C) "__class__" = some (some (.builtin "object.__class__")))
      (hn : PySem.W.specialIn K (.builtin "object.__class__") "__get__" = some (some (.builtin "getset_descriptor.__get__"))) (htk : PySem.W.takesIn K (.builtin "object.__class__") = some true)
      (hm : PySem.W.mroIn K C (.type "object") = some true) : TyOf K H (.ref a) (.ref C)
/-- isinstance(x, c) for one class c, a built-in or an own one: kitOne's answer -/
theorem isinst_ok {x : V} {u t : Value} (I : Inv X pins σ H s) (rx : RelV x u) (ty : TyOf X.K H x t) (e : PySem.W.kitOne X.K t c = some b) (h : ∀ tk, Q (.bool b) { s with toks := tk }) :
    wpAny (model X.prog X.w) A (call (.builtin "isinstance") [u, c]) Q E s := by
  cases ty with
  | non => cases (show u = Value.none from rx); exact PySem.W.kia_one PySem.W.kitx_none I.kIn True.intro e (fun z => nomatch z) h
  | bl y => cases (show u = Value.bool y from rx); exact PySem.W.kia_one PySem.W.kitx_bool I.kIn True.intro e (fun z => nomatch z) h
  | int i => obtain ⟨t, q⟩ := (show ∃ t, u = Value.int i t from rx); cases q; exact PySem.W.kia_one PySem.W.kitx_int I.kIn True.intro e (fun z => nomatch z) h
  | str y => obtain ⟨t, q⟩ := (show ∃ t, u = Value.str y t from rx); cases q; exact PySem.W.kia_one PySem.W.kitx_str I.kIn True.intro e (fun z => nomatch z) h
  | flt y => obtain ⟨t, q⟩ := (show ∃ t, u = Value.float y t from rx); cases q; exact PySem.W.kia_one PySem.W.kitx_float I.kIn True.intro e (fun z => nomatch z) h
  | @lst a xs ea =>
    cases (show u = Value.ref a from rx)
    obtain ⟨_, _, n, _, h1⟩ := (show ObjOk X.prog X.w H s.heap a (.lst xs) from I.hok a _ ea)
    exact PySem.W.kia_one PySem.W.kitx_list I.kIn ⟨_, h1, rfl⟩ e (fun z => nomatch z) h
  | @frz a ob xs ea =>
    cases (show u = Value.ref a from rx)
    obtain ⟨_, _, _, n, _, h1⟩ := (show ObjOk X.prog X.w H s.heap a (.frz ob (.lst xs)) from I.hok a _ ea)
    exact PySem.W.kia_one PySem.W.kitx_list I.kIn ⟨_, h1, rfl⟩ e (fun z => nomatch z) h
  | @tup a xs ea =>
    cases (show u = Value.ref a from rx)
    obtain ⟨_, _, _, p⟩ := (show ObjOk X.prog X.w H s.heap a (.tup xs) from I.hok a _ ea)
    obtain ⟨o, h1, h2, _⟩ := p
    exact PySem.W.kia_one PySem.W.kitx_tuple I.kIn ⟨o, h1, h2⟩ e (fun z => nomatch z) h
  | @dK a kvs ea =>
    cases (show u = Value.ref a from rx)
    obtain ⟨_, _, vs, _, p⟩ := (show ObjOk X.prog X.w H s.heap a (.dK kvs) from I.hok a _ ea)
    obtain ⟨o, es, ep, h1, h2, _⟩ := p
    exact PySem.W.kia_one PySem.W.kitx_dict I.kIn ⟨o, h1, h2.1⟩ e (fun z => nomatch z) h
  | @dT a kvs ea =>
    cases (show u = Value.ref a from rx)
    obtain ⟨_, _, xs, _, o, es, ep, h1, h2, _⟩ := (show ObjOk X.prog X.w H s.heap a (.dT kvs) from I.hok a _ ea)
    exact PySem.W.kia_one PySem.W.kitx_dict I.kIn ⟨o, h1, h2.1⟩ e (fun z => nomatch z) h
  | @ins a C dx fs ea cl ha hn htk hm =>
    cases (show u = Value.ref a from rx)
    obtain ⟨mA, O, _⟩ := ins_get I.hok ea
    obtain ⟨od, J, _⟩ := O.look
    exact PySem.W.kia_one (PySem.W.kitx_own (cl.get _) cl.hd ha hn htk hm) I.kIn J e (fun z => nomatch z) h
end
end L2

namespace L2
open PySem PySem.Spec PyProof.Rows

/-! ### room -/
structure Room (k : Nat) (A : Around) : Prop where
  hd : A.handled = none
  dp : A.depth + 3 * k + 5 < recursionLimit
  un : A.units + 16 * k + 200 < cLine
theorem Room.mono {j k : Nat} {A : Around} (r : Room k A) (h : j ≤ k) : Room j A := ⟨r.hd, by have := r.dp; omega, by have := r.un; omega⟩
theorem Room.deeper {k : Nat} {A : Around} (r : Room (k + 1) A) (env : Env) : Room k (A.deeper env) :=
  ⟨r.hd, by have := r.dp; show A.depth + 1 + 3 * k + 5 < _; omega, by have := r.un; show A.units + 3 + 16 * k + 200 < _; omega⟩
theorem Room.in1 {k : Nat} {A : Around} (r : Room (k + 1) A) : Room k A.in1 :=
  ⟨r.hd, by have := r.dp; show A.depth + 3 * k + 5 < _; omega, by have := r.un; show A.units + 1 + 16 * k + 200 < _; omega⟩
theorem make_depth {A : Around} {C : Addr} {us : List Value} {kw : List (Str × Value)} : (A.under (.builtin "type.__call__" ⟨.ref C :: us, kw⟩)).depth = A.depth + 1 := by
  first | rfl | simp [Around.under, Code.weight, Code.isCreation, Code.isGuard, Code.isCaller, Code.frames, Code.isFrame, guardIds]
theorem make_units {A : Around} {C : Addr} {us : List Value} {kw : List (Str × Value)} : (A.under (.builtin "type.__call__" ⟨.ref C :: us, kw⟩)).units = A.units + 1 := by
  first | rfl | simp [Around.under, Code.cUnits, Code.frames, Code.isFrame]
theorem Room.make {k : Nat} {A : Around} (r : Room (k + 1) A) (C : Addr) (us : List Value) (kw : List (Str × Value)) : Room k (A.under (.builtin "type.__call__" ⟨.ref C :: us, kw⟩)) :=
  ⟨r.hd, by have := r.dp; rw [make_depth]; omega, by have := r.un; rw [make_units]; omega⟩
theorem Room.depth {k : Nat} {A : Around} (r : Room k A) : A.depth < recursionLimit := by have := r.dp; omega
theorem Room.units {k : Nat} {A : Around} (r : Room k A) : A.units + 64 < cLine := by have := r.un; omega
/-! ### argument lists and displays -/
def tNil : TA := fun _ H Q => Q [] H
def tCons (ta : TE) (tr : TA) : TA := fun σ H Q => ta σ H fun x H1 => tr σ H1 fun xs H2 => Q (x :: xs) H2
section
variable {X : Cx} {e : Expr} {es : List Expr} {te : TE} {t : TA} {pos : Pos}
theorem pa_nil : PA X [] tNil := fun _ _ _ _ H Q I h => Calls.spliced_nil ⟨[], H, I, .nil, h⟩
theorem pa_cons (ha : PE X e te) (hr : PA X es t) (hs : starEach (e :: es) X.env = (false, eval e X.env) :: starEach es X.env := by rfl) : PA X (e :: es) (tCons te t) := by
  intro pos pins s σ H Q I h
  rw [hs]
  show wpAny _ _ (spliced ((false, eval e X.env) :: backTo pos (starEach es X.env))) _ _ s
  refine Calls.spliced_cons (thn (ha pins s σ H _ I h) fun u s1 ⟨x, H1, I1, r1, q1⟩ => ?_)
  exact thn (hr pos pins s1 σ H1 _ I1 q1) fun us s2 ⟨xs, H2, I2, r2, q2⟩ => ⟨x :: xs, H2, I2, .cons r1 r2, q2⟩

/-- a tuple, a list of written items -/
def tTup (t : TA) : TE := fun σ H Q => t σ H fun xs H1 => xs.length ≤ sizeLine ∧ ∀ p, H1 p = none → Q (.ref p) (upd H1 p (.tup xs))
def tLst (t : TA) : TE := fun σ H Q => t σ H fun xs H1 => xs.length ≤ sizeLine ∧ ∀ p, H1 p = none → Q (.ref p) (upd H1 p (.lst xs))
theorem pe_tup {x1} (h : PA X es t) : PE X (.Tuple es x1 pos) (tTup t) := by
  intro pins s σ H Q I hq
  refine wpAny_Tuple_spliced (thn (h pos pins s σ H _ I hq) fun us s1 ⟨xs, H1, I1, r, z, q⟩ => ⟨by rw [← r.length]; exact z, ?_⟩)
  have hf : H1 s1.heap.objs.size = none := I1.hok.fresh (Nat.le_refl _)
  refine ⟨.ref s1.heap.objs.size, upd H1 s1.heap.objs.size (.tup xs), I1.laid (t' := s1.toks) (fun b u e => Heap.get?_push_of_some _ e) (Nat.le_refl _) ?_, rfl, q _ hf⟩
  exact ⟨z, us, r, ⟨_, Heap.get?_push_size _ rfl, rfl, _, rfl⟩⟩
theorem pe_lst (h : PA X es t) : PE X (.List es pos) (tLst t) := by
  intro pins s σ H Q I hq
  refine wpAny_List_spliced (thn (h pos pins s σ H _ I hq) fun us s1 ⟨xs, H1, I1, r, z, q⟩ => ⟨by rw [← r.length]; exact z, ?_⟩)
  have hf : H1 s1.heap.objs.size = none := I1.hok.fresh (Nat.le_refl _)
  refine ⟨.ref s1.heap.objs.size, upd H1 s1.heap.objs.size (.lst xs), I1.laid (t' := s1.toks) (fun b u e => Heap.get?_push_of_some _ e) (Nat.le_refl _) ?_, rfl, q _ hf⟩
  exact ⟨z, us, 0, r, Heap.get?_push_size _ rfl⟩
end

/-! ### what a def promises -/
/-- a def's promise: the bound arguments in the parameters' order, the heap, the wanted end, the wanted exception -/
abbrev Sp := List V → Hp → VK → XK → Prop
/-- how an exception lies behind a call (file 08 gives it): the callers' frames, abstract heap and state ahead of the call, the wish, the exception, the state -/
abbrev CXT := List Env → Hp → Shared → XK → Value → Shared → Prop

/-- the state at a call -/
structure Env0 (P : Program) (w : World) (K : PySem.W.Frag) (mg : Str → Option Value) (base : Heap) (A : Around) (outer : List Env) (s : Shared) (H : Hp) : Prop where
  frames : A.frames = some outer
  mod : Mod K mg base
  bs : ∀ b o, base.get? b = some o → s.heap.get? b = some o ∧ H b = none
  bsz : base.objs.size ≤ s.heap.objs.size
  funs : s.heap.FunFrames base outer
  frf : ∀ b ∈ frs outer, H b = none
  hok : HOk P w H s.heap
  bare : AllBare s.gens
/-- a call's end -/
def CE (outer : List Env) (P : Program) (w : World) (H : Hp) (s : Shared) (Q : VK) (u : Value) (s' : Shared) : Prop :=
  ∃ v H', s'.os = s.os ∧ AllBare s'.gens ∧ Un (frs outer) [] H H' s.heap s'.heap ∧ HOk P w H' s'.heap ∧ RelV v u ∧ Q v H'
def CR (CX : CXT) (outer : List Env) (P : Program) (w : World) (H : Hp) (s : Shared) (Q : VK) (E : XK) (r : Result) (s' : Shared) : Prop :=
  match r with
  | .ok (.ret u) => CE outer P w H s Q u s'
  | .ok _ => False
  | .error e => CX outer H s E e s'
structure FnOk (P : Program) (w : World) (K : PySem.W.Frag) (mg : Str → Option Value) (base : Heap) (CX : CXT) (k : Nat) (f : Addr) (fd : FuncData) (ps : List Str) (sp : Sp) : Prop where
  len : ∀ vs H Q E, sp vs H Q E → vs.length = ps.length
  run : ∀ (A : Around) (outer : List Env) (s : Shared) (H : Hp) (args : Args) (us : List Value) (vs : List V) (Q : VK) (E : XK), Room k A → Env0 P w K mg base A outer s H → BindsTo s fd args (ps.zip us) → Vals vs us → sp vs H Q E →
    codeAny (model P w) A (.call (.ref f) args) (CR CX outer P w H s Q E) s
theorem FnOk.mono {P : Program} {w : World} {K : PySem.W.Frag} {mg : Str → Option Value} {base : Heap} {CX : CXT} {j k : Nat} {f : Addr} {fd : FuncData} {ps : List Str} {sp : Sp} (F : FnOk P w K mg base CX j f fd ps sp) (h : j ≤ k) :
    FnOk P w K mg base CX k f fd ps sp := ⟨F.len, fun A outer s H args us vs Q E hr => F.run A outer s H args us vs Q E (hr.mono h)⟩
/-- a weaker promise -/
theorem FnOk.imp {P : Program} {w : World} {K : PySem.W.Frag} {mg : Str → Option Value} {base : Heap} {CX : CXT} {k : Nat} {f : Addr} {fd : FuncData} {ps : List Str} {sp sp' : Sp} (F : FnOk P w K mg base CX k f fd ps sp)
    (h : ∀ vs H Q E, sp' vs H Q E → sp vs H Q E) : FnOk P w K mg base CX k f fd ps sp' :=
  ⟨fun vs H Q E q => F.len vs H Q E (h _ _ _ _ q), fun A outer s H args us vs Q E hr he hb hv hs => F.run A outer s H args us vs Q E hr he hb hv (h _ _ _ _ hs)⟩

theorem Env0.make {P : Program} {w : World} {K : PySem.W.Frag} {mg : Str → Option Value} {base : Heap} {A : Around} {outer : List Env} {s : Shared} {H : Hp} (e : Env0 P w K mg base A outer s H) (C : Addr) (us : List Value) (kw : List (Str × Value)) :
    Env0 P w K mg base (A.under (.builtin "type.__call__" ⟨.ref C :: us, kw⟩)) outer s H := ⟨by first | exact e.frames | (simpa [Around.under, Code.envs, Code.isFrame, pushEnvs] using e.frames), e.mod, e.bs, e.bsz, e.funs, e.frf, e.hok, e.bare⟩
theorem Env0.in1 {P : Program} {w : World} {K : PySem.W.Frag} {mg : Str → Option Value} {base : Heap} {A : Around} {outer : List Env} {s : Shared} {H : Hp} (e : Env0 P w K mg base A outer s H) :
    Env0 P w K mg base A.in1 outer s H := ⟨e.frames, e.mod, e.bs, e.bsz, e.funs, e.frf, e.hok, e.bare⟩

section
variable {X : Cx} {pins : List (Addr × Obj)} {σ : St} {H : Hp} {s s' : Shared}
/-- from a body: what a callee wants -/
theorem Inv.env0 (I : Inv X pins σ H s) : Env0 X.prog X.w X.K X.mg X.base X.A X.stack s H :=
  ⟨I.ok.frames, I.ok.mod, I.bs, Nat.le_trans I.ok.bsz I.sz, I.stack, I.stkFree, I.hok, I.bare⟩
/-- behind a call -/
theorem Inv.after {Q : VK} {u : Value} (I : Inv X pins σ H s) (h : CE X.stack X.prog X.w H s Q u s') : EP X pins σ Q u s' := by
  obtain ⟨v, H', os, bare, un, hok, r, q⟩ := h
  obtain ⟨hh, g, d, t, os'⟩ := s'
  obtain rfl : os' = s.os := os
  exact ⟨v, H', I.call (h' := hh) (g' := g) (d' := d) (t' := t) (ch := []) un hok bare (fun b z => absurd z (by simp)), r, q⟩
end

/-! ### calls -/
/-- f(..): the written arguments, then the defaults dvs; E: what is wanted of an exception -/
def tCall (sp : Sp) (dvs : List V) (E : XK) (t : TA) : TE := fun σ H Q => t σ H fun vs H1 => sp (vs ++ dvs) H1 Q E
/-- o.m(..) of an instance of the class at C -/
def tMeth (C : Addr) (m : Str) (sp : Sp) (dvs : List V) (E : XK) (ta : TE) (t : TA) : TE := fun σ H Q => ta σ H fun x H1 => ∃ a dx fs, x = .ref a ∧ H1 a = some (.ins C dx fs) ∧ fs.lookup m = none ∧
  t σ H1 fun vs H2 => sp (x :: (vs ++ dvs)) H2 Q E
/-- C(..): a new instance and its dict, then __init__ -/
def tMake (C : Addr) (sp : Sp) (dvs : List V) (E : XK) (t : TA) : TE := fun σ H Q => t σ H fun vs H1 => ∀ x dx, H1 x = none → H1 dx = none → dx ≠ x →
  sp (.ref x :: (vs ++ dvs)) (upd (upd H1 dx (.own x)) x (.ins C dx [])) (fun v H2 => v = .non ∧ Q (.ref x) H2) E

/-- how the parameters are bound: us the positional arguments, kw the keywords' values by name, ds the defaults that fill up -/
def Binds (K : PySem.W.Frag) (fd : FuncData) (ps : List Str) (ds : List Value) : Prop :=
  ∀ (s : Shared) (us : List Value), K.In s.heap → (us ++ ds).length = ps.length → BindsTo s fd ⟨us, []⟩ (ps.zip (us ++ ds))
/-- every parameter is given -/
theorem Binds.all {K : PySem.W.Frag} {fd : FuncData} {ps : List Str} (h : ∀ us : List Value, us.length = ps.length → bindArgs fd ⟨us, []⟩ = pure (ps.zip us)) : Binds K fd ps [] := fun s us _ hl => by
  rw [List.append_nil] at hl ⊢
  exact .of_eq (h us hl)

/-- an exception of a callee reaches what this body wants of exceptions -/
def Passes (CX : CXT) (X : Cx) (E : XK) : Prop := ∀ (pins : List (Addr × Obj)) (σ : St) (H : Hp) (s : Shared) (e : Value) (s' : Shared), Inv X pins σ H s → CX X.stack H s E e s' → X.xe e s'

section
variable {X : Cx} {CX : CXT} {k : Nat} {f C : Addr} {fd : FuncData} {ps : List Str} {sp : Sp} {dvs : List V} {ds : List Value} {E : XK} {x m : Str} {p pos apos : Pos} {e o : Expr} {es : List Expr} {ta : TE} {t : TA}

/-- the callee runs -/
theorem run_fn {pins : List (Addr × Obj)} {σ : St} {H : Hp} {s : Shared} {Q : VK} {us : List Value} {vs : List V} (F : FnOk X.prog X.w X.K X.mg X.base CX k f fd ps sp) (hr : Room k X.A) (hb : Binds X.K fd ps ds) (hd : Vals dvs ds) (hx : Passes CX X E)
    (I : Inv X pins σ H s) (r : Vals vs us) (h : sp (vs ++ dvs) H Q E) : wpAny (model X.prog X.w) X.A (call (.ref f) us) (EP X pins σ Q) X.xe s := by
  have r2 : Vals (vs ++ dvs) (us ++ ds) := r.append hd
  have hl : (us ++ ds).length = ps.length := by rw [← r2.length]; exact F.len _ _ _ _ h
  refine wpAny_call (codeAny_mono (F.run X.A X.stack s H ⟨us, []⟩ (us ++ ds) (vs ++ dvs) Q E hr I.env0 (hb s us I.kIn hl) r2 h) fun r s' hq => ?_)
  cases r with
  | error e => exact hx pins σ H s e s' I hq
  | ok fl =>
    cases fl with
    | ret u => exact I.after hq
    | next => exact False.elim hq
    | brk => exact False.elim hq
    | cont => exact False.elim hq

theorem pe_call (F : FnOk X.prog X.w X.K X.mg X.base CX k f fd ps sp) (hr : Room k X.A) (hg : Gl X x) (hm : X.mg x = some (.ref f)) (hk : PySem.W.keepIn X.K (.ref f) = true) (hb : Binds X.K fd ps ds) (hd : Vals dvs ds) (hx : Passes CX X E)
    (ha : PA X (e :: es) t) (hdb : (x == ("__debug__" : Str)) = false := by decide) (he : starEach (e :: es) X.env = (false, eval e X.env) :: starEach es X.env := by rfl) (hpl : (backTo pos (starEach es X.env)).any (·.1) = false := by rfl) :
    PE X (.Call (.Name x p) (e :: es) [] pos) (tCall sp dvs E t) := by
  intro pins s σ H Q I h
  refine wpAny_Call_Name_kw (ld_glob I hg hm ?_ hdb)
  refine PySem.W.callWith_K (h₀ := X.base) I.ok.mod.kin hk (thn (ha pos pins s σ H _ I h) fun us s1 ⟨vs, H1, I1, r, q⟩ => ⟨I1.kIn, ?_⟩) he hpl
  exact run_fn F hr hb hd hx I1 r q
theorem pe_call0 (F : FnOk X.prog X.w X.K X.mg X.base CX k f fd ps sp) (hr : Room k X.A) (hg : Gl X x) (hm : X.mg x = some (.ref f)) (hk : PySem.W.keepIn X.K (.ref f) = true) (hb : Binds X.K fd ps ds) (hd : Vals dvs ds) (hx : Passes CX X E)
    (hdb : (x == ("__debug__" : Str)) = false := by decide) : PE X (.Call (.Name x p) [] [] pos) (tCall sp dvs E tNil) := by
  intro pins s σ H Q I h
  refine wpAny_Call_Name_kw (ld_glob I hg hm ?_ hdb)
  exact PySem.W.callWith_K0 I.kIn hk (run_fn (us := []) F hr hb hd hx I .nil h)

/-- o.m() -/
theorem pe_meth0 {pl : Sem Bool} (he : PE X o ta) (c : Cls X.K C) (hm : Meth X.K C m f) (F : FnOk X.prog X.w X.K X.mg X.base CX k f fd ps sp) (hr : Room k X.A) (hb : Binds X.K fd ps ds) (hd : Vals dvs ds) (hx : Passes CX X E)
    (ht : eval (.Call (.Attribute o m apos) [] [] pos) X.env = (do
      let ov ← eval o X.env
      standAt apos.atName
      let (f, first) ← holding [ov] (getMethod ov m pl)
      callWith pos f first (backTo pos (starEach [] X.env)) (backToKw pos (keywordEach [] X.env))) := by rfl) :
    PE X (.Call (.Attribute o m apos) [] [] pos) (tMeth C m sp dvs E ta tNil) := by
  intro pins s σ H Q I h
  refine PySem.W.methodCall_KW (pl := pl) (thn (he pins s σ H _ I h) fun u s1 ⟨x, H1, I1, rx, a, dx, fs, ex, ea, l, q⟩ => ?_) ht
  subst ex
  obtain rfl : u = Value.ref a := rx
  refine getmeth_ok I1 ea c hm l ?_
  exact PySem.W.callWith_K0 (first := [.ref a]) I1.kIn hm.kp (run_fn (us := [.ref a]) (vs := [.ref a]) F hr hb hd hx I1 (.cons rfl .nil) q)

/-- what a class must have to be made -/
structure Mk (K : PySem.W.Frag) (C f : Addr) : Prop where
  makes : PySem.W.makesIn K C = true
  init : PySem.W.findIn K (.ref C) "__init__" = some (some (.ref f))
  fn : PySem.W.isFn K (.ref f) = true
  kp : PySem.W.keepIn K (.ref C) = true

theorem run_make {pins : List (Addr × Obj)} {σ : St} {H : Hp} {s : Shared} {Q : VK} {us : List Value} {vs : List V} (M : Mk X.K C f) (F : FnOk X.prog X.w X.K X.mg X.base CX k f fd ps sp) (hr : Room (k + 1) X.A) (hb : Binds X.K fd ps ds) (hd : Vals dvs ds)
    (hx : Passes CX X E) (I : Inv X pins σ H s) (r : Vals vs us)
    (h : ∀ x dx, H x = none → H dx = none → dx ≠ x → sp (.ref x :: (vs ++ dvs)) (upd (upd H dx (.own x)) x (.ins C dx [])) (fun v H2 => v = .non ∧ Q (.ref x) H2) E) :
    wpAny (model X.prog X.w) X.A (call (.ref C) us) (EP X pins σ Q) X.xe s := by
  have hq := h (s.heap.objs.size + 1) s.heap.objs.size (I.hok.fresh (Nat.le_succ _)) (I.hok.fresh (Nat.le_refl _)) (Nat.ne_of_lt (Nat.lt_succ_self _))
  have I2 := Inv.made (C := C) I
  have r2 : Vals (V.ref (s.heap.objs.size + 1) :: (vs ++ dvs)) (Value.ref (s.heap.objs.size + 1) :: (us ++ ds)) := .cons rfl (r.append hd)
  have hl : (Value.ref (s.heap.objs.size + 1) :: us ++ ds).length = ps.length := by
    have e := r2.length
    rw [F.len _ _ _ _ hq] at e
    exact e.symm
  refine wpAny_call (make_map (f := f) I.kIn M.makes M.init (beq_iff_eq.mp M.fn) (codeAny_mono (F.run _ X.stack _ _ ⟨Value.ref (s.heap.objs.size + 1) :: us, []⟩ (Value.ref (s.heap.objs.size + 1) :: (us ++ ds)) _ _ E (hr.make C us [])
    (I2.env0.make C us []) (hb _ (Value.ref (s.heap.objs.size + 1) :: us) I2.kIn hl) r2 hq) fun r s' hq' => ?_))
  cases r with
  | error e => exact hx pins σ _ _ e s' I2 hq'
  | ok fl =>
    cases fl with
    | ret u =>
      obtain ⟨v, H', I3, rv, ev, q3⟩ := I2.after hq'
      subst ev
      exact ⟨rv, ⟨V.ref (s.heap.objs.size + 1), H', I3, rfl, q3⟩⟩
    | next => exact False.elim hq'
    | brk => exact False.elim hq'
    | cont => exact False.elim hq'
theorem pe_make (M : Mk X.K C f) (F : FnOk X.prog X.w X.K X.mg X.base CX k f fd ps sp) (hr : Room (k + 1) X.A) (hg : Gl X x) (hm : X.mg x = some (.ref C)) (hb : Binds X.K fd ps ds) (hd : Vals dvs ds) (hx : Passes CX X E)
    (ha : PA X (e :: es) t) (hdb : (x == ("__debug__" : Str)) = false := by decide) (he : starEach (e :: es) X.env = (false, eval e X.env) :: starEach es X.env := by rfl) (hpl : (backTo pos (starEach es X.env)).any (·.1) = false := by rfl) :
    PE X (.Call (.Name x p) (e :: es) [] pos) (tMake C sp dvs E t) := by
  intro pins s σ H Q I h
  refine wpAny_Call_Name_kw (ld_glob I hg hm ?_ hdb)
  refine PySem.W.callWith_K (h₀ := X.base) I.ok.mod.kin M.kp (thn (ha pos pins s σ H _ I h) fun us s1 ⟨vs, H1, I1, r, q⟩ => ⟨I1.kIn, ?_⟩) he hpl
  exact run_make M F hr hb hd hx I1 r q
end

/-! ### keywords -/
/-- the values of the keywords, from the left -/
def PK (X : Cx) (kws : List Keyword) (t : TA) : Prop :=
  ∀ (pos : Pos) (pins : List (Addr × Obj)) (s : Shared) (σ : St) (H : Hp) (Q : List V → Hp → Prop), Inv X pins σ H s → t σ H Q → wpAny (model X.prog X.w) X.A (evalAll ((backToKw pos (keywordEach kws X.env)).map (·.2))) (AP X pins σ Q) X.xe s
section
variable {X : Cx} {CX : CXT} {k : Nat} {f C : Addr} {fd : FuncData} {ps ks : List Str} {sp : Sp} {E : XK} {x m : Str} {p pos apos kpos : Pos} {e o : Expr} {es : List Expr} {kws : List Keyword} {te ta : TE} {t tk : TA} {nm : Option Str}
theorem pk_nil : PK X [] tNil := fun _ _ _ _ H Q I h => wpAny_evalAll_nil ⟨[], H, I, .nil, h⟩
theorem pk_cons (ha : PE X e te) (hr : PK X kws t) : PK X (⟨nm, e, kpos⟩ :: kws) (tCons te t) := by
  intro pos pins s σ H Q I h
  show wpAny _ _ (evalAll ((do let v ← eval e X.env; standAt pos; pure v) :: (backToKw pos (keywordEach kws X.env)).map (·.2))) _ _ s
  refine wpAny_evalAll_cons (wpAny_bind (thn (ha pins s σ H _ I h) fun u s1 ⟨x, H1, I1, r1, q1⟩ => wpAny_bind (wpAny_standAt (wpAny_pure ?_))))
  exact thn (hr pos pins s1 σ H1 _ I1 q1) fun us s2 ⟨xs, H2, I2, r2, q2⟩ => ⟨x :: xs, H2, I2, .cons r1 r2, q2⟩

variable {g : List Value → List Value → List Value} {gV : List V → List V → List V}
end

/-! ### a def's body keeps its promise -/
/-- names: the parameters first -/
structure FnScope (N P : List Str) (sc : Scope) : Prop where
  kind : sc.kind = .function
  co : sc.isCoroutine = false
  gen : sc.isGenerator = false
  nd : N.Nodup
  pre : N.take P.length = P
  par : ∀ x ∈ P, sc.names.lookup x = some .local ∨ sc.names.lookup x = some .cell
  nofree : ∀ y ∈ sc.names, y.2 ≠ .free

theorem bindL_out {kindOf : Str → Option NameKind} {x : Str} : ∀ {binds : List (Str × Value)} {m : Str → Option Value}, (∀ v, (x, v) ∉ binds) → bindL kindOf binds m x = m x
  | [], _, _ => rfl
  | (n, v) :: r, m, h => by
    unfold bindL
    rw [bindL_out fun w hw => h w (List.mem_cons_of_mem _ hw)]
    split
    · have : x ≠ n := by rintro rfl; exact h v List.mem_cons_self
      simp [this]
    · rfl
theorem bindC_out {kindOf : Str → Option NameKind} {x : Str} : ∀ {binds : List (Str × Value)} {m : Str → Option Value}, (∀ v, (x, v) ∉ binds) → bindC kindOf binds m x = m x
  | [], _, _ => rfl
  | (n, v) :: r, m, h => by
    unfold bindC
    rw [bindC_out fun w hw => h w (List.mem_cons_of_mem _ hw)]
    split
    · rfl
    · have : x ≠ n := by rintro rfl; exact h v List.mem_cons_self
      simp [this]
theorem bindL_get {kindOf : Str → Option NameKind} {x : Str} {v : Value} : ∀ {P : List Str} {vs : List Value} {i : Nat} {m : Str → Option Value}, P.Nodup → P[i]? = some x → vs[i]? = some v → kindOf x = some .local →
    bindL kindOf (P.zip vs) m x = some v
  | [], _, _, _, _, h, _, _ => by simp at h
  | _ :: _, [], _, _, _, _, h, _ => by simp at h
  | p :: P, w :: vs, 0, m, nd, h1, h2, hk => by
    simp at h1 h2; subst h1; subst h2
    show bindL kindOf ((p, w) :: P.zip vs) m p = _
    unfold bindL
    rw [bindL_out fun v hv => (List.nodup_cons.mp nd).1 (List.of_mem_zip hv).1, if_pos hk]
    simp
  | p :: P, w :: vs, i + 1, m, nd, h1, h2, hk => by
    show bindL kindOf ((p, w) :: P.zip vs) m x = _
    unfold bindL
    exact bindL_get (i := i) (List.nodup_cons.mp nd).2 (by simpa using h1) (by simpa using h2) hk
theorem bindC_get {kindOf : Str → Option NameKind} {x : Str} {v : Value} : ∀ {P : List Str} {vs : List Value} {i : Nat} {m : Str → Option Value}, P.Nodup → P[i]? = some x → vs[i]? = some v → kindOf x ≠ some .local →
    bindC kindOf (P.zip vs) m x = some v
  | [], _, _, _, _, h, _, _ => by simp at h
  | _ :: _, [], _, _, _, _, h, _ => by simp at h
  | p :: P, w :: vs, 0, m, nd, h1, h2, hk => by
    simp at h1 h2; subst h1; subst h2
    show bindC kindOf ((p, w) :: P.zip vs) m p = _
    unfold bindC
    rw [bindC_out fun v hv => (List.nodup_cons.mp nd).1 (List.of_mem_zip hv).1, if_neg hk]
    simp
  | p :: P, w :: vs, i + 1, m, nd, h1, h2, hk => by
    show bindC kindOf ((p, w) :: P.zip vs) m x = _
    unfold bindC
    exact bindC_get (i := i) (List.nodup_cons.mp nd).2 (by simpa using h1) (by simpa using h2) hk

/-- the names' values at the entry -/
def start (N : List Str) (vs : List V) : St := vs.map some ++ List.replicate (N.length - vs.length) none

/-- the context of a def's body, at its entry; an exception leaves the frame, then lies as CX says -/
def cxOf (CX : CXT) (P : Program) (w : World) (K : PySem.W.Frag) (mg : Str → Option Value) (base : Heap) (N : List Str) (qual : Str) (scope : Scope) (f : Addr) (cd : Value) (A : Around) (outer : List Env) (s : Shared) (H : Hp) (E : XK) : Cx where
  prog := P
  w := w
  K := K
  mg := mg
  base := base
  A := A.deeper (envOfC qual scope s.heap.objs.size f cd)
  N := N
  s₀ := s
  H₀ := H
  env := envOfC qual scope s.heap.objs.size f cd
  outer := outer
  stack := envOfC qual scope s.heap.objs.size f cd :: outer
  ex := []
  calm := true
  fn := fun _ => true
  pn := []
  xe := fun e s' => wpAny (model P w) (A.deeper (envOfC qual scope s.heap.objs.size f cd)) (leaving (envOfC qual scope s.heap.objs.size f cd) e) (fun _ s'' => CX outer H s E e s'') (fun e' s'' => CX outer H s E e' s'') s'

theorem cell_has {sc : Scope} {n : Nat} {x : Str} (h : sc.names.lookup x = some .cell) : ∃ c, (cellsFrom n sc.names []).lookup x = some c := by
  have q := PySem.W.cellsFrom_some sc.names n [] (.inl h)
  exact Option.isSome_iff_exists.mp q

theorem inv_start {CX : CXT} {P : Program} {w : World} {K : PySem.W.Frag} {mg : Str → Option Value} {base : Heap} {N ps : List Str} {qual : Str} {scope : Scope} {f : Addr} {cd : Value} {A : Around} {outer : List Env} {s s1 : Shared} {H : Hp} {E : XK} {us : List Value} {vs : List V}
    (S : FnScope N ps scope) (hd : A.handled = none) (e0 : Env0 P w K mg base A outer s H) (hl : vs.length = ps.length) (r : Vals vs us)
    (x : InCallC s s.heap.objs.size (bindL (envOfC qual scope s.heap.objs.size f cd).kindOf (ps.zip us) fun _ => none) (cellsFrom (s.heap.objs.size + 1) scope.names []) (bindC (envOfC qual scope s.heap.objs.size f cd).kindOf (ps.zip us) fun _ => none) s1) :
    Inv (cxOf CX P w K mg base N qual scope f cd A outer s H E) [] (start N vs) H s1 := by
  have hpl : ps.length ≤ N.length := by have := congrArg List.length S.pre; rw [List.length_take] at this; omega
  obtain ⟨h1, tk, rfl, hk⟩ := x.done
  have noA : ∀ b : Addr, b ∉ (cxOf CX P w K mg base N qual scope f cd A outer s H E).ex := fun b z => absurd (show b ∈ ([] : List Addr) from z) (by simp)
  refine ⟨⟨e0.mod, S.kind, rfl, rfl, Nat.le_refl _, fun y z c h1 h2 => ?_, fun y hy => ?_, fun y c _ h => ?_, fun _ => hd, Around.frames_deeper e0.frames, .inr ⟨rfl, rfl⟩, fun b z => absurd z (noA b), e0.bs, e0.bsz, fun b _ _ => noA b, fun b z => absurd z (noA b), e0.funs, e0.frf⟩,
    rfl, e0.bare, Un.kept hk, ⟨_, x.toInCall.ns, fun i y v h1 h2 h3 => ?_⟩, fun y c h => ⟨_, x.cell y c h⟩, e0.hok.fresh (Nat.le_refl _), fun y c h => ?_, fun p hp => absurd (show p ∈ ([] : List (Addr × Obj)) from hp) (by simp), e0.hok.kept hk, ?_⟩
  · exact name_of_addr x.apart (PySem.mem_of_lookup h1) (PySem.mem_of_lookup h2)
  · have hy : scope.names.lookup y = some .cell ∨ scope.names.lookup y = some .free := hy
    rcases hy with hy | hy
    · exact cell_has hy
    · exact absurd rfl (S.nofree _ (PySem.mem_of_lookup hy))
  · exact Nat.le_of_lt (x.above y c (PySem.mem_of_lookup h))
  · have hi : i < vs.length := by
      unfold start at h2
      by_cases hi : i < vs.length
      · exact hi
      · rw [List.getElem?_append_right (by simpa using hi)] at h2
        rw [List.getElem?_replicate] at h2
        split at h2 <;> cases h2
    have ha : vs[i]? = some v := by
      unfold start at h2
      rw [List.getElem?_append_left (by simpa using hi), List.getElem?_map] at h2
      cases e : vs[i]? with
      | none => rw [e] at h2; cases h2
      | some a => rw [e] at h2; cases h2; rfl
    obtain ⟨u, hu, rv⟩ := r.get ha
    have hp : ps[i]? = some y := by
      rw [← S.pre, List.getElem?_take_of_lt (by omega)]; exact h1
    have ndP : ps.Nodup := by rw [← S.pre]; exact S.nd.sublist (List.take_sublist _ _)
    refine ⟨u, rv, ?_⟩
    rcases S.par y (List.mem_of_getElem? hp) with k | k
    · exact .inl ⟨k, bindL_get ndP hp hu k⟩
    · obtain ⟨c, e⟩ := cell_has (n := s.heap.objs.size + 1) k
      refine .inr ⟨.inl k, c, e, ?_⟩
      have q := x.cell y c e
      rw [bindC_get ndP hp hu (by show scope.names.lookup y ≠ _; rw [k]; decide)] at q
      exact q
  · exact e0.hok.fresh (Nat.le_of_lt (x.above y c (PySem.mem_of_lookup h)))
  · unfold start
    show _ = N.length
    rw [List.length_append, List.length_map, List.length_replicate]
    omega

/-- THE RULE: a def (or a method) of the text, by its body. The body's reading t is chosen for each entry; it is run at the parameters' values -/
theorem fn_of {CX : CXT} {P : Program} {w : World} {K : PySem.W.Frag} {mg : Str → Option Value} {base : Heap} {k : Nat} {f : Addr} {name qual : Str} {params : Arguments} {body : List Stmt} {scope : Scope} {dV kV doc pm cdv ct oc : Value} {an od : Option Addr}
    {osl : Array (Option Value)} {N ps : List Str} {sp : Sp} (lk : K.lookup f = some ⟨oc, od, .func (PySem.W.fnOf name qual params body scope dV kV doc pm an cdv ct), osl⟩) (hcd : PySem.W.codeIn K cdv qual = true) (S : FnScope N ps scope)
    (len : ∀ vs H Q E, sp vs H Q E → vs.length = ps.length)
    (hbody : ∀ (A : Around) (outer : List Env) (s : Shared) (H : Hp) (vs : List V) (Q : VK) (E : XK), Room k (A.deeper (envOfC qual scope s.heap.objs.size f cdv)) → sp vs H Q E →
      ∃ t, PSs (cxOf CX P w K mg base N qual scope f cdv A outer s H E) body t ∧ t { nx := fun _ H' => Q .non H', rt := Q } (start N vs) H) :
    FnOk P w K mg base CX (k + 1) f (PySem.W.fnOf name qual params body scope dV kV doc pm an cdv ct) ps sp := by
  refine ⟨len, fun A outer s H args us vs Q E hr e0 hb r hsp => ?_⟩
  have hl := len _ _ _ _ hsp
  have KX : K.In s.heap := e0.mod.kin.keeps fun b o e => (e0.bs b o e).1
  have lim : s.heap.NoLimit := e0.mod.nolimit.keeps fun b o e => (e0.bs b o e).1
  have hkind : ∀ y ∈ ps.zip us, scope.names.lookup y.1 = some .local ∨ (scope.names.lookup y.1 = some .cell ∧ ((cellsFrom (s.heap.objs.size + 1) scope.names []).lookup y.1).isSome = true) := fun ⟨n, v⟩ hy => by
    rcases S.par n (List.of_mem_zip hy).1 with q | q
    · exact .inl q
    · exact .inr ⟨q, PySem.W.cellsFrom_some _ _ _ (.inl q)⟩
  refine codeAny_call_function hr.depth (KX _ _ lk) rfl S.co S.gen rfl (PySem.W.codeRec_of KX hcd) (hb _ _ _ _ ?_)
  refine wpAny_newFunctionEnv_cells S.kind hkind fun env he s1 x => ?_
  subst he
  refine ⟨lim.keeps x.toInCall.keep, codeAny_func ?_⟩
  obtain ⟨t, ht, hq⟩ := hbody A outer s H vs Q E (hr.deeper _) hsp
  have I : Inv (cxOf CX P w K mg base N qual scope f cdv A outer s H E) [] (start N vs) H s1 := inv_start S hr.hd e0 hl r x
  refine wpAny_mono (ht [] s1 (start N vs) H _ I hq) (fun fl s' hs => ?_) fun e s' hs => hs
  have fin : ∀ {σ' : St} {H' : Hp} {v : V} {u : Value}, Inv (cxOf CX P w K mg base N qual scope f cdv A outer s H E) [] σ' H' s' → RelV v u → Q v H' → CE outer P w H s Q u s' :=
    fun {σ' H' v u} J rv q => ⟨v, H', J.os, J.bare, J.base, J.hok, rv, q⟩
  cases fl with
  | ret u =>
    obtain ⟨v, σ', H', J, rv, q⟩ := hs
    exact fin J rv q
  | next =>
    obtain ⟨σ', H', J, q⟩ := hs
    exact fin (v := V.non) (u := Value.none) J rfl q
  | brk =>
    obtain ⟨_, _, _, q⟩ := hs
    exact False.elim q
  | cont =>
    obtain ⟨_, _, _, q⟩ := hs
    exact False.elim q
end L2

namespace L2
open PySem PySem.Spec PyProof.Rows
section
variable {X : Cx} {x : Str} {p pos : Pos} {e : Expr} {es : List Expr} {t : TA} {id T : String} {r : List V → Hp → VK → Prop}

def tCB (r : List V → Hp → VK → Prop) (t : TA) : TE := fun σ H Q => t σ H fun vs H1 => r vs H1 Q
/-- f(e, ..), f a built-in function -/
theorem pe_callB (hc : CallR X (.builtin id) r) (hg : Gl X x) (hm : X.mg x = none) (hv : bootBuiltins x = some (.builtin id)) (ha : PA X (e :: es) t) (hn : x ≠ "__name__" := by decide) (hdb : (x == ("__debug__" : Str)) = false := by decide)
    (he : starEach (e :: es) X.env = (false, eval e X.env) :: starEach es X.env := by rfl) (hpl : (backTo pos (starEach es X.env)).any (·.1) = false := by rfl) : PE X (.Call (.Name x p) (e :: es) [] pos) (tCB r t) := by
  intro pins s σ H Q I h
  refine wpAny_Call_Name_kw (ld_blt I hg hm hv ?_ hn hdb)
  exact PyProof.Rows.callWith_builtin1 (thn (ha pos pins s σ H _ I h) fun us s1 ⟨vs, H1, I1, r1, q1⟩ => hc pins s1 σ H1 vs us Q I1 r1 q1) he hpl
/-- T(e, ..), T a built-in type -/
theorem pe_callTy (hc : CallR X (.type T) r) (hg : Gl X x) (hm : X.mg x = none) (hv : bootBuiltins x = some (.type T)) (ha : PA X (e :: es) t) (hn : x ≠ "__name__" := by decide) (hdb : (x == ("__debug__" : Str)) = false := by decide)
    (he : starEach (e :: es) X.env = (false, eval e X.env) :: starEach es X.env := by rfl) (hpl : (backTo pos (starEach es X.env)).any (·.1) = false := by rfl) : PE X (.Call (.Name x p) (e :: es) [] pos) (tCB r t) := by
  intro pins s σ H Q I h
  refine wpAny_Call_Name_kw (ld_blt I hg hm hv ?_ hn hdb)
  exact PyProof.Rows.callWith_type1 (thn (ha pos pins s σ H _ I h) fun us s1 ⟨vs, H1, I1, r1, q1⟩ => hc pins s1 σ H1 vs us Q I1 r1 q1) he hpl
end
end L2

namespace HT
open PySem PyProof.Rows

section
open PySem.SeqAt
open PySem.AutoSeq1 (wpAny_loadPart')
open PySem.MeetsSeq PySem.MeetsSeq2 PySem.MeetsSeq3

end

section
variable {prog : Program} {w : World} {A : Around} {E : Value → Shared → Prop} {s : Shared}

/-! ### t[a:b], not the whole -/
/-- a slice's bound as a place among n (d where it is left out) -/
def sIx (n d : Nat) : Option Int → Nat
  | none => d
  | some v => if v < 0 then (v + (n : Int)).toNat else min v.toNat n
theorem sIx_nat (n d k : Nat) : sIx n d (some (k : Int)) = min k n := by
  show (if (k : Int) < 0 then ((k : Int) + (n : Int)).toNat else min (k : Int).toNat n) = min k n
  rw [if_neg (by omega), Int.toNat_natCast]
end
end HT

namespace L2
open PySem PySem.Spec PyProof.Rows

/-! ### the parts of a slice -/
abbrev TO := St → Hp → (Option Int → Hp → Prop) → Prop
/-- a slice's part (left out, or an int) -/
def PO (X : Cx) (e : Option Expr) (t : TO) : Prop :=
  ∀ (pins : List (Addr × Obj)) (s : Shared) (σ : St) (H : Hp) (Q : Option Int → Hp → Prop), Inv X pins σ H s → t σ H Q →
    wpAny (model X.prog X.w) X.A (evalPart e X.env) (fun u s' => ∃ o H', Inv X pins σ H' s' ∧ IsPart u o ∧ Q o H') X.xe s
def tNoPart : TO := fun _ H Q => Q none H
def tPart (t : TE) : TO := fun σ H Q => t σ H fun x H1 => ∃ i, x = .int i ∧ Q (some i) H1

section
variable {X : Cx} {e : Expr} {te : TE} {lo hi : Option Expr} {tl th : TO} {pos p2 : Pos}

theorem po_none : PO X none tNoPart := by
  intro pins s σ H Q I h
  rw [evalPart_none]
  exact wpAny_pure ⟨none, H, I, .none, h⟩
theorem po_some (h : PE X e te) : PO X (some e) (tPart te) := by
  intro pins s σ H Q I hw
  rw [evalPart_some]
  refine thn (h pins s σ H _ I hw) fun u s1 ⟨x, H1, I1, r1, q1⟩ => ?_
  obtain ⟨i, rfl, q⟩ := q1
  obtain ⟨t, rfl⟩ := r1
  exact ⟨some i, H1, I1, .int i t, q⟩

/-- what a slice of a value is, by values: the slice object stands at sl -/
def SlR (X : Cx) (r : V → Option Int → Option Int → Hp → VK → Prop) : Prop :=
  ∀ (pins : List (Addr × Obj)) (s : Shared) (σ : St) (H : Hp) (x : V) (v vl vu : Value) (lo hi : Option Int) (sl : Addr) (Q : VK), Inv X pins σ H s → RelV x v → s.heap.IsSliceOf sl vl vu .none → IsPart vl lo → IsPart vu hi → r x lo hi H Q →
    ∃ T id, typeLookup (.type T) "__getitem__" = pure (some (.builtin id)) ∧ s.TypeIs v T ∧ wpAny (model X.prog X.w) X.A (getItem v (.ref sl)) (EP X pins σ Q) X.xe s
def tSl (r : V → Option Int → Option Int → Hp → VK → Prop) (te : TE) (tl th : TO) : TE := fun σ H Q => te σ H fun x H1 => tl σ H1 fun l H2 => th σ H2 fun u H3 => r x l u H3 Q
/-- a[lo:hi], any a -/
theorem pe_slice {r : V → Option Int → Option Int → Hp → VK → Prop} (hr : SlR X r) (he : PE X e te) (hl : PO X lo tl) (hu : PO X hi th) : PE X (.Subscript e (.Slice lo hi none p2) pos) (tSl r te tl th) := by
  intro pins s σ H Q I h
  refine Subscript_ (thn (he pins s σ H _ I h) fun v s1 ⟨x, H1, I1, r1, q1⟩ => ?_)
  refine wpAny_Slice (thn (hl pins s1 σ H1 _ I1 q1) fun vl s2 ⟨l, H2, I2, pl, q2⟩ => thn (hu pins s2 σ H2 _ I2 q2) fun vu s3 ⟨u, H3, I3, pu, q3⟩ => ?_)
  rw [evalPart_none]
  refine wpAny_pure ?_
  have I4 : Inv X pins σ H3 { s3 with heap := s3.heap.push { cls := .type "slice", data := .fields #[vl, vu, .none] } } := I3.kept (t' := s3.toks) fun b ob q => Heap.get?_push_of_some _ q
  obtain ⟨T, id, hT, ht, hg⟩ := hr pins { s3 with heap := s3.heap.push { cls := .type "slice", data := .fields #[vl, vu, .none] } } σ H3 x v vl vu l u s3.heap.objs.size Q I4 r1 (Heap.IsSliceOf.new ..) pl pu q3
  show wpAny (model X.prog X.w) X.A (subscriptTail e (.Slice lo hi none p2) v (.ref s3.heap.objs.size)) (EP X pins σ Q) X.xe { s3 with heap := s3.heap.push { cls := .type "slice", data := .fields #[vl, vu, .none] } }
  exact tail_any (ops := [.ref s3.heap.objs.size, v]) ht hT hg (by with_unfolding_all rfl)

/-- the items of xs[lo:hi] -/
def cutV (xs : List V) (lo hi : Option Int) : List V := (xs.drop (HT.sIx xs.length 0 lo)).take (HT.sIx xs.length xs.length hi - HT.sIx xs.length 0 lo)
theorem cutV_length (xs : List V) (lo hi : Option Int) : (cutV xs lo hi).length ≤ xs.length := by
  unfold cutV
  rw [List.length_take, List.length_drop]
  omega
end
end L2

namespace L2
open PySem PySem.Spec PyProof.Rows

/-! ### places -/
/-- the place that an index of any sign means -/
def ixN (n : Nat) (i : Int) : Option Nat := if 0 ≤ i then (if i < n then some i.toNat else none) else if -(n : Int) ≤ i then some (i + n).toNat else none
def atI {α : Type} (xs : List α) (i : Int) : Option α := (ixN xs.length i).bind fun j => xs[j]?
theorem ixN_seq {n : Nat} {i : Int} {j : Nat} (h : ixN n i = some j) : seqIndex? i n = some j ∧ j < n ∧ -(n : Int) ≤ i ∧ i < n := by
  unfold ixN at h
  by_cases h0 : 0 ≤ i
  · rw [if_pos h0] at h
    by_cases h1 : i < n
    · rw [if_pos h1] at h
      have e : i.toNat = j := Option.some.inj h
      exact ⟨by rw [seqIndex_of h0 h1, e], by omega, by omega, h1⟩
    · rw [if_neg h1] at h; cases h
  · rw [if_neg h0] at h
    by_cases h1 : -(n : Int) ≤ i
    · rw [if_pos h1] at h
      have e : (i + n).toNat = j := Option.some.inj h
      exact ⟨by rw [seqIndex_neg (by omega) h1, e], by omega, h1, by omega⟩
    · rw [if_neg h1] at h; cases h
theorem atI_get {α : Type} {xs : List α} {i : Int} {v : α} (h : atI xs i = some v) : ∃ j, seqIndex? i xs.length = some j ∧ xs[j]? = some v ∧ j < xs.length ∧ -(xs.length : Int) ≤ i ∧ i < xs.length := by
  unfold atI at h
  cases e : ixN xs.length i with
  | none => rw [e] at h; cases h
  | some j =>
    rw [e] at h
    obtain ⟨h1, h2, h3, h4⟩ := ixN_seq e
    exact ⟨j, h1, h, h2, h3, h4⟩
theorem atI_nat {α : Type} {xs : List α} {j : Nat} {v : α} (h : xs[j]? = some v) : atI xs (j : Int) = some v := by
  have hj : j < xs.length := (List.getElem?_eq_some_iff.mp h).1
  have e : ixN xs.length (j : Int) = some j := by
    unfold ixN
    rw [if_pos (by omega), if_pos (by omega)]; simp
  unfold atI; rw [e]; exact h
/-! ### what may be subscripted -/
/-- what stands as an index of a plain subscript -/
def PlainIx (b : Expr) : Prop := ∀ o i, subscripted b false o i = operate [o, i] (getItem o i)
/-- a subscript by values -/
def IxR (X : Cx) (r : R2) : Prop :=
  ∀ (value slice : Expr) (pins : List (Addr × Obj)) (s : Shared) (σ : St) (H : Hp) (x y : V) (v u : Value) (Q : VK), Inv X pins σ H s → RelV x v → RelV y u → r x y H Q →
    subscripted slice false v u = operate [v, u] (getItem v u) → wpAny (model X.prog X.w) X.A (subscriptTail value slice v u) (EP X pins σ Q) X.xe s
/-- a call of a builtin's method by values: the receiver, the arguments -/
def MtR (X : Cx) (id : String) (r : V → List V → Hp → VK → Prop) : Prop :=
  ∀ (pins : List (Addr × Obj)) (s : Shared) (σ : St) (H : Hp) (x : V) (xs : List V) (v : Value) (us : List Value) (Q : VK), Inv X pins σ H s → RelV x v → Vals xs us → r x xs H Q →
    wpAny (model X.prog X.w) X.A (call (.builtin id) (v :: us)) (EP X pins σ Q) X.xe s
section
variable {X : Cx} {a b : Expr} {ta tb : TE} {pos : Pos}
/-- a[b] -/
theorem pe_ix {r : R2} (hr : IxR X r) (ha : PE X a ta) (hb : PE X b tb) (hs : PlainIx b) : PE X (.Subscript a b pos) (tOp r ta tb) := by
  intro pins s σ H Q I h
  exact Subscript_ (binT ha hb I h fun v u s2 x y H2 I2 rx ry q => hr a b pins s2 σ H2 x y v u Q I2 rx ry q (hs _ _))

def rIxL (K : PySem.W.Frag) : R2 := fun x y H Q => ∃ p xs i v, x = .ref p ∧ y = .int i ∧ SqL K H p xs ∧ atI xs i = some v ∧ Q v H
def rIxT (K : PySem.W.Frag) : R2 := fun x y H Q => ∃ p xs i v, x = .ref p ∧ y = .int i ∧ SqT K H p xs ∧ atI xs i = some v ∧ Q v H
def rIxS : R2 := fun x y H Q => ∃ z i c, x = .str z ∧ y = .int i ∧ z.length ≤ sizeLine ∧ atI z.cps.toList i = some c ∧ Q (.str ⟨#[c]⟩) H
theorem ix_list : IxR X (rIxL X.K) := by
  intro value slice pins s σ H x y v u Q I rx ry h hs
  obtain ⟨p, xs, i, z, rfl, rfl, hq, he, q⟩ := h
  cases rx
  obtain ⟨t, rfl⟩ := ry
  obtain ⟨its, r, pl, hz⟩ := I.list hq
  obtain ⟨j, h1, h2, h3, h4, h5⟩ := atI_get he
  obtain ⟨w, ew, rw'⟩ := r.get h2
  have hl := r.length
  have hn := line63
  have fin : EP X pins σ Q w s := ⟨z, H, I, rw', q⟩
  by_cases h0 : 0 ≤ i
  · have hj : i.toNat = j := by
      rw [seqIndex_of h0 h5] at h1
      exact Option.some.inj h1
    exact item_listR pl.isList h0 (by omega) (by rw [hj]; simpa using ew) fin hs
  · have hj : (i + (its.toArray.size : Int)).toNat = j := by
      rw [seqIndex_neg (by omega) h4] at h1
      rw [List.size_toArray, ← hl]
      exact Option.some.inj h1
    exact subscriptTail_builtinR (x := w) pl.isList.typeIs slot_list_getitem.lookup
      (wpAny_getItem_list_neg (Q := fun r s' => r = w ∧ EP X pins σ Q r s') pl.isList (by omega) (by rw [List.size_toArray] <;> omega) (by omega) (by rw [hj]; simpa using ew) ⟨rfl, fin⟩) hs
theorem ix_tup : IxR X (rIxT X.K) := by
  intro value slice pins s σ H x y v u Q I rx ry h hs
  obtain ⟨p, xs, i, z, rfl, rfl, hq, he, q⟩ := h
  cases rx
  obtain ⟨t, rfl⟩ := ry
  obtain ⟨its, r, pl, hz⟩ := I.tuple hq
  obtain ⟨j, h1, h2, h3, h4, h5⟩ := atI_get he
  obtain ⟨w, ew, rw'⟩ := r.get h2
  have hl := r.length
  have hn := line63
  have fin : EP X pins σ Q w s := ⟨z, H, I, rw', q⟩
  exact subscriptTail_builtinR (x := w) pl.typeIs slot_tuple_getitem.lookup
    (getItem_tuple (j := j) (Q := fun r s' => r = w ∧ EP X pins σ Q r s') pl (by omega) (by omega) (by rw [List.size_toArray, ← hl]; exact h1) (by simpa using ew) ⟨rfl, fin⟩) hs
theorem ix_str : IxR X rIxS := by
  intro value slice pins s σ H x y v u Q I rx ry h hs
  obtain ⟨z, i, c, rfl, rfl, hz, he, q⟩ := h
  obtain ⟨t, rfl⟩ := rx
  obtain ⟨t', rfl⟩ := ry
  obtain ⟨j, h1, h2, h3, h4, h5⟩ := atI_get he
  have hl : z.cps.toList.length = z.length := by simp [Str.length]
  rw [hl] at h1 h4 h5
  have hn := line63
  exact tail_any (typeIs_str s z t) slot_str_getitem.lookup (getItem_str (c := c) (by
    have e1 : decide (i < -(2 ^ 63 : Int)) = false := decide_eq_false (by omega)
    have e2 : decide (i ≥ 2 ^ 63) = false := decide_eq_false (by omega)
    rw [e1, e2, Bool.or_false]) (by rw [h1]; simpa using h2) ⟨.str ⟨#[c]⟩, H, I.tok _, ⟨_, rfl⟩, q⟩) hs
/-! ### xs[i] = v, any sign -/
/-- the list's object behind a store -/
theorem mapSeq_set (its : List Value) (n j : Nat) (u : Value) : Obj.mapSeq (·.setIfInBounds j u) { cls := .type "list", data := .seq its.toArray n } = { cls := .type "list", data := .seq (its.set j u).toArray n } := by
  simp [Obj.mapSeq]
theorem Inv.lst {pins : List (Addr × Obj)} {σ : St} {H : Hp} {s : Shared} {p : Addr} {xs : List V} (I : Inv X pins σ H s) (h : H p = some (.lst xs)) :
    ∃ (its : List Value) (n : Nat), Vals xs its ∧ s.heap.get? p = some { cls := .type "list", data := .seq its.toArray n } ∧ xs.length ≤ sizeLine := by
  obtain ⟨z, its, n, r, e⟩ := I.hok p _ h
  exact ⟨its, n, r, e, z⟩
/-- the list at p is written by an update of its object -/
theorem Inv.lstUpd {pins : List (Addr × Obj)} {σ : St} {H : Hp} {s : Shared} {p : Addr} {xs ys : List V} {its its' : List Value} {n n' : Nat} {f : Obj → Obj} (I : Inv X pins σ H s) (h : H p = some (.lst xs))
    (ho : s.heap.get? p = some { cls := .type "list", data := .seq its.toArray n }) (hf : f { cls := .type "list", data := .seq its.toArray n } = { cls := .type "list", data := .seq its'.toArray n' }) (r : Vals ys its') (hz : ys.length ≤ sizeLine) (t : Nat) :
    Inv X pins σ (upd H p (.lst ys)) { s with heap := s.heap.update p f, toks := t } := by
  have e : (s.heap.update p f).get? p = some { cls := .type "list", data := .seq its'.toArray n' } := by
    rw [Heap.get?_update_self f ho (by rw [hf] <;> rfl), hf]
  refine I.write (x := p) (e := p) (by rw [h]; trivial) (.inl rfl) (fun b u hb q => (Heap.get?_update_other _ _ (Ne.symm hb)).trans q) ⟨_, e⟩ ?_
  exact ⟨hz, its', n', r, e⟩
def rSetL : V → V → V → Hp → (Hp → Prop) → Prop := fun o i v H Q => ∃ p xs k j, o = .ref p ∧ i = .int k ∧ H p = some (.lst xs) ∧ ixN xs.length k = some j ∧ Q (upd H p (.lst (xs.set j v)))
theorem set_list : PSet X rSetL := by
  intro pins s σ H o i v ov iv u Q I ro ri rv h
  obtain ⟨p, xs, k, j, rfl, rfl, hp, hj, q⟩ := h
  cases ro
  obtain ⟨t, rfl⟩ := ri
  obtain ⟨its, n, r, ho, hz⟩ := I.lst hp
  obtain ⟨h1, h2, h3, h4⟩ := ixN_seq hj
  have hl := r.length
  have hn := line63
  have I' : Inv X pins σ (upd H p (.lst (xs.set j v))) { s with heap := s.heap.update p (Obj.mapSeq (·.setIfInBounds j u)) } :=
    I.lstUpd hp ho (mapSeq_set its n j u) (r.set rv j) (by rw [List.length_set]; exact hz) s.toks
  by_cases h0 : 0 ≤ k
  · have hk : k.toNat = j := by
      rw [seqIndex_of h0 h4] at h1
      exact Option.some.inj h1
    exact PySem.W.ki_setAt ho h0 (by omega) (by rw [List.size_toArray, ← hl]; exact h4) (by rw [hk]; exact ⟨_, I', q⟩)
  · have hk : (k + (its.toArray.size : Int)).toNat = j := by
      rw [seqIndex_neg (by omega) h3] at h1
      rw [List.size_toArray, ← hl]
      exact Option.some.inj h1
    exact PySem.W.ki_setBack ho (by omega) (by rw [List.size_toArray, ← hl]; exact h3) (by omega) (by rw [hk]; exact ⟨_, I', q⟩)

/-! ### slices -/
theorem slice_bounds (lo hi : Option Int) (n : Nat) : (sliceBounds lo hi none n).1 = ((HT.sIx n 0 lo : Nat) : Int) ∧ (sliceBounds lo hi none n).2.1 = ((HT.sIx n n hi : Nat) : Int) ∧ (sliceBounds lo hi none n).2.2 = 1 := by
  refine ⟨?_, ?_, rfl⟩
  · cases lo with
    | none => simp [sliceBounds, HT.sIx]
    | some i =>
      simp only [sliceBounds, HT.sIx, Option.getD_none, show (1 : Int) > 0 by decide, if_true]
      by_cases h : i < 0
      · simp only [h, if_true] <;> omega
      · simp only [h, if_false] <;> omega
  · cases hi with
    | none => simp [sliceBounds, HT.sIx]
    | some i =>
      simp only [sliceBounds, HT.sIx, Option.getD_none, show (1 : Int) > 0 by decide, if_true]
      by_cases h : i < 0
      · simp only [h, if_true] <;> omega
      · simp only [h, if_false] <;> omega
theorem slicePick_cut (its : List Value) (lo hi : Option Int) : slicePick its.toArray lo hi none = ((its.drop (HT.sIx its.length 0 lo)).take (HT.sIx its.length its.length hi - HT.sIx its.length 0 lo)).toArray := by
  obtain ⟨h1, h2, h3⟩ := slice_bounds lo hi its.toArray.size
  unfold slicePick
  rw [h1, h2, h3]
  simp only [sliceRange_one, pick_run, List.size_toArray] <;> rfl
/-- xs[lo:hi] of a list: a new list -/
def rSlL (K : PySem.W.Frag) : V → Option Int → Option Int → Hp → VK → Prop := fun x lo hi H Q => ∃ a xs, x = .ref a ∧ SqL K H a xs ∧ ∀ p, H p = none → Q (.ref p) (upd H p (.lst (cutV xs lo hi)))
theorem sl_list : SlR X (rSlL X.K) := by
  intro pins s σ H x v vl vu lo hi sl Q I rx hs pl pu h
  obtain ⟨a, xs, rfl, hx, q⟩ := h
  cases rx
  obtain ⟨its, r, ht, hz⟩ := I.list hx
  have hlen := r.length
  refine ⟨"list", _, slot_list_getitem.lookup, ht.isList.typeIs, ?_⟩
  refine wpAny_getItem_list_slice ht.isList hs pl pu .none (by simp) ?_ (by rw [List.size_toArray] <;> omega)
  rw [slicePick_cut, ← hlen]
  refine ⟨.ref s.heap.objs.size, _, I.laid (t' := s.toks) (o := .lst (cutV xs lo hi)) (fun b ob q => Heap.get?_push_of_some _ q) (Nat.le_refl _) ?_, rfl, q _ (I.hok.fresh (Nat.le_refl _))⟩
  exact ⟨Nat.le_trans (cutV_length xs lo hi) hz, _, 0, (r.drop (HT.sIx xs.length 0 lo)).take (HT.sIx xs.length xs.length hi - HT.sIx xs.length 0 lo), Heap.get?_push_size _ rfl⟩

/-! ### in, not in: flat items -/
def flatV : V → Bool
  | .non => true
  | .bl _ => true
  | .int _ => true
  | .str _ => true
  | _ => false
/-- == of flat values -/
def eqV : V → V → Bool
  | .non, .non => true
  | .bl a, .bl b => a == b
  | .bl a, .int b => (if a then 1 else 0) == b
  | .int a, .bl b => a == (if b then 1 else 0)
  | .int a, .int b => a == b
  | .str a, .str b => a == b
  | _, _ => false
theorem eqAt_V {A : Around} {s : Shared} {y x : V} {u v : Value} (ry : RelV y u) (rx : RelV x v) (fy : flatV y = true) (fx : flatV x = true) : SeqAt.EqAt A s u v (eqV y x) := by
  cases y with
  | non =>
    cases ry
    cases x with
    | non => cases rx; exact SeqAt.EqAt.same _
    | bl b => cases rx; exact SeqAt.EqAt.none_bool b
    | int b => obtain ⟨t, rfl⟩ := rx; exact SeqAt.EqAt.none_int b t
    | str b => obtain ⟨t, rfl⟩ := rx; exact SeqAt.EqAt.none_str b t
    | _ => exact absurd (show false = true from fx) Bool.false_ne_true
  | bl a =>
    cases ry
    cases x with
    | non => cases rx; exact SeqAt.EqAt.bool_none a
    | bl b => cases rx; exact SeqAt.EqAt.bool_bool a b
    | int b => obtain ⟨t, rfl⟩ := rx; exact SeqAt.EqAt.bool_int a b t
    | str b => obtain ⟨t, rfl⟩ := rx; exact SeqAt.EqAt.bool_str a b t
    | _ => exact absurd (show false = true from fx) Bool.false_ne_true
  | int a =>
    obtain ⟨t', rfl⟩ := ry
    cases x with
    | non => cases rx; exact SeqAt.EqAt.int_none a t'
    | bl b => cases rx; exact SeqAt.EqAt.int_bool a t' b
    | int b => obtain ⟨t, rfl⟩ := rx; exact SeqAt.EqAt.int_int a t' b t
    | str b => obtain ⟨t, rfl⟩ := rx; exact SeqAt.EqAt.int_str a t' b t
    | _ => exact absurd (show false = true from fx) Bool.false_ne_true
  | str a =>
    obtain ⟨t', rfl⟩ := ry
    cases x with
    | non => cases rx; exact SeqAt.EqAt.str_none a t'
    | bl b => cases rx; exact SeqAt.EqAt.str_bool a t' b
    | int b => obtain ⟨t, rfl⟩ := rx; exact SeqAt.EqAt.str_int a t' b t
    | str b => obtain ⟨t, rfl⟩ := rx; exact SeqAt.EqAt.str_str a t' b t
    | _ => exact absurd (show false = true from fx) Bool.false_ne_true
  | _ => exact absurd (show false = true from fy) Bool.false_ne_true
/-- the items' answers, read off the values (a value's own answer does not lean on its token) -/
def eqU (x : V) (u : Value) : Bool := match u with
  | .none => eqV .non x
  | .bool b => eqV (.bl b) x
  | .int i _ => eqV (.int i) x
  | .str z _ => eqV (.str z) x
  | _ => false
theorem eqU_of {x y : V} {u : Value} (r : RelV y u) (f : flatV y = true) : eqU x u = eqV y x := by
  cases y with
  | non => cases r; rfl
  | bl b => cases r; rfl
  | int i => obtain ⟨t, rfl⟩ := r; rfl
  | str z => obtain ⟨t, rfl⟩ := r; rfl
  | _ => exact absurd (show false = true from f) Bool.false_ne_true
theorem any_eqU {x : V} : ∀ {xs : List V} {us : List Value}, Vals xs us → xs.all flatV = true → us.any (eqU x) = xs.any fun y => eqV y x
  | _, _, .nil, _ => rfl
  | y :: xs, u :: us, .cons r t, f => by
    rw [List.all_cons, Bool.and_eq_true] at f
    rw [List.any_cons, List.any_cons, eqU_of r f.1, any_eqU t f.2]
theorem mem_eqAt {A : Around} {s : Shared} {x : V} {v : Value} (rx : RelV x v) (fx : flatV x = true) : ∀ {xs : List V} {us : List Value}, Vals xs us → xs.all flatV = true → ∀ u ∈ us, SeqAt.EqAt A s u v (eqU x u)
  | _, _, .nil, _ => fun u hu => by cases hu
  | y :: xs, u :: us, .cons r t, f => fun u' hu => by
    rw [List.all_cons, Bool.and_eq_true] at f
    rcases List.mem_cons.mp hu with rfl | hu
    · rw [eqU_of r f.1]; exact eqAt_V r rx f.1 fx
    · exact mem_eqAt rx fx t f.2 u' hu
def inV (x : V) (xs : List V) : Bool := xs.any fun y => eqV y x
/-- x in a list or tuple of flat items -/
def rIn (K : PySem.W.Frag) (neg : Bool) : R2 := fun x y H Q => ∃ p xs, y = .ref p ∧ (SqL K H p xs ∨ SqT K H p xs) ∧ flatV x = true ∧ xs.all flatV = true ∧ Q (.bl (if neg then !inV x xs else inV x xs)) H
theorem op_in_seq : OpR X (compareOp .In) (rIn X.K false) := by
  intro pins s σ H x y v u Q I rx ry h
  obtain ⟨p, xs, rfl, hq, fx, fs, q⟩ := h
  cases ry
  rcases hq with hq | hq
  · obtain ⟨its, r, pl, hz⟩ := I.list hq
    refine SeqAt.in_listAt (eqU x) pl.isList (fun w hw => mem_eqAt rx fx r fs w (by simpa using hw)) ⟨.bl _, H, I, rfl, ?_⟩
    rw [show its.toArray.any (eqU x) = its.any (eqU x) by simp, any_eqU r fs]
    exact q
  · obtain ⟨its, r, pl, hz⟩ := I.tuple hq
    refine SeqAt.in_tupleAt (eqU x) pl (fun w hw => mem_eqAt rx fx r fs w (by simpa using hw)) ⟨.bl _, H, I, rfl, ?_⟩
    rw [show its.toArray.any (eqU x) = its.any (eqU x) by simp, any_eqU r fs]
    exact q
/-! ### len, list(x), tuple(x) of any list or tuple that is read -/
theorem call_len_seq : CallR X (.builtin "len") (fun xs H Q => ∃ p ys, xs = [.ref p] ∧ (SqL X.K H p ys ∨ SqT X.K H p ys) ∧ Q (.int ys.length) H) := by
  intro pins s σ H xs us Q I r h
  obtain ⟨p, ys, rfl, hq, q⟩ := h
  obtain ⟨u, rfl, rx⟩ := vals1 r
  cases rx
  have hn := line63
  rcases hq with hq | hq
  · obtain ⟨its, r', pl, hz⟩ := I.list hq
    have hlen := r'.length
    exact Calls.call_len_list pl.isList (by simp only [List.size_toArray] <;> omega) ⟨.int ys.length, H, I.tok _, ⟨s.toks + 1, by rw [List.size_toArray, hlen]⟩, q⟩
  · obtain ⟨its, r', pl, hz⟩ := I.tuple hq
    have hlen := r'.length
    exact len_tuple pl (by simp only [List.size_toArray] <;> omega) ⟨.int ys.length, H, I.tok _, ⟨s.toks + 1, by rw [List.size_toArray, hlen]⟩, q⟩
theorem call_len_str : CallR X (.builtin "len") (fun xs H Q => ∃ z, xs = [.str z] ∧ z.length ≤ sizeLine ∧ Q (.int z.length) H) := by
  intro pins s σ H xs us Q I r h
  obtain ⟨z, rfl, hz, q⟩ := h
  obtain ⟨u, rfl, t, rfl⟩ := vals1 r
  have hn := line63
  exact len_str (by omega) ⟨.int z.length, H, I.tok _, ⟨_, rfl⟩, q⟩
theorem call_list_of : CallR X (.type "list") (fun xs H Q => ∃ p ys, xs = [.ref p] ∧ (SqL X.K H p ys ∨ SqT X.K H p ys) ∧ ∀ l, H l = none → Q (.ref l) (upd H l (.lst ys))) := by
  intro pins s σ H xs us Q I r h
  obtain ⟨p, ys, rfl, hq, q⟩ := h
  obtain ⟨u, rfl, rx⟩ := vals1 r
  cases rx
  have fin : ∀ (its : List Value), Vals ys its → ys.length ≤ sizeLine → ∀ (h' : Heap) (c' : Nat), (∀ b o', s.heap.get? b = some o' → h'.get? b = some o') →
      h'.get? s.heap.objs.size = some { cls := .type "list", dict := none, data := .seq its.toArray c', slots := #[] } → EP X pins σ Q (.ref s.heap.objs.size) { s with heap := h' } := fun its r' hz h' c' kp e =>
    ⟨.ref s.heap.objs.size, _, I.laid (t' := s.toks) kp (Nat.le_refl _) (show ObjOk X.prog X.w _ h' _ (.lst ys) from ⟨hz, its, c', r', e⟩), rfl, q _ (I.hok.fresh (Nat.le_refl _))⟩
  rcases hq with hq | hq
  · obtain ⟨its, r', pl, hz⟩ := I.list hq
    have hlen := r'.length
    obtain ⟨o, ho, hc, n, hd⟩ := pl.isList
    exact call_list_seq p (.inl rfl) ho hc hd (fun h' c' kp e => fin its r' hz h' c' kp e) (by simp only [List.size_toArray] <;> omega)
  · obtain ⟨its, r', pl, hz⟩ := I.tuple hq
    have hlen := r'.length
    obtain ⟨o, ho, hc, n, hd⟩ := pl
    exact call_list_seq p (.inr rfl) ho hc hd (fun h' c' kp e => fin its r' hz h' c' kp e) (by simp only [List.size_toArray] <;> omega)
/-! ### the call of a builtin's method: o.m(..) -/
/-- the value is of that builtin type -/
def tyV (K : PySem.W.Frag) (T : String) (x : V) (H : Hp) : Prop := match x with
  | .str _ => T = "str"
  | .int _ => T = "int"
  | .ref p => (T = "list" ∧ ∃ xs, SqL K H p xs) ∨ (T = "tuple" ∧ ∃ o, K.lookup p = some o ∧ o.cls = .type "tuple" ∧ o.dict = none) ∨
      (T = "dict" ∧ ((∃ kvs, H p = some (.dK kvs)) ∨ ∃ kvs, H p = some (.dT kvs))) ∨ (T = "set" ∧ ∃ S n, H p = some (.set S n))
  | _ => False
theorem tyV_is {pins : List (Addr × Obj)} {σ : St} {H : Hp} {s : Shared} {T : String} {x : V} {v : Value} (I : Inv X pins σ H s) (r : RelV x v) (ty : tyV X.K T x H) :
    s.TypeIs v T ∧ ∀ a, v = .ref a → ∃ ob, s.heap.get? a = some ob ∧ ob.dict = none := by
  cases x with
  | str z =>
    obtain ⟨t, rfl⟩ := r
    cases (show T = "str" from ty)
    exact ⟨typeIs_str s z t, fun _ e => nomatch e⟩
  | int i =>
    obtain ⟨t, rfl⟩ := r
    cases (show T = "int" from ty)
    exact ⟨typeIs_int s i t, fun _ e => nomatch e⟩
  | ref p =>
    cases r
    rcases ty with ⟨rfl, xs, hq⟩ | ⟨rfl, o, hk, hc, hd⟩ | ⟨rfl, hk⟩ | ⟨rfl, S, n, hk⟩
    · obtain ⟨its, _, pl, _⟩ := I.list hq
      refine ⟨pl.isList.typeIs, fun a e => ?_⟩
      cases e
      obtain ⟨o, n, e, c, hd, _⟩ := pl
      exact ⟨o, e, hd⟩
    · refine ⟨⟨o, I.kIn p o hk, hc⟩, fun a e => ?_⟩
      cases e
      exact ⟨o, I.kIn _ o hk, hd⟩
    · have z : ∃ o, s.heap.get? p = some o ∧ o.ExactDict := by
        rcases hk with ⟨kvs, hk⟩ | ⟨kvs, hk⟩
        · obtain ⟨_, _, _, _, o, _, _, e, ex, _⟩ := I.hok p _ hk
          exact ⟨o, e, ex⟩
        · obtain ⟨_, _, _, _, o, _, _, e, ex, _⟩ := I.hok p _ hk
          exact ⟨o, e, ex⟩
      obtain ⟨o, e, ex⟩ := z
      refine ⟨⟨o, e, ex.1⟩, fun a e2 => ?_⟩
      cases e2
      exact ⟨o, e, ex.2.1⟩
    · obtain ⟨o, _, _, _, e, ex, _⟩ := I.hok p _ hk
      refine ⟨⟨o, e, ex.1⟩, fun a e2 => ?_⟩
      cases e2
      exact ⟨o, e, ex.2.1⟩
  | _ => exact False.elim ty
def tBM (K : PySem.W.Frag) (T : String) (r : V → List V → Hp → VK → Prop) (to : TE) (t : TA) : TE := fun σ H Q => to σ H fun x H1 => tyV K T x H1 ∧ t σ H1 fun xs H2 => r x xs H2 Q
variable {o e : Expr} {es : List Expr} {to : TE} {t : TA} {name : Str} {apos cpos : Pos} {T id : String} {r : V → List V → Hp → VK → Prop}
theorem pe_bm (pa : PlainAttrs T) (slot : Slot T name id) (hty : typeOf (.builtin id) = pure (.type "method_descriptor")) (hm : MtR X id r) (ho : PE X o to) (ha : PA X (e :: es) t)
    (hbase : attributeBase o name X.env (eval o X.env) = eval o X.env := by rfl)
    (hfew : ((backTo cpos (starEach (e :: es) X.env)).all (fun x => !x.1) && (backToKw cpos (keywordEach [] X.env)).all (fun x => x.1.isSome)
      && decide ((e :: es).length + ([] : List Keyword).length + (if ([] : List Keyword).isEmpty then 0 else 1) < 30)) = true := by rfl)
    (hline : (apos.endLine == cpos.line) = true := by rfl) (hs : starEach (e :: es) X.env = (false, eval e X.env) :: starEach es X.env := by rfl) (hplain : (backTo cpos (starEach es X.env)).any (·.1) = false := by rfl) :
    PE X (.Call (.Attribute o name apos) (e :: es) [] cpos) (tBM X.K T r to t) := by
  intro pins s σ H Q I h
  refine wpAny_Call_method_late hbase hfew hline rfl (thn (ho pins s σ H _ I h) fun v s1 ⟨x, H1, I1, r1, ty, q1⟩ => ?_)
  obtain ⟨h1, h2⟩ := tyV_is I1 r1 ty
  refine ⟨T, id, pa, slot, hty, h1, h2, ?_⟩
  have hA := ha cpos pins s1 σ H1 _ I1 q1
  rw [hs] at hA ⊢
  refine Calls.callWith_builtin (by show (false || (backTo cpos (starEach es X.env)).any (·.1)) = false; rw [hplain] <;> rfl) (Calls.evalArgs_plain ?_)
  exact thn hA fun us s2 ⟨vs, H2, I2, r2, q2⟩ => hm pins s2 σ H2 x vs v us Q I2 r1 r2 q2
/- xs.append(e), list.index on a module's tuple .. are MtR facts of 06m -/
end
end L2

namespace L2
open PySem PySem.Spec PyProof.Rows

def MtM (X : Cx) (id : String) (r : V → List V → Hp → VK → Prop) : Prop :=
  ∀ (pins : List (Addr × Obj)) (s : Shared) (σ : St) (H : Hp) (x : V) (xs : List V) (v : Value) (us : List Value) (Q : VK), Inv X pins σ H s → RelV x v → Vals xs us → r x xs H Q →
    wpAny (model X.prog X.w) X.A (call (.builtin id) (v :: us)) (EP X pins σ Q) X.xe s

/-! ### lists of values -/
theorem Vals.one : ∀ {x : V} {us : List Value}, Vals [x] us → ∃ u, us = [u] ∧ RelV x u
  | _, _, .cons r .nil => ⟨_, rfl, r⟩
theorem Vals.zero : ∀ {us : List Value}, Vals [] us → us = []
  | _, .nil => rfl
theorem Vals.reverse {xs : List V} {us : List Value} (h : Vals xs us) : Vals xs.reverse us.reverse := by
  induction h with
  | nil => exact .nil
  | cons r t ih => rw [List.reverse_cons, List.reverse_cons]; exact Vals.append ih (.cons r .nil)
section
variable {X : Cx} {pins : List (Addr × Obj)} {σ : St} {H : Hp} {s : Shared} {l b : Addr} {xs ys zs : List V}

/-! ### the two steps: a tracked list is rewritten, a new list is laid -/
theorem Inv.lset {its its' : List Value} {n : Nat} {f : Array Value → Array Value} {t' : Nat} (I : Inv X pins σ H s) (hH : H l = some (.lst xs))
    (e : s.heap.get? l = some { cls := .type "list", data := .seq its.toArray n }) (hf : f its.toArray = its'.toArray) (hv : Vals ys its') (hz : ys.length ≤ sizeLine) :
    Inv X pins σ (upd H l (.lst ys)) { s with heap := s.heap.update l (Obj.mapSeq f), toks := t' } := by
  have q := PySem.IsL.update e f
  rw [hf] at q
  refine I.write (x := l) (e := l) (by rw [hH]; exact trivial) (.inl rfl) (fun b' u hb hu => (Heap.get?_update_other s.heap (Obj.mapSeq f) (Ne.symm hb)).trans hu) ⟨_, q⟩ ?_
  exact ⟨hz, its', _, hv, q⟩
theorem Inv.lnew {its : List Value} {t' : Nat} (I : Inv X pins σ H s) (hv : Vals ys its) (hz : ys.length ≤ sizeLine) :
    Inv X pins σ (upd H s.heap.objs.size (.lst ys)) { s with heap := s.heap.push { cls := .type "list", data := .seq its.toArray }, toks := t' } :=
  I.laid (fun _ _ q => Heap.get?_push_of_some _ q) (Nat.le_refl _) ⟨hz, its, 0, hv, Heap.get?_push_size _ rfl⟩
theorem Inv.fresh (I : Inv X pins σ H s) : H s.heap.objs.size = none := I.hok.fresh (Nat.le_refl _)
theorem Inv.lstM (I : Inv X pins σ H s) (hH : H l = some (.lst xs)) : xs.length ≤ sizeLine ∧ ∃ (its : List Value) (n : Nat), Vals xs its ∧ xs.length = its.length ∧ s.heap.get? l = some { cls := .type "list", data := .seq its.toArray n } := by
  obtain ⟨z, its, n, r, e⟩ := I.hok l _ hH
  exact ⟨z, its, n, r, r.length, e⟩

theorem notLongL {n : Nat} (h : n ≤ sizeLine) : Builtin.List.listTooLong n = false := by
  unfold Builtin.List.listTooLong
  exact decide_eq_false (by omega)
end

section
variable {X : Cx}

/-! ### methods -/
def rAppend : V → List V → Hp → VK → Prop := fun x vs H Q => ∃ l xs y, x = .ref l ∧ vs = [y] ∧ H l = some (.lst xs) ∧ xs.length < sizeLine ∧ Q .non (upd H l (.lst (xs ++ [y])))
theorem mt_append : MtM X "list.append" rAppend := by
  intro pins s σ H x vs v us Q I rx rv h
  obtain ⟨l, xs, y, rfl, rfl, hH, hz, q⟩ := h
  cases rx
  obtain ⟨u, rfl, ru⟩ := rv.one
  obtain ⟨z, its, n, r, hl, e⟩ := I.lstM hH
  refine call_meets F.slot_list_append ⟨_, e, rfl⟩ F.entry_list_append (F.args_list_append_2 _ _) (PySem.list_append l its.toArray n u (by rw [List.size_toArray]; omega)) ⟨e, ?_⟩
  refine ⟨.non, _, I.lset (its' := its ++ [u]) hH e (by simp) (r.append (.cons ru .nil)) ?_, rfl, q⟩
  rw [List.length_append, List.length_singleton]
  omega

def rExtend : V → List V → Hp → VK → Prop := fun x vs H Q => ∃ l b xs zs, x = .ref l ∧ vs = [.ref b] ∧ H l = some (.lst xs) ∧ H b = some (.lst zs) ∧ xs.length + zs.length ≤ sizeLine ∧ Q .non (upd H l (.lst (xs ++ zs)))
theorem mt_extend : MtM X "list.extend" rExtend := by
  intro pins s σ H x vs v us Q I rx rv h
  obtain ⟨l, b, xs, zs, rfl, rfl, hH, hB, hz, q⟩ := h
  cases rx
  obtain ⟨u, rfl, ru⟩ := rv.one
  cases ru
  obtain ⟨z, its, n, r, hl, e⟩ := I.lstM hH
  obtain ⟨z2, its2, n2, r2, hl2, e2⟩ := I.lstM hB
  have hsz : its.toArray.size + its2.toArray.size ≤ sizeLine := by rw [List.size_toArray, List.size_toArray]; omega
  have hlong : ¬ (!its.toArray.isEmpty && Builtin.List.listTooLong (its.toArray.size + its2.toArray.size)) = true := by
    rw [notLongL hsz, Bool.and_false]
    exact Bool.false_ne_true
  refine call_meets F.slot_list_extend ⟨_, e, rfl⟩ F.entry_list_extend (F.args_list_extend_2 _ _)
    (AutoSeq1.list_extend_list_list_0 l its.toArray n b its2.toArray n2 hlong (by rw [List.size_toArray]; omega) (by omega)) ⟨e, e2, ?_⟩
  refine ⟨.non, _, I.lset (its' := its ++ its2) hH e (by simp) (r.append r2) ?_, rfl, q⟩
  rw [List.length_append]
  omega

/-! ### list + list, list += list, list * int -/
def rCat : R2 := fun x y H Q => ∃ l b xs zs, x = .ref l ∧ y = .ref b ∧ H l = some (.lst xs) ∧ H b = some (.lst zs) ∧ xs.length + zs.length ≤ sizeLine ∧ ∀ p, H p = none → Q (.ref p) (upd H p (.lst (xs ++ zs)))
theorem op_cat : OpR X (binaryOp .Add) rCat := by
  intro pins s σ H x y v u Q I rx ry h
  obtain ⟨l, b, xs, zs, rfl, rfl, hH, hB, hz, q⟩ := h
  cases rx
  cases ry
  obtain ⟨z, its, n, r, hl, e⟩ := I.lstM hH
  obtain ⟨z2, its2, n2, r2, hl2, e2⟩ := I.lstM hB
  refine PySem.P.add_list e e2 ?_ (by rw [List.size_toArray, List.size_toArray]; omega)
  have ea : its.toArray ++ its2.toArray = (its ++ its2).toArray := by simp
  rw [ea]
  exact ⟨.ref _, _, I.lnew (t' := s.toks) (r.append r2) (by rw [List.length_append]; omega), rfl, q _ I.fresh⟩
end

/-! ### xs[a:b] = ys -/
section
variable {prog : Program} {w : World} {A : Around} {E : Value → Shared → Prop} {s : Shared}
set_option maxRecDepth 100000 in
end

section
variable {X : Cx}
end
end L2

namespace Att
open PySem PySem.W PySem.Calls PyProof.Rows

/-! ### the script -/
theorem ints_of_wellAll {P : Params} {h : Heap} : ∀ (ns : List Int) (vs : List Value), WellAll P h vs (ns.map WData.int) → IntsAre vs ns := by
  intro ns
  induction ns with
  | nil =>
    intro vs w
    rw [List.map_nil] at w
    cases w
    exact .nil
  | cons n ns ih =>
    intro vs w
    rw [List.map_cons] at w
    cases w with
    | cons a b =>
      cases a
      exact .cons _ _ (ih _ b)

theorem script_of {l : OpenLaw} {n : Nat} (hn : l.most = some n) {P : Params} {h : Heap} {args : List WData} {vals : List Value}
    (hpre : l.row.toRowW.claim.pre args = true) (hwl : WellAll P h vals args) :
    ∃ a vs ns, vals = [Value.ref a] ∧ args = [WData.list (ns.map WData.int)] ∧ h.get? a = some { cls := .type "list", data := .seq vs.toArray } ∧ IntsAre vs ns ∧ ns.length ≤ n := by
  have hsh : WShape.hasAll [] args [.list .int] = true := (pre_splitW hpre).1
  have hc : l.pre.holds [] { args := args } = true := (pre_splitW hpre).2
  obtain ⟨d, r, rfl, h1, h2⟩ := hasAllW_cons hsh
  obtain rfl := hasAllW_nil h2
  obtain ⟨xs, rfl, h3⟩ := hasW_list h1
  obtain ⟨ns, rfl⟩ := items_int h3
  have hlen : ns.length ≤ n := by
    unfold OpenLaw.pre at hc
    have h4 : (WTm.not (.lt (.lit (.int (n : Int))) (.len (.arg 0)))).holds [] { args := [.list (ns.map .int)] } = true := by
      have h4 := (holds_andW hc).1
      rw [hn] at h4
      exact h4
    have h5 := condW_of h4 (w_not (w_lt w_lit (w_len_list (w_arg rfl))))
    rw [List.length_map] at h5
    refine Nat.le_of_not_lt fun q => ?_
    have q' : (n : Int) < ((ns.length : Nat) : Int) := by omega
    first
      | (rw [decide_eq_true q'] at h5; exact absurd h5 (by decide))
      | (simp at h5; omega)
  cases hwl with
  | cons w1 w2 =>
    cases w2
    cases w1 with
    | list ho hall => exact ⟨_, _, ns, rfl, rfl, ho, ints_of_wellAll ns _ hall, hlen⟩

theorem post_true (l : OpenLaw) (args : List WData) : l.row.toRowW.claim.post args (.bool true) args = true :=
  postW_of (r := l.row.toRowW) (X := (true == true))
    (show WShape.has [] (.bool true) .bool = true by first | rfl | decide | simp [WShape.has, WShape.arms, WShape.armsAll])
    (show (WTm.eq .res (.lit (.bool true))).value [] { args := args, res := some (.bool true), after := args } = some (.bool (true == true)) from w_eq_bool (w_res rfl) w_lit) rfl

/-- the same from a codeAny of the CALL (for a layer whose function contracts speak of calls) -/
theorem attach_call {l : OpenLaw} {n : Nat} {q : Program} {loose : List Str} {XP : (Str → Option Value) → Heap → Prop} {YP : World → Heap → Prop} {d : DefRec}
    (hn : l.most = some n) (hdf : d.params.defaults = [])
    (call : ∀ (w : World) (s₀ s₁ : Shared) (mg mb : Str → Option Value) (fa : Addr) (o : Obj) (pm cd doc : Value) (a : Addr) (vs : List Value) (ns : List Int),
      Ground q loose [] XP w s₀ mg mb s₁.heap → YP w s₁.heap →
      s₁.heap.get? fa = some o → o.data = .func (docDef d.name d.params d.body d.scope pm cd doc) → s₁.heap.CodeRec cd d.name → mg d.name = some (.ref fa) →
      s₁.heap.get? a = some { cls := .type "list", data := .seq vs.toArray } → IntsAre vs ns → ns.length ≤ n → s₁.gens = #[] →
      codeAny (model l.prog w) callerA (.call (.ref fa) ⟨[.ref a], []⟩) (fun r s' => r = .ok (.ret (.bool true)) ∧ OldK s₁.heap s'.heap ∧ s'.os = s₁.os ∧ AllBare s'.gens) s₁) :
    WalkO q loose XP YP l.row.toRowW d [] (fun f vs => PySem.call f vs) := by
  intro w s₀ s₁ mg mb G Y fa o pm cd doc dV kV ho hd hcd hD hmg hg args vals as hpre hlay hrd hwl hlo
  obtain rfl : dV = .none := Dflts.none hD hdf
  obtain rfl : kV = .none := Dflts.noKw hD
  obtain ⟨a, vs, ns, rfl, rfl, hobj, hints, hlen⟩ := script_of hn hpre hwl
  refine enter_call (codeAny_mono (call w s₀ s₁ mg mb fa o pm cd doc a vs ns G Y ho (fd_plain hd) hcd hmg hobj hints hlen hg) fun r s' hq => ?_)
  obtain ⟨rfl, h2, h3, h4⟩ := hq
  exact ⟨.inl ⟨.bool true, .bool true, [], rfl, fun _ => rfl, .bool true, post_true l _, fun _ => ⟨List.Pairwise.nil, fun _ hm => (nomatch hm)⟩⟩, h2, h3, h4⟩

/-! ### rules over ANY heap (no ledger) from facts about the written part K: the library's own take a ledger (News) for what they write -/
section
variable {prog : Program} {w : World} {A : Around} {E : Value → Shared → Prop} {s : Shared} {K : Frag}

end
end Att

namespace L2
open PySem PySem.Spec PyProof.Rows

theorem vals_ints : ∀ {vs : List Value} {ns : List Int}, IntsAre vs ns → Vals (ns.map V.int) vs
  | _, _, .nil => .nil
  | _, _, .cons n t h => .cons ⟨t, rfl⟩ (vals_ints h)

/-- nothing is tracked but the script, known to the object (or it is an object of the module) -/
def Only (H : Hp) : Prop := ∀ b, H b = none ∨ ∃ o xs, H b = some (.frz o (.lst xs))

/-- THE HEAD: the law's promise, at the heap behind the top. F, the promise of the law's def, may use that base is part of the heap (so K.In base, base.Ns mainGlobals mg stand in Mod) -/
theorem law_call {P : Program} {w : World} {K : PySem.W.Frag} {mg mb : Str → Option Value} {CX : CXT} {k : Nat} {fa a : Addr} {fd : FuncData} {x : Str} {sp : Sp} {s₁ : Shared} {vs : List Value} {ns : List Int}
    (KX : K.In s₁.heap) (hns : s₁.heap.Ns mainGlobals mg) (hb : s₁.heap.Ns builtinsNs mb) (hbb : ∀ x : Str, x ≠ "__name__" → mb x = bootBuiltins x) (hlim : s₁.heap.NoLimit) (hg : s₁.gens = #[])
    (ha : s₁.heap.get? a = some { cls := .type "list", data := .seq vs.toArray }) (hi : IntsAre vs ns) (hl : ns.length ≤ sizeLine) (hr : Room k callerA)
    (F : ∀ base : Heap, K.In base → base.Ns mainGlobals mg → FnOk P w K mg base CX k fa fd [x] sp) (hbind : ∀ (s : Shared) (u : Value), BindsTo s fd ⟨[u], []⟩ [(x, u)])
    (hsp : ∀ H : Hp, Only H → SqL K H a (ns.map V.int) → sp [.ref a] H (fun v _ => v = .bl true) fun _ _ _ => False)
    (hCX : ∀ H e s', CX [] H s₁ (fun _ _ _ => False) e s' → False) :
    codeAny (model P w) callerA (.call (.ref fa) ⟨[.ref a], []⟩) (fun r s' => r = .ok (.ret (.bool true)) ∧ OldK s₁.heap s'.heap ∧ s'.os = s₁.os ∧ AllBare s'.gens) s₁ := by
  have rv := vals_ints hi
  have lenV := hi.length
  -- from an abstract heap in which nothing but the script may be tracked
  have core : ∀ H : Hp, Only H → SqL K H a (ns.map V.int) → HOk P w H s₁.heap → (∀ b, H b ≠ none → b = a) → (H a ≠ none → K.lookup a = none) →
      codeAny (model P w) callerA (.call (.ref fa) ⟨[.ref a], []⟩) (fun r s' => r = .ok (.ret (.bool true)) ∧ OldK s₁.heap s'.heap ∧ s'.os = s₁.os ∧ AllBare s'.gens) s₁ := by
    intro H hO hS hok hA hK
    have base_of : ∀ {b : Addr} {o : Obj}, s₁.heap.get? b = some o → H b = none → (hidT s₁.heap H).get? b = some o := fun e n => hidT_get e n
    have noA : ∀ {b : Addr} {o : Obj} {es : Array DictEntry} {ep : Nat}, s₁.heap.get? b = some o → o.data = .dict es ep → H b = none := fun {b o es ep} e d => by
      cases q : H b with
      | none => rfl
      | some u =>
        have e' : b = a := hA b (by rw [q]; simp)
        subst e'
        rw [ha] at e; cases e
        have d' : Data.seq vs.toArray _ = Data.dict es ep := d
        cases d'
    have nsK : ∀ {b : Addr} {m : Str → Option Value}, s₁.heap.Ns b m → (hidT s₁.heap H).Ns b m := fun {b m} ⟨o, es, ep, e, d, r⟩ => ⟨o, es, ep, base_of e (noA e d), d, r⟩
    have hKb : K.In (hidT s₁.heap H) := fun b o e => base_of (KX b o e) (by
      cases q : H b with
      | none => rfl
      | some u =>
        have e' : b = a := hA b (by rw [q]; simp)
        subst e'
        rw [hK (by rw [q]; simp)] at e; cases e)
    have hM : Mod K mg (hidT s₁.heap H) := ⟨hKb, nsK hns, ⟨mb, nsK hb, hbb⟩, let ⟨mc, h1, h2⟩ := hlim; ⟨mc, nsK h1, h2⟩⟩
    have e0 : Env0 P w K mg (hidT s₁.heap H) callerA [] s₁ H := ⟨rfl, hM, fun b o e => of_hidT e, Nat.le_of_eq (hidT_size _ _), trivial, fun b hb => absurd (show b ∈ ([] : List Addr) from hb) (by simp), hok, .of_eq hg⟩
    refine codeAny_mono ((F _ hKb (nsK hns)).run callerA [] s₁ H ⟨[.ref a], []⟩ [.ref a] [.ref a] _ _ hr e0 (hbind s₁ (.ref a)) (.cons rfl .nil) (hsp H hO hS)) fun r s' h => ?_
    cases r with
    | error e => exact (hCX H e s' h).elim
    | ok fl =>
      cases fl with
      | next => exact False.elim h
      | brk => exact False.elim h
      | cont => exact False.elim h
      | ret u =>
        obtain ⟨v, H', os, bare, un, hok', r', q⟩ := h
        have q' : v = .bl true := q
        subst q'
        obtain rfl : u = Value.bool true := r'
        refine ⟨rfl, OldK.of_keep fun b o e => ?_, os, bare⟩
        cases q : H b with
        | none => exact un.keep b o e q (by intro z; exact absurd (show b ∈ ([] : List Addr) from z) (by simp)) (by simp)
        | some u =>
          rcases hO b with z | ⟨ob, xs, z⟩
          · rw [q] at z; cases z
          · have z2 := un.frzs b ob _ z
            obtain ⟨e1, _⟩ := hok b _ z
            obtain ⟨e2, _⟩ := hok' b _ z2
            rw [e] at e1; cases e1
            exact e2
  cases hk : K.lookup a with
  | some o =>
    -- the script is one of the module's own objects
    have e := KX a o hk
    rw [ha] at e
    cases e
    refine core (fun _ => none) (fun _ => .inl rfl) (.inr ⟨_, vs.toArray, _, hk, rfl, rfl, rfl, by rw [List.size_toArray, lenV]; exact hl, by simpa using rv⟩) (fun b u z => by have z' : (none : Option HO) = some u := z; cases z') (fun b z => absurd rfl z) fun z => absurd rfl z
  | none =>
    refine core (fun b => if b = a then some (.frz { cls := .type "list", data := .seq vs.toArray } (.lst (ns.map V.int))) else none) (fun b => ?_) (.inl (.inr ⟨{ cls := .type "list", data := .seq vs.toArray }, if_pos rfl⟩)) (fun b u z => ?_) (fun b z => ?_) fun _ => hk
    · by_cases hb : b = a
      · exact .inr ⟨_, _, if_pos hb⟩
      · exact .inl (if_neg hb)
    · by_cases hb : b = a
      · have z' := (if_pos hb).symm.trans z
        cases z'
        subst hb
        exact ⟨ha, by rw [List.length_map]; exact hl, vs, _, rv, ha⟩
      · have z' := (if_neg hb).symm.trans z
        cases z'
    · by_cases hb : b = a
      · exact hb
      · exact absurd (if_neg hb) z
end L2

namespace L2
open PySem PySem.Spec PyProof.Rows

/-- the goal that k_head leaves (case hc), from the law's promise. F gives the function object fd (K's own) once, then the promise over every base -/
theorem walk_of {l : PySem.W.OpenLaw} {n k : Nat} {q : Program} {loose : List Str} {XP : (Str → Option Value) → Heap → Prop} {YP : World → Heap → Prop} {d : DefRec} {K : Params → PySem.W.Frag} {CX : World → CXT} {sp : World → Sp} {x : Str}
    (hn : l.most = some n) (hn2 : n ≤ sizeLine) (hdf : d.params.defaults = []) (hr : Room k callerA)
    (hY : ∀ (w : World) (h : Heap), YP w h → (K w.params).In h)
    (F : ∀ (w : World) (mg : Str → Option Value) (fa : Addr) (h : Heap), (K w.params).In h → h.Ns mainGlobals mg → mg d.name = some (.ref fa) →
      ∃ fd : FuncData, (∀ (s : Shared) (u : Value), BindsTo s fd ⟨[u], []⟩ [(x, u)]) ∧
        ∀ base : Heap, (K w.params).In base → base.Ns mainGlobals mg → FnOk l.prog w (K w.params) mg base (CX w) k fa fd [x] (sp w))
    (hsp : ∀ (w : World) (H : Hp) (a : Addr) (ns : List Int), ns.length ≤ n → Only H → SqL (K w.params) H a (ns.map V.int) → sp w [.ref a] H (fun v _ => v = .bl true) fun _ _ _ => False)
    (hCX : ∀ (w : World) (H : Hp) (s : Shared) (e : Value) (s' : Shared), CX w [] H s (fun _ _ _ => False) e s' → False) :
    PySem.W.WalkO q loose XP YP l.row.toRowW d [] (fun f vs => PySem.call f vs) := by
  refine Att.attach_call hn hdf fun w s₀ s₁ mg mb fa o pm cd doc a vs ns G Y ho hd hcd hmg hobj hints hlen hg => ?_
  have KX := hY w _ Y
  obtain ⟨fd, hb, hF⟩ := F w mg fa _ KX G.T.g hmg
  exact law_call KX G.T.g G.T.b G.T.builtins G.T.nolimit hg hobj hints (Nat.le_trans hlen hn2) hr hF hb (fun H hO hS => hsp w H a ns hlen hO hS) fun H e s' => hCX w H s₁ e s'
end L2



/-! SHORT WORDS over the layer: a def of the text, its body, what a loop and a test want. -/
namespace L2
open PySem PySem.Spec PyProof.Rows

/-! ### the text by places -/
/-- the j-th statement of a class's body -/
def inClass (s : Stmt) (j : Nat) : Stmt := match s with
  | .ClassDef _ _ _ body _ _ _ _ _ _ _ => body.getD j (.Pass ⟨0, 0, 0, 0⟩)
  | _ => .Pass ⟨0, 0, 0, 0⟩
def defArgs (s : Stmt) : Arguments := match s with
  | .FunctionDef _ a _ _ _ _ _ _ _ _ => a
  | _ => { posonlyargs := [], args := [], vararg := none, kwonlyargs := [], kw_defaults := [], kwarg := none, defaults := [] }
def defBody (s : Stmt) : List Stmt := match s with
  | .FunctionDef _ _ b _ _ _ _ _ _ _ => b
  | _ => []
def defScope (s : Stmt) : Scope := match s with
  | .FunctionDef _ _ _ _ _ _ sc _ _ _ => sc
  | _ => { kind := .function, names := [], isGenerator := false, isCoroutine := false }

/-! ### no exception leaves a def -/
abbrev CX0 : CXT := fun _ _ _ _ _ _ => False
abbrev E0 : XK := fun _ _ _ => False
theorem pass0 {X : Cx} : Passes CX0 X E0 := fun _ _ _ _ _ _ _ h => h.elim

/-! ### a def (or method) of the text as it stands behind the top -/
structure Fun (K : PySem.W.Frag) (x qual : Str) (st : Stmt) (f : Addr) (fd : FuncData) : Prop where
  ex : ∃ (oc : Value) (od : Option Addr) (kV doc pm : Value) (an : Option Addr) (cdv ct : Value) (osl : Array (Option Value)),
    fd = PySem.W.fnOf x qual (defArgs st) (defBody st) (defScope st) .none kV doc pm an cdv ct ∧ K.lookup f = some ⟨oc, od, .func fd, osl⟩ ∧ PySem.W.codeIn K cdv qual = true
  kp : PySem.W.keepIn K (.ref f) = true
section
variable {P : Program} {w : World} {K : PySem.W.Frag} {mg : Str → Option Value} {base : Heap}
/-- THE RULE for a def: its body as a term of rules, and the reading of that term -/
theorem Fun.ok {x qual : Str} {st : Stmt} {f : Addr} {fd : FuncData} {N ps : List Str} {k : Nat} {sp : Sp} (F : Fun K x qual st f fd) (S : FnScope N ps (defScope st)) (len : ∀ vs H Q E, sp vs H Q E → vs.length = ps.length)
    (hbody : ∀ (cdv : Value) (A : Around) (outer : List Env) (s : Shared) (H : Hp) (vs : List V) (Q : VK) (E : XK), Room k (A.deeper (envOfC qual (defScope st) s.heap.objs.size f cdv)) → sp vs H Q E →
      ∃ t, PSs (cxOf CX0 P w K mg base N qual (defScope st) f cdv A outer s H E).nox (defBody st) t ∧ t { nx := fun _ H' => Q .non H', rt := Q } (start N vs) H) : FnOk P w K mg base CX0 (k + 1) f fd ps sp := by
  obtain ⟨oc, od, kV, doc, pm, an, cdv, ct, osl, rfl, lk, hcd⟩ := F.ex
  refine fn_of lk hcd S len fun A outer s H vs Q E hr hsp => ?_
  obtain ⟨t, h, q⟩ := hbody cdv A outer s H vs Q E hr hsp
  exact ⟨t, h.nox, q⟩
/-- how its arguments bind (no defaults): h is «fun _ _ _ _ _ _ us hl => match us, hl with | [_, _], _ => rfl», one _ a parameter -/
theorem Fun.binds {x qual : Str} {st : Stmt} {f : Addr} {fd : FuncData} {ps : List Str} (F : Fun K x qual st f fd)
    (h : ∀ (kV doc pm : Value) (an : Option Addr) (cdv ct : Value) (us : List Value), us.length = ps.length → bindArgs (PySem.W.fnOf x qual (defArgs st) (defBody st) (defScope st) .none kV doc pm an cdv ct) ⟨us, []⟩ = pure (ps.zip us)) : Binds K fd ps [] := by
  obtain ⟨oc, od, kV, doc, pm, an, cdv, ct, osl, rfl, lk, hcd⟩ := F.ex
  exact .all (h kV doc pm an cdv ct)
theorem fun_mk {x qual : Str} {st : Stmt} {f : Addr} {oc : Value} {od an : Option Addr} {osl : Array (Option Value)} {kV doc pm cdv ct : Value} (l : K.lookup f = some ⟨oc, od, .func (PySem.W.fnOf x qual (defArgs st) (defBody st) (defScope st) .none kV doc pm an cdv ct), osl⟩)
    (c : PySem.W.codeIn K cdv qual = true) (k : PySem.W.keepIn K (.ref f) = true) : Fun K x qual st f (PySem.W.fnOf x qual (defArgs st) (defBody st) (defScope st) .none kV doc pm an cdv ct) := ⟨⟨oc, od, kV, doc, pm, an, cdv, ct, osl, rfl, l, c⟩, k⟩
end
theorem hu_of {A : Around} {k : Nat} (hr : Room k A) : A.units + 1 < cLine := Nat.lt_of_le_of_lt (Nat.add_le_add_left (by decide : 1 ≤ 64) _) hr.units
theorem small1000 {n : Nat} (h : n ≤ 1000) : n < sizeLine := Nat.lt_of_le_of_lt h (by decide)

/-! ### expressions in short: the name that stands in the i-th slot -/
section
variable {X : Cx}
theorem pv (i : Nat) {x : Str} {pos : Pos} (hN : X.N[i]? = some x := by rfl) (hv : Vis X.env.scope x := by first | exact Or.inl rfl | exact Or.inr (Or.inl rfl) | exact Or.inr (Or.inr rfl)) (hd : (x == ("__debug__" : Str)) = false := by decide)
    (hcd : (x == ("__classdict__" : Str)) = false := by decide) : PE X (.Name x pos) (tVar i) := pe_var hN hv hd hcd
end

/-! ### tests -/
theorem iteF {A B : Prop} (h : B) : if false = true then A else B := by
  rw [if_neg Bool.false_ne_true]
  exact h
theorem iteT {A B : Prop} (h : A) : if true = true then A else B := by
  rw [if_pos rfl]
  exact h
theorem ite2 {c A B : Prop} [Decidable c] (h1 : c → A) (h2 : ¬ c → B) : if c then A else B := by
  by_cases h : c
  · rw [if_pos h]
    exact h1 h
  · rw [if_neg h]
    exact h2 h
/-! ### heaps -/
/-- all that was tracked is as it was -/
def Same (H H' : Hp) : Prop := ∀ b o, H b = some o → H' b = some o
theorem Same.refl (H : Hp) : Same H H := fun _ _ h => h
theorem Same.trans {H H1 H2 : Hp} (a : Same H H1) (b : Same H1 H2) : Same H H2 := fun c o h => b c o (a c o h)
theorem Same.free {H H' : Hp} (e : Same H H') {l : Addr} (h : H' l = Option.none) : H l = Option.none := by
  cases q : H l with
  | none => rfl
  | some o =>
    rw [e l o q] at h
    cases h
theorem Same.seq {K : PySem.W.Frag} {H H' : Hp} {a : Addr} {xs : List V} (e : Same H H') (h : SqL K H a xs) : SqL K H' a xs := by
  rcases h with (h | ⟨o, h⟩) | h
  · exact .inl (.inl (e _ _ h))
  · exact .inl (.inr ⟨o, e _ _ h⟩)
  · exact .inr h

end L2

set_option Elab.async false
set_option linter.all false
set_option maxRecDepth 100000
set_option maxHeartbeats 4000000

/-! ### list comprehensions, over the layer -/
namespace L2
open PySem PySem.Spec PyProof.Rows

/-- the cells that a block takes from the frame around it -/
def clOf (env : Env) : List (Str × NameKind) → List (Str × Addr) → List (Str × Addr)
  | [], cs => cs
  | (n, k) :: r, cs => clOf env r (if (k == .free) = true then (match env.cells.lookup n with | some c => (n, c) :: cs | none => cs) else cs)

theorem clOf_run {env : Env} : ∀ (names : List (Str × NameKind)) (cs : List (Str × Addr)), (∀ p ∈ names, p.2 = .free → ∃ c, env.cells.lookup p.1 = some c) →
    (forIn names cs fun (p : Str × NameKind) (r : List (Str × Addr)) => (if (p.2 == .free) = true then do
        let c ← cellOf env p.1
        pure (ForInStep.yield ((p.1, c) :: r))
      else pure (ForInStep.yield r) : Sem (ForInStep (List (Str × Addr))))) = pure (clOf env names cs)
  | [], cs, _ => rfl
  | (n, k) :: rest, cs, h => by
    have ih := fun cs' => clOf_run rest cs' fun p hp => h p (List.mem_cons_of_mem _ hp)
    rw [List.forIn_cons]
    cases hk : (k == NameKind.free) with
    | true =>
      obtain ⟨c, hc⟩ := h (n, k) List.mem_cons_self (eq_of_beq hk)
      have e1 : cellOf env n = pure c := by unfold cellOf; rw [hc]
      have e2 : clOf env ((n, k) :: rest) cs = clOf env rest ((n, c) :: cs) := by simp only [clOf, hk, if_true, hc]
      rw [e2, ← ih]
      simp only [hk, if_true, e1, pure_bind]
    | false =>
      have e2 : clOf env ((n, k) :: rest) cs = clOf env rest cs := by simp only [clOf, hk, Bool.false_eq_true, if_false]
      rw [e2, ← ih]
      simp only [hk, Bool.false_eq_true, if_false, pure_bind]
theorem closure_is {env : Env} {scope : Scope} (h : ∀ p ∈ scope.names, p.2 = .free → ∃ c, env.cells.lookup p.1 = some c) : closureFor scope env = pure (clOf env scope.names []) := by
  have e := clOf_run (env := env) scope.names [] h
  unfold closureFor
  simp only [bind_pure]
  exact e
theorem clOf_sub {env : Env} : ∀ (names : List (Str × NameKind)) (cs : List (Str × Addr)), (∀ x c, cs.lookup x = some c → env.cells.lookup x = some c) →
    ∀ x c, (clOf env names cs).lookup x = some c → env.cells.lookup x = some c
  | [], cs, h, x, c, e => h x c e
  | (n, k) :: rest, cs, h, x, c, e => by
    refine clOf_sub rest _ (fun y d z => ?_) x c e
    split at z
    · split at z
      · rename_i c' hc'
        rw [List.lookup_cons] at z
        cases q : y == n with
        | true => rw [q] at z; cases z; rw [eq_of_beq q]; exact hc'
        | false => rw [q] at z; exact h y d z
      · exact h y d z
    · exact h y d z
theorem clOf_has {env : Env} : ∀ (names : List (Str × NameKind)) (cs : List (Str × Addr)) (x : Str), ((cs.lookup x).isSome = true ∨ ((x, NameKind.free) ∈ names ∧ ∃ c, env.cells.lookup x = some c)) →
    ∃ c, (clOf env names cs).lookup x = some c
  | [], cs, x, h => by
    rcases h with h | ⟨h, _⟩
    · exact Option.isSome_iff_exists.mp h
    · cases h
  | (n, k) :: rest, cs, x, h => by
    refine clOf_has rest _ x ?_
    have grow : (cs.lookup x).isSome = true → (List.lookup x (if (k == .free) = true then (match env.cells.lookup n with | some c => (n, c) :: cs | none => cs) else cs)).isSome = true := fun z => by
      split
      · split
        · rw [List.lookup_cons]
          cases x == n with
          | true => rfl
          | false => exact z
        · exact z
      · exact z
    rcases h with h | ⟨h, c, hc⟩
    · exact .inl (grow h)
    · rcases List.mem_cons.mp h with z | z
      · cases z
        refine .inl ?_
        simp [hc, List.lookup_cons]
      · exact .inr ⟨z, c, hc⟩

def relK (env : Env) (n : Str) (k : NameKind) : NameKind := if (k == .free && env.scope.kind == .function && env.kindOf n == some .cell) = true then .cell else k
theorem lookup_rel (env : Env) : ∀ (l : List (Str × NameKind)) (x : Str),
    (l.map fun (n, k) => if (k == NameKind.free && env.scope.kind == .function && env.kindOf n == some .cell) then (n, NameKind.cell) else (n, k)).lookup x = (l.lookup x).map (relK env x)
  | [], _ => rfl
  | (n, k) :: r, x => by
    have ih := lookup_rel env r x
    have e : (if (k == NameKind.free && env.scope.kind == .function && env.kindOf n == some .cell) = true then (n, NameKind.cell) else (n, k)) = (n, relK env n k) := by
      unfold relK; split <;> rfl
    rw [List.map_cons]
    show List.lookup x ((if (k == NameKind.free && env.scope.kind == .function && env.kindOf n == some .cell) = true then (n, NameKind.cell) else (n, k)) :: _) = _
    rw [e, List.lookup_cons, List.lookup_cons]
    cases q : x == n with
    | true => rw [eq_of_beq q]; rfl
    | false => exact ih
theorem relK_vis {env : Env} {n : Str} {k : NameKind} (h : relK env n k = .cell ∨ relK env n k = .free) : k = .cell ∨ k = .free := by
  unfold relK at h
  split at h
  · rename_i q
    simp only [Bool.and_eq_true] at q
    exact .inr (eq_of_beq q.1.1)
  · exact h

/-- one turn after another; nothing is raised -/
theorem comp_loop {prog : Program} {w : World} {A : Around} {R : Result → Shared → Prop} {s : Shared} {elt target iter : Expr} {ifs : List Expr} {scope : Scope} {pos : Pos} {it acc : Value} {env : Env} (J : Nat → Shared → Prop)
    (turn : ∀ n s, J n s → wpAny (model prog w) A (pyNext it) (fun r s1 => match r with
      | none => R (.ok .next) s1
      | some v => wpAny (model prog w) A (letOwnedTupleGo target it v) (fun _ s2 => wpAny (model prog w) A (assign target env v) (fun _ s3 =>
          wpAny (model prog w) A (forIn ifs true fun c r => if r = true then do let ok ← isTrue c env (eval c env); pure (ForInStep.yield ok) else pure (ForInStep.yield r)) (fun ok s4 =>
            if ok = true then wpAny (model prog w) A (eval elt env) (fun x s5 => wpAny (model prog w) A (call (.builtin "list.append") [acc, x]) (fun _ s6 => ∃ m, m < n ∧ J m s6) (fun _ _ => False) s5) (fun _ _ => False) s4
            else ∃ m, m < n ∧ J m s4) (fun _ _ => False) s3) (fun _ _ => False) s2) (fun _ _ => False) s1) (fun _ _ => False) s)
    (n : Nat) (h : J n s) : codeAny (model prog w) A (.compLoop (.ListComp elt [⟨target, iter, ifs, 0⟩] scope pos) 0 it acc env) R s := by
  refine codeAny_loop rfl J (fun k s' hk => ?_) n h
  show wpAny _ A (Sem.onRaise (compTurn (.ListComp elt [⟨target, iter, ifs, 0⟩] scope pos) 0 it acc env) (fun x => do noteFrame x env; theTreesLotGoes x)) _ _ s'
  refine wpAny_noted ?_
  rw [compTurn_list]
  refine wpAny_bind (wpAny_standAt (wpAny_bind (wpAny_mono (turn k s' hk) (fun r s1 q1 => ?_) fun _ _ f => f.elim)))
  cases r with
  | none => exact wpAny_pure q1
  | some v =>
    refine wpAny_bind (wpAny_mono q1 (fun _ s2 q2 => wpAny_bind (wpAny_mono q2 (fun _ s3 q3 => wpAny_bind (wpAny_mono q3 (fun ok s4 q4 => ?_) fun _ _ f => f.elim)) fun _ _ f => f.elim)) fun _ _ f => f.elim)
    cases ok with
    | false => exact wpAny_pure ⟨rfl, q4⟩
    | true => exact wpAny_bind (wpAny_bind (wpAny_mono q4 (fun x s5 q5 => wpAny_bind (wpAny_mono q5 (fun _ s6 q6 => wpAny_pure (wpAny_pure ⟨rfl, q6⟩)) fun _ _ f => f.elim)) fun _ _ f => f.elim))

/-- the context of a comprehension's block -/
def cxC (X : Cx) (N' : List Str) (scope : Scope) (s3 : Shared) (H3 : Hp) (fp : List Addr) (pn : List (Addr × Obj)) : Cx where
  prog := X.prog
  w := X.w
  K := X.K
  mg := X.mg
  base := X.base
  A := X.A
  N := N'
  s₀ := s3
  H₀ := H3
  env := compEnvC scope (clOf X.env scope.names []) s3.heap.objs.size X.env
  outer := X.stack
  stack := X.stack
  ex := fp
  fn := fun _ => false
  calm := X.calm
  pn := pn
  xe := fun _ _ => False
/-- what is fixed of a comprehension's names: N' its own and those it takes from around; src: where these lie there -/
structure CScope (X : Cx) (N' : List Str) (src : List (Option Nat)) (sc : Scope) : Prop where
  kind : sc.kind = .function
  nocell : ∀ y ∈ sc.names, y.2 ≠ .cell
  loc : ∀ y ∈ sc.names, y.2 = .local → sc.names.lookup y.1 = some .local
  fv : ∀ y ∈ sc.names, y.2 = .free → X.env.kindOf y.1 = some .cell ∨ X.env.kindOf y.1 = some .free
  len : src.length = N'.length
  src : ∀ (i : Nat) (x : Str) (j : Nat), N'[i]? = some x → src[i]? = some (some j) → X.N[j]? = some x ∧ sc.names.lookup x = some .free
def srcSt (src : List (Option Nat)) (σ : St) : St := src.map fun o => match o with | none => none | some j => (σ[j]?).join

/-- the tests of a clause -/
def PF (X : Cx) (ifs : List Expr) (t : TT) : Prop :=
  ∀ (pins : List (Addr × Obj)) (s : Shared) (σ : St) (H : Hp) (Q : Bool → Hp → Prop), Inv X pins σ H s → t σ H Q →
    wpAny (model X.prog X.w) X.A (forIn ifs true fun c r => if r = true then do let ok ← isTrue c X.env (eval c X.env); pure (ForInStep.yield ok) else pure (ForInStep.yield r)) (TP X pins σ Q) X.xe s
theorem pf_nil {X : Cx} : PF X [] (fun _ H Q => Q true H) := fun _ _ _ H _ I h => wpAny_tests_nil ⟨H, I, h⟩
theorem pf_one {X : Cx} {c : Expr} {t : TT} (hc : PT X c t) : PF X [c] t := fun pins s σ H Q I h => wpAny_tests_one (hc pins s σ H Q I h)

theorem Un.ahead {fs ex : List Addr} {H H' : Hp} {h h1 h' : Heap} (u : Un fs ex H H' h h1) (k : ∀ b o, b < h.objs.size → h1.get? b = some o → h'.get? b = some o) : Un fs ex H H' h h' where
  keep := fun b o e n hb hx => k b o (Heap.lt_size e) (u.keep b o e n hb hx)
  slot := fun b o e n hb hx => by
    obtain ⟨sl, q⟩ := u.slot b o e n hb hx
    exact ⟨sl, k b _ (Heap.lt_size e) q⟩
  free := u.free
  there := fun b o e hx => by
    obtain ⟨o', q⟩ := u.there b o e hx
    exact ⟨o', k b _ (Heap.lt_size e) q⟩
  tups := u.tups
  frzs := u.frzs
  tbls := u.tbls

section
variable {X : Cx} {N' : List Str} {src : List (Option Nat)} {sc : Scope} {pins : List (Addr × Obj)} {σ : St} {H : Hp} {s3 : Shared} {fp : List Addr} {h1 : Heap} {tk : Nat}
/-- the block begins -/
theorem cx_start (S : CScope X N' src sc) (I : Inv X pins σ H s3) (hf : ∀ b ∈ fp, FpOk X pins H b) (ht : ∀ b ∈ fp, b < s3.heap.objs.size)
    (ns : h1.Ns s3.heap.objs.size fun _ => none) (kp : ∀ b o, s3.heap.get? b = some o → h1.get? b = some o) :
    Inv (cxC X N' sc s3 H fp (X.pn ++ pins)) [] (srcSt src σ) H { s3 with heap := h1, toks := tk } := by
  have hcl : ∀ x c, (clOf X.env sc.names []).lookup x = some c → X.env.cells.lookup x = some c := clOf_sub sc.names [] fun x c e => by cases e
  have old : ∀ x c, (clOf X.env sc.names []).lookup x = some c → ∃ o, s3.heap.get? c = some o := fun x c e => by
    obtain ⟨v, o, ho, _⟩ := I.cell x c (hcl x c e)
    exact ⟨o, ho⟩
  have fvh : ∀ x, (x, NameKind.free) ∈ sc.names → ∃ c, X.env.cells.lookup x = some c := fun x hx => I.ok.has x (S.fv _ hx rfl)
  have stkL : ∀ b, b ≠ X.env.locals → b ∉ X.fs → b ∉ frs X.stack := fun b h1 h2 hb => (List.mem_cons.mp (I.stkSub b hb)).elim h1 h2
  have kindOf_eq : ∀ x, (compEnvC sc (clOf X.env sc.names []) s3.heap.objs.size X.env).kindOf x = (sc.names.lookup x).map (relK X.env x) := fun x => lookup_rel X.env sc.names x
  refine ⟨⟨I.ok.mod, S.kind, I.ok.glob, I.ok.blt, Nat.le_refl _, fun x y c e1 e2 => I.ok.inj x y c (hcl x c e1) (hcl y c e2), fun x hx => ?_, fun x c hf => absurd hf Bool.false_ne_true, I.ok.hd, I.ok.frames, .inl rfl, fun b hb => ?_, I.bs, Nat.le_trans I.ok.bsz I.sz,
    fun b o e hb => ?_, fun b hb => ?_, I.stack, I.stkFree⟩, rfl, I.bare, Un.kept kp, ⟨_, ns, fun i x v e1 e2 e3 => ?_⟩, fun x c e => ?_, I.hok.fresh (Nat.le_refl _), fun x c e => I.freeC x c (hcl x c e), fun p hp => ?_, I.hok.kept kp, ?_⟩
  · -- has
    have hx' : (sc.names.lookup x).map (relK X.env x) = some .cell ∨ (sc.names.lookup x).map (relK X.env x) = some .free := by
      rw [← kindOf_eq x]; exact hx
    cases q : sc.names.lookup x with
    | none => rw [q] at hx'; rcases hx' with z | z <;> cases z
    | some k =>
      rw [q] at hx'
      have hk : k = .cell ∨ k = .free := relK_vis (env := X.env) (n := x) (hx'.imp (fun z => Option.some.inj z) fun z => Option.some.inj z)
      have hm := PySem.mem_of_lookup q
      rcases hk with rfl | rfl
      · exact absurd rfl (S.nocell _ hm)
      · exact clOf_has sc.names [] x (.inr ⟨hm, fvh x hm⟩)
  · -- exf
    obtain ⟨f0, f1, f2, f3, f4, f5⟩ := hf b hb
    exact ⟨Nat.ne_of_lt (ht b hb), fun x c e => f4 x c (hcl x c e)⟩
  · -- noex
    obtain ⟨f0, f1, f2, f3, f4, f5⟩ := hf b hb
    rcases f3 with z | z
    · exact I.ok.noex b o e z
    · exact absurd (Nat.lt_of_lt_of_le (Heap.lt_size e) (Nat.le_trans I.ok.bsz z)) (Nat.lt_irrefl _)
  · -- exfs
    obtain ⟨f0, f1, f2, f3, f4, f5⟩ := hf b hb
    exact stkL b f1 f2
  · -- loc
    have e2' : (srcSt src σ)[i]? = some (some v) := e2
    unfold srcSt at e2'
    rw [List.getElem?_map] at e2'
    cases q : src[i]? with
    | none => rw [q] at e2'; cases e2'
    | some oj =>
      rw [q] at e2'
      cases oj with
      | none => cases e2'
      | some j =>
        have e4 : (σ[j]?).join = some v := Option.some.inj e2'
        have e5 : σ[j]? = some (some v) := by
          cases r : σ[j]? with
          | none => rw [r] at e4; cases e4
          | some z => rw [r] at e4; cases z with
            | none => cases e4
            | some y => cases e4; rfl
        obtain ⟨hN, hfr⟩ := S.src i x j e1 q
        have hm := PySem.mem_of_lookup hfr
        have kx := S.fv _ hm rfl
        obtain ⟨m, hn, hl⟩ := I.loc
        obtain ⟨u, r, l⟩ := hl j x v hN e5 (.inr kx)
        refine ⟨u, r, ?_⟩
        rcases l with ⟨k1, _⟩ | ⟨_, c, hc, hcell⟩
        · rcases kx with z | z <;> (rw [z] at k1; cases k1)
        · obtain ⟨c', hc'⟩ := clOf_has (env := X.env) sc.names [] x (.inr ⟨hm, c, hc⟩)
          have e6 : c' = c := by
            have := hcl x c' hc'
            rw [hc] at this
            exact (Option.some.inj this).symm
          subst e6
          refine .inr ⟨?_, c', hc', ?_⟩
          · have : (compEnvC sc (clOf X.env sc.names []) s3.heap.objs.size X.env).kindOf x = some (relK X.env x .free) := by rw [kindOf_eq x, hfr]; rfl
            show (compEnvC sc (clOf X.env sc.names []) s3.heap.objs.size X.env).kindOf x = some .cell ∨ (compEnvC sc (clOf X.env sc.names []) s3.heap.objs.size X.env).kindOf x = some .free
            rw [this]
            unfold relK
            split
            · exact .inl rfl
            · exact .inr rfl
          · obtain ⟨o, ho, hd⟩ := hcell
            exact ⟨o, kp _ o ho, hd⟩
  · -- cell
    obtain ⟨v, o, ho, hd⟩ := I.cell x c (hcl x c e)
    exact ⟨v, o, kp _ o ho, hd⟩
  · -- pin
    have hp' : p ∈ X.pn ++ pins := (List.mem_append.mp hp).elim id fun z => by cases z
    obtain ⟨a1, a2, a3, a4, a5⟩ := I.pin p hp'
    exact ⟨kp _ _ a1, a2, Nat.ne_of_lt (Heap.lt_size a1), stkL p.1 a3 a4, a5⟩
  · show (srcSt src σ).length = N'.length
    unfold srcSt
    rw [List.length_map]
    exact S.len

/-- the block ends -/
theorem cx_end {s1 : Shared} {σ' : St} {H' : Hp} {h' : Heap} (I : Inv X pins σ H s3) (hf : ∀ b ∈ fp, FpOk X pins H b) (I' : Inv (cxC X N' sc s3 H fp (X.pn ++ pins)) [] σ' H' s1)
    (sb : Heap.SameBut s3.heap.objs.size s1.heap h') : Inv X pins σ H' { s1 with heap := h' } := by
  have fr : H' s3.heap.objs.size = none := I'.free
  refine I.call' (s' := { s1 with heap := h' }) (ch := fp) I'.os ?_ ?_ I'.bare fun b hb => ?_
  · exact Un.ahead (h := s3.heap) (h1 := s1.heap) I'.base fun b o hb e => sb.extBut b o (Nat.ne_of_lt hb) e
  · exact fun b u e => (I'.hok b u e).stay (fun c v hc q => sb.extBut c v (by
      intro z
      rcases hc with y | y
      · rw [← y, z, fr] at e; cases e
      · rw [z, fr] at y; cases y) q) (fun _ q => q) fun _ _ q => q
  · obtain ⟨f0, f1, f2, f3, f4, f5⟩ := hf b hb
    exact ⟨f3, f1, f4, fun p hp => f5 p hp⟩
end

/-- what a comprehension is to keep, turn by turn: W the invariant by the turn and a measure, over the block's names and the heap; l the new list -/
@[irreducible] def CWant (J : It) (g : TG) (tt : TT) (te : TE) (Q : VK) (σ0 : St) (H0 : Hp) (l : Addr) : Prop := ∃ W : Nat → Nat → St → Hp → Prop, (∃ m, W 0 m σ0 H0) ∧
  ∀ i m σ' H', W i m σ' H' → (J.stop i H' ∧ Q (.ref l) H') ∨ (J.go i H' ∧ ∃ N : St → Hp → Prop, (∀ σ3 H3, N σ3 H3 → ∃ m', m' < m ∧ W (i + 1) m' σ3 H3) ∧ ∀ x H2, J.yld i H' x H2 → g x σ' H2 fun σ3 H3 => tt σ3 H3 fun b H4 =>
    if b = true then te σ3 H4 fun y H5 => ∃ xs, H5 l = some (.lst xs) ∧ xs.length < sizeLine ∧ N σ3 (upd H5 l (.lst (xs ++ [y]))) else N σ3 H4)
/-- [elt for tg in iter if ..] -/
def tComp (wi : TI) (src : List (Option Nat)) (g : TG) (tt : TT) (te : TE) : TE := fun σ H Q => wi σ H fun J H1 => ∀ l, H1 l = none → CWant J g tt te Q (srcSt src σ) (upd H1 l (.lst [])) l

/-- the core: fin says what is wanted where the block's turns are over -/
theorem comp_core {X : Cx} {N' : List Str} {src : List (Option Nat)} {sc : Scope} {elt tg iter : Expr} {ifs : List Expr} {pos pos' : Pos} {wi : TI} {g : TG} {tt : TT} {te : TE} {use : Option (Value → Sem Unit)} {R : Value → Shared → Prop} (hc : X.calm = true) (S : CScope X N' src sc)
    (hi : PI X tg iter wi) (hg : ∀ s3 H3 fp pn, PG (cxC X N' sc s3 H3 fp pn) tg g) (ht : ∀ s3 H3 fp pn, PF (cxC X N' sc s3 H3 fp pn) ifs tt) (he : ∀ s3 H3 fp pn, PE (cxC X N' sc s3 H3 fp pn) elt te)
    (hs : ∀ x, foldedSetIterable iter X.env x = pure x) {pins : List (Addr × Obj)} {s : Shared} {σ : St} {H : Hp} {Q : VK} (I : Inv X pins σ H s) (h : tComp wi src g tt te σ H Q)
    (fin : ∀ s3 H3 fp σ4 H4 s5 l, Inv X pins σ H3 s3 → (∀ b ∈ fp, FpOk X pins H3 b) → Inv (cxC X N' sc s3 H3 fp (X.pn ++ pins)) [] σ4 H4 s5 → Q (.ref l) H4 →
      compPost (model X.prog X.w) X.A X.xe use R (.ref l) s3.heap.objs.size (.ok .next) s5) :
    wpAny (model X.prog X.w) X.A (comprehension (.ListComp elt [⟨tg, iter, ifs, 0⟩] sc pos) sc X.env pos' (newList []) false (eval iter X.env) use) R X.xe s := by
  refine wpAny_comprehension_free (use := use) (cl := clOf X.env sc.names []) rfl hs (closure_is fun p hp e => I.ok.has p.1 (S.fv p hp e)) S.kind S.loc ?_
  refine thn (hi pins s σ H _ I h) fun v s1 h1 => thn h1 fun itv s2 h2 => ?_
  obtain ⟨it, fp, tn, J, H2, rfl, I2, T, st2, f2, q⟩ := h2
  have q' := q s2.heap.objs.size (I2.hok.fresh (Nat.le_refl _))
  unfold CWant at q'
  obtain ⟨W, ⟨m0, w0⟩, turn⟩ := q'
  refine wpAny_newObj_type (wpAny_newFunctionEnv S.nocell (by intro y hy; simp at hy) (fun ha hns hsb => ?_) S.kind)
  have I3 : Inv X pins σ (upd H2 s2.heap.objs.size (.lst [])) { s2 with heap := s2.heap.push { cls := .type "list", dict := none, data := .seq ([] : List Value).toArray } } :=
    I2.laid (t' := s2.toks) (fun b u e => Heap.get?_push_of_some _ e) (Nat.le_refl _) ⟨Nat.zero_le _, [], 0, .nil, Heap.get?_push_size _ rfl⟩
  have hfl : ∀ b ∈ fp, b < s2.heap.objs.size := fun b hb => by
    obtain ⟨o, e, _⟩ := T.obj 0 _ st2 b hb
    exact Heap.lt_size e
  have f3 : ∀ b ∈ fp, FpOk X pins (upd H2 s2.heap.objs.size (.lst [])) b := fun b hb => ⟨by rw [upd_ne (Nat.ne_of_lt (hfl b hb))]; exact (f2 b hb).1, (f2 b hb).2⟩
  generalize hs3 : ({ s2 with heap := s2.heap.push { cls := .type "list", dict := none, data := .seq ([] : List Value).toArray } } : Shared) = s3 at *
  have hsz : s2.heap.objs.size < s3.heap.objs.size := by rw [← hs3]; show s2.heap.objs.size < (s2.heap.push _).objs.size; rw [Heap.size_push]; exact Nat.lt_succ_self _
  have kp : ∀ b o, s3.heap.get? b = some o → ha.get? b = some o := fun b o e => hsb.extBut b o (Nat.ne_of_lt (Heap.lt_size e)) (Heap.get?_push_of_some _ e)
  have st3 : tn 0 ha := T.keep 0 _ _ st2 fun b hb o e => kp b o (by rw [← hs3]; exact Heap.get?_push_of_some _ e)
  have I4 : Inv (cxC X N' sc s3 (upd H2 s2.heap.objs.size (.lst [])) fp (X.pn ++ pins)) [] (srcSt src σ) (upd H2 s2.heap.objs.size (.lst [])) { s3 with heap := ha, toks := s3.toks + ([] : List (Str × Value)).length } :=
    cx_start S I3 f3 (fun b hb => Nat.lt_trans (hfl b hb) hsz) hns kp
  have loop : codeAny (model X.prog X.w) X.A (.compLoop (.ListComp elt [⟨tg, iter, ifs, 0⟩] sc pos) 0 (.ref it) (.ref s2.heap.objs.size) (compEnvC sc (clOf X.env sc.names []) s3.heap.objs.size X.env))
      (compPost (model X.prog X.w) X.A X.xe use R (.ref s2.heap.objs.size) s3.heap.objs.size) { s3 with heap := ha, toks := s3.toks + ([] : List (Str × Value)).length } := by
    refine comp_loop (fun n s' => ∃ i σ' H', Inv (cxC X N' sc s3 (upd H2 s2.heap.objs.size (.lst [])) fp (X.pn ++ pins)) [] σ' H' s' ∧ tn i s'.heap ∧ (∀ b ∈ fp, H' b = none) ∧ W i n σ' H') ?_ m0 ⟨0, _, _, I4, st3, fun b hb => (f3 b hb).1, w0⟩
    rintro n s4 ⟨i, σ4, H4, J4, st4, fr4, w4⟩
    have stat : ∀ {H' : Hp}, (∀ b ∈ fp, H' b = none) → ∀ b ∈ fp, FpOk (cxC X N' sc s3 (upd H2 s2.heap.objs.size (.lst [])) fp (X.pn ++ pins)) [] H' b := fun hn b hb =>
      ⟨hn b hb, (I4.ok.exf b hb).1, I4.ok.exfs b hb, .inl hb, fun x c e => (I4.ok.exf b hb).2 x c e, fun p hp => (f3 b hb).2.2.2.2.2 p ((List.mem_append.mp hp).elim id fun z => by cases z)⟩
    rcases turn i n σ4 H4 w4 with ⟨stop, qn⟩ | ⟨go, N, hN, step⟩
    · refine thn (T.done (cxC X N' sc s3 (upd H2 s2.heap.objs.size (.lst [])) fp (X.pn ++ pins)) rfl rfl rfl hc i [] s4 σ4 H4 _ J4 (stat fr4) st4 stop) fun r s5 ⟨hr, J5⟩ => ?_
      subst hr
      exact fin s3 _ fp σ4 H4 s5 _ I3 f3 J5 qn
    · refine thn (T.item (cxC X N' sc s3 (upd H2 s2.heap.objs.size (.lst [])) fp (X.pn ++ pins)) rfl rfl rfl hc i [] s4 σ4 H4 _ J4 (stat fr4) st4 go) fun r s5 ⟨u, hr, h5⟩ => ?_
      subst hr
      refine thn h5 fun _ s6 ⟨x, H6, J6, r6, y6, st6, fr6⟩ => ?_
      have J6' := J6.pinned (stat fr6) (T.obj _ _ st6)
      have back : ∀ {pl : List (Addr × Obj)} {σ7 : St} {H7 : Hp} {s7 : Shared}, Inv (cxC X N' sc s3 (upd H2 s2.heap.objs.size (.lst [])) fp (X.pn ++ pins)) ([] ++ pinsAt fp s6.heap) σ7 H7 s7 → N σ7 H7 →
          ∃ m', m' < n ∧ ∃ i σ' H', Inv (cxC X N' sc s3 (upd H2 s2.heap.objs.size (.lst [])) fp (X.pn ++ pins)) [] σ' H' s7 ∧ tn i s7.heap ∧ (∀ b ∈ fp, H' b = none) ∧ W i m' σ' H' := fun {pl σ7 H7 s7} J7 w7 => by
        obtain ⟨m', hm, w7⟩ := hN _ _ w7
        have pinned : ∀ b ∈ fp, ∀ o, s6.heap.get? b = some o → s7.heap.get? b = some o ∧ H7 b = none := fun b hb o e => by
          have := J7.pin (b, o) (List.mem_append_right _ (List.mem_append_right _ (mem_pinsAt hb e)))
          exact ⟨this.1, this.2.1⟩
        refine ⟨m', hm, i + 1, σ7, H7, J7.unpinned, T.keep _ _ _ st6 fun b hb o e => (pinned b hb o e).1, fun b hb => ?_, w7⟩
        obtain ⟨o, e, _⟩ := T.obj _ _ st6 b hb
        exact (pinned b hb o e).2
      refine thn (hg s3 _ fp _ _ s6 σ4 H6 x u _ J6' r6 (step x H6 y6)) fun _ s7 ⟨σ7, H7, J7, q7⟩ => ?_
      refine thn (ht s3 _ fp _ _ s7 σ7 H7 _ J7 q7) fun ok s8 ⟨H8, J8, q8⟩ => ?_
      cases ok with
      | false =>
        rw [if_neg Bool.false_ne_true] at q8 ⊢
        exact back (pl := []) J8 q8
      | true =>
        rw [if_pos rfl] at q8 ⊢
        refine thn (he s3 _ fp _ _ s8 σ7 H8 _ J8 q8) fun y s9 ⟨yv, H9, J9, r9, xs, hl9, hz9, q9⟩ => ?_
        refine thn (mt_append _ s9 σ7 H9 (.ref s2.heap.objs.size) [yv] (.ref s2.heap.objs.size) [y] (fun _ H' => N σ7 H') J9 rfl (.cons r9 .nil) ⟨_, xs, yv, rfl, rfl, hl9, hz9, q9⟩) fun _ s10 ⟨_, H10, J10, _, q10⟩ => ?_
        exact back (pl := []) J10 q10
  exact codeAny_compStart_list loop (T.self X.A 0 _ _ _ st3 loop)
theorem pe_comp {X : Cx} {N' : List Str} {src : List (Option Nat)} {sc : Scope} {elt tg iter : Expr} {ifs : List Expr} {pos : Pos} {wi : TI} {g : TG} {tt : TT} {te : TE} (hc : X.calm = true) (S : CScope X N' src sc)
    (hi : PI X tg iter wi) (hg : ∀ s3 H3 fp pn, PG (cxC X N' sc s3 H3 fp pn) tg g) (ht : ∀ s3 H3 fp pn, PF (cxC X N' sc s3 H3 fp pn) ifs tt) (he : ∀ s3 H3 fp pn, PE (cxC X N' sc s3 H3 fp pn) elt te)
    (hs : ∀ x, foldedSetIterable iter X.env x = pure x := by intro _; rfl) : PE X (.ListComp elt [⟨tg, iter, ifs, 0⟩] sc pos) (tComp wi src g tt te) := by
  intro pins s σ H Q I h
  rw [eval_ListComp]
  refine comp_core (use := none) hc S hi hg ht he hs I h fun s3 H3 fp σ4 H4 s5 l I3 f3 J5 q => ?_
  obtain ⟨m, hn, _⟩ := J5.loc
  exact ⟨m, hn, fun h' sb => ⟨.ref l, H4, cx_end I3 f3 J5 sb, rfl, q⟩⟩
/-- name = [elt for tg in iter if ..] -/
theorem ps_setC {X : Cx} {N' : List Str} {src : List (Option Nat)} {sc : Scope} {elt tg iter : Expr} {ifs : List Expr} {pos spos px : Pos} {wi : TI} {g : TG} {tt : TT} {te : TE} {i : Nat} {x : Str} (hN : X.N.Nodup) (hi0 : X.N[i]? = some x) (hx : Loc X.env.scope x) (hc : X.calm = true) (S : CScope X N' src sc)
    (hi : PI X tg iter wi) (hg : ∀ s3 H3 fp pn, PG (cxC X N' sc s3 H3 fp pn) tg g) (ht : ∀ s3 H3 fp pn, PF (cxC X N' sc s3 H3 fp pn) ifs tt) (he : ∀ s3 H3 fp pn, PE (cxC X N' sc s3 H3 fp pn) elt te)
    (hsw : swapsWith (.ListComp elt [⟨tg, iter, ifs, 0⟩] sc pos) (some (.Name x px)) spos.line X.env = pure true := by rfl) (hs : ∀ x, foldedSetIterable iter X.env x = pure x := by intro _; rfl)
    (hf : X.fn x = true ∨ X.env.scope.names.lookup x = some .local := by first | exact .inl rfl | exact .inr rfl | assumption) :
    PS X (.Assign [.Name x px] (.ListComp elt [⟨tg, iter, ifs, 0⟩] sc pos) spos) (tAsg (tComp wi src g tt te) (gName i)) := by
  intro pins s σ H D I h
  rw [exec_Assign_Name_used _ _ _ _ hsw]
  refine wpAny_bind (wpAny_standAt (wpAny_bind ?_))
  show wpAny _ X.A (do let _ ← comprehension (.ListComp elt [⟨tg, iter, ifs, 0⟩] sc pos) sc X.env _ (newList []) false (eval iter X.env) (some (assign (.Name x px) X.env))) _ _ s
  refine wpAny_bind (thn (comp_core (R := fun _ s' => SP X pins D .next s') hc S hi hg ht he hs I h fun s3 H3 fp σ4 H4 s5 l I3 f3 J5 q => ?_) fun _ s' hq => wpAny_pure (wpAny_pure hq))
  obtain ⟨m, ⟨oC, es, ep, hoC, r⟩, _⟩ := J5.loc
  have I6 : Inv X pins σ H4 { s5 with heap := s5.heap } := cx_end I3 f3 J5 (Heap.SameBut.refl _ _)
  have hCn : H4 s3.heap.objs.size = none := J5.free
  have neL : s3.heap.objs.size ≠ X.env.locals := Nat.ne_of_gt I3.lt
  have ndat : ∀ v, oC.data ≠ .cell v := fun v z => by rw [r.1] at z; cases z
  have I7 : Inv X (pins ++ [(s3.heap.objs.size, oC)]) σ H4 s5 := I6.pins_of fun p hp => (List.mem_append.mp hp).elim (fun z => I6.pin p (List.mem_append_right _ z)) fun z => by
    cases List.mem_singleton.mp z
    exact ⟨hoC, hCn, neL, I3.nofs (Nat.le_refl _), ndat⟩
  show wpAny _ X.A (assign (.Name x px) X.env (.ref l)) _ _ s5
  refine wpAny_assign_Name (store_ok (v := .ref l) I7 hN hi0 hx rfl (fun s6 I8 => ?_) hf)
  have k8 := (I8.pin (s3.heap.objs.size, oC) (List.mem_append_right _ (List.mem_append_right _ (List.mem_singleton.mpr rfl)))).1
  refine ⟨m, ⟨oC, es, ep, k8, r⟩, fun h' sb => ⟨_, H4, ?_, q⟩⟩
  have I9 := I8.unpinned
  refine I9.turned (t' := s6.toks) (fun b o hb e => sb.extBut b o hb e) hCn neL (.inr I3.sz) (fun y c e z => ?_) (fun p hp z => ?_)
  · obtain ⟨v, o, ho, _⟩ := I3.cell y c e
    exact absurd (Heap.lt_size ho) (by rw [z]; exact Nat.lt_irrefl _)
  · have := (I3.pin p hp).1
    exact absurd (Heap.lt_size this) (by rw [z]; exact Nat.lt_irrefl _)
/-- a comprehension that takes names from the def around it (cells there); N: the def's names -/
theorem CScope.of {X : Cx} {N' : List Str} {src : List (Option Nat)} {sc : Scope} (fsc : Scope) (N : List Str) (hX : X.env.scope = fsc) (hN : X.N = N) (kind : sc.kind = .function) (nocell : ∀ y ∈ sc.names, y.2 ≠ .cell) (loc : ∀ y ∈ sc.names, y.2 = .local → sc.names.lookup y.1 = some .local)
    (fv : ∀ y ∈ sc.names, y.2 = .free → fsc.names.lookup y.1 = some .cell) (len : src.length = N'.length)
    (sr : ((N'.zip src).all fun p => match p.2 with | none => true | some j => decide (N[j]? = some p.1) && decide (sc.names.lookup p.1 = some .free)) = true) : CScope X N' src sc where
  kind := kind
  nocell := nocell
  loc := loc
  fv := fun y hy e => .inl (by show X.env.scope.names.lookup y.1 = some .cell; rw [hX]; exact fv y hy e)
  len := len
  src := fun i x j e1 e2 => by
    rw [List.all_eq_true] at sr
    have hm : (x, some j) ∈ N'.zip src := by
      refine List.mem_of_getElem? (i := i) ?_
      rw [List.getElem?_zip_eq_some]
      exact ⟨e1, e2⟩
    have := sr _ hm
    simp only [Bool.and_eq_true, decide_eq_true_eq] at this
    rw [hN]
    exact this
end L2

set_option Elab.async false
set_option linter.all false
set_option maxRecDepth 100000
set_option maxHeartbeats 4000000

/-! ### further rules over the layer -/
namespace L2
open PySem PySem.Spec PyProof.Rows
section
variable {X : Cx}

/-- isinstance(x, T), T a built-in type -/
@[irreducible] def rIsi (K : PySem.W.Frag) : List V → Hp → VK → Prop := fun xs H Q => ∃ x T t b, xs = [x, .ty T] ∧ TyOf K H x t ∧ PySem.W.kitOne K t (.type T) = some b ∧ Q (.bl b) H
theorem call_isi : CallR X (.builtin "isinstance") (rIsi X.K) := by
  intro pins s σ H xs us Q I r h
  unfold rIsi at h
  obtain ⟨x, T, t, b, rfl, ty, e, q⟩ := h
  obtain ⟨u, w', rfl, rx, rt⟩ := vals2 r
  cases rt
  exact isinst_ok I rx ty e fun tk => ⟨.bl b, H, I.tok tk, rfl, q⟩
theorem kit_int_int {K : PySem.W.Frag} : PySem.W.kitOne K (.type "int") (.type "int") = some true := by rfl
theorem kit_int_bool {K : PySem.W.Frag} : PySem.W.kitOne K (.type "int") (.type "bool") = some false := by rfl
theorem kit_bool_int {K : PySem.W.Frag} : PySem.W.kitOne K (.type "bool") (.type "int") = some true := by rfl
theorem kit_bool_bool {K : PySem.W.Frag} : PySem.W.kitOne K (.type "bool") (.type "bool") = some true := by rfl
theorem kit_none_int {K : PySem.W.Frag} : PySem.W.kitOne K (.type "NoneType") (.type "int") = some false := by rfl
theorem kit_str_int {K : PySem.W.Frag} : PySem.W.kitOne K (.type "str") (.type "int") = some false := by rfl
theorem kit_list_int {K : PySem.W.Frag} : PySem.W.kitOne K (.type "list") (.type "int") = some false := by rfl
theorem kit_tuple_int {K : PySem.W.Frag} : PySem.W.kitOne K (.type "tuple") (.type "int") = some false := by rfl
/-- a value whose kind is known: None, a truth, a whole number, a text, a list, a tuple -/
def Kn (H : Hp) : V → Prop
  | .non => True
  | .bl _ => True
  | .int _ => True
  | .str _ => True
  | .ref a => (∃ xs, H a = some (.lst xs)) ∨ ∃ xs, H a = some (.tup xs)
  | _ => False
def isI : V → Bool
  | .int _ => true
  | .bl _ => true
  | _ => false
def isB : V → Bool
  | .bl _ => true
  | _ => false
theorem Kn.same {H H' : Hp} {v : V} (s : Same H H') (k : Kn H v) : Kn H' v := by
  cases v with
  | ref a => exact k.imp (fun ⟨xs, e⟩ => ⟨xs, s _ _ e⟩) fun ⟨xs, e⟩ => ⟨xs, s _ _ e⟩
  | _ => exact k
/-- isinstance of a value of a known kind -/
theorem isi_int {K : PySem.W.Frag} {H : Hp} {x : V} {Q : VK} (k : Kn H x) (q : Q (.bl (isI x)) H) : rIsi K [x, .ty "int"] H Q := by
  unfold rIsi
  cases x with
  | non => exact ⟨_, _, _, _, rfl, .non, kit_none_int, q⟩
  | bl b => exact ⟨_, _, _, _, rfl, .bl b, kit_bool_int, q⟩
  | int i => exact ⟨_, _, _, _, rfl, .int i, kit_int_int, q⟩
  | str z => exact ⟨_, _, _, _, rfl, .str z, kit_str_int, q⟩
  | ref a =>
    rcases k with ⟨xs, e⟩ | ⟨xs, e⟩
    · exact ⟨_, _, _, _, rfl, .lst e, kit_list_int, q⟩
    · exact ⟨_, _, _, _, rfl, .tup e, kit_tuple_int, q⟩
  | _ => exact k.elim
theorem isi_bool {K : PySem.W.Frag} {H : Hp} {x : V} {Q : VK} (k : isI x = true) (q : Q (.bl (isB x)) H) : rIsi K [x, .ty "bool"] H Q := by
  unfold rIsi
  cases x with
  | bl b => exact ⟨_, _, _, _, rfl, .bl b, kit_bool_bool, q⟩
  | int i => exact ⟨_, _, _, _, rfl, .int i, kit_int_bool, q⟩
  | _ => cases k
/-- all(l), any(l) of a list of truths -/
theorem bools_of : ∀ {bs : List Bool} {us : List Value}, Vals (bs.map V.bl) us → LSm.BoolsAre us bs
  | [], _, .nil => .nil
  | b :: r, _, .cons h t => by
    cases (show _ = Value.bool b from h)
    exact .cons b (bools_of t)
theorem call_all (hc : X.calm = true) : CallR X (.builtin "all") (fun xs H Q => ∃ (p : Addr) (bs : List Bool), xs = [.ref p] ∧ SqL X.K H p (bs.map V.bl) ∧ Q (.bl (bs.all id)) H) := by
  intro pins s σ H xs us Q I r h
  obtain ⟨p, bs, rfl, hq, q⟩ := h
  obtain ⟨u, rfl, rx⟩ := vals1 r
  cases rx
  obtain ⟨its, rv, pl, hz⟩ := I.list hq
  have hb := bools_of rv
  have hl := pl.isList
  have hlt : p < s.heap.objs.size := by obtain ⟨_, e, _⟩ := hl; exact Heap.lt_size e
  refine call_all_walk (wpAny_pyIter_list hl ?_)
  refine ⟨s.heap.objs.size, [s.heap.objs.size, p], [s.heap.objs.size], its.toArray.size, _, _, fun i => (bs[i]?).getD true, rfl, Walks.list (A := X.A.in1) (I.ok.hd hc) _ p (Nat.ne_of_lt hlt) its.toArray,
    ⟨⟨_, Heap.get?_push_size _ rfl, rfl, rfl⟩, hl.push _⟩, fun i v s' Q' E' hP hQ => ?_, fun h' tk hk => ?_⟩
  · obtain ⟨b, e, rfl⟩ := hb.get i v (by simpa using hP)
    simp only [e, Option.getD_some] at hQ
    exact wpAny_truthy_bool hQ
  · have e : ((List.range its.toArray.size).all fun i => (bs[i]?).getD true) = bs.all id := by
      rw [List.size_toArray, hb.length]; exact LSm.range_all bs
    rw [e]
    exact ⟨.bl (bs.all id), H, I.kept (LSm.kept_iter hk), rfl, q⟩

/-! ### data within the tracked heap, and its equality -/
mutual
inductive Rep (H : Hp) : V → PyData → Prop
  | non : Rep H .non .none
  | bl (b : Bool) : Rep H (.bl b) (.bool b)
  | int (i : Int) : Rep H (.int i) (.int i)
  | str (x : Str) : Rep H (.str x) (.str x)
  | tup {a : Addr} {xs : List V} {ds : List PyData} : H a = some (.tup xs) → Reps H xs ds → Rep H (.ref a) (.tuple ds)
  | lst {a : Addr} {xs : List V} {ds : List PyData} : H a = some (.lst xs) → Reps H xs ds → Rep H (.ref a) (.list ds)
inductive Reps (H : Hp) : List V → List PyData → Prop
  | nil : Reps H [] []
  | cons {x : V} {d : PyData} {xs : List V} {ds : List PyData} : Rep H x d → Reps H xs ds → Reps H (x :: xs) (d :: ds)
end
mutual
theorem Rep.reads {P : Program} {w : World} {H : Hp} {h : Heap} (ok : HOk P w H h) : ∀ {v : V} {d : PyData} {u : Value}, Rep H v d → RelV v u → ∃ as, Reads h u d as
  | _, _, _, .non, r => by cases (show _ = Value.none from r); exact ⟨_, .none⟩
  | _, _, _, .bl b, r => by cases (show _ = Value.bool b from r); exact ⟨_, .bool b⟩
  | _, _, _, .int i, r => by obtain ⟨t, rfl⟩ := (show ∃ t, _ = Value.int i t from r); exact ⟨_, .int i t⟩
  | _, _, _, .str x, r => by obtain ⟨t, rfl⟩ := (show ∃ t, _ = Value.str x t from r); exact ⟨_, .str x t⟩
  | _, _, _, .tup (a := a) (xs := xs) e q, r => by
    cases (show _ = Value.ref a from r)
    obtain ⟨_, its, rv, o, ho, hc, n, hd⟩ := (show ObjOk P w H h a (.tup xs) from ok a _ e)
    obtain ⟨as, z⟩ := Reps.reads ok q rv
    exact ⟨_, .tuple ho hc hd (by simpa using z)⟩
  | _, _, _, .lst (a := a) (xs := xs) e q, r => by
    cases (show _ = Value.ref a from r)
    obtain ⟨_, its, n, rv, ho⟩ := (show ObjOk P w H h a (.lst xs) from ok a _ e)
    obtain ⟨as, z⟩ := Reps.reads ok q rv
    exact ⟨_, .list ho rfl rfl (by simpa using z)⟩
theorem Reps.reads {P : Program} {w : World} {H : Hp} {h : Heap} (ok : HOk P w H h) : ∀ {xs : List V} {ds : List PyData} {us : List Value}, Reps H xs ds → Vals xs us → ∃ as, ReadsAll h us ds as
  | _, _, _, .nil, .nil => ⟨_, .nil⟩
  | _, _, _, .cons p q, .cons r t => by
    obtain ⟨as, a1⟩ := Rep.reads ok p r
    obtain ⟨bs, b1⟩ := Reps.reads ok q t
    exact ⟨_, .cons a1 b1⟩
end
theorem op_eqD (hu : X.A.units + 64 < cLine) : OpR X (compareOp .Eq) (fun x y H Q => ∃ d e, Rep H x d ∧ Rep H y e ∧ SeqAt.shaped d = true ∧ SeqAt.shaped e = true ∧ Q (.bl (PyData.eqv d e)) H) := by
  intro pins s σ H x y v u Q I rx ry h
  obtain ⟨d, e, p, p', sd, se, q⟩ := h
  obtain ⟨as, r1⟩ := p.reads I.hok rx
  obtain ⟨bs, r2⟩ := p'.reads I.hok ry
  exact eq_dataH r1 r2 sd se hu ⟨.bl (PyData.eqv d e), H, I, rfl, q⟩
theorem op_neD (hu : X.A.units + 64 < cLine) : OpR X (compareOp .NotEq) (fun x y H Q => ∃ d e, Rep H x d ∧ Rep H y e ∧ SeqAt.shaped d = true ∧ SeqAt.shaped e = true ∧ Q (.bl (!PyData.eqv d e)) H) := by
  intro pins s σ H x y v u Q I rx ry h
  obtain ⟨d, e, p, p', sd, se, q⟩ := h
  obtain ⟨as, r1⟩ := p.reads I.hok rx
  obtain ⟨bs, r2⟩ := p'.reads I.hok ry
  exact ne_dataH r1 r2 sd se hu ⟨.bl (!PyData.eqv d e), H, I, rfl, q⟩
end
end L2

/-! ### defs of the text, each with its promise -/
namespace L2
open PySem PySem.Spec PyProof.Rows
/-- a def as it stands behind the top -/
structure Code (K : PySem.W.Frag) (mg : Str → Option Value) (x : Str) (st : Stmt) (ps : List Str) : Prop where
  ex : ∃ (f : Addr) (fd : FuncData), Fun K x x st f fd ∧ mg x = some (.ref f) ∧ Binds K fd ps []
/-- a def that keeps a promise -/
structure Good (P : Program) (w : World) (K : PySem.W.Frag) (mg : Str → Option Value) (base : Heap) (x : Str) (k : Nat) (ps : List Str) (sp : Sp) : Prop where
  ex : ∃ (f : Addr) (fd : FuncData), mg x = some (.ref f) ∧ PySem.W.keepIn K (.ref f) = true ∧ Binds K fd ps [] ∧ FnOk P w K mg base CX0 k f fd ps sp
theorem Code.good {P : Program} {w : World} {K : PySem.W.Frag} {mg : Str → Option Value} {base : Heap} {x : Str} {st : Stmt} {ps N : List Str} {k : Nat} {sp : Sp} (C : Code K mg x st ps) (S : FnScope N ps (defScope st)) (len : ∀ vs H Q E, sp vs H Q E → vs.length = ps.length)
    (hbody : ∀ (f : Addr) (cdv : Value) (A : Around) (outer : List Env) (s : Shared) (H : Hp) (vs : List V) (Q : VK) (E : XK), Room k (A.deeper (envOfC x (defScope st) s.heap.objs.size f cdv)) → sp vs H Q E →
      ∃ t, PSs (cxOf CX0 P w K mg base N x (defScope st) f cdv A outer s H E).nox (defBody st) t ∧ t { nx := fun _ H' => Q .non H', rt := Q } (start N vs) H) : Good P w K mg base x (k + 1) ps sp := by
  obtain ⟨f, fd, F, m, b⟩ := C.ex
  exact ⟨f, fd, m, F.kp, b, F.ok S len fun cdv A outer s H vs Q E hr h => hbody f cdv A outer s H vs Q E hr h⟩
theorem pcall {X : Cx} {k k' : Nat} {ps : List Str} {sp : Sp} {x : Str} {p pos : Pos} {e : Expr} {es : List Expr} {t : TA} (g : Good X.prog X.w X.K X.mg X.base x k ps sp) (hr : Room k' X.A) (ha : PA X (e :: es) t) (hk : k ≤ k' := by decide) (hg : Gl X x := by rfl)
    (hdb : (x == ("__debug__" : Str)) = false := by decide) (he : starEach (e :: es) X.env = (false, eval e X.env) :: starEach es X.env := by rfl) (hpl : (backTo pos (starEach es X.env)).any (·.1) = false := by rfl) :
    PE X (.Call (.Name x p) (e :: es) [] pos) (tCall sp [] E0 t) := by
  intro pins s σ H Q I h
  obtain ⟨f, fd, m, kp, b, F⟩ := g.ex
  exact pe_call F (hr.mono hk) hg m kp b .nil pass0 ha hdb he hpl pins s σ H Q I h
theorem Code.of {K : PySem.W.Frag} {mg : Str → Option Value} {h : Heap} {x : Str} {st : Stmt} {ps : List Str} {f : Addr} {oc : Value} {od an : Option Addr} {osl : Array (Option Value)} {kV doc pm cdv ct : Value} (X : K.In h) (G : h.Ns mainGlobals mg)
    (a : PySem.W.nsIn K mainGlobals x = some (some (.ref f))) (l : K.lookup f = some ⟨oc, od, .func (PySem.W.fnOf x x (defArgs st) (defBody st) (defScope st) .none kV doc pm an cdv ct), osl⟩) (c : PySem.W.codeIn K cdv x = true) (k : PySem.W.keepIn K (.ref f) = true)
    (hb : ∀ (kV doc pm : Value) (an : Option Addr) (cdv ct : Value) (us : List Value), us.length = ps.length → bindArgs (PySem.W.fnOf x x (defArgs st) (defBody st) (defScope st) .none kV doc pm an cdv ct) ⟨us, []⟩ = pure (ps.zip us)) : Code K mg x st ps := by
  have F := fun_mk (st := st) l c k
  exact ⟨f, _, F, PySem.W.mg_of X G a, F.binds hb⟩
theorem same_new {H : Hp} {p : Addr} (h : H p = none) (o : HO) : Same H (upd H p o) := fun b u q => by rw [upd_ne (ne_of_none q h)]; exact q
/-- a comprehension that takes nothing from around -/
theorem CScope.plain {X : Cx} {N' : List Str} {sc : Scope} (kind : sc.kind = .function) (nocell : ∀ y ∈ sc.names, y.2 ≠ .cell) (loc : ∀ y ∈ sc.names, y.2 = .local → sc.names.lookup y.1 = some .local) (nofree : ∀ y ∈ sc.names, y.2 ≠ .free) :
    CScope X N' (N'.map fun _ => none) sc where
  kind := kind
  nocell := nocell
  loc := loc
  fv := fun y hy e => absurd e (nofree y hy)
  len := by simp
  src := fun i x j _ e => by
    rw [List.getElem?_map] at e
    cases q : N'[i]? with
    | none => rw [q] at e; cases e
    | some z => rw [q] at e; cases e
/-- over a list that the turns leave as it is -/
theorem comp_list {K : PySem.W.Frag} {a l : Addr} {xs : List V} {g : TG} {tt : TT} {te : TE} {Q : VK} {σ0 : St} {H0 : Hp} (Pv : Nat → St → Hp → Prop)
    (h0 : Pv 0 σ0 H0) (hl : ∀ i σ H', i ≤ xs.length → Pv i σ H' → SqL K H' a xs)
    (hs : ∀ i x σ H', xs[i]? = some x → Pv i σ H' → g x σ H' fun σ3 H3 => tt σ3 H3 fun b H4 => if b = true then te σ3 H4 fun y H5 => ∃ ys, H5 l = some (.lst ys) ∧ ys.length < sizeLine ∧ Pv (i + 1) σ3 (upd H5 l (.lst (ys ++ [y]))) else Pv (i + 1) σ3 H4)
    (hd : ∀ σ H', Pv xs.length σ H' → Q (.ref l) H') : CWant (Itl K a) g tt te Q σ0 H0 l := by
  unfold CWant
  refine ⟨fun i m σ H' => m = xs.length - i ∧ i ≤ xs.length ∧ Pv i σ H', ⟨xs.length, by simp, Nat.zero_le _, h0⟩, ?_⟩
  rintro i m σ H' ⟨rfl, hi, p⟩
  have q := hl i σ H' hi p
  by_cases hlt : i < xs.length
  · refine .inr ⟨⟨xs, xs[i], q, by simp [hlt]⟩, Pv (i + 1), fun σ3 H3 p' => ⟨xs.length - (i + 1), by omega, rfl, hlt, p'⟩, fun x H2 y => ?_⟩
    obtain ⟨e, y⟩ := y
    subst e
    exact hs i x σ _ (y xs q) p
  · have e : i = xs.length := by omega
    subst e
    exact .inl ⟨⟨xs, q, Nat.le_refl _⟩, hd σ H' p⟩
/-- over lo, lo + 1, .. -/
theorem comp_range {lo : Int} {n : Nat} {l : Addr} {g : TG} {tt : TT} {te : TE} {Q : VK} {σ0 : St} {H0 : Hp} (Pv : Nat → St → Hp → Prop) (h0 : Pv 0 σ0 H0)
    (hs : ∀ i σ H', i < n → Pv i σ H' → g (.int (lo + i)) σ H' fun σ3 H3 => tt σ3 H3 fun b H4 => if b = true then te σ3 H4 fun y H5 => ∃ ys, H5 l = some (.lst ys) ∧ ys.length < sizeLine ∧ Pv (i + 1) σ3 (upd H5 l (.lst (ys ++ [y]))) else Pv (i + 1) σ3 H4)
    (hd : ∀ σ H', Pv n σ H' → Q (.ref l) H') : CWant (Itr lo n) g tt te Q σ0 H0 l := by
  unfold CWant
  refine ⟨fun i m σ H' => m = n - i ∧ i ≤ n ∧ Pv i σ H', ⟨n, by simp, Nat.zero_le _, h0⟩, ?_⟩
  rintro i m σ H' ⟨rfl, hi, p⟩
  by_cases hlt : i < n
  · refine .inr ⟨hlt, Pv (i + 1), fun σ3 H3 p' => ⟨n - (i + 1), by omega, rfl, hlt, p'⟩, fun x H2 y => ?_⟩
    obtain ⟨e, y⟩ := y
    subst e y
    exact hs i σ _ hlt p
  · have e : i = n := by omega
    subst e
    exact .inl ⟨Nat.le_refl _, hd σ H' p⟩
end L2

set_option Elab.async false
set_option linter.all false
set_option maxRecDepth 100000
set_option maxHeartbeats 4000000

/-! ### further rules: max, sorted, join, texts walked, slices that may be the whole -/
namespace L2
open PySem PySem.Spec PyProof.Rows
section
variable {X : Cx}

/-- sep.join(l) of a list of texts -/
theorem strs_of : ∀ {ys : List Str} {us : List Value}, Vals (ys.map V.str) us → StrsAre us ys
  | [], _, .nil => .nil
  | y :: r, _, .cons h t => by
    obtain ⟨t', e⟩ := (show ∃ t, _ = Value.str y t from h)
    cases e
    exact .cons y t' (strs_of t)
def rJoin (K : PySem.W.Frag) : V → List V → Hp → VK → Prop := fun x vs H Q => ∃ (z : Str) (p : Addr) (ys : List Str), x = .str z ∧ vs = [.ref p] ∧ SqL K H p (ys.map V.str) ∧ (ys.map (·.length)).sum + ys.length * z.length ≤ 16777216 ∧ Q (.str (Txt.join z ys)) H
theorem mt_join : MtR X "str.join" (rJoin X.K) := by
  intro pins s σ H x vs v us Q I rx rv h
  obtain ⟨z, p, ys, rfl, rfl, hq, hz, q⟩ := h
  obtain ⟨t, rfl⟩ := rx
  obtain ⟨u, rfl, ru⟩ := rv.one
  cases ru
  obtain ⟨its, r', pl, _⟩ := I.list hq
  exact join_list pl.isList (strs_of r') hz fun t' k => ⟨.str (Txt.join z ys), H, I.tok k, ⟨t', rfl⟩, q⟩

/-- a text, sign by sign -/
def Its (z : Str) : It := ⟨fun i _ => i < z.cps.size, fun i H x H' => H' = H ∧ ∃ c, z.cps[i]? = some c ∧ x = .str ⟨#[c]⟩, fun i _ => i = z.cps.size⟩
def iStr (tl : TE) : TI := fun σ H R => tl σ H fun x H1 => ∃ z, x = .str z ∧ R (Its z) H1
end
end L2

namespace L2
open PySem PySem.Spec PyProof.Rows
section
variable {X : Cx} {tg : Expr}
theorem turn_str {P : Program} {w : World} {K : PySem.W.Frag} {tg : Expr} (z : Str) (t : Tok) (it : Addr) (ty : String) (hty : ["enumerate", "zip", "dict_itemiterator", "dict_reverseitemiterator", "odict_iterator", "itertools.zip_longest", "itertools.pairwise"].contains ty = false)
    (W : ∀ A' : Around, A'.handled = none → Walks P w A' it [it] [it] z.cps.size (SignAt z) (fun i h => h.IsStrIter it ty z t i))
    (hself : ∀ (A : Around) (i : Nat) (s : Shared) (Q : Value → Shared → Prop) (E : Value → Shared → Prop), s.heap.IsStrIter it ty z t i → Q (.ref it) s → wpAny (model P w) A (pyIter (.ref it)) Q E s) :
    Turn P w K tg (Its z) [it] it (fun i h => h.IsStrIter it ty z t i) where
  mem := List.mem_singleton.mpr rfl
  obj := fun i h st b hb => by
    cases List.mem_singleton.mp hb
    obtain ⟨o, e, c, d⟩ := st
    exact ⟨o, e, fun v z' => by rw [d] at z'; cases z'⟩
  keep := fun i h h' st k => by
    obtain ⟨o, e, r⟩ := st
    exact ⟨o, k it (List.mem_singleton.mpr rfl) o e, r⟩
  item := by
    intro X hP hw hK hc i pins s σ H E I hf st hg
    subst hP hw hK
    obtain ⟨f0, f1, f2, f3, f4, f5⟩ := hf it (List.mem_singleton.mpr rfl)
    refine (W X.A (I.ok.hd hc)).item i s _ _ hg st fun v h' tk hv st' kk => ?_
    obtain ⟨c, u, hcu, rfl⟩ := hv
    have I1 : Inv X pins σ H { s with heap := h', toks := tk } := I.turned (fun b o hb e => kk b o (fun hm => hb (List.mem_singleton.mp hm)) e) f0 f1 f3 f4 f5
    obtain ⟨o, e, cl, d⟩ := id st'
    exact ⟨_, rfl, go_of (s := { s with heap := h', toks := tk }) e cl d hty ⟨.str ⟨#[c]⟩, H, I1, ⟨u, rfl⟩, ⟨rfl, c, hcu, rfl⟩, st', fun b hb => (hf b hb).1⟩⟩
  done := by
    intro X hP hw hK hc i pins s σ H E I hf st hg
    subst hP hw hK
    obtain ⟨f0, f1, f2, f3, f4, f5⟩ := hf it (List.mem_singleton.mpr rfl)
    cases (show i = z.cps.size from hg)
    exact (W X.A (I.ok.hd hc)).done s _ _ st fun h' tk kk => ⟨rfl, I.turned (fun b o hb e => kk b o (fun hm => hb (List.mem_singleton.mp hm)) e) f0 f1 f3 f4 f5⟩
  self := fun A i s Q E st h => hself A i s Q E st h
theorem pi_str {l : Expr} {tl : TE} (hl : PE X l tl) : PI X tg l (iStr tl) := by
  intro pins s σ H R I h
  refine thn (hl pins s σ H _ I h) fun v s1 ⟨x, H1, I1, r1, z, e, q⟩ => ?_
  subst e
  obtain ⟨t, rfl⟩ := r1
  have fp : ∀ o : Obj, ∀ b ∈ [s1.heap.objs.size], FpOk X pins H1 b := fun o b hb => by
    cases List.mem_singleton.mp hb
    exact I1.fpOk (Nat.le_refl _) (I1.hok.fresh (Nat.le_refl _))
  cases ha : z.cps.all (· < 128) with
  | true =>
    refine wpAny_pyIter_ascii ha ?_
    exact ⟨s1.heap.objs.size, [s1.heap.objs.size], _, _, H1, rfl, I1.kept (t' := s1.toks) fun b o e => Heap.get?_push_of_some _ e, turn_str z t _ "str_ascii_iterator" (by decide) (fun A' hA => Walks.strAscii hA _ z t) (fun _ _ _ _ _ st h => wpAny_pyIter_striter_ascii st h),
      ⟨_, Heap.get?_push_size _ rfl, rfl, rfl⟩, fp { cls := .none, data := .fields #[] }, q⟩
  | false =>
    refine wpAny_pyIter_wide ha ?_
    exact ⟨s1.heap.objs.size, [s1.heap.objs.size], _, _, H1, rfl, I1.kept (t' := s1.toks) fun b o e => Heap.get?_push_of_some _ e, turn_str z t _ "str_iterator" (by decide) (fun A' hA => Walks.strWide hA _ z t) (fun _ _ _ _ _ st h => wpAny_pyIter_striter_wide st h),
      ⟨_, Heap.get?_push_size _ rfl, rfl, rfl⟩, fp { cls := .none, data := .fields #[] }, q⟩
/-- a comprehension over a text -/
theorem comp_str {z : Str} {l : Addr} {g : TG} {tt : TT} {te : TE} {Q : VK} {σ0 : St} {H0 : Hp} (Pv : Nat → St → Hp → Prop) (h0 : Pv 0 σ0 H0)
    (hs : ∀ i c σ H', z.cps[i]? = some c → Pv i σ H' → g (.str ⟨#[c]⟩) σ H' fun σ3 H3 => tt σ3 H3 fun b H4 => if b = true then te σ3 H4 fun y H5 => ∃ ys, H5 l = some (.lst ys) ∧ ys.length < sizeLine ∧ Pv (i + 1) σ3 (upd H5 l (.lst (ys ++ [y]))) else Pv (i + 1) σ3 H4)
    (hd : ∀ σ H', Pv z.cps.size σ H' → Q (.ref l) H') : CWant (Its z) g tt te Q σ0 H0 l := by
  unfold CWant
  refine ⟨fun i m σ H' => m = z.cps.size - i ∧ i ≤ z.cps.size ∧ Pv i σ H', ⟨z.cps.size, by simp, Nat.zero_le _, h0⟩, ?_⟩
  rintro i m σ H' ⟨rfl, hi, p⟩
  by_cases hlt : i < z.cps.size
  · refine .inr ⟨hlt, Pv (i + 1), fun σ3 H3 p' => ⟨z.cps.size - (i + 1), by omega, rfl, hlt, p'⟩, fun x H2 y => ?_⟩
    obtain ⟨e, c, hc, rfl⟩ := y
    subst e
    exact hs i c σ _ hc p
  · have e : i = z.cps.size := by omega
    subst e
    exact .inl ⟨rfl, hd σ H' p⟩
end
end L2

namespace HT
open PySem PyProof.Rows
section
variable {prog : Program} {w : World} {A : Around} {E : Value → Shared → Prop} {s : Shared}
end
end HT

namespace L2
open PySem PySem.Spec PyProof.Rows
section
variable {X : Cx}
end
end L2

set_option Elab.async false
set_option linter.all false
set_option maxRecDepth 100000
set_option maxHeartbeats 4000000
/-! ### own classes: methods with their promises, the attributes by their places -/
namespace L2
open PySem PySem.Spec PyProof.Rows
/-- a method as it stands in its class behind the top -/
structure CodeM (K : PySem.W.Frag) (C : Addr) (m qn : Str) (st : Stmt) (ps : List Str) : Prop where
  ex : ∃ (f : Addr) (fd : FuncData), Fun K m qn st f fd ∧ Meth K C m f ∧ Binds K fd ps []
/-- a method that keeps a promise -/
structure GoodM (P : Program) (w : World) (K : PySem.W.Frag) (mg : Str → Option Value) (base : Heap) (C : Addr) (m : Str) (k : Nat) (ps : List Str) (sp : Sp) : Prop where
  ex : ∃ (f : Addr) (fd : FuncData), Meth K C m f ∧ Binds K fd ps [] ∧ FnOk P w K mg base CX0 k f fd ps sp
/-- the class is made with an __init__ that keeps a promise -/
structure GoodI (P : Program) (w : World) (K : PySem.W.Frag) (mg : Str → Option Value) (base : Heap) (C : Addr) (k : Nat) (ps : List Str) (sp : Sp) : Prop where
  ex : ∃ (f : Addr) (fd : FuncData), Mk K C f ∧ Binds K fd ps [] ∧ FnOk P w K mg base CX0 k f fd ps sp
theorem CodeM.good {P : Program} {w : World} {K : PySem.W.Frag} {mg : Str → Option Value} {base : Heap} {C : Addr} {m qn : Str} {st : Stmt} {ps N : List Str} {k : Nat} {sp : Sp} (c : CodeM K C m qn st ps) (S : FnScope N ps (defScope st)) (len : ∀ vs H Q E, sp vs H Q E → vs.length = ps.length)
    (hbody : ∀ (f : Addr) (cdv : Value) (A : Around) (outer : List Env) (s : Shared) (H : Hp) (vs : List V) (Q : VK) (E : XK), Room k (A.deeper (envOfC qn (defScope st) s.heap.objs.size f cdv)) → sp vs H Q E →
      ∃ t, PSs (cxOf CX0 P w K mg base N qn (defScope st) f cdv A outer s H E).nox (defBody st) t ∧ t { nx := fun _ H' => Q .non H', rt := Q } (start N vs) H) : GoodM P w K mg base C m (k + 1) ps sp := by
  obtain ⟨f, fd, F, M, b⟩ := c.ex
  exact ⟨f, fd, M, b, F.ok S len fun cdv A outer s H vs Q E hr h => hbody f cdv A outer s H vs Q E hr h⟩
theorem pmeth0 {X : Cx} {pl : Sem Bool} {k k' : Nat} {C : Addr} {ps : List Str} {sp : Sp} {m : Str} {apos pos : Pos} {o : Expr} {ta : TE} (he : PE X o ta) (c : Cls X.K C) (g : GoodM X.prog X.w X.K X.mg X.base C m k ps sp) (hr : Room k' X.A) (hk : k ≤ k' := by decide)
    (ht : eval (.Call (.Attribute o m apos) [] [] pos) X.env = (do
      let ov ← eval o X.env
      standAt apos.atName
      let (f, first) ← holding [ov] (getMethod ov m pl)
      callWith pos f first (backTo pos (starEach [] X.env)) (backToKw pos (keywordEach [] X.env))) := by rfl) :
    PE X (.Call (.Attribute o m apos) [] [] pos) (tMeth C m sp [] E0 ta tNil) := by
  intro pins s σ H Q I h
  obtain ⟨f, fd, M, b, F⟩ := g.ex
  exact pe_meth0 (pl := pl) he c M F (hr.mono hk) b .nil pass0 ht pins s σ H Q I h
theorem pmake {X : Cx} {k k' : Nat} {C : Addr} {ps : List Str} {sp : Sp} {x : Str} {p pos : Pos} {e : Expr} {es : List Expr} {t : TA} (g : GoodI X.prog X.w X.K X.mg X.base C k ps sp) (hr : Room k' X.A) (hm : X.mg x = some (.ref C)) (ha : PA X (e :: es) t) (hk : k + 1 ≤ k' := by decide) (hg : Gl X x := by rfl)
    (hdb : (x == ("__debug__" : Str)) = false := by decide) (he : starEach (e :: es) X.env = (false, eval e X.env) :: starEach es X.env := by rfl) (hpl : (backTo pos (starEach es X.env)).any (·.1) = false := by rfl) :
    PE X (.Call (.Name x p) (e :: es) [] pos) (tMake C sp [] E0 t) := by
  intro pins s σ H Q I h
  obtain ⟨f, fd, M, b, F⟩ := g.ex
  exact pe_make M F (hr.mono hk) hg hm b .nil pass0 ha hdb he hpl pins s σ H Q I h
/-- a constant of the text -/
theorem pe_cst {X : Cx} {x : Str} {v : V} {pos : Pos} (hg : Gl X x) (hm : ∃ u, X.mg x = some u ∧ RelV v u) (hd : (x == ("__debug__" : Str)) = false := by decide) : PE X (.Name x pos) (tC v) := by
  obtain ⟨u, h, r⟩ := hm
  exact pe_glob hg h r hd
/-- attributes by their places -/
theorem fl_get : ∀ {fs : List (Str × V)} {i : Nat} {f : Str} {v : V}, (fs.map (·.1)).Nodup → fs[i]? = some (f, v) → fs.lookup f = some v
  | [], _, _, _, _, h => by simp at h
  | (g, u) :: fs, 0, f, v, _, h => by simp at h; obtain ⟨rfl, rfl⟩ := h; simp [List.lookup]
  | (g, u) :: fs, i + 1, f, v, hn, h => by
    rw [List.map_cons, List.nodup_cons] at hn
    have h' : fs[i]? = some (f, v) := by simpa using h
    have hm : f ∈ fs.map (·.1) := List.mem_map.mpr ⟨(f, v), List.mem_of_getElem? h', rfl⟩
    have hne : (f == g) = false := beq_eq_false_iff_ne.mpr fun e => hn.1 (e ▸ hm)
    rw [List.lookup, hne]
    exact fl_get hn.2 h'
theorem fl_new {y : V} : ∀ {fs : List (Str × V)} {f : Str}, f ∉ fs.map (·.1) → putF f y fs = fs ++ [(f, y)]
  | [], _, _ => rfl
  | (g, u) :: fs, f, h => by
    rw [List.map_cons, List.mem_cons] at h
    show (if g = f then (g, y) :: fs else (g, u) :: putF f y fs) = _
    rw [if_neg fun e => h (.inl e.symm), fl_new fun z => h (.inr z)]
    rfl
/-- tuples stay tuples -/
def TupS (H H' : Hp) : Prop := ∀ c xs, H c = some (.tup xs) → H' c = some (.tup xs)
theorem TupS.refl (H : Hp) : TupS H H := fun _ _ e => e
theorem TupS.trans {H H1 H2 : Hp} (a : TupS H H1) (b : TupS H1 H2) : TupS H H2 := fun c xs e => b c xs (a c xs e)
theorem TupS.of {H H1 : Hp} (s : Same H H1) : TupS H H1 := fun c xs e => s c _ e
theorem TupS.upd {H : Hp} {b : Addr} {o : HO} (h : ∀ xs, H b ≠ some (.tup xs)) : TupS H (upd H b o) := fun c xs e => by
  have n : c ≠ b := fun z => h xs (z ▸ e)
  rw [upd_ne n]
  exact e
/-- all but b is as it was -/
def SameB (b : Addr) (H H' : Hp) : Prop := ∀ c o, H c = some o → c ≠ b → H' c = some o
theorem SameB.trans {b : Addr} {H H1 H2 : Hp} (x : SameB b H H1) (y : SameB b H1 H2) : SameB b H H2 := fun c o e n => y c o (x c o e n) n
theorem SameB.of {b : Addr} {H H1 : Hp} (x : Same H H1) : SameB b H H1 := fun c o e _ => x c o e
theorem SameB.refl (b : Addr) (H : Hp) : SameB b H H := fun _ _ e _ => e
theorem SameB.upd {b : Addr} {H : Hp} {o : HO} : SameB b H (upd H b o) := fun c u e n => by rw [upd_ne n]; exact e
theorem SameB.tup {b : Addr} {H H' : Hp} (x : SameB b H H') (h : ∀ xs, H b ≠ some (.tup xs)) : TupS H H' := fun c xs e => x c _ e fun z => h xs (z ▸ e)
theorem SameB.free {b : Addr} {H H' : Hp} (x : SameB b H H') (hb : ∃ o, H' b = some o) {l : Addr} (h : H' l = none) : H l = none := by
  cases e : H l with
  | none => rfl
  | some o =>
    by_cases n : l = b
    · obtain ⟨o', e'⟩ := hb
      rw [n, e'] at h
      cases h
    · rw [x l o e n] at h
      cases h
/-- e.f = value, the heap behind it by what is true of it -/
def sFldE (K : PySem.W.Frag) (ta tv : TE) (f : Str) : TS := fun D σ H => tv σ H fun y H1 => ta σ H1 fun x H2 => ∃ a C dx fs fs', x = .ref a ∧ H2 a = some (.ins C dx fs) ∧ Cls K C ∧ NoAttr K C f ∧ fs.length < 1000 ∧ putF f y fs = fs' ∧
  ∀ H', H' a = some (.ins C dx fs') → SameB a H2 H' → D.nx σ H'
section
variable {X : Cx} {o e value : Expr} {f : Str} {pos pos' tpos : Pos} {ta tv : TE}
theorem ps_fldE (ha : PE X o ta) (hv : PE X value tv) (hs : swapsWith value (some (.Attribute o f pos')) pos.line X.env = pure false) : PS X (.Assign [.Attribute o f pos'] value pos) (sFldE X.K ta tv f) := by
  intro pins s σ H D I h
  refine plainObj_wpAny_Assign_Attribute (thn (hv pins s σ H _ I h) fun u s1 ⟨y, H1, I1, ry, q⟩ => thn (ha pins s1 σ H1 _ I1 q) fun ov s2 ⟨x, H2, I2, rx, a, C, dx, fs, fs', ex, ea, c, n, l, ep, q2⟩ => ?_) hs
  subst ex
  obtain rfl : ov = Value.ref a := rx
  refine setattr_ok I2 ea c n l ry fun s3 I3 => ⟨σ, _, I3, q2 _ ?_ SameB.upd⟩
  rw [upd_same, ep]
end
end L2
namespace L2
open PySem PySem.Spec PyProof.Rows
end L2
/-! ### rules that name the text's facts, within a comprehension -/
namespace L2
open PySem PySem.Spec PyProof.Rows
section
variable {X : Cx} {K : PySem.W.Frag}
theorem ix_listK (h : X.K = K) : IxR X (rIxL K) := h ▸ ix_list
end
end L2

set_option Elab.async false
set_option linter.all false
set_option maxRecDepth 100000
set_option maxHeartbeats 4000000
namespace PySem
open Sem (wp)
section
variable {prog : Program} {w : World} {A : Around} {E : Value → Shared → Prop} {s : Shared}
end
end PySem
namespace L2
open PySem PySem.Spec PyProof.Rows
section
variable {X : Cx} {pos : Pos}
end
end L2
/-! ### a row of objects that stand in the heap, none twice -/
namespace L2
open PySem PySem.Spec PyProof.Rows
theorem nodup_set {α : Type} : ∀ {l : List α} {i : Nat} {a : α}, l.Nodup → a ∉ l → (l.set i a).Nodup
  | [], _, _, h, _ => by simpa using h
  | x :: r, 0, a, h, n => by
    rw [List.nodup_cons] at h
    rw [List.set_cons_zero, List.nodup_cons]
    exact ⟨fun z => n (List.mem_cons_of_mem _ z), h.2⟩
  | x :: r, i + 1, a, h, n => by
    rw [List.nodup_cons] at h
    rw [List.set_cons_succ, List.nodup_cons]
    refine ⟨fun z => ?_, nodup_set h.2 fun z => n (List.mem_cons_of_mem _ z)⟩
    rcases List.mem_or_eq_of_mem_set z with z | z
    · exact h.1 z
    · exact n (z ▸ List.mem_cons_self)
structure Has (H : Hp) (l : List (Addr × HO)) : Prop where
  nd : (l.map (·.1)).Nodup
  at_ : ∀ x ∈ l, H x.1 = some x.2
theorem Has.get {H : Hp} {l : List (Addr × HO)} (h : Has H l) {i : Nat} {a : Addr} {o : HO} (e : l[i]? = some (a, o)) : H a = some o := h.at_ (a, o) (List.mem_of_getElem? e)
theorem Has.same {H H' : Hp} {l : List (Addr × HO)} (h : Has H l) (s : Same H H') : Has H' l := ⟨h.nd, fun x hx => s _ _ (h.at_ x hx)⟩
theorem Has.sameB {H H' : Hp} {l : List (Addr × HO)} {b : Addr} (h : Has H l) (s : SameB b H H') (n : b ∉ l.map (·.1)) : Has H' l := ⟨h.nd, fun x hx => s _ _ (h.at_ x hx) fun z => n (z ▸ List.mem_map.mpr ⟨x, hx, rfl⟩)⟩
theorem Has.notin {H : Hp} {l : List (Addr × HO)} {a : Addr} (h : Has H l) (e : H a = none) : a ∉ l.map (·.1) := fun z => by
  obtain ⟨x, hx, rfl⟩ := List.mem_map.mp z
  rw [h.at_ x hx] at e
  cases e
theorem map_set {l : List (Addr × HO)} {i : Nat} {a : Addr} {o : HO} : (l.set i (a, o)).map (·.1) = (l.map (·.1)).set i a := by rw [List.map_set]
theorem Has.set {H H' : Hp} {l : List (Addr × HO)} (h : Has H l) (i : Nat) {a : Addr} {o o' : HO} (e : l[i]? = some (a, o)) (s : SameB a H H') (e' : H' a = some o') : Has H' (l.set i (a, o')) := by
  have em : (l.map (·.1))[i]? = some a := by rw [List.getElem?_map, e]; rfl
  have hi := (List.getElem?_eq_some_iff.mp e).1
  refine ⟨?_, fun x hx => ?_⟩
  · rw [map_set]
    have : (l.map (·.1)).set i a = l.map (·.1) := by
      obtain ⟨h1, h2⟩ := List.getElem?_eq_some_iff.mp em
      rw [← h2]
      exact List.set_getElem_self h1
    rw [this]
    exact h.nd
  · obtain ⟨j, hj, ex⟩ := List.mem_iff_getElem.mp hx
    rw [List.getElem_set] at ex
    by_cases q : i = j
    · rw [if_pos q] at ex
      subst ex
      exact e'
    · rw [if_neg q] at ex
      have hj' : j < l.length := by simpa using hj
      have hm : x ∈ l := ex ▸ List.getElem_mem hj'
      refine s _ _ (h.at_ x hm) fun z => q ?_
      have ej : (l.map (·.1))[j]? = some a := by rw [List.getElem?_map, List.getElem?_eq_getElem hj']; rw [← z, ← ex]; rfl
      obtain ⟨h1, h2⟩ := List.getElem?_eq_some_iff.mp em
      obtain ⟨h3, h4⟩ := List.getElem?_eq_some_iff.mp ej
      exact (List.getElem_inj h.nd).mp (h2.trans h4.symm)
theorem Has.put {H : Hp} {l : List (Addr × HO)} (h : Has H l) (i : Nat) {a : Addr} {o : HO} (n : a ∉ l.map (·.1)) (e : H a = some o) : Has H (l.set i (a, o)) := by
  refine ⟨by rw [map_set]; exact nodup_set h.nd n, fun x hx => ?_⟩
  rcases List.mem_or_eq_of_mem_set hx with z | z
  · exact h.at_ x z
  · rw [z]; exact e
theorem Has.new {H H' : Hp} {l : List (Addr × HO)} {a : Addr} {o : HO} (h : Has H l) (n : H a = none) (s : Same H H') (e : H' a = some o) : Has H' (l ++ [(a, o)]) := by
  refine ⟨?_, fun x hx => ?_⟩
  · rw [List.map_append, List.nodup_append]
    refine ⟨h.nd, by simp, fun x hx y hy z => ?_⟩
    have : y = a := by simpa using hy
    subst this
    exact h.notin n (z ▸ hx)
  · rcases List.mem_append.mp hx with z | z
    · exact s _ _ (h.at_ x z)
    · have : x = (a, o) := by simpa using z
      subst this
      exact e
theorem Has.nil (H : Hp) : Has H [] := ⟨List.nodup_nil, fun x hx => by cases hx⟩
theorem Has.ne {H : Hp} {l : List (Addr × HO)} (h : Has H l) {i j : Nat} {a b : Addr} {o p : HO} (e : l[i]? = some (a, o)) (e' : l[j]? = some (b, p)) (n : i ≠ j) : a ≠ b := fun z => by
  have ea : (l.map (·.1))[i]? = some a := by rw [List.getElem?_map, e]; rfl
  have eb : (l.map (·.1))[j]? = some a := by rw [List.getElem?_map, e', z]; rfl
  obtain ⟨h1, h2⟩ := List.getElem?_eq_some_iff.mp ea
  obtain ⟨h3, h4⟩ := List.getElem?_eq_some_iff.mp eb
  exact n ((List.getElem_inj h.nd).mp (h2.trans h4.symm))
theorem Same.stepB {H0 H H' : Hp} {a : Addr} (s : Same H0 H) (b : SameB a H H') (f : H0 a = none) : Same H0 H' := fun c o e => b _ _ (s _ _ e) fun z => by rw [z, f] at e; cases e
end L2

set_option Elab.async false
set_option linter.all false
set_option maxRecDepth 100000
namespace L2
open PySem PySem.Spec PyProof.Rows

/-! ### lists of pairs as tables -/
section
variable {κ : Type} [DecidableEq κ]
def valV (kvs : List (κ × V)) (k : κ) : Option V := (kvs.find? fun kv => decide (kv.1 = k)).map (·.2)
/-- in its place, or at the end -/
def putK (kvs : List (κ × V)) (k : κ) (v : V) : List (κ × V) :=
  if (kvs.any fun kv => decide (kv.1 = k)) = true then kvs.map (fun kv => if kv.1 = k then (kv.1, v) else kv) else kvs ++ [(k, v)]
def dropK (kvs : List (κ × V)) (k : κ) : List (κ × V) := kvs.filter fun kv => decide (kv.1 ≠ k)

theorem valV_pos {p : κ × V} {r : List (κ × V)} {k : κ} (e : p.1 = k) : valV (p :: r) k = some p.2 := by simp [valV, List.find?_cons, e]
theorem valV_neg {p : κ × V} {r : List (κ × V)} {k : κ} (e : ¬ p.1 = k) : valV (p :: r) k = valV r k := by simp [valV, List.find?_cons, e]
theorem valV_any (k : κ) : ∀ kvs : List (κ × V), (kvs.any fun kv => decide (kv.1 = k)) = (valV kvs k).isSome
  | [] => rfl
  | p :: r => by
    rw [List.any_cons]
    by_cases e : p.1 = k
    · simp only [valV_pos e, decide_eq_true e, Bool.true_or, Option.isSome_some]
    · rw [valV_neg e, decide_eq_false e, Bool.false_or]; exact valV_any k r
theorem length_putK (kvs : List (κ × V)) (k : κ) (v : V) : (putK kvs k v).length ≤ kvs.length + 1 := by
  unfold putK
  split
  · rw [List.length_map]; omega
  · rw [List.length_append, List.length_cons, List.length_nil]; omega
theorem RelO.isSome_eq {o : Option V} {u : Option Value} (r : RelO o u) : o.isSome = u.isSome := by
  cases o with
  | none => cases u with
    | none => rfl
    | some _ => exact (show False from r).elim
  | some _ => cases u with
    | none => exact (show False from r).elim
    | some _ => rfl
theorem RelO.getD {o : Option V} {u : Option Value} {d : V} {d' : Value} (r : RelO o u) (rd : RelV d d') : RelV (o.getD d) (u.getD d') := by
  cases o with
  | none => cases u with
    | none => exact rd
    | some _ => exact (show False from r).elim
  | some _ => cases u with
    | none => exact (show False from r).elim
    | some _ => exact r

/-- raw tables of the same keys -/
theorem KV.val {kvs : List (κ × V)} {vs : List (κ × Value)} (r : KV kvs vs) (k : κ) : RelO (valV kvs k) (valueAt vs k) := by
  unfold KV at r
  induction r with
  | nil => exact True.intro
  | @cons p q ps qs h t ih =>
    obtain ⟨h1, h2⟩ := h
    by_cases e : p.1 = k
    · have e' : q.1 = k := h1.symm.trans e
      have b : valueAt (q :: qs) k = some q.2 := by simp [valueAt, List.find?_cons, e']
      rw [valV_pos e, b]; exact h2
    · have e' : ¬ q.1 = k := fun z => e (h1.trans z)
      have b : valueAt (q :: qs) k = valueAt qs k := by simp [valueAt, List.find?_cons, e']
      rw [valV_neg e, b]; exact ih
theorem KV.any {kvs : List (κ × V)} {vs : List (κ × Value)} (r : KV kvs vs) (k : κ) : (kvs.any fun kv => decide (kv.1 = k)) = vs.any fun kv => decide (kv.1 = k) := by
  unfold KV at r
  induction r with
  | nil => rfl
  | cons h t ih => rw [List.any_cons, List.any_cons, ih, h.1]
theorem KV.repl {kvs : List (κ × V)} {vs : List (κ × Value)} (r : KV kvs vs) (k : κ) {y : V} {u : Value} (ry : RelV y u) :
    KV (kvs.map fun kv => if kv.1 = k then (kv.1, y) else kv) (vs.map fun kv => if kv.1 = k then (kv.1, u) else kv) := by
  unfold KV at r ⊢
  induction r with
  | nil => exact .nil
  | @cons p q ps qs h t ih =>
    rw [List.map_cons, List.map_cons]
    refine .cons ?_ ih
    obtain ⟨h1, h2⟩ := h
    by_cases e : p.1 = k
    · rw [if_pos e, if_pos (h1.symm.trans e)]; exact ⟨h1, ry⟩
    · rw [if_neg e, if_neg (fun z => e (h1.trans z))]; exact ⟨h1, h2⟩
theorem KV.put {kvs : List (κ × V)} {vs : List (κ × Value)} (r : KV kvs vs) (k : κ) {y : V} {u : Value} (ry : RelV y u) : KV (putK kvs k y) (stored vs k u) := by
  unfold putK stored
  rw [r.any k]
  by_cases e : (vs.any fun kv => decide (kv.1 = k)) = true
  · rw [if_pos e, if_pos e]; exact r.repl k ry
  · rw [if_neg e, if_neg e]; exact Paired.snoc r ⟨rfl, ry⟩
theorem KV.drop {kvs : List (κ × V)} {vs : List (κ × Value)} (r : KV kvs vs) (k : κ) : KV (dropK kvs k) (without vs k) := by
  unfold KV at r ⊢
  unfold dropK without
  induction r with
  | nil => exact .nil
  | @cons p q ps qs h t ih =>
    obtain ⟨h1, h2⟩ := h
    rw [List.filter_cons, List.filter_cons]
    by_cases e : p.1 = k
    · have a : ¬ decide (p.1 ≠ k) = true := by simp [e]
      have b : ¬ decide (q.1 ≠ k) = true := by simp [h1.symm.trans e]
      rw [if_neg a, if_neg b]; exact ih
    · have e' : ¬ q.1 = k := fun z => e (h1.trans z)
      have a : decide (p.1 ≠ k) = true := by simp [e]
      have b : decide (q.1 ≠ k) = true := by simp [e']
      rw [if_pos a, if_pos b]; exact .cons ⟨h1, h2⟩ ih
theorem KV.length {kvs : List (κ × V)} {vs : List (κ × Value)} (r : KV kvs vs) : kvs.length = vs.length := Paired.length r
end


/-! ### a tracked dict, its keys ints and texts or tuples of these -/
theorem kV_is {P : Program} {w : World} {k : Key} {u : Value} (r : RelV (kV k) u) : (mixKind P w).is k u = true := by
  cases k with
  | inl i => obtain ⟨t, e⟩ := (show ∃ t, u = Value.int i t from r); subst e; exact mixKind_int P w i t
  | inr x => obtain ⟨t, e⟩ := (show ∃ t, u = Value.str x t from r); subst e; exact mixKind_str P w x t
theorem items_are {P : Program} {w : World} : ∀ {ks : List Key} {us : List Value}, Vals (ks.map kV) us → ItemsAre (mixKind P w) ks us
  | [], _, r => by rw [List.map_nil] at r; cases r; exact .nil
  | k :: ks, _, r => by
    rw [List.map_cons] at r
    cases r with
    | cons h t => exact .cons (kV_is h) (items_are t)

/-- raw entries of a dict with tuple keys -/
abbrev KT (H : Hp) : List (List Key × V) → List (List Key × Addr × Value) → Prop := Paired fun p q => p.1 = q.1 ∧ H q.2.1 = some (.tup (p.1.map kV)) ∧ RelV p.2 q.2.2
theorem KT.val {H : Hp} {kvs : List (List Key × V)} {xs : List (List Key × Addr × Value)} (r : KT H kvs xs) (k : List Key) : RelO (valV kvs k) ((atKey xs k).map (·.2)) := by
  induction r with
  | nil => exact True.intro
  | @cons p q ps qs h t ih =>
    obtain ⟨h1, _, h2⟩ := h
    by_cases e : p.1 = k
    · have e' : q.1 = k := h1.symm.trans e
      have b : atKey (q :: qs) k = some q.2 := by simp [atKey, List.find?_cons, e']
      rw [valV_pos e, b]; exact h2
    · have e' : ¬ q.1 = k := fun z => e (h1.trans z)
      have b : atKey (q :: qs) k = atKey qs k := by simp [atKey, List.find?_cons, e']
      rw [valV_neg e, b]; exact ih
theorem KT.repl {H : Hp} {kvs : List (List Key × V)} {xs : List (List Key × Addr × Value)} (r : KT H kvs xs) (k : List Key) {y : V} {u : Value} (ry : RelV y u) :
    KT H (kvs.map fun kv => if kv.1 = k then (kv.1, y) else kv) (xs.map (putAt k u)) := by
  induction r with
  | nil => exact .nil
  | @cons p q ps qs h t ih =>
    rw [List.map_cons, List.map_cons]
    refine .cons ?_ ih
    obtain ⟨h1, h2, h3⟩ := h
    unfold putAt
    by_cases e : p.1 = k
    · rw [if_pos e, if_pos (h1.symm.trans e)]; exact ⟨h1, h2, ry⟩
    · rw [if_neg e, if_neg (fun z => e (h1.trans z))]; exact ⟨h1, h2, h3⟩
theorem KT.put {H : Hp} {kvs : List (List Key × V)} {xs : List (List Key × Addr × Value)} (r : KT H kvs xs) (k : List Key) {b : Addr} {y : V} {u : Value} (hb : H b = some (.tup (k.map kV))) (ry : RelV y u) :
    KT H (putK kvs k y) (storedH xs k b u) := by
  have e : (kvs.any fun kv => decide (kv.1 = k)) = (atKey xs k).isSome := by
    rw [valV_any, (r.val k).isSome_eq, Option.isSome_map]
  unfold putK storedH
  rw [e]
  by_cases q : (atKey xs k).isSome = true
  · rw [if_pos q, if_pos q]; exact r.repl k ry
  · rw [if_neg q, if_neg q]; exact Paired.snoc r ⟨rfl, hb, ry⟩
theorem KT.keeps {H H' : Hp} {kvs : List (List Key × V)} {xs : List (List Key × Addr × Value)} (r : KT H kvs xs) (ht : ∀ b ys, H b = some (.tup ys) → H' b = some (.tup ys)) : KT H' kvs xs :=
  Paired.mapP r fun _ _ z => ⟨z.1, ht _ _ z.2.1, z.2.2⟩

section
variable {P : Program} {w : World} {H : Hp} {h : Heap} {a : Addr}
theorem rd_of {u : HO} (ok : HOk P w H h) (e : Rd H a u) : ObjOk P w H h a u := e.ok ok
theorem dk_rd {kvs : List (Key × V)} (ok : HOk P w H h) (e : Rd H a (.dK kvs)) : kvs.length ≤ sizeLine ∧ (a == sysModules) = false ∧ ∃ vs, KV kvs vs ∧ h.DictOf (mixKind P w) a vs :=
  show ObjOk P w H h a (.dK kvs) from rd_of ok e
theorem dk_of {kvs : List (Key × V)} (ok : HOk P w H h) (e : H a = some (.dK kvs)) : kvs.length ≤ sizeLine ∧ (a == sysModules) = false ∧ ∃ vs, KV kvs vs ∧ h.DictOf (mixKind P w) a vs := dk_rd ok (.inl e)
/-- a tracked tuple of ints and texts is a key -/
theorem key_of {ks : List Key} (ok : HOk P w H h) (e : H a = some (.tup (ks.map kV))) : (tupleKind (mixKind P w)).is h ks a := by
  obtain ⟨_, its, r, o, h1, h2, n, h3⟩ := (show ObjOk P w H h a (.tup (ks.map kV)) from ok a _ e)
  exact ⟨o, its.toArray, n, h1, h2, h3, by simpa using items_are r⟩
theorem dt_rd {kvs : List (List Key × V)} (ok : HOk P w H h) (e : Rd H a (.dT kvs)) : kvs.length ≤ sizeLine ∧ (a == sysModules) = false ∧
    ∃ xs, KT H kvs xs ∧ h.DictOfH (tupleKind (mixKind P w)) a xs := by
  obtain ⟨z, y, xs, r, o, es, ep, h1, h2, h3, h4, h5⟩ := (show ObjOk P w H h a (.dT kvs) from rd_of ok e)
  refine ⟨z, y, xs, r, o, es, ep, h1, h2, h3, h4, fun x hx => ?_, h5⟩
  have all : ∀ {l : List (List Key × V)} {m : List (List Key × Addr × Value)}, KT H l m → ∀ x ∈ m, (tupleKind (mixKind P w)).is h x.1 x.2.1 := by
    intro l m q
    induction q with
    | nil => intro x hx; exact nomatch hx
    | @cons p q ps qs hq t ih =>
      intro x hx
      rcases List.mem_cons.mp hx with e | hx
      · subst e
        exact key_of ok (by rw [← hq.1]; exact hq.2.1)
      · exact ih x hx
  exact all r x hx
end

/-- what the dict at a holds at the key y -/
def DGet (H : Hp) (a : Addr) (y : V) (r : Option V) : Prop :=
  (∃ kvs k, Rd H a (.dK kvs) ∧ y = kV k ∧ r = valV kvs k) ∨ ∃ kvs k b, Rd H a (.dT kvs) ∧ y = .ref b ∧ H b = some (.tup (k.map kV)) ∧ r = valV kvs k
/-- the heap behind a[y] = v -/
def DPut (H : Hp) (a : Addr) (y v : V) (H' : Hp) : Prop :=
  (∃ kvs k, H a = some (.dK kvs) ∧ y = kV k ∧ kvs.length < sizeLine ∧ H' = upd H a (.dK (putK kvs k v))) ∨
  ∃ kvs k b, H a = some (.dT kvs) ∧ y = .ref b ∧ H b = some (.tup (k.map kV)) ∧ kvs.length < sizeLine ∧ H' = upd H a (.dT (putK kvs k v))
theorem DGet.k {H : Hp} {a : Addr} {kvs : List (Key × V)} {k : Key} (e : H a = some (.dK kvs)) : DGet H a (kV k) (valV kvs k) := .inl ⟨kvs, k, .inl e, rfl, rfl⟩
theorem DGet.t {H : Hp} {a b : Addr} {kvs : List (List Key × V)} {k : List Key} (e : H a = some (.dT kvs)) (eb : H b = some (.tup (k.map kV))) : DGet H a (.ref b) (valV kvs k) := .inr ⟨kvs, k, b, .inl e, rfl, eb, rfl⟩
theorem DPut.k {H : Hp} {a : Addr} {kvs : List (Key × V)} {k : Key} {v : V} (e : H a = some (.dK kvs)) (hl : kvs.length < sizeLine) : DPut H a (kV k) v (upd H a (.dK (putK kvs k v))) := .inl ⟨kvs, k, e, rfl, hl, rfl⟩
theorem DPut.t {H : Hp} {a b : Addr} {kvs : List (List Key × V)} {k : List Key} {v : V} (e : H a = some (.dT kvs)) (eb : H b = some (.tup (k.map kV))) (hl : kvs.length < sizeLine) :
    DPut H a (.ref b) v (upd H a (.dT (putK kvs k v))) := .inr ⟨kvs, k, b, e, rfl, eb, hl, rfl⟩


section
variable {X : Cx} {pins : List (Addr × Obj)} {σ : St} {H : Hp} {s : Shared} {a : Addr} {y v : V} {u r : Value} {o : Option V} {A : Around} {E : Value → Shared → Prop}

theorem Inv.big (I : Inv X pins σ H s) : sysModules < s.heap.objs.size := by
  have h : mainGlobals < s.heap.objs.size := (I.mod.glob.keeps I.bk).lt
  exact Nat.lt_trans (by decide) h

/-- a dict's object is replaced -/
theorem d_write {h' : Heap} {t' : Nat} {ob : HO} (I : Inv X pins σ H s) (mu : Mut (H a)) (hs : Heap.SameBut a s.heap h') (he : ∃ q, h'.get? a = some q) (new : ObjOk X.prog X.w (upd H a ob) h' a ob) :
    Inv X pins σ (upd H a ob) { s with heap := h', toks := t' } :=
  I.write (x := a) (e := a) mu (.inl rfl) (fun b q hb z => (hs.2 b hb).trans z) he new
theorem dk_new {P : Program} {w : World} {H' : Hp} {h' : Heap} {kvs : List (Key × V)} {vs : List (Key × Value)} (z : kvs.length ≤ sizeLine) (hd : (a == sysModules) = false) (rel : KV kvs vs) (dd : h'.DictOf (mixKind P w) a vs) :
    ObjOk P w H' h' a (.dK kvs) := ⟨z, hd, vs, rel, dd⟩
end

section
variable {X : Cx} {pins : List (Addr × Obj)} {σ : St} {H : Hp} {s : Shared} {a : Addr} {kvs : List (Key × V)} {k : Key} {u : Value} {A : Around} {E : Value → Shared → Prop}
end


section
variable {X : Cx} {o i e value : Expr} {pos pos' tpos : Pos} {td ty tv : TE}
end


/-! ### displays -/
theorem dk_empty {P : Program} {w : World} {H : Hp} (h : Heap) (hb : sysModules < h.objs.size) : ObjOk P w H (h.push { cls := .type "dict", data := .dict #[] }) h.objs.size (.dK []) :=
  ⟨Nat.zero_le _, beq_eq_false_iff_ne.mpr (Ne.symm (Nat.ne_of_lt hb)), [], .nil, Heap.DictOf.new h⟩
section
variable {X : Cx} {pos : Pos}
end

/-! ### methods -/
/-- a method call o.m(e) of a built-in, with one argument: what must be seen of the text -/
structure M1 (X : Cx) (o : Expr) (m : Str) (apos : Pos) (e : Expr) (cpos : Pos) : Prop where
  base : attributeBase o m X.env (eval o X.env) = eval o X.env
  few : ((backTo cpos (starEach [e] X.env)).all (fun x => !x.1) && (backToKw cpos (keywordEach [] X.env)).all (fun x => x.1.isSome)
    && decide (([e] : List Expr).length + ([] : List Keyword).length + (if ([] : List Keyword).isEmpty then 0 else 1) < 30)) = true
  line : (apos.endLine == cpos.line) = true
  trees : backTo cpos (starEach [e] X.env) = [(false, eval e X.env)]
/-- a is a dict, whatever its keys -/
def IsD (H : Hp) (a : Addr) : Prop := (∃ kvs, Rd H a (.dK kvs)) ∨ ∃ kvs, Rd H a (.dT kvs)
theorem isD_at {X : Cx} {pins : List (Addr × Obj)} {σ : St} {H : Hp} {s : Shared} {a : Addr} (I : Inv X pins σ H s) (d : IsD H a) :
    s.TypeIs (.ref a) "dict" ∧ (∀ b, Value.ref a = .ref b → ∃ ob, s.heap.get? b = some ob ∧ ob.dict = none) ∧ (a == sysModules) = false := by
  rcases d with ⟨kvs, e⟩ | ⟨kvs, e⟩
  · obtain ⟨_, hd, vs, _, dd⟩ := dk_rd I.hok e
    refine ⟨dd.typeIs, fun b q => ?_, hd⟩
    cases q
    obtain ⟨ob, _, _, h1, h2, _⟩ := dd
    exact ⟨ob, h1, h2.2.1⟩
  · obtain ⟨_, hd, xs, _, dd⟩ := dt_rd I.hok e
    refine ⟨dd.typeIs, fun b q => ?_, hd⟩
    cases q
    obtain ⟨ob, _, _, h1, h2, _⟩ := dd
    exact ⟨ob, h1, h2.2.1⟩

section
variable {X : Cx} {pins : List (Addr × Obj)} {σ : St} {H : Hp} {s : Shared} {a : Addr} {y d : V} {u r : Value} {o : Option V} {A : Around} {E : Value → Shared → Prop}
/-- d.get(y) -/
theorem d_get1 {Q : Value → Shared → Prop} (hu : A.units + 1 < cLine) (I : Inv X pins σ H s) (g : DGet H a y o) (ry : RelV y u) (h : ∀ w' s', Inv X pins σ H s' → RelV (o.getD .non) w' → Q w' s') :
    wpAny (model X.prog X.w) A (call (.builtin "dict.get") [.ref a, u]) Q E s := by
  rcases g with ⟨kvs, k, e, ey, l⟩ | ⟨kvs, k, b, e, ey, eb, l⟩
  · subst ey
    obtain ⟨z, hd, vs, rel, dd⟩ := dk_rd I.hok e
    refine call_meetsIn PySem.F.slot_dict_get dd.typeIs PySem.F.entry_dict_get (PySem.F.args_dict_get_2 _ _) (meets_dict_get (mixKind X.prog X.w) a (kV_is ry) hd) ⟨_, dd.mapOf, h _ _ (I.tok _) ?_⟩
    rw [l]
    exact (rel.val k).getD rfl
  · subst ey
    cases (show u = Value.ref b from ry)
    obtain ⟨z, hd, xs, rel, dd⟩ := dt_rd I.hok e
    refine call_meetsIn PySem.F.slot_dict_get dd.typeIs PySem.F.entry_dict_get (PySem.F.args_dict_get_2 _ _) (meetsH_dict_get (tupleKind (mixKind X.prog X.w)) a b hd) ⟨tupleKind_room_in1 hu, k, xs, key_of I.hok eb, dd, h _ _ (I.tok _) ?_⟩
    rw [l]
    exact (rel.val k).getD rfl
end

def tDGet1 (td ty : TE) : TE := fun σ H Q => td σ H fun x H1 => ∃ a, x = .ref a ∧ IsD H1 a ∧ ty σ H1 fun y H2 => ∃ o, DGet H2 a y o ∧ Q (o.getD .non) H2
section
variable {X : Cx} {o e f : Expr} {apos cpos : Pos} {td ty tx : TE}
theorem pe_dget1 (hu : X.A.units + 1 < cLine) (ho : PE X o td) (he : PE X e ty) (m : M1 X o "get" apos e cpos) : PE X (.Call (.Attribute o "get" apos) [e] [] cpos) (tDGet1 td ty) := by
  intro pins s σ H Q I h
  refine wpAny_Call_method m.base m.few m.line PySem.F.plainAttrs_dict PySem.F.slot_dict_get PySem.F.type_dict_get (thn (ho pins s σ H _ I h) fun u s1 ⟨x, H1, I1, rx, a, ex, d, q1⟩ => ?_)
  subst ex
  obtain rfl : u = Value.ref a := rx
  obtain ⟨t1, t2, _⟩ := isD_at I1 d
  refine ⟨t1, t2, ?_⟩
  rw [m.trees]
  refine Calls.callWith_builtin rfl (Calls.evalArgs_plain (Calls.spliced_cons (thn (he pins s1 σ H1 _ I1 q1) fun iv s2 ⟨y, H2, I2, ry, ov, g, q2⟩ => Calls.spliced_nil ?_)))
  exact d_get1 hu I2 g ry fun w' s3 I3 rw' => ⟨_, H2, I3, rw', q2⟩
end

/-! ### dict(d): a copy -/
section
variable {X : Cx} {pins : List (Addr × Obj)} {σ : St} {H : Hp} {s : Shared} {a : Addr} {kvs : List (Key × V)} {A : Around} {E : Value → Shared → Prop}
end


section
variable {X : Cx} {pins : List (Addr × Obj)} {σ : St} {H : Hp} {s : Shared} {a : Addr} {y : V} {u : Value} {A : Around} {E : Value → Shared → Prop}
end
end L2

namespace L2
open PySem PySem.Spec PyProof.Rows
section
variable {X : Cx}
end
/-! ### a dict's pairs: keys that differ -/
section
variable {κ : Type} [DecidableEq κ]
end
end L2

set_option Elab.async false
set_option linter.all false
set_option maxRecDepth 100000
set_option maxHeartbeats 4000000
/-! ### dict comprehensions -/
namespace L2
open PySem PySem.Spec PyProof.Rows
/-- one turn after another; nothing is raised -/
theorem compd_loop {prog : Program} {w : World} {A : Around} {R : Result → Shared → Prop} {s : Shared} {kx vx target iter : Expr} {ifs : List Expr} {scope : Scope} {pos : Pos} {it : Value} {D : Addr} {env : Env} (J : Nat → Shared → Prop)
    (turn : ∀ n s, J n s → wpAny (model prog w) A (pyNext it) (fun r s1 => match r with
      | none => R (.ok .next) s1
      | some v => wpAny (model prog w) A (letOwnedTupleGo target it v) (fun _ s2 => wpAny (model prog w) A (assign target env v) (fun _ s3 =>
          wpAny (model prog w) A (forIn ifs true fun c r => if r = true then do let ok ← isTrue c env (eval c env); pure (ForInStep.yield ok) else pure (ForInStep.yield r)) (fun ok s4 =>
            if ok = true then wpAny (model prog w) A (eval kx env) (fun kv s5 => wpAny (model prog w) A (eval vx env) (fun vv s6 => wpAny (model prog w) A (dictSet D kv vv) (fun _ s7 => ∃ m, m < n ∧ J m s7) (fun _ _ => False) s6) (fun _ _ => False) s5) (fun _ _ => False) s4
            else ∃ m, m < n ∧ J m s4) (fun _ _ => False) s3) (fun _ _ => False) s2) (fun _ _ => False) s1) (fun _ _ => False) s)
    (n : Nat) (h : J n s) : codeAny (model prog w) A (.compLoop (.DictComp kx vx [⟨target, iter, ifs, 0⟩] scope pos) 0 it (.ref D) env) R s := by
  refine codeAny_loop rfl J (fun k s' hk => ?_) n h
  show wpAny _ A (Sem.onRaise (compTurn (.DictComp kx vx [⟨target, iter, ifs, 0⟩] scope pos) 0 it (.ref D) env) (fun x => do noteFrame x env; theTreesLotGoes x)) _ _ s'
  refine wpAny_noted ?_
  rw [compTurn_dict]
  refine wpAny_bind (wpAny_standAt (wpAny_bind (wpAny_mono (turn k s' hk) (fun r s1 q1 => ?_) fun _ _ f => f.elim)))
  cases r with
  | none => exact wpAny_pure q1
  | some v =>
    refine wpAny_bind (wpAny_mono q1 (fun _ s2 q2 => wpAny_bind (wpAny_mono q2 (fun _ s3 q3 => wpAny_bind (wpAny_mono q3 (fun ok s4 q4 => ?_) fun _ _ f => f.elim)) fun _ _ f => f.elim)) fun _ _ f => f.elim)
    cases ok with
    | false => exact wpAny_pure ⟨rfl, q4⟩
    | true => exact wpAny_bind (wpAny_bind (wpAny_mono q4 (fun kv s5 q5 => wpAny_bind (wpAny_holding (wpAny_mono q5 (fun vv s6 q6 => wpAny_bind (wpAny_standAt (wpAny_holding (wpAny_mono q6 (fun _ s7 q7 => wpAny_pure ⟨rfl, q7⟩) fun _ _ f => f.elim)))) fun _ _ f => f.elim))) fun _ _ f => f.elim))

theorem d_dictSet {X : Cx} {pins : List (Addr × Obj)} {σ : St} {H : Hp} {s : Shared} {A : Around} {E : Value → Shared → Prop} {a : Addr} {kvs : List (Key × V)} {k : Key} {v : V} {u r : Value} {Q : Unit → Shared → Prop} (I : Inv X pins σ H s) (e : H a = some (.dK kvs)) (l : kvs.length < sizeLine) (ry : RelV (kV k) u) (rv : RelV v r)
    (h : ∀ s', Inv X pins σ (upd H a (.dK (putK kvs k v))) s' → Q () s') : wpAny (model X.prog X.w) A (dictSet a u r) Q E s := by
  obtain ⟨z, hd, vs, rel, dd⟩ := dk_of I.hok e
  have hz : vs.length ≤ sizeLine := by rw [← rel.length]; exact z
  have hl : (putK kvs k v).length ≤ sizeLine := by have := length_putK kvs k v; omega
  refine wpAny_dictSet_pairs (hsz := hz) (kV_is ry) dd fun h' dd' hs => h _ ?_
  have he : ∃ q, h'.get? a = some q := let ⟨q, _, _, hq, _⟩ := dd'; ⟨q, hq⟩
  exact d_write I (by rw [e]; exact True.intro) hs he (dk_new hl hd (rel.put k rv) dd')
/-- what a comprehension is to keep, turn by turn: W the invariant by the turn and a measure, over the block's names and the heap; l the new dict -/
@[irreducible] def DWant (J : It) (g : TG) (tt : TT) (tk tv : TE) (Q : VK) (σ0 : St) (H0 : Hp) (l : Addr) : Prop := ∃ W : Nat → Nat → St → Hp → Prop, (∃ m, W 0 m σ0 H0) ∧
  ∀ i m σ' H', W i m σ' H' → (J.stop i H' ∧ Q (.ref l) H') ∨ (J.go i H' ∧ ∃ N : St → Hp → Prop, (∀ σ3 H3, N σ3 H3 → ∃ m', m' < m ∧ W (i + 1) m' σ3 H3) ∧ ∀ x H2, J.yld i H' x H2 → g x σ' H2 fun σ3 H3 => tt σ3 H3 fun b H4 =>
    if b = true then tk σ3 H4 fun y H5 => tv σ3 H5 fun z H6 => ∃ (kvs : List (Key × V)) (k : Key), H6 l = some (.dK kvs) ∧ y = kV k ∧ kvs.length < sizeLine ∧ N σ3 (upd H6 l (.dK (putK kvs k z))) else N σ3 H4)
/-- {k: v for tg in iter if ..} -/
def tDComp (wi : TI) (src : List (Option Nat)) (g : TG) (tt : TT) (tk tv : TE) : TE := fun σ H Q => wi σ H fun J H1 => ∀ l, H1 l = none → DWant J g tt tk tv Q (srcSt src σ) (upd H1 l (.dK [])) l

/-- the core: fin says what is wanted where the block's turns are over -/
theorem compd_core {X : Cx} {N' : List Str} {src : List (Option Nat)} {sc : Scope} {kx vx tg iter : Expr} {ifs : List Expr} {pos pos' : Pos} {wi : TI} {g : TG} {tt : TT} {tk tv : TE} {use : Option (Value → Sem Unit)} {R : Value → Shared → Prop} (hc : X.calm = true) (S : CScope X N' src sc)
    (hi : PI X tg iter wi) (hg : ∀ s3 H3 fp pn, PG (cxC X N' sc s3 H3 fp pn) tg g) (ht : ∀ s3 H3 fp pn, PF (cxC X N' sc s3 H3 fp pn) ifs tt) (hk : ∀ s3 H3 fp pn, PE (cxC X N' sc s3 H3 fp pn) kx tk) (hv : ∀ s3 H3 fp pn, PE (cxC X N' sc s3 H3 fp pn) vx tv)
    (hs : ∀ x, foldedSetIterable iter X.env x = pure x) {pins : List (Addr × Obj)} {s : Shared} {σ : St} {H : Hp} {Q : VK} (I : Inv X pins σ H s) (h : tDComp wi src g tt tk tv σ H Q)
    (fin : ∀ s3 H3 fp σ4 H4 s5 l, Inv X pins σ H3 s3 → (∀ b ∈ fp, FpOk X pins H3 b) → Inv (cxC X N' sc s3 H3 fp (X.pn ++ pins)) [] σ4 H4 s5 → Q (.ref l) H4 →
      compPost (model X.prog X.w) X.A X.xe use R (.ref l) s3.heap.objs.size (.ok .next) s5) :
    wpAny (model X.prog X.w) X.A (comprehension (.DictComp kx vx [⟨tg, iter, ifs, 0⟩] sc pos) sc X.env pos' newDict false (eval iter X.env) use) R X.xe s := by
  refine wpAny_comprehension_free (use := use) (cl := clOf X.env sc.names []) rfl hs (closure_is fun p hp e => I.ok.has p.1 (S.fv p hp e)) S.kind S.loc ?_
  refine thn (hi pins s σ H _ I h) fun v s1 h1 => thn h1 fun itv s2 h2 => ?_
  obtain ⟨it, fp, tn, J, H2, rfl, I2, T, st2, f2, q⟩ := h2
  have q' := q s2.heap.objs.size (I2.hok.fresh (Nat.le_refl _))
  unfold DWant at q'
  obtain ⟨W, ⟨m0, w0⟩, turn⟩ := q'
  refine wpAny_newObj_type (wpAny_newFunctionEnv S.nocell (by intro y hy; simp at hy) (fun ha hns hsb => ?_) S.kind)
  have I3 : Inv X pins σ (upd H2 s2.heap.objs.size (.dK [])) { s2 with heap := s2.heap.push { cls := .type "dict", data := .dict #[] } } :=
    I2.laid (t' := s2.toks) (fun b u e => Heap.get?_push_of_some _ e) (Nat.le_refl _) (dk_empty s2.heap I2.big)
  have hfl : ∀ b ∈ fp, b < s2.heap.objs.size := fun b hb => by
    obtain ⟨o, e, _⟩ := T.obj 0 _ st2 b hb
    exact Heap.lt_size e
  have f3 : ∀ b ∈ fp, FpOk X pins (upd H2 s2.heap.objs.size (.dK [])) b := fun b hb => ⟨by rw [upd_ne (Nat.ne_of_lt (hfl b hb))]; exact (f2 b hb).1, (f2 b hb).2⟩
  generalize hs3 : ({ s2 with heap := s2.heap.push { cls := .type "dict", data := .dict #[] } } : Shared) = s3 at *
  have hsz : s2.heap.objs.size < s3.heap.objs.size := by rw [← hs3]; show s2.heap.objs.size < (s2.heap.push _).objs.size; rw [Heap.size_push]; exact Nat.lt_succ_self _
  have kp : ∀ b o, s3.heap.get? b = some o → ha.get? b = some o := fun b o e => hsb.extBut b o (Nat.ne_of_lt (Heap.lt_size e)) (Heap.get?_push_of_some _ e)
  have st3 : tn 0 ha := T.keep 0 _ _ st2 fun b hb o e => kp b o (by rw [← hs3]; exact Heap.get?_push_of_some _ e)
  have I4 : Inv (cxC X N' sc s3 (upd H2 s2.heap.objs.size (.dK [])) fp (X.pn ++ pins)) [] (srcSt src σ) (upd H2 s2.heap.objs.size (.dK [])) { s3 with heap := ha, toks := s3.toks + ([] : List (Str × Value)).length } :=
    cx_start S I3 f3 (fun b hb => Nat.lt_trans (hfl b hb) hsz) hns kp
  have loop : codeAny (model X.prog X.w) X.A (.compLoop (.DictComp kx vx [⟨tg, iter, ifs, 0⟩] sc pos) 0 (.ref it) (.ref s2.heap.objs.size) (compEnvC sc (clOf X.env sc.names []) s3.heap.objs.size X.env))
      (compPost (model X.prog X.w) X.A X.xe use R (.ref s2.heap.objs.size) s3.heap.objs.size) { s3 with heap := ha, toks := s3.toks + ([] : List (Str × Value)).length } := by
    refine compd_loop (fun n s' => ∃ i σ' H', Inv (cxC X N' sc s3 (upd H2 s2.heap.objs.size (.dK [])) fp (X.pn ++ pins)) [] σ' H' s' ∧ tn i s'.heap ∧ (∀ b ∈ fp, H' b = none) ∧ W i n σ' H') ?_ m0 ⟨0, _, _, I4, st3, fun b hb => (f3 b hb).1, w0⟩
    rintro n s4 ⟨i, σ4, H4, J4, st4, fr4, w4⟩
    have stat : ∀ {H' : Hp}, (∀ b ∈ fp, H' b = none) → ∀ b ∈ fp, FpOk (cxC X N' sc s3 (upd H2 s2.heap.objs.size (.dK [])) fp (X.pn ++ pins)) [] H' b := fun hn b hb =>
      ⟨hn b hb, (I4.ok.exf b hb).1, I4.ok.exfs b hb, .inl hb, fun x c e => (I4.ok.exf b hb).2 x c e, fun p hp => (f3 b hb).2.2.2.2.2 p ((List.mem_append.mp hp).elim id fun z => by cases z)⟩
    rcases turn i n σ4 H4 w4 with ⟨stop, qn⟩ | ⟨go, N, hN, step⟩
    · refine thn (T.done (cxC X N' sc s3 (upd H2 s2.heap.objs.size (.dK [])) fp (X.pn ++ pins)) rfl rfl rfl hc i [] s4 σ4 H4 _ J4 (stat fr4) st4 stop) fun r s5 ⟨hr, J5⟩ => ?_
      subst hr
      exact fin s3 _ fp σ4 H4 s5 _ I3 f3 J5 qn
    · refine thn (T.item (cxC X N' sc s3 (upd H2 s2.heap.objs.size (.dK [])) fp (X.pn ++ pins)) rfl rfl rfl hc i [] s4 σ4 H4 _ J4 (stat fr4) st4 go) fun r s5 ⟨u, hr, h5⟩ => ?_
      subst hr
      refine thn h5 fun _ s6 ⟨x, H6, J6, r6, y6, st6, fr6⟩ => ?_
      have J6' := J6.pinned (stat fr6) (T.obj _ _ st6)
      have back : ∀ {pl : List (Addr × Obj)} {σ7 : St} {H7 : Hp} {s7 : Shared}, Inv (cxC X N' sc s3 (upd H2 s2.heap.objs.size (.dK [])) fp (X.pn ++ pins)) ([] ++ pinsAt fp s6.heap) σ7 H7 s7 → N σ7 H7 →
          ∃ m', m' < n ∧ ∃ i σ' H', Inv (cxC X N' sc s3 (upd H2 s2.heap.objs.size (.dK [])) fp (X.pn ++ pins)) [] σ' H' s7 ∧ tn i s7.heap ∧ (∀ b ∈ fp, H' b = none) ∧ W i m' σ' H' := fun {pl σ7 H7 s7} J7 w7 => by
        obtain ⟨m', hm, w7⟩ := hN _ _ w7
        have pinned : ∀ b ∈ fp, ∀ o, s6.heap.get? b = some o → s7.heap.get? b = some o ∧ H7 b = none := fun b hb o e => by
          have := J7.pin (b, o) (List.mem_append_right _ (List.mem_append_right _ (mem_pinsAt hb e)))
          exact ⟨this.1, this.2.1⟩
        refine ⟨m', hm, i + 1, σ7, H7, J7.unpinned, T.keep _ _ _ st6 fun b hb o e => (pinned b hb o e).1, fun b hb => ?_, w7⟩
        obtain ⟨o, e, _⟩ := T.obj _ _ st6 b hb
        exact (pinned b hb o e).2
      refine thn (hg s3 _ fp _ _ s6 σ4 H6 x u _ J6' r6 (step x H6 y6)) fun _ s7 ⟨σ7, H7, J7, q7⟩ => ?_
      refine thn (ht s3 _ fp _ _ s7 σ7 H7 _ J7 q7) fun ok s8 ⟨H8, J8, q8⟩ => ?_
      cases ok with
      | false =>
        rw [if_neg Bool.false_ne_true] at q8 ⊢
        exact back (pl := []) J8 q8
      | true =>
        rw [if_pos rfl] at q8 ⊢
        refine thn (hk s3 _ fp _ _ s8 σ7 H8 _ J8 q8) fun y s9 ⟨yv, H9, J9, r9, q9⟩ => ?_
        refine thn (hv s3 _ fp _ _ s9 σ7 H9 _ J9 q9) fun z s10 ⟨zv, H10, J10, r10, kvs, k, hl, ey, hz, q10⟩ => ?_
        subst ey
        refine d_dictSet (X := cxC X N' sc s3 (upd H2 s2.heap.objs.size (.dK [])) fp (X.pn ++ pins)) J10 hl hz r9 r10 fun s11 J11 => ?_
        exact back (pl := []) J11 q10
  exact codeAny_compStart_dict loop (T.self X.A 0 _ _ _ st3 loop)
end L2

set_option Elab.async false
set_option linter.all false
set_option maxRecDepth 100000
set_option maxHeartbeats 4000000
/-! ### enumerate, over tuples and lists, from 0 or 1 -/
namespace PySem
open Sem (wp)
section
variable {prog : Program} {w : World} {A : Around} {E : Value → Shared → Prop} {s : Shared}
theorem nextOf_tup_item {it l : Addr} {i : Nat} {items : Array Value} {x : Value} {Q : Value → Shared → Prop} (hit : s.heap.IsTupleIter it l i) (hl : s.heap.IsTuple l items) (hx : items[i]? = some x)
    (hQ : ∀ h', h'.IsTupleIter it l (i + 1) → Heap.SameBut it s.heap h' → Q x { s with heap := h' }) : wpAny (model prog w) A (Builtin.SmallTypes.nextOf (.ref it)) Q E s := by
  obtain ⟨o, ho, hc, hd⟩ := id hit
  obtain ⟨ol, hol, _, nl, hdl⟩ := hl
  unfold Builtin.SmallTypes.nextOf
  refine wpAny_bind (wpAny_callSpecial?_slot (name := Str.ofString "__next__") hit.typeIs PyProof.Rows.slot_tupleiter_next (wpAny_call_entry PyProof.Rows.slot_tupleiter_next hit.typeIs PyProof.Rows.entry_tupleiter_next ?_ (PyProof.Rows.args_tupleiter_next _)))
  show wpAny _ _ (field (.ref it) 0 >>= _) _ _ s
  refine wpAny_bind (wpAny_field ho hd (x := .ref l) rfl ?_)
  show wpAny _ _ (if (Value.ref l == Value.none) = true then _ else _) _ _ s
  rw [if_neg (show ¬ ((Value.ref l == Value.none) = true) from Bool.false_ne_true)]
  show wpAny _ _ (field (.ref it) 1 >>= _) _ _ s
  refine wpAny_bind (wpAny_field ho hd (x := .int i 0) rfl ?_)
  show wpAny _ _ (seqItems? (.ref l) >>= _) _ _ s
  refine wpAny_bind (wpAny_seqItems hol hdl ?_)
  simp only [Int.toNat_natCast, hx]
  refine wpAny_bind (wpAny_setField ho hd (by simp) (wpAny_pure ⟨x, rfl, wpAny_pure (hQ _ ?_ (Heap.SameBut.update ..))⟩))
  exact ⟨_, Heap.get?_update_self _ ho (Obj.isFreed_of_fields (Obj.data_mapFields hd _)), (Obj.cls_mapFields ..).trans hc, by rw [Obj.data_mapFields hd]; simp [rawInt]⟩
theorem nextOf_tup_end {it l : Addr} {i : Nat} {items : Array Value} {Q : Value → Shared → Prop} (hh : A.handled = none) (hit : s.heap.IsTupleIter it l i) (hl : s.heap.IsTuple l items) (hx : items[i]? = none)
    (hE : ∀ h' e, Heap.ExtBut it s.heap h' → (∃ o, h'.get? e = some o ∧ o.cls = .type "StopIteration") → E (.ref e) { s with heap := h' }) : wpAny (model prog w) A (Builtin.SmallTypes.nextOf (.ref it)) Q E s := by
  obtain ⟨o, ho, hc, hd⟩ := id hit
  obtain ⟨ol, hol, _, nl, hdl⟩ := hl
  unfold Builtin.SmallTypes.nextOf
  refine wpAny_bind (wpAny_callSpecial?_slot (name := Str.ofString "__next__") hit.typeIs PyProof.Rows.slot_tupleiter_next (wpAny_call_entry PyProof.Rows.slot_tupleiter_next hit.typeIs PyProof.Rows.entry_tupleiter_next ?_ (PyProof.Rows.args_tupleiter_next _)))
  show wpAny _ _ (field (.ref it) 0 >>= _) _ _ s
  refine wpAny_bind (wpAny_field ho hd (x := .ref l) rfl ?_)
  show wpAny _ _ (if (Value.ref l == Value.none) = true then _ else _) _ _ s
  rw [if_neg (show ¬ ((Value.ref l == Value.none) = true) from Bool.false_ne_true)]
  show wpAny _ _ (field (.ref it) 1 >>= _) _ _ s
  refine wpAny_bind (wpAny_field ho hd (x := .int i 0) rfl ?_)
  show wpAny _ _ (seqItems? (.ref l) >>= _) _ _ s
  refine wpAny_bind (wpAny_seqItems hol hdl ?_)
  simp only [Int.toNat_natCast, hx]
  refine wpAny_bind (wpAny_rule (wpAny_bind (wpAny_setField ho hd (by simp) ?_)))
  show wpAny _ _ (newExc (.type "StopIteration") [] >>= _) _ _ _
  refine wpAny_bind ?_
  simp only [newExc, newTuple]
  refine wpAny_bind (wpAny_newObj_type ?_ (by size_fits))
  refine wpAny_bind (m := firstArgMember _ _) (wpAny_of_eq (a := Value.none) (by first | rfl | (simp only [firstArgMember]; rfl)) ?_)
  refine wpAny_newObj_type ?_ (by size_fits)
  simp only [raiseNew]
  refine wpAny_bind (wpAny_handled ?_)
  first | rw [show A.in1.handled = none from hh] | rw [hh]
  refine wpAny_bind (wpAny_pure (wpAny_throw ?_))
  exact hE _ _ (((Heap.SameBut.update ..).extBut.push _).push _) ⟨_, Heap.get?_push_size _ rfl, rfl⟩
end
theorem Draws.tup {prog : Program} {w : World} {A : Around} (hh : A.handled = none) (it l : Addr) (hne : l ≠ it) (items : Array Value) :
    Draws prog w A it [it, l] items.size (fun i v => items[i]? = some v) (fun i h => h.IsTupleIter it l i ∧ h.IsTuple l items) where
  live := fun _ _ st => let ⟨o, ho, _⟩ := st.1; ⟨o, ho⟩
  frame := fun _ _ _ st hk => ⟨st.1.at fun o e => hk it (by simp) o e, let ⟨o, e, r⟩ := st.2; ⟨o, hk l (by simp) o e, r⟩⟩
  item := fun i s Q E hi st hQ => nextOf_tup_item st.1 st.2 (x := items[i]) (by simp [hi]) fun h' hit' hs' => hQ _ h' s.toks (by simp [hi]) ⟨hit', let ⟨o, e, r⟩ := st.2; ⟨o, hs'.extBut _ _ hne e, r⟩⟩ hs'
  done := fun s Q E st hE => nextOf_tup_end hh st.1 st.2 (by simp) hE
/-- the same, counted from k on -/
theorem Draws.from {prog : Program} {w : World} {A : Around} {it : Addr} {fp : List Addr} {n : Nat} {P : Nat → Value → Prop} {St : Nat → Heap → Prop} (D : Draws prog w A it fp n P St) (k : Nat) :
    Draws prog w A it fp (k + n) (fun j v => ∃ i, j = k + i ∧ P i v) (fun j h => ∃ i, j = k + i ∧ i ≤ n ∧ St i h) where
  live := fun _ _ ⟨i, _, _, st⟩ => D.live i _ st
  frame := fun _ _ _ ⟨i, e, hi, st⟩ hk => ⟨i, e, hi, D.frame i _ _ st hk⟩
  item := fun j s Q E hj ⟨i, e, hi, st⟩ hQ => D.item i s Q E (by omega) st fun x h' tk p st' sb => hQ x h' tk ⟨i, e, p⟩ ⟨i + 1, by omega, by omega, st'⟩ sb
  done := fun s Q E ⟨i, e, hi, st⟩ hE => by
    have : i = n := by omega
    subst this
    exact D.done s Q E st hE
end PySem
namespace L2
open PySem PySem.Spec PyProof.Rows
section
variable {X : Cx} {pins : List (Addr × Obj)} {σ : St} {H : Hp} {s : Shared} {h' : Heap}
/-- untracked records of ours at fp have turned, and a new object is laid at t -/
theorem Inv.turnedNew {t' : Nat} {fp : List Addr} {t : Addr} {o : HO} (I : Inv X pins σ H s) (ht : s.heap.objs.size ≤ t) (k : ∀ b u, b ∉ fp → s.heap.get? b = some u → h'.get? b = some u) (hf : ∀ b ∈ fp, FpOk X pins H b) (new : ObjOk X.prog X.w (upd H t o) h' t o) :
    Inv X pins σ (upd H t o) { s with heap := h', toks := t' } := by
  have nt := I.hok.fresh ht
  have old : ∀ b u, s.heap.get? b = some u → b ≠ t := fun b u e z => absurd (Nat.lt_of_lt_of_le (Heap.lt_size e) ht) (by rw [z]; exact Nat.lt_irrefl _)
  have nf : ∀ b u, H b = some u → b ∉ fp := fun b u e z => by rw [(hf b z).1] at e; cases e
  have tr : ∀ b u, H b = some u → (upd H t o) b = some u := fun b u e => by rw [upd_ne (ne_of_none e nt)]; exact e
  refine I.step (g' := s.gens) (d' := s.drawn) (ch := fp) (fun b hb => ?_) (fun b u _ _ hc e _ => k b u hc e) (fun b u _ _ hc e _ => ⟨u.slots, k b u hc e⟩) (fun b u hc e n => by rw [upd_ne (old b u e)]; exact n)
    (fun b u hc e => ⟨u, k b u hc e⟩) (fun _ _ e => tr _ _ e) (fun _ _ _ e => tr _ _ e) (fun b ps e => ⟨#[], by rw [tr _ _ e]; simp⟩) (fun m hm => ?_) (fun b u e => ?_) I.bare
  · obtain ⟨_, f1, _, f3, f4, f5⟩ := hf b hb
    exact ⟨f3, f1, f4, f5⟩
  · obtain ⟨u, es, ep, hu, r⟩ := hm
    exact ⟨u, es, ep, k _ u (fun z => (hf _ z).2.1 rfl) hu, r⟩
  · by_cases hb : b = t
    · subst hb
      rw [upd_same] at e
      cases e
      exact new
    · rw [upd_ne hb] at e
      refine (I.hok b u e).stay (fun c v hc q => k c v ?_ q) (fun c q => tr _ _ q) fun c xs q => tr _ _ q
      rcases hc with z | z
      · rw [z]; exact nf b u e
      · exact nf c _ z
theorem Inv.turnedL {t' : Nat} {fp : List Addr} (I : Inv X pins σ H s) (k : ∀ b u, b ∉ fp → s.heap.get? b = some u → h'.get? b = some u) (hf : ∀ b ∈ fp, FpOk X pins H b) : Inv X pins σ H { s with heap := h', toks := t' } := by
  have nf : ∀ b u, H b = some u → b ∉ fp := fun b u e z => by rw [(hf b z).1] at e; cases e
  refine I.step (g' := s.gens) (d' := s.drawn) (ch := fp) (fun b hb => ?_) (fun b u _ _ hc e _ => k b u hc e) (fun b u _ _ hc e _ => ⟨u.slots, k b u hc e⟩) (fun b u hc e n => n)
    (fun b u hc e => ⟨u, k b u hc e⟩) (fun _ _ e => e) (fun _ _ _ e => e) (fun b ps e => ⟨#[], by rw [e]; simp⟩) (fun m hm => ?_) (fun b u e => ?_) I.bare
  · obtain ⟨_, f1, _, f3, f4, f5⟩ := hf b hb
    exact ⟨f3, f1, f4, f5⟩
  · obtain ⟨u, es, ep, hu, r⟩ := hm
    exact ⟨u, es, ep, k _ u (fun z => (hf _ z).2.1 rfl) hu, r⟩
  · refine (I.hok b u e).stay (fun c v hc q => k c v ?_ q) (fun _ q => q) fun _ _ q => q
    rcases hc with z | z
    · rw [z]; exact nf b u e
    · exact nf c _ z
end
end L2

set_option Elab.async false
set_option linter.all false
set_option maxRecDepth 100000
set_option maxHeartbeats 4000000
namespace PySem
open Sem (wp)
open AutoSeq1 (wpAny_loadPart')
end PySem
namespace PySem
open Sem (wp)
section
variable {prog : Program} {w : World} {A : Around} {E : Value → Shared → Prop} {s : Shared}
theorem object_init_kw {T newId : String} {self : Value} {rest : List Value} {kw : List (Str × Value)} (hl : typeLookup (.type T) "__init__" = pure (some (.builtin "object.__init__")))
    (hm : Bind.madeBy (.type T) = pure (some newId)) (hne : (some newId != some "object.__new__") = true) :
    Meets (Builtin.«object.__init__» ⟨self :: rest, kw⟩) (fun _ R s => s.TypeIs self T ∧ R (.ok (.ret .none)) s) := by
  refine Meets.of_wp fun prog w A R s hs => ?_
  obtain ⟨hT, hq⟩ := hs
  cases rest with
  | nil =>
    cases kw with
    | nil => exact wpAny_pure ⟨_, rfl, hq⟩
    | cons k kw =>
      repeat (any_goals (first | assumption | wp_step))
      exact ⟨_, rfl, hq⟩
  | cons a rest =>
    repeat (any_goals (first | assumption | wp_step))
    exact ⟨_, rfl, hq⟩
theorem callTypeK {T newId : String} {Bn : Builtin} {args : List Value} {kw : List (Str × Value)} {S : Spec} {Q : Value → Shared → Prop} (ft : TypeCalled T newId "object.__init__") (hne : (some newId != some "object.__new__") = true)
    (hct : checkTypeCall T ⟨args, kw⟩ = pure ()) (hcn : checkBuiltinCall newId ⟨.type T :: args, kw⟩ = pure ()) (hok : ∀ obj, argsOk "object.__init__" ⟨obj :: args, kw⟩)
    (entryN : entryFor table newId = some Bn) (g : Meets (Bn ⟨.type T :: args, kw⟩) S) (h : S A.in1 (wants (fun obj s₁ => s₁.TypeIs obj T ∧ Q obj s₁) E) s) :
    wpAny (model prog w) A (call (.type T) args kw) Q E s := by
  obtain ⟨c, tl, hmro⟩ := ft.mro
  have hmade := ft.made
  have hsub := ft.sub
  refine wpAny_call (codeAny_of_tree ?_)
  show wpAny _ _ (callAny (.type T) _) _ _ _
  refine wpAny_pure ⟨Code.quiet_builtin _ (by decide +kernel), codeAny_builtin F.entry_type_call ?_⟩
  rw [Around.under_plain (weight_type_call_type T args kw) (units_type_call_type T args kw)]
  have h1 := ft.notType
  have h2 := ft.canCreate
  repeat (any_goals (first | assumption | wp_step))
  refine codeAny_mono (codeAny_call_builtin ft.plain entryN (wpAny_of_eq hcn (g prog w A.in1 _ s h))) fun r s₁ hr => ?_
  cases r with
  | error e => exact hr
  | ok fl =>
    cases fl with
    | ret obj =>
      obtain ⟨hT, hq⟩ := hr
      have hli := ft.init.lookup
      have hbi := ft.init.bind obj
      repeat (any_goals (first | assumption | wp_step))
      refine codeAny_mono (codeAny_call_builtin ft.init.plain F.entry_object_init (ft.init.check _ _ _ _ _ _ _ _ hT (hok obj) (object_init_kw ft.init.lookup ft.made hne prog w A.in1 (wants (fun r s₂ => r = .none ∧ Q obj s₂) E) s₁ ⟨hT, rfl, hq⟩))) fun r₂ s₂ hr₂ => ?_
      cases r₂ with
      | error e => exact hr₂
      | ok fl₂ =>
        cases fl₂ with
        | ret r =>
          obtain ⟨rfl, hq2⟩ := hr₂
          repeat (any_goals (first | assumption | wp_step))
        | _ => exact hr₂.elim
    | _ => exact hr.elim
end
end PySem
set_option Elab.async false
set_option linter.all false
set_option maxRecDepth 100000
set_option maxHeartbeats 4000000
namespace PyProof.Rows
open PySem
section
variable {M : Model} {A : Around} {E : Value → Shared → Prop} {s : Shared} {env : Env}
theorem callWith_typeKw {pos : Pos} {T : String} {e : Expr} {rest : List Expr} {kws : List Keyword} {Q : Value → Shared → Prop}
    (h : wpAny M A (spliced (backTo pos (starEach (e :: rest) env))) (fun vs s₁ => wpAny M A (evalAll ((backToKw pos (keywordEach kws env)).map (·.2))) (fun kvs s₂ => wpAny M A (call (.type T) vs (((backToKw pos (keywordEach kws env)).filterMap (·.1)).zip kvs)) Q E s₂) E s₁) E s)
    (he : backTo pos (starEach (e :: rest) env) = (false, eval e env) :: backTo pos (starEach rest env) := by rfl) (hplain : (backTo pos (starEach (e :: rest) env)).any (·.1) = false := by rfl)
    (hall : (backToKw pos (keywordEach kws env)).all (·.1.isSome) = true := by rfl) (hkw : (backToKw pos (keywordEach kws env)).any (·.1.isNone) = false := by rfl) :
    wpAny M A (callWith pos (.type T) [] (backTo pos (starEach (e :: rest) env)) (backToKw pos (keywordEach kws env))) Q E s := by
  have h2 : wpAny M A (evalArgs (.type T) true (backTo pos (starEach (e :: rest) env)) (backToKw pos (keywordEach kws env))) (fun a s₁ => wpAny M A (call (.type T) ([] ++ a.pos) a.kw) Q E s₁) E s := by
    rw [he] at h ⊢
    exact evalArgs_kwB hall h
  unfold callWith
  refine wpAny_bind (wpAny_holding (wpAny_mono h2 (fun a s₁ h₁ => wpAny_bind (wpAny_standAt ?_)) fun _ _ x => x))
  simp only [hplain, hkw, Bool.or_false]
  exact wpAny_bind (wpAny_pure (wpAny_bind (wpAny_mono h₁ (fun r s₂ hr => wpAny_bind (wpAny_holding (wpAny_point (wpAny_pure hr)))) fun _ _ x => x)))
end
end PyProof.Rows
namespace L2
open PySem PySem.Spec PyProof.Rows
section
variable {X : Cx}
end
end L2
set_option Elab.async false
set_option linter.all false
set_option maxRecDepth 100000
set_option maxHeartbeats 4000000
namespace L2
open PySem PySem.Spec PyProof.Rows
section
variable {X : Cx}
end
end L2
set_option Elab.async false
set_option linter.all false
set_option maxRecDepth 100000
set_option maxHeartbeats 4000000
namespace L2
open PySem PySem.Spec PyProof.Rows
section
variable {X : Cx}
end
end L2

set_option Elab.async false
set_option linter.all false
set_option maxRecDepth 100000
set_option maxHeartbeats 1000000

/-! ### any, sum, max of a tuple; numbers of many figures -/
namespace L2
open PySem PySem.Spec PyProof.Rows
section
variable {X : Cx}

theorem preSum_list (ns : List Int) : ∀ j, j ≤ ns.length → preSum (fun i => ns.getD i 0) j = (ns.take j).sum
  | 0, _ => by simp [preSum]
  | j + 1, h => by
    have ih := preSum_list ns j (by omega)
    show preSum (fun i => ns.getD i 0) j + ns.getD j 0 = _
    rw [ih, PyProof.Rows.take_sum_succ ns j (by omega)]
/-- sum of a list or a tuple of whole numbers -/
theorem call_sum (hc : X.calm = true) : CallR X (.builtin "sum") (fun xs H Q => ∃ (p : Addr) (ns : List Int), xs = [.ref p] ∧ (SqL X.K H p (ns.map V.int) ∨ SqT X.K H p (ns.map V.int)) ∧ Q (.int ns.sum) H) := by
  intro pins s σ H xs us Q I r h
  obtain ⟨p, ns, rfl, hq, q⟩ := h
  obtain ⟨u, rfl, rx⟩ := vals1 r
  cases rx
  have fin : ∀ its : List Value, Vals (ns.map V.int) its → ∀ (i : Nat) (v : Value), its.toArray[i]? = some v → ∃ t, v = .int (ns.getD i 0) t := fun its rv i v e => by
    have e' : its[i]? = some v := by simpa using e
    have hi : i < its.length := (List.getElem?_eq_some_iff.mp e').1
    have hl := rv.length
    rw [List.length_map] at hl
    obtain ⟨u, e2, r2⟩ := Vals.get (i := i) (x := .int (ns.getD i 0)) rv (by rw [List.getElem?_map, List.getElem?_eq_getElem (by omega : i < ns.length)]; simp [List.getD, List.getElem?_eq_getElem (by omega : i < ns.length)])
    rw [e'] at e2
    cases e2
    exact r2
  have hsum : ∀ its : List Value, Vals (ns.map V.int) its → preSum (fun i => ns.getD i 0) its.toArray.size = ns.sum := fun its rv => by
    have hl := rv.length
    rw [List.length_map] at hl
    rw [List.size_toArray, ← hl, preSum_list ns _ (Nat.le_refl _), List.take_length]
  rcases hq with hq | hq
  · obtain ⟨its, rv, pl, hz⟩ := I.list hq
    have hl := pl.isList
    have hlt : p < s.heap.objs.size := by obtain ⟨_, e, _⟩ := hl; exact Heap.lt_size e
    refine call_sum_walkG (wpAny_pyIter_list hl ?_)
    refine ⟨s.heap.objs.size, [s.heap.objs.size, p], [s.heap.objs.size], its.toArray.size, _, _, fun i => ns.getD i 0, rfl, Walks.list (A := X.A.in1) (I.ok.hd hc) _ p (Nat.ne_of_lt hlt) its.toArray,
      ⟨⟨_, Heap.get?_push_size _ rfl, rfl, rfl⟩, hl.push _⟩, fun b hb => ?_, fun i v hP => fin its rv i v hP, fun h' tk t' hk => ?_⟩
    · rw [Heap.size_push]
      rcases List.mem_cons.mp hb with rfl | hb
      · exact Nat.lt_succ_self _
      · rcases List.mem_cons.mp hb with rfl | hb
        · exact Nat.lt_succ_of_lt hlt
        · cases hb
    · rw [hsum its rv]
      exact ⟨.int ns.sum, H, I.kept (LSm.kept_iter hk), ⟨_, rfl⟩, q⟩
  · obtain ⟨its, rv, pl, hz⟩ := I.tuple hq
    have hl : s.heap.IsTuple p its.toArray := pl
    have hlt : p < s.heap.objs.size := pl.lt
    refine call_sum_walkG (wpAny_pyIter_tuple hl ?_)
    refine ⟨s.heap.objs.size, [s.heap.objs.size, p], [s.heap.objs.size], its.toArray.size, _, _, fun i => ns.getD i 0, rfl, Walks.tuple (A := X.A.in1) (I.ok.hd hc) _ p (Nat.ne_of_lt hlt) its.toArray,
      ⟨⟨_, Heap.get?_push_size _ rfl, rfl, rfl⟩, hl.push _⟩, fun b hb => ?_, fun i v hP => fin its rv i v hP, fun h' tk t' hk => ?_⟩
    · rw [Heap.size_push]
      rcases List.mem_cons.mp hb with rfl | hb
      · exact Nat.lt_succ_self _
      · rcases List.mem_cons.mp hb with rfl | hb
        · exact Nat.lt_succ_of_lt hlt
        · cases hb
    · rw [hsum its rv]
      exact ⟨.int ns.sum, H, I.kept (LSm.kept_iter hk), ⟨_, rfl⟩, q⟩

/-! numbers of up to 8,000 binary figures -/
def CBig (i j : Int) : Prop := i.natAbs < 2 ^ 8000 ∧ j.natAbs < 2 ^ 8000
theorem bits_big {k : Int} (h : k.natAbs < 2 ^ 8000) : Builtin.Int.intBits k ≤ 8000 := by
  unfold Builtin.Int.intBits
  split
  · exact Nat.zero_le _
  · rcases Nat.eq_zero_or_pos k.natAbs with h0 | hp
    · rw [h0]; decide
    · have := (Nat.log2_lt (Nat.ne_of_gt hp)).mpr h
      omega
theorem CBig.ok {i j : Int} (h : CBig i j) : IntMulOk i j := by
  have h1 := bits_big h.1
  have h2 := bits_big h.2
  unfold IntMulOk
  have e : Builtin.Int.intTooBig (Builtin.Int.intBits i + Builtin.Int.intBits j) = false := by
    unfold Builtin.Int.intTooBig
    rw [bitsLine_eq]
    exact decide_eq_false (by omega)
  rw [e, Bool.and_false]
  exact Bool.false_ne_true
end
end L2

set_option Elab.async false
set_option linter.all false
set_option maxRecDepth 100000
set_option maxHeartbeats 1000000
set_option pp.maxSteps 400
/-! ### zip, of any number of lists and tuples -/
namespace PySem.ZZ
open PySem
section
variable {prog : Program} {w : World} {A : Around} {E : Value → Shared → Prop} {s : Shared}
theorem forIn_wp {M : Model} {α β : Type} {Q : β → Shared → Prop} {body : α → β → Sem (ForInStep β)} (J : List α → β → Shared → Prop) (hnil : ∀ b s, J [] b s → Q b s)
    (hstep : ∀ x r b s, J (x :: r) b s → wpAny M A (body x b) (fun st s' => match st with | .yield b' => J r b' s' | .done b' => Q b' s') E s) : ∀ (l : List α) (b : β) (s : Shared), J l b s → wpAny M A (forIn l b body) Q E s
  | [], b, s, h => by
    rw [List.forIn_nil]
    exact wpAny_pure (hnil b s h)
  | x :: r, b, s, h => by
    rw [List.forIn_cons]
    refine wpAny_bind (wpAny_mono (hstep x r b s h) (fun st s' q => ?_) fun _ _ e => e)
    cases st with
    | yield b' => exact forIn_wp J hnil hstep r b' s' q
    | done b' => exact wpAny_pure q
/-- an iterator that stands at the i-th of a list or a tuple -/
structure Src where
  it : Addr
  a : Addr
  items : Array Value
def SrcAt (h : Heap) (x : Src) (i : Nat) : Prop := (h.IsListIter x.it x.a i ∧ h.IsList x.a x.items) ∨ (h.IsTupleIter x.it x.a i ∧ h.IsTuple x.a x.items)
theorem SrcAt.keep {h h' : Heap} {x : Src} {i : Nat} (q : SrcAt h x i) (k1 : ∀ o, h.get? x.it = some o → h'.get? x.it = some o) (k2 : ∀ o, h.get? x.a = some o → h'.get? x.a = some o) : SrcAt h' x i := by
  rcases q with ⟨q1, q2⟩ | ⟨q1, o, e, r⟩
  · exact .inl ⟨q1.at k1, q2.at k2⟩
  · exact .inr ⟨q1.at k1, o, k2 o e, r⟩
theorem SrcAt.ne {h : Heap} {x : Src} {i : Nat} (q : SrcAt h x i) : x.a ≠ x.it := fun z => by
  rcases q with ⟨⟨o, e, c, _⟩, ⟨o', e', c', _⟩⟩ | ⟨⟨o, e, c, _⟩, ⟨o', e', c', _⟩⟩
  · rw [z, e] at e'; cases e'; rw [c] at c'; injection c' with y; exact absurd y (by decide)
  · rw [z, e] at e'; cases e'; rw [c] at c'; injection c' with y; exact absurd y (by decide)
theorem SrcAt.ex {h : Heap} {x : Src} {i : Nat} (q : SrcAt h x i) : (∃ o, h.get? x.it = some o) ∧ ∃ o, h.get? x.a = some o := by
  rcases q with ⟨⟨o, e, _⟩, ⟨o', e', _⟩⟩ | ⟨⟨o, e, _⟩, ⟨o', e', _⟩⟩
  · exact ⟨⟨o, e⟩, o', e'⟩
  · exact ⟨⟨o, e⟩, o', e'⟩
theorem src_item {x : Src} {i : Nat} {v : Value} {Q : Value → Shared → Prop} (q : SrcAt s.heap x i) (hx : x.items[i]? = some v) (hQ : ∀ h', SrcAt h' x (i + 1) → Heap.SameBut x.it s.heap h' → Q v { s with heap := h' }) :
    wpAny (model prog w) A (Builtin.SmallTypes.nextOf (.ref x.it)) Q E s := by
  have ne := q.ne
  rcases q with ⟨q1, q2⟩ | ⟨q1, q2⟩
  · exact wpAny_nextOf_list_item q1 q2 hx fun h' i1 sb => hQ h' (.inl ⟨i1, q2.at fun o e => sb.extBut _ _ ne e⟩) sb
  · exact nextOf_tup_item q1 q2 hx fun h' i1 sb => hQ h' (.inr ⟨i1, let ⟨o, e, r⟩ := q2; ⟨o, sb.extBut _ _ ne e, r⟩⟩) sb
theorem src_end {x : Src} {i : Nat} {Q : Value → Shared → Prop} (hh : A.handled = none) (q : SrcAt s.heap x i) (hx : x.items[i]? = none)
    (hE : ∀ h' e, Heap.ExtBut x.it s.heap h' → (∃ o, h'.get? e = some o ∧ o.cls = .type "StopIteration") → E (.ref e) { s with heap := h' }) : wpAny (model prog w) A (Builtin.SmallTypes.nextOf (.ref x.it)) Q E s := by
  rcases q with ⟨q1, q2⟩ | ⟨q1, q2⟩
  · exact wpAny_nextOf_list_end hh q1 q2 hx hE
  · exact nextOf_tup_end hh q1 q2 hx hE
abbrev IsZ (h : Heap) (z TI TO : Addr) (f0 f1 : Value) : Prop := h.get? z = some { cls := .type "zip", dict := none, data := .fields #[f0, f1, .bool false, .ref TI, .ref TO], slots := #[] }
abbrev IsTu (h : Heap) (T : Addr) (xs : List Value) : Prop := h.get? T = some { cls := .type "tuple", data := .seq xs.toArray }
structure Apart (z TI TO : Addr) (ls : List Src) : Prop where
  TIz : TI ≠ z
  TOz : TO ≠ z
  TITO : TI ≠ TO
  it : ∀ x ∈ ls, x.it ≠ z ∧ x.it ≠ TI ∧ x.it ≠ TO
  a : ∀ x ∈ ls, x.a ≠ z ∧ x.a ≠ TO
  ai : ∀ x ∈ ls, ∀ y ∈ ls, x.a ≠ y.it
  nd : (ls.map (·.it)).Nodup
/-- what zip's turn leaves as it is -/
def Rest (z TO : Addr) (ls : List Src) (h h' : Heap) : Prop := ∀ c o, c ≠ z → c ≠ TO → c ∉ ls.map (·.it) → h.get? c = some o → h'.get? c = some o
theorem set_mid {xs olds : List Value} {k : Nat} {v : Value} (hk : k < olds.length) (hx : xs.length = olds.length) (e : xs[k]? = some v) : (xs.take k ++ olds.drop k).toArray.setIfInBounds k v = (xs.take (k + 1) ++ olds.drop (k + 1)).toArray := by
  rw [List.setIfInBounds_toArray]
  congr 1
  have hl : (xs.take k).length = k := by rw [List.length_take]; omega
  rw [List.set_append_right _ _ (by omega), hl, Nat.sub_self, List.drop_eq_getElem_cons hk, List.set_cons_zero, List.take_add_one, e]
  simp
/-- between two draws of one turn: k are drawn -/
structure Mid (z TI TO : Addr) (ls : List Src) (xs olds : List Value) (i : Nat) (f0 f1 : Value) (h : Heap) (k : Nat) (h' : Heap) : Prop where
  hz : IsZ h' z TI TO f0 f1
  hTI : IsTu h' TI (ls.map fun x => .ref x.it)
  done : ∀ j x, ls[j]? = some x → SrcAt h' x (if j < k then i + 1 else i)
  rest : Rest z TO ls h h'
  size : h'.objs.size = h.objs.size
theorem Mid.draw {z TI TO : Addr} {ls : List Src} {xs olds : List Value} {i : Nat} {f0 f1 : Value} {h h1 h2 : Heap} {k : Nat} {x : Src} (D : Apart z TI TO ls) (m : Mid z TI TO ls xs olds i f0 f1 h k h1) (hx : ls[k]? = some x) (q : SrcAt h2 x (i + 1)) (sb : Heap.SameBut x.it h1 h2) :
    Mid z TI TO ls xs olds i f0 f1 h (k + 1) h2 := by
  have hm := List.mem_of_getElem? hx
  have hi := D.it x hm
  refine ⟨sb.extBut _ _ hi.1.symm m.hz, sb.extBut _ _ hi.2.1.symm m.hTI, fun j y hy => ?_, fun c o c1 c2 c3 e => sb.extBut _ _ (fun z => c3 (z ▸ List.mem_map.mpr ⟨x, hm, rfl⟩)) (m.rest c o c1 c2 c3 e), by rw [sb.1, m.size]⟩
  by_cases hj : j = k
  · subst hj
    rw [hx] at hy
    cases hy
    rw [if_pos (Nat.lt_succ_self _)]
    exact q
  · have h1 := m.done j y hy
    have hne : y.it ≠ x.it := fun z => hj (by
      have e1 : (ls.map (·.it))[j]? = some y.it := by rw [List.getElem?_map, hy]; rfl
      have e2 : (ls.map (·.it))[k]? = some x.it := by rw [List.getElem?_map, hx]; rfl
      rw [z] at e1
      have l1 := (List.getElem?_eq_some_iff.mp e1)
      have l2 := (List.getElem?_eq_some_iff.mp e2)
      exact (List.getElem_inj D.nd).mp (l1.2.trans l2.2.symm))
    have hc : (if j < k + 1 then i + 1 else i) = (if j < k then i + 1 else i) := by
      by_cases c : j < k
      · rw [if_pos c, if_pos (by omega)]
      · rw [if_neg c, if_neg (by omega)]
    rw [hc]
    exact h1.keep (fun o e => sb.extBut _ _ hne e) (fun o e => sb.extBut _ _ (D.ai y (List.mem_of_getElem? hy) x hm) e)
theorem Mid.other {z TI TO : Addr} {ls : List Src} {xs olds : List Value} {i : Nat} {f0 f1 : Value} {h h1 h2 : Heap} {k : Nat} (D : Apart z TI TO ls) (m : Mid z TI TO ls xs olds i f0 f1 h k h1) (sb : Heap.SameBut TO h1 h2) : Mid z TI TO ls xs olds i f0 f1 h k h2 := by
  refine ⟨sb.extBut _ _ D.TOz.symm m.hz, sb.extBut _ _ D.TITO m.hTI, fun j y hy => ?_, fun c o c1 c2 c3 e => sb.extBut _ _ c2 (m.rest c o c1 c2 c3 e), by rw [sb.1, m.size]⟩
  have hm := List.mem_of_getElem? hy
  exact (m.done j y hy).keep (fun o e => sb.extBut _ _ (D.it y hm).2.2 e) (fun o e => sb.extBut _ _ (D.a y hm).2 e)
theorem zip_item_free {z TI TO : Addr} {ls : List Src} {xs olds : List Value} {i : Nat} {f1 : Value} {Q : Value → Shared → Prop} (D : Apart z TI TO ls) (hz : IsZ s.heap z TI TO .none f1) (hTI : IsTu s.heap TI (ls.map fun x => .ref x.it)) (hTO : IsTu s.heap TO olds)
    (hat : ∀ x ∈ ls, SrcAt s.heap x i) (hne : ls ≠ []) (hl1 : xs.length = ls.length) (hl2 : olds.length = ls.length) (hx : ∀ (j : Nat) (x : Src), ls[j]? = some x → ∃ v, xs[j]? = some v ∧ x.items[i]? = some v) (hsz : ls.length ≤ 100)
    (hQ : ∀ h', IsZ h' z TI TO (rawInt s.heap.objs.size) (.bool false) → IsTu h' TI (ls.map fun x => .ref x.it) → IsTu h' TO xs → (∀ x ∈ ls, SrcAt h' x (i + 1)) → IsTu h' s.heap.objs.size xs → h'.objs.size = s.heap.objs.size + 1 → Rest z TO ls s.heap h' → Q (.ref s.heap.objs.size) { s with heap := h' }) :
    wpAny (model prog w) A (Builtin.«zip.__next__» ⟨[.ref z], []⟩) (fun fin s' => ∃ v, fin = .done (.ret v) ∧ Q v s') E s := by
  show wpAny _ _ (field (.ref z) 2 >>= _) _ _ _
  refine wpAny_bind (wpAny_field hz rfl (x := .bool false) rfl ?_)
  show wpAny _ _ (field (.ref z) 3 >>= _) _ _ _
  refine wpAny_bind (wpAny_field hz rfl (x := .ref TI) rfl ?_)
  refine wpAny_bind (wpAny_seqItems hTI rfl ?_)
  dsimp only
  rw [if_neg (by cases ls with | nil => exact absurd rfl hne | cons a r => simp)]
  show wpAny _ _ (Builtin.SmallTypes.ownedTupleIsFree (.ref z) >>= _) _ _ _
  refine wpAny_bind ?_
  unfold Builtin.SmallTypes.ownedTupleIsFree
  refine wpAny_bind (wpAny_field hz rfl (x := .none) rfl (wpAny_pure ?_))
  simp only [if_true]
  refine wpAny_bind (wpAny_rule ?_)
  refine wpAny_bind (wpAny_field hz rfl (x := .ref TO) rfl ?_)
  refine wpAny_bind (wpAny_setField_rec hz (by simp) fun h₁ hz₁ hs₁ => ?_)
  replace hz₁ : IsZ h₁ z TI TO .ellipsis f1 := hz₁
  refine wpAny_bind ?_
  have m0 : Mid z TI TO ls xs olds i .ellipsis f1 s.heap 0 h₁ := by
    refine ⟨hz₁, hs₁.extBut _ _ D.TIz hTI, fun j x hj => ?_, fun c o c1 _ _ e => hs₁.extBut _ _ c1 e, hs₁.1⟩
    have hm := List.mem_of_getElem? hj
    rw [if_neg (Nat.not_lt_zero _)]
    exact (hat x hm).keep (fun o e => hs₁.extBut _ _ (D.it x hm).1 e) (fun o e => hs₁.extBut _ _ (D.a x hm).1 e)
  have hTO₁ : IsTu h₁ TO (xs.take 0 ++ olds.drop 0) := hs₁.extBut _ _ D.TOz hTO
  refine forIn_wp (fun l b s' => ∃ k h', k ≤ ls.length ∧ l = ((ls.map fun x => Value.ref x.it).drop k).zipIdx k ∧ b = ⟨none, ⟨⟩⟩ ∧ s' = { s with heap := h' } ∧ Mid z TI TO ls xs olds i .ellipsis f1 s.heap k h' ∧ IsTu h' TO (xs.take k ++ olds.drop k)) (fun b s' h => ?_) (fun x r b s' h => ?_) _ _ _ ⟨0, h₁, Nat.zero_le _, rfl, rfl, rfl, m0, hTO₁⟩
  · obtain ⟨k, h', hk, e1, rfl, rfl, m, hT⟩ := h
    have hkl : k = ls.length := by
      have := congrArg List.length e1
      rw [List.length_nil, List.length_zipIdx, List.length_drop, List.length_map] at this
      omega
    subst hkl
    rw [← hl1, List.take_length, hl1, ← hl2, List.drop_length, List.append_nil] at hT
    dsimp only
    refine wpAny_bind (wpAny_seqItems hT rfl ?_)
    refine wpAny_bind (wpAny_newTuple ?_ (by show xs.length ≤ sizeLine; rw [sizeLine_eq]; omega))
    have hkl : ∀ j x, ls[j]? = some x → SrcAt h' x (i + 1) := fun j x hj => by
      have := m.done j x hj
      rw [if_pos (List.getElem?_eq_some_iff.mp hj).1] at this
      exact this
    have hzlt : z < h'.objs.size := Heap.lt_size m.hz
    have hTOlt : TO < h'.objs.size := Heap.lt_size hT
    show wpAny _ _ (Builtin.SmallTypes.ownedTupleHandOut (.ref z) (.ref h'.objs.size) >>= _) _ _ _
    refine wpAny_bind ?_
    unfold Builtin.SmallTypes.ownedTupleHandOut
    have hz₆ : IsZ (h'.push { cls := .type "tuple", data := .seq xs.toArray }) z TI TO .ellipsis f1 := Heap.get?_push_of_some _ m.hz
    refine wpAny_bind (wpAny_setField_rec hz₆ (by simp) fun h₇ hz₇ hs₇ => ?_)
    replace hz₇ : IsZ h₇ z TI TO (rawInt h'.objs.size) f1 := hz₇
    refine wpAny_setField_rec hz₇ (by simp) fun h₈ hz₈ hs₈ => ?_
    replace hz₈ : IsZ h₈ z TI TO (rawInt h'.objs.size) (.bool false) := hz₈
    have up : ∀ c o, c ≠ z → h'.get? c = some o → h₈.get? c = some o := fun c o c1 e => hs₈.extBut _ _ c1 (hs₇.extBut _ _ c1 (Heap.get?_push_of_some _ e))
    have hT₈ : IsTu h₈ h'.objs.size xs := hs₈.extBut _ _ (Nat.ne_of_gt hzlt) (hs₇.extBut _ _ (Nat.ne_of_gt hzlt) (Heap.get?_push_size _ rfl))
    have hz8 : h₈.objs.size = h'.objs.size + 1 := by rw [hs₈.1, hs₇.1, Heap.size_push]
    have hsz' := m.size
    rw [hsz'] at hz₈ hT₈ hz8
    refine wpAny_pure ⟨_, rfl, ?_⟩
    show Q (.ref h'.objs.size) _
    rw [hsz']
    refine hQ h₈ hz₈ (up _ _ D.TIz m.hTI) (up _ _ D.TOz hT) (fun x hm => ?_) hT₈ hz8 fun c o c1 c2 c3 e => up c o c1 (m.rest c o c1 c2 c3 e)
    obtain ⟨j, hj⟩ := List.getElem?_of_mem hm
    exact (hkl j x hj).keep (fun o e => up _ o (D.it x hm).1 e) (fun o e => up _ o (D.a x hm).1 e)
  · obtain ⟨k, h', hk, e1, rfl, rfl, m, hT⟩ := h
    have hkl : k < ls.length := by
      have := congrArg List.length e1
      rw [List.length_cons, List.length_zipIdx, List.length_drop, List.length_map] at this
      omega
    obtain ⟨y, hy⟩ : ∃ y, ls[k]? = some y := ⟨_, List.getElem?_eq_getElem hkl⟩
    have hm := List.mem_of_getElem? hy
    rw [List.drop_eq_getElem_cons (by rw [List.length_map]; exact hkl), List.zipIdx_cons, List.getElem_map] at e1
    have ey : ls[k] = y := (List.getElem?_eq_some_iff.mp hy).2
    rw [ey] at e1
    injection e1 with e1 e2
    subst e1 e2
    obtain ⟨v, hv1, hv2⟩ := hx k y hy
    refine wpAny_bind (wpAny_onRaise ?_)
    show wpAny _ _ (Builtin.SmallTypes.nextOf (.ref y.it) >>= _) _ _ _
    have q0 := m.done k y hy
    rw [if_neg (Nat.lt_irrefl _)] at q0
    refine wpAny_bind (src_item q0 hv2 fun h2 q2 sb2 => wpAny_pure ?_)
    have m2 := m.draw D hy q2 sb2
    have hT2 : IsTu h2 TO (xs.take k ++ olds.drop k) := sb2.extBut _ _ (D.it y hm).2.2.symm hT
    have hln : (xs.take k ++ olds.drop k).length ≤ 100 := by rw [List.length_append, List.length_take, List.length_drop]; omega
    have hsm := set_mid (xs := xs) (olds := olds) (k := k) (v := v) (by omega) (by omega) hv1
    refine wpAny_bind (wpAny_seqItems hT2 rfl ?_)
    refine wpAny_bind (wpAny_updateSeq hT2 rfl ?_ (by rw [List.size_toArray, sizeLine_eq]; omega) (by rw [hsm, List.size_toArray, sizeLine_eq, List.length_append, List.length_take, List.length_drop]; omega))
    have sb3 : Heap.SameBut TO h2 (h2.update TO (Obj.mapSeq fun x => x.setIfInBounds k v)) := Heap.SameBut.update ..
    have hT3 : IsTu (h2.update TO (Obj.mapSeq fun x => x.setIfInBounds k v)) TO (xs.take (k + 1) ++ olds.drop (k + 1)) := by
      show (h2.update TO _).get? TO = _
      rw [Heap.get?_update_self _ hT2 rfl, ← hsm]
      simp [Obj.mapSeq]
    refine wpAny_bind (wpAny_letGo (wpAny_pure ?_))
    exact ⟨k + 1, _, hkl, rfl, rfl, rfl, m2.other D sb3, hT3⟩
theorem zip_end_free {z TI TO : Addr} {ls : List Src} {olds : List Value} {i : Nat} {f1 : Value} {Q : Fin → Shared → Prop} (hh : A.handled = none) (D : Apart z TI TO ls) (hz : IsZ s.heap z TI TO .none f1) (hTI : IsTu s.heap TI (ls.map fun x => .ref x.it)) (hTO : IsTu s.heap TO olds)
    (hat : ∀ x ∈ ls, SrcAt s.heap x i) (hne : ls ≠ []) (hl2 : olds.length = ls.length) (hsz : ls.length ≤ 100) (hend : ∃ x ∈ ls, x.items[i]? = none)
    (hE : ∀ h' e, Rest z TO ls s.heap h' → (∃ o, h'.get? e = some o ∧ o.cls = .type "StopIteration") → E (.ref e) { s with heap := h' }) :
    wpAny (model prog w) A (Builtin.«zip.__next__» ⟨[.ref z], []⟩) Q E s := by
  show wpAny _ _ (field (.ref z) 2 >>= _) _ _ _
  refine wpAny_bind (wpAny_field hz rfl (x := .bool false) rfl ?_)
  show wpAny _ _ (field (.ref z) 3 >>= _) _ _ _
  refine wpAny_bind (wpAny_field hz rfl (x := .ref TI) rfl ?_)
  refine wpAny_bind (wpAny_seqItems hTI rfl ?_)
  dsimp only
  rw [if_neg (by cases ls with | nil => exact absurd rfl hne | cons a r => simp)]
  show wpAny _ _ (Builtin.SmallTypes.ownedTupleIsFree (.ref z) >>= _) _ _ _
  refine wpAny_bind ?_
  unfold Builtin.SmallTypes.ownedTupleIsFree
  refine wpAny_bind (wpAny_field hz rfl (x := .none) rfl (wpAny_pure ?_))
  simp only [if_true]
  refine wpAny_bind (wpAny_rule ?_)
  refine wpAny_bind (wpAny_field hz rfl (x := .ref TO) rfl ?_)
  refine wpAny_bind (wpAny_setField_rec hz (by simp) fun h₁ hz₁ hs₁ => ?_)
  replace hz₁ : IsZ h₁ z TI TO .ellipsis f1 := hz₁
  refine wpAny_bind ?_
  have m0 : Mid z TI TO ls [] olds i .ellipsis f1 s.heap 0 h₁ := by
    refine ⟨hz₁, hs₁.extBut _ _ D.TIz hTI, fun j x hj => ?_, fun c o c1 _ _ e => hs₁.extBut _ _ c1 e, hs₁.1⟩
    have hm := List.mem_of_getElem? hj
    rw [if_neg (Nat.not_lt_zero _)]
    exact (hat x hm).keep (fun o e => hs₁.extBut _ _ (D.it x hm).1 e) (fun o e => hs₁.extBut _ _ (D.a x hm).1 e)
  have hTO₁ : IsTu h₁ TO olds := hs₁.extBut _ _ D.TOz hTO
  refine forIn_wp (fun l b s' => ∃ k h' ys, k ≤ ls.length ∧ l = ((ls.map fun x => Value.ref x.it).drop k).zipIdx k ∧ b = ⟨none, ⟨⟩⟩ ∧ s' = { s with heap := h' } ∧ Mid z TI TO ls [] olds i .ellipsis f1 s.heap k h' ∧ IsTu h' TO ys ∧ ys.length = ls.length ∧ ∃ x ∈ ls.drop k, x.items[i]? = none) (fun b s' h => ?_) (fun x r b s' h => ?_) _ _ _ ⟨0, h₁, olds, Nat.zero_le _, rfl, rfl, rfl, m0, hTO₁, hl2, hend⟩
  · obtain ⟨k, h', ys, hk, e1, rfl, rfl, m, hT, hy, x, hx, _⟩ := h
    have : k = ls.length := by
      have := congrArg List.length e1
      rw [List.length_nil, List.length_zipIdx, List.length_drop, List.length_map] at this
      omega
    subst this
    rw [List.drop_length] at hx
    cases hx
  · obtain ⟨k, h', ys, hk, e1, rfl, rfl, m, hT, hys, xe, hxe, hxn⟩ := h
    have hkl : k < ls.length := by
      have := congrArg List.length e1
      rw [List.length_cons, List.length_zipIdx, List.length_drop, List.length_map] at this
      omega
    obtain ⟨y, hy⟩ : ∃ y, ls[k]? = some y := ⟨_, List.getElem?_eq_getElem hkl⟩
    have hm := List.mem_of_getElem? hy
    rw [List.drop_eq_getElem_cons (by rw [List.length_map]; exact hkl), List.zipIdx_cons, List.getElem_map] at e1
    have ey : ls[k] = y := (List.getElem?_eq_some_iff.mp hy).2
    rw [ey] at e1
    injection e1 with e1 e2
    subst e1 e2
    refine wpAny_bind (wpAny_onRaise ?_)
    show wpAny _ _ (Builtin.SmallTypes.nextOf (.ref y.it) >>= _) _ _ _
    have q0 := m.done k y hy
    rw [if_neg (Nat.lt_irrefl _)] at q0
    cases hv : y.items[i]? with
    | none =>
      refine wpAny_bind (src_end hh q0 hv fun h₂ e hs₂ he => ?_)
      obtain ⟨oe, hoe, hce⟩ := he
      have hz₂ : IsZ h₂ z TI TO .ellipsis f1 := hs₂ _ _ (D.it y hm).1.symm m.hz
      have hez : e ≠ z := fun x => by subst x; rw [hz₂] at hoe; cases hoe; simp at hce
      refine wpAny_setField_rec hz₂ (by simp) fun h₃ _ hs₃ => hE h₃ e (fun c o c1 c2 c3 x => hs₃.extBut _ _ c1 (hs₂ _ _ (fun q => c3 (q ▸ List.mem_map.mpr ⟨y, hm, rfl⟩)) (m.rest c o c1 c2 c3 x))) ⟨oe, hs₃.extBut _ _ hez hoe, hce⟩
    | some v =>
      refine wpAny_bind (src_item q0 hv fun h2 q2 sb2 => wpAny_pure ?_)
      have m2 := m.draw D hy q2 sb2
      have hT2 : IsTu h2 TO ys := sb2.extBut _ _ (D.it y hm).2.2.symm hT
      refine wpAny_bind (wpAny_seqItems hT2 rfl ?_)
      refine wpAny_bind (wpAny_updateSeq hT2 rfl ?_ (by rw [List.size_toArray, sizeLine_eq]; omega) (by rw [Array.size_setIfInBounds, List.size_toArray, sizeLine_eq]; omega))
      have sb3 : Heap.SameBut TO h2 (h2.update TO (Obj.mapSeq fun x => x.setIfInBounds k v)) := Heap.SameBut.update ..
      have hT3 : IsTu (h2.update TO (Obj.mapSeq fun x => x.setIfInBounds k v)) TO (ys.set k v) := by
        show (h2.update TO _).get? TO = _
        rw [Heap.get?_update_self _ hT2 rfl, ← List.setIfInBounds_toArray]
        simp [Obj.mapSeq]
      refine wpAny_bind (wpAny_letGo (wpAny_pure ?_))
      refine ⟨k + 1, _, ys.set k v, hkl, rfl, rfl, rfl, m2.other D sb3, hT3, by rw [List.length_set]; exact hys, xe, ?_, hxn⟩
      rw [List.drop_eq_getElem_cons hkl, ey] at hxe
      rcases List.mem_cons.mp hxe with z | z
      · subst z; rw [hv] at hxn; cases hxn
      · exact z
/-! next(z) -/
theorem pyNext_zip {z TI TO : Addr} {f0 f1 : Value} {Q : Option Value → Shared → Prop} (hz : IsZ s.heap z TI TO f0 f1) {Qi : Value → Shared → Prop} (h : wpAny (model prog w) A.in1 (Builtin.«zip.__next__» ⟨[.ref z], []⟩) (fun fin s' => ∃ v, fin = .done (.ret v) ∧ Qi v s') (fun _ _ => False) s) (hQ : ∀ v s', Qi v s' → Q (some v) s') :
    wpAny (model prog w) A (pyNext (.ref z)) Q E s := by
  have hT : s.TypeIs (.ref z) "zip" := ⟨_, hz, rfl⟩
  unfold pyNext
  refine wpAny_bind (wpAny_attempt (wpAny_callSpecial?_slot (name := Str.ofString "__next__") hT F.slot_zip_next (wpAny_call_entry F.slot_zip_next hT F.entry_zip_next (wpAny_mono h (fun fin s' q => ?_) fun _ _ f => f.elim) (F.args_zip_next_1 _))))
  obtain ⟨v, e, q⟩ := q
  exact ⟨v, e, wpAny_pure (hQ v s' q)⟩
theorem pyNext_zip_end {z TI TO : Addr} {f0 f1 : Value} {Q : Option Value → Shared → Prop} {R : Heap → Prop} (hz : IsZ s.heap z TI TO f0 f1)
    (h : wpAny (model prog w) A.in1 (Builtin.«zip.__next__» ⟨[.ref z], []⟩) (fun _ _ => False) (fun v s' => ∃ h' e, v = .ref e ∧ s' = { s with heap := h' } ∧ R h' ∧ ∃ o, h'.get? e = some o ∧ o.cls = .type "StopIteration") s) (hQ : ∀ h', R h' → Q none { s with heap := h' }) :
    wpAny (model prog w) A (pyNext (.ref z)) Q E s := by
  have hT : s.TypeIs (.ref z) "zip" := ⟨_, hz, rfl⟩
  unfold pyNext
  refine wpAny_bind (wpAny_attempt (wpAny_callSpecial?_slot (name := Str.ofString "__next__") hT F.slot_zip_next (wpAny_call_entry F.slot_zip_next hT F.entry_zip_next (wpAny_mono h (fun _ _ f => f.elim) fun v s' q => ?_) (F.args_zip_next_1 _))))
  obtain ⟨h', e, rfl, rfl, r, o, ho, hc⟩ := q
  exact wpAny_bind (wpAny_isInstance (T := "StopIteration") (b := true) ⟨o, ho, hc⟩ isSubtype_stop (wpAny_pure (hQ _ r)))
theorem pyIter_zip {z TI TO : Addr} {f0 f1 : Value} {Q : Value → Shared → Prop} (hz : IsZ s.heap z TI TO f0 f1) (h : Q (.ref z) s) : wpAny (model prog w) A (pyIter (.ref z)) Q E s := by
  have hT : s.TypeIs (.ref z) "zip" := ⟨_, hz, rfl⟩
  refine wpAny_pyIter_slot hT F.slot_zip_iter (wpAny_call_entry F.slot_zip_iter hT F.entry_zip_iter ?_ (F.args_zip_iter_1 _))
  show wpAny _ _ (ret (.ref z)) _ _ s
  exact wpAny_pure ⟨_, rfl, "zip", _, hT, F.slot_zip_next.lookup, h⟩
theorem letGo_zip {elts : List Expr} {x1} {pos : Pos} {z TI TO T : Addr} {f1 : Value} {Q : Unit → Shared → Prop} (hz : IsZ s.heap z TI TO (rawInt T) f1)
    (hQ : ∀ h', IsZ h' z TI TO .none f1 → Heap.SameBut z s.heap h' → Q () { s with heap := h' }) : wpAny (model prog w) A (letOwnedTupleGo (.Tuple elts x1 pos) (.ref z) (.ref T)) Q E s := by
  unfold letOwnedTupleGo
  refine wpAny_bind (wpAny_load hz ?_)
  show wpAny _ _ (if (["enumerate", "zip", "dict_itemiterator", "dict_reverseitemiterator", "odict_iterator", "itertools.zip_longest", "itertools.pairwise"].contains "zip" &&
      (#[rawInt T, f1, .bool false, .ref TI, .ref TO] : Array Value)[0]? == some (rawInt T)) = true then _ else _) Q E s
  rw [if_pos (by simp)]
  refine wpAny_bind (wpAny_rule ?_)
  show wpAny _ _ (setField (.ref z) 0 .none) Q E s
  exact wpAny_setField_rec hz (by simp) fun h' hz' hs' => hQ h' hz' hs'
end
end PySem.ZZ

set_option Elab.async false
set_option linter.all false
set_option maxRecDepth 100000
set_option maxHeartbeats 1000000
set_option pp.maxSteps 400
/-! ### zip(a, b), zip(a, b, c) are made -/
namespace PySem
namespace F
end F
end PySem
namespace PySem.ZZ
open PySem
def SeqK (h : Heap) (a : Addr) (xs : Array Value) (c : String) : Prop := (c = "list_iterator" ∧ h.IsList a xs) ∨ (c = "tuple_iterator" ∧ h.IsTuple a xs)
theorem SeqK.src {h h' : Heap} {a it : Addr} {xs : Array Value} {c : String} (q : SeqK h a xs c) (k : ∀ o, h.get? a = some o → h'.get? a = some o) (e : h'.get? it = some { cls := .type c, data := .fields #[.ref a, .int 0 0] }) : SrcAt h' ⟨it, a, xs⟩ 0 := by
  rcases q with ⟨rfl, q⟩ | ⟨rfl, o, ho, r⟩
  · exact .inl ⟨⟨_, e, rfl, rfl⟩, q.at k⟩
  · exact .inr ⟨⟨_, e, rfl, rfl⟩, o, k o ho, r⟩
theorem SeqK.lt {h : Heap} {a : Addr} {xs : Array Value} {c : String} (q : SeqK h a xs c) : a < h.objs.size := by
  rcases q with ⟨rfl, o, e, _⟩ | ⟨rfl, o, e, _⟩
  · exact Heap.lt_size e
  · exact Heap.lt_size e
abbrev itO (c : String) (l : Addr) : Obj := { cls := .type c, data := .fields #[.ref l, .int 0 0] }
abbrev tuO (xs : Array Value) : Obj := { cls := .type "tuple", data := .seq xs }
abbrev z2a (h : Heap) (c1 c2 : String) (l1 l2 : Addr) : Heap := ((((h.push (itO c1 l1)).push (itO c2 l2)).push (tuO #[.ref h.objs.size, .ref (h.push (itO c1 l1)).objs.size])).push (tuO #[.none, .none]))
abbrev z2 (h : Heap) (c1 c2 : String) (l1 l2 : Addr) : Heap := (z2a h c1 c2 l1 l2).push
  { cls := .type "zip", data := .fields #[.none, .bool false, .bool false, .ref ((h.push (itO c1 l1)).push (itO c2 l2)).objs.size, .ref (((h.push (itO c1 l1)).push (itO c2 l2)).push (tuO #[.ref h.objs.size, .ref (h.push (itO c1 l1)).objs.size])).objs.size] }
theorem meets_zip2 (l1 l2 : Addr) (xs ys : Array Value) (c1 c2 : String) : Meets (Builtin.«zip.__new__» ⟨[.type "zip", .ref l1, .ref l2], []⟩) (fun _ R s => SeqK s.heap l1 xs c1 ∧ SeqK s.heap l2 ys c2 ∧ R (.ok (.ret (.ref (z2a s.heap c1 c2 l1 l2).objs.size))) { s with heap := z2 s.heap c1 c2 l1 l2 }) :=
  .of_wp fun prog w A R s h => by
    obtain ⟨hp, g, d, tk, os⟩ := s
    obtain ⟨hl1, hl2, h⟩ := h
    have hsub := sub_zip
    rcases hl1 with ⟨rfl, hl1⟩ | ⟨rfl, hl1⟩
    · have hL1 : Heap.IsList (Shared.heap ⟨hp, g, d, tk, os⟩) l1 xs := hl1
      rcases hl2 with ⟨rfl, hl2⟩ | ⟨rfl, hl2⟩
      · have hL2 : Heap.IsList (Shared.heap ⟨hp.push (itO "list_iterator" l1), g, d, tk, os⟩) l2 ys := Heap.IsList.push hl2 _
        wp_walk using wpAny_pyIter_list hL1, wpAny_pyIter_list hL2
        exact ⟨_, rfl, h⟩
      · have hL2 : Heap.IsTuple (Shared.heap ⟨hp.push (itO "list_iterator" l1), g, d, tk, os⟩) l2 ys := Heap.IsTuple.push hl2 _
        wp_walk using wpAny_pyIter_list hL1, wpAny_pyIter_tuple hL2
        exact ⟨_, rfl, h⟩
    · have hL1 : Heap.IsTuple (Shared.heap ⟨hp, g, d, tk, os⟩) l1 xs := hl1
      rcases hl2 with ⟨rfl, hl2⟩ | ⟨rfl, hl2⟩
      · have hL2 : Heap.IsList (Shared.heap ⟨hp.push (itO "tuple_iterator" l1), g, d, tk, os⟩) l2 ys := Heap.IsList.push hl2 _
        wp_walk using wpAny_pyIter_tuple hL1, wpAny_pyIter_list hL2
        exact ⟨_, rfl, h⟩
      · have hL2 : Heap.IsTuple (Shared.heap ⟨hp.push (itO "tuple_iterator" l1), g, d, tk, os⟩) l2 ys := Heap.IsTuple.push hl2 _
        wp_walk using wpAny_pyIter_tuple hL1, wpAny_pyIter_tuple hL2
        exact ⟨_, rfl, h⟩
abbrev z3a (h : Heap) (c1 c2 c3 : String) (l1 l2 l3 : Addr) : Heap := (((((h.push (itO c1 l1)).push (itO c2 l2)).push (itO c3 l3)).push (tuO #[.ref h.objs.size, .ref (h.push (itO c1 l1)).objs.size, .ref ((h.push (itO c1 l1)).push (itO c2 l2)).objs.size])).push (tuO #[.none, .none, .none]))
abbrev z3 (h : Heap) (c1 c2 c3 : String) (l1 l2 l3 : Addr) : Heap := (z3a h c1 c2 c3 l1 l2 l3).push
  { cls := .type "zip", data := .fields #[.none, .bool false, .bool false, .ref (((h.push (itO c1 l1)).push (itO c2 l2)).push (itO c3 l3)).objs.size, .ref ((((h.push (itO c1 l1)).push (itO c2 l2)).push (itO c3 l3)).push (tuO #[.ref h.objs.size, .ref (h.push (itO c1 l1)).objs.size, .ref ((h.push (itO c1 l1)).push (itO c2 l2)).objs.size])).objs.size] }
/-- a zip that is new -/
structure Fresh (h : Heap) (z TI TO : Addr) (ls : List Src) (h' : Heap) : Prop where
  hz : IsZ h' z TI TO .none (.bool false)
  hTI : IsTu h' TI (ls.map fun x => .ref x.it)
  hTO : IsTu h' TO (ls.map fun _ => .none)
  at_ : ∀ x ∈ ls, SrcAt h' x 0
  ap : Apart z TI TO ls
  new : h.objs.size ≤ z ∧ h.objs.size ≤ TI ∧ h.objs.size ≤ TO ∧ ∀ x ∈ ls, h.objs.size ≤ x.it
  keep : ∀ c o, h.get? c = some o → h'.get? c = some o
theorem na {a b : Nat} (h : a ≠ b) : @Ne Addr a b := h
theorem apart2 {n l1 l2 : Nat} {xs ys : Array Value} (a1 : l1 < n) (a2 : l2 < n) : Apart (n + 1 + 1 + 1 + 1 : Nat) (n + 1 + 1 : Nat) (n + 1 + 1 + 1 : Nat) [⟨n, l1, xs⟩, ⟨(n + 1 : Nat), l2, ys⟩] := by
  refine ⟨na (by omega), na (by omega), na (by omega), fun x hx => ?_, fun x hx => ?_, fun x hx y hy => ?_, ?_⟩
  · rcases List.mem_cons.mp hx with rfl | hx
    · exact ⟨na (by dsimp only; omega), na (by dsimp only; omega), na (by dsimp only; omega)⟩
    · cases List.mem_singleton.mp hx
      exact ⟨na (by dsimp only; omega), na (by dsimp only; omega), na (by dsimp only; omega)⟩
  · rcases List.mem_cons.mp hx with rfl | hx
    · exact ⟨na (by dsimp only; omega), na (by dsimp only; omega)⟩
    · cases List.mem_singleton.mp hx
      exact ⟨na (by dsimp only; omega), na (by dsimp only; omega)⟩
  · rcases List.mem_cons.mp hx with rfl | hx
    · rcases List.mem_cons.mp hy with rfl | hy
      · exact na (by dsimp only; omega)
      · cases List.mem_singleton.mp hy
        exact na (by dsimp only; omega)
    · cases List.mem_singleton.mp hx
      rcases List.mem_cons.mp hy with rfl | hy
      · exact na (by dsimp only; omega)
      · cases List.mem_singleton.mp hy
        exact na (by dsimp only; omega)
  · show List.Nodup ([n, n + 1] : List Nat)
    simp
section
variable {prog : Program} {w : World} {A : Around} {E : Value → Shared → Prop} {s : Shared}
theorem call_zip2 {l1 l2 : Addr} {xs ys : Array Value} {c1 c2 : String} {Q : Value → Shared → Prop} (hl1 : SeqK s.heap l1 xs c1) (hl2 : SeqK s.heap l2 ys c2)
    (h : ∀ h' z TI TO i1 i2, Fresh s.heap z TI TO [⟨i1, l1, xs⟩, ⟨i2, l2, ys⟩] h' → Q (.ref z) { s with heap := h' }) : wpAny (model prog w) A (call (.type "zip") [.ref l1, .ref l2]) Q E s := by
  refine callType_new F.called_zip (by decide) (F.typeCall_zip_2 _ _) (F.newCall_zip_2 _ _) (fun obj => F.args_object_init_3 obj _ _) F.entry_zip_new (meets_zip2 l1 l2 xs ys c1 c2) ⟨hl1, hl2, ?_⟩
  have g5 : (z2 s.heap c1 c2 l1 l2).get? (z2a s.heap c1 c2 l1 l2).objs.size = some _ := Heap.get?_push_size _ rfl
  have g4 : (z2 s.heap c1 c2 l1 l2).get? (((s.heap.push (itO c1 l1)).push (itO c2 l2)).push (tuO #[.ref s.heap.objs.size, .ref (s.heap.push (itO c1 l1)).objs.size])).objs.size = some (tuO #[.none, .none]) := Heap.get?_push_of_some _ (Heap.get?_push_size _ rfl)
  have g3 : (z2 s.heap c1 c2 l1 l2).get? ((s.heap.push (itO c1 l1)).push (itO c2 l2)).objs.size = some (tuO #[.ref s.heap.objs.size, .ref (s.heap.push (itO c1 l1)).objs.size]) := Heap.get?_push_of_some _ (Heap.get?_push_of_some _ (Heap.get?_push_size _ rfl))
  have g2 : (z2 s.heap c1 c2 l1 l2).get? (s.heap.push (itO c1 l1)).objs.size = some (itO c2 l2) := Heap.get?_push_of_some _ (Heap.get?_push_of_some _ (Heap.get?_push_of_some _ (Heap.get?_push_size _ rfl)))
  have g1 : (z2 s.heap c1 c2 l1 l2).get? s.heap.objs.size = some (itO c1 l1) := Heap.get?_push_of_some _ (Heap.get?_push_of_some _ (Heap.get?_push_of_some _ (Heap.get?_push_of_some _ (Heap.get?_push_size _ rfl))))
  have kp : ∀ c o, s.heap.get? c = some o → (z2 s.heap c1 c2 l1 l2).get? c = some o := fun c o x => Heap.get?_push_of_some _ (Heap.get?_push_of_some _ (Heap.get?_push_of_some _ (Heap.get?_push_of_some _ (Heap.get?_push_of_some _ x))))
  have a1 := hl1.lt
  have a2 := hl2.lt
  refine ⟨⟨_, g5, rfl⟩, h _ _ _ _ s.heap.objs.size (s.heap.push (itO c1 l1)).objs.size ⟨g5, g3, g4, ?_, ?_, ?_, kp⟩⟩
  · intro x hx
    rcases List.mem_cons.mp hx with rfl | hx
    · exact hl1.src (fun o e => kp _ _ e) g1
    · rcases List.mem_cons.mp hx with rfl | hx
      · exact hl2.src (fun o e => kp _ _ e) g2
      · cases hx
  · simp only [Heap.size_push]
    exact apart2 a1 a2
  · simp only [Heap.size_push, List.mem_cons, List.not_mem_nil, or_false, forall_eq_or_imp, forall_eq]; omega
end
end PySem.ZZ

set_option Elab.async false
set_option linter.all false
set_option maxRecDepth 100000
set_option maxHeartbeats 1000000
set_option pp.maxSteps 400
/-! ### tuple(zip(..)), list(zip(..)) -/
namespace PySem
namespace F
end F
end PySem
namespace PySem.ZZ
open PySem
section
variable {prog : Program} {w : World} {A : Around} {E : Value → Shared → Prop} {s : Shared}
/-- a zip drawn from i times: the tuples told stand at ts -/
structure Run (hb : Heap) (z TI TO : Addr) (ls : List Src) (rows : Nat → List Value) (S : Addr) (ts : List Addr) (h : Heap) : Prop where
  inc : ts.Pairwise (· < ·)
  lo : ∀ t ∈ ts, S < t ∧ t < h.objs.size
  at_ : ∀ j t, ts[j]? = some t → IsTu h t (rows j)
  keep : ∀ c o, hb.get? c = some o → h.get? c = some o
  hTI : IsTu h TI (ls.map fun x => .ref x.it)
  hTO : ∃ olds, IsTu h TO olds ∧ olds.length = ls.length
  src : ∀ x ∈ ls, SrcAt h x ts.length
  hz : (ts = [] ∧ IsZ h z TI TO .none (.bool false)) ∨ ∃ (T : Addr) (f1 : Value), ts[0]? = some T ∧ IsZ h z TI TO (rawInt T) f1
/-- the addresses that are there ahead of S -/
structure Below (hb : Heap) (z TI TO : Addr) (ls : List Src) (S : Addr) : Prop where
  ap : Apart z TI TO ls
  old : hb.objs.size ≤ z ∧ hb.objs.size ≤ TI ∧ hb.objs.size ≤ TO ∧ ∀ x ∈ ls, hb.objs.size ≤ x.it
  lz : z < S
  lTI : TI < S
  lTO : TO < S
  it : ∀ x ∈ ls, x.it < S ∧ x.a < S
  base : hb.objs.size ≤ S
theorem Run.frame {hb : Heap} {z TI TO : Addr} {ls : List Src} {rows : Nat → List Value} {S : Addr} {ts : List Addr} {h h' : Heap} (B : Below hb z TI TO ls S) (r : Run hb z TI TO ls rows S ts h) (hs : h'.objs.size = h.objs.size) (k : ∀ c o, c ≠ S → h.get? c = some o → h'.get? c = some o) : Run hb z TI TO ls rows S ts h' := by
  obtain ⟨olds, o1, o2⟩ := r.hTO
  refine ⟨r.inc, fun t ht => by rw [hs]; exact r.lo t ht, fun j t e => k _ _ (Nat.ne_of_gt (r.lo t (List.mem_of_getElem? e)).1) (r.at_ j t e), fun c o e => k _ _ (Nat.ne_of_lt (Nat.lt_of_lt_of_le (Heap.lt_size e) B.base)) (r.keep c o e), k _ _ (Nat.ne_of_lt B.lTI) r.hTI, ⟨olds, k _ _ (Nat.ne_of_lt B.lTO) o1, o2⟩, fun x hx => ?_, ?_⟩
  · exact (r.src x hx).keep (fun o e => k _ _ (Nat.ne_of_lt (B.it x hx).1) e) (fun o e => k _ _ (Nat.ne_of_lt (B.it x hx).2) e)
  · rcases r.hz with ⟨e, q⟩ | ⟨T, f1, e, q⟩
    · exact .inl ⟨e, k _ _ (Nat.ne_of_lt B.lz) q⟩
    · exact .inr ⟨T, f1, e, k _ _ (Nat.ne_of_lt B.lz) q⟩
theorem Run.more {hb : Heap} {z TI TO : Addr} {ls : List Src} {rows : Nat → List Value} {S : Addr} {ts : List Addr} {h h' : Heap} (B : Below hb z TI TO ls S) (r : Run hb z TI TO ls rows S ts h) (hS : S < h.objs.size) (hs : h'.objs.size = h.objs.size + 1) (hr : Rest z TO ls h h')
    (hTI : IsTu h' TI (ls.map fun x => .ref x.it)) (hTO : ∃ olds, IsTu h' TO olds ∧ olds.length = ls.length) (src : ∀ x ∈ ls, SrcAt h' x (ts.length + 1)) (new : IsTu h' h.objs.size (rows ts.length)) (hz : ∃ (T : Addr) (f1 : Value), (ts ++ [h.objs.size])[0]? = some T ∧ IsZ h' z TI TO (rawInt T) f1) : Run hb z TI TO ls rows S (ts ++ [h.objs.size]) h' := by
  have fr : ∀ t, S < t → t ≠ z ∧ t ≠ TO ∧ t ∉ ls.map (·.it) := fun t ht => ⟨fun e => by rw [e] at ht; exact Nat.lt_asymm ht B.lz, fun e => by rw [e] at ht; exact Nat.lt_asymm ht B.lTO, fun e => by
    obtain ⟨x, hx, e'⟩ := List.mem_map.mp e
    rw [← e'] at ht
    exact Nat.lt_asymm ht (B.it x hx).1⟩
  refine ⟨?_, fun t ht => ?_, fun j t e => ?_, fun c o e => ?_, hTI, hTO, fun x hx => by rw [List.length_append]; exact src x hx, .inr hz⟩
  · exact List.pairwise_append.mpr ⟨r.inc, List.pairwise_singleton _ _, fun a ha b hb' => by
      have : b = h.objs.size := by simpa using hb'
      rw [this]
      exact (r.lo a ha).2⟩
  · rw [hs]
    rcases List.mem_append.mp ht with ht | ht
    · have := r.lo t ht; exact ⟨this.1, Nat.lt_succ_of_lt this.2⟩
    · have : t = h.objs.size := by simpa using ht
      rw [this]
      exact ⟨hS, Nat.lt_succ_self _⟩
  · by_cases c : j < ts.length
    · rw [List.getElem?_append_left c] at e
      have hlo := r.lo t (List.mem_of_getElem? e)
      obtain ⟨f1, f2, f3⟩ := fr t hlo.1
      exact hr t _ f1 f2 f3 (r.at_ j t e)
    · rw [List.getElem?_append_right (Nat.le_of_not_lt c)] at e
      have hj : j - ts.length = 0 := by
        have := (List.getElem?_eq_some_iff.mp e).1
        rw [List.length_singleton] at this
        omega
      rw [hj] at e
      cases e
      have : j = ts.length := by omega
      rw [this]
      exact new
  · have hlt := Heap.lt_size e
    refine hr c o (fun q => ?_) (fun q => ?_) (fun q => ?_) (r.keep c o e)
    · rw [q] at hlt; exact absurd hlt (Nat.not_lt.mpr B.old.1)
    · rw [q] at hlt; exact absurd hlt (Nat.not_lt.mpr B.old.2.2.1)
    · obtain ⟨x, hx, e'⟩ := List.mem_map.mp q
      rw [← e'] at hlt
      exact absurd hlt (Nat.not_lt.mpr (B.old.2.2.2 x hx))
end
end PySem.ZZ

set_option Elab.async false
set_option linter.all false
set_option maxRecDepth 100000
set_option maxHeartbeats 1000000
set_option pp.maxSteps 400
namespace PySem.ZZ
open PySem
section
variable {prog : Program} {w : World} {A : Around} {E : Value → Shared → Prop} {s : Shared}
/-- what is drawn from a zip: so many rows -/
structure Rows (ls : List Src) (n : Nat) (rows : Nat → List Value) : Prop where
  row : ∀ j, j < n → (rows j).length = ls.length ∧ ∀ (k : Nat) (x : Src), ls[k]? = some x → ∃ v, (rows j)[k]? = some v ∧ x.items[j]? = some v
  stop : ∃ x ∈ ls, x.items[n]? = none
  ne : ls ≠ []
  few : ls.length ≤ 100
  most : n ≤ 1000
end
end PySem.ZZ

set_option Elab.async false
set_option linter.all false
set_option maxRecDepth 100000
set_option maxHeartbeats 1000000
set_option pp.maxSteps 400
/-! ### tuple(zip(a, b)), list(zip(a, b, c)): the rules -/
namespace L2
open PySem PySem.Spec PyProof.Rows
section
variable {X : Cx} {pins : List (Addr × Obj)} {σ : St} {H : Hp} {s : Shared} {h' : Heap}
end
section
variable {X : Cx}
end
end L2

set_option Elab.async false
set_option linter.all false
set_option maxRecDepth 100000
set_option maxHeartbeats 1000000
set_option pp.maxSteps 400
/-! ### list(zip(a, b, c)) of lists of one length; a loop over reversed(list) -/
namespace L2
open PySem PySem.Spec PyProof.Rows
section
variable {X : Cx}
end
section
variable {X : Cx} {tg : Expr}
end
/-- xs[::-1], of a list -/
def tSlRev (K : PySem.W.Frag) (te : TE) (tk : TO) : TE := fun σ H Q => te σ H fun x H1 => tk σ H1 fun k H2 => k = some (-1) ∧ ∃ a xs, x = .ref a ∧ SqL K H2 a xs ∧ ∀ p, H2 p = none → Q (.ref p) (upd H2 p (.lst xs.reverse))
theorem vals_reverse : ∀ {xs : List V} {us : List Value}, Vals xs us → Vals xs.reverse us.reverse
  | _, _, .nil => .nil
  | _, _, .cons (l₁ := l) (l₂ := m) h t => by
    rw [List.reverse_cons, List.reverse_cons]
    exact (vals_reverse t).append (.cons h .nil)
section
variable {X : Cx} {e : Expr} {k : Expr} {te : TE} {tk : TO} {p2 pos : Pos}
theorem pe_slrev {ops : Addr → Addr → List Value} (he : PE X e te) (hk : PO X (some k) tk) (hsub : ∀ a b, subscripted (.Slice none none (some k) p2) false (.ref a) (.ref b) = operate (ops a b) (getItem (.ref a) (.ref b)) := by intro _ _; with_unfolding_all rfl) : PE X (.Subscript e (.Slice none none (some k) p2) pos) (tSlRev X.K te tk) := by
  intro pins s σ H Q I h
  refine Subscript_ (thn (he pins s σ H _ I h) fun v s1 ⟨x, H1, I1, r1, q1⟩ => ?_)
  refine wpAny_Slice ?_
  rw [evalPart_none]
  refine wpAny_pure (wpAny_pure (thn (hk pins s1 σ H1 _ I1 q1) fun vk s2 ⟨kk, H2, I2, pk, ek, q2⟩ => ?_))
  subst ek
  obtain ⟨a, xs, rfl, hx, q⟩ := q2
  cases r1
  have I4 : Inv X pins σ H2 { s2 with heap := s2.heap.push { cls := .type "slice", data := .fields #[.none, .none, vk] } } := I2.kept (t' := s2.toks) fun b ob q => Heap.get?_push_of_some _ q
  obtain ⟨its, r, ht, hz⟩ := I4.list hx
  have hlen := r.length
  show wpAny (model X.prog X.w) X.A (subscriptTail e (.Slice none none (some k) p2) (.ref a) (.ref s2.heap.objs.size)) (EP X pins σ Q) X.xe { s2 with heap := s2.heap.push { cls := .type "slice", data := .fields #[.none, .none, vk] } }
  refine tail_any (ops := ops a s2.heap.objs.size) ht.isList.typeIs slot_list_getitem.lookup ?_ (hsub _ _)
  refine wpAny_getItem_list_slice ht.isList (Heap.IsSliceOf.new ..) .none .none pk (by decide) ?_ (by rw [List.size_toArray] <;> omega)
  rw [PySem.W.krv_pick]
  refine ⟨.ref (s2.heap.push { cls := .type "slice", data := .fields #[.none, .none, vk] }).objs.size, _, I4.laid (t' := s2.toks) (o := .lst xs.reverse) (fun b ob q => Heap.get?_push_of_some _ q) (Nat.le_refl _) ?_, rfl, q _ (I4.hok.fresh (Nat.le_refl _))⟩
  exact ⟨by rw [List.length_reverse]; exact hz, its.reverse, 0, vals_reverse r, Heap.get?_push_size _ rfl⟩
end
end L2

set_option Elab.async false
set_option linter.all false
set_option maxRecDepth 100000
set_option maxHeartbeats 1000000
set_option pp.maxSteps 400
/-! ### a loop or a comprehension over zip(a, b), two lists, its target a tuple -/
namespace L2
open PySem PySem.Spec PyProof.Rows
theorem cls_ne {h : Heap} {p q : Addr} {o o' : Obj} (e : h.get? p = some o) (e' : h.get? q = some o') (n : o.cls ≠ o'.cls) : p ≠ q := fun z => by
  rw [z, e'] at e
  cases e
  exact n rfl
theorem list_not_tuple {h : Heap} {a : Addr} {xs ys : Array Value} (h1 : h.IsList a xs) (h2 : h.IsTuple a ys) : False := by
  obtain ⟨o, e, c, _⟩ := h1
  obtain ⟨o', e', c', _⟩ := h2
  rw [e'] at e
  cases e
  rw [c'] at c
  injection c with q
  exact absurd q (by decide)
/-- the i-th of the list at a with the i-th of the list at b -/
def Itz (K : PySem.W.Frag) (a b : Addr) : It :=
  ⟨fun i H => ∃ xs ys x y, SqL K H a xs ∧ SqL K H b ys ∧ xs[i]? = some x ∧ ys[i]? = some y,
   fun i H v H' => ∃ p x y, H p = none ∧ v = .ref p ∧ H' = upd H p (.tup [x, y]) ∧ (∀ xs, SqL K H a xs → xs[i]? = some x) ∧ ∀ ys, SqL K H b ys → ys[i]? = some y,
   fun i H => ∃ xs ys, SqL K H a xs ∧ SqL K H b ys ∧ (xs.length ≤ i ∨ ys.length ≤ i)⟩
theorem turn_zip {P : Program} {w : World} {K : PySem.W.Frag} {elts : List Expr} {k : Nat} {pos : Pos} (a b z TI TO i1 i2 : Addr) (nd : [z, TI, TO, i1, i2].Nodup) :
    Turn P w K (.Tuple elts k pos) (Itz K a b) [z, TI, TO, i1, i2] z (fun i h => (∃ f1, ZZ.IsZ h z TI TO .none f1) ∧ ZZ.IsTu h TI [.ref i1, .ref i2] ∧ (∃ olds : List Value, ZZ.IsTu h TO olds ∧ olds.length = 2) ∧ h.IsListIter i1 a i ∧ h.IsListIter i2 b i) where
  mem := by simp
  obj := fun i h st c hc => by
    obtain ⟨⟨f1, hz⟩, hTI, ⟨olds, hTO, _⟩, ⟨o1, e1, _, d1⟩, o2, e2, _, d2⟩ := st
    simp only [List.mem_cons, List.not_mem_nil, or_false] at hc
    rcases hc with rfl | rfl | rfl | rfl | rfl
    · exact ⟨_, hz, fun v q => by cases (show Data.fields _ = Data.cell v from q)⟩
    · exact ⟨_, hTI, fun v q => by cases (show Data.seq _ _ = Data.cell v from q)⟩
    · exact ⟨_, hTO, fun v q => by cases (show Data.seq _ _ = Data.cell v from q)⟩
    · exact ⟨o1, e1, fun v q => by rw [d1] at q; cases q⟩
    · exact ⟨o2, e2, fun v q => by rw [d2] at q; cases q⟩
  keep := fun i h h' st k => by
    obtain ⟨⟨f1, hz⟩, hTI, ⟨olds, hTO, l⟩, h1, h2⟩ := st
    exact ⟨⟨f1, k z (by simp) _ hz⟩, k TI (by simp) _ hTI, ⟨olds, k TO (by simp) _ hTO, l⟩, h1.at fun o e => k i1 (by simp) o e, h2.at fun o e => k i2 (by simp) o e⟩
  item := by
    intro X hP hw hK hc i pins s σ H E I hf st hg
    subst hP hw hK
    obtain ⟨xs, ys, x, y, hq1, hq2, hx, hy⟩ := hg
    obtain ⟨us, ru, p1, z1⟩ := I.list hq1
    obtain ⟨ws, rw', p2, z2⟩ := I.list hq2
    obtain ⟨u, hu, ru'⟩ := ru.get hx
    obtain ⟨v, hv, rv'⟩ := rw'.get hy
    obtain ⟨⟨f1, hz⟩, hTI, ⟨olds, hTO, lo⟩, hi1, hi2⟩ := st
    simp only [List.nodup_cons, List.mem_cons, List.not_mem_nil, or_false, not_or, List.nodup_nil, not_false_eq_true, and_true] at nd
    obtain ⟨⟨n1, n2, n3, n4⟩, ⟨n5, n6, n7⟩, ⟨n8, n9⟩, n10⟩ := nd
    have D : ZZ.Apart z TI TO [⟨i1, a, us.toArray⟩, ⟨i2, b, ws.toArray⟩] := by
      obtain ⟨oa, ea, ca, _⟩ := p1.isList
      obtain ⟨ob, eb, cb, _⟩ := p2.isList
      obtain ⟨o1, e1, c1, _⟩ := id hi1
      obtain ⟨o2, e2, c2, _⟩ := id hi2
      have l1 : Value.type "list" ≠ Value.type "zip" := fun q => absurd (by injection q) (show ¬ ("list" = "zip") by decide)
      have l2 : Value.type "list" ≠ Value.type "tuple" := fun q => absurd (by injection q) (show ¬ ("list" = "tuple") by decide)
      have l3 : Value.type "list" ≠ Value.type "list_iterator" := fun q => absurd (by injection q) (show ¬ ("list" = "list_iterator") by decide)
      refine ⟨Ne.symm n1, Ne.symm n2, n5, fun q hq => ?_, fun q hq => ?_, fun q hq r hr => ?_, ?_⟩
      · simp only [List.mem_cons, List.not_mem_nil, or_false] at hq
        rcases hq with rfl | rfl
        · exact ⟨Ne.symm n3, Ne.symm n6, Ne.symm n8⟩
        · exact ⟨Ne.symm n4, Ne.symm n7, Ne.symm n9⟩
      · simp only [List.mem_cons, List.not_mem_nil, or_false] at hq
        rcases hq with rfl | rfl
        · exact ⟨cls_ne ea hz (by rw [ca]; exact l1), cls_ne ea hTO (by rw [ca]; exact l2)⟩
        · exact ⟨cls_ne eb hz (by rw [cb]; exact l1), cls_ne eb hTO (by rw [cb]; exact l2)⟩
      · simp only [List.mem_cons, List.not_mem_nil, or_false] at hq hr
        rcases hq with rfl | rfl <;> rcases hr with rfl | rfl
        · exact cls_ne ea e1 (by rw [ca, c1]; exact l3)
        · exact cls_ne ea e2 (by rw [ca, c2]; exact l3)
        · exact cls_ne eb e1 (by rw [cb, c1]; exact l3)
        · exact cls_ne eb e2 (by rw [cb, c2]; exact l3)
      · simp [n10]
    have hat : ∀ q ∈ ([⟨i1, a, us.toArray⟩, ⟨i2, b, ws.toArray⟩] : List ZZ.Src), ZZ.SrcAt s.heap q i := fun q hq => by
      simp only [List.mem_cons, List.not_mem_nil, or_false] at hq
      rcases hq with rfl | rfl
      · exact .inl ⟨hi1, p1.isList⟩
      · exact .inl ⟨hi2, p2.isList⟩
    refine ZZ.pyNext_zip hz (Qi := fun r s' => ∃ h', r = .ref s.heap.objs.size ∧ s' = { s with heap := h' } ∧ ZZ.IsZ h' z TI TO (rawInt s.heap.objs.size) (.bool false) ∧ ZZ.IsTu h' TI [.ref i1, .ref i2] ∧ ZZ.IsTu h' TO [u, v] ∧ (∀ q ∈ ([⟨i1, a, us.toArray⟩, ⟨i2, b, ws.toArray⟩] : List ZZ.Src), ZZ.SrcAt h' q (i + 1)) ∧ ZZ.IsTu h' s.heap.objs.size [u, v] ∧ ZZ.Rest z TO [⟨i1, a, us.toArray⟩, ⟨i2, b, ws.toArray⟩] s.heap h')
      (ZZ.zip_item_free (xs := [u, v]) D hz hTI hTO hat (by simp) rfl lo (fun j q hj => ?_) (by show 2 ≤ 100; decide) fun h' a1 a2 a3 a4 a5 a6 a7 => ⟨h', rfl, rfl, a1, a2, a3, a4, a5, a7⟩) fun r s' hQ => ?_
    · match j, hj with
      | 0, hj => cases hj; exact ⟨u, rfl, by simpa using hu⟩
      | 1, hj => cases hj; exact ⟨v, rfl, by simpa using hv⟩
    obtain ⟨h', rfl, rfl, a1, a2, a3, a4, a5, a7⟩ := hQ
    refine ⟨_, rfl, ZZ.letGo_zip (s := { s with heap := h' }) a1 fun h2 hz2 sb => ?_⟩
    have hlt2 : s.heap.objs.size ≠ z := Nat.ne_of_gt (Heap.lt_size hz)
    have hT2 : ZZ.IsTu h2 s.heap.objs.size [u, v] := (sb.2 _ hlt2).trans a5
    have new : ObjOk X.prog X.w (upd H s.heap.objs.size (.tup [x, y])) h2 s.heap.objs.size (.tup [x, y]) :=
      ⟨by show 2 ≤ sizeLine; decide, [u, v], .cons ru' (.cons rv' .nil), _, hT2, rfl, 0, rfl⟩
    have I1 := I.turnedNew (h' := h2) (t' := s.toks) (Nat.le_refl _) (fun c q hc e => (sb.2 c (fun w => hc (by simp [w]))).trans (a7 c q (fun w => hc (by simp [w])) (fun w => hc (by simp [w])) (fun w => hc (by simp only [List.map_cons, List.map_nil, List.mem_cons, List.not_mem_nil, or_false] at w; rcases w with w | w <;> simp [w])) e)) hf new
    have back : ∀ {it l : Addr} {items : Array Value}, l ≠ z → l ≠ TO → l ≠ i1 → l ≠ i2 → it ≠ z → s.heap.IsList l items → ZZ.SrcAt h' ⟨it, l, items⟩ (i + 1) → h2.IsListIter it l (i + 1) := fun m1 m2 m3 m4 m5 hl q => by
      rcases q with ⟨q1, _⟩ | ⟨_, q2⟩
      · exact q1.at fun o e => (sb.2 _ m5).trans e
      · obtain ⟨o, e, r⟩ := hl
        exact (list_not_tuple ⟨o, a7 _ o m1 m2 (by simp [m3, m4]) e, r⟩ q2).elim
    refine ⟨.ref s.heap.objs.size, _, I1, rfl, ⟨s.heap.objs.size, x, y, I.hok.fresh (Nat.le_refl _), rfl, rfl, fun ys' hy' => by rw [I.list_inj hy' hq1]; exact hx, fun ys' hy' => by rw [I.list_inj hy' hq2]; exact hy⟩, ⟨⟨_, hz2⟩, (sb.2 _ (Ne.symm n1)).trans a2, ⟨[u, v], (sb.2 _ (Ne.symm n2)).trans a3, rfl⟩, ?_, ?_⟩, fun c hc => ?_⟩
    · exact back (D.a ⟨i1, a, us.toArray⟩ (by simp)).1 (D.a ⟨i1, a, us.toArray⟩ (by simp)).2 (D.ai ⟨i1, a, us.toArray⟩ (by simp) ⟨i1, a, us.toArray⟩ (by simp)) (D.ai ⟨i1, a, us.toArray⟩ (by simp) ⟨i2, b, ws.toArray⟩ (by simp)) (Ne.symm n3) p1.isList (a4 _ (by simp))
    · exact back (D.a ⟨i2, b, ws.toArray⟩ (by simp)).1 (D.a ⟨i2, b, ws.toArray⟩ (by simp)).2 (D.ai ⟨i2, b, ws.toArray⟩ (by simp) ⟨i1, a, us.toArray⟩ (by simp)) (D.ai ⟨i2, b, ws.toArray⟩ (by simp) ⟨i2, b, ws.toArray⟩ (by simp)) (Ne.symm n4) p2.isList (a4 _ (by simp))
    · have hlc : c ≠ s.heap.objs.size := by
        have hmem : ∃ o, s.heap.get? c = some o := by
          simp only [List.mem_cons, List.not_mem_nil, or_false] at hc
          rcases hc with rfl | rfl | rfl | rfl | rfl
          · exact ⟨_, hz⟩
          · exact ⟨_, hTI⟩
          · exact ⟨_, hTO⟩
          · obtain ⟨o, e, _⟩ := hi1; exact ⟨o, e⟩
          · obtain ⟨o, e, _⟩ := hi2; exact ⟨o, e⟩
        obtain ⟨o, e⟩ := hmem
        exact Nat.ne_of_lt (Heap.lt_size e)
      rw [upd_ne hlc]
      exact (hf c hc).1
  done := by
    intro X hP hw hK hc i pins s σ H E I hf st hg
    subst hP hw hK
    obtain ⟨xs, ys, hq1, hq2, hend⟩ := hg
    obtain ⟨us, ru, p1, z1⟩ := I.list hq1
    obtain ⟨ws, rw', p2, z2⟩ := I.list hq2
    obtain ⟨⟨f1, hz⟩, hTI, ⟨olds, hTO, lo⟩, hi1, hi2⟩ := st
    simp only [List.nodup_cons, List.mem_cons, List.not_mem_nil, or_false, not_or, List.nodup_nil, not_false_eq_true, and_true] at nd
    obtain ⟨⟨n1, n2, n3, n4⟩, ⟨n5, n6, n7⟩, ⟨n8, n9⟩, n10⟩ := nd
    have D : ZZ.Apart z TI TO [⟨i1, a, us.toArray⟩, ⟨i2, b, ws.toArray⟩] := by
      obtain ⟨oa, ea, ca, _⟩ := p1.isList
      obtain ⟨ob, eb, cb, _⟩ := p2.isList
      obtain ⟨o1, e1, c1, _⟩ := id hi1
      obtain ⟨o2, e2, c2, _⟩ := id hi2
      have l1 : Value.type "list" ≠ Value.type "zip" := fun q => absurd (by injection q) (show ¬ ("list" = "zip") by decide)
      have l2 : Value.type "list" ≠ Value.type "tuple" := fun q => absurd (by injection q) (show ¬ ("list" = "tuple") by decide)
      have l3 : Value.type "list" ≠ Value.type "list_iterator" := fun q => absurd (by injection q) (show ¬ ("list" = "list_iterator") by decide)
      refine ⟨Ne.symm n1, Ne.symm n2, n5, fun q hq => ?_, fun q hq => ?_, fun q hq r hr => ?_, ?_⟩
      · simp only [List.mem_cons, List.not_mem_nil, or_false] at hq
        rcases hq with rfl | rfl
        · exact ⟨Ne.symm n3, Ne.symm n6, Ne.symm n8⟩
        · exact ⟨Ne.symm n4, Ne.symm n7, Ne.symm n9⟩
      · simp only [List.mem_cons, List.not_mem_nil, or_false] at hq
        rcases hq with rfl | rfl
        · exact ⟨cls_ne ea hz (by rw [ca]; exact l1), cls_ne ea hTO (by rw [ca]; exact l2)⟩
        · exact ⟨cls_ne eb hz (by rw [cb]; exact l1), cls_ne eb hTO (by rw [cb]; exact l2)⟩
      · simp only [List.mem_cons, List.not_mem_nil, or_false] at hq hr
        rcases hq with rfl | rfl <;> rcases hr with rfl | rfl
        · exact cls_ne ea e1 (by rw [ca, c1]; exact l3)
        · exact cls_ne ea e2 (by rw [ca, c2]; exact l3)
        · exact cls_ne eb e1 (by rw [cb, c1]; exact l3)
        · exact cls_ne eb e2 (by rw [cb, c2]; exact l3)
      · simp [n10]
    have hat : ∀ q ∈ ([⟨i1, a, us.toArray⟩, ⟨i2, b, ws.toArray⟩] : List ZZ.Src), ZZ.SrcAt s.heap q i := fun q hq => by
      simp only [List.mem_cons, List.not_mem_nil, or_false] at hq
      rcases hq with rfl | rfl
      · exact .inl ⟨hi1, p1.isList⟩
      · exact .inl ⟨hi2, p2.isList⟩
    have l1 := ru.length
    have l2 := rw'.length
    refine ZZ.pyNext_zip_end hz (R := fun h' => ZZ.Rest z TO [⟨i1, a, us.toArray⟩, ⟨i2, b, ws.toArray⟩] s.heap h') (ZZ.zip_end_free (I.ok.hd hc) D hz hTI hTO hat (by simp) lo (by show 2 ≤ 100; decide) ?_ fun h' e r st => ⟨h', e, rfl, rfl, r, st⟩) fun h' r => ⟨rfl, I.turnedL (h' := h') (t' := s.toks) (fun c q hc e => r c q (fun w => hc (by simp [w])) (fun w => hc (by simp [w])) (fun w => hc (by simp only [List.map_cons, List.map_nil, List.mem_cons, List.not_mem_nil, or_false] at w; rcases w with w | w <;> simp [w])) e) hf⟩
    rcases hend with h | h
    · exact ⟨_, List.mem_cons_self .., by simp; omega⟩
    · exact ⟨_, List.mem_cons_of_mem _ (List.mem_cons_self ..), by simp; omega⟩
  self := fun _ _ _ _ _ st h => ZZ.pyIter_zip st.1.choose_spec h
def iZip (K : PySem.W.Frag) (ta : TA) : TI := fun σ H R => ta σ H fun vs H1 => ∃ a b, vs = [.ref a, .ref b] ∧ (∃ xs, SqL K H1 a xs) ∧ (∃ ys, SqL K H1 b ys) ∧ R (Itz K a b) H1
section
variable {X : Cx}
theorem pi_zip2 {a b : Expr} {ta : TA} {p pos tp : Pos} {elts : List Expr} {k : Nat} (hg : Gl X "zip") (hm : X.mg "zip" = none) (ha : PA X [a, b] ta)
    (hs : starEach [a, b] X.env = [(false, eval a X.env), (false, eval b X.env)] := by rfl) (hs2 : starEach [b] X.env = [(false, eval b X.env)] := by rfl) : PI X (.Tuple elts k tp) (.Call (.Name "zip" p) [a, b] [] pos) (iZip X.K ta) := by
  intro pins s σ H R I h
  refine Call_ (ld_blt I hg hm (u := .type "zip") (by decide +kernel) (PyProof.Rows.callWith_type1 (thn (ha pos pins s σ H _ I h) fun us s1 ⟨vs, H1, I1, r1, q1⟩ => ?_) (by rw [hs, hs2]) (by rw [hs2]; rfl)))
  obtain ⟨a, b, e, ⟨xs, hx⟩, ⟨ys, hy⟩, q⟩ := q1
  subst e
  cases r1 with
  | cons r rr =>
    cases rr with
    | cons r' rr =>
      cases rr
      cases r
      cases r'
      obtain ⟨us, ru, k1, z1⟩ := I1.list hx
      obtain ⟨ws, rw', k2, z2⟩ := I1.list hy
      refine ZZ.call_zip2 (c1 := "list_iterator") (c2 := "list_iterator") (.inl ⟨rfl, k1.isList⟩) (.inl ⟨rfl, k2.isList⟩) fun h' z TI TO i1 i2 f => ?_
      refine ZZ.pyIter_zip (s := { s1 with heap := h' }) f.hz ?_
      have nd : [z, TI, TO, i1, i2].Nodup := by
        have a1 := f.ap.it ⟨i1, a, us.toArray⟩ (by simp)
        have a2 := f.ap.it ⟨i2, b, ws.toArray⟩ (by simp)
        have a3 : i1 ≠ i2 := by
          have := f.ap.nd
          simpa using this
        simp only [List.nodup_cons, List.mem_cons, List.not_mem_nil, or_false, not_or, List.nodup_nil, not_false_eq_true, and_true]
        exact ⟨⟨Ne.symm f.ap.TIz, Ne.symm f.ap.TOz, Ne.symm a1.1, Ne.symm a2.1⟩, ⟨f.ap.TITO, Ne.symm a1.2.1, Ne.symm a2.2.1⟩, ⟨Ne.symm a1.2.2, Ne.symm a2.2.2⟩, a3⟩
      have at1 : h'.IsListIter i1 a 0 := by
        rcases f.at_ ⟨i1, a, us.toArray⟩ (by simp) with ⟨x1, _⟩ | ⟨_, x2⟩
        · exact x1
        · obtain ⟨o, e, r⟩ := k1.isList
          exact (list_not_tuple ⟨o, f.keep _ o e, r⟩ x2).elim
      have at2 : h'.IsListIter i2 b 0 := by
        rcases f.at_ ⟨i2, b, ws.toArray⟩ (by simp) with ⟨x1, _⟩ | ⟨_, x2⟩
        · exact x1
        · obtain ⟨o, e, r⟩ := k2.isList
          exact (list_not_tuple ⟨o, f.keep _ o e, r⟩ x2).elim
      refine ⟨z, [z, TI, TO, i1, i2], _, _, H1, rfl, I1.kept (t' := s1.toks) fun c o e => f.keep c o e, turn_zip a b z TI TO i1 i2 nd, ⟨⟨_, f.hz⟩, f.hTI, ⟨_, f.hTO, rfl⟩, at1, at2⟩, fun c hc => ?_, q⟩
      have hn := f.new
      have hcs : s1.heap.objs.size ≤ c := by
        simp only [List.mem_cons, List.not_mem_nil, or_false] at hc
        rcases hc with rfl | rfl | rfl | rfl | rfl
        · exact hn.1
        · exact hn.2.1
        · exact hn.2.2.1
        · exact hn.2.2.2 ⟨c, a, us.toArray⟩ (by simp)
        · exact hn.2.2.2 ⟨c, b, ws.toArray⟩ (by simp)
      exact I1.fpOk hcs (I1.hok.fresh hcs)
end
/-- a comprehension over zip of two lists of one length that its turns leave as they are -/
theorem comp_zip {K : PySem.W.Frag} {a b l : Addr} {xs ys : List V} {g : TG} {tt : TT} {te : TE} {Q : VK} {σ0 : St} {H0 : Hp} (hxy : ys.length = xs.length) (Pv : Nat → St → Hp → Prop)
    (h0 : Pv 0 σ0 H0) (hl : ∀ i σ H', i ≤ xs.length → Pv i σ H' → SqL K H' a xs ∧ SqL K H' b ys)
    (hs : ∀ i x y p σ H', xs[i]? = some x → ys[i]? = some y → Pv i σ H' → H' p = none → g (.ref p) σ (upd H' p (.tup [x, y])) fun σ3 H3 => tt σ3 H3 fun b H4 => if b = true then te σ3 H4 fun y H5 => ∃ ys, H5 l = some (.lst ys) ∧ ys.length < sizeLine ∧ Pv (i + 1) σ3 (upd H5 l (.lst (ys ++ [y]))) else Pv (i + 1) σ3 H4)
    (hd : ∀ σ H', Pv xs.length σ H' → Q (.ref l) H') : CWant (Itz K a b) g tt te Q σ0 H0 l := by
  unfold CWant
  refine ⟨fun i m σ H' => m = xs.length - i ∧ i ≤ xs.length ∧ Pv i σ H', ⟨xs.length, by simp, Nat.zero_le _, h0⟩, ?_⟩
  rintro i m σ H' ⟨rfl, hi, p⟩
  obtain ⟨q1, q2⟩ := hl i σ H' hi p
  by_cases hlt : i < xs.length
  · have hlt2 : i < ys.length := by omega
    refine .inr ⟨⟨xs, ys, xs[i], ys[i], q1, q2, List.getElem?_eq_getElem hlt, List.getElem?_eq_getElem hlt2⟩, Pv (i + 1), fun σ3 H3 p' => ⟨xs.length - (i + 1), by omega, rfl, hlt, p'⟩, fun v H2 y => ?_⟩
    obtain ⟨pp, x', y', hp, rfl, rfl, e1, e2⟩ := y
    exact hs i x' y' pp σ _ (e1 xs q1) (e2 ys q2) p hp
  · exact .inl ⟨⟨xs, ys, q1, q2, .inl (by omega)⟩, by
      have : i = xs.length := by omega
      subst this
      exact hd _ _ p⟩
end L2

set_option Elab.async false
set_option linter.all false
set_option maxRecDepth 100000
set_option maxHeartbeats 1000000
/-! ### data that the heap or the text's own constants hold, and its equality; tuple targets within a comprehension -/
namespace L2
open PySem PySem.Spec PyProof.Rows
mutual
inductive RepK (K : PySem.W.Frag) (H : Hp) : V → PyData → Prop
  | non : RepK K H .non .none
  | bl (b : Bool) : RepK K H (.bl b) (.bool b)
  | int (i : Int) : RepK K H (.int i) (.int i)
  | str (x : Str) : RepK K H (.str x) (.str x)
  | tup {a : Addr} {xs : List V} {ds : List PyData} : SqT K H a xs → RepsK K H xs ds → RepK K H (.ref a) (.tuple ds)
inductive RepsK (K : PySem.W.Frag) (H : Hp) : List V → List PyData → Prop
  | nil : RepsK K H [] []
  | cons {x : V} {d : PyData} {xs : List V} {ds : List PyData} : RepK K H x d → RepsK K H xs ds → RepsK K H (x :: xs) (d :: ds)
end
section
variable {X : Cx} {pins : List (Addr × Obj)} {σ : St} {H : Hp} {s : Shared}
mutual
theorem RepK.reads (I : Inv X pins σ H s) : ∀ {v : V} {d : PyData} {u : Value}, RepK X.K H v d → RelV v u → ∃ as, Reads s.heap u d as
  | _, _, _, .non, r => by cases (show _ = Value.none from r); exact ⟨_, .none⟩
  | _, _, _, .bl b, r => by cases (show _ = Value.bool b from r); exact ⟨_, .bool b⟩
  | _, _, _, .int i, r => by obtain ⟨t, rfl⟩ := (show ∃ t, _ = Value.int i t from r); exact ⟨_, .int i t⟩
  | _, _, _, .str x, r => by obtain ⟨t, rfl⟩ := (show ∃ t, _ = Value.str x t from r); exact ⟨_, .str x t⟩
  | _, _, _, .tup (a := a) (xs := xs) e q, r => by
    cases (show _ = Value.ref a from r)
    obtain ⟨its, rv, ⟨o, ho, hc, n, hd⟩, _⟩ := I.tuple e
    obtain ⟨as, z⟩ := RepsK.reads I q rv
    exact ⟨_, .tuple ho hc hd (by simpa using z)⟩
theorem RepsK.reads (I : Inv X pins σ H s) : ∀ {xs : List V} {ds : List PyData} {us : List Value}, RepsK X.K H xs ds → Vals xs us → ∃ as, ReadsAll s.heap us ds as
  | _, _, _, .nil, .nil => ⟨_, .nil⟩
  | _, _, _, .cons p q, .cons r t => by
    obtain ⟨as, a1⟩ := RepK.reads I p r
    obtain ⟨bs, b1⟩ := RepsK.reads I q t
    exact ⟨_, .cons a1 b1⟩
end
end
section
variable {X : Cx} {K : PySem.W.Frag}
theorem pg_tupK {es : List Expr} {k : Nat} {pos : Pos} {t : TGs} {n : Nat} (hK : X.K = K) (hc : X.calm = true) (h : PGs X es t)
    (hn : (assignEach es X.env).length = n := by rfl) (hst : (assignEach es X.env).findIdx? (·.1) = none := by rfl) : PG X (.Tuple es k pos) (gTup K n t) := hK ▸ pg_tup hc h hn hst
end
end L2

set_option Elab.async false
set_option linter.all false
set_option maxRecDepth 100000
set_option maxHeartbeats 4000000

/-! ### own exception classes: isinstance of an exception -/
namespace L2
open PySem PySem.Spec PyProof.Rows
/-- the classes above ValueError -/
abbrev veMro : List Value := [.type "ValueError", .type "Exception", .type "BaseException", .type "object"]
/-- what the fragment says of an own exception class under ValueError -/
structure XCl (K : PySem.W.Frag) (C : Addr) : Prop where
  ex : PySem.W.excIn K C veMro "ValueError.__new__" = true
  ga : PySem.W.findIn K (.ref C) "__getattribute__" = some (some (.builtin "BaseException.__getattribute__"))
  gn : PySem.W.findIn K (.ref C) "__getattr__" = some none
  ca : PySem.W.findIn K (.ref C) "__class__" = some (some (.builtin "object.__class__"))
  mo : PySem.W.subIn K (.ref C) (.type "object") = some true
  mb : PySem.W.subIn K (.ref C) (.type "BaseException") = some true
  kp : PySem.W.keepIn K (.ref C) = true
section
variable {K : PySem.W.Frag} {C : Addr}
theorem XCl.look (T : XCl K C) : ∃ dd cd sl, K.lookup C = some ⟨.type "type", dd, .cls cd, sl⟩ := by
  have q := T.ex
  unfold PySem.W.excIn at q
  split at q
  · rename_i dd cd sl ho
    exact ⟨dd, cd, sl, ho⟩
  · cases q
/-- the class as the library's rules want it -/
theorem XCl.obj (T : XCl K C) {h : Heap} (X : K.In h) : ∃ bm N nm q bs hdct sn sub ab col dd k0 k1 k2 k3 k5 mN, h.get? C = some (excClassObj nm q C N bs bm hdct sn sub ab col dd k0 k1 k2 k3 k5 "ValueError.__new__") ∧ h.Ns N mN ∧ mN "__init__" = none ∧ OwnTail h veMro bm := by
  have q := T.ex
  unfold PySem.W.excIn at q
  split at q
  · rename_i dd cd sl ho
    split at q
    · rename_i C' bm k0 k1 k2 k3 n k5 hm hs
      simp only [Bool.and_eq_true, beq_iff_eq, Bool.not_eq_true'] at q
      obtain ⟨⟨⟨⟨⟨rfl, rfl⟩, hdel⟩, ht⟩, hok⟩, hni⟩ := q
      obtain ⟨nm, bs, mro, ns, qn, hd, sn, sub, ab, col, del⟩ := cd
      dsimp only at hm hdel hok hni
      subst hm hdel
      have hsl : sl = #[k0, k1, k2, k3, some (.builtin "ValueError.__new__"), k5] := by
        obtain ⟨l⟩ := sl
        simp only at hs
        rw [hs]
      subst hsl
      exact ⟨bm, ns, nm, qn, bs, hd, sn, sub, ab, col, dd, k0, k1, k2, k3, k5, _, X _ _ ho, .of_isNs (PySem.W.isNs_of_in X hok), PySem.W.nsMap_none_of_in X hok hni, PySem.W.tail_of_in X ht⟩
    · cases q
  · cases q
end
/-- an exception of the class at C, without context, lies at a -/
def XAt (a C : Addr) (h : Heap) : Prop := ∃ o vs, h.get? a = some o ∧ o.cls = .ref C ∧ o.data = .fields vs ∧ vs[2]? = some .none
section
variable {prog : Program} {w : World} {A : Around} {E : Value → Shared → Prop} {h : Heap} {g : Array GenState} {d : Drawn} {t : Nat} {os : OsState} {K : PySem.W.Frag} {a C : Addr} {o : Obj}
end
section
variable {X : Cx} {pins : List (Addr × Obj)} {σ : St} {H : Hp} {s : Shared}
end
end L2

set_option Elab.async false
set_option linter.all false
set_option maxRecDepth 100000
set_option maxHeartbeats 1000000

/-! ### an exception on its way: the frames it leaves -/
namespace L2
open PySem PySem.Spec PyProof.Rows
/-- the exception e, of the class at C, without context. fl: none, no frame is noted yet; some f, the newest entry bears f -/
def XT (B : Heap) (e C : Addr) (fl : Option Value) (h : Heap) : Prop :=
  ∃ oe vs, h.get? e = some oe ∧ oe.cls = .ref C ∧ oe.data = .fields vs ∧ vs[2]? = some .none ∧
    match fl with
    | none => vs[1]? = some .none
    | some f => ∃ T oT ts, vs[1]? = some (.ref T) ∧ B.get? T = none ∧ T ≠ e ∧ h.get? T = some oT ∧ oT.data = .fields ts ∧ ts[3]? = some f
structure Fl (B : Heap) (l : List Env) (e C : Addr) (fl : Option Value) (h : Heap) : Prop where
  stays : B.StaysIn h
  new : B.get? e = none
  fr : h.FunFrames B l
  tr : XT B e C fl h
theorem XT.at {B h : Heap} {e C : Addr} {fl : Option Value} (x : XT B e C fl h) : XAt e C h := by
  obtain ⟨oe, vs, h1, h2, h3, h4, _⟩ := x
  exact ⟨oe, vs, h1, h2, h3, h4⟩
section
variable {M : Model} {A : Around} {E : Value → Shared → Prop} {s : Shared} {B : Heap} {env : Env} {outer l : List Env} {L e C : Addr} {Q : Unit → Shared → Prop}
end
end L2

set_option Elab.async false
set_option linter.all false
set_option maxRecDepth 100000
set_option maxHeartbeats 1000000

/-! ### raise, calls that raise, try -/
namespace L2
open PySem PySem.Spec PyProof.Rows
theorem ObjOk.there {P : Program} {w : World} {H : Hp} {h : Heap} {a : Addr} {o : HO} (x : ObjOk P w H h a o) : ∃ u, h.get? a = some u := by
  cases o with
  | lst xs => obtain ⟨_, its, n, _, q⟩ := x; exact ⟨_, q⟩
  | tup xs => obtain ⟨_, its, _, ob, q, _⟩ := x; exact ⟨_, q⟩
  | dK kvs => obtain ⟨_, _, vs, _, ob, es, ep, q, _⟩ := x; exact ⟨_, q⟩
  | dT kvs => obtain ⟨_, _, xs, _, ob, es, ep, q, _⟩ := x; exact ⟨_, q⟩
  | set S n => obtain ⟨ob, es, ep, t, q, _⟩ := x; exact ⟨_, q⟩
  | ins C dx fs => obtain ⟨_, _, _, q, _⟩ := x; exact ⟨_, q⟩
  | own y => exact x
  | xd fs => obtain ⟨mA, ⟨od, es, ep, q, _⟩, _⟩ := x; exact ⟨_, q⟩
  | rng lo hi => obtain ⟨t, u, v, q⟩ := x; exact ⟨_, q⟩
  | frz ob u => exact ⟨_, x.1⟩
  | tbl ps => exact ⟨_, x⟩
  | met f y => exact ⟨_, x⟩
  | ext φ => exact x.2.1
/-- an exception behind a call: e, of the class at C; B: the things that it has not touched -/
structure Exc (P : Program) (w : World) (outer : List Env) (H : Hp) (s : Shared) (e C : Addr) (B : Heap) (H' : Hp) (s' : Shared) : Prop where
  os : s'.os = s.os
  bare : AllBare s'.gens
  fl : ∃ fl, (fl = none ∨ fl = some .none) ∧ Fl B outer e C fl s'.heap
  un : Un (frs outer) [] H H' s.heap s'.heap
  hok : HOk P w H' s'.heap
  tin : ∀ b o, s'.heap.get? b = some o → H' b ≠ none → B.get? b = some o
  old : ∀ b o, s.heap.get? b = some o → H b = none → b ∉ frs outer → B.get? b = some o
  ex : ∀ b o, s.heap.get? b = some o → b ∉ frs outer → ∃ o', B.get? b = some o'
section
variable {P : Program} {w : World} {outer : List Env} {H H' : Hp} {s s' : Shared} {e C : Addr} {B h2 : Heap} {fl : Option Value}
theorem Exc.free (x : Exc P w outer H s e C B H' s') : H' e = none := by
  cases hq : H' e with
  | none => rfl
  | some v =>
    obtain ⟨o1, q1⟩ := (x.hok e v hq).there
    have q2 := x.tin e o1 q1 (by rw [hq]; exact fun z => nomatch z)
    obtain ⟨_, _, g⟩ := x.fl
    rw [g.new] at q2
    cases q2
theorem Exc.fresh (x : Exc P w outer H s e C B H' s') : s.heap.get? e = none := by
  cases hq : s.heap.get? e with
  | none => rfl
  | some o =>
    obtain ⟨_, _, g⟩ := x.fl
    by_cases hb : e ∈ frs outer
    · obtain ⟨_, o1, q1, nf⟩ := g.fr.mem hb
      obtain ⟨oe, vs, q2, _, q3, _⟩ := g.tr
      rw [q1] at q2
      cases q2
      exact absurd q3 (nf vs)
    · obtain ⟨o1, q1⟩ := x.ex e o hq hb
      rw [g.new] at q1
      cases q1
end
section
variable {X : Cx} {pins : List (Addr × Obj)} {σ : St} {H H' : Hp} {s s' : Shared} {e C : Addr} {B h2 : Heap} {fl : Option Value}
/-- an exception made here -/
theorem Exc.made {args : List Value} {h' : Heap} (I : Inv X pins σ H s) (hx : Heap.MadeExcOf s.heap h' e (.ref C) args) : Exc X.prog X.w X.stack H s e C (PySem.W.hideAll s.heap (frs X.stack)) H { s with heap := h' } := by
  have st : (PySem.W.hideAll s.heap (frs X.stack)).StaysIn s.heap := fun b o q => PySem.W.of_hideAll _ q
  refine ⟨rfl, I.bare, ⟨none, .inl rfl, ⟨fun b o q => hx.keeps b o (st b o q), ?_, ?_, ?_⟩⟩, Un.kept hx.keeps, I.hok.kept hx.keeps, fun b o q hb => ?_, fun b o q n hb => PySem.W.hideAll_get _ q hb, fun b o q hb => ⟨o, PySem.W.hideAll_get _ q hb⟩⟩
  · cases hq : (PySem.W.hideAll s.heap (frs X.stack)).get? e with
    | none => rfl
    | some o =>
      have q := st e o hq
      rw [hx.new] at q
      cases q
  · have f0 : s.heap.FunFrames (PySem.W.hideAll s.heap (frs X.stack)) X.stack := PySem.W.funFrames_hide I.stack fun env he a ha => List.mem_filterMap.mpr ⟨env, he, ha⟩
    exact f0.of_keeps fun b o q _ => ⟨o, hx.keeps b o q, rfl⟩
  · obtain ⟨t, q, _⟩ := hx.there
    exact ⟨_, _, q, rfl, rfl, rfl, rfl⟩
  · cases hq : H b with
    | none => exact absurd hq hb
    | some v =>
      obtain ⟨o1, q1⟩ := (I.hok b v hq).there
      have q2 := hx.keeps b o1 q1
      have q' : h'.get? b = some o := q
      rw [q'] at q2
      cases q2
      refine PySem.W.hideAll_get _ q1 fun hm => ?_
      rw [I.stkFree b hm] at hq
      cases hq
end

theorem PS.nox {X : Cx} {st : Stmt} {t : TS} (h : PS X.nox st t) : PS X st t := fun pins s σ H D I hw =>
  wpAny_mono (h pins s σ H D (I.wish _) hw) (fun _ _ q => q.unwish) fun _ _ z => False.elim z
end L2

set_option Elab.async false
set_option linter.all false
set_option maxRecDepth 100000
set_option maxHeartbeats 1000000

/-! ### try .. except, and what runs within an except suite -/
namespace L2
open PySem PySem.Spec PyProof.Rows
section
variable {M : Model} {A : Around} {E : Value → Shared → Prop} {h : Heap} {g : Array GenState} {d : Drawn} {t : Nat} {os : OsState} {K : PySem.W.Frag} {e C HC : Addr}
end
/-- other pins that every state bears, another wish -/
abbrev Cx.by (X : Cx) (pn : List (Addr × Obj)) (E : Value → Shared → Prop) : Cx := { X with pn := pn, xe := E }
section
variable {X : Cx} {pins pins' pn : List (Addr × Obj)} {σ : St} {H : Hp} {s : Shared} {E : Value → Shared → Prop} {ev : Value}
theorem Inv.by (I : Inv X pins σ H s) (E : Value → Shared → Prop) : Inv (X.by (X.pn ++ pins) E) [] σ H s :=
  ⟨⟨I.ok.mod, I.ok.kind, I.ok.glob, I.ok.blt, I.ok.above, I.ok.inj, I.ok.has, I.ok.cab, I.ok.hd, I.ok.frames, I.ok.stk, I.ok.exf, I.ok.bs, I.ok.bsz, I.ok.noex, I.ok.exfs, I.ok.funs, I.ok.frf⟩, I.os, I.bare, I.base, I.loc, I.cell, I.free, I.freeC,
    fun p hp => I.pin p (by simpa using hp), I.hok, I.len⟩
end
/-- the ends of an except suite: its name goes -/
def Ends.drop (D : Ends) (i : Nat) : Ends where
  nx := fun σ H => D.nx (σ.set i none) H
  rt := D.rt
  bk := fun σ H => D.bk (σ.set i none) H
  ct := fun σ H => D.ct (σ.set i none) H
/-! ### a def that runs within an except suite -/
structure RoomH (k : Nat) (A : Around) : Prop where
  dp : A.depth + 3 * k + 5 < recursionLimit
  un : A.units + 16 * k + 200 < cLine
theorem RoomH.deeper {k : Nat} {A : Around} (r : RoomH (k + 1) A) (env : Env) : RoomH k (A.deeper env) :=
  ⟨by have := r.dp; show A.depth + 1 + 3 * k + 5 < _; omega, by have := r.un; show A.units + 3 + 16 * k + 200 < _; omega⟩
theorem RoomH.mono {j k : Nat} {A : Around} (r : RoomH k A) (h : j ≤ k) : RoomH j A := ⟨by have := r.dp; omega, by have := r.un; omega⟩
theorem RoomH.units {k : Nat} {A : Around} (r : RoomH k A) : A.units + 64 < cLine := by have := r.un; omega
end L2

set_option Elab.async false
set_option linter.all false
set_option maxRecDepth 100000
set_option maxHeartbeats 1000000

/-! ### count and index of truths; max within an except suite -/
namespace L2
open PySem PySem.Spec PyProof.Rows PySem.SeqAt
theorem st_const {c : Const} {k : Nat} {p : Pos} {es : List Expr} {env : Env} : starEach (.Constant c k p :: es) env = (false, eval (.Constant c k p) env) :: starEach es env := by rfl
theorem st_call {f : Expr} {as : List Expr} {ks : List Keyword} {p : Pos} {es : List Expr} {env : Env} : starEach (.Call f as ks p :: es) env = (false, eval (.Call f as ks p) env) :: starEach es env := by rfl
section
variable {X : Cx}
end

section
variable {prog : Program} {w : World} {A : Around} {E : Value → Shared → Prop} {s : Shared}
end
end L2

set_option Elab.async false
set_option linter.all false
set_option maxRecDepth 100000
set_option maxHeartbeats 1000000

/-! ### loops and comprehensions over a dict and its items: the dict is frozen while it is walked, thawed behind -/
namespace L2
open PySem PySem.Spec PyProof.Rows
section
variable {X : Cx} {pins : List (Addr × Obj)} {σ : St} {H : Hp} {s : Shared} {a : Addr} {kvs : List (Key × V)} {o : Obj}
end
/-! #### loops, comprehensions -/
section
variable {a l : Addr} {o : Obj} {kvs : List (Key × V)} {g : TG} {tb : TS} {D : Ends} {σ : St} {H : Hp} {tt : TT} {te tk tv : TE} {Q : VK}
end
end L2

set_option Elab.async false
set_option linter.all false
set_option maxRecDepth 100000
set_option maxHeartbeats 1000000

/-! ### sorted(l), l a list of tuples of whole numbers: some order of the same -/
namespace L2
open PySem PySem.Spec PyProof.Rows
open PySem.W (KasT kas_asc kas_desc kas_rev kas_tail3 kas_descPart kas_count kas_place kas_bin kas_sort)
def Pm (n : Nat) (p : Array Nat) : Prop := p.toList.Perm (List.range n)
theorem Pm.lt {n : Nat} {p : Array Nat} (h : Pm n p) (n0 : 0 < n) (i : Nat) : p.getD i 0 < n := by
  by_cases hi : i < p.size
  · have e : p.getD i 0 = p[i] := by simp [hi]
    rw [e]
    have hm : p[i] ∈ p.toList := by simp
    exact List.mem_range.mp (h.mem_iff.mp hm)
  · have e : p.getD i 0 = 0 := by simp [hi]
    rw [e]; exact n0
section
variable {n : Nat} (n0 : 0 < n)
include n0
end
section
variable {prog : Program} {w : World} {A : Around} {E : Value → Shared → Prop} {s : Shared}
end
end L2

set_option Elab.async false
set_option linter.all false
set_option maxRecDepth 100000
set_option maxHeartbeats 1000000

/-! ### sorted(l) rises: l a list of tuples of whole numbers whose first ones differ, or of whole numbers -/
namespace L2
open PySem PySem.Spec PyProof.Rows
open PySem.W (KasT kas_asc kas_desc kas_rev kas_tail3 kas_descPart kas_count kas_place kas_bin kas_sort)
section
variable {n : Nat} {ky : Nat → Int}
def Gk (ky : Nat → Int) (p : Array Nat) (i : Nat) : Int := ky (p.getD i 0)
def Inj (n : Nat) (ky : Nat → Int) : Prop := ∀ i j, i < n → j < n → ky i = ky j → i = j
def Rise (ky : Nat → Int) (p : Array Nat) (m : Nat) : Prop := ∀ i, i + 1 < m → Gk ky p i < Gk ky p (i + 1)
def RiseT (ky : Nat → Int) (p : Array Nat) (m : Nat) : Prop := ∀ i j, i < j → j < m → Gk ky p i < Gk ky p j
theorem Rise.all {p : Array Nat} {m : Nat} (h : Rise ky p m) : RiseT ky p m := fun i j hij hj => by
  induction j with
  | zero => omega
  | succ j ih =>
    have h1 := h j hj
    by_cases e : i = j
    · rw [e]; exact h1
    · exact Int.lt_trans (ih (by omega) (by omega)) h1
theorem nd_inj {α : Type} {l : List α} (nd : l.Nodup) {i j : Nat} (hi : i < l.length) (hj : j < l.length) (e : l[i] = l[j]) : i = j := by
  rcases Nat.lt_trichotomy i j with h | h | h
  · exact absurd e (List.pairwise_iff_getElem.mp nd i j hi hj h)
  · exact h
  · exact absurd e.symm (List.pairwise_iff_getElem.mp nd j i hj hi h)
theorem Pm.size {p : Array Nat} (h : Pm n p) : p.size = n := by
  have := List.Perm.length_eq h
  simpa using this
theorem Pm.ne (hi : Inj n ky) {p : Array Nat} (h : Pm n p) {i j : Nat} (a : i < n) (b : j < n) (ne : i ≠ j) : Gk ky p i ≠ Gk ky p j := fun e => by
  have n0 : 0 < n := by omega
  have hs := h.size
  have e := hi _ _ (h.lt n0 i) (h.lt n0 j) e
  have nd : p.toList.Nodup := (List.Perm.nodup_iff h).mpr List.nodup_range
  have e1 : p.getD i 0 = p.toList[i]'(by simp [hs, a]) := by simp [hs, a]
  have e2 : p.getD j 0 = p.toList[j]'(by simp [hs, b]) := by simp [hs, b]
  rw [e1, e2] at e
  exact ne (nd_inj nd _ _ e)
theorem RiseT.list {p : Array Nat} (h : Pm n p) (R : RiseT ky p n) : (p.toList.map ky).Pairwise (· < ·) := by
  have hs := h.size
  rw [List.pairwise_iff_getElem]
  intro i j hi hj hij
  have hi' : i < n := by simpa [hs] using hi
  have hj' : j < n := by simpa [hs] using hj
  have := R i j hij hj'
  unfold Gk at this
  have e1 : p.getD i 0 = p[i]'(by omega) := by simp [hs, hi']
  have e2 : p.getD j 0 = p[j]'(by omega) := by simp [hs, hj']
  rw [e1, e2] at this
  simpa using this
end

section
variable {prog : Program} {w : World} {A : Around} {s : Shared}
end
end L2

set_option Elab.async false
set_option linter.all false
set_option maxRecDepth 100000
set_option maxHeartbeats 4000000
set_option pp.maxSteps 400
/-! ### enumerate over a list, from 0 or 1 -/
namespace PySem
open Sem (wp)
open AutoSeq1 (wpAny_loadPart')
theorem meets_enum_list1 (l : Addr) (items : Array Value) (n : Nat) (dct : Option Addr) (sl : Array (Option Value)) (t : Tok) :
    Meets (Builtin.«enumerate.__new__» ⟨[.type "enumerate", .ref l], [("start", .int 1 t)]⟩) (fun _ R s => s.heap.get? l = some { cls := .type "list", dict := dct, data := .seq items n, slots := sl } ∧
      R (.ok (.ret (.ref (s.heap.push { cls := .type "list_iterator", data := .fields #[.ref l, .int 0 0] }).objs.size)))
        { s with heap := (s.heap.push { cls := .type "list_iterator", data := .fields #[.ref l, .int 0 0] }).push { cls := .type "enumerate", data := .fields #[.none, .bool false, .ref s.heap.objs.size, rawInt 1, .none, .none] } }) :=
  .of_wp fun prog w A R s h => by
    obtain ⟨hp, g, d, tk, os⟩ := s; obtain ⟨hl, h⟩ := h
    have hsub := sub_enumerate
    have hL : Heap.IsList (Shared.heap ⟨hp, g, d, tk, os⟩) l items := ⟨_, hl, rfl, n, rfl⟩
    wp_walk using wpAny_loadPart' hl
    refine wpAny_stack_any fun st => wpAny_pure ?_
    split
    · rename_i c _ _ _ _ _
      cases (c == Value.type "enumerate")
      · wp_walk using wpAny_loadPart' hl, wpAny_pyIter_list hL
        exact ⟨_, rfl, h⟩
      · wp_walk using wpAny_loadPart' hl, wpAny_pyIter_list hL
        exact ⟨_, rfl, h⟩
    · wp_walk using wpAny_loadPart' hl, wpAny_pyIter_list hL
      exact ⟨_, rfl, h⟩
section
variable {prog : Program} {w : World} {A : Around} {E : Value → Shared → Prop} {s : Shared}
theorem enum_list_endI {e it l : Addr} {i : Nat} {j : Int} {items : Array Value} {old : Value} {Q : Option Value → Shared → Prop} (hh : A.handled = none) (he : IsEnum s.heap e it j old) (hit : s.heap.IsListIter it l i) (hl : s.heap.IsList l items) (hx : items[i]? = none)
    (hQ : ∀ h', Heap.ExtBut it s.heap h' → Q none { s with heap := h' }) : wpAny (model prog w) A (pyNext (.ref e)) Q E s := by
  have hT : s.TypeIs (.ref e) "enumerate" := ⟨_, he, rfl⟩
  unfold pyNext
  refine wpAny_bind (wpAny_attempt (wpAny_callSpecial?_slot (name := Str.ofString "__next__") hT F.slot_enumerate_next (wpAny_call_entry F.slot_enumerate_next hT F.entry_enumerate_next ?_ (F.args_enumerate_next_1 _))))
  show wpAny _ _ (field (.ref e) 2 >>= _) _ _ _
  refine wpAny_bind (wpAny_field he rfl (x := .ref it) rfl (wpAny_bind (wpAny_nextOf_list_end hh hit hl hx fun h' x he' hx' => ?_)))
  obtain ⟨o, ho, hc⟩ := hx'
  exact wpAny_bind (wpAny_isInstance (T := "StopIteration") (b := true) ⟨o, ho, hc⟩ isSubtype_stop (wpAny_pure (hQ _ he')))
end
end PySem
namespace L2
open PySem PySem.Spec PyProof.Rows
/-- (lo + i, the i-th of the list at a) -/
def Itel (K : PySem.W.Frag) (a : Addr) (lo : Nat) : It :=
  ⟨fun i H => ∃ xs x, SqL K H a xs ∧ xs[i]? = some x, fun i H v H' => ∃ p x, H p = none ∧ v = .ref p ∧ H' = upd H p (.tup [.int ((lo + i : Nat) : Int), x]) ∧ ∀ xs, SqL K H a xs → xs[i]? = some x, fun i H => ∃ xs, SqL K H a xs ∧ xs.length ≤ i⟩
theorem turn_enumL {P : Program} {w : World} {K : PySem.W.Frag} {elts : List Expr} {k : Nat} {pos : Pos} (a e it : Addr) (lo : Nat) (nei : e ≠ it) : Turn P w K (.Tuple elts k pos) (Itel K a lo) [e, it] e (fun i h => (∃ old, IsEnum h e it ((lo + i : Nat) : Int) old) ∧ h.IsListIter it a i) where
  mem := by simp
  obj := fun i h st b hb => by
    obtain ⟨⟨old, he⟩, o, ho, hc, hd⟩ := st
    rcases List.mem_cons.mp hb with rfl | hb
    · exact ⟨_, he, fun v z => by cases (show Data.fields _ = Data.cell v from z)⟩
    · have : b = it := by simpa using hb
      subst this
      exact ⟨o, ho, fun v z => by rw [hd] at z; cases z⟩
  keep := fun i h h' st k => by
    obtain ⟨⟨old, he⟩, hi⟩ := st
    exact ⟨⟨old, k e (by simp) _ he⟩, hi.at fun o q => k it (by simp) o q⟩
  item := by
    intro X hP hw hK hc i pins s σ H E I hf st hg
    subst hP hw hK
    obtain ⟨xs, x, hq, hx⟩ := hg
    obtain ⟨its, rv, p, hz⟩ := I.list hq
    obtain ⟨u, hu, ru⟩ := rv.get hx
    obtain ⟨⟨old, he⟩, hit⟩ := st
    have hts : s.heap.IsList a its.toArray := p.isList
    have ane : a ≠ e := fun z => by
      obtain ⟨o, ho, hcl, _⟩ := hts
      rw [z, he] at ho
      cases ho
      injection hcl with q
      exact absurd q (by decide)
    have ani : a ≠ it := fun z => by
      obtain ⟨o, ho, hcl, _⟩ := hts
      obtain ⟨o', ho', hcl', _⟩ := hit
      rw [z, ho'] at ho
      cases ho
      rw [hcl'] at hcl
      injection hcl with q
      exact absurd q (by decide)
    have hlt : i < its.toArray.size := by
      have := (List.getElem?_eq_some_iff.mp hu).1
      simpa using this
    have D := (Draws.list (prog := X.prog) (w := X.w) (A := X.A.in1) (I.ok.hd hc) it a ani its.toArray).from lo
    refine wpAny_pyNext_enum_itemD D he ⟨i, rfl, Nat.le_of_lt hlt, hit, hts⟩ (by omega) nei (by simp [nei, ane.symm]) fun y h1 tk hP ho hst hT hsz hk => ?_
    obtain ⟨i', ei, hy⟩ := hP
    have : i' = i := by omega
    subst this
    have ey : y = u := by
      have h2 : its.toArray[i']? = some u := by simpa using hu
      rw [h2] at hy
      exact (Option.some.inj hy).symm
    subst ey
    refine ⟨_, rfl, wpAny_letOwnedTupleGo_enum ho fun h2 he2 hs2 => ?_⟩
    have hlt2 : s.heap.objs.size ≠ e := Nat.ne_of_gt (Heap.lt_size he)
    have hT2 : h2.get? s.heap.objs.size = some { cls := .type "tuple", data := .seq #[.int ((lo + i' : Nat) : Int) tk, y] } := (hs2.2 _ hlt2).trans hT
    have new : ObjOk X.prog X.w (upd H s.heap.objs.size (.tup [.int ((lo + i' : Nat) : Int), x])) h2 s.heap.objs.size (.tup [.int ((lo + i' : Nat) : Int), x]) :=
      ⟨by show 2 ≤ sizeLine; decide, [.int ((lo + i' : Nat) : Int) tk, y], .cons ⟨tk, rfl⟩ (.cons ru .nil), _, hT2, rfl, 0, rfl⟩
    have I1 := I.turnedNew (h' := h2) (t' := tk + 1) (Nat.le_refl _) (fun b q hb z => (hs2.2 b (fun w => hb (by simp [w]))).trans (hk b q (fun w => hb (by simp [w])) (fun w => hb (by simp [w])) z)) hf new
    refine ⟨.ref s.heap.objs.size, _, I1, rfl, ⟨s.heap.objs.size, x, I.hok.fresh (Nat.le_refl _), rfl, rfl, fun ys hy' => by rw [I.list_inj hy' hq]; exact hx⟩, ⟨⟨y, ?_⟩, ?_⟩, fun b hb => ?_⟩
    · have := he2
      rw [show ((lo + (i' + 1) : Nat) : Int) = ((lo + i' : Nat) : Int) + 1 by omega]
      exact this
    · obtain ⟨i2, e2, _, st2, _⟩ := hst
      have : i2 = i' + 1 := by omega
      subst this
      exact st2.at fun o q => (hs2.2 it (Ne.symm nei)).trans q
    · have hb' : b < s.heap.objs.size := by
        rcases List.mem_cons.mp hb with rfl | hb
        · exact Heap.lt_size he
        · have : b = it := by simpa using hb
          subst this
          obtain ⟨o, ho', _⟩ := hit
          exact Heap.lt_size ho'
      rw [upd_ne (Nat.ne_of_lt hb')]
      exact (hf b hb).1
  done := by
    intro X hP hw hK hc i pins s σ H E I hf st hg
    subst hP hw hK
    obtain ⟨xs, hq, hx⟩ := hg
    obtain ⟨its, rv, p, hz⟩ := I.list hq
    obtain ⟨⟨old, he⟩, hit⟩ := st
    have hl := rv.length
    exact enum_list_endI (I.ok.hd hc) he hit p.isList (by simp; omega) fun h' eb => ⟨rfl, I.turnedL (t' := s.toks) (fun b o hb q => eb b o (fun z => hb (by simp [z])) q) hf⟩
  self := fun _ _ _ _ _ st h => let ⟨⟨_, he⟩, _⟩ := st; wpAny_pyIter_enum he h
end L2
namespace L2
open PySem PySem.Spec PyProof.Rows
section
variable {X : Cx}
theorem enum_itL {pins : List (Addr × Obj)} {σ : St} {H : Hp} {s : Shared} {R : It → Hp → Prop} {E : Value → Shared → Prop} {elts : List Expr} {k : Nat} {pos : Pos} {a : Addr} {lo : Nat} {tk : Nat} (I : Inv X pins σ H s) (q : R (Itel X.K a lo) H) :
    wpAny (model X.prog X.w) X.A (pyIter (.ref (s.heap.objs.size + 1))) (PIE X pins σ (.Tuple elts k pos) R) E
      { s with heap := (s.heap.push { cls := .type "list_iterator", data := .fields #[.ref a, .int 0 0] }).push { cls := .type "enumerate", data := .fields #[.none, .bool false, .ref s.heap.objs.size, rawInt (lo : Int), .none, .none] }, toks := tk } := by
  have hz : (s.heap.push { cls := .type "list_iterator", data := .fields #[.ref a, .int 0 0] }).objs.size = s.heap.objs.size + 1 := Heap.size_push ..
  have he : IsEnum ((s.heap.push { cls := .type "list_iterator", data := .fields #[.ref a, .int 0 0] }).push { cls := .type "enumerate", data := .fields #[.none, .bool false, .ref s.heap.objs.size, rawInt (lo : Int), .none, .none] }) (s.heap.objs.size + 1) s.heap.objs.size (lo : Int) .none := by
    have := Heap.get?_push_size (s.heap.push { cls := .type "list_iterator", data := .fields #[.ref a, .int 0 0] }) (o := { cls := .type "enumerate", data := .fields #[.none, .bool false, .ref s.heap.objs.size, rawInt (lo : Int), .none, .none] }) rfl
    rw [hz] at this
    exact this
  refine wpAny_pyIter_enum he ⟨s.heap.objs.size + 1, [s.heap.objs.size + 1, s.heap.objs.size], _, _, H, rfl, I.kept (t' := tk) fun b o e => Heap.get?_push_of_some _ (Heap.get?_push_of_some _ e), turn_enumL a (s.heap.objs.size + 1) s.heap.objs.size lo (Nat.succ_ne_self _), ⟨⟨.none, he⟩, ⟨_, Heap.get?_push_of_some _ (Heap.get?_push_size _ rfl), rfl, rfl⟩⟩, fun b hb => ?_, q⟩
  have hb' : s.heap.objs.size ≤ b := by
    simp only [List.mem_cons, List.not_mem_nil, or_false] at hb
    rcases hb with rfl | rfl
    · exact Nat.le_succ _
    · exact Nat.le_refl _
  exact I.fpOk hb' (I.hok.fresh hb')
end
end L2
set_option Elab.async false
set_option linter.all false
set_option maxRecDepth 100000
set_option maxHeartbeats 4000000
namespace L2
open PySem PySem.Spec PyProof.Rows
section
variable {X : Cx}
/-- enumerate(t) of a tuple, from lo on -/
def iEnumL (K : PySem.W.Frag) (lo : Nat) (tl : TE) : TI := fun σ H R => tl σ H fun x H1 => ∃ a, x = .ref a ∧ (∃ xs, SqL K H1 a xs) ∧ R (Itel K a lo) H1
theorem call_enumL0 {pins : List (Addr × Obj)} {σ : St} {H : Hp} {s : Shared} {R : It → Hp → Prop} {elts : List Expr} {k : Nat} {pos : Pos} {a : Addr} {xs : List V} (I : Inv X pins σ H s) (hq : SqL X.K H a xs) (q : R (Itel X.K a 0) H) :
    wpAny (model X.prog X.w) X.A (call (.type "enumerate") [.ref a]) (fun v s1 => wpAny (model X.prog X.w) X.A (pyIter v) (PIE X pins σ (.Tuple elts k pos) R) X.xe s1) X.xe s := by
  obtain ⟨its, rv, p, hz⟩ := I.list hq
  obtain ⟨⟨c, dct, dt, sl⟩, hl, hc, n, hd⟩ := p.isList
  replace hc : c = .type "list" := hc
  replace hd : dt = .seq its.toArray n := hd
  subst hc hd
  refine callType_new F.called_enumerate (by decide) (F.typeCall_enumerate_1 _) (F.newCall_enumerate_1 _) (fun obj => F.args_object_init_2 obj _) F.entry_enumerate_new (meets_enumerate_newL a its.toArray n dct sl) ⟨hl, ?_⟩
  have hz : (s.heap.push { cls := .type "list_iterator", data := .fields #[.ref a, .int 0 0] }).objs.size = s.heap.objs.size + 1 := Heap.size_push ..
  show _ ∧ _
  refine ⟨⟨_, Heap.get?_push_size _ rfl, rfl⟩, ?_⟩
  rw [hz]
  exact enum_itL (lo := 0) (tk := s.toks) I q
end
end L2
set_option Elab.async false
set_option linter.all false
set_option maxRecDepth 100000
set_option maxHeartbeats 4000000
namespace L2
open PySem PySem.Spec PyProof.Rows
section
variable {X : Cx}
theorem pi_enumL0 {x : Expr} {tx : TE} {p pos tp : Pos} {elts : List Expr} {k : Nat} (hg : Gl X "enumerate") (hm : X.mg "enumerate" = none) (hl : PE X x tx) (hs : starEach [x] X.env = [(false, eval x X.env)] := by rfl) : PI X (.Tuple elts k tp) (.Call (.Name "enumerate" p) [x] [] pos) (iEnumL X.K 0 tx) := by
  intro pins s σ H R I h
  refine Call_ (ld_blt I hg hm boot_enumerate (PyProof.Rows.callWith_type1 (thn ((pa_cons hl pa_nil (by rw [hs]; rfl)) pos pins s σ H (fun vs H1 => match vs with | [v] => ∃ a, v = .ref a ∧ (∃ xs, SqL X.K H1 a xs) ∧ R (Itel X.K a 0) H1 | _ => False) I h) fun us s1 ⟨vs, H1, I1, r1, q1⟩ => ?_) hs rfl))
  cases r1 with
  | nil => exact False.elim q1
  | cons r rr =>
    cases rr with
    | nil =>
      obtain ⟨a, e, ⟨xs, hq⟩, q⟩ := q1
      subst e
      cases r
      exact call_enumL0 I1 hq q
    | cons _ _ => exact False.elim q1
theorem call_enumL1 {pins : List (Addr × Obj)} {σ : St} {H : Hp} {s : Shared} {R : It → Hp → Prop} {elts : List Expr} {k : Nat} {pos : Pos} {a : Addr} {xs : List V} {t : Tok} (I : Inv X pins σ H s) (hq : SqL X.K H a xs) (q : R (Itel X.K a 1) H) :
    wpAny (model X.prog X.w) X.A (call (.type "enumerate") [.ref a] [("start", .int 1 t)]) (fun v s1 => wpAny (model X.prog X.w) X.A (pyIter v) (PIE X pins σ (.Tuple elts k pos) R) X.xe s1) X.xe s := by
  obtain ⟨its, rv, p, hz⟩ := I.list hq
  obtain ⟨⟨c, dct, dt, sl⟩, hl, hc, n, hd⟩ := p.isList
  replace hc : c = .type "list" := hc
  replace hd : dt = .seq its.toArray n := hd
  subst hc hd
  refine callTypeK F.called_enumerate (by decide) (by kernel_rfl) (by kernel_rfl) (fun obj => ?ok) F.entry_enumerate_new (meets_enum_list1 a its.toArray n dct sl t) ⟨hl, ?_⟩
  case ok =>
    unfold argsOk
    rw [signature?_of (id := "object.__init__") (n := ['_', '_', 't', 'i', 'n', 'i', '_', '_']) (o := ['t', 'c', 'e', 'j', 'b', 'o']) (by kernel_rfl) F.owner_object]
    kernel_rfl
  have hz : (s.heap.push { cls := .type "list_iterator", data := .fields #[.ref a, .int 0 0] }).objs.size = s.heap.objs.size + 1 := Heap.size_push ..
  show _ ∧ _
  refine ⟨⟨_, Heap.get?_push_size _ rfl, rfl⟩, ?_⟩
  rw [hz]
  exact enum_itL (lo := 1) (tk := s.toks) I q
theorem pi_enumL1 {x one : Expr} {tx : TE} {p pos tp kp : Pos} {elts : List Expr} {k : Nat} (hg : Gl X "enumerate") (hm : X.mg "enumerate" = none) (hl : PE X x tx) (h1 : PE X one (tC (.int 1))) (hs : starEach [x] X.env = [(false, eval x X.env)] := by rfl)
    (hall : (backToKw pos (keywordEach [⟨some "start", one, kp⟩] X.env)).all (·.1.isSome) = true := by rfl) (hkw : (backToKw pos (keywordEach [⟨some "start", one, kp⟩] X.env)).any (·.1.isNone) = false := by rfl)
    (hks : (backToKw pos (keywordEach [⟨some "start", one, kp⟩] X.env)).filterMap (·.1) = (["start"] : List Str) := by rfl) :
    PI X (.Tuple elts k tp) (.Call (.Name "enumerate" p) [x] [⟨some "start", one, kp⟩] pos) (iEnumL X.K 1 tx) := by
  intro pins s σ H R I h
  refine wpAny_Call_Name_kw (ld_blt I hg hm boot_enumerate (PyProof.Rows.callWith_typeKw (thn ((pa_cons hl pa_nil (by rw [hs]; rfl)) pos pins s σ H (fun vs H1 => match vs with | [v] => ∃ a, v = .ref a ∧ (∃ xs, SqL X.K H1 a xs) ∧ R (Itel X.K a 1) H1 | _ => False) I h) fun us s1 ⟨vs, H1, I1, r1, q1⟩ => ?_) (by rw [hs]; rfl) (by rw [hs]; rfl) hall hkw))
  refine thn ((pk_cons h1 pk_nil) pos pins s1 σ H1 (fun ks H2 => H2 = H1 ∧ ks = [.int 1]) I1 ⟨rfl, rfl⟩) fun ws s2 ⟨zs, H2, I2, rz, e2, ez⟩ => ?_
  subst e2 ez
  cases rz with
  | cons rz1 rz2 =>
    cases rz2
    obtain ⟨t, rfl⟩ := rz1
    rw [hks]
    cases r1 with
    | nil => exact False.elim q1
    | cons r rr =>
      cases rr with
      | nil =>
        obtain ⟨a, e, ⟨xs, hq⟩, q⟩ := q1
        subst e
        cases r
        exact call_enumL1 I2 hq q
      | cons _ _ => exact False.elim q1
/-- a loop over enumerate of a tuple that the turns leave as it is -/
theorem for_enumL {K : PySem.W.Frag} {a : Addr} {lo : Nat} {xs : List V} {g : TG} {tb : TS} {D : Ends} {σ : St} {H : Hp} (Pv : Nat → St → Hp → Prop) (h0 : Pv 0 σ H) (hl : ∀ i σ H', i ≤ xs.length → Pv i σ H' → SqL K H' a xs)
    (hs : ∀ i x p σ H', xs[i]? = some x → Pv i σ H' → H' p = none → g (.ref p) σ (upd H' p (.tup [.int ((lo + i : Nat) : Int), x])) fun σ2 H2 => tb { D with nx := Pv (i + 1), ct := Pv (i + 1), bk := D.nx } σ2 H2) (hd : ∀ σ H', Pv xs.length σ H' → D.nx σ H') :
    ∃ W : Nat → Nat → St → Hp → Prop, (∃ m, W 0 m σ H) ∧ ∀ i m σ H, W i m σ H →
      ((Itel K a lo).stop i H ∧ D.nx σ H) ∨ ((Itel K a lo).go i H ∧ ∃ N : St → Hp → Prop, (∀ σ' H', N σ' H' → ∃ m', m' < m ∧ W (i + 1) m' σ' H') ∧ ∀ x H', (Itel K a lo).yld i H x H' → g x σ H' fun σ2 H2 => tb { D with nx := N, ct := N, bk := D.nx } σ2 H2) := by
  refine ⟨fun i m σ H => m = xs.length - i ∧ i ≤ xs.length ∧ Pv i σ H, ⟨xs.length, by simp, Nat.zero_le _, h0⟩, ?_⟩
  rintro i m σ H ⟨rfl, hi, p⟩
  have q := hl i σ H hi p
  by_cases hlt : i < xs.length
  · refine .inr ⟨⟨xs, xs[i], q, by simp [hlt]⟩, Pv (i + 1), fun σ3 H3 p' => ⟨xs.length - (i + 1), by omega, rfl, hlt, p'⟩, fun v H2 y => ?_⟩
    obtain ⟨pa, x, hn, rfl, rfl, hx⟩ := y
    exact hs i x pa σ _ (hx xs q) p hn
  · have e : i = xs.length := by omega
    subst e
    exact .inl ⟨⟨xs, q, Nat.le_refl _⟩, hd σ H p⟩
/-- a comprehension over enumerate of a tuple -/
theorem comp_enumL {K : PySem.W.Frag} {a l : Addr} {lo : Nat} {xs : List V} {g : TG} {tt : TT} {te : TE} {Q : VK} {σ0 : St} {H0 : Hp} (Pv : Nat → St → Hp → Prop)
    (h0 : Pv 0 σ0 H0) (hl : ∀ i σ H', i ≤ xs.length → Pv i σ H' → SqL K H' a xs)
    (hs : ∀ i x p σ H', xs[i]? = some x → Pv i σ H' → H' p = none → g (.ref p) σ (upd H' p (.tup [.int ((lo + i : Nat) : Int), x])) fun σ3 H3 => tt σ3 H3 fun b H4 => if b = true then te σ3 H4 fun y H5 => ∃ ys, H5 l = some (.lst ys) ∧ ys.length < sizeLine ∧ Pv (i + 1) σ3 (upd H5 l (.lst (ys ++ [y]))) else Pv (i + 1) σ3 H4)
    (hd : ∀ σ H', Pv xs.length σ H' → Q (.ref l) H') : CWant (Itel K a lo) g tt te Q σ0 H0 l := by
  unfold CWant
  refine ⟨fun i m σ H' => m = xs.length - i ∧ i ≤ xs.length ∧ Pv i σ H', ⟨xs.length, by simp, Nat.zero_le _, h0⟩, ?_⟩
  rintro i m σ H' ⟨rfl, hi, p⟩
  have q := hl i σ H' hi p
  by_cases hlt : i < xs.length
  · refine .inr ⟨⟨xs, xs[i], q, by simp [hlt]⟩, Pv (i + 1), fun σ3 H3 p' => ⟨xs.length - (i + 1), by omega, rfl, hlt, p'⟩, fun v H2 y => ?_⟩
    obtain ⟨pa, x, hn, rfl, rfl, hx⟩ := y
    exact hs i x pa σ _ (hx xs q) p hn
  · have e : i = xs.length := by omega
    subst e
    exact .inl ⟨⟨xs, q, Nat.le_refl _⟩, hd σ H' p⟩
end
end L2

set_option Elab.async false
set_option linter.all false
set_option maxRecDepth 100000
set_option maxHeartbeats 4000000
set_option pp.maxSteps 400
/-! ### a list comprehension with two for-clauses, and dict comprehensions over a text -/
namespace L2
open PySem PySem.Spec PyProof.Rows
theorem compTurn2_out (elt t1 i1 t2 i2 : Expr) (scope : Scope) (pos : Pos) (it acc : Value) (env : Env) :
    compTurn (.ListComp elt [⟨t1, i1, [], 0⟩, ⟨t2, i2, [], 0⟩] scope pos) 0 it acc env = (do
      standAt i1.pos
      match ← pyNext it with
      | none => pure (.done .next)
      | some v =>
        letOwnedTupleGo t1 it v
        assign t1 env v
        let x ← eval i2 env
        standAt i2.pos
        let x ← foldedSetIterable i2 env x
        let _ ← runOwn (.compStart (.ListComp elt [⟨t1, i1, [], 0⟩, ⟨t2, i2, [], 0⟩] scope pos) 1 (← holding [x] (pyIter x)) acc env) env
        again (.compLoop (.ListComp elt [⟨t1, i1, [], 0⟩, ⟨t2, i2, [], 0⟩] scope pos) 0 it acc env)) := by rfl
theorem compTurn2_in (elt t1 i1 t2 i2 : Expr) (scope : Scope) (pos : Pos) (it acc : Value) (env : Env) :
    compTurn (.ListComp elt [⟨t1, i1, [], 0⟩, ⟨t2, i2, [], 0⟩] scope pos) 1 it acc env = (do
      standAt i2.pos
      match ← pyNext it with
      | none => pure (.done .next)
      | some v =>
        letOwnedTupleGo t2 it v
        assign t2 env v
        (do let _ ← call (.builtin "list.append") [acc, ← eval elt env])
        again (.compLoop (.ListComp elt [⟨t1, i1, [], 0⟩, ⟨t2, i2, [], 0⟩] scope pos) 1 it acc env)) := by rfl
section
variable {prog : Program} {w : World} {A : Around} {R : Result → Shared → Prop} {s : Shared} {elt t1 i1 t2 i2 : Expr} {scope : Scope} {pos : Pos} {it acc : Value} {env : Env}
theorem codeAny_compStart2 
    (h0 : codeAny (model prog w) A (.compLoop (.ListComp elt [⟨t1, i1, [], 0⟩, ⟨t2, i2, [], 0⟩] scope pos) 1 it acc env) R s)
    (h : wpAny (model prog w) A (pyIter it) (fun it' s' => codeAny (model prog w) A (.compLoop (.ListComp elt [⟨t1, i1, [], 0⟩, ⟨t2, i2, [], 0⟩] scope pos) 1 it' acc env) R s')
      (notedBy (model prog w) A env fun x s' => R (.error x) s') s) :
    codeAny (model prog w) A (.compStart (.ListComp elt [⟨t1, i1, [], 0⟩, ⟨t2, i2, [], 0⟩] scope pos) 1 it acc env) R s := by
  refine codeAny_of_tree ?_
  show wpAny _ _ ((compStart (.ListComp elt [⟨t1, i1, [], 0⟩, ⟨t2, i2, [], 0⟩] scope pos) 1 it acc env).onRaise (fun x => do noteFrame x env; standAt theWindowsPlace)) _ _ s
  refine wpAny_notedAt ?_
  unfold compStart
  show wpAny _ _ (ask >>= _) _ _ s
  refine wpAny_bind (wpAny_askSetting (wpAny_ite ?_))
  split
  · first
      | exact wpAny_bind (wpAny_pure (wpAny_pure (And.intro rfl h0)))
      | exact wpAny_pure (And.intro rfl h0)
  · first
      | exact wpAny_bind (wpAny_rule (wpAny_bind (wpAny_standAt (wpAny_bind (wpAny_mono h (fun it' s' h' => wpAny_pure (And.intro rfl h')) fun _ _ x => x)))))
      | (refine wpAny_bind (wpAny_rule ?_); show wpAny _ _ (standAt i2.pos >>= _) _ _ s; exact wpAny_bind (wpAny_standAt (wpAny_bind (wpAny_mono h (fun it' s' h' => wpAny_pure (And.intro rfl h')) fun _ _ x => x))))
theorem comp2_in_loop (J : Nat → Shared → Prop)
    (turn : ∀ n s, J n s → wpAny (model prog w) A (pyNext it) (fun r s1 => match r with
      | none => R (.ok .next) s1
      | some v => wpAny (model prog w) A (letOwnedTupleGo t2 it v) (fun _ s2 => wpAny (model prog w) A (assign t2 env v) (fun _ s3 =>
          wpAny (model prog w) A (eval elt env) (fun x s5 => wpAny (model prog w) A (call (.builtin "list.append") [acc, x]) (fun _ s6 => ∃ m, m < n ∧ J m s6) (fun _ _ => False) s5) (fun _ _ => False) s3) (fun _ _ => False) s2) (fun _ _ => False) s1) (fun _ _ => False) s)
    (n : Nat) (h : J n s) : codeAny (model prog w) A (.compLoop (.ListComp elt [⟨t1, i1, [], 0⟩, ⟨t2, i2, [], 0⟩] scope pos) 1 it acc env) R s := by
  refine codeAny_loop rfl J (fun k s' hk => ?_) n h
  show wpAny _ A (Sem.onRaise (compTurn (.ListComp elt [⟨t1, i1, [], 0⟩, ⟨t2, i2, [], 0⟩] scope pos) 1 it acc env) (fun x => do noteFrame x env; theTreesLotGoes x)) _ _ s'
  refine wpAny_noted ?_
  rw [compTurn2_in]
  refine wpAny_bind (wpAny_standAt (wpAny_bind (wpAny_mono (turn k s' hk) (fun r s1 q1 => ?_) fun _ _ f => f.elim)))
  cases r with
  | none => exact wpAny_pure q1
  | some v =>
    refine wpAny_bind (wpAny_mono q1 (fun _ s2 q2 => wpAny_bind (wpAny_mono q2 (fun _ s3 q3 => ?_) fun _ _ f => f.elim)) fun _ _ f => f.elim)
    exact wpAny_bind (wpAny_bind (wpAny_mono q3 (fun x s5 q5 => wpAny_bind (wpAny_mono q5 (fun _ s6 q6 => wpAny_pure (wpAny_pure ⟨rfl, q6⟩)) fun _ _ f => f.elim)) fun _ _ f => f.elim))
theorem comp2_loop (hs2 : ∀ x, foldedSetIterable i2 env x = pure x) (J : Nat → Shared → Prop)
    (turn : ∀ n s, J n s → wpAny (model prog w) A (pyNext it) (fun r s1 => match r with
      | none => R (.ok .next) s1
      | some v => wpAny (model prog w) A (letOwnedTupleGo t1 it v) (fun _ s2 => wpAny (model prog w) A (assign t1 env v) (fun _ s3 =>
          wpAny (model prog w) A (eval i2 env) (fun x s4 => wpAny (model prog w) A (pyIter x) (fun jt s5 => codeAny (model prog w) A (.compStart (.ListComp elt [⟨t1, i1, [], 0⟩, ⟨t2, i2, [], 0⟩] scope pos) 1 jt acc env) (fun r s6 => match r with | .ok _ => ∃ m, m < n ∧ J m s6 | .error _ => False) s5) (fun _ _ => False) s4) (fun _ _ => False) s3) (fun _ _ => False) s2) (fun _ _ => False) s1) (fun _ _ => False) s)
    (n : Nat) (h : J n s) : codeAny (model prog w) A (.compLoop (.ListComp elt [⟨t1, i1, [], 0⟩, ⟨t2, i2, [], 0⟩] scope pos) 0 it acc env) R s := by
  refine codeAny_loop rfl J (fun k s' hk => ?_) n h
  show wpAny _ A (Sem.onRaise (compTurn (.ListComp elt [⟨t1, i1, [], 0⟩, ⟨t2, i2, [], 0⟩] scope pos) 0 it acc env) (fun x => do noteFrame x env; theTreesLotGoes x)) _ _ s'
  refine wpAny_noted ?_
  rw [compTurn2_out]
  refine wpAny_bind (wpAny_standAt (wpAny_bind (wpAny_mono (turn k s' hk) (fun r s1 q1 => ?_) fun _ _ f => f.elim)))
  cases r with
  | none => exact wpAny_pure q1
  | some v =>
    refine wpAny_bind (wpAny_mono q1 (fun _ s2 q2 => wpAny_bind (wpAny_mono q2 (fun _ s3 q3 => ?_) fun _ _ f => f.elim)) fun _ _ f => f.elim)
    refine wpAny_bind (wpAny_mono q3 (fun x s4 q4 => wpAny_bind (wpAny_standAt (wpAny_bind (wpAny_of_eq (hs2 x) (wpAny_bind (wpAny_holding (wpAny_mono q4 (fun jt s5 q5 => ?_) fun _ _ f => f.elim))))))) fun _ _ f => f.elim)
    refine wpAny_bind (wpAny_runOwn (codeAny_mono q5 fun r s6 q6 => ?_))
    cases r with
    | ok f => exact wpAny_pure ⟨rfl, q6⟩
    | error e => exact q6.elim
end
/-- the turns of the clause within -/
def CIn (J : It) (g : TG) (te : TE) (l : Addr) (N : St → Hp → Prop) (σ0 : St) (H0 : Hp) : Prop := ∃ W : Nat → Nat → St → Hp → Prop, (∃ m, W 0 m σ0 H0) ∧
  ∀ i m σ' H', W i m σ' H' → (J.stop i H' ∧ N σ' H') ∨ (J.go i H' ∧ ∃ N2 : St → Hp → Prop, (∀ σ3 H3, N2 σ3 H3 → ∃ m', m' < m ∧ W (i + 1) m' σ3 H3) ∧ ∀ x H2, J.yld i H' x H2 → g x σ' H2 fun σ3 H3 =>
    te σ3 H3 fun y H5 => ∃ xs, H5 l = some (.lst xs) ∧ xs.length < sizeLine ∧ N2 σ3 (upd H5 l (.lst (xs ++ [y]))))
@[irreducible] def C2Want (J : It) (g : TG) (wi2 : TI) (g2 : TG) (te : TE) (Q : VK) (σ0 : St) (H0 : Hp) (l : Addr) : Prop := ∃ W : Nat → Nat → St → Hp → Prop, (∃ m, W 0 m σ0 H0) ∧
  ∀ i m σ' H', W i m σ' H' → (J.stop i H' ∧ Q (.ref l) H') ∨ (J.go i H' ∧ ∃ N : St → Hp → Prop, (∀ σ3 H3, N σ3 H3 → ∃ m', m' < m ∧ W (i + 1) m' σ3 H3) ∧ ∀ x H2, J.yld i H' x H2 → g x σ' H2 fun σ3 H3 => wi2 σ3 H3 fun J2 H4 => CIn J2 g2 te l N σ3 H4)
/-- [elt for tg in iter for tg2 in iter2] -/
def tComp2 (wi : TI) (src : List (Option Nat)) (g : TG) (wi2 : TI) (g2 : TG) (te : TE) : TE := fun σ H Q => wi σ H fun J H1 => ∀ l, H1 l = none → C2Want J g wi2 g2 te Q (srcSt src σ) (upd H1 l (.lst [])) l
theorem comp2_in {Y : Cx} (hE : ∀ v s, Y.xe v s → False) (hc : Y.calm = true) {elt t1 i1 t2 i2 : Expr} {sc : Scope} {pos : Pos} {l it : Addr} {fp : List Addr} {tn : Nat → Heap → Prop} {J : It} {g : TG} {te : TE} {N : St → Hp → Prop} {pins : List (Addr × Obj)} {σ : St} {H : Hp} {s : Shared}
    (T : Turn Y.prog Y.w Y.K t2 J fp it tn) (hg : PG Y t2 g) (he : PE Y elt te) (I : Inv Y pins σ H s) (st : tn 0 s.heap) (f : ∀ b ∈ fp, FpOk Y pins H b) (w : CIn J g te l N σ H) :
    codeAny (model Y.prog Y.w) Y.A (.compStart (.ListComp elt [⟨t1, i1, [], 0⟩, ⟨t2, i2, [], 0⟩] sc pos) 1 (.ref it) (.ref l) Y.env) (fun r s' => match r with | .ok _ => ∃ σ' H', Inv Y pins σ' H' s' ∧ N σ' H' | .error _ => False) s := by
  obtain ⟨W, ⟨m0, w0⟩, turn⟩ := w
  have loop : codeAny (model Y.prog Y.w) Y.A (.compLoop (.ListComp elt [⟨t1, i1, [], 0⟩, ⟨t2, i2, [], 0⟩] sc pos) 1 (.ref it) (.ref l) Y.env) (fun r s' => match r with | .ok _ => ∃ σ' H', Inv Y pins σ' H' s' ∧ N σ' H' | .error _ => False) s := by
    refine comp2_in_loop (fun n s' => ∃ i σ' H', Inv Y pins σ' H' s' ∧ tn i s'.heap ∧ (∀ b ∈ fp, H' b = none) ∧ W i n σ' H') ?_ m0 ⟨0, σ, H, I, st, fun b hb => (f b hb).1, w0⟩
    rintro n s3 ⟨i, σ3, H3, I3, st3, fr3, w3⟩
    have stat : ∀ {H' : Hp}, (∀ b ∈ fp, H' b = none) → ∀ b ∈ fp, FpOk Y pins H' b := fun hn b hb => ⟨hn b hb, (f b hb).2⟩
    rcases turn i n σ3 H3 w3 with ⟨stop, qn⟩ | ⟨go, N2, hN, step⟩
    · refine thn (T.done Y rfl rfl rfl hc i pins s3 σ3 H3 _ I3 (stat fr3) st3 stop) fun r s4 ⟨hr, I4⟩ => ?_
      subst hr
      exact ⟨σ3, H3, I4, qn⟩
    · refine thn (T.item Y rfl rfl rfl hc i pins s3 σ3 H3 _ I3 (stat fr3) st3 go) fun r s4 ⟨u, hr, h4⟩ => ?_
      subst hr
      refine thn h4 fun _ s5 ⟨x, H5, I5, r5, y5, st5, fr5⟩ => ?_
      have I5' := I5.pinned (stat fr5) (T.obj _ _ st5)
      have again : ∀ {σ7 : St} {H7 : Hp} {s7 : Shared}, Inv Y (pins ++ pinsAt fp s5.heap) σ7 H7 s7 → N2 σ7 H7 → ∃ m, m < n ∧ ∃ i σ' H', Inv Y pins σ' H' s7 ∧ tn i s7.heap ∧ (∀ b ∈ fp, H' b = none) ∧ W i m σ' H' := fun {σ7 H7 s7} I7 n7 => by
        obtain ⟨m', hm, w7⟩ := hN σ7 H7 n7
        refine ⟨m', hm, i + 1, σ7, H7, I7.unpinned, T.keep _ _ _ st5 fun b hb o e => (I7.pin (b, o) (List.mem_append_right _ (List.mem_append_right _ (mem_pinsAt hb e)))).1, fun b hb => ?_, w7⟩
        obtain ⟨o, e, d⟩ := T.obj _ _ st5 b hb
        exact (I7.pin (b, o) (List.mem_append_right _ (List.mem_append_right _ (mem_pinsAt hb e)))).2.1
      refine wpAny_mono (hg _ s5 σ3 H5 x u _ I5' r5 (step x H5 y5)) (fun _ s6 ⟨σ6, H6, I6, q6⟩ => ?_) fun v s h => (hE v s h).elim
      refine wpAny_mono (he _ s6 σ6 H6 _ I6 q6) (fun y s9 ⟨yv, H9, J9, r9, xs, hl9, hz9, q9⟩ => ?_) fun v s h => (hE v s h).elim
      refine wpAny_mono (mt_append _ s9 σ6 H9 (.ref l) [yv] (.ref l) [y] (fun _ H' => N2 σ6 H') J9 rfl (.cons r9 .nil) ⟨_, xs, yv, rfl, rfl, hl9, hz9, q9⟩) (fun _ s10 ⟨_, H10, J10, _, q10⟩ => ?_) fun v s h => (hE v s h).elim
      exact again J10 q10
  exact codeAny_compStart2 loop (T.self Y.A 0 _ _ _ st loop)
theorem comp2_core {X : Cx} {N' : List Str} {src : List (Option Nat)} {sc : Scope} {elt tg iter t2 i2 : Expr} {pos pos' : Pos} {wi wi2 : TI} {g g2 : TG} {te : TE} {use : Option (Value → Sem Unit)} {R : Value → Shared → Prop} (hc : X.calm = true) (S : CScope X N' src sc)
    (hi : PI X tg iter wi) (hg : ∀ s3 H3 fp pn, PG (cxC X N' sc s3 H3 fp pn) tg g) (hi2 : ∀ s3 H3 fp pn, PI (cxC X N' sc s3 H3 fp pn) t2 i2 wi2) (hg2 : ∀ s3 H3 fp pn, PG (cxC X N' sc s3 H3 fp pn) t2 g2) (he : ∀ s3 H3 fp pn, PE (cxC X N' sc s3 H3 fp pn) elt te)
    (hs : ∀ x, foldedSetIterable iter X.env x = pure x) (hs2 : ∀ s3 H3 fp pn x, foldedSetIterable i2 (cxC X N' sc s3 H3 fp pn).env x = pure x) {pins : List (Addr × Obj)} {s : Shared} {σ : St} {H : Hp} {Q : VK} (I : Inv X pins σ H s) (h : tComp2 wi src g wi2 g2 te σ H Q)
    (fin : ∀ s3 H3 fp σ4 H4 s5 l, Inv X pins σ H3 s3 → (∀ b ∈ fp, FpOk X pins H3 b) → Inv (cxC X N' sc s3 H3 fp (X.pn ++ pins)) [] σ4 H4 s5 → Q (.ref l) H4 →
      compPost (model X.prog X.w) X.A X.xe use R (.ref l) s3.heap.objs.size (.ok .next) s5) :
    wpAny (model X.prog X.w) X.A (comprehension (.ListComp elt [⟨tg, iter, [], 0⟩, ⟨t2, i2, [], 0⟩] sc pos) sc X.env pos' (newList []) false (eval iter X.env) use) R X.xe s := by
  refine wpAny_comprehension_free (use := use) (cl := clOf X.env sc.names []) rfl hs (closure_is fun p hp e => I.ok.has p.1 (S.fv p hp e)) S.kind S.loc ?_
  refine thn (hi pins s σ H _ I h) fun v s1 h1 => thn h1 fun itv s2 h2 => ?_
  obtain ⟨it, fp, tn, J, H2, rfl, I2, T, st2, f2, q⟩ := h2
  have q' := q s2.heap.objs.size (I2.hok.fresh (Nat.le_refl _))
  unfold C2Want at q'
  obtain ⟨W, ⟨m0, w0⟩, turn⟩ := q'
  refine wpAny_newObj_type (wpAny_newFunctionEnv S.nocell (by intro y hy; simp at hy) (fun ha hns hsb => ?_) S.kind)
  have I3 : Inv X pins σ (upd H2 s2.heap.objs.size (.lst [])) { s2 with heap := s2.heap.push { cls := .type "list", dict := none, data := .seq ([] : List Value).toArray } } :=
    I2.laid (t' := s2.toks) (fun b u e => Heap.get?_push_of_some _ e) (Nat.le_refl _) ⟨Nat.zero_le _, [], 0, .nil, Heap.get?_push_size _ rfl⟩
  have hfl : ∀ b ∈ fp, b < s2.heap.objs.size := fun b hb => by
    obtain ⟨o, e, _⟩ := T.obj 0 _ st2 b hb
    exact Heap.lt_size e
  have f3 : ∀ b ∈ fp, FpOk X pins (upd H2 s2.heap.objs.size (.lst [])) b := fun b hb => ⟨by rw [upd_ne (Nat.ne_of_lt (hfl b hb))]; exact (f2 b hb).1, (f2 b hb).2⟩
  generalize hs3 : ({ s2 with heap := s2.heap.push { cls := .type "list", dict := none, data := .seq ([] : List Value).toArray } } : Shared) = s3 at *
  have hsz : s2.heap.objs.size < s3.heap.objs.size := by rw [← hs3]; show s2.heap.objs.size < (s2.heap.push _).objs.size; rw [Heap.size_push]; exact Nat.lt_succ_self _
  have kp : ∀ b o, s3.heap.get? b = some o → ha.get? b = some o := fun b o e => hsb.extBut b o (Nat.ne_of_lt (Heap.lt_size e)) (Heap.get?_push_of_some _ e)
  have st3 : tn 0 ha := T.keep 0 _ _ st2 fun b hb o e => kp b o (by rw [← hs3]; exact Heap.get?_push_of_some _ e)
  have I4 : Inv (cxC X N' sc s3 (upd H2 s2.heap.objs.size (.lst [])) fp (X.pn ++ pins)) [] (srcSt src σ) (upd H2 s2.heap.objs.size (.lst [])) { s3 with heap := ha, toks := s3.toks + ([] : List (Str × Value)).length } :=
    cx_start S I3 f3 (fun b hb => Nat.lt_trans (hfl b hb) hsz) hns kp
  have loop : codeAny (model X.prog X.w) X.A (.compLoop (.ListComp elt [⟨tg, iter, [], 0⟩, ⟨t2, i2, [], 0⟩] sc pos) 0 (.ref it) (.ref s2.heap.objs.size) (compEnvC sc (clOf X.env sc.names []) s3.heap.objs.size X.env))
      (compPost (model X.prog X.w) X.A X.xe use R (.ref s2.heap.objs.size) s3.heap.objs.size) { s3 with heap := ha, toks := s3.toks + ([] : List (Str × Value)).length } := by
    refine comp2_loop (hs2 s3 (upd H2 s2.heap.objs.size (.lst [])) fp (X.pn ++ pins)) (fun n s' => ∃ i σ' H', Inv (cxC X N' sc s3 (upd H2 s2.heap.objs.size (.lst [])) fp (X.pn ++ pins)) [] σ' H' s' ∧ tn i s'.heap ∧ (∀ b ∈ fp, H' b = none) ∧ W i n σ' H') ?_ m0 ⟨0, _, _, I4, st3, fun b hb => (f3 b hb).1, w0⟩
    rintro n s4 ⟨i, σ4, H4, J4, st4, fr4, w4⟩
    have stat : ∀ {H' : Hp}, (∀ b ∈ fp, H' b = none) → ∀ b ∈ fp, FpOk (cxC X N' sc s3 (upd H2 s2.heap.objs.size (.lst [])) fp (X.pn ++ pins)) [] H' b := fun hn b hb =>
      ⟨hn b hb, (I4.ok.exf b hb).1, I4.ok.exfs b hb, .inl hb, fun x c e => (I4.ok.exf b hb).2 x c e, fun p hp => (f3 b hb).2.2.2.2.2 p ((List.mem_append.mp hp).elim id fun z => by cases z)⟩
    rcases turn i n σ4 H4 w4 with ⟨stop, qn⟩ | ⟨go, N, hN, step⟩
    · refine thn (T.done (cxC X N' sc s3 (upd H2 s2.heap.objs.size (.lst [])) fp (X.pn ++ pins)) rfl rfl rfl hc i [] s4 σ4 H4 _ J4 (stat fr4) st4 stop) fun r s5 ⟨hr, J5⟩ => ?_
      subst hr
      exact fin s3 _ fp σ4 H4 s5 _ I3 f3 J5 qn
    · refine thn (T.item (cxC X N' sc s3 (upd H2 s2.heap.objs.size (.lst [])) fp (X.pn ++ pins)) rfl rfl rfl hc i [] s4 σ4 H4 _ J4 (stat fr4) st4 go) fun r s5 ⟨u, hr, h5⟩ => ?_
      subst hr
      refine thn h5 fun _ s6 ⟨x, H6, J6, r6, y6, st6, fr6⟩ => ?_
      have J6' := J6.pinned (stat fr6) (T.obj _ _ st6)
      have back : ∀ {σ7 : St} {H7 : Hp} {s7 : Shared}, Inv (cxC X N' sc s3 (upd H2 s2.heap.objs.size (.lst [])) fp (X.pn ++ pins)) ([] ++ pinsAt fp s6.heap) σ7 H7 s7 → N σ7 H7 →
          ∃ m', m' < n ∧ ∃ i σ' H', Inv (cxC X N' sc s3 (upd H2 s2.heap.objs.size (.lst [])) fp (X.pn ++ pins)) [] σ' H' s7 ∧ tn i s7.heap ∧ (∀ b ∈ fp, H' b = none) ∧ W i m' σ' H' := fun {σ7 H7 s7} J7 w7 => by
        obtain ⟨m', hm, w7⟩ := hN _ _ w7
        have pinned : ∀ b ∈ fp, ∀ o, s6.heap.get? b = some o → s7.heap.get? b = some o ∧ H7 b = none := fun b hb o e => by
          have := J7.pin (b, o) (List.mem_append_right _ (List.mem_append_right _ (mem_pinsAt hb e)))
          exact ⟨this.1, this.2.1⟩
        refine ⟨m', hm, i + 1, σ7, H7, J7.unpinned, T.keep _ _ _ st6 fun b hb o e => (pinned b hb o e).1, fun b hb => ?_, w7⟩
        obtain ⟨o, e, _⟩ := T.obj _ _ st6 b hb
        exact (pinned b hb o e).2
      refine thn (hg s3 _ fp _ _ s6 σ4 H6 x u _ J6' r6 (step x H6 y6)) fun _ s7 ⟨σ7, H7, J7, q7⟩ => ?_
      refine thn (hi2 s3 _ fp _ _ s7 σ7 H7 _ J7 q7) fun v s8 q8 => thn q8 fun jt s9 q9 => ?_
      obtain ⟨it2, fp2, tn2, J2, H9, rfl, I9, T2, st9, f9, q9⟩ := q9
      refine codeAny_mono (comp2_in (Y := cxC X N' sc s3 (upd H2 s2.heap.objs.size (.lst [])) fp (X.pn ++ pins)) (fun _ _ h => h) hc T2 (hg2 s3 _ fp _) (he s3 _ fp _) I9 st9 f9 q9) fun r s10 q10 => ?_
      cases r with
      | ok f => obtain ⟨σ', H', I', n'⟩ := q10; exact back I' n'
      | error e => exact q10
  exact codeAny_compStart_list loop (T.self X.A 0 _ _ _ st3 loop)
theorem pe_comp2 {X : Cx} {N' : List Str} {src : List (Option Nat)} {sc : Scope} {elt tg iter t2 i2 : Expr} {pos : Pos} {wi wi2 : TI} {g g2 : TG} {te : TE} (hc : X.calm = true) (S : CScope X N' src sc)
    (hi : PI X tg iter wi) (hg : ∀ s3 H3 fp pn, PG (cxC X N' sc s3 H3 fp pn) tg g) (hi2 : ∀ s3 H3 fp pn, PI (cxC X N' sc s3 H3 fp pn) t2 i2 wi2) (hg2 : ∀ s3 H3 fp pn, PG (cxC X N' sc s3 H3 fp pn) t2 g2) (he : ∀ s3 H3 fp pn, PE (cxC X N' sc s3 H3 fp pn) elt te)
    (hs : ∀ x, foldedSetIterable iter X.env x = pure x := by intro _; rfl) (hs2 : ∀ s3 H3 fp pn x, foldedSetIterable i2 (cxC X N' sc s3 H3 fp pn).env x = pure x := by intros; rfl) : PE X (.ListComp elt [⟨tg, iter, [], 0⟩, ⟨t2, i2, [], 0⟩] sc pos) (tComp2 wi src g wi2 g2 te) := by
  intro pins s σ H Q I h
  rw [eval_ListComp]
  refine comp2_core (use := none) hc S hi hg hi2 hg2 he hs hs2 I h fun s3 H3 fp σ4 H4 s5 l I3 f3 J5 q => ?_
  obtain ⟨m, hn, _⟩ := J5.loc
  exact ⟨m, hn, fun h' sb => ⟨.ref l, H4, cx_end I3 f3 J5 sb, rfl, q⟩⟩
/-- the clause within goes over a list that its turns leave as it is -/
theorem cin_list {K : PySem.W.Frag} {a l : Addr} {xs : List V} {g : TG} {te : TE} {N : St → Hp → Prop} {σ0 : St} {H0 : Hp} (Pv : Nat → St → Hp → Prop)
    (h0 : Pv 0 σ0 H0) (hl : ∀ i σ H', i ≤ xs.length → Pv i σ H' → SqL K H' a xs)
    (hs : ∀ i x σ H', xs[i]? = some x → Pv i σ H' → g x σ H' fun σ3 H3 => te σ3 H3 fun y H5 => ∃ ys, H5 l = some (.lst ys) ∧ ys.length < sizeLine ∧ Pv (i + 1) σ3 (upd H5 l (.lst (ys ++ [y]))))
    (hd : ∀ σ H', Pv xs.length σ H' → N σ H') : CIn (Itl K a) g te l N σ0 H0 := by
  refine ⟨fun i m σ H' => m = xs.length - i ∧ i ≤ xs.length ∧ Pv i σ H', ⟨xs.length, by simp, Nat.zero_le _, h0⟩, ?_⟩
  rintro i m σ H' ⟨rfl, hi, p⟩
  have q := hl i σ H' hi p
  by_cases hlt : i < xs.length
  · refine .inr ⟨⟨xs, xs[i], q, by simp [hlt]⟩, Pv (i + 1), fun σ3 H3 p' => ⟨xs.length - (i + 1), by omega, rfl, hlt, p'⟩, fun v H2 y => ?_⟩
    obtain ⟨rfl, hx⟩ := y
    exact hs i v σ _ (hx xs q) p
  · have e : i = xs.length := by omega
    subst e
    exact .inl ⟨⟨xs, q, Nat.le_refl _⟩, hd σ H' p⟩
/-- over enumerate of a list, and within each turn over what wi2 tells -/
theorem comp2_enumL {K : PySem.W.Frag} {a l : Addr} {lo : Nat} {xs : List V} {g : TG} {wi2 : TI} {g2 : TG} {te : TE} {Q : VK} {σ0 : St} {H0 : Hp} (Pv : Nat → St → Hp → Prop)
    (h0 : Pv 0 σ0 H0) (hl : ∀ i σ H', i ≤ xs.length → Pv i σ H' → SqL K H' a xs)
    (hs : ∀ i x p σ H', xs[i]? = some x → Pv i σ H' → H' p = none → g (.ref p) σ (upd H' p (.tup [.int ((lo + i : Nat) : Int), x])) fun σ3 H3 => wi2 σ3 H3 fun J2 H4 => CIn J2 g2 te l (Pv (i + 1)) σ3 H4)
    (hd : ∀ σ H', Pv xs.length σ H' → Q (.ref l) H') : C2Want (Itel K a lo) g wi2 g2 te Q σ0 H0 l := by
  unfold C2Want
  refine ⟨fun i m σ H' => m = xs.length - i ∧ i ≤ xs.length ∧ Pv i σ H', ⟨xs.length, by simp, Nat.zero_le _, h0⟩, ?_⟩
  rintro i m σ H' ⟨rfl, hi, p⟩
  have q := hl i σ H' hi p
  by_cases hlt : i < xs.length
  · refine .inr ⟨⟨xs, xs[i], q, by simp [hlt]⟩, Pv (i + 1), fun σ3 H3 p' => ⟨xs.length - (i + 1), by omega, rfl, hlt, p'⟩, fun v H2 y => ?_⟩
    obtain ⟨pa, x, hn, rfl, rfl, hx⟩ := y
    exact hs i x pa σ _ (hx xs q) p hn
  · have e : i = xs.length := by omega
    subst e
    exact .inl ⟨⟨xs, q, Nat.le_refl _⟩, hd σ H' p⟩
/-- a dict comprehension over a text -/
theorem dcomp_str {z : Str} {l : Addr} {g : TG} {tt : TT} {tk tv : TE} {Q : VK} {σ0 : St} {H0 : Hp} (Pv : Nat → St → Hp → Prop) (h0 : Pv 0 σ0 H0)
    (hs : ∀ i c σ H', z.cps[i]? = some c → Pv i σ H' → g (.str ⟨#[c]⟩) σ H' fun σ3 H3 => tt σ3 H3 fun b H4 => if b = true then tk σ3 H4 fun y H5 => tv σ3 H5 fun v H6 => ∃ (kvs : List (Key × V)) (k : Key), H6 l = some (.dK kvs) ∧ y = kV k ∧ kvs.length < sizeLine ∧ Pv (i + 1) σ3 (upd H6 l (.dK (putK kvs k v))) else Pv (i + 1) σ3 H4)
    (hd : ∀ σ H', Pv z.cps.size σ H' → Q (.ref l) H') : DWant (Its z) g tt tk tv Q σ0 H0 l := by
  unfold DWant
  refine ⟨fun i m σ H' => m = z.cps.size - i ∧ i ≤ z.cps.size ∧ Pv i σ H', ⟨z.cps.size, by simp, Nat.zero_le _, h0⟩, ?_⟩
  rintro i m σ H' ⟨rfl, hi, p⟩
  by_cases hlt : i < z.cps.size
  · refine .inr ⟨hlt, Pv (i + 1), fun σ3 H3 p' => ⟨z.cps.size - (i + 1), by omega, rfl, hlt, p'⟩, fun v H2 y => ?_⟩
    obtain ⟨rfl, c, hc, rfl⟩ := y
    exact hs i c σ _ hc p
  · have e : i = z.cps.size := by omega
    subst e
    exact .inl ⟨rfl, hd σ H' p⟩
end L2

set_option Elab.async false
set_option linter.all false
set_option maxRecDepth 100000
set_option maxHeartbeats 4000000
set_option pp.maxSteps 400
/-! ### a name bound to a dict comprehension on its own row -/
namespace L2
open PySem PySem.Spec PyProof.Rows
/-- name = {k: v for tg in iter if ..} -/
theorem ps_setDC {X : Cx} {N' : List Str} {src : List (Option Nat)} {sc : Scope} {kx vx tg iter : Expr} {ifs : List Expr} {pos spos px : Pos} {wi : TI} {g : TG} {tt : TT} {tk tv : TE} {i : Nat} {x : Str} (hN : X.N.Nodup) (hi0 : X.N[i]? = some x) (hx : Loc X.env.scope x) (hc : X.calm = true) (S : CScope X N' src sc)
    (hi : PI X tg iter wi) (hg : ∀ s3 H3 fp pn, PG (cxC X N' sc s3 H3 fp pn) tg g) (ht : ∀ s3 H3 fp pn, PF (cxC X N' sc s3 H3 fp pn) ifs tt) (hk : ∀ s3 H3 fp pn, PE (cxC X N' sc s3 H3 fp pn) kx tk) (hv : ∀ s3 H3 fp pn, PE (cxC X N' sc s3 H3 fp pn) vx tv)
    (hsw : swapsWith (.DictComp kx vx [⟨tg, iter, ifs, 0⟩] sc pos) (some (.Name x px)) spos.line X.env = pure true := by rfl) (hs : ∀ x, foldedSetIterable iter X.env x = pure x := by intro _; rfl)
    (hf : X.fn x = true ∨ X.env.scope.names.lookup x = some .local := by first | exact .inl rfl | exact .inr rfl | assumption) :
    PS X (.Assign [.Name x px] (.DictComp kx vx [⟨tg, iter, ifs, 0⟩] sc pos) spos) (tAsg (tDComp wi src g tt tk tv) (gName i)) := by
  intro pins s σ H D I h
  rw [exec_Assign_Name_used _ _ _ _ hsw]
  refine wpAny_bind (wpAny_standAt (wpAny_bind ?_))
  show wpAny _ X.A (do let _ ← comprehension (.DictComp kx vx [⟨tg, iter, ifs, 0⟩] sc pos) sc X.env _ newDict false (eval iter X.env) (some (assign (.Name x px) X.env))) _ _ s
  refine wpAny_bind (thn (compd_core (R := fun _ s' => SP X pins D .next s') hc S hi hg ht hk hv hs I h fun s3 H3 fp σ4 H4 s5 l I3 f3 J5 q => ?_) fun _ s' hq => wpAny_pure (wpAny_pure hq))
  obtain ⟨m, ⟨oC, es, ep, hoC, r⟩, _⟩ := J5.loc
  have I6 : Inv X pins σ H4 { s5 with heap := s5.heap } := cx_end I3 f3 J5 (Heap.SameBut.refl _ _)
  have hCn : H4 s3.heap.objs.size = none := J5.free
  have neL : s3.heap.objs.size ≠ X.env.locals := Nat.ne_of_gt I3.lt
  have ndat : ∀ v, oC.data ≠ .cell v := fun v z => by rw [r.1] at z; cases z
  have I7 : Inv X (pins ++ [(s3.heap.objs.size, oC)]) σ H4 s5 := I6.pins_of fun p hp => (List.mem_append.mp hp).elim (fun z => I6.pin p (List.mem_append_right _ z)) fun z => by
    cases List.mem_singleton.mp z
    exact ⟨hoC, hCn, neL, I3.nofs (Nat.le_refl _), ndat⟩
  show wpAny _ X.A (assign (.Name x px) X.env (.ref l)) _ _ s5
  refine wpAny_assign_Name (store_ok (v := .ref l) I7 hN hi0 hx rfl (fun s6 I8 => ?_) hf)
  have k8 := (I8.pin (s3.heap.objs.size, oC) (List.mem_append_right _ (List.mem_append_right _ (List.mem_singleton.mpr rfl)))).1
  refine ⟨m, ⟨oC, es, ep, k8, r⟩, fun h' sb => ⟨_, H4, ?_, q⟩⟩
  have I9 := I8.unpinned
  refine I9.turned (t' := s6.toks) (fun b o hb e => sb.extBut b o hb e) hCn neL (.inr I3.sz) (fun y c e z => ?_) (fun p hp z => ?_)
  · obtain ⟨v, o, ho, _⟩ := I3.cell y c e
    exact absurd (Heap.lt_size ho) (by rw [z]; exact Nat.lt_irrefl _)
  · have := (I3.pin p hp).1
    exact absurd (Heap.lt_size this) (by rw [z]; exact Nat.lt_irrefl _)
end L2

set_option Elab.async false
set_option linter.all false
set_option maxRecDepth 100000
set_option maxHeartbeats 4000000
set_option pp.maxSteps 400
/-! ### the same rules, a new list given by what is true of the heap -/
namespace L2
open PySem PySem.Spec PyProof.Rows
def rCatS : R2 := fun x y H Q => ∃ l b xs zs, x = .ref l ∧ y = .ref b ∧ H l = some (.lst xs) ∧ H b = some (.lst zs) ∧ xs.length + zs.length ≤ sizeLine ∧ ∀ p H', H p = none → H' p = some (.lst (xs ++ zs)) → Same H H' → Q (.ref p) H'
def rSlS (K : PySem.W.Frag) : V → Option Int → Option Int → Hp → VK → Prop := fun x lo hi H Q => ∃ a xs, x = .ref a ∧ SqL K H a xs ∧ ∀ p H', H p = none → H' p = some (.lst (cutV xs lo hi)) → Same H H' → Q (.ref p) H'
def rLstS (K : PySem.W.Frag) : List V → Hp → VK → Prop := fun xs H Q => ∃ p ys, xs = [.ref p] ∧ (SqL K H p ys ∨ SqT K H p ys) ∧ ∀ l H', H l = none → H' l = some (.lst ys) → Same H H' → Q (.ref l) H'
def tLstS (t : TA) : TE := fun σ H Q => t σ H fun xs H1 => xs.length ≤ sizeLine ∧ ∀ p H', H1 p = none → H' p = some (.lst xs) → Same H1 H' → Q (.ref p) H'
section
variable {X : Cx}
theorem op_catS : OpR X (binaryOp .Add) rCatS := by
  intro pins s σ H x y v u Q I rx ry h
  obtain ⟨l, b, xs, zs, e1, e2, h1, h2, hz, q⟩ := h
  exact op_cat pins s σ H x y v u Q I rx ry ⟨l, b, xs, zs, e1, e2, h1, h2, hz, fun p hp => q p _ hp upd_same (same_new hp _)⟩
theorem sl_listS : SlR X (rSlS X.K) := by
  intro pins s σ H x v vl vu lo hi sl Q I rx hs pl pu h
  obtain ⟨a, xs, e1, hx, q⟩ := h
  exact sl_list pins s σ H x v vl vu lo hi sl Q I rx hs pl pu ⟨a, xs, e1, hx, fun p hp => q p _ hp upd_same (same_new hp _)⟩
theorem call_list_ofS : CallR X (.type "list") (rLstS X.K) := by
  intro pins s σ H xs us Q I r h
  obtain ⟨p, ys, e1, hq, q⟩ := h
  exact call_list_of pins s σ H xs us Q I r ⟨p, ys, e1, hq, fun l hl => q l _ hl upd_same (same_new hl _)⟩
theorem pe_lstS {es : List Expr} {t : TA} {pos : Pos} (h : PA X es t) : PE X (.List es pos) (tLstS t) := by
  intro pins s σ H Q I hq
  refine wpAny_List_spliced (thn (h pos pins s σ H _ I hq) fun us s1 ⟨xs, H1, I1, r, z, q⟩ => ⟨by rw [← r.length]; exact z, ?_⟩)
  have hf : H1 s1.heap.objs.size = none := I1.hok.fresh (Nat.le_refl _)
  refine ⟨.ref s1.heap.objs.size, upd H1 s1.heap.objs.size (.lst xs), I1.laid (t' := s1.toks) (fun b u e => Heap.get?_push_of_some _ e) (Nat.le_refl _) ?_, rfl, q _ _ hf upd_same (same_new hf _)⟩
  exact ⟨z, us, 0, r, Heap.get?_push_size _ rfl⟩
end
end L2

set_option Elab.async false
set_option linter.all false
set_option maxRecDepth 100000
set_option maxHeartbeats 4000000
namespace K36
open PySem L2
def top (i : Nat) : Stmt := PySem.Challenge.pw_warnloop_k36_one_cell_spoilt.main.body.getD i (.Pass ⟨0, 0, 0, 0⟩)
theorem bt_isinstance : bootBuiltins "isinstance" = some (.builtin "isinstance") := by decide +kernel
theorem bt_int : bootBuiltins "int" = some (.type "int") := by decide +kernel
theorem bt_bool : bootBuiltins "bool" = some (.type "bool") := by decide +kernel
theorem bt_list : bootBuiltins "list" = some (.type "list") := by decide +kernel
theorem bt_str : bootBuiltins "str" = some (.type "str") := by decide +kernel
theorem bt_len : bootBuiltins "len" = some (.builtin "len") := by decide +kernel
theorem bt_all : bootBuiltins "all" = some (.builtin "all") := by decide +kernel
theorem bt_abs : bootBuiltins "abs" = some (.builtin "abs") := by decide +kernel
theorem bt_max : bootBuiltins "max" = some (.builtin "max") := by decide +kernel
theorem bt_sum : bootBuiltins "sum" = some (.builtin "sum") := by decide +kernel
theorem bt_ord : bootBuiltins "ord" = some (.builtin "ord") := by decide +kernel
theorem bt_min : bootBuiltins "min" = some (.builtin "min") := by decide +kernel
/-- the built-in names that the text does not bind -/
structure Nm (mg : Str → Option Value) : Prop where
  isinstance : mg "isinstance" = none
  int : mg "int" = none
  bool : mg "bool" = none
  tuple : mg "tuple" = none
  list : mg "list" = none
  str : mg "str" = none
  len : mg "len" = none
  all : mg "all" = none
  abs : mg "abs" = none
  max : mg "max" = none
  min : mg "min" = none
  range : mg "range" = none
  sorted : mg "sorted" = none
  any : mg "any" = none
  sum : mg "sum" = none
  enumerate : mg "enumerate" = none
  zip : mg "zip" = none
  reversed : mg "reversed" = none
  dict : mg "dict" = none
  ord : mg "ord" = none
abbrev s_l_bag : Stmt := top 19
abbrev p_l_bag : List Str := ["_law_script", "_law_k"]
theorem sc_l_bag : FnScope ["_law_script", "_law_k", "_law_cell"] p_l_bag (defScope s_l_bag) := ⟨rfl, rfl, rfl, by decide +kernel, rfl, by decide +kernel, by decide +kernel⟩
abbrev s_l_take : Stmt := top 20
abbrev p_l_take : List Str := ["_law_bag_here", "_law_many"]
theorem sc_l_take : FnScope ["_law_bag_here", "_law_many", "_law_digit", "_law_primes", "_law_step", "_law_base", "_law_found"] p_l_take (defScope s_l_take) := ⟨rfl, rfl, rfl, by decide +kernel, rfl, by decide +kernel, by decide +kernel⟩
/-- a bag of draws: three whole numbers, the last one (how often it was drawn by the second) at most n -/
def BagAt (H : Hp) (b : Addr) (n : Nat) : Prop := ∃ x y z : Int, H b = some (.lst [.int x, .int y, .int z]) ∧ 0 ≤ x ∧ 0 ≤ y ∧ y ≤ 4294967296 ∧ 0 ≤ z ∧ z ≤ n
theorem BagAt.same {H H' : Hp} {b : Addr} {n : Nat} (h : BagAt H b n) (s : Same H H') : BagAt H' b n := by
  obtain ⟨x, y, z, e, r⟩ := h
  exact ⟨x, y, z, s _ _ e, r⟩
theorem BagAt.mono {H : Hp} {b : Addr} {n m : Nat} (h : BagAt H b n) (l : n ≤ m) : BagAt H b m := by
  obtain ⟨x, y, z, e, h1, h2, h3, h4, h5⟩ := h
  exact ⟨x, y, z, e, h1, h2, h3, h4, by omega⟩
theorem BagAt.nb {H : Hp} {b p : Addr} {n : Nat} (h : BagAt H b n) (hp : H p = none) : b ≠ p := by obtain ⟨_, _, _, e, _⟩ := h; exact ne_of_none e hp
theorem BagAt.ntup {H : Hp} {b : Addr} {n : Nat} (h : BagAt H b n) : ∀ xs, H b ≠ some (.tup xs) := fun xs z => by obtain ⟨_, _, _, e, _⟩ := h; rw [e] at z; cases z
theorem BagAt.ex {H : Hp} {b : Addr} {n : Nat} (h : BagAt H b n) : ∃ o, H b = some o := by obtain ⟨_, _, _, e, _⟩ := h; exact ⟨_, e⟩
theorem BagAt.sameB {H H' : Hp} {a b : Addr} {n : Nat} (h : BagAt H b n) (s : SameB a H H') (ne : b ≠ a) : BagAt H' b n := by
  obtain ⟨x, y, z, e, r⟩ := h
  exact ⟨x, y, z, s _ _ e ne, r⟩
theorem leSize {n : Nat} (h : n ≤ 1000) : n ≤ sizeLine := Nat.le_of_lt (small1000 h)
def spBag (K : PySem.W.Frag) : Sp := fun vs H Q _ => ∃ (a : Addr) (ns : List Int) (k : Int), vs = [.ref a, .int k] ∧ SqL K H a (ns.map V.int) ∧ ns.length ≤ 63 ∧ 0 ≤ k ∧ k ≤ 100 ∧ ∀ p o, H p = none → BagAt (upd H p o) p 0 → Q (.ref p) (upd H p o)
def spTake : Sp := fun vs H Q _ => ∃ (b : Addr) (n : Nat) (m : Int), vs = [.ref b, .int m] ∧ BagAt H b n ∧ n ≤ 10000 ∧ 0 < m ∧ m < 1073741824 ∧ ∀ r H', 0 ≤ r → r < m → BagAt H' b (n + 1) → SameB b H H' → Q (.int r) H'
def spLaw (K : PySem.W.Frag) : Sp := fun vs H Q _ => ∃ (a : Addr) (ns : List Int), vs = [.ref a] ∧ SqL K H a (ns.map V.int) ∧ ns.length ≤ 63 ∧ ∀ H', Q (.bl true) H'
theorem at7 {i : Int} (h0 : 0 ≤ i) (h7 : i < 7) {a b c d e f g : Int} (P : Int → Prop) (ha : P a) (hb : P b) (hc : P c) (hd : P d) (he : P e) (hf : P f) (hg : P g) : ∃ p, atI [V.int a, .int b, .int c, .int d, .int e, .int f, .int g] i = some (.int p) ∧ P p := by
  have : i = 0 ∨ i = 1 ∨ i = 2 ∨ i = 3 ∨ i = 4 ∨ i = 5 ∨ i = 6 := by omega
  rcases this with rfl | rfl | rfl | rfl | rfl | rfl | rfl
  · exact ⟨_, rfl, ha⟩
  · exact ⟨_, rfl, hb⟩
  · exact ⟨_, rfl, hc⟩
  · exact ⟨_, rfl, hd⟩
  · exact ⟨_, rfl, he⟩
  · exact ⟨_, rfl, hf⟩
  · exact ⟨_, rfl, hg⟩
theorem cm01 {x : Int} {b : Bool} : CMul x (if b = true then 1 else 0) := .inr (by cases b <;> exact ⟨by decide, by decide⟩)
section
variable {P : Program} {w : World} {K : PySem.W.Frag} {mg : Str → Option Value} {base : Heap}
theorem ok_l_bag (C : Code K mg "_law_bag" s_l_bag p_l_bag) (T : Nm mg) : Good P w K mg base "_law_bag" 1 p_l_bag (spBag K) := by
  refine C.good sc_l_bag (fun vs H Q E h => ?_) (fun f cdv A outer s H vs Q E hr h => ?_)
  · obtain ⟨a, ns, k, rfl, _⟩ := h
    rfl
  obtain ⟨a, ns, k, rfl, hS, h63, h0, h1, q⟩ := h
  refine ⟨_, (pss_cons (ps_set (i := 2) sc_l_bag.nd rfl (Or.inl rfl) (pe_op op_add (pe_op op_add (pe_op op_mul (pe_op op_mul pe_int (pv 1)) (pv 1)) (pe_op op_mul pe_int (pv 1))) pe_int))
  (pss_cons (ps_if (pt_cmpR op_lt (pv 1) (pe_callB call_len_seq rfl T.len bt_len (pa_cons (pv 0) pa_nil)) (nomark _)) (pss_one (ps_set (i := 2) sc_l_bag.nd rfl (Or.inl rfl) (pe_ix ix_list (pv 0) (pv 1) (fun _ _ => rfl)))) pss_nil)
  (pss_one (ps_ret (pe_lst (pa_cons (pe_op op_mul (pe_callB call_abs rfl T.abs bt_abs (pa_cons (pv 2) pa_nil)) (pe_callTy call_int1 rfl T.int bt_int (pa_cons (pe_cmpR op_ge (pe_callB call_abs rfl T.abs bt_abs (pa_cons (pv 2) pa_nil)) (pe_op op_pow pe_int pe_int) (nomark _)) pa_nil))) (pa_cons (pe_op op_add (pe_op op_mod (pv 2) pe_int) (pe_op op_mul pe_int (pv 1))) (pa_cons pe_int pa_nil)))))))), ?_⟩
  refine ⟨_, rfl, _, _, rfl, rfl, .inl ⟨by decide, by decide⟩, _, rfl, _, _, rfl, rfl, .inr ⟨by omega, by omega⟩, _, rfl, _, _, rfl, rfl, .inl ⟨by decide, by decide⟩, _, _, rfl, rfl, _, _, rfl, rfl, ?_⟩
  refine ⟨_, rfl, _, rfl, a, _, rfl, .inl hS, _, _, rfl, rfl, _, rfl, ?_⟩
  have hl : (ns.map V.int).length = ns.length := List.length_map _
  have fin : ∀ (c : Int) (p : Addr), H p = none → Q (.ref p) (upd H p (.lst [.int ((if c < 0 then -c else c) * (if decide ((10 : Int) ^ (18 : Int).toNat ≤ (if c < 0 then -c else c)) = true then 1 else 0)), .int (c % 2147483647 + 37 * k), .int 0])) := fun c p hp => by
    refine q p _ hp ⟨_, _, _, upd_same, ?_, ?_, ?_, by omega, by omega⟩
    · refine Int.mul_nonneg ?_ ?_
      · split <;> omega
      · split <;> omega
    · have := Int.emod_nonneg c (show (2147483647 : Int) ≠ 0 by decide)
      omega
    · have := Int.emod_lt_of_pos c (show (0 : Int) < 2147483647 by decide)
      omega
  refine ite2 (fun c1 => ?_) (fun c1 => ?_)
  · have c' : k < (((ns.map V.int).length : Nat) : Int) := of_decide_eq_true c1
    rw [hl] at c'
    have hk : k.toNat < ns.length := by omega
    have hat : atI (ns.map V.int) ((k.toNat : Nat) : Int) = some (.int ns[k.toNat]) := atI_nat (by rw [List.getElem?_map]; simp [hk])
    rw [Int.toNat_of_nonneg h0] at hat
    refine ⟨_, rfl, _, rfl, a, _, _, _, rfl, rfl, hS, hat, ?_⟩
    exact ⟨_, rfl, _, rfl, _, rfl, _, rfl, _, _, rfl, rfl, ⟨by decide, by decide, by decide⟩, _, _, rfl, rfl, .inr ⟨_, rfl, _, _, rfl, rfl, cm01, _, rfl, _, _, rfl, rfl, (by show (0 : Int) < 2147483647; decide), _, rfl, _, _, rfl, rfl, .inl ⟨by decide, by decide⟩, _, _, rfl, rfl,
      (by show 3 ≤ sizeLine; decide), fun l hl' => fin _ l hl'⟩⟩
  · exact ⟨_, rfl, _, rfl, _, rfl, _, rfl, _, _, rfl, rfl, ⟨by decide, by decide, by decide⟩, _, _, rfl, rfl, .inr ⟨_, rfl, _, _, rfl, rfl, cm01, _, rfl, _, _, rfl, rfl, (by show (0 : Int) < 2147483647; decide), _, rfl, _, _, rfl, rfl, .inl ⟨by decide, by decide⟩, _, _, rfl, rfl,
      (by show 3 ≤ sizeLine; decide), fun l hl' => fin _ l hl'⟩⟩
theorem ok_l_take (C : Code K mg "_law_take" s_l_take p_l_take) (T : Nm mg) : Good P w K mg base "_law_take" 1 p_l_take spTake := by
  refine C.good sc_l_take (fun vs H Q E h => ?_) (fun f cdv A outer s H vs Q E hr h => ?_)
  · obtain ⟨b, n, m, rfl, _⟩ := h
    rfl
  obtain ⟨b, n, m, rfl, ⟨x, y, z, hb, x0, y0, y1, z0, z1⟩, hn, m0, m1, q⟩ := h
  refine ⟨_, (pss_cons (ps_if (pt_cmpR op_gt (pe_ix ix_list (pv 0) pe_int (fun _ _ => rfl)) pe_int (nomark _)) (pss_cons (ps_set (i := 2) sc_l_take.nd rfl (Or.inl rfl) (pe_op op_mod (pe_ix ix_list (pv 0) pe_int (fun _ _ => rfl)) (pv 1)))
  (pss_cons (ps_asg (pe_op op_fdiv (pe_ix ix_list (pv 0) pe_int (fun _ _ => rfl)) (pv 1)) (pg_sub (pv 0) pe_int set_list))
  (pss_one (ps_ret (pv 2))))) pss_nil)
  (pss_cons (ps_set (i := 3) sc_l_take.nd rfl (Or.inl rfl) (@pe_tup _ _ _ _ _ (@pa_cons _ _ _ _ _ (@pe_int _ _ _ _) (@pa_cons _ _ _ _ _ (@pe_int _ _ _ _) (@pa_cons _ _ _ _ _ (@pe_int _ _ _ _) (@pa_cons _ _ _ _ _ (@pe_int _ _ _ _) (@pa_cons _ _ _ _ _ (@pe_int _ _ _ _) (@pa_cons _ _ _ _ _ (@pe_int _ _ _ _) (@pa_cons _ _ _ _ _ (@pe_int _ _ _ _) (@pa_nil _) st_const) st_const) st_const) st_const) st_const) st_const) st_const)))
  (pss_cons (ps_asg (pe_op op_add (pe_ix ix_list (pv 0) pe_int (fun _ _ => rfl)) pe_int) (pg_sub (pv 0) pe_int set_list))
  (pss_cons (ps_set (i := 4) sc_l_take.nd rfl (Or.inl rfl) (pe_ix ix_list (pv 0) pe_int (fun _ _ => rfl)))
  (pss_cons (ps_set (i := 5) sc_l_take.nd rfl (Or.inl rfl) (pe_op op_add (pe_op op_add (pe_op op_mul (pe_ix ix_list (pv 0) pe_int (fun _ _ => rfl)) (pe_op op_add (pe_op op_mul pe_int (pv 4)) pe_int)) (pe_op op_mul (pe_op op_mul pe_int (pv 4)) (pv 4))) pe_int))
  (pss_cons (ps_set (i := 6) sc_l_take.nd rfl (Or.inl rfl) (pe_op op_mod (pe_op op_pow (pv 5) pe_int) (pe_ix ix_tup (pv 3) (pe_op op_mod (pv 4) pe_int) (fun _ _ => rfl))))
  (pss_one (ps_ret (pe_op op_mod (pe_op op_fdiv (pe_op op_mod (pe_op op_mul (pv 6) (pe_op op_add (pe_op op_fdiv (pv 6) pe_int) pe_int)) (pe_ix ix_tup (pv 3) (pe_op op_mod (pe_op op_add (pv 4) pe_int) pe_int) (fun _ _ => rfl))) pe_int) (pv 1)))))))))), ?_⟩
  refine ⟨_, rfl, b, _, _, _, rfl, rfl, SqL.of hb, rfl, _, _, rfl, rfl, _, rfl, ?_⟩
  refine ite2 (fun c1 => ?_) (fun c1 => ?_)
  · have c' : 0 < x := of_decide_eq_true c1
    refine ⟨_, rfl, b, _, _, _, rfl, rfl, SqL.of hb, rfl, _, rfl, _, _, rfl, rfl, m0, ?_⟩
    refine ⟨_, rfl, b, _, _, _, rfl, rfl, SqL.of hb, rfl, _, rfl, _, _, rfl, rfl, ⟨m0, m1⟩, _, rfl, b, _, _, _, rfl, rfl, hb, rfl, ?_⟩
    exact ⟨_, rfl, q _ _ (Int.emod_nonneg x (by omega)) (Int.emod_lt_of_pos x m0) ⟨x / m, y, z, upd_same, Int.ediv_nonneg x0 (by omega), y0, y1, z0, by omega⟩ SameB.upd⟩
  · refine ⟨(by show 7 ≤ sizeLine; decide), fun tp htp => ?_⟩
    have nbt : b ≠ tp := ne_of_none hb htp
    have hb1 : ∀ o, (upd H tp o) b = some (.lst [.int x, .int y, .int z]) := fun o => by rw [upd_ne nbt]; exact hb
    have ht1 : ∀ o u, (upd (upd H tp o) b u) tp = some o := fun o u => by rw [upd_ne nbt.symm, upd_same]
    refine ⟨_, rfl, b, _, _, _, rfl, rfl, SqL.of (hb1 _), rfl, _, _, rfl, rfl, _, rfl, b, _, _, _, rfl, rfl, hb1 _, rfl, ?_⟩
    refine ⟨_, rfl, b, _, _, _, rfl, rfl, SqL.of upd_same, rfl, ?_⟩
    have s0 : 0 ≤ z + 1 := by omega
    have s1 : z + 1 ≤ 10001 := by omega
    refine ⟨_, rfl, b, _, _, _, rfl, rfl, SqL.of upd_same, rfl, _, rfl, _, _, rfl, rfl, .inl ⟨by decide, by decide⟩, _, _, rfl, rfl, _, _, rfl, rfl, .inl ⟨by omega, by omega⟩, _, rfl, _, _, rfl, rfl, .inl ⟨by decide, by decide⟩, _, rfl, _, _, rfl, rfl, .inr ⟨by omega, by omega⟩,
      _, _, rfl, rfl, _, _, rfl, rfl, ?_⟩
    have hbase : (y * (2 * (z + 1) + 1) + 6007 * (z + 1) * (z + 1) + 29).natAbs < 2 ^ 64 := by
      have h1 : 0 ≤ y * (2 * (z + 1) + 1) := Int.mul_nonneg y0 (by omega)
      have h2 : y * (2 * (z + 1) + 1) ≤ 4294967296 * 20003 := Int.mul_le_mul y1 (by omega) (by omega) (by omega)
      have h3 : 0 ≤ 6007 * (z + 1) * (z + 1) := Int.mul_nonneg (by omega) s0
      have h4 : 6007 * (z + 1) * (z + 1) ≤ (6007 * 10001) * 10001 := Int.mul_le_mul (by omega) s1 s0 (by omega)
      omega
    obtain ⟨p1, e1, p10, p11⟩ := at7 (i := (z + 1) % 7) (Int.emod_nonneg _ (by decide)) (Int.emod_lt_of_pos _ (by decide)) (a := 2147483629) (b := 2147483587) (c := 2147483579) (d := 2147483563) (e := 2147483549) (f := 2147483543) (g := 2147483497)
      (fun p => 0 < p ∧ p < 2147483648) (by decide) (by decide) (by decide) (by decide) (by decide) (by decide) (by decide)
    obtain ⟨p2, e2, p20, p21⟩ := at7 (i := (z + 1 + 3) % 7) (Int.emod_nonneg _ (by decide)) (Int.emod_lt_of_pos _ (by decide)) (a := 2147483629) (b := 2147483587) (c := 2147483579) (d := 2147483563) (e := 2147483549) (f := 2147483543) (g := 2147483497)
      (fun p => 0 < p ∧ p < 2147483648) (by decide) (by decide) (by decide) (by decide) (by decide) (by decide) (by decide)
    refine ⟨_, rfl, _, _, rfl, rfl, ⟨by decide, by decide, hbase⟩, _, rfl, _, rfl, _, _, rfl, rfl, (by show (0 : Int) < 7; decide), tp, _, _, _, rfl, rfl, SqT.of (ht1 _ _), e1, _, _, rfl, rfl, p10, ?_⟩
    generalize hF : (y * (2 * (z + 1) + 1) + 6007 * (z + 1) * (z + 1) + 29) ^ (3 : Int).toNat % p1 = F
    have F0 : 0 ≤ F := by rw [← hF]; exact Int.emod_nonneg _ (by omega)
    have F1 : F < p1 := by rw [← hF]; exact Int.emod_lt_of_pos _ p10
    refine ⟨_, rfl, _, rfl, _, _, rfl, rfl, ⟨by decide, by decide⟩, _, _, rfl, rfl, _, _, rfl, rfl, .inl ⟨by omega, by omega⟩, _, rfl, _, rfl, _, _, rfl, rfl, _, _, rfl, rfl, (by show (0 : Int) < 7; decide), tp, _, _, _, rfl, rfl, SqT.of (ht1 _ _), e2, _, _, rfl, rfl, p20,
      _, _, rfl, rfl, ⟨by decide, by decide⟩, _, rfl, _, _, rfl, rfl, m0, ?_⟩
    refine q _ _ (Int.emod_nonneg _ (by omega)) (Int.emod_lt_of_pos _ m0) ⟨x, y, z + 1, upd_same, x0, y0, y1, s0, by omega⟩ fun c o e nc => ?_
    rw [upd_ne nc, upd_ne (ne_of_none e htp)]
    exact e
end
end K36

set_option Elab.async false
set_option linter.all false
set_option maxRecDepth 100000
set_option pp.maxSteps 300
set_option maxHeartbeats 1000000
namespace K36
open PySem L2
abbrev s_is_line : Stmt := top 5
abbrev p_is_line : List Str := ["thing", "least", "most"]
theorem sc_is_line : FnScope ["thing", "least", "most"] p_is_line (defScope s_is_line) := ⟨rfl, rfl, rfl, by decide +kernel, rfl, by decide +kernel, by decide +kernel⟩
abbrev s_check_note : Stmt := top 13
abbrev p_check_note : List Str := ["note"]
theorem sc_check_note : FnScope ["note"] p_check_note (defScope s_check_note) := ⟨rfl, rfl, rfl, by decide +kernel, rfl, by decide +kernel, by decide +kernel⟩
abbrev s_record : Stmt := top 14
abbrev p_record : List Str := ["number", "note"]
theorem sc_record : FnScope ["number", "note", "cells"] p_record (defScope s_record) := ⟨rfl, rfl, rfl, by decide +kernel, rfl, by decide +kernel, by decide +kernel⟩
/-- each sign that a text may hold -/
def SG : Str := " !\"#$&'()*+,-./0123456789:;<=>?@ABCDEFGHIJKLMNOPQRSTUVWXYZ[\\]^_`abcdefghijklmnopqrstuvwxyz{|}~"
theorem SG_len : SG.cps.toList.length = 94 := by decide +kernel
theorem SG_size : SG.cps.size = 94 := by rw [← Array.length_toList, SG_len]
theorem SG_nd : SG.cps.toList.Nodup := by decide +kernel
theorem SG_small : ∀ c ∈ SG.cps.toList, c < 128 := by
  have h : SG.cps.toList.all (fun c => decide (c < 128)) = true := by decide +kernel
  exact fun c hc => of_decide_eq_true (List.all_eq_true.mp h c hc)
theorem SG_has : ∀ c ∈ SG.cps.toList, (!(Builtin.Str.occurrences SG ⟨#[c]⟩ 0 SG.length 1).isEmpty) = true := by
  have h : SG.cps.toList.all (fun c => !(Builtin.Str.occurrences SG ⟨#[c]⟩ 0 SG.length 1).isEmpty) = true := by decide +kernel
  exact fun c hc => List.all_eq_true.mp h c hc
structure Tj (mg : Str → Option Value) : Prop extends Nm mg where
  SIGNS : ∃ u, mg "SIGNS" = some u ∧ RelV (.str SG) u
  MOST_SIGNS : ∃ u, mg "MOST_SIGNS" = some u ∧ RelV (.int 40) u
  NUMBERS : ∃ u, mg "NUMBERS" = some u ∧ RelV (.int 900) u
  LENGTHS : ∃ u, mg "LENGTHS" = some u ∧ RelV (.int 60) u
  CHECKS : ∃ u, mg "CHECKS" = some u ∧ RelV (.int 997) u
  CELLS_AHEAD : ∃ u, mg "CELLS_AHEAD" = some u ∧ RelV (.int 3) u
  CELLS_AROUND : ∃ u, mg "CELLS_AROUND" = some u ∧ RelV (.int 4) u
/-- a note: at most forty signs, all of them told ones -/
structure NoteOk (z : Str) : Prop where
  len : z.cps.size ≤ 40
  sg : ∀ c ∈ z.cps.toList, c ∈ SG.cps.toList
def codes (z : Str) : List Int := z.cps.toList.map fun (c : Nat) => (c : Int)
theorem codes_len (z : Str) : (codes z).length = z.cps.size := by unfold codes; rw [List.length_map, Array.length_toList]
/-- the sum of each by its place, from i + 1 on -/
def wsF : Nat → List Int → Int
  | _, [] => 0
  | i, x :: r => x * ((1 + i : Nat) : Int) + wsF (i + 1) r
def hdr (k : Nat) (z : Str) : List Int := [((k : Int) % 900), (z.cps.size : Int), 60 - (z.cps.size : Int)] ++ codes z
def recd (k : Nat) (z : Str) : List Int := hdr k z ++ [wsF 0 (hdr k z) % 997]
theorem hdr_len (k : Nat) (z : Str) : (hdr k z).length = z.cps.size + 3 := by unfold hdr; rw [List.length_append, codes_len]; show 3 + _ = _; omega
theorem recd_len (k : Nat) (z : Str) : (recd k z).length = z.cps.size + 4 := by unfold recd; rw [List.length_append, hdr_len]; rfl
def iv (xs : List Int) : List V := xs.map V.int
theorem iv_len (xs : List Int) : (iv xs).length = xs.length := List.length_map ..
theorem wsF_sum : ∀ (i : Nat) (xs : List Int), wsF i xs = ((List.range xs.length).map fun j => xs.getD j 0 * ((1 + (i + j) : Nat) : Int)).sum
  | _, [] => rfl
  | i, x :: r => by
    rw [wsF, wsF_sum (i + 1) r, List.length_cons, List.range_succ_eq_map, List.map_cons, List.sum_cons, List.map_map]
    congr 1
    refine congrArg List.sum (List.map_congr_left fun j _ => ?_)
    show r.getD j 0 * ((1 + (i + 1 + j) : Nat) : Int) = (x :: r).getD (j + 1) 0 * ((1 + (i + (j + 1)) : Nat) : Int)
    rw [show i + 1 + j = i + (j + 1) by omega]
    rfl
theorem hdr_bd {k : Nat} {z : Str} (nz : NoteOk z) : ∀ x ∈ hdr k z, 0 ≤ x ∧ x < 1000 := fun x hx => by
  have hl := nz.len
  unfold hdr at hx
  rcases List.mem_append.mp hx with h | h
  · simp only [List.mem_cons, List.not_mem_nil, or_false] at h
    rcases h with rfl | rfl | rfl <;> omega
  · unfold codes at h
    obtain ⟨c, hc, rfl⟩ := List.mem_map.mp h
    have := SG_small c (nz.sg c hc)
    omega
theorem isi_str {K : PySem.W.Frag} {H : Hp} {z : Str} {Q : VK} (q : Q (.bl true) H) : rIsi K [.str z, .ty "str"] H Q := by
  unfold rIsi
  exact ⟨_, _, _, _, rfl, .str z, by rfl, q⟩
def spIsLine : Sp := fun vs H Q _ => ∃ z, vs = [.str z, .int 0, .int 40] ∧ NoteOk z ∧ ∀ H', Same H H' → Q (.bl true) H'
def spCheck : Sp := fun vs H Q _ => ∃ z, vs = [.str z] ∧ NoteOk z ∧ ∀ H', Same H H' → Q .non H'
def spRecord : Sp := fun vs H Q _ => ∃ (k : Nat) (z : Str), vs = [.int k, .str z] ∧ NoteOk z ∧ ∀ a H', H a = none → H' a = some (.lst (iv (recd k z))) → Same H H' → Q (.ref a) H'
section
variable {P : Program} {w : World} {K : PySem.W.Frag} {mg : Str → Option Value} {base : Heap}
theorem ok_is_line (C : Code K mg "is_line" s_is_line p_is_line) (T : Tj mg) : Good P w K mg base "is_line" 1 p_is_line spIsLine := by
  refine C.good sc_is_line (fun vs H Q E h => ?_) (fun f cdv A outer s H vs Q E hr h => ?_)
  · obtain ⟨z, rfl, _⟩ := h
    rfl
  obtain ⟨z, rfl, nz, q⟩ := h
  have hl := nz.len
  refine ⟨_, (pss_cons (ps_if (PW.pt (pw_or (pt_not (pt_val (pe_callB call_isi rfl T.isinstance bt_isinstance (pa_cons (pv 0) (pa_cons (pe_bltn (v := .ty "str") rfl T.str bt_str rfl) pa_nil))))) (pw_or1 (pt_not (pt_chain op_le op_le (pv 1) (pe_callB call_len_str rfl T.len bt_len (pa_cons (pv 0) pa_nil)) (pv 2)))))) (pss_one (ps_ret pe_bl)) pss_nil)
  (pss_one (ps_ret (pe_callB (call_all rfl) rfl T.all bt_all (pa_cons (pe_comp (N' := ["sign"]) rfl (CScope.plain rfl (by decide +kernel) (by decide +kernel) (by decide +kernel)) (pi_str (pv 0)) (fun _ _ _ _ => (pg_name (i := 0) (show List.Nodup (["sign"] : List Str) by decide +kernel) rfl (Or.inl rfl))) (fun _ _ _ _ => pf_nil) (fun _ _ _ _ => (pe_cmpR op_in_str (pv 0) (pe_cst rfl T.SIGNS) (by with_unfolding_all rfl)))) pa_nil))))), ?_⟩
  refine ⟨_, rfl, isi_str ⟨_, rfl, iteF ⟨_, rfl, _, rfl, z, rfl, leSize (by show z.cps.size ≤ 1000; omega), _, _, rfl, rfl, _, rfl, ?_⟩⟩⟩
  have h1 : decide ((0 : Int) ≤ (z.length : Int)) = true := decide_eq_true (by omega)
  rw [h1]
  refine iteT ⟨_, rfl, _, _, rfl, rfl, _, rfl, ?_⟩
  have h2 : decide ((z.length : Int) ≤ 40) = true := decide_eq_true (by show (z.cps.size : Int) ≤ 40; omega)
  rw [h2]
  refine iteF ⟨_, rfl, z, rfl, fun l hl' => ?_⟩
  refine comp_str (fun i σ HH => ∃ u, σ = [u] ∧ HH l = some (.lst ((List.replicate i true).map V.bl)) ∧ Same H HH) ⟨_, rfl, upd_same, same_new hl' _⟩ (fun i c σ HH hc h => ?_) (fun σ HH h => ?_)
  · obtain ⟨u, rfl, e1, e2⟩ := h
    have hi : i < z.cps.size := (Array.getElem?_eq_some_iff.mp hc).1
    unfold gName
    dsimp only
    refine iteT ⟨_, rfl, _, _, rfl, rfl, _, e1, small1000 (by simp; omega), _, rfl, ?_, e2.stepB SameB.upd hl'⟩
    rw [upd_same, SG_has c (nz.sg c (Array.mem_toList_iff.mpr (Array.mem_of_getElem? hc))), List.replicate_succ', List.map_append]
    rfl
  · obtain ⟨u, rfl, e1, e2⟩ := h
    refine ⟨l, List.replicate z.cps.size true, rfl, SqL.of e1, ?_⟩
    have : (List.replicate z.cps.size true).all id = true := by simp
    rw [this]
    exact q _ e2
theorem ok_check (C : Code K mg "check_note" s_check_note p_check_note) (T : Tj mg) (g_is_line : Good P w K mg base "is_line" 1 p_is_line spIsLine) : Good P w K mg base "check_note" 2 p_check_note spCheck := by
  refine C.good sc_check_note (fun vs H Q E h => ?_) (fun f cdv A outer s H vs Q E hr h => ?_)
  · obtain ⟨z, rfl, _⟩ := h
    rfl
  obtain ⟨z, rfl, nz, q⟩ := h
  refine ⟨_, (pss_one (ps_if (pt_not (pt_val (pcall g_is_line hr (pa_cons (pv 0) (pa_cons pe_int (pa_cons (pe_cst rfl T.MOST_SIGNS) pa_nil)))))) (pss_one ps_never) pss_nil)), ?_⟩
  exact ⟨_, rfl, z, rfl, nz, fun H' s => ⟨_, rfl, iteF (q _ s)⟩⟩
theorem ok_record (C : Code K mg "record" s_record p_record) (T : Tj mg) (g_check_note : Good P w K mg base "check_note" 2 p_check_note spCheck) : Good P w K mg base "record" 3 p_record spRecord := by
  refine C.good sc_record (fun vs H Q E h => ?_) (fun f cdv A outer s H vs Q E hr h => ?_)
  · obtain ⟨k, z, rfl, _⟩ := h
    rfl
  obtain ⟨k, z, rfl, nz, q⟩ := h
  have hl := nz.len
  refine ⟨_, (pss_cons (ps_expr (pcall g_check_note hr (pa_cons (pv 1) pa_nil)))
  (pss_cons (ps_set (i := 2) sc_record.nd rfl (Or.inl rfl) (pe_op op_cat (pe_lst (pa_cons (pe_op op_mod (pv 0) (pe_cst rfl T.NUMBERS)) (pa_cons (pe_callB call_len_str rfl T.len bt_len (pa_cons (pv 1) pa_nil)) (pa_cons (pe_op op_sub (pe_cst rfl T.LENGTHS) (pe_callB call_len_str rfl T.len bt_len (pa_cons (pv 1) pa_nil))) pa_nil)))) (pe_comp (N' := ["sign"]) rfl (CScope.plain rfl (by decide +kernel) (by decide +kernel) (by decide +kernel)) (pi_str (pv 1)) (fun _ _ _ _ => (pg_name (i := 0) (show List.Nodup (["sign"] : List Str) by decide +kernel) rfl (Or.inl rfl))) (fun _ _ _ _ => pf_nil) (fun _ _ _ _ => (pe_callB call_ord rfl T.ord bt_ord (pa_cons (pv 0) pa_nil))))))
  (pss_one (ps_ret (pe_op op_cat (pv 2) (pe_lst (pa_cons (pe_op op_mod (pe_callB (call_sum rfl) rfl T.sum bt_sum (pa_cons (pe_comp (N' := ["place", "cell"]) rfl (CScope.plain rfl (by decide +kernel) (by decide +kernel) (by decide +kernel)) (pi_enumL1 rfl T.enumerate (pv 2) pe_int) (fun _ _ _ _ => (pg_tupK (K := K) (n := 2) rfl rfl (pgs_cons (pg_name (i := 0) (show List.Nodup (["place", "cell"] : List Str) by decide +kernel) rfl (Or.inl rfl)) (pgs_cons (pg_name (i := 1) (show List.Nodup (["place", "cell"] : List Str) by decide +kernel) rfl (Or.inl rfl)) pgs_nil)))) (fun _ _ _ _ => pf_nil) (fun _ _ _ _ => (pe_op op_mul (pv 1) (pv 0)))) pa_nil)) (pe_cst rfl T.CHECKS)) pa_nil))))))), ?_⟩
  refine ⟨_, rfl, z, rfl, nz, fun H1 s1 => ?_⟩
  have hzl : z.length ≤ sizeLine := leSize (by show z.cps.size ≤ 1000; omega)
  refine ⟨_, rfl, _, _, rfl, rfl, (by show (0 : Int) < 900; decide), _, rfl, z, rfl, hzl, _, rfl, z, rfl, hzl, _, _, rfl, rfl, leSize (by show 3 ≤ 1000; decide), fun p hp => ?_⟩
  refine ⟨_, rfl, z, rfl, fun l hl' => ?_⟩
  have npl : p ≠ l := fun e => by rw [e, upd_same] at hl'; cases hl'
  have s2 : Same H1 (upd H1 p (.lst [.int ((k : Int) % 900), .int (z.length : Int), .int (60 - (z.length : Int))])) := same_new hp _
  refine comp_str (fun i σ HH => ∃ u, σ = [u] ∧ HH l = some (.lst (iv ((codes z).take i))) ∧ HH p = some (.lst [.int ((k : Int) % 900), .int (z.length : Int), .int (60 - (z.length : Int))]) ∧ Same H HH) ⟨_, rfl, upd_same, ?_, ?_⟩ (fun i c σ HH hc h => ?_) (fun σ HH h => ?_)
  · rw [upd_ne npl, upd_same]
  · exact (s1.trans s2).trans (same_new hl' _)
  · obtain ⟨u, rfl, e1, e2, e3⟩ := h
    have hi : i < z.cps.size := (Array.getElem?_eq_some_iff.mp hc).1
    unfold gName
    dsimp only
    refine iteT ⟨_, rfl, _, rfl, rfl, _, e1, small1000 (by rw [iv_len, List.length_take, codes_len]; omega), _, rfl, ?_, ?_, ?_⟩
    · rw [upd_same]
      have : (codes z)[i]? = some ((c : Nat) : Int) := by
        unfold codes
        rw [List.getElem?_map, Array.getElem?_toList, hc]
        rfl
      rw [List.take_add_one, this]
      unfold iv
      rw [List.map_append]
      rfl
    · rw [upd_ne npl]
      exact e2
    · exact e3.stepB SameB.upd ((s1.trans s2).free hl')
  · obtain ⟨u, rfl, e1, e2, e3⟩ := h
    rw [← codes_len, List.take_length] at e1
    refine ⟨p, l, _, _, rfl, rfl, e2, e1, leSize (by rw [iv_len, codes_len]; show 3 + _ ≤ 1000; omega), fun c hc => ?_⟩
    have ec : V.int ((k : Int) % 900) :: V.int (z.length : Int) :: V.int (60 - (z.length : Int)) :: [] ++ iv (codes z) = iv (hdr k z) := rfl
    generalize hH : upd HH c (.lst ([.int ((k : Int) % 900), .int (z.length : Int), .int (60 - (z.length : Int))] ++ iv (codes z))) = H5
    have ec5 : H5 c = some (.lst (iv (hdr k z))) := by rw [← hH, upd_same]; rfl
    have s5 : Same H H5 := by rw [← hH]; exact e3.trans (same_new hc _)
    have fc : H c = none := e3.free hc
    clear hH
    refine ⟨_, rfl, _, rfl, c, rfl, ⟨_, SqL.of ec5⟩, fun m hm => ?_⟩
    have ncm : c ≠ m := fun e => by rw [e, hm] at ec5; cases ec5
    refine comp_enumL (xs := iv (hdr k z)) (fun i σ HH => ∃ u v, σ = [u, v] ∧ HH m = some (.lst (iv ((List.range i).map fun j => (hdr k z).getD j 0 * ((1 + j : Nat) : Int)))) ∧ HH c = some (.lst (iv (hdr k z))) ∧ Same H5 HH) ⟨_, _, rfl, upd_same, ?_, same_new hm _⟩ (fun i σ HH _ h => ?_) (fun i x pp σ HH hx h hpp => ?_) (fun σ HH h => ?_)
    · rw [upd_ne ncm]; exact ec5
    · obtain ⟨u, v, rfl, e1, e2, e3⟩ := h
      exact SqL.of e2
    · obtain ⟨u, v, rfl, e4, e5, e6⟩ := h
      have hi : i < (iv (hdr k z)).length := (List.getElem?_eq_some_iff.mp hx).1
      have hx' : x = .int ((hdr k z).getD i 0) := by
        unfold iv at hx hi
        rw [List.length_map] at hi
        rw [List.getElem?_map, List.getElem?_eq_getElem hi] at hx
        rw [List.getD_eq_getElem?_getD, List.getElem?_eq_getElem hi]
        exact (Option.some.inj hx).symm
      subst hx'
      have np : m ≠ pp := fun e => by rw [← e, e4] at hpp; cases hpp
      have bi := hdr_bd nz (k := k) ((hdr k z).getD i 0) (by
        rw [List.getD_eq_getElem?_getD, List.getElem?_eq_getElem (by rw [iv_len] at hi; exact hi)]
        exact List.getElem_mem _)
      have hi2 : i < 43 := by rw [iv_len, hdr_len] at hi; omega
      refine ⟨pp, _, rfl, SqT.of upd_same, rfl, _, _, rfl, _, _, rfl, rfl, ?_⟩
      have e4' : upd HH pp (.tup [V.int ((1 + i : Nat) : Int), V.int ((hdr k z).getD i 0)]) m = some (.lst (iv ((List.range i).map fun j => (hdr k z).getD j 0 * ((1 + j : Nat) : Int)))) := by rw [upd_ne np]; exact e4
      refine iteT ⟨_, rfl, _, rfl, _, _, rfl, rfl, .inl ⟨by omega, by omega⟩, _, e4', small1000 ?_, _, _, rfl, ?_, ?_, ?_⟩
      · rw [iv_len, List.length_map, List.length_range]; omega
      · rw [upd_same, List.range_succ, List.map_append]; unfold iv; rw [List.map_append]; rfl
      · rw [upd_ne ncm, upd_ne (fun e => by rw [e, hpp] at e5; cases e5)]; exact e5
      · exact (e6.trans (same_new hpp _)).stepB SameB.upd hm
    · obtain ⟨u, v, rfl, e4, e5, e6⟩ := h
      refine ⟨m, _, rfl, .inl (SqL.of e4), _, _, rfl, rfl, (by show (0 : Int) < 997; decide), leSize (by show 1 ≤ 1000; decide), fun n hn => ?_⟩
      have ncn : c ≠ n := fun e => by rw [e, hn] at e5; cases e5
      refine ⟨c, n, _, _, rfl, rfl, by rw [upd_ne ncn]; exact e5, upd_same, leSize (by rw [iv_len, hdr_len]; show _ + 1 ≤ 1000; omega), fun o ho => ?_⟩
      have s6 : Same H (upd HH n (.lst [V.int ((((List.range (iv (hdr k z)).length).map fun j => (hdr k z).getD j 0 * ((1 + j : Nat) : Int)).sum) % 997)])) := (s5.trans e6).trans (same_new hn _)
      refine q o _ (s6.free ho) ?_ (s6.trans (same_new ho _))
      rw [upd_same, iv_len]
      have : wsF 0 (hdr k z) = ((List.range (hdr k z).length).map fun j => (hdr k z).getD j 0 * ((1 + j : Nat) : Int)).sum := by
        rw [wsF_sum]
        refine congrArg List.sum (List.map_congr_left fun j _ => ?_)
        rw [Nat.zero_add]
      rw [← this]
      unfold recd iv
      rw [List.map_append]
      rfl
end
end K36

set_option Elab.async false
set_option linter.all false
set_option maxRecDepth 100000
set_option pp.maxSteps 300
set_option maxHeartbeats 1000000
namespace K36
open PySem L2
abbrev s_note_at : Stmt := top 15
abbrev p_note_at : List Str := ["cells", "at", "signs"]
theorem sc_note_at : FnScope ["cells", "at", "signs", "begin", "found"] p_note_at (defScope s_note_at) := ⟨rfl, rfl, rfl, by decide +kernel, rfl, by decide +kernel, by decide +kernel⟩
/-- whether it is a sign's number -/
def isSg (x : Int) : Bool := decide (x ∈ codes SG)
def sgD : List (Key × V) := SG.cps.toList.map fun (c : Nat) => ((.inl (c : Int) : Key), V.str ⟨#[c]⟩)
def sgV (x : Int) : V := if isSg x = true then .str ⟨#[x.toNat]⟩ else .non
theorem isSg_of {c : Nat} (h : c ∈ SG.cps.toList) : isSg (c : Int) = true := decide_eq_true (List.mem_map.mpr ⟨c, h, rfl⟩)
theorem of_isSg {x : Int} (h : isSg x = true) : ∃ c ∈ SG.cps.toList, x = (c : Int) := by
  obtain ⟨c, hc, e⟩ := List.mem_map.mp (of_decide_eq_true h)
  exact ⟨c, hc, e.symm⟩
theorem val_map (x : Int) : ∀ l : List Nat, valV (l.map fun (c : Nat) => ((.inl (c : Int) : Key), V.str ⟨#[c]⟩)) (.inl x) = if x ∈ l.map (fun (c : Nat) => (c : Int)) then some (.str ⟨#[x.toNat]⟩) else none
  | [] => rfl
  | c :: r => by
    rw [List.map_cons, List.map_cons]
    by_cases h : (c : Int) = x
    · subst h
      rw [valV_pos rfl, if_pos (List.mem_cons_self ..)]
      rfl
    · have ne : (Sum.inl (c : Int) : Key) ≠ .inl x := fun e => h (by injection e)
      have : valV (((.inl (c : Int) : Key), V.str ⟨#[c]⟩) :: r.map fun (c : Nat) => ((.inl (c : Int) : Key), V.str ⟨#[c]⟩)) (.inl x) = valV (r.map fun (c : Nat) => ((.inl (c : Int) : Key), V.str ⟨#[c]⟩)) (.inl x) := by
        simp [valV, List.find?_cons, ne]
      rw [this, val_map x r]
      by_cases h2 : x ∈ r.map (fun (c : Nat) => (c : Int))
      · rw [if_pos h2, if_pos (List.mem_cons_of_mem _ h2)]
      · rw [if_neg h2, if_neg (fun z => (List.mem_cons.mp z).elim (fun e => h e.symm) h2)]
theorem sgD_val (x : Int) : (valV sgD (.inl x)).getD .non = sgV x := by
  unfold sgD sgV isSg codes
  rw [val_map]
  by_cases h : x ∈ SG.cps.toList.map (fun (c : Nat) => (c : Int))
  · rw [if_pos h, if_pos (decide_eq_true h)]; rfl
  · rw [if_neg h, if_neg (by rw [decide_eq_false h]; exact Bool.false_ne_true)]; rfl
def toZ (cs : List Int) : Str := ⟨(cs.map Int.toNat).toArray⟩
theorem toZ_size (cs : List Int) : (toZ cs).cps.size = cs.length := by unfold toZ; simp
def cut3 (xs : List Int) (a m : Nat) : List Int := (xs.drop (a + 3)).take m
/-- the text that a record there would hold -/
def noteAt (xs : List Int) (a : Nat) : Option Str :=
  match xs[a + 1]? with
  | none => none
  | some m => if 0 ≤ m ∧ m ≤ 40 then (if (cut3 xs a m.toNat).all isSg = true then some (toZ (cut3 xs a m.toNat)) else none) else none
theorem noteAt_ok {xs : List Int} {a : Nat} {z : Str} (h : noteAt xs a = some z) : NoteOk z := by
  unfold noteAt at h
  split at h
  · cases h
  · rename_i m hm
    split at h
    · rename_i hb
      split at h
      · rename_i hs
        cases h
        refine ⟨?_, fun c hc => ?_⟩
        · rw [toZ_size]
          unfold cut3
          rw [List.length_take]
          omega
        · unfold toZ at hc
          obtain ⟨x, hx, rfl⟩ := List.mem_map.mp (by simpa using hc)
          obtain ⟨d, hd, rfl⟩ := of_isSg (List.all_eq_true.mp hs x hx)
          exact hd
      · cases h
    · cases h
theorem cut_iv (xs : List Int) (b m : Nat) : cutV (iv xs) (some (b : Int)) (some ((b + m : Nat) : Int)) = iv ((xs.drop b).take m) := by
  unfold cutV
  rw [HT.sIx_nat, HT.sIx_nat, iv_len]
  unfold iv
  rw [← List.map_drop, ← List.map_take]
  congr 1
  by_cases h : b ≤ xs.length
  · rw [Nat.min_eq_left h]
    by_cases h2 : b + m ≤ xs.length
    · rw [Nat.min_eq_left h2, Nat.add_sub_cancel_left]
    · rw [Nat.min_eq_right (by omega), List.take_of_length_le (by rw [List.length_drop]; omega), List.take_of_length_le (by rw [List.length_drop]; omega)]
  · rw [Nat.min_eq_right (by omega), Nat.min_eq_right (by omega), Nat.sub_self, List.drop_of_length_le (by omega : xs.length ≤ b), List.drop_of_length_le (Nat.le_refl _)]
    rw [List.take_nil, List.take_nil]
theorem joinE : ∀ (cs : List Int), Txt.join "" (cs.map fun x => (⟨#[x.toNat]⟩ : Str)) = toZ cs := by
  have key : ∀ (cs : List Int) (a : Array Nat), (cs.map fun x => (⟨#[x.toNat]⟩ : Str)).foldl (fun acc p => acc ++ (Str.ofString "").cps ++ p.cps) a = a ++ (cs.map Int.toNat).toArray := by
    intro cs
    induction cs with
    | nil => intro a; simp
    | cons x r ih =>
      intro a
      rw [List.map_cons, List.foldl_cons, ih]
      have : (Str.ofString "").cps = #[] := by decide +kernel
      rw [this]
      simp
  intro cs
  show Builtin.Str.glued _ _ = _
  unfold Builtin.Str.glued toZ
  cases cs with
  | nil => rfl
  | cons x r =>
    show (⟨_⟩ : Str) = ⟨_⟩
    congr 1
    show (r.map fun x => (⟨#[x.toNat]⟩ : Str)).foldl _ #[x.toNat] = _
    rw [key]
    simp
def ans (o : Option Str) : V := match o with | none => .non | some z => .str z
theorem inV_sg (cs : List Int) : inV .non (cs.map sgV) = !(cs.all isSg) := by
  unfold inV
  rw [List.any_map, List.all_eq_not_any_not, Bool.not_not]
  congr 1
  funext x
  show eqV (sgV x) .non = !isSg x
  unfold sgV
  cases isSg x <;> rfl
theorem flat_sg (cs : List Int) : (cs.map sgV).all flatV = true := by
  rw [List.all_map, List.all_eq_true]
  intro x _
  show flatV (sgV x) = true
  unfold sgV
  cases isSg x <;> rfl
theorem sg_strs {cs : List Int} (h : cs.all isSg = true) : cs.map sgV = (cs.map fun x => (⟨#[x.toNat]⟩ : Str)).map V.str := by
  rw [List.map_map]
  refine List.map_congr_left fun x hx => ?_
  unfold sgV
  rw [if_pos (List.all_eq_true.mp h x hx)]
  rfl
theorem sum1 : ∀ cs : List Int, ((cs.map fun x => (⟨#[x.toNat]⟩ : Str)).map (fun x => x.length)).sum = cs.length
  | [] => rfl
  | x :: r => by
    rw [List.map_cons, List.map_cons, List.sum_cons, sum1 r, List.length_cons]
    show 1 + _ = _
    omega
def spNoteAt (K : PySem.W.Frag) : Sp := fun vs H Q _ => ∃ (c d : Addr) (xs : List Int) (a : Nat), vs = [.ref c, .int a, .ref d] ∧ SqL K H c (iv xs) ∧ H d = some (.dK sgD) ∧ ∀ H', Same H H' → Q (ans (noteAt xs a)) H'
section
variable {P : Program} {w : World} {K : PySem.W.Frag} {mg : Str → Option Value} {base : Heap}
theorem ok_note_at (C : Code K mg "note_at" s_note_at p_note_at) (T : Tj mg) : Good P w K mg base "note_at" 1 p_note_at (spNoteAt K) := by
  refine C.good sc_note_at (fun vs H Q E h => ?_) (fun f cdv A outer s H vs Q E hr h => ?_)
  · obtain ⟨c, d, xs, a, rfl, _⟩ := h
    rfl
  obtain ⟨c, d, xs, a, rfl, hc, hd, q⟩ := h
  refine ⟨_, (pss_cons (ps_if (PW.pt (pw_or (pt_cmpR op_ge (pe_op op_add (pv 1) pe_int) (pe_callB call_len_seq rfl T.len bt_len (pa_cons (pv 0) pa_nil)) (nomark _)) (pw_or1 (pt_not (pt_chain op_le op_le pe_int (pe_ix ix_list (pv 0) (pe_op op_add (pv 1) pe_int) (fun _ _ => rfl)) (pe_cst rfl T.MOST_SIGNS)))))) (pss_one (ps_ret pe_non)) pss_nil)
  (pss_cons (ps_set (i := 3) sc_note_at.nd rfl (Or.inl rfl) (pe_op op_add (pv 1) (pe_cst rfl T.CELLS_AHEAD)))
  (pss_cons (ps_setC (i := 4) sc_note_at.nd rfl (Or.inl rfl) (N' := ["cell", "signs"]) rfl (CScope.of (src := [none, some 2]) (defScope s_note_at) ["cells", "at", "signs", "begin", "found"] rfl rfl rfl (by decide +kernel) (by decide +kernel) (by decide +kernel) rfl (by decide +kernel)) (pi_list (pe_slice sl_list (pv 0) (po_some (pv 3)) (po_some (pe_op op_add (pv 3) (pe_ix ix_list (pv 0) (pe_op op_add (pv 1) pe_int) (fun _ _ => rfl)))))) (fun _ _ _ _ => (pg_name (i := 0) (show List.Nodup (["cell", "signs"] : List Str) by decide +kernel) rfl (Or.inl rfl))) (fun _ _ _ _ => pf_nil) (fun _ _ _ _ => (pe_dget1 (hu_of hr) (pv 1) (pv 0) ⟨rfl, rfl, rfl, rfl⟩)))
  (pss_one (ps_ret (pe_ifExp (pt_cmpR op_in_seq pe_non (pv 4) (by with_unfolding_all rfl)) pe_non (pe_bm PySem.F.plainAttrs_str PySem.F.slot_str_join PySem.F.type_str_join mt_join pe_str (pa_cons (pv 4) pa_nil)))))))), ?_⟩
  refine ⟨_, rfl, _, _, rfl, rfl, _, rfl, c, _, rfl, .inl hc, _, _, rfl, rfl, _, rfl, ?_⟩
  rw [iv_len]
  by_cases h1 : (a : Int) + 1 ≥ (xs.length : Int)
  · have : noteAt xs a = none := by
      unfold noteAt
      rw [List.getElem?_eq_none (by omega)]
    rw [this] at q
    rw [decide_eq_true h1]
    exact iteT (iteT (q _ (Same.refl _)))
  rw [decide_eq_false h1]
  have ha : a + 1 < xs.length := by omega
  have hat : (iv xs)[a + 1]? = some (.int xs[a + 1]) := by
    unfold iv
    rw [List.getElem?_map, List.getElem?_eq_getElem ha]
    rfl
  have hat' : atI (iv xs) ((a : Int) + 1) = some (.int xs[a + 1]) := by
    have := atI_nat hat
    rw [show ((a + 1 : Nat) : Int) = (a : Int) + 1 by omega] at this
    exact this
  have hna : noteAt xs a = if 0 ≤ xs[a + 1] ∧ xs[a + 1] ≤ 40 then (if (cut3 xs a xs[a + 1].toNat).all isSg = true then some (toZ (cut3 xs a xs[a + 1].toNat)) else none) else none := by
    show (match xs[a + 1]? with | none => none | some m => _) = _
    rw [List.getElem?_eq_getElem ha]
  generalize xs[a + 1] = m at hat' hna
  refine iteF ⟨_, rfl, _, rfl, _, _, rfl, rfl, c, _, _, _, rfl, rfl, hc, hat', _, _, rfl, rfl, _, rfl, ?_⟩
  by_cases h2 : 0 ≤ m
  case neg =>
    rw [decide_eq_false h2]
    refine iteF ⟨_, rfl, iteT ?_⟩
    rw [hna, if_neg (fun z => h2 z.1)] at q
    exact q _ (Same.refl _)
  rw [decide_eq_true h2]
  refine iteT ⟨_, _, rfl, rfl, _, rfl, ?_⟩
  by_cases h3 : m ≤ 40
  case neg =>
    rw [decide_eq_false h3]
    refine iteT ?_
    rw [hna, if_neg (fun z => h3 z.2)] at q
    exact q _ (Same.refl _)
  rw [decide_eq_true h3]
  rw [hna, if_pos ⟨h2, h3⟩] at q
  refine iteF ⟨_, rfl, _, _, rfl, rfl, ?_⟩
  refine ⟨_, rfl, _, rfl, _, rfl, _, rfl, _, rfl, _, rfl, _, _, rfl, rfl, c, _, _, _, rfl, rfl, hc, hat', _, _, rfl, rfl, _, rfl, c, _, rfl, hc, fun p hp => ?_⟩
  have eb : cutV (iv xs) (some ((a : Int) + 3)) (some ((a : Int) + 3 + m)) = iv (cut3 xs a m.toNat) := by
    have := cut_iv xs (a + 3) m.toNat
    rw [show ((a + 3 : Nat) : Int) = (a : Int) + 3 by omega, show ((a + 3 + m.toNat : Nat) : Int) = (a : Int) + 3 + m by omega] at this
    exact this
  rw [eb]
  have hcl : (cut3 xs a m.toNat).length ≤ 40 := by unfold cut3; rw [List.length_take]; omega
  generalize cut3 xs a m.toNat = cs at *
  refine ⟨p, rfl, ⟨_, SqL.of upd_same⟩, fun l hl => ?_⟩
  have npl : p ≠ l := fun e => by rw [e, upd_same] at hl; cases hl
  have s1 : Same H (upd H p (.lst (iv cs))) := same_new hp _
  refine comp_list (xs := iv cs) (fun i σ HH => ∃ u, σ = [u, some (.ref d)] ∧ HH l = some (.lst ((cs.take i).map sgV)) ∧ HH p = some (.lst (iv cs)) ∧ Same H HH) ⟨_, rfl, upd_same, by rw [upd_ne npl, upd_same], s1.trans (same_new hl _)⟩ (fun i σ HH _ h => ?_) (fun i x σ HH hx h => ?_) (fun σ HH h => ?_)
  · obtain ⟨u, rfl, e1, e2, e3⟩ := h
    exact SqL.of e2
  · obtain ⟨u, rfl, e1, e2, e3⟩ := h
    have hi : i < cs.length := by
      have := (List.getElem?_eq_some_iff.mp hx).1
      rw [iv_len] at this
      exact this
    have hx' : x = .int cs[i] := by
      unfold iv at hx
      rw [List.getElem?_map, List.getElem?_eq_getElem hi] at hx
      exact (Option.some.inj hx).symm
    subst hx'
    unfold gName
    dsimp only
    refine iteT ⟨_, rfl, d, rfl, .inl ⟨_, .inl (e3 _ _ hd)⟩, _, rfl, _, DGet.k (k := .inl cs[i]) (e3 _ _ hd), _, e1, small1000 (by rw [List.length_map, List.length_take]; omega), _, rfl, ?_, by rw [upd_ne npl]; exact e2, e3.stepB SameB.upd (s1.free hl)⟩
    rw [upd_same, sgD_val, List.take_add_one, List.getElem?_eq_getElem hi, List.map_append]
    rfl
  · obtain ⟨u, rfl, e1, e2, e3⟩ := h
    rw [iv_len, List.take_length] at e1
    refine ⟨_, rfl, l, _, rfl, .inl (SqL.of e1), rfl, flat_sg cs, _, rfl, ?_⟩
    show if inV .non (cs.map sgV) = true then _ else _
    rw [inV_sg]
    by_cases h4 : cs.all isSg = true
    · rw [h4]
      rw [if_pos h4] at q
      rw [sg_strs h4] at e1
      refine iteF ⟨rfl, _, rfl, _, l, _, rfl, rfl, SqL.of e1, ?_, ?_⟩
      · rw [sum1, List.length_map]
        have : (Str.ofString "").length = 0 := by decide +kernel
        rw [this]
        omega
      · rw [joinE]
        exact q _ e3
    · rw [if_neg h4] at q
      rw [Bool.eq_false_iff.mpr h4]
      exact iteT (q _ e3)
end
end K36

set_option Elab.async false
set_option linter.all false
set_option maxRecDepth 100000
set_option pp.maxSteps 300
set_option maxHeartbeats 1000000
namespace K36
open PySem L2
abbrev s_read_journal : Stmt := top 16
abbrev p_read_journal : List Str := ["cells"]
theorem sc_read_journal : FnScope ["cells", "signs", "told", "at", "note"] p_read_journal (defScope s_read_journal) := ⟨rfl, rfl, rfl, by decide +kernel, rfl, by decide +kernel, by decide +kernel⟩
theorem ints_reps {H : Hp} : ∀ zs : List Int, Reps H (iv zs) (zs.map PyData.int)
  | [] => .nil
  | z :: r => .cons (.int z) (ints_reps r)
theorem ints_lay : ∀ zs : List Int, PyData.canLayAll0 (zs.map PyData.int) = true ∧ PyData.depthAll (zs.map PyData.int) ≤ 1
  | [] => ⟨rfl, by show 0 ≤ 1; decide⟩
  | z :: r => by
    have ih := ints_lay r
    refine ⟨?_, ?_⟩
    · show (true && PyData.canLayAll0 (r.map PyData.int)) = true
      rw [ih.1]; rfl
    · show max 0 (PyData.depthAll (r.map PyData.int)) ≤ 1
      exact Nat.max_le.mpr ⟨by decide, ih.2⟩
theorem ints_shaped (zs : List Int) : SeqAt.shaped (.list (zs.map PyData.int)) = true := by
  have h1 := ints_lay zs
  show (PyData.canLayAll0 (zs.map PyData.int) && decide (PyData.depthAll (zs.map PyData.int) + 1 ≤ 64)) = true
  rw [h1.1, Bool.true_and]
  exact decide_eq_true (by omega)
theorem ints_eqv : ∀ xs ys : List Int, PyData.eqv (.list (xs.map PyData.int)) (.list (ys.map PyData.int)) = decide (xs = ys)
  | [], [] => rfl
  | [], _ :: _ => rfl
  | _ :: _, [] => rfl
  | x :: xs, y :: ys => by
    have ih := ints_eqv xs ys
    show ((x == y) && PyData.eqvAll (xs.map PyData.int) (ys.map PyData.int)) = _
    have ih' : PyData.eqvAll (xs.map PyData.int) (ys.map PyData.int) = decide (xs = ys) := ih
    rw [ih', Bool.eq_iff_iff]
    simp [List.cons.injEq]
/-- the notes whose records stand in the cells from a on -/
def rdF (xs : List Int) : Nat → Nat → List Str → List Str
  | 0, _, told => told
  | n + 1, a, told => match noteAt xs a with
    | none => told
    | some z => if (xs.drop a).take (z.cps.size + 4) = recd told.length z then rdF xs n (a + z.cps.size + 4) (told ++ [z]) else told
def readJ (xs : List Int) : List Str := rdF xs (xs.length + 1) 0 []
theorem rdF_none {xs : List Int} {n a : Nat} {told : List Str} (h : noteAt xs a = none) : rdF xs (n + 1) a told = told := by
  show (match noteAt xs a with | none => told | some z => _) = told
  rw [h]
theorem rdF_some {xs : List Int} {n a : Nat} {told : List Str} {z : Str} (h : noteAt xs a = some z) : rdF xs (n + 1) a told = if (xs.drop a).take (z.cps.size + 4) = recd told.length z then rdF xs n (a + z.cps.size + 4) (told ++ [z]) else told := by
  show (match noteAt xs a with | none => told | some z => _) = _
  rw [h]
theorem sgD_len : sgD.length = 94 := by unfold sgD; rw [List.length_map, SG_len]
theorem sgD_put {i c : Nat} (hc : SG.cps[i]? = some c) : putK (sgD.take i) (.inl (c : Int)) (.str ⟨#[c]⟩) = sgD.take (i + 1) := by
  have hc' : SG.cps.toList[i]? = some c := by rw [Array.getElem?_toList]; exact hc
  have e : sgD[i]? = some (.inl (c : Int), .str ⟨#[c]⟩) := by unfold sgD; rw [List.getElem?_map, hc']; rfl
  have na : (sgD.take i).any (fun kv => decide (kv.1 = (.inl (c : Int) : Key))) = false := by
    rw [List.any_eq_false]
    intro kv hkv
    obtain ⟨j, hj⟩ := List.getElem?_of_mem hkv
    rw [List.getElem?_take] at hj
    split at hj
    · rename_i hlt
      unfold sgD at hj
      rw [List.getElem?_map] at hj
      cases hd : SG.cps.toList[j]? with
      | none => rw [hd] at hj; cases hj
      | some d =>
        rw [hd] at hj
        cases hj
        rw [decide_eq_true_eq]
        intro z
        have z' : (d : Int) = (c : Int) := by injection z
        have : d = c := by omega
        subst this
        have := (List.getElem?_inj (List.getElem?_eq_some_iff.mp hd).1 SG_nd).mp (hd.trans hc'.symm)
        omega
    · cases hj
  unfold putK
  rw [na, if_neg Bool.false_ne_true, List.take_add_one, e]
  rfl
def sv (zs : List Str) : List V := zs.map V.str
def spRead (K : PySem.W.Frag) : Sp := fun vs H Q _ => ∃ (c : Addr) (xs : List Int), vs = [.ref c] ∧ H c = some (.lst (iv xs)) ∧ xs.length ≤ 4000 ∧ ∀ a H', H a = none → H' a = some (.lst (sv (readJ xs))) → Same H H' → Q (.ref a) H'
section
variable {P : Program} {w : World} {K : PySem.W.Frag} {mg : Str → Option Value} {base : Heap}
theorem ok_read (C : Code K mg "read_journal" s_read_journal p_read_journal) (T : Tj mg) (g_record : Good P w K mg base "record" 3 p_record spRecord) (g_note_at : Good P w K mg base "note_at" 1 p_note_at (spNoteAt K)) : Good P w K mg base "read_journal" 4 p_read_journal (spRead K) := by
  refine C.good sc_read_journal (fun vs H Q E h => ?_) (fun f cdv A outer s H vs Q E hr h => ?_)
  · obtain ⟨c, xs, rfl, _⟩ := h
    rfl
  obtain ⟨c, xs, rfl, hc, hx, q⟩ := h
  refine ⟨_, (pss_cons (ps_setDC (i := 1) sc_read_journal.nd rfl (Or.inl rfl) (N' := ["sign"]) rfl (CScope.plain rfl (by decide +kernel) (by decide +kernel) (by decide +kernel)) (pi_str (pe_cst rfl T.SIGNS)) (fun _ _ _ _ => (pg_name (i := 0) (show List.Nodup (["sign"] : List Str) by decide +kernel) rfl (Or.inl rfl))) (fun _ _ _ _ => pf_nil) (fun _ _ _ _ => (pe_callB call_ord rfl T.ord bt_ord (pa_cons (pv 0) pa_nil))) (fun _ _ _ _ => (pv 0)))
  (pss_cons (ps_set (i := 2) sc_read_journal.nd rfl (Or.inl rfl) (pe_lst pa_nil))
  (pss_cons (ps_set (i := 3) sc_read_journal.nd rfl (Or.inl rfl) pe_int)
  (pss_cons (ps_set (i := 4) sc_read_journal.nd rfl (Or.inl rfl) (pcall g_note_at hr (pa_cons (pv 0) (pa_cons (pv 3) (pa_cons (pv 1) pa_nil)))))
  (pss_cons (ps_while PassesOwn.never (PW.pt (pw_and (pt_cmpR op_notN (pv 4) pe_non (nomark _)) (pw_and1 (pt_cmpR (op_eqD hr.units) (pe_slice sl_list (pv 0) (po_some (pv 3)) (po_some (pe_op op_add (pe_op op_add (pv 3) (pe_callB call_len_str rfl T.len bt_len (pa_cons (pv 4) pa_nil))) (pe_cst rfl T.CELLS_AROUND)))) (pcall g_record hr (pa_cons (pe_callB call_len_seq rfl T.len bt_len (pa_cons (pv 2) pa_nil)) (pa_cons (pv 4) pa_nil))) (nomark _))))) (pss_cons (ps_expr (pe_bm PySem.F.plainAttrs_list PySem.F.slot_list_append PySem.F.type_list_append mt_append (pv 2) (pa_cons (pv 4) pa_nil)))
  (pss_cons (ps_aug (i := 3) sc_read_journal.nd rfl (Or.inl rfl) (pe_op op_add (pe_callB call_len_str rfl T.len bt_len (pa_cons (pv 4) pa_nil)) (pe_cst rfl T.CELLS_AROUND)) ip_add)
  (pss_one (ps_set (i := 4) sc_read_journal.nd rfl (Or.inl rfl) (pcall g_note_at hr (pa_cons (pv 0) (pa_cons (pv 3) (pa_cons (pv 1) pa_nil)))))))))
  (pss_one (ps_ret (pv 2)))))))), ?_⟩
  refine ⟨_, rfl, fun d hd => ?_⟩
  refine dcomp_str (fun i σ HH => ∃ u, σ = [u] ∧ HH d = some (.dK (sgD.take i)) ∧ Same H HH) ⟨_, rfl, upd_same, same_new hd _⟩ (fun i c σ HH hc h => ?_) (fun σ HH h => ?_)
  · obtain ⟨u, rfl, e1, e2⟩ := h
    have hi : i < 94 := by
      have := (Array.getElem?_eq_some_iff.mp hc).1
      rw [SG_size] at this
      exact this
    unfold gName
    dsimp only
    refine iteT ⟨_, rfl, _, rfl, rfl, _, rfl, _, .inl (c : Int), e1, rfl, small1000 (by rw [List.length_take]; omega), _, rfl, ?_, e2.stepB SameB.upd hd⟩
    rw [upd_same, sgD_put hc]
  obtain ⟨u, rfl, e1, e2⟩ := h
  rw [SG_size, ← sgD_len, List.take_length] at e1
  refine ⟨leSize (by show 0 ≤ 1000; decide), fun lt hlt => ?_⟩
  have s1 : Same H (upd HH lt (.lst [])) := e2.trans (same_new hlt _)
  have fl : H lt = none := e2.free hlt
  have ed : (upd HH lt (.lst [])) d = some (.dK sgD) := same_new hlt _ _ _ e1
  generalize hH0 : upd HH lt (.lst []) = H0 at *
  have el : H0 lt = some (.lst (sv [])) := by rw [← hH0, upd_same]; rfl
  clear hH0
  refine ⟨_, rfl, _, rfl, _, rfl, c, d, xs, 0, rfl, SqL.of (s1 _ _ hc), ed, fun H1 s2 => ?_⟩
  refine ⟨fun m σ HH => ∃ (a : Nat) (told : List Str), σ = [some (.ref c), some (.ref d), some (.ref lt), some (.int a), some (ans (noteAt xs a))] ∧ HH lt = some (.lst (sv told)) ∧ Same H HH ∧ HH d = some (.dK sgD) ∧ rdF xs m a told = readJ xs ∧ xs.length < m + a ∧ told.length * 4 ≤ a ∧ a ≤ xs.length,
    ⟨xs.length + 1, 0, [], rfl, s2 _ _ el, s1.trans s2, s2 _ _ ed, rfl, by omega, by decide, Nat.zero_le _⟩, ?_⟩
  rintro m σ HH ⟨a, told, rfl, e3, e4, e5, e6, e7, e8, e9⟩
  obtain ⟨n, rfl⟩ : ∃ n, m = n + 1 := ⟨m - 1, by omega⟩
  refine ⟨_, rfl, rfl, _, rfl, ?_⟩
  cases hz : noteAt xs a with
  | none =>
    rw [rdF_none hz] at e6
    exact iteF (iteF ⟨_, rfl, q lt _ fl (by rw [← e6]; exact e3) e4⟩)
  | some z =>
    rw [rdF_some hz] at e6
    have nz := noteAt_ok hz
    have hzl := nz.len
    have hzl' : z.length ≤ sizeLine := leSize (by show z.cps.size ≤ 1000; omega)
    refine iteT ⟨_, rfl, _, rfl, _, rfl, _, rfl, _, rfl, z, rfl, hzl', _, _, rfl, rfl, _, _, rfl, rfl, _, rfl, c, _, rfl, SqL.of (e4 _ _ hc), fun p hp => ?_⟩
    have eb : cutV (iv xs) (some (a : Int)) (some ((a : Int) + (z.length : Int) + 4)) = iv ((xs.drop a).take (z.cps.size + 4)) := by
      have := cut_iv xs a (z.cps.size + 4)
      rw [show ((a + (z.cps.size + 4) : Nat) : Int) = (a : Int) + (z.cps.size : Int) + 4 by omega] at this
      exact this
    rw [eb]
    have svl : (sv told).length = told.length := List.length_map ..
    have s3 : Same HH (upd HH p (.lst (iv ((xs.drop a).take (z.cps.size + 4))))) := same_new hp _
    have e10 : (upd HH p (.lst (iv ((xs.drop a).take (z.cps.size + 4))))) p = some (.lst (iv ((xs.drop a).take (z.cps.size + 4)))) := upd_same
    generalize upd HH p (.lst (iv ((xs.drop a).take (z.cps.size + 4)))) = H2 at *
    refine ⟨_, rfl, lt, _, rfl, .inl (SqL.of (s3 _ _ e3)), _, rfl, (sv told).length, z, rfl, nz, fun r H3 fr er sr => ?_⟩
    refine ⟨_, _, .lst (sr _ _ e10) (ints_reps _), .lst er (ints_reps _), ints_shaped _, ints_shaped _, _, rfl, ?_⟩
    rw [ints_eqv, svl]
    have s4 : Same HH H3 := s3.trans sr
    by_cases hq : (xs.drop a).take (z.cps.size + 4) = recd told.length z
    · rw [decide_eq_true hq]
      rw [if_pos hq] at e6
      have hle : a + z.cps.size + 4 ≤ xs.length := by
        have := congrArg List.length hq
        rw [recd_len, List.length_take, List.length_drop] at this
        omega
      refine iteT ⟨fun σ' H' => ∃ (a : Nat) (told : List Str), σ' = [some (.ref c), some (.ref d), some (.ref lt), some (.int a), some (ans (noteAt xs a))] ∧ H' lt = some (.lst (sv told)) ∧ Same H H' ∧ H' d = some (.dK sgD) ∧ rdF xs n a told = readJ xs ∧ xs.length < n + a ∧ told.length * 4 ≤ a ∧ a ≤ xs.length, fun σ' H' h => ⟨n, by omega, h⟩, ?_⟩
      have e3' := s4 _ _ e3
      refine ⟨_, rfl, .inl ⟨rfl, _, SqL.of e3'⟩, _, rfl, lt, _, _, rfl, rfl, e3', small1000 (by rw [svl]; omega), ?_⟩
      have s5 : SameB lt HH (upd H3 lt (.lst (sv told ++ [ans (some z)]))) := (SameB.of s4).trans SameB.upd
      have e11 : (upd H3 lt (.lst (sv told ++ [ans (some z)]))) lt = some (.lst (sv (told ++ [z]))) := by rw [upd_same]; unfold sv; rw [List.map_append]; rfl
      generalize upd H3 lt (.lst (sv told ++ [ans (some z)])) = H4 at *
      have s6 : Same H H4 := e4.stepB s5 fl
      refine ⟨_, rfl, _, rfl, z, rfl, hzl', _, _, rfl, rfl, _, _, rfl, rfl, ?_⟩
      refine ⟨_, rfl, _, rfl, _, rfl, c, d, xs, a + z.cps.size + 4, ?_, SqL.of (s6 _ _ hc), s5 _ _ e5 (fun z => by rw [← z, e5] at e3; cases e3), fun H5 s7 => ?_⟩
      · show [V.ref c, V.int ((a : Int) + ((z.cps.size : Int) + 4)), V.ref d] = [V.ref c, V.int ((a + z.cps.size + 4 : Nat) : Int), V.ref d]
        rw [show (a : Int) + ((z.cps.size : Int) + 4) = ((a + z.cps.size + 4 : Nat) : Int) by omega]
      refine ⟨a + z.cps.size + 4, told ++ [z], ?_, s7 _ _ e11, s6.trans s7, s7 _ _ (s5 _ _ e5 (fun z => by rw [← z, e5] at e3; cases e3)), e6, by omega, by rw [List.length_append]; show (told.length + 1) * 4 ≤ _; omega, hle⟩
      show [some (V.ref c), some (V.ref d), some (V.ref lt), some (V.int ((a : Int) + ((z.cps.size : Int) + 4))), some (ans (noteAt xs (a + z.cps.size + 4)))] = _
      rw [show (a : Int) + ((z.cps.size : Int) + 4) = ((a + z.cps.size + 4 : Nat) : Int) by omega]
    · rw [decide_eq_false hq]
      rw [if_neg hq] at e6
      exact iteF ⟨_, rfl, q lt _ fl (by rw [← e6]; exact s4 _ _ e3) (e4.trans s4)⟩
end
end K36

set_option Elab.async false
set_option linter.all false
set_option maxRecDepth 100000
set_option pp.maxSteps 300
set_option maxHeartbeats 1000000
namespace K36
open PySem L2
abbrev s_Journal___init__ : Stmt := (inClass (top 17) 0)
abbrev p_Journal___init__ : List Str := ["self", "cells"]
theorem sc_Journal___init__ : FnScope ["self", "cells"] p_Journal___init__ (defScope s_Journal___init__) := ⟨rfl, rfl, rfl, by decide +kernel, rfl, by decide +kernel, by decide +kernel⟩
abbrev s_Journal_write : Stmt := (inClass (top 17) 1)
abbrev p_Journal_write : List Str := ["self", "note"]
abbrev s_Journal_notes : Stmt := (inClass (top 17) 2)
abbrev p_Journal_notes : List Str := ["self"]
theorem sc_Journal_notes : FnScope ["self"] p_Journal_notes (defScope s_Journal_notes) := ⟨rfl, rfl, rfl, by decide +kernel, rfl, by decide +kernel, by decide +kernel⟩
abbrev s_Journal_cells : Stmt := (inClass (top 17) 3)
abbrev p_Journal_cells : List Str := ["self"]
theorem sc_Journal_cells : FnScope ["self"] p_Journal_cells (defScope s_Journal_cells) := ⟨rfl, rfl, rfl, by decide +kernel, rfl, by decide +kernel, by decide +kernel⟩
structure Tx (K : PySem.W.Frag) (mg : Str → Option Value) (C : Addr) : Prop extends Tj mg where
  cl : Cls K C
  mgC : mg "Journal" = some (.ref C)
  n_kept : NoAttr K C "kept"
theorem pi_listK {X : Cx} {K : PySem.W.Frag} {tg l : Expr} {tl : TE} (h : X.K = K) (hl : PE X l tl) : PI X tg l (iList K tl) := h ▸ pi_list hl
theorem small9000 {n : Nat} (h : n ≤ 9000) : n < sizeLine := Nat.lt_of_le_of_lt h (by decide)
def fk (l : Addr) : List (Str × V) := [("kept", .ref l)]
theorem get_kept (l : Addr) : List.lookup ("kept" : Str) (fk l) = some (V.ref l) := fl_get (i := 0) (by show (["kept"] : List Str).Nodup; decide +kernel) rfl
theorem fk_no {l : Addr} {f : Str} (h : f ∉ (["kept"] : List Str)) : List.lookup f (fk l) = none := by
  cases e : List.lookup f (fk l) with
  | none => rfl
  | some v =>
    have := PySem.mem_of_lookup e
    simp only [fk, List.mem_singleton, Prod.mk.injEq] at this
    exact absurd (by rw [this.1]; exact List.mem_singleton.mpr rfl) h
/-- the journal at p, whose notes lie in the list at l -/
structure JAt (C : Addr) (H : Hp) (p l : Addr) (zs : List Str) : Prop where
  ob : ∃ dx, H p = some (.ins C dx (fk l))
  ls : H l = some (.lst (sv zs))
theorem JAt.same {C : Addr} {H H' : Hp} {p l : Addr} {zs : List Str} (h : JAt C H p l zs) (s : Same H H') : JAt C H' p l zs := ⟨let ⟨dx, e⟩ := h.ob; ⟨dx, s _ _ e⟩, s _ _ h.ls⟩
theorem JAt.ne {C : Addr} {H : Hp} {p l : Addr} {zs : List Str} (h : JAt C H p l zs) : p ≠ l := fun z => by
  obtain ⟨dx, e⟩ := h.ob
  rw [z, h.ls] at e
  cases e
/-- the records of notes, one behind another, from the k-th on -/
def recs : Nat → List Str → List Int
  | _, [] => []
  | k, z :: r => recd k z ++ recs (k + 1) r
theorem recs_snoc : ∀ (k : Nat) (zs : List Str) (z : Str), recs k (zs ++ [z]) = recs k zs ++ recd (k + zs.length) z
  | k, [], z => by show recd k z ++ [] = [] ++ recd (k + 0) z; rw [List.append_nil]; rfl
  | k, y :: r, z => by
    show recd k y ++ recs (k + 1) (r ++ [z]) = recd k y ++ recs (k + 1) r ++ _
    rw [recs_snoc (k + 1) r z, List.append_assoc, List.length_cons, show k + 1 + r.length = k + (r.length + 1) by omega]
theorem recs_len : ∀ {k : Nat} {zs : List Str}, (∀ z ∈ zs, NoteOk z) → (recs k zs).length ≤ 44 * zs.length
  | k, [], _ => Nat.zero_le _
  | k, z :: r, h => by
    show (recd k z ++ recs (k + 1) r).length ≤ 44 * (r.length + 1)
    have h1 := (h z (List.mem_cons_self ..)).len
    have h2 := recs_len (k := k + 1) (zs := r) fun y hy => h y (List.mem_cons_of_mem _ hy)
    rw [List.length_append, recd_len]
    omega
theorem recs_take : ∀ (k : Nat) (zs : List Str) (i : Nat), (recs k (zs.take i)).length ≤ (recs k zs).length
  | _, [], i => by rw [List.take_nil]; exact Nat.le_refl _
  | k, z :: r, 0 => Nat.zero_le _
  | k, z :: r, i + 1 => by
    have := recs_take (k + 1) r i
    rw [List.take_succ_cons]
    show (recd k z ++ recs (k + 1) (r.take i)).length ≤ (recd k z ++ recs (k + 1) r).length
    rw [List.length_append, List.length_append]
    omega
theorem iv_app (xs ys : List Int) : iv (xs ++ ys) = iv xs ++ iv ys := List.map_append ..
theorem take_snoc {α : Type} {l : List α} {i : Nat} {x : α} (h : l[i]? = some x) : l.take (i + 1) = l.take i ++ [x] := by rw [List.take_add_one, h]; rfl
def spInit (C : Addr) : Sp := fun vs H Q _ => ∃ (p dx c : Addr) (xs : List Int), vs = [.ref p, .ref c] ∧ H p = some (.ins C dx []) ∧ H c = some (.lst (iv xs)) ∧ xs.length ≤ 4000 ∧ ∀ l H', H l = none → JAt C H' p l (readJ xs) → SameB p H H' → Q .non H'
def spNotes (C : Addr) : Sp := fun vs H Q _ => ∃ (p l : Addr) (zs : List Str), vs = [.ref p] ∧ JAt C H p l zs ∧ ∀ a H', H a = none → H' a = some (.lst (sv zs)) → Same H H' → Q (.ref a) H'
def spCells (C : Addr) : Sp := fun vs H Q _ => ∃ (p l : Addr) (zs : List Str), vs = [.ref p] ∧ JAt C H p l zs ∧ (∀ z ∈ zs, NoteOk z) ∧ (recs 0 zs).length ≤ 8900 ∧ ∀ a H', H a = none → H' a = some (.lst (iv (recs 0 zs))) → Same H H' → Q (.ref a) H'
section
variable {P : Program} {w : World} {K : PySem.W.Frag} {mg : Str → Option Value} {base : Heap} {C : Addr}
theorem ok_init (F : ∃ f fd, Fun K "__init__" "Journal.__init__" s_Journal___init__ f fd ∧ Mk K C f ∧ Binds K fd p_Journal___init__ []) (T : Tx K mg C) (g_read_journal : Good P w K mg base "read_journal" 4 p_read_journal (spRead K)) : GoodI P w K mg base C 5 p_Journal___init__ (spInit C) := by
  obtain ⟨f, fd, F, Mk, b⟩ := F
  refine ⟨f, fd, Mk, b, F.ok sc_Journal___init__ (fun vs H Q E h => ?_) (fun cdv A outer s H vs Q E hr h => ?_)⟩
  · obtain ⟨p, dx, c, xs, rfl, _⟩ := h
    rfl
  obtain ⟨p, dx, c, xs, rfl, hp, hc, hx, q⟩ := h
  refine ⟨_, (pss_one (ps_fldE (pv 0) (pcall g_read_journal hr (pa_cons (pv 1) pa_nil)) rfl)), ?_⟩
  refine ⟨_, rfl, c, xs, rfl, hc, hx, fun l H1 fl hl s1 => ?_⟩
  refine ⟨_, rfl, p, C, dx, _, _, rfl, s1 _ _ hp, T.cl, T.n_kept, (by show 0 < 1000; decide), fl_new (by show _ ∉ ([] : List Str); decide +kernel), fun H2 h2 s2 => ?_⟩
  have npl : l ≠ p := fun z => by rw [z, hp] at fl; cases fl
  exact q l H2 fl ⟨⟨dx, h2⟩, s2 _ _ hl npl⟩ ((SameB.of s1).trans s2)
theorem ok_notes (c : CodeM K C "notes" "Journal.notes" s_Journal_notes p_Journal_notes) (T : Tx K mg C) : GoodM P w K mg base C "notes" 1 p_Journal_notes (spNotes C) := by
  refine c.good sc_Journal_notes (fun vs H Q E h => ?_) (fun f cdv A outer s H vs Q E hr h => ?_)
  · obtain ⟨p, l, zs, rfl, _⟩ := h
    rfl
  obtain ⟨p, l, zs, rfl, J, q⟩ := h
  refine ⟨_, (pss_one (ps_ret (pe_callTy call_list_of rfl T.list bt_list (pa_cons (pe_fld (pv 0) rfl) pa_nil)))), ?_⟩
  obtain ⟨dx, e1⟩ := J.ob
  exact ⟨_, rfl, p, C, dx, _, _, rfl, e1, T.cl, T.n_kept, get_kept l, l, _, rfl, .inl (SqL.of J.ls), fun a ha => q a _ ha upd_same (same_new ha _)⟩
theorem ok_cells (c : CodeM K C "cells" "Journal.cells" s_Journal_cells p_Journal_cells) (T : Tx K mg C) (g_record : Good P w K mg base "record" 3 p_record spRecord) : GoodM P w K mg base C "cells" 4 p_Journal_cells (spCells C) := by
  refine c.good sc_Journal_cells (fun vs H Q E h => ?_) (fun f cdv A outer s H vs Q E hr h => ?_)
  · obtain ⟨p, l, zs, rfl, _⟩ := h
    rfl
  obtain ⟨p, l, zs, rfl, J, nz, few, q⟩ := h
  refine ⟨_, (pss_one (ps_ret (pe_comp2 (N' := ["number", "note", "cell"]) rfl (CScope.plain rfl (by decide +kernel) (by decide +kernel) (by decide +kernel)) (pi_enumL0 rfl T.enumerate (pe_fld (pv 0) rfl)) (fun _ _ _ _ => (pg_tupK (K := K) (n := 2) rfl rfl (pgs_cons (pg_name (i := 0) (show List.Nodup (["number", "note", "cell"] : List Str) by decide +kernel) rfl (Or.inl rfl)) (pgs_cons (pg_name (i := 1) (show List.Nodup (["number", "note", "cell"] : List Str) by decide +kernel) rfl (Or.inl rfl)) pgs_nil)))) (fun _ _ _ _ => (pi_listK (K := K) rfl (pcall g_record hr (pa_cons (pv 0) (pa_cons (pv 1) pa_nil))))) (fun _ _ _ _ => (pg_name (i := 2) (show List.Nodup (["number", "note", "cell"] : List Str) by decide +kernel) rfl (Or.inl rfl))) (fun _ _ _ _ => (pv 2))))), ?_⟩
  obtain ⟨dx, e1⟩ := J.ob
  have svl : (sv zs).length = zs.length := List.length_map ..
  refine ⟨_, rfl, p, C, dx, _, _, rfl, e1, T.cl, T.n_kept, get_kept l, l, rfl, ⟨_, SqL.of J.ls⟩, fun m hm => ?_⟩
  have s0 := same_new hm (.lst [])
  refine comp2_enumL (xs := sv zs) (fun i σ HH => ∃ u v w, σ = [u, v, w] ∧ HH m = some (.lst (iv (recs 0 (zs.take i)))) ∧ Same H HH) ⟨_, _, _, rfl, upd_same, s0⟩ (fun i σ HH _ h => ?_) (fun i x t σ HH hx h ht => ?_) (fun σ HH h => ?_)
  · obtain ⟨u, v, w, rfl, e2, e3⟩ := h
    exact SqL.of (e3 _ _ J.ls)
  · obtain ⟨u, v, w, rfl, e2, e3⟩ := h
    have hi : i < zs.length := by
      have := (List.getElem?_eq_some_iff.mp hx).1
      rw [svl] at this
      exact this
    have hz : zs[i]? = some zs[i] := List.getElem?_eq_getElem hi
    have hx' : x = .str zs[i] := by
      unfold sv at hx
      rw [List.getElem?_map, hz] at hx
      exact (Option.some.inj hx).symm
    subst hx'
    generalize zs[i] = z at *
    have nzi := nz z (List.mem_of_getElem? hz)
    refine ⟨t, _, rfl, SqT.of upd_same, rfl, _, _, rfl, _, _, rfl, rfl, ?_⟩
    have st := same_new ht (.tup [.int ((0 + i : Nat) : Int), .str z])
    refine ⟨_, rfl, _, rfl, 0 + i, z, rfl, nzi, fun r H1 fr hr1 s1 => ⟨r, rfl, ⟨_, SqL.of hr1⟩, ?_⟩⟩
    have nmr : m ≠ r := fun e => by rw [← e] at fr; rw [st _ _ e2] at fr; cases fr
    have rl := recs_take 0 zs (i + 1)
    have rs := recs_snoc 0 (zs.take i) z
    rw [List.length_take, Nat.min_eq_left (Nat.le_of_lt hi)] at rs
    rw [take_snoc hz, rs, List.length_append, recd_len] at rl
    refine cin_list (xs := iv (recd (0 + i) z)) (fun j σ HH => ∃ u v w, σ = [u, v, w] ∧ HH m = some (.lst (iv (recs 0 (zs.take i) ++ (recd (0 + i) z).take j))) ∧ HH r = some (.lst (iv (recd (0 + i) z))) ∧ Same H HH) ⟨_, _, _, rfl, ?_, hr1, (e3.trans st).trans s1⟩ (fun j σ HH _ h => ?_) (fun j x σ HH hx h => ?_) (fun σ HH h => ?_)
    · rw [List.take_zero, List.append_nil]
      exact s1 _ _ (st _ _ e2)
    · obtain ⟨u, v, w, rfl, e4, e5, e6⟩ := h
      exact SqL.of e5
    · obtain ⟨u, v, w, rfl, e4, e5, e6⟩ := h
      have hj : j < (recd (0 + i) z).length := by
        have := (List.getElem?_eq_some_iff.mp hx).1
        rw [iv_len] at this
        exact this
      have hy : (recd (0 + i) z)[j]? = some (recd (0 + i) z)[j] := List.getElem?_eq_getElem hj
      have hx' : x = .int (recd (0 + i) z)[j] := by
        unfold iv at hx
        rw [List.getElem?_map, hy] at hx
        exact (Option.some.inj hx).symm
      subst hx'
      have hjl := hj
      rw [recd_len] at hjl
      have nl := nzi.len
      refine ⟨_, rfl, _, e4, small9000 (by rw [iv_len, List.length_append, List.length_take]; omega), _, _, _, rfl, ?_, by rw [upd_ne (Ne.symm nmr)]; exact e5, e6.stepB SameB.upd hm⟩
      rw [upd_same, take_snoc hy, ← List.append_assoc, iv_app _ [_]]
      rfl
    · obtain ⟨u, v, w, rfl, e4, e5, e6⟩ := h
      rw [iv_len, List.take_length] at e4
      refine ⟨_, _, _, rfl, ?_, e6⟩
      have := recs_snoc 0 (zs.take i) z
      rw [List.length_take, Nat.min_eq_left (Nat.le_of_lt hi)] at this
      rw [take_snoc hz, this]
      exact e4
  · obtain ⟨u, v, w, rfl, e2, e3⟩ := h
    rw [svl, List.take_length] at e2
    exact q m _ hm e2 e3
end
end K36

set_option Elab.async false
set_option linter.all false
set_option maxRecDepth 100000
set_option pp.maxSteps 300
set_option maxHeartbeats 1000000
namespace K36
open PySem L2
/-! what is read of cells that are cut -/
def lenr : List Str → Nat
  | [] => 0
  | z :: r => z.cps.size + 4 + lenr r
theorem recs_lenr : ∀ (k : Nat) (zs : List Str), (recs k zs).length = lenr zs
  | _, [] => rfl
  | k, z :: r => by
    show (recd k z ++ recs (k + 1) r).length = _
    rw [List.length_append, recd_len, recs_lenr (k + 1) r]
    rfl
/-- the notes whose records are whole within m cells -/
def due : List Str → Nat → List Str
  | [], _ => []
  | z :: r, m => if z.cps.size + 4 ≤ m then z :: due r (m - (z.cps.size + 4)) else []
theorem due_snoc (z : Str) : ∀ (zs : List Str) (m : Nat), due (zs ++ [z]) m = due zs m ++ (if lenr (zs ++ [z]) ≤ m then [z] else [])
  | [], m => by
    show (if z.cps.size + 4 ≤ m then z :: due [] (m - (z.cps.size + 4)) else []) = [] ++ (if z.cps.size + 4 + 0 ≤ m then [z] else [])
    rfl
  | y :: r, m => by
    show (if y.cps.size + 4 ≤ m then y :: due (r ++ [z]) (m - (y.cps.size + 4)) else []) = (if y.cps.size + 4 ≤ m then y :: due r (m - (y.cps.size + 4)) else []) ++ (if y.cps.size + 4 + lenr (r ++ [z]) ≤ m then [z] else [])
    by_cases h : y.cps.size + 4 ≤ m
    · rw [if_pos h, if_pos h, due_snoc z r]
      by_cases h2 : lenr (r ++ [z]) ≤ m - (y.cps.size + 4)
      · rw [if_pos h2, if_pos (by omega)]; rfl
      · rw [if_neg h2, if_neg (by omega)]; rfl
    · rw [if_neg h, if_neg h, if_neg (by omega)]; rfl
theorem due_len : ∀ (zs : List Str) (m : Nat), (due zs m).length ≤ zs.length
  | [], _ => Nat.le_refl _
  | z :: r, m => by
    show (if z.cps.size + 4 ≤ m then z :: due r (m - (z.cps.size + 4)) else []).length ≤ r.length + 1
    split
    · have := due_len r (m - (z.cps.size + 4))
      rw [List.length_cons]
      omega
    · exact Nat.zero_le _
theorem toZ_codes (z : Str) : toZ (codes z) = z := by
  unfold toZ codes
  rw [List.map_map]
  have : (z.cps.toList.map (Int.toNat ∘ fun (c : Nat) => (c : Int))) = z.cps.toList := by
    rw [show (Int.toNat ∘ fun (c : Nat) => (c : Int)) = id from rfl, List.map_id]
  rw [this]
theorem codes_sg {z : Str} (nz : NoteOk z) : (codes z).all isSg = true := by
  rw [List.all_eq_true]
  intro x hx
  obtain ⟨c, hc, rfl⟩ := List.mem_map.mp hx
  exact isSg_of (nz.sg c hc)
theorem recd_1 (k : Nat) (z : Str) : (recd k z)[1]? = some (z.cps.size : Int) := rfl
theorem noteAt_whole {pre post : List Int} {k : Nat} {z : Str} (nz : NoteOk z) : noteAt (pre ++ (recd k z ++ post)) pre.length = some z := by
  have hl := nz.len
  have h1 : (pre ++ (recd k z ++ post))[pre.length + 1]? = some (z.cps.size : Int) := by
    rw [List.getElem?_append_right (by omega), Nat.add_sub_cancel_left, List.getElem?_append_left (by rw [recd_len]; omega)]
    exact recd_1 k z
  have h2 : cut3 (pre ++ (recd k z ++ post)) pre.length ((z.cps.size : Int)).toNat = codes z := by
    unfold cut3
    rw [Int.toNat_natCast, ← List.drop_drop, List.drop_left]
    have : recd k z ++ post = [((k : Int) % 900), (z.cps.size : Int), 60 - (z.cps.size : Int)] ++ (codes z ++ ([wsF 0 (hdr k z) % 997] ++ post)) := by
      unfold recd
      rw [show hdr k z = [((k : Int) % 900), (z.cps.size : Int), 60 - (z.cps.size : Int)] ++ codes z from rfl, List.append_assoc, List.append_assoc]
    rw [this]
    show (codes z ++ ([wsF 0 (hdr k z) % 997] ++ post)).take z.cps.size = codes z
    rw [← codes_len, List.take_left]
  unfold noteAt
  rw [h1]
  show (if 0 ≤ (z.cps.size : Int) ∧ (z.cps.size : Int) ≤ 40 then _ else _) = _
  rw [if_pos ⟨by omega, by omega⟩, h2, if_pos (codes_sg nz), toZ_codes]
end K36

set_option Elab.async false
set_option linter.all false
set_option maxRecDepth 100000
set_option pp.maxSteps 300
set_option maxHeartbeats 1000000
namespace K36
open PySem L2
abbrev s_l_whole : Stmt := top 21
abbrev p_l_whole : List Str := ["_law_thing"]
theorem sc_l_whole : FnScope ["_law_thing"] p_l_whole (defScope s_l_whole) := ⟨rfl, rfl, rfl, by decide +kernel, rfl, by decide +kernel, by decide +kernel⟩
abbrev s_l_signs : Stmt := top 22
abbrev p_l_signs : List Str := []
theorem sc_l_signs : FnScope ["_law_some"] p_l_signs (defScope s_l_signs) := ⟨rfl, rfl, rfl, by decide +kernel, rfl, by decide +kernel, by decide +kernel⟩
abbrev s_l_note : Stmt := top 23
abbrev p_l_note : List Str := ["_law_bag_here"]
theorem sc_l_note : FnScope ["_law_bag_here", "_law_size", "_law_start", "_law_step", "_law_some", "_law_signs_here"] p_l_note (defScope s_l_note) := ⟨rfl, rfl, rfl, by decide +kernel, rfl, by decide +kernel, by decide +kernel⟩
abbrev s_l_record : Stmt := top 24
abbrev p_l_record : List Str := ["_law_number", "_law_note_here"]
theorem sc_l_record : FnScope ["_law_number", "_law_note_here", "_law_cells", "_law_total", "_law_place"] p_l_record (defScope s_l_record) := ⟨rfl, rfl, rfl, by decide +kernel, rfl, by decide +kernel, by decide +kernel⟩
abbrev s_l_are_cells : Stmt := top 25
abbrev p_l_are_cells : List Str := ["_law_found", "_law_due"]
theorem sc_l_are_cells : FnScope ["_law_found", "_law_due"] p_l_are_cells (defScope s_l_are_cells) := ⟨rfl, rfl, rfl, by decide +kernel, rfl, by decide +kernel, by decide +kernel⟩
abbrev s_l_are_notes : Stmt := top 26
abbrev p_l_are_notes : List Str := ["_law_found", "_law_due"]
theorem sc_l_are_notes : FnScope ["_law_found", "_law_due"] p_l_are_notes (defScope s_l_are_notes) := ⟨rfl, rfl, rfl, by decide +kernel, rfl, by decide +kernel, by decide +kernel⟩
theorem isi_list {K : PySem.W.Frag} {H : Hp} {a : Addr} {xs : List V} {Q : VK} (h : H a = some (.lst xs)) (q : Q (.bl true) H) : rIsi K [.ref a, .ty "list"] H Q := by
  unfold rIsi
  exact ⟨_, _, _, _, rfl, .lst h, by rfl, q⟩
theorem call_isiK {X : Cx} {K : PySem.W.Frag} (h : X.K = K) : CallR X (.builtin "isinstance") (rIsi K) := h ▸ call_isi
def spW : Sp := fun vs H Q _ => ∃ i, vs = [.int i] ∧ Q (.bl true) H
def spSigns : Sp := fun vs H Q _ => vs = [] ∧ Q (.str SG) H
def spLNote : Sp := fun vs H Q _ => ∃ (b : Addr) (n : Nat), vs = [.ref b] ∧ BagAt H b n ∧ n ≤ 9000 ∧ ∀ z H', NoteOk z → BagAt H' b (n + 6) → SameB b H H' → Q (.str z) H'
def spAreCells : Sp := fun vs H Q _ => ∃ (a b : Addr) (xs : List Int), vs = [.ref a, .ref b] ∧ H a = some (.lst (iv xs)) ∧ H b = some (.lst (iv xs)) ∧ xs.length ≤ 8000 ∧ ∀ H', Same H H' → Q (.bl true) H'
def spAreNotes : Sp := fun vs H Q _ => ∃ (a b : Addr) (zs : List Str), vs = [.ref a, .ref b] ∧ H a = some (.lst (sv zs)) ∧ H b = some (.lst (sv zs)) ∧ (∀ z ∈ zs, NoteOk z) ∧ zs.length ≤ 8000 ∧ ∀ H', Same H H' → Q (.bl true) H'
theorem notes_reps {H : Hp} : ∀ zs : List Str, Reps H (sv zs) (zs.map PyData.str)
  | [] => .nil
  | z :: r => .cons (.str z) (notes_reps r)
theorem note_strOk {z : Str} (h : NoteOk z) : PyData.strOk z = true := by
  unfold PyData.strOk
  rw [Array.all_eq_true']
  exact fun c hc => decide_eq_true (by have := SG_small c (h.sg c (Array.mem_toList_iff.mpr hc)); omega)
theorem notes_lay : ∀ {zs : List Str}, (∀ z ∈ zs, NoteOk z) → PyData.canLayAll0 (zs.map PyData.str) = true ∧ PyData.depthAll (zs.map PyData.str) ≤ 1
  | [], _ => ⟨rfl, by show 0 ≤ 1; decide⟩
  | z :: r, h => by
    have ih := notes_lay (zs := r) fun y hy => h y (List.mem_cons_of_mem _ hy)
    refine ⟨?_, ?_⟩
    · show (PyData.strOk z && PyData.canLayAll0 (r.map PyData.str)) = true
      rw [ih.1, note_strOk (h z (List.mem_cons_self ..))]; rfl
    · show max 0 (PyData.depthAll (r.map PyData.str)) ≤ 1
      exact Nat.max_le.mpr ⟨by decide, ih.2⟩
theorem notes_shaped {zs : List Str} (h : ∀ z ∈ zs, NoteOk z) : SeqAt.shaped (.list (zs.map PyData.str)) = true := by
  have h1 := notes_lay h
  show (PyData.canLayAll0 (zs.map PyData.str) && decide (PyData.depthAll (zs.map PyData.str) + 1 ≤ 64)) = true
  rw [h1.1, Bool.true_and]
  exact decide_eq_true (by omega)
theorem trues {n : Nat} : (List.replicate n true).all id = true := by simp
section
variable {P : Program} {w : World} {K : PySem.W.Frag} {mg : Str → Option Value} {base : Heap}
theorem ok_whole (c : Code K mg "_law_whole" s_l_whole p_l_whole) (T : Tj mg) : Good P w K mg base "_law_whole" 1 p_l_whole spW := by
  refine c.good sc_l_whole (fun vs H Q E h => ?_) (fun f cdv A outer s H vs Q E hr h => ?_)
  · obtain ⟨i, rfl, _⟩ := h
    rfl
  obtain ⟨i, rfl, q⟩ := h
  refine ⟨_, (pss_one (ps_ret (pe_and (pe_callB call_isi rfl T.isinstance bt_isinstance (pa_cons (pv 0) (pa_cons (pe_bltn (v := .ty "int") rfl T.int bt_int rfl) pa_nil))) (pe_one (pe_not (pe_callB call_isi rfl T.isinstance bt_isinstance (pa_cons (pv 0) (pa_cons (pe_bltn (v := .ty "bool") rfl T.bool bt_bool rfl) pa_nil)))))))), ?_⟩
  exact ⟨_, rfl, isi_int True.intro ⟨_, rfl, iteT ⟨_, rfl, isi_bool rfl ⟨_, rfl, q⟩⟩⟩⟩
theorem ok_signs (c : Code K mg "_law_signs" s_l_signs p_l_signs) (T : Tj mg) : Good P w K mg base "_law_signs" 1 p_l_signs spSigns := by
  refine c.good sc_l_signs (fun vs H Q E h => ?_) (fun f cdv A outer s H vs Q E hr h => ?_)
  · obtain ⟨rfl, _⟩ := h
    rfl
  obtain ⟨rfl, q⟩ := h
  refine ⟨_, (pss_cons (ps_set (i := 0) sc_l_signs.nd rfl (Or.inl rfl) pe_str)
  (pss_one (ps_ret (pe_op op_add_str (pv 0) pe_str)))), ?_⟩
  refine ⟨_, rfl, _, _, rfl, rfl, leSize (by decide +kernel), ?_⟩
  have : Str.ofString " !\"#$&'()*+,-./0123456789:;<=>?@ABCDEFGHIJKLMNOPQRSTUVWXYZ[\\]^_`" ++ Str.ofString "abcdefghijklmnopqrstuvwxyz{|}~" = SG := by decide +kernel
  show Q (.str (Str.ofString " !\"#$&'()*+,-./0123456789:;<=>?@ABCDEFGHIJKLMNOPQRSTUVWXYZ[\\]^_`" ++ Str.ofString "abcdefghijklmnopqrstuvwxyz{|}~")) H
  rw [this]
  exact q
theorem ok_lrecord (C : Code K mg "_law_record" s_l_record p_l_record) (T : Tj mg) : Good P w K mg base "_law_record" 1 p_l_record spRecord := by
  refine C.good sc_l_record (fun vs H Q E h => ?_) (fun f cdv A outer s H vs Q E hr h => ?_)
  · obtain ⟨k, z, rfl, _⟩ := h
    rfl
  obtain ⟨k, z, rfl, nz, q⟩ := h
  have hl := nz.len
  refine ⟨_, (pss_cons (ps_set (i := 2) sc_l_record.nd rfl (Or.inl rfl) (pe_op op_cat (pe_lst (pa_cons (pe_op op_mod (pv 0) pe_int) (pa_cons (pe_callB call_len_str rfl T.len bt_len (pa_cons (pv 1) pa_nil)) (pa_cons (pe_op op_sub pe_int (pe_callB call_len_str rfl T.len bt_len (pa_cons (pv 1) pa_nil))) pa_nil)))) (pe_comp (N' := ["_law_sign"]) rfl (CScope.plain rfl (by decide +kernel) (by decide +kernel) (by decide +kernel)) (pi_str (pv 1)) (fun _ _ _ _ => (pg_name (i := 0) (show List.Nodup (["_law_sign"] : List Str) by decide +kernel) rfl (Or.inl rfl))) (fun _ _ _ _ => pf_nil) (fun _ _ _ _ => (pe_callB call_ord rfl T.ord bt_ord (pa_cons (pv 0) pa_nil))))))
  (pss_cons (ps_set (i := 3) sc_l_record.nd rfl (Or.inl rfl) pe_int)
  (pss_cons (ps_for PassesOwn.never rfl (pi_range1 rfl T.range (pa_cons (pe_callB call_len_seq rfl T.len bt_len (pa_cons (pv 2) pa_nil)) pa_nil)) (pg_name (i := 4) sc_l_record.nd rfl (Or.inl rfl))
  (pss_one (ps_set (i := 3) sc_l_record.nd rfl (Or.inl rfl) (pe_op op_add (pv 3) (pe_op op_mul (pe_op op_add (pv 4) pe_int) (pe_ix ix_list (pv 2) (pv 4) (fun _ _ => rfl)))))))
  (pss_one (ps_ret (pe_op op_cat (pv 2) (pe_lst (pa_cons (pe_op op_mod (pv 3) pe_int) pa_nil)))))))), ?_⟩
  have hzl : z.length ≤ sizeLine := leSize (by show z.cps.size ≤ 1000; omega)
  refine ⟨_, rfl, _, _, rfl, rfl, (by show (0 : Int) < 900; decide), _, rfl, z, rfl, hzl, _, rfl, z, rfl, hzl, _, _, rfl, rfl, leSize (by show 3 ≤ 1000; decide), fun p hp => ?_⟩
  refine ⟨_, rfl, z, rfl, fun l hl' => ?_⟩
  have npl : p ≠ l := fun e => by rw [e, upd_same] at hl'; cases hl'
  have s2 : Same H (upd H p (.lst [.int ((k : Int) % 900), .int (z.length : Int), .int (60 - (z.length : Int))])) := same_new hp _
  refine comp_str (fun i σ HH => ∃ u, σ = [u] ∧ HH l = some (.lst (iv ((codes z).take i))) ∧ HH p = some (.lst [.int ((k : Int) % 900), .int (z.length : Int), .int (60 - (z.length : Int))]) ∧ Same H HH) ⟨_, rfl, upd_same, ?_, ?_⟩ (fun i c σ HH hc h => ?_) (fun σ HH h => ?_)
  · rw [upd_ne npl, upd_same]
  · exact s2.trans (same_new hl' _)
  · obtain ⟨u, rfl, e1, e2, e3⟩ := h
    have hi : i < z.cps.size := (Array.getElem?_eq_some_iff.mp hc).1
    unfold gName
    dsimp only
    refine iteT ⟨_, rfl, _, rfl, rfl, _, e1, small1000 (by rw [iv_len, List.length_take, codes_len]; omega), _, rfl, ?_, ?_, ?_⟩
    · rw [upd_same]
      have : (codes z)[i]? = some ((c : Nat) : Int) := by
        unfold codes
        rw [List.getElem?_map, Array.getElem?_toList, hc]
        rfl
      rw [take_snoc this]
      unfold iv
      rw [List.map_append]
      rfl
    · rw [upd_ne npl]
      exact e2
    · exact e3.stepB SameB.upd (s2.free hl')
  · obtain ⟨u, rfl, e1, e2, e3⟩ := h
    rw [← codes_len, List.take_length] at e1
    refine ⟨p, l, _, _, rfl, rfl, e2, e1, leSize (by rw [iv_len, codes_len]; show 3 + _ ≤ 1000; omega), fun c hc => ?_⟩
    generalize hH : upd HH c (.lst ([.int ((k : Int) % 900), .int (z.length : Int), .int (60 - (z.length : Int))] ++ iv (codes z))) = H5
    have ec5 : H5 c = some (.lst (iv (hdr k z))) := by rw [← hH, upd_same]; rfl
    have s5 : Same H H5 := by rw [← hH]; exact e3.trans (same_new hc _)
    clear hH
    refine ⟨_, rfl, c, _, rfl, .inl (SqL.of ec5), _, rfl, by omega, ?_, ?_⟩
    · rw [iv_len, hdr_len]; omega
    rw [Int.toNat_natCast, iv_len]
    refine for_range (fun i σ HH => ∃ u, σ = [some (.int k), some (.str z), some (.ref c), some (.int ((List.range i).map fun j => (hdr k z).getD j 0 * ((1 + j : Nat) : Int)).sum), u] ∧ HH = H5) ⟨_, rfl, rfl⟩ (fun i σ HH hi h => ?_) (fun σ HH h => ?_)
    · obtain ⟨u, rfl, rfl⟩ := h
      have hx : (iv (hdr k z))[i]? = some (.int ((hdr k z).getD i 0)) := by
        unfold iv
        rw [List.getElem?_map, List.getElem?_eq_getElem hi, List.getD_eq_getElem?_getD, List.getElem?_eq_getElem hi]
        rfl
      have hx' : atI (iv (hdr k z)) (0 + (i : Int)) = some (.int ((hdr k z).getD i 0)) := by rw [Int.zero_add]; exact atI_nat hx
      have hi2 := hi
      rw [hdr_len] at hi2
      refine ⟨_, rfl, _, rfl, _, _, rfl, rfl, _, rfl, _, rfl, c, _, _, _, rfl, rfl, SqL.of ec5, hx', _, _, rfl, rfl, .inl ⟨by omega, by omega⟩, _, _, rfl, rfl, some (.int (0 + (i : Int))), ?_, rfl⟩
      show [some (V.int k), some (.str z), some (.ref c), some (.int (((List.range i).map fun j => (hdr k z).getD j 0 * ((1 + j : Nat) : Int)).sum + (0 + (i : Int) + 1) * (hdr k z).getD i 0)), some (.int (0 + (i : Int)))] = _
      rw [List.range_succ, List.map_append, List.sum_append, show (([i].map fun j => (hdr k z).getD j 0 * ((1 + j : Nat) : Int)).sum) = (0 + (i : Int) + 1) * (hdr k z).getD i 0 by
        show (hdr k z).getD i 0 * ((1 + i : Nat) : Int) + 0 = _
        rw [Int.add_zero, Int.mul_comm, show ((1 + i : Nat) : Int) = 0 + (i : Int) + 1 by omega]]
    · obtain ⟨u, rfl, rfl⟩ := h
      refine ⟨_, rfl, _, rfl, _, _, rfl, rfl, (by show (0 : Int) < 997; decide), leSize (by show 1 ≤ 1000; decide), fun n hn => ?_⟩
      have ncn : c ≠ n := fun e => by rw [e, hn] at ec5; cases ec5
      refine ⟨c, n, _, _, rfl, rfl, by rw [upd_ne ncn]; exact ec5, upd_same, leSize (by rw [iv_len, hdr_len]; show _ + 1 ≤ 1000; omega), fun o ho => ?_⟩
      have s6 : Same H (upd HH n (.lst [V.int ((((List.range (hdr k z).length).map fun j => (hdr k z).getD j 0 * ((1 + j : Nat) : Int)).sum) % 997)])) := s5.trans (same_new hn _)
      refine q o _ (s6.free ho) ?_ (s6.trans (same_new ho _))
      rw [upd_same]
      have : wsF 0 (hdr k z) = ((List.range (hdr k z).length).map fun j => (hdr k z).getD j 0 * ((1 + j : Nat) : Int)).sum := by
        rw [wsF_sum]
        refine congrArg List.sum (List.map_congr_left fun j _ => ?_)
        rw [Nat.zero_add]
      rw [← this]
      unfold recd iv
      rw [List.map_append]
      rfl
theorem ok_are_cells (C : Code K mg "_law_are_cells" s_l_are_cells p_l_are_cells) (T : Tj mg) (g_l_whole : Good P w K mg base "_law_whole" 1 p_l_whole spW) : Good P w K mg base "_law_are_cells" 2 p_l_are_cells spAreCells := by
  refine C.good sc_l_are_cells (fun vs H Q E h => ?_) (fun f cdv A outer s H vs Q E hr h => ?_)
  · obtain ⟨a, b, xs, rfl, _⟩ := h
    rfl
  obtain ⟨a, b, xs, rfl, ha, hb, few, q⟩ := h
  refine ⟨_, (pss_one (ps_ret (pe_and (pe_callB call_isi rfl T.isinstance bt_isinstance (pa_cons (pv 0) (pa_cons (pe_bltn (v := .ty "list") rfl T.list bt_list rfl) pa_nil))) (pe_and (pe_cmpR (op_eqD hr.units) (pv 0) (pv 1) (nomark _)) (pe_one (pe_callB (call_all rfl) rfl T.all bt_all (pa_cons (pe_comp (N' := ["_law_cell"]) rfl (CScope.plain rfl (by decide +kernel) (by decide +kernel) (by decide +kernel)) (pi_list (pv 0)) (fun _ _ _ _ => (pg_name (i := 0) (show List.Nodup (["_law_cell"] : List Str) by decide +kernel) rfl (Or.inl rfl))) (fun _ _ _ _ => pf_nil) (fun _ _ _ _ => (pcall g_l_whole hr (pa_cons (pv 0) pa_nil)))) pa_nil))))))), ?_⟩
  refine ⟨_, rfl, isi_list ha ⟨_, rfl, iteT ⟨_, rfl, _, rfl, _, _, .lst ha (ints_reps _), .lst hb (ints_reps _), ints_shaped _, ints_shaped _, _, rfl, ?_⟩⟩⟩
  rw [ints_eqv, decide_eq_true rfl]
  refine iteT ⟨_, rfl, a, rfl, ⟨_, SqL.of ha⟩, fun l hl => ?_⟩
  refine comp_list (xs := iv xs) (fun i σ HH => ∃ u, σ = [u] ∧ HH l = some (.lst ((List.replicate i true).map V.bl)) ∧ Same H HH) ⟨_, rfl, upd_same, same_new hl _⟩ (fun i σ HH _ h => ?_) (fun i x σ HH hx h => ?_) (fun σ HH h => ?_)
  · obtain ⟨u, rfl, e1, e2⟩ := h
    exact SqL.of (e2 _ _ ha)
  · obtain ⟨u, rfl, e1, e2⟩ := h
    have hi : i < xs.length := by
      have := (List.getElem?_eq_some_iff.mp hx).1
      rw [iv_len] at this
      exact this
    obtain ⟨j, hj⟩ : ∃ j, x = .int j := by
      unfold iv at hx
      rw [List.getElem?_map, List.getElem?_eq_getElem hi] at hx
      exact ⟨_, (Option.some.inj hx).symm⟩
    subst hj
    unfold gName
    dsimp only
    refine iteT ⟨_, rfl, j, rfl, _, e1, small9000 (by simp; omega), _, rfl, ?_, e2.stepB SameB.upd hl⟩
    rw [upd_same, List.replicate_succ', List.map_append]
    rfl
  · obtain ⟨u, rfl, e1, e2⟩ := h
    refine ⟨l, List.replicate xs.length true, rfl, SqL.of (by rw [iv_len] at e1; exact e1), ?_⟩
    rw [trues]
    exact q _ e2
theorem ok_are_notes (C : Code K mg "_law_are_notes" s_l_are_notes p_l_are_notes) (T : Tj mg) : Good P w K mg base "_law_are_notes" 1 p_l_are_notes spAreNotes := by
  refine C.good sc_l_are_notes (fun vs H Q E h => ?_) (fun f cdv A outer s H vs Q E hr h => ?_)
  · obtain ⟨a, b, zs, rfl, _⟩ := h
    rfl
  obtain ⟨a, b, zs, rfl, ha, hb, nz, few, q⟩ := h
  refine ⟨_, (pss_one (ps_ret (pe_and (pe_callB call_isi rfl T.isinstance bt_isinstance (pa_cons (pv 0) (pa_cons (pe_bltn (v := .ty "list") rfl T.list bt_list rfl) pa_nil))) (pe_and (pe_cmpR (op_eqD hr.units) (pv 0) (pv 1) (nomark _)) (pe_one (pe_callB (call_all rfl) rfl T.all bt_all (pa_cons (pe_comp (N' := ["_law_note_here"]) rfl (CScope.plain rfl (by decide +kernel) (by decide +kernel) (by decide +kernel)) (pi_list (pv 0)) (fun _ _ _ _ => (pg_name (i := 0) (show List.Nodup (["_law_note_here"] : List Str) by decide +kernel) rfl (Or.inl rfl))) (fun _ _ _ _ => pf_nil) (fun _ _ _ _ => (pe_callB (call_isiK (K := K) rfl) rfl T.isinstance bt_isinstance (pa_cons (pv 0) (pa_cons (pe_bltn (v := .ty "str") rfl T.str bt_str rfl) pa_nil))))) pa_nil))))))), ?_⟩
  have svl : (sv zs).length = zs.length := List.length_map ..
  refine ⟨_, rfl, isi_list ha ⟨_, rfl, iteT ⟨_, rfl, _, rfl, _, _, .lst ha (notes_reps _), .lst hb (notes_reps _), notes_shaped nz, notes_shaped nz, _, rfl, ?_⟩⟩⟩
  rw [SeqAt.eqv_refl _ (SeqAt.canLay_of_shaped (notes_shaped nz))]
  refine iteT ⟨_, rfl, a, rfl, ⟨_, SqL.of ha⟩, fun l hl => ?_⟩
  refine comp_list (xs := sv zs) (fun i σ HH => ∃ u, σ = [u] ∧ HH l = some (.lst ((List.replicate i true).map V.bl)) ∧ Same H HH) ⟨_, rfl, upd_same, same_new hl _⟩ (fun i σ HH _ h => ?_) (fun i x σ HH hx h => ?_) (fun σ HH h => ?_)
  · obtain ⟨u, rfl, e1, e2⟩ := h
    exact SqL.of (e2 _ _ ha)
  · obtain ⟨u, rfl, e1, e2⟩ := h
    have hi : i < zs.length := by
      have := (List.getElem?_eq_some_iff.mp hx).1
      rw [svl] at this
      exact this
    obtain ⟨j, hj⟩ : ∃ j, x = .str j := by
      unfold sv at hx
      rw [List.getElem?_map, List.getElem?_eq_getElem hi] at hx
      exact ⟨_, (Option.some.inj hx).symm⟩
    subst hj
    unfold gName
    dsimp only
    refine iteT ⟨_, rfl, isi_str ⟨_, e1, small9000 (by simp; omega), _, rfl, ?_, e2.stepB SameB.upd hl⟩⟩
    rw [upd_same, List.replicate_succ', List.map_append]
    rfl
  · obtain ⟨u, rfl, e1, e2⟩ := h
    refine ⟨l, List.replicate zs.length true, rfl, SqL.of (by rw [svl] at e1; exact e1), ?_⟩
    rw [trues]
    exact q _ e2
end
end K36

set_option Elab.async false
set_option linter.all false
set_option maxRecDepth 100000
set_option pp.maxSteps 300
set_option maxHeartbeats 4000000
namespace K36
open PySem L2
theorem pcall0 {X : Cx} {k k' : Nat} {ps : List Str} {sp : Sp} {x : Str} {p pos : Pos} (g : Good X.prog X.w X.K X.mg X.base x k ps sp) (hr : Room k' X.A) (hk : k ≤ k' := by decide) (hg : Gl X x := by rfl)
    (hdb : (x == ("__debug__" : Str)) = false := by decide) : PE X (.Call (.Name x p) [] [] pos) (tCall sp [] E0 tNil) := by
  intro pins s σ H Q I h
  obtain ⟨f, fd, m, kp, b, F⟩ := g.ex
  exact pe_call0 F (hr.mono hk) hg m kp b .nil pass0 hdb pins s σ H Q I h
theorem SG_at {r : Int} (h0 : 0 ≤ r) (h1 : r < 94) : ∃ c ∈ SG.cps.toList, atI SG.cps.toList r = some c := by
  have hl : r.toNat < SG.cps.toList.length := by rw [SG_len]; omega
  refine ⟨SG.cps.toList[r.toNat], List.getElem_mem hl, ?_⟩
  have := atI_nat (xs := SG.cps.toList) (j := r.toNat) (List.getElem?_eq_getElem hl)
  rw [Int.toNat_of_nonneg h0] at this
  exact this
theorem at8 {i x : Int} (h0 : 0 ≤ i) (h8 : i < 8) (x0 : 0 ≤ x) (x1 : x ≤ 40) : ∃ y : Int, 0 ≤ y ∧ y ≤ 40 ∧ atI [V.int 0, .int 1, .int 2, .int 40, .int 39, .int 5, .int 12, .int x] i = some (.int y) := by
  have : i = 0 ∨ i = 1 ∨ i = 2 ∨ i = 3 ∨ i = 4 ∨ i = 5 ∨ i = 6 ∨ i = 7 := by omega
  rcases this with rfl | rfl | rfl | rfl | rfl | rfl | rfl | rfl
  · exact ⟨0, by decide, by decide, rfl⟩
  · exact ⟨1, by decide, by decide, rfl⟩
  · exact ⟨2, by decide, by decide, rfl⟩
  · exact ⟨40, by decide, by decide, rfl⟩
  · exact ⟨39, by decide, by decide, rfl⟩
  · exact ⟨5, by decide, by decide, rfl⟩
  · exact ⟨12, by decide, by decide, rfl⟩
  · exact ⟨x, x0, x1, rfl⟩
/-- one sign each -/
def ones (cs : List Nat) : List V := cs.map fun c => V.str ⟨#[c]⟩
theorem ones_join (cs : List Nat) : Txt.join "" (cs.map fun c => (⟨#[c]⟩ : Str)) = ⟨cs.toArray⟩ := by
  have := joinE (cs.map fun (c : Nat) => (c : Int))
  rw [List.map_map] at this
  refine this.trans ?_
  unfold toZ
  rw [List.map_map]
  congr 2
  rw [show (Int.toNat ∘ fun (c : Nat) => (c : Int)) = id from rfl, List.map_id]
theorem ones_sum : ∀ cs : List Nat, ((cs.map fun c => (⟨#[c]⟩ : Str)).map (fun x => x.length)).sum = cs.length
  | [] => rfl
  | x :: r => by
    rw [List.map_cons, List.map_cons, List.sum_cons, ones_sum r, List.length_cons]
    show 1 + _ = _
    omega
section
variable {P : Program} {w : World} {K : PySem.W.Frag} {mg : Str → Option Value} {base : Heap}
theorem ok_lnote (C : Code K mg "_law_note" s_l_note p_l_note) (T : Tj mg) (g_l_take : Good P w K mg base "_law_take" 1 p_l_take spTake) (g_l_signs : Good P w K mg base "_law_signs" 1 p_l_signs spSigns) : Good P w K mg base "_law_note" 2 p_l_note spLNote := by
  refine C.good sc_l_note (fun vs H Q E h => ?_) (fun f cdv A outer s H vs Q E hr h => ?_)
  · obtain ⟨b, n, rfl, _⟩ := h
    rfl
  obtain ⟨b, n, rfl, hb, hn, q⟩ := h
  refine ⟨_, (@pss_cons _ _ _ _ _ (@ps_set _ _ 1 _ _ _ _ sc_l_note.nd rfl (Or.inl rfl) (pe_ix ix_list (@pe_lst _ _ _ _ (@pa_cons _ _ _ _ _ (@pe_int _ _ _ _) (@pa_cons _ _ _ _ _ (@pe_int _ _ _ _) (@pa_cons _ _ _ _ _ (@pe_int _ _ _ _) (@pa_cons _ _ _ _ _ (@pe_int _ _ _ _) (@pa_cons _ _ _ _ _ (@pe_int _ _ _ _) (@pa_cons _ _ _ _ _ (@pe_int _ _ _ _) (@pa_cons _ _ _ _ _ (@pe_int _ _ _ _) (@pa_cons _ _ _ _ _ (pcall g_l_take hr (pa_cons (pv 0) (pa_cons pe_int pa_nil))) (@pa_nil _) st_call) st_const) st_const) st_const) st_const) st_const) st_const) st_const)) (pcall g_l_take hr (pa_cons (pv 0) (pa_cons pe_int pa_nil))) (fun _ _ => rfl)) (by rfl) (by first | exact .inl rfl | exact .inr rfl))
  (@pss_cons _ _ _ _ _ (@ps_set _ _ 2 _ _ _ _ sc_l_note.nd rfl (Or.inr rfl) (pcall g_l_take hr (pa_cons (pv 0) (pa_cons pe_int pa_nil))) (by rfl) (by first | exact .inl rfl | exact .inr rfl))
  (@pss_cons _ _ _ _ _ (@ps_set _ _ 3 _ _ _ _ sc_l_note.nd rfl (Or.inr rfl) (pcall g_l_take hr (pa_cons (pv 0) (pa_cons pe_int pa_nil))) (by rfl) (by first | exact .inl rfl | exact .inr rfl))
  (@pss_cons _ _ _ _ _ (@ps_set _ _ 4 _ _ _ _ sc_l_note.nd rfl (Or.inr rfl) (pcall0 g_l_signs hr) (by rfl) (by first | exact .inl rfl | exact .inr rfl))
  (@pss_cons _ _ _ _ _ (ps_setC (i := 5) sc_l_note.nd rfl (Or.inl rfl) (N' := ["_law_place", "_law_some", "_law_start", "_law_step"]) rfl (CScope.of (src := [none, some 4, some 2, some 3]) (defScope s_l_note) ["_law_bag_here", "_law_size", "_law_start", "_law_step", "_law_some", "_law_signs_here"] rfl rfl rfl (by decide +kernel) (by decide +kernel) (by decide +kernel) rfl (by decide +kernel)) (pi_range1 rfl T.range (pa_cons (pv 1) pa_nil)) (fun _ _ _ _ => (pg_name (i := 0) (show List.Nodup (["_law_place", "_law_some", "_law_start", "_law_step"] : List Str) by decide +kernel) rfl (Or.inl rfl))) (fun _ _ _ _ => pf_nil) (fun _ _ _ _ => (pe_ix ix_str (pv 1) (pe_op op_mod (pe_op op_add (pv 2) (pe_op op_mul (pv 3) (pv 0))) pe_int) (fun _ _ => rfl))))
  (@pss_cons _ _ _ _ _ (ps_if (pt_cmpR op_gt (pv 1) pe_int (nomark _)) (@pss_one _ _ _ (ps_asg (pe_ix ix_str (pv 4) (pcall g_l_take hr (pa_cons (pv 0) (pa_cons pe_int pa_nil))) (fun _ _ => rfl)) (pg_sub (pv 5) (pcall g_l_take hr (pa_cons (pv 0) (pa_cons (pv 1) pa_nil))) set_list))) pss_nil)
  (@pss_one _ _ _ (ps_ret (pe_bm PySem.F.plainAttrs_str PySem.F.slot_str_join PySem.F.type_str_join mt_join pe_str (pa_cons (pv 5) pa_nil)))))))))), ?_⟩
  refine ⟨_, rfl, b, n, 41, rfl, hb, by omega, by decide, by decide, fun r1 H1 r10 r11 hb1 sb1 => ⟨leSize (by show 8 ≤ 1000; decide), fun p hp => ?_⟩⟩
  have nbp : b ≠ p := hb1.nb hp
  have hb2 := hb1.same (same_new hp (.lst [.int 0, .int 1, .int 2, .int 40, .int 39, .int 5, .int 12, .int r1]))
  refine ⟨_, rfl, b, _, 8, rfl, hb2, by omega, by decide, by decide, fun r2 H2 r20 r21 hb3 sb2 => ?_⟩
  obtain ⟨y, y0, y1, hy⟩ := at8 r20 r21 r10 (by omega)
  refine ⟨p, _, _, _, rfl, rfl, SqL.of (sb2 _ _ upd_same nbp.symm), hy, ?_⟩
  have sH2 : SameB b H H2 := (sb1.trans (SameB.of (same_new hp _))).trans sb2
  clear hy hb2
  refine ⟨_, rfl, b, _, 94, rfl, hb3, by omega, by decide, by decide, fun r3 H3 r30 r31 hb4 sb3 => ?_⟩
  refine ⟨_, rfl, b, _, 94, rfl, hb4, by omega, by decide, by decide, fun r4 H4 r40 r41 hb5 sb4 => ?_⟩
  have sH4 : SameB b H H4 := (sH2.trans sb3).trans sb4
  refine ⟨rfl, ?_⟩
  refine ⟨_, rfl, _, rfl, by omega, by omega, fun l hl => ?_⟩
  have nbl : b ≠ l := hb5.nb hl
  have fl : H l = none := sH4.free hb5.ex hl
  have sgl : SG.length ≤ sizeLine := leSize (by show SG.cps.size ≤ 1000; rw [SG_size]; decide)
  refine comp_range (fun i σ HH => ∃ (u : Option V) (cs : List Nat), σ = [u, some (.str SG), some (.int r3), some (.int r4)] ∧ HH l = some (.lst (ones cs)) ∧ cs.length = i ∧ (∀ c ∈ cs, c ∈ SG.cps.toList) ∧ SameB l H4 HH)
    ⟨none, [], rfl, upd_same, rfl, (fun y hy => by cases hy), SameB.of (same_new hl _)⟩ (fun i σ HH hi h => ?_) (fun σ HH h => ?_)
  · obtain ⟨u, cs, rfl, e1, e2, e3, e4⟩ := h
    obtain ⟨c, hc, ec⟩ := SG_at (r := (r3 + r4 * (0 + (i : Int))) % 94) (Int.emod_nonneg _ (by decide)) (Int.emod_lt_of_pos _ (by decide))
    unfold gName
    dsimp only
    refine iteT ⟨_, rfl, _, rfl, _, rfl, _, rfl, _, _, rfl, rfl, .inl ⟨by omega, by omega⟩, _, _, rfl, rfl, _, _, rfl, rfl, (by show (0 : Int) < 94; decide), _, _, c, rfl, rfl, sgl, ec, _, e1, small1000 (by unfold ones; rw [List.length_map]; omega), _, cs ++ [c], rfl, ?_, ?_, fun d hd => ?_, e4.trans SameB.upd⟩
    · rw [upd_same]; unfold ones; rw [List.map_append]; rfl
    · rw [List.length_append, e2]; rfl
    · rcases List.mem_append.mp hd with h | h
      · exact e3 d h
      · have : d = c := by simpa using h
        rw [this]; exact hc
  obtain ⟨u, cs, rfl, e1, e2, e3, e4⟩ := h
  have hb6 : BagAt HH b (n + 1 + 1 + 1 + 1) := hb5.sameB e4 nbl
  have sHH : SameB b H HH := fun c o e ne => e4 _ _ (sH4 _ _ e ne) fun z => by rw [z, fl] at e; cases e
  have fin : ∀ (ds : List Nat) (HF : Hp), HF l = some (.lst (ones ds)) → ds.length ≤ 40 → (∀ c ∈ ds, c ∈ SG.cps.toList) → BagAt HF b (n + 6) → SameB b H HF →
      (tBM K "str" (rJoin K) (tC (V.str (Str.ofString ""))) (tCons (tVar 5) tNil)) [some (.ref b), some (.int y), some (.int r3), some (.int r4), some (.str SG), some (.ref l)] HF Q := fun ds HF f1 f2 f3 f4 f5 => by
    refine ⟨rfl, _, rfl, _, l, ds.map fun c => (⟨#[c]⟩ : Str), rfl, rfl, SqL.of (by rw [f1]; unfold ones; rw [List.map_map]; rfl), ?_, ?_⟩
    · rw [ones_sum, List.length_map]
      have : (Str.ofString "").length = 0 := by decide +kernel
      rw [this]
      omega
    · rw [ones_join]
      refine q _ _ ⟨?_, ?_⟩ f4 f5
      · show ds.toArray.size ≤ 40
        rw [List.size_toArray]
        exact f2
      · exact f3
  refine ⟨_, rfl, _, _, rfl, rfl, _, rfl, ?_⟩
  by_cases hy0 : (0 : Int) < y
  · rw [decide_eq_true hy0]
    refine iteT ⟨_, rfl, _, rfl, b, _, 94, rfl, hb6, by omega, by decide, by decide, fun r5 H5 r50 r51 hb7 sb5 => ?_⟩
    obtain ⟨c, hc, ec⟩ := SG_at r50 r51
    refine ⟨_, _, c, rfl, rfl, sgl, ec, _, rfl, _, rfl, _, rfl, b, _, y, rfl, hb7, by omega, hy0, by omega, fun r6 H6 r60 r61 hb8 sb6 => ?_⟩
    have e5 : H6 l = some (.lst (ones cs)) := sb6 _ _ (sb5 _ _ e1 nbl.symm) nbl.symm
    have ocl : (ones cs).length = y.toNat := by unfold ones; rw [List.length_map]; exact e2
    have hix : ixN (ones cs).length r6 = some r6.toNat := by
      unfold ixN
      rw [if_pos r60, if_pos (by rw [ocl]; omega)]
    refine ⟨l, _, _, _, rfl, rfl, e5, hix, ?_⟩
    have e6 : (upd H6 l (.lst ((ones cs).set r6.toNat (.str ⟨#[c]⟩)))) l = some (.lst (ones (cs.set r6.toNat c))) := by rw [upd_same]; unfold ones; rw [List.map_set]
    refine fin (cs.set r6.toNat c) _ e6 (by rw [List.length_set]; omega) (fun d hd => ?_) ((hb8.sameB SameB.upd nbl).mono (by omega)) ?_
    · rcases List.mem_or_eq_of_mem_set hd with h | rfl
      · exact e3 d h
      · exact hc
    · exact fun c' o e ne => SameB.upd _ _ (sb6 _ _ (sb5 _ _ (sHH _ _ e ne) ne) ne) fun z => by rw [z, fl] at e; cases e
  · rw [decide_eq_false hy0]
    exact iteF (fin cs HH e1 (by omega) e3 (hb6.mono (by omega)) sHH)
end
end K36

set_option Elab.async false
set_option linter.all false
set_option maxRecDepth 100000
set_option pp.maxSteps 300
set_option maxHeartbeats 1000000
namespace K36
open PySem L2
/-! for k36, k37: the law's own reader finds the same signs -/
theorem SG_bds : ∀ c ∈ SG.cps.toList, 32 ≤ c ∧ c ≤ 126 ∧ c ≠ 37 := by
  have h : SG.cps.toList.all (fun c => decide (32 ≤ c ∧ c ≤ 126 ∧ c ≠ 37)) = true := by decide +kernel
  exact fun c hc => of_decide_eq_true (List.all_eq_true.mp h c hc)
theorem SG_idx : ∀ n ∈ List.range 127, 32 ≤ n → n ≠ 37 → SG.cps.toList[n - 32 - (if n > 37 then 1 else 0)]? = some n := by
  have h : (List.range 127).all (fun n => decide (32 ≤ n → n ≠ 37 → SG.cps.toList[n - 32 - (if n > 37 then 1 else 0)]? = some n)) = true := by decide +kernel
  exact fun n hn => of_decide_eq_true (List.all_eq_true.mp h n hn)
theorem isSg_iff (x : Int) : isSg x = true ↔ 32 ≤ x ∧ x ≤ 126 ∧ x ≠ 37 := by
  constructor
  · intro h
    obtain ⟨c, hc, rfl⟩ := of_isSg h
    have := SG_bds c hc
    omega
  · rintro ⟨h1, h2, h3⟩
    obtain ⟨n, rfl⟩ : ∃ n : Nat, x = (n : Int) := ⟨x.toNat, by omega⟩
    have := SG_idx n (List.mem_range.mpr (by omega)) (by omega) (by omega)
    exact isSg_of (List.mem_of_getElem? this)
/-- the sign of a number, as the law's own reader looks it up -/
theorem SG_look {x : Int} (h1 : 32 ≤ x) (h2 : x ≤ 126) (h3 : x ≠ 37) : atI SG.cps.toList (x - 32 - (if x > 37 then 1 else 0)) = some x.toNat := by
  obtain ⟨n, rfl⟩ : ∃ n : Nat, x = (n : Int) := ⟨x.toNat, by omega⟩
  have := SG_idx n (List.mem_range.mpr (by omega)) (by omega) (by omega)
  have e : ((n : Int) - 32 - (if (n : Int) > 37 then 1 else 0)) = ((n - 32 - (if n > 37 then 1 else 0) : Nat) : Int) := by
    by_cases h : n > 37
    · rw [if_pos h, if_pos (by omega)]; omega
    · rw [if_neg h, if_neg (by omega)]; omega
  rw [e, Int.toNat_natCast]
  exact atI_nat this
/-- cells that are too few hold no whole record: what the reader asks ahead of it -/
theorem rd_short {xs : List Int} {a : Nat} {told : List Str} {n : Nat} (h : xs.length < a + 4) : rdF xs (n + 1) a told = told := by
  cases hz : noteAt xs a with
  | none => exact rdF_none hz
  | some z =>
    rw [rdF_some hz, if_neg]
    intro e
    have := congrArg List.length e
    rw [recd_len, List.length_take, List.length_drop] at this
    omega
theorem rd_short2 {xs : List Int} {a m : Nat} {told : List Str} {n : Nat} (hm : xs[a + 1]? = some (m : Int)) (h : xs.length < a + 4 + m) : rdF xs (n + 1) a told = told := by
  cases hz : noteAt xs a with
  | none => exact rdF_none hz
  | some z =>
    rw [rdF_some hz, if_neg]
    intro e
    have l := congrArg List.length e
    rw [recd_len, List.length_take, List.length_drop] at l
    have h3 := congrArg (fun l : List Int => l[1]?) e
    have h4 : ((xs.drop a).take (z.cps.size + 4))[1]? = some (m : Int) := by
      rw [List.getElem?_take, if_pos (by omega), List.getElem?_drop]
      exact hm
    have h5 : (m : Int) = (z.cps.size : Int) := Option.some.inj (h4.symm.trans (h3.trans (recd_1 _ z)))
    omega
end K36

set_option Elab.async false
set_option linter.all false
set_option maxRecDepth 100000
set_option pp.maxSteps 300
set_option maxHeartbeats 1000000
namespace K36
open PySem L2
/-! for k36, k37: one cell put otherwise is always seen -/
theorem wsF_set : ∀ (i : Nat) (xs : List Int) (j : Nat) (y : Int), j < xs.length → wsF i (xs.set j y) = wsF i xs + (y - xs.getD j 0) * ((1 + (i + j) : Nat) : Int)
  | i, [], j, y, h => absurd h (Nat.not_lt_zero _)
  | i, x :: r, 0, y, _ => by
    show y * ((1 + i : Nat) : Int) + wsF (i + 1) r = x * ((1 + i : Nat) : Int) + wsF (i + 1) r + (y - x) * ((1 + i : Nat) : Int)
    rw [Int.sub_mul]
    omega
  | i, x :: r, j + 1, y, h => by
    have ih := wsF_set (i + 1) r j y (by simpa using h)
    show x * ((1 + i : Nat) : Int) + wsF (i + 1) (r.set j y) = x * ((1 + i : Nat) : Int) + wsF (i + 1) r + (y - r.getD j 0) * ((1 + (i + (j + 1)) : Nat) : Int)
    rw [ih, show 1 + (i + 1 + j) = 1 + (i + (j + 1)) by omega]
    omega
theorem no997 {d : Int} {j : Nat} (hj : j < 996) (hd : d ≠ 0) (h1 : -997 < d) (h2 : d < 997) : ¬ (997 : Int) ∣ d * ((1 + j : Nat) : Int) := by
  intro h
  have h' : 997 ∣ d.natAbs * (1 + j) := by
    have := Int.natAbs_dvd_natAbs.mpr h
    rw [Int.natAbs_mul] at this
    exact this
  have cop : Nat.Coprime 997 (1 + j) := by
    have hall : (List.range 996).all (fun j => decide (Nat.gcd 997 (1 + j) = 1)) = true := by decide +kernel
    exact of_decide_eq_true (List.all_eq_true.mp hall j (List.mem_range.mpr hj))
  have := Nat.Coprime.dvd_of_dvd_mul_right cop h'
  have := Nat.le_of_dvd (by omega) this
  omega
theorem recd_0 (k : Nat) (z : Str) : (recd k z)[0]? = some ((k : Int) % 900) := rfl
theorem recd_2 (k : Nat) (z : Str) : (recd k z)[2]? = some (60 - (z.cps.size : Int)) := rfl
/-- a record with one cell put otherwise, whatever stands behind it, is no record of this number -/
theorem spoilt {k j : Nat} {z u : Str} {y c : Int} {post : List Int} (nz : NoteOk z) (nu : NoteOk u) (hj : (recd k z)[j]? = some c) (hy : y ≠ c) : ((recd k z).set j y ++ post).take (u.cps.size + 4) ≠ recd k u := by
  intro e
  have hjl : j < z.cps.size + 4 := by
    have := (List.getElem?_eq_some_iff.mp hj).1
    rw [recd_len] at this
    exact this
  have sl : ((recd k z).set j y).length = z.cps.size + 4 := by rw [List.length_set, recd_len]
  have at_ : ∀ i, i < u.cps.size + 4 → i < z.cps.size + 4 → ((recd k z).set j y)[i]? = (recd k u)[i]? := fun i hi hi2 => by
    have := congrArg (fun l : List Int => l[i]?) e
    rw [List.getElem?_take, if_pos hi, List.getElem?_append_left (by rw [sl]; exact hi2)] at this
    exact this
  have other : ∀ i, i ≠ j → ((recd k z).set j y)[i]? = (recd k z)[i]? := fun i hi => by rw [List.getElem?_set, if_neg (Ne.symm hi)]
  have here : ((recd k z).set j y)[j]? = some y := by rw [List.getElem?_set, if_pos rfl, if_pos (by rw [recd_len]; exact hjl)]
  by_cases j0 : j = 0
  · subst j0
    have h := at_ 0 (by omega) (by omega)
    rw [here, recd_0] at h
    rw [recd_0] at hj
    cases h
    cases hj
    exact hy rfl
  have h1 := at_ 1 (by omega) (by omega)
  have h2 := at_ 2 (by omega) (by omega)
  rw [recd_1] at h1
  rw [recd_2] at h2
  by_cases j1 : j = 1
  · subst j1
    rw [here] at h1
    rw [other 2 (by omega), recd_2] at h2
    rw [recd_1] at hj
    have a1 := Option.some.inj h1
    have a2 := Option.some.inj h2
    have a3 := Option.some.inj hj
    omega
  by_cases j2 : j = 2
  · subst j2
    rw [here] at h2
    rw [other 1 (by omega), recd_1] at h1
    rw [recd_2] at hj
    have a1 := Option.some.inj h1
    have a2 := Option.some.inj h2
    have a3 := Option.some.inj hj
    omega
  rw [other 1 (by omega), recd_1] at h1
  have hs : z.cps.size = u.cps.size := by have := Option.some.inj h1; omega
  have ew : (recd k z).set j y = recd k u := by
    rw [← hs, ← sl, List.take_left] at e
    exact e
  have hl := hdr_len k z
  by_cases j3 : j < z.cps.size + 3
  · have e1 : (hdr k z).set j y ++ [wsF 0 (hdr k z) % 997] = hdr k u ++ [wsF 0 (hdr k u) % 997] := by
      rw [← List.set_append_left _ _ (by rw [hl]; exact j3)]
      exact ew
    obtain ⟨e2, e3⟩ := List.append_inj' e1 rfl
    have hc : (hdr k z)[j]? = some c := by
      unfold recd at hj
      rw [List.getElem?_append_left (by rw [hl]; exact j3)] at hj
      exact hj
    have hsgn : ∀ (v : Str) (x : Int), NoteOk v → (hdr k v)[j]? = some x → j < v.cps.size + 3 → 0 ≤ x ∧ x < 128 := fun v x nv hx hjv => by
      have h3 : (hdr k v)[j]? = (codes v)[j - 3]? := by
        unfold hdr
        rw [List.getElem?_append_right (by show 3 ≤ j; omega)]
        rfl
      rw [h3] at hx
      obtain ⟨d, hd, rfl⟩ := List.mem_map.mp (List.mem_of_getElem? hx)
      have := SG_small d (nv.sg d hd)
      omega
    have hyu : (hdr k u)[j]? = some y := by rw [← e2, List.getElem?_set, if_pos rfl, if_pos (by rw [hl]; exact j3)]
    have b1 := hsgn z c nz hc j3
    have b2 := hsgn u y nu hyu (by omega)
    have hgd : (hdr k z).getD j 0 = c := by rw [List.getD_eq_getElem?_getD, hc]; rfl
    have hw := wsF_set 0 (hdr k z) j y (by rw [hl]; exact j3)
    rw [e2, hgd, Nat.zero_add] at hw
    have e4 : wsF 0 (hdr k z) % 997 = wsF 0 (hdr k u) % 997 := by injection e3
    rw [hw] at e4
    refine no997 (d := y - c) (j := j) (by have := nz.len; omega) (by omega) (by omega) (by omega) (Int.dvd_of_emod_eq_zero ?_)
    generalize (y - c) * ((1 + j : Nat) : Int) = B at *
    omega
  · have ej : j = (hdr k z).length := by rw [hl]; omega
    have e1 : hdr k z ++ [y] = hdr k u ++ [wsF 0 (hdr k u) % 997] := by
      have : (hdr k z ++ [wsF 0 (hdr k z) % 997]).set j y = hdr k z ++ [y] := by
        rw [ej, List.set_append_right _ _ (Nat.le_refl _), Nat.sub_self]
        rfl
      rw [← this]
      exact ew
    obtain ⟨e2, e3⟩ := List.append_inj' e1 rfl
    have hc : c = wsF 0 (hdr k z) % 997 := by
      unfold recd at hj
      rw [ej, List.getElem?_append_right (Nat.le_refl _), Nat.sub_self] at hj
      exact (Option.some.inj hj).symm
    have : y = wsF 0 (hdr k u) % 997 := by injection e3
    rw [← e2] at this
    exact hy (this.trans hc.symm)
end K36

set_option Elab.async false
set_option linter.all false
set_option maxRecDepth 100000
set_option pp.maxSteps 300
set_option maxHeartbeats 1000000
namespace K36
open PySem L2
theorem rd_set : ∀ (r : List Str) (pre : List Int) (told : List Str) (j : Nat) (y c : Int) (fuel : Nat), (∀ z ∈ r, NoteOk z) → (recs told.length r)[j]? = some c → y ≠ c → (recs told.length r).length < fuel →
    rdF (pre ++ (recs told.length r).set j y) fuel pre.length told = told ++ due r j
  | r, pre, told, j, y, c, 0, _, _, _, h => absurd h (Nat.not_lt_zero _)
  | [], pre, told, j, y, c, n + 1, _, hj, _, _ => by cases hj
  | z :: r, pre, told, j, y, c, n + 1, nz, hj, hy, hf => by
    have hz := nz z (List.mem_cons_self ..)
    have e0 : recs told.length (z :: r) = recd told.length z ++ recs (told.length + 1) r := rfl
    rw [e0] at hj hf ⊢
    by_cases h : z.cps.size + 4 ≤ j
    · rw [List.getElem?_append_right (by rw [recd_len]; exact h), recd_len] at hj
      rw [List.set_append_right _ _ (by rw [recd_len]; exact h), recd_len, rdF_some (noteAt_whole hz)]
      have e2 : ((pre ++ (recd told.length z ++ (recs (told.length + 1) r).set (j - (z.cps.size + 4)) y)).drop pre.length).take (z.cps.size + 4) = recd told.length z := by
        rw [List.drop_left, ← recd_len told.length z, List.take_left]
      rw [if_pos e2, ← List.append_assoc]
      rw [List.length_append, recd_len] at hf
      have ih := rd_set r (pre ++ recd told.length z) (told ++ [z]) (j - (z.cps.size + 4)) y c n (fun y hy => nz y (List.mem_cons_of_mem _ hy)) (by rw [List.length_append]; exact hj) hy (by
        rw [List.length_append]
        show (recs (told.length + 1) r).length < n
        omega)
      rw [List.length_append, List.length_append, recd_len] at ih
      rw [show pre.length + z.cps.size + 4 = pre.length + (z.cps.size + 4) by omega]
      refine ih.trans ?_
      show told ++ [z] ++ due r _ = told ++ (if z.cps.size + 4 ≤ j then z :: due r (j - (z.cps.size + 4)) else [])
      rw [if_pos h, List.append_assoc]
      rfl
    · have hl : j < (recd told.length z).length := by rw [recd_len]; omega
      rw [List.getElem?_append_left hl] at hj
      rw [List.set_append_left _ _ hl]
      have ed : due (z :: r) j = [] := if_neg h
      rw [ed, List.append_nil]
      cases hu : noteAt (pre ++ ((recd told.length z).set j y ++ recs (told.length + 1) r)) pre.length with
      | none => exact rdF_none hu
      | some u =>
        rw [rdF_some hu, if_neg]
        rw [List.drop_left]
        exact spoilt hz (noteAt_ok hu) hj hy
/-- one cell put otherwise: just the notes ahead of its record are read -/
theorem read_set {zs : List Str} (nz : ∀ z ∈ zs, NoteOk z) {j : Nat} {y c : Int} (hj : (recs 0 zs)[j]? = some c) (hy : y ≠ c) : readJ ((recs 0 zs).set j y) = due zs j := by
  have := rd_set zs [] [] j y c (((recs 0 zs).set j y).length + 1) nz hj hy (by rw [List.length_set]; exact Nat.lt_succ_self _)
  exact this
end K36

set_option Elab.async false
set_option linter.all false
set_option maxRecDepth 100000
set_option pp.maxSteps 300
set_option maxHeartbeats 1000000
namespace K36
open PySem L2
theorem rdF_ok (xs : List Int) : ∀ (n a : Nat) (told : List Str), (∀ z ∈ told, NoteOk z) → ∀ z ∈ rdF xs n a told, NoteOk z
  | 0, _, _, h => h
  | n + 1, a, told, h => by
    cases hz : noteAt xs a with
    | none => rw [rdF_none hz]; exact h
    | some z =>
      rw [rdF_some hz]
      split
      · refine rdF_ok xs n _ _ fun y hy => ?_
        rcases List.mem_append.mp hy with h' | h'
        · exact h y h'
        · have : y = z := by simpa using h'
          rw [this]
          exact noteAt_ok hz
      · exact h
theorem rdF_few (xs : List Int) : ∀ (n a : Nat) (told : List Str), 4 * told.length ≤ a → a ≤ xs.length → 4 * (rdF xs n a told).length ≤ xs.length
  | 0, a, told, h, h' => by show 4 * told.length ≤ _; omega
  | n + 1, a, told, h, h' => by
    cases hz : noteAt xs a with
    | none => rw [rdF_none hz]; omega
    | some z =>
      rw [rdF_some hz]
      split
      · rename_i e
        have l := congrArg List.length e
        rw [recd_len, List.length_take, List.length_drop] at l
        refine rdF_few xs n _ _ ?_ (by omega)
        rw [List.length_append]
        show 4 * (told.length + 1) ≤ _
        omega
      · omega
theorem readJ_ok (xs : List Int) : ∀ z ∈ readJ xs, NoteOk z := rdF_ok xs _ 0 [] fun z hz => by cases hz
theorem readJ_few (xs : List Int) : 4 * (readJ xs).length ≤ xs.length := rdF_few xs _ 0 [] (Nat.le_refl _) (Nat.zero_le _)
end K36

set_option Elab.async false
set_option linter.all false
set_option maxRecDepth 100000
set_option pp.maxSteps 300
set_option maxHeartbeats 2000000
namespace K36
open PySem L2
abbrev s_l_reads : Stmt := top 27
abbrev p_l_reads : List Str := ["_law_cells"]
theorem sc_l_reads : FnScope ["_law_cells", "_law_some", "_law_notes", "_law_at", "_law_turn", "_law_size", "_law_numbers", "_law_note_here"] p_l_reads (defScope s_l_reads) := ⟨rfl, rfl, rfl, by decide +kernel, rfl, by decide +kernel, by decide +kernel⟩
abbrev s_l_by : Stmt := top 28
abbrev p_l_by : List Str := ["_law_bag_here"]
theorem sc_l_by : FnScope ["_law_bag_here", "_law_by_here"] p_l_by (defScope s_l_by) := ⟨rfl, rfl, rfl, by decide +kernel, rfl, by decide +kernel, by decide +kernel⟩
abbrev s_l_sign_put : Stmt := top 29
abbrev p_l_sign_put : List Str := ["_law_bag_here", "_law_cells", "_law_at"]
theorem sc_l_sign_put : FnScope ["_law_bag_here", "_law_cells", "_law_at", "_law_number"] p_l_sign_put (defScope s_l_sign_put) := ⟨rfl, rfl, rfl, by decide +kernel, rfl, by decide +kernel, by decide +kernel⟩
theorem ite3 {b : Bool} {A B : Prop} (h1 : b = true → A) (h2 : b = false → B) : if b = true then A else B := by
  cases b with
  | true => exact iteT (h1 rfl)
  | false => exact iteF (h2 rfl)
theorem cut_to (xs : List Int) (m : Nat) : cutV (iv xs) none (some (m : Int)) = iv (xs.take m) := by
  have := cut_iv xs 0 m
  rw [Nat.zero_add, List.drop_zero] at this
  exact this
theorem cut_from (xs : List Int) (m : Nat) : cutV (iv xs) (some (m : Int)) none = iv (xs.drop m) := by
  unfold cutV
  rw [HT.sIx_nat, iv_len]
  show (List.drop (min m xs.length) (iv xs)).take (xs.length - min m xs.length) = _
  rw [List.take_of_length_le (by rw [List.length_drop, iv_len]; exact Nat.le_refl _)]
  unfold iv
  rw [← List.map_drop]
  congr 1
  by_cases h : m ≤ xs.length
  · rw [Nat.min_eq_left h]
  · rw [Nat.min_eq_right (by omega), List.drop_of_length_le (Nat.le_refl _), List.drop_of_length_le (by omega)]
theorem cut_from1 (xs : List Int) (m : Nat) : cutV (iv xs) (some ((m : Int) + 1)) none = iv (xs.drop (m + 1)) := by
  have := cut_from xs (m + 1)
  rw [show ((m + 1 : Nat) : Int) = (m : Int) + 1 by omega] at this
  exact this
theorem set3 {xs : List Int} {m : Nat} {y : Int} (h : m < xs.length) : iv (xs.take m) ++ [V.int y] ++ iv (xs.drop (m + 1)) = iv (xs.set m y) := by
  rw [List.set_eq_take_append_cons_drop, if_pos h]
  unfold iv
  simp
theorem gset {i : Nat} {v : V} {σ : St} {H : Hp} {Q : St → Hp → Prop} (h : Q (σ.set i (some v)) H) : gName i v σ H Q := h
theorem seq_split {I R : TS} {D : Ends} {σ : St} {H : Hp} (P : St → Hp → Prop) (hR : ∀ σ' H', P σ' H' → R D σ' H') (hI : ∀ D' : Ends, (∀ σ' H', P σ' H' → D'.nx σ' H') → I D' σ H) : tSeq I R D σ H := hI { D with nx := fun σ H => R D σ H } hR
theorem big (n : Nat) : (1 : Int) ≤ 10 ^ n := by
  induction n with
  | zero => decide
  | succ k ih => rw [Int.pow_succ]; omega
theorem at8b {i x y z : Int} (h0 : 0 ≤ i) (h8 : i < 8) (x0 : 1 ≤ x) (y0 : 1 ≤ y) (z0 : 1 ≤ z) : ∃ r : Int, 1 ≤ r ∧ atI [V.int 1, .int 900, .int 257, .int 997, .int x, .int y, .int z, .int 37] i = some (.int r) := by
  have : i = 0 ∨ i = 1 ∨ i = 2 ∨ i = 3 ∨ i = 4 ∨ i = 5 ∨ i = 6 ∨ i = 7 := by omega
  rcases this with rfl | rfl | rfl | rfl | rfl | rfl | rfl | rfl
  · exact ⟨1, by decide, rfl⟩
  · exact ⟨900, by decide, rfl⟩
  · exact ⟨257, by decide, rfl⟩
  · exact ⟨997, by decide, rfl⟩
  · exact ⟨x, x0, rfl⟩
  · exact ⟨y, y0, rfl⟩
  · exact ⟨z, z0, rfl⟩
  · exact ⟨37, by decide, rfl⟩
theorem iv_at {xs : List Int} {a : Nat} {x : Int} (h : xs[a]? = some x) : atI (iv xs) (a : Int) = some (.int x) := atI_nat (by unfold iv; rw [List.getElem?_map, h]; rfl)
def spReads : Sp := fun vs H Q _ => ∃ (c : Addr) (xs : List Int), vs = [.ref c] ∧ H c = some (.lst (iv xs)) ∧ xs.length ≤ 8000 ∧ ∀ l H', H l = none → H' l = some (.lst (sv (readJ xs))) → Same H H' → Q (.ref l) H'
def spLBy : Sp := fun vs H Q _ => ∃ (b : Addr) (n : Nat), vs = [.ref b] ∧ BagAt H b n ∧ n ≤ 9000 ∧ ∀ r H', r ≠ 0 → BagAt H' b (n + 4) → SameB b H H' → Q (.int r) H'
def spSignPut : Sp := fun vs H Q _ => ∃ (b c : Addr) (n m : Nat) (xs : List Int) (x : Int), vs = [.ref b, .ref c, .int m] ∧ b ≠ c ∧ BagAt H b n ∧ n ≤ 9000 ∧ H c = some (.lst (iv xs)) ∧ xs[m]? = some x ∧ xs.length ≤ 8000 ∧ ∀ y a H', y ≠ x → H' a = some (.lst (iv (xs.set m y))) → BagAt H' b (n + 1) → SameB b H H' → Q (.ref a) H'
section
variable {P : Program} {w : World} {K : PySem.W.Frag} {mg : Str → Option Value} {base : Heap}
theorem ok_lby (C : Code K mg "_law_by" s_l_by p_l_by) (T : Tj mg) (g_l_take : Good P w K mg base "_law_take" 1 p_l_take spTake) : Good P w K mg base "_law_by" 2 p_l_by spLBy := by
  refine C.good sc_l_by (fun vs H Q E h => ?_) (fun f cdv A outer s H vs Q E hr h => ?_)
  · obtain ⟨b, n, rfl, _⟩ := h
    rfl
  obtain ⟨b, n, rfl, hb, hn, q⟩ := h
  refine ⟨_, (pss_cons (ps_set (i := 1) sc_l_by.nd rfl (Or.inl rfl) (pe_ix ix_list (@pe_lstS _ _ _ _ (@pa_cons _ _ _ _ _ (@pe_int _ _ _ _) (@pa_cons _ _ _ _ _ (@pe_int _ _ _ _) (@pa_cons _ _ _ _ _ (@pe_int _ _ _ _) (@pa_cons _ _ _ _ _ (@pe_int _ _ _ _) (@pa_cons _ _ _ _ _ (pe_op op_pow pe_int pe_int) (@pa_cons _ _ _ _ _ (pe_op op_add pe_int (pcall g_l_take hr (pa_cons (pv 0) (pa_cons pe_int pa_nil)))) (@pa_cons _ _ _ _ _ (pe_op op_add pe_int (pcall g_l_take hr (pa_cons (pv 0) (pa_cons pe_int pa_nil)))) (@pa_cons _ _ _ _ _ (@pe_int _ _ _ _) (@pa_nil _) st_const) (by rfl)) (by rfl)) (by rfl)) st_const) st_const) st_const) st_const)) (pcall g_l_take hr (pa_cons (pv 0) (pa_cons pe_int pa_nil))) (fun _ _ => rfl)))
  (pss_one (ps_ret (pe_op op_mul (pv 1) (pe_op op_sub pe_int (pe_op op_mul pe_int (pcall g_l_take hr (pa_cons (pv 0) (pa_cons pe_int pa_nil))))))))), ?_⟩
  refine ⟨_, _, rfl, rfl, ⟨by decide, by decide, by decide⟩, ?_⟩
  have hB := big (30 : Int).toNat
  refine ⟨_, rfl, b, n, 97, rfl, hb, by omega, by decide, by decide, fun r1 H1 r10 r11 hb1 sb1 => ⟨_, _, rfl, rfl, ?_⟩⟩
  refine ⟨_, rfl, b, _, 97, rfl, hb1, by omega, by decide, by decide, fun r2 H2 r20 r21 hb2 sb2 => ⟨_, _, rfl, rfl, ?_⟩⟩
  refine ⟨leSize (by show 8 ≤ 1000; decide), fun p H3 hp e3 s3 => ?_⟩
  have nbp : b ≠ p := hb2.nb hp
  refine ⟨_, rfl, b, _, 8, rfl, hb2.same s3, by omega, by decide, by decide, fun r3 H4 r30 r31 hb4 sb4 => ?_⟩
  obtain ⟨y, y0, hy⟩ := at8b (x := (10 : Int) ^ (30 : Int).toNat) (y := 1 + r1) (z := 1 + r2) r30 r31 hB (by omega) (by omega)
  refine ⟨p, _, _, _, rfl, rfl, SqL.of (sb4 _ _ e3 nbp.symm), hy, ?_⟩
  refine ⟨_, rfl, _, rfl, b, _, 2, rfl, hb4, by omega, by decide, by decide, fun r4 H5 r40 r41 hb5 sb5 => ?_⟩
  refine ⟨_, _, rfl, rfl, .inl ⟨by decide, by decide⟩, _, _, rfl, rfl, _, _, rfl, rfl, .inr ⟨by omega, by omega⟩, ?_⟩
  refine q _ H5 ?_ hb5 ((sb1.trans sb2).trans ((SameB.of s3).trans (sb4.trans sb5)))
  have : r4 = 0 ∨ r4 = 1 := by omega
  rcases this with rfl | rfl <;> omega
theorem ok_sign_put (C : Code K mg "_law_sign_put" s_l_sign_put p_l_sign_put) (T : Tj mg) (g_l_take : Good P w K mg base "_law_take" 1 p_l_take spTake) : Good P w K mg base "_law_sign_put" 2 p_l_sign_put spSignPut := by
  refine C.good sc_l_sign_put (fun vs H Q E h => ?_) (fun f cdv A outer s H vs Q E hr h => ?_)
  · obtain ⟨b, c, n, m, xs, x, rfl, _⟩ := h
    rfl
  obtain ⟨b, c, n, m, xs, x, rfl, nbc, hb, hn, hc, hx, few, q⟩ := h
  refine ⟨_, (pss_cons (ps_set (i := 3) sc_l_sign_put.nd rfl (Or.inl rfl) (pe_op op_add pe_int (pcall g_l_take hr (pa_cons (pv 0) (pa_cons pe_int pa_nil)))))
  (pss_cons (ps_if (pt_cmpR op_eq (pv 3) (pe_ix ix_list (pv 1) (pv 2) (fun _ _ => rfl)) (nomark _)) (pss_one (ps_set (i := 3) sc_l_sign_put.nd rfl (Or.inl rfl) (pe_op op_add (pv 3) pe_int))) pss_nil)
  (pss_one (ps_ret (pe_op op_catS (pe_op op_catS (pe_slice sl_listS (pv 1) po_none (po_some (pv 2))) (pe_lstS (pa_cons (pv 3) pa_nil))) (pe_slice sl_listS (pv 1) (po_some (pe_op op_add (pv 2) pe_int)) po_none)))))), ?_⟩
  have hm := (List.getElem?_eq_some_iff.mp hx).1
  refine ⟨_, rfl, b, n, 95, rfl, hb, by omega, by decide, by decide, fun r1 H1 r10 r11 hb1 sb1 => ⟨_, _, rfl, rfl, ?_⟩⟩
  have hc1 := sb1 _ _ hc nbc.symm
  refine gset ?_
  dsimp only
  show tSeq (tIfS _ _ _) _ _ _ _
  refine seq_split (fun σ HH => ∃ y : Int, y ≠ x ∧ σ = [some (.ref b), some (.ref c), some (.int m), some (.int y)] ∧ HH = H1) (fun σ HH h => ?_) (fun D' hn => ?_)
  rotate_left 1
  · refine ⟨_, rfl, _, rfl, _, rfl, c, _, _, _, rfl, rfl, SqL.of hc1, iv_at hx, rfl, _, rfl, ite3 (fun hk => ?_) (fun hk => ?_)⟩
    · have : V.int (32 + r1) = V.int x := of_decide_eq_true hk
      injection this with this
      exact ⟨_, rfl, _, _, rfl, rfl, hn _ _ ⟨32 + r1 + 1, by omega, rfl, rfl⟩⟩
    · have : ¬ V.int (32 + r1) = V.int x := of_decide_eq_false hk
      exact hn _ _ ⟨32 + r1, fun z => this (by rw [z]), rfl, rfl⟩
  obtain ⟨y, hy, rfl, rfl⟩ := h
  refine ⟨_, rfl, _, rfl, _, rfl, c, _, rfl, SqL.of hc1, fun p1 H2 f1 e1 s1 => ?_⟩
  rw [cut_to] at e1
  refine ⟨_, rfl, leSize (by show 1 ≤ 1000; decide), fun p2 H3 f2 e2 s2 => ?_⟩
  refine ⟨p1, p2, _, _, rfl, rfl, s2 _ _ e1, e2, Nat.le_of_lt (small9000 (by rw [iv_len, List.length_take]; show _ + 1 ≤ 9000; omega)), fun p3 H4 f3 e3 s3 => ?_⟩
  refine ⟨_, rfl, _, rfl, _, _, rfl, rfl, _, rfl, c, _, rfl, SqL.of (((s1.trans s2).trans s3) _ _ hc1), fun p4 H5 f4 e4 s4 => ?_⟩
  rw [cut_from1] at e4
  refine ⟨p3, p4, _, _, rfl, rfl, s4 _ _ e3, e4, Nat.le_of_lt (small9000 (by rw [List.length_append, iv_len, iv_len, List.length_take, List.length_drop]; show _ + 1 + _ ≤ 9000; omega)), fun p5 H6 f5 e5 s5 => ?_⟩
  rw [set3 hm] at e5
  have sA := ((s1.trans s2).trans s3).trans (s4.trans s5)
  exact q y p5 H6 hy e5 (hb1.same sA) (sb1.trans (SameB.of sA))
theorem ok_reads (C : Code K mg "_law_reads" s_l_reads p_l_reads) (T : Tj mg) (g_l_signs : Good P w K mg base "_law_signs" 1 p_l_signs spSigns) (g_l_record : Good P w K mg base "_law_record" 1 p_l_record spRecord) : Good P w K mg base "_law_reads" 2 p_l_reads spReads := by
  refine C.good sc_l_reads (fun vs H Q E h => ?_) (fun f cdv A outer s H vs Q E hr h => ?_)
  · obtain ⟨c, xs, rfl, _⟩ := h
    rfl
  obtain ⟨c, xs, rfl, hc, few, q⟩ := h
  refine ⟨_, (pss_cons (ps_set (i := 1) sc_l_reads.nd rfl (Or.inr rfl) (pcall0 g_l_signs hr))
  (pss_cons (ps_set (i := 2) sc_l_reads.nd rfl (Or.inl rfl) (pe_lstS pa_nil))
  (pss_cons (ps_set (i := 3) sc_l_reads.nd rfl (Or.inl rfl) pe_int)
  (pss_cons (ps_for PassesOwn.never rfl (pi_range1 rfl T.range (pa_cons (pe_callB call_len_seq rfl T.len bt_len (pa_cons (pv 0) pa_nil)) pa_nil)) (pg_name (i := 4) sc_l_reads.nd rfl (Or.inl rfl))
  (pss_cons (ps_if (pt_cmpR op_gt (pe_op op_add (pv 3) pe_int) (pe_callB call_len_seq rfl T.len bt_len (pa_cons (pv 0) pa_nil)) (nomark _)) (pss_one (ps_ret (pv 2))) pss_nil)
  (pss_cons (ps_set (i := 5) sc_l_reads.nd rfl (Or.inl rfl) (pe_ix ix_list (pv 0) (pe_op op_add (pv 3) pe_int) (fun _ _ => rfl)))
  (pss_cons (ps_if (PW.pt (pw_or (pt_not (pt_chain op_le op_le pe_int (pv 5) pe_int)) (pw_or1 (pt_cmpR op_gt (pe_op op_add (pe_op op_add (pv 3) pe_int) (pv 5)) (pe_callB call_len_seq rfl T.len bt_len (pa_cons (pv 0) pa_nil)) (nomark _))))) (pss_one (ps_ret (pv 2))) pss_nil)
  (pss_cons (ps_set (i := 6) sc_l_reads.nd rfl (Or.inl rfl) (pe_slice sl_listS (pv 0) (po_some (pe_op op_add (pv 3) pe_int)) (po_some (pe_op op_add (pe_op op_add (pv 3) pe_int) (pv 5)))))
  (pss_cons (ps_if (pt_not (pt_val (pe_callB (call_all rfl) rfl T.all bt_all (pa_cons (pe_comp (N' := ["_law_one_here"]) rfl (CScope.plain rfl (by decide +kernel) (by decide +kernel) (by decide +kernel)) (pi_list (pv 6)) (fun _ _ _ _ => (pg_name (i := 0) (show List.Nodup (["_law_one_here"] : List Str) by decide +kernel) rfl (Or.inl rfl))) (fun _ _ _ _ => pf_nil) (fun _ _ _ _ => (pe_and (pe_chain op_le op_le pe_int (pv 0) pe_int) (pe_one (pe_cmpR op_ne (pv 0) pe_int (nomark _)))))) pa_nil)))) (pss_one (ps_ret (pv 2))) pss_nil)
  (pss_cons (ps_set (i := 7) sc_l_reads.nd rfl (Or.inl rfl) (pe_bm PySem.F.plainAttrs_str PySem.F.slot_str_join PySem.F.type_str_join mt_join pe_str (pa_cons (pe_comp (N' := ["_law_one_here", "_law_some"]) rfl (CScope.of (src := [none, some 1]) (defScope s_l_reads) ["_law_cells", "_law_some", "_law_notes", "_law_at", "_law_turn", "_law_size", "_law_numbers", "_law_note_here"] rfl rfl rfl (by decide +kernel) (by decide +kernel) (by decide +kernel) rfl (by decide +kernel)) (pi_list (pv 6)) (fun _ _ _ _ => (pg_name (i := 0) (show List.Nodup (["_law_one_here", "_law_some"] : List Str) by decide +kernel) rfl (Or.inl rfl))) (fun _ _ _ _ => pf_nil) (fun _ _ _ _ => (pe_ix ix_str (pv 1) (pe_op op_sub (pe_op op_sub (pv 0) pe_int) (pe_callTy call_int1 rfl T.int bt_int (pa_cons (pe_cmpR op_gt (pv 0) pe_int (nomark _)) pa_nil))) (fun _ _ => rfl)))) pa_nil)))
  (pss_cons (ps_if (pt_cmpR (op_neD hr.units) (pe_slice sl_listS (pv 0) (po_some (pv 3)) (po_some (pe_op op_add (pe_op op_add (pv 3) pe_int) (pv 5)))) (pcall g_l_record hr (pa_cons (pe_callB call_len_seq rfl T.len bt_len (pa_cons (pv 2) pa_nil)) (pa_cons (pv 7) pa_nil))) (nomark _)) (pss_one (ps_ret (pv 2))) pss_nil)
  (pss_cons (ps_expr (pe_bm PySem.F.plainAttrs_list PySem.F.slot_list_append PySem.F.type_list_append mt_append (pv 2) (pa_cons (pv 7) pa_nil)))
  (pss_one (ps_set (i := 3) sc_l_reads.nd rfl (Or.inl rfl) (pe_op op_add (pe_op op_add (pv 3) pe_int) (pv 5)))))))))))))
  (pss_one (ps_ret (pv 2))))))), ?_⟩
  refine ⟨rfl, leSize (by show 0 ≤ 1000; decide), fun l H1 fl el s1 => ?_⟩
  refine ⟨_, rfl, c, _, rfl, .inl (SqL.of (s1 _ _ hc)), _, rfl, by omega, by rw [iv_len]; omega, ?_⟩
  rw [Int.toNat_natCast, iv_len]
  have sgl : SG.length ≤ sizeLine := leSize (by show SG.cps.size ≤ 1000; rw [SG_size]; decide)
  refine for_range (fun t σ HH => ∃ (u4 u5 u6 u7 : Option V) (a : Nat) (told : List Str), σ = [some (.ref c), some (.str SG), some (.ref l), some (.int a), u4, u5, u6, u7] ∧ HH l = some (.lst (sv told)) ∧ Same H HH ∧ rdF xs (xs.length + 1 - t) a told = readJ xs ∧ told.length = t ∧ 4 * t ≤ a ∧ a ≤ xs.length)
    ⟨_, _, _, _, 0, [], rfl, el, s1, rfl, rfl, Nat.le_refl _, Nat.zero_le _⟩ (fun t σ HH ht h => ?_) (fun σ HH h => ?_)
  · obtain ⟨u4, u5, u6, u7, a, told, rfl, e1, e2, e3, e4, e5, e6⟩ := h
    rw [show xs.length + 1 - t = (xs.length - t) + 1 by omega] at e3
    have ret : ∀ HF, HF l = some (.lst (sv told)) → Same H HF → told = readJ xs → Q (.ref l) HF := fun HF h1 h2 h3 => q l HF fl (by rw [← h3]; exact h1) h2
    refine ⟨_, rfl, _, _, rfl, rfl, _, rfl, c, _, rfl, .inl (SqL.of (e2 _ _ hc)), _, _, rfl, rfl, _, rfl, ite3 (fun hk => ?_) (fun hk => ?_)⟩
    · have hk' := of_decide_eq_true hk
      rw [iv_len] at hk'
      rw [rd_short (by omega)] at e3
      exact ⟨_, rfl, ret _ e1 e2 e3⟩
    have hk' := of_decide_eq_false hk
    rw [iv_len] at hk'
    have ha1 : a + 1 < xs.length := by omega
    have hm0 : xs[a + 1]? = some xs[a + 1] := List.getElem?_eq_getElem ha1
    have hna : noteAt xs a = if 0 ≤ xs[a + 1] ∧ xs[a + 1] ≤ 40 then (if (cut3 xs a xs[a + 1].toNat).all isSg = true then some (toZ (cut3 xs a xs[a + 1].toNat)) else none) else none := by
      show (match xs[a + 1]? with | none => none | some m => _) = _
      rw [hm0]
    generalize xs[a + 1] = m at hm0 hna
    have hat : atI (iv xs) ((a : Int) + 1) = some (.int m) := by
      have := iv_at hm0
      rw [show ((a + 1 : Nat) : Int) = (a : Int) + 1 by omega] at this
      exact this
    refine ⟨_, rfl, _, rfl, _, _, rfl, rfl, c, _, _, _, rfl, rfl, SqL.of (e2 _ _ hc), hat, ?_⟩
    refine ⟨_, rfl, _, _, rfl, rfl, _, rfl, ?_⟩
    by_cases h2 : 0 ≤ m
    case neg =>
      rw [decide_eq_false h2]
      rw [rdF_none (by rw [hna, if_neg (fun z => h2 z.1)])] at e3
      exact iteF ⟨_, rfl, iteT ⟨_, rfl, ret _ e1 e2 e3⟩⟩
    rw [decide_eq_true h2]
    refine iteT ⟨_, _, rfl, rfl, _, rfl, ?_⟩
    by_cases h3 : m ≤ 40
    case neg =>
      rw [decide_eq_false h3]
      rw [rdF_none (by rw [hna, if_neg (fun z => h3 z.2)])] at e3
      exact iteT ⟨_, rfl, ret _ e1 e2 e3⟩
    rw [decide_eq_true h3]
    obtain ⟨k, rfl⟩ : ∃ k : Nat, m = (k : Int) := ⟨m.toNat, by omega⟩
    rw [if_pos ⟨h2, h3⟩, Int.toNat_natCast] at hna
    refine iteF ⟨_, rfl, _, _, rfl, rfl, _, rfl, _, _, rfl, rfl, _, rfl, c, _, rfl, .inl (SqL.of (e2 _ _ hc)), _, _, rfl, rfl, _, rfl, ite3 (fun hj => ?_) (fun hj => ?_)⟩
    · have hj' := of_decide_eq_true hj
      rw [iv_len] at hj'
      rw [rd_short2 hm0 (by omega)] at e3
      exact ⟨_, rfl, ret _ e1 e2 e3⟩
    have hj' := of_decide_eq_false hj
    rw [iv_len] at hj'
    refine ⟨_, rfl, _, rfl, _, _, rfl, rfl, _, rfl, _, rfl, _, _, rfl, rfl, _, rfl, _, _, rfl, rfl, _, rfl, c, _, rfl, SqL.of (e2 _ _ hc), fun p H2 fp ep s2 => ?_⟩
    have eb : cutV (iv xs) (some ((a : Int) + 3)) (some ((a : Int) + 3 + (k : Int))) = iv (cut3 xs a k) := by
      have := cut_iv xs (a + 3) k
      rw [show ((a + 3 : Nat) : Int) = (a : Int) + 3 by omega, show ((a + 3 + k : Nat) : Int) = (a : Int) + 3 + (k : Int) by omega] at this
      exact this
    rw [eb] at ep
    have hcl : (cut3 xs a k).length = k := by unfold cut3; rw [List.length_take, List.length_drop]; omega
    generalize cut3 xs a k = cs at *
    have s2' := e2.trans s2
    have e1' := s2 _ _ e1
    refine ⟨_, rfl, p, rfl, ⟨_, SqL.of ep⟩, fun l1 hl1 => ?_⟩
    have s3 := same_new hl1 (.lst [])
    have npl : p ≠ l1 := ne_of_none ep hl1
    refine comp_list (xs := iv cs) (fun i σ HH => ∃ u, σ = [u] ∧ HH l1 = some (.lst (((cs.take i).map isSg).map V.bl)) ∧ Same H2 HH) ⟨_, rfl, upd_same, s3⟩ (fun i σ HH _ h => ?_) (fun i x σ HH hx h => ?_) (fun σ HH h => ?_)
    · obtain ⟨u, rfl, g1, g2⟩ := h
      exact SqL.of (g2 _ _ ep)
    · obtain ⟨u, rfl, g1, g2⟩ := h
      have hi : i < cs.length := by
        have := (List.getElem?_eq_some_iff.mp hx).1
        rw [iv_len] at this
        exact this
      have hx' : x = .int cs[i] := by
        unfold iv at hx
        rw [List.getElem?_map, List.getElem?_eq_getElem hi] at hx
        exact (Option.some.inj hx).symm
      have hci : cs[i]? = some cs[i] := List.getElem?_eq_getElem hi
      generalize cs[i] = y at *
      subst hx'
      have fin : ∀ v : Bool, v = isSg y → ∃ ys, HH l1 = some (.lst ys) ∧ ys.length < sizeLine ∧ ∃ u, [some (V.int y)] = [u] ∧ (upd HH l1 (.lst (ys ++ [V.bl v]))) l1 = some (.lst (((cs.take (i + 1)).map isSg).map V.bl)) ∧ Same H2 (upd HH l1 (.lst (ys ++ [V.bl v]))) := fun v hv => by
        refine ⟨_, g1, small1000 (by rw [List.length_map, List.length_map, List.length_take]; omega), _, rfl, ?_, g2.stepB SameB.upd hl1⟩
        rw [upd_same, take_snoc hci, List.map_append, List.map_append, hv]
        rfl
      unfold gName
      dsimp only
      refine iteT ⟨_, rfl, _, _, rfl, rfl, _, rfl, ?_⟩
      by_cases q1 : 32 ≤ y
      case neg =>
        rw [decide_eq_false q1]
        refine iteF ⟨_, rfl, iteF ?_⟩
        exact fin false (Bool.eq_false_iff.mpr fun z => q1 ((isSg_iff y).mp z).1).symm
      rw [decide_eq_true q1]
      refine iteT ⟨_, _, rfl, rfl, _, rfl, ?_⟩
      by_cases q2 : y ≤ 126
      case neg =>
        rw [decide_eq_false q2]
        refine iteF ?_
        exact fin false (Bool.eq_false_iff.mpr fun z => q2 ((isSg_iff y).mp z).2.1).symm
      rw [decide_eq_true q2]
      refine iteT ⟨_, rfl, rfl, ?_⟩
      refine fin _ ?_
      by_cases q3 : y = 37
      · subst q3; decide +kernel
      · rw [(isSg_iff y).mpr ⟨q1, q2, q3⟩]
        simp [q3]
    obtain ⟨u, rfl, g1, g2⟩ := h
    rw [iv_len, List.take_length] at g1
    refine ⟨l1, cs.map isSg, rfl, SqL.of g1, _, rfl, ?_⟩
    rw [List.all_map]
    by_cases h4 : cs.all isSg = true
    case neg =>
      rw [if_neg h4] at hna
      rw [rdF_none hna] at e3
      rw [show (cs.all (id ∘ isSg)) = false from Bool.eq_false_iff.mpr h4]
      exact iteT ⟨_, rfl, ret _ (g2 _ _ e1') (s2'.trans g2) e3⟩
    rw [if_pos h4] at hna
    rw [show (cs.all (id ∘ isSg)) = true from h4]
    have nz := noteAt_ok hna
    have zs : (toZ cs).cps.size = k := by rw [toZ_size, hcl]
    refine iteF ⟨rfl, ?_⟩
    have sB := s2'.trans g2
    have eB := g2 _ _ e1'
    have pB := g2 _ _ ep
    clear g1 hl1 npl s3
    refine ⟨_, rfl, p, rfl, ⟨_, SqL.of pB⟩, fun l2 hl2 => ?_⟩
    refine comp_list (xs := iv cs) (fun i σ HB => ∃ u, σ = [u, some (.str SG)] ∧ HB l2 = some (.lst (((cs.take i).map fun x => (⟨#[x.toNat]⟩ : Str)).map V.str)) ∧ Same HH HB) ⟨_, rfl, upd_same, same_new hl2 _⟩ (fun i σ HB _ h => ?_) (fun i x σ HB hx h => ?_) (fun σ HB h => ?_)
    · obtain ⟨u, rfl, g1, g2⟩ := h
      exact SqL.of (g2 _ _ pB)
    · obtain ⟨u, rfl, g1, g2⟩ := h
      have hi : i < cs.length := by
        have := (List.getElem?_eq_some_iff.mp hx).1
        rw [iv_len] at this
        exact this
      have hx' : x = .int cs[i] := by
        unfold iv at hx
        rw [List.getElem?_map, List.getElem?_eq_getElem hi] at hx
        exact (Option.some.inj hx).symm
      have hci : cs[i]? = some cs[i] := List.getElem?_eq_getElem hi
      generalize cs[i] = y at *
      subst hx'
      have hy := (isSg_iff y).mp (List.all_eq_true.mp h4 y (List.mem_of_getElem? hci))
      have ec := SG_look hy.1 hy.2.1 hy.2.2
      have ec' : atI SG.cps.toList (y - 32 - (if decide (37 < y) = true then 1 else 0)) = some y.toNat := by
        rw [← ec]
        congr 2
        by_cases z : y > 37
        · rw [if_pos z, if_pos (decide_eq_true z)]
        · rw [if_neg z, if_neg (by rw [decide_eq_false z]; decide)]
      unfold gName
      dsimp only
      refine iteT ⟨_, rfl, _, rfl, _, _, rfl, rfl, _, rfl, _, _, rfl, rfl, .inr ⟨_, rfl, _, _, rfl, rfl, _, _, y.toNat, rfl, rfl, sgl, ec', _, g1, small1000 (by rw [List.length_map, List.length_map, List.length_take]; omega), _, rfl, ?_, g2.stepB SameB.upd hl2⟩⟩
      rw [upd_same, take_snoc hci, List.map_append, List.map_append]
      rfl
    obtain ⟨u, rfl, g1, g3⟩ := h
    rw [iv_len, List.take_length] at g1
    refine ⟨_, l2, _, rfl, rfl, SqL.of g1, ?_, ?_⟩
    · rw [sum1, List.length_map]
      have : (Str.ofString "").length = 0 := by decide +kernel
      rw [this]
      omega
    rw [joinE]
    have sC := sB.trans g3
    have eC := g3 _ _ eB
    generalize toZ cs = z at *
    refine ⟨_, rfl, _, rfl, _, rfl, _, rfl, _, _, rfl, rfl, _, rfl, _, _, rfl, rfl, _, rfl, c, _, rfl, SqL.of (sC _ _ hc), fun p4 H5 f4 e7 s4 => ?_⟩
    have eb2 : cutV (iv xs) (some (a : Int)) (some ((a : Int) + 4 + (k : Int))) = iv ((xs.drop a).take (z.cps.size + 4)) := by
      have := cut_iv xs a (z.cps.size + 4)
      rw [show ((a + (z.cps.size + 4) : Nat) : Int) = (a : Int) + 4 + (k : Int) by omega] at this
      exact this
    rw [eb2] at e7
    have svl : (sv told).length = told.length := List.length_map ..
    refine ⟨_, rfl, l, _, rfl, .inl (SqL.of (s4 _ _ eC)), _, rfl, (sv told).length, z, rfl, nz, fun r H6 fr er sr => ?_⟩
    refine ⟨_, _, .lst (sr _ _ e7) (ints_reps _), .lst er (ints_reps _), ints_shaped _, ints_shaped _, _, rfl, ?_⟩
    rw [ints_eqv, svl]
    have sD := sC.trans (s4.trans sr)
    have eD := sr _ _ (s4 _ _ eC)
    rw [rdF_some hna] at e3
    by_cases hq : (xs.drop a).take (z.cps.size + 4) = recd told.length z
    · rw [decide_eq_true hq]
      rw [if_pos hq] at e3
      refine iteF ⟨_, rfl, .inl ⟨rfl, _, SqL.of eD⟩, _, rfl, l, _, _, rfl, rfl, eD, small9000 (by rw [svl]; omega), ?_⟩
      refine ⟨_, rfl, _, _, rfl, rfl, _, rfl, _, _, rfl, rfl, ?_⟩
      refine ⟨some (.int (0 + (t : Int))), some (.int (k : Int)), some (.ref p), some (.str z), a + z.cps.size + 4, told ++ [z], ?_, ?_, sD.stepB SameB.upd fl, ?_, ?_, ?_, ?_⟩
      · show [some (V.ref c), some (.str SG), some (.ref l), some (.int ((a : Int) + 4 + (k : Int))), _, _, _, _] = _
        rw [show (a : Int) + 4 + (k : Int) = ((a + z.cps.size + 4 : Nat) : Int) by omega]
      · rw [upd_same]; unfold sv; rw [List.map_append]; rfl
      · rw [show xs.length + 1 - (t + 1) = xs.length - t by omega]; exact e3
      · rw [List.length_append, e4]; rfl
      · omega
      · omega
    · rw [decide_eq_false hq]
      rw [if_neg hq] at e3
      exact iteT ⟨_, rfl, ret _ eD sD e3⟩
  · obtain ⟨u4, u5, u6, u7, a, told, rfl, e1, e2, e3, e4, e5, e6⟩ := h
    rw [show xs.length + 1 - xs.length = 0 + 1 by omega, rd_short (by omega)] at e3
    exact ⟨_, rfl, q l HH fl (by rw [← e3]; exact e1) e2⟩
end
end K36

set_option Elab.async false
set_option linter.all false
set_option maxRecDepth 100000
set_option pp.maxSteps 300
set_option maxHeartbeats 2000000
namespace K36
open PySem L2
abbrev s_l_told : Stmt := top 32
abbrev p_l_told : List Str := ["_law_cells", "_law_due"]
theorem sc_l_told : FnScope ["_law_cells", "_law_due", "_law_handed", "_law_journal", "_law_records", "_law_number", "_law_note_here"] p_l_told (defScope s_l_told) := ⟨rfl, rfl, rfl, by decide +kernel, rfl, by decide +kernel, by decide +kernel⟩
abbrev s_l_cells_done : Stmt := top 30
abbrev p_l_cells_done : List Str := ["_law_bag_here", "_law_way", "_law_cells", "_law_at"]
theorem sc_l_cells_done : FnScope ["_law_bag_here", "_law_way", "_law_cells", "_law_at", "_law_other", "_law_by_here", "_law_done"] p_l_cells_done (defScope s_l_cells_done) := ⟨rfl, rfl, rfl, by decide +kernel, rfl, by decide +kernel, by decide +kernel⟩
abbrev s_l_records_done : Stmt := top 31
abbrev p_l_records_done : List Str := ["_law_bag_here", "_law_way", "_law_records"]
theorem sc_l_records_done : FnScope ["_law_bag_here", "_law_way", "_law_records", "_law_at", "_law_some", "_law_done", "_law_one_here"] p_l_records_done (defScope s_l_records_done) := ⟨rfl, rfl, rfl, by decide +kernel, rfl, by decide +kernel, by decide +kernel⟩
theorem sbStep {b l : Addr} {H0 H H' : Hp} (s : SameB b H0 H) (t : SameB l H H') (f : H0 l = none) : SameB b H0 H' := fun c o e n => t _ _ (s _ _ e n) (fun z => by rw [z, f] at e; cases e)
theorem JAt.sameB {C : Addr} {H H' : Hp} {p l e : Addr} {zs : List Str} (h : JAt C H p l zs) (s : SameB e H H') (pe : p ≠ e) (le : l ≠ e) : JAt C H' p l zs := ⟨let ⟨dx, o⟩ := h.ob; ⟨dx, s _ _ o pe⟩, s _ _ h.ls le⟩
theorem at5 {i x y : Int} (h0 : 0 ≤ i) (h5 : i < 5) : ∃ r : Int, atI [V.int 0, .int 5, .int (-1), .int x, .int y] i = some (.int r) := by
  have : i = 0 ∨ i = 1 ∨ i = 2 ∨ i = 3 ∨ i = 4 := by omega
  rcases this with rfl | rfl | rfl | rfl | rfl
  · exact ⟨_, rfl⟩
  · exact ⟨_, rfl⟩
  · exact ⟨_, rfl⟩
  · exact ⟨_, rfl⟩
  · exact ⟨_, rfl⟩
theorem ixn {n j : Nat} (h : j < n) : ixN n (j : Int) = some j := by
  unfold ixN
  rw [if_pos (by omega), Int.toNat_natCast, if_pos (by omega)]
/-- cells of a list of addresses -/
def rv (rs : List Addr) : List V := rs.map V.ref
theorem rv_len (rs : List Addr) : (rv rs).length = rs.length := List.length_map ..
theorem rcut (rs : List Addr) (b m : Nat) : cutV (rv rs) (some (b : Int)) (some ((b + m : Nat) : Int)) = rv ((rs.drop b).take m) := by
  unfold cutV
  rw [HT.sIx_nat, HT.sIx_nat, rv_len]
  unfold rv
  rw [← List.map_drop, ← List.map_take]
  congr 1
  by_cases h : b ≤ rs.length
  · rw [Nat.min_eq_left h]
    by_cases h2 : b + m ≤ rs.length
    · rw [Nat.min_eq_left h2, Nat.add_sub_cancel_left]
    · rw [Nat.min_eq_right (by omega), List.take_of_length_le (by rw [List.length_drop]; omega), List.take_of_length_le (by rw [List.length_drop]; omega)]
  · rw [Nat.min_eq_right (by omega), Nat.min_eq_right (by omega), Nat.sub_self, List.drop_of_length_le (by omega : rs.length ≤ b), List.drop_of_length_le (Nat.le_refl _)]
    rw [List.take_nil, List.take_nil]
theorem rcut_to (rs : List Addr) (m : Nat) : cutV (rv rs) none (some (m : Int)) = rv (rs.take m) := by
  have := rcut rs 0 m
  rw [Nat.zero_add, List.drop_zero] at this
  exact this
theorem rcut_from (rs : List Addr) (m : Nat) : cutV (rv rs) (some (m : Int)) none = rv (rs.drop m) := by
  unfold cutV
  rw [HT.sIx_nat, rv_len]
  show (List.drop (min m rs.length) (rv rs)).take (rs.length - min m rs.length) = _
  rw [List.take_of_length_le (by rw [List.length_drop, rv_len]; exact Nat.le_refl _)]
  unfold rv
  rw [← List.map_drop]
  congr 1
  by_cases h : m ≤ rs.length
  · rw [Nat.min_eq_left h]
  · rw [Nat.min_eq_right (by omega), List.drop_of_length_le (Nat.le_refl _), List.drop_of_length_le (by omega)]
theorem rv_app (xs ys : List Addr) : rv xs ++ rv ys = rv (xs ++ ys) := (List.map_append ..).symm
theorem iv_rev (xs : List Int) : (iv xs).reverse = iv xs.reverse := (List.map_reverse ..).symm
theorem rv_rev (xs : List Addr) : (rv xs).reverse = rv xs.reverse := (List.map_reverse ..).symm
def spTold : Sp := fun vs H Q _ => ∃ (c d : Addr) (xs : List Int) (zs : List Str), vs = [.ref c, .ref d] ∧ H c = some (.lst (iv xs)) ∧ H d = some (.lst (sv zs)) ∧ readJ xs = zs ∧ xs.length ≤ 700 ∧ ∀ H', Same H H' → Q (.bl true) H'
def spCellsDone : Sp := fun vs H Q _ => ∃ (b c : Addr) (n m : Nat) (w : Int) (xs : List Int), vs = [.ref b, .int w, .ref c, .int m] ∧ b ≠ c ∧ BagAt H b n ∧ n ≤ 100 ∧ H c = some (.lst (iv xs)) ∧ m < xs.length ∧ xs.length ≤ 620 ∧ ∀ a ys H', H' a = some (.lst (iv ys)) → ys.length ≤ 700 → SameB b H H' → Q (.ref a) H'
def spRecsDone : Sp := fun vs H Q _ => ∃ (b r : Addr) (n : Nat) (w : Int) (rs : List Addr), vs = [.ref b, .int w, .ref r] ∧ b ≠ r ∧ BagAt H b n ∧ n ≤ 100 ∧ H r = some (.lst (rv rs)) ∧ 0 < rs.length ∧ rs.length ≤ 14 ∧ (∀ a ∈ rs, a ≠ b ∧ ∃ xs : List Int, H a = some (.lst (iv xs)) ∧ xs.length ≤ 44) ∧ ∀ a ys H', H' a = some (.lst (iv ys)) → ys.length ≤ 700 → SameB b H H' → Q (.ref a) H'
section
variable {P : Program} {w : World} {K : PySem.W.Frag} {mg : Str → Option Value} {base : Heap} {C : Addr}
theorem ok_told (c : Code K mg "_law_told" s_l_told p_l_told) (T : Tx K mg C) (g_read_journal : Good P w K mg base "read_journal" 4 p_read_journal (spRead K)) (g_i_Journal : GoodI P w K mg base C 5 p_Journal___init__ (spInit C)) (g_m_notes : GoodM P w K mg base C "notes" 1 p_Journal_notes (spNotes C)) (g_m_cells : GoodM P w K mg base C "cells" 4 p_Journal_cells (spCells C))
    (g_l_record : Good P w K mg base "_law_record" 1 p_l_record spRecord) (g_l_are_notes : Good P w K mg base "_law_are_notes" 1 p_l_are_notes spAreNotes) (g_l_are_cells : Good P w K mg base "_law_are_cells" 2 p_l_are_cells spAreCells) : Good P w K mg base "_law_told" 7 p_l_told spTold := by
  refine c.good sc_l_told (fun vs H Q E h => ?_) (fun f cdv A outer s H vs Q E hr h => ?_)
  · obtain ⟨c, d, xs, zs, rfl, _⟩ := h
    rfl
  obtain ⟨c, a, xs, zs, rfl, hc, ha, hrd, fewx, q⟩ := h
  have nz : ∀ z ∈ zs, NoteOk z := by rw [← hrd]; exact readJ_ok xs
  have few : 4 * zs.length ≤ xs.length := by rw [← hrd]; exact readJ_few xs
  refine ⟨_, (pss_cons (ps_set (i := 2) sc_l_told.nd rfl (Or.inl rfl) (pe_callTy call_list_ofS rfl T.list bt_list (pa_cons (pv 0) pa_nil)))
  (pss_cons (ps_if (PW.pt (pw_or (pt_not (pt_val (pcall g_l_are_notes hr (pa_cons (pcall g_read_journal hr (pa_cons (pv 2) pa_nil)) (pa_cons (pv 1) pa_nil))))) (pw_or1 (pt_cmpR (op_neD hr.units) (pv 2) (pv 0) (nomark _))))) (pss_one (ps_ret pe_bl)) pss_nil)
  (pss_cons (ps_set (i := 3) sc_l_told.nd rfl (Or.inl rfl) (pmake g_i_Journal hr T.mgC (pa_cons (pv 2) pa_nil)))
  (pss_cons (ps_set (i := 4) sc_l_told.nd rfl (Or.inl rfl) (pe_lstS pa_nil))
  (pss_cons (ps_for PassesOwn.never rfl (pi_enumL0 rfl T.enumerate (pv 1)) (pg_tup rfl (pgs_cons (pg_name (i := 5) sc_l_told.nd rfl (Or.inl rfl)) (pgs_cons (pg_name (i := 6) sc_l_told.nd rfl (Or.inl rfl)) pgs_nil)))
  (pss_one (ps_expr (pe_bm PySem.F.plainAttrs_list PySem.F.slot_list_extend PySem.F.type_list_extend mt_extend (pv 4) (pa_cons (pcall g_l_record hr (pa_cons (pv 5) (pa_cons (pv 6) pa_nil))) pa_nil)))))
  (pss_one (ps_ret (pe_and (pcall g_l_are_notes hr (pa_cons (pmeth0 (pv 3) T.cl g_m_notes hr) (pa_cons (pv 1) pa_nil))) (pe_and (pcall g_l_are_cells hr (pa_cons (pmeth0 (pv 3) T.cl g_m_cells hr) (pa_cons (pv 4) pa_nil))) (pe_one (pe_cmpR (op_eqD hr.units) (pv 2) (pv 0) (nomark _)))))))))))), ?_⟩
  refine ⟨_, rfl, c, _, rfl, .inl (SqL.of hc), fun d H1 hd hd1 s1 => ?_⟩
  refine ⟨_, rfl, d, _, rfl, hd1, by omega, fun a1 H2 fa1 ea1 s2 => ⟨_, rfl, a1, a, zs, rfl, (by rw [← hrd]; exact ea1), s2 _ _ (s1 _ _ ha), nz, by omega, fun H3 s3 => ⟨_, rfl, iteF ?_⟩⟩⟩
  have sA := s2.trans s3
  have hd3 := sA _ _ hd1
  have hc3 := sA _ _ (s1 _ _ hc)
  refine ⟨_, rfl, _, rfl, _, _, .lst hd3 (ints_reps _), .lst hc3 (ints_reps _), ints_shaped _, ints_shaped _, _, rfl, ?_⟩
  rw [ints_eqv, decide_eq_true rfl]
  refine iteF ⟨_, rfl, fun p dx hp hdx ndx => ?_⟩
  have s1' : Same H H3 := s1.trans sA
  clear s1 hd1 sA s2 s3 ea1 fa1
  have fp : H p = none := s1'.free hp
  have ndp : d ≠ p := ne_of_none hd3 hp
  have s2 : Same H3 (upd (upd H3 dx (.own p)) p (.ins C dx [])) := (same_new hdx _).trans (same_new (by rw [upd_ne ndx.symm]; exact hp) _)
  have hpx : (upd (upd H3 dx (.own p)) p (.ins C dx [])) p = some (.ins C dx []) := upd_same
  generalize upd (upd H3 dx (.own p)) p (.ins C dx []) = Hx at *
  have hdx2 := s2 _ _ hd3
  refine ⟨p, dx, d, xs, rfl, hpx, hdx2, by omega, fun l H4 fl J sb => ⟨rfl, ?_⟩⟩
  rw [hrd] at J
  have sH : Same H H4 := (s1'.trans s2).stepB sb fp
  have hd4 : H4 d = some (.lst (iv xs)) := sb _ _ hdx2 ndp
  refine ⟨leSize (by show 0 ≤ 1000; decide), fun e H5 he ee se => ?_⟩
  have fe : H e = none := sH.free he
  have npe : p ≠ e := fun z => by obtain ⟨dy, o⟩ := J.ob; rw [z, he] at o; cases o
  have nle : l ≠ e := ne_of_none J.ls he
  have nde : d ≠ e := ne_of_none hd4 he
  have svl : (sv zs).length = zs.length := List.length_map ..
  refine ⟨_, rfl, a, rfl, ⟨_, SqL.of (se _ _ (sH _ _ ha))⟩, ?_⟩
  refine for_enumL (xs := sv zs) (fun i σ HH => ∃ u v, σ = [some (.ref c), some (.ref a), some (.ref d), some (.ref p), some (.ref e), u, v] ∧ HH e = some (.lst (iv (recs 0 (zs.take i)))) ∧ JAt C HH p l zs ∧ HH d = some (.lst (iv xs)) ∧ Same H HH) ⟨_, _, rfl, ee, J.same se, se _ _ hd4, sH.trans se⟩ (fun i σ HH _ h => ?_) (fun i x t σ HH hx h ht => ?_) (fun σ HH h => ?_)
  · obtain ⟨u, v, rfl, e1, e2, e4, e3⟩ := h
    exact SqL.of (e3 _ _ ha)
  · obtain ⟨u, v, rfl, e1, e2, e4, e3⟩ := h
    have hi : i < zs.length := by
      have := (List.getElem?_eq_some_iff.mp hx).1
      rw [svl] at this
      exact this
    have hz : zs[i]? = some zs[i] := List.getElem?_eq_getElem hi
    have hx' : x = .str zs[i] := by
      unfold sv at hx
      rw [List.getElem?_map, hz] at hx
      exact (Option.some.inj hx).symm
    subst hx'
    generalize zs[i] = z at *
    have nzi := nz z (List.mem_of_getElem? hz)
    have st := same_new ht (.tup [.int ((0 + i : Nat) : Int), .str z])
    refine ⟨t, _, rfl, SqT.of upd_same, rfl, _, _, rfl, _, _, rfl, rfl, ?_⟩
    generalize upd HH t (.tup [.int ((0 + i : Nat) : Int), .str z]) = H4 at *
    have rl := recs_len (k := 0) (zs := zs.take i) fun y hy => nz y (List.mem_of_mem_take hy)
    rw [List.length_take] at rl
    have nl := nzi.len
    refine ⟨_, rfl, .inl ⟨rfl, _, SqL.of (st _ _ e1)⟩, _, rfl, _, rfl, 0 + i, z, rfl, nzi, fun r H5 fr er sr => ⟨e, r, _, _, rfl, rfl, sr _ _ (st _ _ e1), er, Nat.le_of_lt (small9000 (by rw [iv_len, iv_len, recd_len]; omega)), _, _, rfl, ?_, ?_, ?_, ?_⟩⟩
    · rw [upd_same, take_snoc hz, recs_snoc, List.length_take, Nat.min_eq_left (Nat.le_of_lt hi), iv_app]
    · exact ((e2.same st).same sr).sameB SameB.upd npe nle
    · rw [upd_ne nde]; exact sr _ _ (st _ _ e4)
    · exact ((e3.trans st).trans sr).stepB SameB.upd fe
  · obtain ⟨u, v, rfl, e1, e2, e4, e3⟩ := h
    rw [svl, List.take_length] at e1
    obtain ⟨dy, o⟩ := e2.ob
    refine ⟨_, rfl, p, dy, _, rfl, o, fk_no (by decide +kernel), p, l, zs, rfl, e2, fun a1 H5 fa ea s5 => ⟨_, rfl, a1, a, zs, rfl, ea, (e3.trans s5) _ _ ha, nz, by omega, fun H6 s6 => ⟨_, rfl, iteT ?_⟩⟩⟩
    have s7 := s5.trans s6
    have rl := recs_len (k := 0) (zs := zs) nz
    refine ⟨_, rfl, p, dy, _, rfl, s7 _ _ o, fk_no (by decide +kernel), p, l, zs, rfl, e2.same s7, nz, by omega, fun a2 H7 fa2 ea2 s8 => ⟨_, rfl, a2, e, _, rfl, ea2, (s7.trans s8) _ _ e1, by omega, fun H8 s9 => ⟨_, rfl, iteT ?_⟩⟩⟩
    have sF := s7.trans (s8.trans s9)
    refine ⟨_, rfl, _, rfl, _, _, .lst (sF _ _ e4) (ints_reps _), .lst ((e3.trans sF) _ _ hc) (ints_reps _), ints_shaped _, ints_shaped _, ?_⟩
    rw [ints_eqv, decide_eq_true rfl]
    exact q _ (e3.trans sF)
theorem ok_cells_done (Cd : Code K mg "_law_cells_done" s_l_cells_done p_l_cells_done) (T : Tj mg) (g_l_take : Good P w K mg base "_law_take" 1 p_l_take spTake) (g_l_by : Good P w K mg base "_law_by" 2 p_l_by spLBy) : Good P w K mg base "_law_cells_done" 3 p_l_cells_done spCellsDone := by
  refine Cd.good sc_l_cells_done (fun vs H Q E h => ?_) (fun f cdv A outer s H vs Q E hr h => ?_)
  · obtain ⟨b, c, n, m, w, xs, rfl, _⟩ := h
    rfl
  obtain ⟨b, c, n, m, wy, xs, rfl, nbc, hb, hn, hc, hm, few, q⟩ := h
  refine ⟨_, (pss_cons (ps_set (i := 4) sc_l_cells_done.nd rfl (Or.inl rfl) (pcall g_l_take hr (pa_cons (pv 0) (pa_cons (pe_callB call_len_seq rfl T.len bt_len (pa_cons (pv 2) pa_nil)) pa_nil))))
  (pss_cons (ps_set (i := 5) sc_l_cells_done.nd rfl (Or.inr rfl) (pcall g_l_by hr (pa_cons (pv 0) pa_nil)))
  (pss_cons (ps_set (i := 6) sc_l_cells_done.nd rfl (Or.inl rfl) (pe_callTy call_list_ofS rfl T.list bt_list (pa_cons (pv 2) pa_nil)))
  (pss_cons (ps_if (pt_cmpR op_eq (pv 1) pe_int (nomark _)) (pss_cons (ps_asg (pe_op op_add (pe_ix ix_list (pv 6) (pv 3) (fun _ _ => rfl)) (pv 5)) (pg_sub (pv 6) (pv 3) set_list))
  (pss_one (ps_asg (pe_op op_sub (pe_ix ix_list (pv 6) (pv 4) (fun _ _ => rfl)) (pv 5)) (pg_sub (pv 6) (pv 4) set_list)))) (pss_one (ps_if (pt_cmpR op_eq (pv 1) pe_int (nomark _)) (pss_one (ps_set (i := 6) sc_l_cells_done.nd rfl (Or.inl rfl) (pe_op op_catS (pe_slice sl_listS (pv 2) po_none (po_some (pv 3))) (pe_slice sl_listS (pv 2) (po_some (pe_op op_add (pv 3) pe_int)) po_none)))) (pss_one (ps_if (pt_cmpR op_eq (pv 1) pe_int (nomark _)) (pss_one (ps_set (i := 6) sc_l_cells_done.nd rfl (Or.inl rfl) (pe_op op_catS (pe_op op_catS (pe_slice sl_listS (pv 2) po_none (po_some (pv 3))) (pe_lstS (pa_cons (pe_ix ix_list (pv 2) (pv 4) (fun _ _ => rfl)) pa_nil))) (pe_slice sl_listS (pv 2) (po_some (pv 3)) po_none)))) (pss_one (ps_if (pt_cmpR op_eq (pv 1) pe_int (nomark _)) (pss_one (ps_set (i := 6) sc_l_cells_done.nd rfl (Or.inl rfl) (pe_op op_catS (pe_op op_catS (pe_slice sl_listS (pv 2) po_none (po_some (pv 3))) (pe_slrev (pe_slice sl_listS (pv 2) (po_some (pv 3)) (po_some (pe_op op_add (pv 3) pe_int))) (po_some (pe_un un_neg pe_int)))) (pe_slice sl_listS (pv 2) (po_some (pe_op op_add (pv 3) pe_int)) po_none)))) (pss_one (ps_set (i := 6) sc_l_cells_done.nd rfl (Or.inl rfl) (pe_op op_catS (pv 2) (pe_comp (N' := ["_law_turn", "_law_by_here", "_law_bag_here"]) rfl (CScope.of (src := [none, some 5, some 0]) (defScope s_l_cells_done) ["_law_bag_here", "_law_way", "_law_cells", "_law_at", "_law_other", "_law_by_here", "_law_done"] rfl rfl rfl (by decide +kernel) (by decide +kernel) (by decide +kernel) rfl (by decide +kernel)) (pi_range1 rfl T.range (pa_cons (pe_op op_add pe_int (pcall g_l_take hr (pa_cons (pv 0) (pa_cons pe_int pa_nil)))) pa_nil)) (fun _ _ _ _ => (pg_name (i := 0) (show List.Nodup (["_law_turn", "_law_by_here", "_law_bag_here"] : List Str) by decide +kernel) rfl (Or.inl rfl))) (fun _ _ _ _ => pf_nil) (fun _ _ _ _ => (pe_ix (ix_listK (K := K) rfl) (@pe_lstS _ _ _ _ (@pa_cons _ _ _ _ _ (@pe_int _ _ _ _) (@pa_cons _ _ _ _ _ (@pe_int _ _ _ _) (@pa_cons _ _ _ _ _ (pe_un un_neg pe_int) (@pa_cons _ _ _ _ _ (pe_op op_pow pe_int pe_int) (@pa_cons _ _ _ _ _ (pv 1) (@pa_nil _) (by rfl)) (by rfl)) (by rfl)) st_const) st_const)) (pcall g_l_take hr (pa_cons (pv 2) (pa_cons pe_int pa_nil))) (fun _ _ => rfl))))))))))))))
  (pss_one (ps_ret (pv 6))))))), ?_⟩
  refine ⟨_, rfl, _, rfl, c, _, rfl, .inl (SqL.of hc), b, n, _, rfl, hb, by omega, by rw [iv_len]; omega, by rw [iv_len]; omega, fun r1 H1 r10 r11 hb1 sb1 => ?_⟩
  rw [iv_len] at r11
  obtain ⟨j, rfl⟩ : ∃ j : Nat, r1 = (j : Int) := ⟨r1.toNat, by omega⟩
  have hj : j < xs.length := by omega
  refine ⟨_, rfl, b, _, rfl, hb1, by omega, fun y H2 hy hb2 sb2 => ?_⟩
  have hc2 := sb2 _ _ (sb1 _ _ hc nbc.symm) nbc.symm
  refine ⟨_, rfl, c, _, rfl, .inl (SqL.of hc2), fun d H3 fd ed s3 => ?_⟩
  have hc3 := s3 _ _ hc2
  have hb3 := hb2.same s3
  have sH : SameB b H H3 := (sb1.trans sb2).trans (SameB.of s3)
  have atm : atI (iv xs) (m : Int) = some (.int xs[m]) := iv_at (List.getElem?_eq_getElem hm)
  generalize xs[m] = xm at *
  have fd0 : H d = none := (sb1.trans sb2).free hb2.ex fd
  have nbd : b ≠ d := ne_of_none hb2.ex.choose_spec fd
  refine gset ?_
  dsimp only
  show tSeq (tIfS _ _ _) _ _ _ _
  refine seq_split (fun σ HH => ∃ (a : Addr) (ys : List Int), σ = [some (.ref b), some (.int wy), some (.ref c), some (.int m), some (.int j), some (.int y), some (.ref a)] ∧ HH a = some (.lst (iv ys)) ∧ ys.length ≤ 700 ∧ SameB b H HH) (fun σ HH h => ?_) (fun D' hn' => ?_)
  · obtain ⟨a, ys, rfl, h1, h2, h3⟩ := h
    exact ⟨_, rfl, q a ys HH h1 h2 h3⟩
  refine ⟨_, rfl, rfl, _, rfl, ite3 (fun _ => ?_) (fun _ => ?_)⟩
  · have sz : (iv xs).length = xs.length := iv_len xs
    refine ⟨_, rfl, _, rfl, d, _, _, _, rfl, rfl, SqL.of ed, atm, _, rfl, _, _, rfl, rfl, _, rfl, _, rfl, d, _, _, _, rfl, rfl, ed, ixn (by rw [sz]; exact hm), ?_⟩
    have ed1 : (upd H3 d (.lst ((iv xs).set m (.int (xm + y))))) d = some (.lst (iv (xs.set m (xm + y)))) := by rw [upd_same]; unfold iv; rw [List.map_set]
    have sd1 : SameB b H (upd H3 d (.lst ((iv xs).set m (.int (xm + y))))) := sbStep sH SameB.upd fd0
    generalize upd H3 d (.lst ((iv xs).set m (.int (xm + y)))) = H4 at *
    have hl : (xs.set m (xm + y)).length = xs.length := List.length_set
    generalize xs.set m (xm + y) = ys at *
    have hj' : j < ys.length := by omega
    have atj : atI (iv ys) (j : Int) = some (.int ys[j]) := iv_at (List.getElem?_eq_getElem hj')
    generalize ys[j] = yj at *
    refine ⟨_, rfl, _, rfl, d, _, _, _, rfl, rfl, SqL.of ed1, atj, _, rfl, _, _, rfl, rfl, _, rfl, _, rfl, d, _, _, _, rfl, rfl, ed1, ixn (by rw [iv_len]; exact hj'), ?_⟩
    refine hn' _ _ ⟨d, ys.set j (yj - y), rfl, by rw [upd_same]; unfold iv; rw [List.map_set], by rw [List.length_set]; omega, sbStep sd1 SameB.upd fd0⟩
  refine ⟨_, rfl, rfl, _, rfl, ite3 (fun _ => ?_) (fun _ => ?_)⟩
  · refine ⟨_, rfl, _, rfl, _, rfl, c, _, rfl, SqL.of hc3, fun p1 H4 f1 e1 s4 => ?_⟩
    rw [cut_to] at e1
    refine ⟨_, rfl, _, rfl, _, _, rfl, rfl, _, rfl, c, _, rfl, SqL.of (s4 _ _ hc3), fun p2 H5 f2 e2 s5 => ?_⟩
    rw [cut_from1] at e2
    refine ⟨p1, p2, _, _, rfl, rfl, s5 _ _ e1, e2, Nat.le_of_lt (small9000 (by rw [iv_len, iv_len, List.length_take, List.length_drop]; omega)), fun p3 H6 f3 e3 s6 => ?_⟩
    rw [← iv_app] at e3
    exact hn' _ _ ⟨p3, _, rfl, e3, by rw [List.length_append, List.length_take, List.length_drop]; omega, sH.trans (SameB.of ((s4.trans s5).trans s6))⟩
  refine ⟨_, rfl, rfl, _, rfl, ite3 (fun _ => ?_) (fun _ => ?_)⟩
  · refine ⟨_, rfl, _, rfl, _, rfl, c, _, rfl, SqL.of hc3, fun p1 H4 f1 e1 s4 => ?_⟩
    rw [cut_to] at e1
    have atj : atI (iv xs) (j : Int) = some (.int xs[j]) := iv_at (List.getElem?_eq_getElem hj)
    generalize xs[j] = xj at *
    refine ⟨_, rfl, _, rfl, c, _, _, _, rfl, rfl, SqL.of (s4 _ _ hc3), atj, leSize (by show 1 ≤ 1000; decide), fun p2 H5 f2 e2 s5 => ?_⟩
    refine ⟨p1, p2, _, _, rfl, rfl, s5 _ _ e1, e2, Nat.le_of_lt (small9000 (by rw [iv_len, List.length_take]; show _ + 1 ≤ 9000; omega)), fun p3 H6 f3 e3 s6 => ?_⟩
    have e3' : H6 p3 = some (.lst (iv (xs.take m ++ [xj]))) := by rw [e3, iv_app]; rfl
    refine ⟨_, rfl, _, rfl, _, rfl, c, _, rfl, SqL.of (((s4.trans s5).trans s6) _ _ hc3), fun p4 H7 f4 e4 s7 => ?_⟩
    rw [cut_from] at e4
    refine ⟨p3, p4, _, _, rfl, rfl, s7 _ _ e3', e4, Nat.le_of_lt (small9000 (by rw [iv_len, iv_len, List.length_append, List.length_take, List.length_drop]; show _ + 1 + _ ≤ 9000; omega)), fun p5 H8 f5 e5 s8 => ?_⟩
    rw [← iv_app] at e5
    exact hn' _ _ ⟨p5, _, rfl, e5, by rw [List.length_append, List.length_append, List.length_take, List.length_drop]; show _ + 1 + _ ≤ 700; omega, sH.trans (SameB.of (((s4.trans s5).trans s6).trans (s7.trans s8)))⟩
  refine ⟨_, rfl, rfl, _, rfl, ite3 (fun _ => ?_) (fun _ => ?_)⟩
  · refine ⟨_, rfl, _, rfl, _, rfl, c, _, rfl, SqL.of hc3, fun p1 H4 f1 e1 s4 => ?_⟩
    rw [cut_to] at e1
    refine ⟨_, rfl, _, rfl, _, rfl, _, rfl, _, _, rfl, rfl, _, rfl, c, _, rfl, SqL.of (s4 _ _ hc3), fun p2 H5 f2 e2 s5 => ?_⟩
    have eb : cutV (iv xs) (some (m : Int)) (some ((m : Int) + 2)) = iv ((xs.drop m).take 2) := by
      have := cut_iv xs m 2
      rw [show ((m + 2 : Nat) : Int) = (m : Int) + 2 by omega] at this
      exact this
    rw [eb] at e2
    refine ⟨_, rfl, _, rfl, rfl, p2, _, rfl, SqL.of e2, fun p3 f3 => ?_⟩
    have s6 := same_new f3 (.lst (iv ((xs.drop m).take 2)).reverse)
    have e3 : (upd H5 p3 (.lst (iv ((xs.drop m).take 2)).reverse)) p3 = some (.lst (iv ((xs.drop m).take 2).reverse)) := by rw [upd_same, iv_rev]
    generalize upd H5 p3 (.lst (iv ((xs.drop m).take 2)).reverse) = H6 at *
    have tl : ((xs.drop m).take 2).reverse.length ≤ 2 := by rw [List.length_reverse, List.length_take]; omega
    have tl2 : ((xs.drop m).take 2).reverse.length ≤ xs.length - m := by rw [List.length_reverse, List.length_take, List.length_drop]; omega
    generalize ((xs.drop m).take 2).reverse = ys at *
    refine ⟨p1, p3, _, _, rfl, rfl, (s5.trans s6) _ _ e1, e3, Nat.le_of_lt (small9000 (by rw [iv_len, iv_len, List.length_take]; omega)), fun p4 H7 f4 e4 s7 => ?_⟩
    rw [← iv_app] at e4
    have sA := (s4.trans s5).trans (s6.trans s7)
    refine ⟨_, rfl, _, rfl, _, _, rfl, rfl, _, rfl, c, _, rfl, SqL.of (sA _ _ hc3), fun p5 H8 f5 e5 s8 => ?_⟩
    have eb2 : cutV (iv xs) (some ((m : Int) + 2)) none = iv (xs.drop (m + 2)) := by
      have := cut_from xs (m + 2)
      rw [show ((m + 2 : Nat) : Int) = (m : Int) + 2 by omega] at this
      exact this
    rw [eb2] at e5
    refine ⟨p4, p5, _, _, rfl, rfl, s8 _ _ e4, e5, Nat.le_of_lt (small9000 (by rw [iv_len, iv_len, List.length_append, List.length_take, List.length_drop]; omega)), fun p6 H9 f6 e6 s9 => ?_⟩
    rw [← iv_app] at e6
    exact hn' _ _ ⟨p6, _, rfl, e6, by rw [List.length_append, List.length_append, List.length_take, List.length_drop]; omega, sH.trans (SameB.of (sA.trans (s8.trans s9)))⟩
  · refine ⟨_, rfl, _, rfl, b, _, 9, rfl, hb3, by omega, by decide, by decide, fun r3 H4 r30 r31 hb4 sb4 => ⟨_, _, rfl, rfl, _, rfl, by omega, by omega, fun l hl => ?_⟩⟩
    have nbl : b ≠ l := hb4.nb hl
    have sH4 := sH.trans sb4
    have fl : H l = none := sH4.free hb4.ex hl
    refine comp_range (fun i σ HH => ∃ (u : Option V) (ys : List Int), σ = [u, some (.int y), some (.ref b)] ∧ HH l = some (.lst (iv ys)) ∧ ys.length = i ∧ BagAt HH b (n + 1 + 4 + 1 + i) ∧ SameB b H HH) ⟨none, [], rfl, upd_same, rfl, hb4.same (same_new hl _), sH4.trans (SameB.of (same_new hl _))⟩ (fun i σ HH hi h => ?_) (fun σ HH h => ?_)
    · obtain ⟨u, ys, rfl, g1, g2, g3, g4⟩ := h
      unfold gName
      dsimp only
      refine iteT ⟨_, rfl, _, _, rfl, rfl, ⟨by decide, by decide, by decide⟩, _, rfl, leSize (by show 5 ≤ 1000; decide), fun p H5 fp ep sp => ?_⟩
      have nlp : l ≠ p := ne_of_none g1 fp
      have nbp : b ≠ p := g3.nb fp
      refine ⟨_, rfl, b, _, 5, rfl, g3.same sp, by omega, by decide, by decide, fun r5 H6 r50 r51 hb6 sb6 => ?_⟩
      obtain ⟨v, hv⟩ := at5 (x := (10 : Int) ^ (30 : Int).toNat) (y := y) r50 r51
      have e6 : H6 l = some (.lst (iv ys)) := sb6 _ _ (sp _ _ g1) nbl.symm
      refine ⟨p, _, _, _, rfl, rfl, SqL.of (sb6 _ _ ep nbp.symm), hv, _, e6, small1000 (by rw [iv_len]; omega), _, ys ++ [v], rfl, ?_, by rw [List.length_append, g2]; rfl, ?_, ?_⟩
      · rw [upd_same, iv_app]; rfl
      · exact hb6.sameB SameB.upd nbl
      · exact sbStep ((g4.trans (SameB.of sp)).trans sb6) SameB.upd fl
    · obtain ⟨u, ys, rfl, g1, g2, g3, g4⟩ := h
      refine ⟨c, l, _, _, rfl, rfl, g4 _ _ hc nbc.symm, g1, Nat.le_of_lt (small9000 (by rw [iv_len, iv_len]; omega)), fun p1 H7 f1 e1 s7 => ?_⟩
      rw [← iv_app] at e1
      exact hn' _ _ ⟨p1, _, rfl, e1, by rw [List.length_append]; omega, g4.trans (SameB.of s7)⟩
theorem ok_records_done (Cd : Code K mg "_law_records_done" s_l_records_done p_l_records_done) (T : Tj mg) (g_l_take : Good P w K mg base "_law_take" 1 p_l_take spTake) : Good P w K mg base "_law_records_done" 2 p_l_records_done spRecsDone := by
  refine Cd.good sc_l_records_done (fun vs H Q E h => ?_) (fun f cdv A outer s H vs Q E hr h => ?_)
  · obtain ⟨b, r, n, w, rs, rfl, _⟩ := h
    rfl
  obtain ⟨b, r, n, wy, rs, rfl, nbr, hb, hn, hR, h0, few, hrs, q⟩ := h
  refine ⟨_, (pss_cons (ps_set (i := 3) sc_l_records_done.nd rfl (Or.inl rfl) (pcall g_l_take hr (pa_cons (pv 0) (pa_cons (pe_callB call_len_seq rfl T.len bt_len (pa_cons (pv 2) pa_nil)) pa_nil))))
  (pss_cons (ps_if (pt_cmpR op_eq (pv 1) pe_int (nomark _)) (pss_one (ps_set (i := 4) sc_l_records_done.nd rfl (Or.inl rfl) (pe_op op_catS (pe_slice sl_listS (pv 2) po_none (po_some (pv 3))) (pe_slice sl_listS (pv 2) (po_some (pe_op op_add (pv 3) pe_int)) po_none)))) (pss_one (ps_if (pt_cmpR op_eq (pv 1) pe_int (nomark _)) (pss_one (ps_set (i := 4) sc_l_records_done.nd rfl (Or.inl rfl) (pe_op op_catS (pe_op op_catS (pe_slice sl_listS (pv 2) po_none (po_some (pv 3))) (pe_lstS (pa_cons (pe_ix ix_list (pv 2) (pv 3) (fun _ _ => rfl)) pa_nil))) (pe_slice sl_listS (pv 2) (po_some (pv 3)) po_none)))) (pss_one (ps_set (i := 4) sc_l_records_done.nd rfl (Or.inl rfl) (pe_op op_catS (pe_op op_catS (pe_slice sl_listS (pv 2) po_none (po_some (pv 3))) (pe_slrev (pe_slice sl_listS (pv 2) (po_some (pv 3)) (po_some (pe_op op_add (pv 3) pe_int))) (po_some (pe_un un_neg pe_int)))) (pe_slice sl_listS (pv 2) (po_some (pe_op op_add (pv 3) pe_int)) po_none)))))))
  (pss_cons (ps_set (i := 5) sc_l_records_done.nd rfl (Or.inl rfl) (pe_lstS pa_nil))
  (pss_cons (ps_for PassesOwn.never rfl (pi_list (pv 4)) (pg_name (i := 6) sc_l_records_done.nd rfl (Or.inl rfl))
  (pss_one (ps_expr (pe_bm PySem.F.plainAttrs_list PySem.F.slot_list_extend PySem.F.type_list_extend mt_extend (pv 5) (pa_cons (pv 6) pa_nil)))))
  (pss_one (ps_ret (pv 5))))))), ?_⟩
  refine ⟨_, rfl, _, rfl, r, _, rfl, .inl (SqL.of hR), b, n, _, rfl, hb, by omega, by rw [rv_len]; omega, by rw [rv_len]; omega, fun r1 H1 r10 r11 hb1 sb1 => ?_⟩
  rw [rv_len] at r11
  obtain ⟨j, rfl⟩ : ∃ j : Nat, r1 = (j : Int) := ⟨r1.toNat, by omega⟩
  have hj : j < rs.length := by omega
  have hR1 := sb1 _ _ hR nbr.symm
  refine gset ?_
  dsimp only
  show tSeq (tIfS _ _ _) _ _ _ _
  refine seq_split (fun σ HH => ∃ (a : Addr) (qs : List Addr) (u v : Option V), σ = [some (.ref b), some (.int wy), some (.ref r), some (.int j), some (.ref a), u, v] ∧ HH a = some (.lst (rv qs)) ∧ qs.length ≤ 15 ∧ (∀ x ∈ qs, x ∈ rs) ∧ SameB b H HH) (fun σ HH h => ?_) (fun D' hn' => ?_)
  · obtain ⟨a, qs, u, v, rfl, h1, h2, h3, h4⟩ := h
    refine ⟨leSize (by show 0 ≤ 1000; decide), fun d H2 fd ed s2 => ?_⟩
    refine ⟨_, rfl, a, rfl, ⟨_, SqL.of (s2 _ _ h1)⟩, ?_⟩
    refine for_list (xs := rv qs) (fun i σ HF => ∃ (u : Option V) (ys : List Int), σ = [some (.ref b), some (.int wy), some (.ref r), some (.int j), some (.ref a), some (.ref d), u] ∧ HF d = some (.lst (iv ys)) ∧ ys.length ≤ 44 * i ∧ Same HH HF) ⟨_, [], rfl, ed, Nat.zero_le _, s2⟩ (fun i σ HF _ h => ?_) (fun i x σ HF hx h => ?_) (fun σ HF h => ?_)
    · obtain ⟨u, ys, rfl, g1, g2, g3⟩ := h
      exact SqL.of (g3 _ _ h1)
    · obtain ⟨u, ys, rfl, g1, g2, g3⟩ := h
      have hi : i < qs.length := by
        have := (List.getElem?_eq_some_iff.mp hx).1
        rw [rv_len] at this
        exact this
      have hci : qs[i]? = some qs[i] := List.getElem?_eq_getElem hi
      have hx' : x = .ref qs[i] := by
        unfold rv at hx
        rw [List.getElem?_map, hci] at hx
        exact (Option.some.inj hx).symm
      generalize qs[i] = p at *
      subst hx'
      obtain ⟨npb, ws, hw, lw⟩ := hrs p (h3 p (List.mem_of_getElem? hci))
      have hw' := g3 _ _ (h4 _ _ hw npb)
      refine ⟨_, rfl, .inl ⟨rfl, _, SqL.of g1⟩, _, rfl, d, p, _, _, rfl, rfl, g1, hw', Nat.le_of_lt (small9000 (by rw [iv_len, iv_len]; omega)), _, ys ++ ws, rfl, ?_, ?_, g3.stepB SameB.upd fd⟩
      · rw [upd_same, iv_app]
      · rw [List.length_append]; omega
    · obtain ⟨u, ys, rfl, g1, g2, g3⟩ := h
      rw [rv_len] at g2
      exact ⟨_, rfl, q d ys HF g1 (by omega) (h4.trans (SameB.of g3))⟩
  refine ⟨_, rfl, rfl, _, rfl, ite3 (fun _ => ?_) (fun _ => ?_)⟩
  · refine ⟨_, rfl, _, rfl, _, rfl, r, _, rfl, SqL.of hR1, fun p1 H4 f1 e1 s4 => ?_⟩
    rw [rcut_to] at e1
    refine ⟨_, rfl, _, rfl, _, _, rfl, rfl, _, rfl, r, _, rfl, SqL.of (s4 _ _ hR1), fun p2 H5 f2 e2 s5 => ?_⟩
    have eb2 : cutV (rv rs) (some ((j : Int) + 1)) none = rv (rs.drop (j + 1)) := by
      have := rcut_from rs (j + 1)
      rw [show ((j + 1 : Nat) : Int) = (j : Int) + 1 by omega] at this
      exact this
    rw [eb2] at e2
    refine ⟨p1, p2, _, _, rfl, rfl, s5 _ _ e1, e2, leSize (by rw [rv_len, rv_len, List.length_take, List.length_drop]; omega), fun p3 H6 f3 e3 s6 => ?_⟩
    rw [rv_app] at e3
    refine hn' _ _ ⟨p3, _, _, _, rfl, e3, by rw [List.length_append, List.length_take, List.length_drop]; omega, fun x hx => ?_, sb1.trans (SameB.of ((s4.trans s5).trans s6))⟩
    rcases List.mem_append.mp hx with h | h
    · exact List.mem_of_mem_take h
    · exact List.mem_of_mem_drop h
  refine ⟨_, rfl, rfl, _, rfl, ite3 (fun _ => ?_) (fun _ => ?_)⟩
  · refine ⟨_, rfl, _, rfl, _, rfl, r, _, rfl, SqL.of hR1, fun p1 H4 f1 e1 s4 => ?_⟩
    rw [rcut_to] at e1
    have hat : atI (rv rs) (j : Int) = some (.ref rs[j]) := atI_nat (by unfold rv; rw [List.getElem?_map, List.getElem?_eq_getElem hj]; rfl)
    have hmem : rs[j] ∈ rs := List.getElem_mem hj
    generalize rs[j] = x0 at *
    refine ⟨_, rfl, _, rfl, r, _, _, _, rfl, rfl, SqL.of (s4 _ _ hR1), hat, leSize (by show 1 ≤ 1000; decide), fun p2 H5 f2 e2 s5 => ?_⟩
    refine ⟨p1, p2, _, _, rfl, rfl, s5 _ _ e1, e2, leSize (by rw [rv_len, List.length_take]; show _ + 1 ≤ 1000; omega), fun p3 H6 f3 e3 s6 => ?_⟩
    have e3' : H6 p3 = some (.lst (rv (rs.take j ++ [x0]))) := by rw [e3, ← rv_app]; rfl
    refine ⟨_, rfl, _, rfl, _, rfl, r, _, rfl, SqL.of (((s4.trans s5).trans s6) _ _ hR1), fun p4 H7 f4 e4 s7 => ?_⟩
    rw [rcut_from] at e4
    refine ⟨p3, p4, _, _, rfl, rfl, s7 _ _ e3', e4, leSize (by rw [rv_len, rv_len, List.length_append, List.length_take, List.length_drop]; show _ + 1 + _ ≤ 1000; omega), fun p5 H8 f5 e5 s8 => ?_⟩
    rw [rv_app] at e5
    refine hn' _ _ ⟨p5, _, _, _, rfl, e5, by rw [List.length_append, List.length_append, List.length_take, List.length_drop]; show _ + 1 + _ ≤ 15; omega, fun x hx => ?_, sb1.trans (SameB.of (((s4.trans s5).trans s6).trans (s7.trans s8)))⟩
    rcases List.mem_append.mp hx with h | h
    · rcases List.mem_append.mp h with h | h
      · exact List.mem_of_mem_take h
      · have : x = x0 := by simpa using h
        rw [this]; exact hmem
    · exact List.mem_of_mem_drop h
  · refine ⟨_, rfl, _, rfl, _, rfl, r, _, rfl, SqL.of hR1, fun p1 H4 f1 e1 s4 => ?_⟩
    rw [rcut_to] at e1
    refine ⟨_, rfl, _, rfl, _, rfl, _, rfl, _, _, rfl, rfl, _, rfl, r, _, rfl, SqL.of (s4 _ _ hR1), fun p2 H5 f2 e2 s5 => ?_⟩
    have eb : cutV (rv rs) (some (j : Int)) (some ((j : Int) + 2)) = rv ((rs.drop j).take 2) := by
      have := rcut rs j 2
      rw [show ((j + 2 : Nat) : Int) = (j : Int) + 2 by omega] at this
      exact this
    rw [eb] at e2
    refine ⟨_, rfl, _, rfl, rfl, p2, _, rfl, SqL.of e2, fun p3 f3 => ?_⟩
    have s6 := same_new f3 (.lst (rv ((rs.drop j).take 2)).reverse)
    have e3 : (upd H5 p3 (.lst (rv ((rs.drop j).take 2)).reverse)) p3 = some (.lst (rv ((rs.drop j).take 2).reverse)) := by rw [upd_same, rv_rev]
    generalize upd H5 p3 (.lst (rv ((rs.drop j).take 2)).reverse) = H6 at *
    have tl : ((rs.drop j).take 2).reverse.length ≤ 2 := by rw [List.length_reverse, List.length_take]; omega
    have tl2 : ((rs.drop j).take 2).reverse.length ≤ rs.length - j := by rw [List.length_reverse, List.length_take, List.length_drop]; omega
    have tm : ∀ x ∈ ((rs.drop j).take 2).reverse, x ∈ rs := fun x hx => List.mem_of_mem_drop (List.mem_of_mem_take (List.mem_reverse.mp hx))
    generalize ((rs.drop j).take 2).reverse = ys at *
    refine ⟨p1, p3, _, _, rfl, rfl, (s5.trans s6) _ _ e1, e3, leSize (by rw [rv_len, rv_len, List.length_take]; omega), fun p4 H7 f4 e4 s7 => ?_⟩
    rw [rv_app] at e4
    have sA := (s4.trans s5).trans (s6.trans s7)
    refine ⟨_, rfl, _, rfl, _, _, rfl, rfl, _, rfl, r, _, rfl, SqL.of (sA _ _ hR1), fun p5 H8 f5 e5 s8 => ?_⟩
    have eb2 : cutV (rv rs) (some ((j : Int) + 2)) none = rv (rs.drop (j + 2)) := by
      have := rcut_from rs (j + 2)
      rw [show ((j + 2 : Nat) : Int) = (j : Int) + 2 by omega] at this
      exact this
    rw [eb2] at e5
    refine ⟨p4, p5, _, _, rfl, rfl, s8 _ _ e4, e5, leSize (by rw [rv_len, rv_len, List.length_append, List.length_take, List.length_drop]; omega), fun p6 H9 f6 e6 s9 => ?_⟩
    rw [rv_app] at e6
    refine hn' _ _ ⟨p6, _, _, _, rfl, e6, by rw [List.length_append, List.length_append, List.length_take, List.length_drop]; omega, fun x hx => ?_, sb1.trans (SameB.of (sA.trans (s8.trans s9)))⟩
    rcases List.mem_append.mp hx with h | h
    · rcases List.mem_append.mp h with h | h
      · exact List.mem_of_mem_take h
      · exact tm x h
    · exact List.mem_of_mem_drop h
end
end K36

set_option Elab.async false
set_option linter.all false
set_option maxRecDepth 100000
set_option pp.maxSteps 300
set_option maxHeartbeats 2000000
namespace K36
open PySem L2
abbrev s_l_one : Stmt := top 33
abbrev p_l_one : List Str := ["_law_bag_here", "_law_notes", "_law_records"]
theorem sc_l_one : FnScope ["_law_bag_here", "_law_notes", "_law_records", "_law_cells", "_law_ends", "_law_one_here", "_law_way", "_law_at", "_law_done"] p_l_one (defScope s_l_one) := ⟨rfl, rfl, rfl, by decide +kernel, rfl, by decide +kernel, by decide +kernel⟩
abbrev s_law : Stmt := top 34
abbrev p_law : List Str := ["_law_script"]
theorem sc_law : FnScope ["_law_script", "_law_first", "_law_many", "_law_notes", "_law_records", "_law_k"] p_law (defScope s_law) := ⟨rfl, rfl, rfl, by decide +kernel, rfl, by decide +kernel, by decide +kernel⟩
/-- where the first n records end -/
def endsN (zs : List Str) (n : Nat) : List Int := (List.range n).map fun j => (lenr (zs.take (j + 1)) : Int)
theorem endsN_succ (zs : List Str) (n : Nat) : endsN zs (n + 1) = endsN zs n ++ [(lenr (zs.take (n + 1)) : Int)] := by
  unfold endsN
  rw [List.range_succ, List.map_append]
  rfl
theorem endsN_len (zs : List Str) (n : Nat) : (endsN zs n).length = n := by unfold endsN; rw [List.length_map, List.length_range]
theorem endsN_at {zs : List Str} {n j : Nat} (h : j < n) : (iv (endsN zs n))[j]? = some (.int (lenr (zs.take (j + 1)) : Int)) := by
  unfold iv endsN
  rw [List.map_map, List.getElem?_map, List.getElem?_range h]
  rfl
/-- the records of these notes at these addresses -/
structure RecsAt (H : Hp) (b : Addr) (rs : List Addr) (zs : List Str) : Prop where
  len : rs.length = zs.length
  at_ : ∀ (i : Nat) (a : Addr) (z : Str), rs[i]? = some a → zs[i]? = some z → a ≠ b ∧ H a = some (.lst (iv (recd i z)))
theorem RecsAt.sameB {H H' : Hp} {b : Addr} {rs : List Addr} {zs : List Str} (h : RecsAt H b rs zs) (s : SameB b H H') : RecsAt H' b rs zs := ⟨h.len, fun i a z h1 h2 => ⟨(h.at_ i a z h1 h2).1, s _ _ (h.at_ i a z h1 h2).2 (h.at_ i a z h1 h2).1⟩⟩
theorem RecsAt.mem {H : Hp} {b : Addr} {rs : List Addr} {zs : List Str} (h : RecsAt H b rs zs) (nz : ∀ z ∈ zs, NoteOk z) : ∀ a ∈ rs, a ≠ b ∧ ∃ xs : List Int, H a = some (.lst (iv xs)) ∧ xs.length ≤ 44 := fun a ha => by
  obtain ⟨i, hi⟩ := List.getElem?_of_mem ha
  have hl := (List.getElem?_eq_some_iff.mp hi).1
  rw [h.len] at hl
  have hz : zs[i]? = some zs[i] := List.getElem?_eq_getElem hl
  have r := h.at_ i a _ hi hz
  exact ⟨r.1, _, r.2, by have := (nz _ (List.mem_of_getElem? hz)).len; rw [recd_len]; omega⟩
def spOne : Sp := fun vs H Q _ => ∃ (b l r : Addr) (zs : List Str) (rs : List Addr), vs = [.ref b, .ref l, .ref r] ∧ BagAt H b 0 ∧ H l = some (.lst (sv zs)) ∧ H r = some (.lst (rv rs)) ∧ l ≠ b ∧ r ≠ b ∧ RecsAt H b rs zs ∧ (∀ z ∈ zs, NoteOk z) ∧ 0 < zs.length ∧ zs.length ≤ 14 ∧ ∀ H', SameB b H H' → Q (.bl true) H'
section
variable {P : Program} {w : World} {K : PySem.W.Frag} {mg : Str → Option Value} {base : Heap} {C : Addr}
theorem ok_one (Cd : Code K mg "_law_one" s_l_one p_l_one) (T : Tj mg) (g_l_take : Good P w K mg base "_law_take" 1 p_l_take spTake) (g_l_by : Good P w K mg base "_law_by" 2 p_l_by spLBy) (g_l_sign_put : Good P w K mg base "_law_sign_put" 2 p_l_sign_put spSignPut) (g_l_told : Good P w K mg base "_law_told" 7 p_l_told spTold)
    (g_l_cells_done : Good P w K mg base "_law_cells_done" 3 p_l_cells_done spCellsDone) (g_l_records_done : Good P w K mg base "_law_records_done" 2 p_l_records_done spRecsDone) (g_l_reads : Good P w K mg base "_law_reads" 2 p_l_reads spReads) : Good P w K mg base "_law_one" 8 p_l_one spOne := by
  refine Cd.good sc_l_one (fun vs H Q E h => ?_) (fun f cdv A outer s H vs Q E hr h => ?_)
  · obtain ⟨b, l, r, zs, rs, rfl, _⟩ := h
    rfl
  obtain ⟨b, l, r, zs, rs, rfl, hb, hl, hR, nlb, nrb, RA, nz, h0, few, q⟩ := h
  refine ⟨_, (pss_cons (ps_set (i := 3) sc_l_one.nd rfl (Or.inl rfl) (pe_lstS pa_nil))
  (pss_cons (ps_set (i := 4) sc_l_one.nd rfl (Or.inl rfl) (pe_lstS pa_nil))
  (pss_cons (ps_for PassesOwn.never rfl (pi_list (pv 2)) (pg_name (i := 5) sc_l_one.nd rfl (Or.inl rfl))
  (pss_cons (ps_expr (pe_bm PySem.F.plainAttrs_list PySem.F.slot_list_extend PySem.F.type_list_extend mt_extend (pv 3) (pa_cons (pv 5) pa_nil)))
  (pss_one (ps_expr (pe_bm PySem.F.plainAttrs_list PySem.F.slot_list_append PySem.F.type_list_append mt_append (pv 4) (pa_cons (pe_callB call_len_seq rfl T.len bt_len (pa_cons (pv 3) pa_nil)) pa_nil))))))
  (pss_cons (ps_set (i := 6) sc_l_one.nd rfl (Or.inl rfl) (pcall g_l_take hr (pa_cons (pv 0) (pa_cons pe_int pa_nil))))
  (pss_cons (ps_set (i := 7) sc_l_one.nd rfl (Or.inr rfl) (pcall g_l_take hr (pa_cons (pv 0) (pa_cons (pe_callB call_len_seq rfl T.len bt_len (pa_cons (pv 3) pa_nil)) pa_nil))))
  (pss_cons (ps_if (pt_cmpR op_lt (pv 6) pe_int (nomark _)) (pss_cons (ps_set (i := 8) sc_l_one.nd rfl (Or.inl rfl) (pe_op op_catS (pe_op op_catS (pe_slice sl_listS (pv 3) po_none (po_some (pv 7))) (pe_lstS (pa_cons (pe_op op_add (pe_ix ix_list (pv 3) (pv 7) (fun _ _ => rfl)) (pcall g_l_by hr (pa_cons (pv 0) pa_nil))) pa_nil))) (pe_slice sl_listS (pv 3) (po_some (pe_op op_add (pv 7) pe_int)) po_none)))
  (pss_cons (ps_if (pt_cmpR op_lt (pv 6) pe_int (nomark _)) (pss_one (ps_set (i := 8) sc_l_one.nd rfl (Or.inl rfl) (pcall g_l_sign_put hr (pa_cons (pv 0) (pa_cons (pv 3) (pa_cons (pv 7) pa_nil)))))) pss_nil)
  (pss_one (ps_ret (pcall g_l_told hr (pa_cons (pv 8) (pa_cons (pe_comp (N' := ["_law_note_here", "_law_end", "_law_at"]) rfl (CScope.of (src := [none, none, some 7]) (defScope s_l_one) ["_law_bag_here", "_law_notes", "_law_records", "_law_cells", "_law_ends", "_law_one_here", "_law_way", "_law_at", "_law_done"] rfl rfl rfl (by decide +kernel) (by decide +kernel) (by decide +kernel) rfl (by decide +kernel)) (pi_zip2 rfl T.zip (pa_cons (pv 1) (pa_cons (pv 4) pa_nil))) (fun _ _ _ _ => (pg_tupK (K := K) (n := 2) rfl rfl (pgs_cons (pg_name (i := 0) (show List.Nodup (["_law_note_here", "_law_end", "_law_at"] : List Str) by decide +kernel) rfl (Or.inl rfl)) (pgs_cons (pg_name (i := 1) (show List.Nodup (["_law_note_here", "_law_end", "_law_at"] : List Str) by decide +kernel) rfl (Or.inl rfl)) pgs_nil)))) (fun _ _ _ _ => (pf_one (pt_cmpR op_le (pv 1) (pv 2) (nomark _)))) (fun _ _ _ _ => (pv 0))) pa_nil))))))) pss_nil)
  (pss_cons (ps_if (pt_cmpR op_lt (pv 6) pe_int (nomark _)) (pss_one (ps_set (i := 8) sc_l_one.nd rfl (Or.inl rfl) (pcall g_l_cells_done hr (pa_cons (pv 0) (pa_cons (pe_op op_sub (pv 6) pe_int) (pa_cons (pv 3) (pa_cons (pv 7) pa_nil))))))) (pss_one (ps_set (i := 8) sc_l_one.nd rfl (Or.inl rfl) (pcall g_l_records_done hr (pa_cons (pv 0) (pa_cons (pe_op op_sub (pv 6) pe_int) (pa_cons (pv 2) pa_nil)))))))
  (pss_one (ps_ret (pcall g_l_told hr (pa_cons (pv 8) (pa_cons (pcall g_l_reads hr (pa_cons (pv 8) pa_nil)) pa_nil)))))))))))), ?_⟩
  refine ⟨leSize (by show 0 ≤ 1000; decide), fun c H1 fc ec s1 => ⟨leSize (by show 0 ≤ 1000; decide), fun e H2 fe ee s2 => ?_⟩⟩
  have svl : (sv zs).length = zs.length := List.length_map ..
  have nce : c ≠ e := ne_of_none ec fe
  have fe' : H e = none := s1.free fe
  have hb2 : BagAt H2 b 0 := (hb.same s1).same s2
  refine ⟨_, rfl, r, rfl, ⟨_, SqL.of ((s1.trans s2) _ _ hR)⟩, ?_⟩
  have rl := recs_lenr 0 zs
  have rb := recs_len (k := 0) (zs := zs) nz
  refine for_list (xs := rv rs) (fun i σ HH => ∃ u5 u6 u7 u8, σ = [some (.ref b), some (.ref l), some (.ref r), some (.ref c), some (.ref e), u5, u6, u7, u8] ∧ HH c = some (.lst (iv (recs 0 (zs.take i)))) ∧ HH e = some (.lst (iv (endsN zs i))) ∧ Same H HH) ⟨_, _, _, _, rfl, s2 _ _ ec, ee, s1.trans s2⟩ (fun i σ HH _ h => ?_) (fun i x σ HH hx h => ?_) (fun σ HH h => ?_)
  · obtain ⟨u5, u6, u7, u8, rfl, g1, g2, g3⟩ := h
    exact SqL.of (g3 _ _ hR)
  · obtain ⟨u5, u6, u7, u8, rfl, g1, g2, g3⟩ := h
    have hi : i < rs.length := by
      have := (List.getElem?_eq_some_iff.mp hx).1
      rw [rv_len] at this
      exact this
    have hci : rs[i]? = some rs[i] := List.getElem?_eq_getElem hi
    have hx' : x = .ref rs[i] := by
      unfold rv at hx
      rw [List.getElem?_map, hci] at hx
      exact (Option.some.inj hx).symm
    generalize rs[i] = p at *
    subst hx'
    have hi' : i < zs.length := by rw [← RA.len]; exact hi
    have hz : zs[i]? = some zs[i] := List.getElem?_eq_getElem hi'
    generalize zs[i] = z at *
    have ra := (RA.at_ i p z hci hz).2
    have rs' := recs_snoc 0 (zs.take i) z
    rw [List.length_take, Nat.min_eq_left (Nat.le_of_lt hi'), Nat.zero_add] at rs'
    have rt := recs_take 0 zs (i + 1)
    rw [take_snoc hz, rs', List.length_append] at rt
    refine ⟨_, rfl, .inl ⟨rfl, _, SqL.of g1⟩, _, rfl, c, p, _, _, rfl, rfl, g1, g3 _ _ ra, Nat.le_of_lt (small9000 (by rw [iv_len, iv_len]; omega)), ?_⟩
    have g1' : (upd HH c (.lst (iv (recs 0 (zs.take i)) ++ iv (recd i z)))) c = some (.lst (iv (recs 0 (zs.take (i + 1))))) := by rw [upd_same, take_snoc hz, rs', iv_app]
    have g2' : (upd HH c (.lst (iv (recs 0 (zs.take i)) ++ iv (recd i z)))) e = some (.lst (iv (endsN zs i))) := by rw [upd_ne nce.symm]; exact g2
    have g3' : Same H (upd HH c (.lst (iv (recs 0 (zs.take i)) ++ iv (recd i z)))) := g3.stepB SameB.upd fc
    generalize upd HH c (.lst (iv (recs 0 (zs.take i)) ++ iv (recd i z))) = H3 at *
    refine ⟨_, rfl, .inl ⟨rfl, _, SqL.of g2'⟩, _, rfl, c, _, rfl, .inl (SqL.of g1'), e, _, _, rfl, rfl, g2', small1000 (by rw [iv_len, endsN_len]; omega), _, _, _, _, rfl, ?_, ?_, g3'.stepB SameB.upd fe'⟩
    · rw [upd_ne nce]; exact g1'
    · rw [upd_same, endsN_succ, iv_app, iv_len, recs_lenr]; rfl
  obtain ⟨u5, u6, u7, u8, rfl, g1, g2, g3⟩ := h
  rw [rv_len, RA.len] at g1 g2
  rw [List.take_length] at g1
  have nbc : b ≠ c := ne_of_none hb.ex.choose_spec fc
  have nbe : b ≠ e := ne_of_none hb.ex.choose_spec fe'
  have hl0 : 4 ≤ (recs 0 zs).length := by
    cases zs with
    | nil => exact absurd h0 (Nat.lt_irrefl _)
    | cons z t => show 4 ≤ (recd 0 z ++ recs 1 t).length; rw [List.length_append, recd_len]; omega
  refine ⟨_, rfl, b, _, 14, rfl, hb.same g3, by decide, by decide, by decide, fun wy H3 w0 w1 hb3 sb3 => ?_⟩
  have c3 := sb3 _ _ g1 nbc.symm
  have e3 := sb3 _ _ g2 nbe.symm
  refine ⟨_, rfl, _, rfl, c, _, rfl, .inl (SqL.of c3), b, _, _, rfl, hb3, by decide, by rw [iv_len]; omega, by rw [iv_len]; omega, fun r4 H4 r40 r41 hb4 sb4 => ?_⟩
  rw [iv_len] at r41
  obtain ⟨m, rfl⟩ : ∃ m : Nat, r4 = (m : Int) := ⟨r4.toNat, by omega⟩
  have hm : m < (recs 0 zs).length := by omega
  have c4 := sb4 _ _ c3 nbc.symm
  have e4 := sb4 _ _ e3 nbe.symm
  have s4 : SameB b H H4 := ((SameB.of g3).trans sb3).trans sb4
  clear sb3 sb4 hb3 c3 e3 g3 g1 g2 hb2 s1 s2
  have hmx : (recs 0 zs)[m]? = some (recs 0 zs)[m] := List.getElem?_eq_getElem hm
  generalize (recs 0 zs)[m] = xm at hmx
  refine ⟨_, rfl, _, _, rfl, rfl, _, rfl, ite3 (fun _ => ?_) (fun _ => ?_)⟩
  · refine ⟨_, rfl, _, rfl, _, rfl, c, _, rfl, SqL.of c4, fun p1 H5 f1 e5 s5 => ?_⟩
    rw [cut_to] at e5
    have nbp : b ≠ p1 := hb4.nb f1
    refine ⟨_, rfl, _, rfl, c, _, _, _, rfl, rfl, SqL.of (s5 _ _ c4), iv_at hmx, _, rfl, b, _, rfl, hb4.same s5, by decide, fun y H6 hy hb6 sb6 => ⟨_, _, rfl, rfl, leSize (by show 1 ≤ 1000; decide), fun p2 H7 f2 e7 s7 => ?_⟩⟩
    have e5' := s7 _ _ (sb6 _ _ e5 nbp.symm)
    have c7 := s7 _ _ (sb6 _ _ (s5 _ _ c4) nbc.symm)
    refine ⟨p1, p2, _, _, rfl, rfl, e5', e7, Nat.le_of_lt (small9000 (by rw [iv_len, List.length_take]; show _ + 1 ≤ 9000; omega)), fun p3 H8 f3 e8 s8 => ?_⟩
    refine ⟨_, rfl, _, rfl, _, _, rfl, rfl, _, rfl, c, _, rfl, SqL.of (s8 _ _ c7), fun p4 H9 f4 e9 s9 => ?_⟩
    rw [cut_from1] at e9
    refine ⟨p3, p4, _, _, rfl, rfl, s9 _ _ e8, e9, Nat.le_of_lt (small9000 (by rw [List.length_append, iv_len, iv_len, List.length_take, List.length_drop]; show _ + 1 + _ ≤ 9000; omega)), fun p5 H10 f5 e10 s10 => ?_⟩
    rw [set3 hm] at e10
    have sA : SameB b H4 H10 := ((SameB.of s5).trans sb6).trans (SameB.of (s7.trans (s8.trans (s9.trans s10))))
    have hbA := hb6.same (s7.trans (s8.trans (s9.trans s10)))
    refine gset ?_
    dsimp only
    show tSeq (tIfS _ _ _) _ _ _ _
    refine seq_split (fun σ HH => ∃ (d : Addr) (y : Int), σ = [some (.ref b), some (.ref l), some (.ref r), some (.ref c), some (.ref e), u5, some (.int wy), some (.int m), some (.ref d)] ∧ y ≠ xm ∧ HH d = some (.lst (iv ((recs 0 zs).set m y))) ∧ SameB b H4 HH) (fun σ HH h => ?_) (fun D' hn' => ?_)
    rotate_left 1
    · refine ⟨_, rfl, _, _, rfl, rfl, _, rfl, ite3 (fun _ => ?_) (fun _ => ?_)⟩
      · exact ⟨_, rfl, _, rfl, _, rfl, b, c, _, m, _, xm, rfl, nbc, hbA, by decide, sA _ _ c4 nbc.symm, hmx, by omega, fun y d H11 hy' ed hb11 sb11 => hn' _ _ ⟨d, y, rfl, hy', ed, sA.trans sb11⟩⟩
      · exact hn' _ _ ⟨p5, xm + y, rfl, by omega, e10, sA⟩
    obtain ⟨d, y', rfl, hy', ed, sD⟩ := h
    clear sA hbA e10 s10 f5 e9 s9 f4 e8 s8 f3 e5' c7 e7 s7 f2 hb6 sb6 e5 s5 f1 nbp
    have l5 := sD _ _ (s4 _ _ hl nlb) nlb
    have e5 := sD _ _ e4 nbe.symm
    refine ⟨_, rfl, _, rfl, _, rfl, l, e, rfl, ⟨_, SqL.of l5⟩, ⟨_, SqL.of e5⟩, fun m' hm' => ?_⟩
    have nm := same_new hm' (.lst [])
    refine comp_zip (xs := sv zs) (ys := iv (endsN zs zs.length)) (by rw [iv_len, endsN_len, svl]) (fun i σ HF => ∃ u v, σ = [u, v, some (.int m)] ∧ HF m' = some (.lst (sv (due (zs.take i) m))) ∧ Same HH HF) ⟨_, _, rfl, upd_same, nm⟩ (fun i σ HF _ h => ?_) (fun i x y p σ HF hx hy h hp => ?_) (fun σ HF h => ?_)
    · obtain ⟨u, v, rfl, g1, g2⟩ := h
      exact ⟨SqL.of (g2 _ _ l5), SqL.of (g2 _ _ e5)⟩
    · obtain ⟨u, v, rfl, g1, g2⟩ := h
      have hi : i < zs.length := by
        have := (List.getElem?_eq_some_iff.mp hx).1
        rw [svl] at this
        exact this
      have hz : zs[i]? = some zs[i] := List.getElem?_eq_getElem hi
      have hx' : x = .str zs[i] := by
        unfold sv at hx
        rw [List.getElem?_map, hz] at hx
        exact (Option.some.inj hx).symm
      subst hx'
      generalize zs[i] = z at *
      rw [endsN_at hi] at hy
      have hy2 : y = .int (lenr (zs.take (i + 1)) : Int) := (Option.some.inj hy).symm
      subst hy2
      have ds := due_snoc z (zs.take i) m
      rw [← take_snoc hz] at ds
      have dl := due_len (zs.take i) m
      rw [List.length_take] at dl
      have sp := same_new hp (.tup [.str z, .int (lenr (zs.take (i + 1)) : Int)])
      refine ⟨p, _, rfl, SqT.of upd_same, rfl, _, _, rfl, _, _, rfl, rfl, ?_⟩
      generalize upd HF p (.tup [.str z, .int (lenr (zs.take (i + 1)) : Int)]) = HG at *
      refine ⟨_, rfl, _, rfl, _, _, rfl, rfl, _, rfl, ite3 (fun hk => ?_) (fun hk => ?_)⟩
      · have hk' : lenr (zs.take (i + 1)) ≤ m := by have := of_decide_eq_true hk; omega
        rw [if_pos hk'] at ds
        refine ⟨_, rfl, _, sp _ _ g1, small1000 (by unfold sv; rw [List.length_map]; omega), _, _, rfl, ?_, (g2.trans sp).stepB SameB.upd hm'⟩
        rw [upd_same, ds]
        unfold sv
        rw [List.map_append]
        rfl
      · have hk' : ¬ lenr (zs.take (i + 1)) ≤ m := by have := of_decide_eq_false hk; omega
        rw [if_neg hk', List.append_nil] at ds
        exact ⟨_, _, rfl, by rw [ds]; exact sp _ _ g1, g2.trans sp⟩
    · obtain ⟨u, v, rfl, g1, g2⟩ := h
      rw [svl, List.take_length] at g1
      exact ⟨d, m', _, _, rfl, g2 _ _ ed, g1, read_set nz hmx hy', by rw [List.length_set]; omega, fun H' s' => q H' ((s4.trans sD).trans (SameB.of (g2.trans s')))⟩
  · unfold tNext
    dsimp only
    show tSeq (tIfS _ _ _) _ _ _ _
    refine seq_split (fun σ HH => ∃ (d : Addr) (ys : List Int), σ = [some (.ref b), some (.ref l), some (.ref r), some (.ref c), some (.ref e), u5, some (.int wy), some (.int m), some (.ref d)] ∧ HH d = some (.lst (iv ys)) ∧ ys.length ≤ 700 ∧ SameB b H HH) (fun σ HH h => ?_) (fun D' hn' => ?_)
    · obtain ⟨d, ys, rfl, h1, h2, h3⟩ := h
      exact ⟨_, rfl, _, rfl, d, ys, rfl, h1, by omega, fun l' H' f' e' s' => ⟨d, l', ys, _, rfl, s' _ _ h1, e', rfl, h2, fun H'' s'' => q _ (h3.trans (SameB.of (s'.trans s'')))⟩⟩
    refine ⟨_, rfl, _, _, rfl, rfl, _, rfl, ite3 (fun _ => ?_) (fun _ => ?_)⟩
    · exact ⟨_, rfl, _, rfl, _, _, rfl, rfl, _, rfl, _, rfl, b, c, _, m, _, _, rfl, nbc, hb4, by decide, c4, hm, by omega, fun a ys H' ha hy sb => hn' _ _ ⟨a, ys, rfl, ha, hy, s4.trans sb⟩⟩
    · exact ⟨_, rfl, _, rfl, _, _, rfl, rfl, _, rfl, b, r, _, _, rs, rfl, nrb.symm, hb4, by decide, s4 _ _ hR nrb, by rw [RA.len]; exact h0, by rw [RA.len]; exact few, (RA.sameB s4).mem nz, fun a ys H' ha hy sb => hn' _ _ ⟨a, ys, rfl, ha, hy, s4.trans sb⟩⟩
end
end K36

set_option Elab.async false
set_option linter.all false
set_option maxRecDepth 100000
set_option pp.maxSteps 300
set_option maxHeartbeats 2000000
namespace K36
open PySem L2
section
variable {P : Program} {w : World} {K : PySem.W.Frag} {mg : Str → Option Value} {base : Heap}
theorem ok_law {f : Addr} {fd : FuncData} (F : Fun K "law" "law" s_law f fd) (T : Tj mg) (g_l_bag : Good P w K mg base "_law_bag" 1 p_l_bag (spBag K)) (g_l_take : Good P w K mg base "_law_take" 1 p_l_take spTake) (g_l_note : Good P w K mg base "_law_note" 2 p_l_note spLNote) (g_l_record : Good P w K mg base "_law_record" 1 p_l_record spRecord)
    (g_l_one : Good P w K mg base "_law_one" 8 p_l_one spOne) : FnOk P w K mg base CX0 9 f fd p_law (spLaw K) := by
  refine F.ok sc_law (fun vs H Q E h => ?_) (fun cdv A outer s H vs Q E hr h => ?_)
  · obtain ⟨a, ns, rfl, _⟩ := h
    rfl
  obtain ⟨sa, ns, rfl, hS, h63, q⟩ := h
  refine ⟨_, (pss_cons (ps_set (i := 1) sc_law.nd rfl (Or.inl rfl) (pcall g_l_bag hr (pa_cons (pv 0) (pa_cons pe_int pa_nil))))
  (pss_cons (ps_set (i := 2) sc_law.nd rfl (Or.inl rfl) (pe_op op_add pe_int (pcall g_l_take hr (pa_cons (pv 1) (pa_cons pe_int pa_nil)))))
  (pss_cons (ps_setC (i := 3) sc_law.nd rfl (Or.inl rfl) (N' := ["_law_place", "_law_script"]) rfl (CScope.of (src := [none, some 0]) (defScope s_law) ["_law_script", "_law_first", "_law_many", "_law_notes", "_law_records", "_law_k"] rfl rfl rfl (by decide +kernel) (by decide +kernel) (by decide +kernel) rfl (by decide +kernel)) (pi_range1 rfl T.range (pa_cons (pv 2) pa_nil)) (fun _ _ _ _ => (pg_name (i := 0) (show List.Nodup (["_law_place", "_law_script"] : List Str) by decide +kernel) rfl (Or.inl rfl))) (fun _ _ _ _ => pf_nil) (fun _ _ _ _ => (pcall g_l_note hr (pa_cons (pcall g_l_bag hr (pa_cons (pv 1) (pa_cons (pe_op op_add pe_int (pv 0)) pa_nil))) pa_nil))))
  (pss_cons (ps_asg (pcall g_l_note hr (pa_cons (pv 1) pa_nil)) (pg_sub (pv 3) (pcall g_l_take hr (pa_cons (pv 1) (pa_cons (pv 2) pa_nil))) set_list))
  (pss_cons (ps_setC (i := 4) sc_law.nd rfl (Or.inl rfl) (N' := ["_law_place", "_law_note_here"]) rfl (CScope.plain rfl (by decide +kernel) (by decide +kernel) (by decide +kernel)) (pi_enumL0 rfl T.enumerate (pv 3)) (fun _ _ _ _ => (pg_tupK (K := K) (n := 2) rfl rfl (pgs_cons (pg_name (i := 0) (show List.Nodup (["_law_place", "_law_note_here"] : List Str) by decide +kernel) rfl (Or.inl rfl)) (pgs_cons (pg_name (i := 1) (show List.Nodup (["_law_place", "_law_note_here"] : List Str) by decide +kernel) rfl (Or.inl rfl)) pgs_nil)))) (fun _ _ _ _ => pf_nil) (fun _ _ _ _ => (pcall g_l_record hr (pa_cons (pv 0) (pa_cons (pv 1) pa_nil)))))
  (pss_cons (ps_for PassesOwn.never rfl (pi_range2 rfl T.range (pa_cons pe_int (pa_cons (pe_callB (call_max2 rfl) rfl T.max bt_max (pa_cons pe_int (pa_cons (pe_callB (call_min2 rfl) rfl T.min bt_min (pa_cons (pe_callB call_len_seq rfl T.len bt_len (pa_cons (pv 0) pa_nil)) (pa_cons pe_int pa_nil))) pa_nil))) pa_nil))) (pg_name (i := 5) sc_law.nd rfl (Or.inl rfl))
  (pss_one (ps_if (pt_not (pt_val (pcall g_l_one hr (pa_cons (pcall g_l_bag hr (pa_cons (pv 0) (pa_cons (pv 5) pa_nil))) (pa_cons (pv 3) (pa_cons (pv 4) pa_nil)))))) (pss_one (ps_ret pe_bl)) pss_nil)))
  (pss_one (ps_ret pe_bl)))))))), ?_⟩
  have hl : (ns.map V.int).length = ns.length := List.length_map _
  refine ⟨_, rfl, sa, ns, 0, rfl, hS, h63, by decide, by decide, fun b o hb0 hb => ?_⟩
  have s0 := same_new hb0 o
  generalize upd H b o = H0 at *
  refine ⟨_, rfl, b, _, 14, rfl, hb, by decide, by decide, by decide, fun r1 H1 r10 r11 hb1 sb1 => ⟨_, _, rfl, rfl, ?_⟩⟩
  have s1 : Same H H1 := s0.stepB sb1 hb0
  refine ⟨_, rfl, _, rfl, by omega, by omega, fun l hl' => ?_⟩
  have fl : H l = none := s1.free hl'
  have nbl : b ≠ l := hb1.nb hl'
  refine comp_range (fun i σ HH => ∃ (u : Option V) (zs : List Str), σ = [u, some (.ref sa)] ∧ HH l = some (.lst (sv zs)) ∧ zs.length = i ∧ (∀ z ∈ zs, NoteOk z) ∧ BagAt HH b 1 ∧ Same H HH) ⟨none, [], rfl, upd_same, rfl, (fun z hz => by cases hz), hb1.same (same_new hl' _), s1.trans (same_new hl' _)⟩ (fun i σ HH hi h => ?_) (fun σ HH h => ?_)
  · obtain ⟨u, zs, rfl, e1, e2, e3, e5, e4⟩ := h
    unfold gName
    dsimp only
    refine iteT ⟨_, rfl, _, rfl, _, _, rfl, rfl, sa, ns, _, rfl, e4.seq hS, h63, by omega, by omega, fun p o hp hbp => ?_⟩
    have sp := same_new hp o
    have np : l ≠ p := ne_of_none e1 hp
    generalize upd HH p o = H3 at *
    refine ⟨p, _, rfl, hbp, by decide, fun z H4 nz hb4 sb4 => ?_⟩
    have e5' : H4 l = some (.lst (sv zs)) := sb4 _ _ (sp _ _ e1) np
    have s4 : Same HH H4 := fun c o e => sb4 _ _ (sp _ _ e) (ne_of_none e hp)
    refine ⟨_, e5', small1000 (by unfold sv; rw [List.length_map]; omega), _, zs ++ [z], rfl, ?_, ?_, fun y hy => ?_, (e5.same s4).sameB SameB.upd nbl, (e4.trans s4).stepB SameB.upd fl⟩
    · rw [upd_same]; unfold sv; rw [List.map_append]; rfl
    · rw [List.length_append, e2]; rfl
    · rcases List.mem_append.mp hy with h | h
      · exact e3 y h
      · have : y = z := by simpa using h
        rw [this]; exact nz
  obtain ⟨u, zs, rfl, e1, e2, e3, e5, e4⟩ := h
  refine ⟨_, rfl, b, _, rfl, e5, by decide, fun z H2 nz hb2 sb2 => ⟨_, rfl, _, rfl, _, rfl, b, _, _, rfl, hb2, by decide, by omega, by omega, fun r2 H3 r20 r21 hb3 sb3 => ?_⟩⟩
  obtain ⟨j, rfl⟩ : ∃ j : Nat, r2 = (j : Int) := ⟨r2.toNat, by omega⟩
  have e6 := sb3 _ _ (sb2 _ _ e1 nbl.symm) nbl.symm
  have svl : (sv zs).length = zs.length := List.length_map ..
  refine ⟨l, _, _, _, rfl, rfl, e6, ixn (by rw [svl]; omega), ?_⟩
  have e7 : (upd H3 l (.lst ((sv zs).set j (.str z)))) l = some (.lst (sv (zs.set j z))) := by rw [upd_same]; unfold sv; rw [List.map_set]
  have s3 : Same H (upd H3 l (.lst ((sv zs).set j (.str z)))) := ((e4.stepB sb2 hb0).stepB sb3 hb0).stepB SameB.upd fl
  generalize upd H3 l (.lst ((sv zs).set j (.str z))) = H4 at *
  have nzs : ∀ y ∈ zs.set j z, NoteOk y := fun y hy => by
    rcases List.mem_or_eq_of_mem_set hy with h | rfl
    · exact e3 y h
    · exact nz
  have zl : (zs.set j z).length = zs.length := List.length_set
  have z1 : 0 < (zs.set j z).length := by omega
  have z14 : (zs.set j z).length ≤ 14 := by omega
  generalize zs.set j z = ys at *
  clear e6 sb3 hb3 sb2 hb2 nz e5 e4 e3 e1 zl e2 svl
  have yvl : (sv ys).length = ys.length := List.length_map ..
  refine ⟨_, rfl, l, rfl, ⟨_, SqL.of e7⟩, fun m hm => ?_⟩
  have nlm : l ≠ m := ne_of_none e7 hm
  have s5 := same_new hm (.lst [])
  refine comp_enumL (xs := sv ys) (fun i σ HH => ∃ (u v : Option V) (rs : List Addr), σ = [u, v] ∧ HH m = some (.lst (rv rs)) ∧ rs.length = i ∧ (∀ (t : Nat) (a : Addr) (z : Str), rs[t]? = some a → ys[t]? = some z → a ≠ m ∧ HH a = some (.lst (iv (recd t z)))) ∧ Same H4 HH) ⟨_, _, [], rfl, upd_same, rfl, (fun t a z h => by cases h), s5⟩ (fun i σ HH _ h => ?_) (fun i x pp σ HH hx h hpp => ?_) (fun σ HH h => ?_)
  · obtain ⟨u, v, rs, rfl, g1, g2, g3, g4⟩ := h
    exact SqL.of (g4 _ _ e7)
  · obtain ⟨u, v, rs, rfl, g1, g2, g3, g4⟩ := h
    have hi : i < ys.length := by
      have := (List.getElem?_eq_some_iff.mp hx).1
      rw [yvl] at this
      exact this
    have hz : ys[i]? = some ys[i] := List.getElem?_eq_getElem hi
    have hx' : x = .str ys[i] := by
      unfold sv at hx
      rw [List.getElem?_map, hz] at hx
      exact (Option.some.inj hx).symm
    subst hx'
    generalize ys[i] = z at *
    have nzi := nzs z (List.mem_of_getElem? hz)
    have st := same_new hpp (.tup [.int ((0 + i : Nat) : Int), .str z])
    refine ⟨pp, _, rfl, SqT.of upd_same, rfl, _, _, rfl, _, _, rfl, rfl, ?_⟩
    generalize upd HH pp (.tup [.int ((0 + i : Nat) : Int), .str z]) = H5 at *
    refine iteT ⟨_, rfl, _, rfl, 0 + i, z, rfl, nzi, fun a H6 fa ea sa' => ?_⟩
    have g1' := sa' _ _ (st _ _ g1)
    have nam : a ≠ m := fun z => by rw [z, st _ _ g1] at fa; cases fa
    refine ⟨_, g1', small1000 (by rw [rv_len]; omega), _, _, rs ++ [a], rfl, by rw [upd_same, ← rv_app]; rfl, by rw [List.length_append, g2]; rfl, fun t a' z' h1 h2 => ?_, ((g4.trans st).trans sa').stepB SameB.upd hm⟩
    by_cases ht : t < rs.length
    · rw [List.getElem?_append_left ht] at h1
      obtain ⟨k1, k2⟩ := g3 t a' z' h1 h2
      exact ⟨k1, by rw [upd_ne k1]; exact sa' _ _ (st _ _ k2)⟩
    · rw [List.getElem?_append_right (by omega)] at h1
      have ht2 : t = rs.length := by
        have := (List.getElem?_eq_some_iff.mp h1).1
        have : t - rs.length < 1 := this
        omega
      subst ht2
      rw [Nat.sub_self] at h1
      have : a' = a := (Option.some.inj h1).symm
      subst this
      rw [g2, hz] at h2
      have : z' = z := (Option.some.inj h2).symm
      subst this
      rw [Nat.zero_add, ← g2] at ea
      exact ⟨nam, by rw [upd_ne nam]; exact ea⟩
  obtain ⟨u, v, rs, rfl, g1, g2, g3, g4⟩ := h
  rw [yvl] at g2
  have s6 : Same H HH := s3.trans g4
  have e8 := g4 _ _ e7
  clear g4
  refine ⟨_, rfl, sa, _, rfl, .inl (s6.seq hS), _, _, rfl, _, _, rfl, _, _, rfl, ⟨by decide, by decide, ?_, ?_⟩, ?_⟩
  · rw [hl]; split <;> split <;> omega
  · rw [hl]; split <;> split <;> omega
  refine for_range (fun i σ HF => ∃ u5, σ = [some (.ref sa), some (.ref b), some (.int (1 + r1)), some (.ref l), some (.ref m), u5] ∧ HF l = some (.lst (sv ys)) ∧ HF m = some (.lst (rv rs)) ∧ (∀ (t : Nat) (a : Addr) (z : Str), rs[t]? = some a → ys[t]? = some z → HF a = some (.lst (iv (recd t z)))) ∧ Same H HF) ⟨_, rfl, e8, g1, fun t a z h1 h2 => (g3 t a z h1 h2).2, s6⟩ (fun i σ HF hi h => ?_) (fun σ HF h => ?_)
  · obtain ⟨u5, rfl, k1, k2, k3, k4⟩ := h
    have hi24 : i < 24 := by
      rw [hl] at hi
      revert hi
      split <;> split <;> omega
    refine ⟨_, rfl, _, rfl, sa, ns, _, rfl, k4.seq hS, h63, by omega, by omega, fun b' o hb0' hb' => ?_⟩
    have sb := same_new hb0' o
    generalize upd HF b' o = HG at *
    refine ⟨_, rfl, _, rfl, b', l, m, ys, rs, rfl, hb', sb _ _ k1, sb _ _ k2, ne_of_none k1 hb0', ne_of_none k2 hb0', ⟨g2, fun t a z h1 h2 => ⟨ne_of_none (k3 t a z h1 h2) hb0', sb _ _ (k3 t a z h1 h2)⟩⟩, nzs, z1, z14, fun H' sb' => ⟨_, rfl, iteF ?_⟩⟩
    have sA : Same HF H' := fun c o e => sb' _ _ (sb _ _ e) (ne_of_none e hb0')
    exact ⟨_, rfl, sA _ _ k1, sA _ _ k2, fun t a z h1 h2 => sA _ _ (k3 t a z h1 h2), k4.trans sA⟩
  · exact q _
end
end K36

set_option Elab.async false
set_option linter.all false
set_option maxRecDepth 100000
set_option pp.maxSteps 300
set_option maxHeartbeats 4000000
namespace K36
open PySem L2
theorem all_mk {l : PySem.W.OpenLaw} {w : World} {K : PySem.W.Frag} {h : Heap} {mg : Str → Option Value} {fa C f1 f2 f3 f4 f5 f6 f7 f8 f9 f10 f11 f12 f13 f14 f15 f16 f17 f18 f19 f20 f21 fm1 fm2 fm3 fm4 : Addr} (X : K.In h) (G : h.Ns mainGlobals mg) (hfa : mg "law" = some (.ref fa))
    {od1 an1 od2 an2 od3 an3 od4 an4 od5 an5 od6 an6 od7 an7 od8 an8 od9 an9 od10 an10 od11 an11 od12 an12 od13 an13 od14 an14 od15 an15 od16 an16 od17 an17 od18 an18 od19 an19 od20 an20 od21 an21 odm1 anm1 odm2 anm2 odm3 anm3 odm4 anm4 : Option Addr} {sl1 sl2 sl3 sl4 sl5 sl6 sl7 sl8 sl9 sl10 sl11 sl12 sl13 sl14 sl15 sl16 sl17 sl18 sl19 sl20 sl21 slm1 slm2 slm3 slm4 : Array (Option Value)} {oc1 kV1 dc1 pm1 cd1 ct1 oc2 kV2 dc2 pm2 cd2 ct2 oc3 kV3 dc3 pm3 cd3 ct3 oc4 kV4 dc4 pm4 cd4 ct4 oc5 kV5 dc5 pm5 cd5 ct5 oc6 kV6 dc6 pm6 cd6 ct6 oc7 kV7 dc7 pm7 cd7 ct7 oc8 kV8 dc8 pm8 cd8 ct8 oc9 kV9 dc9 pm9 cd9 ct9 oc10 kV10 dc10 pm10 cd10 ct10 oc11 kV11 dc11 pm11 cd11 ct11 oc12 kV12 dc12 pm12 cd12 ct12 oc13 kV13 dc13 pm13 cd13 ct13 oc14 kV14 dc14 pm14 cd14 ct14 oc15 kV15 dc15 pm15 cd15 ct15 oc16 kV16 dc16 pm16 cd16 ct16 oc17 kV17 dc17 pm17 cd17 ct17 oc18 kV18 dc18 pm18 cd18 ct18 oc19 kV19 dc19 pm19 cd19 ct19 oc20 kV20 dc20 pm20 cd20 ct20 oc21 kV21 dc21 pm21 cd21 ct21 ocm1 kVm1 dcm1 pmm1 cdm1 ctm1 ocm2 kVm2 dcm2 pmm2 cdm2 ctm2 ocm3 kVm3 dcm3 pmm3 cdm3 ctm3 ocm4 kVm4 dcm4 pmm4 cdm4 ctm4 : Value} {tk0 tk1 tk2 tk3 tk4 tk5 : Tok}
    (aC : PySem.W.nsIn K mainGlobals "Journal" = some (some (.ref C)))
    (am1 : PySem.W.findIn K (.ref C) "__init__" = some (some (.ref fm1))) (im1 : PySem.W.isFn K (.ref fm1) = true) (lm1 : K.lookup fm1 = some ⟨ocm1, odm1, .func (PySem.W.fnOf "__init__" "Journal.__init__" (defArgs s_Journal___init__) (defBody s_Journal___init__) (defScope s_Journal___init__) .none kVm1 dcm1 pmm1 anm1 cdm1 ctm1), slm1⟩) (cm1 : PySem.W.codeIn K cdm1 "Journal.__init__" = true) (km1 : PySem.W.keepIn K (.ref fm1) = true)
    (am2 : PySem.W.findIn K (.ref C) "write" = some (some (.ref fm2))) (im2 : PySem.W.isFn K (.ref fm2) = true) (lm2 : K.lookup fm2 = some ⟨ocm2, odm2, .func (PySem.W.fnOf "write" "Journal.write" (defArgs s_Journal_write) (defBody s_Journal_write) (defScope s_Journal_write) .none kVm2 dcm2 pmm2 anm2 cdm2 ctm2), slm2⟩) (cm2 : PySem.W.codeIn K cdm2 "Journal.write" = true) (km2 : PySem.W.keepIn K (.ref fm2) = true)
    (am3 : PySem.W.findIn K (.ref C) "notes" = some (some (.ref fm3))) (im3 : PySem.W.isFn K (.ref fm3) = true) (lm3 : K.lookup fm3 = some ⟨ocm3, odm3, .func (PySem.W.fnOf "notes" "Journal.notes" (defArgs s_Journal_notes) (defBody s_Journal_notes) (defScope s_Journal_notes) .none kVm3 dcm3 pmm3 anm3 cdm3 ctm3), slm3⟩) (cm3 : PySem.W.codeIn K cdm3 "Journal.notes" = true) (km3 : PySem.W.keepIn K (.ref fm3) = true)
    (am4 : PySem.W.findIn K (.ref C) "cells" = some (some (.ref fm4))) (im4 : PySem.W.isFn K (.ref fm4) = true) (lm4 : K.lookup fm4 = some ⟨ocm4, odm4, .func (PySem.W.fnOf "cells" "Journal.cells" (defArgs s_Journal_cells) (defBody s_Journal_cells) (defScope s_Journal_cells) .none kVm4 dcm4 pmm4 anm4 cdm4 ctm4), slm4⟩) (cm4 : PySem.W.codeIn K cdm4 "Journal.cells" = true) (km4 : PySem.W.keepIn K (.ref fm4) = true)
    (a1 : PySem.W.nsIn K mainGlobals "is_line" = some (some (.ref f1))) (l1 : K.lookup f1 = some ⟨oc1, od1, .func (PySem.W.fnOf "is_line" "is_line" (defArgs s_is_line) (defBody s_is_line) (defScope s_is_line) .none kV1 dc1 pm1 an1 cd1 ct1), sl1⟩) (c1 : PySem.W.codeIn K cd1 "is_line" = true) (k1 : PySem.W.keepIn K (.ref f1) = true)
    (a2 : PySem.W.nsIn K mainGlobals "check_note" = some (some (.ref f2))) (l2 : K.lookup f2 = some ⟨oc2, od2, .func (PySem.W.fnOf "check_note" "check_note" (defArgs s_check_note) (defBody s_check_note) (defScope s_check_note) .none kV2 dc2 pm2 an2 cd2 ct2), sl2⟩) (c2 : PySem.W.codeIn K cd2 "check_note" = true) (k2 : PySem.W.keepIn K (.ref f2) = true)
    (a3 : PySem.W.nsIn K mainGlobals "record" = some (some (.ref f3))) (l3 : K.lookup f3 = some ⟨oc3, od3, .func (PySem.W.fnOf "record" "record" (defArgs s_record) (defBody s_record) (defScope s_record) .none kV3 dc3 pm3 an3 cd3 ct3), sl3⟩) (c3 : PySem.W.codeIn K cd3 "record" = true) (k3 : PySem.W.keepIn K (.ref f3) = true)
    (a4 : PySem.W.nsIn K mainGlobals "note_at" = some (some (.ref f4))) (l4 : K.lookup f4 = some ⟨oc4, od4, .func (PySem.W.fnOf "note_at" "note_at" (defArgs s_note_at) (defBody s_note_at) (defScope s_note_at) .none kV4 dc4 pm4 an4 cd4 ct4), sl4⟩) (c4 : PySem.W.codeIn K cd4 "note_at" = true) (k4 : PySem.W.keepIn K (.ref f4) = true)
    (a5 : PySem.W.nsIn K mainGlobals "read_journal" = some (some (.ref f5))) (l5 : K.lookup f5 = some ⟨oc5, od5, .func (PySem.W.fnOf "read_journal" "read_journal" (defArgs s_read_journal) (defBody s_read_journal) (defScope s_read_journal) .none kV5 dc5 pm5 an5 cd5 ct5), sl5⟩) (c5 : PySem.W.codeIn K cd5 "read_journal" = true) (k5 : PySem.W.keepIn K (.ref f5) = true)
    (a6 : PySem.W.nsIn K mainGlobals "_law_bag" = some (some (.ref f6))) (l6 : K.lookup f6 = some ⟨oc6, od6, .func (PySem.W.fnOf "_law_bag" "_law_bag" (defArgs s_l_bag) (defBody s_l_bag) (defScope s_l_bag) .none kV6 dc6 pm6 an6 cd6 ct6), sl6⟩) (c6 : PySem.W.codeIn K cd6 "_law_bag" = true) (k6 : PySem.W.keepIn K (.ref f6) = true)
    (a7 : PySem.W.nsIn K mainGlobals "_law_take" = some (some (.ref f7))) (l7 : K.lookup f7 = some ⟨oc7, od7, .func (PySem.W.fnOf "_law_take" "_law_take" (defArgs s_l_take) (defBody s_l_take) (defScope s_l_take) .none kV7 dc7 pm7 an7 cd7 ct7), sl7⟩) (c7 : PySem.W.codeIn K cd7 "_law_take" = true) (k7 : PySem.W.keepIn K (.ref f7) = true)
    (a8 : PySem.W.nsIn K mainGlobals "_law_whole" = some (some (.ref f8))) (l8 : K.lookup f8 = some ⟨oc8, od8, .func (PySem.W.fnOf "_law_whole" "_law_whole" (defArgs s_l_whole) (defBody s_l_whole) (defScope s_l_whole) .none kV8 dc8 pm8 an8 cd8 ct8), sl8⟩) (c8 : PySem.W.codeIn K cd8 "_law_whole" = true) (k8 : PySem.W.keepIn K (.ref f8) = true)
    (a9 : PySem.W.nsIn K mainGlobals "_law_signs" = some (some (.ref f9))) (l9 : K.lookup f9 = some ⟨oc9, od9, .func (PySem.W.fnOf "_law_signs" "_law_signs" (defArgs s_l_signs) (defBody s_l_signs) (defScope s_l_signs) .none kV9 dc9 pm9 an9 cd9 ct9), sl9⟩) (c9 : PySem.W.codeIn K cd9 "_law_signs" = true) (k9 : PySem.W.keepIn K (.ref f9) = true)
    (a10 : PySem.W.nsIn K mainGlobals "_law_note" = some (some (.ref f10))) (l10 : K.lookup f10 = some ⟨oc10, od10, .func (PySem.W.fnOf "_law_note" "_law_note" (defArgs s_l_note) (defBody s_l_note) (defScope s_l_note) .none kV10 dc10 pm10 an10 cd10 ct10), sl10⟩) (c10 : PySem.W.codeIn K cd10 "_law_note" = true) (k10 : PySem.W.keepIn K (.ref f10) = true)
    (a11 : PySem.W.nsIn K mainGlobals "_law_record" = some (some (.ref f11))) (l11 : K.lookup f11 = some ⟨oc11, od11, .func (PySem.W.fnOf "_law_record" "_law_record" (defArgs s_l_record) (defBody s_l_record) (defScope s_l_record) .none kV11 dc11 pm11 an11 cd11 ct11), sl11⟩) (c11 : PySem.W.codeIn K cd11 "_law_record" = true) (k11 : PySem.W.keepIn K (.ref f11) = true)
    (a12 : PySem.W.nsIn K mainGlobals "_law_are_cells" = some (some (.ref f12))) (l12 : K.lookup f12 = some ⟨oc12, od12, .func (PySem.W.fnOf "_law_are_cells" "_law_are_cells" (defArgs s_l_are_cells) (defBody s_l_are_cells) (defScope s_l_are_cells) .none kV12 dc12 pm12 an12 cd12 ct12), sl12⟩) (c12 : PySem.W.codeIn K cd12 "_law_are_cells" = true) (k12 : PySem.W.keepIn K (.ref f12) = true)
    (a13 : PySem.W.nsIn K mainGlobals "_law_are_notes" = some (some (.ref f13))) (l13 : K.lookup f13 = some ⟨oc13, od13, .func (PySem.W.fnOf "_law_are_notes" "_law_are_notes" (defArgs s_l_are_notes) (defBody s_l_are_notes) (defScope s_l_are_notes) .none kV13 dc13 pm13 an13 cd13 ct13), sl13⟩) (c13 : PySem.W.codeIn K cd13 "_law_are_notes" = true) (k13 : PySem.W.keepIn K (.ref f13) = true)
    (a14 : PySem.W.nsIn K mainGlobals "_law_reads" = some (some (.ref f14))) (l14 : K.lookup f14 = some ⟨oc14, od14, .func (PySem.W.fnOf "_law_reads" "_law_reads" (defArgs s_l_reads) (defBody s_l_reads) (defScope s_l_reads) .none kV14 dc14 pm14 an14 cd14 ct14), sl14⟩) (c14 : PySem.W.codeIn K cd14 "_law_reads" = true) (k14 : PySem.W.keepIn K (.ref f14) = true)
    (a15 : PySem.W.nsIn K mainGlobals "_law_by" = some (some (.ref f15))) (l15 : K.lookup f15 = some ⟨oc15, od15, .func (PySem.W.fnOf "_law_by" "_law_by" (defArgs s_l_by) (defBody s_l_by) (defScope s_l_by) .none kV15 dc15 pm15 an15 cd15 ct15), sl15⟩) (c15 : PySem.W.codeIn K cd15 "_law_by" = true) (k15 : PySem.W.keepIn K (.ref f15) = true)
    (a16 : PySem.W.nsIn K mainGlobals "_law_sign_put" = some (some (.ref f16))) (l16 : K.lookup f16 = some ⟨oc16, od16, .func (PySem.W.fnOf "_law_sign_put" "_law_sign_put" (defArgs s_l_sign_put) (defBody s_l_sign_put) (defScope s_l_sign_put) .none kV16 dc16 pm16 an16 cd16 ct16), sl16⟩) (c16 : PySem.W.codeIn K cd16 "_law_sign_put" = true) (k16 : PySem.W.keepIn K (.ref f16) = true)
    (a17 : PySem.W.nsIn K mainGlobals "_law_cells_done" = some (some (.ref f17))) (l17 : K.lookup f17 = some ⟨oc17, od17, .func (PySem.W.fnOf "_law_cells_done" "_law_cells_done" (defArgs s_l_cells_done) (defBody s_l_cells_done) (defScope s_l_cells_done) .none kV17 dc17 pm17 an17 cd17 ct17), sl17⟩) (c17 : PySem.W.codeIn K cd17 "_law_cells_done" = true) (k17 : PySem.W.keepIn K (.ref f17) = true)
    (a18 : PySem.W.nsIn K mainGlobals "_law_records_done" = some (some (.ref f18))) (l18 : K.lookup f18 = some ⟨oc18, od18, .func (PySem.W.fnOf "_law_records_done" "_law_records_done" (defArgs s_l_records_done) (defBody s_l_records_done) (defScope s_l_records_done) .none kV18 dc18 pm18 an18 cd18 ct18), sl18⟩) (c18 : PySem.W.codeIn K cd18 "_law_records_done" = true) (k18 : PySem.W.keepIn K (.ref f18) = true)
    (a19 : PySem.W.nsIn K mainGlobals "_law_told" = some (some (.ref f19))) (l19 : K.lookup f19 = some ⟨oc19, od19, .func (PySem.W.fnOf "_law_told" "_law_told" (defArgs s_l_told) (defBody s_l_told) (defScope s_l_told) .none kV19 dc19 pm19 an19 cd19 ct19), sl19⟩) (c19 : PySem.W.codeIn K cd19 "_law_told" = true) (k19 : PySem.W.keepIn K (.ref f19) = true)
    (a20 : PySem.W.nsIn K mainGlobals "_law_one" = some (some (.ref f20))) (l20 : K.lookup f20 = some ⟨oc20, od20, .func (PySem.W.fnOf "_law_one" "_law_one" (defArgs s_l_one) (defBody s_l_one) (defScope s_l_one) .none kV20 dc20 pm20 an20 cd20 ct20), sl20⟩) (c20 : PySem.W.codeIn K cd20 "_law_one" = true) (k20 : PySem.W.keepIn K (.ref f20) = true)
    (a21 : PySem.W.nsIn K mainGlobals "law" = some (some (.ref f21))) (l21 : K.lookup f21 = some ⟨oc21, od21, .func (PySem.W.fnOf "law" "law" (defArgs s_law) (defBody s_law) (defScope s_law) .none kV21 dc21 pm21 an21 cd21 ct21), sl21⟩) (c21 : PySem.W.codeIn K cd21 "law" = true) (k21 : PySem.W.keepIn K (.ref f21) = true)
    (pg : PySem.W.plainGet K C Str.empty = true) (hd : PySem.W.hasDictIn K C = true) (po : PySem.W.plainOver K C = true) (sa : PySem.W.findIn K (.ref C) "__setattr__" = some (some (.builtin "object.__setattr__"))) (mk : PySem.W.makesIn K C = true) (kc : PySem.W.keepIn K (.ref C) = true)
    (n0 : PySem.W.findIn K (.ref C) "kept" = some none)
    (cst0 : PySem.W.nsIn K mainGlobals "MOST_SIGNS" = some (some (.int 40 tk0)))
    (cst1 : PySem.W.nsIn K mainGlobals "NUMBERS" = some (some (.int 900 tk1)))
    (cst2 : PySem.W.nsIn K mainGlobals "LENGTHS" = some (some (.int 60 tk2)))
    (cst3 : PySem.W.nsIn K mainGlobals "CHECKS" = some (some (.int 997 tk3)))
    (cst4 : PySem.W.nsIn K mainGlobals "CELLS_AHEAD" = some (some (.int 3 tk4)))
    (cst5 : PySem.W.nsIn K mainGlobals "CELLS_AROUND" = some (some (.int 4 tk5)))
    (z0 : PySem.W.nsIn K mainGlobals "isinstance" = some none)
    (z1 : PySem.W.nsIn K mainGlobals "int" = some none)
    (z2 : PySem.W.nsIn K mainGlobals "bool" = some none)
    (z3 : PySem.W.nsIn K mainGlobals "tuple" = some none)
    (z4 : PySem.W.nsIn K mainGlobals "list" = some none)
    (z5 : PySem.W.nsIn K mainGlobals "str" = some none)
    (z6 : PySem.W.nsIn K mainGlobals "len" = some none)
    (z7 : PySem.W.nsIn K mainGlobals "all" = some none)
    (z8 : PySem.W.nsIn K mainGlobals "abs" = some none)
    (z9 : PySem.W.nsIn K mainGlobals "max" = some none)
    (z10 : PySem.W.nsIn K mainGlobals "min" = some none)
    (z11 : PySem.W.nsIn K mainGlobals "range" = some none)
    (z12 : PySem.W.nsIn K mainGlobals "sorted" = some none)
    (z13 : PySem.W.nsIn K mainGlobals "any" = some none)
    (z14 : PySem.W.nsIn K mainGlobals "sum" = some none)
    (z15 : PySem.W.nsIn K mainGlobals "enumerate" = some none)
    (z16 : PySem.W.nsIn K mainGlobals "zip" = some none)
    (z17 : PySem.W.nsIn K mainGlobals "reversed" = some none)
    (z18 : PySem.W.nsIn K mainGlobals "dict" = some none)
    (z19 : PySem.W.nsIn K mainGlobals "ord" = some none)
    {tkS : Tok}
    (aSG : PySem.W.nsIn K mainGlobals "SIGNS" = some (some (.str " !\"#$&'()*+,-./0123456789:;<=>?@ABCDEFGHIJKLMNOPQRSTUVWXYZ[\\]^_`abcdefghijklmnopqrstuvwxyz{|}~" tkS)))
    : ∃ fd : FuncData, (∀ (s : Shared) (v : Value), BindsTo s fd ⟨[v], []⟩ [("_law_script", v)]) ∧ ∀ base : Heap, K.In base → base.Ns mainGlobals mg → FnOk l.prog w K mg base CX0 9 fa fd ["_law_script"] (spLaw K) := by
  have e := hfa.symm.trans (PySem.W.mg_of X G a21)
  cases e
  have TN : Nm mg := ⟨PySem.W.mg_none_of X G z0, PySem.W.mg_none_of X G z1, PySem.W.mg_none_of X G z2, PySem.W.mg_none_of X G z3, PySem.W.mg_none_of X G z4, PySem.W.mg_none_of X G z5, PySem.W.mg_none_of X G z6, PySem.W.mg_none_of X G z7, PySem.W.mg_none_of X G z8, PySem.W.mg_none_of X G z9, PySem.W.mg_none_of X G z10, PySem.W.mg_none_of X G z11, PySem.W.mg_none_of X G z12, PySem.W.mg_none_of X G z13, PySem.W.mg_none_of X G z14, PySem.W.mg_none_of X G z15, PySem.W.mg_none_of X G z16, PySem.W.mg_none_of X G z17, PySem.W.mg_none_of X G z18, PySem.W.mg_none_of X G z19⟩
  have T : Tx K mg C := { toTj := { toNm := TN, SIGNS := ⟨_, PySem.W.mg_of X G aSG, ⟨_, rfl⟩⟩, MOST_SIGNS := ⟨_, PySem.W.mg_of X G cst0, ⟨_, rfl⟩⟩, NUMBERS := ⟨_, PySem.W.mg_of X G cst1, ⟨_, rfl⟩⟩, LENGTHS := ⟨_, PySem.W.mg_of X G cst2, ⟨_, rfl⟩⟩, CHECKS := ⟨_, PySem.W.mg_of X G cst3, ⟨_, rfl⟩⟩, CELLS_AHEAD := ⟨_, PySem.W.mg_of X G cst4, ⟨_, rfl⟩⟩, CELLS_AROUND := ⟨_, PySem.W.mg_of X G cst5, ⟨_, rfl⟩⟩ }, cl := ⟨pg, hd, po, sa⟩, mgC := PySem.W.mg_of X G aC, n_kept := n0 }
  have Fm1 := fun_mk (st := s_Journal___init__) lm1 cm1 km1
  have bm1 := Fm1.binds (ps := p_Journal___init__) fun _ _ _ _ _ _ us hl => match us, hl with | [_, _], _ => rfl
  have M___init__ : ∃ f fd, Fun K "__init__" "Journal.__init__" s_Journal___init__ f fd ∧ Mk K C f ∧ Binds K fd p_Journal___init__ [] := ⟨fm1, _, Fm1, ⟨mk, am1, im1, kc⟩, bm1⟩
  have Fm2 := fun_mk (st := s_Journal_write) lm2 cm2 km2
  have bm2 := Fm2.binds (ps := p_Journal_write) fun _ _ _ _ _ _ us hl => match us, hl with | [_, _], _ => rfl
  have M_write : CodeM K C "write" "Journal.write" s_Journal_write p_Journal_write := ⟨fm2, _, Fm2, ⟨am2, im2, km2⟩, bm2⟩
  have Fm3 := fun_mk (st := s_Journal_notes) lm3 cm3 km3
  have bm3 := Fm3.binds (ps := p_Journal_notes) fun _ _ _ _ _ _ us hl => match us, hl with | [_], _ => rfl
  have M_notes : CodeM K C "notes" "Journal.notes" s_Journal_notes p_Journal_notes := ⟨fm3, _, Fm3, ⟨am3, im3, km3⟩, bm3⟩
  have Fm4 := fun_mk (st := s_Journal_cells) lm4 cm4 km4
  have bm4 := Fm4.binds (ps := p_Journal_cells) fun _ _ _ _ _ _ us hl => match us, hl with | [_], _ => rfl
  have M_cells : CodeM K C "cells" "Journal.cells" s_Journal_cells p_Journal_cells := ⟨fm4, _, Fm4, ⟨am4, im4, km4⟩, bm4⟩
  have C_is_line : Code K mg "is_line" s_is_line p_is_line := Code.of X G a1 l1 c1 k1 fun _ _ _ _ _ _ us hl => match us, hl with | [_, _, _], _ => rfl
  have C_check_note : Code K mg "check_note" s_check_note p_check_note := Code.of X G a2 l2 c2 k2 fun _ _ _ _ _ _ us hl => match us, hl with | [_], _ => rfl
  have C_record : Code K mg "record" s_record p_record := Code.of X G a3 l3 c3 k3 fun _ _ _ _ _ _ us hl => match us, hl with | [_, _], _ => rfl
  have C_note_at : Code K mg "note_at" s_note_at p_note_at := Code.of X G a4 l4 c4 k4 fun _ _ _ _ _ _ us hl => match us, hl with | [_, _, _], _ => rfl
  have C_read_journal : Code K mg "read_journal" s_read_journal p_read_journal := Code.of X G a5 l5 c5 k5 fun _ _ _ _ _ _ us hl => match us, hl with | [_], _ => rfl
  have C_l_bag : Code K mg "_law_bag" s_l_bag p_l_bag := Code.of X G a6 l6 c6 k6 fun _ _ _ _ _ _ us hl => match us, hl with | [_, _], _ => rfl
  have C_l_take : Code K mg "_law_take" s_l_take p_l_take := Code.of X G a7 l7 c7 k7 fun _ _ _ _ _ _ us hl => match us, hl with | [_, _], _ => rfl
  have C_l_whole : Code K mg "_law_whole" s_l_whole p_l_whole := Code.of X G a8 l8 c8 k8 fun _ _ _ _ _ _ us hl => match us, hl with | [_], _ => rfl
  have C_l_signs : Code K mg "_law_signs" s_l_signs p_l_signs := Code.of X G a9 l9 c9 k9 fun _ _ _ _ _ _ us hl => match us, hl with | [], _ => rfl
  have C_l_note : Code K mg "_law_note" s_l_note p_l_note := Code.of X G a10 l10 c10 k10 fun _ _ _ _ _ _ us hl => match us, hl with | [_], _ => rfl
  have C_l_record : Code K mg "_law_record" s_l_record p_l_record := Code.of X G a11 l11 c11 k11 fun _ _ _ _ _ _ us hl => match us, hl with | [_, _], _ => rfl
  have C_l_are_cells : Code K mg "_law_are_cells" s_l_are_cells p_l_are_cells := Code.of X G a12 l12 c12 k12 fun _ _ _ _ _ _ us hl => match us, hl with | [_, _], _ => rfl
  have C_l_are_notes : Code K mg "_law_are_notes" s_l_are_notes p_l_are_notes := Code.of X G a13 l13 c13 k13 fun _ _ _ _ _ _ us hl => match us, hl with | [_, _], _ => rfl
  have C_l_reads : Code K mg "_law_reads" s_l_reads p_l_reads := Code.of X G a14 l14 c14 k14 fun _ _ _ _ _ _ us hl => match us, hl with | [_], _ => rfl
  have C_l_by : Code K mg "_law_by" s_l_by p_l_by := Code.of X G a15 l15 c15 k15 fun _ _ _ _ _ _ us hl => match us, hl with | [_], _ => rfl
  have C_l_sign_put : Code K mg "_law_sign_put" s_l_sign_put p_l_sign_put := Code.of X G a16 l16 c16 k16 fun _ _ _ _ _ _ us hl => match us, hl with | [_, _, _], _ => rfl
  have C_l_cells_done : Code K mg "_law_cells_done" s_l_cells_done p_l_cells_done := Code.of X G a17 l17 c17 k17 fun _ _ _ _ _ _ us hl => match us, hl with | [_, _, _, _], _ => rfl
  have C_l_records_done : Code K mg "_law_records_done" s_l_records_done p_l_records_done := Code.of X G a18 l18 c18 k18 fun _ _ _ _ _ _ us hl => match us, hl with | [_, _, _], _ => rfl
  have C_l_told : Code K mg "_law_told" s_l_told p_l_told := Code.of X G a19 l19 c19 k19 fun _ _ _ _ _ _ us hl => match us, hl with | [_, _], _ => rfl
  have C_l_one : Code K mg "_law_one" s_l_one p_l_one := Code.of X G a20 l20 c20 k20 fun _ _ _ _ _ _ us hl => match us, hl with | [_, _, _], _ => rfl
  have F_law := fun_mk (st := s_law) l21 c21 k21
  refine ⟨PySem.W.fnOf "law" "law" (defArgs s_law) (defBody s_law) (defScope s_law) .none kV21 dc21 pm21 an21 cd21 ct21, fun s v => .of_eq rfl, fun base _ _ => ?_⟩
  have g_l_bag := ok_l_bag (P := l.prog) (w := w) (base := base) C_l_bag TN
  have g_l_take := ok_l_take (P := l.prog) (w := w) (base := base) C_l_take TN
  have g_line := ok_is_line (P := l.prog) (w := w) (base := base) C_is_line T.toTj
  have g_check := ok_check (P := l.prog) (w := w) (base := base) C_check_note T.toTj g_line
  have g_record := ok_record (P := l.prog) (w := w) (base := base) C_record T.toTj g_check
  have g_note_at := ok_note_at (P := l.prog) (w := w) (base := base) C_note_at T.toTj
  have g_read := ok_read (P := l.prog) (w := w) (base := base) C_read_journal T.toTj g_record g_note_at
  have g_init := ok_init (P := l.prog) (w := w) (base := base) M___init__ T g_read
  have g_notes := ok_notes (P := l.prog) (w := w) (base := base) M_notes T
  have g_cells := ok_cells (P := l.prog) (w := w) (base := base) M_cells T g_record
  have g_whole := ok_whole (P := l.prog) (w := w) (base := base) C_l_whole T.toTj
  have g_signs := ok_signs (P := l.prog) (w := w) (base := base) C_l_signs T.toTj
  have g_lnote := ok_lnote (P := l.prog) (w := w) (base := base) C_l_note T.toTj g_l_take g_signs
  have g_lrec := ok_lrecord (P := l.prog) (w := w) (base := base) C_l_record T.toTj
  have g_ac := ok_are_cells (P := l.prog) (w := w) (base := base) C_l_are_cells T.toTj g_whole
  have g_an := ok_are_notes (P := l.prog) (w := w) (base := base) C_l_are_notes T.toTj
  have g_reads := ok_reads (P := l.prog) (w := w) (base := base) C_l_reads T.toTj g_signs g_lrec
  have g_by := ok_lby (P := l.prog) (w := w) (base := base) C_l_by T.toTj g_l_take
  have g_sp := ok_sign_put (P := l.prog) (w := w) (base := base) C_l_sign_put T.toTj g_l_take
  have g_told := ok_told (P := l.prog) (w := w) (base := base) C_l_told T g_read g_init g_notes g_cells g_lrec g_an g_ac
  have g_cd := ok_cells_done (P := l.prog) (w := w) (base := base) C_l_cells_done T.toTj g_l_take g_by
  have g_rd := ok_records_done (P := l.prog) (w := w) (base := base) C_l_records_done T.toTj g_l_take
  have g_one := ok_one (P := l.prog) (w := w) (base := base) C_l_one T.toTj g_l_take g_by g_sp g_told g_cd g_rd g_reads
  exact ok_law F_law T.toTj g_l_bag g_l_take g_lnote g_lrec g_one
theorem walk {l : PySem.W.OpenLaw} {q : Program} {loose : List Str} {XP : (Str → Option Value) → Heap → Prop} {YP : World → Heap → Prop} {d : DefRec} {K : Params → PySem.W.Frag} (hn : l.most = some 63) (hdf : d.params.defaults = [])
    (hY : ∀ (w : World) (h : Heap), YP w h → (K w.params).In h)
    (F : ∀ (w : World) (mg : Str → Option Value) (fa : Addr) (h : Heap), (K w.params).In h → h.Ns mainGlobals mg → mg d.name = some (.ref fa) →
      ∃ fd : FuncData, (∀ (s : Shared) (u : Value), BindsTo s fd ⟨[u], []⟩ [("_law_script", u)]) ∧ ∀ base : Heap, (K w.params).In base → base.Ns mainGlobals mg → FnOk l.prog w (K w.params) mg base CX0 9 fa fd ["_law_script"] (spLaw (K w.params))) :
    PySem.W.WalkO q loose XP YP l.row.toRowW d [] (fun f vs => PySem.call f vs) :=
  L2.walk_of (n := 63) (k := 9) (x := "_law_script") (CX := fun _ => CX0) (sp := fun w => spLaw (K w.params)) hn (by decide) hdf ⟨rfl, by decide, by decide⟩ hY F (fun _ _ a ns hl _ hS => ⟨a, ns, rfl, hS, hl, fun _ => rfl⟩) fun _ _ _ _ _ z => z
end K36
/-! names that stay free of quick twins: the head comes through without them, and the compiled text is much smaller -/
open PySem PySem.W PyProof.Rows
set_option maxRecDepth 100000 in
set_option maxHeartbeats 0 in
theorem PySem.Challenge.cw_warnloop_k36_one_cell_spoilt_holds : PySem.Challenge.rw_warnloop_k36_one_cell_spoilt.Holds := by
  w_on; o_law; k_head; (case hw => w_witness2)
  k_fill
  refine K36.walk (l := PySem.Challenge.rw_warnloop_k36_one_cell_spoilt) rfl rfl (fun w h Y => PySem.W.kIn_of Y) ?F
  case F =>
    intro w mg fa h KX G hmg
    refine' K36.all_mk KX G hmg ?aC ?am1 ?im1 ?lm1 ?cm1 ?km1 ?am2 ?im2 ?lm2 ?cm2 ?km2 ?am3 ?im3 ?lm3 ?cm3 ?km3 ?am4 ?im4 ?lm4 ?cm4 ?km4 ?a1 ?l1 ?c1 ?k1 ?a2 ?l2 ?c2 ?k2 ?a3 ?l3 ?c3 ?k3 ?a4 ?l4 ?c4 ?k4 ?a5 ?l5 ?c5 ?k5 ?a6 ?l6 ?c6 ?k6 ?a7 ?l7 ?c7 ?k7 ?a8 ?l8 ?c8 ?k8 ?a9 ?l9 ?c9 ?k9 ?a10 ?l10 ?c10 ?k10 ?a11 ?l11 ?c11 ?k11 ?a12 ?l12 ?c12 ?k12 ?a13 ?l13 ?c13 ?k13 ?a14 ?l14 ?c14 ?k14 ?a15 ?l15 ?c15 ?k15 ?a16 ?l16 ?c16 ?k16 ?a17 ?l17 ?c17 ?k17 ?a18 ?l18 ?c18 ?k18 ?a19 ?l19 ?c19 ?k19 ?a20 ?l20 ?c20 ?k20 ?a21 ?l21 ?c21 ?k21 ?pg ?hd ?po ?sa ?mk ?kc ?n0 ?cst0 ?cst1 ?cst2 ?cst3 ?cst4 ?cst5 ?z0 ?z1 ?z2 ?z3 ?z4 ?z5 ?z6 ?z7 ?z8 ?z9 ?z10 ?z11 ?z12 ?z13 ?z14 ?z15 ?z16 ?z17 ?z18 ?z19 ?aSG
    (case aC => k_is)
    (case am1 => k_is)
    (case im1 => k_is)
    (case lm1 => k_is)
    (case cm1 => k_is)
    (case km1 => k_is)
    (case am2 => k_is)
    (case im2 => k_is)
    (case lm2 => k_is)
    (case cm2 => k_is)
    (case km2 => k_is)
    (case am3 => k_is)
    (case im3 => k_is)
    (case lm3 => k_is)
    (case cm3 => k_is)
    (case km3 => k_is)
    (case am4 => k_is)
    (case im4 => k_is)
    (case lm4 => k_is)
    (case cm4 => k_is)
    (case km4 => k_is)
    (case a1 => k_is)
    (case l1 => k_is)
    (case c1 => k_is)
    (case k1 => k_is)
    (case a2 => k_is)
    (case l2 => k_is)
    (case c2 => k_is)
    (case k2 => k_is)
    (case a3 => k_is)
    (case l3 => k_is)
    (case c3 => k_is)
    (case k3 => k_is)
    (case a4 => k_is)
    (case l4 => k_is)
    (case c4 => k_is)
    (case k4 => k_is)
    (case a5 => k_is)
    (case l5 => k_is)
    (case c5 => k_is)
    (case k5 => k_is)
    (case a6 => k_is)
    (case l6 => k_is)
    (case c6 => k_is)
    (case k6 => k_is)
    (case a7 => k_is)
    (case l7 => k_is)
    (case c7 => k_is)
    (case k7 => k_is)
    (case a8 => k_is)
    (case l8 => k_is)
    (case c8 => k_is)
    (case k8 => k_is)
    (case a9 => k_is)
    (case l9 => k_is)
    (case c9 => k_is)
    (case k9 => k_is)
    (case a10 => k_is)
    (case l10 => k_is)
    (case c10 => k_is)
    (case k10 => k_is)
    (case a11 => k_is)
    (case l11 => k_is)
    (case c11 => k_is)
    (case k11 => k_is)
    (case a12 => k_is)
    (case l12 => k_is)
    (case c12 => k_is)
    (case k12 => k_is)
    (case a13 => k_is)
    (case l13 => k_is)
    (case c13 => k_is)
    (case k13 => k_is)
    (case a14 => k_is)
    (case l14 => k_is)
    (case c14 => k_is)
    (case k14 => k_is)
    (case a15 => k_is)
    (case l15 => k_is)
    (case c15 => k_is)
    (case k15 => k_is)
    (case a16 => k_is)
    (case l16 => k_is)
    (case c16 => k_is)
    (case k16 => k_is)
    (case a17 => k_is)
    (case l17 => k_is)
    (case c17 => k_is)
    (case k17 => k_is)
    (case a18 => k_is)
    (case l18 => k_is)
    (case c18 => k_is)
    (case k18 => k_is)
    (case a19 => k_is)
    (case l19 => k_is)
    (case c19 => k_is)
    (case k19 => k_is)
    (case a20 => k_is)
    (case l20 => k_is)
    (case c20 => k_is)
    (case k20 => k_is)
    (case a21 => k_is)
    (case l21 => k_is)
    (case c21 => k_is)
    (case k21 => k_is)
    (case pg => k_is)
    (case hd => k_is)
    (case po => k_is)
    (case sa => k_is)
    (case mk => k_is)
    (case kc => k_is)
    (case n0 => k_is)
    (case cst0 => k_is)
    (case cst1 => k_is)
    (case cst2 => k_is)
    (case cst3 => k_is)
    (case cst4 => k_is)
    (case cst5 => k_is)
    (case z0 => k_is)
    (case z1 => k_is)
    (case z2 => k_is)
    (case z3 => k_is)
    (case z4 => k_is)
    (case z5 => k_is)
    (case z6 => k_is)
    (case z7 => k_is)
    (case z8 => k_is)
    (case z9 => k_is)
    (case z10 => k_is)
    (case z11 => k_is)
    (case z12 => k_is)
    (case z13 => k_is)
    (case z14 => k_is)
    (case z15 => k_is)
    (case z16 => k_is)
    (case z17 => k_is)
    (case z18 => k_is)
    (case z19 => k_is)
    (case aSG => k_is)

