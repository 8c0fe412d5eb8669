import PyProof.Rows.All
import Wide.All
import OpenK.AllK
import Wide.FinOn
import Lean
import PyProof.EqAt
import PyProof.EqKinds
import PyProof.TupleCall
import KE.KMinKey
import PyProof.Rows.CallKwBuiltin
import PySem.Challenge.RW_court_k61_weights_and_prices
set_option Elab.async false
set_option linter.all false
set_option maxRecDepth 100000
/-! THE HAND LAYER, for ints, bools, texts, own classes, LISTS and tuples (index, slices, in, append, pop ..), calls, loops. Paste it whole ahead of your own text; what your proof does not reach may be deleted. -/
namespace L2
open PySem PySem.Spec PyProof.Rows

/-- a key: an int or a str -/
abbrev Key := Sum Int Str
def keyIs : Key → Value → Bool
  | .inl k, v => Value.isInt k v
  | .inr x, v => Value.isStrOf x v
def keyH (w : World) : Key → Int
  | .inl k => hashInt k
  | .inr x => hashStr w x
theorem keyIs_shape : ∀ {k : Key} {v : Value}, keyIs k v = true → (∃ i t, k = Sum.inl i ∧ v = Value.int i t) ∨ (∃ x t, k = Sum.inr x ∧ v = Value.str x t)
  | .inl i, v, h => by
    obtain ⟨t, e⟩ := Value.isInt_shape (k := i) (v := v) h
    exact .inl ⟨i, t, rfl, e⟩
  | .inr x, v, h => by
    obtain ⟨t, e⟩ := Value.isStrOf_shape (x := x) (v := v) h
    exact .inr ⟨x, t, rfl, e⟩
theorem keyIs_int (i : Int) (t : Tok) : keyIs (.inl i) (.int i t) = true := by simp [keyIs, Value.isInt]
theorem keyIs_str (x : Str) (t : Tok) : keyIs (.inr x) (.str x t) = true := by simp [keyIs, Value.isStrOf]
theorem key_ll (a b : Int) : decide ((Sum.inl a : Key) = Sum.inl b) = (a == b) := by
  by_cases e : a = b
  · subst e; simp
  · have h : ¬ (Sum.inl a : Key) = Sum.inl b := fun q => e (Sum.inl.inj q)
    rw [decide_eq_false h]
    exact (beq_eq_false_iff_ne.mpr e).symm
theorem key_rr (a b : Str) : decide ((Sum.inr a : Key) = Sum.inr b) = decide (a = b) := by
  by_cases e : a = b
  · subst e; simp
  · have h : ¬ (Sum.inr a : Key) = Sum.inr b := fun q => e (Sum.inr.inj q)
    rw [decide_eq_false h, decide_eq_false e]
theorem key_lr (a : Int) (b : Str) : decide ((Sum.inl a : Key) = Sum.inr b) = false := decide_eq_false (fun q => nomatch q)
theorem key_rl (a : Str) (b : Int) : decide ((Sum.inr a : Key) = Sum.inl b) = false := decide_eq_false (fun q => nomatch q)

def mixKind (prog : Program) (w : World) : PySem.KeyKind prog w Key where
  is := keyIs
  hash := keyH w
  inj := fun v a b ha hb => by
    rcases keyIs_shape ha with ⟨i, t, rfl, rfl⟩ | ⟨x, t, rfl, rfl⟩
    · rcases keyIs_shape hb with ⟨j, u, rfl, e⟩ | ⟨y, u, rfl, e⟩
      · injection e with e1 _; rw [e1]
      · exact nomatch e
    · rcases keyIs_shape hb with ⟨j, u, rfl, e⟩ | ⟨y, u, rfl, e⟩
      · exact nomatch e
      · injection e with e1 _; rw [e1]
  byValue := fun k v h => by
    rcases keyIs_shape h with ⟨i, t, rfl, rfl⟩ | ⟨x, t, rfl, rfl⟩ <;> rfl
  pyHash := fun hv h => by
    rcases keyIs_shape hv with ⟨i, t, rfl, rfl⟩ | ⟨x, t, rfl, rfl⟩
    · exact wpAny_pyHash_int h
    · exact wpAny_pyHash_str h
  eqBool := fun hu hv h => by
    rcases keyIs_shape hu with ⟨i, t, rfl, rfl⟩ | ⟨x, t, rfl, rfl⟩
    · rcases keyIs_shape hv with ⟨j, u, rfl, rfl⟩ | ⟨y, u, rfl, rfl⟩
      · rw [key_ll] at h; exact wpAny_eqBool_int h
      · rw [key_lr] at h; exact SeqAt.EqAt.int_str i t y u _ _ _ _ h
    · rcases keyIs_shape hv with ⟨j, u, rfl, rfl⟩ | ⟨y, u, rfl, rfl⟩
      · rw [key_rl] at h; exact SeqAt.EqAt.str_int x t j u _ _ _ _ h
      · rw [key_rr] at h; exact wpAny_eqBool_str h
  «strs» := fun k x t v h => by
    rcases keyIs_shape h with ⟨i, u, rfl, e⟩ | ⟨y, u, rfl, e⟩
    · exact nomatch e
    · injection e with e1 _
      subst e1
      cases v <;> rfl

theorem mixKind_is (prog : Program) (w : World) (k : Key) (v : Value) : (mixKind prog w).is k v = keyIs k v := rfl
theorem mixKind_int (prog : Program) (w : World) (i : Int) (t : Tok) : (mixKind prog w).is (.inl i) (.int i t) = true := keyIs_int i t
theorem mixKind_str (prog : Program) (w : World) (x : Str) (t : Tok) : (mixKind prog w).is (.inr x) (.str x t) = true := keyIs_str x t
end L2

namespace L2
open PySem PySem.Spec PyProof.Rows

/-- a value, without the heap -/
inductive V where
  | non | bl (b : Bool) | int (i : Int) | str (x : Str) | byt (b : Array UInt8) | flt (b : UInt64) | ref (a : Addr) | ty (n : String)
  deriving DecidableEq

def RelV : V → Value → Prop
  | .non, u => u = Value.none
  | .bl b, u => u = Value.bool b
  | .int i, u => ∃ t, u = Value.int i t
  | .str x, u => ∃ t, u = Value.str x t
  | .byt b, u => ∃ t, u = Value.bytes b t
  | .flt b, u => ∃ t, u = Value.float b t
  | .ref a, u => u = Value.ref a
  | .ty n, u => u = Value.type n

abbrev Vals : List V → List Value → Prop := Paired RelV
theorem Vals.length {xs : List V} {us : List Value} (r : Vals xs us) : xs.length = us.length := Paired.length r
theorem Vals.get : ∀ {xs : List V} {us : List Value} {i : Nat} {x : V}, Vals xs us → xs[i]? = some x → ∃ u, us[i]? = some u ∧ RelV x u
  | _, _, _, _, .nil, e => by simp at e
  | _, _, 0, _, .cons r _, e => by simp at e; subst e; exact ⟨_, rfl, r⟩
  | _, _, i + 1, x, .cons _ t, e => by
    obtain ⟨u, h1, h2⟩ := Vals.get (i := i) (x := x) t (by simpa using e)
    exact ⟨u, by simpa using h1, h2⟩
theorem Vals.set {x : V} {u : Value} (r : RelV x u) : ∀ {xs : List V} {us : List Value} (i : Nat), Vals xs us → Vals (xs.set i x) (us.set i u)
  | _, _, _, .nil => .nil
  | _, _, 0, .cons _ t => .cons r t
  | _, _, i + 1, .cons q t => .cons q (Vals.set r i t)
theorem Vals.append : ∀ {xs ys : List V} {us ws : List Value}, Vals xs us → Vals ys ws → Vals (xs ++ ys) (us ++ ws)
  | _, _, _, _, .nil, s => s
  | _, _, _, _, .cons r t, s => .cons r (Vals.append t s)
theorem Vals.take : ∀ {xs : List V} {us : List Value} (n : Nat), Vals xs us → Vals (xs.take n) (us.take n)
  | _, _, 0, _ => .nil
  | _, _, _ + 1, .nil => .nil
  | _, _, n + 1, .cons r t => .cons r (Vals.take n t)
theorem Vals.drop : ∀ {xs : List V} {us : List Value} (n : Nat), Vals xs us → Vals (xs.drop n) (us.drop n)
  | _, _, 0, r => r
  | _, _, _ + 1, .nil => .nil
  | _, _, n + 1, .cons _ t => Vals.drop n t
theorem Vals.none_of : ∀ {xs : List V} {us : List Value} {i : Nat}, Vals xs us → xs[i]? = none → us[i]? = none := fun {xs us i} r e => by
  have h1 := r.length
  have h2 : xs.length ≤ i := List.getElem?_eq_none_iff.mp e
  exact List.getElem?_eq_none_iff.mpr (by omega)

def RelO : Option V → Option Value → Prop
  | some v, some u => RelV v u
  | none, none => True
  | _, _ => False
def KV {κ : Type} : List (κ × V) → List (κ × Value) → Prop := Paired fun (p : κ × V) (q : κ × Value) => p.1 = q.1 ∧ RelV p.2 q.2

/-- a key of a dict (00_mix): an int or a text -/
def kV : Key → V
  | .inl i => .int i
  | .inr x => .str x

/-- what stands at a tracked address -/
inductive HO where
  /-- a list -/
  | lst (xs : List V)
  /-- a tuple (never changes) -/
  | tup (xs : List V)
  /-- a dict whose keys are ints and texts; one whose keys are tuples of ints and texts (the empty one is both) -/
  | dK (kvs : List (Key × V)) | dT (kvs : List (List Key × V))
  /-- a set of ints: its members, its size -/
  | set (S : Int → Bool) (n : Nat)
  /-- an instance of the class at C, its dict at dx, its attributes -/
  | ins (C dx : Addr) (fs : List (Str × V))
  /-- the dict of the instance at x -/
  | own (x : Addr)
  /-- the dict of an exception -/
  | xd (fs : List (Str × V))
  /-- a bound method, f of x -/
  | met (f x : Addr)
  /-- a range object lo, lo + 1, .. below hi -/
  | rng (lo hi : Int)
  /-- a thing that is known to the object (the script; a dict while a loop walks it): read, never written while it is so -/
  | frz (o : Obj) (u : HO)
  /-- a code object's table -/
  | tbl (ps : Array Value)
  /-- any other thing, by what is true of its one object (a def of one's own: SetO a S n := HO.ext fun h => ..) -/
  | ext (φ : Heap → Prop)

abbrev Hp := Addr → Option HO
def upd (H : Hp) (a : Addr) (o : HO) : Hp := fun b => if b = a then some o else H b
theorem upd_same {H : Hp} {a : Addr} {o : HO} : upd H a o a = some o := by unfold upd; rw [if_pos rfl]
theorem upd_ne {H : Hp} {a b : Addr} {o : HO} (h : b ≠ a) : upd H a o b = H b := by unfold upd; rw [if_neg h]
theorem upd_upd {H : Hp} {a : Addr} {o u : HO} : upd (upd H a o) a u = upd H a u := by
  funext b; unfold upd; split <;> rfl
/-- two objects of different content stand apart -/
theorem ne_of {H : Hp} {a b : Addr} {o u : HO} (h : H a = some o) (h' : H b = some u) (d : o ≠ u) : a ≠ b := by
  intro e; subst e; rw [h] at h'; exact d (Option.some.inj h')
theorem ne_of_none {H : Hp} {a b : Addr} {o : HO} (h : H a = some o) (h' : H b = none) : a ≠ b := by
  intro e; subst e; rw [h] at h'; cases h'

section
variable (P : Program) (w : World)
def ObjOk (H : Hp) (h : Heap) (a : Addr) : HO → Prop
  | .lst xs => xs.length ≤ sizeLine ∧ ∃ (its : List Value) (n : Nat), Vals xs its ∧ h.get? a = some { cls := .type "list", data := .seq its.toArray n }
  | .tup xs => xs.length ≤ sizeLine ∧ ∃ its : List Value, Vals xs its ∧ IsTup h a its.toArray
  | .dK kvs => kvs.length ≤ sizeLine ∧ (a == sysModules) = false ∧ ∃ vs, KV kvs vs ∧ h.DictOf (mixKind P w) a vs
  | .dT kvs => kvs.length ≤ sizeLine ∧ (a == sysModules) = false ∧ ∃ xs : List (List Key × Addr × Value),
      Paired (fun (p : List Key × V) (q : List Key × Addr × Value) => p.1 = q.1 ∧ H q.2.1 = some (.tup (p.1.map kV)) ∧ RelV p.2 q.2.2) kvs xs ∧
      ∃ o es ep, h.get? a = some o ∧ o.ExactDict ∧ o.data = .dict es ep ∧ es.toList = xs.map (entryOfKey (tupleKind (mixKind P w))) ∧ (xs.map (·.1)).Nodup
  | .set S n => h.SetOf (intKind P w) a S n
  | .ins C dx fs => H dx = some (.own a) ∧ fs.length ≤ 1000 ∧ dx ≠ a ∧ h.get? a = some (PySem.W.instObj C dx) ∧
      ∃ mA, h.Ns1 dx mA ∧ (∀ f, RelO (fs.lookup f) (mA f)) ∧ PySem.Within mA (fs.map (·.1))
  | .own _ => ∃ o, h.get? a = some o
  | .xd fs => ∃ mA, h.Ns1 a mA ∧ ∀ f, RelO (fs.lookup f) (mA f)
  | .rng lo hi => ∃ t u v, h.get? a = some { cls := .type "range", data := .fields #[.int lo t, .int hi u, .int 1 v] }
  | .frz o u => h.get? a = some o ∧ ObjOk H h a u
  | .tbl ps => h.get? a = some { cls := .none, data := .fields ps }
  | .met f x => h.get? a = some (PySem.W.methodObj (.ref f) (.ref x))
  | .ext φ => φ h ∧ (∃ o, h.get? a = some o) ∧ ∀ h1 h2 : Heap, φ h1 → (∀ o, h1.get? a = some o → h2.get? a = some o) → φ h2
/-- the abstract heap is held -/
def HOk (H : Hp) (h : Heap) : Prop := ∀ a o, H a = some o → ObjOk P w H h a o
end

section
variable {P : Program} {w : World} {H H' : Hp} {h h' : Heap} {a : Addr} {o : HO}
theorem ObjOk.lt (x : ObjOk P w H h a o) : a < h.objs.size := by
  cases o with
  | lst xs => obtain ⟨_, _, _, _, e⟩ := x; exact Heap.lt_size e
  | tup xs => obtain ⟨_, _, _, p⟩ := x; exact p.lt
  | dK kvs => obtain ⟨_, _, _, _, o, _, _, e, _⟩ := x; exact Heap.lt_size e
  | dT kvs => obtain ⟨_, _, _, _, o, _, _, e, _⟩ := x; exact Heap.lt_size e
  | set S n => obtain ⟨o, _, _, _, e, _⟩ := x; exact Heap.lt_size e
  | ins C dx fs => obtain ⟨_, _, _, e, _⟩ := x; exact Heap.lt_size e
  | own y => obtain ⟨_, e⟩ := x; exact Heap.lt_size e
  | xd fs => obtain ⟨_, ⟨_, _, _, e, _⟩, _⟩ := x; exact Heap.lt_size e
  | rng lo hi => obtain ⟨_, _, _, e⟩ := x; exact Heap.lt_size e
  | frz ob u => obtain ⟨e, _⟩ := x; exact Heap.lt_size e
  | tbl ps => exact Heap.lt_size (show h.get? a = some _ from x)
  | met f y => exact Heap.lt_size (show h.get? a = some _ from x)
  | ext φ => obtain ⟨_, ⟨_, e⟩, _⟩ := x; exact Heap.lt_size e
theorem Paired.mapP {α β : Type} {F G : α → β → Prop} : ∀ {l₁ : List α} {l₂ : List β}, Paired F l₁ l₂ → (∀ a b, F a b → G a b) → Paired G l₁ l₂
  | _, _, .nil, _ => .nil
  | _, _, .cons r t, f => .cons (f _ _ r) (Paired.mapP t f)
theorem Paired.imp' {α β : Type} {F G : α → β → Prop} (f : ∀ a b, F a b → G a b) {l₁ : List α} {l₂ : List β} (r : Paired F l₁ l₂) : Paired G l₁ l₂ := Paired.mapP r f
/-- what an object's description leans on: its own object, its own dict, the tuples -/
theorem ObjOk.stay (x : ObjOk P w H h a o) (k : ∀ b u, (b = a ∨ H b = some (.own a)) → h.get? b = some u → h'.get? b = some u)
    (ho : ∀ b, H b = some (.own a) → H' b = some (.own a)) (ht : ∀ b xs, H b = some (.tup xs) → H' b = some (.tup xs)) : ObjOk P w H' h' a o := by
  induction o with
  | lst xs => obtain ⟨z, its, n, r, e⟩ := x; exact ⟨z, its, n, r, k _ _ (.inl rfl) e⟩
  | tup xs => obtain ⟨z, its, r, ob, e, c⟩ := x; exact ⟨z, its, r, ob, k _ _ (.inl rfl) e, c⟩
  | dK kvs => obtain ⟨z, y, vs, r, ob, es, ep, e, c⟩ := x; exact ⟨z, y, vs, r, ob, es, ep, k _ _ (.inl rfl) e, c⟩
  | dT kvs =>
    obtain ⟨z, y, xs, r, ob, es, ep, e, c⟩ := x
    exact ⟨z, y, xs, Paired.mapP r fun p q z => ⟨z.1, ht _ _ z.2.1, z.2.2⟩, ob, es, ep, k _ _ (.inl rfl) e, c⟩
  | set S n => obtain ⟨ob, es, ep, t, e, c⟩ := x; exact ⟨ob, es, ep, t, k _ _ (.inl rfl) e, c⟩
  | ins C dx fs =>
    obtain ⟨d, z, ne, e, mA, ⟨od, es, ep, e2, c⟩, r⟩ := x
    exact ⟨ho _ d, z, ne, k _ _ (.inl rfl) e, mA, ⟨od, es, ep, k _ _ (.inr d) e2, c⟩, r⟩
  | own y => obtain ⟨ob, e⟩ := x; exact ⟨ob, k _ _ (.inl rfl) e⟩
  | xd fs => obtain ⟨mA, ⟨od, es, ep, e, c⟩, r⟩ := x; exact ⟨mA, ⟨od, es, ep, k _ _ (.inl rfl) e, c⟩, r⟩
  | rng lo hi => obtain ⟨t, u, v, e⟩ := x; exact ⟨t, u, v, k _ _ (.inl rfl) e⟩
  | frz ob u ih => obtain ⟨e, q⟩ := x; exact ⟨k _ _ (.inl rfl) e, ih q⟩
  | tbl ps =>
    have e : h.get? a = some { cls := .none, data := .fields ps } := x
    show h'.get? a = some { cls := .none, data := .fields ps }
    exact k a _ (.inl rfl) e
  | met f y =>
    have e : h.get? a = some (PySem.W.methodObj (.ref f) (.ref y)) := x
    show h'.get? a = some (PySem.W.methodObj (.ref f) (.ref y))
    exact k a _ (.inl rfl) e
  | ext φ => obtain ⟨p, ⟨o, e⟩, st⟩ := x; exact ⟨st _ _ p fun o q => k _ _ (.inl rfl) q, ⟨o, k _ _ (.inl rfl) e⟩, st⟩
theorem HOk.lt (x : HOk P w H h) (e : H a = some o) : a < h.objs.size := (x a o e).lt
theorem HOk.fresh (x : HOk P w H h) (e : h.objs.size ≤ a) : H a = none := by
  cases q : H a with
  | none => rfl
  | some u => exact absurd (Nat.lt_of_lt_of_le (x.lt q) e) (Nat.lt_irrefl _)
/-- every object of the heap is kept -/
theorem HOk.kept (x : HOk P w H h) (k : ∀ b u, h.get? b = some u → h'.get? b = some u) : HOk P w H h' := fun a o e =>
  (x a o e).stay (fun b u _ q => k b u q) (fun _ q => q) fun _ _ q => q
/-- a new object is laid and tracked -/
theorem HOk.laid (x : HOk P w H h) (k : ∀ b u, h.get? b = some u → h'.get? b = some u) (hp : h.objs.size ≤ a) (new : ObjOk P w (upd H a o) h' a o) : HOk P w (upd H a o) h' := fun b u e => by
  have hn := x.fresh hp
  by_cases hb : b = a
  · subst hb; rw [upd_same] at e; cases e; exact new
  · rw [upd_ne hb] at e
    exact (x b u e).stay (fun c v _ q => k c v q) (fun c q => by rw [upd_ne (ne_of_none q hn)]; exact q) fun c xs q => by rw [upd_ne (ne_of_none q hn)]; exact q
end

/-- what may be read as u: it is u, or a known u -/
def Rd (H : Hp) (a : Addr) (u : HO) : Prop := H a = some u ∨ ∃ o, H a = some (.frz o u)
theorem Rd.of {H : Hp} {a : Addr} {u : HO} (h : H a = some u) : Rd H a u := .inl h
theorem Rd.ok {P : Program} {w : World} {H : Hp} {h : Heap} {a : Addr} {u : HO} (r : Rd H a u) (x : HOk P w H h) : ObjOk P w H h a u := by
  rcases r with r | ⟨o, r⟩
  · exact x a u r
  · obtain ⟨_, q⟩ := x a _ r
    exact q
/-- what may be written -/
def Mut : Option HO → Prop
  | some (.lst _) => True
  | some (.dK _) => True
  | some (.dT _) => True
  | some (.set _ _) => True
  | some (.ins _ _ _) => True
  | some (.ext _) => True
  | _ => False
section
variable {P : Program} {w : World} {H : Hp} {h h' : Heap} {x e : Addr} {o' : HO}
/-- the object at e is changed: x itself, or the dict of the instance x -/
theorem HOk.write (ok : HOk P w H h) (mu : Mut (H x)) (he : e = x ∨ H e = some (.own x)) (k : ∀ b u, b ≠ e → h.get? b = some u → h'.get? b = some u) (heo : ∃ u, h'.get? e = some u)
    (new : ObjOk P w (upd H x o') h' x o') : HOk P w (upd H x o') h' := fun b u q => by
  have nown : ∀ c y, H c = some (.own y) → c ≠ x := fun c y r z => by subst z; rw [r] at mu; exact mu
  have ntup : ∀ c xs, H c = some (.tup xs) → c ≠ x := fun c xs r z => by subst z; rw [r] at mu; exact mu
  by_cases hb : b = x
  · subst hb; rw [upd_same] at q; cases q; exact new
  · rw [upd_ne hb] at q
    by_cases hbe : b = e
    · have q' : H b = some (.own x) := by
        rcases he with z | z
        · exact absurd (hbe.trans z) hb
        · rw [hbe]; exact z
      rw [q] at q'; cases q'
      obtain ⟨v, hv⟩ := heo
      exact ⟨v, by rw [hbe]; exact hv⟩
    · refine (ok b u q).stay (fun c v hc r => k c v ?_ r) (fun c r => by rw [upd_ne (nown c b r)]; exact r) fun c xs r => by rw [upd_ne (ntup c xs r)]; exact r
      rcases hc with rfl | hc
      · exact hbe
      · rintro rfl
        rcases he with z | z
        · exact nown c b hc z
        · rw [hc] at z; cases z; exact hb rfl
end

/-! ### kept unless tracked; of the frames at fs (the callers') the slots may change (an exception that passes writes there); of the records at ex (iterators) nothing is said -/
structure Un (fs ex : List Addr) (H H' : Hp) (h h' : Heap) : Prop where
  keep : ∀ b o, h.get? b = some o → H b = none → b ∉ fs → b ∉ ex → h'.get? b = some o
  slot : ∀ b o, h.get? b = some o → H b = none → b ∈ fs → b ∉ ex → ∃ sl, h'.get? b = some { o with slots := sl }
  free : ∀ b o, h.get? b = some o → H b = none → b ∉ ex → H' b = none
  there : ∀ b o, h.get? b = some o → b ∉ ex → ∃ o', h'.get? b = some o'
  tups : ∀ b xs, H b = some (.tup xs) → H' b = some (.tup xs)
  frzs : ∀ b o u, H b = some (.frz o u) → H' b = some (.frz o u)
  tbls : ∀ b ps, H b = some (.tbl ps) → ∃ more, H' b = some (.tbl (ps ++ more))
section
variable {fs fs' ex ex' : List Addr} {H H1 H2 : Hp} {h h1 h2 h' : Heap} {a x e : Addr} {o : HO}
theorem Un.any (u : Un fs ex H H1 h h1) {b : Addr} {ob : Obj} (q : h.get? b = some ob) (n : H b = none) (hx : b ∉ ex) : ∃ sl, h1.get? b = some { ob with slots := sl } := by
  by_cases hb : b ∈ fs
  · exact u.slot b ob q n hb hx
  · exact ⟨ob.slots, u.keep b ob q n hb hx⟩
theorem Un.trans (a : Un fs ex H H1 h h1) (b : Un fs ex H1 H2 h1 h2) : Un fs ex H H2 h h2 where
  keep := fun c ob q n hc hx => b.keep c ob (a.keep c ob q n hc hx) (a.free c ob q n hx) hc hx
  slot := fun c ob q n hc hx => by
    obtain ⟨sl, e1⟩ := a.slot c ob q n hc hx
    obtain ⟨sl', e2⟩ := b.slot c _ e1 (a.free c ob q n hx) hc hx
    exact ⟨sl', e2⟩
  free := fun c ob q n hx => by
    obtain ⟨o', e1⟩ := a.there c ob q hx
    exact b.free c o' e1 (a.free c ob q n hx) hx
  there := fun c ob q hx => by
    obtain ⟨o', e1⟩ := a.there c ob q hx
    exact b.there c o' e1 hx
  tups := fun c xs q => b.tups c xs (a.tups c xs q)
  frzs := fun c ob xs q => b.frzs c ob xs (a.frzs c ob xs q)
  tbls := fun c ps q => by
    obtain ⟨m1, e1⟩ := a.tbls c ps q
    obtain ⟨m2, e2⟩ := b.tbls c _ e1
    exact ⟨m1 ++ m2, by rw [e2, Array.append_assoc]⟩
theorem Un.kept (k : ∀ b u, h.get? b = some u → h'.get? b = some u) : Un fs ex H H h h' :=
  ⟨fun b ob q _ _ _ => k b ob q, fun b ob q _ _ _ => ⟨ob.slots, k b ob q⟩, fun _ _ _ n _ => n, fun b ob q _ => ⟨ob, k b ob q⟩, fun _ _ q => q, fun _ _ _ q => q, fun _ ps q => ⟨#[], by rw [q]; simp⟩⟩
theorem Un.refl : Un fs ex H H h h := Un.kept fun _ _ q => q
theorem Un.laid (k : ∀ b u, h.get? b = some u → h'.get? b = some u) (hp : h.objs.size ≤ a) (hn : H a = none) : Un fs ex H (upd H a o) h h' where
  keep := fun b u q _ _ _ => k b u q
  slot := fun b u q _ _ _ => ⟨u.slots, k b u q⟩
  free := fun b u q n _ => by rw [upd_ne (Nat.ne_of_lt (Nat.lt_of_lt_of_le (Heap.lt_size q) hp))]; exact n
  there := fun b u q _ => ⟨u, k b u q⟩
  tups := fun b xs q => by rw [upd_ne (ne_of_none q hn)]; exact q
  frzs := fun b u xs q => by rw [upd_ne (ne_of_none q hn)]; exact q
  tbls := fun b ps q => ⟨#[], by rw [upd_ne (ne_of_none q hn), q]; simp⟩
theorem Un.write (mu : Mut (H x)) (he : e = x ∨ H e = some (.own x)) (k : ∀ b u, b ≠ e → h.get? b = some u → h'.get? b = some u) (heo : ∃ u, h'.get? e = some u) : Un fs ex H (upd H x o) h h' := by
  have hx : ∀ b, H b = none → b ≠ x := fun b n z => by subst z; rw [n] at mu; exact mu
  have hb : ∀ b, H b = none → b ≠ e := fun b n z => by
    subst z
    rcases he with r | r
    · exact hx b n r
    · rw [n] at r; cases r
  have hm : ∀ b u, H b = some u → ¬ Mut (some u) → b ≠ x := fun b u q nm z => by subst z; rw [q] at mu; exact nm mu
  refine ⟨fun b u q n _ _ => k b u (hb b n) q, fun b u q n _ _ => ⟨u.slots, k b u (hb b n) q⟩, fun b u q n _ => by rw [upd_ne (hx b n)]; exact n, fun b u q _ => ?_,
    fun b xs q => by rw [upd_ne (hm b _ q fun z => z)]; exact q, fun b u xs q => by rw [upd_ne (hm b _ q fun z => z)]; exact q, fun b ps q => ⟨#[], by rw [upd_ne (hm b _ q fun z => z), q]; simp⟩⟩
  by_cases hbe : b = e
  · subst hbe; exact heo
  · exact ⟨u, k b u hbe q⟩
theorem Un.mono (u : Un fs ex H H1 h h1) (hs : ∀ b ∈ fs, b ∈ fs') (hx : ∀ b ∈ ex, b ∈ ex') : Un fs' ex' H H1 h h1 :=
  ⟨fun b ob q n hb he => u.keep b ob q n (fun z => hb (hs b z)) fun z => he (hx b z), fun _ _ q n _ he => u.any q n fun z => he (hx _ z), fun b ob q n he => u.free b ob q n fun z => he (hx b z), fun b ob q he => u.there b ob q fun z => he (hx b z), u.tups, u.frzs, u.tbls⟩
end

/-! ### the heap without what is tracked -/
def trk (h : Heap) (H : Hp) : List Addr := (List.range h.objs.size).filter fun a => (H a).isSome
def hidT (h : Heap) (H : Hp) : Heap := PySem.W.hideAll h (trk h H)
theorem hidT_size (h : Heap) (H : Hp) : (hidT h H).objs.size = h.objs.size := PySem.W.hideAll_size _ _
theorem hidT_get {h : Heap} {H : Hp} {b : Addr} {o : Obj} (e : h.get? b = some o) (n : H b = none) : (hidT h H).get? b = some o :=
  PySem.W.hideAll_get _ e fun hm => by
    have q : (H b).isSome = true := (List.mem_filter.mp hm).2
    rw [n] at q; simp at q
theorem of_hidT {h : Heap} {H : Hp} {b : Addr} {o : Obj} (e : (hidT h H).get? b = some o) : h.get? b = some o ∧ H b = none := by
  have e' : h.get? b = some o := PySem.W.of_hideAll (trk h H) e
  refine ⟨e', ?_⟩
  cases q : H b with
  | none => rfl
  | some x =>
    have hm : b ∈ trk h H := List.mem_filter.mpr ⟨List.mem_range.mpr (Heap.lt_size e'), by simp [q]⟩
    have z : (hidT h H).get? b = none := PySem.W.hideAll_none (trk h H) hm
    rw [z] at e; cases e

/-! ### OpenK's ledger, filled with every new object but one -/
def allNews (g h : Heap) (L : Addr) : List (Addr × Obj) := (List.range h.objs.size).filterMap fun a => if a = L ∨ (g.get? a).isSome = true then none else (h.get? a).map fun o => (a, o)
theorem mem_allNews {g h : Heap} {L a : Addr} {o : Obj} (h1 : a ≠ L) (h2 : g.get? a = none) (h3 : h.get? a = some o) : (a, o) ∈ allNews g h L :=
  List.mem_filterMap.mpr ⟨a, List.mem_range.mpr (Heap.lt_size h3), by simp [h1, h2, h3]⟩
theorem of_mem_allNews {g h : Heap} {L : Addr} {p : Addr × Obj} (hp : p ∈ allNews g h L) : p.1 ≠ L ∧ g.get? p.1 = none ∧ h.get? p.1 = some p.2 := by
  obtain ⟨b, _, e⟩ := List.mem_filterMap.mp hp
  split at e
  · cases e
  · rename_i hn
    cases q : h.get? b with
    | none => rw [q] at e; simp at e
    | some u =>
      rw [q] at e
      simp only [Option.map_some, Option.some.injEq] at e
      subst e
      refine ⟨fun z => hn (.inl z), ?_, q⟩
      show g.get? b = none
      cases r : g.get? b with
      | none => rfl
      | some v => exact (hn (.inr (by simp [r]))).elim
def rest (g h : Heap) (L d : Addr) : List (Addr × Obj) := (allNews g h L).filter fun p => decide (p.1 ≠ d)
theorem rest_ne {g h : Heap} {L d : Addr} : ∀ p ∈ rest g h L d, p.1 ≠ d := fun p hp => of_decide_eq_true (List.mem_filter.mp hp).2
theorem mem_rest {g h : Heap} {L d a : Addr} {o : Obj} (h1 : a ≠ L) (h2 : g.get? a = none) (h3 : h.get? a = some o) (h4 : a ≠ d) : (a, o) ∈ rest g h L d :=
  List.mem_filter.mpr ⟨mem_allNews h1 h2 h3, decide_eq_true h4⟩
theorem news_all {g h : Heap} {L : Addr} : News g L h (allNews g h L) := fun p hp => let ⟨a, b, c⟩ := of_mem_allNews hp; ⟨c, a, b⟩
theorem news_at {g h : Heap} {L d : Addr} {o : Obj} (h1 : d ≠ L) (h2 : g.get? d = none) (h3 : h.get? d = some o) : News g L h ((d, o) :: rest g h L d) := fun p hp => by
  rcases List.mem_cons.mp hp with rfl | hp
  · exact ⟨h3, h1, h2⟩
  · exact news_all p (List.mem_filter.mp hp).1
/-- behind a rule that changed d alone: all else but the frame is kept -/
theorem kept_of_news {g h h' : Heap} {L d : Addr} {m : Str → Option Value} (k : ∀ b o, g.get? b = some o → h.get? b = some o) (F : Fr g L h' m) (N : News g L h' (rest g h L d)) :
    ∀ b o, b ≠ L → b ≠ d → h.get? b = some o → h'.get? b = some o := fun b o h1 h2 e => by
  cases q : g.get? b with
  | some u =>
    have := k b u q
    rw [e] at this; cases this
    exact F.keep b _ q
  | none => exact (N (b, o) (mem_rest h1 q e h2)).1
end L2

namespace L2
open PySem PySem.Spec PyProof.Rows

/-- the module's facts, over the base: the heap at the law's entry without what is tracked there -/
structure Mod (K : PySem.W.Frag) (mg : Str → Option Value) (base : Heap) : Prop where
  kin : K.In base
  glob : base.Ns mainGlobals mg
  blt : ∃ mb, base.Ns builtinsNs mb ∧ ∀ x : Str, x ≠ "__name__" → mb x = bootBuiltins x
  nolimit : base.NoLimit

/-- the context: a def's body (or a comprehension's block) running. base: fixed through the whole law; s₀, H₀: the entry; outer: the frames whose slots others may change (a def's callers); stack: all frames that run;
   ex: iterators that were made ahead of the entry and are walked here (a comprehension's); fn: the names whose cells were made at the entry (a def: all; a comprehension's block: its own); calm: not within an except suite; pn: pins that every state bears; xe: what is wanted of an exception that leaves the code -/
structure Cx where
  prog : Program
  w : World
  K : PySem.W.Frag
  mg : Str → Option Value
  base : Heap
  A : Around
  N : List Str
  s₀ : Shared
  H₀ : Hp
  env : Env
  outer : List Env
  stack : List Env
  ex : List Addr
  fn : Str → Bool
  calm : Bool
  pn : List (Addr × Obj)
  xe : Value → Shared → Prop
/-- the callers' frames -/
def frs (l : List Env) : List Addr := l.filterMap (·.frame)
abbrev Cx.fs (X : Cx) : List Addr := frs X.outer

def Vis (sc : Scope) (x : Str) : Prop := sc.names.lookup x = some .local ∨ sc.names.lookup x = some .cell ∨ sc.names.lookup x = some .free
def Loc (sc : Scope) (x : Str) : Prop := sc.names.lookup x = some .local ∨ sc.names.lookup x = some .cell
def Look (env : Env) (h : Heap) (m : Str → Option Value) (x : Str) (u : Value) : Prop :=
  (env.kindOf x = some .local ∧ m x = some u) ∨ ((env.kindOf x = some .cell ∨ env.kindOf x = some .free) ∧ ∃ c, env.cells.lookup x = some c ∧ h.IsCell c (some u))

structure Cx.Ok (X : Cx) : Prop where
  mod : Mod X.K X.mg X.base
  kind : X.env.scope.kind = .function
  glob : X.env.globals = mainGlobals
  blt : X.env.builtins = builtinsNs
  above : X.s₀.heap.objs.size ≤ X.env.locals
  inj : ∀ x y c, X.env.cells.lookup x = some c → X.env.cells.lookup y = some c → x = y
  has : ∀ x, (X.env.kindOf x = some .cell ∨ X.env.kindOf x = some .free) → ∃ c, X.env.cells.lookup x = some c
  cab : ∀ x c, X.fn x = true → X.env.cells.lookup x = some c → X.s₀.heap.objs.size ≤ c
  hd : X.calm = true → X.A.handled = none
  frames : X.A.frames = some X.stack
  stk : X.stack = X.outer ∨ (X.stack = X.env :: X.outer ∧ X.env.frame = some X.env.locals)
  exf : ∀ b ∈ X.ex, b ≠ X.env.locals ∧ ∀ x c, X.env.cells.lookup x = some c → c ≠ b
  bs : ∀ b o, X.base.get? b = some o → X.s₀.heap.get? b = some o ∧ X.H₀ b = none
  bsz : X.base.objs.size ≤ X.s₀.heap.objs.size
  noex : ∀ b o, X.base.get? b = some o → b ∉ X.ex
  exfs : ∀ b ∈ X.ex, b ∉ X.fs
  funs : X.s₀.heap.FunFrames X.base X.outer
  frf : ∀ b ∈ X.fs, X.H₀ b = none

structure Inv (X : Cx) (pins : List (Addr × Obj)) (σ : List (Option V)) (H : Hp) (s : Shared) : Prop where
  ok : X.Ok
  os : s.os = X.s₀.os
  bare : AllBare s.gens
  base : Un X.fs X.ex X.H₀ H X.s₀.heap s.heap
  loc : ∃ m, s.heap.Ns X.env.locals m ∧ ∀ (i : Nat) (x : Str) (v : V), X.N[i]? = some x → σ[i]? = some (some v) → Vis X.env.scope x → ∃ u, RelV v u ∧ Look X.env s.heap m x u
  cell : ∀ x c, X.env.cells.lookup x = some c → ∃ v, s.heap.IsCell c v
  free : H X.env.locals = none
  freeC : ∀ x c, X.env.cells.lookup x = some c → H c = none
  pin : ∀ p ∈ X.pn ++ pins, s.heap.get? p.1 = some p.2 ∧ H p.1 = none ∧ p.1 ≠ X.env.locals ∧ p.1 ∉ X.fs ∧ ∀ v, p.2.data ≠ .cell v
  hok : HOk X.prog X.w H s.heap
  len : σ.length = X.N.length

section
variable {X : Cx} {pins : List (Addr × Obj)} {σ : List (Option V)} {H H' : Hp} {s : Shared} {h' : Heap}

theorem Cx.Ok.nofr (ok : X.Ok) {b : Addr} {o : Obj} (e : X.base.get? b = some o) : b ∉ X.fs := fun hb => by
  have := (ok.funs.mem hb).1
  rw [e] at this; cases this
theorem Inv.bs (I : Inv X pins σ H s) : ∀ b o, X.base.get? b = some o → s.heap.get? b = some o ∧ H b = none := fun b o e =>
  ⟨I.base.keep b o (I.ok.bs b o e).1 (I.ok.bs b o e).2 (I.ok.nofr e) (I.ok.noex b o e), I.base.free b o (I.ok.bs b o e).1 (I.ok.bs b o e).2 (I.ok.noex b o e)⟩
theorem Inv.bk (I : Inv X pins σ H s) : ∀ b o, X.base.get? b = some o → s.heap.get? b = some o := fun b o e => (I.bs b o e).1
theorem Inv.mod (I : Inv X pins σ H s) : Mod X.K X.mg X.base := I.ok.mod
theorem Inv.kIn (I : Inv X pins σ H s) : X.K.In s.heap := I.ok.mod.kin.keeps I.bk
theorem Inv.nolimit (I : Inv X pins σ H s) : s.heap.NoLimit := I.ok.mod.nolimit.keeps I.bk
/-- the frame over the base: for OpenK's rules (K.In X.base is I.mod.kin) -/
theorem Inv.fr (I : Inv X pins σ H s) : ∃ m, Fr X.base X.env.locals s.heap m :=
  let ⟨m, hn, _⟩ := I.loc
  ⟨m, hn, I.bk, Nat.le_trans I.ok.bsz I.ok.above⟩
theorem Inv.lt (I : Inv X pins σ H s) : X.env.locals < s.heap.objs.size := let ⟨_, hn, _⟩ := I.loc; hn.lt
theorem Inv.sz (I : Inv X pins σ H s) : X.s₀.heap.objs.size ≤ s.heap.objs.size := Nat.le_trans I.ok.above (Nat.le_of_lt I.lt)
theorem Inv.nofs (I : Inv X pins σ H s) {a : Addr} (h : s.heap.objs.size ≤ a) : a ∉ X.fs := fun hb => by
  obtain ⟨_, o, ho, _⟩ := I.ok.funs.mem hb
  exact absurd (Nat.lt_of_lt_of_le (Heap.lt_size ho) (Nat.le_trans I.sz h)) (Nat.lt_irrefl _)
theorem Inv.cne (I : Inv X pins σ H s) : ∀ x c, X.env.cells.lookup x = some c → c ≠ X.env.locals := fun x c e z => by
  obtain ⟨v, o, ho, hd⟩ := I.cell x c e
  obtain ⟨m, ⟨o', es, ep, ho', hd', _⟩, _⟩ := I.loc
  rw [z, ho'] at ho; cases ho; rw [hd'] at hd; cases hd
theorem Inv.funs (I : Inv X pins σ H s) : s.heap.FunFrames X.base X.outer := by
  have all : ∀ (l : List Env), (∀ b ∈ frs l, b ∈ X.fs) → X.s₀.heap.FunFrames X.base l → s.heap.FunFrames X.base l := by
    intro l
    induction l with
    | nil => intro _ _; trivial
    | cons env r ih =>
      intro hs hl
      obtain ⟨hk, ⟨L, o, hf, hn, ho, hd⟩, hr⟩ := hl
      have hL : L ∈ X.fs := hs L (by unfold frs; rw [List.filterMap_cons, hf]; exact List.mem_cons_self)
      obtain ⟨sl, e⟩ := I.base.slot L o ho (I.ok.frf L hL) hL fun z => I.ok.exfs L z hL
      exact ⟨hk, ⟨L, _, hf, hn, e, hd⟩, ih (fun b hb => hs b (by unfold frs; rw [List.filterMap_cons, hf]; exact List.mem_cons_of_mem _ hb)) hr⟩
  exact all X.outer (fun _ hb => hb) I.ok.funs

/-- the frames that run, for a call -/
theorem Inv.stack (I : Inv X pins σ H s) : s.heap.FunFrames X.base X.stack := by
  rcases I.ok.stk with e | ⟨e, hf⟩
  · rw [e]; exact I.funs
  · rw [e]
    obtain ⟨m, hn, _⟩ := I.loc
    refine .cons (by rw [I.ok.kind]; decide) hf hn ?_ I.funs
    exact Heap.get?_none_of_le (Nat.le_trans I.ok.bsz I.ok.above)
theorem Inv.stkSub (I : Inv X pins σ H s) : ∀ b ∈ frs X.stack, b ∈ X.env.locals :: X.fs := fun b hb => by
  rcases I.ok.stk with e | ⟨e, hf⟩
  · rw [e] at hb; exact List.mem_cons_of_mem _ hb
  · rw [e] at hb
    unfold frs at hb
    rw [List.filterMap_cons, hf] at hb
    exact hb
theorem Inv.stkFree (I : Inv X pins σ H s) : ∀ b ∈ frs X.stack, H b = none := fun b hb => by
  rcases List.mem_cons.mp (I.stkSub b hb) with e | hb
  · rw [e]; exact I.free
  · obtain ⟨_, o, ho, _⟩ := I.ok.funs.mem hb
    exact I.base.free b o ho (I.ok.frf b hb) fun z => I.ok.exfs b z hb

/-- THE STEP: the untracked objects but the frame and the records at ch are kept (the callers' frames up to slots), the frame's map is kept, the new abstract heap is held -/
theorem Inv.step {g' : Array GenState} {t' : Nat} {d' : Drawn} {ch : List Addr} (I : Inv X pins σ H s)
    (hch : ∀ b ∈ ch, (b ∈ X.ex ∨ X.s₀.heap.objs.size ≤ b) ∧ b ≠ X.env.locals ∧ (∀ x c, X.env.cells.lookup x = some c → c ≠ b) ∧ ∀ p ∈ X.pn ++ pins, p.1 ≠ b)
    (keep : ∀ b o, b ≠ X.env.locals → b ∉ X.fs → b ∉ ch → s.heap.get? b = some o → H b = none → h'.get? b = some o)
    (slot : ∀ b o, b ≠ X.env.locals → b ∈ X.fs → b ∉ ch → s.heap.get? b = some o → H b = none → ∃ sl, h'.get? b = some { o with slots := sl }) (free : ∀ b o, b ∉ ch → s.heap.get? b = some o → H b = none → H' b = none)
    (there : ∀ b o, b ∉ ch → s.heap.get? b = some o → ∃ o', h'.get? b = some o')
    (tups : ∀ b xs, H b = some (.tup xs) → H' b = some (.tup xs)) (frzs : ∀ b o u, H b = some (.frz o u) → H' b = some (.frz o u)) (tbls : ∀ b ps, H b = some (.tbl ps) → ∃ more, H' b = some (.tbl (ps ++ more)))
    (ns : ∀ m, s.heap.Ns X.env.locals m → h'.Ns X.env.locals m) (hok : HOk X.prog X.w H' h') (hg : AllBare g') :
    Inv X pins σ H' { s with heap := h', gens := g', drawn := d', toks := t' } := by
  have neL : ∀ b o, X.s₀.heap.get? b = some o → b ≠ X.env.locals := fun b o e => Nat.ne_of_lt (Nat.lt_of_lt_of_le (Heap.lt_size e) I.ok.above)
  have neC : ∀ b o, X.s₀.heap.get? b = some o → b ∉ X.ex → b ∉ ch := fun b o e hx hb => by
    rcases (hch b hb).1 with z | z
    · exact hx z
    · exact absurd (Nat.lt_of_lt_of_le (Heap.lt_size e) z) (Nat.lt_irrefl _)
  have cellK : ∀ x c, X.env.cells.lookup x = some c → ∀ v, s.heap.IsCell c v → h'.IsCell c v := fun x c e v ⟨o, ho, hd⟩ => by
    have nch : c ∉ ch := fun z => (hch c z).2.2.1 x c e rfl
    by_cases hc : c ∈ X.fs
    · obtain ⟨sl, q⟩ := slot c o (I.cne x c e) hc nch ho (I.freeC x c e)
      exact ⟨_, q, hd⟩
    · exact ⟨o, keep c o (I.cne x c e) hc nch ho (I.freeC x c e), hd⟩
  refine ⟨I.ok, I.os, hg, ⟨fun b o e n hb hx => ?_, fun b o e n hb hx => ?_, fun b o e n hx => ?_, fun b o e hx => ?_, fun b xs e => tups b xs (I.base.tups b xs e), fun b o xs e => frzs b o xs (I.base.frzs b o xs e), fun b ps e => ?_⟩, ?_, fun x c e => ?_, ?_, fun x c e => ?_, fun p hp => ?_, hok, I.len⟩
  · exact keep b o (neL b o e) hb (neC b o e hx) (I.base.keep b o e n hb hx) (I.base.free b o e n hx)
  · obtain ⟨sl, e1⟩ := I.base.slot b o e n hb hx
    obtain ⟨sl', e2⟩ := slot b _ (neL b o e) hb (neC b o e hx) e1 (I.base.free b o e n hx)
    exact ⟨sl', e2⟩
  · obtain ⟨o', e1⟩ := I.base.there b o e hx
    exact free b o' (neC b o e hx) e1 (I.base.free b o e n hx)
  · obtain ⟨o', e1⟩ := I.base.there b o e hx
    exact there b o' (neC b o e hx) e1
  · obtain ⟨m1, e1⟩ := I.base.tbls b ps e
    obtain ⟨m2, e2⟩ := tbls b _ e1
    exact ⟨m1 ++ m2, by rw [e2, Array.append_assoc]⟩
  · obtain ⟨m, hn, hl⟩ := I.loc
    refine ⟨m, ns m hn, fun i x v e1 e2 e3 => ?_⟩
    obtain ⟨u, r, l⟩ := hl i x v e1 e2 e3
    refine ⟨u, r, ?_⟩
    rcases l with l | ⟨k, c, e, z⟩
    · exact .inl l
    · exact .inr ⟨k, c, e, cellK x c e _ z⟩
  · obtain ⟨v, z⟩ := I.cell x c e
    exact ⟨v, cellK x c e v z⟩
  · obtain ⟨m, ⟨o, _, _, ho, _⟩, _⟩ := I.loc
    exact free _ o (fun z => (hch _ z).2.1 rfl) ho I.free
  · obtain ⟨v, o, ho, hd⟩ := I.cell x c e
    exact free c o (fun z => (hch c z).2.2.1 x c e rfl) ho (I.freeC x c e)
  · obtain ⟨e, n, ne, nf, d⟩ := I.pin p hp
    have nch : p.1 ∉ ch := fun z => (hch p.1 z).2.2.2 p hp rfl
    exact ⟨keep p.1 p.2 ne nf nch e n, free p.1 p.2 nch e n, ne, nf, d⟩
/-- .. where the frame's own object is kept too -/
theorem Inv.un {t' : Nat} (I : Inv X pins σ H s) (u : Un X.fs [] H H' s.heap h') (hok : HOk X.prog X.w H' h') : Inv X pins σ H' { s with heap := h', toks := t' } := by
  obtain ⟨m, ⟨o, es, ep, ho, r⟩, _⟩ := id I.loc
  obtain ⟨sl, hL⟩ := u.any ho I.free (by simp)
  exact I.step (g' := s.gens) (d' := s.drawn) (ch := []) (fun _ z => nomatch z) (fun b o _ hb _ e n => u.keep b o e n hb (by simp)) (fun b o _ hb _ e n => u.slot b o e n hb (by simp)) (fun b o _ e n => u.free b o e n (by simp)) (fun b o _ e => u.there b o e (by simp)) u.tups u.frzs u.tbls (fun m' hm => by
    obtain ⟨o', es', ep', ho', r'⟩ := hm
    rw [ho] at ho'; cases ho'
    exact ⟨_, es', ep', hL, r'⟩) hok I.bare
/-- behind a call (or a comprehension's block): the slots of this frame may have changed too, the records at ch may have turned -/
theorem Inv.call {g' : Array GenState} {t' : Nat} {d' : Drawn} {ch : List Addr} (I : Inv X pins σ H s) (u : Un (frs X.stack) ch H H' s.heap h') (hok : HOk X.prog X.w H' h') (hg : AllBare g')
    (hch : ∀ b ∈ ch, (b ∈ X.ex ∨ X.s₀.heap.objs.size ≤ b) ∧ b ≠ X.env.locals ∧ (∀ x c, X.env.cells.lookup x = some c → c ≠ b) ∧ ∀ p ∈ X.pn ++ pins, p.1 ≠ b) :
    Inv X pins σ H' { s with heap := h', gens := g', drawn := d', toks := t' } := by
  obtain ⟨m, ⟨o, es, ep, ho, r⟩, _⟩ := id I.loc
  obtain ⟨sl, hL⟩ := u.any ho I.free fun z => (hch _ z).2.1 rfl
  exact I.step (ch := ch) hch (fun b o hL hb hc e n => u.keep b o e n (fun z => (List.mem_cons.mp (I.stkSub b z)).elim hL hb) hc) (fun b o _ _ hc e n => u.any e n hc) (fun b o hc e n => u.free b o e n hc) (fun b o hc e => u.there b o e hc) u.tups u.frzs u.tbls (fun m' hm => by
    obtain ⟨o', es', ep', ho', r'⟩ := hm
    rw [ho] at ho'; cases ho'
    exact ⟨_, es', ep', hL, r'⟩) hok hg
/-- an untracked record of ours (an iterator) has turned -/
theorem Inv.turned {t' : Nat} {it : Addr} (I : Inv X pins σ H s) (k : ∀ b o, b ≠ it → s.heap.get? b = some o → h'.get? b = some o) (hn : H it = none) (hL : it ≠ X.env.locals)
    (h1 : it ∈ X.ex ∨ X.s₀.heap.objs.size ≤ it) (h2 : ∀ x c, X.env.cells.lookup x = some c → c ≠ it) (h3 : ∀ p ∈ X.pn ++ pins, p.1 ≠ it) : Inv X pins σ H { s with heap := h', toks := t' } := by
  have nit : ∀ b u, H b = some u → b ≠ it := fun b u e z => by rw [z, hn] at e; cases e
  refine I.step (g' := s.gens) (d' := s.drawn) (ch := [it]) (fun b hb => ?_) (fun b o _ _ hc e _ => k b o (fun z => hc (by simp [z])) e) (fun b o _ _ hc e _ => ⟨o.slots, k b o (fun z => hc (by simp [z])) e⟩) (fun _ _ _ _ n => n)
    (fun b o hc e => ⟨o, k b o (fun z => hc (by simp [z])) e⟩) (fun _ _ e => e) (fun _ _ _ e => e) (fun b ps e => ⟨#[], by rw [e]; simp⟩) (fun m hm => ?_) (fun b u e => ?_) I.bare
  · have e : b = it := by simpa using hb
    subst e
    exact ⟨h1, hL, h2, h3⟩
  · obtain ⟨o, es, ep, ho, r⟩ := hm
    exact ⟨o, es, ep, k _ o (Ne.symm hL) ho, r⟩
  · refine (I.hok b u e).stay (fun c v hc q => k c v ?_ q) (fun _ q => q) fun _ _ q => q
    rcases hc with z | z
    · rw [z]; exact nit b u e
    · exact nit c _ z
theorem Inv.tok (I : Inv X pins σ H s) (t : Nat) : Inv X pins σ H { s with toks := t } := I.un (h' := s.heap) (t' := t) Un.refl I.hok
/-- all objects kept -/
theorem Inv.kept {t' : Nat} (I : Inv X pins σ H s) (k : ∀ b u, s.heap.get? b = some u → h'.get? b = some u) : Inv X pins σ H { s with heap := h', toks := t' } := I.un (Un.kept k) (I.hok.kept k)
/-- a new object laid and tracked -/
theorem Inv.laid {a : Addr} {o : HO} {t' : Nat} (I : Inv X pins σ H s) (k : ∀ b u, s.heap.get? b = some u → h'.get? b = some u) (hp : s.heap.objs.size ≤ a) (new : ObjOk X.prog X.w (upd H a o) h' a o) :
    Inv X pins σ (upd H a o) { s with heap := h', toks := t' } := I.un (Un.laid k hp (I.hok.fresh hp)) (I.hok.laid k hp new)
/-- an object written -/
theorem Inv.write {x e : Addr} {o : HO} {t' : Nat} (I : Inv X pins σ H s) (mu : Mut (H x)) (he : e = x ∨ H e = some (.own x)) (k : ∀ b u, b ≠ e → s.heap.get? b = some u → h'.get? b = some u) (heo : ∃ u, h'.get? e = some u)
    (new : ObjOk X.prog X.w (upd H x o) h' x o) : Inv X pins σ (upd H x o) { s with heap := h', toks := t' } := I.un (Un.write mu he k heo) (I.hok.write mu he k heo new)
/-- forgetting slots, pins -/
theorem Inv.weak {σ' : List (Option V)} (I : Inv X pins σ H s) (hl : σ'.length = σ.length) (w : ∀ (i : Nat) v, σ'[i]? = some (some v) → σ[i]? = some (some v)) : Inv X pins σ' H s :=
  ⟨I.ok, I.os, I.bare, I.base, let ⟨m, hn, hl'⟩ := I.loc; ⟨m, hn, fun i x v e1 e2 e3 => hl' i x v e1 (w i v e2) e3⟩, I.cell, I.free, I.freeC, I.pin, I.hok, hl.trans I.len⟩
theorem Inv.pins_of {pins' : List (Addr × Obj)} (I : Inv X pins σ H s) (h : ∀ p ∈ pins', s.heap.get? p.1 = some p.2 ∧ H p.1 = none ∧ p.1 ≠ X.env.locals ∧ p.1 ∉ X.fs ∧ ∀ v, p.2.data ≠ .cell v) : Inv X pins' σ H s :=
  ⟨I.ok, I.os, I.bare, I.base, I.loc, I.cell, I.free, I.freeC, fun p hp => (List.mem_append.mp hp).elim (fun z => I.pin p (List.mem_append_left _ z)) (h p), I.hok, I.len⟩

theorem nodup_ix {N : List Str} (hN : N.Nodup) {i j : Nat} {x : Str} (a : N[i]? = some x) (b : N[j]? = some x) : i = j := by
  obtain ⟨h1, e1⟩ := List.getElem?_eq_some_iff.mp a
  obtain ⟨h2, e2⟩ := List.getElem?_eq_some_iff.mp b
  exact (List.getElem_inj hN).mp (e1.trans e2.symm)

/-- a name is stored; what changed -/
theorem store_ok2 {M : Model} {A : Around} {E : Value → Shared → Prop} {i : Nat} {x : Str} {v : V} {u : Value} {Q : Unit → Shared → Prop} (I : Inv X pins σ H s) (hN : X.N.Nodup) (hi : X.N[i]? = some x) (hx : Loc X.env.scope x) (r : RelV v u)
    (h : ∀ s', Inv X pins (σ.set i (some v)) H s' → (∃ a, Heap.SameBut a s.heap s'.heap ∧ (a = X.env.locals ∨ X.env.cells.lookup x = some a)) → Q () s') (hf : X.fn x = true ∨ X.env.scope.names.lookup x = some .local := by first | exact .inl rfl | exact .inr rfl | assumption) : wpAny M A (storeName X.env x u) Q E s := by
  obtain ⟨m, hn, hl⟩ := id I.loc
  have hcls : (X.env.scope.kind == .class || (X.env.scope.kind == .module && X.env.locals != X.env.globals)) = false := by rw [I.ok.kind]; rfl
  have hiσ : i < σ.length := by rw [I.len]; exact (List.getElem?_eq_some_iff.mp hi).1
  have cne := I.cne
  have tracked : ∀ {a : Addr} {h' : Heap}, (∃ o, s.heap.get? a = some o ∧ H a = none) → Heap.SameBut a s.heap h' → HOk X.prog X.w H h' := fun {a h'} ha hs b ob e => by
    obtain ⟨_, _, hfree⟩ := ha
    refine (I.hok b ob e).stay (fun c w' hc q => (hs.2 c ?_).trans q) (fun _ q => q) fun _ _ q => q
    rintro rfl
    rcases hc with rfl | hc
    · rw [hfree] at e; cases e
    · rw [hfree] at hc; cases hc
  rcases hx with hk | hk
  · refine wpAny_storeName_local hk hn (fun h' hn' hs => ?_) hcls
    obtain ⟨oL, _, _, hoL, _⟩ := id hn
    refine h _ ⟨I.ok, I.os, I.bare, ⟨fun b o e n hb hx => ?_, fun b o e n hb hx => ?_, I.base.free, fun b o e hx => ?_, I.base.tups, I.base.frzs, I.base.tbls⟩, ⟨_, hn', fun j y v' e1 e2 e3 => ?_⟩, fun y c e => ?_, I.free, I.freeC, fun p hp => ?_, tracked ⟨oL, hoL, I.free⟩ hs, by simpa using I.len⟩ ⟨_, hs, .inl rfl⟩
    · exact (hs.2 b (Nat.ne_of_lt (Nat.lt_of_lt_of_le (Heap.lt_size e) I.ok.above))).trans (I.base.keep b o e n hb hx)
    · obtain ⟨sl, e1⟩ := I.base.slot b o e n hb hx
      exact ⟨sl, (hs.2 b (Nat.ne_of_lt (Nat.lt_of_lt_of_le (Heap.lt_size e) I.ok.above))).trans e1⟩
    · obtain ⟨o', e1⟩ := I.base.there b o e hx
      exact ⟨o', (hs.2 b (Nat.ne_of_lt (Nat.lt_of_lt_of_le (Heap.lt_size e) I.ok.above))).trans e1⟩
    · by_cases hj : j = i
      · subst hj
        rw [hi] at e1; cases e1
        rw [List.getElem?_set_self hiσ] at e2
        cases e2
        exact ⟨u, r, .inl ⟨hk, by simp⟩⟩
      · rw [List.getElem?_set_ne (Ne.symm hj)] at e2
        obtain ⟨u', r', q⟩ := hl j y v' e1 e2 e3
        refine ⟨u', r', ?_⟩
        rcases q with ⟨k, e⟩ | ⟨k, c, e, z⟩
        · refine .inl ⟨k, ?_⟩
          have : y ≠ x := fun e => hj (nodup_ix hN e1 (e ▸ hi))
          simp [this, e]
        · exact .inr ⟨k, c, e, z.sameBut hs (cne y c e)⟩
    · obtain ⟨w', z⟩ := I.cell y c e
      exact ⟨w', z.sameBut hs (cne y c e)⟩
    · obtain ⟨e, n, ne, nf, d⟩ := I.pin p hp
      exact ⟨(hs.2 p.1 ne).trans e, n, ne, nf, d⟩
  · have hfn : X.fn x = true := by
      rcases hf with z | z
      · exact z
      · rw [z] at hk; cases hk
    obtain ⟨c, hc⟩ := I.ok.has x (.inl hk)
    obtain ⟨w', z⟩ := I.cell x c hc
    refine wpAny_storeName_cell I.ok.kind hk hc z (fun h' hc' hs => ?_)
    obtain ⟨oc, hoc, hocd⟩ := id z
    refine h { s with heap := h' } ⟨I.ok, I.os, I.bare, ⟨fun b o e n hb hx => ?_, fun b o e n hb hx => ?_, I.base.free, fun b o e hx => ?_, I.base.tups, I.base.frzs, I.base.tbls⟩, ⟨m, hn.sameBut hs (Ne.symm (cne x c hc)), fun j y v' e1 e2 e3 => ?_⟩, fun y c' e => ?_, I.free, I.freeC, fun p hp => ?_, tracked ⟨oc, hoc, I.freeC x c hc⟩ hs, by simpa using I.len⟩ ⟨c, hs, .inr hc⟩
    · exact (hs.2 b (Nat.ne_of_lt (Nat.lt_of_lt_of_le (Heap.lt_size e) (I.ok.cab x c hfn hc)))).trans (I.base.keep b o e n hb hx)
    · obtain ⟨sl, e1⟩ := I.base.slot b o e n hb hx
      exact ⟨sl, (hs.2 b (Nat.ne_of_lt (Nat.lt_of_lt_of_le (Heap.lt_size e) (I.ok.cab x c hfn hc)))).trans e1⟩
    · obtain ⟨o', e1⟩ := I.base.there b o e hx
      exact ⟨o', (hs.2 b (Nat.ne_of_lt (Nat.lt_of_lt_of_le (Heap.lt_size e) (I.ok.cab x c hfn hc)))).trans e1⟩
    · by_cases hj : j = i
      · subst hj
        rw [hi] at e1; cases e1
        rw [List.getElem?_set_self hiσ] at e2
        cases e2
        exact ⟨u, r, .inr ⟨.inl hk, c, hc, hc'⟩⟩
      · rw [List.getElem?_set_ne (Ne.symm hj)] at e2
        obtain ⟨u', r', q⟩ := hl j y v' e1 e2 e3
        refine ⟨u', r', ?_⟩
        rcases q with q | ⟨k, c', e, z'⟩
        · exact .inl q
        · refine .inr ⟨k, c', e, z'.sameBut hs ?_⟩
          rintro rfl
          exact hj (nodup_ix hN e1 (I.ok.inj _ _ _ e hc ▸ hi))
    · by_cases hcc : c' = c
      · subst hcc; exact ⟨_, hc'⟩
      · obtain ⟨w2, z2⟩ := I.cell y c' e
        exact ⟨w2, z2.sameBut hs hcc⟩
    · obtain ⟨e, n, ne, nf, d⟩ := I.pin p hp
      refine ⟨(hs.2 p.1 ?_).trans e, n, ne, nf, d⟩
      intro q
      rw [q, hoc] at e
      have q' : oc = p.2 := Option.some.inj e
      exact d w' (by rw [← q']; exact hocd)
theorem store_ok {M : Model} {A : Around} {E : Value → Shared → Prop} {i : Nat} {x : Str} {v : V} {u : Value} {Q : Unit → Shared → Prop} (I : Inv X pins σ H s) (hN : X.N.Nodup) (hi : X.N[i]? = some x) (hx : Loc X.env.scope x) (r : RelV v u)
    (h : ∀ s', Inv X pins (σ.set i (some v)) H s' → Q () s') (hf : X.fn x = true ∨ X.env.scope.names.lookup x = some .local := by first | exact .inl rfl | exact .inr rfl | assumption) : wpAny M A (storeName X.env x u) Q E s :=
  store_ok2 I hN hi hx r (fun s' I' _ => h s' I') hf
/-- behind a call or a block, the state as it is -/
theorem Inv.call' {s' : Shared} {ch : List Addr} (I : Inv X pins σ H s) (ho : s'.os = s.os) (u : Un (frs X.stack) ch H H' s.heap s'.heap) (hok : HOk X.prog X.w H' s'.heap) (hg : AllBare s'.gens)
    (hch : ∀ b ∈ ch, (b ∈ X.ex ∨ X.s₀.heap.objs.size ≤ b) ∧ b ≠ X.env.locals ∧ (∀ x c, X.env.cells.lookup x = some c → c ≠ b) ∧ ∀ p ∈ X.pn ++ pins, p.1 ≠ b) : Inv X pins σ H' s' := by
  obtain ⟨h', g', d', t', o'⟩ := s'
  have e : o' = s.os := ho
  subst e
  exact I.call (g' := g') (t' := t') (d' := d') u hok hg hch
end

/-! ### the judgements -/
/-- an exception: its class, its own dict's address (where it has one), the abstract heap behind it -/
abbrev XK := Value → Option Addr → Hp → Prop
abbrev St := List (Option V)
abbrev VK := V → Hp → Prop
/-- an expression's reading; a test's; an argument list's -/
abbrev TE := St → Hp → VK → Prop
abbrev TT := St → Hp → (Bool → Hp → Prop) → Prop
abbrev TA := St → Hp → (List V → Hp → Prop) → Prop
/-- what is wanted behind a statement -/
structure Ends where
  nx : St → Hp → Prop
  rt : VK
  bk : St → Hp → Prop := fun _ _ => False
  ct : St → Hp → Prop := fun _ _ => False
abbrev TS := Ends → St → Hp → Prop

def EP (X : Cx) (pins : List (Addr × Obj)) (σ : St) (Q : VK) (u : Value) (s' : Shared) : Prop := ∃ v H', Inv X pins σ H' s' ∧ RelV v u ∧ Q v H'
def TP (X : Cx) (pins : List (Addr × Obj)) (σ : St) (Q : Bool → Hp → Prop) (b : Bool) (s' : Shared) : Prop := ∃ H', Inv X pins σ H' s' ∧ Q b H'
def AP (X : Cx) (pins : List (Addr × Obj)) (σ : St) (Q : List V → Hp → Prop) (us : List Value) (s' : Shared) : Prop := ∃ vs H', Inv X pins σ H' s' ∧ Vals vs us ∧ Q vs H'
def SP (X : Cx) (pins : List (Addr × Obj)) (D : Ends) (f : Flow) (s' : Shared) : Prop :=
  match f with
  | .next => ∃ σ' H', Inv X pins σ' H' s' ∧ D.nx σ' H'
  | .brk => ∃ σ' H', Inv X pins σ' H' s' ∧ D.bk σ' H'
  | .cont => ∃ σ' H', Inv X pins σ' H' s' ∧ D.ct σ' H'
  | .ret u => ∃ v σ' H', Inv X pins σ' H' s' ∧ RelV v u ∧ D.rt v H'

def PE (X : Cx) (e : Expr) (t : TE) : Prop :=
  ∀ (pins : List (Addr × Obj)) (s : Shared) (σ : St) (H : Hp) (Q : VK), Inv X pins σ H s → t σ H Q → wpAny (model X.prog X.w) X.A (eval e X.env) (EP X pins σ Q) X.xe s
def PT (X : Cx) (e : Expr) (t : TT) : Prop :=
  ∀ (pins : List (Addr × Obj)) (s : Shared) (σ : St) (H : Hp) (Q : Bool → Hp → Prop), Inv X pins σ H s → t σ H Q → wpAny (model X.prog X.w) X.A (isTrue e X.env (eval e X.env)) (TP X pins σ Q) X.xe s
/-- a test whatever its 'whole' is (and, or) -/
def PW (X : Cx) (e : Expr) (t : TT) : Prop :=
  ∀ (whole : Sem Value) (pins : List (Addr × Obj)) (s : Shared) (σ : St) (H : Hp) (Q : Bool → Hp → Prop), Inv X pins σ H s → t σ H Q → wpAny (model X.prog X.w) X.A (isTrue e X.env whole) (TP X pins σ Q) X.xe s
theorem PW.pt {X : Cx} {e : Expr} {t : TT} (h : PW X e t) : PT X e t := h _
/-- an argument list (no star), from the left -/
def PA (X : Cx) (es : List Expr) (t : TA) : Prop :=
  ∀ (pos : Pos) (pins : List (Addr × Obj)) (s : Shared) (σ : St) (H : Hp) (Q : List V → Hp → Prop), Inv X pins σ H s → t σ H Q → wpAny (model X.prog X.w) X.A (spliced (backTo pos (starEach es X.env))) (AP X pins σ Q) X.xe s
def PS (X : Cx) (st : Stmt) (t : TS) : Prop :=
  ∀ (pins : List (Addr × Obj)) (s : Shared) (σ : St) (H : Hp) (D : Ends), Inv X pins σ H s → t D σ H → wpAny (model X.prog X.w) X.A (exec st X.env) (SP X pins D) X.xe s
def PSs (X : Cx) (st : List Stmt) (t : TS) : Prop :=
  ∀ (pins : List (Addr × Obj)) (s : Shared) (σ : St) (H : Hp) (D : Ends), Inv X pins σ H s → t D σ H → wpAny (model X.prog X.w) X.A (execs st X.env) (SP X pins D) X.xe s
/-- weaken the end -/
theorem thn {α : Type} {t : Sem α} {Q Q' : α → Shared → Prop} {M : Model} {A : Around} {E : Value → Shared → Prop} {s : Shared} (h : wpAny M A t Q E s) (hQ : ∀ a s, Q a s → Q' a s) : wpAny M A t Q' E s := wpAny_mono h hQ fun _ _ x => x
end L2

namespace L2
open PySem PySem.Spec PyProof.Rows
section
variable {X : Cx}

/-- two expressions in a row -/
theorem bin {a b : Expr} {ta tb : TE} (ha : PE X a ta) (hb : PE X b tb) {pins : List (Addr × Obj)} {s : Shared} {σ : St} {H : Hp} {R : V → V → Hp → Prop} (I : Inv X pins σ H s) (h : ta σ H fun x H1 => tb σ H1 fun y H2 => R x y H2)
    {α : Type} {Q : α → Shared → Prop} {f : Value → Value → Sem α}
    (hf : ∀ v u s2 x y H2, Inv X pins σ H2 s2 → RelV x v → RelV y u → R x y H2 → wpAny (model X.prog X.w) X.A (f v u) Q X.xe s2) :
    wpAny (model X.prog X.w) X.A (eval a X.env) (fun v s₁ => wpAny (model X.prog X.w) X.A (eval b X.env) (fun u s₂ => wpAny (model X.prog X.w) X.A (f v u) Q X.xe s₂) X.xe s₁) X.xe s := by
  refine thn (ha pins s σ H _ I h) fun v s1 ⟨x, H1, I1, r1, q1⟩ => ?_
  refine thn (hb pins s1 σ H1 _ I1 q1) fun u s2 ⟨y, H2, I2, r2, q2⟩ => ?_
  exact hf v u s2 x y H2 I2 r1 r2 q2

/-! ### names and constants -/
def tVar (i : Nat) : TE := fun σ H Q => ∃ v, σ[i]? = some (some v) ∧ Q v H
def tC (v : V) : TE := fun _ H Q => Q v H
theorem pe_var {i : Nat} {x : Str} {pos : Pos} (hN : X.N[i]? = some x) (hv : Vis X.env.scope x) (hd : (x == ("__debug__" : Str)) = false := by decide) (hcd : (x == ("__classdict__" : Str)) = false := by decide) : PE X (.Name x pos) (tVar i) := by
  intro pins s σ H Q I h
  obtain ⟨v, e, h⟩ := h
  obtain ⟨m, hn, hl⟩ := I.loc
  obtain ⟨u, r, l⟩ := hl i x v hN e hv
  have fin : EP X pins σ Q u s := ⟨v, H, I, r, h⟩
  rcases l with ⟨hk, hm⟩ | ⟨hk, c, hc, hcell⟩
  · exact wpAny_Name (wpAny_loadName_local I.ok.kind hk hn hm fin) hd
  · rcases hk with hk | hk
    · exact wpAny_Name (wpAny_loadName_cell I.ok.kind hk hc hcell fin) hd
    · exact wpAny_Name (wpAny_loadName_free I.ok.kind hk hc hcell fin hcd) hd
theorem pe_int {i j pos} : PE X (.Constant (.int i) j pos) (tC (.int i)) := fun _ _ _ H _ I h => wpAny_Constant_int ⟨.int i, H, I.tok _, ⟨_, rfl⟩, h⟩
theorem pe_bl {b j pos} : PE X (.Constant (.bool b) j pos) (tC (.bl b)) := fun _ _ _ H _ I h => Constant_bool ⟨.bl b, H, I, rfl, h⟩
theorem pe_non {j pos} : PE X (.Constant .none j pos) (tC .non) := fun _ _ _ H _ I h => Constant_none ⟨.non, H, I, rfl, h⟩
theorem pe_str {x j pos} : PE X (.Constant (.str x) j pos) (tC (.str x)) := fun _ _ _ H _ I h => Calls.Constant_str ⟨.str x, H, I.tok _, ⟨_, rfl⟩, h⟩

/-- a global name of the def -/
def Gl (X : Cx) (x : Str) : Prop := X.env.kindOf x = some .globalImplicit
theorem ld_glob {E : Value → Shared → Prop} {pins : List (Addr × Obj)} {s : Shared} {σ : St} {H : Hp} {x : Str} {u : Value} {pos : Pos} {Q : Value → Shared → Prop} (I : Inv X pins σ H s) (hg : Gl X x) (hm : X.mg x = some u) (h : Q u s)
    (hd : (x == ("__debug__" : Str)) = false := by decide) : wpAny (model X.prog X.w) X.A (eval (.Name x pos) X.env) Q E s :=
  Calls.Name_function_global I.ok.kind hg (Calls.loadGlobal_global (by rw [I.ok.glob]; exact I.mod.glob.keeps I.bk) hm h) hd
theorem ld_blt {E : Value → Shared → Prop} {pins : List (Addr × Obj)} {s : Shared} {σ : St} {H : Hp} {x : Str} {u : Value} {pos : Pos} {Q : Value → Shared → Prop} (I : Inv X pins σ H s) (hg : Gl X x) (hm : X.mg x = none) (hv : bootBuiltins x = some u) (h : Q u s)
    (hn : x ≠ "__name__" := by decide) (hd : (x == ("__debug__" : Str)) = false := by decide) : wpAny (model X.prog X.w) X.A (eval (.Name x pos) X.env) Q E s := by
  obtain ⟨mb, h1, h2⟩ := I.mod.blt
  exact Calls.Name_function_global I.ok.kind hg (Calls.loadGlobal_builtin (by rw [I.ok.glob]; exact I.mod.glob.keeps I.bk) hm (by rw [I.ok.blt]; exact h1.keeps I.bk) ((h2 x hn).trans hv) h) hd
/-- a module's constant, a class, a function, as a value -/
theorem pe_glob {x : Str} {v : V} {u : Value} {pos : Pos} (hg : Gl X x) (hm : X.mg x = some u) (r : RelV v u) (hd : (x == ("__debug__" : Str)) = false := by decide) : PE X (.Name x pos) (tC v) :=
  fun _ _ _ H _ I h => ld_glob I hg hm ⟨v, H, I, r, h⟩ hd
theorem pe_bltn {x : Str} {v : V} {u : Value} {pos : Pos} (hg : Gl X x) (hm : X.mg x = none) (hv : bootBuiltins x = some u) (r : RelV v u) (hn : x ≠ "__name__" := by decide) (hd : (x == ("__debug__" : Str)) = false := by decide) : PE X (.Name x pos) (tC v) :=
  fun _ _ _ H _ I h => ld_blt I hg hm hv ⟨v, H, I, r, h⟩ hn hd

/-! ### arithmetic -/
/-- two ints -/
def t2I (ta tb : TE) (k : Int → Int → Hp → Prop) : St → Hp → Prop := fun σ H => ta σ H fun x H1 => tb σ H1 fun y H2 => ∃ i j, x = .int i ∧ y = .int j ∧ k i j H2
def tAdd (ta tb : TE) : TE := fun σ H Q => t2I ta tb (fun i j H2 => Q (.int (i + j)) H2) σ H
def tSub (ta tb : TE) : TE := fun σ H Q => t2I ta tb (fun i j H2 => Q (.int (i - j)) H2) σ H
/-- the left factor below 2^64 -/
def tMul (ta tb : TE) : TE := fun σ H Q => t2I ta tb (fun i j H2 => (-(2 ^ 64) < i ∧ i < 2 ^ 64) ∧ Q (.int (i * j)) H2) σ H
variable {a b : Expr} {ta tb : TE} {pos : Pos}
theorem pe_add (ha : PE X a ta) (hb : PE X b tb) : PE X (.BinOp a .Add b pos) (tAdd ta tb) := by
  intro pins s σ H Q I h
  refine wpAny_BinOp (bin ha hb I h fun v u s2 x y H2 I2 rx ry q => ?_)
  obtain ⟨i, j, rfl, rfl, q⟩ := q
  obtain ⟨t, rfl⟩ := rx
  obtain ⟨t', rfl⟩ := ry
  exact add_int ⟨.int _, H2, I2.tok _, ⟨_, rfl⟩, q⟩
theorem pe_sub (ha : PE X a ta) (hb : PE X b tb) : PE X (.BinOp a .Sub b pos) (tSub ta tb) := by
  intro pins s σ H Q I h
  refine wpAny_BinOp (bin ha hb I h fun v u s2 x y H2 I2 rx ry q => ?_)
  obtain ⟨i, j, rfl, rfl, q⟩ := q
  obtain ⟨t, rfl⟩ := rx
  obtain ⟨t', rfl⟩ := ry
  exact sub_int ⟨.int _, H2, I2.tok _, ⟨_, rfl⟩, q⟩
theorem pe_mul (ha : PE X a ta) (hb : PE X b tb) : PE X (.BinOp a .Mult b pos) (tMul ta tb) := by
  intro pins s σ H Q I h
  refine wpAny_BinOp (bin ha hb I h fun v u s2 x y H2 I2 rx ry q => ?_)
  obtain ⟨i, j, rfl, rfl, ⟨q1, q2⟩, q⟩ := q
  obtain ⟨t, rfl⟩ := rx
  obtain ⟨t', rfl⟩ := ry
  exact mul_int ⟨.int _, H2, I2.tok _, ⟨_, rfl⟩, q⟩ (.of_left (intBits_le_64 q1 q2))

/-! ### comparisons -/
def PC (X : Cx) (op : CmpOp) (a b : Expr) (t : TE) : Prop :=
  ∀ (pins : List (Addr × Obj)) (s : Shared) (σ : St) (H : Hp) (Q : VK), Inv X pins σ H s → t σ H Q →
    wpAny (model X.prog X.w) X.A (eval a X.env) (fun v s₁ => wpAny (model X.prog X.w) X.A (eval b X.env) (fun u s₂ => wpAny (model X.prog X.w) X.A (compareOp op v u) (EP X pins σ Q) X.xe s₂) X.xe s₁) X.xe s
theorem nobehind (b : Expr) {op : CmpOp} (h : op ≠ .In) (h2 : op ≠ .NotIn) : behindInMarks op b = false := by
  have e1 : (op == CmpOp.In) = false := by cases op <;> first | rfl | exact absurd rfl h
  have e2 : (op == CmpOp.NotIn) = false := by cases op <;> first | rfl | exact absurd rfl h2
  cases b <;> simp [behindInMarks, e1, e2]
def tCmp (p : Int → Int → Bool) (ta tb : TE) : TE := fun σ H Q => t2I ta tb (fun i j H2 => Q (.bl (p i j)) H2) σ H
abbrev tLt : TE → TE → TE := tCmp fun i j => decide (i < j)
abbrev tLe : TE → TE → TE := tCmp fun i j => decide (i ≤ j)
abbrev tGt : TE → TE → TE := tCmp fun i j => decide (j < i)
abbrev tGe : TE → TE → TE := tCmp fun i j => decide (j ≤ i)
abbrev tEqI : TE → TE → TE := tCmp fun i j => decide (i = j)
abbrev tNeI : TE → TE → TE := tCmp fun i j => !decide (i = j)
/-- a comparison of two ints, by its rule -/
theorem pc_int {op : CmpOp} {p : Int → Int → Bool} (ha : PE X a ta) (hb : PE X b tb)
    (rule : ∀ (i j : Int) (t u : Tok) (Q : Value → Shared → Prop) (s : Shared), Q (.bool (p i j)) s → wpAny (model X.prog X.w) X.A (compareOp op (.int i t) (.int j u)) Q X.xe s) : PC X op a b (tCmp p ta tb) := by
  intro pins s σ H Q I h
  refine bin ha hb I h fun v u s2 x y H2 I2 rx ry q => ?_
  obtain ⟨i, j, rfl, rfl, q⟩ := q
  obtain ⟨t, rfl⟩ := rx
  obtain ⟨t', rfl⟩ := ry
  exact rule i j t t' _ s2 ⟨.bl _, H2, I2, rfl, q⟩
theorem pc_lt (ha : PE X a ta) (hb : PE X b tb) : PC X .Lt a b (tLt ta tb) := pc_int ha hb fun _ _ _ _ _ _ h => lt_int h
theorem pc_le (ha : PE X a ta) (hb : PE X b tb) : PC X .LtE a b (tLe ta tb) := pc_int ha hb fun _ _ _ _ _ _ h => le_int h
theorem pc_gt (ha : PE X a ta) (hb : PE X b tb) : PC X .Gt a b (tGt ta tb) := pc_int ha hb fun _ _ _ _ _ _ h => gt_int h
theorem pc_ge (ha : PE X a ta) (hb : PE X b tb) : PC X .GtE a b (tGe ta tb) := pc_int ha hb fun _ _ _ _ _ _ h => ge_int h
theorem pc_eqI (ha : PE X a ta) (hb : PE X b tb) : PC X .Eq a b (tEqI ta tb) := pc_int ha hb fun _ _ _ _ _ _ h => eq_int (by rw [Bool.beq_eq_decide_eq]; exact h)
theorem pc_neI (ha : PE X a ta) (hb : PE X b tb) : PC X .NotEq a b (tNeI ta tb) := pc_int ha hb fun _ _ _ _ _ _ h => ne_int (by rw [bne, Bool.beq_eq_decide_eq]; exact h)
/-- is None -/
def tIsN (ta : TE) : TE := fun σ H Q => ta σ H fun x H1 => Q (.bl (decide (x = .non))) H1
def tNotN (ta : TE) : TE := fun σ H Q => ta σ H fun x H1 => Q (.bl (!decide (x = .non))) H1
theorem RelV.none_iff {x : V} {v : Value} (r : RelV x v) : (v == Value.none) = decide (x = .non) := by
  cases x with
  | non => cases r; rfl
  | bl _ => cases r; rfl
  | int _ => obtain ⟨t, rfl⟩ := r; rfl
  | str _ => obtain ⟨t, rfl⟩ := r; rfl
  | byt _ => obtain ⟨t, rfl⟩ := r; rfl
  | flt _ => obtain ⟨t, rfl⟩ := r; rfl
  | ref _ => cases r; rfl
  | ty _ => cases r; rfl
theorem pc_isN {j pos'} (ha : PE X a ta) : PC X .Is a (.Constant .none j pos') (tIsN ta) := by
  intro pins s σ H Q I h
  refine thn (ha pins s σ H _ I h) fun v s1 ⟨x, H1, I1, r1, q1⟩ => ?_
  exact Constant_none (is_none_gen ⟨.bl _, H1, I1, by rw [r1.none_iff]; rfl, q1⟩)
theorem pc_notN {j pos'} (ha : PE X a ta) : PC X .IsNot a (.Constant .none j pos') (tNotN ta) := by
  intro pins s σ H Q I h
  refine thn (ha pins s σ H _ I h) fun v s1 ⟨x, H1, I1, r1, q1⟩ => ?_
  exact Constant_none (isnot_none_gen ⟨.bl _, H1, I1, by rw [r1.none_iff]; rfl, q1⟩)
/-- a comparison as a value, as a test -/
def tB (t : TE) : TT := fun σ H Q => t σ H fun x H1 => ∃ c, x = .bl c ∧ Q c H1
theorem pe_cmp {op : CmpOp} {t : TE} (h : PC X op a b t) (h1 : behindInMarks op b = false := by first | exact nobehind _ (by decide) (by decide) | rfl) : PE X (.Compare a [op] [b] pos) t := fun pins s σ H Q I hw => wpAny_Compare1 (h pins s σ H Q I hw) h1
theorem pt_cmp {op : CmpOp} {t : TE} (h : PC X op a b t) (h1 : behindInMarks op b = false := by first | exact nobehind _ (by decide) (by decide) | rfl) : PT X (.Compare a [op] [b] pos) (tB t) := by
  intro pins s σ H Q I hw
  refine wpAny_isTrue_Compare1 (thn (h pins s σ H _ I hw) fun v s1 h1 => thn h1 fun u s2 h2 => thn h2 fun c s3 ⟨x, H1, I1, r1, q1⟩ => ?_) h1
  obtain ⟨d, rfl, q⟩ := q1
  cases r1
  exact wpAny_truthy_bool ⟨H1, I1, q⟩
/-- an expression whose value is a bool, as a test -/
theorem pt_val {e : Expr} {t : TE} (h : PE X e t) (he : ∀ whole, isTrue e X.env whole = (do let v ← whole; standAt e.pos; holding [v] (truthy v)) := by intro _; rfl) : PT X e (tB t) := by
  intro pins s σ H Q I hw
  refine isTrue_plain (thn (h pins s σ H _ I hw) fun v s1 ⟨x, H1, I1, r1, q1⟩ => ?_) (he _)
  obtain ⟨d, rfl, q⟩ := q1
  cases r1
  exact wpAny_truthy_bool ⟨H1, I1, q⟩

/-! ### and, or, not -/
variable {tA tB' : TT} {rest : List Expr}
def tAnd (t u : TT) : TT := fun σ H Q => t σ H fun c H1 => if c = true then u σ H1 Q else Q false H1
def tOr (t u : TT) : TT := fun σ H Q => t σ H fun c H1 => if c = true then Q true H1 else u σ H1 Q
def tNot (t : TT) : TT := fun σ H Q => t σ H fun c H1 => Q (!c) H1
theorem pw_and1 (ha : PT X a tA) : PW X (.BoolOp .And [a] pos) tA := by
  intro wh pins s σ H Q I h
  refine isTrue_and (thn (ha pins s σ H Q I h) fun c s1 e => ?_)
  cases c with
  | true => exact isTrue_and_nil e
  | false => exact e
theorem pw_or1 (ha : PT X a tA) : PW X (.BoolOp .Or [a] pos) tA := by
  intro wh pins s σ H Q I h
  refine isTrue_or (thn (ha pins s σ H Q I h) fun c s1 e => ?_)
  cases c with
  | false => exact isTrue_or_nil e
  | true => exact e
theorem pw_and (ha : PT X a tA) (hb : PW X (.BoolOp .And (b :: rest) pos) tB') : PW X (.BoolOp .And (a :: b :: rest) pos) (tAnd tA tB') := by
  intro wh pins s σ H Q I h
  refine isTrue_and (thn (ha pins s σ H _ I h) fun c s1 ⟨H1, I1, q1⟩ => ?_)
  cases c with
  | true => exact hb wh pins s1 σ H1 Q I1 q1
  | false => exact ⟨H1, I1, q1⟩
theorem pw_or (ha : PT X a tA) (hb : PW X (.BoolOp .Or (b :: rest) pos) tB') : PW X (.BoolOp .Or (a :: b :: rest) pos) (tOr tA tB') := by
  intro wh pins s σ H Q I h
  refine isTrue_or (thn (ha pins s σ H _ I h) fun c s1 ⟨H1, I1, q1⟩ => ?_)
  cases c with
  | true => exact ⟨H1, I1, q1⟩
  | false => exact hb wh pins s1 σ H1 Q I1 q1
theorem pt_not (ha : PT X a tA) : PT X (.UnaryOp .Not a pos) (tNot tA) := by
  intro pins s σ H Q I h
  exact isTrue_not (ha pins s σ H (fun c H1 => Q (!c) H1) I h)
/-- .. as values (bools) -/
def tAndV (ta tb : TE) : TE := fun σ H Q => ta σ H fun x H1 => ∃ c, x = .bl c ∧ if c = true then tb σ H1 Q else Q (.bl false) H1
def tOrV (ta tb : TE) : TE := fun σ H Q => ta σ H fun x H1 => ∃ c, x = .bl c ∧ if c = true then Q (.bl true) H1 else tb σ H1 Q
def tNotV (ta : TE) : TE := fun σ H Q => ta σ H fun x H1 => ∃ c, x = .bl c ∧ Q (.bl (!c)) H1
theorem pe_one {op} {t : TE} (h : PE X a t) : PE X (.BoolOp op [a] pos) t := fun pins s σ H Q I hw => BoolOp_one (h pins s σ H Q I hw)
theorem pe_and (ha : PE X a ta) (hb : PE X (.BoolOp .And (b :: rest) pos) tb) : PE X (.BoolOp .And (a :: b :: rest) pos) (tAndV ta tb) := by
  intro pins s σ H Q I h
  refine BoolOp_and (thn (ha pins s σ H _ I h) fun v s1 ⟨x, H1, I1, r1, q1⟩ => ?_)
  obtain ⟨c, rfl, q1⟩ := q1
  cases r1
  refine wpAny_truthy_bool ?_
  cases c with
  | true => exact hb pins s1 σ H1 Q I1 q1
  | false => exact ⟨.bl false, H1, I1, rfl, q1⟩
theorem pe_or (ha : PE X a ta) (hb : PE X (.BoolOp .Or (b :: rest) pos) tb) : PE X (.BoolOp .Or (a :: b :: rest) pos) (tOrV ta tb) := by
  intro pins s σ H Q I h
  refine BoolOp_or (thn (ha pins s σ H _ I h) fun v s1 ⟨x, H1, I1, r1, q1⟩ => ?_)
  obtain ⟨c, rfl, q1⟩ := q1
  cases r1
  refine wpAny_truthy_bool ?_
  cases c with
  | false => exact hb pins s1 σ H1 Q I1 q1
  | true => exact ⟨.bl true, H1, I1, rfl, q1⟩
theorem pe_not (ha : PE X a ta) : PE X (.UnaryOp .Not a pos) (tNotV ta) := by
  intro pins s σ H Q I h
  refine UnaryOp_ (thn (ha pins s σ H _ I h) fun v s1 ⟨x, H1, I1, r1, q1⟩ => ?_)
  obtain ⟨c, rfl, q1⟩ := q1
  cases r1
  exact not_of (wpAny_truthy_bool ⟨.bl (!c), H1, I1, rfl, q1⟩)
/-- a if t else b -/
def tIf (t : TT) (ta tb : TE) : TE := fun σ H Q => t σ H fun c H1 => if c = true then ta σ H1 Q else tb σ H1 Q
theorem pe_ifExp {c : Expr} (hc : PT X c tA) (ha : PE X a ta) (hb : PE X b tb) : PE X (.IfExp c a b pos) (tIf tA ta tb) := by
  intro pins s σ H Q I h
  refine wpAny_IfExp (thn (hc pins s σ H _ I h) fun d s1 ⟨H1, I1, q1⟩ => ?_)
  cases d with
  | true => exact ha pins s1 σ H1 Q I1 q1
  | false => exact hb pins s1 σ H1 Q I1 q1
end
end L2

namespace L2
open PySem PySem.Spec PyProof.Rows

/-! ### a list, a tuple that is read: tracked, frozen, or an object of the module -/
def SqL (K : PySem.W.Frag) (H : Hp) (a : Addr) (xs : List V) : Prop :=
  Rd H a (.lst xs) ∨
    ∃ (o : Obj) (its : Array Value) (n : Nat), K.lookup a = some o ∧ o.cls = .type "list" ∧ o.dict = none ∧ o.data = .seq its n ∧ its.size ≤ sizeLine ∧ Vals xs its.toList
def SqT (K : PySem.W.Frag) (H : Hp) (a : Addr) (xs : List V) : Prop :=
  Rd H a (.tup xs) ∨
    ∃ (o : Obj) (its : Array Value) (n : Nat), K.lookup a = some o ∧ o.cls = .type "tuple" ∧ o.data = .seq its n ∧ its.size ≤ sizeLine ∧ Vals xs its.toList
def absV : Value → Option V
  | .none => some .non
  | .bool b => some (.bl b)
  | .int i _ => some (.int i)
  | .str x _ => some (.str x)
  | .bytes b _ => some (.byt b)
  | .float b _ => some (.flt b)
  | .ref a => some (.ref a)
  | .type n => some (.ty n)
  | _ => none
theorem RelV.abs {x : V} {u : Value} (r : RelV x u) : absV u = some x := by
  cases x with
  | non => cases r; rfl
  | bl _ => cases r; rfl
  | int _ => obtain ⟨t, rfl⟩ := r; rfl
  | str _ => obtain ⟨t, rfl⟩ := r; rfl
  | byt _ => obtain ⟨t, rfl⟩ := r; rfl
  | flt _ => obtain ⟨t, rfl⟩ := r; rfl
  | ref _ => cases r; rfl
  | ty _ => cases r; rfl
theorem RelV.inj {x y : V} {u : Value} (r : RelV x u) (q : RelV y u) : x = y := Option.some.inj (r.abs.symm.trans q.abs)
theorem Vals.inj : ∀ {xs ys : List V} {us : List Value}, Vals xs us → Vals ys us → xs = ys
  | _, _, _, .nil, .nil => rfl
  | _, _, _, .cons r t, .cons r' t' => by rw [r.inj r', Vals.inj t t']
section
variable {X : Cx} {pins : List (Addr × Obj)} {σ : St} {H : Hp} {s : Shared} {a : Addr} {xs ys : List V}
theorem SqL.of {K : PySem.W.Frag} (h : H a = some (.lst xs)) : SqL K H a xs := .inl (.inl h)
theorem SqT.of {K : PySem.W.Frag} (h : H a = some (.tup xs)) : SqT K H a xs := .inl (.inl h)
theorem Inv.list (I : Inv X pins σ H s) (h : SqL X.K H a xs) : ∃ its : List Value, Vals xs its ∧ PlainL s.heap a its.toArray ∧ xs.length ≤ sizeLine := by
  rcases h with h | ⟨o, its, n, hk, hc, hd, hs, hz, r⟩
  · obtain ⟨z, its, n, r, e⟩ := h.ok I.hok
    exact ⟨its, r, ⟨_, n, e, rfl, rfl, rfl⟩, z⟩
  · refine ⟨its.toList, r, ⟨o, n, I.kIn a o hk, hc, hd, by simpa using hs⟩, ?_⟩
    have e := r.length
    simp only [Array.length_toList] at e
    omega
theorem Inv.tuple (I : Inv X pins σ H s) (h : SqT X.K H a xs) : ∃ its : List Value, Vals xs its ∧ IsTup s.heap a its.toArray ∧ xs.length ≤ sizeLine := by
  rcases h with h | ⟨o, its, n, hk, hc, hs, hz, r⟩
  · obtain ⟨z, its, r, p⟩ := h.ok I.hok
    exact ⟨its, r, p, z⟩
  · refine ⟨its.toList, r, ⟨o, I.kIn a o hk, hc, n, by simpa using hs⟩, ?_⟩
    have e := r.length
    simp only [Array.length_toList] at e
    omega
theorem Inv.list_inj (I : Inv X pins σ H s) (h : SqL X.K H a xs) (h' : SqL X.K H a ys) : xs = ys := by
  obtain ⟨its, r, ⟨o, n, e, _, _, d⟩, _⟩ := I.list h
  obtain ⟨its', r', ⟨o', n', e', _, _, d'⟩, _⟩ := I.list h'
  rw [e] at e'; cases e'
  rw [d] at d'
  injection d' with d1 _
  have : its = its' := by simpa using congrArg Array.toList d1
  subst this
  exact r.inj r'
theorem Inv.tuple_inj (I : Inv X pins σ H s) (h : SqT X.K H a xs) (h' : SqT X.K H a ys) : xs = ys := by
  obtain ⟨its, r, ⟨o, e, _, n, d⟩, _⟩ := I.tuple h
  obtain ⟨its', r', ⟨o', e', _, n', d'⟩, _⟩ := I.tuple h'
  rw [e] at e'; cases e'
  rw [d] at d'
  injection d' with d1 _
  have : its = its' := by simpa using congrArg Array.toList d1
  subst this
  exact r.inj r'
end

/-! ### another wish about exceptions -/
abbrev Cx.wish (X : Cx) (E : Value → Shared → Prop) : Cx := { X with xe := E }
/-- no exception leaves -/
abbrev Cx.nox (X : Cx) : Cx := X.wish fun _ _ => False
theorem Cx.Ok.wish {X : Cx} (ok : X.Ok) (E : Value → Shared → Prop) : (X.wish E).Ok :=
  ⟨ok.mod, ok.kind, ok.glob, ok.blt, ok.above, ok.inj, ok.has, ok.cab, ok.hd, ok.frames, ok.stk, ok.exf, ok.bs, ok.bsz, ok.noex, ok.exfs, ok.funs, ok.frf⟩
theorem Cx.Ok.unwish {X : Cx} {E : Value → Shared → Prop} (ok : (X.wish E).Ok) : X.Ok :=
  ⟨ok.mod, ok.kind, ok.glob, ok.blt, ok.above, ok.inj, ok.has, ok.cab, ok.hd, ok.frames, ok.stk, ok.exf, ok.bs, ok.bsz, ok.noex, ok.exfs, ok.funs, ok.frf⟩
section
variable {X : Cx} {pins : List (Addr × Obj)} {σ : St} {H : Hp} {s : Shared} {E : Value → Shared → Prop}
theorem Inv.wish (I : Inv X pins σ H s) (E : Value → Shared → Prop) : Inv (X.wish E) pins σ H s := ⟨I.ok.wish E, I.os, I.bare, I.base, I.loc, I.cell, I.free, I.freeC, I.pin, I.hok, I.len⟩
theorem Inv.unwish (I : Inv (X.wish E) pins σ H s) : Inv X pins σ H s := ⟨I.ok.unwish, I.os, I.bare, I.base, I.loc, I.cell, I.free, I.freeC, I.pin, I.hok, I.len⟩
theorem SP.unwish {D : Ends} {f : Flow} {s' : Shared} (h : SP (X.wish E) pins D f s') : SP X pins D f s' := by
  cases f with
  | next => obtain ⟨σ', H', I, q⟩ := h; exact ⟨σ', H', I.unwish, q⟩
  | brk => obtain ⟨σ', H', I, q⟩ := h; exact ⟨σ', H', I.unwish, q⟩
  | cont => obtain ⟨σ', H', I, q⟩ := h; exact ⟨σ', H', I.unwish, q⟩
  | ret u => obtain ⟨v, σ', H', I, r, q⟩ := h; exact ⟨v, σ', H', I.unwish, r, q⟩
theorem PE.nox {e : Expr} {t : TE} (h : PE X.nox e t) : PE X e t := fun pins s σ H Q I hw =>
  wpAny_mono (h pins s σ H Q (I.wish _) hw) (fun _ _ ⟨v, H', I', r, q⟩ => ⟨v, H', I'.unwish, r, q⟩) fun _ _ z => False.elim z
theorem PT.nox {e : Expr} {t : TT} (h : PT X.nox e t) : PT X e t := fun pins s σ H Q I hw =>
  wpAny_mono (h pins s σ H Q (I.wish _) hw) (fun _ _ ⟨H', I', q⟩ => ⟨H', I'.unwish, q⟩) fun _ _ z => False.elim z
theorem PSs.nox {st : List Stmt} {t : TS} (h : PSs X.nox st t) : PSs X st t := fun pins s σ H D I hw =>
  wpAny_mono (h pins s σ H D (I.wish _) hw) (fun _ _ q => q.unwish) fun _ _ z => False.elim z
end

/-! ### blocks and small statements -/
section
variable {X : Cx} {st : Stmt} {rest : List Stmt} {t u : TS} {e : Expr} {te : TE} {pos : Pos}
def tNext : TS := fun D σ H => D.nx σ H
def tSeq (t u : TS) : TS := fun D σ H => t { D with nx := u D } σ H
theorem pss_nil : PSs X [] tNext := fun _ _ σ H _ I h => wpAny_execs_nil ⟨σ, H, I, h⟩
theorem pss_cons (h1 : PS X st t) (h2 : PSs X rest u) : PSs X (st :: rest) (tSeq t u) := by
  intro pins s σ H D I h
  refine wpAny_execs_cons (thn (h1 pins s σ H { D with nx := u D } I h) fun f s1 q => ?_)
  cases f with
  | next =>
    obtain ⟨σ', H', I', q⟩ := q
    exact h2 pins s1 σ' H' D I' q
  | ret v => exact q
  | brk => exact q
  | cont => exact q
theorem pss_one (h1 : PS X st t) : PSs X [st] t := by
  intro pins s σ H D I h
  refine wpAny_execs_cons (thn (h1 pins s σ H D I h) fun f s1 q => ?_)
  cases f with
  | next => exact wpAny_execs_nil q
  | ret v => exact q
  | brk => exact q
  | cont => exact q
def tBreak : TS := fun D σ H => D.bk σ H
def tCont : TS := fun D σ H => D.ct σ H
theorem ps_pass : PS X (.Pass pos) tNext := fun _ _ σ H _ I h => wpAny_Pass ⟨σ, H, I, h⟩
theorem ps_break : PS X (.Break pos) tBreak := fun _ _ σ H _ I h => wpAny_Break ⟨σ, H, I, h⟩
theorem ps_continue : PS X (.Continue pos) tCont := fun _ _ σ H _ I h => wpAny_Continue ⟨σ, H, I, h⟩
/-- in a def's body nothing is shown -/
theorem Inv.quiet {pins : List (Addr × Obj)} {σ : St} {H : Hp} {s : Shared} (I : Inv X pins σ H s) : interactive X.env = false := by simp [interactive, I.ok.kind]
/-- a docstring -/
theorem ps_doc {x j pos pos'} : PS X (.Expr (.Constant (.str x) j pos) pos') tNext := fun _ s σ H _ I h => wpAny_Expr (Calls.Constant_str (show SP X _ _ .next { s with toks := s.toks + 1 } from ⟨σ, H, I.tok _, h⟩)) I.quiet
/-- an expression whose value is dropped -/
def tDrop (te : TE) : TS := fun D σ H => te σ H fun _ H1 => D.nx σ H1
theorem ps_expr (he : PE X e te) (hs : swapsWith e none pos.line X.env = pure false := by rfl) : PS X (.Expr e pos) (tDrop te) := by
  intro pins s σ H D I h
  exact wpAny_Expr_any (thn (he pins s σ H _ I h) fun v s1 ⟨x, H1, I1, r1, q1⟩ => ⟨σ, H1, I1, q1⟩) I.quiet hs
def tRet (te : TE) : TS := fun D σ H => te σ H D.rt
theorem ps_ret (he : PE X e te) : PS X (.Return (some e) pos) (tRet te) := by
  intro pins s σ H D I h
  exact wpAny_Return_some (thn (he pins s σ H _ I h) fun v s1 ⟨x, H1, I1, r1, q1⟩ => ⟨x, σ, H1, I1, r1, q1⟩)
def tRetN : TS := fun D _ H => D.rt .non H
theorem ps_retN : PS X (.Return none pos) tRetN := fun _ _ σ H _ I h => wpAny_Return_none ⟨.non, σ, H, I, rfl, h⟩
def tIfS (c : TT) (t u : TS) : TS := fun D σ H => c σ H fun b H1 => if b = true then t D σ H1 else u D σ H1
theorem ps_if {c : Expr} {a b : List Stmt} {tc : TT} (hc : PT X c tc) (ha : PSs X a t) (hb : PSs X b u) : PS X (.If c a b pos) (tIfS tc t u) := by
  intro pins s σ H D I h
  refine wpAny_If (thn (hc pins s σ H _ I h) fun d s1 ⟨H1, I1, q1⟩ => ?_)
  cases d with
  | true => exact ha pins s1 σ H1 D I1 q1
  | false => exact hb pins s1 σ H1 D I1 q1
/-- code that the proof never comes to -/
def tNever : TS := fun _ _ _ => False
theorem ps_never : PS X st tNever := fun _ _ _ _ _ _ h => h.elim
theorem pss_never {sts : List Stmt} : PSs X sts tNever := fun _ _ _ _ _ _ h => h.elim
end

/-! ### targets -/
abbrev TG := V → St → Hp → (St → Hp → Prop) → Prop
abbrev TGs := List V → St → Hp → (St → Hp → Prop) → Prop
def PG (X : Cx) (target : Expr) (t : TG) : Prop :=
  ∀ (pins : List (Addr × Obj)) (s : Shared) (σ : St) (H : Hp) (v : V) (u : Value) (Q : St → Hp → Prop), Inv X pins σ H s → RelV v u → t v σ H Q →
    wpAny (model X.prog X.w) X.A (assign target X.env u) (fun _ s' => ∃ σ' H', Inv X pins σ' H' s' ∧ Q σ' H') X.xe s
/-- several targets, one after another -/
def PGs (X : Cx) (ts : List Expr) (t : TGs) : Prop :=
  ∀ (pins : List (Addr × Obj)) (s : Shared) (σ : St) (H : Hp) (vs : List V) (us : List Value) (Q : St → Hp → Prop), Inv X pins σ H s → Vals vs us → t vs σ H Q →
    wpAny (model X.prog X.w) X.A (assignInOrder ((assignEach ts X.env).map (·.2)) us) (fun _ s' => ∃ σ' H', Inv X pins σ' H' s' ∧ Q σ' H') X.xe s
/-- o[i] = v, by values -/
abbrev TSet := V → V → V → Hp → (Hp → Prop) → Prop
def PSet (X : Cx) (t : TSet) : Prop :=
  ∀ (pins : List (Addr × Obj)) (s : Shared) (σ : St) (H : Hp) (o i v : V) (ov iv u : Value) (Q : Hp → Prop), Inv X pins σ H s → RelV o ov → RelV i iv → RelV v u → t o i v H Q →
    wpAny (model X.prog X.w) X.A (setItem ov iv u) (fun _ s' => ∃ H', Inv X pins σ H' s' ∧ Q H') X.xe s
/-- a op= b, by values -/
abbrev TIp := V → V → Hp → VK → Prop
def PIp (X : Cx) (op : Operator) (t : TIp) : Prop :=
  ∀ (pins : List (Addr × Obj)) (s : Shared) (σ : St) (H : Hp) (x y : V) (v u : Value) (Q : VK), Inv X pins σ H s → RelV x v → RelV y u → t x y H Q →
    wpAny (model X.prog X.w) X.A (inplaceOp op v u) (EP X pins σ Q) X.xe s
section
variable {X : Cx} {pos : Pos}
def gName (i : Nat) : TG := fun v σ H Q => Q (σ.set i (some v)) H
theorem pg_name {i : Nat} {x : Str} (hN : X.N.Nodup) (hi : X.N[i]? = some x) (hx : Loc X.env.scope x) (hf : X.fn x = true ∨ X.env.scope.names.lookup x = some .local := by first | exact .inl rfl | exact .inr rfl | assumption) : PG X (.Name x pos) (gName i) := by
  intro pins s σ H v u Q I r h
  exact wpAny_assign_Name (store_ok I hN hi hx r (fun s' I' => ⟨_, H, I', h⟩) hf)
def gNil : TGs := fun vs σ H Q => vs = [] ∧ Q σ H
def gCons (t : TG) (u : TGs) : TGs := fun vs σ H Q => ∃ v r, vs = v :: r ∧ t v σ H fun σ' H' => u r σ' H' Q
theorem pgs_nil : PGs X [] gNil := by
  intro pins s σ H vs us Q I r h
  obtain ⟨e, h⟩ := h
  subst e
  cases r
  exact assignInOrder_nil ⟨σ, H, I, h⟩
theorem pgs_cons {e : Expr} {es : List Expr} {t : TG} {u : TGs} (h1 : PG X e t) (h2 : PGs X es u)
    (hs : (assignEach (e :: es) X.env).map (·.2) = assign e X.env :: (assignEach es X.env).map (·.2) := by rfl) : PGs X (e :: es) (gCons t u) := by
  intro pins s σ H vs us Q I r h
  obtain ⟨v, vr, e1, h⟩ := h
  subst e1
  cases r with
  | cons r rr =>
    rw [hs]
    refine assignInOrder_cons (thn (h1 pins s σ H _ _ _ I r h) fun _ s1 ⟨σ1, H1, I1, q1⟩ => ?_)
    exact h2 pins s1 σ1 H1 _ _ Q I1 rr q1
/-- (a, b, ..) = a tuple of that length -/
def gTup (K : PySem.W.Frag) (n : Nat) (t : TGs) : TG := fun v σ H Q => ∃ a xs, v = .ref a ∧ SqT K H a xs ∧ xs.length = n ∧ t xs σ H Q
theorem pg_tup {es : List Expr} {k : Nat} {t : TGs} {n : Nat} (hc : X.calm = true) (h : PGs X es t)
    (hn : (assignEach es X.env).length = n := by rfl) (hst : (assignEach es X.env).findIdx? (·.1) = none := by rfl) : PG X (.Tuple es k pos) (gTup X.K n t) := by
  intro pins s σ H v u Q I r hw
  obtain ⟨a, xs, e1, hq, hl, hw⟩ := hw
  subst e1
  cases r
  obtain ⟨its, rv, ht, hz⟩ := I.tuple hq
  refine assign_Tuple_tuple (I.ok.hd hc) ht (by simp [hn, ← hl, rv.length]) hst fun h' hx => ?_
  have I1 : Inv X pins σ H { s with heap := h' } := I.kept (t' := s.toks) fun b o e => hx b o (Nat.ne_of_lt (Heap.lt_size e)) e
  exact h pins _ σ H xs _ Q I1 (by simpa using rv) hw
/-- o[i] = .. -/
def gSub (to ti : TE) (t : TSet) : TG := fun v σ H Q => to σ H fun o H1 => ti σ H1 fun i H2 => t o i v H2 fun H3 => Q σ H3
theorem pg_sub {o i : Expr} {to ti : TE} {t : TSet} (ho : PE X o to) (hi : PE X i ti) (hs : PSet X t)
    (ha : ∀ v, assign (.Subscript o i pos) X.env v = (do
      let ov ← holding [v] (eval o X.env)
      let iv ← holding [v, ov] (eval i X.env)
      standAt pos
      holding [v, ov, iv] (setItem ov iv v)
      release [v, ov, iv] []) := by intro _; rfl) : PG X (.Subscript o i pos) (gSub to ti t) := by
  intro pins s σ H v u Q I r h
  rw [ha]
  refine wpAny_bind (wpAny_holding (thn (ho pins s σ H _ I h) fun ov s1 ⟨x, H1, I1, r1, q1⟩ => ?_))
  refine wpAny_bind (wpAny_holding (thn (hi pins s1 σ H1 _ I1 q1) fun iv s2 ⟨y, H2, I2, r2, q2⟩ => ?_))
  refine wpAny_bind (wpAny_standAt (wpAny_bind (wpAny_holding (thn (hs pins s2 σ H2 x y v ov iv u _ I2 r1 r2 r q2) fun _ s3 ⟨H3, I3, q3⟩ => ?_))))
  exact wpAny_release ⟨σ, H3, I3, q3⟩
/-- target = value -/
def tAsg (te : TE) (g : TG) : TS := fun D σ H => te σ H fun x H1 => g x σ H1 D.nx
theorem ps_asg {tg e : Expr} {te : TE} {g : TG} (he : PE X e te) (hg : PG X tg g) (hs : swapsWithSole [tg] e pos.line X.env = pure false := by rfl) (hw : swappedStores [tg] e X.env = pure none := by rfl)
    (h1 : (assignEach [tg] X.env).map (·.2) = [assign tg X.env] := by rfl) : PS X (.Assign [tg] e pos) (tAsg te g) := by
  intro pins s σ H D I h
  refine wpAny_Assign_stores (thn (he pins s σ H _ I h) fun v s1 ⟨x, H1, I1, r1, q1⟩ => ?_) hs hw
  rw [h1]
  exact thn (hg pins s1 σ H1 x v _ I1 r1 q1) fun _ s2 q => q
/-- name = value -/
theorem ps_set {i : Nat} {x : Str} {e : Expr} {te : TE} {pos' : Pos} (hN : X.N.Nodup) (hi : X.N[i]? = some x) (hx : Loc X.env.scope x) (he : PE X e te) (hs : swapsWith e (some (.Name x pos')) pos.line X.env = pure false := by rfl) (hf : X.fn x = true ∨ X.env.scope.names.lookup x = some .local := by first | exact .inl rfl | exact .inr rfl | assumption) :
    PS X (.Assign [.Name x pos'] e pos) (tAsg te (gName i)) := by
  intro pins s σ H D I h
  refine wpAny_Assign_Name (thn (he pins s σ H _ I h) fun v s1 ⟨y, H1, I1, r1, q1⟩ => ?_) hs
  exact store_ok I1 hN hi hx r1 (fun s2 I2 => ⟨_, H1, I2, q1⟩) hf
/-- a, b = x, y with plain local names: stored from the right; the pair itself is not tracked (the opening rows as in PyProof/Rows/TupAssign.lean:23) -/
def tPar (i j : Nat) (ta : TA) : TS := fun D σ H => ta σ H fun vs H1 => ∃ v w, vs = [v, w] ∧ D.nx ((σ.set i (some v)).set j (some w)) H1
theorem ps_par {i j : Nat} {x y : Str} {a b : Expr} {ta : TA} {px py pt : Pos} {kt k2 pt2} (hc : X.calm = true) (hN : X.N.Nodup) (hi : X.N[i]? = some x) (hj : X.N[j]? = some y) (hij : i ≠ j)
    (hx : X.env.scope.names.lookup x = some .local) (hy : X.env.scope.names.lookup y = some .local) (ha : PA X [a, b] ta)
    (hw : swappedStores [.Tuple [.Name x px, .Name y py] kt pt] (.Tuple [a, b] k2 pt2) X.env = pure (some [x, y]))
    (hs : swapsWithSole [.Tuple [.Name x px, .Name y py] kt pt] (.Tuple [a, b] k2 pt2) pos.line X.env = pure false := by rfl) :
    PS X (.Assign [.Tuple [.Name x px, .Name y py] kt pt] (.Tuple [a, b] k2 pt2) pos) (tPar i j ta) := by
  intro pins s σ H D I h
  rw [exec_Assign_arm]
  refine wpAny_bind (wpAny_standAt ?_)
  rw [hs]
  refine wpAny_bind (wpAny_pure ?_)
  rw [if_neg (by decide)]
  refine wpAny_bind (Tuple_ (thn (ha _ pins s σ H _ I h) fun us s1 ⟨vs, H1, I1, r1, q1⟩ => ?_))
  obtain ⟨v, w, e1, q1⟩ := q1
  subst e1
  obtain ⟨u1, u2, rfl, rv, rw'⟩ : ∃ u1 u2, us = [u1, u2] ∧ RelV v u1 ∧ RelV w u2 := by
    cases r1 with
    | cons p q =>
      cases q with
      | cons p' q' =>
        cases q'
        exact ⟨_, _, rfl, p, p'⟩
  refine wpAny_newObj_type ?_ (by show 2 ≤ sizeLine; decide)
  have I2 : Inv X pins σ H1 { s1 with heap := s1.heap.push { cls := .type "tuple", data := .seq [u1, u2].toArray } } := I1.kept (t' := s1.toks) fun b o e => Heap.get?_push_of_some _ e
  rw [hw]
  refine wpAny_bind (wpAny_pure ?_)
  show wpAny (model X.prog X.w) X.A (do rule "assign.swapped-stores"; let items ← unpackItems (.ref s1.heap.objs.size) 2 none; assignInOrder [fun v => bindName X.env y v, fun v => bindName X.env x v] items.reverse; pure Flow.next) _ _ _
  refine wpAny_bind (wpAny_rule (wpAny_bind (unpackItems_tuple (items := #[u1, u2]) (I.ok.hd hc) (IsTup.new s1.heap _) fun h' hx' => ?_)))
  have I3 := I2.kept (h' := h') (t' := s1.toks) fun b o e => hx' b o (Nat.ne_of_lt (Heap.lt_size e)) e
  show wpAny _ _ (assignInOrder [fun v => bindName X.env y v, fun v => bindName X.env x v] [u2, u1] >>= fun _ => pure Flow.next) _ _ _
  refine wpAny_bind (assignInOrder_cons (wpAny_bindName (store_ok I3 hN hj (.inl hy) rw' (fun s2 I4 => ?_) (.inr hy))))
  refine assignInOrder_cons (wpAny_bindName (store_ok I4 hN hi (.inl hx) rv (fun s3 I5 => assignInOrder_nil (wpAny_pure ?_)) (.inr hx)))
  rw [List.set_comm _ _ (Ne.symm hij)] at I5
  exact ⟨_, H1, I5, q1⟩
/-- name op= e -/
def tAug (i : Nat) (te : TE) (ti : TIp) : TS := fun D σ H => ∃ x, σ[i]? = some (some x) ∧ te σ H fun y H1 => ti x y H1 fun z H2 => D.nx (σ.set i (some z)) H2
theorem ps_aug {i : Nat} {x : Str} {e : Expr} {te : TE} {op : Operator} {ti : TIp} {pos' : Pos} (hN : X.N.Nodup) (hi : X.N[i]? = some x) (hx : Loc X.env.scope x) (he : PE X e te) (ho : PIp X op ti) (hf : X.fn x = true ∨ X.env.scope.names.lookup x = some .local := by first | exact .inl rfl | exact .inr rfl | assumption) :
    PS X (.AugAssign (.Name x pos') op e pos) (tAug i te ti) := by
  intro pins s σ H D I h
  obtain ⟨v, e1, h⟩ := h
  obtain ⟨m, hn, hl⟩ := I.loc
  have vis : Vis X.env.scope x := by rcases hx with k | k; exact .inl k; exact .inr (.inl k)
  obtain ⟨u, r, l⟩ := hl i x v hi e1 vis
  refine wpAny_AugAssign_Name ?_
  have go : wpAny (model X.prog X.w) X.A (eval e X.env) (fun w s₂ => wpAny (model X.prog X.w) X.A (inplaceOp op u w) (fun r s₃ => wpAny (model X.prog X.w) X.A (storeName X.env x r) (fun _ => SP X pins D .next) X.xe s₃) X.xe s₂) X.xe s := by
    refine thn (he pins s σ H _ I h) fun w s1 ⟨y, H1, I1, r1, q1⟩ => ?_
    refine thn (ho pins s1 σ H1 v y u w _ I1 r r1 q1) fun z s2 ⟨zv, H2, I2, r2, q2⟩ => ?_
    exact store_ok I2 hN hi hx r2 (fun s3 I3 => ⟨_, H2, I3, q2⟩) hf
  rcases l with ⟨hk, hm⟩ | ⟨hk, c, hc, hcell⟩
  · exact wpAny_loadName_local I.ok.kind hk hn hm go
  · rcases hk with hk | hk
    · exact wpAny_loadName_cell I.ok.kind hk hc hcell go
    · rcases hx with k | k
      · have : X.env.scope.names.lookup x = some .free := hk
        rw [k] at this; cases this
      · have : X.env.scope.names.lookup x = some .free := hk
        rw [k] at this; cases this
/-- o[i] op= e -/
def tAugS (to ti te : TE) (tget : V → V → Hp → VK → Prop) (tip : TIp) (tset : TSet) : TS := fun D σ H => to σ H fun o H1 => ti σ H1 fun i H2 => tget o i H2 fun x H3 => te σ H3 fun y H4 => tip x y H4 fun z H5 => tset o i z H5 fun H6 => D.nx σ H6
/-- o[i], by values -/
def PGet (X : Cx) (t : V → V → Hp → VK → Prop) : Prop :=
  ∀ (pins : List (Addr × Obj)) (s : Shared) (σ : St) (H : Hp) (o i : V) (ov iv : Value) (Q : VK), Inv X pins σ H s → RelV o ov → RelV i iv → t o i H Q →
    wpAny (model X.prog X.w) X.A (getItem ov iv) (EP X pins σ Q) X.xe s
theorem ps_augS {o i e : Expr} {to ti te : TE} {tget : V → V → Hp → VK → Prop} {tip : TIp} {tset : TSet} {op : Operator} {tpos : Pos} (ho : PE X o to) (hi : PE X i ti) (hg : PGet X tget) (he : PE X e te) (hp : PIp X op tip) (hs : PSet X tset)
    (ha : ∀ ov iv new, augStore i ov iv new = (do holding [new, ov, iv] (setItem ov iv new); release [new, ov, iv] []; pure .next) := by intros; rfl) : PS X (.AugAssign (.Subscript o i tpos) op e pos) (tAugS to ti te tget tip tset) := by
  intro pins s σ H D I h
  refine wpAny_AugAssign_SubscriptAny (thn (ho pins s σ H _ I h) fun ov s1 ⟨x1, H1, I1, r1, q1⟩ => ?_) ha
  refine thn (hi pins s1 σ H1 _ I1 q1) fun iv s2 ⟨x2, H2, I2, r2, q2⟩ => ?_
  refine thn (hg pins s2 σ H2 x1 x2 ov iv _ I2 r1 r2 q2) fun old s3 ⟨x3, H3, I3, r3, q3⟩ => ?_
  refine thn (he pins s3 σ H3 _ I3 q3) fun v s4 ⟨x4, H4, I4, r4, q4⟩ => ?_
  refine thn (hp pins s4 σ H4 x3 x4 old v _ I4 r3 r4 q4) fun new s5 ⟨x5, H5, I5, r5, q5⟩ => ?_
  exact thn (hs pins s5 σ H5 x1 x2 x5 ov iv new _ I5 r1 r2 r5 q5) fun _ s6 ⟨H6, I6, q6⟩ => ⟨σ, H6, I6, q6⟩
/-- ints -/
def ipI (f : Int → Int → Int) : TIp := fun x y H Q => ∃ i j, x = .int i ∧ y = .int j ∧ Q (.int (f i j)) H
theorem ip_add : PIp X .Add (ipI fun i j => i + j) := by
  intro pins s σ H x y v u Q I r1 r2 h
  obtain ⟨i, j, e1, e2, q⟩ := h
  subst e1; subst e2
  obtain ⟨t, rfl⟩ := r1
  obtain ⟨t', rfl⟩ := r2
  exact iadd_int ⟨.int _, H, I.tok _, ⟨_, rfl⟩, q⟩
theorem ip_sub : PIp X .Sub (ipI fun i j => i - j) := by
  intro pins s σ H x y v u Q I r1 r2 h
  obtain ⟨i, j, e1, e2, q⟩ := h
  subst e1; subst e2
  obtain ⟨t, rfl⟩ := r1
  obtain ⟨t', rfl⟩ := r2
  exact isub_int ⟨.int _, H, I.tok _, ⟨_, rfl⟩, q⟩
end

/-! ### while -/
section
variable {X : Cx} {pos : Pos}
/-- the invariant W with its measure -/
def tWhile (c : TT) (tb : TS) : TS := fun D σ H => ∃ W : Nat → St → Hp → Prop, (∃ m, W m σ H) ∧ ∀ m σ H, W m σ H →
  c σ H fun b H1 => if b = true then ∃ N : St → Hp → Prop, (∀ σ' H', N σ' H' → ∃ m', m' < m ∧ W m' σ' H') ∧ tb { D with nx := N, ct := N, bk := D.nx } σ H1 else D.nx σ H1
theorem ps_while {c : Expr} {body : List Stmt} {tc : TT} {tb : TS} (hp : PassesOwn (model X.prog X.w) X.A X.env X.xe) (hc : PT X c tc) (hb : PSs X body tb) : PS X (.While c body [] pos) (tWhile tc tb) := by
  intro pins s σ H D I h
  obtain ⟨W, ⟨m0, w0⟩, turn⟩ := h
  refine wpAny_While (codeAny_whileLoop (fun n s' => ∃ σ' H', Inv X pins σ' H' s' ∧ W n σ' H') ?_ m0 ⟨σ, H, I, w0⟩)
  rintro n s1 ⟨σ1, H1, I1, w1⟩
  refine wpAny_passesOwn hp (thn (hc pins s1 σ1 H1 _ I1 (turn n σ1 H1 w1)) fun b s2 ⟨H2, I2, q2⟩ => ?_)
  cases b with
  | true =>
    obtain ⟨N, hN, q2⟩ := q2
    rw [if_pos rfl]
    refine wpAny_passesOwn hp (thn (hb pins s2 σ1 H2 _ I2 q2) fun f s3 q3 => ?_)
    cases f with
    | next =>
      obtain ⟨σ3, H3, I3, n3⟩ := q3
      obtain ⟨m', hm, w3⟩ := hN σ3 H3 n3
      exact ⟨m', hm, σ3, H3, I3, w3⟩
    | cont =>
      obtain ⟨σ3, H3, I3, n3⟩ := q3
      obtain ⟨m', hm, w3⟩ := hN σ3 H3 n3
      exact ⟨m', hm, σ3, H3, I3, w3⟩
    | brk => exact q3
    | ret v => exact q3
  | false =>
    rw [if_neg Bool.false_ne_true]
    exact wpAny_execs_nil ⟨σ1, H2, I2, q2⟩
end

/-! ### what a loop or a comprehension walks -/
/-- at turn i: it yields x (the heap may grow), or it stops -/
structure It where
  go : Nat → Hp → Prop
  yld : Nat → Hp → V → Hp → Prop
  stop : Nat → Hp → Prop
/-- the iterator's own objects may turn: they are not the frame's, not pinned, younger than the entry (or a comprehension's own) -/
def FpOk (X : Cx) (pins : List (Addr × Obj)) (H : Hp) (b : Addr) : Prop :=
  H b = none ∧ b ≠ X.env.locals ∧ b ∉ X.fs ∧ (b ∈ X.ex ∨ X.s₀.heap.objs.size ≤ b) ∧ (∀ x c, X.env.cells.lookup x = some c → c ≠ b) ∧ ∀ p ∈ X.pn ++ pins, p.1 ≠ b
theorem Inv.fpOk {X : Cx} {pins : List (Addr × Obj)} {σ : St} {H H' : Hp} {s : Shared} {b : Addr} (I : Inv X pins σ H s) (hb : s.heap.objs.size ≤ b) (hn : H' b = none) : FpOk X pins H' b := by
  refine ⟨hn, Nat.ne_of_gt (Nat.lt_of_lt_of_le I.lt hb), I.nofs hb, .inr (Nat.le_trans I.sz hb), fun x c e z => ?_, fun p hp z => ?_⟩
  · obtain ⟨v, q⟩ := I.cell x c e
    exact absurd (Nat.lt_of_lt_of_le q.lt (by rw [z]; exact hb)) (Nat.lt_irrefl _)
  · exact absurd (Nat.lt_of_lt_of_le (Heap.lt_size (I.pin p hp).1) (by rw [z]; exact hb)) (Nat.lt_irrefl _)
structure Turn (P : Program) (w : World) (K : PySem.W.Frag) (tg : Expr) (J : It) (fp : List Addr) (it : Addr) (tn : Nat → Heap → Prop) : Prop where
  mem : it ∈ fp
  obj : ∀ i h, tn i h → ∀ b ∈ fp, ∃ o, h.get? b = some o ∧ ∀ v, o.data ≠ .cell v
  keep : ∀ i h h', tn i h → (∀ b ∈ fp, ∀ o, h.get? b = some o → h'.get? b = some o) → tn i h'
  item : ∀ (X : Cx), X.prog = P → X.w = w → X.K = K → X.calm = true → ∀ (i : Nat) (pins : List (Addr × Obj)) (s : Shared) (σ : St) (H : Hp) (E : Value → Shared → Prop), Inv X pins σ H s → (∀ b ∈ fp, FpOk X pins H b) → tn i s.heap → J.go i H →
    wpAny (model P w) X.A (pyNext (.ref it)) (fun r s1 => ∃ u, r = some u ∧
      wpAny (model P w) X.A (letOwnedTupleGo tg (.ref it) u) (fun _ s2 => ∃ x H', Inv X pins σ H' s2 ∧ RelV x u ∧ J.yld i H x H' ∧ tn (i + 1) s2.heap ∧ ∀ b ∈ fp, H' b = none) E s1) E s
  done : ∀ (X : Cx), X.prog = P → X.w = w → X.K = K → X.calm = true → ∀ (i : Nat) (pins : List (Addr × Obj)) (s : Shared) (σ : St) (H : Hp) (E : Value → Shared → Prop), Inv X pins σ H s → (∀ b ∈ fp, FpOk X pins H b) → tn i s.heap → J.stop i H →
    wpAny (model P w) X.A (pyNext (.ref it)) (fun r s1 => r = none ∧ Inv X pins σ H s1) E s
  self : ∀ (A : Around) (i : Nat) (s : Shared) (Q : Value → Shared → Prop) (E : Value → Shared → Prop), tn i s.heap → Q (.ref it) s → wpAny (model P w) A (pyIter (.ref it)) Q E s
abbrev TI := St → Hp → (It → Hp → Prop) → Prop
/-- an iterator has come -/
def PIE (X : Cx) (pins : List (Addr × Obj)) (σ : St) (tg : Expr) (R : It → Hp → Prop) (itv : Value) (s2 : Shared) : Prop :=
  ∃ (it : Addr) (fp : List Addr) (tn : Nat → Heap → Prop) (J : It) (H' : Hp), itv = .ref it ∧ Inv X pins σ H' s2 ∧ Turn X.prog X.w X.K tg J fp it tn ∧ tn 0 s2.heap ∧ (∀ b ∈ fp, FpOk X pins H' b) ∧ R J H'
def PI (X : Cx) (tg iter : Expr) (wi : TI) : Prop :=
  ∀ (pins : List (Addr × Obj)) (s : Shared) (σ : St) (H : Hp) (R : It → Hp → Prop), Inv X pins σ H s → wi σ H R →
    wpAny (model X.prog X.w) X.A (eval iter X.env) (fun v s1 => wpAny (model X.prog X.w) X.A (pyIter v) (PIE X pins σ tg R) X.xe s1) X.xe s

/-- the step ahead of the store is nothing for an iterator that keeps no tuple -/
theorem go_of {M : Model} {A : Around} {E : Value → Shared → Prop} {s : Shared} {tg : Expr} {it : Addr} {u : Value} {o : Obj} {n : String} {vs : Array Value} {Q : Unit → Shared → Prop} (ho : s.heap.get? it = some o) (hc : o.cls = .type n) (hd : o.data = .fields vs)
    (hn : ["enumerate", "zip", "dict_itemiterator", "dict_reverseitemiterator", "odict_iterator", "itertools.zip_longest", "itertools.pairwise"].contains n = false) (hQ : Q () s) : wpAny M A (letOwnedTupleGo tg (.ref it) u) Q E s := by
  unfold letOwnedTupleGo
  cases tg <;> first
    | exact wpAny_pure hQ
    | (cases u <;> first
        | exact wpAny_pure hQ
        | (refine wpAny_bind (wpAny_load ho ?_)
           rw [hc, hd]
           show wpAny M A (if (["enumerate", "zip", "dict_itemiterator", "dict_reverseitemiterator", "odict_iterator", "itertools.zip_longest", "itertools.pairwise"].contains n && vs[0]? == some (rawInt _)) = true then _ else _) Q E s
           rw [if_neg (by intro h; rw [hn, Bool.false_and] at h; cases h)]
           exact wpAny_pure hQ))

/-- the list at a, as it stands at each turn (a loop may append to it) -/
def Itl (K : PySem.W.Frag) (a : Addr) : It :=
  ⟨fun i H => ∃ xs x, SqL K H a xs ∧ xs[i]? = some x, fun i H x H' => H' = H ∧ ∀ xs, SqL K H a xs → xs[i]? = some x, fun i H => ∃ xs, SqL K H a xs ∧ xs.length ≤ i⟩
def Itt (K : PySem.W.Frag) (a : Addr) : It :=
  ⟨fun i H => ∃ xs x, SqT K H a xs ∧ xs[i]? = some x, fun i H x H' => H' = H ∧ ∀ xs, SqT K H a xs → xs[i]? = some x, fun i H => ∃ xs, SqT K H a xs ∧ xs.length ≤ i⟩
/-- lo, lo + 1, .. (n of them) -/
def Itr (lo : Int) (n : Nat) : It := ⟨fun i _ => i < n, fun i H x H' => H' = H ∧ x = .int (lo + i), fun i _ => n ≤ i⟩
theorem turn_list {P : Program} {w : World} {K : PySem.W.Frag} {tg : Expr} (a it : Addr) : Turn P w K tg (Itl K a) [it] it (fun i h => h.IsListIter it a i) where
  mem := by simp
  obj := fun i h st b hb => by
    have e : b = it := by simpa using hb
    subst e
    obtain ⟨o, e, c, d⟩ := st
    exact ⟨o, e, fun v z => by rw [d] at z; cases z⟩
  keep := fun i h h' st k => st.at fun o e => k it (by simp) o e
  item := by
    intro X hP hw hK hc i pins s σ H E I hf st hg
    subst hP hw hK
    obtain ⟨xs, x, hq, hx⟩ := hg
    obtain ⟨its, rv, p, hz⟩ := I.list hq
    obtain ⟨u, hu, ru⟩ := rv.get hx
    obtain ⟨f0, f1, f2, f3, f4, f5⟩ := hf it (by simp)
    refine wpAny_pyNext_list_item st p.isList (x := u) (by simpa using hu) fun h' st' sb => ?_
    have I1 : Inv X pins σ H { s with heap := h' } := I.turned (t' := s.toks) (fun b o hb e => (sb.2 b hb).trans e) f0 f1 f3 f4 f5
    obtain ⟨o, e, c, d⟩ := id st'
    exact ⟨u, rfl, go_of (s := { s with heap := h' }) e c d (by decide) ⟨x, H, I1, ru, ⟨rfl, fun ys hy => by rw [I.list_inj hy hq]; exact hx⟩, st', fun b hb => (hf b hb).1⟩⟩
  done := by
    intro X hP hw hK hc i pins s σ H E I hf st hg
    subst hP hw hK
    obtain ⟨xs, hq, hx⟩ := hg
    obtain ⟨its, rv, p, hz⟩ := I.list hq
    obtain ⟨f0, f1, f2, f3, f4, f5⟩ := hf it (by simp)
    have hl := rv.length
    exact wpAny_pyNext_list_end (I.ok.hd hc) st p.isList (by simp; omega) fun h' eb => ⟨rfl, I.turned (t' := s.toks) (fun b o hb e => eb b o hb e) f0 f1 f3 f4 f5⟩
  self := fun _ _ _ _ _ st h => wpAny_pyIter_listiter st h
theorem turn_tuple {P : Program} {w : World} {K : PySem.W.Frag} {tg : Expr} (a it : Addr) : Turn P w K tg (Itt K a) [it] it (fun i h => h.IsTupleIter it a i) where
  mem := by simp
  obj := fun i h st b hb => by
    have e : b = it := by simpa using hb
    subst e
    obtain ⟨o, e, c, d⟩ := st
    exact ⟨o, e, fun v z => by rw [d] at z; cases z⟩
  keep := fun i h h' st k => st.at fun o e => k it (by simp) o e
  item := by
    intro X hP hw hK hc i pins s σ H E I hf st hg
    subst hP hw hK
    obtain ⟨xs, x, hq, hx⟩ := hg
    obtain ⟨its, rv, p, hz⟩ := I.tuple hq
    obtain ⟨u, hu, ru⟩ := rv.get hx
    obtain ⟨f0, f1, f2, f3, f4, f5⟩ := hf it (by simp)
    refine wpAny_pyNext_tuple_item st (show s.heap.IsTuple a its.toArray from p) (x := u) (by simpa using hu) fun h' st' sb => ?_
    have I1 : Inv X pins σ H { s with heap := h' } := I.turned (t' := s.toks) (fun b o hb e => (sb.2 b hb).trans e) f0 f1 f3 f4 f5
    obtain ⟨o, e, c, d⟩ := id st'
    exact ⟨u, rfl, go_of (s := { s with heap := h' }) e c d (by decide) ⟨x, H, I1, ru, ⟨rfl, fun ys hy => by rw [I.tuple_inj hy hq]; exact hx⟩, st', fun b hb => (hf b hb).1⟩⟩
  done := by
    intro X hP hw hK hc i pins s σ H E I hf st hg
    subst hP hw hK
    obtain ⟨xs, hq, hx⟩ := hg
    obtain ⟨its, rv, p, hz⟩ := I.tuple hq
    obtain ⟨f0, f1, f2, f3, f4, f5⟩ := hf it (by simp)
    have hl := rv.length
    exact wpAny_pyNext_tuple_end (I.ok.hd hc) st (show s.heap.IsTuple a its.toArray from p) (by simp; omega) fun h' eb => ⟨rfl, I.turned (t' := s.toks) (fun b o hb e => eb b o hb e) f0 f1 f3 f4 f5⟩
  self := fun _ _ _ _ _ st h => wpAny_pyIter_tupleiter st h
theorem turn_range {P : Program} {w : World} {K : PySem.W.Frag} {tg : Expr} (it : Addr) (lo : Int) (n : Nat) : Turn P w K tg (Itr lo n) [it] it (fun i h => IsRangeIter h it (lo + (i : Nat) * 1) ((n : Int) - (i : Nat)) 1) where
  mem := by simp
  obj := fun i h st b hb => by
    have e : b = it := by simpa using hb
    subst e
    exact ⟨_, st, fun v z => by
      have z' : Data.fields _ = Data.cell v := z
      cases z'⟩
  keep := fun i h h' st k => k it (by simp) _ st
  item := by
    intro X hP hw hK hc i pins s σ H E I hf st hg
    subst hP hw hK
    obtain ⟨f0, f1, f2, f3, f4, f5⟩ := hf it (by simp)
    have W := Walks.range (prog := X.prog) (w := X.w) (I.ok.hd hc) it lo 1 n
    refine W.item i s _ _ hg st fun v h' tk hv st' kk => ?_
    obtain ⟨t, rfl⟩ := hv
    have I1 : Inv X pins σ H { s with heap := h', toks := tk } := I.turned (fun b o hb e => kk b o (by simpa using hb) e) f0 f1 f3 f4 f5
    refine ⟨_, rfl, go_of (s := { s with heap := h', toks := tk }) (n := "range_iterator") st' rfl rfl (by decide) ⟨.int (lo + i), H, I1, ⟨t, ?_⟩, ⟨rfl, rfl⟩, st', fun b hb => (hf b hb).1⟩⟩
    rw [Int.mul_one]
  done := by
    intro X hP hw hK hc i pins s σ H E I hf st hg
    subst hP hw hK
    obtain ⟨f0, f1, f2, f3, f4, f5⟩ := hf it (by simp)
    exact wpAny_pyNext_range_end (I.ok.hd hc) st (by have : n ≤ i := hg; omega) fun h' eb => ⟨rfl, I.turned (t' := s.toks) (fun b o hb e => eb b o hb e) f0 f1 f3 f4 f5⟩
  self := fun _ _ _ _ _ st h => wpAny_pyIter_rangeiter st h
end L2

namespace L2
open PySem PySem.Spec PyProof.Rows
section
variable {X : Cx} {tg : Expr}
def iList (K : PySem.W.Frag) (tl : TE) : TI := fun σ H R => tl σ H fun x H1 => ∃ a, x = .ref a ∧ (∃ xs, SqL K H1 a xs) ∧ R (Itl K a) H1
def iTup (K : PySem.W.Frag) (tl : TE) : TI := fun σ H R => tl σ H fun x H1 => ∃ a, x = .ref a ∧ (∃ xs, SqT K H1 a xs) ∧ R (Itt K a) H1
theorem pi_list {l : Expr} {tl : TE} (hl : PE X l tl) : PI X tg l (iList X.K tl) := by
  intro pins s σ H R I h
  refine thn (hl pins s σ H _ I h) fun v s1 ⟨x, H1, I1, r1, q1⟩ => ?_
  obtain ⟨a, e, ⟨xs, hq⟩, q⟩ := q1
  subst e
  cases r1
  obtain ⟨its, rv, p, hz⟩ := I1.list hq
  refine wpAny_pyIter_list p.isList ?_
  refine ⟨s1.heap.objs.size, [s1.heap.objs.size], _, _, H1, rfl, I1.kept (t' := s1.toks) fun b o e => Heap.get?_push_of_some _ e, turn_list a _, ⟨_, Heap.get?_push_size _ rfl, rfl, rfl⟩, fun b hb => ?_, q⟩
  have e : b = s1.heap.objs.size := by simpa using hb
  subst e
  exact I1.fpOk (Nat.le_refl _) (I1.hok.fresh (Nat.le_refl _))
theorem pi_tup {l : Expr} {tl : TE} (hl : PE X l tl) : PI X tg l (iTup X.K tl) := by
  intro pins s σ H R I h
  refine thn (hl pins s σ H _ I h) fun v s1 ⟨x, H1, I1, r1, q1⟩ => ?_
  obtain ⟨a, e, ⟨xs, hq⟩, q⟩ := q1
  subst e
  cases r1
  obtain ⟨its, rv, p, hz⟩ := I1.tuple hq
  refine wpAny_pyIter_tuple (show s1.heap.IsTuple a its.toArray from p) ?_
  refine ⟨s1.heap.objs.size, [s1.heap.objs.size], _, _, H1, rfl, I1.kept (t' := s1.toks) fun b o e => Heap.get?_push_of_some _ e, turn_tuple a _, ⟨_, Heap.get?_push_size _ rfl, rfl, rfl⟩, fun b hb => ?_, q⟩
  have e : b = s1.heap.objs.size := by simpa using hb
  subst e
  exact I1.fpOk (Nat.le_refl _) (I1.hok.fresh (Nat.le_refl _))
/-- a range object just made, walked -/
theorem range_it {pins : List (Addr × Obj)} {σ : St} {H : Hp} {s : Shared} {R : It → Hp → Prop} {E : Value → Shared → Prop} {lo hi : Int} {t u v : Tok} {tk : Nat} (I : Inv X pins σ H s) (h1 : -(2 ^ 62) ≤ lo) (h2 : lo < 2 ^ 62) (h3 : -(2 ^ 62) ≤ hi) (h4 : hi < 2 ^ 62)
    (q : R (Itr lo (hi - lo).toNat) H) : wpAny (model X.prog X.w) X.A (pyIter (.ref s.heap.objs.size)) (PIE X pins σ tg R) E { s with heap := s.heap.push { cls := .type "range", data := .fields #[.int lo t, .int hi u, .int 1 v] }, toks := tk } := by
  refine wpAny_pyIter_range (IsRange.new ..) (small_one h1 h2 h3 h4) ?_
  have I1 : Inv X pins σ H { s with heap := s.heap.push { cls := .type "range", data := .fields #[.int lo t, .int hi u, .int 1 v] }, toks := tk } := I.kept fun b o e => Heap.get?_push_of_some _ e
  refine ⟨(s.heap.push { cls := .type "range", data := .fields #[.int lo t, .int hi u, .int 1 v] }).objs.size, [(s.heap.push { cls := .type "range", data := .fields #[.int lo t, .int hi u, .int 1 v] }).objs.size], _, _, H, rfl,
    I1.kept (t' := tk) fun b o e => Heap.get?_push_of_some _ e, turn_range _ lo (hi - lo).toNat, ?_, fun b hb => ?_, q⟩
  · have e1 : lo + ((0 : Nat) : Int) * 1 = lo := by simp
    have e2 : (((hi - lo).toNat : Nat) : Int) - ((0 : Nat) : Int) = Builtin.Range.rangeSize lo hi 1 := by rw [rangeSize_one]; split <;> omega
    show IsRangeIter _ _ (lo + ((0 : Nat) : Int) * 1) ((((hi - lo).toNat : Nat) : Int) - ((0 : Nat) : Int)) 1
    rw [e1, e2]
    exact Heap.get?_push_size _ rfl
  · have e : b = (s.heap.push { cls := .type "range", data := .fields #[.int lo t, .int hi u, .int 1 v] }).objs.size := by simpa using hb
    subst e
    exact I1.fpOk (Nat.le_refl _) (I1.hok.fresh (Nat.le_refl _))
def iRng1 (ta : TA) : TI := fun σ H R => ta σ H fun vs H1 => ∃ j : Int, vs = [.int j] ∧ -(2 ^ 62) ≤ j ∧ j < 2 ^ 62 ∧ R (Itr 0 j.toNat) H1
def iRng2 (ta : TA) : TI := fun σ H R => ta σ H fun vs H1 => ∃ i j : Int, vs = [.int i, .int j] ∧ (-(2 ^ 62) ≤ i ∧ i < 2 ^ 62 ∧ -(2 ^ 62) ≤ j ∧ j < 2 ^ 62) ∧ R (Itr i (j - i).toNat) H1
theorem pi_range1 {a : Expr} {ta : TA} {p pos : Pos} (hg : Gl X "range") (hm : X.mg "range" = none) (ha : PA X [a] ta) (hs : starEach [a] X.env = [(false, eval a X.env)] := by rfl) : PI X tg (.Call (.Name "range" p) [a] [] pos) (iRng1 ta) := by
  intro pins s σ H R I h
  refine Call_ (ld_blt I hg hm boot_range (PyProof.Rows.callWith_type1 (thn (ha pos pins s σ H _ I h) fun us s1 ⟨vs, H1, I1, r1, q1⟩ => ?_) hs rfl))
  obtain ⟨j, e, q1, q2, q⟩ := q1
  subst e
  cases r1 with
  | cons r rr =>
    cases rr
    obtain ⟨t, rfl⟩ := r
    exact call_range_1 (range_it I1 (by omega) (by omega) q1 q2 (by simpa using q))
theorem pi_range2 {a b : Expr} {ta : TA} {p pos : Pos} (hg : Gl X "range") (hm : X.mg "range" = none) (ha : PA X [a, b] ta) (hs : starEach [a, b] X.env = [(false, eval a X.env), (false, eval b X.env)] := by rfl) (hs2 : starEach [b] X.env = [(false, eval b X.env)] := by rfl) :
    PI X tg (.Call (.Name "range" p) [a, b] [] pos) (iRng2 ta) := by
  intro pins s σ H R I h
  refine Call_ (ld_blt I hg hm boot_range (PyProof.Rows.callWith_type1 (thn (ha pos pins s σ H _ I h) fun us s1 ⟨vs, H1, I1, r1, q1⟩ => ?_) (by rw [hs, hs2]) (by rw [hs2]; rfl)))
  obtain ⟨i, j, e, ⟨q1, q2, q3, q4⟩, q⟩ := q1
  subst e
  cases r1 with
  | cons r rr =>
    cases rr with
    | cons r' rr =>
      cases rr
      obtain ⟨t, rfl⟩ := r
      obtain ⟨t', rfl⟩ := r'
      exact call_range_2 (range_it I1 q1 q2 q3 q4 q)

/-! ### for -/
/-- W: the invariant by the turn and a measure; N: what the body is to reach -/
def tFor (wi : TI) (g : TG) (tb : TS) : TS := fun D σ H => wi σ H fun J H1 => ∃ W : Nat → Nat → St → Hp → Prop, (∃ m, W 0 m σ H1) ∧ ∀ i m σ H, W i m σ H →
  (J.stop i H ∧ D.nx σ H) ∨ (J.go i H ∧ ∃ N : St → Hp → Prop, (∀ σ' H', N σ' H' → ∃ m', m' < m ∧ W (i + 1) m' σ' H') ∧ ∀ x H', J.yld i H x H' → g x σ H' fun σ2 H2 => tb { D with nx := N, ct := N, bk := D.nx } σ2 H2)
/-- the records at fp as they stand -/
def pinsAt (fp : List Addr) (h : Heap) : List (Addr × Obj) := fp.filterMap fun b => (h.get? b).map fun o => (b, o)
theorem mem_pinsAt {fp : List Addr} {h : Heap} {b : Addr} {o : Obj} (hb : b ∈ fp) (e : h.get? b = some o) : (b, o) ∈ pinsAt fp h := List.mem_filterMap.mpr ⟨b, hb, by rw [e]; rfl⟩
theorem of_pinsAt {fp : List Addr} {h : Heap} {p : Addr × Obj} (hp : p ∈ pinsAt fp h) : p.1 ∈ fp ∧ h.get? p.1 = some p.2 := by
  obtain ⟨b, hb, e⟩ := List.mem_filterMap.mp hp
  cases q : h.get? b with
  | none => rw [q] at e; cases e
  | some o =>
    rw [q] at e
    have e' : (b, o) = p := Option.some.inj e
    subst e'
    exact ⟨hb, q⟩
theorem Inv.pinned {pins : List (Addr × Obj)} {σ : St} {H : Hp} {s : Shared} {fp : List Addr} (I : Inv X pins σ H s) (hf : ∀ b ∈ fp, FpOk X pins H b) (ho : ∀ b ∈ fp, ∃ o, s.heap.get? b = some o ∧ ∀ v, o.data ≠ .cell v) : Inv X (pins ++ pinsAt fp s.heap) σ H s :=
  I.pins_of fun p hp => (List.mem_append.mp hp).elim (fun z => I.pin p (List.mem_append_right _ z)) fun z => by
    obtain ⟨hb, e⟩ := of_pinsAt z
    obtain ⟨f0, f1, f2, _⟩ := hf p.1 hb
    obtain ⟨o, e', d⟩ := ho p.1 hb
    rw [e] at e'; cases e'
    exact ⟨e, f0, f1, f2, d⟩
theorem Inv.unpinned {pins pl : List (Addr × Obj)} {σ : St} {H : Hp} {s : Shared} (I : Inv X (pins ++ pl) σ H s) : Inv X pins σ H s := I.pins_of fun p hp => I.pin p (List.mem_append_right _ (List.mem_append_left _ hp))
theorem ps_for {iter : Expr} {body : List Stmt} {wi : TI} {g : TG} {tb : TS} {pos : Pos} (hp : PassesOwn (model X.prog X.w) X.A X.env X.xe) (hc : X.calm = true) (hi : PI X tg iter wi) (hg : PG X tg g) (hb : PSs X body tb)
    (hs : ∀ x, foldedSetIterable iter X.env x = pure x := by intro _; rfl) : PS X (.For tg iter body [] pos) (tFor wi g tb) := by
  intro pins s σ H D I h
  refine wpAny_For (thn (hi pins s σ H _ I h) fun v s1 h1 => thn h1 fun itv s2 h2 => ?_) hs
  obtain ⟨it, fp, tn, J, H2, e, I2, T, st2, f2, W, ⟨m0, w0⟩, turn⟩ := h2
  subst e
  -- what stays true of the iterator's objects through the loop
  have stat : ∀ {H' : Hp}, (∀ b ∈ fp, H' b = none) → ∀ b ∈ fp, FpOk X pins H' b := fun hn b hb => ⟨hn b hb, (f2 b hb).2⟩
  refine codeAny_forLoop_any (fun n s' => ∃ i σ' H', Inv X pins σ' H' s' ∧ tn i s'.heap ∧ (∀ b ∈ fp, H' b = none) ∧ W i n σ' H') ?_ m0 ⟨0, σ, H2, I2, st2, fun b hb => (f2 b hb).1, w0⟩
  rintro n s3 ⟨i, σ3, H3, I3, st3, fr3, w3⟩
  rcases turn i n σ3 H3 w3 with ⟨stop, qn⟩ | ⟨go, N, hN, step⟩
  · refine wpAny_passesOwn hp (thn (T.done X rfl rfl rfl hc i pins s3 σ3 H3 X.xe I3 (stat fr3) st3 stop) fun r s4 ⟨hr, I4⟩ => ?_)
    subst hr
    exact wpAny_execs_nil ⟨σ3, H3, I4, qn⟩
  · refine wpAny_passesOwn hp (thn (T.item X rfl rfl rfl hc i pins s3 σ3 H3 X.xe I3 (stat fr3) st3 go) fun r s4 ⟨u, hr, h4⟩ => ?_)
    subst hr
    refine wpAny_passesOwn hp (thn h4 fun _ s5 ⟨x, H5, I5, r5, y5, st5, fr5⟩ => ?_)
    have I5' := I5.pinned (stat fr5) (T.obj _ _ st5)
    refine wpAny_passesOwn hp (thn (hg _ s5 σ3 H5 x u _ I5' r5 (step x H5 y5)) fun _ s6 ⟨σ6, H6, I6, q6⟩ => ?_)
    refine wpAny_passesOwn hp (thn (hb _ s6 σ6 H6 _ I6 q6) fun f s7 q7 => ?_)
    have again : ∀ {σ7 : St} {H7 : Hp}, Inv X (pins ++ pinsAt fp s5.heap) σ7 H7 s7 → N σ7 H7 → ∃ m, m < n ∧ ∃ i σ' H', Inv X pins σ' H' s7 ∧ tn i s7.heap ∧ (∀ b ∈ fp, H' b = none) ∧ W i m σ' H' := fun {σ7 H7} I7 n7 => by
      obtain ⟨m', hm, w7⟩ := hN σ7 H7 n7
      refine ⟨m', hm, i + 1, σ7, H7, I7.unpinned, T.keep _ _ _ st5 fun b hb o e => (I7.pin (b, o) (List.mem_append_right _ (List.mem_append_right _ (mem_pinsAt hb e)))).1, fun b hb => ?_, w7⟩
      obtain ⟨o, e, d⟩ := T.obj _ _ st5 b hb
      exact (I7.pin (b, o) (List.mem_append_right _ (List.mem_append_right _ (mem_pinsAt hb e)))).2.1
    cases f with
    | next => obtain ⟨σ7, H7, I7, n7⟩ := q7; exact again I7 n7
    | cont => obtain ⟨σ7, H7, I7, n7⟩ := q7; exact again I7 n7
    | brk => obtain ⟨σ7, H7, I7, q7⟩ := q7; exact ⟨σ7, H7, I7.unpinned, q7⟩
    | ret v => obtain ⟨x7, σ7, H7, I7, r7, q7⟩ := q7; exact ⟨x7, σ7, H7, I7.unpinned, r7, q7⟩
end

/-! ### the forms one uses -/
/-- over a list that the body leaves as it is -/
theorem for_list {K : PySem.W.Frag} {a : Addr} {xs : List V} {g : TG} {tb : TS} {D : Ends} {σ : St} {H : Hp} (Pv : Nat → St → Hp → Prop) (h0 : Pv 0 σ H) (hl : ∀ i σ H, i ≤ xs.length → Pv i σ H → SqL K H a xs)
    (hs : ∀ i x σ H, xs[i]? = some x → Pv i σ H → g x σ H fun σ2 H2 => tb { D with nx := Pv (i + 1), ct := Pv (i + 1), bk := D.nx } σ2 H2) (hd : ∀ σ H, Pv xs.length σ H → D.nx σ H) :
    ∃ W : Nat → Nat → St → Hp → Prop, (∃ m, W 0 m σ H) ∧ ∀ i m σ H, W i m σ H →
      ((Itl K a).stop i H ∧ D.nx σ H) ∨ ((Itl K a).go i H ∧ ∃ N : St → Hp → Prop, (∀ σ' H', N σ' H' → ∃ m', m' < m ∧ W (i + 1) m' σ' H') ∧ ∀ x H', (Itl K a).yld i H x H' → g x σ H' fun σ2 H2 => tb { D with nx := N, ct := N, bk := D.nx } σ2 H2) := by
  refine ⟨fun i m σ H => m = xs.length - i ∧ i ≤ xs.length ∧ Pv i σ H, ⟨xs.length, by simp, Nat.zero_le _, h0⟩, ?_⟩
  rintro i m σ H ⟨rfl, hi, p⟩
  have q := hl i σ H hi p
  by_cases hlt : i < xs.length
  · refine .inr ⟨⟨xs, xs[i], q, by simp [hlt]⟩, Pv (i + 1), fun σ' H' p' => ⟨xs.length - (i + 1), by omega, rfl, hlt, p'⟩, fun x H' y => ?_⟩
    obtain ⟨e, y⟩ := y
    subst e
    exact hs i x σ _ (y xs q) p
  · have e : i = xs.length := by omega
    subst e
    exact .inl ⟨⟨xs, q, Nat.le_refl _⟩, hd σ H p⟩
theorem for_tup {K : PySem.W.Frag} {a : Addr} {xs : List V} {g : TG} {tb : TS} {D : Ends} {σ : St} {H : Hp} (Pv : Nat → St → Hp → Prop) (h0 : Pv 0 σ H) (hl : ∀ i σ H, i ≤ xs.length → Pv i σ H → SqT K H a xs)
    (hs : ∀ i x σ H, xs[i]? = some x → Pv i σ H → g x σ H fun σ2 H2 => tb { D with nx := Pv (i + 1), ct := Pv (i + 1), bk := D.nx } σ2 H2) (hd : ∀ σ H, Pv xs.length σ H → D.nx σ H) :
    ∃ W : Nat → Nat → St → Hp → Prop, (∃ m, W 0 m σ H) ∧ ∀ i m σ H, W i m σ H →
      ((Itt K a).stop i H ∧ D.nx σ H) ∨ ((Itt K a).go i H ∧ ∃ N : St → Hp → Prop, (∀ σ' H', N σ' H' → ∃ m', m' < m ∧ W (i + 1) m' σ' H') ∧ ∀ x H', (Itt K a).yld i H x H' → g x σ H' fun σ2 H2 => tb { D with nx := N, ct := N, bk := D.nx } σ2 H2) := by
  refine ⟨fun i m σ H => m = xs.length - i ∧ i ≤ xs.length ∧ Pv i σ H, ⟨xs.length, by simp, Nat.zero_le _, h0⟩, ?_⟩
  rintro i m σ H ⟨rfl, hi, p⟩
  have q := hl i σ H hi p
  by_cases hlt : i < xs.length
  · refine .inr ⟨⟨xs, xs[i], q, by simp [hlt]⟩, Pv (i + 1), fun σ' H' p' => ⟨xs.length - (i + 1), by omega, rfl, hlt, p'⟩, fun x H' y => ?_⟩
    obtain ⟨e, y⟩ := y
    subst e
    exact hs i x σ _ (y xs q) p
  · have e : i = xs.length := by omega
    subst e
    exact .inl ⟨⟨xs, q, Nat.le_refl _⟩, hd σ H p⟩
theorem for_range {lo : Int} {n : Nat} {g : TG} {tb : TS} {D : Ends} {σ : St} {H : Hp} (Pv : Nat → St → Hp → Prop) (h0 : Pv 0 σ H)
    (hs : ∀ i σ H, i < n → Pv i σ H → g (.int (lo + i)) σ H fun σ2 H2 => tb { D with nx := Pv (i + 1), ct := Pv (i + 1), bk := D.nx } σ2 H2) (hd : ∀ σ H, Pv n σ H → D.nx σ H) :
    ∃ W : Nat → Nat → St → Hp → Prop, (∃ m, W 0 m σ H) ∧ ∀ i m σ H, W i m σ H →
      ((Itr lo n).stop i H ∧ D.nx σ H) ∨ ((Itr lo n).go i H ∧ ∃ N : St → Hp → Prop, (∀ σ' H', N σ' H' → ∃ m', m' < m ∧ W (i + 1) m' σ' H') ∧ ∀ x H', (Itr lo n).yld i H x H' → g x σ H' fun σ2 H2 => tb { D with nx := N, ct := N, bk := D.nx } σ2 H2) := by
  refine ⟨fun i m σ H => m = n - i ∧ i ≤ n ∧ Pv i σ H, ⟨n, by simp, Nat.zero_le _, h0⟩, ?_⟩
  rintro i m σ H ⟨rfl, hi, p⟩
  by_cases hlt : i < n
  · refine .inr ⟨hlt, Pv (i + 1), fun σ' H' p' => ⟨n - (i + 1), by omega, rfl, hlt, p'⟩, fun x H' y => ?_⟩
    obtain ⟨e, y⟩ := y
    subst e y
    exact hs i σ _ hlt p
  · have e : i = n := by omega
    subst e
    exact .inl ⟨Nat.le_refl _, hd σ H p⟩
/-- while, by a word and a measure of the state -/
theorem while_by {c : TT} {tb : TS} {D : Ends} {σ : St} {H : Hp} (Pv : St → Hp → Prop) (μ : St → Hp → Nat) (h0 : Pv σ H)
    (hs : ∀ σ H, Pv σ H → c σ H fun b H1 => if b = true then tb { D with nx := fun σ' H' => Pv σ' H' ∧ μ σ' H' < μ σ H, ct := fun σ' H' => Pv σ' H' ∧ μ σ' H' < μ σ H, bk := D.nx } σ H1 else D.nx σ H1)
    (mono : ∀ σ H Q Q', (∀ b H1, Q b H1 → Q' b H1) → c σ H Q → c σ H Q') : tWhile c tb D σ H := by
  refine ⟨fun m σ H => m = μ σ H ∧ Pv σ H, ⟨_, rfl, h0⟩, ?_⟩
  rintro m σ H ⟨rfl, p⟩
  refine mono σ H _ _ (fun b H1 q => ?_) (hs σ H p)
  cases b with
  | true => exact ⟨_, fun σ' H' ⟨p', l⟩ => ⟨_, l, rfl, p'⟩, q⟩
  | false => exact q
end L2

namespace L2
open PySem PySem.Spec PyProof.Rows

abbrev R2 := V → V → Hp → VK → Prop
/-- a two-place operation on values: f is binaryOp op, inplaceOp op or compareOp op -/
def OpR (X : Cx) (f : Value → Value → Sem Value) (r : R2) : Prop :=
  ∀ (pins : List (Addr × Obj)) (s : Shared) (σ : St) (H : Hp) (x y : V) (v u : Value) (Q : VK), Inv X pins σ H s → RelV x v → RelV y u → r x y H Q →
    wpAny (model X.prog X.w) X.A (f v u) (EP X pins σ Q) X.xe s
/-- a one-place operation -/
def UnR (X : Cx) (f : Value → Sem Value) (r : V → Hp → VK → Prop) : Prop :=
  ∀ (pins : List (Addr × Obj)) (s : Shared) (σ : St) (H : Hp) (x : V) (v : Value) (Q : VK), Inv X pins σ H s → RelV x v → r x H Q →
    wpAny (model X.prog X.w) X.A (f v) (EP X pins σ Q) X.xe s
/-- a call of a value that is known (a builtin, a type) with values -/
def CallR (X : Cx) (f : Value) (r : List V → Hp → VK → Prop) : Prop :=
  ∀ (pins : List (Addr × Obj)) (s : Shared) (σ : St) (H : Hp) (xs : List V) (us : List Value) (Q : VK), Inv X pins σ H s → Vals xs us → r xs H Q →
    wpAny (model X.prog X.w) X.A (call f us) (EP X pins σ Q) X.xe s
/-- a value's truth -/
def TruR (X : Cx) (r : V → Hp → (Bool → Hp → Prop) → Prop) : Prop :=
  ∀ (pins : List (Addr × Obj)) (s : Shared) (σ : St) (H : Hp) (x : V) (v : Value) (Q : Bool → Hp → Prop), Inv X pins σ H s → RelV x v → r x H Q →
    wpAny (model X.prog X.w) X.A (truthy v) (TP X pins σ Q) X.xe s

def tOp (r : R2) (ta tb : TE) : TE := fun σ H Q => ta σ H fun x H1 => tb σ H1 fun y H2 => r x y H2 Q
def tUn (r : V → Hp → VK → Prop) (ta : TE) : TE := fun σ H Q => ta σ H fun x H1 => r x H1 Q
/-- ints in, under C, and a value out -/
def rI (C : Int → Int → Prop) (g : Int → Int → V) : R2 := fun x y H Q => ∃ i j, x = .int i ∧ y = .int j ∧ C i j ∧ Q (g i j) H
def rI0 (g : Int → Int → V) : R2 := fun x y H Q => ∃ i j, x = .int i ∧ y = .int j ∧ Q (g i j) H
def rU (g : Int → V) : V → Hp → VK → Prop := fun x H Q => ∃ i, x = .int i ∧ Q (g i) H

section
variable {X : Cx} {a b c : Expr} {ta tb tc : TE} {pos : Pos}

theorem binT (ha : PE X a ta) (hb : PE X b tb) {pins : List (Addr × Obj)} {s : Shared} {σ : St} {H : Hp} {R : V → V → Hp → Prop} (I : Inv X pins σ H s)
    (h : ta σ H fun x H1 => tb σ H1 fun y H2 => R x y H2) {Q : Value → Shared → Prop} {f : Value → Value → Sem Value}
    (hf : ∀ v u s2 x y H2, Inv X pins σ H2 s2 → RelV x v → RelV y u → R x y H2 → wpAny (model X.prog X.w) X.A (f v u) Q X.xe s2) :
    wpAny (model X.prog X.w) X.A (eval a X.env) (fun v s₁ => wpAny (model X.prog X.w) X.A (eval b X.env) (fun u s₂ => wpAny (model X.prog X.w) X.A (f v u) Q X.xe s₂) X.xe s₁) X.xe s := by
  refine thn (ha pins s σ H _ I h) fun v s1 ⟨x, H1, I1, r1, q1⟩ => ?_
  refine thn (hb pins s1 σ H1 _ I1 q1) fun u s2 ⟨y, H2, I2, r2, q2⟩ => ?_
  exact hf v u s2 x y H2 I2 r1 r2 q2

theorem pe_op {op : Operator} {r : R2} (ho : OpR X (binaryOp op) r) (ha : PE X a ta) (hb : PE X b tb) : PE X (.BinOp a op b pos) (tOp r ta tb) := by
  intro pins s σ H Q I h
  exact wpAny_BinOp (binT ha hb I h fun v u s2 x y H2 I2 rx ry q => ho pins s2 σ H2 x y v u Q I2 rx ry q)
theorem pe_un {op : UnaryOp} {r : V → Hp → VK → Prop} (ho : UnR X (unaryOp op) r) (ha : PE X a ta) : PE X (.UnaryOp op a pos) (tUn r ta) := by
  intro pins s σ H Q I h
  exact UnaryOp_ (thn (ha pins s σ H _ I h) fun v s1 ⟨x, H1, I1, r1, q1⟩ => ho pins s1 σ H1 x v Q I1 r1 q1)
/-- a op= e at a name: the name's slot i -/
theorem augR {op : Operator} {r : R2} (ho : OpR X (inplaceOp op) r) {pins : List (Addr × Obj)} {s : Shared} {σ : St} {H : Hp} {x y : V} {v u : Value} {Q : VK} (I : Inv X pins σ H s)
    (rx : RelV x v) (ry : RelV y u) (q : r x y H Q) : wpAny (model X.prog X.w) X.A (inplaceOp op v u) (EP X pins σ Q) X.xe s := ho pins s σ H x y v u Q I rx ry q

/-! ### ints -/
theorem opI {f : Value → Value → Sem Value} {C : Int → Int → Prop} {g : Int → Int → Int}
    (rule : ∀ (i j : Int) (t u : Tok) (s : Shared) (Q : Value → Shared → Prop) (E : Value → Shared → Prop), C i j → Q (.int (g i j) s.toks) { s with toks := s.toks + 1 } → wpAny (model X.prog X.w) X.A (f (.int i t) (.int j u)) Q E s) :
    OpR X f (rI C fun i j => .int (g i j)) := by
  intro pins s σ H x y v u Q I rx ry h
  obtain ⟨i, j, rfl, rfl, hc, q⟩ := h
  obtain ⟨t, rfl⟩ := rx
  obtain ⟨t', rfl⟩ := ry
  exact rule i j t t' s _ _ hc ⟨.int (g i j), H, I.tok _, ⟨_, rfl⟩, q⟩
theorem opI0 {f : Value → Value → Sem Value} {g : Int → Int → Int}
    (rule : ∀ (i j : Int) (t u : Tok) (s : Shared) (Q : Value → Shared → Prop) (E : Value → Shared → Prop), Q (.int (g i j) s.toks) { s with toks := s.toks + 1 } → wpAny (model X.prog X.w) X.A (f (.int i t) (.int j u)) Q E s) :
    OpR X f (rI0 fun i j => .int (g i j)) := by
  intro pins s σ H x y v u Q I rx ry h
  obtain ⟨i, j, rfl, rfl, q⟩ := h
  obtain ⟨t, rfl⟩ := rx
  obtain ⟨t', rfl⟩ := ry
  exact rule i j t t' s _ _ ⟨.int (g i j), H, I.tok _, ⟨_, rfl⟩, q⟩
theorem opB0 {f : Value → Value → Sem Value} {g : Int → Int → Bool}
    (rule : ∀ (i j : Int) (t u : Tok) (s : Shared) (Q : Value → Shared → Prop) (E : Value → Shared → Prop), Q (.bool (g i j)) s → wpAny (model X.prog X.w) X.A (f (.int i t) (.int j u)) Q E s) :
    OpR X f (rI0 fun i j => .bl (g i j)) := by
  intro pins s σ H x y v u Q I rx ry h
  obtain ⟨i, j, rfl, rfl, q⟩ := h
  obtain ⟨t, rfl⟩ := rx
  obtain ⟨t', rfl⟩ := ry
  exact rule i j t t' s _ _ ⟨.bl (g i j), H, I, rfl, q⟩

def CDiv (i j : Int) : Prop := 0 < j ∧ j < 1073741824
def CDivN (i j : Int) : Prop := j ≠ 0 ∧ j.natAbs < 1073741824
def CPow (i j : Int) : Prop := 0 ≤ j ∧ j ≤ 1000000 ∧ i.natAbs < 2 ^ 64
def CMul (i j : Int) : Prop := (-(2 ^ 64) < i ∧ i < 2 ^ 64) ∨ (-(2 ^ 64) < j ∧ j < 2 ^ 64)
theorem CMul.ok {i j : Int} (h : CMul i j) : IntMulOk i j := by
  rcases h with ⟨h1, h2⟩ | ⟨h1, h2⟩
  · exact .of_left (intBits_le_64 h1 h2)
  · exact .of_right (intBits_le_64 h1 h2)
theorem two_pow_nn (k : Nat) : (0 : Int) ≤ 2 ^ k := by
  rw [two_pow_cast]
  exact Int.natCast_nonneg _

theorem op_add : OpR X (binaryOp .Add) (rI0 fun i j => .int (i + j)) := opI0 fun _ _ _ _ _ _ _ q => add_int q
theorem op_sub : OpR X (binaryOp .Sub) (rI0 fun i j => .int (i - j)) := opI0 fun _ _ _ _ _ _ _ q => sub_int q
theorem op_mul : OpR X (binaryOp .Mult) (rI CMul fun i j => .int (i * j)) := opI fun _ _ _ _ _ _ _ hc q => mul_int q hc.ok
/-- // by a positive divisor -/
theorem op_fdiv : OpR X (binaryOp .FloorDiv) (rI CDiv fun i j => .int (i / j)) := opI fun i j _ _ _ _ _ hc q => by
  have h1 : (0 : Int) < j := hc.1
  have h2 : j < 1073741824 := hc.2
  exact floordiv_int (by omega) (by rw [Int.fdiv_eq_ediv_of_nonneg i (by omega)]; exact q) (.inl (PyProof.noPylong_small (by omega)))
theorem op_fdivN : OpR X (binaryOp .FloorDiv) (rI CDivN fun i j => .int (i.fdiv j)) := opI fun _ _ _ _ _ _ _ hc q => floordiv_int hc.1 q (.inl (PyProof.noPylong_small hc.2))
/-- % by a positive divisor of any size -/
theorem op_mod : OpR X (binaryOp .Mod) (rI (fun _ j => 0 < j) fun i j => .int (i % j)) := opI fun i j _ _ _ _ _ hc q => by
  have h1 : (0 : Int) < j := hc
  exact mod_int' (by omega) (by rw [Int.fmod_eq_emod_of_nonneg i (by omega)]; exact q)
theorem op_modN : OpR X (binaryOp .Mod) (rI (fun _ j => j ≠ 0) fun i j => .int (i.fmod j)) := opI fun _ _ _ _ _ _ _ hc q => mod_int' hc q
theorem op_pow : OpR X (binaryOp .Pow) (rI CPow fun i j => .int (i ^ j.toNat)) := opI fun _ _ _ _ _ _ _ hc q => pow_int_small hc.1 hc.2.1 hc.2.2 q
theorem op_shl : OpR X (binaryOp .LShift) (rI CPow fun i j => .int (i * 2 ^ j.toNat)) := opI fun _ _ _ _ _ _ _ hc q => lshift_int_small hc.1 hc.2.1 hc.2.2 q
theorem op_shr : OpR X (binaryOp .RShift) (rI (fun _ j => 0 ≤ j) fun i j => .int (i / 2 ^ j.toNat)) := opI fun i j _ _ _ _ _ hc q =>
  rshift_int hc (by rw [Int.fdiv_eq_ediv_of_nonneg i (two_pow_nn _)]; exact q)
theorem op_and : OpR X (binaryOp .BitAnd) (rI0 fun i j => .int (Builtin.bitAnd i j)) := opI0 fun _ _ _ _ _ _ _ q => and_int q
theorem op_or : OpR X (binaryOp .BitOr) (rI0 fun i j => .int (Builtin.bitOr i j)) := opI0 fun _ _ _ _ _ _ _ q => or_int q
theorem op_xor : OpR X (binaryOp .BitXor) (rI0 fun i j => .int (Builtin.bitXor i j)) := opI0 fun _ _ _ _ _ _ _ q => xor_int q

theorem iop_add : OpR X (inplaceOp .Add) (rI0 fun i j => .int (i + j)) := opI0 fun _ _ _ _ _ _ _ q => iadd_int q
theorem iop_sub : OpR X (inplaceOp .Sub) (rI0 fun i j => .int (i - j)) := opI0 fun _ _ _ _ _ _ _ q => isub_int q
theorem iop_mul : OpR X (inplaceOp .Mult) (rI CMul fun i j => .int (i * j)) := opI fun _ _ _ _ _ _ _ hc q => imul_int q hc.ok
theorem iop_fdiv : OpR X (inplaceOp .FloorDiv) (rI CDiv fun i j => .int (i / j)) := opI fun i j _ _ _ _ _ hc q => by
  have h1 : (0 : Int) < j := hc.1
  have h2 : j < 1073741824 := hc.2
  exact ifloordiv_int (by omega) (by rw [Int.fdiv_eq_ediv_of_nonneg i (by omega)]; exact q) (.inl (PyProof.noPylong_small (by omega)))
theorem iop_mod : OpR X (inplaceOp .Mod) (rI (fun _ j => 0 < j) fun i j => .int (i % j)) := opI fun i j _ _ _ _ _ hc q => by
  have h1 : (0 : Int) < j := hc
  exact imod_int (by omega) (by rw [Int.fmod_eq_emod_of_nonneg i (by omega)]; exact q)
theorem iop_shl : OpR X (inplaceOp .LShift) (rI CPow fun i j => .int (i * 2 ^ j.toNat)) := opI fun _ _ _ _ _ _ _ hc q => ilshift_int_small hc.1 hc.2.1 hc.2.2 q
theorem iop_shr : OpR X (inplaceOp .RShift) (rI (fun _ j => 0 ≤ j) fun i j => .int (i / 2 ^ j.toNat)) := opI fun i j _ _ _ _ _ hc q =>
  irshift_int hc (by rw [Int.fdiv_eq_ediv_of_nonneg i (two_pow_nn _)]; exact q)
theorem iop_and : OpR X (inplaceOp .BitAnd) (rI0 fun i j => .int (Builtin.bitAnd i j)) := opI0 fun _ _ _ _ _ _ _ q => iand_int q
theorem iop_or : OpR X (inplaceOp .BitOr) (rI0 fun i j => .int (Builtin.bitOr i j)) := opI0 fun _ _ _ _ _ _ _ q => ior_int q
theorem iop_xor : OpR X (inplaceOp .BitXor) (rI0 fun i j => .int (Builtin.bitXor i j)) := opI0 fun _ _ _ _ _ _ _ q => ixor_int q

theorem unI {f : Value → Sem Value} {g : Int → Int}
    (rule : ∀ (i : Int) (t : Tok) (s : Shared) (Q : Value → Shared → Prop) (E : Value → Shared → Prop), Q (.int (g i) s.toks) { s with toks := s.toks + 1 } → wpAny (model X.prog X.w) X.A (f (.int i t)) Q E s) :
    UnR X f (rU fun i => .int (g i)) := by
  intro pins s σ H x v Q I rx h
  obtain ⟨i, rfl, q⟩ := h
  obtain ⟨t, rfl⟩ := rx
  exact rule i t s _ _ ⟨.int (g i), H, I.tok _, ⟨_, rfl⟩, q⟩
theorem un_neg : UnR X (unaryOp .USub) (rU fun i => .int (-i)) := unI fun _ _ _ _ _ q => neg_int q
theorem un_inv : UnR X (unaryOp .Invert) (rU fun i => .int (Builtin.bitNot i)) := unI fun _ _ _ _ _ q => invert_int q

/-! ### bools among ints: n += (a < b) -/
theorem op_add_ib : OpR X (binaryOp .Add) (fun x y H Q => ∃ i k, x = .int i ∧ y = .bl k ∧ Q (.int (i + b2i k)) H) := by
  intro pins s σ H x y v u Q I rx ry h
  obtain ⟨i, k, rfl, rfl, q⟩ := h
  obtain ⟨t, rfl⟩ := rx
  cases ry
  exact add_int_bool ⟨.int (i + b2i k), H, I.tok _, ⟨_, rfl⟩, q⟩
end

/-! ### comparisons -/
/-- the scalars that == tells apart as data does -/
def scal : V → V → Bool
  | .non, .non => true | .non, .int _ => true | .int _, .non => true | .non, .bl _ => true | .bl _, .non => true | .non, .str _ => true | .str _, .non => true
  | .int _, .int _ => true | .bl _, .bl _ => true | .str _, .str _ => true | .byt _, .byt _ => true
  | .int _, .str _ => true | .str _, .int _ => true | .bl _, .str _ => true | .str _, .bl _ => true
  | _, _ => false
def rEq : R2 := fun x y H Q => scal x y = true ∧ Q (.bl (decide (x = y))) H
def rNe : R2 := fun x y H Q => scal x y = true ∧ Q (.bl (!decide (x = y))) H

theorem dec_int {i j : Int} : decide (V.int i = V.int j) = (i == j) := by
  rw [Bool.eq_iff_iff]
  simp
theorem dec_bl {i j : Bool} : decide (V.bl i = V.bl j) = (i == j) := by
  rw [Bool.eq_iff_iff]
  simp
theorem dec_str {i j : Str} : decide (V.str i = V.str j) = (i == j) := by
  rw [Bool.eq_iff_iff]
  simp
theorem dec_byt {i j : Array UInt8} : decide (V.byt i = V.byt j) = (i.toList == j.toList) := by
  rw [Bool.eq_iff_iff]
  cases i
  cases j
  simp

section
variable {X : Cx} {a b c : Expr} {ta tb tc : TE} {pos : Pos}
theorem fin_bl {pins : List (Addr × Obj)} {σ : St} {H : Hp} {s : Shared} {Q : VK} {k k' : Bool} (I : Inv X pins σ H s) (q : Q (.bl k) H) (e : k = k') : EP X pins σ Q (.bool k') s := by
  subst e
  exact ⟨.bl k, H, I, rfl, q⟩
theorem op_eq : OpR X (compareOp .Eq) rEq := by
  intro pins s σ H x y v u Q I rx ry h
  obtain ⟨hs, q⟩ := h
  cases x with
  | non =>
    cases rx
    cases y with
    | non => cases ry; exact PySem.EqNone.eq_none_none (fin_bl I q (by simp))
    | bl j => cases ry; exact PySem.EqNone.eq_none_bool (fin_bl I q (by simp))
    | int j => obtain ⟨t', rfl⟩ := ry; exact PySem.EqNone.eq_none_int (fin_bl I q (by simp))
    | str j => obtain ⟨t', rfl⟩ := ry; exact PySem.EqNone.eq_none_str (fin_bl I q (by simp))
    | _ => exact absurd (show false = true from hs) Bool.false_ne_true
  | bl i =>
    cases rx
    cases y with
    | non => cases ry; exact PySem.EqNone.eq_bool_none (fin_bl I q (by simp))
    | bl j => cases ry; exact eq_bool (fin_bl I q dec_bl)
    | str j => obtain ⟨t', rfl⟩ := ry; exact PySem.EqMixed.eq_bool_str (fin_bl I q (by simp))
    | _ => exact absurd (show false = true from hs) Bool.false_ne_true
  | int i =>
    obtain ⟨t, rfl⟩ := rx
    cases y with
    | non => cases ry; exact PySem.EqNone.eq_int_none (fin_bl I q (by simp))
    | int j => obtain ⟨t', rfl⟩ := ry; exact eq_int (fin_bl I q dec_int)
    | str j => obtain ⟨t', rfl⟩ := ry; exact PySem.EqMixed.eq_int_str (fin_bl I q (by simp))
    | _ => exact absurd (show false = true from hs) Bool.false_ne_true
  | str i =>
    obtain ⟨t, rfl⟩ := rx
    cases y with
    | non => cases ry; exact PySem.EqNone.eq_str_none (fin_bl I q (by simp))
    | bl j => cases ry; exact PySem.EqMixed.eq_str_bool (fin_bl I q (by simp))
    | int j => obtain ⟨t', rfl⟩ := ry; exact PySem.EqMixed.eq_str_int (fin_bl I q (by simp))
    | str j => obtain ⟨t', rfl⟩ := ry; exact eq_str (fin_bl I q dec_str)
    | _ => exact absurd (show false = true from hs) Bool.false_ne_true
  | byt i =>
    obtain ⟨t, rfl⟩ := rx
    cases y with
    | byt j => obtain ⟨t', rfl⟩ := ry; exact PySem.W.eq_bytes (fin_bl I q dec_byt)
    | _ => exact absurd (show false = true from hs) Bool.false_ne_true
  | _ => cases y <;> exact absurd (show false = true from hs) Bool.false_ne_true
theorem op_ne : OpR X (compareOp .NotEq) rNe := by
  intro pins s σ H x y v u Q I rx ry h
  obtain ⟨hs, q⟩ := h
  cases x with
  | non =>
    cases rx
    cases y with
    | non => cases ry; exact PySem.EqNone.ne_none_none (fin_bl I q (by simp))
    | bl j => cases ry; exact PySem.EqNone.ne_none_bool (fin_bl I q (by simp))
    | int j => obtain ⟨t', rfl⟩ := ry; exact PySem.EqNone.ne_none_int (fin_bl I q (by simp))
    | str j => obtain ⟨t', rfl⟩ := ry; exact PySem.EqNone.ne_none_str (fin_bl I q (by simp))
    | _ => exact absurd (show false = true from hs) Bool.false_ne_true
  | bl i =>
    cases rx
    cases y with
    | non => cases ry; exact PySem.EqNone.ne_bool_none (fin_bl I q (by simp))
    | bl j => cases ry; exact ne_bool (fin_bl I q (congrArg not dec_bl))
    | str j => obtain ⟨t', rfl⟩ := ry; exact PySem.EqMixed.ne_bool_str (fin_bl I q (by simp))
    | _ => exact absurd (show false = true from hs) Bool.false_ne_true
  | int i =>
    obtain ⟨t, rfl⟩ := rx
    cases y with
    | non => cases ry; exact PySem.EqNone.ne_int_none (fin_bl I q (by simp))
    | int j => obtain ⟨t', rfl⟩ := ry; exact ne_int (fin_bl I q (congrArg not dec_int))
    | str j => obtain ⟨t', rfl⟩ := ry; exact PySem.EqMixed.ne_int_str (fin_bl I q (by simp))
    | _ => exact absurd (show false = true from hs) Bool.false_ne_true
  | str i =>
    obtain ⟨t, rfl⟩ := rx
    cases y with
    | non => cases ry; exact PySem.EqNone.ne_str_none (fin_bl I q (by simp))
    | bl j => cases ry; exact PySem.EqMixed.ne_str_bool (fin_bl I q (by simp))
    | int j => obtain ⟨t', rfl⟩ := ry; exact PySem.EqMixed.ne_str_int (fin_bl I q (by simp))
    | str j => obtain ⟨t', rfl⟩ := ry; exact ne_str (fin_bl I q (congrArg not dec_str))
    | _ => exact absurd (show false = true from hs) Bool.false_ne_true
  | byt i =>
    obtain ⟨t, rfl⟩ := rx
    cases y with
    | byt j => obtain ⟨t', rfl⟩ := ry; exact PySem.W.ne_bytes (fin_bl I q (congrArg not dec_byt))
    | _ => exact absurd (show false = true from hs) Bool.false_ne_true
  | _ => cases y <;> exact absurd (show false = true from hs) Bool.false_ne_true

theorem op_lt : OpR X (compareOp .Lt) (rI0 fun i j => .bl (decide (i < j))) := opB0 fun _ _ _ _ _ _ _ q => lt_int q
theorem op_le : OpR X (compareOp .LtE) (rI0 fun i j => .bl (decide (i ≤ j))) := opB0 fun _ _ _ _ _ _ _ q => le_int q
theorem op_gt : OpR X (compareOp .Gt) (rI0 fun i j => .bl (decide (j < i))) := opB0 fun _ _ _ _ _ _ _ q => gt_int q
theorem op_ge : OpR X (compareOp .GtE) (rI0 fun i j => .bl (decide (j ≤ i))) := opB0 fun _ _ _ _ _ _ _ q => ge_int q
theorem op_lt_str : OpR X (compareOp .Lt) (fun x y H Q => ∃ i j, x = .str i ∧ y = .str j ∧ Q (.bl (decide (i.cps.toList < j.cps.toList))) H) := by
  intro pins s σ H x y v u Q I rx ry h
  obtain ⟨i, j, rfl, rfl, q⟩ := h
  obtain ⟨t, rfl⟩ := rx
  obtain ⟨t', rfl⟩ := ry
  exact lt_str (fin_bl I q rfl)
/-- the one string within the other -/
theorem op_in_str : OpR X (compareOp .In) (fun x y H Q => ∃ i j, x = .str i ∧ y = .str j ∧ Q (.bl (!(Builtin.Str.occurrences j i 0 j.length 1).isEmpty)) H) := by
  intro pins s σ H x y v u Q I rx ry h
  obtain ⟨i, j, rfl, rfl, q⟩ := h
  obtain ⟨t, rfl⟩ := rx
  obtain ⟨t', rfl⟩ := ry
  exact in_str (fin_bl I q rfl)

/-- is None, is not None: the right side a value none -/
theorem op_isN : OpR X (compareOp .Is) (fun x y H Q => y = .non ∧ Q (.bl (decide (x = .non))) H) := by
  intro pins s σ H x y v u Q I rx ry h
  obtain ⟨rfl, q⟩ := h
  cases ry
  refine is_none_gen (fin_bl I q ?_)
  cases x <;> first
    | (cases rx; rfl)
    | (obtain ⟨t, rfl⟩ := rx; rfl)
theorem op_notN : OpR X (compareOp .IsNot) (fun x y H Q => y = .non ∧ Q (.bl (!decide (x = .non))) H) := by
  intro pins s σ H x y v u Q I rx ry h
  obtain ⟨rfl, q⟩ := h
  cases ry
  refine isnot_none_gen (fin_bl I q ?_)
  cases x <;> first
    | (cases rx; rfl)
    | (obtain ⟨t, rfl⟩ := rx; rfl)

theorem op_notin_str : OpR X (compareOp .NotIn) (fun x y H Q => ∃ i j, x = .str i ∧ y = .str j ∧ Q (.bl (!(!(Builtin.Str.occurrences j i 0 j.length 1).isEmpty))) H) := by
  intro pins s σ H x y v u Q I rx ry h
  obtain ⟨i, j, rfl, rfl, q⟩ := h
  obtain ⟨t, rfl⟩ := rx
  obtain ⟨t', rfl⟩ := ry
  exact notIn_str (fin_bl I q rfl)
/-- is, is not of two objects that are tracked lists or instances -/
def isObj : HO → Bool
  | .lst _ => true
  | .ins _ _ _ => true
  | _ => false
theorem obj_there {pins : List (Addr × Obj)} {s : Shared} {σ : St} {H : Hp} {a : Addr} {o : HO} (I : Inv X pins σ H s) (h : H a = some o) (p : isObj o = true) : ∃ ob, s.heap.get? a = some ob ∧ ob.cls ≠ .type "tuple" := by
  cases o with
  | lst xs =>
    obtain ⟨_, its, n, _, e⟩ : xs.length ≤ sizeLine ∧ ∃ (its : List Value) (n : Nat), Vals xs its ∧ s.heap.get? a = some { cls := .type "list", data := .seq its.toArray n } := I.hok a _ h
    exact ⟨_, e, (by show Value.type "list" ≠ .type "tuple"; decide +kernel)⟩
  | ins C dx fs =>
    have x := I.hok a _ h
    obtain ⟨_, _, _, e, _⟩ := x
    exact ⟨_, e, (by show Value.ref C ≠ .type "tuple"; exact fun z => by cases z)⟩
  | _ => exact absurd (show false = true from p) Bool.false_ne_true
theorem op_is_ref : OpR X (compareOp .Is) (fun x y H Q => ∃ a b oa ob, x = .ref a ∧ y = .ref b ∧ H a = some oa ∧ isObj oa = true ∧ H b = some ob ∧ isObj ob = true ∧ Q (.bl (decide (a = b))) H) := by
  intro pins s σ H x y v u Q I rx ry h
  obtain ⟨a, b, oa, ob, rfl, rfl, ha, pa, hb, pb, q⟩ := h
  cases rx
  cases ry
  obtain ⟨o1, e1, n1⟩ := obj_there I ha pa
  obtain ⟨o2, e2, _⟩ := obj_there I hb pb
  by_cases z : a = b
  · subst z
    exact wpAny_is_ref_self (fin_bl I q (by simp))
  · exact wpAny_is_ref_other z e1 e2 n1 (fin_bl I q (by simp [z]))
theorem op_isnot_ref : OpR X (compareOp .IsNot) (fun x y H Q => ∃ a b oa ob, x = .ref a ∧ y = .ref b ∧ H a = some oa ∧ isObj oa = true ∧ H b = some ob ∧ isObj ob = true ∧ Q (.bl (!decide (a = b))) H) := by
  intro pins s σ H x y v u Q I rx ry h
  obtain ⟨a, b, oa, ob, rfl, rfl, ha, pa, hb, pb, q⟩ := h
  cases rx
  cases ry
  obtain ⟨o1, e1, n1⟩ := obj_there I ha pa
  obtain ⟨o2, e2, _⟩ := obj_there I hb pb
  by_cases z : a = b
  · subst z
    exact wpAny_isNot_ref_self (fin_bl I q (by simp))
  · exact wpAny_isNot_ref_other z e1 e2 n1 (fin_bl I q (by simp [z]))

/-- two rules for one operation: by cases -/
theorem OpR.or {f : Value → Value → Sem Value} {r r' : R2} (h : OpR X f r) (h' : OpR X f r') : OpR X f (fun x y H Q => r x y H Q ∨ r' x y H Q) := by
  intro pins s σ H x y v u Q I rx ry q
  rcases q with q | q
  · exact h pins s σ H x y v u Q I rx ry q
  · exact h' pins s σ H x y v u Q I rx ry q

theorem nomark (b : Expr) {op : CmpOp} (h : op ≠ .In := by decide) (h2 : op ≠ .NotIn := by decide) : behindInMarks op b = false := by
  have e1 : (op == CmpOp.In) = false := by cases op <;> first | rfl | exact absurd rfl h
  have e2 : (op == CmpOp.NotIn) = false := by cases op <;> first | rfl | exact absurd rfl h2
  cases b <;> simp [behindInMarks, e1, e2]
/-- a comparison as a value; hm: nomark b, or (for in, not in) by with_unfolding_all rfl -/
theorem pe_cmpR {op : CmpOp} {r : R2} (ho : OpR X (compareOp op) r) (ha : PE X a ta) (hb : PE X b tb) (hm : behindInMarks op b = false) : PE X (.Compare a [op] [b] pos) (tOp r ta tb) := by
  intro pins s σ H Q I h
  exact wpAny_Compare1 (binT ha hb I h fun v u s2 x y H2 I2 rx ry q => ho pins s2 σ H2 x y v u Q I2 rx ry q) hm
/-- a reading of a value as a test -/
def tTest (t : TE) : TT := fun σ H Q => t σ H fun x H' => ∃ k, x = .bl k ∧ Q k H'
theorem pt_cmpR {op : CmpOp} {r : R2} (ho : OpR X (compareOp op) r) (ha : PE X a ta) (hb : PE X b tb) (hm : behindInMarks op b = false) : PT X (.Compare a [op] [b] pos) (tTest (tOp r ta tb)) := by
  intro pins s σ H Q I h
  refine wpAny_isTrue_Compare1 (thn (ha pins s σ H _ I h) fun v s1 ⟨x, H1, I1, r1, q1⟩ => thn (hb pins s1 σ H1 _ I1 q1) fun u s2 ⟨y, H2, I2, r2, q2⟩ =>
    thn (ho pins s2 σ H2 x y v u _ I2 r1 r2 q2) fun c s3 ⟨z, H3, I3, r3, k, e, q3⟩ => ?_) hm
  subst e
  cases r3
  exact wpAny_truthy_bool ⟨H3, I3, q3⟩
/-- a op1 b op2 c -/
def tChain (r r' : R2) (ta tb tc : TE) : TE := fun σ H Q => ta σ H fun x H1 => tb σ H1 fun y H2 => r x y H2 fun z H3 => ∃ k, z = .bl k ∧
  (if k = true then tc σ H3 fun w' H4 => r' y w' H4 Q else Q (.bl false) H3)
theorem pe_chain {op op' : CmpOp} {r r' : R2} (ho : OpR X (compareOp op) r) (ho' : OpR X (compareOp op') r') (ha : PE X a ta) (hb : PE X b tb) (hc : PE X c tc)
    (hm : lastMarks [op, op'] [b, c] = false := by with_unfolding_all rfl) : PE X (.Compare a [op, op'] [b, c] pos) (tChain r r' ta tb tc) := by
  intro pins s σ H Q I h
  refine Compare_chain (thn (ha pins s σ H _ I h) fun v s1 ⟨x, H1, I1, r1, q1⟩ => chain_link (thn (hb pins s1 σ H1 _ I1 q1) fun u s2 ⟨y, H2, I2, r2, q2⟩ =>
    thn (ho pins s2 σ H2 x y v u _ I2 r1 r2 q2) fun d s3 ⟨z, H3, I3, r3, k, e, q3⟩ => ?_)) hm
  subst e
  cases r3
  refine wpAny_truthy_bool ?_
  cases k with
  | false => exact ite_ff ⟨.bl false, H3, I3, rfl, q3⟩
  | true => exact ite_tt (chain_last (thn (hc pins s3 σ H3 _ I3 q3) fun w' s4 ⟨z', H4, I4, r4, q4⟩ => ho' pins s4 σ H4 y z' u w' Q I4 r2 r4 q4))
theorem pt_chain {op op' : CmpOp} {r r' : R2} (ho : OpR X (compareOp op) r) (ho' : OpR X (compareOp op') r') (ha : PE X a ta) (hb : PE X b tb) (hc : PE X c tc)
    (hm : lastMarks [op, op'] [b, c] = false := by with_unfolding_all rfl) : PT X (.Compare a [op, op'] [b, c] pos) (tTest (tChain r r' ta tb tc)) := by
  intro pins s σ H Q I h
  refine isTrue_chain (thn (ha pins s σ H _ I h) fun v s1 ⟨x, H1, I1, r1, q1⟩ => test_link (thn (hb pins s1 σ H1 _ I1 q1) fun u s2 ⟨y, H2, I2, r2, q2⟩ =>
    thn (ho pins s2 σ H2 x y v u _ I2 r1 r2 q2) fun d s3 ⟨z, H3, I3, r3, k, e, q3⟩ => ?_)) hm
  subst e
  cases r3
  refine wpAny_truthy_bool ?_
  cases k with
  | false =>
    obtain ⟨k', e', q'⟩ := q3
    cases e'
    exact ite_ff ⟨H3, I3, q'⟩
  | true =>
    refine ite_tt (test_last (thn (hc pins s3 σ H3 _ I3 q3) fun w' s4 ⟨z', H4, I4, r4, q4⟩ => thn (ho' pins s4 σ H4 y z' u w' _ I4 r2 r4 q4) fun d' s5 ⟨z2, H5, I5, r5, k2, e2, q5⟩ => ?_))
    subst e2
    cases r5
    exact wpAny_truthy_bool ⟨H5, I5, q5⟩

/-! ### truth -/
/-- a value's truth by the abstract heap -/
def TruV (K : PySem.W.Frag) (x : V) (H : Hp) (k : Bool) : Prop :=
  match x with
  | .non => k = false
  | .bl b => k = b
  | .int i => k = (i != 0)
  | .str y => y.length ≤ sizeLine ∧ k = ((y.length : Int) != 0)
  | .byt y => y.size ≤ sizeLine ∧ k = ((y.size : Int) != 0)
  | .ref p => (∃ xs, SqL K H p xs ∧ k = !xs.isEmpty) ∨ (∃ xs, SqT K H p xs ∧ k = !xs.isEmpty) ∨ ∃ kvs, H p = some (.dK kvs) ∧ k = !kvs.isEmpty
  | _ => False
theorem isEmpty_kv {κ : Type} {kvs : List (κ × V)} {vs : List (κ × Value)} (r : KV kvs vs) : (!vs.isEmpty) = !kvs.isEmpty := by
  cases r <;> rfl
theorem isEmpty_of {xs : List V} {its : List Value} (r : Vals xs its) : (!its.toArray.isEmpty) = !xs.isEmpty := by
  cases r <;> simp
theorem line63 : (sizeLine : Nat) < 2 ^ 63 := by rw [sizeLine_eq]; decide
theorem tru_ok : TruR X (fun x H Q => ∃ k, TruV X.K x H k ∧ Q k H) := by
  intro pins s σ H x v Q I rx h
  obtain ⟨k, e, q⟩ := h
  have hl := line63
  have hs : sizeLine = 16777216 := sizeLine_eq
  cases x with
  | non =>
    cases rx
    have e' : k = false := e
    subst e'
    exact truthy_none ⟨H, I, q⟩
  | bl b =>
    cases rx
    have e' : k = b := e
    subst e'
    exact wpAny_truthy_bool ⟨H, I, q⟩
  | int i =>
    obtain ⟨t, rfl⟩ := rx
    have e' : k = (i != 0) := e
    subst e'
    exact PySem.P.truthy_int ⟨H, I, q⟩
  | str y =>
    obtain ⟨t, rfl⟩ := rx
    obtain ⟨hy, e'⟩ : y.length ≤ sizeLine ∧ k = ((y.length : Int) != 0) := e
    subst e'
    exact PySem.P.truthy_str (by omega) ⟨H, I.tok _, q⟩
  | byt y =>
    obtain ⟨t, rfl⟩ := rx
    obtain ⟨hy, e'⟩ : y.size ≤ sizeLine ∧ k = ((y.size : Int) != 0) := e
    subst e'
    exact PySem.W.truthy_bytes (by omega) ⟨H, I.tok _, q⟩
  | ref p =>
    cases rx
    have e' : (∃ xs, SqL X.K H p xs ∧ k = !xs.isEmpty) ∨ (∃ xs, SqT X.K H p xs ∧ k = !xs.isEmpty) ∨ ∃ kvs, H p = some (.dK kvs) ∧ k = !kvs.isEmpty := e
    rcases e' with ⟨xs, hx, e'⟩ | ⟨xs, hx, e'⟩ | ⟨kvs, hx, e'⟩
    · subst e'
      obtain ⟨its, r, pl, hz⟩ := I.list hx
      have hlen := r.length
      exact wpAny_truthy_list pl.isList (by simp only [List.size_toArray]; omega) ⟨H, I.tok _, by rw [isEmpty_of r]; exact q⟩
    · subst e'
      obtain ⟨its, r, pl, hz⟩ := I.tuple hx
      have hlen := r.length
      exact truthy_tuple pl (by simp only [List.size_toArray]; omega) ⟨H, I.tok _, by rw [isEmpty_of r]; exact q⟩
    · subst e'
      obtain ⟨hz, hS, vs, r, m⟩ : kvs.length ≤ sizeLine ∧ (p == sysModules) = false ∧ ∃ vs, KV kvs vs ∧ s.heap.DictOf (mixKind X.prog X.w) p vs := I.hok p _ hx
      have hlen : kvs.length = vs.length := Paired.length r
      exact wpAny_truthy_dict hS m (by omega) ⟨H, I.tok _, by rw [isEmpty_kv r]; exact q⟩
  | _ => exact (show False from e).elim
/-- any expression whose test is its value's truth (a name, a call, a subscript, a field ..: he by fun _ => rfl) -/
theorem pt_truth (ha : PE X a ta) (he : ∀ whole, isTrue a X.env whole = (do let v ← whole; standAt a.pos; holding [v] (truthy v))) :
    PT X a (fun σ H Q => ta σ H fun x H' => ∃ k, TruV X.K x H' k ∧ Q k H') := by
  intro pins s σ H Q I h
  exact isTrue_plain (thn (ha pins s σ H _ I h) fun v s1 ⟨x, H1, I1, r1, q1⟩ => tru_ok pins s1 σ H1 x v Q I1 r1 q1) (he _)

/-! ### strs and bytes -/
theorem pe_byt {x : List UInt8} {k : Nat} : PE X (.Constant (.bytes x) k pos) (fun _ H Q => Q (.byt x.toArray) H) := fun _ _ _ H _ I h => PySem.W.Constant_bytes ⟨.byt x.toArray, H, I.tok _, ⟨_, rfl⟩, h⟩
theorem op_add_str : OpR X (binaryOp .Add) (fun x y H Q => ∃ i j, x = .str i ∧ y = .str j ∧ i.length + j.length ≤ sizeLine ∧ Q (.str (i ++ j)) H) := by
  intro pins s σ H x y v u Q I rx ry h
  obtain ⟨i, j, rfl, rfl, hz, q⟩ := h
  obtain ⟨t, rfl⟩ := rx
  obtain ⟨t', rfl⟩ := ry
  exact add_str (fun t' tk => ⟨.str (i ++ j), H, I.tok _, ⟨_, rfl⟩, q⟩) hz
theorem iop_add_str : OpR X (inplaceOp .Add) (fun x y H Q => ∃ i j, x = .str i ∧ y = .str j ∧ i.length + j.length ≤ sizeLine ∧ Q (.str (i ++ j)) H) := by
  intro pins s σ H x y v u Q I rx ry h
  obtain ⟨i, j, rfl, rfl, hz, q⟩ := h
  obtain ⟨t, rfl⟩ := rx
  obtain ⟨t', rfl⟩ := ry
  exact iadd_str (fun t' tk => ⟨.str (i ++ j), H, I.tok _, ⟨_, rfl⟩, q⟩) hz
theorem op_add_byt : OpR X (binaryOp .Add) (fun x y H Q => ∃ i j, x = .byt i ∧ y = .byt j ∧ i.size + j.size ≤ 16777216 ∧ Q (.byt (i ++ j)) H) := by
  intro pins s σ H x y v u Q I rx ry h
  obtain ⟨i, j, rfl, rfl, hz, q⟩ := h
  obtain ⟨t, rfl⟩ := rx
  obtain ⟨t', rfl⟩ := ry
  exact PySem.W.KBy.add_bytes hz (fun t' tk => ⟨.byt (i ++ j), H, I.tok _, ⟨_, rfl⟩, q⟩)

def PlainIxT (b : Expr) : Prop := ∀ o i, subscripted b false o i = operate [o, i] (getItem o i)
/-- s[i], 0 ≤ i < len -/
theorem pe_item_str (ha : PE X a ta) (hb : PE X b tb) (hs : PlainIxT b) :
    PE X (.Subscript a b pos) (tOp (fun x y H Q => ∃ z i c, x = .str z ∧ y = .int i ∧ 0 ≤ i ∧ i < 2 ^ 63 ∧ i < z.length ∧ z.cps[i.toNat]? = some c ∧ Q (.str ⟨#[c]⟩) H) ta tb) := by
  intro pins s σ H Q I h
  refine Subscript_ (binT ha hb I h fun v u s2 x y H2 I2 rx ry q => ?_)
  obtain ⟨z, i, c, rfl, rfl, h0, h63, h1, hc, q⟩ := q
  obtain ⟨t, rfl⟩ := rx
  obtain ⟨t', rfl⟩ := ry
  have e : seqIndex? i z.length = some i.toNat := PySem.StrLaws.seqIndex_nonneg h0 h1
  exact tail_any (typeIs_str s2 z t) slot_str_getitem.lookup (getItem_str (c := c) (by
    have e1 : decide (i < -(2 ^ 63 : Int)) = false := decide_eq_false (by omega)
    have e2 : decide (i ≥ 2 ^ 63) = false := decide_eq_false (by omega)
    rw [e1, e2] <;> rfl) (by rw [e]; exact hc) ⟨.str ⟨#[c]⟩, H2, I2.tok _, ⟨_, rfl⟩, q⟩) (hs _ _)
/-- b[i], 0 ≤ i < len -/
theorem pe_item_byt (ha : PE X a ta) (hb : PE X b tb) (hs : PlainIxT b) :
    PE X (.Subscript a b pos) (tOp (fun x y H Q => ∃ (z : List UInt8) (i : Int), x = .byt z.toArray ∧ y = .int i ∧ z.length ≤ sizeLine ∧ 0 ≤ i ∧ i < z.length ∧ Q (.int ((z.getD i.toNat 0).toNat : Nat)) H) ta tb) := by
  intro pins s σ H Q I h
  refine Subscript_ (binT ha hb I h fun v u s2 x y H2 I2 rx ry q => ?_)
  obtain ⟨z, i, rfl, rfl, hz, h0, h1, q⟩ := q
  obtain ⟨t, rfl⟩ := rx
  obtain ⟨t', rfl⟩ := ry
  have hl : sizeLine = 16777216 := sizeLine_eq
  exact tail_any (PySem.W.typeIs_bytes s2 z.toArray t) PySem.W.FB.slot_bytes_getitem.lookup (PySem.W.getItem_bytes (by omega) h0 h1 ⟨.int ((z.getD i.toNat 0).toNat : Nat), H2, I2.tok _, ⟨_, rfl⟩, q⟩) (hs _ _)

/-! ### scalar builtins, by CallR -/
theorem vals1 {x : V} {us : List Value} (r : Vals [x] us) : ∃ u, us = [u] ∧ RelV x u := by
  cases r with
  | cons r1 r2 => cases r2; exact ⟨_, rfl, r1⟩
theorem vals2 {x y : V} {us : List Value} (r : Vals [x, y] us) : ∃ u w', us = [u, w'] ∧ RelV x u ∧ RelV y w' := by
  cases r with
  | cons r1 r2 =>
    cases r2 with
    | cons r3 r4 => cases r4; exact ⟨_, _, rfl, r1, r3⟩
theorem call_abs : CallR X (.builtin "abs") (fun xs H Q => ∃ i, xs = [.int i] ∧ Q (.int (if i < 0 then -i else i)) H) := by
  intro pins s σ H xs us Q I r h
  obtain ⟨i, rfl, q⟩ := h
  obtain ⟨u, rfl, t, rfl⟩ := vals1 r
  exact call_abs_int fun u tk => ⟨.int (if i < 0 then -i else i), H, I.tok _, ⟨_, rfl⟩, q⟩
theorem call_max2 (hc : X.calm = true) : CallR X (.builtin "max") (fun xs H Q => ∃ i j, xs = [.int i, .int j] ∧ Q (.int (if j > i then j else i)) H) := by
  intro pins s σ H xs us Q I r h
  obtain ⟨i, j, rfl, q⟩ := h
  obtain ⟨u, w', rfl, ⟨t, rfl⟩, ⟨t', rfl⟩⟩ := vals2 r
  refine max_two_ints (I.ok.hd hc) fun h' tk k => ⟨_, H, I.kept k, ?_, q⟩
  by_cases hj : j > i
  · rw [if_pos hj, if_pos hj]; exact ⟨_, rfl⟩
  · rw [if_neg hj, if_neg hj]; exact ⟨_, rfl⟩
theorem call_min2 (hc : X.calm = true) : CallR X (.builtin "min") (fun xs H Q => ∃ i j, xs = [.int i, .int j] ∧ Q (.int (if j < i then j else i)) H) := by
  intro pins s σ H xs us Q I r h
  obtain ⟨i, j, rfl, q⟩ := h
  obtain ⟨u, w', rfl, ⟨t, rfl⟩, ⟨t', rfl⟩⟩ := vals2 r
  refine min_two_ints (I.ok.hd hc) fun h' tk k => ⟨_, H, I.kept k, ?_, q⟩
  by_cases hj : j < i
  · rw [if_pos hj, if_pos hj]; exact ⟨_, rfl⟩
  · rw [if_neg hj, if_neg hj]; exact ⟨_, rfl⟩
theorem call_int1 : CallR X (.type "int") (fun xs H Q => (∃ i, xs = [.int i] ∧ Q (.int i) H) ∨ ∃ k, xs = [.bl k] ∧ Q (.int (if k then 1 else 0)) H) := by
  intro pins s σ H xs us Q I r h
  rcases h with ⟨i, rfl, q⟩ | ⟨k, rfl, q⟩
  · obtain ⟨u, rfl, t, rfl⟩ := vals1 r
    exact call_int_int ⟨.int i, H, I, ⟨_, rfl⟩, q⟩
  · obtain ⟨u, rfl, r1⟩ := vals1 r
    cases r1
    exact call_int_bool ⟨.int (if k then 1 else 0), H, I.tok _, ⟨_, rfl⟩, q⟩
theorem call_bool1 : CallR X (.type "bool") (fun xs H Q => (∃ i, xs = [.int i] ∧ Q (.bl (i != 0)) H) ∨ ∃ k, xs = [.bl k] ∧ Q (.bl k) H) := by
  intro pins s σ H xs us Q I r h
  rcases h with ⟨i, rfl, q⟩ | ⟨k, rfl, q⟩
  · obtain ⟨u, rfl, t, rfl⟩ := vals1 r
    exact call_bool_int ⟨.bl (i != 0), H, I, rfl, q⟩
  · obtain ⟨u, rfl, r1⟩ := vals1 r
    cases r1
    exact call_bool_bool ⟨.bl k, H, I, rfl, q⟩
theorem call_str_int : CallR X (.type "str") (fun xs H Q => ∃ i, xs = [.int i] ∧ i.natAbs.log2 < 1920 ∧ Q (.str (toString i)) H) := by
  intro pins s σ H xs us Q I r h
  obtain ⟨i, rfl, hz, q⟩ := h
  obtain ⟨u, rfl, t, rfl⟩ := vals1 r
  exact PySem.P.str_of_int hz ⟨.str _, H, I.tok _, ⟨_, rfl⟩, q⟩
theorem call_ord : CallR X (.builtin "ord") (fun xs H Q => ∃ x, xs = [.str x] ∧ x.length = 1 ∧ Q (.int (x.cps.getD 0 0 : Nat)) H) := by
  intro pins s σ H xs us Q I r h
  obtain ⟨x, rfl, hz, q⟩ := h
  obtain ⟨u, rfl, t, rfl⟩ := vals1 r
  exact ord_of_one hz ⟨.int _, H, I.tok _, ⟨_, rfl⟩, q⟩
theorem call_chr : CallR X (.builtin "chr") (fun xs H Q => ∃ i, xs = [.int i] ∧ 0 ≤ i ∧ i ≤ 1114111 ∧ Q (.str ⟨#[i.toNat]⟩) H) := by
  intro pins s σ H xs us Q I r h
  obtain ⟨i, rfl, h0, h1, q⟩ := h
  obtain ⟨u, rfl, t, rfl⟩ := vals1 r
  exact chr_of_range h0 h1 ⟨.str _, H, I.tok _, ⟨_, rfl⟩, q⟩
/-- len of a str, a bytes, a list, a tuple -/
def LenV (K : PySem.W.Frag) (x : V) (H : Hp) (n : Nat) : Prop :=
  match x with
  | .str y => y.length ≤ sizeLine ∧ n = y.length
  | .byt y => y.size ≤ sizeLine ∧ n = y.size
  | .ref p => (∃ xs, SqL K H p xs ∧ n = xs.length) ∨ ∃ xs, SqT K H p xs ∧ n = xs.length
  | _ => False
theorem call_len : CallR X (.builtin "len") (fun xs H Q => ∃ x n, xs = [x] ∧ LenV X.K x H n ∧ Q (.int n) H) := by
  intro pins s σ H xs us Q I r h
  obtain ⟨x, n, rfl, e, q⟩ := h
  obtain ⟨u, rfl, rx⟩ := vals1 r
  have hl := line63
  have hs : sizeLine = 16777216 := sizeLine_eq
  cases x with
  | str y =>
    obtain ⟨t, rfl⟩ := rx
    obtain ⟨hy, e'⟩ : y.length ≤ sizeLine ∧ n = y.length := e
    subst e'
    exact len_str (by omega) ⟨.int _, H, I.tok _, ⟨_, rfl⟩, q⟩
  | byt y =>
    obtain ⟨t, rfl⟩ := rx
    obtain ⟨hy, e'⟩ : y.size ≤ sizeLine ∧ n = y.size := e
    subst e'
    exact PySem.W.len_bytes (by omega) ⟨.int _, H, I.tok _, ⟨_, rfl⟩, q⟩
  | ref p =>
    cases rx
    have e' : (∃ xs, SqL X.K H p xs ∧ n = xs.length) ∨ ∃ xs, SqT X.K H p xs ∧ n = xs.length := e
    rcases e' with ⟨xs, hx, e'⟩ | ⟨xs, hx, e'⟩
    · subst e'
      obtain ⟨its, r', pl, hz⟩ := I.list hx
      have hlen := r'.length
      exact Calls.call_len_list pl.isList (by simp only [List.size_toArray]; omega) ⟨.int xs.length, H, I.tok _, ⟨_, by simp only [List.size_toArray]; rw [hlen]⟩, q⟩
    · subst e'
      obtain ⟨its, r', pl, hz⟩ := I.tuple hx
      have hlen := r'.length
      exact len_tuple pl (by simp only [List.size_toArray]; omega) ⟨.int xs.length, H, I.tok _, ⟨_, by simp only [List.size_toArray]; rw [hlen]⟩, q⟩
  | _ => exact (show False from e).elim
/-- divmod: a new tuple -/
theorem call_divmod : CallR X (.builtin "divmod") (fun xs H Q => ∃ i j, xs = [.int i, .int j] ∧ CDiv i j ∧ ∀ p, H p = none → Q (.ref p) (upd H p (.tup [.int (i / j), .int (i % j)]))) := by
  intro pins s σ H xs us Q I r h
  obtain ⟨i, j, rfl, ⟨h1, h2⟩, q⟩ := h
  obtain ⟨u, w', rfl, ⟨t, rfl⟩, ⟨t', rfl⟩⟩ := vals2 r
  refine divmod_int (by omega) ?_ (.inl (PyProof.noPylong_small (by omega)))
  rw [Int.fdiv_eq_ediv_of_nonneg i (by omega), Int.fmod_eq_emod_of_nonneg i (by omega)]
  have hn : H s.heap.objs.size = none := I.hok.fresh (Nat.le_refl _)
  refine ⟨.ref s.heap.objs.size, _, ?_, rfl, q _ hn⟩
  refine I.laid (fun b o e => Heap.get?_push_of_some _ e) (Nat.le_refl _) ⟨by simp only [List.length_cons, List.length_nil]; rw [sizeLine_eq]; decide, [.int (i / j) s.toks, .int (i % j) (s.toks + 1)], .cons ⟨_, rfl⟩ (.cons ⟨_, rfl⟩ .nil), ?_⟩
  exact ⟨_, Heap.get?_push_size s.heap rfl, rfl, 0, rfl⟩
end
end L2

namespace L2
open PySem PySem.Spec PyProof.Rows

/-! ### an instance, its attributes a map -/
structure ObjM (h : Heap) (x dx C : Addr) (mA : Str → Option Value) : Prop where
  obj : h.get? x = some (PySem.W.instObj C dx)
  ns : h.Ns1 dx mA
  ne : dx ≠ x

theorem lookIn_ns {h : Heap} {dx : Addr} {mA : Str → Option Value} (n : h.Ns1 dx mA) : ∃ od, h.get? dx = some od ∧ ∀ name, PySem.W.lookIn name od = some (mA name) := by
  obtain ⟨o, es, ep, ho, hd, hk, _, hm⟩ := n
  refine ⟨o, ho, fun name => ?_⟩
  have e := hm name
  unfold nsFind findBy at e
  rw [← Array.find?_toList] at e
  unfold PySem.W.lookIn
  rw [hd]
  dsimp only
  split
  · rename_i y q
    rw [q] at e
    exact congrArg some e
  · rename_i q
    rw [q] at e
    have a : es.toList.any (·.refKey) = false := by
      rw [List.any_eq_false]
      intro y hy
      obtain ⟨z, t, hkey⟩ := hk y (Array.mem_toList_iff.mp hy)
      simp [DictEntry.refKey, hkey]
    have a' : ¬ es.toList.any (·.refKey) = true := by rw [a]; exact Bool.false_ne_true
    rw [if_neg a']
    exact congrArg some e

theorem ObjM.look {h : Heap} {x dx C : Addr} {mA : Str → Option Value} (I : ObjM h x dx C mA) : ∃ od, PySem.W.InstAt h x (PySem.W.instObj C dx) C (some od) ∧ ∀ name, PySem.W.lookIn name od = some (mA name) :=
  let ⟨od, ho, hl⟩ := lookIn_ns I.ns
  ⟨od, ⟨I.obj, rfl, rfl, ho⟩, hl⟩

section
variable {prog : Program} {w : World} {A : Around} {E : Value → Shared → Prop} {s : Shared} {K : PySem.W.Frag} {x dx C f : Addr} {mA : Str → Option Value} {name : Str} {v : Value}

theorem get_map {expr : Bool} {Q : Value → Shared → Prop} (X : K.In s.heap) (I : ObjM s.heap x dx C mA) (hg : PySem.W.plainGet K C name = true) (hh : PySem.W.hasDictIn K C = true)
    (ha : PySem.W.findIn K (.ref C) name = some none) (hv : mA name = some v) (hv' : PySem.W.handedIn v = true) (h : Q v { s with toks := s.toks + 1 }) :
    wpAny (model prog w) A (getAttr (.ref x) name expr) Q E s := by
  obtain ⟨od, J, hl⟩ := I.look
  exact PySem.W.get_value X J (PySem.W.plainGet_of hg).1 (PySem.W.findObj_own hh ha rfl (by rw [hl, hv])) hv' h

theorem get_const {expr : Bool} {a : Value} {Q : Value → Shared → Prop} (X : K.In s.heap) (I : ObjM s.heap x dx C mA) (hg : PySem.W.plainGet K C name = true) (hh : PySem.W.hasDictIn K C = true)
    (ha : PySem.W.findIn K (.ref C) name = some (some a)) (hn : PySem.W.specialIn K a "__get__" = some none) (hc : PySem.W.copiedNames.contains name = false) (hv : mA name = none) (hv' : PySem.W.handedIn a = true)
    (h : Q a { s with toks := s.toks + 1 }) : wpAny (model prog w) A (getAttr (.ref x) name expr) Q E s := by
  obtain ⟨od, J, hl⟩ := I.look
  exact PySem.W.get_value X J (PySem.W.plainGet_of hg).1 (PySem.W.findObj_cls hh ha hn hv' hc (by rw [hl, hv])) hv' h

theorem get_meth {pl : Sem Bool} {Q : Value × List Value → Shared → Prop} (X : K.In s.heap) (I : ObjM s.heap x dx C mA) (hg : PySem.W.plainGet K C name = true)
    (hf : PySem.W.findIn K (.ref C) name = some (some (.ref f))) (ht : PySem.W.isFn K (.ref f) = true) (hv : mA name = none) (h : Q (.ref f, [.ref x]) s) :
    wpAny (model prog w) A (getMethod (.ref x) name pl) Q E s := by
  obtain ⟨od, J, hl⟩ := I.look
  exact PySem.W.method_fn X J (PySem.W.plainGet_of hg).1 (PySem.W.plainGet_of hg).2 hf (beq_iff_eq.mp ht) (by show (PySem.W.lookIn name od).map (·.isSome) = some false; rw [hl, hv]; rfl) h

theorem set_map {ns : List Str} {Q : Unit → Shared → Prop} (X : K.In s.heap) (I : ObjM s.heap x dx C mA)
    (hs : PySem.W.findIn K (.ref C) "__setattr__" = some (some (.builtin "object.__setattr__"))) (hp : PySem.W.plainOver K C = true) (ht : PySem.W.takerIn K C name = some none) (hh : PySem.W.hasDictIn K C = true)
    (hw : PySem.Within mA ns) (hsz : ns.length ≤ sizeLine)
    (h : ∀ h', ObjM h' x dx C (fun y => if y = name then some v else mA y) → Heap.SameBut dx s.heap h' → Q () { s with heap := h', toks := s.toks + 2 }) :
    wpAny (model prog w) A (setAttr (.ref x) name v) Q E s := by
  obtain ⟨od, J, hl⟩ := I.look
  refine PySem.W.set_plain X J hs (PySem.W.osa_open (s := { s with toks := s.toks + 1 }) (r := none) X J hp ht fun b => ?_)
  obtain ⟨cd, hc, hd'⟩ := PySem.W.any_some hh
  have hx : s.heap.get? x = some ⟨.ref C, some dx, .plain, #[]⟩ := I.obj
  refine wpAny_bind (wpAny_pure (wpAny_bind (wpAny_bind (wpAny_loadPart hx (wpAny_bind (PySem.W.Looks.here (s := { s with toks := s.toks + 1 }) (PySem.W.looks_clsIn X hc) ?_))))))
  rw [hd']
  refine wpAny_pure (a := some dx) (wpAny_bind (wpAny_pure (wpAny_bind ?_)))
  refine wpAny_nsSet1 (s := { s with toks := s.toks + 1 }) I.ns fun h' hn2 hs2 => ?_
  obtain ⟨oD, esD, epD, hoD, hdD, hcD⟩ := hn2.count (PySem.Within.cons name v hw)
  refine wpAny_bind (wpAny_lookBehind hoD (by rw [hdD]; exact pastItsLine_dict (Nat.le_trans hcD (by rw [List.length_cons]; omega))) ?_)
  exact wpAny_pure (h _ ⟨(hs2.2 _ (Ne.symm I.ne)).trans I.obj, hn2, I.ne⟩ hs2)

/-- C(..): the dict at the heap's end, the instance behind it; then its __init__ -/
theorem make_map {R : Result → Shared → Prop} {vs : List Value} {kw : List (Str × Value)} (X : K.In s.heap) (hm : PySem.W.makesIn K C = true)
    (hi : PySem.W.findIn K (.ref C) "__init__" = some (some (.ref f))) (hf : PySem.W.typeIn K (.ref f) = some (.type "function"))
    (h : codeAny (model prog w) (A.under (.builtin "type.__call__" ⟨.ref C :: vs, kw⟩)) (.call (.ref f) ⟨.ref (s.heap.objs.size + 1) :: vs, kw⟩) (PySem.W.InitBack (s.heap.objs.size + 1) R)
      { s with heap := (s.heap.push PySem.W.emptyDict).push (PySem.W.instObj C s.heap.objs.size) }) :
    codeAny (model prog w) A (.call (.ref C) ⟨vs, kw⟩) R s := by
  obtain ⟨hh, g, d, t, os⟩ := s
  exact PySem.W.make_core (PySem.W.makes_of X hm) (PySem.W.looks_findIn X hi) (fun self => PySem.W.bind_fn X self hf) (.inl rfl) h
/-- C() where there is no __init__ but object's -/
theorem make_map0 {R : Result → Shared → Prop} (X : K.In s.heap) (hm : PySem.W.makesIn K C = true)
    (hi : PySem.W.findIn K (.ref C) "__init__" = some (some (.builtin "object.__init__")))
    (hb : ∀ self, PySem.W.Looks (model prog w) s.heap (bindSpecial (.builtin "object.__init__") self) (.builtin "object.__init__", [self]))
    (h : codeAny (model prog w) (A.under (.builtin "type.__call__" ⟨[.ref C], []⟩)) (.call (.builtin "object.__init__") ⟨[.ref (s.heap.objs.size + 1)], []⟩) (PySem.W.InitBack (s.heap.objs.size + 1) R)
      { s with heap := (s.heap.push PySem.W.emptyDict).push (PySem.W.instObj C s.heap.objs.size) }) :
    codeAny (model prog w) A (.call (.ref C) ⟨[], []⟩) R s := by
  obtain ⟨hh, g, d, t, os⟩ := s
  exact PySem.W.make_core (PySem.W.makes_of X hm) (PySem.W.looks_findIn X hi) hb (.inr ⟨rfl, rfl⟩) h
end

/-! ### the attributes as a list of pairs -/
def putF (f : Str) (v : V) : List (Str × V) → List (Str × V)
  | [] => [(f, v)]
  | (g, x) :: r => if g = f then (g, v) :: r else (g, x) :: putF f v r
theorem lookup_putF (f g : Str) (v : V) : ∀ fs : List (Str × V), (putF f v fs).lookup g = if g = f then some v else fs.lookup g
  | [] => by
    show List.lookup g [(f, v)] = _
    by_cases h : g = f
    · have hb : (g == f) = true := beq_iff_eq.mpr h
      simp only [List.lookup, hb, if_pos h]
    · have hb : (g == f) = false := beq_eq_false_iff_ne.mpr h
      simp only [List.lookup, hb, if_neg h]
  | (k, x) :: r => by
    have ih := lookup_putF f g v r
    rw [show putF f v ((k, x) :: r) = (if k = f then (k, v) :: r else (k, x) :: putF f v r) from rfl]
    by_cases hk : k = f
    · rw [if_pos hk]
      by_cases h : g = k
      · have hb : (g == k) = true := beq_iff_eq.mpr h
        simp only [List.lookup, hb, if_pos (h.trans hk)]
      · have hb : (g == k) = false := beq_eq_false_iff_ne.mpr h
        simp only [List.lookup, hb, if_neg (fun e : g = f => h (e.trans hk.symm))]
    · rw [if_neg hk]
      by_cases h : g = k
      · have hb : (g == k) = true := beq_iff_eq.mpr h
        simp only [List.lookup, hb, if_neg (fun e : g = f => hk (h.symm.trans e))]
      · have hb : (g == k) = false := beq_eq_false_iff_ne.mpr h
        simp only [List.lookup, hb]
        exact ih
theorem keys_putF (f : Str) (v : V) : ∀ fs : List (Str × V), f ∈ (putF f v fs).map (·.1) ∧ ∀ g, g ∈ fs.map (·.1) → g ∈ (putF f v fs).map (·.1)
  | [] => ⟨by simp [putF], fun g h => by simp at h⟩
  | (k, x) :: r => by
    obtain ⟨i1, i2⟩ := keys_putF f v r
    rw [show putF f v ((k, x) :: r) = (if k = f then (k, v) :: r else (k, x) :: putF f v r) from rfl]
    by_cases hk : k = f
    · rw [if_pos hk]
      subst hk
      exact ⟨by simp, fun g h => by simpa using h⟩
    · rw [if_neg hk]
      refine ⟨?_, fun g h => ?_⟩
      · rw [List.map_cons]
        exact List.mem_cons_of_mem _ i1
      · rw [List.map_cons] at h ⊢
        rcases List.mem_cons.mp h with e | e
        · exact List.mem_cons.mpr (.inl e)
        · exact List.mem_cons_of_mem _ (i2 g e)
theorem length_putF (f : Str) (v : V) : ∀ fs : List (Str × V), (putF f v fs).length ≤ fs.length + 1
  | [] => by simp [putF]
  | (k, x) :: r => by
    have ih := length_putF f v r
    rw [show putF f v ((k, x) :: r) = (if k = f then (k, v) :: r else (k, x) :: putF f v r) from rfl]
    by_cases hk : k = f
    · rw [if_pos hk, List.length_cons, List.length_cons]; omega
    · rw [if_neg hk, List.length_cons, List.length_cons]; omega

theorem RelO.some_of {v : V} {o : Option Value} (r : RelO (some v) o) : ∃ u, o = some u ∧ RelV v u := by
  cases o with
  | none => exact (show False from r).elim
  | some u => exact ⟨u, rfl, r⟩
theorem RelO.none_of {o : Option Value} (r : RelO none o) : o = none := by
  cases o with
  | none => rfl
  | some u => exact (show False from r).elim
theorem handed_of {v : V} {u : Value} (r : RelV v u) : PySem.W.handedIn u = true := by
  cases v with
  | non => cases (show u = Value.none from r); rfl
  | bl b => cases (show u = Value.bool b from r); rfl
  | int i => obtain ⟨t, e⟩ := (show ∃ t, u = Value.int i t from r); cases e; rfl
  | str x => obtain ⟨t, e⟩ := (show ∃ t, u = Value.str x t from r); cases e; rfl
  | byt b => obtain ⟨t, e⟩ := (show ∃ t, u = Value.bytes b t from r); cases e; rfl
  | flt b => obtain ⟨t, e⟩ := (show ∃ t, u = Value.float b t from r); cases e; rfl
  | ref a => cases (show u = Value.ref a from r); rfl
  | ty n => cases (show u = Value.type n from r); rfl

section
variable {P : Program} {w : World} {H H' : Hp} {h h' : Heap} {a C dx : Addr} {fs fs' : List (Str × V)}
theorem ins_get (hok : HOk P w H h) (e : H a = some (.ins C dx fs)) : ∃ mA, ObjM h a dx C mA ∧ (∀ f, RelO (fs.lookup f) (mA f)) ∧ PySem.Within mA (fs.map (·.1)) ∧ fs.length ≤ 1000 ∧ H dx = some (.own a) := by
  obtain ⟨d, z, ne, ob, mA, n, r, q⟩ := (show ObjOk P w H h a (.ins C dx fs) from hok a _ e)
  exact ⟨mA, ⟨ob, n, ne⟩, r, q, z, d⟩
end

/-! ### what of the text a class must have -/
structure Cls (K : PySem.W.Frag) (C : Addr) : Prop where
  pg : PySem.W.plainGet K C Str.empty = true
  hd : PySem.W.hasDictIn K C = true
  po : PySem.W.plainOver K C = true
  sa : PySem.W.findIn K (.ref C) "__setattr__" = some (some (.builtin "object.__setattr__"))
theorem Cls.get {K : PySem.W.Frag} {C : Addr} (c : Cls K C) (f : Str) : PySem.W.plainGet K C f = true := c.pg
/-- no class of it has the name -/
def NoAttr (K : PySem.W.Frag) (C : Addr) (f : Str) : Prop := PySem.W.findIn K (.ref C) f = some none
theorem NoAttr.taker {K : PySem.W.Frag} {C : Addr} {f : Str} (n : NoAttr K C f) : PySem.W.takerIn K C f = some none := by
  unfold PySem.W.takerIn
  rw [show PySem.W.findIn K (.ref C) f = some none from n]
  rfl
/-- a constant of the class -/
structure Con (K : PySem.W.Frag) (C : Addr) (f : Str) (v : V) (u : Value) : Prop where
  at_ : PySem.W.findIn K (.ref C) f = some (some u)
  rel : RelV v u
  get : PySem.W.specialIn K u "__get__" = some none
  cp : PySem.W.copiedNames.contains f = false
/-- a method: a plain def of the class or of one above it -/
structure Meth (K : PySem.W.Frag) (C : Addr) (m : Str) (f : Addr) : Prop where
  at_ : PySem.W.findIn K (.ref C) m = some (some (.ref f))
  fn : PySem.W.isFn K (.ref f) = true
  kp : PySem.W.keepIn K (.ref f) = true

section
variable {X : Cx} {pins : List (Addr × Obj)} {σ : St} {H : Hp} {s : Shared} {a C dx : Addr} {fs : List (Str × V)} {f : Str} {v : V} {A : Around} {E : Value → Shared → Prop}

theorem getattr_ok {b : Bool} {Q : Value → Shared → Prop} (I : Inv X pins σ H s) (e : H a = some (.ins C dx fs)) (c : Cls X.K C) (n : NoAttr X.K C f) (l : fs.lookup f = some v)
    (h : ∀ u s', Inv X pins σ H s' → RelV v u → Q u s') : wpAny (model X.prog X.w) A (getAttr (.ref a) f b) Q E s := by
  obtain ⟨mA, O, r, _, _, _⟩ := ins_get I.hok e
  obtain ⟨u, hu, ru⟩ := RelO.some_of (v := v) (o := mA f) (by rw [← l]; exact r f)
  exact get_map I.kIn O (c.get f) c.hd n hu (handed_of ru) (h u _ (I.tok _) ru)

theorem getcon_ok {b : Bool} {u : Value} {Q : Value → Shared → Prop} (I : Inv X pins σ H s) (e : H a = some (.ins C dx fs)) (c : Cls X.K C) (k : Con X.K C f v u) (l : fs.lookup f = none)
    (h : ∀ s', Inv X pins σ H s' → Q u s') : wpAny (model X.prog X.w) A (getAttr (.ref a) f b) Q E s := by
  obtain ⟨mA, O, r, _, _, _⟩ := ins_get I.hok e
  have hn : mA f = none := RelO.none_of (by rw [← l]; exact r f)
  exact get_const I.kIn O (c.get f) c.hd k.at_ k.get k.cp hn (handed_of k.rel) (h _ (I.tok _))

theorem getmeth_ok {m : Str} {g : Addr} {pl : Sem Bool} {Q : Value × List Value → Shared → Prop} (I : Inv X pins σ H s) (e : H a = some (.ins C dx fs)) (c : Cls X.K C) (k : Meth X.K C m g) (l : fs.lookup m = none)
    (h : Q (.ref g, [.ref a]) s) : wpAny (model X.prog X.w) A (getMethod (.ref a) m pl) Q E s := by
  obtain ⟨mA, O, r, _, _, _⟩ := ins_get I.hok e
  have hn : mA m = none := RelO.none_of (by rw [← l]; exact r m)
  exact get_meth I.kIn O (c.get m) k.at_ k.fn hn h

theorem setattr_ok {y : V} {u : Value} {Q : Unit → Shared → Prop} (I : Inv X pins σ H s) (e : H a = some (.ins C dx fs)) (c : Cls X.K C) (n : NoAttr X.K C f) (hl : fs.length < 1000) (ry : RelV y u)
    (h : ∀ s', Inv X pins σ (upd H a (.ins C dx (putF f y fs))) s' → Q () s') : wpAny (model X.prog X.w) A (setAttr (.ref a) f u) Q E s := by
  obtain ⟨mA, O, r, wi, _, ho⟩ := ins_get I.hok e
  have hz : (fs.map (·.1)).length ≤ sizeLine := by rw [List.length_map, sizeLine_eq]; omega
  refine set_map I.kIn O c.sa c.po n.taker c.hd wi hz fun h' O' sb => h _ ?_
  have hd : ∃ o, h'.get? dx = some o := let ⟨o, _, _, e', _⟩ := O'.ns; ⟨o, e'⟩
  refine I.write (x := a) (e := dx) (by rw [e]; exact True.intro) (.inr ho) (fun b q hb z => (sb.2 b hb).trans z) hd ?_
  refine ⟨by rw [upd_ne O.ne]; exact ho, ?_, O.ne, O'.obj, _, O'.ns, fun g => ?_, fun g hg => ?_⟩
  · have := length_putF f y fs; omega
  · show RelO ((putF f y fs).lookup g) (if g = f then some u else mA g)
    rw [lookup_putF]
    by_cases q : g = f
    · rw [if_pos q, if_pos q]; exact ry
    · rw [if_neg q, if_neg q]; exact r g
  · by_cases q : g = f
    · rw [q]; exact (keys_putF f y fs).1
    · refine (keys_putF f y fs).2 g (wi g fun z => hg ?_)
      show (if g = f then some u else mA g) = none
      rw [if_neg q]; exact z

/-- a new instance, tracked, without attributes -/
theorem Inv.made (I : Inv X pins σ H s) : Inv X pins σ (upd (upd H s.heap.objs.size (.own (s.heap.objs.size + 1))) (s.heap.objs.size + 1) (.ins C s.heap.objs.size []))
    { s with heap := (s.heap.push PySem.W.emptyDict).push (PySem.W.instObj C s.heap.objs.size) } := by
  have e1 : (s.heap.push PySem.W.emptyDict).get? s.heap.objs.size = some PySem.W.emptyDict := Heap.get?_push_size s.heap rfl
  have e2 : ((s.heap.push PySem.W.emptyDict).push (PySem.W.instObj C s.heap.objs.size)).get? (s.heap.objs.size + 1) = some (PySem.W.instObj C s.heap.objs.size) := by
    have := Heap.get?_push_size (s.heap.push PySem.W.emptyDict) (o := PySem.W.instObj C s.heap.objs.size) rfl
    rwa [Heap.size_push] at this
  have e3 : (s.heap.push PySem.W.emptyDict).Ns s.heap.objs.size (fun _ => none) := ⟨PySem.W.emptyDict, #[], _, e1, rfl, (fun e he => absurd he (by simp)), fun _ => rfl⟩
  have I1 := I.laid (a := s.heap.objs.size) (o := .own (s.heap.objs.size + 1)) (h' := s.heap.push PySem.W.emptyDict) (t' := s.toks) (fun b u q => Heap.get?_push_of_some _ q) (Nat.le_refl _) ⟨_, e1⟩
  refine I1.laid (a := s.heap.objs.size + 1) (o := .ins C s.heap.objs.size []) (t' := s.toks) (fun b u q => Heap.get?_push_of_some _ q) (Nat.le_of_eq (Heap.size_push _ _)) ?_
  have ne : s.heap.objs.size ≠ s.heap.objs.size + 1 := Nat.ne_of_lt (Nat.lt_succ_self _)
  refine ⟨by rw [upd_ne ne, upd_same], Nat.zero_le _, ne, e2, fun _ => none, (Heap.Ns1.of_empty e3).at fun o q => Heap.get?_push_of_some _ q, fun _ => True.intro, fun y hy => absurd rfl hy⟩

/-- e.f where nothing but the object is asked: through attributeBase (super) and the last hold -/
theorem attr_of {prog : Program} {w : World} {env : Env} {e : Expr} {f : Str} {pos : Pos} {s : Shared} {Q : Value → Shared → Prop} (hb : attributeBase e f env (eval e env) = eval e env)
    (h : wpAny (model prog w) A (eval e env) (fun o s₁ => wpAny (model prog w) A (getAttr o f true) Q E s₁) E s) : wpAny (model prog w) A (eval (.Attribute e f pos) env) Q E s :=
  Attribute_any_ h (by rw [arm_eval_Attribute, hb])
end

/-! ### readings and rules -/
/-- e.f, an attribute of the instance -/
def tFld (K : PySem.W.Frag) (ta : TE) (f : Str) : TE := fun σ H Q => ta σ H fun x H1 => ∃ a C dx fs v, x = .ref a ∧ H1 a = some (.ins C dx fs) ∧ Cls K C ∧ NoAttr K C f ∧ fs.lookup f = some v ∧ Q v H1
/-- e.f, a constant of the class -/
def tCon (K : PySem.W.Frag) (ta : TE) (f : Str) : TE := fun σ H Q => ta σ H fun x H1 => ∃ a C dx fs v u, x = .ref a ∧ H1 a = some (.ins C dx fs) ∧ Cls K C ∧ Con K C f v u ∧ fs.lookup f = none ∧ Q v H1
/-- e.f = value -/
def sFld (K : PySem.W.Frag) (ta tv : TE) (f : Str) : TS := fun D σ H => tv σ H fun y H1 => ta σ H1 fun x H2 => ∃ a C dx fs, x = .ref a ∧ H2 a = some (.ins C dx fs) ∧ Cls K C ∧ NoAttr K C f ∧ fs.length < 1000 ∧
  D.nx σ (upd H2 a (.ins C dx (putF f y fs)))
/-- an augmented operator on two values -/
def InOp (X : Cx) (op : Operator) (rd : V → V → Hp → VK → Prop) : Prop :=
  ∀ (pins : List (Addr × Obj)) (s : Shared) (σ : St) (H : Hp) (x y : V) (u v : Value) (Q : VK), Inv X pins σ H s → RelV x u → RelV y v → rd x y H Q → wpAny (model X.prog X.w) X.A (inplaceOp op u v) (EP X pins σ Q) X.xe s
/-- e.f op= value -/
def sFldAug (K : PySem.W.Frag) (ta tv : TE) (rd : V → V → Hp → VK → Prop) (f : Str) : TS := fun D σ H => ta σ H fun x H1 => ∃ a C dx fs v, x = .ref a ∧ H1 a = some (.ins C dx fs) ∧ Cls K C ∧ NoAttr K C f ∧ fs.lookup f = some v ∧
  tv σ H1 fun y H2 => rd v y H2 fun z H3 => ∃ dx' fs', H3 a = some (.ins C dx' fs') ∧ fs'.length < 1000 ∧ D.nx σ (upd H3 a (.ins C dx' (putF f z fs')))

section
variable {X : Cx} {o e value : Expr} {f : Str} {pos pos' tpos : Pos} {ta tv : TE}
theorem pe_fld (he : PE X e ta) (hb : attributeBase e f X.env (eval e X.env) = eval e X.env) : PE X (.Attribute e f pos) (tFld X.K ta f) := by
  intro pins s σ H Q I h
  refine attr_of hb (thn (he pins s σ H _ I h) fun u s1 ⟨x, H1, I1, rx, a, C, dx, fs, v, ex, ea, c, n, l, q⟩ => ?_)
  subst ex
  obtain rfl : u = Value.ref a := rx
  exact getattr_ok I1 ea c n l fun u' s2 I2 ru => ⟨v, H1, I2, ru, q⟩
theorem pe_con (he : PE X e ta) (hb : attributeBase e f X.env (eval e X.env) = eval e X.env) : PE X (.Attribute e f pos) (tCon X.K ta f) := by
  intro pins s σ H Q I h
  refine attr_of hb (thn (he pins s σ H _ I h) fun u s1 ⟨x, H1, I1, rx, a, C, dx, fs, v, u0, ex, ea, c, k, l, q⟩ => ?_)
  subst ex
  obtain rfl : u = Value.ref a := rx
  exact getcon_ok I1 ea c k l fun s2 I2 => ⟨v, H1, I2, k.rel, q⟩
theorem ps_fld (ha : PE X o ta) (hv : PE X value tv) (hs : swapsWith value (some (.Attribute o f pos')) pos.line X.env = pure false) : PS X (.Assign [.Attribute o f pos'] value pos) (sFld X.K ta tv f) := by
  intro pins s σ H D I h
  refine plainObj_wpAny_Assign_Attribute (thn (hv pins s σ H _ I h) fun u s1 ⟨y, H1, I1, ry, q⟩ => thn (ha pins s1 σ H1 _ I1 q) fun ov s2 ⟨x, H2, I2, rx, a, C, dx, fs, ex, ea, c, n, l, q2⟩ => ?_) hs
  subst ex
  obtain rfl : ov = Value.ref a := rx
  exact setattr_ok I2 ea c n l ry fun s3 I3 => ⟨σ, _, I3, q2⟩
theorem ps_fldaug {op : Operator} {rd : V → V → Hp → VK → Prop} (ha : PE X o ta) (hv : PE X value tv) (hop : InOp X op rd) : PS X (.AugAssign (.Attribute o f tpos) op value pos) (sFldAug X.K ta tv rd f) := by
  intro pins s σ H D I h
  refine wpAny_AugAssign_AttributeAny (thn (ha pins s σ H _ I h) fun ov s1 ⟨x, H1, I1, rx, a, C, dx, fs, v, ex, ea, c, n, l, q⟩ => ?_)
  subst ex
  obtain rfl : ov = Value.ref a := rx
  refine getattr_ok I1 ea c n l fun u s2 I2 ru => thn (hv pins s2 σ H1 _ I2 q) fun w3 s3 ⟨y, H2, I3, ry, q3⟩ => thn (hop pins s3 σ H2 v y u w3 _ I3 ru ry q3) fun w4 s4 ⟨z, H3, I4, rz, dx', fs', ea', l', q4⟩ => ?_
  exact setattr_ok I4 ea' c n l' rz fun s5 I5 => ⟨σ, _, I5, q4⟩
def rAdd : V → V → Hp → VK → Prop := fun x y H Q => ∃ i j, x = .int i ∧ y = .int j ∧ Q (.int (i + j)) H
def rSub : V → V → Hp → VK → Prop := fun x y H Q => ∃ i j, x = .int i ∧ y = .int j ∧ Q (.int (i - j)) H
theorem in_add : InOp X .Add rAdd := by
  rintro pins s σ H x y u v Q I rx ry ⟨i, j, rfl, rfl, q⟩
  obtain ⟨t, rfl⟩ := (show ∃ t, u = Value.int i t from rx)
  obtain ⟨t', rfl⟩ := (show ∃ t', v = Value.int j t' from ry)
  exact PyProof.Rows.iadd_int ⟨.int (i + j), H, I.tok _, ⟨_, rfl⟩, q⟩
theorem in_sub : InOp X .Sub rSub := by
  rintro pins s σ H x y u v Q I rx ry ⟨i, j, rfl, rfl, q⟩
  obtain ⟨t, rfl⟩ := (show ∃ t, u = Value.int i t from rx)
  obtain ⟨t', rfl⟩ := (show ∃ t', v = Value.int j t' from ry)
  exact PyProof.Rows.isub_int ⟨.int (i - j), H, I.tok _, ⟨_, rfl⟩, q⟩

/-- what is between an instance and its method: the tree of a method call -/
theorem methcall_of {pl : Sem Bool} {m : Str} {apos : Pos} {args : List Expr} {pins : List (Addr × Obj)} {s : Shared} {σ : St} {H : Hp} {Q : Value → Shared → Prop} {te : TE} (he : PE X e te) (I : Inv X pins σ H s)
    (h : te σ H fun x H1 => ∃ a C dx fs g, x = .ref a ∧ H1 a = some (.ins C dx fs) ∧ Cls X.K C ∧ Meth X.K C m g ∧ fs.lookup m = none ∧
      ∀ s1, Inv X pins σ H1 s1 → wpAny (model X.prog X.w) X.A (callWith pos (.ref g) [.ref a] (backTo pos (starEach args X.env)) (backToKw pos (keywordEach [] X.env))) Q X.xe s1)
    (ht : eval (.Call (.Attribute e m apos) args [] pos) X.env = (do
      let ov ← eval e X.env
      standAt apos.atName
      let (f, first) ← holding [ov] (getMethod ov m pl)
      callWith pos f first (backTo pos (starEach args X.env)) (backToKw pos (keywordEach [] X.env)))) :
    wpAny (model X.prog X.w) X.A (eval (.Call (.Attribute e m apos) args [] pos) X.env) Q X.xe s := by
  refine PySem.W.methodCall_KW (pl := pl) (thn (he pins s σ H _ I h) fun u s1 ⟨x, H1, I1, rx, a, C, dx, fs, g, ex, ea, c, k, l, q⟩ => ?_) ht
  subst ex
  obtain rfl : u = Value.ref a := rx
  exact getmeth_ok I1 ea c k l (q s1 I1)
end

/-! ### isinstance -/
section
variable {X : Cx} {pins : List (Addr × Obj)} {σ : St} {H : Hp} {s : Shared} {A : Around} {E : Value → Shared → Prop} {Q : Value → Shared → Prop} {c : Value} {b : Bool}
/-- the type of a value, as the fragment's deciders take it; for an instance its class -/
inductive TyOf (K : PySem.W.Frag) (H : Hp) : V → Value → Prop where
  | non : TyOf K H .non (.type "NoneType")
  | bl (x : Bool) : TyOf K H (.bl x) (.type "bool")
  | int (i : Int) : TyOf K H (.int i) (.type "int")
  | str (x : Str) : TyOf K H (.str x) (.type "str")
  | flt (x : UInt64) : TyOf K H (.flt x) (.type "float")
  | lst {a : Addr} {xs : List V} (e : H a = some (.lst xs)) : TyOf K H (.ref a) (.type "list")
  | frz {a : Addr} {o : Obj} {xs : List V} (e : H a = some (.frz o (.lst xs))) : TyOf K H (.ref a) (.type "list")
  | tup {a : Addr} {xs : List V} (e : H a = some (.tup xs)) : TyOf K H (.ref a) (.type "tuple")
  | dK {a : Addr} {kvs : List (Key × V)} (e : H a = some (.dK kvs)) : TyOf K H (.ref a) (.type "dict")
  | dT {a : Addr} {kvs : List (List Key × V)} (e : H a = some (.dT kvs)) : TyOf K H (.ref a) (.type "dict")
  | ins {a C dx : Addr} {fs : List (Str × V)} (e : H a = some (.ins C dx fs)) (cl : Cls K C) (ha : PySem.W.findIn K (.ref C) "__class__" = some (some (.builtin "object.__class__")))
      (hn : PySem.W.specialIn K (.builtin "object.__class__") "__get__" = some (some (.builtin "getset_descriptor.__get__"))) (htk : PySem.W.takesIn K (.builtin "object.__class__") = some true)
      (hm : PySem.W.mroIn K C (.type "object") = some true) : TyOf K H (.ref a) (.ref C)
/-- isinstance(x, c) for one class c, a built-in or an own one: kitOne's answer -/
theorem isinst_ok {x : V} {u t : Value} (I : Inv X pins σ H s) (rx : RelV x u) (ty : TyOf X.K H x t) (e : PySem.W.kitOne X.K t c = some b) (h : ∀ tk, Q (.bool b) { s with toks := tk }) :
    wpAny (model X.prog X.w) A (call (.builtin "isinstance") [u, c]) Q E s := by
  cases ty with
  | non => cases (show u = Value.none from rx); exact PySem.W.kia_one PySem.W.kitx_none I.kIn True.intro e (fun z => nomatch z) h
  | bl y => cases (show u = Value.bool y from rx); exact PySem.W.kia_one PySem.W.kitx_bool I.kIn True.intro e (fun z => nomatch z) h
  | int i => obtain ⟨t, q⟩ := (show ∃ t, u = Value.int i t from rx); cases q; exact PySem.W.kia_one PySem.W.kitx_int I.kIn True.intro e (fun z => nomatch z) h
  | str y => obtain ⟨t, q⟩ := (show ∃ t, u = Value.str y t from rx); cases q; exact PySem.W.kia_one PySem.W.kitx_str I.kIn True.intro e (fun z => nomatch z) h
  | flt y => obtain ⟨t, q⟩ := (show ∃ t, u = Value.float y t from rx); cases q; exact PySem.W.kia_one PySem.W.kitx_float I.kIn True.intro e (fun z => nomatch z) h
  | @lst a xs ea =>
    cases (show u = Value.ref a from rx)
    obtain ⟨_, _, n, _, h1⟩ := (show ObjOk X.prog X.w H s.heap a (.lst xs) from I.hok a _ ea)
    exact PySem.W.kia_one PySem.W.kitx_list I.kIn ⟨_, h1, rfl⟩ e (fun z => nomatch z) h
  | @frz a ob xs ea =>
    cases (show u = Value.ref a from rx)
    obtain ⟨_, _, _, n, _, h1⟩ := (show ObjOk X.prog X.w H s.heap a (.frz ob (.lst xs)) from I.hok a _ ea)
    exact PySem.W.kia_one PySem.W.kitx_list I.kIn ⟨_, h1, rfl⟩ e (fun z => nomatch z) h
  | @tup a xs ea =>
    cases (show u = Value.ref a from rx)
    obtain ⟨_, _, _, p⟩ := (show ObjOk X.prog X.w H s.heap a (.tup xs) from I.hok a _ ea)
    obtain ⟨o, h1, h2, _⟩ := p
    exact PySem.W.kia_one PySem.W.kitx_tuple I.kIn ⟨o, h1, h2⟩ e (fun z => nomatch z) h
  | @dK a kvs ea =>
    cases (show u = Value.ref a from rx)
    obtain ⟨_, _, vs, _, p⟩ := (show ObjOk X.prog X.w H s.heap a (.dK kvs) from I.hok a _ ea)
    obtain ⟨o, es, ep, h1, h2, _⟩ := p
    exact PySem.W.kia_one PySem.W.kitx_dict I.kIn ⟨o, h1, h2.1⟩ e (fun z => nomatch z) h
  | @dT a kvs ea =>
    cases (show u = Value.ref a from rx)
    obtain ⟨_, _, xs, _, o, es, ep, h1, h2, _⟩ := (show ObjOk X.prog X.w H s.heap a (.dT kvs) from I.hok a _ ea)
    exact PySem.W.kia_one PySem.W.kitx_dict I.kIn ⟨o, h1, h2.1⟩ e (fun z => nomatch z) h
  | @ins a C dx fs ea cl ha hn htk hm =>
    cases (show u = Value.ref a from rx)
    obtain ⟨mA, O, _⟩ := ins_get I.hok ea
    obtain ⟨od, J, _⟩ := O.look
    exact PySem.W.kia_one (PySem.W.kitx_own (cl.get _) cl.hd ha hn htk hm) I.kIn J e (fun z => nomatch z) h
end
end L2

namespace L2
open PySem PySem.Spec PyProof.Rows

/-! ### room -/
structure Room (k : Nat) (A : Around) : Prop where
  hd : A.handled = none
  dp : A.depth + 3 * k + 5 < recursionLimit
  un : A.units + 16 * k + 200 < cLine
theorem Room.mono {j k : Nat} {A : Around} (r : Room k A) (h : j ≤ k) : Room j A := ⟨r.hd, by have := r.dp; omega, by have := r.un; omega⟩
theorem Room.deeper {k : Nat} {A : Around} (r : Room (k + 1) A) (env : Env) : Room k (A.deeper env) :=
  ⟨r.hd, by have := r.dp; show A.depth + 1 + 3 * k + 5 < _; omega, by have := r.un; show A.units + 3 + 16 * k + 200 < _; omega⟩
theorem Room.in1 {k : Nat} {A : Around} (r : Room (k + 1) A) : Room k A.in1 :=
  ⟨r.hd, by have := r.dp; show A.depth + 3 * k + 5 < _; omega, by have := r.un; show A.units + 1 + 16 * k + 200 < _; omega⟩
theorem make_depth {A : Around} {C : Addr} {us : List Value} {kw : List (Str × Value)} : (A.under (.builtin "type.__call__" ⟨.ref C :: us, kw⟩)).depth = A.depth + 1 := by
  first | rfl | simp [Around.under, Code.weight, Code.isCreation, Code.isGuard, Code.isCaller, Code.frames, Code.isFrame, guardIds]
theorem make_units {A : Around} {C : Addr} {us : List Value} {kw : List (Str × Value)} : (A.under (.builtin "type.__call__" ⟨.ref C :: us, kw⟩)).units = A.units + 1 := by
  first | rfl | simp [Around.under, Code.cUnits, Code.frames, Code.isFrame]
theorem Room.make {k : Nat} {A : Around} (r : Room (k + 1) A) (C : Addr) (us : List Value) (kw : List (Str × Value)) : Room k (A.under (.builtin "type.__call__" ⟨.ref C :: us, kw⟩)) :=
  ⟨r.hd, by have := r.dp; rw [make_depth]; omega, by have := r.un; rw [make_units]; omega⟩
theorem Room.depth {k : Nat} {A : Around} (r : Room k A) : A.depth < recursionLimit := by have := r.dp; omega
theorem Room.units {k : Nat} {A : Around} (r : Room k A) : A.units + 64 < cLine := by have := r.un; omega
theorem Room.units0 {k : Nat} {A : Around} (r : Room k A) : A.units < cLine := by have := r.un; omega

/-! ### argument lists and displays -/
def tNil : TA := fun _ H Q => Q [] H
def tCons (ta : TE) (tr : TA) : TA := fun σ H Q => ta σ H fun x H1 => tr σ H1 fun xs H2 => Q (x :: xs) H2
section
variable {X : Cx} {e : Expr} {es : List Expr} {te : TE} {t : TA} {pos : Pos}
theorem pa_nil : PA X [] tNil := fun _ _ _ _ H Q I h => Calls.spliced_nil ⟨[], H, I, .nil, h⟩
theorem pa_cons (ha : PE X e te) (hr : PA X es t) (hs : starEach (e :: es) X.env = (false, eval e X.env) :: starEach es X.env := by rfl) : PA X (e :: es) (tCons te t) := by
  intro pos pins s σ H Q I h
  rw [hs]
  show wpAny _ _ (spliced ((false, eval e X.env) :: backTo pos (starEach es X.env))) _ _ s
  refine Calls.spliced_cons (thn (ha pins s σ H _ I h) fun u s1 ⟨x, H1, I1, r1, q1⟩ => ?_)
  exact thn (hr pos pins s1 σ H1 _ I1 q1) fun us s2 ⟨xs, H2, I2, r2, q2⟩ => ⟨x :: xs, H2, I2, .cons r1 r2, q2⟩

/-- a tuple, a list of written items -/
def tTup (t : TA) : TE := fun σ H Q => t σ H fun xs H1 => xs.length ≤ sizeLine ∧ ∀ p, H1 p = none → Q (.ref p) (upd H1 p (.tup xs))
def tLst (t : TA) : TE := fun σ H Q => t σ H fun xs H1 => xs.length ≤ sizeLine ∧ ∀ p, H1 p = none → Q (.ref p) (upd H1 p (.lst xs))
theorem pe_tup {x1} (h : PA X es t) : PE X (.Tuple es x1 pos) (tTup t) := by
  intro pins s σ H Q I hq
  refine wpAny_Tuple_spliced (thn (h pos pins s σ H _ I hq) fun us s1 ⟨xs, H1, I1, r, z, q⟩ => ⟨by rw [← r.length]; exact z, ?_⟩)
  have hf : H1 s1.heap.objs.size = none := I1.hok.fresh (Nat.le_refl _)
  refine ⟨.ref s1.heap.objs.size, upd H1 s1.heap.objs.size (.tup xs), I1.laid (t' := s1.toks) (fun b u e => Heap.get?_push_of_some _ e) (Nat.le_refl _) ?_, rfl, q _ hf⟩
  exact ⟨z, us, r, ⟨_, Heap.get?_push_size _ rfl, rfl, _, rfl⟩⟩
theorem pe_lst (h : PA X es t) : PE X (.List es pos) (tLst t) := by
  intro pins s σ H Q I hq
  refine wpAny_List_spliced (thn (h pos pins s σ H _ I hq) fun us s1 ⟨xs, H1, I1, r, z, q⟩ => ⟨by rw [← r.length]; exact z, ?_⟩)
  have hf : H1 s1.heap.objs.size = none := I1.hok.fresh (Nat.le_refl _)
  refine ⟨.ref s1.heap.objs.size, upd H1 s1.heap.objs.size (.lst xs), I1.laid (t' := s1.toks) (fun b u e => Heap.get?_push_of_some _ e) (Nat.le_refl _) ?_, rfl, q _ hf⟩
  exact ⟨z, us, 0, r, Heap.get?_push_size _ rfl⟩
end

/-! ### what a def promises -/
/-- a def's promise: the bound arguments in the parameters' order, the heap, the wanted end, the wanted exception -/
abbrev Sp := List V → Hp → VK → XK → Prop
/-- how an exception lies behind a call (file 08 gives it): the callers' frames, abstract heap and state ahead of the call, the wish, the exception, the state -/
abbrev CXT := List Env → Hp → Shared → XK → Value → Shared → Prop

/-- the state at a call -/
structure Env0 (P : Program) (w : World) (K : PySem.W.Frag) (mg : Str → Option Value) (base : Heap) (A : Around) (outer : List Env) (s : Shared) (H : Hp) : Prop where
  frames : A.frames = some outer
  mod : Mod K mg base
  bs : ∀ b o, base.get? b = some o → s.heap.get? b = some o ∧ H b = none
  bsz : base.objs.size ≤ s.heap.objs.size
  funs : s.heap.FunFrames base outer
  frf : ∀ b ∈ frs outer, H b = none
  hok : HOk P w H s.heap
  bare : AllBare s.gens
/-- a call's end -/
def CE (outer : List Env) (P : Program) (w : World) (H : Hp) (s : Shared) (Q : VK) (u : Value) (s' : Shared) : Prop :=
  ∃ v H', s'.os = s.os ∧ AllBare s'.gens ∧ Un (frs outer) [] H H' s.heap s'.heap ∧ HOk P w H' s'.heap ∧ RelV v u ∧ Q v H'
def CR (CX : CXT) (outer : List Env) (P : Program) (w : World) (H : Hp) (s : Shared) (Q : VK) (E : XK) (r : Result) (s' : Shared) : Prop :=
  match r with
  | .ok (.ret u) => CE outer P w H s Q u s'
  | .ok _ => False
  | .error e => CX outer H s E e s'
structure FnOk (P : Program) (w : World) (K : PySem.W.Frag) (mg : Str → Option Value) (base : Heap) (CX : CXT) (k : Nat) (f : Addr) (fd : FuncData) (ps : List Str) (sp : Sp) : Prop where
  len : ∀ vs H Q E, sp vs H Q E → vs.length = ps.length
  run : ∀ (A : Around) (outer : List Env) (s : Shared) (H : Hp) (args : Args) (us : List Value) (vs : List V) (Q : VK) (E : XK), Room k A → Env0 P w K mg base A outer s H → BindsTo s fd args (ps.zip us) → Vals vs us → sp vs H Q E →
    codeAny (model P w) A (.call (.ref f) args) (CR CX outer P w H s Q E) s
theorem FnOk.mono {P : Program} {w : World} {K : PySem.W.Frag} {mg : Str → Option Value} {base : Heap} {CX : CXT} {j k : Nat} {f : Addr} {fd : FuncData} {ps : List Str} {sp : Sp} (F : FnOk P w K mg base CX j f fd ps sp) (h : j ≤ k) :
    FnOk P w K mg base CX k f fd ps sp := ⟨F.len, fun A outer s H args us vs Q E hr => F.run A outer s H args us vs Q E (hr.mono h)⟩
/-- a weaker promise -/
theorem FnOk.imp {P : Program} {w : World} {K : PySem.W.Frag} {mg : Str → Option Value} {base : Heap} {CX : CXT} {k : Nat} {f : Addr} {fd : FuncData} {ps : List Str} {sp sp' : Sp} (F : FnOk P w K mg base CX k f fd ps sp)
    (h : ∀ vs H Q E, sp' vs H Q E → sp vs H Q E) : FnOk P w K mg base CX k f fd ps sp' :=
  ⟨fun vs H Q E q => F.len vs H Q E (h _ _ _ _ q), fun A outer s H args us vs Q E hr he hb hv hs => F.run A outer s H args us vs Q E hr he hb hv (h _ _ _ _ hs)⟩

theorem Env0.make {P : Program} {w : World} {K : PySem.W.Frag} {mg : Str → Option Value} {base : Heap} {A : Around} {outer : List Env} {s : Shared} {H : Hp} (e : Env0 P w K mg base A outer s H) (C : Addr) (us : List Value) (kw : List (Str × Value)) :
    Env0 P w K mg base (A.under (.builtin "type.__call__" ⟨.ref C :: us, kw⟩)) outer s H := ⟨by first | exact e.frames | (simpa [Around.under, Code.envs, Code.isFrame, pushEnvs] using e.frames), e.mod, e.bs, e.bsz, e.funs, e.frf, e.hok, e.bare⟩
theorem Env0.in1 {P : Program} {w : World} {K : PySem.W.Frag} {mg : Str → Option Value} {base : Heap} {A : Around} {outer : List Env} {s : Shared} {H : Hp} (e : Env0 P w K mg base A outer s H) :
    Env0 P w K mg base A.in1 outer s H := ⟨e.frames, e.mod, e.bs, e.bsz, e.funs, e.frf, e.hok, e.bare⟩

section
variable {X : Cx} {pins : List (Addr × Obj)} {σ : St} {H : Hp} {s s' : Shared}
/-- from a body: what a callee wants -/
theorem Inv.env0 (I : Inv X pins σ H s) : Env0 X.prog X.w X.K X.mg X.base X.A X.stack s H :=
  ⟨I.ok.frames, I.ok.mod, I.bs, Nat.le_trans I.ok.bsz I.sz, I.stack, I.stkFree, I.hok, I.bare⟩
/-- behind a call -/
theorem Inv.after {Q : VK} {u : Value} (I : Inv X pins σ H s) (h : CE X.stack X.prog X.w H s Q u s') : EP X pins σ Q u s' := by
  obtain ⟨v, H', os, bare, un, hok, r, q⟩ := h
  obtain ⟨hh, g, d, t, os'⟩ := s'
  obtain rfl : os' = s.os := os
  exact ⟨v, H', I.call (h' := hh) (g' := g) (d' := d) (t' := t) (ch := []) un hok bare (fun b z => absurd z (by simp)), r, q⟩
end

/-! ### calls -/
/-- f(..): the written arguments, then the defaults dvs; E: what is wanted of an exception -/
def tCall (sp : Sp) (dvs : List V) (E : XK) (t : TA) : TE := fun σ H Q => t σ H fun vs H1 => sp (vs ++ dvs) H1 Q E
/-- o.m(..) of an instance of the class at C -/
def tMeth (C : Addr) (m : Str) (sp : Sp) (dvs : List V) (E : XK) (ta : TE) (t : TA) : TE := fun σ H Q => ta σ H fun x H1 => ∃ a dx fs, x = .ref a ∧ H1 a = some (.ins C dx fs) ∧ fs.lookup m = none ∧
  t σ H1 fun vs H2 => sp (x :: (vs ++ dvs)) H2 Q E
/-- C(..): a new instance and its dict, then __init__ -/
def tMake (C : Addr) (sp : Sp) (dvs : List V) (E : XK) (t : TA) : TE := fun σ H Q => t σ H fun vs H1 => ∀ x dx, H1 x = none → H1 dx = none → dx ≠ x →
  sp (.ref x :: (vs ++ dvs)) (upd (upd H1 dx (.own x)) x (.ins C dx [])) (fun v H2 => v = .non ∧ Q (.ref x) H2) E

/-- how the parameters are bound: us the positional arguments, kw the keywords' values by name, ds the defaults that fill up -/
def Binds (K : PySem.W.Frag) (fd : FuncData) (ps : List Str) (ds : List Value) : Prop :=
  ∀ (s : Shared) (us : List Value), K.In s.heap → (us ++ ds).length = ps.length → BindsTo s fd ⟨us, []⟩ (ps.zip (us ++ ds))
/-- every parameter is given -/
theorem Binds.all {K : PySem.W.Frag} {fd : FuncData} {ps : List Str} (h : ∀ us : List Value, us.length = ps.length → bindArgs fd ⟨us, []⟩ = pure (ps.zip us)) : Binds K fd ps [] := fun s us _ hl => by
  rw [List.append_nil] at hl ⊢
  exact .of_eq (h us hl)

/-- an exception of a callee reaches what this body wants of exceptions -/
def Passes (CX : CXT) (X : Cx) (E : XK) : Prop := ∀ (pins : List (Addr × Obj)) (σ : St) (H : Hp) (s : Shared) (e : Value) (s' : Shared), Inv X pins σ H s → CX X.stack H s E e s' → X.xe e s'

section
variable {X : Cx} {CX : CXT} {k : Nat} {f C : Addr} {fd : FuncData} {ps : List Str} {sp : Sp} {dvs : List V} {ds : List Value} {E : XK} {x m : Str} {p pos apos : Pos} {e o : Expr} {es : List Expr} {ta : TE} {t : TA}

/-- the callee runs -/
theorem run_fn {pins : List (Addr × Obj)} {σ : St} {H : Hp} {s : Shared} {Q : VK} {us : List Value} {vs : List V} (F : FnOk X.prog X.w X.K X.mg X.base CX k f fd ps sp) (hr : Room k X.A) (hb : Binds X.K fd ps ds) (hd : Vals dvs ds) (hx : Passes CX X E)
    (I : Inv X pins σ H s) (r : Vals vs us) (h : sp (vs ++ dvs) H Q E) : wpAny (model X.prog X.w) X.A (call (.ref f) us) (EP X pins σ Q) X.xe s := by
  have r2 : Vals (vs ++ dvs) (us ++ ds) := r.append hd
  have hl : (us ++ ds).length = ps.length := by rw [← r2.length]; exact F.len _ _ _ _ h
  refine wpAny_call (codeAny_mono (F.run X.A X.stack s H ⟨us, []⟩ (us ++ ds) (vs ++ dvs) Q E hr I.env0 (hb s us I.kIn hl) r2 h) fun r s' hq => ?_)
  cases r with
  | error e => exact hx pins σ H s e s' I hq
  | ok fl =>
    cases fl with
    | ret u => exact I.after hq
    | next => exact False.elim hq
    | brk => exact False.elim hq
    | cont => exact False.elim hq

theorem pe_call (F : FnOk X.prog X.w X.K X.mg X.base CX k f fd ps sp) (hr : Room k X.A) (hg : Gl X x) (hm : X.mg x = some (.ref f)) (hk : PySem.W.keepIn X.K (.ref f) = true) (hb : Binds X.K fd ps ds) (hd : Vals dvs ds) (hx : Passes CX X E)
    (ha : PA X (e :: es) t) (hdb : (x == ("__debug__" : Str)) = false := by decide) (he : starEach (e :: es) X.env = (false, eval e X.env) :: starEach es X.env := by rfl) (hpl : (backTo pos (starEach es X.env)).any (·.1) = false := by rfl) :
    PE X (.Call (.Name x p) (e :: es) [] pos) (tCall sp dvs E t) := by
  intro pins s σ H Q I h
  refine wpAny_Call_Name_kw (ld_glob I hg hm ?_ hdb)
  refine PySem.W.callWith_K (h₀ := X.base) I.ok.mod.kin hk (thn (ha pos pins s σ H _ I h) fun us s1 ⟨vs, H1, I1, r, q⟩ => ⟨I1.kIn, ?_⟩) he hpl
  exact run_fn F hr hb hd hx I1 r q
theorem pe_call0 (F : FnOk X.prog X.w X.K X.mg X.base CX k f fd ps sp) (hr : Room k X.A) (hg : Gl X x) (hm : X.mg x = some (.ref f)) (hk : PySem.W.keepIn X.K (.ref f) = true) (hb : Binds X.K fd ps ds) (hd : Vals dvs ds) (hx : Passes CX X E)
    (hdb : (x == ("__debug__" : Str)) = false := by decide) : PE X (.Call (.Name x p) [] [] pos) (tCall sp dvs E tNil) := by
  intro pins s σ H Q I h
  refine wpAny_Call_Name_kw (ld_glob I hg hm ?_ hdb)
  exact PySem.W.callWith_K0 I.kIn hk (run_fn (us := []) F hr hb hd hx I .nil h)

/-- o.m(e, ..) -/
theorem pe_meth {pl : Sem Bool} (he : PE X o ta) (c : Cls X.K C) (hm : Meth X.K C m f) (F : FnOk X.prog X.w X.K X.mg X.base CX k f fd ps sp) (hr : Room k X.A) (hb : Binds X.K fd ps ds) (hd : Vals dvs ds) (hx : Passes CX X E) (ha : PA X (e :: es) t)
    (hst : starEach (e :: es) X.env = (false, eval e X.env) :: starEach es X.env := by rfl) (hpl : (backTo pos (starEach es X.env)).any (·.1) = false := by rfl)
    (ht : eval (.Call (.Attribute o m apos) (e :: es) [] pos) X.env = (do
      let ov ← eval o X.env
      standAt apos.atName
      let (f, first) ← holding [ov] (getMethod ov m pl)
      callWith pos f first (backTo pos (starEach (e :: es) X.env)) (backToKw pos (keywordEach [] X.env))) := by rfl) :
    PE X (.Call (.Attribute o m apos) (e :: es) [] pos) (tMeth C m sp dvs E ta t) := by
  intro pins s σ H Q I h
  refine PySem.W.methodCall_KW (pl := pl) (thn (he pins s σ H _ I h) fun u s1 ⟨x, H1, I1, rx, a, dx, fs, ex, ea, l, q⟩ => ?_) ht
  subst ex
  obtain rfl : u = Value.ref a := rx
  refine getmeth_ok I1 ea c hm l ?_
  refine PySem.W.callWith_K (first := [.ref a]) (h₀ := X.base) I.ok.mod.kin hm.kp (thn (ha pos pins s1 σ H1 _ I1 q) fun us s2 ⟨vs, H2, I2, r, q2⟩ => ⟨I2.kIn, ?_⟩) hst hpl
  exact run_fn (us := .ref a :: us) (vs := .ref a :: vs) F hr hb hd hx I2 (.cons rfl r) q2
/-- o.m() -/
theorem pe_meth0 {pl : Sem Bool} (he : PE X o ta) (c : Cls X.K C) (hm : Meth X.K C m f) (F : FnOk X.prog X.w X.K X.mg X.base CX k f fd ps sp) (hr : Room k X.A) (hb : Binds X.K fd ps ds) (hd : Vals dvs ds) (hx : Passes CX X E)
    (ht : eval (.Call (.Attribute o m apos) [] [] pos) X.env = (do
      let ov ← eval o X.env
      standAt apos.atName
      let (f, first) ← holding [ov] (getMethod ov m pl)
      callWith pos f first (backTo pos (starEach [] X.env)) (backToKw pos (keywordEach [] X.env))) := by rfl) :
    PE X (.Call (.Attribute o m apos) [] [] pos) (tMeth C m sp dvs E ta tNil) := by
  intro pins s σ H Q I h
  refine PySem.W.methodCall_KW (pl := pl) (thn (he pins s σ H _ I h) fun u s1 ⟨x, H1, I1, rx, a, dx, fs, ex, ea, l, q⟩ => ?_) ht
  subst ex
  obtain rfl : u = Value.ref a := rx
  refine getmeth_ok I1 ea c hm l ?_
  exact PySem.W.callWith_K0 (first := [.ref a]) I1.kIn hm.kp (run_fn (us := [.ref a]) (vs := [.ref a]) F hr hb hd hx I1 (.cons rfl .nil) q)

/-- what a class must have to be made -/
structure Mk (K : PySem.W.Frag) (C f : Addr) : Prop where
  makes : PySem.W.makesIn K C = true
  init : PySem.W.findIn K (.ref C) "__init__" = some (some (.ref f))
  fn : PySem.W.isFn K (.ref f) = true
  kp : PySem.W.keepIn K (.ref C) = true

theorem run_make {pins : List (Addr × Obj)} {σ : St} {H : Hp} {s : Shared} {Q : VK} {us : List Value} {vs : List V} (M : Mk X.K C f) (F : FnOk X.prog X.w X.K X.mg X.base CX k f fd ps sp) (hr : Room (k + 1) X.A) (hb : Binds X.K fd ps ds) (hd : Vals dvs ds)
    (hx : Passes CX X E) (I : Inv X pins σ H s) (r : Vals vs us)
    (h : ∀ x dx, H x = none → H dx = none → dx ≠ x → sp (.ref x :: (vs ++ dvs)) (upd (upd H dx (.own x)) x (.ins C dx [])) (fun v H2 => v = .non ∧ Q (.ref x) H2) E) :
    wpAny (model X.prog X.w) X.A (call (.ref C) us) (EP X pins σ Q) X.xe s := by
  have hq := h (s.heap.objs.size + 1) s.heap.objs.size (I.hok.fresh (Nat.le_succ _)) (I.hok.fresh (Nat.le_refl _)) (Nat.ne_of_lt (Nat.lt_succ_self _))
  have I2 := Inv.made (C := C) I
  have r2 : Vals (V.ref (s.heap.objs.size + 1) :: (vs ++ dvs)) (Value.ref (s.heap.objs.size + 1) :: (us ++ ds)) := .cons rfl (r.append hd)
  have hl : (Value.ref (s.heap.objs.size + 1) :: us ++ ds).length = ps.length := by
    have e := r2.length
    rw [F.len _ _ _ _ hq] at e
    exact e.symm
  refine wpAny_call (make_map (f := f) I.kIn M.makes M.init (beq_iff_eq.mp M.fn) (codeAny_mono (F.run _ X.stack _ _ ⟨Value.ref (s.heap.objs.size + 1) :: us, []⟩ (Value.ref (s.heap.objs.size + 1) :: (us ++ ds)) _ _ E (hr.make C us [])
    (I2.env0.make C us []) (hb _ (Value.ref (s.heap.objs.size + 1) :: us) I2.kIn hl) r2 hq) fun r s' hq' => ?_))
  cases r with
  | error e => exact hx pins σ _ _ e s' I2 hq'
  | ok fl =>
    cases fl with
    | ret u =>
      obtain ⟨v, H', I3, rv, ev, q3⟩ := I2.after hq'
      subst ev
      exact ⟨rv, ⟨V.ref (s.heap.objs.size + 1), H', I3, rfl, q3⟩⟩
    | next => exact False.elim hq'
    | brk => exact False.elim hq'
    | cont => exact False.elim hq'
theorem pe_make (M : Mk X.K C f) (F : FnOk X.prog X.w X.K X.mg X.base CX k f fd ps sp) (hr : Room (k + 1) X.A) (hg : Gl X x) (hm : X.mg x = some (.ref C)) (hb : Binds X.K fd ps ds) (hd : Vals dvs ds) (hx : Passes CX X E)
    (ha : PA X (e :: es) t) (hdb : (x == ("__debug__" : Str)) = false := by decide) (he : starEach (e :: es) X.env = (false, eval e X.env) :: starEach es X.env := by rfl) (hpl : (backTo pos (starEach es X.env)).any (·.1) = false := by rfl) :
    PE X (.Call (.Name x p) (e :: es) [] pos) (tMake C sp dvs E t) := by
  intro pins s σ H Q I h
  refine wpAny_Call_Name_kw (ld_glob I hg hm ?_ hdb)
  refine PySem.W.callWith_K (h₀ := X.base) I.ok.mod.kin M.kp (thn (ha pos pins s σ H _ I h) fun us s1 ⟨vs, H1, I1, r, q⟩ => ⟨I1.kIn, ?_⟩) he hpl
  exact run_make M F hr hb hd hx I1 r q
theorem pe_make0 (M : Mk X.K C f) (F : FnOk X.prog X.w X.K X.mg X.base CX k f fd ps sp) (hr : Room (k + 1) X.A) (hg : Gl X x) (hm : X.mg x = some (.ref C)) (hb : Binds X.K fd ps ds) (hd : Vals dvs ds) (hx : Passes CX X E)
    (hdb : (x == ("__debug__" : Str)) = false := by decide) : PE X (.Call (.Name x p) [] [] pos) (tMake C sp dvs E tNil) := by
  intro pins s σ H Q I h
  refine wpAny_Call_Name_kw (ld_glob I hg hm ?_ hdb)
  exact PySem.W.callWith_K0 I.kIn M.kp (run_make (us := []) M F hr hb hd hx I .nil h)
end

/-! ### keywords -/
/-- the values of the keywords, from the left -/
def PK (X : Cx) (kws : List Keyword) (t : TA) : Prop :=
  ∀ (pos : Pos) (pins : List (Addr × Obj)) (s : Shared) (σ : St) (H : Hp) (Q : List V → Hp → Prop), Inv X pins σ H s → t σ H Q → wpAny (model X.prog X.w) X.A (evalAll ((backToKw pos (keywordEach kws X.env)).map (·.2))) (AP X pins σ Q) X.xe s
section
variable {X : Cx} {CX : CXT} {k : Nat} {f C : Addr} {fd : FuncData} {ps ks : List Str} {sp : Sp} {E : XK} {x m : Str} {p pos apos kpos : Pos} {e o : Expr} {es : List Expr} {kws : List Keyword} {te ta : TE} {t tk : TA} {nm : Option Str}
theorem pk_nil : PK X [] tNil := fun _ _ _ _ H Q I h => wpAny_evalAll_nil ⟨[], H, I, .nil, h⟩
theorem pk_cons (ha : PE X e te) (hr : PK X kws t) : PK X (⟨nm, e, kpos⟩ :: kws) (tCons te t) := by
  intro pos pins s σ H Q I h
  show wpAny _ _ (evalAll ((do let v ← eval e X.env; standAt pos; pure v) :: (backToKw pos (keywordEach kws X.env)).map (·.2))) _ _ s
  refine wpAny_evalAll_cons (wpAny_bind (thn (ha pins s σ H _ I h) fun u s1 ⟨x, H1, I1, r1, q1⟩ => wpAny_bind (wpAny_standAt (wpAny_pure ?_))))
  exact thn (hr pos pins s1 σ H1 _ I1 q1) fun us s2 ⟨xs, H2, I2, r2, q2⟩ => ⟨x :: xs, H2, I2, .cons r1 r2, q2⟩

/-- how a call with keywords binds: g puts the positional values us and the keywords' values ws (names ks) in the parameters' order, defaults among them -/
structure KBinds (K : PySem.W.Frag) (fd : FuncData) (ps ks : List Str) (g : List Value → List Value → List Value) (gV : List V → List V → List V) : Prop where
  to : ∀ (s : Shared) (us ws : List Value), K.In s.heap → (g us ws).length = ps.length → BindsTo s fd ⟨us, ks.zip ws⟩ (ps.zip (g us ws))
  rel : ∀ {vs : List V} {us : List Value} {zs : List V} {ws : List Value}, Vals vs us → Vals zs ws → Vals (gV vs zs) (g us ws)
def tCallK (sp : Sp) (gV : List V → List V → List V) (E : XK) (t tk : TA) : TE := fun σ H Q => t σ H fun vs H1 => tk σ H1 fun zs H2 => sp (gV vs zs) H2 Q E
variable {g : List Value → List Value → List Value} {gV : List V → List V → List V}
theorem run_fnk {pins : List (Addr × Obj)} {σ : St} {H : Hp} {s : Shared} {Q : VK} {us ws : List Value} {vs zs : List V} (F : FnOk X.prog X.w X.K X.mg X.base CX k f fd ps sp) (hr : Room k X.A) (hb : KBinds X.K fd ps ks g gV) (hx : Passes CX X E)
    (I : Inv X pins σ H s) (r : Vals vs us) (rz : Vals zs ws) (h : sp (gV vs zs) H Q E) : wpAny (model X.prog X.w) X.A (call (.ref f) us (ks.zip ws)) (EP X pins σ Q) X.xe s := by
  have r2 := hb.rel r rz
  have hl : (g us ws).length = ps.length := by rw [← r2.length]; exact F.len _ _ _ _ h
  refine wpAny_call (codeAny_mono (F.run X.A X.stack s H ⟨us, ks.zip ws⟩ (g us ws) (gV vs zs) Q E hr I.env0 (hb.to s us ws I.kIn hl) r2 h) fun r s' hq => ?_)
  cases r with
  | error e => exact hx pins σ H s e s' I hq
  | ok fl =>
    cases fl with
    | ret u => exact I.after hq
    | next => exact False.elim hq
    | brk => exact False.elim hq
    | cont => exact False.elim hq
/-- f(e, .., k = v, ..) -/
theorem pe_callK (F : FnOk X.prog X.w X.K X.mg X.base CX k f fd ps sp) (hr : Room k X.A) (hg : Gl X x) (hm : X.mg x = some (.ref f)) (hk : PySem.W.keepIn X.K (.ref f) = true) (hb : KBinds X.K fd ps ks g gV) (hx : Passes CX X E)
    (ha : PA X (e :: es) t) (hkw : PK X kws tk) (hall : (backToKw pos (keywordEach kws X.env)).all (·.1.isSome) = true := by rfl) (hks : (backToKw pos (keywordEach kws X.env)).filterMap (·.1) = ks := by rfl)
    (hdb : (x == ("__debug__" : Str)) = false := by decide) (he : starEach (e :: es) X.env = (false, eval e X.env) :: starEach es X.env := by rfl)
    (hpl : ((backTo pos (starEach (e :: es) X.env)).any (·.1) || (backToKw pos (keywordEach kws X.env)).any (·.1.isNone)) = false := by rfl) :
    PE X (.Call (.Name x p) (e :: es) kws pos) (tCallK sp gV E t tk) := by
  intro pins s σ H Q I h
  refine wpAny_Call_Name_kw (ld_glob I hg hm ?_ hdb)
  refine PySem.W.callWith_KW (h₀ := X.base) I.ok.mod.kin hk hall (thn (ha pos pins s σ H _ I h) fun us s1 ⟨vs, H1, I1, r, q⟩ => ?_) hpl he
  refine thn (hkw pos pins s1 σ H1 _ I1 q) fun ws s2 ⟨zs, H2, I2, rz, q2⟩ => ⟨I2.kIn, ?_⟩
  rw [hks]
  exact run_fnk F hr hb hx I2 r rz q2
end

/-! ### a def's body keeps its promise -/
/-- names: the parameters first -/
structure FnScope (N P : List Str) (sc : Scope) : Prop where
  kind : sc.kind = .function
  co : sc.isCoroutine = false
  gen : sc.isGenerator = false
  nd : N.Nodup
  pre : N.take P.length = P
  par : ∀ x ∈ P, sc.names.lookup x = some .local ∨ sc.names.lookup x = some .cell
  nofree : ∀ y ∈ sc.names, y.2 ≠ .free

theorem bindL_out {kindOf : Str → Option NameKind} {x : Str} : ∀ {binds : List (Str × Value)} {m : Str → Option Value}, (∀ v, (x, v) ∉ binds) → bindL kindOf binds m x = m x
  | [], _, _ => rfl
  | (n, v) :: r, m, h => by
    unfold bindL
    rw [bindL_out fun w hw => h w (List.mem_cons_of_mem _ hw)]
    split
    · have : x ≠ n := by rintro rfl; exact h v List.mem_cons_self
      simp [this]
    · rfl
theorem bindC_out {kindOf : Str → Option NameKind} {x : Str} : ∀ {binds : List (Str × Value)} {m : Str → Option Value}, (∀ v, (x, v) ∉ binds) → bindC kindOf binds m x = m x
  | [], _, _ => rfl
  | (n, v) :: r, m, h => by
    unfold bindC
    rw [bindC_out fun w hw => h w (List.mem_cons_of_mem _ hw)]
    split
    · rfl
    · have : x ≠ n := by rintro rfl; exact h v List.mem_cons_self
      simp [this]
theorem bindL_get {kindOf : Str → Option NameKind} {x : Str} {v : Value} : ∀ {P : List Str} {vs : List Value} {i : Nat} {m : Str → Option Value}, P.Nodup → P[i]? = some x → vs[i]? = some v → kindOf x = some .local →
    bindL kindOf (P.zip vs) m x = some v
  | [], _, _, _, _, h, _, _ => by simp at h
  | _ :: _, [], _, _, _, _, h, _ => by simp at h
  | p :: P, w :: vs, 0, m, nd, h1, h2, hk => by
    simp at h1 h2; subst h1; subst h2
    show bindL kindOf ((p, w) :: P.zip vs) m p = _
    unfold bindL
    rw [bindL_out fun v hv => (List.nodup_cons.mp nd).1 (List.of_mem_zip hv).1, if_pos hk]
    simp
  | p :: P, w :: vs, i + 1, m, nd, h1, h2, hk => by
    show bindL kindOf ((p, w) :: P.zip vs) m x = _
    unfold bindL
    exact bindL_get (i := i) (List.nodup_cons.mp nd).2 (by simpa using h1) (by simpa using h2) hk
theorem bindC_get {kindOf : Str → Option NameKind} {x : Str} {v : Value} : ∀ {P : List Str} {vs : List Value} {i : Nat} {m : Str → Option Value}, P.Nodup → P[i]? = some x → vs[i]? = some v → kindOf x ≠ some .local →
    bindC kindOf (P.zip vs) m x = some v
  | [], _, _, _, _, h, _, _ => by simp at h
  | _ :: _, [], _, _, _, _, h, _ => by simp at h
  | p :: P, w :: vs, 0, m, nd, h1, h2, hk => by
    simp at h1 h2; subst h1; subst h2
    show bindC kindOf ((p, w) :: P.zip vs) m p = _
    unfold bindC
    rw [bindC_out fun v hv => (List.nodup_cons.mp nd).1 (List.of_mem_zip hv).1, if_neg hk]
    simp
  | p :: P, w :: vs, i + 1, m, nd, h1, h2, hk => by
    show bindC kindOf ((p, w) :: P.zip vs) m x = _
    unfold bindC
    exact bindC_get (i := i) (List.nodup_cons.mp nd).2 (by simpa using h1) (by simpa using h2) hk

/-- the names' values at the entry -/
def start (N : List Str) (vs : List V) : St := vs.map some ++ List.replicate (N.length - vs.length) none

/-- the context of a def's body, at its entry; an exception leaves the frame, then lies as CX says -/
def cxOf (CX : CXT) (P : Program) (w : World) (K : PySem.W.Frag) (mg : Str → Option Value) (base : Heap) (N : List Str) (qual : Str) (scope : Scope) (f : Addr) (cd : Value) (A : Around) (outer : List Env) (s : Shared) (H : Hp) (E : XK) : Cx where
  prog := P
  w := w
  K := K
  mg := mg
  base := base
  A := A.deeper (envOfC qual scope s.heap.objs.size f cd)
  N := N
  s₀ := s
  H₀ := H
  env := envOfC qual scope s.heap.objs.size f cd
  outer := outer
  stack := envOfC qual scope s.heap.objs.size f cd :: outer
  ex := []
  calm := true
  fn := fun _ => true
  pn := []
  xe := fun e s' => wpAny (model P w) (A.deeper (envOfC qual scope s.heap.objs.size f cd)) (leaving (envOfC qual scope s.heap.objs.size f cd) e) (fun _ s'' => CX outer H s E e s'') (fun e' s'' => CX outer H s E e' s'') s'

theorem cell_has {sc : Scope} {n : Nat} {x : Str} (h : sc.names.lookup x = some .cell) : ∃ c, (cellsFrom n sc.names []).lookup x = some c := by
  have q := PySem.W.cellsFrom_some sc.names n [] (.inl h)
  exact Option.isSome_iff_exists.mp q

theorem inv_start {CX : CXT} {P : Program} {w : World} {K : PySem.W.Frag} {mg : Str → Option Value} {base : Heap} {N ps : List Str} {qual : Str} {scope : Scope} {f : Addr} {cd : Value} {A : Around} {outer : List Env} {s s1 : Shared} {H : Hp} {E : XK} {us : List Value} {vs : List V}
    (S : FnScope N ps scope) (hd : A.handled = none) (e0 : Env0 P w K mg base A outer s H) (hl : vs.length = ps.length) (r : Vals vs us)
    (x : InCallC s s.heap.objs.size (bindL (envOfC qual scope s.heap.objs.size f cd).kindOf (ps.zip us) fun _ => none) (cellsFrom (s.heap.objs.size + 1) scope.names []) (bindC (envOfC qual scope s.heap.objs.size f cd).kindOf (ps.zip us) fun _ => none) s1) :
    Inv (cxOf CX P w K mg base N qual scope f cd A outer s H E) [] (start N vs) H s1 := by
  have hpl : ps.length ≤ N.length := by have := congrArg List.length S.pre; rw [List.length_take] at this; omega
  obtain ⟨h1, tk, rfl, hk⟩ := x.done
  have noA : ∀ b : Addr, b ∉ (cxOf CX P w K mg base N qual scope f cd A outer s H E).ex := fun b z => absurd (show b ∈ ([] : List Addr) from z) (by simp)
  refine ⟨⟨e0.mod, S.kind, rfl, rfl, Nat.le_refl _, fun y z c h1 h2 => ?_, fun y hy => ?_, fun y c _ h => ?_, fun _ => hd, Around.frames_deeper e0.frames, .inr ⟨rfl, rfl⟩, fun b z => absurd z (noA b), e0.bs, e0.bsz, fun b _ _ => noA b, fun b z => absurd z (noA b), e0.funs, e0.frf⟩,
    rfl, e0.bare, Un.kept hk, ⟨_, x.toInCall.ns, fun i y v h1 h2 h3 => ?_⟩, fun y c h => ⟨_, x.cell y c h⟩, e0.hok.fresh (Nat.le_refl _), fun y c h => ?_, fun p hp => absurd (show p ∈ ([] : List (Addr × Obj)) from hp) (by simp), e0.hok.kept hk, ?_⟩
  · exact name_of_addr x.apart (PySem.mem_of_lookup h1) (PySem.mem_of_lookup h2)
  · have hy : scope.names.lookup y = some .cell ∨ scope.names.lookup y = some .free := hy
    rcases hy with hy | hy
    · exact cell_has hy
    · exact absurd rfl (S.nofree _ (PySem.mem_of_lookup hy))
  · exact Nat.le_of_lt (x.above y c (PySem.mem_of_lookup h))
  · have hi : i < vs.length := by
      unfold start at h2
      by_cases hi : i < vs.length
      · exact hi
      · rw [List.getElem?_append_right (by simpa using hi)] at h2
        rw [List.getElem?_replicate] at h2
        split at h2 <;> cases h2
    have ha : vs[i]? = some v := by
      unfold start at h2
      rw [List.getElem?_append_left (by simpa using hi), List.getElem?_map] at h2
      cases e : vs[i]? with
      | none => rw [e] at h2; cases h2
      | some a => rw [e] at h2; cases h2; rfl
    obtain ⟨u, hu, rv⟩ := r.get ha
    have hp : ps[i]? = some y := by
      rw [← S.pre, List.getElem?_take_of_lt (by omega)]; exact h1
    have ndP : ps.Nodup := by rw [← S.pre]; exact S.nd.sublist (List.take_sublist _ _)
    refine ⟨u, rv, ?_⟩
    rcases S.par y (List.mem_of_getElem? hp) with k | k
    · exact .inl ⟨k, bindL_get ndP hp hu k⟩
    · obtain ⟨c, e⟩ := cell_has (n := s.heap.objs.size + 1) k
      refine .inr ⟨.inl k, c, e, ?_⟩
      have q := x.cell y c e
      rw [bindC_get ndP hp hu (by show scope.names.lookup y ≠ _; rw [k]; decide)] at q
      exact q
  · exact e0.hok.fresh (Nat.le_of_lt (x.above y c (PySem.mem_of_lookup h)))
  · unfold start
    show _ = N.length
    rw [List.length_append, List.length_map, List.length_replicate]
    omega

/-- THE RULE: a def (or a method) of the text, by its body. The body's reading t is chosen for each entry; it is run at the parameters' values -/
theorem fn_of {CX : CXT} {P : Program} {w : World} {K : PySem.W.Frag} {mg : Str → Option Value} {base : Heap} {k : Nat} {f : Addr} {name qual : Str} {params : Arguments} {body : List Stmt} {scope : Scope} {dV kV doc pm cdv ct oc : Value} {an od : Option Addr}
    {osl : Array (Option Value)} {N ps : List Str} {sp : Sp} (lk : K.lookup f = some ⟨oc, od, .func (PySem.W.fnOf name qual params body scope dV kV doc pm an cdv ct), osl⟩) (hcd : PySem.W.codeIn K cdv qual = true) (S : FnScope N ps scope)
    (len : ∀ vs H Q E, sp vs H Q E → vs.length = ps.length)
    (hbody : ∀ (A : Around) (outer : List Env) (s : Shared) (H : Hp) (vs : List V) (Q : VK) (E : XK), Room k (A.deeper (envOfC qual scope s.heap.objs.size f cdv)) → sp vs H Q E →
      ∃ t, PSs (cxOf CX P w K mg base N qual scope f cdv A outer s H E) body t ∧ t { nx := fun _ H' => Q .non H', rt := Q } (start N vs) H) :
    FnOk P w K mg base CX (k + 1) f (PySem.W.fnOf name qual params body scope dV kV doc pm an cdv ct) ps sp := by
  refine ⟨len, fun A outer s H args us vs Q E hr e0 hb r hsp => ?_⟩
  have hl := len _ _ _ _ hsp
  have KX : K.In s.heap := e0.mod.kin.keeps fun b o e => (e0.bs b o e).1
  have lim : s.heap.NoLimit := e0.mod.nolimit.keeps fun b o e => (e0.bs b o e).1
  have hkind : ∀ y ∈ ps.zip us, scope.names.lookup y.1 = some .local ∨ (scope.names.lookup y.1 = some .cell ∧ ((cellsFrom (s.heap.objs.size + 1) scope.names []).lookup y.1).isSome = true) := fun ⟨n, v⟩ hy => by
    rcases S.par n (List.of_mem_zip hy).1 with q | q
    · exact .inl q
    · exact .inr ⟨q, PySem.W.cellsFrom_some _ _ _ (.inl q)⟩
  refine codeAny_call_function hr.depth (KX _ _ lk) rfl S.co S.gen rfl (PySem.W.codeRec_of KX hcd) (hb _ _ _ _ ?_)
  refine wpAny_newFunctionEnv_cells S.kind hkind fun env he s1 x => ?_
  subst he
  refine ⟨lim.keeps x.toInCall.keep, codeAny_func ?_⟩
  obtain ⟨t, ht, hq⟩ := hbody A outer s H vs Q E (hr.deeper _) hsp
  have I : Inv (cxOf CX P w K mg base N qual scope f cdv A outer s H E) [] (start N vs) H s1 := inv_start S hr.hd e0 hl r x
  refine wpAny_mono (ht [] s1 (start N vs) H _ I hq) (fun fl s' hs => ?_) fun e s' hs => hs
  have fin : ∀ {σ' : St} {H' : Hp} {v : V} {u : Value}, Inv (cxOf CX P w K mg base N qual scope f cdv A outer s H E) [] σ' H' s' → RelV v u → Q v H' → CE outer P w H s Q u s' :=
    fun {σ' H' v u} J rv q => ⟨v, H', J.os, J.bare, J.base, J.hok, rv, q⟩
  cases fl with
  | ret u =>
    obtain ⟨v, σ', H', J, rv, q⟩ := hs
    exact fin J rv q
  | next =>
    obtain ⟨σ', H', J, q⟩ := hs
    exact fin (v := V.non) (u := Value.none) J rfl q
  | brk =>
    obtain ⟨_, _, _, q⟩ := hs
    exact False.elim q
  | cont =>
    obtain ⟨_, _, _, q⟩ := hs
    exact False.elim q
end L2

namespace L2
open PySem PySem.Spec PyProof.Rows
section
variable {X : Cx} {x : Str} {p pos : Pos} {e : Expr} {es : List Expr} {t : TA} {id T : String} {r : List V → Hp → VK → Prop}

def tCB (r : List V → Hp → VK → Prop) (t : TA) : TE := fun σ H Q => t σ H fun vs H1 => r vs H1 Q
/-- f(e, ..), f a built-in function -/
theorem pe_callB (hc : CallR X (.builtin id) r) (hg : Gl X x) (hm : X.mg x = none) (hv : bootBuiltins x = some (.builtin id)) (ha : PA X (e :: es) t) (hn : x ≠ "__name__" := by decide) (hdb : (x == ("__debug__" : Str)) = false := by decide)
    (he : starEach (e :: es) X.env = (false, eval e X.env) :: starEach es X.env := by rfl) (hpl : (backTo pos (starEach es X.env)).any (·.1) = false := by rfl) : PE X (.Call (.Name x p) (e :: es) [] pos) (tCB r t) := by
  intro pins s σ H Q I h
  refine wpAny_Call_Name_kw (ld_blt I hg hm hv ?_ hn hdb)
  exact PyProof.Rows.callWith_builtin1 (thn (ha pos pins s σ H _ I h) fun us s1 ⟨vs, H1, I1, r1, q1⟩ => hc pins s1 σ H1 vs us Q I1 r1 q1) he hpl
/-- T(e, ..), T a built-in type -/
theorem pe_callTy (hc : CallR X (.type T) r) (hg : Gl X x) (hm : X.mg x = none) (hv : bootBuiltins x = some (.type T)) (ha : PA X (e :: es) t) (hn : x ≠ "__name__" := by decide) (hdb : (x == ("__debug__" : Str)) = false := by decide)
    (he : starEach (e :: es) X.env = (false, eval e X.env) :: starEach es X.env := by rfl) (hpl : (backTo pos (starEach es X.env)).any (·.1) = false := by rfl) : PE X (.Call (.Name x p) (e :: es) [] pos) (tCB r t) := by
  intro pins s σ H Q I h
  refine wpAny_Call_Name_kw (ld_blt I hg hm hv ?_ hn hdb)
  exact PyProof.Rows.callWith_type1 (thn (ha pos pins s σ H _ I h) fun us s1 ⟨vs, H1, I1, r1, q1⟩ => hc pins s1 σ H1 vs us Q I1 r1 q1) he hpl
/-- T() -/
theorem pe_callTy0 (hc : CallR X (.type T) r) (hg : Gl X x) (hm : X.mg x = none) (hv : bootBuiltins x = some (.type T)) (hn : x ≠ "__name__" := by decide) (hdb : (x == ("__debug__" : Str)) = false := by decide) :
    PE X (.Call (.Name x p) [] [] pos) (tCB r tNil) := by
  intro pins s σ H Q I h
  refine wpAny_Call_Name_kw (ld_blt I hg hm hv ?_ hn hdb)
  exact PyProof.Rows.callWith_type0 (hc pins s σ H [] [] Q I .nil h)
end
end L2

namespace HT
open PySem PyProof.Rows

/-- t < u of tuples of ints -/
def lexLt : List Int → List Int → Bool
  | [], [] => false
  | [], _ :: _ => true
  | _ :: _, [] => false
  | x :: xs, y :: ys => if x = y then lexLt xs ys else decide (x < y)
theorem lexLt_cons (x y : Int) (xs ys : List Int) : lexLt (x :: xs) (y :: ys) = if x = y then lexLt xs ys else decide (x < y) := rfl
theorem lexLt_nil_nil : lexLt [] [] = false := rfl
theorem lexLt_nil_cons (y : Int) (ys : List Int) : lexLt [] (y :: ys) = true := rfl
theorem lexLt_cons_nil (x : Int) (xs : List Int) : lexLt (x :: xs) [] = false := rfl

theorem eqAt_int (A : Around) (s : Shared) (a : Int) (t : Tok) (c : Int) (u : Tok) : ∃ e, SeqAt.EqAt A s (.int a t) (.int c u) e ∧ (e = true ↔ a = c) :=
  ⟨(a == c), SeqAt.EqAt.int_int a t c u, by simp⟩
theorem rcLt_int (A : Around) (s : Shared) (a : Int) (t : Tok) (c : Int) (u : Tok) (prog : Program) (w : World) (E : Value → Shared → Prop) (Q : Value → Shared → Prop) (h : Q (.bool (decide (a < c))) s) :
    wpAny (model prog w) A (richCompare .Lt (.int a t) (.int c u)) Q E s :=
  (PyProof.Rows.lt_int h : wpAny (model prog w) A (compareOp .Lt (.int a t) (.int c u)) Q E s)

section
open PySem.SeqAt
open PySem.AutoSeq1 (wpAny_loadPart')
open PySem.MeetsSeq PySem.MeetsSeq2 PySem.MeetsSeq3

theorem tuple_lt_ints (l b : Addr) (items items2 : Array Value) (n n2 : Nat) (dd dd2 : Option Addr) (sl sl2 : Array (Option Value)) (ns ms : List Int) (hi : IntsAre items.toList ns) (hj : IntsAre items2.toList ms) :
    Meets (Builtin.«tuple.__lt__» ⟨[.ref l, .ref b], []⟩)
      (fun _ R s => s.heap.get? l = some { cls := .type "tuple", dict := dd, data := .seq items n, slots := sl } ∧ s.heap.get? b = some { cls := .type "tuple", dict := dd2, data := .seq items2 n2, slots := sl2 } ∧
        R (.ok (.ret (.bool (lexLt ns ms)))) s) :=
  .of_wp fun prog w A R s h => by
    obtain ⟨hp, g, d, tk, os⟩ := s; obtain ⟨hl, hb, h⟩ := h
    have f2 := AutoSeq1.sub_tuple_tuple
    have z1 : items.size = ns.length := by rw [← hi.length]; simp
    have z2 : items2.size = ms.length := by rw [← hj.length]; simp
    wp_walk using wpAny_loadPart' hl, wpAny_loadPart' hb, wpAny_forIn_list _ (fun rest b s' => b.1 = none ∧ s' = ⟨hp, g, d, tk, os⟩ ∧ ∃ (vs ws : List Value) (ns' ms' : List Int), rest = vs.zip ws ∧
      IntsAre vs ns' ∧ IntsAre ws ms' ∧ ns'.length + items2.size = ms'.length + items.size ∧ R (.ok (.ret (.bool (lexLt ns' ms')))) ⟨hp, g, d, tk, os⟩) _
    case turn =>
      rintro ⟨y, x⟩ rest b s' ⟨hb', rfl, vs, ws, ns', ms', hz, hvi, hwi, hlen, hR⟩
      cases hvi with
      | nil => rw [List.zip_nil_left] at hz; cases hz
      | cons a t hvi' =>
        cases hwi with
        | nil => rw [List.zip_nil_right] at hz; cases hz
        | cons c u hwi' =>
          rw [List.zip_cons_cons] at hz
          injection hz with hyx hrest
          injection hyx with hy hx
          subst hy hx
          rw [lexLt_cons] at hR
          simp only [List.length_cons] at hlen
          obtain ⟨e, he, hiff⟩ := eqAt_int A.in1 ⟨hp, g, d, tk, os⟩ a t c u
          refine wpAny_bind (he prog w _ _ ?_)
          cases e with
          | true =>
            rw [if_pos (hiff.mp rfl)] at hR
            wp_walk
            exact ⟨rfl, rfl, _, _, _, _, hrest, hvi', hwi', by omega, hR⟩
          | false =>
            rw [if_neg (fun q => absurd (hiff.mpr q) Bool.false_ne_true)] at hR
            have hri := rcLt_int A.in1 ⟨hp, g, d, tk, os⟩ a t c u prog w
            wp_walk using hri
            exact ⟨_, rfl, by simpa using hR⟩
    case fin =>
      rintro ⟨b1, b2⟩ s' ⟨hb', rfl, vs, ws, ns', ms', hz, hvi, hwi, hlen, hR⟩
      simp only at hb'
      subst hb'
      have hv : lexLt ns' ms' = decide (items.size < items2.size) := by
        cases hvi with
        | nil =>
          cases hwi with
          | nil =>
            simp only [List.length_nil] at hlen
            rw [lexLt_nil_nil]
            exact (decide_eq_false (by omega)).symm
          | cons c u hw =>
            simp only [List.length_nil, List.length_cons] at hlen
            rw [lexLt_nil_cons]
            exact (decide_eq_true (by omega)).symm
        | cons a t hv =>
          cases hwi with
          | nil =>
            simp only [List.length_nil, List.length_cons] at hlen
            rw [lexLt_cons_nil]
            exact (decide_eq_false (by omega)).symm
          | cons c u hw =>
            rw [List.zip_cons_cons] at hz
            cases hz
      rw [hv] at hR
      wp_walk
      exact ⟨_, rfl, by simpa [Builtin.Tuple.tupleCompareSizes] using hR⟩
    case h =>
      exact ⟨rfl, rfl, items.toList, items2.toList, ns, ms, rfl, hi, hj, by omega, h⟩
end

section
variable {prog : Program} {w : World} {A : Around} {E : Value → Shared → Prop} {s : Shared}

theorem lt_tupInts {l b : Addr} {items items2 : Array Value} {ns ms : List Int} {Q : Value → Shared → Prop} (hl : IsTup s.heap l items) (hb : IsTup s.heap b items2) (hi : IntsAre items.toList ns) (hj : IntsAre items2.toList ms)
    (hu : A.units < cLine) (h : Q (.bool (lexLt ns ms)) s) : wpAny (model prog w) A (compareOp .Lt (.ref l) (.ref b)) Q E s := by
  obtain ⟨⟨cls, dd, data, sl⟩, ho, hc, n, hd⟩ := id hl
  obtain ⟨⟨cls2, dd2, data2, sl2⟩, ho2, hc2, n2, hd2⟩ := id hb
  simp only at hc hd hc2 hd2
  subst hc hd hc2 hd2
  exact richCompare_meets_room (op := .Lt) ⟨_, ho, rfl⟩ ⟨_, ho2, rfl⟩ PySem.F.slot_tuple_lt PySem.F.entry_tuple_lt (PySem.F.args_tuple_lt_2 _ _) (tuple_lt_ints l b items items2 n n2 dd dd2 sl sl2 ns ms hi hj)
    ⟨ho, ho2, show Value.bool (lexLt ns ms) ≠ Value.notImplemented ∧ Q (.bool (lexLt ns ms)) s from ⟨(fun x => nomatch x), h⟩⟩ hu

/-- t + u, t not empty -/
theorem cat_tup {t b : Addr} {vs ws : List Value} {Q : Value → Shared → Prop} (ht : IsTup s.heap t vs.toArray) (hb : IsTup s.heap b ws.toArray) (hv : vs ≠ [])
    (h1 : ws = [] → Q (.ref t) s) (h2 : ws ≠ [] → Q (.ref s.heap.objs.size) { s with heap := s.heap.push { cls := .type "tuple", data := .seq (vs ++ ws).toArray } })
    (hsz : vs.length + ws.length ≤ sizeLine) : wpAny (model prog w) A (binaryOp .Add (.ref t) (.ref b)) Q E s := by
  obtain ⟨⟨cls, dd, data, sl⟩, ho, hc, n, hd⟩ := id ht
  obtain ⟨⟨cls2, dd2, data2, sl2⟩, ho2, hc2, n2, hd2⟩ := id hb
  simp only at hc hd hc2 hd2
  subst hc hd hc2 hd2
  have e : vs.toArray ++ ws.toArray = (vs ++ ws).toArray := by simp
  by_cases hw : ws = []
  · exact concat_meets ⟨_, ho, rfl⟩ ⟨_, ho2, rfl⟩ noFill_tuple_add seq_tuple_add PySem.F.slot_tuple_add PySem.F.entry_tuple_add (PySem.F.args_tuple_add_2 _ _)
      (tuple_addW1 t b vs.toArray ws.toArray n n2 dd dd2 sl sl2 (by simpa using hv) (by simp [hw])) ⟨ho, ho2, h1 hw⟩
  · refine concat_meets ⟨_, ho, rfl⟩ ⟨_, ho2, rfl⟩ noFill_tuple_add seq_tuple_add PySem.F.slot_tuple_add PySem.F.entry_tuple_add (PySem.F.args_tuple_add_2 _ _)
      (tuple_addW2 t b vs.toArray ws.toArray n n2 dd dd2 sl sl2 (by simpa using hv) (by simpa using hw) (by rw [List.size_toArray, List.size_toArray]; exact hsz)) ⟨ho, ho2, ?_⟩
    rw [e]
    exact h2 hw

/-! ### t[a:b], not the whole -/
/-- a slice's bound as a place among n (d where it is left out) -/
def sIx (n d : Nat) : Option Int → Nat
  | none => d
  | some v => if v < 0 then (v + (n : Int)).toNat else min v.toNat n
theorem sIx_none (n d : Nat) : sIx n d none = d := rfl
theorem sIx_nat (n d k : Nat) : sIx n d (some (k : Int)) = min k n := by
  show (if (k : Int) < 0 then ((k : Int) + (n : Int)).toNat else min (k : Int).toNat n) = min k n
  rw [if_neg (by omega), Int.toNat_natCast]
theorem sIx_le (n d : Nat) (hd : d ≤ n) (o : Option Int) : sIx n d o ≤ n := by
  cases o with
  | none => exact hd
  | some v =>
    show (if v < 0 then (v + (n : Int)).toNat else min v.toNat n) ≤ n
    by_cases hv : v < 0
    · rw [if_pos hv]; omega
    · rw [if_neg hv]; exact Nat.min_le_right _ _
theorem clip_eq (v : Int) (n d : Nat) : (if v < 0 then max (v + (n : Int)) 0 else min v (n : Int)) = ((sIx n d (some v) : Nat) : Int) := by
  show (if v < 0 then max (v + (n : Int)) 0 else min v (n : Int)) = (((if v < 0 then (v + (n : Int)).toNat else min v.toNat n) : Nat) : Int)
  by_cases hv : v < 0
  · simp only [if_pos hv]; omega
  · simp only [if_neg hv]; omega
theorem adjust_gen (lo hi : Option Int) (n : Nat) : Builtin.Slice.sliceAdjust lo hi 1 (n : Int) = (((sIx n 0 lo : Nat) : Int), ((sIx n n hi : Nat) : Int)) := by
  have h1 : ¬ ((1 : Int) < 0) := by omega
  unfold Builtin.Slice.sliceAdjust
  simp only [h1, if_false]
  refine Prod.ext ?_ ?_
  · cases lo with
    | none => rfl
    | some v => exact clip_eq v n 0
  · cases hi with
    | none => rfl
    | some v => exact clip_eq v n n
theorem places_gen (i j : Nat) : Builtin.Slice.slicePlaces (i : Int) (j : Int) 1 = j - i := by
  unfold Builtin.Slice.slicePlaces
  have h1 : (1 : Int) > 0 := by omega
  simp only [h1, if_true, Int.ediv_one]
  split <;> omega
theorem slicePart_ {v : Value} {o : Option Int} {Q : Option Int → Shared → Prop} (p : IsPart v o) (h : Q o s) : wpAny (model prog w) A (Builtin.Slice.slicePartIndex v) Q E s := by
  cases p with
  | none => exact slicePart_none h
  | int i t => exact slicePart_int h
theorem sliceApplied_gen {sl : Addr} {vl vu : Value} {lo hi : Option Int} {n : Nat} {Q : Int × Int × Nat → Shared → Prop} (hs : s.heap.IsSliceOf sl vl vu .none) (pl : IsPart vl lo) (pu : IsPart vu hi)
    (h : Q (((sIx n 0 lo : Nat) : Int), 1, sIx n n hi - sIx n 0 lo) s) : wpAny (model prog w) A (Builtin.Slice.sliceApplied (.ref sl) (pure (n : Int))) Q E s := by
  obtain ⟨os, hos, hcs, hds⟩ := id hs
  unfold Builtin.Slice.sliceApplied Builtin.Slice.sliceFields
  refine wpAny_bind (wpAny_bind (wpAny_field hos hds (x := vl) rfl (wpAny_bind (wpAny_field hos hds (x := vu) rfl (wpAny_bind (wpAny_field hos hds (x := .none) rfl (wpAny_pure ?_)))))))
  refine wpAny_bind (slicePart_none ?_)
  show wpAny _ _ (if ((1 : Int) == 0) = true then _ else _) _ _ s
  rw [if_neg (by decide)]
  refine wpAny_bind (slicePart_ pl (wpAny_bind (slicePart_ pu (wpAny_bind (wpAny_pure ?_)))))
  show wpAny _ _ (match Builtin.Slice.sliceAdjust lo hi 1 (n : Int) with | (lo, hi) => pure (lo, (1 : Int), Builtin.Slice.slicePlaces lo hi 1)) _ _ s
  rw [adjust_gen lo hi n]
  show wpAny _ _ (pure (((sIx n 0 lo : Nat) : Int), (1 : Int), Builtin.Slice.slicePlaces ((sIx n 0 lo : Nat) : Int) ((sIx n n hi : Nat) : Int) 1)) _ _ s
  rw [places_gen]
  exact wpAny_pure h
theorem pick_gen (xs : Array Value) (i k : Nat) : ((List.range k).filterMap fun (m : Nat) => xs[((i : Int) + (m : Int) * 1).toNat]?).toArray = ((xs.toList.drop i).take k).toArray := by
  have e : (fun (m : Nat) => xs[((i : Int) + (m : Int) * 1).toNat]?) = fun m => xs[i + m]? := by
    funext m
    have : ((i : Int) + (m : Int) * 1).toNat = i + m := by omega
    rw [this]
  rw [e]
  have := pick_run xs i k
  rw [List.filterMap_map] at this
  have e2 : ((fun x => xs[x]?) ∘ fun x => i + x) = fun m => xs[i + m]? := rfl
  rw [e2] at this
  rw [this]

theorem getItem_tuple_cut {t sl : Addr} {items : Array Value} {vl vu : Value} {lo hi : Option Int} {Q : Value → Shared → Prop} (ht : IsTup s.heap t items) (hs : s.heap.IsSliceOf sl vl vu .none) (pl : IsPart vl lo) (pu : IsPart vu hi)
    (hw : ¬ (sIx items.size 0 lo = 0 ∧ sIx items.size items.size hi = items.size))
    (h : Q (.ref s.heap.objs.size) { s with heap := s.heap.push { cls := .type "tuple", data := .seq ((items.toList.drop (sIx items.size 0 lo)).take (sIx items.size items.size hi - sIx items.size 0 lo)).toArray } })
    (hsz : items.size ≤ sizeLine) : wpAny (model prog w) A (getItem (.ref t) (.ref sl)) Q E s := by
  have htake : sizeOk (.seq ((items.toList.drop (sIx items.size 0 lo)).take (sIx items.size items.size hi - sIx items.size 0 lo)).toArray) := by
    show ((items.toList.drop (sIx items.size 0 lo)).take (sIx items.size items.size hi - sIx items.size 0 lo)).toArray.size ≤ sizeLine
    rw [List.size_toArray, List.length_take, List.length_drop, Array.length_toList]
    omega
  have hj : sIx items.size items.size hi ≤ items.size := sIx_le _ _ (Nat.le_refl _) hi
  obtain ⟨os, hos, hcs, hds⟩ := id hs
  have hTs : s.TypeIs (.ref sl) "slice" := ⟨os, hos, hcs⟩
  unfold getItem
  try with_reducible refine wpAny_holding ?_
  first | refine wpAny_bind (wpAny_pure ?_) | skip
  refine wpAny_bind (wpAny_sequenceKey ht.typeIs (by decide) ?_)
  refine wpAny_bind (wpAny_callSpecial?_slot (name := Str.ofString "__getitem__") ht.typeIs PyProof.Rows.slot_tuple_getitem
    (wpAny_call_entry PyProof.Rows.slot_tuple_getitem ht.typeIs entry_tuple_getitem ?_ (args_tuple_getitem _ _)))
  show wpAny _ _ (Builtin.Tuple.tupleItemsOf (.ref t) >>= _) _ _ s
  refine wpAny_bind (tupleItemsOf_ ht ?_)
  refine wpAny_bind (wpAny_typeOf hTs ?_)
  rw [if_pos (by decide)]
  refine wpAny_bind (sliceApplied_gen hs pl pu ?_)
  have hno : ¬ ((((sIx items.size 0 lo : Nat) : Int) == 0 && (1 : Int) == 1 && (sIx items.size items.size hi - sIx items.size 0 lo) == items.size) = true) := by
    intro q
    rw [Bool.and_eq_true, Bool.and_eq_true] at q
    have q1 : ((sIx items.size 0 lo : Nat) : Int) = 0 := eq_of_beq q.1.1
    have q2 : sIx items.size items.size hi - sIx items.size 0 lo = items.size := eq_of_beq q.2
    exact hw ⟨by omega, by omega⟩
  show wpAny _ _ (if (((sIx items.size 0 lo : Nat) : Int) == 0 && (1 : Int) == 1 && (sIx items.size items.size hi - sIx items.size 0 lo) == items.size) = true then _ else _) _ _ s
  rw [if_neg hno, pick_gen]
  first
    | exact wpAny_bind (m := Builtin.Tuple.tupleExact _) (wpAny_newObj_type (wpAny_pure ⟨_, rfl, wpAny_pure h⟩) htake)
    | exact wpAny_bind (m := Builtin.Tuple.tupleExact _) (wpAny_newObj_type (wpAny_bind (wpAny_pure (wpAny_pure ⟨_, rfl, wpAny_pure h⟩))) htake)
    | exact wpAny_bind (wpAny_bind (m := Builtin.Tuple.tupleExact _) (wpAny_newObj_type (wpAny_pure (wpAny_pure ⟨_, rfl, wpAny_pure h⟩)) htake))
    | exact wpAny_bind (wpAny_bind (m := Builtin.Tuple.tupleExact _) (wpAny_newObj_type (wpAny_pure ⟨_, rfl, wpAny_pure h⟩) htake))
end
end HT

namespace L2
open PySem PySem.Spec PyProof.Rows

/-! ### the parts of a slice -/
abbrev TO := St → Hp → (Option Int → Hp → Prop) → Prop
/-- a slice's part (left out, or an int) -/
def PO (X : Cx) (e : Option Expr) (t : TO) : Prop :=
  ∀ (pins : List (Addr × Obj)) (s : Shared) (σ : St) (H : Hp) (Q : Option Int → Hp → Prop), Inv X pins σ H s → t σ H Q →
    wpAny (model X.prog X.w) X.A (evalPart e X.env) (fun u s' => ∃ o H', Inv X pins σ H' s' ∧ IsPart u o ∧ Q o H') X.xe s
def tNoPart : TO := fun _ H Q => Q none H
def tPart (t : TE) : TO := fun σ H Q => t σ H fun x H1 => ∃ i, x = .int i ∧ Q (some i) H1

theorem intsAre_of {ns : List Int} : ∀ {us : List Value}, Vals (ns.map V.int) us → IntsAre us ns := by
  induction ns with
  | nil => intro us r; rw [List.map_nil] at r; cases r; exact .nil
  | cons n ns ih =>
    intro us r
    rw [List.map_cons] at r
    cases r with
    | cons r1 r2 =>
      obtain ⟨t, e⟩ := r1
      subst e
      exact .cons n t (ih r2)

section
variable {X : Cx} {e : Expr} {te : TE} {lo hi : Option Expr} {tl th : TO} {pos p2 : Pos}

theorem po_none : PO X none tNoPart := by
  intro pins s σ H Q I h
  rw [evalPart_none]
  exact wpAny_pure ⟨none, H, I, .none, h⟩
theorem po_some (h : PE X e te) : PO X (some e) (tPart te) := by
  intro pins s σ H Q I hw
  rw [evalPart_some]
  refine thn (h pins s σ H _ I hw) fun u s1 ⟨x, H1, I1, r1, q1⟩ => ?_
  obtain ⟨i, rfl, q⟩ := q1
  obtain ⟨t, rfl⟩ := r1
  exact ⟨some i, H1, I1, .int i t, q⟩

/-- what a slice of a value is, by values: the slice object stands at sl -/
def SlR (X : Cx) (r : V → Option Int → Option Int → Hp → VK → Prop) : Prop :=
  ∀ (pins : List (Addr × Obj)) (s : Shared) (σ : St) (H : Hp) (x : V) (v vl vu : Value) (lo hi : Option Int) (sl : Addr) (Q : VK), Inv X pins σ H s → RelV x v → s.heap.IsSliceOf sl vl vu .none → IsPart vl lo → IsPart vu hi → r x lo hi H Q →
    ∃ T id, typeLookup (.type T) "__getitem__" = pure (some (.builtin id)) ∧ s.TypeIs v T ∧ wpAny (model X.prog X.w) X.A (getItem v (.ref sl)) (EP X pins σ Q) X.xe s
theorem SlR.or {r r' : V → Option Int → Option Int → Hp → VK → Prop} (h : SlR X r) (h' : SlR X r') : SlR X (fun x lo hi H Q => r x lo hi H Q ∨ r' x lo hi H Q) := by
  intro pins s σ H x v vl vu lo hi sl Q I rx hs pl pu q
  rcases q with q | q
  · exact h pins s σ H x v vl vu lo hi sl Q I rx hs pl pu q
  · exact h' pins s σ H x v vl vu lo hi sl Q I rx hs pl pu q
def tSl (r : V → Option Int → Option Int → Hp → VK → Prop) (te : TE) (tl th : TO) : TE := fun σ H Q => te σ H fun x H1 => tl σ H1 fun l H2 => th σ H2 fun u H3 => r x l u H3 Q
/-- a[lo:hi], any a -/
theorem pe_slice {r : V → Option Int → Option Int → Hp → VK → Prop} (hr : SlR X r) (he : PE X e te) (hl : PO X lo tl) (hu : PO X hi th) : PE X (.Subscript e (.Slice lo hi none p2) pos) (tSl r te tl th) := by
  intro pins s σ H Q I h
  refine Subscript_ (thn (he pins s σ H _ I h) fun v s1 ⟨x, H1, I1, r1, q1⟩ => ?_)
  refine wpAny_Slice (thn (hl pins s1 σ H1 _ I1 q1) fun vl s2 ⟨l, H2, I2, pl, q2⟩ => thn (hu pins s2 σ H2 _ I2 q2) fun vu s3 ⟨u, H3, I3, pu, q3⟩ => ?_)
  rw [evalPart_none]
  refine wpAny_pure ?_
  have I4 : Inv X pins σ H3 { s3 with heap := s3.heap.push { cls := .type "slice", data := .fields #[vl, vu, .none] } } := I3.kept (t' := s3.toks) fun b ob q => Heap.get?_push_of_some _ q
  obtain ⟨T, id, hT, ht, hg⟩ := hr pins { s3 with heap := s3.heap.push { cls := .type "slice", data := .fields #[vl, vu, .none] } } σ H3 x v vl vu l u s3.heap.objs.size Q I4 r1 (Heap.IsSliceOf.new ..) pl pu q3
  show wpAny (model X.prog X.w) X.A (subscriptTail e (.Slice lo hi none p2) v (.ref s3.heap.objs.size)) (EP X pins σ Q) X.xe { s3 with heap := s3.heap.push { cls := .type "slice", data := .fields #[vl, vu, .none] } }
  exact tail_any (ops := [.ref s3.heap.objs.size, v]) ht hT hg (by with_unfolding_all rfl)

/-- the items of xs[lo:hi] -/
def cutV (xs : List V) (lo hi : Option Int) : List V := (xs.drop (HT.sIx xs.length 0 lo)).take (HT.sIx xs.length xs.length hi - HT.sIx xs.length 0 lo)
theorem cutV_length (xs : List V) (lo hi : Option Int) : (cutV xs lo hi).length ≤ xs.length := by
  unfold cutV
  rw [List.length_take, List.length_drop]
  omega
/-- t[lo:hi], not the whole of it (the whole would be t itself) -/
def rSlT (K : PySem.W.Frag) : V → Option Int → Option Int → Hp → VK → Prop := fun x lo hi H Q => ∃ a xs, x = .ref a ∧ SqT K H a xs ∧
  ¬ (HT.sIx xs.length 0 lo = 0 ∧ HT.sIx xs.length xs.length hi = xs.length) ∧ ∀ p, H p = none → Q (.ref p) (upd H p (.tup (cutV xs lo hi)))
theorem sl_tup : SlR X (rSlT X.K) := by
  intro pins s σ H x v vl vu lo hi sl Q I rx hs pl pu h
  obtain ⟨a, xs, rfl, hx, hw, q⟩ := h
  cases rx
  obtain ⟨its, r, ht, hz⟩ := I.tuple hx
  have hlen : its.toArray.size = xs.length := by rw [List.size_toArray]; exact r.length.symm
  refine ⟨"tuple", _, PyProof.Rows.slot_tuple_getitem.lookup, ht.typeIs, ?_⟩
  refine HT.getItem_tuple_cut ht hs pl pu (by rw [hlen]; exact hw) ?_ (by rw [hlen]; exact hz)
  rw [hlen]
  refine ⟨.ref s.heap.objs.size, _, I.laid (t' := s.toks) (o := .tup (cutV xs lo hi)) (fun b ob q => Heap.get?_push_of_some _ q) (Nat.le_refl _) ?_, rfl, q _ (I.hok.fresh (Nat.le_refl _))⟩
  exact ⟨Nat.le_trans (cutV_length xs lo hi) hz, _, (r.drop (HT.sIx xs.length 0 lo)).take (HT.sIx xs.length xs.length hi - HT.sIx xs.length 0 lo), IsTup.new _ _⟩

/-! ### t < u, t + u -/
def rLtT (K : PySem.W.Frag) : R2 := fun x y H Q => ∃ a b ns ms, x = .ref a ∧ y = .ref b ∧ SqT K H a (ns.map V.int) ∧ SqT K H b (ms.map V.int) ∧ Q (.bl (HT.lexLt ns ms)) H
theorem op_ltT (hu : X.A.units < cLine) : OpR X (compareOp .Lt) (rLtT X.K) := by
  intro pins s σ H x y v u Q I rx ry h
  obtain ⟨a, b, ns, ms, rfl, rfl, ha, hb, q⟩ := h
  cases rx
  cases ry
  obtain ⟨its, r1, p1, _⟩ := I.tuple ha
  obtain ⟨its2, r2, p2, _⟩ := I.tuple hb
  have i1 : IntsAre its.toArray.toList ns := intsAre_of r1
  have i2 : IntsAre its2.toArray.toList ms := intsAre_of r2
  exact HT.lt_tupInts p1 p2 i1 i2 hu ⟨.bl (HT.lexLt ns ms), H, I, rfl, q⟩
/-- t + u, t not empty: u empty gives t itself -/
def rCatT (K : PySem.W.Frag) : R2 := fun x y H Q => ∃ a b xs ys, x = .ref a ∧ y = .ref b ∧ SqT K H a xs ∧ SqT K H b ys ∧ xs ≠ [] ∧ xs.length + ys.length ≤ sizeLine ∧
  (ys = [] → Q (.ref a) H) ∧ (ys ≠ [] → ∀ p, H p = none → Q (.ref p) (upd H p (.tup (xs ++ ys))))
theorem Vals.nil_iff {xs : List V} {us : List Value} (r : Vals xs us) : us = [] ↔ xs = [] := by
  cases r with
  | nil => simp
  | cons _ _ => simp
theorem op_catT : OpR X (binaryOp .Add) (rCatT X.K) := by
  intro pins s σ H x y v u Q I rx ry h
  obtain ⟨a, b, xs, ys, rfl, rfl, ha, hb, hx, hz, q1, q2⟩ := h
  cases rx
  cases ry
  obtain ⟨its, r1, p1, _⟩ := I.tuple ha
  obtain ⟨its2, r2, p2, _⟩ := I.tuple hb
  refine HT.cat_tup p1 p2 (fun z => hx (r1.nil_iff.mp z)) (fun z => ⟨.ref a, H, I, rfl, q1 (r2.nil_iff.mp z)⟩) (fun z => ?_) (by rw [← r1.length, ← r2.length]; exact hz)
  refine ⟨.ref s.heap.objs.size, _, I.laid (t' := s.toks) (o := .tup (xs ++ ys)) (fun b ob q => Heap.get?_push_of_some _ q) (Nat.le_refl _) ?_, rfl, q2 (fun w => z (r2.nil_iff.mpr w)) _ (I.hok.fresh (Nat.le_refl _))⟩
  exact ⟨by rw [List.length_append]; exact hz, _, r1.append r2, IsTup.new _ _⟩
/-- tuple(t) -/
theorem call_tupleT : CallR X (.type "tuple") (fun xs H Q => ∃ a ys, xs = [.ref a] ∧ SqT X.K H a ys ∧ Q (.ref a) H) := by
  intro pins s σ H xs us Q I r h
  obtain ⟨a, ys, rfl, ha, q⟩ := h
  obtain ⟨u, rfl, ru⟩ := vals1 r
  cases ru
  obtain ⟨its, _, p1, _⟩ := I.tuple ha
  exact call_tuple_same (items := its.toArray) p1 ⟨.ref a, H, I, rfl, q⟩
end
end L2

namespace L2
open PySem PySem.Spec PyProof.Rows

/-! ### places -/
/-- the place that an index of any sign means -/
def ixN (n : Nat) (i : Int) : Option Nat := if 0 ≤ i then (if i < n then some i.toNat else none) else if -(n : Int) ≤ i then some (i + n).toNat else none
def atI {α : Type} (xs : List α) (i : Int) : Option α := (ixN xs.length i).bind fun j => xs[j]?
theorem ixN_seq {n : Nat} {i : Int} {j : Nat} (h : ixN n i = some j) : seqIndex? i n = some j ∧ j < n ∧ -(n : Int) ≤ i ∧ i < n := by
  unfold ixN at h
  by_cases h0 : 0 ≤ i
  · rw [if_pos h0] at h
    by_cases h1 : i < n
    · rw [if_pos h1] at h
      have e : i.toNat = j := Option.some.inj h
      exact ⟨by rw [seqIndex_of h0 h1, e], by omega, by omega, h1⟩
    · rw [if_neg h1] at h; cases h
  · rw [if_neg h0] at h
    by_cases h1 : -(n : Int) ≤ i
    · rw [if_pos h1] at h
      have e : (i + n).toNat = j := Option.some.inj h
      exact ⟨by rw [seqIndex_neg (by omega) h1, e], by omega, h1, by omega⟩
    · rw [if_neg h1] at h; cases h
theorem atI_get {α : Type} {xs : List α} {i : Int} {v : α} (h : atI xs i = some v) : ∃ j, seqIndex? i xs.length = some j ∧ xs[j]? = some v ∧ j < xs.length ∧ -(xs.length : Int) ≤ i ∧ i < xs.length := by
  unfold atI at h
  cases e : ixN xs.length i with
  | none => rw [e] at h; cases h
  | some j =>
    rw [e] at h
    obtain ⟨h1, h2, h3, h4⟩ := ixN_seq e
    exact ⟨j, h1, h, h2, h3, h4⟩
theorem atI_nat {α : Type} {xs : List α} {j : Nat} {v : α} (h : xs[j]? = some v) : atI xs (j : Int) = some v := by
  have hj : j < xs.length := (List.getElem?_eq_some_iff.mp h).1
  have e : ixN xs.length (j : Int) = some j := by
    unfold ixN
    rw [if_pos (by omega), if_pos (by omega)]; simp
  unfold atI; rw [e]; exact h
theorem atI_last {α : Type} (xs : List α) (v : α) : atI (xs ++ [v]) (-1) = some v := by
  have hl : (xs ++ [v]).length = xs.length + 1 := by simp
  have e : ixN (xs ++ [v]).length (-1) = some xs.length := by
    unfold ixN
    rw [hl, if_neg (by decide), if_pos (by omega)]
    congr 1
    omega
  unfold atI
  rw [e]
  show (xs ++ [v])[xs.length]? = some v
  simp

/-! ### what may be subscripted -/
/-- what stands as an index of a plain subscript -/
def PlainIx (b : Expr) : Prop := ∀ o i, subscripted b false o i = operate [o, i] (getItem o i)
/-- a subscript by values -/
def IxR (X : Cx) (r : R2) : Prop :=
  ∀ (value slice : Expr) (pins : List (Addr × Obj)) (s : Shared) (σ : St) (H : Hp) (x y : V) (v u : Value) (Q : VK), Inv X pins σ H s → RelV x v → RelV y u → r x y H Q →
    subscripted slice false v u = operate [v, u] (getItem v u) → wpAny (model X.prog X.w) X.A (subscriptTail value slice v u) (EP X pins σ Q) X.xe s
/-- a call of a builtin's method by values: the receiver, the arguments -/
def MtR (X : Cx) (id : String) (r : V → List V → Hp → VK → Prop) : Prop :=
  ∀ (pins : List (Addr × Obj)) (s : Shared) (σ : St) (H : Hp) (x : V) (xs : List V) (v : Value) (us : List Value) (Q : VK), Inv X pins σ H s → RelV x v → Vals xs us → r x xs H Q →
    wpAny (model X.prog X.w) X.A (call (.builtin id) (v :: us)) (EP X pins σ Q) X.xe s
section
variable {X : Cx} {a b : Expr} {ta tb : TE} {pos : Pos}
theorem IxR.or {r r' : R2} (h : IxR X r) (h' : IxR X r') : IxR X (fun x y H Q => r x y H Q ∨ r' x y H Q) := by
  intro value slice pins s σ H x y v u Q I rx ry q hs
  rcases q with q | q
  · exact h value slice pins s σ H x y v u Q I rx ry q hs
  · exact h' value slice pins s σ H x y v u Q I rx ry q hs
theorem MtR.or {id : String} {r r' : V → List V → Hp → VK → Prop} (h : MtR X id r) (h' : MtR X id r') : MtR X id (fun x xs H Q => r x xs H Q ∨ r' x xs H Q) := by
  intro pins s σ H x xs v us Q I rx rs q
  rcases q with q | q
  · exact h pins s σ H x xs v us Q I rx rs q
  · exact h' pins s σ H x xs v us Q I rx rs q
/-- a[b] -/
theorem pe_ix {r : R2} (hr : IxR X r) (ha : PE X a ta) (hb : PE X b tb) (hs : PlainIx b) : PE X (.Subscript a b pos) (tOp r ta tb) := by
  intro pins s σ H Q I h
  exact Subscript_ (binT ha hb I h fun v u s2 x y H2 I2 rx ry q => hr a b pins s2 σ H2 x y v u Q I2 rx ry q (hs _ _))

def rIxL (K : PySem.W.Frag) : R2 := fun x y H Q => ∃ p xs i v, x = .ref p ∧ y = .int i ∧ SqL K H p xs ∧ atI xs i = some v ∧ Q v H
def rIxT (K : PySem.W.Frag) : R2 := fun x y H Q => ∃ p xs i v, x = .ref p ∧ y = .int i ∧ SqT K H p xs ∧ atI xs i = some v ∧ Q v H
def rIxS : R2 := fun x y H Q => ∃ z i c, x = .str z ∧ y = .int i ∧ z.length ≤ sizeLine ∧ atI z.cps.toList i = some c ∧ Q (.str ⟨#[c]⟩) H
theorem ix_list : IxR X (rIxL X.K) := by
  intro value slice pins s σ H x y v u Q I rx ry h hs
  obtain ⟨p, xs, i, z, rfl, rfl, hq, he, q⟩ := h
  cases rx
  obtain ⟨t, rfl⟩ := ry
  obtain ⟨its, r, pl, hz⟩ := I.list hq
  obtain ⟨j, h1, h2, h3, h4, h5⟩ := atI_get he
  obtain ⟨w, ew, rw'⟩ := r.get h2
  have hl := r.length
  have hn := line63
  have fin : EP X pins σ Q w s := ⟨z, H, I, rw', q⟩
  by_cases h0 : 0 ≤ i
  · have hj : i.toNat = j := by
      rw [seqIndex_of h0 h5] at h1
      exact Option.some.inj h1
    exact item_listR pl.isList h0 (by omega) (by rw [hj]; simpa using ew) fin hs
  · have hj : (i + (its.toArray.size : Int)).toNat = j := by
      rw [seqIndex_neg (by omega) h4] at h1
      rw [List.size_toArray, ← hl]
      exact Option.some.inj h1
    exact subscriptTail_builtinR (x := w) pl.isList.typeIs slot_list_getitem.lookup
      (wpAny_getItem_list_neg (Q := fun r s' => r = w ∧ EP X pins σ Q r s') pl.isList (by omega) (by rw [List.size_toArray] <;> omega) (by omega) (by rw [hj]; simpa using ew) ⟨rfl, fin⟩) hs
theorem ix_tup : IxR X (rIxT X.K) := by
  intro value slice pins s σ H x y v u Q I rx ry h hs
  obtain ⟨p, xs, i, z, rfl, rfl, hq, he, q⟩ := h
  cases rx
  obtain ⟨t, rfl⟩ := ry
  obtain ⟨its, r, pl, hz⟩ := I.tuple hq
  obtain ⟨j, h1, h2, h3, h4, h5⟩ := atI_get he
  obtain ⟨w, ew, rw'⟩ := r.get h2
  have hl := r.length
  have hn := line63
  have fin : EP X pins σ Q w s := ⟨z, H, I, rw', q⟩
  exact subscriptTail_builtinR (x := w) pl.typeIs slot_tuple_getitem.lookup
    (getItem_tuple (j := j) (Q := fun r s' => r = w ∧ EP X pins σ Q r s') pl (by omega) (by omega) (by rw [List.size_toArray, ← hl]; exact h1) (by simpa using ew) ⟨rfl, fin⟩) hs
theorem ix_str : IxR X rIxS := by
  intro value slice pins s σ H x y v u Q I rx ry h hs
  obtain ⟨z, i, c, rfl, rfl, hz, he, q⟩ := h
  obtain ⟨t, rfl⟩ := rx
  obtain ⟨t', rfl⟩ := ry
  obtain ⟨j, h1, h2, h3, h4, h5⟩ := atI_get he
  have hl : z.cps.toList.length = z.length := by simp [Str.length]
  rw [hl] at h1 h4 h5
  have hn := line63
  exact tail_any (typeIs_str s z t) slot_str_getitem.lookup (getItem_str (c := c) (by
    have e1 : decide (i < -(2 ^ 63 : Int)) = false := decide_eq_false (by omega)
    have e2 : decide (i ≥ 2 ^ 63) = false := decide_eq_false (by omega)
    rw [e1, e2, Bool.or_false]) (by rw [h1]; simpa using h2) ⟨.str ⟨#[c]⟩, H, I.tok _, ⟨_, rfl⟩, q⟩) hs
/-- list, tuple or str -/
def rIx (K : PySem.W.Frag) : R2 := fun x y H Q => rIxL K x y H Q ∨ rIxT K x y H Q ∨ rIxS x y H Q
theorem ix_seq : IxR X (rIx X.K) := ix_list.or (ix_tup.or ix_str)

/-! ### xs[i] = v, any sign -/
/-- the list's object behind a store -/
theorem mapSeq_set (its : List Value) (n j : Nat) (u : Value) : Obj.mapSeq (·.setIfInBounds j u) { cls := .type "list", data := .seq its.toArray n } = { cls := .type "list", data := .seq (its.set j u).toArray n } := by
  simp [Obj.mapSeq]
theorem Inv.lst {pins : List (Addr × Obj)} {σ : St} {H : Hp} {s : Shared} {p : Addr} {xs : List V} (I : Inv X pins σ H s) (h : H p = some (.lst xs)) :
    ∃ (its : List Value) (n : Nat), Vals xs its ∧ s.heap.get? p = some { cls := .type "list", data := .seq its.toArray n } ∧ xs.length ≤ sizeLine := by
  obtain ⟨z, its, n, r, e⟩ := I.hok p _ h
  exact ⟨its, n, r, e, z⟩
/-- the list at p is written by an update of its object -/
theorem Inv.lstUpd {pins : List (Addr × Obj)} {σ : St} {H : Hp} {s : Shared} {p : Addr} {xs ys : List V} {its its' : List Value} {n n' : Nat} {f : Obj → Obj} (I : Inv X pins σ H s) (h : H p = some (.lst xs))
    (ho : s.heap.get? p = some { cls := .type "list", data := .seq its.toArray n }) (hf : f { cls := .type "list", data := .seq its.toArray n } = { cls := .type "list", data := .seq its'.toArray n' }) (r : Vals ys its') (hz : ys.length ≤ sizeLine) (t : Nat) :
    Inv X pins σ (upd H p (.lst ys)) { s with heap := s.heap.update p f, toks := t } := by
  have e : (s.heap.update p f).get? p = some { cls := .type "list", data := .seq its'.toArray n' } := by
    rw [Heap.get?_update_self f ho (by rw [hf] <;> rfl), hf]
  refine I.write (x := p) (e := p) (by rw [h]; trivial) (.inl rfl) (fun b u hb q => (Heap.get?_update_other _ _ (Ne.symm hb)).trans q) ⟨_, e⟩ ?_
  exact ⟨hz, its', n', r, e⟩
def rSetL : V → V → V → Hp → (Hp → Prop) → Prop := fun o i v H Q => ∃ p xs k j, o = .ref p ∧ i = .int k ∧ H p = some (.lst xs) ∧ ixN xs.length k = some j ∧ Q (upd H p (.lst (xs.set j v)))
theorem set_list : PSet X rSetL := by
  intro pins s σ H o i v ov iv u Q I ro ri rv h
  obtain ⟨p, xs, k, j, rfl, rfl, hp, hj, q⟩ := h
  cases ro
  obtain ⟨t, rfl⟩ := ri
  obtain ⟨its, n, r, ho, hz⟩ := I.lst hp
  obtain ⟨h1, h2, h3, h4⟩ := ixN_seq hj
  have hl := r.length
  have hn := line63
  have I' : Inv X pins σ (upd H p (.lst (xs.set j v))) { s with heap := s.heap.update p (Obj.mapSeq (·.setIfInBounds j u)) } :=
    I.lstUpd hp ho (mapSeq_set its n j u) (r.set rv j) (by rw [List.length_set]; exact hz) s.toks
  by_cases h0 : 0 ≤ k
  · have hk : k.toNat = j := by
      rw [seqIndex_of h0 h4] at h1
      exact Option.some.inj h1
    exact PySem.W.ki_setAt ho h0 (by omega) (by rw [List.size_toArray, ← hl]; exact h4) (by rw [hk]; exact ⟨_, I', q⟩)
  · have hk : (k + (its.toArray.size : Int)).toNat = j := by
      rw [seqIndex_neg (by omega) h3] at h1
      rw [List.size_toArray, ← hl]
      exact Option.some.inj h1
    exact PySem.W.ki_setBack ho (by omega) (by rw [List.size_toArray, ← hl]; exact h3) (by omega) (by rw [hk]; exact ⟨_, I', q⟩)

/-! ### slices -/
theorem slice_bounds (lo hi : Option Int) (n : Nat) : (sliceBounds lo hi none n).1 = ((HT.sIx n 0 lo : Nat) : Int) ∧ (sliceBounds lo hi none n).2.1 = ((HT.sIx n n hi : Nat) : Int) ∧ (sliceBounds lo hi none n).2.2 = 1 := by
  refine ⟨?_, ?_, rfl⟩
  · cases lo with
    | none => simp [sliceBounds, HT.sIx]
    | some i =>
      simp only [sliceBounds, HT.sIx, Option.getD_none, show (1 : Int) > 0 by decide, if_true]
      by_cases h : i < 0
      · simp only [h, if_true] <;> omega
      · simp only [h, if_false] <;> omega
  · cases hi with
    | none => simp [sliceBounds, HT.sIx]
    | some i =>
      simp only [sliceBounds, HT.sIx, Option.getD_none, show (1 : Int) > 0 by decide, if_true]
      by_cases h : i < 0
      · simp only [h, if_true] <;> omega
      · simp only [h, if_false] <;> omega
theorem slicePick_cut (its : List Value) (lo hi : Option Int) : slicePick its.toArray lo hi none = ((its.drop (HT.sIx its.length 0 lo)).take (HT.sIx its.length its.length hi - HT.sIx its.length 0 lo)).toArray := by
  obtain ⟨h1, h2, h3⟩ := slice_bounds lo hi its.toArray.size
  unfold slicePick
  rw [h1, h2, h3]
  simp only [sliceRange_one, pick_run, List.size_toArray] <;> rfl
/-- xs[lo:hi] of a list: a new list -/
def rSlL (K : PySem.W.Frag) : V → Option Int → Option Int → Hp → VK → Prop := fun x lo hi H Q => ∃ a xs, x = .ref a ∧ SqL K H a xs ∧ ∀ p, H p = none → Q (.ref p) (upd H p (.lst (cutV xs lo hi)))
theorem sl_list : SlR X (rSlL X.K) := by
  intro pins s σ H x v vl vu lo hi sl Q I rx hs pl pu h
  obtain ⟨a, xs, rfl, hx, q⟩ := h
  cases rx
  obtain ⟨its, r, ht, hz⟩ := I.list hx
  have hlen := r.length
  refine ⟨"list", _, slot_list_getitem.lookup, ht.isList.typeIs, ?_⟩
  refine wpAny_getItem_list_slice ht.isList hs pl pu .none (by simp) ?_ (by rw [List.size_toArray] <;> omega)
  rw [slicePick_cut, ← hlen]
  refine ⟨.ref s.heap.objs.size, _, I.laid (t' := s.toks) (o := .lst (cutV xs lo hi)) (fun b ob q => Heap.get?_push_of_some _ q) (Nat.le_refl _) ?_, rfl, q _ (I.hok.fresh (Nat.le_refl _))⟩
  exact ⟨Nat.le_trans (cutV_length xs lo hi) hz, _, 0, (r.drop (HT.sIx xs.length 0 lo)).take (HT.sIx xs.length xs.length hi - HT.sIx xs.length 0 lo), Heap.get?_push_size _ rfl⟩

/-! ### in, not in: flat items -/
def flatV : V → Bool
  | .non => true
  | .bl _ => true
  | .int _ => true
  | .str _ => true
  | _ => false
/-- == of flat values -/
def eqV : V → V → Bool
  | .non, .non => true
  | .bl a, .bl b => a == b
  | .bl a, .int b => (if a then 1 else 0) == b
  | .int a, .bl b => a == (if b then 1 else 0)
  | .int a, .int b => a == b
  | .str a, .str b => a == b
  | _, _ => false
theorem eqAt_V {A : Around} {s : Shared} {y x : V} {u v : Value} (ry : RelV y u) (rx : RelV x v) (fy : flatV y = true) (fx : flatV x = true) : SeqAt.EqAt A s u v (eqV y x) := by
  cases y with
  | non =>
    cases ry
    cases x with
    | non => cases rx; exact SeqAt.EqAt.same _
    | bl b => cases rx; exact SeqAt.EqAt.none_bool b
    | int b => obtain ⟨t, rfl⟩ := rx; exact SeqAt.EqAt.none_int b t
    | str b => obtain ⟨t, rfl⟩ := rx; exact SeqAt.EqAt.none_str b t
    | _ => exact absurd (show false = true from fx) Bool.false_ne_true
  | bl a =>
    cases ry
    cases x with
    | non => cases rx; exact SeqAt.EqAt.bool_none a
    | bl b => cases rx; exact SeqAt.EqAt.bool_bool a b
    | int b => obtain ⟨t, rfl⟩ := rx; exact SeqAt.EqAt.bool_int a b t
    | str b => obtain ⟨t, rfl⟩ := rx; exact SeqAt.EqAt.bool_str a b t
    | _ => exact absurd (show false = true from fx) Bool.false_ne_true
  | int a =>
    obtain ⟨t', rfl⟩ := ry
    cases x with
    | non => cases rx; exact SeqAt.EqAt.int_none a t'
    | bl b => cases rx; exact SeqAt.EqAt.int_bool a t' b
    | int b => obtain ⟨t, rfl⟩ := rx; exact SeqAt.EqAt.int_int a t' b t
    | str b => obtain ⟨t, rfl⟩ := rx; exact SeqAt.EqAt.int_str a t' b t
    | _ => exact absurd (show false = true from fx) Bool.false_ne_true
  | str a =>
    obtain ⟨t', rfl⟩ := ry
    cases x with
    | non => cases rx; exact SeqAt.EqAt.str_none a t'
    | bl b => cases rx; exact SeqAt.EqAt.str_bool a t' b
    | int b => obtain ⟨t, rfl⟩ := rx; exact SeqAt.EqAt.str_int a t' b t
    | str b => obtain ⟨t, rfl⟩ := rx; exact SeqAt.EqAt.str_str a t' b t
    | _ => exact absurd (show false = true from fx) Bool.false_ne_true
  | _ => exact absurd (show false = true from fy) Bool.false_ne_true
/-- the items' answers, read off the values (a value's own answer does not lean on its token) -/
def eqU (x : V) (u : Value) : Bool := match u with
  | .none => eqV .non x
  | .bool b => eqV (.bl b) x
  | .int i _ => eqV (.int i) x
  | .str z _ => eqV (.str z) x
  | _ => false
theorem eqU_of {x y : V} {u : Value} (r : RelV y u) (f : flatV y = true) : eqU x u = eqV y x := by
  cases y with
  | non => cases r; rfl
  | bl b => cases r; rfl
  | int i => obtain ⟨t, rfl⟩ := r; rfl
  | str z => obtain ⟨t, rfl⟩ := r; rfl
  | _ => exact absurd (show false = true from f) Bool.false_ne_true
theorem any_eqU {x : V} : ∀ {xs : List V} {us : List Value}, Vals xs us → xs.all flatV = true → us.any (eqU x) = xs.any fun y => eqV y x
  | _, _, .nil, _ => rfl
  | y :: xs, u :: us, .cons r t, f => by
    rw [List.all_cons, Bool.and_eq_true] at f
    rw [List.any_cons, List.any_cons, eqU_of r f.1, any_eqU t f.2]
theorem mem_eqAt {A : Around} {s : Shared} {x : V} {v : Value} (rx : RelV x v) (fx : flatV x = true) : ∀ {xs : List V} {us : List Value}, Vals xs us → xs.all flatV = true → ∀ u ∈ us, SeqAt.EqAt A s u v (eqU x u)
  | _, _, .nil, _ => fun u hu => by cases hu
  | y :: xs, u :: us, .cons r t, f => fun u' hu => by
    rw [List.all_cons, Bool.and_eq_true] at f
    rcases List.mem_cons.mp hu with rfl | hu
    · rw [eqU_of r f.1]; exact eqAt_V r rx f.1 fx
    · exact mem_eqAt rx fx t f.2 u' hu
def inV (x : V) (xs : List V) : Bool := xs.any fun y => eqV y x
/-- x in a list or tuple of flat items -/
def rIn (K : PySem.W.Frag) (neg : Bool) : R2 := fun x y H Q => ∃ p xs, y = .ref p ∧ (SqL K H p xs ∨ SqT K H p xs) ∧ flatV x = true ∧ xs.all flatV = true ∧ Q (.bl (if neg then !inV x xs else inV x xs)) H
theorem op_in_seq : OpR X (compareOp .In) (rIn X.K false) := by
  intro pins s σ H x y v u Q I rx ry h
  obtain ⟨p, xs, rfl, hq, fx, fs, q⟩ := h
  cases ry
  rcases hq with hq | hq
  · obtain ⟨its, r, pl, hz⟩ := I.list hq
    refine SeqAt.in_listAt (eqU x) pl.isList (fun w hw => mem_eqAt rx fx r fs w (by simpa using hw)) ⟨.bl _, H, I, rfl, ?_⟩
    rw [show its.toArray.any (eqU x) = its.any (eqU x) by simp, any_eqU r fs]
    exact q
  · obtain ⟨its, r, pl, hz⟩ := I.tuple hq
    refine SeqAt.in_tupleAt (eqU x) pl (fun w hw => mem_eqAt rx fx r fs w (by simpa using hw)) ⟨.bl _, H, I, rfl, ?_⟩
    rw [show its.toArray.any (eqU x) = its.any (eqU x) by simp, any_eqU r fs]
    exact q
theorem op_notIn_seq : OpR X (compareOp .NotIn) (rIn X.K true) := by
  intro pins s σ H x y v u Q I rx ry h
  obtain ⟨p, xs, rfl, hq, fx, fs, q⟩ := h
  cases ry
  rcases hq with hq | hq
  · obtain ⟨its, r, pl, hz⟩ := I.list hq
    refine SeqAt.notIn_listAt (eqU x) pl.isList (fun w hw => mem_eqAt rx fx r fs w (by simpa using hw)) ⟨.bl _, H, I, rfl, ?_⟩
    rw [show its.toArray.any (eqU x) = its.any (eqU x) by simp, any_eqU r fs]
    exact q
  · obtain ⟨its, r, pl, hz⟩ := I.tuple hq
    refine SeqAt.notIn_tupleAt (eqU x) pl (fun w hw => mem_eqAt rx fx r fs w (by simpa using hw)) ⟨.bl _, H, I, rfl, ?_⟩
    rw [show its.toArray.any (eqU x) = its.any (eqU x) by simp, any_eqU r fs]
    exact q
theorem op_notIn_str : OpR X (compareOp .NotIn) (fun x y H Q => ∃ i j, x = .str i ∧ y = .str j ∧ Q (.bl (!(!(Builtin.Str.occurrences j i 0 j.length 1).isEmpty))) H) := by
  intro pins s σ H x y v u Q I rx ry h
  obtain ⟨i, j, rfl, rfl, q⟩ := h
  obtain ⟨t, rfl⟩ := rx
  obtain ⟨t', rfl⟩ := ry
  exact notIn_str ⟨.bl _, H, I, rfl, q⟩

/-! ### len, list(x), tuple(x) of any list or tuple that is read -/
theorem call_len_seq : CallR X (.builtin "len") (fun xs H Q => ∃ p ys, xs = [.ref p] ∧ (SqL X.K H p ys ∨ SqT X.K H p ys) ∧ Q (.int ys.length) H) := by
  intro pins s σ H xs us Q I r h
  obtain ⟨p, ys, rfl, hq, q⟩ := h
  obtain ⟨u, rfl, rx⟩ := vals1 r
  cases rx
  have hn := line63
  rcases hq with hq | hq
  · obtain ⟨its, r', pl, hz⟩ := I.list hq
    have hlen := r'.length
    exact Calls.call_len_list pl.isList (by simp only [List.size_toArray] <;> omega) ⟨.int ys.length, H, I.tok _, ⟨s.toks + 1, by rw [List.size_toArray, hlen]⟩, q⟩
  · obtain ⟨its, r', pl, hz⟩ := I.tuple hq
    have hlen := r'.length
    exact len_tuple pl (by simp only [List.size_toArray] <;> omega) ⟨.int ys.length, H, I.tok _, ⟨s.toks + 1, by rw [List.size_toArray, hlen]⟩, q⟩
theorem call_len_str : CallR X (.builtin "len") (fun xs H Q => ∃ z, xs = [.str z] ∧ z.length ≤ sizeLine ∧ Q (.int z.length) H) := by
  intro pins s σ H xs us Q I r h
  obtain ⟨z, rfl, hz, q⟩ := h
  obtain ⟨u, rfl, t, rfl⟩ := vals1 r
  have hn := line63
  exact len_str (by omega) ⟨.int z.length, H, I.tok _, ⟨_, rfl⟩, q⟩
theorem CallR.or {f : Value} {r r' : List V → Hp → VK → Prop} (h : CallR X f r) (h' : CallR X f r') : CallR X f (fun xs H Q => r xs H Q ∨ r' xs H Q) := by
  intro pins s σ H xs us Q I rs q
  rcases q with q | q
  · exact h pins s σ H xs us Q I rs q
  · exact h' pins s σ H xs us Q I rs q
theorem call_list_of : CallR X (.type "list") (fun xs H Q => ∃ p ys, xs = [.ref p] ∧ (SqL X.K H p ys ∨ SqT X.K H p ys) ∧ ∀ l, H l = none → Q (.ref l) (upd H l (.lst ys))) := by
  intro pins s σ H xs us Q I r h
  obtain ⟨p, ys, rfl, hq, q⟩ := h
  obtain ⟨u, rfl, rx⟩ := vals1 r
  cases rx
  have fin : ∀ (its : List Value), Vals ys its → ys.length ≤ sizeLine → ∀ (h' : Heap) (c' : Nat), (∀ b o', s.heap.get? b = some o' → h'.get? b = some o') →
      h'.get? s.heap.objs.size = some { cls := .type "list", dict := none, data := .seq its.toArray c', slots := #[] } → EP X pins σ Q (.ref s.heap.objs.size) { s with heap := h' } := fun its r' hz h' c' kp e =>
    ⟨.ref s.heap.objs.size, _, I.laid (t' := s.toks) kp (Nat.le_refl _) (show ObjOk X.prog X.w _ h' _ (.lst ys) from ⟨hz, its, c', r', e⟩), rfl, q _ (I.hok.fresh (Nat.le_refl _))⟩
  rcases hq with hq | hq
  · obtain ⟨its, r', pl, hz⟩ := I.list hq
    have hlen := r'.length
    obtain ⟨o, ho, hc, n, hd⟩ := pl.isList
    exact call_list_seq p (.inl rfl) ho hc hd (fun h' c' kp e => fin its r' hz h' c' kp e) (by simp only [List.size_toArray] <;> omega)
  · obtain ⟨its, r', pl, hz⟩ := I.tuple hq
    have hlen := r'.length
    obtain ⟨o, ho, hc, n, hd⟩ := pl
    exact call_list_seq p (.inr rfl) ho hc hd (fun h' c' kp e => fin its r' hz h' c' kp e) (by simp only [List.size_toArray] <;> omega)
theorem call_tuple_of : CallR X (.type "tuple") (fun xs H Q => ∃ p ys, xs = [.ref p] ∧ ((SqL X.K H p ys ∧ ∀ l, H l = none → Q (.ref l) (upd H l (.tup ys))) ∨ (SqT X.K H p ys ∧ Q (.ref p) H))) := by
  intro pins s σ H xs us Q I r h
  obtain ⟨p, ys, rfl, h⟩ := h
  obtain ⟨u, rfl, rx⟩ := vals1 r
  cases rx
  rcases h with ⟨hq, q⟩ | ⟨hq, q⟩
  · obtain ⟨its, r', pl, hz⟩ := I.list hq
    have hlen := r'.length
    refine call_tuple_list pl.isList (fun h' kp => ?_) (by simp only [List.size_toArray] <;> omega)
    have I1 : Inv X pins σ H { s with heap := h' } := I.kept (t' := s.toks) kp
    have I2 : Inv X pins σ (upd H h'.objs.size (.tup ys)) { s with heap := h'.push { cls := .type "tuple", data := .seq its.toArray } } :=
      I1.laid (t' := s.toks) (fun b o e => Heap.get?_push_of_some _ e) (Nat.le_refl _) (show ObjOk X.prog X.w _ _ _ (.tup ys) from ⟨hz, its, r', IsTup.new _ _⟩)
    exact ⟨.ref h'.objs.size, _, I2, rfl, q _ (I1.hok.fresh (Nat.le_refl _))⟩
  · obtain ⟨its, r', pl, hz⟩ := I.tuple hq
    exact call_tuple_same pl ⟨.ref p, H, I, rfl, q⟩

/-! ### the call of a builtin's method: o.m(..) -/
/-- the value is of that builtin type -/
def tyV (K : PySem.W.Frag) (T : String) (x : V) (H : Hp) : Prop := match x with
  | .str _ => T = "str"
  | .int _ => T = "int"
  | .ref p => (T = "list" ∧ ∃ xs, SqL K H p xs) ∨ (T = "tuple" ∧ ∃ o, K.lookup p = some o ∧ o.cls = .type "tuple" ∧ o.dict = none) ∨
      (T = "dict" ∧ ((∃ kvs, H p = some (.dK kvs)) ∨ ∃ kvs, H p = some (.dT kvs))) ∨ (T = "set" ∧ ∃ S n, H p = some (.set S n))
  | _ => False
theorem tyV_is {pins : List (Addr × Obj)} {σ : St} {H : Hp} {s : Shared} {T : String} {x : V} {v : Value} (I : Inv X pins σ H s) (r : RelV x v) (ty : tyV X.K T x H) :
    s.TypeIs v T ∧ ∀ a, v = .ref a → ∃ ob, s.heap.get? a = some ob ∧ ob.dict = none := by
  cases x with
  | str z =>
    obtain ⟨t, rfl⟩ := r
    cases (show T = "str" from ty)
    exact ⟨typeIs_str s z t, fun _ e => nomatch e⟩
  | int i =>
    obtain ⟨t, rfl⟩ := r
    cases (show T = "int" from ty)
    exact ⟨typeIs_int s i t, fun _ e => nomatch e⟩
  | ref p =>
    cases r
    rcases ty with ⟨rfl, xs, hq⟩ | ⟨rfl, o, hk, hc, hd⟩ | ⟨rfl, hk⟩ | ⟨rfl, S, n, hk⟩
    · obtain ⟨its, _, pl, _⟩ := I.list hq
      refine ⟨pl.isList.typeIs, fun a e => ?_⟩
      cases e
      obtain ⟨o, n, e, c, hd, _⟩ := pl
      exact ⟨o, e, hd⟩
    · refine ⟨⟨o, I.kIn p o hk, hc⟩, fun a e => ?_⟩
      cases e
      exact ⟨o, I.kIn _ o hk, hd⟩
    · have z : ∃ o, s.heap.get? p = some o ∧ o.ExactDict := by
        rcases hk with ⟨kvs, hk⟩ | ⟨kvs, hk⟩
        · obtain ⟨_, _, _, _, o, _, _, e, ex, _⟩ := I.hok p _ hk
          exact ⟨o, e, ex⟩
        · obtain ⟨_, _, _, _, o, _, _, e, ex, _⟩ := I.hok p _ hk
          exact ⟨o, e, ex⟩
      obtain ⟨o, e, ex⟩ := z
      refine ⟨⟨o, e, ex.1⟩, fun a e2 => ?_⟩
      cases e2
      exact ⟨o, e, ex.2.1⟩
    · obtain ⟨o, _, _, _, e, ex, _⟩ := I.hok p _ hk
      refine ⟨⟨o, e, ex.1⟩, fun a e2 => ?_⟩
      cases e2
      exact ⟨o, e, ex.2.1⟩
  | _ => exact False.elim ty
def tBM0 (K : PySem.W.Frag) (T : String) (r : V → List V → Hp → VK → Prop) (to : TE) : TE := fun σ H Q => to σ H fun x H1 => tyV K T x H1 ∧ r x [] H1 Q
def tBM (K : PySem.W.Frag) (T : String) (r : V → List V → Hp → VK → Prop) (to : TE) (t : TA) : TE := fun σ H Q => to σ H fun x H1 => tyV K T x H1 ∧ t σ H1 fun xs H2 => r x xs H2 Q
variable {o e : Expr} {es : List Expr} {to : TE} {t : TA} {name : Str} {apos cpos : Pos} {T id : String} {r : V → List V → Hp → VK → Prop}
theorem pe_bm0 (pa : PlainAttrs T) (slot : Slot T name id) (hty : typeOf (.builtin id) = pure (.type "method_descriptor")) (hm : MtR X id r) (ho : PE X o to)
    (hbase : attributeBase o name X.env (eval o X.env) = eval o X.env := by rfl) (hline : (apos.endLine == cpos.line) = true := by rfl) : PE X (.Call (.Attribute o name apos) [] [] cpos) (tBM0 X.K T r to) := by
  intro pins s σ H Q I h
  refine wpAny_Call_method0_late hbase hline (thn (ho pins s σ H _ I h) fun v s1 ⟨x, H1, I1, r1, ty, q1⟩ => ?_)
  obtain ⟨h1, h2⟩ := tyV_is I1 r1 ty
  exact ⟨T, id, pa, slot, hty, h1, h2, Calls.callWith_builtin rfl (PySem.evalArgs_none (hm pins s1 σ H1 x [] v [] Q I1 r1 .nil q1))⟩
theorem pe_bm (pa : PlainAttrs T) (slot : Slot T name id) (hty : typeOf (.builtin id) = pure (.type "method_descriptor")) (hm : MtR X id r) (ho : PE X o to) (ha : PA X (e :: es) t)
    (hbase : attributeBase o name X.env (eval o X.env) = eval o X.env := by rfl)
    (hfew : ((backTo cpos (starEach (e :: es) X.env)).all (fun x => !x.1) && (backToKw cpos (keywordEach [] X.env)).all (fun x => x.1.isSome)
      && decide ((e :: es).length + ([] : List Keyword).length + (if ([] : List Keyword).isEmpty then 0 else 1) < 30)) = true := by rfl)
    (hline : (apos.endLine == cpos.line) = true := by rfl) (hs : starEach (e :: es) X.env = (false, eval e X.env) :: starEach es X.env := by rfl) (hplain : (backTo cpos (starEach es X.env)).any (·.1) = false := by rfl) :
    PE X (.Call (.Attribute o name apos) (e :: es) [] cpos) (tBM X.K T r to t) := by
  intro pins s σ H Q I h
  refine wpAny_Call_method_late hbase hfew hline rfl (thn (ho pins s σ H _ I h) fun v s1 ⟨x, H1, I1, r1, ty, q1⟩ => ?_)
  obtain ⟨h1, h2⟩ := tyV_is I1 r1 ty
  refine ⟨T, id, pa, slot, hty, h1, h2, ?_⟩
  have hA := ha cpos pins s1 σ H1 _ I1 q1
  rw [hs] at hA ⊢
  refine Calls.callWith_builtin (by show (false || (backTo cpos (starEach es X.env)).any (·.1)) = false; rw [hplain] <;> rfl) (Calls.evalArgs_plain ?_)
  exact thn hA fun us s2 ⟨vs, H2, I2, r2, q2⟩ => hm pins s2 σ H2 x vs v us Q I2 r1 r2 q2
/- xs.append(e), list.index on a module's tuple .. are MtR facts of 06m -/
end
end L2

namespace L2
open PySem PySem.Spec PyProof.Rows

def MtM (X : Cx) (id : String) (r : V → List V → Hp → VK → Prop) : Prop :=
  ∀ (pins : List (Addr × Obj)) (s : Shared) (σ : St) (H : Hp) (x : V) (xs : List V) (v : Value) (us : List Value) (Q : VK), Inv X pins σ H s → RelV x v → Vals xs us → r x xs H Q →
    wpAny (model X.prog X.w) X.A (call (.builtin id) (v :: us)) (EP X pins σ Q) X.xe s

/-! ### lists of values -/
theorem Vals.one : ∀ {x : V} {us : List Value}, Vals [x] us → ∃ u, us = [u] ∧ RelV x u
  | _, _, .cons r .nil => ⟨_, rfl, r⟩
theorem Vals.two : ∀ {x y : V} {us : List Value}, Vals [x, y] us → ∃ u v, us = [u, v] ∧ RelV x u ∧ RelV y v
  | _, _, _, .cons r (.cons q .nil) => ⟨_, _, rfl, r, q⟩
theorem Vals.zero : ∀ {us : List Value}, Vals [] us → us = []
  | _, .nil => rfl
theorem Vals.dropLast {xs : List V} {us : List Value} (h : Vals xs us) : Vals xs.dropLast us.dropLast := by
  induction h with
  | nil => exact .nil
  | cons r t ih =>
    cases t with
    | nil => exact .nil
    | cons q t' => exact .cons r ih
theorem Vals.eraseIdx : ∀ {xs : List V} {us : List Value} (i : Nat), Vals xs us → Vals (xs.eraseIdx i) (us.eraseIdx i)
  | _, _, _, .nil => .nil
  | _, _, 0, .cons _ t => t
  | _, _, i + 1, .cons r t => .cons r (Vals.eraseIdx i t)
theorem Vals.reverse {xs : List V} {us : List Value} (h : Vals xs us) : Vals xs.reverse us.reverse := by
  induction h with
  | nil => exact .nil
  | cons r t ih => rw [List.reverse_cons, List.reverse_cons]; exact Vals.append ih (.cons r .nil)
theorem Vals.rep {xs : List V} {us : List Value} (h : Vals xs us) : ∀ k : Nat, Vals (List.replicate k xs).flatten (List.replicate k us).flatten
  | 0 => .nil
  | k + 1 => by
    rw [List.replicate_succ, List.replicate_succ, List.flatten_cons, List.flatten_cons]
    exact Vals.append h (Vals.rep h k)
theorem erase_last {α : Type} (l : List α) : l.eraseIdx (l.length - 1) = l.dropLast := by
  induction l with
  | nil => rfl
  | cons a r ih =>
    cases r with
    | nil => rfl
    | cons b r =>
      have e : (a :: b :: r).length - 1 = ((b :: r).length - 1) + 1 := by
        have h1 : (a :: b :: r).length = r.length + 2 := rfl
        have h2 : (b :: r).length = r.length + 1 := rfl
        omega
      rw [e, List.eraseIdx_cons_succ, ih]
      all_goals rfl
theorem len_erase {α : Type} : ∀ (l : List α) (i : Nat), (l.eraseIdx i).length ≤ l.length
  | [], _ => Nat.le_refl _
  | _ :: _, 0 => Nat.le_succ _
  | _ :: r, i + 1 => Nat.succ_le_succ (len_erase r i)
theorem foldl_rep (its : List Value) : ∀ (k : Nat) (acc : List Value),
    List.foldl (fun x1 x2 => x1 ++ x2) acc.toArray (List.replicate k its.toArray) = (acc ++ (List.replicate k its).flatten).toArray
  | 0, acc => by simp
  | k + 1, acc => by
    have e : acc.toArray ++ its.toArray = (acc ++ its).toArray := by simp
    have e2 : (acc ++ its) ++ (List.replicate k its).flatten = acc ++ (List.replicate (k + 1) its).flatten := by
      rw [List.replicate_succ, List.flatten_cons, List.append_assoc]
    rw [← e2, ← foldl_rep its k (acc ++ its), ← e, List.replicate_succ, List.foldl_cons]

section
variable {X : Cx} {pins : List (Addr × Obj)} {σ : St} {H : Hp} {s : Shared} {l b : Addr} {xs ys zs : List V}

/-! ### the two steps: a tracked list is rewritten, a new list is laid -/
theorem Inv.lset {its its' : List Value} {n : Nat} {f : Array Value → Array Value} {t' : Nat} (I : Inv X pins σ H s) (hH : H l = some (.lst xs))
    (e : s.heap.get? l = some { cls := .type "list", data := .seq its.toArray n }) (hf : f its.toArray = its'.toArray) (hv : Vals ys its') (hz : ys.length ≤ sizeLine) :
    Inv X pins σ (upd H l (.lst ys)) { s with heap := s.heap.update l (Obj.mapSeq f), toks := t' } := by
  have q := PySem.IsL.update e f
  rw [hf] at q
  refine I.write (x := l) (e := l) (by rw [hH]; exact trivial) (.inl rfl) (fun b' u hb hu => (Heap.get?_update_other s.heap (Obj.mapSeq f) (Ne.symm hb)).trans hu) ⟨_, q⟩ ?_
  exact ⟨hz, its', _, hv, q⟩
theorem Inv.lnew {its : List Value} {t' : Nat} (I : Inv X pins σ H s) (hv : Vals ys its) (hz : ys.length ≤ sizeLine) :
    Inv X pins σ (upd H s.heap.objs.size (.lst ys)) { s with heap := s.heap.push { cls := .type "list", data := .seq its.toArray }, toks := t' } :=
  I.laid (fun _ _ q => Heap.get?_push_of_some _ q) (Nat.le_refl _) ⟨hz, its, 0, hv, Heap.get?_push_size _ rfl⟩
theorem Inv.fresh (I : Inv X pins σ H s) : H s.heap.objs.size = none := I.hok.fresh (Nat.le_refl _)
theorem Inv.lstM (I : Inv X pins σ H s) (hH : H l = some (.lst xs)) : xs.length ≤ sizeLine ∧ ∃ (its : List Value) (n : Nat), Vals xs its ∧ xs.length = its.length ∧ s.heap.get? l = some { cls := .type "list", data := .seq its.toArray n } := by
  obtain ⟨z, its, n, r, e⟩ := I.hok l _ hH
  exact ⟨z, its, n, r, r.length, e⟩

theorem notLongL {n : Nat} (h : n ≤ sizeLine) : Builtin.List.listTooLong n = false := by
  unfold Builtin.List.listTooLong
  exact decide_eq_false (by omega)
end

section
variable {X : Cx}

/-! ### methods -/
def rAppend : V → List V → Hp → VK → Prop := fun x vs H Q => ∃ l xs y, x = .ref l ∧ vs = [y] ∧ H l = some (.lst xs) ∧ xs.length < sizeLine ∧ Q .non (upd H l (.lst (xs ++ [y])))
theorem mt_append : MtM X "list.append" rAppend := by
  intro pins s σ H x vs v us Q I rx rv h
  obtain ⟨l, xs, y, rfl, rfl, hH, hz, q⟩ := h
  cases rx
  obtain ⟨u, rfl, ru⟩ := rv.one
  obtain ⟨z, its, n, r, hl, e⟩ := I.lstM hH
  refine call_meets F.slot_list_append ⟨_, e, rfl⟩ F.entry_list_append (F.args_list_append_2 _ _) (PySem.list_append l its.toArray n u (by rw [List.size_toArray]; omega)) ⟨e, ?_⟩
  refine ⟨.non, _, I.lset (its' := its ++ [u]) hH e (by simp) (r.append (.cons ru .nil)) ?_, rfl, q⟩
  rw [List.length_append, List.length_singleton]
  omega

def rExtend : V → List V → Hp → VK → Prop := fun x vs H Q => ∃ l b xs zs, x = .ref l ∧ vs = [.ref b] ∧ H l = some (.lst xs) ∧ H b = some (.lst zs) ∧ xs.length + zs.length ≤ sizeLine ∧ Q .non (upd H l (.lst (xs ++ zs)))
theorem mt_extend : MtM X "list.extend" rExtend := by
  intro pins s σ H x vs v us Q I rx rv h
  obtain ⟨l, b, xs, zs, rfl, rfl, hH, hB, hz, q⟩ := h
  cases rx
  obtain ⟨u, rfl, ru⟩ := rv.one
  cases ru
  obtain ⟨z, its, n, r, hl, e⟩ := I.lstM hH
  obtain ⟨z2, its2, n2, r2, hl2, e2⟩ := I.lstM hB
  have hsz : its.toArray.size + its2.toArray.size ≤ sizeLine := by rw [List.size_toArray, List.size_toArray]; omega
  have hlong : ¬ (!its.toArray.isEmpty && Builtin.List.listTooLong (its.toArray.size + its2.toArray.size)) = true := by
    rw [notLongL hsz, Bool.and_false]
    exact Bool.false_ne_true
  refine call_meets F.slot_list_extend ⟨_, e, rfl⟩ F.entry_list_extend (F.args_list_extend_2 _ _)
    (AutoSeq1.list_extend_list_list_0 l its.toArray n b its2.toArray n2 hlong (by rw [List.size_toArray]; omega) (by omega)) ⟨e, e2, ?_⟩
  refine ⟨.non, _, I.lset (its' := its ++ its2) hH e (by simp) (r.append r2) ?_, rfl, q⟩
  rw [List.length_append]
  omega

def rPop : V → List V → Hp → VK → Prop := fun x vs H Q => ∃ l xs y, x = .ref l ∧ vs = [] ∧ H l = some (.lst xs) ∧ xs[xs.length - 1]? = some y ∧ Q y (upd H l (.lst xs.dropLast))
theorem mt_pop : MtM X "list.pop" rPop := by
  intro pins s σ H x vs v us Q I rx rv h
  obtain ⟨l, xs, y, rfl, rfl, hH, hy, q⟩ := h
  cases rx
  have hus := rv.zero
  subst hus
  obtain ⟨z, its, n, r, hl, e⟩ := I.lstM hH
  obtain ⟨u, hu, ru⟩ := r.get hy
  have hy' : its.toArray[its.toArray.size - 1]? = some u := by
    show its.toArray[its.length - 1]? = some u
    rw [← Array.getElem?_toList, ← hl]
    exact hu
  refine call_meets F.slot_list_pop ⟨_, e, rfl⟩ F.entry_list_pop (F.args_list_pop_1 _) (MeetsSeq.list_pop_last l its.toArray n u hy' (by rw [List.size_toArray]; omega)) ⟨e, ?_⟩
  refine ⟨y, _, I.lset (its' := its.dropLast) hH e ?_ r.dropLast ?_, ru, q⟩
  · show its.toArray.eraseIdxIfInBounds (its.toArray.size - 1) = its.dropLast.toArray
    rw [List.size_toArray, List.eraseIdxIfInBounds_toArray, erase_last]
  · rw [List.length_dropLast]
    omega

def rPopAt : V → List V → Hp → VK → Prop := fun x vs H Q => ∃ l xs i k y, x = .ref l ∧ vs = [.int i] ∧ H l = some (.lst xs) ∧ -(2 ^ 63) ≤ i ∧ i < 2 ^ 63 ∧ seqIndex? i xs.length = some k ∧ xs[k]? = some y ∧ Q y (upd H l (.lst (xs.eraseIdx k)))
theorem mt_popAt : MtM X "list.pop" rPopAt := by
  intro pins s σ H x vs v us Q I rx rv h
  obtain ⟨l, xs, i, k, y, rfl, rfl, hH, h1, h2, hk, hy, q⟩ := h
  cases rx
  obtain ⟨u, rfl, ru⟩ := rv.one
  obtain ⟨t, rfl⟩ := ru
  obtain ⟨z, its, n, r, hl, e⟩ := I.lstM hH
  obtain ⟨w, hw, rw'⟩ := r.get hy
  refine call_meets F.slot_list_pop ⟨_, e, rfl⟩ F.entry_list_pop (F.args_list_pop_2 _ _)
    (MeetsSeq.list_pop_at l its.toArray n i t k w (fitsIndex_both h1 h2) (by rw [List.size_toArray, ← hl]; exact hk) (by rw [← Array.getElem?_toList]; exact hw) (by rw [List.size_toArray]; omega)) ⟨e, ?_⟩
  refine ⟨y, _, I.lset (its' := its.eraseIdx k) hH e ?_ (r.eraseIdx k) ?_, rw', q⟩
  · show its.toArray.eraseIdxIfInBounds k = (its.eraseIdx k).toArray
    rw [List.eraseIdxIfInBounds_toArray]
  · have := len_erase xs k
    omega

def rReverse : V → List V → Hp → VK → Prop := fun x vs H Q => ∃ l xs, x = .ref l ∧ vs = [] ∧ H l = some (.lst xs) ∧ Q .non (upd H l (.lst xs.reverse))
theorem mt_reverse : MtM X "list.reverse" rReverse := by
  intro pins s σ H x vs v us Q I rx rv h
  obtain ⟨l, xs, rfl, rfl, hH, q⟩ := h
  cases rx
  have hus := rv.zero
  subst hus
  obtain ⟨z, its, n, r, hl, e⟩ := I.lstM hH
  refine call_meets F.slot_list_reverse ⟨_, e, rfl⟩ F.entry_list_reverse (F.args_list_reverse_1 _) (AutoSeq1.list_reverse_list_0 l its.toArray n (by rw [List.size_toArray]; omega)) ⟨e, ?_⟩
  refine ⟨.non, _, I.lset (its' := its.reverse) hH e (by simp) r.reverse ?_, rfl, q⟩
  rw [List.length_reverse]
  omega

def rClear : V → List V → Hp → VK → Prop := fun x vs H Q => ∃ l xs, x = .ref l ∧ vs = [] ∧ H l = some (.lst xs) ∧ Q .non (upd H l (.lst []))
theorem mt_clear : MtM X "list.clear" rClear := by
  intro pins s σ H x vs v us Q I rx rv h
  obtain ⟨l, xs, rfl, rfl, hH, q⟩ := h
  cases rx
  have hus := rv.zero
  subst hus
  obtain ⟨z, its, n, r, hl, e⟩ := I.lstM hH
  refine call_meets F.slot_list_clear ⟨_, e, rfl⟩ F.entry_list_clear (F.args_list_clear_1 _) (AutoSeq1.list_clear_list_0 l its.toArray n (by rw [List.size_toArray]; omega)) ⟨e, ?_⟩
  exact ⟨.non, _, I.lset (its' := []) (ys := []) hH e rfl .nil (Nat.zero_le _), rfl, q⟩

/-! ### list + list, list += list, list * int -/
def rCat : R2 := fun x y H Q => ∃ l b xs zs, x = .ref l ∧ y = .ref b ∧ H l = some (.lst xs) ∧ H b = some (.lst zs) ∧ xs.length + zs.length ≤ sizeLine ∧ ∀ p, H p = none → Q (.ref p) (upd H p (.lst (xs ++ zs)))
theorem op_cat : OpR X (binaryOp .Add) rCat := by
  intro pins s σ H x y v u Q I rx ry h
  obtain ⟨l, b, xs, zs, rfl, rfl, hH, hB, hz, q⟩ := h
  cases rx
  cases ry
  obtain ⟨z, its, n, r, hl, e⟩ := I.lstM hH
  obtain ⟨z2, its2, n2, r2, hl2, e2⟩ := I.lstM hB
  refine PySem.P.add_list e e2 ?_ (by rw [List.size_toArray, List.size_toArray]; omega)
  have ea : its.toArray ++ its2.toArray = (its ++ its2).toArray := by simp
  rw [ea]
  exact ⟨.ref _, _, I.lnew (t' := s.toks) (r.append r2) (by rw [List.length_append]; omega), rfl, q _ I.fresh⟩
/-- a list times an int (a negative one is nothing) -/
def rRep : R2 := fun x y H Q => ∃ l k xs, x = .ref l ∧ y = .int k ∧ H l = some (.lst xs) ∧ -(2 ^ 63) ≤ k ∧ k < 2 ^ 63 ∧ xs.length * k.toNat ≤ sizeLine ∧
  ∀ p, H p = none → Q (.ref p) (upd H p (.lst (List.replicate k.toNat xs).flatten))
theorem len_rep {α : Type} (xs : List α) (k : Nat) : (List.replicate k xs).flatten.length = k * xs.length := by
  induction k with
  | zero => simp
  | succ k ih => rw [List.replicate_succ, List.flatten_cons, List.length_append, ih, Nat.succ_mul, Nat.add_comm]
theorem op_rep : OpR X (binaryOp .Mult) rRep := by
  intro pins s σ H x y v u Q I rx ry h
  obtain ⟨l, k, xs, rfl, rfl, hH, h1, h2, hz, q⟩ := h
  cases rx
  obtain ⟨t, rfl⟩ := ry
  obtain ⟨z, its, n, r, hl, e⟩ := I.lstM hH
  have hlen : its.toArray.size * k.toNat ≤ sizeLine := by rw [List.size_toArray, ← hl]; exact hz
  have hcap : ¬ its.toArray.size * k.toNat > (2 ^ 63 - 1) / 8 := by
    have : (sizeLine : Nat) ≤ (2 ^ 63 - 1) / 8 := by decide
    omega
  have hfit : ¬ (!Builtin.List.listFitsIndex k) = true := by
    rw [fitsIndex_both h1 h2]
    exact Bool.false_ne_true
  have hlong : ¬ Builtin.List.listTooLong (its.toArray.size * k.toNat) = true := by
    rw [notLongL hlen]
    exact Bool.false_ne_true
  have hnew : List.foldl (fun x1 x2 => x1 ++ x2) #[] (List.replicate (if its.toArray.isEmpty = true then 0 else k.toNat) its.toArray) = (List.replicate k.toNat its).flatten.toArray := by
    have f0 : ∀ m : Nat, List.foldl (fun x1 x2 => x1 ++ x2) #[] (List.replicate m its.toArray) = (List.replicate m its).flatten.toArray := fun m => by
      have := foldl_rep its m []
      rw [List.nil_append] at this
      exact this
    rw [f0]
    cases its with
    | nil => simp
    | cons a r' => rw [if_neg (by simp)]
  refine wpAny_binaryOp_repeat_ref (T := "list") (U := "int") (by decide) ⟨_, e, rfl⟩ (fun s' => typeIs_int s' k t) noFill_list_mul F.fills_int_mul F.slot_int_rmul repeat_list F.slot_int_index.lookup
    (call_meets F.slot_int_rmul (typeIs_int s k t) F.entry_int_rmul (F.args_int_rmul_2 _ _) (int___rmul___int_list k t l its.toArray n)
      ⟨e, rfl, ⟨_, e, rfl⟩, call_meets F.slot_list_mul ⟨_, e, rfl⟩ F.entry_list_mul (F.args_list_mul_2 _ _) (AutoListH.list___mul___list_int_3 l its.toArray n k t hfit hcap hlong) ⟨e, ?_⟩⟩)
  rw [hnew]
  exact ⟨.ref _, _, I.lnew (t' := s.toks) (r.rep k.toNat) (by rw [len_rep, Nat.mul_comm]; exact hz), rfl, q _ I.fresh⟩

/-! ### del xs[i] -/
theorem del_list {pins : List (Addr × Obj)} {s : Shared} {σ : St} {H : Hp} {l : Addr} {xs : List V} {i : Int} {t : Tok} {k : Nat} {Q : Unit → Shared → Prop} (I : Inv X pins σ H s) (hH : H l = some (.lst xs))
    (h1 : -(2 ^ 63) ≤ i) (h2 : i < 2 ^ 63) (hk : seqIndex? i xs.length = some k) (h : ∀ s', Inv X pins σ (upd H l (.lst (xs.eraseIdx k))) s' → Q () s') :
    wpAny (model X.prog X.w) X.A (delItem (.ref l) (.int i t)) Q X.xe s := by
  obtain ⟨z, its, n, r, hl, e⟩ := I.lstM hH
  refine PySem.P.delItem_list (k := k) e (fitsIndex_both h1 h2) (by rw [List.size_toArray, ← hl]; exact hk) (h _ ?_) (by rw [List.size_toArray]; omega)
  refine I.lset (its' := its.eraseIdx k) (t' := s.toks) hH e ?_ (r.eraseIdx k) ?_
  · show its.toArray.eraseIdxIfInBounds k = (its.eraseIdx k).toArray
    rw [List.eraseIdxIfInBounds_toArray]
  · have := len_erase xs k
    omega
end

/-! ### xs[a:b] = ys -/
section
variable {prog : Program} {w : World} {A : Around} {E : Value → Shared → Prop} {s : Shared}
theorem splice_eq (its its2 : List Value) (a c : Nat) : its.toArray.extract 0 a ++ its2.toArray ++ its.toArray.extract c its.toArray.size = (its.take a ++ its2 ++ its.drop c).toArray := by
  apply Array.toList_inj.mp
  first
    | (simp
       exact List.take_of_length_le (by simp))
    | simp [List.take_of_length_le]
    | simp
theorem bounds_run {a c n : Nat} (hac : a ≤ c) (hc : c ≤ n) : sliceBounds (some (a : Int)) (some (c : Int)) none n = ((a : Int), (c : Int), 1) := by
  simp only [sliceBounds, Option.getD_none]
  have h1 : ¬ ((a : Int) < 0) := by omega
  have h2 : ¬ ((c : Int) < 0) := by omega
  simp only [h1, h2, if_false, show (1 : Int) > 0 by decide, if_true]
  congr 1
  · omega
  · congr 1; omega
set_option maxRecDepth 100000 in
/-- list.__setitem__ with a slice of step one and another list -/
theorem setItem_slice {l b sl : Addr} {items new : Array Value} {n n2 : Nat} {vl vu : Value} {a c : Nat} {Q : Unit → Shared → Prop}
    (e : s.heap.get? l = some { cls := .type "list", data := .seq items n }) (e2 : s.heap.get? b = some { cls := .type "list", data := .seq new n2 }) (hne : l ≠ b)
    (hs : s.heap.IsSliceOf sl vl vu .none) (pl : IsPart vl (some (a : Int))) (pu : IsPart vu (some (c : Int))) (hac : a ≤ c) (hc : c ≤ items.size)
    (hsz : items.size + new.size ≤ sizeLine) (h : Q () { s with heap := s.heap.update l (Obj.mapSeq fun xs => xs.extract 0 a ++ new ++ xs.extract c xs.size) }) :
    wpAny (model prog w) A (setItem (.ref l) (.ref sl) (.ref b)) Q E s := by
  have hl : s.heap.IsList l items := PySem.IsL.isList e
  have hb : s.heap.IsList b new := PySem.IsL.isList e2
  obtain ⟨os, hos, hcs, hds⟩ := id hs
  have hTs : s.TypeIs (.ref sl) "slice" := ⟨os, hos, hcs⟩
  have hstep : ¬ ((rawPart none == rawInt 0) = true) := Bool.false_ne_true
  have hsame : Builtin.List.listSameRef (.ref l) (.ref b) = false := by
    unfold Builtin.List.listSameRef
    exact beq_eq_false_iff_ne.mpr hne
  have hmax : (max (a : Int) (c : Int)).toNat = c := by omega
  have hz' : ((fun xs : Array Value => xs.extract 0 a ++ new ++ xs.extract c xs.size) items).size ≤ sizeLine + 1 := by
    simp only [Array.size_append, Array.size_extract]
    omega
  unfold setItem
  try with_reducible refine wpAny_holding ?_
  first | refine wpAny_bind (wpAny_pure ?_) | skip
  refine wpAny_bind (wpAny_sequenceKey hl.typeIs (by decide) ?_)
  refine wpAny_bind (wpAny_callSpecial?_slot (name := Str.ofString "__setitem__") hl.typeIs slot_list_setitem
    (wpAny_call_entry slot_list_setitem hl.typeIs entry_list_setitem ?_ (args_list_setitem _ _ _)))
  show wpAny _ _ (Builtin.List.listSubscript? (.ref sl) >>= _) _ _ s
  refine wpAny_bind ?_
  unfold Builtin.List.listSubscript?
  refine wpAny_bind (wpAny_specialOf hTs slice_no_index ?_)
  simp only [Option.isNone_none, if_true]
  refine wpAny_pure ?_
  show wpAny _ _ (typeOf (.ref sl) >>= _) _ _ s
  refine wpAny_bind (wpAny_typeOf hTs ?_)
  first
    | rw [if_neg (by decide)]
    | refine PySem.W.KFB.if_not (by decide) ?_
  rw [listSliceParts_eq]
  refine wpAny_bind (wpAny_bind (wpAny_field hos hds (x := .none) rfl (wpAny_bind (wpAny_listPart .none ?_))))
  rw [if_neg hstep]
  refine wpAny_bind (wpAny_field hos hds (x := vl) rfl (wpAny_bind (wpAny_listPart pl ?_)))
  refine wpAny_bind (wpAny_field hos hds (x := vu) rfl (wpAny_bind (wpAny_listPart pu (wpAny_pure ?_))))
  first
    | simp only [hsame, Bool.false_eq_true, if_false]
    | refine PySem.W.KFB.if_not hsame ?_
    | (dsimp only
       rw [if_neg (by rw [hsame]; exact Bool.false_ne_true)])
  refine wpAny_bind (m := Builtin.List.listAllItems (.ref b) "must assign iterable to extended slice") ?_
  unfold Builtin.List.listAllItems
  refine wpAny_bind (wpAny_typeOf hb.typeIs ?_)
  first
    | refine PySem.W.KFB.if_so (by decide) ?_
    | rw [if_pos (by decide)]
    | simp only [beq_self_eq_true, Bool.true_or, if_true]
  unfold Builtin.List.listItems
  refine wpAny_bind (wpAny_seqItems e2 rfl (wpAny_pure ?_))
  refine wpAny_bind (wpAny_bind (wpAny_seqItems e rfl (wpAny_pure ?_)))
  refine wpAny_bind (wpAny_of_eq ((sliceIndices_raw (some (a : Int)) (some (c : Int)) none items.size (by simp)).trans (congrArg (pure : Int × Int × Int → Sem (Int × Int × Int)) (bounds_run hac hc))) ?_)
  show wpAny _ _ (if ((1 : Int) == 1) = true then _ else _) _ _ s
  rw [if_pos (by decide)]
  refine wpAny_bind (wpAny_rule ?_)
  first
    | simp only [notLongL hsz, Bool.false_eq_true, if_false]
    | refine PySem.W.KFB.if_not (notLongL hsz) ?_
  first | refine wpAny_bind (wpAny_pure ?_) | skip
  show wpAny _ _ (updateSeq l (fun xs => xs.extract 0 ((a : Int)).toNat ++ new ++ xs.extract (max (a : Int) (c : Int)).toNat xs.size) >>= _) _ _ s
  rw [hmax, Int.toNat_natCast]
  refine wpAny_bind (wpAny_updateSeq (hz := Nat.le_trans (Nat.le_add_right _ _) hsz) (_hz' := hz') e rfl ?_)
  refine wpAny_bind (wpAny_letGo ?_)
  first
    | exact wpAny_bind (wpAny_pure (wpAny_pure ⟨.none, rfl, wpAny_pure h⟩))
    | exact wpAny_pure ⟨.none, rfl, wpAny_pure h⟩
end

section
variable {X : Cx}
/-- xs[a:c] = ys of another list, at the value level: sl is the slice object that was just made -/
theorem set_slice {pins : List (Addr × Obj)} {s : Shared} {σ : St} {H : Hp} {l b sl : Addr} {xs ys : List V} {a c : Int} {vl vu : Value} {Q : Unit → Shared → Prop} (I : Inv X pins σ H s)
    (hH : H l = some (.lst xs)) (hB : H b = some (.lst ys)) (hne : l ≠ b) (hs : s.heap.IsSliceOf sl vl vu .none) (ra : RelV (.int a) vl) (rc : RelV (.int c) vu) (h0 : 0 ≤ a) (hac : a ≤ c) (hc : c ≤ xs.length)
    (hz : xs.length + ys.length ≤ sizeLine) (h : ∀ s', Inv X pins σ (upd H l (.lst (xs.take a.toNat ++ ys ++ xs.drop c.toNat))) s' → Q () s') :
    wpAny (model X.prog X.w) X.A (setItem (.ref l) (.ref sl) (.ref b)) Q X.xe s := by
  obtain ⟨ta, rfl⟩ := ra
  obtain ⟨tc, rfl⟩ := rc
  obtain ⟨z, its, n, r, hl, e⟩ := I.lstM hH
  obtain ⟨z2, its2, n2, r2, hl2, e2⟩ := I.lstM hB
  obtain ⟨a', rfl⟩ := Int.eq_ofNat_of_zero_le h0
  obtain ⟨c', rfl⟩ := Int.eq_ofNat_of_zero_le (Int.le_trans h0 hac)
  simp only [Int.toNat_natCast] at h
  refine setItem_slice (a := a') (c := c') e e2 hne hs (.int _ _) (.int _ _) (by omega) (by rw [List.size_toArray]; omega) (by rw [List.size_toArray, List.size_toArray]; omega) (h _ ?_)
  refine I.lset (its' := its.take a' ++ its2 ++ its.drop c') (t' := s.toks) hH e ?_ (Vals.append (Vals.append (r.take _) r2) (r.drop _)) ?_
  · exact splice_eq its its2 a' c'
  · rw [List.length_append, List.length_append, List.length_take, List.length_drop]
    omega
end
end L2

namespace L2
open PySem PySem.Spec PyProof.Rows

/-! ### lists of pairs as tables -/
section
variable {κ : Type} [DecidableEq κ]
def valV (kvs : List (κ × V)) (k : κ) : Option V := (kvs.find? fun kv => decide (kv.1 = k)).map (·.2)
/-- in its place, or at the end -/
def putK (kvs : List (κ × V)) (k : κ) (v : V) : List (κ × V) :=
  if (kvs.any fun kv => decide (kv.1 = k)) = true then kvs.map (fun kv => if kv.1 = k then (kv.1, v) else kv) else kvs ++ [(k, v)]
def dropK (kvs : List (κ × V)) (k : κ) : List (κ × V) := kvs.filter fun kv => decide (kv.1 ≠ k)

theorem valV_nil {k : κ} : valV ([] : List (κ × V)) k = none := rfl
theorem valV_pos {p : κ × V} {r : List (κ × V)} {k : κ} (e : p.1 = k) : valV (p :: r) k = some p.2 := by simp [valV, List.find?_cons, e]
theorem valV_neg {p : κ × V} {r : List (κ × V)} {k : κ} (e : ¬ p.1 = k) : valV (p :: r) k = valV r k := by simp [valV, List.find?_cons, e]
theorem valV_any (k : κ) : ∀ kvs : List (κ × V), (kvs.any fun kv => decide (kv.1 = k)) = (valV kvs k).isSome
  | [] => rfl
  | p :: r => by
    rw [List.any_cons]
    by_cases e : p.1 = k
    · simp only [valV_pos e, decide_eq_true e, Bool.true_or, Option.isSome_some]
    · rw [valV_neg e, decide_eq_false e, Bool.false_or]; exact valV_any k r
theorem valV_map (k j : κ) (y : V) : ∀ kvs : List (κ × V), valV (kvs.map fun kv => if kv.1 = k then (kv.1, y) else kv) j = (valV kvs j).map fun x => if j = k then y else x
  | [] => rfl
  | p :: r => by
    have ih := valV_map k j y r
    rw [List.map_cons]
    by_cases h : p.1 = k
    · rw [if_pos h]
      by_cases e : p.1 = j
      · rw [valV_pos (p := (p.1, y)) e, valV_pos e, Option.map_some, if_pos (e.symm.trans h)]
      · rw [valV_neg (p := (p.1, y)) e, valV_neg e, ih]
    · rw [if_neg h]
      by_cases e : p.1 = j
      · rw [valV_pos (p := p) e, valV_pos e, Option.map_some, if_neg (fun z => h (e.trans z))]
      · rw [valV_neg (p := p) e, valV_neg e, ih]
theorem valV_snoc (k j : κ) (y : V) : ∀ kvs : List (κ × V), valV kvs k = none → valV (kvs ++ [(k, y)]) j = if j = k then some y else valV kvs j
  | [], _ => by
    by_cases e : k = j
    · rw [if_pos e.symm]; exact valV_pos (p := (k, y)) e
    · rw [if_neg (fun z => e z.symm)]; exact valV_neg (p := (k, y)) e
  | p :: r, hn => by
    rw [List.cons_append]
    have hk : ¬ p.1 = k := fun z => by rw [valV_pos z] at hn; cases hn
    rw [valV_neg hk] at hn
    have ih := valV_snoc k j y r hn
    by_cases e : p.1 = j
    · rw [valV_pos e, valV_pos e, if_neg (fun z => hk (e.trans z))]
    · rw [valV_neg e, valV_neg e, ih]
theorem valV_put (kvs : List (κ × V)) (k j : κ) (y : V) : valV (putK kvs k y) j = if j = k then some y else valV kvs j := by
  unfold putK
  by_cases a : (kvs.any fun kv => decide (kv.1 = k)) = true
  · rw [if_pos a, valV_map]
    rw [valV_any] at a
    by_cases e : j = k
    · obtain ⟨x, hx⟩ := Option.isSome_iff_exists.mp a
      rw [if_pos e, e, hx, Option.map_some, if_pos rfl]
    · rw [if_neg e]
      cases valV kvs j with
      | none => rfl
      | some x => rw [Option.map_some, if_neg e]
  · rw [if_neg a]
    refine valV_snoc k j y kvs ?_
    rw [valV_any] at a
    cases q : valV kvs k with
    | none => rfl
    | some x => rw [q] at a; exact (a rfl).elim
theorem length_putK (kvs : List (κ × V)) (k : κ) (v : V) : (putK kvs k v).length ≤ kvs.length + 1 := by
  unfold putK
  split
  · rw [List.length_map]; omega
  · rw [List.length_append, List.length_cons, List.length_nil]; omega
theorem putK_new {kvs : List (κ × V)} {k : κ} (v : V) (h : valV kvs k = none) : putK kvs k v = kvs ++ [(k, v)] := by
  unfold putK
  rw [valV_any, h]
  exact if_neg (by decide)

theorem RelO.isSome_eq {o : Option V} {u : Option Value} (r : RelO o u) : o.isSome = u.isSome := by
  cases o with
  | none => cases u with
    | none => rfl
    | some _ => exact (show False from r).elim
  | some _ => cases u with
    | none => exact (show False from r).elim
    | some _ => rfl
theorem RelO.getD {o : Option V} {u : Option Value} {d : V} {d' : Value} (r : RelO o u) (rd : RelV d d') : RelV (o.getD d) (u.getD d') := by
  cases o with
  | none => cases u with
    | none => exact rd
    | some _ => exact (show False from r).elim
  | some _ => cases u with
    | none => exact (show False from r).elim
    | some _ => exact r

/-- raw tables of the same keys -/
theorem KV.val {kvs : List (κ × V)} {vs : List (κ × Value)} (r : KV kvs vs) (k : κ) : RelO (valV kvs k) (valueAt vs k) := by
  unfold KV at r
  induction r with
  | nil => exact True.intro
  | @cons p q ps qs h t ih =>
    obtain ⟨h1, h2⟩ := h
    by_cases e : p.1 = k
    · have e' : q.1 = k := h1.symm.trans e
      have b : valueAt (q :: qs) k = some q.2 := by simp [valueAt, List.find?_cons, e']
      rw [valV_pos e, b]; exact h2
    · have e' : ¬ q.1 = k := fun z => e (h1.trans z)
      have b : valueAt (q :: qs) k = valueAt qs k := by simp [valueAt, List.find?_cons, e']
      rw [valV_neg e, b]; exact ih
theorem KV.any {kvs : List (κ × V)} {vs : List (κ × Value)} (r : KV kvs vs) (k : κ) : (kvs.any fun kv => decide (kv.1 = k)) = vs.any fun kv => decide (kv.1 = k) := by
  unfold KV at r
  induction r with
  | nil => rfl
  | cons h t ih => rw [List.any_cons, List.any_cons, ih, h.1]
theorem KV.repl {kvs : List (κ × V)} {vs : List (κ × Value)} (r : KV kvs vs) (k : κ) {y : V} {u : Value} (ry : RelV y u) :
    KV (kvs.map fun kv => if kv.1 = k then (kv.1, y) else kv) (vs.map fun kv => if kv.1 = k then (kv.1, u) else kv) := by
  unfold KV at r ⊢
  induction r with
  | nil => exact .nil
  | @cons p q ps qs h t ih =>
    rw [List.map_cons, List.map_cons]
    refine .cons ?_ ih
    obtain ⟨h1, h2⟩ := h
    by_cases e : p.1 = k
    · rw [if_pos e, if_pos (h1.symm.trans e)]; exact ⟨h1, ry⟩
    · rw [if_neg e, if_neg (fun z => e (h1.trans z))]; exact ⟨h1, h2⟩
theorem KV.put {kvs : List (κ × V)} {vs : List (κ × Value)} (r : KV kvs vs) (k : κ) {y : V} {u : Value} (ry : RelV y u) : KV (putK kvs k y) (stored vs k u) := by
  unfold putK stored
  rw [r.any k]
  by_cases e : (vs.any fun kv => decide (kv.1 = k)) = true
  · rw [if_pos e, if_pos e]; exact r.repl k ry
  · rw [if_neg e, if_neg e]; exact Paired.snoc r ⟨rfl, ry⟩
theorem KV.drop {kvs : List (κ × V)} {vs : List (κ × Value)} (r : KV kvs vs) (k : κ) : KV (dropK kvs k) (without vs k) := by
  unfold KV at r ⊢
  unfold dropK without
  induction r with
  | nil => exact .nil
  | @cons p q ps qs h t ih =>
    obtain ⟨h1, h2⟩ := h
    rw [List.filter_cons, List.filter_cons]
    by_cases e : p.1 = k
    · have a : ¬ decide (p.1 ≠ k) = true := by simp [e]
      have b : ¬ decide (q.1 ≠ k) = true := by simp [h1.symm.trans e]
      rw [if_neg a, if_neg b]; exact ih
    · have e' : ¬ q.1 = k := fun z => e (h1.trans z)
      have a : decide (p.1 ≠ k) = true := by simp [e]
      have b : decide (q.1 ≠ k) = true := by simp [e']
      rw [if_pos a, if_pos b]; exact .cons ⟨h1, h2⟩ ih
theorem KV.keys {kvs : List (κ × V)} {vs : List (κ × Value)} (r : KV kvs vs) : kvs.map (·.1) = vs.map (·.1) := by
  unfold KV at r
  induction r with
  | nil => rfl
  | cons h t ih => rw [List.map_cons, List.map_cons, ih, h.1]
theorem KV.length {kvs : List (κ × V)} {vs : List (κ × Value)} (r : KV kvs vs) : kvs.length = vs.length := Paired.length r
theorem dropK_le (kvs : List (κ × V)) (k : κ) : (dropK kvs k).length ≤ kvs.length := List.length_filter_le _ _
end


/-! ### a tracked dict, its keys ints and texts or tuples of these -/
theorem kV_is {P : Program} {w : World} {k : Key} {u : Value} (r : RelV (kV k) u) : (mixKind P w).is k u = true := by
  cases k with
  | inl i => obtain ⟨t, e⟩ := (show ∃ t, u = Value.int i t from r); subst e; exact mixKind_int P w i t
  | inr x => obtain ⟨t, e⟩ := (show ∃ t, u = Value.str x t from r); subst e; exact mixKind_str P w x t
theorem kV_inj {a b : Key} (e : kV a = kV b) : a = b := by
  cases a with
  | inl i => cases b with
    | inl j => have e' : V.int i = V.int j := e; injection e' with e'; rw [e']
    | inr y => exact nomatch (show V.int i = V.str y from e)
  | inr x => cases b with
    | inl j => exact nomatch (show V.str x = V.int j from e)
    | inr y => have e' : V.str x = V.str y := e; injection e' with e'; rw [e']
theorem kVs_inj : ∀ {a b : List Key}, a.map kV = b.map kV → a = b
  | [], [], _ => rfl
  | [], _ :: _, e => by simp at e
  | _ :: _, [], e => by simp at e
  | x :: xs, y :: ys, e => by
    rw [List.map_cons, List.map_cons] at e
    injection e with e1 e2
    rw [kV_inj e1, kVs_inj e2]
theorem items_are {P : Program} {w : World} : ∀ {ks : List Key} {us : List Value}, Vals (ks.map kV) us → ItemsAre (mixKind P w) ks us
  | [], _, r => by rw [List.map_nil] at r; cases r; exact .nil
  | k :: ks, _, r => by
    rw [List.map_cons] at r
    cases r with
    | cons h t => exact .cons (kV_is h) (items_are t)

/-- raw entries of a dict with tuple keys -/
abbrev KT (H : Hp) : List (List Key × V) → List (List Key × Addr × Value) → Prop := Paired fun p q => p.1 = q.1 ∧ H q.2.1 = some (.tup (p.1.map kV)) ∧ RelV p.2 q.2.2
theorem KT.val {H : Hp} {kvs : List (List Key × V)} {xs : List (List Key × Addr × Value)} (r : KT H kvs xs) (k : List Key) : RelO (valV kvs k) ((atKey xs k).map (·.2)) := by
  induction r with
  | nil => exact True.intro
  | @cons p q ps qs h t ih =>
    obtain ⟨h1, _, h2⟩ := h
    by_cases e : p.1 = k
    · have e' : q.1 = k := h1.symm.trans e
      have b : atKey (q :: qs) k = some q.2 := by simp [atKey, List.find?_cons, e']
      rw [valV_pos e, b]; exact h2
    · have e' : ¬ q.1 = k := fun z => e (h1.trans z)
      have b : atKey (q :: qs) k = atKey qs k := by simp [atKey, List.find?_cons, e']
      rw [valV_neg e, b]; exact ih
theorem KT.repl {H : Hp} {kvs : List (List Key × V)} {xs : List (List Key × Addr × Value)} (r : KT H kvs xs) (k : List Key) {y : V} {u : Value} (ry : RelV y u) :
    KT H (kvs.map fun kv => if kv.1 = k then (kv.1, y) else kv) (xs.map (putAt k u)) := by
  induction r with
  | nil => exact .nil
  | @cons p q ps qs h t ih =>
    rw [List.map_cons, List.map_cons]
    refine .cons ?_ ih
    obtain ⟨h1, h2, h3⟩ := h
    unfold putAt
    by_cases e : p.1 = k
    · rw [if_pos e, if_pos (h1.symm.trans e)]; exact ⟨h1, h2, ry⟩
    · rw [if_neg e, if_neg (fun z => e (h1.trans z))]; exact ⟨h1, h2, h3⟩
theorem KT.put {H : Hp} {kvs : List (List Key × V)} {xs : List (List Key × Addr × Value)} (r : KT H kvs xs) (k : List Key) {b : Addr} {y : V} {u : Value} (hb : H b = some (.tup (k.map kV))) (ry : RelV y u) :
    KT H (putK kvs k y) (storedH xs k b u) := by
  have e : (kvs.any fun kv => decide (kv.1 = k)) = (atKey xs k).isSome := by
    rw [valV_any, (r.val k).isSome_eq, Option.isSome_map]
  unfold putK storedH
  rw [e]
  by_cases q : (atKey xs k).isSome = true
  · rw [if_pos q, if_pos q]; exact r.repl k ry
  · rw [if_neg q, if_neg q]; exact Paired.snoc r ⟨rfl, hb, ry⟩
theorem KT.keeps {H H' : Hp} {kvs : List (List Key × V)} {xs : List (List Key × Addr × Value)} (r : KT H kvs xs) (ht : ∀ b ys, H b = some (.tup ys) → H' b = some (.tup ys)) : KT H' kvs xs :=
  Paired.mapP r fun _ _ z => ⟨z.1, ht _ _ z.2.1, z.2.2⟩

section
variable {P : Program} {w : World} {H : Hp} {h : Heap} {a : Addr}
theorem rd_of {u : HO} (ok : HOk P w H h) (e : Rd H a u) : ObjOk P w H h a u := e.ok ok
theorem dk_rd {kvs : List (Key × V)} (ok : HOk P w H h) (e : Rd H a (.dK kvs)) : kvs.length ≤ sizeLine ∧ (a == sysModules) = false ∧ ∃ vs, KV kvs vs ∧ h.DictOf (mixKind P w) a vs :=
  show ObjOk P w H h a (.dK kvs) from rd_of ok e
theorem dk_of {kvs : List (Key × V)} (ok : HOk P w H h) (e : H a = some (.dK kvs)) : kvs.length ≤ sizeLine ∧ (a == sysModules) = false ∧ ∃ vs, KV kvs vs ∧ h.DictOf (mixKind P w) a vs := dk_rd ok (.inl e)
/-- a tracked tuple of ints and texts is a key -/
theorem key_of {ks : List Key} (ok : HOk P w H h) (e : H a = some (.tup (ks.map kV))) : (tupleKind (mixKind P w)).is h ks a := by
  obtain ⟨_, its, r, o, h1, h2, n, h3⟩ := (show ObjOk P w H h a (.tup (ks.map kV)) from ok a _ e)
  exact ⟨o, its.toArray, n, h1, h2, h3, by simpa using items_are r⟩
theorem dt_rd {kvs : List (List Key × V)} (ok : HOk P w H h) (e : Rd H a (.dT kvs)) : kvs.length ≤ sizeLine ∧ (a == sysModules) = false ∧
    ∃ xs, KT H kvs xs ∧ h.DictOfH (tupleKind (mixKind P w)) a xs := by
  obtain ⟨z, y, xs, r, o, es, ep, h1, h2, h3, h4, h5⟩ := (show ObjOk P w H h a (.dT kvs) from rd_of ok e)
  refine ⟨z, y, xs, r, o, es, ep, h1, h2, h3, h4, fun x hx => ?_, h5⟩
  have all : ∀ {l : List (List Key × V)} {m : List (List Key × Addr × Value)}, KT H l m → ∀ x ∈ m, (tupleKind (mixKind P w)).is h x.1 x.2.1 := by
    intro l m q
    induction q with
    | nil => intro x hx; exact nomatch hx
    | @cons p q ps qs hq t ih =>
      intro x hx
      rcases List.mem_cons.mp hx with e | hx
      · subst e
        exact key_of ok (by rw [← hq.1]; exact hq.2.1)
      · exact ih x hx
  exact all r x hx
theorem dt_of {kvs : List (List Key × V)} (ok : HOk P w H h) (e : H a = some (.dT kvs)) : kvs.length ≤ sizeLine ∧ (a == sysModules) = false ∧
    ∃ xs, KT H kvs xs ∧ h.DictOfH (tupleKind (mixKind P w)) a xs := dt_rd ok (.inl e)
end

/-- what the dict at a holds at the key y -/
def DGet (H : Hp) (a : Addr) (y : V) (r : Option V) : Prop :=
  (∃ kvs k, Rd H a (.dK kvs) ∧ y = kV k ∧ r = valV kvs k) ∨ ∃ kvs k b, Rd H a (.dT kvs) ∧ y = .ref b ∧ H b = some (.tup (k.map kV)) ∧ r = valV kvs k
/-- the heap behind a[y] = v -/
def DPut (H : Hp) (a : Addr) (y v : V) (H' : Hp) : Prop :=
  (∃ kvs k, H a = some (.dK kvs) ∧ y = kV k ∧ kvs.length < sizeLine ∧ H' = upd H a (.dK (putK kvs k v))) ∨
  ∃ kvs k b, H a = some (.dT kvs) ∧ y = .ref b ∧ H b = some (.tup (k.map kV)) ∧ kvs.length < sizeLine ∧ H' = upd H a (.dT (putK kvs k v))
theorem DGet.k {H : Hp} {a : Addr} {kvs : List (Key × V)} {k : Key} (e : H a = some (.dK kvs)) : DGet H a (kV k) (valV kvs k) := .inl ⟨kvs, k, .inl e, rfl, rfl⟩
theorem DGet.t {H : Hp} {a b : Addr} {kvs : List (List Key × V)} {k : List Key} (e : H a = some (.dT kvs)) (eb : H b = some (.tup (k.map kV))) : DGet H a (.ref b) (valV kvs k) := .inr ⟨kvs, k, b, .inl e, rfl, eb, rfl⟩
theorem DPut.k {H : Hp} {a : Addr} {kvs : List (Key × V)} {k : Key} {v : V} (e : H a = some (.dK kvs)) (hl : kvs.length < sizeLine) : DPut H a (kV k) v (upd H a (.dK (putK kvs k v))) := .inl ⟨kvs, k, e, rfl, hl, rfl⟩
theorem DPut.t {H : Hp} {a b : Addr} {kvs : List (List Key × V)} {k : List Key} {v : V} (e : H a = some (.dT kvs)) (eb : H b = some (.tup (k.map kV))) (hl : kvs.length < sizeLine) :
    DPut H a (.ref b) v (upd H a (.dT (putK kvs k v))) := .inr ⟨kvs, k, b, e, rfl, eb, hl, rfl⟩


section
variable {X : Cx} {pins : List (Addr × Obj)} {σ : St} {H : Hp} {s : Shared} {a : Addr} {y v : V} {u r : Value} {o : Option V} {A : Around} {E : Value → Shared → Prop}

theorem Inv.big (I : Inv X pins σ H s) : sysModules < s.heap.objs.size := by
  have h : mainGlobals < s.heap.objs.size := (I.mod.glob.keeps I.bk).lt
  exact Nat.lt_trans (by decide) h

/-- d[y], there -/
theorem d_getItem {Q : Value → Shared → Prop} (hu : A.units + 1 < cLine) (I : Inv X pins σ H s) (g : DGet H a y (some v)) (ry : RelV y u) (h : ∀ w' s', Inv X pins σ H s' → RelV v w' → Q w' s') :
    wpAny (model X.prog X.w) A (getItem (.ref a) u) Q E s := by
  rcases g with ⟨kvs, k, e, ey, l⟩ | ⟨kvs, k, b, e, ey, eb, l⟩
  · subst ey
    obtain ⟨z, hd, vs, rel, dd⟩ := dk_rd I.hok e
    obtain ⟨w', hw, rw'⟩ := RelO.some_of (v := v) (o := valueAt vs k) (by rw [l]; exact rel.val k)
    exact wpAny_getItem_of (kV_is ry) dd.mapOf hw (h w' _ (I.tok _) rw')
  · subst ey
    cases (show u = Value.ref b from ry)
    obtain ⟨z, hd, xs, rel, dd⟩ := dt_rd I.hok e
    obtain ⟨w', hw, rw'⟩ := RelO.some_of (v := v) (o := (atKey xs k).map (·.2)) (by rw [l]; exact rel.val k)
    obtain ⟨p, hp, hp2⟩ := Option.map_eq_some_iff.mp hw
    refine wpAny_getItem_heap (tupleKind_room_in1 hu) (key_of I.hok eb) dd hp ?_
    rw [hp2]
    exact h w' _ (I.tok _) rw'
/-- y in d -/
theorem d_in {Q : Value → Shared → Prop} (hu : A.units + 1 < cLine) (I : Inv X pins σ H s) (g : DGet H a y o) (ry : RelV y u) (h : ∀ s', Inv X pins σ H s' → Q (.bool o.isSome) s') :
    wpAny (model X.prog X.w) A (compareOp .In u (.ref a)) Q E s := by
  rcases g with ⟨kvs, k, e, ey, l⟩ | ⟨kvs, k, b, e, ey, eb, l⟩
  · subst ey
    obtain ⟨z, hd, vs, rel, dd⟩ := dk_rd I.hok e
    refine wpAny_in_of (kV_is ry) hd dd.mapOf ?_
    rw [← (rel.val k).isSome_eq, ← l]
    exact h _ (I.tok _)
  · subst ey
    cases (show u = Value.ref b from ry)
    obtain ⟨z, hd, xs, rel, dd⟩ := dt_rd I.hok e
    refine wpAny_in_heap (tupleKind_room_in1 hu) (key_of I.hok eb) hd dd ?_
    have q := (rel.val k).isSome_eq
    rw [Option.isSome_map] at q
    rw [← q, ← l]
    exact h _ (I.tok _)
theorem d_notIn {Q : Value → Shared → Prop} (hu : A.units + 1 < cLine) (I : Inv X pins σ H s) (g : DGet H a y o) (ry : RelV y u) (h : ∀ s', Inv X pins σ H s' → Q (.bool (!o.isSome)) s') :
    wpAny (model X.prog X.w) A (compareOp .NotIn u (.ref a)) Q E s := by
  rcases g with ⟨kvs, k, e, ey, l⟩ | ⟨kvs, k, b, e, ey, eb, l⟩
  · subst ey
    obtain ⟨z, hd, vs, rel, dd⟩ := dk_rd I.hok e
    refine wpAny_notIn_of (kV_is ry) hd dd.mapOf ?_
    rw [← (rel.val k).isSome_eq, ← l]
    exact h _ (I.tok _)
  · subst ey
    cases (show u = Value.ref b from ry)
    obtain ⟨z, hd, xs, rel, dd⟩ := dt_rd I.hok e
    refine wpAny_notIn_heap (tupleKind_room_in1 hu) (key_of I.hok eb) hd dd ?_
    have q := (rel.val k).isSome_eq
    rw [Option.isSome_map] at q
    rw [← q, ← l]
    exact h _ (I.tok _)
/-- a dict's object is replaced -/
theorem d_write {h' : Heap} {t' : Nat} {ob : HO} (I : Inv X pins σ H s) (mu : Mut (H a)) (hs : Heap.SameBut a s.heap h') (he : ∃ q, h'.get? a = some q) (new : ObjOk X.prog X.w (upd H a ob) h' a ob) :
    Inv X pins σ (upd H a ob) { s with heap := h', toks := t' } :=
  I.write (x := a) (e := a) mu (.inl rfl) (fun b q hb z => (hs.2 b hb).trans z) he new
theorem dk_new {P : Program} {w : World} {H' : Hp} {h' : Heap} {kvs : List (Key × V)} {vs : List (Key × Value)} (z : kvs.length ≤ sizeLine) (hd : (a == sysModules) = false) (rel : KV kvs vs) (dd : h'.DictOf (mixKind P w) a vs) :
    ObjOk P w H' h' a (.dK kvs) := ⟨z, hd, vs, rel, dd⟩
/-- d[y] = v -/
theorem d_setItem {H' : Hp} {Q : Unit → Shared → Prop} (hu : A.units + 1 < cLine) (I : Inv X pins σ H s) (g : DPut H a y v H') (ry : RelV y u) (rv : RelV v r) (h : ∀ s', Inv X pins σ H' s' → Q () s') :
    wpAny (model X.prog X.w) A (setItem (.ref a) u r) Q E s := by
  rcases g with ⟨kvs, k, e, ey, l, eH⟩ | ⟨kvs, k, b, e, ey, eb, l, eH⟩
  · subst ey eH
    obtain ⟨z, hd, vs, rel, dd⟩ := dk_of I.hok e
    have hz : vs.length ≤ sizeLine := by rw [← rel.length]; exact z
    have hl : (putK kvs k v).length ≤ sizeLine := by have := length_putK kvs k v; omega
    refine wpAny_setItem_pairs (hsz := hz) (kV_is ry) dd fun h' dd' hs => h _ ?_
    have he : ∃ q, h'.get? a = some q := let ⟨q, _, _, hq, _⟩ := dd'; ⟨q, hq⟩
    exact d_write I (by rw [e]; exact True.intro) hs he (dk_new hl hd (rel.put k rv) dd')
  · subst ey eH
    cases (show u = Value.ref b from ry)
    obtain ⟨z, hd, xs, rel, dd⟩ := dt_of I.hok e
    have hz : xs.length ≤ sizeLine := by rw [← Paired.length rel]; exact z
    have hl : (putK kvs k v).length ≤ sizeLine := by have := length_putK kvs k v; omega
    refine wpAny_setItem_heap (hsz := hz) (tupleKind_room_in1 hu) (key_of I.hok eb) dd fun h' dd' hs => h _ ?_
    obtain ⟨q, es, ep, hq, h2, h3, h4, _, h5⟩ := dd'
    refine d_write I (by rw [e]; exact True.intro) hs ⟨q, hq⟩ ⟨hl, hd, _, (rel.put k eb rv).keeps fun c ys ec => ?_, q, es, ep, hq, h2, h3, h4, h5⟩
    rw [upd_ne (ne_of ec e (fun z => nomatch z))]
    exact ec
end

section
variable {X : Cx} {pins : List (Addr × Obj)} {σ : St} {H : Hp} {s : Shared} {a : Addr} {kvs : List (Key × V)} {k : Key} {u : Value} {A : Around} {E : Value → Shared → Prop}
/-- del d[k] -/
theorem d_delItem {Q : Unit → Shared → Prop} (I : Inv X pins σ H s) (e : H a = some (.dK kvs)) (ry : RelV (kV k) u) (l : (valV kvs k).isSome = true) (h : ∀ s', Inv X pins σ (upd H a (.dK (dropK kvs k))) s' → Q () s') :
    wpAny (model X.prog X.w) A (delItem (.ref a) u) Q E s := by
  obtain ⟨z, hd, vs, rel, dd⟩ := dk_of I.hok e
  refine wpAny_delItem_slot dd.typeIs (by decide) PySem.F.slot_dict_delitem
    (call_meetsIn PySem.F.slot_dict_delitem dd.typeIs PySem.F.entry_dict_delitem (PySem.F.args_dict_delitem_2 _ _) (meets_dict_delitem_pairs (mixKind X.prog X.w) a (kV_is ry)) ⟨vs, dd, by rw [← rel.length]; exact z, by rw [← (rel.val k).isSome_eq]; exact l, fun h' dd' hs => h _ ?_⟩)
  have he : ∃ q, h'.get? a = some q := let ⟨q, _, _, hq, _⟩ := dd'; ⟨q, hq⟩
  exact d_write I (by rw [e]; exact True.intro) hs he (dk_new (Nat.le_trans (dropK_le kvs k) z) hd (rel.drop k) dd')
/-- d.pop(k[, x]), there -/
theorem d_pop {v : V} {more : List Value} {Q : Value → Shared → Prop} (I : Inv X pins σ H s) (e : H a = some (.dK kvs)) (ry : RelV (kV k) u) (l : valV kvs k = some v) (hm : more = [] ∨ ∃ x, more = [x])
    (h : ∀ w' s', Inv X pins σ (upd H a (.dK (dropK kvs k))) s' → RelV v w' → Q w' s') : wpAny (model X.prog X.w) A (call (.builtin "dict.pop") (.ref a :: u :: more)) Q E s := by
  obtain ⟨z, hd, vs, rel, dd⟩ := dk_of I.hok e
  obtain ⟨w', hw, rw'⟩ := RelO.some_of (v := v) (o := valueAt vs k) (by rw [← l]; exact rel.val k)
  have hp : (keyPart u).isSome = true := by
    cases k with
    | inl i => obtain ⟨t, q⟩ := (show ∃ t, u = Value.int i t from ry); subst q; rfl
    | inr x => obtain ⟨t, q⟩ := (show ∃ t, u = Value.str x t from ry); subst q; rfl
  have ha : argsOk "dict.pop" ⟨.ref a :: u :: more, []⟩ := by
    rcases hm with q | ⟨x, q⟩
    · subst q; exact PySem.F.args_dict_pop_2 _ _
    · subst q; exact PySem.F.args_dict_pop_3 _ _ _
  refine call_meetsIn PySem.F.slot_dict_pop dd.typeIs PySem.F.entry_dict_pop ha (meets_dict_pop_there (mixKind X.prog X.w) a (kV_is ry) more hm hp)
    ⟨vs, w', dd, by rw [← rel.length]; exact z, hw, fun h' dd' hs => h w' _ ?_ rw'⟩
  have he : ∃ q, h'.get? a = some q := let ⟨q, _, _, hq, _⟩ := dd'; ⟨q, hq⟩
  exact d_write I (by rw [e]; exact True.intro) hs he (dk_new (Nat.le_trans (dropK_le kvs k) z) hd (rel.drop k) dd')
/-- d.pop(k, x), not there -/
theorem d_popD {r : Value} {Q : Value → Shared → Prop} (I : Inv X pins σ H s) (e : H a = some (.dK kvs)) (ry : RelV (kV k) u) (l : valV kvs k = none) (h : ∀ s', Inv X pins σ H s' → Q r s') :
    wpAny (model X.prog X.w) A (call (.builtin "dict.pop") [.ref a, u, r]) Q E s := by
  obtain ⟨z, hd, vs, rel, dd⟩ := dk_of I.hok e
  have hn : valueAt vs k = none := RelO.none_of (by rw [← l]; exact rel.val k)
  have hp : (keyPart u).isSome = true := by
    cases k with
    | inl i => obtain ⟨t, q⟩ := (show ∃ t, u = Value.int i t from ry); subst q; rfl
    | inr x => obtain ⟨t, q⟩ := (show ∃ t, u = Value.str x t from ry); subst q; rfl
  exact call_meetsIn PySem.F.slot_dict_pop dd.typeIs PySem.F.entry_dict_pop (PySem.F.args_dict_pop_3 _ _ _) (meets_dict_pop_default (mixKind X.prog X.w) a (kV_is ry) hd hp r) ⟨vs, dd, hn, h _ (I.tok _)⟩
/-- d.clear() -/
theorem d_clear {Q : Value → Shared → Prop} (I : Inv X pins σ H s) (e : H a = some (.dK kvs)) (h : ∀ s', Inv X pins σ (upd H a (.dK [])) s' → Q .none s') : wpAny (model X.prog X.w) A (call (.builtin "dict.clear") [.ref a]) Q E s := by
  obtain ⟨z, hd, vs, rel, dd⟩ := dk_of I.hok e
  refine call_meetsIn PySem.F.slot_dict_clear dd.typeIs PySem.F.entry_dict_clear (PySem.F.args_dict_clear_1 _) (meets_dict_clear (mixKind X.prog X.w) a) ⟨vs, dd, by rw [← rel.length]; exact z, fun h' dd' hs => h _ ?_⟩
  have he : ∃ q, h'.get? a = some q := let ⟨q, _, _, hq, _⟩ := dd'; ⟨q, hq⟩
  exact d_write (t' := s.toks) I (by rw [e]; exact True.intro) hs he (dk_new (Nat.zero_le _) hd .nil dd')
/-- len(d) -/
theorem d_len {Q : Value → Shared → Prop} (I : Inv X pins σ H s) (e : Rd H a (.dK kvs)) (h : ∀ t s', Inv X pins σ H s' → Q (.int kvs.length t) s') : wpAny (model X.prog X.w) A (call (.builtin "len") [.ref a]) Q E s := by
  obtain ⟨z, hd, vs, rel, dd⟩ := dk_rd I.hok e
  refine call_len_dict hd dd (by rw [← rel.length]; rw [sizeLine_eq] at z; omega) ?_
  rw [← rel.length]
  exact h _ _ (I.tok _)
/-- if d -/
theorem d_truth {Q : Bool → Shared → Prop} (I : Inv X pins σ H s) (e : Rd H a (.dK kvs)) (h : ∀ s', Inv X pins σ H s' → Q (!kvs.isEmpty) s') : wpAny (model X.prog X.w) A (truthy (.ref a)) Q E s := by
  obtain ⟨z, hd, vs, rel, dd⟩ := dk_rd I.hok e
  refine wpAny_truthy_dict hd dd (by rw [← rel.length]; rw [sizeLine_eq] at z; omega) ?_
  have q : kvs.isEmpty = vs.isEmpty := by cases rel <;> rfl
  rw [← q]
  exact h _ (I.tok _)
end


/-! ### readings and rules -/
/-- the element of a subscription, not a slice -/
def NoSl (i : Expr) : Prop := ∀ ov iv, subscripted i false ov iv = operate [ov, iv] (getItem ov iv)
theorem subD_of {prog : Program} {w : World} {A : Around} {E : Value → Shared → Prop} {s : Shared} {env : Env} {value slice : Expr} {pos : Pos} {T id : String} {Q : Value → Shared → Prop}
    (hl : typeLookup (.type T) "__getitem__" = pure (some (.builtin id))) (hs : NoSl slice)
    (h : wpAny (model prog w) A (eval value env) (fun o s₁ => wpAny (model prog w) A (eval slice env) (fun i s₂ => s₂.TypeIs o T ∧ wpAny (model prog w) A (getItem o i) Q E s₂) E s₁) E s) :
    wpAny (model prog w) A (eval (.Subscript value slice pos) env) Q E s := by
  refine Subscript_ (wpAny_mono h (fun o s₁ h₁ => wpAny_mono h₁ (fun i s₂ h₂ => ?_) fun _ _ x => x) fun _ _ x => x)
  obtain ⟨hT, h₂⟩ := h₂
  unfold subscriptTail
  refine wpAny_bind ?_
  rw [getitemInPython_of_ne hT.not_modules]
  refine wpAny_bind (wpAny_specialOf hT hl ?_)
  have fin : wpAny (model prog w) A (subscripted slice false o i) (fun r s₃ => wpAny (model prog w) A (letTemporaryGo value o r >>= fun _ => pure r) Q E s₃) E s₂ := by
    rw [hs o i]
    exact wpAny_operating (wpAny_mono h₂ (fun r s₃ h₃ => wpAny_bind (wpAny_letTemporaryGo (wpAny_pure h₃))) fun _ _ x => x)
  first
    | exact wpAny_pure (wpAny_bind fin)
    | exact wpAny_bind (wpAny_pure (wpAny_bind fin))
    | exact wpAny_bind fin

theorem dict_typeIs {X : Cx} {pins : List (Addr × Obj)} {σ : St} {H : Hp} {s : Shared} {a : Addr} {y : V} {o : Option V} (I : Inv X pins σ H s) (g : DGet H a y o) : s.TypeIs (.ref a) "dict" := by
  rcases g with ⟨kvs, k, e, _, _⟩ | ⟨kvs, k, b, e, _, _, _⟩
  · obtain ⟨_, _, vs, _, dd⟩ := dk_rd I.hok e
    exact dd.typeIs
  · obtain ⟨_, _, xs, _, dd⟩ := dt_rd I.hok e
    exact dd.typeIs
theorem dict_noDict {X : Cx} {pins : List (Addr × Obj)} {σ : St} {H : Hp} {s : Shared} {a : Addr} {y : V} {o : Option V} (I : Inv X pins σ H s) (g : DGet H a y o) :
    ∀ b, Value.ref a = .ref b → ∃ ob, s.heap.get? b = some ob ∧ ob.dict = none := fun b q => by
  cases q
  rcases g with ⟨kvs, k, e, _, _⟩ | ⟨kvs, k, b, e, _, _, _⟩
  · obtain ⟨_, _, vs, _, ob, _, _, h1, h2, _⟩ := dk_rd I.hok e
    exact ⟨ob, h1, h2.2.1⟩
  · obtain ⟨_, _, xs, _, ob, _, _, h1, h2, _⟩ := dt_rd I.hok e
    exact ⟨ob, h1, h2.2.1⟩

/-- d[y] -/
def tDGet (td ty : TE) : TE := fun σ H Q => td σ H fun x H1 => ty σ H1 fun y H2 => ∃ a v, x = .ref a ∧ DGet H2 a y (some v) ∧ Q v H2
/-- y in d, y not in d -/
def tDIn (ty td : TE) : TE := fun σ H Q => ty σ H fun y H1 => td σ H1 fun x H2 => ∃ a o, x = .ref a ∧ DGet H2 a y o ∧ Q (.bl o.isSome) H2
def tDNotIn (ty td : TE) : TE := fun σ H Q => ty σ H fun y H1 => td σ H1 fun x H2 => ∃ a o, x = .ref a ∧ DGet H2 a y o ∧ Q (.bl (!o.isSome)) H2
/-- d[y] = v -/
def sDPut (td ty tv : TE) : TS := fun D σ H => tv σ H fun v H1 => td σ H1 fun x H2 => ty σ H2 fun y H3 => ∃ a H4, x = .ref a ∧ DPut H3 a y v H4 ∧ D.nx σ H4
/-- d[y] op= v -/
def sDAug (td ty tv : TE) (rd : V → V → Hp → VK → Prop) : TS := fun D σ H => td σ H fun x H1 => ty σ H1 fun y H2 => ∃ a v, x = .ref a ∧ DGet H2 a y (some v) ∧
  tv σ H2 fun y2 H3 => rd v y2 H3 fun z H4 => ∃ H5, DPut H4 a y z H5 ∧ D.nx σ H5
/-- del d[y] -/
def sDDel (td ty : TE) : TS := fun D σ H => td σ H fun x H1 => ty σ H1 fun y H2 => ∃ a kvs k, x = .ref a ∧ H2 a = some (.dK kvs) ∧ y = kV k ∧ (valV kvs k).isSome = true ∧ D.nx σ (upd H2 a (.dK (dropK kvs k)))

section
variable {X : Cx} {o i e value : Expr} {pos pos' tpos : Pos} {td ty tv : TE}
theorem pe_dget (hu : X.A.units + 1 < cLine) (ho : PE X o td) (hi : PE X i ty) (hs : NoSl i) : PE X (.Subscript o i pos) (tDGet td ty) := by
  intro pins s σ H Q I h
  refine subD_of PySem.F.slot_dict_getitem.lookup hs (thn (ho pins s σ H _ I h) fun u s1 ⟨x, H1, I1, rx, q1⟩ => thn (hi pins s1 σ H1 _ I1 q1) fun iv s2 ⟨y, H2, I2, ry, a, v, ex, g, q2⟩ => ?_)
  subst ex
  obtain rfl : u = Value.ref a := rx
  exact ⟨dict_typeIs I2 g, d_getItem hu I2 g ry fun w' s3 I3 rw' => ⟨v, H2, I3, rw', q2⟩⟩
theorem pc_din (hu : X.A.units + 1 < cLine) (hi : PE X i ty) (ho : PE X o td) : PC X .In i o (tDIn ty td) := by
  intro pins s σ H Q I h
  refine thn (hi pins s σ H _ I h) fun iv s1 ⟨y, H1, I1, ry, q1⟩ => thn (ho pins s1 σ H1 _ I1 q1) fun u s2 ⟨x, H2, I2, rx, a, ov, ex, g, q2⟩ => ?_
  subst ex
  obtain rfl : u = Value.ref a := rx
  exact d_in hu I2 g ry fun s3 I3 => ⟨.bl ov.isSome, H2, I3, rfl, q2⟩
theorem pc_dnotin (hu : X.A.units + 1 < cLine) (hi : PE X i ty) (ho : PE X o td) : PC X .NotIn i o (tDNotIn ty td) := by
  intro pins s σ H Q I h
  refine thn (hi pins s σ H _ I h) fun iv s1 ⟨y, H1, I1, ry, q1⟩ => thn (ho pins s1 σ H1 _ I1 q1) fun u s2 ⟨x, H2, I2, rx, a, ov, ex, g, q2⟩ => ?_
  subst ex
  obtain rfl : u = Value.ref a := rx
  exact d_notIn hu I2 g ry fun s3 I3 => ⟨.bl (!ov.isSome), H2, I3, rfl, q2⟩
theorem ps_dput (hu : X.A.units + 1 < cLine) (ho : PE X o td) (hi : PE X i ty) (hv : PE X value tv) (hs : swapsWith value (some (.Subscript o i pos')) pos.line X.env = pure false) :
    PS X (.Assign [.Subscript o i pos'] value pos) (sDPut td ty tv) := by
  intro pins s σ H D I h
  refine wpAny_Assign_Subscript (thn (hv pins s σ H _ I h) fun r s1 ⟨v, H1, I1, rv, q1⟩ => thn (ho pins s1 σ H1 _ I1 q1) fun u s2 ⟨x, H2, I2, rx, q2⟩ => thn (hi pins s2 σ H2 _ I2 q2) fun iv s3 ⟨y, H3, I3, ry, a, H4, ex, g, q3⟩ => ?_) hs
  subst ex
  obtain rfl : u = Value.ref a := rx
  exact d_setItem hu I3 g ry rv fun s4 I4 => ⟨σ, H4, I4, q3⟩
theorem ps_daug {op : Operator} {rd : V → V → Hp → VK → Prop} (hu : X.A.units + 1 < cLine) (ho : PE X o td) (hi : PE X i ty) (hv : PE X value tv) (hop : InOp X op rd)
    (ha : ∀ ov iv new, augStore i ov iv new = (do holding [new, ov, iv] (setItem ov iv new); release [new, ov, iv] []; pure .next)) : PS X (.AugAssign (.Subscript o i tpos) op value pos) (sDAug td ty tv rd) := by
  intro pins s σ H D I h
  refine wpAny_AugAssign_SubscriptAny (thn (ho pins s σ H _ I h) fun u s1 ⟨x, H1, I1, rx, q1⟩ => thn (hi pins s1 σ H1 _ I1 q1) fun iv s2 ⟨y, H2, I2, ry, a, v, ex, g, q2⟩ => ?_) ha
  subst ex
  obtain rfl : u = Value.ref a := rx
  refine d_getItem hu I2 g ry fun w' s3 I3 rw' => thn (hv pins s3 σ H2 _ I3 q2) fun w2 s4 ⟨y2, H3, I4, ry2, q3⟩ => thn (hop pins s4 σ H3 v y2 w' w2 _ I4 rw' ry2 q3) fun w3 s5 ⟨z, H4, I5, rz, H5, g5, q4⟩ => ?_
  exact d_setItem hu I5 g5 ry rz fun s6 I6 => ⟨σ, H5, I6, q4⟩
theorem ps_ddel (ho : PE X o td) (hi : PE X i ty) : PS X (.Delete [.Subscript o i tpos] pos) (sDDel td ty) := by
  intro pins s σ H D I h
  refine wpAny_Delete (wpAny_deleteEach_cons (wpAny_delete_Subscript (thn (ho pins s σ H _ I h) fun u s1 ⟨x, H1, I1, rx, q1⟩ => thn (hi pins s1 σ H1 _ I1 q1) fun iv s2 ⟨y, H2, I2, ry, a, kvs, k, ex, e, ey, l, q2⟩ => ?_)))
  subst ex ey
  obtain rfl : u = Value.ref a := rx
  exact d_delItem I2 e ry l fun s3 I3 => wpAny_deleteEach_nil ⟨σ, _, I3, q2⟩
end


/-! ### displays -/
theorem dk_empty {P : Program} {w : World} {H : Hp} (h : Heap) (hb : sysModules < h.objs.size) : ObjOk P w H (h.push { cls := .type "dict", data := .dict #[] }) h.objs.size (.dK []) :=
  ⟨Nat.zero_le _, beq_eq_false_iff_ne.mpr (Ne.symm (Nat.ne_of_lt hb)), [], .nil, Heap.DictOf.new h⟩
theorem dt_empty {P : Program} {w : World} {H : Hp} (h : Heap) (hb : sysModules < h.objs.size) : ObjOk P w H (h.push { cls := .type "dict", data := .dict #[] }) h.objs.size (.dT []) :=
  ⟨Nat.zero_le _, beq_eq_false_iff_ne.mpr (Ne.symm (Nat.ne_of_lt hb)), [], .nil, _, #[], 0, Heap.get?_push_size _ rfl, ⟨rfl, rfl, rfl⟩, rfl, rfl, List.nodup_nil⟩
/-- {}, to be a dict of the kind that is wanted -/
def tDNewK : TE := fun _ H Q => ∀ p, H p = none → Q (.ref p) (upd H p (.dK []))
def tDNewT : TE := fun _ H Q => ∀ p, H p = none → Q (.ref p) (upd H p (.dT []))
section
variable {X : Cx} {pos : Pos}
theorem pe_dnewK : PE X (.Dict [] [] pos) tDNewK := fun pins s σ H Q I h =>
  wpAny_Dict_empty ⟨.ref s.heap.objs.size, _, I.laid (a := s.heap.objs.size) (o := .dK []) (t' := s.toks) (fun _ _ q => Heap.get?_push_of_some _ q) (Nat.le_refl _) (dk_empty s.heap I.big), rfl, h _ (I.hok.fresh (Nat.le_refl _))⟩
theorem pe_dnewT : PE X (.Dict [] [] pos) tDNewT := fun pins s σ H Q I h =>
  wpAny_Dict_empty ⟨.ref s.heap.objs.size, _, I.laid (a := s.heap.objs.size) (o := .dT []) (t' := s.toks) (fun _ _ q => Heap.get?_push_of_some _ q) (Nat.le_refl _) (dt_empty s.heap I.big), rfl, h _ (I.hok.fresh (Nat.le_refl _))⟩
end

/-- the pairs of a display, from the left -/
def tPairs : List (TE × TE) → St → Hp → (List (V × V) → Hp → Prop) → Prop
  | [], _, H, Q => Q [] H
  | (tk, tv) :: r, σ, H, Q => tk σ H fun x H1 => tv σ H1 fun y H2 => tPairs r σ H2 fun ps H3 => Q ((x, y) :: ps) H3
abbrev VV : List (V × V) → List (Value × Value) → Prop := Paired fun p q => RelV p.1 q.1 ∧ RelV p.2 q.2
def PPs (X : Cx) (pos : Pos) (keys : List (Option Expr)) (values : List Expr) (trs : List (TE × TE)) : Prop :=
  ∀ (pins : List (Addr × Obj)) (s : Shared) (σ : St) (H : Hp) (Q : List (V × V) → Hp → Prop), Inv X pins σ H s → tPairs trs σ H Q →
    wpAny (model X.prog X.w) X.A (evalPairs (pairTrees keys values X.env pos)) (fun vs s' => ∃ ps H', Inv X pins σ H' s' ∧ VV ps vs ∧ Q ps H') X.xe s
theorem pps_nil {X : Cx} {pos : Pos} : PPs X pos [] [] [] := fun pins s σ H Q I h => pairTrees_nil_walk ⟨[], H, I, .nil, h⟩
theorem pps_cons {X : Cx} {pos : Pos} {k v : Expr} {ks : List (Option Expr)} {vs : List Expr} {tk tv : TE} {trs : List (TE × TE)} (hk : PE X k tk) (hv : PE X v tv) (hr : PPs X pos ks vs trs) :
    PPs X pos (some k :: ks) (v :: vs) ((tk, tv) :: trs) := fun pins s σ H Q I h =>
  pairTrees_cons_walk (thn (hk pins s σ H _ I h) fun u s1 ⟨x, H1, I1, rx, q1⟩ => thn (hv pins s1 σ H1 _ I1 q1) fun w2 s2 ⟨y, H2, I2, ry, q2⟩ =>
    thn (hr pins s2 σ H2 _ I2 q2) fun ws s3 ⟨ps, H3, I3, rel, q3⟩ => ⟨(x, y) :: ps, H3, I3, .cons ⟨rx, ry⟩ rel, q3⟩)

def mergeK (kvs more : List (Key × V)) : List (Key × V) := more.foldl (fun acc kv => putK acc kv.1 kv.2) kvs
theorem KV.merge : ∀ {more : List (Key × V)} {rs : List (Key × Value)} {kvs : List (Key × V)} {vs : List (Key × Value)}, KV more rs → KV kvs vs → KV (mergeK kvs more) (merged vs rs) := by
  intro more rs kvs vs r
  unfold KV at r
  induction r generalizing kvs vs with
  | nil => intro q; exact q
  | @cons p q ps qs h t ih =>
    intro r0
    have e : KV (putK kvs p.1 p.2) (stored vs q.1 q.2) := by
      have := r0.put p.1 h.2
      rw [← h.1]; exact this
    exact ih e
theorem length_mergeK : ∀ (more kvs : List (Key × V)), (mergeK kvs more).length ≤ kvs.length + more.length
  | [], kvs => by show kvs.length ≤ kvs.length + 0; omega
  | p :: r, kvs => by
    have h1 := length_mergeK r (putK kvs p.1 p.2)
    have h2 := length_putK kvs p.1 p.2
    show (mergeK (putK kvs p.1 p.2) r).length ≤ _
    rw [List.length_cons]; omega
theorem carries_of {P : Program} {w : World} : ∀ {kvs : List (Key × V)} {ws : List (Value × Value)}, VV (kvs.map fun kv => (kV kv.1, kv.2)) ws → ∃ rs, Carries (mixKind P w) ws rs ∧ KV kvs rs
  | [], _, r => by rw [List.map_nil] at r; cases r; exact ⟨[], True.intro, .nil⟩
  | p :: kvs, _, r => by
    rw [List.map_cons] at r
    cases r with
    | @cons a b as bs h t =>
      obtain ⟨rs, c, q⟩ := carries_of (P := P) (w := w) t
      obtain ⟨b1, b2⟩ := b
      exact ⟨(p.1, b2) :: rs, ⟨kV_is h.1, rfl, c⟩, .cons ⟨rfl, h.2⟩ q⟩
/-- {k: v, ..} with keys ints and texts; the new dict stands empty while the pairs are made -/
def tDisp (trs : List (TE × TE)) : TE := fun σ H Q => ∀ p, H p = none → tPairs trs σ (upd H p (.dK [])) fun ps H2 => H2 p = some (.dK []) ∧ ∃ kvs : List (Key × V), ps = kvs.map (fun kv => (kV kv.1, kv.2)) ∧ kvs.length ≤ 15 ∧ Q (.ref p) (upd H2 p (.dK (mergeK [] kvs)))
theorem pe_disp {X : Cx} {pos : Pos} {keys : List (Option Expr)} {values : List Expr} {trs : List (TE × TE)} (h : PPs X pos keys values trs) (hall : keys.all (·.isSome) = true) (hl : keys.length = values.length) (h0 : keys ≠ [])
    (h15 : keys.length ≤ 15) : PE X (.Dict keys values pos) (tDisp trs) := by
  intro pins s σ H Q I q
  have hn := I.hok.fresh (Nat.le_refl s.heap.objs.size)
  have I1 := I.laid (a := s.heap.objs.size) (o := .dK []) (h' := s.heap.push { cls := .type "dict", data := .dict #[] }) (t' := s.toks) (fun _ _ q => Heap.get?_push_of_some _ q) (Nat.le_refl _) (dk_empty s.heap I.big)
  refine wpAny_Dict_walk (knd := mixKind X.prog X.w) hall hl h0 h15 (thn (h pins _ σ _ _ I1 (q _ hn)) fun ws s2 ⟨ps, H2, I2, rel, e, kvs, ep, lk, q2⟩ => ?_)
  subst ep
  obtain ⟨rs, c, rk⟩ := carries_of (P := X.prog) (w := X.w) rel
  obtain ⟨z, hd, vs0, r0, dd⟩ := dk_of I2.hok e
  cases r0
  refine ⟨rs, c, dd, fun h' dd' hs => ⟨.ref s.heap.objs.size, _, ?_, rfl, q2⟩⟩
  have hz : (mergeK [] kvs).length ≤ sizeLine := by
    have h1 := length_mergeK kvs []
    rw [List.length_nil] at h1
    rw [sizeLine_eq]; omega
  have he : ∃ q, h'.get? s.heap.objs.size = some q := let ⟨q, _, _, hq, _⟩ := dd'; ⟨q, hq⟩
  exact d_write I2 (by rw [e]; exact True.intro) hs he (dk_new hz hd (rk.merge .nil) dd')


/-! ### methods -/
/-- a method call o.m(e) of a built-in, with one argument: what must be seen of the text -/
structure M1 (X : Cx) (o : Expr) (m : Str) (apos : Pos) (e : Expr) (cpos : Pos) : Prop where
  base : attributeBase o m X.env (eval o X.env) = eval o X.env
  few : ((backTo cpos (starEach [e] X.env)).all (fun x => !x.1) && (backToKw cpos (keywordEach [] X.env)).all (fun x => x.1.isSome)
    && decide (([e] : List Expr).length + ([] : List Keyword).length + (if ([] : List Keyword).isEmpty then 0 else 1) < 30)) = true
  line : (apos.endLine == cpos.line) = true
  trees : backTo cpos (starEach [e] X.env) = [(false, eval e X.env)]
structure M2 (X : Cx) (o : Expr) (m : Str) (apos : Pos) (e f : Expr) (cpos : Pos) : Prop where
  base : attributeBase o m X.env (eval o X.env) = eval o X.env
  few : ((backTo cpos (starEach [e, f] X.env)).all (fun x => !x.1) && (backToKw cpos (keywordEach [] X.env)).all (fun x => x.1.isSome)
    && decide (([e, f] : List Expr).length + ([] : List Keyword).length + (if ([] : List Keyword).isEmpty then 0 else 1) < 30)) = true
  line : (apos.endLine == cpos.line) = true
  trees : backTo cpos (starEach [e, f] X.env) = [(false, eval e X.env), (false, eval f X.env)]

/-- a is a dict, whatever its keys -/
def IsD (H : Hp) (a : Addr) : Prop := (∃ kvs, Rd H a (.dK kvs)) ∨ ∃ kvs, Rd H a (.dT kvs)
theorem isD_at {X : Cx} {pins : List (Addr × Obj)} {σ : St} {H : Hp} {s : Shared} {a : Addr} (I : Inv X pins σ H s) (d : IsD H a) :
    s.TypeIs (.ref a) "dict" ∧ (∀ b, Value.ref a = .ref b → ∃ ob, s.heap.get? b = some ob ∧ ob.dict = none) ∧ (a == sysModules) = false := by
  rcases d with ⟨kvs, e⟩ | ⟨kvs, e⟩
  · obtain ⟨_, hd, vs, _, dd⟩ := dk_rd I.hok e
    refine ⟨dd.typeIs, fun b q => ?_, hd⟩
    cases q
    obtain ⟨ob, _, _, h1, h2, _⟩ := dd
    exact ⟨ob, h1, h2.2.1⟩
  · obtain ⟨_, hd, xs, _, dd⟩ := dt_rd I.hok e
    refine ⟨dd.typeIs, fun b q => ?_, hd⟩
    cases q
    obtain ⟨ob, _, _, h1, h2, _⟩ := dd
    exact ⟨ob, h1, h2.2.1⟩

section
variable {X : Cx} {pins : List (Addr × Obj)} {σ : St} {H : Hp} {s : Shared} {a : Addr} {y d : V} {u r : Value} {o : Option V} {A : Around} {E : Value → Shared → Prop}
/-- d.get(y) -/
theorem d_get1 {Q : Value → Shared → Prop} (hu : A.units + 1 < cLine) (I : Inv X pins σ H s) (g : DGet H a y o) (ry : RelV y u) (h : ∀ w' s', Inv X pins σ H s' → RelV (o.getD .non) w' → Q w' s') :
    wpAny (model X.prog X.w) A (call (.builtin "dict.get") [.ref a, u]) Q E s := by
  rcases g with ⟨kvs, k, e, ey, l⟩ | ⟨kvs, k, b, e, ey, eb, l⟩
  · subst ey
    obtain ⟨z, hd, vs, rel, dd⟩ := dk_rd I.hok e
    refine call_meetsIn PySem.F.slot_dict_get dd.typeIs PySem.F.entry_dict_get (PySem.F.args_dict_get_2 _ _) (meets_dict_get (mixKind X.prog X.w) a (kV_is ry) hd) ⟨_, dd.mapOf, h _ _ (I.tok _) ?_⟩
    rw [l]
    exact (rel.val k).getD rfl
  · subst ey
    cases (show u = Value.ref b from ry)
    obtain ⟨z, hd, xs, rel, dd⟩ := dt_rd I.hok e
    refine call_meetsIn PySem.F.slot_dict_get dd.typeIs PySem.F.entry_dict_get (PySem.F.args_dict_get_2 _ _) (meetsH_dict_get (tupleKind (mixKind X.prog X.w)) a b hd) ⟨tupleKind_room_in1 hu, k, xs, key_of I.hok eb, dd, h _ _ (I.tok _) ?_⟩
    rw [l]
    exact (rel.val k).getD rfl
/-- d.get(y, x) -/
theorem d_get2 {Q : Value → Shared → Prop} (hu : A.units + 1 < cLine) (I : Inv X pins σ H s) (g : DGet H a y o) (ry : RelV y u) (rd : RelV d r) (h : ∀ w' s', Inv X pins σ H s' → RelV (o.getD d) w' → Q w' s') :
    wpAny (model X.prog X.w) A (call (.builtin "dict.get") [.ref a, u, r]) Q E s := by
  rcases g with ⟨kvs, k, e, ey, l⟩ | ⟨kvs, k, b, e, ey, eb, l⟩
  · subst ey
    obtain ⟨z, hd, vs, rel, dd⟩ := dk_rd I.hok e
    refine call_meetsIn PySem.F.slot_dict_get dd.typeIs PySem.F.entry_dict_get (PySem.F.args_dict_get_3 _ _ _) (meets_dict_get_default (mixKind X.prog X.w) a (kV_is ry) hd r) ⟨_, dd.mapOf, h _ _ (I.tok _) ?_⟩
    rw [l]
    exact (rel.val k).getD rd
  · subst ey
    cases (show u = Value.ref b from ry)
    obtain ⟨z, hd, xs, rel, dd⟩ := dt_rd I.hok e
    refine call_meetsIn PySem.F.slot_dict_get dd.typeIs PySem.F.entry_dict_get (PySem.F.args_dict_get_3 _ _ _) (meetsH_dict_get_default (tupleKind (mixKind X.prog X.w)) a b hd r) ⟨tupleKind_room_in1 hu, k, xs, key_of I.hok eb, dd, h _ _ (I.tok _) ?_⟩
    rw [l]
    exact (rel.val k).getD rd
end

def tDGet1 (td ty : TE) : TE := fun σ H Q => td σ H fun x H1 => ∃ a, x = .ref a ∧ IsD H1 a ∧ ty σ H1 fun y H2 => ∃ o, DGet H2 a y o ∧ Q (o.getD .non) H2
def tDGet2 (td ty tx : TE) : TE := fun σ H Q => td σ H fun x H1 => ∃ a, x = .ref a ∧ IsD H1 a ∧ ty σ H1 fun y H2 => tx σ H2 fun z H3 => ∃ o, DGet H3 a y o ∧ Q (o.getD z) H3
/-- d.pop(k): there; d.pop(k, x): there or not -/
def tDPop1 (td ty : TE) : TE := fun σ H Q => td σ H fun x H1 => ∃ a, x = .ref a ∧ IsD H1 a ∧ ty σ H1 fun y H2 => ∃ kvs k v, H2 a = some (.dK kvs) ∧ y = kV k ∧ valV kvs k = some v ∧ Q v (upd H2 a (.dK (dropK kvs k)))
def tDPop2 (td ty tx : TE) : TE := fun σ H Q => td σ H fun x H1 => ∃ a, x = .ref a ∧ IsD H1 a ∧ ty σ H1 fun y H2 => tx σ H2 fun z H3 => ∃ kvs k, H3 a = some (.dK kvs) ∧ y = kV k ∧
  (∀ v, valV kvs k = some v → Q v (upd H3 a (.dK (dropK kvs k)))) ∧ (valV kvs k = none → Q z H3)
section
variable {X : Cx} {o e f : Expr} {apos cpos : Pos} {td ty tx : TE}
theorem pe_dget1 (hu : X.A.units + 1 < cLine) (ho : PE X o td) (he : PE X e ty) (m : M1 X o "get" apos e cpos) : PE X (.Call (.Attribute o "get" apos) [e] [] cpos) (tDGet1 td ty) := by
  intro pins s σ H Q I h
  refine wpAny_Call_method m.base m.few m.line PySem.F.plainAttrs_dict PySem.F.slot_dict_get PySem.F.type_dict_get (thn (ho pins s σ H _ I h) fun u s1 ⟨x, H1, I1, rx, a, ex, d, q1⟩ => ?_)
  subst ex
  obtain rfl : u = Value.ref a := rx
  obtain ⟨t1, t2, _⟩ := isD_at I1 d
  refine ⟨t1, t2, ?_⟩
  rw [m.trees]
  refine Calls.callWith_builtin rfl (Calls.evalArgs_plain (Calls.spliced_cons (thn (he pins s1 σ H1 _ I1 q1) fun iv s2 ⟨y, H2, I2, ry, ov, g, q2⟩ => Calls.spliced_nil ?_)))
  exact d_get1 hu I2 g ry fun w' s3 I3 rw' => ⟨_, H2, I3, rw', q2⟩
theorem pe_dget2 (hu : X.A.units + 1 < cLine) (ho : PE X o td) (he : PE X e ty) (hf : PE X f tx) (m : M2 X o "get" apos e f cpos) : PE X (.Call (.Attribute o "get" apos) [e, f] [] cpos) (tDGet2 td ty tx) := by
  intro pins s σ H Q I h
  refine wpAny_Call_method m.base m.few m.line PySem.F.plainAttrs_dict PySem.F.slot_dict_get PySem.F.type_dict_get (thn (ho pins s σ H _ I h) fun u s1 ⟨x, H1, I1, rx, a, ex, d, q1⟩ => ?_)
  subst ex
  obtain rfl : u = Value.ref a := rx
  obtain ⟨t1, t2, _⟩ := isD_at I1 d
  refine ⟨t1, t2, ?_⟩
  rw [m.trees]
  refine Calls.callWith_builtin rfl (Calls.evalArgs_plain (Calls.spliced_cons (thn (he pins s1 σ H1 _ I1 q1) fun iv s2 ⟨y, H2, I2, ry, q2⟩ =>
    Calls.spliced_cons (thn (hf pins s2 σ H2 _ I2 q2) fun fv s3 ⟨z, H3, I3, rz, ov, g, q3⟩ => Calls.spliced_nil ?_))))
  exact d_get2 hu I3 g ry rz fun w' s4 I4 rw' => ⟨_, H3, I4, rw', q3⟩
theorem pe_dpop1 (ho : PE X o td) (he : PE X e ty) (m : M1 X o "pop" apos e cpos) : PE X (.Call (.Attribute o "pop" apos) [e] [] cpos) (tDPop1 td ty) := by
  intro pins s σ H Q I h
  refine wpAny_Call_method m.base m.few m.line PySem.F.plainAttrs_dict PySem.F.slot_dict_pop PySem.F.type_dict_pop (thn (ho pins s σ H _ I h) fun u s1 ⟨x, H1, I1, rx, a, ex, d, q1⟩ => ?_)
  subst ex
  obtain rfl : u = Value.ref a := rx
  obtain ⟨t1, t2, _⟩ := isD_at I1 d
  refine ⟨t1, t2, ?_⟩
  rw [m.trees]
  refine Calls.callWith_builtin rfl (Calls.evalArgs_plain (Calls.spliced_cons (thn (he pins s1 σ H1 _ I1 q1) fun iv s2 ⟨y, H2, I2, ry, kvs, k, v, ea, ey, l, q2⟩ => Calls.spliced_nil ?_)))
  subst ey
  exact d_pop I2 ea ry l (.inl rfl) fun w' s3 I3 rw' => ⟨v, _, I3, rw', q2⟩
theorem pe_dpop2 (ho : PE X o td) (he : PE X e ty) (hf : PE X f tx) (m : M2 X o "pop" apos e f cpos) : PE X (.Call (.Attribute o "pop" apos) [e, f] [] cpos) (tDPop2 td ty tx) := by
  intro pins s σ H Q I h
  refine wpAny_Call_method m.base m.few m.line PySem.F.plainAttrs_dict PySem.F.slot_dict_pop PySem.F.type_dict_pop (thn (ho pins s σ H _ I h) fun u s1 ⟨x, H1, I1, rx, a, ex, d, q1⟩ => ?_)
  subst ex
  obtain rfl : u = Value.ref a := rx
  obtain ⟨t1, t2, _⟩ := isD_at I1 d
  refine ⟨t1, t2, ?_⟩
  rw [m.trees]
  refine Calls.callWith_builtin rfl (Calls.evalArgs_plain (Calls.spliced_cons (thn (he pins s1 σ H1 _ I1 q1) fun iv s2 ⟨y, H2, I2, ry, q2⟩ =>
    Calls.spliced_cons (thn (hf pins s2 σ H2 _ I2 q2) fun fv s3 ⟨z, H3, I3, rz, kvs, k, ea, ey, q3, q4⟩ => Calls.spliced_nil ?_))))
  subst ey
  cases l : valV kvs k with
  | some v => exact d_pop I3 ea ry l (.inr ⟨fv, rfl⟩) fun w' s4 I4 rw' => ⟨v, _, I4, rw', q3 v l⟩
  | none => exact d_popD I3 ea ry l fun s4 I4 => ⟨z, H3, I4, rz, q4 l⟩
end

/-! ### dict(d): a copy -/
section
variable {X : Cx} {pins : List (Addr × Obj)} {σ : St} {H : Hp} {s : Shared} {a : Addr} {kvs : List (Key × V)} {A : Around} {E : Value → Shared → Prop}
theorem d_copyOf {Q : Value → Shared → Prop} (I : Inv X pins σ H s) (e : Rd H a (.dK kvs)) (h : ∀ p s', H p = none → Inv X pins σ (upd H p (.dK kvs)) s' → Q (.ref p) s') : wpAny (model X.prog X.w) A (call (.type "dict") [.ref a]) Q E s := by
  obtain ⟨z, hd, vs, rel, dd⟩ := dk_rd I.hok e
  refine kt_call_dict hd dd (by rw [← rel.length]; exact z) fun h' dd' hs => ?_
  refine h _ _ (I.hok.fresh (Nat.le_refl _)) (I.laid (a := s.heap.objs.size) (o := .dK kvs) (t' := s.toks) (fun b q hq => ?_) (Nat.le_refl _) (dk_new z (beq_eq_false_iff_ne.mpr (Ne.symm (Nat.ne_of_lt I.big))) rel dd'))
  exact (hs.2 b (Nat.ne_of_lt (Heap.lt_size hq))).trans (Heap.get?_push_of_some _ hq)
end


section
variable {X : Cx} {pins : List (Addr × Obj)} {σ : St} {H : Hp} {s : Shared} {a : Addr} {y : V} {u : Value} {A : Around} {E : Value → Shared → Prop}
/-- d[y], not there: a KeyError -/
theorem d_missing {Q : Value → Shared → Prop} (hu : A.units + 1 < cLine) (hh : A.handled = none) (I : Inv X pins σ H s) (g : DGet H a y none) (ry : RelV y u)
    (h : ∀ h' e t', Heap.NewExc s.heap h' e "KeyError" → E (.ref e) { s with heap := h', toks := t' }) : wpAny (model X.prog X.w) A (getItem (.ref a) u) Q E s := by
  rcases g with ⟨kvs, k, e, ey, l⟩ | ⟨kvs, k, b, e, ey, eb, l⟩
  · subst ey
    obtain ⟨z, hd, vs, rel, dd⟩ := dk_rd I.hok e
    have hn : valueAt vs k = none := RelO.none_of (by rw [l]; exact rel.val k)
    exact wpAny_getItem_missing_of (kV_is ry) hd hh dd.mapOf hn fun h' ex ne => h h' ex _ ne
  · subst ey
    cases (show u = Value.ref b from ry)
    obtain ⟨z, hd, xs, rel, dd⟩ := dt_rd I.hok e
    have hn : (atKey xs k).map (·.2) = none := RelO.none_of (by rw [l]; exact rel.val k)
    exact wpAny_getItem_missing_heap (tupleKind_room_in1 hu) (key_of I.hok eb) hd hh dd (Option.map_eq_none_iff.mp hn) fun h' ex ne => h h' ex _ ne
end
end L2

namespace Att
open PySem PySem.W PySem.Calls PyProof.Rows

/-! ### the script -/
theorem ints_of_wellAll {P : Params} {h : Heap} : ∀ (ns : List Int) (vs : List Value), WellAll P h vs (ns.map WData.int) → IntsAre vs ns := by
  intro ns
  induction ns with
  | nil =>
    intro vs w
    rw [List.map_nil] at w
    cases w
    exact .nil
  | cons n ns ih =>
    intro vs w
    rw [List.map_cons] at w
    cases w with
    | cons a b =>
      cases a
      exact .cons _ _ (ih _ b)

theorem script_of {l : OpenLaw} {n : Nat} (hn : l.most = some n) {P : Params} {h : Heap} {args : List WData} {vals : List Value}
    (hpre : l.row.toRowW.claim.pre args = true) (hwl : WellAll P h vals args) :
    ∃ a vs ns, vals = [Value.ref a] ∧ args = [WData.list (ns.map WData.int)] ∧ h.get? a = some { cls := .type "list", data := .seq vs.toArray } ∧ IntsAre vs ns ∧ ns.length ≤ n := by
  have hsh : WShape.hasAll [] args [.list .int] = true := (pre_splitW hpre).1
  have hc : l.pre.holds [] { args := args } = true := (pre_splitW hpre).2
  obtain ⟨d, r, rfl, h1, h2⟩ := hasAllW_cons hsh
  obtain rfl := hasAllW_nil h2
  obtain ⟨xs, rfl, h3⟩ := hasW_list h1
  obtain ⟨ns, rfl⟩ := items_int h3
  have hlen : ns.length ≤ n := by
    unfold OpenLaw.pre at hc
    have h4 : (WTm.not (.lt (.lit (.int (n : Int))) (.len (.arg 0)))).holds [] { args := [.list (ns.map .int)] } = true := by
      have h4 := (holds_andW hc).1
      rw [hn] at h4
      exact h4
    have h5 := condW_of h4 (w_not (w_lt w_lit (w_len_list (w_arg rfl))))
    rw [List.length_map] at h5
    refine Nat.le_of_not_lt fun q => ?_
    have q' : (n : Int) < ((ns.length : Nat) : Int) := by omega
    first
      | (rw [decide_eq_true q'] at h5; exact absurd h5 (by decide))
      | (simp at h5; omega)
  cases hwl with
  | cons w1 w2 =>
    cases w2
    cases w1 with
    | list ho hall => exact ⟨_, _, ns, rfl, rfl, ho, ints_of_wellAll ns _ hall, hlen⟩

theorem post_true (l : OpenLaw) (args : List WData) : l.row.toRowW.claim.post args (.bool true) args = true :=
  postW_of (r := l.row.toRowW) (X := (true == true))
    (show WShape.has [] (.bool true) .bool = true by first | rfl | decide | simp [WShape.has, WShape.arms, WShape.armsAll])
    (show (WTm.eq .res (.lit (.bool true))).value [] { args := args, res := some (.bool true), after := args } = some (.bool (true == true)) from w_eq_bool (w_res rfl) w_lit) rfl

/-! ### the attachment: holds_open's last premise (the goal 'hc' behind k_head) from a wpAny of the law's body -/
theorem attach {l : OpenLaw} {n : Nat} {q : Program} {loose : List Str} {XP : (Str → Option Value) → Heap → Prop} {YP : World → Heap → Prop} {d : DefRec} {x : Str}
    (hn : l.most = some n) (hdf : d.params.defaults = [])
    (hbind : ∀ pm cd doc v : Value, bindArgs (docDef d.name d.params d.body d.scope pm cd doc) ⟨[v], []⟩ = pure [(x, v)])
    (hx : d.scope.names.lookup x = some .local ∨ d.scope.names.lookup x = some .cell)
    (hk : d.scope.kind = .function) (hco : d.scope.isCoroutine = false) (hgen : d.scope.isGenerator = false)
    (body : ∀ (w : World) (s₀ s₁ s : Shared) (mg mb : Str → Option Value) (fa : Addr) (o : Obj) (pm cd doc : Value) (a : Addr) (vs : List Value) (ns : List Int),
      Ground q loose [] XP w s₀ mg mb s₁.heap → YP w s₁.heap →
      s₁.heap.get? fa = some o → o.data = .func (docDef d.name d.params d.body d.scope pm cd doc) → s₁.heap.CodeRec cd d.name → mg d.name = some (.ref fa) →
      s₁.heap.get? a = some { cls := .type "list", data := .seq vs.toArray } → IntsAre vs ns → ns.length ≤ n →
      s.gens = #[] → s.os = s₁.os →
      Fr s₁.heap s₁.heap.objs.size s.heap (bindL (envOfC d.name d.scope s₁.heap.objs.size fa cd).kindOf [(x, .ref a)] fun _ => none) →
      Cl s₁.heap.objs.size (cellsFrom (s₁.heap.objs.size + 1) d.scope.names []) s.heap (bindC (envOfC d.name d.scope s₁.heap.objs.size fa cd).kindOf [(x, .ref a)] fun _ => none) →
      wpAny (model l.prog w) (callerA.deeper (envOfC d.name d.scope s₁.heap.objs.size fa cd)) (execs d.body (envOfC d.name d.scope s₁.heap.objs.size fa cd))
        (fun f s' => f = .ret (.bool true) ∧ OldK s₁.heap s'.heap ∧ s'.os = s₁.os ∧ AllBare s'.gens) (fun _ _ => False) s) :
    WalkO q loose XP YP l.row.toRowW d [] (fun f vs => PySem.call f vs) := by
  intro w s₀ s₁ mg mb G Y fa o pm cd doc dV kV ho hd hcd hD hmg hg args vals as hpre hlay hrd hwl hlo
  obtain rfl : dV = .none := Dflts.none hD hdf
  obtain rfl : kV = .none := Dflts.noKw hD
  obtain ⟨a, vs, ns, rfl, rfl, hobj, hints, hlen⟩ := script_of hn hpre hwl
  refine enter_call ?_
  refine call_cells_ret (o := o) (by rw [depth_caller]; decide) ho (fd_plain hd) G.T.nolimit hcd (hbind pm cd doc (.ref a)) (fun y hy => ?_) (fun h₁ tk F X => ?_) hco hgen hk
  · obtain rfl : y = (x, Value.ref a) := List.mem_singleton.mp hy
    rcases hx with e | e
    · exact .inl e
    · exact .inr ⟨e, cellsFrom_some _ _ _ (.inl e)⟩
  · refine wpAny_mono (body w s₀ s₁ { s₁ with heap := h₁, toks := tk } mg mb fa o pm cd doc a vs ns G Y ho (fd_plain hd) hcd hmg hobj hints hlen hg rfl F X) (fun f s' hq => ?_) (fun _ _ hq => hq)
    obtain ⟨rfl, h2, h3, h4⟩ := hq
    exact ⟨.inl ⟨.bool true, .bool true, [], rfl, fun _ => rfl, .bool true, post_true l _, fun _ => ⟨List.Pairwise.nil, fun _ hm => (nomatch hm)⟩⟩, h2, h3, h4⟩

/-- the same from a codeAny of the CALL (for a layer whose function contracts speak of calls) -/
theorem attach_call {l : OpenLaw} {n : Nat} {q : Program} {loose : List Str} {XP : (Str → Option Value) → Heap → Prop} {YP : World → Heap → Prop} {d : DefRec}
    (hn : l.most = some n) (hdf : d.params.defaults = [])
    (call : ∀ (w : World) (s₀ s₁ : Shared) (mg mb : Str → Option Value) (fa : Addr) (o : Obj) (pm cd doc : Value) (a : Addr) (vs : List Value) (ns : List Int),
      Ground q loose [] XP w s₀ mg mb s₁.heap → YP w s₁.heap →
      s₁.heap.get? fa = some o → o.data = .func (docDef d.name d.params d.body d.scope pm cd doc) → s₁.heap.CodeRec cd d.name → mg d.name = some (.ref fa) →
      s₁.heap.get? a = some { cls := .type "list", data := .seq vs.toArray } → IntsAre vs ns → ns.length ≤ n → s₁.gens = #[] →
      codeAny (model l.prog w) callerA (.call (.ref fa) ⟨[.ref a], []⟩) (fun r s' => r = .ok (.ret (.bool true)) ∧ OldK s₁.heap s'.heap ∧ s'.os = s₁.os ∧ AllBare s'.gens) s₁) :
    WalkO q loose XP YP l.row.toRowW d [] (fun f vs => PySem.call f vs) := by
  intro w s₀ s₁ mg mb G Y fa o pm cd doc dV kV ho hd hcd hD hmg hg args vals as hpre hlay hrd hwl hlo
  obtain rfl : dV = .none := Dflts.none hD hdf
  obtain rfl : kV = .none := Dflts.noKw hD
  obtain ⟨a, vs, ns, rfl, rfl, hobj, hints, hlen⟩ := script_of hn hpre hwl
  refine enter_call (codeAny_mono (call w s₀ s₁ mg mb fa o pm cd doc a vs ns G Y ho (fd_plain hd) hcd hmg hobj hints hlen hg) fun r s' hq => ?_)
  obtain ⟨rfl, h2, h3, h4⟩ := hq
  exact ⟨.inl ⟨.bool true, .bool true, [], rfl, fun _ => rfl, .bool true, post_true l _, fun _ => ⟨List.Pairwise.nil, fun _ hm => (nomatch hm)⟩⟩, h2, h3, h4⟩

/-- the same where the top left finished generators (o_head chose holds_openN): nothing may have changed at all and no generator may be left -/
theorem attachN {l : OpenLaw} {n : Nat} {q : Program} {loose : List Str} {XP : (Str → Option Value) → Heap → Prop} {YP : World → Heap → Prop} {d : DefRec} {x : Str}
    (hn : l.most = some n) (hdf : d.params.defaults = [])
    (hbind : ∀ pm cd doc v : Value, bindArgs (docDef d.name d.params d.body d.scope pm cd doc) ⟨[v], []⟩ = pure [(x, v)])
    (hx : d.scope.names.lookup x = some .local ∨ d.scope.names.lookup x = some .cell)
    (hk : d.scope.kind = .function) (hco : d.scope.isCoroutine = false) (hgen : d.scope.isGenerator = false)
    (body : ∀ (w : World) (s₀ s₁ s : Shared) (mg mb : Str → Option Value) (fa : Addr) (o : Obj) (pm cd doc : Value) (a : Addr) (vs : List Value) (ns : List Int),
      Ground q loose [] XP w s₀ mg mb s₁.heap → YP w s₁.heap →
      s₁.heap.get? fa = some o → o.data = .func (docDef d.name d.params d.body d.scope pm cd doc) → s₁.heap.CodeRec cd d.name → mg d.name = some (.ref fa) →
      s₁.heap.get? a = some { cls := .type "list", data := .seq vs.toArray } → IntsAre vs ns → ns.length ≤ n →
      s.gens = #[] → s.os = s₁.os →
      Fr s₁.heap s₁.heap.objs.size s.heap (bindL (envOfC d.name d.scope s₁.heap.objs.size fa cd).kindOf [(x, .ref a)] fun _ => none) →
      Cl s₁.heap.objs.size (cellsFrom (s₁.heap.objs.size + 1) d.scope.names []) s.heap (bindC (envOfC d.name d.scope s₁.heap.objs.size fa cd).kindOf [(x, .ref a)] fun _ => none) →
      wpAny (model l.prog w) (callerA.deeper (envOfC d.name d.scope s₁.heap.objs.size fa cd)) (execs d.body (envOfC d.name d.scope s₁.heap.objs.size fa cd))
        (fun f s' => f = .ret (.bool true) ∧ (∀ b o, s₁.heap.get? b = some o → s'.heap.get? b = some o) ∧ s'.os = s₁.os ∧ s'.gens = #[]) (fun _ _ => False) s) :
    WalkN q loose XP YP l.row.toRowW d [] (fun f vs => PySem.call f vs) := by
  intro w s₀ s₁ mg mb G Y fa o pm cd doc dV kV ho hd hcd hD hmg hg args vals as hpre hlay hrd hwl hlo
  obtain rfl : dV = .none := Dflts.none hD hdf
  obtain rfl : kV = .none := Dflts.noKw hD
  obtain ⟨a, vs, ns, rfl, rfl, hobj, hints, hlen⟩ := script_of hn hpre hwl
  refine enter_callW ?_
  refine call_cells_ret (o := o) (by rw [depth_caller]; decide) ho (fd_plain hd) G.T.nolimit hcd (hbind pm cd doc (.ref a)) (fun y hy => ?_) (fun h₁ tk F X => ?_) hco hgen hk
  · obtain rfl : y = (x, Value.ref a) := List.mem_singleton.mp hy
    rcases hx with e | e
    · exact .inl e
    · exact .inr ⟨e, cellsFrom_some _ _ _ (.inl e)⟩
  · refine wpAny_mono (body w s₀ s₁ { s₁ with heap := h₁, toks := tk } mg mb fa o pm cd doc a vs ns G Y ho (fd_plain hd) hcd hmg hobj hints hlen hg rfl F X) (fun f s' hq => ?_) (fun _ _ hq => hq)
    obtain ⟨rfl, h2, h3, h4⟩ := hq
    exact ⟨.inl ⟨.bool true, .bool true, [], rfl, fun _ => rfl, .bool true, post_true l _, fun _ => ⟨List.Pairwise.nil, fun _ hm => (nomatch hm)⟩⟩, h2, h3, h4⟩

/-! ### rules over ANY heap (no ledger) from facts about the written part K: the library's own take a ledger (News) for what they write -/
section
variable {prog : Program} {w : World} {A : Around} {E : Value → Shared → Prop} {s : Shared} {K : Frag}

/-- a def of the module, or a method (qual 'C.m'), entered: the frame is the next address; cells behind it -/
theorem call_fn {R : Result → Shared → Prop} {name qual : Str} {params : Arguments} {body : List Stmt} {scope : Scope} {dV kV doc pm cdv ct oc : Value} {an od : Option Addr} {osl : Array (Option Value)} {f : Addr} {args : Args} {binds : List (Str × Value)}
    (X : K.In s.heap) (hlim : s.heap.NoLimit) (ho : K.lookup f = some ⟨oc, od, .func (fnOf name qual params body scope dV kV doc pm an cdv ct), osl⟩) (hcd : codeIn K cdv qual = true) (hroom : A.depth < recursionLimit)
    (hbind : BindsTo s (fnOf name qual params body scope dV kV doc pm an cdv ct) args binds)
    (hkind : (binds.all fun y => scope.names.lookup y.1 == some .local || scope.names.lookup y.1 == some .cell) = true)
    (h : ∀ s₁, InCallC s s.heap.objs.size (bindL (envOfC qual scope s.heap.objs.size f cdv).kindOf binds fun _ => none) (cellsFrom (s.heap.objs.size + 1) scope.names [])
        (bindC (envOfC qual scope s.heap.objs.size f cdv).kindOf binds fun _ => none) s₁ →
      wpAny (model prog w) (A.deeper (envOfC qual scope s.heap.objs.size f cdv)) (execs body (envOfC qual scope s.heap.objs.size f cdv))
        (fun fl s' => R (.ok (.ret (match fl with | .ret v => v | _ => .none))) s')
        (fun e s' => wpAny (model prog w) (A.deeper (envOfC qual scope s.heap.objs.size f cdv)) (leaving (envOfC qual scope s.heap.objs.size f cdv) e) (fun _ s'' => R (.error e) s'') (fun e' s'' => R (.error e') s'') s') s₁)
    (hco : scope.isCoroutine = false) (hgen : scope.isGenerator = false) (hk : scope.kind = .function) : codeAny (model prog w) A (.call (.ref f) args) R s := by
  refine codeAny_call_function hroom (X _ _ ho) rfl hco hgen rfl (codeRec_of X hcd) (hbind _ _ _ _ ?_)
  refine wpAny_newFunctionEnv_cells hk (kindsX hkind _) fun env he s₁ x => ?_
  subst he
  exact ⟨hlim.keeps x.toInCall.keep, codeAny_func (h s₁ x)⟩

/-- C(..): dict at size, instance at size + 1, then __init__ -/
theorem make_obj {R : Result → Shared → Prop} {C fI : Addr} {rest : List Value} {kw : List (Str × Value)}
    (X : K.In s.heap) (hm : makesIn K C = true) (hi : findIn K (.ref C) "__init__" = some (some (.ref fI))) (hf : isFn K (.ref fI) = true)
    (h : codeAny (model prog w) (A.under (.builtin "type.__call__" ⟨.ref C :: rest, kw⟩)) (.call (.ref fI) ⟨.ref (s.heap.objs.size + 1) :: rest, kw⟩) (InitBack (s.heap.objs.size + 1) R)
      { s with heap := (s.heap.push emptyDict).push (instObj C s.heap.objs.size) }) : codeAny (model prog w) A (.call (.ref C) ⟨rest, kw⟩) R s := by
  obtain ⟨hh, g, d, t, os⟩ := s
  exact make_core (makes_of X hm) (looks_findIn X hi) (fun self => bind_fn X self (beq_iff_eq.mp hf)) (.inl rfl) h

/-- x.name where the instance's dict holds the name and the class does not -/
theorem get_field {x C : Addr} {ox : Obj} {es : List DictEntry} {n : Nat} {name : Str} {expr : Bool} {v : Value} {Q : Value → Shared → Prop}
    (X : K.In s.heap) (I : PySem.W.InstAt s.heap x ox C (some (dictOf es n))) (hg : plainGet K C name = true) (hh : hasDictIn K C = true) (ha : findIn K (.ref C) name = some none)
    (hl : getL name es = some (some v)) (hv : handedIn v = true) (h : Q v { s with toks := s.toks + 1 }) : wpAny (model prog w) A (getAttr (.ref x) name expr) Q E s :=
  get_value X I (plainGet_of hg).1 (findObj_own hh ha rfl hl) hv h

/-- x.m(..): the method found in the class -/
theorem get_method {x C f : Addr} {ox : Obj} {es : List DictEntry} {n : Nat} {name : Str} {pl : Sem Bool} {Q : Value × List Value → Shared → Prop}
    (X : K.In s.heap) (I : PySem.W.InstAt s.heap x ox C (some (dictOf es n))) (hg : plainGet K C name = true) (hf : findIn K (.ref C) name = some (some (.ref f))) (ht : isFn K (.ref f) = true)
    (hl : getL name es = some none) (h : Q (.ref f, [.ref x]) s) : wpAny (model prog w) A (getMethod (.ref x) name pl) Q E s :=
  method_fn X I (plainGet_of hg).1 (plainGet_of hg).2 hf (beq_iff_eq.mp ht) (by show (lookIn name (dictOf es n)).map _ = _; rw [lookIn_dict, hl]; rfl) h

/-! the whole heap as the ledger: makes every rule that writes through a ledger a rule over any heap -/
def noObjs (h : Heap) : Heap := { h with objs := #[] }
theorem noObjs_get (h : Heap) (b : Addr) : (noObjs h).get? b = none := by
  cases e : (noObjs h).get? b with
  | none => rfl
  | some o => exact absurd (Heap.lt_size e) (Nat.not_lt_zero _)
def ledger (h : Heap) (L d : Addr) : List (Addr × Obj) := (List.range h.objs.size).filterMap fun a => if a = L ∨ a = d then none else (h.get? a).map fun o => (a, o)
theorem mem_ledger {h : Heap} {L d a : Addr} {o : Obj} : (a, o) ∈ ledger h L d ↔ a ≠ L ∧ a ≠ d ∧ h.get? a = some o := by
  unfold ledger
  rw [List.mem_filterMap]
  constructor
  · rintro ⟨b, _, e⟩
    split at e
    · cases e
    · rename_i hb
      obtain ⟨o', ho, e'⟩ := Option.map_eq_some_iff.mp e
      cases e'
      exact ⟨fun q => hb (.inl q), fun q => hb (.inr q), ho⟩
  · rintro ⟨n1, n2, ho⟩
    refine ⟨a, List.mem_range.mpr (Heap.lt_size ho), ?_⟩
    rw [if_neg (show ¬ (a = L ∨ a = d) from fun q => q.elim n1 n2), ho] <;> rfl
theorem news_ledger {h : Heap} {L d : Addr} {od : Obj} (hne : d ≠ L) (ho : h.get? d = some od) : News (noObjs h) L h ([] ++ (d, od) :: ledger h L d) := by
  rintro ⟨a, o⟩ hp
  rcases List.mem_cons.mp hp with e | hp
  · cases e
    exact ⟨ho, hne, noObjs_get _ _⟩
  · obtain ⟨n1, n2, e⟩ := mem_ledger.mp hp
    exact ⟨e, n1, noObjs_get _ _⟩
theorem fr_all {h : Heap} {L : Addr} {m : Str → Option Value} (n : h.Ns L m) : Fr (noObjs h) L h m :=
  ⟨n, fun b o e => (by rw [noObjs_get] at e; cases e), Nat.zero_le _⟩
/-- Upd of the head entry (for append_K, setItem_K ..) -/
theorem upd_ledger {h : Heap} {L d : Addr} {o o' : Obj} : Upd d o o' ((d, o) :: ledger h L d) ((d, o') :: ledger h L d) :=
  .head fun ⟨_, _⟩ hp => (mem_ledger.mp hp).2.1

/-- x.name = v over any heap: L is any namespace of the heap (the frame's, say): its map stays, its object is not told; all else but the dict stays -/
theorem set_field {x C dx L : Addr} {ox : Obj} {m : Str → Option Value} {es es' : List DictEntry} {n n' : Nat} {name : Str} {v : Value} {Q : Unit → Shared → Prop}
    (X : K.In s.heap) (I : PySem.W.InstAt s.heap x ox C (some (dictOf es n))) (hd : ox.dict = some dx) (hL : s.heap.Ns L m) (hne : dx ≠ L)
    (hs : findIn K (.ref C) "__setattr__" = some (some (.builtin "object.__setattr__"))) (hp : plainOver K C = true) (ht : takerIn K C name = some none) (hh : hasDictIn K C = true) (hl : (getL name es).isSome = true)
    (e : (putL name (PyData.keyHash w.params name) (.str name (s.toks + 1)) v es, putN name es n) = (es', n')) (hz : es'.length ≤ 1000)
    (h : ∀ h' : Heap, h'.Ns L m → h'.get? dx = some (dictOf es' n') → (∀ b o, b ≠ dx → b ≠ L → s.heap.get? b = some o → h'.get? b = some o) → Q () { s with heap := h', toks := s.toks + 2 }) :
    wpAny (model prog w) A (setAttr (.ref x) name v) Q E s := by
  obtain ⟨e1, e2⟩ := Prod.mk.inj e
  have hdx : s.heap.get? dx = some (dictOf es n) := by
    have := I.dict
    rw [hd] at this
    exact this
  refine set_plain X I hs (osa_dict (s := { s with toks := s.toks + 1 }) (h₀ := noObjs s.heap) (L := L) (m := m) (od := dictOf es n) (od' := dictOf es' n') (es := es') (n := n') (pre := []) (post := ledger s.heap L dx)
    (fr_all hL) (news_ledger hne hdx) X I hd hp ht hh hl (fun _ q => nomatch q) (fun ⟨_, _⟩ q => (mem_ledger.mp q).2.1) (by rw [putName_dict, e1, e2]) rfl hz fun h' F' N' => ?_)
  exact h h' F'.ns (N'.get (List.Mem.head _)) fun b o n1 n2 ho => N'.get (List.Mem.tail _ (mem_ledger.mpr ⟨n2, n1, ho⟩))
end
end Att

namespace L2
open PySem PySem.Spec PyProof.Rows

theorem vals_ints : ∀ {vs : List Value} {ns : List Int}, IntsAre vs ns → Vals (ns.map V.int) vs
  | _, _, .nil => .nil
  | _, _, .cons n t h => .cons ⟨t, rfl⟩ (vals_ints h)

/-- nothing is tracked but the script, known to the object (or it is an object of the module) -/
def Only (H : Hp) : Prop := ∀ b, H b = none ∨ ∃ o xs, H b = some (.frz o (.lst xs))

/-- THE HEAD: the law's promise, at the heap behind the top. F, the promise of the law's def, may use that base is part of the heap (so K.In base, base.Ns mainGlobals mg stand in Mod) -/
theorem law_call {P : Program} {w : World} {K : PySem.W.Frag} {mg mb : Str → Option Value} {CX : CXT} {k : Nat} {fa a : Addr} {fd : FuncData} {x : Str} {sp : Sp} {s₁ : Shared} {vs : List Value} {ns : List Int}
    (KX : K.In s₁.heap) (hns : s₁.heap.Ns mainGlobals mg) (hb : s₁.heap.Ns builtinsNs mb) (hbb : ∀ x : Str, x ≠ "__name__" → mb x = bootBuiltins x) (hlim : s₁.heap.NoLimit) (hg : s₁.gens = #[])
    (ha : s₁.heap.get? a = some { cls := .type "list", data := .seq vs.toArray }) (hi : IntsAre vs ns) (hl : ns.length ≤ sizeLine) (hr : Room k callerA)
    (F : ∀ base : Heap, K.In base → base.Ns mainGlobals mg → FnOk P w K mg base CX k fa fd [x] sp) (hbind : ∀ (s : Shared) (u : Value), BindsTo s fd ⟨[u], []⟩ [(x, u)])
    (hsp : ∀ H : Hp, Only H → SqL K H a (ns.map V.int) → sp [.ref a] H (fun v _ => v = .bl true) fun _ _ _ => False)
    (hCX : ∀ H e s', CX [] H s₁ (fun _ _ _ => False) e s' → False) :
    codeAny (model P w) callerA (.call (.ref fa) ⟨[.ref a], []⟩) (fun r s' => r = .ok (.ret (.bool true)) ∧ OldK s₁.heap s'.heap ∧ s'.os = s₁.os ∧ AllBare s'.gens) s₁ := by
  have rv := vals_ints hi
  have lenV := hi.length
  -- from an abstract heap in which nothing but the script may be tracked
  have core : ∀ H : Hp, Only H → SqL K H a (ns.map V.int) → HOk P w H s₁.heap → (∀ b, H b ≠ none → b = a) → (H a ≠ none → K.lookup a = none) →
      codeAny (model P w) callerA (.call (.ref fa) ⟨[.ref a], []⟩) (fun r s' => r = .ok (.ret (.bool true)) ∧ OldK s₁.heap s'.heap ∧ s'.os = s₁.os ∧ AllBare s'.gens) s₁ := by
    intro H hO hS hok hA hK
    have base_of : ∀ {b : Addr} {o : Obj}, s₁.heap.get? b = some o → H b = none → (hidT s₁.heap H).get? b = some o := fun e n => hidT_get e n
    have noA : ∀ {b : Addr} {o : Obj} {es : Array DictEntry} {ep : Nat}, s₁.heap.get? b = some o → o.data = .dict es ep → H b = none := fun {b o es ep} e d => by
      cases q : H b with
      | none => rfl
      | some u =>
        have e' : b = a := hA b (by rw [q]; simp)
        subst e'
        rw [ha] at e; cases e
        have d' : Data.seq vs.toArray _ = Data.dict es ep := d
        cases d'
    have nsK : ∀ {b : Addr} {m : Str → Option Value}, s₁.heap.Ns b m → (hidT s₁.heap H).Ns b m := fun {b m} ⟨o, es, ep, e, d, r⟩ => ⟨o, es, ep, base_of e (noA e d), d, r⟩
    have hKb : K.In (hidT s₁.heap H) := fun b o e => base_of (KX b o e) (by
      cases q : H b with
      | none => rfl
      | some u =>
        have e' : b = a := hA b (by rw [q]; simp)
        subst e'
        rw [hK (by rw [q]; simp)] at e; cases e)
    have hM : Mod K mg (hidT s₁.heap H) := ⟨hKb, nsK hns, ⟨mb, nsK hb, hbb⟩, let ⟨mc, h1, h2⟩ := hlim; ⟨mc, nsK h1, h2⟩⟩
    have e0 : Env0 P w K mg (hidT s₁.heap H) callerA [] s₁ H := ⟨rfl, hM, fun b o e => of_hidT e, Nat.le_of_eq (hidT_size _ _), trivial, fun b hb => absurd (show b ∈ ([] : List Addr) from hb) (by simp), hok, .of_eq hg⟩
    refine codeAny_mono ((F _ hKb (nsK hns)).run callerA [] s₁ H ⟨[.ref a], []⟩ [.ref a] [.ref a] _ _ hr e0 (hbind s₁ (.ref a)) (.cons rfl .nil) (hsp H hO hS)) fun r s' h => ?_
    cases r with
    | error e => exact (hCX H e s' h).elim
    | ok fl =>
      cases fl with
      | next => exact False.elim h
      | brk => exact False.elim h
      | cont => exact False.elim h
      | ret u =>
        obtain ⟨v, H', os, bare, un, hok', r', q⟩ := h
        have q' : v = .bl true := q
        subst q'
        obtain rfl : u = Value.bool true := r'
        refine ⟨rfl, OldK.of_keep fun b o e => ?_, os, bare⟩
        cases q : H b with
        | none => exact un.keep b o e q (by intro z; exact absurd (show b ∈ ([] : List Addr) from z) (by simp)) (by simp)
        | some u =>
          rcases hO b with z | ⟨ob, xs, z⟩
          · rw [q] at z; cases z
          · have z2 := un.frzs b ob _ z
            obtain ⟨e1, _⟩ := hok b _ z
            obtain ⟨e2, _⟩ := hok' b _ z2
            rw [e] at e1; cases e1
            exact e2
  cases hk : K.lookup a with
  | some o =>
    -- the script is one of the module's own objects
    have e := KX a o hk
    rw [ha] at e
    cases e
    refine core (fun _ => none) (fun _ => .inl rfl) (.inr ⟨_, vs.toArray, _, hk, rfl, rfl, rfl, by rw [List.size_toArray, lenV]; exact hl, by simpa using rv⟩) (fun b u z => by have z' : (none : Option HO) = some u := z; cases z') (fun b z => absurd rfl z) fun z => absurd rfl z
  | none =>
    refine core (fun b => if b = a then some (.frz { cls := .type "list", data := .seq vs.toArray } (.lst (ns.map V.int))) else none) (fun b => ?_) (.inl (.inr ⟨{ cls := .type "list", data := .seq vs.toArray }, if_pos rfl⟩)) (fun b u z => ?_) (fun b z => ?_) fun _ => hk
    · by_cases hb : b = a
      · exact .inr ⟨_, _, if_pos hb⟩
      · exact .inl (if_neg hb)
    · by_cases hb : b = a
      · have z' := (if_pos hb).symm.trans z
        cases z'
        subst hb
        exact ⟨ha, by rw [List.length_map]; exact hl, vs, _, rv, ha⟩
      · have z' := (if_neg hb).symm.trans z
        cases z'
    · by_cases hb : b = a
      · exact hb
      · exact absurd (if_neg hb) z
end L2

namespace L2
open PySem PySem.Spec PyProof.Rows

abbrev KOf {K : PySem.W.Frag} {h : Heap} (_ : K.In h) : PySem.W.Frag := K

/-- the goal that k_head leaves (case hc), from the law's promise. F gives the function object fd (K's own) once, then the promise over every base -/
theorem walk_of {l : PySem.W.OpenLaw} {n k : Nat} {q : Program} {loose : List Str} {XP : (Str → Option Value) → Heap → Prop} {YP : World → Heap → Prop} {d : DefRec} {K : Params → PySem.W.Frag} {CX : World → CXT} {sp : World → Sp} {x : Str}
    (hn : l.most = some n) (hn2 : n ≤ sizeLine) (hdf : d.params.defaults = []) (hr : Room k callerA)
    (hY : ∀ (w : World) (h : Heap), YP w h → (K w.params).In h)
    (F : ∀ (w : World) (mg : Str → Option Value) (fa : Addr) (h : Heap), (K w.params).In h → h.Ns mainGlobals mg → mg d.name = some (.ref fa) →
      ∃ fd : FuncData, (∀ (s : Shared) (u : Value), BindsTo s fd ⟨[u], []⟩ [(x, u)]) ∧
        ∀ base : Heap, (K w.params).In base → base.Ns mainGlobals mg → FnOk l.prog w (K w.params) mg base (CX w) k fa fd [x] (sp w))
    (hsp : ∀ (w : World) (H : Hp) (a : Addr) (ns : List Int), ns.length ≤ n → Only H → SqL (K w.params) H a (ns.map V.int) → sp w [.ref a] H (fun v _ => v = .bl true) fun _ _ _ => False)
    (hCX : ∀ (w : World) (H : Hp) (s : Shared) (e : Value) (s' : Shared), CX w [] H s (fun _ _ _ => False) e s' → False) :
    PySem.W.WalkO q loose XP YP l.row.toRowW d [] (fun f vs => PySem.call f vs) := by
  refine Att.attach_call hn hdf fun w s₀ s₁ mg mb fa o pm cd doc a vs ns G Y ho hd hcd hmg hobj hints hlen hg => ?_
  have KX := hY w _ Y
  obtain ⟨fd, hb, hF⟩ := F w mg fa _ KX G.T.g hmg
  exact law_call KX G.T.g G.T.b G.T.builtins G.T.nolimit hg hobj hints (Nat.le_trans hlen hn2) hr hF hb (fun H hO hS => hsp w H a ns hlen hO hS) fun H e s' => hCX w H s₁ e s'
/-- the same where the promise hangs on the written part alone: (sp := My.sp_law), no hole under a binder -/
theorem walk_ofK {l : PySem.W.OpenLaw} {n k : Nat} {q : Program} {loose : List Str} {XP : (Str → Option Value) → Heap → Prop} {YP : World → Heap → Prop} {d : DefRec} {K : Params → PySem.W.Frag} {CX : CXT} {sp : PySem.W.Frag → Sp} {x : Str}
    (hn : l.most = some n) (hn2 : n ≤ sizeLine) (hdf : d.params.defaults = []) (hr : Room k callerA)
    (hY : ∀ (w : World) (h : Heap), YP w h → (K w.params).In h)
    (F : ∀ (w : World) (mg : Str → Option Value) (fa : Addr) (h : Heap), (K w.params).In h → h.Ns mainGlobals mg → mg d.name = some (.ref fa) →
      ∃ fd : FuncData, (∀ (s : Shared) (u : Value), BindsTo s fd ⟨[u], []⟩ [(x, u)]) ∧
        ∀ base : Heap, (K w.params).In base → base.Ns mainGlobals mg → FnOk l.prog w (K w.params) mg base CX k fa fd [x] (sp (K w.params)))
    (hsp : ∀ (K : PySem.W.Frag) (H : Hp) (a : Addr) (ns : List Int), ns.length ≤ n → Only H → SqL K H a (ns.map V.int) → sp K [.ref a] H (fun v _ => v = .bl true) fun _ _ _ => False)
    (hCX : ∀ (H : Hp) (s : Shared) (e : Value) (s' : Shared), CX [] H s (fun _ _ _ => False) e s' → False) :
    PySem.W.WalkO q loose XP YP l.row.toRowW d [] (fun f vs => PySem.call f vs) :=
  walk_of (K := K) (CX := fun _ => CX) (sp := fun w => sp (K w.params)) hn hn2 hdf hr hY F (fun w H a ns h1 h2 h3 => hsp (K w.params) H a ns h1 h2 h3) fun _ H s e s' => hCX H s e s'
end L2

/- THE LAST THEOREM (shape; LID, My.* are yours):
   My.Adr: a structure of the addresses that your layer names (classes, functions); My.Txt K t: a structure (Prop) of the equations over K;
   My.txt_mk : {K} {implicit addresses ..} (e1 : nsIn K mainGlobals "law" = some (some (.ref f))) (e2 : K.lookup f = some ⟨oc, od, .func (fnOf "law" "law" params body scope dV kV doc pm an cdv ct), sl⟩) (e3 : codeIn K cdv "law" = true) .. : ∃ t, My.Txt K t

set_option maxRecDepth 100000 in
set_option maxHeartbeats 0 in
theorem PySem.Challenge.cw_LID_holds : PySem.Challenge.rw_LID.Holds := by
  w_on; o_law; k_head; (case hw => w_witness2)
  k_fill
  refine L2.walk_of (l := PySem.Challenge.rw_LID) (n := 63) (k := 40) (x := "script") (CX := fun w => ..) (sp := fun _ => My.sp_law) rfl (by decide) rfl ⟨rfl, by decide, by decide⟩ (fun w h Y => PySem.W.kIn_of Y) ?F ?S ?C
  case F =>
    intro w mg fa h KX G hmg
    have T : ∃ t, My.Txt (L2.KOf KX) t := by
      dsimp only [L2.KOf]                          -- K must stand as «<heap const> w.params» for k_is
      refine' My.txt_mk ?e1 ?e2 ?e3 ..
      (case e1 => PySem.W.k_is)                    -- in the order: a name -> its address -> its object -> its parts
      (case e2 => PySem.W.k_is)
      ..
    obtain ⟨t, T⟩ := T
    have e0 := hmg.symm.trans (PySem.W.mg_of KX G T.law)
    cases e0                                       -- fa is the law's own address
    exact ⟨_, fun s u => .of_eq rfl, fun base kb nb => My.law_fn T kb nb⟩     -- if «.of_eq rfl» comes too early: refine' ⟨_, ?b, fun base kb nb => My.law_fn T kb nb⟩; exact fun s u => .of_eq rfl
  case S => exact fun w H a ns hl hO hS => ..
  case C => exact ..
(the tactic k_is has no namespace: write k_is) -/

/-! SHORT WORDS over the layer: a def of the text, its body, what a loop and a test want. -/
namespace L2
open PySem PySem.Spec PyProof.Rows

/-! ### the text by places -/
/-- the j-th statement of a class's body -/
def inClass (s : Stmt) (j : Nat) : Stmt := match s with
  | .ClassDef _ _ _ body _ _ _ _ _ _ _ => body.getD j (.Pass ⟨0, 0, 0, 0⟩)
  | _ => .Pass ⟨0, 0, 0, 0⟩
def defArgs (s : Stmt) : Arguments := match s with
  | .FunctionDef _ a _ _ _ _ _ _ _ _ => a
  | _ => { posonlyargs := [], args := [], vararg := none, kwonlyargs := [], kw_defaults := [], kwarg := none, defaults := [] }
def defBody (s : Stmt) : List Stmt := match s with
  | .FunctionDef _ _ b _ _ _ _ _ _ _ => b
  | _ => []
def defScope (s : Stmt) : Scope := match s with
  | .FunctionDef _ _ _ _ _ _ sc _ _ _ => sc
  | _ => { kind := .function, names := [], isGenerator := false, isCoroutine := false }

/-! ### no exception leaves a def -/
abbrev CX0 : CXT := fun _ _ _ _ _ _ => False
abbrev E0 : XK := fun _ _ _ => False
theorem pass0 {X : Cx} : Passes CX0 X E0 := fun _ _ _ _ _ _ _ h => h.elim

/-! ### a def (or method) of the text as it stands behind the top -/
structure Fun (K : PySem.W.Frag) (x qual : Str) (st : Stmt) (f : Addr) (fd : FuncData) : Prop where
  ex : ∃ (oc : Value) (od : Option Addr) (kV doc pm : Value) (an : Option Addr) (cdv ct : Value) (osl : Array (Option Value)),
    fd = PySem.W.fnOf x qual (defArgs st) (defBody st) (defScope st) .none kV doc pm an cdv ct ∧ K.lookup f = some ⟨oc, od, .func fd, osl⟩ ∧ PySem.W.codeIn K cdv qual = true
  kp : PySem.W.keepIn K (.ref f) = true
section
variable {P : Program} {w : World} {K : PySem.W.Frag} {mg : Str → Option Value} {base : Heap}
/-- THE RULE for a def: its body as a term of rules, and the reading of that term -/
theorem Fun.ok {x qual : Str} {st : Stmt} {f : Addr} {fd : FuncData} {N ps : List Str} {k : Nat} {sp : Sp} (F : Fun K x qual st f fd) (S : FnScope N ps (defScope st)) (len : ∀ vs H Q E, sp vs H Q E → vs.length = ps.length)
    (hbody : ∀ (cdv : Value) (A : Around) (outer : List Env) (s : Shared) (H : Hp) (vs : List V) (Q : VK) (E : XK), Room k (A.deeper (envOfC qual (defScope st) s.heap.objs.size f cdv)) → sp vs H Q E →
      ∃ t, PSs (cxOf CX0 P w K mg base N qual (defScope st) f cdv A outer s H E).nox (defBody st) t ∧ t { nx := fun _ H' => Q .non H', rt := Q } (start N vs) H) : FnOk P w K mg base CX0 (k + 1) f fd ps sp := by
  obtain ⟨oc, od, kV, doc, pm, an, cdv, ct, osl, rfl, lk, hcd⟩ := F.ex
  refine fn_of lk hcd S len fun A outer s H vs Q E hr hsp => ?_
  obtain ⟨t, h, q⟩ := hbody cdv A outer s H vs Q E hr hsp
  exact ⟨t, h.nox, q⟩
/-- how its arguments bind (no defaults): h is «fun _ _ _ _ _ _ us hl => match us, hl with | [_, _], _ => rfl», one _ a parameter -/
theorem Fun.binds {x qual : Str} {st : Stmt} {f : Addr} {fd : FuncData} {ps : List Str} (F : Fun K x qual st f fd)
    (h : ∀ (kV doc pm : Value) (an : Option Addr) (cdv ct : Value) (us : List Value), us.length = ps.length → bindArgs (PySem.W.fnOf x qual (defArgs st) (defBody st) (defScope st) .none kV doc pm an cdv ct) ⟨us, []⟩ = pure (ps.zip us)) : Binds K fd ps [] := by
  obtain ⟨oc, od, kV, doc, pm, an, cdv, ct, osl, rfl, lk, hcd⟩ := F.ex
  exact .all (h kV doc pm an cdv ct)
theorem fun_mk {x qual : Str} {st : Stmt} {f : Addr} {oc : Value} {od an : Option Addr} {osl : Array (Option Value)} {kV doc pm cdv ct : Value} (l : K.lookup f = some ⟨oc, od, .func (PySem.W.fnOf x qual (defArgs st) (defBody st) (defScope st) .none kV doc pm an cdv ct), osl⟩)
    (c : PySem.W.codeIn K cdv qual = true) (k : PySem.W.keepIn K (.ref f) = true) : Fun K x qual st f (PySem.W.fnOf x qual (defArgs st) (defBody st) (defScope st) .none kV doc pm an cdv ct) := ⟨⟨oc, od, kV, doc, pm, an, cdv, ct, osl, rfl, l, c⟩, k⟩
end
theorem hu_of {A : Around} {k : Nat} (hr : Room k A) : A.units + 1 < cLine := Nat.lt_of_le_of_lt (Nat.add_le_add_left (by decide : 1 ≤ 64) _) hr.units
theorem small1000 {n : Nat} (h : n ≤ 1000) : n < sizeLine := Nat.lt_of_le_of_lt h (by decide)

/-! ### expressions in short: the name that stands in the i-th slot -/
section
variable {X : Cx}
theorem pv (i : Nat) {x : Str} {pos : Pos} (hN : X.N[i]? = some x := by rfl) (hv : Vis X.env.scope x := by first | exact Or.inl rfl | exact Or.inr (Or.inl rfl) | exact Or.inr (Or.inr rfl)) (hd : (x == ("__debug__" : Str)) = false := by decide)
    (hcd : (x == ("__classdict__" : Str)) = false := by decide) : PE X (.Name x pos) (tVar i) := pe_var hN hv hd hcd
end

/-! ### tests -/
theorem iteF {A B : Prop} (h : B) : if false = true then A else B := by
  rw [if_neg Bool.false_ne_true]
  exact h
theorem iteT {A B : Prop} (h : A) : if true = true then A else B := by
  rw [if_pos rfl]
  exact h
theorem ite2 {c A B : Prop} [Decidable c] (h1 : c → A) (h2 : ¬ c → B) : if c then A else B := by
  by_cases h : c
  · rw [if_pos h]
    exact h1 h
  · rw [if_neg h]
    exact h2 h
theorem iteNS {c A B : Prop} [Decidable c] (hc : c) (h : B) : if (!decide c) = true then A else B := by
  rw [decide_eq_true hc]
  exact iteF h

/-! ### heaps -/
/-- all that was tracked is as it was -/
def Same (H H' : Hp) : Prop := ∀ b o, H b = some o → H' b = some o
theorem Same.refl (H : Hp) : Same H H := fun _ _ h => h
theorem Same.trans {H H1 H2 : Hp} (a : Same H H1) (b : Same H1 H2) : Same H H2 := fun c o h => b c o (a c o h)
theorem Same.free {H H' : Hp} (e : Same H H') {l : Addr} (h : H' l = Option.none) : H l = Option.none := by
  cases q : H l with
  | none => rfl
  | some o =>
    rw [e l o q] at h
    cases h
theorem Same.seq {K : PySem.W.Frag} {H H' : Hp} {a : Addr} {xs : List V} (e : Same H H') (h : SqL K H a xs) : SqL K H' a xs := by
  rcases h with (h | ⟨o, h⟩) | h
  · exact .inl (.inl (e _ _ h))
  · exact .inl (.inr ⟨o, e _ _ h⟩)
  · exact .inr h

section
variable {X : Cx}
/-- len of a dict -/
theorem call_lenD : CallR X (.builtin "len") (fun xs H Q => ∃ a kvs, xs = [V.ref a] ∧ H a = some (.dK kvs) ∧ Q (.int kvs.length) H) := by
  intro pins s σ H xs us Q I r h
  obtain ⟨a, kvs, rfl, ha, q⟩ := h
  obtain ⟨u, rfl, ru⟩ := vals1 r
  cases ru
  exact d_len I (.inl ha) fun t s' I' => ⟨.int kvs.length, H, I', ⟨t, rfl⟩, q⟩
end
/-! ### a dict's pairs: keys that differ -/
section
variable {κ : Type} [DecidableEq κ]
theorem valV_not {kvs : List (κ × V)} {k : κ} (h : valV kvs k = none) : ¬ k ∈ kvs.map (·.1) := by
  intro m
  obtain ⟨p, hp, e⟩ := List.mem_map.mp m
  have q : (kvs.any fun kv => decide (kv.1 = k)) = true := List.any_eq_true.mpr ⟨p, hp, decide_eq_true e⟩
  rw [valV_any, h] at q
  exact absurd q (by simp)
theorem valV_in {kvs : List (κ × V)} {k : κ} {v : V} (h : valV kvs k = some v) : k ∈ kvs.map (·.1) := by
  have q : (kvs.any fun kv => decide (kv.1 = k)) = true := by
    rw [valV_any, h]
    all_goals rfl
  obtain ⟨p, hp, e⟩ := List.any_eq_true.mp q
  exact List.mem_map.mpr ⟨p, hp, of_decide_eq_true e⟩
theorem nd_snoc : ∀ {l : List κ} {k : κ}, l.Nodup → ¬ k ∈ l → (l ++ [k]).Nodup
  | [], k, _, _ => by simp
  | a :: r, k, h, hk => by
    obtain ⟨h1, h2⟩ := List.nodup_cons.mp h
    show (a :: (r ++ [k])).Nodup
    refine List.nodup_cons.mpr ⟨fun m => ?_, nd_snoc h2 fun m => hk (List.mem_cons.mpr (Or.inr m))⟩
    rcases List.mem_append.mp m with q | q
    · exact h1 q
    · exact hk (List.mem_cons.mpr (Or.inl (List.mem_singleton.mp q).symm))
theorem nd_putK {kvs : List (κ × V)} {k : κ} (v : V) (hn : (kvs.map (·.1)).Nodup) (h : valV kvs k = none) : ((putK kvs k v).map (·.1)).Nodup := by
  rw [putK_new v h, List.map_append]
  exact nd_snoc hn (valV_not h)
theorem dropK_pos {p : κ × V} {r : List (κ × V)} {k : κ} (e : p.1 = k) : dropK (p :: r) k = dropK r k := by
  unfold dropK
  rw [List.filter_cons, if_neg (by simp [e])]
theorem dropK_neg {p : κ × V} {r : List (κ × V)} {k : κ} (e : ¬ p.1 = k) : dropK (p :: r) k = p :: dropK r k := by
  unfold dropK
  rw [List.filter_cons, if_pos (by simp [e])]
theorem dropK_no : ∀ {kvs : List (κ × V)} {k : κ}, ¬ k ∈ kvs.map (·.1) → dropK kvs k = kvs
  | [], _, _ => rfl
  | p :: r, k, h => by
    have h' : ¬ k ∈ r.map (·.1) := fun m => by
      obtain ⟨q, hq, e⟩ := List.mem_map.mp m
      exact h (List.mem_map.mpr ⟨q, List.mem_cons.mpr (Or.inr hq), e⟩)
    rw [dropK_neg fun e => h (List.mem_map.mpr ⟨p, List.mem_cons.mpr (Or.inl rfl), e⟩), dropK_no h']
theorem dropK_mem {kvs : List (κ × V)} {k : κ} {p : κ × V} (h : p ∈ dropK kvs k) : p ∈ kvs := (List.mem_filter.mp h).1
theorem nd_dropK : ∀ {kvs : List (κ × V)} {k : κ}, (kvs.map (·.1)).Nodup → ((dropK kvs k).map (·.1)).Nodup
  | [], _, _ => List.nodup_nil
  | p :: r, k, h => by
    have h : (p.1 :: r.map (·.1)).Nodup := h
    obtain ⟨h1, h2⟩ := List.nodup_cons.mp h
    by_cases e : p.1 = k
    · rw [dropK_pos e]
      exact nd_dropK h2
    · rw [dropK_neg e]
      show (p.1 :: (dropK r k).map (·.1)).Nodup
      refine List.nodup_cons.mpr ⟨fun m => h1 ?_, nd_dropK h2⟩
      obtain ⟨q, hq, eq⟩ := List.mem_map.mp m
      exact List.mem_map.mpr ⟨q, dropK_mem hq, eq⟩
theorem dropK_len : ∀ {kvs : List (κ × V)} {k : κ}, (kvs.map (·.1)).Nodup → k ∈ kvs.map (·.1) → (dropK kvs k).length + 1 = kvs.length
  | [], _, _, m => by simp at m
  | p :: r, k, h, m => by
    have h : (p.1 :: r.map (·.1)).Nodup := h
    have m : k = p.1 ∨ k ∈ r.map (·.1) := List.mem_cons.mp m
    obtain ⟨h1, h2⟩ := List.nodup_cons.mp h
    by_cases e : p.1 = k
    · subst e
      rw [dropK_pos rfl, dropK_no h1]
      all_goals rfl
    · have m' : k ∈ r.map (·.1) := m.resolve_left fun z => e z.symm
      have q := dropK_len h2 m'
      rw [dropK_neg e, List.length_cons, List.length_cons]
      omega
end
end L2


/-! ### comprehensions -/
namespace L3
open PySem PySem.Spec PyProof.Rows L2

/-- the cells that a block takes from the frame around it -/
def cellsIn (env : Env) : List (Str × NameKind) → List (Str × Addr) → List (Str × Addr)
  | [], cs => cs
  | (n, k) :: r, cs => cellsIn env r (if k == .free then match env.cells.lookup n with | some c => (n, c) :: cs | none => cs else cs)
def closureOf (scope : Scope) (env : Env) : List (Str × Addr) := cellsIn env scope.names []
theorem closureFor_eq {scope : Scope} {env : Env} (h : ∀ p ∈ scope.names, p.2 = .free → ∃ c, env.cells.lookup p.1 = some c) : closureFor scope env = pure (closureOf scope env) := by
  unfold closureFor closureOf
  have go : ∀ (l : List (Str × NameKind)) (cs : List (Str × Addr)), (∀ p ∈ l, p.2 = .free → ∃ c, env.cells.lookup p.1 = some c) →
      (forIn l cs fun (p : Str × NameKind) (r : List (Str × Addr)) => (do
        if p.2 == NameKind.free then
          let c ← cellOf env p.1
          pure (ForInStep.yield ((p.1, c) :: r))
        else pure (ForInStep.yield r) : Sem (ForInStep (List (Str × Addr))))) = (pure (cellsIn env l cs) : Sem (List (Str × Addr))) := by
    intro l
    induction l with
    | nil => intro cs _; rfl
    | cons p l ih =>
      intro cs hl
      obtain ⟨n, k⟩ := p
      rw [List.forIn_cons]
      by_cases hk : k = .free
      · subst hk
        obtain ⟨c, hc⟩ := hl (n, .free) List.mem_cons_self rfl
        have e : cellOf env n = pure c := by
          unfold cellOf
          have hc' : env.cells.lookup n = some c := hc
          rw [hc']
        simp only [beq_self_eq_true, if_true, e, pure_bind]
        rw [ih _ fun p hp => hl p (List.mem_cons_of_mem _ hp)]
        have hc' : env.cells.lookup n = some c := hc
        simp only [cellsIn, beq_self_eq_true, if_true, hc']
      · have hb : (k == NameKind.free) = false := by simpa using hk
        simp only [hb, Bool.false_eq_true, if_false, pure_bind]
        rw [ih _ fun p hp => hl p (List.mem_cons_of_mem _ hp)]
        simp only [cellsIn, hb, Bool.false_eq_true, if_false]
  have := go scope.names [] h
  simp only [bind_pure] at this ⊢
  exact this
theorem mem_cellsIn {env : Env} : ∀ {l : List (Str × NameKind)} {cs : List (Str × Addr)} {n : Str} {c : Addr}, (n, c) ∈ cellsIn env l cs → (n, c) ∈ cs ∨ ((n, NameKind.free) ∈ l ∧ env.cells.lookup n = some c)
  | [], _, _, _, h => .inl h
  | (m, k) :: r, cs, n, c, h => by
    rcases mem_cellsIn (l := r) h with h | ⟨h1, h2⟩
    · by_cases hk : k = .free
      · subst hk
        simp only [beq_self_eq_true, if_true] at h
        cases e : env.cells.lookup m with
        | none => rw [e] at h; exact .inl h
        | some d =>
          rw [e] at h
          rcases List.mem_cons.mp h with q | q
          · cases q
            exact .inr ⟨List.mem_cons_self, e⟩
          · exact .inl q
      · have hb : (k == NameKind.free) = false := by simpa using hk
        simp only [hb, Bool.false_eq_true, if_false] at h
        exact .inl h
    · exact .inr ⟨List.mem_cons_of_mem _ h1, h2⟩
theorem keep_cellsIn {env : Env} : ∀ {l : List (Str × NameKind)} {cs : List (Str × Addr)} {p : Str × Addr}, p ∈ cs → p ∈ cellsIn env l cs
  | [], _, _, h => h
  | (m, k) :: r, cs, p, h => by
    refine keep_cellsIn (l := r) ?_
    by_cases hk : k = .free
    · subst hk
      simp only [beq_self_eq_true, if_true]
      cases e : env.cells.lookup m with
      | none => exact h
      | some d => exact List.mem_cons_of_mem _ h
    · have hb : (k == NameKind.free) = false := by simpa using hk
      simp only [hb, Bool.false_eq_true, if_false]
      exact h
theorem in_cellsIn {env : Env} {n : Str} {c : Addr} (e : env.cells.lookup n = some c) : ∀ {l : List (Str × NameKind)} {cs : List (Str × Addr)}, (n, NameKind.free) ∈ l → (n, c) ∈ cellsIn env l cs
  | (m, k) :: r, cs, h => by
    rcases List.mem_cons.mp h with q | q
    · cases q
      refine keep_cellsIn (l := r) ?_
      simp only [beq_self_eq_true, if_true, e]
      exact List.mem_cons_self
    · exact in_cellsIn e (l := r) q
theorem lookup_of_mem {α : Type} {n : Str} {c : α} : ∀ {l : List (Str × α)}, (n, c) ∈ l → ∃ d, l.lookup n = some d
  | (m, d) :: r, h => by
    by_cases e : n = m
    · subst e
      exact ⟨d, by simp⟩
    · have hb : (n == m) = false := beq_eq_false_iff_ne.mpr e
      rcases List.mem_cons.mp h with q | q
      · cases q; exact absurd rfl e
      · obtain ⟨d', hd⟩ := lookup_of_mem q
        exact ⟨d', by simp only [List.lookup, hb]; exact hd⟩

/-- a name of a block's relabelled scope -/
theorem relabel_kinds {scope : Scope} {env : Env} {x : Str} : ∀ {names : List (Str × NameKind)} {k : NameKind},
    (names.map fun (n, k) => if (k == NameKind.free && env.scope.kind == .function && env.kindOf n == some .cell) then (n, NameKind.cell) else (n, k)).lookup x = some k →
    names.lookup x = some k ∨ (names.lookup x = some .free ∧ k = .cell)
  | [], k, h => by simp at h
  | (n, j) :: r, k, h => by
    have ih := @relabel_kinds scope env x r k
    rw [List.map_cons] at h
    dsimp only at h
    cases hx : x == n with
    | true =>
      simp only [List.lookup_cons, hx]
      by_cases hc : (j == NameKind.free && env.scope.kind == .function && env.kindOf n == some .cell) = true
      · rw [if_pos hc] at h
        simp only [List.lookup_cons, hx] at h
        have hj : j = .free := by
          have := (Bool.and_eq_true_iff.mp (Bool.and_eq_true_iff.mp hc).1).1
          simpa using this
        cases h
        exact .inr ⟨by rw [hj], rfl⟩
      · rw [if_neg hc] at h
        simp only [List.lookup_cons, hx] at h
        exact .inl h
    | false =>
      simp only [List.lookup_cons, hx]
      by_cases hc : (j == NameKind.free && env.scope.kind == .function && env.kindOf n == some .cell) = true
      · rw [if_pos hc] at h; simp only [List.lookup_cons, hx] at h; exact ih h
      · rw [if_neg hc] at h; simp only [List.lookup_cons, hx] at h; exact ih h
theorem relabel_free {env : Env} {x : Str} : ∀ {names : List (Str × NameKind)}, names.lookup x = some .free →
    (names.map fun (n, k) => if (k == NameKind.free && env.scope.kind == .function && env.kindOf n == some .cell) then (n, NameKind.cell) else (n, k)).lookup x = some .cell ∨
    (names.map fun (n, k) => if (k == NameKind.free && env.scope.kind == .function && env.kindOf n == some .cell) then (n, NameKind.cell) else (n, k)).lookup x = some .free
  | [], h => by simp at h
  | (n, j) :: r, h => by
    have ih := @relabel_free env x r
    rw [List.map_cons]
    dsimp only
    cases hx : x == n with
    | true =>
      simp only [List.lookup_cons, hx] at h
      cases h
      by_cases hc : (NameKind.free == NameKind.free && env.scope.kind == .function && env.kindOf n == some .cell) = true
      · rw [if_pos hc]; exact .inl (by simp only [List.lookup_cons, hx])
      · rw [if_neg hc]; exact .inr (by simp only [List.lookup_cons, hx])
    | false =>
      simp only [List.lookup_cons, hx] at h
      by_cases hc : (j == NameKind.free && env.scope.kind == .function && env.kindOf n == some .cell) = true
      · rw [if_pos hc]; simp only [List.lookup_cons, hx]; exact ih h
      · rw [if_neg hc]; simp only [List.lookup_cons, hx]; exact ih h

/-- the context of a comprehension's block: N its names (its own first), fp the iterator's records -/
def compCx (X : Cx) (N : List Str) (scope : Scope) (fp : List Addr) (s : Shared) (H : Hp) : Cx where
  prog := X.prog
  w := X.w
  K := X.K
  mg := X.mg
  base := X.base
  A := X.A
  N := N
  s₀ := s
  H₀ := H
  env := compEnvC scope (closureOf scope X.env) s.heap.objs.size X.env
  outer := X.stack
  stack := X.stack
  ex := fp
  fn := fun _ => false
  calm := X.calm
  pn := []
  xe := fun _ _ => False

/-- what of the text a comprehension must have: sc the scope around, N the block's names: own of its own, then those at the places js of the frame around -/
structure CompOk (X : Cx) (scope : Scope) (N : List Str) (own : Nat) (js : List Nat) : Prop where
  kind : scope.kind = .function
  cells : ∀ p ∈ scope.names, p.2 ≠ .cell
  locs : ∀ p ∈ scope.names, p.2 = .local → scope.names.lookup p.1 = some .local
  frees : ∀ p ∈ scope.names, p.2 = .free → scope.names.lookup p.1 = some .free ∧ (X.env.scope.names.lookup p.1 = some .cell ∨ X.env.scope.names.lookup p.1 = some .free)
  len : N.length = own + js.length
  at_ : ∀ (k i : Nat) (x : Str), js[k]? = some i → N[own + k]? = some x → X.N[i]? = some x ∧ scope.names.lookup x = some .free
/-- the same, to be reckoned -/
def compOkB (scope sc : Scope) (N M : List Str) (own : Nat) (js : List Nat) : Bool :=
  decide (scope.kind = .function) && scope.names.all (fun p => p.2 != .cell) && scope.names.all (fun p => p.2 != .local || scope.names.lookup p.1 == some .local) &&
  scope.names.all (fun p => p.2 != .free || (scope.names.lookup p.1 == some .free && (sc.names.lookup p.1 == some .cell || sc.names.lookup p.1 == some .free))) &&
  decide (N.length = own + js.length) && (js.zip (N.drop own)).all fun q => M[q.1]? == some q.2 && scope.names.lookup q.2 == some .free
theorem compOk {X : Cx} {scope : Scope} {N : List Str} {own : Nat} {js : List Nat} (sc : Scope) (M : List Str) (h1 : X.env.scope = sc) (h2 : X.N = M) (h : compOkB scope sc N M own js = true) : CompOk X scope N own js := by
  unfold compOkB at h
  simp only [Bool.and_eq_true, decide_eq_true_eq, List.all_eq_true] at h
  obtain ⟨⟨⟨⟨⟨a1, a2⟩, a3⟩, a4⟩, a5⟩, a6⟩ := h
  refine ⟨a1, fun p hp => by simpa using a2 p hp, fun p hp hk => ?_, fun p hp hk => ?_, a5, fun k i x e1 e2 => ?_⟩
  · have := a3 p hp
    rw [hk] at this
    simpa using this
  · have := a4 p hp
    rw [hk] at this
    rw [h1]
    simpa using this
  · have hm : (i, x) ∈ js.zip (N.drop own) := by
      refine List.mem_of_getElem? (i := k) ?_
      rw [List.getElem?_zip_eq_some]
      exact ⟨e1, by rw [List.getElem?_drop]; exact e2⟩
    have := a6 _ hm
    rw [h2]
    simpa using this

/-- the values of the block's names at its start -/
def compSt (own : Nat) (js : List Nat) (σ : L2.St) : L2.St := List.replicate own none ++ js.map fun i => (σ[i]?).join

section
variable {X : Cx} {pins : List (Addr × Obj)} {σ : L2.St} {H : Hp} {s : Shared} {scope : Scope} {N : List Str} {own : Nat} {js : List Nat} {fp : List Addr}

theorem closure_look (I : Inv X pins σ H s) {x : Str} {c : Addr} (e : (closureOf scope X.env).lookup x = some c) : X.env.cells.lookup x = some c := by
  rcases mem_cellsIn (PySem.mem_of_lookup e) with h | ⟨_, h⟩
  · cases h
  · exact h
theorem closure_has (C : CompOk X scope N own js) (I : Inv X pins σ H s) {x : Str} (h : scope.names.lookup x = some .free) : ∃ c, (closureOf scope X.env).lookup x = some c ∧ X.env.cells.lookup x = some c := by
  have hm := PySem.mem_of_lookup h
  obtain ⟨c, hc⟩ := I.ok.has x (C.frees _ hm rfl).2
  obtain ⟨d, hd⟩ := lookup_of_mem (in_cellsIn (cs := []) hc hm)
  exact ⟨d, hd, closure_look I hd⟩
theorem closureFor_ok (C : CompOk X scope N own js) (I : Inv X pins σ H s) : closureFor scope X.env = pure (closureOf scope X.env) :=
  closureFor_eq fun p hp hk => I.ok.has p.1 (C.frees p hp hk).2

/-- the block's start -/
theorem comp_start (C : CompOk X scope N own js) (I : Inv X pins σ H s) (hf : ∀ b ∈ fp, FpOk X pins H b) (ho : ∀ b ∈ fp, ∃ o, s.heap.get? b = some o ∧ ∀ v, o.data ≠ .cell v) {h₁ : Heap} {t₁ : Nat} {m : Str → Option Value}
    (hn : h₁.Ns s.heap.objs.size m) (hk : ∀ b o, s.heap.get? b = some o → h₁.get? b = some o) : Inv (compCx X N scope fp s H) [] (compSt own js σ) H { s with heap := h₁, toks := t₁ } := by
  have hlt : ∀ b ∈ fp, b < s.heap.objs.size := fun b hb => by
    obtain ⟨o, e, _⟩ := ho b hb
    exact Heap.lt_size e
  refine ⟨⟨I.ok.mod, C.kind, I.ok.glob, I.ok.blt, Nat.le_refl _, fun x y c h1 h2 => ?_, fun x hx => ?_, fun x c hx _ => ?_, I.ok.hd, I.ok.frames, .inl rfl, fun b hb => ⟨Nat.ne_of_lt (hlt b hb), fun x c e => ?_⟩, I.bs, Nat.le_trans I.ok.bsz I.sz, fun b o e hb => ?_, fun b hb z => ?_, I.stack, I.stkFree⟩,
    rfl, I.bare, Un.kept hk, ⟨m, hn, fun i x v h1 h2 h3 => ?_⟩, fun x c e => ?_, I.hok.fresh (Nat.le_refl _), fun x c e => I.freeC x c (closure_look I e), fun p hp => ?_, I.hok.kept hk, ?_⟩
  · exact I.ok.inj x y c (closure_look I h1) (closure_look I h2)
  · have hx' : (relabel scope X.env).names.lookup x = some .cell ∨ (relabel scope X.env).names.lookup x = some .free := hx
    have hfree : scope.names.lookup x = some .free := by
      rcases hx' with hx' | hx'
      · rcases relabel_kinds (scope := scope) hx' with q | ⟨q, _⟩
        · exact absurd rfl (C.cells _ (PySem.mem_of_lookup q))
        · exact q
      · rcases relabel_kinds (scope := scope) hx' with q | ⟨q, _⟩
        · exact q
        · exact q
    obtain ⟨c, hc, _⟩ := closure_has C I hfree
    exact ⟨c, hc⟩
  · exact absurd hx Bool.false_ne_true
  · exact (hf b hb).2.2.2.2.1 x c (closure_look I e)
  · rcases (hf b hb).2.2.2.1 with z | z
    · exact I.ok.noex b o e z
    · exact absurd (Nat.lt_of_lt_of_le (Heap.lt_size e) (Nat.le_trans I.ok.bsz z)) (Nat.lt_irrefl _)
  · rcases List.mem_cons.mp (I.stkSub b z) with q | q
    · exact (hf b hb).2.1 q
    · exact (hf b hb).2.2.1 q
  · -- a name of the block that has a value
    have hN : N[i]? = some x := h1
    have hi : own ≤ i := by
      refine Nat.le_of_not_lt fun hlt' => ?_
      unfold compSt at h2
      rw [List.getElem?_append_left (by simpa using hlt'), List.getElem?_replicate] at h2
      split at h2 <;> cases h2
    obtain ⟨k, rfl⟩ := Nat.exists_eq_add_of_le hi
    unfold compSt at h2
    rw [List.getElem?_append_right (by simp), List.length_replicate, Nat.add_sub_cancel_left, List.getElem?_map] at h2
    cases ej : js[k]? with
    | none => rw [ej] at h2; cases h2
    | some j =>
      rw [ej] at h2
      have h2' : (σ[j]?).join = some v := Option.some.inj h2
      have hσ : σ[j]? = some (some v) := by
        cases eσ : σ[j]? with
        | none => rw [eσ] at h2'; cases h2'
        | some ov =>
          rw [eσ] at h2'
          have : ov = some v := h2'
          rw [this]
      obtain ⟨hXN, hfree⟩ := C.at_ k j x ej hN
      have hkind := (C.frees _ (PySem.mem_of_lookup hfree) rfl).2
      obtain ⟨m0, hn0, hl⟩ := I.loc
      obtain ⟨u, r, l⟩ := hl j x v hXN hσ (by rcases hkind with q | q; exact .inr (.inl q); exact .inr (.inr q))
      refine ⟨u, r, .inr ⟨relabel_free hfree, ?_⟩⟩
      obtain ⟨c, hc, hc'⟩ := closure_has C I hfree
      refine ⟨c, hc, ?_⟩
      rcases l with ⟨l1, _⟩ | ⟨_, c', e', z⟩
      · have l1' : X.env.scope.names.lookup x = some .local := l1
        rcases hkind with q | q
        · rw [q] at l1'; cases l1'
        · rw [q] at l1'; cases l1'
      · rw [hc'] at e'
        cases e'
        obtain ⟨o, ho', hd'⟩ := z
        exact ⟨o, hk _ _ ho', hd'⟩
  · obtain ⟨v, o, ho', hd'⟩ := I.cell x c (closure_look I e)
    exact ⟨v, o, hk _ _ ho', hd'⟩
  · exact absurd (show p ∈ ([] : List (Addr × Obj)) from hp) (by simp)
  · unfold compSt
    show _ = N.length
    rw [List.length_append, List.length_replicate, List.length_map, C.len]

/-- the block's end: the frame around goes on -/
theorem comp_end {σ' : L2.St} {H' : Hp} {s' : Shared} (I : Inv X pins σ H s) (hf : ∀ b ∈ fp, FpOk X pins H b) (J : Inv (compCx X N scope fp s H) [] σ' H' s') : Inv X pins σ H' s' :=
  I.call' (ch := fp) J.os J.base J.hok J.bare fun b hb => ⟨(hf b hb).2.2.2.1, (hf b hb).2.1, (hf b hb).2.2.2.2.1, (hf b hb).2.2.2.2.2⟩
end

/-- the tests of a clause -/
def PIfs (X : Cx) (ifs : List Expr) (t : TT) : Prop :=
  ∀ (pins : List (Addr × Obj)) (s : Shared) (σ : L2.St) (H : Hp) (Q : Bool → Hp → Prop), Inv X pins σ H s → t σ H Q →
    wpAny (model X.prog X.w) X.A (forIn ifs true fun c r => if r = true then do let ok ← isTrue c X.env (eval c X.env); pure (ForInStep.yield ok) else pure (ForInStep.yield r)) (TP X pins σ Q) X.xe s
def tNoIf : TT := fun _ H Q => Q true H
theorem pifs_nil {X : Cx} : PIfs X [] tNoIf := fun _ _ _ H _ I h => wpAny_tests_nil ⟨H, I, h⟩
theorem pifs_one {X : Cx} {c : Expr} {t : TT} (hc : PT X c t) : PIfs X [c] t := fun pins s σ H Q I h => wpAny_tests_one (hc pins s σ H Q I h)

/-- what a comprehension's walk wants: W by the turn, a measure, the items so far -/
def CompW (D : Addr) (J : It) (g : TG) (tc : TT) (te : TE) (Q : Hp → Prop) (W : Nat → Nat → List V → L2.St → Hp → Prop) : Prop :=
  ∀ i m ys σ H, W i m ys σ H → H D = some (.lst ys) ∧ ys.length < sizeLine ∧
    ((J.stop i H ∧ Q H) ∨ (J.go i H ∧ ∃ (N1 : V → L2.St → Hp → Prop) (N0 : L2.St → Hp → Prop),
      (∀ y σ2 H4, N1 y σ2 H4 → H4 D = some (.lst ys) ∧ ∃ m', m' < m ∧ W (i + 1) m' (ys ++ [y]) σ2 (upd H4 D (.lst (ys ++ [y])))) ∧ (∀ σ2 H3, N0 σ2 H3 → ∃ m', m' < m ∧ W (i + 1) m' ys σ2 H3) ∧
      ∀ x H1, J.yld i H x H1 → g x σ H1 fun σ2 H2 => tc σ2 H2 fun b H3 => if b = true then te σ2 H3 fun y H4 => N1 y σ2 H4 else N0 σ2 H3))
def tComp (own : Nat) (js : List Nat) (wi : TI) (g : TG) (tc : TT) (te : TE) : TE := fun σ H Q => wi σ H fun J H1 => ∀ D, H1 D = none →
  ∃ W : Nat → Nat → List V → L2.St → Hp → Prop, (∃ m, W 0 m [] (compSt own js σ) (upd H1 D (.lst []))) ∧ CompW D J g tc te (fun H' => Q (.ref D) H') W

section
variable {X : Cx} {elt tg iter : Expr} {ifs : List Expr} {scope : Scope} {pos : Pos} {N : List Str} {own : Nat} {js : List Nat} {wi : TI} {g : TG} {tc : TT} {te : TE}

theorem comp_block {pins : List (Addr × Obj)} {σ : L2.St} {H : Hp} {s : Shared} {it : Addr} {fp : List Addr} {tn : Nat → Heap → Prop} {J : It} {E : Value → Shared → Prop} {Q : V → Hp → Prop} {R : Value → Addr → Result → Shared → Prop}
    (hc : X.calm = true) (C : CompOk X scope N own js) (hg : ∀ fp s H, PG (compCx X N scope fp s H) tg g) (ht : ∀ fp s H, PIfs (compCx X N scope fp s H) ifs tc) (he : ∀ fp s H, PE (compCx X N scope fp s H) elt te)
    (I : Inv X pins σ H s) (T : Turn X.prog X.w X.K tg J fp it tn) (st : tn 0 s.heap) (hf : ∀ b ∈ fp, FpOk X pins H b)
    (h : ∀ D, H D = none → ∃ W : Nat → Nat → List V → L2.St → Hp → Prop, (∃ m, W 0 m [] (compSt own js σ) (upd H D (.lst []))) ∧ CompW D J g tc te (fun H' => Q (.ref D) H') W)
    (hR : ∀ (D L : Addr) (H' : Hp) (s' : Shared), Inv X pins σ H' s' → (∃ m, s'.heap.Ns L m) → H' L = none → L ≠ X.env.locals → X.s₀.heap.objs.size ≤ L → (∀ x c, X.env.cells.lookup x = some c → c ≠ L) → (∀ p ∈ X.pn ++ pins, p.1 ≠ L) →
      Q (.ref D) H' → R (.ref D) L (.ok .next) s') :
    wpAny (model X.prog X.w) X.A (newList []) (fun acc s₃ => wpAny (model X.prog X.w) X.A (newFunctionEnv scope X.env.globals (closureOf scope X.env) [] X.env.qual none .none (some X.env)) (fun cenv s₄ =>
      codeAny (model X.prog X.w) X.A (.compStart (.ListComp elt [⟨tg, iter, ifs, 0⟩] scope pos) 0 (.ref it) acc { cenv with scope := relabel scope X.env }) (R acc cenv.locals) s₄) E s₃) E s := by
  have hD : H s.heap.objs.size = none := I.hok.fresh (Nat.le_refl _)
  obtain ⟨W, ⟨m0, w0⟩, turn⟩ := h _ hD
  refine wpAny_newObj_type (wpAny_newFunctionEnv C.cells (by intro y hy; simp at hy) (fun h₁ hns₁ hsb₁ => ?_) C.kind)
  have I3 : Inv X pins σ (upd H s.heap.objs.size (.lst [])) { s with heap := s.heap.push { cls := .type "list", data := .seq ([] : List Value).toArray }, toks := s.toks } := I.lnew (its := []) .nil (Nat.zero_le _)
  have hf3 : ∀ b ∈ fp, FpOk X pins (upd H s.heap.objs.size (.lst [])) b := fun b hb => by
    obtain ⟨o, e, _⟩ := T.obj 0 _ st b hb
    exact ⟨by rw [upd_ne (Nat.ne_of_lt (Heap.lt_size e))]; exact (hf b hb).1, (hf b hb).2⟩
  have st3 : tn 0 (s.heap.push { cls := .type "list", data := .seq ([] : List Value).toArray }) := T.keep 0 _ _ st fun b hb o e => Heap.get?_push_of_some _ e
  dsimp only at hns₁ hsb₁ ⊢
  generalize hs3 : ({ s with heap := s.heap.push { cls := .type "list", data := .seq ([] : List Value).toArray }, toks := s.toks } : Shared) = s3 at I3
  have eh : s.heap.push { cls := .type "list", dict := none, data := .seq ([] : List Value).toArray } = s3.heap := by rw [← hs3]
  rw [eh] at hns₁ hsb₁ st3 ⊢
  have old : ∀ b o, s3.heap.get? b = some o → h₁.get? b = some o := fun b o e => hsb₁.extBut b o (Nat.ne_of_lt (Heap.lt_size e)) (Heap.get?_push_of_some _ e)
  generalize hH3 : upd H s.heap.objs.size (.lst []) = H3 at I3 hf3 w0
  have J0 : Inv (compCx X N scope fp s3 H3) [] (compSt own js σ) H3 { s3 with heap := h₁, toks := s3.toks + ([] : List (Str × Value)).length } := comp_start C I3 hf3 (T.obj 0 _ st3) hns₁ old
  have st0 : tn 0 h₁ := T.keep 0 _ _ st3 fun b hb o e => old b o e
  have stat : ∀ {H' : Hp}, (∀ b ∈ fp, H' b = none) → ∀ b ∈ fp, FpOk (compCx X N scope fp s3 H3) [] H' b := fun hn b hb => by
    refine ⟨hn b hb, J0.ok.exf b hb |>.1, J0.ok.exfs b hb, .inl hb, (J0.ok.exf b hb).2, fun p hp => absurd (show p ∈ ([] : List (Addr × Obj)) from hp) (by simp)⟩
  have loop : ∀ s₄ : Shared, s₄ = { s3 with heap := h₁, toks := s3.toks + ([] : List (Str × Value)).length } →
      codeAny (model X.prog X.w) X.A (.compLoop (.ListComp elt [⟨tg, iter, ifs, 0⟩] scope pos) 0 (.ref it) (.ref s.heap.objs.size) (compCx X N scope fp s3 H3).env) (R (.ref s.heap.objs.size) s3.heap.objs.size) s₄ := by
    rintro s₄ rfl
    refine codeAny_loop rfl (fun n s' => ∃ i ys σ' H', Inv (compCx X N scope fp s3 H3) [] σ' H' s' ∧ tn i s'.heap ∧ (∀ b ∈ fp, H' b = none) ∧ W i n ys σ' H') ?_ m0 ⟨0, [], _, _, J0, st0, fun b hb => (hf3 b hb).1, w0⟩
    rintro n s5 ⟨i, ys, σ5, H5, I5, st5, fr5, w5⟩
    show wpAny _ X.A ((compTurn (.ListComp elt [⟨tg, iter, ifs, 0⟩] scope pos) 0 (.ref it) (.ref s.heap.objs.size) (compCx X N scope fp s3 H3).env).onRaise (fun x => do noteFrame x (compCx X N scope fp s3 H3).env; theTreesLotGoes x)) _ _ s5
    refine wpAny_noted ?_
    rw [compTurn_list]
    obtain ⟨hD5, hz5, hw5⟩ := turn i n ys σ5 H5 w5
    refine wpAny_bind (wpAny_standAt (wpAny_bind ?_))
    rcases hw5 with ⟨stop, q⟩ | ⟨go, N1, N0, hN1, hN0, step⟩
    · refine wpAny_mono (T.done (compCx X N scope fp s3 H3) rfl rfl rfl hc i [] s5 σ5 H5 (fun _ _ => False) I5 (stat fr5) st5 stop) (fun r s6 ⟨hr, I6⟩ => ?_) fun _ _ z => z.elim
      subst hr
      obtain ⟨m, hm, _⟩ := id I6.loc
      have IX := comp_end I3 hf3 I6
      exact wpAny_pure (hR _ s3.heap.objs.size H5 s6 IX ⟨m, hm⟩ I6.free (Nat.ne_of_gt I3.lt) I3.sz (fun x c e z => by
        obtain ⟨v, o, ho, _⟩ := I3.cell x c e
        rw [z] at ho
        exact absurd (Heap.lt_size ho) (Nat.lt_irrefl _)) (fun p hp z => by
        have e := (I3.pin p hp).1
        rw [z] at e
        exact absurd (Heap.lt_size e) (Nat.lt_irrefl _)) q)
    · refine wpAny_mono (T.item (compCx X N scope fp s3 H3) rfl rfl rfl hc i [] s5 σ5 H5 (fun _ _ => False) I5 (stat fr5) st5 go) (fun r s6 ⟨u, hr, h6⟩ => ?_) fun _ _ z => z.elim
      subst hr
      refine wpAny_bind (wpAny_mono h6 (fun _ s7 ⟨x, H7, I7, r7, y7, st7, fr7⟩ => ?_) fun _ _ z => z.elim)
      have I7' := I7.pinned (stat fr7) (T.obj _ _ st7)
      refine wpAny_bind (wpAny_mono (hg fp s3 H3 _ s7 σ5 H7 x u _ I7' r7 (step x H7 y7)) (fun _ s8 ⟨σ8, H8, I8, q8⟩ => ?_) fun _ _ z => z.elim)
      refine wpAny_bind (wpAny_mono (ht fp s3 H3 _ s8 σ8 H8 _ I8 q8) (fun ok s9 ⟨H9, I9, q9⟩ => ?_) fun _ _ z => z.elim)
      have again : ∀ {sx : Shared} {Hx : Hp} {ys' : List V}, Inv (compCx X N scope fp s3 H3) ([] ++ pinsAt fp s7.heap) σ8 Hx sx → (∃ m', m' < n ∧ W (i + 1) m' ys' σ8 Hx) →
          ∃ m, m < n ∧ ∃ i ys σ' H', Inv (compCx X N scope fp s3 H3) [] σ' H' sx ∧ tn i sx.heap ∧ (∀ b ∈ fp, H' b = none) ∧ W i m ys σ' H' := fun {sx Hx ys'} Ix ⟨m', hm, wx⟩ => by
        refine ⟨m', hm, i + 1, ys', σ8, Hx, Ix.unpinned, T.keep _ _ _ st7 fun b hb o e => (Ix.pin (b, o) (List.mem_append_right _ (List.mem_append_right _ (mem_pinsAt hb e)))).1, fun b hb => ?_, wx⟩
        obtain ⟨o, e, d⟩ := T.obj _ _ st7 b hb
        exact (Ix.pin (b, o) (List.mem_append_right _ (List.mem_append_right _ (mem_pinsAt hb e)))).2.1
      cases ok with
      | false =>
        rw [if_neg Bool.false_ne_true] at q9
        exact wpAny_pure ⟨rfl, again I9 (hN0 _ _ q9)⟩
      | true =>
        rw [if_pos rfl] at q9
        show wpAny _ X.A ((do let _ ← call (.builtin "list.append") [.ref s.heap.objs.size, ← eval elt (compCx X N scope fp s3 H3).env]) >>= _) _ _ s9
        refine wpAny_bind (wpAny_bind (wpAny_mono (he fp s3 H3 _ s9 σ8 H9 _ I9 q9) (fun v s10 ⟨y, H10, I10, r10, n10⟩ => ?_) fun _ _ z => z.elim))
        obtain ⟨hD10, q10⟩ := hN1 _ _ _ n10
        refine wpAny_bind (wpAny_mono (mt_append (X := compCx X N scope fp s3 H3) _ s10 σ8 H10 (.ref s.heap.objs.size) [y] (.ref s.heap.objs.size) [v] (fun _ H' => H' = upd H10 s.heap.objs.size (.lst (ys ++ [y]))) I10 rfl (.cons r10 .nil)
          ⟨_, ys, y, rfl, rfl, hD10, hz5, rfl⟩) (fun _ s11 ⟨_, H11, I11, _, e11⟩ => ?_) fun _ _ z => z.elim)
        subst e11
        exact wpAny_pure (wpAny_pure ⟨rfl, again I11 q10⟩)
  have es : ({ s with heap := h₁, toks := s.toks + ([] : List (Str × Value)).length } : Shared) = { s3 with heap := h₁, toks := s3.toks + ([] : List (Str × Value)).length } := by rw [← hs3]
  exact codeAny_compStart_list (loop _ es) (T.self _ _ _ _ _ st0 (loop _ es))

/-- a comprehension as a value -/
theorem pe_comp (hc : X.calm = true) (C : CompOk X scope N own js) (hi : PI X tg iter wi) (hg : ∀ fp s H, PG (compCx X N scope fp s H) tg g) (ht : ∀ fp s H, PIfs (compCx X N scope fp s H) ifs tc) (he : ∀ fp s H, PE (compCx X N scope fp s H) elt te)
    (hs : ∀ x, foldedSetIterable iter X.env x = pure x := by intro _; rfl) : PE X (.ListComp elt [⟨tg, iter, ifs, 0⟩] scope pos) (tComp own js wi g tc te) := by
  intro pins s σ H Q I h
  rw [eval_ListComp]
  refine wpAny_comprehension_free (use := none) rfl hs (closureFor_ok C I) C.kind C.locs (thn (hi pins s σ H _ I h) fun v s1 h1 => thn h1 fun itv s2 h2 => ?_)
  obtain ⟨it, fp, tn, J, H2, e, I2, T, st2, f2, hW⟩ := h2
  subst e
  refine comp_block (R := fun acc L => compPost (model X.prog X.w) X.A X.xe none (EP X pins σ Q) acc L) hc C hg ht he I2 T st2 f2 hW fun D L H' s' I' hm hL1 hL2 hL3 hL4 hL5 q => ?_
  obtain ⟨m, hm⟩ := hm
  refine ⟨m, hm, fun h' sb => ⟨.ref D, H', ?_, rfl, q⟩⟩
  exact I'.turned (t' := s'.toks) (fun b o hb e => (sb.2 b hb).trans e) hL1 hL2 (.inr hL3) hL4 hL5

/-- x = [ .. for .. ] on one line: the name is stored ahead of the block's end -/
def sComp (i own : Nat) (js : List Nat) (wi : TI) (g : TG) (tc : TT) (te : TE) : TS := fun D σ H => tComp own js wi g tc te σ H fun v H' => D.nx (σ.set i (some v)) H'
theorem ps_comp {i : Nat} {x : Str} {px : Pos} (hc : X.calm = true) (nd : X.N.Nodup) (hx : X.N[i]? = some x) (hl : X.env.kindOf x = some .local) (C : CompOk X scope N own js) (hi : PI X tg iter wi) (hg : ∀ fp s H, PG (compCx X N scope fp s H) tg g)
    (ht : ∀ fp s H, PIfs (compCx X N scope fp s H) ifs tc) (he : ∀ fp s H, PE (compCx X N scope fp s H) elt te) {spos : Pos}
    (hsw : swapsWith (.ListComp elt [⟨tg, iter, ifs, 0⟩] scope pos) (some (.Name x px)) spos.line X.env = pure true) (hs : ∀ x, foldedSetIterable iter X.env x = pure x := by intro _; rfl) :
    PS X (.Assign [.Name x px] (.ListComp elt [⟨tg, iter, ifs, 0⟩] scope pos) spos) (sComp i own js wi g tc te) := by
  intro pins s σ H D I h
  rw [exec_Assign_Name_used _ _ _ _ hsw]
  refine wpAny_bind (wpAny_standAt (wpAny_bind ?_))
  show wpAny _ X.A (do let _ ← comprehension (.ListComp elt [⟨tg, iter, ifs, 0⟩] scope pos) scope X.env _ (newList []) false (eval iter X.env) (some (assign (.Name x px) X.env))) _ _ s
  refine wpAny_bind (wpAny_mono (wpAny_comprehension_free (use := some (assign (.Name x px) X.env)) (Q := fun _ s' => SP X pins D .next s') rfl hs (closureFor_ok C I) C.kind C.locs
    (thn (hi pins s σ H _ I h) fun v s1 h1 => thn h1 fun itv s2 h2 => ?_)) (fun _ s' hq => wpAny_pure (wpAny_pure hq)) fun _ _ e => e)
  obtain ⟨it, fp, tn, J, H2, e, I2, T, st2, f2, hW⟩ := h2
  subst e
  refine comp_block (Q := fun v H' => D.nx (σ.set i (some v)) H') (R := fun acc L => compPost (model X.prog X.w) X.A X.xe (some (assign (.Name x px) X.env)) (fun _ s' => SP X pins D .next s') acc L) hc C hg ht he I2 T st2 f2 hW fun A L H' s' I' hm hL1 hL2 hL3 hL4 hL5 q => ?_
  obtain ⟨m, hm⟩ := hm
  show wpAny _ X.A (assign (.Name x px) X.env (.ref A)) _ _ _
  refine wpAny_assign_Name (store_ok2 I' nd hx (.inl hl) (v := .ref A) rfl (fun s7 I7 ⟨a, sb, ha⟩ => ?_) (.inr hl))
  have hLa : L ≠ a := by
    rcases ha with rfl | ha
    · exact hL2
    · exact (hL4 _ _ ha).symm
  refine ⟨m, hm.sameBut sb hLa, fun h' sb' => ⟨_, H', ?_, q⟩⟩
  exact I7.turned (t' := s7.toks) (fun b o hb e => (sb'.2 b hb).trans e) hL1 hL2 (.inr hL3) hL4 hL5
end
end L3

/-! ### data: values with all that hangs on them -/
namespace L3
open PySem PySem.Spec PyProof.Rows L2

mutual
/-- the value v, over the abstract heap, is the datum d -/
def DataAt (K : PySem.W.Frag) (H : Hp) : V → PyData → Prop
  | v, .none => v = .non
  | v, .bool b => v = .bl b
  | v, .int i => v = .int i
  | v, .str x => v = .str x
  | v, .list ds => ∃ a xs, v = .ref a ∧ Rd H a (.lst xs) ∧ DataAll K H xs ds
  | v, .tuple ds => ∃ a xs, v = .ref a ∧ H a = some (.tup xs) ∧ DataAll K H xs ds
  | _, .dict _ => False
def DataAll (K : PySem.W.Frag) (H : Hp) : List V → List PyData → Prop
  | xs, [] => xs = []
  | xs, d :: ds => ∃ y ys, xs = y :: ys ∧ DataAt K H y d ∧ DataAll K H ys ds
end

theorem SqT.same {K : PySem.W.Frag} {H H' : Hp} {a : Addr} {xs : List V} (e : Same H H') (h : SqT K H a xs) : SqT K H' a xs := by
  rcases h with (h | ⟨o, h⟩) | h
  · exact .inl (.inl (e _ _ h))
  · exact .inl (.inr ⟨o, e _ _ h⟩)
  · exact .inr h
theorem Rd.same {H H' : Hp} {a : Addr} {u : HO} (e : Same H H') (h : Rd H a u) : Rd H' a u := by
  rcases h with h | ⟨o, h⟩
  · exact .inl (e _ _ h)
  · exact .inr ⟨o, e _ _ h⟩
mutual
theorem DataAt.same {K : PySem.W.Frag} {H H' : Hp} (e : Same H H') : ∀ (d : PyData) {v : V}, DataAt K H v d → DataAt K H' v d
  | .none, _, h => by unfold DataAt at h ⊢; exact h
  | .bool _, _, h => by unfold DataAt at h ⊢; exact h
  | .int _, _, h => by unfold DataAt at h ⊢; exact h
  | .str _, _, h => by unfold DataAt at h ⊢; exact h
  | .list ds, v, h => by
    unfold DataAt at h ⊢
    obtain ⟨a, xs, h1, h2, h3⟩ := h
    exact ⟨a, xs, h1, Rd.same e h2, DataAll.same e ds h3⟩
  | .tuple ds, v, h => by
    unfold DataAt at h ⊢
    obtain ⟨a, xs, h1, h2, h3⟩ := h
    exact ⟨a, xs, h1, e _ _ h2, DataAll.same e ds h3⟩
  | .dict _, _, h => by unfold DataAt at h; exact h.elim
theorem DataAll.same {K : PySem.W.Frag} {H H' : Hp} (e : Same H H') : ∀ (ds : List PyData) {xs : List V}, DataAll K H xs ds → DataAll K H' xs ds
  | [], _, h => by unfold DataAll at h ⊢; exact h
  | d :: ds, _, h => by
    unfold DataAll at h ⊢
    obtain ⟨y, ys, h1, h2, h3⟩ := h
    exact ⟨y, ys, h1, DataAt.same e d h2, DataAll.same e ds h3⟩
end
mutual
theorem DataAt.reads {X : Cx} {pins : List (Addr × Obj)} {σ : L2.St} {H : Hp} {s : Shared} (I : Inv X pins σ H s) : ∀ (d : PyData) {v : V} {u : Value}, DataAt X.K H v d → RelV v u → ∃ as, Reads s.heap u d as
  | .none, _, u, h, r => by
    unfold DataAt at h; subst h
    cases r
    exact ⟨_, .none⟩
  | .bool b, _, u, h, r => by
    unfold DataAt at h; subst h
    cases r
    exact ⟨_, .bool b⟩
  | .int i, _, u, h, r => by
    unfold DataAt at h; subst h
    obtain ⟨t, rfl⟩ := r
    exact ⟨_, .int i t⟩
  | .str x, _, u, h, r => by
    unfold DataAt at h; subst h
    obtain ⟨t, rfl⟩ := r
    exact ⟨_, .str x t⟩
  | .list ds, _, u, h, r => by
    unfold DataAt at h
    obtain ⟨a, xs, rfl, h2, h3⟩ := h
    cases r
    obtain ⟨its, rv, ⟨o, n, e, c, _, hd⟩, _⟩ := I.list (.inl h2)
    obtain ⟨as, q⟩ := DataAll.reads I ds h3 rv
    exact ⟨_, .list e c hd (by simpa using q)⟩
  | .tuple ds, _, u, h, r => by
    unfold DataAt at h
    obtain ⟨a, xs, rfl, h2, h3⟩ := h
    cases r
    obtain ⟨its, rv, ⟨o, e, c, n, hd⟩, _⟩ := I.tuple (SqT.of h2)
    obtain ⟨as, q⟩ := DataAll.reads I ds h3 rv
    exact ⟨_, .tuple e c hd (by simpa using q)⟩
  | .dict _, _, _, h, _ => by unfold DataAt at h; exact h.elim
theorem DataAll.reads {X : Cx} {pins : List (Addr × Obj)} {σ : L2.St} {H : Hp} {s : Shared} (I : Inv X pins σ H s) : ∀ (ds : List PyData) {xs : List V} {us : List Value}, DataAll X.K H xs ds → Vals xs us → ∃ as, ReadsAll s.heap us ds as
  | [], _, us, h, r => by
    unfold DataAll at h; subst h
    cases r
    exact ⟨_, .nil⟩
  | d :: ds, _, us, h, r => by
    unfold DataAll at h
    obtain ⟨y, ys, rfl, h2, h3⟩ := h
    cases r with
    | cons r1 r2 =>
      obtain ⟨as, q⟩ := DataAt.reads I d h2 r1
      obtain ⟨bs, q'⟩ := DataAll.reads I ds h3 r2
      exact ⟨_, .cons q q'⟩
end
theorem DataAll.ints {K : PySem.W.Frag} {H : Hp} : ∀ (ns : List Int), DataAll K H (ns.map V.int) (ns.map PyData.int)
  | [] => by unfold DataAll; rfl
  | n :: ns => by
    show DataAll K H (V.int n :: ns.map V.int) (PyData.int n :: ns.map PyData.int)
    unfold DataAll
    exact ⟨_, _, rfl, by unfold DataAt; rfl, DataAll.ints ns⟩
theorem DataAll.strs {K : PySem.W.Frag} {H : Hp} : ∀ (ns : List Str), DataAll K H (ns.map V.str) (ns.map PyData.str)
  | [] => by unfold DataAll; rfl
  | n :: ns => by
    show DataAll K H (V.str n :: ns.map V.str) (PyData.str n :: ns.map PyData.str)
    unfold DataAll
    exact ⟨_, _, rfl, by unfold DataAt; rfl, DataAll.strs ns⟩

/-! ### == and != of any data -/
section
variable {X : Cx}
def rEqD (K : PySem.W.Frag) (n : Nat) : R2 := fun x y H Q => ∃ d e, DataAt K H x d ∧ DataAt K H y e ∧ d.canLay0 = true ∧ e.canLay0 = true ∧ min d.depth e.depth ≤ n ∧ Q (.bl (PyData.eqv d e)) H
def rNeD (K : PySem.W.Frag) (n : Nat) : R2 := fun x y H Q => ∃ d e, DataAt K H x d ∧ DataAt K H y e ∧ d.canLay0 = true ∧ e.canLay0 = true ∧ min d.depth e.depth ≤ n ∧ Q (.bl (!PyData.eqv d e)) H
theorem op_eqD {n : Nat} (hu : X.A.units + n < cLine) : OpR X (compareOp .Eq) (rEqD X.K n) := by
  intro pins s σ H x y v u Q I rx ry h
  obtain ⟨d, e, hd, he, l1, l2, hn, q⟩ := h
  obtain ⟨as, r1⟩ := DataAt.reads I d hd rx
  obtain ⟨bs, r2⟩ := DataAt.reads I e he ry
  exact SeqAt.compareEq_reads r1 r2 l1 l2 (by omega) ⟨.bl _, H, I, rfl, q⟩
theorem op_neD {n : Nat} (hu : X.A.units + n < cLine) : OpR X (compareOp .NotEq) (rNeD X.K n) := by
  intro pins s σ H x y v u Q I rx ry h
  obtain ⟨d, e, hd, he, l1, l2, hn, q⟩ := h
  obtain ⟨as, r1⟩ := DataAt.reads I d hd rx
  obtain ⟨bs, r2⟩ := DataAt.reads I e he ry
  exact SeqAt.compareNe_reads r1 r2 l1 l2 (by omega) ⟨.bl _, H, I, rfl, q⟩

/-! ### is True, is False -/
theorem op_isB : OpR X (compareOp .Is) (fun x y H Q => ∃ c d, x = .bl c ∧ y = .bl d ∧ Q (.bl (c == d)) H) := by
  intro pins s σ H x y v u Q I rx ry h
  obtain ⟨c, d, rfl, rfl, q⟩ := h
  cases rx
  cases ry
  exact is_bool ⟨.bl _, H, I, rfl, q⟩
theorem op_isnotB : OpR X (compareOp .IsNot) (fun x y H Q => ∃ c d, x = .bl c ∧ y = .bl d ∧ Q (.bl (c != d)) H) := by
  intro pins s σ H x y v u Q I rx ry h
  obtain ⟨c, d, rfl, rfl, q⟩ := h
  cases rx
  cases ry
  exact isnot_bool ⟨.bl _, H, I, rfl, q⟩

/-! ### isinstance against a built-in class -/
/-- the name of a value's built-in type -/
def tyName (K : PySem.W.Frag) (H : Hp) (x : V) (T : String) : Prop := match x with
  | .non => T = "NoneType"
  | .bl _ => T = "bool"
  | .int _ => T = "int"
  | .str _ => T = "str"
  | .ref a => (T = "list" ∧ ((∃ xs, H a = some (.lst xs)) ∨ ∃ o xs, H a = some (.frz o (.lst xs)))) ∨ (T = "tuple" ∧ ∃ xs, H a = some (.tup xs)) ∨ (T = "dict" ∧ ∃ kvs, H a = some (.dK kvs))
  | _ => False
theorem tyName.of {K : PySem.W.Frag} {H : Hp} {x : V} {T : String} (h : tyName K H x T) : TyOf K H x (.type T) := by
  cases x with
  | non => cases (show T = "NoneType" from h); exact .non
  | bl b => cases (show T = "bool" from h); exact .bl b
  | int i => cases (show T = "int" from h); exact .int i
  | str z => cases (show T = "str" from h); exact .str z
  | ref a =>
    rcases h with ⟨rfl, ⟨xs, e⟩ | ⟨o, xs, e⟩⟩ | ⟨rfl, xs, e⟩ | ⟨rfl, kvs, e⟩
    · exact .lst e
    · exact .frz e
    · exact .tup e
    · exact .dK e
  | _ => exact (show False from h).elim
/-- is the first of these types the second one or under it -/
def underT (S T : String) : Bool := S == T || (S == "bool" && T == "int")
theorem call_isi : CallR X (.builtin "isinstance") (fun xs H Q => ∃ x S T b, xs = [x, .ty T] ∧ tyName X.K H x S ∧ PySem.W.kitOne X.K (.type S) (.type T) = some b ∧ Q (.bl b) H) := by
  intro pins s σ H xs us Q I r h
  obtain ⟨x, S, T, b, rfl, ty, e, q⟩ := h
  obtain ⟨u, w', rfl, rx, ry⟩ := vals2 r
  cases ry
  exact isinst_ok I rx ty.of e fun tk => ⟨.bl b, H, I.tok _, rfl, q⟩

/-! ### all, any, sum of a list -/
theorem call_allL (hc : X.calm = true) : CallR X (.builtin "all") (fun xs H Q => ∃ (p : Addr) (bs : List Bool), xs = [.ref p] ∧ SqL X.K H p (bs.map V.bl) ∧ Q (.bl (bs.all id)) H) := by
  intro pins s σ H xs us Q I r h
  obtain ⟨p, bs, rfl, hq, q⟩ := h
  obtain ⟨u, rfl, rx⟩ := vals1 r
  cases rx
  obtain ⟨its, rv, pl, hz⟩ := I.list hq
  have hl := rv.length
  rw [List.length_map] at hl
  refine call_all_walk (wpAny_pyIter_list pl.isList ?_)
  have hp : p < s.heap.objs.size := by obtain ⟨o, n, e, _⟩ := pl; exact Heap.lt_size e
  refine ⟨s.heap.objs.size, _, _, its.toArray.size, _, _, fun i => bs.getD i true, rfl, Walks.list (by show X.A.handled = none; exact I.ok.hd hc) s.heap.objs.size p (Nat.ne_of_lt hp) its.toArray,
    ⟨⟨_, Heap.get?_push_size _ rfl, rfl, rfl⟩, pl.isList.push _⟩, fun i v s' Q' E' hv hQ => ?_, fun h' tk hk => ?_⟩
  · have hv' : its[i]? = some v := by simpa using hv
    have hi : i < its.length := (List.getElem?_eq_some_iff.mp hv').1
    obtain ⟨u', e1, r1⟩ := rv.get (x := V.bl (bs[i]'(by omega))) (i := i) (by rw [List.getElem?_map, List.getElem?_eq_getElem (by omega)]; rfl)
    rw [hv'] at e1
    cases e1
    cases r1
    refine wpAny_truthy_bool ?_
    have e2 : bs.getD i true = bs[i]'(by omega) := by rw [List.getD_eq_getElem?_getD, List.getElem?_eq_getElem (by omega)]; rfl
    have hQ' : Q' (bs.getD i true) s' := hQ
    rw [e2] at hQ'
    exact hQ'
  · have e : (List.range its.toArray.size).all (fun i => bs.getD i true) = bs.all id := by
      rw [List.size_toArray, ← hl]
      clear q hq rv hl
      rw [Bool.eq_iff_iff, List.all_eq_true, List.all_eq_true]
      constructor
      · intro h1 b hb
        obtain ⟨i, hi, rfl⟩ := List.mem_iff_getElem.mp hb
        have := h1 i (List.mem_range.mpr hi)
        rw [List.getD_eq_getElem?_getD, List.getElem?_eq_getElem hi] at this
        exact this
      · intro h1 i hi
        have hi' := List.mem_range.mp hi
        rw [List.getD_eq_getElem?_getD, List.getElem?_eq_getElem hi']
        exact h1 _ (List.getElem_mem hi')
    rw [e]
    refine ⟨.bl _, H, I.kept fun b o eb => hk b o ?_ (Heap.get?_push_of_some _ eb), rfl, q⟩
    intro z
    have : b = s.heap.objs.size := by simpa using z
    rw [this] at eb
    exact absurd (Heap.lt_size eb) (Nat.lt_irrefl _)
theorem call_anyL (hc : X.calm = true) : CallR X (.builtin "any") (fun xs H Q => ∃ (p : Addr) (bs : List Bool), xs = [.ref p] ∧ SqL X.K H p (bs.map V.bl) ∧ Q (.bl (bs.any id)) H) := by
  intro pins s σ H xs us Q I r h
  obtain ⟨p, bs, rfl, hq, q⟩ := h
  obtain ⟨u, rfl, rx⟩ := vals1 r
  cases rx
  obtain ⟨its, rv, pl, hz⟩ := I.list hq
  have hl := rv.length
  rw [List.length_map] at hl
  refine call_any_walk (wpAny_pyIter_list pl.isList ?_)
  have hp : p < s.heap.objs.size := by obtain ⟨o, n, e, _⟩ := pl; exact Heap.lt_size e
  refine ⟨s.heap.objs.size, _, _, its.toArray.size, _, _, fun i => bs.getD i true, rfl, Walks.list (by show X.A.handled = none; exact I.ok.hd hc) s.heap.objs.size p (Nat.ne_of_lt hp) its.toArray,
    ⟨⟨_, Heap.get?_push_size _ rfl, rfl, rfl⟩, pl.isList.push _⟩, fun i v s' Q' E' hv hQ => ?_, fun h' tk hk => ?_⟩
  · have hv' : its[i]? = some v := by simpa using hv
    have hi : i < its.length := (List.getElem?_eq_some_iff.mp hv').1
    obtain ⟨u', e1, r1⟩ := rv.get (x := V.bl (bs[i]'(by omega))) (i := i) (by rw [List.getElem?_map, List.getElem?_eq_getElem (by omega)]; rfl)
    rw [hv'] at e1
    cases e1
    cases r1
    refine wpAny_truthy_bool ?_
    have e2 : bs.getD i true = bs[i]'(by omega) := by rw [List.getD_eq_getElem?_getD, List.getElem?_eq_getElem (by omega)]; rfl
    have hQ' : Q' (bs.getD i true) s' := hQ
    rw [e2] at hQ'
    exact hQ'
  · have e : (List.range its.toArray.size).any (fun i => bs.getD i true) = bs.any id := by
      rw [List.size_toArray, ← hl]
      clear q hq rv hl
      rw [Bool.eq_iff_iff, List.any_eq_true, List.any_eq_true]
      constructor
      · rintro ⟨i, hi, h1⟩
        have hi' := List.mem_range.mp hi
        rw [List.getD_eq_getElem?_getD, List.getElem?_eq_getElem hi'] at h1
        exact ⟨_, List.getElem_mem hi', h1⟩
      · rintro ⟨b, hb, h1⟩
        obtain ⟨i, hi, rfl⟩ := List.mem_iff_getElem.mp hb
        refine ⟨i, List.mem_range.mpr hi, ?_⟩
        rw [List.getD_eq_getElem?_getD, List.getElem?_eq_getElem hi]
        exact h1
    rw [e]
    refine ⟨.bl _, H, I.kept fun b o eb => hk b o ?_ (Heap.get?_push_of_some _ eb), rfl, q⟩
    intro z
    have : b = s.heap.objs.size := by simpa using z
    rw [this] at eb
    exact absurd (Heap.lt_size eb) (Nat.lt_irrefl _)
end

/-! ### walking a text -/
/-- the signs of x -/
def Its (x : Str) : It := ⟨fun i _ => i < x.cps.size, fun i H v H' => H' = H ∧ ∃ c, x.cps[i]? = some c ∧ v = .str ⟨#[c]⟩, fun i _ => i = x.cps.size⟩
theorem turn_walks {P : Program} {w : World} {K : PySem.W.Frag} {tx : Str} {px : Pos} {J : It} {it : Addr} {n : Nat} {Pv : Nat → Value → Prop} {Sq : Nat → Heap → Prop}
    (W : ∀ A : Around, A.handled = none → Walks P w A it [it] [it] n Pv Sq) (hob : ∀ i h, Sq i h → ∃ o, h.get? it = some o ∧ ∀ v, o.data ≠ .cell v)
    (hgo : ∀ i H, J.go i H → i < n) (hst : ∀ i H, J.stop i H → i = n) (hy : ∀ i H u, Pv i u → ∃ x, RelV x u ∧ J.yld i H x H)
    (hself : ∀ (A : Around) (i : Nat) (s : Shared) (Q : Value → Shared → Prop) (E : Value → Shared → Prop), Sq i s.heap → Q (.ref it) s → wpAny (model P w) A (pyIter (.ref it)) Q E s) : Turn P w K (.Name tx px) J [it] it Sq where
  mem := by simp
  obj := fun i h st b hb => by
    have e : b = it := by simpa using hb
    subst e
    exact hob i h st
  keep := fun i h h' st k => (W callerA rfl).frame i h h' st k
  item := by
    intro X hP hw hK hc i pins s σ H E I hf st hg
    subst hP hw hK
    obtain ⟨f0, f1, f2, f3, f4, f5⟩ := hf it (by simp)
    refine (W X.A (I.ok.hd hc)).item i s _ _ (hgo i H hg) st fun v h' tk hv st' kk => ?_
    obtain ⟨x, rx, yx⟩ := hy i H v hv
    refine ⟨v, rfl, wpAny_pure ⟨x, H, I.turned (t' := tk) (fun b o hb e => kk b o (by simpa using hb) e) f0 f1 f3 f4 f5, rx, yx, st', fun b hb => (hf b hb).1⟩⟩
  done := by
    intro X hP hw hK hc i pins s σ H E I hf st hg
    subst hP hw hK
    obtain ⟨f0, f1, f2, f3, f4, f5⟩ := hf it (by simp)
    have e : i = n := hst i H hg
    subst e
    exact (W X.A (I.ok.hd hc)).done s _ _ st fun h' tk kk => ⟨rfl, I.turned (t' := tk) (fun b o hb e => kk b o (by simpa using hb) e) f0 f1 f3 f4 f5⟩
  self := hself
theorem turn_str {P : Program} {w : World} {K : PySem.W.Frag} {tx : Str} {px : Pos} (x : Str) (t : Tok) (it : Addr) : (x.cps.all (· < 128) = true → Turn P w K (.Name tx px) (Its x) [it] it (fun i h => h.IsStrIter it "str_ascii_iterator" x t i)) ∧
    Turn P w K (.Name tx px) (Its x) [it] it (fun i h => h.IsStrIter it "str_iterator" x t i) := by
  have hob : ∀ (ty : String) (i : Nat) (h : Heap), h.IsStrIter it ty x t i → ∃ o, h.get? it = some o ∧ ∀ v, o.data ≠ .cell v := fun ty i h st => by
    obtain ⟨o, e, c, d⟩ := st
    exact ⟨o, e, fun v z => by rw [d] at z; cases z⟩
  have hy : ∀ i H u, SignAt x i u → ∃ v, RelV v u ∧ (Its x).yld i H v H := fun i H u ⟨c, tk, e, q⟩ => ⟨.str ⟨#[c]⟩, ⟨tk, q⟩, rfl, c, e, rfl⟩
  exact ⟨fun _ => turn_walks (fun A hA => Walks.strAscii hA it x t) (hob _) (fun i H h => h) (fun i H h => h) hy fun A i s Q E st q => wpAny_pyIter_striter_ascii st q,
    turn_walks (fun A hA => Walks.strWide hA it x t) (hob _) (fun i H h => h) (fun i H h => h) hy fun A i s Q E st q => wpAny_pyIter_striter_wide st q⟩
def iStr (tl : TE) : TI := fun σ H R => tl σ H fun x H1 => ∃ z, x = .str z ∧ R (Its z) H1
theorem pi_str {X : Cx} {l : Expr} {tl : TE} {tx : Str} {px : Pos} (hl : PE X l tl) : PI X (.Name tx px) l (iStr tl) := by
  intro pins s σ H R I h
  refine thn (hl pins s σ H _ I h) fun v s1 ⟨x, H1, I1, r1, q1⟩ => ?_
  obtain ⟨z, rfl, q⟩ := q1
  obtain ⟨t, rfl⟩ := r1
  have fp : ∀ b ∈ [s1.heap.objs.size], FpOk X pins H1 b := fun b hb => by
    have e : b = s1.heap.objs.size := by simpa using hb
    subst e
    exact I1.fpOk (Nat.le_refl _) (I1.hok.fresh (Nat.le_refl _))
  cases ha : z.cps.all (· < 128)
  · exact wpAny_pyIter_wide ha ⟨s1.heap.objs.size, [s1.heap.objs.size], _, _, H1, rfl, I1.kept (t' := s1.toks) fun b o e => Heap.get?_push_of_some _ e, (turn_str z t _).2, ⟨_, Heap.get?_push_size _ rfl, rfl, rfl⟩, fp, q⟩
  · exact wpAny_pyIter_ascii ha ⟨s1.heap.objs.size, [s1.heap.objs.size], _, _, H1, rfl, I1.kept (t' := s1.toks) fun b o e => Heap.get?_push_of_some _ e, (turn_str z t _).1 ha, ⟨_, Heap.get?_push_size _ rfl, rfl, rfl⟩, fp, q⟩

/-! ### the forms one uses: a comprehension that leaves the heap as it is, over what is known -/
/-- J yields the values xs one by one, whatever the heap is as long as P holds of it -/
structure Yields (J : It) (xs : List V) (P : Hp → Prop) : Prop where
  go : ∀ i H, P H → i < xs.length → J.go i H
  stop : ∀ H, P H → J.stop xs.length H
  yld : ∀ i H x H', P H → i < xs.length → J.yld i H x H' → H' = H ∧ xs[i]? = some x
theorem yields_list {K : PySem.W.Frag} {a : Addr} {xs : List V} : Yields (Itl K a) xs (fun H => SqL K H a xs) where
  go := fun i H h hi => ⟨xs, xs[i], h, by simp [hi]⟩
  stop := fun H h => ⟨xs, h, Nat.le_refl _⟩
  yld := fun i H x H' h _ y => ⟨y.1, y.2 xs h⟩
theorem yields_tup {K : PySem.W.Frag} {a : Addr} {xs : List V} : Yields (Itt K a) xs (fun H => SqT K H a xs) where
  go := fun i H h hi => ⟨xs, xs[i], h, by simp [hi]⟩
  stop := fun H h => ⟨xs, h, Nat.le_refl _⟩
  yld := fun i H x H' h _ y => ⟨y.1, y.2 xs h⟩
theorem yields_range {lo : Int} {n : Nat} {P : Hp → Prop} : Yields (Itr lo n) ((List.range n).map fun i => V.int (lo + (i : Nat))) P where
  go := fun i H _ hi => (by simpa using hi : i < n)
  stop := fun H _ => by show n ≤ _; simp
  yld := fun i H x H' _ hi y => by
    obtain ⟨e1, e2⟩ := y
    subst e2
    have hi' : i < n := by simpa using hi
    exact ⟨e1, by rw [List.getElem?_map, List.getElem?_range hi']; rfl⟩
theorem yields_str {x : Str} {P : Hp → Prop} : Yields (Its x) (x.cps.toList.map fun c => V.str ⟨#[c]⟩) P where
  go := fun i H _ hi => (by simpa using hi : i < x.cps.size)
  stop := fun H _ => by show _ = x.cps.size; simp
  yld := fun i H v H' _ _ y => by
    obtain ⟨e1, c, e2, e3⟩ := y
    subst e3
    exact ⟨e1, by rw [List.getElem?_map, Array.getElem?_toList, e2]; rfl⟩
/-- a comprehension by an invariant: the turn, the items so far, the block's names, the heap -/
theorem comp_inv {J : It} {xs : List V} {P : Hp → Prop} {D : Addr} {g : TG} {tc : TT} {te : TE} {Q : Hp → Prop} {σ : L2.St} {H : Hp} (Y : Yields J xs P) (Pv : Nat → List V → L2.St → Hp → Prop) (h0 : Pv 0 [] σ H)
    (hD : ∀ i ys σ H, Pv i ys σ H → P H ∧ H D = some (.lst ys) ∧ ys.length ≤ i) (hz : xs.length < sizeLine)
    (step : ∀ i x ys σ H, xs[i]? = some x → Pv i ys σ H → g x σ H fun σ2 H2 => tc σ2 H2 fun b H3 => if b = true then te σ2 H3 fun y H4 => H4 D = some (.lst ys) ∧ Pv (i + 1) (ys ++ [y]) σ2 (upd H4 D (.lst (ys ++ [y]))) else Pv (i + 1) ys σ2 H3)
    (hq : ∀ ys σ H, Pv xs.length ys σ H → Q H) : ∃ W : Nat → Nat → List V → L2.St → Hp → Prop, (∃ m, W 0 m [] σ H) ∧ CompW D J g tc te Q W := by
  refine ⟨fun i m ys σ H => m = xs.length - i ∧ i ≤ xs.length ∧ Pv i ys σ H, ⟨xs.length, by simp, Nat.zero_le _, h0⟩, ?_⟩
  rintro i m ys σ H ⟨rfl, hi, p⟩
  obtain ⟨h1, h2, h3⟩ := hD i ys σ H p
  refine ⟨h2, by omega, ?_⟩
  by_cases hlt : i < xs.length
  · refine .inr ⟨Y.go i H h1 hlt, fun y σ2 H4 => H4 D = some (.lst ys) ∧ Pv (i + 1) (ys ++ [y]) σ2 (upd H4 D (.lst (ys ++ [y]))), fun σ2 H3 => Pv (i + 1) ys σ2 H3, fun y σ2 H4 q => ⟨q.1, xs.length - (i + 1), by omega, rfl, hlt, q.2⟩,
      fun σ2 H3 q => ⟨xs.length - (i + 1), by omega, rfl, hlt, q⟩, fun x H1 y => ?_⟩
    obtain ⟨e, y'⟩ := Y.yld i H x H1 h1 hlt y
    subst e
    exact step i x ys σ _ y' p
  · have e : i = xs.length := by omega
    subst e
    exact .inl ⟨Y.stop H h1, hq ys σ H p⟩
/-- .. whose turns leave the heap as it is: the items are those that f gives -/
theorem comp_map {J : It} {xs : List V} {P : Hp → Prop} {D : Addr} {g : TG} {tc : TT} {te : TE} {Q : Hp → Prop} {σ : L2.St} {H : Hp} (Y : Yields J xs P) (S : L2.St → Prop) (f : V → Option V) (h0 : S σ) (hP : ∀ ys, P (upd H D (.lst ys))) (hz : xs.length < sizeLine)
    (step : ∀ (x : V) (ys : List V) (σ : L2.St) (R1 : L2.St → V → Hp → Prop) (R0 : L2.St → Hp → Prop), x ∈ xs → S σ → (∀ σ2 y, S σ2 → f x = some y → R1 σ2 y (upd H D (.lst ys))) → (∀ σ2, S σ2 → f x = none → R0 σ2 (upd H D (.lst ys))) →
      g x σ (upd H D (.lst ys)) fun σ2 H2 => tc σ2 H2 fun b H3 => if b = true then te σ2 H3 fun y H4 => R1 σ2 y H4 else R0 σ2 H3)
    (hq : Q (upd H D (.lst (xs.filterMap f)))) : ∃ W : Nat → Nat → List V → L2.St → Hp → Prop, (∃ m, W 0 m [] σ (upd H D (.lst []))) ∧ CompW D J g tc te Q W := by
  refine comp_inv Y (fun i ys σ H' => H' = upd H D (.lst ys) ∧ ys = (xs.take i).filterMap f ∧ S σ) ⟨rfl, by simp, h0⟩ (fun i ys σ H' ⟨e, e2, _⟩ => ?_) hz (fun i x ys σ H' hx ⟨e, e2, hS⟩ => ?_) fun ys σ H' ⟨e, e2, _⟩ => ?_
  · subst e
    refine ⟨hP ys, upd_same, ?_⟩
    rw [e2]
    exact Nat.le_trans (List.length_filterMap_le _ _) (by rw [List.length_take]; omega)
  · subst e
    have hi : i < xs.length := (List.getElem?_eq_some_iff.mp hx).1
    have et : xs.take (i + 1) = xs.take i ++ [x] := by rw [List.take_succ, hx]; rfl
    refine step x ys σ _ _ (List.mem_of_getElem? hx) hS (fun σ2 y h2 hf => ⟨upd_same, by rw [upd_upd], ?_, h2⟩) fun σ2 h2 hf => ⟨rfl, ?_, h2⟩
    · rw [et, List.filterMap_append, ← e2]; simp [hf]
    · rw [et, List.filterMap_append, ← e2]; simp [hf]
  · subst e
    rw [e2, List.take_length]
    exact hq
end L3
namespace L3
open PySem PySem.Spec PyProof.Rows L2
/-- a comprehension whose turns let the heap grow: the items are those that f gives -/
theorem comp_grow {J : It} {xs : List V} {P : Hp → Prop} {D : Addr} {g : TG} {tc : TT} {te : TE} {Q : Hp → Prop} {σ : L2.St} {H : Hp} (hD : H D = none) (Y : Yields J xs P) (S : L2.St → Prop) (f : V → Option V) (h0 : S σ) (hP : ∀ H', Same H H' → P H') (hz : xs.length < sizeLine)
    (step : ∀ (x : V) (ys : List V) (σ : L2.St) (H' : Hp) (R1 : L2.St → V → Hp → Prop) (R0 : L2.St → Hp → Prop), x ∈ xs → S σ → Same H H' → (∀ σ2 y H4, S σ2 → f x = some y → Same H' H4 → R1 σ2 y H4) → (∀ σ2 H3, S σ2 → f x = none → Same H' H3 → R0 σ2 H3) →
      g x σ H' fun σ2 H2 => tc σ2 H2 fun b H3 => if b = true then te σ2 H3 fun y H4 => R1 σ2 y H4 else R0 σ2 H3)
    (hq : ∀ H', Same H H' → H' D = some (.lst (xs.filterMap f)) → Q H') : ∃ W : Nat → Nat → List V → L2.St → Hp → Prop, (∃ m, W 0 m [] σ (upd H D (.lst []))) ∧ CompW D J g tc te Q W := by
  have up : ∀ {H' : Hp} {o : HO}, Same H H' → Same H (upd H' D o) := fun {H' o} s b ob e => by
    rw [upd_ne (ne_of_none e hD)]
    exact s b ob e
  refine comp_inv Y (fun i ys σ H' => Same H H' ∧ H' D = some (.lst ys) ∧ ys = (xs.take i).filterMap f ∧ S σ) ⟨up (Same.refl H), upd_same, by simp, h0⟩ (fun i ys σ H' ⟨s, e, e2, _⟩ => ⟨hP H' s, e, ?_⟩) hz (fun i x ys σ H' hx ⟨s, e, e2, hS⟩ => ?_) fun ys σ H' ⟨s, e, e2, _⟩ => ?_
  · rw [e2]
    exact Nat.le_trans (List.length_filterMap_le _ _) (by rw [List.length_take]; omega)
  · have hi : i < xs.length := (List.getElem?_eq_some_iff.mp hx).1
    have et : xs.take (i + 1) = xs.take i ++ [x] := by rw [List.take_succ, hx]; rfl
    refine step x ys σ H' _ _ (List.mem_of_getElem? hx) hS s (fun σ2 y H4 h2 hf s4 => ⟨s4 _ _ e, up (s.trans s4), upd_same, ?_, h2⟩) fun σ2 H3 h2 hf s3 => ⟨s.trans s3, s3 _ _ e, ?_, h2⟩
    · rw [et, List.filterMap_append, ← e2]; simp [hf]
    · rw [et, List.filterMap_append, ← e2]; simp [hf]
  · refine hq H' s ?_
    rw [e, e2, List.take_length]
end L3

/-! ### texts -/
namespace L3
open PySem PySem.Spec PyProof.Rows L2
section
variable {X : Cx}

theorem part_of {v : Value} {o : Option Int} (h : IsPart v o) : ∃ l : Option (Int × Tok), v = partValue l ∧ l.map (·.1) = o := by
  cases h with
  | none => exact ⟨none, rfl, rfl⟩
  | int i t => exact ⟨some (i, t), rfl, rfl⟩
/-- x[lo:hi] of a text -/
def rSlS : V → Option Int → Option Int → Hp → VK → Prop := fun x lo hi H Q => ∃ z, x = .str z ∧ z.length ≤ sizeLine ∧ Q (.str (PySem.Txt.slice z lo hi)) H
theorem sl_str : SlR X rSlS := by
  intro pins s σ H x v vl vu lo hi sl Q I rx hs pl pu h
  obtain ⟨z, rfl, hz, q⟩ := h
  obtain ⟨t, rfl⟩ := rx
  obtain ⟨l, rfl, rfl⟩ := part_of pl
  obtain ⟨u, rfl, rfl⟩ := part_of pu
  refine ⟨"str", _, F.slot_str_getitem.lookup, typeIs_str _ _ _, ?_⟩
  refine wpAny_getItem_str_slice (l := l) (u := u) (st := none) hs rfl ?_
  exact post_val_or_str ⟨Nat.le_trans (PySem.Txt.slice_le z _ _) hz, fun t' k => ⟨.str _, H, I.tok _, ⟨_, rfl⟩, q⟩⟩

/-- x * n of a text -/
theorem op_mul_str : OpR X (binaryOp .Mult) (fun x y H Q => ∃ z n, x = .str z ∧ y = .int n ∧ n < 1073741824 ∧ -1073741824 < n ∧ z.length * n.toNat ≤ 1048576 ∧ Q (.str (PySem.Txt.mul z n)) H) := by
  intro pins s σ H x y v u Q I rx ry h
  obtain ⟨z, n, rfl, rfl, h1, h2, h3, q⟩ := h
  obtain ⟨t, rfl⟩ := rx
  obtain ⟨t', rfl⟩ := ry
  refine SB.mul ⟨?_, fun hn _ hc => ?_, fun _ _ => ?_⟩ fun t'' k => ⟨.str _, H, I.tok _, ⟨_, rfl⟩, q⟩
  · rw [decide_eq_false (by omega), decide_eq_false (by omega)]; rfl
  · have hn' : 0 < n := by omega
    have e : (z.length : Int) * n ≤ 1048576 := by
      have : ((z.length * n.toNat : Nat) : Int) ≤ 1048576 := by omega
      rw [Int.natCast_mul, Int.toNat_of_nonneg (by omega)] at this
      exact this
    have e2 : (2 ^ 63 - 1) / n < z.length := hc
    have e3 := Int.lt_mul_of_ediv_lt hn' e2
    omega
  · unfold Builtin.Str.tooLong
    have hsz : sizeLine = 16777216 := sizeLine_eq
    exact decide_eq_false (by omega)

/-- x.split(y) -/
def rSplit : V → List V → Hp → VK → Prop := fun x xs H Q => ∃ z y, x = .str z ∧ xs = [.str y] ∧ 0 < y.length ∧ z.length ≤ 1048576 ∧ ∀ p, H p = none → Q (.ref p) (upd H p (.lst ((PySem.Txt.split z y).map V.str)))
theorem vals_strs : ∀ (l : List (Str × Tok)), Vals ((l.map (·.1)).map V.str) (strValues l)
  | [] => .nil
  | (x, t) :: r => .cons ⟨t, rfl⟩ (vals_strs r)
end
end L3
namespace L3
open PySem PySem.Spec PyProof.Rows L2
section
variable {X : Cx}
theorem split_len (z y : Str) (hy : 0 < y.length) (hz : z.length ≤ 1048576) : (PySem.Txt.split z y).length ≤ sizeLine := by
  have := PyProof.Rows.split_weight z y hy
  rw [sizeLine_eq]
  omega
theorem mt_split : MtR X "str.split" rSplit := by
  intro pins s σ H x xs v us Q I rx rv h
  obtain ⟨z, y, rfl, rfl, hy, hz, q⟩ := h
  obtain ⟨t, rfl⟩ := rx
  obtain ⟨u', rfl, u, rfl⟩ := vals1 rv
  have hl := split_len z y hy hz
  have fin : ∀ (l : List (Str × Tok)) (k : Nat), l.map (·.1) = PySem.Txt.split z y → EP X pins σ Q (.ref s.heap.objs.size) { s with heap := s.heap.push { cls := .type "list", data := .seq (strValues l).toArray }, toks := k } := fun l k e =>
    ⟨.ref _, _, I.lnew (its := strValues l) (t' := k) (by rw [← e]; exact vals_strs l) (by rw [List.length_map]; exact hl), rfl, q _ I.fresh⟩
  have hy0 : (y.length == 0) = false := by
    rw [beq_eq_false_iff_ne]
    omega
  have hzl : z.length ≤ sizeLine := by rw [sizeLine_eq]; omega
  cases h1 : (decide (z.length < y.length) || decide (Builtin.Str.strKind z < Builtin.Str.strKind y))
  · cases hf : (Builtin.Str.occurrences z y 0 z.length (z.length + 1)).isEmpty
    · have e : PySem.Txt.split z y = Builtin.Str.partsBetween z (Builtin.Str.occurrences z y 0 z.length (z.length + 1)) y.length := (if_neg (ne_true_of_eq_false h1)).trans (if_neg (ne_true_of_eq_false hf))
      refine call_meets F.slot_str_split (typeIs_str _ _ _) F.entry_str_split (F.args_str_split_2 _ _) (meets_str_split_sep z y t u h1 hy0 hf hzl (by rw [← e]; exact hl)) ?_
      show wants _ _ _ { s with toks := _, heap := s.heap.push { cls := .type "list", data := .seq (strsFrom s.toks (Builtin.Str.partsBetween z (Builtin.Str.occurrences z y 0 z.length (z.length + 1)) y.length)).toArray } }
      rw [strsFrom_eq]
      exact fin _ _ ((numbered_texts _ _).trans e.symm)
    · exact call_meets F.slot_str_split (typeIs_str _ _ _) F.entry_str_split (F.args_str_split_2 _ _) (meets_str_split_not_found z y t u h1 hy0 hf)
        (fin [(z, t)] s.toks ((if_neg (ne_true_of_eq_false h1)).trans (if_pos hf)).symm)
  · exact call_meets F.slot_str_split (typeIs_str _ _ _) F.entry_str_split (F.args_str_split_2 _ _) (meets_str_split_cannot_occur z y t u h1) (fin [(z, t)] s.toks (if_pos h1).symm)

theorem strs_vals : ∀ (xs : List Str) {its : List Value}, Vals (xs.map V.str) its → ∃ l : List (Str × Tok), its = strValues l ∧ l.map (·.1) = xs
  | [], _, r => by
    cases r
    exact ⟨[], rfl, rfl⟩
  | x :: xs, _, r => by
    cases r with
    | cons r1 r2 =>
      obtain ⟨t, rfl⟩ := r1
      obtain ⟨l, rfl, e⟩ := strs_vals xs r2
      exact ⟨(x, t) :: l, rfl, by rw [List.map_cons, e]⟩
/-- y.join(xs) -/
def rJoin (K : PySem.W.Frag) : V → List V → Hp → VK → Prop := fun x vs H Q => ∃ y p xs, x = .str y ∧ vs = [.ref p] ∧ SqL K H p (xs.map V.str) ∧ JoinOk y xs = true ∧ Q (.str (PySem.Txt.join y xs)) H
theorem mt_join : MtR X "str.join" (rJoin X.K) := by
  intro pins s σ H x vs v us Q I rx rv h
  obtain ⟨y, p, xs, rfl, rfl, hq, hok, q⟩ := h
  obtain ⟨t, rfl⟩ := rx
  obtain ⟨u', rfl, ru⟩ := vals1 rv
  cases ru
  obtain ⟨its, r, pl, hz⟩ := I.list hq
  obtain ⟨l, rfl, e⟩ := strs_vals xs r
  exact SC.join pl.isList e hok fun t' k => ⟨.str _, H, I.tok _, ⟨_, rfl⟩, q⟩

/-! ### f-strings -/
abbrev TF := L2.St → Hp → Str → (Str → Hp → Prop) → Prop
def PF (X : Cx) (es : List Expr) (t : TF) : Prop :=
  ∀ (pins : List (Addr × Obj)) (s : Shared) (σ : L2.St) (H : Hp) (acc : Str) (Q : Str → Hp → Prop), Inv X pins σ H s → t σ H acc Q → wpAny (model X.prog X.w) X.A (joinParts acc (evalEach es X.env)) (EP X pins σ fun v H' => ∃ z, v = .str z ∧ Q z H') X.xe s
def tfNil : TF := fun _ H acc Q => acc.length ≤ sizeLine ∧ Q acc H
def tfCons (te : TE) (t : TF) : TF := fun σ H acc Q => te σ H fun x H1 => ∃ y, x = .str y ∧ (acc ++ y).length ≤ sizeLine ∧ t σ H1 (acc ++ y) Q
theorem pf_nil : PF X [] tfNil := fun _ _ _ H acc _ I h => joinParts_nil ⟨.str acc, H, I.tok _, ⟨_, rfl⟩, acc, rfl, h.2⟩ h.1
theorem pf_cons {e : Expr} {es : List Expr} {te : TE} {t : TF} (he : PE X e te) (hr : PF X es t) : PF X (e :: es) (tfCons te t) := by
  intro pins s σ H acc Q I h
  refine joinParts_cons (thn (he pins s σ H _ I h) fun v s1 ⟨x, H1, I1, r1, y, ex, hz, q1⟩ => ?_)
  subst ex
  obtain ⟨tk, rfl⟩ := r1
  exact ⟨hz, hr pins s1 σ H1 (acc ++ y) Q I1 q1⟩
def tFstr (t : TF) : TE := fun σ H Q => t σ H Str.empty fun z H' => Q (.str z) H'
theorem pe_fstr {e e2 : Expr} {es : List Expr} {t : TF} {pos : Pos} (h : PF X (e :: e2 :: es) t) : PE X (.JoinedStr (e :: e2 :: es) pos) (tFstr t) := by
  intro pins s σ H Q I hq
  refine JoinedStr_many (thn (h pins s σ H Str.empty _ I hq) fun v s1 ⟨x, H1, I1, r1, z, ez, q⟩ => ?_)
  subst ez
  exact ⟨.str z, H1, I1, r1, q⟩
def tFmt (te : TE) : TE := fun σ H Q => te σ H fun x H1 => match x with
  | .str z => z.length ≤ sizeLine ∧ Q (.str z) H1
  | .int i => i.natAbs.log2 < 1920 ∧ Q (.str (toString i)) H1
  | _ => False
theorem pe_fmt {e : Expr} {te : TE} {pos : Pos} (he : PE X e te) : PE X (.FormattedValue e (-1) none pos) (tFmt te) := by
  intro pins s σ H Q I h
  refine FormattedValue_plain (thn (he pins s σ H _ I h) fun v s1 ⟨x, H1, I1, r1, q1⟩ => ?_)
  cases x with
  | str z =>
    obtain ⟨t, rfl⟩ := r1
    exact formatField_str (fun t' tk => ⟨.str z, H1, I1.tok _, ⟨_, rfl⟩, q1.2⟩) q1.1
  | int i =>
    obtain ⟨t, rfl⟩ := r1
    exact formatField_int_small q1.1 ⟨.str _, H1, I1.tok _, ⟨_, rfl⟩, q1.2⟩
  | _ => exact (show False from q1).elim

/-! ### int of a text -/
theorem call_intT : CallR X (.type "int") (fun xs H Q => ∃ z n, xs = [.str z] ∧ PySem.intText? z = some n ∧ z.length ≤ 640 ∧ Q (.int n) H) := by
  intro pins s σ H xs us Q I r h
  obtain ⟨z, n, rfl, hn, hl, q⟩ := h
  obtain ⟨u, rfl, t, rfl⟩ := vals1 r
  exact PySem.W.KIN.call_text hn hl ⟨.int n, H, I.tok _, ⟨_, rfl⟩, q⟩
end
end L3

/-! ### small facts -/
namespace L3
open PySem PySem.Spec PyProof.Rows L2
section
variable (K : PySem.W.Frag)
theorem kit_str_str : PySem.W.kitOne K (.type "str") (.type "str") = some true := by kernel_rfl
theorem kit_non_str : PySem.W.kitOne K (.type "NoneType") (.type "str") = some false := by kernel_rfl
theorem kit_bl_str : PySem.W.kitOne K (.type "bool") (.type "str") = some false := by kernel_rfl
theorem kit_int_str : PySem.W.kitOne K (.type "int") (.type "str") = some false := by kernel_rfl
theorem kit_list_str : PySem.W.kitOne K (.type "list") (.type "str") = some false := by kernel_rfl
theorem kit_tuple_str : PySem.W.kitOne K (.type "tuple") (.type "str") = some false := by kernel_rfl
theorem kit_int_int : PySem.W.kitOne K (.type "int") (.type "int") = some true := by kernel_rfl
theorem kit_int_bool : PySem.W.kitOne K (.type "int") (.type "bool") = some false := by kernel_rfl
theorem kit_list_list : PySem.W.kitOne K (.type "list") (.type "list") = some true := by kernel_rfl
theorem kit_tuple_tuple : PySem.W.kitOne K (.type "tuple") (.type "tuple") = some true := by kernel_rfl
end
/-- one sign in a text -/
theorem occ_one (g : Str) (c : Nat) : (!(Builtin.Str.occurrences g ⟨#[c]⟩ 0 g.length 1).isEmpty) = g.cps.toList.contains c := by
  have key : ∀ i, StrLaws.At g ⟨#[c]⟩ g.length i ↔ g.cps.toList[i]? = some c := fun i => by
    unfold StrLaws.At
    rw [StrLaws.subAt_eq]
    have hl : g.cps.toList.length = g.length := by simp [Str.length]
    have h1 : (⟨#[c]⟩ : Str).length = 1 := rfl
    have h2 : (⟨#[c]⟩ : Str).cps.toList = [c] := rfl
    rw [h1, h2]
    constructor
    · rintro ⟨h3, h4⟩
      have hi : i < g.cps.toList.length := by omega
      rw [List.drop_eq_getElem_cons hi] at h4
      simp only [List.take_succ_cons, List.take_zero] at h4
      have h5 := eq_of_beq h4
      rw [List.getElem?_eq_getElem hi]
      exact congrArg some (List.cons.inj h5).1
    · intro h3
      obtain ⟨hi, h4⟩ := List.getElem?_eq_some_iff.mp h3
      refine ⟨by omega, ?_⟩
      rw [List.drop_eq_getElem_cons hi]
      simp [h4]
  rcases StrLaws.occ_head g ⟨#[c]⟩ 1 (Nat.le_refl _) with ⟨e, h⟩ | ⟨i, r, e, h, _⟩
  · rw [e]
    have : g.cps.toList.contains c = false := by
      rw [Bool.eq_false_iff]
      intro hc
      obtain ⟨i, hi, e2⟩ := List.mem_iff_getElem.mp (List.contains_iff_mem.mp hc)
      exact h i ((key i).mpr (by rw [List.getElem?_eq_getElem hi, e2]))
    rw [this]
    rfl
  · rw [e]
    have : g.cps.toList.contains c = true := List.contains_iff_mem.mpr (List.mem_of_getElem? ((key i).mp h))
    rw [this]
    rfl
theorem Same.upd {H H' : Hp} {a : Addr} {o : HO} (s : Same H H') (h : H a = none) : Same H (L2.upd H' a o) := fun b ob e => by
  rw [upd_ne (ne_of_none e h)]
  exact s b ob e
theorem Same.upd0 {H : Hp} {a : Addr} {o : HO} (h : H a = none) : Same H (L2.upd H a o) := Same.upd (Same.refl H) h
/-- a text's sign at a place that lies in it -/
theorem at_sign {z : Str} {i : Int} (h0 : 0 ≤ i) (h1 : i < z.length) : ∃ c, atI z.cps.toList i = some c := by
  have hl : z.cps.toList.length = z.length := by simp [Str.length]
  have hk : i.toNat < z.cps.toList.length := by omega
  have e : (i.toNat : Int) = i := Int.toNat_of_nonneg h0
  have q := atI_nat (xs := z.cps.toList) (j := i.toNat) (List.getElem?_eq_getElem hk)
  rw [e] at q
  exact ⟨_, q⟩
theorem vals_of : ∀ {its : List Value} {xs : List V}, its.map absV = xs.map some → Vals xs its
  | [], [], _ => .nil
  | u :: us, x :: xs, h => by
    rw [List.map_cons, List.map_cons] at h
    injection h with h1 h2
    refine .cons ?_ (vals_of h2)
    cases u <;> first
      | (injection h1 with h1; subst h1; first | rfl | exact ⟨_, rfl⟩)
      | cases h1
end L3

/-! ### names, by what the kernel reckons of the scope -/
namespace L3
open PySem PySem.Spec PyProof.Rows L2
def varB (sc : Scope) (M : List Str) (i : Nat) (x : Str) : Bool :=
  (M[i]? == some x) && (sc.names.lookup x == some .local || sc.names.lookup x == some .cell || sc.names.lookup x == some .free) && !(x == ("__debug__" : Str)) && !(x == ("__classdict__" : Str))
def setB (sc : Scope) (M : List Str) (i : Nat) (x : Str) : Bool := (M[i]? == some x) && decide M.Nodup && sc.names.lookup x == some .local
def setCB (sc : Scope) (M : List Str) (i : Nat) (x : Str) : Bool := (M[i]? == some x) && decide M.Nodup && sc.names.lookup x == some .cell
def glB (sc : Scope) (x : Str) : Bool := (sc.names.lookup x == some .globalImplicit) && !(x == ("__debug__" : Str)) && !(x == ("__name__" : Str))
/-- a block's scope, by that of the frame around it -/
def relabelS (scope sc : Scope) : Scope :=
  { scope with names := scope.names.map fun (n, k) => if (k == .free && sc.kind == .function && sc.names.lookup n == some .cell) then (n, .cell) else (n, k) }
section
variable {X : Cx} {i : Nat} {x : Str} {pos : Pos} {sc : Scope} {M : List Str}
theorem pvN (h1 : X.env.scope = sc) (h2 : X.N = M) (hb : varB sc M i x = true) : PE X (.Name x pos) (tVar i) := by
  unfold varB at hb
  simp only [Bool.and_eq_true, Bool.or_eq_true, Bool.not_eq_true', beq_iff_eq] at hb
  obtain ⟨⟨⟨a1, a2⟩, a3⟩, a4⟩ := hb
  refine pe_var (by rw [h2]; exact a1) ?_ a3 a4
  unfold Vis
  rw [h1]
  rcases a2 with (a2 | a2) | a2
  · exact .inl a2
  · exact .inr (.inl a2)
  · exact .inr (.inr a2)
theorem pgN (h1 : X.env.scope = sc) (h2 : X.N = M) (hb : setB sc M i x = true) : PG X (.Name x pos) (gName i) := by
  unfold setB at hb
  simp only [Bool.and_eq_true, decide_eq_true_eq, beq_iff_eq] at hb
  obtain ⟨⟨a1, a2⟩, a3⟩ := hb
  have l : X.env.scope.names.lookup x = some .local := by rw [h1]; exact a3
  exact pg_name (by rw [h2]; exact a2) (by rw [h2]; exact a1) (.inl l) (.inr l)
theorem pgC (h1 : X.env.scope = sc) (h2 : X.N = M) (h3 : X.fn x = true) (hb : setCB sc M i x = true) : PG X (.Name x pos) (gName i) := by
  unfold setCB at hb
  simp only [Bool.and_eq_true, decide_eq_true_eq, beq_iff_eq] at hb
  obtain ⟨⟨a1, a2⟩, a3⟩ := hb
  have l : X.env.scope.names.lookup x = some .cell := by rw [h1]; exact a3
  exact pg_name (by rw [h2]; exact a2) (by rw [h2]; exact a1) (.inr l) (.inl h3)
variable {e : Expr} {te : TE} {pos' : Pos}
theorem psN (h1 : X.env.scope = sc) (h2 : X.N = M) (hb : setB sc M i x = true) (he : PE X e te) (hs : swapsWith e (some (.Name x pos')) pos.line X.env = pure false := by rfl) : PS X (.Assign [.Name x pos'] e pos) (tAsg te (gName i)) := by
  unfold setB at hb
  simp only [Bool.and_eq_true, decide_eq_true_eq, beq_iff_eq] at hb
  obtain ⟨⟨a1, a2⟩, a3⟩ := hb
  have l : X.env.scope.names.lookup x = some .local := by rw [h1]; exact a3
  exact ps_set (by rw [h2]; exact a2) (by rw [h2]; exact a1) (.inl l) he hs (.inr l)
theorem psC (h1 : X.env.scope = sc) (h2 : X.N = M) (h3 : X.fn x = true) (hb : setCB sc M i x = true) (he : PE X e te) (hs : swapsWith e (some (.Name x pos')) pos.line X.env = pure false := by rfl) : PS X (.Assign [.Name x pos'] e pos) (tAsg te (gName i)) := by
  unfold setCB at hb
  simp only [Bool.and_eq_true, decide_eq_true_eq, beq_iff_eq] at hb
  obtain ⟨⟨a1, a2⟩, a3⟩ := hb
  have l : X.env.scope.names.lookup x = some .cell := by rw [h1]; exact a3
  exact ps_set (by rw [h2]; exact a2) (by rw [h2]; exact a1) (.inr l) he hs (.inl h3)
theorem glN (h1 : X.env.scope = sc) (hb : glB sc x = true) : Gl X x ∧ (x == ("__debug__" : Str)) = false ∧ x ≠ "__name__" := by
  unfold glB at hb
  simp only [Bool.and_eq_true, Bool.not_eq_true', beq_iff_eq] at hb
  obtain ⟨⟨a1, a2⟩, a3⟩ := hb
  refine ⟨?_, a2, fun z => ?_⟩
  · show X.env.scope.names.lookup x = _
    rw [h1]
    exact a1
  · rw [beq_eq_false_iff_ne] at a3
    exact a3 z
end
section
variable {X : Cx} {CX : CXT} {k : Nat} {f : Addr} {fd : FuncData} {ps : List Str} {sp : Sp} {dvs : List V} {ds : List Value} {E : XK} {x : Str} {p pos : Pos} {e : Expr} {es : List Expr} {t : TA} {sc : Scope} {r : List V → Hp → VK → Prop} {id T : String}
theorem pe_callN (F : FnOk X.prog X.w X.K X.mg X.base CX k f fd ps sp) (hr : Room k X.A) (h1 : X.env.scope = sc) (hg : glB sc x = true) (hm : X.mg x = some (.ref f)) (hk : PySem.W.keepIn X.K (.ref f) = true) (hb : Binds X.K fd ps ds) (hd : Vals dvs ds) (hx : Passes CX X E)
    (ha : PA X (e :: es) t) (he : starEach (e :: es) X.env = (false, eval e X.env) :: starEach es X.env := by rfl) (hpl : (backTo pos (starEach es X.env)).any (·.1) = false := by rfl) : PE X (.Call (.Name x p) (e :: es) [] pos) (tCall sp dvs E t) :=
  pe_call F hr (glN h1 hg).1 hm hk hb hd hx ha (glN h1 hg).2.1 he hpl
theorem pe_callN0 (F : FnOk X.prog X.w X.K X.mg X.base CX k f fd ps sp) (hr : Room k X.A) (h1 : X.env.scope = sc) (hg : glB sc x = true) (hm : X.mg x = some (.ref f)) (hk : PySem.W.keepIn X.K (.ref f) = true) (hb : Binds X.K fd ps ds) (hd : Vals dvs ds) (hx : Passes CX X E) :
    PE X (.Call (.Name x p) [] [] pos) (tCall sp dvs E tNil) := pe_call0 F hr (glN h1 hg).1 hm hk hb hd hx (glN h1 hg).2.1
theorem pe_callBN (hc : CallR X (.builtin id) r) (h1 : X.env.scope = sc) (hg : glB sc x = true) (hm : X.mg x = none) (hv : bootBuiltins x = some (.builtin id)) (ha : PA X (e :: es) t)
    (he : starEach (e :: es) X.env = (false, eval e X.env) :: starEach es X.env := by rfl) (hpl : (backTo pos (starEach es X.env)).any (·.1) = false := by rfl) : PE X (.Call (.Name x p) (e :: es) [] pos) (tCB r t) :=
  pe_callB hc (glN h1 hg).1 hm hv ha (glN h1 hg).2.2 (glN h1 hg).2.1 he hpl
theorem pe_callTyN (hc : CallR X (.type T) r) (h1 : X.env.scope = sc) (hg : glB sc x = true) (hm : X.mg x = none) (hv : bootBuiltins x = some (.type T)) (ha : PA X (e :: es) t)
    (he : starEach (e :: es) X.env = (false, eval e X.env) :: starEach es X.env := by rfl) (hpl : (backTo pos (starEach es X.env)).any (·.1) = false := by rfl) : PE X (.Call (.Name x p) (e :: es) [] pos) (tCB r t) :=
  pe_callTy hc (glN h1 hg).1 hm hv ha (glN h1 hg).2.2 (glN h1 hg).2.1 he hpl
theorem pe_globN {v : V} {u : Value} (h1 : X.env.scope = sc) (hg : glB sc x = true) (hm : X.mg x = some u) (r : RelV v u) : PE X (.Name x pos) (tC v) := pe_glob (glN h1 hg).1 hm r (glN h1 hg).2.1
theorem pe_bltN {v : V} {u : Value} (h1 : X.env.scope = sc) (hg : glB sc x = true) (hm : X.mg x = none) (hv : bootBuiltins x = some u) (r : RelV v u) : PE X (.Name x pos) (tC v) := pe_bltn (glN h1 hg).1 hm hv r (glN h1 hg).2.2 (glN h1 hg).2.1
theorem glR (h1 : X.env.scope = sc) (hg : glB sc x = true) : Gl X x := (glN h1 hg).1
end
theorem bt_len : bootBuiltins "len" = some (.builtin "len") := by decide +kernel
theorem bt_all : bootBuiltins "all" = some (.builtin "all") := by decide +kernel
theorem bt_any : bootBuiltins "any" = some (.builtin "any") := by decide +kernel
theorem bt_sum : bootBuiltins "sum" = some (.builtin "sum") := by decide +kernel
theorem bt_sorted : bootBuiltins "sorted" = some (.builtin "sorted") := by decide +kernel
theorem bt_isinstance : bootBuiltins "isinstance" = some (.builtin "isinstance") := by decide +kernel
theorem bt_abs : bootBuiltins "abs" = some (.builtin "abs") := by decide +kernel
theorem bt_min : bootBuiltins "min" = some (.builtin "min") := by decide +kernel
theorem bt_max : bootBuiltins "max" = some (.builtin "max") := by decide +kernel
theorem bt_str : bootBuiltins "str" = some (.type "str") := by decide +kernel
theorem bt_int : bootBuiltins "int" = some (.type "int") := by decide +kernel
theorem bt_bool : bootBuiltins "bool" = some (.type "bool") := by decide +kernel
theorem bt_list : bootBuiltins "list" = some (.type "list") := by decide +kernel
theorem bt_tuple : bootBuiltins "tuple" = some (.type "tuple") := by decide +kernel
theorem bt_dict : bootBuiltins "dict" = some (.type "dict") := by decide +kernel
theorem bt_set : bootBuiltins "set" = some (.type "set") := by decide +kernel
theorem bt_enumerate : bootBuiltins "enumerate" = some (.type "enumerate") := by decide +kernel
end L3
namespace L3
open PySem PySem.Spec PyProof.Rows L2
theorem psN_comp {X : Cx} {elt tg iter : Expr} {ifs : List Expr} {scope : Scope} {pos : Pos} {N : List Str} {own : Nat} {js : List Nat} {wi : TI} {g : TG} {tc : TT} {te : TE} {i : Nat} {x : Str} {px : Pos} {sc : Scope} {M : List Str} (hc : X.calm = true) (h1 : X.env.scope = sc) (h2 : X.N = M) (hb : setB sc M i x = true)
    (C : CompOk X scope N own js) (hi : PI X tg iter wi) (hg : ∀ fp s H, PG (compCx X N scope fp s H) tg g) (ht : ∀ fp s H, PIfs (compCx X N scope fp s H) ifs tc) (he : ∀ fp s H, PE (compCx X N scope fp s H) elt te) {spos : Pos}
    (hsw : swapsWith (.ListComp elt [⟨tg, iter, ifs, 0⟩] scope pos) (some (.Name x px)) spos.line X.env = pure true) (hs : ∀ x, foldedSetIterable iter X.env x = pure x := by intro _; rfl) :
    PS X (.Assign [.Name x px] (.ListComp elt [⟨tg, iter, ifs, 0⟩] scope pos) spos) (sComp i own js wi g tc te) := by
  unfold setB at hb
  simp only [Bool.and_eq_true, decide_eq_true_eq, beq_iff_eq] at hb
  obtain ⟨⟨a1, a2⟩, a3⟩ := hb
  exact ps_comp hc (by rw [h2]; exact a2) (by rw [h2]; exact a1) (by show X.env.scope.names.lookup x = _; rw [h1]; exact a3) C hi hg ht he hsw hs
end L3

/-! ### data in a part of the heap that grows -/
namespace L4
open PySem PySem.Spec PyProof.Rows L2 L3

/-- D: the part of the heap H where the data lie that nobody changes any more; D' and H' behind a step -/
structure Gr (D H D' H' : Hp) : Prop where
  dd : Same D D'
  hh : Same H H'
  dh : Same D' H'
  nw : ∀ b o, H b = some o → D b = none → D' b = none
section
variable {D D' D'' H H' H'' : Hp} {p : Addr} {o : HO} {K : PySem.W.Frag}
theorem Gr.refl (s : Same D H) : Gr D H D H := ⟨Same.refl D, Same.refl H, s, fun _ _ _ n => n⟩
theorem Gr.trans (a : Gr D H D' H') (b : Gr D' H' D'' H'') : Gr D H D'' H'' :=
  ⟨a.dd.trans b.dd, a.hh.trans b.hh, b.dh, fun c o e n => b.nw c o (a.hh c o e) (a.nw c o e n)⟩
theorem Gr.heap (s : Same D H) (h : Same H H') : Gr D H D H' := ⟨Same.refl D, h, s.trans h, fun _ _ _ n => n⟩
theorem Gr.then (a : Gr D H D' H') (h : Same H' H'') : Gr D H D' H'' := a.trans (Gr.heap a.dh h)
theorem free_of (s : Same D H) (h : H p = none) : D p = none := s.free h
/-- a new thing, as data -/
theorem Gr.lay (s : Same D H) (h : H p = none) : Gr D H (upd D p o) (upd H p o) := by
  refine ⟨Same.upd0 (free_of s h), Same.upd0 h, fun b u e => ?_, fun b u e n => ?_⟩
  · by_cases hb : b = p
    · subst hb; rw [upd_same] at e ⊢; exact e
    · rw [upd_ne hb] at e ⊢; exact s b u e
  · rw [upd_ne (ne_of_none e h)]; exact n
/-- .. not yet as data -/
theorem Gr.layH (s : Same D H) (h : H p = none) : Gr D H D (upd H p o) := Gr.heap s (Same.upd0 h)
/-- a list that was laid behind the start is now data -/
theorem Gr.fix (a : Gr D H D' H') (h : H p = none) (n : D' p = none) (e : H' p = some o) : Gr D H (upd D' p o) H' := by
  refine ⟨a.dd.trans (Same.upd0 n), a.hh, fun b u q => ?_, fun b u q z => ?_⟩
  · by_cases hb : b = p
    · subst hb; rw [upd_same] at q; rw [e]; exact q
    · rw [upd_ne hb] at q; exact a.dh b u q
  · rw [upd_ne (ne_of_none q h)]; exact a.nw b u q z
theorem Gr.set (a : Gr D H D' H') (h : H p = none) (n : D' p = none) : Gr D H D' (upd H' p o) :=
  ⟨a.dd, fun b u e => by rw [upd_ne (ne_of_none e h)]; exact a.hh b u e, fun b u e => by rw [upd_ne (ne_of_none e n)]; exact a.dh b u e, a.nw⟩
theorem Gr.old (a : Gr D H D' H') (e : H p = some o) (n : D p = none) : H' p = some o ∧ D' p = none := ⟨a.hh p o e, a.nw p o e n⟩
/-- what is no data may be changed -/
theorem same_set (s : Same D H) (n : D p = none) : Same D (upd H p o) := fun b u e => by
  rw [upd_ne (ne_of_none e n)]; exact s b u e

end
end L4
namespace L3
open PySem PySem.Spec PyProof.Rows L2 L4
section
variable {D D' D'' H H' H'' : Hp} {p : Addr} {o : HO} {K : PySem.W.Frag}
theorem DataAll.length : ∀ {ds : List PyData} {xs : List V}, DataAll K H xs ds → xs.length = ds.length
  | [], xs, h => by unfold DataAll at h; rw [h]; rfl
  | d :: ds, xs, h => by
    unfold DataAll at h
    obtain ⟨y, ys, rfl, _, h3⟩ := h
    rw [List.length_cons, List.length_cons, DataAll.length h3]
theorem DataAll.nil : DataAll K H [] [] := by unfold DataAll; rfl
theorem DataAll.cons {x : V} {xs : List V} {d : PyData} {ds : List PyData} (h1 : DataAt K H x d) (h2 : DataAll K H xs ds) : DataAll K H (x :: xs) (d :: ds) := by unfold DataAll; exact ⟨x, xs, rfl, h1, h2⟩
theorem DataAll.snoc {x : V} {d : PyData} (h1 : DataAt K H x d) : ∀ {ds : List PyData} {xs : List V}, DataAll K H xs ds → DataAll K H (xs ++ [x]) (ds ++ [d])
  | [], xs, h => by unfold DataAll at h; subst h; exact DataAll.cons h1 DataAll.nil
  | d :: ds, xs, h => by
    unfold DataAll at h
    obtain ⟨y, ys, rfl, h2, h3⟩ := h
    exact DataAll.cons h2 (DataAll.snoc h1 h3)
theorem DataAll.at_ : ∀ {ds : List PyData} {xs : List V} {i : Nat} {d : PyData}, DataAll K H xs ds → ds[i]? = some d → ∃ x, xs[i]? = some x ∧ DataAt K H x d
  | [], _, _, _, _, e => by simp at e
  | d :: ds, xs, 0, d', h, e => by
    unfold DataAll at h
    obtain ⟨y, ys, rfl, h2, h3⟩ := h
    simp at e; subst e
    exact ⟨y, rfl, h2⟩
  | d :: ds, xs, i + 1, d', h, e => by
    unfold DataAll at h
    obtain ⟨y, ys, rfl, h2, h3⟩ := h
    obtain ⟨x, e1, e2⟩ := DataAll.at_ (i := i) h3 (by simpa using e)
    exact ⟨x, by simpa using e1, e2⟩
theorem DataAll.back : ∀ {ds : List PyData} {xs : List V} {i : Nat} {x : V}, DataAll K H xs ds → xs[i]? = some x → ∃ d, ds[i]? = some d ∧ DataAt K H x d := fun {ds xs i x} h e => by
  have hl := DataAll.length h
  have hi : i < xs.length := (List.getElem?_eq_some_iff.mp e).1
  obtain ⟨y, e1, e2⟩ := DataAll.at_ h (List.getElem?_eq_getElem (show i < ds.length by omega))
  rw [e] at e1
  cases e1
  exact ⟨_, List.getElem?_eq_getElem (by omega), e2⟩
theorem DataAt.gr {v : V} {d : PyData} (h : DataAt K D v d) (g : Gr D H D' H') : DataAt K D' v d := DataAt.same g.dd d h
theorem DataAt.up {v : V} {d : PyData} (h : DataAt K D v d) (s : Same D H) : DataAt K H v d := DataAt.same s d h
theorem DataAll.up {v : List V} {d : List PyData} (h : DataAll K D v d) (s : Same D H) : DataAll K H v d := DataAll.same s d h
theorem DataAt.mkL {xs : List V} {ds : List PyData} (h : DataAll K D xs ds) (e : H p = some (.lst xs)) (s : Same D H) : DataAt K H (.ref p) (.list ds) := by
  unfold DataAt
  exact ⟨p, xs, rfl, Rd.of e, h.up s⟩
theorem DataAt.mkT {xs : List V} {ds : List PyData} (h : DataAll K D xs ds) (e : H p = some (.tup xs)) (s : Same D H) : DataAt K H (.ref p) (.tuple ds) := by
  unfold DataAt
  exact ⟨p, xs, rfl, e, h.up s⟩
theorem DataAt.lst {v : V} {ds : List PyData} (h : DataAt K H v (.list ds)) : ∃ a xs, v = .ref a ∧ Rd H a (.lst xs) ∧ DataAll K H xs ds := by unfold DataAt at h; exact h
theorem DataAt.tup {v : V} {ds : List PyData} (h : DataAt K H v (.tuple ds)) : ∃ a xs, v = .ref a ∧ H a = some (.tup xs) ∧ DataAll K H xs ds := by unfold DataAt at h; exact h
theorem DataAt.int {v : V} {i : Int} (h : DataAt K H v (.int i)) : v = .int i := by unfold DataAt at h; exact h
theorem DataAt.str {v : V} {i : Str} (h : DataAt K H v (.str i)) : v = .str i := by unfold DataAt at h; exact h
theorem DataAt.bl {v : V} {i : Bool} (h : DataAt K H v (.bool i)) : v = .bl i := by unfold DataAt at h; exact h
theorem DataAt.ofInt {i : Int} : DataAt K H (.int i) (.int i) := by unfold DataAt; rfl
theorem DataAt.ofStr {i : Str} : DataAt K H (.str i) (.str i) := by unfold DataAt; rfl
theorem DataAt.ofBl {i : Bool} : DataAt K H (.bl i) (.bool i) := by unfold DataAt; rfl
theorem DataAt.ofNon : DataAt K H .non .none := by unfold DataAt; rfl
theorem DataAll.strs_eq : ∀ {ss : List Str} {xs : List V}, DataAll K H xs (ss.map PyData.str) → xs = ss.map V.str
  | [], xs, h => by unfold DataAll at h; exact h
  | z :: ss, xs, h => by
    unfold DataAll at h
    obtain ⟨y, ys, rfl, h2, h3⟩ := h
    rw [DataAt.str h2, DataAll.strs_eq h3]; rfl
theorem DataAll.ints_eq : ∀ {ss : List Int} {xs : List V}, DataAll K H xs (ss.map PyData.int) → xs = ss.map V.int
  | [], xs, h => by unfold DataAll at h; exact h
  | z :: ss, xs, h => by
    unfold DataAll at h
    obtain ⟨y, ys, rfl, h2, h3⟩ := h
    rw [DataAt.int h2, DataAll.ints_eq h3]; rfl
theorem DataAll.uncons {d : PyData} {ds : List PyData} {xs : List V} (h : DataAll K H xs (d :: ds)) : ∃ y ys, xs = y :: ys ∧ DataAt K H y d ∧ DataAll K H ys ds := by unfold DataAll at h; exact h
theorem DataAll.none {xs : List V} (h : DataAll K H xs []) : xs = [] := by unfold DataAll at h; exact h
theorem DataAll.take {n : Nat} : ∀ {ds : List PyData} {xs : List V}, DataAll K H xs ds → DataAll K H (xs.take n) (ds.take n) := by
  induction n with
  | zero => intro ds xs h; rw [List.take_zero, List.take_zero]; exact DataAll.nil
  | succ n ih =>
    intro ds xs h
    cases ds with
    | nil => unfold DataAll at h; subst h; simp; exact DataAll.nil
    | cons d ds =>
      unfold DataAll at h
      obtain ⟨y, ys, rfl, h2, h3⟩ := h
      rw [List.take_succ_cons, List.take_succ_cons]
      exact DataAll.cons h2 (ih h3)
theorem DataAll.drop {n : Nat} : ∀ {ds : List PyData} {xs : List V}, DataAll K H xs ds → DataAll K H (xs.drop n) (ds.drop n) := by
  induction n with
  | zero => intro ds xs h; exact h
  | succ n ih =>
    intro ds xs h
    cases ds with
    | nil => unfold DataAll at h; subst h; simp; exact DataAll.nil
    | cons d ds =>
      unfold DataAll at h
      obtain ⟨y, ys, rfl, h2, h3⟩ := h
      rw [List.drop_succ_cons, List.drop_succ_cons]
      exact ih h3
theorem DataAll.append : ∀ {ds es : List PyData} {xs ys : List V}, DataAll K H xs ds → DataAll K H ys es → DataAll K H (xs ++ ys) (ds ++ es)
  | [], es, xs, ys, h, k => by unfold DataAll at h; subst h; exact k
  | d :: ds, es, xs, ys, h, k => by
    unfold DataAll at h
    obtain ⟨y, zs, rfl, h2, h3⟩ := h
    exact DataAll.cons h2 (DataAll.append h3 k)
end
end L3
namespace L4
open PySem PySem.Spec PyProof.Rows L2 L3

theorem take_snoc {α : Type} {l : List α} {i : Nat} {x : α} (h : l[i]? = some x) : l.take (i + 1) = l.take i ++ [x] := by rw [List.take_succ, h]; rfl

/-- a comprehension whose items are data -/
theorem comp_gr {K : PySem.W.Frag} {J : It} {xs : List V} {P : Hp → Prop} {q : Addr} {g : TG} {tc : TT} {te : TE} {Q : Hp → Prop} {σ : L2.St} {D H : Hp} (s0 : Same D H) (hq0 : H q = none) (Y : Yields J xs P) (S : L2.St → Prop) (rs : List (Option PyData))
    (hl : rs.length = xs.length) (h0 : S σ) (hP : ∀ H', Same H H' → P H') (hz : xs.length < sizeLine)
    (step : ∀ (i : Nat) (x : V) (r : Option PyData) (σ : L2.St) (D1 H1 : Hp) (R1 : L2.St → V → Hp → Prop) (R0 : L2.St → Hp → Prop), xs[i]? = some x → rs[i]? = some r → S σ → Gr D H D1 H1 →
      (∀ d σ2 y D4 H4, r = some d → S σ2 → Gr D1 H1 D4 H4 → DataAt K D4 y d → R1 σ2 y H4) → (∀ σ2 D3 H3, r = none → S σ2 → Gr D1 H1 D3 H3 → R0 σ2 H3) →
      g x σ H1 fun σ2 H2 => tc σ2 H2 fun b H3 => if b = true then te σ2 H3 fun y H4 => R1 σ2 y H4 else R0 σ2 H3)
    (hq : ∀ D' H' ys, Gr D H D' H' → H' q = some (.lst ys) → D' q = none → DataAll K D' ys (rs.filterMap id) → Q H') :
    ∃ W : Nat → Nat → List V → L2.St → Hp → Prop, (∃ m, W 0 m [] σ (upd H q (.lst []))) ∧ CompW q J g tc te Q W := by
  refine comp_inv Y (fun i ys σ H' => ∃ D', Gr D H D' H' ∧ H' q = some (.lst ys) ∧ D' q = none ∧ DataAll K D' ys ((rs.take i).filterMap id) ∧ S σ) ⟨D, Gr.layH s0 hq0, upd_same, s0.free hq0, by simp; exact DataAll.nil, h0⟩
    (fun i ys σ H' ⟨D', G, e, _, hA, _⟩ => ⟨hP H' G.hh, e, ?_⟩) hz (fun i x ys σ H' hx ⟨D', G, e, n, hA, hS⟩ => ?_) fun ys σ H' ⟨D', G, e, n, hA, _⟩ => ?_
  · rw [DataAll.length hA]
    exact Nat.le_trans (List.length_filterMap_le _ _) (by rw [List.length_take]; omega)
  · have hi : i < xs.length := (List.getElem?_eq_some_iff.mp hx).1
    have hr : rs[i]? = some (rs[i]'(by omega)) := List.getElem?_eq_getElem (by omega)
    refine step i x _ σ D' H' _ _ hx hr hS G (fun d σ2 y D4 H4 er h2 G4 hy => ?_) fun σ2 D3 H3 er h2 G3 => ?_
    · obtain ⟨e4, n4⟩ := G4.old e n
      have T := G.trans G4
      refine ⟨e4, D4, ⟨T.dd, fun b o eb => ?_, same_set T.dh n4, T.nw⟩, upd_same, n4, ?_, h2⟩
      · rw [upd_ne (ne_of_none eb hq0)]; exact T.hh b o eb
      · rw [take_snoc hr, List.filterMap_append, er]
        exact DataAll.snoc hy (hA.up G4.dd)
    · obtain ⟨e4, n4⟩ := G3.old e n
      refine ⟨D3, G.trans G3, e4, n4, ?_, h2⟩
      rw [take_snoc hr, List.filterMap_append, er]
      simp only [List.filterMap_cons, id, List.filterMap_nil, List.append_nil]
      exact hA.up G3.dd
  · rw [← hl, List.take_length] at hA
    exact hq D' H' ys G e n hA
theorem filterMap_some {α : Type} (l : List α) : (l.map some).filterMap id = l := by
  induction l with
  | nil => rfl
  | cons a l ih => simp
end L4
namespace L4
open PySem L2
theorem hu60 {A : Around} {k : Nat} (hr : Room k A) : A.units + 60 < cLine := Nat.lt_of_le_of_lt (Nat.add_le_add_left (by decide : 60 ≤ 64) _) hr.units
end L4

/-! ### texts: parted and glued; numbers in figures -/
namespace L4
open PySem PySem.Spec PyProof.Rows L2 L3

theorem cut_one {c : Nat} : ∀ {a b u v : List Nat}, c ∉ a → c ∉ b → a ++ c :: u = b ++ c :: v → a = b ∧ u = v
  | [], [], u, v, _, _, e => ⟨rfl, (List.cons.inj e).2⟩
  | [], y :: b, u, v, _, hb, e => by
    have := (List.cons.inj e).1
    subst this
    exact absurd List.mem_cons_self hb
  | x :: a, [], u, v, ha, _, e => by
    have := (List.cons.inj e).1
    subst this
    exact absurd List.mem_cons_self ha
  | x :: a, y :: b, u, v, ha, hb, e => by
    have e1 := List.cons.inj e
    obtain ⟨h1, h2⟩ := cut_one (a := a) (b := b) (fun h => ha (List.mem_cons_of_mem _ h)) (fun h => hb (List.mem_cons_of_mem _ h)) e1.2
    exact ⟨by rw [e1.1, h1], h2⟩
def cs (x : Str) : List Nat := x.cps.toList
theorem cs_inj {x y : Str} (h : cs x = cs y) : x = y := Str.ext' (Array.toList_inj.mp h)
theorem cs_app (x y : Str) : cs (x ++ y) = cs x ++ cs y := by unfold cs; rw [Str.cps_append, Array.toList_append]
theorem cs_one (c : Nat) : cs ⟨#[c]⟩ = [c] := rfl
theorem cs_len (x : Str) : (cs x).length = x.length := by simp [cs, Str.length]
theorem cs_join2 (c : Nat) (x y : Str) (r : List Str) : cs (Str.join ⟨#[c]⟩ (x :: y :: r)) = cs x ++ c :: cs (Str.join ⟨#[c]⟩ (y :: r)) := by
  show cs (x ++ ⟨#[c]⟩ ++ Str.join ⟨#[c]⟩ (y :: r)) = _
  rw [cs_app, cs_app, cs_one, List.append_assoc]
  rfl
theorem join_inj (c : Nat) : ∀ (xs ys : List Str), xs ≠ [] → ys ≠ [] → (∀ x ∈ xs, c ∉ cs x) → (∀ y ∈ ys, c ∉ cs y) → Str.join ⟨#[c]⟩ xs = Str.join ⟨#[c]⟩ ys → xs = ys
  | [], _, h, _, _, _, _ => absurd rfl h
  | _ :: _, [], _, h, _, _, _ => absurd rfl h
  | [x], [y], _, _, _, _, e => by
    have e' : x = y := e
    rw [e']
  | [x], y :: z :: r, _, _, hx, _, e => by
    have e' : cs x = _ := congrArg cs (show x = _ from e)
    rw [cs_join2] at e'
    exact absurd (by rw [e']; exact List.mem_append_right _ List.mem_cons_self) (hx x List.mem_cons_self)
  | x :: z :: r, [y], _, _, _, hy, e => by
    have e' : cs y = _ := congrArg cs (show y = _ from e.symm)
    rw [cs_join2] at e'
    exact absurd (by rw [e']; exact List.mem_append_right _ List.mem_cons_self) (hy y List.mem_cons_self)
  | x :: z :: r, y :: u :: t, _, _, hx, hy, e => by
    have e' := congrArg cs e
    rw [cs_join2, cs_join2] at e'
    obtain ⟨h1, h2⟩ := cut_one (hx x List.mem_cons_self) (hy y List.mem_cons_self) e'
    have := join_inj c (z :: r) (u :: t) (by simp) (by simp) (fun a ha => hx a (List.mem_cons_of_mem _ ha)) (fun a ha => hy a (List.mem_cons_of_mem _ ha)) (cs_inj h2)
    rw [cs_inj h1, this]
theorem split_join {c : Nat} {xs : List Str} (hne : xs ≠ []) (hx : ∀ x ∈ xs, c ∉ cs x) : PySem.Txt.split (Str.join ⟨#[c]⟩ xs) ⟨#[c]⟩ = xs := by
  refine join_inj c _ _ ?_ hne (fun y hy => StrLaws.split_free _ c y hy) hx (StrLaws.join_split _ _)
  intro e
  have := split_pos (Str.join ⟨#[c]⟩ xs) ⟨#[c]⟩
  rw [e] at this
  exact absurd this (by decide)
theorem split_of_join {c : Nat} {z : Str} {xs : List Str} (hne : xs ≠ []) (hx : ∀ x ∈ xs, c ∉ cs x) (e : z = Str.join ⟨#[c]⟩ xs) : PySem.Txt.split z ⟨#[c]⟩ = xs := by rw [e]; exact split_join hne hx
theorem txt_join (y : Str) (xs : List Str) : PySem.Txt.join y xs = Str.join y xs := StrLaws.glued_eq_join y xs
theorem lf_eq : ("\n" : Str) = ⟨#[10]⟩ := by decide +kernel
theorem bl_eq : (" " : Str) = ⟨#[32]⟩ := by decide +kernel

/-! figures -/
theorem digit_code : ∀ d : Nat, d < 10 → 48 ≤ (Nat.digitChar d).toNat ∧ (Nat.digitChar d).toNat ≤ 57 ∧ (0 < d → (Nat.digitChar d).toNat ≠ 48) := by decide
theorem num_codes (m : Nat) : (∀ c ∈ (Nat.toDigits 10 m).map Char.toNat, 48 ≤ c ∧ c ≤ 57) ∧ (0 < m → ((Nat.toDigits 10 m).map Char.toNat).head? ≠ some 48) ∧ (Nat.toDigits 10 m).map Char.toNat ≠ [] := by
  induction m using Nat.strongRecOn with
  | _ m ih =>
    by_cases h : m < 10
    · rw [Nat.toDigits_of_lt_base h]
      have e := digit_code m h
      refine ⟨fun c hc => ?_, fun h0 z => ?_, by simp⟩
      · have : c = (Nat.digitChar m).toNat := by simpa using hc
        rw [this]; exact ⟨e.1, e.2.1⟩
      · exact e.2.2 h0 (by simpa using z)
    · have hm : m % 10 < 10 := Nat.mod_lt m (by decide)
      have t : Nat.toDigits 10 (m / 10) ++ Nat.toDigits 10 (m % 10) = Nat.toDigits 10 (10 * (m / 10) + m % 10) := Nat.toDigits_append_toDigits (by decide) (by omega) hm
      rw [Nat.div_add_mod] at t
      rw [← t, List.map_append]
      obtain ⟨i1, i2, i3⟩ := ih (m / 10) (by omega)
      obtain ⟨j1, _, _⟩ := ih (m % 10) (by omega)
      refine ⟨fun c hc => (List.mem_append.mp hc).elim (i1 c) (j1 c), fun _ => ?_, fun z => i3 (List.append_eq_nil_iff.mp z).1⟩
      have i2' := i2 (by omega)
      cases hd : (Nat.toDigits 10 (m / 10)).map Char.toNat with
      | nil => exact absurd hd i3
      | cons a r => rw [hd] at i2'; simpa using i2'
/-- what a whole number below 10^60 is in figures -/
structure Figs (n : Int) (t : Str) : Prop where
  pos : 1 ≤ t.length
  most : t.length ≤ 60
  digs : ∀ c ∈ cs t, 48 ≤ c ∧ c ≤ 57
  reads : PySem.intText? t = some n
  lead : t = "0" ∨ (cs t).head? ≠ some 48
theorem int_reads {t : Str} (h1 : 1 ≤ t.length) (h2 : t.length ≤ 60) (hd : ∀ c ∈ cs t, 48 ≤ c ∧ c ≤ 57) : PySem.intText? t = some ((PySem.NumText.digitsVal (cs t) : Nat) : Int) := by
  have hl := cs_len t
  refine PySem.intText_digits hd (fun z => ?_) (by omega)
  have z' : cs t = [] := z
  rw [z'] at hl
  simp at hl
  omega
theorem num_text {n : Int} (h0 : 0 ≤ n) (h1 : n < 10 ^ 60) : Figs n (toString n : String) := by
  obtain ⟨m, rfl⟩ := Int.eq_ofNat_of_zero_le h0
  have hl := toString_length_le h0 (by decide) h1
  have e : cs (Str.ofString (toString ((m : Nat) : Int))) = (Nat.toDigits 10 m).map Char.toNat := PySem.W.KIN.signs_num m
  obtain ⟨c1, c2, c3⟩ := num_codes m
  have hp : 1 ≤ (Str.ofString (toString ((m : Nat) : Int))).length := by
    rw [← cs_len, e]
    exact Nat.pos_of_ne_zero fun z => c3 (List.eq_nil_of_length_eq_zero z)
  have hd : ∀ c ∈ cs (Str.ofString (toString ((m : Nat) : Int))), 48 ≤ c ∧ c ≤ 57 := by rw [e]; exact c1
  refine ⟨hp, hl, hd, ?_, ?_⟩
  · rw [int_reads hp hl hd, e, PySem.W.KIN.val_back]
  · by_cases hm : m = 0
    · subst hm
      exact .inl (by decide +kernel)
    · right
      rw [e]
      exact c2 (by omega)
theorem log_small {n : Int} (h0 : 0 ≤ n) (h1 : n < 10 ^ 60) : n.natAbs.log2 < 1920 := by
  by_cases hz : n.natAbs = 0
  · rw [hz]; decide
  · rw [Nat.log2_lt hz]
    have : n.natAbs < 10 ^ 60 := by omega
    exact Nat.lt_trans this (Nat.lt_of_lt_of_le (by decide : 10 ^ 60 < 2 ^ 200) (Nat.pow_le_pow_right (by decide) (by decide)))
end L4
namespace L4
open PySem L2
theorem inV_strs (t : Str) (ks : List Str) : inV (V.str t) (ks.map V.str) = ks.contains t := by
  unfold inV
  rw [List.any_map, Bool.eq_iff_iff, List.any_eq_true, List.contains_iff_mem]
  constructor
  · rintro ⟨y, hy, e3⟩
    have e4 : (y == t) = true := e3
    rw [← eq_of_beq e4]
    exact hy
  · intro hm
    exact ⟨t, hm, beq_self_eq_true t⟩
end L4

/-! ### rules that speak of the module's own objects, within a comprehension's block (K by name) -/
namespace L4
open PySem PySem.Spec PyProof.Rows L2 L3
section
variable {X : Cx} {K : PySem.W.Frag}
theorem kIx {r : PySem.W.Frag → R2} (h : X.K = K) (o : IxR X (r X.K)) : IxR X (r K) := h ▸ o
theorem kOp {r : PySem.W.Frag → R2} {f : Value → Value → Sem Value} (h : X.K = K) (o : OpR X f (r X.K)) : OpR X f (r K) := h ▸ o
theorem kCall {r : PySem.W.Frag → List V → Hp → VK → Prop} {f : Value} (h : X.K = K) (o : CallR X f (r X.K)) : CallR X f (r K) := h ▸ o
theorem kSl {r : PySem.W.Frag → V → Option Int → Option Int → Hp → VK → Prop} (h : X.K = K) (o : SlR X (r X.K)) : SlR X (r K) := h ▸ o
theorem kMt {r : PySem.W.Frag → V → List V → Hp → VK → Prop} {id : String} (h : X.K = K) (o : MtR X id (r X.K)) : MtR X id (r K) := h ▸ o
theorem kG {r : PySem.W.Frag → TG} {e : Expr} (h : X.K = K) (o : PG X e (r X.K)) : PG X e (r K) := h ▸ o
theorem kE {r : PySem.W.Frag → TE} {e : Expr} (h : X.K = K) (o : PE X e (r X.K)) : PE X e (r K) := h ▸ o
theorem kT {r : PySem.W.Frag → TT} {e : Expr} (h : X.K = K) (o : PT X e (r X.K)) : PT X e (r K) := h ▸ o
theorem kI {r : PySem.W.Frag → TI} {tg e : Expr} (h : X.K = K) (o : PI X tg e (r X.K)) : PI X tg e (r K) := h ▸ o
theorem kgTup {es : List Expr} {k : Nat} {t : TGs} {n : Nat} {pos : Pos} (h : X.K = K) (o : PG X (.Tuple es k pos) (gTup X.K n t)) : PG X (.Tuple es k pos) (gTup K n t) := h ▸ o
theorem kBM {e : Expr} {T : String} {r : V → List V → Hp → VK → Prop} {to : TE} {t : TA} (h : X.K = K) (o : PE X e (tBM X.K T r to t)) : PE X e (tBM K T r to t) := h ▸ o
theorem kBM0 {e : Expr} {T : String} {r : V → List V → Hp → VK → Prop} {to : TE} (h : X.K = K) (o : PE X e (tBM0 X.K T r to)) : PE X e (tBM0 K T r to) := h ▸ o
def rLen (K : PySem.W.Frag) : List V → Hp → VK → Prop := fun xs H Q => ∃ x n, xs = [x] ∧ LenV K x H n ∧ Q (.int n) H
def rIsi (K : PySem.W.Frag) : List V → Hp → VK → Prop := fun xs H Q => ∃ x S T b, xs = [x, .ty T] ∧ tyName K H x S ∧ PySem.W.kitOne K (.type S) (.type T) = some b ∧ Q (.bl b) H
theorem len_K (h : X.K = K) : CallR X (.builtin "len") (rLen K) := h ▸ call_len
theorem isi_K (h : X.K = K) : CallR X (.builtin "isinstance") (rIsi K) := h ▸ call_isi
end
end L4
namespace L4
open PySem PySem.Spec PyProof.Rows L2 L3
/-- a statement, what holds behind it, and the rest -/
def tCut (t u : TS) : TS := fun D σ H => ∃ P : L2.St → Hp → Prop, t { D with nx := P } σ H ∧ ∀ σ' H', P σ' H' → u D σ' H'
theorem pss_cut {X : Cx} {st : Stmt} {rest : List Stmt} {t u : TS} (h1 : PS X st t) (h2 : PSs X rest u) : PSs X (st :: rest) (tCut t u) := by
  intro pins s σ H D I ⟨P, h, k⟩
  refine wpAny_execs_cons (thn (h1 pins s σ H { D with nx := P } I h) fun f s1 q => ?_)
  cases f with
  | next => obtain ⟨σ', H', I', q⟩ := q; exact h2 pins s1 σ' H' D I' (k σ' H' q)
  | ret v => exact q
  | brk => exact q
  | cont => exact q
end L4

namespace L5
open PySem PySem.Spec PyProof.Rows L2 L3 L4
open Sem (wp)
theorem enum_tc (a b : Value) : checkTypeCall "enumerate" ⟨[a], [("start", b)]⟩ = pure () := by kernel_rfl
theorem enum_nc (a b : Value) : checkBuiltinCall "enumerate.__new__" ⟨[.type "enumerate", a], [("start", b)]⟩ = pure () := by kernel_rfl
theorem enum_oi (o a b : Value) : argsOk "object.__init__" ⟨[o, a], [("start", b)]⟩ := by unfold argsOk; kernel_rfl
section
variable {prog : Program} {w : World} {A : Around} {E : Value → Shared → Prop} {s : Shared}
/-- enumerate.__new__ with start: an iterator of the list, and the record behind it -/
theorem new_start {l : Addr} {items : Array Value} {k : Int} {t : Tok} {P : PySem.Fin → Shared → Prop} (hL : s.heap.IsList l items) (hk : Builtin.SmallTypes.fitsIndex k = true)
    (h : ∀ h', IsEnum h' (s.heap.objs.size + 1) s.heap.objs.size k .none → h'.IsListIter s.heap.objs.size l 0 → (∀ b o, s.heap.get? b = some o → h'.get? b = some o) → P (.done (.ret (.ref (s.heap.objs.size + 1)))) { s with heap := h' }) :
    wpAny (model prog w) A (Builtin.«enumerate.__new__» ⟨[.type "enumerate", .ref l], [("start", .int k t)]⟩) P E s := by
  have x2 := F.called_enumerate.sub
  have cls : Builtin.SmallTypes.newClass "enumerate" ⟨[.type "enumerate", .ref l], [("start", .int k t)]⟩ = pure (.type "enumerate", [.ref l]) := by
    unfold Builtin.SmallTypes.newClass
    simp [isType, x2]
  unfold Builtin.«enumerate.__new__»
  refine wpAny_bind (wpAny_of_eq cls ?_)
  unfold Builtin.SmallTypes.calledThroughType
  have kk : ∀ o1 o2 b o, s.heap.get? b = some o → ((s.heap.push o1).push o2).get? b = some o := fun o1 o2 b o e => Heap.get?_push_of_some _ (Heap.get?_push_of_some _ e)
  wp_walk
  refine wpAny_stack_any fun st => wpAny_pure ?_
  refine wpAny_ite_split (fun _ => wpAny_bind (wpAny_of_eq (a := (Value.ref l, some (Value.int k t))) rfl ?_)) fun _ => wpAny_bind (wpAny_of_eq (a := (Value.ref l, some (Value.int k t))) rfl ?_)
  all_goals
    refine wpAny_bind (wpAny_of_eq (a := Value.int k t) rfl (wpAny_bind (wpAny_of_eq (a := some k) rfl ?_)))
    refine wpAny_ite_split (fun z => absurd z (by rw [hk]; decide)) fun _ => wpAny_bind (wpAny_pyIter_list hL ?_)
    wp_walk
    have e0 := Heap.get?_push_size s.heap (o := { cls := .type "list_iterator", data := .fields #[.ref l, .int 0 0] }) rfl
    have e1 := Heap.get?_push_size (s.heap.push { cls := .type "list_iterator", data := .fields #[.ref l, .int 0 0] }) (o := { cls := .type "enumerate", data := .fields #[.none, .bool false, .ref s.heap.objs.size, rawInt k, .none, .none] }) rfl
    rw [Heap.size_push] at e1
    rw [Heap.size_push]
    exact h _ e1 ⟨_, Heap.get?_push_of_some _ e0, rfl, rfl⟩ (kk _ _)
/-- object.__init__ lets what `enumerate` was given pass -/
theorem init_start {o : Addr} {a b : Value} {P : PySem.Fin → Shared → Prop} (hT : s.TypeIs (.ref o) "enumerate") (h : P (.done (.ret .none)) s) : wpAny (model prog w) A (Builtin.«object.__init__» ⟨[.ref o, a], [("start", b)]⟩) P E s := by
  have y1 := F.called_enumerate.init.lookup
  have y2 := F.called_enumerate.made
  unfold Builtin.«object.__init__»
  wp_walk
  exact h
set_option maxHeartbeats 1000000 in
theorem call_enum_start {l : Addr} {items : Array Value} {k : Int} {t : Tok} {Q : Value → Shared → Prop} (hL : s.heap.IsList l items) (hk : Builtin.SmallTypes.fitsIndex k = true)
    (h : ∀ h', IsEnum h' (s.heap.objs.size + 1) s.heap.objs.size k .none → h'.IsListIter s.heap.objs.size l 0 → (∀ b o, s.heap.get? b = some o → h'.get? b = some o) → Q (.ref (s.heap.objs.size + 1)) { s with heap := h' }) :
    wpAny (model prog w) A (call (.type "enumerate") [.ref l] [("start", .int k t)]) Q E s := by
  have x1 := F.called_enumerate.made
  have x2 := F.called_enumerate.sub
  have x3 := F.called_enumerate.notType
  have x4 := F.called_enumerate.canCreate
  have x5 := enum_tc (.ref l) (.int k t)
  obtain ⟨c, tl, x6⟩ := F.called_enumerate.mro
  refine wpAny_call (codeAny_of_tree ?_)
  wp_walk
  refine ⟨Code.quiet_builtin _ (by decide +kernel), codeAny_builtin F.entry_type_call ?_⟩
  rw [Around.under_plain (weight_type_call_type "enumerate" [.ref l] [("start", .int k t)]) (units_type_call_type _ _ _)]
  wp_walk
  refine codeAny_call_builtin F.called_enumerate.plain F.entry_enumerate_new (wpAny_of_eq (enum_nc _ _) (new_start hL hk fun h' e i kk => ?_))
  have z1 := F.called_enumerate.init.lookup
  have z2 := F.called_enumerate.init.bind (.ref (s.heap.objs.size + 1))
  have hT : Shared.TypeIs { s with heap := h' } (.ref (s.heap.objs.size + 1)) "enumerate" := ⟨_, e, rfl⟩
  refine wpAny_bind (wpAny_isInstance hT x2 (wpAny_ite_split (fun z => nomatch z) fun _ => ?_))
  wp_walk
  refine codeAny_call_builtin F.called_enumerate.init.plain F.entry_object_init (F.called_enumerate.init.check _ _ _ _ _ _ _ _ hT (enum_oi _ _ _) (init_start hT ?_))
  wp_walk
  exact h h' e i kk
end
end L5

namespace L5
open PySem PySem.Spec PyProof.Rows L2 L3 L4
open Sem (wp)
section
variable {prog : Program} {w : World} {A : Around} {E : Value → Shared → Prop} {s : Shared}
end
/-- the items of a list, counted from lo -/
theorem drawsFrom {prog : Program} {w : World} {A : Around} (hh : A.handled = none) (it l : Addr) (hne : l ≠ it) (items : Array Value) (lo : Nat) :
    Draws prog w A it [it, l] (lo + items.size) (fun i v => ∃ j, i = lo + j ∧ items[j]? = some v) (fun i h => ∃ j, i = lo + j ∧ h.IsListIter it l j ∧ h.IsList l items) where
  live := fun _ _ ⟨_, _, st⟩ => (Draws.list (prog := prog) (w := w) hh it l hne items).live _ _ st
  frame := fun _ _ _ ⟨j, e, st⟩ k => ⟨j, e, (Draws.list (prog := prog) (w := w) hh it l hne items).frame _ _ _ st k⟩
  item := fun i s Q E hi ⟨j, e, st⟩ q => (Draws.list (prog := prog) (w := w) hh it l hne items).item j s Q E (by omega) st fun x h' tk p st' sm => q x h' tk ⟨j, e, p⟩ ⟨j + 1, by omega, st'⟩ sm
  done := fun s Q E ⟨j, e, st⟩ q => (Draws.list (prog := prog) (w := w) hh it l hne items).done s Q E (by rw [show items.size = j by omega]; exact st) q
/-- no item is left -/
theorem drawsNone {prog : Program} {w : World} {A : Around} (hh : A.handled = none) (it l : Addr) (items : Array Value) :
    Draws prog w A it [it, l] 0 (fun _ _ => True) (fun _ h => ∃ i, items.size ≤ i ∧ h.IsListIter it l i ∧ h.IsList l items) where
  live := fun _ _ ⟨_, _, ⟨o, e, _⟩, _⟩ => ⟨o, e⟩
  frame := fun _ _ _ ⟨i, hi, a, b⟩ k => ⟨i, hi, a.at fun o e => k it (by simp) o e, b.at fun o e => k l (by simp) o e⟩
  item := fun _ _ _ _ hi => absurd hi (Nat.not_lt_zero _)
  done := fun _ _ _ ⟨_, hi, a, b⟩ q => wpAny_nextOf_list_end hh a b (Array.getElem?_eq_none hi) q
theorem _root_.L2.Inv.turnedL {X : Cx} {pins : List (Addr × Obj)} {σ : L2.St} {H : Hp} {s : Shared} {h' : Heap} {t' : Nat} {its : List Addr} (I : Inv X pins σ H s) (k : ∀ b o, b ∉ its → s.heap.get? b = some o → h'.get? b = some o) (hf : ∀ b ∈ its, FpOk X pins H b) :
    Inv X pins σ H { s with heap := h', toks := t' } := by
  have nit : ∀ b u, H b = some u → b ∉ its := fun b u e z => by rw [(hf b z).1] at e; cases e
  have hL : X.env.locals ∉ its := fun z => (hf _ z).2.1 rfl
  refine I.step (g' := s.gens) (d' := s.drawn) (ch := its) (fun b hb => ⟨(hf b hb).2.2.2.1, (hf b hb).2.1, (hf b hb).2.2.2.2.1, (hf b hb).2.2.2.2.2⟩) (fun b o _ _ hc e _ => k b o hc e) (fun b o _ _ hc e _ => ⟨o.slots, k b o hc e⟩) (fun _ _ _ _ n => n)
    (fun b o hc e => ⟨o, k b o hc e⟩) (fun _ _ e => e) (fun _ _ _ e => e) (fun b ps e => ⟨#[], by rw [e]; simp⟩) (fun m ⟨o, es, ep, ho, r⟩ => ⟨o, es, ep, k _ o hL ho, r⟩) (fun b u e => ?_) I.bare
  refine (I.hok b u e).stay (fun c v hc q => k c v ?_ q) (fun _ q => q) fun _ _ q => q
  rcases hc with z | z
  · rw [z]; exact nit b u e
  · exact nit c _ z
/-- the pairs (lo + i, the item i of the list at a): each a new tuple -/
def Ite (K : PySem.W.Frag) (a : Addr) (lo : Int) : It :=
  ⟨fun i H => ∃ xs x, SqL K H a xs ∧ xs[i]? = some x, fun i H v H' => ∃ T y, v = .ref T ∧ H T = none ∧ H' = upd H T (.tup [.int (lo + i), y]) ∧ ∀ xs, SqL K H a xs → xs[i]? = some y, fun i H => ∃ xs, SqL K H a xs ∧ xs.length ≤ i⟩
theorem not_enum {h : Heap} {a e it : Addr} {c : Int} {old : Value} {items : Array Value} (he : IsEnum h e it c old) (hl : h.IsList a items) : e ≠ a := fun z => by
  obtain ⟨o, eo, co, _⟩ := hl
  rw [← z, show h.get? e = some _ from he] at eo
  rw [← Option.some.inj eo] at co
  exact absurd (show Value.type "enumerate" = Value.type "list" from co) (by decide)
theorem not_iter {h : Heap} {a it : Addr} {i : Nat} {items : Array Value} (hi : h.IsListIter it a i) (hl : h.IsList a items) : a ≠ it := fun z => by
  obtain ⟨o, eo, co, _⟩ := hl
  obtain ⟨o', eo', co', _⟩ := hi
  rw [z, eo'] at eo
  rw [← Option.some.inj eo, co'] at co
  exact absurd co (by decide)
theorem turn_enum {P : Program} {w : World} {K : PySem.W.Frag} {elts : List Expr} {kt : Nat} {pt : Pos} (a e it : Addr) (lo : Nat) (hne : e ≠ it) :
    Turn P w K (.Tuple elts kt pt) (Ite K a lo) [e, it] e (fun i h => (∃ old, IsEnum h e it ((lo + i : Nat) : Int) old) ∧ h.IsListIter it a i) where
  mem := by simp
  obj := fun i h ⟨⟨old, he⟩, st⟩ b hb => by
    rcases List.mem_cons.mp hb with rfl | hb
    · exact ⟨_, he, fun v z => by cases (show Data.fields _ = Data.cell v from z)⟩
    · obtain ⟨o, e', c, d⟩ := st
      rw [List.mem_singleton.mp hb]
      exact ⟨o, e', fun v z => by rw [d] at z; cases z⟩
  keep := fun i h h' ⟨⟨old, he⟩, st⟩ k => ⟨⟨old, k e (by simp) _ he⟩, st.at fun o e' => k it (by simp) o e'⟩
  item := by
    intro X hP hw hK hc i pins s σ H E I hf st hg
    subst hP hw hK
    obtain ⟨⟨old, he⟩, st⟩ := st
    obtain ⟨xs, x, hq, hx⟩ := hg
    obtain ⟨its, rv, p, hz⟩ := I.list hq
    obtain ⟨u, hu, ru⟩ := rv.get hx
    have hil : i < its.length := (List.getElem?_eq_some_iff.mp hu).1
    have hea := not_enum he p.isList
    have hia := not_iter st p.isList
    have ec : ((lo + i : Nat) : Int) = (lo : Int) + (i : Nat) := by omega
    refine wpAny_pyNext_enum_itemD (drawsFrom (A := X.A.in1) (I.ok.hd hc) it a hia its.toArray lo) he ⟨i, rfl, st, p.isList⟩ (by rw [List.size_toArray]; omega) hne (by simp [hne, hea]) fun u' h' tk ⟨j, ej, eu⟩ eo ⟨j', ej', st', _⟩ tp sz kk => ⟨_, rfl, ?_⟩
    obtain rfl : j = i := by omega
    obtain rfl : j' = j + 1 := by omega
    obtain rfl : u' = u := by
      rw [List.getElem?_toArray, hu] at eu
      exact (Option.some.inj eu).symm
    refine wpAny_letOwnedTupleGo_enum eo fun h2 he2 sm => ?_
    have k2 : ∀ b o, b ≠ e → h'.get? b = some o → h2.get? b = some o := fun b o hb q => Heap.SameBut.extBut sm b o hb q
    have lte : e < s.heap.objs.size := Heap.lt_size he
    have lti : it < s.heap.objs.size := by obtain ⟨o, e', _⟩ := id st; exact Heap.lt_size e'
    have old2 : ∀ b o, b ∉ [e, it] → s.heap.get? b = some o → h2.get? b = some o := fun b o hb q => k2 b o (fun z => hb (by simp [z])) (kk b o (fun z => hb (by simp [z])) (fun z => hb (by simp [z])) q)
    have ff : ∀ b ∈ [e, it], FpOk X pins (upd H s.heap.objs.size (.tup [.int (lo + (j : Nat)), x])) b := fun b hb => by
      obtain ⟨z0, z1⟩ := hf b hb
      have hb' : b ≠ s.heap.objs.size := by
        rcases List.mem_cons.mp hb with rfl | hb
        · exact Nat.ne_of_lt lte
        · rw [List.mem_singleton.mp hb]; exact Nat.ne_of_lt lti
      exact ⟨by rw [upd_ne hb']; exact z0, z1⟩
    have nw : (s.heap.push { cls := .type "tuple", data := .seq #[.int ((lo + j : Nat) : Int) tk, u'] }).get? s.heap.objs.size = some { cls := .type "tuple", data := .seq #[.int ((lo + j : Nat) : Int) tk, u'] } := Heap.get?_push_size _ rfl
    have I3 : Inv X pins σ (upd H s.heap.objs.size (.tup [.int (lo + (j : Nat)), x])) { s with heap := s.heap.push { cls := .type "tuple", data := .seq #[.int ((lo + j : Nat) : Int) tk, u'] }, toks := s.toks } :=
      I.laid (fun b o q => Heap.get?_push_of_some _ q) (Nat.le_refl _) ⟨by show 2 ≤ sizeLine; decide, [.int ((lo + j : Nat) : Int) tk, u'], .cons ⟨tk, by rw [ec]⟩ (.cons ru .nil), ⟨_, nw, rfl, _, rfl⟩⟩
    have I4 := I3.turnedL (t' := tk + 1) (h' := h2) (its := [e, it]) (fun b o hb q => ?_) ff
    refine ⟨.ref s.heap.objs.size, _, I4, rfl, ⟨_, x, rfl, I.fresh, rfl, fun ys hy => by rw [I.list_inj hy hq]; exact hx⟩, ⟨⟨u', ?_⟩, ?_⟩, fun b hb => (ff b hb).1⟩
    rotate_right
    · by_cases hT : b = s.heap.objs.size
      · subst hT
        rw [show o = _ from Option.some.inj ((show _ = some o from q).symm.trans nw)]
        exact k2 _ _ (Nat.ne_of_gt lte) tp
      · exact old2 b o hb (by rw [← Heap.get?_push_ne _ _ _ hT]; exact q)
    · rw [show ((lo + (j + 1) : Nat) : Int) = ((lo + j : Nat) : Int) + 1 by omega]
      exact he2
    · obtain ⟨o, eo', r⟩ := st'
      exact ⟨o, k2 it o hne.symm eo', r⟩
  done := by
    intro X hP hw hK hc i pins s σ H E I hf st hg
    subst hP hw hK
    obtain ⟨⟨old, he⟩, st⟩ := st
    obtain ⟨xs, hq, hx⟩ := hg
    obtain ⟨its, rv, p, hz⟩ := I.list hq
    obtain ⟨g0, g1, g2, g3, g4, g5⟩ := hf it (by simp)
    have hl := rv.length
    exact wpAny_pyNext_enum_endD (drawsNone (A := X.A.in1) (I.ok.hd hc) it a its.toArray) he ⟨i, by rw [List.size_toArray]; omega, st, p.isList⟩ fun h' eb => ⟨rfl, I.turned (t' := s.toks) (fun b o hb e => eb b o hb e) g0 g1 g3 g4 g5⟩
  self := fun A i s Q E ⟨⟨old, he⟩, _⟩ h => wpAny_pyIter_enum he h
section
variable {X : Cx} {a : Expr} {ta : TE} {p pos kp ip : Pos} {elts : List Expr} {kt : Nat} {pt : Pos} {j : Option Str}
def iEnum (K : PySem.W.Frag) (ta : TA) : TI := fun σ H R => ta σ H fun vs H1 => ∃ l, vs = [.ref l] ∧ (∃ xs, SqL K H1 l xs) ∧ R (Ite K l 0) H1
def iEnumS (K : PySem.W.Frag) (ta tk : TA) : TI := fun σ H R => ta σ H fun vs H1 => tk σ H1 fun zs H2 => ∃ l k, vs = [.ref l] ∧ zs = [.int k] ∧ (Builtin.SmallTypes.fitsIndex k && decide (0 ≤ k)) = true ∧ (∃ xs, SqL K H2 l xs) ∧ R (Ite K l k) H2
theorem enum_it {pins : List (Addr × Obj)} {σ : L2.St} {H : Hp} {s : Shared} {R : It → Hp → Prop} {l : Addr} {lo : Nat} {h' : Heap} {E : Value → Shared → Prop} (I : Inv X pins σ H s) (he : IsEnum h' (s.heap.objs.size + 1) s.heap.objs.size lo .none) (hi : h'.IsListIter s.heap.objs.size l 0)
    (kk : ∀ b o, s.heap.get? b = some o → h'.get? b = some o) (q : R (Ite X.K l lo) H) (t : Nat) : wpAny (model X.prog X.w) X.A (pyIter (.ref (s.heap.objs.size + 1))) (PIE X pins σ (.Tuple elts kt pt) R) E { s with heap := h', toks := t } := by
  refine wpAny_pyIter_enum he ⟨_, [s.heap.objs.size + 1, s.heap.objs.size], _, _, H, rfl, I.kept (t' := t) kk, turn_enum l _ _ lo (Nat.succ_ne_self _), ⟨⟨.none, ?_⟩, hi⟩, fun b hb => ?_, q⟩
  · rw [Nat.add_zero]; exact he
  · have hb' : s.heap.objs.size ≤ b := by
      rcases List.mem_cons.mp hb with rfl | hb
      · omega
      · rw [List.mem_singleton.mp hb]; exact Nat.le_refl _
    exact I.fpOk hb' (I.hok.fresh hb')
theorem pi_enum {ta : TA} (h1 : Gl X "enumerate") (hm : X.mg "enumerate" = none) (ha : PA X [a] ta) (hs : starEach [a] X.env = (false, eval a X.env) :: starEach [] X.env := by rfl) :
    PI X (.Tuple elts kt pt) (.Call (.Name "enumerate" p) [a] [] pos) (iEnum X.K ta) := by
  intro pins s σ H R I h
  refine wpAny_Call_Name_kw (ld_blt I h1 hm bt_enumerate (PyProof.Rows.callWith_type1 (thn (ha pos pins s σ H _ I h) fun us s1 ⟨vs, H1, I1, r1, l, ex, ⟨xs, hq⟩, q1⟩ => ?_) hs rfl))
  subst ex
  obtain ⟨u, rfl, ru⟩ := vals1 r1
  cases ru
  obtain ⟨its, rv, pl, hz⟩ := I1.list hq
  exact call_enumerate_list pl.isList fun h' he hi _ kk => enum_it (lo := 0) I1 he hi kk q1 _
theorem pi_enumS {ta tk : TA} {kws : List Keyword} (h1 : Gl X "enumerate") (hm : X.mg "enumerate" = none) (ha : PA X [a] ta) (hkw : PK X kws tk) (hks : (backToKw pos (keywordEach kws X.env)).filterMap (·.1) = [("start" : Str)] := by rfl) (hall : (backToKw pos (keywordEach kws X.env)).all (·.1.isSome) = true := by rfl)
    (hs : starEach [a] X.env = (false, eval a X.env) :: starEach [] X.env := by rfl) (hpl : ((backTo pos (starEach [a] X.env)).any (·.1) || (backToKw pos (keywordEach kws X.env)).any (·.1.isNone)) = false := by rfl) :
    PI X (.Tuple elts kt pt) (.Call (.Name "enumerate" p) [a] kws pos) (iEnumS X.K ta tk) := by
  intro pins s σ H R I h
  refine wpAny_Call_Name_kw (ld_blt I h1 hm bt_enumerate (PySem.W.callWith_of (P := fun _ => True) hpl (fun _ _ => ⟨.machine, .inr (.inl rfl), .of_pure rfl⟩) (evalArgs_kw2 hall (thn (ha pos pins s σ H _ I h) fun us s1 ⟨vs, H1, I1, r1, q1⟩ =>
    thn (hkw pos pins s1 σ H1 _ I1 q1) fun ws s2 ⟨zs, H2, I2, rz, l, k, ex, ez, hk, ⟨xs, hq⟩, q2⟩ => ⟨trivial, ?_⟩) hs)))
  subst ex ez
  obtain ⟨u, rfl, ru⟩ := vals1 r1
  obtain ⟨u2, rfl, t, rfl⟩ := vals1 rz
  cases ru
  obtain ⟨its, rv, pl, hz⟩ := I2.list hq
  rw [hks]
  obtain ⟨hk1, hk2⟩ := Bool.and_eq_true_iff.mp hk
  obtain ⟨n, rfl⟩ := Int.eq_ofNat_of_zero_le (of_decide_eq_true hk2)
  exact call_enum_start pl.isList hk1 fun h' he hi kk => enum_it I2 he hi kk q2 _
end
/-- for n, x in enumerate(xs, lo) -/
theorem for_enum {K : PySem.W.Frag} {a : Addr} {xs : List V} {lo : Int} {g : TG} {tb : TS} {D : Ends} {σ : L2.St} {H : Hp} (Pv : Nat → L2.St → Hp → Prop) (h0 : Pv 0 σ H) (hl : ∀ i σ H, i ≤ xs.length → Pv i σ H → SqL K H a xs)
    (hs : ∀ i y σ H T, xs[i]? = some y → Pv i σ H → H T = none → g (.ref T) σ (upd H T (.tup [.int (lo + (i : Nat)), y])) fun σ2 H2 => tb { D with nx := Pv (i + 1), ct := Pv (i + 1), bk := D.nx } σ2 H2) (hd : ∀ σ H, Pv xs.length σ H → D.nx σ H) :
    ∃ W : Nat → Nat → L2.St → Hp → Prop, (∃ m, W 0 m σ H) ∧ ∀ i m σ H, W i m σ H →
      ((Ite K a lo).stop i H ∧ D.nx σ H) ∨ ((Ite K a lo).go i H ∧ ∃ N : L2.St → Hp → Prop, (∀ σ' H', N σ' H' → ∃ m', m' < m ∧ W (i + 1) m' σ' H') ∧ ∀ x H', (Ite K a lo).yld i H x H' → g x σ H' fun σ2 H2 => tb { D with nx := N, ct := N, bk := D.nx } σ2 H2) := by
  refine ⟨fun i m σ H => m = xs.length - i ∧ i ≤ xs.length ∧ Pv i σ H, ⟨xs.length, rfl, Nat.zero_le _, h0⟩, ?_⟩
  rintro i m σ H ⟨rfl, hi, p⟩
  have q := hl i σ H hi p
  by_cases hlt : i < xs.length
  · refine .inr ⟨⟨xs, xs[i], q, by simp [hlt]⟩, Pv (i + 1), fun σ' H' p' => ⟨xs.length - (i + 1), by omega, rfl, hlt, p'⟩, fun x H' ⟨T, y, e1, e2, e3, e4⟩ => ?_⟩
    subst e1 e3
    exact hs i y σ H T (e4 xs q) p e2
  · obtain rfl : i = xs.length := by omega
    exact .inl ⟨⟨xs, q, Nat.le_refl _⟩, hd σ H p⟩
end L5

/-! ### a comprehension over enumerate -/
namespace L5
open PySem PySem.Spec PyProof.Rows L2 L3 L4
/-- the items that f gives of the pairs (i, the item i) -/
def enumF (f : Nat → V → Option V) (xs : List V) (n : Nat) : List V := (List.range n).filterMap fun j => (xs[j]?).bind (f j)
theorem enumF_succ {f : Nat → V → Option V} {xs : List V} {i : Nat} {y : V} (h : xs[i]? = some y) : enumF f xs (i + 1) = enumF f xs i ++ (f i y).toList := by
  unfold enumF
  rw [List.range_succ, List.filterMap_append, List.filterMap_cons, h]
  cases e : f i y with
  | none => simp [e]
  | some z => simp [e]
theorem comp_enum {K : PySem.W.Frag} {a : Addr} {xs : List V} {lo : Int} {D : Addr} {g : TG} {tc : TT} {te : TE} {Q : Hp → Prop} {σ : L2.St} {H : Hp} (hD : H D = none) (hl : ∀ H', Same H H' → SqL K H' a xs) (S : L2.St → Prop) (f : Nat → V → Option V) (h0 : S σ) (hz : xs.length < sizeLine)
    (step : ∀ (i : Nat) (y : V) (σ : L2.St) (H' : Hp) (T : Addr) (R1 : L2.St → V → Hp → Prop) (R0 : L2.St → Hp → Prop), xs[i]? = some y → S σ → Same H H' → H' T = none → (∀ σ2 z H4, S σ2 → f i y = some z → Same H' H4 → R1 σ2 z H4) → (∀ σ2 H3, S σ2 → f i y = none → Same H' H3 → R0 σ2 H3) →
      g (.ref T) σ (upd H' T (.tup [.int (lo + (i : Nat)), y])) fun σ2 H2 => tc σ2 H2 fun b H3 => if b = true then te σ2 H3 fun z H4 => R1 σ2 z H4 else R0 σ2 H3)
    (hq : ∀ H', Same H H' → H' D = some (.lst (enumF f xs xs.length)) → Q H') : ∃ W : Nat → Nat → List V → L2.St → Hp → Prop, (∃ m, W 0 m [] σ (upd H D (.lst []))) ∧ CompW D (Ite K a lo) g tc te Q W := by
  have up : ∀ {H' : Hp} {o : HO}, Same H H' → Same H (upd H' D o) := fun {H' o} s b ob e => by
    rw [upd_ne (ne_of_none e hD)]
    exact s b ob e
  refine ⟨fun i m ys σ H' => m = xs.length - i ∧ i ≤ xs.length ∧ Same H H' ∧ H' D = some (.lst ys) ∧ ys = enumF f xs i ∧ S σ, ⟨xs.length, by simp, Nat.zero_le _, up (Same.refl H), upd_same, by unfold enumF; simp, h0⟩, ?_⟩
  rintro i m ys σ H' ⟨rfl, hi, s, e, e2, hS⟩
  have hlen : ys.length ≤ i := by
    rw [e2]
    unfold enumF
    exact Nat.le_trans (List.length_filterMap_le _ _) (by rw [List.length_range]; exact Nat.le_refl _)
  refine ⟨e, by omega, ?_⟩
  by_cases hlt : i < xs.length
  · refine .inr ⟨⟨xs, xs[i], hl H' s, by simp [hlt]⟩, fun y σ2 H4 => H4 D = some (.lst ys) ∧ Same H (upd H4 D (.lst (ys ++ [y]))) ∧ ys ++ [y] = enumF f xs (i + 1) ∧ S σ2, fun σ2 H3 => Same H H3 ∧ H3 D = some (.lst ys) ∧ ys = enumF f xs (i + 1) ∧ S σ2,
      fun y σ2 H4 q => ⟨q.1, xs.length - (i + 1), by omega, rfl, hlt, q.2.1, upd_same, q.2.2.1, q.2.2.2⟩, fun σ2 H3 q => ⟨xs.length - (i + 1), by omega, rfl, hlt, q⟩, fun x H1 ⟨T, y, e1, e3, e4, e5⟩ => ?_⟩
    subst e1 e4
    have hy := e5 xs (hl H' s)
    refine step i y σ H' T (fun σ2 z H4 => _) (fun σ2 H3 => _) hy hS s e3 (fun σ2 z H4 h2 hf s4 => ⟨s4 _ _ e, up (s.trans s4), ?_, h2⟩) fun σ2 H3 h2 hf s3 => ⟨s.trans s3, s3 _ _ e, ?_, h2⟩
    · rw [enumF_succ hy, hf, e2]
      rfl
    · rw [enumF_succ hy, hf, e2]
      exact (List.append_nil _).symm
  · obtain rfl : i = xs.length := by omega
    refine .inl ⟨⟨xs, hl H' s, Nat.le_refl _⟩, hq H' s ?_⟩
    rw [e, e2]
end L5

namespace L4
open PySem PySem.Spec PyProof.Rows L2 L3
theorem foldl_app (l : List (Array Nat)) : ∀ acc : Array Nat, (l.foldl (· ++ ·) acc).toList = acc.toList ++ (l.map Array.toList).flatten := by
  induction l with
  | nil => intro acc; simp
  | cons a l ih => intro acc; rw [List.foldl_cons, ih]; simp
theorem cs_mul (c : Nat) (n : Int) : cs (PySem.Txt.mul ⟨#[c]⟩ n) = List.replicate n.toNat c := by
  unfold PySem.Txt.mul
  split
  · rw [show n.toNat = 0 by omega]; rfl
  · split
    · rename_i h1 h
      rw [Bool.or_eq_true] at h
      have h2 : (⟨#[c]⟩ : Str).length = 1 := rfl
      have : n = 1 := by
        rcases h with h | h
        · exact eq_of_beq h
        · rw [h2] at h; cases h
      subst this
      rfl
    · unfold cs
      rw [foldl_app]
      simp
theorem atI_range {b n : Nat} {i : Int} {xs : List Nat} (e : xs = List.range' b n) (h0 : 0 ≤ i) (h1 : i < n) : atI xs i = some (b + i.toNat) := by
  have q := atI_nat (xs := xs) (j := i.toNat) (v := b + i.toNat) (by rw [e, List.getElem?_range' (by omega)]; simp)
  rw [Int.toNat_of_nonneg h0] at q
  exact q
theorem cut_from {xs : List V} (k : Nat) (h : k ≤ xs.length) : cutV xs (some (k : Int)) none = xs.drop k := by
  unfold cutV
  rw [HT.sIx_nat, HT.sIx_none, Nat.min_eq_left h]
  exact List.take_of_length_le (by rw [List.length_drop]; omega)
theorem cut_to {xs : List V} (k : Nat) : cutV xs none (some (k : Int)) = xs.take k := by
  unfold cutV
  rw [HT.sIx_nat, HT.sIx_none, List.drop_zero, Nat.sub_zero]
  by_cases h : k ≤ xs.length
  · rw [Nat.min_eq_left h]
  · rw [Nat.min_eq_right (by omega), List.take_length, List.take_of_length_le (by omega)]
theorem cut_both {xs : List V} (a b : Nat) : cutV xs (some (a : Int)) (some (b : Int)) = (xs.drop a).take (b - a) := by
  unfold cutV
  rw [HT.sIx_nat, HT.sIx_nat]
  by_cases h : a ≤ xs.length
  · rw [Nat.min_eq_left h]
    by_cases h2 : b ≤ xs.length
    · rw [Nat.min_eq_left h2]
    · rw [Nat.min_eq_right (by omega), List.take_of_length_le (by rw [List.length_drop]; omega), List.take_of_length_le (by rw [List.length_drop]; omega)]
  · rw [Nat.min_eq_right (a := a) (by omega), List.drop_length, List.drop_of_length_le (by omega)]
    simp
theorem strOk_small {t : Str} (h : ∀ c ∈ cs t, c < 1114112) : PyData.strOk t = true := by
  unfold PyData.strOk
  rw [← Array.all_toList, List.all_eq_true]
  intro c hc
  exact decide_eq_true (h c hc)
theorem atI_map {xs : List Int} {k : Int} (h0 : 0 ≤ k) (h1 : k < xs.length) : atI (xs.map V.int) k = some (.int (xs.getD k.toNat 0)) := by
  have hk' : k.toNat < xs.length := by omega
  have e : (k.toNat : Int) = k := Int.toNat_of_nonneg h0
  rw [← e]
  refine atI_nat ?_
  rw [List.getElem?_map, List.getElem?_eq_getElem hk', Int.toNat_natCast, List.getD_eq_getElem?_getD, List.getElem?_eq_getElem hk']
  rfl
end L4

/-! ### sets of ints: the table's places rise -/
namespace L6
open PySem PySem.Spec PyProof.Rows L2 L3 L4

def Rising (xs : Array Nat) : Prop := ∀ i k, i < k → k < xs.size → xs.getD i 0 < xs.getD k 0
theorem getD_any {xs : Array Nat} {i : Nat} (h : i < xs.size) (a b : Nat) : xs.getD i a = xs.getD i b := by simp [Array.getD, h]
theorem go_spec (xs : Array Nat) (j : Nat) (R : Rising xs) : ∀ (fuel lo hi : Nat), hi - lo ≤ fuel → lo ≤ hi → hi ≤ xs.size → (∀ i, i < lo → xs.getD i 0 < j) → (∀ i, hi ≤ i → i < xs.size → j ≤ xs.getD i 0) →
    SetTable.below.go xs j fuel lo hi ≤ xs.size ∧ (∀ i, i < SetTable.below.go xs j fuel lo hi → xs.getD i 0 < j) ∧ (∀ i, SetTable.below.go xs j fuel lo hi ≤ i → i < xs.size → j ≤ xs.getD i 0)
  | 0, lo, hi, hf, hl, hh, a, b => by
    have e : lo = hi := by omega
    subst e
    exact ⟨hh, a, b⟩
  | fuel + 1, lo, hi, hf, hl, hh, a, b => by
    unfold SetTable.below.go
    by_cases hlt : lo < hi
    · rw [if_pos hlt]
      dsimp only
      have hm : (lo + hi) / 2 < xs.size := by omega
      rw [getD_any hm j 0]
      by_cases hc : xs.getD ((lo + hi) / 2) 0 < j
      · rw [if_pos hc]
        refine go_spec xs j R fuel _ hi (by omega) (by omega) hh (fun i hi' => ?_) b
        by_cases e : i = (lo + hi) / 2
        · rw [e]; exact hc
        · exact Nat.lt_trans (R i _ (by omega) hm) hc
      · rw [if_neg hc]
        refine go_spec xs j R fuel lo _ (by omega) (by omega) (by omega) a fun i h1 h2 => ?_
        by_cases e : i = (lo + hi) / 2
        · rw [e]; omega
        · have := R _ i (show (lo + hi) / 2 < i by omega) h2
          omega
    · rw [if_neg hlt]
      have e : lo = hi := by omega
      subst e
      exact ⟨hh, a, b⟩
theorem below_spec {xs : Array Nat} (R : Rising xs) (j : Nat) : SetTable.below xs j ≤ xs.size ∧ (∀ i, i < SetTable.below xs j → xs.getD i 0 < j) ∧ (∀ i, SetTable.below xs j ≤ i → i < xs.size → j ≤ xs.getD i 0) :=
  go_spec xs j R xs.size 0 xs.size (by omega) (Nat.zero_le _) (Nat.le_refl _) (fun i h => absurd h (by omega)) fun i h1 h2 => absurd h1 (by omega)
theorem getD_ins {xs : Array Nat} {p : Nat} (hp : p ≤ xs.size) (x i : Nat) : (SetTable.insertAt xs p x).getD i 0 = if i < p then xs.getD i 0 else if i = p then x else xs.getD (i - 1) 0 := by
  have e := SetTable.toList_insertAt xs p x
  have hl : xs.toList.length = xs.size := by simp
  have key : ∀ (ys : Array Nat) (k : Nat), ys.getD k 0 = (ys.toList[k]?).getD 0 := fun ys k => by simp [Array.getD_eq_getD_getElem?]
  rw [key, key, key, e]
  by_cases h1 : i < p
  · rw [if_pos h1, List.getElem?_append_left (by rw [List.length_take]; omega), List.getElem?_take_of_lt h1]
  · rw [if_neg h1, List.getElem?_append_right (by rw [List.length_take]; omega), List.length_take, Nat.min_eq_left (by omega)]
    by_cases h2 : i = p
    · subst h2
      rw [if_pos rfl, Nat.sub_self]; rfl
    · rw [if_neg h2]
      obtain ⟨k, hk⟩ : ∃ k, i - p = k + 1 := ⟨i - p - 1, by omega⟩
      rw [hk, List.getElem?_cons_succ, List.getElem?_drop]
      congr 2
      omega
theorem size_ins {xs : Array Nat} {p : Nat} (hp : p ≤ xs.size) (x : Nat) : (SetTable.insertAt xs p x).size = xs.size + 1 := by
  have e := congrArg List.length (SetTable.toList_insertAt xs p x)
  simp at e
  omega
theorem rising_ins {xs : Array Nat} (R : Rising xs) {j : Nat} (hj : ∀ i, i < xs.size → xs.getD i 0 ≠ j) : Rising (SetTable.insertAt xs (SetTable.below xs j) j) := by
  obtain ⟨b0, b1, b2⟩ := below_spec R j
  generalize SetTable.below xs j = p at b0 b1 b2
  intro i k hik hk
  rw [size_ins b0] at hk
  rw [getD_ins b0, getD_ins b0]
  by_cases h1 : i < p
  · rw [if_pos h1]
    by_cases h2 : k < p
    · rw [if_pos h2]; exact R i k hik (by omega)
    · rw [if_neg h2]
      by_cases h3 : k = p
      · rw [if_pos h3]; exact b1 i h1
      · rw [if_neg h3]
        exact Nat.lt_of_lt_of_le (b1 i h1) (b2 (k - 1) (by omega) (by omega))
  · rw [if_neg h1, if_neg (show ¬ k < p by omega), if_neg (show ¬ k = p by omega)]
    by_cases h2 : i = p
    · rw [if_pos h2]
      have h3 := b2 (k - 1) (by omega) (by omega)
      have h4 := hj (k - 1) (by omega)
      omega
    · rw [if_neg h2]; exact R (i - 1) (k - 1) (by omega) (by omega)
/-- a slot that is not taken -/
theorem free_slot {t : SetTable} (R : Rising t.place) {j : Nat} (h : ∀ i, t.slot j ≠ .live i) : ∀ i, i < t.place.size → t.place.getD i 0 ≠ j := by
  intro i hi e
  obtain ⟨b0, b1, b2⟩ := below_spec R j
  have hb : i = SetTable.below t.place j := by
    rcases Nat.lt_trichotomy i (SetTable.below t.place j) with z | z | z
    · have := b1 i z; omega
    · exact z
    · have := b2 _ (Nat.le_refl _) (Nat.lt_trans z hi)
      have := R _ i z hi
      omega
  refine h (SetTable.below t.place j) ?_
  unfold SetTable.slot
  dsimp only
  have : t.place[SetTable.below t.place j]? = some j := by
    rw [← hb, ← e]
    simp [Array.getD, hi]
  rw [this]
  simp
theorem probe_free {t : SetTable} {hashAt : Nat → Int} {h : Int} : ∀ (fuel : Nat) (p : SetTable.Probe), (∀ d, p.dummy = some d → ∀ i, t.slot d ≠ .live i) → ∀ j d, SetTable.probe.go t hashAt h fuel p = some (.empty j d) →
    (∀ i, t.slot j ≠ .live i) ∧ ∀ d', d = some d' → ∀ i, t.slot d' ≠ .live i
  | 0, p, hp, j, d, e => by unfold SetTable.probe.go at e; cases e
  | fuel + 1, p, hp, j, d, e => by
    unfold SetTable.probe.go at e
    cases hs : t.slot p.j with
    | empty =>
      rw [hs] at e
      cases e
      exact ⟨fun i z => (by rw [hs] at z; cases z), hp⟩
    | dummy =>
      rw [hs] at e
      refine probe_free fuel _ (fun d' hd' => ?_) j d e
      have : (t.advance { p with dummy := some p.j }).dummy = some p.j := by unfold SetTable.advance; split <;> rfl
      rw [this] at hd'
      cases hd'
      exact fun i z => by rw [hs] at z; cases z
    | live i =>
      rw [hs] at e
      dsimp only at e
      split at e
      · cases e
      · refine probe_free fuel _ (fun d' hd' => ?_) j d e
        have : (t.advance p).dummy = p.dummy := by unfold SetTable.advance; split <;> rfl
        rw [this] at hd'
        exact hp d' hd'
theorem freeSlot_free {t : SetTable} {h : Int} {slot : Nat} {wd : Bool} (e : t.freeSlot h = some (slot, wd)) : ∀ i, t.slot slot ≠ .live i := by
  unfold SetTable.freeSlot at e
  split at e
  · rename_i j d hq
    unfold SetTable.probe at hq
    obtain ⟨a, b⟩ := probe_free _ _ (fun d' hd' => by
      have : (t.probeStart h).dummy = none := rfl
      rw [this] at hd'; cases hd') j d hq
    cases d with
    | none => cases e; exact a
    | some d' => cases e; exact b d' rfl
  · cases e
/-- what holds of a set's table -/
structure Good (t : SetTable) (n : Nat) (led : Bool) : Prop where
  fits : t.fits n = true
  led : t.led = led
  rise : t.plain = true → Rising t.place
theorem good_stand (t : SetTable) (n : Nat) {led : Bool} (h : t.led = led) : Good (t.standIn n) n led := ⟨SetTable.standIn_fits t n, h, fun z => by cases z⟩
theorem good_new {t : SetTable} {es : Array (Int × Value)} {h : Int} {x : Value} {led : Bool} (g : Good t es.size led) : Good (layNew t es h x).2.1 (layNew t es h x).1.size led := by
  refine ⟨layNew_fits t es h x, ?_, ?_⟩
  · unfold layNew
    split
    · dsimp only
      unfold SetTable.orStandIn
      split
      · exact g.led
      · exact g.led
    · exact g.led
  · unfold layNew
    split
    · rename_i slot wd hs
      dsimp only
      unfold SetTable.orStandIn
      split
      · intro hp
        exact rising_ins (g.rise hp) (free_slot (g.rise hp) (freeSlot_free hs))
      · intro z; cases z
    · intro z; cases z
theorem rising_live (f : Nat → Option Nat) (n : Nat) : Rising ((((List.range n).filterMap fun j => (f j).map (j, ·)).map (·.1)).toArray) := by
  have e : (((List.range n).filterMap fun j => (f j).map (j, ·)).map (·.1)) = (List.range n).filter fun j => (f j).isSome := by
    generalize List.range n = l
    induction l with
    | nil => rfl
    | cons a l ih =>
      rw [List.filterMap_cons, List.filter_cons]
      cases hf : f a with
      | none => simpa using ih
      | some b => simpa using ih
  rw [e]
  have hp : ((List.range n).filter fun j => (f j).isSome).Pairwise (· < ·) := List.Pairwise.filter _ List.pairwise_lt_range
  generalize (List.range n).filter (fun j => (f j).isSome) = l at hp
  intro i k hik hk
  have hk' : k < l.length := by simpa using hk
  have := List.pairwise_iff_getElem.mp hp i k (by omega) hk' hik
  simpa [Array.getD, hk', show i < l.length by omega] using this
theorem good_relay {t : SetTable} {es : Array (Int × Value)} {n : Nat} {led : Bool} (g : Good t es.size led) : Good (relayAll t es n).2.1 (relayAll t es n).1.size led := by
  refine ⟨relayAll_fits t es n, ?_, ?_⟩
  · unfold relayAll
    split
    · rename_i t' order hr
      dsimp only
      split
      · unfold SetTable.relaid SetTable.laid at hr
        simp only [Option.bind_eq_bind, Option.bind_eq_some_iff, Option.pure_def, Option.some.injEq, Prod.mk.injEq] at hr
        obtain ⟨_, _, rfl, _⟩ := hr
        exact g.led
      · exact g.led
    · exact g.led
  · unfold relayAll
    split
    · rename_i t' order hr
      dsimp only
      split
      · unfold SetTable.relaid SetTable.laid at hr
        simp only [Option.bind_eq_bind, Option.bind_eq_some_iff, Option.pure_def, Option.some.injEq, Prod.mk.injEq] at hr
        obtain ⟨owner, _, rfl, _⟩ := hr
        intro _
        exact rising_live (fun j => owner.getD j none) _
      · intro z; cases z
    · intro z; cases z
end L6

/-! ### sets of ints: made of a list -/
namespace L6
open PySem PySem.Spec PyProof.Rows L2 L3 L4
open Sem (wp)
def ledOf (w : World) : Bool := !w.params.followText "set-order"
/-- the set at a holds just the ints ks -/
def SetG (P : Program) (w : World) (h : Heap) (a : Addr) (ks : List Int) : Prop :=
  ∃ o es ep t, h.get? a = some o ∧ o.ExactSet ∧ o.data = .set es ep t ∧ ElemsOf (intKind P w) es.toList ∧ (∃ ms, IntsAre (es.toList.map (·.2)) ms ∧ ms.Perm ks) ∧ ks.Nodup ∧ es.size < scanBound ∧ Good t es.size (ledOf w)
theorem SetG.at {P : Program} {w : World} {h h' : Heap} {a : Addr} {ks : List Int} (x : SetG P w h a ks) (k : ∀ o, h.get? a = some o → h'.get? a = some o) : SetG P w h' a ks :=
  let ⟨o, es, ep, t, e, r⟩ := x; ⟨o, es, ep, t, k _ e, r⟩
theorem IntsAre.perm_map {xs ys : List Value} (p : List.Perm xs ys) : ∀ {ns : List Int}, IntsAre ys ns → ∃ ms, IntsAre xs ms ∧ ms.Perm ns := by
  induction p with
  | nil => intro ns h; exact ⟨ns, h, .refl _⟩
  | cons x _ ih =>
    intro ns h
    cases h with
    | cons n t h =>
      obtain ⟨ms, a, b⟩ := ih h
      exact ⟨n :: ms, .cons n t a, b.cons n⟩
  | swap x y l =>
    intro ns h
    cases h with
    | cons n t h =>
      cases h with
      | cons m u h => exact ⟨m :: n :: _, .cons m u (.cons n t h), .swap _ _ _⟩
  | trans _ _ ih1 ih2 =>
    intro ns h
    obtain ⟨ms, a, b⟩ := ih2 h
    obtain ⟨ls, c, d⟩ := ih1 a
    exact ⟨ls, c, d.trans b⟩
theorem IntsAre.snoc {n : Int} {t : Tok} : ∀ {vs : List Value} {ns : List Int}, IntsAre vs ns → IntsAre (vs ++ [.int n t]) (ns ++ [n])
  | _, _, .nil => .cons n t .nil
  | _, _, .cons m u h => .cons m u (IntsAre.snoc h)
section
variable {prog : Program} {w : World} {A : Around} {E : Value → Shared → Prop} {s : Shared}
theorem find_mem {k : Int} : ∀ {l : List (Int × Value)} {ms : List Int}, IntsAre (l.map (·.2)) ms → ((l.findIdx? fun e => (intKind prog w).is k e.2).isSome = true ↔ k ∈ ms)
  | [], _, h => by cases h; simp
  | (c, v) :: l, _, h => by
    cases h with
    | cons n t h =>
      have ih := find_mem (k := k) (l := l) h
      rw [List.findIdx?_cons]
      have e : (intKind prog w).is k (Value.int n t) = decide (k = n) := by
        rw [KeyKind.is_eq_decide (intKind_is prog w n t) k]
      show (if (intKind prog w).is k (Value.int n t) = true then _ else _ : Option Nat).isSome = true ↔ _
      rw [e]
      by_cases hk : k = n
      · subst hk; simp
      · simp only [hk, decide_false, Bool.false_eq_true, if_false, Option.isSome_map, ih, List.mem_cons, false_or]
theorem hashKind (n : Int) (t : Tok) : hashByValue 8 (Value.int n t) = pure true := by rw [hashByValue_scannable 8 rfl]; rfl
theorem store_good {a : Addr} {o : Obj} {es : Array (Int × Value)} {ep : Nat} {t : SetTable} {es' : Array (Int × Value)} {t' : SetTable} {ks : List Int} {h : Heap} (ho : h.get? a = some o) (hx : o.ExactSet) (hd : o.data = .set es ep t)
    (he : ElemsOf (intKind prog w) es'.toList) (hm : ∃ ms, IntsAre (es'.toList.map (·.2)) ms ∧ ms.Perm ks) (hn : ks.Nodup) (hb : es'.size < scanBound) (hg : Good t' es'.size (ledOf w)) :
    (h.update a (Obj.putSet es' t')).get? a = some { o with data := .set es' (ep + 1) t' } ∧ SetG prog w (h.update a (Obj.putSet es' t')) a ks := by
  have q := Heap.get?_update_self (Obj.putSet es' t') ho (by rw [putSet_of es' t' hd]; rfl)
  rw [putSet_of es' t' hd] at q
  exact ⟨q, _, es', ep + 1, t', q, hx, rfl, he, hm, hn, hb, hg⟩
theorem add_good {a : Addr} {ks : List Int} {n : Int} {tk : Tok} {Q : Bool → Shared → Prop} (S : SetG prog w s.heap a ks) (hroom : ks.length + 1 < scanBound)
    (h : ∀ h' b, Heap.SameBut a s.heap h' → SetG prog w h' a (if n ∈ ks then ks else ks ++ [n]) → Q b { s with heap := h' }) :
    wpAny (model prog w) A (setAddHashed a (.int n tk) ((intKind prog w).hash n)) Q E s := by
  obtain ⟨o, es, ep, t, ho, hx, hd, hel, ⟨ms, hi, hp⟩, hn, hb, g⟩ := S
  have hkey : (intKind prog w).is n (.int n tk) = true := intKind_is prog w n tk
  have hsz : es.size = ks.length := by
    rw [← hp.length_eq, ← IntsAre.length hi, List.length_map, Array.length_toList]
  unfold setAddHashed setAddHashedIn
  refine wpAny_holding (wpAny_bind (wpAny_setState_of ho hd g.fits ?_))
  dsimp only
  rw [byScan_of rfl hb hel]
  simp only [↓reduceIte]
  unfold setAddByScan
  refine wpAny_bind (wpAny_bind (wpAny_rule (wpAny_bind (wpAny_setScan_of hkey ho hd g.fits hel ?_))))
  have fm := find_mem (prog := prog) (w := w) (k := n) hi
  cases hr : List.findIdx? (fun e => (intKind prog w).is n e.2) es.toList with
  | some j =>
    dsimp only
    have hin : n ∈ ks := hp.mem_iff.mp (fm.mp (by rw [hr]; rfl))
    rw [if_pos hin] at h
    have es' : s = { s with heap := s.heap } := by cases s; rfl
    have := h s.heap false (Heap.SameBut.refl a s.heap) ⟨o, es, ep, t, ho, hx, hd, hel, ⟨ms, hi, hp⟩, hn, hb, g⟩
    rw [es']
    exact wpAny_pure (wpAny_pure this)
  | none =>
    dsimp only
    have hin : n ∉ ks := fun z => by
      have := fm.mpr (hp.mem_iff.mpr z)
      rw [hr] at this
      cases this
    rw [if_neg hin] at h
    have hperm := layNew_perm t es ((intKind prog w).hash n) (.int n tk)
    have hg := good_new (h := (intKind prog w).hash n) (x := Value.int n tk) g
    generalize hL : layNew t es ((intKind prog w).hash n) (.int n tk) = L at hperm hg ⊢
    obtain ⟨es1, t1, wd, gave⟩ := L
    dsimp only at hperm hg ⊢
    rw [Array.toList_push] at hperm
    have hel1 : ElemsOf (intKind prog w) es1.toList := (hel.push hkey rfl).perm hperm
    have hz1 : es1.size = ks.length + 1 := by rw [← Array.length_toList, hperm.length_eq, List.length_append, Array.length_toList, hsz]; rfl
    have hb1 : es1.size < scanBound := by omega
    have hm1 : ∃ ms', IntsAre (es1.toList.map (·.2)) ms' ∧ ms'.Perm (ks ++ [n]) := by
      have hp2 : List.Perm (es1.toList.map (·.2)) (es.toList.map (·.2) ++ [.int n tk]) := by
        have := hperm.map (·.2)
        rwa [List.map_append] at this
      obtain ⟨ms', c1, c2⟩ := IntsAre.perm_map hp2 (IntsAre.snoc hi)
      exact ⟨ms', c1, c2.trans (hp.append_right _)⟩
    have hn1 : (ks ++ [n]).Nodup := List.nodup_append.mpr ⟨hn, by simp, fun x hx' y hy e => hin (by rw [List.mem_singleton.mp hy] at e; rw [← e]; exact hx')⟩
    have gw : ∀ (b : Bool) (s₁ : Shared) (Q' : Unit → Shared → Prop), Q' () s₁ → wpAny (model prog w) A (match b with | true => rule "set.scan.the-table-gave-way" | false => pure ()) Q' E s₁ := fun b s₁ Q' q => by
      cases b <;> first | exact wpAny_pure q | exact wpAny_rule q
    refine wpAny_bind (gw _ _ _ ?_)
    have tail : ∀ (t2 : SetTable), t2 = t1 → wpAny (model prog w) A (do
        storeSet a es1 t2
        if (!wd && t2.tooFull) = true then do
            (match (relayAll t2 es1 (SetTable.grown es1.size)).2.2 with | true => rule "set.scan.the-table-gave-way" | false => pure ())
            storeSet a (relayAll t2 es1 (SetTable.grown es1.size)).1 (relayAll t2 es1 (SetTable.grown es1.size)).2.1
            pure (some true)
          else pure (some true)) (fun r s' => wpAny (model prog w) A (match r with | some added => pure added | none => setAddHashedIn a (.int n tk) ((intKind prog w).hash n) 99999) Q E s') E s := by
      rintro t2 rfl
      refine wpAny_bind (wpAny_storeSet_of ho hd ?_ (fits_of_scanBound hb1))
      obtain ⟨ho1, S1⟩ := store_good (prog := prog) (w := w) ho hx hd hel1 hm1 hn1 hb1 hg
      have sb1 := Heap.SameBut.update s.heap a (Obj.putSet es1 t2)
      split
      · have pr := relayAll_perm t2 es1 (SetTable.grown es1.size)
        have gr := good_relay (n := SetTable.grown es1.size) hg
        generalize relayAll t2 es1 (SetTable.grown es1.size) = R at pr gr ⊢
        obtain ⟨es2, t3, gv⟩ := R
        dsimp only at pr gr ⊢
        have hz2 : es2.size = es1.size := by rw [← Array.length_toList, pr.length_eq, Array.length_toList]
        refine wpAny_bind (gw _ _ _ (wpAny_bind (wpAny_storeSet_of ho1 rfl ?_ (fits_of_scanBound (by omega)))))
        obtain ⟨ms', c1, c2⟩ := hm1
        obtain ⟨ms2, d1, d2⟩ := IntsAre.perm_map (pr.map (·.2)) c1
        obtain ⟨_, S2⟩ := store_good (prog := prog) (w := w) (ks := ks ++ [n]) ho1 hx rfl (hel1.perm pr) ⟨ms2, d1, d2.trans c2⟩ hn1 (by omega) gr
        exact wpAny_pure (wpAny_pure (h _ true (sb1.trans (Heap.SameBut.update _ a _)) S2))
      · exact wpAny_pure (wpAny_pure (h _ true sb1 S1))
    rw [hashKind]
    split
    · exact wpAny_bind (wpAny_pure (tail t1 rfl))
    · exact wpAny_bind (wpAny_pure (tail t1 rfl))
end
end L6

/-! ### set(xs) of a list of ints -/
namespace L6
open PySem PySem.Spec PyProof.Rows L2 L3 L4
open Sem (wp)
def addI (acc : List Int) (n : Int) : List Int := if n ∈ acc then acc else acc ++ [n]
/-- the unlike ones, in the order in which they come -/
def dedup (ns : List Int) : List Int := ns.foldl addI []
theorem dedup_snoc (ns : List Int) (n : Int) : dedup (ns ++ [n]) = addI (dedup ns) n := by unfold dedup; rw [List.foldl_append]; rfl
theorem addI_len (acc : List Int) (n : Int) : (addI acc n).length ≤ acc.length + 1 := by unfold addI; split <;> simp
theorem dedup_len : ∀ ns : List Int, (dedup ns).length ≤ ns.length := by
  have : ∀ (ns acc : List Int), (ns.foldl addI acc).length ≤ acc.length + ns.length := by
    intro ns
    induction ns with
    | nil => intro acc; simp
    | cons n ns ih =>
      intro acc
      have h1 := ih (addI acc n)
      have h2 := addI_len acc n
      rw [List.foldl_cons, List.length_cons]
      omega
  intro ns
  have := this ns []
  simpa [dedup] using this
theorem mem_dedup {ns : List Int} {k : Int} : k ∈ dedup ns ↔ k ∈ ns := by
  have : ∀ (ns acc : List Int), k ∈ ns.foldl addI acc ↔ k ∈ acc ∨ k ∈ ns := by
    intro ns
    induction ns with
    | nil => intro acc; simp
    | cons n ns ih =>
      intro acc
      rw [List.foldl_cons, ih, List.mem_cons]
      unfold addI
      split
      · rename_i h
        constructor
        · rintro (a | a)
          · exact .inl a
          · exact .inr (.inr a)
        · rintro (a | rfl | a)
          · exact .inl a
          · exact .inl h
          · exact .inr a
      · rw [List.mem_append, List.mem_singleton, or_assoc]
  have := this ns []
  simpa [dedup] using this
theorem take_all_snoc {ns : List Int} {i : Nat} (h : i < ns.length) : ns.take (i + 1) = ns.take i ++ [ns.getD i 0] := by
  rw [List.take_succ, List.getD_eq_getElem?_getD, List.getElem?_eq_getElem h]; rfl
section
variable {prog : Program} {w : World} {A : Around} {E : Value → Shared → Prop} {s : Shared}
/-- an empty set, as the maker leaves it -/
def bareSet (w : World) : Obj := { cls := .type "set", dict := none, data := .set #[] 0 (.fresh 0 0 (ledOf w)) }
/-- one turn of the loop that fills a set -/
theorem loop_turn {R : Result → Shared → Prop} {I S : Addr} (h : wpAny (model prog w) A.in1 (pyNext (.ref I)) (fun x s' => match x with
      | none => R (.ok (.ret .none)) s'
      | some v => wpAny (model prog w) A.in1 (setAdd S v) (fun _ s2 => codeAny (model prog w) A (.builtin "set.update.loop" ⟨[.ref S, .ref I], []⟩) R s2) (fun e s2 => R (.error e) s2) s') (fun e s' => R (.error e) s') s) :
    codeAny (model prog w) A (.builtin "set.update.loop" ⟨[.ref S, .ref I], []⟩) R s := by
  refine codeAny_builtin F.entry_set_update_loop ?_
  rw [Around.under_plainId F.plain_set_update_loop _]
  unfold Builtin.«set.update.loop»
  refine wpAny_bind (wpAny_mono h (fun x s' hx => ?_) fun _ _ z => z)
  cases x with
  | none => exact wpAny_pure hx
  | some v => exact wpAny_bind (wpAny_holding (wpAny_mono hx (fun _ _ z => wpAny_pure ⟨plainId_quiet F.plain_set_update_loop _, z⟩) fun _ _ z => z))
theorem loop_good {R : Result → Shared → Prop} {I S : Addr} {fp wr : List Addr} {G : Array GenState → Array GenState → Prop} {P : Nat → Value → Prop} {St : Nat → Shared → Prop} {ns : List Int} (W : WalksS prog w A.in1 I fp wr G ns.length P St) (hS : S ∉ fp)
    (hv : ∀ i v, P i v → ∃ t, v = .int (ns.getD i 0) t) (hb : ns.length + 1 < scanBound) (hR : ∀ s', Moved (S :: wr) G s s' → SetG prog w s'.heap S (dedup ns) → R (.ok (.ret .none)) s') (st0 : St 0 s) (G0 : SetG prog w s.heap S []) :
    codeAny (model prog w) A (.builtin "set.update.loop" ⟨[.ref S, .ref I], []⟩) R s := by
  have all : ∀ (left i : Nat) (s1 : Shared), i + left = ns.length → Moved (S :: wr) G s s1 → St i s1 → SetG prog w s1.heap S (dedup (ns.take i)) → codeAny (model prog w) A (.builtin "set.update.loop" ⟨[.ref S, .ref I], []⟩) R s1 := by
    have keepS : ∀ {u u' : Shared} {ks : List Int}, Moved wr G u u' → SetG prog w u.heap S ks → SetG prog w u'.heap S ks := fun mv g => g.at fun o e => mv.heap S o (fun z => hS (W.sub _ z)) e
    have wide : ∀ {u u' : Shared}, Moved wr G u u' → Moved (S :: wr) G u u' := fun mv => mv.mono fun b z => List.mem_cons_of_mem _ z
    intro left
    induction left with
    | zero =>
      intro i s1 hi mv st g
      obtain rfl : ns.length = i := hi.symm
      refine loop_turn (W.done s1 _ _ st fun s2 mv2 => hR s2 (mv.trans W.gtrans (wide mv2)) ?_)
      have := keepS mv2 g
      rwa [List.take_length] at this
    | succ left ih =>
      intro i s1 hi mv st g
      have hlt : i < ns.length := by omega
      refine loop_turn (W.item i s1 _ _ hlt st fun v s2 p st2 mv2 => ?_)
      obtain ⟨t, rfl⟩ := hv i v p
      have short := dedup_len (ns.take i)
      rw [List.length_take] at short
      have next : dedup (ns.take (i + 1)) = if ns.getD i 0 ∈ dedup (ns.take i) then dedup (ns.take i) else dedup (ns.take i) ++ [ns.getD i 0] := by
        rw [take_all_snoc hlt, dedup_snoc]
        rfl
      have g2 := keepS mv2 g
      unfold setAdd
      refine wpAny_holding (wpAny_bind ((intKind prog w).pyHash (k := ns.getD i 0) (intKind_is _ _ _ _) (add_good (s := { s2 with toks := s2.toks + 1 }) g2 (by omega) fun h3 b sb g3 => ?_)))
      rw [← next] at g3
      have old : ∀ b o, b ≠ S → s2.heap.get? b = some o → h3.get? b = some o := fun b o ne e => (sb.2 b ne).trans e
      refine ih (i + 1) _ (by omega) (mv.trans W.gtrans ((wide mv2).then_heap (Nat.le_succ _) fun b o ne e => old b o (fun z => ne (z ▸ List.mem_cons_self)) e)) (W.frame _ s2 _ _ st2 (Nat.le_succ _) fun b hb o e => old b o (fun z => hS (z ▸ hb)) e) g3
  exact all ns.length 0 s (Nat.zero_add _) (Moved.refl W.grefl) st0 G0
/-- set.__new__ -/
theorem new_set {v : Value} {R : Result → Shared → Prop} (h : R (.ok (.ret (.ref s.heap.objs.size))) { s with heap := s.heap.push (bareSet w) }) : codeAny (model prog w) A (.call (.builtin "set.__new__") ⟨[.type "set", v], []⟩) R s := by
  refine codeAny_call_builtin F.plain_set_new F.entry_set_new (wpAny_of_eq (F.newCall_set_1 v) ?_)
  unfold Builtin.«set.__new__» Builtin.Frozenset.newClass
  have self := sub_set_self
  wp_walk
  refine wpAny_askSetting (wpAny_pure ?_)
  wp_walk
  exact h
/-- what set.__init__ does to a bare set at S, handed a list of ints -/
theorem init_set {S l : Addr} {items : Array Value} {ns : List Int} {P : PySem.Fin → Shared → Prop} (hh : A.handled = none) (hS : s.heap.get? S = some (bareSet w)) (hl : s.heap.IsList l items) (hi : IntsAre items.toList ns) (hb : ns.length + 1 < scanBound)
    (h : ∀ (h' : Heap) (tk : Nat), SetG prog w h' S (dedup ns) → (∀ b o, b ≠ S → s.heap.get? b = some o → h'.get? b = some o) → P (.done (.ret .none)) { s with heap := h', toks := tk }) : wpAny (model prog w) A (Builtin.«set.__init__» ⟨[.ref S, .ref l], []⟩) P E s := by
  have hn : items.size = ns.length := by rw [← Array.length_toList]; exact IntsAre.length hi
  obtain ⟨o, eo, co, nl, dl⟩ := id hl
  have hSl : l ≠ S := fun z => by
    rw [z, hS] at eo
    rw [← Option.some.inj eo] at co
    exact absurd (show Value.type "set" = Value.type "list" from co) (by decide)
  have y1 := F.sub_list_set
  have y2 := F.sub_list_frozenset
  have ltS := Heap.lt_size hS
  have ltl := Heap.lt_size eo
  cases o
  cases co
  clear dl
  unfold Builtin.«set.__init__» noKeywords Builtin.Frozenset.updateFrom
  generalize hp : pyIter = it
  wp_walk
  subst hp
  refine wpAny_pyIter_list hl (wpAny_bind (wpAny_runValue ?_))
  have ne1 : l ≠ s.heap.objs.size := Nat.ne_of_lt ltl
  have ne2 : S ∉ [s.heap.objs.size, l] := fun z => by
    rcases List.mem_cons.mp z with z | z
    · exact Nat.ne_of_lt ltS z
    · exact hSl (List.mem_singleton.mp z).symm
  have W := (Walks.list (prog := prog) (w := w) (A := A.in1) hh s.heap.objs.size l ne1 items).toS
  rw [hn] at W
  refine loop_good (ns := ns) W ne2 (fun i v hv => PyProof.Rows.IntsAre.int_at hi i v (by rw [Array.getElem?_toList]; exact hv)) hb (fun s' mv g => ?_) ⟨⟨_, Heap.get?_push_size _ rfl, rfl, rfl⟩, hl.push _⟩ ?_
  · have es' : s' = { s with heap := s'.heap, toks := s'.toks } := by
      have g1 := mv.gens
      have g2 := mv.drawn
      have g3 := mv.os
      cases s'
      simp only at g1 g2 g3
      subst g1 g2 g3
      rfl
    rw [es']
    refine wpAny_pure (wpAny_pure (h _ _ g fun b o ne e => mv.heap b o (fun z => ?_) (Heap.get?_push_of_some _ e)))
    rcases List.mem_cons.mp z with z | z
    · exact ne z
    · exact Nat.ne_of_lt (Heap.lt_size e) (List.mem_singleton.mp z)
  · exact ⟨bareSet w, #[], 0, .fresh 0 0 (ledOf w), Heap.get?_push_of_some _ hS, ⟨rfl, rfl, rfl⟩, rfl, (fun e he => by simp at he), ⟨[], .nil, .refl _⟩, List.nodup_nil, by decide, rfl, rfl, fun _ i k _ hk => absurd hk (by show ¬ k < 0; omega)⟩
set_option maxHeartbeats 1000000 in
/-- set(xs) -/
theorem call_set_ints {l : Addr} {items : Array Value} {ns : List Int} {Q : Value → Shared → Prop} (hh : A.handled = none) (hl : s.heap.IsList l items) (hi : IntsAre items.toList ns) (hb : ns.length + 1 < scanBound)
    (h : ∀ (h' : Heap) (tk : Nat), SetG prog w h' s.heap.objs.size (dedup ns) → (∀ b o, s.heap.get? b = some o → h'.get? b = some o) → Q (.ref s.heap.objs.size) { s with heap := h', toks := tk }) :
    wpAny (model prog w) A (call (.type "set") [.ref l]) Q E s := by
  have x1 := F.called_set.made
  have x2 := F.called_set.sub
  have x3 := F.called_set.notType
  have x4 := F.called_set.canCreate
  have x5 := F.typeCall_set_1 (.ref l)
  obtain ⟨c, tl, x6⟩ := F.called_set.mro
  refine wpAny_call (codeAny_of_tree ?_)
  wp_walk
  refine ⟨Code.quiet_builtin _ (by decide +kernel), codeAny_builtin F.entry_type_call ?_⟩
  rw [Around.under_plain (weight_type_call_type "set" [.ref l] []) (units_type_call_type _ _ _)]
  wp_walk
  refine new_set ?_
  have eS : (s.heap.push (bareSet w)).get? s.heap.objs.size = some (bareSet w) := Heap.get?_push_size _ rfl
  have hT : Shared.TypeIs { s with heap := s.heap.push (bareSet w) } (.ref s.heap.objs.size) "set" := ⟨_, eS, rfl⟩
  have z1 := F.called_set.init.lookup
  have z2 := F.called_set.init.bind (.ref s.heap.objs.size)
  refine wpAny_bind (wpAny_isInstance hT x2 (wpAny_ite_split (fun z => nomatch z) fun _ => ?_))
  wp_walk
  refine codeAny_call_builtin F.called_set.init.plain F.entry_set_init (check_set_init_1 hT (init_set (s := { s with heap := s.heap.push (bareSet w) }) hh eS (hl.push _) hi hb fun h' tk g k => ?_))
  wp_walk
  exact h h' tk g fun b o e => k b o (Nat.ne_of_lt (Heap.lt_size e)) (Heap.get?_push_of_some _ e)
end
end L6

/-! ### a set of ints is walked -/
namespace L6
open PySem PySem.Spec PyProof.Rows L2 L3 L4
open Sem (wp)
theorem slot_sit_next : Slot "set_iterator" "__next__" "set_iterator.__next__" := .of (owner := "set_iterator") (n := "__next__") (by rw [typeLookup_type, builtinLookup_eq_fast]; kernel_rfl) (by decide +kernel) (by decide +kernel) (by decide +kernel) (by first | exact .inl (by decide +kernel) | exact .inr (by decide +kernel)) (by rw [isSubtype_type]; kernel_rfl)
theorem entry_sit_next : entryFor table "set_iterator.__next__" = some Builtin.«set_iterator.__next__» := entryFor_of_fast (by kernel_rfl)
theorem args_sit_next (a : Value) : argsOk "set_iterator.__next__" ⟨[a], []⟩ := by unfold argsOk; kernel_rfl
theorem entry_set_iter2 : entryFor table "set.__iter__" = some Builtin.«frozenset.__iter__» := entryFor_alias (id' := "frozenset.__iter__") (by kernel_rfl) rfl (by decide +kernel) (by kernel_rfl)
theorem erase_perm {α : Type} : ∀ {l : List α} {k : Nat} (h : k < l.length), List.Perm (l[k] :: l.eraseIdx k) l
  | x :: l, 0, _ => .refl _
  | x :: l, k + 1, h => by
    have ih := erase_perm (l := l) (k := k) (by simpa using h)
    exact (List.Perm.swap _ _ _).trans (ih.cons x)
section
variable {M : Model} {A : Around} {E : Value → Shared → Prop} {s : Shared}
theorem choose_any {src : Source} {n : Nat} {Q : Nat → Shared → Prop} (hn : n ≠ 0) (h : ∀ k d', k < n → Q k { s with drawn := d' }) : wpAny M A (choose src n) Q E s := fun Γ p _ => by
  unfold choose
  rw [Sem.wp_choose]
  refine ⟨hn, ?_⟩
  have := h (M.w.draws src (s.drawn.get src) % n) (s.drawn.bump src) (Nat.mod_lt _ (Nat.pos_of_ne_zero hn))
  simpa using this
theorem draw_perm {α : Type} {Q : List α → Shared → Prop} : ∀ (n : Nat) (xs : List α) (s : Shared), xs.length = n → (∀ ys d', List.Perm ys xs → Q ys { s with drawn := d' }) → wpAny M A (drawOrder n xs) Q E s := by
  intro n
  induction n generalizing Q with
  | zero =>
    intro xs s hl h
    have e : xs = [] := List.eq_nil_of_length_eq_zero hl
    subst e
    have := h [] s.drawn (.refl _)
    exact wpAny_pure this
  | succ n ih =>
    intro xs s hl h
    cases xs with
    | nil => cases hl
    | cons x xs =>
      unfold drawOrder
      refine wpAny_bind (choose_any (by simp) fun k d' hk => ?_)
      have hk' : k < (x :: xs).length := hk
      rw [List.getElem?_eq_getElem hk']
      dsimp only
      refine wpAny_bind (ih ((x :: xs).eraseIdx k) _ (by rw [List.length_eraseIdx_of_lt hk']; simp at hl ⊢; omega) fun ys d2 hp => wpAny_pure ?_)
      refine h _ d2 ?_
      exact (hp.cons _).trans (erase_perm hk')
end
theorem pick_go {α : Type} (next : Nat → Nat) : ∀ (fuel k : Nat) (left : List α) (out : Array α), left.length = fuel → List.Perm (pickOrder.go next fuel k left out).toList (out.toList ++ left)
  | 0, k, left, out, h => by
    have e : left = [] := List.eq_nil_of_length_eq_zero h
    subst e
    unfold pickOrder.go
    simp
  | fuel + 1, k, left, out, h => by
    unfold pickOrder.go
    have hk : next k % left.length < left.length := Nat.mod_lt _ (by omega)
    rw [List.getElem?_eq_getElem hk]
    dsimp only
    refine (pick_go next fuel (k + 1) _ _ (by rw [List.length_eraseIdx_of_lt hk]; omega)).trans ?_
    rw [Array.toList_push, List.append_assoc]
    exact (erase_perm hk).append_left _
theorem pick_perm {α : Type} (next : Nat → Nat) (xs : Array α) : List.Perm (pickOrder next xs).toList xs.toList := by
  have := pick_go next xs.size 0 xs.toList #[] (by simp)
  unfold pickOrder
  simpa using this
/-- the iterator of a set -/
abbrev SitObj (first : Value) (i : Nat) (a : Addr) (n ep : Nat) : Obj := { cls := .type "set_iterator", dict := none, data := .fields #[first, rawInt i, .ref a, rawInt n, rawInt ep], slots := #[] }
section
variable {prog : Program} {w : World} {A : Around} {E : Value → Shared → Prop} {s : Shared} {I a : Addr} {i ep : Nat} {o : Obj} {es : Array (Int × Value)} {t : SetTable}
/-- one more -/
theorem sit_some {slot nx : Nat} {x : Value} {Q : Option Value → Shared → Prop} (hI : s.heap.get? I = some (SitObj (rawInt slot) i a es.size ep)) (ha : s.heap.get? a = some o) (hd : o.data = .set es ep t) (hf : t.fits es.size = true)
    (hs : ∀ (A : Around) (E : Value → Shared → Prop) (Q : Option (Value × Nat) → Shared → Prop), Q (some (x, nx)) s → wpAny (model prog w) A (setNext a slot i ep) Q E s)
    (hQ : ∀ h', h'.get? I = some (SitObj (rawInt nx) (i + 1) a es.size ep) → Heap.SameBut I s.heap h' → Q (some x) { s with heap := h' }) : wpAny (model prog w) A (pyNext (.ref I)) Q E s := by
  have hT : s.TypeIs (.ref I) "set_iterator" := ⟨_, hI, rfl⟩
  unfold pyNext
  refine wpAny_bind (wpAny_attempt (wpAny_callSpecial?_slot (name := Str.ofString "__next__") hT slot_sit_next (wpAny_call_entry slot_sit_next hT entry_sit_next ?_ (args_sit_next _))))
  obtain ⟨hp, g, d, tk, os⟩ := s
  refine wpAny_bind (wpAny_pure ?_)
  refine wpAny_bind (wpAny_fieldsOf hI rfl ?_)
  show wpAny _ _ (setEntries a >>= _) _ _ _
  refine wpAny_bind (wpAny_setEntries_of ha hd hf ?_)
  rw [if_neg (by simp [rawInt])]
  show wpAny _ _ (setNext a _ _ _ >>= _) _ _ _
  simp only [Int.toNat_natCast]
  refine wpAny_bind (hs _ _ _ ?_)
  dsimp only
  refine wpAny_bind (wpAny_setField_rec hI (by simp) fun h1 e1 s1 => ?_)
  refine wpAny_bind (wpAny_setField_rec e1 (by simp) fun h2 e2 s2 => wpAny_pure ⟨_, rfl, wpAny_pure (hQ h2 ?_ (Heap.SameBut.trans s1 s2))⟩)
  exact e2
/-- no more -/
theorem sit_none {slot : Nat} {Q : Option Value → Shared → Prop} (hh : A.handled = none) (hI : s.heap.get? I = some (SitObj (rawInt slot) i a es.size ep)) (ha : s.heap.get? a = some o) (hd : o.data = .set es ep t) (hf : t.fits es.size = true)
    (hs : ∀ (A : Around) (E : Value → Shared → Prop) (Q : Option (Value × Nat) → Shared → Prop), Q none s → wpAny (model prog w) A (setNext a slot i ep) Q E s)
    (hQ : ∀ h', Heap.ExtBut I s.heap h' → Q none { s with heap := h' }) : wpAny (model prog w) A (pyNext (.ref I)) Q E s := by
  have hT : s.TypeIs (.ref I) "set_iterator" := ⟨_, hI, rfl⟩
  unfold pyNext
  refine wpAny_bind (wpAny_attempt (wpAny_callSpecial?_slot (name := Str.ofString "__next__") hT slot_sit_next (wpAny_call_entry slot_sit_next hT entry_sit_next ?_ (args_sit_next _))))
  obtain ⟨hp, g, d, tk, os⟩ := s
  refine wpAny_bind (wpAny_pure ?_)
  refine wpAny_bind (wpAny_fieldsOf hI rfl ?_)
  show wpAny _ _ (setEntries a >>= _) _ _ _
  refine wpAny_bind (wpAny_setEntries_of ha hd hf ?_)
  rw [if_neg (by simp [rawInt])]
  show wpAny _ _ (setNext a _ _ _ >>= _) _ _ _
  simp only [Int.toNat_natCast]
  refine wpAny_bind (hs _ _ _ ?_)
  dsimp only
  refine wpAny_bind (wpAny_setField_rec hI (by simp) fun h1 e1 s1 => ?_)
  show wpAny _ _ (newExc (.type "StopIteration") [] >>= _) _ _ _
  refine wpAny_bind ?_
  simp only [newExc, newTuple]
  refine wpAny_bind (wpAny_newObj_type (wpAny_bind (m := firstArgMember _ _) (wpAny_of_eq (a := Value.none) (by first | rfl | (simp only [firstArgMember]; rfl)) (wpAny_newObj_type ?_ (by size_fits)))) (by size_fits))
  simp only [raiseNew]
  refine wpAny_bind (wpAny_handled ?_)
  rw [show A.in1.handled = none from hh]
  refine wpAny_bind (wpAny_pure (wpAny_throw ?_))
  refine (wpAny_bind (wpAny_isInstance (T := "StopIteration") (b := true) ⟨_, Heap.get?_push_size _ rfl, rfl⟩ isSubtype_stop (wpAny_pure (hQ _ ?_))))
  exact ((Heap.SameBut.extBut s1).push _).push _
end
end L6

/-! ### sorted(set(xs)) -/
namespace L6
open PySem PySem.Spec PyProof.Rows L2 L3 L4
open Sem (wp)
section
variable {prog : Program} {w : World} {A : Around} {E : Value → Shared → Prop} {s : Shared} {I a : Addr} {i ep : Nat} {o : Obj} {es : Array (Int × Value)} {t : SetTable}
/-- an iterator whose places were drawn -/
theorem sit_drawn {T : Addr} {oT : Obj} {vT : Array Value} {nT place : Nat} {x : Value} {Q : Option Value → Shared → Prop} (hI : s.heap.get? I = some (SitObj (.ref T) i a es.size ep)) (ha : s.heap.get? a = some o) (hd : o.data = .set es ep t) (hf : t.fits es.size = true)
    (hT : s.heap.get? T = some oT) (hdT : oT.data = .seq vT nT) (hp : vT[i]? = some (rawInt place)) (hx : es[place]? = some x') (ex : x'.2 = x)
    (hQ : ∀ h', h'.get? I = some (SitObj (.ref T) (i + 1) a es.size ep) → Heap.SameBut I s.heap h' → Q (some x) { s with heap := h' }) : wpAny (model prog w) A (pyNext (.ref I)) Q E s := by
  have hTy : s.TypeIs (.ref I) "set_iterator" := ⟨_, hI, rfl⟩
  unfold pyNext
  refine wpAny_bind (wpAny_attempt (wpAny_callSpecial?_slot (name := Str.ofString "__next__") hTy slot_sit_next (wpAny_call_entry slot_sit_next hTy entry_sit_next ?_ (args_sit_next _))))
  obtain ⟨hp', g, d, tk, os⟩ := s
  refine wpAny_bind (wpAny_pure ?_)
  refine wpAny_bind (wpAny_fieldsOf hI rfl ?_)
  show wpAny _ _ (setEntries a >>= _) _ _ _
  refine wpAny_bind (wpAny_setEntries_of ha hd hf ?_)
  rw [if_neg (by simp [rawInt])]
  show wpAny _ _ (seqItems? (.ref T) >>= _) _ _ _
  refine wpAny_bind (wpAny_seqItems hT hdT ?_)
  dsimp only
  simp only [Int.toNat_natCast]
  rw [hp]
  show wpAny _ _ (setNextDrawn a _ _ >>= _) _ _ _
  unfold setNextDrawn
  refine wpAny_bind (wpAny_bind (wpAny_setState_of ha hd hf ?_))
  dsimp only
  simp only [Int.toNat_natCast, bne_self_eq_false, Bool.false_eq_true, if_false]
  rw [hx]
  refine wpAny_pure ?_
  refine wpAny_bind (wpAny_setField_rec hI (by simp) fun h1 e1 s1 => wpAny_pure ⟨_, rfl, wpAny_pure ?_⟩)
  rw [ex]
  exact hQ h1 e1 s1
theorem sit_drawn_end {T : Addr} {oT : Obj} {vT : Array Value} {nT : Nat} {Q : Option Value → Shared → Prop} (hh : A.handled = none) (hI : s.heap.get? I = some (SitObj (.ref T) i a es.size ep)) (ha : s.heap.get? a = some o) (hd : o.data = .set es ep t) (hf : t.fits es.size = true)
    (hT : s.heap.get? T = some oT) (hdT : oT.data = .seq vT nT) (hp : vT[i]? = none) (hQ : ∀ h', Heap.ExtBut I s.heap h' → Q none { s with heap := h' }) : wpAny (model prog w) A (pyNext (.ref I)) Q E s := by
  have hTy : s.TypeIs (.ref I) "set_iterator" := ⟨_, hI, rfl⟩
  unfold pyNext
  refine wpAny_bind (wpAny_attempt (wpAny_callSpecial?_slot (name := Str.ofString "__next__") hTy slot_sit_next (wpAny_call_entry slot_sit_next hTy entry_sit_next ?_ (args_sit_next _))))
  obtain ⟨hp', g, d, tk, os⟩ := s
  refine wpAny_bind (wpAny_pure ?_)
  refine wpAny_bind (wpAny_fieldsOf hI rfl ?_)
  show wpAny _ _ (setEntries a >>= _) _ _ _
  refine wpAny_bind (wpAny_setEntries_of ha hd hf ?_)
  rw [if_neg (by simp [rawInt])]
  show wpAny _ _ (seqItems? (.ref T) >>= _) _ _ _
  refine wpAny_bind (wpAny_seqItems hT hdT ?_)
  dsimp only
  simp only [Int.toNat_natCast]
  rw [hp]
  dsimp only
  refine wpAny_bind (wpAny_setField_rec hI (by simp) fun h1 e1 s1 => wpAny_bind (wpAny_setField_rec e1 (by simp) fun h2 e2 s2 => ?_))
  show wpAny _ _ (newExc (.type "StopIteration") [] >>= _) _ _ _
  refine wpAny_bind ?_
  simp only [newExc, newTuple]
  refine wpAny_bind (wpAny_newObj_type (wpAny_bind (m := firstArgMember _ _) (wpAny_of_eq (a := Value.none) (by first | rfl | (simp only [firstArgMember]; rfl)) (wpAny_newObj_type ?_ (by size_fits)))) (by size_fits))
  simp only [raiseNew]
  refine wpAny_bind (wpAny_handled ?_)
  rw [show A.in1.handled = none from hh]
  refine wpAny_bind (wpAny_pure (wpAny_throw ?_))
  refine (wpAny_bind (wpAny_isInstance (T := "StopIteration") (b := true) ⟨_, Heap.get?_push_size _ rfl, rfl⟩ isSubtype_stop (wpAny_pure (hQ _ ?_))))
  exact ((Heap.SameBut.extBut (Heap.SameBut.trans s1 s2)).push _).push _
/-- what setNext tells, where the order is the text's -/
theorem next_text {slot given : Nat} {Q : Option (Value × Nat) → Shared → Prop} (hw : w.params.followText "set-order" = true) (ha : s.heap.get? a = some o) (hd : o.data = .set es ep t) (hf : t.fits es.size = true)
    (h : Q (((pickOrder (w.params.setOrder a ep) es)[given]?).map fun e => (e.2, slot)) s) : wpAny (model prog w) A (setNext a slot given ep) Q E s := by
  unfold setNext
  refine wpAny_bind (wpAny_setState_of ha hd hf (wpAny_bind ?_))
  unfold setsByText
  refine wpAny_bind (wpAny_askSetting (wpAny_pure ?_))
  dsimp only
  rw [show (model prog w).w.params.followText "set-order" = true from hw]
  simp only [if_true, bne_self_eq_false, Bool.false_eq_true, if_false]
  unfold setWalk
  refine wpAny_bind (wpAny_bind (wpAny_setState_of ha hd hf (wpAny_bind ?_)))
  unfold setsByText
  refine wpAny_bind (wpAny_askSetting (wpAny_pure ?_))
  dsimp only
  rw [show (model prog w).w.params.followText "set-order" = true from hw]
  simp only [if_true]
  refine wpAny_bind (wpAny_askSetting (wpAny_pure (wpAny_pure h)))
theorem next_plain {slot given : Nat} {Q : Option (Value × Nat) → Shared → Prop} (hw : w.params.followText "set-order" = false) (ha : s.heap.get? a = some o) (hd : o.data = .set es ep t) (hf : t.fits es.size = true) (hp : (!t.plain && decide (es.size > 1)) = false) (hl : t.led = true)
    (h : Q (match es[SetTable.below t.place slot]?, t.place[SetTable.below t.place slot]? with | some (_, x), some j => some (x, j + 1) | _, _ => none) s) : wpAny (model prog w) A (setNext a slot given ep) Q E s := by
  unfold setNext
  refine wpAny_bind (wpAny_setState_of ha hd hf (wpAny_bind ?_))
  unfold setsByText
  refine wpAny_bind (wpAny_askSetting (wpAny_pure ?_))
  dsimp only
  rw [show (model prog w).w.params.followText "set-order" = false from hw]
  refine wpAny_ite_split (fun z => nomatch z) fun _ => wpAny_ite_split (fun z => ?_) fun _ => wpAny_bind (wpAny_ite_split (fun z => ?_) fun _ => wpAny_pure (wpAny_pure h))
  · exact absurd (show (!t.plain && decide (es.size > 1)) = true from z) (by rw [hp]; decide)
  · exact absurd z (by rw [hl]; simp)
end
/-- the slot that the iterator stands at, ahead of the item i -/
def slotAt (place : Array Nat) : Nat → Nat
  | 0 => 0
  | i + 1 => place.getD i 0 + 1
theorem below_slot {place : Array Nat} (R : Rising place) {i : Nat} (h : i ≤ place.size) : SetTable.below place (slotAt place i) = i := by
  obtain ⟨b0, b1, b2⟩ := below_spec R (slotAt place i)
  generalize hb : SetTable.below place (slotAt place i) = k at b0 b1 b2
  rcases Nat.lt_trichotomy k i with z | z | z
  · have h1 := b2 k (Nat.le_refl _) (by omega)
    cases i with
    | zero => omega
    | succ i =>
      have h1' : place.getD i 0 + 1 ≤ place.getD k 0 := h1
      by_cases e : k = i
      · subst e; omega
      · have := R k i (by omega) (by omega)
        omega
  · exact z
  · have h1 := b1 i z
    cases i with
    | zero => exact absurd h1 (by show ¬ place.getD 0 0 < 0; omega)
    | succ i =>
      have h1' : place.getD (i + 1) 0 < place.getD i 0 + 1 := h1
      have := R i (i + 1) (by omega) (by omega)
      omega
theorem rising_small {xs : Array Nat} (h : xs.size ≤ 1) : Rising xs := fun i k hik hk => by omega
section
variable {prog : Program} {w : World} {A : Around} {E : Value → Shared → Prop} {s : Shared} {a : Addr}
theorem slot_sit_iter : Slot "set_iterator" "__iter__" "set_iterator.__iter__" := .of (owner := "set_iterator") (n := "__iter__") (by rw [typeLookup_type, builtinLookup_eq_fast]; kernel_rfl) (by decide +kernel) (by decide +kernel) (by decide +kernel) (by first | exact .inl (by decide +kernel) | exact .inr (by decide +kernel)) (by rw [isSubtype_type]; kernel_rfl)
theorem entry_sit_iter : entryFor table "set_iterator.__iter__" = some Builtin.«dict_keyiterator.__iter__» := entryFor_alias (id' := "dict_keyiterator.__iter__") (by kernel_rfl) rfl (by decide +kernel) (by kernel_rfl)
theorem args_sit_iter (a : Value) : argsOk "set_iterator.__iter__" ⟨[a], []⟩ := by unfold argsOk; kernel_rfl
theorem self_sit {I : Addr} {first : Value} {i n ep : Nat} {Q : Value → Shared → Prop} (hI : s.heap.get? I = some (SitObj first i a n ep)) (h : Q (.ref I) s) : wpAny (model prog w) A (pyIter (.ref I)) Q E s := by
  have hT : s.TypeIs (.ref I) "set_iterator" := ⟨_, hI, rfl⟩
  refine wpAny_pyIter_slot hT slot_sit_iter (wpAny_call_entry slot_sit_iter hT entry_sit_iter ?_ (args_sit_iter _))
  show wpAny _ _ (ret (.ref I)) _ _ s
  exact wpAny_pure ⟨_, rfl, _, _, hT, slot_sit_next.lookup, h⟩
/-- iter(s) of a set of ints -/
theorem iter_set {ks : List Int} {Q : Value → Shared → Prop} (hh : A.handled = none) (S : SetG prog w s.heap a ks)
    (hQ : ∀ (h' : Heap) (d' : Drawn) (I : Addr) (vs : List Value) (ms : List Int) (fp : List Addr) (St : Nat → Heap → Prop), (∀ b o, s.heap.get? b = some o → h'.get? b = some o) → s.heap.objs.size ≤ I → IntsAre vs ms → ms.Perm ks →
      Walks prog w A I fp [I] vs.length (fun i v => vs[i]? = some v) St → St 0 h' → (∀ b ∈ fp, b = a ∨ s.heap.objs.size ≤ b) → Q (.ref I) { s with heap := h', drawn := d' }) : wpAny (model prog w) A (pyIter (.ref a)) Q E s := by
  obtain ⟨o, es, ep, t, ho, hx, hd, hel, ⟨ms, hi, hp⟩, hn, hb, g⟩ := S
  have hT : s.TypeIs (.ref a) "set" := ⟨_, ho, hx.1⟩
  have hlt : a < s.heap.objs.size := Heap.lt_size ho
  have hps : t.place.size = es.size := by
    have := g.fits
    simp only [SetTable.fits, Bool.and_eq_true, beq_iff_eq] at this
    exact this.1
  refine wpAny_pyIter_slot hT F.slot_set_iter (wpAny_call_entry F.slot_set_iter hT entry_set_iter2 ?_ (F.args_set_iter_1 _))
  have len : ∀ vs : List Value, List.Perm vs (es.toList.map (·.2)) → vs.length = es.size := fun vs p => by rw [p.length_eq, List.length_map, Array.length_toList]
  have fin : ∀ (h₁ : Heap) (d' : Drawn) (first : Value) (vs : List Value) (fp : List Addr) (St : Nat → Heap → Prop), (∀ b o, s.heap.get? b = some o → h₁.get? b = some o) → List.Perm vs (es.toList.map (·.2)) →
      Walks prog w A h₁.objs.size fp [h₁.objs.size] vs.length (fun i v => vs[i]? = some v) St → St 0 (h₁.push (SitObj first 0 a es.size ep)) → (∀ b ∈ fp, b = a ∨ s.heap.objs.size ≤ b) → s.heap.objs.size ≤ h₁.objs.size →
      wpAny (model prog w) A.in1 (do
        let __do_lift ← setEpoch a
        let __do_lift ← newFields "set_iterator" [first, rawInt 0, .ref a, rawInt es.size, rawInt __do_lift]
        ret __do_lift) (fun fin s' => ∃ v, fin = .done (.ret v) ∧ ∃ T' r, s'.TypeIs v T' ∧ typeLookup (.type T') "__next__" = pure (some r) ∧ Q v s') E { s with heap := h₁, drawn := d' } := fun h₁ d' first vs fp St kk pm W st hfp hsz => by
    refine wpAny_bind (wpAny_setEpoch_of (kk a o ho) hd g.fits ?_)
    unfold newFields
    refine wpAny_bind (wpAny_newObj_type ?_ (by size_fits))
    obtain ⟨ms', c1, c2⟩ := IntsAre.perm_map pm hi
    exact wpAny_pure ⟨_, rfl, _, _, ⟨_, Heap.get?_push_size _ rfl, rfl⟩, slot_sit_next.lookup, hQ _ d' _ vs ms' fp St (fun b o e => Heap.get?_push_of_some _ (kk b o e)) hsz c1 (c2.trans hp) W st hfp⟩
  unfold Builtin.«frozenset.__iter__»
  refine wpAny_bind (wpAny_of_eq (a := a) (by rfl) ?_)
  unfold Builtin.Frozenset.sizeOf
  refine wpAny_bind (wpAny_bind (wpAny_setEntries_of ho hd g.fits (wpAny_pure ?_)))
  unfold setDrawn
  refine wpAny_bind (wpAny_bind (wpAny_setState_of ho hd g.fits (wpAny_bind ?_)))
  unfold setsByText
  refine wpAny_bind (wpAny_askSetting (wpAny_pure ?_))
  dsimp only
  have hne : a ≠ s.heap.objs.size := Nat.ne_of_lt hlt
  have e0 : s = { s with heap := s.heap, drawn := s.drawn } := by cases s; rfl
  cases hw : w.params.followText "set-order" with
  | true =>
    rw [show (model prog w).w.params.followText "set-order" = true from hw]
    refine wpAny_pure ?_
    simp only [Bool.not_true, Bool.false_and, Bool.false_eq_true, if_false]
    refine wpAny_bind (wpAny_pure ?_)
    rw [e0]
    have pm := (pick_perm (w.params.setOrder a ep) es).map (·.2)
    refine fin s.heap s.drawn (rawInt 0) _ [s.heap.objs.size, a] (fun i h => h.get? s.heap.objs.size = some (SitObj (rawInt 0) i a es.size ep) ∧ h.get? a = some o) (fun _ _ e => e) pm ⟨?_, ?_, ?_, ?_, ?_⟩ ⟨Heap.get?_push_size _ rfl, Heap.get?_push_of_some _ ho⟩ (fun b hb => ?_) (Nat.le_refl _)
    · intro b hb; rw [List.mem_singleton.mp hb]; exact List.mem_cons_self
    · exact fun i h h' st k => ⟨k _ List.mem_cons_self _ st.1, k _ (List.mem_cons_of_mem _ List.mem_cons_self) _ st.2⟩
    · intro i s' Q' E' hi' st k
      rw [List.length_map] at hi'
      have hx' : (pickOrder (w.params.setOrder a ep) es)[i]? = some ((pickOrder (w.params.setOrder a ep) es).toList[i]) := by rw [← Array.getElem?_toList]; exact List.getElem?_eq_getElem hi'
      refine sit_some (slot := 0) (nx := 0) (x := ((pickOrder (w.params.setOrder a ep) es).toList[i]).2) st.1 st.2 hd g.fits (fun A E Q q => next_text hw st.2 hd g.fits ?_) fun h' e1 sb => ?_
      · rw [hx']; exact q
      · exact k _ h' s'.toks (by rw [List.getElem?_map, List.getElem?_eq_getElem hi']; rfl) ⟨e1, (sb.2 a hne).trans st.2⟩ fun b o hb e => (sb.2 b (fun z => hb (by rw [z]; exact List.mem_singleton.mpr rfl))).trans e
    · intro s' Q' E' st k
      refine sit_none (slot := 0) hh st.1 st.2 hd g.fits (fun A E Q q => next_text hw st.2 hd g.fits ?_) fun h' x => k h' s'.toks fun b o hb e => x b o (fun z => hb (by rw [z]; exact List.mem_singleton.mpr rfl)) e
      rw [List.length_map, Array.length_toList, Array.getElem?_eq_none (Nat.le_refl _)]
      exact q
    · exact fun i s' Q' E' st q => self_sit st.1 q
    · rcases List.mem_cons.mp hb with rfl | hb
      · exact .inr (Nat.le_refl _)
      · exact .inl (List.mem_singleton.mp hb)
  | false =>
    have hled : t.led = true := by rw [g.led]; unfold ledOf; rw [hw]; rfl
    rw [show (model prog w).w.params.followText "set-order" = false from hw]
    refine wpAny_pure ?_
    cases hdr : (!t.plain && decide (es.size > 1)) with
    | false =>
      simp only [Bool.not_false, Bool.true_and]
      refine wpAny_ite_split (fun z => absurd (show (!t.plain && decide (es.size > 1)) = true from z) (by rw [hdr]; decide)) fun _ => ?_
      have R : Rising t.place := by
        cases hpl : t.plain with
        | true => exact g.rise hpl
        | false =>
          rw [hpl] at hdr
          have : ¬ es.size > 1 := by simpa using hdr
          exact rising_small (by omega)
      refine wpAny_bind (wpAny_pure ?_)
      rw [e0]
      refine fin s.heap s.drawn (rawInt 0) (es.toList.map (·.2)) [s.heap.objs.size, a] (fun i h => h.get? s.heap.objs.size = some (SitObj (rawInt (slotAt t.place i)) i a es.size ep) ∧ h.get? a = some o) (fun _ _ e => e) (.refl _) ⟨?_, ?_, ?_, ?_, ?_⟩ ⟨Heap.get?_push_size _ rfl, Heap.get?_push_of_some _ ho⟩ (fun b hb => ?_) (Nat.le_refl _)
      · intro b hb; rw [List.mem_singleton.mp hb]; exact List.mem_cons_self
      · exact fun i h h' st k => ⟨k _ List.mem_cons_self _ st.1, k _ (List.mem_cons_of_mem _ List.mem_cons_self) _ st.2⟩
      · intro i s' Q' E' hi' st k
        rw [List.length_map, Array.length_toList] at hi'
        refine sit_some (slot := slotAt t.place i) (nx := slotAt t.place (i + 1)) (x := (es[i]).2) st.1 st.2 hd g.fits (fun A E Q q => next_plain hw st.2 hd g.fits hdr hled ?_) fun h' e1 sb => ?_
        · rw [below_slot R (by omega), Array.getElem?_eq_getElem hi', Array.getElem?_eq_getElem (by omega)]
          have : slotAt t.place (i + 1) = t.place[i]'(by omega) + 1 := by show t.place.getD i 0 + 1 = _; simp [Array.getD, show i < t.place.size by omega]
          rw [this] at q
          exact q
        · exact k _ h' s'.toks (by rw [List.getElem?_map, Array.getElem?_toList, Array.getElem?_eq_getElem hi']; rfl) ⟨e1, (sb.2 a hne).trans st.2⟩ fun b o hb e => (sb.2 b (fun z => hb (by rw [z]; exact List.mem_singleton.mpr rfl))).trans e
      · intro s' Q' E' st k
        rw [List.length_map, Array.length_toList] at st
        refine sit_none (slot := slotAt t.place es.size) hh st.1 st.2 hd g.fits (fun A E Q q => next_plain hw st.2 hd g.fits hdr hled ?_) fun h' x => k h' s'.toks fun b o hb e => x b o (fun z => hb (by rw [z]; exact List.mem_singleton.mpr rfl)) e
        rw [below_slot R (by omega), Array.getElem?_eq_none (Nat.le_refl _)]
        exact q
      · exact fun i s' Q' E' st q => self_sit st.1 q
      · rcases List.mem_cons.mp hb with rfl | hb
        · exact .inr (Nat.le_refl _)
        · exact .inl (List.mem_singleton.mp hb)
    | true =>
      simp only [Bool.not_false, Bool.true_and]
      refine wpAny_ite_split (fun _ => ?_) fun z => absurd hdr z
      refine wpAny_bind (draw_perm es.size (List.range es.size) s (by simp) fun ys d' pys => ?_)
      refine wpAny_bind (wpAny_newTuple ?_ (by rw [List.length_map, pys.length_eq, List.length_range]; exact fits_of_scanBound hb))
      have hly : ys.length = es.size := by rw [pys.length_eq, List.length_range]
      have hmem : ∀ y ∈ ys, y < es.size := fun y hy => List.mem_range.mp (pys.mem_iff.mp hy)
      have pm : List.Perm (ys.map fun y => (es.getD y (0, .none)).2) (es.toList.map (·.2)) := by
        have e : (List.range es.size).map (fun y => (es.getD y (0, .none)).2) = es.toList.map (·.2) := by
          apply List.ext_getElem
          · simp
          · intro k h1 h2
            have hk : k < es.size := by simpa using h1
            simp [Array.getD, hk]
        rw [← e]
        exact pys.map _
      have hT2 : (s.heap.push { cls := .type "tuple", data := .seq (ys.map fun (i : Nat) => rawInt i).toArray }).get? s.heap.objs.size = some { cls := .type "tuple", data := .seq (ys.map fun (i : Nat) => rawInt i).toArray } := Heap.get?_push_size _ rfl
      have hz : (s.heap.push { cls := .type "tuple", data := .seq (ys.map fun (i : Nat) => rawInt i).toArray }).objs.size = s.heap.objs.size + 1 := Heap.size_push ..
      have kk : ∀ b o, s.heap.get? b = some o → (s.heap.push { cls := .type "tuple", data := .seq (ys.map fun (i : Nat) => rawInt i).toArray }).get? b = some o := fun b o e => Heap.get?_push_of_some _ e
      generalize s.heap.push { cls := .type "tuple", data := .seq (ys.map fun (i : Nat) => rawInt i).toArray } = h₁ at hT2 hz kk ⊢
      have na : a ≠ h₁.objs.size := by rw [hz]; exact Nat.ne_of_lt (Nat.lt_succ_of_lt hlt)
      have nT : s.heap.objs.size ≠ h₁.objs.size := by rw [hz]; exact Nat.ne_of_lt (Nat.lt_succ_self _)
      refine fin h₁ d' (.ref s.heap.objs.size) _ [h₁.objs.size, a, s.heap.objs.size] (fun i h => h.get? h₁.objs.size = some (SitObj (.ref s.heap.objs.size) i a es.size ep) ∧ h.get? a = some o ∧ h.get? s.heap.objs.size = some { cls := .type "tuple", data := .seq (ys.map fun (i : Nat) => rawInt i).toArray }) kk pm ⟨?_, ?_, ?_, ?_, ?_⟩
        ⟨Heap.get?_push_size _ rfl, Heap.get?_push_of_some _ (kk _ _ ho), Heap.get?_push_of_some _ hT2⟩ (fun b hb => ?_) (by rw [hz]; exact Nat.le_succ _)
      · intro b hb; rw [List.mem_singleton.mp hb]; exact List.mem_cons_self
      · exact fun i h h' st k => ⟨k _ List.mem_cons_self _ st.1, k _ (List.mem_cons_of_mem _ List.mem_cons_self) _ st.2.1, k _ (List.mem_cons_of_mem _ (List.mem_cons_of_mem _ List.mem_cons_self)) _ st.2.2⟩
      · intro i s' Q' E' hi' st k
        rw [List.length_map] at hi'
        have hy := hmem _ (List.getElem_mem hi')
        refine sit_drawn (place := ys[i]) (x' := es[ys[i]]) (x := (es[ys[i]]).2) st.1 st.2.1 hd g.fits st.2.2 rfl (by simp [hi']) (Array.getElem?_eq_getElem hy) rfl fun h' e1 sb => ?_
        refine k _ h' s'.toks (by rw [List.getElem?_map, List.getElem?_eq_getElem hi']; simp [Array.getD, hy]) ⟨e1, (sb.2 a na).trans st.2.1, (sb.2 _ nT).trans st.2.2⟩ fun b o hb e => (sb.2 b (fun z => hb (by rw [z]; exact List.mem_singleton.mpr rfl))).trans e
      · intro s' Q' E' st k
        rw [List.length_map] at st
        exact sit_drawn_end hh st.1 st.2.1 hd g.fits st.2.2 rfl (by simp) fun h' x => k h' s'.toks fun b o hb e => x b o (fun z => hb (by rw [z]; exact List.mem_singleton.mpr rfl)) e
      · exact fun i s' Q' E' st q => self_sit st.1 q
      · rcases List.mem_cons.mp hb with rfl | hb
        · exact .inr (by rw [hz]; exact Nat.le_succ _)
        · rcases List.mem_cons.mp hb with rfl | hb
          · exact .inl rfl
          · exact .inr (by rw [List.mem_singleton.mp hb]; exact Nat.le_refl _)
theorem hint_set {r : Addr} {Q : Bool → Shared → Prop} (hT : s.TypeIs (.ref r) "set") (h : Q false s) : wpAny (model prog w) A (Builtin.List.listLengthHint (.ref r)) Q E s := by
  unfold Builtin.List.listLengthHint
  refine wpAny_bind (wpAny_specialOf hT PySem.F.slot_set_len.lookup ?_)
  generalize hid : ("set.__len__" : String) = id0
  wp_delta
  rw [show splitId id0 = some ("set", "__len__") from by subst hid; decide +kernel]
  subst hid
  refine wpAny_bind (wpAny_isInstance (T := "set") (b := true) hT (by rw [isSubtype_type]; kernel_rfl) ?_)
  refine wpAny_ite_split (fun z => absurd z (by decide)) (fun _ => wpAny_ite_split (fun _ => wpAny_bind (wpAny_typeOf hT (wpAny_pure h))) (fun z => absurd (by decide +kernel) z))
/-- the items of a set -/
theorem collect_set {ks : List Int} {R : List Value → Shared → Prop} (hh : A.handled = none) (S : SetG prog w s.heap a ks) (hks : ks.length ≤ sizeLine)
    (h : ∀ (h' : Heap) (d' : Drawn) (tk : Nat) (vs : List Value) (ms : List Int), (∀ b o, s.heap.get? b = some o → h'.get? b = some o) → s.heap.objs.size < h'.objs.size → IntsAre vs ms → ms.Perm ks → R vs { s with heap := h', drawn := d', toks := tk }) : wpAny (model prog w) A (collect (.ref a)) R E s := by
  have hlt : a < s.heap.objs.size := by obtain ⟨o, _, _, _, e, _⟩ := S; exact Heap.lt_size e
  unfold collect
  refine wpAny_bind (wpAny_runValue (codeAny_builtin entry_proto_collect' ?_))
  rw [Around.under_plainId PySem.F.plain_proto_collect _]
  show wpAny _ A.in1 (newList [] >>= fun l => again (.builtin "list.__iadd__" ⟨[l, .ref a], []⟩)) _ _ s
  refine wpAny_bind (wpAny_newObj_type (wpAny_pure ⟨plainId_quiet PySem.F.plain_list_iadd _, codeAny_builtin entry_list_iadd' ?_⟩))
  rw [Around.under_plainId PySem.F.plain_list_iadd _]
  generalize hO : ({ cls := .type "list", data := .seq ([] : List Value).toArray } : Obj) = O
  have hL : (s.heap.push O).get? s.heap.objs.size = some O := Heap.get?_push_size _ (by rw [← hO]; rfl)
  show wpAny _ A.in1 (Builtin.List.listExtendWith (.ref s.heap.objs.size) (.ref a) (.ref s.heap.objs.size)) _ _ _
  unfold Builtin.List.listExtendWith
  have hT : Shared.TypeIs { s with heap := s.heap.push O } (.ref a) "set" := by
    obtain ⟨o, _, _, _, e, hx, _⟩ := S
    exact ⟨o, Heap.get?_push_of_some _ e, hx.1⟩
  refine wpAny_bind (wpAny_typeOf hT ?_)
  have n1 : Builtin.List.listSameRef (.ref s.heap.objs.size) (.ref a) = false := by simp [Builtin.List.listSameRef, Nat.ne_of_gt hlt]
  have n2 : (Value.type "set" == Value.type "list") = false := by decide
  have n3 : (Value.type "set" == Value.type "tuple") = false := by decide
  simp only [n1, n2, n3, Bool.or_false, Bool.false_eq_true, if_false]
  refine wpAny_bind (iter_set (A := A.in1) (s := { s with heap := s.heap.push O }) hh (S.at fun o e => Heap.get?_push_of_some _ e) fun h₁ d' I vs ms fp St kk hI c1 c2 W st hfp => ?_)
  have hzO : (s.heap.push O).objs.size = s.heap.objs.size + 1 := Heap.size_push ..
  have hlen : vs.length = ks.length := by rw [IntsAre.length c1, c2.length_eq]
  have hSf : s.heap.objs.size ∉ fp := fun z => by
    rcases hfp _ z with q | q
    · exact absurd q (Nat.ne_of_gt hlt)
    · have q' : (s.heap.push O).objs.size ≤ s.heap.objs.size := q
      rw [hzO] at q'
      exact absurd q' (Nat.not_succ_le_self _)
  have hL1 := kk _ _ hL
  have key : ∀ (h₂ : Heap) (c : Nat) (tk : Nat), St 0 h₂ → (∀ b o, b ≠ s.heap.objs.size → h₁.get? b = some o → h₂.get? b = some o) → h₂.get? s.heap.objs.size = some { cls := .type "list", dict := none, data := .seq #[] c, slots := #[] } →
      codeAny (model prog w) A (.builtin "list.extend.loop" ⟨[.ref s.heap.objs.size, .ref I, .ref s.heap.objs.size], []⟩) (fun q s' => ∃ (h' : Heap) (tk : Nat) (acc : Array Value) (c' : Nat), q = .ok (.ret (.ref s.heap.objs.size)) ∧ s' = { s with heap := h', drawn := d', toks := tk } ∧
        (∀ b o, s.heap.get? b = some o → h'.get? b = some o) ∧ h'.get? s.heap.objs.size = some { cls := .type "list", dict := none, data := .seq acc c', slots := #[] } ∧ ItemsOf (fun i v => vs[i]? = some v) acc vs.length) { s with heap := h₂, drawn := d', toks := tk } := by
    intro h₂ c tk st2 k2 hL2
    refine codeAny_extend_loopS W.toS (by omega) s.heap.objs.size hSf _ vs.length 0 _ #[] c rfl (Nat.zero_le _) st2 hL2 (ItemsOf.nil _) fun s' acc' c' hm hS' hacc => ?_
    rw [Moved.eq_with hm]
    refine ⟨s'.heap, s'.toks, acc', c', rfl, rfl, fun b o e => hm.heap b o (fun z => ?_) (k2 b o (Nat.ne_of_lt (Heap.lt_size e)) (kk b o (Heap.get?_push_of_some _ e))), hS', hacc⟩
    have hb := Heap.lt_size e
    rcases List.mem_cons.mp z with z | z
    · exact absurd z (Nat.ne_of_lt hb)
    · have hI' : (s.heap.push O).objs.size ≤ I := hI
      rw [List.mem_singleton.mp z] at hb
      rw [hzO] at hI'
      exact absurd (Nat.lt_of_lt_of_le (Nat.lt_succ_of_lt hb) hI') (Nat.lt_irrefl _)
  have T1 : Shared.TypeIs { s with heap := h₁, drawn := d' } (.ref a) "set" := by
    obtain ⟨o, _, _, _, e, hx, _⟩ := S
    exact ⟨o, kk _ _ (Heap.get?_push_of_some _ e), hx.1⟩
  refine wpAny_bind (wpAny_holding (hint_set T1 ?_))
  have back : ∀ (h₂ : Heap) (c : Nat) (tk : Nat) (E' : Value → Shared → Prop), St 0 h₂ → (∀ b o, b ≠ s.heap.objs.size → h₁.get? b = some o → h₂.get? b = some o) → h₂.get? s.heap.objs.size = some { cls := .type "list", dict := none, data := .seq #[] c, slots := #[] } →
      ∀ (R' : Result → Shared → Prop), (∀ (h' : Heap) (tk : Nat) (c' : Nat), (∀ b o, s.heap.get? b = some o → h'.get? b = some o) → h'.get? s.heap.objs.size = some { cls := .type "list", dict := none, data := .seq vs.toArray c', slots := #[] } → R' (.ok (.ret (.ref s.heap.objs.size))) { s with heap := h', drawn := d', toks := tk }) →
      wpAny (model prog w) A.in1 (again (.builtin "list.extend.loop" ⟨[.ref s.heap.objs.size, .ref I, .ref s.heap.objs.size], []⟩)) (fun fin s' => match fin with | .done f => R' (.ok f) s' | .again c' => c'.quiet = true ∧ codeAny (model prog w) A c' R' s') E' { s with heap := h₂, drawn := d', toks := tk } := fun h₂ c tk E' z1 z2 z3 R' hR =>
    wpAny_pure ⟨plainId_quiet PySem.F.plain_extend_loop _, codeAny_mono (key h₂ c tk z1 z2 z3) fun q s₂ y => by
      obtain ⟨h', tk, acc, c', rfl, rfl, hk, hS', hacc⟩ := y
      have ea : acc = vs.toArray := by
        apply Array.ext'
        apply List.ext_getElem?
        intro k
        rcases Nat.lt_or_ge k vs.length with lt | ge
        · have := hacc.2 k (acc[k]'(by rw [hacc.1]; exact lt)) (Array.getElem?_eq_getElem _)
          show acc.toList[k]? = vs[k]?
          rw [this, Array.getElem?_toList, Array.getElem?_eq_getElem]
        · show acc.toList[k]? = vs[k]?
          rw [List.getElem?_eq_none ge, List.getElem?_eq_none (by rw [Array.length_toList, hacc.1]; exact ge)]
      subst ea
      exact hR h' tk c' hk hS'⟩
  have hL1' : h₁.get? s.heap.objs.size = some { cls := .type "list", dict := none, data := .seq #[] 0, slots := #[] } := by rw [← hO] at hL1; exact hL1
  refine wpAny_ite_split (fun _ => ?_) (fun _ => back _ _ _ _ st (fun b o _ e => e) hL1' _ fun h' tk c' hk hS' => wpAny_bind (m := load s.heap.objs.size) (wpAny_load hS' (wpAny_pure (h h' d' tk vs ms hk (Heap.lt_size hS') c1 c2))))
  refine wpAny_bind (wpAny_rule ?_)
  refine wpAny_bind ?_
  show wpAny _ _ (updateSeq s.heap.objs.size (·.push .none) >>= fun _ => updateSeq s.heap.objs.size (·.pop)) _ _ _
  refine wpAny_bind (wpAny_updateSeq hL1' rfl ?_)
  have hL2 := Heap.get?_update_self (Obj.mapSeq (·.push Value.none)) hL1' rfl
  refine wpAny_updateSeq (hz := by seq_fits) hL2 rfl ?_
  have hL3 := Heap.get?_update_self (Obj.mapSeq (·.pop)) hL2 rfl
  refine back _ _ _ _ (W.frame 0 _ _ st fun b hb o e => ?_) (fun b o hb e => ?_) hL3 _ fun h' tk c' hk hS' => wpAny_bind (m := load s.heap.objs.size) (wpAny_load hS' (wpAny_pure (h h' d' tk vs ms hk (Heap.lt_size hS') c1 c2)))
  · have hbS : b ≠ s.heap.objs.size := fun z => hSf (z ▸ hb)
    exact (Heap.get?_update_other _ _ (Ne.symm hbS)).trans ((Heap.get?_update_other _ _ (Ne.symm hbS)).trans e)
  · exact (Heap.get?_update_other _ _ (Ne.symm hb)).trans ((Heap.get?_update_other _ _ (Ne.symm hb)).trans e)
end
end L6

/-! ### set(xs) and sorted(s), as calls -/
namespace L6
open PySem PySem.Spec PyProof.Rows L2 L3 L4
open Sem (wp)
theorem vals_ints : ∀ {ns : List Int} {us : List Value}, Vals (ns.map V.int) us → IntsAre us ns
  | [], _, .nil => .nil
  | _ :: _, _, .cons r t => by
    obtain ⟨k, rfl⟩ := r
    exact .cons _ k (vals_ints t)
theorem ints_vals : ∀ {ns : List Int} {us : List Value}, IntsAre us ns → Vals (ns.map V.int) us
  | _, _, .nil => .nil
  | _, _, .cons n t h => .cons ⟨t, rfl⟩ (ints_vals h)
def setO (P : Program) (w : World) (a : Addr) (ks : List Int) : HO := .ext fun h => SetG P w h a ks
section
variable {X : Cx}
theorem dr_inv {pins : List (Addr × Obj)} {σ : List (Option V)} {H : Hp} {s : Shared} (I : Inv X pins σ H s) (d' : Drawn) : Inv X pins σ H { s with drawn := d' } :=
  ⟨I.ok, I.os, I.bare, I.base, I.loc, I.cell, I.free, I.freeC, I.pin, I.hok, I.len⟩
theorem call_set_of (hc : X.calm = true) : CallR X (.type "set") (fun xs H Q => ∃ (p : Addr) (ns : List Int), xs = [.ref p] ∧ SqL X.K H p (ns.map V.int) ∧ ns.length + 1 < scanBound ∧ ∀ l, H l = none → Q (.ref l) (upd H l (setO X.prog X.w l (dedup ns)))) := by
  intro pins s σ H xs us Q I r h
  obtain ⟨p, ns, rfl, hq, hb, q⟩ := h
  obtain ⟨u, rfl, rx⟩ := vals1 r
  cases rx
  obtain ⟨its, rv, pl, hz⟩ := I.list hq
  refine call_set_ints (items := its.toArray) (ns := ns) (I.ok.hd hc) pl.isList (vals_ints rv) hb fun h' tk g kk => ?_
  have g0 := g
  obtain ⟨o, _, _, _, e, _⟩ := g0
  exact ⟨.ref s.heap.objs.size, _, I.laid (t' := tk) kk (Nat.le_refl _) (show ObjOk X.prog X.w _ h' _ (setO X.prog X.w s.heap.objs.size (dedup ns)) from ⟨g, ⟨o, e⟩, fun h1 h2 z1 z2 => z1.at z2⟩), rfl, q _ (I.hok.fresh (Nat.le_refl _))⟩
theorem call_sorted_set (hc : X.calm = true) : CallR X (.builtin "sorted") (fun xs H Q => ∃ (a : Addr) (ks : List Int), xs = [.ref a] ∧ H a = some (setO X.prog X.w a ks) ∧ ks.length < 64 ∧ ∀ l zs, H l = none → List.Perm zs ks → zs.Pairwise (· ≤ ·) → Q (.ref l) (upd H l (.lst (zs.map V.int)))) := by
  intro pins s σ H xs us Q I r h
  obtain ⟨a, ks, rfl, ha, h64, q⟩ := h
  obtain ⟨u, rfl, rx⟩ := vals1 r
  cases rx
  obtain ⟨S, _, _⟩ := I.hok a _ ha
  have line : 64 ≤ sizeLine := by decide
  refine Calls.call_function_entry kind_sorted plain_sorted entry_sorted (args_sorted1 _) ?_
  unfold Builtin.«sorted»
  refine wpAny_bind (m := checkCount "sorted" 1 1 _) (wpAny_pure ?_)
  refine wpAny_bind (collect_set (A := X.A.in1) (I.ok.hd hc) S (by omega) fun h₁ d' tk vs ms kk kz c1 c2 => ?_)
  have hl : vs.length = ks.length := by rw [IntsAre.length c1, c2.length_eq]
  refine wpAny_bind (wpAny_newList ?_ (by omega))
  have hoL : (h₁.push (seqObj "list" vs.toArray 0)).get? h₁.objs.size = some (seqObj "list" vs.toArray 0) := Heap.get?_push_size _ rfl
  refine wpAny_bind (wpAny_holding (wpAny_call_entry slot_list_sort ⟨_, hoL, rfl⟩ entry_list_sort (list_sort_tree hoL c1 (by omega) fun out ns' a1 a2 a3 => ⟨_, rfl, ?_⟩) (args_list_sort _)))
  refine wpAny_pure ⟨_, rfl, ?_⟩
  have hsz : s.heap.objs.size ≤ h₁.objs.size := Nat.le_of_lt kz
  obtain ⟨n', e'⟩ := sortedHeap_at (out := out) hoL
  have hn' : ns'.length = vs.length := by rw [a2.length_eq, IntsAre.length c1]
  refine ⟨.ref h₁.objs.size, _, dr_inv (I.laid (a := h₁.objs.size) (o := .lst (ns'.map V.int)) (t' := tk) (fun b u e => ?_) hsz (show ObjOk X.prog X.w _ _ _ (.lst (ns'.map V.int)) from ⟨by rw [List.length_map]; omega, out.toList, n', ints_vals a1, by rw [Array.toArray_toList]; exact e'⟩)) d', rfl, q _ _ (I.hok.fresh hsz) (a2.trans c2) a3⟩
  have hb := Heap.lt_size (kk b u e)
  refine (sortedHeap_old (h := h₁.push (seqObj "list" vs.toArray 0)) (Nat.ne_of_lt hb) (by rw [Heap.size_push]; exact Nat.lt_succ_of_lt hb)).trans ?_
  exact Heap.get?_push_of_some _ (kk b u e)
end
end L6

/-! ### masks of numbers -/
namespace CB
open PySem PyProof.Rows
/-- the mask of some numbers -/
def maskOf (ns : List Nat) : Nat := ns.foldl (fun m n => m ||| 2 ^ n) 0
/-- the numbers of a mask, by their size -/
def memb (m : Nat) : List Nat := (List.range (Builtin.Int.intBits (m : Int))).filter fun k => m.testBit k
theorem fold_bit (k : Nat) : ∀ (ns : List Nat) (m : Nat), (ns.foldl (fun m n => m ||| 2 ^ n) m).testBit k = (m.testBit k || ns.contains k)
  | [], m => by simp
  | n :: r, m => by
    rw [List.foldl_cons, fold_bit k r, Nat.testBit_or, Nat.testBit_two_pow, List.contains_cons, Bool.or_assoc]
    congr 2
    by_cases h : n = k
    · subst h; simp
    · rw [decide_eq_false h]
      exact (beq_eq_false_iff_ne.mpr (fun z => h z.symm)).symm
theorem mask_bit (ns : List Nat) (k : Nat) : (maskOf ns).testBit k = ns.contains k := by unfold maskOf; rw [fold_bit]; simp
theorem or_cast (m n : Nat) : Builtin.bitOr (m : Int) (n : Int) = ((m ||| n : Nat) : Int) := by
  have e : ∀ k : Nat, Builtin.bitNot (Builtin.bitNot (k : Int)) = (k : Int) := fun k => by unfold Builtin.bitNot; omega
  have z : ∀ k : Nat, ¬ 0 ≤ Builtin.bitNot (k : Int) := fun k => by unfold Builtin.bitNot; omega
  unfold Builtin.bitOr
  have h : Builtin.bitAnd (Builtin.bitNot (m : Int)) (Builtin.bitNot (n : Int)) = Builtin.bitNot (((m ||| n : Nat)) : Int) := by
    have := bitAnd_nn (z m) (z n)
    rw [this, e, e, Int.toNat_natCast, Int.toNat_natCast]
  rw [h, e]
theorem or_add (m n : Nat) : (m &&& n) + (m ||| n) = m + n := by
  have h := or_cast m n
  rw [bitOr_and, bitAnd_pp (by omega) (by omega), Int.toNat_natCast, Int.toNat_natCast] at h
  omega
theorem and_cast (m n : Nat) : Builtin.bitAnd (m : Int) (n : Int) = ((m &&& n : Nat) : Int) := by rw [bitAnd_pp (by omega) (by omega), Int.toNat_natCast, Int.toNat_natCast]
theorem pow_cast (k : Nat) : (2 : Int) ^ k = ((2 ^ k : Nat) : Int) := (PySem.W.kbt_cast k).symm
theorem bits_lt (m : Nat) : m < 2 ^ Builtin.Int.intBits (m : Int) := by
  have := (intBits_le_iff (m := Builtin.Int.intBits (m : Int)) (x := (m : Int))).mp (Nat.le_refl _)
  simpa using this
theorem mem_memb {m k : Nat} : k ∈ memb m ↔ m.testBit k = true := by
  unfold memb
  rw [List.mem_filter, List.mem_range]
  constructor
  · exact fun h => h.2
  · intro h
    refine ⟨?_, h⟩
    rcases Nat.lt_or_ge k (Builtin.Int.intBits (m : Int)) with z | z
    · exact z
    · have : m < 2 ^ k := Nat.lt_of_lt_of_le (bits_lt m) (Nat.pow_le_pow_right (by decide) z)
      rw [Nat.testBit_lt_two_pow this] at h
      cases h
theorem memb_up (m : Nat) : (memb m).Pairwise (· < ·) := List.Pairwise.filter _ List.pairwise_lt_range
/-- a rising list is known by its members -/
theorem rise_eq : ∀ {xs ys : List Nat}, xs.Pairwise (· < ·) → ys.Pairwise (· < ·) → (∀ k, k ∈ xs ↔ k ∈ ys) → xs = ys := by
  intro xs ys hx hy h
  have nx : xs.Nodup := hx.imp fun h => Nat.ne_of_lt h
  have ny : ys.Nodup := hy.imp fun h => Nat.ne_of_lt h
  exact List.Perm.eq_of_pairwise (le := (· < ·)) (fun a b _ _ h1 h2 => absurd (Nat.lt_trans h1 h2) (Nat.lt_irrefl _)) hx hy ((List.perm_ext_iff_of_nodup nx ny).mpr h)
/-- the sum of the powers -/
def sumP (ns : List Nat) : Nat := ns.foldl (fun m n => m + 2 ^ n) 0
theorem add_or {m n : Nat} (h : m.testBit n = false) : m + 2 ^ n = m ||| 2 ^ n := by
  have h1 := or_add m (2 ^ n)
  have h2 : m &&& 2 ^ n = 0 := by
    apply Nat.eq_of_testBit_eq
    intro k
    rw [Nat.testBit_and, Nat.testBit_two_pow, Nat.zero_testBit]
    by_cases e : n = k
    · subst e; rw [h]; rfl
    · rw [decide_eq_false e, Bool.and_false]
  omega
theorem sum_fold : ∀ (ns : List Nat) (m : Nat), ns.Nodup → (∀ k ∈ ns, m.testBit k = false) → ns.foldl (fun m n => m + 2 ^ n) m = ns.foldl (fun m n => m ||| 2 ^ n) m
  | [], _, _, _ => rfl
  | n :: r, m, nd, h => by
    rw [List.foldl_cons, List.foldl_cons, add_or (h n List.mem_cons_self)]
    obtain ⟨n1, n2⟩ := List.nodup_cons.mp nd
    refine sum_fold r _ n2 fun k hk => ?_
    rw [Nat.testBit_or, h k (List.mem_cons_of_mem _ hk), Nat.testBit_two_pow, Bool.false_or]
    exact decide_eq_false fun z => n1 (z ▸ hk)
theorem sum_mask {ns : List Nat} (h : ns.Nodup) : sumP ns = maskOf ns := sum_fold ns 0 h fun k _ => Nat.zero_testBit k
theorem mask_eq {ns : List Nat} {m : Nat} (h : ∀ k, k ∈ ns ↔ m.testBit k = true) : maskOf ns = m := by
  apply Nat.eq_of_testBit_eq
  intro k
  rw [mask_bit, Bool.eq_iff_iff, List.contains_iff_mem]
  exact h k
theorem sum_memb (m : Nat) : sumP (memb m) = m := by
  rw [sum_mask ((memb_up m).imp fun h => Nat.ne_of_lt h)]
  exact mask_eq fun k => mem_memb
/-- the sorted numbers without the doubles are the mask's -/
theorem sorted_memb {ns : List Nat} {zs : List Int} (h1 : ∀ z, z ∈ zs ↔ z ∈ ns.map fun n : Nat => (n : Int)) (hn : zs.Nodup) (h2 : zs.Pairwise (· ≤ ·)) : zs = (memb (maskOf ns)).map fun n : Nat => (n : Int) := by
  have h0 : ∀ z ∈ zs, 0 ≤ z := fun z hz => by
    obtain ⟨n, _, rfl⟩ := List.mem_map.mp ((h1 z).mp hz)
    omega
  have e : zs = (zs.map Int.toNat).map fun n : Nat => (n : Int) := by
    rw [List.map_map]
    symm
    have : zs.map ((fun n : Nat => (n : Int)) ∘ Int.toNat) = zs.map id := List.map_congr_left fun z hz => Int.toNat_of_nonneg (h0 z hz)
    rw [this, List.map_id]
  have up : (zs.map Int.toNat).Pairwise (· < ·) := by
    rw [List.pairwise_map]
    have := List.Pairwise.and h2 hn
    refine this.imp_of_mem ?_
    intro a b ha hb h
    have := h0 a ha
    have := h0 b hb
    have := h.1
    have := h.2
    omega
  rw [rise_eq up (memb_up (maskOf ns)) (fun k => ?_)] at e
  · exact e
  · rw [mem_memb, mask_bit, List.contains_iff_mem, List.mem_map]
    constructor
    · rintro ⟨z, hz, rfl⟩
      obtain ⟨n, hn, rfl⟩ := List.mem_map.mp ((h1 z).mp hz)
      simpa using hn
    · intro hk
      exact ⟨(k : Int), (h1 _).mpr (List.mem_map.mpr ⟨k, hk, rfl⟩), by simp⟩
theorem mask_lt {ns : List Nat} {b : Nat} (h : ∀ n ∈ ns, n ≤ b) : maskOf ns < 2 ^ (b + 1) := by
  apply Nat.lt_pow_two_of_testBit
  intro i hi
  rw [mask_bit, Bool.eq_false_iff]
  intro z
  have := h i (List.contains_iff_mem.mp z)
  omega
/-- has(mask, number) -/
theorem has_eq (m n : Nat) : decide (Builtin.bitAnd ((m : Int) / 2 ^ n) 1 = 1) = m.testBit n := by
  rw [bitAnd_m1, pow_cast]
  have e : (m : Int) / ((2 ^ n : Nat) : Int) % 2 = ((m / 2 ^ n % 2 : Nat) : Int) := by omega
  rw [e, Nat.testBit_eq_decide_div_mod_eq]
  exact decide_eq_decide.mpr (by omega)
theorem memb_nil {m : Nat} : memb m = [] ↔ m = 0 := by
  constructor
  · intro h
    have := sum_memb m
    rw [h] at this
    exact this.symm
  · rintro rfl; rfl
/-- the least number -/
theorem low_split : ∀ (m : Nat), m ≠ 0 → ∃ k a : Nat, m = 2 ^ k * (2 * a + 1) := by
  intro m
  induction m using Nat.strongRecOn with
  | _ m ih =>
    intro h
    by_cases e : m % 2 = 0
    · obtain ⟨k, a, e2⟩ := ih (m / 2) (by omega) (by omega)
      refine ⟨k + 1, a, ?_⟩
      rw [Nat.pow_succ, Nat.mul_comm (2 ^ k) 2, Nat.mul_assoc, ← e2]
      omega
    · exact ⟨0, m / 2, by omega⟩
theorem bits_pow (k : Nat) : Builtin.Int.intBits ((2 : Int) ^ k) = k + 1 := by
  rw [pow_cast]
  have h1 : Builtin.Int.intBits ((2 ^ k : Nat) : Int) ≤ k + 1 := intBits_le_iff.mpr (by rw [Int.natAbs_natCast]; exact Nat.pow_lt_pow_right (by decide) (by omega))
  have h2 : ¬ Builtin.Int.intBits ((2 ^ k : Nat) : Int) ≤ k := fun z => by
    have := intBits_le_iff.mp z
    rw [Int.natAbs_natCast] at this
    omega
  omega
theorem low_eq {m : Nat} (h : m ≠ 0) : ∃ k : Nat, (memb m)[0]? = some k ∧ ((Builtin.Int.intBits (Builtin.bitAnd (m : Int) (-(m : Int))) : Nat) : Int) - 1 = (k : Int) := by
  obtain ⟨k, a, e⟩ := low_split m h
  refine ⟨k, ?_, ?_⟩
  · have hk : m.testBit k = true := by
      rw [Nat.testBit_eq_decide_div_mod_eq, e, Nat.mul_div_cancel_left _ (Nat.two_pow_pos k)]
      exact decide_eq_true (by omega)
    have lo : ∀ j, m.testBit j = true → k ≤ j := fun j hj => by
      rcases Nat.lt_or_ge j k with z | z
      · rw [Nat.testBit_eq_decide_div_mod_eq, e] at hj
        have h1 : 2 ^ k = 2 ^ j * (2 * 2 ^ (k - j - 1)) := by
          rw [← Nat.pow_succ', ← Nat.pow_add]
          congr 1
          omega
        rw [h1, Nat.mul_assoc, Nat.mul_div_cancel_left _ (Nat.two_pow_pos j), Nat.mul_assoc, Nat.mul_mod_right] at hj
        simp at hj
      · exact z
    have hm := mem_memb.mpr hk
    have up := memb_up m
    cases hl : memb m with
    | nil => rw [hl] at hm; cases hm
    | cons b r =>
      rw [hl] at hm up
      have hb : m.testBit b = true := mem_memb.mp (by rw [hl]; exact List.mem_cons_self)
      have := lo b hb
      rcases List.mem_cons.mp hm with z | z
      · rw [z]; rfl
      · have := (List.pairwise_cons.mp up).1 k z
        omega
  · have e' : (m : Int) = 2 ^ k * (2 * (a : Int) + 1) := by rw [e, pow_cast]; simp
    rw [e', PySem.W.kbt_low, bits_pow]
    omega
/-- the bits of the one that the other lacks -/
def less (m n : Nat) : Nat := m - (m &&& n)
theorem less_cast (m n : Nat) : Builtin.bitAnd (m : Int) (Builtin.bitNot (n : Int)) = ((less m n : Nat) : Int) := by
  rw [bitAnd_not, and_cast]
  unfold less
  have h := Nat.and_le_left (n := m) (m := n)
  omega
theorem less_bit (m n k : Nat) : (less m n).testBit k = (m.testBit k && !n.testBit k) := by
  have h2 : (m &&& (m ^^^ n)) = less m n := by
    unfold less
    have e1 := or_add (m &&& n) (m &&& (m ^^^ n))
    have e2 : (m &&& n) &&& (m &&& (m ^^^ n)) = 0 := by
      apply Nat.eq_of_testBit_eq
      intro i
      simp only [Nat.testBit_and, Nat.testBit_xor, Nat.zero_testBit]
      cases m.testBit i <;> cases n.testBit i <;> rfl
    have e3 : (m &&& n) ||| (m &&& (m ^^^ n)) = m := by
      apply Nat.eq_of_testBit_eq
      intro i
      simp only [Nat.testBit_and, Nat.testBit_or, Nat.testBit_xor]
      cases m.testBit i <;> cases n.testBit i <;> rfl
    rw [e2, e3] at e1
    omega
  rw [← h2, Nat.testBit_and, Nat.testBit_xor]
  cases m.testBit k <;> cases n.testBit k <;> rfl
/-- a sum of unlike powers is known by its bits -/
theorem sum_is {ns : List Nat} {m : Nat} (h : ns.Nodup) (hm : ∀ k, m.testBit k = true ↔ k ∈ ns) : m = sumP ns := by
  rw [sum_mask h]
  exact (mask_eq fun k => (hm k).symm).symm
theorem sum_bit {ns : List Nat} (h : ns.Nodup) (k : Nat) : (sumP ns).testBit k = true ↔ k ∈ ns := by rw [sum_mask h, mask_bit, List.contains_iff_mem]
end CB

/-! ### bit_length -/
namespace L6
open PySem PySem.Spec PyProof.Rows L2 L3 L4
section
variable {X : Cx}
theorem mt_bit_length : MtR X "int.bit_length" (fun x xs H Q => xs = [] ∧ ∃ i : Int, x = .int i ∧ Q (.int (Builtin.Int.intBits i : Nat)) H) := by
  intro pins s σ H x xs v us Q I rx rv h
  obtain ⟨rfl, i, rfl, q⟩ := h
  obtain ⟨t, rfl⟩ := rx
  cases rv
  exact call_int_bit_length ⟨.int (Builtin.Int.intBits i : Nat), H, I.tok _, ⟨_, rfl⟩, q⟩
end
end L6
namespace L6
open PySem PySem.Spec PyProof.Rows L2 L3 L4
/-- naturals, as values and as data -/
def nV (ns : List Nat) : List V := ns.map fun n : Nat => V.int n
def nD (ns : List Nat) : List PyData := ns.map fun n : Nat => PyData.int n
theorem nV_int (ns : List Nat) : nV ns = (ns.map fun n : Nat => (n : Int)).map V.int := by unfold nV; rw [List.map_map]; rfl
theorem nat_all {K : PySem.W.Frag} {D : Hp} : ∀ ns : List Nat, DataAll K D (nV ns) (nD ns)
  | [] => DataAll.nil
  | _ :: r => DataAll.cons DataAt.ofInt (nat_all r)
theorem nat_lay : ∀ ns : List Nat, PyData.canLayAll0 (nD ns) = true ∧ PyData.depthAll (nD ns) = 0
  | [] => ⟨rfl, rfl⟩
  | n :: r => by
    obtain ⟨h1, h2⟩ := nat_lay r
    exact ⟨show (true && PyData.canLayAll0 (nD r)) = true by rw [h1]; rfl, show max 0 (PyData.depthAll (nD r)) = 0 by rw [h2]; rfl⟩
theorem nat_list {K : PySem.W.Frag} {H : Hp} {p : Addr} {ns : List Nat} (e : H p = some (.lst (nV ns))) : DataAt K H (.ref p) (.list (nD ns)) := DataAt.mkL (D := fun _ => none) (nat_all ns) e fun _ _ z => nomatch z
theorem nat_lay' (ns : List Nat) : (PyData.list (nD ns)).canLay0 = true := (nat_lay ns).1
theorem nat_depth (ns : List Nat) (d : PyData) : min (PyData.list (nD ns)).depth d.depth ≤ 60 := by
  have : (PyData.list (nD ns)).depth = PyData.depthAll (nD ns) + 1 := rfl
  rw [this, (nat_lay ns).2]
  omega
theorem nat_flat : ∀ ns : List Nat, (nV ns).all flatV = true
  | [] => rfl
  | _ :: r => by show (true && (nV r).all flatV) = true; rw [nat_flat r]; rfl
theorem nat_in (k : Nat) : ∀ ns : List Nat, inV (V.int (k : Nat)) (nV ns) = ns.contains k
  | [] => rfl
  | n :: r => by
    have h := nat_in k r
    unfold inV at h ⊢
    show (_ || (nV r).any _) = _
    rw [h, List.contains_cons]
    congr 1
    show ((n : Int) == (k : Int)) = (k == n)
    rw [Bool.eq_iff_iff, beq_iff_eq, beq_iff_eq]
    omega
end L6
namespace L6
open PySem PySem.Spec PyProof.Rows L2 L3 L4
theorem cut1 (xs : List V) : cutV xs (some 1) none = xs.drop 1 := by
  cases xs with
  | nil => decide
  | cons x r =>
    rw [show (1 : Int) = ((1 : Nat) : Int) from rfl, cut_from]
    show 1 ≤ r.length + 1
    omega
end L6
namespace L6
theorem dedup_nodup (ns : List Int) : (dedup ns).Nodup := by
  have : ∀ (ns acc : List Int), acc.Nodup → (ns.foldl addI acc).Nodup := by
    intro ns
    induction ns with
    | nil => exact fun _ h => h
    | cons n r ih =>
      intro acc h
      refine ih _ ?_
      unfold addI
      split
      · exact h
      · rename_i hn
        refine List.nodup_append.mpr ⟨h, List.pairwise_singleton _ n, fun a ha b hb => ?_⟩
        rw [List.mem_singleton.mp hb]
        exact fun z => hn (z ▸ ha)
  exact this ns [] List.nodup_nil
end L6

/-! ### a dict walked, list(d), sum(xs) -/
namespace L7
open PySem PySem.Spec PyProof.Rows L2 L3 L4
theorem rel_key {P : Program} {w : World} {k : Key} {v : Value} (h : (mixKind P w).is k v = true) : RelV (kV k) v := by
  rcases keyIs_shape (show keyIs k v = true from h) with ⟨i, t, rfl, rfl⟩ | ⟨x, t, rfl, rfl⟩
  · exact ⟨t, rfl⟩
  · exact ⟨t, rfl⟩
theorem kv_get {κ : Type} {kvs : List (κ × V)} {vs : List (κ × Value)} (r : KV kvs vs) : ∀ {i : Nat} {p : κ × V}, kvs[i]? = some p → ∃ v, vs[i]? = some (p.1, v) := by
  induction r with
  | nil => intro i p h; simp at h
  | @cons a b as bs h t ih =>
    intro i p e
    cases i with
    | zero =>
      have : a = p := by simpa using e
      subst this
      exact ⟨b.2, by simp [h.1]⟩
    | succ i =>
      have : as[i]? = some p := by simpa using e
      obtain ⟨v, hv⟩ := ih this
      exact ⟨v, by simpa using hv⟩
/-- a dict's keys, while it stands as it is -/
def Itd (a : Addr) (o : Obj) (kvs : List (Key × V)) : It :=
  ⟨fun i H => H a = some (.frz o (.dK kvs)) ∧ i < kvs.length, fun i H x H' => H' = H ∧ ∃ p, kvs[i]? = some p ∧ x = kV p.1, fun i H => H a = some (.frz o (.dK kvs)) ∧ kvs.length ≤ i⟩
theorem turn_dict {P : Program} {w : World} {K : PySem.W.Frag} {tg : Expr} (a it : Addr) {o : Obj} {kvs : List (Key × V)} {vs : List (Key × Value)} {ep : Nat} (rel : KV kvs vs) (hd : ∀ h : Heap, h.get? a = some o → h.DictAt (mixKind P w) a vs ep) :
    Turn P w K tg (Itd a o kvs) [it] it (fun i h => h.IsKeyIter it a i vs.length ep) where
  mem := by simp
  obj := fun i h st b hb => by
    have e : b = it := by simpa using hb
    subst e
    obtain ⟨o, e, c, d⟩ := st
    exact ⟨o, e, fun v z => by rw [d] at z; cases z⟩
  keep := fun i h h' st k => by
    obtain ⟨o, e, c⟩ := st
    exact ⟨o, k it (by simp) o e, c⟩
  item := by
    intro X hP hw hK hc i pins s σ H E I hf st hg
    subst hP hw hK
    obtain ⟨e1, hi⟩ := hg
    have ho := (show ObjOk X.prog X.w H s.heap a (.frz o (.dK kvs)) from I.hok a _ e1).1
    obtain ⟨v, hv⟩ := kv_get rel (List.getElem?_eq_getElem hi)
    obtain ⟨f0, f1, f2, f3, f4, f5⟩ := hf it (by simp)
    refine wpAny_pyNext_dict_item st (hd _ ho) hv fun key h' hkey st' sb => ?_
    have I1 : Inv X pins σ H { s with heap := h' } := I.turned (t' := s.toks) (fun b o hb e => (sb.2 b hb).trans e) f0 f1 f3 f4 f5
    obtain ⟨o', e', c', d'⟩ := id st'
    exact ⟨key, rfl, go_of (s := { s with heap := h' }) e' c' d' (by decide) ⟨kV (kvs[i]).1, H, I1, rel_key hkey, ⟨rfl, kvs[i], List.getElem?_eq_getElem hi, rfl⟩, st', fun b hb => (hf b hb).1⟩⟩
  done := by
    intro X hP hw hK hc i pins s σ H E I hf st hg
    subst hP hw hK
    obtain ⟨e1, hi⟩ := hg
    have ho := (show ObjOk X.prog X.w H s.heap a (.frz o (.dK kvs)) from I.hok a _ e1).1
    obtain ⟨f0, f1, f2, f3, f4, f5⟩ := hf it (by simp)
    have hl := Paired.length rel
    exact wpAny_pyNext_dict_end (I.ok.hd hc) st (hd _ ho) (List.getElem?_eq_none (by omega)) fun h' eb => ⟨rfl, I.turned (t' := s.toks) (fun b o hb e => eb b o hb e) f0 f1 f3 f4 f5⟩
  self := fun _ _ _ _ _ st h => wpAny_pyIter_keyiter st h
def iDict (td : TE) : TI := fun σ H R => td σ H fun x H1 => ∃ a kvs, x = .ref a ∧ Rd H1 a (.dK kvs) ∧ ∀ o H2, (H1 a = some (.dK kvs) ∧ H2 = upd H1 a (.frz o (.dK kvs)) ∨ H1 a = some (.frz o (.dK kvs)) ∧ H2 = H1) → R (Itd a o kvs) H2
section
variable {X : Cx} {tg : Expr}
/-- what is told of a dict is told of the object that it is -/
theorem freeze {pins : List (Addr × Obj)} {σ : L2.St} {H : Hp} {s : Shared} {a : Addr} {kvs : List (Key × V)} (I : Inv X pins σ H s) (e : Rd H a (.dK kvs)) :
    ∃ o H2, (H a = some (.dK kvs) ∧ H2 = upd H a (.frz o (.dK kvs)) ∨ H a = some (.frz o (.dK kvs)) ∧ H2 = H) ∧ Inv X pins σ H2 s ∧ s.heap.get? a = some o := by
  rcases e with e | ⟨o, e⟩
  · have ok := (show ObjOk X.prog X.w H s.heap a (.dK kvs) from I.hok a _ e)
    obtain ⟨z, y, vs, r, o, es, ep, ho, c⟩ := id ok
    have I2 : Inv X pins σ (upd H a (.frz o (.dK kvs))) { s with heap := s.heap, toks := s.toks } := I.write (x := a) (e := a) (o := .frz o (.dK kvs)) (by rw [e]; trivial) (.inl rfl) (fun _ _ _ q => q) ⟨o, ho⟩
      ⟨ho, ⟨z, y, vs, r, o, es, ep, ho, c⟩⟩
    exact ⟨o, _, .inl ⟨e, rfl⟩, I2, ho⟩
  · exact ⟨o, H, .inr ⟨e, rfl⟩, I, (show ObjOk X.prog X.w H s.heap a (.frz o (.dK kvs)) from I.hok a _ e).1⟩
theorem pi_dict {d : Expr} {td : TE} (hl : PE X d td) : PI X tg d (iDict td) := by
  intro pins s σ H R I h
  refine thn (hl pins s σ H _ I h) fun v s1 ⟨x, H1, I1, r1, q1⟩ => ?_
  obtain ⟨a, kvs, e, hr, q⟩ := q1
  subst e
  cases r1
  obtain ⟨o, H2, h2, I2, ho⟩ := freeze I1 hr
  obtain ⟨z, y, vs, rel, dd⟩ := dk_rd I1.hok hr
  obtain ⟨ep, da⟩ := dd.dictAt
  refine wpAny_pyIter_dict y da ?_
  refine ⟨s1.heap.objs.size, [s1.heap.objs.size], _, _, H2, rfl, I2.kept (t' := s1.toks) fun b o e => Heap.get?_push_of_some _ e, turn_dict a _ rel fun h e => da.at' fun o' e' => ?_, ⟨_, Heap.get?_push_size _ rfl, rfl, rfl⟩, fun b hb => ?_, q o H2 h2⟩
  · rw [ho] at e'
    rw [← Option.some.inj e']
    exact e
  · have e : b = s1.heap.objs.size := by simpa using hb
    subst e
    exact I2.fpOk (Nat.le_refl _) (I2.hok.fresh (Nat.le_refl _))
theorem yields_dict {a : Addr} {o : Obj} {kvs : List (Key × V)} : Yields (Itd a o kvs) (kvs.map fun p => kV p.1) (fun H => H a = some (.frz o (.dK kvs))) where
  go := fun i H h hi => ⟨h, by simpa using hi⟩
  stop := fun H h => ⟨h, by simp⟩
  yld := fun i H x H' h hi y => by
    obtain ⟨e, p, hp, rfl⟩ := y
    exact ⟨e, by rw [List.getElem?_map, hp]; rfl⟩
theorem vals_get : ∀ {xs : List V} {us : List Value}, xs.length = us.length → (∀ (i : Nat) (x : V) (u : Value), xs[i]? = some x → us[i]? = some u → RelV x u) → Vals xs us
  | [], [], _, _ => .nil
  | x :: xs, u :: us, hl, h => .cons (h 0 x u rfl rfl) (vals_get (by simpa using hl) fun i x' u' h1 h2 => h (i + 1) x' u' (by simpa using h1) (by simpa using h2))
  | [], _ :: _, hl, _ => by simp at hl
  | _ :: _, [], hl, _ => by simp at hl
/-- list(d) -/
theorem call_list_dict (hc : X.calm = true) : CallR X (.type "list") (fun xs H Q => ∃ a kvs, xs = [V.ref a] ∧ Rd H a (.dK kvs) ∧ ∀ l, H l = none → Q (.ref l) (upd H l (.lst (kvs.map fun p => kV p.1)))) := by
  intro pins s σ H xs us Q I r h
  obtain ⟨a, kvs, rfl, hr, q⟩ := h
  obtain ⟨u, rfl, rx⟩ := vals1 r
  cases rx
  obtain ⟨z, y, vs, rel, dd⟩ := dk_rd I.hok hr
  obtain ⟨ep, da⟩ := dd.dictAt
  have hl := Paired.length rel
  refine PySem.W.kdl_call (PySem.W.kdl_dict (knd := mixKind X.prog X.w) (kvs := vs) (ep := ep) y) (I.ok.hd hc) da (by omega) fun h' tk acc c kk e it => ?_
  have rv : Vals (kvs.map fun p => kV p.1) acc.toList := by
    refine vals_get (by have h1 := it.1; simp only [List.length_map, Array.length_toList]; omega) fun i x u h1 h2 => ?_
    rw [List.getElem?_map] at h1
    obtain ⟨p, hp, rfl⟩ := Option.map_eq_some_iff.mp h1
    rw [Array.getElem?_toList] at h2
    obtain ⟨k, x', h3, h4⟩ := it.2 i u h2
    obtain ⟨v, hv⟩ := kv_get rel hp
    rw [h3] at hv
    rw [show p.1 = k from (Prod.mk.inj (Option.some.inj hv)).1.symm]
    exact rel_key h4
  exact ⟨.ref s.heap.objs.size, _, I.laid (t' := tk) kk (Nat.le_refl _) (show ObjOk X.prog X.w _ h' _ (.lst (kvs.map fun p => kV p.1)) from ⟨by rw [List.length_map]; exact z, acc.toList, c, rv, by rw [Array.toArray_toList]; exact e⟩), rfl, q _ (I.hok.fresh (Nat.le_refl _))⟩
/-- sum(xs) -/
theorem call_sumL (hc : X.calm = true) : CallR X (.builtin "sum") (fun xs H Q => ∃ (p : Addr) (ns : List Int), xs = [.ref p] ∧ SqL X.K H p (ns.map V.int) ∧ Q (.int (preSum (fun i => ns.getD i 0) ns.length)) H) := by
  intro pins s σ H xs us Q I r h
  obtain ⟨p, ns, rfl, hq, q⟩ := h
  obtain ⟨u, rfl, rx⟩ := vals1 r
  cases rx
  obtain ⟨its, rv, pl, hz⟩ := I.list hq
  have hl := rv.length
  rw [List.length_map] at hl
  refine call_sum_walkAnyS (wpAny_pyIter_list pl.isList ?_)
  have hp : p < s.heap.objs.size := by obtain ⟨o, n, e, _⟩ := pl; exact Heap.lt_size e
  refine ⟨s.heap.objs.size, _, _, _, its.toArray.size, _, _, fun i => ns.getD i 0, rfl, (Walks.list (by show X.A.handled = none; exact I.ok.hd hc) s.heap.objs.size p (Nat.ne_of_lt hp) its.toArray).toS,
    ⟨⟨_, Heap.get?_push_size _ rfl, rfl, rfl⟩, pl.isList.push _⟩, fun b hb => ?_, fun i v hv => ?_, fun s' t' hm => ?_⟩
  · show b < (s.heap.push _).objs.size
    rw [Heap.size_push]
    rcases List.mem_cons.mp hb with e | hb
    · rw [e]; exact Nat.lt_succ_self _
    · rw [List.mem_singleton.mp hb]; exact Nat.lt_succ_of_lt hp
  · have hv' : its[i]? = some v := by simpa using hv
    have hi : i < its.length := (List.getElem?_eq_some_iff.mp hv').1
    obtain ⟨u', e1, t, e2⟩ := rv.get (x := V.int (ns[i]'(by omega))) (i := i) (by rw [List.getElem?_map, List.getElem?_eq_getElem (by omega)]; rfl)
    rw [hv'] at e1
    cases e1
    refine ⟨t, ?_⟩
    rw [e2]
    show _ = Value.int (ns.getD i 0) t
    rw [List.getD_eq_getElem?_getD, List.getElem?_eq_getElem (by omega)]; rfl
  · have hk : ∀ b o, s.heap.get? b = some o → s'.heap.get? b = some o := fun b o e =>
      hm.heap b o (fun z => absurd (Heap.lt_size e) (by rw [List.mem_singleton.mp z]; exact Nat.lt_irrefl _)) (Heap.get?_push_of_some _ e)
    rw [Moved.eq_with hm]
    refine ⟨.int (preSum (fun i => ns.getD i 0) ns.length), H, I.kept (t' := s'.toks) hk, ⟨t', ?_⟩, q⟩
    rw [List.size_toArray, ← hl]
theorem preSum_take (ns : List Int) : ∀ k, k ≤ ns.length → preSum (fun i => ns.getD i 0) k = (ns.take k).foldl (· + ·) 0
  | 0, _ => by simp [preSum]
  | k + 1, h => by
    show preSum (fun i => ns.getD i 0) k + ns.getD k 0 = _
    rw [preSum_take ns k (by omega), L6.take_all_snoc (by omega), List.foldl_append]
    rfl
theorem preSum_all (ns : List Int) : preSum (fun i => ns.getD i 0) ns.length = ns.foldl (· + ·) 0 := by rw [preSum_take ns _ (Nat.le_refl _), List.take_length]
end
end L7
namespace L7
open PySem PySem.Spec PyProof.Rows L2 L3 L4 L6
/-- a dict whose keys are naturals, all of them true -/
def dKs (ks : List Nat) : List (Key × V) := ks.map fun k : Nat => (.inl (k : Int), .bl true)
def addN (ks : List Nat) (n : Nat) : List Nat := if n ∈ ks then ks else ks ++ [n]
theorem dKs_keys (ks : List Nat) : (dKs ks).map (fun p => kV p.1) = nV ks := by unfold dKs nV; rw [List.map_map]; rfl
theorem dKs_len (ks : List Nat) : (dKs ks).length = ks.length := by unfold dKs; rw [List.length_map]
theorem key_iff (k n : Nat) : ((Sum.inl (k : Int) : Key) = .inl (n : Int)) ↔ k = n := by
  constructor
  · intro h
    have := Sum.inl.inj h
    omega
  · rintro rfl; rfl
theorem dKs_put (ks : List Nat) (n : Nat) : putK (dKs ks) (.inl (n : Int)) (.bl true) = dKs (addN ks n) := by
  unfold putK addN
  have h : ((dKs ks).any fun kv => decide (kv.1 = (.inl (n : Int) : Key))) = decide (n ∈ ks) := by
    rw [Bool.eq_iff_iff, List.any_eq_true, decide_eq_true_iff]
    unfold dKs
    constructor
    · rintro ⟨kv, hm, e⟩
      obtain ⟨k, hk, rfl⟩ := List.mem_map.mp hm
      rw [← (key_iff k n).mp (of_decide_eq_true e)]
      exact hk
    · intro hm
      exact ⟨_, List.mem_map.mpr ⟨n, hm, rfl⟩, decide_eq_true rfl⟩
  rw [h]
  by_cases hn : n ∈ ks
  · rw [if_pos (decide_eq_true hn), if_pos hn]
    have : ∀ kv ∈ dKs ks, (if kv.1 = (.inl (n : Int) : Key) then (kv.1, V.bl true) else kv) = id kv := fun kv hm => by
      unfold dKs at hm
      obtain ⟨k, hk, rfl⟩ := List.mem_map.mp hm
      split <;> rfl
    rw [List.map_congr_left this, List.map_id]
  · rw [if_neg (fun z => hn (of_decide_eq_true z)), if_neg hn]
    unfold dKs
    rw [List.map_append]
    rfl
theorem dKs_has (ks : List Nat) (n : Nat) : (valV (dKs ks) (.inl (n : Int))).isSome = ks.contains n := by
  unfold valV
  rw [Option.isSome_map, Bool.eq_iff_iff, List.contains_iff_mem, List.find?_isSome]
  unfold dKs
  constructor
  · rintro ⟨kv, hm, e⟩
    obtain ⟨k, hk, rfl⟩ := List.mem_map.mp hm
    rw [← (key_iff k n).mp (of_decide_eq_true e)]
    exact hk
  · intro hm
    exact ⟨_, List.mem_map.mpr ⟨n, hm, rfl⟩, decide_eq_true rfl⟩
theorem addN_nodup {ks : List Nat} {n : Nat} (h : ks.Nodup) : (addN ks n).Nodup := by
  unfold addN
  split
  · exact h
  · rename_i hn
    refine List.nodup_append.mpr ⟨h, List.pairwise_singleton _ n, fun a ha b hb => ?_⟩
    rw [List.mem_singleton.mp hb]
    exact fun z => hn (z ▸ ha)
theorem addN_len (ks : List Nat) (n : Nat) : (addN ks n).length ≤ ks.length + 1 := by unfold addN; split <;> simp
theorem addN_le {ks : List Nat} {n b : Nat} (h : ∀ k ∈ ks, k ≤ b) (hn : n ≤ b) : ∀ k ∈ addN ks n, k ≤ b := by
  unfold addN
  intro k hk
  split at hk
  · exact h k hk
  · rcases List.mem_append.mp hk with z | z
    · exact h k z
    · rw [List.mem_singleton.mp z]; exact hn
/-- a dict that is walked stays readable, and so does another -/
theorem walked {H H2 : Hp} {d : Addr} {o : Obj} {kvs : List (Key × V)} (h : H d = some (.dK kvs) ∧ H2 = upd H d (.frz o (.dK kvs)) ∨ H d = some (.frz o (.dK kvs)) ∧ H2 = H) :
    H2 d = some (.frz o (.dK kvs)) ∧ (∀ b u, Rd H b u → Rd H2 b u) ∧ ∀ b, H b = none → H2 b = none := by
  rcases h with ⟨e, rfl⟩ | ⟨e, rfl⟩
  · refine ⟨upd_same, fun b u r => ?_, fun b hb => ?_⟩
    · by_cases hb : b = d
      · subst hb
        rcases r with r | ⟨o', r⟩
        · rw [e] at r
          rw [← Option.some.inj r]
          exact .inr ⟨o, upd_same⟩
        · rw [e] at r
          cases r
      · rcases r with r | ⟨o', r⟩
        · exact .inl (by rw [upd_ne hb]; exact r)
        · exact .inr ⟨o', by rw [upd_ne hb]; exact r⟩
    · rw [upd_ne (fun z => by rw [z, e] at hb; cases hb)]; exact hb
  · exact ⟨e, fun _ _ r => r, fun _ h => h⟩
/-- the powers of some numbers, summed -/
theorem pows_sum (ks : List Nat) : preSum (fun i => (ks.map fun k : Nat => (1 : Int) * 2 ^ k).getD i 0) (ks.map fun k : Nat => (1 : Int) * 2 ^ k).length = ((CB.sumP ks : Nat) : Int) := by
  rw [preSum_all]
  unfold CB.sumP
  have : ∀ (ks : List Nat) (m : Nat), (ks.map fun k : Nat => (1 : Int) * 2 ^ k).foldl (· + ·) (m : Int) = ((ks.foldl (fun m n => m + 2 ^ n) m : Nat) : Int) := by
    intro ks
    induction ks with
    | nil => exact fun _ => rfl
    | cons k r ih =>
      intro m
      rw [List.map_cons, List.foldl_cons, List.foldl_cons, Int.one_mul, CB.pow_cast, ← Int.natCast_add]
      exact ih _
  exact this ks 0
end L7

/-! ### int of a truth -/
namespace L3
open PySem PySem.Spec PyProof.Rows L2
section
variable {X : Cx}
theorem call_intB : CallR X (.type "int") (fun xs H Q => ∃ b : Bool, xs = [.bl b] ∧ Q (.int (if b then 1 else 0)) H) := by
  intro pins s σ H xs us Q I r h
  obtain ⟨b, rfl, q⟩ := h
  obtain ⟨u, rfl, rx⟩ := vals1 r
  cases rx
  exact call_int_bool ⟨.int _, H, I.tok _, ⟨_, rfl⟩, q⟩
end
end L3

/-! ### grounds, papers: mathematics -/
namespace CG
def sumZ (l : List Int) : Int := l.foldl (· + ·) 0
theorem foldl_add (l : List Int) : ∀ z : Int, l.foldl (· + ·) z = z + sumZ l := by
  unfold sumZ
  induction l with
  | nil => intro z; exact (Int.add_zero z).symm
  | cons a r ih =>
    intro z
    show r.foldl (· + ·) (z + a) = z + r.foldl (· + ·) (0 + a)
    rw [ih (z + a), ih (0 + a)]
    omega
theorem sumZ_nil : sumZ [] = 0 := rfl
theorem sumZ_cons (a : Int) (l : List Int) : sumZ (a :: l) = a + sumZ l := by
  show l.foldl (· + ·) (0 + a) = _
  rw [foldl_add]
  omega
theorem sumZ_append (a b : List Int) : sumZ (a ++ b) = sumZ a + sumZ b := by
  unfold sumZ
  rw [List.foldl_append, foldl_add]
  rfl
theorem sumZ_snoc (l : List Int) (a : Int) : sumZ (l ++ [a]) = sumZ l + a := by
  rw [sumZ_append, sumZ_cons, sumZ_nil, Int.add_zero]
/-- at how many places of the paper the work fits -/
def fitN (paper ms : List Nat) (w : Nat) : Nat := (paper.filter fun p => (ms.getD p 0).testBit w).length
def wantZ (paper ws : List Nat) : Int := sumZ (paper.map fun p => ((ws.getD p 0 : Nat) : Int))
def giveZ (paper os ms : List Nat) (n : Nat) : Int := sumZ ((List.range n).map fun i => ((min (os.getD i 0) (fitN paper ms i) : Nat) : Int))
def shownZ (paper ws os ms : List Nat) : Int := wantZ paper ws - giveZ paper os ms os.length
theorem giveZ_succ (paper os ms : List Nat) (n : Nat) : giveZ paper os ms (n + 1) = giveZ paper os ms n + ((min (os.getD n 0) (fitN paper ms n) : Nat) : Int) := by
  unfold giveZ
  rw [List.range_succ, List.map_append, sumZ_append]
  rw [show ([n].map fun i => ((min (os.getD i 0) (fitN paper ms i) : Nat) : Int)) = [((min (os.getD n 0) (fitN paper ms n) : Nat) : Int)] from rfl, sumZ_cons, sumZ_nil, Int.add_zero]
theorem fitN_snoc (paper ms : List Nat) (p w : Nat) : fitN (paper ++ [p]) ms w = fitN paper ms w + if (ms.getD p 0).testBit w then 1 else 0 := by
  unfold fitN
  rw [List.filter_append, List.length_append]
  congr 1
  rw [List.filter_cons]
  cases h : (ms.getD p 0).testBit w <;> rfl
theorem wantZ_snoc (paper ws : List Nat) (p : Nat) : wantZ (paper ++ [p]) ws = wantZ paper ws + ((ws.getD p 0 : Nat) : Int) := by
  unfold wantZ
  rw [List.map_append]
  exact sumZ_snoc _ _
theorem take_succ {α : Type} {l : List α} {i : Nat} {x : α} (h : l[i]? = some x) : l.take (i + 1) = l.take i ++ [x] := by
  rw [List.take_succ, h]
  rfl
theorem getD_of {l : List Nat} {i x : Nat} (h : l[i]? = some x) : l.getD i 0 = x := by
  rw [List.getD_eq_getElem?_getD, h]
  rfl
theorem filterMap_some {α β : Type} {f : α → Option β} {g : α → β} : ∀ {l : List α}, (∀ i ∈ l, f i = some (g i)) → l.filterMap f = l.map g
  | [], _ => rfl
  | a :: r, h => by
    rw [List.filterMap_cons, h a (List.mem_cons_self), List.map_cons]
    exact congrArg (_ :: ·) (filterMap_some fun i hi => h i (List.mem_cons_of_mem _ hi))
/-- a number's bit, as the law asks it -/
theorem bit_mod (m w : Nat) : (((m : Int) / 2 ^ w) % 2 = 1) ↔ m.testBit w = true := by
  rw [show ((2 : Int) ^ w) = ((2 ^ w : Nat) : Int) by rw [Int.natCast_pow]; rfl, ← Int.natCast_ediv, show ((m / 2 ^ w : Nat) : Int) % 2 = ((m / 2 ^ w % 2 : Nat) : Int) by rw [Int.natCast_emod]; rfl]
  rw [Nat.testBit_eq_decide_div_mod_eq, decide_eq_true_eq]
  omega
theorem take_set {l : List Nat} {j x m : Nat} (h : l[j]? = some m) : ∀ k y, (l.set j x)[k]? = some y → k = j ∧ y = x ∨ k ≠ j ∧ l[k]? = some y := fun k y e => by
  have hj : j < l.length := (List.getElem?_eq_some_iff.mp h).1
  by_cases hk : k = j
  · subst hk
    rw [List.getElem?_set_self hj] at e
    exact .inl ⟨rfl, (Option.some.inj e).symm⟩
  · rw [List.getElem?_set_ne (fun z => hk z.symm)] at e
    exact .inr ⟨hk, e⟩
theorem lift_bit {m n r : Nat} (h : m < 2 ^ n) (hr : r < 2) : m + 2 ^ n * r < 2 ^ (n + 1) := by
  rw [Nat.pow_succ]
  have : r = 0 ∨ r = 1 := by omega
  rcases this with rfl | rfl <;> omega
/-- the ground that a law draws -/
structure Good (most : Nat) (ws os ms : List Nat) : Prop where
  len : ws.length = ms.length
  one : 1 ≤ ws.length
  six : ws.length ≤ 6
  many : os.length ≤ most
  wl : ∀ w ∈ ws, w ≤ 60
  wt : ∀ (k w : Nat), ws[k]? = some w → 1 ≤ k → w ≤ 3
  ol : ∀ o ∈ os, 1 ≤ o ∧ o ≤ 9
  ml : ∀ m ∈ ms, m < 2 ^ os.length
end CG

/-! ### the greatest of a list of ints -/
namespace L7
open PySem PySem.Spec PyProof.Rows L2 L3 L4 L6
section
variable {X : Cx}
theorem call_maxL (hc : X.calm = true) : CallR X (.builtin "max") (fun xs H Q => ∃ (p : Addr) (ns : List Int), xs = [.ref p] ∧ SqL X.K H p (ns.map V.int) ∧ ns ≠ [] ∧ ∀ m, m ∈ ns → (∀ x ∈ ns, x ≤ m) → Q (.int m) H) := by
  intro pins s σ H xs us Q I r h
  obtain ⟨p, ns, rfl, hq, hne, q⟩ := h
  obtain ⟨u, rfl, rx⟩ := vals1 r
  cases rx
  obtain ⟨its, rv, pl, hz⟩ := I.list hq
  have hl := rv.length
  rw [List.length_map] at hl
  have hpos : 0 < ns.length := List.length_pos_iff.mpr hne
  refine call_max_walk (wpAny_pyIter_list pl.isList ?_)
  have hp : p < s.heap.objs.size := by obtain ⟨o, n, e, _⟩ := pl; exact Heap.lt_size e
  have hval : ∀ (i : Nat) (v : Value), its.toArray[i]? = some v → ∃ t : Tok, v = Value.int (ns.getD i 0) t := fun i v hv => by
    have hv' : its[i]? = some v := by simpa using hv
    have hi : i < its.length := (List.getElem?_eq_some_iff.mp hv').1
    obtain ⟨u', e1, t, e2⟩ := rv.get (x := V.int (ns[i]'(by omega))) (i := i) (by rw [List.getElem?_map, List.getElem?_eq_getElem (by omega)]; rfl)
    rw [hv'] at e1
    cases e1
    refine ⟨t, ?_⟩
    rw [e2]
    show _ = Value.int (ns.getD i 0) t
    rw [List.getD_eq_getElem?_getD, List.getElem?_eq_getElem (by omega)]; rfl
  refine ⟨s.heap.objs.size, _, _, its.toArray.size, _, _, fun i j => decide (ns.getD i 0 > ns.getD j 0), rfl, Walks.list (by show X.A.handled = none; exact I.ok.hd hc) s.heap.objs.size p (Nat.ne_of_lt hp) its.toArray,
    ⟨⟨_, Heap.get?_push_size _ rfl, rfl, rfl⟩, pl.isList.push _⟩, fun b hb => ?_, by rw [List.size_toArray]; omega, CmpOf.ints_gt (fun i => ns.getD i 0) hval, fun v h' tk hP hk => ?_⟩
  · show b < (s.heap.push _).objs.size
    rw [Heap.size_push]
    rcases List.mem_cons.mp hb with e | hb
    · rw [e]; exact Nat.lt_succ_self _
    · rw [List.mem_singleton.mp hb]; exact Nat.lt_succ_of_lt hp
  · obtain ⟨t, rfl⟩ := hval _ _ hP
    obtain ⟨h1, h2⟩ := argBest_gt (fun i => ns.getD i 0) (its.toArray.size - 1)
    rw [List.size_toArray] at h1 h2
    have hk' : ∀ b o, s.heap.get? b = some o → h'.get? b = some o := fun b o e =>
      hk b o (fun z => absurd (Heap.lt_size e) (by rw [List.mem_singleton.mp z]; exact Nat.lt_irrefl _)) (Heap.get?_push_of_some _ e)
    rw [List.size_toArray] at hP ⊢
    generalize argBest (fun i j => decide (ns.getD i 0 > ns.getD j 0)) (its.length - 1) = b at h1 h2 ⊢
    have hb : b < ns.length := by omega
    have eb : ns.getD b 0 = ns[b] := by rw [List.getD_eq_getElem?_getD, List.getElem?_eq_getElem hb]; rfl
    refine ⟨.int (ns.getD b 0), H, I.kept (t' := tk) hk', ⟨_, rfl⟩, q _ (eb ▸ List.getElem_mem hb) fun x hx => ?_⟩
    obtain ⟨j, hj, rfl⟩ := List.getElem_of_mem hx
    have := h2 j (by omega)
    rw [List.getD_eq_getElem?_getD, List.getElem?_eq_getElem hj] at this
    exact this
end
end L7
namespace L3
open PySem PySem.Spec PyProof.Rows L2 L3
/-- a comprehension without an if, its items told by their places -/
theorem comp_idx {J : It} {xs : List V} {P : Hp → Prop} {D : Addr} {g : TG} {tc : TT} {te : TE} {Q : Hp → Prop} {σ : L2.St} {H : Hp} (hD : H D = none) (Y : Yields J xs P) (S : L2.St → Prop) (zs : List V) (hlz : zs.length = xs.length) (h0 : S σ) (hP : ∀ H', Same H H' → P H') (hz : xs.length < sizeLine)
    (step : ∀ (i : Nat) (x z : V) (σ : L2.St) (H' : Hp) (R1 : L2.St → V → Hp → Prop) (R0 : L2.St → Hp → Prop), xs[i]? = some x → zs[i]? = some z → S σ → Same H H' → (∀ σ2 H4, S σ2 → Same H' H4 → R1 σ2 z H4) →
      g x σ H' fun σ2 H2 => tc σ2 H2 fun b H3 => if b = true then te σ2 H3 fun y H4 => R1 σ2 y H4 else R0 σ2 H3)
    (hq : ∀ H', Same H H' → H' D = some (.lst zs) → Q H') : ∃ W : Nat → Nat → List V → L2.St → Hp → Prop, (∃ m, W 0 m [] σ (upd H D (.lst []))) ∧ CompW D J g tc te Q W := by
  have up : ∀ {H' : Hp} {o : HO}, Same H H' → Same H (upd H' D o) := fun {H' o} s b ob e => by
    rw [upd_ne (ne_of_none e hD)]
    exact s b ob e
  refine comp_inv Y (fun i ys σ H' => Same H H' ∧ H' D = some (.lst ys) ∧ ys = zs.take i ∧ S σ) ⟨up (Same.refl H), upd_same, by simp, h0⟩ (fun i ys σ H' ⟨s, e, e2, _⟩ => ⟨hP H' s, e, ?_⟩) hz (fun i x ys σ H' hx ⟨s, e, e2, hS⟩ => ?_) fun ys σ H' ⟨s, e, e2, _⟩ => ?_
  · rw [e2, List.length_take]
    omega
  · have hi : i < xs.length := (List.getElem?_eq_some_iff.mp hx).1
    have hi' : i < zs.length := by omega
    have ez : zs[i]? = some zs[i] := List.getElem?_eq_getElem hi'
    refine step i x zs[i] σ H' (fun σ2 y H4 => H4 D = some (.lst ys) ∧ Same H (upd H4 D (.lst (ys ++ [y]))) ∧ upd H4 D (.lst (ys ++ [y])) D = some (.lst (ys ++ [y])) ∧ ys ++ [y] = zs.take (i + 1) ∧ S σ2) _ hx ez hS s (fun σ2 H4 h2 s4 => ⟨s4 _ _ e, up (s.trans s4), upd_same, ?_, h2⟩)
    rw [List.take_succ, ez, e2]
    rfl
  · refine hq H' s ?_
    rw [e, e2, ← hlz, List.take_length]
end L3
namespace L3
open PySem PySem.Spec PyProof.Rows L2 L3
/-- [x for x in xs if ..]: some of the items, in their order -/
theorem comp_sub {J : It} {xs : List V} {P : Hp → Prop} {D : Addr} {g : TG} {tc : TT} {te : TE} {Q : Hp → Prop} {σ : L2.St} {H : Hp} (hD : H D = none) (Y : Yields J xs P) (S : L2.St → Prop) (h0 : S σ) (hP : ∀ H', Same H H' → P H') (hz : xs.length < sizeLine)
    (step : ∀ (i : Nat) (x : V) (σ : L2.St) (H' : Hp) (R1 : L2.St → V → Hp → Prop) (R0 : L2.St → Hp → Prop), xs[i]? = some x → S σ → Same H H' → (∀ σ2 H4, S σ2 → Same H' H4 → R1 σ2 x H4) → (∀ σ2 H4, S σ2 → Same H' H4 → R0 σ2 H4) →
      g x σ H' fun σ2 H2 => tc σ2 H2 fun b H3 => if b = true then te σ2 H3 fun y H4 => R1 σ2 y H4 else R0 σ2 H3)
    (hq : ∀ H' zs, Same H H' → zs.Sublist xs → H' D = some (.lst zs) → Q H') : ∃ W : Nat → Nat → List V → L2.St → Hp → Prop, (∃ m, W 0 m [] σ (upd H D (.lst []))) ∧ CompW D J g tc te Q W := by
  have up : ∀ {H' : Hp} {o : HO}, Same H H' → Same H (upd H' D o) := fun {H' o} s b ob e => by
    rw [upd_ne (ne_of_none e hD)]
    exact s b ob e
  refine comp_inv Y (fun i ys σ H' => Same H H' ∧ H' D = some (.lst ys) ∧ ys.Sublist (xs.take i) ∧ S σ) ⟨up (Same.refl H), upd_same, List.nil_sublist _, h0⟩ (fun i ys σ H' ⟨s, e, e2, _⟩ => ⟨hP H' s, e, ?_⟩) hz (fun i x ys σ H' hx ⟨s, e, e2, hS⟩ => ?_) fun ys σ H' ⟨s, e, e2, _⟩ => ?_
  · have := e2.length_le
    rw [List.length_take] at this
    omega
  · have et : xs.take (i + 1) = xs.take i ++ [x] := by rw [List.take_succ, hx]; rfl
    refine step i x σ H' (fun σ2 y H4 => H4 D = some (.lst ys) ∧ Same H (upd H4 D (.lst (ys ++ [y]))) ∧ upd H4 D (.lst (ys ++ [y])) D = some (.lst (ys ++ [y])) ∧ (ys ++ [y]).Sublist (xs.take (i + 1)) ∧ S σ2) (fun σ2 H3 => Same H H3 ∧ H3 D = some (.lst ys) ∧ ys.Sublist (xs.take (i + 1)) ∧ S σ2) hx hS s (fun σ2 H4 h2 s4 => ⟨s4 _ _ e, up (s.trans s4), upd_same, ?_, h2⟩) (fun σ2 H4 h2 s4 => ⟨s.trans s4, s4 _ _ e, ?_, h2⟩)
    · rw [et]
      exact e2.append (List.Sublist.refl _)
    · rw [et]
      exact e2.trans (List.sublist_append_left _ _)
  · rw [List.take_length] at e2
    exact hq H' ys s e2 e
end L3

/-! ### zip of two lists -/
namespace L5
open PySem PySem.Spec PyProof.Rows L2 L3 L4
theorem bt_zipL : bootBuiltins "zip" = some (.type "zip") := by decide +kernel
/-- the pairs of the items of two lists: each a new tuple -/
def Ity (K : PySem.W.Frag) (a b : Addr) : It :=
  ⟨fun i H => ∃ xs ys x y, SqL K H a xs ∧ SqL K H b ys ∧ xs[i]? = some x ∧ ys[i]? = some y,
   fun i H v H' => ∃ T x y, v = .ref T ∧ H T = none ∧ H' = upd H T (.tup [x, y]) ∧ (∀ xs, SqL K H a xs → xs[i]? = some x) ∧ ∀ ys, SqL K H b ys → ys[i]? = some y,
   fun i H => ∃ xs ys, SqL K H a xs ∧ SqL K H b ys ∧ (xs.length ≤ i ∨ ys.length ≤ i)⟩
theorem turn_zipL {P : Program} {w : World} {K : PySem.W.Frag} {elts : List Expr} {kt : Nat} {pt : Pos} (a b z TI TO i1 i2 : Addr) (D : ZipApart z TI TO i1 i2 a b) :
    Turn P w K (.Tuple elts kt pt) (Ity K a b) [z, TI, TO, i1, i2] z (fun i h => IsZip h z TI TO .none ∧ IsPair h TI (.ref i1) (.ref i2) ∧ (∃ c d, IsPair h TO c d) ∧ h.IsListIter i1 a i ∧ h.IsListIter i2 b i) where
  mem := by simp
  obj := fun i h ⟨hz, hTI, ⟨c, d, hTO⟩, h1, h2⟩ x hx => by
    obtain ⟨o1, e1, _, d1⟩ := h1
    obtain ⟨o2, e2, _, d2⟩ := h2
    simp only [List.mem_cons, List.not_mem_nil, or_false] at hx
    rcases hx with rfl | rfl | rfl | rfl | rfl
    · exact ⟨_, hz, fun v q => by cases (show Data.fields _ = Data.cell v from q)⟩
    · exact ⟨_, hTI, fun v q => by cases (show Data.seq _ _ = Data.cell v from q)⟩
    · exact ⟨_, hTO, fun v q => by cases (show Data.seq _ _ = Data.cell v from q)⟩
    · exact ⟨o1, e1, fun v q => by rw [d1] at q; cases q⟩
    · exact ⟨o2, e2, fun v q => by rw [d2] at q; cases q⟩
  keep := fun i h h' ⟨hz, hTI, ⟨c, d, hTO⟩, ⟨o1, e1, r1⟩, ⟨o2, e2, r2⟩⟩ k => ⟨k z (by simp) _ hz, k TI (by simp) _ hTI, ⟨c, d, k TO (by simp) _ hTO⟩, ⟨o1, k i1 (by simp) _ e1, r1⟩, ⟨o2, k i2 (by simp) _ e2, r2⟩⟩
  item := by
    intro X hP hw hK hc i pins s σ H E I hf st hg
    subst hP hw hK
    obtain ⟨hz, hTI, ⟨c, d, hTO⟩, h1, h2⟩ := st
    obtain ⟨xs, ys, x, y, hq1, hq2, hx, hy⟩ := hg
    obtain ⟨its1, rv1, p1, _⟩ := I.list hq1
    obtain ⟨its2, rv2, p2, _⟩ := I.list hq2
    obtain ⟨u, hu, ru⟩ := rv1.get hx
    obtain ⟨v, hv, rv⟩ := rv2.get hy
    have lt1 : z < s.heap.objs.size := Heap.lt_size hz
    have lt2 : TI < s.heap.objs.size := Heap.lt_size hTI
    have lt3 : TO < s.heap.objs.size := Heap.lt_size hTO
    have lt4 : i1 < s.heap.objs.size := by obtain ⟨o, e, _⟩ := id h1; exact Heap.lt_size e
    have lt5 : i2 < s.heap.objs.size := by obtain ⟨o, e, _⟩ := id h2; exact Heap.lt_size e
    refine wpAny_pyNext_zip_item D hz hTI hTO h1 h2 p1.isList p2.isList (x := u) (y := v) (by simpa using hu) (by simpa using hv) fun h' a1 a2 a3 a4 a5 _ kk => ⟨_, rfl, ?_⟩
    refine wpAny_letOwnedTupleGo_zip a1 fun g2 z2 b2 => ?_
    replace b2 : Heap.SameBut z h' g2 := b2
    obtain ⟨g1, eg1⟩ : ∃ g1, g1 = s.heap.push { cls := .type "tuple", data := .seq #[u, v] } := ⟨_, rfl⟩
    have e1 : g1.get? s.heap.objs.size = some { cls := .type "tuple", data := .seq #[u, v] } := by rw [eg1]; exact Heap.get?_push_size _ rfl
    have I1 : Inv X pins σ (upd H s.heap.objs.size (.tup [x, y])) { s with heap := g1, toks := s.toks } :=
      I.laid (fun b o q => by rw [eg1]; exact Heap.get?_push_of_some _ q) (Nat.le_refl _) ⟨by show 2 ≤ sizeLine; decide, [u, v], .cons ru (.cons rv .nil), ⟨_, e1, rfl, _, rfl⟩⟩
    have lt : ∀ b ∈ [z, TI, TO, i1, i2], b < s.heap.objs.size := fun b hb => by
      simp only [List.mem_cons, List.not_mem_nil, or_false] at hb
      rcases hb with rfl | rfl | rfl | rfl | rfl <;> assumption
    have ff : ∀ b ∈ [z, TI, TO, i1, i2], FpOk X pins (upd H s.heap.objs.size (.tup [x, y])) b := fun b hb => by
      obtain ⟨q0, q1⟩ := hf b hb
      refine ⟨?_, q1⟩
      rw [upd_ne (Nat.ne_of_lt (lt b hb))]
      exact q0
    have I2 := I1.turnedL (t' := s.toks) (h' := g2) (its := [z, TI, TO, i1, i2]) (fun b o hb q => ?_) ff
    · refine ⟨.ref s.heap.objs.size, _, I2, rfl, ⟨_, x, y, rfl, I.fresh, rfl, (fun zs hzs => by rw [I.list_inj hzs hq1]; exact hx), fun zs hzs => by rw [I.list_inj hzs hq2]; exact hy⟩, ⟨z2, b2.extBut _ _ D.TIz (kk _ _ D.TIz D.TITO D.TIi1 D.TIi2 hTI), ⟨u, v, b2.extBut _ _ D.TOz a2⟩, a3.at fun o e => b2.extBut _ _ D.i1z e, a4.at fun o e => b2.extBut _ _ D.i2z e⟩, fun b hb => (ff b hb).1⟩
    · have n1 : b ≠ z := fun q => hb (by simp [q])
      have n2 : b ≠ TO := fun q => hb (by simp [q])
      have n3 : b ≠ i1 := fun q => hb (by simp [q])
      have n4 : b ≠ i2 := fun q => hb (by simp [q])
      by_cases hT : b = s.heap.objs.size
      · subst hT
        rw [show g1.get? s.heap.objs.size = some o from q] at e1
        rw [Option.some.inj e1]
        exact b2.extBut _ _ n1 a5
      · refine b2.extBut _ _ n1 (kk b o n1 n2 n3 n4 ?_)
        have q' : (s.heap.push { cls := .type "tuple", data := .seq #[u, v] }).get? b = some o := by rw [← eg1]; exact q
        rw [Heap.get?_push_ne _ _ _ hT] at q'
        exact q'
  done := by
    intro X hP hw hK hc i pins s σ H E I hf st hg
    subst hP hw hK
    obtain ⟨hz, hTI, ⟨c, d, hTO⟩, h1, h2⟩ := st
    obtain ⟨xs, ys, hq1, hq2, hlen⟩ := hg
    obtain ⟨its1, rv1, p1, _⟩ := I.list hq1
    obtain ⟨its2, rv2, p2, _⟩ := I.list hq2
    have l1 := rv1.length
    have l2 := rv2.length
    refine wpAny_pyNext_zip_end (I.ok.hd hc) D hz hTI hTO h1 h2 p1.isList p2.isList (hlen.imp (fun h => by simp; omega) fun h => by simp; omega) fun h' kk => ⟨rfl, ?_⟩
    exact I.turnedL (t' := s.toks) (its := [z, TI, TO, i1, i2]) (fun b o hb e => kk b o (fun q => hb (by simp [q])) (fun q => hb (by simp [q])) (fun q => hb (by simp [q])) (fun q => hb (by simp [q])) e) hf
  self := fun A i s Q E ⟨hz, _⟩ h => wpAny_pyIter_zip hz h
theorem zip_apartL {n a b : Nat} (la : a < n) (lb : b < n) : ZipApart (n + 4) (n + 2) (n + 3) n (n + 1) a b :=
  ⟨(show (n + 2) ≠ (n + 4) by omega), (show (n + 3) ≠ (n + 4) by omega), (show n ≠ (n + 4) by omega), (show (n + 1) ≠ (n + 4) by omega), (show (n + 2) ≠ (n + 3) by omega), (show (n + 2) ≠ n by omega), (show (n + 2) ≠ (n + 1) by omega), (show (n + 3) ≠ n by omega), (show (n + 3) ≠ (n + 1) by omega), (show n ≠ (n + 1) by omega), (show a ≠ (n + 4) by omega), (show a ≠ (n + 3) by omega), (show a ≠ n by omega), (show a ≠ (n + 1) by omega), (show b ≠ (n + 4) by omega), (show b ≠ (n + 3) by omega), (show b ≠ n by omega), (show b ≠ (n + 1) by omega)⟩
section
variable {X : Cx} {e1 e2 : Expr} {p pos : Pos} {elts : List Expr} {kt : Nat} {pt : Pos}
def iZipL (K : PySem.W.Frag) (ta : TA) : TI := fun σ H R => ta σ H fun vs H1 => ∃ a b, vs = [.ref a, .ref b] ∧ (∃ xs, SqL K H1 a xs) ∧ (∃ ys, SqL K H1 b ys) ∧ R (Ity K a b) H1
theorem pi_zipL {ta : TA} (h1 : Gl X "zip") (hm : X.mg "zip" = none) (ha : PA X [e1, e2] ta) (hs : starEach [e1, e2] X.env = (false, eval e1 X.env) :: starEach [e2] X.env := by rfl) (hpl : (backTo pos (starEach [e2] X.env)).any (·.1) = false := by rfl) :
    PI X (.Tuple elts kt pt) (.Call (.Name "zip" p) [e1, e2] [] pos) (iZipL X.K ta) := by
  intro pins s σ H R I h
  refine wpAny_Call_Name_kw (ld_blt I h1 hm bt_zipL (PyProof.Rows.callWith_type1 (thn (ha pos pins s σ H _ I h) fun us s1 ⟨vs, H1, I1, r1, a, b, ex, ⟨xs, hq1⟩, ⟨ys, hq2⟩, q1⟩ => ?_) hs hpl))
  subst ex
  obtain ⟨u, u', rfl, ru, ru'⟩ := vals2 r1
  cases ru
  cases ru'
  obtain ⟨its1, rv1, p1, _⟩ := I1.list hq1
  obtain ⟨its2, rv2, p2, _⟩ := I1.list hq2
  have la : a < s1.heap.objs.size := by obtain ⟨o, n, e, _⟩ := p1; exact Heap.lt_size e
  have lb : b < s1.heap.objs.size := by obtain ⟨o, n, e, _⟩ := p2; exact Heap.lt_size e
  refine call_zip_2 p1.isList p2.isList fun h' az aTI aTO j1 j2 _ kk => ?_
  have D := zip_apartL (n := s1.heap.objs.size) la lb
  refine wpAny_pyIter_zip az ⟨_, [s1.heap.objs.size + 4, s1.heap.objs.size + 2, s1.heap.objs.size + 3, s1.heap.objs.size, s1.heap.objs.size + 1], _, _, H1, rfl, I1.kept (t' := s1.toks) kk, turn_zipL a b _ _ _ _ _ D, ⟨az, aTI, ⟨_, _, aTO⟩, j1, j2⟩, fun c hc => ?_, q1⟩
  have hc' : s1.heap.objs.size ≤ c := by
    simp only [List.mem_cons, List.not_mem_nil, or_false] at hc
    rcases hc with rfl | rfl | rfl | rfl | rfl
    · exact Nat.le_add_right _ _
    · exact Nat.le_add_right _ _
    · exact Nat.le_add_right _ _
    · exact Nat.le_refl _
    · exact Nat.le_add_right _ _
  exact I1.fpOk hc' (I1.hok.fresh hc')
end

/-- the items that f gives of the pairs of the items -/
def zipF (f : Nat → V → V → Option V) (xs ys : List V) (n : Nat) : List V := (List.range n).filterMap fun j => (xs[j]?).bind fun x => (ys[j]?).bind (f j x)
theorem zipF_succ {f : Nat → V → V → Option V} {xs ys : List V} {i : Nat} {x y : V} (h : xs[i]? = some x) (h' : ys[i]? = some y) : zipF f xs ys (i + 1) = zipF f xs ys i ++ (f i x y).toList := by
  unfold zipF
  rw [List.range_succ, List.filterMap_append, List.filterMap_cons, h]
  cases e : f i x y with
  | none => simp [e, h']
  | some z => simp [e, h']
theorem comp_zip {K : PySem.W.Frag} {a b : Addr} {xs ys : List V} {D : Addr} {g : TG} {tc : TT} {te : TE} {Q : Hp → Prop} {σ : L2.St} {H : Hp} (hD : H D = none) (hl : ∀ H', Same H H' → SqL K H' a xs ∧ SqL K H' b ys) (S : L2.St → Prop) (f : Nat → V → V → Option V) (h0 : S σ) (hlen : ys.length ≤ xs.length) (hz : ys.length < sizeLine)
    (step : ∀ (i : Nat) (x y : V) (σ : L2.St) (H' : Hp) (T : Addr) (R1 : L2.St → V → Hp → Prop) (R0 : L2.St → Hp → Prop), xs[i]? = some x → ys[i]? = some y → S σ → Same H H' → H' T = none → (∀ σ2 z H4, S σ2 → f i x y = some z → Same H' H4 → R1 σ2 z H4) → (∀ σ2 H3, S σ2 → f i x y = none → Same H' H3 → R0 σ2 H3) →
      g (.ref T) σ (upd H' T (.tup [x, y])) fun σ2 H2 => tc σ2 H2 fun b H3 => if b = true then te σ2 H3 fun z H4 => R1 σ2 z H4 else R0 σ2 H3)
    (hq : ∀ H', Same H H' → H' D = some (.lst (zipF f xs ys ys.length)) → Q H') : ∃ W : Nat → Nat → List V → L2.St → Hp → Prop, (∃ m, W 0 m [] σ (upd H D (.lst []))) ∧ CompW D (Ity K a b) g tc te Q W := by
  have up : ∀ {H' : Hp} {o : HO}, Same H H' → Same H (upd H' D o) := fun {H' o} s b ob e => by
    rw [upd_ne (ne_of_none e hD)]
    exact s b ob e
  refine ⟨fun i m zs σ H' => m = ys.length - i ∧ i ≤ ys.length ∧ Same H H' ∧ H' D = some (.lst zs) ∧ zs = zipF f xs ys i ∧ S σ, ⟨ys.length, by simp, Nat.zero_le _, up (Same.refl H), upd_same, by unfold zipF; simp, h0⟩, ?_⟩
  rintro i m zs σ H' ⟨rfl, hi, s, e, e2, hS⟩
  have hlen' : zs.length ≤ i := by
    rw [e2]
    unfold zipF
    exact Nat.le_trans (List.length_filterMap_le _ _) (by rw [List.length_range]; exact Nat.le_refl _)
  refine ⟨e, by omega, ?_⟩
  obtain ⟨q1, q2⟩ := hl H' s
  by_cases hlt : i < ys.length
  · refine .inr ⟨⟨xs, ys, xs[i]'(by omega), ys[i], q1, q2, List.getElem?_eq_getElem (by omega), List.getElem?_eq_getElem hlt⟩, fun y σ2 H4 => H4 D = some (.lst zs) ∧ Same H (upd H4 D (.lst (zs ++ [y]))) ∧ zs ++ [y] = zipF f xs ys (i + 1) ∧ S σ2, fun σ2 H3 => Same H H3 ∧ H3 D = some (.lst zs) ∧ zs = zipF f xs ys (i + 1) ∧ S σ2,
      fun y σ2 H4 q => ⟨q.1, ys.length - (i + 1), by omega, rfl, hlt, q.2.1, upd_same, q.2.2.1, q.2.2.2⟩, fun σ2 H3 q => ⟨ys.length - (i + 1), by omega, rfl, hlt, q⟩, fun v H1 ⟨T, x, y, e1, e3, e4, e5, e6⟩ => ?_⟩
    subst e1 e4
    have hx := e5 xs q1
    have hy := e6 ys q2
    refine step i x y σ H' T (fun σ2 z H4 => _) (fun σ2 H3 => _) hx hy hS s e3 (fun σ2 z H4 h2 hf s4 => ⟨s4 _ _ e, up (s.trans s4), ?_, h2⟩) fun σ2 H3 h2 hf s3 => ⟨s.trans s3, s3 _ _ e, ?_, h2⟩
    · rw [zipF_succ hx hy, hf, e2]
      rfl
    · rw [zipF_succ hx hy, hf, e2]
      exact (List.append_nil _).symm
  · obtain rfl : i = ys.length := by omega
    refine .inl ⟨⟨xs, ys, q1, q2, .inr (Nat.le_refl _)⟩, hq H' s ?_⟩
    rw [e, e2]
end L5

/-! ### lists whose items are each known by a thing of their own; comprehensions that make such -/
namespace L13
open PySem PySem.Spec PyProof.Rows L2 L3 L4 L6
section
variable {α : Type} {Pd : Hp → V → α → Prop} {D D' : Hp}
def Els (Pd : Hp → V → α → Prop) (D : Hp) (vs : List V) (as : List α) : Prop := vs.length = as.length ∧ ∀ (i : Nat) (v : V) (a : α), vs[i]? = some v → as[i]? = some a → Pd D v a
theorem Els.nil : Els Pd D [] [] := ⟨rfl, fun i v a h => by cases h⟩
theorem Els.app {vs us : List V} {as bs : List α} (h : Els Pd D vs as) (k : Els Pd D us bs) : Els Pd D (vs ++ us) (as ++ bs) := by
  refine ⟨by rw [List.length_append, List.length_append, h.1, k.1], fun i v a e1 e2 => ?_⟩
  by_cases hi : i < vs.length
  · rw [List.getElem?_append_left hi] at e1
    rw [List.getElem?_append_left (by rw [← h.1]; exact hi)] at e2
    exact h.2 i v a e1 e2
  · rw [List.getElem?_append_right (by omega)] at e1
    rw [List.getElem?_append_right (by rw [← h.1]; omega), ← h.1] at e2
    exact k.2 _ v a e1 e2
theorem Els.one {v : V} {a : α} (h : Pd D v a) : Els Pd D [v] [a] := ⟨rfl, fun i v' a' e1 e2 => by
  cases i with
  | zero => cases e1; cases e2; exact h
  | succ i => cases e1⟩
theorem Els.snoc {vs : List V} {as : List α} {v : V} {a : α} (h : Els Pd D vs as) (k : Pd D v a) : Els Pd D (vs ++ [v]) (as ++ [a]) := h.app (Els.one k)
theorem Els.up (mono : ∀ v a, Pd D v a → Pd D' v a) {vs : List V} {as : List α} (h : Els Pd D vs as) : Els Pd D' vs as := ⟨h.1, fun i v a e1 e2 => mono v a (h.2 i v a e1 e2)⟩
theorem Els.back {vs : List V} {as : List α} {i : Nat} {v : V} (h : Els Pd D vs as) (e : vs[i]? = some v) : ∃ a, as[i]? = some a ∧ Pd D v a := by
  have hi : i < vs.length := (List.getElem?_eq_some_iff.mp e).1
  have ha : as[i]? = some (as[i]'(by rw [← h.1]; exact hi)) := List.getElem?_eq_getElem (by rw [← h.1]; exact hi)
  exact ⟨_, ha, h.2 i v _ e ha⟩
theorem Els.at_ {vs : List V} {as : List α} {i : Nat} {a : α} (h : Els Pd D vs as) (e : as[i]? = some a) : ∃ v, vs[i]? = some v ∧ Pd D v a := by
  have hi : i < as.length := (List.getElem?_eq_some_iff.mp e).1
  have hv : vs[i]? = some (vs[i]'(by rw [h.1]; exact hi)) := List.getElem?_eq_getElem (by rw [h.1]; exact hi)
  exact ⟨_, hv, h.2 i _ a hv e⟩
end
/-- a comprehension, an item for each that is walked -/
theorem comp_els {α : Type} {Pd : Hp → V → α → Prop} (mono : ∀ {D D' : Hp} {v : V} {a : α}, Same D D' → Pd D v a → Pd D' v a) {J : It} {xs : List V} {P : Hp → Prop} {q : Addr} {g : TG} {tc : TT} {te : TE} {Q : Hp → Prop} {σ : L2.St} {D H : Hp} (s0 : Same D H) (hq0 : H q = none) (Y : Yields J xs P) (S : L2.St → Prop) (as : List α)
    (hl : as.length = xs.length) (h0 : S σ) (hP : ∀ H', Same H H' → P H') (hz : xs.length < sizeLine)
    (step : ∀ (i : Nat) (x : V) (a : α) (σ : L2.St) (D1 H1 : Hp) (R1 : L2.St → V → Hp → Prop) (R0 : L2.St → Hp → Prop), xs[i]? = some x → as[i]? = some a → S σ → Gr D H D1 H1 →
      (∀ σ2 y D4 H4, S σ2 → Gr D1 H1 D4 H4 → Pd D4 y a → R1 σ2 y H4) →
      g x σ H1 fun σ2 H2 => tc σ2 H2 fun b H3 => if b = true then te σ2 H3 fun y H4 => R1 σ2 y H4 else R0 σ2 H3)
    (hq : ∀ D' H' ys, Gr D H D' H' → H' q = some (.lst ys) → D' q = none → Els Pd D' ys as → Q H') :
    ∃ W : Nat → Nat → List V → L2.St → Hp → Prop, (∃ m, W 0 m [] σ (upd H q (.lst []))) ∧ CompW q J g tc te Q W := by
  refine comp_inv Y (fun i ys σ H' => ∃ D', Gr D H D' H' ∧ H' q = some (.lst ys) ∧ D' q = none ∧ Els Pd D' ys (as.take i) ∧ S σ) ⟨D, Gr.layH s0 hq0, upd_same, s0.free hq0, by rw [List.take_zero]; exact Els.nil, h0⟩
    (fun i ys σ H' ⟨D', G, e, _, hA, _⟩ => ⟨hP H' G.hh, e, ?_⟩) hz (fun i x ys σ H' hx ⟨D', G, e, n, hA, hS⟩ => ?_) fun ys σ H' ⟨D', G, e, n, hA, _⟩ => ?_
  · rw [hA.1, List.length_take]
    omega
  · have hi : i < xs.length := (List.getElem?_eq_some_iff.mp hx).1
    have ha : as[i]? = some (as[i]'(by omega)) := List.getElem?_eq_getElem (by omega)
    refine step i x _ σ D' H' _ _ hx ha hS G fun σ2 y D4 H4 h2 G4 hy => ?_
    obtain ⟨e4, n4⟩ := G4.old e n
    have T := G.trans G4
    refine ⟨e4, D4, ⟨T.dd, fun b o eb => ?_, same_set T.dh n4, T.nw⟩, upd_same, n4, ?_, h2⟩
    · rw [upd_ne (ne_of_none eb hq0)]
      exact T.hh b o eb
    · rw [take_snoc ha]
      exact (hA.up fun v a => mono G4.dd).snoc hy
  · rw [← hl, List.take_length] at hA
    exact hq D' H' ys G e n hA
/-- a list of numbers that nobody changes any more -/
def NL (D : Hp) (v : V) (x : List Nat) : Prop := ∃ q, v = .ref q ∧ D q = some (.lst (nV x))
theorem NL.up {D D' : Hp} {v : V} {x : List Nat} (s : Same D D') : NL D v x → NL D' v x := fun ⟨q, e, h⟩ => ⟨q, e, s _ _ h⟩
/-- a list of such -/
def NLL (D : Hp) (v : V) (xs : List (List Nat)) : Prop := ∃ q zs, v = .ref q ∧ D q = some (.lst zs) ∧ Els NL D zs xs
theorem NLL.up {D D' : Hp} {v : V} {x : List (List Nat)} (s : Same D D') : NLL D v x → NLL D' v x := fun ⟨q, zs, e, h, k⟩ => ⟨q, zs, e, s _ _ h, k.up fun _ _ => NL.up s⟩
end L13

/-! ### list(x), inside a comprehension -/
namespace L18
open PySem L2 L3
theorem list_K {X : Cx} {K : PySem.W.Frag} (hK : X.K = K) : CallR X (.type "list") (fun xs H Q => ∃ p ys, xs = [.ref p] ∧ (SqL K H p ys ∨ SqT K H p ys) ∧ ∀ l, H l = none → Q (.ref l) (upd H l (.lst ys))) := by
  subst hK
  exact call_list_of
end L18
namespace L18
open PySem L2 L3
theorem cut {A B : TS} {D : Ends} {σ : L2.St} {H : Hp} (h : ∀ N : L2.St → Hp → Prop, (∀ σ' H', B D σ' H' → N σ' H') → A { D with nx := N } σ H) : tSeq A B D σ H := h _ fun _ _ x => x
end L18

/-! ### max(xs, default=d) of a list of ints -/
namespace L19
open PySem
/-- the greatest of what was held and what comes, d where there is none -/
def fin (d : Int) : Option Int → List Int → Int
  | none, [] => d
  | some b, [] => b
  | none, x :: xs => fin d (some x) xs
  | some b, x :: xs => fin d (some (if x > b then x else b)) xs
theorem fin_some {d : Int} : ∀ {xs : List Int} {b : Int}, (fin d (some b) xs = b ∨ fin d (some b) xs ∈ xs) ∧ b ≤ fin d (some b) xs ∧ ∀ x ∈ xs, x ≤ fin d (some b) xs
  | [], b => ⟨.inl rfl, Int.le_refl _, fun _ h => nomatch h⟩
  | x :: xs, b => by
    obtain ⟨h1, h2, h3⟩ := fin_some (d := d) (xs := xs) (b := if x > b then x else b)
    have e : fin d (some b) (x :: xs) = fin d (some (if x > b then x else b)) xs := rfl
    rw [e]
    refine ⟨?_, ?_, fun y hy => ?_⟩
    · rcases h1 with h | h
      · rw [h]
        split
        · exact .inr List.mem_cons_self
        · exact .inl rfl
      · exact .inr (List.mem_cons_of_mem _ h)
    · refine Int.le_trans ?_ h2
      split <;> omega
    · rcases List.mem_cons.mp hy with rfl | hy
      · refine Int.le_trans ?_ h2
        split <;> omega
      · exact h3 y hy
theorem fin_mem {d : Int} {xs : List Int} (h : xs ≠ []) : fin d none xs ∈ xs ∧ ∀ x ∈ xs, x ≤ fin d none xs := by
  cases xs with
  | nil => exact absurd rfl h
  | cons x xs =>
    obtain ⟨h1, h2, h3⟩ := fin_some (d := d) (xs := xs) (b := x)
    have e : fin d none (x :: xs) = fin d (some x) xs := rfl
    rw [e]
    exact ⟨h1.elim (fun z => by rw [z]; exact List.mem_cons_self) (List.mem_cons_of_mem _), fun y hy => (List.mem_cons.mp hy).elim (fun z => z ▸ h2) (h3 y)⟩
/-- what the loop keeps in its own list -/
def Kept (v : Array Value) : Option Int → Prop
  | none => v = #[]
  | some b => ∃ t, v = #[.int b t, .int b t]
section
variable {prog : Program} {w : World} {A : Around} {R : Result → Shared → Prop} {I l S : Addr} {its : Array Value} {ns : List Int} {d : Int} {td : Tok}
set_option maxHeartbeats 1000000 in
theorem loop (hh : A.in1.handled = none) (hlI : l ≠ I) (hSI : S ≠ I) (hSl : S ≠ l) (hval : ∀ i v, its[i]? = some v → ∃ t, v = Value.int (ns.getD i 0) t) (hsz : its.size = ns.length) :
    ∀ (k i : Nat) (s : Shared) (o : Option Int) (v : Array Value) (c : Nat), i + k = ns.length → s.heap.IsListIter I l i → s.heap.IsList l its → Kept v o →
    s.heap.get? S = some { cls := .type "list", dict := none, data := .seq v c, slots := #[] } →
    (∀ t h' tk, (∀ b x, b ≠ I → b ≠ S → s.heap.get? b = some x → h'.get? b = some x) → R (.ok (.ret (.int (fin d o (ns.drop i)) t))) { s with heap := h', toks := tk }) →
    codeAny (model prog w) A (.builtin "max.loop" ⟨[.ref I, .none, .ref S], [("default", .int d td)]⟩) R s := by
  have W := Walks.list (prog := prog) (w := w) (A := A.in1) hh I l hlI its
  have hn : (toString "max" ++ toString ".loop" : String) = "max.loop" := by decide
  intro k
  have ask : ∀ {s : Shared} {v : Array Value} {c : Nat} {Q : PySem.Fin → Shared → Prop} {E : Value → Shared → Prop} {f : Option (Array Value) → Sem PySem.Fin} (_ : s.heap.get? S = some { cls := .type "list", dict := none, data := .seq v c, slots := #[] }), wpAny (model prog w) A.in1 (f (some v)) Q E s → wpAny (model prog w) A.in1 (seqItems? (.ref S) >>= f) Q E s := fun hS h => wpAny_bind (wpAny_seqItems hS rfl h)
  induction k with
  | zero =>
    intro i s o v c hk hi hl hv hS hR
    obtain rfl : i = ns.length := by omega
    rw [List.drop_length] at hR
    refine codeAny_builtin F.entry_max_loop ?_
    rw [Around.under_plainId F.plain_max_loop _]
    refine ask hS (wpAny_bind (wpAny_tryCatch (W.done s _ _ ⟨hsz ▸ hi, hl⟩ fun h' tk hk' => ?_)))
    have hS' := hk' S _ (by simpa using hSI) hS
    cases o with
    | none =>
      obtain rfl := hv
      wp_walk
      exact hR td h' tk fun b x n1 n2 e => hk' b x (by simpa using n1) e
    | some b =>
      obtain ⟨t, rfl⟩ := hv
      wp_walk using wpAny_updateSeq hS' rfl
      exact hR t _ tk fun b x n1 n2 e => (Heap.get?_update_other _ _ n2.symm).trans (hk' b x (by simpa using n1) e)
  | succ k ih =>
    intro i s o v c hk hi hl hv hS hR
    have hlt : i < ns.length := by omega
    refine codeAny_builtin F.entry_max_loop ?_
    rw [Around.under_plainId F.plain_max_loop _]
    refine ask hS (wpAny_bind (wpAny_tryCatch (W.item i s _ _ (by omega) ⟨hi, hl⟩ fun x h' tk hx st' hk' => ?_)))
    obtain ⟨tx, rfl⟩ := hval i x hx
    have hS' := hk' S _ (by simpa using hSI) hS
    have ed : ns.drop i = ns.getD i 0 :: ns.drop (i + 1) := by
      rw [List.drop_eq_getElem_cons hlt, List.getD_eq_getElem?_getD, List.getElem?_eq_getElem hlt]
      rfl
    rw [ed] at hR
    have put : ∀ (u : Array Value) (o' : Option Int), Kept u o' → fin d o (ns.getD i 0 :: ns.drop (i + 1)) = fin d o' (ns.drop (i + 1)) →
        codeAny (model prog w) A (.builtin "max.loop" ⟨[.ref I, .none, .ref S], [("default", .int d td)]⟩) R { s with heap := h'.update S (Obj.mapSeq fun _ => u), toks := tk } := fun u o' hu ef => by
      refine ih (i + 1) _ o' u _ (by omega) (st'.1.at fun x e => (Heap.get?_update_other _ _ hSI).trans e) (st'.2.at fun x e => (Heap.get?_update_other _ _ hSl).trans e) hu (Heap.get?_update_self _ hS' rfl) fun t h2 tk2 hk2 => ?_
      rw [← ef]
      exact hR t h2 tk2 fun b x n1 n2 e => hk2 b x n1 n2 ((Heap.get?_update_other _ _ n2.symm).trans (hk' b x (by simpa using n1) e))
    cases o with
    | none =>
      obtain rfl := hv
      wp_walk using wpAny_updateSeq hS' rfl
      rw [hn]
      exact ⟨plainId_quiet F.plain_max_loop _, put _ (some _) ⟨tx, rfl⟩ rfl⟩
    | some b =>
      obtain ⟨t, rfl⟩ := hv
      have two := CmpOf.ints_gt (prog := prog) (w := w) (A := A.in1) (P := fun n v => ∃ t, v = Value.int (if n = 0 then ns.getD i 0 else b) t) (fun n => if n = 0 then ns.getD i 0 else b) fun _ _ h => h
      have cmp : ∀ {s : Shared} {Q : Value → Shared → Prop} {E : Value → Shared → Prop}, Q (.bool (decide (ns.getD i 0 > b))) s → wpAny (model prog w) A.in1 (richCompare .Gt (.int (ns.getD i 0) tx) (.int b t)) Q E s := fun {s Q E} h => two 0 1 _ _ s Q E ⟨tx, rfl⟩ ⟨t, rfl⟩ h
      refine wpAny_bind (wpAny_pure (wpAny_bind (wpAny_tryCatch (wpAny_holding (wpAny_bind (cmp ?_))))))
      by_cases hb : ns.getD i 0 > b
      · rw [decide_eq_true hb]
        wp_walk using wpAny_updateSeq hS' rfl
        rw [hn]
        exact ⟨plainId_quiet F.plain_max_loop _, put _ (some _) ⟨tx, rfl⟩ (show fin d (some (if ns.getD i 0 > b then _ else b)) _ = _ by rw [if_pos hb])⟩
      · rw [decide_eq_false hb]
        wp_walk
        rw [hn]
        refine ⟨plainId_quiet F.plain_max_loop _, ih (i + 1) _ (some b) _ _ (by omega) st'.1 st'.2 ⟨t, rfl⟩ hS' fun t2 h2 tk2 hk2 => ?_⟩
        have ef : fin d (some b) (ns.getD i 0 :: ns.drop (i + 1)) = fin d (some b) (ns.drop (i + 1)) := show fin d (some (if ns.getD i 0 > b then _ else b)) _ = _ by rw [if_neg hb]
        rw [← ef]
        exact hR t2 h2 tk2 fun b x n1 n2 e => hk2 b x n1 n2 (hk' b x (by simpa using n1) e)
theorem ok_args (a v : Value) : argsOk "max" ⟨[a], [("default", v)]⟩ := by unfold argsOk; kernel_rfl
variable {E : Value → Shared → Prop} {s : Shared}
theorem call_of {Q : Value → Shared → Prop} (hh : A.in1.handled = none) (hl : s.heap.IsList l its) (hval : ∀ i v, its[i]? = some v → ∃ t, v = Value.int (ns.getD i 0) t) (hsz : its.size = ns.length)
    (h : ∀ t h' tk, (∀ b x, s.heap.get? b = some x → h'.get? b = some x) → Q (.int (fin d none ns) t) { s with heap := h', toks := tk }) :
    wpAny (model prog w) A (call (.builtin "max") [.ref l] [("default", .int d td)]) Q E s := by
  have hn : (toString "max" ++ toString ".loop" : String) = "max.loop" := by decide
  have hlt : l < s.heap.objs.size := by obtain ⟨o, e, _⟩ := id hl; exact Heap.lt_size e
  refine PyProof.Rows.kmk_tree F.kind_max F.plain_max F.entry_max (ok_args _ _) ?_
  show wpAny _ A.in1 (Builtin.Builtins.bindParams "max" ["key", "default"] 0 ⟨[], [("default", .int d td)]⟩ >>= _) _ _ s
  refine wpAny_bind (wpAny_of_eq (a := [none, some (.int d td)]) rfl (wpAny_bind (wpAny_pure (wpAny_bind (wpAny_pyIter_list hl ?_)))))
  wp_walk
  rw [hn]
  have hS : (s.heap.push { cls := .type "list_iterator", data := .fields #[.ref l, .int 0 0] }).objs.size = s.heap.objs.size + 1 := Heap.size_push ..
  refine ⟨plainId_quiet F.plain_max_loop _, loop (ns := ns) hh (Nat.ne_of_lt hlt) (by rw [hS]; exact Nat.ne_of_gt (Nat.lt_succ_self _)) (by rw [hS]; exact Nat.ne_of_gt (Nat.lt_succ_of_lt hlt)) hval hsz ns.length 0 _ none #[] 0 (Nat.zero_add _) ⟨_, Heap.get?_push_of_some _ (Heap.get?_push_size _ rfl), rfl, rfl⟩ ((hl.push _).push _) rfl (Heap.get?_push_size _ rfl) fun t h' tk hk => ?_⟩
  refine h t h' tk fun b x e => hk b x (Nat.ne_of_lt (Heap.lt_size e)) (by rw [hS]; exact Nat.ne_of_lt (Nat.lt_succ_of_lt (Heap.lt_size e))) (Heap.get?_push_of_some _ (Heap.get?_push_of_some _ e))
end
end L19
namespace L19
open PySem PySem.Spec PyProof.Rows L2 L3 L4
def tMaxD (K : PySem.W.Frag) (ta tk : TA) : TE := fun σ H Q => ta σ H fun vs H1 => tk σ H1 fun zs H2 => ∃ (p : Addr) (ns : List Int) (d : Int), vs = [.ref p] ∧ zs = [.int d] ∧ SqL K H2 p (ns.map V.int) ∧ ∀ m, (ns = [] → m = d) ∧ (ns ≠ [] → m ∈ ns ∧ ∀ x ∈ ns, x ≤ m) → Q (.int m) H2
theorem pe_maxD {X : Cx} {sc : Scope} {e : Expr} {kws : List Keyword} {ta tk : TA} {p pos : Pos} (hc : X.calm = true) (h1 : X.env.scope = sc) (hg : glB sc "max" = true) (hm : X.mg "max" = none) (ha : PA X [e] ta) (hkw : PK X kws tk)
    (hks : (backToKw pos (keywordEach kws X.env)).filterMap (·.1) = [("default" : Str)] := by rfl) (hall : (backToKw pos (keywordEach kws X.env)).all (·.1.isSome) = true := by rfl) (he : backTo pos (starEach [e] X.env) = (false, eval e X.env) :: backTo pos (starEach [] X.env) := by rfl)
    (hpl : (backTo pos (starEach [e] X.env)).any (·.1) = false := by rfl) (hkn : (backToKw pos (keywordEach kws X.env)).any (·.1.isNone) = false := by rfl) :
    PE X (.Call (.Name "max" p) [e] kws pos) (tMaxD X.K ta tk) := by
  intro pins s σ H Q I h
  refine wpAny_Call_Name_kw (ld_blt I (glN h1 hg).1 hm bt_max (PyProof.Rows.callWith_kw (thn (ha pos pins s σ H _ I h) fun us s1 ⟨vs, H1, I1, r1, q1⟩ => thn (hkw pos pins s1 σ H1 _ I1 q1) fun ws s2 ⟨zs, H2, I2, rz, l, ns, d, ex, ez, hq, q2⟩ => ?_) he hpl hall hkn) (glN h1 hg).2.2 (glN h1 hg).2.1)
  subst ex ez
  obtain ⟨u, rfl, ru⟩ := vals1 r1
  obtain ⟨u2, rfl, t, rfl⟩ := vals1 rz
  cases ru
  rw [hks]
  obtain ⟨its, rv, pl, hz⟩ := I2.list hq
  have hl := rv.length
  rw [List.length_map] at hl
  have hval : ∀ (i : Nat) (v : Value), its.toArray[i]? = some v → ∃ t : Tok, v = Value.int (ns.getD i 0) t := fun i v hv => by
    have hv' : its[i]? = some v := by simpa using hv
    have hi : i < its.length := (List.getElem?_eq_some_iff.mp hv').1
    obtain ⟨u', e1, t, e2⟩ := rv.get (x := V.int (ns[i]'(by omega))) (i := i) (by rw [List.getElem?_map, List.getElem?_eq_getElem (by omega)]; rfl)
    rw [hv'] at e1
    cases e1
    refine ⟨t, ?_⟩
    rw [e2]
    show _ = Value.int (ns.getD i 0) t
    rw [List.getD_eq_getElem?_getD, List.getElem?_eq_getElem (by omega)]; rfl
  refine call_of (I2.ok.hd hc) pl.isList hval (by rw [List.size_toArray]; omega) fun t' h' tk' hk => ⟨.int (fin d none ns), H2, I2.kept (t' := tk') hk, ⟨t', rfl⟩, q2 _ ⟨fun z => by rw [z]; rfl, fun z => fin_mem z⟩⟩
end L19

/-! ### prices: mathematics -/
namespace CI
/-- the sum of f over the numbers below n -/
def sg (f : Nat → Nat) : Nat → Nat
  | 0 => 0
  | n + 1 => sg f n + f n
theorem sg_congr {f g : Nat → Nat} : ∀ {n : Nat}, (∀ i, i < n → f i = g i) → sg f n = sg g n
  | 0, _ => rfl
  | n + 1, h => by rw [sg, sg, sg_congr fun i hi => h i (Nat.lt_succ_of_lt hi), h n (Nat.lt_succ_self n)]
theorem sg_add (f g : Nat → Nat) : ∀ n, sg (fun i => f i + g i) n = sg f n + sg g n
  | 0 => rfl
  | n + 1 => by
    rw [sg, sg, sg, sg_add f g n]
    omega
theorem sg_mul (f : Nat → Nat) (c : Nat) : ∀ n, sg (fun i => f i * c) n = sg f n * c
  | 0 => (Nat.zero_mul c).symm
  | n + 1 => by rw [sg, sg, sg_mul f c n, Nat.add_mul]
theorem sg_le {f g : Nat → Nat} : ∀ {n : Nat}, (∀ i, i < n → f i ≤ g i) → sg f n ≤ sg g n
  | 0, _ => Nat.le_refl _
  | n + 1, h => by
    have h1 := sg_le (f := f) (g := g) (n := n) fun i hi => h i (Nat.lt_succ_of_lt hi)
    have h2 := h n (Nat.lt_succ_self n)
    rw [sg, sg]
    omega
theorem sg_zero : ∀ n, sg (fun _ => 0) n = 0
  | 0 => rfl
  | n + 1 => by rw [sg, sg_zero n]
/-- the kit's sum of a list, as a sum over places -/
theorem preSum_sg {f : Nat → Nat} {g : Nat → Int} : ∀ {n : Nat}, (∀ i, i < n → g i = ((f i : Nat) : Int)) → PySem.preSum g n = ((sg f n : Nat) : Int)
  | 0, _ => rfl
  | n + 1, h => by
    show PySem.preSum g n + g n = _
    rw [preSum_sg fun i hi => h i (Nat.lt_succ_of_lt hi), h n (Nat.lt_succ_self n), ← Int.natCast_add]
    rfl
/-- the sum over those of a list -/
def sl (f : Nat → Nat) : List Nat → Nat
  | [] => 0
  | x :: xs => f x + sl f xs
/-- the greatest of the numbers -/
def mx : List Nat → Nat
  | [] => 0
  | x :: xs => max x (mx xs)
theorem mx_le : ∀ {hs : List Nat} {x : Nat}, x ∈ hs → x ≤ mx hs
  | _ :: _, _, h => (List.mem_cons.mp h).elim (fun e => e ▸ Nat.le_max_left _ _) fun h => Nat.le_trans (mx_le h) (Nat.le_max_right _ _)
theorem mx_mem : ∀ {hs : List Nat}, hs ≠ [] → mx hs ∈ hs
  | [], h => absurd rfl h
  | [x], _ => by
    show max x 0 ∈ [x]
    rw [Nat.max_zero]
    exact List.mem_singleton.mpr rfl
  | x :: y :: r, _ => by
    have ih := mx_mem (hs := y :: r) (by simp)
    show max x (mx (y :: r)) ∈ _
    by_cases h : x ≤ mx (y :: r)
    · rw [Nat.max_eq_right h]
      exact List.mem_cons_of_mem _ ih
    · rw [Nat.max_eq_left (by omega)]
      exact List.mem_cons_self
theorem mx_uniq {hs : List Nat} {m : Nat} (h : m ∈ hs) (hm : ∀ x ∈ hs, x ≤ m) : m = mx hs :=
  Nat.le_antisymm (mx_le h) (hm _ (mx_mem fun e => by rw [e] at h; cases h))
/-- the greatest of the worths, 1 where there is none -/
def mxd (hs : List Nat) : Nat := if hs = [] then 1 else mx hs
theorem mxd_some {hs : List Nat} (h : hs ≠ []) : mxd hs = mx hs := if_neg h
def base (os ks hs : List Nat) : Nat := 1 + sg (fun i => ks.getD i 0 * os.getD i 0) ks.length * mxd hs
def wt (os ks hs : List Nat) (w p : Nat) : Nat := base os ks hs + ks.getD w 0 * hs.getD p 0
def row (os ks hs : List Nat) (w : Nat) : List Nat := (List.range hs.length).map (wt os ks hs w)
def rows (os ks hs : List Nat) : List (List Nat) := (List.range ks.length).map (row os ks hs)
/-- what prices show of one place -/
def over (m n : Nat) (W : Nat → Nat) (p : Nat) (q : Nat → Nat) : Nat := sg (fun w => if m.testBit w then W w - p - q w else 0) n
def priced (ws os ms : List Nat) (W : Nat → Nat → Nat) (ps qs : List Nat) : Nat :=
  sg (fun p => ws.getD p 0 * ps.getD p 0) ws.length + sg (fun w => os.getD w 0 * qs.getD w 0) os.length + sg (fun p => over (ms.getD p 0) os.length (fun w => W w p) (ps.getD p 0) fun w => qs.getD w 0) ms.length
theorem rows_len (os ks hs : List Nat) : (rows os ks hs).length = ks.length := by unfold rows; rw [List.length_map, List.length_range]
theorem row_len (os ks hs : List Nat) (w : Nat) : (row os ks hs w).length = hs.length := by unfold row; rw [List.length_map, List.length_range]
theorem rows_at {os ks hs : List Nat} {w : Nat} (h : w < ks.length) : (rows os ks hs)[w]? = some (row os ks hs w) := by
  unfold rows
  rw [List.getElem?_map, List.getElem?_range h]
  rfl
theorem row_at {os ks hs : List Nat} {w p : Nat} (h : p < hs.length) : (row os ks hs w)[p]? = some (wt os ks hs w p) := by
  unfold row
  rw [List.getElem?_map, List.getElem?_range h]
  rfl
theorem row_get {os ks hs : List Nat} {w p : Nat} (h : p < hs.length) : (row os ks hs w).getD p 0 = wt os ks hs w p := by
  rw [List.getD_eq_getElem?_getD, row_at h]
  rfl
/-- of the works that fit -/
theorem sl_filter (f : Nat → Nat) (m : Nat) : ∀ n, sl f ((List.range n).filter fun w => m.testBit w) = sg (fun w => if m.testBit w then f w else 0) n := by
  have app : ∀ (a b : List Nat), sl f (a ++ b) = sl f a + sl f b := fun a => by
    induction a with
    | nil => intro b; exact (Nat.zero_add _).symm
    | cons x r ih =>
      intro b
      show f x + sl f (r ++ b) = f x + sl f r + sl f b
      rw [ih b]
      omega
  intro n
  induction n with
  | zero => rfl
  | succ n ih =>
    rw [List.range_succ, List.filter_append, app, ih, sg]
    congr 1
    rw [List.filter_cons]
    cases h : m.testBit n <;> rfl
/-- the sum of a list's numbers, each given by a number of another list -/
theorem preSum_sl (f : Nat → Nat) (l : List Nat) : PySem.preSum (fun i => (l.map fun x => ((f x : Nat) : Int)).getD i 0) (l.map fun x => ((f x : Nat) : Int)).length = ((sl f l : Nat) : Int) := by
  have h : ∀ l : List Nat, (l.map fun x => ((f x : Nat) : Int)).foldl (· + ·) 0 = ((sl f l : Nat) : Int) := fun l => by
    show CG.sumZ _ = _
    induction l with
    | nil => rfl
    | cons x r ih =>
      rw [List.map_cons, CG.sumZ_cons, ih, ← Int.natCast_add]
      rfl
  rw [L7.preSum_all, h]
theorem xor_nat {a b n : Nat} (ha : a < 2 ^ n) (hb : b < 2 ^ n) : ∃ x : Nat, PySem.Builtin.bitXor (a : Int) (b : Int) = (x : Int) ∧ x < 2 ^ n := by
  refine ⟨(a ||| b) - (a &&& b), ?_, Nat.lt_of_le_of_lt (Nat.sub_le _ _) (Nat.or_lt_two_pow ha hb)⟩
  have h : (a &&& b) ≤ (a ||| b) := Nat.le_trans Nat.and_le_left Nat.left_le_or
  unfold PySem.Builtin.bitXor
  rw [CB.or_cast, CB.and_cast]
  omega
/-- the ground that the laws of prices draw -/
structure Good (ws os ms ks hs : List Nat) : Prop where
  lm : ms.length = ws.length
  lh : hs.length = ws.length
  one : 1 ≤ ws.length
  four : ws.length ≤ 4
  lk : ks.length = os.length
  many : os.length ≤ 7
  wl : ∀ w ∈ ws, w ≤ 60
  wt : ∀ (k w : Nat), ws[k]? = some w → 1 ≤ k → w ≤ 3
  ol : ∀ o ∈ os, 1 ≤ o ∧ o ≤ 3
  ml : ∀ m ∈ ms, m < 2 ^ os.length
  kl : ∀ k ∈ ks, k < 10 ^ 60
  hl : ∀ h ∈ hs, 1 ≤ h ∧ h ≤ 9
end CI

set_option maxHeartbeats 4000000
namespace K61
open PySem PySem.Spec PyProof.Rows L2 L3 L4 L5 L6 L7 L13
seal L2.PE L2.PT L2.PW L2.PA L2.PS L2.PSs L2.PG L2.PGs L2.PI L2.PC L2.PO L3.PF L3.PIfs L2.OpR L2.CallR L2.IxR L2.SlR
def top (i : Nat) : Stmt := PySem.Challenge.pw_court_k61_weights_and_prices.main.body.getD i (.Pass ⟨0, 0, 0, 0⟩)
abbrev s_has : Stmt := (top 1)
def N_has : List Str := ["mask", "number"]
theorem sc_has : FnScope N_has ["mask", "number"] (defScope s_has) := ⟨rfl, rfl, rfl, by decide +kernel, rfl, by decide +kernel, by decide +kernel⟩
abbrev s_base_of : Stmt := (top 3)
def N_base_of : List Str := ["oftens", "marks", "worths"]
theorem sc_base_of : FnScope N_base_of ["oftens", "marks", "worths"] (defScope s_base_of) := ⟨rfl, rfl, rfl, by decide +kernel, rfl, by decide +kernel, by decide +kernel⟩
abbrev s_weights_of : Stmt := (top 4)
def N_weights_of : List Str := ["oftens", "marks", "worths", "base", "weights", "mark"]
theorem sc_weights_of : FnScope N_weights_of ["oftens", "marks", "worths"] (defScope s_weights_of) := ⟨rfl, rfl, rfl, by decide +kernel, rfl, by decide +kernel, by decide +kernel⟩
abbrev s_above_price : Stmt := (top 5)
def N_above_price : List Str := ["place", "work", "weights", "place_prices", "work_prices"]
theorem sc_above_price : FnScope N_above_price ["place", "work", "weights", "place_prices", "work_prices"] (defScope s_above_price) := ⟨rfl, rfl, rfl, by decide +kernel, rfl, by decide +kernel, by decide +kernel⟩
abbrev s_priced : Stmt := (top 6)
def N_priced : List Str := ["wants", "oftens", "masks", "weights", "place_prices", "work_prices", "total", "place", "mask", "works"]
theorem sc_priced : FnScope N_priced ["wants", "oftens", "masks", "weights", "place_prices", "work_prices"] (defScope s_priced) := ⟨rfl, rfl, rfl, by decide +kernel, rfl, by decide +kernel, by decide +kernel⟩
abbrev s_law_cell_at : Stmt := (top 8)
def N_law_cell_at : List Str := ["_law_script", "_law_k"]
theorem sc_law_cell_at : FnScope N_law_cell_at ["_law_script", "_law_k"] (defScope s_law_cell_at) := ⟨rfl, rfl, rfl, by decide +kernel, rfl, by decide +kernel, by decide +kernel⟩
abbrev s_law_mixed : Stmt := (top 9)
def N_law_mixed : List Str := ["_law_cell", "_law_k", "_law_some"]
theorem sc_law_mixed : FnScope N_law_mixed ["_law_cell", "_law_k"] (defScope s_law_mixed) := ⟨rfl, rfl, rfl, by decide +kernel, rfl, by decide +kernel, by decide +kernel⟩
abbrev s_law_ground : Stmt := (top 10)
def N_law_ground : List Str := ["_law_script", "_law_places", "_law_wants", "_law_k", "_law_some", "_law_cells", "_law_many", "_law_oftens", "_law_marks", "_law_masks", "_law_work", "_law_more", "_law_left", "_law_place", "_law_worths"]
theorem sc_law_ground : FnScope N_law_ground ["_law_script"] (defScope s_law_ground) := ⟨rfl, rfl, rfl, by decide +kernel, rfl, by decide +kernel, by decide +kernel⟩
abbrev s_law_fit : Stmt := (top 11)
def N_law_fit : List Str := ["_law_masks", "_law_work", "_law_place"]
theorem sc_law_fit : FnScope N_law_fit ["_law_masks", "_law_work", "_law_place"] (defScope s_law_fit) := ⟨rfl, rfl, rfl, by decide +kernel, rfl, by decide +kernel, by decide +kernel⟩
abbrev s_law_weight : Stmt := (top 12)
def N_law_weight : List Str := ["_law_ground_here", "_law_work", "_law_place", "_law_wants", "_law_oftens", "_law_masks", "_law_marks", "_law_worths", "_law_base", "_law_k"]
theorem sc_law_weight : FnScope N_law_weight ["_law_ground_here", "_law_work", "_law_place"] (defScope s_law_weight) := ⟨rfl, rfl, rfl, by decide +kernel, rfl, by decide +kernel, by decide +kernel⟩
abbrev s_law_priced : Stmt := (top 13)
def N_law_priced : List Str := ["_law_ground_here", "_law_place_prices", "_law_work_prices", "_law_wants", "_law_oftens", "_law_masks", "_law_marks", "_law_worths", "_law_found", "_law_place", "_law_work"]
theorem sc_law_priced : FnScope N_law_priced ["_law_ground_here", "_law_place_prices", "_law_work_prices"] (defScope s_law_priced) := ⟨rfl, rfl, rfl, by decide +kernel, rfl, by decide +kernel, by decide +kernel⟩
abbrev s_law_drawn : Stmt := (top 14)
def N_law_drawn : List Str := ["_law_cell", "_law_many", "_law_ground_here", "_law_way", "_law_found", "_law_k", "_law_number"]
theorem sc_law_drawn : FnScope N_law_drawn ["_law_cell", "_law_many", "_law_ground_here", "_law_way"] (defScope s_law_drawn) := ⟨rfl, rfl, rfl, by decide +kernel, rfl, by decide +kernel, by decide +kernel⟩
abbrev s_law_weights_stand : Stmt := (top 15)
def N_law_weights_stand : List Str := ["_law_ground_here", "_law_wants", "_law_oftens", "_law_masks", "_law_marks", "_law_worths", "_law_handed", "_law_found", "_law_work", "_law_place", "_law_number"]
theorem sc_law_weights_stand : FnScope N_law_weights_stand ["_law_ground_here"] (defScope s_law_weights_stand) := ⟨rfl, rfl, rfl, by decide +kernel, rfl, by decide +kernel, by decide +kernel⟩
abbrev s_law : Stmt := (top 16)
def N_law : List Str := ["_law_script", "_law_ground_here", "_law_wants", "_law_oftens", "_law_masks", "_law_marks", "_law_worths", "_law_weights", "_law_cell", "_law_way", "_law_place_prices", "_law_work_prices", "_law_handed", "_law_found"]
theorem sc_law : FnScope N_law ["_law_script"] (defScope s_law) := ⟨rfl, rfl, rfl, by decide +kernel, rfl, by decide +kernel, by decide +kernel⟩
structure Adr where
  has : Addr
  base_of : Addr
  weights_of : Addr
  above_price : Addr
  priced : Addr
  law_cell_at : Addr
  law_mixed : Addr
  law_ground : Addr
  law_fit : Addr
  law_weight : Addr
  law_priced : Addr
  law_drawn : Addr
  law_weights_stand : Addr
structure Txt (K : PySem.W.Frag) (mg : Str → Option Value) (a : Adr) : Prop where
  m_has : mg "has" = some (.ref a.has)
  m_base_of : mg "base_of" = some (.ref a.base_of)
  m_weights_of : mg "weights_of" = some (.ref a.weights_of)
  m_above_price : mg "above_price" = some (.ref a.above_price)
  m_priced : mg "priced" = some (.ref a.priced)
  m_law_cell_at : mg "_law_cell_at" = some (.ref a.law_cell_at)
  m_law_mixed : mg "_law_mixed" = some (.ref a.law_mixed)
  m_law_ground : mg "_law_ground" = some (.ref a.law_ground)
  m_law_fit : mg "_law_fit" = some (.ref a.law_fit)
  m_law_weight : mg "_law_weight" = some (.ref a.law_weight)
  m_law_priced : mg "_law_priced" = some (.ref a.law_priced)
  m_law_drawn : mg "_law_drawn" = some (.ref a.law_drawn)
  m_law_weights_stand : mg "_law_weights_stand" = some (.ref a.law_weights_stand)
  z_enumerate : mg "enumerate" = none
  z_int : mg "int" = none
  z_isinstance : mg "isinstance" = none
  z_len : mg "len" = none
  z_list : mg "list" = none
  z_max : mg "max" = none
  z_min : mg "min" = none
  z_range : mg "range" = none
  z_sum : mg "sum" = none
  z_zip : mg "zip" = none
section
variable {P : Program} {w : World} {K : PySem.W.Frag} {mg : Str → Option Value} {base : Heap} {a : Adr}
def cellZ (ns : List Int) (k : Int) : Int := ns.getD k.toNat 0
def sp_law_cell_at (K : PySem.W.Frag) : Sp := fun vs H Q _ => ∃ (a : Addr) (ns : List Int) (k : Int), vs = [.ref a, .int k] ∧ SqL K H a (ns.map V.int) ∧ ns.length ≤ 63 ∧ 0 ≤ k ∧ Q (.int (cellZ ns k)) H
theorem ok_law_cell_at {f : Addr} {fd : FuncData} (F : Fun K "_law_cell_at" "_law_cell_at" s_law_cell_at f fd) (T : Txt K mg a) : FnOk P w K mg base CX0 1 f fd ["_law_script", "_law_k"] (sp_law_cell_at K) := by
  refine F.ok sc_law_cell_at (fun vs H Q E h => ?_) (fun cdv A outer s H vs Q E hr h => ?_)
  · obtain ⟨a, ns, k, rfl, _⟩ := h
    rfl
  · obtain ⟨a, ns, k, rfl, hS, hl, h0, q⟩ := h
    refine ⟨_, (pss_cons (ps_if (pt_cmpR op_lt (pvN (i := 1) (sc := defScope s_law_cell_at) (M := N_law_cell_at) rfl rfl (by decide +kernel)) (pe_callBN (sc := defScope s_law_cell_at) call_len rfl (by decide +kernel) T.z_len bt_len (pa_cons (pvN (i := 0) (sc := defScope s_law_cell_at) (M := N_law_cell_at) rfl rfl (by decide +kernel)) pa_nil)) (nomark _)) (pss_one (ps_ret (pe_ix ix_seq (pvN (i := 0) (sc := defScope s_law_cell_at) (M := N_law_cell_at) rfl rfl (by decide +kernel)) (pvN (i := 1) (sc := defScope s_law_cell_at) (M := N_law_cell_at) rfl rfl (by decide +kernel)) (fun _ _ => rfl)))) pss_nil)
      (pss_one (ps_ret pe_int))), ?_⟩
    refine ⟨_, rfl, _, rfl, .ref a, ns.length, rfl, .inl ⟨_, hS, by simp⟩, _, _, rfl, rfl, _, rfl, ite2 (fun hlt => ?_) (fun hge => ?_)⟩
    · have hk : k < (ns.length : Int) := of_decide_eq_true hlt
      refine ⟨_, rfl, _, rfl, .inl ⟨a, _, k, .int (cellZ ns k), rfl, rfl, hS, ?_, q⟩⟩
      have hk' : k.toNat < ns.length := by omega
      have e : (k.toNat : Int) = k := Int.toNat_of_nonneg h0
      rw [← e]
      refine atI_nat ?_
      rw [List.getElem?_map, List.getElem?_eq_getElem hk']
      unfold cellZ
      rw [Int.toNat_natCast, List.getD_eq_getElem?_getD, List.getElem?_eq_getElem hk']
      rfl
    · have hk : ¬ k < (ns.length : Int) := fun z => hge (decide_eq_true z)
      have e : cellZ ns k = 0 := by
        unfold cellZ
        rw [List.getD_eq_getElem?_getD, List.getElem?_eq_none (by omega)]
        rfl
      rw [e] at q
      exact q

theorem rep_zero (n : Nat) : (List.replicate n [V.int 0]).flatten = nV (List.replicate n 0) := by
  induction n with
  | zero => rfl
  | succ n ih => rw [List.replicate_succ, List.flatten_cons, ih]; rfl
theorem getD_at {l : List Nat} {p : Nat} (h : p < l.length) : l[p]? = some (l.getD p 0) := by
  rw [List.getD_eq_getElem?_getD, List.getElem?_eq_getElem h]
  rfl
theorem nV_at {l : List Nat} {p : Nat} (h : p < l.length) : atI (nV l) ((p : Nat) : Int) = some (.int (l.getD p 0 : Nat)) :=
  atI_nat (by unfold nV; rw [List.getElem?_map, getD_at h]; rfl)
theorem ixN_nat {n i : Nat} (h : i < n) : ixN n ((i : Nat) : Int) = some i := by
  unfold ixN
  rw [if_pos (by omega), if_pos (by omega), Int.toNat_natCast]
theorem ixN_last (n : Nat) : ixN (n + 1) (-1) = some n := by
  unfold ixN
  rw [if_neg (by decide), if_pos (by omega), show (-1 + ((n + 1 : Nat) : Int)).toNat = n by omega]
theorem nV_len (l : List Nat) : (nV l).length = l.length := by unfold nV; rw [List.length_map]
theorem nV_snoc (l : List Nat) (x : Nat) : nV l ++ [V.int (x : Nat)] = nV (l ++ [x]) := by unfold nV; rw [List.map_append]; rfl
theorem nV_set (l : List Nat) (j x : Nat) : (nV l).set j (.int (x : Nat)) = nV (l.set j x) := by
  unfold nV
  rw [List.map_set]

def mixZ (c k : Int) : Int := (c % 2147483647 + 31 * k + 1) * 48271 * (c % 2147483647 + 3 * k + 7) % 2147483629
theorem mix0 (c k : Int) : 0 ≤ mixZ c k := Int.emod_nonneg _ (by decide)
theorem mix1 (c k : Int) : mixZ c k < 2147483629 := Int.emod_lt_of_pos _ (by decide)
def sp_law_mixed (_ : PySem.W.Frag) : Sp := fun vs H Q _ => ∃ c k : Int, vs = [.int c, .int k] ∧ 0 ≤ k ∧ k ≤ 1000 ∧ Q (.int (mixZ c k)) H
theorem ok_law_mixed {f : Addr} {fd : FuncData} (F : Fun K "_law_mixed" "_law_mixed" s_law_mixed f fd) (T : Txt K mg a) : FnOk P w K mg base CX0 1 f fd ["_law_cell", "_law_k"] (sp_law_mixed K) := by
  refine F.ok sc_law_mixed (fun vs H Q E h => ?_) (fun cdv A outer s H vs Q E hr h => ?_)
  · obtain ⟨c, k, rfl, _⟩ := h
    rfl
  · obtain ⟨c, k, rfl, h0, h1, q⟩ := h
    refine ⟨_, (pss_cons (psN (i := 2) (sc := defScope s_law_mixed) (M := N_law_mixed) rfl rfl (by decide +kernel) (pe_op op_mod (pvN (i := 0) (sc := defScope s_law_mixed) (M := N_law_mixed) rfl rfl (by decide +kernel)) pe_int))
      (pss_one (ps_ret (pe_op op_mod (pe_op op_mul (pe_op op_mul (pe_op op_add (pe_op op_add (pvN (i := 2) (sc := defScope s_law_mixed) (M := N_law_mixed) rfl rfl (by decide +kernel)) (pe_op op_mul pe_int (pvN (i := 1) (sc := defScope s_law_mixed) (M := N_law_mixed) rfl rfl (by decide +kernel)))) pe_int) pe_int) (pe_op op_add (pe_op op_add (pvN (i := 2) (sc := defScope s_law_mixed) (M := N_law_mixed) rfl rfl (by decide +kernel)) (pe_op op_mul pe_int (pvN (i := 1) (sc := defScope s_law_mixed) (M := N_law_mixed) rfl rfl (by decide +kernel)))) pe_int)) pe_int)))), ?_⟩
    have a0 : 0 ≤ c % 2147483647 := Int.emod_nonneg _ (by decide)
    have a1 : c % 2147483647 < 2147483647 := Int.emod_lt_of_pos _ (by decide)
    refine ⟨_, rfl, _, _, rfl, rfl, (by show (0 : Int) < 2147483647; decide), ?_⟩
    refine ⟨_, rfl, _, rfl, _, _, rfl, rfl, .inl ⟨by decide, by decide⟩, _, _, rfl, rfl, _, _, rfl, rfl, _, _, rfl, rfl, .inr ⟨by decide, by decide⟩, ?_⟩
    refine ⟨_, rfl, _, rfl, _, _, rfl, rfl, .inl ⟨by decide, by decide⟩, _, _, rfl, rfl, _, _, rfl, rfl, _, _, rfl, rfl, .inr ⟨?_, ?_⟩, ?_⟩
    · show (-(2 ^ 64) : Int) < c % 2147483647 + 3 * k + 7
      omega
    · show c % 2147483647 + 3 * k + 7 < (2 ^ 64 : Int)
      omega
    exact ⟨_, _, rfl, rfl, (by show (0 : Int) < 2147483629; decide), q⟩

def sp_law_fit (K : PySem.W.Frag) : Sp := fun vs H Q _ => ∃ (p : Addr) (ms : List Nat) (w k m : Nat), vs = [.ref p, .int w, .int k] ∧ SqL K H p (nV ms) ∧ ms[k]? = some m ∧ Q (.bl (m.testBit w)) H
theorem ok_law_fit {f : Addr} {fd : FuncData} (F : Fun K "_law_fit" "_law_fit" s_law_fit f fd) (T : Txt K mg a) : FnOk P w K mg base CX0 1 f fd ["_law_masks", "_law_work", "_law_place"] (sp_law_fit K) := by
  refine F.ok sc_law_fit (fun vs H Q E h => ?_) (fun cdv A outer s H vs Q E hr h => ?_)
  · obtain ⟨p, ms, w, k, m, rfl, _⟩ := h
    rfl
  · obtain ⟨p, ms, w, k, m, rfl, hp, hm, q⟩ := h
    refine ⟨_, (pss_one (ps_ret (pe_cmpR op_eq (pe_op op_mod (pe_op op_shr (pe_ix ix_list (pvN (i := 0) (sc := defScope s_law_fit) (M := N_law_fit) rfl rfl (by decide +kernel)) (pvN (i := 2) (sc := defScope s_law_fit) (M := N_law_fit) rfl rfl (by decide +kernel)) (fun _ _ => rfl)) (pvN (i := 1) (sc := defScope s_law_fit) (M := N_law_fit) rfl rfl (by decide +kernel))) pe_int) pe_int (nomark _)))), ?_⟩
    refine ⟨_, rfl, _, rfl, p, _, _, _, rfl, rfl, hp, atI_nat (by unfold nV; rw [List.getElem?_map, hm]; rfl), _, rfl, _, _, rfl, rfl, (by show (0 : Int) ≤ (w : Nat); omega), _, _, rfl, rfl, (by show (0 : Int) < 2; decide), rfl, ?_⟩
    have e : m.testBit w = decide (V.int (((m : Nat) : Int) / 2 ^ ((w : Nat) : Int).toNat % 2) = V.int 1) := by
      rw [Int.toNat_natCast, Bool.eq_iff_iff, decide_eq_true_eq, ← CG.bit_mod]
      exact ⟨fun z => by rw [z], fun z => V.int.inj z⟩
    rw [e] at q
    exact q
theorem rep_one (n : Nat) : (List.replicate n [V.int 1]).flatten = nV (List.replicate n 1) := by
  induction n with
  | zero => rfl
  | succ n ih => rw [List.replicate_succ, List.flatten_cons, ih]; rfl
def sp_law_ground (K : PySem.W.Frag) : Sp := fun vs H Q _ => ∃ (a : Addr) (ns : List Int), vs = [.ref a] ∧ SqL K H a (ns.map V.int) ∧ ns.length ≤ 63 ∧ ∀ (ws os ms ks hs : List Nat) H' t pw po pm pk ph, Same H H' → CI.Good ws os ms ks hs → os.length ≤ 7 → H' t = some (.tup [.ref pw, .ref po, .ref pm, .ref pk, .ref ph]) → H' pw = some (.lst (nV ws)) → H' po = some (.lst (nV os)) → H' pm = some (.lst (nV ms)) → H' pk = some (.lst (nV ks)) → H' ph = some (.lst (nV hs)) → Q (.ref t) H'
theorem ok_law_ground {f : Addr} {fd fd_law_cell_at fd_law_mixed : FuncData} (F : Fun K "_law_ground" "_law_ground" s_law_ground f fd) (T : Txt K mg a)
    (G_law_cell_at : FnOk P w K mg base CX0 1 a.law_cell_at fd_law_cell_at ["_law_script", "_law_k"] (sp_law_cell_at K)) (F_law_cell_at : Fun K "_law_cell_at" "_law_cell_at" s_law_cell_at a.law_cell_at fd_law_cell_at) (b_law_cell_at : Binds K fd_law_cell_at ["_law_script", "_law_k"] [])
    (G_law_mixed : FnOk P w K mg base CX0 1 a.law_mixed fd_law_mixed ["_law_cell", "_law_k"] (sp_law_mixed K)) (F_law_mixed : Fun K "_law_mixed" "_law_mixed" s_law_mixed a.law_mixed fd_law_mixed) (b_law_mixed : Binds K fd_law_mixed ["_law_cell", "_law_k"] []) : FnOk P w K mg base CX0 2 f fd ["_law_script"] (sp_law_ground K) := by
  refine F.ok sc_law_ground (fun vs H Q E h => ?_) (fun cdv A outer s H vs Q E hr h => ?_)
  · obtain ⟨a, ns, rfl, _⟩ := h
    rfl
  · obtain ⟨ad, ns, rfl, hS, hl, q⟩ := h
    refine ⟨_, (pss_cons (psN (i := 1) (sc := defScope s_law_ground) (M := N_law_ground) rfl rfl (by decide +kernel) (pe_op op_add pe_int (pe_op op_mod (pe_callN (sc := defScope s_law_ground) G_law_cell_at (hr.mono (by decide)) rfl (by decide +kernel) T.m_law_cell_at F_law_cell_at.kp b_law_cell_at .nil pass0 (pa_cons (pvN (i := 0) (sc := defScope s_law_ground) (M := N_law_ground) rfl rfl (by decide +kernel)) (pa_cons pe_int pa_nil))) pe_int)))
      (pss_cons (psN (i := 2) (sc := defScope s_law_ground) (M := N_law_ground) rfl rfl (by decide +kernel) (pe_lst pa_nil))
      (pss_cons (ps_for PassesOwn.never rfl (pi_range1 (glR (sc := defScope s_law_ground) rfl (by decide +kernel)) T.z_range (pa_cons (pvN (i := 1) (sc := defScope s_law_ground) (M := N_law_ground) rfl rfl (by decide +kernel)) pa_nil)) (pgN (i := 3) (sc := defScope s_law_ground) (M := N_law_ground) rfl rfl (by decide +kernel)) (pss_cons (psN (i := 4) (sc := defScope s_law_ground) (M := N_law_ground) rfl rfl (by decide +kernel) (pe_op op_fdiv (pe_callN (sc := defScope s_law_ground) G_law_mixed (hr.mono (by decide)) rfl (by decide +kernel) T.m_law_mixed F_law_mixed.kp b_law_mixed .nil pass0 (pa_cons (pe_callN (sc := defScope s_law_ground) G_law_cell_at (hr.mono (by decide)) rfl (by decide +kernel) T.m_law_cell_at F_law_cell_at.kp b_law_cell_at .nil pass0 (pa_cons (pvN (i := 0) (sc := defScope s_law_ground) (M := N_law_ground) rfl rfl (by decide +kernel)) (pa_cons pe_int pa_nil))) (pa_cons (pvN (i := 3) (sc := defScope s_law_ground) (M := N_law_ground) rfl rfl (by decide +kernel)) pa_nil))) pe_int))
      (pss_cons (ps_expr (pe_bm PySem.F.plainAttrs_list PySem.F.slot_list_append PySem.F.type_list_append mt_append (pvN (i := 2) (sc := defScope s_law_ground) (M := N_law_ground) rfl rfl (by decide +kernel)) (pa_cons (pe_op op_mod (pvN (i := 4) (sc := defScope s_law_ground) (M := N_law_ground) rfl rfl (by decide +kernel)) pe_int) pa_nil)))
      (pss_one (ps_if (PW.pt (pw_and (pt_cmpR op_eq (pvN (i := 3) (sc := defScope s_law_ground) (M := N_law_ground) rfl rfl (by decide +kernel)) pe_int (nomark _)) (pw_and1 (pt_cmpR op_eq (pe_op op_mod (pe_op op_fdiv (pvN (i := 4) (sc := defScope s_law_ground) (M := N_law_ground) rfl rfl (by decide +kernel)) pe_int) pe_int) pe_int (nomark _))))) (pss_one (ps_asg (pe_op op_mod (pe_op op_fdiv (pvN (i := 4) (sc := defScope s_law_ground) (M := N_law_ground) rfl rfl (by decide +kernel)) pe_int) pe_int) (pg_sub (pvN (i := 2) (sc := defScope s_law_ground) (M := N_law_ground) rfl rfl (by decide +kernel)) (pvN (i := 3) (sc := defScope s_law_ground) (M := N_law_ground) rfl rfl (by decide +kernel)) set_list))) pss_nil)))))
      (pss_cons (psN (i := 5) (sc := defScope s_law_ground) (M := N_law_ground) rfl rfl (by decide +kernel) (pe_slice sl_list (pvN (i := 0) (sc := defScope s_law_ground) (M := N_law_ground) rfl rfl (by decide +kernel)) (po_some pe_int) po_none))
      (pss_cons (psN (i := 6) (sc := defScope s_law_ground) (M := N_law_ground) rfl rfl (by decide +kernel) (pe_callBN (sc := defScope s_law_ground) (call_min2 rfl) rfl (by decide +kernel) T.z_min bt_min (pa_cons pe_int (pa_cons (pe_callBN (sc := defScope s_law_ground) call_len rfl (by decide +kernel) T.z_len bt_len (pa_cons (pvN (i := 5) (sc := defScope s_law_ground) (M := N_law_ground) rfl rfl (by decide +kernel)) pa_nil)) pa_nil))))
      (pss_cons (psN (i := 7) (sc := defScope s_law_ground) (M := N_law_ground) rfl rfl (by decide +kernel) (pe_op op_rep (pe_lst (pa_cons pe_int pa_nil)) (pvN (i := 6) (sc := defScope s_law_ground) (M := N_law_ground) rfl rfl (by decide +kernel))))
      (pss_cons (psN (i := 8) (sc := defScope s_law_ground) (M := N_law_ground) rfl rfl (by decide +kernel) (pe_op op_rep (pe_lst (pa_cons pe_int pa_nil)) (pvN (i := 6) (sc := defScope s_law_ground) (M := N_law_ground) rfl rfl (by decide +kernel))))
      (pss_cons (psN (i := 9) (sc := defScope s_law_ground) (M := N_law_ground) rfl rfl (by decide +kernel) (pe_op op_rep (pe_lst (pa_cons pe_int pa_nil)) (pvN (i := 1) (sc := defScope s_law_ground) (M := N_law_ground) rfl rfl (by decide +kernel))))
      (pss_cons (ps_for PassesOwn.never rfl (pi_range1 (glR (sc := defScope s_law_ground) rfl (by decide +kernel)) T.z_range (pa_cons (pe_callBN (sc := defScope s_law_ground) call_len rfl (by decide +kernel) T.z_len bt_len (pa_cons (pvN (i := 5) (sc := defScope s_law_ground) (M := N_law_ground) rfl rfl (by decide +kernel)) pa_nil)) pa_nil)) (pgN (i := 3) (sc := defScope s_law_ground) (M := N_law_ground) rfl rfl (by decide +kernel)) (pss_cons (psN (i := 10) (sc := defScope s_law_ground) (M := N_law_ground) rfl rfl (by decide +kernel) (pe_op op_mod (pvN (i := 3) (sc := defScope s_law_ground) (M := N_law_ground) rfl rfl (by decide +kernel)) pe_int))
      (pss_cons (ps_asg (pe_op op_add pe_int (pe_op op_mod (pe_op op_add (pe_ix ix_list (pvN (i := 7) (sc := defScope s_law_ground) (M := N_law_ground) rfl rfl (by decide +kernel)) (pvN (i := 10) (sc := defScope s_law_ground) (M := N_law_ground) rfl rfl (by decide +kernel)) (fun _ _ => rfl)) (pe_op op_fdiv (pe_callN (sc := defScope s_law_ground) G_law_mixed (hr.mono (by decide)) rfl (by decide +kernel) T.m_law_mixed F_law_mixed.kp b_law_mixed .nil pass0 (pa_cons (pe_ix ix_list (pvN (i := 5) (sc := defScope s_law_ground) (M := N_law_ground) rfl rfl (by decide +kernel)) (pvN (i := 3) (sc := defScope s_law_ground) (M := N_law_ground) rfl rfl (by decide +kernel)) (fun _ _ => rfl)) (pa_cons pe_int pa_nil))) pe_int)) pe_int)) (pg_sub (pvN (i := 7) (sc := defScope s_law_ground) (M := N_law_ground) rfl rfl (by decide +kernel)) (pvN (i := 10) (sc := defScope s_law_ground) (M := N_law_ground) rfl rfl (by decide +kernel)) set_list))
      (pss_cons (psN (i := 11) (sc := defScope s_law_ground) (M := N_law_ground) rfl rfl (by decide +kernel) (pe_op op_mod (pe_op op_fdiv (pe_callN (sc := defScope s_law_ground) G_law_mixed (hr.mono (by decide)) rfl (by decide +kernel) T.m_law_mixed F_law_mixed.kp b_law_mixed .nil pass0 (pa_cons (pe_ix ix_list (pvN (i := 5) (sc := defScope s_law_ground) (M := N_law_ground) rfl rfl (by decide +kernel)) (pvN (i := 3) (sc := defScope s_law_ground) (M := N_law_ground) rfl rfl (by decide +kernel)) (fun _ _ => rfl)) (pa_cons pe_int pa_nil))) pe_int) pe_int))
      (pss_cut (ps_if (pt_cmpR op_eq (pe_op op_mod (pe_op op_fdiv (pe_callN (sc := defScope s_law_ground) G_law_mixed (hr.mono (by decide)) rfl (by decide +kernel) T.m_law_mixed F_law_mixed.kp b_law_mixed .nil pass0 (pa_cons (pe_ix ix_list (pvN (i := 5) (sc := defScope s_law_ground) (M := N_law_ground) rfl rfl (by decide +kernel)) (pvN (i := 3) (sc := defScope s_law_ground) (M := N_law_ground) rfl rfl (by decide +kernel)) (fun _ _ => rfl)) (pa_cons pe_int pa_nil))) pe_int) pe_int) pe_int (nomark _)) (pss_one (psN (i := 11) (sc := defScope s_law_ground) (M := N_law_ground) rfl rfl (by decide +kernel) (pe_op op_mod (pe_ix ix_list (pvN (i := 5) (sc := defScope s_law_ground) (M := N_law_ground) rfl rfl (by decide +kernel)) (pvN (i := 3) (sc := defScope s_law_ground) (M := N_law_ground) rfl rfl (by decide +kernel)) (fun _ _ => rfl)) (pe_op op_pow pe_int pe_int)))) pss_nil)
      (pss_cons (ps_asg (pe_op op_mod (pe_op op_add (pe_ix ix_list (pvN (i := 8) (sc := defScope s_law_ground) (M := N_law_ground) rfl rfl (by decide +kernel)) (pvN (i := 10) (sc := defScope s_law_ground) (M := N_law_ground) rfl rfl (by decide +kernel)) (fun _ _ => rfl)) (pvN (i := 11) (sc := defScope s_law_ground) (M := N_law_ground) rfl rfl (by decide +kernel))) (pe_op op_pow pe_int pe_int)) (pg_sub (pvN (i := 8) (sc := defScope s_law_ground) (M := N_law_ground) rfl rfl (by decide +kernel)) (pvN (i := 10) (sc := defScope s_law_ground) (M := N_law_ground) rfl rfl (by decide +kernel)) set_list))
      (pss_cons (psN (i := 12) (sc := defScope s_law_ground) (M := N_law_ground) rfl rfl (by decide +kernel) (pe_op op_fdiv (pe_callN (sc := defScope s_law_ground) G_law_mixed (hr.mono (by decide)) rfl (by decide +kernel) T.m_law_mixed F_law_mixed.kp b_law_mixed .nil pass0 (pa_cons (pe_ix ix_list (pvN (i := 5) (sc := defScope s_law_ground) (M := N_law_ground) rfl rfl (by decide +kernel)) (pvN (i := 3) (sc := defScope s_law_ground) (M := N_law_ground) rfl rfl (by decide +kernel)) (fun _ _ => rfl)) (pa_cons pe_int pa_nil))) pe_int))
      (pss_one (ps_for PassesOwn.never rfl (pi_range1 (glR (sc := defScope s_law_ground) rfl (by decide +kernel)) T.z_range (pa_cons (pvN (i := 1) (sc := defScope s_law_ground) (M := N_law_ground) rfl rfl (by decide +kernel)) pa_nil)) (pgN (i := 13) (sc := defScope s_law_ground) (M := N_law_ground) rfl rfl (by decide +kernel)) (pss_cons (ps_asg (pe_op op_xor (pe_ix ix_list (pvN (i := 9) (sc := defScope s_law_ground) (M := N_law_ground) rfl rfl (by decide +kernel)) (pvN (i := 13) (sc := defScope s_law_ground) (M := N_law_ground) rfl rfl (by decide +kernel)) (fun _ _ => rfl)) (pe_op op_shl (pe_op op_mod (pvN (i := 12) (sc := defScope s_law_ground) (M := N_law_ground) rfl rfl (by decide +kernel)) pe_int) (pvN (i := 10) (sc := defScope s_law_ground) (M := N_law_ground) rfl rfl (by decide +kernel)))) (pg_sub (pvN (i := 9) (sc := defScope s_law_ground) (M := N_law_ground) rfl rfl (by decide +kernel)) (pvN (i := 13) (sc := defScope s_law_ground) (M := N_law_ground) rfl rfl (by decide +kernel)) set_list))
      (pss_one (psN (i := 12) (sc := defScope s_law_ground) (M := N_law_ground) rfl rfl (by decide +kernel) (pe_op op_fdiv (pvN (i := 12) (sc := defScope s_law_ground) (M := N_law_ground) rfl rfl (by decide +kernel)) pe_int)))))))))))))
      (pss_cons (psN_comp (i := 14) (sc := defScope s_law_ground) (M := N_law_ground) rfl rfl rfl (by decide +kernel) (N := ["_law_k", "_law_script"]) (own := 1) (js := [0]) (X := (cxOf CX0 P w K mg base N_law_ground "_law_ground" (defScope s_law_ground) f cdv A outer s H E).nox) (compOk (defScope s_law_ground) N_law_ground rfl rfl (by decide +kernel)) (pi_range1 (glR (sc := defScope s_law_ground) rfl (by decide +kernel)) T.z_range (pa_cons (pvN (i := 1) (sc := defScope s_law_ground) (M := N_law_ground) rfl rfl (by decide +kernel)) pa_nil)) (fun fp0 sx0 Hx0 => (pgN (i := 0) (sc := relabelS _ (defScope s_law_ground)) (M := ["_law_k", "_law_script"]) rfl rfl (by decide +kernel))) (fun fp0 sx0 Hx0 => pifs_nil) (fun fp0 sx0 Hx0 => (pe_op op_add pe_int (pe_op op_mod (pe_op op_fdiv (pe_callN (sc := relabelS _ (defScope s_law_ground)) G_law_mixed (hr.mono (by decide)) rfl (by decide +kernel) T.m_law_mixed F_law_mixed.kp b_law_mixed .nil pass0 (pa_cons (pe_callN (sc := relabelS _ (defScope s_law_ground)) G_law_cell_at (hr.mono (by decide)) rfl (by decide +kernel) T.m_law_cell_at F_law_cell_at.kp b_law_cell_at .nil pass0 (pa_cons (pvN (i := 1) (sc := relabelS _ (defScope s_law_ground)) (M := ["_law_k", "_law_script"]) rfl rfl (by decide +kernel)) (pa_cons pe_int pa_nil))) (pa_cons (pvN (i := 0) (sc := relabelS _ (defScope s_law_ground)) (M := ["_law_k", "_law_script"]) rfl rfl (by decide +kernel)) pa_nil))) pe_int) pe_int))) rfl)
      (pss_one (ps_ret (pe_tup (pa_cons (pvN (i := 2) (sc := defScope s_law_ground) (M := N_law_ground) rfl rfl (by decide +kernel)) (pa_cons (pvN (i := 7) (sc := defScope s_law_ground) (M := N_law_ground) rfl rfl (by decide +kernel)) (pa_cons (pvN (i := 9) (sc := defScope s_law_ground) (M := N_law_ground) rfl rfl (by decide +kernel)) (pa_cons (pvN (i := 8) (sc := defScope s_law_ground) (M := N_law_ground) rfl rfl (by decide +kernel)) (pa_cons (pvN (i := 14) (sc := defScope s_law_ground) (M := N_law_ground) rfl rfl (by decide +kernel)) pa_nil)))))))))))))))))), ?_⟩
    have hs : sizeLine = 16777216 := sizeLine_eq
    refine ⟨_, rfl, ad, ns, 0, rfl, hS, hl, by decide, _, _, rfl, rfl, (by show (0 : Int) < 4; decide), _, _, rfl, rfl, ?_⟩
    obtain ⟨pl, hpl⟩ : ∃ pl : Nat, 1 + cellZ ns 0 % 4 = (pl : Int) := ⟨(1 + cellZ ns 0 % 4).toNat, by omega⟩
    have hpl1 : 1 ≤ pl := by omega
    have hpl4 : pl ≤ 4 := by omega
    rw [show (fun i j : Int => V.int (i + j)) 1 (cellZ ns 0 % 4) = V.int (pl : Nat) from congrArg V.int hpl]
    refine ⟨by first | decide | (simp only [List.length_cons, List.length_nil, List.length_append, List.length_map]; decide), fun pw hpw => ?_⟩
    have s1 := Same.upd0 (o := .lst []) hpw
    refine ⟨_, rfl, _, rfl, by omega, by omega, ?_⟩
    rw [Int.toNat_natCast]
    refine for_range (fun i σ H' => (∃ v1 v2, σ = [some (.ref ad), some (.int (pl : Nat)), some (.ref pw), v1, v2, none, none, none, none, none, none, none, none, none, none]) ∧ Same H H' ∧ ∃ ws : List Nat, ws.length = i ∧ (∀ w ∈ ws, w ≤ 60) ∧ (∀ (k w : Nat), ws[k]? = some w → 1 ≤ k → w ≤ 3) ∧ H' pw = some (.lst (nV ws))) ⟨⟨_, _, rfl⟩, s1, [], rfl, (fun _ h => nomatch h), (fun _ _ h => nomatch h), upd_same⟩ ?_ ?_
    · rintro i σ H' hi ⟨⟨v1, v2, rfl⟩, sx, ws, lw, bw, tw, ew⟩
      rw [show (0 : Int) + (i : Nat) = (i : Nat) by omega]
      refine ⟨_, rfl, ad, ns, 1, rfl, sx.seq hS, hl, by decide, _, rfl, _, _, rfl, by omega, by omega, _, _, rfl, rfl, ⟨by decide, by decide⟩, ?_⟩
      obtain ⟨sm, hsm⟩ : ∃ sm : Nat, mixZ (cellZ ns 1) i / 3 = (sm : Int) := ⟨(mixZ (cellZ ns 1) i / 3).toNat, by have := mix0 (cellZ ns 1) i; omega⟩
      rw [show (fun i j : Int => V.int (i / j)) (mixZ (cellZ ns 1) i) 3 = V.int (sm : Nat) from congrArg V.int hsm]
      obtain ⟨r4, hr4⟩ : ∃ r : Nat, (sm : Int) % 4 = (r : Int) := ⟨((sm : Int) % 4).toNat, by omega⟩
      refine ⟨_, rfl, .inl ⟨rfl, _, SqL.of ew⟩, _, rfl, _, _, rfl, rfl, (by show (0 : Int) < 4; decide), pw, _, _, rfl, rfl, ew, (by unfold nV; rw [List.length_map]; omega), ?_⟩
      rw [show (fun i j : Int => V.int (i % j)) (sm : Nat) 4 = V.int (r4 : Nat) from congrArg V.int hr4, show nV ws ++ [V.int (r4 : Nat)] = nV (ws ++ [r4]) by unfold nV; rw [List.map_append]; rfl]
      have sx2 : Same H (upd H' pw (.lst (nV (ws ++ [r4])))) := same_set sx hpw
      have done : ∃ ws' : List Nat, ws'.length = i + 1 ∧ (∀ w ∈ ws', w ≤ 60) ∧ (∀ (k w : Nat), ws'[k]? = some w → 1 ≤ k → w ≤ 3) ∧ upd H' pw (.lst (nV (ws ++ [r4]))) pw = some (.lst (nV ws')) :=
        ⟨ws ++ [r4], by rw [List.length_append, lw]; rfl, fun x hx => by
          rcases List.mem_append.mp hx with h | h
          · exact bw x h
          · rw [List.mem_singleton.mp h]; omega, fun k x hk h1 => by
          by_cases hkl : k < ws.length
          · rw [List.getElem?_append_left hkl] at hk
            exact tw k x hk h1
          · rw [List.getElem?_append_right (by omega)] at hk
            have hlt := (List.getElem?_eq_some_iff.mp hk).1
            rw [List.length_singleton] at hlt
            rw [show k - ws.length = 0 by omega] at hk
            obtain rfl := Option.some.inj hk
            omega, upd_same⟩
      refine ⟨_, rfl, rfl, _, rfl, ite2 (fun h0 => ?_) (fun h0 => ⟨⟨_, _, rfl⟩, sx2, done⟩)⟩
      refine ⟨_, rfl, _, _, rfl, rfl, ⟨by decide, by decide⟩, _, _, rfl, rfl, (by show (0 : Int) < 9; decide), rfl, _, rfl, ite2 (fun h1 => ?_) (fun h1 => ⟨⟨_, _, rfl⟩, sx2, done⟩)⟩
      have h0' := V.int.inj (of_decide_eq_true h0)
      obtain rfl : i = 0 := by omega
      obtain rfl : ws = [] := List.eq_nil_of_length_eq_zero lw
      obtain ⟨r5, hr5⟩ : ∃ r : Nat, (sm : Int) / 36 % 61 = (r : Int) := ⟨((sm : Int) / 36 % 61).toNat, by omega⟩
      refine ⟨_, rfl, _, _, rfl, rfl, ⟨by decide, by decide⟩, _, _, rfl, rfl, (by show (0 : Int) < 61; decide), _, rfl, _, rfl, pw, _, _, 0, rfl, rfl, upd_same, rfl, ⟨_, _, rfl⟩, same_set sx2 hpw, [r5], rfl, (fun x hx => by rw [List.mem_singleton.mp hx]; omega), (fun k x hk h1 => by cases k with | zero => omega | succ k => cases hk), ?_⟩
      rw [upd_same, show (fun i j : Int => V.int (i % j)) ((sm : Int) / 36) 61 = V.int (r5 : Nat) from congrArg V.int hr5]
      rfl
    rintro σ H1 ⟨⟨v1, v2, rfl⟩, sH1, ws, lw, bw, tw, ew⟩
    refine ⟨_, rfl, _, rfl, ad, _, rfl, sH1.seq hS, fun p2 hp2 => ?_⟩
    obtain ⟨zs, hzs⟩ : ∃ zs, zs = ns.drop 3 := ⟨_, rfl⟩
    have lzs : zs.length ≤ 60 := by rw [hzs, List.length_drop]; omega
    have ec : cutV (ns.map V.int) (some 3) none = zs.map V.int := by
      by_cases h3 : 3 ≤ ns.length
      · have := cut_from (xs := ns.map V.int) 3 (by rw [List.length_map]; exact h3)
        rw [hzs, List.map_drop]
        exact this
      · have : cutV (ns.map V.int) (some ((3 : Nat) : Int)) none = [] := by
          unfold cutV
          rw [HT.sIx_nat, HT.sIx_none, Nat.min_eq_right (by rw [List.length_map]; omega), List.drop_length, List.take_nil]
        rw [hzs, List.drop_of_length_le (by omega)]
        exact this
    rw [ec]
    have s2 := Same.upd0 (o := .lst (zs.map V.int)) hp2
    have e2 : upd H1 p2 (.lst (zs.map V.int)) p2 = some (.lst (zs.map V.int)) := upd_same
    have ew2 := s2 _ _ ew
    have sH2 := sH1.trans s2
    generalize upd H1 p2 (.lst (zs.map V.int)) = H2 at s2 e2 ew2 sH2 ⊢
    obtain ⟨mn, hmn⟩ : ∃ mn : Nat, mn = min 7 zs.length := ⟨_, rfl⟩
    refine ⟨_, rfl, .ref p2, zs.length, rfl, .inl ⟨_, SqL.of e2, by rw [List.length_map]⟩, _, _, rfl, ?_⟩
    rw [show (if ((zs.length : Nat) : Int) < 7 then ((zs.length : Nat) : Int) else 7) = ((mn : Nat) : Int) by split <;> omega]
    refine ⟨by first | decide | (simp only [List.length_cons, List.length_nil, List.length_append, List.length_map]; decide), fun pz hpz => ⟨_, rfl, pz, _, _, rfl, rfl, upd_same, by omega, by omega, ?_, fun po hpo => ?_⟩⟩
    · rw [Int.toNat_natCast]
      show 1 * mn ≤ sizeLine
      omega
    rw [Int.toNat_natCast, rep_one]
    have s3 := (Same.upd0 (o := .lst [.int 1]) hpz).trans (Same.upd0 (o := .lst (nV (List.replicate mn 1))) hpo)
    have npo2 : H2 po = none := (Same.upd0 (o := .lst [.int 1]) hpz).free hpo
    have eo3 : upd (upd H2 pz (.lst [.int 1])) po (.lst (nV (List.replicate mn 1))) po = some (.lst (nV (List.replicate mn 1))) := upd_same
    have ew3 := s3 _ _ ew2
    have e23 := s3 _ _ e2
    have sH3 := sH2.trans s3
    have npo := sH2.free npo2
    generalize upd (upd H2 pz (.lst [.int 1])) po (.lst (nV (List.replicate mn 1))) = H3 at s3 eo3 ew3 e23 sH3 ⊢
    refine ⟨by first | decide | (simp only [List.length_cons, List.length_nil, List.length_append, List.length_map]; decide), fun pz2 hpz2 => ⟨_, rfl, pz2, _, _, rfl, rfl, upd_same, by omega, by omega, ?_, fun pk hpk => ?_⟩⟩
    · rw [Int.toNat_natCast]
      show 1 * mn ≤ sizeLine
      omega
    rw [Int.toNat_natCast, rep_zero]
    have s4 := (Same.upd0 (o := .lst [.int 0]) hpz2).trans (Same.upd0 (o := .lst (nV (List.replicate mn 0))) hpk)
    have npk3 : H3 pk = none := (Same.upd0 (o := .lst [.int 0]) hpz2).free hpk
    have ek4 : upd (upd H3 pz2 (.lst [.int 0])) pk (.lst (nV (List.replicate mn 0))) pk = some (.lst (nV (List.replicate mn 0))) := upd_same
    have ew4 := s4 _ _ ew3
    have e24 := s4 _ _ e23
    have eo4 := s4 _ _ eo3
    have sH4 := sH3.trans s4
    have npk := sH3.free npk3
    have nok : po ≠ pk := ne_of_none eo3 npk3
    generalize upd (upd H3 pz2 (.lst [.int 0])) pk (.lst (nV (List.replicate mn 0))) = H4 at s4 ek4 ew4 e24 eo4 sH4 ⊢
    refine ⟨by first | decide | (simp only [List.length_cons, List.length_nil, List.length_append, List.length_map]; decide), fun pz3 hpz3 => ⟨_, rfl, pz3, _, _, rfl, rfl, upd_same, by omega, by omega, ?_, fun pm hpm => ?_⟩⟩
    · rw [Int.toNat_natCast]
      show 1 * pl ≤ sizeLine
      omega
    rw [Int.toNat_natCast, rep_zero]
    have s5 := (Same.upd0 (o := .lst [.int 0]) hpz3).trans (Same.upd0 (o := .lst (nV (List.replicate pl 0))) hpm)
    have npm4 : H4 pm = none := (Same.upd0 (o := .lst [.int 0]) hpz3).free hpm
    have em5 : upd (upd H4 pz3 (.lst [.int 0])) pm (.lst (nV (List.replicate pl 0))) pm = some (.lst (nV (List.replicate pl 0))) := upd_same
    have ew5 := s5 _ _ ew4
    have e25 := s5 _ _ e24
    have eo5 := s5 _ _ eo4
    have ek5 := s5 _ _ ek4
    have sH5 := sH4.trans s5
    have npm := sH4.free npm4
    have nom : po ≠ pm := ne_of_none eo4 npm4
    have nkm : pk ≠ pm := ne_of_none ek4 npm4
    have nwo : pw ≠ po := ne_of_none ew2 npo2
    have nwk : pw ≠ pk := ne_of_none ew3 npk3
    have nwm : pw ≠ pm := ne_of_none ew4 npm4
    have n2o : p2 ≠ po := ne_of_none e2 npo2
    have n2k : p2 ≠ pk := ne_of_none e23 npk3
    have n2m : p2 ≠ pm := ne_of_none e24 npm4
    generalize upd (upd H4 pz3 (.lst [.int 0])) pm (.lst (nV (List.replicate pl 0))) = H5 at s5 em5 ew5 e25 eo5 ek5 sH5 ⊢
    clear hpz hpo hpz2 hpk hpz3 hpm s2 s3 s4 s5 ew ew2 ew3 ew4 e2 e23 e24 eo3 eo4 ek4 sH1 sH2 sH3 sH4 npo2 npk3 npm4 ec hp2
    refine ⟨_, rfl, .ref p2, zs.length, rfl, .inl ⟨_, SqL.of e25, by rw [List.length_map]⟩, _, rfl, by omega, by omega, ?_⟩
    rw [Int.toNat_natCast]
    refine for_range (fun i σ H' => (∃ u1 u2 u3 u4 u5 u6, σ = [some (.ref ad), some (.int (pl : Nat)), some (.ref pw), u1, u2, some (.ref p2), some (.int (mn : Nat)), some (.ref po), some (.ref pk), some (.ref pm), u3, u4, u5, u6, none]) ∧ Same H H' ∧ H' pw = some (.lst (nV ws)) ∧ H' p2 = some (.lst (zs.map V.int)) ∧ ∃ os ks ms : List Nat, os.length = mn ∧ ks.length = mn ∧ ms.length = pl ∧ (∀ o ∈ os, 1 ≤ o ∧ o ≤ 3) ∧ (∀ k ∈ ks, k < 10 ^ 60) ∧ (∀ m ∈ ms, m < 2 ^ mn) ∧ H' po = some (.lst (nV os)) ∧ H' pk = some (.lst (nV ks)) ∧ H' pm = some (.lst (nV ms))) ⟨⟨_, _, _, _, _, _, rfl⟩, sH5, ew5, e25, List.replicate mn 1, List.replicate mn 0, List.replicate pl 0, List.length_replicate, List.length_replicate, List.length_replicate, (fun o ho => by rw [List.eq_of_mem_replicate ho]; decide), (fun k hk => by rw [List.eq_of_mem_replicate hk]; decide), (fun m hm => by rw [List.eq_of_mem_replicate hm]; exact Nat.two_pow_pos _), eo5, ek5, em5⟩ ?_ ?_
    · rintro i σ H6 hi ⟨⟨u1, u2, u3, u4, u5, u6, rfl⟩, sH6, ew6, e26, os, ks, ms, lo, lk, lm, bo, bk, bm, eo6, ek6, em6⟩
      rw [show (0 : Int) + (i : Nat) = (i : Nat) by omega]
      obtain ⟨wk, hwk⟩ : ∃ wk : Nat, wk = i % 7 := ⟨_, rfl⟩
      have hwm : wk < mn := by omega
      obtain ⟨z, hz⟩ : ∃ z, zs[i]? = some z := ⟨_, List.getElem?_eq_getElem hi⟩
      have hzi : atI (zs.map V.int) ((i : Nat) : Int) = some (.int z) := atI_nat (by rw [List.getElem?_map, hz]; rfl)
      refine ⟨_, rfl, _, _, rfl, rfl, (by show (0 : Int) < 7; decide), ?_⟩
      rw [show (fun i j : Int => V.int (i % j)) ((i : Nat) : Int) 7 = V.int (wk : Nat) from congrArg V.int (by omega)]
      obtain ⟨o1, ho1⟩ : ∃ o : Nat, 1 + ((os.getD wk 0 : Nat) + mixZ z 2 / 5) % 3 = (o : Int) := ⟨(1 + ((os.getD wk 0 : Nat) + mixZ z 2 / 5) % 3).toNat, by omega⟩
      refine ⟨_, rfl, _, rfl, po, _, _, _, rfl, rfl, SqL.of eo6, nV_at (by omega), _, rfl, _, rfl, p2, _, _, _, rfl, rfl, SqL.of e26, hzi, z, 2, rfl, by decide, by decide, _, _, rfl, rfl, ⟨by decide, by decide⟩, _, _, rfl, rfl, _, _, rfl, rfl, (by show (0 : Int) < 3; decide), _, _, rfl, rfl, _, rfl, _, rfl, po, _, _, wk, rfl, rfl, eo6, by rw [nV_len]; exact ixN_nat (by omega), ?_⟩
      rw [show (fun i j : Int => V.int (i + j)) 1 (((os.getD wk 0 : Nat) + mixZ z 2 / 5) % 3) = V.int (o1 : Nat) from congrArg V.int ho1, nV_set]
      have bo7 : ∀ o ∈ os.set wk o1, 1 ≤ o ∧ o ≤ 3 := fun x hx => by
        rcases List.mem_or_eq_of_mem_set hx with h | h
        · exact bo x h
        · rw [h]; omega
      have lo7 : (os.set wk o1).length = mn := by rw [List.length_set]; exact lo
      have sH7 : Same H (upd H6 po (.lst (nV (os.set wk o1)))) := same_set sH6 npo
      have ew7 : upd H6 po (.lst (nV (os.set wk o1))) pw = some (.lst (nV ws)) := (upd_ne nwo).trans ew6
      have e27 : upd H6 po (.lst (nV (os.set wk o1))) p2 = some (.lst (zs.map V.int)) := (upd_ne n2o).trans e26
      have ek7 : upd H6 po (.lst (nV (os.set wk o1))) pk = some (.lst (nV ks)) := (upd_ne nok.symm).trans ek6
      have em7 : upd H6 po (.lst (nV (os.set wk o1))) pm = some (.lst (nV ms)) := (upd_ne nom.symm).trans em6
      have eo7 : upd H6 po (.lst (nV (os.set wk o1))) po = some (.lst (nV (os.set wk o1))) := upd_same
      generalize upd H6 po (.lst (nV (os.set wk o1))) = H7 at sH7 ew7 e27 ek7 em7 eo7 ⊢
      generalize os.set wk o1 = os7 at bo7 lo7 eo7
      clear sH6 ew6 e26 ek6 em6 eo6 bo
      refine ⟨_, rfl, _, rfl, p2, _, _, _, rfl, rfl, SqL.of e27, hzi, z, 5, rfl, by decide, by decide, _, _, rfl, rfl, ⟨by decide, by decide⟩, _, _, rfl, rfl, (by show (0 : Int) < 9; decide), ?_⟩
      refine ⟨fun σ' H' => (∃ y : Nat, σ' = [some (.ref ad), some (.int (pl : Nat)), some (.ref pw), some (.int (i : Nat)), u2, some (.ref p2), some (.int (mn : Nat)), some (.ref po), some (.ref pk), some (.ref pm), some (.int (wk : Nat)), some (.int (y : Nat)), u5, u6, none]) ∧ H' = H7, ?_, ?_⟩
      · refine ⟨_, rfl, _, rfl, p2, _, _, _, rfl, rfl, SqL.of e27, hzi, z, 6, rfl, by decide, by decide, _, _, rfl, rfl, ⟨by decide, by decide⟩, _, _, rfl, rfl, (by show (0 : Int) < 3; decide), rfl, _, rfl, ite2 (fun h1 => ?_) (fun h1 => ⟨⟨(mixZ z 5 / 5 % 9).toNat, ?_⟩, rfl⟩)⟩
        · refine ⟨_, rfl, _, rfl, p2, _, _, _, rfl, rfl, SqL.of e27, hzi, _, _, rfl, rfl, ⟨by decide, by decide, by decide⟩, _, _, rfl, rfl, (by show (0 : Int) < 10 ^ 60; decide), ⟨(z % 10 ^ 60).toNat, ?_⟩, rfl⟩
          have : (0 : Int) ≤ z % 10 ^ 60 := Int.emod_nonneg _ (by decide)
          rw [Int.toNat_of_nonneg this]
          rfl
        · have : (0 : Int) ≤ mixZ z 5 / 5 % 9 := Int.emod_nonneg _ (by decide)
          rw [Int.toNat_of_nonneg this]
          rfl
      rintro σ' H7' ⟨⟨y, rfl⟩, rfl⟩
      obtain ⟨k1, hk1⟩ : ∃ k : Nat, (((ks.getD wk 0 : Nat) : Int) + (y : Nat)) % 10 ^ 60 = (k : Int) := ⟨((((ks.getD wk 0 : Nat) : Int) + (y : Nat)) % 10 ^ 60).toNat, by have := Int.emod_nonneg (((ks.getD wk 0 : Nat) : Int) + (y : Nat)) (show (10 ^ 60 : Int) ≠ 0 by decide); omega⟩
      have hk1l : k1 < 10 ^ 60 := by
        have := Int.emod_lt_of_pos (((ks.getD wk 0 : Nat) : Int) + (y : Nat)) (show (0 : Int) < 10 ^ 60 by decide)
        omega
      refine ⟨_, rfl, _, rfl, pk, _, _, _, rfl, rfl, SqL.of ek7, nV_at (by omega), _, rfl, _, _, rfl, rfl, _, _, rfl, rfl, ⟨by decide, by decide, by decide⟩, ((ks.getD wk 0 : Nat) : Int) + (y : Nat), (10 ^ 60 : Int), rfl, rfl, (by show (0 : Int) < 10 ^ 60; decide), _, rfl, _, rfl, pk, _, _, wk, rfl, rfl, ek7, by rw [nV_len]; exact ixN_nat (by omega), ?_⟩
      rw [show (fun i j : Int => V.int (i % j)) (((ks.getD wk 0 : Nat) : Int) + (y : Nat)) (10 ^ 60) = V.int (k1 : Nat) from congrArg V.int hk1, nV_set]
      have bk8 : ∀ k ∈ ks.set wk k1, k < 10 ^ 60 := fun x hx => by
        rcases List.mem_or_eq_of_mem_set hx with h | h
        · exact bk x h
        · rw [h]; exact hk1l
      have lk8 : (ks.set wk k1).length = mn := by rw [List.length_set]; exact lk
      have sH8 : Same H (upd H7' pk (.lst (nV (ks.set wk k1)))) := same_set sH7 npk
      have ew8 : upd H7' pk (.lst (nV (ks.set wk k1))) pw = some (.lst (nV ws)) := (upd_ne nwk).trans ew7
      have e28 : upd H7' pk (.lst (nV (ks.set wk k1))) p2 = some (.lst (zs.map V.int)) := (upd_ne n2k).trans e27
      have eo8 : upd H7' pk (.lst (nV (ks.set wk k1))) po = some (.lst (nV os7)) := (upd_ne nok).trans eo7
      have em8 : upd H7' pk (.lst (nV (ks.set wk k1))) pm = some (.lst (nV ms)) := (upd_ne nkm.symm).trans em7
      have ek8 : upd H7' pk (.lst (nV (ks.set wk k1))) pk = some (.lst (nV (ks.set wk k1))) := upd_same
      generalize upd H7' pk (.lst (nV (ks.set wk k1))) = H8 at sH8 ew8 e28 eo8 em8 ek8 ⊢
      generalize ks.set wk k1 = ks8 at bk8 lk8 ek8
      refine ⟨_, rfl, _, rfl, p2, _, _, _, rfl, rfl, SqL.of e28, hzi, z, 1, rfl, by decide, by decide, _, _, rfl, rfl, ⟨by decide, by decide⟩, ?_⟩
      refine ⟨_, rfl, _, rfl, by omega, by omega, ?_⟩
      rw [Int.toNat_natCast]
      refine for_range (fun j σ H' => (∃ l v1, σ = [some (.ref ad), some (.int (pl : Nat)), some (.ref pw), some (.int (i : Nat)), u2, some (.ref p2), some (.int (mn : Nat)), some (.ref po), some (.ref pk), some (.ref pm), some (.int (wk : Nat)), some (.int (y : Nat)), some (.int l), v1, none]) ∧ Same H H' ∧ H' pw = some (.lst (nV ws)) ∧ H' p2 = some (.lst (zs.map V.int)) ∧ H' po = some (.lst (nV os7)) ∧ H' pk = some (.lst (nV ks8)) ∧ ∃ ms' : List Nat, ms'.length = pl ∧ (∀ m ∈ ms', m < 2 ^ mn) ∧ H' pm = some (.lst (nV ms'))) ⟨⟨_, _, rfl⟩, sH8, ew8, e28, eo8, ek8, ms, lm, bm, em8⟩ ?_ ?_
      · rintro j σ H9 hj ⟨⟨l, v1, rfl⟩, sH9, ew9, e29, eo9, ek9, ms', lm', bm', em9⟩
        rw [show (0 : Int) + (j : Nat) = (j : Nat) by omega]
        have hj' : j < ms'.length := by omega
        obtain ⟨r, hr⟩ : ∃ r : Nat, l % 2 = (r : Int) := ⟨(l % 2).toNat, by omega⟩
        have hr2 : r < 2 := by omega
        have hb : r * 2 ^ wk < 2 ^ mn := by
          have h1 : r * 2 ^ wk ≤ 1 * 2 ^ wk := Nat.mul_le_mul_right _ (by omega)
          have h2 : 2 ^ wk < 2 ^ mn := Nat.pow_lt_pow_right (by decide) hwm
          omega
        obtain ⟨x, hx, hxl⟩ := CI.xor_nat (bm' _ (List.mem_of_getElem? (getD_at hj'))) hb
        refine ⟨_, rfl, _, rfl, pm, _, _, _, rfl, rfl, SqL.of em9, nV_at hj', _, rfl, _, _, rfl, rfl, (by show (0 : Int) < 2; decide), _, rfl, _, _, rfl, rfl, ⟨by omega, by omega, ?_⟩, _, _, rfl, rfl, _, rfl, _, rfl, pm, _, _, j, rfl, rfl, em9, by rw [nV_len]; exact ixN_nat hj', ?_⟩
        · show (l % 2).natAbs < 2 ^ 64
          omega
        rw [show (fun i j : Int => V.int (Builtin.bitXor i j)) ((ms'.getD j 0 : Nat) : Int) (l % 2 * 2 ^ ((wk : Nat) : Int).toNat) = V.int (x : Nat) by
          show V.int (Builtin.bitXor ((ms'.getD j 0 : Nat) : Int) (l % 2 * 2 ^ ((wk : Nat) : Int).toNat)) = _
          rw [← hx, hr, Int.toNat_natCast, Int.natCast_mul, CB.pow_cast], nV_set]
        refine ⟨_, rfl, _, _, rfl, rfl, ⟨by decide, by decide⟩, ⟨_, _, rfl⟩, same_set sH9 npm, (upd_ne nwm).trans ew9, (upd_ne n2m).trans e29, (upd_ne nom).trans eo9, (upd_ne nkm).trans ek9, _, by rw [List.length_set]; exact lm', fun m hm => ?_, upd_same⟩
        rcases List.mem_or_eq_of_mem_set hm with h | h
        · exact bm' m h
        · rw [h]; exact hxl
      rintro σ H9 ⟨⟨l, v1, rfl⟩, sH9, ew9, e29, eo9, ek9, ms', lm', bm', em9⟩
      exact ⟨⟨_, _, _, _, _, _, rfl⟩, sH9, ew9, e29, os7, ks8, ms', lo7, lk8, lm', bo7, bk8, bm', eo9, ek9, em9⟩
    rintro σ H6 ⟨⟨u1, u2, u3, u4, u5, u6, rfl⟩, sH6, ew6, e26, os, ks, ms, lo, lk, lm, bo, bk, bm, eo6, ek6, em6⟩
    obtain ⟨hf, hhf⟩ : ∃ hf : Nat → Nat, ∀ k : Nat, 1 + mixZ (cellZ ns 2) k / 3 % 9 = ((hf k : Nat) : Int) := ⟨fun k => (1 + mixZ (cellZ ns 2) k / 3 % 9).toNat, fun k => by
      have := Int.emod_nonneg (mixZ (cellZ ns 2) k / 3) (show (9 : Int) ≠ 0 by decide)
      rw [Int.toNat_of_nonneg (by omega)]⟩
    refine ⟨_, rfl, _, rfl, by omega, by omega, fun c hc => ?_⟩
    refine comp_idx hc (yields_range (P := fun _ => True)) (fun σ => ∃ v, σ = [v, some (.ref ad)]) (nV ((List.range pl).map hf)) (by rw [nV_len, List.length_map, List.length_map, List.length_range, List.length_range, Int.toNat_natCast]) ⟨_, rfl⟩ (fun _ _ => trivial) (by rw [List.length_map, List.length_range]; omega) ?_ ?_
    · rintro j x z σ H7 R1 R0 hx hz ⟨v, rfl⟩ s7 k1
      rw [List.getElem?_map, Int.toNat_natCast] at hx
      obtain ⟨j', hj', rfl⟩ := Option.map_eq_some_iff.mp hx
      have hjl : j < pl := by
        have := (List.getElem?_eq_some_iff.mp hj').1
        rw [List.length_range] at this
        exact this
      rw [List.getElem?_range hjl] at hj'
      obtain rfl := Option.some.inj hj'
      unfold nV at hz
      rw [List.getElem?_map, List.getElem?_map, List.getElem?_range hjl] at hz
      obtain rfl := Option.some.inj hz
      rw [show (0 : Int) + (j : Nat) = (j : Nat) by omega]
      refine ⟨_, rfl, ad, ns, 2, rfl, (sH6.trans s7).seq hS, hl, by decide, _, rfl, _, _, rfl, by omega, by omega, _, _, rfl, rfl, ⟨by decide, by decide⟩, _, _, rfl, rfl, (by show (0 : Int) < 9; decide), _, _, rfl, rfl, ?_⟩
      rw [show (fun i j : Int => V.int (i + j)) 1 (mixZ (cellZ ns 2) j / 3 % 9) = V.int (hf j : Nat) from congrArg V.int (hhf j)]
      exact k1 _ _ ⟨_, rfl⟩ (Same.refl _)
    intro H7 s7 e7
    refine ⟨_, rfl, _, rfl, _, rfl, _, rfl, _, rfl, by first | decide | (simp only [List.length_cons, List.length_nil, List.length_append, List.length_map]; decide), fun t ht => ?_⟩
    have s8 := Same.upd0 (o := .tup [.ref pw, .ref po, .ref pm, .ref pk, .ref c]) ht
    have s78 := s7.trans s8
    refine q ws os ms ks _ _ t pw po pm pk c (sH6.trans s78) ⟨by omega, by rw [List.length_map, List.length_range]; omega, by omega, by omega, by omega, by omega, bw, tw, bo, by rw [lo]; exact bm, bk, fun h hh => ?_⟩ (by omega) upd_same (s78 _ _ ew6) (s78 _ _ eo6) (s78 _ _ em6) (s78 _ _ ek6) (s8 _ _ e7)
    obtain ⟨k, _, rfl⟩ := List.mem_map.mp hh
    have h1 := hhf k
    have h2 := Int.emod_nonneg (mixZ (cellZ ns 2) k / 3) (show (9 : Int) ≠ 0 by decide)
    have h3 := Int.emod_lt_of_pos (mixZ (cellZ ns 2) k / 3) (show (0 : Int) < 9 by decide)
    omega

def sp_has (_ : PySem.W.Frag) : Sp := fun vs H Q _ => ∃ (m : Nat) (n : Int), vs = [.int m, .int n] ∧ Q (.bl (decide (0 ≤ n) && m.testBit n.toNat)) H
theorem ok_has {f : Addr} {fd : FuncData} (F : Fun K "has" "has" s_has f fd) (T : Txt K mg a) : FnOk P w K mg base CX0 1 f fd ["mask", "number"] (sp_has K) := by
  refine F.ok sc_has (fun vs H Q E h => ?_) (fun cdv A outer s H vs Q E hr h => ?_)
  · obtain ⟨m, n, rfl, _⟩ := h
    rfl
  · obtain ⟨m, n, rfl, q⟩ := h
    refine ⟨_, (pss_one (ps_ret (pe_and (pe_cmpR op_ge (pvN (i := 1) (sc := defScope s_has) (M := N_has) rfl rfl (by decide +kernel)) pe_int (nomark _)) (pe_one (pe_cmpR op_eq (pe_op op_and (pe_op op_shr (pvN (i := 0) (sc := defScope s_has) (M := N_has) rfl rfl (by decide +kernel)) (pvN (i := 1) (sc := defScope s_has) (M := N_has) rfl rfl (by decide +kernel))) pe_int) pe_int (nomark _)))))), ?_⟩
    refine ⟨_, rfl, _, _, rfl, rfl, _, rfl, ite2 (fun h0 => ?_) (fun h0 => ?_)⟩
    · have h0' : 0 ≤ n := of_decide_eq_true h0
      refine ⟨_, rfl, _, rfl, _, _, rfl, rfl, h0', _, _, rfl, rfl, rfl, ?_⟩
      have e : (decide (0 ≤ n) && m.testBit n.toNat) = decide (V.int (Builtin.bitAnd ((m : Int) / 2 ^ n.toNat) 1) = V.int 1) := by
        rw [decide_eq_true h0', Bool.true_and, ← CB.has_eq]
        exact decide_eq_decide.mpr ⟨fun z => by rw [z], fun z => V.int.inj z⟩
      rw [e] at q
      exact q
    · rw [decide_eq_false (fun z => h0 (decide_eq_true z)), Bool.false_and] at q
      exact q

theorem get_V {l : List Nat} {i : Nat} {x : V} (h : (nV l)[i]? = some x) : i < l.length ∧ x = .int (l.getD i 0 : Nat) := by
  unfold nV at h
  rw [List.getElem?_map] at h
  obtain ⟨n, hn, rfl⟩ := Option.map_eq_some_iff.mp h
  exact ⟨(List.getElem?_eq_some_iff.mp hn).1, by rw [CG.getD_of hn]⟩
theorem zip_nat {xs ys : List Nat} {g : Nat → Nat} (hl : ys.length ≤ xs.length) : L5.zipF (fun i _ _ => some (V.int (g i : Nat))) (nV xs) (nV ys) (nV ys).length = ((List.range ys.length).map fun i => ((g i : Nat) : Int)).map V.int := by
  unfold L5.zipF
  rw [nV_len, List.map_map]
  refine CG.filterMap_some fun i hi => ?_
  have hi' := List.mem_range.mp hi
  rw [List.getElem?_eq_getElem (by rw [nV_len]; omega : i < (nV xs).length), List.getElem?_eq_getElem (by rw [nV_len]; omega : i < (nV ys).length)]
  rfl
theorem sum_range (f : Nat → Nat) (n : Nat) : preSum (fun i => ((List.range n).map fun i => ((f i : Nat) : Int)).getD i 0) ((List.range n).map fun i => ((f i : Nat) : Int)).length = ((CI.sg f n : Nat) : Int) := by
  rw [List.length_map, List.length_range]
  refine CI.preSum_sg fun i hi => ?_
  rw [List.getD_eq_getElem?_getD, List.getElem?_map, List.getElem?_range hi]
  rfl
theorem mem_at {l : List Nat} {i b : Nat} (h : i < l.length) (hb : ∀ x ∈ l, x ≤ b) : l.getD i 0 ≤ b := by
  rw [List.getD_eq_getElem?_getD, List.getElem?_eq_getElem h]
  exact hb _ (List.getElem_mem h)
def sp_base_of (K : PySem.W.Frag) : Sp := fun vs H Q _ => ∃ (po pk ph : Addr) (os ks hs : List Nat), vs = [.ref po, .ref pk, .ref ph] ∧ SqL K H po (nV os) ∧ SqL K H pk (nV ks) ∧ SqL K H ph (nV hs) ∧ ks.length = os.length ∧ ks.length ≤ 1000 ∧ (∀ o ∈ os, o ≤ 1000) ∧ (∀ h ∈ hs, h ≤ 1000) ∧ ∀ H', Same H H' → Q (.int (CI.base os ks hs : Nat)) H'
theorem ok_base_of {f : Addr} {fd : FuncData} (F : Fun K "base_of" "base_of" s_base_of f fd) (T : Txt K mg a) : FnOk P w K mg base CX0 1 f fd ["oftens", "marks", "worths"] (sp_base_of K) := by
  refine F.ok sc_base_of (fun vs H Q E h => ?_) (fun cdv A outer s H vs Q E hr h => ?_)
  · obtain ⟨po, pk, ph, os, ks, hs, rfl, _⟩ := h
    rfl
  · obtain ⟨po, pk, ph, os, ks, hs, rfl, ho, hk, hh, hl, hl2, bo, bh, q⟩ := h
    refine ⟨_, (pss_one (ps_ret (pe_op op_add pe_int (pe_op op_mul (pe_callBN (sc := defScope s_base_of) (call_sumL rfl) rfl (by decide +kernel) T.z_sum bt_sum (pa_cons (pe_comp rfl (N := ["mark", "often"]) (own := 2) (js := []) (X := (cxOf CX0 P w K mg base N_base_of "base_of" (defScope s_base_of) f cdv A outer s H E).nox) (compOk (defScope s_base_of) N_base_of rfl rfl (by decide +kernel)) (L5.pi_zipL (glR (sc := defScope s_base_of) rfl (by decide +kernel)) T.z_zip (pa_cons (pvN (i := 1) (sc := defScope s_base_of) (M := N_base_of) rfl rfl (by decide +kernel)) (pa_cons (pvN (i := 0) (sc := defScope s_base_of) (M := N_base_of) rfl rfl (by decide +kernel)) pa_nil))) (fun fp0 sx0 Hx0 => (kgTup (K := K) rfl (pg_tup (n := 2) (by rfl) (pgs_cons (pgN (i := 0) (sc := relabelS _ (defScope s_base_of)) (M := ["mark", "often"]) rfl rfl (by decide +kernel)) (pgs_cons (pgN (i := 1) (sc := relabelS _ (defScope s_base_of)) (M := ["mark", "often"]) rfl rfl (by decide +kernel)) pgs_nil))))) (fun fp0 sx0 Hx0 => pifs_nil) (fun fp0 sx0 Hx0 => (pe_op op_mul (pvN (i := 0) (sc := relabelS _ (defScope s_base_of)) (M := ["mark", "often"]) rfl rfl (by decide +kernel)) (pvN (i := 1) (sc := relabelS _ (defScope s_base_of)) (M := ["mark", "often"]) rfl rfl (by decide +kernel))))) pa_nil)) (L19.pe_maxD (sc := defScope s_base_of) rfl rfl (by decide +kernel) T.z_max (pa_cons (pvN (i := 2) (sc := defScope s_base_of) (M := N_base_of) rfl rfl (by decide +kernel)) pa_nil) (pk_cons pe_int pk_nil)))))), ?_⟩
    have hs' : sizeLine = 16777216 := sizeLine_eq
    refine ⟨_, rfl, _, rfl, pk, po, rfl, ⟨_, hk⟩, ⟨_, ho⟩, fun c hc => ?_⟩
    refine L5.comp_zip hc (fun H' s' => ⟨s'.seq hk, s'.seq ho⟩) (fun σ => ∃ v1 v2, σ = [v1, v2]) (fun i _ _ => some (V.int ((ks.getD i 0 * os.getD i 0 : Nat) : Int))) ⟨_, _, rfl⟩ (by rw [nV_len, nV_len]; omega) (by rw [nV_len]; omega) ?_ ?_
    · rintro i x y σ H2 T R1 R0 hx hy ⟨v1, v2, rfl⟩ s2 hT k1 k0
      obtain ⟨h1, rfl⟩ := get_V hx
      obtain ⟨h2, rfl⟩ := get_V hy
      have b := mem_at h2 bo
      refine ⟨T, _, rfl, SqT.of upd_same, rfl, _, _, rfl, _, _, rfl, rfl, _, rfl, _, rfl, _, _, rfl, rfl, .inr ⟨by omega, by omega⟩, k1 _ _ _ ⟨_, _, rfl⟩ ?_ (Same.upd0 hT)⟩
      rw [Int.natCast_mul]
    intro H1 s1 e1
    rw [zip_nat (by omega)] at e1
    refine ⟨c, _, rfl, SqL.of e1, ?_⟩
    rw [sum_range]
    refine ⟨_, rfl, ph, hs.map (fun n : Nat => (n : Int)), _, rfl, rfl, by rw [← nV_int]; exact s1.seq hh, fun m hm => ?_⟩
    obtain ⟨n, rfl, hn⟩ : ∃ n : Nat, m = (n : Int) ∧ n = CI.mxd hs := by
      by_cases he : hs = []
      · rw [he] at hm ⊢
        exact ⟨1, hm.1 rfl, rfl⟩
      · obtain ⟨h1, h2⟩ := hm.2 (by rw [Ne, List.map_eq_nil_iff]; exact he)
        obtain ⟨n, hn, rfl⟩ := List.mem_map.mp h1
        refine ⟨n, rfl, ?_⟩
        rw [CI.mxd_some he]
        refine CI.mx_uniq hn fun x hx => ?_
        have := h2 _ (List.mem_map_of_mem hx)
        omega
    have bn : n ≤ 1000 := by
      rw [hn]
      unfold CI.mxd
      split
      · omega
      · exact bh _ (CI.mx_mem (by assumption))
    refine ⟨_, _, rfl, rfl, .inr ⟨by omega, by omega⟩, _, _, rfl, rfl, ?_⟩
    have q' := q H1 s1
    unfold CI.base at q'
    rw [← hn, Int.natCast_add, Int.natCast_mul, hl] at q'
    exact q'
def sp_weights_of (K : PySem.W.Frag) : Sp := fun vs H Q _ => ∃ (po pk ph : Addr) (os ks hs : List Nat), vs = [.ref po, .ref pk, .ref ph] ∧ SqL K H po (nV os) ∧ SqL K H pk (nV ks) ∧ SqL K H ph (nV hs) ∧ ks.length = os.length ∧ ks.length ≤ 1000 ∧ hs.length ≤ 1000 ∧ (∀ o ∈ os, o ≤ 1000) ∧ (∀ h ∈ hs, h ≤ 1000) ∧ ∀ H' p zs, Same H H' → H' p = some (.lst zs) → Els NL H' zs (CI.rows os ks hs) → H p = none → Q (.ref p) H'
theorem ok_weights_of {f : Addr} {fd fd_base_of : FuncData} (F : Fun K "weights_of" "weights_of" s_weights_of f fd) (T : Txt K mg a)
    (G_base_of : FnOk P w K mg base CX0 1 a.base_of fd_base_of ["oftens", "marks", "worths"] (sp_base_of K)) (F_base_of : Fun K "base_of" "base_of" s_base_of a.base_of fd_base_of) (b_base_of : Binds K fd_base_of ["oftens", "marks", "worths"] []) : FnOk P w K mg base CX0 2 f fd ["oftens", "marks", "worths"] (sp_weights_of K) := by
  refine F.ok sc_weights_of (fun vs H Q E h => ?_) (fun cdv A outer s H vs Q E hr h => ?_)
  · obtain ⟨po, pk, ph, os, ks, hs, rfl, _⟩ := h
    rfl
  · obtain ⟨po, pk, ph, os, ks, hs, rfl, ho, hk, hh, hl, hl2, hl3, bo, bh, q⟩ := h
    refine ⟨_, (pss_cons (psC (i := 3) (sc := defScope s_weights_of) (M := N_weights_of) rfl rfl rfl (by decide +kernel) (pe_callN (sc := defScope s_weights_of) G_base_of (hr.mono (by decide)) rfl (by decide +kernel) T.m_base_of F_base_of.kp b_base_of .nil pass0 (pa_cons (pvN (i := 0) (sc := defScope s_weights_of) (M := N_weights_of) rfl rfl (by decide +kernel)) (pa_cons (pvN (i := 1) (sc := defScope s_weights_of) (M := N_weights_of) rfl rfl (by decide +kernel)) (pa_cons (pvN (i := 2) (sc := defScope s_weights_of) (M := N_weights_of) rfl rfl (by decide +kernel)) pa_nil)))))
      (pss_cons (psN (i := 4) (sc := defScope s_weights_of) (M := N_weights_of) rfl rfl (by decide +kernel) (pe_lst pa_nil))
      (pss_cons (ps_for PassesOwn.never rfl (pi_list (pvN (i := 1) (sc := defScope s_weights_of) (M := N_weights_of) rfl rfl (by decide +kernel))) (pgC (i := 5) (sc := defScope s_weights_of) (M := N_weights_of) rfl rfl rfl (by decide +kernel)) (pss_one (ps_expr (pe_bm PySem.F.plainAttrs_list PySem.F.slot_list_append PySem.F.type_list_append mt_append (pvN (i := 4) (sc := defScope s_weights_of) (M := N_weights_of) rfl rfl (by decide +kernel)) (pa_cons (pe_comp rfl (N := ["worth", "base", "mark"]) (own := 1) (js := [3, 5]) (X := (cxOf CX0 P w K mg base N_weights_of "weights_of" (defScope s_weights_of) f cdv A outer s H E).nox) (compOk (defScope s_weights_of) N_weights_of rfl rfl (by decide +kernel)) (pi_list (pvN (i := 2) (sc := defScope s_weights_of) (M := N_weights_of) rfl rfl (by decide +kernel))) (fun fp0 sx0 Hx0 => (pgN (i := 0) (sc := relabelS _ (defScope s_weights_of)) (M := ["worth", "base", "mark"]) rfl rfl (by decide +kernel))) (fun fp0 sx0 Hx0 => pifs_nil) (fun fp0 sx0 Hx0 => (pe_op op_add (pvN (i := 1) (sc := relabelS _ (defScope s_weights_of)) (M := ["worth", "base", "mark"]) rfl rfl (by decide +kernel)) (pe_op op_mul (pvN (i := 2) (sc := relabelS _ (defScope s_weights_of)) (M := ["worth", "base", "mark"]) rfl rfl (by decide +kernel)) (pvN (i := 0) (sc := relabelS _ (defScope s_weights_of)) (M := ["worth", "base", "mark"]) rfl rfl (by decide +kernel)))))) pa_nil)))))
      (pss_one (ps_ret (pvN (i := 4) (sc := defScope s_weights_of) (M := N_weights_of) rfl rfl (by decide +kernel))))))), ?_⟩
    have hs' : sizeLine = 16777216 := sizeLine_eq
    refine ⟨_, rfl, _, rfl, _, rfl, po, pk, ph, os, ks, hs, rfl, ho, hk, hh, hl, hl2, bo, bh, fun H1 s1 => ?_⟩
    refine ⟨by first | decide | (simp only [List.length_cons, List.length_nil, List.length_append, List.length_map]; decide), fun pW hpW => ?_⟩
    have s2 := s1.trans (Same.upd0 (o := .lst []) hpW)
    have npW : H pW = none := s1.free hpW
    have e2 : upd H1 pW (.lst []) pW = some (.lst []) := upd_same
    generalize upd H1 pW (.lst []) = H2 at s2 e2 ⊢
    refine ⟨_, rfl, pk, rfl, ⟨_, s2.seq hk⟩, ?_⟩
    refine for_list (xs := nV ks) (fun i σ H' => (∃ v, σ = [some (.ref po), some (.ref pk), some (.ref ph), some (.int (CI.base os ks hs : Nat)), some (.ref pW), v]) ∧ Same H H' ∧ ∃ zs, H' pW = some (.lst zs) ∧ ∃ D, Same D H' ∧ D pW = none ∧ Els NL D zs ((CI.rows os ks hs).take i)) ⟨⟨_, rfl⟩, s2, [], e2, fun _ => none, (fun _ _ h => nomatch h), rfl, by rw [List.take_zero]; exact Els.nil⟩ ?_ ?_ ?_
    · rintro i σ H' _ ⟨_, s', _⟩
      exact s'.seq hk
    · rintro i x σ H3 hx ⟨⟨v, rfl⟩, s3, zs, e3, D, sD, nD, hE⟩
      obtain ⟨hi, rfl⟩ := get_V hx
      refine ⟨_, rfl, .inl ⟨rfl, _, SqL.of e3⟩, ?_⟩
      refine ⟨_, rfl, ph, rfl, ⟨_, s3.seq hh⟩, fun c hc => ?_⟩
      refine comp_idx hc yields_list (fun σ => ∃ v, σ = [v, some (.int (CI.base os ks hs : Nat)), some (.int (ks.getD i 0 : Nat))]) (nV (CI.row os ks hs i)) (by rw [nV_len, nV_len, CI.row_len]) ⟨_, rfl⟩ (fun H' s' => (s3.trans s').seq hh) (by rw [nV_len]; omega) ?_ ?_
      · rintro j y z σ H4 R1 R0 hy hz ⟨v, rfl⟩ s4 k1
        obtain ⟨hj, rfl⟩ := get_V hy
        obtain ⟨hj', rfl⟩ := get_V hz
        have b := mem_at hj bh
        refine ⟨_, rfl, _, rfl, _, rfl, _, _, rfl, rfl, .inr ⟨by omega, by omega⟩, _, _, rfl, rfl, ?_⟩
        have : ((CI.row os ks hs i).getD j 0 : Nat) = (CI.base os ks hs : Nat) + ks.getD i 0 * hs.getD j 0 := CI.row_get hj
        rw [this, Int.natCast_add, Int.natCast_mul] at k1
        exact k1 _ _ ⟨_, rfl⟩ (Same.refl _)
      intro H4 s4 e4
      have ncW : c ≠ pW := (ne_of_none e3 hc).symm
      refine ⟨pW, _, _, rfl, rfl, s4 _ _ e3, ?_, ?_⟩
      · rw [hE.1, List.length_take, CI.rows_len]
        omega
      refine ⟨⟨_, rfl⟩, same_set (s3.trans s4) npW, _, upd_same, upd D c (.lst (nV (CI.row os ks hs i))), ?_, ?_, ?_⟩
      · have sD4 : Same (upd D c (.lst (nV (CI.row os ks hs i)))) H4 := fun b u e => by
          by_cases hb : b = c
          · subst hb
            rw [upd_same] at e
            rw [e4]
            exact e
          · rw [upd_ne hb] at e
            exact s4 _ _ (sD _ _ e)
        exact same_set sD4 (by rw [upd_ne ncW.symm]; exact nD)
      · rw [upd_ne ncW.symm]
        exact nD
      · rw [L4.take_snoc (CI.rows_at hi)]
        refine (hE.up fun v a => NL.up (Same.upd0 (sD.free hc))).snoc ⟨c, rfl, upd_same⟩
    rintro σ H3 ⟨⟨v, rfl⟩, s3, zs, e3, D, sD, nD, hE⟩
    rw [nV_len, ← CI.rows_len os ks hs, List.take_length] at hE
    exact ⟨_, rfl, q H3 pW zs s3 e3 (hE.up fun v a => NL.up sD) npW⟩
theorem ix_V {l : List Nat} {i : Nat} (h : i < l.length) : atI (nV l) ((i : Nat) : Int) = some (.int (l.getD i 0 : Nat)) := nV_at h
def sp_above_price (K : PySem.W.Frag) : Sp := fun vs H Q _ => ∃ (p w : Nat) (pW pp pq : Addr) (zs : List V) (W : List (List Nat)) (r ps qs : List Nat), vs = [.int p, .int w, .ref pW, .ref pp, .ref pq] ∧ SqL K H pW zs ∧ Els NL H zs W ∧ W[w]? = some r ∧ p < r.length ∧ SqL K H pp (nV ps) ∧ SqL K H pq (nV qs) ∧ p < ps.length ∧ w < qs.length ∧ Q (.int ((r.getD p 0 - ps.getD p 0 - qs.getD w 0 : Nat) : Int)) H
theorem ok_above_price {f : Addr} {fd : FuncData} (F : Fun K "above_price" "above_price" s_above_price f fd) (T : Txt K mg a) : FnOk P w K mg base CX0 1 f fd ["place", "work", "weights", "place_prices", "work_prices"] (sp_above_price K) := by
  refine F.ok sc_above_price (fun vs H Q E h => ?_) (fun cdv A outer s H vs Q E hr h => ?_)
  · obtain ⟨p, w, pW, pp, pq, zs, W, r, ps, qs, rfl, _⟩ := h
    rfl
  · obtain ⟨p, wk, pW, pp, pq, zs, W, r, ps, qs, rfl, hW, hE, hr, hp, hpp, hpq, lp, lq, q⟩ := h
    refine ⟨_, (pss_one (ps_ret (pe_callBN (sc := defScope s_above_price) (call_max2 rfl) rfl (by decide +kernel) T.z_max bt_max (pa_cons pe_int (pa_cons (pe_op op_sub (pe_op op_sub (pe_ix ix_list (pe_ix ix_list (pvN (i := 2) (sc := defScope s_above_price) (M := N_above_price) rfl rfl (by decide +kernel)) (pvN (i := 1) (sc := defScope s_above_price) (M := N_above_price) rfl rfl (by decide +kernel)) (fun _ _ => rfl)) (pvN (i := 0) (sc := defScope s_above_price) (M := N_above_price) rfl rfl (by decide +kernel)) (fun _ _ => rfl)) (pe_ix ix_list (pvN (i := 3) (sc := defScope s_above_price) (M := N_above_price) rfl rfl (by decide +kernel)) (pvN (i := 0) (sc := defScope s_above_price) (M := N_above_price) rfl rfl (by decide +kernel)) (fun _ _ => rfl))) (pe_ix ix_list (pvN (i := 4) (sc := defScope s_above_price) (M := N_above_price) rfl rfl (by decide +kernel)) (pvN (i := 1) (sc := defScope s_above_price) (M := N_above_price) rfl rfl (by decide +kernel)) (fun _ _ => rfl))) pa_nil))))), ?_⟩
    obtain ⟨v, hv, pr, rfl, er⟩ := hE.at_ hr
    refine ⟨_, rfl, _, rfl, pW, _, _, _, rfl, rfl, hW, atI_nat hv, _, rfl, pr, _, _, _, rfl, rfl, SqL.of er, ix_V hp, _, rfl, _, rfl, pp, _, _, _, rfl, rfl, hpp, ix_V lp, _, _, rfl, rfl, _, rfl, _, rfl, pq, _, _, _, rfl, rfl, hpq, ix_V lq, _, _, rfl, rfl, _, _, rfl, ?_⟩
    have e : ((r.getD p 0 - ps.getD p 0 - qs.getD wk 0 : Nat) : Int) = if (r.getD p 0 : Nat) - (ps.getD p 0 : Nat) - ((qs.getD wk 0 : Nat) : Int) > 0 then (r.getD p 0 : Nat) - (ps.getD p 0 : Nat) - ((qs.getD wk 0 : Nat) : Int) else 0 := by
      split <;> omega
    rw [e] at q
    exact q
theorem fits_nat (m n : Nat) : ((List.range n).map fun i : Nat => V.int (0 + (i : Nat))).filterMap (fun x => match x with | V.int z => if m.testBit z.toNat then some (V.int z) else none | _ => none) = nV ((List.range n).filter fun w => m.testBit w) := by
  rw [List.filterMap_map]
  induction List.range n with
  | nil => rfl
  | cons i r ih =>
    have ez : (0 : Int) + (i : Nat) = (i : Nat) := by omega
    rw [List.filterMap_cons, List.filter_cons]
    cases h1 : m.testBit i with
    | true =>
      have : ((fun x => match x with | V.int z => if m.testBit z.toNat = true then some (V.int z) else none | _ => none) ∘ fun i : Nat => V.int (0 + (i : Nat))) i = some (V.int (i : Nat)) := by
        show (if m.testBit ((0 : Int) + (i : Nat)).toNat = true then some (V.int (0 + (i : Nat))) else none) = _
        rw [ez, Int.toNat_natCast, if_pos h1]
      rw [this, if_pos rfl]
      exact congrArg (_ :: ·) ih
    | false =>
      have : ((fun x => match x with | V.int z => if m.testBit z.toNat = true then some (V.int z) else none | _ => none) ∘ fun i : Nat => V.int (0 + (i : Nat))) i = none := by
        show (if m.testBit ((0 : Int) + (i : Nat)).toNat = true then some (V.int (0 + (i : Nat))) else none) = _
        rw [ez, Int.toNat_natCast, if_neg (by rw [h1]; decide)]
      rw [this, if_neg (by decide)]
      exact ih
def sp_priced (K : PySem.W.Frag) : Sp := fun vs H Q _ => ∃ (pw po pm pW pp pq : Addr) (zs : List V) (W : List (List Nat)) (ws os ms ps qs : List Nat), vs = [.ref pw, .ref po, .ref pm, .ref pW, .ref pp, .ref pq] ∧ SqL K H pw (nV ws) ∧ SqL K H po (nV os) ∧ SqL K H pm (nV ms) ∧ SqL K H pW zs ∧ Els NL H zs W ∧ W.length = os.length ∧ (∀ r ∈ W, r.length = ms.length) ∧ SqL K H pp (nV ps) ∧ SqL K H pq (nV qs) ∧ ws.length = ms.length ∧ ps.length = ms.length ∧ qs.length = os.length ∧ ms.length ≤ 1000 ∧ os.length ≤ 1000 ∧ (∀ x ∈ ws, x ≤ 1000) ∧ (∀ x ∈ os, x ≤ 1000) ∧ ∀ H', Same H H' → Q (.int (CI.priced ws os ms (fun w p => (W.getD w []).getD p 0) ps qs : Nat)) H'
theorem ok_priced {f : Addr} {fd fd_above_price fd_has : FuncData} (F : Fun K "priced" "priced" s_priced f fd) (T : Txt K mg a)
    (G_above_price : FnOk P w K mg base CX0 1 a.above_price fd_above_price ["place", "work", "weights", "place_prices", "work_prices"] (sp_above_price K)) (F_above_price : Fun K "above_price" "above_price" s_above_price a.above_price fd_above_price) (b_above_price : Binds K fd_above_price ["place", "work", "weights", "place_prices", "work_prices"] [])
    (G_has : FnOk P w K mg base CX0 1 a.has fd_has ["mask", "number"] (sp_has K)) (F_has : Fun K "has" "has" s_has a.has fd_has) (b_has : Binds K fd_has ["mask", "number"] []) : FnOk P w K mg base CX0 2 f fd ["wants", "oftens", "masks", "weights", "place_prices", "work_prices"] (sp_priced K) := by
  refine F.ok sc_priced (fun vs H Q E h => ?_) (fun cdv A outer s H vs Q E hr h => ?_)
  · obtain ⟨pw, po, pm, pW, pp, pq, zs, W, ws, os, ms, ps, qs, rfl, _⟩ := h
    rfl
  · obtain ⟨pw, po, pm, pW, pp, pq, zs, W, ws, os, ms, ps, qs, rfl, hw, ho, hm, hW, hE, lW, lr, hpp, hpq, lw, lp, lq, lm, lo, bw, bo, q⟩ := h
    refine ⟨_, (pss_cons (psN (i := 6) (sc := defScope s_priced) (M := N_priced) rfl rfl (by decide +kernel) (pe_callBN (sc := defScope s_priced) (call_sumL rfl) rfl (by decide +kernel) T.z_sum bt_sum (pa_cons (pe_comp rfl (N := ["want", "price"]) (own := 2) (js := []) (X := (cxOf CX0 P w K mg base N_priced "priced" (defScope s_priced) f cdv A outer s H E).nox) (compOk (defScope s_priced) N_priced rfl rfl (by decide +kernel)) (L5.pi_zipL (glR (sc := defScope s_priced) rfl (by decide +kernel)) T.z_zip (pa_cons (pvN (i := 0) (sc := defScope s_priced) (M := N_priced) rfl rfl (by decide +kernel)) (pa_cons (pvN (i := 4) (sc := defScope s_priced) (M := N_priced) rfl rfl (by decide +kernel)) pa_nil))) (fun fp0 sx0 Hx0 => (kgTup (K := K) rfl (pg_tup (n := 2) (by rfl) (pgs_cons (pgN (i := 0) (sc := relabelS _ (defScope s_priced)) (M := ["want", "price"]) rfl rfl (by decide +kernel)) (pgs_cons (pgN (i := 1) (sc := relabelS _ (defScope s_priced)) (M := ["want", "price"]) rfl rfl (by decide +kernel)) pgs_nil))))) (fun fp0 sx0 Hx0 => pifs_nil) (fun fp0 sx0 Hx0 => (pe_op op_mul (pvN (i := 0) (sc := relabelS _ (defScope s_priced)) (M := ["want", "price"]) rfl rfl (by decide +kernel)) (pvN (i := 1) (sc := relabelS _ (defScope s_priced)) (M := ["want", "price"]) rfl rfl (by decide +kernel))))) pa_nil)))
      (pss_cons (psN (i := 6) (sc := defScope s_priced) (M := N_priced) rfl rfl (by decide +kernel) (pe_op op_add (pvN (i := 6) (sc := defScope s_priced) (M := N_priced) rfl rfl (by decide +kernel)) (pe_callBN (sc := defScope s_priced) (call_sumL rfl) rfl (by decide +kernel) T.z_sum bt_sum (pa_cons (pe_comp rfl (N := ["often", "price"]) (own := 2) (js := []) (X := (cxOf CX0 P w K mg base N_priced "priced" (defScope s_priced) f cdv A outer s H E).nox) (compOk (defScope s_priced) N_priced rfl rfl (by decide +kernel)) (L5.pi_zipL (glR (sc := defScope s_priced) rfl (by decide +kernel)) T.z_zip (pa_cons (pvN (i := 1) (sc := defScope s_priced) (M := N_priced) rfl rfl (by decide +kernel)) (pa_cons (pvN (i := 5) (sc := defScope s_priced) (M := N_priced) rfl rfl (by decide +kernel)) pa_nil))) (fun fp0 sx0 Hx0 => (kgTup (K := K) rfl (pg_tup (n := 2) (by rfl) (pgs_cons (pgN (i := 0) (sc := relabelS _ (defScope s_priced)) (M := ["often", "price"]) rfl rfl (by decide +kernel)) (pgs_cons (pgN (i := 1) (sc := relabelS _ (defScope s_priced)) (M := ["often", "price"]) rfl rfl (by decide +kernel)) pgs_nil))))) (fun fp0 sx0 Hx0 => pifs_nil) (fun fp0 sx0 Hx0 => (pe_op op_mul (pvN (i := 0) (sc := relabelS _ (defScope s_priced)) (M := ["often", "price"]) rfl rfl (by decide +kernel)) (pvN (i := 1) (sc := relabelS _ (defScope s_priced)) (M := ["often", "price"]) rfl rfl (by decide +kernel))))) pa_nil))))
      (pss_cons (ps_for PassesOwn.never rfl (pi_enum (glR (sc := defScope s_priced) rfl (by decide +kernel)) T.z_enumerate (pa_cons (pvN (i := 2) (sc := defScope s_priced) (M := N_priced) rfl rfl (by decide +kernel)) pa_nil)) (pg_tup (n := 2) (by rfl) (pgs_cons (pgC (i := 7) (sc := defScope s_priced) (M := N_priced) rfl rfl rfl (by decide +kernel)) (pgs_cons (pgC (i := 8) (sc := defScope s_priced) (M := N_priced) rfl rfl rfl (by decide +kernel)) pgs_nil))) (pss_cons (psN_comp (i := 9) (sc := defScope s_priced) (M := N_priced) rfl rfl rfl (by decide +kernel) (N := ["work", "mask"]) (own := 1) (js := [8]) (X := (cxOf CX0 P w K mg base N_priced "priced" (defScope s_priced) f cdv A outer s H E).nox) (compOk (defScope s_priced) N_priced rfl rfl (by decide +kernel)) (pi_range1 (glR (sc := defScope s_priced) rfl (by decide +kernel)) T.z_range (pa_cons (pe_callBN (sc := defScope s_priced) call_len rfl (by decide +kernel) T.z_len bt_len (pa_cons (pvN (i := 1) (sc := defScope s_priced) (M := N_priced) rfl rfl (by decide +kernel)) pa_nil)) pa_nil)) (fun fp0 sx0 Hx0 => (pgN (i := 0) (sc := relabelS _ (defScope s_priced)) (M := ["work", "mask"]) rfl rfl (by decide +kernel))) (fun fp0 sx0 Hx0 => (pifs_one (pt_val (pe_callN (sc := relabelS _ (defScope s_priced)) G_has (hr.mono (by decide)) rfl (by decide +kernel) T.m_has F_has.kp b_has .nil pass0 (pa_cons (pvN (i := 1) (sc := relabelS _ (defScope s_priced)) (M := ["work", "mask"]) rfl rfl (by decide +kernel)) (pa_cons (pvN (i := 0) (sc := relabelS _ (defScope s_priced)) (M := ["work", "mask"]) rfl rfl (by decide +kernel)) pa_nil)))))) (fun fp0 sx0 Hx0 => (pvN (i := 0) (sc := relabelS _ (defScope s_priced)) (M := ["work", "mask"]) rfl rfl (by decide +kernel))) rfl)
      (pss_one (psN (i := 6) (sc := defScope s_priced) (M := N_priced) rfl rfl (by decide +kernel) (pe_op op_add (pvN (i := 6) (sc := defScope s_priced) (M := N_priced) rfl rfl (by decide +kernel)) (pe_callBN (sc := defScope s_priced) (call_sumL rfl) rfl (by decide +kernel) T.z_sum bt_sum (pa_cons (pe_comp rfl (N := ["work", "place", "weights", "place_prices", "work_prices"]) (own := 1) (js := [7, 3, 4, 5]) (X := (cxOf CX0 P w K mg base N_priced "priced" (defScope s_priced) f cdv A outer s H E).nox) (compOk (defScope s_priced) N_priced rfl rfl (by decide +kernel)) (pi_list (pvN (i := 9) (sc := defScope s_priced) (M := N_priced) rfl rfl (by decide +kernel))) (fun fp0 sx0 Hx0 => (pgN (i := 0) (sc := relabelS _ (defScope s_priced)) (M := ["work", "place", "weights", "place_prices", "work_prices"]) rfl rfl (by decide +kernel))) (fun fp0 sx0 Hx0 => pifs_nil) (fun fp0 sx0 Hx0 => (pe_callN (sc := relabelS _ (defScope s_priced)) G_above_price (hr.mono (by decide)) rfl (by decide +kernel) T.m_above_price F_above_price.kp b_above_price .nil pass0 (pa_cons (pvN (i := 1) (sc := relabelS _ (defScope s_priced)) (M := ["work", "place", "weights", "place_prices", "work_prices"]) rfl rfl (by decide +kernel)) (pa_cons (pvN (i := 0) (sc := relabelS _ (defScope s_priced)) (M := ["work", "place", "weights", "place_prices", "work_prices"]) rfl rfl (by decide +kernel)) (pa_cons (pvN (i := 2) (sc := relabelS _ (defScope s_priced)) (M := ["work", "place", "weights", "place_prices", "work_prices"]) rfl rfl (by decide +kernel)) (pa_cons (pvN (i := 3) (sc := relabelS _ (defScope s_priced)) (M := ["work", "place", "weights", "place_prices", "work_prices"]) rfl rfl (by decide +kernel)) (pa_cons (pvN (i := 4) (sc := relabelS _ (defScope s_priced)) (M := ["work", "place", "weights", "place_prices", "work_prices"]) rfl rfl (by decide +kernel)) pa_nil)))))))) pa_nil)))))))
      (pss_one (ps_ret (pvN (i := 6) (sc := defScope s_priced) (M := N_priced) rfl rfl (by decide +kernel))))))), ?_⟩
    have hs' : sizeLine = 16777216 := sizeLine_eq
    refine ⟨_, rfl, _, rfl, pw, pp, rfl, ⟨_, hw⟩, ⟨_, hpp⟩, fun c hc => ?_⟩
    refine L5.comp_zip hc (fun H' s' => ⟨s'.seq hw, s'.seq hpp⟩) (fun σ => ∃ v1 v2, σ = [v1, v2]) (fun i _ _ => some (V.int ((ws.getD i 0 * ps.getD i 0 : Nat) : Int))) ⟨_, _, rfl⟩ (by rw [nV_len, nV_len]; omega) (by rw [nV_len]; omega) ?_ ?_
    · rintro i x y σ H2 T R1 R0 hx hy ⟨v1, v2, rfl⟩ s2 hT k1 k0
      obtain ⟨h1, rfl⟩ := get_V hx
      obtain ⟨h2, rfl⟩ := get_V hy
      have b := mem_at h1 bw
      refine ⟨T, _, rfl, SqT.of upd_same, rfl, _, _, rfl, _, _, rfl, rfl, _, rfl, _, rfl, _, _, rfl, rfl, .inl ⟨by omega, by omega⟩, k1 _ _ _ ⟨_, _, rfl⟩ ?_ (Same.upd0 hT)⟩
      rw [Int.natCast_mul]
    intro H1 s1 e1
    rw [zip_nat (by omega)] at e1
    refine ⟨c, _, rfl, SqL.of e1, ?_⟩
    rw [sum_range]
    refine ⟨_, rfl, _, rfl, _, rfl, po, pq, rfl, ⟨_, s1.seq ho⟩, ⟨_, s1.seq hpq⟩, fun c2 hc2 => ?_⟩
    refine L5.comp_zip hc2 (fun H' s' => ⟨(s1.trans s').seq ho, (s1.trans s').seq hpq⟩) (fun σ => ∃ v1 v2, σ = [v1, v2]) (fun i _ _ => some (V.int ((os.getD i 0 * qs.getD i 0 : Nat) : Int))) ⟨_, _, rfl⟩ (by rw [nV_len, nV_len]; omega) (by rw [nV_len]; omega) ?_ ?_
    · rintro i x y σ H2 T R1 R0 hx hy ⟨v1, v2, rfl⟩ s2 hT k1 k0
      obtain ⟨h1, rfl⟩ := get_V hx
      obtain ⟨h2, rfl⟩ := get_V hy
      have b := mem_at h1 bo
      refine ⟨T, _, rfl, SqT.of upd_same, rfl, _, _, rfl, _, _, rfl, rfl, _, rfl, _, rfl, _, _, rfl, rfl, .inl ⟨by omega, by omega⟩, k1 _ _ _ ⟨_, _, rfl⟩ ?_ (Same.upd0 hT)⟩
      rw [Int.natCast_mul]
    intro H2 s2 e2
    rw [zip_nat (by omega)] at e2
    refine ⟨c2, _, rfl, SqL.of e2, ?_⟩
    rw [sum_range]
    have s12 := s1.trans s2
    refine ⟨_, _, rfl, rfl, ?_⟩
    rw [show (fun i j : Int => V.int (i + j)) ((CI.sg (fun i => ws.getD i 0 * ps.getD i 0) ps.length : Nat) : Int) ((CI.sg (fun i => os.getD i 0 * qs.getD i 0) qs.length : Nat) : Int) = V.int ((CI.sg (fun i => ws.getD i 0 * ps.getD i 0) ws.length + CI.sg (fun i => os.getD i 0 * qs.getD i 0) os.length : Nat) : Int) by rw [Int.natCast_add, lw, ← lp, lq]]
    generalize hz0 : CI.sg (fun i => ws.getD i 0 * ps.getD i 0) ws.length + CI.sg (fun i => os.getD i 0 * qs.getD i 0) os.length = z0
    refine ⟨_, rfl, pm, rfl, ⟨_, s12.seq hm⟩, ?_⟩
    refine L5.for_enum (xs := nV ms) (fun i σ H' => (∃ v1 v2 v3, σ = [some (.ref pw), some (.ref po), some (.ref pm), some (.ref pW), some (.ref pp), some (.ref pq), some (.int ((z0 + CI.sg (fun p => CI.over (ms.getD p 0) os.length (fun w => (W.getD w []).getD p 0) (ps.getD p 0) fun w => qs.getD w 0) i : Nat) : Int)), v1, v2, v3]) ∧ Same H H') ⟨⟨_, _, _, rfl⟩, s12⟩ (fun i σ H' _ h => h.2.seq hm) ?_ ?_
    · rintro i y σ H3 T hy ⟨⟨v1, v2, v3, rfl⟩, s3⟩ hT
      obtain ⟨hi, rfl⟩ := get_V hy
      rw [show (0 : Int) + (i : Nat) = (i : Nat) by omega]
      have s4 := s3.trans (Same.upd0 (o := .tup [.int (i : Nat), .int (ms.getD i 0 : Nat)]) hT)
      have e4 : upd H3 T (.tup [.int (i : Nat), .int (ms.getD i 0 : Nat)]) T = some (.tup [.int (i : Nat), .int (ms.getD i 0 : Nat)]) := upd_same
      generalize upd H3 T (.tup [.int (i : Nat), .int (ms.getD i 0 : Nat)]) = H4 at s4 e4 ⊢
      generalize hA : z0 + CI.sg (fun p => CI.over (ms.getD p 0) os.length (fun w => (W.getD w []).getD p 0) (ps.getD p 0) fun w => qs.getD w 0) i = A
      refine ⟨T, _, rfl, SqT.of e4, rfl, _, _, rfl, _, _, rfl, rfl, ?_⟩
      refine ⟨_, rfl, .ref po, os.length, rfl, .inl ⟨_, s4.seq ho, by rw [nV_len]⟩, _, rfl, by omega, by omega, fun c3 hc3 => ?_⟩
      refine comp_grow hc3 (yields_range (P := fun _ => True)) (fun σ => ∃ v, σ = [v, some (.int (ms.getD i 0 : Nat))]) (fun x => match x with | .int z => if (ms.getD i 0).testBit z.toNat then some (.int z) else none | _ => none) ⟨_, rfl⟩ (fun _ _ => trivial) (by rw [List.length_map, List.length_range]; omega) ?_ ?_
      · rintro x ys σ H' R1 R0 hx ⟨v, rfl⟩ s5 k1 k0
        obtain ⟨j, hj, rfl⟩ := List.mem_map.mp hx
        rw [show (0 : Int) + (j : Nat) = (j : Nat) by omega] at k1 k0 ⊢
        refine ⟨_, rfl, _, rfl, ms.getD i 0, _, rfl, _, rfl, ?_⟩
        rw [decide_eq_true (show (0 : Int) ≤ (j : Nat) by omega), Bool.true_and, Int.toNat_natCast]
        have te : (if (ms.getD i 0).testBit ((j : Nat) : Int).toNat = true then some (V.int (j : Nat)) else none) = (if (ms.getD i 0).testBit j = true then some (V.int (j : Nat)) else none) := by rw [Int.toNat_natCast]
        refine ite2 (fun h1 => ?_) (fun h1 => ?_)
        · exact ⟨_, rfl, k1 _ _ _ ⟨_, rfl⟩ (te.trans (if_pos h1)) (Same.refl _)⟩
        · exact k0 _ _ ⟨_, rfl⟩ (te.trans (if_neg h1)) (Same.refl _)
      intro H5 s5 e5
      rw [Int.toNat_natCast, fits_nat] at e5
      have s45 := s4.trans s5
      have mem : ∀ x ∈ (List.range os.length).filter fun w => (ms.getD i 0).testBit w, x < os.length := fun x hx => List.mem_range.mp (List.mem_filter.mp hx).1
      have lf : ((List.range os.length).filter fun w => (ms.getD i 0).testBit w).length ≤ os.length := Nat.le_trans (List.length_filter_le _ _) (by rw [List.length_range]; exact Nat.le_refl _)
      generalize hL : (List.range os.length).filter (fun w => (ms.getD i 0).testBit w) = L at e5 mem lf
      refine ⟨_, rfl, _, rfl, c3, rfl, ⟨_, SqL.of e5⟩, fun c4 hc4 => ?_⟩
      refine comp_idx hc4 yields_list (fun σ => ∃ v, σ = [v, some (.int (i : Nat)), some (.ref pW), some (.ref pp), some (.ref pq)]) (nV (L.map fun w => (W.getD w []).getD i 0 - ps.getD i 0 - qs.getD w 0)) (by rw [nV_len, nV_len, List.length_map]) ⟨_, rfl⟩ (fun H' s' => SqL.of (s' _ _ e5)) (by rw [nV_len]; omega) ?_ ?_
      · rintro j x z σ H6 R1 R0 hx hz ⟨v, rfl⟩ s6 k1
        obtain ⟨hj, rfl⟩ := get_V hx
        obtain ⟨hj', rfl⟩ := get_V hz
        have hw' : L.getD j 0 < os.length := mem _ (List.mem_of_getElem? (getD_at hj))
        have hr : W[L.getD j 0]? = some (W.getD (L.getD j 0) []) := by
          rw [List.getD_eq_getElem?_getD (l := W), List.getElem?_eq_getElem (by omega : L.getD j 0 < W.length)]
          rfl
        have s56 := s45.trans s6
        have e : (L.map fun w => (W.getD w []).getD i 0 - ps.getD i 0 - qs.getD w 0).getD j 0 = (W.getD (L.getD j 0) []).getD i 0 - ps.getD i 0 - qs.getD (L.getD j 0) 0 := by
          rw [List.getD_eq_getElem?_getD, List.getElem?_map, getD_at hj]
          rfl
        rw [e] at k1
        refine ⟨_, rfl, _, rfl, _, rfl, _, rfl, _, rfl, i, L.getD j 0, pW, pp, pq, zs, W, _, ps, qs, rfl, s56.seq hW, hE.up (fun v a => NL.up s56), hr, ?_, s56.seq hpp, s56.seq hpq, by omega, by omega, k1 _ _ ⟨_, rfl⟩ (Same.refl _)⟩
        rw [lr _ (List.mem_of_getElem? hr)]
        exact hi
      intro H6 s6 e6
      rw [show nV (L.map fun w => (W.getD w []).getD i 0 - ps.getD i 0 - qs.getD w 0) = (L.map fun w => (((W.getD w []).getD i 0 - ps.getD i 0 - qs.getD w 0 : Nat) : Int)).map V.int by unfold nV; rw [List.map_map, List.map_map]; rfl] at e6
      refine ⟨c4, _, rfl, SqL.of e6, ?_⟩
      rw [CI.preSum_sl (fun w => (W.getD w []).getD i 0 - ps.getD i 0 - qs.getD w 0), ← hL, CI.sl_filter]
      refine ⟨_, _, rfl, rfl, ⟨some (.int (i : Nat)), some (.int (ms.getD i 0 : Nat)), some (.ref c3), ?_⟩, s45.trans s6⟩
      show [_, _, _, _, _, _, some (V.int (((A : Nat) : Int) + ((CI.over (ms.getD i 0) os.length (fun w => (W.getD w []).getD i 0) (ps.getD i 0) (fun w => qs.getD w 0) : Nat) : Int))), _, _, _] = _
      rw [CI.sg, ← Nat.add_assoc, hA, ← Int.natCast_add]
    rintro σ H3 ⟨⟨v1, v2, v3, rfl⟩, s3⟩
    refine ⟨_, rfl, ?_⟩
    have q' := q H3 s3
    unfold CI.priced at q'
    rw [hz0, ← nV_len ms] at q'
    exact q'

def GA (H : Hp) (t : Addr) (ws os ms ks hs : List Nat) : Prop := ∃ pw po pm pk ph, H t = some (.tup [.ref pw, .ref po, .ref pm, .ref pk, .ref ph]) ∧ H pw = some (.lst (nV ws)) ∧ H po = some (.lst (nV os)) ∧ H pm = some (.lst (nV ms)) ∧ H pk = some (.lst (nV ks)) ∧ H ph = some (.lst (nV hs))
theorem GA.up {H H' : Hp} {t : Addr} {ws os ms ks hs : List Nat} (s : Same H H') : GA H t ws os ms ks hs → GA H' t ws os ms ks hs := fun ⟨a, b, c, d, e, h0, h1, h2, h3, h4, h5⟩ => ⟨a, b, c, d, e, s _ _ h0, s _ _ h1, s _ _ h2, s _ _ h3, s _ _ h4, s _ _ h5⟩
theorem at_le {l : List Nat} {i a b : Nat} (h : i < l.length) (hb : ∀ x ∈ l, a ≤ x ∧ x ≤ b) : l.getD i 0 ≤ b := mem_at h fun x hx => (hb x hx).2
def sp_law_weight (K : PySem.W.Frag) : Sp := fun vs H Q _ => ∃ (t : Addr) (w p : Nat) (ws os ms ks hs : List Nat), vs = [.ref t, .int w, .int p] ∧ GA H t ws os ms ks hs ∧ CI.Good ws os ms ks hs ∧ w < ks.length ∧ p < hs.length ∧ Q (.int (CI.wt os ks hs w p : Nat)) H
theorem ok_law_weight {f : Addr} {fd : FuncData} (F : Fun K "_law_weight" "_law_weight" s_law_weight f fd) (T : Txt K mg a) : FnOk P w K mg base CX0 1 f fd ["_law_ground_here", "_law_work", "_law_place"] (sp_law_weight K) := by
  refine F.ok sc_law_weight (fun vs H Q E h => ?_) (fun cdv A outer s H vs Q E hr h => ?_)
  · obtain ⟨t, w, p, ws, os, ms, ks, hs, rfl, _⟩ := h
    rfl
  · obtain ⟨t, wk, p, ws, os, ms, ks, hs, rfl, ⟨pw, po, pm, pk, ph, et, ew, eo, em, ek, eh⟩, G, hw, hp, q⟩ := h
    refine ⟨_, (pss_cons (ps_asg (pvN (i := 0) (sc := defScope s_law_weight) (M := N_law_weight) rfl rfl (by decide +kernel)) (pg_tup (n := 5) (by rfl) (pgs_cons (pgN (i := 3) (sc := defScope s_law_weight) (M := N_law_weight) rfl rfl (by decide +kernel)) (pgs_cons (pgN (i := 4) (sc := defScope s_law_weight) (M := N_law_weight) rfl rfl (by decide +kernel)) (pgs_cons (pgN (i := 5) (sc := defScope s_law_weight) (M := N_law_weight) rfl rfl (by decide +kernel)) (pgs_cons (pgN (i := 6) (sc := defScope s_law_weight) (M := N_law_weight) rfl rfl (by decide +kernel)) (pgs_cons (pgN (i := 7) (sc := defScope s_law_weight) (M := N_law_weight) rfl rfl (by decide +kernel)) pgs_nil)))))))
      (pss_cons (psN (i := 8) (sc := defScope s_law_weight) (M := N_law_weight) rfl rfl (by decide +kernel) pe_int)
      (pss_cons (ps_for PassesOwn.never rfl (pi_range1 (glR (sc := defScope s_law_weight) rfl (by decide +kernel)) T.z_range (pa_cons (pe_callBN (sc := defScope s_law_weight) call_len rfl (by decide +kernel) T.z_len bt_len (pa_cons (pvN (i := 6) (sc := defScope s_law_weight) (M := N_law_weight) rfl rfl (by decide +kernel)) pa_nil)) pa_nil)) (pgN (i := 9) (sc := defScope s_law_weight) (M := N_law_weight) rfl rfl (by decide +kernel)) (pss_one (psN (i := 8) (sc := defScope s_law_weight) (M := N_law_weight) rfl rfl (by decide +kernel) (pe_op op_add (pvN (i := 8) (sc := defScope s_law_weight) (M := N_law_weight) rfl rfl (by decide +kernel)) (pe_op op_mul (pe_op op_mul (pe_ix ix_list (pvN (i := 6) (sc := defScope s_law_weight) (M := N_law_weight) rfl rfl (by decide +kernel)) (pvN (i := 9) (sc := defScope s_law_weight) (M := N_law_weight) rfl rfl (by decide +kernel)) (fun _ _ => rfl)) (pe_ix ix_list (pvN (i := 4) (sc := defScope s_law_weight) (M := N_law_weight) rfl rfl (by decide +kernel)) (pvN (i := 9) (sc := defScope s_law_weight) (M := N_law_weight) rfl rfl (by decide +kernel)) (fun _ _ => rfl))) (pe_callBN (sc := defScope s_law_weight) (call_maxL rfl) rfl (by decide +kernel) T.z_max bt_max (pa_cons (pvN (i := 7) (sc := defScope s_law_weight) (M := N_law_weight) rfl rfl (by decide +kernel)) pa_nil)))))))
      (pss_one (ps_ret (pe_op op_add (pvN (i := 8) (sc := defScope s_law_weight) (M := N_law_weight) rfl rfl (by decide +kernel)) (pe_op op_mul (pe_ix ix_list (pvN (i := 6) (sc := defScope s_law_weight) (M := N_law_weight) rfl rfl (by decide +kernel)) (pvN (i := 1) (sc := defScope s_law_weight) (M := N_law_weight) rfl rfl (by decide +kernel)) (fun _ _ => rfl)) (pe_ix ix_list (pvN (i := 7) (sc := defScope s_law_weight) (M := N_law_weight) rfl rfl (by decide +kernel)) (pvN (i := 2) (sc := defScope s_law_weight) (M := N_law_weight) rfl rfl (by decide +kernel)) (fun _ _ => rfl))))))))), ?_⟩
    have hs' : sizeLine = 16777216 := sizeLine_eq
    have g1 := G.lk
    have g2 := G.many
    have hne : hs ≠ [] := fun e => by rw [e] at hp; exact absurd hp (Nat.not_lt_zero _)
    have bm : CI.mx hs ≤ 9 := (G.hl _ (CI.mx_mem hne)).2
    refine ⟨_, rfl, t, _, rfl, SqT.of et, rfl, _, _, rfl, _, _, rfl, _, _, rfl, _, _, rfl, _, _, rfl, rfl, ?_⟩
    refine ⟨_, rfl, .ref pk, ks.length, rfl, .inl ⟨_, SqL.of ek, by rw [nV_len]⟩, _, rfl, by omega, by omega, ?_⟩
    rw [Int.toNat_natCast]
    refine for_range (fun i σ H' => (∃ v, σ = [some (.ref t), some (.int (wk : Nat)), some (.int (p : Nat)), some (.ref pw), some (.ref po), some (.ref pm), some (.ref pk), some (.ref ph), some (.int ((1 + CI.sg (fun k => ks.getD k 0 * os.getD k 0) i * CI.mx hs : Nat) : Int)), v]) ∧ H' = H) ⟨⟨none, by show _ = [_, _, _, _, _, _, _, _, some (V.int ((1 + 0 * CI.mx hs : Nat) : Int)), none]; rw [Nat.zero_mul]; rfl⟩, rfl⟩ ?_ ?_
    · rintro i σ H' hi ⟨⟨v, rfl⟩, rfl⟩
      rw [show (0 : Int) + (i : Nat) = (i : Nat) by omega]
      have bo := at_le (by omega : i < os.length) G.ol
      refine ⟨_, rfl, _, rfl, _, rfl, pk, _, _, _, rfl, rfl, SqL.of ek, nV_at hi, _, rfl, _, rfl, po, _, _, _, rfl, rfl, SqL.of eo, nV_at (by omega), _, _, rfl, rfl, .inr ⟨by omega, by omega⟩, _, rfl, ph, hs.map (fun n : Nat => (n : Int)), rfl, by rw [← nV_int]; exact SqL.of eh, by rw [Ne, List.map_eq_nil_iff]; exact hne, fun m hm hle => ?_⟩
      obtain ⟨n, hn, rfl⟩ := List.mem_map.mp hm
      obtain rfl : n = CI.mx hs := CI.mx_uniq hn fun x hx => by
        have := hle _ (List.mem_map_of_mem hx)
        omega
      refine ⟨_, _, rfl, rfl, .inr ⟨by omega, by omega⟩, _, _, rfl, rfl, ⟨some (.int (i : Nat)), ?_⟩, rfl⟩
      show [_, _, _, _, _, _, _, _, some (V.int (((1 + CI.sg (fun k => ks.getD k 0 * os.getD k 0) i * CI.mx hs : Nat) : Int) + ((ks.getD i 0 : Nat) : Int) * ((os.getD i 0 : Nat) : Int) * ((CI.mx hs : Nat) : Int))), _] = _
      rw [CI.sg, Nat.add_mul, ← Int.natCast_mul, ← Int.natCast_mul, ← Int.natCast_add, Nat.add_assoc]
    rintro σ H' ⟨⟨v, rfl⟩, rfl⟩
    have bh := at_le hp G.hl
    refine ⟨_, rfl, _, rfl, _, rfl, pk, _, _, _, rfl, rfl, SqL.of ek, nV_at hw, _, rfl, _, rfl, ph, _, _, _, rfl, rfl, SqL.of eh, nV_at hp, _, _, rfl, rfl, .inr ⟨by omega, by omega⟩, _, _, rfl, rfl, ?_⟩
    unfold CI.wt CI.base at q
    rw [CI.mxd_some hne, Int.natCast_add, Int.natCast_mul (ks.getD wk 0)] at q
    exact q
def sp_law_priced (K : PySem.W.Frag) : Sp := fun vs H Q _ => ∃ (t pp pq : Addr) (ws os ms ks hs ps qs : List Nat), vs = [.ref t, .ref pp, .ref pq] ∧ GA H t ws os ms ks hs ∧ CI.Good ws os ms ks hs ∧ SqL K H pp (nV ps) ∧ SqL K H pq (nV qs) ∧ ps.length = ws.length ∧ qs.length = os.length ∧ Q (.int (CI.priced ws os ms (CI.wt os ks hs) ps qs : Nat)) H
theorem ok_law_priced {f : Addr} {fd fd_law_fit fd_law_weight : FuncData} (F : Fun K "_law_priced" "_law_priced" s_law_priced f fd) (T : Txt K mg a)
    (G_law_fit : FnOk P w K mg base CX0 1 a.law_fit fd_law_fit ["_law_masks", "_law_work", "_law_place"] (sp_law_fit K)) (F_law_fit : Fun K "_law_fit" "_law_fit" s_law_fit a.law_fit fd_law_fit) (b_law_fit : Binds K fd_law_fit ["_law_masks", "_law_work", "_law_place"] [])
    (G_law_weight : FnOk P w K mg base CX0 1 a.law_weight fd_law_weight ["_law_ground_here", "_law_work", "_law_place"] (sp_law_weight K)) (F_law_weight : Fun K "_law_weight" "_law_weight" s_law_weight a.law_weight fd_law_weight) (b_law_weight : Binds K fd_law_weight ["_law_ground_here", "_law_work", "_law_place"] []) : FnOk P w K mg base CX0 2 f fd ["_law_ground_here", "_law_place_prices", "_law_work_prices"] (sp_law_priced K) := by
  refine F.ok sc_law_priced (fun vs H Q E h => ?_) (fun cdv A outer s H vs Q E hr h => ?_)
  · obtain ⟨t, pp, pq, ws, os, ms, ks, hs, ps, qs, rfl, _⟩ := h
    rfl
  · obtain ⟨t, pp, pq, ws, os, ms, ks, hs, ps, qs, rfl, ⟨pw, po, pm, pk, ph, et, ew, eo, em, ek, eh⟩, G, hpp, hpq, lp, lq, q⟩ := h
    refine ⟨_, (pss_cons (ps_asg (pvN (i := 0) (sc := defScope s_law_priced) (M := N_law_priced) rfl rfl (by decide +kernel)) (pg_tup (n := 5) (by rfl) (pgs_cons (pgN (i := 3) (sc := defScope s_law_priced) (M := N_law_priced) rfl rfl (by decide +kernel)) (pgs_cons (pgN (i := 4) (sc := defScope s_law_priced) (M := N_law_priced) rfl rfl (by decide +kernel)) (pgs_cons (pgN (i := 5) (sc := defScope s_law_priced) (M := N_law_priced) rfl rfl (by decide +kernel)) (pgs_cons (pgN (i := 6) (sc := defScope s_law_priced) (M := N_law_priced) rfl rfl (by decide +kernel)) (pgs_cons (pgN (i := 7) (sc := defScope s_law_priced) (M := N_law_priced) rfl rfl (by decide +kernel)) pgs_nil)))))))
      (pss_cons (psN (i := 8) (sc := defScope s_law_priced) (M := N_law_priced) rfl rfl (by decide +kernel) pe_int)
      (pss_cons (ps_for PassesOwn.never rfl (pi_range1 (glR (sc := defScope s_law_priced) rfl (by decide +kernel)) T.z_range (pa_cons (pe_callBN (sc := defScope s_law_priced) call_len rfl (by decide +kernel) T.z_len bt_len (pa_cons (pvN (i := 3) (sc := defScope s_law_priced) (M := N_law_priced) rfl rfl (by decide +kernel)) pa_nil)) pa_nil)) (pgN (i := 9) (sc := defScope s_law_priced) (M := N_law_priced) rfl rfl (by decide +kernel)) (pss_cons (psN (i := 8) (sc := defScope s_law_priced) (M := N_law_priced) rfl rfl (by decide +kernel) (pe_op op_add (pvN (i := 8) (sc := defScope s_law_priced) (M := N_law_priced) rfl rfl (by decide +kernel)) (pe_op op_mul (pe_ix ix_list (pvN (i := 3) (sc := defScope s_law_priced) (M := N_law_priced) rfl rfl (by decide +kernel)) (pvN (i := 9) (sc := defScope s_law_priced) (M := N_law_priced) rfl rfl (by decide +kernel)) (fun _ _ => rfl)) (pe_ix ix_list (pvN (i := 1) (sc := defScope s_law_priced) (M := N_law_priced) rfl rfl (by decide +kernel)) (pvN (i := 9) (sc := defScope s_law_priced) (M := N_law_priced) rfl rfl (by decide +kernel)) (fun _ _ => rfl)))))
      (pss_one (ps_for PassesOwn.never rfl (pi_range1 (glR (sc := defScope s_law_priced) rfl (by decide +kernel)) T.z_range (pa_cons (pe_callBN (sc := defScope s_law_priced) call_len rfl (by decide +kernel) T.z_len bt_len (pa_cons (pvN (i := 4) (sc := defScope s_law_priced) (M := N_law_priced) rfl rfl (by decide +kernel)) pa_nil)) pa_nil)) (pgN (i := 10) (sc := defScope s_law_priced) (M := N_law_priced) rfl rfl (by decide +kernel)) (pss_one (ps_if (pt_val (pe_callN (sc := defScope s_law_priced) G_law_fit (hr.mono (by decide)) rfl (by decide +kernel) T.m_law_fit F_law_fit.kp b_law_fit .nil pass0 (pa_cons (pvN (i := 5) (sc := defScope s_law_priced) (M := N_law_priced) rfl rfl (by decide +kernel)) (pa_cons (pvN (i := 10) (sc := defScope s_law_priced) (M := N_law_priced) rfl rfl (by decide +kernel)) (pa_cons (pvN (i := 9) (sc := defScope s_law_priced) (M := N_law_priced) rfl rfl (by decide +kernel)) pa_nil))))) (pss_one (psN (i := 8) (sc := defScope s_law_priced) (M := N_law_priced) rfl rfl (by decide +kernel) (pe_op op_add (pvN (i := 8) (sc := defScope s_law_priced) (M := N_law_priced) rfl rfl (by decide +kernel)) (pe_callBN (sc := defScope s_law_priced) (call_max2 rfl) rfl (by decide +kernel) T.z_max bt_max (pa_cons pe_int (pa_cons (pe_op op_sub (pe_op op_sub (pe_callN (sc := defScope s_law_priced) G_law_weight (hr.mono (by decide)) rfl (by decide +kernel) T.m_law_weight F_law_weight.kp b_law_weight .nil pass0 (pa_cons (pvN (i := 0) (sc := defScope s_law_priced) (M := N_law_priced) rfl rfl (by decide +kernel)) (pa_cons (pvN (i := 10) (sc := defScope s_law_priced) (M := N_law_priced) rfl rfl (by decide +kernel)) (pa_cons (pvN (i := 9) (sc := defScope s_law_priced) (M := N_law_priced) rfl rfl (by decide +kernel)) pa_nil)))) (pe_ix ix_list (pvN (i := 1) (sc := defScope s_law_priced) (M := N_law_priced) rfl rfl (by decide +kernel)) (pvN (i := 9) (sc := defScope s_law_priced) (M := N_law_priced) rfl rfl (by decide +kernel)) (fun _ _ => rfl))) (pe_ix ix_list (pvN (i := 2) (sc := defScope s_law_priced) (M := N_law_priced) rfl rfl (by decide +kernel)) (pvN (i := 10) (sc := defScope s_law_priced) (M := N_law_priced) rfl rfl (by decide +kernel)) (fun _ _ => rfl))) pa_nil)))))) pss_nil))))))
      (pss_cons (ps_for PassesOwn.never rfl (pi_range1 (glR (sc := defScope s_law_priced) rfl (by decide +kernel)) T.z_range (pa_cons (pe_callBN (sc := defScope s_law_priced) call_len rfl (by decide +kernel) T.z_len bt_len (pa_cons (pvN (i := 4) (sc := defScope s_law_priced) (M := N_law_priced) rfl rfl (by decide +kernel)) pa_nil)) pa_nil)) (pgN (i := 10) (sc := defScope s_law_priced) (M := N_law_priced) rfl rfl (by decide +kernel)) (pss_one (psN (i := 8) (sc := defScope s_law_priced) (M := N_law_priced) rfl rfl (by decide +kernel) (pe_op op_add (pvN (i := 8) (sc := defScope s_law_priced) (M := N_law_priced) rfl rfl (by decide +kernel)) (pe_op op_mul (pe_ix ix_list (pvN (i := 4) (sc := defScope s_law_priced) (M := N_law_priced) rfl rfl (by decide +kernel)) (pvN (i := 10) (sc := defScope s_law_priced) (M := N_law_priced) rfl rfl (by decide +kernel)) (fun _ _ => rfl)) (pe_ix ix_list (pvN (i := 2) (sc := defScope s_law_priced) (M := N_law_priced) rfl rfl (by decide +kernel)) (pvN (i := 10) (sc := defScope s_law_priced) (M := N_law_priced) rfl rfl (by decide +kernel)) (fun _ _ => rfl)))))))
      (pss_one (ps_ret (pvN (i := 8) (sc := defScope s_law_priced) (M := N_law_priced) rfl rfl (by decide +kernel)))))))), ?_⟩
    have hs' : sizeLine = 16777216 := sizeLine_eq
    have g1 := G.lk
    have g2 := G.many
    have g3 := G.lm
    have g4 := G.lh
    have g5 := G.four
    refine ⟨_, rfl, t, _, rfl, SqT.of et, rfl, _, _, rfl, _, _, rfl, _, _, rfl, _, _, rfl, _, _, rfl, rfl, ?_⟩
    refine ⟨_, rfl, .ref pw, ws.length, rfl, .inl ⟨_, SqL.of ew, by rw [nV_len]⟩, _, rfl, by omega, by omega, ?_⟩
    rw [Int.toNat_natCast]
    refine for_range (fun i σ H' => (∃ v1 v2, σ = [some (.ref t), some (.ref pp), some (.ref pq), some (.ref pw), some (.ref po), some (.ref pm), some (.ref pk), some (.ref ph), some (.int ((CI.sg (fun p => ws.getD p 0 * ps.getD p 0) i + CI.sg (fun p => CI.over (ms.getD p 0) os.length (fun w => CI.wt os ks hs w p) (ps.getD p 0) fun w => qs.getD w 0) i : Nat) : Int)), v1, v2]) ∧ H' = H) ⟨⟨none, none, rfl⟩, rfl⟩ ?_ ?_
    · rintro i σ H' hi ⟨⟨v1, v2, rfl⟩, rfl⟩
      rw [show (0 : Int) + (i : Nat) = (i : Nat) by omega]
      have bw := mem_at (by omega : i < ws.length) G.wl
      refine ⟨_, rfl, _, rfl, _, rfl, pw, _, _, _, rfl, rfl, SqL.of ew, nV_at hi, _, rfl, _, rfl, pp, _, _, _, rfl, rfl, hpp, nV_at (by omega), _, _, rfl, rfl, .inl ⟨by omega, by omega⟩, _, _, rfl, rfl, ?_⟩
      generalize hA : CI.sg (fun p => ws.getD p 0 * ps.getD p 0) i + CI.sg (fun p => CI.over (ms.getD p 0) os.length (fun w => CI.wt os ks hs w p) (ps.getD p 0) fun w => qs.getD w 0) i = A
      rw [show (fun i j : Int => V.int (i + j)) ((A : Nat) : Int) (((ws.getD i 0 : Nat) : Int) * ((ps.getD i 0 : Nat) : Int)) = V.int ((A + ws.getD i 0 * ps.getD i 0 : Nat) : Int) by show V.int _ = _; rw [Int.natCast_add, Int.natCast_mul]]
      refine ⟨_, rfl, .ref po, os.length, rfl, .inl ⟨_, SqL.of eo, by rw [nV_len]⟩, _, rfl, by omega, by omega, ?_⟩
      rw [Int.toNat_natCast]
      refine for_range (fun j σ H'' => (∃ v2, σ = [some (.ref t), some (.ref pp), some (.ref pq), some (.ref pw), some (.ref po), some (.ref pm), some (.ref pk), some (.ref ph), some (.int ((A + ws.getD i 0 * ps.getD i 0 + CI.over (ms.getD i 0) j (fun w => CI.wt os ks hs w i) (ps.getD i 0) (fun w => qs.getD w 0) : Nat) : Int)), some (.int (i : Nat)), v2]) ∧ H'' = H') ⟨⟨_, rfl⟩, rfl⟩ ?_ ?_
      · rintro j σ H'' hj ⟨⟨v2, rfl⟩, rfl⟩
        rw [show (0 : Int) + (j : Nat) = (j : Nat) by omega]
        generalize hB : A + ws.getD i 0 * ps.getD i 0 = B
        have step : CI.over (ms.getD i 0) (j + 1) (fun w => CI.wt os ks hs w i) (ps.getD i 0) (fun w => qs.getD w 0) = CI.over (ms.getD i 0) j (fun w => CI.wt os ks hs w i) (ps.getD i 0) (fun w => qs.getD w 0) + if (ms.getD i 0).testBit j then CI.wt os ks hs j i - ps.getD i 0 - qs.getD j 0 else 0 := rfl
        refine ⟨_, rfl, _, rfl, _, rfl, pm, ms, j, i, _, rfl, SqL.of em, getD_at (by omega), _, rfl, ite2 (fun h1 => ?_) (fun h1 => ⟨⟨some (.int (j : Nat)), ?_⟩, rfl⟩)⟩
        · refine ⟨_, rfl, _, rfl, _, rfl, _, rfl, t, j, i, ws, os, ms, ks, hs, rfl, ⟨pw, po, pm, pk, ph, et, ew, eo, em, ek, eh⟩, G, by omega, by omega, _, rfl, _, rfl, pp, _, _, _, rfl, rfl, hpp, nV_at (by omega), _, _, rfl, rfl, _, rfl, _, rfl, pq, _, _, _, rfl, rfl, hpq, nV_at (by omega), _, _, rfl, rfl, _, _, rfl, _, _, rfl, rfl, ⟨some (.int (j : Nat)), ?_⟩, rfl⟩
          rw [step, if_pos h1, ← Nat.add_assoc]
          generalize B + CI.over (ms.getD i 0) j (fun w => CI.wt os ks hs w i) (ps.getD i 0) (fun w => qs.getD w 0) = C
          show [_, _, _, _, _, _, _, _, some (V.int (((C : Nat) : Int) + if ((CI.wt os ks hs j i : Nat) : Int) - (ps.getD i 0 : Nat) - (qs.getD j 0 : Nat) > 0 then ((CI.wt os ks hs j i : Nat) : Int) - (ps.getD i 0 : Nat) - (qs.getD j 0 : Nat) else 0)), _, _] = _
          rw [show (((C : Nat) : Int) + if ((CI.wt os ks hs j i : Nat) : Int) - (ps.getD i 0 : Nat) - (qs.getD j 0 : Nat) > 0 then ((CI.wt os ks hs j i : Nat) : Int) - (ps.getD i 0 : Nat) - (qs.getD j 0 : Nat) else 0) = ((C + (CI.wt os ks hs j i - ps.getD i 0 - qs.getD j 0) : Nat) : Int) by split <;> omega]
        · rw [step, if_neg h1]
          rfl
      rintro σ H' ⟨⟨v2, rfl⟩, rfl⟩
      refine ⟨⟨some (.int (i : Nat)), v2, ?_⟩, rfl⟩
      have e : A + ws.getD i 0 * ps.getD i 0 + CI.over (ms.getD i 0) os.length (fun w => CI.wt os ks hs w i) (ps.getD i 0) (fun w => qs.getD w 0) = CI.sg (fun p => ws.getD p 0 * ps.getD p 0) (i + 1) + CI.sg (fun p => CI.over (ms.getD p 0) os.length (fun w => CI.wt os ks hs w p) (ps.getD p 0) fun w => qs.getD w 0) (i + 1) := by
        rw [CI.sg, CI.sg, ← hA]
        generalize ws.getD i 0 * ps.getD i 0 = z
        omega
      rw [← e]
    rintro σ H' ⟨⟨v1, v2, rfl⟩, rfl⟩
    generalize hA : CI.sg (fun p => ws.getD p 0 * ps.getD p 0) ws.length + CI.sg (fun p => CI.over (ms.getD p 0) os.length (fun w => CI.wt os ks hs w p) (ps.getD p 0) fun w => qs.getD w 0) ws.length = A
    refine ⟨_, rfl, .ref po, os.length, rfl, .inl ⟨_, SqL.of eo, by rw [nV_len]⟩, _, rfl, by omega, by omega, ?_⟩
    rw [Int.toNat_natCast]
    refine for_range (fun j σ H'' => (∃ v1 v2, σ = [some (.ref t), some (.ref pp), some (.ref pq), some (.ref pw), some (.ref po), some (.ref pm), some (.ref pk), some (.ref ph), some (.int ((A + CI.sg (fun w => os.getD w 0 * qs.getD w 0) j : Nat) : Int)), v1, v2]) ∧ H'' = H') ⟨⟨_, _, rfl⟩, rfl⟩ ?_ ?_
    · rintro j σ H'' hj ⟨⟨v1, v2, rfl⟩, rfl⟩
      rw [show (0 : Int) + (j : Nat) = (j : Nat) by omega]
      have bo := at_le (by omega : j < os.length) G.ol
      refine ⟨_, rfl, _, rfl, _, rfl, po, _, _, _, rfl, rfl, SqL.of eo, nV_at hj, _, rfl, _, rfl, pq, _, _, _, rfl, rfl, hpq, nV_at (by omega), _, _, rfl, rfl, .inl ⟨by omega, by omega⟩, _, _, rfl, rfl, ⟨v1, some (.int (j : Nat)), ?_⟩, rfl⟩
      rw [CI.sg, ← Nat.add_assoc]
      show [_, _, _, _, _, _, _, _, some (V.int (((A + CI.sg (fun w => os.getD w 0 * qs.getD w 0) j : Nat) : Int) + ((os.getD j 0 : Nat) : Int) * ((qs.getD j 0 : Nat) : Int))), _, _] = _
      rw [← Int.natCast_mul, ← Int.natCast_add]
    rintro σ H'' ⟨⟨v1, v2, rfl⟩, rfl⟩
    refine ⟨_, rfl, ?_⟩
    have e : CI.priced ws os ms (CI.wt os ks hs) ps qs = A + CI.sg (fun w => os.getD w 0 * qs.getD w 0) os.length := by
      unfold CI.priced
      rw [← hA, g3]
      omega
    rw [e] at q
    exact q
def sp_law_drawn (K : PySem.W.Frag) : Sp := fun vs H Q _ => ∃ (c way : Int) (many : Nat) (t : Addr) (ws os ms ks hs : List Nat), vs = [.int c, .int many, .ref t, .int way] ∧ GA H t ws os ms ks hs ∧ CI.Good ws os ms ks hs ∧ many ≤ 63 ∧ (way % 2 = 1 → many ≠ 0 → ks ≠ []) ∧ ∀ H' p ps, H p = none → Same H H' → ps.length = many → H' p = some (.lst (nV ps)) → Q (.ref p) H'
theorem ok_law_drawn {f : Addr} {fd fd_law_mixed fd_law_weight : FuncData} (F : Fun K "_law_drawn" "_law_drawn" s_law_drawn f fd) (T : Txt K mg a)
    (G_law_mixed : FnOk P w K mg base CX0 1 a.law_mixed fd_law_mixed ["_law_cell", "_law_k"] (sp_law_mixed K)) (F_law_mixed : Fun K "_law_mixed" "_law_mixed" s_law_mixed a.law_mixed fd_law_mixed) (b_law_mixed : Binds K fd_law_mixed ["_law_cell", "_law_k"] [])
    (G_law_weight : FnOk P w K mg base CX0 1 a.law_weight fd_law_weight ["_law_ground_here", "_law_work", "_law_place"] (sp_law_weight K)) (F_law_weight : Fun K "_law_weight" "_law_weight" s_law_weight a.law_weight fd_law_weight) (b_law_weight : Binds K fd_law_weight ["_law_ground_here", "_law_work", "_law_place"] []) : FnOk P w K mg base CX0 2 f fd ["_law_cell", "_law_many", "_law_ground_here", "_law_way"] (sp_law_drawn K) := by
  refine F.ok sc_law_drawn (fun vs H Q E h => ?_) (fun cdv A outer s H vs Q E hr h => ?_)
  · obtain ⟨c, way, many, t, ws, os, ms, ks, hs, rfl, _⟩ := h
    rfl
  · obtain ⟨c, way, many, t, ws, os, ms, ks, hs, rfl, GG, G, hm, hk, q⟩ := h
    refine ⟨_, (pss_cons (psN (i := 4) (sc := defScope s_law_drawn) (M := N_law_drawn) rfl rfl (by decide +kernel) (pe_lst pa_nil))
      (pss_cons (ps_for PassesOwn.never rfl (pi_range1 (glR (sc := defScope s_law_drawn) rfl (by decide +kernel)) T.z_range (pa_cons (pvN (i := 1) (sc := defScope s_law_drawn) (M := N_law_drawn) rfl rfl (by decide +kernel)) pa_nil)) (pgN (i := 5) (sc := defScope s_law_drawn) (M := N_law_drawn) rfl rfl (by decide +kernel)) (pss_cons (psN (i := 6) (sc := defScope s_law_drawn) (M := N_law_drawn) rfl rfl (by decide +kernel) (pe_op op_mod (pe_op op_fdiv (pe_callN (sc := defScope s_law_drawn) G_law_mixed (hr.mono (by decide)) rfl (by decide +kernel) T.m_law_mixed F_law_mixed.kp b_law_mixed .nil pass0 (pa_cons (pvN (i := 0) (sc := defScope s_law_drawn) (M := N_law_drawn) rfl rfl (by decide +kernel)) (pa_cons (pvN (i := 5) (sc := defScope s_law_drawn) (M := N_law_drawn) rfl rfl (by decide +kernel)) pa_nil))) pe_int) pe_int))
      (pss_cut (ps_if (pt_cmpR op_eq (pe_op op_mod (pvN (i := 3) (sc := defScope s_law_drawn) (M := N_law_drawn) rfl rfl (by decide +kernel)) pe_int) pe_int (nomark _)) (pss_one (psN (i := 6) (sc := defScope s_law_drawn) (M := N_law_drawn) rfl rfl (by decide +kernel) (pe_op op_mod (pe_op op_pow (pe_callN (sc := defScope s_law_drawn) G_law_mixed (hr.mono (by decide)) rfl (by decide +kernel) T.m_law_mixed F_law_mixed.kp b_law_mixed .nil pass0 (pa_cons (pvN (i := 0) (sc := defScope s_law_drawn) (M := N_law_drawn) rfl rfl (by decide +kernel)) (pa_cons (pvN (i := 5) (sc := defScope s_law_drawn) (M := N_law_drawn) rfl rfl (by decide +kernel)) pa_nil))) pe_int) (pe_op op_add pe_int (pe_callN (sc := defScope s_law_drawn) G_law_weight (hr.mono (by decide)) rfl (by decide +kernel) T.m_law_weight F_law_weight.kp b_law_weight .nil pass0 (pa_cons (pvN (i := 2) (sc := defScope s_law_drawn) (M := N_law_drawn) rfl rfl (by decide +kernel)) (pa_cons pe_int (pa_cons pe_int pa_nil)))))))) pss_nil)
      (pss_one (ps_expr (pe_bm PySem.F.plainAttrs_list PySem.F.slot_list_append PySem.F.type_list_append mt_append (pvN (i := 4) (sc := defScope s_law_drawn) (M := N_law_drawn) rfl rfl (by decide +kernel)) (pa_cons (pvN (i := 6) (sc := defScope s_law_drawn) (M := N_law_drawn) rfl rfl (by decide +kernel)) pa_nil)))))))
      (pss_one (ps_ret (pvN (i := 4) (sc := defScope s_law_drawn) (M := N_law_drawn) rfl rfl (by decide +kernel)))))), ?_⟩
    have hs' : sizeLine = 16777216 := sizeLine_eq
    have g4 := G.lh
    have g5 := G.one
    refine ⟨by first | decide | (simp only [List.length_cons, List.length_nil, List.length_append, List.length_map]; decide), fun pf hpf => ?_⟩
    have s1 := Same.upd0 (o := .lst []) hpf
    have e1 : upd H pf (.lst []) pf = some (.lst (nV [])) := upd_same
    generalize upd H pf (.lst []) = H1 at s1 e1 ⊢
    refine ⟨_, rfl, _, rfl, by omega, by omega, ?_⟩
    rw [Int.toNat_natCast]
    refine for_range (fun i σ H' => (∃ v1 v2, σ = [some (.int c), some (.int (many : Nat)), some (.ref t), some (.int way), some (.ref pf), v1, v2]) ∧ Same H H' ∧ ∃ ps : List Nat, ps.length = i ∧ H' pf = some (.lst (nV ps))) ⟨⟨_, _, rfl⟩, s1, [], rfl, e1⟩ ?_ ?_
    · rintro i σ H2 hi ⟨⟨v1, v2, rfl⟩, s2, ps, lp, e2⟩
      rw [show (0 : Int) + (i : Nat) = (i : Nat) by omega]
      refine ⟨_, rfl, _, rfl, _, _, rfl, by omega, by omega, _, _, rfl, rfl, ⟨by decide, by decide⟩, _, _, rfl, rfl, (by show (0 : Int) < 7; decide), ?_⟩
      refine ⟨fun σ' H' => (∃ y : Nat, σ' = [some (.int c), some (.int (many : Nat)), some (.ref t), some (.int way), some (.ref pf), some (.int (i : Nat)), some (.int (y : Nat))]) ∧ H' = H2, ?_, ?_⟩
      · refine ⟨_, rfl, _, _, rfl, rfl, (by show (0 : Int) < 2; decide), rfl, _, rfl, ite2 (fun h1 => ?_) (fun h1 => ⟨⟨(mixZ c i / 3 % 7).toNat, ?_⟩, rfl⟩)⟩
        · have h1' : way % 2 = 1 := V.int.inj (of_decide_eq_true h1)
          have hkne := hk h1' (by omega)
          have m0 := mix0 c i
          have m1 := mix1 c i
          refine ⟨_, rfl, _, rfl, _, _, rfl, by omega, by omega, _, _, rfl, rfl, ⟨by decide, by decide, by omega⟩, _, rfl, t, 0, 0, ws, os, ms, ks, hs, rfl, GG.up s2, G, List.length_pos_iff.mpr hkne, by omega, _, _, rfl, rfl, _, _, rfl, rfl, (by omega), ⟨(mixZ c i ^ 7 % (2 + (CI.wt os ks hs 0 0 : Nat))).toNat, ?_⟩, rfl⟩
          have : (0 : Int) ≤ mixZ c i ^ 7 % (2 + (CI.wt os ks hs 0 0 : Nat)) := Int.emod_nonneg _ (by omega)
          rw [Int.toNat_of_nonneg this]
          rfl
        · have : (0 : Int) ≤ mixZ c i / 3 % 7 := Int.emod_nonneg _ (by decide)
          rw [Int.toNat_of_nonneg this]
          rfl
      rintro σ' H2' ⟨⟨y, rfl⟩, rfl⟩
      refine ⟨_, rfl, .inl ⟨rfl, _, SqL.of e2⟩, _, rfl, pf, _, _, rfl, rfl, e2, by rw [nV_len]; omega, ⟨_, _, rfl⟩, same_set s2 hpf, ps ++ [y], by rw [List.length_append, lp]; rfl, ?_⟩
      rw [upd_same, nV_snoc]
    rintro σ H2 ⟨⟨v1, v2, rfl⟩, s2, ps, lp, e2⟩
    exact ⟨_, rfl, q H2 pf ps hpf s2 lp e2⟩
def rowsD (W : List (List Nat)) : List PyData := W.map fun r => PyData.list (nD r)
theorem els_data {K : PySem.W.Frag} {H : Hp} : ∀ {W : List (List Nat)} {zs : List V}, Els NL H zs W → DataAll K H zs (rowsD W)
  | [], [], _ => DataAll.nil
  | [], _ :: _, h => by cases h.1
  | _ :: _, [], h => by cases h.1
  | r :: W, z :: zs, h => by
    obtain ⟨p, rfl, e⟩ := h.2 0 z r rfl rfl
    exact DataAll.cons (nat_list e) (els_data ⟨Nat.succ.inj h.1, fun i v a h1 h2 => h.2 (i + 1) v a h1 h2⟩)
theorem rows_lay : ∀ W : List (List Nat), PyData.canLayAll0 (rowsD W) = true ∧ PyData.depthAll (rowsD W) ≤ 1
  | [] => ⟨rfl, Nat.zero_le _⟩
  | r :: W => by
    obtain ⟨h1, h2⟩ := rows_lay W
    refine ⟨show ((PyData.list (nD r)).canLay0 && PyData.canLayAll0 (rowsD W)) = true by rw [nat_lay' r, h1]; rfl, ?_⟩
    show max (PyData.list (nD r)).depth (PyData.depthAll (rowsD W)) ≤ 1
    have : (PyData.list (nD r)).depth = PyData.depthAll (nD r) + 1 := rfl
    rw [this, (nat_lay r).2]
    omega
theorem rows_lay' (W : List (List Nat)) : (PyData.list (rowsD W)).canLay0 = true := (rows_lay W).1
theorem rows_depth (W : List (List Nat)) (d : PyData) : min (PyData.list (rowsD W)).depth d.depth ≤ 60 := by
  have : (PyData.list (rowsD W)).depth = PyData.depthAll (rowsD W) + 1 := rfl
  have h := (rows_lay W).2
  rw [this]
  omega
theorem three_lay (a b c : List Nat) : (PyData.list [.list (nD a), .list (nD b), .list (nD c)]).canLay0 = true ∧ min (PyData.list [.list (nD a), .list (nD b), .list (nD c)]).depth (PyData.list [.list (nD a), .list (nD b), .list (nD c)]).depth ≤ 60 := by
  have ha := nat_lay a
  have hb := nat_lay b
  have hc := nat_lay c
  constructor
  · simp [PyData.canLay0, PyData.canLayAll0, ha.1, hb.1, hc.1]
  · simp [PyData.depth, PyData.depthAll, ha.2, hb.2, hc.2]
theorem two_lay (a b : List Nat) (W : List (List Nat)) : (PyData.list [.list (nD a), .list (nD b), .list (rowsD W)]).canLay0 = true ∧ min (PyData.list [.list (nD a), .list (nD b), .list (rowsD W)]).depth (PyData.list [.list (nD a), .list (nD b), .list (rowsD W)]).depth ≤ 60 := by
  have ha := nat_lay a
  have hb := nat_lay b
  have hc := rows_lay W
  constructor
  · simp [PyData.canLay0, PyData.canLayAll0, ha.1, hb.1, hc.1]
  · simp [PyData.depth, PyData.depthAll, ha.2, hb.2]
    omega
theorem lst_ty {H : Hp} {p : Addr} {xs : List V} (h : H p = some (.lst xs)) : tyName K H (.ref p) "list" := .inl ⟨rfl, .inl ⟨_, h⟩⟩
def sp_law_weights_stand (K : PySem.W.Frag) : Sp := fun vs H Q _ => ∃ (t : Addr) (ws os ms ks hs : List Nat), vs = [.ref t] ∧ GA H t ws os ms ks hs ∧ CI.Good ws os ms ks hs ∧ ∀ H', Same H H' → Q (.bl true) H'
theorem ok_law_weights_stand {f : Addr} {fd fd_law_weight fd_weights_of : FuncData} (F : Fun K "_law_weights_stand" "_law_weights_stand" s_law_weights_stand f fd) (T : Txt K mg a)
    (G_law_weight : FnOk P w K mg base CX0 1 a.law_weight fd_law_weight ["_law_ground_here", "_law_work", "_law_place"] (sp_law_weight K)) (F_law_weight : Fun K "_law_weight" "_law_weight" s_law_weight a.law_weight fd_law_weight) (b_law_weight : Binds K fd_law_weight ["_law_ground_here", "_law_work", "_law_place"] [])
    (G_weights_of : FnOk P w K mg base CX0 2 a.weights_of fd_weights_of ["oftens", "marks", "worths"] (sp_weights_of K)) (F_weights_of : Fun K "weights_of" "weights_of" s_weights_of a.weights_of fd_weights_of) (b_weights_of : Binds K fd_weights_of ["oftens", "marks", "worths"] []) : FnOk P w K mg base CX0 3 f fd ["_law_ground_here"] (sp_law_weights_stand K) := by
  refine F.ok sc_law_weights_stand (fun vs H Q E h => ?_) (fun cdv A outer s H vs Q E hr h => ?_)
  · obtain ⟨t, ws, os, ms, ks, hs, rfl, _⟩ := h
    rfl
  · obtain ⟨t, ws, os, ms, ks, hs, rfl, ⟨pw, po, pm, pk, ph, et, ew, eo, em, ek, eh⟩, G, q⟩ := h
    refine ⟨_, (pss_cons (ps_asg (pvN (i := 0) (sc := defScope s_law_weights_stand) (M := N_law_weights_stand) rfl rfl (by decide +kernel)) (pg_tup (n := 5) (by rfl) (pgs_cons (pgN (i := 1) (sc := defScope s_law_weights_stand) (M := N_law_weights_stand) rfl rfl (by decide +kernel)) (pgs_cons (pgN (i := 2) (sc := defScope s_law_weights_stand) (M := N_law_weights_stand) rfl rfl (by decide +kernel)) (pgs_cons (pgN (i := 3) (sc := defScope s_law_weights_stand) (M := N_law_weights_stand) rfl rfl (by decide +kernel)) (pgs_cons (pgN (i := 4) (sc := defScope s_law_weights_stand) (M := N_law_weights_stand) rfl rfl (by decide +kernel)) (pgs_cons (pgN (i := 5) (sc := defScope s_law_weights_stand) (M := N_law_weights_stand) rfl rfl (by decide +kernel)) pgs_nil)))))))
      (pss_cons (psN (i := 6) (sc := defScope s_law_weights_stand) (M := N_law_weights_stand) rfl rfl (by decide +kernel) (pe_lst (pa_cons (pe_callTyN (sc := defScope s_law_weights_stand) call_list_of rfl (by decide +kernel) T.z_list bt_list (pa_cons (pvN (i := 2) (sc := defScope s_law_weights_stand) (M := N_law_weights_stand) rfl rfl (by decide +kernel)) pa_nil)) (pa_cons (pe_callTyN (sc := defScope s_law_weights_stand) call_list_of rfl (by decide +kernel) T.z_list bt_list (pa_cons (pvN (i := 4) (sc := defScope s_law_weights_stand) (M := N_law_weights_stand) rfl rfl (by decide +kernel)) pa_nil)) (pa_cons (pe_callTyN (sc := defScope s_law_weights_stand) call_list_of rfl (by decide +kernel) T.z_list bt_list (pa_cons (pvN (i := 5) (sc := defScope s_law_weights_stand) (M := N_law_weights_stand) rfl rfl (by decide +kernel)) pa_nil)) pa_nil)))))
      (pss_cons (psN (i := 7) (sc := defScope s_law_weights_stand) (M := N_law_weights_stand) rfl rfl (by decide +kernel) (pe_callN (sc := defScope s_law_weights_stand) G_weights_of (hr.mono (by decide)) rfl (by decide +kernel) T.m_weights_of F_weights_of.kp b_weights_of .nil pass0 (pa_cons (pe_ix ix_list (pvN (i := 6) (sc := defScope s_law_weights_stand) (M := N_law_weights_stand) rfl rfl (by decide +kernel)) pe_int (fun _ _ => rfl)) (pa_cons (pe_ix ix_list (pvN (i := 6) (sc := defScope s_law_weights_stand) (M := N_law_weights_stand) rfl rfl (by decide +kernel)) pe_int (fun _ _ => rfl)) (pa_cons (pe_ix ix_list (pvN (i := 6) (sc := defScope s_law_weights_stand) (M := N_law_weights_stand) rfl rfl (by decide +kernel)) pe_int (fun _ _ => rfl)) pa_nil)))))
      (pss_cons (ps_if (PW.pt (pw_or (pt_cmpR (op_neD (n := 60) (hu60 hr)) (pvN (i := 6) (sc := defScope s_law_weights_stand) (M := N_law_weights_stand) rfl rfl (by decide +kernel)) (pe_lst (pa_cons (pvN (i := 2) (sc := defScope s_law_weights_stand) (M := N_law_weights_stand) rfl rfl (by decide +kernel)) (pa_cons (pvN (i := 4) (sc := defScope s_law_weights_stand) (M := N_law_weights_stand) rfl rfl (by decide +kernel)) (pa_cons (pvN (i := 5) (sc := defScope s_law_weights_stand) (M := N_law_weights_stand) rfl rfl (by decide +kernel)) pa_nil)))) (nomark _)) (pw_or (pt_not (pt_val (pe_callBN (sc := defScope s_law_weights_stand) call_isi rfl (by decide +kernel) T.z_isinstance bt_isinstance (pa_cons (pvN (i := 7) (sc := defScope s_law_weights_stand) (M := N_law_weights_stand) rfl rfl (by decide +kernel)) (pa_cons (pe_bltN (v := V.ty "list") (sc := defScope s_law_weights_stand) rfl (by decide +kernel) T.z_list bt_list rfl) pa_nil))))) (pw_or1 (pt_cmpR op_ne (pe_callBN (sc := defScope s_law_weights_stand) call_len rfl (by decide +kernel) T.z_len bt_len (pa_cons (pvN (i := 7) (sc := defScope s_law_weights_stand) (M := N_law_weights_stand) rfl rfl (by decide +kernel)) pa_nil)) (pe_callBN (sc := defScope s_law_weights_stand) call_len rfl (by decide +kernel) T.z_len bt_len (pa_cons (pvN (i := 4) (sc := defScope s_law_weights_stand) (M := N_law_weights_stand) rfl rfl (by decide +kernel)) pa_nil)) (nomark _)))))) (pss_one (ps_ret pe_bl)) pss_nil)
      (pss_cons (ps_for PassesOwn.never rfl (pi_range1 (glR (sc := defScope s_law_weights_stand) rfl (by decide +kernel)) T.z_range (pa_cons (pe_callBN (sc := defScope s_law_weights_stand) call_len rfl (by decide +kernel) T.z_len bt_len (pa_cons (pvN (i := 4) (sc := defScope s_law_weights_stand) (M := N_law_weights_stand) rfl rfl (by decide +kernel)) pa_nil)) pa_nil)) (pgN (i := 8) (sc := defScope s_law_weights_stand) (M := N_law_weights_stand) rfl rfl (by decide +kernel)) (pss_cons (ps_if (PW.pt (pw_or (pt_not (pt_val (pe_callBN (sc := defScope s_law_weights_stand) call_isi rfl (by decide +kernel) T.z_isinstance bt_isinstance (pa_cons (pe_ix ix_list (pvN (i := 7) (sc := defScope s_law_weights_stand) (M := N_law_weights_stand) rfl rfl (by decide +kernel)) (pvN (i := 8) (sc := defScope s_law_weights_stand) (M := N_law_weights_stand) rfl rfl (by decide +kernel)) (fun _ _ => rfl)) (pa_cons (pe_bltN (v := V.ty "list") (sc := defScope s_law_weights_stand) rfl (by decide +kernel) T.z_list bt_list rfl) pa_nil))))) (pw_or1 (pt_cmpR op_ne (pe_callBN (sc := defScope s_law_weights_stand) call_len rfl (by decide +kernel) T.z_len bt_len (pa_cons (pe_ix ix_list (pvN (i := 7) (sc := defScope s_law_weights_stand) (M := N_law_weights_stand) rfl rfl (by decide +kernel)) (pvN (i := 8) (sc := defScope s_law_weights_stand) (M := N_law_weights_stand) rfl rfl (by decide +kernel)) (fun _ _ => rfl)) pa_nil)) (pe_callBN (sc := defScope s_law_weights_stand) call_len rfl (by decide +kernel) T.z_len bt_len (pa_cons (pvN (i := 5) (sc := defScope s_law_weights_stand) (M := N_law_weights_stand) rfl rfl (by decide +kernel)) pa_nil)) (nomark _))))) (pss_one (ps_ret pe_bl)) pss_nil)
      (pss_one (ps_for PassesOwn.never rfl (pi_range1 (glR (sc := defScope s_law_weights_stand) rfl (by decide +kernel)) T.z_range (pa_cons (pe_callBN (sc := defScope s_law_weights_stand) call_len rfl (by decide +kernel) T.z_len bt_len (pa_cons (pvN (i := 5) (sc := defScope s_law_weights_stand) (M := N_law_weights_stand) rfl rfl (by decide +kernel)) pa_nil)) pa_nil)) (pgN (i := 9) (sc := defScope s_law_weights_stand) (M := N_law_weights_stand) rfl rfl (by decide +kernel)) (pss_cons (psN (i := 10) (sc := defScope s_law_weights_stand) (M := N_law_weights_stand) rfl rfl (by decide +kernel) (pe_ix ix_list (pe_ix ix_list (pvN (i := 7) (sc := defScope s_law_weights_stand) (M := N_law_weights_stand) rfl rfl (by decide +kernel)) (pvN (i := 8) (sc := defScope s_law_weights_stand) (M := N_law_weights_stand) rfl rfl (by decide +kernel)) (fun _ _ => rfl)) (pvN (i := 9) (sc := defScope s_law_weights_stand) (M := N_law_weights_stand) rfl rfl (by decide +kernel)) (fun _ _ => rfl)))
      (pss_one (ps_if (PW.pt (pw_or (pt_not (pt_val (pe_callBN (sc := defScope s_law_weights_stand) call_isi rfl (by decide +kernel) T.z_isinstance bt_isinstance (pa_cons (pvN (i := 10) (sc := defScope s_law_weights_stand) (M := N_law_weights_stand) rfl rfl (by decide +kernel)) (pa_cons (pe_bltN (v := V.ty "int") (sc := defScope s_law_weights_stand) rfl (by decide +kernel) T.z_int bt_int rfl) pa_nil))))) (pw_or1 (pt_cmpR op_ne (pvN (i := 10) (sc := defScope s_law_weights_stand) (M := N_law_weights_stand) rfl rfl (by decide +kernel)) (pe_callN (sc := defScope s_law_weights_stand) G_law_weight (hr.mono (by decide)) rfl (by decide +kernel) T.m_law_weight F_law_weight.kp b_law_weight .nil pass0 (pa_cons (pvN (i := 0) (sc := defScope s_law_weights_stand) (M := N_law_weights_stand) rfl rfl (by decide +kernel)) (pa_cons (pvN (i := 8) (sc := defScope s_law_weights_stand) (M := N_law_weights_stand) rfl rfl (by decide +kernel)) (pa_cons (pvN (i := 9) (sc := defScope s_law_weights_stand) (M := N_law_weights_stand) rfl rfl (by decide +kernel)) pa_nil)))) (nomark _))))) (pss_one (ps_ret pe_bl)) pss_nil)))))))
      (pss_one (ps_ret (pe_cmpR (op_eqD (n := 60) (hu60 hr)) (pe_callN (sc := defScope s_law_weights_stand) G_weights_of (hr.mono (by decide)) rfl (by decide +kernel) T.m_weights_of F_weights_of.kp b_weights_of .nil pass0 (pa_cons (pvN (i := 2) (sc := defScope s_law_weights_stand) (M := N_law_weights_stand) rfl rfl (by decide +kernel)) (pa_cons (pvN (i := 4) (sc := defScope s_law_weights_stand) (M := N_law_weights_stand) rfl rfl (by decide +kernel)) (pa_cons (pe_lst pa_nil) pa_nil)))) (pe_comp rfl (N := ["_law_mark"]) (own := 1) (js := []) (X := (cxOf CX0 P w K mg base N_law_weights_stand "_law_weights_stand" (defScope s_law_weights_stand) f cdv A outer s H E).nox) (compOk (defScope s_law_weights_stand) N_law_weights_stand rfl rfl (by decide +kernel)) (pi_list (pvN (i := 4) (sc := defScope s_law_weights_stand) (M := N_law_weights_stand) rfl rfl (by decide +kernel))) (fun fp0 sx0 Hx0 => (pgN (i := 0) (sc := relabelS _ (defScope s_law_weights_stand)) (M := ["_law_mark"]) rfl rfl (by decide +kernel))) (fun fp0 sx0 Hx0 => pifs_nil) (fun fp0 sx0 Hx0 => (pe_lst pa_nil))) (nomark _))))))))), ?_⟩
    have hs' : sizeLine = 16777216 := sizeLine_eq
    have g1 := G.lk
    have g2 := G.many
    have g3 := G.lm
    have g4 := G.lh
    have g5 := G.four
    have bo : ∀ o ∈ os, o ≤ 1000 := fun o ho => by have := (G.ol o ho).2; omega
    have bh : ∀ o ∈ hs, o ≤ 1000 := fun o ho => by have := (G.hl o ho).2; omega
    refine ⟨_, rfl, t, _, rfl, SqT.of et, rfl, _, _, rfl, _, _, rfl, _, _, rfl, _, _, rfl, _, _, rfl, rfl, ?_⟩
    refine ⟨_, rfl, po, _, rfl, .inl (SqL.of eo), fun a1 h1 => ?_⟩
    have t1 := Same.upd0 (o := .lst (nV os)) h1
    have f1 : upd H a1 (.lst (nV os)) a1 = some (.lst (nV os)) := upd_same
    generalize upd H a1 (.lst (nV os)) = H1 at t1 f1 ⊢
    refine ⟨_, rfl, pk, _, rfl, .inl (SqL.of (t1 _ _ ek)), fun a2 h2 => ?_⟩
    have t2 := t1.trans (Same.upd0 (o := .lst (nV ks)) h2)
    have f1 := Same.upd0 (o := .lst (nV ks)) h2 _ _ f1
    have f2 : upd H1 a2 (.lst (nV ks)) a2 = some (.lst (nV ks)) := upd_same
    generalize upd H1 a2 (.lst (nV ks)) = H2 at t2 f1 f2 ⊢
    refine ⟨_, rfl, ph, _, rfl, .inl (SqL.of (t2 _ _ eh)), fun a3 h3 => ?_⟩
    have t3 := t2.trans (Same.upd0 (o := .lst (nV hs)) h3)
    have f1 := Same.upd0 (o := .lst (nV hs)) h3 _ _ f1
    have f2 := Same.upd0 (o := .lst (nV hs)) h3 _ _ f2
    have f3 : upd H2 a3 (.lst (nV hs)) a3 = some (.lst (nV hs)) := upd_same
    generalize upd H2 a3 (.lst (nV hs)) = H3 at t3 f1 f2 f3 ⊢
    refine ⟨by first | decide | (simp only [List.length_cons, List.length_nil, List.length_append, List.length_map]; decide), fun pa hpa => ?_⟩
    have t4 := t3.trans (Same.upd0 (o := .lst [.ref a1, .ref a2, .ref a3]) hpa)
    have f1 := Same.upd0 (o := .lst [.ref a1, .ref a2, .ref a3]) hpa _ _ f1
    have f2 := Same.upd0 (o := .lst [.ref a1, .ref a2, .ref a3]) hpa _ _ f2
    have f3 := Same.upd0 (o := .lst [.ref a1, .ref a2, .ref a3]) hpa _ _ f3
    have f4 : upd H3 pa (.lst [.ref a1, .ref a2, .ref a3]) pa = some (.lst [.ref a1, .ref a2, .ref a3]) := upd_same
    generalize upd H3 pa (.lst [.ref a1, .ref a2, .ref a3]) = H4 at t4 f1 f2 f3 f4 ⊢
    clear t1 t2 t3 h1 h2 h3 hpa
    refine ⟨_, rfl, pa, _, _, _, rfl, rfl, SqL.of f4, rfl, _, rfl, pa, _, _, _, rfl, rfl, SqL.of f4, rfl, _, rfl, pa, _, _, _, rfl, rfl, SqL.of f4, rfl, ?_⟩
    refine ⟨a1, a2, a3, os, ks, hs, rfl, SqL.of f1, SqL.of f2, SqL.of f3, g1, by omega, by omega, bo, bh, fun H5 pW zs u5 eW hE _ => ?_⟩
    have t5 := t4.trans u5
    have f1 := u5 _ _ f1
    have f2 := u5 _ _ f2
    have f3 := u5 _ _ f3
    have f4 := u5 _ _ f4
    clear u5 t4
    refine ⟨_, rfl, _, rfl, _, rfl, _, rfl, by first | decide | (simp only [List.length_cons, List.length_nil, List.length_append, List.length_map]; decide), fun pb hpb => ?_⟩
    have u6 := Same.upd0 (o := .lst [.ref po, .ref pk, .ref ph]) hpb
    have t6 := t5.trans u6
    have f6 : upd H5 pb (.lst [.ref po, .ref pk, .ref ph]) pb = some (.lst [.ref po, .ref pk, .ref ph]) := upd_same
    have f1 := u6 _ _ f1
    have f2 := u6 _ _ f2
    have f3 := u6 _ _ f3
    have f4 := u6 _ _ f4
    have eW := u6 _ _ eW
    have hE := hE.up fun v a => NL.up u6
    generalize upd H5 pb (.lst [.ref po, .ref pk, .ref ph]) = H6 at t6 f1 f2 f3 f4 f6 eW hE u6 ⊢
    have da : DataAt K H6 (.ref pa) (.list [.list (nD os), .list (nD ks), .list (nD hs)]) := DataAt.mkL (D := H6) (DataAll.cons (nat_list f1) (DataAll.cons (nat_list f2) (DataAll.cons (nat_list f3) DataAll.nil))) f4 (Same.refl _)
    have db : DataAt K H6 (.ref pb) (.list [.list (nD os), .list (nD ks), .list (nD hs)]) := DataAt.mkL (D := H6) (DataAll.cons (nat_list (t6 _ _ eo)) (DataAll.cons (nat_list (t6 _ _ ek)) (DataAll.cons (nat_list (t6 _ _ eh)) DataAll.nil))) f6 (Same.refl _)
    have hlay := three_lay os ks hs
    refine ⟨_, _, da, db, hlay.1, hlay.1, hlay.2, _, rfl, ?_⟩
    rw [SeqAt.eqv_refl _ hlay.1]
    refine iteF ⟨_, rfl, _, "list", "list", true, rfl, (lst_ty eW), kit_list_list _, _, rfl, iteF ?_⟩
    refine ⟨_, rfl, .ref pW, ks.length, rfl, .inl ⟨_, SqL.of eW, by rw [hE.1, CI.rows_len]⟩, _, rfl, .ref pk, ks.length, rfl, .inl ⟨_, SqL.of (t6 _ _ ek), by rw [nV_len]⟩, rfl, _, rfl, iteNS rfl ?_⟩
    refine ⟨_, rfl, .ref pk, ks.length, rfl, .inl ⟨_, SqL.of (t6 _ _ ek), by rw [nV_len]⟩, _, rfl, by omega, by omega, ?_⟩
    rw [Int.toNat_natCast]
    refine for_range (fun i σ H' => (∃ v1 v2 v3, σ = [some (.ref t), some (.ref pw), some (.ref po), some (.ref pm), some (.ref pk), some (.ref ph), some (.ref pa), some (.ref pW), v1, v2, v3]) ∧ H' = H6) ⟨⟨_, _, _, rfl⟩, rfl⟩ ?_ ?_
    · rintro i σ H' hi ⟨⟨v1, v2, v3, rfl⟩, rfl⟩
      rw [show (0 : Int) + (i : Nat) = (i : Nat) by omega]
      obtain ⟨v, hv, pr, rfl, er⟩ := hE.at_ (CI.rows_at hi)
      refine ⟨_, rfl, _, rfl, pW, _, _, _, rfl, rfl, SqL.of eW, atI_nat hv, _, "list", "list", true, rfl, (lst_ty er), kit_list_list _, _, rfl, iteF ?_⟩
      refine ⟨_, rfl, _, rfl, pW, _, _, _, rfl, rfl, SqL.of eW, atI_nat hv, .ref pr, hs.length, rfl, .inl ⟨_, SqL.of er, by rw [nV_len, CI.row_len]⟩, _, rfl, .ref ph, hs.length, rfl, .inl ⟨_, SqL.of (t6 _ _ eh), by rw [nV_len]⟩, rfl, _, rfl, iteNS rfl ?_⟩
      refine ⟨_, rfl, .ref ph, hs.length, rfl, .inl ⟨_, SqL.of (t6 _ _ eh), by rw [nV_len]⟩, _, rfl, by omega, by omega, ?_⟩
      rw [Int.toNat_natCast]
      refine for_range (fun j σ H'' => (∃ v2 v3, σ = [some (.ref t), some (.ref pw), some (.ref po), some (.ref pm), some (.ref pk), some (.ref ph), some (.ref pa), some (.ref pW), some (.int (i : Nat)), v2, v3]) ∧ H'' = H') ⟨⟨_, _, rfl⟩, rfl⟩ ?_ ?_
      · rintro j σ H'' hj ⟨⟨v2, v3, rfl⟩, rfl⟩
        rw [show (0 : Int) + (j : Nat) = (j : Nat) by omega]
        have hat : atI (nV (CI.row os ks hs i)) ((j : Nat) : Int) = some (.int (CI.wt os ks hs i j : Nat)) := atI_nat (by unfold nV; rw [List.getElem?_map, CI.row_at hj]; rfl)
        refine ⟨_, rfl, _, rfl, pW, _, _, _, rfl, rfl, SqL.of eW, atI_nat hv, _, rfl, pr, _, _, _, rfl, rfl, SqL.of er, hat, ?_⟩
        refine ⟨_, rfl, _, "int", "int", true, rfl, rfl, kit_int_int _, _, rfl, iteF ?_⟩
        refine ⟨_, rfl, _, rfl, _, rfl, _, rfl, t, i, j, ws, os, ms, ks, hs, rfl, (show GA _ _ _ _ _ _ _ from ⟨pw, po, pm, pk, ph, t6 _ _ et, t6 _ _ ew, t6 _ _ eo, t6 _ _ em, t6 _ _ ek, t6 _ _ eh⟩), G, hi, hj, rfl, _, rfl, iteNS rfl ⟨⟨_, _, rfl⟩, rfl⟩⟩
      rintro σ H'' ⟨⟨v2, v3, rfl⟩, rfl⟩
      exact ⟨⟨_, _, _, rfl⟩, rfl⟩
    rintro σ H7 ⟨⟨v1, v2, v3, rfl⟩, rfl⟩
    refine ⟨_, rfl, _, rfl, by first | decide | (simp only [List.length_cons, List.length_nil, List.length_append, List.length_map]; decide), fun pe hpe => ?_⟩
    have u8 := t6.trans (Same.upd0 (o := .lst []) hpe)
    have f8 : upd H7 pe (.lst []) pe = some (.lst (nV [])) := upd_same
    generalize upd H7 pe (.lst []) = H8 at u8 f8 ⊢
    refine ⟨po, pk, pe, os, ks, [], rfl, SqL.of (u8 _ _ eo), SqL.of (u8 _ _ ek), SqL.of f8, g1, by omega, by decide, bo, (fun _ h => nomatch h), fun H9 pX ys u9 eX hF _ => ?_⟩
    refine ⟨_, rfl, pk, rfl, ⟨_, (u8.trans u9).seq (SqL.of ek)⟩, fun c hc => ?_⟩
    refine comp_els (Pd := NL) (fun s h => h.up s) (Same.refl H9) hc yields_list (fun σ => ∃ v, σ = [v]) (CI.rows os ks []) (by rw [CI.rows_len, nV_len]) ⟨_, rfl⟩ (fun H' s' => SqL.of (((u8.trans u9).trans s') _ _ ek)) (by rw [nV_len]; omega) ?_ ?_
    · rintro i x r σ D1 Ha R1 R0 hx hr ⟨v, rfl⟩ Gr1 k1
      have hr' : r = [] := by
        obtain ⟨k, _, rfl⟩ := List.mem_map.mp (List.mem_of_getElem? hr)
        rfl
      subst hr'
      refine ⟨by first | decide | (simp only [List.length_cons, List.length_nil, List.length_append, List.length_map]; decide), fun pn hpn => ?_⟩
      exact k1 _ _ _ _ ⟨_, rfl⟩ (Gr.lay Gr1.dh hpn) ⟨pn, rfl, upd_same⟩
    intro D' Ha ws' Gr1 ec _ hG
    have u10 : Same H9 Ha := Gr1.hh
    have dX : DataAt K Ha (.ref pX) (.list (rowsD (CI.rows os ks []))) := DataAt.mkL (D := Ha) (els_data (hF.up fun v a => NL.up u10)) (u10 _ _ eX) (Same.refl _)
    have dc : DataAt K Ha (.ref c) (.list (rowsD (CI.rows os ks []))) := DataAt.mkL (D := Ha) (els_data (hG.up fun v a => NL.up Gr1.dh)) ec (Same.refl _)
    refine ⟨_, _, dX, dc, rows_lay' _, rows_lay' _, rows_depth _ _, ?_⟩
    rw [SeqAt.eqv_refl _ (rows_lay' _)]
    exact q _ ((u8.trans u9).trans u10)
theorem eq_none (ks : List Nat) : PyData.eqv (.list (nD ks)) (.list []) = decide (ks = []) := by
  cases ks with
  | nil => rfl
  | cons a r => rfl
theorem ite_both {b : Bool} {A B R : Prop} (h1 : R → b = true → A) (h2 : R → ¬ b = true → B) (r : R) : if b = true then A else B := by
  by_cases h : b = true
  · rw [if_pos h]; exact h1 r h
  · rw [if_neg h]; exact h2 r h
theorem priced_rows {ws os ms ks hs ps qs : List Nat} (G : CI.Good ws os ms ks hs) : CI.priced ws os ms (fun w p => ((CI.rows os ks hs).getD w []).getD p 0) ps qs = CI.priced ws os ms (CI.wt os ks hs) ps qs := by
  unfold CI.priced
  congr 1
  refine CI.sg_congr fun p hp => CI.sg_congr fun w hw => ?_
  have g1 := G.lk
  have g3 := G.lm
  have g4 := G.lh
  have e : ((CI.rows os ks hs).getD w []).getD p 0 = CI.wt os ks hs w p := by
    rw [List.getD_eq_getElem?_getD (l := CI.rows os ks hs), CI.rows_at (by omega)]
    exact CI.row_get (by omega)
  dsimp only
  rw [e]
theorem priced_none : CI.priced [] [] [] (fun w p => (([] : List (List Nat)).getD w []).getD p 0) [] [] = 0 := rfl
def sp_law (K : PySem.W.Frag) : Sp := fun vs H Q _ => ∃ (a : Addr) (ns : List Int), vs = [.ref a] ∧ SqL K H a (ns.map V.int) ∧ ns.length ≤ 63 ∧ ∀ H', Q (.bl true) H'
theorem ok_law {f : Addr} {fd fd_law_cell_at fd_law_drawn fd_law_ground fd_law_mixed fd_law_priced fd_law_weights_stand fd_priced fd_weights_of : FuncData} (F : Fun K "law" "law" s_law f fd) (T : Txt K mg a)
    (G_law_cell_at : FnOk P w K mg base CX0 1 a.law_cell_at fd_law_cell_at ["_law_script", "_law_k"] (sp_law_cell_at K)) (F_law_cell_at : Fun K "_law_cell_at" "_law_cell_at" s_law_cell_at a.law_cell_at fd_law_cell_at) (b_law_cell_at : Binds K fd_law_cell_at ["_law_script", "_law_k"] [])
    (G_law_drawn : FnOk P w K mg base CX0 2 a.law_drawn fd_law_drawn ["_law_cell", "_law_many", "_law_ground_here", "_law_way"] (sp_law_drawn K)) (F_law_drawn : Fun K "_law_drawn" "_law_drawn" s_law_drawn a.law_drawn fd_law_drawn) (b_law_drawn : Binds K fd_law_drawn ["_law_cell", "_law_many", "_law_ground_here", "_law_way"] [])
    (G_law_ground : FnOk P w K mg base CX0 2 a.law_ground fd_law_ground ["_law_script"] (sp_law_ground K)) (F_law_ground : Fun K "_law_ground" "_law_ground" s_law_ground a.law_ground fd_law_ground) (b_law_ground : Binds K fd_law_ground ["_law_script"] [])
    (G_law_mixed : FnOk P w K mg base CX0 1 a.law_mixed fd_law_mixed ["_law_cell", "_law_k"] (sp_law_mixed K)) (F_law_mixed : Fun K "_law_mixed" "_law_mixed" s_law_mixed a.law_mixed fd_law_mixed) (b_law_mixed : Binds K fd_law_mixed ["_law_cell", "_law_k"] [])
    (G_law_priced : FnOk P w K mg base CX0 2 a.law_priced fd_law_priced ["_law_ground_here", "_law_place_prices", "_law_work_prices"] (sp_law_priced K)) (F_law_priced : Fun K "_law_priced" "_law_priced" s_law_priced a.law_priced fd_law_priced) (b_law_priced : Binds K fd_law_priced ["_law_ground_here", "_law_place_prices", "_law_work_prices"] [])
    (G_law_weights_stand : FnOk P w K mg base CX0 3 a.law_weights_stand fd_law_weights_stand ["_law_ground_here"] (sp_law_weights_stand K)) (F_law_weights_stand : Fun K "_law_weights_stand" "_law_weights_stand" s_law_weights_stand a.law_weights_stand fd_law_weights_stand) (b_law_weights_stand : Binds K fd_law_weights_stand ["_law_ground_here"] [])
    (G_priced : FnOk P w K mg base CX0 2 a.priced fd_priced ["wants", "oftens", "masks", "weights", "place_prices", "work_prices"] (sp_priced K)) (F_priced : Fun K "priced" "priced" s_priced a.priced fd_priced) (b_priced : Binds K fd_priced ["wants", "oftens", "masks", "weights", "place_prices", "work_prices"] [])
    (G_weights_of : FnOk P w K mg base CX0 2 a.weights_of fd_weights_of ["oftens", "marks", "worths"] (sp_weights_of K)) (F_weights_of : Fun K "weights_of" "weights_of" s_weights_of a.weights_of fd_weights_of) (b_weights_of : Binds K fd_weights_of ["oftens", "marks", "worths"] []) : FnOk P w K mg base CX0 4 f fd ["_law_script"] (sp_law K) := by
  refine F.ok sc_law (fun vs H Q E h => ?_) (fun cdv A outer s H vs Q E hr h => ?_)
  · obtain ⟨ad, ns, rfl, _⟩ := h
    rfl
  · obtain ⟨ad, ns, rfl, hS, hl, q⟩ := h
    refine ⟨_, (pss_cons (psN (i := 1) (sc := defScope s_law) (M := N_law) rfl rfl (by decide +kernel) (pe_callN (sc := defScope s_law) G_law_ground (hr.mono (by decide)) rfl (by decide +kernel) T.m_law_ground F_law_ground.kp b_law_ground .nil pass0 (pa_cons (pvN (i := 0) (sc := defScope s_law) (M := N_law) rfl rfl (by decide +kernel)) pa_nil)))
      (pss_cons (ps_asg (pvN (i := 1) (sc := defScope s_law) (M := N_law) rfl rfl (by decide +kernel)) (pg_tup (n := 5) (by rfl) (pgs_cons (pgN (i := 2) (sc := defScope s_law) (M := N_law) rfl rfl (by decide +kernel)) (pgs_cons (pgN (i := 3) (sc := defScope s_law) (M := N_law) rfl rfl (by decide +kernel)) (pgs_cons (pgN (i := 4) (sc := defScope s_law) (M := N_law) rfl rfl (by decide +kernel)) (pgs_cons (pgN (i := 5) (sc := defScope s_law) (M := N_law) rfl rfl (by decide +kernel)) (pgs_cons (pgN (i := 6) (sc := defScope s_law) (M := N_law) rfl rfl (by decide +kernel)) pgs_nil)))))))
      (pss_cons (ps_if (pt_not (pt_val (pe_callN (sc := defScope s_law) G_law_weights_stand (hr.mono (by decide)) rfl (by decide +kernel) T.m_law_weights_stand F_law_weights_stand.kp b_law_weights_stand .nil pass0 (pa_cons (pvN (i := 1) (sc := defScope s_law) (M := N_law) rfl rfl (by decide +kernel)) pa_nil)))) (pss_one (ps_ret pe_bl)) pss_nil)
      (pss_cons (psN (i := 7) (sc := defScope s_law) (M := N_law) rfl rfl (by decide +kernel) (pe_callN (sc := defScope s_law) G_weights_of (hr.mono (by decide)) rfl (by decide +kernel) T.m_weights_of F_weights_of.kp b_weights_of .nil pass0 (pa_cons (pvN (i := 3) (sc := defScope s_law) (M := N_law) rfl rfl (by decide +kernel)) (pa_cons (pvN (i := 5) (sc := defScope s_law) (M := N_law) rfl rfl (by decide +kernel)) (pa_cons (pvN (i := 6) (sc := defScope s_law) (M := N_law) rfl rfl (by decide +kernel)) pa_nil)))))
      (pss_cons (psN (i := 8) (sc := defScope s_law) (M := N_law) rfl rfl (by decide +kernel) (pe_callN (sc := defScope s_law) G_law_mixed (hr.mono (by decide)) rfl (by decide +kernel) T.m_law_mixed F_law_mixed.kp b_law_mixed .nil pass0 (pa_cons (pe_callN (sc := defScope s_law) G_law_cell_at (hr.mono (by decide)) rfl (by decide +kernel) T.m_law_cell_at F_law_cell_at.kp b_law_cell_at .nil pass0 (pa_cons (pvN (i := 0) (sc := defScope s_law) (M := N_law) rfl rfl (by decide +kernel)) (pa_cons pe_int pa_nil))) (pa_cons pe_int pa_nil))))
      (pss_cons (ps_for PassesOwn.never rfl (pi_range1 (glR (sc := defScope s_law) rfl (by decide +kernel)) T.z_range (pa_cons pe_int pa_nil)) (pgN (i := 9) (sc := defScope s_law) (M := N_law) rfl rfl (by decide +kernel)) (pss_cons (psN (i := 10) (sc := defScope s_law) (M := N_law) rfl rfl (by decide +kernel) (pe_callN (sc := defScope s_law) G_law_drawn (hr.mono (by decide)) rfl (by decide +kernel) T.m_law_drawn F_law_drawn.kp b_law_drawn .nil pass0 (pa_cons (pe_op op_fdiv (pvN (i := 8) (sc := defScope s_law) (M := N_law) rfl rfl (by decide +kernel)) (pe_op op_add pe_int (pvN (i := 9) (sc := defScope s_law) (M := N_law) rfl rfl (by decide +kernel)))) (pa_cons (pe_callBN (sc := defScope s_law) call_len rfl (by decide +kernel) T.z_len bt_len (pa_cons (pvN (i := 2) (sc := defScope s_law) (M := N_law) rfl rfl (by decide +kernel)) pa_nil)) (pa_cons (pvN (i := 1) (sc := defScope s_law) (M := N_law) rfl rfl (by decide +kernel)) (pa_cons (pe_ifExp (pt_cmpR (op_neD (n := 60) (hu60 hr)) (pvN (i := 5) (sc := defScope s_law) (M := N_law) rfl rfl (by decide +kernel)) (pe_lst pa_nil) (nomark _)) (pvN (i := 9) (sc := defScope s_law) (M := N_law) rfl rfl (by decide +kernel)) pe_int) pa_nil))))))
      (pss_cons (psN (i := 11) (sc := defScope s_law) (M := N_law) rfl rfl (by decide +kernel) (pe_callN (sc := defScope s_law) G_law_drawn (hr.mono (by decide)) rfl (by decide +kernel) T.m_law_drawn F_law_drawn.kp b_law_drawn .nil pass0 (pa_cons (pe_op op_fdiv (pvN (i := 8) (sc := defScope s_law) (M := N_law) rfl rfl (by decide +kernel)) (pe_op op_add pe_int (pvN (i := 9) (sc := defScope s_law) (M := N_law) rfl rfl (by decide +kernel)))) (pa_cons (pe_callBN (sc := defScope s_law) call_len rfl (by decide +kernel) T.z_len bt_len (pa_cons (pvN (i := 3) (sc := defScope s_law) (M := N_law) rfl rfl (by decide +kernel)) pa_nil)) (pa_cons (pvN (i := 1) (sc := defScope s_law) (M := N_law) rfl rfl (by decide +kernel)) (pa_cons (pe_op op_fdiv (pvN (i := 9) (sc := defScope s_law) (M := N_law) rfl rfl (by decide +kernel)) pe_int) pa_nil))))))
      (pss_cons (psN (i := 12) (sc := defScope s_law) (M := N_law) rfl rfl (by decide +kernel) (pe_lst (pa_cons (pe_callTyN (sc := defScope s_law) call_list_of rfl (by decide +kernel) T.z_list bt_list (pa_cons (pvN (i := 10) (sc := defScope s_law) (M := N_law) rfl rfl (by decide +kernel)) pa_nil)) (pa_cons (pe_callTyN (sc := defScope s_law) call_list_of rfl (by decide +kernel) T.z_list bt_list (pa_cons (pvN (i := 11) (sc := defScope s_law) (M := N_law) rfl rfl (by decide +kernel)) pa_nil)) (pa_cons (pe_comp rfl (N := ["_law_one"]) (own := 1) (js := []) (X := (cxOf CX0 P w K mg base N_law "law" (defScope s_law) f cdv A outer s H E).nox) (compOk (defScope s_law) N_law rfl rfl (by decide +kernel)) (pi_list (pvN (i := 7) (sc := defScope s_law) (M := N_law) rfl rfl (by decide +kernel))) (fun fp0 sx0 Hx0 => (pgN (i := 0) (sc := relabelS _ (defScope s_law)) (M := ["_law_one"]) rfl rfl (by decide +kernel))) (fun fp0 sx0 Hx0 => pifs_nil) (fun fp0 sx0 Hx0 => (pe_callTyN (sc := relabelS _ (defScope s_law)) (L18.list_K (K := K) rfl) rfl (by decide +kernel) T.z_list bt_list (pa_cons (pvN (i := 0) (sc := relabelS _ (defScope s_law)) (M := ["_law_one"]) rfl rfl (by decide +kernel)) pa_nil)))) pa_nil)))))
      (pss_cons (psN (i := 13) (sc := defScope s_law) (M := N_law) rfl rfl (by decide +kernel) (pe_callN (sc := defScope s_law) G_priced (hr.mono (by decide)) rfl (by decide +kernel) T.m_priced F_priced.kp b_priced .nil pass0 (pa_cons (pe_callTyN (sc := defScope s_law) call_list_of rfl (by decide +kernel) T.z_list bt_list (pa_cons (pvN (i := 2) (sc := defScope s_law) (M := N_law) rfl rfl (by decide +kernel)) pa_nil)) (pa_cons (pe_callTyN (sc := defScope s_law) call_list_of rfl (by decide +kernel) T.z_list bt_list (pa_cons (pvN (i := 3) (sc := defScope s_law) (M := N_law) rfl rfl (by decide +kernel)) pa_nil)) (pa_cons (pe_callTyN (sc := defScope s_law) call_list_of rfl (by decide +kernel) T.z_list bt_list (pa_cons (pvN (i := 4) (sc := defScope s_law) (M := N_law) rfl rfl (by decide +kernel)) pa_nil)) (pa_cons (pe_ix ix_list (pvN (i := 12) (sc := defScope s_law) (M := N_law) rfl rfl (by decide +kernel)) pe_int (fun _ _ => rfl)) (pa_cons (pe_ix ix_list (pvN (i := 12) (sc := defScope s_law) (M := N_law) rfl rfl (by decide +kernel)) pe_int (fun _ _ => rfl)) (pa_cons (pe_ix ix_list (pvN (i := 12) (sc := defScope s_law) (M := N_law) rfl rfl (by decide +kernel)) pe_int (fun _ _ => rfl)) pa_nil))))))))
      (pss_cons (ps_if (PW.pt (pw_or (pt_cmpR (op_neD (n := 60) (hu60 hr)) (pvN (i := 12) (sc := defScope s_law) (M := N_law) rfl rfl (by decide +kernel)) (pe_lst (pa_cons (pvN (i := 10) (sc := defScope s_law) (M := N_law) rfl rfl (by decide +kernel)) (pa_cons (pvN (i := 11) (sc := defScope s_law) (M := N_law) rfl rfl (by decide +kernel)) (pa_cons (pvN (i := 7) (sc := defScope s_law) (M := N_law) rfl rfl (by decide +kernel)) pa_nil)))) (nomark _)) (pw_or1 (pt_not (pt_val (pe_callBN (sc := defScope s_law) call_isi rfl (by decide +kernel) T.z_isinstance bt_isinstance (pa_cons (pvN (i := 13) (sc := defScope s_law) (M := N_law) rfl rfl (by decide +kernel)) (pa_cons (pe_bltN (v := V.ty "int") (sc := defScope s_law) rfl (by decide +kernel) T.z_int bt_int rfl) pa_nil)))))))) (pss_one (ps_ret pe_bl)) pss_nil)
      (pss_one (ps_if (pt_cmpR op_ne (pvN (i := 13) (sc := defScope s_law) (M := N_law) rfl rfl (by decide +kernel)) (pe_callN (sc := defScope s_law) G_law_priced (hr.mono (by decide)) rfl (by decide +kernel) T.m_law_priced F_law_priced.kp b_law_priced .nil pass0 (pa_cons (pvN (i := 1) (sc := defScope s_law) (M := N_law) rfl rfl (by decide +kernel)) (pa_cons (pvN (i := 10) (sc := defScope s_law) (M := N_law) rfl rfl (by decide +kernel)) (pa_cons (pvN (i := 11) (sc := defScope s_law) (M := N_law) rfl rfl (by decide +kernel)) pa_nil)))) (nomark _)) (pss_one (ps_ret pe_bl)) pss_nil))))))))
      (pss_one (ps_ret (pe_cmpR op_eq (pe_callN (sc := defScope s_law) G_priced (hr.mono (by decide)) rfl (by decide +kernel) T.m_priced F_priced.kp b_priced .nil pass0 (pa_cons (pe_lst pa_nil) (pa_cons (pe_lst pa_nil) (pa_cons (pe_lst pa_nil) (pa_cons (pe_lst pa_nil) (pa_cons (pe_lst pa_nil) (pa_cons (pe_lst pa_nil) pa_nil))))))) pe_int (nomark _)))))))))), ?_⟩
    have hs' : sizeLine = 16777216 := sizeLine_eq
    refine ⟨_, rfl, ad, ns, rfl, hS, hl, fun ws os ms ks hs H1 t pw po pm pk ph s1 G _ et ew eo em ek eh => ?_⟩
    have g1 := G.lk
    have g2 := G.many
    have g3 := G.lm
    have g4 := G.lh
    have g5 := G.four
    have bo : ∀ o ∈ os, o ≤ 1000 := fun o ho => by have := (G.ol o ho).2; omega
    have bh : ∀ o ∈ hs, o ≤ 1000 := fun o ho => by have := (G.hl o ho).2; omega
    have bw : ∀ o ∈ ws, o ≤ 1000 := fun o ho => by have := G.wl o ho; omega
    have GG : GA H1 t ws os ms ks hs := ⟨pw, po, pm, pk, ph, et, ew, eo, em, ek, eh⟩
    refine ⟨_, rfl, t, _, rfl, SqT.of et, rfl, _, _, rfl, _, _, rfl, _, _, rfl, _, _, rfl, _, _, rfl, rfl, ?_⟩
    refine ⟨_, rfl, t, ws, os, ms, ks, hs, rfl, GG, G, fun H2 s2 => ⟨_, rfl, iteF ?_⟩⟩
    refine ⟨_, rfl, _, rfl, _, rfl, po, pk, ph, os, ks, hs, rfl, SqL.of (s2 _ _ eo), SqL.of (s2 _ _ ek), SqL.of (s2 _ _ eh), g1, by omega, by omega, bo, bh, fun H3 pW zs u3 eW hE _ => ?_⟩
    have s3 := s2.trans u3
    refine ⟨_, rfl, ad, ns, 2, rfl, (s1.trans s3).seq hS, hl, by decide, _, 20, rfl, by decide, by decide, ?_⟩
    generalize mixZ (cellZ ns 2) 20 = cc
    refine ⟨_, rfl, by decide, by decide, ?_⟩
    refine for_range (fun i σ H' => (∃ v1 v2 v3 v4 v5, σ = [some (.ref ad), some (.ref t), some (.ref pw), some (.ref po), some (.ref pm), some (.ref pk), some (.ref ph), some (.ref pW), some (.int cc), v1, v2, v3, v4, v5]) ∧ Same H3 H') ⟨⟨_, _, _, _, _, rfl⟩, Same.refl _⟩ ?_ ?_
    · rintro i σ H4 hi ⟨⟨v1, v2, v3, v4, v5, rfl⟩, u4⟩
      rw [show (0 : Int) + (i : Nat) = (i : Nat) by omega]
      replace hi : i < 4 := hi
      have s4 := s3.trans u4
      refine ⟨_, rfl, _, rfl, _, _, rfl, rfl, _, _, rfl, rfl, ⟨by omega, by omega⟩, _, rfl, .ref pw, ws.length, rfl, .inl ⟨_, SqL.of (s4 _ _ ew), by rw [nV_len]⟩, _, rfl, ?_⟩
      refine ⟨_, rfl, by first | decide | (simp only [List.length_cons, List.length_nil, List.length_append, List.length_map]; decide), fun pe hpe => ?_⟩
      have u5 := u4.trans (Same.upd0 (o := .lst []) hpe)
      have e5 : upd H4 pe (.lst []) pe = some (.lst (nV [])) := upd_same
      generalize upd H4 pe (.lst []) = H5 at u5 e5 ⊢
      have s5 := s3.trans u5
      clear s4 u4 hpe
      refine ⟨_, _, nat_list (s5 _ _ ek), nat_list e5, nat_lay' _, nat_lay' _, nat_depth _ _, _, rfl, ?_⟩
      rw [show PyData.eqv (.list (nD ks)) (.list (nD [])) = decide (ks = []) from eq_none ks]
      refine ite_both (fun k hb => ⟨_, rfl, _, _, ws.length, t, ws, os, ms, ks, hs, rfl, GG.up s5, G, by omega, fun _ _ z => by rw [z] at hb; exact absurd hb (by decide), k⟩) (fun k hb => ⟨_, _, ws.length, t, ws, os, ms, ks, hs, rfl, GG.up s5, G, by omega, fun h => absurd h (by decide), k⟩) ?_
      intro H6 pp ps np u6 lp e6
      have s6 := s5.trans u6
      refine ⟨_, rfl, _, rfl, _, _, rfl, rfl, _, _, rfl, rfl, ⟨by omega, by omega⟩, _, rfl, .ref po, os.length, rfl, .inl ⟨_, SqL.of (s6 _ _ eo), by rw [nV_len]⟩, _, rfl, _, rfl, _, _, rfl, rfl, ⟨by decide, by decide⟩, ?_⟩
      refine ⟨_, _, os.length, t, ws, os, ms, ks, hs, rfl, GG.up s6, G, by omega, fun _ h z => by rw [z] at g1; exact h g1.symm, fun H7 pq qs nq u7 lq e7 => ?_⟩
      have s7 := s6.trans u7
      have e67 := u7 _ _ e6
      refine ⟨_, rfl, pp, _, rfl, .inl (SqL.of e67), fun a1 h1 => ?_⟩
      have t1 := Same.upd0 (o := .lst (nV ps)) h1
      have f1 : upd H7 a1 (.lst (nV ps)) a1 = some (.lst (nV ps)) := upd_same
      generalize upd H7 a1 (.lst (nV ps)) = H8 at t1 f1 ⊢
      refine ⟨_, rfl, pq, _, rfl, .inl (SqL.of (t1 _ _ e7)), fun a2 h2 => ?_⟩
      have t2 := t1.trans (Same.upd0 (o := .lst (nV qs)) h2)
      have f1 := Same.upd0 (o := .lst (nV qs)) h2 _ _ f1
      have f2 : upd H8 a2 (.lst (nV qs)) a2 = some (.lst (nV qs)) := upd_same
      generalize upd H8 a2 (.lst (nV qs)) = H9 at t2 f1 f2 ⊢
      have u39 : Same H3 H9 := u5.trans (u6.trans (u7.trans t2))
      refine ⟨_, rfl, pW, rfl, ⟨_, SqL.of (u39 _ _ eW)⟩, fun c hc => ?_⟩
      refine comp_els (Pd := NL) (fun s h => h.up s) (Same.refl H9) hc yields_list (fun σ => ∃ v, σ = [v]) (CI.rows os ks hs) hE.1.symm ⟨_, rfl⟩ (fun H' s' => SqL.of ((u39.trans s') _ _ eW)) (by rw [hE.1, CI.rows_len]; omega) ?_ ?_
      · rintro j x r σ D1 Ha R1 R0 hx hr ⟨v, rfl⟩ Gr1 k1
        obtain ⟨pr, rfl, er⟩ := hE.2 j x r hx hr
        refine ⟨_, rfl, pr, _, rfl, .inl (SqL.of (Gr1.hh _ _ (u39 _ _ er))), fun pn hpn => ?_⟩
        exact k1 _ _ _ _ ⟨_, rfl⟩ (Gr.lay Gr1.dh hpn) ⟨pn, rfl, upd_same⟩
      intro D' Ha zs2 Gr1 ec _ hG
      have t3 := t2.trans Gr1.hh
      have f1 := Gr1.hh _ _ f1
      have f2 := Gr1.hh _ _ f2
      have hG := hG.up fun v a => NL.up Gr1.dh
      refine ⟨by first | decide | (simp only [List.length_cons, List.length_nil, List.length_append, List.length_map]; decide), fun pa hpa => ?_⟩
      have ta := Same.upd0 (o := .lst [.ref a1, .ref a2, .ref c]) hpa
      have fa : upd Ha pa (.lst [.ref a1, .ref a2, .ref c]) pa = some (.lst [.ref a1, .ref a2, .ref c]) := upd_same
      have t4 := t3.trans ta
      have f1 := ta _ _ f1
      have f2 := ta _ _ f2
      have ec := ta _ _ ec
      have hG := hG.up fun v a => NL.up ta
      generalize upd Ha pa (.lst [.ref a1, .ref a2, .ref c]) = Hb at t4 f1 f2 ec hG fa ta ⊢
      have sb := s7.trans t4
      clear h1 h2 hpa t1 t2 t3 Gr1 hc
      refine ⟨_, rfl, pw, _, rfl, .inl (SqL.of (sb _ _ ew)), fun b1 k1 => ?_⟩
      have x1 := Same.upd0 (o := .lst (nV ws)) k1
      have y1 : upd Hb b1 (.lst (nV ws)) b1 = some (.lst (nV ws)) := upd_same
      generalize upd Hb b1 (.lst (nV ws)) = Hc at x1 y1 ⊢
      refine ⟨_, rfl, po, _, rfl, .inl (SqL.of (x1 _ _ (sb _ _ eo))), fun b2 k2 => ?_⟩
      have x2 := x1.trans (Same.upd0 (o := .lst (nV os)) k2)
      have y1 := Same.upd0 (o := .lst (nV os)) k2 _ _ y1
      have y2 : upd Hc b2 (.lst (nV os)) b2 = some (.lst (nV os)) := upd_same
      generalize upd Hc b2 (.lst (nV os)) = Hd at x2 y1 y2 ⊢
      refine ⟨_, rfl, pm, _, rfl, .inl (SqL.of (x2 _ _ (sb _ _ em))), fun b3 k3 => ?_⟩
      have x3 := x2.trans (Same.upd0 (o := .lst (nV ms)) k3)
      have y1 := Same.upd0 (o := .lst (nV ms)) k3 _ _ y1
      have y2 := Same.upd0 (o := .lst (nV ms)) k3 _ _ y2
      have y3 : upd Hd b3 (.lst (nV ms)) b3 = some (.lst (nV ms)) := upd_same
      generalize upd Hd b3 (.lst (nV ms)) = He at x3 y1 y2 y3 ⊢
      have fa := x3 _ _ fa
      have f1 := x3 _ _ f1
      have f2 := x3 _ _ f2
      have ec := x3 _ _ ec
      have hG := hG.up fun v a => NL.up x3
      refine ⟨_, rfl, pa, _, _, _, rfl, rfl, SqL.of fa, rfl, _, rfl, pa, _, _, _, rfl, rfl, SqL.of fa, rfl, _, rfl, pa, _, _, _, rfl, rfl, SqL.of fa, rfl, ?_⟩
      refine ⟨b1, b2, b3, c, a1, a2, zs2, CI.rows os ks hs, ws, os, ms, ps, qs, rfl, SqL.of y1, SqL.of y2, SqL.of y3, SqL.of ec, hG, by rw [CI.rows_len]; exact g1, fun r hr => ?_, SqL.of f1, SqL.of f2, by omega, by omega, lq, by omega, by omega, bw, bo, fun Hf xf => ?_⟩
      · obtain ⟨k, _, rfl⟩ := List.mem_map.mp hr
        rw [CI.row_len]
        omega
      rw [show CI.priced ws os ms (fun w p => ((CI.rows os ks hs).getD w []).getD p 0) ps qs = CI.priced ws os ms (CI.wt os ks hs) ps qs from priced_rows G]
      have sf := sb.trans (x3.trans xf)
      have fa := xf _ _ fa
      have f1 := xf _ _ f1
      have f2 := xf _ _ f2
      have ec := xf _ _ ec
      have hG := hG.up fun v a => NL.up xf
      have e6f := xf _ _ (x3 _ _ (t4 _ _ e67))
      have e7f := xf _ _ (x3 _ _ (t4 _ _ e7))
      have u3f : Same H3 Hf := u5.trans (u6.trans (u7.trans (t4.trans (x3.trans xf))))
      refine ⟨_, rfl, _, rfl, _, rfl, _, rfl, by first | decide | (simp only [List.length_cons, List.length_nil, List.length_append, List.length_map]; decide), fun pz hpz => ?_⟩
      have tz := Same.upd0 (o := .lst [.ref pp, .ref pq, .ref pW]) hpz
      have fz : upd Hf pz (.lst [.ref pp, .ref pq, .ref pW]) pz = some (.lst [.ref pp, .ref pq, .ref pW]) := upd_same
      generalize upd Hf pz (.lst [.ref pp, .ref pq, .ref pW]) = Hg at tz fz ⊢
      have u3g := u3f.trans tz
      have da : DataAt K Hg (.ref pa) (.list [.list (nD ps), .list (nD qs), .list (rowsD (CI.rows os ks hs))]) := DataAt.mkL (D := Hg) (DataAll.cons (nat_list (tz _ _ f1)) (DataAll.cons (nat_list (tz _ _ f2)) (DataAll.cons (DataAt.mkL (D := Hg) (els_data (hG.up fun v a => NL.up tz)) (tz _ _ ec) (Same.refl _)) DataAll.nil))) (tz _ _ fa) (Same.refl _)
      have db : DataAt K Hg (.ref pz) (.list [.list (nD ps), .list (nD qs), .list (rowsD (CI.rows os ks hs))]) := DataAt.mkL (D := Hg) (DataAll.cons (nat_list (tz _ _ e6f)) (DataAll.cons (nat_list (tz _ _ e7f)) (DataAll.cons (DataAt.mkL (D := Hg) (els_data (hE.up fun v a => NL.up u3g)) (u3g _ _ eW) (Same.refl _)) DataAll.nil))) fz (Same.refl _)
      have hlay := two_lay ps qs (CI.rows os ks hs)
      refine ⟨_, _, da, db, hlay.1, hlay.1, hlay.2, _, rfl, ?_⟩
      rw [SeqAt.eqv_refl _ hlay.1]
      refine iteF ⟨_, rfl, _, "int", "int", true, rfl, rfl, kit_int_int _, _, rfl, iteF ?_⟩
      refine ⟨_, rfl, _, rfl, _, rfl, _, rfl, t, pp, pq, ws, os, ms, ks, hs, ps, qs, rfl, (GG.up s3).up u3g, G, SqL.of (tz _ _ e6f), SqL.of (tz _ _ e7f), lp, lq, rfl, _, rfl, iteNS rfl ?_⟩
      exact ⟨⟨_, _, _, _, _, rfl⟩, u3g⟩
    rintro σ H4 ⟨⟨v1, v2, v3, v4, v5, rfl⟩, u4⟩
    refine ⟨by first | decide | (simp only [List.length_cons, List.length_nil, List.length_append, List.length_map]; decide), fun q1 h1 => ?_⟩
    have y1 : upd H4 q1 (.lst []) q1 = some (.lst (nV [])) := upd_same
    generalize upd H4 q1 (.lst []) = I1 at y1 ⊢
    refine ⟨by first | decide | (simp only [List.length_cons, List.length_nil, List.length_append, List.length_map]; decide), fun q2 h2 => ?_⟩
    have z2 := Same.upd0 (o := .lst []) h2
    have y2 : upd I1 q2 (.lst []) q2 = some (.lst (nV [])) := upd_same
    generalize upd I1 q2 (.lst []) = I2 at z2 y2 ⊢
    refine ⟨by first | decide | (simp only [List.length_cons, List.length_nil, List.length_append, List.length_map]; decide), fun q3 h3 => ?_⟩
    have z3 := Same.upd0 (o := .lst []) h3
    have y3 : upd I2 q3 (.lst []) q3 = some (.lst (nV [])) := upd_same
    generalize upd I2 q3 (.lst []) = I3 at z3 y3 ⊢
    refine ⟨by first | decide | (simp only [List.length_cons, List.length_nil, List.length_append, List.length_map]; decide), fun q4 h4 => ?_⟩
    have z4 := Same.upd0 (o := .lst []) h4
    have y4 : upd I3 q4 (.lst []) q4 = some (.lst []) := upd_same
    generalize upd I3 q4 (.lst []) = I4 at z4 y4 ⊢
    refine ⟨by first | decide | (simp only [List.length_cons, List.length_nil, List.length_append, List.length_map]; decide), fun q5 h5 => ?_⟩
    have z5 := Same.upd0 (o := .lst []) h5
    have y5 : upd I4 q5 (.lst []) q5 = some (.lst (nV [])) := upd_same
    generalize upd I4 q5 (.lst []) = I5 at z5 y5 ⊢
    refine ⟨by first | decide | (simp only [List.length_cons, List.length_nil, List.length_append, List.length_map]; decide), fun q6 h6 => ?_⟩
    have z6 := Same.upd0 (o := .lst []) h6
    have y6 : upd I5 q6 (.lst []) q6 = some (.lst (nV [])) := upd_same
    generalize upd I5 q6 (.lst []) = I6 at z6 y6 ⊢
    refine ⟨q1, q2, q3, q4, q5, q6, [], [], [], [], [], [], [], rfl, SqL.of (z6 _ _ (z5 _ _ (z4 _ _ (z3 _ _ (z2 _ _ y1))))), SqL.of (z6 _ _ (z5 _ _ (z4 _ _ (z3 _ _ y2)))), SqL.of (z6 _ _ (z5 _ _ (z4 _ _ y3))), SqL.of (z6 _ _ (z5 _ _ y4)), Els.nil, rfl, (fun _ h => nomatch h), SqL.of (z6 _ _ y5), SqL.of y6, rfl, rfl, rfl, by decide, by decide, (fun _ h => nomatch h), (fun _ h => nomatch h), fun I7 z7 => ?_⟩
    rw [priced_none]
    exact ⟨rfl, q _⟩

end
theorem all_mk {l : PySem.W.OpenLaw} {w : World} {K : PySem.W.Frag} {h : Heap} {mg : Str → Option Value} {fa : Addr} (X : K.In h) (G : h.Ns mainGlobals mg) (hfa : mg "law" = some (.ref fa))
    {f_has : Addr} {od1 an1 : Option Addr} {sl1 : Array (Option Value)} {oc1 kV1 dc1 pm1 cd1 ct1 : Value}
    {f_base_of : Addr} {od2 an2 : Option Addr} {sl2 : Array (Option Value)} {oc2 kV2 dc2 pm2 cd2 ct2 : Value}
    {f_weights_of : Addr} {od3 an3 : Option Addr} {sl3 : Array (Option Value)} {oc3 kV3 dc3 pm3 cd3 ct3 : Value}
    {f_above_price : Addr} {od4 an4 : Option Addr} {sl4 : Array (Option Value)} {oc4 kV4 dc4 pm4 cd4 ct4 : Value}
    {f_priced : Addr} {od5 an5 : Option Addr} {sl5 : Array (Option Value)} {oc5 kV5 dc5 pm5 cd5 ct5 : Value}
    {f_law_cell_at : Addr} {od6 an6 : Option Addr} {sl6 : Array (Option Value)} {oc6 kV6 dc6 pm6 cd6 ct6 : Value}
    {f_law_mixed : Addr} {od7 an7 : Option Addr} {sl7 : Array (Option Value)} {oc7 kV7 dc7 pm7 cd7 ct7 : Value}
    {f_law_ground : Addr} {od8 an8 : Option Addr} {sl8 : Array (Option Value)} {oc8 kV8 dc8 pm8 cd8 ct8 : Value}
    {f_law_fit : Addr} {od9 an9 : Option Addr} {sl9 : Array (Option Value)} {oc9 kV9 dc9 pm9 cd9 ct9 : Value}
    {f_law_weight : Addr} {od10 an10 : Option Addr} {sl10 : Array (Option Value)} {oc10 kV10 dc10 pm10 cd10 ct10 : Value}
    {f_law_priced : Addr} {od11 an11 : Option Addr} {sl11 : Array (Option Value)} {oc11 kV11 dc11 pm11 cd11 ct11 : Value}
    {f_law_drawn : Addr} {od12 an12 : Option Addr} {sl12 : Array (Option Value)} {oc12 kV12 dc12 pm12 cd12 ct12 : Value}
    {f_law_weights_stand : Addr} {od13 an13 : Option Addr} {sl13 : Array (Option Value)} {oc13 kV13 dc13 pm13 cd13 ct13 : Value}
    {f_law : Addr} {od14 an14 : Option Addr} {sl14 : Array (Option Value)} {oc14 kV14 dc14 pm14 cd14 ct14 : Value}
    (a1 : PySem.W.nsIn K mainGlobals "has" = some (some (.ref f_has))) (l1 : K.lookup f_has = some ⟨oc1, od1, .func (PySem.W.fnOf "has" "has" (defArgs s_has) (defBody s_has) (defScope s_has) .none kV1 dc1 pm1 an1 cd1 ct1), sl1⟩) (c1 : PySem.W.codeIn K cd1 "has" = true) (k1 : PySem.W.keepIn K (.ref f_has) = true)
    (a2 : PySem.W.nsIn K mainGlobals "base_of" = some (some (.ref f_base_of))) (l2 : K.lookup f_base_of = some ⟨oc2, od2, .func (PySem.W.fnOf "base_of" "base_of" (defArgs s_base_of) (defBody s_base_of) (defScope s_base_of) .none kV2 dc2 pm2 an2 cd2 ct2), sl2⟩) (c2 : PySem.W.codeIn K cd2 "base_of" = true) (k2 : PySem.W.keepIn K (.ref f_base_of) = true)
    (a3 : PySem.W.nsIn K mainGlobals "weights_of" = some (some (.ref f_weights_of))) (l3 : K.lookup f_weights_of = some ⟨oc3, od3, .func (PySem.W.fnOf "weights_of" "weights_of" (defArgs s_weights_of) (defBody s_weights_of) (defScope s_weights_of) .none kV3 dc3 pm3 an3 cd3 ct3), sl3⟩) (c3 : PySem.W.codeIn K cd3 "weights_of" = true) (k3 : PySem.W.keepIn K (.ref f_weights_of) = true)
    (a4 : PySem.W.nsIn K mainGlobals "above_price" = some (some (.ref f_above_price))) (l4 : K.lookup f_above_price = some ⟨oc4, od4, .func (PySem.W.fnOf "above_price" "above_price" (defArgs s_above_price) (defBody s_above_price) (defScope s_above_price) .none kV4 dc4 pm4 an4 cd4 ct4), sl4⟩) (c4 : PySem.W.codeIn K cd4 "above_price" = true) (k4 : PySem.W.keepIn K (.ref f_above_price) = true)
    (a5 : PySem.W.nsIn K mainGlobals "priced" = some (some (.ref f_priced))) (l5 : K.lookup f_priced = some ⟨oc5, od5, .func (PySem.W.fnOf "priced" "priced" (defArgs s_priced) (defBody s_priced) (defScope s_priced) .none kV5 dc5 pm5 an5 cd5 ct5), sl5⟩) (c5 : PySem.W.codeIn K cd5 "priced" = true) (k5 : PySem.W.keepIn K (.ref f_priced) = true)
    (a6 : PySem.W.nsIn K mainGlobals "_law_cell_at" = some (some (.ref f_law_cell_at))) (l6 : K.lookup f_law_cell_at = some ⟨oc6, od6, .func (PySem.W.fnOf "_law_cell_at" "_law_cell_at" (defArgs s_law_cell_at) (defBody s_law_cell_at) (defScope s_law_cell_at) .none kV6 dc6 pm6 an6 cd6 ct6), sl6⟩) (c6 : PySem.W.codeIn K cd6 "_law_cell_at" = true) (k6 : PySem.W.keepIn K (.ref f_law_cell_at) = true)
    (a7 : PySem.W.nsIn K mainGlobals "_law_mixed" = some (some (.ref f_law_mixed))) (l7 : K.lookup f_law_mixed = some ⟨oc7, od7, .func (PySem.W.fnOf "_law_mixed" "_law_mixed" (defArgs s_law_mixed) (defBody s_law_mixed) (defScope s_law_mixed) .none kV7 dc7 pm7 an7 cd7 ct7), sl7⟩) (c7 : PySem.W.codeIn K cd7 "_law_mixed" = true) (k7 : PySem.W.keepIn K (.ref f_law_mixed) = true)
    (a8 : PySem.W.nsIn K mainGlobals "_law_ground" = some (some (.ref f_law_ground))) (l8 : K.lookup f_law_ground = some ⟨oc8, od8, .func (PySem.W.fnOf "_law_ground" "_law_ground" (defArgs s_law_ground) (defBody s_law_ground) (defScope s_law_ground) .none kV8 dc8 pm8 an8 cd8 ct8), sl8⟩) (c8 : PySem.W.codeIn K cd8 "_law_ground" = true) (k8 : PySem.W.keepIn K (.ref f_law_ground) = true)
    (a9 : PySem.W.nsIn K mainGlobals "_law_fit" = some (some (.ref f_law_fit))) (l9 : K.lookup f_law_fit = some ⟨oc9, od9, .func (PySem.W.fnOf "_law_fit" "_law_fit" (defArgs s_law_fit) (defBody s_law_fit) (defScope s_law_fit) .none kV9 dc9 pm9 an9 cd9 ct9), sl9⟩) (c9 : PySem.W.codeIn K cd9 "_law_fit" = true) (k9 : PySem.W.keepIn K (.ref f_law_fit) = true)
    (a10 : PySem.W.nsIn K mainGlobals "_law_weight" = some (some (.ref f_law_weight))) (l10 : K.lookup f_law_weight = some ⟨oc10, od10, .func (PySem.W.fnOf "_law_weight" "_law_weight" (defArgs s_law_weight) (defBody s_law_weight) (defScope s_law_weight) .none kV10 dc10 pm10 an10 cd10 ct10), sl10⟩) (c10 : PySem.W.codeIn K cd10 "_law_weight" = true) (k10 : PySem.W.keepIn K (.ref f_law_weight) = true)
    (a11 : PySem.W.nsIn K mainGlobals "_law_priced" = some (some (.ref f_law_priced))) (l11 : K.lookup f_law_priced = some ⟨oc11, od11, .func (PySem.W.fnOf "_law_priced" "_law_priced" (defArgs s_law_priced) (defBody s_law_priced) (defScope s_law_priced) .none kV11 dc11 pm11 an11 cd11 ct11), sl11⟩) (c11 : PySem.W.codeIn K cd11 "_law_priced" = true) (k11 : PySem.W.keepIn K (.ref f_law_priced) = true)
    (a12 : PySem.W.nsIn K mainGlobals "_law_drawn" = some (some (.ref f_law_drawn))) (l12 : K.lookup f_law_drawn = some ⟨oc12, od12, .func (PySem.W.fnOf "_law_drawn" "_law_drawn" (defArgs s_law_drawn) (defBody s_law_drawn) (defScope s_law_drawn) .none kV12 dc12 pm12 an12 cd12 ct12), sl12⟩) (c12 : PySem.W.codeIn K cd12 "_law_drawn" = true) (k12 : PySem.W.keepIn K (.ref f_law_drawn) = true)
    (a13 : PySem.W.nsIn K mainGlobals "_law_weights_stand" = some (some (.ref f_law_weights_stand))) (l13 : K.lookup f_law_weights_stand = some ⟨oc13, od13, .func (PySem.W.fnOf "_law_weights_stand" "_law_weights_stand" (defArgs s_law_weights_stand) (defBody s_law_weights_stand) (defScope s_law_weights_stand) .none kV13 dc13 pm13 an13 cd13 ct13), sl13⟩) (c13 : PySem.W.codeIn K cd13 "_law_weights_stand" = true) (k13 : PySem.W.keepIn K (.ref f_law_weights_stand) = true)
    (a14 : PySem.W.nsIn K mainGlobals "law" = some (some (.ref f_law))) (l14 : K.lookup f_law = some ⟨oc14, od14, .func (PySem.W.fnOf "law" "law" (defArgs s_law) (defBody s_law) (defScope s_law) .none kV14 dc14 pm14 an14 cd14 ct14), sl14⟩) (c14 : PySem.W.codeIn K cd14 "law" = true) (k14 : PySem.W.keepIn K (.ref f_law) = true)
    (z_enumerate : PySem.W.nsIn K mainGlobals "enumerate" = some none)
    (z_int : PySem.W.nsIn K mainGlobals "int" = some none)
    (z_isinstance : PySem.W.nsIn K mainGlobals "isinstance" = some none)
    (z_len : PySem.W.nsIn K mainGlobals "len" = some none)
    (z_list : PySem.W.nsIn K mainGlobals "list" = some none)
    (z_max : PySem.W.nsIn K mainGlobals "max" = some none)
    (z_min : PySem.W.nsIn K mainGlobals "min" = some none)
    (z_range : PySem.W.nsIn K mainGlobals "range" = some none)
    (z_sum : PySem.W.nsIn K mainGlobals "sum" = some none)
    (z_zip : PySem.W.nsIn K mainGlobals "zip" = some none) :
    ∃ fd : FuncData, (∀ (s : Shared) (v : Value), BindsTo s fd ⟨[v], []⟩ [("_law_script", v)]) ∧ ∀ base : Heap, K.In base → base.Ns mainGlobals mg → FnOk l.prog w K mg base CX0 4 fa fd ["_law_script"] (sp_law K) := by
  have e := hfa.symm.trans (PySem.W.mg_of X G a14)
  cases e
  have T : Txt K mg ⟨f_has, f_base_of, f_weights_of, f_above_price, f_priced, f_law_cell_at, f_law_mixed, f_law_ground, f_law_fit, f_law_weight, f_law_priced, f_law_drawn, f_law_weights_stand⟩ := ⟨PySem.W.mg_of X G a1, PySem.W.mg_of X G a2, PySem.W.mg_of X G a3, PySem.W.mg_of X G a4, PySem.W.mg_of X G a5, PySem.W.mg_of X G a6, PySem.W.mg_of X G a7, PySem.W.mg_of X G a8, PySem.W.mg_of X G a9, PySem.W.mg_of X G a10, PySem.W.mg_of X G a11, PySem.W.mg_of X G a12, PySem.W.mg_of X G a13, PySem.W.mg_none_of X G z_enumerate, PySem.W.mg_none_of X G z_int, PySem.W.mg_none_of X G z_isinstance, PySem.W.mg_none_of X G z_len, PySem.W.mg_none_of X G z_list, PySem.W.mg_none_of X G z_max, PySem.W.mg_none_of X G z_min, PySem.W.mg_none_of X G z_range, PySem.W.mg_none_of X G z_sum, PySem.W.mg_none_of X G z_zip⟩
  have F_has := fun_mk (st := s_has) l1 c1 k1
  have b_has := F_has.binds (ps := ["mask", "number"]) fun _ _ _ _ _ _ us hl => match us, hl with | [_, _], _ => rfl
  have F_base_of := fun_mk (st := s_base_of) l2 c2 k2
  have b_base_of := F_base_of.binds (ps := ["oftens", "marks", "worths"]) fun _ _ _ _ _ _ us hl => match us, hl with | [_, _, _], _ => rfl
  have F_weights_of := fun_mk (st := s_weights_of) l3 c3 k3
  have b_weights_of := F_weights_of.binds (ps := ["oftens", "marks", "worths"]) fun _ _ _ _ _ _ us hl => match us, hl with | [_, _, _], _ => rfl
  have F_above_price := fun_mk (st := s_above_price) l4 c4 k4
  have b_above_price := F_above_price.binds (ps := ["place", "work", "weights", "place_prices", "work_prices"]) fun _ _ _ _ _ _ us hl => match us, hl with | [_, _, _, _, _], _ => rfl
  have F_priced := fun_mk (st := s_priced) l5 c5 k5
  have b_priced := F_priced.binds (ps := ["wants", "oftens", "masks", "weights", "place_prices", "work_prices"]) fun _ _ _ _ _ _ us hl => match us, hl with | [_, _, _, _, _, _], _ => rfl
  have F_law_cell_at := fun_mk (st := s_law_cell_at) l6 c6 k6
  have b_law_cell_at := F_law_cell_at.binds (ps := ["_law_script", "_law_k"]) fun _ _ _ _ _ _ us hl => match us, hl with | [_, _], _ => rfl
  have F_law_mixed := fun_mk (st := s_law_mixed) l7 c7 k7
  have b_law_mixed := F_law_mixed.binds (ps := ["_law_cell", "_law_k"]) fun _ _ _ _ _ _ us hl => match us, hl with | [_, _], _ => rfl
  have F_law_ground := fun_mk (st := s_law_ground) l8 c8 k8
  have b_law_ground := F_law_ground.binds (ps := ["_law_script"]) fun _ _ _ _ _ _ us hl => match us, hl with | [_], _ => rfl
  have F_law_fit := fun_mk (st := s_law_fit) l9 c9 k9
  have b_law_fit := F_law_fit.binds (ps := ["_law_masks", "_law_work", "_law_place"]) fun _ _ _ _ _ _ us hl => match us, hl with | [_, _, _], _ => rfl
  have F_law_weight := fun_mk (st := s_law_weight) l10 c10 k10
  have b_law_weight := F_law_weight.binds (ps := ["_law_ground_here", "_law_work", "_law_place"]) fun _ _ _ _ _ _ us hl => match us, hl with | [_, _, _], _ => rfl
  have F_law_priced := fun_mk (st := s_law_priced) l11 c11 k11
  have b_law_priced := F_law_priced.binds (ps := ["_law_ground_here", "_law_place_prices", "_law_work_prices"]) fun _ _ _ _ _ _ us hl => match us, hl with | [_, _, _], _ => rfl
  have F_law_drawn := fun_mk (st := s_law_drawn) l12 c12 k12
  have b_law_drawn := F_law_drawn.binds (ps := ["_law_cell", "_law_many", "_law_ground_here", "_law_way"]) fun _ _ _ _ _ _ us hl => match us, hl with | [_, _, _, _], _ => rfl
  have F_law_weights_stand := fun_mk (st := s_law_weights_stand) l13 c13 k13
  have b_law_weights_stand := F_law_weights_stand.binds (ps := ["_law_ground_here"]) fun _ _ _ _ _ _ us hl => match us, hl with | [_], _ => rfl
  have F_law := fun_mk (st := s_law) l14 c14 k14
  refine ⟨PySem.W.fnOf "law" "law" (defArgs s_law) (defBody s_law) (defScope s_law) .none kV14 dc14 pm14 an14 cd14 ct14, fun s v => .of_eq rfl, fun base _ _ => ?_⟩
  have G_has := ok_has (P := l.prog) (w := w) (base := base) F_has T 
  have G_base_of := ok_base_of (P := l.prog) (w := w) (base := base) F_base_of T 
  have G_weights_of := ok_weights_of (P := l.prog) (w := w) (base := base) F_weights_of T G_base_of F_base_of b_base_of
  have G_above_price := ok_above_price (P := l.prog) (w := w) (base := base) F_above_price T 
  have G_priced := ok_priced (P := l.prog) (w := w) (base := base) F_priced T G_above_price F_above_price b_above_price G_has F_has b_has
  have G_law_cell_at := ok_law_cell_at (P := l.prog) (w := w) (base := base) F_law_cell_at T 
  have G_law_mixed := ok_law_mixed (P := l.prog) (w := w) (base := base) F_law_mixed T 
  have G_law_ground := ok_law_ground (P := l.prog) (w := w) (base := base) F_law_ground T G_law_cell_at F_law_cell_at b_law_cell_at G_law_mixed F_law_mixed b_law_mixed
  have G_law_fit := ok_law_fit (P := l.prog) (w := w) (base := base) F_law_fit T 
  have G_law_weight := ok_law_weight (P := l.prog) (w := w) (base := base) F_law_weight T 
  have G_law_priced := ok_law_priced (P := l.prog) (w := w) (base := base) F_law_priced T G_law_fit F_law_fit b_law_fit G_law_weight F_law_weight b_law_weight
  have G_law_drawn := ok_law_drawn (P := l.prog) (w := w) (base := base) F_law_drawn T G_law_mixed F_law_mixed b_law_mixed G_law_weight F_law_weight b_law_weight
  have G_law_weights_stand := ok_law_weights_stand (P := l.prog) (w := w) (base := base) F_law_weights_stand T G_law_weight F_law_weight b_law_weight G_weights_of F_weights_of b_weights_of
  exact ok_law F_law T G_law_cell_at F_law_cell_at b_law_cell_at G_law_drawn F_law_drawn b_law_drawn G_law_ground F_law_ground b_law_ground G_law_mixed F_law_mixed b_law_mixed G_law_priced F_law_priced b_law_priced G_law_weights_stand F_law_weights_stand b_law_weights_stand G_priced F_priced b_priced G_weights_of F_weights_of b_weights_of
theorem walk {l : PySem.W.OpenLaw} {q : Program} {loose : List Str} {XP : (Str → Option Value) → Heap → Prop} {YP : World → Heap → Prop} {d : DefRec} {K : Params → PySem.W.Frag} (hn : l.most = some 63) (hdf : d.params.defaults = [])
    (hY : ∀ (w : World) (h : Heap), YP w h → (K w.params).In h)
    (F : ∀ (w : World) (mg : Str → Option Value) (fa : Addr) (h : Heap), (K w.params).In h → h.Ns mainGlobals mg → mg d.name = some (.ref fa) →
      ∃ fd : FuncData, (∀ (s : Shared) (u : Value), BindsTo s fd ⟨[u], []⟩ [("_law_script", u)]) ∧ ∀ base : Heap, (K w.params).In base → base.Ns mainGlobals mg → FnOk l.prog w (K w.params) mg base CX0 4 fa fd ["_law_script"] (sp_law (K w.params))) :
    PySem.W.WalkO q loose XP YP l.row.toRowW d [] (fun f vs => PySem.call f vs) :=
  L2.walk_of (n := 63) (k := 4) (x := "_law_script") (CX := fun _ => CX0) (sp := fun w => sp_law (K w.params)) hn (by decide) hdf ⟨rfl, by decide, by decide⟩ hY F (fun _ _ a ns hl _ hS => ⟨a, ns, rfl, hS, hl, fun _ => rfl⟩) fun _ _ _ _ _ z => z
end K61
open PySem PySem.W PyProof.Rows
set_option maxRecDepth 100000 in
set_option maxHeartbeats 0 in
theorem PySem.Challenge.cw_court_k61_weights_and_prices_holds : PySem.Challenge.rw_court_k61_weights_and_prices.Holds := by
  w_on; o_law; k_head; (case hw => w_witness2)
  k_fill
  refine K61.walk (l := PySem.Challenge.rw_court_k61_weights_and_prices) rfl rfl (fun w h Y => PySem.W.kIn_of Y) ?F
  case F =>
    intro w mg fa h KX G hmg
    refine' K61.all_mk KX G hmg ?a1 ?l1 ?c1 ?k1 ?a2 ?l2 ?c2 ?k2 ?a3 ?l3 ?c3 ?k3 ?a4 ?l4 ?c4 ?k4 ?a5 ?l5 ?c5 ?k5 ?a6 ?l6 ?c6 ?k6 ?a7 ?l7 ?c7 ?k7 ?a8 ?l8 ?c8 ?k8 ?a9 ?l9 ?c9 ?k9 ?a10 ?l10 ?c10 ?k10 ?a11 ?l11 ?c11 ?k11 ?a12 ?l12 ?c12 ?k12 ?a13 ?l13 ?c13 ?k13 ?a14 ?l14 ?c14 ?k14 ?z_enumerate ?z_int ?z_isinstance ?z_len ?z_list ?z_max ?z_min ?z_range ?z_sum ?z_zip
    (case a1 => k_is)
    (case l1 => k_is)
    (case c1 => k_is)
    (case k1 => k_is)
    (case a2 => k_is)
    (case l2 => k_is)
    (case c2 => k_is)
    (case k2 => k_is)
    (case a3 => k_is)
    (case l3 => k_is)
    (case c3 => k_is)
    (case k3 => k_is)
    (case a4 => k_is)
    (case l4 => k_is)
    (case c4 => k_is)
    (case k4 => k_is)
    (case a5 => k_is)
    (case l5 => k_is)
    (case c5 => k_is)
    (case k5 => k_is)
    (case a6 => k_is)
    (case l6 => k_is)
    (case c6 => k_is)
    (case k6 => k_is)
    (case a7 => k_is)
    (case l7 => k_is)
    (case c7 => k_is)
    (case k7 => k_is)
    (case a8 => k_is)
    (case l8 => k_is)
    (case c8 => k_is)
    (case k8 => k_is)
    (case a9 => k_is)
    (case l9 => k_is)
    (case c9 => k_is)
    (case k9 => k_is)
    (case a10 => k_is)
    (case l10 => k_is)
    (case c10 => k_is)
    (case k10 => k_is)
    (case a11 => k_is)
    (case l11 => k_is)
    (case c11 => k_is)
    (case k11 => k_is)
    (case a12 => k_is)
    (case l12 => k_is)
    (case c12 => k_is)
    (case k12 => k_is)
    (case a13 => k_is)
    (case l13 => k_is)
    (case c13 => k_is)
    (case k13 => k_is)
    (case a14 => k_is)
    (case l14 => k_is)
    (case c14 => k_is)
    (case k14 => k_is)
    (case z_enumerate => k_is)
    (case z_int => k_is)
    (case z_isinstance => k_is)
    (case z_len => k_is)
    (case z_list => k_is)
    (case z_max => k_is)
    (case z_min => k_is)
    (case z_range => k_is)
    (case z_sum => k_is)
    (case z_zip => k_is)
#print axioms PySem.Challenge.cw_court_k61_weights_and_prices_holds
