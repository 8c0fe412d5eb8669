import PyProof.Rows.All
import Wide.All
import OpenK.AllK
import Wide.FinOn
import Lean
import PyProof.EqAt
import PyProof.EqKinds
import PyProof.TupleCall
import PySem.Challenge.RW_court_k21_whole_courses_read_back
set_option Elab.async false
set_option linter.all false
set_option maxRecDepth 100000
namespace L2
open PySem PySem.Spec PyProof.Rows
abbrev Key := Sum Int Str
def keyIs : Key → Value → Bool
  | .inl k, v => Value.isInt k v
  | .inr x, v => Value.isStrOf x v
def keyH (w : World) : Key → Int
  | .inl k => hashInt k
  | .inr x => hashStr w x
theorem keyIs_shape : ∀ {k : Key} {v : Value}, keyIs k v = true → (∃ i t, k = Sum.inl i ∧ v = Value.int i t) ∨ (∃ x t, k = Sum.inr x ∧ v = Value.str x t)
  | .inl i, v, h => by
    obtain ⟨t, e⟩ := Value.isInt_shape (k := i) (v := v) h
    exact .inl ⟨i, t, rfl, e⟩
  | .inr x, v, h => by
    obtain ⟨t, e⟩ := Value.isStrOf_shape (x := x) (v := v) h
    exact .inr ⟨x, t, rfl, e⟩
theorem key_ll (a b : Int) : decide ((Sum.inl a : Key) = Sum.inl b) = (a == b) := by
  by_cases e : a = b
  · subst e; simp
  · have h : ¬ (Sum.inl a : Key) = Sum.inl b := fun q => e (Sum.inl.inj q)
    rw [decide_eq_false h]
    exact (beq_eq_false_iff_ne.mpr e).symm
theorem key_rr (a b : Str) : decide ((Sum.inr a : Key) = Sum.inr b) = decide (a = b) := by
  by_cases e : a = b
  · subst e; simp
  · have h : ¬ (Sum.inr a : Key) = Sum.inr b := fun q => e (Sum.inr.inj q)
    rw [decide_eq_false h, decide_eq_false e]
theorem key_lr (a : Int) (b : Str) : decide ((Sum.inl a : Key) = Sum.inr b) = false := decide_eq_false (fun q => nomatch q)
theorem key_rl (a : Str) (b : Int) : decide ((Sum.inr a : Key) = Sum.inl b) = false := decide_eq_false (fun q => nomatch q)
def mixKind (prog : Program) (w : World) : PySem.KeyKind prog w Key where
  is := keyIs
  hash := keyH w
  inj := fun v a b ha hb => by
    rcases keyIs_shape ha with ⟨i, t, rfl, rfl⟩ | ⟨x, t, rfl, rfl⟩
    · rcases keyIs_shape hb with ⟨j, u, rfl, e⟩ | ⟨y, u, rfl, e⟩
      · injection e with e1 _; rw [e1]
      · exact nomatch e
    · rcases keyIs_shape hb with ⟨j, u, rfl, e⟩ | ⟨y, u, rfl, e⟩
      · exact nomatch e
      · injection e with e1 _; rw [e1]
  byValue := fun k v h => by
    rcases keyIs_shape h with ⟨i, t, rfl, rfl⟩ | ⟨x, t, rfl, rfl⟩ <;> rfl
  pyHash := fun hv h => by
    rcases keyIs_shape hv with ⟨i, t, rfl, rfl⟩ | ⟨x, t, rfl, rfl⟩
    · exact wpAny_pyHash_int h
    · exact wpAny_pyHash_str h
  eqBool := fun hu hv h => by
    rcases keyIs_shape hu with ⟨i, t, rfl, rfl⟩ | ⟨x, t, rfl, rfl⟩
    · rcases keyIs_shape hv with ⟨j, u, rfl, rfl⟩ | ⟨y, u, rfl, rfl⟩
      · rw [key_ll] at h; exact wpAny_eqBool_int h
      · rw [key_lr] at h; exact SeqAt.EqAt.int_str i t y u _ _ _ _ h
    · rcases keyIs_shape hv with ⟨j, u, rfl, rfl⟩ | ⟨y, u, rfl, rfl⟩
      · rw [key_rl] at h; exact SeqAt.EqAt.str_int x t j u _ _ _ _ h
      · rw [key_rr] at h; exact wpAny_eqBool_str h
  «strs» := fun k x t v h => by
    rcases keyIs_shape h with ⟨i, u, rfl, e⟩ | ⟨y, u, rfl, e⟩
    · exact nomatch e
    · injection e with e1 _
      subst e1
      cases v <;> rfl
end L2
namespace L2
open PySem PySem.Spec PyProof.Rows
inductive V where
  | non | bl (b : Bool) | int (i : Int) | str (x : Str) | byt (b : Array UInt8) | flt (b : UInt64) | ref (a : Addr) | ty (n : String)
  deriving DecidableEq
def RelV : V → Value → Prop
  | .non, u => u = Value.none
  | .bl b, u => u = Value.bool b
  | .int i, u => ∃ t, u = Value.int i t
  | .str x, u => ∃ t, u = Value.str x t
  | .byt b, u => ∃ t, u = Value.bytes b t
  | .flt b, u => ∃ t, u = Value.float b t
  | .ref a, u => u = Value.ref a
  | .ty n, u => u = Value.type n
abbrev Vals : List V → List Value → Prop := Paired RelV
theorem Vals.length {xs : List V} {us : List Value} (r : Vals xs us) : xs.length = us.length := Paired.length r
theorem Vals.get : ∀ {xs : List V} {us : List Value} {i : Nat} {x : V}, Vals xs us → xs[i]? = some x → ∃ u, us[i]? = some u ∧ RelV x u
  | _, _, _, _, .nil, e => by simp at e
  | _, _, 0, _, .cons r _, e => by simp at e; subst e; exact ⟨_, rfl, r⟩
  | _, _, i + 1, x, .cons _ t, e => by
    obtain ⟨u, h1, h2⟩ := Vals.get (i := i) (x := x) t (by simpa using e)
    exact ⟨u, by simpa using h1, h2⟩
theorem Vals.set {x : V} {u : Value} (r : RelV x u) : ∀ {xs : List V} {us : List Value} (i : Nat), Vals xs us → Vals (xs.set i x) (us.set i u)
  | _, _, _, .nil => .nil
  | _, _, 0, .cons _ t => .cons r t
  | _, _, i + 1, .cons q t => .cons q (Vals.set r i t)
theorem Vals.append : ∀ {xs ys : List V} {us ws : List Value}, Vals xs us → Vals ys ws → Vals (xs ++ ys) (us ++ ws)
  | _, _, _, _, .nil, s => s
  | _, _, _, _, .cons r t, s => .cons r (Vals.append t s)
theorem Vals.take : ∀ {xs : List V} {us : List Value} (n : Nat), Vals xs us → Vals (xs.take n) (us.take n)
  | _, _, 0, _ => .nil
  | _, _, _ + 1, .nil => .nil
  | _, _, n + 1, .cons r t => .cons r (Vals.take n t)
theorem Vals.drop : ∀ {xs : List V} {us : List Value} (n : Nat), Vals xs us → Vals (xs.drop n) (us.drop n)
  | _, _, 0, r => r
  | _, _, _ + 1, .nil => .nil
  | _, _, n + 1, .cons _ t => Vals.drop n t
theorem Vals.none_of : ∀ {xs : List V} {us : List Value} {i : Nat}, Vals xs us → xs[i]? = none → us[i]? = none := fun {xs us i} r e => by
  have h1 := r.length
  have h2 : xs.length ≤ i := List.getElem?_eq_none_iff.mp e
  exact List.getElem?_eq_none_iff.mpr (by omega)
def RelO : Option V → Option Value → Prop
  | some v, some u => RelV v u
  | none, none => True
  | _, _ => False
def KV {κ : Type} : List (κ × V) → List (κ × Value) → Prop := Paired fun (p : κ × V) (q : κ × Value) => p.1 = q.1 ∧ RelV p.2 q.2
def kV : Key → V
  | .inl i => .int i
  | .inr x => .str x
inductive HO where
    | lst (xs : List V)
    | tup (xs : List V)
    | dK (kvs : List (Key × V)) | dT (kvs : List (List Key × V))
    | set (S : Int → Bool) (n : Nat)
    | ins (C dx : Addr) (fs : List (Str × V))
    | own (x : Addr)
    | xd (fs : List (Str × V))
    | met (f x : Addr)
    | rng (lo hi : Int)
    | frz (o : Obj) (u : HO)
    | tbl (ps : Array Value)
    | ext (φ : Heap → Prop)
abbrev Hp := Addr → Option HO
def upd (H : Hp) (a : Addr) (o : HO) : Hp := fun b => if b = a then some o else H b
theorem upd_same {H : Hp} {a : Addr} {o : HO} : upd H a o a = some o := by unfold upd; rw [if_pos rfl]
theorem upd_ne {H : Hp} {a b : Addr} {o : HO} (h : b ≠ a) : upd H a o b = H b := by unfold upd; rw [if_neg h]
theorem ne_of {H : Hp} {a b : Addr} {o u : HO} (h : H a = some o) (h' : H b = some u) (d : o ≠ u) : a ≠ b := by
  intro e; subst e; rw [h] at h'; exact d (Option.some.inj h')
theorem ne_of_none {H : Hp} {a b : Addr} {o : HO} (h : H a = some o) (h' : H b = none) : a ≠ b := by
  intro e; subst e; rw [h] at h'; cases h'
section
variable (P : Program) (w : World)
def ObjOk (H : Hp) (h : Heap) (a : Addr) : HO → Prop
  | .lst xs => xs.length ≤ sizeLine ∧ ∃ (its : List Value) (n : Nat), Vals xs its ∧ h.get? a = some { cls := .type "list", data := .seq its.toArray n }
  | .tup xs => xs.length ≤ sizeLine ∧ ∃ its : List Value, Vals xs its ∧ IsTup h a its.toArray
  | .dK kvs => kvs.length ≤ sizeLine ∧ (a == sysModules) = false ∧ ∃ vs, KV kvs vs ∧ h.DictOf (mixKind P w) a vs
  | .dT kvs => kvs.length ≤ sizeLine ∧ (a == sysModules) = false ∧ ∃ xs : List (List Key × Addr × Value),
      Paired (fun (p : List Key × V) (q : List Key × Addr × Value) => p.1 = q.1 ∧ H q.2.1 = some (.tup (p.1.map kV)) ∧ RelV p.2 q.2.2) kvs xs ∧
      ∃ o es ep, h.get? a = some o ∧ o.ExactDict ∧ o.data = .dict es ep ∧ es.toList = xs.map (entryOfKey (tupleKind (mixKind P w))) ∧ (xs.map (·.1)).Nodup
  | .set S n => h.SetOf (intKind P w) a S n
  | .ins C dx fs => H dx = some (.own a) ∧ fs.length ≤ 1000 ∧ dx ≠ a ∧ h.get? a = some (PySem.W.instObj C dx) ∧
      ∃ mA, h.Ns1 dx mA ∧ (∀ f, RelO (fs.lookup f) (mA f)) ∧ PySem.Within mA (fs.map (·.1))
  | .own _ => ∃ o, h.get? a = some o
  | .xd fs => ∃ mA, h.Ns1 a mA ∧ ∀ f, RelO (fs.lookup f) (mA f)
  | .rng lo hi => ∃ t u v, h.get? a = some { cls := .type "range", data := .fields #[.int lo t, .int hi u, .int 1 v] }
  | .frz o u => h.get? a = some o ∧ ObjOk H h a u
  | .tbl ps => h.get? a = some { cls := .none, data := .fields ps }
  | .met f x => h.get? a = some (PySem.W.methodObj (.ref f) (.ref x))
  | .ext φ => φ h ∧ (∃ o, h.get? a = some o) ∧ ∀ h1 h2 : Heap, φ h1 → (∀ o, h1.get? a = some o → h2.get? a = some o) → φ h2
def HOk (H : Hp) (h : Heap) : Prop := ∀ a o, H a = some o → ObjOk P w H h a o
end
section
variable {P : Program} {w : World} {H H' : Hp} {h h' : Heap} {a : Addr} {o : HO}
theorem ObjOk.lt (x : ObjOk P w H h a o) : a < h.objs.size := by
  cases o with
  | lst xs => obtain ⟨_, _, _, _, e⟩ := x; exact Heap.lt_size e
  | tup xs => obtain ⟨_, _, _, p⟩ := x; exact p.lt
  | dK kvs => obtain ⟨_, _, _, _, o, _, _, e, _⟩ := x; exact Heap.lt_size e
  | dT kvs => obtain ⟨_, _, _, _, o, _, _, e, _⟩ := x; exact Heap.lt_size e
  | set S n => obtain ⟨o, _, _, _, e, _⟩ := x; exact Heap.lt_size e
  | ins C dx fs => obtain ⟨_, _, _, e, _⟩ := x; exact Heap.lt_size e
  | own y => obtain ⟨_, e⟩ := x; exact Heap.lt_size e
  | xd fs => obtain ⟨_, ⟨_, _, _, e, _⟩, _⟩ := x; exact Heap.lt_size e
  | rng lo hi => obtain ⟨_, _, _, e⟩ := x; exact Heap.lt_size e
  | frz ob u => obtain ⟨e, _⟩ := x; exact Heap.lt_size e
  | tbl ps => exact Heap.lt_size (show h.get? a = some _ from x)
  | met f y => exact Heap.lt_size (show h.get? a = some _ from x)
  | ext φ => obtain ⟨_, ⟨_, e⟩, _⟩ := x; exact Heap.lt_size e
theorem Paired.mapP {α β : Type} {F G : α → β → Prop} : ∀ {l₁ : List α} {l₂ : List β}, Paired F l₁ l₂ → (∀ a b, F a b → G a b) → Paired G l₁ l₂
  | _, _, .nil, _ => .nil
  | _, _, .cons r t, f => .cons (f _ _ r) (Paired.mapP t f)
theorem ObjOk.stay (x : ObjOk P w H h a o) (k : ∀ b u, (b = a ∨ H b = some (.own a)) → h.get? b = some u → h'.get? b = some u)
    (ho : ∀ b, H b = some (.own a) → H' b = some (.own a)) (ht : ∀ b xs, H b = some (.tup xs) → H' b = some (.tup xs)) : ObjOk P w H' h' a o := by
  induction o with
  | lst xs => obtain ⟨z, its, n, r, e⟩ := x; exact ⟨z, its, n, r, k _ _ (.inl rfl) e⟩
  | tup xs => obtain ⟨z, its, r, ob, e, c⟩ := x; exact ⟨z, its, r, ob, k _ _ (.inl rfl) e, c⟩
  | dK kvs => obtain ⟨z, y, vs, r, ob, es, ep, e, c⟩ := x; exact ⟨z, y, vs, r, ob, es, ep, k _ _ (.inl rfl) e, c⟩
  | dT kvs =>
    obtain ⟨z, y, xs, r, ob, es, ep, e, c⟩ := x
    exact ⟨z, y, xs, Paired.mapP r fun p q z => ⟨z.1, ht _ _ z.2.1, z.2.2⟩, ob, es, ep, k _ _ (.inl rfl) e, c⟩
  | set S n => obtain ⟨ob, es, ep, t, e, c⟩ := x; exact ⟨ob, es, ep, t, k _ _ (.inl rfl) e, c⟩
  | ins C dx fs =>
    obtain ⟨d, z, ne, e, mA, ⟨od, es, ep, e2, c⟩, r⟩ := x
    exact ⟨ho _ d, z, ne, k _ _ (.inl rfl) e, mA, ⟨od, es, ep, k _ _ (.inr d) e2, c⟩, r⟩
  | own y => obtain ⟨ob, e⟩ := x; exact ⟨ob, k _ _ (.inl rfl) e⟩
  | xd fs => obtain ⟨mA, ⟨od, es, ep, e, c⟩, r⟩ := x; exact ⟨mA, ⟨od, es, ep, k _ _ (.inl rfl) e, c⟩, r⟩
  | rng lo hi => obtain ⟨t, u, v, e⟩ := x; exact ⟨t, u, v, k _ _ (.inl rfl) e⟩
  | frz ob u ih => obtain ⟨e, q⟩ := x; exact ⟨k _ _ (.inl rfl) e, ih q⟩
  | tbl ps =>
    have e : h.get? a = some { cls := .none, data := .fields ps } := x
    show h'.get? a = some { cls := .none, data := .fields ps }
    exact k a _ (.inl rfl) e
  | met f y =>
    have e : h.get? a = some (PySem.W.methodObj (.ref f) (.ref y)) := x
    show h'.get? a = some (PySem.W.methodObj (.ref f) (.ref y))
    exact k a _ (.inl rfl) e
  | ext φ => obtain ⟨p, ⟨o, e⟩, st⟩ := x; exact ⟨st _ _ p fun o q => k _ _ (.inl rfl) q, ⟨o, k _ _ (.inl rfl) e⟩, st⟩
theorem HOk.lt (x : HOk P w H h) (e : H a = some o) : a < h.objs.size := (x a o e).lt
theorem HOk.fresh (x : HOk P w H h) (e : h.objs.size ≤ a) : H a = none := by
  cases q : H a with
  | none => rfl
  | some u => exact absurd (Nat.lt_of_lt_of_le (x.lt q) e) (Nat.lt_irrefl _)
theorem HOk.kept (x : HOk P w H h) (k : ∀ b u, h.get? b = some u → h'.get? b = some u) : HOk P w H h' := fun a o e =>
  (x a o e).stay (fun b u _ q => k b u q) (fun _ q => q) fun _ _ q => q
theorem HOk.laid (x : HOk P w H h) (k : ∀ b u, h.get? b = some u → h'.get? b = some u) (hp : h.objs.size ≤ a) (new : ObjOk P w (upd H a o) h' a o) : HOk P w (upd H a o) h' := fun b u e => by
  have hn := x.fresh hp
  by_cases hb : b = a
  · subst hb; rw [upd_same] at e; cases e; exact new
  · rw [upd_ne hb] at e
    exact (x b u e).stay (fun c v _ q => k c v q) (fun c q => by rw [upd_ne (ne_of_none q hn)]; exact q) fun c xs q => by rw [upd_ne (ne_of_none q hn)]; exact q
end
def Rd (H : Hp) (a : Addr) (u : HO) : Prop := H a = some u ∨ ∃ o, H a = some (.frz o u)
theorem Rd.of {H : Hp} {a : Addr} {u : HO} (h : H a = some u) : Rd H a u := .inl h
theorem Rd.ok {P : Program} {w : World} {H : Hp} {h : Heap} {a : Addr} {u : HO} (r : Rd H a u) (x : HOk P w H h) : ObjOk P w H h a u := by
  rcases r with r | ⟨o, r⟩
  · exact x a u r
  · obtain ⟨_, q⟩ := x a _ r
    exact q
def Mut : Option HO → Prop
  | some (.lst _) => True
  | some (.dK _) => True
  | some (.dT _) => True
  | some (.set _ _) => True
  | some (.ins _ _ _) => True
  | some (.ext _) => True
  | _ => False
section
variable {P : Program} {w : World} {H : Hp} {h h' : Heap} {x e : Addr} {o' : HO}
theorem HOk.write (ok : HOk P w H h) (mu : Mut (H x)) (he : e = x ∨ H e = some (.own x)) (k : ∀ b u, b ≠ e → h.get? b = some u → h'.get? b = some u) (heo : ∃ u, h'.get? e = some u)
    (new : ObjOk P w (upd H x o') h' x o') : HOk P w (upd H x o') h' := fun b u q => by
  have nown : ∀ c y, H c = some (.own y) → c ≠ x := fun c y r z => by subst z; rw [r] at mu; exact mu
  have ntup : ∀ c xs, H c = some (.tup xs) → c ≠ x := fun c xs r z => by subst z; rw [r] at mu; exact mu
  by_cases hb : b = x
  · subst hb; rw [upd_same] at q; cases q; exact new
  · rw [upd_ne hb] at q
    by_cases hbe : b = e
    · have q' : H b = some (.own x) := by
        rcases he with z | z
        · exact absurd (hbe.trans z) hb
        · rw [hbe]; exact z
      rw [q] at q'; cases q'
      obtain ⟨v, hv⟩ := heo
      exact ⟨v, by rw [hbe]; exact hv⟩
    · refine (ok b u q).stay (fun c v hc r => k c v ?_ r) (fun c r => by rw [upd_ne (nown c b r)]; exact r) fun c xs r => by rw [upd_ne (ntup c xs r)]; exact r
      rcases hc with rfl | hc
      · exact hbe
      · rintro rfl
        rcases he with z | z
        · exact nown c b hc z
        · rw [hc] at z; cases z; exact hb rfl
end
structure Un (fs ex : List Addr) (H H' : Hp) (h h' : Heap) : Prop where
  keep : ∀ b o, h.get? b = some o → H b = none → b ∉ fs → b ∉ ex → h'.get? b = some o
  slot : ∀ b o, h.get? b = some o → H b = none → b ∈ fs → b ∉ ex → ∃ sl, h'.get? b = some { o with slots := sl }
  free : ∀ b o, h.get? b = some o → H b = none → b ∉ ex → H' b = none
  there : ∀ b o, h.get? b = some o → b ∉ ex → ∃ o', h'.get? b = some o'
  tups : ∀ b xs, H b = some (.tup xs) → H' b = some (.tup xs)
  frzs : ∀ b o u, H b = some (.frz o u) → H' b = some (.frz o u)
  tbls : ∀ b ps, H b = some (.tbl ps) → ∃ more, H' b = some (.tbl (ps ++ more))
section
variable {fs fs' ex ex' : List Addr} {H H1 H2 : Hp} {h h1 h2 h' : Heap} {a x e : Addr} {o : HO}
theorem Un.any (u : Un fs ex H H1 h h1) {b : Addr} {ob : Obj} (q : h.get? b = some ob) (n : H b = none) (hx : b ∉ ex) : ∃ sl, h1.get? b = some { ob with slots := sl } := by
  by_cases hb : b ∈ fs
  · exact u.slot b ob q n hb hx
  · exact ⟨ob.slots, u.keep b ob q n hb hx⟩
theorem Un.trans (a : Un fs ex H H1 h h1) (b : Un fs ex H1 H2 h1 h2) : Un fs ex H H2 h h2 where
  keep := fun c ob q n hc hx => b.keep c ob (a.keep c ob q n hc hx) (a.free c ob q n hx) hc hx
  slot := fun c ob q n hc hx => by
    obtain ⟨sl, e1⟩ := a.slot c ob q n hc hx
    obtain ⟨sl', e2⟩ := b.slot c _ e1 (a.free c ob q n hx) hc hx
    exact ⟨sl', e2⟩
  free := fun c ob q n hx => by
    obtain ⟨o', e1⟩ := a.there c ob q hx
    exact b.free c o' e1 (a.free c ob q n hx) hx
  there := fun c ob q hx => by
    obtain ⟨o', e1⟩ := a.there c ob q hx
    exact b.there c o' e1 hx
  tups := fun c xs q => b.tups c xs (a.tups c xs q)
  frzs := fun c ob xs q => b.frzs c ob xs (a.frzs c ob xs q)
  tbls := fun c ps q => by
    obtain ⟨m1, e1⟩ := a.tbls c ps q
    obtain ⟨m2, e2⟩ := b.tbls c _ e1
    exact ⟨m1 ++ m2, by rw [e2, Array.append_assoc]⟩
theorem Un.kept (k : ∀ b u, h.get? b = some u → h'.get? b = some u) : Un fs ex H H h h' :=
  ⟨fun b ob q _ _ _ => k b ob q, fun b ob q _ _ _ => ⟨ob.slots, k b ob q⟩, fun _ _ _ n _ => n, fun b ob q _ => ⟨ob, k b ob q⟩, fun _ _ q => q, fun _ _ _ q => q, fun _ ps q => ⟨#[], by rw [q]; simp⟩⟩
theorem Un.refl : Un fs ex H H h h := Un.kept fun _ _ q => q
theorem Un.laid (k : ∀ b u, h.get? b = some u → h'.get? b = some u) (hp : h.objs.size ≤ a) (hn : H a = none) : Un fs ex H (upd H a o) h h' where
  keep := fun b u q _ _ _ => k b u q
  slot := fun b u q _ _ _ => ⟨u.slots, k b u q⟩
  free := fun b u q n _ => by rw [upd_ne (Nat.ne_of_lt (Nat.lt_of_lt_of_le (Heap.lt_size q) hp))]; exact n
  there := fun b u q _ => ⟨u, k b u q⟩
  tups := fun b xs q => by rw [upd_ne (ne_of_none q hn)]; exact q
  frzs := fun b u xs q => by rw [upd_ne (ne_of_none q hn)]; exact q
  tbls := fun b ps q => ⟨#[], by rw [upd_ne (ne_of_none q hn), q]; simp⟩
theorem Un.write (mu : Mut (H x)) (he : e = x ∨ H e = some (.own x)) (k : ∀ b u, b ≠ e → h.get? b = some u → h'.get? b = some u) (heo : ∃ u, h'.get? e = some u) : Un fs ex H (upd H x o) h h' := by
  have hx : ∀ b, H b = none → b ≠ x := fun b n z => by subst z; rw [n] at mu; exact mu
  have hb : ∀ b, H b = none → b ≠ e := fun b n z => by
    subst z
    rcases he with r | r
    · exact hx b n r
    · rw [n] at r; cases r
  have hm : ∀ b u, H b = some u → ¬ Mut (some u) → b ≠ x := fun b u q nm z => by subst z; rw [q] at mu; exact nm mu
  refine ⟨fun b u q n _ _ => k b u (hb b n) q, fun b u q n _ _ => ⟨u.slots, k b u (hb b n) q⟩, fun b u q n _ => by rw [upd_ne (hx b n)]; exact n, fun b u q _ => ?_,
    fun b xs q => by rw [upd_ne (hm b _ q fun z => z)]; exact q, fun b u xs q => by rw [upd_ne (hm b _ q fun z => z)]; exact q, fun b ps q => ⟨#[], by rw [upd_ne (hm b _ q fun z => z), q]; simp⟩⟩
  by_cases hbe : b = e
  · subst hbe; exact heo
  · exact ⟨u, k b u hbe q⟩
theorem Un.mono (u : Un fs ex H H1 h h1) (hs : ∀ b ∈ fs, b ∈ fs') (hx : ∀ b ∈ ex, b ∈ ex') : Un fs' ex' H H1 h h1 :=
  ⟨fun b ob q n hb he => u.keep b ob q n (fun z => hb (hs b z)) fun z => he (hx b z), fun _ _ q n _ he => u.any q n fun z => he (hx _ z), fun b ob q n he => u.free b ob q n fun z => he (hx b z), fun b ob q he => u.there b ob q fun z => he (hx b z), u.tups, u.frzs, u.tbls⟩
end
def trk (h : Heap) (H : Hp) : List Addr := (List.range h.objs.size).filter fun a => (H a).isSome
def hidT (h : Heap) (H : Hp) : Heap := PySem.W.hideAll h (trk h H)
theorem hidT_size (h : Heap) (H : Hp) : (hidT h H).objs.size = h.objs.size := PySem.W.hideAll_size _ _
theorem hidT_get {h : Heap} {H : Hp} {b : Addr} {o : Obj} (e : h.get? b = some o) (n : H b = none) : (hidT h H).get? b = some o :=
  PySem.W.hideAll_get _ e fun hm => by
    have q : (H b).isSome = true := (List.mem_filter.mp hm).2
    rw [n] at q; simp at q
theorem of_hidT {h : Heap} {H : Hp} {b : Addr} {o : Obj} (e : (hidT h H).get? b = some o) : h.get? b = some o ∧ H b = none := by
  have e' : h.get? b = some o := PySem.W.of_hideAll (trk h H) e
  refine ⟨e', ?_⟩
  cases q : H b with
  | none => rfl
  | some x =>
    have hm : b ∈ trk h H := List.mem_filter.mpr ⟨List.mem_range.mpr (Heap.lt_size e'), by simp [q]⟩
    have z : (hidT h H).get? b = none := PySem.W.hideAll_none (trk h H) hm
    rw [z] at e; cases e
def allNews (g h : Heap) (L : Addr) : List (Addr × Obj) := (List.range h.objs.size).filterMap fun a => if a = L ∨ (g.get? a).isSome = true then none else (h.get? a).map fun o => (a, o)
def rest (g h : Heap) (L d : Addr) : List (Addr × Obj) := (allNews g h L).filter fun p => decide (p.1 ≠ d)
end L2
namespace L2
open PySem PySem.Spec PyProof.Rows
structure Mod (K : PySem.W.Frag) (mg : Str → Option Value) (base : Heap) : Prop where
  kin : K.In base
  glob : base.Ns mainGlobals mg
  blt : ∃ mb, base.Ns builtinsNs mb ∧ ∀ x : Str, x ≠ "__name__" → mb x = bootBuiltins x
  nolimit : base.NoLimit
structure Cx where
  prog : Program
  w : World
  K : PySem.W.Frag
  mg : Str → Option Value
  base : Heap
  A : Around
  N : List Str
  s₀ : Shared
  H₀ : Hp
  env : Env
  outer : List Env
  stack : List Env
  ex : List Addr
  fn : Str → Bool
  calm : Bool
  pn : List (Addr × Obj)
  xe : Value → Shared → Prop
def frs (l : List Env) : List Addr := l.filterMap (·.frame)
abbrev Cx.fs (X : Cx) : List Addr := frs X.outer
def Vis (sc : Scope) (x : Str) : Prop := sc.names.lookup x = some .local ∨ sc.names.lookup x = some .cell ∨ sc.names.lookup x = some .free
def Loc (sc : Scope) (x : Str) : Prop := sc.names.lookup x = some .local ∨ sc.names.lookup x = some .cell
def Look (env : Env) (h : Heap) (m : Str → Option Value) (x : Str) (u : Value) : Prop :=
  (env.kindOf x = some .local ∧ m x = some u) ∨ ((env.kindOf x = some .cell ∨ env.kindOf x = some .free) ∧ ∃ c, env.cells.lookup x = some c ∧ h.IsCell c (some u))
structure Cx.Ok (X : Cx) : Prop where
  mod : Mod X.K X.mg X.base
  kind : X.env.scope.kind = .function
  glob : X.env.globals = mainGlobals
  blt : X.env.builtins = builtinsNs
  above : X.s₀.heap.objs.size ≤ X.env.locals
  inj : ∀ x y c, X.env.cells.lookup x = some c → X.env.cells.lookup y = some c → x = y
  has : ∀ x, (X.env.kindOf x = some .cell ∨ X.env.kindOf x = some .free) → ∃ c, X.env.cells.lookup x = some c
  cab : ∀ x c, X.fn x = true → X.env.cells.lookup x = some c → X.s₀.heap.objs.size ≤ c
  hd : X.calm = true → X.A.handled = none
  frames : X.A.frames = some X.stack
  stk : X.stack = X.outer ∨ (X.stack = X.env :: X.outer ∧ X.env.frame = some X.env.locals)
  exf : ∀ b ∈ X.ex, b ≠ X.env.locals ∧ ∀ x c, X.env.cells.lookup x = some c → c ≠ b
  bs : ∀ b o, X.base.get? b = some o → X.s₀.heap.get? b = some o ∧ X.H₀ b = none
  bsz : X.base.objs.size ≤ X.s₀.heap.objs.size
  noex : ∀ b o, X.base.get? b = some o → b ∉ X.ex
  exfs : ∀ b ∈ X.ex, b ∉ X.fs
  funs : X.s₀.heap.FunFrames X.base X.outer
  frf : ∀ b ∈ X.fs, X.H₀ b = none
structure Inv (X : Cx) (pins : List (Addr × Obj)) (σ : List (Option V)) (H : Hp) (s : Shared) : Prop where
  ok : X.Ok
  os : s.os = X.s₀.os
  bare : AllBare s.gens
  base : Un X.fs X.ex X.H₀ H X.s₀.heap s.heap
  loc : ∃ m, s.heap.Ns X.env.locals m ∧ ∀ (i : Nat) (x : Str) (v : V), X.N[i]? = some x → σ[i]? = some (some v) → Vis X.env.scope x → ∃ u, RelV v u ∧ Look X.env s.heap m x u
  cell : ∀ x c, X.env.cells.lookup x = some c → ∃ v, s.heap.IsCell c v
  free : H X.env.locals = none
  freeC : ∀ x c, X.env.cells.lookup x = some c → H c = none
  pin : ∀ p ∈ X.pn ++ pins, s.heap.get? p.1 = some p.2 ∧ H p.1 = none ∧ p.1 ≠ X.env.locals ∧ p.1 ∉ X.fs ∧ ∀ v, p.2.data ≠ .cell v
  hok : HOk X.prog X.w H s.heap
  len : σ.length = X.N.length
section
variable {X : Cx} {pins : List (Addr × Obj)} {σ : List (Option V)} {H H' : Hp} {s : Shared} {h' : Heap}
theorem Cx.Ok.nofr (ok : X.Ok) {b : Addr} {o : Obj} (e : X.base.get? b = some o) : b ∉ X.fs := fun hb => by
  have := (ok.funs.mem hb).1
  rw [e] at this; cases this
theorem Inv.bs (I : Inv X pins σ H s) : ∀ b o, X.base.get? b = some o → s.heap.get? b = some o ∧ H b = none := fun b o e =>
  ⟨I.base.keep b o (I.ok.bs b o e).1 (I.ok.bs b o e).2 (I.ok.nofr e) (I.ok.noex b o e), I.base.free b o (I.ok.bs b o e).1 (I.ok.bs b o e).2 (I.ok.noex b o e)⟩
theorem Inv.bk (I : Inv X pins σ H s) : ∀ b o, X.base.get? b = some o → s.heap.get? b = some o := fun b o e => (I.bs b o e).1
theorem Inv.mod (I : Inv X pins σ H s) : Mod X.K X.mg X.base := I.ok.mod
theorem Inv.kIn (I : Inv X pins σ H s) : X.K.In s.heap := I.ok.mod.kin.keeps I.bk
theorem Inv.nolimit (I : Inv X pins σ H s) : s.heap.NoLimit := I.ok.mod.nolimit.keeps I.bk
theorem Inv.lt (I : Inv X pins σ H s) : X.env.locals < s.heap.objs.size := let ⟨_, hn, _⟩ := I.loc; hn.lt
theorem Inv.sz (I : Inv X pins σ H s) : X.s₀.heap.objs.size ≤ s.heap.objs.size := Nat.le_trans I.ok.above (Nat.le_of_lt I.lt)
theorem Inv.nofs (I : Inv X pins σ H s) {a : Addr} (h : s.heap.objs.size ≤ a) : a ∉ X.fs := fun hb => by
  obtain ⟨_, o, ho, _⟩ := I.ok.funs.mem hb
  exact absurd (Nat.lt_of_lt_of_le (Heap.lt_size ho) (Nat.le_trans I.sz h)) (Nat.lt_irrefl _)
theorem Inv.cne (I : Inv X pins σ H s) : ∀ x c, X.env.cells.lookup x = some c → c ≠ X.env.locals := fun x c e z => by
  obtain ⟨v, o, ho, hd⟩ := I.cell x c e
  obtain ⟨m, ⟨o', es, ep, ho', hd', _⟩, _⟩ := I.loc
  rw [z, ho'] at ho; cases ho; rw [hd'] at hd; cases hd
theorem Inv.funs (I : Inv X pins σ H s) : s.heap.FunFrames X.base X.outer := by
  have all : ∀ (l : List Env), (∀ b ∈ frs l, b ∈ X.fs) → X.s₀.heap.FunFrames X.base l → s.heap.FunFrames X.base l := by
    intro l
    induction l with
    | nil => intro _ _; trivial
    | cons env r ih =>
      intro hs hl
      obtain ⟨hk, ⟨L, o, hf, hn, ho, hd⟩, hr⟩ := hl
      have hL : L ∈ X.fs := hs L (by unfold frs; rw [List.filterMap_cons, hf]; exact List.mem_cons_self)
      obtain ⟨sl, e⟩ := I.base.slot L o ho (I.ok.frf L hL) hL fun z => I.ok.exfs L z hL
      exact ⟨hk, ⟨L, _, hf, hn, e, hd⟩, ih (fun b hb => hs b (by unfold frs; rw [List.filterMap_cons, hf]; exact List.mem_cons_of_mem _ hb)) hr⟩
  exact all X.outer (fun _ hb => hb) I.ok.funs
theorem Inv.stack (I : Inv X pins σ H s) : s.heap.FunFrames X.base X.stack := by
  rcases I.ok.stk with e | ⟨e, hf⟩
  · rw [e]; exact I.funs
  · rw [e]
    obtain ⟨m, hn, _⟩ := I.loc
    refine .cons (by rw [I.ok.kind]; decide) hf hn ?_ I.funs
    exact Heap.get?_none_of_le (Nat.le_trans I.ok.bsz I.ok.above)
theorem Inv.stkSub (I : Inv X pins σ H s) : ∀ b ∈ frs X.stack, b ∈ X.env.locals :: X.fs := fun b hb => by
  rcases I.ok.stk with e | ⟨e, hf⟩
  · rw [e] at hb; exact List.mem_cons_of_mem _ hb
  · rw [e] at hb
    unfold frs at hb
    rw [List.filterMap_cons, hf] at hb
    exact hb
theorem Inv.stkFree (I : Inv X pins σ H s) : ∀ b ∈ frs X.stack, H b = none := fun b hb => by
  rcases List.mem_cons.mp (I.stkSub b hb) with e | hb
  · rw [e]; exact I.free
  · obtain ⟨_, o, ho, _⟩ := I.ok.funs.mem hb
    exact I.base.free b o ho (I.ok.frf b hb) fun z => I.ok.exfs b z hb
theorem Inv.step {g' : Array GenState} {t' : Nat} {d' : Drawn} {ch : List Addr} (I : Inv X pins σ H s)
    (hch : ∀ b ∈ ch, (b ∈ X.ex ∨ X.s₀.heap.objs.size ≤ b) ∧ b ≠ X.env.locals ∧ (∀ x c, X.env.cells.lookup x = some c → c ≠ b) ∧ ∀ p ∈ X.pn ++ pins, p.1 ≠ b)
    (keep : ∀ b o, b ≠ X.env.locals → b ∉ X.fs → b ∉ ch → s.heap.get? b = some o → H b = none → h'.get? b = some o)
    (slot : ∀ b o, b ≠ X.env.locals → b ∈ X.fs → b ∉ ch → s.heap.get? b = some o → H b = none → ∃ sl, h'.get? b = some { o with slots := sl }) (free : ∀ b o, b ∉ ch → s.heap.get? b = some o → H b = none → H' b = none)
    (there : ∀ b o, b ∉ ch → s.heap.get? b = some o → ∃ o', h'.get? b = some o')
    (tups : ∀ b xs, H b = some (.tup xs) → H' b = some (.tup xs)) (frzs : ∀ b o u, H b = some (.frz o u) → H' b = some (.frz o u)) (tbls : ∀ b ps, H b = some (.tbl ps) → ∃ more, H' b = some (.tbl (ps ++ more)))
    (ns : ∀ m, s.heap.Ns X.env.locals m → h'.Ns X.env.locals m) (hok : HOk X.prog X.w H' h') (hg : AllBare g') :
    Inv X pins σ H' { s with heap := h', gens := g', drawn := d', toks := t' } := by
  have neL : ∀ b o, X.s₀.heap.get? b = some o → b ≠ X.env.locals := fun b o e => Nat.ne_of_lt (Nat.lt_of_lt_of_le (Heap.lt_size e) I.ok.above)
  have neC : ∀ b o, X.s₀.heap.get? b = some o → b ∉ X.ex → b ∉ ch := fun b o e hx hb => by
    rcases (hch b hb).1 with z | z
    · exact hx z
    · exact absurd (Nat.lt_of_lt_of_le (Heap.lt_size e) z) (Nat.lt_irrefl _)
  have cellK : ∀ x c, X.env.cells.lookup x = some c → ∀ v, s.heap.IsCell c v → h'.IsCell c v := fun x c e v ⟨o, ho, hd⟩ => by
    have nch : c ∉ ch := fun z => (hch c z).2.2.1 x c e rfl
    by_cases hc : c ∈ X.fs
    · obtain ⟨sl, q⟩ := slot c o (I.cne x c e) hc nch ho (I.freeC x c e)
      exact ⟨_, q, hd⟩
    · exact ⟨o, keep c o (I.cne x c e) hc nch ho (I.freeC x c e), hd⟩
  refine ⟨I.ok, I.os, hg, ⟨fun b o e n hb hx => ?_, fun b o e n hb hx => ?_, fun b o e n hx => ?_, fun b o e hx => ?_, fun b xs e => tups b xs (I.base.tups b xs e), fun b o xs e => frzs b o xs (I.base.frzs b o xs e), fun b ps e => ?_⟩, ?_, fun x c e => ?_, ?_, fun x c e => ?_, fun p hp => ?_, hok, I.len⟩
  · exact keep b o (neL b o e) hb (neC b o e hx) (I.base.keep b o e n hb hx) (I.base.free b o e n hx)
  · obtain ⟨sl, e1⟩ := I.base.slot b o e n hb hx
    obtain ⟨sl', e2⟩ := slot b _ (neL b o e) hb (neC b o e hx) e1 (I.base.free b o e n hx)
    exact ⟨sl', e2⟩
  · obtain ⟨o', e1⟩ := I.base.there b o e hx
    exact free b o' (neC b o e hx) e1 (I.base.free b o e n hx)
  · obtain ⟨o', e1⟩ := I.base.there b o e hx
    exact there b o' (neC b o e hx) e1
  · obtain ⟨m1, e1⟩ := I.base.tbls b ps e
    obtain ⟨m2, e2⟩ := tbls b _ e1
    exact ⟨m1 ++ m2, by rw [e2, Array.append_assoc]⟩
  · obtain ⟨m, hn, hl⟩ := I.loc
    refine ⟨m, ns m hn, fun i x v e1 e2 e3 => ?_⟩
    obtain ⟨u, r, l⟩ := hl i x v e1 e2 e3
    refine ⟨u, r, ?_⟩
    rcases l with l | ⟨k, c, e, z⟩
    · exact .inl l
    · exact .inr ⟨k, c, e, cellK x c e _ z⟩
  · obtain ⟨v, z⟩ := I.cell x c e
    exact ⟨v, cellK x c e v z⟩
  · obtain ⟨m, ⟨o, _, _, ho, _⟩, _⟩ := I.loc
    exact free _ o (fun z => (hch _ z).2.1 rfl) ho I.free
  · obtain ⟨v, o, ho, hd⟩ := I.cell x c e
    exact free c o (fun z => (hch c z).2.2.1 x c e rfl) ho (I.freeC x c e)
  · obtain ⟨e, n, ne, nf, d⟩ := I.pin p hp
    have nch : p.1 ∉ ch := fun z => (hch p.1 z).2.2.2 p hp rfl
    exact ⟨keep p.1 p.2 ne nf nch e n, free p.1 p.2 nch e n, ne, nf, d⟩
theorem Inv.un {t' : Nat} (I : Inv X pins σ H s) (u : Un X.fs [] H H' s.heap h') (hok : HOk X.prog X.w H' h') : Inv X pins σ H' { s with heap := h', toks := t' } := by
  obtain ⟨m, ⟨o, es, ep, ho, r⟩, _⟩ := id I.loc
  obtain ⟨sl, hL⟩ := u.any ho I.free (by simp)
  exact I.step (g' := s.gens) (d' := s.drawn) (ch := []) (fun _ z => nomatch z) (fun b o _ hb _ e n => u.keep b o e n hb (by simp)) (fun b o _ hb _ e n => u.slot b o e n hb (by simp)) (fun b o _ e n => u.free b o e n (by simp)) (fun b o _ e => u.there b o e (by simp)) u.tups u.frzs u.tbls (fun m' hm => by
    obtain ⟨o', es', ep', ho', r'⟩ := hm
    rw [ho] at ho'; cases ho'
    exact ⟨_, es', ep', hL, r'⟩) hok I.bare
theorem Inv.call {g' : Array GenState} {t' : Nat} {d' : Drawn} {ch : List Addr} (I : Inv X pins σ H s) (u : Un (frs X.stack) ch H H' s.heap h') (hok : HOk X.prog X.w H' h') (hg : AllBare g')
    (hch : ∀ b ∈ ch, (b ∈ X.ex ∨ X.s₀.heap.objs.size ≤ b) ∧ b ≠ X.env.locals ∧ (∀ x c, X.env.cells.lookup x = some c → c ≠ b) ∧ ∀ p ∈ X.pn ++ pins, p.1 ≠ b) :
    Inv X pins σ H' { s with heap := h', gens := g', drawn := d', toks := t' } := by
  obtain ⟨m, ⟨o, es, ep, ho, r⟩, _⟩ := id I.loc
  obtain ⟨sl, hL⟩ := u.any ho I.free fun z => (hch _ z).2.1 rfl
  exact I.step (ch := ch) hch (fun b o hL hb hc e n => u.keep b o e n (fun z => (List.mem_cons.mp (I.stkSub b z)).elim hL hb) hc) (fun b o _ _ hc e n => u.any e n hc) (fun b o hc e n => u.free b o e n hc) (fun b o hc e => u.there b o e hc) u.tups u.frzs u.tbls (fun m' hm => by
    obtain ⟨o', es', ep', ho', r'⟩ := hm
    rw [ho] at ho'; cases ho'
    exact ⟨_, es', ep', hL, r'⟩) hok hg
theorem Inv.turned {t' : Nat} {it : Addr} (I : Inv X pins σ H s) (k : ∀ b o, b ≠ it → s.heap.get? b = some o → h'.get? b = some o) (hn : H it = none) (hL : it ≠ X.env.locals)
    (h1 : it ∈ X.ex ∨ X.s₀.heap.objs.size ≤ it) (h2 : ∀ x c, X.env.cells.lookup x = some c → c ≠ it) (h3 : ∀ p ∈ X.pn ++ pins, p.1 ≠ it) : Inv X pins σ H { s with heap := h', toks := t' } := by
  have nit : ∀ b u, H b = some u → b ≠ it := fun b u e z => by rw [z, hn] at e; cases e
  refine I.step (g' := s.gens) (d' := s.drawn) (ch := [it]) (fun b hb => ?_) (fun b o _ _ hc e _ => k b o (fun z => hc (by simp [z])) e) (fun b o _ _ hc e _ => ⟨o.slots, k b o (fun z => hc (by simp [z])) e⟩) (fun _ _ _ _ n => n)
    (fun b o hc e => ⟨o, k b o (fun z => hc (by simp [z])) e⟩) (fun _ _ e => e) (fun _ _ _ e => e) (fun b ps e => ⟨#[], by rw [e]; simp⟩) (fun m hm => ?_) (fun b u e => ?_) I.bare
  · have e : b = it := by simpa using hb
    subst e
    exact ⟨h1, hL, h2, h3⟩
  · obtain ⟨o, es, ep, ho, r⟩ := hm
    exact ⟨o, es, ep, k _ o (Ne.symm hL) ho, r⟩
  · refine (I.hok b u e).stay (fun c v hc q => k c v ?_ q) (fun _ q => q) fun _ _ q => q
    rcases hc with z | z
    · rw [z]; exact nit b u e
    · exact nit c _ z
theorem Inv.tok (I : Inv X pins σ H s) (t : Nat) : Inv X pins σ H { s with toks := t } := I.un (h' := s.heap) (t' := t) Un.refl I.hok
theorem Inv.kept {t' : Nat} (I : Inv X pins σ H s) (k : ∀ b u, s.heap.get? b = some u → h'.get? b = some u) : Inv X pins σ H { s with heap := h', toks := t' } := I.un (Un.kept k) (I.hok.kept k)
theorem Inv.laid {a : Addr} {o : HO} {t' : Nat} (I : Inv X pins σ H s) (k : ∀ b u, s.heap.get? b = some u → h'.get? b = some u) (hp : s.heap.objs.size ≤ a) (new : ObjOk X.prog X.w (upd H a o) h' a o) :
    Inv X pins σ (upd H a o) { s with heap := h', toks := t' } := I.un (Un.laid k hp (I.hok.fresh hp)) (I.hok.laid k hp new)
theorem Inv.write {x e : Addr} {o : HO} {t' : Nat} (I : Inv X pins σ H s) (mu : Mut (H x)) (he : e = x ∨ H e = some (.own x)) (k : ∀ b u, b ≠ e → s.heap.get? b = some u → h'.get? b = some u) (heo : ∃ u, h'.get? e = some u)
    (new : ObjOk X.prog X.w (upd H x o) h' x o) : Inv X pins σ (upd H x o) { s with heap := h', toks := t' } := I.un (Un.write mu he k heo) (I.hok.write mu he k heo new)
theorem Inv.pins_of {pins' : List (Addr × Obj)} (I : Inv X pins σ H s) (h : ∀ p ∈ pins', s.heap.get? p.1 = some p.2 ∧ H p.1 = none ∧ p.1 ≠ X.env.locals ∧ p.1 ∉ X.fs ∧ ∀ v, p.2.data ≠ .cell v) : Inv X pins' σ H s :=
  ⟨I.ok, I.os, I.bare, I.base, I.loc, I.cell, I.free, I.freeC, fun p hp => (List.mem_append.mp hp).elim (fun z => I.pin p (List.mem_append_left _ z)) (h p), I.hok, I.len⟩
theorem nodup_ix {N : List Str} (hN : N.Nodup) {i j : Nat} {x : Str} (a : N[i]? = some x) (b : N[j]? = some x) : i = j := by
  obtain ⟨h1, e1⟩ := List.getElem?_eq_some_iff.mp a
  obtain ⟨h2, e2⟩ := List.getElem?_eq_some_iff.mp b
  exact (List.getElem_inj hN).mp (e1.trans e2.symm)
theorem store_ok2 {M : Model} {A : Around} {E : Value → Shared → Prop} {i : Nat} {x : Str} {v : V} {u : Value} {Q : Unit → Shared → Prop} (I : Inv X pins σ H s) (hN : X.N.Nodup) (hi : X.N[i]? = some x) (hx : Loc X.env.scope x) (r : RelV v u)
    (h : ∀ s', Inv X pins (σ.set i (some v)) H s' → (∃ a, Heap.SameBut a s.heap s'.heap ∧ (a = X.env.locals ∨ X.env.cells.lookup x = some a)) → Q () s') (hf : X.fn x = true ∨ X.env.scope.names.lookup x = some .local := by first | exact .inl rfl | exact .inr rfl | assumption) : wpAny M A (storeName X.env x u) Q E s := by
  obtain ⟨m, hn, hl⟩ := id I.loc
  have hcls : (X.env.scope.kind == .class || (X.env.scope.kind == .module && X.env.locals != X.env.globals)) = false := by rw [I.ok.kind]; rfl
  have hiσ : i < σ.length := by rw [I.len]; exact (List.getElem?_eq_some_iff.mp hi).1
  have cne := I.cne
  have tracked : ∀ {a : Addr} {h' : Heap}, (∃ o, s.heap.get? a = some o ∧ H a = none) → Heap.SameBut a s.heap h' → HOk X.prog X.w H h' := fun {a h'} ha hs b ob e => by
    obtain ⟨_, _, hfree⟩ := ha
    refine (I.hok b ob e).stay (fun c w' hc q => (hs.2 c ?_).trans q) (fun _ q => q) fun _ _ q => q
    rintro rfl
    rcases hc with rfl | hc
    · rw [hfree] at e; cases e
    · rw [hfree] at hc; cases hc
  rcases hx with hk | hk
  · refine wpAny_storeName_local hk hn (fun h' hn' hs => ?_) hcls
    obtain ⟨oL, _, _, hoL, _⟩ := id hn
    refine h _ ⟨I.ok, I.os, I.bare, ⟨fun b o e n hb hx => ?_, fun b o e n hb hx => ?_, I.base.free, fun b o e hx => ?_, I.base.tups, I.base.frzs, I.base.tbls⟩, ⟨_, hn', fun j y v' e1 e2 e3 => ?_⟩, fun y c e => ?_, I.free, I.freeC, fun p hp => ?_, tracked ⟨oL, hoL, I.free⟩ hs, by simpa using I.len⟩ ⟨_, hs, .inl rfl⟩
    · exact (hs.2 b (Nat.ne_of_lt (Nat.lt_of_lt_of_le (Heap.lt_size e) I.ok.above))).trans (I.base.keep b o e n hb hx)
    · obtain ⟨sl, e1⟩ := I.base.slot b o e n hb hx
      exact ⟨sl, (hs.2 b (Nat.ne_of_lt (Nat.lt_of_lt_of_le (Heap.lt_size e) I.ok.above))).trans e1⟩
    · obtain ⟨o', e1⟩ := I.base.there b o e hx
      exact ⟨o', (hs.2 b (Nat.ne_of_lt (Nat.lt_of_lt_of_le (Heap.lt_size e) I.ok.above))).trans e1⟩
    · by_cases hj : j = i
      · subst hj
        rw [hi] at e1; cases e1
        rw [List.getElem?_set_self hiσ] at e2
        cases e2
        exact ⟨u, r, .inl ⟨hk, by simp⟩⟩
      · rw [List.getElem?_set_ne (Ne.symm hj)] at e2
        obtain ⟨u', r', q⟩ := hl j y v' e1 e2 e3
        refine ⟨u', r', ?_⟩
        rcases q with ⟨k, e⟩ | ⟨k, c, e, z⟩
        · refine .inl ⟨k, ?_⟩
          have : y ≠ x := fun e => hj (nodup_ix hN e1 (e ▸ hi))
          simp [this, e]
        · exact .inr ⟨k, c, e, z.sameBut hs (cne y c e)⟩
    · obtain ⟨w', z⟩ := I.cell y c e
      exact ⟨w', z.sameBut hs (cne y c e)⟩
    · obtain ⟨e, n, ne, nf, d⟩ := I.pin p hp
      exact ⟨(hs.2 p.1 ne).trans e, n, ne, nf, d⟩
  · have hfn : X.fn x = true := by
      rcases hf with z | z
      · exact z
      · rw [z] at hk; cases hk
    obtain ⟨c, hc⟩ := I.ok.has x (.inl hk)
    obtain ⟨w', z⟩ := I.cell x c hc
    refine wpAny_storeName_cell I.ok.kind hk hc z (fun h' hc' hs => ?_)
    obtain ⟨oc, hoc, hocd⟩ := id z
    refine h { s with heap := h' } ⟨I.ok, I.os, I.bare, ⟨fun b o e n hb hx => ?_, fun b o e n hb hx => ?_, I.base.free, fun b o e hx => ?_, I.base.tups, I.base.frzs, I.base.tbls⟩, ⟨m, hn.sameBut hs (Ne.symm (cne x c hc)), fun j y v' e1 e2 e3 => ?_⟩, fun y c' e => ?_, I.free, I.freeC, fun p hp => ?_, tracked ⟨oc, hoc, I.freeC x c hc⟩ hs, by simpa using I.len⟩ ⟨c, hs, .inr hc⟩
    · exact (hs.2 b (Nat.ne_of_lt (Nat.lt_of_lt_of_le (Heap.lt_size e) (I.ok.cab x c hfn hc)))).trans (I.base.keep b o e n hb hx)
    · obtain ⟨sl, e1⟩ := I.base.slot b o e n hb hx
      exact ⟨sl, (hs.2 b (Nat.ne_of_lt (Nat.lt_of_lt_of_le (Heap.lt_size e) (I.ok.cab x c hfn hc)))).trans e1⟩
    · obtain ⟨o', e1⟩ := I.base.there b o e hx
      exact ⟨o', (hs.2 b (Nat.ne_of_lt (Nat.lt_of_lt_of_le (Heap.lt_size e) (I.ok.cab x c hfn hc)))).trans e1⟩
    · by_cases hj : j = i
      · subst hj
        rw [hi] at e1; cases e1
        rw [List.getElem?_set_self hiσ] at e2
        cases e2
        exact ⟨u, r, .inr ⟨.inl hk, c, hc, hc'⟩⟩
      · rw [List.getElem?_set_ne (Ne.symm hj)] at e2
        obtain ⟨u', r', q⟩ := hl j y v' e1 e2 e3
        refine ⟨u', r', ?_⟩
        rcases q with q | ⟨k, c', e, z'⟩
        · exact .inl q
        · refine .inr ⟨k, c', e, z'.sameBut hs ?_⟩
          rintro rfl
          exact hj (nodup_ix hN e1 (I.ok.inj _ _ _ e hc ▸ hi))
    · by_cases hcc : c' = c
      · subst hcc; exact ⟨_, hc'⟩
      · obtain ⟨w2, z2⟩ := I.cell y c' e
        exact ⟨w2, z2.sameBut hs hcc⟩
    · obtain ⟨e, n, ne, nf, d⟩ := I.pin p hp
      refine ⟨(hs.2 p.1 ?_).trans e, n, ne, nf, d⟩
      intro q
      rw [q, hoc] at e
      have q' : oc = p.2 := Option.some.inj e
      exact d w' (by rw [← q']; exact hocd)
theorem store_ok {M : Model} {A : Around} {E : Value → Shared → Prop} {i : Nat} {x : Str} {v : V} {u : Value} {Q : Unit → Shared → Prop} (I : Inv X pins σ H s) (hN : X.N.Nodup) (hi : X.N[i]? = some x) (hx : Loc X.env.scope x) (r : RelV v u)
    (h : ∀ s', Inv X pins (σ.set i (some v)) H s' → Q () s') (hf : X.fn x = true ∨ X.env.scope.names.lookup x = some .local := by first | exact .inl rfl | exact .inr rfl | assumption) : wpAny M A (storeName X.env x u) Q E s :=
  store_ok2 I hN hi hx r (fun s' I' _ => h s' I') hf
theorem Inv.call' {s' : Shared} {ch : List Addr} (I : Inv X pins σ H s) (ho : s'.os = s.os) (u : Un (frs X.stack) ch H H' s.heap s'.heap) (hok : HOk X.prog X.w H' s'.heap) (hg : AllBare s'.gens)
    (hch : ∀ b ∈ ch, (b ∈ X.ex ∨ X.s₀.heap.objs.size ≤ b) ∧ b ≠ X.env.locals ∧ (∀ x c, X.env.cells.lookup x = some c → c ≠ b) ∧ ∀ p ∈ X.pn ++ pins, p.1 ≠ b) : Inv X pins σ H' s' := by
  obtain ⟨h', g', d', t', o'⟩ := s'
  have e : o' = s.os := ho
  subst e
  exact I.call (g' := g') (t' := t') (d' := d') u hok hg hch
end
abbrev XK := Value → Option Addr → Hp → Prop
abbrev St := List (Option V)
abbrev VK := V → Hp → Prop
abbrev TE := St → Hp → VK → Prop
abbrev TT := St → Hp → (Bool → Hp → Prop) → Prop
abbrev TA := St → Hp → (List V → Hp → Prop) → Prop
structure Ends where
  nx : St → Hp → Prop
  rt : VK
  bk : St → Hp → Prop := fun _ _ => False
  ct : St → Hp → Prop := fun _ _ => False
abbrev TS := Ends → St → Hp → Prop
def EP (X : Cx) (pins : List (Addr × Obj)) (σ : St) (Q : VK) (u : Value) (s' : Shared) : Prop := ∃ v H', Inv X pins σ H' s' ∧ RelV v u ∧ Q v H'
def TP (X : Cx) (pins : List (Addr × Obj)) (σ : St) (Q : Bool → Hp → Prop) (b : Bool) (s' : Shared) : Prop := ∃ H', Inv X pins σ H' s' ∧ Q b H'
def AP (X : Cx) (pins : List (Addr × Obj)) (σ : St) (Q : List V → Hp → Prop) (us : List Value) (s' : Shared) : Prop := ∃ vs H', Inv X pins σ H' s' ∧ Vals vs us ∧ Q vs H'
def SP (X : Cx) (pins : List (Addr × Obj)) (D : Ends) (f : Flow) (s' : Shared) : Prop :=
  match f with
  | .next => ∃ σ' H', Inv X pins σ' H' s' ∧ D.nx σ' H'
  | .brk => ∃ σ' H', Inv X pins σ' H' s' ∧ D.bk σ' H'
  | .cont => ∃ σ' H', Inv X pins σ' H' s' ∧ D.ct σ' H'
  | .ret u => ∃ v σ' H', Inv X pins σ' H' s' ∧ RelV v u ∧ D.rt v H'
def PE (X : Cx) (e : Expr) (t : TE) : Prop :=
  ∀ (pins : List (Addr × Obj)) (s : Shared) (σ : St) (H : Hp) (Q : VK), Inv X pins σ H s → t σ H Q → wpAny (model X.prog X.w) X.A (eval e X.env) (EP X pins σ Q) X.xe s
def PT (X : Cx) (e : Expr) (t : TT) : Prop :=
  ∀ (pins : List (Addr × Obj)) (s : Shared) (σ : St) (H : Hp) (Q : Bool → Hp → Prop), Inv X pins σ H s → t σ H Q → wpAny (model X.prog X.w) X.A (isTrue e X.env (eval e X.env)) (TP X pins σ Q) X.xe s
def PW (X : Cx) (e : Expr) (t : TT) : Prop :=
  ∀ (whole : Sem Value) (pins : List (Addr × Obj)) (s : Shared) (σ : St) (H : Hp) (Q : Bool → Hp → Prop), Inv X pins σ H s → t σ H Q → wpAny (model X.prog X.w) X.A (isTrue e X.env whole) (TP X pins σ Q) X.xe s
theorem PW.pt {X : Cx} {e : Expr} {t : TT} (h : PW X e t) : PT X e t := h _
def PA (X : Cx) (es : List Expr) (t : TA) : Prop :=
  ∀ (pos : Pos) (pins : List (Addr × Obj)) (s : Shared) (σ : St) (H : Hp) (Q : List V → Hp → Prop), Inv X pins σ H s → t σ H Q → wpAny (model X.prog X.w) X.A (spliced (backTo pos (starEach es X.env))) (AP X pins σ Q) X.xe s
def PS (X : Cx) (st : Stmt) (t : TS) : Prop :=
  ∀ (pins : List (Addr × Obj)) (s : Shared) (σ : St) (H : Hp) (D : Ends), Inv X pins σ H s → t D σ H → wpAny (model X.prog X.w) X.A (exec st X.env) (SP X pins D) X.xe s
def PSs (X : Cx) (st : List Stmt) (t : TS) : Prop :=
  ∀ (pins : List (Addr × Obj)) (s : Shared) (σ : St) (H : Hp) (D : Ends), Inv X pins σ H s → t D σ H → wpAny (model X.prog X.w) X.A (execs st X.env) (SP X pins D) X.xe s
theorem thn {α : Type} {t : Sem α} {Q Q' : α → Shared → Prop} {M : Model} {A : Around} {E : Value → Shared → Prop} {s : Shared} (h : wpAny M A t Q E s) (hQ : ∀ a s, Q a s → Q' a s) : wpAny M A t Q' E s := wpAny_mono h hQ fun _ _ x => x
end L2
namespace L2
open PySem PySem.Spec PyProof.Rows
section
variable {X : Cx}
def tVar (i : Nat) : TE := fun σ H Q => ∃ v, σ[i]? = some (some v) ∧ Q v H
def tC (v : V) : TE := fun _ H Q => Q v H
theorem pe_var {i : Nat} {x : Str} {pos : Pos} (hN : X.N[i]? = some x) (hv : Vis X.env.scope x) (hd : (x == ("__debug__" : Str)) = false := by decide) (hcd : (x == ("__classdict__" : Str)) = false := by decide) : PE X (.Name x pos) (tVar i) := by
  intro pins s σ H Q I h
  obtain ⟨v, e, h⟩ := h
  obtain ⟨m, hn, hl⟩ := I.loc
  obtain ⟨u, r, l⟩ := hl i x v hN e hv
  have fin : EP X pins σ Q u s := ⟨v, H, I, r, h⟩
  rcases l with ⟨hk, hm⟩ | ⟨hk, c, hc, hcell⟩
  · exact wpAny_Name (wpAny_loadName_local I.ok.kind hk hn hm fin) hd
  · rcases hk with hk | hk
    · exact wpAny_Name (wpAny_loadName_cell I.ok.kind hk hc hcell fin) hd
    · exact wpAny_Name (wpAny_loadName_free I.ok.kind hk hc hcell fin hcd) hd
theorem pe_int {i j pos} : PE X (.Constant (.int i) j pos) (tC (.int i)) := fun _ _ _ H _ I h => wpAny_Constant_int ⟨.int i, H, I.tok _, ⟨_, rfl⟩, h⟩
theorem pe_bl {b j pos} : PE X (.Constant (.bool b) j pos) (tC (.bl b)) := fun _ _ _ H _ I h => Constant_bool ⟨.bl b, H, I, rfl, h⟩
theorem pe_non {j pos} : PE X (.Constant .none j pos) (tC .non) := fun _ _ _ H _ I h => Constant_none ⟨.non, H, I, rfl, h⟩
theorem pe_str {x j pos} : PE X (.Constant (.str x) j pos) (tC (.str x)) := fun _ _ _ H _ I h => Calls.Constant_str ⟨.str x, H, I.tok _, ⟨_, rfl⟩, h⟩
def Gl (X : Cx) (x : Str) : Prop := X.env.kindOf x = some .globalImplicit
theorem ld_glob {E : Value → Shared → Prop} {pins : List (Addr × Obj)} {s : Shared} {σ : St} {H : Hp} {x : Str} {u : Value} {pos : Pos} {Q : Value → Shared → Prop} (I : Inv X pins σ H s) (hg : Gl X x) (hm : X.mg x = some u) (h : Q u s)
    (hd : (x == ("__debug__" : Str)) = false := by decide) : wpAny (model X.prog X.w) X.A (eval (.Name x pos) X.env) Q E s :=
  Calls.Name_function_global I.ok.kind hg (Calls.loadGlobal_global (by rw [I.ok.glob]; exact I.mod.glob.keeps I.bk) hm h) hd
theorem ld_blt {E : Value → Shared → Prop} {pins : List (Addr × Obj)} {s : Shared} {σ : St} {H : Hp} {x : Str} {u : Value} {pos : Pos} {Q : Value → Shared → Prop} (I : Inv X pins σ H s) (hg : Gl X x) (hm : X.mg x = none) (hv : bootBuiltins x = some u) (h : Q u s)
    (hn : x ≠ "__name__" := by decide) (hd : (x == ("__debug__" : Str)) = false := by decide) : wpAny (model X.prog X.w) X.A (eval (.Name x pos) X.env) Q E s := by
  obtain ⟨mb, h1, h2⟩ := I.mod.blt
  exact Calls.Name_function_global I.ok.kind hg (Calls.loadGlobal_builtin (by rw [I.ok.glob]; exact I.mod.glob.keeps I.bk) hm (by rw [I.ok.blt]; exact h1.keeps I.bk) ((h2 x hn).trans hv) h) hd
theorem pe_glob {x : Str} {v : V} {u : Value} {pos : Pos} (hg : Gl X x) (hm : X.mg x = some u) (r : RelV v u) (hd : (x == ("__debug__" : Str)) = false := by decide) : PE X (.Name x pos) (tC v) :=
  fun _ _ _ H _ I h => ld_glob I hg hm ⟨v, H, I, r, h⟩ hd
theorem pe_bltn {x : Str} {v : V} {u : Value} {pos : Pos} (hg : Gl X x) (hm : X.mg x = none) (hv : bootBuiltins x = some u) (r : RelV v u) (hn : x ≠ "__name__" := by decide) (hd : (x == ("__debug__" : Str)) = false := by decide) : PE X (.Name x pos) (tC v) :=
  fun _ _ _ H _ I h => ld_blt I hg hm hv ⟨v, H, I, r, h⟩ hn hd
variable {a b : Expr} {ta tb : TE} {pos : Pos}
def PC (X : Cx) (op : CmpOp) (a b : Expr) (t : TE) : Prop :=
  ∀ (pins : List (Addr × Obj)) (s : Shared) (σ : St) (H : Hp) (Q : VK), Inv X pins σ H s → t σ H Q →
    wpAny (model X.prog X.w) X.A (eval a X.env) (fun v s₁ => wpAny (model X.prog X.w) X.A (eval b X.env) (fun u s₂ => wpAny (model X.prog X.w) X.A (compareOp op v u) (EP X pins σ Q) X.xe s₂) X.xe s₁) X.xe s
theorem nobehind (b : Expr) {op : CmpOp} (h : op ≠ .In) (h2 : op ≠ .NotIn) : behindInMarks op b = false := by
  have e1 : (op == CmpOp.In) = false := by cases op <;> first | rfl | exact absurd rfl h
  have e2 : (op == CmpOp.NotIn) = false := by cases op <;> first | rfl | exact absurd rfl h2
  cases b <;> simp [behindInMarks, e1, e2]
def tB (t : TE) : TT := fun σ H Q => t σ H fun x H1 => ∃ c, x = .bl c ∧ Q c H1
theorem pt_cmp {op : CmpOp} {t : TE} (h : PC X op a b t) (h1 : behindInMarks op b = false := by first | exact nobehind _ (by decide) (by decide) | rfl) : PT X (.Compare a [op] [b] pos) (tB t) := by
  intro pins s σ H Q I hw
  refine wpAny_isTrue_Compare1 (thn (h pins s σ H _ I hw) fun v s1 h1 => thn h1 fun u s2 h2 => thn h2 fun c s3 ⟨x, H1, I1, r1, q1⟩ => ?_) h1
  obtain ⟨d, rfl, q⟩ := q1
  cases r1
  exact wpAny_truthy_bool ⟨H1, I1, q⟩
theorem pt_val {e : Expr} {t : TE} (h : PE X e t) (he : ∀ whole, isTrue e X.env whole = (do let v ← whole; standAt e.pos; holding [v] (truthy v)) := by intro _; rfl) : PT X e (tB t) := by
  intro pins s σ H Q I hw
  refine isTrue_plain (thn (h pins s σ H _ I hw) fun v s1 ⟨x, H1, I1, r1, q1⟩ => ?_) (he _)
  obtain ⟨d, rfl, q⟩ := q1
  cases r1
  exact wpAny_truthy_bool ⟨H1, I1, q⟩
variable {tA tB' : TT} {rest : List Expr}
def tAnd (t u : TT) : TT := fun σ H Q => t σ H fun c H1 => if c = true then u σ H1 Q else Q false H1
def tOr (t u : TT) : TT := fun σ H Q => t σ H fun c H1 => if c = true then Q true H1 else u σ H1 Q
def tNot (t : TT) : TT := fun σ H Q => t σ H fun c H1 => Q (!c) H1
theorem pw_and1 (ha : PT X a tA) : PW X (.BoolOp .And [a] pos) tA := by
  intro wh pins s σ H Q I h
  refine isTrue_and (thn (ha pins s σ H Q I h) fun c s1 e => ?_)
  cases c with
  | true => exact isTrue_and_nil e
  | false => exact e
theorem pw_or1 (ha : PT X a tA) : PW X (.BoolOp .Or [a] pos) tA := by
  intro wh pins s σ H Q I h
  refine isTrue_or (thn (ha pins s σ H Q I h) fun c s1 e => ?_)
  cases c with
  | false => exact isTrue_or_nil e
  | true => exact e
theorem pw_and (ha : PT X a tA) (hb : PW X (.BoolOp .And (b :: rest) pos) tB') : PW X (.BoolOp .And (a :: b :: rest) pos) (tAnd tA tB') := by
  intro wh pins s σ H Q I h
  refine isTrue_and (thn (ha pins s σ H _ I h) fun c s1 ⟨H1, I1, q1⟩ => ?_)
  cases c with
  | true => exact hb wh pins s1 σ H1 Q I1 q1
  | false => exact ⟨H1, I1, q1⟩
theorem pw_or (ha : PT X a tA) (hb : PW X (.BoolOp .Or (b :: rest) pos) tB') : PW X (.BoolOp .Or (a :: b :: rest) pos) (tOr tA tB') := by
  intro wh pins s σ H Q I h
  refine isTrue_or (thn (ha pins s σ H _ I h) fun c s1 ⟨H1, I1, q1⟩ => ?_)
  cases c with
  | true => exact ⟨H1, I1, q1⟩
  | false => exact hb wh pins s1 σ H1 Q I1 q1
theorem pt_not (ha : PT X a tA) : PT X (.UnaryOp .Not a pos) (tNot tA) := by
  intro pins s σ H Q I h
  exact isTrue_not (ha pins s σ H (fun c H1 => Q (!c) H1) I h)
def tAndV (ta tb : TE) : TE := fun σ H Q => ta σ H fun x H1 => ∃ c, x = .bl c ∧ if c = true then tb σ H1 Q else Q (.bl false) H1
def tOrV (ta tb : TE) : TE := fun σ H Q => ta σ H fun x H1 => ∃ c, x = .bl c ∧ if c = true then Q (.bl true) H1 else tb σ H1 Q
def tNotV (ta : TE) : TE := fun σ H Q => ta σ H fun x H1 => ∃ c, x = .bl c ∧ Q (.bl (!c)) H1
theorem pe_one {op} {t : TE} (h : PE X a t) : PE X (.BoolOp op [a] pos) t := fun pins s σ H Q I hw => BoolOp_one (h pins s σ H Q I hw)
theorem pe_and (ha : PE X a ta) (hb : PE X (.BoolOp .And (b :: rest) pos) tb) : PE X (.BoolOp .And (a :: b :: rest) pos) (tAndV ta tb) := by
  intro pins s σ H Q I h
  refine BoolOp_and (thn (ha pins s σ H _ I h) fun v s1 ⟨x, H1, I1, r1, q1⟩ => ?_)
  obtain ⟨c, rfl, q1⟩ := q1
  cases r1
  refine wpAny_truthy_bool ?_
  cases c with
  | true => exact hb pins s1 σ H1 Q I1 q1
  | false => exact ⟨.bl false, H1, I1, rfl, q1⟩
theorem pe_or (ha : PE X a ta) (hb : PE X (.BoolOp .Or (b :: rest) pos) tb) : PE X (.BoolOp .Or (a :: b :: rest) pos) (tOrV ta tb) := by
  intro pins s σ H Q I h
  refine BoolOp_or (thn (ha pins s σ H _ I h) fun v s1 ⟨x, H1, I1, r1, q1⟩ => ?_)
  obtain ⟨c, rfl, q1⟩ := q1
  cases r1
  refine wpAny_truthy_bool ?_
  cases c with
  | false => exact hb pins s1 σ H1 Q I1 q1
  | true => exact ⟨.bl true, H1, I1, rfl, q1⟩
theorem pe_not (ha : PE X a ta) : PE X (.UnaryOp .Not a pos) (tNotV ta) := by
  intro pins s σ H Q I h
  refine UnaryOp_ (thn (ha pins s σ H _ I h) fun v s1 ⟨x, H1, I1, r1, q1⟩ => ?_)
  obtain ⟨c, rfl, q1⟩ := q1
  cases r1
  exact not_of (wpAny_truthy_bool ⟨.bl (!c), H1, I1, rfl, q1⟩)
def tIf (t : TT) (ta tb : TE) : TE := fun σ H Q => t σ H fun c H1 => if c = true then ta σ H1 Q else tb σ H1 Q
theorem pe_ifExp {c : Expr} (hc : PT X c tA) (ha : PE X a ta) (hb : PE X b tb) : PE X (.IfExp c a b pos) (tIf tA ta tb) := by
  intro pins s σ H Q I h
  refine wpAny_IfExp (thn (hc pins s σ H _ I h) fun d s1 ⟨H1, I1, q1⟩ => ?_)
  cases d with
  | true => exact ha pins s1 σ H1 Q I1 q1
  | false => exact hb pins s1 σ H1 Q I1 q1
end
end L2
namespace L2
open PySem PySem.Spec PyProof.Rows
def SqL (K : PySem.W.Frag) (H : Hp) (a : Addr) (xs : List V) : Prop :=
  Rd H a (.lst xs) ∨
    ∃ (o : Obj) (its : Array Value) (n : Nat), K.lookup a = some o ∧ o.cls = .type "list" ∧ o.dict = none ∧ o.data = .seq its n ∧ its.size ≤ sizeLine ∧ Vals xs its.toList
def SqT (K : PySem.W.Frag) (H : Hp) (a : Addr) (xs : List V) : Prop :=
  Rd H a (.tup xs) ∨
    ∃ (o : Obj) (its : Array Value) (n : Nat), K.lookup a = some o ∧ o.cls = .type "tuple" ∧ o.data = .seq its n ∧ its.size ≤ sizeLine ∧ Vals xs its.toList
def absV : Value → Option V
  | .none => some .non
  | .bool b => some (.bl b)
  | .int i _ => some (.int i)
  | .str x _ => some (.str x)
  | .bytes b _ => some (.byt b)
  | .float b _ => some (.flt b)
  | .ref a => some (.ref a)
  | .type n => some (.ty n)
  | _ => none
theorem RelV.abs {x : V} {u : Value} (r : RelV x u) : absV u = some x := by
  cases x with
  | non => cases r; rfl
  | bl _ => cases r; rfl
  | int _ => obtain ⟨t, rfl⟩ := r; rfl
  | str _ => obtain ⟨t, rfl⟩ := r; rfl
  | byt _ => obtain ⟨t, rfl⟩ := r; rfl
  | flt _ => obtain ⟨t, rfl⟩ := r; rfl
  | ref _ => cases r; rfl
  | ty _ => cases r; rfl
theorem RelV.inj {x y : V} {u : Value} (r : RelV x u) (q : RelV y u) : x = y := Option.some.inj (r.abs.symm.trans q.abs)
theorem Vals.inj : ∀ {xs ys : List V} {us : List Value}, Vals xs us → Vals ys us → xs = ys
  | _, _, _, .nil, .nil => rfl
  | _, _, _, .cons r t, .cons r' t' => by rw [r.inj r', Vals.inj t t']
section
variable {X : Cx} {pins : List (Addr × Obj)} {σ : St} {H : Hp} {s : Shared} {a : Addr} {xs ys : List V}
theorem SqL.of {K : PySem.W.Frag} (h : H a = some (.lst xs)) : SqL K H a xs := .inl (.inl h)
theorem SqT.of {K : PySem.W.Frag} (h : H a = some (.tup xs)) : SqT K H a xs := .inl (.inl h)
theorem Inv.list (I : Inv X pins σ H s) (h : SqL X.K H a xs) : ∃ its : List Value, Vals xs its ∧ PlainL s.heap a its.toArray ∧ xs.length ≤ sizeLine := by
  rcases h with h | ⟨o, its, n, hk, hc, hd, hs, hz, r⟩
  · obtain ⟨z, its, n, r, e⟩ := h.ok I.hok
    exact ⟨its, r, ⟨_, n, e, rfl, rfl, rfl⟩, z⟩
  · refine ⟨its.toList, r, ⟨o, n, I.kIn a o hk, hc, hd, by simpa using hs⟩, ?_⟩
    have e := r.length
    simp only [Array.length_toList] at e
    omega
theorem Inv.tuple (I : Inv X pins σ H s) (h : SqT X.K H a xs) : ∃ its : List Value, Vals xs its ∧ IsTup s.heap a its.toArray ∧ xs.length ≤ sizeLine := by
  rcases h with h | ⟨o, its, n, hk, hc, hs, hz, r⟩
  · obtain ⟨z, its, r, p⟩ := h.ok I.hok
    exact ⟨its, r, p, z⟩
  · refine ⟨its.toList, r, ⟨o, I.kIn a o hk, hc, n, by simpa using hs⟩, ?_⟩
    have e := r.length
    simp only [Array.length_toList] at e
    omega
theorem Inv.list_inj (I : Inv X pins σ H s) (h : SqL X.K H a xs) (h' : SqL X.K H a ys) : xs = ys := by
  obtain ⟨its, r, ⟨o, n, e, _, _, d⟩, _⟩ := I.list h
  obtain ⟨its', r', ⟨o', n', e', _, _, d'⟩, _⟩ := I.list h'
  rw [e] at e'; cases e'
  rw [d] at d'
  injection d' with d1 _
  have : its = its' := by simpa using congrArg Array.toList d1
  subst this
  exact r.inj r'
theorem Inv.tuple_inj (I : Inv X pins σ H s) (h : SqT X.K H a xs) (h' : SqT X.K H a ys) : xs = ys := by
  obtain ⟨its, r, ⟨o, e, _, n, d⟩, _⟩ := I.tuple h
  obtain ⟨its', r', ⟨o', e', _, n', d'⟩, _⟩ := I.tuple h'
  rw [e] at e'; cases e'
  rw [d] at d'
  injection d' with d1 _
  have : its = its' := by simpa using congrArg Array.toList d1
  subst this
  exact r.inj r'
end
abbrev Cx.wish (X : Cx) (E : Value → Shared → Prop) : Cx := { X with xe := E }
abbrev Cx.nox (X : Cx) : Cx := X.wish fun _ _ => False
theorem Cx.Ok.wish {X : Cx} (ok : X.Ok) (E : Value → Shared → Prop) : (X.wish E).Ok :=
  ⟨ok.mod, ok.kind, ok.glob, ok.blt, ok.above, ok.inj, ok.has, ok.cab, ok.hd, ok.frames, ok.stk, ok.exf, ok.bs, ok.bsz, ok.noex, ok.exfs, ok.funs, ok.frf⟩
theorem Cx.Ok.unwish {X : Cx} {E : Value → Shared → Prop} (ok : (X.wish E).Ok) : X.Ok :=
  ⟨ok.mod, ok.kind, ok.glob, ok.blt, ok.above, ok.inj, ok.has, ok.cab, ok.hd, ok.frames, ok.stk, ok.exf, ok.bs, ok.bsz, ok.noex, ok.exfs, ok.funs, ok.frf⟩
section
variable {X : Cx} {pins : List (Addr × Obj)} {σ : St} {H : Hp} {s : Shared} {E : Value → Shared → Prop}
theorem Inv.wish (I : Inv X pins σ H s) (E : Value → Shared → Prop) : Inv (X.wish E) pins σ H s := ⟨I.ok.wish E, I.os, I.bare, I.base, I.loc, I.cell, I.free, I.freeC, I.pin, I.hok, I.len⟩
theorem Inv.unwish (I : Inv (X.wish E) pins σ H s) : Inv X pins σ H s := ⟨I.ok.unwish, I.os, I.bare, I.base, I.loc, I.cell, I.free, I.freeC, I.pin, I.hok, I.len⟩
theorem SP.unwish {D : Ends} {f : Flow} {s' : Shared} (h : SP (X.wish E) pins D f s') : SP X pins D f s' := by
  cases f with
  | next => obtain ⟨σ', H', I, q⟩ := h; exact ⟨σ', H', I.unwish, q⟩
  | brk => obtain ⟨σ', H', I, q⟩ := h; exact ⟨σ', H', I.unwish, q⟩
  | cont => obtain ⟨σ', H', I, q⟩ := h; exact ⟨σ', H', I.unwish, q⟩
  | ret u => obtain ⟨v, σ', H', I, r, q⟩ := h; exact ⟨v, σ', H', I.unwish, r, q⟩
theorem PE.nox {e : Expr} {t : TE} (h : PE X.nox e t) : PE X e t := fun pins s σ H Q I hw =>
  wpAny_mono (h pins s σ H Q (I.wish _) hw) (fun _ _ ⟨v, H', I', r, q⟩ => ⟨v, H', I'.unwish, r, q⟩) fun _ _ z => False.elim z
theorem PT.nox {e : Expr} {t : TT} (h : PT X.nox e t) : PT X e t := fun pins s σ H Q I hw =>
  wpAny_mono (h pins s σ H Q (I.wish _) hw) (fun _ _ ⟨H', I', q⟩ => ⟨H', I'.unwish, q⟩) fun _ _ z => False.elim z
theorem PSs.nox {st : List Stmt} {t : TS} (h : PSs X.nox st t) : PSs X st t := fun pins s σ H D I hw =>
  wpAny_mono (h pins s σ H D (I.wish _) hw) (fun _ _ q => q.unwish) fun _ _ z => False.elim z
end
section
variable {X : Cx} {st : Stmt} {rest : List Stmt} {t u : TS} {e : Expr} {te : TE} {pos : Pos}
def tNext : TS := fun D σ H => D.nx σ H
def tSeq (t u : TS) : TS := fun D σ H => t { D with nx := u D } σ H
theorem pss_nil : PSs X [] tNext := fun _ _ σ H _ I h => wpAny_execs_nil ⟨σ, H, I, h⟩
theorem pss_cons (h1 : PS X st t) (h2 : PSs X rest u) : PSs X (st :: rest) (tSeq t u) := by
  intro pins s σ H D I h
  refine wpAny_execs_cons (thn (h1 pins s σ H { D with nx := u D } I h) fun f s1 q => ?_)
  cases f with
  | next =>
    obtain ⟨σ', H', I', q⟩ := q
    exact h2 pins s1 σ' H' D I' q
  | ret v => exact q
  | brk => exact q
  | cont => exact q
theorem pss_one (h1 : PS X st t) : PSs X [st] t := by
  intro pins s σ H D I h
  refine wpAny_execs_cons (thn (h1 pins s σ H D I h) fun f s1 q => ?_)
  cases f with
  | next => exact wpAny_execs_nil q
  | ret v => exact q
  | brk => exact q
  | cont => exact q
theorem Inv.quiet {pins : List (Addr × Obj)} {σ : St} {H : Hp} {s : Shared} (I : Inv X pins σ H s) : interactive X.env = false := by simp [interactive, I.ok.kind]
def tDrop (te : TE) : TS := fun D σ H => te σ H fun _ H1 => D.nx σ H1
theorem ps_expr (he : PE X e te) (hs : swapsWith e none pos.line X.env = pure false := by rfl) : PS X (.Expr e pos) (tDrop te) := by
  intro pins s σ H D I h
  exact wpAny_Expr_any (thn (he pins s σ H _ I h) fun v s1 ⟨x, H1, I1, r1, q1⟩ => ⟨σ, H1, I1, q1⟩) I.quiet hs
def tRet (te : TE) : TS := fun D σ H => te σ H D.rt
theorem ps_ret (he : PE X e te) : PS X (.Return (some e) pos) (tRet te) := by
  intro pins s σ H D I h
  exact wpAny_Return_some (thn (he pins s σ H _ I h) fun v s1 ⟨x, H1, I1, r1, q1⟩ => ⟨x, σ, H1, I1, r1, q1⟩)
def tRetN : TS := fun D _ H => D.rt .non H
theorem ps_retN : PS X (.Return none pos) tRetN := fun _ _ σ H _ I h => wpAny_Return_none ⟨.non, σ, H, I, rfl, h⟩
def tIfS (c : TT) (t u : TS) : TS := fun D σ H => c σ H fun b H1 => if b = true then t D σ H1 else u D σ H1
theorem ps_if {c : Expr} {a b : List Stmt} {tc : TT} (hc : PT X c tc) (ha : PSs X a t) (hb : PSs X b u) : PS X (.If c a b pos) (tIfS tc t u) := by
  intro pins s σ H D I h
  refine wpAny_If (thn (hc pins s σ H _ I h) fun d s1 ⟨H1, I1, q1⟩ => ?_)
  cases d with
  | true => exact ha pins s1 σ H1 D I1 q1
  | false => exact hb pins s1 σ H1 D I1 q1
def tNever : TS := fun _ _ _ => False
theorem ps_never : PS X st tNever := fun _ _ _ _ _ _ h => h.elim
end
abbrev TG := V → St → Hp → (St → Hp → Prop) → Prop
abbrev TGs := List V → St → Hp → (St → Hp → Prop) → Prop
def PG (X : Cx) (target : Expr) (t : TG) : Prop :=
  ∀ (pins : List (Addr × Obj)) (s : Shared) (σ : St) (H : Hp) (v : V) (u : Value) (Q : St → Hp → Prop), Inv X pins σ H s → RelV v u → t v σ H Q →
    wpAny (model X.prog X.w) X.A (assign target X.env u) (fun _ s' => ∃ σ' H', Inv X pins σ' H' s' ∧ Q σ' H') X.xe s
def PGs (X : Cx) (ts : List Expr) (t : TGs) : Prop :=
  ∀ (pins : List (Addr × Obj)) (s : Shared) (σ : St) (H : Hp) (vs : List V) (us : List Value) (Q : St → Hp → Prop), Inv X pins σ H s → Vals vs us → t vs σ H Q →
    wpAny (model X.prog X.w) X.A (assignInOrder ((assignEach ts X.env).map (·.2)) us) (fun _ s' => ∃ σ' H', Inv X pins σ' H' s' ∧ Q σ' H') X.xe s
section
variable {X : Cx} {pos : Pos}
def gName (i : Nat) : TG := fun v σ H Q => Q (σ.set i (some v)) H
theorem pg_name {i : Nat} {x : Str} (hN : X.N.Nodup) (hi : X.N[i]? = some x) (hx : Loc X.env.scope x) (hf : X.fn x = true ∨ X.env.scope.names.lookup x = some .local := by first | exact .inl rfl | exact .inr rfl | assumption) : PG X (.Name x pos) (gName i) := by
  intro pins s σ H v u Q I r h
  exact wpAny_assign_Name (store_ok I hN hi hx r (fun s' I' => ⟨_, H, I', h⟩) hf)
def gNil : TGs := fun vs σ H Q => vs = [] ∧ Q σ H
def gCons (t : TG) (u : TGs) : TGs := fun vs σ H Q => ∃ v r, vs = v :: r ∧ t v σ H fun σ' H' => u r σ' H' Q
theorem pgs_nil : PGs X [] gNil := by
  intro pins s σ H vs us Q I r h
  obtain ⟨e, h⟩ := h
  subst e
  cases r
  exact assignInOrder_nil ⟨σ, H, I, h⟩
theorem pgs_cons {e : Expr} {es : List Expr} {t : TG} {u : TGs} (h1 : PG X e t) (h2 : PGs X es u)
    (hs : (assignEach (e :: es) X.env).map (·.2) = assign e X.env :: (assignEach es X.env).map (·.2) := by rfl) : PGs X (e :: es) (gCons t u) := by
  intro pins s σ H vs us Q I r h
  obtain ⟨v, vr, e1, h⟩ := h
  subst e1
  cases r with
  | cons r rr =>
    rw [hs]
    refine assignInOrder_cons (thn (h1 pins s σ H _ _ _ I r h) fun _ s1 ⟨σ1, H1, I1, q1⟩ => ?_)
    exact h2 pins s1 σ1 H1 _ _ Q I1 rr q1
def gTup (K : PySem.W.Frag) (n : Nat) (t : TGs) : TG := fun v σ H Q => ∃ a xs, v = .ref a ∧ SqT K H a xs ∧ xs.length = n ∧ t xs σ H Q
theorem pg_tup {es : List Expr} {k : Nat} {t : TGs} {n : Nat} (hc : X.calm = true) (h : PGs X es t)
    (hn : (assignEach es X.env).length = n := by rfl) (hst : (assignEach es X.env).findIdx? (·.1) = none := by rfl) : PG X (.Tuple es k pos) (gTup X.K n t) := by
  intro pins s σ H v u Q I r hw
  obtain ⟨a, xs, e1, hq, hl, hw⟩ := hw
  subst e1
  cases r
  obtain ⟨its, rv, ht, hz⟩ := I.tuple hq
  refine assign_Tuple_tuple (I.ok.hd hc) ht (by simp [hn, ← hl, rv.length]) hst fun h' hx => ?_
  have I1 : Inv X pins σ H { s with heap := h' } := I.kept (t' := s.toks) fun b o e => hx b o (Nat.ne_of_lt (Heap.lt_size e)) e
  exact h pins _ σ H xs _ Q I1 (by simpa using rv) hw
def tAsg (te : TE) (g : TG) : TS := fun D σ H => te σ H fun x H1 => g x σ H1 D.nx
theorem ps_set {i : Nat} {x : Str} {e : Expr} {te : TE} {pos' : Pos} (hN : X.N.Nodup) (hi : X.N[i]? = some x) (hx : Loc X.env.scope x) (he : PE X e te) (hs : swapsWith e (some (.Name x pos')) pos.line X.env = pure false := by rfl) (hf : X.fn x = true ∨ X.env.scope.names.lookup x = some .local := by first | exact .inl rfl | exact .inr rfl | assumption) :
    PS X (.Assign [.Name x pos'] e pos) (tAsg te (gName i)) := by
  intro pins s σ H D I h
  refine wpAny_Assign_Name (thn (he pins s σ H _ I h) fun v s1 ⟨y, H1, I1, r1, q1⟩ => ?_) hs
  exact store_ok I1 hN hi hx r1 (fun s2 I2 => ⟨_, H1, I2, q1⟩) hf
end
section
variable {X : Cx} {pos : Pos}
def tWhile (c : TT) (tb : TS) : TS := fun D σ H => ∃ W : Nat → St → Hp → Prop, (∃ m, W m σ H) ∧ ∀ m σ H, W m σ H →
  c σ H fun b H1 => if b = true then ∃ N : St → Hp → Prop, (∀ σ' H', N σ' H' → ∃ m', m' < m ∧ W m' σ' H') ∧ tb { D with nx := N, ct := N, bk := D.nx } σ H1 else D.nx σ H1
theorem ps_while {c : Expr} {body : List Stmt} {tc : TT} {tb : TS} (hp : PassesOwn (model X.prog X.w) X.A X.env X.xe) (hc : PT X c tc) (hb : PSs X body tb) : PS X (.While c body [] pos) (tWhile tc tb) := by
  intro pins s σ H D I h
  obtain ⟨W, ⟨m0, w0⟩, turn⟩ := h
  refine wpAny_While (codeAny_whileLoop (fun n s' => ∃ σ' H', Inv X pins σ' H' s' ∧ W n σ' H') ?_ m0 ⟨σ, H, I, w0⟩)
  rintro n s1 ⟨σ1, H1, I1, w1⟩
  refine wpAny_passesOwn hp (thn (hc pins s1 σ1 H1 _ I1 (turn n σ1 H1 w1)) fun b s2 ⟨H2, I2, q2⟩ => ?_)
  cases b with
  | true =>
    obtain ⟨N, hN, q2⟩ := q2
    rw [if_pos rfl]
    refine wpAny_passesOwn hp (thn (hb pins s2 σ1 H2 _ I2 q2) fun f s3 q3 => ?_)
    cases f with
    | next =>
      obtain ⟨σ3, H3, I3, n3⟩ := q3
      obtain ⟨m', hm, w3⟩ := hN σ3 H3 n3
      exact ⟨m', hm, σ3, H3, I3, w3⟩
    | cont =>
      obtain ⟨σ3, H3, I3, n3⟩ := q3
      obtain ⟨m', hm, w3⟩ := hN σ3 H3 n3
      exact ⟨m', hm, σ3, H3, I3, w3⟩
    | brk => exact q3
    | ret v => exact q3
  | false =>
    rw [if_neg Bool.false_ne_true]
    exact wpAny_execs_nil ⟨σ1, H2, I2, q2⟩
end
structure It where
  go : Nat → Hp → Prop
  yld : Nat → Hp → V → Hp → Prop
  stop : Nat → Hp → Prop
def FpOk (X : Cx) (pins : List (Addr × Obj)) (H : Hp) (b : Addr) : Prop :=
  H b = none ∧ b ≠ X.env.locals ∧ b ∉ X.fs ∧ (b ∈ X.ex ∨ X.s₀.heap.objs.size ≤ b) ∧ (∀ x c, X.env.cells.lookup x = some c → c ≠ b) ∧ ∀ p ∈ X.pn ++ pins, p.1 ≠ b
theorem Inv.fpOk {X : Cx} {pins : List (Addr × Obj)} {σ : St} {H H' : Hp} {s : Shared} {b : Addr} (I : Inv X pins σ H s) (hb : s.heap.objs.size ≤ b) (hn : H' b = none) : FpOk X pins H' b := by
  refine ⟨hn, Nat.ne_of_gt (Nat.lt_of_lt_of_le I.lt hb), I.nofs hb, .inr (Nat.le_trans I.sz hb), fun x c e z => ?_, fun p hp z => ?_⟩
  · obtain ⟨v, q⟩ := I.cell x c e
    exact absurd (Nat.lt_of_lt_of_le q.lt (by rw [z]; exact hb)) (Nat.lt_irrefl _)
  · exact absurd (Nat.lt_of_lt_of_le (Heap.lt_size (I.pin p hp).1) (by rw [z]; exact hb)) (Nat.lt_irrefl _)
structure Turn (P : Program) (w : World) (K : PySem.W.Frag) (tg : Expr) (J : It) (fp : List Addr) (it : Addr) (tn : Nat → Heap → Prop) : Prop where
  mem : it ∈ fp
  obj : ∀ i h, tn i h → ∀ b ∈ fp, ∃ o, h.get? b = some o ∧ ∀ v, o.data ≠ .cell v
  keep : ∀ i h h', tn i h → (∀ b ∈ fp, ∀ o, h.get? b = some o → h'.get? b = some o) → tn i h'
  item : ∀ (X : Cx), X.prog = P → X.w = w → X.K = K → X.calm = true → ∀ (i : Nat) (pins : List (Addr × Obj)) (s : Shared) (σ : St) (H : Hp) (E : Value → Shared → Prop), Inv X pins σ H s → (∀ b ∈ fp, FpOk X pins H b) → tn i s.heap → J.go i H →
    wpAny (model P w) X.A (pyNext (.ref it)) (fun r s1 => ∃ u, r = some u ∧
      wpAny (model P w) X.A (letOwnedTupleGo tg (.ref it) u) (fun _ s2 => ∃ x H', Inv X pins σ H' s2 ∧ RelV x u ∧ J.yld i H x H' ∧ tn (i + 1) s2.heap ∧ ∀ b ∈ fp, H' b = none) E s1) E s
  done : ∀ (X : Cx), X.prog = P → X.w = w → X.K = K → X.calm = true → ∀ (i : Nat) (pins : List (Addr × Obj)) (s : Shared) (σ : St) (H : Hp) (E : Value → Shared → Prop), Inv X pins σ H s → (∀ b ∈ fp, FpOk X pins H b) → tn i s.heap → J.stop i H →
    wpAny (model P w) X.A (pyNext (.ref it)) (fun r s1 => r = none ∧ Inv X pins σ H s1) E s
  self : ∀ (A : Around) (i : Nat) (s : Shared) (Q : Value → Shared → Prop) (E : Value → Shared → Prop), tn i s.heap → Q (.ref it) s → wpAny (model P w) A (pyIter (.ref it)) Q E s
abbrev TI := St → Hp → (It → Hp → Prop) → Prop
def PIE (X : Cx) (pins : List (Addr × Obj)) (σ : St) (tg : Expr) (R : It → Hp → Prop) (itv : Value) (s2 : Shared) : Prop :=
  ∃ (it : Addr) (fp : List Addr) (tn : Nat → Heap → Prop) (J : It) (H' : Hp), itv = .ref it ∧ Inv X pins σ H' s2 ∧ Turn X.prog X.w X.K tg J fp it tn ∧ tn 0 s2.heap ∧ (∀ b ∈ fp, FpOk X pins H' b) ∧ R J H'
def PI (X : Cx) (tg iter : Expr) (wi : TI) : Prop :=
  ∀ (pins : List (Addr × Obj)) (s : Shared) (σ : St) (H : Hp) (R : It → Hp → Prop), Inv X pins σ H s → wi σ H R →
    wpAny (model X.prog X.w) X.A (eval iter X.env) (fun v s1 => wpAny (model X.prog X.w) X.A (pyIter v) (PIE X pins σ tg R) X.xe s1) X.xe s
theorem go_of {M : Model} {A : Around} {E : Value → Shared → Prop} {s : Shared} {tg : Expr} {it : Addr} {u : Value} {o : Obj} {n : String} {vs : Array Value} {Q : Unit → Shared → Prop} (ho : s.heap.get? it = some o) (hc : o.cls = .type n) (hd : o.data = .fields vs)
    (hn : ["enumerate", "zip", "dict_itemiterator", "dict_reverseitemiterator", "odict_iterator", "itertools.zip_longest", "itertools.pairwise"].contains n = false) (hQ : Q () s) : wpAny M A (letOwnedTupleGo tg (.ref it) u) Q E s := by
  unfold letOwnedTupleGo
  cases tg <;> first
    | exact wpAny_pure hQ
    | (cases u <;> first
        | exact wpAny_pure hQ
        | (refine wpAny_bind (wpAny_load ho ?_)
           rw [hc, hd]
           show wpAny M A (if (["enumerate", "zip", "dict_itemiterator", "dict_reverseitemiterator", "odict_iterator", "itertools.zip_longest", "itertools.pairwise"].contains n && vs[0]? == some (rawInt _)) = true then _ else _) Q E s
           rw [if_neg (by intro h; rw [hn, Bool.false_and] at h; cases h)]
           exact wpAny_pure hQ))
def Itl (K : PySem.W.Frag) (a : Addr) : It :=
  ⟨fun i H => ∃ xs x, SqL K H a xs ∧ xs[i]? = some x, fun i H x H' => H' = H ∧ ∀ xs, SqL K H a xs → xs[i]? = some x, fun i H => ∃ xs, SqL K H a xs ∧ xs.length ≤ i⟩
def Itt (K : PySem.W.Frag) (a : Addr) : It :=
  ⟨fun i H => ∃ xs x, SqT K H a xs ∧ xs[i]? = some x, fun i H x H' => H' = H ∧ ∀ xs, SqT K H a xs → xs[i]? = some x, fun i H => ∃ xs, SqT K H a xs ∧ xs.length ≤ i⟩
def Itr (lo : Int) (n : Nat) : It := ⟨fun i _ => i < n, fun i H x H' => H' = H ∧ x = .int (lo + i), fun i _ => n ≤ i⟩
theorem turn_list {P : Program} {w : World} {K : PySem.W.Frag} {tg : Expr} (a it : Addr) : Turn P w K tg (Itl K a) [it] it (fun i h => h.IsListIter it a i) where
  mem := by simp
  obj := fun i h st b hb => by
    have e : b = it := by simpa using hb
    subst e
    obtain ⟨o, e, c, d⟩ := st
    exact ⟨o, e, fun v z => by rw [d] at z; cases z⟩
  keep := fun i h h' st k => st.at fun o e => k it (by simp) o e
  item := by
    intro X hP hw hK hc i pins s σ H E I hf st hg
    subst hP hw hK
    obtain ⟨xs, x, hq, hx⟩ := hg
    obtain ⟨its, rv, p, hz⟩ := I.list hq
    obtain ⟨u, hu, ru⟩ := rv.get hx
    obtain ⟨f0, f1, f2, f3, f4, f5⟩ := hf it (by simp)
    refine wpAny_pyNext_list_item st p.isList (x := u) (by simpa using hu) fun h' st' sb => ?_
    have I1 : Inv X pins σ H { s with heap := h' } := I.turned (t' := s.toks) (fun b o hb e => (sb.2 b hb).trans e) f0 f1 f3 f4 f5
    obtain ⟨o, e, c, d⟩ := id st'
    exact ⟨u, rfl, go_of (s := { s with heap := h' }) e c d (by decide) ⟨x, H, I1, ru, ⟨rfl, fun ys hy => by rw [I.list_inj hy hq]; exact hx⟩, st', fun b hb => (hf b hb).1⟩⟩
  done := by
    intro X hP hw hK hc i pins s σ H E I hf st hg
    subst hP hw hK
    obtain ⟨xs, hq, hx⟩ := hg
    obtain ⟨its, rv, p, hz⟩ := I.list hq
    obtain ⟨f0, f1, f2, f3, f4, f5⟩ := hf it (by simp)
    have hl := rv.length
    exact wpAny_pyNext_list_end (I.ok.hd hc) st p.isList (by simp; omega) fun h' eb => ⟨rfl, I.turned (t' := s.toks) (fun b o hb e => eb b o hb e) f0 f1 f3 f4 f5⟩
  self := fun _ _ _ _ _ st h => wpAny_pyIter_listiter st h
theorem turn_tuple {P : Program} {w : World} {K : PySem.W.Frag} {tg : Expr} (a it : Addr) : Turn P w K tg (Itt K a) [it] it (fun i h => h.IsTupleIter it a i) where
  mem := by simp
  obj := fun i h st b hb => by
    have e : b = it := by simpa using hb
    subst e
    obtain ⟨o, e, c, d⟩ := st
    exact ⟨o, e, fun v z => by rw [d] at z; cases z⟩
  keep := fun i h h' st k => st.at fun o e => k it (by simp) o e
  item := by
    intro X hP hw hK hc i pins s σ H E I hf st hg
    subst hP hw hK
    obtain ⟨xs, x, hq, hx⟩ := hg
    obtain ⟨its, rv, p, hz⟩ := I.tuple hq
    obtain ⟨u, hu, ru⟩ := rv.get hx
    obtain ⟨f0, f1, f2, f3, f4, f5⟩ := hf it (by simp)
    refine wpAny_pyNext_tuple_item st (show s.heap.IsTuple a its.toArray from p) (x := u) (by simpa using hu) fun h' st' sb => ?_
    have I1 : Inv X pins σ H { s with heap := h' } := I.turned (t' := s.toks) (fun b o hb e => (sb.2 b hb).trans e) f0 f1 f3 f4 f5
    obtain ⟨o, e, c, d⟩ := id st'
    exact ⟨u, rfl, go_of (s := { s with heap := h' }) e c d (by decide) ⟨x, H, I1, ru, ⟨rfl, fun ys hy => by rw [I.tuple_inj hy hq]; exact hx⟩, st', fun b hb => (hf b hb).1⟩⟩
  done := by
    intro X hP hw hK hc i pins s σ H E I hf st hg
    subst hP hw hK
    obtain ⟨xs, hq, hx⟩ := hg
    obtain ⟨its, rv, p, hz⟩ := I.tuple hq
    obtain ⟨f0, f1, f2, f3, f4, f5⟩ := hf it (by simp)
    have hl := rv.length
    exact wpAny_pyNext_tuple_end (I.ok.hd hc) st (show s.heap.IsTuple a its.toArray from p) (by simp; omega) fun h' eb => ⟨rfl, I.turned (t' := s.toks) (fun b o hb e => eb b o hb e) f0 f1 f3 f4 f5⟩
  self := fun _ _ _ _ _ st h => wpAny_pyIter_tupleiter st h
theorem turn_range {P : Program} {w : World} {K : PySem.W.Frag} {tg : Expr} (it : Addr) (lo : Int) (n : Nat) : Turn P w K tg (Itr lo n) [it] it (fun i h => IsRangeIter h it (lo + (i : Nat) * 1) ((n : Int) - (i : Nat)) 1) where
  mem := by simp
  obj := fun i h st b hb => by
    have e : b = it := by simpa using hb
    subst e
    exact ⟨_, st, fun v z => by
      have z' : Data.fields _ = Data.cell v := z
      cases z'⟩
  keep := fun i h h' st k => k it (by simp) _ st
  item := by
    intro X hP hw hK hc i pins s σ H E I hf st hg
    subst hP hw hK
    obtain ⟨f0, f1, f2, f3, f4, f5⟩ := hf it (by simp)
    have W := Walks.range (prog := X.prog) (w := X.w) (I.ok.hd hc) it lo 1 n
    refine W.item i s _ _ hg st fun v h' tk hv st' kk => ?_
    obtain ⟨t, rfl⟩ := hv
    have I1 : Inv X pins σ H { s with heap := h', toks := tk } := I.turned (fun b o hb e => kk b o (by simpa using hb) e) f0 f1 f3 f4 f5
    refine ⟨_, rfl, go_of (s := { s with heap := h', toks := tk }) (n := "range_iterator") st' rfl rfl (by decide) ⟨.int (lo + i), H, I1, ⟨t, ?_⟩, ⟨rfl, rfl⟩, st', fun b hb => (hf b hb).1⟩⟩
    rw [Int.mul_one]
  done := by
    intro X hP hw hK hc i pins s σ H E I hf st hg
    subst hP hw hK
    obtain ⟨f0, f1, f2, f3, f4, f5⟩ := hf it (by simp)
    exact wpAny_pyNext_range_end (I.ok.hd hc) st (by have : n ≤ i := hg; omega) fun h' eb => ⟨rfl, I.turned (t' := s.toks) (fun b o hb e => eb b o hb e) f0 f1 f3 f4 f5⟩
  self := fun _ _ _ _ _ st h => wpAny_pyIter_rangeiter st h
end L2
namespace L2
open PySem PySem.Spec PyProof.Rows
section
variable {X : Cx} {tg : Expr}
def iList (K : PySem.W.Frag) (tl : TE) : TI := fun σ H R => tl σ H fun x H1 => ∃ a, x = .ref a ∧ (∃ xs, SqL K H1 a xs) ∧ R (Itl K a) H1
def iTup (K : PySem.W.Frag) (tl : TE) : TI := fun σ H R => tl σ H fun x H1 => ∃ a, x = .ref a ∧ (∃ xs, SqT K H1 a xs) ∧ R (Itt K a) H1
theorem pi_list {l : Expr} {tl : TE} (hl : PE X l tl) : PI X tg l (iList X.K tl) := by
  intro pins s σ H R I h
  refine thn (hl pins s σ H _ I h) fun v s1 ⟨x, H1, I1, r1, q1⟩ => ?_
  obtain ⟨a, e, ⟨xs, hq⟩, q⟩ := q1
  subst e
  cases r1
  obtain ⟨its, rv, p, hz⟩ := I1.list hq
  refine wpAny_pyIter_list p.isList ?_
  refine ⟨s1.heap.objs.size, [s1.heap.objs.size], _, _, H1, rfl, I1.kept (t' := s1.toks) fun b o e => Heap.get?_push_of_some _ e, turn_list a _, ⟨_, Heap.get?_push_size _ rfl, rfl, rfl⟩, fun b hb => ?_, q⟩
  have e : b = s1.heap.objs.size := by simpa using hb
  subst e
  exact I1.fpOk (Nat.le_refl _) (I1.hok.fresh (Nat.le_refl _))
theorem pi_tup {l : Expr} {tl : TE} (hl : PE X l tl) : PI X tg l (iTup X.K tl) := by
  intro pins s σ H R I h
  refine thn (hl pins s σ H _ I h) fun v s1 ⟨x, H1, I1, r1, q1⟩ => ?_
  obtain ⟨a, e, ⟨xs, hq⟩, q⟩ := q1
  subst e
  cases r1
  obtain ⟨its, rv, p, hz⟩ := I1.tuple hq
  refine wpAny_pyIter_tuple (show s1.heap.IsTuple a its.toArray from p) ?_
  refine ⟨s1.heap.objs.size, [s1.heap.objs.size], _, _, H1, rfl, I1.kept (t' := s1.toks) fun b o e => Heap.get?_push_of_some _ e, turn_tuple a _, ⟨_, Heap.get?_push_size _ rfl, rfl, rfl⟩, fun b hb => ?_, q⟩
  have e : b = s1.heap.objs.size := by simpa using hb
  subst e
  exact I1.fpOk (Nat.le_refl _) (I1.hok.fresh (Nat.le_refl _))
theorem range_it {pins : List (Addr × Obj)} {σ : St} {H : Hp} {s : Shared} {R : It → Hp → Prop} {E : Value → Shared → Prop} {lo hi : Int} {t u v : Tok} {tk : Nat} (I : Inv X pins σ H s) (h1 : -(2 ^ 62) ≤ lo) (h2 : lo < 2 ^ 62) (h3 : -(2 ^ 62) ≤ hi) (h4 : hi < 2 ^ 62)
    (q : R (Itr lo (hi - lo).toNat) H) : wpAny (model X.prog X.w) X.A (pyIter (.ref s.heap.objs.size)) (PIE X pins σ tg R) E { s with heap := s.heap.push { cls := .type "range", data := .fields #[.int lo t, .int hi u, .int 1 v] }, toks := tk } := by
  refine wpAny_pyIter_range (IsRange.new ..) (small_one h1 h2 h3 h4) ?_
  have I1 : Inv X pins σ H { s with heap := s.heap.push { cls := .type "range", data := .fields #[.int lo t, .int hi u, .int 1 v] }, toks := tk } := I.kept fun b o e => Heap.get?_push_of_some _ e
  refine ⟨(s.heap.push { cls := .type "range", data := .fields #[.int lo t, .int hi u, .int 1 v] }).objs.size, [(s.heap.push { cls := .type "range", data := .fields #[.int lo t, .int hi u, .int 1 v] }).objs.size], _, _, H, rfl,
    I1.kept (t' := tk) fun b o e => Heap.get?_push_of_some _ e, turn_range _ lo (hi - lo).toNat, ?_, fun b hb => ?_, q⟩
  · have e1 : lo + ((0 : Nat) : Int) * 1 = lo := by simp
    have e2 : (((hi - lo).toNat : Nat) : Int) - ((0 : Nat) : Int) = Builtin.Range.rangeSize lo hi 1 := by rw [rangeSize_one]; split <;> omega
    show IsRangeIter _ _ (lo + ((0 : Nat) : Int) * 1) ((((hi - lo).toNat : Nat) : Int) - ((0 : Nat) : Int)) 1
    rw [e1, e2]
    exact Heap.get?_push_size _ rfl
  · have e : b = (s.heap.push { cls := .type "range", data := .fields #[.int lo t, .int hi u, .int 1 v] }).objs.size := by simpa using hb
    subst e
    exact I1.fpOk (Nat.le_refl _) (I1.hok.fresh (Nat.le_refl _))
def iRng1 (ta : TA) : TI := fun σ H R => ta σ H fun vs H1 => ∃ j : Int, vs = [.int j] ∧ -(2 ^ 62) ≤ j ∧ j < 2 ^ 62 ∧ R (Itr 0 j.toNat) H1
theorem pi_range1 {a : Expr} {ta : TA} {p pos : Pos} (hg : Gl X "range") (hm : X.mg "range" = none) (ha : PA X [a] ta) (hs : starEach [a] X.env = [(false, eval a X.env)] := by rfl) : PI X tg (.Call (.Name "range" p) [a] [] pos) (iRng1 ta) := by
  intro pins s σ H R I h
  refine Call_ (ld_blt I hg hm boot_range (PyProof.Rows.callWith_type1 (thn (ha pos pins s σ H _ I h) fun us s1 ⟨vs, H1, I1, r1, q1⟩ => ?_) hs rfl))
  obtain ⟨j, e, q1, q2, q⟩ := q1
  subst e
  cases r1 with
  | cons r rr =>
    cases rr
    obtain ⟨t, rfl⟩ := r
    exact call_range_1 (range_it I1 (by omega) (by omega) q1 q2 (by simpa using q))
def tFor (wi : TI) (g : TG) (tb : TS) : TS := fun D σ H => wi σ H fun J H1 => ∃ W : Nat → Nat → St → Hp → Prop, (∃ m, W 0 m σ H1) ∧ ∀ i m σ H, W i m σ H →
  (J.stop i H ∧ D.nx σ H) ∨ (J.go i H ∧ ∃ N : St → Hp → Prop, (∀ σ' H', N σ' H' → ∃ m', m' < m ∧ W (i + 1) m' σ' H') ∧ ∀ x H', J.yld i H x H' → g x σ H' fun σ2 H2 => tb { D with nx := N, ct := N, bk := D.nx } σ2 H2)
def pinsAt (fp : List Addr) (h : Heap) : List (Addr × Obj) := fp.filterMap fun b => (h.get? b).map fun o => (b, o)
theorem mem_pinsAt {fp : List Addr} {h : Heap} {b : Addr} {o : Obj} (hb : b ∈ fp) (e : h.get? b = some o) : (b, o) ∈ pinsAt fp h := List.mem_filterMap.mpr ⟨b, hb, by rw [e]; rfl⟩
theorem of_pinsAt {fp : List Addr} {h : Heap} {p : Addr × Obj} (hp : p ∈ pinsAt fp h) : p.1 ∈ fp ∧ h.get? p.1 = some p.2 := by
  obtain ⟨b, hb, e⟩ := List.mem_filterMap.mp hp
  cases q : h.get? b with
  | none => rw [q] at e; cases e
  | some o =>
    rw [q] at e
    have e' : (b, o) = p := Option.some.inj e
    subst e'
    exact ⟨hb, q⟩
theorem Inv.pinned {pins : List (Addr × Obj)} {σ : St} {H : Hp} {s : Shared} {fp : List Addr} (I : Inv X pins σ H s) (hf : ∀ b ∈ fp, FpOk X pins H b) (ho : ∀ b ∈ fp, ∃ o, s.heap.get? b = some o ∧ ∀ v, o.data ≠ .cell v) : Inv X (pins ++ pinsAt fp s.heap) σ H s :=
  I.pins_of fun p hp => (List.mem_append.mp hp).elim (fun z => I.pin p (List.mem_append_right _ z)) fun z => by
    obtain ⟨hb, e⟩ := of_pinsAt z
    obtain ⟨f0, f1, f2, _⟩ := hf p.1 hb
    obtain ⟨o, e', d⟩ := ho p.1 hb
    rw [e] at e'; cases e'
    exact ⟨e, f0, f1, f2, d⟩
theorem Inv.unpinned {pins pl : List (Addr × Obj)} {σ : St} {H : Hp} {s : Shared} (I : Inv X (pins ++ pl) σ H s) : Inv X pins σ H s := I.pins_of fun p hp => I.pin p (List.mem_append_right _ (List.mem_append_left _ hp))
theorem ps_for {iter : Expr} {body : List Stmt} {wi : TI} {g : TG} {tb : TS} {pos : Pos} (hp : PassesOwn (model X.prog X.w) X.A X.env X.xe) (hc : X.calm = true) (hi : PI X tg iter wi) (hg : PG X tg g) (hb : PSs X body tb)
    (hs : ∀ x, foldedSetIterable iter X.env x = pure x := by intro _; rfl) : PS X (.For tg iter body [] pos) (tFor wi g tb) := by
  intro pins s σ H D I h
  refine wpAny_For (thn (hi pins s σ H _ I h) fun v s1 h1 => thn h1 fun itv s2 h2 => ?_) hs
  obtain ⟨it, fp, tn, J, H2, e, I2, T, st2, f2, W, ⟨m0, w0⟩, turn⟩ := h2
  subst e
  have stat : ∀ {H' : Hp}, (∀ b ∈ fp, H' b = none) → ∀ b ∈ fp, FpOk X pins H' b := fun hn b hb => ⟨hn b hb, (f2 b hb).2⟩
  refine codeAny_forLoop_any (fun n s' => ∃ i σ' H', Inv X pins σ' H' s' ∧ tn i s'.heap ∧ (∀ b ∈ fp, H' b = none) ∧ W i n σ' H') ?_ m0 ⟨0, σ, H2, I2, st2, fun b hb => (f2 b hb).1, w0⟩
  rintro n s3 ⟨i, σ3, H3, I3, st3, fr3, w3⟩
  rcases turn i n σ3 H3 w3 with ⟨stop, qn⟩ | ⟨go, N, hN, step⟩
  · refine wpAny_passesOwn hp (thn (T.done X rfl rfl rfl hc i pins s3 σ3 H3 X.xe I3 (stat fr3) st3 stop) fun r s4 ⟨hr, I4⟩ => ?_)
    subst hr
    exact wpAny_execs_nil ⟨σ3, H3, I4, qn⟩
  · refine wpAny_passesOwn hp (thn (T.item X rfl rfl rfl hc i pins s3 σ3 H3 X.xe I3 (stat fr3) st3 go) fun r s4 ⟨u, hr, h4⟩ => ?_)
    subst hr
    refine wpAny_passesOwn hp (thn h4 fun _ s5 ⟨x, H5, I5, r5, y5, st5, fr5⟩ => ?_)
    have I5' := I5.pinned (stat fr5) (T.obj _ _ st5)
    refine wpAny_passesOwn hp (thn (hg _ s5 σ3 H5 x u _ I5' r5 (step x H5 y5)) fun _ s6 ⟨σ6, H6, I6, q6⟩ => ?_)
    refine wpAny_passesOwn hp (thn (hb _ s6 σ6 H6 _ I6 q6) fun f s7 q7 => ?_)
    have again : ∀ {σ7 : St} {H7 : Hp}, Inv X (pins ++ pinsAt fp s5.heap) σ7 H7 s7 → N σ7 H7 → ∃ m, m < n ∧ ∃ i σ' H', Inv X pins σ' H' s7 ∧ tn i s7.heap ∧ (∀ b ∈ fp, H' b = none) ∧ W i m σ' H' := fun {σ7 H7} I7 n7 => by
      obtain ⟨m', hm, w7⟩ := hN σ7 H7 n7
      refine ⟨m', hm, i + 1, σ7, H7, I7.unpinned, T.keep _ _ _ st5 fun b hb o e => (I7.pin (b, o) (List.mem_append_right _ (List.mem_append_right _ (mem_pinsAt hb e)))).1, fun b hb => ?_, w7⟩
      obtain ⟨o, e, d⟩ := T.obj _ _ st5 b hb
      exact (I7.pin (b, o) (List.mem_append_right _ (List.mem_append_right _ (mem_pinsAt hb e)))).2.1
    cases f with
    | next => obtain ⟨σ7, H7, I7, n7⟩ := q7; exact again I7 n7
    | cont => obtain ⟨σ7, H7, I7, n7⟩ := q7; exact again I7 n7
    | brk => obtain ⟨σ7, H7, I7, q7⟩ := q7; exact ⟨σ7, H7, I7.unpinned, q7⟩
    | ret v => obtain ⟨x7, σ7, H7, I7, r7, q7⟩ := q7; exact ⟨x7, σ7, H7, I7.unpinned, r7, q7⟩
end
theorem for_list {K : PySem.W.Frag} {a : Addr} {xs : List V} {g : TG} {tb : TS} {D : Ends} {σ : St} {H : Hp} (Pv : Nat → St → Hp → Prop) (h0 : Pv 0 σ H) (hl : ∀ i σ H, i ≤ xs.length → Pv i σ H → SqL K H a xs)
    (hs : ∀ i x σ H, xs[i]? = some x → Pv i σ H → g x σ H fun σ2 H2 => tb { D with nx := Pv (i + 1), ct := Pv (i + 1), bk := D.nx } σ2 H2) (hd : ∀ σ H, Pv xs.length σ H → D.nx σ H) :
    ∃ W : Nat → Nat → St → Hp → Prop, (∃ m, W 0 m σ H) ∧ ∀ i m σ H, W i m σ H →
      ((Itl K a).stop i H ∧ D.nx σ H) ∨ ((Itl K a).go i H ∧ ∃ N : St → Hp → Prop, (∀ σ' H', N σ' H' → ∃ m', m' < m ∧ W (i + 1) m' σ' H') ∧ ∀ x H', (Itl K a).yld i H x H' → g x σ H' fun σ2 H2 => tb { D with nx := N, ct := N, bk := D.nx } σ2 H2) := by
  refine ⟨fun i m σ H => m = xs.length - i ∧ i ≤ xs.length ∧ Pv i σ H, ⟨xs.length, by simp, Nat.zero_le _, h0⟩, ?_⟩
  rintro i m σ H ⟨rfl, hi, p⟩
  have q := hl i σ H hi p
  by_cases hlt : i < xs.length
  · refine .inr ⟨⟨xs, xs[i], q, by simp [hlt]⟩, Pv (i + 1), fun σ' H' p' => ⟨xs.length - (i + 1), by omega, rfl, hlt, p'⟩, fun x H' y => ?_⟩
    obtain ⟨e, y⟩ := y
    subst e
    exact hs i x σ _ (y xs q) p
  · have e : i = xs.length := by omega
    subst e
    exact .inl ⟨⟨xs, q, Nat.le_refl _⟩, hd σ H p⟩
theorem for_tup {K : PySem.W.Frag} {a : Addr} {xs : List V} {g : TG} {tb : TS} {D : Ends} {σ : St} {H : Hp} (Pv : Nat → St → Hp → Prop) (h0 : Pv 0 σ H) (hl : ∀ i σ H, i ≤ xs.length → Pv i σ H → SqT K H a xs)
    (hs : ∀ i x σ H, xs[i]? = some x → Pv i σ H → g x σ H fun σ2 H2 => tb { D with nx := Pv (i + 1), ct := Pv (i + 1), bk := D.nx } σ2 H2) (hd : ∀ σ H, Pv xs.length σ H → D.nx σ H) :
    ∃ W : Nat → Nat → St → Hp → Prop, (∃ m, W 0 m σ H) ∧ ∀ i m σ H, W i m σ H →
      ((Itt K a).stop i H ∧ D.nx σ H) ∨ ((Itt K a).go i H ∧ ∃ N : St → Hp → Prop, (∀ σ' H', N σ' H' → ∃ m', m' < m ∧ W (i + 1) m' σ' H') ∧ ∀ x H', (Itt K a).yld i H x H' → g x σ H' fun σ2 H2 => tb { D with nx := N, ct := N, bk := D.nx } σ2 H2) := by
  refine ⟨fun i m σ H => m = xs.length - i ∧ i ≤ xs.length ∧ Pv i σ H, ⟨xs.length, by simp, Nat.zero_le _, h0⟩, ?_⟩
  rintro i m σ H ⟨rfl, hi, p⟩
  have q := hl i σ H hi p
  by_cases hlt : i < xs.length
  · refine .inr ⟨⟨xs, xs[i], q, by simp [hlt]⟩, Pv (i + 1), fun σ' H' p' => ⟨xs.length - (i + 1), by omega, rfl, hlt, p'⟩, fun x H' y => ?_⟩
    obtain ⟨e, y⟩ := y
    subst e
    exact hs i x σ _ (y xs q) p
  · have e : i = xs.length := by omega
    subst e
    exact .inl ⟨⟨xs, q, Nat.le_refl _⟩, hd σ H p⟩
theorem for_range {lo : Int} {n : Nat} {g : TG} {tb : TS} {D : Ends} {σ : St} {H : Hp} (Pv : Nat → St → Hp → Prop) (h0 : Pv 0 σ H)
    (hs : ∀ i σ H, i < n → Pv i σ H → g (.int (lo + i)) σ H fun σ2 H2 => tb { D with nx := Pv (i + 1), ct := Pv (i + 1), bk := D.nx } σ2 H2) (hd : ∀ σ H, Pv n σ H → D.nx σ H) :
    ∃ W : Nat → Nat → St → Hp → Prop, (∃ m, W 0 m σ H) ∧ ∀ i m σ H, W i m σ H →
      ((Itr lo n).stop i H ∧ D.nx σ H) ∨ ((Itr lo n).go i H ∧ ∃ N : St → Hp → Prop, (∀ σ' H', N σ' H' → ∃ m', m' < m ∧ W (i + 1) m' σ' H') ∧ ∀ x H', (Itr lo n).yld i H x H' → g x σ H' fun σ2 H2 => tb { D with nx := N, ct := N, bk := D.nx } σ2 H2) := by
  refine ⟨fun i m σ H => m = n - i ∧ i ≤ n ∧ Pv i σ H, ⟨n, by simp, Nat.zero_le _, h0⟩, ?_⟩
  rintro i m σ H ⟨rfl, hi, p⟩
  by_cases hlt : i < n
  · refine .inr ⟨hlt, Pv (i + 1), fun σ' H' p' => ⟨n - (i + 1), by omega, rfl, hlt, p'⟩, fun x H' y => ?_⟩
    obtain ⟨e, y⟩ := y
    subst e y
    exact hs i σ _ hlt p
  · have e : i = n := by omega
    subst e
    exact .inl ⟨Nat.le_refl _, hd σ H p⟩
end L2
namespace L2
open PySem PySem.Spec PyProof.Rows
abbrev R2 := V → V → Hp → VK → Prop
def OpR (X : Cx) (f : Value → Value → Sem Value) (r : R2) : Prop :=
  ∀ (pins : List (Addr × Obj)) (s : Shared) (σ : St) (H : Hp) (x y : V) (v u : Value) (Q : VK), Inv X pins σ H s → RelV x v → RelV y u → r x y H Q →
    wpAny (model X.prog X.w) X.A (f v u) (EP X pins σ Q) X.xe s
def UnR (X : Cx) (f : Value → Sem Value) (r : V → Hp → VK → Prop) : Prop :=
  ∀ (pins : List (Addr × Obj)) (s : Shared) (σ : St) (H : Hp) (x : V) (v : Value) (Q : VK), Inv X pins σ H s → RelV x v → r x H Q →
    wpAny (model X.prog X.w) X.A (f v) (EP X pins σ Q) X.xe s
def CallR (X : Cx) (f : Value) (r : List V → Hp → VK → Prop) : Prop :=
  ∀ (pins : List (Addr × Obj)) (s : Shared) (σ : St) (H : Hp) (xs : List V) (us : List Value) (Q : VK), Inv X pins σ H s → Vals xs us → r xs H Q →
    wpAny (model X.prog X.w) X.A (call f us) (EP X pins σ Q) X.xe s
def tOp (r : R2) (ta tb : TE) : TE := fun σ H Q => ta σ H fun x H1 => tb σ H1 fun y H2 => r x y H2 Q
def tUn (r : V → Hp → VK → Prop) (ta : TE) : TE := fun σ H Q => ta σ H fun x H1 => r x H1 Q
def rI (C : Int → Int → Prop) (g : Int → Int → V) : R2 := fun x y H Q => ∃ i j, x = .int i ∧ y = .int j ∧ C i j ∧ Q (g i j) H
def rI0 (g : Int → Int → V) : R2 := fun x y H Q => ∃ i j, x = .int i ∧ y = .int j ∧ Q (g i j) H
def rU (g : Int → V) : V → Hp → VK → Prop := fun x H Q => ∃ i, x = .int i ∧ Q (g i) H
section
variable {X : Cx} {a b c : Expr} {ta tb tc : TE} {pos : Pos}
theorem binT (ha : PE X a ta) (hb : PE X b tb) {pins : List (Addr × Obj)} {s : Shared} {σ : St} {H : Hp} {R : V → V → Hp → Prop} (I : Inv X pins σ H s)
    (h : ta σ H fun x H1 => tb σ H1 fun y H2 => R x y H2) {Q : Value → Shared → Prop} {f : Value → Value → Sem Value}
    (hf : ∀ v u s2 x y H2, Inv X pins σ H2 s2 → RelV x v → RelV y u → R x y H2 → wpAny (model X.prog X.w) X.A (f v u) Q X.xe s2) :
    wpAny (model X.prog X.w) X.A (eval a X.env) (fun v s₁ => wpAny (model X.prog X.w) X.A (eval b X.env) (fun u s₂ => wpAny (model X.prog X.w) X.A (f v u) Q X.xe s₂) X.xe s₁) X.xe s := by
  refine thn (ha pins s σ H _ I h) fun v s1 ⟨x, H1, I1, r1, q1⟩ => ?_
  refine thn (hb pins s1 σ H1 _ I1 q1) fun u s2 ⟨y, H2, I2, r2, q2⟩ => ?_
  exact hf v u s2 x y H2 I2 r1 r2 q2
theorem pe_op {op : Operator} {r : R2} (ho : OpR X (binaryOp op) r) (ha : PE X a ta) (hb : PE X b tb) : PE X (.BinOp a op b pos) (tOp r ta tb) := by
  intro pins s σ H Q I h
  exact wpAny_BinOp (binT ha hb I h fun v u s2 x y H2 I2 rx ry q => ho pins s2 σ H2 x y v u Q I2 rx ry q)
theorem pe_un {op : UnaryOp} {r : V → Hp → VK → Prop} (ho : UnR X (unaryOp op) r) (ha : PE X a ta) : PE X (.UnaryOp op a pos) (tUn r ta) := by
  intro pins s σ H Q I h
  exact UnaryOp_ (thn (ha pins s σ H _ I h) fun v s1 ⟨x, H1, I1, r1, q1⟩ => ho pins s1 σ H1 x v Q I1 r1 q1)
theorem opI {f : Value → Value → Sem Value} {C : Int → Int → Prop} {g : Int → Int → Int}
    (rule : ∀ (i j : Int) (t u : Tok) (s : Shared) (Q : Value → Shared → Prop) (E : Value → Shared → Prop), C i j → Q (.int (g i j) s.toks) { s with toks := s.toks + 1 } → wpAny (model X.prog X.w) X.A (f (.int i t) (.int j u)) Q E s) :
    OpR X f (rI C fun i j => .int (g i j)) := by
  intro pins s σ H x y v u Q I rx ry h
  obtain ⟨i, j, rfl, rfl, hc, q⟩ := h
  obtain ⟨t, rfl⟩ := rx
  obtain ⟨t', rfl⟩ := ry
  exact rule i j t t' s _ _ hc ⟨.int (g i j), H, I.tok _, ⟨_, rfl⟩, q⟩
theorem opI0 {f : Value → Value → Sem Value} {g : Int → Int → Int}
    (rule : ∀ (i j : Int) (t u : Tok) (s : Shared) (Q : Value → Shared → Prop) (E : Value → Shared → Prop), Q (.int (g i j) s.toks) { s with toks := s.toks + 1 } → wpAny (model X.prog X.w) X.A (f (.int i t) (.int j u)) Q E s) :
    OpR X f (rI0 fun i j => .int (g i j)) := by
  intro pins s σ H x y v u Q I rx ry h
  obtain ⟨i, j, rfl, rfl, q⟩ := h
  obtain ⟨t, rfl⟩ := rx
  obtain ⟨t', rfl⟩ := ry
  exact rule i j t t' s _ _ ⟨.int (g i j), H, I.tok _, ⟨_, rfl⟩, q⟩
theorem opB0 {f : Value → Value → Sem Value} {g : Int → Int → Bool}
    (rule : ∀ (i j : Int) (t u : Tok) (s : Shared) (Q : Value → Shared → Prop) (E : Value → Shared → Prop), Q (.bool (g i j)) s → wpAny (model X.prog X.w) X.A (f (.int i t) (.int j u)) Q E s) :
    OpR X f (rI0 fun i j => .bl (g i j)) := by
  intro pins s σ H x y v u Q I rx ry h
  obtain ⟨i, j, rfl, rfl, q⟩ := h
  obtain ⟨t, rfl⟩ := rx
  obtain ⟨t', rfl⟩ := ry
  exact rule i j t t' s _ _ ⟨.bl (g i j), H, I, rfl, q⟩
def CDiv (i j : Int) : Prop := 0 < j ∧ j < 1073741824
def CPow (i j : Int) : Prop := 0 ≤ j ∧ j ≤ 1000000 ∧ i.natAbs < 2 ^ 64
def CMul (i j : Int) : Prop := (-(2 ^ 64) < i ∧ i < 2 ^ 64) ∨ (-(2 ^ 64) < j ∧ j < 2 ^ 64)
theorem CMul.ok {i j : Int} (h : CMul i j) : IntMulOk i j := by
  rcases h with ⟨h1, h2⟩ | ⟨h1, h2⟩
  · exact .of_left (intBits_le_64 h1 h2)
  · exact .of_right (intBits_le_64 h1 h2)
theorem op_add : OpR X (binaryOp .Add) (rI0 fun i j => .int (i + j)) := opI0 fun _ _ _ _ _ _ _ q => add_int q
theorem op_sub : OpR X (binaryOp .Sub) (rI0 fun i j => .int (i - j)) := opI0 fun _ _ _ _ _ _ _ q => sub_int q
theorem op_mul : OpR X (binaryOp .Mult) (rI CMul fun i j => .int (i * j)) := opI fun _ _ _ _ _ _ _ hc q => mul_int q hc.ok
theorem op_fdiv : OpR X (binaryOp .FloorDiv) (rI CDiv fun i j => .int (i / j)) := opI fun i j _ _ _ _ _ hc q => by
  have h1 : (0 : Int) < j := hc.1
  have h2 : j < 1073741824 := hc.2
  exact floordiv_int (by omega) (by rw [Int.fdiv_eq_ediv_of_nonneg i (by omega)]; exact q) (.inl (PyProof.noPylong_small (by omega)))
theorem op_mod : OpR X (binaryOp .Mod) (rI (fun _ j => 0 < j) fun i j => .int (i % j)) := opI fun i j _ _ _ _ _ hc q => by
  have h1 : (0 : Int) < j := hc
  exact mod_int' (by omega) (by rw [Int.fmod_eq_emod_of_nonneg i (by omega)]; exact q)
theorem op_pow : OpR X (binaryOp .Pow) (rI CPow fun i j => .int (i ^ j.toNat)) := opI fun _ _ _ _ _ _ _ hc q => pow_int_small hc.1 hc.2.1 hc.2.2 q
theorem unI {f : Value → Sem Value} {g : Int → Int}
    (rule : ∀ (i : Int) (t : Tok) (s : Shared) (Q : Value → Shared → Prop) (E : Value → Shared → Prop), Q (.int (g i) s.toks) { s with toks := s.toks + 1 } → wpAny (model X.prog X.w) X.A (f (.int i t)) Q E s) :
    UnR X f (rU fun i => .int (g i)) := by
  intro pins s σ H x v Q I rx h
  obtain ⟨i, rfl, q⟩ := h
  obtain ⟨t, rfl⟩ := rx
  exact rule i t s _ _ ⟨.int (g i), H, I.tok _, ⟨_, rfl⟩, q⟩
theorem un_neg : UnR X (unaryOp .USub) (rU fun i => .int (-i)) := unI fun _ _ _ _ _ q => neg_int q
end
def scal : V → V → Bool
  | .non, .non => true | .non, .int _ => true | .int _, .non => true | .non, .bl _ => true | .bl _, .non => true | .non, .str _ => true | .str _, .non => true
  | .int _, .int _ => true | .bl _, .bl _ => true | .str _, .str _ => true | .byt _, .byt _ => true
  | .int _, .str _ => true | .str _, .int _ => true | .bl _, .str _ => true | .str _, .bl _ => true
  | _, _ => false
def rEq : R2 := fun x y H Q => scal x y = true ∧ Q (.bl (decide (x = y))) H
def rNe : R2 := fun x y H Q => scal x y = true ∧ Q (.bl (!decide (x = y))) H
theorem dec_int {i j : Int} : decide (V.int i = V.int j) = (i == j) := by
  rw [Bool.eq_iff_iff]
  simp
theorem dec_bl {i j : Bool} : decide (V.bl i = V.bl j) = (i == j) := by
  rw [Bool.eq_iff_iff]
  simp
theorem dec_str {i j : Str} : decide (V.str i = V.str j) = (i == j) := by
  rw [Bool.eq_iff_iff]
  simp
theorem dec_byt {i j : Array UInt8} : decide (V.byt i = V.byt j) = (i.toList == j.toList) := by
  rw [Bool.eq_iff_iff]
  cases i
  cases j
  simp
section
variable {X : Cx} {a b c : Expr} {ta tb tc : TE} {pos : Pos}
theorem fin_bl {pins : List (Addr × Obj)} {σ : St} {H : Hp} {s : Shared} {Q : VK} {k k' : Bool} (I : Inv X pins σ H s) (q : Q (.bl k) H) (e : k = k') : EP X pins σ Q (.bool k') s := by
  subst e
  exact ⟨.bl k, H, I, rfl, q⟩
theorem op_eq : OpR X (compareOp .Eq) rEq := by
  intro pins s σ H x y v u Q I rx ry h
  obtain ⟨hs, q⟩ := h
  cases x with
  | non =>
    cases rx
    cases y with
    | non => cases ry; exact PySem.EqNone.eq_none_none (fin_bl I q (by simp))
    | bl j => cases ry; exact PySem.EqNone.eq_none_bool (fin_bl I q (by simp))
    | int j => obtain ⟨t', rfl⟩ := ry; exact PySem.EqNone.eq_none_int (fin_bl I q (by simp))
    | str j => obtain ⟨t', rfl⟩ := ry; exact PySem.EqNone.eq_none_str (fin_bl I q (by simp))
    | _ => exact absurd (show false = true from hs) Bool.false_ne_true
  | bl i =>
    cases rx
    cases y with
    | non => cases ry; exact PySem.EqNone.eq_bool_none (fin_bl I q (by simp))
    | bl j => cases ry; exact eq_bool (fin_bl I q dec_bl)
    | str j => obtain ⟨t', rfl⟩ := ry; exact PySem.EqMixed.eq_bool_str (fin_bl I q (by simp))
    | _ => exact absurd (show false = true from hs) Bool.false_ne_true
  | int i =>
    obtain ⟨t, rfl⟩ := rx
    cases y with
    | non => cases ry; exact PySem.EqNone.eq_int_none (fin_bl I q (by simp))
    | int j => obtain ⟨t', rfl⟩ := ry; exact eq_int (fin_bl I q dec_int)
    | str j => obtain ⟨t', rfl⟩ := ry; exact PySem.EqMixed.eq_int_str (fin_bl I q (by simp))
    | _ => exact absurd (show false = true from hs) Bool.false_ne_true
  | str i =>
    obtain ⟨t, rfl⟩ := rx
    cases y with
    | non => cases ry; exact PySem.EqNone.eq_str_none (fin_bl I q (by simp))
    | bl j => cases ry; exact PySem.EqMixed.eq_str_bool (fin_bl I q (by simp))
    | int j => obtain ⟨t', rfl⟩ := ry; exact PySem.EqMixed.eq_str_int (fin_bl I q (by simp))
    | str j => obtain ⟨t', rfl⟩ := ry; exact eq_str (fin_bl I q dec_str)
    | _ => exact absurd (show false = true from hs) Bool.false_ne_true
  | byt i =>
    obtain ⟨t, rfl⟩ := rx
    cases y with
    | byt j => obtain ⟨t', rfl⟩ := ry; exact PySem.W.eq_bytes (fin_bl I q dec_byt)
    | _ => exact absurd (show false = true from hs) Bool.false_ne_true
  | _ => cases y <;> exact absurd (show false = true from hs) Bool.false_ne_true
theorem op_ne : OpR X (compareOp .NotEq) rNe := by
  intro pins s σ H x y v u Q I rx ry h
  obtain ⟨hs, q⟩ := h
  cases x with
  | non =>
    cases rx
    cases y with
    | non => cases ry; exact PySem.EqNone.ne_none_none (fin_bl I q (by simp))
    | bl j => cases ry; exact PySem.EqNone.ne_none_bool (fin_bl I q (by simp))
    | int j => obtain ⟨t', rfl⟩ := ry; exact PySem.EqNone.ne_none_int (fin_bl I q (by simp))
    | str j => obtain ⟨t', rfl⟩ := ry; exact PySem.EqNone.ne_none_str (fin_bl I q (by simp))
    | _ => exact absurd (show false = true from hs) Bool.false_ne_true
  | bl i =>
    cases rx
    cases y with
    | non => cases ry; exact PySem.EqNone.ne_bool_none (fin_bl I q (by simp))
    | bl j => cases ry; exact ne_bool (fin_bl I q (congrArg not dec_bl))
    | str j => obtain ⟨t', rfl⟩ := ry; exact PySem.EqMixed.ne_bool_str (fin_bl I q (by simp))
    | _ => exact absurd (show false = true from hs) Bool.false_ne_true
  | int i =>
    obtain ⟨t, rfl⟩ := rx
    cases y with
    | non => cases ry; exact PySem.EqNone.ne_int_none (fin_bl I q (by simp))
    | int j => obtain ⟨t', rfl⟩ := ry; exact ne_int (fin_bl I q (congrArg not dec_int))
    | str j => obtain ⟨t', rfl⟩ := ry; exact PySem.EqMixed.ne_int_str (fin_bl I q (by simp))
    | _ => exact absurd (show false = true from hs) Bool.false_ne_true
  | str i =>
    obtain ⟨t, rfl⟩ := rx
    cases y with
    | non => cases ry; exact PySem.EqNone.ne_str_none (fin_bl I q (by simp))
    | bl j => cases ry; exact PySem.EqMixed.ne_str_bool (fin_bl I q (by simp))
    | int j => obtain ⟨t', rfl⟩ := ry; exact PySem.EqMixed.ne_str_int (fin_bl I q (by simp))
    | str j => obtain ⟨t', rfl⟩ := ry; exact ne_str (fin_bl I q (congrArg not dec_str))
    | _ => exact absurd (show false = true from hs) Bool.false_ne_true
  | byt i =>
    obtain ⟨t, rfl⟩ := rx
    cases y with
    | byt j => obtain ⟨t', rfl⟩ := ry; exact PySem.W.ne_bytes (fin_bl I q (congrArg not dec_byt))
    | _ => exact absurd (show false = true from hs) Bool.false_ne_true
  | _ => cases y <;> exact absurd (show false = true from hs) Bool.false_ne_true
theorem op_lt : OpR X (compareOp .Lt) (rI0 fun i j => .bl (decide (i < j))) := opB0 fun _ _ _ _ _ _ _ q => lt_int q
theorem op_gt : OpR X (compareOp .Gt) (rI0 fun i j => .bl (decide (j < i))) := opB0 fun _ _ _ _ _ _ _ q => gt_int q
theorem op_in_str : OpR X (compareOp .In) (fun x y H Q => ∃ i j, x = .str i ∧ y = .str j ∧ Q (.bl (!(Builtin.Str.occurrences j i 0 j.length 1).isEmpty)) H) := by
  intro pins s σ H x y v u Q I rx ry h
  obtain ⟨i, j, rfl, rfl, q⟩ := h
  obtain ⟨t, rfl⟩ := rx
  obtain ⟨t', rfl⟩ := ry
  exact in_str (fin_bl I q rfl)
theorem op_isN : OpR X (compareOp .Is) (fun x y H Q => y = .non ∧ Q (.bl (decide (x = .non))) H) := by
  intro pins s σ H x y v u Q I rx ry h
  obtain ⟨rfl, q⟩ := h
  cases ry
  refine is_none_gen (fin_bl I q ?_)
  cases x <;> first
    | (cases rx; rfl)
    | (obtain ⟨t, rfl⟩ := rx; rfl)
theorem op_notN : OpR X (compareOp .IsNot) (fun x y H Q => y = .non ∧ Q (.bl (!decide (x = .non))) H) := by
  intro pins s σ H x y v u Q I rx ry h
  obtain ⟨rfl, q⟩ := h
  cases ry
  refine isnot_none_gen (fin_bl I q ?_)
  cases x <;> first
    | (cases rx; rfl)
    | (obtain ⟨t, rfl⟩ := rx; rfl)
theorem OpR.or {f : Value → Value → Sem Value} {r r' : R2} (h : OpR X f r) (h' : OpR X f r') : OpR X f (fun x y H Q => r x y H Q ∨ r' x y H Q) := by
  intro pins s σ H x y v u Q I rx ry q
  rcases q with q | q
  · exact h pins s σ H x y v u Q I rx ry q
  · exact h' pins s σ H x y v u Q I rx ry q
theorem nomark (b : Expr) {op : CmpOp} (h : op ≠ .In := by decide) (h2 : op ≠ .NotIn := by decide) : behindInMarks op b = false := by
  have e1 : (op == CmpOp.In) = false := by cases op <;> first | rfl | exact absurd rfl h
  have e2 : (op == CmpOp.NotIn) = false := by cases op <;> first | rfl | exact absurd rfl h2
  cases b <;> simp [behindInMarks, e1, e2]
theorem pe_cmpR {op : CmpOp} {r : R2} (ho : OpR X (compareOp op) r) (ha : PE X a ta) (hb : PE X b tb) (hm : behindInMarks op b = false) : PE X (.Compare a [op] [b] pos) (tOp r ta tb) := by
  intro pins s σ H Q I h
  exact wpAny_Compare1 (binT ha hb I h fun v u s2 x y H2 I2 rx ry q => ho pins s2 σ H2 x y v u Q I2 rx ry q) hm
def tTest (t : TE) : TT := fun σ H Q => t σ H fun x H' => ∃ k, x = .bl k ∧ Q k H'
theorem pt_cmpR {op : CmpOp} {r : R2} (ho : OpR X (compareOp op) r) (ha : PE X a ta) (hb : PE X b tb) (hm : behindInMarks op b = false) : PT X (.Compare a [op] [b] pos) (tTest (tOp r ta tb)) := by
  intro pins s σ H Q I h
  refine wpAny_isTrue_Compare1 (thn (ha pins s σ H _ I h) fun v s1 ⟨x, H1, I1, r1, q1⟩ => thn (hb pins s1 σ H1 _ I1 q1) fun u s2 ⟨y, H2, I2, r2, q2⟩ =>
    thn (ho pins s2 σ H2 x y v u _ I2 r1 r2 q2) fun c s3 ⟨z, H3, I3, r3, k, e, q3⟩ => ?_) hm
  subst e
  cases r3
  exact wpAny_truthy_bool ⟨H3, I3, q3⟩
theorem line63 : (sizeLine : Nat) < 2 ^ 63 := by rw [sizeLine_eq]; decide
theorem op_add_str : OpR X (binaryOp .Add) (fun x y H Q => ∃ i j, x = .str i ∧ y = .str j ∧ i.length + j.length ≤ sizeLine ∧ Q (.str (i ++ j)) H) := by
  intro pins s σ H x y v u Q I rx ry h
  obtain ⟨i, j, rfl, rfl, hz, q⟩ := h
  obtain ⟨t, rfl⟩ := rx
  obtain ⟨t', rfl⟩ := ry
  exact add_str (fun t' tk => ⟨.str (i ++ j), H, I.tok _, ⟨_, rfl⟩, q⟩) hz
theorem vals1 {x : V} {us : List Value} (r : Vals [x] us) : ∃ u, us = [u] ∧ RelV x u := by
  cases r with
  | cons r1 r2 => cases r2; exact ⟨_, rfl, r1⟩
theorem vals2 {x y : V} {us : List Value} (r : Vals [x, y] us) : ∃ u w', us = [u, w'] ∧ RelV x u ∧ RelV y w' := by
  cases r with
  | cons r1 r2 =>
    cases r2 with
    | cons r3 r4 => cases r4; exact ⟨_, _, rfl, r1, r3⟩
theorem call_str_int : CallR X (.type "str") (fun xs H Q => ∃ i, xs = [.int i] ∧ i.natAbs.log2 < 1920 ∧ Q (.str (toString i)) H) := by
  intro pins s σ H xs us Q I r h
  obtain ⟨i, rfl, hz, q⟩ := h
  obtain ⟨u, rfl, t, rfl⟩ := vals1 r
  exact PySem.P.str_of_int hz ⟨.str _, H, I.tok _, ⟨_, rfl⟩, q⟩
def LenV (K : PySem.W.Frag) (x : V) (H : Hp) (n : Nat) : Prop :=
  match x with
  | .str y => y.length ≤ sizeLine ∧ n = y.length
  | .byt y => y.size ≤ sizeLine ∧ n = y.size
  | .ref p => (∃ xs, SqL K H p xs ∧ n = xs.length) ∨ ∃ xs, SqT K H p xs ∧ n = xs.length
  | _ => False
theorem call_len : CallR X (.builtin "len") (fun xs H Q => ∃ x n, xs = [x] ∧ LenV X.K x H n ∧ Q (.int n) H) := by
  intro pins s σ H xs us Q I r h
  obtain ⟨x, n, rfl, e, q⟩ := h
  obtain ⟨u, rfl, rx⟩ := vals1 r
  have hl := line63
  have hs : sizeLine = 16777216 := sizeLine_eq
  cases x with
  | str y =>
    obtain ⟨t, rfl⟩ := rx
    obtain ⟨hy, e'⟩ : y.length ≤ sizeLine ∧ n = y.length := e
    subst e'
    exact len_str (by omega) ⟨.int _, H, I.tok _, ⟨_, rfl⟩, q⟩
  | byt y =>
    obtain ⟨t, rfl⟩ := rx
    obtain ⟨hy, e'⟩ : y.size ≤ sizeLine ∧ n = y.size := e
    subst e'
    exact PySem.W.len_bytes (by omega) ⟨.int _, H, I.tok _, ⟨_, rfl⟩, q⟩
  | ref p =>
    cases rx
    have e' : (∃ xs, SqL X.K H p xs ∧ n = xs.length) ∨ ∃ xs, SqT X.K H p xs ∧ n = xs.length := e
    rcases e' with ⟨xs, hx, e'⟩ | ⟨xs, hx, e'⟩
    · subst e'
      obtain ⟨its, r', pl, hz⟩ := I.list hx
      have hlen := r'.length
      exact Calls.call_len_list pl.isList (by simp only [List.size_toArray]; omega) ⟨.int xs.length, H, I.tok _, ⟨_, by simp only [List.size_toArray]; rw [hlen]⟩, q⟩
    · subst e'
      obtain ⟨its, r', pl, hz⟩ := I.tuple hx
      have hlen := r'.length
      exact len_tuple pl (by simp only [List.size_toArray]; omega) ⟨.int xs.length, H, I.tok _, ⟨_, by simp only [List.size_toArray]; rw [hlen]⟩, q⟩
  | _ => exact (show False from e).elim
end
end L2
namespace L2
open PySem PySem.Spec PyProof.Rows
structure ObjM (h : Heap) (x dx C : Addr) (mA : Str → Option Value) : Prop where
  obj : h.get? x = some (PySem.W.instObj C dx)
  ns : h.Ns1 dx mA
  ne : dx ≠ x
theorem lookIn_ns {h : Heap} {dx : Addr} {mA : Str → Option Value} (n : h.Ns1 dx mA) : ∃ od, h.get? dx = some od ∧ ∀ name, PySem.W.lookIn name od = some (mA name) := by
  obtain ⟨o, es, ep, ho, hd, hk, _, hm⟩ := n
  refine ⟨o, ho, fun name => ?_⟩
  have e := hm name
  unfold nsFind findBy at e
  rw [← Array.find?_toList] at e
  unfold PySem.W.lookIn
  rw [hd]
  dsimp only
  split
  · rename_i y q
    rw [q] at e
    exact congrArg some e
  · rename_i q
    rw [q] at e
    have a : es.toList.any (·.refKey) = false := by
      rw [List.any_eq_false]
      intro y hy
      obtain ⟨z, t, hkey⟩ := hk y (Array.mem_toList_iff.mp hy)
      simp [DictEntry.refKey, hkey]
    have a' : ¬ es.toList.any (·.refKey) = true := by rw [a]; exact Bool.false_ne_true
    rw [if_neg a']
    exact congrArg some e
theorem ObjM.look {h : Heap} {x dx C : Addr} {mA : Str → Option Value} (I : ObjM h x dx C mA) : ∃ od, PySem.W.InstAt h x (PySem.W.instObj C dx) C (some od) ∧ ∀ name, PySem.W.lookIn name od = some (mA name) :=
  let ⟨od, ho, hl⟩ := lookIn_ns I.ns
  ⟨od, ⟨I.obj, rfl, rfl, ho⟩, hl⟩
section
variable {prog : Program} {w : World} {A : Around} {E : Value → Shared → Prop} {s : Shared} {K : PySem.W.Frag} {x dx C f : Addr} {mA : Str → Option Value} {name : Str} {v : Value}
theorem get_map {expr : Bool} {Q : Value → Shared → Prop} (X : K.In s.heap) (I : ObjM s.heap x dx C mA) (hg : PySem.W.plainGet K C name = true) (hh : PySem.W.hasDictIn K C = true)
    (ha : PySem.W.findIn K (.ref C) name = some none) (hv : mA name = some v) (hv' : PySem.W.handedIn v = true) (h : Q v { s with toks := s.toks + 1 }) :
    wpAny (model prog w) A (getAttr (.ref x) name expr) Q E s := by
  obtain ⟨od, J, hl⟩ := I.look
  exact PySem.W.get_value X J (PySem.W.plainGet_of hg).1 (PySem.W.findObj_own hh ha rfl (by rw [hl, hv])) hv' h
theorem get_meth {pl : Sem Bool} {Q : Value × List Value → Shared → Prop} (X : K.In s.heap) (I : ObjM s.heap x dx C mA) (hg : PySem.W.plainGet K C name = true)
    (hf : PySem.W.findIn K (.ref C) name = some (some (.ref f))) (ht : PySem.W.isFn K (.ref f) = true) (hv : mA name = none) (h : Q (.ref f, [.ref x]) s) :
    wpAny (model prog w) A (getMethod (.ref x) name pl) Q E s := by
  obtain ⟨od, J, hl⟩ := I.look
  exact PySem.W.method_fn X J (PySem.W.plainGet_of hg).1 (PySem.W.plainGet_of hg).2 hf (beq_iff_eq.mp ht) (by show (PySem.W.lookIn name od).map (·.isSome) = some false; rw [hl, hv]; rfl) h
theorem set_map {ns : List Str} {Q : Unit → Shared → Prop} (X : K.In s.heap) (I : ObjM s.heap x dx C mA)
    (hs : PySem.W.findIn K (.ref C) "__setattr__" = some (some (.builtin "object.__setattr__"))) (hp : PySem.W.plainOver K C = true) (ht : PySem.W.takerIn K C name = some none) (hh : PySem.W.hasDictIn K C = true)
    (hw : PySem.Within mA ns) (hsz : ns.length ≤ sizeLine)
    (h : ∀ h', ObjM h' x dx C (fun y => if y = name then some v else mA y) → Heap.SameBut dx s.heap h' → Q () { s with heap := h', toks := s.toks + 2 }) :
    wpAny (model prog w) A (setAttr (.ref x) name v) Q E s := by
  obtain ⟨od, J, hl⟩ := I.look
  refine PySem.W.set_plain X J hs (PySem.W.osa_open (s := { s with toks := s.toks + 1 }) (r := none) X J hp ht fun b => ?_)
  obtain ⟨cd, hc, hd'⟩ := PySem.W.any_some hh
  have hx : s.heap.get? x = some ⟨.ref C, some dx, .plain, #[]⟩ := I.obj
  refine wpAny_bind (wpAny_pure (wpAny_bind (wpAny_bind (wpAny_loadPart hx (wpAny_bind (PySem.W.Looks.here (s := { s with toks := s.toks + 1 }) (PySem.W.looks_clsIn X hc) ?_))))))
  rw [hd']
  refine wpAny_pure (a := some dx) (wpAny_bind (wpAny_pure (wpAny_bind ?_)))
  refine wpAny_nsSet1 (s := { s with toks := s.toks + 1 }) I.ns fun h' hn2 hs2 => ?_
  obtain ⟨oD, esD, epD, hoD, hdD, hcD⟩ := hn2.count (PySem.Within.cons name v hw)
  refine wpAny_bind (wpAny_lookBehind hoD (by rw [hdD]; exact pastItsLine_dict (Nat.le_trans hcD (by rw [List.length_cons]; omega))) ?_)
  exact wpAny_pure (h _ ⟨(hs2.2 _ (Ne.symm I.ne)).trans I.obj, hn2, I.ne⟩ hs2)
theorem make_map {R : Result → Shared → Prop} {vs : List Value} {kw : List (Str × Value)} (X : K.In s.heap) (hm : PySem.W.makesIn K C = true)
    (hi : PySem.W.findIn K (.ref C) "__init__" = some (some (.ref f))) (hf : PySem.W.typeIn K (.ref f) = some (.type "function"))
    (h : codeAny (model prog w) (A.under (.builtin "type.__call__" ⟨.ref C :: vs, kw⟩)) (.call (.ref f) ⟨.ref (s.heap.objs.size + 1) :: vs, kw⟩) (PySem.W.InitBack (s.heap.objs.size + 1) R)
      { s with heap := (s.heap.push PySem.W.emptyDict).push (PySem.W.instObj C s.heap.objs.size) }) :
    codeAny (model prog w) A (.call (.ref C) ⟨vs, kw⟩) R s := by
  obtain ⟨hh, g, d, t, os⟩ := s
  exact PySem.W.make_core (PySem.W.makes_of X hm) (PySem.W.looks_findIn X hi) (fun self => PySem.W.bind_fn X self hf) (.inl rfl) h
end
def putF (f : Str) (v : V) : List (Str × V) → List (Str × V)
  | [] => [(f, v)]
  | (g, x) :: r => if g = f then (g, v) :: r else (g, x) :: putF f v r
theorem lookup_putF (f g : Str) (v : V) : ∀ fs : List (Str × V), (putF f v fs).lookup g = if g = f then some v else fs.lookup g
  | [] => by
    show List.lookup g [(f, v)] = _
    by_cases h : g = f
    · have hb : (g == f) = true := beq_iff_eq.mpr h
      simp only [List.lookup, hb, if_pos h]
    · have hb : (g == f) = false := beq_eq_false_iff_ne.mpr h
      simp only [List.lookup, hb, if_neg h]
  | (k, x) :: r => by
    have ih := lookup_putF f g v r
    rw [show putF f v ((k, x) :: r) = (if k = f then (k, v) :: r else (k, x) :: putF f v r) from rfl]
    by_cases hk : k = f
    · rw [if_pos hk]
      by_cases h : g = k
      · have hb : (g == k) = true := beq_iff_eq.mpr h
        simp only [List.lookup, hb, if_pos (h.trans hk)]
      · have hb : (g == k) = false := beq_eq_false_iff_ne.mpr h
        simp only [List.lookup, hb, if_neg (fun e : g = f => h (e.trans hk.symm))]
    · rw [if_neg hk]
      by_cases h : g = k
      · have hb : (g == k) = true := beq_iff_eq.mpr h
        simp only [List.lookup, hb, if_neg (fun e : g = f => hk (h.symm.trans e))]
      · have hb : (g == k) = false := beq_eq_false_iff_ne.mpr h
        simp only [List.lookup, hb]
        exact ih
theorem keys_putF (f : Str) (v : V) : ∀ fs : List (Str × V), f ∈ (putF f v fs).map (·.1) ∧ ∀ g, g ∈ fs.map (·.1) → g ∈ (putF f v fs).map (·.1)
  | [] => ⟨by simp [putF], fun g h => by simp at h⟩
  | (k, x) :: r => by
    obtain ⟨i1, i2⟩ := keys_putF f v r
    rw [show putF f v ((k, x) :: r) = (if k = f then (k, v) :: r else (k, x) :: putF f v r) from rfl]
    by_cases hk : k = f
    · rw [if_pos hk]
      subst hk
      exact ⟨by simp, fun g h => by simpa using h⟩
    · rw [if_neg hk]
      refine ⟨?_, fun g h => ?_⟩
      · rw [List.map_cons]
        exact List.mem_cons_of_mem _ i1
      · rw [List.map_cons] at h ⊢
        rcases List.mem_cons.mp h with e | e
        · exact List.mem_cons.mpr (.inl e)
        · exact List.mem_cons_of_mem _ (i2 g e)
theorem length_putF (f : Str) (v : V) : ∀ fs : List (Str × V), (putF f v fs).length ≤ fs.length + 1
  | [] => by simp [putF]
  | (k, x) :: r => by
    have ih := length_putF f v r
    rw [show putF f v ((k, x) :: r) = (if k = f then (k, v) :: r else (k, x) :: putF f v r) from rfl]
    by_cases hk : k = f
    · rw [if_pos hk, List.length_cons, List.length_cons]; omega
    · rw [if_neg hk, List.length_cons, List.length_cons]; omega
theorem RelO.some_of {v : V} {o : Option Value} (r : RelO (some v) o) : ∃ u, o = some u ∧ RelV v u := by
  cases o with
  | none => exact (show False from r).elim
  | some u => exact ⟨u, rfl, r⟩
theorem RelO.none_of {o : Option Value} (r : RelO none o) : o = none := by
  cases o with
  | none => rfl
  | some u => exact (show False from r).elim
theorem handed_of {v : V} {u : Value} (r : RelV v u) : PySem.W.handedIn u = true := by
  cases v with
  | non => cases (show u = Value.none from r); rfl
  | bl b => cases (show u = Value.bool b from r); rfl
  | int i => obtain ⟨t, e⟩ := (show ∃ t, u = Value.int i t from r); cases e; rfl
  | str x => obtain ⟨t, e⟩ := (show ∃ t, u = Value.str x t from r); cases e; rfl
  | byt b => obtain ⟨t, e⟩ := (show ∃ t, u = Value.bytes b t from r); cases e; rfl
  | flt b => obtain ⟨t, e⟩ := (show ∃ t, u = Value.float b t from r); cases e; rfl
  | ref a => cases (show u = Value.ref a from r); rfl
  | ty n => cases (show u = Value.type n from r); rfl
section
variable {P : Program} {w : World} {H H' : Hp} {h h' : Heap} {a C dx : Addr} {fs fs' : List (Str × V)}
theorem ins_get (hok : HOk P w H h) (e : H a = some (.ins C dx fs)) : ∃ mA, ObjM h a dx C mA ∧ (∀ f, RelO (fs.lookup f) (mA f)) ∧ PySem.Within mA (fs.map (·.1)) ∧ fs.length ≤ 1000 ∧ H dx = some (.own a) := by
  obtain ⟨d, z, ne, ob, mA, n, r, q⟩ := (show ObjOk P w H h a (.ins C dx fs) from hok a _ e)
  exact ⟨mA, ⟨ob, n, ne⟩, r, q, z, d⟩
end
structure Cls (K : PySem.W.Frag) (C : Addr) : Prop where
  pg : PySem.W.plainGet K C Str.empty = true
  hd : PySem.W.hasDictIn K C = true
  po : PySem.W.plainOver K C = true
  sa : PySem.W.findIn K (.ref C) "__setattr__" = some (some (.builtin "object.__setattr__"))
theorem Cls.get {K : PySem.W.Frag} {C : Addr} (c : Cls K C) (f : Str) : PySem.W.plainGet K C f = true := c.pg
def NoAttr (K : PySem.W.Frag) (C : Addr) (f : Str) : Prop := PySem.W.findIn K (.ref C) f = some none
theorem NoAttr.taker {K : PySem.W.Frag} {C : Addr} {f : Str} (n : NoAttr K C f) : PySem.W.takerIn K C f = some none := by
  unfold PySem.W.takerIn
  rw [show PySem.W.findIn K (.ref C) f = some none from n]
  rfl
structure Con (K : PySem.W.Frag) (C : Addr) (f : Str) (v : V) (u : Value) : Prop where
  at_ : PySem.W.findIn K (.ref C) f = some (some u)
  rel : RelV v u
  get : PySem.W.specialIn K u "__get__" = some none
  cp : PySem.W.copiedNames.contains f = false
structure Meth (K : PySem.W.Frag) (C : Addr) (m : Str) (f : Addr) : Prop where
  at_ : PySem.W.findIn K (.ref C) m = some (some (.ref f))
  fn : PySem.W.isFn K (.ref f) = true
  kp : PySem.W.keepIn K (.ref f) = true
section
variable {X : Cx} {pins : List (Addr × Obj)} {σ : St} {H : Hp} {s : Shared} {a C dx : Addr} {fs : List (Str × V)} {f : Str} {v : V} {A : Around} {E : Value → Shared → Prop}
theorem getattr_ok {b : Bool} {Q : Value → Shared → Prop} (I : Inv X pins σ H s) (e : H a = some (.ins C dx fs)) (c : Cls X.K C) (n : NoAttr X.K C f) (l : fs.lookup f = some v)
    (h : ∀ u s', Inv X pins σ H s' → RelV v u → Q u s') : wpAny (model X.prog X.w) A (getAttr (.ref a) f b) Q E s := by
  obtain ⟨mA, O, r, _, _, _⟩ := ins_get I.hok e
  obtain ⟨u, hu, ru⟩ := RelO.some_of (v := v) (o := mA f) (by rw [← l]; exact r f)
  exact get_map I.kIn O (c.get f) c.hd n hu (handed_of ru) (h u _ (I.tok _) ru)
theorem getmeth_ok {m : Str} {g : Addr} {pl : Sem Bool} {Q : Value × List Value → Shared → Prop} (I : Inv X pins σ H s) (e : H a = some (.ins C dx fs)) (c : Cls X.K C) (k : Meth X.K C m g) (l : fs.lookup m = none)
    (h : Q (.ref g, [.ref a]) s) : wpAny (model X.prog X.w) A (getMethod (.ref a) m pl) Q E s := by
  obtain ⟨mA, O, r, _, _, _⟩ := ins_get I.hok e
  have hn : mA m = none := RelO.none_of (by rw [← l]; exact r m)
  exact get_meth I.kIn O (c.get m) k.at_ k.fn hn h
theorem setattr_ok {y : V} {u : Value} {Q : Unit → Shared → Prop} (I : Inv X pins σ H s) (e : H a = some (.ins C dx fs)) (c : Cls X.K C) (n : NoAttr X.K C f) (hl : fs.length < 1000) (ry : RelV y u)
    (h : ∀ s', Inv X pins σ (upd H a (.ins C dx (putF f y fs))) s' → Q () s') : wpAny (model X.prog X.w) A (setAttr (.ref a) f u) Q E s := by
  obtain ⟨mA, O, r, wi, _, ho⟩ := ins_get I.hok e
  have hz : (fs.map (·.1)).length ≤ sizeLine := by rw [List.length_map, sizeLine_eq]; omega
  refine set_map I.kIn O c.sa c.po n.taker c.hd wi hz fun h' O' sb => h _ ?_
  have hd : ∃ o, h'.get? dx = some o := let ⟨o, _, _, e', _⟩ := O'.ns; ⟨o, e'⟩
  refine I.write (x := a) (e := dx) (by rw [e]; exact True.intro) (.inr ho) (fun b q hb z => (sb.2 b hb).trans z) hd ?_
  refine ⟨by rw [upd_ne O.ne]; exact ho, ?_, O.ne, O'.obj, _, O'.ns, fun g => ?_, fun g hg => ?_⟩
  · have := length_putF f y fs; omega
  · show RelO ((putF f y fs).lookup g) (if g = f then some u else mA g)
    rw [lookup_putF]
    by_cases q : g = f
    · rw [if_pos q, if_pos q]; exact ry
    · rw [if_neg q, if_neg q]; exact r g
  · by_cases q : g = f
    · rw [q]; exact (keys_putF f y fs).1
    · refine (keys_putF f y fs).2 g (wi g fun z => hg ?_)
      show (if g = f then some u else mA g) = none
      rw [if_neg q]; exact z
theorem Inv.made (I : Inv X pins σ H s) : Inv X pins σ (upd (upd H s.heap.objs.size (.own (s.heap.objs.size + 1))) (s.heap.objs.size + 1) (.ins C s.heap.objs.size []))
    { s with heap := (s.heap.push PySem.W.emptyDict).push (PySem.W.instObj C s.heap.objs.size) } := by
  have e1 : (s.heap.push PySem.W.emptyDict).get? s.heap.objs.size = some PySem.W.emptyDict := Heap.get?_push_size s.heap rfl
  have e2 : ((s.heap.push PySem.W.emptyDict).push (PySem.W.instObj C s.heap.objs.size)).get? (s.heap.objs.size + 1) = some (PySem.W.instObj C s.heap.objs.size) := by
    have := Heap.get?_push_size (s.heap.push PySem.W.emptyDict) (o := PySem.W.instObj C s.heap.objs.size) rfl
    rwa [Heap.size_push] at this
  have e3 : (s.heap.push PySem.W.emptyDict).Ns s.heap.objs.size (fun _ => none) := ⟨PySem.W.emptyDict, #[], _, e1, rfl, (fun e he => absurd he (by simp)), fun _ => rfl⟩
  have I1 := I.laid (a := s.heap.objs.size) (o := .own (s.heap.objs.size + 1)) (h' := s.heap.push PySem.W.emptyDict) (t' := s.toks) (fun b u q => Heap.get?_push_of_some _ q) (Nat.le_refl _) ⟨_, e1⟩
  refine I1.laid (a := s.heap.objs.size + 1) (o := .ins C s.heap.objs.size []) (t' := s.toks) (fun b u q => Heap.get?_push_of_some _ q) (Nat.le_of_eq (Heap.size_push _ _)) ?_
  have ne : s.heap.objs.size ≠ s.heap.objs.size + 1 := Nat.ne_of_lt (Nat.lt_succ_self _)
  refine ⟨by rw [upd_ne ne, upd_same], Nat.zero_le _, ne, e2, fun _ => none, (Heap.Ns1.of_empty e3).at fun o q => Heap.get?_push_of_some _ q, fun _ => True.intro, fun y hy => absurd rfl hy⟩
theorem attr_of {prog : Program} {w : World} {env : Env} {e : Expr} {f : Str} {pos : Pos} {s : Shared} {Q : Value → Shared → Prop} (hb : attributeBase e f env (eval e env) = eval e env)
    (h : wpAny (model prog w) A (eval e env) (fun o s₁ => wpAny (model prog w) A (getAttr o f true) Q E s₁) E s) : wpAny (model prog w) A (eval (.Attribute e f pos) env) Q E s :=
  Attribute_any_ h (by rw [arm_eval_Attribute, hb])
end
def tFld (K : PySem.W.Frag) (ta : TE) (f : Str) : TE := fun σ H Q => ta σ H fun x H1 => ∃ a C dx fs v, x = .ref a ∧ H1 a = some (.ins C dx fs) ∧ Cls K C ∧ NoAttr K C f ∧ fs.lookup f = some v ∧ Q v H1
def sFld (K : PySem.W.Frag) (ta tv : TE) (f : Str) : TS := fun D σ H => tv σ H fun y H1 => ta σ H1 fun x H2 => ∃ a C dx fs, x = .ref a ∧ H2 a = some (.ins C dx fs) ∧ Cls K C ∧ NoAttr K C f ∧ fs.length < 1000 ∧
  D.nx σ (upd H2 a (.ins C dx (putF f y fs)))
section
variable {X : Cx} {o e value : Expr} {f : Str} {pos pos' tpos : Pos} {ta tv : TE}
theorem pe_fld (he : PE X e ta) (hb : attributeBase e f X.env (eval e X.env) = eval e X.env) : PE X (.Attribute e f pos) (tFld X.K ta f) := by
  intro pins s σ H Q I h
  refine attr_of hb (thn (he pins s σ H _ I h) fun u s1 ⟨x, H1, I1, rx, a, C, dx, fs, v, ex, ea, c, n, l, q⟩ => ?_)
  subst ex
  obtain rfl : u = Value.ref a := rx
  exact getattr_ok I1 ea c n l fun u' s2 I2 ru => ⟨v, H1, I2, ru, q⟩
theorem ps_fld (ha : PE X o ta) (hv : PE X value tv) (hs : swapsWith value (some (.Attribute o f pos')) pos.line X.env = pure false) : PS X (.Assign [.Attribute o f pos'] value pos) (sFld X.K ta tv f) := by
  intro pins s σ H D I h
  refine plainObj_wpAny_Assign_Attribute (thn (hv pins s σ H _ I h) fun u s1 ⟨y, H1, I1, ry, q⟩ => thn (ha pins s1 σ H1 _ I1 q) fun ov s2 ⟨x, H2, I2, rx, a, C, dx, fs, ex, ea, c, n, l, q2⟩ => ?_) hs
  subst ex
  obtain rfl : ov = Value.ref a := rx
  exact setattr_ok I2 ea c n l ry fun s3 I3 => ⟨σ, _, I3, q2⟩
end
section
variable {X : Cx} {pins : List (Addr × Obj)} {σ : St} {H : Hp} {s : Shared} {A : Around} {E : Value → Shared → Prop} {Q : Value → Shared → Prop} {c : Value} {b : Bool}
inductive TyOf (K : PySem.W.Frag) (H : Hp) : V → Value → Prop where
  | non : TyOf K H .non (.type "NoneType")
  | bl (x : Bool) : TyOf K H (.bl x) (.type "bool")
  | int (i : Int) : TyOf K H (.int i) (.type "int")
  | str (x : Str) : TyOf K H (.str x) (.type "str")
  | flt (x : UInt64) : TyOf K H (.flt x) (.type "float")
  | lst {a : Addr} {xs : List V} (e : H a = some (.lst xs)) : TyOf K H (.ref a) (.type "list")
  | frz {a : Addr} {o : Obj} {xs : List V} (e : H a = some (.frz o (.lst xs))) : TyOf K H (.ref a) (.type "list")
  | tup {a : Addr} {xs : List V} (e : H a = some (.tup xs)) : TyOf K H (.ref a) (.type "tuple")
  | dK {a : Addr} {kvs : List (Key × V)} (e : H a = some (.dK kvs)) : TyOf K H (.ref a) (.type "dict")
  | dT {a : Addr} {kvs : List (List Key × V)} (e : H a = some (.dT kvs)) : TyOf K H (.ref a) (.type "dict")
  | ins {a C dx : Addr} {fs : List (Str × V)} (e : H a = some (.ins C dx fs)) (cl : Cls K C) (ha : PySem.W.findIn K (.ref C) "__class__" = some (some (.builtin "object.__class__")))
      (hn : PySem.W.specialIn K (.builtin "object.__class__") "__get__" = some (some (.builtin "getset_descriptor.__get__"))) (htk : PySem.W.takesIn K (.builtin "object.__class__") = some true)
      (hm : PySem.W.mroIn K C (.type "object") = some true) : TyOf K H (.ref a) (.ref C)
theorem isinst_ok {x : V} {u t : Value} (I : Inv X pins σ H s) (rx : RelV x u) (ty : TyOf X.K H x t) (e : PySem.W.kitOne X.K t c = some b) (h : ∀ tk, Q (.bool b) { s with toks := tk }) :
    wpAny (model X.prog X.w) A (call (.builtin "isinstance") [u, c]) Q E s := by
  cases ty with
  | non => cases (show u = Value.none from rx); exact PySem.W.kia_one PySem.W.kitx_none I.kIn True.intro e (fun z => nomatch z) h
  | bl y => cases (show u = Value.bool y from rx); exact PySem.W.kia_one PySem.W.kitx_bool I.kIn True.intro e (fun z => nomatch z) h
  | int i => obtain ⟨t, q⟩ := (show ∃ t, u = Value.int i t from rx); cases q; exact PySem.W.kia_one PySem.W.kitx_int I.kIn True.intro e (fun z => nomatch z) h
  | str y => obtain ⟨t, q⟩ := (show ∃ t, u = Value.str y t from rx); cases q; exact PySem.W.kia_one PySem.W.kitx_str I.kIn True.intro e (fun z => nomatch z) h
  | flt y => obtain ⟨t, q⟩ := (show ∃ t, u = Value.float y t from rx); cases q; exact PySem.W.kia_one PySem.W.kitx_float I.kIn True.intro e (fun z => nomatch z) h
  | @lst a xs ea =>
    cases (show u = Value.ref a from rx)
    obtain ⟨_, _, n, _, h1⟩ := (show ObjOk X.prog X.w H s.heap a (.lst xs) from I.hok a _ ea)
    exact PySem.W.kia_one PySem.W.kitx_list I.kIn ⟨_, h1, rfl⟩ e (fun z => nomatch z) h
  | @frz a ob xs ea =>
    cases (show u = Value.ref a from rx)
    obtain ⟨_, _, _, n, _, h1⟩ := (show ObjOk X.prog X.w H s.heap a (.frz ob (.lst xs)) from I.hok a _ ea)
    exact PySem.W.kia_one PySem.W.kitx_list I.kIn ⟨_, h1, rfl⟩ e (fun z => nomatch z) h
  | @tup a xs ea =>
    cases (show u = Value.ref a from rx)
    obtain ⟨_, _, _, p⟩ := (show ObjOk X.prog X.w H s.heap a (.tup xs) from I.hok a _ ea)
    obtain ⟨o, h1, h2, _⟩ := p
    exact PySem.W.kia_one PySem.W.kitx_tuple I.kIn ⟨o, h1, h2⟩ e (fun z => nomatch z) h
  | @dK a kvs ea =>
    cases (show u = Value.ref a from rx)
    obtain ⟨_, _, vs, _, p⟩ := (show ObjOk X.prog X.w H s.heap a (.dK kvs) from I.hok a _ ea)
    obtain ⟨o, es, ep, h1, h2, _⟩ := p
    exact PySem.W.kia_one PySem.W.kitx_dict I.kIn ⟨o, h1, h2.1⟩ e (fun z => nomatch z) h
  | @dT a kvs ea =>
    cases (show u = Value.ref a from rx)
    obtain ⟨_, _, xs, _, o, es, ep, h1, h2, _⟩ := (show ObjOk X.prog X.w H s.heap a (.dT kvs) from I.hok a _ ea)
    exact PySem.W.kia_one PySem.W.kitx_dict I.kIn ⟨o, h1, h2.1⟩ e (fun z => nomatch z) h
  | @ins a C dx fs ea cl ha hn htk hm =>
    cases (show u = Value.ref a from rx)
    obtain ⟨mA, O, _⟩ := ins_get I.hok ea
    obtain ⟨od, J, _⟩ := O.look
    exact PySem.W.kia_one (PySem.W.kitx_own (cl.get _) cl.hd ha hn htk hm) I.kIn J e (fun z => nomatch z) h
end
end L2
namespace L2
open PySem PySem.Spec PyProof.Rows
structure Room (k : Nat) (A : Around) : Prop where
  hd : A.handled = none
  dp : A.depth + 3 * k + 5 < recursionLimit
  un : A.units + 16 * k + 200 < cLine
theorem Room.mono {j k : Nat} {A : Around} (r : Room k A) (h : j ≤ k) : Room j A := ⟨r.hd, by have := r.dp; omega, by have := r.un; omega⟩
theorem Room.deeper {k : Nat} {A : Around} (r : Room (k + 1) A) (env : Env) : Room k (A.deeper env) :=
  ⟨r.hd, by have := r.dp; show A.depth + 1 + 3 * k + 5 < _; omega, by have := r.un; show A.units + 3 + 16 * k + 200 < _; omega⟩
theorem Room.in1 {k : Nat} {A : Around} (r : Room (k + 1) A) : Room k A.in1 :=
  ⟨r.hd, by have := r.dp; show A.depth + 3 * k + 5 < _; omega, by have := r.un; show A.units + 1 + 16 * k + 200 < _; omega⟩
theorem make_depth {A : Around} {C : Addr} {us : List Value} {kw : List (Str × Value)} : (A.under (.builtin "type.__call__" ⟨.ref C :: us, kw⟩)).depth = A.depth + 1 := by
  first | rfl | simp [Around.under, Code.weight, Code.isCreation, Code.isGuard, Code.isCaller, Code.frames, Code.isFrame, guardIds]
theorem make_units {A : Around} {C : Addr} {us : List Value} {kw : List (Str × Value)} : (A.under (.builtin "type.__call__" ⟨.ref C :: us, kw⟩)).units = A.units + 1 := by
  first | rfl | simp [Around.under, Code.cUnits, Code.frames, Code.isFrame]
theorem Room.make {k : Nat} {A : Around} (r : Room (k + 1) A) (C : Addr) (us : List Value) (kw : List (Str × Value)) : Room k (A.under (.builtin "type.__call__" ⟨.ref C :: us, kw⟩)) :=
  ⟨r.hd, by have := r.dp; rw [make_depth]; omega, by have := r.un; rw [make_units]; omega⟩
theorem Room.depth {k : Nat} {A : Around} (r : Room k A) : A.depth < recursionLimit := by have := r.dp; omega
theorem Room.units {k : Nat} {A : Around} (r : Room k A) : A.units + 64 < cLine := by have := r.un; omega
def tNil : TA := fun _ H Q => Q [] H
def tCons (ta : TE) (tr : TA) : TA := fun σ H Q => ta σ H fun x H1 => tr σ H1 fun xs H2 => Q (x :: xs) H2
section
variable {X : Cx} {e : Expr} {es : List Expr} {te : TE} {t : TA} {pos : Pos}
theorem pa_nil : PA X [] tNil := fun _ _ _ _ H Q I h => Calls.spliced_nil ⟨[], H, I, .nil, h⟩
theorem pa_cons (ha : PE X e te) (hr : PA X es t) (hs : starEach (e :: es) X.env = (false, eval e X.env) :: starEach es X.env := by rfl) : PA X (e :: es) (tCons te t) := by
  intro pos pins s σ H Q I h
  rw [hs]
  show wpAny _ _ (spliced ((false, eval e X.env) :: backTo pos (starEach es X.env))) _ _ s
  refine Calls.spliced_cons (thn (ha pins s σ H _ I h) fun u s1 ⟨x, H1, I1, r1, q1⟩ => ?_)
  exact thn (hr pos pins s1 σ H1 _ I1 q1) fun us s2 ⟨xs, H2, I2, r2, q2⟩ => ⟨x :: xs, H2, I2, .cons r1 r2, q2⟩
def tTup (t : TA) : TE := fun σ H Q => t σ H fun xs H1 => xs.length ≤ sizeLine ∧ ∀ p, H1 p = none → Q (.ref p) (upd H1 p (.tup xs))
def tLst (t : TA) : TE := fun σ H Q => t σ H fun xs H1 => xs.length ≤ sizeLine ∧ ∀ p, H1 p = none → Q (.ref p) (upd H1 p (.lst xs))
theorem pe_tup {x1} (h : PA X es t) : PE X (.Tuple es x1 pos) (tTup t) := by
  intro pins s σ H Q I hq
  refine wpAny_Tuple_spliced (thn (h pos pins s σ H _ I hq) fun us s1 ⟨xs, H1, I1, r, z, q⟩ => ⟨by rw [← r.length]; exact z, ?_⟩)
  have hf : H1 s1.heap.objs.size = none := I1.hok.fresh (Nat.le_refl _)
  refine ⟨.ref s1.heap.objs.size, upd H1 s1.heap.objs.size (.tup xs), I1.laid (t' := s1.toks) (fun b u e => Heap.get?_push_of_some _ e) (Nat.le_refl _) ?_, rfl, q _ hf⟩
  exact ⟨z, us, r, ⟨_, Heap.get?_push_size _ rfl, rfl, _, rfl⟩⟩
theorem pe_lst (h : PA X es t) : PE X (.List es pos) (tLst t) := by
  intro pins s σ H Q I hq
  refine wpAny_List_spliced (thn (h pos pins s σ H _ I hq) fun us s1 ⟨xs, H1, I1, r, z, q⟩ => ⟨by rw [← r.length]; exact z, ?_⟩)
  have hf : H1 s1.heap.objs.size = none := I1.hok.fresh (Nat.le_refl _)
  refine ⟨.ref s1.heap.objs.size, upd H1 s1.heap.objs.size (.lst xs), I1.laid (t' := s1.toks) (fun b u e => Heap.get?_push_of_some _ e) (Nat.le_refl _) ?_, rfl, q _ hf⟩
  exact ⟨z, us, 0, r, Heap.get?_push_size _ rfl⟩
end
abbrev Sp := List V → Hp → VK → XK → Prop
abbrev CXT := List Env → Hp → Shared → XK → Value → Shared → Prop
structure Env0 (P : Program) (w : World) (K : PySem.W.Frag) (mg : Str → Option Value) (base : Heap) (A : Around) (outer : List Env) (s : Shared) (H : Hp) : Prop where
  frames : A.frames = some outer
  mod : Mod K mg base
  bs : ∀ b o, base.get? b = some o → s.heap.get? b = some o ∧ H b = none
  bsz : base.objs.size ≤ s.heap.objs.size
  funs : s.heap.FunFrames base outer
  frf : ∀ b ∈ frs outer, H b = none
  hok : HOk P w H s.heap
  bare : AllBare s.gens
def CE (outer : List Env) (P : Program) (w : World) (H : Hp) (s : Shared) (Q : VK) (u : Value) (s' : Shared) : Prop :=
  ∃ v H', s'.os = s.os ∧ AllBare s'.gens ∧ Un (frs outer) [] H H' s.heap s'.heap ∧ HOk P w H' s'.heap ∧ RelV v u ∧ Q v H'
def CR (CX : CXT) (outer : List Env) (P : Program) (w : World) (H : Hp) (s : Shared) (Q : VK) (E : XK) (r : Result) (s' : Shared) : Prop :=
  match r with
  | .ok (.ret u) => CE outer P w H s Q u s'
  | .ok _ => False
  | .error e => CX outer H s E e s'
structure FnOk (P : Program) (w : World) (K : PySem.W.Frag) (mg : Str → Option Value) (base : Heap) (CX : CXT) (k : Nat) (f : Addr) (fd : FuncData) (ps : List Str) (sp : Sp) : Prop where
  len : ∀ vs H Q E, sp vs H Q E → vs.length = ps.length
  run : ∀ (A : Around) (outer : List Env) (s : Shared) (H : Hp) (args : Args) (us : List Value) (vs : List V) (Q : VK) (E : XK), Room k A → Env0 P w K mg base A outer s H → BindsTo s fd args (ps.zip us) → Vals vs us → sp vs H Q E →
    codeAny (model P w) A (.call (.ref f) args) (CR CX outer P w H s Q E) s
theorem FnOk.mono {P : Program} {w : World} {K : PySem.W.Frag} {mg : Str → Option Value} {base : Heap} {CX : CXT} {j k : Nat} {f : Addr} {fd : FuncData} {ps : List Str} {sp : Sp} (F : FnOk P w K mg base CX j f fd ps sp) (h : j ≤ k) :
    FnOk P w K mg base CX k f fd ps sp := ⟨F.len, fun A outer s H args us vs Q E hr => F.run A outer s H args us vs Q E (hr.mono h)⟩
theorem FnOk.imp {P : Program} {w : World} {K : PySem.W.Frag} {mg : Str → Option Value} {base : Heap} {CX : CXT} {k : Nat} {f : Addr} {fd : FuncData} {ps : List Str} {sp sp' : Sp} (F : FnOk P w K mg base CX k f fd ps sp)
    (h : ∀ vs H Q E, sp' vs H Q E → sp vs H Q E) : FnOk P w K mg base CX k f fd ps sp' :=
  ⟨fun vs H Q E q => F.len vs H Q E (h _ _ _ _ q), fun A outer s H args us vs Q E hr he hb hv hs => F.run A outer s H args us vs Q E hr he hb hv (h _ _ _ _ hs)⟩
theorem Env0.make {P : Program} {w : World} {K : PySem.W.Frag} {mg : Str → Option Value} {base : Heap} {A : Around} {outer : List Env} {s : Shared} {H : Hp} (e : Env0 P w K mg base A outer s H) (C : Addr) (us : List Value) (kw : List (Str × Value)) :
    Env0 P w K mg base (A.under (.builtin "type.__call__" ⟨.ref C :: us, kw⟩)) outer s H := ⟨by first | exact e.frames | (simpa [Around.under, Code.envs, Code.isFrame, pushEnvs] using e.frames), e.mod, e.bs, e.bsz, e.funs, e.frf, e.hok, e.bare⟩
theorem Env0.in1 {P : Program} {w : World} {K : PySem.W.Frag} {mg : Str → Option Value} {base : Heap} {A : Around} {outer : List Env} {s : Shared} {H : Hp} (e : Env0 P w K mg base A outer s H) :
    Env0 P w K mg base A.in1 outer s H := ⟨e.frames, e.mod, e.bs, e.bsz, e.funs, e.frf, e.hok, e.bare⟩
section
variable {X : Cx} {pins : List (Addr × Obj)} {σ : St} {H : Hp} {s s' : Shared}
theorem Inv.env0 (I : Inv X pins σ H s) : Env0 X.prog X.w X.K X.mg X.base X.A X.stack s H :=
  ⟨I.ok.frames, I.ok.mod, I.bs, Nat.le_trans I.ok.bsz I.sz, I.stack, I.stkFree, I.hok, I.bare⟩
theorem Inv.after {Q : VK} {u : Value} (I : Inv X pins σ H s) (h : CE X.stack X.prog X.w H s Q u s') : EP X pins σ Q u s' := by
  obtain ⟨v, H', os, bare, un, hok, r, q⟩ := h
  obtain ⟨hh, g, d, t, os'⟩ := s'
  obtain rfl : os' = s.os := os
  exact ⟨v, H', I.call (h' := hh) (g' := g) (d' := d) (t' := t) (ch := []) un hok bare (fun b z => absurd z (by simp)), r, q⟩
end
def tCall (sp : Sp) (dvs : List V) (E : XK) (t : TA) : TE := fun σ H Q => t σ H fun vs H1 => sp (vs ++ dvs) H1 Q E
def tMeth (C : Addr) (m : Str) (sp : Sp) (dvs : List V) (E : XK) (ta : TE) (t : TA) : TE := fun σ H Q => ta σ H fun x H1 => ∃ a dx fs, x = .ref a ∧ H1 a = some (.ins C dx fs) ∧ fs.lookup m = none ∧
  t σ H1 fun vs H2 => sp (x :: (vs ++ dvs)) H2 Q E
def tMake (C : Addr) (sp : Sp) (dvs : List V) (E : XK) (t : TA) : TE := fun σ H Q => t σ H fun vs H1 => ∀ x dx, H1 x = none → H1 dx = none → dx ≠ x →
  sp (.ref x :: (vs ++ dvs)) (upd (upd H1 dx (.own x)) x (.ins C dx [])) (fun v H2 => v = .non ∧ Q (.ref x) H2) E
def Binds (K : PySem.W.Frag) (fd : FuncData) (ps : List Str) (ds : List Value) : Prop :=
  ∀ (s : Shared) (us : List Value), K.In s.heap → (us ++ ds).length = ps.length → BindsTo s fd ⟨us, []⟩ (ps.zip (us ++ ds))
theorem Binds.all {K : PySem.W.Frag} {fd : FuncData} {ps : List Str} (h : ∀ us : List Value, us.length = ps.length → bindArgs fd ⟨us, []⟩ = pure (ps.zip us)) : Binds K fd ps [] := fun s us _ hl => by
  rw [List.append_nil] at hl ⊢
  exact .of_eq (h us hl)
def Passes (CX : CXT) (X : Cx) (E : XK) : Prop := ∀ (pins : List (Addr × Obj)) (σ : St) (H : Hp) (s : Shared) (e : Value) (s' : Shared), Inv X pins σ H s → CX X.stack H s E e s' → X.xe e s'
section
variable {X : Cx} {CX : CXT} {k : Nat} {f C : Addr} {fd : FuncData} {ps : List Str} {sp : Sp} {dvs : List V} {ds : List Value} {E : XK} {x m : Str} {p pos apos : Pos} {e o : Expr} {es : List Expr} {ta : TE} {t : TA}
theorem run_fn {pins : List (Addr × Obj)} {σ : St} {H : Hp} {s : Shared} {Q : VK} {us : List Value} {vs : List V} (F : FnOk X.prog X.w X.K X.mg X.base CX k f fd ps sp) (hr : Room k X.A) (hb : Binds X.K fd ps ds) (hd : Vals dvs ds) (hx : Passes CX X E)
    (I : Inv X pins σ H s) (r : Vals vs us) (h : sp (vs ++ dvs) H Q E) : wpAny (model X.prog X.w) X.A (call (.ref f) us) (EP X pins σ Q) X.xe s := by
  have r2 : Vals (vs ++ dvs) (us ++ ds) := r.append hd
  have hl : (us ++ ds).length = ps.length := by rw [← r2.length]; exact F.len _ _ _ _ h
  refine wpAny_call (codeAny_mono (F.run X.A X.stack s H ⟨us, []⟩ (us ++ ds) (vs ++ dvs) Q E hr I.env0 (hb s us I.kIn hl) r2 h) fun r s' hq => ?_)
  cases r with
  | error e => exact hx pins σ H s e s' I hq
  | ok fl =>
    cases fl with
    | ret u => exact I.after hq
    | next => exact False.elim hq
    | brk => exact False.elim hq
    | cont => exact False.elim hq
theorem pe_call (F : FnOk X.prog X.w X.K X.mg X.base CX k f fd ps sp) (hr : Room k X.A) (hg : Gl X x) (hm : X.mg x = some (.ref f)) (hk : PySem.W.keepIn X.K (.ref f) = true) (hb : Binds X.K fd ps ds) (hd : Vals dvs ds) (hx : Passes CX X E)
    (ha : PA X (e :: es) t) (hdb : (x == ("__debug__" : Str)) = false := by decide) (he : starEach (e :: es) X.env = (false, eval e X.env) :: starEach es X.env := by rfl) (hpl : (backTo pos (starEach es X.env)).any (·.1) = false := by rfl) :
    PE X (.Call (.Name x p) (e :: es) [] pos) (tCall sp dvs E t) := by
  intro pins s σ H Q I h
  refine wpAny_Call_Name_kw (ld_glob I hg hm ?_ hdb)
  refine PySem.W.callWith_K (h₀ := X.base) I.ok.mod.kin hk (thn (ha pos pins s σ H _ I h) fun us s1 ⟨vs, H1, I1, r, q⟩ => ⟨I1.kIn, ?_⟩) he hpl
  exact run_fn F hr hb hd hx I1 r q
theorem pe_meth {pl : Sem Bool} (he : PE X o ta) (c : Cls X.K C) (hm : Meth X.K C m f) (F : FnOk X.prog X.w X.K X.mg X.base CX k f fd ps sp) (hr : Room k X.A) (hb : Binds X.K fd ps ds) (hd : Vals dvs ds) (hx : Passes CX X E) (ha : PA X (e :: es) t)
    (hst : starEach (e :: es) X.env = (false, eval e X.env) :: starEach es X.env := by rfl) (hpl : (backTo pos (starEach es X.env)).any (·.1) = false := by rfl)
    (ht : eval (.Call (.Attribute o m apos) (e :: es) [] pos) X.env = (do
      let ov ← eval o X.env
      standAt apos.atName
      let (f, first) ← holding [ov] (getMethod ov m pl)
      callWith pos f first (backTo pos (starEach (e :: es) X.env)) (backToKw pos (keywordEach [] X.env))) := by rfl) :
    PE X (.Call (.Attribute o m apos) (e :: es) [] pos) (tMeth C m sp dvs E ta t) := by
  intro pins s σ H Q I h
  refine PySem.W.methodCall_KW (pl := pl) (thn (he pins s σ H _ I h) fun u s1 ⟨x, H1, I1, rx, a, dx, fs, ex, ea, l, q⟩ => ?_) ht
  subst ex
  obtain rfl : u = Value.ref a := rx
  refine getmeth_ok I1 ea c hm l ?_
  refine PySem.W.callWith_K (first := [.ref a]) (h₀ := X.base) I.ok.mod.kin hm.kp (thn (ha pos pins s1 σ H1 _ I1 q) fun us s2 ⟨vs, H2, I2, r, q2⟩ => ⟨I2.kIn, ?_⟩) hst hpl
  exact run_fn (us := .ref a :: us) (vs := .ref a :: vs) F hr hb hd hx I2 (.cons rfl r) q2
theorem pe_meth0 {pl : Sem Bool} (he : PE X o ta) (c : Cls X.K C) (hm : Meth X.K C m f) (F : FnOk X.prog X.w X.K X.mg X.base CX k f fd ps sp) (hr : Room k X.A) (hb : Binds X.K fd ps ds) (hd : Vals dvs ds) (hx : Passes CX X E)
    (ht : eval (.Call (.Attribute o m apos) [] [] pos) X.env = (do
      let ov ← eval o X.env
      standAt apos.atName
      let (f, first) ← holding [ov] (getMethod ov m pl)
      callWith pos f first (backTo pos (starEach [] X.env)) (backToKw pos (keywordEach [] X.env))) := by rfl) :
    PE X (.Call (.Attribute o m apos) [] [] pos) (tMeth C m sp dvs E ta tNil) := by
  intro pins s σ H Q I h
  refine PySem.W.methodCall_KW (pl := pl) (thn (he pins s σ H _ I h) fun u s1 ⟨x, H1, I1, rx, a, dx, fs, ex, ea, l, q⟩ => ?_) ht
  subst ex
  obtain rfl : u = Value.ref a := rx
  refine getmeth_ok I1 ea c hm l ?_
  exact PySem.W.callWith_K0 (first := [.ref a]) I1.kIn hm.kp (run_fn (us := [.ref a]) (vs := [.ref a]) F hr hb hd hx I1 (.cons rfl .nil) q)
structure Mk (K : PySem.W.Frag) (C f : Addr) : Prop where
  makes : PySem.W.makesIn K C = true
  init : PySem.W.findIn K (.ref C) "__init__" = some (some (.ref f))
  fn : PySem.W.isFn K (.ref f) = true
  kp : PySem.W.keepIn K (.ref C) = true
theorem run_make {pins : List (Addr × Obj)} {σ : St} {H : Hp} {s : Shared} {Q : VK} {us : List Value} {vs : List V} (M : Mk X.K C f) (F : FnOk X.prog X.w X.K X.mg X.base CX k f fd ps sp) (hr : Room (k + 1) X.A) (hb : Binds X.K fd ps ds) (hd : Vals dvs ds)
    (hx : Passes CX X E) (I : Inv X pins σ H s) (r : Vals vs us)
    (h : ∀ x dx, H x = none → H dx = none → dx ≠ x → sp (.ref x :: (vs ++ dvs)) (upd (upd H dx (.own x)) x (.ins C dx [])) (fun v H2 => v = .non ∧ Q (.ref x) H2) E) :
    wpAny (model X.prog X.w) X.A (call (.ref C) us) (EP X pins σ Q) X.xe s := by
  have hq := h (s.heap.objs.size + 1) s.heap.objs.size (I.hok.fresh (Nat.le_succ _)) (I.hok.fresh (Nat.le_refl _)) (Nat.ne_of_lt (Nat.lt_succ_self _))
  have I2 := Inv.made (C := C) I
  have r2 : Vals (V.ref (s.heap.objs.size + 1) :: (vs ++ dvs)) (Value.ref (s.heap.objs.size + 1) :: (us ++ ds)) := .cons rfl (r.append hd)
  have hl : (Value.ref (s.heap.objs.size + 1) :: us ++ ds).length = ps.length := by
    have e := r2.length
    rw [F.len _ _ _ _ hq] at e
    exact e.symm
  refine wpAny_call (make_map (f := f) I.kIn M.makes M.init (beq_iff_eq.mp M.fn) (codeAny_mono (F.run _ X.stack _ _ ⟨Value.ref (s.heap.objs.size + 1) :: us, []⟩ (Value.ref (s.heap.objs.size + 1) :: (us ++ ds)) _ _ E (hr.make C us [])
    (I2.env0.make C us []) (hb _ (Value.ref (s.heap.objs.size + 1) :: us) I2.kIn hl) r2 hq) fun r s' hq' => ?_))
  cases r with
  | error e => exact hx pins σ _ _ e s' I2 hq'
  | ok fl =>
    cases fl with
    | ret u =>
      obtain ⟨v, H', I3, rv, ev, q3⟩ := I2.after hq'
      subst ev
      exact ⟨rv, ⟨V.ref (s.heap.objs.size + 1), H', I3, rfl, q3⟩⟩
    | next => exact False.elim hq'
    | brk => exact False.elim hq'
    | cont => exact False.elim hq'
theorem pe_make0 (M : Mk X.K C f) (F : FnOk X.prog X.w X.K X.mg X.base CX k f fd ps sp) (hr : Room (k + 1) X.A) (hg : Gl X x) (hm : X.mg x = some (.ref C)) (hb : Binds X.K fd ps ds) (hd : Vals dvs ds) (hx : Passes CX X E)
    (hdb : (x == ("__debug__" : Str)) = false := by decide) : PE X (.Call (.Name x p) [] [] pos) (tMake C sp dvs E tNil) := by
  intro pins s σ H Q I h
  refine wpAny_Call_Name_kw (ld_glob I hg hm ?_ hdb)
  exact PySem.W.callWith_K0 I.kIn M.kp (run_make (us := []) M F hr hb hd hx I .nil h)
end
def PK (X : Cx) (kws : List Keyword) (t : TA) : Prop :=
  ∀ (pos : Pos) (pins : List (Addr × Obj)) (s : Shared) (σ : St) (H : Hp) (Q : List V → Hp → Prop), Inv X pins σ H s → t σ H Q → wpAny (model X.prog X.w) X.A (evalAll ((backToKw pos (keywordEach kws X.env)).map (·.2))) (AP X pins σ Q) X.xe s
section
variable {X : Cx} {CX : CXT} {k : Nat} {f C : Addr} {fd : FuncData} {ps ks : List Str} {sp : Sp} {E : XK} {x m : Str} {p pos apos kpos : Pos} {e o : Expr} {es : List Expr} {kws : List Keyword} {te ta : TE} {t tk : TA} {nm : Option Str}
theorem pk_nil : PK X [] tNil := fun _ _ _ _ H Q I h => wpAny_evalAll_nil ⟨[], H, I, .nil, h⟩
theorem pk_cons (ha : PE X e te) (hr : PK X kws t) : PK X (⟨nm, e, kpos⟩ :: kws) (tCons te t) := by
  intro pos pins s σ H Q I h
  show wpAny _ _ (evalAll ((do let v ← eval e X.env; standAt pos; pure v) :: (backToKw pos (keywordEach kws X.env)).map (·.2))) _ _ s
  refine wpAny_evalAll_cons (wpAny_bind (thn (ha pins s σ H _ I h) fun u s1 ⟨x, H1, I1, r1, q1⟩ => wpAny_bind (wpAny_standAt (wpAny_pure ?_))))
  exact thn (hr pos pins s1 σ H1 _ I1 q1) fun us s2 ⟨xs, H2, I2, r2, q2⟩ => ⟨x :: xs, H2, I2, .cons r1 r2, q2⟩
structure KBinds (K : PySem.W.Frag) (fd : FuncData) (ps ks : List Str) (g : List Value → List Value → List Value) (gV : List V → List V → List V) : Prop where
  to : ∀ (s : Shared) (us ws : List Value), K.In s.heap → (g us ws).length = ps.length → BindsTo s fd ⟨us, ks.zip ws⟩ (ps.zip (g us ws))
  rel : ∀ {vs : List V} {us : List Value} {zs : List V} {ws : List Value}, Vals vs us → Vals zs ws → Vals (gV vs zs) (g us ws)
variable {g : List Value → List Value → List Value} {gV : List V → List V → List V}
end
structure FnScope (N P : List Str) (sc : Scope) : Prop where
  kind : sc.kind = .function
  co : sc.isCoroutine = false
  gen : sc.isGenerator = false
  nd : N.Nodup
  pre : N.take P.length = P
  par : ∀ x ∈ P, sc.names.lookup x = some .local ∨ sc.names.lookup x = some .cell
  nofree : ∀ y ∈ sc.names, y.2 ≠ .free
theorem bindL_out {kindOf : Str → Option NameKind} {x : Str} : ∀ {binds : List (Str × Value)} {m : Str → Option Value}, (∀ v, (x, v) ∉ binds) → bindL kindOf binds m x = m x
  | [], _, _ => rfl
  | (n, v) :: r, m, h => by
    unfold bindL
    rw [bindL_out fun w hw => h w (List.mem_cons_of_mem _ hw)]
    split
    · have : x ≠ n := by rintro rfl; exact h v List.mem_cons_self
      simp [this]
    · rfl
theorem bindC_out {kindOf : Str → Option NameKind} {x : Str} : ∀ {binds : List (Str × Value)} {m : Str → Option Value}, (∀ v, (x, v) ∉ binds) → bindC kindOf binds m x = m x
  | [], _, _ => rfl
  | (n, v) :: r, m, h => by
    unfold bindC
    rw [bindC_out fun w hw => h w (List.mem_cons_of_mem _ hw)]
    split
    · rfl
    · have : x ≠ n := by rintro rfl; exact h v List.mem_cons_self
      simp [this]
theorem bindL_get {kindOf : Str → Option NameKind} {x : Str} {v : Value} : ∀ {P : List Str} {vs : List Value} {i : Nat} {m : Str → Option Value}, P.Nodup → P[i]? = some x → vs[i]? = some v → kindOf x = some .local →
    bindL kindOf (P.zip vs) m x = some v
  | [], _, _, _, _, h, _, _ => by simp at h
  | _ :: _, [], _, _, _, _, h, _ => by simp at h
  | p :: P, w :: vs, 0, m, nd, h1, h2, hk => by
    simp at h1 h2; subst h1; subst h2
    show bindL kindOf ((p, w) :: P.zip vs) m p = _
    unfold bindL
    rw [bindL_out fun v hv => (List.nodup_cons.mp nd).1 (List.of_mem_zip hv).1, if_pos hk]
    simp
  | p :: P, w :: vs, i + 1, m, nd, h1, h2, hk => by
    show bindL kindOf ((p, w) :: P.zip vs) m x = _
    unfold bindL
    exact bindL_get (i := i) (List.nodup_cons.mp nd).2 (by simpa using h1) (by simpa using h2) hk
theorem bindC_get {kindOf : Str → Option NameKind} {x : Str} {v : Value} : ∀ {P : List Str} {vs : List Value} {i : Nat} {m : Str → Option Value}, P.Nodup → P[i]? = some x → vs[i]? = some v → kindOf x ≠ some .local →
    bindC kindOf (P.zip vs) m x = some v
  | [], _, _, _, _, h, _, _ => by simp at h
  | _ :: _, [], _, _, _, _, h, _ => by simp at h
  | p :: P, w :: vs, 0, m, nd, h1, h2, hk => by
    simp at h1 h2; subst h1; subst h2
    show bindC kindOf ((p, w) :: P.zip vs) m p = _
    unfold bindC
    rw [bindC_out fun v hv => (List.nodup_cons.mp nd).1 (List.of_mem_zip hv).1, if_neg hk]
    simp
  | p :: P, w :: vs, i + 1, m, nd, h1, h2, hk => by
    show bindC kindOf ((p, w) :: P.zip vs) m x = _
    unfold bindC
    exact bindC_get (i := i) (List.nodup_cons.mp nd).2 (by simpa using h1) (by simpa using h2) hk
def start (N : List Str) (vs : List V) : St := vs.map some ++ List.replicate (N.length - vs.length) none
def cxOf (CX : CXT) (P : Program) (w : World) (K : PySem.W.Frag) (mg : Str → Option Value) (base : Heap) (N : List Str) (qual : Str) (scope : Scope) (f : Addr) (cd : Value) (A : Around) (outer : List Env) (s : Shared) (H : Hp) (E : XK) : Cx where
  prog := P
  w := w
  K := K
  mg := mg
  base := base
  A := A.deeper (envOfC qual scope s.heap.objs.size f cd)
  N := N
  s₀ := s
  H₀ := H
  env := envOfC qual scope s.heap.objs.size f cd
  outer := outer
  stack := envOfC qual scope s.heap.objs.size f cd :: outer
  ex := []
  calm := true
  fn := fun _ => true
  pn := []
  xe := fun e s' => wpAny (model P w) (A.deeper (envOfC qual scope s.heap.objs.size f cd)) (leaving (envOfC qual scope s.heap.objs.size f cd) e) (fun _ s'' => CX outer H s E e s'') (fun e' s'' => CX outer H s E e' s'') s'
theorem cell_has {sc : Scope} {n : Nat} {x : Str} (h : sc.names.lookup x = some .cell) : ∃ c, (cellsFrom n sc.names []).lookup x = some c := by
  have q := PySem.W.cellsFrom_some sc.names n [] (.inl h)
  exact Option.isSome_iff_exists.mp q
theorem inv_start {CX : CXT} {P : Program} {w : World} {K : PySem.W.Frag} {mg : Str → Option Value} {base : Heap} {N ps : List Str} {qual : Str} {scope : Scope} {f : Addr} {cd : Value} {A : Around} {outer : List Env} {s s1 : Shared} {H : Hp} {E : XK} {us : List Value} {vs : List V}
    (S : FnScope N ps scope) (hd : A.handled = none) (e0 : Env0 P w K mg base A outer s H) (hl : vs.length = ps.length) (r : Vals vs us)
    (x : InCallC s s.heap.objs.size (bindL (envOfC qual scope s.heap.objs.size f cd).kindOf (ps.zip us) fun _ => none) (cellsFrom (s.heap.objs.size + 1) scope.names []) (bindC (envOfC qual scope s.heap.objs.size f cd).kindOf (ps.zip us) fun _ => none) s1) :
    Inv (cxOf CX P w K mg base N qual scope f cd A outer s H E) [] (start N vs) H s1 := by
  have hpl : ps.length ≤ N.length := by have := congrArg List.length S.pre; rw [List.length_take] at this; omega
  obtain ⟨h1, tk, rfl, hk⟩ := x.done
  have noA : ∀ b : Addr, b ∉ (cxOf CX P w K mg base N qual scope f cd A outer s H E).ex := fun b z => absurd (show b ∈ ([] : List Addr) from z) (by simp)
  refine ⟨⟨e0.mod, S.kind, rfl, rfl, Nat.le_refl _, fun y z c h1 h2 => ?_, fun y hy => ?_, fun y c _ h => ?_, fun _ => hd, Around.frames_deeper e0.frames, .inr ⟨rfl, rfl⟩, fun b z => absurd z (noA b), e0.bs, e0.bsz, fun b _ _ => noA b, fun b z => absurd z (noA b), e0.funs, e0.frf⟩,
    rfl, e0.bare, Un.kept hk, ⟨_, x.toInCall.ns, fun i y v h1 h2 h3 => ?_⟩, fun y c h => ⟨_, x.cell y c h⟩, e0.hok.fresh (Nat.le_refl _), fun y c h => ?_, fun p hp => absurd (show p ∈ ([] : List (Addr × Obj)) from hp) (by simp), e0.hok.kept hk, ?_⟩
  · exact name_of_addr x.apart (PySem.mem_of_lookup h1) (PySem.mem_of_lookup h2)
  · have hy : scope.names.lookup y = some .cell ∨ scope.names.lookup y = some .free := hy
    rcases hy with hy | hy
    · exact cell_has hy
    · exact absurd rfl (S.nofree _ (PySem.mem_of_lookup hy))
  · exact Nat.le_of_lt (x.above y c (PySem.mem_of_lookup h))
  · have hi : i < vs.length := by
      unfold start at h2
      by_cases hi : i < vs.length
      · exact hi
      · rw [List.getElem?_append_right (by simpa using hi)] at h2
        rw [List.getElem?_replicate] at h2
        split at h2 <;> cases h2
    have ha : vs[i]? = some v := by
      unfold start at h2
      rw [List.getElem?_append_left (by simpa using hi), List.getElem?_map] at h2
      cases e : vs[i]? with
      | none => rw [e] at h2; cases h2
      | some a => rw [e] at h2; cases h2; rfl
    obtain ⟨u, hu, rv⟩ := r.get ha
    have hp : ps[i]? = some y := by
      rw [← S.pre, List.getElem?_take_of_lt (by omega)]; exact h1
    have ndP : ps.Nodup := by rw [← S.pre]; exact S.nd.sublist (List.take_sublist _ _)
    refine ⟨u, rv, ?_⟩
    rcases S.par y (List.mem_of_getElem? hp) with k | k
    · exact .inl ⟨k, bindL_get ndP hp hu k⟩
    · obtain ⟨c, e⟩ := cell_has (n := s.heap.objs.size + 1) k
      refine .inr ⟨.inl k, c, e, ?_⟩
      have q := x.cell y c e
      rw [bindC_get ndP hp hu (by show scope.names.lookup y ≠ _; rw [k]; decide)] at q
      exact q
  · exact e0.hok.fresh (Nat.le_of_lt (x.above y c (PySem.mem_of_lookup h)))
  · unfold start
    show _ = N.length
    rw [List.length_append, List.length_map, List.length_replicate]
    omega
theorem fn_of {CX : CXT} {P : Program} {w : World} {K : PySem.W.Frag} {mg : Str → Option Value} {base : Heap} {k : Nat} {f : Addr} {name qual : Str} {params : Arguments} {body : List Stmt} {scope : Scope} {dV kV doc pm cdv ct oc : Value} {an od : Option Addr}
    {osl : Array (Option Value)} {N ps : List Str} {sp : Sp} (lk : K.lookup f = some ⟨oc, od, .func (PySem.W.fnOf name qual params body scope dV kV doc pm an cdv ct), osl⟩) (hcd : PySem.W.codeIn K cdv qual = true) (S : FnScope N ps scope)
    (len : ∀ vs H Q E, sp vs H Q E → vs.length = ps.length)
    (hbody : ∀ (A : Around) (outer : List Env) (s : Shared) (H : Hp) (vs : List V) (Q : VK) (E : XK), Room k (A.deeper (envOfC qual scope s.heap.objs.size f cdv)) → sp vs H Q E →
      ∃ t, PSs (cxOf CX P w K mg base N qual scope f cdv A outer s H E) body t ∧ t { nx := fun _ H' => Q .non H', rt := Q } (start N vs) H) :
    FnOk P w K mg base CX (k + 1) f (PySem.W.fnOf name qual params body scope dV kV doc pm an cdv ct) ps sp := by
  refine ⟨len, fun A outer s H args us vs Q E hr e0 hb r hsp => ?_⟩
  have hl := len _ _ _ _ hsp
  have KX : K.In s.heap := e0.mod.kin.keeps fun b o e => (e0.bs b o e).1
  have lim : s.heap.NoLimit := e0.mod.nolimit.keeps fun b o e => (e0.bs b o e).1
  have hkind : ∀ y ∈ ps.zip us, scope.names.lookup y.1 = some .local ∨ (scope.names.lookup y.1 = some .cell ∧ ((cellsFrom (s.heap.objs.size + 1) scope.names []).lookup y.1).isSome = true) := fun ⟨n, v⟩ hy => by
    rcases S.par n (List.of_mem_zip hy).1 with q | q
    · exact .inl q
    · exact .inr ⟨q, PySem.W.cellsFrom_some _ _ _ (.inl q)⟩
  refine codeAny_call_function hr.depth (KX _ _ lk) rfl S.co S.gen rfl (PySem.W.codeRec_of KX hcd) (hb _ _ _ _ ?_)
  refine wpAny_newFunctionEnv_cells S.kind hkind fun env he s1 x => ?_
  subst he
  refine ⟨lim.keeps x.toInCall.keep, codeAny_func ?_⟩
  obtain ⟨t, ht, hq⟩ := hbody A outer s H vs Q E (hr.deeper _) hsp
  have I : Inv (cxOf CX P w K mg base N qual scope f cdv A outer s H E) [] (start N vs) H s1 := inv_start S hr.hd e0 hl r x
  refine wpAny_mono (ht [] s1 (start N vs) H _ I hq) (fun fl s' hs => ?_) fun e s' hs => hs
  have fin : ∀ {σ' : St} {H' : Hp} {v : V} {u : Value}, Inv (cxOf CX P w K mg base N qual scope f cdv A outer s H E) [] σ' H' s' → RelV v u → Q v H' → CE outer P w H s Q u s' :=
    fun {σ' H' v u} J rv q => ⟨v, H', J.os, J.bare, J.base, J.hok, rv, q⟩
  cases fl with
  | ret u =>
    obtain ⟨v, σ', H', J, rv, q⟩ := hs
    exact fin J rv q
  | next =>
    obtain ⟨σ', H', J, q⟩ := hs
    exact fin (v := V.non) (u := Value.none) J rfl q
  | brk =>
    obtain ⟨_, _, _, q⟩ := hs
    exact False.elim q
  | cont =>
    obtain ⟨_, _, _, q⟩ := hs
    exact False.elim q
end L2
namespace L2
open PySem PySem.Spec PyProof.Rows
section
variable {X : Cx} {x : Str} {p pos : Pos} {e : Expr} {es : List Expr} {t : TA} {id T : String} {r : List V → Hp → VK → Prop}
def tCB (r : List V → Hp → VK → Prop) (t : TA) : TE := fun σ H Q => t σ H fun vs H1 => r vs H1 Q
theorem pe_callB (hc : CallR X (.builtin id) r) (hg : Gl X x) (hm : X.mg x = none) (hv : bootBuiltins x = some (.builtin id)) (ha : PA X (e :: es) t) (hn : x ≠ "__name__" := by decide) (hdb : (x == ("__debug__" : Str)) = false := by decide)
    (he : starEach (e :: es) X.env = (false, eval e X.env) :: starEach es X.env := by rfl) (hpl : (backTo pos (starEach es X.env)).any (·.1) = false := by rfl) : PE X (.Call (.Name x p) (e :: es) [] pos) (tCB r t) := by
  intro pins s σ H Q I h
  refine wpAny_Call_Name_kw (ld_blt I hg hm hv ?_ hn hdb)
  exact PyProof.Rows.callWith_builtin1 (thn (ha pos pins s σ H _ I h) fun us s1 ⟨vs, H1, I1, r1, q1⟩ => hc pins s1 σ H1 vs us Q I1 r1 q1) he hpl
theorem pe_callTy (hc : CallR X (.type T) r) (hg : Gl X x) (hm : X.mg x = none) (hv : bootBuiltins x = some (.type T)) (ha : PA X (e :: es) t) (hn : x ≠ "__name__" := by decide) (hdb : (x == ("__debug__" : Str)) = false := by decide)
    (he : starEach (e :: es) X.env = (false, eval e X.env) :: starEach es X.env := by rfl) (hpl : (backTo pos (starEach es X.env)).any (·.1) = false := by rfl) : PE X (.Call (.Name x p) (e :: es) [] pos) (tCB r t) := by
  intro pins s σ H Q I h
  refine wpAny_Call_Name_kw (ld_blt I hg hm hv ?_ hn hdb)
  exact PyProof.Rows.callWith_type1 (thn (ha pos pins s σ H _ I h) fun us s1 ⟨vs, H1, I1, r1, q1⟩ => hc pins s1 σ H1 vs us Q I1 r1 q1) he hpl
end
end L2
namespace HT
open PySem PyProof.Rows
section
open PySem.SeqAt
open PySem.AutoSeq1 (wpAny_loadPart')
open PySem.MeetsSeq PySem.MeetsSeq2 PySem.MeetsSeq3
end
section
variable {prog : Program} {w : World} {A : Around} {E : Value → Shared → Prop} {s : Shared}
theorem cat_tup {t b : Addr} {vs ws : List Value} {Q : Value → Shared → Prop} (ht : IsTup s.heap t vs.toArray) (hb : IsTup s.heap b ws.toArray) (hv : vs ≠ [])
    (h1 : ws = [] → Q (.ref t) s) (h2 : ws ≠ [] → Q (.ref s.heap.objs.size) { s with heap := s.heap.push { cls := .type "tuple", data := .seq (vs ++ ws).toArray } })
    (hsz : vs.length + ws.length ≤ sizeLine) : wpAny (model prog w) A (binaryOp .Add (.ref t) (.ref b)) Q E s := by
  obtain ⟨⟨cls, dd, data, sl⟩, ho, hc, n, hd⟩ := id ht
  obtain ⟨⟨cls2, dd2, data2, sl2⟩, ho2, hc2, n2, hd2⟩ := id hb
  simp only at hc hd hc2 hd2
  subst hc hd hc2 hd2
  have e : vs.toArray ++ ws.toArray = (vs ++ ws).toArray := by simp
  by_cases hw : ws = []
  · exact concat_meets ⟨_, ho, rfl⟩ ⟨_, ho2, rfl⟩ noFill_tuple_add seq_tuple_add PySem.F.slot_tuple_add PySem.F.entry_tuple_add (PySem.F.args_tuple_add_2 _ _)
      (tuple_addW1 t b vs.toArray ws.toArray n n2 dd dd2 sl sl2 (by simpa using hv) (by simp [hw])) ⟨ho, ho2, h1 hw⟩
  · refine concat_meets ⟨_, ho, rfl⟩ ⟨_, ho2, rfl⟩ noFill_tuple_add seq_tuple_add PySem.F.slot_tuple_add PySem.F.entry_tuple_add (PySem.F.args_tuple_add_2 _ _)
      (tuple_addW2 t b vs.toArray ws.toArray n n2 dd dd2 sl sl2 (by simpa using hv) (by simpa using hw) (by rw [List.size_toArray, List.size_toArray]; exact hsz)) ⟨ho, ho2, ?_⟩
    rw [e]
    exact h2 hw
def sIx (n d : Nat) : Option Int → Nat
  | none => d
  | some v => if v < 0 then (v + (n : Int)).toNat else min v.toNat n
theorem sIx_none (n d : Nat) : sIx n d none = d := rfl
theorem sIx_nat (n d k : Nat) : sIx n d (some (k : Int)) = min k n := by
  show (if (k : Int) < 0 then ((k : Int) + (n : Int)).toNat else min (k : Int).toNat n) = min k n
  rw [if_neg (by omega), Int.toNat_natCast]
theorem sIx_le (n d : Nat) (hd : d ≤ n) (o : Option Int) : sIx n d o ≤ n := by
  cases o with
  | none => exact hd
  | some v =>
    show (if v < 0 then (v + (n : Int)).toNat else min v.toNat n) ≤ n
    by_cases hv : v < 0
    · rw [if_pos hv]; omega
    · rw [if_neg hv]; exact Nat.min_le_right _ _
theorem clip_eq (v : Int) (n d : Nat) : (if v < 0 then max (v + (n : Int)) 0 else min v (n : Int)) = ((sIx n d (some v) : Nat) : Int) := by
  show (if v < 0 then max (v + (n : Int)) 0 else min v (n : Int)) = (((if v < 0 then (v + (n : Int)).toNat else min v.toNat n) : Nat) : Int)
  by_cases hv : v < 0
  · simp only [if_pos hv]; omega
  · simp only [if_neg hv]; omega
theorem adjust_gen (lo hi : Option Int) (n : Nat) : Builtin.Slice.sliceAdjust lo hi 1 (n : Int) = (((sIx n 0 lo : Nat) : Int), ((sIx n n hi : Nat) : Int)) := by
  have h1 : ¬ ((1 : Int) < 0) := by omega
  unfold Builtin.Slice.sliceAdjust
  simp only [h1, if_false]
  refine Prod.ext ?_ ?_
  · cases lo with
    | none => rfl
    | some v => exact clip_eq v n 0
  · cases hi with
    | none => rfl
    | some v => exact clip_eq v n n
theorem places_gen (i j : Nat) : Builtin.Slice.slicePlaces (i : Int) (j : Int) 1 = j - i := by
  unfold Builtin.Slice.slicePlaces
  have h1 : (1 : Int) > 0 := by omega
  simp only [h1, if_true, Int.ediv_one]
  split <;> omega
theorem slicePart_ {v : Value} {o : Option Int} {Q : Option Int → Shared → Prop} (p : IsPart v o) (h : Q o s) : wpAny (model prog w) A (Builtin.Slice.slicePartIndex v) Q E s := by
  cases p with
  | none => exact slicePart_none h
  | int i t => exact slicePart_int h
theorem sliceApplied_gen {sl : Addr} {vl vu : Value} {lo hi : Option Int} {n : Nat} {Q : Int × Int × Nat → Shared → Prop} (hs : s.heap.IsSliceOf sl vl vu .none) (pl : IsPart vl lo) (pu : IsPart vu hi)
    (h : Q (((sIx n 0 lo : Nat) : Int), 1, sIx n n hi - sIx n 0 lo) s) : wpAny (model prog w) A (Builtin.Slice.sliceApplied (.ref sl) (pure (n : Int))) Q E s := by
  obtain ⟨os, hos, hcs, hds⟩ := id hs
  unfold Builtin.Slice.sliceApplied Builtin.Slice.sliceFields
  refine wpAny_bind (wpAny_bind (wpAny_field hos hds (x := vl) rfl (wpAny_bind (wpAny_field hos hds (x := vu) rfl (wpAny_bind (wpAny_field hos hds (x := .none) rfl (wpAny_pure ?_)))))))
  refine wpAny_bind (slicePart_none ?_)
  show wpAny _ _ (if ((1 : Int) == 0) = true then _ else _) _ _ s
  rw [if_neg (by decide)]
  refine wpAny_bind (slicePart_ pl (wpAny_bind (slicePart_ pu (wpAny_bind (wpAny_pure ?_)))))
  show wpAny _ _ (match Builtin.Slice.sliceAdjust lo hi 1 (n : Int) with | (lo, hi) => pure (lo, (1 : Int), Builtin.Slice.slicePlaces lo hi 1)) _ _ s
  rw [adjust_gen lo hi n]
  show wpAny _ _ (pure (((sIx n 0 lo : Nat) : Int), (1 : Int), Builtin.Slice.slicePlaces ((sIx n 0 lo : Nat) : Int) ((sIx n n hi : Nat) : Int) 1)) _ _ s
  rw [places_gen]
  exact wpAny_pure h
theorem pick_gen (xs : Array Value) (i k : Nat) : ((List.range k).filterMap fun (m : Nat) => xs[((i : Int) + (m : Int) * 1).toNat]?).toArray = ((xs.toList.drop i).take k).toArray := by
  have e : (fun (m : Nat) => xs[((i : Int) + (m : Int) * 1).toNat]?) = fun m => xs[i + m]? := by
    funext m
    have : ((i : Int) + (m : Int) * 1).toNat = i + m := by omega
    rw [this]
  rw [e]
  have := pick_run xs i k
  rw [List.filterMap_map] at this
  have e2 : ((fun x => xs[x]?) ∘ fun x => i + x) = fun m => xs[i + m]? := rfl
  rw [e2] at this
  rw [this]
theorem getItem_tuple_cut {t sl : Addr} {items : Array Value} {vl vu : Value} {lo hi : Option Int} {Q : Value → Shared → Prop} (ht : IsTup s.heap t items) (hs : s.heap.IsSliceOf sl vl vu .none) (pl : IsPart vl lo) (pu : IsPart vu hi)
    (hw : ¬ (sIx items.size 0 lo = 0 ∧ sIx items.size items.size hi = items.size))
    (h : Q (.ref s.heap.objs.size) { s with heap := s.heap.push { cls := .type "tuple", data := .seq ((items.toList.drop (sIx items.size 0 lo)).take (sIx items.size items.size hi - sIx items.size 0 lo)).toArray } })
    (hsz : items.size ≤ sizeLine) : wpAny (model prog w) A (getItem (.ref t) (.ref sl)) Q E s := by
  have htake : sizeOk (.seq ((items.toList.drop (sIx items.size 0 lo)).take (sIx items.size items.size hi - sIx items.size 0 lo)).toArray) := by
    show ((items.toList.drop (sIx items.size 0 lo)).take (sIx items.size items.size hi - sIx items.size 0 lo)).toArray.size ≤ sizeLine
    rw [List.size_toArray, List.length_take, List.length_drop, Array.length_toList]
    omega
  have hj : sIx items.size items.size hi ≤ items.size := sIx_le _ _ (Nat.le_refl _) hi
  obtain ⟨os, hos, hcs, hds⟩ := id hs
  have hTs : s.TypeIs (.ref sl) "slice" := ⟨os, hos, hcs⟩
  unfold getItem
  try with_reducible refine wpAny_holding ?_
  first | refine wpAny_bind (wpAny_pure ?_) | skip
  refine wpAny_bind (wpAny_sequenceKey ht.typeIs (by decide) ?_)
  refine wpAny_bind (wpAny_callSpecial?_slot (name := Str.ofString "__getitem__") ht.typeIs PyProof.Rows.slot_tuple_getitem
    (wpAny_call_entry PyProof.Rows.slot_tuple_getitem ht.typeIs entry_tuple_getitem ?_ (args_tuple_getitem _ _)))
  show wpAny _ _ (Builtin.Tuple.tupleItemsOf (.ref t) >>= _) _ _ s
  refine wpAny_bind (tupleItemsOf_ ht ?_)
  refine wpAny_bind (wpAny_typeOf hTs ?_)
  rw [if_pos (by decide)]
  refine wpAny_bind (sliceApplied_gen hs pl pu ?_)
  have hno : ¬ ((((sIx items.size 0 lo : Nat) : Int) == 0 && (1 : Int) == 1 && (sIx items.size items.size hi - sIx items.size 0 lo) == items.size) = true) := by
    intro q
    rw [Bool.and_eq_true, Bool.and_eq_true] at q
    have q1 : ((sIx items.size 0 lo : Nat) : Int) = 0 := eq_of_beq q.1.1
    have q2 : sIx items.size items.size hi - sIx items.size 0 lo = items.size := eq_of_beq q.2
    exact hw ⟨by omega, by omega⟩
  show wpAny _ _ (if (((sIx items.size 0 lo : Nat) : Int) == 0 && (1 : Int) == 1 && (sIx items.size items.size hi - sIx items.size 0 lo) == items.size) = true then _ else _) _ _ s
  rw [if_neg hno, pick_gen]
  first
    | exact wpAny_bind (m := Builtin.Tuple.tupleExact _) (wpAny_newObj_type (wpAny_pure ⟨_, rfl, wpAny_pure h⟩) htake)
    | exact wpAny_bind (m := Builtin.Tuple.tupleExact _) (wpAny_newObj_type (wpAny_bind (wpAny_pure (wpAny_pure ⟨_, rfl, wpAny_pure h⟩))) htake)
    | exact wpAny_bind (wpAny_bind (m := Builtin.Tuple.tupleExact _) (wpAny_newObj_type (wpAny_pure (wpAny_pure ⟨_, rfl, wpAny_pure h⟩)) htake))
    | exact wpAny_bind (wpAny_bind (m := Builtin.Tuple.tupleExact _) (wpAny_newObj_type (wpAny_pure ⟨_, rfl, wpAny_pure h⟩) htake))
end
end HT
namespace L2
open PySem PySem.Spec PyProof.Rows
abbrev TO := St → Hp → (Option Int → Hp → Prop) → Prop
def PO (X : Cx) (e : Option Expr) (t : TO) : Prop :=
  ∀ (pins : List (Addr × Obj)) (s : Shared) (σ : St) (H : Hp) (Q : Option Int → Hp → Prop), Inv X pins σ H s → t σ H Q →
    wpAny (model X.prog X.w) X.A (evalPart e X.env) (fun u s' => ∃ o H', Inv X pins σ H' s' ∧ IsPart u o ∧ Q o H') X.xe s
def tNoPart : TO := fun _ H Q => Q none H
def tPart (t : TE) : TO := fun σ H Q => t σ H fun x H1 => ∃ i, x = .int i ∧ Q (some i) H1
section
variable {X : Cx} {e : Expr} {te : TE} {lo hi : Option Expr} {tl th : TO} {pos p2 : Pos}
theorem po_none : PO X none tNoPart := by
  intro pins s σ H Q I h
  rw [evalPart_none]
  exact wpAny_pure ⟨none, H, I, .none, h⟩
theorem po_some (h : PE X e te) : PO X (some e) (tPart te) := by
  intro pins s σ H Q I hw
  rw [evalPart_some]
  refine thn (h pins s σ H _ I hw) fun u s1 ⟨x, H1, I1, r1, q1⟩ => ?_
  obtain ⟨i, rfl, q⟩ := q1
  obtain ⟨t, rfl⟩ := r1
  exact ⟨some i, H1, I1, .int i t, q⟩
def SlR (X : Cx) (r : V → Option Int → Option Int → Hp → VK → Prop) : Prop :=
  ∀ (pins : List (Addr × Obj)) (s : Shared) (σ : St) (H : Hp) (x : V) (v vl vu : Value) (lo hi : Option Int) (sl : Addr) (Q : VK), Inv X pins σ H s → RelV x v → s.heap.IsSliceOf sl vl vu .none → IsPart vl lo → IsPart vu hi → r x lo hi H Q →
    ∃ T id, typeLookup (.type T) "__getitem__" = pure (some (.builtin id)) ∧ s.TypeIs v T ∧ wpAny (model X.prog X.w) X.A (getItem v (.ref sl)) (EP X pins σ Q) X.xe s
theorem SlR.or {r r' : V → Option Int → Option Int → Hp → VK → Prop} (h : SlR X r) (h' : SlR X r') : SlR X (fun x lo hi H Q => r x lo hi H Q ∨ r' x lo hi H Q) := by
  intro pins s σ H x v vl vu lo hi sl Q I rx hs pl pu q
  rcases q with q | q
  · exact h pins s σ H x v vl vu lo hi sl Q I rx hs pl pu q
  · exact h' pins s σ H x v vl vu lo hi sl Q I rx hs pl pu q
def tSl (r : V → Option Int → Option Int → Hp → VK → Prop) (te : TE) (tl th : TO) : TE := fun σ H Q => te σ H fun x H1 => tl σ H1 fun l H2 => th σ H2 fun u H3 => r x l u H3 Q
theorem pe_slice {r : V → Option Int → Option Int → Hp → VK → Prop} (hr : SlR X r) (he : PE X e te) (hl : PO X lo tl) (hu : PO X hi th) : PE X (.Subscript e (.Slice lo hi none p2) pos) (tSl r te tl th) := by
  intro pins s σ H Q I h
  refine Subscript_ (thn (he pins s σ H _ I h) fun v s1 ⟨x, H1, I1, r1, q1⟩ => ?_)
  refine wpAny_Slice (thn (hl pins s1 σ H1 _ I1 q1) fun vl s2 ⟨l, H2, I2, pl, q2⟩ => thn (hu pins s2 σ H2 _ I2 q2) fun vu s3 ⟨u, H3, I3, pu, q3⟩ => ?_)
  rw [evalPart_none]
  refine wpAny_pure ?_
  have I4 : Inv X pins σ H3 { s3 with heap := s3.heap.push { cls := .type "slice", data := .fields #[vl, vu, .none] } } := I3.kept (t' := s3.toks) fun b ob q => Heap.get?_push_of_some _ q
  obtain ⟨T, id, hT, ht, hg⟩ := hr pins { s3 with heap := s3.heap.push { cls := .type "slice", data := .fields #[vl, vu, .none] } } σ H3 x v vl vu l u s3.heap.objs.size Q I4 r1 (Heap.IsSliceOf.new ..) pl pu q3
  show wpAny (model X.prog X.w) X.A (subscriptTail e (.Slice lo hi none p2) v (.ref s3.heap.objs.size)) (EP X pins σ Q) X.xe { s3 with heap := s3.heap.push { cls := .type "slice", data := .fields #[vl, vu, .none] } }
  exact tail_any (ops := [.ref s3.heap.objs.size, v]) ht hT hg (by with_unfolding_all rfl)
def cutV (xs : List V) (lo hi : Option Int) : List V := (xs.drop (HT.sIx xs.length 0 lo)).take (HT.sIx xs.length xs.length hi - HT.sIx xs.length 0 lo)
theorem cutV_length (xs : List V) (lo hi : Option Int) : (cutV xs lo hi).length ≤ xs.length := by
  unfold cutV
  rw [List.length_take, List.length_drop]
  omega
def rSlT (K : PySem.W.Frag) : V → Option Int → Option Int → Hp → VK → Prop := fun x lo hi H Q => ∃ a xs, x = .ref a ∧ SqT K H a xs ∧
  ¬ (HT.sIx xs.length 0 lo = 0 ∧ HT.sIx xs.length xs.length hi = xs.length) ∧ ∀ p, H p = none → Q (.ref p) (upd H p (.tup (cutV xs lo hi)))
theorem sl_tup : SlR X (rSlT X.K) := by
  intro pins s σ H x v vl vu lo hi sl Q I rx hs pl pu h
  obtain ⟨a, xs, rfl, hx, hw, q⟩ := h
  cases rx
  obtain ⟨its, r, ht, hz⟩ := I.tuple hx
  have hlen : its.toArray.size = xs.length := by rw [List.size_toArray]; exact r.length.symm
  refine ⟨"tuple", _, PyProof.Rows.slot_tuple_getitem.lookup, ht.typeIs, ?_⟩
  refine HT.getItem_tuple_cut ht hs pl pu (by rw [hlen]; exact hw) ?_ (by rw [hlen]; exact hz)
  rw [hlen]
  refine ⟨.ref s.heap.objs.size, _, I.laid (t' := s.toks) (o := .tup (cutV xs lo hi)) (fun b ob q => Heap.get?_push_of_some _ q) (Nat.le_refl _) ?_, rfl, q _ (I.hok.fresh (Nat.le_refl _))⟩
  exact ⟨Nat.le_trans (cutV_length xs lo hi) hz, _, (r.drop (HT.sIx xs.length 0 lo)).take (HT.sIx xs.length xs.length hi - HT.sIx xs.length 0 lo), IsTup.new _ _⟩
def rCatT (K : PySem.W.Frag) : R2 := fun x y H Q => ∃ a b xs ys, x = .ref a ∧ y = .ref b ∧ SqT K H a xs ∧ SqT K H b ys ∧ xs ≠ [] ∧ xs.length + ys.length ≤ sizeLine ∧
  (ys = [] → Q (.ref a) H) ∧ (ys ≠ [] → ∀ p, H p = none → Q (.ref p) (upd H p (.tup (xs ++ ys))))
theorem Vals.nil_iff {xs : List V} {us : List Value} (r : Vals xs us) : us = [] ↔ xs = [] := by
  cases r with
  | nil => simp
  | cons _ _ => simp
theorem op_catT : OpR X (binaryOp .Add) (rCatT X.K) := by
  intro pins s σ H x y v u Q I rx ry h
  obtain ⟨a, b, xs, ys, rfl, rfl, ha, hb, hx, hz, q1, q2⟩ := h
  cases rx
  cases ry
  obtain ⟨its, r1, p1, _⟩ := I.tuple ha
  obtain ⟨its2, r2, p2, _⟩ := I.tuple hb
  refine HT.cat_tup p1 p2 (fun z => hx (r1.nil_iff.mp z)) (fun z => ⟨.ref a, H, I, rfl, q1 (r2.nil_iff.mp z)⟩) (fun z => ?_) (by rw [← r1.length, ← r2.length]; exact hz)
  refine ⟨.ref s.heap.objs.size, _, I.laid (t' := s.toks) (o := .tup (xs ++ ys)) (fun b ob q => Heap.get?_push_of_some _ q) (Nat.le_refl _) ?_, rfl, q2 (fun w => z (r2.nil_iff.mpr w)) _ (I.hok.fresh (Nat.le_refl _))⟩
  exact ⟨by rw [List.length_append]; exact hz, _, r1.append r2, IsTup.new _ _⟩
end
end L2
namespace L2
open PySem PySem.Spec PyProof.Rows
def ixN (n : Nat) (i : Int) : Option Nat := if 0 ≤ i then (if i < n then some i.toNat else none) else if -(n : Int) ≤ i then some (i + n).toNat else none
def atI {α : Type} (xs : List α) (i : Int) : Option α := (ixN xs.length i).bind fun j => xs[j]?
theorem ixN_seq {n : Nat} {i : Int} {j : Nat} (h : ixN n i = some j) : seqIndex? i n = some j ∧ j < n ∧ -(n : Int) ≤ i ∧ i < n := by
  unfold ixN at h
  by_cases h0 : 0 ≤ i
  · rw [if_pos h0] at h
    by_cases h1 : i < n
    · rw [if_pos h1] at h
      have e : i.toNat = j := Option.some.inj h
      exact ⟨by rw [seqIndex_of h0 h1, e], by omega, by omega, h1⟩
    · rw [if_neg h1] at h; cases h
  · rw [if_neg h0] at h
    by_cases h1 : -(n : Int) ≤ i
    · rw [if_pos h1] at h
      have e : (i + n).toNat = j := Option.some.inj h
      exact ⟨by rw [seqIndex_neg (by omega) h1, e], by omega, h1, by omega⟩
    · rw [if_neg h1] at h; cases h
theorem atI_get {α : Type} {xs : List α} {i : Int} {v : α} (h : atI xs i = some v) : ∃ j, seqIndex? i xs.length = some j ∧ xs[j]? = some v ∧ j < xs.length ∧ -(xs.length : Int) ≤ i ∧ i < xs.length := by
  unfold atI at h
  cases e : ixN xs.length i with
  | none => rw [e] at h; cases h
  | some j =>
    rw [e] at h
    obtain ⟨h1, h2, h3, h4⟩ := ixN_seq e
    exact ⟨j, h1, h, h2, h3, h4⟩
theorem atI_nat {α : Type} {xs : List α} {j : Nat} {v : α} (h : xs[j]? = some v) : atI xs (j : Int) = some v := by
  have hj : j < xs.length := (List.getElem?_eq_some_iff.mp h).1
  have e : ixN xs.length (j : Int) = some j := by
    unfold ixN
    rw [if_pos (by omega), if_pos (by omega)]; simp
  unfold atI; rw [e]; exact h
theorem atI_last {α : Type} (xs : List α) (v : α) : atI (xs ++ [v]) (-1) = some v := by
  have hl : (xs ++ [v]).length = xs.length + 1 := by simp
  have e : ixN (xs ++ [v]).length (-1) = some xs.length := by
    unfold ixN
    rw [hl, if_neg (by decide), if_pos (by omega)]
    congr 1
    omega
  unfold atI
  rw [e]
  show (xs ++ [v])[xs.length]? = some v
  simp
def PlainIx (b : Expr) : Prop := ∀ o i, subscripted b false o i = operate [o, i] (getItem o i)
def IxR (X : Cx) (r : R2) : Prop :=
  ∀ (value slice : Expr) (pins : List (Addr × Obj)) (s : Shared) (σ : St) (H : Hp) (x y : V) (v u : Value) (Q : VK), Inv X pins σ H s → RelV x v → RelV y u → r x y H Q →
    subscripted slice false v u = operate [v, u] (getItem v u) → wpAny (model X.prog X.w) X.A (subscriptTail value slice v u) (EP X pins σ Q) X.xe s
def MtR (X : Cx) (id : String) (r : V → List V → Hp → VK → Prop) : Prop :=
  ∀ (pins : List (Addr × Obj)) (s : Shared) (σ : St) (H : Hp) (x : V) (xs : List V) (v : Value) (us : List Value) (Q : VK), Inv X pins σ H s → RelV x v → Vals xs us → r x xs H Q →
    wpAny (model X.prog X.w) X.A (call (.builtin id) (v :: us)) (EP X pins σ Q) X.xe s
section
variable {X : Cx} {a b : Expr} {ta tb : TE} {pos : Pos}
theorem IxR.or {r r' : R2} (h : IxR X r) (h' : IxR X r') : IxR X (fun x y H Q => r x y H Q ∨ r' x y H Q) := by
  intro value slice pins s σ H x y v u Q I rx ry q hs
  rcases q with q | q
  · exact h value slice pins s σ H x y v u Q I rx ry q hs
  · exact h' value slice pins s σ H x y v u Q I rx ry q hs
theorem MtR.or {id : String} {r r' : V → List V → Hp → VK → Prop} (h : MtR X id r) (h' : MtR X id r') : MtR X id (fun x xs H Q => r x xs H Q ∨ r' x xs H Q) := by
  intro pins s σ H x xs v us Q I rx rs q
  rcases q with q | q
  · exact h pins s σ H x xs v us Q I rx rs q
  · exact h' pins s σ H x xs v us Q I rx rs q
theorem pe_ix {r : R2} (hr : IxR X r) (ha : PE X a ta) (hb : PE X b tb) (hs : PlainIx b) : PE X (.Subscript a b pos) (tOp r ta tb) := by
  intro pins s σ H Q I h
  exact Subscript_ (binT ha hb I h fun v u s2 x y H2 I2 rx ry q => hr a b pins s2 σ H2 x y v u Q I2 rx ry q (hs _ _))
def rIxL (K : PySem.W.Frag) : R2 := fun x y H Q => ∃ p xs i v, x = .ref p ∧ y = .int i ∧ SqL K H p xs ∧ atI xs i = some v ∧ Q v H
def rIxT (K : PySem.W.Frag) : R2 := fun x y H Q => ∃ p xs i v, x = .ref p ∧ y = .int i ∧ SqT K H p xs ∧ atI xs i = some v ∧ Q v H
def rIxS : R2 := fun x y H Q => ∃ z i c, x = .str z ∧ y = .int i ∧ z.length ≤ sizeLine ∧ atI z.cps.toList i = some c ∧ Q (.str ⟨#[c]⟩) H
theorem ix_list : IxR X (rIxL X.K) := by
  intro value slice pins s σ H x y v u Q I rx ry h hs
  obtain ⟨p, xs, i, z, rfl, rfl, hq, he, q⟩ := h
  cases rx
  obtain ⟨t, rfl⟩ := ry
  obtain ⟨its, r, pl, hz⟩ := I.list hq
  obtain ⟨j, h1, h2, h3, h4, h5⟩ := atI_get he
  obtain ⟨w, ew, rw'⟩ := r.get h2
  have hl := r.length
  have hn := line63
  have fin : EP X pins σ Q w s := ⟨z, H, I, rw', q⟩
  by_cases h0 : 0 ≤ i
  · have hj : i.toNat = j := by
      rw [seqIndex_of h0 h5] at h1
      exact Option.some.inj h1
    exact item_listR pl.isList h0 (by omega) (by rw [hj]; simpa using ew) fin hs
  · have hj : (i + (its.toArray.size : Int)).toNat = j := by
      rw [seqIndex_neg (by omega) h4] at h1
      rw [List.size_toArray, ← hl]
      exact Option.some.inj h1
    exact subscriptTail_builtinR (x := w) pl.isList.typeIs slot_list_getitem.lookup
      (wpAny_getItem_list_neg (Q := fun r s' => r = w ∧ EP X pins σ Q r s') pl.isList (by omega) (by rw [List.size_toArray] <;> omega) (by omega) (by rw [hj]; simpa using ew) ⟨rfl, fin⟩) hs
theorem ix_tup : IxR X (rIxT X.K) := by
  intro value slice pins s σ H x y v u Q I rx ry h hs
  obtain ⟨p, xs, i, z, rfl, rfl, hq, he, q⟩ := h
  cases rx
  obtain ⟨t, rfl⟩ := ry
  obtain ⟨its, r, pl, hz⟩ := I.tuple hq
  obtain ⟨j, h1, h2, h3, h4, h5⟩ := atI_get he
  obtain ⟨w, ew, rw'⟩ := r.get h2
  have hl := r.length
  have hn := line63
  have fin : EP X pins σ Q w s := ⟨z, H, I, rw', q⟩
  exact subscriptTail_builtinR (x := w) pl.typeIs slot_tuple_getitem.lookup
    (getItem_tuple (j := j) (Q := fun r s' => r = w ∧ EP X pins σ Q r s') pl (by omega) (by omega) (by rw [List.size_toArray, ← hl]; exact h1) (by simpa using ew) ⟨rfl, fin⟩) hs
theorem ix_str : IxR X rIxS := by
  intro value slice pins s σ H x y v u Q I rx ry h hs
  obtain ⟨z, i, c, rfl, rfl, hz, he, q⟩ := h
  obtain ⟨t, rfl⟩ := rx
  obtain ⟨t', rfl⟩ := ry
  obtain ⟨j, h1, h2, h3, h4, h5⟩ := atI_get he
  have hl : z.cps.toList.length = z.length := by simp [Str.length]
  rw [hl] at h1 h4 h5
  have hn := line63
  exact tail_any (typeIs_str s z t) slot_str_getitem.lookup (getItem_str (c := c) (by
    have e1 : decide (i < -(2 ^ 63 : Int)) = false := decide_eq_false (by omega)
    have e2 : decide (i ≥ 2 ^ 63) = false := decide_eq_false (by omega)
    rw [e1, e2, Bool.or_false]) (by rw [h1]; simpa using h2) ⟨.str ⟨#[c]⟩, H, I.tok _, ⟨_, rfl⟩, q⟩) hs
def rIx (K : PySem.W.Frag) : R2 := fun x y H Q => rIxL K x y H Q ∨ rIxT K x y H Q ∨ rIxS x y H Q
theorem ix_seq : IxR X (rIx X.K) := ix_list.or (ix_tup.or ix_str)
theorem Inv.lst {pins : List (Addr × Obj)} {σ : St} {H : Hp} {s : Shared} {p : Addr} {xs : List V} (I : Inv X pins σ H s) (h : H p = some (.lst xs)) :
    ∃ (its : List Value) (n : Nat), Vals xs its ∧ s.heap.get? p = some { cls := .type "list", data := .seq its.toArray n } ∧ xs.length ≤ sizeLine := by
  obtain ⟨z, its, n, r, e⟩ := I.hok p _ h
  exact ⟨its, n, r, e, z⟩
theorem slice_bounds (lo hi : Option Int) (n : Nat) : (sliceBounds lo hi none n).1 = ((HT.sIx n 0 lo : Nat) : Int) ∧ (sliceBounds lo hi none n).2.1 = ((HT.sIx n n hi : Nat) : Int) ∧ (sliceBounds lo hi none n).2.2 = 1 := by
  refine ⟨?_, ?_, rfl⟩
  · cases lo with
    | none => simp [sliceBounds, HT.sIx]
    | some i =>
      simp only [sliceBounds, HT.sIx, Option.getD_none, show (1 : Int) > 0 by decide, if_true]
      by_cases h : i < 0
      · simp only [h, if_true] <;> omega
      · simp only [h, if_false] <;> omega
  · cases hi with
    | none => simp [sliceBounds, HT.sIx]
    | some i =>
      simp only [sliceBounds, HT.sIx, Option.getD_none, show (1 : Int) > 0 by decide, if_true]
      by_cases h : i < 0
      · simp only [h, if_true] <;> omega
      · simp only [h, if_false] <;> omega
theorem slicePick_cut (its : List Value) (lo hi : Option Int) : slicePick its.toArray lo hi none = ((its.drop (HT.sIx its.length 0 lo)).take (HT.sIx its.length its.length hi - HT.sIx its.length 0 lo)).toArray := by
  obtain ⟨h1, h2, h3⟩ := slice_bounds lo hi its.toArray.size
  unfold slicePick
  rw [h1, h2, h3]
  simp only [sliceRange_one, pick_run, List.size_toArray] <;> rfl
def rSlL (K : PySem.W.Frag) : V → Option Int → Option Int → Hp → VK → Prop := fun x lo hi H Q => ∃ a xs, x = .ref a ∧ SqL K H a xs ∧ ∀ p, H p = none → Q (.ref p) (upd H p (.lst (cutV xs lo hi)))
theorem sl_list : SlR X (rSlL X.K) := by
  intro pins s σ H x v vl vu lo hi sl Q I rx hs pl pu h
  obtain ⟨a, xs, rfl, hx, q⟩ := h
  cases rx
  obtain ⟨its, r, ht, hz⟩ := I.list hx
  have hlen := r.length
  refine ⟨"list", _, slot_list_getitem.lookup, ht.isList.typeIs, ?_⟩
  refine wpAny_getItem_list_slice ht.isList hs pl pu .none (by simp) ?_ (by rw [List.size_toArray] <;> omega)
  rw [slicePick_cut, ← hlen]
  refine ⟨.ref s.heap.objs.size, _, I.laid (t' := s.toks) (o := .lst (cutV xs lo hi)) (fun b ob q => Heap.get?_push_of_some _ q) (Nat.le_refl _) ?_, rfl, q _ (I.hok.fresh (Nat.le_refl _))⟩
  exact ⟨Nat.le_trans (cutV_length xs lo hi) hz, _, 0, (r.drop (HT.sIx xs.length 0 lo)).take (HT.sIx xs.length xs.length hi - HT.sIx xs.length 0 lo), Heap.get?_push_size _ rfl⟩
def flatV : V → Bool
  | .non => true
  | .bl _ => true
  | .int _ => true
  | .str _ => true
  | _ => false
def eqV : V → V → Bool
  | .non, .non => true
  | .bl a, .bl b => a == b
  | .bl a, .int b => (if a then 1 else 0) == b
  | .int a, .bl b => a == (if b then 1 else 0)
  | .int a, .int b => a == b
  | .str a, .str b => a == b
  | _, _ => false
theorem eqAt_V {A : Around} {s : Shared} {y x : V} {u v : Value} (ry : RelV y u) (rx : RelV x v) (fy : flatV y = true) (fx : flatV x = true) : SeqAt.EqAt A s u v (eqV y x) := by
  cases y with
  | non =>
    cases ry
    cases x with
    | non => cases rx; exact SeqAt.EqAt.same _
    | bl b => cases rx; exact SeqAt.EqAt.none_bool b
    | int b => obtain ⟨t, rfl⟩ := rx; exact SeqAt.EqAt.none_int b t
    | str b => obtain ⟨t, rfl⟩ := rx; exact SeqAt.EqAt.none_str b t
    | _ => exact absurd (show false = true from fx) Bool.false_ne_true
  | bl a =>
    cases ry
    cases x with
    | non => cases rx; exact SeqAt.EqAt.bool_none a
    | bl b => cases rx; exact SeqAt.EqAt.bool_bool a b
    | int b => obtain ⟨t, rfl⟩ := rx; exact SeqAt.EqAt.bool_int a b t
    | str b => obtain ⟨t, rfl⟩ := rx; exact SeqAt.EqAt.bool_str a b t
    | _ => exact absurd (show false = true from fx) Bool.false_ne_true
  | int a =>
    obtain ⟨t', rfl⟩ := ry
    cases x with
    | non => cases rx; exact SeqAt.EqAt.int_none a t'
    | bl b => cases rx; exact SeqAt.EqAt.int_bool a t' b
    | int b => obtain ⟨t, rfl⟩ := rx; exact SeqAt.EqAt.int_int a t' b t
    | str b => obtain ⟨t, rfl⟩ := rx; exact SeqAt.EqAt.int_str a t' b t
    | _ => exact absurd (show false = true from fx) Bool.false_ne_true
  | str a =>
    obtain ⟨t', rfl⟩ := ry
    cases x with
    | non => cases rx; exact SeqAt.EqAt.str_none a t'
    | bl b => cases rx; exact SeqAt.EqAt.str_bool a t' b
    | int b => obtain ⟨t, rfl⟩ := rx; exact SeqAt.EqAt.str_int a t' b t
    | str b => obtain ⟨t, rfl⟩ := rx; exact SeqAt.EqAt.str_str a t' b t
    | _ => exact absurd (show false = true from fx) Bool.false_ne_true
  | _ => exact absurd (show false = true from fy) Bool.false_ne_true
def eqU (x : V) (u : Value) : Bool := match u with
  | .none => eqV .non x
  | .bool b => eqV (.bl b) x
  | .int i _ => eqV (.int i) x
  | .str z _ => eqV (.str z) x
  | _ => false
theorem eqU_of {x y : V} {u : Value} (r : RelV y u) (f : flatV y = true) : eqU x u = eqV y x := by
  cases y with
  | non => cases r; rfl
  | bl b => cases r; rfl
  | int i => obtain ⟨t, rfl⟩ := r; rfl
  | str z => obtain ⟨t, rfl⟩ := r; rfl
  | _ => exact absurd (show false = true from f) Bool.false_ne_true
theorem any_eqU {x : V} : ∀ {xs : List V} {us : List Value}, Vals xs us → xs.all flatV = true → us.any (eqU x) = xs.any fun y => eqV y x
  | _, _, .nil, _ => rfl
  | y :: xs, u :: us, .cons r t, f => by
    rw [List.all_cons, Bool.and_eq_true] at f
    rw [List.any_cons, List.any_cons, eqU_of r f.1, any_eqU t f.2]
theorem mem_eqAt {A : Around} {s : Shared} {x : V} {v : Value} (rx : RelV x v) (fx : flatV x = true) : ∀ {xs : List V} {us : List Value}, Vals xs us → xs.all flatV = true → ∀ u ∈ us, SeqAt.EqAt A s u v (eqU x u)
  | _, _, .nil, _ => fun u hu => by cases hu
  | y :: xs, u :: us, .cons r t, f => fun u' hu => by
    rw [List.all_cons, Bool.and_eq_true] at f
    rcases List.mem_cons.mp hu with rfl | hu
    · rw [eqU_of r f.1]; exact eqAt_V r rx f.1 fx
    · exact mem_eqAt rx fx t f.2 u' hu
def inV (x : V) (xs : List V) : Bool := xs.any fun y => eqV y x
def rIn (K : PySem.W.Frag) (neg : Bool) : R2 := fun x y H Q => ∃ p xs, y = .ref p ∧ (SqL K H p xs ∨ SqT K H p xs) ∧ flatV x = true ∧ xs.all flatV = true ∧ Q (.bl (if neg then !inV x xs else inV x xs)) H
theorem op_in_seq : OpR X (compareOp .In) (rIn X.K false) := by
  intro pins s σ H x y v u Q I rx ry h
  obtain ⟨p, xs, rfl, hq, fx, fs, q⟩ := h
  cases ry
  rcases hq with hq | hq
  · obtain ⟨its, r, pl, hz⟩ := I.list hq
    refine SeqAt.in_listAt (eqU x) pl.isList (fun w hw => mem_eqAt rx fx r fs w (by simpa using hw)) ⟨.bl _, H, I, rfl, ?_⟩
    rw [show its.toArray.any (eqU x) = its.any (eqU x) by simp, any_eqU r fs]
    exact q
  · obtain ⟨its, r, pl, hz⟩ := I.tuple hq
    refine SeqAt.in_tupleAt (eqU x) pl (fun w hw => mem_eqAt rx fx r fs w (by simpa using hw)) ⟨.bl _, H, I, rfl, ?_⟩
    rw [show its.toArray.any (eqU x) = its.any (eqU x) by simp, any_eqU r fs]
    exact q
theorem op_notIn_seq : OpR X (compareOp .NotIn) (rIn X.K true) := by
  intro pins s σ H x y v u Q I rx ry h
  obtain ⟨p, xs, rfl, hq, fx, fs, q⟩ := h
  cases ry
  rcases hq with hq | hq
  · obtain ⟨its, r, pl, hz⟩ := I.list hq
    refine SeqAt.notIn_listAt (eqU x) pl.isList (fun w hw => mem_eqAt rx fx r fs w (by simpa using hw)) ⟨.bl _, H, I, rfl, ?_⟩
    rw [show its.toArray.any (eqU x) = its.any (eqU x) by simp, any_eqU r fs]
    exact q
  · obtain ⟨its, r, pl, hz⟩ := I.tuple hq
    refine SeqAt.notIn_tupleAt (eqU x) pl (fun w hw => mem_eqAt rx fx r fs w (by simpa using hw)) ⟨.bl _, H, I, rfl, ?_⟩
    rw [show its.toArray.any (eqU x) = its.any (eqU x) by simp, any_eqU r fs]
    exact q
theorem CallR.or {f : Value} {r r' : List V → Hp → VK → Prop} (h : CallR X f r) (h' : CallR X f r') : CallR X f (fun xs H Q => r xs H Q ∨ r' xs H Q) := by
  intro pins s σ H xs us Q I rs q
  rcases q with q | q
  · exact h pins s σ H xs us Q I rs q
  · exact h' pins s σ H xs us Q I rs q
theorem call_tuple_of : CallR X (.type "tuple") (fun xs H Q => ∃ p ys, xs = [.ref p] ∧ ((SqL X.K H p ys ∧ ∀ l, H l = none → Q (.ref l) (upd H l (.tup ys))) ∨ (SqT X.K H p ys ∧ Q (.ref p) H))) := by
  intro pins s σ H xs us Q I r h
  obtain ⟨p, ys, rfl, h⟩ := h
  obtain ⟨u, rfl, rx⟩ := vals1 r
  cases rx
  rcases h with ⟨hq, q⟩ | ⟨hq, q⟩
  · obtain ⟨its, r', pl, hz⟩ := I.list hq
    have hlen := r'.length
    refine call_tuple_list pl.isList (fun h' kp => ?_) (by simp only [List.size_toArray] <;> omega)
    have I1 : Inv X pins σ H { s with heap := h' } := I.kept (t' := s.toks) kp
    have I2 : Inv X pins σ (upd H h'.objs.size (.tup ys)) { s with heap := h'.push { cls := .type "tuple", data := .seq its.toArray } } :=
      I1.laid (t' := s.toks) (fun b o e => Heap.get?_push_of_some _ e) (Nat.le_refl _) (show ObjOk X.prog X.w _ _ _ (.tup ys) from ⟨hz, its, r', IsTup.new _ _⟩)
    exact ⟨.ref h'.objs.size, _, I2, rfl, q _ (I1.hok.fresh (Nat.le_refl _))⟩
  · obtain ⟨its, r', pl, hz⟩ := I.tuple hq
    exact call_tuple_same pl ⟨.ref p, H, I, rfl, q⟩
def tyV (K : PySem.W.Frag) (T : String) (x : V) (H : Hp) : Prop := match x with
  | .str _ => T = "str"
  | .int _ => T = "int"
  | .ref p => (T = "list" ∧ ∃ xs, SqL K H p xs) ∨ (T = "tuple" ∧ ∃ o, K.lookup p = some o ∧ o.cls = .type "tuple" ∧ o.dict = none) ∨
      (T = "dict" ∧ ((∃ kvs, H p = some (.dK kvs)) ∨ ∃ kvs, H p = some (.dT kvs))) ∨ (T = "set" ∧ ∃ S n, H p = some (.set S n))
  | _ => False
theorem tyV_is {pins : List (Addr × Obj)} {σ : St} {H : Hp} {s : Shared} {T : String} {x : V} {v : Value} (I : Inv X pins σ H s) (r : RelV x v) (ty : tyV X.K T x H) :
    s.TypeIs v T ∧ ∀ a, v = .ref a → ∃ ob, s.heap.get? a = some ob ∧ ob.dict = none := by
  cases x with
  | str z =>
    obtain ⟨t, rfl⟩ := r
    cases (show T = "str" from ty)
    exact ⟨typeIs_str s z t, fun _ e => nomatch e⟩
  | int i =>
    obtain ⟨t, rfl⟩ := r
    cases (show T = "int" from ty)
    exact ⟨typeIs_int s i t, fun _ e => nomatch e⟩
  | ref p =>
    cases r
    rcases ty with ⟨rfl, xs, hq⟩ | ⟨rfl, o, hk, hc, hd⟩ | ⟨rfl, hk⟩ | ⟨rfl, S, n, hk⟩
    · obtain ⟨its, _, pl, _⟩ := I.list hq
      refine ⟨pl.isList.typeIs, fun a e => ?_⟩
      cases e
      obtain ⟨o, n, e, c, hd, _⟩ := pl
      exact ⟨o, e, hd⟩
    · refine ⟨⟨o, I.kIn p o hk, hc⟩, fun a e => ?_⟩
      cases e
      exact ⟨o, I.kIn _ o hk, hd⟩
    · have z : ∃ o, s.heap.get? p = some o ∧ o.ExactDict := by
        rcases hk with ⟨kvs, hk⟩ | ⟨kvs, hk⟩
        · obtain ⟨_, _, _, _, o, _, _, e, ex, _⟩ := I.hok p _ hk
          exact ⟨o, e, ex⟩
        · obtain ⟨_, _, _, _, o, _, _, e, ex, _⟩ := I.hok p _ hk
          exact ⟨o, e, ex⟩
      obtain ⟨o, e, ex⟩ := z
      refine ⟨⟨o, e, ex.1⟩, fun a e2 => ?_⟩
      cases e2
      exact ⟨o, e, ex.2.1⟩
    · obtain ⟨o, _, _, _, e, ex, _⟩ := I.hok p _ hk
      refine ⟨⟨o, e, ex.1⟩, fun a e2 => ?_⟩
      cases e2
      exact ⟨o, e, ex.2.1⟩
  | _ => exact False.elim ty
def tBM0 (K : PySem.W.Frag) (T : String) (r : V → List V → Hp → VK → Prop) (to : TE) : TE := fun σ H Q => to σ H fun x H1 => tyV K T x H1 ∧ r x [] H1 Q
def tBM (K : PySem.W.Frag) (T : String) (r : V → List V → Hp → VK → Prop) (to : TE) (t : TA) : TE := fun σ H Q => to σ H fun x H1 => tyV K T x H1 ∧ t σ H1 fun xs H2 => r x xs H2 Q
variable {o e : Expr} {es : List Expr} {to : TE} {t : TA} {name : Str} {apos cpos : Pos} {T id : String} {r : V → List V → Hp → VK → Prop}
theorem pe_bm0 (pa : PlainAttrs T) (slot : Slot T name id) (hty : typeOf (.builtin id) = pure (.type "method_descriptor")) (hm : MtR X id r) (ho : PE X o to)
    (hbase : attributeBase o name X.env (eval o X.env) = eval o X.env := by rfl) (hline : (apos.endLine == cpos.line) = true := by rfl) : PE X (.Call (.Attribute o name apos) [] [] cpos) (tBM0 X.K T r to) := by
  intro pins s σ H Q I h
  refine wpAny_Call_method0_late hbase hline (thn (ho pins s σ H _ I h) fun v s1 ⟨x, H1, I1, r1, ty, q1⟩ => ?_)
  obtain ⟨h1, h2⟩ := tyV_is I1 r1 ty
  exact ⟨T, id, pa, slot, hty, h1, h2, Calls.callWith_builtin rfl (PySem.evalArgs_none (hm pins s1 σ H1 x [] v [] Q I1 r1 .nil q1))⟩
theorem pe_bm (pa : PlainAttrs T) (slot : Slot T name id) (hty : typeOf (.builtin id) = pure (.type "method_descriptor")) (hm : MtR X id r) (ho : PE X o to) (ha : PA X (e :: es) t)
    (hbase : attributeBase o name X.env (eval o X.env) = eval o X.env := by rfl)
    (hfew : ((backTo cpos (starEach (e :: es) X.env)).all (fun x => !x.1) && (backToKw cpos (keywordEach [] X.env)).all (fun x => x.1.isSome)
      && decide ((e :: es).length + ([] : List Keyword).length + (if ([] : List Keyword).isEmpty then 0 else 1) < 30)) = true := by rfl)
    (hline : (apos.endLine == cpos.line) = true := by rfl) (hs : starEach (e :: es) X.env = (false, eval e X.env) :: starEach es X.env := by rfl) (hplain : (backTo cpos (starEach es X.env)).any (·.1) = false := by rfl) :
    PE X (.Call (.Attribute o name apos) (e :: es) [] cpos) (tBM X.K T r to t) := by
  intro pins s σ H Q I h
  refine wpAny_Call_method_late hbase hfew hline rfl (thn (ho pins s σ H _ I h) fun v s1 ⟨x, H1, I1, r1, ty, q1⟩ => ?_)
  obtain ⟨h1, h2⟩ := tyV_is I1 r1 ty
  refine ⟨T, id, pa, slot, hty, h1, h2, ?_⟩
  have hA := ha cpos pins s1 σ H1 _ I1 q1
  rw [hs] at hA ⊢
  refine Calls.callWith_builtin (by show (false || (backTo cpos (starEach es X.env)).any (·.1)) = false; rw [hplain] <;> rfl) (Calls.evalArgs_plain ?_)
  exact thn hA fun us s2 ⟨vs, H2, I2, r2, q2⟩ => hm pins s2 σ H2 x vs v us Q I2 r1 r2 q2
end
end L2
namespace L2
open PySem PySem.Spec PyProof.Rows
def MtM (X : Cx) (id : String) (r : V → List V → Hp → VK → Prop) : Prop :=
  ∀ (pins : List (Addr × Obj)) (s : Shared) (σ : St) (H : Hp) (x : V) (xs : List V) (v : Value) (us : List Value) (Q : VK), Inv X pins σ H s → RelV x v → Vals xs us → r x xs H Q →
    wpAny (model X.prog X.w) X.A (call (.builtin id) (v :: us)) (EP X pins σ Q) X.xe s
theorem Vals.one : ∀ {x : V} {us : List Value}, Vals [x] us → ∃ u, us = [u] ∧ RelV x u
  | _, _, .cons r .nil => ⟨_, rfl, r⟩
theorem Vals.two : ∀ {x y : V} {us : List Value}, Vals [x, y] us → ∃ u v, us = [u, v] ∧ RelV x u ∧ RelV y v
  | _, _, _, .cons r (.cons q .nil) => ⟨_, _, rfl, r, q⟩
theorem Vals.zero : ∀ {us : List Value}, Vals [] us → us = []
  | _, .nil => rfl
theorem Vals.dropLast {xs : List V} {us : List Value} (h : Vals xs us) : Vals xs.dropLast us.dropLast := by
  induction h with
  | nil => exact .nil
  | cons r t ih =>
    cases t with
    | nil => exact .nil
    | cons q t' => exact .cons r ih
theorem Vals.eraseIdx : ∀ {xs : List V} {us : List Value} (i : Nat), Vals xs us → Vals (xs.eraseIdx i) (us.eraseIdx i)
  | _, _, _, .nil => .nil
  | _, _, 0, .cons _ t => t
  | _, _, i + 1, .cons r t => .cons r (Vals.eraseIdx i t)
theorem Vals.reverse {xs : List V} {us : List Value} (h : Vals xs us) : Vals xs.reverse us.reverse := by
  induction h with
  | nil => exact .nil
  | cons r t ih => rw [List.reverse_cons, List.reverse_cons]; exact Vals.append ih (.cons r .nil)
theorem erase_last {α : Type} (l : List α) : l.eraseIdx (l.length - 1) = l.dropLast := by
  induction l with
  | nil => rfl
  | cons a r ih =>
    cases r with
    | nil => rfl
    | cons b r =>
      have e : (a :: b :: r).length - 1 = ((b :: r).length - 1) + 1 := by
        have h1 : (a :: b :: r).length = r.length + 2 := rfl
        have h2 : (b :: r).length = r.length + 1 := rfl
        omega
      rw [e, List.eraseIdx_cons_succ, ih]
      all_goals rfl
section
variable {X : Cx} {pins : List (Addr × Obj)} {σ : St} {H : Hp} {s : Shared} {l b : Addr} {xs ys zs : List V}
theorem Inv.lset {its its' : List Value} {n : Nat} {f : Array Value → Array Value} {t' : Nat} (I : Inv X pins σ H s) (hH : H l = some (.lst xs))
    (e : s.heap.get? l = some { cls := .type "list", data := .seq its.toArray n }) (hf : f its.toArray = its'.toArray) (hv : Vals ys its') (hz : ys.length ≤ sizeLine) :
    Inv X pins σ (upd H l (.lst ys)) { s with heap := s.heap.update l (Obj.mapSeq f), toks := t' } := by
  have q := PySem.IsL.update e f
  rw [hf] at q
  refine I.write (x := l) (e := l) (by rw [hH]; exact trivial) (.inl rfl) (fun b' u hb hu => (Heap.get?_update_other s.heap (Obj.mapSeq f) (Ne.symm hb)).trans hu) ⟨_, q⟩ ?_
  exact ⟨hz, its', _, hv, q⟩
theorem Inv.lnew {its : List Value} {t' : Nat} (I : Inv X pins σ H s) (hv : Vals ys its) (hz : ys.length ≤ sizeLine) :
    Inv X pins σ (upd H s.heap.objs.size (.lst ys)) { s with heap := s.heap.push { cls := .type "list", data := .seq its.toArray }, toks := t' } :=
  I.laid (fun _ _ q => Heap.get?_push_of_some _ q) (Nat.le_refl _) ⟨hz, its, 0, hv, Heap.get?_push_size _ rfl⟩
theorem Inv.fresh (I : Inv X pins σ H s) : H s.heap.objs.size = none := I.hok.fresh (Nat.le_refl _)
theorem Inv.lstM (I : Inv X pins σ H s) (hH : H l = some (.lst xs)) : xs.length ≤ sizeLine ∧ ∃ (its : List Value) (n : Nat), Vals xs its ∧ xs.length = its.length ∧ s.heap.get? l = some { cls := .type "list", data := .seq its.toArray n } := by
  obtain ⟨z, its, n, r, e⟩ := I.hok l _ hH
  exact ⟨z, its, n, r, r.length, e⟩
theorem notLongL {n : Nat} (h : n ≤ sizeLine) : Builtin.List.listTooLong n = false := by
  unfold Builtin.List.listTooLong
  exact decide_eq_false (by omega)
end
section
variable {X : Cx}
def rAppend : V → List V → Hp → VK → Prop := fun x vs H Q => ∃ l xs y, x = .ref l ∧ vs = [y] ∧ H l = some (.lst xs) ∧ xs.length < sizeLine ∧ Q .non (upd H l (.lst (xs ++ [y])))
theorem mt_append : MtM X "list.append" rAppend := by
  intro pins s σ H x vs v us Q I rx rv h
  obtain ⟨l, xs, y, rfl, rfl, hH, hz, q⟩ := h
  cases rx
  obtain ⟨u, rfl, ru⟩ := rv.one
  obtain ⟨z, its, n, r, hl, e⟩ := I.lstM hH
  refine call_meets F.slot_list_append ⟨_, e, rfl⟩ F.entry_list_append (F.args_list_append_2 _ _) (PySem.list_append l its.toArray n u (by rw [List.size_toArray]; omega)) ⟨e, ?_⟩
  refine ⟨.non, _, I.lset (its' := its ++ [u]) hH e (by simp) (r.append (.cons ru .nil)) ?_, rfl, q⟩
  rw [List.length_append, List.length_singleton]
  omega
def rExtend : V → List V → Hp → VK → Prop := fun x vs H Q => ∃ l b xs zs, x = .ref l ∧ vs = [.ref b] ∧ H l = some (.lst xs) ∧ H b = some (.lst zs) ∧ xs.length + zs.length ≤ sizeLine ∧ Q .non (upd H l (.lst (xs ++ zs)))
theorem mt_extend : MtM X "list.extend" rExtend := by
  intro pins s σ H x vs v us Q I rx rv h
  obtain ⟨l, b, xs, zs, rfl, rfl, hH, hB, hz, q⟩ := h
  cases rx
  obtain ⟨u, rfl, ru⟩ := rv.one
  cases ru
  obtain ⟨z, its, n, r, hl, e⟩ := I.lstM hH
  obtain ⟨z2, its2, n2, r2, hl2, e2⟩ := I.lstM hB
  have hsz : its.toArray.size + its2.toArray.size ≤ sizeLine := by rw [List.size_toArray, List.size_toArray]; omega
  have hlong : ¬ (!its.toArray.isEmpty && Builtin.List.listTooLong (its.toArray.size + its2.toArray.size)) = true := by
    rw [notLongL hsz, Bool.and_false]
    exact Bool.false_ne_true
  refine call_meets F.slot_list_extend ⟨_, e, rfl⟩ F.entry_list_extend (F.args_list_extend_2 _ _)
    (AutoSeq1.list_extend_list_list_0 l its.toArray n b its2.toArray n2 hlong (by rw [List.size_toArray]; omega) (by omega)) ⟨e, e2, ?_⟩
  refine ⟨.non, _, I.lset (its' := its ++ its2) hH e (by simp) (r.append r2) ?_, rfl, q⟩
  rw [List.length_append]
  omega
def rPop : V → List V → Hp → VK → Prop := fun x vs H Q => ∃ l xs y, x = .ref l ∧ vs = [] ∧ H l = some (.lst xs) ∧ xs[xs.length - 1]? = some y ∧ Q y (upd H l (.lst xs.dropLast))
theorem mt_pop : MtM X "list.pop" rPop := by
  intro pins s σ H x vs v us Q I rx rv h
  obtain ⟨l, xs, y, rfl, rfl, hH, hy, q⟩ := h
  cases rx
  have hus := rv.zero
  subst hus
  obtain ⟨z, its, n, r, hl, e⟩ := I.lstM hH
  obtain ⟨u, hu, ru⟩ := r.get hy
  have hy' : its.toArray[its.toArray.size - 1]? = some u := by
    show its.toArray[its.length - 1]? = some u
    rw [← Array.getElem?_toList, ← hl]
    exact hu
  refine call_meets F.slot_list_pop ⟨_, e, rfl⟩ F.entry_list_pop (F.args_list_pop_1 _) (MeetsSeq.list_pop_last l its.toArray n u hy' (by rw [List.size_toArray]; omega)) ⟨e, ?_⟩
  refine ⟨y, _, I.lset (its' := its.dropLast) hH e ?_ r.dropLast ?_, ru, q⟩
  · show its.toArray.eraseIdxIfInBounds (its.toArray.size - 1) = its.dropLast.toArray
    rw [List.size_toArray, List.eraseIdxIfInBounds_toArray, erase_last]
  · rw [List.length_dropLast]
    omega
def rClear : V → List V → Hp → VK → Prop := fun x vs H Q => ∃ l xs, x = .ref l ∧ vs = [] ∧ H l = some (.lst xs) ∧ Q .non (upd H l (.lst []))
theorem mt_clear : MtM X "list.clear" rClear := by
  intro pins s σ H x vs v us Q I rx rv h
  obtain ⟨l, xs, rfl, rfl, hH, q⟩ := h
  cases rx
  have hus := rv.zero
  subst hus
  obtain ⟨z, its, n, r, hl, e⟩ := I.lstM hH
  refine call_meets F.slot_list_clear ⟨_, e, rfl⟩ F.entry_list_clear (F.args_list_clear_1 _) (AutoSeq1.list_clear_list_0 l its.toArray n (by rw [List.size_toArray]; omega)) ⟨e, ?_⟩
  exact ⟨.non, _, I.lset (its' := []) (ys := []) hH e rfl .nil (Nat.zero_le _), rfl, q⟩
def rCat : R2 := fun x y H Q => ∃ l b xs zs, x = .ref l ∧ y = .ref b ∧ H l = some (.lst xs) ∧ H b = some (.lst zs) ∧ xs.length + zs.length ≤ sizeLine ∧ ∀ p, H p = none → Q (.ref p) (upd H p (.lst (xs ++ zs)))
theorem op_cat : OpR X (binaryOp .Add) rCat := by
  intro pins s σ H x y v u Q I rx ry h
  obtain ⟨l, b, xs, zs, rfl, rfl, hH, hB, hz, q⟩ := h
  cases rx
  cases ry
  obtain ⟨z, its, n, r, hl, e⟩ := I.lstM hH
  obtain ⟨z2, its2, n2, r2, hl2, e2⟩ := I.lstM hB
  refine PySem.P.add_list e e2 ?_ (by rw [List.size_toArray, List.size_toArray]; omega)
  have ea : its.toArray ++ its2.toArray = (its ++ its2).toArray := by simp
  rw [ea]
  exact ⟨.ref _, _, I.lnew (t' := s.toks) (r.append r2) (by rw [List.length_append]; omega), rfl, q _ I.fresh⟩
end
section
variable {prog : Program} {w : World} {A : Around} {E : Value → Shared → Prop} {s : Shared}
end
section
variable {X : Cx}
end
end L2
namespace L2
open PySem PySem.Spec PyProof.Rows
section
variable {κ : Type} [DecidableEq κ]
def valV (kvs : List (κ × V)) (k : κ) : Option V := (kvs.find? fun kv => decide (kv.1 = k)).map (·.2)
def putK (kvs : List (κ × V)) (k : κ) (v : V) : List (κ × V) :=
  if (kvs.any fun kv => decide (kv.1 = k)) = true then kvs.map (fun kv => if kv.1 = k then (kv.1, v) else kv) else kvs ++ [(k, v)]
def dropK (kvs : List (κ × V)) (k : κ) : List (κ × V) := kvs.filter fun kv => decide (kv.1 ≠ k)
theorem valV_pos {p : κ × V} {r : List (κ × V)} {k : κ} (e : p.1 = k) : valV (p :: r) k = some p.2 := by simp [valV, List.find?_cons, e]
theorem valV_neg {p : κ × V} {r : List (κ × V)} {k : κ} (e : ¬ p.1 = k) : valV (p :: r) k = valV r k := by simp [valV, List.find?_cons, e]
theorem valV_any (k : κ) : ∀ kvs : List (κ × V), (kvs.any fun kv => decide (kv.1 = k)) = (valV kvs k).isSome
  | [] => rfl
  | p :: r => by
    rw [List.any_cons]
    by_cases e : p.1 = k
    · simp only [valV_pos e, decide_eq_true e, Bool.true_or, Option.isSome_some]
    · rw [valV_neg e, decide_eq_false e, Bool.false_or]; exact valV_any k r
theorem RelO.isSome_eq {o : Option V} {u : Option Value} (r : RelO o u) : o.isSome = u.isSome := by
  cases o with
  | none => cases u with
    | none => rfl
    | some _ => exact (show False from r).elim
  | some _ => cases u with
    | none => exact (show False from r).elim
    | some _ => rfl
theorem RelO.getD {o : Option V} {u : Option Value} {d : V} {d' : Value} (r : RelO o u) (rd : RelV d d') : RelV (o.getD d) (u.getD d') := by
  cases o with
  | none => cases u with
    | none => exact rd
    | some _ => exact (show False from r).elim
  | some _ => cases u with
    | none => exact (show False from r).elim
    | some _ => exact r
theorem KV.val {kvs : List (κ × V)} {vs : List (κ × Value)} (r : KV kvs vs) (k : κ) : RelO (valV kvs k) (valueAt vs k) := by
  unfold KV at r
  induction r with
  | nil => exact True.intro
  | @cons p q ps qs h t ih =>
    obtain ⟨h1, h2⟩ := h
    by_cases e : p.1 = k
    · have e' : q.1 = k := h1.symm.trans e
      have b : valueAt (q :: qs) k = some q.2 := by simp [valueAt, List.find?_cons, e']
      rw [valV_pos e, b]; exact h2
    · have e' : ¬ q.1 = k := fun z => e (h1.trans z)
      have b : valueAt (q :: qs) k = valueAt qs k := by simp [valueAt, List.find?_cons, e']
      rw [valV_neg e, b]; exact ih
theorem KV.any {kvs : List (κ × V)} {vs : List (κ × Value)} (r : KV kvs vs) (k : κ) : (kvs.any fun kv => decide (kv.1 = k)) = vs.any fun kv => decide (kv.1 = k) := by
  unfold KV at r
  induction r with
  | nil => rfl
  | cons h t ih => rw [List.any_cons, List.any_cons, ih, h.1]
theorem KV.repl {kvs : List (κ × V)} {vs : List (κ × Value)} (r : KV kvs vs) (k : κ) {y : V} {u : Value} (ry : RelV y u) :
    KV (kvs.map fun kv => if kv.1 = k then (kv.1, y) else kv) (vs.map fun kv => if kv.1 = k then (kv.1, u) else kv) := by
  unfold KV at r ⊢
  induction r with
  | nil => exact .nil
  | @cons p q ps qs h t ih =>
    rw [List.map_cons, List.map_cons]
    refine .cons ?_ ih
    obtain ⟨h1, h2⟩ := h
    by_cases e : p.1 = k
    · rw [if_pos e, if_pos (h1.symm.trans e)]; exact ⟨h1, ry⟩
    · rw [if_neg e, if_neg (fun z => e (h1.trans z))]; exact ⟨h1, h2⟩
theorem KV.put {kvs : List (κ × V)} {vs : List (κ × Value)} (r : KV kvs vs) (k : κ) {y : V} {u : Value} (ry : RelV y u) : KV (putK kvs k y) (stored vs k u) := by
  unfold putK stored
  rw [r.any k]
  by_cases e : (vs.any fun kv => decide (kv.1 = k)) = true
  · rw [if_pos e, if_pos e]; exact r.repl k ry
  · rw [if_neg e, if_neg e]; exact Paired.snoc r ⟨rfl, ry⟩
theorem KV.drop {kvs : List (κ × V)} {vs : List (κ × Value)} (r : KV kvs vs) (k : κ) : KV (dropK kvs k) (without vs k) := by
  unfold KV at r ⊢
  unfold dropK without
  induction r with
  | nil => exact .nil
  | @cons p q ps qs h t ih =>
    obtain ⟨h1, h2⟩ := h
    rw [List.filter_cons, List.filter_cons]
    by_cases e : p.1 = k
    · have a : ¬ decide (p.1 ≠ k) = true := by simp [e]
      have b : ¬ decide (q.1 ≠ k) = true := by simp [h1.symm.trans e]
      rw [if_neg a, if_neg b]; exact ih
    · have e' : ¬ q.1 = k := fun z => e (h1.trans z)
      have a : decide (p.1 ≠ k) = true := by simp [e]
      have b : decide (q.1 ≠ k) = true := by simp [e']
      rw [if_pos a, if_pos b]; exact .cons ⟨h1, h2⟩ ih
theorem KV.keys {kvs : List (κ × V)} {vs : List (κ × Value)} (r : KV kvs vs) : kvs.map (·.1) = vs.map (·.1) := by
  unfold KV at r
  induction r with
  | nil => rfl
  | cons h t ih => rw [List.map_cons, List.map_cons, ih, h.1]
theorem KV.length {kvs : List (κ × V)} {vs : List (κ × Value)} (r : KV kvs vs) : kvs.length = vs.length := Paired.length r
end
abbrev KT (H : Hp) : List (List Key × V) → List (List Key × Addr × Value) → Prop := Paired fun p q => p.1 = q.1 ∧ H q.2.1 = some (.tup (p.1.map kV)) ∧ RelV p.2 q.2.2
theorem KT.val {H : Hp} {kvs : List (List Key × V)} {xs : List (List Key × Addr × Value)} (r : KT H kvs xs) (k : List Key) : RelO (valV kvs k) ((atKey xs k).map (·.2)) := by
  induction r with
  | nil => exact True.intro
  | @cons p q ps qs h t ih =>
    obtain ⟨h1, _, h2⟩ := h
    by_cases e : p.1 = k
    · have e' : q.1 = k := h1.symm.trans e
      have b : atKey (q :: qs) k = some q.2 := by simp [atKey, List.find?_cons, e']
      rw [valV_pos e, b]; exact h2
    · have e' : ¬ q.1 = k := fun z => e (h1.trans z)
      have b : atKey (q :: qs) k = atKey qs k := by simp [atKey, List.find?_cons, e']
      rw [valV_neg e, b]; exact ih
theorem KT.repl {H : Hp} {kvs : List (List Key × V)} {xs : List (List Key × Addr × Value)} (r : KT H kvs xs) (k : List Key) {y : V} {u : Value} (ry : RelV y u) :
    KT H (kvs.map fun kv => if kv.1 = k then (kv.1, y) else kv) (xs.map (putAt k u)) := by
  induction r with
  | nil => exact .nil
  | @cons p q ps qs h t ih =>
    rw [List.map_cons, List.map_cons]
    refine .cons ?_ ih
    obtain ⟨h1, h2, h3⟩ := h
    unfold putAt
    by_cases e : p.1 = k
    · rw [if_pos e, if_pos (h1.symm.trans e)]; exact ⟨h1, h2, ry⟩
    · rw [if_neg e, if_neg (fun z => e (h1.trans z))]; exact ⟨h1, h2, h3⟩
theorem KT.put {H : Hp} {kvs : List (List Key × V)} {xs : List (List Key × Addr × Value)} (r : KT H kvs xs) (k : List Key) {b : Addr} {y : V} {u : Value} (hb : H b = some (.tup (k.map kV))) (ry : RelV y u) :
    KT H (putK kvs k y) (storedH xs k b u) := by
  have e : (kvs.any fun kv => decide (kv.1 = k)) = (atKey xs k).isSome := by
    rw [valV_any, (r.val k).isSome_eq, Option.isSome_map]
  unfold putK storedH
  rw [e]
  by_cases q : (atKey xs k).isSome = true
  · rw [if_pos q, if_pos q]; exact r.repl k ry
  · rw [if_neg q, if_neg q]; exact Paired.snoc r ⟨rfl, hb, ry⟩
theorem KT.keeps {H H' : Hp} {kvs : List (List Key × V)} {xs : List (List Key × Addr × Value)} (r : KT H kvs xs) (ht : ∀ b ys, H b = some (.tup ys) → H' b = some (.tup ys)) : KT H' kvs xs :=
  Paired.mapP r fun _ _ z => ⟨z.1, ht _ _ z.2.1, z.2.2⟩
section
variable {P : Program} {w : World} {H : Hp} {h : Heap} {a : Addr}
end
def DGet (H : Hp) (a : Addr) (y : V) (r : Option V) : Prop :=
  (∃ kvs k, Rd H a (.dK kvs) ∧ y = kV k ∧ r = valV kvs k) ∨ ∃ kvs k b, Rd H a (.dT kvs) ∧ y = .ref b ∧ H b = some (.tup (k.map kV)) ∧ r = valV kvs k
def DPut (H : Hp) (a : Addr) (y v : V) (H' : Hp) : Prop :=
  (∃ kvs k, H a = some (.dK kvs) ∧ y = kV k ∧ kvs.length < sizeLine ∧ H' = upd H a (.dK (putK kvs k v))) ∨
  ∃ kvs k b, H a = some (.dT kvs) ∧ y = .ref b ∧ H b = some (.tup (k.map kV)) ∧ kvs.length < sizeLine ∧ H' = upd H a (.dT (putK kvs k v))
theorem DGet.k {H : Hp} {a : Addr} {kvs : List (Key × V)} {k : Key} (e : H a = some (.dK kvs)) : DGet H a (kV k) (valV kvs k) := .inl ⟨kvs, k, .inl e, rfl, rfl⟩
theorem DGet.t {H : Hp} {a b : Addr} {kvs : List (List Key × V)} {k : List Key} (e : H a = some (.dT kvs)) (eb : H b = some (.tup (k.map kV))) : DGet H a (.ref b) (valV kvs k) := .inr ⟨kvs, k, b, .inl e, rfl, eb, rfl⟩
theorem DPut.k {H : Hp} {a : Addr} {kvs : List (Key × V)} {k : Key} {v : V} (e : H a = some (.dK kvs)) (hl : kvs.length < sizeLine) : DPut H a (kV k) v (upd H a (.dK (putK kvs k v))) := .inl ⟨kvs, k, e, rfl, hl, rfl⟩
theorem DPut.t {H : Hp} {a b : Addr} {kvs : List (List Key × V)} {k : List Key} {v : V} (e : H a = some (.dT kvs)) (eb : H b = some (.tup (k.map kV))) (hl : kvs.length < sizeLine) :
    DPut H a (.ref b) v (upd H a (.dT (putK kvs k v))) := .inr ⟨kvs, k, b, e, rfl, eb, hl, rfl⟩
section
variable {X : Cx} {pins : List (Addr × Obj)} {σ : St} {H : Hp} {s : Shared} {a : Addr} {y v : V} {u r : Value} {o : Option V} {A : Around} {E : Value → Shared → Prop}
end
section
variable {X : Cx} {pins : List (Addr × Obj)} {σ : St} {H : Hp} {s : Shared} {a : Addr} {kvs : List (Key × V)} {k : Key} {u : Value} {A : Around} {E : Value → Shared → Prop}
end
def NoSl (i : Expr) : Prop := ∀ ov iv, subscripted i false ov iv = operate [ov, iv] (getItem ov iv)
theorem subD_of {prog : Program} {w : World} {A : Around} {E : Value → Shared → Prop} {s : Shared} {env : Env} {value slice : Expr} {pos : Pos} {T id : String} {Q : Value → Shared → Prop}
    (hl : typeLookup (.type T) "__getitem__" = pure (some (.builtin id))) (hs : NoSl slice)
    (h : wpAny (model prog w) A (eval value env) (fun o s₁ => wpAny (model prog w) A (eval slice env) (fun i s₂ => s₂.TypeIs o T ∧ wpAny (model prog w) A (getItem o i) Q E s₂) E s₁) E s) :
    wpAny (model prog w) A (eval (.Subscript value slice pos) env) Q E s := by
  refine Subscript_ (wpAny_mono h (fun o s₁ h₁ => wpAny_mono h₁ (fun i s₂ h₂ => ?_) fun _ _ x => x) fun _ _ x => x)
  obtain ⟨hT, h₂⟩ := h₂
  unfold subscriptTail
  refine wpAny_bind ?_
  rw [getitemInPython_of_ne hT.not_modules]
  refine wpAny_bind (wpAny_specialOf hT hl ?_)
  have fin : wpAny (model prog w) A (subscripted slice false o i) (fun r s₃ => wpAny (model prog w) A (letTemporaryGo value o r >>= fun _ => pure r) Q E s₃) E s₂ := by
    rw [hs o i]
    exact wpAny_operating (wpAny_mono h₂ (fun r s₃ h₃ => wpAny_bind (wpAny_letTemporaryGo (wpAny_pure h₃))) fun _ _ x => x)
  first
    | exact wpAny_pure (wpAny_bind fin)
    | exact wpAny_bind (wpAny_pure (wpAny_bind fin))
    | exact wpAny_bind fin
section
variable {X : Cx} {o i e value : Expr} {pos pos' tpos : Pos} {td ty tv : TE}
end
section
variable {X : Cx} {pos : Pos}
end
structure M1 (X : Cx) (o : Expr) (m : Str) (apos : Pos) (e : Expr) (cpos : Pos) : Prop where
  base : attributeBase o m X.env (eval o X.env) = eval o X.env
  few : ((backTo cpos (starEach [e] X.env)).all (fun x => !x.1) && (backToKw cpos (keywordEach [] X.env)).all (fun x => x.1.isSome)
    && decide (([e] : List Expr).length + ([] : List Keyword).length + (if ([] : List Keyword).isEmpty then 0 else 1) < 30)) = true
  line : (apos.endLine == cpos.line) = true
  trees : backTo cpos (starEach [e] X.env) = [(false, eval e X.env)]
structure M2 (X : Cx) (o : Expr) (m : Str) (apos : Pos) (e f : Expr) (cpos : Pos) : Prop where
  base : attributeBase o m X.env (eval o X.env) = eval o X.env
  few : ((backTo cpos (starEach [e, f] X.env)).all (fun x => !x.1) && (backToKw cpos (keywordEach [] X.env)).all (fun x => x.1.isSome)
    && decide (([e, f] : List Expr).length + ([] : List Keyword).length + (if ([] : List Keyword).isEmpty then 0 else 1) < 30)) = true
  line : (apos.endLine == cpos.line) = true
  trees : backTo cpos (starEach [e, f] X.env) = [(false, eval e X.env), (false, eval f X.env)]
section
variable {X : Cx} {pins : List (Addr × Obj)} {σ : St} {H : Hp} {s : Shared} {a : Addr} {y d : V} {u r : Value} {o : Option V} {A : Around} {E : Value → Shared → Prop}
end
section
variable {X : Cx} {o e f : Expr} {apos cpos : Pos} {td ty tx : TE}
end
section
variable {X : Cx} {pins : List (Addr × Obj)} {σ : St} {H : Hp} {s : Shared} {a : Addr} {kvs : List (Key × V)} {A : Around} {E : Value → Shared → Prop}
end
section
variable {X : Cx} {pins : List (Addr × Obj)} {σ : St} {H : Hp} {s : Shared} {a : Addr} {y : V} {u : Value} {A : Around} {E : Value → Shared → Prop}
end
end L2
namespace Att
open PySem PySem.W PySem.Calls PyProof.Rows
theorem ints_of_wellAll {P : Params} {h : Heap} : ∀ (ns : List Int) (vs : List Value), WellAll P h vs (ns.map WData.int) → IntsAre vs ns := by
  intro ns
  induction ns with
  | nil =>
    intro vs w
    rw [List.map_nil] at w
    cases w
    exact .nil
  | cons n ns ih =>
    intro vs w
    rw [List.map_cons] at w
    cases w with
    | cons a b =>
      cases a
      exact .cons _ _ (ih _ b)
theorem script_of {l : OpenLaw} {n : Nat} (hn : l.most = some n) {P : Params} {h : Heap} {args : List WData} {vals : List Value}
    (hpre : l.row.toRowW.claim.pre args = true) (hwl : WellAll P h vals args) :
    ∃ a vs ns, vals = [Value.ref a] ∧ args = [WData.list (ns.map WData.int)] ∧ h.get? a = some { cls := .type "list", data := .seq vs.toArray } ∧ IntsAre vs ns ∧ ns.length ≤ n := by
  have hsh : WShape.hasAll [] args [.list .int] = true := (pre_splitW hpre).1
  have hc : l.pre.holds [] { args := args } = true := (pre_splitW hpre).2
  obtain ⟨d, r, rfl, h1, h2⟩ := hasAllW_cons hsh
  obtain rfl := hasAllW_nil h2
  obtain ⟨xs, rfl, h3⟩ := hasW_list h1
  obtain ⟨ns, rfl⟩ := items_int h3
  have hlen : ns.length ≤ n := by
    unfold OpenLaw.pre at hc
    have h4 : (WTm.not (.lt (.lit (.int (n : Int))) (.len (.arg 0)))).holds [] { args := [.list (ns.map .int)] } = true := by
      have h4 := (holds_andW hc).1
      rw [hn] at h4
      exact h4
    have h5 := condW_of h4 (w_not (w_lt w_lit (w_len_list (w_arg rfl))))
    rw [List.length_map] at h5
    refine Nat.le_of_not_lt fun q => ?_
    have q' : (n : Int) < ((ns.length : Nat) : Int) := by omega
    first
      | (rw [decide_eq_true q'] at h5; exact absurd h5 (by decide))
      | (simp at h5; omega)
  cases hwl with
  | cons w1 w2 =>
    cases w2
    cases w1 with
    | list ho hall => exact ⟨_, _, ns, rfl, rfl, ho, ints_of_wellAll ns _ hall, hlen⟩
theorem post_true (l : OpenLaw) (args : List WData) : l.row.toRowW.claim.post args (.bool true) args = true :=
  postW_of (r := l.row.toRowW) (X := (true == true))
    (show WShape.has [] (.bool true) .bool = true by first | rfl | decide | simp [WShape.has, WShape.arms, WShape.armsAll])
    (show (WTm.eq .res (.lit (.bool true))).value [] { args := args, res := some (.bool true), after := args } = some (.bool (true == true)) from w_eq_bool (w_res rfl) w_lit) rfl
theorem attach_call {l : OpenLaw} {n : Nat} {q : Program} {loose : List Str} {XP : (Str → Option Value) → Heap → Prop} {YP : World → Heap → Prop} {d : DefRec}
    (hn : l.most = some n) (hdf : d.params.defaults = [])
    (call : ∀ (w : World) (s₀ s₁ : Shared) (mg mb : Str → Option Value) (fa : Addr) (o : Obj) (pm cd doc : Value) (a : Addr) (vs : List Value) (ns : List Int),
      Ground q loose [] XP w s₀ mg mb s₁.heap → YP w s₁.heap →
      s₁.heap.get? fa = some o → o.data = .func (docDef d.name d.params d.body d.scope pm cd doc) → s₁.heap.CodeRec cd d.name → mg d.name = some (.ref fa) →
      s₁.heap.get? a = some { cls := .type "list", data := .seq vs.toArray } → IntsAre vs ns → ns.length ≤ n → s₁.gens = #[] →
      codeAny (model l.prog w) callerA (.call (.ref fa) ⟨[.ref a], []⟩) (fun r s' => r = .ok (.ret (.bool true)) ∧ OldK s₁.heap s'.heap ∧ s'.os = s₁.os ∧ AllBare s'.gens) s₁) :
    WalkO q loose XP YP l.row.toRowW d [] (fun f vs => PySem.call f vs) := by
  intro w s₀ s₁ mg mb G Y fa o pm cd doc dV kV ho hd hcd hD hmg hg args vals as hpre hlay hrd hwl hlo
  obtain rfl : dV = .none := Dflts.none hD hdf
  obtain rfl : kV = .none := Dflts.noKw hD
  obtain ⟨a, vs, ns, rfl, rfl, hobj, hints, hlen⟩ := script_of hn hpre hwl
  refine enter_call (codeAny_mono (call w s₀ s₁ mg mb fa o pm cd doc a vs ns G Y ho (fd_plain hd) hcd hmg hobj hints hlen hg) fun r s' hq => ?_)
  obtain ⟨rfl, h2, h3, h4⟩ := hq
  exact ⟨.inl ⟨.bool true, .bool true, [], rfl, fun _ => rfl, .bool true, post_true l _, fun _ => ⟨List.Pairwise.nil, fun _ hm => (nomatch hm)⟩⟩, h2, h3, h4⟩
section
variable {prog : Program} {w : World} {A : Around} {E : Value → Shared → Prop} {s : Shared} {K : Frag}
def ledger (h : Heap) (L d : Addr) : List (Addr × Obj) := (List.range h.objs.size).filterMap fun a => if a = L ∨ a = d then none else (h.get? a).map fun o => (a, o)
end
end Att
namespace L2
open PySem PySem.Spec PyProof.Rows
theorem vals_ints : ∀ {vs : List Value} {ns : List Int}, IntsAre vs ns → Vals (ns.map V.int) vs
  | _, _, .nil => .nil
  | _, _, .cons n t h => .cons ⟨t, rfl⟩ (vals_ints h)
def Only (H : Hp) : Prop := ∀ b, H b = none ∨ ∃ o xs, H b = some (.frz o (.lst xs))
theorem law_call {P : Program} {w : World} {K : PySem.W.Frag} {mg mb : Str → Option Value} {CX : CXT} {k : Nat} {fa a : Addr} {fd : FuncData} {x : Str} {sp : Sp} {s₁ : Shared} {vs : List Value} {ns : List Int}
    (KX : K.In s₁.heap) (hns : s₁.heap.Ns mainGlobals mg) (hb : s₁.heap.Ns builtinsNs mb) (hbb : ∀ x : Str, x ≠ "__name__" → mb x = bootBuiltins x) (hlim : s₁.heap.NoLimit) (hg : s₁.gens = #[])
    (ha : s₁.heap.get? a = some { cls := .type "list", data := .seq vs.toArray }) (hi : IntsAre vs ns) (hl : ns.length ≤ sizeLine) (hr : Room k callerA)
    (F : ∀ base : Heap, K.In base → base.Ns mainGlobals mg → FnOk P w K mg base CX k fa fd [x] sp) (hbind : ∀ (s : Shared) (u : Value), BindsTo s fd ⟨[u], []⟩ [(x, u)])
    (hsp : ∀ H : Hp, Only H → SqL K H a (ns.map V.int) → sp [.ref a] H (fun v _ => v = .bl true) fun _ _ _ => False)
    (hCX : ∀ H e s', CX [] H s₁ (fun _ _ _ => False) e s' → False) :
    codeAny (model P w) callerA (.call (.ref fa) ⟨[.ref a], []⟩) (fun r s' => r = .ok (.ret (.bool true)) ∧ OldK s₁.heap s'.heap ∧ s'.os = s₁.os ∧ AllBare s'.gens) s₁ := by
  have rv := vals_ints hi
  have lenV := hi.length
  have core : ∀ H : Hp, Only H → SqL K H a (ns.map V.int) → HOk P w H s₁.heap → (∀ b, H b ≠ none → b = a) → (H a ≠ none → K.lookup a = none) →
      codeAny (model P w) callerA (.call (.ref fa) ⟨[.ref a], []⟩) (fun r s' => r = .ok (.ret (.bool true)) ∧ OldK s₁.heap s'.heap ∧ s'.os = s₁.os ∧ AllBare s'.gens) s₁ := by
    intro H hO hS hok hA hK
    have base_of : ∀ {b : Addr} {o : Obj}, s₁.heap.get? b = some o → H b = none → (hidT s₁.heap H).get? b = some o := fun e n => hidT_get e n
    have noA : ∀ {b : Addr} {o : Obj} {es : Array DictEntry} {ep : Nat}, s₁.heap.get? b = some o → o.data = .dict es ep → H b = none := fun {b o es ep} e d => by
      cases q : H b with
      | none => rfl
      | some u =>
        have e' : b = a := hA b (by rw [q]; simp)
        subst e'
        rw [ha] at e; cases e
        have d' : Data.seq vs.toArray _ = Data.dict es ep := d
        cases d'
    have nsK : ∀ {b : Addr} {m : Str → Option Value}, s₁.heap.Ns b m → (hidT s₁.heap H).Ns b m := fun {b m} ⟨o, es, ep, e, d, r⟩ => ⟨o, es, ep, base_of e (noA e d), d, r⟩
    have hKb : K.In (hidT s₁.heap H) := fun b o e => base_of (KX b o e) (by
      cases q : H b with
      | none => rfl
      | some u =>
        have e' : b = a := hA b (by rw [q]; simp)
        subst e'
        rw [hK (by rw [q]; simp)] at e; cases e)
    have hM : Mod K mg (hidT s₁.heap H) := ⟨hKb, nsK hns, ⟨mb, nsK hb, hbb⟩, let ⟨mc, h1, h2⟩ := hlim; ⟨mc, nsK h1, h2⟩⟩
    have e0 : Env0 P w K mg (hidT s₁.heap H) callerA [] s₁ H := ⟨rfl, hM, fun b o e => of_hidT e, Nat.le_of_eq (hidT_size _ _), trivial, fun b hb => absurd (show b ∈ ([] : List Addr) from hb) (by simp), hok, .of_eq hg⟩
    refine codeAny_mono ((F _ hKb (nsK hns)).run callerA [] s₁ H ⟨[.ref a], []⟩ [.ref a] [.ref a] _ _ hr e0 (hbind s₁ (.ref a)) (.cons rfl .nil) (hsp H hO hS)) fun r s' h => ?_
    cases r with
    | error e => exact (hCX H e s' h).elim
    | ok fl =>
      cases fl with
      | next => exact False.elim h
      | brk => exact False.elim h
      | cont => exact False.elim h
      | ret u =>
        obtain ⟨v, H', os, bare, un, hok', r', q⟩ := h
        have q' : v = .bl true := q
        subst q'
        obtain rfl : u = Value.bool true := r'
        refine ⟨rfl, OldK.of_keep fun b o e => ?_, os, bare⟩
        cases q : H b with
        | none => exact un.keep b o e q (by intro z; exact absurd (show b ∈ ([] : List Addr) from z) (by simp)) (by simp)
        | some u =>
          rcases hO b with z | ⟨ob, xs, z⟩
          · rw [q] at z; cases z
          · have z2 := un.frzs b ob _ z
            obtain ⟨e1, _⟩ := hok b _ z
            obtain ⟨e2, _⟩ := hok' b _ z2
            rw [e] at e1; cases e1
            exact e2
  cases hk : K.lookup a with
  | some o =>
    have e := KX a o hk
    rw [ha] at e
    cases e
    refine core (fun _ => none) (fun _ => .inl rfl) (.inr ⟨_, vs.toArray, _, hk, rfl, rfl, rfl, by rw [List.size_toArray, lenV]; exact hl, by simpa using rv⟩) (fun b u z => by have z' : (none : Option HO) = some u := z; cases z') (fun b z => absurd rfl z) fun z => absurd rfl z
  | none =>
    refine core (fun b => if b = a then some (.frz { cls := .type "list", data := .seq vs.toArray } (.lst (ns.map V.int))) else none) (fun b => ?_) (.inl (.inr ⟨{ cls := .type "list", data := .seq vs.toArray }, if_pos rfl⟩)) (fun b u z => ?_) (fun b z => ?_) fun _ => hk
    · by_cases hb : b = a
      · exact .inr ⟨_, _, if_pos hb⟩
      · exact .inl (if_neg hb)
    · by_cases hb : b = a
      · have z' := (if_pos hb).symm.trans z
        cases z'
        subst hb
        exact ⟨ha, by rw [List.length_map]; exact hl, vs, _, rv, ha⟩
      · have z' := (if_neg hb).symm.trans z
        cases z'
    · by_cases hb : b = a
      · exact hb
      · exact absurd (if_neg hb) z
end L2
namespace L2
open PySem PySem.Spec PyProof.Rows
theorem walk_of {l : PySem.W.OpenLaw} {n k : Nat} {q : Program} {loose : List Str} {XP : (Str → Option Value) → Heap → Prop} {YP : World → Heap → Prop} {d : DefRec} {K : Params → PySem.W.Frag} {CX : World → CXT} {sp : World → Sp} {x : Str}
    (hn : l.most = some n) (hn2 : n ≤ sizeLine) (hdf : d.params.defaults = []) (hr : Room k callerA)
    (hY : ∀ (w : World) (h : Heap), YP w h → (K w.params).In h)
    (F : ∀ (w : World) (mg : Str → Option Value) (fa : Addr) (h : Heap), (K w.params).In h → h.Ns mainGlobals mg → mg d.name = some (.ref fa) →
      ∃ fd : FuncData, (∀ (s : Shared) (u : Value), BindsTo s fd ⟨[u], []⟩ [(x, u)]) ∧
        ∀ base : Heap, (K w.params).In base → base.Ns mainGlobals mg → FnOk l.prog w (K w.params) mg base (CX w) k fa fd [x] (sp w))
    (hsp : ∀ (w : World) (H : Hp) (a : Addr) (ns : List Int), ns.length ≤ n → Only H → SqL (K w.params) H a (ns.map V.int) → sp w [.ref a] H (fun v _ => v = .bl true) fun _ _ _ => False)
    (hCX : ∀ (w : World) (H : Hp) (s : Shared) (e : Value) (s' : Shared), CX w [] H s (fun _ _ _ => False) e s' → False) :
    PySem.W.WalkO q loose XP YP l.row.toRowW d [] (fun f vs => PySem.call f vs) := by
  refine Att.attach_call hn hdf fun w s₀ s₁ mg mb fa o pm cd doc a vs ns G Y ho hd hcd hmg hobj hints hlen hg => ?_
  have KX := hY w _ Y
  obtain ⟨fd, hb, hF⟩ := F w mg fa _ KX G.T.g hmg
  exact law_call KX G.T.g G.T.b G.T.builtins G.T.nolimit hg hobj hints (Nat.le_trans hlen hn2) hr hF hb (fun H hO hS => hsp w H a ns hlen hO hS) fun H e s' => hCX w H s₁ e s'
end L2
namespace L2
open PySem PySem.Spec PyProof.Rows
def inClass (s : Stmt) (j : Nat) : Stmt := match s with
  | .ClassDef _ _ _ body _ _ _ _ _ _ _ => body.getD j (.Pass ⟨0, 0, 0, 0⟩)
  | _ => .Pass ⟨0, 0, 0, 0⟩
def defArgs (s : Stmt) : Arguments := match s with
  | .FunctionDef _ a _ _ _ _ _ _ _ _ => a
  | _ => { posonlyargs := [], args := [], vararg := none, kwonlyargs := [], kw_defaults := [], kwarg := none, defaults := [] }
def defBody (s : Stmt) : List Stmt := match s with
  | .FunctionDef _ _ b _ _ _ _ _ _ _ => b
  | _ => []
def defScope (s : Stmt) : Scope := match s with
  | .FunctionDef _ _ _ _ _ _ sc _ _ _ => sc
  | _ => { kind := .function, names := [], isGenerator := false, isCoroutine := false }
abbrev CX0 : CXT := fun _ _ _ _ _ _ => False
abbrev E0 : XK := fun _ _ _ => False
theorem pass0 {X : Cx} : Passes CX0 X E0 := fun _ _ _ _ _ _ _ h => h.elim
structure Fun (K : PySem.W.Frag) (x qual : Str) (st : Stmt) (f : Addr) (fd : FuncData) : Prop where
  ex : ∃ (oc : Value) (od : Option Addr) (kV doc pm : Value) (an : Option Addr) (cdv ct : Value) (osl : Array (Option Value)),
    fd = PySem.W.fnOf x qual (defArgs st) (defBody st) (defScope st) .none kV doc pm an cdv ct ∧ K.lookup f = some ⟨oc, od, .func fd, osl⟩ ∧ PySem.W.codeIn K cdv qual = true
  kp : PySem.W.keepIn K (.ref f) = true
section
variable {P : Program} {w : World} {K : PySem.W.Frag} {mg : Str → Option Value} {base : Heap}
theorem Fun.ok {x qual : Str} {st : Stmt} {f : Addr} {fd : FuncData} {N ps : List Str} {k : Nat} {sp : Sp} (F : Fun K x qual st f fd) (S : FnScope N ps (defScope st)) (len : ∀ vs H Q E, sp vs H Q E → vs.length = ps.length)
    (hbody : ∀ (cdv : Value) (A : Around) (outer : List Env) (s : Shared) (H : Hp) (vs : List V) (Q : VK) (E : XK), Room k (A.deeper (envOfC qual (defScope st) s.heap.objs.size f cdv)) → sp vs H Q E →
      ∃ t, PSs (cxOf CX0 P w K mg base N qual (defScope st) f cdv A outer s H E).nox (defBody st) t ∧ t { nx := fun _ H' => Q .non H', rt := Q } (start N vs) H) : FnOk P w K mg base CX0 (k + 1) f fd ps sp := by
  obtain ⟨oc, od, kV, doc, pm, an, cdv, ct, osl, rfl, lk, hcd⟩ := F.ex
  refine fn_of lk hcd S len fun A outer s H vs Q E hr hsp => ?_
  obtain ⟨t, h, q⟩ := hbody cdv A outer s H vs Q E hr hsp
  exact ⟨t, h.nox, q⟩
theorem Fun.binds {x qual : Str} {st : Stmt} {f : Addr} {fd : FuncData} {ps : List Str} (F : Fun K x qual st f fd)
    (h : ∀ (kV doc pm : Value) (an : Option Addr) (cdv ct : Value) (us : List Value), us.length = ps.length → bindArgs (PySem.W.fnOf x qual (defArgs st) (defBody st) (defScope st) .none kV doc pm an cdv ct) ⟨us, []⟩ = pure (ps.zip us)) : Binds K fd ps [] := by
  obtain ⟨oc, od, kV, doc, pm, an, cdv, ct, osl, rfl, lk, hcd⟩ := F.ex
  exact .all (h kV doc pm an cdv ct)
theorem fun_mk {x qual : Str} {st : Stmt} {f : Addr} {oc : Value} {od an : Option Addr} {osl : Array (Option Value)} {kV doc pm cdv ct : Value} (l : K.lookup f = some ⟨oc, od, .func (PySem.W.fnOf x qual (defArgs st) (defBody st) (defScope st) .none kV doc pm an cdv ct), osl⟩)
    (c : PySem.W.codeIn K cdv qual = true) (k : PySem.W.keepIn K (.ref f) = true) : Fun K x qual st f (PySem.W.fnOf x qual (defArgs st) (defBody st) (defScope st) .none kV doc pm an cdv ct) := ⟨⟨oc, od, kV, doc, pm, an, cdv, ct, osl, rfl, l, c⟩, k⟩
end
section
variable {X : Cx}
theorem pv (i : Nat) {x : Str} {pos : Pos} (hN : X.N[i]? = some x := by rfl) (hv : Vis X.env.scope x := by first | exact Or.inl rfl | exact Or.inr (Or.inl rfl) | exact Or.inr (Or.inr rfl)) (hd : (x == ("__debug__" : Str)) = false := by decide)
    (hcd : (x == ("__classdict__" : Str)) = false := by decide) : PE X (.Name x pos) (tVar i) := pe_var hN hv hd hcd
end
theorem iteF {A B : Prop} (h : B) : if false = true then A else B := by
  rw [if_neg Bool.false_ne_true]
  exact h
theorem iteT {A B : Prop} (h : A) : if true = true then A else B := by
  rw [if_pos rfl]
  exact h
theorem ite2 {c A B : Prop} [Decidable c] (h1 : c → A) (h2 : ¬ c → B) : if c then A else B := by
  by_cases h : c
  · rw [if_pos h]
    exact h1 h
  · rw [if_neg h]
    exact h2 h
def Same (H H' : Hp) : Prop := ∀ b o, H b = some o → H' b = some o
theorem Same.refl (H : Hp) : Same H H := fun _ _ h => h
theorem Same.trans {H H1 H2 : Hp} (a : Same H H1) (b : Same H1 H2) : Same H H2 := fun c o h => b c o (a c o h)
theorem Same.free {H H' : Hp} (e : Same H H') {l : Addr} (h : H' l = Option.none) : H l = Option.none := by
  cases q : H l with
  | none => rfl
  | some o =>
    rw [e l o q] at h
    cases h
theorem Same.seq {K : PySem.W.Frag} {H H' : Hp} {a : Addr} {xs : List V} (e : Same H H') (h : SqL K H a xs) : SqL K H' a xs := by
  rcases h with (h | ⟨o, h⟩) | h
  · exact .inl (.inl (e _ _ h))
  · exact .inl (.inr ⟨o, e _ _ h⟩)
  · exact .inr h
section
variable {X : Cx}
end
section
variable {κ : Type} [DecidableEq κ]
end
end L2
namespace L3
open PySem PySem.Spec PyProof.Rows L2
def cellsIn (env : Env) : List (Str × NameKind) → List (Str × Addr) → List (Str × Addr)
  | [], cs => cs
  | (n, k) :: r, cs => cellsIn env r (if k == .free then match env.cells.lookup n with | some c => (n, c) :: cs | none => cs else cs)
def closureOf (scope : Scope) (env : Env) : List (Str × Addr) := cellsIn env scope.names []
theorem closureFor_eq {scope : Scope} {env : Env} (h : ∀ p ∈ scope.names, p.2 = .free → ∃ c, env.cells.lookup p.1 = some c) : closureFor scope env = pure (closureOf scope env) := by
  unfold closureFor closureOf
  have go : ∀ (l : List (Str × NameKind)) (cs : List (Str × Addr)), (∀ p ∈ l, p.2 = .free → ∃ c, env.cells.lookup p.1 = some c) →
      (forIn l cs fun (p : Str × NameKind) (r : List (Str × Addr)) => (do
        if p.2 == NameKind.free then
          let c ← cellOf env p.1
          pure (ForInStep.yield ((p.1, c) :: r))
        else pure (ForInStep.yield r) : Sem (ForInStep (List (Str × Addr))))) = (pure (cellsIn env l cs) : Sem (List (Str × Addr))) := by
    intro l
    induction l with
    | nil => intro cs _; rfl
    | cons p l ih =>
      intro cs hl
      obtain ⟨n, k⟩ := p
      rw [List.forIn_cons]
      by_cases hk : k = .free
      · subst hk
        obtain ⟨c, hc⟩ := hl (n, .free) List.mem_cons_self rfl
        have e : cellOf env n = pure c := by
          unfold cellOf
          have hc' : env.cells.lookup n = some c := hc
          rw [hc']
        simp only [beq_self_eq_true, if_true, e, pure_bind]
        rw [ih _ fun p hp => hl p (List.mem_cons_of_mem _ hp)]
        have hc' : env.cells.lookup n = some c := hc
        simp only [cellsIn, beq_self_eq_true, if_true, hc']
      · have hb : (k == NameKind.free) = false := by simpa using hk
        simp only [hb, Bool.false_eq_true, if_false, pure_bind]
        rw [ih _ fun p hp => hl p (List.mem_cons_of_mem _ hp)]
        simp only [cellsIn, hb, Bool.false_eq_true, if_false]
  have := go scope.names [] h
  simp only [bind_pure] at this ⊢
  exact this
theorem mem_cellsIn {env : Env} : ∀ {l : List (Str × NameKind)} {cs : List (Str × Addr)} {n : Str} {c : Addr}, (n, c) ∈ cellsIn env l cs → (n, c) ∈ cs ∨ ((n, NameKind.free) ∈ l ∧ env.cells.lookup n = some c)
  | [], _, _, _, h => .inl h
  | (m, k) :: r, cs, n, c, h => by
    rcases mem_cellsIn (l := r) h with h | ⟨h1, h2⟩
    · by_cases hk : k = .free
      · subst hk
        simp only [beq_self_eq_true, if_true] at h
        cases e : env.cells.lookup m with
        | none => rw [e] at h; exact .inl h
        | some d =>
          rw [e] at h
          rcases List.mem_cons.mp h with q | q
          · cases q
            exact .inr ⟨List.mem_cons_self, e⟩
          · exact .inl q
      · have hb : (k == NameKind.free) = false := by simpa using hk
        simp only [hb, Bool.false_eq_true, if_false] at h
        exact .inl h
    · exact .inr ⟨List.mem_cons_of_mem _ h1, h2⟩
theorem keep_cellsIn {env : Env} : ∀ {l : List (Str × NameKind)} {cs : List (Str × Addr)} {p : Str × Addr}, p ∈ cs → p ∈ cellsIn env l cs
  | [], _, _, h => h
  | (m, k) :: r, cs, p, h => by
    refine keep_cellsIn (l := r) ?_
    by_cases hk : k = .free
    · subst hk
      simp only [beq_self_eq_true, if_true]
      cases e : env.cells.lookup m with
      | none => exact h
      | some d => exact List.mem_cons_of_mem _ h
    · have hb : (k == NameKind.free) = false := by simpa using hk
      simp only [hb, Bool.false_eq_true, if_false]
      exact h
theorem in_cellsIn {env : Env} {n : Str} {c : Addr} (e : env.cells.lookup n = some c) : ∀ {l : List (Str × NameKind)} {cs : List (Str × Addr)}, (n, NameKind.free) ∈ l → (n, c) ∈ cellsIn env l cs
  | (m, k) :: r, cs, h => by
    rcases List.mem_cons.mp h with q | q
    · cases q
      refine keep_cellsIn (l := r) ?_
      simp only [beq_self_eq_true, if_true, e]
      exact List.mem_cons_self
    · exact in_cellsIn e (l := r) q
theorem lookup_of_mem {α : Type} {n : Str} {c : α} : ∀ {l : List (Str × α)}, (n, c) ∈ l → ∃ d, l.lookup n = some d
  | (m, d) :: r, h => by
    by_cases e : n = m
    · subst e
      exact ⟨d, by simp⟩
    · have hb : (n == m) = false := beq_eq_false_iff_ne.mpr e
      rcases List.mem_cons.mp h with q | q
      · cases q; exact absurd rfl e
      · obtain ⟨d', hd⟩ := lookup_of_mem q
        exact ⟨d', by simp only [List.lookup, hb]; exact hd⟩
theorem relabel_kinds {scope : Scope} {env : Env} {x : Str} : ∀ {names : List (Str × NameKind)} {k : NameKind},
    (names.map fun (n, k) => if (k == NameKind.free && env.scope.kind == .function && env.kindOf n == some .cell) then (n, NameKind.cell) else (n, k)).lookup x = some k →
    names.lookup x = some k ∨ (names.lookup x = some .free ∧ k = .cell)
  | [], k, h => by simp at h
  | (n, j) :: r, k, h => by
    have ih := @relabel_kinds scope env x r k
    rw [List.map_cons] at h
    dsimp only at h
    cases hx : x == n with
    | true =>
      simp only [List.lookup_cons, hx]
      by_cases hc : (j == NameKind.free && env.scope.kind == .function && env.kindOf n == some .cell) = true
      · rw [if_pos hc] at h
        simp only [List.lookup_cons, hx] at h
        have hj : j = .free := by
          have := (Bool.and_eq_true_iff.mp (Bool.and_eq_true_iff.mp hc).1).1
          simpa using this
        cases h
        exact .inr ⟨by rw [hj], rfl⟩
      · rw [if_neg hc] at h
        simp only [List.lookup_cons, hx] at h
        exact .inl h
    | false =>
      simp only [List.lookup_cons, hx]
      by_cases hc : (j == NameKind.free && env.scope.kind == .function && env.kindOf n == some .cell) = true
      · rw [if_pos hc] at h; simp only [List.lookup_cons, hx] at h; exact ih h
      · rw [if_neg hc] at h; simp only [List.lookup_cons, hx] at h; exact ih h
theorem relabel_free {env : Env} {x : Str} : ∀ {names : List (Str × NameKind)}, names.lookup x = some .free →
    (names.map fun (n, k) => if (k == NameKind.free && env.scope.kind == .function && env.kindOf n == some .cell) then (n, NameKind.cell) else (n, k)).lookup x = some .cell ∨
    (names.map fun (n, k) => if (k == NameKind.free && env.scope.kind == .function && env.kindOf n == some .cell) then (n, NameKind.cell) else (n, k)).lookup x = some .free
  | [], h => by simp at h
  | (n, j) :: r, h => by
    have ih := @relabel_free env x r
    rw [List.map_cons]
    dsimp only
    cases hx : x == n with
    | true =>
      simp only [List.lookup_cons, hx] at h
      cases h
      by_cases hc : (NameKind.free == NameKind.free && env.scope.kind == .function && env.kindOf n == some .cell) = true
      · rw [if_pos hc]; exact .inl (by simp only [List.lookup_cons, hx])
      · rw [if_neg hc]; exact .inr (by simp only [List.lookup_cons, hx])
    | false =>
      simp only [List.lookup_cons, hx] at h
      by_cases hc : (j == NameKind.free && env.scope.kind == .function && env.kindOf n == some .cell) = true
      · rw [if_pos hc]; simp only [List.lookup_cons, hx]; exact ih h
      · rw [if_neg hc]; simp only [List.lookup_cons, hx]; exact ih h
def compCx (X : Cx) (N : List Str) (scope : Scope) (fp : List Addr) (s : Shared) (H : Hp) : Cx where
  prog := X.prog
  w := X.w
  K := X.K
  mg := X.mg
  base := X.base
  A := X.A
  N := N
  s₀ := s
  H₀ := H
  env := compEnvC scope (closureOf scope X.env) s.heap.objs.size X.env
  outer := X.stack
  stack := X.stack
  ex := fp
  fn := fun _ => false
  calm := X.calm
  pn := []
  xe := fun _ _ => False
structure CompOk (X : Cx) (scope : Scope) (N : List Str) (own : Nat) (js : List Nat) : Prop where
  kind : scope.kind = .function
  cells : ∀ p ∈ scope.names, p.2 ≠ .cell
  locs : ∀ p ∈ scope.names, p.2 = .local → scope.names.lookup p.1 = some .local
  frees : ∀ p ∈ scope.names, p.2 = .free → scope.names.lookup p.1 = some .free ∧ (X.env.scope.names.lookup p.1 = some .cell ∨ X.env.scope.names.lookup p.1 = some .free)
  len : N.length = own + js.length
  at_ : ∀ (k i : Nat) (x : Str), js[k]? = some i → N[own + k]? = some x → X.N[i]? = some x ∧ scope.names.lookup x = some .free
def compOkB (scope sc : Scope) (N M : List Str) (own : Nat) (js : List Nat) : Bool :=
  decide (scope.kind = .function) && scope.names.all (fun p => p.2 != .cell) && scope.names.all (fun p => p.2 != .local || scope.names.lookup p.1 == some .local) &&
  scope.names.all (fun p => p.2 != .free || (scope.names.lookup p.1 == some .free && (sc.names.lookup p.1 == some .cell || sc.names.lookup p.1 == some .free))) &&
  decide (N.length = own + js.length) && (js.zip (N.drop own)).all fun q => M[q.1]? == some q.2 && scope.names.lookup q.2 == some .free
theorem compOk {X : Cx} {scope : Scope} {N : List Str} {own : Nat} {js : List Nat} (sc : Scope) (M : List Str) (h1 : X.env.scope = sc) (h2 : X.N = M) (h : compOkB scope sc N M own js = true) : CompOk X scope N own js := by
  unfold compOkB at h
  simp only [Bool.and_eq_true, decide_eq_true_eq, List.all_eq_true] at h
  obtain ⟨⟨⟨⟨⟨a1, a2⟩, a3⟩, a4⟩, a5⟩, a6⟩ := h
  refine ⟨a1, fun p hp => by simpa using a2 p hp, fun p hp hk => ?_, fun p hp hk => ?_, a5, fun k i x e1 e2 => ?_⟩
  · have := a3 p hp
    rw [hk] at this
    simpa using this
  · have := a4 p hp
    rw [hk] at this
    rw [h1]
    simpa using this
  · have hm : (i, x) ∈ js.zip (N.drop own) := by
      refine List.mem_of_getElem? (i := k) ?_
      rw [List.getElem?_zip_eq_some]
      exact ⟨e1, by rw [List.getElem?_drop]; exact e2⟩
    have := a6 _ hm
    rw [h2]
    simpa using this
def compSt (own : Nat) (js : List Nat) (σ : L2.St) : L2.St := List.replicate own none ++ js.map fun i => (σ[i]?).join
section
variable {X : Cx} {pins : List (Addr × Obj)} {σ : L2.St} {H : Hp} {s : Shared} {scope : Scope} {N : List Str} {own : Nat} {js : List Nat} {fp : List Addr}
theorem closure_look (I : Inv X pins σ H s) {x : Str} {c : Addr} (e : (closureOf scope X.env).lookup x = some c) : X.env.cells.lookup x = some c := by
  rcases mem_cellsIn (PySem.mem_of_lookup e) with h | ⟨_, h⟩
  · cases h
  · exact h
theorem closure_has (C : CompOk X scope N own js) (I : Inv X pins σ H s) {x : Str} (h : scope.names.lookup x = some .free) : ∃ c, (closureOf scope X.env).lookup x = some c ∧ X.env.cells.lookup x = some c := by
  have hm := PySem.mem_of_lookup h
  obtain ⟨c, hc⟩ := I.ok.has x (C.frees _ hm rfl).2
  obtain ⟨d, hd⟩ := lookup_of_mem (in_cellsIn (cs := []) hc hm)
  exact ⟨d, hd, closure_look I hd⟩
theorem closureFor_ok (C : CompOk X scope N own js) (I : Inv X pins σ H s) : closureFor scope X.env = pure (closureOf scope X.env) :=
  closureFor_eq fun p hp hk => I.ok.has p.1 (C.frees p hp hk).2
theorem comp_start (C : CompOk X scope N own js) (I : Inv X pins σ H s) (hf : ∀ b ∈ fp, FpOk X pins H b) (ho : ∀ b ∈ fp, ∃ o, s.heap.get? b = some o ∧ ∀ v, o.data ≠ .cell v) {h₁ : Heap} {t₁ : Nat} {m : Str → Option Value}
    (hn : h₁.Ns s.heap.objs.size m) (hk : ∀ b o, s.heap.get? b = some o → h₁.get? b = some o) : Inv (compCx X N scope fp s H) [] (compSt own js σ) H { s with heap := h₁, toks := t₁ } := by
  have hlt : ∀ b ∈ fp, b < s.heap.objs.size := fun b hb => by
    obtain ⟨o, e, _⟩ := ho b hb
    exact Heap.lt_size e
  refine ⟨⟨I.ok.mod, C.kind, I.ok.glob, I.ok.blt, Nat.le_refl _, fun x y c h1 h2 => ?_, fun x hx => ?_, fun x c hx _ => ?_, I.ok.hd, I.ok.frames, .inl rfl, fun b hb => ⟨Nat.ne_of_lt (hlt b hb), fun x c e => ?_⟩, I.bs, Nat.le_trans I.ok.bsz I.sz, fun b o e hb => ?_, fun b hb z => ?_, I.stack, I.stkFree⟩,
    rfl, I.bare, Un.kept hk, ⟨m, hn, fun i x v h1 h2 h3 => ?_⟩, fun x c e => ?_, I.hok.fresh (Nat.le_refl _), fun x c e => I.freeC x c (closure_look I e), fun p hp => ?_, I.hok.kept hk, ?_⟩
  · exact I.ok.inj x y c (closure_look I h1) (closure_look I h2)
  · have hx' : (relabel scope X.env).names.lookup x = some .cell ∨ (relabel scope X.env).names.lookup x = some .free := hx
    have hfree : scope.names.lookup x = some .free := by
      rcases hx' with hx' | hx'
      · rcases relabel_kinds (scope := scope) hx' with q | ⟨q, _⟩
        · exact absurd rfl (C.cells _ (PySem.mem_of_lookup q))
        · exact q
      · rcases relabel_kinds (scope := scope) hx' with q | ⟨q, _⟩
        · exact q
        · exact q
    obtain ⟨c, hc, _⟩ := closure_has C I hfree
    exact ⟨c, hc⟩
  · exact absurd hx Bool.false_ne_true
  · exact (hf b hb).2.2.2.2.1 x c (closure_look I e)
  · rcases (hf b hb).2.2.2.1 with z | z
    · exact I.ok.noex b o e z
    · exact absurd (Nat.lt_of_lt_of_le (Heap.lt_size e) (Nat.le_trans I.ok.bsz z)) (Nat.lt_irrefl _)
  · rcases List.mem_cons.mp (I.stkSub b z) with q | q
    · exact (hf b hb).2.1 q
    · exact (hf b hb).2.2.1 q
  · -- a name of the block that has a value
    have hN : N[i]? = some x := h1
    have hi : own ≤ i := by
      refine Nat.le_of_not_lt fun hlt' => ?_
      unfold compSt at h2
      rw [List.getElem?_append_left (by simpa using hlt'), List.getElem?_replicate] at h2
      split at h2 <;> cases h2
    obtain ⟨k, rfl⟩ := Nat.exists_eq_add_of_le hi
    unfold compSt at h2
    rw [List.getElem?_append_right (by simp), List.length_replicate, Nat.add_sub_cancel_left, List.getElem?_map] at h2
    cases ej : js[k]? with
    | none => rw [ej] at h2; cases h2
    | some j =>
      rw [ej] at h2
      have h2' : (σ[j]?).join = some v := Option.some.inj h2
      have hσ : σ[j]? = some (some v) := by
        cases eσ : σ[j]? with
        | none => rw [eσ] at h2'; cases h2'
        | some ov =>
          rw [eσ] at h2'
          have : ov = some v := h2'
          rw [this]
      obtain ⟨hXN, hfree⟩ := C.at_ k j x ej hN
      have hkind := (C.frees _ (PySem.mem_of_lookup hfree) rfl).2
      obtain ⟨m0, hn0, hl⟩ := I.loc
      obtain ⟨u, r, l⟩ := hl j x v hXN hσ (by rcases hkind with q | q; exact .inr (.inl q); exact .inr (.inr q))
      refine ⟨u, r, .inr ⟨relabel_free hfree, ?_⟩⟩
      obtain ⟨c, hc, hc'⟩ := closure_has C I hfree
      refine ⟨c, hc, ?_⟩
      rcases l with ⟨l1, _⟩ | ⟨_, c', e', z⟩
      · have l1' : X.env.scope.names.lookup x = some .local := l1
        rcases hkind with q | q
        · rw [q] at l1'; cases l1'
        · rw [q] at l1'; cases l1'
      · rw [hc'] at e'
        cases e'
        obtain ⟨o, ho', hd'⟩ := z
        exact ⟨o, hk _ _ ho', hd'⟩
  · obtain ⟨v, o, ho', hd'⟩ := I.cell x c (closure_look I e)
    exact ⟨v, o, hk _ _ ho', hd'⟩
  · exact absurd (show p ∈ ([] : List (Addr × Obj)) from hp) (by simp)
  · unfold compSt
    show _ = N.length
    rw [List.length_append, List.length_replicate, List.length_map, C.len]
theorem comp_end {σ' : L2.St} {H' : Hp} {s' : Shared} (I : Inv X pins σ H s) (hf : ∀ b ∈ fp, FpOk X pins H b) (J : Inv (compCx X N scope fp s H) [] σ' H' s') : Inv X pins σ H' s' :=
  I.call' (ch := fp) J.os J.base J.hok J.bare fun b hb => ⟨(hf b hb).2.2.2.1, (hf b hb).2.1, (hf b hb).2.2.2.2.1, (hf b hb).2.2.2.2.2⟩
end
def PIfs (X : Cx) (ifs : List Expr) (t : TT) : Prop :=
  ∀ (pins : List (Addr × Obj)) (s : Shared) (σ : L2.St) (H : Hp) (Q : Bool → Hp → Prop), Inv X pins σ H s → t σ H Q →
    wpAny (model X.prog X.w) X.A (forIn ifs true fun c r => if r = true then do let ok ← isTrue c X.env (eval c X.env); pure (ForInStep.yield ok) else pure (ForInStep.yield r)) (TP X pins σ Q) X.xe s
def tNoIf : TT := fun _ H Q => Q true H
theorem pifs_nil {X : Cx} : PIfs X [] tNoIf := fun _ _ _ H _ I h => wpAny_tests_nil ⟨H, I, h⟩
def CompW (D : Addr) (J : It) (g : TG) (tc : TT) (te : TE) (Q : Hp → Prop) (W : Nat → Nat → List V → L2.St → Hp → Prop) : Prop :=
  ∀ i m ys σ H, W i m ys σ H → H D = some (.lst ys) ∧ ys.length < sizeLine ∧
    ((J.stop i H ∧ Q H) ∨ (J.go i H ∧ ∃ (N1 : V → L2.St → Hp → Prop) (N0 : L2.St → Hp → Prop),
      (∀ y σ2 H4, N1 y σ2 H4 → H4 D = some (.lst ys) ∧ ∃ m', m' < m ∧ W (i + 1) m' (ys ++ [y]) σ2 (upd H4 D (.lst (ys ++ [y])))) ∧ (∀ σ2 H3, N0 σ2 H3 → ∃ m', m' < m ∧ W (i + 1) m' ys σ2 H3) ∧
      ∀ x H1, J.yld i H x H1 → g x σ H1 fun σ2 H2 => tc σ2 H2 fun b H3 => if b = true then te σ2 H3 fun y H4 => N1 y σ2 H4 else N0 σ2 H3))
def tComp (own : Nat) (js : List Nat) (wi : TI) (g : TG) (tc : TT) (te : TE) : TE := fun σ H Q => wi σ H fun J H1 => ∀ D, H1 D = none →
  ∃ W : Nat → Nat → List V → L2.St → Hp → Prop, (∃ m, W 0 m [] (compSt own js σ) (upd H1 D (.lst []))) ∧ CompW D J g tc te (fun H' => Q (.ref D) H') W
section
variable {X : Cx} {elt tg iter : Expr} {ifs : List Expr} {scope : Scope} {pos : Pos} {N : List Str} {own : Nat} {js : List Nat} {wi : TI} {g : TG} {tc : TT} {te : TE}
theorem comp_block {pins : List (Addr × Obj)} {σ : L2.St} {H : Hp} {s : Shared} {it : Addr} {fp : List Addr} {tn : Nat → Heap → Prop} {J : It} {E : Value → Shared → Prop} {Q : V → Hp → Prop} {R : Value → Addr → Result → Shared → Prop}
    (hc : X.calm = true) (C : CompOk X scope N own js) (hg : ∀ fp s H, PG (compCx X N scope fp s H) tg g) (ht : ∀ fp s H, PIfs (compCx X N scope fp s H) ifs tc) (he : ∀ fp s H, PE (compCx X N scope fp s H) elt te)
    (I : Inv X pins σ H s) (T : Turn X.prog X.w X.K tg J fp it tn) (st : tn 0 s.heap) (hf : ∀ b ∈ fp, FpOk X pins H b)
    (h : ∀ D, H D = none → ∃ W : Nat → Nat → List V → L2.St → Hp → Prop, (∃ m, W 0 m [] (compSt own js σ) (upd H D (.lst []))) ∧ CompW D J g tc te (fun H' => Q (.ref D) H') W)
    (hR : ∀ (D L : Addr) (H' : Hp) (s' : Shared), Inv X pins σ H' s' → (∃ m, s'.heap.Ns L m) → H' L = none → L ≠ X.env.locals → X.s₀.heap.objs.size ≤ L → (∀ x c, X.env.cells.lookup x = some c → c ≠ L) → (∀ p ∈ X.pn ++ pins, p.1 ≠ L) →
      Q (.ref D) H' → R (.ref D) L (.ok .next) s') :
    wpAny (model X.prog X.w) X.A (newList []) (fun acc s₃ => wpAny (model X.prog X.w) X.A (newFunctionEnv scope X.env.globals (closureOf scope X.env) [] X.env.qual none .none (some X.env)) (fun cenv s₄ =>
      codeAny (model X.prog X.w) X.A (.compStart (.ListComp elt [⟨tg, iter, ifs, 0⟩] scope pos) 0 (.ref it) acc { cenv with scope := relabel scope X.env }) (R acc cenv.locals) s₄) E s₃) E s := by
  have hD : H s.heap.objs.size = none := I.hok.fresh (Nat.le_refl _)
  obtain ⟨W, ⟨m0, w0⟩, turn⟩ := h _ hD
  refine wpAny_newObj_type (wpAny_newFunctionEnv C.cells (by intro y hy; simp at hy) (fun h₁ hns₁ hsb₁ => ?_) C.kind)
  have I3 : Inv X pins σ (upd H s.heap.objs.size (.lst [])) { s with heap := s.heap.push { cls := .type "list", data := .seq ([] : List Value).toArray }, toks := s.toks } := I.lnew (its := []) .nil (Nat.zero_le _)
  have hf3 : ∀ b ∈ fp, FpOk X pins (upd H s.heap.objs.size (.lst [])) b := fun b hb => by
    obtain ⟨o, e, _⟩ := T.obj 0 _ st b hb
    exact ⟨by rw [upd_ne (Nat.ne_of_lt (Heap.lt_size e))]; exact (hf b hb).1, (hf b hb).2⟩
  have st3 : tn 0 (s.heap.push { cls := .type "list", data := .seq ([] : List Value).toArray }) := T.keep 0 _ _ st fun b hb o e => Heap.get?_push_of_some _ e
  dsimp only at hns₁ hsb₁ ⊢
  generalize hs3 : ({ s with heap := s.heap.push { cls := .type "list", data := .seq ([] : List Value).toArray }, toks := s.toks } : Shared) = s3 at I3
  have eh : s.heap.push { cls := .type "list", dict := none, data := .seq ([] : List Value).toArray } = s3.heap := by rw [← hs3]
  rw [eh] at hns₁ hsb₁ st3 ⊢
  have old : ∀ b o, s3.heap.get? b = some o → h₁.get? b = some o := fun b o e => hsb₁.extBut b o (Nat.ne_of_lt (Heap.lt_size e)) (Heap.get?_push_of_some _ e)
  generalize hH3 : upd H s.heap.objs.size (.lst []) = H3 at I3 hf3 w0
  have J0 : Inv (compCx X N scope fp s3 H3) [] (compSt own js σ) H3 { s3 with heap := h₁, toks := s3.toks + ([] : List (Str × Value)).length } := comp_start C I3 hf3 (T.obj 0 _ st3) hns₁ old
  have st0 : tn 0 h₁ := T.keep 0 _ _ st3 fun b hb o e => old b o e
  have stat : ∀ {H' : Hp}, (∀ b ∈ fp, H' b = none) → ∀ b ∈ fp, FpOk (compCx X N scope fp s3 H3) [] H' b := fun hn b hb => by
    refine ⟨hn b hb, J0.ok.exf b hb |>.1, J0.ok.exfs b hb, .inl hb, (J0.ok.exf b hb).2, fun p hp => absurd (show p ∈ ([] : List (Addr × Obj)) from hp) (by simp)⟩
  have loop : ∀ s₄ : Shared, s₄ = { s3 with heap := h₁, toks := s3.toks + ([] : List (Str × Value)).length } →
      codeAny (model X.prog X.w) X.A (.compLoop (.ListComp elt [⟨tg, iter, ifs, 0⟩] scope pos) 0 (.ref it) (.ref s.heap.objs.size) (compCx X N scope fp s3 H3).env) (R (.ref s.heap.objs.size) s3.heap.objs.size) s₄ := by
    rintro s₄ rfl
    refine codeAny_loop rfl (fun n s' => ∃ i ys σ' H', Inv (compCx X N scope fp s3 H3) [] σ' H' s' ∧ tn i s'.heap ∧ (∀ b ∈ fp, H' b = none) ∧ W i n ys σ' H') ?_ m0 ⟨0, [], _, _, J0, st0, fun b hb => (hf3 b hb).1, w0⟩
    rintro n s5 ⟨i, ys, σ5, H5, I5, st5, fr5, w5⟩
    show wpAny _ X.A ((compTurn (.ListComp elt [⟨tg, iter, ifs, 0⟩] scope pos) 0 (.ref it) (.ref s.heap.objs.size) (compCx X N scope fp s3 H3).env).onRaise (fun x => do noteFrame x (compCx X N scope fp s3 H3).env; theTreesLotGoes x)) _ _ s5
    refine wpAny_noted ?_
    rw [compTurn_list]
    obtain ⟨hD5, hz5, hw5⟩ := turn i n ys σ5 H5 w5
    refine wpAny_bind (wpAny_standAt (wpAny_bind ?_))
    rcases hw5 with ⟨stop, q⟩ | ⟨go, N1, N0, hN1, hN0, step⟩
    · refine wpAny_mono (T.done (compCx X N scope fp s3 H3) rfl rfl rfl hc i [] s5 σ5 H5 (fun _ _ => False) I5 (stat fr5) st5 stop) (fun r s6 ⟨hr, I6⟩ => ?_) fun _ _ z => z.elim
      subst hr
      obtain ⟨m, hm, _⟩ := id I6.loc
      have IX := comp_end I3 hf3 I6
      exact wpAny_pure (hR _ s3.heap.objs.size H5 s6 IX ⟨m, hm⟩ I6.free (Nat.ne_of_gt I3.lt) I3.sz (fun x c e z => by
        obtain ⟨v, o, ho, _⟩ := I3.cell x c e
        rw [z] at ho
        exact absurd (Heap.lt_size ho) (Nat.lt_irrefl _)) (fun p hp z => by
        have e := (I3.pin p hp).1
        rw [z] at e
        exact absurd (Heap.lt_size e) (Nat.lt_irrefl _)) q)
    · refine wpAny_mono (T.item (compCx X N scope fp s3 H3) rfl rfl rfl hc i [] s5 σ5 H5 (fun _ _ => False) I5 (stat fr5) st5 go) (fun r s6 ⟨u, hr, h6⟩ => ?_) fun _ _ z => z.elim
      subst hr
      refine wpAny_bind (wpAny_mono h6 (fun _ s7 ⟨x, H7, I7, r7, y7, st7, fr7⟩ => ?_) fun _ _ z => z.elim)
      have I7' := I7.pinned (stat fr7) (T.obj _ _ st7)
      refine wpAny_bind (wpAny_mono (hg fp s3 H3 _ s7 σ5 H7 x u _ I7' r7 (step x H7 y7)) (fun _ s8 ⟨σ8, H8, I8, q8⟩ => ?_) fun _ _ z => z.elim)
      refine wpAny_bind (wpAny_mono (ht fp s3 H3 _ s8 σ8 H8 _ I8 q8) (fun ok s9 ⟨H9, I9, q9⟩ => ?_) fun _ _ z => z.elim)
      have again : ∀ {sx : Shared} {Hx : Hp} {ys' : List V}, Inv (compCx X N scope fp s3 H3) ([] ++ pinsAt fp s7.heap) σ8 Hx sx → (∃ m', m' < n ∧ W (i + 1) m' ys' σ8 Hx) →
          ∃ m, m < n ∧ ∃ i ys σ' H', Inv (compCx X N scope fp s3 H3) [] σ' H' sx ∧ tn i sx.heap ∧ (∀ b ∈ fp, H' b = none) ∧ W i m ys σ' H' := fun {sx Hx ys'} Ix ⟨m', hm, wx⟩ => by
        refine ⟨m', hm, i + 1, ys', σ8, Hx, Ix.unpinned, T.keep _ _ _ st7 fun b hb o e => (Ix.pin (b, o) (List.mem_append_right _ (List.mem_append_right _ (mem_pinsAt hb e)))).1, fun b hb => ?_, wx⟩
        obtain ⟨o, e, d⟩ := T.obj _ _ st7 b hb
        exact (Ix.pin (b, o) (List.mem_append_right _ (List.mem_append_right _ (mem_pinsAt hb e)))).2.1
      cases ok with
      | false =>
        rw [if_neg Bool.false_ne_true] at q9
        exact wpAny_pure ⟨rfl, again I9 (hN0 _ _ q9)⟩
      | true =>
        rw [if_pos rfl] at q9
        show wpAny _ X.A ((do let _ ← call (.builtin "list.append") [.ref s.heap.objs.size, ← eval elt (compCx X N scope fp s3 H3).env]) >>= _) _ _ s9
        refine wpAny_bind (wpAny_bind (wpAny_mono (he fp s3 H3 _ s9 σ8 H9 _ I9 q9) (fun v s10 ⟨y, H10, I10, r10, n10⟩ => ?_) fun _ _ z => z.elim))
        obtain ⟨hD10, q10⟩ := hN1 _ _ _ n10
        refine wpAny_bind (wpAny_mono (mt_append (X := compCx X N scope fp s3 H3) _ s10 σ8 H10 (.ref s.heap.objs.size) [y] (.ref s.heap.objs.size) [v] (fun _ H' => H' = upd H10 s.heap.objs.size (.lst (ys ++ [y]))) I10 rfl (.cons r10 .nil)
          ⟨_, ys, y, rfl, rfl, hD10, hz5, rfl⟩) (fun _ s11 ⟨_, H11, I11, _, e11⟩ => ?_) fun _ _ z => z.elim)
        subst e11
        exact wpAny_pure (wpAny_pure ⟨rfl, again I11 q10⟩)
  have es : ({ s with heap := h₁, toks := s.toks + ([] : List (Str × Value)).length } : Shared) = { s3 with heap := h₁, toks := s3.toks + ([] : List (Str × Value)).length } := by rw [← hs3]
  exact codeAny_compStart_list (loop _ es) (T.self _ _ _ _ _ st0 (loop _ es))
theorem pe_comp (hc : X.calm = true) (C : CompOk X scope N own js) (hi : PI X tg iter wi) (hg : ∀ fp s H, PG (compCx X N scope fp s H) tg g) (ht : ∀ fp s H, PIfs (compCx X N scope fp s H) ifs tc) (he : ∀ fp s H, PE (compCx X N scope fp s H) elt te)
    (hs : ∀ x, foldedSetIterable iter X.env x = pure x := by intro _; rfl) : PE X (.ListComp elt [⟨tg, iter, ifs, 0⟩] scope pos) (tComp own js wi g tc te) := by
  intro pins s σ H Q I h
  rw [eval_ListComp]
  refine wpAny_comprehension_free (use := none) rfl hs (closureFor_ok C I) C.kind C.locs (thn (hi pins s σ H _ I h) fun v s1 h1 => thn h1 fun itv s2 h2 => ?_)
  obtain ⟨it, fp, tn, J, H2, e, I2, T, st2, f2, hW⟩ := h2
  subst e
  refine comp_block (R := fun acc L => compPost (model X.prog X.w) X.A X.xe none (EP X pins σ Q) acc L) hc C hg ht he I2 T st2 f2 hW fun D L H' s' I' hm hL1 hL2 hL3 hL4 hL5 q => ?_
  obtain ⟨m, hm⟩ := hm
  refine ⟨m, hm, fun h' sb => ⟨.ref D, H', ?_, rfl, q⟩⟩
  exact I'.turned (t' := s'.toks) (fun b o hb e => (sb.2 b hb).trans e) hL1 hL2 (.inr hL3) hL4 hL5
def sComp (i own : Nat) (js : List Nat) (wi : TI) (g : TG) (tc : TT) (te : TE) : TS := fun D σ H => tComp own js wi g tc te σ H fun v H' => D.nx (σ.set i (some v)) H'
theorem ps_comp {i : Nat} {x : Str} {px : Pos} (hc : X.calm = true) (nd : X.N.Nodup) (hx : X.N[i]? = some x) (hl : X.env.kindOf x = some .local) (C : CompOk X scope N own js) (hi : PI X tg iter wi) (hg : ∀ fp s H, PG (compCx X N scope fp s H) tg g)
    (ht : ∀ fp s H, PIfs (compCx X N scope fp s H) ifs tc) (he : ∀ fp s H, PE (compCx X N scope fp s H) elt te) {spos : Pos}
    (hsw : swapsWith (.ListComp elt [⟨tg, iter, ifs, 0⟩] scope pos) (some (.Name x px)) spos.line X.env = pure true) (hs : ∀ x, foldedSetIterable iter X.env x = pure x := by intro _; rfl) :
    PS X (.Assign [.Name x px] (.ListComp elt [⟨tg, iter, ifs, 0⟩] scope pos) spos) (sComp i own js wi g tc te) := by
  intro pins s σ H D I h
  rw [exec_Assign_Name_used _ _ _ _ hsw]
  refine wpAny_bind (wpAny_standAt (wpAny_bind ?_))
  show wpAny _ X.A (do let _ ← comprehension (.ListComp elt [⟨tg, iter, ifs, 0⟩] scope pos) scope X.env _ (newList []) false (eval iter X.env) (some (assign (.Name x px) X.env))) _ _ s
  refine wpAny_bind (wpAny_mono (wpAny_comprehension_free (use := some (assign (.Name x px) X.env)) (Q := fun _ s' => SP X pins D .next s') rfl hs (closureFor_ok C I) C.kind C.locs
    (thn (hi pins s σ H _ I h) fun v s1 h1 => thn h1 fun itv s2 h2 => ?_)) (fun _ s' hq => wpAny_pure (wpAny_pure hq)) fun _ _ e => e)
  obtain ⟨it, fp, tn, J, H2, e, I2, T, st2, f2, hW⟩ := h2
  subst e
  refine comp_block (Q := fun v H' => D.nx (σ.set i (some v)) H') (R := fun acc L => compPost (model X.prog X.w) X.A X.xe (some (assign (.Name x px) X.env)) (fun _ s' => SP X pins D .next s') acc L) hc C hg ht he I2 T st2 f2 hW fun A L H' s' I' hm hL1 hL2 hL3 hL4 hL5 q => ?_
  obtain ⟨m, hm⟩ := hm
  show wpAny _ X.A (assign (.Name x px) X.env (.ref A)) _ _ _
  refine wpAny_assign_Name (store_ok2 I' nd hx (.inl hl) (v := .ref A) rfl (fun s7 I7 ⟨a, sb, ha⟩ => ?_) (.inr hl))
  have hLa : L ≠ a := by
    rcases ha with rfl | ha
    · exact hL2
    · exact (hL4 _ _ ha).symm
  refine ⟨m, hm.sameBut sb hLa, fun h' sb' => ⟨_, H', ?_, q⟩⟩
  exact I7.turned (t' := s7.toks) (fun b o hb e => (sb'.2 b hb).trans e) hL1 hL2 (.inr hL3) hL4 hL5
end
end L3
namespace L3
open PySem PySem.Spec PyProof.Rows L2
mutual
def DataAt (K : PySem.W.Frag) (H : Hp) : V → PyData → Prop
  | v, .none => v = .non
  | v, .bool b => v = .bl b
  | v, .int i => v = .int i
  | v, .str x => v = .str x
  | v, .list ds => ∃ a xs, v = .ref a ∧ Rd H a (.lst xs) ∧ DataAll K H xs ds
  | v, .tuple ds => ∃ a xs, v = .ref a ∧ H a = some (.tup xs) ∧ DataAll K H xs ds
  | _, .dict _ => False
def DataAll (K : PySem.W.Frag) (H : Hp) : List V → List PyData → Prop
  | xs, [] => xs = []
  | xs, d :: ds => ∃ y ys, xs = y :: ys ∧ DataAt K H y d ∧ DataAll K H ys ds
end
theorem SqT.same {K : PySem.W.Frag} {H H' : Hp} {a : Addr} {xs : List V} (e : Same H H') (h : SqT K H a xs) : SqT K H' a xs := by
  rcases h with (h | ⟨o, h⟩) | h
  · exact .inl (.inl (e _ _ h))
  · exact .inl (.inr ⟨o, e _ _ h⟩)
  · exact .inr h
theorem Rd.same {H H' : Hp} {a : Addr} {u : HO} (e : Same H H') (h : Rd H a u) : Rd H' a u := by
  rcases h with h | ⟨o, h⟩
  · exact .inl (e _ _ h)
  · exact .inr ⟨o, e _ _ h⟩
mutual
theorem DataAt.same {K : PySem.W.Frag} {H H' : Hp} (e : Same H H') : ∀ (d : PyData) {v : V}, DataAt K H v d → DataAt K H' v d
  | .none, _, h => by unfold DataAt at h ⊢; exact h
  | .bool _, _, h => by unfold DataAt at h ⊢; exact h
  | .int _, _, h => by unfold DataAt at h ⊢; exact h
  | .str _, _, h => by unfold DataAt at h ⊢; exact h
  | .list ds, v, h => by
    unfold DataAt at h ⊢
    obtain ⟨a, xs, h1, h2, h3⟩ := h
    exact ⟨a, xs, h1, Rd.same e h2, DataAll.same e ds h3⟩
  | .tuple ds, v, h => by
    unfold DataAt at h ⊢
    obtain ⟨a, xs, h1, h2, h3⟩ := h
    exact ⟨a, xs, h1, e _ _ h2, DataAll.same e ds h3⟩
  | .dict _, _, h => by unfold DataAt at h; exact h.elim
theorem DataAll.same {K : PySem.W.Frag} {H H' : Hp} (e : Same H H') : ∀ (ds : List PyData) {xs : List V}, DataAll K H xs ds → DataAll K H' xs ds
  | [], _, h => by unfold DataAll at h ⊢; exact h
  | d :: ds, _, h => by
    unfold DataAll at h ⊢
    obtain ⟨y, ys, h1, h2, h3⟩ := h
    exact ⟨y, ys, h1, DataAt.same e d h2, DataAll.same e ds h3⟩
end
mutual
theorem DataAt.reads {X : Cx} {pins : List (Addr × Obj)} {σ : L2.St} {H : Hp} {s : Shared} (I : Inv X pins σ H s) : ∀ (d : PyData) {v : V} {u : Value}, DataAt X.K H v d → RelV v u → ∃ as, Reads s.heap u d as
  | .none, _, u, h, r => by
    unfold DataAt at h; subst h
    cases r
    exact ⟨_, .none⟩
  | .bool b, _, u, h, r => by
    unfold DataAt at h; subst h
    cases r
    exact ⟨_, .bool b⟩
  | .int i, _, u, h, r => by
    unfold DataAt at h; subst h
    obtain ⟨t, rfl⟩ := r
    exact ⟨_, .int i t⟩
  | .str x, _, u, h, r => by
    unfold DataAt at h; subst h
    obtain ⟨t, rfl⟩ := r
    exact ⟨_, .str x t⟩
  | .list ds, _, u, h, r => by
    unfold DataAt at h
    obtain ⟨a, xs, rfl, h2, h3⟩ := h
    cases r
    obtain ⟨its, rv, ⟨o, n, e, c, _, hd⟩, _⟩ := I.list (.inl h2)
    obtain ⟨as, q⟩ := DataAll.reads I ds h3 rv
    exact ⟨_, .list e c hd (by simpa using q)⟩
  | .tuple ds, _, u, h, r => by
    unfold DataAt at h
    obtain ⟨a, xs, rfl, h2, h3⟩ := h
    cases r
    obtain ⟨its, rv, ⟨o, e, c, n, hd⟩, _⟩ := I.tuple (SqT.of h2)
    obtain ⟨as, q⟩ := DataAll.reads I ds h3 rv
    exact ⟨_, .tuple e c hd (by simpa using q)⟩
  | .dict _, _, _, h, _ => by unfold DataAt at h; exact h.elim
theorem DataAll.reads {X : Cx} {pins : List (Addr × Obj)} {σ : L2.St} {H : Hp} {s : Shared} (I : Inv X pins σ H s) : ∀ (ds : List PyData) {xs : List V} {us : List Value}, DataAll X.K H xs ds → Vals xs us → ∃ as, ReadsAll s.heap us ds as
  | [], _, us, h, r => by
    unfold DataAll at h; subst h
    cases r
    exact ⟨_, .nil⟩
  | d :: ds, _, us, h, r => by
    unfold DataAll at h
    obtain ⟨y, ys, rfl, h2, h3⟩ := h
    cases r with
    | cons r1 r2 =>
      obtain ⟨as, q⟩ := DataAt.reads I d h2 r1
      obtain ⟨bs, q'⟩ := DataAll.reads I ds h3 r2
      exact ⟨_, .cons q q'⟩
end
theorem DataAll.ints {K : PySem.W.Frag} {H : Hp} : ∀ (ns : List Int), DataAll K H (ns.map V.int) (ns.map PyData.int)
  | [] => by unfold DataAll; rfl
  | n :: ns => by
    show DataAll K H (V.int n :: ns.map V.int) (PyData.int n :: ns.map PyData.int)
    unfold DataAll
    exact ⟨_, _, rfl, by unfold DataAt; rfl, DataAll.ints ns⟩
theorem DataAll.strs {K : PySem.W.Frag} {H : Hp} : ∀ (ns : List Str), DataAll K H (ns.map V.str) (ns.map PyData.str)
  | [] => by unfold DataAll; rfl
  | n :: ns => by
    show DataAll K H (V.str n :: ns.map V.str) (PyData.str n :: ns.map PyData.str)
    unfold DataAll
    exact ⟨_, _, rfl, by unfold DataAt; rfl, DataAll.strs ns⟩
section
variable {X : Cx}
def rEqD (K : PySem.W.Frag) (n : Nat) : R2 := fun x y H Q => ∃ d e, DataAt K H x d ∧ DataAt K H y e ∧ d.canLay0 = true ∧ e.canLay0 = true ∧ min d.depth e.depth ≤ n ∧ Q (.bl (PyData.eqv d e)) H
theorem op_eqD {n : Nat} (hu : X.A.units + n < cLine) : OpR X (compareOp .Eq) (rEqD X.K n) := by
  intro pins s σ H x y v u Q I rx ry h
  obtain ⟨d, e, hd, he, l1, l2, hn, q⟩ := h
  obtain ⟨as, r1⟩ := DataAt.reads I d hd rx
  obtain ⟨bs, r2⟩ := DataAt.reads I e he ry
  exact SeqAt.compareEq_reads r1 r2 l1 l2 (by omega) ⟨.bl _, H, I, rfl, q⟩
def tyName (K : PySem.W.Frag) (H : Hp) (x : V) (T : String) : Prop := match x with
  | .non => T = "NoneType"
  | .bl _ => T = "bool"
  | .int _ => T = "int"
  | .str _ => T = "str"
  | .ref a => (T = "list" ∧ ((∃ xs, H a = some (.lst xs)) ∨ ∃ o xs, H a = some (.frz o (.lst xs)))) ∨ (T = "tuple" ∧ ∃ xs, H a = some (.tup xs)) ∨ (T = "dict" ∧ ∃ kvs, H a = some (.dK kvs))
  | _ => False
theorem tyName.of {K : PySem.W.Frag} {H : Hp} {x : V} {T : String} (h : tyName K H x T) : TyOf K H x (.type T) := by
  cases x with
  | non => cases (show T = "NoneType" from h); exact .non
  | bl b => cases (show T = "bool" from h); exact .bl b
  | int i => cases (show T = "int" from h); exact .int i
  | str z => cases (show T = "str" from h); exact .str z
  | ref a =>
    rcases h with ⟨rfl, ⟨xs, e⟩ | ⟨o, xs, e⟩⟩ | ⟨rfl, xs, e⟩ | ⟨rfl, kvs, e⟩
    · exact .lst e
    · exact .frz e
    · exact .tup e
    · exact .dK e
  | _ => exact (show False from h).elim
theorem call_isi : CallR X (.builtin "isinstance") (fun xs H Q => ∃ x S T b, xs = [x, .ty T] ∧ tyName X.K H x S ∧ PySem.W.kitOne X.K (.type S) (.type T) = some b ∧ Q (.bl b) H) := by
  intro pins s σ H xs us Q I r h
  obtain ⟨x, S, T, b, rfl, ty, e, q⟩ := h
  obtain ⟨u, w', rfl, rx, ry⟩ := vals2 r
  cases ry
  exact isinst_ok I rx ty.of e fun tk => ⟨.bl b, H, I.tok _, rfl, q⟩
theorem call_allL (hc : X.calm = true) : CallR X (.builtin "all") (fun xs H Q => ∃ (p : Addr) (bs : List Bool), xs = [.ref p] ∧ SqL X.K H p (bs.map V.bl) ∧ Q (.bl (bs.all id)) H) := by
  intro pins s σ H xs us Q I r h
  obtain ⟨p, bs, rfl, hq, q⟩ := h
  obtain ⟨u, rfl, rx⟩ := vals1 r
  cases rx
  obtain ⟨its, rv, pl, hz⟩ := I.list hq
  have hl := rv.length
  rw [List.length_map] at hl
  refine call_all_walk (wpAny_pyIter_list pl.isList ?_)
  have hp : p < s.heap.objs.size := by obtain ⟨o, n, e, _⟩ := pl; exact Heap.lt_size e
  refine ⟨s.heap.objs.size, _, _, its.toArray.size, _, _, fun i => bs.getD i true, rfl, Walks.list (by show X.A.handled = none; exact I.ok.hd hc) s.heap.objs.size p (Nat.ne_of_lt hp) its.toArray,
    ⟨⟨_, Heap.get?_push_size _ rfl, rfl, rfl⟩, pl.isList.push _⟩, fun i v s' Q' E' hv hQ => ?_, fun h' tk hk => ?_⟩
  · have hv' : its[i]? = some v := by simpa using hv
    have hi : i < its.length := (List.getElem?_eq_some_iff.mp hv').1
    obtain ⟨u', e1, r1⟩ := rv.get (x := V.bl (bs[i]'(by omega))) (i := i) (by rw [List.getElem?_map, List.getElem?_eq_getElem (by omega)]; rfl)
    rw [hv'] at e1
    cases e1
    cases r1
    refine wpAny_truthy_bool ?_
    have e2 : bs.getD i true = bs[i]'(by omega) := by rw [List.getD_eq_getElem?_getD, List.getElem?_eq_getElem (by omega)]; rfl
    have hQ' : Q' (bs.getD i true) s' := hQ
    rw [e2] at hQ'
    exact hQ'
  · have e : (List.range its.toArray.size).all (fun i => bs.getD i true) = bs.all id := by
      rw [List.size_toArray, ← hl]
      clear q hq rv hl
      rw [Bool.eq_iff_iff, List.all_eq_true, List.all_eq_true]
      constructor
      · intro h1 b hb
        obtain ⟨i, hi, rfl⟩ := List.mem_iff_getElem.mp hb
        have := h1 i (List.mem_range.mpr hi)
        rw [List.getD_eq_getElem?_getD, List.getElem?_eq_getElem hi] at this
        exact this
      · intro h1 i hi
        have hi' := List.mem_range.mp hi
        rw [List.getD_eq_getElem?_getD, List.getElem?_eq_getElem hi']
        exact h1 _ (List.getElem_mem hi')
    rw [e]
    refine ⟨.bl _, H, I.kept fun b o eb => hk b o ?_ (Heap.get?_push_of_some _ eb), rfl, q⟩
    intro z
    have : b = s.heap.objs.size := by simpa using z
    rw [this] at eb
    exact absurd (Heap.lt_size eb) (Nat.lt_irrefl _)
end
def Its (x : Str) : It := ⟨fun i _ => i < x.cps.size, fun i H v H' => H' = H ∧ ∃ c, x.cps[i]? = some c ∧ v = .str ⟨#[c]⟩, fun i _ => i = x.cps.size⟩
theorem turn_walks {P : Program} {w : World} {K : PySem.W.Frag} {tx : Str} {px : Pos} {J : It} {it : Addr} {n : Nat} {Pv : Nat → Value → Prop} {Sq : Nat → Heap → Prop}
    (W : ∀ A : Around, A.handled = none → Walks P w A it [it] [it] n Pv Sq) (hob : ∀ i h, Sq i h → ∃ o, h.get? it = some o ∧ ∀ v, o.data ≠ .cell v)
    (hgo : ∀ i H, J.go i H → i < n) (hst : ∀ i H, J.stop i H → i = n) (hy : ∀ i H u, Pv i u → ∃ x, RelV x u ∧ J.yld i H x H)
    (hself : ∀ (A : Around) (i : Nat) (s : Shared) (Q : Value → Shared → Prop) (E : Value → Shared → Prop), Sq i s.heap → Q (.ref it) s → wpAny (model P w) A (pyIter (.ref it)) Q E s) : Turn P w K (.Name tx px) J [it] it Sq where
  mem := by simp
  obj := fun i h st b hb => by
    have e : b = it := by simpa using hb
    subst e
    exact hob i h st
  keep := fun i h h' st k => (W callerA rfl).frame i h h' st k
  item := by
    intro X hP hw hK hc i pins s σ H E I hf st hg
    subst hP hw hK
    obtain ⟨f0, f1, f2, f3, f4, f5⟩ := hf it (by simp)
    refine (W X.A (I.ok.hd hc)).item i s _ _ (hgo i H hg) st fun v h' tk hv st' kk => ?_
    obtain ⟨x, rx, yx⟩ := hy i H v hv
    refine ⟨v, rfl, wpAny_pure ⟨x, H, I.turned (t' := tk) (fun b o hb e => kk b o (by simpa using hb) e) f0 f1 f3 f4 f5, rx, yx, st', fun b hb => (hf b hb).1⟩⟩
  done := by
    intro X hP hw hK hc i pins s σ H E I hf st hg
    subst hP hw hK
    obtain ⟨f0, f1, f2, f3, f4, f5⟩ := hf it (by simp)
    have e : i = n := hst i H hg
    subst e
    exact (W X.A (I.ok.hd hc)).done s _ _ st fun h' tk kk => ⟨rfl, I.turned (t' := tk) (fun b o hb e => kk b o (by simpa using hb) e) f0 f1 f3 f4 f5⟩
  self := hself
theorem turn_str {P : Program} {w : World} {K : PySem.W.Frag} {tx : Str} {px : Pos} (x : Str) (t : Tok) (it : Addr) : (x.cps.all (· < 128) = true → Turn P w K (.Name tx px) (Its x) [it] it (fun i h => h.IsStrIter it "str_ascii_iterator" x t i)) ∧
    Turn P w K (.Name tx px) (Its x) [it] it (fun i h => h.IsStrIter it "str_iterator" x t i) := by
  have hob : ∀ (ty : String) (i : Nat) (h : Heap), h.IsStrIter it ty x t i → ∃ o, h.get? it = some o ∧ ∀ v, o.data ≠ .cell v := fun ty i h st => by
    obtain ⟨o, e, c, d⟩ := st
    exact ⟨o, e, fun v z => by rw [d] at z; cases z⟩
  have hy : ∀ i H u, SignAt x i u → ∃ v, RelV v u ∧ (Its x).yld i H v H := fun i H u ⟨c, tk, e, q⟩ => ⟨.str ⟨#[c]⟩, ⟨tk, q⟩, rfl, c, e, rfl⟩
  exact ⟨fun _ => turn_walks (fun A hA => Walks.strAscii hA it x t) (hob _) (fun i H h => h) (fun i H h => h) hy fun A i s Q E st q => wpAny_pyIter_striter_ascii st q,
    turn_walks (fun A hA => Walks.strWide hA it x t) (hob _) (fun i H h => h) (fun i H h => h) hy fun A i s Q E st q => wpAny_pyIter_striter_wide st q⟩
def iStr (tl : TE) : TI := fun σ H R => tl σ H fun x H1 => ∃ z, x = .str z ∧ R (Its z) H1
theorem pi_str {X : Cx} {l : Expr} {tl : TE} {tx : Str} {px : Pos} (hl : PE X l tl) : PI X (.Name tx px) l (iStr tl) := by
  intro pins s σ H R I h
  refine thn (hl pins s σ H _ I h) fun v s1 ⟨x, H1, I1, r1, q1⟩ => ?_
  obtain ⟨z, rfl, q⟩ := q1
  obtain ⟨t, rfl⟩ := r1
  have fp : ∀ b ∈ [s1.heap.objs.size], FpOk X pins H1 b := fun b hb => by
    have e : b = s1.heap.objs.size := by simpa using hb
    subst e
    exact I1.fpOk (Nat.le_refl _) (I1.hok.fresh (Nat.le_refl _))
  cases ha : z.cps.all (· < 128)
  · exact wpAny_pyIter_wide ha ⟨s1.heap.objs.size, [s1.heap.objs.size], _, _, H1, rfl, I1.kept (t' := s1.toks) fun b o e => Heap.get?_push_of_some _ e, (turn_str z t _).2, ⟨_, Heap.get?_push_size _ rfl, rfl, rfl⟩, fp, q⟩
  · exact wpAny_pyIter_ascii ha ⟨s1.heap.objs.size, [s1.heap.objs.size], _, _, H1, rfl, I1.kept (t' := s1.toks) fun b o e => Heap.get?_push_of_some _ e, (turn_str z t _).1 ha, ⟨_, Heap.get?_push_size _ rfl, rfl, rfl⟩, fp, q⟩
structure Yields (J : It) (xs : List V) (P : Hp → Prop) : Prop where
  go : ∀ i H, P H → i < xs.length → J.go i H
  stop : ∀ H, P H → J.stop xs.length H
  yld : ∀ i H x H', P H → i < xs.length → J.yld i H x H' → H' = H ∧ xs[i]? = some x
theorem yields_list {K : PySem.W.Frag} {a : Addr} {xs : List V} : Yields (Itl K a) xs (fun H => SqL K H a xs) where
  go := fun i H h hi => ⟨xs, xs[i], h, by simp [hi]⟩
  stop := fun H h => ⟨xs, h, Nat.le_refl _⟩
  yld := fun i H x H' h _ y => ⟨y.1, y.2 xs h⟩
theorem yields_tup {K : PySem.W.Frag} {a : Addr} {xs : List V} : Yields (Itt K a) xs (fun H => SqT K H a xs) where
  go := fun i H h hi => ⟨xs, xs[i], h, by simp [hi]⟩
  stop := fun H h => ⟨xs, h, Nat.le_refl _⟩
  yld := fun i H x H' h _ y => ⟨y.1, y.2 xs h⟩
theorem yields_range {lo : Int} {n : Nat} {P : Hp → Prop} : Yields (Itr lo n) ((List.range n).map fun i => V.int (lo + (i : Nat))) P where
  go := fun i H _ hi => (by simpa using hi : i < n)
  stop := fun H _ => by show n ≤ _; simp
  yld := fun i H x H' _ hi y => by
    obtain ⟨e1, e2⟩ := y
    subst e2
    have hi' : i < n := by simpa using hi
    exact ⟨e1, by rw [List.getElem?_map, List.getElem?_range hi']; rfl⟩
theorem yields_str {x : Str} {P : Hp → Prop} : Yields (Its x) (x.cps.toList.map fun c => V.str ⟨#[c]⟩) P where
  go := fun i H _ hi => (by simpa using hi : i < x.cps.size)
  stop := fun H _ => by show _ = x.cps.size; simp
  yld := fun i H v H' _ _ y => by
    obtain ⟨e1, c, e2, e3⟩ := y
    subst e3
    exact ⟨e1, by rw [List.getElem?_map, Array.getElem?_toList, e2]; rfl⟩
theorem comp_inv {J : It} {xs : List V} {P : Hp → Prop} {D : Addr} {g : TG} {tc : TT} {te : TE} {Q : Hp → Prop} {σ : L2.St} {H : Hp} (Y : Yields J xs P) (Pv : Nat → List V → L2.St → Hp → Prop) (h0 : Pv 0 [] σ H)
    (hD : ∀ i ys σ H, Pv i ys σ H → P H ∧ H D = some (.lst ys) ∧ ys.length ≤ i) (hz : xs.length < sizeLine)
    (step : ∀ i x ys σ H, xs[i]? = some x → Pv i ys σ H → g x σ H fun σ2 H2 => tc σ2 H2 fun b H3 => if b = true then te σ2 H3 fun y H4 => H4 D = some (.lst ys) ∧ Pv (i + 1) (ys ++ [y]) σ2 (upd H4 D (.lst (ys ++ [y]))) else Pv (i + 1) ys σ2 H3)
    (hq : ∀ ys σ H, Pv xs.length ys σ H → Q H) : ∃ W : Nat → Nat → List V → L2.St → Hp → Prop, (∃ m, W 0 m [] σ H) ∧ CompW D J g tc te Q W := by
  refine ⟨fun i m ys σ H => m = xs.length - i ∧ i ≤ xs.length ∧ Pv i ys σ H, ⟨xs.length, by simp, Nat.zero_le _, h0⟩, ?_⟩
  rintro i m ys σ H ⟨rfl, hi, p⟩
  obtain ⟨h1, h2, h3⟩ := hD i ys σ H p
  refine ⟨h2, by omega, ?_⟩
  by_cases hlt : i < xs.length
  · refine .inr ⟨Y.go i H h1 hlt, fun y σ2 H4 => H4 D = some (.lst ys) ∧ Pv (i + 1) (ys ++ [y]) σ2 (upd H4 D (.lst (ys ++ [y]))), fun σ2 H3 => Pv (i + 1) ys σ2 H3, fun y σ2 H4 q => ⟨q.1, xs.length - (i + 1), by omega, rfl, hlt, q.2⟩,
      fun σ2 H3 q => ⟨xs.length - (i + 1), by omega, rfl, hlt, q⟩, fun x H1 y => ?_⟩
    obtain ⟨e, y'⟩ := Y.yld i H x H1 h1 hlt y
    subst e
    exact step i x ys σ _ y' p
  · have e : i = xs.length := by omega
    subst e
    exact .inl ⟨Y.stop H h1, hq ys σ H p⟩
end L3
namespace L3
open PySem PySem.Spec PyProof.Rows L2
theorem comp_grow {J : It} {xs : List V} {P : Hp → Prop} {D : Addr} {g : TG} {tc : TT} {te : TE} {Q : Hp → Prop} {σ : L2.St} {H : Hp} (hD : H D = none) (Y : Yields J xs P) (S : L2.St → Prop) (f : V → Option V) (h0 : S σ) (hP : ∀ H', Same H H' → P H') (hz : xs.length < sizeLine)
    (step : ∀ (x : V) (ys : List V) (σ : L2.St) (H' : Hp) (R1 : L2.St → V → Hp → Prop) (R0 : L2.St → Hp → Prop), x ∈ xs → S σ → Same H H' → (∀ σ2 y H4, S σ2 → f x = some y → Same H' H4 → R1 σ2 y H4) → (∀ σ2 H3, S σ2 → f x = none → Same H' H3 → R0 σ2 H3) →
      g x σ H' fun σ2 H2 => tc σ2 H2 fun b H3 => if b = true then te σ2 H3 fun y H4 => R1 σ2 y H4 else R0 σ2 H3)
    (hq : ∀ H', Same H H' → H' D = some (.lst (xs.filterMap f)) → Q H') : ∃ W : Nat → Nat → List V → L2.St → Hp → Prop, (∃ m, W 0 m [] σ (upd H D (.lst []))) ∧ CompW D J g tc te Q W := by
  have up : ∀ {H' : Hp} {o : HO}, Same H H' → Same H (upd H' D o) := fun {H' o} s b ob e => by
    rw [upd_ne (ne_of_none e hD)]
    exact s b ob e
  refine comp_inv Y (fun i ys σ H' => Same H H' ∧ H' D = some (.lst ys) ∧ ys = (xs.take i).filterMap f ∧ S σ) ⟨up (Same.refl H), upd_same, by simp, h0⟩ (fun i ys σ H' ⟨s, e, e2, _⟩ => ⟨hP H' s, e, ?_⟩) hz (fun i x ys σ H' hx ⟨s, e, e2, hS⟩ => ?_) fun ys σ H' ⟨s, e, e2, _⟩ => ?_
  · rw [e2]
    exact Nat.le_trans (List.length_filterMap_le _ _) (by rw [List.length_take]; omega)
  · have hi : i < xs.length := (List.getElem?_eq_some_iff.mp hx).1
    have et : xs.take (i + 1) = xs.take i ++ [x] := by rw [List.take_succ, hx]; rfl
    refine step x ys σ H' _ _ (List.mem_of_getElem? hx) hS s (fun σ2 y H4 h2 hf s4 => ⟨s4 _ _ e, up (s.trans s4), upd_same, ?_, h2⟩) fun σ2 H3 h2 hf s3 => ⟨s.trans s3, s3 _ _ e, ?_, h2⟩
    · rw [et, List.filterMap_append, ← e2]; simp [hf]
    · rw [et, List.filterMap_append, ← e2]; simp [hf]
  · refine hq H' s ?_
    rw [e, e2, List.take_length]
end L3
namespace L3
open PySem PySem.Spec PyProof.Rows L2
section
variable {X : Cx}
theorem op_mul_str : OpR X (binaryOp .Mult) (fun x y H Q => ∃ z n, x = .str z ∧ y = .int n ∧ n < 1073741824 ∧ -1073741824 < n ∧ z.length * n.toNat ≤ 1048576 ∧ Q (.str (PySem.Txt.mul z n)) H) := by
  intro pins s σ H x y v u Q I rx ry h
  obtain ⟨z, n, rfl, rfl, h1, h2, h3, q⟩ := h
  obtain ⟨t, rfl⟩ := rx
  obtain ⟨t', rfl⟩ := ry
  refine SB.mul ⟨?_, fun hn _ hc => ?_, fun _ _ => ?_⟩ fun t'' k => ⟨.str _, H, I.tok _, ⟨_, rfl⟩, q⟩
  · rw [decide_eq_false (by omega), decide_eq_false (by omega)]; rfl
  · have hn' : 0 < n := by omega
    have e : (z.length : Int) * n ≤ 1048576 := by
      have : ((z.length * n.toNat : Nat) : Int) ≤ 1048576 := by omega
      rw [Int.natCast_mul, Int.toNat_of_nonneg (by omega)] at this
      exact this
    have e2 : (2 ^ 63 - 1) / n < z.length := hc
    have e3 := Int.lt_mul_of_ediv_lt hn' e2
    omega
  · unfold Builtin.Str.tooLong
    have hsz : sizeLine = 16777216 := sizeLine_eq
    exact decide_eq_false (by omega)
def rSplit : V → List V → Hp → VK → Prop := fun x xs H Q => ∃ z y, x = .str z ∧ xs = [.str y] ∧ 0 < y.length ∧ z.length ≤ 1048576 ∧ ∀ p, H p = none → Q (.ref p) (upd H p (.lst ((PySem.Txt.split z y).map V.str)))
theorem vals_strs : ∀ (l : List (Str × Tok)), Vals ((l.map (·.1)).map V.str) (strValues l)
  | [] => .nil
  | (x, t) :: r => .cons ⟨t, rfl⟩ (vals_strs r)
end
end L3
namespace L3
open PySem PySem.Spec PyProof.Rows L2
section
variable {X : Cx}
theorem split_len (z y : Str) (hy : 0 < y.length) (hz : z.length ≤ 1048576) : (PySem.Txt.split z y).length ≤ sizeLine := by
  have := PyProof.Rows.split_weight z y hy
  rw [sizeLine_eq]
  omega
theorem mt_split : MtR X "str.split" rSplit := by
  intro pins s σ H x xs v us Q I rx rv h
  obtain ⟨z, y, rfl, rfl, hy, hz, q⟩ := h
  obtain ⟨t, rfl⟩ := rx
  obtain ⟨u', rfl, u, rfl⟩ := vals1 rv
  have hl := split_len z y hy hz
  have fin : ∀ (l : List (Str × Tok)) (k : Nat), l.map (·.1) = PySem.Txt.split z y → EP X pins σ Q (.ref s.heap.objs.size) { s with heap := s.heap.push { cls := .type "list", data := .seq (strValues l).toArray }, toks := k } := fun l k e =>
    ⟨.ref _, _, I.lnew (its := strValues l) (t' := k) (by rw [← e]; exact vals_strs l) (by rw [List.length_map]; exact hl), rfl, q _ I.fresh⟩
  have hy0 : (y.length == 0) = false := by
    rw [beq_eq_false_iff_ne]
    omega
  have hzl : z.length ≤ sizeLine := by rw [sizeLine_eq]; omega
  cases h1 : (decide (z.length < y.length) || decide (Builtin.Str.strKind z < Builtin.Str.strKind y))
  · cases hf : (Builtin.Str.occurrences z y 0 z.length (z.length + 1)).isEmpty
    · have e : PySem.Txt.split z y = Builtin.Str.partsBetween z (Builtin.Str.occurrences z y 0 z.length (z.length + 1)) y.length := (if_neg (ne_true_of_eq_false h1)).trans (if_neg (ne_true_of_eq_false hf))
      refine call_meets F.slot_str_split (typeIs_str _ _ _) F.entry_str_split (F.args_str_split_2 _ _) (meets_str_split_sep z y t u h1 hy0 hf hzl (by rw [← e]; exact hl)) ?_
      show wants _ _ _ { s with toks := _, heap := s.heap.push { cls := .type "list", data := .seq (strsFrom s.toks (Builtin.Str.partsBetween z (Builtin.Str.occurrences z y 0 z.length (z.length + 1)) y.length)).toArray } }
      rw [strsFrom_eq]
      exact fin _ _ ((numbered_texts _ _).trans e.symm)
    · exact call_meets F.slot_str_split (typeIs_str _ _ _) F.entry_str_split (F.args_str_split_2 _ _) (meets_str_split_not_found z y t u h1 hy0 hf)
        (fin [(z, t)] s.toks ((if_neg (ne_true_of_eq_false h1)).trans (if_pos hf)).symm)
  · exact call_meets F.slot_str_split (typeIs_str _ _ _) F.entry_str_split (F.args_str_split_2 _ _) (meets_str_split_cannot_occur z y t u h1) (fin [(z, t)] s.toks (if_pos h1).symm)
theorem strs_vals : ∀ (xs : List Str) {its : List Value}, Vals (xs.map V.str) its → ∃ l : List (Str × Tok), its = strValues l ∧ l.map (·.1) = xs
  | [], _, r => by
    cases r
    exact ⟨[], rfl, rfl⟩
  | x :: xs, _, r => by
    cases r with
    | cons r1 r2 =>
      obtain ⟨t, rfl⟩ := r1
      obtain ⟨l, rfl, e⟩ := strs_vals xs r2
      exact ⟨(x, t) :: l, rfl, by rw [List.map_cons, e]⟩
def rJoin (K : PySem.W.Frag) : V → List V → Hp → VK → Prop := fun x vs H Q => ∃ y p xs, x = .str y ∧ vs = [.ref p] ∧ SqL K H p (xs.map V.str) ∧ JoinOk y xs = true ∧ Q (.str (PySem.Txt.join y xs)) H
theorem mt_join : MtR X "str.join" (rJoin X.K) := by
  intro pins s σ H x vs v us Q I rx rv h
  obtain ⟨y, p, xs, rfl, rfl, hq, hok, q⟩ := h
  obtain ⟨t, rfl⟩ := rx
  obtain ⟨u', rfl, ru⟩ := vals1 rv
  cases ru
  obtain ⟨its, r, pl, hz⟩ := I.list hq
  obtain ⟨l, rfl, e⟩ := strs_vals xs r
  exact SC.join pl.isList e hok fun t' k => ⟨.str _, H, I.tok _, ⟨_, rfl⟩, q⟩
abbrev TF := L2.St → Hp → Str → (Str → Hp → Prop) → Prop
def PF (X : Cx) (es : List Expr) (t : TF) : Prop :=
  ∀ (pins : List (Addr × Obj)) (s : Shared) (σ : L2.St) (H : Hp) (acc : Str) (Q : Str → Hp → Prop), Inv X pins σ H s → t σ H acc Q → wpAny (model X.prog X.w) X.A (joinParts acc (evalEach es X.env)) (EP X pins σ fun v H' => ∃ z, v = .str z ∧ Q z H') X.xe s
def tfNil : TF := fun _ H acc Q => acc.length ≤ sizeLine ∧ Q acc H
def tfCons (te : TE) (t : TF) : TF := fun σ H acc Q => te σ H fun x H1 => ∃ y, x = .str y ∧ (acc ++ y).length ≤ sizeLine ∧ t σ H1 (acc ++ y) Q
theorem pf_nil : PF X [] tfNil := fun _ _ _ H acc _ I h => joinParts_nil ⟨.str acc, H, I.tok _, ⟨_, rfl⟩, acc, rfl, h.2⟩ h.1
theorem pf_cons {e : Expr} {es : List Expr} {te : TE} {t : TF} (he : PE X e te) (hr : PF X es t) : PF X (e :: es) (tfCons te t) := by
  intro pins s σ H acc Q I h
  refine joinParts_cons (thn (he pins s σ H _ I h) fun v s1 ⟨x, H1, I1, r1, y, ex, hz, q1⟩ => ?_)
  subst ex
  obtain ⟨tk, rfl⟩ := r1
  exact ⟨hz, hr pins s1 σ H1 (acc ++ y) Q I1 q1⟩
def tFstr (t : TF) : TE := fun σ H Q => t σ H Str.empty fun z H' => Q (.str z) H'
theorem pe_fstr {e e2 : Expr} {es : List Expr} {t : TF} {pos : Pos} (h : PF X (e :: e2 :: es) t) : PE X (.JoinedStr (e :: e2 :: es) pos) (tFstr t) := by
  intro pins s σ H Q I hq
  refine JoinedStr_many (thn (h pins s σ H Str.empty _ I hq) fun v s1 ⟨x, H1, I1, r1, z, ez, q⟩ => ?_)
  subst ez
  exact ⟨.str z, H1, I1, r1, q⟩
def tFmt (te : TE) : TE := fun σ H Q => te σ H fun x H1 => match x with
  | .str z => z.length ≤ sizeLine ∧ Q (.str z) H1
  | .int i => i.natAbs.log2 < 1920 ∧ Q (.str (toString i)) H1
  | _ => False
theorem pe_fmt {e : Expr} {te : TE} {pos : Pos} (he : PE X e te) : PE X (.FormattedValue e (-1) none pos) (tFmt te) := by
  intro pins s σ H Q I h
  refine FormattedValue_plain (thn (he pins s σ H _ I h) fun v s1 ⟨x, H1, I1, r1, q1⟩ => ?_)
  cases x with
  | str z =>
    obtain ⟨t, rfl⟩ := r1
    exact formatField_str (fun t' tk => ⟨.str z, H1, I1.tok _, ⟨_, rfl⟩, q1.2⟩) q1.1
  | int i =>
    obtain ⟨t, rfl⟩ := r1
    exact formatField_int_small q1.1 ⟨.str _, H1, I1.tok _, ⟨_, rfl⟩, q1.2⟩
  | _ => exact (show False from q1).elim
theorem call_intT : CallR X (.type "int") (fun xs H Q => ∃ z n, xs = [.str z] ∧ PySem.intText? z = some n ∧ z.length ≤ 640 ∧ Q (.int n) H) := by
  intro pins s σ H xs us Q I r h
  obtain ⟨z, n, rfl, hn, hl, q⟩ := h
  obtain ⟨u, rfl, t, rfl⟩ := vals1 r
  exact PySem.W.KIN.call_text hn hl ⟨.int n, H, I.tok _, ⟨_, rfl⟩, q⟩
end
end L3
namespace L3
open PySem PySem.Spec PyProof.Rows L2
section
variable (K : PySem.W.Frag)
theorem kit_str_str : PySem.W.kitOne K (.type "str") (.type "str") = some true := by kernel_rfl
theorem kit_non_str : PySem.W.kitOne K (.type "NoneType") (.type "str") = some false := by kernel_rfl
theorem kit_bl_str : PySem.W.kitOne K (.type "bool") (.type "str") = some false := by kernel_rfl
theorem kit_int_str : PySem.W.kitOne K (.type "int") (.type "str") = some false := by kernel_rfl
theorem kit_list_str : PySem.W.kitOne K (.type "list") (.type "str") = some false := by kernel_rfl
theorem kit_tuple_str : PySem.W.kitOne K (.type "tuple") (.type "str") = some false := by kernel_rfl
theorem kit_int_int : PySem.W.kitOne K (.type "int") (.type "int") = some true := by kernel_rfl
theorem kit_int_bool : PySem.W.kitOne K (.type "int") (.type "bool") = some false := by kernel_rfl
theorem kit_list_list : PySem.W.kitOne K (.type "list") (.type "list") = some true := by kernel_rfl
theorem kit_tuple_tuple : PySem.W.kitOne K (.type "tuple") (.type "tuple") = some true := by kernel_rfl
end
theorem occ_one (g : Str) (c : Nat) : (!(Builtin.Str.occurrences g ⟨#[c]⟩ 0 g.length 1).isEmpty) = g.cps.toList.contains c := by
  have key : ∀ i, StrLaws.At g ⟨#[c]⟩ g.length i ↔ g.cps.toList[i]? = some c := fun i => by
    unfold StrLaws.At
    rw [StrLaws.subAt_eq]
    have hl : g.cps.toList.length = g.length := by simp [Str.length]
    have h1 : (⟨#[c]⟩ : Str).length = 1 := rfl
    have h2 : (⟨#[c]⟩ : Str).cps.toList = [c] := rfl
    rw [h1, h2]
    constructor
    · rintro ⟨h3, h4⟩
      have hi : i < g.cps.toList.length := by omega
      rw [List.drop_eq_getElem_cons hi] at h4
      simp only [List.take_succ_cons, List.take_zero] at h4
      have h5 := eq_of_beq h4
      rw [List.getElem?_eq_getElem hi]
      exact congrArg some (List.cons.inj h5).1
    · intro h3
      obtain ⟨hi, h4⟩ := List.getElem?_eq_some_iff.mp h3
      refine ⟨by omega, ?_⟩
      rw [List.drop_eq_getElem_cons hi]
      simp [h4]
  rcases StrLaws.occ_head g ⟨#[c]⟩ 1 (Nat.le_refl _) with ⟨e, h⟩ | ⟨i, r, e, h, _⟩
  · rw [e]
    have : g.cps.toList.contains c = false := by
      rw [Bool.eq_false_iff]
      intro hc
      obtain ⟨i, hi, e2⟩ := List.mem_iff_getElem.mp (List.contains_iff_mem.mp hc)
      exact h i ((key i).mpr (by rw [List.getElem?_eq_getElem hi, e2]))
    rw [this]
    rfl
  · rw [e]
    have : g.cps.toList.contains c = true := List.contains_iff_mem.mpr (List.mem_of_getElem? ((key i).mp h))
    rw [this]
    rfl
theorem Same.upd {H H' : Hp} {a : Addr} {o : HO} (s : Same H H') (h : H a = none) : Same H (L2.upd H' a o) := fun b ob e => by
  rw [upd_ne (ne_of_none e h)]
  exact s b ob e
theorem Same.upd0 {H : Hp} {a : Addr} {o : HO} (h : H a = none) : Same H (L2.upd H a o) := Same.upd (Same.refl H) h
theorem at_sign {z : Str} {i : Int} (h0 : 0 ≤ i) (h1 : i < z.length) : ∃ c, atI z.cps.toList i = some c := by
  have hl : z.cps.toList.length = z.length := by simp [Str.length]
  have hk : i.toNat < z.cps.toList.length := by omega
  have e : (i.toNat : Int) = i := Int.toNat_of_nonneg h0
  have q := atI_nat (xs := z.cps.toList) (j := i.toNat) (List.getElem?_eq_getElem hk)
  rw [e] at q
  exact ⟨_, q⟩
theorem vals_of : ∀ {its : List Value} {xs : List V}, its.map absV = xs.map some → Vals xs its
  | [], [], _ => .nil
  | u :: us, x :: xs, h => by
    rw [List.map_cons, List.map_cons] at h
    injection h with h1 h2
    refine .cons ?_ (vals_of h2)
    cases u <;> first
      | (injection h1 with h1; subst h1; first | rfl | exact ⟨_, rfl⟩)
      | cases h1
end L3
namespace L3
open PySem PySem.Spec PyProof.Rows L2
def varB (sc : Scope) (M : List Str) (i : Nat) (x : Str) : Bool :=
  (M[i]? == some x) && (sc.names.lookup x == some .local || sc.names.lookup x == some .cell || sc.names.lookup x == some .free) && !(x == ("__debug__" : Str)) && !(x == ("__classdict__" : Str))
def setB (sc : Scope) (M : List Str) (i : Nat) (x : Str) : Bool := (M[i]? == some x) && decide M.Nodup && sc.names.lookup x == some .local
def glB (sc : Scope) (x : Str) : Bool := (sc.names.lookup x == some .globalImplicit) && !(x == ("__debug__" : Str)) && !(x == ("__name__" : Str))
def relabelS (scope sc : Scope) : Scope :=
  { scope with names := scope.names.map fun (n, k) => if (k == .free && sc.kind == .function && sc.names.lookup n == some .cell) then (n, .cell) else (n, k) }
section
variable {X : Cx} {i : Nat} {x : Str} {pos : Pos} {sc : Scope} {M : List Str}
theorem pvN (h1 : X.env.scope = sc) (h2 : X.N = M) (hb : varB sc M i x = true) : PE X (.Name x pos) (tVar i) := by
  unfold varB at hb
  simp only [Bool.and_eq_true, Bool.or_eq_true, Bool.not_eq_true', beq_iff_eq] at hb
  obtain ⟨⟨⟨a1, a2⟩, a3⟩, a4⟩ := hb
  refine pe_var (by rw [h2]; exact a1) ?_ a3 a4
  unfold Vis
  rw [h1]
  rcases a2 with (a2 | a2) | a2
  · exact .inl a2
  · exact .inr (.inl a2)
  · exact .inr (.inr a2)
theorem pvA (i : Nat) (sc : Scope) (M : List Str) (h1 : X.env.scope = sc) (h2 : X.N = M) (hb : varB sc M i x = true := by decide +kernel) : PE X (.Name x pos) (tVar i) := pvN h1 h2 hb
theorem pgN (h1 : X.env.scope = sc) (h2 : X.N = M) (hb : setB sc M i x = true) : PG X (.Name x pos) (gName i) := by
  unfold setB at hb
  simp only [Bool.and_eq_true, decide_eq_true_eq, beq_iff_eq] at hb
  obtain ⟨⟨a1, a2⟩, a3⟩ := hb
  have l : X.env.scope.names.lookup x = some .local := by rw [h1]; exact a3
  exact pg_name (by rw [h2]; exact a2) (by rw [h2]; exact a1) (.inl l) (.inr l)
variable {e : Expr} {te : TE} {pos' : Pos}
theorem psN (h1 : X.env.scope = sc) (h2 : X.N = M) (hb : setB sc M i x = true) (he : PE X e te) (hs : swapsWith e (some (.Name x pos')) pos.line X.env = pure false := by rfl) : PS X (.Assign [.Name x pos'] e pos) (tAsg te (gName i)) := by
  unfold setB at hb
  simp only [Bool.and_eq_true, decide_eq_true_eq, beq_iff_eq] at hb
  obtain ⟨⟨a1, a2⟩, a3⟩ := hb
  have l : X.env.scope.names.lookup x = some .local := by rw [h1]; exact a3
  exact ps_set (by rw [h2]; exact a2) (by rw [h2]; exact a1) (.inl l) he hs (.inr l)
theorem glN (h1 : X.env.scope = sc) (hb : glB sc x = true) : Gl X x ∧ (x == ("__debug__" : Str)) = false ∧ x ≠ "__name__" := by
  unfold glB at hb
  simp only [Bool.and_eq_true, Bool.not_eq_true', beq_iff_eq] at hb
  obtain ⟨⟨a1, a2⟩, a3⟩ := hb
  refine ⟨?_, a2, fun z => ?_⟩
  · show X.env.scope.names.lookup x = _
    rw [h1]
    exact a1
  · rw [beq_eq_false_iff_ne] at a3
    exact a3 z
end
section
variable {X : Cx} {CX : CXT} {k : Nat} {f : Addr} {fd : FuncData} {ps : List Str} {sp : Sp} {dvs : List V} {ds : List Value} {E : XK} {x : Str} {p pos : Pos} {e : Expr} {es : List Expr} {t : TA} {sc : Scope} {r : List V → Hp → VK → Prop} {id T : String}
theorem pe_callN (F : FnOk X.prog X.w X.K X.mg X.base CX k f fd ps sp) (hr : Room k X.A) (h1 : X.env.scope = sc) (hg : glB sc x = true) (hm : X.mg x = some (.ref f)) (hk : PySem.W.keepIn X.K (.ref f) = true) (hb : Binds X.K fd ps ds) (hd : Vals dvs ds) (hx : Passes CX X E)
    (ha : PA X (e :: es) t) (he : starEach (e :: es) X.env = (false, eval e X.env) :: starEach es X.env := by rfl) (hpl : (backTo pos (starEach es X.env)).any (·.1) = false := by rfl) : PE X (.Call (.Name x p) (e :: es) [] pos) (tCall sp dvs E t) :=
  pe_call F hr (glN h1 hg).1 hm hk hb hd hx ha (glN h1 hg).2.1 he hpl
theorem pe_callBN (hc : CallR X (.builtin id) r) (h1 : X.env.scope = sc) (hg : glB sc x = true) (hm : X.mg x = none) (hv : bootBuiltins x = some (.builtin id)) (ha : PA X (e :: es) t)
    (he : starEach (e :: es) X.env = (false, eval e X.env) :: starEach es X.env := by rfl) (hpl : (backTo pos (starEach es X.env)).any (·.1) = false := by rfl) : PE X (.Call (.Name x p) (e :: es) [] pos) (tCB r t) :=
  pe_callB hc (glN h1 hg).1 hm hv ha (glN h1 hg).2.2 (glN h1 hg).2.1 he hpl
theorem pe_callTyN (hc : CallR X (.type T) r) (h1 : X.env.scope = sc) (hg : glB sc x = true) (hm : X.mg x = none) (hv : bootBuiltins x = some (.type T)) (ha : PA X (e :: es) t)
    (he : starEach (e :: es) X.env = (false, eval e X.env) :: starEach es X.env := by rfl) (hpl : (backTo pos (starEach es X.env)).any (·.1) = false := by rfl) : PE X (.Call (.Name x p) (e :: es) [] pos) (tCB r t) :=
  pe_callTy hc (glN h1 hg).1 hm hv ha (glN h1 hg).2.2 (glN h1 hg).2.1 he hpl
theorem pe_globN {v : V} {u : Value} (h1 : X.env.scope = sc) (hg : glB sc x = true) (hm : X.mg x = some u) (r : RelV v u) : PE X (.Name x pos) (tC v) := pe_glob (glN h1 hg).1 hm r (glN h1 hg).2.1
theorem pe_bltN {v : V} {u : Value} (h1 : X.env.scope = sc) (hg : glB sc x = true) (hm : X.mg x = none) (hv : bootBuiltins x = some u) (r : RelV v u) : PE X (.Name x pos) (tC v) := pe_bltn (glN h1 hg).1 hm hv r (glN h1 hg).2.2 (glN h1 hg).2.1
theorem glR (h1 : X.env.scope = sc) (hg : glB sc x = true) : Gl X x := (glN h1 hg).1
end
theorem bt_len : bootBuiltins "len" = some (.builtin "len") := by decide +kernel
theorem bt_all : bootBuiltins "all" = some (.builtin "all") := by decide +kernel
theorem bt_isinstance : bootBuiltins "isinstance" = some (.builtin "isinstance") := by decide +kernel
theorem bt_str : bootBuiltins "str" = some (.type "str") := by decide +kernel
theorem bt_int : bootBuiltins "int" = some (.type "int") := by decide +kernel
theorem bt_bool : bootBuiltins "bool" = some (.type "bool") := by decide +kernel
theorem bt_list : bootBuiltins "list" = some (.type "list") := by decide +kernel
theorem bt_tuple : bootBuiltins "tuple" = some (.type "tuple") := by decide +kernel
theorem bt_set : bootBuiltins "set" = some (.type "set") := by decide +kernel
theorem bt_enumerate : bootBuiltins "enumerate" = some (.type "enumerate") := by decide +kernel
end L3
namespace L3
open PySem PySem.Spec PyProof.Rows L2
theorem psN_comp {X : Cx} {elt tg iter : Expr} {ifs : List Expr} {scope : Scope} {pos : Pos} {N : List Str} {own : Nat} {js : List Nat} {wi : TI} {g : TG} {tc : TT} {te : TE} {i : Nat} {x : Str} {px : Pos} {sc : Scope} {M : List Str} (hc : X.calm = true) (h1 : X.env.scope = sc) (h2 : X.N = M) (hb : setB sc M i x = true)
    (C : CompOk X scope N own js) (hi : PI X tg iter wi) (hg : ∀ fp s H, PG (compCx X N scope fp s H) tg g) (ht : ∀ fp s H, PIfs (compCx X N scope fp s H) ifs tc) (he : ∀ fp s H, PE (compCx X N scope fp s H) elt te) {spos : Pos}
    (hsw : swapsWith (.ListComp elt [⟨tg, iter, ifs, 0⟩] scope pos) (some (.Name x px)) spos.line X.env = pure true) (hs : ∀ x, foldedSetIterable iter X.env x = pure x := by intro _; rfl) :
    PS X (.Assign [.Name x px] (.ListComp elt [⟨tg, iter, ifs, 0⟩] scope pos) spos) (sComp i own js wi g tc te) := by
  unfold setB at hb
  simp only [Bool.and_eq_true, decide_eq_true_eq, beq_iff_eq] at hb
  obtain ⟨⟨a1, a2⟩, a3⟩ := hb
  exact ps_comp hc (by rw [h2]; exact a2) (by rw [h2]; exact a1) (by show X.env.scope.names.lookup x = _; rw [h1]; exact a3) C hi hg ht he hsw hs
end L3
namespace L4
open PySem PySem.Spec PyProof.Rows L2 L3
structure Gr (D H D' H' : Hp) : Prop where
  dd : Same D D'
  hh : Same H H'
  dh : Same D' H'
  nw : ∀ b o, H b = some o → D b = none → D' b = none
section
variable {D D' D'' H H' H'' : Hp} {p : Addr} {o : HO} {K : PySem.W.Frag}
theorem Gr.refl (s : Same D H) : Gr D H D H := ⟨Same.refl D, Same.refl H, s, fun _ _ _ n => n⟩
theorem Gr.trans (a : Gr D H D' H') (b : Gr D' H' D'' H'') : Gr D H D'' H'' :=
  ⟨a.dd.trans b.dd, a.hh.trans b.hh, b.dh, fun c o e n => b.nw c o (a.hh c o e) (a.nw c o e n)⟩
theorem Gr.heap (s : Same D H) (h : Same H H') : Gr D H D H' := ⟨Same.refl D, h, s.trans h, fun _ _ _ n => n⟩
theorem Gr.then (a : Gr D H D' H') (h : Same H' H'') : Gr D H D' H'' := a.trans (Gr.heap a.dh h)
theorem free_of (s : Same D H) (h : H p = none) : D p = none := s.free h
theorem Gr.lay (s : Same D H) (h : H p = none) : Gr D H (upd D p o) (upd H p o) := by
  refine ⟨Same.upd0 (free_of s h), Same.upd0 h, fun b u e => ?_, fun b u e n => ?_⟩
  · by_cases hb : b = p
    · subst hb; rw [upd_same] at e ⊢; exact e
    · rw [upd_ne hb] at e ⊢; exact s b u e
  · rw [upd_ne (ne_of_none e h)]; exact n
theorem Gr.layH (s : Same D H) (h : H p = none) : Gr D H D (upd H p o) := Gr.heap s (Same.upd0 h)
theorem Gr.fix (a : Gr D H D' H') (h : H p = none) (n : D' p = none) (e : H' p = some o) : Gr D H (upd D' p o) H' := by
  refine ⟨a.dd.trans (Same.upd0 n), a.hh, fun b u q => ?_, fun b u q z => ?_⟩
  · by_cases hb : b = p
    · subst hb; rw [upd_same] at q; rw [e]; exact q
    · rw [upd_ne hb] at q; exact a.dh b u q
  · rw [upd_ne (ne_of_none q h)]; exact a.nw b u q z
theorem Gr.set (a : Gr D H D' H') (h : H p = none) (n : D' p = none) : Gr D H D' (upd H' p o) :=
  ⟨a.dd, fun b u e => by rw [upd_ne (ne_of_none e h)]; exact a.hh b u e, fun b u e => by rw [upd_ne (ne_of_none e n)]; exact a.dh b u e, a.nw⟩
theorem Gr.old (a : Gr D H D' H') (e : H p = some o) (n : D p = none) : H' p = some o ∧ D' p = none := ⟨a.hh p o e, a.nw p o e n⟩
theorem same_set (s : Same D H) (n : D p = none) : Same D (upd H p o) := fun b u e => by
  rw [upd_ne (ne_of_none e n)]; exact s b u e
end
end L4
namespace L3
open PySem PySem.Spec PyProof.Rows L2 L4
section
variable {D D' D'' H H' H'' : Hp} {p : Addr} {o : HO} {K : PySem.W.Frag}
theorem DataAll.length : ∀ {ds : List PyData} {xs : List V}, DataAll K H xs ds → xs.length = ds.length
  | [], xs, h => by unfold DataAll at h; rw [h]; rfl
  | d :: ds, xs, h => by
    unfold DataAll at h
    obtain ⟨y, ys, rfl, _, h3⟩ := h
    rw [List.length_cons, List.length_cons, DataAll.length h3]
theorem DataAll.nil : DataAll K H [] [] := by unfold DataAll; rfl
theorem DataAll.cons {x : V} {xs : List V} {d : PyData} {ds : List PyData} (h1 : DataAt K H x d) (h2 : DataAll K H xs ds) : DataAll K H (x :: xs) (d :: ds) := by unfold DataAll; exact ⟨x, xs, rfl, h1, h2⟩
theorem DataAll.snoc {x : V} {d : PyData} (h1 : DataAt K H x d) : ∀ {ds : List PyData} {xs : List V}, DataAll K H xs ds → DataAll K H (xs ++ [x]) (ds ++ [d])
  | [], xs, h => by unfold DataAll at h; subst h; exact DataAll.cons h1 DataAll.nil
  | d :: ds, xs, h => by
    unfold DataAll at h
    obtain ⟨y, ys, rfl, h2, h3⟩ := h
    exact DataAll.cons h2 (DataAll.snoc h1 h3)
theorem DataAll.at_ : ∀ {ds : List PyData} {xs : List V} {i : Nat} {d : PyData}, DataAll K H xs ds → ds[i]? = some d → ∃ x, xs[i]? = some x ∧ DataAt K H x d
  | [], _, _, _, _, e => by simp at e
  | d :: ds, xs, 0, d', h, e => by
    unfold DataAll at h
    obtain ⟨y, ys, rfl, h2, h3⟩ := h
    simp at e; subst e
    exact ⟨y, rfl, h2⟩
  | d :: ds, xs, i + 1, d', h, e => by
    unfold DataAll at h
    obtain ⟨y, ys, rfl, h2, h3⟩ := h
    obtain ⟨x, e1, e2⟩ := DataAll.at_ (i := i) h3 (by simpa using e)
    exact ⟨x, by simpa using e1, e2⟩
theorem DataAll.back : ∀ {ds : List PyData} {xs : List V} {i : Nat} {x : V}, DataAll K H xs ds → xs[i]? = some x → ∃ d, ds[i]? = some d ∧ DataAt K H x d := fun {ds xs i x} h e => by
  have hl := DataAll.length h
  have hi : i < xs.length := (List.getElem?_eq_some_iff.mp e).1
  obtain ⟨y, e1, e2⟩ := DataAll.at_ h (List.getElem?_eq_getElem (show i < ds.length by omega))
  rw [e] at e1
  cases e1
  exact ⟨_, List.getElem?_eq_getElem (by omega), e2⟩
theorem DataAt.gr {v : V} {d : PyData} (h : DataAt K D v d) (g : Gr D H D' H') : DataAt K D' v d := DataAt.same g.dd d h
theorem DataAt.up {v : V} {d : PyData} (h : DataAt K D v d) (s : Same D H) : DataAt K H v d := DataAt.same s d h
theorem DataAll.up {v : List V} {d : List PyData} (h : DataAll K D v d) (s : Same D H) : DataAll K H v d := DataAll.same s d h
theorem DataAt.mkL {xs : List V} {ds : List PyData} (h : DataAll K D xs ds) (e : H p = some (.lst xs)) (s : Same D H) : DataAt K H (.ref p) (.list ds) := by
  unfold DataAt
  exact ⟨p, xs, rfl, Rd.of e, h.up s⟩
theorem DataAt.mkT {xs : List V} {ds : List PyData} (h : DataAll K D xs ds) (e : H p = some (.tup xs)) (s : Same D H) : DataAt K H (.ref p) (.tuple ds) := by
  unfold DataAt
  exact ⟨p, xs, rfl, e, h.up s⟩
theorem DataAt.lst {v : V} {ds : List PyData} (h : DataAt K H v (.list ds)) : ∃ a xs, v = .ref a ∧ Rd H a (.lst xs) ∧ DataAll K H xs ds := by unfold DataAt at h; exact h
theorem DataAt.tup {v : V} {ds : List PyData} (h : DataAt K H v (.tuple ds)) : ∃ a xs, v = .ref a ∧ H a = some (.tup xs) ∧ DataAll K H xs ds := by unfold DataAt at h; exact h
theorem DataAt.int {v : V} {i : Int} (h : DataAt K H v (.int i)) : v = .int i := by unfold DataAt at h; exact h
theorem DataAt.str {v : V} {i : Str} (h : DataAt K H v (.str i)) : v = .str i := by unfold DataAt at h; exact h
theorem DataAt.bl {v : V} {i : Bool} (h : DataAt K H v (.bool i)) : v = .bl i := by unfold DataAt at h; exact h
theorem DataAt.ofInt {i : Int} : DataAt K H (.int i) (.int i) := by unfold DataAt; rfl
theorem DataAt.ofStr {i : Str} : DataAt K H (.str i) (.str i) := by unfold DataAt; rfl
theorem DataAll.strs_eq : ∀ {ss : List Str} {xs : List V}, DataAll K H xs (ss.map PyData.str) → xs = ss.map V.str
  | [], xs, h => by unfold DataAll at h; exact h
  | z :: ss, xs, h => by
    unfold DataAll at h
    obtain ⟨y, ys, rfl, h2, h3⟩ := h
    rw [DataAt.str h2, DataAll.strs_eq h3]; rfl
theorem DataAll.uncons {d : PyData} {ds : List PyData} {xs : List V} (h : DataAll K H xs (d :: ds)) : ∃ y ys, xs = y :: ys ∧ DataAt K H y d ∧ DataAll K H ys ds := by unfold DataAll at h; exact h
theorem DataAll.none {xs : List V} (h : DataAll K H xs []) : xs = [] := by unfold DataAll at h; exact h
theorem DataAll.take {n : Nat} : ∀ {ds : List PyData} {xs : List V}, DataAll K H xs ds → DataAll K H (xs.take n) (ds.take n) := by
  induction n with
  | zero => intro ds xs h; rw [List.take_zero, List.take_zero]; exact DataAll.nil
  | succ n ih =>
    intro ds xs h
    cases ds with
    | nil => unfold DataAll at h; subst h; simp; exact DataAll.nil
    | cons d ds =>
      unfold DataAll at h
      obtain ⟨y, ys, rfl, h2, h3⟩ := h
      rw [List.take_succ_cons, List.take_succ_cons]
      exact DataAll.cons h2 (ih h3)
theorem DataAll.drop {n : Nat} : ∀ {ds : List PyData} {xs : List V}, DataAll K H xs ds → DataAll K H (xs.drop n) (ds.drop n) := by
  induction n with
  | zero => intro ds xs h; exact h
  | succ n ih =>
    intro ds xs h
    cases ds with
    | nil => unfold DataAll at h; subst h; simp; exact DataAll.nil
    | cons d ds =>
      unfold DataAll at h
      obtain ⟨y, ys, rfl, h2, h3⟩ := h
      rw [List.drop_succ_cons, List.drop_succ_cons]
      exact ih h3
theorem DataAll.append : ∀ {ds es : List PyData} {xs ys : List V}, DataAll K H xs ds → DataAll K H ys es → DataAll K H (xs ++ ys) (ds ++ es)
  | [], es, xs, ys, h, k => by unfold DataAll at h; subst h; exact k
  | d :: ds, es, xs, ys, h, k => by
    unfold DataAll at h
    obtain ⟨y, zs, rfl, h2, h3⟩ := h
    exact DataAll.cons h2 (DataAll.append h3 k)
end
end L3
namespace L4
open PySem PySem.Spec PyProof.Rows L2 L3
theorem take_snoc {α : Type} {l : List α} {i : Nat} {x : α} (h : l[i]? = some x) : l.take (i + 1) = l.take i ++ [x] := by rw [List.take_succ, h]; rfl
theorem comp_gr {K : PySem.W.Frag} {J : It} {xs : List V} {P : Hp → Prop} {q : Addr} {g : TG} {tc : TT} {te : TE} {Q : Hp → Prop} {σ : L2.St} {D H : Hp} (s0 : Same D H) (hq0 : H q = none) (Y : Yields J xs P) (S : L2.St → Prop) (rs : List (Option PyData))
    (hl : rs.length = xs.length) (h0 : S σ) (hP : ∀ H', Same H H' → P H') (hz : xs.length < sizeLine)
    (step : ∀ (i : Nat) (x : V) (r : Option PyData) (σ : L2.St) (D1 H1 : Hp) (R1 : L2.St → V → Hp → Prop) (R0 : L2.St → Hp → Prop), xs[i]? = some x → rs[i]? = some r → S σ → Gr D H D1 H1 →
      (∀ d σ2 y D4 H4, r = some d → S σ2 → Gr D1 H1 D4 H4 → DataAt K D4 y d → R1 σ2 y H4) → (∀ σ2 D3 H3, r = none → S σ2 → Gr D1 H1 D3 H3 → R0 σ2 H3) →
      g x σ H1 fun σ2 H2 => tc σ2 H2 fun b H3 => if b = true then te σ2 H3 fun y H4 => R1 σ2 y H4 else R0 σ2 H3)
    (hq : ∀ D' H' ys, Gr D H D' H' → H' q = some (.lst ys) → D' q = none → DataAll K D' ys (rs.filterMap id) → Q H') :
    ∃ W : Nat → Nat → List V → L2.St → Hp → Prop, (∃ m, W 0 m [] σ (upd H q (.lst []))) ∧ CompW q J g tc te Q W := by
  refine comp_inv Y (fun i ys σ H' => ∃ D', Gr D H D' H' ∧ H' q = some (.lst ys) ∧ D' q = none ∧ DataAll K D' ys ((rs.take i).filterMap id) ∧ S σ) ⟨D, Gr.layH s0 hq0, upd_same, s0.free hq0, by simp; exact DataAll.nil, h0⟩
    (fun i ys σ H' ⟨D', G, e, _, hA, _⟩ => ⟨hP H' G.hh, e, ?_⟩) hz (fun i x ys σ H' hx ⟨D', G, e, n, hA, hS⟩ => ?_) fun ys σ H' ⟨D', G, e, n, hA, _⟩ => ?_
  · rw [DataAll.length hA]
    exact Nat.le_trans (List.length_filterMap_le _ _) (by rw [List.length_take]; omega)
  · have hi : i < xs.length := (List.getElem?_eq_some_iff.mp hx).1
    have hr : rs[i]? = some (rs[i]'(by omega)) := List.getElem?_eq_getElem (by omega)
    refine step i x _ σ D' H' _ _ hx hr hS G (fun d σ2 y D4 H4 er h2 G4 hy => ?_) fun σ2 D3 H3 er h2 G3 => ?_
    · obtain ⟨e4, n4⟩ := G4.old e n
      have T := G.trans G4
      refine ⟨e4, D4, ⟨T.dd, fun b o eb => ?_, same_set T.dh n4, T.nw⟩, upd_same, n4, ?_, h2⟩
      · rw [upd_ne (ne_of_none eb hq0)]; exact T.hh b o eb
      · rw [take_snoc hr, List.filterMap_append, er]
        exact DataAll.snoc hy (hA.up G4.dd)
    · obtain ⟨e4, n4⟩ := G3.old e n
      refine ⟨D3, G.trans G3, e4, n4, ?_, h2⟩
      rw [take_snoc hr, List.filterMap_append, er]
      simp only [List.filterMap_cons, id, List.filterMap_nil, List.append_nil]
      exact hA.up G3.dd
  · rw [← hl, List.take_length] at hA
    exact hq D' H' ys G e n hA
theorem filterMap_some {α : Type} (l : List α) : (l.map some).filterMap id = l := by
  induction l with
  | nil => rfl
  | cons a l ih => simp
end L4
namespace L4
open PySem L2
theorem hu60 {A : Around} {k : Nat} (hr : Room k A) : A.units + 60 < cLine := Nat.lt_of_le_of_lt (Nat.add_le_add_left (by decide : 60 ≤ 64) _) hr.units
end L4
namespace L4
open PySem PySem.Spec PyProof.Rows L2 L3
theorem cut_one {c : Nat} : ∀ {a b u v : List Nat}, c ∉ a → c ∉ b → a ++ c :: u = b ++ c :: v → a = b ∧ u = v
  | [], [], u, v, _, _, e => ⟨rfl, (List.cons.inj e).2⟩
  | [], y :: b, u, v, _, hb, e => by
    have := (List.cons.inj e).1
    subst this
    exact absurd List.mem_cons_self hb
  | x :: a, [], u, v, ha, _, e => by
    have := (List.cons.inj e).1
    subst this
    exact absurd List.mem_cons_self ha
  | x :: a, y :: b, u, v, ha, hb, e => by
    have e1 := List.cons.inj e
    obtain ⟨h1, h2⟩ := cut_one (a := a) (b := b) (fun h => ha (List.mem_cons_of_mem _ h)) (fun h => hb (List.mem_cons_of_mem _ h)) e1.2
    exact ⟨by rw [e1.1, h1], h2⟩
def cs (x : Str) : List Nat := x.cps.toList
theorem cs_inj {x y : Str} (h : cs x = cs y) : x = y := Str.ext' (Array.toList_inj.mp h)
theorem cs_app (x y : Str) : cs (x ++ y) = cs x ++ cs y := by unfold cs; rw [Str.cps_append, Array.toList_append]
theorem cs_one (c : Nat) : cs ⟨#[c]⟩ = [c] := rfl
theorem cs_len (x : Str) : (cs x).length = x.length := by simp [cs, Str.length]
theorem cs_join2 (c : Nat) (x y : Str) (r : List Str) : cs (Str.join ⟨#[c]⟩ (x :: y :: r)) = cs x ++ c :: cs (Str.join ⟨#[c]⟩ (y :: r)) := by
  show cs (x ++ ⟨#[c]⟩ ++ Str.join ⟨#[c]⟩ (y :: r)) = _
  rw [cs_app, cs_app, cs_one, List.append_assoc]
  rfl
theorem join_inj (c : Nat) : ∀ (xs ys : List Str), xs ≠ [] → ys ≠ [] → (∀ x ∈ xs, c ∉ cs x) → (∀ y ∈ ys, c ∉ cs y) → Str.join ⟨#[c]⟩ xs = Str.join ⟨#[c]⟩ ys → xs = ys
  | [], _, h, _, _, _, _ => absurd rfl h
  | _ :: _, [], _, h, _, _, _ => absurd rfl h
  | [x], [y], _, _, _, _, e => by
    have e' : x = y := e
    rw [e']
  | [x], y :: z :: r, _, _, hx, _, e => by
    have e' : cs x = _ := congrArg cs (show x = _ from e)
    rw [cs_join2] at e'
    exact absurd (by rw [e']; exact List.mem_append_right _ List.mem_cons_self) (hx x List.mem_cons_self)
  | x :: z :: r, [y], _, _, _, hy, e => by
    have e' : cs y = _ := congrArg cs (show y = _ from e.symm)
    rw [cs_join2] at e'
    exact absurd (by rw [e']; exact List.mem_append_right _ List.mem_cons_self) (hy y List.mem_cons_self)
  | x :: z :: r, y :: u :: t, _, _, hx, hy, e => by
    have e' := congrArg cs e
    rw [cs_join2, cs_join2] at e'
    obtain ⟨h1, h2⟩ := cut_one (hx x List.mem_cons_self) (hy y List.mem_cons_self) e'
    have := join_inj c (z :: r) (u :: t) (by simp) (by simp) (fun a ha => hx a (List.mem_cons_of_mem _ ha)) (fun a ha => hy a (List.mem_cons_of_mem _ ha)) (cs_inj h2)
    rw [cs_inj h1, this]
theorem split_join {c : Nat} {xs : List Str} (hne : xs ≠ []) (hx : ∀ x ∈ xs, c ∉ cs x) : PySem.Txt.split (Str.join ⟨#[c]⟩ xs) ⟨#[c]⟩ = xs := by
  refine join_inj c _ _ ?_ hne (fun y hy => StrLaws.split_free _ c y hy) hx (StrLaws.join_split _ _)
  intro e
  have := split_pos (Str.join ⟨#[c]⟩ xs) ⟨#[c]⟩
  rw [e] at this
  exact absurd this (by decide)
theorem split_of_join {c : Nat} {z : Str} {xs : List Str} (hne : xs ≠ []) (hx : ∀ x ∈ xs, c ∉ cs x) (e : z = Str.join ⟨#[c]⟩ xs) : PySem.Txt.split z ⟨#[c]⟩ = xs := by rw [e]; exact split_join hne hx
theorem txt_join (y : Str) (xs : List Str) : PySem.Txt.join y xs = Str.join y xs := StrLaws.glued_eq_join y xs
theorem lf_eq : ("\n" : Str) = ⟨#[10]⟩ := by decide +kernel
theorem bl_eq : (" " : Str) = ⟨#[32]⟩ := by decide +kernel
theorem digit_code : ∀ d : Nat, d < 10 → 48 ≤ (Nat.digitChar d).toNat ∧ (Nat.digitChar d).toNat ≤ 57 ∧ (0 < d → (Nat.digitChar d).toNat ≠ 48) := by decide
theorem num_codes (m : Nat) : (∀ c ∈ (Nat.toDigits 10 m).map Char.toNat, 48 ≤ c ∧ c ≤ 57) ∧ (0 < m → ((Nat.toDigits 10 m).map Char.toNat).head? ≠ some 48) ∧ (Nat.toDigits 10 m).map Char.toNat ≠ [] := by
  induction m using Nat.strongRecOn with
  | _ m ih =>
    by_cases h : m < 10
    · rw [Nat.toDigits_of_lt_base h]
      have e := digit_code m h
      refine ⟨fun c hc => ?_, fun h0 z => ?_, by simp⟩
      · have : c = (Nat.digitChar m).toNat := by simpa using hc
        rw [this]; exact ⟨e.1, e.2.1⟩
      · exact e.2.2 h0 (by simpa using z)
    · have hm : m % 10 < 10 := Nat.mod_lt m (by decide)
      have t : Nat.toDigits 10 (m / 10) ++ Nat.toDigits 10 (m % 10) = Nat.toDigits 10 (10 * (m / 10) + m % 10) := Nat.toDigits_append_toDigits (by decide) (by omega) hm
      rw [Nat.div_add_mod] at t
      rw [← t, List.map_append]
      obtain ⟨i1, i2, i3⟩ := ih (m / 10) (by omega)
      obtain ⟨j1, _, _⟩ := ih (m % 10) (by omega)
      refine ⟨fun c hc => (List.mem_append.mp hc).elim (i1 c) (j1 c), fun _ => ?_, fun z => i3 (List.append_eq_nil_iff.mp z).1⟩
      have i2' := i2 (by omega)
      cases hd : (Nat.toDigits 10 (m / 10)).map Char.toNat with
      | nil => exact absurd hd i3
      | cons a r => rw [hd] at i2'; simpa using i2'
structure Figs (n : Int) (t : Str) : Prop where
  pos : 1 ≤ t.length
  most : t.length ≤ 60
  digs : ∀ c ∈ cs t, 48 ≤ c ∧ c ≤ 57
  reads : PySem.intText? t = some n
  lead : t = "0" ∨ (cs t).head? ≠ some 48
theorem int_reads {t : Str} (h1 : 1 ≤ t.length) (h2 : t.length ≤ 60) (hd : ∀ c ∈ cs t, 48 ≤ c ∧ c ≤ 57) : PySem.intText? t = some ((PySem.NumText.digitsVal (cs t) : Nat) : Int) := by
  have hl := cs_len t
  refine PySem.intText_digits hd (fun z => ?_) (by omega)
  have z' : cs t = [] := z
  rw [z'] at hl
  simp at hl
  omega
theorem num_text {n : Int} (h0 : 0 ≤ n) (h1 : n < 10 ^ 60) : Figs n (toString n : String) := by
  obtain ⟨m, rfl⟩ := Int.eq_ofNat_of_zero_le h0
  have hl := toString_length_le h0 (by decide) h1
  have e : cs (Str.ofString (toString ((m : Nat) : Int))) = (Nat.toDigits 10 m).map Char.toNat := PySem.W.KIN.signs_num m
  obtain ⟨c1, c2, c3⟩ := num_codes m
  have hp : 1 ≤ (Str.ofString (toString ((m : Nat) : Int))).length := by
    rw [← cs_len, e]
    exact Nat.pos_of_ne_zero fun z => c3 (List.eq_nil_of_length_eq_zero z)
  have hd : ∀ c ∈ cs (Str.ofString (toString ((m : Nat) : Int))), 48 ≤ c ∧ c ≤ 57 := by rw [e]; exact c1
  refine ⟨hp, hl, hd, ?_, ?_⟩
  · rw [int_reads hp hl hd, e, PySem.W.KIN.val_back]
  · by_cases hm : m = 0
    · subst hm
      exact .inl (by decide +kernel)
    · right
      rw [e]
      exact c2 (by omega)
theorem log_small {n : Int} (h0 : 0 ≤ n) (h1 : n < 10 ^ 60) : n.natAbs.log2 < 1920 := by
  by_cases hz : n.natAbs = 0
  · rw [hz]; decide
  · rw [Nat.log2_lt hz]
    have : n.natAbs < 10 ^ 60 := by omega
    exact Nat.lt_trans this (Nat.lt_of_lt_of_le (by decide : 10 ^ 60 < 2 ^ 200) (Nat.pow_le_pow_right (by decide) (by decide)))
end L4
namespace L4
open PySem L2
theorem inV_strs (t : Str) (ks : List Str) : inV (V.str t) (ks.map V.str) = ks.contains t := by
  unfold inV
  rw [List.any_map, Bool.eq_iff_iff, List.any_eq_true, List.contains_iff_mem]
  constructor
  · rintro ⟨y, hy, e3⟩
    have e4 : (y == t) = true := e3
    rw [← eq_of_beq e4]
    exact hy
  · intro hm
    exact ⟨t, hm, beq_self_eq_true t⟩
end L4
namespace L4
open PySem PySem.Spec PyProof.Rows L2 L3
section
variable {X : Cx} {K : PySem.W.Frag}
theorem kIx {r : PySem.W.Frag → R2} (h : X.K = K) (o : IxR X (r X.K)) : IxR X (r K) := h ▸ o
theorem kgTup {es : List Expr} {k : Nat} {t : TGs} {n : Nat} {pos : Pos} (h : X.K = K) (o : PG X (.Tuple es k pos) (gTup X.K n t)) : PG X (.Tuple es k pos) (gTup K n t) := h ▸ o
end
end L4
namespace L4
open PySem PySem.Spec PyProof.Rows L2 L3
def tCut (t u : TS) : TS := fun D σ H => ∃ P : L2.St → Hp → Prop, t { D with nx := P } σ H ∧ ∀ σ' H', P σ' H' → u D σ' H'
theorem pss_cut {X : Cx} {st : Stmt} {rest : List Stmt} {t u : TS} (h1 : PS X st t) (h2 : PSs X rest u) : PSs X (st :: rest) (tCut t u) := by
  intro pins s σ H D I ⟨P, h, k⟩
  refine wpAny_execs_cons (thn (h1 pins s σ H { D with nx := P } I h) fun f s1 q => ?_)
  cases f with
  | next => obtain ⟨σ', H', I', q⟩ := q; exact h2 pins s1 σ' H' D I' (k σ' H' q)
  | ret v => exact q
  | brk => exact q
  | cont => exact q
end L4
namespace L5
open PySem PySem.Spec PyProof.Rows L2 L3 L4
open Sem (wp)
open AutoSeq1 (wpAny_loadPart')
theorem enum_tc (a b : Value) : checkTypeCall "enumerate" ⟨[a], [("start", b)]⟩ = pure () := by kernel_rfl
theorem enum_nc (a b : Value) : checkBuiltinCall "enumerate.__new__" ⟨[.type "enumerate", a], [("start", b)]⟩ = pure () := by kernel_rfl
theorem enum_oi (o a b : Value) : argsOk "object.__init__" ⟨[o, a], [("start", b)]⟩ := by unfold argsOk; kernel_rfl
theorem meets_enum_start (l : Addr) (items : Array Value) (n : Nat) (dct : Option Addr) (sl : Array (Option Value)) (k : Int) (t : Tok) (hk : Builtin.SmallTypes.fitsIndex k = true) :
    Meets (Builtin.«enumerate.__new__» ⟨[.type "enumerate", .ref l], [("start", .int k t)]⟩) (fun _ R s => s.heap.get? l = some { cls := .type "list", dict := dct, data := .seq items n, slots := sl } ∧
      R (.ok (.ret (.ref (s.heap.push { cls := .type "list_iterator", data := .fields #[.ref l, .int 0 0] }).objs.size)))
        { s with heap := (s.heap.push { cls := .type "list_iterator", data := .fields #[.ref l, .int 0 0] }).push { cls := .type "enumerate", data := .fields #[.none, .bool false, .ref s.heap.objs.size, rawInt k, .none, .none] } }) :=
  .of_wp fun prog w A R s h => by
    obtain ⟨hp, g, d, tk, os⟩ := s; obtain ⟨hl, h⟩ := h
    have hsub := sub_enumerate
    have hL : Heap.IsList (Shared.heap ⟨hp, g, d, tk, os⟩) l items := ⟨_, hl, rfl, n, rfl⟩
    wp_walk using wpAny_loadPart' hl
    refine wpAny_stack_any fun st => wpAny_pure ?_
    refine wpAny_ite_split (fun _ => ?_) (fun _ => ?_)
    all_goals
      refine wpAny_bind (wpAny_of_eq (a := (Value.ref l, some (Value.int k t))) (by rfl) ?_)
      show wpAny _ _ (Builtin.SmallTypes.indexObject "enumerate.__new__" (.int k t) >>= _) _ _ _
      refine wpAny_bind (wpAny_of_eq (a := Value.int k t) (by rfl) ?_)
      refine wpAny_bind (wpAny_of_eq (a := some k) (by rfl) ?_)
      show wpAny _ _ (if (!Builtin.SmallTypes.fitsIndex k) = true then _ else _) _ _ _
      rw [hk]
      wp_walk using wpAny_pyIter_list hL
      exact ⟨_, rfl, h⟩
section
variable {prog : Program} {w : World} {A : Around} {E : Value → Shared → Prop} {s : Shared}
theorem init_kw (o a b : Value) : Meets (Builtin.«object.__init__» ⟨[o, a], [("start", b)]⟩) (fun _ R s => s.TypeIs o "enumerate" ∧ R (.ok (.ret .none)) s) := by
  refine Meets.of_wp fun prog w A R s ⟨hT, hq⟩ => ?_
  have hl := F.called_enumerate.init.lookup
  have hm := F.called_enumerate.made
  repeat (any_goals (first | assumption | wp_step))
  exact ⟨_, rfl, hq⟩
theorem call_enum_start {l : Addr} {items : Array Value} {k : Int} {t : Tok} {Q : Value → Shared → Prop} (hL : s.heap.IsList l items) (hk : Builtin.SmallTypes.fitsIndex k = true)
    (h : ∀ h', IsEnum h' (s.heap.objs.size + 1) s.heap.objs.size k .none → h'.IsListIter s.heap.objs.size l 0 → (∀ b o, s.heap.get? b = some o → h'.get? b = some o) → Q (.ref (s.heap.objs.size + 1)) { s with heap := h' }) :
    wpAny (model prog w) A (call (.type "enumerate") [.ref l] [("start", .int k t)]) Q E s := by
  obtain ⟨⟨c, dct, dt, sl⟩, hl, hc, n, hd⟩ := hL
  replace hc : c = .type "list" := hc; replace hd : dt = .seq items n := hd; subst hc hd
  have ft := F.called_enumerate
  obtain ⟨c, tl, hmro⟩ := ft.mro
  have hmade := ft.made; have hsub := ft.sub; have h1 := ft.notType; have h2 := ft.canCreate; have hct := enum_tc (.ref l) (.int k t)
  refine wpAny_call (codeAny_of_tree ?_)
  show wpAny _ _ (callAny (.type "enumerate") _) _ _ _
  refine wpAny_pure ⟨Code.quiet_builtin _ (by decide +kernel), codeAny_builtin F.entry_type_call ?_⟩
  rw [Around.under_plain (weight_type_call_type "enumerate" [.ref l] [("start", .int k t)]) (units_type_call_type _ _ _)]
  repeat (any_goals (first | assumption | wp_step))
  refine codeAny_mono (codeAny_call_builtin (R := wants (fun obj s1 => s1.TypeIs obj "enumerate" ∧ Q obj s1) E) ft.plain F.entry_enumerate_new (wpAny_of_eq (enum_nc _ _) (meets_enum_start l items n dct sl k t hk prog w A.in1 _ s ⟨hl, ?_⟩))) fun r s₁ hr => ?_
  · have hz : (s.heap.push { cls := .type "list_iterator", data := .fields #[.ref l, .int 0 0] }).objs.size = s.heap.objs.size + 1 := Heap.size_push ..
    have he := Heap.get?_push_size (s.heap.push { cls := .type "list_iterator", data := .fields #[.ref l, .int 0 0] }) (o := { cls := .type "enumerate", data := .fields #[.none, .bool false, .ref s.heap.objs.size, rawInt k, .none, .none] }) rfl
    show _ ∧ _
    rw [hz] at he ⊢
    exact ⟨⟨_, he, rfl⟩, h _ he ⟨_, Heap.get?_push_of_some _ (Heap.get?_push_size _ rfl), rfl, rfl⟩ fun b o x => Heap.get?_push_of_some _ (Heap.get?_push_of_some _ x)⟩
  · cases r with
    | error e => exact hr
    | ok fl =>
      cases fl with
      | ret obj =>
        obtain ⟨hT, hq⟩ := hr
        have hli := ft.init.lookup; have hbi := ft.init.bind obj
        repeat (any_goals (first | assumption | wp_step))
        refine codeAny_mono (codeAny_call_builtin (R := wants (fun r s₂ => r = .none ∧ Q obj s₂) E) ft.init.plain F.entry_object_init (ft.init.check _ _ _ _ _ _ _ _ hT (enum_oi _ _ _) (init_kw obj _ _ prog w A.in1 _ s₁ ⟨hT, rfl, hq⟩))) fun r₂ s₂ hr₂ => ?_
        cases r₂ with
        | error e => exact hr₂
        | ok fl₂ =>
          cases fl₂ with
          | ret r =>
            obtain ⟨rfl, hq2⟩ := hr₂
            repeat (any_goals (first | assumption | wp_step))
          | _ => exact hr₂.elim
      | _ => exact hr.elim
end
end L5
namespace L5
open PySem PySem.Spec PyProof.Rows L2 L3 L4
open Sem (wp)
section
variable {prog : Program} {w : World} {A : Around} {E : Value → Shared → Prop} {s : Shared}
theorem enum_item {e it l : Addr} {c : Int} {i : Nat} {items : Array Value} {x old : Value} {Q : Value → Shared → Prop} (he : IsEnum s.heap e it c old) (hit : s.heap.IsListIter it l i) (hl : s.heap.IsList l items) (hx : items[i]? = some x) (hne : e ≠ it)
    (hQ : ∀ h', IsEnumOut h' e it (c + 1) x s.heap.objs.size → h'.IsListIter it l (i + 1) → h'.get? s.heap.objs.size = some { cls := .type "tuple", data := .seq #[.int c s.toks, x] } →
      (∀ b o, b ≠ e → b ≠ it → s.heap.get? b = some o → h'.get? b = some o) → Q (.ref s.heap.objs.size) { s with heap := h', toks := s.toks + 1 }) :
    wpAny (model prog w) A (Builtin.«enumerate.__next__» ⟨[.ref e], []⟩) (fun fin s' => ∃ v, fin = .done (.ret v) ∧ Q v s') E s := by
  obtain ⟨hp, g, d, tk, os⟩ := s
  have hel : e < hp.objs.size := Heap.lt_size he
  show wpAny _ _ (field (.ref e) 2 >>= _) _ _ _
  refine wpAny_bind (wpAny_field he rfl (x := .ref it) rfl (wpAny_bind (wpAny_nextOf_list_item hit hl hx fun h₁ hit₁ hs₁ => ?_)))
  replace hs₁ : Heap.SameBut it hp h₁ := hs₁
  have he₁ : IsEnum h₁ e it c old := (hs₁.2 e hne).trans he
  show wpAny _ _ (field (.ref e) 3 >>= _) _ _ ⟨h₁, g, d, tk, os⟩
  refine wpAny_bind (wpAny_field he₁ rfl (x := rawInt c) rfl ?_)
  show wpAny _ _ (field (.ref e) 4 >>= _) _ _ ⟨h₁, g, d, tk, os⟩
  refine wpAny_bind (wpAny_field he₁ rfl (x := .none) rfl ?_)
  show wpAny _ _ (mkInt c >>= _) _ _ ⟨h₁, g, d, tk, os⟩
  refine wpAny_bind (wpAny_mkInt ?_)
  show wpAny _ _ (setField (.ref e) 3 (rawInt (c + 1)) >>= _) _ _ ⟨h₁, g, d, tk + 1, os⟩
  refine wpAny_bind (wpAny_setField_rec he₁ (by simp) fun h₂ he₂ hs₂ => ?_)
  replace hs₂ : Heap.SameBut e h₁ h₂ := hs₂; replace he₂ : IsEnum h₂ e it (c + 1) old := he₂
  show wpAny _ _ (setField (.ref e) 4 .none >>= _) _ _ ⟨h₂, g, d, tk + 1, os⟩
  refine wpAny_bind (wpAny_setField_rec he₂ (by simp) fun h₃ he₃ hs₃ => ?_)
  replace hs₃ : Heap.SameBut e h₂ h₃ := hs₃; replace he₃ : IsEnum h₃ e it (c + 1) old := he₃
  show wpAny _ _ (newTuple [.int c tk, x] >>= _) _ _ ⟨h₃, g, d, tk + 1, os⟩
  refine wpAny_bind (wpAny_newTuple ?_)
  have hsz : h₃.objs.size = hp.objs.size := by rw [hs₃.1, hs₂.1, hs₁.1]
  obtain ⟨h₄, hh₄⟩ : ∃ h₄, h₄ = h₃.push { cls := .type "tuple", data := .seq #[.int c tk, x] } := ⟨_, rfl⟩
  have he₄ : IsEnum h₄ e it (c + 1) old := by rw [hh₄]; exact Heap.get?_push_of_some _ he₃
  have ht₄ : h₄.get? hp.objs.size = some { cls := .type "tuple", data := .seq #[.int c tk, x] } := by rw [hh₄, ← hsz]; exact Heap.get?_push_size _ rfl
  have hk₄ : ∀ b o, b ≠ e → b ≠ it → hp.get? b = some o → h₄.get? b = some o := fun b o hbe hbi hb => by
    rw [hh₄]; exact Heap.get?_push_of_some _ (hs₃.extBut b o hbe (hs₂.extBut b o hbe (hs₁.extBut b o hbi hb)))
  have hit₄ : h₄.IsListIter it l (i + 1) := by
    rw [hh₄]; obtain ⟨o, ho, r⟩ := (hit₁.extBut hs₂.extBut hne.symm).extBut hs₃.extBut hne.symm; exact ⟨o, Heap.get?_push_of_some _ ho, r⟩
  rw [← hh₄]
  show wpAny _ _ (Builtin.SmallTypes.ownedTupleIsFree (.ref e) >>= _) _ _ ⟨h₄, g, d, tk + 1, os⟩
  rw [hsz]
  unfold Builtin.SmallTypes.ownedTupleIsFree
  refine wpAny_bind (wpAny_bind (wpAny_field he₄ rfl (x := .none) rfl (wpAny_pure ?_)))
  simp only [if_true]
  refine wpAny_bind (wpAny_rule (wpAny_bind (wpAny_field he₄ rfl (x := old) rfl (wpAny_bind (wpAny_setField_rec he₄ (by simp) fun h₅ he₅ hs₅ => ?_)))))
  replace hs₅ : Heap.SameBut e h₄ h₅ := hs₅; replace he₅ : IsEnum h₅ e it (c + 1) x := he₅
  show wpAny _ _ (Builtin.SmallTypes.ownedTupleHandOut (.ref e) (.ref hp.objs.size) >>= _) _ _ ⟨h₅, g, d, tk + 1, os⟩
  unfold Builtin.SmallTypes.ownedTupleHandOut
  refine wpAny_bind (wpAny_bind (wpAny_setField_rec he₅ (by simp) fun h₆ he₆ hs₆ => ?_))
  replace hs₆ : Heap.SameBut e h₅ h₆ := hs₆; replace he₆ : IsEnumOut h₆ e it (c + 1) x hp.objs.size := he₆
  refine wpAny_setField_rec he₆ (by simp) fun h₇ he₇ hs₇ => ?_
  replace hs₇ : Heap.SameBut e h₆ h₇ := hs₇
  refine wpAny_bind (wpAny_letGo (wpAny_pure ⟨_, rfl, hQ h₇ he₇ (((hit₄.extBut hs₅.extBut hne.symm).extBut hs₆.extBut hne.symm).extBut hs₇.extBut hne.symm) ?_ fun b o hbe hbi hb => ?_⟩))
  · exact hs₇.extBut _ _ (Nat.ne_of_gt hel) (hs₆.extBut _ _ (Nat.ne_of_gt hel) (hs₅.extBut _ _ (Nat.ne_of_gt hel) ht₄))
  · exact hs₇.extBut b o hbe (hs₆.extBut b o hbe (hs₅.extBut b o hbe (hk₄ b o hbe hbi hb)))
theorem enum_next {e it l : Addr} {c : Int} {i : Nat} {items : Array Value} {x old : Value} {Q : Option Value → Shared → Prop} (he : IsEnum s.heap e it c old) (hit : s.heap.IsListIter it l i) (hl : s.heap.IsList l items) (hx : items[i]? = some x) (hne : e ≠ it)
    (hQ : ∀ h', IsEnumOut h' e it (c + 1) x s.heap.objs.size → h'.IsListIter it l (i + 1) → h'.get? s.heap.objs.size = some { cls := .type "tuple", data := .seq #[.int c s.toks, x] } →
      (∀ b o, b ≠ e → b ≠ it → s.heap.get? b = some o → h'.get? b = some o) → Q (some (.ref s.heap.objs.size)) { s with heap := h', toks := s.toks + 1 }) :
    wpAny (model prog w) A (pyNext (.ref e)) Q E s := by
  have hT : s.TypeIs (.ref e) "enumerate" := ⟨_, he, rfl⟩
  unfold pyNext
  exact wpAny_bind (wpAny_attempt (wpAny_callSpecial?_slot (name := Str.ofString "__next__") hT F.slot_enumerate_next (wpAny_call_entry F.slot_enumerate_next hT F.entry_enumerate_next
    (enum_item he hit hl hx hne fun h' a b d k => wpAny_pure (hQ h' a b d k)) (F.args_enumerate_next_1 _))))
theorem enum_end {e it l : Addr} {c : Int} {i : Nat} {items : Array Value} {old : Value} {Q : Option Value → Shared → Prop} (hh : A.handled = none) (he : IsEnum s.heap e it c old) (hit : s.heap.IsListIter it l i) (hl : s.heap.IsList l items) (hx : items[i]? = none)
    (hQ : ∀ h', Heap.ExtBut it s.heap h' → Q none { s with heap := h' }) : wpAny (model prog w) A (pyNext (.ref e)) Q E s := by
  have hT : s.TypeIs (.ref e) "enumerate" := ⟨_, he, rfl⟩
  unfold pyNext
  refine wpAny_bind (wpAny_attempt (wpAny_callSpecial?_slot (name := Str.ofString "__next__") hT F.slot_enumerate_next (wpAny_call_entry F.slot_enumerate_next hT F.entry_enumerate_next ?_ (F.args_enumerate_next_1 _))))
  show wpAny _ _ (field (.ref e) 2 >>= _) _ _ _
  refine wpAny_bind (wpAny_field he rfl (x := .ref it) rfl (wpAny_bind (wpAny_nextOf_list_end hh hit hl hx fun h' x he' ⟨o, ho, hc⟩ => ?_)))
  exact wpAny_bind (wpAny_isInstance (T := "StopIteration") (b := true) ⟨o, ho, hc⟩ isSubtype_stop (wpAny_pure (hQ _ he')))
end
theorem _root_.L2.Inv.turnedL {X : Cx} {pins : List (Addr × Obj)} {σ : L2.St} {H : Hp} {s : Shared} {h' : Heap} {t' : Nat} {its : List Addr} (I : Inv X pins σ H s) (k : ∀ b o, b ∉ its → s.heap.get? b = some o → h'.get? b = some o) (hf : ∀ b ∈ its, FpOk X pins H b) :
    Inv X pins σ H { s with heap := h', toks := t' } := by
  have nit : ∀ b u, H b = some u → b ∉ its := fun b u e z => by rw [(hf b z).1] at e; cases e
  have hL : X.env.locals ∉ its := fun z => (hf _ z).2.1 rfl
  refine I.step (g' := s.gens) (d' := s.drawn) (ch := its) (fun b hb => ⟨(hf b hb).2.2.2.1, (hf b hb).2.1, (hf b hb).2.2.2.2.1, (hf b hb).2.2.2.2.2⟩) (fun b o _ _ hc e _ => k b o hc e) (fun b o _ _ hc e _ => ⟨o.slots, k b o hc e⟩) (fun _ _ _ _ n => n)
    (fun b o hc e => ⟨o, k b o hc e⟩) (fun _ _ e => e) (fun _ _ _ e => e) (fun b ps e => ⟨#[], by rw [e]; simp⟩) (fun m ⟨o, es, ep, ho, r⟩ => ⟨o, es, ep, k _ o hL ho, r⟩) (fun b u e => ?_) I.bare
  refine (I.hok b u e).stay (fun c v hc q => k c v ?_ q) (fun _ q => q) fun _ _ q => q
  rcases hc with z | z
  · rw [z]; exact nit b u e
  · exact nit c _ z
def Ite (K : PySem.W.Frag) (a : Addr) (lo : Int) : It :=
  ⟨fun i H => ∃ xs x, SqL K H a xs ∧ xs[i]? = some x, fun i H v H' => ∃ T y, v = .ref T ∧ H T = none ∧ H' = upd H T (.tup [.int (lo + i), y]) ∧ ∀ xs, SqL K H a xs → xs[i]? = some y, fun i H => ∃ xs, SqL K H a xs ∧ xs.length ≤ i⟩
theorem turn_enum {P : Program} {w : World} {K : PySem.W.Frag} {elts : List Expr} {kt : Nat} {pt : Pos} (a e it : Addr) (lo : Int) (hne : e ≠ it) :
    Turn P w K (.Tuple elts kt pt) (Ite K a lo) [e, it] e (fun i h => (∃ old, IsEnum h e it (lo + (i : Nat)) old) ∧ h.IsListIter it a i) where
  mem := by simp
  obj := fun i h ⟨⟨old, he⟩, st⟩ b hb => by
    rcases List.mem_cons.mp hb with rfl | hb
    · exact ⟨_, he, fun v z => by cases (show Data.fields _ = Data.cell v from z)⟩
    · obtain ⟨o, e', c, d⟩ := st
      rw [List.mem_singleton.mp hb]
      exact ⟨o, e', fun v z => by rw [d] at z; cases z⟩
  keep := fun i h h' ⟨⟨old, he⟩, st⟩ k => ⟨⟨old, k e (by simp) _ he⟩, st.at fun o e' => k it (by simp) o e'⟩
  item := by
    intro X hP hw hK hc i pins s σ H E I hf st hg
    subst hP hw hK
    obtain ⟨⟨old, he⟩, st⟩ := st
    obtain ⟨xs, x, hq, hx⟩ := hg
    obtain ⟨its, rv, p, hz⟩ := I.list hq
    obtain ⟨u, hu, ru⟩ := rv.get hx
    obtain ⟨f0, f1, f2, f3, f4, f5⟩ := hf e (by simp)
    obtain ⟨g0, g1, g2, g3, g4, g5⟩ := hf it (by simp)
    refine enum_next he st p.isList (x := u) (by simpa using hu) hne fun h' eo st' tp kk => ⟨_, rfl, ?_⟩
    have hlt : e < s.heap.objs.size := Heap.lt_size he
    have hlt2 : it < s.heap.objs.size := by obtain ⟨o, e', _⟩ := id st; exact Heap.lt_size e'
    refine wpAny_letOwnedTupleGo_enum eo fun h2 he2 hs2 => ?_
    replace hs2 : Heap.SameBut e h' h2 := hs2
    have hlt2' : it ≠ s.heap.objs.size := Nat.ne_of_lt hlt2
    have hTe : s.heap.objs.size ≠ e := Nat.ne_of_gt hlt
    obtain ⟨h1, eh1⟩ : ∃ h1, h1 = s.heap.push { cls := .type "tuple", data := .seq #[.int (lo + (i : Nat)) s.toks, u] } := ⟨_, rfl⟩
    have e1 : h1.get? s.heap.objs.size = some { cls := .type "tuple", data := .seq #[.int (lo + (i : Nat)) s.toks, u] } := by rw [eh1]; exact Heap.get?_push_size _ rfl
    have I1 : Inv X pins σ (upd H s.heap.objs.size (.tup [.int (lo + (i : Nat)), x])) { s with heap := h1, toks := s.toks } :=
      I.laid (fun b o q => by rw [eh1]; exact Heap.get?_push_of_some _ q) (Nat.le_refl _) ⟨by show 2 ≤ sizeLine; decide, [.int (lo + (i : Nat)) s.toks, u], .cons ⟨_, rfl⟩ (.cons ru .nil), ⟨_, e1, rfl, _, rfl⟩⟩
    have ff : ∀ b ∈ [e, it], FpOk X pins (upd H s.heap.objs.size (.tup [.int (lo + (i : Nat)), x])) b := fun b hb => by
      obtain ⟨z0, z1⟩ := hf b hb
      refine ⟨?_, z1⟩
      rw [upd_ne]
      · exact z0
      · rcases List.mem_cons.mp hb with rfl | hb
        · exact hTe.symm
        · rw [List.mem_singleton.mp hb]; exact hlt2'
    have I2 := I1.turnedL (t' := s.toks + 1) (h' := h2) (its := [e, it]) (fun b o hb q => ?_) ff
    · refine ⟨.ref s.heap.objs.size, _, I2, rfl, ⟨_, x, rfl, I.fresh, rfl, fun ys hy => by rw [I.list_inj hy hq]; exact hx⟩, ⟨⟨u, ?_⟩, ?_⟩, fun b hb => (ff b hb).1⟩
      · have ec : lo + ((i + 1 : Nat) : Int) = lo + (i : Nat) + 1 := by omega
        rw [ec]; exact he2
      · obtain ⟨o, eo', r⟩ := st'
        exact ⟨o, hs2.extBut it o hne.symm eo', r⟩
    · have hbe : b ≠ e := fun z => hb (by simp [z])
      have hbi : b ≠ it := fun z => hb (by simp [z])
      by_cases hT : b = s.heap.objs.size
      · subst hT
        rw [show h1.get? s.heap.objs.size = some o from q] at e1
        rw [Option.some.inj e1]
        exact hs2.extBut _ _ hbe tp
      · refine hs2.extBut _ _ hbe (kk b o hbe hbi ?_)
        have q' : (s.heap.push { cls := .type "tuple", data := .seq #[.int (lo + (i : Nat)) s.toks, u] }).get? b = some o := by rw [← eh1]; exact q
        rw [Heap.get?_push_ne _ _ _ hT] at q'
        exact q'
  done := by
    intro X hP hw hK hc i pins s σ H E I hf st hg
    subst hP hw hK
    obtain ⟨⟨old, he⟩, st⟩ := st
    obtain ⟨xs, hq, hx⟩ := hg
    obtain ⟨its, rv, p, hz⟩ := I.list hq
    obtain ⟨g0, g1, g2, g3, g4, g5⟩ := hf it (by simp)
    have hl := rv.length
    exact enum_end (I.ok.hd hc) he st p.isList (by simp; omega) fun h' eb => ⟨rfl, I.turned (t' := s.toks) (fun b o hb e => eb b o hb e) g0 g1 g3 g4 g5⟩
  self := fun A i s Q E ⟨⟨old, he⟩, _⟩ h => wpAny_pyIter_enum he h
section
variable {X : Cx} {a : Expr} {ta : TE} {p pos kp ip : Pos} {elts : List Expr} {kt : Nat} {pt : Pos} {j : Option Str}
def iEnumS (K : PySem.W.Frag) (ta tk : TA) : TI := fun σ H R => ta σ H fun vs H1 => tk σ H1 fun zs H2 => ∃ l k, vs = [.ref l] ∧ zs = [.int k] ∧ Builtin.SmallTypes.fitsIndex k = true ∧ (∃ xs, SqL K H2 l xs) ∧ R (Ite K l k) H2
theorem enum_it {pins : List (Addr × Obj)} {σ : L2.St} {H : Hp} {s : Shared} {R : It → Hp → Prop} {l : Addr} {lo : Int} {h' : Heap} {E : Value → Shared → Prop} (I : Inv X pins σ H s) (he : IsEnum h' (s.heap.objs.size + 1) s.heap.objs.size lo .none) (hi : h'.IsListIter s.heap.objs.size l 0)
    (kk : ∀ b o, s.heap.get? b = some o → h'.get? b = some o) (q : R (Ite X.K l lo) H) (t : Nat) : wpAny (model X.prog X.w) X.A (pyIter (.ref (s.heap.objs.size + 1))) (PIE X pins σ (.Tuple elts kt pt) R) E { s with heap := h', toks := t } := by
  refine wpAny_pyIter_enum he ⟨_, [s.heap.objs.size + 1, s.heap.objs.size], _, _, H, rfl, I.kept (t' := t) kk, turn_enum l _ _ lo (Nat.succ_ne_self _), ⟨⟨.none, ?_⟩, hi⟩, fun b hb => ?_, q⟩
  · rw [show lo + ((0 : Nat) : Int) = lo by omega]; exact he
  · have hb' : s.heap.objs.size ≤ b := by
      rcases List.mem_cons.mp hb with rfl | hb
      · omega
      · rw [List.mem_singleton.mp hb]; exact Nat.le_refl _
    exact I.fpOk hb' (I.hok.fresh hb')
theorem pi_enumS {ta tk : TA} {kws : List Keyword} (h1 : Gl X "enumerate") (hm : X.mg "enumerate" = none) (ha : PA X [a] ta) (hkw : PK X kws tk) (hks : (backToKw pos (keywordEach kws X.env)).filterMap (·.1) = [("start" : Str)] := by rfl) (hall : (backToKw pos (keywordEach kws X.env)).all (·.1.isSome) = true := by rfl)
    (hs : starEach [a] X.env = (false, eval a X.env) :: starEach [] X.env := by rfl) (hpl : ((backTo pos (starEach [a] X.env)).any (·.1) || (backToKw pos (keywordEach kws X.env)).any (·.1.isNone)) = false := by rfl) :
    PI X (.Tuple elts kt pt) (.Call (.Name "enumerate" p) [a] kws pos) (iEnumS X.K ta tk) := by
  intro pins s σ H R I h
  refine wpAny_Call_Name_kw (ld_blt I h1 hm bt_enumerate (PySem.W.callWith_of (P := fun _ => True) hpl (fun _ _ => ⟨.machine, .inr (.inl rfl), .of_pure rfl⟩) (evalArgs_kw2 hall (thn (ha pos pins s σ H _ I h) fun us s1 ⟨vs, H1, I1, r1, q1⟩ =>
    thn (hkw pos pins s1 σ H1 _ I1 q1) fun ws s2 ⟨zs, H2, I2, rz, l, k, ex, ez, hk, ⟨xs, hq⟩, q2⟩ => ⟨trivial, ?_⟩) hs)))
  subst ex ez
  obtain ⟨u, rfl, ru⟩ := vals1 r1
  obtain ⟨u2, rfl, t, rfl⟩ := vals1 rz
  cases ru
  obtain ⟨its, rv, pl, hz⟩ := I2.list hq
  rw [hks]
  exact call_enum_start pl.isList hk fun h' he hi kk => enum_it I2 he hi kk q2 _
end
theorem for_enum {K : PySem.W.Frag} {a : Addr} {xs : List V} {lo : Int} {g : TG} {tb : TS} {D : Ends} {σ : L2.St} {H : Hp} (Pv : Nat → L2.St → Hp → Prop) (h0 : Pv 0 σ H) (hl : ∀ i σ H, i ≤ xs.length → Pv i σ H → SqL K H a xs)
    (hs : ∀ i y σ H T, xs[i]? = some y → Pv i σ H → H T = none → g (.ref T) σ (upd H T (.tup [.int (lo + (i : Nat)), y])) fun σ2 H2 => tb { D with nx := Pv (i + 1), ct := Pv (i + 1), bk := D.nx } σ2 H2) (hd : ∀ σ H, Pv xs.length σ H → D.nx σ H) :
    ∃ W : Nat → Nat → L2.St → Hp → Prop, (∃ m, W 0 m σ H) ∧ ∀ i m σ H, W i m σ H →
      ((Ite K a lo).stop i H ∧ D.nx σ H) ∨ ((Ite K a lo).go i H ∧ ∃ N : L2.St → Hp → Prop, (∀ σ' H', N σ' H' → ∃ m', m' < m ∧ W (i + 1) m' σ' H') ∧ ∀ x H', (Ite K a lo).yld i H x H' → g x σ H' fun σ2 H2 => tb { D with nx := N, ct := N, bk := D.nx } σ2 H2) := by
  refine ⟨fun i m σ H => m = xs.length - i ∧ i ≤ xs.length ∧ Pv i σ H, ⟨xs.length, rfl, Nat.zero_le _, h0⟩, ?_⟩
  rintro i m σ H ⟨rfl, hi, p⟩
  have q := hl i σ H hi p
  by_cases hlt : i < xs.length
  · refine .inr ⟨⟨xs, xs[i], q, by simp [hlt]⟩, Pv (i + 1), fun σ' H' p' => ⟨xs.length - (i + 1), by omega, rfl, hlt, p'⟩, fun x H' ⟨T, y, e1, e2, e3, e4⟩ => ?_⟩
    subst e1 e3
    exact hs i y σ H T (e4 xs q) p e2
  · obtain rfl : i = xs.length := by omega
    exact .inl ⟨⟨xs, q, Nat.le_refl _⟩, hd σ H p⟩
end L5
namespace L5
open PySem PySem.Spec PyProof.Rows L2 L3 L4
end L5
namespace L5
open PySem PySem.Spec PyProof.Rows L2 L3 L4
open Sem (wp)
section
variable {prog : Program} {w : World} {A : Around} {E : Value → Shared → Prop} {s : Shared}
theorem nxt_item {it t : Addr} {i : Nat} {its : Array Value} {x : Value} {Q : Value → Shared → Prop} (hit : IsTupIter s.heap it t i) (ht : IsTup s.heap t its) (hx : its[i]? = some x)
    (q : ∀ h', IsTupIter h' it t (i + 1) → Heap.SameBut it s.heap h' → Q x { s with heap := h' }) : wpAny (model prog w) A (Builtin.SmallTypes.nextOf (.ref it)) Q E s := by
  obtain ⟨ob, e1, e2, e3⟩ := id hit
  obtain ⟨ot, e4, _, nt, e5⟩ := ht
  have nn : ¬ ((Value.ref t == Value.none) = true) := Bool.false_ne_true
  unfold Builtin.SmallTypes.nextOf
  refine wpAny_bind (wpAny_callSpecial?_slot (name := Str.ofString "__next__") hit.typeIs slot_tupleiter_next (wpAny_call_entry slot_tupleiter_next hit.typeIs entry_tupleiter_next ?_ (args_tupleiter_next _)))
  show wpAny _ _ (field (.ref it) 0 >>= _) _ _ s; refine wpAny_bind (wpAny_field e1 e3 (x := .ref t) rfl ?_)
  show wpAny _ _ (if (Value.ref t == Value.none) = true then _ else _) _ _ s; rw [if_neg nn]
  show wpAny _ _ (field (.ref it) 1 >>= _) _ _ s; refine wpAny_bind (wpAny_field e1 e3 (x := .int i 0) rfl ?_)
  show wpAny _ _ (seqItems? (.ref t) >>= _) _ _ s; refine wpAny_bind (wpAny_seqItems e4 e5 ?_)
  simp only [hx, Int.toNat_natCast]
  refine wpAny_bind (wpAny_setField e1 e3 (by simp) (wpAny_pure ⟨x, rfl, wpAny_pure (q _ ⟨_, Heap.get?_update_self _ e1 (Obj.isFreed_of_fields (Obj.data_mapFields e3 _)), (Obj.cls_mapFields ..).trans e2, ?_⟩ (Heap.SameBut.update ..))⟩))
  rw [Obj.data_mapFields e3]; simp [rawInt]
theorem nxt_end {it t : Addr} {i : Nat} {its : Array Value} {Q : Value → Shared → Prop} (hh : A.handled = none) (hit : IsTupIter s.heap it t i) (ht : IsTup s.heap t its) (hx : its[i]? = none)
    (q : ∀ h' e, Heap.ExtBut it s.heap h' → (∃ o, h'.get? e = some o ∧ o.cls = .type "StopIteration") → E (.ref e) { s with heap := h' }) : wpAny (model prog w) A (Builtin.SmallTypes.nextOf (.ref it)) Q E s := by
  obtain ⟨ob, e1, e2, e3⟩ := id hit
  obtain ⟨ot, e4, _, nt, e5⟩ := ht
  have nn : ¬ ((Value.ref t == Value.none) = true) := Bool.false_ne_true
  unfold Builtin.SmallTypes.nextOf
  refine wpAny_bind (wpAny_callSpecial?_slot (name := Str.ofString "__next__") hit.typeIs slot_tupleiter_next (wpAny_call_entry slot_tupleiter_next hit.typeIs entry_tupleiter_next ?_ (args_tupleiter_next _)))
  show wpAny _ _ (field (.ref it) 0 >>= _) _ _ s; refine wpAny_bind (wpAny_field e1 e3 (x := .ref t) rfl ?_)
  show wpAny _ _ (if (Value.ref t == Value.none) = true then _ else _) _ _ s; rw [if_neg nn]
  show wpAny _ _ (field (.ref it) 1 >>= _) _ _ s; refine wpAny_bind (wpAny_field e1 e3 (x := .int i 0) rfl ?_)
  show wpAny _ _ (seqItems? (.ref t) >>= _) _ _ s; refine wpAny_bind (wpAny_seqItems e4 e5 ?_)
  simp only [hx, Int.toNat_natCast]
  refine wpAny_bind (wpAny_rule (wpAny_bind (wpAny_setField e1 e3 (by simp) ?_)))
  show wpAny _ _ (newExc (.type "StopIteration") [] >>= _) _ _ _; refine wpAny_bind ?_
  simp only [newTuple, newExc]
  refine wpAny_bind (wpAny_newObj_type (wpAny_bind (m := firstArgMember _ _) (wpAny_of_eq (a := Value.none) (by first | rfl | (simp only [firstArgMember]; rfl)) (wpAny_newObj_type ?_ (by size_fits)))) (by size_fits))
  simp only [raiseNew]; refine wpAny_bind (wpAny_handled ?_)
  first | rw [hh] | rw [show A.in1.handled = none from hh]
  exact wpAny_bind (wpAny_pure (wpAny_throw (q _ _ (((Heap.SameBut.update ..).extBut.push _).push _) ⟨_, Heap.get?_push_size _ rfl, rfl⟩)))
theorem zip_item {z TI TO i1 i2 l1 l2 : Addr} {k : Nat} {xs ys : Array Value} {x y c d : Value} {Q : Value → Shared → Prop} (D : ZipApart z TI TO i1 i2 l1 l2)
    (hz : IsZip s.heap z TI TO .none) (hTI : IsPair s.heap TI (.ref i1) (.ref i2)) (hTO : IsPair s.heap TO c d) (h1 : IsTupIter s.heap i1 l1 k) (h2 : IsTupIter s.heap i2 l2 k) (t1 : IsTup s.heap l1 xs) (t2 : IsTup s.heap l2 ys) (hx : xs[k]? = some x) (hy : ys[k]? = some y)
    (q : ∀ h', IsZip h' z TI TO (rawInt s.heap.objs.size) → IsPair h' TO x y → IsTupIter h' i1 l1 (k + 1) → IsTupIter h' i2 l2 (k + 1) → IsPair h' s.heap.objs.size x y → (∀ b o, b ≠ z → b ≠ TO → b ≠ i1 → b ≠ i2 → s.heap.get? b = some o → h'.get? b = some o) → Q (.ref s.heap.objs.size) { s with heap := h' }) :
    wpAny (model prog w) A (Builtin.«zip.__next__» ⟨[.ref z], []⟩) (fun fin s' => ∃ v, fin = .done (.ret v) ∧ Q v s') E s := by
  show wpAny _ _ (field (.ref z) 2 >>= _) _ _ _; refine wpAny_bind (wpAny_field hz rfl (x := .bool false) rfl ?_)
  show wpAny _ _ (field (.ref z) 3 >>= _) _ _ _; refine wpAny_bind (wpAny_field hz rfl (x := .ref TI) rfl (wpAny_bind (wpAny_seqItems hTI rfl ?_)))
  show wpAny _ _ (Builtin.SmallTypes.ownedTupleIsFree (.ref z) >>= _) _ _ _; refine wpAny_bind ?_
  unfold Builtin.SmallTypes.ownedTupleIsFree; refine wpAny_bind (wpAny_field hz rfl (x := .none) rfl (wpAny_pure ?_))
  simp only [if_true]; refine wpAny_bind (wpAny_rule (wpAny_bind (wpAny_field hz rfl (x := .ref TO) rfl (wpAny_bind (wpAny_setField_rec hz (by simp) fun g1 z1 b1 => ?_)))))
  replace z1 : IsZip g1 z TI TO .ellipsis := z1
  refine wpAny_bind ?_; simp only [List.zipIdx_cons, List.zipIdx_nil, List.forIn_cons, List.forIn_nil]
  refine wpAny_bind (wpAny_bind (wpAny_onRaise ?_)); show wpAny _ _ (Builtin.SmallTypes.nextOf (.ref i1) >>= _) _ _ _
  refine wpAny_bind (nxt_item (h1.extBut b1.extBut D.i1z) (t1.extBut b1.extBut D.l1z) hx fun g2 j1 b2 => wpAny_pure ?_)
  have o2 : IsPair g2 TO c d := b2.extBut _ _ D.TOi1 (b1.extBut _ _ D.TOz hTO)
  refine wpAny_bind (wpAny_seqItems o2 rfl (wpAny_bind (wpAny_updateSeq_pair o2 fun g3 o3 b3 => ?_)))
  replace o3 : IsPair g3 TO x d := o3
  refine wpAny_bind (wpAny_letGo (wpAny_pure ?_)); refine wpAny_bind (wpAny_bind (wpAny_onRaise ?_))
  show wpAny _ _ (Builtin.SmallTypes.nextOf (.ref i2) >>= _) _ _ _
  refine wpAny_bind (nxt_item (((h2.extBut b1.extBut D.i2z).extBut b2.extBut D.i12.symm).extBut b3.extBut D.TOi2.symm) (((t2.extBut b1.extBut D.l2z).extBut b2.extBut D.l2i1).extBut b3.extBut D.l2TO) hy fun g4 j2 b4 => wpAny_pure ?_)
  have o4 : IsPair g4 TO x d := b4.extBut _ _ D.TOi2 o3
  refine wpAny_bind (wpAny_seqItems o4 rfl (wpAny_bind (wpAny_updateSeq_pair o4 fun g5 o5 b5 => ?_)))
  replace o5 : IsPair g5 TO x y := o5
  refine wpAny_bind (wpAny_letGo (wpAny_pure (wpAny_pure ?_)))
  refine wpAny_bind (wpAny_seqItems o5 rfl (wpAny_bind (wpAny_newTuple ?_)))
  have sz : g5.objs.size = s.heap.objs.size := by rw [b5.1, b4.1, b3.1, b2.1, b1.1]
  have z5 : IsZip g5 z TI TO .ellipsis := b5.extBut _ _ D.TOz.symm (b4.extBut _ _ D.i2z.symm (b3.extBut _ _ D.TOz.symm (b2.extBut _ _ D.i1z.symm z1)))
  have k5 : ∀ b o, b ≠ z → b ≠ TO → b ≠ i1 → b ≠ i2 → s.heap.get? b = some o → g5.get? b = some o := fun b o c1 c2 c3 c4 e => b5.extBut _ _ c2 (b4.extBut _ _ c4 (b3.extBut _ _ c2 (b2.extBut _ _ c3 (b1.extBut _ _ c1 e))))
  have j1' : IsTupIter g5 i1 l1 (k + 1) := ((j1.extBut b3.extBut D.TOi1.symm).extBut b4.extBut D.i12).extBut b5.extBut D.TOi1.symm
  have j2' : IsTupIter g5 i2 l2 (k + 1) := j2.extBut b5.extBut D.TOi2.symm
  have lz : z < g5.objs.size := Heap.lt_size z5
  show wpAny _ _ (Builtin.SmallTypes.ownedTupleHandOut (.ref z) (.ref g5.objs.size) >>= _) _ _ _; refine wpAny_bind ?_
  unfold Builtin.SmallTypes.ownedTupleHandOut
  have z6 : IsZip (g5.push { cls := .type "tuple", data := .seq #[x, y] }) z TI TO .ellipsis := Heap.get?_push_of_some _ z5
  refine wpAny_bind (wpAny_setField_rec z6 (by simp) fun g7 z7 b7 => ?_)
  replace z7 : IsZip g7 z TI TO (rawInt g5.objs.size) := z7
  refine wpAny_setField_rec z7 (by simp) fun g8 z8 b8 => ?_
  replace z8 : IsZip g8 z TI TO (rawInt g5.objs.size) := z8
  have up : ∀ b o, b ≠ z → g5.get? b = some o → g8.get? b = some o := fun b o c1 e => b8.extBut _ _ c1 (b7.extBut _ _ c1 (Heap.get?_push_of_some _ e))
  have p8 : IsPair g8 g5.objs.size x y := b8.extBut _ _ (Nat.ne_of_gt lz) (b7.extBut _ _ (Nat.ne_of_gt lz) (Heap.get?_push_size _ rfl))
  rw [sz] at z8 p8
  refine wpAny_pure ⟨_, rfl, ?_⟩
  show Q (.ref g5.objs.size) _
  rw [sz]
  obtain ⟨oa, ea, ra⟩ := j1'
  obtain ⟨ob, eb, rb⟩ := j2'
  exact q g8 z8 (up _ _ D.TOz o5) ⟨oa, up _ oa D.i1z ea, ra⟩ ⟨ob, up _ ob D.i2z eb, rb⟩ p8 fun b o c1 c2 c3 c4 e => up b o c1 (k5 b o c1 c2 c3 c4 e)
theorem zip_fin {z TI TO i1 i2 l1 l2 : Addr} {k : Nat} {xs ys : Array Value} {c d : Value} {Q : Fin → Shared → Prop} (hh : A.handled = none) (D : ZipApart z TI TO i1 i2 l1 l2)
    (hz : IsZip s.heap z TI TO .none) (hTI : IsPair s.heap TI (.ref i1) (.ref i2)) (hTO : IsPair s.heap TO c d) (h1 : IsTupIter s.heap i1 l1 k) (h2 : IsTupIter s.heap i2 l2 k) (t1 : IsTup s.heap l1 xs) (t2 : IsTup s.heap l2 ys) (he : xs[k]? = none ∨ ys[k]? = none)
    (q : ∀ h' e, (∀ b o, b ≠ z → b ≠ TO → b ≠ i1 → b ≠ i2 → s.heap.get? b = some o → h'.get? b = some o) → (∃ o, h'.get? e = some o ∧ o.cls = .type "StopIteration") → E (.ref e) { s with heap := h' }) :
    wpAny (model prog w) A (Builtin.«zip.__next__» ⟨[.ref z], []⟩) Q E s := by
  show wpAny _ _ (field (.ref z) 2 >>= _) _ _ _; refine wpAny_bind (wpAny_field hz rfl (x := .bool false) rfl ?_)
  show wpAny _ _ (field (.ref z) 3 >>= _) _ _ _; refine wpAny_bind (wpAny_field hz rfl (x := .ref TI) rfl (wpAny_bind (wpAny_seqItems hTI rfl ?_)))
  show wpAny _ _ (Builtin.SmallTypes.ownedTupleIsFree (.ref z) >>= _) _ _ _; refine wpAny_bind ?_
  unfold Builtin.SmallTypes.ownedTupleIsFree; refine wpAny_bind (wpAny_field hz rfl (x := .none) rfl (wpAny_pure ?_))
  simp only [if_true]; refine wpAny_bind (wpAny_rule (wpAny_bind (wpAny_field hz rfl (x := .ref TO) rfl (wpAny_bind (wpAny_setField_rec hz (by simp) fun g1 z1 b1 => ?_)))))
  replace z1 : IsZip g1 z TI TO .ellipsis := z1
  refine wpAny_bind ?_; simp only [List.zipIdx_cons, List.zipIdx_nil, List.forIn_cons, List.forIn_nil]
  refine wpAny_bind (wpAny_bind (wpAny_onRaise ?_)); show wpAny _ _ (Builtin.SmallTypes.nextOf (.ref i1) >>= _) _ _ _
  cases hx : xs[k]? with
  | none =>
    refine wpAny_bind (nxt_end hh (h1.extBut b1.extBut D.i1z) (t1.extBut b1.extBut D.l1z) hx fun g2 e b2 ⟨oe, ho, hc⟩ => ?_)
    have z2 : IsZip g2 z TI TO .ellipsis := b2 _ _ D.i1z.symm z1
    have ez : e ≠ z := fun p => by subst p; rw [z2] at ho; cases ho; simp at hc
    refine wpAny_setField_rec z2 (by simp) fun g3 _ b3 => q g3 e (fun b o c1 _ c3 _ p => b3.extBut _ _ c1 (b2 _ _ c3 (b1.extBut _ _ c1 p))) ⟨oe, b3.extBut _ _ ez ho, hc⟩
  | some x =>
    have hy : ys[k]? = none := he.elim (fun h => by rw [hx] at h; cases h) id
    refine wpAny_bind (nxt_item (h1.extBut b1.extBut D.i1z) (t1.extBut b1.extBut D.l1z) hx fun g2 j1 b2 => wpAny_pure ?_)
    have o2 : IsPair g2 TO c d := b2.extBut _ _ D.TOi1 (b1.extBut _ _ D.TOz hTO)
    refine wpAny_bind (wpAny_seqItems o2 rfl (wpAny_bind (wpAny_updateSeq_pair o2 fun g3 o3 b3 => ?_)))
    refine wpAny_bind (wpAny_letGo (wpAny_pure ?_)); refine wpAny_bind (wpAny_bind (wpAny_onRaise ?_))
    show wpAny _ _ (Builtin.SmallTypes.nextOf (.ref i2) >>= _) _ _ _
    refine wpAny_bind (nxt_end hh (((h2.extBut b1.extBut D.i2z).extBut b2.extBut D.i12.symm).extBut b3.extBut D.TOi2.symm) (((t2.extBut b1.extBut D.l2z).extBut b2.extBut D.l2i1).extBut b3.extBut D.l2TO) hy fun g4 e b4 ⟨oe, ho, hc⟩ => ?_)
    have z4 : IsZip g4 z TI TO .ellipsis := b4 _ _ D.i2z.symm (b3.extBut _ _ D.TOz.symm (b2.extBut _ _ D.i1z.symm z1))
    have ez : e ≠ z := fun p => by subst p; rw [z4] at ho; cases ho; simp at hc
    refine wpAny_setField_rec z4 (by simp) fun g5 _ b5 => q g5 e (fun b o c1 c2 c3 c4 p => b5.extBut _ _ c1 (b4 _ _ c4 (b3.extBut _ _ c2 (b2.extBut _ _ c3 (b1.extBut _ _ c1 p))))) ⟨oe, b5.extBut _ _ ez ho, hc⟩
end
end L5
namespace L5
open PySem PySem.Spec PyProof.Rows L2 L3 L4
section
variable {prog : Program} {w : World} {A : Around} {E : Value → Shared → Prop} {s : Shared}
theorem zip_next {z TI TO i1 i2 l1 l2 : Addr} {k : Nat} {xs ys : Array Value} {x y c d : Value} {Q : Option Value → Shared → Prop} (D : ZipApart z TI TO i1 i2 l1 l2)
    (hz : IsZip s.heap z TI TO .none) (hTI : IsPair s.heap TI (.ref i1) (.ref i2)) (hTO : IsPair s.heap TO c d) (h1 : IsTupIter s.heap i1 l1 k) (h2 : IsTupIter s.heap i2 l2 k) (t1 : IsTup s.heap l1 xs) (t2 : IsTup s.heap l2 ys) (hx : xs[k]? = some x) (hy : ys[k]? = some y)
    (q : ∀ h', IsZip h' z TI TO (rawInt s.heap.objs.size) → IsPair h' TO x y → IsTupIter h' i1 l1 (k + 1) → IsTupIter h' i2 l2 (k + 1) → IsPair h' s.heap.objs.size x y → (∀ b o, b ≠ z → b ≠ TO → b ≠ i1 → b ≠ i2 → s.heap.get? b = some o → h'.get? b = some o) → Q (some (.ref s.heap.objs.size)) { s with heap := h' }) :
    wpAny (model prog w) A (pyNext (.ref z)) Q E s := by
  have ty : s.TypeIs (.ref z) "zip" := ⟨_, hz, rfl⟩
  unfold pyNext
  exact wpAny_bind (wpAny_attempt (wpAny_callSpecial?_slot (name := Str.ofString "__next__") ty F.slot_zip_next (wpAny_call_entry F.slot_zip_next ty F.entry_zip_next (zip_item D hz hTI hTO h1 h2 t1 t2 hx hy fun h' a1 a2 a3 a4 a5 a6 => wpAny_pure (q h' a1 a2 a3 a4 a5 a6)) (F.args_zip_next_1 _))))
theorem zip_stop {z TI TO i1 i2 l1 l2 : Addr} {k : Nat} {xs ys : Array Value} {c d : Value} {Q : Option Value → Shared → Prop} (hh : A.handled = none) (D : ZipApart z TI TO i1 i2 l1 l2)
    (hz : IsZip s.heap z TI TO .none) (hTI : IsPair s.heap TI (.ref i1) (.ref i2)) (hTO : IsPair s.heap TO c d) (h1 : IsTupIter s.heap i1 l1 k) (h2 : IsTupIter s.heap i2 l2 k) (t1 : IsTup s.heap l1 xs) (t2 : IsTup s.heap l2 ys) (he : xs[k]? = none ∨ ys[k]? = none)
    (q : ∀ h', (∀ b o, b ≠ z → b ≠ TO → b ≠ i1 → b ≠ i2 → s.heap.get? b = some o → h'.get? b = some o) → Q none { s with heap := h' }) : wpAny (model prog w) A (pyNext (.ref z)) Q E s := by
  have ty : s.TypeIs (.ref z) "zip" := ⟨_, hz, rfl⟩
  unfold pyNext
  refine wpAny_bind (wpAny_attempt (wpAny_callSpecial?_slot (name := Str.ofString "__next__") ty F.slot_zip_next (wpAny_call_entry F.slot_zip_next ty F.entry_zip_next (zip_fin hh D hz hTI hTO h1 h2 t1 t2 he fun h' e hk ⟨o, ho, hc⟩ => ?_) (F.args_zip_next_1 _))))
  exact wpAny_bind (wpAny_isInstance (T := "StopIteration") (b := true) ⟨o, ho, hc⟩ isSubtype_stop (wpAny_pure (q _ hk)))
end
def Itz (K : PySem.W.Frag) (a b : Addr) : It :=
  ⟨fun i H => ∃ xs ys x y, SqT K H a xs ∧ SqT K H b ys ∧ xs[i]? = some x ∧ ys[i]? = some y,
   fun i H v H' => ∃ T x y, v = .ref T ∧ H T = none ∧ H' = upd H T (.tup [x, y]) ∧ (∀ xs, SqT K H a xs → xs[i]? = some x) ∧ ∀ ys, SqT K H b ys → ys[i]? = some y,
   fun i H => ∃ xs ys, SqT K H a xs ∧ SqT K H b ys ∧ (xs.length ≤ i ∨ ys.length ≤ i)⟩
theorem turn_zip {P : Program} {w : World} {K : PySem.W.Frag} {elts : List Expr} {kt : Nat} {pt : Pos} (a b z TI TO i1 i2 : Addr) (D : ZipApart z TI TO i1 i2 a b) :
    Turn P w K (.Tuple elts kt pt) (Itz K a b) [z, TI, TO, i1, i2] z (fun i h => IsZip h z TI TO .none ∧ IsPair h TI (.ref i1) (.ref i2) ∧ (∃ c d, IsPair h TO c d) ∧ IsTupIter h i1 a i ∧ IsTupIter h i2 b i) where
  mem := by simp
  obj := fun i h ⟨hz, hTI, ⟨c, d, hTO⟩, h1, h2⟩ x hx => by
    obtain ⟨o1, e1, _, d1⟩ := h1
    obtain ⟨o2, e2, _, d2⟩ := h2
    simp only [List.mem_cons, List.not_mem_nil, or_false] at hx
    rcases hx with rfl | rfl | rfl | rfl | rfl
    · exact ⟨_, hz, fun v q => by cases (show Data.fields _ = Data.cell v from q)⟩
    · exact ⟨_, hTI, fun v q => by cases (show Data.seq _ _ = Data.cell v from q)⟩
    · exact ⟨_, hTO, fun v q => by cases (show Data.seq _ _ = Data.cell v from q)⟩
    · exact ⟨o1, e1, fun v q => by rw [d1] at q; cases q⟩
    · exact ⟨o2, e2, fun v q => by rw [d2] at q; cases q⟩
  keep := fun i h h' ⟨hz, hTI, ⟨c, d, hTO⟩, ⟨o1, e1, r1⟩, ⟨o2, e2, r2⟩⟩ k => ⟨k z (by simp) _ hz, k TI (by simp) _ hTI, ⟨c, d, k TO (by simp) _ hTO⟩, ⟨o1, k i1 (by simp) _ e1, r1⟩, ⟨o2, k i2 (by simp) _ e2, r2⟩⟩
  item := by
    intro X hP hw hK hc i pins s σ H E I hf st hg
    subst hP hw hK
    obtain ⟨hz, hTI, ⟨c, d, hTO⟩, h1, h2⟩ := st
    obtain ⟨xs, ys, x, y, hq1, hq2, hx, hy⟩ := hg
    obtain ⟨its1, rv1, p1, _⟩ := I.tuple hq1
    obtain ⟨its2, rv2, p2, _⟩ := I.tuple hq2
    obtain ⟨u, hu, ru⟩ := rv1.get hx
    obtain ⟨v, hv, rv⟩ := rv2.get hy
    have lt1 : z < s.heap.objs.size := Heap.lt_size hz
    have lt2 : TI < s.heap.objs.size := Heap.lt_size hTI
    have lt3 : TO < s.heap.objs.size := Heap.lt_size hTO
    have lt4 : i1 < s.heap.objs.size := by obtain ⟨o, e, _⟩ := id h1; exact Heap.lt_size e
    have lt5 : i2 < s.heap.objs.size := by obtain ⟨o, e, _⟩ := id h2; exact Heap.lt_size e
    refine zip_next D hz hTI hTO h1 h2 p1 p2 (x := u) (y := v) (by simpa using hu) (by simpa using hv) fun h' a1 a2 a3 a4 a5 kk => ⟨_, rfl, ?_⟩
    refine wpAny_letOwnedTupleGo_zip a1 fun g2 z2 b2 => ?_
    replace b2 : Heap.SameBut z h' g2 := b2
    obtain ⟨g1, eg1⟩ : ∃ g1, g1 = s.heap.push { cls := .type "tuple", data := .seq #[u, v] } := ⟨_, rfl⟩
    have e1 : g1.get? s.heap.objs.size = some { cls := .type "tuple", data := .seq #[u, v] } := by rw [eg1]; exact Heap.get?_push_size _ rfl
    have I1 : Inv X pins σ (upd H s.heap.objs.size (.tup [x, y])) { s with heap := g1, toks := s.toks } :=
      I.laid (fun b o q => by rw [eg1]; exact Heap.get?_push_of_some _ q) (Nat.le_refl _) ⟨by show 2 ≤ sizeLine; decide, [u, v], .cons ru (.cons rv .nil), ⟨_, e1, rfl, _, rfl⟩⟩
    have lt : ∀ b ∈ [z, TI, TO, i1, i2], b < s.heap.objs.size := fun b hb => by
      simp only [List.mem_cons, List.not_mem_nil, or_false] at hb
      rcases hb with rfl | rfl | rfl | rfl | rfl <;> assumption
    have ff : ∀ b ∈ [z, TI, TO, i1, i2], FpOk X pins (upd H s.heap.objs.size (.tup [x, y])) b := fun b hb => by
      obtain ⟨q0, q1⟩ := hf b hb
      refine ⟨?_, q1⟩
      rw [upd_ne (Nat.ne_of_lt (lt b hb))]
      exact q0
    have I2 := I1.turnedL (t' := s.toks) (h' := g2) (its := [z, TI, TO, i1, i2]) (fun b o hb q => ?_) ff
    · refine ⟨.ref s.heap.objs.size, _, I2, rfl, ⟨_, x, y, rfl, I.fresh, rfl, (fun zs hzs => by rw [I.tuple_inj hzs hq1]; exact hx), fun zs hzs => by rw [I.tuple_inj hzs hq2]; exact hy⟩, ⟨z2, b2.extBut _ _ D.TIz (kk _ _ D.TIz D.TITO D.TIi1 D.TIi2 hTI), ⟨u, v, b2.extBut _ _ D.TOz a2⟩, a3.extBut b2.extBut D.i1z, a4.extBut b2.extBut D.i2z⟩, fun b hb => (ff b hb).1⟩
    · have n1 : b ≠ z := fun q => hb (by simp [q])
      have n2 : b ≠ TO := fun q => hb (by simp [q])
      have n3 : b ≠ i1 := fun q => hb (by simp [q])
      have n4 : b ≠ i2 := fun q => hb (by simp [q])
      by_cases hT : b = s.heap.objs.size
      · subst hT
        rw [show g1.get? s.heap.objs.size = some o from q] at e1
        rw [Option.some.inj e1]
        exact b2.extBut _ _ n1 a5
      · refine b2.extBut _ _ n1 (kk b o n1 n2 n3 n4 ?_)
        have q' : (s.heap.push { cls := .type "tuple", data := .seq #[u, v] }).get? b = some o := by rw [← eg1]; exact q
        rw [Heap.get?_push_ne _ _ _ hT] at q'
        exact q'
  done := by
    intro X hP hw hK hc i pins s σ H E I hf st hg
    subst hP hw hK
    obtain ⟨hz, hTI, ⟨c, d, hTO⟩, h1, h2⟩ := st
    obtain ⟨xs, ys, hq1, hq2, hlen⟩ := hg
    obtain ⟨its1, rv1, p1, _⟩ := I.tuple hq1
    obtain ⟨its2, rv2, p2, _⟩ := I.tuple hq2
    have l1 := rv1.length
    have l2 := rv2.length
    refine zip_stop (I.ok.hd hc) D hz hTI hTO h1 h2 p1 p2 (hlen.imp (fun h => by simp; omega) fun h => by simp; omega) fun h' kk => ⟨rfl, ?_⟩
    exact I.turnedL (t' := s.toks) (its := [z, TI, TO, i1, i2]) (fun b o hb e => kk b o (fun q => hb (by simp [q])) (fun q => hb (by simp [q])) (fun q => hb (by simp [q])) (fun q => hb (by simp [q])) e) hf
  self := fun A i s Q E ⟨hz, _⟩ h => wpAny_pyIter_zip hz h
abbrev zq1 (h : Heap) (a : Addr) : Heap := h.push { cls := .type "tuple_iterator", data := .fields #[.ref a, .int 0 0] }
abbrev zq2 (h : Heap) (a b : Addr) : Heap := (zq1 h a).push { cls := .type "tuple_iterator", data := .fields #[.ref b, .int 0 0] }
abbrev zq3 (h : Heap) (a b : Addr) : Heap := (zq2 h a b).push { cls := .type "tuple", data := .seq #[.ref h.objs.size, .ref (zq1 h a).objs.size] }
abbrev zq4 (h : Heap) (a b : Addr) : Heap := (zq3 h a b).push { cls := .type "tuple", data := .seq #[.none, .none] }
abbrev zq5 (h : Heap) (a b : Addr) : Heap := (zq4 h a b).push { cls := .type "zip", data := .fields #[.none, .bool false, .bool false, .ref (zq2 h a b).objs.size, .ref (zq3 h a b).objs.size] }
theorem zip_made (a b : Addr) (xs ys : Array Value) : Meets (Builtin.«zip.__new__» ⟨[.type "zip", .ref a, .ref b], []⟩) (fun _ R s => IsTup s.heap a xs ∧ IsTup s.heap b ys ∧ R (.ok (.ret (.ref (zq4 s.heap a b).objs.size))) { s with heap := zq5 s.heap a b }) :=
  .of_wp fun prog w A R s h => by
    obtain ⟨hp, g, d, tk, os⟩ := s
    obtain ⟨t1, t2, h⟩ := h
    have hsub := sub_zip
    have T1 : IsTup (Shared.heap ⟨hp, g, d, tk, os⟩) a xs := t1
    have T2 : IsTup (Shared.heap ⟨hp.push { cls := .type "tuple_iterator", data := .fields #[.ref a, .int 0 0] }, g, d, tk, os⟩) b ys := IsTup.push t2 _
    wp_walk using iter_tuple T1, iter_tuple T2
    exact ⟨_, rfl, h⟩
end L5
namespace L5
open PySem PySem.Spec PyProof.Rows L2 L3 L4
theorem bt_zip : bootBuiltins "zip" = some (.type "zip") := by decide +kernel
section
variable {prog : Program} {w : World} {A : Around} {E : Value → Shared → Prop} {s : Shared}
theorem call_zip_t {a b : Addr} {xs ys : Array Value} {Q : Value → Shared → Prop} (t1 : IsTup s.heap a xs) (t2 : IsTup s.heap b ys)
    (q : ∀ h', IsZip h' (s.heap.objs.size + 4) (s.heap.objs.size + 2) (s.heap.objs.size + 3) .none → IsPair h' (s.heap.objs.size + 2) (.ref s.heap.objs.size) (.ref (s.heap.objs.size + 1)) → IsPair h' (s.heap.objs.size + 3) .none .none →
      IsTupIter h' s.heap.objs.size a 0 → IsTupIter h' (s.heap.objs.size + 1) b 0 → (∀ c o, s.heap.get? c = some o → h'.get? c = some o) → Q (.ref (s.heap.objs.size + 4)) { s with heap := h' }) :
    wpAny (model prog w) A (call (.type "zip") [.ref a, .ref b]) Q E s := by
  refine callType_new F.called_zip (by decide) (F.typeCall_zip_2 _ _) (F.newCall_zip_2 _ _) (fun obj => F.args_object_init_3 obj _ _) F.entry_zip_new (zip_made a b xs ys) ⟨t1, t2, ?_⟩
  have n1 : (zq1 s.heap a).objs.size = s.heap.objs.size + 1 := Heap.size_push ..
  have n2 : (zq2 s.heap a b).objs.size = s.heap.objs.size + 2 := by rw [Heap.size_push, n1]
  have n3 : (zq3 s.heap a b).objs.size = s.heap.objs.size + 3 := by rw [Heap.size_push, n2]
  have n4 : (zq4 s.heap a b).objs.size = s.heap.objs.size + 4 := by rw [Heap.size_push, n3]
  have m5 : (zq5 s.heap a b).get? (zq4 s.heap a b).objs.size = some _ := Heap.get?_push_size _ rfl
  have m4 : (zq5 s.heap a b).get? (zq3 s.heap a b).objs.size = some _ := Heap.get?_push_of_some _ (Heap.get?_push_size _ rfl)
  have m3 : (zq5 s.heap a b).get? (zq2 s.heap a b).objs.size = some _ := Heap.get?_push_of_some _ (Heap.get?_push_of_some _ (Heap.get?_push_size _ rfl))
  have m2 : (zq5 s.heap a b).get? (zq1 s.heap a).objs.size = some _ := Heap.get?_push_of_some _ (Heap.get?_push_of_some _ (Heap.get?_push_of_some _ (Heap.get?_push_size _ rfl)))
  have m1 : (zq5 s.heap a b).get? s.heap.objs.size = some _ := Heap.get?_push_of_some _ (Heap.get?_push_of_some _ (Heap.get?_push_of_some _ (Heap.get?_push_of_some _ (Heap.get?_push_size _ rfl))))
  show _ ∧ _
  rw [n2, n3, n4] at m5
  rw [n1, n2] at m3
  rw [n3] at m4
  rw [n1] at m2
  rw [n4]
  exact ⟨⟨_, m5, rfl⟩, q _ m5 m3 m4 ⟨_, m1, rfl, rfl⟩ ⟨_, m2, rfl, rfl⟩ fun c o e => Heap.get?_push_of_some _ (Heap.get?_push_of_some _ (Heap.get?_push_of_some _ (Heap.get?_push_of_some _ (Heap.get?_push_of_some _ e))))⟩
end
theorem zip_apart {n a b : Nat} (la : a < n) (lb : b < n) : ZipApart (n + 4) (n + 2) (n + 3) n (n + 1) a b :=
  ⟨(show (n + 2) ≠ (n + 4) by omega), (show (n + 3) ≠ (n + 4) by omega), (show n ≠ (n + 4) by omega), (show (n + 1) ≠ (n + 4) by omega), (show (n + 2) ≠ (n + 3) by omega), (show (n + 2) ≠ n by omega), (show (n + 2) ≠ (n + 1) by omega), (show (n + 3) ≠ n by omega), (show (n + 3) ≠ (n + 1) by omega), (show n ≠ (n + 1) by omega), (show a ≠ (n + 4) by omega), (show a ≠ (n + 3) by omega), (show a ≠ n by omega), (show a ≠ (n + 1) by omega), (show b ≠ (n + 4) by omega), (show b ≠ (n + 3) by omega), (show b ≠ n by omega), (show b ≠ (n + 1) by omega)⟩
section
variable {X : Cx} {e1 e2 : Expr} {p pos : Pos} {elts : List Expr} {kt : Nat} {pt : Pos}
def iZip (K : PySem.W.Frag) (ta : TA) : TI := fun σ H R => ta σ H fun vs H1 => ∃ a b, vs = [.ref a, .ref b] ∧ (∃ xs, SqT K H1 a xs) ∧ (∃ ys, SqT K H1 b ys) ∧ R (Itz K a b) H1
theorem pi_zip {ta : TA} (h1 : Gl X "zip") (hm : X.mg "zip" = none) (ha : PA X [e1, e2] ta) (hs : starEach [e1, e2] X.env = (false, eval e1 X.env) :: starEach [e2] X.env := by rfl) (hpl : (backTo pos (starEach [e2] X.env)).any (·.1) = false := by rfl) :
    PI X (.Tuple elts kt pt) (.Call (.Name "zip" p) [e1, e2] [] pos) (iZip X.K ta) := by
  intro pins s σ H R I h
  refine wpAny_Call_Name_kw (ld_blt I h1 hm bt_zip (PyProof.Rows.callWith_type1 (thn (ha pos pins s σ H _ I h) fun us s1 ⟨vs, H1, I1, r1, a, b, ex, ⟨xs, hq1⟩, ⟨ys, hq2⟩, q1⟩ => ?_) hs hpl))
  subst ex
  obtain ⟨u, u', rfl, ru, ru'⟩ := vals2 r1
  cases ru
  cases ru'
  obtain ⟨its1, rv1, p1, _⟩ := I1.tuple hq1
  obtain ⟨its2, rv2, p2, _⟩ := I1.tuple hq2
  have la : a < s1.heap.objs.size := by obtain ⟨o, e, _⟩ := p1; exact Heap.lt_size e
  have lb : b < s1.heap.objs.size := by obtain ⟨o, e, _⟩ := p2; exact Heap.lt_size e
  refine call_zip_t p1 p2 fun h' az aTI aTO j1 j2 kk => ?_
  have D := zip_apart (n := s1.heap.objs.size) la lb
  refine wpAny_pyIter_zip az ⟨_, [s1.heap.objs.size + 4, s1.heap.objs.size + 2, s1.heap.objs.size + 3, s1.heap.objs.size, s1.heap.objs.size + 1], _, _, H1, rfl, I1.kept (t' := s1.toks) kk, turn_zip a b _ _ _ _ _ D, ⟨az, aTI, ⟨_, _, aTO⟩, j1, j2⟩, fun c hc => ?_, q1⟩
  have hc' : s1.heap.objs.size ≤ c := by
    simp only [List.mem_cons, List.not_mem_nil, or_false] at hc
    rcases hc with rfl | rfl | rfl | rfl | rfl
    · exact Nat.le_add_right _ _
    · exact Nat.le_add_right _ _
    · exact Nat.le_add_right _ _
    · exact Nat.le_refl _
    · exact Nat.le_add_right _ _
  exact I1.fpOk hc' (I1.hok.fresh hc')
end
theorem for_zip {K : PySem.W.Frag} {a b : Addr} {xs ys : List V} {g : TG} {tb : TS} {D : Ends} {σ : L2.St} {H : Hp} (Pv : Nat → L2.St → Hp → Prop) (h0 : Pv 0 σ H) (hl : ∀ i σ H, Pv i σ H → SqT K H a xs ∧ SqT K H b ys) (hlen : xs.length = ys.length)
    (hs : ∀ i x y σ H T, xs[i]? = some x → ys[i]? = some y → Pv i σ H → H T = none → g (.ref T) σ (upd H T (.tup [x, y])) fun σ2 H2 => tb { D with nx := Pv (i + 1), ct := Pv (i + 1), bk := D.nx } σ2 H2) (hd : ∀ σ H, Pv xs.length σ H → D.nx σ H) :
    ∃ W : Nat → Nat → L2.St → Hp → Prop, (∃ m, W 0 m σ H) ∧ ∀ i m σ H, W i m σ H →
      ((Itz K a b).stop i H ∧ D.nx σ H) ∨ ((Itz K a b).go i H ∧ ∃ N : L2.St → Hp → Prop, (∀ σ' H', N σ' H' → ∃ m', m' < m ∧ W (i + 1) m' σ' H') ∧ ∀ x H', (Itz K a b).yld i H x H' → g x σ H' fun σ2 H2 => tb { D with nx := N, ct := N, bk := D.nx } σ2 H2) := by
  refine ⟨fun i m σ H => m = xs.length - i ∧ i ≤ xs.length ∧ Pv i σ H, ⟨xs.length, rfl, Nat.zero_le _, h0⟩, ?_⟩
  rintro i m σ H ⟨rfl, hi, p⟩
  obtain ⟨q1, q2⟩ := hl i σ H p
  by_cases hlt : i < xs.length
  · refine .inr ⟨⟨xs, ys, xs[i], ys[i]'(by omega), q1, q2, List.getElem?_eq_getElem hlt, List.getElem?_eq_getElem (by omega)⟩, Pv (i + 1), fun σ' H' p' => ⟨xs.length - (i + 1), by omega, rfl, hlt, p'⟩, fun v H' ⟨T, x, y, e1, e2, e3, e4, e5⟩ => ?_⟩
    subst e1 e3
    exact hs i x y σ H T (e4 xs q1) (e5 ys q2) p e2
  · obtain rfl : i = xs.length := by omega
    exact .inl ⟨⟨xs, ys, q1, q2, .inl (Nat.le_refl _)⟩, hd σ H p⟩
end L5
namespace L4
open PySem PySem.Spec PyProof.Rows L2 L3
theorem foldl_app (l : List (Array Nat)) : ∀ acc : Array Nat, (l.foldl (· ++ ·) acc).toList = acc.toList ++ (l.map Array.toList).flatten := by
  induction l with
  | nil => intro acc; simp
  | cons a l ih => intro acc; rw [List.foldl_cons, ih]; simp
theorem cs_mul (c : Nat) (n : Int) : cs (PySem.Txt.mul ⟨#[c]⟩ n) = List.replicate n.toNat c := by
  unfold PySem.Txt.mul
  split
  · rw [show n.toNat = 0 by omega]; rfl
  · split
    · rename_i h1 h
      rw [Bool.or_eq_true] at h
      have h2 : (⟨#[c]⟩ : Str).length = 1 := rfl
      have : n = 1 := by
        rcases h with h | h
        · exact eq_of_beq h
        · rw [h2] at h; cases h
      subst this
      rfl
    · unfold cs
      rw [foldl_app]
      simp
theorem cut_from {xs : List V} (k : Nat) (h : k ≤ xs.length) : cutV xs (some (k : Int)) none = xs.drop k := by
  unfold cutV
  rw [HT.sIx_nat, HT.sIx_none, Nat.min_eq_left h]
  exact List.take_of_length_le (by rw [List.length_drop]; omega)
theorem cut_to {xs : List V} (k : Nat) : cutV xs none (some (k : Int)) = xs.take k := by
  unfold cutV
  rw [HT.sIx_nat, HT.sIx_none, List.drop_zero, Nat.sub_zero]
  by_cases h : k ≤ xs.length
  · rw [Nat.min_eq_left h]
  · rw [Nat.min_eq_right (by omega), List.take_length, List.take_of_length_le (by omega)]
theorem strOk_small {t : Str} (h : ∀ c ∈ cs t, c < 1114112) : PyData.strOk t = true := by
  unfold PyData.strOk
  rw [← Array.all_toList, List.all_eq_true]
  intro c hc
  exact decide_eq_true (h c hc)
end L4
namespace CW
open PySem L4
def keys : List Str := ["often", "all", "some", "of", "from", "any", "or", "level", "mark", "worth", "end"]
def letters : Str := "abcdefghijklmnopqrstuvwxyz"
def figures : Str := "0123456789"
def onlyOf (t g : Str) : Bool := t.cps.toList.all fun c => g.cps.toList.contains c
def isWord (t : Str) : Bool := decide (1 ≤ t.length) && decide (t.length ≤ 12) && !keys.contains t && onlyOf t letters
def isNum (t : Str) : Bool := decide (1 ≤ t.length) && decide (t.length ≤ 60) && onlyOf t figures && (t == "0" || !((⟨#[t.cps.getD 0 0]⟩ : Str) == "0"))
def valOf (t : Str) : Int := ((PySem.NumText.digitsVal (cs t) : Nat) : Int)
structure Work where
  name : Str
  field : Str
  level : Int
  mark : Int
def Work.data (w : Work) : PyData := .tuple [.str w.name, .str w.field, .int w.level, .int w.mark]
theorem letters_codes : letters.cps.toList = List.range' 97 26 := by decide +kernel
theorem figures_codes : figures.cps.toList = List.range' 48 10 := by decide +kernel
theorem onlyOf_iff {t g : Str} : onlyOf t g = true ↔ ∀ c ∈ cs t, c ∈ g.cps.toList := by
  unfold onlyOf cs
  rw [List.all_eq_true]
  exact ⟨fun h c hc => List.contains_iff_mem.mp (h c hc), fun h c hc => List.contains_iff_mem.mpr (h c hc)⟩
theorem only_letters {t : Str} : onlyOf t letters = true ↔ ∀ c ∈ cs t, 97 ≤ c ∧ c ≤ 122 := by
  rw [onlyOf_iff, letters_codes]
  constructor
  · intro h c hc
    have := List.mem_range'_1.mp (h c hc)
    omega
  · intro h c hc
    have := h c hc
    exact List.mem_range'_1.mpr (by omega)
theorem only_figures {t : Str} : onlyOf t figures = true ↔ ∀ c ∈ cs t, 48 ≤ c ∧ c ≤ 57 := by
  rw [onlyOf_iff, figures_codes]
  constructor
  · intro h c hc
    have := List.mem_range'_1.mp (h c hc)
    omega
  · intro h c hc
    have := h c hc
    exact List.mem_range'_1.mpr (by omega)
theorem isWord_iff {t : Str} : isWord t = true ↔ 1 ≤ t.length ∧ t.length ≤ 12 ∧ t ∉ keys ∧ ∀ c ∈ cs t, 97 ≤ c ∧ c ≤ 122 := by
  unfold isWord
  rw [Bool.and_eq_true, Bool.and_eq_true, Bool.and_eq_true, only_letters]
  simp only [decide_eq_true_eq, Bool.not_eq_true', List.contains_eq_mem, decide_eq_false_iff_not]
  exact ⟨fun ⟨⟨⟨a, b⟩, c⟩, d⟩ => ⟨a, b, c, d⟩, fun ⟨a, b, c, d⟩ => ⟨⟨⟨a, b⟩, c⟩, d⟩⟩
theorem head_getD {t : Str} (h : 1 ≤ t.length) : ∃ r, cs t = t.cps.getD 0 0 :: r := by
  unfold cs
  have hs : 0 < t.cps.size := h
  obtain ⟨l⟩ := t
  obtain ⟨l⟩ := l
  cases l with
  | nil => cases hs
  | cons a r => exact ⟨r, rfl⟩
theorem zero_one (c : Nat) : ((⟨#[c]⟩ : Str) == "0") = decide (c = 48) := by
  have e : ("0" : Str) = ⟨#[48]⟩ := by decide +kernel
  rw [e]
  by_cases h : c = 48
  · subst h; decide
  · rw [decide_eq_false h, beq_eq_false_iff_ne]
    intro z
    have : cs ⟨#[c]⟩ = cs ⟨#[48]⟩ := congrArg cs z
    rw [cs_one, cs_one] at this
    exact h (List.cons.inj this).1
theorem isNum_iff {t : Str} : isNum t = true ↔ 1 ≤ t.length ∧ t.length ≤ 60 ∧ (∀ c ∈ cs t, 48 ≤ c ∧ c ≤ 57) ∧ (t = "0" ∨ (cs t).head? ≠ some 48) := by
  unfold isNum
  rw [Bool.and_eq_true, Bool.and_eq_true, Bool.and_eq_true, only_figures, Bool.or_eq_true, zero_one]
  simp only [decide_eq_true_eq, beq_iff_eq, Bool.not_eq_true', decide_eq_false_iff_not]
  constructor
  · rintro ⟨⟨⟨a, b⟩, c⟩, d⟩
    obtain ⟨r, e⟩ := head_getD a
    refine ⟨a, b, c, d.imp id fun z q => ?_⟩
    rw [e] at q
    exact z (Option.some.inj q)
  · rintro ⟨a, b, c, d⟩
    obtain ⟨r, e⟩ := head_getD a
    refine ⟨⟨⟨a, b⟩, c⟩, d.imp id fun z q => ?_⟩
    rw [e, q] at z
    exact z rfl
theorem Figs.isNum {n : Int} {t : Str} (h : Figs n t) : isNum t = true := isNum_iff.mpr ⟨h.pos, h.most, h.digs, h.lead⟩
theorem Figs.val {n : Int} {t : Str} (h : Figs n t) : valOf t = n := by
  have e := h.reads
  rw [int_reads h.pos h.most h.digs] at e
  exact Option.some.inj e
theorem num_reads {t : Str} (h : isNum t = true) : PySem.intText? t = some (valOf t) ∧ t.length ≤ 60 := by
  obtain ⟨a, b, c, _⟩ := isNum_iff.mp h
  exact ⟨int_reads a b c, b⟩
structure Work.Ok (w : Work) : Prop where
  name : isWord w.name = true
  field : isWord w.field = true
  l0 : 0 ≤ w.level
  l1 : w.level < 10 ^ 60
  m0 : 0 ≤ w.mark
  m1 : w.mark < 10 ^ 60
theorem word_free {t : Str} (h : isWord t = true) {c : Nat} (hc : c < 97) : c ∉ cs t := fun z => by
  have := (isWord_iff.mp h).2.2.2 c z
  omega
theorem figs_free {n : Int} {t : Str} (h : Figs n t) {c : Nat} (hc : c < 48) : c ∉ cs t := fun z => by
  have := h.digs c z
  omega
end CW
namespace CW
open PySem L4
end CW
namespace L6
open PySem PySem.Spec PyProof.Rows L2 L3 L4
def Rising (xs : Array Nat) : Prop := ∀ i k, i < k → k < xs.size → xs.getD i 0 < xs.getD k 0
theorem getD_any {xs : Array Nat} {i : Nat} (h : i < xs.size) (a b : Nat) : xs.getD i a = xs.getD i b := by simp [Array.getD, h]
theorem go_spec (xs : Array Nat) (j : Nat) (R : Rising xs) : ∀ (fuel lo hi : Nat), hi - lo ≤ fuel → lo ≤ hi → hi ≤ xs.size → (∀ i, i < lo → xs.getD i 0 < j) → (∀ i, hi ≤ i → i < xs.size → j ≤ xs.getD i 0) →
    SetTable.below.go xs j fuel lo hi ≤ xs.size ∧ (∀ i, i < SetTable.below.go xs j fuel lo hi → xs.getD i 0 < j) ∧ (∀ i, SetTable.below.go xs j fuel lo hi ≤ i → i < xs.size → j ≤ xs.getD i 0)
  | 0, lo, hi, hf, hl, hh, a, b => by
    have e : lo = hi := by omega
    subst e
    exact ⟨hh, a, b⟩
  | fuel + 1, lo, hi, hf, hl, hh, a, b => by
    unfold SetTable.below.go
    by_cases hlt : lo < hi
    · rw [if_pos hlt]
      dsimp only
      have hm : (lo + hi) / 2 < xs.size := by omega
      rw [getD_any hm j 0]
      by_cases hc : xs.getD ((lo + hi) / 2) 0 < j
      · rw [if_pos hc]
        refine go_spec xs j R fuel _ hi (by omega) (by omega) hh (fun i hi' => ?_) b
        by_cases e : i = (lo + hi) / 2
        · rw [e]; exact hc
        · exact Nat.lt_trans (R i _ (by omega) hm) hc
      · rw [if_neg hc]
        refine go_spec xs j R fuel lo _ (by omega) (by omega) (by omega) a fun i h1 h2 => ?_
        by_cases e : i = (lo + hi) / 2
        · rw [e]; omega
        · have := R _ i (show (lo + hi) / 2 < i by omega) h2
          omega
    · rw [if_neg hlt]
      have e : lo = hi := by omega
      subst e
      exact ⟨hh, a, b⟩
theorem below_spec {xs : Array Nat} (R : Rising xs) (j : Nat) : SetTable.below xs j ≤ xs.size ∧ (∀ i, i < SetTable.below xs j → xs.getD i 0 < j) ∧ (∀ i, SetTable.below xs j ≤ i → i < xs.size → j ≤ xs.getD i 0) :=
  go_spec xs j R xs.size 0 xs.size (by omega) (Nat.zero_le _) (Nat.le_refl _) (fun i h => absurd h (by omega)) fun i h1 h2 => absurd h1 (by omega)
theorem getD_ins {xs : Array Nat} {p : Nat} (hp : p ≤ xs.size) (x i : Nat) : (SetTable.insertAt xs p x).getD i 0 = if i < p then xs.getD i 0 else if i = p then x else xs.getD (i - 1) 0 := by
  have e := SetTable.toList_insertAt xs p x
  have hl : xs.toList.length = xs.size := by simp
  have key : ∀ (ys : Array Nat) (k : Nat), ys.getD k 0 = (ys.toList[k]?).getD 0 := fun ys k => by simp [Array.getD_eq_getD_getElem?]
  rw [key, key, key, e]
  by_cases h1 : i < p
  · rw [if_pos h1, List.getElem?_append_left (by rw [List.length_take]; omega), List.getElem?_take_of_lt h1]
  · rw [if_neg h1, List.getElem?_append_right (by rw [List.length_take]; omega), List.length_take, Nat.min_eq_left (by omega)]
    by_cases h2 : i = p
    · subst h2
      rw [if_pos rfl, Nat.sub_self]; rfl
    · rw [if_neg h2]
      obtain ⟨k, hk⟩ : ∃ k, i - p = k + 1 := ⟨i - p - 1, by omega⟩
      rw [hk, List.getElem?_cons_succ, List.getElem?_drop]
      congr 2
      omega
theorem size_ins {xs : Array Nat} {p : Nat} (hp : p ≤ xs.size) (x : Nat) : (SetTable.insertAt xs p x).size = xs.size + 1 := by
  have e := congrArg List.length (SetTable.toList_insertAt xs p x)
  simp at e
  omega
theorem rising_ins {xs : Array Nat} (R : Rising xs) {j : Nat} (hj : ∀ i, i < xs.size → xs.getD i 0 ≠ j) : Rising (SetTable.insertAt xs (SetTable.below xs j) j) := by
  obtain ⟨b0, b1, b2⟩ := below_spec R j
  generalize SetTable.below xs j = p at b0 b1 b2
  intro i k hik hk
  rw [size_ins b0] at hk
  rw [getD_ins b0, getD_ins b0]
  by_cases h1 : i < p
  · rw [if_pos h1]
    by_cases h2 : k < p
    · rw [if_pos h2]; exact R i k hik (by omega)
    · rw [if_neg h2]
      by_cases h3 : k = p
      · rw [if_pos h3]; exact b1 i h1
      · rw [if_neg h3]
        exact Nat.lt_of_lt_of_le (b1 i h1) (b2 (k - 1) (by omega) (by omega))
  · rw [if_neg h1, if_neg (show ¬ k < p by omega), if_neg (show ¬ k = p by omega)]
    by_cases h2 : i = p
    · rw [if_pos h2]
      have h3 := b2 (k - 1) (by omega) (by omega)
      have h4 := hj (k - 1) (by omega)
      omega
    · rw [if_neg h2]; exact R (i - 1) (k - 1) (by omega) (by omega)
theorem free_slot {t : SetTable} (R : Rising t.place) {j : Nat} (h : ∀ i, t.slot j ≠ .live i) : ∀ i, i < t.place.size → t.place.getD i 0 ≠ j := by
  intro i hi e
  obtain ⟨b0, b1, b2⟩ := below_spec R j
  have hb : i = SetTable.below t.place j := by
    rcases Nat.lt_trichotomy i (SetTable.below t.place j) with z | z | z
    · have := b1 i z; omega
    · exact z
    · have := b2 _ (Nat.le_refl _) (Nat.lt_trans z hi)
      have := R _ i z hi
      omega
  refine h (SetTable.below t.place j) ?_
  unfold SetTable.slot
  dsimp only
  have : t.place[SetTable.below t.place j]? = some j := by
    rw [← hb, ← e]
    simp [Array.getD, hi]
  rw [this]
  simp
theorem probe_free {t : SetTable} {hashAt : Nat → Int} {h : Int} : ∀ (fuel : Nat) (p : SetTable.Probe), (∀ d, p.dummy = some d → ∀ i, t.slot d ≠ .live i) → ∀ j d, SetTable.probe.go t hashAt h fuel p = some (.empty j d) →
    (∀ i, t.slot j ≠ .live i) ∧ ∀ d', d = some d' → ∀ i, t.slot d' ≠ .live i
  | 0, p, hp, j, d, e => by unfold SetTable.probe.go at e; cases e
  | fuel + 1, p, hp, j, d, e => by
    unfold SetTable.probe.go at e
    cases hs : t.slot p.j with
    | empty =>
      rw [hs] at e
      cases e
      exact ⟨fun i z => (by rw [hs] at z; cases z), hp⟩
    | dummy =>
      rw [hs] at e
      refine probe_free fuel _ (fun d' hd' => ?_) j d e
      have : (t.advance { p with dummy := some p.j }).dummy = some p.j := by unfold SetTable.advance; split <;> rfl
      rw [this] at hd'
      cases hd'
      exact fun i z => by rw [hs] at z; cases z
    | live i =>
      rw [hs] at e
      dsimp only at e
      split at e
      · cases e
      · refine probe_free fuel _ (fun d' hd' => ?_) j d e
        have : (t.advance p).dummy = p.dummy := by unfold SetTable.advance; split <;> rfl
        rw [this] at hd'
        exact hp d' hd'
theorem freeSlot_free {t : SetTable} {h : Int} {slot : Nat} {wd : Bool} (e : t.freeSlot h = some (slot, wd)) : ∀ i, t.slot slot ≠ .live i := by
  unfold SetTable.freeSlot at e
  split at e
  · rename_i j d hq
    unfold SetTable.probe at hq
    obtain ⟨a, b⟩ := probe_free _ _ (fun d' hd' => by
      have : (t.probeStart h).dummy = none := rfl
      rw [this] at hd'; cases hd') j d hq
    cases d with
    | none => cases e; exact a
    | some d' => cases e; exact b d' rfl
  · cases e
structure Good (t : SetTable) (n : Nat) (led : Bool) : Prop where
  fits : t.fits n = true
  led : t.led = led
  rise : t.plain = true → Rising t.place
theorem good_new {t : SetTable} {es : Array (Int × Value)} {h : Int} {x : Value} {led : Bool} (g : Good t es.size led) : Good (layNew t es h x).2.1 (layNew t es h x).1.size led := by
  refine ⟨layNew_fits t es h x, ?_, ?_⟩
  · unfold layNew
    split
    · dsimp only
      unfold SetTable.orStandIn
      split
      · exact g.led
      · exact g.led
    · exact g.led
  · unfold layNew
    split
    · rename_i slot wd hs
      dsimp only
      unfold SetTable.orStandIn
      split
      · intro hp
        exact rising_ins (g.rise hp) (free_slot (g.rise hp) (freeSlot_free hs))
      · intro z; cases z
    · intro z; cases z
theorem rising_live (f : Nat → Option Nat) (n : Nat) : Rising ((((List.range n).filterMap fun j => (f j).map (j, ·)).map (·.1)).toArray) := by
  have e : (((List.range n).filterMap fun j => (f j).map (j, ·)).map (·.1)) = (List.range n).filter fun j => (f j).isSome := by
    generalize List.range n = l
    induction l with
    | nil => rfl
    | cons a l ih =>
      rw [List.filterMap_cons, List.filter_cons]
      cases hf : f a with
      | none => simpa using ih
      | some b => simpa using ih
  rw [e]
  have hp : ((List.range n).filter fun j => (f j).isSome).Pairwise (· < ·) := List.Pairwise.filter _ List.pairwise_lt_range
  generalize (List.range n).filter (fun j => (f j).isSome) = l at hp
  intro i k hik hk
  have hk' : k < l.length := by simpa using hk
  have := List.pairwise_iff_getElem.mp hp i k (by omega) hk' hik
  simpa [Array.getD, hk', show i < l.length by omega] using this
theorem good_relay {t : SetTable} {es : Array (Int × Value)} {n : Nat} {led : Bool} (g : Good t es.size led) : Good (relayAll t es n).2.1 (relayAll t es n).1.size led := by
  refine ⟨relayAll_fits t es n, ?_, ?_⟩
  · unfold relayAll
    split
    · rename_i t' order hr
      dsimp only
      split
      · unfold SetTable.relaid SetTable.laid at hr
        simp only [Option.bind_eq_bind, Option.bind_eq_some_iff, Option.pure_def, Option.some.injEq, Prod.mk.injEq] at hr
        obtain ⟨_, _, rfl, _⟩ := hr
        exact g.led
      · exact g.led
    · exact g.led
  · unfold relayAll
    split
    · rename_i t' order hr
      dsimp only
      split
      · unfold SetTable.relaid SetTable.laid at hr
        simp only [Option.bind_eq_bind, Option.bind_eq_some_iff, Option.pure_def, Option.some.injEq, Prod.mk.injEq] at hr
        obtain ⟨owner, _, rfl, _⟩ := hr
        intro _
        exact rising_live (fun j => owner.getD j none) _
      · intro z; cases z
    · intro z; cases z
end L6
namespace L6
open PySem PySem.Spec PyProof.Rows L2 L3 L4
open Sem (wp)
def ledOf (w : World) : Bool := !w.params.followText "set-order"
def SetG (P : Program) (w : World) (h : Heap) (a : Addr) (ks : List Int) : Prop :=
  ∃ o es ep t, h.get? a = some o ∧ o.ExactSet ∧ o.data = .set es ep t ∧ ElemsOf (intKind P w) es.toList ∧ (∃ ms, IntsAre (es.toList.map (·.2)) ms ∧ ms.Perm ks) ∧ ks.Nodup ∧ es.size < scanBound ∧ Good t es.size (ledOf w)
theorem SetG.at {P : Program} {w : World} {h h' : Heap} {a : Addr} {ks : List Int} (x : SetG P w h a ks) (k : ∀ o, h.get? a = some o → h'.get? a = some o) : SetG P w h' a ks :=
  let ⟨o, es, ep, t, e, r⟩ := x; ⟨o, es, ep, t, k _ e, r⟩
theorem IntsAre.perm_map {xs ys : List Value} (p : List.Perm xs ys) : ∀ {ns : List Int}, IntsAre ys ns → ∃ ms, IntsAre xs ms ∧ ms.Perm ns := by
  induction p with
  | nil => intro ns h; exact ⟨ns, h, .refl _⟩
  | cons x _ ih =>
    intro ns h
    cases h with
    | cons n t h =>
      obtain ⟨ms, a, b⟩ := ih h
      exact ⟨n :: ms, .cons n t a, b.cons n⟩
  | swap x y l =>
    intro ns h
    cases h with
    | cons n t h =>
      cases h with
      | cons m u h => exact ⟨m :: n :: _, .cons m u (.cons n t h), .swap _ _ _⟩
  | trans _ _ ih1 ih2 =>
    intro ns h
    obtain ⟨ms, a, b⟩ := ih2 h
    obtain ⟨ls, c, d⟩ := ih1 a
    exact ⟨ls, c, d.trans b⟩
theorem IntsAre.snoc {n : Int} {t : Tok} : ∀ {vs : List Value} {ns : List Int}, IntsAre vs ns → IntsAre (vs ++ [.int n t]) (ns ++ [n])
  | _, _, .nil => .cons n t .nil
  | _, _, .cons m u h => .cons m u (IntsAre.snoc h)
section
variable {prog : Program} {w : World} {A : Around} {E : Value → Shared → Prop} {s : Shared}
theorem find_mem {k : Int} : ∀ {l : List (Int × Value)} {ms : List Int}, IntsAre (l.map (·.2)) ms → ((l.findIdx? fun e => (intKind prog w).is k e.2).isSome = true ↔ k ∈ ms)
  | [], _, h => by cases h; simp
  | (c, v) :: l, _, h => by
    cases h with
    | cons n t h =>
      have ih := find_mem (k := k) (l := l) h
      rw [List.findIdx?_cons]
      have e : (intKind prog w).is k (Value.int n t) = decide (k = n) := by
        rw [KeyKind.is_eq_decide (intKind_is prog w n t) k]
      show (if (intKind prog w).is k (Value.int n t) = true then _ else _ : Option Nat).isSome = true ↔ _
      rw [e]
      by_cases hk : k = n
      · subst hk; simp
      · simp only [hk, decide_false, Bool.false_eq_true, if_false, Option.isSome_map, ih, List.mem_cons, false_or]
theorem hashKind (n : Int) (t : Tok) : hashByValue 8 (Value.int n t) = pure true := by rw [hashByValue_scannable 8 rfl]; rfl
theorem store_good {a : Addr} {o : Obj} {es : Array (Int × Value)} {ep : Nat} {t : SetTable} {es' : Array (Int × Value)} {t' : SetTable} {ks : List Int} {h : Heap} (ho : h.get? a = some o) (hx : o.ExactSet) (hd : o.data = .set es ep t)
    (he : ElemsOf (intKind prog w) es'.toList) (hm : ∃ ms, IntsAre (es'.toList.map (·.2)) ms ∧ ms.Perm ks) (hn : ks.Nodup) (hb : es'.size < scanBound) (hg : Good t' es'.size (ledOf w)) :
    (h.update a (Obj.putSet es' t')).get? a = some { o with data := .set es' (ep + 1) t' } ∧ SetG prog w (h.update a (Obj.putSet es' t')) a ks := by
  have q := Heap.get?_update_self (Obj.putSet es' t') ho (by rw [putSet_of es' t' hd]; rfl)
  rw [putSet_of es' t' hd] at q
  exact ⟨q, _, es', ep + 1, t', q, hx, rfl, he, hm, hn, hb, hg⟩
theorem add_good {a : Addr} {ks : List Int} {n : Int} {tk : Tok} {Q : Bool → Shared → Prop} (S : SetG prog w s.heap a ks) (hroom : ks.length + 1 < scanBound)
    (h : ∀ h' b, Heap.SameBut a s.heap h' → SetG prog w h' a (if n ∈ ks then ks else ks ++ [n]) → Q b { s with heap := h' }) :
    wpAny (model prog w) A (setAddHashed a (.int n tk) ((intKind prog w).hash n)) Q E s := by
  obtain ⟨o, es, ep, t, ho, hx, hd, hel, ⟨ms, hi, hp⟩, hn, hb, g⟩ := S
  have hkey : (intKind prog w).is n (.int n tk) = true := intKind_is prog w n tk
  have hsz : es.size = ks.length := by
    rw [← hp.length_eq, ← IntsAre.length hi, List.length_map, Array.length_toList]
  unfold setAddHashed setAddHashedIn
  refine wpAny_holding (wpAny_bind (wpAny_setState_of ho hd g.fits ?_))
  dsimp only
  rw [byScan_of rfl hb hel]
  simp only [↓reduceIte]
  unfold setAddByScan
  refine wpAny_bind (wpAny_bind (wpAny_rule (wpAny_bind (wpAny_setScan_of hkey ho hd g.fits hel ?_))))
  have fm := find_mem (prog := prog) (w := w) (k := n) hi
  cases hr : List.findIdx? (fun e => (intKind prog w).is n e.2) es.toList with
  | some j =>
    dsimp only
    have hin : n ∈ ks := hp.mem_iff.mp (fm.mp (by rw [hr]; rfl))
    rw [if_pos hin] at h
    have es' : s = { s with heap := s.heap } := by cases s; rfl
    have := h s.heap false (Heap.SameBut.refl a s.heap) ⟨o, es, ep, t, ho, hx, hd, hel, ⟨ms, hi, hp⟩, hn, hb, g⟩
    rw [es']
    exact wpAny_pure (wpAny_pure this)
  | none =>
    dsimp only
    have hin : n ∉ ks := fun z => by
      have := fm.mpr (hp.mem_iff.mpr z)
      rw [hr] at this
      cases this
    rw [if_neg hin] at h
    have hperm := layNew_perm t es ((intKind prog w).hash n) (.int n tk)
    have hg := good_new (h := (intKind prog w).hash n) (x := Value.int n tk) g
    generalize hL : layNew t es ((intKind prog w).hash n) (.int n tk) = L at hperm hg ⊢
    obtain ⟨es1, t1, wd, gave⟩ := L
    dsimp only at hperm hg ⊢
    rw [Array.toList_push] at hperm
    have hel1 : ElemsOf (intKind prog w) es1.toList := (hel.push hkey rfl).perm hperm
    have hz1 : es1.size = ks.length + 1 := by rw [← Array.length_toList, hperm.length_eq, List.length_append, Array.length_toList, hsz]; rfl
    have hb1 : es1.size < scanBound := by omega
    have hm1 : ∃ ms', IntsAre (es1.toList.map (·.2)) ms' ∧ ms'.Perm (ks ++ [n]) := by
      have hp2 : List.Perm (es1.toList.map (·.2)) (es.toList.map (·.2) ++ [.int n tk]) := by
        have := hperm.map (·.2)
        rwa [List.map_append] at this
      obtain ⟨ms', c1, c2⟩ := IntsAre.perm_map hp2 (IntsAre.snoc hi)
      exact ⟨ms', c1, c2.trans (hp.append_right _)⟩
    have hn1 : (ks ++ [n]).Nodup := List.nodup_append.mpr ⟨hn, by simp, fun x hx' y hy e => hin (by rw [List.mem_singleton.mp hy] at e; rw [← e]; exact hx')⟩
    have gw : ∀ (b : Bool) (s₁ : Shared) (Q' : Unit → Shared → Prop), Q' () s₁ → wpAny (model prog w) A (match b with | true => rule "set.scan.the-table-gave-way" | false => pure ()) Q' E s₁ := fun b s₁ Q' q => by
      cases b <;> first | exact wpAny_pure q | exact wpAny_rule q
    refine wpAny_bind (gw _ _ _ ?_)
    have tail : ∀ (t2 : SetTable), t2 = t1 → wpAny (model prog w) A (do
        storeSet a es1 t2
        if (!wd && t2.tooFull) = true then do
            (match (relayAll t2 es1 (SetTable.grown es1.size)).2.2 with | true => rule "set.scan.the-table-gave-way" | false => pure ())
            storeSet a (relayAll t2 es1 (SetTable.grown es1.size)).1 (relayAll t2 es1 (SetTable.grown es1.size)).2.1
            pure (some true)
          else pure (some true)) (fun r s' => wpAny (model prog w) A (match r with | some added => pure added | none => setAddHashedIn a (.int n tk) ((intKind prog w).hash n) 99999) Q E s') E s := by
      rintro t2 rfl
      refine wpAny_bind (wpAny_storeSet_of ho hd ?_ (fits_of_scanBound hb1))
      obtain ⟨ho1, S1⟩ := store_good (prog := prog) (w := w) ho hx hd hel1 hm1 hn1 hb1 hg
      have sb1 := Heap.SameBut.update s.heap a (Obj.putSet es1 t2)
      split
      · have pr := relayAll_perm t2 es1 (SetTable.grown es1.size)
        have gr := good_relay (n := SetTable.grown es1.size) hg
        generalize relayAll t2 es1 (SetTable.grown es1.size) = R at pr gr ⊢
        obtain ⟨es2, t3, gv⟩ := R
        dsimp only at pr gr ⊢
        have hz2 : es2.size = es1.size := by rw [← Array.length_toList, pr.length_eq, Array.length_toList]
        refine wpAny_bind (gw _ _ _ (wpAny_bind (wpAny_storeSet_of ho1 rfl ?_ (fits_of_scanBound (by omega)))))
        obtain ⟨ms', c1, c2⟩ := hm1
        obtain ⟨ms2, d1, d2⟩ := IntsAre.perm_map (pr.map (·.2)) c1
        obtain ⟨_, S2⟩ := store_good (prog := prog) (w := w) (ks := ks ++ [n]) ho1 hx rfl (hel1.perm pr) ⟨ms2, d1, d2.trans c2⟩ hn1 (by omega) gr
        exact wpAny_pure (wpAny_pure (h _ true (sb1.trans (Heap.SameBut.update _ a _)) S2))
      · exact wpAny_pure (wpAny_pure (h _ true sb1 S1))
    rw [hashKind]
    split
    · exact wpAny_bind (wpAny_pure (tail t1 rfl))
    · exact wpAny_bind (wpAny_pure (tail t1 rfl))
end
end L6
namespace L6S
open PySem PySem.Spec PyProof.Rows L2 L3 L4
open L6 (ledOf Good good_new good_relay)
open Sem (wp)
def SetG (P : Program) (w : World) (h : Heap) (a : Addr) (ks : List Str) : Prop :=
  ∃ o es ep t, h.get? a = some o ∧ o.ExactSet ∧ o.data = .set es ep t ∧ ElemsOf (PySem.strKind P w) es.toList ∧ (∃ ms, StrsAre (es.toList.map (·.2)) ms ∧ ms.Perm ks) ∧ ks.Nodup ∧ es.size < scanBound ∧ Good t es.size (ledOf w)
theorem SetG.at {P : Program} {w : World} {h h' : Heap} {a : Addr} {ks : List Str} (x : SetG P w h a ks) (k : ∀ o, h.get? a = some o → h'.get? a = some o) : SetG P w h' a ks :=
  let ⟨o, es, ep, t, e, r⟩ := x; ⟨o, es, ep, t, k _ e, r⟩
theorem StrsAre.perm_map {xs ys : List Value} (p : List.Perm xs ys) : ∀ {ns : List Str}, StrsAre ys ns → ∃ ms, StrsAre xs ms ∧ ms.Perm ns := by
  induction p with
  | nil => intro ns h; exact ⟨ns, h, .refl _⟩
  | cons x _ ih =>
    intro ns h
    cases h with
    | cons n t h =>
      obtain ⟨ms, a, b⟩ := ih h
      exact ⟨n :: ms, .cons n t a, b.cons n⟩
  | swap x y l =>
    intro ns h
    cases h with
    | cons n t h =>
      cases h with
      | cons m u h => exact ⟨m :: n :: _, .cons m u (.cons n t h), .swap _ _ _⟩
  | trans _ _ ih1 ih2 =>
    intro ns h
    obtain ⟨ms, a, b⟩ := ih2 h
    obtain ⟨ls, c, d⟩ := ih1 a
    exact ⟨ls, c, d.trans b⟩
theorem StrsAre.snoc {n : Str} {t : Tok} : ∀ {vs : List Value} {ns : List Str}, StrsAre vs ns → StrsAre (vs ++ [.str n t]) (ns ++ [n])
  | _, _, .nil => .cons n t .nil
  | _, _, .cons m u h => .cons m u (StrsAre.snoc h)
theorem StrsAre.str_at : ∀ {vs : List Value} {ns : List Str}, StrsAre vs ns → ∀ (i : Nat) (v : Value), vs[i]? = some v → ∃ t, v = .str (ns.getD i Str.empty) t
  | _, _, .nil, i, v, h => by cases h
  | _, _, .cons y t r, 0, v, h => ⟨t, (Option.some.inj h).symm⟩
  | _, _, .cons y t r, i + 1, v, h => StrsAre.str_at r i v h
section
variable {prog : Program} {w : World} {A : Around} {E : Value → Shared → Prop} {s : Shared}
theorem find_mem {k : Str} : ∀ {l : List (Int × Value)} {ms : List Str}, StrsAre (l.map (·.2)) ms → ((l.findIdx? fun e => (PySem.strKind prog w).is k e.2).isSome = true ↔ k ∈ ms)
  | [], _, h => by cases h; simp
  | (c, v) :: l, _, h => by
    cases h with
    | cons n t h =>
      have ih := find_mem (k := k) (l := l) h
      rw [List.findIdx?_cons]
      have e : (PySem.strKind prog w).is k (Value.str n t) = decide (k = n) := by
        rw [KeyKind.is_eq_decide (strKind_is prog w n t) k]
      show (if (PySem.strKind prog w).is k (Value.str n t) = true then _ else _ : Option Nat).isSome = true ↔ _
      rw [e]
      by_cases hk : k = n
      · subst hk; simp
      · simp only [hk, decide_false, Bool.false_eq_true, if_false, Option.isSome_map, ih, List.mem_cons, false_or]
theorem hashKindS (n : Str) (t : Tok) : hashByValue 8 (Value.str n t) = pure false := by rw [hashByValue_scannable 8 rfl]; rfl
theorem store_good {a : Addr} {o : Obj} {es : Array (Int × Value)} {ep : Nat} {t : SetTable} {es' : Array (Int × Value)} {t' : SetTable} {ks : List Str} {h : Heap} (ho : h.get? a = some o) (hx : o.ExactSet) (hd : o.data = .set es ep t)
    (he : ElemsOf (PySem.strKind prog w) es'.toList) (hm : ∃ ms, StrsAre (es'.toList.map (·.2)) ms ∧ ms.Perm ks) (hn : ks.Nodup) (hb : es'.size < scanBound) (hg : Good t' es'.size (ledOf w)) :
    (h.update a (Obj.putSet es' t')).get? a = some { o with data := .set es' (ep + 1) t' } ∧ SetG prog w (h.update a (Obj.putSet es' t')) a ks := by
  have q := Heap.get?_update_self (Obj.putSet es' t') ho (by rw [putSet_of es' t' hd]; rfl)
  rw [putSet_of es' t' hd] at q
  exact ⟨q, _, es', ep + 1, t', q, hx, rfl, he, hm, hn, hb, hg⟩
theorem add_good {a : Addr} {ks : List Str} {n : Str} {tk : Tok} {Q : Bool → Shared → Prop} (S : SetG prog w s.heap a ks) (hroom : ks.length + 1 < scanBound)
    (h : ∀ h' b, Heap.SameBut a s.heap h' → SetG prog w h' a (if n ∈ ks then ks else ks ++ [n]) → Q b { s with heap := h' }) :
    wpAny (model prog w) A (setAddHashed a (.str n tk) ((PySem.strKind prog w).hash n)) Q E s := by
  obtain ⟨o, es, ep, t, ho, hx, hd, hel, ⟨ms, hi, hp⟩, hn, hb, g⟩ := S
  have hkey : (PySem.strKind prog w).is n (.str n tk) = true := strKind_is prog w n tk
  have hsz : es.size = ks.length := by
    rw [← hp.length_eq, ← StrsAre.length hi, List.length_map, Array.length_toList]
  unfold setAddHashed setAddHashedIn
  refine wpAny_holding (wpAny_bind (wpAny_setState_of ho hd g.fits ?_))
  dsimp only
  rw [byScan_of rfl hb hel]
  simp only [↓reduceIte]
  unfold setAddByScan
  refine wpAny_bind (wpAny_bind (wpAny_rule (wpAny_bind (wpAny_setScan_of hkey ho hd g.fits hel ?_))))
  have fm := find_mem (prog := prog) (w := w) (k := n) hi
  cases hr : List.findIdx? (fun e => (PySem.strKind prog w).is n e.2) es.toList with
  | some j =>
    dsimp only
    have hin : n ∈ ks := hp.mem_iff.mp (fm.mp (by rw [hr]; rfl))
    rw [if_pos hin] at h
    have es' : s = { s with heap := s.heap } := by cases s; rfl
    have := h s.heap false (Heap.SameBut.refl a s.heap) ⟨o, es, ep, t, ho, hx, hd, hel, ⟨ms, hi, hp⟩, hn, hb, g⟩
    rw [es']
    exact wpAny_pure (wpAny_pure this)
  | none =>
    dsimp only
    have hin : n ∉ ks := fun z => by
      have := fm.mpr (hp.mem_iff.mpr z)
      rw [hr] at this
      cases this
    rw [if_neg hin] at h
    have hperm := layNew_perm t es ((PySem.strKind prog w).hash n) (.str n tk)
    have hg := good_new (h := (PySem.strKind prog w).hash n) (x := Value.str n tk) g
    generalize hL : layNew t es ((PySem.strKind prog w).hash n) (.str n tk) = L at hperm hg ⊢
    obtain ⟨es1, t1, wd, gave⟩ := L
    dsimp only at hperm hg ⊢
    rw [Array.toList_push] at hperm
    have hel1 : ElemsOf (PySem.strKind prog w) es1.toList := (hel.push hkey rfl).perm hperm
    have hz1 : es1.size = ks.length + 1 := by rw [← Array.length_toList, hperm.length_eq, List.length_append, Array.length_toList, hsz]; rfl
    have hb1 : es1.size < scanBound := by omega
    have hm1 : ∃ ms', StrsAre (es1.toList.map (·.2)) ms' ∧ ms'.Perm (ks ++ [n]) := by
      have hp2 : List.Perm (es1.toList.map (·.2)) (es.toList.map (·.2) ++ [.str n tk]) := by
        have := hperm.map (·.2)
        rwa [List.map_append] at this
      obtain ⟨ms', c1, c2⟩ := StrsAre.perm_map hp2 (StrsAre.snoc hi)
      exact ⟨ms', c1, c2.trans (hp.append_right _)⟩
    have hn1 : (ks ++ [n]).Nodup := List.nodup_append.mpr ⟨hn, by simp, fun x hx' y hy e => hin (by rw [List.mem_singleton.mp hy] at e; rw [← e]; exact hx')⟩
    have gw : ∀ (b : Bool) (s₁ : Shared) (Q' : Unit → Shared → Prop), Q' () s₁ → wpAny (model prog w) A (match b with | true => rule "set.scan.the-table-gave-way" | false => pure ()) Q' E s₁ := fun b s₁ Q' q => by
      cases b <;> first | exact wpAny_pure q | exact wpAny_rule q
    refine wpAny_bind (gw _ _ _ ?_)
    have tail : ∀ (t2 : SetTable), Good t2 es1.size (ledOf w) → wpAny (model prog w) A (do
        storeSet a es1 t2
        if (!wd && t2.tooFull) = true then do
            (match (relayAll t2 es1 (SetTable.grown es1.size)).2.2 with | true => rule "set.scan.the-table-gave-way" | false => pure ())
            storeSet a (relayAll t2 es1 (SetTable.grown es1.size)).1 (relayAll t2 es1 (SetTable.grown es1.size)).2.1
            pure (some true)
          else pure (some true)) (fun r s' => wpAny (model prog w) A (match r with | some added => pure added | none => setAddHashedIn a (.str n tk) ((PySem.strKind prog w).hash n) 99999) Q E s') E s := by
      intro t2 hg
      refine wpAny_bind (wpAny_storeSet_of ho hd ?_ (fits_of_scanBound hb1))
      obtain ⟨ho1, S1⟩ := store_good (prog := prog) (w := w) ho hx hd hel1 hm1 hn1 hb1 hg
      have sb1 := Heap.SameBut.update s.heap a (Obj.putSet es1 t2)
      split
      · have pr := relayAll_perm t2 es1 (SetTable.grown es1.size)
        have gr := good_relay (n := SetTable.grown es1.size) hg
        generalize relayAll t2 es1 (SetTable.grown es1.size) = R at pr gr ⊢
        obtain ⟨es2, t3, gv⟩ := R
        dsimp only at pr gr ⊢
        have hz2 : es2.size = es1.size := by rw [← Array.length_toList, pr.length_eq, Array.length_toList]
        refine wpAny_bind (gw _ _ _ (wpAny_bind (wpAny_storeSet_of ho1 rfl ?_ (fits_of_scanBound (by omega)))))
        obtain ⟨ms', c1, c2⟩ := hm1
        obtain ⟨ms2, d1, d2⟩ := StrsAre.perm_map (pr.map (·.2)) c1
        obtain ⟨_, S2⟩ := store_good (prog := prog) (w := w) (ks := ks ++ [n]) ho1 hx rfl (hel1.perm pr) ⟨ms2, d1, d2.trans c2⟩ hn1 (by omega) gr
        exact wpAny_pure (wpAny_pure (h _ true (sb1.trans (Heap.SameBut.update _ a _)) S2))
      · exact wpAny_pure (wpAny_pure (h _ true sb1 S1))
    rw [hashKindS]
    have hg2 : Good { t1 with plain := false } es1.size (ledOf w) := ⟨hg.fits, hg.led, fun z => (nomatch z)⟩
    split
    · exact wpAny_bind (wpAny_pure (tail _ hg2))
    · exact wpAny_bind (wpAny_pure (tail _ hg))
end
end L6S
namespace L6S
open PySem PySem.Spec PyProof.Rows L2 L3 L4
open L6 (ledOf Good good_new good_relay)
open Sem (wp)
def addS (acc : List Str) (n : Str) : List Str := if n ∈ acc then acc else acc ++ [n]
def dedup (ns : List Str) : List Str := ns.foldl addS []
theorem dedup_snoc (ns : List Str) (n : Str) : dedup (ns ++ [n]) = addS (dedup ns) n := by unfold dedup; rw [List.foldl_append]; rfl
theorem addS_len (acc : List Str) (n : Str) : (addS acc n).length ≤ acc.length + 1 := by unfold addS; split <;> simp
theorem dedup_len : ∀ ns : List Str, (dedup ns).length ≤ ns.length := by
  have : ∀ (ns acc : List Str), (ns.foldl addS acc).length ≤ acc.length + ns.length := by
    intro ns
    induction ns with
    | nil => intro acc; simp
    | cons n ns ih =>
      intro acc
      have h1 := ih (addS acc n)
      have h2 := addS_len acc n
      rw [List.foldl_cons, List.length_cons]
      omega
  intro ns
  have := this ns []
  simpa [dedup] using this
theorem take_all_snoc {ns : List Str} {i : Nat} (h : i < ns.length) : ns.take (i + 1) = ns.take i ++ [ns.getD i Str.empty] := by
  rw [List.take_succ, List.getD_eq_getElem?_getD, List.getElem?_eq_getElem h]; rfl
section
variable {prog : Program} {w : World} {A : Around} {E : Value → Shared → Prop} {s : Shared}
theorem loop_good {R : Result → Shared → Prop} {I S : Addr} {fp wr : List Addr} {G : Array GenState → Array GenState → Prop} {P : Nat → Value → Prop} {St : Nat → Shared → Prop} {ns : List Str} (W : WalksS prog w A.in1 I fp wr G ns.length P St) (hS : S ∉ fp)
    (hv : ∀ i v, P i v → ∃ t, v = .str (ns.getD i Str.empty) t) (hb : ns.length + 1 < scanBound) : ∀ (k i : Nat) (s : Shared), ns.length - i = k → i ≤ ns.length → St i s → SetG prog w s.heap S (dedup (ns.take i)) →
      (∀ s', Moved (S :: wr) G s s' → SetG prog w s'.heap S (dedup ns) → R (.ok (.ret .none)) s') → codeAny (model prog w) A (.builtin "set.update.loop" ⟨[.ref S, .ref I], []⟩) R s := by
  have hw : S ∉ wr := fun z => hS (W.sub _ z)
  have up : ∀ b ∈ wr, b ∈ S :: wr := fun b z => List.mem_cons_of_mem _ z
  intro k
  induction k with
  | zero =>
    intro i s hk hi st hG hR
    obtain rfl : i = ns.length := by omega
    refine codeAny_builtin F.entry_set_update_loop ?_
    rw [Around.under_plainId F.plain_set_update_loop _]
    show wpAny _ A.in1 (pyNext (.ref I) >>= _) _ _ s
    refine wpAny_bind (W.done s _ _ st fun s' hm => wpAny_pure (hR s' (hm.mono up) ?_))
    rw [List.take_length] at hG
    exact hG.at fun o e => hm.heap S _ hw e
  | succ k ih =>
    intro i s hk hi st hG hR
    have hlt : i < ns.length := by omega
    refine codeAny_builtin F.entry_set_update_loop ?_
    rw [Around.under_plainId F.plain_set_update_loop _]
    show wpAny _ A.in1 (pyNext (.ref I) >>= _) _ _ s
    refine wpAny_bind (W.item i s _ _ hlt st fun v s' hP st' hm => ?_)
    obtain ⟨t, rfl⟩ := hv i v hP
    have hG' := hG.at (h' := s'.heap) fun o e => hm.heap S _ hw e
    show wpAny _ A.in1 (holding [Value.str (ns.getD i Str.empty) t] (setAdd S (.str (ns.getD i Str.empty) t)) >>= _) _ _ s'
    unfold setAdd
    refine wpAny_bind (wpAny_holding (wpAny_holding (wpAny_bind ((PySem.strKind prog w).pyHash (k := ns.getD i Str.empty) (strKind_is _ _ _ _) ?_))))
    have hl := dedup_len (ns.take i)
    rw [List.length_take] at hl
    refine add_good (s := { s' with toks := s'.toks + 1 }) hG' (by omega) fun h' b sb G2 => ?_
    have e2 : dedup (ns.take (i + 1)) = if ns.getD i Str.empty ∈ dedup (ns.take i) then dedup (ns.take i) else dedup (ns.take i) ++ [ns.getD i Str.empty] := by rw [take_all_snoc hlt, dedup_snoc]; rfl
    rw [← e2] at G2
    have old : ∀ b o, b ≠ S → s'.heap.get? b = some o → h'.get? b = some o := fun b o hb e => (sb.2 b hb).trans e
    refine wpAny_pure ⟨plainId_quiet F.plain_set_update_loop _, ih (i + 1) _ (by omega) hlt (W.frame _ s' _ _ st' (Nat.le_succ _) fun b hb o e => old b o (fun z => hS (z ▸ hb)) e) G2 fun s'' hm2 G3 => ?_⟩
    exact hR s'' (Moved.trans W.gtrans ((hm.mono up).then_heap (Nat.le_succ _) fun b o hb e => old b o (fun z => hb (by rw [z]; exact List.mem_cons_self)) e) hm2) G3
set_option maxHeartbeats 3200000 in
theorem call_set_strs {l : Addr} {items : Array Value} {ns : List Str} {Q : Value → Shared → Prop} (hh : A.handled = none) (hl : s.heap.IsList l items) (hi : StrsAre items.toList ns) (hb : ns.length + 1 < scanBound)
    (h : ∀ (h' : Heap) (tk : Nat), SetG prog w h' s.heap.objs.size (dedup ns) → (∀ b o, s.heap.get? b = some o → h'.get? b = some o) → Q (.ref s.heap.objs.size) { s with heap := h', toks := tk }) :
    wpAny (model prog w) A (call (.type "set") [.ref l]) Q E s := by
  have hn : items.size = ns.length := by rw [← Array.length_toList]; exact StrsAre.length hi
  have ft := F.called_set
  obtain ⟨c, tl, hmro⟩ := ft.mro
  have hmade := ft.made; have hsub := ft.sub; have h1 := ft.notType; have h2 := ft.canCreate; have hct := F.typeCall_set_1 (.ref l)
  refine wpAny_call (codeAny_of_tree ?_)
  show wpAny _ _ (callAny (.type "set") _) _ _ _
  refine wpAny_pure ⟨Code.quiet_builtin _ (by decide +kernel), codeAny_builtin F.entry_type_call ?_⟩
  rw [Around.under_plain (weight_type_call_type "set" [.ref l] []) rfl]
  repeat (any_goals (first | assumption | wp_step))
  have made : codeAny (model prog w) A.in1 (.call (.builtin "set.__new__") ⟨[.type "set", .ref l], []⟩) (wants (fun obj s₁ => obj = .ref s.heap.objs.size ∧ s₁ = { s with heap := s.heap.push { cls := .type "set", dict := none, data := .set #[] 0 (.fresh 0 0 (ledOf w)) } }) E) s := by
    refine codeAny_of_tree ?_
    show wpAny _ A.in1.in1 (do checkBuiltinCall "set.__new__" ⟨[.type "set", .ref l], []⟩; again (.builtin "set.__new__" ⟨[.type "set", .ref l], []⟩)) _ _ s
    refine wpAny_bind (wpAny_of_eq (F.newCall_set_1 (.ref l)) (wpAny_pure ⟨plainId_quiet F.plain_set_new _, codeAny_builtin F.entry_set_new ?_⟩))
    rw [Around.under_plainId F.plain_set_new _]
    unfold Builtin.«set.__new__» Builtin.Frozenset.newClass
    have hsub2 := sub_set_self
    obtain ⟨hp, g, d, tk, os⟩ := s
    dsimp only
    wp_walk
    refine wpAny_askSetting (wpAny_pure ?_)
    dsimp only
    simp only [newObj]
    exact wpAny_bind (wpAny_alloc (wpAny_pure (wpAny_pure ⟨rfl, rfl⟩)))
  refine codeAny_mono made fun r s₁ hr => ?_
  cases r with
  | error e => exact hr
  | ok fl =>
    cases fl with
    | ret obj =>
      obtain ⟨rfl, rfl⟩ := hr
      generalize hO : ({ cls := .type "set", dict := none, data := .set #[] 0 (.fresh 0 0 (ledOf w)) } : Obj) = O
      have hS : (s.heap.push O).get? s.heap.objs.size = some O := Heap.get?_push_size _ (by rw [← hO]; rfl)
      have hT : Shared.TypeIs { s with heap := s.heap.push O } (.ref s.heap.objs.size) "set" := ⟨_, hS, by rw [← hO]⟩
      have hli := ft.init.lookup; have hbi := ft.init.bind (.ref s.heap.objs.size)
      repeat (any_goals (first | assumption | wp_step))
      refine codeAny_mono (codeAny_call_builtin (R := wants (fun r s₂ => r = .none ∧ ∃ h' tk, s₂ = { s with heap := h', toks := tk } ∧ SetG prog w h' s.heap.objs.size (dedup ns) ∧ ∀ b o, s.heap.get? b = some o → h'.get? b = some o) E) ft.init.plain F.entry_set_init (check_set_init_1 hT ?_)) fun r₂ s₂ hr₂ => ?_
      · obtain ⟨⟨oc, od, odt, osl⟩, hol, hcl, nl, hdl⟩ := hl
        replace hcl : oc = .type "list" := hcl; replace hdl : odt = .seq items nl := hdl; subst hcl hdl
        have hlS : l < s.heap.objs.size := Heap.lt_size hol
        have hol' := Heap.get?_push_of_some O hol
        have sl1 := F.sub_list_set; have sl2 := F.sub_list_frozenset
        have nd : (Value.type "list" == Value.type "dict") = false := by decide
        have hl1 : (s.heap.push O).IsList l items := ⟨_, hol', rfl, nl, rfl⟩
        subst hO
        unfold Builtin.«set.__init__» noKeywords Builtin.Frozenset.updateFrom
        generalize hPI : pyIter = PI
        wp_walk
        subst hPI
        generalize hO : ({ cls := .type "set", dict := none, data := .set #[] 0 (.fresh 0 0 (ledOf w)) } : Obj) = O at hS hT hol' hl1 ⊢
        refine wpAny_pyIter_list hl1 ?_
        refine (wpAny_bind (wpAny_runValue ?_))
        have hI : (s.heap.push O).objs.size = s.heap.objs.size + 1 := Heap.size_push ..
        have hSf : s.heap.objs.size ∉ [(s.heap.push O).objs.size, l] := by
          rw [hI]; simp only [List.mem_cons, List.not_mem_nil, or_false, not_or]; exact ⟨Nat.ne_of_lt (Nat.lt_succ_self _), Nat.ne_of_gt hlS⟩
        have W := (Walks.list (prog := prog) (w := w) (A := A.in1.in1.in1) (by simp [hh]) (s.heap.push O).objs.size l (by rw [hI]; exact Nat.ne_of_lt (Nat.lt_succ_of_lt hlS)) items).toS
        rw [hn] at W
        refine loop_good (ns := ns) W hSf (fun i v hv => StrsAre.str_at hi i v (by rw [Array.getElem?_toList]; exact hv)) hb (ns.length - 0) 0 _ (by omega) (Nat.zero_le _) ⟨⟨_, Heap.get?_push_size _ rfl, rfl, rfl⟩, hl1.push _⟩ ?_ fun s' hm G' => ?_
        · refine ⟨O, #[], 0, .fresh 0 0 (ledOf w), Heap.get?_push_of_some _ hS, by rw [← hO]; exact ⟨rfl, rfl, rfl⟩, by rw [← hO], (fun e he => by simp at he), ⟨[], .nil, .refl _⟩, List.nodup_nil, by decide, rfl, rfl, fun _ i k _ hk => absurd hk (by show ¬ k < 0; omega)⟩
        · obtain ⟨h', g', d', tk', os'⟩ := s'
          have eg : g' = s.gens := hm.gens; have ed : d' = s.drawn := hm.drawn; have eo : os' = s.os := hm.os
          subst eg ed eo
          show wpAny _ _ _ _ _ _
          refine wpAny_pure ?_
          show wpAny _ _ (ret Value.none) _ _ _
          refine wpAny_pure ⟨rfl, h', tk', rfl, G', fun b o e => ?_⟩
          have hlt := Heap.lt_size e
          exact hm.heap b o (by rw [hI]; simp only [List.mem_cons, List.not_mem_nil, or_false, not_or]; exact ⟨Nat.ne_of_lt hlt, Nat.ne_of_lt (Nat.lt_succ_of_lt hlt)⟩) (Heap.get?_push_of_some _ (Heap.get?_push_of_some _ e))
      · cases r₂ with
        | error e => exact hr₂
        | ok fl₂ =>
          cases fl₂ with
          | ret r =>
            obtain ⟨rfl, h', tk, rfl, G', kk⟩ := hr₂
            repeat (any_goals (first | assumption | wp_step))
            exact h _ _ G' kk
          | _ => exact hr₂.elim
    | _ => exact hr.elim
end
end L6S
namespace L6S
open PySem PySem.Spec PyProof.Rows L2 L3 L4
def setOS (P : Program) (w : World) (a : Addr) (ks : List Str) : HO := .ext fun h => SetG P w h a ks
section
variable {X : Cx}
theorem vals_strs' : ∀ {xs : List Str} {us : List Value}, Vals (xs.map V.str) us → StrsAre us xs
  | [], _, .nil => .nil
  | x :: _, _, .cons r t => by
    obtain ⟨tk, rfl⟩ := r
    exact .cons x tk (vals_strs' t)
theorem call_set_ofS (hc : X.calm = true) : CallR X (.type "set") (fun xs H Q => ∃ (p : Addr) (ns : List Str), xs = [.ref p] ∧ SqL X.K H p (ns.map V.str) ∧ ns.length + 1 < scanBound ∧ ∀ l, H l = none → Q (.ref l) (upd H l (setOS X.prog X.w l (dedup ns)))) := by
  intro pins s σ H xs us Q I r h
  obtain ⟨p, ns, rfl, hq, hb, q⟩ := h
  obtain ⟨u, rfl, rx⟩ := vals1 r
  cases rx
  obtain ⟨its, rv, pl, hz⟩ := I.list hq
  refine call_set_strs (items := its.toArray) (ns := ns) (I.ok.hd hc) pl.isList (vals_strs' rv) hb fun h' tk g kk => ?_
  have g0 := g
  obtain ⟨o, _, _, _, e, _⟩ := g0
  exact ⟨.ref s.heap.objs.size, _, I.laid (t' := tk) kk (Nat.le_refl _) (show ObjOk X.prog X.w _ h' _ (setOS X.prog X.w s.heap.objs.size (dedup ns)) from ⟨g, ⟨o, e⟩, fun h1 h2 z1 z2 => z1.at z2⟩), rfl, q _ (I.hok.fresh (Nat.le_refl _))⟩
theorem call_len_setS : CallR X (.builtin "len") (fun xs H Q => ∃ (a : Addr) (ks : List Str), xs = [.ref a] ∧ H a = some (setOS X.prog X.w a ks) ∧ ks.length ≤ 1000 ∧ Q (.int ks.length) H) := by
  intro pins s σ H xs us Q I r h
  obtain ⟨a, ks, rfl, ha, hl, q⟩ := h
  obtain ⟨u, rfl, rx⟩ := vals1 r
  cases rx
  obtain ⟨S, _, _⟩ := I.hok a _ ha
  obtain ⟨o, es, ep, t, ho, hx, hd, hel, ⟨ms, hi, hp⟩, hn, hb, g⟩ := S
  have hsz : es.size = ks.length := by
    rw [← hp.length_eq, ← StrsAre.length hi, List.length_map, Array.length_toList]
  refine call_len_set ho hx hd g.fits (by omega) ⟨.int es.size, H, I.tok _, ⟨_, rfl⟩, ?_⟩
  rw [hsz]
  exact q
end
theorem dedup_eq {ns : List Str} (h : ns.Nodup) : dedup ns = ns := by
  have : ∀ (ns acc : List Str), (acc ++ ns).Nodup → ns.foldl addS acc = acc ++ ns := by
    intro ns
    induction ns with
    | nil => intro acc _; simp
    | cons n r ih =>
      intro acc hn
      have hni : n ∉ acc := fun z => (List.nodup_append.mp hn).2.2 n z n (List.mem_cons_self ..) rfl
      rw [List.foldl_cons]
      have e : addS acc n = acc ++ [n] := by unfold addS; rw [if_neg hni]
      rw [e, ih (acc ++ [n]) (by rw [List.append_assoc]; exact hn), List.append_assoc]
      rfl
  have := this ns [] (by simpa using h)
  simpa [dedup] using this
theorem dedup_lt {ns : List Str} (h : ¬ ns.Nodup) : (dedup ns).length < ns.length := by
  have key : ∀ (ns acc : List Str), acc.Nodup → ¬ (acc ++ ns).Nodup → (ns.foldl addS acc).length < acc.length + ns.length := by
    intro ns
    induction ns with
    | nil => intro acc ha hn; exact absurd (by simpa using ha) hn
    | cons n r ih =>
      intro acc ha hn
      rw [List.foldl_cons, List.length_cons]
      by_cases hm : n ∈ acc
      · have e : addS acc n = acc := by unfold addS; rw [if_pos hm]
        rw [e]
        have le : ∀ (ms as : List Str), (ms.foldl addS as).length ≤ as.length + ms.length := by
          intro ms
          induction ms with
          | nil => intro as; simp
          | cons m ms ih2 =>
            intro as
            have h1 := ih2 (addS as m)
            have h2 := addS_len as m
            rw [List.foldl_cons, List.length_cons]
            omega
        have := le r acc
        omega
      · have e : addS acc n = acc ++ [n] := by unfold addS; rw [if_neg hm]
        rw [e]
        have ha' : (acc ++ [n]).Nodup := List.nodup_append.mpr ⟨ha, by simp, fun x hx y hy z => hm (by rw [List.mem_singleton.mp hy] at z; rw [← z]; exact hx)⟩
        have := ih (acc ++ [n]) ha' (by rw [List.append_assoc]; exact hn)
        rw [List.length_append, List.length_singleton] at this
        omega
  have := key ns [] List.nodup_nil (by simpa using h)
  simpa [dedup] using this
end L6S
namespace Att
open PySem PySem.W PySem.Calls PyProof.Rows
end Att
namespace L9
open PySem PySem.Spec PyProof.Rows L2
section
variable {X : Cx}
end
end L9
namespace L9
open PySem PySem.Spec PySem.Calls PyProof.Rows PyProof.V L2
def TabK (K : PySem.W.Frag) (a : Addr) (D : List (Str × V)) : Prop :=
  (a == sysModules) = false ∧ ∃ (ob : Obj) (es : Array DictEntry) (ep : Nat), K.lookup a = some ob ∧ ob.ExactDict ∧ ob.data = .dict es ep ∧ KTD.Rows (fun (v : V) (u : Value) => RelV v u) es.toList D
section
variable {X : Cx} {pins : List (Addr × Obj)} {σ : List (Option V)} {H : Hp} {s : Shared} {A : Around} {E : Value → Shared → Prop} {a : Addr} {D : List (Str × V)} {k : Str} {tk : Tok}
theorem TabK.ty (I : Inv X pins σ H s) (T : TabK X.K a D) : s.TypeIs (.ref a) "dict" :=
  let ⟨_, ob, _, _, ho, hc, _⟩ := T
  ⟨ob, I.kIn a ob ho, hc.1⟩
theorem tab_get {Q : Option Value → Shared → Prop} (I : Inv X pins σ H s) (T : TabK X.K a D) (q1 : ∀ (v : V) (u : Value) (s' : Shared), KTD.datumAt k D = some v → RelV v u → Inv X pins σ H s' → Q (some u) s')
    (q0 : ∀ s' : Shared, KTD.datumAt k D = none → Inv X pins σ H s' → Q none s') : wpAny (model X.prog X.w) A (dictGet a (.str k tk)) Q E s := by
  obtain ⟨_, ob, es, ep, ho, hc, hd, hr⟩ := T
  have at_ : ({ s with toks := s.toks + 1 } : Shared).heap.get? a = some ob := I.kIn a ob ho
  have I1 : Inv X pins σ H { s with toks := s.toks + 1 } := I.tok _
  have all_ : (es.all fun e => isExactStrKey e.key) = true := by
    have := hr.exact
    obtain ⟨l⟩ := es
    simpa using this
  have hq : Q (findBy (fun k v => v.isStr k) es k) { s with toks := s.toks + 1 } := by
    have hf : findBy (fun k v => v.isStr k) es k = (es.toList.find? fun e => e.key.isStr k).map fun e => e.val := by
      obtain ⟨l⟩ := es
      simp [findBy]
    rw [hf]
    cases e : KTD.datumAt k D with
    | none =>
      have z := hr.find_none e
      rw [show (es.toList.find? fun e => e.key.isStr k).map (fun e => e.val) = none from z]
      exact q0 _ e I1
    | some v =>
      obtain ⟨u, z, r⟩ := hr.find_some e
      rw [show (es.toList.find? fun e => e.key.isStr k).map (fun e => e.val) = some u from z]
      exact q1 v u _ e r I1
  rw [findBy_of_findIdx?] at hq
  unfold dictGet
  refine wpAny_holding (wpAny_bind (wpAny_pyHash_str (wpAny_bind (KTD.kt_dictFind_strs at_ hd all_ ?_))))
  cases i : es.findIdx? fun e => e.key.isStr k with
  | none =>
    rw [i] at hq
    exact wpAny_pure hq
  | some j =>
    rw [i] at hq
    exact wpAny_bind (wpAny_dictEntries at_ hd (wpAny_pure hq))
theorem tab_item {v : V} {Q : Value → Shared → Prop} (I : Inv X pins σ H s) (T : TabK X.K a D) (e : KTD.datumAt k D = some v) (q : ∀ (u : Value) (s' : Shared), RelV v u → Inv X pins σ H s' → Q u s') : wpAny (model X.prog X.w) A (getItem (.ref a) (.str k tk)) Q E s := by
  have ty := TabK.ty I T
  unfold getItem
  refine wpAny_holding (wpAny_bind (wpAny_sequenceKey ty (by decide) (wpAny_bind (wpAny_callSpecial?_slot (name := Str.ofString "__getitem__") ty PySem.F.slot_dict_getitem (wpAny_call_entry PySem.F.slot_dict_getitem ty PySem.F.entry_dict_getitem ?_ (PySem.F.args_dict_getitem_2 _ _))))))
  show wpAny _ _ (dictGet a (.str k tk) >>= _) _ _ s
  refine wpAny_bind (tab_get I T (fun v' u s' e' r I' => ?_) fun s' z _ => absurd (z.symm.trans e) (fun z => nomatch z))
  obtain rfl : v' = v := Option.some.inj (e'.symm.trans e)
  exact wpAny_pure ⟨u, rfl, wpAny_pure (q u s' r I')⟩
theorem tab_has {Q : Bool → Shared → Prop} (I : Inv X pins σ H s) (T : TabK X.K a D) (q : ∀ s' : Shared, Inv X pins σ H s' → Q (KTD.datumAt k D).isSome s') : wpAny (model X.prog X.w) A (contains (.ref a) (.str k tk)) Q E s := by
  have ty := TabK.ty I T
  unfold contains
  refine wpAny_holding (wpAny_bind (wpAny_specialOf ty PySem.F.slot_dict_contains.lookup ?_))
  have nb : ¬ (some (Value.builtin "dict.__contains__") == some Value.none) = true := by rw [beq_builtin_none]; exact Bool.false_ne_true
  show wpAny _ _ (if (some (Value.builtin "dict.__contains__") == some Value.none) = true then _ else _) _ _ s
  rw [if_neg nb]
  refine wpAny_bind (wpAny_callSpecialUnlessNone?_slot (name := Str.ofString "__contains__") ty PySem.F.slot_dict_contains (wpAny_call_entry PySem.F.slot_dict_contains ty PySem.F.entry_dict_contains ?_ (PySem.F.args_dict_contains_2 _ _)))
  show wpAny _ _ (dictGet a (.str k tk) >>= _) _ _ s
  refine wpAny_bind (tab_get I T (fun v u s' e _ I' => ?_) fun s' e I' => ?_)
  · have := q s' I'
    rw [e] at this
    show wpAny _ _ (ret (.bool true)) _ _ _
    exact wpAny_pure ⟨_, rfl, wpAny_truthy_bool this⟩
  · have := q s' I'
    rw [e] at this
    show wpAny _ _ (Builtin.Dict.pendingKey? a (.str k tk) >>= _) _ _ _
    exact wpAny_bind (wpAny_pendingKey_other T.1 (wpAny_pure ⟨_, rfl, wpAny_truthy_bool this⟩))
end
def entryV (e : DictEntry) : Option (Str × V) := match e.key with
  | .str x _ => (absV e.val).map fun v => (x, v)
  | _ => none
theorem rel_abs {v : V} {u : Value} (h : absV u = some v) : RelV v u := by
  cases u <;> first | (cases h; rfl) | (cases h; exact ⟨_, rfl⟩) | cases h
theorem rows_of_map : ∀ {es : List DictEntry} {D : List (Str × V)}, es.map entryV = D.map some → KTD.Rows (fun (v : V) (u : Value) => RelV v u) es D
  | [], [], _ => .nil
  | [], _ :: _, h => by cases h
  | _ :: _, [], h => by cases h
  | e :: es, (x, v) :: D, h => by
    have h1 : entryV e = some (x, v) := (List.cons.inj h).1
    have h2 := (List.cons.inj h).2
    unfold entryV at h1
    split at h1
    · rename_i y t hk
      cases ha : absV e.val with
      | none => rw [ha] at h1; cases h1
      | some z =>
        rw [ha] at h1
        cases h1
        exact .cons hk (rel_abs ha) (rows_of_map h2)
    · cases h1
section
variable {X : Cx} {o i : Expr} {td ty : TE} {pos : Pos}
def tKGet (K : PySem.W.Frag) (td ty : TE) : TE := fun σ H Q => td σ H fun x H1 => ty σ H1 fun y H2 => ∃ a D k v, x = .ref a ∧ y = .str k ∧ TabK K a D ∧ KTD.datumAt k D = some v ∧ Q v H2
def tKNotIn (K : PySem.W.Frag) (ty td : TE) : TE := fun σ H Q => ty σ H fun y H1 => td σ H1 fun x H2 => ∃ a D k, x = .ref a ∧ y = .str k ∧ TabK K a D ∧ Q (.bl (!(KTD.datumAt k D).isSome)) H2
theorem pe_kget (ho : PE X o td) (hi : PE X i ty) (hs : NoSl i) : PE X (.Subscript o i pos) (tKGet X.K td ty) := by
  intro pins s σ H Q I h
  refine subD_of PySem.F.slot_dict_getitem.lookup hs (thn (ho pins s σ H _ I h) fun u s1 ⟨x, H1, I1, rx, q1⟩ => thn (hi pins s1 σ H1 _ I1 q1) fun iv s2 ⟨y, H2, I2, ry, a, D, k, v, ex, ey, T, e, q2⟩ => ?_)
  subst ex ey
  obtain rfl : u = Value.ref a := rx
  obtain ⟨t, rfl⟩ := ry
  exact ⟨TabK.ty I2 T, tab_item I2 T e fun u s' r I' => ⟨v, H2, I', r, q2⟩⟩
theorem pc_knotin (hi : PE X i ty) (ho : PE X o td) : PC X .NotIn i o (tKNotIn X.K ty td) := by
  intro pins s σ H Q I h
  refine thn (hi pins s σ H _ I h) fun iv s1 ⟨y, H1, I1, ry, q1⟩ => thn (ho pins s1 σ H1 _ I1 q1) fun u s2 ⟨x, H2, I2, rx, a, D, k, ex, ey, T, q2⟩ => ?_
  subst ex ey
  obtain rfl : u = Value.ref a := rx
  obtain ⟨t, rfl⟩ := ry
  show wpAny _ _ ((do return Value.bool (!(← contains (.ref a) (.str k t)))) : Sem Value) _ _ _
  exact wpAny_bind (tab_has I2 T fun s' I' => wpAny_pure ⟨.bl _, H2, I', rfl, q2⟩)
end
end L9
namespace L9
open PySem PySem.Spec PyProof.Rows L2 L3
section
variable {X : Cx}
theorem ty_vals : ∀ {Ts : List String} {us : List Value}, Vals (Ts.map V.ty) us → us = Ts.map Value.type
  | [], _, .nil => rfl
  | T :: Ts, _, .cons r t => by
    cases r
    rw [ty_vals t]
    rfl
theorem call_isiT : CallR X (.builtin "isinstance") (fun xs H Q => ∃ (x : V) (S : String) (tp : Addr) (Ts : List String) (b : Bool), xs = [x, .ref tp] ∧ tyName X.K H x S ∧ H tp = some (.tup (Ts.map V.ty)) ∧ PySem.W.kitAny X.K (.type S) (Ts.map Value.type) = some b ∧ Q (.bl b) H) := by
  intro pins s σ H xs us Q I r h
  obtain ⟨x, S, tp, Ts, b, rfl, ty, ht, e, q⟩ := h
  obtain ⟨u, w', rfl, rx, ry⟩ := vals2 r
  cases ry
  obtain ⟨_, its, rv, p⟩ := (show ObjOk X.prog X.w H s.heap tp (.tup (Ts.map V.ty)) from I.hok tp _ ht)
  obtain ⟨⟨oc, od, odt, osl⟩, h1, h2, n, h3⟩ := p
  replace h2 : oc = .type "tuple" := h2
  replace h3 : odt = .seq its.toArray n := h3
  subst h2 h3
  rw [ty_vals rv] at h1
  have fin : ∀ tk, EP X pins σ Q (.bool b) { s with toks := tk } := fun tk => ⟨.bl b, H, I.tok _, rfl, q⟩
  cases x with
  | non => cases (show S = "NoneType" from ty); cases (show u = Value.none from rx); exact PySem.W.kia_tup PySem.W.kitx_none I.kIn True.intro h1 e (fun z => nomatch z) fin
  | bl y => cases (show S = "bool" from ty); cases (show u = Value.bool y from rx); exact PySem.W.kia_tup PySem.W.kitx_bool I.kIn True.intro h1 e (fun z => nomatch z) fin
  | int i => cases (show S = "int" from ty); obtain ⟨t, rfl⟩ := rx; exact PySem.W.kia_tup PySem.W.kitx_int I.kIn True.intro h1 e (fun z => nomatch z) fin
  | str y => cases (show S = "str" from ty); obtain ⟨t, rfl⟩ := rx; exact PySem.W.kia_tup PySem.W.kitx_str I.kIn True.intro h1 e (fun z => nomatch z) fin
  | ref a =>
    cases (show u = Value.ref a from rx)
    rcases ty with ⟨rfl, ⟨zs, ea⟩ | ⟨o, zs, ea⟩⟩ | ⟨rfl, zs, ea⟩ | ⟨rfl, kvs, ea⟩
    · obtain ⟨_, _, m, _, g1⟩ := (show ObjOk X.prog X.w H s.heap a (.lst zs) from I.hok a _ ea)
      exact PySem.W.kia_tup PySem.W.kitx_list I.kIn ⟨_, g1, rfl⟩ h1 e (fun z => nomatch z) fin
    · obtain ⟨_, _, _, m, _, g1⟩ := (show ObjOk X.prog X.w H s.heap a (.frz o (.lst zs)) from I.hok a _ ea)
      exact PySem.W.kia_tup PySem.W.kitx_list I.kIn ⟨_, g1, rfl⟩ h1 e (fun z => nomatch z) fin
    · obtain ⟨_, _, _, p⟩ := (show ObjOk X.prog X.w H s.heap a (.tup zs) from I.hok a _ ea)
      obtain ⟨o, g1, g2, _⟩ := p
      exact PySem.W.kia_tup PySem.W.kitx_tuple I.kIn ⟨o, g1, g2⟩ h1 e (fun z => nomatch z) fin
    · obtain ⟨_, _, vs, _, p⟩ := (show ObjOk X.prog X.w H s.heap a (.dK kvs) from I.hok a _ ea)
      obtain ⟨o, es, ep, g1, g2, _⟩ := p
      exact PySem.W.kia_tup PySem.W.kitx_dict I.kIn ⟨o, g1, g2.1⟩ h1 e (fun z => nomatch z) fin
  | _ => exact (show False from ty).elim
end
end L9
namespace CF
open PySem L2 L3 L4 CW
inductive Leaf where
  | frm (want : Int) (words : List Str) (level mark worth : Int)
  | off (want : Int) (words : List Str) (mark worth : Int)
def Leaf.words : Leaf → List Str
  | .frm _ ws _ _ _ => ws
  | .off _ ws _ _ => ws
def Leaf.data : Leaf → PyData
  | .frm n ws a b c => .tuple [.str "from", .int n, .list (ws.map .str), .int a, .int b, .int c]
  | .off n ws b c => .tuple [.str "of", .int n, .list (ws.map .str), .int b, .int c]
def Leaf.items : Leaf → V → List V
  | .frm n _ a b c, v => [.str "from", .int n, v, .int a, .int b, .int c]
  | .off n _ b c, v => [.str "of", .int n, v, .int b, .int c]
def Leaf.fits : Leaf → Work → Bool
  | .frm _ ws a b _, w => (decide (ws = []) || ws.contains w.field) && (decide (a ≤ w.level) && decide (b ≤ w.mark))
  | .off _ ws b _, w => ws.contains w.name && decide (b ≤ w.mark)
def Tx (m : Nat) (t : Str) : Prop := (∀ c ∈ cs t, c < 1114112) ∧ t.length ≤ m
theorem Tx.mono {m n : Nat} {t : Str} (h : Tx m t) (hn : m ≤ n) : Tx n t := ⟨h.1, Nat.le_trans h.2 hn⟩
theorem Tx.mul {c : Nat} (hc : c < 1114112) {n : Int} {m : Nat} (h : n ≤ m) : Tx m (PySem.Txt.mul ⟨#[c]⟩ n) := ⟨fun x hx => by
  rw [cs_mul] at hx
  rw [(List.mem_replicate.mp hx).2]
  exact hc, by rw [← cs_len, cs_mul, List.length_replicate]; omega⟩
theorem Tx.one {c : Nat} (hc : c < 1114112) : Tx 1 ⟨#[c]⟩ := ⟨fun x hx => by rw [cs_one] at hx; rw [List.mem_singleton.mp hx]; exact hc, Nat.le_refl _⟩
theorem Tx.word {t : Str} (h : isWord t = true) : Tx 12 t := ⟨fun c hc => by have := (isWord_iff.mp h).2.2.2 c hc; omega, (isWord_iff.mp h).2.1⟩
theorem atI_zero {α : Type} {x : α} {xs : List α} : atI (x :: xs) 0 = some x := atI_nat (j := 0) rfl
theorem Leaf.tup {K : PySem.W.Frag} {D : Hp} {x : V} {l : Leaf} (h : DataAt K D x l.data) : ∃ t p, x = .ref t ∧ D t = some (.tup (l.items (.ref p))) ∧ Rd D p (.lst (l.words.map V.str)) := by
  cases l with
  | frm n ws a b c =>
    obtain ⟨t, xs, rfl, e, hA⟩ := DataAt.tup h
    obtain ⟨y1, r1, rfl, h1, hA⟩ := DataAll.uncons hA
    obtain ⟨y2, r2, rfl, h2, hA⟩ := DataAll.uncons hA
    obtain ⟨y3, r3, rfl, h3, hA⟩ := DataAll.uncons hA
    obtain ⟨y4, r4, rfl, h4, hA⟩ := DataAll.uncons hA
    obtain ⟨y5, r5, rfl, h5, hA⟩ := DataAll.uncons hA
    obtain ⟨y6, r6, rfl, h6, hA⟩ := DataAll.uncons hA
    rw [DataAt.str h1, DataAt.int h2, DataAt.int h4, DataAt.int h5, DataAt.int h6, DataAll.none hA] at e
    obtain ⟨p, zs, rfl, hp, hz⟩ := DataAt.lst h3
    rw [DataAll.strs_eq hz] at hp
    exact ⟨t, p, rfl, e, hp⟩
  | off n ws b c =>
    obtain ⟨t, xs, rfl, e, hA⟩ := DataAt.tup h
    obtain ⟨y1, r1, rfl, h1, hA⟩ := DataAll.uncons hA
    obtain ⟨y2, r2, rfl, h2, hA⟩ := DataAll.uncons hA
    obtain ⟨y3, r3, rfl, h3, hA⟩ := DataAll.uncons hA
    obtain ⟨y4, r4, rfl, h4, hA⟩ := DataAll.uncons hA
    obtain ⟨y5, r5, rfl, h5, hA⟩ := DataAll.uncons hA
    rw [DataAt.str h1, DataAt.int h2, DataAt.int h4, DataAt.int h5, DataAll.none hA] at e
    obtain ⟨p, zs, rfl, hp, hz⟩ := DataAt.lst h3
    rw [DataAll.strs_eq hz] at hp
    exact ⟨t, p, rfl, e, hp⟩
theorem Leaf.at_ {K : PySem.W.Frag} {D : Hp} {t p : Addr} {l : Leaf} (e : D t = some (.tup (l.items (.ref p)))) (hp : Rd D p (.lst (l.words.map V.str))) : DataAt K D (.ref t) l.data := by
  have hw : DataAt K D (.ref p) (.list (l.words.map .str)) := by unfold DataAt; exact ⟨p, _, rfl, hp, DataAll.strs _⟩
  cases l with
  | frm n ws a b c => exact DataAt.mkT (DataAll.cons DataAt.ofStr (DataAll.cons DataAt.ofInt (DataAll.cons hw (DataAll.cons DataAt.ofInt (DataAll.cons DataAt.ofInt (DataAll.cons DataAt.ofInt DataAll.nil)))))) e (Same.refl _)
  | off n ws b c => exact DataAt.mkT (DataAll.cons DataAt.ofStr (DataAll.cons DataAt.ofInt (DataAll.cons hw (DataAll.cons DataAt.ofInt (DataAll.cons DataAt.ofInt DataAll.nil))))) e (Same.refl _)
theorem flat_strs : ∀ ss : List Str, (ss.map V.str).all flatV = true
  | [] => rfl
  | _ :: r => by rw [List.map_cons, List.all_cons, flat_strs r]; rfl
theorem lay_str {m : Nat} {t : Str} (h : Tx m t) : (PyData.str t).canLay0 = true := strOk_small h.1
theorem lay_all : ∀ {ds : List PyData}, (∀ d ∈ ds, d.canLay0 = true) → PyData.canLayAll0 ds = true
  | [], _ => rfl
  | d :: r, h => by
    show (PyData.canLay0 d && PyData.canLayAll0 r) = true
    rw [h d (List.mem_cons_self ..), lay_all fun x hx => h x (List.mem_cons_of_mem _ hx)]
    rfl
theorem lay_strs {ss : List Str} (h : ∀ t ∈ ss, Tx 24 t) : PyData.canLayAll0 (ss.map .str) = true := lay_all fun d hd => by
  obtain ⟨t, ht, rfl⟩ := List.mem_map.mp hd
  exact lay_str (h t ht)
def Leaf.Lay (l : Leaf) : Prop := ∀ t ∈ l.words, Tx 24 t
theorem tx_from : Tx 24 "from" := ⟨by decide +kernel, by decide +kernel⟩
theorem tx_of : Tx 24 "of" := ⟨by decide +kernel, by decide +kernel⟩
theorem Leaf.canLay {l : Leaf} (h : l.Lay) : l.data.canLay0 = true := by
  cases l with
  | frm n ws a b c =>
    refine lay_all (ds := [.str "from", .int n, .list (ws.map .str), .int a, .int b, .int c]) fun d hd => ?_
    simp only [List.mem_cons, List.not_mem_nil, or_false] at hd
    rcases hd with rfl | rfl | rfl | rfl | rfl | rfl
    · exact lay_str tx_from
    · rfl
    · exact lay_strs h
    · rfl
    · rfl
    · rfl
  | off n ws b c =>
    refine lay_all (ds := [.str "of", .int n, .list (ws.map .str), .int b, .int c]) fun d hd => ?_
    simp only [List.mem_cons, List.not_mem_nil, or_false] at hd
    rcases hd with rfl | rfl | rfl | rfl | rfl
    · exact lay_str tx_of
    · rfl
    · exact lay_strs h
    · rfl
    · rfl
theorem depth_strs : ∀ ss : List Str, PyData.depthAll (ss.map .str) = 0
  | [] => rfl
  | _ :: r => by
    show max 0 (PyData.depthAll (r.map .str)) = 0
    rw [depth_strs r]
    rfl
theorem Leaf.depth (l : Leaf) : l.data.depth ≤ 2 := by
  cases l with
  | frm n ws a b c =>
    show max 0 (max 0 (max (PyData.depthAll (ws.map .str) + 1) _)) + 1 ≤ 2
    rw [depth_strs]
    exact Nat.le_refl 2
  | off n ws b c =>
    show max 0 (max 0 (max (PyData.depthAll (ws.map .str) + 1) _)) + 1 ≤ 2
    rw [depth_strs]
    exact Nat.le_refl 2
def Leaf.hd : Leaf → List V
  | .frm n _ _ _ _ => [.str "from", .int n]
  | .off n _ _ _ => [.str "of", .int n]
def Leaf.tl : Leaf → List V
  | .frm _ _ a b c => [.int a, .int b, .int c]
  | .off _ _ b c => [.int b, .int c]
theorem Leaf.cut3 (l : Leaf) (v : V) : cutV (l.items v) (some 3) none = l.tl := by cases l <;> rfl
theorem Leaf.nw3 (l : Leaf) (v : V) : ¬ (HT.sIx (l.items v).length 0 (some 3) = 0 ∧ HT.sIx (l.items v).length (l.items v).length none = (l.items v).length) := by cases l <;> exact fun z => absurd z.1 (by show ¬ (3 = 0); decide)
end CF
namespace CF
open PySem L2 L3 L4 CW
inductive Rule where
  | leaf (l : Leaf)
  | allr (rs : List Rule)
  | somr (n : Int) (rs : List Rule)
mutual
def Rule.data : Rule → PyData
  | .leaf l => l.data
  | .allr rs => .tuple [.str "all", .list (Rule.datas rs)]
  | .somr n rs => .tuple [.str "some", .int n, .list (Rule.datas rs)]
def Rule.datas : List Rule → List PyData
  | [] => []
  | r :: rs => r.data :: Rule.datas rs
end
theorem Rule.datas_map : ∀ rs : List Rule, Rule.datas rs = rs.map Rule.data
  | [] => by unfold Rule.datas; rfl
  | r :: rs => by unfold Rule.datas; rw [Rule.datas_map rs]; rfl
mutual
def Rule.depth : Rule → Nat
  | .leaf _ => 0
  | .allr rs => Rule.depths rs + 1
  | .somr _ rs => Rule.depths rs + 1
def Rule.depths : List Rule → Nat
  | [] => 0
  | r :: rs => max r.depth (Rule.depths rs)
end
theorem Rule.depths_mem {r : Rule} : ∀ {rs : List Rule}, r ∈ rs → r.depth ≤ Rule.depths rs
  | x :: rs, h => by
    unfold Rule.depths
    rcases List.mem_cons.mp h with rfl | h
    · exact Nat.le_max_left _ _
    · exact Nat.le_trans (Rule.depths_mem h) (Nat.le_max_right _ _)
theorem Rule.depths_le {n : Nat} : ∀ {rs : List Rule}, (∀ r ∈ rs, r.depth ≤ n) → Rule.depths rs ≤ n
  | [], _ => by unfold Rule.depths; exact Nat.zero_le _
  | r :: rs, h => by
    unfold Rule.depths
    exact Nat.max_le.mpr ⟨h r (List.mem_cons_self ..), Rule.depths_le fun x hx => h x (List.mem_cons_of_mem _ hx)⟩
mutual
def Rule.leaves : Rule → List Leaf
  | .leaf l => [l]
  | .allr rs => Rule.leavess rs
  | .somr _ rs => Rule.leavess rs
def Rule.leavess : List Rule → List Leaf
  | [] => []
  | r :: rs => r.leaves ++ Rule.leavess rs
end
theorem Rule.leavess_nil : Rule.leavess [] = [] := by simp only [Rule.leavess]
theorem Rule.leavess_cons (r : Rule) (rs : List Rule) : Rule.leavess (r :: rs) = r.leaves ++ Rule.leavess rs := by simp only [Rule.leavess]
theorem Rule.leavess_app : ∀ rs ss : List Rule, Rule.leavess (rs ++ ss) = Rule.leavess rs ++ Rule.leavess ss
  | [], ss => by rw [List.nil_append, Rule.leavess_nil, List.nil_append]
  | r :: rs, ss => by rw [List.cons_append, Rule.leavess_cons, Rule.leavess_app rs ss, Rule.leavess_cons, List.append_assoc]
theorem Rule.leavess_one (r : Rule) : Rule.leavess [r] = r.leaves := by rw [Rule.leavess_cons, Rule.leavess_nil, List.append_nil]
def Rule.rules : Rule → List Rule
  | .leaf _ => []
  | .allr rs => rs
  | .somr _ rs => rs
def Rule.head : Rule → List V
  | .leaf _ => []
  | .allr _ => [.str "all"]
  | .somr n _ => [.str "some", .int n]
def Rule.isLeaf : Rule → Bool
  | .leaf _ => true
  | _ => false
def WordsOk (ws : List Str) : Prop := (∀ t ∈ ws, isWord t = true) ∧ ws.Nodup ∧ ws.length ≤ 8
def Leaf.Good : Leaf → Prop
  | .frm n ws a b c => WordsOk ws ∧ (0 ≤ n ∧ n ≤ 60) ∧ (0 ≤ a ∧ a < 10 ^ 60) ∧ (0 ≤ b ∧ b < 10 ^ 60) ∧ 1 ≤ c ∧ c ≤ 9
  | .off n ws b c => WordsOk ws ∧ ws ≠ [] ∧ (0 ≤ n ∧ n ≤ 60) ∧ (0 ≤ b ∧ b < 10 ^ 60) ∧ 1 ≤ c ∧ c ≤ 9
mutual
def Rule.Good : Rule → Prop
  | .leaf l => l.Good
  | .allr rs => rs ≠ [] ∧ rs.length ≤ 16 ∧ Rule.Goods rs
  | .somr n rs => (1 ≤ n ∧ n ≤ rs.length) ∧ rs.length ≤ 16 ∧ Rule.Goods rs
def Rule.Goods : List Rule → Prop
  | [] => True
  | r :: rs => r.Good ∧ Rule.Goods rs
end
theorem Rule.goods_iff : ∀ {rs : List Rule}, Rule.Goods rs ↔ ∀ r ∈ rs, r.Good
  | [] => by unfold Rule.Goods; exact ⟨fun _ r h => (nomatch h), fun _ => trivial⟩
  | r :: rs => by
    unfold Rule.Goods
    rw [Rule.goods_iff (rs := rs)]
    exact ⟨fun h x hx => (List.mem_cons.mp hx).elim (fun e => e ▸ h.1) (h.2 x), fun h => ⟨h r (List.mem_cons_self ..), fun x hx => h x (List.mem_cons_of_mem _ hx)⟩⟩
theorem Leaf.Good.lay {l : Leaf} (h : l.Good) : l.Lay := by
  cases l with
  | frm n ws a b c => exact fun t ht => (Tx.word (h.1.1 t ht)).mono (by decide)
  | off n ws b c => exact fun t ht => (Tx.word (h.1.1 t ht)).mono (by decide)
theorem tx_all : Tx 24 "all" := ⟨by decide +kernel, by decide +kernel⟩
theorem tx_some : Tx 24 "some" := ⟨by decide +kernel, by decide +kernel⟩
mutual
theorem Rule.canLay : ∀ {r : Rule}, r.Good → r.data.canLay0 = true
  | .leaf l, h => by unfold Rule.data; unfold Rule.Good at h; exact Leaf.canLay h.lay
  | .allr rs, h => by
    unfold Rule.data
    unfold Rule.Good at h
    have e := Rule.canLays h.2.2
    refine lay_all (ds := [.str "all", .list (Rule.datas rs)]) fun d hd => ?_
    simp only [List.mem_cons, List.not_mem_nil, or_false] at hd
    rcases hd with rfl | rfl
    · exact lay_str tx_all
    · exact e
  | .somr n rs, h => by
    unfold Rule.data
    unfold Rule.Good at h
    have e := Rule.canLays h.2.2
    refine lay_all (ds := [.str "some", .int n, .list (Rule.datas rs)]) fun d hd => ?_
    simp only [List.mem_cons, List.not_mem_nil, or_false] at hd
    rcases hd with rfl | rfl | rfl
    · exact lay_str tx_some
    · rfl
    · exact e
theorem Rule.canLays : ∀ {rs : List Rule}, Rule.Goods rs → PyData.canLayAll0 (Rule.datas rs) = true
  | [], _ => by unfold Rule.datas; rfl
  | r :: rs, h => by
    unfold Rule.datas
    unfold Rule.Goods at h
    show (PyData.canLay0 r.data && PyData.canLayAll0 (Rule.datas rs)) = true
    rw [Rule.canLay h.1, Rule.canLays h.2]
    rfl
end
mutual
theorem Rule.data_depth : ∀ r : Rule, r.data.depth ≤ 2 * r.depth + 2
  | .leaf l => by unfold Rule.data; have := Leaf.depth l; omega
  | .allr rs => by
    unfold Rule.data Rule.depth
    have := Rule.datas_depth rs
    show max 0 (max (PyData.depthAll (Rule.datas rs) + 1) 0) + 1 ≤ _
    omega
  | .somr n rs => by
    unfold Rule.data Rule.depth
    have := Rule.datas_depth rs
    show max 0 (max 0 (max (PyData.depthAll (Rule.datas rs) + 1) 0)) + 1 ≤ _
    omega
theorem Rule.datas_depth : ∀ rs : List Rule, PyData.depthAll (Rule.datas rs) ≤ 2 * Rule.depths rs + 2
  | [] => by unfold Rule.datas; exact Nat.zero_le _
  | r :: rs => by
    unfold Rule.datas Rule.depths
    have h1 := Rule.data_depth r
    have h2 := Rule.datas_depth rs
    show max r.data.depth (PyData.depthAll (Rule.datas rs)) ≤ _
    omega
end
theorem Rule.leaves_ne : ∀ {r : Rule}, r.Good → r.leaves ≠ []
  | .leaf l, _ => by unfold Rule.leaves; exact fun z => nomatch z
  | .allr (r :: rs), h => by
    unfold Rule.Good at h
    unfold Rule.leaves Rule.leavess
    have h3 := h.2.2
    unfold Rule.Goods at h3
    exact fun z => Rule.leaves_ne h3.1 (List.append_eq_nil_iff.mp z).1
  | .allr [], h => by unfold Rule.Good at h; exact absurd rfl h.1
  | .somr n (r :: rs), h => by
    unfold Rule.Good at h
    unfold Rule.leaves Rule.leavess
    have h3 := h.2.2
    unfold Rule.Goods at h3
    exact fun z => Rule.leaves_ne h3.1 (List.append_eq_nil_iff.mp z).1
  | .somr n [], h => by unfold Rule.Good at h; have := h.1; simp only [List.length_nil] at this; omega
theorem Rule.grp {K : PySem.W.Frag} {D : Hp} {x : V} {r : Rule} (h : DataAt K D x r.data) (hr : r.isLeaf = false) : ∃ t p xs, x = .ref t ∧ D t = some (.tup (r.head ++ [.ref p])) ∧ Rd D p (.lst xs) ∧ DataAll K D xs (Rule.datas r.rules) := by
  cases r with
  | leaf l => cases hr
  | allr rs =>
    unfold Rule.data at h
    obtain ⟨t, xs, rfl, e, hA⟩ := DataAt.tup h
    obtain ⟨y1, r1, rfl, h1, hA⟩ := DataAll.uncons hA
    obtain ⟨y2, r2, rfl, h2, hA⟩ := DataAll.uncons hA
    rw [DataAt.str h1, DataAll.none hA] at e
    obtain ⟨p, zs, rfl, hp, hz⟩ := DataAt.lst h2
    exact ⟨t, p, zs, rfl, e, hp, hz⟩
  | somr n rs =>
    unfold Rule.data at h
    obtain ⟨t, xs, rfl, e, hA⟩ := DataAt.tup h
    obtain ⟨y1, r1, rfl, h1, hA⟩ := DataAll.uncons hA
    obtain ⟨y2, r2, rfl, h2, hA⟩ := DataAll.uncons hA
    obtain ⟨y3, r3, rfl, h3, hA⟩ := DataAll.uncons hA
    rw [DataAt.str h1, DataAt.int h2, DataAll.none hA] at e
    obtain ⟨p, zs, rfl, hp, hz⟩ := DataAt.lst h3
    exact ⟨t, p, zs, rfl, e, hp, hz⟩
theorem Rule.grpAt {K : PySem.W.Frag} {D : Hp} {t p : Addr} {xs : List V} {r : Rule} (hr : r.isLeaf = false) (e : D t = some (.tup (r.head ++ [.ref p]))) (hp : Rd D p (.lst xs)) (hx : DataAll K D xs (Rule.datas r.rules)) : DataAt K D (.ref t) r.data := by
  have hw : DataAt K D (.ref p) (.list (Rule.datas r.rules)) := by unfold DataAt; exact ⟨p, _, rfl, hp, hx⟩
  cases r with
  | leaf l => cases hr
  | allr rs => unfold Rule.data; exact DataAt.mkT (DataAll.cons DataAt.ofStr (DataAll.cons hw DataAll.nil)) e (Same.refl _)
  | somr n rs => unfold Rule.data; exact DataAt.mkT (DataAll.cons DataAt.ofStr (DataAll.cons DataAt.ofInt (DataAll.cons hw DataAll.nil))) e (Same.refl _)
def Rule.kind : Rule → Str
  | .leaf (.frm ..) => "from"
  | .leaf (.off ..) => "of"
  | .allr _ => "all"
  | .somr .. => "some"
theorem Rule.tup {K : PySem.W.Frag} {D : Hp} {x : V} {r : Rule} (h : DataAt K D x r.data) : ∃ t ys, x = .ref t ∧ D t = some (.tup (.str r.kind :: ys)) := by
  cases r with
  | leaf l =>
    unfold Rule.data at h
    obtain ⟨t, p, rfl, et, _⟩ := Leaf.tup h
    cases l with
    | frm n ws a b c => exact ⟨t, _, rfl, et⟩
    | off n ws b c => exact ⟨t, _, rfl, et⟩
  | allr rs =>
    obtain ⟨t, p, xs, rfl, e, _⟩ := Rule.grp h rfl
    exact ⟨t, _, rfl, e⟩
  | somr n rs =>
    obtain ⟨t, p, xs, rfl, e, _⟩ := Rule.grp h rfl
    exact ⟨t, _, rfl, e⟩
theorem kinds_ne : ("all" : Str) ≠ "from" ∧ ("all" : Str) ≠ "of" ∧ ("some" : Str) ≠ "from" ∧ ("some" : Str) ≠ "of" ∧ ("of" : Str) ≠ "from" ∧ ("some" : Str) ≠ "all" := by decide +kernel
theorem Rule.isLeaf_kind (r : Rule) : (decide (r.kind = "from") || decide (r.kind = "of")) = r.isLeaf := by
  obtain ⟨k1, k2, k3, k4, k5, _⟩ := kinds_ne
  cases r with
  | leaf l => cases l with
    | frm n ws a b c => rfl
    | off n ws b c => show (decide (("of" : Str) = "from") || decide (("of" : Str) = "of")) = true; rw [decide_eq_true rfl, Bool.or_true]
  | allr rs => show (decide (("all" : Str) = "from") || decide (("all" : Str) = "of")) = false; rw [decide_eq_false k1, decide_eq_false k2]; rfl
  | somr n rs => show (decide (("some" : Str) = "from") || decide (("some" : Str) = "of")) = false; rw [decide_eq_false k3, decide_eq_false k4]; rfl
structure Course where
  oftens : List (Str × Int)
  rule : Rule
def oftD (p : Str × Int) : PyData := .tuple [.str p.1, .int p.2]
def Course.data (c : Course) : PyData := .tuple [.list (c.oftens.map oftD), c.rule.data]
structure Course.Good (c : Course) : Prop where
  words : ∀ p ∈ c.oftens, isWord p.1 = true
  nums : ∀ p ∈ c.oftens, 1 ≤ p.2 ∧ p.2 ≤ 9
  nodup : (c.oftens.map (·.1)).Nodup
  few : c.oftens.length ≤ 16
  rule : c.rule.Good
  deep : c.rule.depth ≤ 6
  leaves : c.rule.leaves.length ≤ 16
theorem oft_lay {p : Str × Int} (h : isWord p.1 = true) : (oftD p).canLay0 = true := by
  refine lay_all (ds := [.str p.1, .int p.2]) fun d hd => ?_
  simp only [List.mem_cons, List.not_mem_nil, or_false] at hd
  rcases hd with rfl | rfl
  · exact lay_str (Tx.word h)
  · rfl
theorem Course.Good.lay {c : Course} (h : c.Good) : c.data.canLay0 = true := by
  refine lay_all (ds := [.list (c.oftens.map oftD), c.rule.data]) fun d hd => ?_
  simp only [List.mem_cons, List.not_mem_nil, or_false] at hd
  rcases hd with rfl | rfl
  · exact lay_all fun d hd => by
      obtain ⟨p, hp, rfl⟩ := List.mem_map.mp hd
      exact oft_lay (h.words p hp)
  · exact Rule.canLay h.rule
theorem oft_depth : ∀ l : List (Str × Int), PyData.depthAll (l.map oftD) ≤ 1
  | [] => by decide
  | p :: r => by
    have := oft_depth r
    show max 1 (PyData.depthAll (r.map oftD)) ≤ 1
    omega
theorem Course.Good.depth {c : Course} (h : c.Good) : c.data.depth ≤ 15 := by
  have h1 := oft_depth c.oftens
  have h2 := Rule.data_depth c.rule
  have h3 := h.deep
  show max (PyData.depthAll (c.oftens.map oftD) + 1) (max c.rule.data.depth 0) + 1 ≤ 15
  omega
def LeafVs (D H : Hp) : List V → List Leaf → Prop
  | [], [] => True
  | x :: xs, l :: ls => (∃ t q, x = .ref t ∧ D t = some (.tup (l.items (.ref q))) ∧ D q = some (.lst (l.words.map V.str)) ∧ H t = none ∧ H q = none) ∧ LeafVs D H xs ls
  | _, _ => False
theorem LeafVs.mono {D D' H H' : Hp} (d : Same D D') (hh : Same H' H) : ∀ {xs : List V} {ls : List Leaf}, LeafVs D H xs ls → LeafVs D' H' xs ls
  | [], [], _ => trivial
  | [], _ :: _, h => h.elim
  | _ :: _, [], h => h.elim
  | x :: xs, l :: ls, ⟨⟨t, q, e, e1, e2, n1, n2⟩, k⟩ => ⟨⟨t, q, e, d _ _ e1, d _ _ e2, hh.free n1, hh.free n2⟩, LeafVs.mono d hh k⟩
theorem LeafVs.data {K : PySem.W.Frag} {D H : Hp} : ∀ {xs : List V} {ls : List Leaf}, LeafVs D H xs ls → DataAll K D xs (ls.map Leaf.data)
  | [], [], _ => DataAll.nil
  | [], _ :: _, h => h.elim
  | _ :: _, [], h => h.elim
  | x :: xs, l :: ls, ⟨⟨t, q, e, e1, e2, n1, n2⟩, k⟩ => by subst e; exact DataAll.cons (Leaf.at_ e1 (.inl e2)) (LeafVs.data k)
theorem LeafVs.length {D H : Hp} : ∀ {xs : List V} {ls : List Leaf}, LeafVs D H xs ls → xs.length = ls.length
  | [], [], _ => rfl
  | [], _ :: _, h => h.elim
  | _ :: _, [], h => h.elim
  | x :: xs, l :: ls, h => congrArg (· + 1) (LeafVs.length h.2)
end CF
namespace CN
open PySem L2 L4 CW CF
def abc : List Nat := [97, 98, 99, 100, 103, 104, 106, 107]
theorem abc_cps : ("abcdghjk" : Str).cps.toList = abc := by decide +kernel
theorem abc_len : ("abcdghjk" : Str).length = 8 := by decide +kernel
theorem q_eq : ("q" : Str) = ⟨#[113]⟩ := by decide +kernel
theorem i_eq : ("i" : Str) = ⟨#[105]⟩ := by decide +kernel
theorem q_len : ("q" : Str).length = 1 := by decide +kernel
theorem i_len : ("i" : Str).length = 1 := by decide +kernel
def placeQ (c : Int) : Int := c / 12 % (1 + c % 12)
theorem place_q (c : Int) : 0 ≤ placeQ c ∧ placeQ c < 1 + c % 12 := by
  unfold placeQ
  have c0 : 0 ≤ c % 12 := Int.emod_nonneg _ (by decide)
  exact ⟨Int.emod_nonneg _ (by omega), Int.emod_lt_of_pos _ (by omega)⟩
def abcOf (k : Int) : Nat := abc.getD (k % 8).toNat 97
def word1 (c k : Int) : Str := PySem.Txt.mul "q" (placeQ c) ++ ⟨#[abcOf k]⟩ ++ PySem.Txt.mul "q" (1 + c % 12 - 1 - placeQ c)
theorem abc_at (k : Int) : atI ("abcdghjk" : Str).cps.toList (k % 8) = some (abcOf k) ∧ abcOf k ∈ abc := by
  have k0 : 0 ≤ k % 8 := Int.emod_nonneg _ (by decide)
  have k1 : k % 8 < 8 := Int.emod_lt_of_pos _ (by decide)
  have hk : (k % 8).toNat < abc.length := by show _ < 8; omega
  have e : abcOf k = abc[(k % 8).toNat] := by unfold abcOf; rw [List.getD_eq_getElem?_getD, List.getElem?_eq_getElem hk]; rfl
  rw [abc_cps, e]
  refine ⟨?_, List.getElem_mem _⟩
  have q := atI_nat (xs := abc) (j := (k % 8).toNat) (v := abc[(k % 8).toNat]) (List.getElem?_eq_getElem hk)
  rw [Int.toNat_of_nonneg k0] at q
  exact q
theorem cs_word1 (c k : Int) : cs (word1 c k) = List.replicate (placeQ c).toNat 113 ++ (abcOf k :: List.replicate (1 + c % 12 - 1 - placeQ c).toNat 113) := by
  unfold word1
  rw [cs_app, cs_app, cs_one, q_eq, cs_mul, cs_mul, List.append_assoc]
  rfl
theorem word1_len (c k : Int) : (word1 c k).length = (1 + c % 12).toNat := by
  have := place_q c
  rw [← cs_len, cs_word1]
  simp only [List.length_append, List.length_replicate, List.length_cons]
  omega
theorem keys_other : ∀ t ∈ keys, ∃ x ∈ t.cps.toList, x ≠ 113 ∧ x ∉ abc := by decide +kernel
theorem keys_noi : ∀ t ∈ keys, 105 ∉ t.cps.toList := by decide +kernel
theorem abc_small : ∀ x ∈ abc, 97 ≤ x ∧ x ≤ 122 := by decide
theorem word1_codes {c k : Int} : ∀ x ∈ cs (word1 c k), x = 113 ∨ x ∈ abc := by
  intro x hx
  rw [cs_word1] at hx
  rcases List.mem_append.mp hx with h | h
  · exact .inl (List.mem_replicate.mp h).2
  · rcases List.mem_cons.mp h with h | h
    · exact .inr (h ▸ (abc_at k).2)
    · exact .inl (List.mem_replicate.mp h).2
theorem word1_ok (c k : Int) : isWord (word1 c k) = true := by
  have hl := word1_len c k
  have c0 : 0 ≤ c % 12 := Int.emod_nonneg _ (by decide)
  have c1 : c % 12 < 12 := Int.emod_lt_of_pos _ (by decide)
  refine isWord_iff.mpr ⟨by omega, by omega, fun hk => ?_, fun x hx => ?_⟩
  · obtain ⟨x, hx, h1, h2⟩ := keys_other _ hk
    rcases word1_codes x hx with h | h
    · exact h1 h
    · exact h2 h
  · rcases word1_codes x hx with h | h
    · omega
    · exact abc_small x h
theorem abc_inj : ∀ i j : Fin 8, abc.getD i.1 97 = abc.getD j.1 97 → i = j := by decide
theorem abcOf_inj {i j : Int} (h0 : 0 ≤ i) (h1 : i < 8) (h2 : 0 ≤ j) (h3 : j < 8) (e : abcOf i = abcOf j) : i = j := by
  unfold abcOf at e
  have := abc_inj ⟨(i % 8).toNat, by omega⟩ ⟨(j % 8).toNat, by omega⟩ e
  have := congrArg Fin.val this
  simp only at this
  omega
theorem word1_inj {c i j : Int} (h0 : 0 ≤ i) (h1 : i < 8) (h2 : 0 ≤ j) (h3 : j < 8) (e : word1 c i = word1 c j) : i = j := by
  have e' := congrArg cs e
  rw [cs_word1, cs_word1] at e'
  exact abcOf_inj h0 h1 h2 h3 (List.cons.inj (List.append_cancel_left e')).1
def eight : List Str := ["history", "orlevel", "marks", "levels", "worthy", "anyof", "endings", "oftens"]
def word4 (c k : Int) : Str :=
  if c / 144 % 4 = 1 then "math" ++ PySem.Txt.mul "i" (1 + k % 8)
  else if c / 144 % 4 = 2 then PySem.Txt.mul "i" (1 + k % 8) ++ "art"
  else if c / 144 % 4 = 3 then eight.getD (k % 8).toNat "marks"
  else word1 c k
theorem eight_ok : ∀ t ∈ eight, isWord t = true := by decide +kernel
theorem eight_inj : ∀ i j : Fin 8, eight.getD i.1 "marks" = eight.getD j.1 "marks" → i = j := by decide +kernel
theorem eight_mem (k : Int) : eight.getD (k % 8).toNat "marks" ∈ eight ∧ atI (eight.map V.str) (k % 8) = some (.str (eight.getD (k % 8).toNat "marks")) := by
  have k0 : 0 ≤ k % 8 := Int.emod_nonneg _ (by decide)
  have k1 : k % 8 < 8 := Int.emod_lt_of_pos _ (by decide)
  have hk : (k % 8).toNat < eight.length := by show _ < 8; omega
  have e : eight.getD (k % 8).toNat "marks" = eight[(k % 8).toNat] := by rw [List.getD_eq_getElem?_getD, List.getElem?_eq_getElem hk]; rfl
  rw [e]
  refine ⟨List.getElem_mem _, ?_⟩
  have q := atI_nat (xs := eight.map V.str) (j := (k % 8).toNat) (v := .str eight[(k % 8).toNat]) (by rw [List.getElem?_map, List.getElem?_eq_getElem hk]; rfl)
  rw [Int.toNat_of_nonneg k0] at q
  exact q
theorem math_codes : ∀ x ∈ cs ("math" : Str), 97 ≤ x ∧ x ≤ 122 := by
  have h : ∀ x ∈ ("math" : Str).cps.toList, 97 ≤ x ∧ x ≤ 122 := by decide +kernel
  exact h
theorem art_codes : ∀ x ∈ cs ("art" : Str), 97 ≤ x ∧ x ≤ 122 := by
  have h : ∀ x ∈ ("art" : Str).cps.toList, 97 ≤ x ∧ x ≤ 122 := by decide +kernel
  exact h
theorem math_len : ("math" : Str).length = 4 := by decide +kernel
theorem art_len : ("art" : Str).length = 3 := by decide +kernel
theorem mul_i (n : Int) : cs (PySem.Txt.mul "i" n) = List.replicate n.toNat 105 := by rw [i_eq, cs_mul]
theorem mul_i_len (n : Int) : (PySem.Txt.mul "i" n).length = n.toNat := by rw [← cs_len, mul_i, List.length_replicate]
theorem word4_ok (c k : Int) : isWord (word4 c k) = true := by
  have k0 : 0 ≤ k % 8 := Int.emod_nonneg _ (by decide)
  have k1 : k % 8 < 8 := Int.emod_lt_of_pos _ (by decide)
  have hi : 105 ∈ cs (PySem.Txt.mul "i" (1 + k % 8)) := by rw [mul_i]; exact List.mem_replicate.mpr ⟨by omega, rfl⟩
  have hc : ∀ x ∈ cs (PySem.Txt.mul "i" (1 + k % 8)), 97 ≤ x ∧ x ≤ 122 := fun x hx => by
    rw [mul_i] at hx
    have := (List.mem_replicate.mp hx).2
    omega
  have hl := mul_i_len (1 + k % 8)
  unfold word4
  split
  · refine isWord_iff.mpr ⟨by rw [Str.length_append, math_len]; omega, by rw [Str.length_append, math_len]; omega, fun hk => keys_noi _ hk ?_, fun x hx => ?_⟩
    · show 105 ∈ cs _
      rw [cs_app]
      exact List.mem_append_right _ hi
    · rw [cs_app] at hx
      exact (List.mem_append.mp hx).elim (math_codes x) (hc x)
  · split
    · refine isWord_iff.mpr ⟨by rw [Str.length_append, art_len]; omega, by rw [Str.length_append, art_len]; omega, fun hk => keys_noi _ hk ?_, fun x hx => ?_⟩
      · show 105 ∈ cs _
        rw [cs_app]
        exact List.mem_append_left _ hi
      · rw [cs_app] at hx
        exact (List.mem_append.mp hx).elim (hc x) (art_codes x)
    · split
      · exact eight_ok _ (eight_mem k).1
      · exact word1_ok c k
theorem word4_inj {c i j : Int} (h0 : 0 ≤ i) (h1 : i < 8) (h2 : 0 ≤ j) (h3 : j < 8) (e : word4 c i = word4 c j) : i = j := by
  unfold word4 at e
  split at e
  · have := congrArg Str.length e
    rw [Str.length_append, Str.length_append, mul_i_len, mul_i_len] at this
    omega
  · split at e
    · have := congrArg Str.length e
      rw [Str.length_append, Str.length_append, mul_i_len, mul_i_len] at this
      omega
    · split at e
      · have := eight_inj ⟨(i % 8).toNat, by omega⟩ ⟨(j % 8).toNat, by omega⟩ e
        have := congrArg Fin.val this
        simp only at this
        omega
      · exact word1_inj h0 h1 h2 h3 e
end CN
namespace CF
open PySem L2 L3 L4 CW
structure Fr where
  p : Addr
  xs : List V
  rs : List Rule
structure FrOk (K : PySem.W.Frag) (D H : Hp) (f : Fr) : Prop where
  at_ : H f.p = some (.lst f.xs)
  out : D f.p = none
  data : DataAll K D f.xs (Rule.datas f.rs)
structure Frs (K : PySem.W.Frag) (D H : Hp) (F : Addr) (fs : List Fr) : Prop where
  top : H F = some (.lst (fs.map fun f => .ref f.p))
  out : D F = none
  each : ∀ f ∈ fs, FrOk K D H f
  nd : (fs.map (·.p)).Nodup
  nf : ∀ f ∈ fs, f.p ≠ F
theorem FrOk.len {K : PySem.W.Frag} {D H : Hp} {f : Fr} (h : FrOk K D H f) : f.xs.length = f.rs.length := by
  have := DataAll.length h.data
  rw [Rule.datas_map, List.length_map] at this
  exact this
theorem Frs.gr {K : PySem.W.Frag} {D H D' H' : Hp} {F : Addr} {fs : List Fr} (h : Frs K D H F fs) (g : Gr D H D' H') : Frs K D' H' F fs :=
  ⟨g.hh _ _ h.top, g.nw _ _ h.top h.out, fun f hf => ⟨g.hh _ _ (h.each f hf).at_, g.nw _ _ (h.each f hf).at_ (h.each f hf).out, DataAll.up (h.each f hf).data g.dd⟩, h.nd, h.nf⟩
theorem Frs.set {K : PySem.W.Frag} {D H : Hp} {F : Addr} {fs : List Fr} {t : Fr} (h : Frs K D H F (fs ++ [t])) (xs : List V) (rs : List Rule) (hx : DataAll K D xs (Rule.datas rs)) : Frs K D (upd H t.p (.lst xs)) F (fs ++ [⟨t.p, xs, rs⟩]) := by
  have ht : t ∈ fs ++ [t] := List.mem_append_right _ (List.mem_singleton.mpr rfl)
  have hnd := h.nd
  rw [List.map_append] at hnd
  refine ⟨?_, h.out, fun f hf => ?_, by rw [List.map_append]; exact hnd, fun f hf => ?_⟩
  · rw [upd_ne (h.nf t ht).symm, h.top, List.map_append, List.map_append]
    rfl
  · rcases List.mem_append.mp hf with hf | hf
    · have := h.each f (List.mem_append_left _ hf)
      refine ⟨?_, this.out, this.data⟩
      rw [upd_ne]
      · exact this.at_
      · intro e
        exact (List.nodup_append.mp hnd).2.2 f.p (List.mem_map.mpr ⟨f, hf, rfl⟩) t.p (List.mem_singleton.mpr rfl) e
    · rw [List.mem_singleton.mp hf]
      exact ⟨upd_same, (h.each t ht).out, hx⟩
  · rcases List.mem_append.mp hf with hf | hf
    · exact h.nf f (List.mem_append_left _ hf)
    · rw [List.mem_singleton.mp hf]
      exact h.nf t ht
theorem Frs.push {K : PySem.W.Frag} {D H : Hp} {F : Addr} {fs : List Fr} (h : Frs K D H F fs) {p : Addr} (hp : H p = none) (hD : D p = none) :
    Frs K D (upd (upd H p (.lst [])) F (.lst (fs.map (fun f => V.ref f.p) ++ [.ref p]))) F (fs ++ [⟨p, [], []⟩]) := by
  have hF : F ≠ p := fun e => by rw [← e, h.top] at hp; cases hp
  refine ⟨?_, h.out, fun f hf => ?_, ?_, fun f hf => ?_⟩
  · rw [upd_same, List.map_append]
    rfl
  · rcases List.mem_append.mp hf with hf | hf
    · have := h.each f hf
      exact ⟨by rw [upd_ne (h.nf f hf), upd_ne (ne_of_none this.at_ hp)]; exact this.at_, this.out, this.data⟩
    · rw [List.mem_singleton.mp hf]
      exact ⟨by rw [upd_ne hF.symm]; exact upd_same, hD, by unfold Rule.datas; exact DataAll.nil⟩
  · rw [List.map_append]
    refine List.nodup_append.mpr ⟨h.nd, List.nodup_cons.mpr ⟨(fun z => nomatch z), List.nodup_nil⟩, fun x hx y hy e => ?_⟩
    rw [List.mem_singleton.mp hy] at e
    obtain ⟨f, hf, rfl⟩ := List.mem_map.mp hx
    have := (h.each f hf).at_
    rw [e, hp] at this
    cases this
  · rcases List.mem_append.mp hf with hf | hf
    · exact h.nf f hf
    · rw [List.mem_singleton.mp hf]
      exact hF.symm
theorem Frs.pop {K : PySem.W.Frag} {D H : Hp} {F : Addr} {fs : List Fr} {t : Fr} (h : Frs K D H F (fs ++ [t])) : Frs K D (upd H F (.lst (fs.map fun f => .ref f.p))) F fs := by
  have hnd := h.nd
  rw [List.map_append] at hnd
  refine ⟨upd_same, h.out, fun f hf => ?_, (List.nodup_append.mp hnd).1, fun f hf => h.nf f (List.mem_append_left _ hf)⟩
  have := h.each f (List.mem_append_left _ hf)
  exact ⟨by rw [upd_ne (h.nf f (List.mem_append_left _ hf))]; exact this.at_, this.out, this.data⟩
structure Ext (D H D' H' : Hp) (S : List Addr) : Prop where
  dd : Same D D'
  keep : ∀ a o, a ∉ S → H a = some o → H' a = some o ∧ (D a = none → D' a = none)
theorem Ext.gr {D0 H0 D H D' H' : Hp} {S : List Addr} (g : Gr D0 H0 D H) (e : Ext D H D' H' S) (s : Same D' H') (hS : ∀ a ∈ S, H0 a = none) : Gr D0 H0 D' H' :=
  ⟨g.dd.trans e.dd, fun a o h => (e.keep a o (fun z => by rw [hS a z] at h; cases h) (g.hh a o h)).1, s, fun a o h n => (e.keep a o (fun z => by rw [hS a z] at h; cases h) (g.hh a o h)).2 (g.nw a o h n)⟩
structure FNum (fs : List Fr) (n : Nat) : Prop where
  good : ∀ f ∈ fs, Rule.Goods f.rs ∧ f.rs.length ≤ 16
  deep : ∀ (j : Nat) (f : Fr), fs[j]? = some f → Rule.depths f.rs + j ≤ 5 ∧ (j + 1 < fs.length → f.rs.length ≤ 15)
  sum : (fs.map fun f => (Rule.leavess f.rs).length).sum = n
  few : n ≤ 16
  len : fs.length ≤ 6
theorem FNum.nil : FNum [⟨p, [], []⟩] 0 := by
  refine ⟨fun f hf => ?_, fun j f hf => ?_, ?_, by decide, by show 1 ≤ 6; decide⟩
  · rw [List.mem_singleton.mp hf]
    exact ⟨by unfold Rule.Goods; trivial, by show 0 ≤ 16; decide⟩
  · cases j with
    | zero =>
      have := Option.some.inj hf
      subst this
      exact ⟨by unfold Rule.depths; decide, fun _ => by show 0 ≤ 15; decide⟩
    | succ j => cases hf
  · show (Rule.leavess []).length + 0 = 0
    unfold Rule.leavess
    rfl
theorem get_snoc {α : Type} {l : List α} {x y : α} {j : Nat} (h : (l ++ [x])[j]? = some y) : (j < l.length ∧ l[j]? = some y) ∨ (j = l.length ∧ y = x) := by
  by_cases hj : j < l.length
  · rw [List.getElem?_append_left hj] at h
    exact .inl ⟨hj, h⟩
  · rw [List.getElem?_append_right (by omega)] at h
    have hlt := (List.getElem?_eq_some_iff.mp h).1
    rw [List.length_singleton] at hlt
    have e : j - l.length = 0 := by omega
    rw [e] at h
    exact .inr ⟨by omega, (Option.some.inj h).symm⟩
theorem snoc_at {α : Type} (l : List α) (x : α) : (l ++ [x])[l.length]? = some x := by
  rw [List.getElem?_append_right (Nat.le_refl _), Nat.sub_self]
  rfl
theorem FNum.push {fs : List Fr} {t : Fr} {n : Nat} {p : Addr} (h : FNum (fs ++ [t]) n) (h6 : (fs ++ [t]).length < 6) (h16 : t.rs.length < 16) : FNum ((fs ++ [t]) ++ [⟨p, [], []⟩]) n := by
  refine ⟨fun f hf => ?_, fun j f hf => ?_, ?_, h.few, ?_⟩
  · rcases List.mem_append.mp hf with hf | hf
    · exact h.good f hf
    · rw [List.mem_singleton.mp hf]
      exact ⟨by unfold Rule.Goods; trivial, by show 0 ≤ 16; decide⟩
  · rcases get_snoc hf with ⟨hj, hf⟩ | ⟨rfl, rfl⟩
    · refine ⟨(h.deep j f hf).1, fun _ => ?_⟩
      rcases get_snoc hf with ⟨hj', hf'⟩ | ⟨_, rfl⟩
      · exact (h.deep j f hf).2 (by rw [List.length_append, List.length_singleton]; omega)
      · omega
    · refine ⟨?_, fun z => ?_⟩
      · show Rule.depths [] + _ ≤ 5
        unfold Rule.depths
        omega
      · show 0 ≤ 15
        decide
  · rw [List.map_append, List.sum_append, h.sum]
    show n + ((Rule.leavess []).length + 0) = n
    unfold Rule.leavess
    rfl
  · rw [List.length_append, List.length_singleton]
    omega
theorem goods_app {rs : List Rule} {r : Rule} (h : Rule.Goods rs) (k : r.Good) : Rule.Goods (rs ++ [r]) := Rule.goods_iff.mpr fun x hx => by
  rcases List.mem_append.mp hx with z | z
  · exact Rule.goods_iff.mp h x z
  · rw [List.mem_singleton.mp z]; exact k
theorem depths_app {n : Nat} {rs : List Rule} {r : Rule} (h : Rule.depths rs ≤ n) (k : r.depth ≤ n) : Rule.depths (rs ++ [r]) ≤ n := Rule.depths_le fun x hx => by
  rcases List.mem_append.mp hx with z | z
  · exact Nat.le_trans (Rule.depths_mem z) h
  · rw [List.mem_singleton.mp z]; exact k
theorem FNum.leaf {fs : List Fr} {t : Fr} {n : Nat} {xs : List V} {l : Leaf} (h : FNum (fs ++ [t]) n) (hn : n < 16) (h16 : t.rs.length < 16) (hl : l.Good) : FNum (fs ++ [⟨t.p, xs, t.rs ++ [.leaf l]⟩]) (n + 1) := by
  have ht : t ∈ fs ++ [t] := List.mem_append_right _ (List.mem_singleton.mpr rfl)
  have hle : (Rule.leaf l).Good := by unfold Rule.Good; exact hl
  have hld : (Rule.leaf l).depth = 0 := by unfold Rule.depth; rfl
  refine ⟨fun f hf => ?_, fun j f hf => ?_, ?_, by omega, ?_⟩
  · rcases List.mem_append.mp hf with hf | hf
    · exact h.good f (List.mem_append_left _ hf)
    · rw [List.mem_singleton.mp hf]
      refine ⟨goods_app (h.good t ht).1 hle, ?_⟩
      show (t.rs ++ [_]).length ≤ 16
      rw [List.length_append, List.length_singleton]
      omega
  · rcases get_snoc hf with ⟨hj, hf⟩ | ⟨rfl, rfl⟩
    · have := h.deep j f (by rw [List.getElem?_append_left hj]; exact hf)
      rw [List.length_append, List.length_singleton] at this ⊢
      exact this
    · have := h.deep fs.length t (snoc_at fs t)
      refine ⟨?_, fun z => ?_⟩
      · have := depths_app (r := .leaf l) (Nat.le_sub_of_add_le this.1) (by omega)
        have := h.len
        rw [List.length_append, List.length_singleton] at this
        show Rule.depths (t.rs ++ [Rule.leaf l]) + fs.length ≤ 5
        omega
      · rw [List.length_append, List.length_singleton] at z
        omega
  · have e := h.sum
    rw [List.map_append, List.sum_append] at e ⊢
    show _ + ((Rule.leavess (t.rs ++ [.leaf l])).length + 0) = n + 1
    rw [Rule.leavess_app, Rule.leavess_one, List.length_append]
    have e' : _ + ((Rule.leavess t.rs).length + 0) = n := e
    show _ + ((Rule.leavess t.rs).length + (Rule.leaf l).leaves.length + 0) = n + 1
    unfold Rule.leaves
    show _ + ((Rule.leavess t.rs).length + 1 + 0) = n + 1
    omega
  · have := h.len
    rw [List.length_append, List.length_singleton] at this ⊢
    exact this
theorem FNum.drop {fs : List Fr} {g t : Fr} {n : Nat} {xs : List V} (h : FNum (fs ++ [g, t]) n) (ht : t.rs = []) : FNum (fs ++ [⟨g.p, xs, g.rs⟩]) n := by
  have hg : g ∈ fs ++ [g, t] := List.mem_append_right _ (List.mem_cons_self ..)
  have hgj : (fs ++ [g, t])[fs.length]? = some g := by rw [List.getElem?_append_right (Nat.le_refl _), Nat.sub_self]; rfl
  refine ⟨fun f hf => ?_, fun j f hf => ?_, ?_, h.few, ?_⟩
  · rcases List.mem_append.mp hf with hf | hf
    · exact h.good f (List.mem_append_left _ hf)
    · rw [List.mem_singleton.mp hf]
      exact h.good g hg
  · rcases get_snoc hf with ⟨hj, hf⟩ | ⟨rfl, rfl⟩
    · have := h.deep j f (by rw [List.getElem?_append_left hj]; exact hf)
      exact ⟨this.1, fun _ => this.2 (by rw [List.length_append]; show j + 1 < fs.length + 2; omega)⟩
    · exact ⟨(h.deep _ g hgj).1, fun z => by rw [List.length_append, List.length_singleton] at z; omega⟩
  · have e := h.sum
    rw [List.map_append, List.sum_append] at e ⊢
    have e' : _ + ((Rule.leavess g.rs).length + ((Rule.leavess t.rs).length + 0)) = n := e
    rw [ht, show Rule.leavess [] = [] by unfold Rule.leavess; rfl] at e'
    exact e'
  · have := h.len
    rw [List.length_append] at this ⊢
    simp only [List.length_cons, List.length_nil] at this ⊢
    omega
theorem FNum.close {fs : List Fr} {g t : Fr} {n : Nat} {xs : List V} {r : Rule} (h : FNum (fs ++ [g, t]) n) (hr : r.Good) (hd : r.depth = Rule.depths t.rs + 1) (hl : r.leaves = Rule.leavess t.rs) : FNum (fs ++ [⟨g.p, xs, g.rs ++ [r]⟩]) n := by
  have hg : g ∈ fs ++ [g, t] := List.mem_append_right _ (List.mem_cons_self ..)
  have hgj : (fs ++ [g, t])[fs.length]? = some g := by rw [List.getElem?_append_right (Nat.le_refl _), Nat.sub_self]; rfl
  have htj : (fs ++ [g, t])[fs.length + 1]? = some t := by rw [List.getElem?_append_right (by omega)]; rw [show fs.length + 1 - fs.length = 1 by omega]; rfl
  have d1 := h.deep _ g hgj
  have d2 := h.deep _ t htj
  have d3 := d1.2 (by rw [List.length_append]; show fs.length + 1 < fs.length + 2; omega)
  refine ⟨fun f hf => ?_, fun j f hf => ?_, ?_, h.few, ?_⟩
  · rcases List.mem_append.mp hf with hf | hf
    · exact h.good f (List.mem_append_left _ hf)
    · rw [List.mem_singleton.mp hf]
      refine ⟨goods_app (h.good g hg).1 hr, ?_⟩
      show (g.rs ++ [_]).length ≤ 16
      rw [List.length_append, List.length_singleton]
      omega
  · rcases get_snoc hf with ⟨hj, hf⟩ | ⟨rfl, rfl⟩
    · have := h.deep j f (by rw [List.getElem?_append_left hj]; exact hf)
      exact ⟨this.1, fun _ => this.2 (by rw [List.length_append]; show j + 1 < fs.length + 2; omega)⟩
    · refine ⟨?_, fun z => by rw [List.length_append, List.length_singleton] at z; omega⟩
      have := depths_app (n := 5 - fs.length) (rs := g.rs) (r := r) (by omega) (by omega)
      show Rule.depths (g.rs ++ [r]) + fs.length ≤ 5
      omega
  · have e := h.sum
    rw [List.map_append, List.sum_append] at e ⊢
    have e' : _ + ((Rule.leavess g.rs).length + ((Rule.leavess t.rs).length + 0)) = n := e
    show _ + ((Rule.leavess (g.rs ++ [r])).length + 0) = n
    rw [Rule.leavess_app, Rule.leavess_one, List.length_append, hl]
    omega
  · have := h.len
    rw [List.length_append] at this ⊢
    simp only [List.length_cons, List.length_nil] at this ⊢
    omega
end CF
namespace CF
open PySem L2 L3 L4 CW
mutual
def small : PyData → Prop
  | .list ds => ds.length ≤ 1000 ∧ smalls ds
  | .tuple ds => ds.length ≤ 1000 ∧ smalls ds
  | _ => True
def smalls : List PyData → Prop
  | [] => True
  | d :: ds => small d ∧ smalls ds
end
theorem smalls_iff : ∀ {ds : List PyData}, smalls ds ↔ ∀ d ∈ ds, small d
  | [] => by unfold smalls; exact ⟨fun _ d h => (nomatch h), fun _ => trivial⟩
  | d :: ds => by
    unfold smalls
    rw [smalls_iff (ds := ds)]
    exact ⟨fun h x hx => (List.mem_cons.mp hx).elim (fun e => e ▸ h.1) (h.2 x), fun h => ⟨h d (List.mem_cons_self ..), fun x hx => h x (List.mem_cons_of_mem _ hx)⟩⟩
theorem small_list {ds : List PyData} (h : small (.list ds)) : ds.length ≤ 1000 ∧ ∀ d ∈ ds, small d := by
  unfold small at h
  exact ⟨h.1, smalls_iff.mp h.2⟩
theorem small_tuple {ds : List PyData} (h : small (.tuple ds)) : ds.length ≤ 1000 ∧ ∀ d ∈ ds, small d := by
  unfold small at h
  exact ⟨h.1, smalls_iff.mp h.2⟩
theorem mk_list {ds : List PyData} (h : ds.length ≤ 1000) (k : ∀ d ∈ ds, small d) : small (.list ds) := by
  unfold small
  exact ⟨h, smalls_iff.mpr k⟩
theorem mk_tuple {ds : List PyData} (h : ds.length ≤ 1000) (k : ∀ d ∈ ds, small d) : small (.tuple ds) := by
  unfold small
  exact ⟨h, smalls_iff.mpr k⟩
theorem small_str (t : Str) : small (.str t) := by unfold small; trivial
theorem small_int (t : Int) : small (.int t) := by unfold small; trivial
theorem depthAll_mem {d : PyData} : ∀ {ds : List PyData}, d ∈ ds → d.depth ≤ PyData.depthAll ds
  | x :: r, h => by
    show _ ≤ max x.depth (PyData.depthAll r)
    rcases List.mem_cons.mp h with rfl | h
    · exact Nat.le_max_left _ _
    · exact Nat.le_trans (depthAll_mem h) (Nat.le_max_right _ _)
theorem depth_mem {d : PyData} {ds : List PyData} {n : Nat} (h : d ∈ ds) (k : PyData.depthAll ds + 1 < n + 1) : d.depth < n := by
  have := depthAll_mem h
  omega
theorem small_strs {ss : List Str} (h : ss.length ≤ 1000) : small (.list (ss.map .str)) := mk_list (by rw [List.length_map]; exact h) fun d hd => by
  obtain ⟨t, _, rfl⟩ := List.mem_map.mp hd
  exact small_str t
theorem Leaf.small {l : Leaf} (h : l.words.length ≤ 1000) : CF.small l.data := by
  cases l with
  | frm n ws a b c =>
    refine mk_tuple (ds := [.str "from", .int n, .list (ws.map .str), .int a, .int b, .int c]) (by simp) fun d hd => ?_
    simp only [List.mem_cons, List.not_mem_nil, or_false] at hd
    rcases hd with rfl | rfl | rfl | rfl | rfl | rfl
    · exact small_str _
    · exact small_int _
    · exact small_strs h
    · exact small_int _
    · exact small_int _
    · exact small_int _
  | off n ws b c =>
    refine mk_tuple (ds := [.str "of", .int n, .list (ws.map .str), .int b, .int c]) (by simp) fun d hd => ?_
    simp only [List.mem_cons, List.not_mem_nil, or_false] at hd
    rcases hd with rfl | rfl | rfl | rfl | rfl
    · exact small_str _
    · exact small_int _
    · exact small_strs h
    · exact small_int _
    · exact small_int _
theorem Leaf.Good.few {l : Leaf} (h : l.Good) : l.words.length ≤ 8 := by
  cases l with
  | frm n ws a b c => exact h.1.2.2
  | off n ws b c => exact h.1.2.2
theorem Leaf.Good.small {l : Leaf} (h : l.Good) : CF.small l.data := Leaf.small (Nat.le_trans h.few (by decide))
mutual
theorem Rule.small : ∀ {r : Rule}, r.Good → CF.small r.data
  | .leaf l, h => by unfold Rule.data; unfold Rule.Good at h; exact Leaf.Good.small h
  | .allr rs, h => by
    unfold Rule.data
    unfold Rule.Good at h
    have e := Rule.smalls h.2.2
    have hl := h.2.1
    refine mk_tuple (ds := [.str "all", .list (Rule.datas rs)]) (by simp) fun d hd => ?_
    simp only [List.mem_cons, List.not_mem_nil, or_false] at hd
    rcases hd with rfl | rfl
    · exact small_str _
    · exact mk_list (by rw [Rule.datas_map, List.length_map]; omega) e
  | .somr n rs, h => by
    unfold Rule.data
    unfold Rule.Good at h
    have e := Rule.smalls h.2.2
    have hl := h.2.1
    refine mk_tuple (ds := [.str "some", .int n, .list (Rule.datas rs)]) (by simp) fun d hd => ?_
    simp only [List.mem_cons, List.not_mem_nil, or_false] at hd
    rcases hd with rfl | rfl | rfl
    · exact small_str _
    · exact small_int _
    · exact mk_list (by rw [Rule.datas_map, List.length_map]; omega) e
theorem Rule.smalls : ∀ {rs : List Rule}, Rule.Goods rs → ∀ d ∈ Rule.datas rs, CF.small d
  | [], _, d, hd => by unfold Rule.datas at hd; exact nomatch hd
  | r :: rs, h, d, hd => by
    unfold Rule.datas at hd
    unfold Rule.Goods at h
    rcases List.mem_cons.mp hd with rfl | hd
    · exact Rule.small h.1
    · exact Rule.smalls h.2 d hd
end
theorem Course.Good.small {c : Course} (h : c.Good) : CF.small c.data := by
  refine mk_tuple (ds := [.list (c.oftens.map oftD), c.rule.data]) (by simp) fun d hd => ?_
  simp only [List.mem_cons, List.not_mem_nil, or_false] at hd
  rcases hd with rfl | rfl
  · refine mk_list (by rw [List.length_map]; exact Nat.le_trans h.few (by decide)) fun d hd => ?_
    obtain ⟨p, _, rfl⟩ := List.mem_map.mp hd
    refine mk_tuple (ds := [.str p.1, .int p.2]) (by simp) fun d hd => ?_
    simp only [List.mem_cons, List.not_mem_nil, or_false] at hd
    rcases hd with rfl | rfl
    · exact small_str _
    · exact small_int _
  · exact Rule.small h.rule
end CF
namespace CF
open PySem L2 L3 L4 CW
end CF
namespace CT
open PySem L2 L3 L4 CW CF
def readNum (t : Str) (lo hi : Int) : Option Int := if isNum t = true then (if valOf t < lo ∨ hi < valOf t then none else some (valOf t)) else none
def ahead : List Str → List Str
  | o :: w :: r => if o = "or" then w :: ahead r else []
  | _ => []
def wordsAhead : List Str → List Str
  | [] => []
  | p :: r => p :: ahead r
def leftOut (k : Str) : Int := if k = "worth" then 1 else 0
def mostOf (k : Str) : Int := if k = "worth" then 9 else 999999999999999999999999999999999999999999999999999999999999
def vals : List Str → List Str → List (Option Int)
  | [], _ => []
  | k :: ks, [] => some (leftOut k) :: vals ks []
  | k :: ks, [p] => some (leftOut k) :: vals ks [p]
  | k :: ks, p :: v :: r => if p = k then readNum v (leftOut k + 1) (mostOf k) :: vals ks r else some (leftOut k) :: vals ks (p :: v :: r)
def rest : List Str → List Str → List Str
  | [], ps => ps
  | _ :: ks, [] => rest ks []
  | _ :: ks, [p] => rest ks [p]
  | k :: ks, p :: v :: r => if p = k then rest ks r else rest ks (p :: v :: r)
def readValues (ks ps : List Str) : Option (List Int) := if rest ks ps = [] ∧ none ∉ vals ks ps then some ((vals ks ps).map fun o => o.getD 0) else none
def keysOf (kind : Str) : Option (List Str) := if kind = "from" then some ["level", "mark", "worth"] else if kind = "of" then some ["mark", "worth"] else none
def areWords (ws : List Str) : Bool := decide (ws.length ≤ 8) && (decide ws.Nodup && ws.all isWord)
def leafOf (k : Str) (n : Int) (ws : List Str) : List Int → Option Leaf
  | [a, b, c] => if k = "from" then some (.frm n ws a b c) else none
  | [b, c] => if k = "from" then none else some (.off n ws b c)
  | _ => none
def anyOf (k : Str) (ws : List Str) : List Str := if k = "from" ∧ ws = (["any"] : List Str) then [] else ws
def readLeaf : List Str → Option Leaf
  | a :: k :: p :: r =>
    match keysOf k with
    | none => none
    | some ks =>
      match readNum a 0 60, readValues ks ((p :: r).drop (2 * (wordsAhead (p :: r)).length - 1)) with
      | some n, some vs => if areWords (anyOf k (wordsAhead (p :: r))) = true then leafOf k n (anyOf k (wordsAhead (p :: r))) vs else none
      | _, _ => none
  | _ => none
inductive GHead where
  | all
  | some (n : Int)
def GHead.rule : GHead → List Rule → Rule
  | .all, rs => .allr rs
  | .some n, rs => .somr n rs
def GHead.least : GHead → Int
  | .all => 1
  | .some n => n
def readGroup (parts : List Str) : Option GHead :=
  if parts = (["all"] : List Str) then some .all
  else match parts with
    | [s, n, o] => if s = "some" ∧ o = "of" then (readNum n 1 16).map GHead.some else none
    | _ => none
structure Grp where
  head : GHead
  rules : List Rule
structure RS where
  oftens : List (Str × Int)
  stack : List Grp
  leaves : Nat
  rule : Option Rule
def RS.room (s : RS) : Bool := match s.stack with
  | [] => true
  | g :: _ => decide (g.rules.length < 16)
def RS.put (s : RS) (r : Rule) : RS := match s.stack with
  | [] => { s with rule := some r }
  | g :: gs => { s with stack := ⟨g.head, g.rules ++ [r]⟩ :: gs }
def RS.often (s : RS) (parts : List Str) : Option RS :=
  if s.stack ≠ [] ∨ s.oftens.length = 16 then none
  else match parts with
    | [_, n, f] => if isWord f = true then (match readNum n 1 9 with
        | none => none
        | some k => if f ∈ s.oftens.map (fun p => p.1) then none else some { s with oftens := s.oftens ++ [(f, k)] }) else none
    | _ => none
def RS.group (s : RS) : Option GHead → Option RS
  | none => none
  | some h => if s.stack.length = 6 ∨ s.room = false then none else some { s with stack := ⟨h, []⟩ :: s.stack }
def RS.fin (s : RS) : Option RS := match s.stack with
  | [] => none
  | g :: gs => if (g.rules.length : Int) < g.head.least then none else some (RS.put { s with stack := gs } (g.head.rule g.rules))
def RS.leaf (s : RS) : Option Leaf → Option RS
  | none => none
  | some l => if s.leaves = 16 ∨ s.room = false then none else some (RS.put { s with leaves := s.leaves + 1 } (.leaf l))
def RS.parts (s : RS) (parts : List Str) : Option RS :=
  if s.rule.isSome = true then none
  else if parts.head? = some ("often" : Str) then s.often parts
  else if parts.head? = some ("all" : Str) ∨ parts.head? = some ("some" : Str) then s.group (readGroup parts)
  else if parts = (["end"] : List Str) then s.fin
  else s.leaf (readLeaf parts)
def RS.take (s : RS) (row : Str) : Option RS := s.parts (PySem.Txt.split row " ")
def run : RS → List Str → Option RS
  | s, [] => some s
  | s, r :: rs => match s.take r with
    | none => none
    | some s' => run s' rs
def RS.new : RS := ⟨[], [], 0, none⟩
theorem ahead_len : ∀ r : List Str, 2 * (ahead r).length ≤ r.length
  | [] => by unfold ahead; simp
  | [_] => by unfold ahead; simp
  | o :: w :: r => by
    have := ahead_len r
    unfold ahead
    split
    · simp only [List.length_cons]; omega
    · simp
def oV : Option Int → V
  | none => .non
  | some n => .int n
theorem flat_oV (l : List (Option Int)) : (l.map oV).all flatV = true := by
  induction l with
  | nil => rfl
  | cons a l ih =>
    rw [List.map_cons, List.all_cons, ih]
    cases a <;> rfl
theorem in_oV (l : List (Option Int)) : inV .non (l.map oV) = decide (none ∈ l) := by
  induction l with
  | nil => rfl
  | cons a l ih =>
    unfold inV at ih ⊢
    rw [List.map_cons, List.any_cons, ih]
    cases a with
    | none => simp [oV, eqV]
    | some n => simp [oV, eqV]
end CT
namespace CT
open PySem L2 L3 L4 CW CF
theorem eqv_strs : ∀ xs ys : List Str, PyData.eqv (.list (xs.map .str)) (.list (ys.map .str)) = decide (xs = ys)
  | [], [] => rfl
  | [], _ :: _ => rfl
  | _ :: _, [] => rfl
  | x :: xs, y :: ys => by
    have ih : PyData.eqvAll (xs.map .str) (ys.map .str) = decide (xs = ys) := eqv_strs xs ys
    show (x == y && PyData.eqvAll (xs.map .str) (ys.map .str)) = _
    rw [ih, Bool.eq_iff_iff]
    simp [List.cons.injEq]
theorem left_at {k : Str} (h : k ∈ (["level", "mark", "worth"] : List Str)) : PyProof.Rows.KTD.datumAt k ([("level", V.int 0), ("mark", V.int 0), ("worth", V.int 1)] : List (Str × V)) = some (V.int (leftOut k)) := by
  have n1 : ("mark" : Str) ≠ "level" := by decide +kernel
  have n2 : ("worth" : Str) ≠ "level" := by decide +kernel
  have n3 : ("worth" : Str) ≠ "mark" := by decide +kernel
  have n4 : ("level" : Str) ≠ "worth" := by decide +kernel
  have n5 : ("mark" : Str) ≠ "worth" := by decide +kernel
  simp only [List.mem_cons, List.not_mem_nil, or_false] at h
  unfold leftOut
  rcases h with rfl | rfl | rfl
  · simp [PyProof.Rows.KTD.datumAt, n4]
  · simp [PyProof.Rows.KTD.datumAt, n1, n5]
  · simp [PyProof.Rows.KTD.datumAt, n2, n3]
theorem most_at {k : Str} (h : k ∈ (["level", "mark", "worth"] : List Str)) : PyProof.Rows.KTD.datumAt k ([("level", V.int 999999999999999999999999999999999999999999999999999999999999), ("mark", V.int 999999999999999999999999999999999999999999999999999999999999), ("worth", V.int 9)] : List (Str × V)) = some (V.int (mostOf k)) := by
  have n1 : ("mark" : Str) ≠ "level" := by decide +kernel
  have n2 : ("worth" : Str) ≠ "level" := by decide +kernel
  have n3 : ("worth" : Str) ≠ "mark" := by decide +kernel
  have n4 : ("level" : Str) ≠ "worth" := by decide +kernel
  have n5 : ("mark" : Str) ≠ "worth" := by decide +kernel
  simp only [List.mem_cons, List.not_mem_nil, or_false] at h
  unfold mostOf
  rcases h with rfl | rfl | rfl
  · simp [PyProof.Rows.KTD.datumAt, n4]
  · simp [PyProof.Rows.KTD.datumAt, n1, n5]
  · simp [PyProof.Rows.KTD.datumAt, n2, n3]
theorem vals_hit {k p v : Str} {ks r : List Str} (h : p = k) : vals (k :: ks) (p :: v :: r) = readNum v (leftOut k + 1) (mostOf k) :: vals ks r ∧ rest (k :: ks) (p :: v :: r) = rest ks r := by
  constructor
  · rw [vals, if_pos h]
  · rw [rest, if_pos h]
theorem vals_miss {k : Str} {ks ps : List Str} (h : ¬ (1 < ps.length ∧ ps.head? = some k)) : vals (k :: ks) ps = some (leftOut k) :: vals ks ps ∧ rest (k :: ks) ps = rest ks ps := by
  match ps with
  | [] => exact ⟨by rw [vals], by rw [rest]⟩
  | [p] => exact ⟨by rw [vals], by rw [rest]⟩
  | p :: v :: r =>
    have hn : p ≠ k := fun z => h ⟨by simp, by rw [z]; rfl⟩
    exact ⟨by rw [vals, if_neg hn], by rw [rest, if_neg hn]⟩
theorem ahead_more {o w : Str} {r : List Str} (h : o = "or") : ahead (o :: w :: r) = w :: ahead r := by rw [ahead, if_pos h]
theorem ahead_stop {r : List Str} (h : ¬ (1 < r.length ∧ r.head? = some ("or" : Str))) : ahead r = [] := by
  match r with
  | [] => rw [ahead]; intro _ _ _ z; cases z
  | [_] => rw [ahead]; intro _ _ _ z; cases z
  | o :: w :: r =>
    have hn : o ≠ "or" := fun z => h ⟨by simp, by rw [z]; rfl⟩
    rw [ahead, if_neg hn]
theorem readGroup_none {ps : List Str} (h1 : ps ≠ (["all"] : List Str)) (h : ∀ x y z, ps = [x, y, z] → ¬ (x = "some" ∧ z = "of")) : readGroup ps = none := by
  unfold readGroup
  rw [if_neg h1]
  split
  · rw [if_neg (h _ _ _ rfl)]
  · rfl
theorem readGroup_some {x y z : Str} (hx : x = "some") (hz : z = "of") : readGroup [x, y, z] = (readNum y 1 16).map GHead.some := by
  unfold readGroup
  have hn : ¬ ([x, y, z] : List Str) = (["all"] : List Str) := fun e => by have := congrArg List.length e; simp at this
  rw [if_neg hn]
  show (if x = "some" ∧ z = "of" then _ else _) = _
  rw [if_pos ⟨hx, hz⟩]
theorem readGroup_all : readGroup ["all"] = some .all := by
  unfold readGroup
  rw [if_pos rfl]
theorem len3 {α : Type} : ∀ {l : List α}, l.length = 3 → ∃ x y z, l = [x, y, z]
  | [x, y, z], _ => ⟨x, y, z, rfl⟩
  | [], h => by cases h
  | [_], h => by cases h
  | [_, _], h => by cases h
  | _ :: _ :: _ :: _ :: _, h => by simp at h
theorem len2 {α : Type} : ∀ {l : List α}, l.length = 2 → ∃ x y, l = [x, y]
  | [x, y], _ => ⟨x, y, rfl⟩
  | [], h => by cases h
  | [_], h => by cases h
  | _ :: _ :: _ :: _, h => by simp at h
end CT
namespace CT
open PySem L2 L3 L4 CW CF
def ghV : GHead → List V
  | .all => [.str "all"]
  | .some n => [.str "some", .int n]
theorem gh_head (g : GHead) (rs : List Rule) : (g.rule rs).head = ghV g := by cases g <;> rfl
theorem gh_leaf (g : GHead) (rs : List Rule) : (g.rule rs).isLeaf = false := by cases g <;> rfl
theorem gh_rules (g : GHead) (rs : List Rule) : (g.rule rs).rules = rs := by cases g <;> rfl
def rf (po pg : Addr) (n : Nat) (v : V) : List (Str × V) := [("oftens", .ref po), ("groups", .ref pg), ("leaves", .int (n : Nat)), ("rule", v)]
theorem nm1 : ("groups" : Str) ≠ "oftens" ∧ ("leaves" : Str) ≠ "oftens" ∧ ("leaves" : Str) ≠ "groups" ∧ ("rule" : Str) ≠ "oftens" ∧ ("rule" : Str) ≠ "groups" ∧ ("rule" : Str) ≠ "leaves" := by decide +kernel
theorem lk_hit {k : Str} {v : V} {r : List (Str × V)} : List.lookup k ((k, v) :: r) = some v := by
  rw [List.lookup_cons, beq_self_eq_true]
theorem lk_miss {k x : Str} {v : V} {r : List (Str × V)} (h : k ≠ x) : List.lookup k ((x, v) :: r) = List.lookup k r := by
  rw [List.lookup_cons, beq_eq_false_iff_ne.mpr h]
theorem rf_o {po pg : Addr} {n : Nat} {v : V} : (rf po pg n v).lookup ("oftens" : Str) = some (.ref po) := lk_hit
theorem rf_g {po pg : Addr} {n : Nat} {v : V} : (rf po pg n v).lookup ("groups" : Str) = some (.ref pg) := by
  unfold rf
  rw [lk_miss nm1.1, lk_hit]
theorem rf_l {po pg : Addr} {n : Nat} {v : V} : (rf po pg n v).lookup ("leaves" : Str) = some (.int (n : Nat)) := by
  unfold rf
  rw [lk_miss nm1.2.1, lk_miss nm1.2.2.1, lk_hit]
theorem rf_r {po pg : Addr} {n : Nat} {v : V} : (rf po pg n v).lookup ("rule" : Str) = some v := by
  unfold rf
  rw [lk_miss nm1.2.2.2.1, lk_miss nm1.2.2.2.2.1, lk_miss nm1.2.2.2.2.2, lk_hit]
def meths : List Str := ["take", "take_often", "take_group", "take_end", "take_leaf", "has_room", "put_rule"]
theorem meths_ne : ∀ m ∈ meths, m ≠ ("oftens" : Str) ∧ m ≠ "groups" ∧ m ≠ "leaves" ∧ m ≠ "rule" := by decide +kernel
theorem rf_m {po pg : Addr} {n : Nat} {v : V} {m : Str} (h : m ∈ meths) : (rf po pg n v).lookup m = none := by
  obtain ⟨h1, h2, h3, h4⟩ := meths_ne m h
  unfold rf
  rw [lk_miss h1, lk_miss h2, lk_miss h3, lk_miss h4]
  rfl
theorem putF_hit {k : Str} {v w : V} {r : List (Str × V)} : putF k w ((k, v) :: r) = (k, w) :: r := by
  rw [putF, if_pos rfl]
theorem putF_miss {k x : Str} {v w : V} {r : List (Str × V)} (h : k ≠ x) : putF k w ((x, v) :: r) = (x, v) :: putF k w r := by
  rw [putF, if_neg h.symm]
theorem putF_l {po pg : Addr} {n m : Nat} {v : V} : putF "leaves" (.int (m : Nat)) (rf po pg n v) = rf po pg m v := by
  unfold rf
  rw [putF_miss nm1.2.1, putF_miss nm1.2.2.1, putF_hit]
theorem putF_r {po pg : Addr} {n : Nat} {v w : V} : putF "rule" w (rf po pg n v) = rf po pg n w := by
  unfold rf
  rw [putF_miss nm1.2.2.2.1, putF_miss nm1.2.2.2.2.1, putF_miss nm1.2.2.2.2.2, putF_hit]
structure GFr where
  t : Addr
  p : Addr
  xs : List V
  g : Grp
structure GOk (K : PySem.W.Frag) (D H : Hp) (N : Addr → Prop) (f : GFr) : Prop where
  tup : H f.t = some (.tup (ghV f.g.head ++ [.ref f.p]))
  at_ : H f.p = some (.lst f.xs)
  outT : D f.t = none
  out : D f.p = none
  data : DataAll K D f.xs (Rule.datas f.g.rules)
  nt : N f.t
  np : N f.p
def RuleAt (K : PySem.W.Frag) (D : Hp) (N : Addr → Prop) (v : V) : Option Rule → Prop
  | none => v = .non
  | some r => DataAt K D v r.data ∧ (r.isLeaf = false → ∃ t p xs, v = .ref t ∧ D t = some (.tup (r.head ++ [.ref p])) ∧ D p = some (.lst xs) ∧ N p)
structure RdrAt (K : PySem.W.Frag) (C : Addr) (N : Addr → Prop) (D H : Hp) (x dx po pg : Addr) (xo : List V) (v : V) (gs : List GFr) (s : RS) : Prop where
  ins : H x = some (.ins C dx (rf po pg s.leaves v))
  oft : H po = some (.lst xo)
  oftD : DataAll K D xo (s.oftens.map oftD)
  grp : H pg = some (.lst ((gs.map fun f => V.ref f.t).reverse))
  each : ∀ f ∈ gs, GOk K D H N f
  stk : gs.map (fun f => f.g) = s.stack
  nd : (po :: pg :: gs.map fun f => f.p).Nodup
  rule : RuleAt K D N v s.rule
  ox : D x = none
  oo : D po = none
  og : D pg = none
  nx : N x
  no : N po
  ng : N pg
def radr (x po pg : Addr) (gs : List GFr) : List Addr := x :: po :: pg :: (gs.map (fun f => f.p) ++ gs.map fun f => f.t)
theorem RdrAt.gr {K : PySem.W.Frag} {C : Addr} {N : Addr → Prop} {D H D' H' : Hp} {x dx po pg : Addr} {xo : List V} {v : V} {gs : List GFr} {s : RS} (r : RdrAt K C N D H x dx po pg xo v gs s) (g : Gr D H D' H') : RdrAt K C N D' H' x dx po pg xo v gs s where
  ins := g.hh _ _ r.ins
  oft := g.hh _ _ r.oft
  oftD := DataAll.up r.oftD g.dd
  grp := g.hh _ _ r.grp
  each := fun f hf => ⟨g.hh _ _ (r.each f hf).tup, g.hh _ _ (r.each f hf).at_, g.nw _ _ (r.each f hf).tup (r.each f hf).outT, g.nw _ _ (r.each f hf).at_ (r.each f hf).out, DataAll.up (r.each f hf).data g.dd, (r.each f hf).nt, (r.each f hf).np⟩
  stk := r.stk
  nd := r.nd
  rule := by
    have h := r.rule
    cases e : s.rule with
    | none => rw [e] at h; exact h
    | some ru =>
      rw [e] at h
      obtain ⟨h1, h2⟩ := h
      refine ⟨DataAt.up h1 g.dd, fun z => ?_⟩
      obtain ⟨t, p, xs, e1, e2, e3, e4⟩ := h2 z
      exact ⟨t, p, xs, e1, g.dd _ _ e2, g.dd _ _ e3, e4⟩
  ox := g.nw _ _ r.ins r.ox
  oo := g.nw _ _ r.oft r.oo
  og := g.nw _ _ r.grp r.og
  nx := r.nx
  no := r.no
  ng := r.ng
theorem Ext.refl' {D H D' H' : Hp} {S : List Addr} (g : Gr D H D' H') : CF.Ext D H D' H' S := ⟨g.dd, fun a o _ e => ⟨g.hh a o e, g.nw a o e⟩⟩
theorem Ext.then {D H D1 H1 D2 H2 : Hp} {S S' : List Addr} (g : CF.Ext D H D1 H1 S) (h : CF.Ext D1 H1 D2 H2 S') (hS : ∀ a ∈ S', a ∈ S ∨ H a = none) : CF.Ext D H D2 H2 S :=
  ⟨g.dd.trans h.dd, fun a o hn e => by
    obtain ⟨e1, n1⟩ := g.keep a o hn e
    have hn' : a ∉ S' := fun z => (hS a z).elim hn fun z => by rw [z] at e; cases e
    obtain ⟨e2, n2⟩ := h.keep a o hn' e1
    exact ⟨e2, fun z => n2 (n1 z)⟩⟩
theorem mem_radr {x po pg : Addr} {gs : List GFr} : x ∈ radr x po pg gs ∧ po ∈ radr x po pg gs ∧ pg ∈ radr x po pg gs ∧ (∀ f ∈ gs, f.p ∈ radr x po pg gs ∧ f.t ∈ radr x po pg gs) := by
  unfold radr
  refine ⟨List.mem_cons_self .., List.mem_cons_of_mem _ (List.mem_cons_self ..), List.mem_cons_of_mem _ (List.mem_cons_of_mem _ (List.mem_cons_self ..)), fun f hf => ⟨?_, ?_⟩⟩
  · exact List.mem_cons_of_mem _ (List.mem_cons_of_mem _ (List.mem_cons_of_mem _ (List.mem_append_left _ (List.mem_map.mpr ⟨f, hf, rfl⟩))))
  · exact List.mem_cons_of_mem _ (List.mem_cons_of_mem _ (List.mem_cons_of_mem _ (List.mem_append_right _ (List.mem_map.mpr ⟨f, hf, rfl⟩))))
theorem Ext.set {D H : Hp} {a : Addr} {o : HO} {S : List Addr} (h : a ∈ S) : CF.Ext D H D (upd H a o) S := ⟨Same.refl _, fun b u hn e => ⟨by rw [upd_ne (fun z => hn (by rw [z]; exact h))]; exact e, id⟩⟩
end CT
namespace CT
open PySem L2 L3 L4 CW CF
section
variable {K : PySem.W.Frag} {C : Addr} {N : Addr → Prop} {D H : Hp} {x dx po pg : Addr} {xo : List V} {v : V} {gs : List GFr} {s : RS}
theorem RdrAt.x_po (r : RdrAt K C N D H x dx po pg xo v gs s) : x ≠ po := ne_of r.ins r.oft (fun z => nomatch z)
theorem RdrAt.x_pg (r : RdrAt K C N D H x dx po pg xo v gs s) : x ≠ pg := ne_of r.ins r.grp (fun z => nomatch z)
theorem RdrAt.x_p (r : RdrAt K C N D H x dx po pg xo v gs s) {f : GFr} (hf : f ∈ gs) : x ≠ f.p := ne_of r.ins (r.each f hf).at_ (fun z => nomatch z)
theorem RdrAt.x_t (r : RdrAt K C N D H x dx po pg xo v gs s) {f : GFr} (hf : f ∈ gs) : x ≠ f.t := ne_of r.ins (r.each f hf).tup (fun z => nomatch z)
theorem RdrAt.t_po (r : RdrAt K C N D H x dx po pg xo v gs s) {f : GFr} (hf : f ∈ gs) : f.t ≠ po := ne_of (r.each f hf).tup r.oft (fun z => nomatch z)
theorem RdrAt.t_pg (r : RdrAt K C N D H x dx po pg xo v gs s) {f : GFr} (hf : f ∈ gs) : f.t ≠ pg := ne_of (r.each f hf).tup r.grp (fun z => nomatch z)
theorem RdrAt.t_p (r : RdrAt K C N D H x dx po pg xo v gs s) {f g : GFr} (hf : f ∈ gs) (hg : g ∈ gs) : f.t ≠ g.p := ne_of (r.each f hf).tup (r.each g hg).at_ (fun z => nomatch z)
theorem RdrAt.po_pg (r : RdrAt K C N D H x dx po pg xo v gs s) : po ≠ pg := fun z => (List.nodup_cons.mp r.nd).1 (by rw [z]; exact List.mem_cons_self ..)
theorem RdrAt.p_po (r : RdrAt K C N D H x dx po pg xo v gs s) {f : GFr} (hf : f ∈ gs) : f.p ≠ po := fun z => (List.nodup_cons.mp r.nd).1 (by rw [← z]; exact List.mem_cons_of_mem _ (List.mem_map.mpr ⟨f, hf, rfl⟩))
theorem RdrAt.p_pg (r : RdrAt K C N D H x dx po pg xo v gs s) {f : GFr} (hf : f ∈ gs) : f.p ≠ pg := fun z => (List.nodup_cons.mp (List.nodup_cons.mp r.nd).2).1 (by rw [← z]; exact List.mem_map.mpr ⟨f, hf, rfl⟩)
theorem RdrAt.t_t {f g : GFr} (r : RdrAt K C N D H x dx po pg xo v (f :: gs) s) (hg : g ∈ gs) : g.t ≠ f.t := fun z => by
  have h1 := (r.each f (List.mem_cons_self ..)).tup
  have h2 := (r.each g (List.mem_cons_of_mem _ hg)).tup
  rw [z, h1] at h2
  have e := congrArg List.getLast? (HO.tup.inj (Option.some.inj h2))
  rw [List.getLast?_concat, List.getLast?_concat] at e
  have e' : f.p = g.p := V.ref.inj (Option.some.inj e)
  have h4 : (f.p :: gs.map fun f => f.p).Nodup := (List.nodup_cons.mp (List.nodup_cons.mp r.nd).2).2
  exact (List.nodup_cons.mp h4).1 (by rw [e']; exact List.mem_map.mpr ⟨g, hg, rfl⟩)
theorem RdrAt.field (r : RdrAt K C N D H x dx po pg xo v gs s) (n : Nat) (w : V) (ru : Option Rule) (h : RuleAt K D N w ru) : RdrAt K C N D (upd H x (.ins C dx (rf po pg n w))) x dx po pg xo w gs { s with leaves := n, rule := ru } where
  ins := upd_same
  oft := by rw [upd_ne r.x_po.symm]; exact r.oft
  oftD := r.oftD
  grp := by rw [upd_ne r.x_pg.symm]; exact r.grp
  each := fun f hf => ⟨by rw [upd_ne (r.x_t hf).symm]; exact (r.each f hf).tup, by rw [upd_ne (r.x_p hf).symm]; exact (r.each f hf).at_, (r.each f hf).outT, (r.each f hf).out, (r.each f hf).data, (r.each f hf).nt, (r.each f hf).np⟩
  stk := r.stk
  nd := r.nd
  rule := h
  ox := r.ox
  oo := r.oo
  og := r.og
  nx := r.nx
  no := r.no
  ng := r.ng
theorem RdrAt.often (r : RdrAt K C N D H x dx po pg xo v gs s) {y : V} {p : Str × Int} (h : DataAt K D y (CF.oftD p)) : RdrAt K C N D (upd H po (.lst (xo ++ [y]))) x dx po pg (xo ++ [y]) v gs { s with oftens := s.oftens ++ [p] } where
  ins := by rw [upd_ne r.x_po]; exact r.ins
  oft := upd_same
  oftD := by
    show DataAll K D (xo ++ [y]) ((s.oftens ++ [p]).map CF.oftD)
    rw [List.map_append]
    exact DataAll.snoc h r.oftD
  grp := by rw [upd_ne r.po_pg.symm]; exact r.grp
  each := fun f hf => ⟨by rw [upd_ne (r.t_po hf)]; exact (r.each f hf).tup, by rw [upd_ne (r.p_po hf)]; exact (r.each f hf).at_, (r.each f hf).outT, (r.each f hf).out, (r.each f hf).data, (r.each f hf).nt, (r.each f hf).np⟩
  stk := r.stk
  nd := r.nd
  rule := r.rule
  ox := r.ox
  oo := r.oo
  og := r.og
  nx := r.nx
  no := r.no
  ng := r.ng
theorem RdrAt.push (r : RdrAt K C N D H x dx po pg xo v gs s) {t p : Addr} {g : GHead} (ht : H t = some (.tup (ghV g ++ [.ref p]))) (hp : H p = some (.lst [])) (ot : D t = none) (op : D p = none) (nt : N t) (np : N p) (fp : ∀ a ∈ radr x po pg gs, p ≠ a) :
    RdrAt K C N D (upd H pg (.lst ((gs.map fun f => V.ref f.t).reverse ++ [.ref t]))) x dx po pg xo v (⟨t, p, [], ⟨g, []⟩⟩ :: gs) { s with stack := ⟨g, []⟩ :: s.stack } where
  ins := by rw [upd_ne r.x_pg]; exact r.ins
  oft := by rw [upd_ne r.po_pg]; exact r.oft
  oftD := r.oftD
  grp := by
    rw [upd_same, List.map_cons, List.reverse_cons]
  each := fun f hf => by
    rcases List.mem_cons.mp hf with rfl | hf
    · exact ⟨by rw [upd_ne (ne_of ht r.grp (fun z => nomatch z))]; exact ht, by rw [upd_ne (fp pg mem_radr.2.2.1)]; exact hp, ot, op, by unfold Rule.datas; exact DataAll.nil, nt, np⟩
    · exact ⟨by rw [upd_ne (r.t_pg hf)]; exact (r.each f hf).tup, by rw [upd_ne (r.p_pg hf)]; exact (r.each f hf).at_, (r.each f hf).outT, (r.each f hf).out, (r.each f hf).data, (r.each f hf).nt, (r.each f hf).np⟩
  stk := by
    show _ :: gs.map (fun f => f.g) = _ :: s.stack
    rw [r.stk]
  nd := by
    show (po :: pg :: p :: gs.map fun f => f.p).Nodup
    have h1 := List.nodup_cons.mp r.nd
    have h2 := List.nodup_cons.mp h1.2
    refine List.nodup_cons.mpr ⟨fun z => ?_, List.nodup_cons.mpr ⟨fun z => ?_, List.nodup_cons.mpr ⟨fun z => ?_, h2.2⟩⟩⟩
    · rcases List.mem_cons.mp z with z | z
      · exact r.po_pg z
      · rcases List.mem_cons.mp z with z | z
        · exact fp po mem_radr.2.1 z.symm
        · exact h1.1 (List.mem_cons_of_mem _ z)
    · rcases List.mem_cons.mp z with z | z
      · exact fp pg mem_radr.2.2.1 z.symm
      · exact h2.1 z
    · obtain ⟨f, hf, e⟩ := List.mem_map.mp z
      exact fp f.p (mem_radr.2.2.2 f hf).1 e.symm
  rule := r.rule
  ox := r.ox
  oo := r.oo
  og := r.og
  nx := r.nx
  no := r.no
  ng := r.ng
theorem RdrAt.pop {f : GFr} (r : RdrAt K C N D H x dx po pg xo v (f :: gs) s) : RdrAt K C N D (upd H pg (.lst ((gs.map fun f => V.ref f.t).reverse))) x dx po pg xo v gs { s with stack := gs.map fun f => f.g } where
  ins := by rw [upd_ne r.x_pg]; exact r.ins
  oft := by rw [upd_ne r.po_pg]; exact r.oft
  oftD := r.oftD
  grp := upd_same
  each := fun g hg => by
    have hm := List.mem_cons_of_mem f hg
    exact ⟨by rw [upd_ne (r.t_pg hm)]; exact (r.each g hm).tup, by rw [upd_ne (r.p_pg hm)]; exact (r.each g hm).at_, (r.each g hm).outT, (r.each g hm).out, (r.each g hm).data, (r.each g hm).nt, (r.each g hm).np⟩
  stk := rfl
  nd := by
    have h1 := List.nodup_cons.mp r.nd
    have h2 := List.nodup_cons.mp h1.2
    have h3 : (f.p :: gs.map fun f => f.p).Nodup := h2.2
    exact List.nodup_cons.mpr ⟨fun z => h1.1 (by
      rcases List.mem_cons.mp z with z | z
      · rw [z]; exact List.mem_cons_self ..
      · exact List.mem_cons_of_mem _ (List.mem_cons_of_mem _ z)), List.nodup_cons.mpr ⟨fun z => h2.1 (List.mem_cons_of_mem _ z), (List.nodup_cons.mp h3).2⟩⟩
  rule := r.rule
  ox := r.ox
  oo := r.oo
  og := r.og
  nx := r.nx
  no := r.no
  ng := r.ng
theorem RdrAt.add {f : GFr} (r : RdrAt K C N D H x dx po pg xo v (f :: gs) s) {y : V} {ru : Rule} (h : DataAt K D y ru.data) : RdrAt K C N D (upd H f.p (.lst (f.xs ++ [y]))) x dx po pg xo v (⟨f.t, f.p, f.xs ++ [y], ⟨f.g.head, f.g.rules ++ [ru]⟩⟩ :: gs) { s with stack := ⟨f.g.head, f.g.rules ++ [ru]⟩ :: gs.map fun f => f.g } := by
  have hm : f ∈ f :: gs := List.mem_cons_self ..
  have hf := r.each f hm
  refine ⟨by rw [upd_ne (r.x_p hm)]; exact r.ins, by rw [upd_ne (r.p_po hm).symm]; exact r.oft, r.oftD, by rw [upd_ne (r.p_pg hm).symm, r.grp]; rfl, fun g hg => ?_, rfl, r.nd, r.rule, r.ox, r.oo, r.og, r.nx, r.no, r.ng⟩
  rcases List.mem_cons.mp hg with rfl | hg
  · refine ⟨by show upd H f.p _ f.t = _; rw [upd_ne (r.t_p hm hm)]; exact hf.tup, upd_same, hf.outT, hf.out, ?_, hf.nt, hf.np⟩
    show DataAll K D (f.xs ++ [y]) (Rule.datas (f.g.rules ++ [ru]))
    rw [Rule.datas_map, List.map_append, ← Rule.datas_map]
    exact DataAll.snoc h hf.data
  · have hm' := List.mem_cons_of_mem f hg
    have hg' := r.each g hm'
    refine ⟨by rw [upd_ne (r.t_p hm' hm)]; exact hg'.tup, ?_, hg'.outT, hg'.out, hg'.data, hg'.nt, hg'.np⟩
    rw [upd_ne]
    · exact hg'.at_
    · intro z
      have h3 := (List.nodup_cons.mp (List.nodup_cons.mp r.nd).2).2
      have h4 : (f.p :: gs.map fun f => f.p).Nodup := h3
      exact (List.nodup_cons.mp h4).1 (by rw [← z]; exact List.mem_map.mpr ⟨g, hg, rfl⟩)
theorem RdrAt.close {f : GFr} (r : RdrAt K C N D H x dx po pg xo v (f :: gs) s) (sD : Same D H) : ∃ D', Same D D' ∧ Same D' H ∧ D' = upd (upd D f.p (.lst f.xs)) f.t (.tup (ghV f.g.head ++ [.ref f.p])) ∧ RuleAt K D' N (.ref f.t) (some (f.g.head.rule f.g.rules)) ∧ (∀ a, D a = none → a ≠ f.p → a ≠ f.t → D' a = none) := by
  have hm : f ∈ f :: gs := List.mem_cons_self ..
  have hf := r.each f hm
  have ntp : f.t ≠ f.p := r.t_p hm hm
  have dd : Same D (upd (upd D f.p (.lst f.xs)) f.t (.tup (ghV f.g.head ++ [.ref f.p]))) := (Same.upd0 hf.out).trans (Same.upd0 (by rw [upd_ne ntp]; exact hf.outT))
  have ep : upd (upd D f.p (.lst f.xs)) f.t (.tup (ghV f.g.head ++ [.ref f.p])) f.p = some (.lst f.xs) := by rw [upd_ne ntp.symm]; exact upd_same
  refine ⟨_, dd, fun a o e => ?_, rfl, ⟨?_, fun _ => ⟨f.t, f.p, f.xs, rfl, by rw [upd_same, gh_head], ep, hf.np⟩⟩, fun a n h1 h2 => by rw [upd_ne h2, upd_ne h1]; exact n⟩
  · by_cases h1 : a = f.t
    · subst h1
      rw [upd_same] at e
      cases e
      exact hf.tup
    · rw [upd_ne h1] at e
      by_cases h2 : a = f.p
      · subst h2
        rw [upd_same] at e
        cases e
        exact hf.at_
      · rw [upd_ne h2] at e
        exact sD _ _ e
  · refine CF.Rule.grpAt (gh_leaf _ _) (by rw [gh_head]; exact upd_same) (.inl ep) ?_
    rw [gh_rules]
    exact DataAll.up hf.data dd
theorem RdrAt.more {D' : Hp} (r : RdrAt K C N D H x dx po pg xo v gs s) (dd : Same D D') (out : ∀ a ∈ radr x po pg gs, D' a = none) : RdrAt K C N D' H x dx po pg xo v gs s where
  ins := r.ins
  oft := r.oft
  oftD := DataAll.up r.oftD dd
  grp := r.grp
  each := fun f hf => ⟨(r.each f hf).tup, (r.each f hf).at_, out _ (mem_radr.2.2.2 f hf).2, out _ (mem_radr.2.2.2 f hf).1, DataAll.up (r.each f hf).data dd, (r.each f hf).nt, (r.each f hf).np⟩
  stk := r.stk
  nd := r.nd
  rule := by
    have h := r.rule
    cases e : s.rule with
    | none => rw [e] at h; exact h
    | some ru =>
      rw [e] at h
      obtain ⟨h1, h2⟩ := h
      refine ⟨DataAt.up h1 dd, fun z => ?_⟩
      obtain ⟨t, p, xs, e1, e2, e3, e4⟩ := h2 z
      exact ⟨t, p, xs, e1, dd _ _ e2, dd _ _ e3, e4⟩
  ox := out _ mem_radr.1
  oo := out _ mem_radr.2.1
  og := out _ mem_radr.2.2.1
  nx := r.nx
  no := r.no
  ng := r.ng
end
end CT
namespace CT
open PySem CF
theorem put_nil {s : RS} {ru : Rule} (h : s.stack = []) : s.put ru = { s with rule := some ru } := by cases s; cases h; rfl
theorem put_cons {s : RS} {ru : Rule} {g : Grp} {gs : List Grp} (h : s.stack = g :: gs) : s.put ru = { s with stack := ⟨g.head, g.rules ++ [ru]⟩ :: gs } := by cases s; cases h; rfl
theorem room_nil {s : RS} (h : s.stack = []) : s.room = true := by cases s; cases h; rfl
theorem room_cons {s : RS} {g : Grp} {gs : List Grp} (h : s.stack = g :: gs) : s.room = decide (g.rules.length < 16) := by cases s; cases h; rfl
theorem fin_nil {s : RS} (h : s.stack = []) : s.fin = none := by cases s; cases h; rfl
theorem fin_cons {s : RS} {g : Grp} {gs : List Grp} (h : s.stack = g :: gs) : s.fin = if (g.rules.length : Int) < g.head.least then none else some (RS.put { s with stack := gs } (g.head.rule g.rules)) := by cases s; cases h; rfl
end CT
namespace CT
open PySem L2 L3 L4 CW CF
structure Fit (s : RS) : Prop where
  stk : s.stack.length ≤ 6
  rules : ∀ g ∈ s.stack, g.rules.length ≤ 16
  outer : ∀ g ∈ s.stack.tail, g.rules.length ≤ 15
  oft : s.oftens.length ≤ 16
theorem fit_new : Fit RS.new := ⟨Nat.zero_le _, (fun g h => nomatch h), (fun g h => nomatch h), Nat.zero_le _⟩
theorem fit_put {s : RS} {r : Rule} (h : Fit s) (hr : s.room = true) : Fit (s.put r) := by
  cases e : s.stack with
  | nil => rw [put_nil e]; exact ⟨h.stk, h.rules, h.outer, h.oft⟩
  | cons g gs =>
    rw [put_cons e]
    rw [room_cons e] at hr
    have hr' := of_decide_eq_true hr
    refine ⟨?_, fun x hx => ?_, fun x hx => h.outer x (by rw [e]; exact hx), h.oft⟩
    · have := h.stk
      rw [e] at this
      exact this
    · rcases List.mem_cons.mp hx with rfl | hx
      · show (g.rules ++ [r]).length ≤ 16
        rw [List.length_append, List.length_singleton]
        omega
      · exact h.rules x (by rw [e]; exact List.mem_cons_of_mem _ hx)
end CT
namespace CT
open PySem CW CF
theorem often_full {s : RS} {ps : List Str} (h : s.stack ≠ [] ∨ s.oftens.length = 16) : s.often ps = none := by
  unfold RS.often
  rw [if_pos h]
theorem often_bad {s : RS} {ps : List Str} (h : ∀ a b c, ps = [a, b, c] → isWord c = false) : s.often ps = none := by
  unfold RS.often
  split
  · rfl
  · split
    · rw [if_neg (by rw [h _ _ _ rfl]; decide)]
    · rfl
theorem often_num {s : RS} {w0 w1 w2 : Str} (h : readNum w1 1 9 = none) : s.often [w0, w1, w2] = none := by
  unfold RS.often
  split
  · rfl
  · show (if isWord w2 = true then (match readNum w1 1 9 with | none => none | some k => _) else none) = none
    rw [h]
    split <;> rfl
theorem often_some {s : RS} {w0 w1 w2 : Str} {k : Int} (h1 : s.stack = []) (h2 : s.oftens.length ≠ 16) (h3 : isWord w2 = true) (h4 : readNum w1 1 9 = some k) : s.often [w0, w1, w2] = if w2 ∈ s.oftens.map (fun p => p.1) then none else some { s with oftens := s.oftens ++ [(w2, k)] } := by
  unfold RS.often
  rw [if_neg (fun z => z.elim (fun z => z h1) h2)]
  show (if isWord w2 = true then (match readNum w1 1 9 with | none => none | some k => _) else none) = _
  rw [h3, if_pos rfl, h4]
end CT
namespace CT
open PySem L2 L3 L4 CW CF
theorem parts_done {s : RS} {ps : List Str} (h : s.rule.isSome = true) : s.parts ps = none := by unfold RS.parts; rw [if_pos h]
theorem parts_often {s : RS} {ps : List Str} (h0 : s.rule = none) (h : ps.head? = some ("often" : Str)) : s.parts ps = s.often ps := by
  unfold RS.parts
  rw [h0, if_neg (by decide), if_pos h]
theorem parts_group {s : RS} {ps : List Str} (h0 : s.rule = none) (h1 : ps.head? ≠ some ("often" : Str)) (h : ps.head? = some ("all" : Str) ∨ ps.head? = some ("some" : Str)) : s.parts ps = s.group (readGroup ps) := by
  unfold RS.parts
  rw [h0, if_neg (by decide), if_neg h1, if_pos h]
theorem parts_end {s : RS} {ps : List Str} (h0 : s.rule = none) (h : ps = (["end"] : List Str)) : s.parts ps = s.fin := by
  unfold RS.parts
  have n1 : ¬ (["end"] : List Str).head? = some ("often" : Str) := by decide +kernel
  have n2 : ¬ ((["end"] : List Str).head? = some ("all" : Str) ∨ (["end"] : List Str).head? = some ("some" : Str)) := by decide +kernel
  rw [h0, if_neg (by decide), h, if_neg n1, if_neg n2, if_pos rfl]
theorem parts_leaf {s : RS} {ps : List Str} (h0 : s.rule = none) (h1 : ps.head? ≠ some ("often" : Str)) (h2 : ¬ (ps.head? = some ("all" : Str) ∨ ps.head? = some ("some" : Str))) (h3 : ps ≠ (["end"] : List Str)) : s.parts ps = s.leaf (readLeaf ps) := by
  unfold RS.parts
  rw [h0, if_neg (by decide), if_neg h1, if_neg h2, if_neg h3]
end CT
namespace CT
open PySem L2 L3 L4 CW CF
theorem fit_often {s s' : RS} {ps : List Str} (h : Fit s) (e : s.often ps = some s') : Fit s' := by
  unfold RS.often at e
  split at e
  · cases e
  · rename_i hn
    split at e
    · split at e
      · split at e
        · cases e
        · split at e
          · cases e
          · cases e
            refine ⟨h.stk, h.rules, h.outer, ?_⟩
            have := h.oft
            have h16 : s.oftens.length ≠ 16 := fun z => hn (.inr z)
            show (s.oftens ++ [_]).length ≤ 16
            rw [List.length_append, List.length_singleton]
            omega
      · cases e
    · cases e
theorem fit_parts {s s' : RS} {ps : List Str} (h : Fit s) (e : s.parts ps = some s') : Fit s' := by
  unfold RS.parts at e
  split at e
  · cases e
  split at e
  · exact fit_often h e
  split at e
  · cases hg : readGroup ps with
    | none => rw [hg] at e; cases e
    | some g =>
      rw [hg] at e
      replace e : (if s.stack.length = 6 ∨ s.room = false then none else some { s with stack := ⟨g, []⟩ :: s.stack }) = some s' := e
      split at e
      · cases e
      · rename_i hn
        cases e
        have h6 : s.stack.length ≠ 6 := fun z => hn (.inl z)
        have := h.stk
        refine ⟨by show s.stack.length + 1 ≤ 6; omega, fun x hx => ?_, fun x hx => ?_, h.oft⟩
        · rcases List.mem_cons.mp hx with rfl | hx
          · exact Nat.zero_le _
          · exact h.rules x hx
        · have hx' : x ∈ s.stack := hx
          cases hs : s.stack with
          | nil => rw [hs] at hx'; cases hx'
          | cons g2 gr =>
            have hr : s.room ≠ false := fun z => hn (.inr z)
            rw [room_cons hs] at hr
            rw [hs] at hx'
            rcases List.mem_cons.mp hx' with rfl | hx'
            · have : x.rules.length < 16 := by
                refine Classical.byContradiction fun z => hr (decide_eq_false z)
              omega
            · exact h.outer x (by rw [hs]; exact hx')
  split at e
  · cases hs : s.stack with
    | nil => rw [fin_nil hs] at e; cases e
    | cons g gs =>
      rw [fin_cons hs] at e
      split at e
      · cases e
      · cases e
        have hst := h.stk
        rw [hs] at hst
        cases hg : gs with
        | nil =>
          rw [put_nil (s := { s with stack := [] }) rfl]
          exact ⟨Nat.zero_le _, (fun x hx => nomatch hx), (fun x hx => nomatch hx), h.oft⟩
        | cons g2 gr =>
          have h15 := h.outer g2 (by rw [hs, hg]; exact List.mem_cons_self ..)
          rw [put_cons (s := { s with stack := g2 :: gr }) rfl]
          rw [hg] at hst
          refine ⟨Nat.le_trans (Nat.le_succ _) hst, fun x hx => ?_, fun x hx => ?_, h.oft⟩
          · rcases List.mem_cons.mp hx with rfl | hx
            · show (g2.rules ++ [_]).length ≤ 16
              rw [List.length_append, List.length_singleton]
              omega
            · exact h.rules x (by rw [hs, hg]; exact List.mem_cons_of_mem _ (List.mem_cons_of_mem _ hx))
          · exact h.outer x (by rw [hs, hg]; exact List.mem_cons_of_mem _ hx)
  · cases hl : readLeaf ps with
    | none => rw [hl] at e; cases e
    | some l =>
      rw [hl] at e
      replace e : (if s.leaves = 16 ∨ s.room = false then none else some (RS.put { s with leaves := s.leaves + 1 } (.leaf l))) = some s' := e
      split at e
      · cases e
      · rename_i hn
        cases e
        refine fit_put (s := { s with leaves := s.leaves + 1 }) ⟨h.stk, h.rules, h.outer, h.oft⟩ ?_
        cases hr : s.room with
        | true => exact hr
        | false => exact absurd (.inr hr) hn
end CT
namespace CT
open PySem L2 L3 L4 CW CF
theorem lt_big {n : Int} (h : n ≤ 60) : n < 10 ^ 60 := Int.lt_of_le_of_lt h (by decide)
theorem le_most {n : Int} (h : n < 10 ^ 60) : n ≤ 999999999999999999999999999999999999999999999999999999999999 := Int.le_of_lt_add_one (Int.lt_of_lt_of_le h (by decide))
theorem join_one (sep x : Str) : Str.join sep [x] = x := by first | rfl | simp [Str.join]
theorem join_two (sep x y : Str) (r : List Str) : Str.join sep (x :: y :: r) = x ++ sep ++ Str.join sep (y :: r) := by first | rfl | simp [Str.join]
theorem join_app (sep : Str) : ∀ (xs ys : List Str), xs ≠ [] → ys ≠ [] → Str.join sep (xs ++ ys) = Str.join sep xs ++ sep ++ Str.join sep ys
  | [], _, h, _ => absurd rfl h
  | [x], [], _, h => absurd rfl h
  | [x], y :: r, _, _ => by rw [join_one]; exact join_two sep x y r
  | x :: x2 :: xs, ys, _, hy => by
    rw [List.cons_append, List.cons_append, join_two, ← List.cons_append, join_app sep (x2 :: xs) ys (fun z => nomatch z) hy, join_two]
    simp only [Str.append_assoc]
def num (n : Int) : Str := ((toString n : String) : Str)
def orList : List Str → List Str
  | [] => ["any"]
  | [w] => [w]
  | w :: x :: r => w :: "or" :: orList (x :: r)
def orText (ws : List Str) : Str := if ws = [] then "any" else Str.join " or " ws
theorem or_eq : (" or " : Str) = " " ++ "or" ++ " " := by decide +kernel
theorem orList_ne (ws : List Str) : orList ws ≠ [] := by
  match ws with
  | [] => exact fun z => nomatch z
  | [_] => exact fun z => nomatch z
  | _ :: _ :: _ => exact fun z => nomatch z
theorem or_join : ∀ (ws : List Str), ws ≠ [] → Str.join " or " ws = Str.join " " (orList ws)
  | [], h => absurd rfl h
  | [w], _ => by rw [join_one]; exact (join_one _ _).symm
  | w :: x :: r, _ => by
    have ih := or_join (x :: r) (fun z => nomatch z)
    rw [join_two, ih]
    show _ = Str.join " " (w :: "or" :: orList (x :: r))
    cases e : orList (x :: r) with
    | nil => exact absurd e (orList_ne _)
    | cons y q =>
      rw [join_two, join_two, or_eq]
      simp only [Str.append_assoc]
theorem orText_join (ws : List Str) : orText ws = Str.join " " (orList ws) := by
  unfold orText
  split
  · rename_i h
    rw [h]
    exact (join_one _ _).symm
  · rename_i h
    exact or_join ws h
def keyParts (k : Str) (n : Int) : List Str := if n = leftOut k then [] else [k, num n]
def tailParts : Leaf → List Str
  | .frm _ _ a b c => keyParts "level" a ++ (keyParts "mark" b ++ keyParts "worth" c)
  | .off _ _ b c => keyParts "mark" b ++ keyParts "worth" c
def Leaf.kind' : Leaf → Str
  | .frm .. => "from"
  | .off .. => "of"
def Leaf.want : Leaf → Int
  | .frm n .. => n
  | .off n .. => n
def leafParts (l : Leaf) : List Str := num (Leaf.want l) :: Leaf.kind' l :: (orList l.words ++ tailParts l)
def leafRow (l : Leaf) : Str := Str.join " " (leafParts l)
theorem leafRow_shown (l : Leaf) : leafRow l = Str.join " " ([num (Leaf.want l), Leaf.kind' l, orText l.words] ++ tailParts l) := by
  unfold leafRow leafParts
  rw [orText_join]
  have h1 := orList_ne l.words
  show Str.join " " ([num (Leaf.want l), Leaf.kind' l] ++ (orList l.words ++ tailParts l)) = Str.join " " ([num (Leaf.want l), Leaf.kind' l] ++ ([Str.join " " (orList l.words)] ++ tailParts l))
  rw [join_app _ [num (Leaf.want l), Leaf.kind' l] (orList l.words ++ tailParts l) (fun z => nomatch z) (fun z => h1 (List.append_eq_nil_iff.mp z).1), join_app _ [num (Leaf.want l), Leaf.kind' l] ([Str.join " " (orList l.words)] ++ tailParts l) (fun z => nomatch z) (fun z => nomatch z)]
  congr 1
  cases ht : tailParts l with
  | nil => rw [List.append_nil, List.append_nil, join_one]
  | cons y q => rw [join_app _ (orList l.words) (y :: q) h1 (fun z => nomatch z), join_app _ [Str.join " " (orList l.words)] (y :: q) (fun z => nomatch z) (fun z => nomatch z), join_one]
def headRow : GHead → Str
  | .all => "all"
  | .some n => "some " ++ num n ++ " of"
mutual
def ruleRows : Rule → List Str
  | .leaf l => [leafRow l]
  | .allr rs => "all" :: (rulesRows rs ++ (["end"] : List Str))
  | .somr n rs => ("some " ++ num n ++ " of") :: (rulesRows rs ++ (["end"] : List Str))
def rulesRows : List Rule → List Str
  | [] => []
  | r :: rs => ruleRows r ++ rulesRows rs
end
theorem rulesRows_nil : rulesRows [] = [] := by simp only [rulesRows]
theorem rulesRows_cons (r : Rule) (rs : List Rule) : rulesRows (r :: rs) = ruleRows r ++ rulesRows rs := by simp only [rulesRows]
theorem rulesRows_app : ∀ rs ss : List Rule, rulesRows (rs ++ ss) = rulesRows rs ++ rulesRows ss
  | [], ss => by rw [List.nil_append, rulesRows_nil, List.nil_append]
  | r :: rs, ss => by rw [List.cons_append, rulesRows_cons, rulesRows_app rs ss, rulesRows_cons, List.append_assoc]
theorem rulesRows_one (r : Rule) : rulesRows [r] = ruleRows r := by rw [rulesRows_cons, rulesRows_nil, List.append_nil]
def oftRow (p : Str × Int) : Str := "often " ++ num p.2 ++ " " ++ p.1
def courseRows (c : Course) : List Str := c.oftens.map oftRow ++ ruleRows c.rule
theorem readNum_num {n lo hi : Int} (h0 : 0 ≤ n) (h1 : n < 10 ^ 60) (h2 : lo ≤ n) (h3 : n ≤ hi) : readNum (num n) lo hi = some n := by
  have hf := num_text h0 h1
  unfold readNum
  rw [show isNum (num n) = true from Figs.isNum hf, if_pos rfl, show valOf (num n) = n from Figs.val hf, if_neg (by omega)]
theorem num_free {n : Int} (h0 : 0 ≤ n) (h1 : n < 10 ^ 60) {c : Nat} (hc : c < 48) : c ∉ cs (num n) := figs_free (num_text h0 h1) hc
theorem key_ne : ("mark" : Str) ≠ "level" ∧ ("worth" : Str) ≠ "level" ∧ ("worth" : Str) ≠ "mark" ∧ ("level" : Str) ≠ "or" ∧ ("mark" : Str) ≠ "or" ∧ ("worth" : Str) ≠ "or" ∧ ("level" : Str) ≠ "worth" ∧ ("mark" : Str) ≠ "worth" := by decide +kernel
theorem vals_key {k : Str} {n : Int} {ks r : List Str} (h : n ≠ leftOut k → readNum (num n) (leftOut k + 1) (mostOf k) = some n) (hr : r.head? ≠ some k) : vals (k :: ks) (keyParts k n ++ r) = some n :: vals ks r ∧ rest (k :: ks) (keyParts k n ++ r) = rest ks r := by
  unfold keyParts
  by_cases hn : n = leftOut k
  · rw [if_pos hn, List.nil_append]
    obtain ⟨h1, h2⟩ := vals_miss (k := k) (ks := ks) (ps := r) (fun z => hr z.2)
    exact ⟨by rw [h1, hn], h2⟩
  · rw [if_neg hn]
    obtain ⟨h1, h2⟩ := vals_hit (k := k) (p := k) (v := num n) (ks := ks) (r := r) rfl
    exact ⟨by rw [show [k, num n] ++ r = k :: num n :: r from rfl, h1, h hn], h2⟩
theorem head_key {k x : Str} {n : Int} {r : List Str} (h1 : k ≠ x) (h2 : r.head? ≠ some x) : (keyParts k n ++ r).head? ≠ some x := by
  unfold keyParts
  split
  · exact h2
  · exact fun z => h1 (Option.some.inj z)
theorem level_num {n : Int} {k : Str} (hk : leftOut k = 0) (hm : mostOf k = 999999999999999999999999999999999999999999999999999999999999) (h : 0 ≤ n ∧ n < 10 ^ 60) : n ≠ leftOut k → readNum (num n) (leftOut k + 1) (mostOf k) = some n := fun hn => by
  rw [hk] at hn ⊢
  rw [hm]
  exact readNum_num h.1 h.2 (by omega) (le_most h.2)
theorem worth_num {n : Int} (h : 1 ≤ n ∧ n ≤ 9) : n ≠ leftOut "worth" → readNum (num n) (leftOut "worth" + 1) (mostOf "worth") = some n := fun hn => by
  have e1 : leftOut "worth" = 1 := by unfold leftOut; rw [if_pos rfl]
  have e2 : mostOf "worth" = 9 := by unfold mostOf; rw [if_pos rfl]
  rw [e1] at hn ⊢
  rw [e2]
  exact readNum_num (by omega) (lt_big (by omega)) (by omega) (by omega)
theorem left_lm : leftOut "level" = 0 ∧ leftOut "mark" = 0 := by
  unfold leftOut
  exact ⟨if_neg key_ne.2.2.2.2.2.2.1, if_neg key_ne.2.2.2.2.2.2.2⟩
theorem most_lm : mostOf "level" = 999999999999999999999999999999999999999999999999999999999999 ∧ mostOf "mark" = 999999999999999999999999999999999999999999999999999999999999 := by
  unfold mostOf
  exact ⟨if_neg key_ne.2.2.2.2.2.2.1, if_neg key_ne.2.2.2.2.2.2.2⟩
theorem vals_two {b c : Int} (hb : 0 ≤ b ∧ b < 10 ^ 60) (hc : 1 ≤ c ∧ c ≤ 9) : readValues ["mark", "worth"] (keyParts "mark" b ++ keyParts "worth" c) = some [b, c] := by
  obtain ⟨h1, h2⟩ := vals_key (k := "mark") (n := b) (ks := ["worth"]) (r := keyParts "worth" c) (level_num left_lm.2 most_lm.2 hb) (by have := head_key (k := "worth") (x := "mark") (n := c) (r := []) key_ne.2.2.1 (fun z => nomatch z); rwa [List.append_nil] at this)
  obtain ⟨h3, h4⟩ := vals_key (k := "worth") (n := c) (ks := []) (r := []) (worth_num hc) (fun z => nomatch z)
  rw [List.append_nil] at h3 h4
  have e1 : vals [] ([] : List Str) = [] := by rw [vals]
  have e2 : rest [] ([] : List Str) = [] := by rw [rest]
  unfold readValues
  rw [h1, h3, e1, h2, h4, e2, if_pos ⟨rfl, by simp⟩]
  rfl
theorem vals_three {a b c : Int} (ha : 0 ≤ a ∧ a < 10 ^ 60) (hb : 0 ≤ b ∧ b < 10 ^ 60) (hc : 1 ≤ c ∧ c ≤ 9) : readValues ["level", "mark", "worth"] (keyParts "level" a ++ (keyParts "mark" b ++ keyParts "worth" c)) = some [a, b, c] := by
  have hw := head_key (k := "worth") (x := "level") (n := c) (r := []) key_ne.2.1 (fun z => nomatch z)
  rw [List.append_nil] at hw
  obtain ⟨h0, h0'⟩ := vals_key (k := "level") (n := a) (ks := ["mark", "worth"]) (r := keyParts "mark" b ++ keyParts "worth" c) (level_num left_lm.1 most_lm.1 ha) (head_key key_ne.1 hw)
  obtain ⟨h1, h2⟩ := vals_key (k := "mark") (n := b) (ks := ["worth"]) (r := keyParts "worth" c) (level_num left_lm.2 most_lm.2 hb) (by have := head_key (k := "worth") (x := "mark") (n := c) (r := []) key_ne.2.2.1 (fun z => nomatch z); rwa [List.append_nil] at this)
  obtain ⟨h3, h4⟩ := vals_key (k := "worth") (n := c) (ks := []) (r := []) (worth_num hc) (fun z => nomatch z)
  rw [List.append_nil] at h3 h4
  have e1 : vals [] ([] : List Str) = [] := by rw [vals]
  have e2 : rest [] ([] : List Str) = [] := by rw [rest]
  unfold readValues
  rw [h0, h0', h1, h3, e1, h2, h4, e2, if_pos ⟨rfl, by simp⟩]
  rfl
theorem ahead_or : ∀ (x : Str) (ws r : List Str), r.head? ≠ some ("or" : Str) → ∃ y q, orList (x :: ws) ++ r = y :: q ∧ y = x ∧ ahead q = ws ∧ q.drop (2 * ws.length) = r
  | x, [], r, h => ⟨x, r, rfl, rfl, ahead_stop (fun z => h z.2), rfl⟩
  | x, w :: ws, r, h => by
    obtain ⟨y, q, e, e1, e2, e3⟩ := ahead_or w ws r h
    refine ⟨x, "or" :: y :: q, ?_, rfl, ?_, ?_⟩
    · show x :: "or" :: (orList (w :: ws) ++ r) = _
      rw [e]
    · rw [ahead_more rfl, e1, e2]
    · show (("or" : Str) :: y :: q).drop (2 * (ws.length + 1)) = r
      rw [show 2 * (ws.length + 1) = 2 * ws.length + 2 by omega]
      exact e3
theorem tail_head (l : Leaf) : (tailParts l).head? ≠ some ("or" : Str) := by
  cases l with
  | frm n ws a b c =>
    have h := head_key (k := "worth") (x := "or") (n := c) (r := []) key_ne.2.2.2.2.2.1 (fun z => nomatch z)
    rw [List.append_nil] at h
    exact head_key key_ne.2.2.2.1 (head_key key_ne.2.2.2.2.1 h)
  | off n ws b c =>
    have h := head_key (k := "worth") (x := "or") (n := c) (r := []) key_ne.2.2.2.2.2.1 (fun z => nomatch z)
    rw [List.append_nil] at h
    exact head_key key_ne.2.2.2.2.1 h
theorem any_key : isWord "any" = false := by decide +kernel
theorem from_ne : ("of" : Str) ≠ "from" := by decide +kernel
theorem areWords_ok {ws : List Str} (h : WordsOk ws) : areWords ws = true := by
  unfold areWords
  rw [decide_eq_true h.2.2, decide_eq_true h.2.1, List.all_eq_true.mpr h.1]
  rfl
theorem readLeaf_parts {l : Leaf} (h : l.Good) : readLeaf (leafParts l) = some l := by
  have key : ∃ p q, orList l.words ++ tailParts l = p :: q ∧ (p :: q).drop (2 * (wordsAhead (p :: q)).length - 1) = tailParts l ∧ (l.words = [] ∧ wordsAhead (p :: q) = (["any"] : List Str) ∨ l.words ≠ [] ∧ wordsAhead (p :: q) = l.words) := by
    cases hw : l.words with
    | nil =>
      refine ⟨"any", tailParts l, rfl, ?_, .inl ⟨rfl, ?_⟩⟩
      · show (("any" : Str) :: tailParts l).drop (2 * ((ahead (tailParts l)).length + 1) - 1) = _
        rw [ahead_stop (fun z => tail_head l z.2)]
        rfl
      · show ("any" : Str) :: ahead (tailParts l) = _
        rw [ahead_stop (fun z => tail_head l z.2)]
    | cons x ws =>
      obtain ⟨y, q, e, e1, e2, e3⟩ := ahead_or x ws (tailParts l) (tail_head l)
      refine ⟨y, q, e, ?_, .inr ⟨(fun z => nomatch z), ?_⟩⟩
      · show (y :: q).drop (2 * ((ahead q).length + 1) - 1) = _
        rw [e2, show 2 * (ws.length + 1) - 1 = 2 * ws.length + 1 by omega]
        exact e3
      · show y :: ahead q = _
        rw [e2, e1]
  obtain ⟨p, q, e, ed, hw⟩ := key
  cases l with
  | frm n ws a b c =>
    obtain ⟨g1, g2, g3, g4, g5⟩ := h
    have hn : readNum (num n) 0 60 = some n := readNum_num g2.1 (lt_big g2.2) g2.1 g2.2
    have hv := vals_three g3 g4 g5
    have ea : anyOf "from" (wordsAhead (p :: q)) = ws := by
      unfold anyOf
      rcases hw with ⟨w1, w2⟩ | ⟨w1, w2⟩
      · rw [w2, if_pos ⟨rfl, rfl⟩]
        exact w1.symm
      · have w2' : wordsAhead (p :: q) = ws := w2
        rw [w2', if_neg]
        intro z
        have := g1.1 "any" (by rw [z.2]; exact List.mem_cons_self ..)
        rw [any_key] at this
        cases this
    have ek : keysOf "from" = some (["level", "mark", "worth"] : List Str) := by unfold keysOf; rw [if_pos rfl]
    unfold leafParts
    rw [e]
    show (match keysOf "from" with | none => none | some ks => match readNum (num n) 0 60, readValues ks ((p :: q).drop (2 * (wordsAhead (p :: q)).length - 1)) with | some n, some vs => if areWords (anyOf "from" (wordsAhead (p :: q))) = true then leafOf "from" n (anyOf "from" (wordsAhead (p :: q))) vs else none | _, _ => none) = _
    rw [ek]
    show (match readNum (num n) 0 60, readValues ["level", "mark", "worth"] ((p :: q).drop (2 * (wordsAhead (p :: q)).length - 1)) with | some n, some vs => if areWords (anyOf "from" (wordsAhead (p :: q))) = true then leafOf "from" n (anyOf "from" (wordsAhead (p :: q))) vs else none | _, _ => none) = _
    rw [hn, ed, show readValues ["level", "mark", "worth"] (tailParts (.frm n ws a b c)) = some [a, b, c] from hv, ea]
    show (if areWords ws = true then leafOf "from" n ws [a, b, c] else none) = _
    rw [areWords_ok g1, if_pos rfl]
    show (if ("from" : Str) = "from" then some (Leaf.frm n ws a b c) else none) = _
    rw [if_pos rfl]
  | off n ws b c =>
    obtain ⟨g1, g0, g2, g4, g5⟩ := h
    have hn : readNum (num n) 0 60 = some n := readNum_num g2.1 (lt_big g2.2) g2.1 g2.2
    have hv := vals_two g4 g5
    have ea : anyOf "of" (wordsAhead (p :: q)) = ws := by
      unfold anyOf
      rw [if_neg (fun z => from_ne z.1)]
      rcases hw with ⟨w1, w2⟩ | ⟨w1, w2⟩
      · exact absurd w1 g0
      · exact w2
    have ek : keysOf "of" = some (["mark", "worth"] : List Str) := by unfold keysOf; rw [if_neg from_ne, if_pos rfl]
    unfold leafParts
    rw [e]
    show (match keysOf "of" with | none => none | some ks => match readNum (num n) 0 60, readValues ks ((p :: q).drop (2 * (wordsAhead (p :: q)).length - 1)) with | some n, some vs => if areWords (anyOf "of" (wordsAhead (p :: q))) = true then leafOf "of" n (anyOf "of" (wordsAhead (p :: q))) vs else none | _, _ => none) = _
    rw [ek]
    show (match readNum (num n) 0 60, readValues ["mark", "worth"] ((p :: q).drop (2 * (wordsAhead (p :: q)).length - 1)) with | some n, some vs => if areWords (anyOf "of" (wordsAhead (p :: q))) = true then leafOf "of" n (anyOf "of" (wordsAhead (p :: q))) vs else none | _, _ => none) = _
    rw [hn, ed, show readValues ["mark", "worth"] (tailParts (.off n ws b c)) = some [b, c] from hv, ea]
    show (if areWords ws = true then leafOf "of" n ws [b, c] else none) = _
    rw [areWords_ok g1, if_pos rfl]
    show (if ("of" : Str) = "from" then none else some (Leaf.off n ws b c)) = _
    rw [if_neg from_ne]
end CT
namespace CT
open PySem L2 L3 L4 CW CF
def Bare (t : Str) : Prop := 32 ∉ cs t ∧ 10 ∉ cs t ∧ (∀ c ∈ cs t, c < 1114112) ∧ t.length ≤ 60
theorem bare_num {n : Int} (h0 : 0 ≤ n) (h1 : n < 10 ^ 60) : Bare (num n) :=
  ⟨num_free h0 h1 (by decide), num_free h0 h1 (by decide), fun c hc => by have := (num_text h0 h1).digs c hc; omega, (num_text h0 h1).most⟩
theorem bare_word {t : Str} (h : isWord t = true) : Bare t :=
  ⟨word_free h (by decide), word_free h (by decide), fun c hc => by have := (isWord_iff.mp h).2.2.2 c hc; omega, by have := (isWord_iff.mp h).2.1; omega⟩
def fixed : List Str := ["or", "any", "from", "of", "level", "mark", "worth", "all", "some", "end", "often"]
theorem bare_fixed : ∀ t ∈ fixed, Bare t := by
  have h : ∀ t ∈ fixed, 32 ∉ t.cps.toList ∧ 10 ∉ t.cps.toList ∧ (∀ c ∈ t.cps.toList, c < 1114112) ∧ t.length ≤ 60 := by decide +kernel
  exact h
theorem mem_fixed {t : Str} (h : fixed.contains t = true) : Bare t := bare_fixed t (List.contains_iff_mem.mp h)
theorem bare_or : ∀ {ws : List Str}, (∀ t ∈ ws, isWord t = true) → ∀ t ∈ orList ws, Bare t
  | [], _, t, ht => by rw [List.mem_singleton.mp ht]; exact mem_fixed (by decide +kernel)
  | [w], h, t, ht => by rw [List.mem_singleton.mp ht]; exact bare_word (h w (List.mem_cons_self ..))
  | w :: x :: r, h, t, ht => by
    rcases List.mem_cons.mp ht with rfl | ht
    · exact bare_word (h _ (List.mem_cons_self ..))
    rcases List.mem_cons.mp ht with rfl | ht
    · exact mem_fixed (by decide +kernel)
    · exact bare_or (fun y hy => h y (List.mem_cons_of_mem _ hy)) t ht
theorem bare_key {k : Str} {n : Int} (hk : Bare k) (h0 : 0 ≤ n) (h1 : n < 10 ^ 60) : ∀ t ∈ keyParts k n, Bare t := fun t ht => by
  unfold keyParts at ht
  split at ht
  · cases ht
  · rcases List.mem_cons.mp ht with rfl | ht
    · exact hk
    · rw [List.mem_singleton.mp ht]; exact bare_num h0 h1
theorem orList_len : ∀ ws : List Str, (orList ws).length ≤ 2 * ws.length + 1
  | [] => by show 1 ≤ _; omega
  | [_] => by show 1 ≤ _; omega
  | w :: x :: r => by
    have := orList_len (x :: r)
    show (orList (x :: r)).length + 2 ≤ _
    simp only [List.length_cons] at this ⊢
    omega
theorem keyParts_len (k : Str) (n : Int) : (keyParts k n).length ≤ 2 := by
  unfold keyParts
  split <;> simp
theorem bare_leaf {l : Leaf} (h : l.Good) : (∀ t ∈ leafParts l, Bare t) ∧ (leafParts l).length ≤ 30 := by
  have f1 : Bare "from" := mem_fixed (by decide +kernel)
  have f2 : Bare "of" := mem_fixed (by decide +kernel)
  have f3 : Bare "level" := mem_fixed (by decide +kernel)
  have f4 : Bare "mark" := mem_fixed (by decide +kernel)
  have f5 : Bare "worth" := mem_fixed (by decide +kernel)
  cases l with
  | frm n ws a b c =>
    obtain ⟨g1, g2, g3, g4, g5⟩ := h
    refine ⟨fun t ht => ?_, ?_⟩
    · rcases List.mem_cons.mp ht with rfl | ht
      · exact bare_num g2.1 (lt_big g2.2)
      rcases List.mem_cons.mp ht with rfl | ht
      · exact f1
      rcases List.mem_append.mp ht with ht | ht
      · exact bare_or g1.1 t ht
      rcases List.mem_append.mp ht with ht | ht
      · exact bare_key f3 g3.1 g3.2 t ht
      rcases List.mem_append.mp ht with ht | ht
      · exact bare_key f4 g4.1 g4.2 t ht
      · exact bare_key f5 (by omega) (lt_big (by omega)) t ht
    · have h1 := orList_len ws
      have h2 := keyParts_len "level" a
      have h3 := keyParts_len "mark" b
      have h4 := keyParts_len "worth" c
      have h5 := g1.2.2
      show (orList ws ++ (keyParts "level" a ++ (keyParts "mark" b ++ keyParts "worth" c))).length + 2 ≤ 30
      simp only [List.length_append]
      omega
  | off n ws b c =>
    obtain ⟨g1, g0, g2, g4, g5⟩ := h
    refine ⟨fun t ht => ?_, ?_⟩
    · rcases List.mem_cons.mp ht with rfl | ht
      · exact bare_num g2.1 (lt_big g2.2)
      rcases List.mem_cons.mp ht with rfl | ht
      · exact f2
      rcases List.mem_append.mp ht with ht | ht
      · exact bare_or g1.1 t ht
      rcases List.mem_append.mp ht with ht | ht
      · exact bare_key f4 g4.1 g4.2 t ht
      · exact bare_key f5 (by omega) (lt_big (by omega)) t ht
    · have h1 := orList_len ws
      have h3 := keyParts_len "mark" b
      have h4 := keyParts_len "worth" c
      have h5 := g1.2.2
      show (orList ws ++ (keyParts "mark" b ++ keyParts "worth" c)).length + 2 ≤ 30
      simp only [List.length_append]
      omega
structure RowOf (row : Str) (ps : List Str) : Prop where
  eq : row = Str.join " " ps
  ne : ps ≠ []
  bare : ∀ t ∈ ps, Bare t
  few : ps.length ≤ 30
theorem RowOf.split {row : Str} {ps : List Str} (h : RowOf row ps) : PySem.Txt.split row " " = ps := by
  rw [bl_eq]
  exact split_of_join h.ne (fun x hx => (h.bare x hx).1) (by rw [h.eq, bl_eq])
theorem join_len (sep : Str) (m : Nat) : ∀ (xs : List Str), (∀ x ∈ xs, x.length ≤ m) → (Str.join sep xs).length ≤ xs.length * (m + sep.length)
  | [], _ => by show (Str.empty).length ≤ _; exact Nat.zero_le _
  | [x], h => by
    rw [join_one]
    have := h x (List.mem_cons_self ..)
    simp only [List.length_cons, List.length_nil]
    omega
  | x :: y :: r, h => by
    have ih := join_len sep m (y :: r) fun z hz => h z (List.mem_cons_of_mem _ hz)
    have hx := h x (List.mem_cons_self ..)
    rw [join_two, Str.length_append, Str.length_append]
    simp only [List.length_cons] at ih ⊢
    have : (r.length + 1 + 1) * (m + sep.length) = (r.length + 1) * (m + sep.length) + (m + sep.length) := by rw [Nat.add_mul (r.length + 1) 1, Nat.one_mul]
    omega
theorem cs_join (sep : Str) (c : Nat) (hs : c ∉ cs sep) : ∀ (xs : List Str), (∀ x ∈ xs, c ∉ cs x) → c ∉ cs (Str.join sep xs)
  | [], _ => by show c ∉ cs Str.empty; exact fun z => nomatch z
  | [x], h => by rw [join_one]; exact h x (List.mem_cons_self ..)
  | x :: y :: r, h => by
    rw [join_two, cs_app, cs_app]
    intro z
    rcases List.mem_append.mp z with z | z
    · rcases List.mem_append.mp z with z | z
      · exact h x (List.mem_cons_self ..) z
      · exact hs z
    · exact cs_join sep c hs (y :: r) (fun w hw => h w (List.mem_cons_of_mem _ hw)) z
theorem RowOf.len {row : Str} {ps : List Str} (h : RowOf row ps) : row.length ≤ 2000 := by
  have := join_len " " 60 ps fun x hx => (h.bare x hx).2.2.2
  have e : (" " : Str).length = 1 := by decide +kernel
  rw [h.eq]
  rw [e] at this
  have hf := h.few
  have : ps.length * 61 ≤ 30 * 61 := Nat.mul_le_mul_right _ hf
  omega
theorem RowOf.noLf {row : Str} {ps : List Str} (h : RowOf row ps) : 10 ∉ cs row := by
  rw [h.eq]
  exact cs_join " " 10 (by rw [bl_eq, cs_one]; decide) ps fun x hx => (h.bare x hx).2.1
theorem row_leaf {l : Leaf} (h : l.Good) : RowOf (leafRow l) (leafParts l) := ⟨rfl, (fun z => nomatch z), (bare_leaf h).1, (bare_leaf h).2⟩
def headParts : GHead → List Str
  | .all => ["all"]
  | .some n => ["some", num n, "of"]
theorem row_head {g : GHead} (h : ∀ n, g = .some n → 1 ≤ n ∧ n ≤ 16) : RowOf (headRow g) (headParts g) := by
  cases g with
  | all => exact ⟨(join_one _ _).symm, (fun z => nomatch z), fun t ht => by rw [List.mem_singleton.mp ht]; exact mem_fixed (by decide +kernel), by show 1 ≤ 30; decide⟩
  | some n =>
    have hn := h n rfl
    refine ⟨?_, (fun z => nomatch z), fun t ht => ?_, by show 3 ≤ 30; decide⟩
    · show "some " ++ num n ++ " of" = Str.join " " ["some", num n, "of"]
      rw [join_two, join_two, join_one]
      have e1 : ("some " : Str) = "some" ++ " " := by decide +kernel
      have e2 : (" of" : Str) = " " ++ "of" := by decide +kernel
      rw [e1, e2]
      simp only [Str.append_assoc]
    · rcases List.mem_cons.mp ht with rfl | ht
      · exact mem_fixed (by decide +kernel)
      rcases List.mem_cons.mp ht with rfl | ht
      · exact bare_num (by omega) (lt_big (by omega))
      · rw [List.mem_singleton.mp ht]; exact mem_fixed (by decide +kernel)
theorem row_end : RowOf "end" ["end"] := ⟨(join_one _ _).symm, (fun z => nomatch z), fun t ht => by rw [List.mem_singleton.mp ht]; exact mem_fixed (by decide +kernel), by show 1 ≤ 30; decide⟩
theorem row_oft {p : Str × Int} (h1 : isWord p.1 = true) (h2 : 1 ≤ p.2 ∧ p.2 ≤ 9) : RowOf (oftRow p) ["often", num p.2, p.1] := by
  refine ⟨?_, (fun z => nomatch z), fun t ht => ?_, by show 3 ≤ 30; decide⟩
  · unfold oftRow
    rw [join_two, join_two, join_one]
    have e1 : ("often " : Str) = "often" ++ " " := by decide +kernel
    rw [e1]
    simp only [Str.append_assoc]
  · rcases List.mem_cons.mp ht with rfl | ht
    · exact mem_fixed (by decide +kernel)
    rcases List.mem_cons.mp ht with rfl | ht
    · exact bare_num (by omega) (lt_big (by omega))
    · rw [List.mem_singleton.mp ht]; exact bare_word h1
theorem take_of {s s' : RS} {row : Str} {ps t : List Str} (h : RowOf row ps) (e : s.parts ps = some s') : run s (row :: t) = run s' t := by
  show (match s.take row with | none => none | some s' => run s' t) = _
  unfold RS.take
  rw [h.split, e]
theorem num_ne_fixed {n : Int} (h0 : 0 ≤ n) (h1 : n < 10 ^ 60) {t : Str} (ht : ∃ c ∈ cs t, 97 ≤ c) : num n ≠ t := fun z => by
  obtain ⟨c, hc, h⟩ := ht
  rw [← z] at hc
  have := (num_text h0 h1).digs c hc
  omega
theorem fixed_letter : ∀ t ∈ fixed, ∃ c ∈ t.cps.toList, 97 ≤ c := by decide +kernel
theorem letter_of {t : Str} (h : fixed.contains t = true) : ∃ c ∈ cs t, 97 ≤ c := fixed_letter t (List.contains_iff_mem.mp h)
theorem step_leaf {s : RS} {l : Leaf} (h : l.Good) (hr : s.rule = none) (hroom : s.room = true) (hl : s.leaves < 16) : s.parts (leafParts l) = some (RS.put { s with leaves := s.leaves + 1 } (.leaf l)) := by
  have hw : 0 ≤ Leaf.want l ∧ Leaf.want l ≤ 60 := by
    cases l with
    | frm n ws a b c => exact h.2.1
    | off n ws b c => exact h.2.2.1
  have ne : ∀ {t : Str}, fixed.contains t = true → num (Leaf.want l) ≠ t := fun ht => num_ne_fixed hw.1 (lt_big hw.2) (letter_of ht)
  rw [parts_leaf (ps := leafParts l) hr (fun z => ne (t := "often") (by decide +kernel) (Option.some.inj z)) (fun z => z.elim (fun z => ne (t := "all") (by decide +kernel) (Option.some.inj z)) (fun z => ne (t := "some") (by decide +kernel) (Option.some.inj z))) (fun z => ne (t := "end") (by decide +kernel) (List.cons.inj z).1), readLeaf_parts h]
  show (if s.leaves = 16 ∨ s.room = false then none else some (RS.put { s with leaves := s.leaves + 1 } (.leaf l))) = _
  rw [if_neg (fun z => z.elim (fun z => by omega) (fun z => by rw [hroom] at z; cases z))]
theorem step_head {s : RS} {g : GHead} (hg : ∀ n, g = .some n → 1 ≤ n ∧ n ≤ 16) (hr : s.rule = none) (hroom : s.room = true) (hl : s.stack.length < 6) : s.parts (headParts g) = some { s with stack := ⟨g, []⟩ :: s.stack } := by
  have n1 : ("all" : Str) ≠ "often" := by decide +kernel
  have n2 : ("some" : Str) ≠ "often" := by decide +kernel
  have eg : readGroup (headParts g) = some g := by
    cases g with
    | all => exact readGroup_all
    | some n =>
      have hn := hg n rfl
      show readGroup ["some", num n, "of"] = _
      rw [readGroup_some rfl rfl, readNum_num (by omega) (lt_big (by omega)) hn.1 hn.2]
      rfl
  rw [parts_group hr ?_ ?_, eg]
  · show (if s.stack.length = 6 ∨ s.room = false then none else some { s with stack := ⟨g, []⟩ :: s.stack }) = _
    rw [if_neg (fun z => z.elim (fun z => by omega) (fun z => by rw [hroom] at z; cases z))]
  · cases g with
    | all => exact fun z => n1 (Option.some.inj z)
    | some n => exact fun z => n2 (Option.some.inj z)
  · cases g with
    | all => exact .inl rfl
    | some n => exact .inr rfl
mutual
theorem run_rule : ∀ (r : Rule) (s : RS) (t : List Str), r.Good → s.rule = none → s.room = true → s.stack.length + r.depth ≤ 6 → s.leaves + r.leaves.length ≤ 16 → run s (ruleRows r ++ t) = run (RS.put { s with leaves := s.leaves + r.leaves.length } r) t
  | .leaf l, s, t, h, hr, hroom, _, hl => by
    have e1 : (Rule.leaf l).leaves = [l] := by unfold Rule.leaves; rfl
    rw [e1] at hl ⊢
    have e2 : ruleRows (.leaf l) = [leafRow l] := by unfold ruleRows; rfl
    rw [e2]
    unfold Rule.Good at h
    exact take_of (row_leaf h) (step_leaf h hr hroom (by simp only [List.length_cons, List.length_nil] at hl; omega))
  | .allr rs, s, t, h, hr, hroom, hd, hl => by
    have e1 : (Rule.allr rs).leaves = Rule.leavess rs := by unfold Rule.leaves; rfl
    have e2 : ruleRows (.allr rs) = headRow .all :: (rulesRows rs ++ (["end"] : List Str)) := by unfold ruleRows; rfl
    have e3 : (Rule.allr rs).depth = Rule.depths rs + 1 := by unfold Rule.depth; rfl
    rw [e3] at hd
    rw [e1] at hl ⊢
    rw [e2]
    unfold Rule.Good at h
    rw [List.cons_append, take_of (row_head (g := .all) (fun n z => nomatch z)) (step_head (fun n z => nomatch z) hr hroom (by omega)), List.append_assoc]
    rw [run_rules rs ⟨s.oftens, ⟨.all, []⟩ :: s.stack, s.leaves, s.rule⟩ .all [] s.stack ((["end"] : List Str) ++ t) h.2.2 rfl hr (by show s.stack.length + 1 + _ ≤ 6; omega) hl (by simpa using h.2.1)]
    refine take_of row_end ?_
    rw [parts_end (by exact hr) rfl, fin_cons (g := ⟨.all, [] ++ rs⟩) (gs := s.stack) rfl]
    have hp : 0 < rs.length := List.length_pos_iff.mpr h.1
    rw [if_neg (by show ¬ ((([] ++ rs).length : Nat) : Int) < 1; rw [List.nil_append]; omega)]
    rfl
  | .somr n rs, s, t, h, hr, hroom, hd, hl => by
    have e1 : (Rule.somr n rs).leaves = Rule.leavess rs := by unfold Rule.leaves; rfl
    have e2 : ruleRows (.somr n rs) = headRow (.some n) :: (rulesRows rs ++ (["end"] : List Str)) := by unfold ruleRows; rfl
    have e3 : (Rule.somr n rs).depth = Rule.depths rs + 1 := by unfold Rule.depth; rfl
    rw [e3] at hd
    rw [e1] at hl ⊢
    rw [e2]
    unfold Rule.Good at h
    have hn : ∀ m, GHead.some n = .some m → 1 ≤ m ∧ m ≤ 16 := fun m z => by
      have := GHead.some.inj z
      have := h.1
      have := h.2.1
      omega
    rw [List.cons_append, take_of (row_head hn) (step_head hn hr hroom (by omega)), List.append_assoc]
    rw [run_rules rs ⟨s.oftens, ⟨.some n, []⟩ :: s.stack, s.leaves, s.rule⟩ (.some n) [] s.stack ((["end"] : List Str) ++ t) h.2.2 rfl hr (by show s.stack.length + 1 + _ ≤ 6; omega) hl (by simpa using h.2.1)]
    refine take_of row_end ?_
    rw [parts_end (by exact hr) rfl, fin_cons (g := ⟨.some n, [] ++ rs⟩) (gs := s.stack) rfl]
    have := h.1
    rw [if_neg (by show ¬ ((([] ++ rs).length : Nat) : Int) < n; rw [List.nil_append]; omega)]
    rfl
theorem run_rules : ∀ (rs : List Rule) (s : RS) (g : GHead) (done : List Rule) (st : List Grp) (t : List Str), Rule.Goods rs → s.stack = ⟨g, done⟩ :: st → s.rule = none → s.stack.length + Rule.depths rs ≤ 6 → s.leaves + (Rule.leavess rs).length ≤ 16 → done.length + rs.length ≤ 16 →
    run s (rulesRows rs ++ t) = run { s with leaves := s.leaves + (Rule.leavess rs).length, stack := ⟨g, done ++ rs⟩ :: st } t
  | [], s, g, done, st, t, _, hs, _, _, _, _ => by
    rw [rulesRows_nil, List.nil_append, Rule.leavess_nil, List.append_nil, ← hs]
    rfl
  | r :: rs, s, g, done, st, t, h, hs, hr, hd, hl, hlen => by
    unfold Rule.Goods at h
    have hd' : s.stack.length + max r.depth (Rule.depths rs) ≤ 6 := by
      have e : Rule.depths (r :: rs) = max r.depth (Rule.depths rs) := by simp only [Rule.depths]
      rw [e] at hd
      exact hd
    rw [Rule.leavess_cons, List.length_append] at hl ⊢
    rw [List.length_cons] at hlen
    have hroom : s.room = true := by rw [room_cons hs]; exact decide_eq_true (by show done.length < 16; omega)
    rw [rulesRows_cons, List.append_assoc, run_rule r s (rulesRows rs ++ t) h.1 hr hroom (by omega) (by omega)]
    rw [put_cons (s := { s with leaves := s.leaves + r.leaves.length }) hs]
    have := run_rules rs { s with leaves := s.leaves + r.leaves.length, stack := ⟨g, done ++ [r]⟩ :: st } g (done ++ [r]) st t h.2 rfl hr (by show st.length + 1 + _ ≤ 6; rw [hs] at hd'; simp only [List.length_cons] at hd'; omega) (by show s.leaves + r.leaves.length + _ ≤ 16; omega) (by rw [List.length_append, List.length_singleton]; omega)
    rw [List.append_assoc] at this
    rw [show (s.leaves + (r.leaves.length + (Rule.leavess rs).length)) = s.leaves + r.leaves.length + (Rule.leavess rs).length by omega]
    exact this
end
theorem run_oftens : ∀ (os done : List (Str × Int)) (t : List Str), (∀ p ∈ os, isWord p.1 = true) → (∀ p ∈ os, 1 ≤ p.2 ∧ p.2 ≤ 9) → ((done ++ os).map (fun p => p.1)).Nodup → done.length + os.length ≤ 16 → run ⟨done, [], 0, none⟩ (os.map oftRow ++ t) = run ⟨done ++ os, [], 0, none⟩ t
  | [], done, t, _, _, _, _ => by rw [List.map_nil, List.nil_append, List.append_nil]
  | p :: os, done, t, h1, h2, h3, h4 => by
    rw [List.length_cons] at h4
    have hp1 := h1 p (List.mem_cons_self ..)
    have hp2 := h2 p (List.mem_cons_self ..)
    have hnd : p.1 ∉ done.map (fun p => p.1) := fun z => by
      rw [List.map_append] at h3
      exact (List.nodup_append.mp h3).2.2 p.1 z p.1 (by rw [List.map_cons]; exact List.mem_cons_self ..) rfl
    rw [List.map_cons, List.cons_append, take_of (row_oft hp1 hp2) (s' := ⟨done ++ [p], [], 0, none⟩) ?_]
    · have ih := run_oftens os (done ++ [p]) t (fun x hx => h1 x (List.mem_cons_of_mem _ hx)) (fun x hx => h2 x (List.mem_cons_of_mem _ hx)) (by rw [List.append_assoc]; exact h3) (by rw [List.length_append, List.length_singleton]; omega)
      rw [List.append_assoc] at ih
      exact ih
    · rw [parts_often rfl rfl, often_some rfl (by show done.length ≠ 16; omega) hp1 (readNum_num (by omega) (lt_big (by omega)) hp2.1 hp2.2)]
      show (if p.1 ∈ done.map (fun p => p.1) then none else some (⟨done ++ [(p.1, p.2)], [], 0, none⟩ : RS)) = _
      rw [if_neg hnd]
theorem run_course {c : Course} (h : c.Good) : run RS.new (courseRows c) = some ⟨c.oftens, [], c.rule.leaves.length, some c.rule⟩ := by
  unfold courseRows RS.new
  rw [run_oftens c.oftens [] (ruleRows c.rule) h.words h.nums (by rw [List.nil_append]; exact h.nodup) (by rw [List.length_nil]; have := h.few; omega), List.nil_append]
  have e := run_rule c.rule ⟨c.oftens, [], 0, none⟩ [] h.rule rfl rfl (by show 0 + _ ≤ 6; have := h.deep; omega) (by show 0 + _ ≤ 16; have := h.leaves; omega)
  rw [List.append_nil] at e
  rw [e, put_nil rfl]
  show some (⟨c.oftens, [], 0 + c.rule.leaves.length, some c.rule⟩ : RS) = _
  rw [Nat.zero_add]
end CT
namespace CT
open PySem L2 L3 L4 CW CF
def keyNums : Leaf → List (Str × Int)
  | .frm _ _ a b c => [("level", a), ("mark", b), ("worth", c)]
  | .off _ _ b c => [("mark", b), ("worth", c)]
theorem tail_flat (l : Leaf) : tailParts l = (keyNums l).flatMap fun p => keyParts p.1 p.2 := by
  cases l with
  | frm n ws a b c =>
    show _ = keyParts "level" a ++ (keyParts "mark" b ++ (keyParts "worth" c ++ []))
    rw [List.append_nil]
    rfl
  | off n ws b c =>
    show _ = keyParts "mark" b ++ (keyParts "worth" c ++ [])
    rw [List.append_nil]
    rfl
theorem keyNums_ok {l : Leaf} (h : l.Good) : ∀ p ∈ keyNums l, p.1 ∈ (["level", "mark", "worth"] : List Str) ∧ 0 ≤ p.2 ∧ p.2 < 10 ^ 60 := by
  cases l with
  | frm n ws a b c =>
    obtain ⟨g1, g2, g3, g4, g5⟩ := h
    intro p hp
    simp only [keyNums, List.mem_cons, List.not_mem_nil, or_false] at hp
    rcases hp with rfl | rfl | rfl
    · exact ⟨List.mem_cons_self .., g3⟩
    · exact ⟨List.mem_cons_of_mem _ (List.mem_cons_self ..), g4⟩
    · exact ⟨List.mem_cons_of_mem _ (List.mem_cons_of_mem _ (List.mem_cons_self ..)), by omega, lt_big (by omega)⟩
  | off n ws b c =>
    obtain ⟨g1, g0, g2, g4, g5⟩ := h
    intro p hp
    simp only [keyNums, List.mem_cons, List.not_mem_nil, or_false] at hp
    rcases hp with rfl | rfl
    · exact ⟨List.mem_cons_of_mem _ (List.mem_cons_self ..), g4⟩
    · exact ⟨List.mem_cons_of_mem _ (List.mem_cons_of_mem _ (List.mem_cons_self ..)), by omega, lt_big (by omega)⟩
theorem tl_nums (l : Leaf) : l.tl = (keyNums l).map fun p => V.int p.2 := by cases l <;> rfl
theorem keyNums_len (l : Leaf) : (keyNums l).length ≤ 3 ∧ (keyNums l).length = l.tl.length := by
  cases l with
  | frm n ws a b c => exact ⟨Nat.le_refl 3, rfl⟩
  | off n ws b c => exact ⟨Nat.le_succ 2, rfl⟩
theorem want_ok {l : Leaf} (h : l.Good) : 0 ≤ Leaf.want l ∧ Leaf.want l ≤ 60 := by
  cases l with
  | frm n ws a b c => exact h.2.1
  | off n ws b c => exact h.2.2.1
theorem words_good {l : Leaf} (h : l.Good) : WordsOk l.words := by
  cases l with
  | frm n ws a b c => exact h.1
  | off n ws b c => exact h.1
theorem hd_is (l : Leaf) (v : V) : l.items v = .str (Leaf.kind' l) :: .int (Leaf.want l) :: v :: l.tl := by cases l <;> rfl
mutual
theorem rows_len : ∀ {r : Rule}, r.Good → (ruleRows r).length ≤ r.leaves.length * (1 + 2 * r.depth)
  | .leaf l, _ => by
    have e1 : (Rule.leaf l).leaves = [l] := by unfold Rule.leaves; rfl
    have e2 : ruleRows (.leaf l) = [leafRow l] := by unfold ruleRows; rfl
    have e3 : (Rule.leaf l).depth = 0 := by unfold Rule.depth; rfl
    rw [e1, e2, e3]
    exact Nat.le_refl _
  | .allr rs, h => by
    have hne := Rule.leaves_ne h
    have e1 : (Rule.allr rs).leaves = Rule.leavess rs := by unfold Rule.leaves; rfl
    have e2 : ruleRows (.allr rs) = headRow .all :: (rulesRows rs ++ (["end"] : List Str)) := by unfold ruleRows; rfl
    have e3 : (Rule.allr rs).depth = Rule.depths rs + 1 := by unfold Rule.depth; rfl
    rw [e1] at hne
    unfold Rule.Good at h
    have ih := rowss_len h.2.2
    have hp : 0 < (Rule.leavess rs).length := List.length_pos_iff.mpr hne
    rw [e1, e2, e3, List.length_cons, List.length_append, List.length_singleton]
    rw [show 1 + 2 * (Rule.depths rs + 1) = (1 + 2 * Rule.depths rs) + 2 by omega, Nat.mul_add]
    omega
  | .somr n rs, h => by
    have hne := Rule.leaves_ne h
    have e1 : (Rule.somr n rs).leaves = Rule.leavess rs := by unfold Rule.leaves; rfl
    have e2 : ruleRows (.somr n rs) = headRow (.some n) :: (rulesRows rs ++ (["end"] : List Str)) := by unfold ruleRows; rfl
    have e3 : (Rule.somr n rs).depth = Rule.depths rs + 1 := by unfold Rule.depth; rfl
    rw [e1] at hne
    unfold Rule.Good at h
    have ih := rowss_len h.2.2
    have hp : 0 < (Rule.leavess rs).length := List.length_pos_iff.mpr hne
    rw [e1, e2, e3, List.length_cons, List.length_append, List.length_singleton]
    rw [show 1 + 2 * (Rule.depths rs + 1) = (1 + 2 * Rule.depths rs) + 2 by omega, Nat.mul_add]
    omega
theorem rowss_len : ∀ {rs : List Rule}, Rule.Goods rs → (rulesRows rs).length ≤ (Rule.leavess rs).length * (1 + 2 * Rule.depths rs)
  | [], _ => by rw [rulesRows_nil]; exact Nat.zero_le _
  | r :: rs, h => by
    unfold Rule.Goods at h
    have h1 := rows_len h.1
    have h2 := rowss_len h.2
    have e : Rule.depths (r :: rs) = max r.depth (Rule.depths rs) := by simp only [Rule.depths]
    rw [rulesRows_cons, Rule.leavess_cons, List.length_append, List.length_append, e, Nat.add_mul]
    have m1 : r.leaves.length * (1 + 2 * r.depth) ≤ r.leaves.length * (1 + 2 * max r.depth (Rule.depths rs)) := Nat.mul_le_mul_left _ (by omega)
    have m2 : (Rule.leavess rs).length * (1 + 2 * Rule.depths rs) ≤ (Rule.leavess rs).length * (1 + 2 * max r.depth (Rule.depths rs)) := Nat.mul_le_mul_left _ (by omega)
    omega
end
mutual
theorem rule_rows : ∀ {r : Rule}, r.Good → ∀ x ∈ ruleRows r, ∃ ps, RowOf x ps
  | .leaf l, h, x, hx => by
    unfold ruleRows at hx
    unfold Rule.Good at h
    rw [List.mem_singleton.mp hx]
    exact ⟨_, row_leaf h⟩
  | .allr rs, h, x, hx => by
    have e2 : ruleRows (.allr rs) = headRow .all :: (rulesRows rs ++ (["end"] : List Str)) := by unfold ruleRows; rfl
    rw [e2] at hx
    unfold Rule.Good at h
    rcases List.mem_cons.mp hx with rfl | hx
    · exact ⟨_, row_head (fun n z => nomatch z)⟩
    rcases List.mem_append.mp hx with hx | hx
    · exact rules_rows h.2.2 x hx
    · rw [List.mem_singleton.mp hx]; exact ⟨_, row_end⟩
  | .somr n rs, h, x, hx => by
    have e2 : ruleRows (.somr n rs) = headRow (.some n) :: (rulesRows rs ++ (["end"] : List Str)) := by unfold ruleRows; rfl
    rw [e2] at hx
    unfold Rule.Good at h
    rcases List.mem_cons.mp hx with rfl | hx
    · exact ⟨_, row_head (fun m z => by have := GHead.some.inj z; have := h.1; have := h.2.1; omega)⟩
    rcases List.mem_append.mp hx with hx | hx
    · exact rules_rows h.2.2 x hx
    · rw [List.mem_singleton.mp hx]; exact ⟨_, row_end⟩
theorem rules_rows : ∀ {rs : List Rule}, Rule.Goods rs → ∀ x ∈ rulesRows rs, ∃ ps, RowOf x ps
  | [], _, x, hx => by rw [rulesRows_nil] at hx; cases hx
  | r :: rs, h, x, hx => by
    unfold Rule.Goods at h
    rw [rulesRows_cons] at hx
    rcases List.mem_append.mp hx with hx | hx
    · exact rule_rows h.1 x hx
    · exact rules_rows h.2 x hx
end
theorem course_rows {c : Course} (h : c.Good) : (∀ x ∈ courseRows c, ∃ ps, RowOf x ps) ∧ (courseRows c).length ≤ 300 ∧ courseRows c ≠ [] := by
  unfold courseRows
  refine ⟨fun x hx => ?_, ?_, fun z => ?_⟩
  · rcases List.mem_append.mp hx with hx | hx
    · obtain ⟨p, hp, rfl⟩ := List.mem_map.mp hx
      exact ⟨_, row_oft (h.words p hp) (h.nums p hp)⟩
    · exact rule_rows h.rule x hx
  · have h1 := rows_len h.rule
    have h2 := h.few
    have h3 : c.rule.leaves.length * (1 + 2 * c.rule.depth) ≤ 16 * 13 := Nat.mul_le_mul h.leaves (by have := h.deep; omega)
    rw [List.length_append, List.length_map]
    omega
  · have := (List.append_eq_nil_iff.mp z).2
    cases hr : c.rule with
    | leaf l => rw [hr] at this; unfold ruleRows at this; cases this
    | allr rs => rw [hr] at this; unfold ruleRows at this; cases this
    | somr n rs => rw [hr] at this; unfold ruleRows at this; cases this
end CT
set_option maxHeartbeats 4000000
namespace K21
open PySem PySem.Spec PyProof.Rows L2 L3 L4 L5
seal L2.PE L2.PT L2.PW L2.PA L2.PS L2.PSs L2.PG L2.PGs L2.PI L2.PC L2.PO L3.PF L3.PIfs L2.OpR L2.CallR L2.IxR L2.SlR
def top (i : Nat) : Stmt := PySem.Challenge.pw_court_k21_whole_courses_read_back.main.body.getD i (.Pass ⟨0, 0, 0, 0⟩)
abbrev s_q9 : Stmt := (top 1)
def N_q9 : List Str := ["rule"]
theorem sc_q9 : FnScope N_q9 ["rule"] (defScope s_q9) := ⟨rfl, rfl, rfl, by decide +kernel, rfl, by decide +kernel, by decide +kernel⟩
abbrev s_q32 : Stmt := (top 2)
def N_q32 : List Str := ["group"]
theorem sc_q32 : FnScope N_q32 ["group"] (defScope s_q32) := ⟨rfl, rfl, rfl, by decide +kernel, rfl, by decide +kernel, by decide +kernel⟩
abbrev s_q25 : Stmt := (top 12)
def N_q25 : List Str := ["text", "signs"]
theorem sc_q25 : FnScope N_q25 ["text", "signs"] (defScope s_q25) := ⟨rfl, rfl, rfl, by decide +kernel, rfl, by decide +kernel, by decide +kernel⟩
abbrev s_q11 : Stmt := (top 13)
def N_q11 : List Str := ["thing"]
theorem sc_q11 : FnScope N_q11 ["thing"] (defScope s_q11) := ⟨rfl, rfl, rfl, by decide +kernel, rfl, by decide +kernel, by decide +kernel⟩
abbrev s_q10 : Stmt := (top 14)
def N_q10 : List Str := ["text"]
theorem sc_q10 : FnScope N_q10 ["text"] (defScope s_q10) := ⟨rfl, rfl, rfl, by decide +kernel, rfl, by decide +kernel, by decide +kernel⟩
abbrev s_q29 : Stmt := (top 26)
def N_q29 : List Str := ["text", "least", "most", "number"]
theorem sc_q29 : FnScope N_q29 ["text", "least", "most"] (defScope s_q29) := ⟨rfl, rfl, rfl, by decide +kernel, rfl, by decide +kernel, by decide +kernel⟩
abbrev s_q8 : Stmt := (top 27)
def N_q8 : List Str := ["words"]
theorem sc_q8 : FnScope N_q8 ["words"] (defScope s_q8) := ⟨rfl, rfl, rfl, by decide +kernel, rfl, by decide +kernel, by decide +kernel⟩
abbrev s_q36 : Stmt := (top 28)
def N_q36 : List Str := ["parts", "words"]
theorem sc_q36 : FnScope N_q36 ["parts"] (defScope s_q36) := ⟨rfl, rfl, rfl, by decide +kernel, rfl, by decide +kernel, by decide +kernel⟩
abbrev s_q30 : Stmt := (top 29)
def N_q30 : List Str := ["parts", "keys", "values", "place", "key"]
theorem sc_q30 : FnScope N_q30 ["parts", "keys"] (defScope s_q30) := ⟨rfl, rfl, rfl, by decide +kernel, rfl, by decide +kernel, by decide +kernel⟩
abbrev s_q28 : Stmt := (top 30)
def N_q28 : List Str := ["parts", "kind", "want", "words", "values"]
theorem sc_q28 : FnScope N_q28 ["parts"] (defScope s_q28) := ⟨rfl, rfl, rfl, by decide +kernel, rfl, by decide +kernel, by decide +kernel⟩
abbrev s_q27 : Stmt := (top 31)
def N_q27 : List Str := ["parts", "many"]
theorem sc_q27 : FnScope N_q27 ["parts"] (defScope s_q27) := ⟨rfl, rfl, rfl, by decide +kernel, rfl, by decide +kernel, by decide +kernel⟩
abbrev s_q24 : Stmt := (top 32)
def N_q24 : List Str := ["group"]
theorem sc_q24 : FnScope N_q24 ["group"] (defScope s_q24) := ⟨rfl, rfl, rfl, by decide +kernel, rfl, by decide +kernel, by decide +kernel⟩
abbrev s_q0 : Stmt := (inClass (top 33) 0)
def N_q0 : List Str := ["self"]
theorem sc_q0 : FnScope N_q0 ["self"] (defScope s_q0) := ⟨rfl, rfl, rfl, by decide +kernel, rfl, by decide +kernel, by decide +kernel⟩
abbrev s_q3 : Stmt := (inClass (top 33) 1)
def N_q3 : List Str := ["self", "row", "parts"]
theorem sc_q3 : FnScope N_q3 ["self", "row"] (defScope s_q3) := ⟨rfl, rfl, rfl, by decide +kernel, rfl, by decide +kernel, by decide +kernel⟩
abbrev s_q7 : Stmt := (inClass (top 33) 2)
def N_q7 : List Str := ["self", "parts", "often"]
theorem sc_q7 : FnScope N_q7 ["self", "parts"] (defScope s_q7) := ⟨rfl, rfl, rfl, by decide +kernel, rfl, by decide +kernel, by decide +kernel⟩
abbrev s_q5 : Stmt := (inClass (top 33) 3)
def N_q5 : List Str := ["self", "group"]
theorem sc_q5 : FnScope N_q5 ["self", "group"] (defScope s_q5) := ⟨rfl, rfl, rfl, by decide +kernel, rfl, by decide +kernel, by decide +kernel⟩
abbrev s_q4 : Stmt := (inClass (top 33) 4)
def N_q4 : List Str := ["self", "group"]
theorem sc_q4 : FnScope N_q4 ["self"] (defScope s_q4) := ⟨rfl, rfl, rfl, by decide +kernel, rfl, by decide +kernel, by decide +kernel⟩
abbrev s_q6 : Stmt := (inClass (top 33) 5)
def N_q6 : List Str := ["self", "leaf"]
theorem sc_q6 : FnScope N_q6 ["self", "leaf"] (defScope s_q6) := ⟨rfl, rfl, rfl, by decide +kernel, rfl, by decide +kernel, by decide +kernel⟩
abbrev s_q1 : Stmt := (inClass (top 33) 6)
def N_q1 : List Str := ["self"]
theorem sc_q1 : FnScope N_q1 ["self"] (defScope s_q1) := ⟨rfl, rfl, rfl, by decide +kernel, rfl, by decide +kernel, by decide +kernel⟩
abbrev s_q2 : Stmt := (inClass (top 33) 7)
def N_q2 : List Str := ["self", "rule"]
theorem sc_q2 : FnScope N_q2 ["self", "rule"] (defScope s_q2) := ⟨rfl, rfl, rfl, by decide +kernel, rfl, by decide +kernel, by decide +kernel⟩
abbrev s_q26 : Stmt := (top 34)
def N_q26 : List Str := ["text", "reader", "rows", "number", "row"]
theorem sc_q26 : FnScope N_q26 ["text"] (defScope s_q26) := ⟨rfl, rfl, rfl, by decide +kernel, rfl, by decide +kernel, by decide +kernel⟩
abbrev s_q35 : Stmt := (top 35)
def N_q35 : List Str := ["leaf", "shown", "key", "value"]
theorem sc_q35 : FnScope N_q35 ["leaf"] (defScope s_q35) := ⟨rfl, rfl, rfl, by decide +kernel, rfl, by decide +kernel, by decide +kernel⟩
abbrev s_q34 : Stmt := (top 36)
def N_q34 : List Str := ["group", "many"]
theorem sc_q34 : FnScope N_q34 ["group"] (defScope s_q34) := ⟨rfl, rfl, rfl, by decide +kernel, rfl, by decide +kernel, by decide +kernel⟩
abbrev s_q31 : Stmt := (top 37)
def N_q31 : List Str := ["rule", "rows", "inner"]
theorem sc_q31 : FnScope N_q31 ["rule"] (defScope s_q31) := ⟨rfl, rfl, rfl, by decide +kernel, rfl, by decide +kernel, by decide +kernel⟩
abbrev s_q33 : Stmt := (top 38)
def N_q33 : List Str := ["course", "rows"]
theorem sc_q33 : FnScope N_q33 ["course"] (defScope s_q33) := ⟨rfl, rfl, rfl, by decide +kernel, rfl, by decide +kernel, by decide +kernel⟩
abbrev s_q14 : Stmt := (top 40)
def N_q14 : List Str := ["_law_script", "_law_k"]
theorem sc_q14 : FnScope N_q14 ["_law_script", "_law_k"] (defScope s_q14) := ⟨rfl, rfl, rfl, by decide +kernel, rfl, by decide +kernel, by decide +kernel⟩
abbrev s_q23 : Stmt := (top 41)
def N_q23 : List Str := ["_law_cell", "_law_k", "_law_size", "_law_place"]
theorem sc_q23 : FnScope N_q23 ["_law_cell", "_law_k"] (defScope s_q23) := ⟨rfl, rfl, rfl, by decide +kernel, rfl, by decide +kernel, by decide +kernel⟩
abbrev s_q21 : Stmt := (top 42)
def N_q21 : List Str := ["_law_cell"]
theorem sc_q21 : FnScope N_q21 ["_law_cell"] (defScope s_q21) := ⟨rfl, rfl, rfl, by decide +kernel, rfl, by decide +kernel, by decide +kernel⟩
abbrev s_q18 : Stmt := (top 43)
def N_q18 : List Str := ["_law_head", "_law_cell", "_law_words", "_law_k", "_law_word_here", "_law_want", "_law_worth"]
theorem sc_q18 : FnScope N_q18 ["_law_head", "_law_cell"] (defScope s_q18) := ⟨rfl, rfl, rfl, by decide +kernel, rfl, by decide +kernel, by decide +kernel⟩
abbrev s_q15 : Stmt := (top 44)
def N_q15 : List Str := ["_law_frames", "_law_cell", "_law_last", "_law_rule_here"]
theorem sc_q15 : FnScope N_q15 ["_law_frames", "_law_cell"] (defScope s_q15) := ⟨rfl, rfl, rfl, by decide +kernel, rfl, by decide +kernel, by decide +kernel⟩
abbrev s_q22 : Stmt := (top 45)
def N_q22 : List Str := ["_law_head", "_law_cells", "_law_frames", "_law_leaves", "_law_cell"]
theorem sc_q22 : FnScope N_q22 ["_law_head", "_law_cells"] (defScope s_q22) := ⟨rfl, rfl, rfl, by decide +kernel, rfl, by decide +kernel, by decide +kernel⟩
abbrev s_q17 : Stmt := (top 46)
def N_q17 : List Str := ["_law_script", "_law_head", "_law_oftens", "_law_k"]
theorem sc_q17 : FnScope N_q17 ["_law_script"] (defScope s_q17) := ⟨rfl, rfl, rfl, by decide +kernel, rfl, by decide +kernel, by decide +kernel⟩
abbrev s_q19 : Stmt := (top 47)
def N_q19 : List Str := ["_law_leaf_here", "_law_line"]
theorem sc_q19 : FnScope N_q19 ["_law_leaf_here"] (defScope s_q19) := ⟨rfl, rfl, rfl, by decide +kernel, rfl, by decide +kernel, by decide +kernel⟩
abbrev s_q20 : Stmt := (top 48)
def N_q20 : List Str := ["_law_rule_here", "_law_lines_here", "_law_one"]
theorem sc_q20 : FnScope N_q20 ["_law_rule_here"] (defScope s_q20) := ⟨rfl, rfl, rfl, by decide +kernel, rfl, by decide +kernel, by decide +kernel⟩
abbrev s_q16 : Stmt := (top 49)
def N_q16 : List Str := ["_law_thing"]
theorem sc_q16 : FnScope N_q16 ["_law_thing"] (defScope s_q16) := ⟨rfl, rfl, rfl, by decide +kernel, rfl, by decide +kernel, by decide +kernel⟩
abbrev s_q13 : Stmt := (top 50)
def N_q13 : List Str := ["_law_found", "_law_due"]
theorem sc_q13 : FnScope N_q13 ["_law_found", "_law_due"] (defScope s_q13) := ⟨rfl, rfl, rfl, by decide +kernel, rfl, by decide +kernel, by decide +kernel⟩
abbrev s_q12 : Stmt := (top 51)
def N_q12 : List Str := ["_law_script", "_law_course_here", "_law_lines_here", "_law_handed", "_law_text", "_law_found"]
theorem sc_q12 : FnScope N_q12 ["_law_script"] (defScope s_q12) := ⟨rfl, rfl, rfl, by decide +kernel, rfl, by decide +kernel, by decide +kernel⟩
structure Adr where
  is_leaf : Addr
  rules_of : Addr
  only_of : Addr
  is_word : Addr
  is_number : Addr
  read_number : Addr
  are_words : Addr
  words_ahead : Addr
  read_values : Addr
  read_leaf : Addr
  read_group : Addr
  least_rules : Addr
  CourseReader___init__ : Addr
  CourseReader_take : Addr
  CourseReader_take_often : Addr
  CourseReader_take_group : Addr
  CourseReader_take_end : Addr
  CourseReader_take_leaf : Addr
  CourseReader_has_room : Addr
  CourseReader_put_rule : Addr
  read_course : Addr
  show_leaf : Addr
  show_head : Addr
  rows_of_rule : Addr
  show_course : Addr
  law_cell_at : Addr
  law_word : Addr
  law_number : Addr
  law_leaf : Addr
  law_closed : Addr
  law_rule : Addr
  law_course : Addr
  law_leaf_line : Addr
  law_lines : Addr
  law_copy : Addr
  law_alike : Addr
  C_CourseReader : Addr
  k_KEYS : Addr
  k_KEY_WORDS : Addr
  k_LEFT_OUT : Addr
  k_MOST_WRITTEN : Addr
  k_KEYS_0 : Addr
  k_KEYS_1 : Addr
structure Txt (K : PySem.W.Frag) (mg : Str → Option Value) (a : Adr) : Prop where
  m_q9 : mg "is_leaf" = some (.ref a.is_leaf)
  m_q32 : mg "rules_of" = some (.ref a.rules_of)
  m_q25 : mg "only_of" = some (.ref a.only_of)
  m_q11 : mg "is_word" = some (.ref a.is_word)
  m_q10 : mg "is_number" = some (.ref a.is_number)
  m_q29 : mg "read_number" = some (.ref a.read_number)
  m_q8 : mg "are_words" = some (.ref a.are_words)
  m_q36 : mg "words_ahead" = some (.ref a.words_ahead)
  m_q30 : mg "read_values" = some (.ref a.read_values)
  m_q28 : mg "read_leaf" = some (.ref a.read_leaf)
  m_q27 : mg "read_group" = some (.ref a.read_group)
  m_q24 : mg "least_rules" = some (.ref a.least_rules)
  m_q26 : mg "read_course" = some (.ref a.read_course)
  m_q35 : mg "show_leaf" = some (.ref a.show_leaf)
  m_q34 : mg "show_head" = some (.ref a.show_head)
  m_q31 : mg "rows_of_rule" = some (.ref a.rows_of_rule)
  m_q33 : mg "show_course" = some (.ref a.show_course)
  m_q14 : mg "_law_cell_at" = some (.ref a.law_cell_at)
  m_q23 : mg "_law_word" = some (.ref a.law_word)
  m_q21 : mg "_law_number" = some (.ref a.law_number)
  m_q18 : mg "_law_leaf" = some (.ref a.law_leaf)
  m_q15 : mg "_law_closed" = some (.ref a.law_closed)
  m_q22 : mg "_law_rule" = some (.ref a.law_rule)
  m_q17 : mg "_law_course" = some (.ref a.law_course)
  m_q19 : mg "_law_leaf_line" = some (.ref a.law_leaf_line)
  m_q20 : mg "_law_lines" = some (.ref a.law_lines)
  m_q16 : mg "_law_copy" = some (.ref a.law_copy)
  m_q13 : mg "_law_alike" = some (.ref a.law_alike)
  m_CourseReader : mg "CourseReader" = some (.ref a.C_CourseReader)
  cls_CourseReader : Cls K a.C_CourseReader
  mk_CourseReader : Mk K a.C_CourseReader a.CourseReader___init__
  meth_CourseReader_take : Meth K a.C_CourseReader "take" a.CourseReader_take
  meth_CourseReader_take_often : Meth K a.C_CourseReader "take_often" a.CourseReader_take_often
  meth_CourseReader_take_group : Meth K a.C_CourseReader "take_group" a.CourseReader_take_group
  meth_CourseReader_take_end : Meth K a.C_CourseReader "take_end" a.CourseReader_take_end
  meth_CourseReader_take_leaf : Meth K a.C_CourseReader "take_leaf" a.CourseReader_take_leaf
  meth_CourseReader_has_room : Meth K a.C_CourseReader "has_room" a.CourseReader_has_room
  meth_CourseReader_put_rule : Meth K a.C_CourseReader "put_rule" a.CourseReader_put_rule
  no_CourseReader_oftens : NoAttr K a.C_CourseReader "oftens"
  no_CourseReader_groups : NoAttr K a.C_CourseReader "groups"
  no_CourseReader_leaves : NoAttr K a.C_CourseReader "leaves"
  no_CourseReader_rule : NoAttr K a.C_CourseReader "rule"
  z_all : mg "all" = none
  z_bool : mg "bool" = none
  z_enumerate : mg "enumerate" = none
  z_int : mg "int" = none
  z_isinstance : mg "isinstance" = none
  z_len : mg "len" = none
  z_list : mg "list" = none
  z_range : mg "range" = none
  z_set : mg "set" = none
  z_str : mg "str" = none
  z_tuple : mg "tuple" = none
  z_zip : mg "zip" = none
  k_FIGURES : ∃ t, mg "FIGURES" = some (.str "0123456789" t)
  k_KEYS : mg "KEYS" = some (.ref a.k_KEYS)
  l_KEYS : L9.TabK K a.k_KEYS [("from", V.ref a.k_KEYS_0), ("of", V.ref a.k_KEYS_1)]
  l_KEYS_0 : ∀ H, SqT K H a.k_KEYS_0 [V.str "level", V.str "mark", V.str "worth"]
  l_KEYS_1 : ∀ H, SqT K H a.k_KEYS_1 [V.str "mark", V.str "worth"]
  k_KEY_WORDS : mg "KEY_WORDS" = some (.ref a.k_KEY_WORDS)
  l_KEY_WORDS : ∀ H, SqT K H a.k_KEY_WORDS [V.str "often", V.str "all", V.str "some", V.str "of", V.str "from", V.str "any", V.str "or", V.str "level", V.str "mark", V.str "worth", V.str "end"]
  k_LEFT_OUT : mg "LEFT_OUT" = some (.ref a.k_LEFT_OUT)
  l_LEFT_OUT : L9.TabK K a.k_LEFT_OUT [("level", V.int 0), ("mark", V.int 0), ("worth", V.int 1)]
  k_LETTERS : ∃ t, mg "LETTERS" = some (.str "abcdefghijklmnopqrstuvwxyz" t)
  k_MOST_FIGURES : ∃ t, mg "MOST_FIGURES" = some (.int 60 t)
  k_MOST_GROUPS : ∃ t, mg "MOST_GROUPS" = some (.int 6 t)
  k_MOST_LEAVES : ∃ t, mg "MOST_LEAVES" = some (.int 16 t)
  k_MOST_LETTERS : ∃ t, mg "MOST_LETTERS" = some (.int 12 t)
  k_MOST_OFTEN : ∃ t, mg "MOST_OFTEN" = some (.int 9 t)
  k_MOST_OFTENS : ∃ t, mg "MOST_OFTENS" = some (.int 16 t)
  k_MOST_RULES : ∃ t, mg "MOST_RULES" = some (.int 16 t)
  k_MOST_WANT : ∃ t, mg "MOST_WANT" = some (.int 60 t)
  k_MOST_WORDS : ∃ t, mg "MOST_WORDS" = some (.int 8 t)
  k_MOST_WRITTEN : mg "MOST_WRITTEN" = some (.ref a.k_MOST_WRITTEN)
  l_MOST_WRITTEN : L9.TabK K a.k_MOST_WRITTEN [("level", V.int 999999999999999999999999999999999999999999999999999999999999), ("mark", V.int 999999999999999999999999999999999999999999999999999999999999), ("worth", V.int 9)]
section
variable {P : Program} {w : World} {K : PySem.W.Frag} {mg : Str → Option Value} {base : Heap} {a : Adr}
def cellZ (ns : List Int) (k : Int) : Int := ns.getD k.toNat 0
def sp_q14 (K : PySem.W.Frag) : Sp := fun vs H Q _ => ∃ (a : Addr) (ns : List Int) (k : Int), vs = [.ref a, .int k] ∧ SqL K H a (ns.map V.int) ∧ ns.length ≤ 63 ∧ 0 ≤ k ∧ Q (.int (cellZ ns k)) H
theorem ok_q14 {f : Addr} {fd : FuncData} (F : Fun K "_law_cell_at" "_law_cell_at" s_q14 f fd) (T : Txt K mg a) : FnOk P w K mg base CX0 1 f fd ["_law_script", "_law_k"] (sp_q14 K) := by
  refine F.ok sc_q14 (fun vs H Q E h => ?_) (fun cdv A outer s H vs Q E hr h => ?_)
  · obtain ⟨a, ns, k, rfl, _⟩ := h
    rfl
  · obtain ⟨a, ns, k, rfl, hS, hl, h0, q⟩ := h
    refine ⟨_, (pss_cons (ps_if (pt_cmpR op_lt (pvA 1 (defScope s_q14) N_q14 rfl rfl) (pe_callBN (sc := defScope s_q14) call_len rfl (by decide +kernel) T.z_len bt_len (pa_cons (pvA 0 (defScope s_q14) N_q14 rfl rfl) pa_nil)) (nomark _)) (pss_one (ps_ret (pe_ix ix_seq (pvA 0 (defScope s_q14) N_q14 rfl rfl) (pvA 1 (defScope s_q14) N_q14 rfl rfl) (fun _ _ => rfl)))) pss_nil)
      (pss_one (ps_ret pe_int))), ?_⟩
    refine ⟨_, rfl, _, rfl, .ref a, ns.length, rfl, .inl ⟨_, hS, by simp⟩, _, _, rfl, rfl, _, rfl, ite2 (fun hlt => ?_) (fun hge => ?_)⟩
    · have hk : k < (ns.length : Int) := of_decide_eq_true hlt
      refine ⟨_, rfl, _, rfl, .inl ⟨a, _, k, .int (cellZ ns k), rfl, rfl, hS, ?_, q⟩⟩
      have hk' : k.toNat < ns.length := by omega
      have e : (k.toNat : Int) = k := Int.toNat_of_nonneg h0
      rw [← e]
      refine atI_nat ?_
      rw [List.getElem?_map, List.getElem?_eq_getElem hk']
      unfold cellZ
      rw [Int.toNat_natCast, List.getD_eq_getElem?_getD, List.getElem?_eq_getElem hk']
      rfl
    · have hk : ¬ k < (ns.length : Int) := fun z => hge (decide_eq_true z)
      have e : cellZ ns k = 0 := by
        unfold cellZ
        rw [List.getD_eq_getElem?_getD, List.getElem?_eq_none (by omega)]
        rfl
      rw [e] at q
      exact q
abbrev wordOf := CN.word4
theorem word_ok (c k : Int) : CW.isWord (wordOf c k) = true := CN.word4_ok c k
theorem word_inj {c i j : Int} (h0 : 0 ≤ i) (h1 : i < 8) (h2 : 0 ≤ j) (h3 : j < 8) (e : wordOf c i = wordOf c j) : i = j := CN.word4_inj h0 h1 h2 h3 e
def sp_q23 (_ : PySem.W.Frag) : Sp := fun vs H Q _ => ∃ c k : Int, vs = [.int c, .int k] ∧ ∀ H', Same H H' → Q (.str (wordOf c k)) H'
theorem ok_q23 {f : Addr} {fd : FuncData} (F : Fun K "_law_word" "_law_word" s_q23 f fd) (T : Txt K mg a) : FnOk P w K mg base CX0 1 f fd ["_law_cell", "_law_k"] (sp_q23 K) := by
  refine F.ok sc_q23 (fun vs H Q E h => ?_) (fun cdv A outer s H vs Q E hr h => ?_)
  · obtain ⟨c, k, rfl, _⟩ := h
    rfl
  · obtain ⟨c, k, rfl, q⟩ := h
    refine ⟨_, (pss_cons (ps_if (pt_cmpR op_eq (pe_op op_mod (pe_op op_fdiv (pvA 0 (defScope s_q23) N_q23 rfl rfl) pe_int) pe_int) pe_int (nomark _)) (pss_one (ps_ret (pe_op op_add_str pe_str (pe_op op_mul_str pe_str (pe_op op_add pe_int (pe_op op_mod (pvA 1 (defScope s_q23) N_q23 rfl rfl) pe_int)))))) pss_nil)
      (pss_cons (ps_if (pt_cmpR op_eq (pe_op op_mod (pe_op op_fdiv (pvA 0 (defScope s_q23) N_q23 rfl rfl) pe_int) pe_int) pe_int (nomark _)) (pss_one (ps_ret (pe_op op_add_str (pe_op op_mul_str pe_str (pe_op op_add pe_int (pe_op op_mod (pvA 1 (defScope s_q23) N_q23 rfl rfl) pe_int))) pe_str))) pss_nil)
      (pss_cons (ps_if (pt_cmpR op_eq (pe_op op_mod (pe_op op_fdiv (pvA 0 (defScope s_q23) N_q23 rfl rfl) pe_int) pe_int) pe_int (nomark _)) (pss_one (ps_ret (pe_ix ix_list (pe_lst (pa_cons pe_str (pa_cons pe_str (pa_cons pe_str (pa_cons pe_str (pa_cons pe_str (pa_cons pe_str (pa_cons pe_str (pa_cons pe_str pa_nil))))))))) (pe_op op_mod (pvA 1 (defScope s_q23) N_q23 rfl rfl) pe_int) (fun _ _ => rfl)))) pss_nil)
      (pss_cons (psN (i := 2) (sc := defScope s_q23) (M := N_q23) rfl rfl (by decide +kernel) (pe_op op_add pe_int (pe_op op_mod (pvA 0 (defScope s_q23) N_q23 rfl rfl) pe_int)))
      (pss_cons (psN (i := 3) (sc := defScope s_q23) (M := N_q23) rfl rfl (by decide +kernel) (pe_op op_mod (pe_op op_fdiv (pvA 0 (defScope s_q23) N_q23 rfl rfl) pe_int) (pvA 2 (defScope s_q23) N_q23 rfl rfl)))
      (pss_one (ps_ret (pe_op op_add_str (pe_op op_add_str (pe_op op_mul_str pe_str (pvA 3 (defScope s_q23) N_q23 rfl rfl)) (pe_ix ix_str pe_str (pe_op op_mod (pvA 1 (defScope s_q23) N_q23 rfl rfl) pe_int) (fun _ _ => rfl))) (pe_op op_mul_str pe_str (pe_op op_sub (pe_op op_sub (pvA 2 (defScope s_q23) N_q23 rfl rfl) pe_int) (pvA 3 (defScope s_q23) N_q23 rfl rfl))))))))))), ?_⟩
    have hs : sizeLine = 16777216 := sizeLine_eq
    have k0 : 0 ≤ k % 8 := Int.emod_nonneg _ (by decide)
    have k1 : k % 8 < 8 := Int.emod_lt_of_pos _ (by decide)
    have ml := CN.mul_i_len (1 + k % 8)
    unfold wordOf CN.word4 at q
    refine ⟨_, rfl, _, _, rfl, rfl, ⟨by decide, by decide⟩, _, _, rfl, rfl, (by show (0 : Int) < 4; decide), rfl, _, rfl, ite2 (fun h1 => ?_) (fun h1 => ?_)⟩
    · rw [if_pos (V.int.inj (of_decide_eq_true h1))] at q
      refine ⟨_, rfl, _, _, rfl, rfl, (by show (0 : Int) < 8; decide), _, _, rfl, rfl, _, _, rfl, rfl, by omega, by omega, ?_, _, _, rfl, rfl, ?_, q _ (Same.refl _)⟩
      · rw [CN.i_len]; omega
      · rw [CN.math_len, ml]; omega
    rw [if_neg (fun z => h1 (decide_eq_true (congrArg V.int z)))] at q
    refine ⟨_, rfl, _, _, rfl, rfl, ⟨by decide, by decide⟩, _, _, rfl, rfl, (by show (0 : Int) < 4; decide), rfl, _, rfl, ite2 (fun h2 => ?_) (fun h2 => ?_)⟩
    · rw [if_pos (V.int.inj (of_decide_eq_true h2))] at q
      refine ⟨_, rfl, _, _, rfl, rfl, (by show (0 : Int) < 8; decide), _, _, rfl, rfl, _, _, rfl, rfl, by omega, by omega, ?_, _, _, rfl, rfl, ?_, q _ (Same.refl _)⟩
      · rw [CN.i_len]; omega
      · rw [CN.art_len, ml]; omega
    rw [if_neg (fun z => h2 (decide_eq_true (congrArg V.int z)))] at q
    refine ⟨_, rfl, _, _, rfl, rfl, ⟨by decide, by decide⟩, _, _, rfl, rfl, (by show (0 : Int) < 4; decide), rfl, _, rfl, ite2 (fun h3 => ?_) (fun h3 => ?_)⟩
    · rw [if_pos (V.int.inj (of_decide_eq_true h3))] at q
      exact ⟨by decide, fun p hp => ⟨_, rfl, _, _, rfl, rfl, (by show (0 : Int) < 8; decide), p, _, _, _, rfl, rfl, SqL.of upd_same, (CN.eight_mem k).2, q _ (Same.upd0 hp)⟩⟩
    rw [if_neg (fun z => h3 (decide_eq_true (congrArg V.int z)))] at q
    have c0 : 0 ≤ c % 12 := Int.emod_nonneg _ (by decide)
    have c1 : c % 12 < 12 := Int.emod_lt_of_pos _ (by decide)
    have hp : (0 : Int) < 1 + c % 12 := by omega
    have pq := CN.place_q c
    refine ⟨_, rfl, _, _, rfl, rfl, (by show (0 : Int) < 12; decide), _, _, rfl, rfl, ?_⟩
    refine ⟨_, rfl, _, _, rfl, rfl, ⟨by decide, by decide⟩, _, rfl, _, _, rfl, rfl, hp, ?_⟩
    have t1 : CF.Tx 12 (PySem.Txt.mul "q" (CN.placeQ c)) := by rw [CN.q_eq]; exact CF.Tx.mul (by decide) (by omega)
    have t3 : CF.Tx 11 (PySem.Txt.mul "q" (1 + c % 12 - 1 - CN.placeQ c)) := by rw [CN.q_eq]; exact CF.Tx.mul (by decide) (by omega)
    rw [show (fun i j : Int => V.int (i % j)) (c / 12) (1 + c % 12) = V.int (CN.placeQ c) from rfl]
    refine ⟨_, rfl, _, _, rfl, rfl, by omega, by omega, ?_, _, rfl, _, _, rfl, rfl, (by show (0 : Int) < 8; decide), _, _, _, rfl, rfl, by rw [CN.abc_len]; omega, (CN.abc_at k).1, _, _, rfl, rfl, ?_, ?_⟩
    · rw [CN.q_len]; omega
    · have := t1.2
      show _ + 1 ≤ _
      omega
    refine ⟨_, rfl, _, _, rfl, rfl, _, rfl, _, _, rfl, rfl, _, _, rfl, rfl, by omega, by omega, ?_, _, _, rfl, rfl, ?_, q _ (Same.refl _)⟩
    · rw [CN.q_len]; omega
    · have := t1.2
      have := t3.2
      rw [Str.length_append]
      show _ + 1 + _ ≤ _
      omega
def sp_q21 (_ : PySem.W.Frag) : Sp := fun vs H Q _ => ∃ c : Int, vs = [.int c] ∧ ∀ z : Int, 0 ≤ z → z < 10 ^ 60 → Q (.int z) H
theorem ok_q21 {f : Addr} {fd : FuncData} (F : Fun K "_law_number" "_law_number" s_q21 f fd) (T : Txt K mg a) : FnOk P w K mg base CX0 1 f fd ["_law_cell"] (sp_q21 K) := by
  refine F.ok sc_q21 (fun vs H Q E h => ?_) (fun cdv A outer s H vs Q E hr h => ?_)
  · obtain ⟨c, rfl, _⟩ := h
    rfl
  · obtain ⟨c, rfl, q⟩ := h
    refine ⟨_, (pss_cons (ps_if (pt_cmpR op_gt (pe_op op_mod (pvA 0 (defScope s_q21) N_q21 rfl rfl) pe_int) pe_int (nomark _)) (pss_one (ps_ret (pe_op op_mod (pe_op op_fdiv (pvA 0 (defScope s_q21) N_q21 rfl rfl) pe_int) pe_int))) pss_nil)
      (pss_one (ps_ret (pe_op op_mod (pe_op op_fdiv (pvA 0 (defScope s_q21) N_q21 rfl rfl) pe_int) (pe_op op_pow pe_int pe_int))))), ?_⟩
    refine ⟨_, rfl, _, _, rfl, rfl, (by show (0 : Int) < 3; decide), _, _, rfl, rfl, _, rfl, ite2 (fun _ => ?_) (fun _ => ?_)⟩
    · have h0 : 0 ≤ c / 3 % 4 := Int.emod_nonneg _ (by decide)
      have h1 : c / 3 % 4 < 4 := Int.emod_lt_of_pos _ (by decide)
      exact ⟨_, rfl, _, _, rfl, rfl, ⟨by decide, by decide⟩, _, _, rfl, rfl, (by show (0 : Int) < 4; decide), q _ h0 (Int.lt_trans h1 (by decide))⟩
    · exact ⟨_, rfl, _, _, rfl, rfl, ⟨by decide, by decide⟩, _, _, rfl, rfl, ⟨by decide, by decide, by decide⟩, _, _, rfl, rfl, (by show (0 : Int) < 10 ^ 60; decide), q _ (Int.emod_nonneg _ (by decide)) (Int.emod_lt_of_pos _ (by decide))⟩
theorem contains_false {ss : List Str} {t : Str} (h : (!inV (V.str t) (ss.map V.str)) = true) : t ∉ ss := fun z => by
  rw [inV_strs, List.contains_iff_mem.mpr z] at h
  cases h
def sp_q18 (K : PySem.W.Frag) : Sp := fun vs H Q _ => ∃ (h c : Int) (D : Hp), vs = [.int h, .int c] ∧ Same D H ∧ ∀ (l : CF.Leaf) D' H' r, Gr D H D' H' → DataAt K D' r l.data → l.Good → Q r H'
theorem ok_q18 {f : Addr} {fd fd_q21 fd_q23 : FuncData} (F : Fun K "_law_leaf" "_law_leaf" s_q18 f fd) (T : Txt K mg a)
    (G_q21 : FnOk P w K mg base CX0 1 a.law_number fd_q21 ["_law_cell"] (sp_q21 K)) (F_q21 : Fun K "_law_number" "_law_number" s_q21 a.law_number fd_q21) (b_q21 : Binds K fd_q21 ["_law_cell"] [])
    (G_q23 : FnOk P w K mg base CX0 1 a.law_word fd_q23 ["_law_cell", "_law_k"] (sp_q23 K)) (F_q23 : Fun K "_law_word" "_law_word" s_q23 a.law_word fd_q23) (b_q23 : Binds K fd_q23 ["_law_cell", "_law_k"] []) : FnOk P w K mg base CX0 2 f fd ["_law_head", "_law_cell"] (sp_q18 K) := by
  refine F.ok sc_q18 (fun vs H Q E h => ?_) (fun cdv A outer s H vs Q E hr h => ?_)
  · obtain ⟨h, c, D, rfl, _⟩ := h
    rfl
  · obtain ⟨hd, c, D, rfl, sD, q⟩ := h
    refine ⟨_, (pss_cons (psN (i := 2) (sc := defScope s_q18) (M := N_q18) rfl rfl (by decide +kernel) (pe_lst pa_nil))
      (pss_cons (ps_for PassesOwn.never rfl (pi_range1 (glR (sc := defScope s_q18) rfl (by decide +kernel)) T.z_range (pa_cons (pe_op op_mod (pe_op op_fdiv (pvA 1 (defScope s_q18) N_q18 rfl rfl) pe_int) pe_int) pa_nil)) (pgN (i := 3) (sc := defScope s_q18) (M := N_q18) rfl rfl (by decide +kernel)) (pss_cons (psN (i := 4) (sc := defScope s_q18) (M := N_q18) rfl rfl (by decide +kernel) (pe_callN (sc := defScope s_q18) G_q23 (hr.mono (by decide)) rfl (by decide +kernel) T.m_q23 F_q23.kp b_q23 .nil pass0 (pa_cons (pvA 0 (defScope s_q18) N_q18 rfl rfl) (pa_cons (pe_op op_add (pe_op op_fdiv (pvA 1 (defScope s_q18) N_q18 rfl rfl) pe_int) (pe_op op_mul (pvA 3 (defScope s_q18) N_q18 rfl rfl) (pe_op op_add pe_int (pe_op op_mod (pe_op op_fdiv (pvA 1 (defScope s_q18) N_q18 rfl rfl) pe_int) pe_int)))) pa_nil))))
      (pss_one (ps_if (pt_cmpR op_notIn_seq (pvA 4 (defScope s_q18) N_q18 rfl rfl) (pvA 2 (defScope s_q18) N_q18 rfl rfl) (by with_unfolding_all rfl)) (pss_one (ps_expr (pe_bm PySem.F.plainAttrs_list PySem.F.slot_list_append PySem.F.type_list_append mt_append (pvA 2 (defScope s_q18) N_q18 rfl rfl) (pa_cons (pvA 4 (defScope s_q18) N_q18 rfl rfl) pa_nil)))) pss_nil))))
      (pss_cons (psN (i := 5) (sc := defScope s_q18) (M := N_q18) rfl rfl (by decide +kernel) (pe_op op_mod (pe_op op_fdiv (pvA 1 (defScope s_q18) N_q18 rfl rfl) pe_int) pe_int))
      (pss_cut (ps_if (pt_cmpR op_eq (pe_op op_mod (pvA 1 (defScope s_q18) N_q18 rfl rfl) pe_int) pe_int (nomark _)) (pss_one (psN (i := 5) (sc := defScope s_q18) (M := N_q18) rfl rfl (by decide +kernel) (pe_op op_sub pe_int (pe_op op_mod (pe_op op_fdiv (pvA 1 (defScope s_q18) N_q18 rfl rfl) pe_int) pe_int)))) pss_nil)
      (pss_cons (psN (i := 6) (sc := defScope s_q18) (M := N_q18) rfl rfl (by decide +kernel) (pe_op op_add pe_int (pe_op op_mul (pe_op op_mod (pe_op op_fdiv (pvA 1 (defScope s_q18) N_q18 rfl rfl) pe_int) pe_int) (pe_op op_mod (pe_op op_fdiv (pvA 1 (defScope s_q18) N_q18 rfl rfl) pe_int) pe_int))))
      (pss_cons (ps_if (pt_cmpR op_eq (pe_op op_mod (pvA 1 (defScope s_q18) N_q18 rfl rfl) pe_int) pe_int (nomark _)) (pss_cut (ps_if (pt_cmpR (op_eqD (n := 60) (hu60 hr)) (pvA 2 (defScope s_q18) N_q18 rfl rfl) (pe_lst pa_nil) (nomark _)) (pss_one (psN (i := 2) (sc := defScope s_q18) (M := N_q18) rfl rfl (by decide +kernel) (pe_lst (pa_cons (pe_callN (sc := defScope s_q18) G_q23 (hr.mono (by decide)) rfl (by decide +kernel) T.m_q23 F_q23.kp b_q23 .nil pass0 (pa_cons (pvA 0 (defScope s_q18) N_q18 rfl rfl) (pa_cons (pe_op op_fdiv (pvA 1 (defScope s_q18) N_q18 rfl rfl) pe_int) pa_nil))) pa_nil)))) pss_nil)
      (pss_one (ps_ret (pe_tup (pa_cons pe_str (pa_cons (pvA 5 (defScope s_q18) N_q18 rfl rfl) (pa_cons (pvA 2 (defScope s_q18) N_q18 rfl rfl) (pa_cons (pe_callN (sc := defScope s_q18) G_q21 (hr.mono (by decide)) rfl (by decide +kernel) T.m_q21 F_q21.kp b_q21 .nil pass0 (pa_cons (pe_op op_fdiv (pvA 1 (defScope s_q18) N_q18 rfl rfl) pe_int) pa_nil)) (pa_cons (pvA 6 (defScope s_q18) N_q18 rfl rfl) pa_nil))))))))) pss_nil)
      (pss_one (ps_ret (pe_tup (pa_cons pe_str (pa_cons (pvA 5 (defScope s_q18) N_q18 rfl rfl) (pa_cons (pvA 2 (defScope s_q18) N_q18 rfl rfl) (pa_cons (pe_callN (sc := defScope s_q18) G_q21 (hr.mono (by decide)) rfl (by decide +kernel) T.m_q21 F_q21.kp b_q21 .nil pass0 (pa_cons (pe_op op_fdiv (pvA 1 (defScope s_q18) N_q18 rfl rfl) pe_int) pa_nil)) (pa_cons (pe_callN (sc := defScope s_q18) G_q21 (hr.mono (by decide)) rfl (by decide +kernel) T.m_q21 F_q21.kp b_q21 .nil pass0 (pa_cons (pe_op op_fdiv (pvA 1 (defScope s_q18) N_q18 rfl rfl) pe_int) pa_nil)) (pa_cons (pvA 6 (defScope s_q18) N_q18 rfl rfl) pa_nil))))))))))))))), ?_⟩
    have hs : sizeLine = 16777216 := sizeLine_eq
    refine ⟨by first | decide | (simp only [List.length_cons, List.length_nil, List.length_append, List.length_map]; decide), fun p hp => ?_⟩
    have n0 : 0 ≤ c / 3 % 9 := Int.emod_nonneg _ (by decide)
    have n1 : c / 3 % 9 < 9 := Int.emod_lt_of_pos _ (by decide)
    have b0 : 0 ≤ c / 96 % 7 := Int.emod_nonneg _ (by decide)
    have b1 : c / 96 % 7 < 7 := Int.emod_lt_of_pos _ (by decide)
    refine ⟨_, rfl, _, _, rfl, rfl, ⟨by decide, by decide⟩, _, _, rfl, rfl, (by show (0 : Int) < 9; decide), _, rfl, by omega, by omega, ?_⟩
    refine for_range (fun i σ H' => ∃ ss v3 v4, σ = [some (.int hd), some (.int c), some (.ref p), v3, v4, none, none] ∧ Same H H' ∧ H' p = some (.lst (ss.map V.str)) ∧ (∀ t ∈ ss, CW.isWord t = true) ∧ ss.Nodup ∧ ss.length ≤ i) ⟨[], _, _, rfl, Same.upd0 hp, upd_same, (fun t ht => nomatch ht), List.nodup_nil, Nat.le_refl _⟩ ?_ ?_
    · rintro i σ H1 hi ⟨ss, v4, v5, rfl, s1, e1, ht, hnd, hl⟩
      refine ⟨_, rfl, _, rfl, _, _, rfl, rfl, ⟨by decide, by decide⟩, _, rfl, _, rfl, _, _, rfl, rfl, ⟨by decide, by decide⟩, _, _, rfl, rfl, (by show (0 : Int) < 7; decide), _, _, rfl, rfl, _, _, rfl, rfl, .inl ⟨by omega, by omega⟩, _, _, rfl, rfl, _, _, rfl, fun H2 s2 => ?_⟩
      have e2 := s2 _ _ e1
      refine ⟨_, rfl, _, rfl, p, _, rfl, .inl (SqL.of e2), rfl, CF.flat_strs ss, _, rfl, ite2 (fun hn => ?_) (fun _ => ?_)⟩
      · refine ⟨_, rfl, .inl ⟨rfl, _, SqL.of e2⟩, _, rfl, p, _, _, rfl, rfl, e2, by rw [List.length_map]; omega, ss ++ [wordOf hd (c / 12 + (0 + (i : Nat)) * (1 + c / 96 % 7))], _, _, rfl, Same.upd (s1.trans s2) hp, ?_, ?_, ?_, ?_⟩
        · rw [upd_same, List.map_append]
          rfl
        · intro x hx
          rcases List.mem_append.mp hx with z | z
          · exact ht x z
          · rw [List.mem_singleton.mp z]; exact word_ok _ _
        · exact List.nodup_append.mpr ⟨hnd, List.nodup_cons.mpr ⟨(fun z => nomatch z), List.nodup_nil⟩, fun x hx y hy e => by
            rw [List.mem_singleton.mp hy] at e
            exact contains_false hn (e ▸ hx)⟩
        · rw [List.length_append]
          exact Nat.add_le_add_right hl 1
      · exact ⟨ss, _, _, rfl, s1.trans s2, e2, ht, hnd, Nat.le_succ_of_le hl⟩
    rintro σ H1 ⟨ss, v4, v5, rfl, s1, e1, ht, hnd, hl⟩
    have hwo : CF.WordsOk ss := ⟨ht, hnd, by omega⟩
    have w0 : 0 ≤ c / 7 % 5 := Int.emod_nonneg _ (by decide)
    have w1 : c / 7 % 5 < 5 := Int.emod_lt_of_pos _ (by decide)
    refine ⟨_, rfl, _, _, rfl, rfl, ⟨by decide, by decide⟩, _, _, rfl, rfl, (by show (0 : Int) < 5; decide), ?_⟩
    refine ⟨fun σ' H' => (∃ z : Int, (0 ≤ z ∧ z ≤ 60) ∧ σ' = [some (.int hd), some (.int c), some (.ref p), v4, v5, some (.int z), none]) ∧ H' = H1, ?_, ?_⟩
    · refine ⟨_, rfl, _, _, rfl, rfl, (by show (0 : Int) < 11; decide), rfl, _, rfl, ite2 (fun _ => ?_) (fun _ => ?_)⟩
      · have u0 : 0 ≤ c / 11 % 3 := Int.emod_nonneg _ (by decide)
        have u1 : c / 11 % 3 < 3 := Int.emod_lt_of_pos _ (by decide)
        exact ⟨_, rfl, _, _, rfl, rfl, ⟨by decide, by decide⟩, _, _, rfl, rfl, (by show (0 : Int) < 3; decide), _, _, rfl, rfl, ⟨_, ⟨by omega, by omega⟩, rfl⟩, rfl⟩
      · exact ⟨⟨_, ⟨by omega, by omega⟩, rfl⟩, rfl⟩
    rintro σ' H' ⟨⟨wa, hwa, rfl⟩, rfl⟩
    have x0 : 0 ≤ c / 13 % 2 := Int.emod_nonneg _ (by decide)
    have x1 : c / 13 % 2 < 2 := Int.emod_lt_of_pos _ (by decide)
    have y0 : 0 ≤ c / 26 % 9 := Int.emod_nonneg _ (by decide)
    have y1 : c / 26 % 9 < 9 := Int.emod_lt_of_pos _ (by decide)
    have xy : 0 ≤ c / 13 % 2 * (c / 26 % 9) ∧ c / 13 % 2 * (c / 26 % 9) ≤ 8 := by
      rcases (show c / 13 % 2 = 0 ∨ c / 13 % 2 = 1 by omega) with e | e <;> rw [e] <;> omega
    refine ⟨_, rfl, _, _, rfl, rfl, ⟨by decide, by decide⟩, _, _, rfl, rfl, (by show (0 : Int) < 2; decide), _, rfl, _, _, rfl, rfl, ⟨by decide, by decide⟩, _, _, rfl, rfl, (by show (0 : Int) < 9; decide), _, _, rfl, rfl, .inl ⟨by omega, by omega⟩, _, _, rfl, rfl, ?_⟩
    obtain ⟨wo, hwo'⟩ : ∃ wo : Int, wo = 1 + c / 13 % 2 * (c / 26 % 9) := ⟨_, rfl⟩
    rw [show (fun i j : Int => V.int (i + j)) 1 (c / 13 % 2 * (c / 26 % 9)) = V.int wo by rw [hwo']]
    have hwo1 : 1 ≤ wo ∧ wo ≤ 9 := by omega
    refine ⟨_, rfl, _, _, rfl, rfl, (by show (0 : Int) < 3; decide), rfl, _, rfl, ite2 (fun _ => ?_) (fun _ => ?_)⟩
    · refine ⟨fun σ' H' => ∃ p' us, us ≠ [] ∧ CF.WordsOk us ∧ Same H H' ∧ H p' = none ∧ H' p' = some (.lst (us.map V.str)) ∧ σ' = [some (.int hd), some (.int c), some (.ref p'), v4, v5, some (.int wa), some (.int wo)], ?_, ?_⟩
      · refine ⟨_, rfl, by first | decide | (simp only [List.length_cons, List.length_nil, List.length_append, List.length_map]; decide), fun p9 hp9 => ?_⟩
        have e9 := (Same.upd0 (o := .lst []) hp9) _ _ e1
        refine ⟨.list (ss.map .str), .list [], DataAt.mkL (DataAll.strs ss) e9 (Same.refl _), DataAt.mkL (D := upd H' p9 (.lst [])) DataAll.nil upd_same (Same.refl _), CF.lay_strs (fun t h => (CF.Tx.word (ht t h)).mono (by decide)), rfl, ?_, _, rfl, ?_⟩
        · show min _ 1 ≤ 60
          omega
        cases ss with
        | nil =>
          refine iteT ⟨_, rfl, _, rfl, _, _, rfl, rfl, ⟨by decide, by decide⟩, _, _, rfl, fun H2 s2 => ⟨by first | decide | (simp only [List.length_cons, List.length_nil, List.length_append, List.length_map]; decide), fun p3 hp3 => ?_⟩⟩
          have t2 := (s1.trans (Same.upd0 (o := .lst []) hp9)).trans s2
          exact ⟨p3, [wordOf hd (c / 12)], (fun z => nomatch z), ⟨fun t h => by rw [List.mem_singleton.mp h]; exact word_ok _ _, List.nodup_cons.mpr ⟨(fun z => nomatch z), List.nodup_nil⟩, by show 1 ≤ 8; decide⟩, t2.trans (Same.upd0 hp3), t2.free hp3, upd_same, rfl⟩
        | cons t r => exact iteF ⟨p, t :: r, (fun z => nomatch z), hwo, s1.trans (Same.upd0 hp9), hp, e9, rfl⟩
      rintro σ' H2 ⟨p', us, hne, hus, s2, np, ep, rfl⟩
      have G1 : Gr D H D H2 := Gr.heap sD s2
      have G2 := G1.fix np (free_of sD np) ep
      refine ⟨_, rfl, _, rfl, _, rfl, _, _, rfl, rfl, ⟨by decide, by decide⟩, _, rfl, fun z z0 z1 => ⟨_, rfl, by first | decide | (simp only [List.length_cons, List.length_nil, List.length_append, List.length_map]; decide), fun t ht' => ?_⟩⟩
      refine q (.off wa us z wo) _ _ _ (G2.trans (Gr.lay G2.dh ht')) (CF.Leaf.at_ upd_same (.inl ((Same.upd0 (free_of G2.dh ht')) _ _ upd_same))) ⟨hus, hne, hwa, ⟨z0, z1⟩, hwo1⟩
    · have G1 : Gr D H D H' := Gr.heap sD s1
      have G2 := G1.fix hp (free_of sD hp) e1
      refine ⟨_, rfl, _, rfl, _, rfl, _, _, rfl, rfl, ⟨by decide, by decide⟩, _, rfl, fun z z0 z1 => ⟨_, rfl, _, _, rfl, rfl, ⟨by decide, by decide⟩, _, rfl, fun y y0 y1 => ⟨_, rfl, by first | decide | (simp only [List.length_cons, List.length_nil, List.length_append, List.length_map]; decide), fun t ht' => ?_⟩⟩⟩
      refine q (.frm wa ss z y wo) _ _ _ (G2.trans (Gr.lay G2.dh ht')) (CF.Leaf.at_ upd_same (.inl ((Same.upd0 (free_of G2.dh ht')) _ _ upd_same))) ⟨hwo, hwa, ⟨z0, z1⟩, ⟨y0, y1⟩, hwo1⟩
theorem and_rest {B C : Prop} (h : B) (k : B → C) : C := k h
theorem cut_ints (ns : List Int) (lo hi : Option Int) : ∃ ms : List Int, cutV (ns.map V.int) lo hi = ms.map V.int ∧ ms.length ≤ ns.length ∧ ∀ z ∈ ms, z ∈ ns := by
  refine ⟨(ns.drop (HT.sIx (ns.map V.int).length 0 lo)).take (HT.sIx (ns.map V.int).length (ns.map V.int).length hi - HT.sIx (ns.map V.int).length 0 lo), ?_, ?_, ?_⟩
  · unfold cutV
    rw [List.map_take, List.map_drop]
  · rw [List.length_take, List.length_drop]
    omega
  · exact fun z hz => List.mem_of_mem_drop (List.mem_of_mem_take hz)
theorem nodup_map' {α β : Type} {f : α → β} : ∀ {l : List α}, l.Nodup → (∀ x ∈ l, ∀ y ∈ l, f x = f y → x = y) → (l.map f).Nodup
  | [], _, _ => List.nodup_nil
  | a :: l, h, k => by
    have ⟨h1, h2⟩ := List.nodup_cons.mp h
    refine List.nodup_cons.mpr ⟨fun z => ?_, nodup_map' h2 fun x hx y hy => k x (List.mem_cons_of_mem _ hx) y (List.mem_cons_of_mem _ hy)⟩
    obtain ⟨b, hb, e⟩ := List.mem_map.mp z
    exact h1 (k b (List.mem_cons_of_mem _ hb) a (List.mem_cons_self ..) e ▸ hb)
structure GroupOf (rs : List CF.Rule) (r : CF.Rule) : Prop where
  grp : r.isLeaf = false
  rules : r.rules = rs
  good : r.Good
  deep : r.depth = CF.Rule.depths rs + 1
  leaves : r.leaves = CF.Rule.leavess rs
theorem group_all {rs : List CF.Rule} (h0 : rs ≠ []) (h1 : rs.length ≤ 16) (h2 : CF.Rule.Goods rs) : GroupOf rs (.allr rs) :=
  ⟨rfl, rfl, by unfold CF.Rule.Good; exact ⟨h0, h1, h2⟩, by unfold CF.Rule.depth; rfl, by unfold CF.Rule.leaves; rfl⟩
theorem group_some {rs : List CF.Rule} {n : Int} (h0 : 1 ≤ n ∧ n ≤ rs.length) (h1 : rs.length ≤ 16) (h2 : CF.Rule.Goods rs) : GroupOf rs (.somr n rs) :=
  ⟨rfl, rfl, by unfold CF.Rule.Good; exact ⟨h0, h1, h2⟩, by unfold CF.Rule.depth; rfl, by unfold CF.Rule.leaves; rfl⟩
def sp_q15 (K : PySem.W.Frag) : Sp := fun vs H Q _ => ∃ (F : Addr) (c : Int) (D : Hp) (fs : List CF.Fr) (g t : CF.Fr), vs = [.ref F, .int c] ∧ Same D H ∧ CF.Frs K D H F (fs ++ [g, t]) ∧ (CF.Rule.Goods t.rs ∧ t.rs.length ≤ 16 ∧ g.rs.length ≤ 16) ∧
  ∀ D' H' g', g'.p = g.p → (t.rs = [] ∧ g'.rs = g.rs ∨ ∃ r, GroupOf t.rs r ∧ g'.rs = g.rs ++ [r]) → Same D' H' → CF.Frs K D' H' F (fs ++ [g']) → CF.Ext D H D' H' [F, g.p, t.p] → Q .non H'
theorem ok_q15 {f : Addr} {fd : FuncData} (F : Fun K "_law_closed" "_law_closed" s_q15 f fd) (T : Txt K mg a) : FnOk P w K mg base CX0 1 f fd ["_law_frames", "_law_cell"] (sp_q15 K) := by
  refine F.ok sc_q15 (fun vs H Q E h => ?_) (fun cdv A outer s H vs Q E hr h => ?_)
  · obtain ⟨F, c, D, fs, g, t, rfl, _⟩ := h
    rfl
  · obtain ⟨F, c, D, fs, g, t, rfl, sD, hF, ⟨hgo, hl16, hg16⟩, q⟩ := h
    refine ⟨_, (pss_cons (psN (i := 2) (sc := defScope s_q15) (M := N_q15) rfl rfl (by decide +kernel) (pe_bm0 PySem.F.plainAttrs_list PySem.F.slot_list_pop PySem.F.type_list_pop mt_pop (pvA 0 (defScope s_q15) N_q15 rfl rfl)))
      (pss_cons (ps_if (pt_cmpR op_eq (pe_callBN (sc := defScope s_q15) call_len rfl (by decide +kernel) T.z_len bt_len (pa_cons (pvA 2 (defScope s_q15) N_q15 rfl rfl) pa_nil)) pe_int (nomark _)) (pss_one ps_retN) pss_nil)
      (pss_cons (psN (i := 3) (sc := defScope s_q15) (M := N_q15) rfl rfl (by decide +kernel) (pe_tup (pa_cons pe_str (pa_cons (pvA 2 (defScope s_q15) N_q15 rfl rfl) pa_nil))))
      (pss_cut (ps_if (pt_cmpR op_eq (pe_op op_mod (pvA 1 (defScope s_q15) N_q15 rfl rfl) pe_int) pe_int (nomark _)) (pss_one (psN (i := 3) (sc := defScope s_q15) (M := N_q15) rfl rfl (by decide +kernel) (pe_tup (pa_cons pe_str (pa_cons (pe_op op_add pe_int (pe_op op_mod (pe_op op_fdiv (pvA 1 (defScope s_q15) N_q15 rfl rfl) pe_int) (pe_callBN (sc := defScope s_q15) call_len rfl (by decide +kernel) T.z_len bt_len (pa_cons (pvA 2 (defScope s_q15) N_q15 rfl rfl) pa_nil)))) (pa_cons (pvA 2 (defScope s_q15) N_q15 rfl rfl) pa_nil)))))) pss_nil)
      (pss_one (ps_expr (pe_bm PySem.F.plainAttrs_list PySem.F.slot_list_append PySem.F.type_list_append mt_append (pe_ix ix_list (pvA 0 (defScope s_q15) N_q15 rfl rfl) (pe_un un_neg pe_int) (fun _ _ => rfl)) (pa_cons (pvA 3 (defScope s_q15) N_q15 rfl rfl) pa_nil)))))))), ?_⟩
    have hs : sizeLine = 16777216 := sizeLine_eq
    have hF' : CF.Frs K D H F ((fs ++ [g]) ++ [t]) := by rw [List.append_assoc]; exact hF
    have ht := hF'.each t (List.mem_append_right _ (List.mem_singleton.mpr rfl))
    have hg := hF'.each g (List.mem_append_left _ (List.mem_append_right _ (List.mem_singleton.mpr rfl)))
    have nfg := hF'.nf g (List.mem_append_left _ (List.mem_append_right _ (List.mem_singleton.mpr rfl)))
    have nft := hF'.nf t (List.mem_append_right _ (List.mem_singleton.mpr rfl))
    have hnd := hF'.nd
    rw [List.map_append] at hnd
    have hgt : g.p ≠ t.p := (List.nodup_append.mp hnd).2.2 g.p (List.mem_map.mpr ⟨g, List.mem_append_right _ (List.mem_singleton.mpr rfl), rfl⟩) t.p (List.mem_singleton.mpr rfl)
    have lt := ht.len
    have lg := hg.len
    have etop : (((fs ++ [g]) ++ [t]).map fun f => V.ref f.p) = ((fs ++ [g]).map fun f => V.ref f.p) ++ [.ref t.p] := by rw [List.map_append]; rfl
    have e0 := hF'.top
    rw [etop] at e0
    refine ⟨_, rfl, .inl ⟨rfl, _, SqL.of e0⟩, F, _, .ref t.p, rfl, rfl, e0, ?_, ?_⟩
    · rw [List.length_append, List.length_singleton, Nat.add_sub_cancel]
      exact CF.snoc_at _ _
    rw [List.dropLast_concat]
    have F1 := hF'.pop
    have s1 : Same D (upd H F (.lst ((fs ++ [g]).map fun f => V.ref f.p))) := same_set sD hF.out
    have et1 : upd H F (.lst ((fs ++ [g]).map fun f => V.ref f.p)) t.p = some (.lst t.xs) := by rw [upd_ne nft]; exact ht.at_
    have k1 : ∀ a o, a ≠ F → H a = some o → upd H F (.lst ((fs ++ [g]).map fun f => V.ref f.p)) a = some o := fun a o n e => by rw [upd_ne n]; exact e
    generalize upd H F (.lst ((fs ++ [g]).map fun f => V.ref f.p)) = H1 at F1 s1 et1 k1 ⊢
    refine ⟨_, rfl, .ref t.p, t.xs.length, rfl, .inl ⟨_, SqL.of et1, rfl⟩, rfl, _, rfl, ite2 (fun h0 => ?_) (fun h0 => ?_)⟩
    · have h0' := V.int.inj (of_decide_eq_true h0)
      refine q D H1 g rfl (.inl ⟨List.eq_nil_of_length_eq_zero (by omega), rfl⟩) s1 F1 ⟨Same.refl _, fun a o hm e => ⟨k1 a o (fun z => hm (by rw [z]; exact List.mem_cons_self ..)) e, id⟩⟩
    have hne : t.rs ≠ [] := fun z => h0 (decide_eq_true (by rw [lt, z]; rfl))
    have hpos : 0 < t.rs.length := List.length_pos_iff.mpr hne
    refine ⟨_, rfl, by first | decide | (simp only [List.length_cons, List.length_nil, List.length_append, List.length_map]; decide), fun q1 hq1 => ?_⟩
    have eq1 : upd H1 q1 (.tup [.str "all", .ref t.p]) q1 = some (.tup [.str "all", .ref t.p]) := upd_same
    have s2 := Same.upd0 (o := .tup [.str "all", .ref t.p]) hq1
    generalize upd H1 q1 (.tup [.str "all", .ref t.p]) = H2 at eq1 s2 ⊢
    refine ⟨fun σ' H' => ∃ r p, GroupOf t.rs r ∧ Same H1 H' ∧ H1 p = none ∧ H' p = some (.tup (r.head ++ [.ref t.p])) ∧ σ' = [some (.ref F), some (.int c), some (.ref t.p), some (.ref p)], ?_, ?_⟩
    · refine ⟨_, rfl, _, _, rfl, rfl, (by show (0 : Int) < 2; decide), rfl, _, rfl, ite2 (fun _ => ?_) (fun _ => ?_)⟩
      · have m0 := Int.emod_nonneg (c / 2) (show ((t.xs.length : Nat) : Int) ≠ 0 by omega)
        have m1 := Int.emod_lt_of_pos (c / 2) (show (0 : Int) < (t.xs.length : Nat) by omega)
        refine ⟨_, rfl, _, _, rfl, rfl, ⟨by decide, by decide⟩, _, rfl, .ref t.p, t.xs.length, rfl, .inl ⟨_, SqL.of (s2 _ _ et1), rfl⟩, _, _, rfl, rfl, (by show (0 : Int) < (t.xs.length : Nat); omega), _, _, rfl, rfl, _, rfl, by first | decide | (simp only [List.length_cons, List.length_nil, List.length_append, List.length_map]; decide), fun q2 hq2 => ?_⟩
        exact ⟨.somr (1 + c / 2 % (t.xs.length : Nat)) t.rs, q2, group_some ⟨by omega, by omega⟩ hl16 hgo, s2.trans (Same.upd0 hq2), s2.free hq2, upd_same, rfl⟩
      · exact ⟨.allr t.rs, q1, group_all hne hl16 hgo, s2, hq1, eq1, rfl⟩
    rintro σ' H3 ⟨r, qr, hr, s3, nq, eqr, rfl⟩
    have F3 := F1.gr (Gr.heap s1 s3)
    have eg3 := (F3.each g (List.mem_append_right _ (List.mem_singleton.mpr rfl)))
    have etop3 : ((fs ++ [g]).map fun f => V.ref f.p) = (fs.map fun f => V.ref f.p) ++ [.ref g.p] := by rw [List.map_append]; rfl
    have e3 := F3.top
    rw [etop3] at e3
    refine ⟨_, rfl, _, rfl, F, _, _, _, rfl, rfl, SqL.of e3, atI_last _ _, .inl ⟨rfl, _, SqL.of eg3.at_⟩, _, rfl, g.p, _, _, rfl, rfl, eg3.at_, by omega, ?_⟩
    have ntD : D t.p = none := ht.out
    have nqD : D qr = none := s1.free nq
    have nqt : qr ≠ t.p := fun z => by rw [z, et1] at nq; cases nq
    have nqg : qr ≠ g.p := fun z => by
      have := (F1.each g (List.mem_append_right _ (List.mem_singleton.mpr rfl))).at_
      rw [z, this] at nq; cases nq
    have nqF : qr ≠ F := fun z => by rw [z, F1.top] at nq; cases nq
    have dd : Same D (upd (upd D t.p (.lst t.xs)) qr (.tup (r.head ++ [.ref t.p]))) := (Same.upd0 ntD).trans (Same.upd0 (by rw [upd_ne nqt]; exact nqD))
    have et3 := s3 _ _ et1
    have sd' : Same (upd (upd D t.p (.lst t.xs)) qr (.tup (r.head ++ [.ref t.p]))) H3 := by
      intro a o e
      by_cases h1 : a = qr
      · subst h1
        rw [upd_same] at e
        cases e
        exact eqr
      · rw [upd_ne h1] at e
        by_cases h2 : a = t.p
        · subst h2
          rw [upd_same] at e
          cases e
          exact et3
        · rw [upd_ne h2] at e
          exact s3 _ _ (s1 _ _ e)
    have dr : DataAt K (upd (upd D t.p (.lst t.xs)) qr (.tup (r.head ++ [.ref t.p]))) (.ref qr) r.data := by
      refine CF.Rule.grpAt hr.grp upd_same (.inl (by rw [upd_ne nqt.symm]; exact upd_same)) ?_
      rw [hr.rules]
      exact DataAll.up ht.data dd
    have nout : ∀ a, D a = none → a ≠ t.p → a ≠ qr → upd (upd D t.p (.lst t.xs)) qr (.tup (r.head ++ [.ref t.p])) a = none := fun a n h1 h2 => by rw [upd_ne h2, upd_ne h1]; exact n
    generalize upd (upd D t.p (.lst t.xs)) qr (.tup (r.head ++ [.ref t.p])) = D' at dd sd' dr nout
    have F4 : CF.Frs K D' H3 F (fs ++ [g]) := by
      refine ⟨F3.top, nout F hF.out nft.symm nqF.symm, fun f hf => ?_, F3.nd, F3.nf⟩
      have h3 := F3.each f hf
      refine ⟨h3.at_, nout _ h3.out (fun z => ?_) (fun z => ?_), DataAll.up h3.data dd⟩
      · exact (List.nodup_append.mp hnd).2.2 f.p (List.mem_map.mpr ⟨f, hf, rfl⟩) t.p (List.mem_singleton.mpr rfl) z
      · have := (F1.each f hf).at_
        rw [z] at this
        rw [this] at nq
        cases nq
    have F5 := F4.set (g.xs ++ [.ref qr]) (g.rs ++ [r]) (by rw [CF.Rule.datas_map, List.map_append, ← CF.Rule.datas_map]; exact DataAll.snoc dr (F4.each g (List.mem_append_right _ (List.mem_singleton.mpr rfl))).data)
    refine q D' _ ⟨g.p, g.xs ++ [.ref qr], g.rs ++ [r]⟩ rfl (.inr ⟨r, hr, rfl⟩) (same_set sd' (F4.each g (List.mem_append_right _ (List.mem_singleton.mpr rfl))).out) F5 ⟨dd, fun a o hm e => ?_⟩
    have a1 : a ≠ F := fun z => hm (by rw [z]; exact List.mem_cons_self ..)
    have a2 : a ≠ g.p := fun z => hm (by rw [z]; exact List.mem_cons_of_mem _ (List.mem_cons_self ..))
    have a3 : a ≠ t.p := fun z => hm (by rw [z]; exact List.mem_cons_of_mem _ (List.mem_cons_of_mem _ (List.mem_cons_self ..)))
    have e1 := k1 a o a1 e
    refine ⟨by rw [upd_ne a2]; exact s3 _ _ e1, fun n => nout a n a3 (fun z => ?_)⟩
    rw [z, nq] at e1
    cases e1
theorem snoc_of {fs : List CF.Fr} (h : fs ≠ []) : ∃ (is : List CF.Fr) (t : CF.Fr), fs = is ++ [t] := ⟨fs.dropLast, fs.getLast h, (List.dropLast_concat_getLast h).symm⟩
structure RInv (K : PySem.W.Frag) (D H : Hp) (F : Addr) (D' H' : Hp) (fs : List CF.Fr) (n : Nat) : Prop where
  gr : Gr D H D' H'
  frs : CF.Frs K D' H' F fs
  num : CF.FNum fs n
  ne : fs ≠ []
  nF : H F = none
  np : ∀ f ∈ fs, H f.p = none
theorem top_at {fs : List CF.Fr} {t : CF.Fr} {D' H' : Hp} {F : Addr} (h : CF.Frs K D' H' F (fs ++ [t])) : H' F = some (.lst ((fs.map fun f => V.ref f.p) ++ [.ref t.p])) := by
  have e := h.top
  rw [List.map_append] at e
  exact e
theorem top_mem {fs : List CF.Fr} {t : CF.Fr} : t ∈ fs ++ [t] := List.mem_append_right _ (List.mem_singleton.mpr rfl)
theorem RInv.closed {D H D1 H1 D' H' : Hp} {F : Addr} {fs : List CF.Fr} {g t g' : CF.Fr} {n : Nat} (h : RInv K D H F D1 H1 (fs ++ [g, t]) n) (hp : g'.p = g.p) (hr : t.rs = [] ∧ g'.rs = g.rs ∨ ∃ r, GroupOf t.rs r ∧ g'.rs = g.rs ++ [r]) (s : Same D' H') (hF : CF.Frs K D' H' F (fs ++ [g'])) (e : CF.Ext D1 H1 D' H' [F, g.p, t.p]) : RInv K D H F D' H' (fs ++ [g']) n := by
  have hg : g ∈ fs ++ [g, t] := List.mem_append_right _ (List.mem_cons_self ..)
  have ht : t ∈ fs ++ [g, t] := List.mem_append_right _ (List.mem_cons_of_mem _ (List.mem_cons_self ..))
  refine ⟨e.gr h.gr s fun a ha => ?_, hF, ?_, (fun z => by have := congrArg List.length z; rw [List.length_append] at this; cases this), h.nF, fun f hf => ?_⟩
  · simp only [List.mem_cons, List.not_mem_nil, or_false] at ha
    rcases ha with rfl | rfl | rfl
    · exact h.nF
    · exact h.np g hg
    · exact h.np t ht
  · obtain ⟨gp, gx, gr⟩ := g'
    simp only at hp hr
    subst hp
    rcases hr with ⟨h1, rfl⟩ | ⟨r, h1, rfl⟩
    · exact h.num.drop h1
    · exact h.num.close h1.good h1.deep h1.leaves
  · rcases List.mem_append.mp hf with hf | hf
    · exact h.np f (List.mem_append_left _ hf)
    · rw [List.mem_singleton.mp hf, hp]
      exact h.np g hg
def sp_q22 (K : PySem.W.Frag) : Sp := fun vs H Q _ => ∃ (h : Int) (pc : Addr) (cs : List Int) (D : Hp), vs = [.int h, .ref pc] ∧ Same D H ∧ SqL K H pc (cs.map V.int) ∧ cs.length ≤ 63 ∧ ∀ (r : CF.Rule) D' H' v, Gr D H D' H' → DataAt K D' v r.data → r.Good → r.depth ≤ 6 → r.leaves.length ≤ 16 → Q v H'
theorem ok_q22 {f : Addr} {fd fd_q15 fd_q18 : FuncData} (F : Fun K "_law_rule" "_law_rule" s_q22 f fd) (T : Txt K mg a)
    (G_q15 : FnOk P w K mg base CX0 1 a.law_closed fd_q15 ["_law_frames", "_law_cell"] (sp_q15 K)) (F_q15 : Fun K "_law_closed" "_law_closed" s_q15 a.law_closed fd_q15) (b_q15 : Binds K fd_q15 ["_law_frames", "_law_cell"] [])
    (G_q18 : FnOk P w K mg base CX0 2 a.law_leaf fd_q18 ["_law_head", "_law_cell"] (sp_q18 K)) (F_q18 : Fun K "_law_leaf" "_law_leaf" s_q18 a.law_leaf fd_q18) (b_q18 : Binds K fd_q18 ["_law_head", "_law_cell"] []) : FnOk P w K mg base CX0 3 f fd ["_law_head", "_law_cells"] (sp_q22 K) := by
  refine F.ok sc_q22 (fun vs H Q E h => ?_) (fun cdv A outer s H vs Q E hr h => ?_)
  · obtain ⟨h, pc, cs, D, rfl, _⟩ := h
    rfl
  · obtain ⟨hd, pc, cs, D, rfl, sD, hc, hl, q⟩ := h
    refine ⟨_, (pss_cons (psN (i := 2) (sc := defScope s_q22) (M := N_q22) rfl rfl (by decide +kernel) (pe_lst (pa_cons (pe_lst pa_nil) pa_nil)))
      (pss_cons (psN (i := 3) (sc := defScope s_q22) (M := N_q22) rfl rfl (by decide +kernel) pe_int)
      (pss_cons (ps_for PassesOwn.never rfl (pi_list (pvA 1 (defScope s_q22) N_q22 rfl rfl)) (pgN (i := 4) (sc := defScope s_q22) (M := N_q22) rfl rfl (by decide +kernel)) (pss_one (ps_if (PW.pt (pw_and (pt_cmpR op_lt (pe_op op_mod (pvA 4 (defScope s_q22) N_q22 rfl rfl) pe_int) pe_int (nomark _)) (pw_and (pt_cmpR op_lt (pe_callBN (sc := defScope s_q22) call_len rfl (by decide +kernel) T.z_len bt_len (pa_cons (pvA 2 (defScope s_q22) N_q22 rfl rfl) pa_nil)) pe_int (nomark _)) (pw_and (pt_cmpR op_lt (pe_callBN (sc := defScope s_q22) call_len rfl (by decide +kernel) T.z_len bt_len (pa_cons (pe_ix ix_list (pvA 2 (defScope s_q22) N_q22 rfl rfl) (pe_un un_neg pe_int) (fun _ _ => rfl)) pa_nil)) pe_int (nomark _)) (pw_and1 (pt_cmpR op_lt (pvA 3 (defScope s_q22) N_q22 rfl rfl) pe_int (nomark _))))))) (pss_one (ps_expr (pe_bm PySem.F.plainAttrs_list PySem.F.slot_list_append PySem.F.type_list_append mt_append (pvA 2 (defScope s_q22) N_q22 rfl rfl) (pa_cons (pe_lst pa_nil) pa_nil)))) (pss_one (ps_if (PW.pt (pw_and (pt_cmpR op_eq (pe_op op_mod (pvA 4 (defScope s_q22) N_q22 rfl rfl) pe_int) pe_int (nomark _)) (pw_and1 (pt_cmpR op_gt (pe_callBN (sc := defScope s_q22) call_len rfl (by decide +kernel) T.z_len bt_len (pa_cons (pvA 2 (defScope s_q22) N_q22 rfl rfl) pa_nil)) pe_int (nomark _))))) (pss_one (ps_expr (pe_callN (sc := defScope s_q22) G_q15 (hr.mono (by decide)) rfl (by decide +kernel) T.m_q15 F_q15.kp b_q15 .nil pass0 (pa_cons (pvA 2 (defScope s_q22) N_q22 rfl rfl) (pa_cons (pe_op op_fdiv (pvA 4 (defScope s_q22) N_q22 rfl rfl) pe_int) pa_nil))))) (pss_one (ps_if (PW.pt (pw_and (pt_cmpR op_lt (pvA 3 (defScope s_q22) N_q22 rfl rfl) pe_int (nomark _)) (pw_and1 (pt_cmpR op_lt (pe_callBN (sc := defScope s_q22) call_len rfl (by decide +kernel) T.z_len bt_len (pa_cons (pe_ix ix_list (pvA 2 (defScope s_q22) N_q22 rfl rfl) (pe_un un_neg pe_int) (fun _ _ => rfl)) pa_nil)) pe_int (nomark _))))) (pss_cons (ps_expr (pe_bm PySem.F.plainAttrs_list PySem.F.slot_list_append PySem.F.type_list_append mt_append (pe_ix ix_list (pvA 2 (defScope s_q22) N_q22 rfl rfl) (pe_un un_neg pe_int) (fun _ _ => rfl)) (pa_cons (pe_callN (sc := defScope s_q22) G_q18 (hr.mono (by decide)) rfl (by decide +kernel) T.m_q18 F_q18.kp b_q18 .nil pass0 (pa_cons (pvA 0 (defScope s_q22) N_q22 rfl rfl) (pa_cons (pe_op op_fdiv (pvA 4 (defScope s_q22) N_q22 rfl rfl) pe_int) pa_nil))) pa_nil)))
      (pss_one (psN (i := 3) (sc := defScope s_q22) (M := N_q22) rfl rfl (by decide +kernel) (pe_op op_add (pvA 3 (defScope s_q22) N_q22 rfl rfl) pe_int)))) pss_nil)))))))
      (pss_cons (ps_while PassesOwn.never (pt_cmpR op_gt (pe_callBN (sc := defScope s_q22) call_len rfl (by decide +kernel) T.z_len bt_len (pa_cons (pvA 2 (defScope s_q22) N_q22 rfl rfl) pa_nil)) pe_int (nomark _)) (pss_one (ps_expr (pe_callN (sc := defScope s_q22) G_q15 (hr.mono (by decide)) rfl (by decide +kernel) T.m_q15 F_q15.kp b_q15 .nil pass0 (pa_cons (pvA 2 (defScope s_q22) N_q22 rfl rfl) (pa_cons (pvA 0 (defScope s_q22) N_q22 rfl rfl) pa_nil))))))
      (pss_cons (ps_if (pt_cmpR op_eq (pe_callBN (sc := defScope s_q22) call_len rfl (by decide +kernel) T.z_len bt_len (pa_cons (pe_ix ix_list (pvA 2 (defScope s_q22) N_q22 rfl rfl) pe_int (fun _ _ => rfl)) pa_nil)) pe_int (nomark _)) (pss_one (ps_ret (pe_callN (sc := defScope s_q22) G_q18 (hr.mono (by decide)) rfl (by decide +kernel) T.m_q18 F_q18.kp b_q18 .nil pass0 (pa_cons (pvA 0 (defScope s_q22) N_q22 rfl rfl) (pa_cons (pvA 0 (defScope s_q22) N_q22 rfl rfl) pa_nil))))) pss_nil)
      (pss_cons (ps_if (PW.pt (pw_and (pt_cmpR op_eq (pe_callBN (sc := defScope s_q22) call_len rfl (by decide +kernel) T.z_len bt_len (pa_cons (pe_ix ix_list (pvA 2 (defScope s_q22) N_q22 rfl rfl) pe_int (fun _ _ => rfl)) pa_nil)) pe_int (nomark _)) (pw_and1 (pt_cmpR op_eq (pe_op op_mod (pvA 0 (defScope s_q22) N_q22 rfl rfl) pe_int) pe_int (nomark _))))) (pss_one (ps_ret (pe_ix ix_list (pe_ix ix_list (pvA 2 (defScope s_q22) N_q22 rfl rfl) pe_int (fun _ _ => rfl)) pe_int (fun _ _ => rfl)))) pss_nil)
      (pss_cons (ps_if (pt_cmpR op_eq (pe_op op_mod (pe_op op_fdiv (pvA 0 (defScope s_q22) N_q22 rfl rfl) pe_int) pe_int) pe_int (nomark _)) (pss_one (ps_ret (pe_tup (pa_cons pe_str (pa_cons (pe_ix ix_list (pvA 2 (defScope s_q22) N_q22 rfl rfl) pe_int (fun _ _ => rfl)) pa_nil))))) pss_nil)
      (pss_one (ps_ret (pe_tup (pa_cons pe_str (pa_cons (pe_op op_add pe_int (pe_op op_mod (pe_op op_fdiv (pvA 0 (defScope s_q22) N_q22 rfl rfl) pe_int) (pe_callBN (sc := defScope s_q22) call_len rfl (by decide +kernel) T.z_len bt_len (pa_cons (pe_ix ix_list (pvA 2 (defScope s_q22) N_q22 rfl rfl) pe_int (fun _ _ => rfl)) pa_nil)))) (pa_cons (pe_ix ix_list (pvA 2 (defScope s_q22) N_q22 rfl rfl) pe_int (fun _ _ => rfl)) pa_nil))))))))))))), ?_⟩
    have hs : sizeLine = 16777216 := sizeLine_eq
    refine ⟨by first | decide | (simp only [List.length_cons, List.length_nil, List.length_append, List.length_map]; decide), fun p0 hp0 => ⟨by first | decide | (simp only [List.length_cons, List.length_nil, List.length_append, List.length_map]; decide), fun F hF0 => ?_⟩⟩
    have s0 := Same.upd0 (o := .lst []) hp0
    have nF : H F = none := s0.free hF0
    have nFp : F ≠ p0 := fun z => by rw [z, upd_same] at hF0; cases hF0
    have R0 : RInv K D H F D (upd (upd H p0 (.lst [])) F (.lst [.ref p0])) [⟨p0, [], []⟩] 0 := by
      refine ⟨Gr.heap sD (s0.trans (Same.upd0 hF0)), ⟨upd_same, free_of sD nF, fun f hf => ?_, List.nodup_cons.mpr ⟨(fun z => nomatch z), List.nodup_nil⟩, fun f hf => ?_⟩, CF.FNum.nil, (fun z => nomatch z), nF, fun f hf => ?_⟩
      · rw [List.mem_singleton.mp hf]
        exact ⟨by rw [upd_ne nFp.symm]; exact upd_same, free_of sD hp0, by unfold CF.Rule.datas; exact DataAll.nil⟩
      · rw [List.mem_singleton.mp hf]
        exact nFp.symm
      · rw [List.mem_singleton.mp hf]
        exact hp0
    generalize upd (upd H p0 (.lst [])) F (.lst [.ref p0]) = H0 at R0 ⊢
    clear hp0 hF0 s0 nFp
    refine ⟨_, rfl, pc, rfl, ⟨_, R0.gr.hh.seq hc⟩, ?_⟩
    refine for_list (xs := cs.map V.int) (fun i σ H' => ∃ D' fs n v4, σ = [some (.int hd), some (.ref pc), some (.ref F), some (.int (n : Nat)), v4] ∧ RInv K D H F D' H' fs n) ⟨D, _, 0, _, rfl, R0⟩ ?_ ?_ ?_
    · rintro i σ H' _ ⟨D', fs, n, v4, _, R⟩
      exact R.gr.hh.seq hc
    · rintro i x σ H1 hx ⟨D1, fs, n, v4, rfl, R⟩
      rw [List.getElem?_map] at hx
      obtain ⟨c, hcc, rfl⟩ := Option.map_eq_some_iff.mp hx
      obtain ⟨is, t, rfl⟩ := snoc_of R.ne
      have eF := top_at R.frs
      have ft := R.frs.each t top_mem
      have lt := ft.len
      have hn16 := R.num.few
      have ht16 := (R.num.good t top_mem).2
      have lis : ((is.map fun f => V.ref f.p) ++ [V.ref t.p]).length = is.length + 1 := by rw [List.length_append, List.length_map]; rfl
      have hlen := R.num.len
      rw [List.length_append, List.length_singleton] at hlen
      have more : ∀ (hn : n < 16) (h16 : t.rs.length < 16) (l : CF.Leaf) D2 H2 (y : V), Gr D1 H1 D2 H2 → DataAt K D2 y l.data → l.Good → H2 t.p = some (.lst t.xs) ∧ RInv K D H F D2 (upd H2 t.p (.lst (t.xs ++ [y]))) (is ++ [⟨t.p, t.xs ++ [y], t.rs ++ [.leaf l]⟩]) (n + 1) := by
        intro hn h16 l D2 H2 y g2 dy hl'
        have F2 := R.frs.gr g2
        have f2 := F2.each t top_mem
        refine ⟨f2.at_, Gr.set (R.gr.trans g2) (R.np t top_mem) f2.out, ?_, R.num.leaf hn h16 hl', (fun z => by have := congrArg List.length z; rw [List.length_append] at this; cases this), R.nF, fun f hf => ?_⟩
        · refine F2.set _ _ ?_
          rw [CF.Rule.datas_map, List.map_append, ← CF.Rule.datas_map]
          exact DataAll.snoc (by unfold CF.Rule.data; exact dy) f2.data
        · rcases List.mem_append.mp hf with hf | hf
          · exact R.np f (List.mem_append_left _ hf)
          · rw [List.mem_singleton.mp hf]
            exact R.np t top_mem
      have shut : ∀ (h1 : 1 < is.length + 1), ∃ (js : List CF.Fr) (g : CF.Fr), is ++ [t] = js ++ [g, t] ∧ g.rs.length ≤ 16 := by
        intro h1
        obtain ⟨js, g, rfl⟩ := snoc_of (fs := is) (fun z => by rw [z] at h1; exact absurd h1 (by decide))
        exact ⟨js, g, by rw [List.append_assoc]; rfl, (R.num.good g (List.mem_append_left _ top_mem)).2⟩
      refine and_rest ?elif fun hB => ⟨_, rfl, _, _, rfl, rfl, (by show (0 : Int) < 10; decide), _, _, rfl, rfl, _, rfl, ite2 (fun h1 => ⟨_, rfl, .ref F, _, rfl, .inl ⟨_, SqL.of eF, rfl⟩, _, _, rfl, rfl, _, rfl, ite2 (fun h2 => ⟨_, rfl, _, rfl, F, _, _, _, rfl, rfl, SqL.of eF, atI_last _ _, .ref t.p, _, rfl, .inl ⟨_, SqL.of ft.at_, rfl⟩, _, _, rfl, rfl, _, rfl, ite2 (fun h3 => ⟨_, rfl, _, _, rfl, rfl, _, rfl, ite2 (fun h4 => ?opn) (fun _ => hB)⟩) (fun _ => iteF hB)⟩) (fun _ => iteF hB)⟩) (fun _ => iteF hB)⟩
      case opn =>
        have h2' := of_decide_eq_true h2
        have h3' := of_decide_eq_true h3
        rw [lis] at h2'
        refine ⟨_, rfl, .inl ⟨rfl, _, SqL.of eF⟩, by first | decide | (simp only [List.length_cons, List.length_nil, List.length_append, List.length_map]; decide), fun pn hpn => ⟨F, _, _, rfl, rfl, (Same.upd0 hpn) _ _ eF, by rw [lis]; omega, D1, (is ++ [t]) ++ [⟨pn, [], []⟩], n, _, rfl, ?_⟩⟩
        have e := R.frs.push hpn (free_of R.gr.dh hpn)
        rw [show ((is ++ [t]).map fun f => V.ref f.p) = (is.map fun f => V.ref f.p) ++ [.ref t.p] by rw [List.map_append]; rfl] at e
        refine ⟨Gr.set (R.gr.then (Same.upd0 hpn)) R.nF R.frs.out, e, R.num.push (by rw [List.length_append, List.length_singleton]; omega) (by omega), (fun z => by have := congrArg List.length z; rw [List.length_append] at this; cases this), R.nF, fun f hf => ?_⟩
        rcases List.mem_append.mp hf with hf | hf
        · exact R.np f hf
        · rw [List.mem_singleton.mp hf]
          exact R.gr.hh.free hpn
      case elif =>
        refine and_rest ?elif2 fun hB => ⟨_, rfl, _, _, rfl, rfl, (by show (0 : Int) < 10; decide), rfl, _, rfl, ite2 (fun h1 => ⟨_, rfl, .ref F, _, rfl, .inl ⟨_, SqL.of eF, rfl⟩, _, _, rfl, rfl, _, rfl, ite2 (fun h2 => ?cls) (fun _ => hB)⟩) (fun _ => iteF hB)⟩
        case cls =>
          have h2' := of_decide_eq_true h2
          rw [lis] at h2'
          obtain ⟨js, g, ejs, hg16⟩ := shut (by omega)
          refine ⟨_, rfl, _, rfl, _, _, rfl, rfl, ⟨by decide, by decide⟩, F, _, D1, js, g, t, rfl, R.gr.dh, by rw [← ejs]; exact R.frs, ⟨(R.num.good t top_mem).1, ht16, hg16⟩, fun D' H' g' hp hr s' hF' he => ⟨D', js ++ [g'], n, _, rfl, ?_⟩⟩
          rw [ejs] at R
          exact R.closed hp hr s' hF' he
        case elif2 =>
          refine and_rest ?elif3 fun hB => ⟨_, rfl, _, _, rfl, rfl, _, rfl, ite2 (fun h1 => ⟨_, rfl, _, rfl, F, _, _, _, rfl, rfl, SqL.of eF, atI_last _ _, .ref t.p, _, rfl, .inl ⟨_, SqL.of ft.at_, rfl⟩, _, _, rfl, rfl, _, rfl, ite2 (fun h2 => ?lf) (fun _ => hB)⟩) (fun _ => iteF hB)⟩
          case lf =>
            have h1' := of_decide_eq_true h1
            have h2' := of_decide_eq_true h2
            refine ⟨_, rfl, _, rfl, F, _, _, _, rfl, rfl, SqL.of eF, atI_last _ _, .inl ⟨rfl, _, SqL.of ft.at_⟩, _, rfl, _, rfl, _, _, rfl, rfl, ⟨by decide, by decide⟩, _, _, D1, rfl, R.gr.dh, fun l D2 H2 y g2 dy hl' => ?_⟩
            obtain ⟨e2, R2⟩ := more (by omega) (by omega) l D2 H2 y g2 dy hl'
            exact ⟨t.p, _, _, rfl, rfl, e2, by omega, _, rfl, _, _, rfl, rfl, D2, _, n + 1, _, rfl, R2⟩
          case elif3 => exact ⟨D1, _, n, _, rfl, R⟩
    · rintro σ H1 ⟨D1, fs, n, v4, rfl, R⟩
      refine ⟨fun m σ H' => ∃ D' fs n v4, σ = [some (.int hd), some (.ref pc), some (.ref F), some (.int (n : Nat)), v4] ∧ RInv K D H F D' H' fs n ∧ m = fs.length, ⟨_, D1, fs, n, v4, rfl, R, rfl⟩, ?_⟩
      clear R
      rintro m σ H2 ⟨D2, fs, n, v4, rfl, R, rfl⟩
      obtain ⟨is, t, rfl⟩ := snoc_of R.ne
      have eF := top_at R.frs
      have ft := R.frs.each t top_mem
      have lt := ft.len
      have ht16 := (R.num.good t top_mem).2
      have htg := (R.num.good t top_mem).1
      have hn16 := R.num.few
      have lis : ((is.map fun f => V.ref f.p) ++ [V.ref t.p]).length = is.length + 1 := by rw [List.length_append, List.length_map]; rfl
      refine ⟨_, rfl, .ref F, _, rfl, .inl ⟨_, SqL.of eF, rfl⟩, _, _, rfl, rfl, _, rfl, ite2 (fun h1 => ?_) (fun h1 => ?_)⟩
      · have h1' := of_decide_eq_true h1
        rw [lis] at h1'
        obtain ⟨js, g, ejs⟩ := snoc_of (fs := is) (fun z => by rw [z] at h1'; exact absurd h1' (by decide))
        subst ejs
        have hg16 := (R.num.good g (List.mem_append_left _ top_mem)).2
        have ej : (js ++ [g]) ++ [t] = js ++ [g, t] := by rw [List.append_assoc]; rfl
        refine ⟨fun σ' H' => ∃ D' fs' n v4, σ' = [some (.int hd), some (.ref pc), some (.ref F), some (.int (n : Nat)), v4] ∧ RInv K D H F D' H' fs' n ∧ fs'.length < ((js ++ [g]) ++ [t]).length, ?_, ?_⟩
        · rintro σ' H' ⟨D', fs', n, v4, rfl, R', hlt⟩
          exact ⟨_, hlt, D', fs', n, v4, rfl, R', rfl⟩
        rw [ej] at R ⊢
        refine ⟨_, rfl, _, rfl, F, _, D2, js, g, t, rfl, R.gr.dh, R.frs, ⟨htg, ht16, hg16⟩, fun D' H' g' hp hr s' hF' he => ⟨D', js ++ [g'], n, _, rfl, R.closed hp hr s' hF' he, ?_⟩⟩
        rw [List.length_append, List.length_append]
        exact Nat.lt_succ_self _
      · have his : is = [] := by
          cases is with
          | nil => rfl
          | cons f r => exact absurd (decide_eq_true (show (1 : Int) < (((((f :: r).map fun f => V.ref f.p) ++ [V.ref t.p]).length : Nat) : Int) by rw [lis, List.length_cons]; omega)) h1
        subst his
        have hdeep := (R.num.deep 0 t rfl).1
        have hsum := R.num.sum
        have hsum' : (CF.Rule.leavess t.rs).length + 0 = n := hsum
        have eF' : H2 F = some (.lst [.ref t.p]) := eF
        have last : ∀ (r : CF.Rule) (p : Addr), GroupOf t.rs r → H2 p = none → Q (.ref p) (upd H2 p (.tup (r.head ++ [.ref t.p]))) := by
          intro r p hr hp
          have G3 := R.gr.fix (R.np t top_mem) ft.out ft.at_
          have G4 := G3.trans (Gr.lay (o := .tup (r.head ++ [.ref t.p])) G3.dh hp)
          have np : upd D2 t.p (.lst t.xs) p = none := free_of G3.dh hp
          refine q r _ _ (.ref p) G4 ?_ hr.good (by rw [hr.deep]; omega) (by rw [hr.leaves]; omega)
          refine CF.Rule.grpAt hr.grp upd_same (.inl ((Same.upd0 np) _ _ upd_same)) ?_
          rw [hr.rules]
          exact DataAll.up ft.data ((Same.upd0 ft.out).trans (Same.upd0 np))
        refine ⟨_, rfl, F, _, _, _, rfl, rfl, SqL.of eF', rfl, .ref t.p, t.xs.length, rfl, .inl ⟨_, SqL.of ft.at_, rfl⟩, rfl, _, rfl, ite2 (fun h2 => ?_) (fun h2 => ?_)⟩
        · refine ⟨_, rfl, _, rfl, hd, hd, D2, rfl, R.gr.dh, fun l D3 H3 y g3 dy hl' => q (.leaf l) D3 H3 y (R.gr.trans g3) (by unfold CF.Rule.data; exact dy) (by unfold CF.Rule.Good; exact hl') (by unfold CF.Rule.depth; decide) (by unfold CF.Rule.leaves; exact Nat.succ_le_succ (Nat.zero_le _))⟩
        have hne : t.rs ≠ [] := fun z => h2 (decide_eq_true (by rw [lt, z]; rfl))
        have hpos : 0 < t.rs.length := List.length_pos_iff.mpr hne
        refine and_rest ?oth fun hB => ⟨_, rfl, F, _, _, _, rfl, rfl, SqL.of eF', rfl, .ref t.p, t.xs.length, rfl, .inl ⟨_, SqL.of ft.at_, rfl⟩, rfl, _, rfl, ite2 (fun h3 => ⟨_, rfl, _, _, rfl, rfl, (by show (0 : Int) < 2; decide), rfl, _, rfl, ite2 (fun h4 => ?one) (fun _ => hB)⟩) (fun _ => iteF hB)⟩
        case one =>
          have hlt : 0 < t.xs.length := by omega
          obtain ⟨r, er⟩ : ∃ r, t.rs[0]? = some r := ⟨t.rs[0], List.getElem?_eq_getElem hpos⟩
          obtain ⟨y, ey, dy⟩ := DataAll.at_ ft.data (i := 0) (d := r.data) (by rw [CF.Rule.datas_map, List.getElem?_map, er]; rfl)
          have hm := List.mem_of_getElem? er
          refine ⟨_, rfl, F, _, _, _, rfl, rfl, SqL.of eF', rfl, t.p, _, _, _, rfl, rfl, SqL.of ft.at_, atI_nat (j := 0) ey, ?_⟩
          refine q r D2 H2 y R.gr dy (CF.Rule.goods_iff.mp htg r hm) (by have := CF.Rule.depths_mem hm; omega) ?_
          have h3' := V.int.inj (of_decide_eq_true h3)
          have e1 : t.rs = [r] := by
            cases hrs : t.rs with
            | nil => exact absurd hrs hne
            | cons a b =>
              rw [hrs] at er lt
              have : b = [] := List.eq_nil_of_length_eq_zero (by rw [List.length_cons] at lt; omega)
              rw [this]
              exact congrArg (· :: []) (Option.some.inj er)
          rw [e1, CF.Rule.leavess_one] at hsum'
          omega
        case oth =>
          refine ⟨_, rfl, _, _, rfl, rfl, ⟨by decide, by decide⟩, _, _, rfl, rfl, (by show (0 : Int) < 2; decide), rfl, _, rfl, ite2 (fun _ => ?_) (fun _ => ?_)⟩
          · exact ⟨_, rfl, F, _, _, _, rfl, rfl, SqL.of eF', rfl, by first | decide | (simp only [List.length_cons, List.length_nil, List.length_append, List.length_map]; decide), fun p hp => last (.allr t.rs) p (group_all hne ht16 htg) hp⟩
          · have m0 := Int.emod_nonneg (hd / 4) (show ((t.xs.length : Nat) : Int) ≠ 0 by omega)
            have m1 := Int.emod_lt_of_pos (hd / 4) (show (0 : Int) < (t.xs.length : Nat) by omega)
            exact ⟨_, rfl, _, _, rfl, rfl, ⟨by decide, by decide⟩, _, rfl, F, _, _, _, rfl, rfl, SqL.of eF', rfl, .ref t.p, t.xs.length, rfl, .inl ⟨_, SqL.of ft.at_, rfl⟩, _, _, rfl, rfl, (by show (0 : Int) < (t.xs.length : Nat); omega), _, _, rfl, rfl, _, rfl, F, _, _, _, rfl, rfl, SqL.of eF', rfl, by first | decide | (simp only [List.length_cons, List.length_nil, List.length_append, List.length_map]; decide), fun p hp => last (.somr (1 + hd / 4 % (t.xs.length : Nat)) t.rs) p (group_some ⟨by omega, by omega⟩ ht16 htg) hp⟩
def sp_q17 (K : PySem.W.Frag) : Sp := fun vs H Q _ => ∃ (a : Addr) (ns : List Int) (D : Hp), vs = [.ref a] ∧ SqL K H a (ns.map V.int) ∧ ns.length ≤ 63 ∧ Same D H ∧ ∀ (c : CF.Course) D' H' v, Gr D H D' H' → DataAt K D' v c.data → c.Good → Q v H'
theorem ok_q17 {f : Addr} {fd fd_q14 fd_q22 fd_q23 : FuncData} (F : Fun K "_law_course" "_law_course" s_q17 f fd) (T : Txt K mg a)
    (G_q14 : FnOk P w K mg base CX0 1 a.law_cell_at fd_q14 ["_law_script", "_law_k"] (sp_q14 K)) (F_q14 : Fun K "_law_cell_at" "_law_cell_at" s_q14 a.law_cell_at fd_q14) (b_q14 : Binds K fd_q14 ["_law_script", "_law_k"] [])
    (G_q22 : FnOk P w K mg base CX0 3 a.law_rule fd_q22 ["_law_head", "_law_cells"] (sp_q22 K)) (F_q22 : Fun K "_law_rule" "_law_rule" s_q22 a.law_rule fd_q22) (b_q22 : Binds K fd_q22 ["_law_head", "_law_cells"] [])
    (G_q23 : FnOk P w K mg base CX0 1 a.law_word fd_q23 ["_law_cell", "_law_k"] (sp_q23 K)) (F_q23 : Fun K "_law_word" "_law_word" s_q23 a.law_word fd_q23) (b_q23 : Binds K fd_q23 ["_law_cell", "_law_k"] []) : FnOk P w K mg base CX0 4 f fd ["_law_script"] (sp_q17 K) := by
  refine F.ok sc_q17 (fun vs H Q E h => ?_) (fun cdv A outer s H vs Q E hr h => ?_)
  · obtain ⟨a, ns, D, rfl, _⟩ := h
    rfl
  · obtain ⟨ad, ns, D, rfl, hS, hl, sD, q⟩ := h
    refine ⟨_, (pss_cons (psN (i := 1) (sc := defScope s_q17) (M := N_q17) rfl rfl (by decide +kernel) (pe_callN (sc := defScope s_q17) G_q14 (hr.mono (by decide)) rfl (by decide +kernel) T.m_q14 F_q14.kp b_q14 .nil pass0 (pa_cons (pvA 0 (defScope s_q17) N_q17 rfl rfl) (pa_cons pe_int pa_nil))))
      (pss_cons (psN (i := 2) (sc := defScope s_q17) (M := N_q17) rfl rfl (by decide +kernel) (pe_lst pa_nil))
      (pss_cons (ps_for PassesOwn.never rfl (pi_range1 (glR (sc := defScope s_q17) rfl (by decide +kernel)) T.z_range (pa_cons (pe_op op_mod (pe_callN (sc := defScope s_q17) G_q14 (hr.mono (by decide)) rfl (by decide +kernel) T.m_q14 F_q14.kp b_q14 .nil pass0 (pa_cons (pvA 0 (defScope s_q17) N_q17 rfl rfl) (pa_cons pe_int pa_nil))) pe_int) pa_nil)) (pgN (i := 3) (sc := defScope s_q17) (M := N_q17) rfl rfl (by decide +kernel)) (pss_one (ps_expr (pe_bm PySem.F.plainAttrs_list PySem.F.slot_list_append PySem.F.type_list_append mt_append (pvA 2 (defScope s_q17) N_q17 rfl rfl) (pa_cons (pe_tup (pa_cons (pe_callN (sc := defScope s_q17) G_q23 (hr.mono (by decide)) rfl (by decide +kernel) T.m_q23 F_q23.kp b_q23 .nil pass0 (pa_cons (pvA 1 (defScope s_q17) N_q17 rfl rfl) (pa_cons (pvA 3 (defScope s_q17) N_q17 rfl rfl) pa_nil))) (pa_cons (pe_op op_add pe_int (pe_op op_mod (pe_op op_fdiv (pe_callN (sc := defScope s_q17) G_q14 (hr.mono (by decide)) rfl (by decide +kernel) T.m_q14 F_q14.kp b_q14 .nil pass0 (pa_cons (pvA 0 (defScope s_q17) N_q17 rfl rfl) (pa_cons pe_int pa_nil))) (pe_op op_add pe_int (pvA 3 (defScope s_q17) N_q17 rfl rfl))) pe_int)) pa_nil))) pa_nil)))))
      (pss_one (ps_ret (pe_tup (pa_cons (pvA 2 (defScope s_q17) N_q17 rfl rfl) (pa_cons (pe_callN (sc := defScope s_q17) G_q22 (hr.mono (by decide)) rfl (by decide +kernel) T.m_q22 F_q22.kp b_q22 .nil pass0 (pa_cons (pvA 1 (defScope s_q17) N_q17 rfl rfl) (pa_cons (pe_slice sl_list (pvA 0 (defScope s_q17) N_q17 rfl rfl) (po_some pe_int) (po_some pe_int)) pa_nil))) pa_nil)))))))), ?_⟩
    have hs : sizeLine = 16777216 := sizeLine_eq
    refine ⟨_, rfl, ad, ns, 0, rfl, hS, hl, by decide, ?_⟩
    generalize cellZ ns 0 = hd
    refine ⟨by first | decide | (simp only [List.length_cons, List.length_nil, List.length_append, List.length_map]; decide), fun po hpo => ?_⟩
    have n0 : 0 ≤ cellZ ns 1 % 7 := Int.emod_nonneg _ (by decide)
    have n1 : cellZ ns 1 % 7 < 7 := Int.emod_lt_of_pos _ (by decide)
    have s1 := Same.upd0 (o := .lst []) hpo
    refine ⟨_, rfl, ad, ns, 1, rfl, s1.seq hS, hl, by decide, _, _, rfl, rfl, (by show (0 : Int) < 7; decide), _, rfl, by omega, by omega, ?_⟩
    refine for_range (fun i σ H' => ∃ D1 os xs v, σ = [some (.ref ad), some (.int hd), some (.ref po), v] ∧ Gr D H D1 H' ∧ H' po = some (.lst xs) ∧ D1 po = none ∧ DataAll K D1 xs (os.map CF.oftD) ∧ os.map (·.1) = (List.range i).map (fun j : Nat => wordOf hd (j : Int)) ∧ (∀ p ∈ os, 1 ≤ p.2 ∧ p.2 ≤ 9)) ⟨D, [], [], _, rfl, Gr.heap sD s1, upd_same, free_of sD hpo, DataAll.nil, rfl, (fun p h => nomatch h)⟩ ?_ ?_
    · rintro i σ H1 hi ⟨D1, os, xs, v, rfl, G, e, nd, hA, hw, hn⟩
      refine ⟨_, rfl, .inl ⟨rfl, _, SqL.of e⟩, _, rfl, _, rfl, hd, _, rfl, fun H2 s2 => ?_⟩
      have G2 := G.then s2
      refine ⟨_, rfl, ad, ns, 1, rfl, G2.hh.seq hS, hl, by decide, _, rfl, _, _, rfl, rfl, _, _, rfl, rfl, ⟨by omega, by omega⟩, _, _, rfl, rfl, (by show (0 : Int) < 9; decide), _, _, rfl, rfl, by first | decide | (simp only [List.length_cons, List.length_nil, List.length_append, List.length_map]; decide), fun pt hpt => ?_⟩
      obtain ⟨z, hz⟩ : ∃ z : Int, z = 1 + cellZ ns 1 / (7 + (0 + (i : Nat))) % 9 := ⟨_, rfl⟩
      have hz1 : 1 ≤ z ∧ z ≤ 9 := by
        have h0 := Int.emod_nonneg (cellZ ns 1 / (7 + (0 + (i : Nat)))) (show (9 : Int) ≠ 0 by decide)
        have h1 := Int.emod_lt_of_pos (cellZ ns 1 / (7 + (0 + (i : Nat)))) (show (0 : Int) < 9 by decide)
        omega
      rw [show (fun i j : Int => V.int (i + j)) 1 (cellZ ns 1 / (7 + (0 + (i : Nat))) % 9) = V.int z by rw [hz]] at *
      have lx := DataAll.length hA
      rw [List.length_map, ← List.length_map (f := fun p : Str × Int => p.1), hw, List.length_map, List.length_range] at lx
      have G3 := Gr.lay (o := .tup [.str (wordOf hd (0 + (i : Nat))), .int z]) G2.dh hpt
      obtain ⟨e3, n3⟩ := G3.old (s2 _ _ e) nd
      refine ⟨po, _, _, rfl, rfl, e3, by omega, _, os ++ [(wordOf hd (i : Nat), z)], _, _, rfl, Gr.set (G2.trans G3) hpo n3, upd_same, n3, ?_, ?_, ?_⟩
      · rw [List.map_append]
        refine DataAll.snoc ?_ (DataAll.up hA G3.dd)
        rw [show (0 : Int) + (i : Nat) = (i : Nat) by omega]
        exact DataAt.mkT (DataAll.cons DataAt.ofStr (DataAll.cons DataAt.ofInt DataAll.nil)) upd_same (Same.refl _)
      · rw [List.map_append, hw, List.range_succ, List.map_append]
        rfl
      · intro p hp
        rcases List.mem_append.mp hp with h | h
        · exact hn p h
        · rw [List.mem_singleton.mp h]; exact hz1
    rintro σ H1 ⟨D1, os, xs, v, rfl, G, e, nd, hA, hw, hn⟩
    obtain ⟨ms, em, lm, mm⟩ := cut_ints ns (some 2) (some 65)
    refine ⟨_, rfl, _, rfl, _, rfl, _, rfl, _, rfl, ad, _, rfl, G.hh.seq hS, fun p2 hp2 => ?_⟩
    rw [em]
    have G2 := G.then (Same.upd0 (o := .lst (ms.map V.int)) hp2)
    refine ⟨hd, p2, ms, D1, rfl, G2.dh, SqL.of upd_same, by omega, fun r D3 H3 y g3 dy hr hdp hlv => ⟨by first | decide | (simp only [List.length_cons, List.length_nil, List.length_append, List.length_map]; decide), fun pt hpt => ?_⟩⟩
    have e2 := (Same.upd0 (o := .lst (ms.map V.int)) hp2) _ _ e
    obtain ⟨e3, n3⟩ := g3.old e2 nd
    have G3 := (G2.trans g3).fix hpo n3 e3
    have G4 := G3.trans (Gr.lay (o := .tup [.ref po, y]) G3.dh hpt)
    have lx := congrArg List.length hw
    rw [List.length_map, List.length_map, List.length_range] at lx
    refine q ⟨os, r⟩ _ _ (.ref pt) G4 ?_ ⟨?_, hn, ?_, ?_, hr, hdp, hlv⟩
    · have sx : Same D3 (upd D3 po (.lst xs)) := Same.upd0 n3
      have ho : DataAt K (upd D3 po (.lst xs)) (.ref po) (.list (os.map CF.oftD)) := DataAt.mkL (DataAll.up hA (g3.dd.trans sx)) upd_same (Same.refl _)
      exact DataAt.mkT (DataAll.cons ho (DataAll.cons (DataAt.up dy sx) DataAll.nil)) upd_same (Same.upd0 (free_of G3.dh hpt))
    · intro p hp
      have : p.1 ∈ os.map (·.1) := List.mem_map.mpr ⟨p, hp, rfl⟩
      rw [hw] at this
      obtain ⟨j, _, ej⟩ := List.mem_map.mp this
      rw [← ej]
      exact word_ok _ _
    · show (os.map (·.1)).Nodup
      rw [hw]
      refine nodup_map' List.nodup_range fun i hi j hj eij => ?_
      have := List.mem_range.mp hi
      have := List.mem_range.mp hj
      have := word_inj (c := hd) (i := (i : Nat)) (j := (j : Nat)) (by omega) (by omega) (by omega) (by omega) eij
      omega
    · show os.length ≤ 16
      omega
def sp_q25 (_ : PySem.W.Frag) : Sp := fun vs H Q _ => ∃ (t g : Str), vs = [.str t, .str g] ∧ t.length ≤ 1048576 ∧ ∀ H', Same H H' → Q (.bl (CW.onlyOf t g)) H'
theorem ok_q25 {f : Addr} {fd : FuncData} (F : Fun K "only_of" "only_of" s_q25 f fd) (T : Txt K mg a) : FnOk P w K mg base CX0 1 f fd ["text", "signs"] (sp_q25 K) := by
  refine F.ok sc_q25 (fun vs H Q E h => ?_) (fun cdv A outer s H vs Q E hr h => ?_)
  · obtain ⟨t, g, rfl, _⟩ := h
    rfl
  · obtain ⟨t, g, rfl, ht, q⟩ := h
    refine ⟨_, (pss_one (ps_ret (pe_callBN (sc := defScope s_q25) (call_allL rfl) rfl (by decide +kernel) T.z_all bt_all (pa_cons (pe_comp rfl (N := ["sign", "signs"]) (own := 1) (js := [1]) (X := (cxOf CX0 P w K mg base N_q25 "only_of" (defScope s_q25) f cdv A outer s H E).nox) (compOk (defScope s_q25) N_q25 rfl rfl (by decide +kernel)) (pi_str (pvA 0 (defScope s_q25) N_q25 rfl rfl)) (fun fp0 sx0 Hx0 => (pgN (i := 0) (sc := relabelS _ (defScope s_q25)) (M := ["sign", "signs"]) rfl rfl (by decide +kernel))) (fun fp0 sx0 Hx0 => pifs_nil) (fun fp0 sx0 Hx0 => (pe_cmpR op_in_str (pvN (i := 0) (sc := relabelS _ (defScope s_q25)) (M := ["sign", "signs"]) rfl rfl (by decide +kernel)) (pvN (i := 1) (sc := relabelS _ (defScope s_q25)) (M := ["sign", "signs"]) rfl rfl (by decide +kernel)) (by with_unfolding_all rfl)))) pa_nil)))), ?_⟩
    refine ⟨_, rfl, t, rfl, fun D hD => ?_⟩
    refine comp_grow hD (yields_str (P := fun _ => True)) (fun σ => ∃ v, σ = [v, some (.str g)]) (fun x => match x with | .str z => some (.bl (g.cps.toList.contains (z.cps.getD 0 0))) | _ => none) ⟨none, rfl⟩ (fun _ _ => trivial) ?_ ?_ ?_
    · rw [List.length_map, sizeLine_eq]
      have : t.cps.toList.length = t.length := by simp [Str.length]
      omega
    · rintro x ys σ H' R1 R0 hx ⟨v, rfl⟩ s k1 k0
      obtain ⟨c, hc, rfl⟩ := List.mem_map.mp hx
      refine ⟨_, rfl, _, rfl, _, _, rfl, rfl, k1 _ _ _ ⟨_, rfl⟩ ?_ (Same.refl _)⟩
      rw [occ_one]
      rfl
    · intro H' s e
      refine ⟨D, t.cps.toList.map fun c => g.cps.toList.contains c, rfl, SqL.of (e.trans ?_), ?_⟩
      · rw [List.filterMap_map, List.map_map]
        congr 2
        induction t.cps.toList with
        | nil => rfl
        | cons c r ih => rw [List.filterMap_cons, List.map_cons, ← ih]; rfl
      · have e2 : ((t.cps.toList.map fun c => g.cps.toList.contains c).all id) = CW.onlyOf t g := by
          unfold CW.onlyOf
          rw [List.all_map]
          rfl
        rw [e2]
        exact q H' s
def sp_q11 (_ : PySem.W.Frag) : Sp := fun vs H Q _ => (∃ t : Str, vs = [.str t] ∧ t.length ≤ 1048576 ∧ ∀ H', Same H H' → Q (.bl (CW.isWord t)) H') ∨ (∃ x S, vs = [x] ∧ (∀ z, x ≠ .str z) ∧ S ≠ "str" ∧ (∀ K, tyName K H x S) ∧ (S = "NoneType" ∨ S = "bool" ∨ S = "int" ∨ S = "list" ∨ S = "tuple") ∧ Q (.bl false) H)
theorem ok_q11 {f : Addr} {fd fd_q25 : FuncData} (F : Fun K "is_word" "is_word" s_q11 f fd) (T : Txt K mg a)
    (G_q25 : FnOk P w K mg base CX0 1 a.only_of fd_q25 ["text", "signs"] (sp_q25 K)) (F_q25 : Fun K "only_of" "only_of" s_q25 a.only_of fd_q25) (b_q25 : Binds K fd_q25 ["text", "signs"] []) : FnOk P w K mg base CX0 2 f fd ["thing"] (sp_q11 K) := by
  have k_KEY_WORDS := T.k_KEY_WORDS
  obtain ⟨_, k_LETTERS⟩ := T.k_LETTERS
  obtain ⟨_, k_MOST_LETTERS⟩ := T.k_MOST_LETTERS
  refine F.ok sc_q11 (fun vs H Q E h => ?_) (fun cdv A outer s H vs Q E hr h => ?_)
  · rcases h with ⟨t, rfl, _⟩ | ⟨x, S, rfl, _⟩
    · rfl
    · rfl
  · rcases h with ⟨t, rfl, ht, q⟩ | ⟨x, S, rfl, hx, hS, hty, hS2, q⟩
    · refine ⟨_, (pss_cons (ps_if (pt_not (pt_val (pe_callBN (sc := defScope s_q11) call_isi rfl (by decide +kernel) T.z_isinstance bt_isinstance (pa_cons (pvA 0 (defScope s_q11) N_q11 rfl rfl) (pa_cons (pe_bltN (v := V.ty "str") (sc := defScope s_q11) rfl (by decide +kernel) T.z_str bt_str rfl) pa_nil))))) (pss_one (ps_ret pe_bl)) pss_nil)
      (pss_cons (ps_if (PW.pt (pw_or (pt_cmpR op_lt (pe_callBN (sc := defScope s_q11) call_len rfl (by decide +kernel) T.z_len bt_len (pa_cons (pvA 0 (defScope s_q11) N_q11 rfl rfl) pa_nil)) pe_int (nomark _)) (pw_or1 (pt_cmpR op_gt (pe_callBN (sc := defScope s_q11) call_len rfl (by decide +kernel) T.z_len bt_len (pa_cons (pvA 0 (defScope s_q11) N_q11 rfl rfl) pa_nil)) (pe_globN (v := V.int 12) (sc := defScope s_q11) rfl (by decide +kernel) k_MOST_LETTERS ⟨_, rfl⟩) (nomark _))))) (pss_one (ps_ret pe_bl)) pss_nil)
      (pss_one (ps_ret (pe_and (pe_callN (sc := defScope s_q11) G_q25 (hr.mono (by decide)) rfl (by decide +kernel) T.m_q25 F_q25.kp b_q25 .nil pass0 (pa_cons (pvA 0 (defScope s_q11) N_q11 rfl rfl) (pa_cons (pe_globN (v := V.str "abcdefghijklmnopqrstuvwxyz") (sc := defScope s_q11) rfl (by decide +kernel) k_LETTERS ⟨_, rfl⟩) pa_nil))) (pe_one (pe_cmpR op_notIn_seq (pvA 0 (defScope s_q11) N_q11 rfl rfl) (pe_globN (v := V.ref a.k_KEY_WORDS) (sc := defScope s_q11) rfl (by decide +kernel) k_KEY_WORDS rfl) (by with_unfolding_all rfl)))))))), ?_⟩
      have hz : t.length ≤ sizeLine := by rw [sizeLine_eq]; omega
      refine ⟨_, rfl, _, "str", "str", true, rfl, rfl, kit_str_str _, _, rfl, iteF ?_⟩
      refine ⟨_, rfl, _, t.length, rfl, ⟨hz, rfl⟩, _, _, rfl, rfl, _, rfl, ite2 (fun h1 => ?_) (fun h1 => ?_)⟩
      · have h1' : (t.length : Int) < 1 := of_decide_eq_true h1
        have e : CW.isWord t = false := by
          unfold CW.isWord
          rw [decide_eq_false (by omega)]
          rfl
        rw [e] at q
        exact iteT (q H (Same.refl H))
      · have h1' : ¬ (t.length : Int) < 1 := fun z => h1 (decide_eq_true z)
        refine ⟨_, rfl, _, t.length, rfl, ⟨hz, rfl⟩, _, _, rfl, rfl, _, rfl, ite2 (fun h2 => ?_) (fun h2 => ?_)⟩
        · have h2' : (12 : Int) < (t.length : Int) := of_decide_eq_true h2
          have e : CW.isWord t = false := by
            unfold CW.isWord
            rw [decide_eq_true (show 1 ≤ t.length by omega), decide_eq_false (show ¬ t.length ≤ 12 by omega)]
            rfl
          rw [e] at q
          exact q H (Same.refl H)
        · have h2' : ¬ (12 : Int) < (t.length : Int) := fun z => h2 (decide_eq_true z)
          refine ⟨_, rfl, t, _, rfl, ht, fun H1 s1 => ⟨_, rfl, ?_⟩⟩
          have e : CW.isWord t = (CW.onlyOf t CW.letters && !CW.keys.contains t) := by
            unfold CW.isWord
            rw [decide_eq_true (show 1 ≤ t.length by omega), decide_eq_true (show t.length ≤ 12 by omega)]
            cases CW.keys.contains t <;> cases CW.onlyOf t CW.letters <;> rfl
          refine ite2 (fun h3 => ?_) (fun h3 => ?_)
          · refine ⟨_, rfl, _, CW.keys.map V.str, rfl, .inr (T.l_KEY_WORDS H1), rfl, by decide +kernel, ?_⟩
            have e2 : (if true = true then !inV (V.str t) (CW.keys.map V.str) else inV (V.str t) (CW.keys.map V.str)) = CW.isWord t := by
              rw [if_pos rfl, e, show CW.onlyOf t CW.letters = true from h3, Bool.true_and]
              congr 1
              exact inV_strs t CW.keys
            rw [e2]
            exact q H1 s1
          · have e3 : CW.onlyOf t CW.letters = false := Bool.eq_false_iff.mpr h3
            rw [e, e3] at q
            exact q H1 s1
    · refine ⟨_, (pss_cons (ps_if (pt_not (pt_val (pe_callBN (sc := defScope s_q11) call_isi rfl (by decide +kernel) T.z_isinstance bt_isinstance (pa_cons (pvA 0 (defScope s_q11) N_q11 rfl rfl) (pa_cons (pe_bltN (v := V.ty "str") (sc := defScope s_q11) rfl (by decide +kernel) T.z_str bt_str rfl) pa_nil))))) (pss_one (ps_ret pe_bl)) pss_nil)
      (pss_cons (ps_if (PW.pt (pw_or (pt_cmpR op_lt (pe_callBN (sc := defScope s_q11) call_len rfl (by decide +kernel) T.z_len bt_len (pa_cons (pvA 0 (defScope s_q11) N_q11 rfl rfl) pa_nil)) pe_int (nomark _)) (pw_or1 (pt_cmpR op_gt (pe_callBN (sc := defScope s_q11) call_len rfl (by decide +kernel) T.z_len bt_len (pa_cons (pvA 0 (defScope s_q11) N_q11 rfl rfl) pa_nil)) (pe_globN (v := V.int 12) (sc := defScope s_q11) rfl (by decide +kernel) k_MOST_LETTERS ⟨_, rfl⟩) (nomark _))))) (pss_one (ps_ret pe_bl)) pss_nil)
      (pss_one (ps_ret (pe_and (pe_callN (sc := defScope s_q11) G_q25 (hr.mono (by decide)) rfl (by decide +kernel) T.m_q25 F_q25.kp b_q25 .nil pass0 (pa_cons (pvA 0 (defScope s_q11) N_q11 rfl rfl) (pa_cons (pe_globN (v := V.str "abcdefghijklmnopqrstuvwxyz") (sc := defScope s_q11) rfl (by decide +kernel) k_LETTERS ⟨_, rfl⟩) pa_nil))) (pe_one (pe_cmpR op_notIn_seq (pvA 0 (defScope s_q11) N_q11 rfl rfl) (pe_globN (v := V.ref a.k_KEY_WORDS) (sc := defScope s_q11) rfl (by decide +kernel) k_KEY_WORDS rfl) (by with_unfolding_all rfl)))))))), ?_⟩
      have hk : PySem.W.kitOne K (.type S) (.type "str") = some false := by
        rcases hS2 with rfl | rfl | rfl | rfl | rfl
        · exact kit_non_str _
        · exact kit_bl_str _
        · exact kit_int_str _
        · exact kit_list_str _
        · exact kit_tuple_str _
      exact ⟨_, rfl, _, S, "str", false, rfl, hty _, hk, _, rfl, iteT q⟩
def sp_q10 (_ : PySem.W.Frag) : Sp := fun vs H Q _ => ∃ t : Str, vs = [.str t] ∧ t.length ≤ 1048576 ∧ ∀ H', Same H H' → Q (.bl (CW.isNum t)) H'
theorem ok_q10 {f : Addr} {fd fd_q25 : FuncData} (F : Fun K "is_number" "is_number" s_q10 f fd) (T : Txt K mg a)
    (G_q25 : FnOk P w K mg base CX0 1 a.only_of fd_q25 ["text", "signs"] (sp_q25 K)) (F_q25 : Fun K "only_of" "only_of" s_q25 a.only_of fd_q25) (b_q25 : Binds K fd_q25 ["text", "signs"] []) : FnOk P w K mg base CX0 2 f fd ["text"] (sp_q10 K) := by
  obtain ⟨_, k_FIGURES⟩ := T.k_FIGURES
  obtain ⟨_, k_MOST_FIGURES⟩ := T.k_MOST_FIGURES
  refine F.ok sc_q10 (fun vs H Q E h => ?_) (fun cdv A outer s H vs Q E hr h => ?_)
  · obtain ⟨t, rfl, _⟩ := h
    rfl
  · obtain ⟨t, rfl, ht, q⟩ := h
    refine ⟨_, (pss_cons (ps_if (PW.pt (pw_or (pt_cmpR op_lt (pe_callBN (sc := defScope s_q10) call_len rfl (by decide +kernel) T.z_len bt_len (pa_cons (pvA 0 (defScope s_q10) N_q10 rfl rfl) pa_nil)) pe_int (nomark _)) (pw_or (pt_cmpR op_gt (pe_callBN (sc := defScope s_q10) call_len rfl (by decide +kernel) T.z_len bt_len (pa_cons (pvA 0 (defScope s_q10) N_q10 rfl rfl) pa_nil)) (pe_globN (v := V.int 60) (sc := defScope s_q10) rfl (by decide +kernel) k_MOST_FIGURES ⟨_, rfl⟩) (nomark _)) (pw_or1 (pt_not (pt_val (pe_callN (sc := defScope s_q10) G_q25 (hr.mono (by decide)) rfl (by decide +kernel) T.m_q25 F_q25.kp b_q25 .nil pass0 (pa_cons (pvA 0 (defScope s_q10) N_q10 rfl rfl) (pa_cons (pe_globN (v := V.str "0123456789") (sc := defScope s_q10) rfl (by decide +kernel) k_FIGURES ⟨_, rfl⟩) pa_nil))))))))) (pss_one (ps_ret pe_bl)) pss_nil)
      (pss_one (ps_ret (pe_or (pe_cmpR op_eq (pvA 0 (defScope s_q10) N_q10 rfl rfl) pe_str (nomark _)) (pe_one (pe_cmpR op_ne (pe_ix ix_str (pvA 0 (defScope s_q10) N_q10 rfl rfl) pe_int (fun _ _ => rfl)) pe_str (nomark _))))))), ?_⟩
    have hz : t.length ≤ sizeLine := by rw [sizeLine_eq]; omega
    refine ⟨_, rfl, _, t.length, rfl, ⟨hz, rfl⟩, _, _, rfl, rfl, _, rfl, ite2 (fun h1 => ?_) (fun h1 => ?_)⟩
    · have h1' : (t.length : Int) < 1 := of_decide_eq_true h1
      have e : CW.isNum t = false := by
        unfold CW.isNum
        rw [decide_eq_false (by omega)]
        rfl
      rw [e] at q
      exact iteT (q H (Same.refl H))
    have h1' : ¬ (t.length : Int) < 1 := fun z => h1 (decide_eq_true z)
    refine ⟨_, rfl, _, t.length, rfl, ⟨hz, rfl⟩, _, _, rfl, rfl, _, rfl, ite2 (fun h2 => ?_) (fun h2 => ?_)⟩
    · have h2' : (60 : Int) < (t.length : Int) := of_decide_eq_true h2
      have e : CW.isNum t = false := by
        unfold CW.isNum
        rw [decide_eq_true (show 1 ≤ t.length by omega), decide_eq_false (show ¬ t.length ≤ 60 by omega)]
        rfl
      rw [e] at q
      exact iteT (q H (Same.refl H))
    have h2' : ¬ (60 : Int) < (t.length : Int) := fun z => h2 (decide_eq_true z)
    have e : CW.isNum t = (CW.onlyOf t CW.figures && (t == "0" || !((⟨#[t.cps.getD 0 0]⟩ : Str) == "0"))) := by
      unfold CW.isNum
      rw [decide_eq_true (show 1 ≤ t.length by omega), decide_eq_true (show t.length ≤ 60 by omega)]
      rfl
    refine ⟨_, rfl, t, _, rfl, ht, fun H1 s1 => ⟨_, rfl, ?_⟩⟩
    show (if (!CW.onlyOf t CW.figures) = true then _ else _)
    cases h3 : CW.onlyOf t CW.figures with
    | false =>
      rw [e, h3] at q
      exact iteT (q H1 s1)
    | true =>
      rw [e, h3, Bool.true_and] at q
      refine iteF ⟨_, rfl, rfl, _, rfl, ?_⟩
      rw [dec_str]
      cases h4 : t == "0" with
      | true =>
        rw [h4] at q
        exact iteT (q H1 s1)
      | false =>
        rw [h4, Bool.false_or] at q
        obtain ⟨c, hc⟩ := at_sign (z := t) (i := 0) (by decide) (by omega)
        have ec : t.cps.getD 0 0 = c := by
          obtain ⟨j, _, e2, _⟩ := atI_get hc
          obtain ⟨r, er⟩ := CW.head_getD (t := t) (by omega)
          have := hc
          unfold atI ixN at this
          have hl : cs t = t.cps.toList := rfl
          rw [← hl, er] at this
          simp at this
          rw [Array.getD_eq_getD_getElem?]
          exact this
        rw [ec] at q
        refine iteF ⟨_, rfl, _, _, _, rfl, rfl, hz, hc, rfl, ?_⟩
        rw [dec_str]
        exact q H1 s1
def sp_q29 (_ : PySem.W.Frag) : Sp := fun vs H Q _ => ∃ (t : Str) (lo hi : Int), vs = [.str t, .int lo, .int hi] ∧ t.length ≤ 1048576 ∧ ∀ H', Same H H' → Q (CT.oV (CT.readNum t lo hi)) H'
theorem ok_q29 {f : Addr} {fd fd_q10 : FuncData} (F : Fun K "read_number" "read_number" s_q29 f fd) (T : Txt K mg a)
    (G_q10 : FnOk P w K mg base CX0 2 a.is_number fd_q10 ["text"] (sp_q10 K)) (F_q10 : Fun K "is_number" "is_number" s_q10 a.is_number fd_q10) (b_q10 : Binds K fd_q10 ["text"] []) : FnOk P w K mg base CX0 3 f fd ["text", "least", "most"] (sp_q29 K) := by
  refine F.ok sc_q29 (fun vs H Q E h => ?_) (fun cdv A outer s H vs Q E hr h => ?_)
  · obtain ⟨t, lo, hi, rfl, _⟩ := h
    rfl
  · obtain ⟨t, lo, hi, rfl, hl, q⟩ := h
    refine ⟨_, (pss_cons (ps_if (pt_not (pt_val (pe_callN (sc := defScope s_q29) G_q10 (hr.mono (by decide)) rfl (by decide +kernel) T.m_q10 F_q10.kp b_q10 .nil pass0 (pa_cons (pvA 0 (defScope s_q29) N_q29 rfl rfl) pa_nil)))) (pss_one (ps_ret pe_non)) pss_nil)
      (pss_cons (psN (i := 3) (sc := defScope s_q29) (M := N_q29) rfl rfl (by decide +kernel) (pe_callTyN (sc := defScope s_q29) call_intT rfl (by decide +kernel) T.z_int bt_int (pa_cons (pvA 0 (defScope s_q29) N_q29 rfl rfl) pa_nil)))
      (pss_cons (ps_if (PW.pt (pw_or (pt_cmpR op_lt (pvA 3 (defScope s_q29) N_q29 rfl rfl) (pvA 1 (defScope s_q29) N_q29 rfl rfl) (nomark _)) (pw_or1 (pt_cmpR op_gt (pvA 3 (defScope s_q29) N_q29 rfl rfl) (pvA 2 (defScope s_q29) N_q29 rfl rfl) (nomark _))))) (pss_one (ps_ret pe_non)) pss_nil)
      (pss_one (ps_ret (pvA 3 (defScope s_q29) N_q29 rfl rfl)))))), ?_⟩
    unfold CT.readNum at q
    refine ⟨_, rfl, t, rfl, hl, fun H1 s1 => ⟨_, rfl, ?_⟩⟩
    cases hn : CW.isNum t with
    | false =>
      rw [hn, if_neg (by decide)] at q
      exact iteT (q H1 s1)
    | true =>
      rw [hn, if_pos rfl] at q
      obtain ⟨e1, e2⟩ := CW.num_reads hn
      refine iteF ⟨_, rfl, t, _, rfl, e1, by omega, ?_⟩
      refine ⟨_, rfl, _, rfl, _, _, rfl, rfl, _, rfl, ite2 (fun h1 => ?_) (fun h1 => ⟨_, rfl, _, rfl, _, _, rfl, rfl, _, rfl, ite2 (fun h2 => ?_) (fun h2 => ?_)⟩)⟩
      · rw [if_pos (.inl (of_decide_eq_true h1))] at q
        exact iteT (q H1 s1)
      · rw [if_pos (.inr (of_decide_eq_true h2))] at q
        exact q H1 s1
      · rw [if_neg (fun z => z.elim (fun z => h1 (decide_eq_true z)) (fun z => h2 (decide_eq_true z)))] at q
        exact ⟨_, rfl, q H1 s1⟩
def PartsOk (ps : List Str) : Prop := (∀ t ∈ ps, CF.Tx 100000 t) ∧ ps.length ≤ 100000
def sp_q8 (K : PySem.W.Frag) : Sp := fun vs H Q _ => ∃ (p : Addr) (ws : List Str), vs = [.ref p] ∧ SqL K H p (ws.map V.str) ∧ PartsOk ws ∧ ∀ H', Same H H' → Q (.bl (CT.areWords ws)) H'
theorem ok_q8 {f : Addr} {fd fd_q11 : FuncData} (F : Fun K "are_words" "are_words" s_q8 f fd) (T : Txt K mg a)
    (G_q11 : FnOk P w K mg base CX0 2 a.is_word fd_q11 ["thing"] (sp_q11 K)) (F_q11 : Fun K "is_word" "is_word" s_q11 a.is_word fd_q11) (b_q11 : Binds K fd_q11 ["thing"] []) : FnOk P w K mg base CX0 3 f fd ["words"] (sp_q8 K) := by
  obtain ⟨_, k_MOST_WORDS⟩ := T.k_MOST_WORDS
  refine F.ok sc_q8 (fun vs H Q E h => ?_) (fun cdv A outer s H vs Q E hr h => ?_)
  · obtain ⟨p, ws, rfl, _⟩ := h
    rfl
  · obtain ⟨p, ws, rfl, hp, hok, q⟩ := h
    refine ⟨_, (pss_cons (ps_if (PW.pt (pw_or (pt_cmpR op_gt (pe_callBN (sc := defScope s_q8) call_len rfl (by decide +kernel) T.z_len bt_len (pa_cons (pvA 0 (defScope s_q8) N_q8 rfl rfl) pa_nil)) (pe_globN (v := V.int 8) (sc := defScope s_q8) rfl (by decide +kernel) k_MOST_WORDS ⟨_, rfl⟩) (nomark _)) (pw_or1 (pt_cmpR op_lt (pe_callBN (sc := defScope s_q8) L6S.call_len_setS rfl (by decide +kernel) T.z_len bt_len (pa_cons (pe_callTyN (sc := defScope s_q8) (L6S.call_set_ofS rfl) rfl (by decide +kernel) T.z_set bt_set (pa_cons (pvA 0 (defScope s_q8) N_q8 rfl rfl) pa_nil)) pa_nil)) (pe_callBN (sc := defScope s_q8) call_len rfl (by decide +kernel) T.z_len bt_len (pa_cons (pvA 0 (defScope s_q8) N_q8 rfl rfl) pa_nil)) (nomark _))))) (pss_one (ps_ret pe_bl)) pss_nil)
      (pss_one (ps_ret (pe_callBN (sc := defScope s_q8) (call_allL rfl) rfl (by decide +kernel) T.z_all bt_all (pa_cons (pe_comp rfl (N := ["word"]) (own := 1) (js := []) (X := (cxOf CX0 P w K mg base N_q8 "are_words" (defScope s_q8) f cdv A outer s H E).nox) (compOk (defScope s_q8) N_q8 rfl rfl (by decide +kernel)) (pi_list (pvA 0 (defScope s_q8) N_q8 rfl rfl)) (fun fp0 sx0 Hx0 => (pgN (i := 0) (sc := relabelS _ (defScope s_q8)) (M := ["word"]) rfl rfl (by decide +kernel))) (fun fp0 sx0 Hx0 => pifs_nil) (fun fp0 sx0 Hx0 => (pe_callN (sc := relabelS _ (defScope s_q8)) G_q11 (hr.mono (by decide)) rfl (by decide +kernel) T.m_q11 F_q11.kp b_q11 .nil pass0 (pa_cons (pvN (i := 0) (sc := relabelS _ (defScope s_q8)) (M := ["word"]) rfl rfl (by decide +kernel)) pa_nil)))) pa_nil))))), ?_⟩
    have hs : sizeLine = 16777216 := sizeLine_eq
    unfold CT.areWords at q
    have lw := hok.2
    refine ⟨_, rfl, .ref p, ws.length, rfl, .inl ⟨_, hp, by rw [List.length_map]⟩, _, _, rfl, rfl, _, rfl, ite2 (fun h1 => ?_) (fun h1 => ?_)⟩
    · have h1' := of_decide_eq_true h1
      rw [decide_eq_false (show ¬ ws.length ≤ 8 by omega), Bool.false_and] at q
      exact iteT (q H (Same.refl _))
    have h8 : ws.length ≤ 8 := by
      have hh : ¬ ((8 : Int) < (ws.length : Nat)) := fun z => h1 (decide_eq_true z)
      omega
    rw [decide_eq_true h8, Bool.true_and] at q
    refine ⟨_, rfl, p, ws, rfl, hp, Nat.lt_of_le_of_lt (Nat.succ_le_succ h8) (by decide), fun ps hps => ⟨ps, L6S.dedup ws, rfl, upd_same, Nat.le_trans (L6S.dedup_len ws) (by omega), ?_⟩⟩
    have s1 := Same.upd0 (o := L6S.setOS P w ps (L6S.dedup ws)) hps
    refine ⟨_, rfl, .ref p, ws.length, rfl, .inl ⟨_, s1.seq hp, by rw [List.length_map]⟩, _, _, rfl, rfl, _, rfl, ite2 (fun h2 => ?_) (fun h2 => ?_)⟩
    · have hnd : ¬ ws.Nodup := fun z => by
        have := of_decide_eq_true h2
        rw [L6S.dedup_eq z] at this
        omega
      rw [decide_eq_false hnd, Bool.false_and] at q
      exact q _ s1
    have hnd : ws.Nodup := by
      refine Classical.byContradiction fun z => h2 (decide_eq_true ?_)
      have := L6S.dedup_lt z
      omega
    rw [decide_eq_true hnd, Bool.true_and] at q
    refine ⟨_, rfl, p, rfl, ⟨_, s1.seq hp⟩, fun c hc => ?_⟩
    refine comp_grow hc yields_list (fun σ => ∃ v, σ = [v]) (fun x => match x with | .str z => some (.bl (CW.isWord z)) | _ => none) ⟨_, rfl⟩ (fun H' s' => (s1.trans s').seq hp) (by rw [List.length_map]; omega) ?_ ?_
    · rintro x ys σ H2 R1 R0 hx ⟨v, rfl⟩ s2 k1 k0
      obtain ⟨z, hz, rfl⟩ := List.mem_map.mp hx
      refine ⟨_, rfl, .inl ⟨z, rfl, Nat.le_trans (hok.1 z hz).2 (by decide), fun H3 s3 => k1 _ _ _ ⟨_, rfl⟩ rfl s3⟩⟩
    · intro H2 s2 e2
      refine ⟨c, ws.map CW.isWord, rfl, SqL.of (e2.trans ?_), ?_⟩
      · congr 2
        rw [List.filterMap_map]
        generalize ws = l
        induction l with
        | nil => rfl
        | cons z r ih => exact congrArg (V.bl (CW.isWord z) :: ·) ih
      · rw [show (ws.map CW.isWord).all id = ws.all CW.isWord by rw [List.all_map]; rfl]
        exact q _ (s1.trans s2)
def sp_q36 (K : PySem.W.Frag) : Sp := fun vs H Q _ => ∃ (p : Addr) (ps : List Str), vs = [.ref p] ∧ SqL K H p (ps.map V.str) ∧ ps.length ≤ 100000 ∧ ∀ H' r, Same H H' → H r = none → H' r = some (.lst ((CT.wordsAhead ps).map V.str)) → Q (.ref r) H'
theorem ok_q36 {f : Addr} {fd : FuncData} (F : Fun K "words_ahead" "words_ahead" s_q36 f fd) (T : Txt K mg a) : FnOk P w K mg base CX0 1 f fd ["parts"] (sp_q36 K) := by
  refine F.ok sc_q36 (fun vs H Q E h => ?_) (fun cdv A outer s H vs Q E hr h => ?_)
  · obtain ⟨p, ps, rfl, _⟩ := h
    rfl
  · obtain ⟨p, ps, rfl, hp, hl, q⟩ := h
    refine ⟨_, (pss_cons (psN (i := 1) (sc := defScope s_q36) (M := N_q36) rfl rfl (by decide +kernel) (pe_slice sl_list (pvA 0 (defScope s_q36) N_q36 rfl rfl) po_none (po_some pe_int)))
      (pss_cons (ps_while PassesOwn.never (PW.pt (pw_and (pt_cmpR op_gt (pe_callBN (sc := defScope s_q36) call_len rfl (by decide +kernel) T.z_len bt_len (pa_cons (pvA 0 (defScope s_q36) N_q36 rfl rfl) pa_nil)) (pe_op op_mul pe_int (pe_callBN (sc := defScope s_q36) call_len rfl (by decide +kernel) T.z_len bt_len (pa_cons (pvA 1 (defScope s_q36) N_q36 rfl rfl) pa_nil))) (nomark _)) (pw_and1 (pt_cmpR op_eq (pe_ix ix_list (pvA 0 (defScope s_q36) N_q36 rfl rfl) (pe_op op_sub (pe_op op_mul pe_int (pe_callBN (sc := defScope s_q36) call_len rfl (by decide +kernel) T.z_len bt_len (pa_cons (pvA 1 (defScope s_q36) N_q36 rfl rfl) pa_nil))) pe_int) (fun _ _ => rfl)) pe_str (nomark _))))) (pss_one (ps_expr (pe_bm PySem.F.plainAttrs_list PySem.F.slot_list_append PySem.F.type_list_append mt_append (pvA 1 (defScope s_q36) N_q36 rfl rfl) (pa_cons (pe_ix ix_list (pvA 0 (defScope s_q36) N_q36 rfl rfl) (pe_op op_mul pe_int (pe_callBN (sc := defScope s_q36) call_len rfl (by decide +kernel) T.z_len bt_len (pa_cons (pvA 1 (defScope s_q36) N_q36 rfl rfl) pa_nil))) (fun _ _ => rfl)) pa_nil)))))
      (pss_one (ps_ret (pvA 1 (defScope s_q36) N_q36 rfl rfl))))), ?_⟩
    have hs : sizeLine = 16777216 := sizeLine_eq
    refine ⟨_, rfl, _, rfl, p, _, rfl, hp, fun r hr => ?_⟩
    rw [show cutV (ps.map V.str) none (some 1) = (ps.take 1).map V.str by rw [show (1 : Int) = ((1 : Nat) : Int) from rfl, cut_to, List.map_take]]
    refine ⟨fun m σ H' => ∃ ws, m = ps.length - ws.length ∧ σ = [some (.ref p), some (.ref r)] ∧ Same H H' ∧ H' r = some (.lst (ws.map V.str)) ∧ ws.length ≤ ps.length ∧ (ps = [] ∧ ws = [] ∨ ∃ p0 r0 ws1, ps = p0 :: r0 ∧ ws = p0 :: ws1 ∧ 2 * ws1.length ≤ r0.length ∧ CT.ahead r0 = ws1 ++ CT.ahead (r0.drop (2 * ws1.length))), ⟨_, ps.take 1, rfl, rfl, Same.upd0 hr, upd_same, by rw [List.length_take]; omega, ?_⟩, ?_⟩
    · cases ps with
      | nil => exact .inl ⟨rfl, rfl⟩
      | cons p0 r0 => exact .inr ⟨p0, r0, [], rfl, rfl, by simp, by simp⟩
    rintro m σ H1 ⟨ws, rfl, rfl, s1, e1, lw, inv⟩
    have hp1 := s1.seq hp
    have fin : CT.wordsAhead ps = ws → Q (.ref r) H1 := fun e => q H1 r s1 hr (by rw [e]; exact e1)
    rcases inv with ⟨rfl, rfl⟩ | ⟨p0, r0, ws1, rfl, rfl, l1, ea⟩
    · refine ⟨_, rfl, .ref p, 0, rfl, .inl ⟨_, hp1, rfl⟩, _, rfl, .ref r, 0, rfl, .inl ⟨_, SqL.of e1, rfl⟩, _, _, rfl, rfl, .inl ⟨by decide, by decide⟩, _, _, rfl, rfl, _, rfl, iteF (iteF ⟨_, rfl, fin rfl⟩)⟩
    have lr : (p0 :: r0).length = r0.length + 1 := rfl
    have lw1 : (p0 :: ws1).length = ws1.length + 1 := rfl
    have stopc : ¬ (2 * ((p0 :: ws1).length : Nat) < ((p0 :: r0).length : Int)) → CT.ahead (r0.drop (2 * ws1.length)) = [] := fun hz => CT.ahead_stop fun z => hz (by
      have := z.1
      rw [List.length_drop] at this
      rw [lr, lw1]
      omega)
    refine and_rest (B := CT.ahead (r0.drop (2 * ws1.length)) = [] → _) ?stop fun hB => ⟨_, rfl, .ref p, (p0 :: r0).length, rfl, .inl ⟨_, hp1, by rw [List.length_map]⟩, _, rfl, .ref r, (p0 :: ws1).length, rfl, .inl ⟨_, SqL.of e1, by rw [List.length_map]⟩, _, _, rfl, rfl, .inl ⟨by decide, by decide⟩, _, _, rfl, rfl, _, rfl, ite2 (fun h1 => ?_) (fun h1 => iteF (hB (stopc fun z => h1 (decide_eq_true z))))⟩
    case stop =>
      intro hz
      rw [hz, List.append_nil] at ea
      exact ⟨_, rfl, fin (by show p0 :: CT.ahead r0 = _; rw [ea])⟩
    have h1' := of_decide_eq_true h1
    rw [lr, lw1] at h1'
    have hd2 : 2 * ws1.length + 1 < r0.length := by omega
    obtain ⟨o, w', r', edrop⟩ : ∃ o w' r', r0.drop (2 * ws1.length) = o :: w' :: r' := by
      refine ⟨r0[2 * ws1.length], r0[2 * ws1.length + 1], r0.drop (2 * ws1.length + 2), ?_⟩
      rw [List.drop_eq_getElem_cons (by omega), List.drop_eq_getElem_cons (by omega)]
    have g0 : (p0 :: r0)[2 * ws1.length + 1]? = some o := by
      rw [List.getElem?_cons_succ]
      have : (r0.drop (2 * ws1.length))[0]? = some o := by rw [edrop]; rfl
      rw [List.getElem?_drop] at this
      exact this
    have g1 : (p0 :: r0)[2 * ws1.length + 2]? = some w' := by
      rw [List.getElem?_cons_succ]
      have : (r0.drop (2 * ws1.length))[1]? = some w' := by rw [edrop]; rfl
      rw [List.getElem?_drop] at this
      exact this
    have a0 : atI ((p0 :: r0).map V.str) (2 * ((p0 :: ws1).length : Nat) - 1) = some (.str o) := by
      rw [show (2 * ((p0 :: ws1).length : Nat) - 1 : Int) = ((2 * ws1.length + 1 : Nat) : Int) by rw [lw1]; omega]
      exact atI_nat (by rw [List.getElem?_map, g0]; rfl)
    have a1 : atI ((p0 :: r0).map V.str) (2 * ((p0 :: ws1).length : Nat)) = some (.str w') := by
      rw [show (2 * ((p0 :: ws1).length : Nat) : Int) = ((2 * ws1.length + 2 : Nat) : Int) by rw [lw1]; omega]
      exact atI_nat (by rw [List.getElem?_map, g1]; rfl)
    refine ⟨_, rfl, _, rfl, .ref r, (p0 :: ws1).length, rfl, .inl ⟨_, SqL.of e1, by rw [List.length_map]⟩, _, _, rfl, rfl, .inl ⟨by decide, by decide⟩, _, _, rfl, rfl, p, _, _, _, rfl, rfl, hp1, a0, rfl, _, rfl, ite2 (fun h2 => ?_) (fun h2 => hB ?_)⟩
    · have ho : o = "or" := V.str.inj (of_decide_eq_true h2)
      refine ⟨fun σ' H' => ∃ ws, ws.length = (p0 :: ws1).length + 1 ∧ σ' = [some (.ref p), some (.ref r)] ∧ Same H H' ∧ H' r = some (.lst (ws.map V.str)) ∧ ws.length ≤ (p0 :: r0).length ∧ ∃ ws2, ws = p0 :: ws2 ∧ 2 * ws2.length ≤ r0.length ∧ CT.ahead r0 = ws2 ++ CT.ahead (r0.drop (2 * ws2.length)), ?_, ?_⟩
      · rintro σ' H' ⟨ws, el, rfl, s', e', l', ws2, rfl, l2, ea2⟩
        exact ⟨_, by rw [el]; omega, p0 :: ws2, rfl, rfl, s', e', l', .inr ⟨p0, r0, ws2, rfl, rfl, l2, ea2⟩⟩
      · refine ⟨_, rfl, .inl ⟨rfl, _, SqL.of e1⟩, _, rfl, _, rfl, .ref r, (p0 :: ws1).length, rfl, .inl ⟨_, SqL.of e1, by rw [List.length_map]⟩, _, _, rfl, rfl, .inl ⟨by decide, by decide⟩, p, _, _, _, rfl, rfl, hp1, a1, r, _, _, rfl, rfl, e1, by rw [List.length_map]; omega, p0 :: (ws1 ++ [w']), by simp, rfl, Same.upd s1 hr, ?_, ?_, ws1 ++ [w'], rfl, ?_, ?_⟩
        · rw [upd_same]
          simp
        · simp only [List.length_cons, List.length_append, List.length_nil]; omega
        · rw [List.length_append, List.length_singleton]; omega
        · rw [ea, edrop, CT.ahead_more ho, List.length_append, List.length_singleton, List.append_assoc]
          have : r0.drop (2 * (ws1.length + 1)) = r' := by
            have := congrArg (List.drop 2) edrop
            rw [List.drop_drop] at this
            rw [show 2 * (ws1.length + 1) = 2 * ws1.length + 2 by omega]
            exact this
          rw [this]
          rfl
    · refine CT.ahead_stop fun z => h2 (decide_eq_true ?_)
      rw [edrop] at z
      rw [Option.some.inj z.2]
def VAt (H H' : Hp) (r : V) : Option (List Int) → Prop
  | none => r = .non
  | some vs => ∃ q, r = .ref q ∧ H q = none ∧ H' q = some (.lst (vs.map V.int))
theorem ints_of {vs : List (Option Int)} (h : none ∉ vs) : vs.map CT.oV = (vs.map fun o => o.getD 0).map V.int := by
  induction vs with
  | nil => rfl
  | cons a l ih =>
    cases a with
    | none => exact absurd (List.mem_cons_self ..) h
    | some n =>
      rw [List.map_cons, List.map_cons, List.map_cons, ih fun z => h (List.mem_cons_of_mem _ z)]
      rfl
def sp_q30 (K : PySem.W.Frag) : Sp := fun vs H Q _ => ∃ (p pk : Addr) (ps ks : List Str), vs = [.ref p, .ref pk] ∧ SqL K H p (ps.map V.str) ∧ (∀ H, SqT K H pk (ks.map V.str)) ∧ (∀ k ∈ ks, k ∈ (["level", "mark", "worth"] : List Str)) ∧ ks.length ≤ 10 ∧ PartsOk ps ∧ ∀ r H', Same H H' → VAt H H' r (CT.readValues ks ps) → Q r H'
theorem ok_q30 {f : Addr} {fd fd_q29 : FuncData} (F : Fun K "read_values" "read_values" s_q30 f fd) (T : Txt K mg a)
    (G_q29 : FnOk P w K mg base CX0 3 a.read_number fd_q29 ["text", "least", "most"] (sp_q29 K)) (F_q29 : Fun K "read_number" "read_number" s_q29 a.read_number fd_q29) (b_q29 : Binds K fd_q29 ["text", "least", "most"] []) : FnOk P w K mg base CX0 4 f fd ["parts", "keys"] (sp_q30 K) := by
  have k_LEFT_OUT := T.k_LEFT_OUT
  have k_MOST_WRITTEN := T.k_MOST_WRITTEN
  refine F.ok sc_q30 (fun vs H Q E h => ?_) (fun cdv A outer s H vs Q E hr h => ?_)
  · obtain ⟨p, pk, ps, ks, rfl, _⟩ := h
    rfl
  · obtain ⟨p, pk, ps, ks, rfl, hp, hk, hks, lk, hok, q⟩ := h
    refine ⟨_, (pss_cons (psN (i := 2) (sc := defScope s_q30) (M := N_q30) rfl rfl (by decide +kernel) (pe_lst pa_nil))
      (pss_cons (psN (i := 3) (sc := defScope s_q30) (M := N_q30) rfl rfl (by decide +kernel) pe_int)
      (pss_cons (ps_for PassesOwn.never rfl (pi_tup (pvA 1 (defScope s_q30) N_q30 rfl rfl)) (pgN (i := 4) (sc := defScope s_q30) (M := N_q30) rfl rfl (by decide +kernel)) (pss_one (ps_if (PW.pt (pw_and (pt_cmpR op_lt (pe_op op_add (pvA 3 (defScope s_q30) N_q30 rfl rfl) pe_int) (pe_callBN (sc := defScope s_q30) call_len rfl (by decide +kernel) T.z_len bt_len (pa_cons (pvA 0 (defScope s_q30) N_q30 rfl rfl) pa_nil)) (nomark _)) (pw_and1 (pt_cmpR op_eq (pe_ix ix_list (pvA 0 (defScope s_q30) N_q30 rfl rfl) (pvA 3 (defScope s_q30) N_q30 rfl rfl) (fun _ _ => rfl)) (pvA 4 (defScope s_q30) N_q30 rfl rfl) (nomark _))))) (pss_cons (ps_expr (pe_bm PySem.F.plainAttrs_list PySem.F.slot_list_append PySem.F.type_list_append mt_append (pvA 2 (defScope s_q30) N_q30 rfl rfl) (pa_cons (pe_callN (sc := defScope s_q30) G_q29 (hr.mono (by decide)) rfl (by decide +kernel) T.m_q29 F_q29.kp b_q29 .nil pass0 (pa_cons (pe_ix ix_list (pvA 0 (defScope s_q30) N_q30 rfl rfl) (pe_op op_add (pvA 3 (defScope s_q30) N_q30 rfl rfl) pe_int) (fun _ _ => rfl)) (pa_cons (pe_op op_add (L9.pe_kget (pe_globN (v := V.ref a.k_LEFT_OUT) (sc := defScope s_q30) rfl (by decide +kernel) k_LEFT_OUT rfl) (pvA 4 (defScope s_q30) N_q30 rfl rfl) (fun _ _ => rfl)) pe_int) (pa_cons (L9.pe_kget (pe_globN (v := V.ref a.k_MOST_WRITTEN) (sc := defScope s_q30) rfl (by decide +kernel) k_MOST_WRITTEN rfl) (pvA 4 (defScope s_q30) N_q30 rfl rfl) (fun _ _ => rfl)) pa_nil)))) pa_nil)))
      (pss_one (psN (i := 3) (sc := defScope s_q30) (M := N_q30) rfl rfl (by decide +kernel) (pe_op op_add (pvA 3 (defScope s_q30) N_q30 rfl rfl) pe_int)))) (pss_one (ps_expr (pe_bm PySem.F.plainAttrs_list PySem.F.slot_list_append PySem.F.type_list_append mt_append (pvA 2 (defScope s_q30) N_q30 rfl rfl) (pa_cons (L9.pe_kget (pe_globN (v := V.ref a.k_LEFT_OUT) (sc := defScope s_q30) rfl (by decide +kernel) k_LEFT_OUT rfl) (pvA 4 (defScope s_q30) N_q30 rfl rfl) (fun _ _ => rfl)) pa_nil)))))))
      (pss_cons (ps_if (PW.pt (pw_or (pt_cmpR op_lt (pvA 3 (defScope s_q30) N_q30 rfl rfl) (pe_callBN (sc := defScope s_q30) call_len rfl (by decide +kernel) T.z_len bt_len (pa_cons (pvA 0 (defScope s_q30) N_q30 rfl rfl) pa_nil)) (nomark _)) (pw_or1 (pt_cmpR op_in_seq pe_non (pvA 2 (defScope s_q30) N_q30 rfl rfl) (by with_unfolding_all rfl))))) (pss_one (ps_ret pe_non)) pss_nil)
      (pss_one (ps_ret (pvA 2 (defScope s_q30) N_q30 rfl rfl))))))), ?_⟩
    have hs : sizeLine = 16777216 := sizeLine_eq
    have lp := hok.2
    refine ⟨by first | decide | (simp only [List.length_cons, List.length_nil, List.length_append, List.length_map]; decide), fun pv hpv => ?_⟩
    refine ⟨_, rfl, pk, rfl, ⟨_, hk _⟩, ?_⟩
    refine for_tup (xs := ks.map V.str) (fun i σ H' => ∃ (n : Nat) (vs : List (Option Int)) (v : Option V), σ = [some (.ref p), some (.ref pk), some (.ref pv), some (.int (n : Nat)), v] ∧ Same H H' ∧ H' pv = some (.lst (vs.map CT.oV)) ∧ vs.length = i ∧ n ≤ ps.length ∧ CT.vals ks ps = vs ++ CT.vals (ks.drop i) (ps.drop n) ∧ CT.rest ks ps = CT.rest (ks.drop i) (ps.drop n)) ⟨0, [], _, rfl, Same.upd0 hpv, upd_same, rfl, Nat.zero_le _, rfl, rfl⟩ ?_ ?_ ?_
    · rintro i σ H' _ _
      exact hk _
    · rintro i x σ H1 hx ⟨n, vs, v, rfl, s1, e1, lv, ln, ev, er⟩
      rw [List.getElem?_map] at hx
      obtain ⟨k, hki, rfl⟩ := Option.map_eq_some_iff.mp hx
      have hmem := hks k (List.mem_of_getElem? hki)
      have hi := (List.getElem?_eq_some_iff.mp hki)
      have hi1 := hi.1
      have ed : ks.drop i = k :: ks.drop (i + 1) := by rw [List.drop_eq_getElem_cons hi.1, hi.2]
      rw [ed] at ev er
      have hp1 := s1.seq hp
      have cond : ∀ (H9 : ¬ (1 < (ps.drop n).length ∧ (ps.drop n).head? = some k)), CT.vals ks ps = (vs ++ [some (CT.leftOut k)]) ++ CT.vals (ks.drop (i + 1)) (ps.drop n) ∧ CT.rest ks ps = CT.rest (ks.drop (i + 1)) (ps.drop n) := fun H9 => by
        obtain ⟨c1, c2⟩ := CT.vals_miss (ks := ks.drop (i + 1)) H9
        rw [ev, er, c1, c2]
        exact ⟨by rw [List.append_assoc]; rfl, rfl⟩
      refine and_rest (B := ¬ (1 < (ps.drop n).length ∧ (ps.drop n).head? = some k) → _) ?miss fun hB => ⟨_, rfl, _, _, rfl, rfl, _, rfl, .ref p, ps.length, rfl, .inl ⟨_, hp1, by rw [List.length_map]⟩, _, _, rfl, rfl, _, rfl, ite2 (fun h1 => ?_) (fun h1 => iteF (hB fun z => h1 (decide_eq_true (by have := z.1; rw [List.length_drop] at this; omega))))⟩
      case miss =>
        intro H9
        obtain ⟨c1, c2⟩ := cond H9
        refine ⟨_, rfl, .inl ⟨rfl, _, SqL.of e1⟩, _, rfl, a.k_LEFT_OUT, _, k, _, rfl, rfl, T.l_LEFT_OUT, CT.left_at hmem, pv, _, _, rfl, rfl, e1, by rw [List.length_map]; omega, n, vs ++ [some (CT.leftOut k)], _, rfl, Same.upd s1 hpv, ?_, by rw [List.length_append, lv]; rfl, ln, c1, c2⟩
        rw [upd_same, List.map_append]
        rfl
      have h1' := of_decide_eq_true h1
      have hn1 : n + 1 < ps.length := by omega
      have edr : ps.drop n = ps[n] :: ps[n + 1] :: ps.drop (n + 2) := by rw [List.drop_eq_getElem_cons (by omega), List.drop_eq_getElem_cons hn1]
      have g0 : ps[n]? = some ps[n] := List.getElem?_eq_getElem (by omega)
      have g1 : ps[n + 1]? = some ps[n + 1] := List.getElem?_eq_getElem hn1
      have a0 : atI (ps.map V.str) (n : Nat) = some (.str ps[n]) := atI_nat (by rw [List.getElem?_map, g0]; rfl)
      have a1 : atI (ps.map V.str) ((n : Nat) + 1) = some (.str ps[n + 1]) := by
        rw [show ((n : Nat) : Int) + 1 = ((n + 1 : Nat) : Int) by omega]
        exact atI_nat (by rw [List.getElem?_map, g1]; rfl)
      refine ⟨_, rfl, _, rfl, p, _, _, _, rfl, rfl, hp1, a0, _, rfl, rfl, _, rfl, ite2 (fun h2 => ?_) (fun h2 => hB fun z => h2 (decide_eq_true (by rw [edr] at z; rw [Option.some.inj z.2])))⟩
      have he : ps[n] = k := V.str.inj (of_decide_eq_true h2)
      obtain ⟨c1, c2⟩ := CT.vals_hit (v := ps[n + 1]) (ks := ks.drop (i + 1)) (r := ps.drop (n + 2)) he
      refine ⟨_, rfl, .inl ⟨rfl, _, SqL.of e1⟩, _, rfl, _, rfl, _, _, rfl, rfl, p, _, _, _, rfl, rfl, hp1, a1, _, rfl, a.k_LEFT_OUT, _, k, _, rfl, rfl, T.l_LEFT_OUT, CT.left_at hmem, _, _, rfl, rfl, _, rfl, a.k_MOST_WRITTEN, _, k, _, rfl, rfl, T.l_MOST_WRITTEN, CT.most_at hmem, _, _, _, rfl, Nat.le_trans (hok.1 _ (List.getElem_mem _)).2 (by decide), fun H2 s2 => ?_⟩
      refine ⟨pv, _, _, rfl, rfl, s2 _ _ e1, by rw [List.length_map]; omega, _, rfl, _, _, rfl, rfl, n + 2, vs ++ [CT.readNum ps[n + 1] (CT.leftOut k + 1) (CT.mostOf k)], _, rfl, Same.upd (s1.trans s2) hpv, ?_, by rw [List.length_append, lv]; rfl, by omega, ?_, ?_⟩
      · rw [upd_same, List.map_append]
        rfl
      · rw [ev, edr, c1, List.append_assoc]
        rfl
      · rw [er, edr, c2]
    rintro σ H1 ⟨n, vs, v, rfl, s1, e1, lv, ln, ev, er⟩
    rw [List.length_map, List.drop_length] at ev er
    rw [show CT.vals [] (ps.drop n) = [] by rw [CT.vals], List.append_nil] at ev
    rw [show CT.rest [] (ps.drop n) = ps.drop n by rw [CT.rest]] at er
    have hp1 := s1.seq hp
    have qn : ¬ (CT.rest ks ps = [] ∧ none ∉ CT.vals ks ps) → Q .non H1 := fun z => q .non H1 s1 (by unfold CT.readValues; rw [if_neg z]; rfl)
    refine ⟨_, rfl, _, rfl, .ref p, ps.length, rfl, .inl ⟨_, hp1, by rw [List.length_map]⟩, _, _, rfl, rfl, _, rfl, ite2 (fun h1 => ?_) (fun h1 => ?_)⟩
    · have h1' := of_decide_eq_true h1
      refine iteT (qn fun z => ?_)
      have := congrArg List.length (er.symm.trans z.1)
      rw [List.length_drop, List.length_nil] at this
      omega
    have h1' : ¬ ((n : Nat) : Int) < (ps.length : Nat) := fun z => h1 (decide_eq_true z)
    have erest : CT.rest ks ps = [] := by rw [er]; exact List.drop_eq_nil_of_le (by omega)
    refine ⟨_, rfl, pv, _, rfl, .inl (SqL.of e1), rfl, CT.flat_oV vs, _, rfl, ?_⟩
    rw [if_neg (show ¬ (false = true) by decide), CT.in_oV]
    refine ite2 (fun h2 => ?_) (fun h2 => ?_)
    · exact qn fun z => z.2 (by rw [ev]; exact of_decide_eq_true h2)
    · have hnn : none ∉ vs := fun z => h2 (decide_eq_true z)
      refine ⟨_, rfl, q (.ref pv) H1 s1 ?_⟩
      unfold CT.readValues
      rw [if_pos ⟨erest, by rw [ev]; exact hnn⟩, ev]
      exact ⟨pv, rfl, hpv, by rw [e1, ints_of hnn]⟩
def LAt (K : PySem.W.Frag) (D : Hp) (r : V) : Option CF.Leaf → Prop
  | none => r = .non
  | some l => DataAt K D r l.data
theorem parts_drop {ps : List Str} (h : PartsOk ps) (n : Nat) : PartsOk (ps.drop n) := ⟨fun t ht => h.1 t (List.mem_of_mem_drop ht), by rw [List.length_drop]; have := h.2; omega⟩
theorem ahead_mem : ∀ {r : List Str} {t : Str}, t ∈ CT.ahead r → t ∈ r
  | [], t, h => by rw [CT.ahead_stop (by simp)] at h; cases h
  | [_], t, h => by rw [CT.ahead_stop (by simp)] at h; cases h
  | o :: w' :: r, t, h => by
    by_cases ho : o = "or"
    · rw [CT.ahead_more ho] at h
      rcases List.mem_cons.mp h with rfl | h
      · exact List.mem_cons_of_mem _ (List.mem_cons_self ..)
      · exact List.mem_cons_of_mem _ (List.mem_cons_of_mem _ (ahead_mem h))
    · rw [CT.ahead_stop (r := o :: w' :: r) (fun z => ho (Option.some.inj z.2))] at h; cases h
theorem words_ok {p : Str} {r : List Str} (h : PartsOk (p :: r)) : PartsOk (CT.wordsAhead (p :: r)) := by
  have h2 := h.2
  have h3 := CT.ahead_len r
  rw [List.length_cons] at h2
  refine ⟨fun t ht => ?_, by show (CT.ahead r).length + 1 ≤ 100000; omega⟩
  rcases List.mem_cons.mp ht with rfl | ht
  · exact h.1 t (List.mem_cons_self ..)
  · exact h.1 t (List.mem_cons_of_mem _ (ahead_mem ht))
theorem any_ok {k : Str} {ws : List Str} (h : PartsOk ws) : PartsOk (CT.anyOf k ws) := by
  unfold CT.anyOf
  split
  · exact ⟨fun t ht => (nomatch ht), Nat.zero_le _⟩
  · exact h
theorem tx_any : CF.Tx 24 "any" := ⟨by decide +kernel, by decide +kernel⟩
theorem lay_parts {ps : List Str} (h : PartsOk ps) : (PyData.list (ps.map .str)).canLay0 = true := CF.lay_all fun d hd => by
  obtain ⟨t, ht, rfl⟩ := List.mem_map.mp hd
  exact CF.lay_str (h.1 t ht)
theorem from_of : ("from" : Str) ≠ "of" := by decide +kernel
theorem vals_len : ∀ (ks ps : List Str), (CT.vals ks ps).length = ks.length
  | [], ps => by rw [CT.vals]; rfl
  | k :: ks, ps => by
    by_cases h : 1 < ps.length ∧ ps.head? = some k
    · match ps, h with
      | [], h => exact absurd h.1 (by decide)
      | [_], h => exact absurd h.1 (by simp)
      | p :: v :: r, h =>
        rw [(CT.vals_hit (Option.some.inj h.2)).1, List.length_cons, vals_len ks r]
        rfl
    · rw [(CT.vals_miss h).1, List.length_cons, vals_len ks ps]
      rfl
def sp_q28 (K : PySem.W.Frag) : Sp := fun vs H Q _ => ∃ (p : Addr) (ps : List Str) (D : Hp), vs = [.ref p] ∧ Same D H ∧ SqL K H p (ps.map V.str) ∧ PartsOk ps ∧ ∀ r D' H', Gr D H D' H' → LAt K D' r (CT.readLeaf ps) → Q r H'
theorem ok_q28 {f : Addr} {fd fd_q8 fd_q29 fd_q30 fd_q36 : FuncData} (F : Fun K "read_leaf" "read_leaf" s_q28 f fd) (T : Txt K mg a)
    (G_q8 : FnOk P w K mg base CX0 3 a.are_words fd_q8 ["words"] (sp_q8 K)) (F_q8 : Fun K "are_words" "are_words" s_q8 a.are_words fd_q8) (b_q8 : Binds K fd_q8 ["words"] [])
    (G_q29 : FnOk P w K mg base CX0 3 a.read_number fd_q29 ["text", "least", "most"] (sp_q29 K)) (F_q29 : Fun K "read_number" "read_number" s_q29 a.read_number fd_q29) (b_q29 : Binds K fd_q29 ["text", "least", "most"] [])
    (G_q30 : FnOk P w K mg base CX0 4 a.read_values fd_q30 ["parts", "keys"] (sp_q30 K)) (F_q30 : Fun K "read_values" "read_values" s_q30 a.read_values fd_q30) (b_q30 : Binds K fd_q30 ["parts", "keys"] [])
    (G_q36 : FnOk P w K mg base CX0 1 a.words_ahead fd_q36 ["parts"] (sp_q36 K)) (F_q36 : Fun K "words_ahead" "words_ahead" s_q36 a.words_ahead fd_q36) (b_q36 : Binds K fd_q36 ["parts"] []) : FnOk P w K mg base CX0 5 f fd ["parts"] (sp_q28 K) := by
  have k_KEYS := T.k_KEYS
  obtain ⟨_, k_MOST_WANT⟩ := T.k_MOST_WANT
  refine F.ok sc_q28 (fun vs H Q E h => ?_) (fun cdv A outer s H vs Q E hr h => ?_)
  · obtain ⟨p, ps, D, rfl, _⟩ := h
    rfl
  · obtain ⟨p, ps, D, rfl, sD, hp, hok, q⟩ := h
    refine ⟨_, (pss_cons (ps_if (PW.pt (pw_or (pt_cmpR op_lt (pe_callBN (sc := defScope s_q28) call_len rfl (by decide +kernel) T.z_len bt_len (pa_cons (pvA 0 (defScope s_q28) N_q28 rfl rfl) pa_nil)) pe_int (nomark _)) (pw_or1 (pt_cmp (L9.pc_knotin (pe_ix ix_list (pvA 0 (defScope s_q28) N_q28 rfl rfl) pe_int (fun _ _ => rfl)) (pe_globN (v := V.ref a.k_KEYS) (sc := defScope s_q28) rfl (by decide +kernel) k_KEYS rfl)))))) (pss_one (ps_ret pe_non)) pss_nil)
      (pss_cons (psN (i := 1) (sc := defScope s_q28) (M := N_q28) rfl rfl (by decide +kernel) (pe_ix ix_list (pvA 0 (defScope s_q28) N_q28 rfl rfl) pe_int (fun _ _ => rfl)))
      (pss_cons (psN (i := 2) (sc := defScope s_q28) (M := N_q28) rfl rfl (by decide +kernel) (pe_callN (sc := defScope s_q28) G_q29 (hr.mono (by decide)) rfl (by decide +kernel) T.m_q29 F_q29.kp b_q29 .nil pass0 (pa_cons (pe_ix ix_list (pvA 0 (defScope s_q28) N_q28 rfl rfl) pe_int (fun _ _ => rfl)) (pa_cons pe_int (pa_cons (pe_globN (v := V.int 60) (sc := defScope s_q28) rfl (by decide +kernel) k_MOST_WANT ⟨_, rfl⟩) pa_nil)))))
      (pss_cons (psN (i := 3) (sc := defScope s_q28) (M := N_q28) rfl rfl (by decide +kernel) (pe_callN (sc := defScope s_q28) G_q36 (hr.mono (by decide)) rfl (by decide +kernel) T.m_q36 F_q36.kp b_q36 .nil pass0 (pa_cons (pe_slice sl_list (pvA 0 (defScope s_q28) N_q28 rfl rfl) (po_some pe_int) po_none) pa_nil)))
      (pss_cons (psN (i := 4) (sc := defScope s_q28) (M := N_q28) rfl rfl (by decide +kernel) (pe_callN (sc := defScope s_q28) G_q30 (hr.mono (by decide)) rfl (by decide +kernel) T.m_q30 F_q30.kp b_q30 .nil pass0 (pa_cons (pe_slice sl_list (pvA 0 (defScope s_q28) N_q28 rfl rfl) (po_some (pe_op op_add pe_int (pe_op op_mul pe_int (pe_callBN (sc := defScope s_q28) call_len rfl (by decide +kernel) T.z_len bt_len (pa_cons (pvA 3 (defScope s_q28) N_q28 rfl rfl) pa_nil))))) po_none) (pa_cons (L9.pe_kget (pe_globN (v := V.ref a.k_KEYS) (sc := defScope s_q28) rfl (by decide +kernel) k_KEYS rfl) (pvA 1 (defScope s_q28) N_q28 rfl rfl) (fun _ _ => rfl)) pa_nil))))
      (pss_cut (ps_if (PW.pt (pw_and (pt_cmpR op_eq (pvA 1 (defScope s_q28) N_q28 rfl rfl) pe_str (nomark _)) (pw_and1 (pt_cmpR (op_eqD (n := 60) (hu60 hr)) (pvA 3 (defScope s_q28) N_q28 rfl rfl) (pe_lst (pa_cons pe_str pa_nil)) (nomark _))))) (pss_one (psN (i := 3) (sc := defScope s_q28) (M := N_q28) rfl rfl (by decide +kernel) (pe_lst pa_nil))) pss_nil)
      (pss_cons (ps_if (PW.pt (pw_or (pt_cmpR op_isN (pvA 2 (defScope s_q28) N_q28 rfl rfl) pe_non (nomark _)) (pw_or (pt_cmpR op_isN (pvA 4 (defScope s_q28) N_q28 rfl rfl) pe_non (nomark _)) (pw_or1 (pt_not (pt_val (pe_callN (sc := defScope s_q28) G_q8 (hr.mono (by decide)) rfl (by decide +kernel) T.m_q8 F_q8.kp b_q8 .nil pass0 (pa_cons (pvA 3 (defScope s_q28) N_q28 rfl rfl) pa_nil)))))))) (pss_one (ps_ret pe_non)) pss_nil)
      (pss_one (ps_ret (pe_op op_catT (pe_tup (pa_cons (pvA 1 (defScope s_q28) N_q28 rfl rfl) (pa_cons (pvA 2 (defScope s_q28) N_q28 rfl rfl) (pa_cons (pvA 3 (defScope s_q28) N_q28 rfl rfl) pa_nil)))) (pe_callTyN (sc := defScope s_q28) call_tuple_of rfl (by decide +kernel) T.z_tuple bt_tuple (pa_cons (pvA 4 (defScope s_q28) N_q28 rfl rfl) pa_nil)))))))))))), ?_⟩
    have hs : sizeLine = 16777216 := sizeLine_eq
    have lp := hok.2
    have qn : ∀ H', Same H H' → CT.readLeaf ps = none → Q .non H' := fun H' s' z => q .non D H' (Gr.heap sD s') (by rw [z]; rfl)
    refine ⟨_, rfl, .ref p, ps.length, rfl, .inl ⟨_, hp, by rw [List.length_map]⟩, _, _, rfl, rfl, _, rfl, ite2 (fun h1 => ?_) (fun h1 => ?_)⟩
    · have h1' := of_decide_eq_true h1
      refine iteT (qn H (Same.refl _) ?_)
      match ps, h1' with
      | [], _ => rfl
      | [_], _ => rfl
      | [_, _], _ => rfl
      | _ :: _ :: _ :: r, h => rw [List.length_cons, List.length_cons, List.length_cons] at h; omega
    have h1' : ¬ ((ps.length : Nat) : Int) < 3 := fun z => h1 (decide_eq_true z)
    obtain ⟨x0, k, p0, r0, rfl⟩ : ∃ x0 k p0 r0, ps = x0 :: k :: p0 :: r0 := by
      match ps, h1' with
      | [], h => exact absurd (show ((0 : Nat) : Int) < 3 by decide) h
      | [_], h => exact absurd (show ((1 : Nat) : Int) < 3 by decide) h
      | [_, _], h => exact absurd (show ((2 : Nat) : Int) < 3 by decide) h
      | a :: b :: c :: r, _ => exact ⟨a, b, c, r, rfl⟩
    have i0 : atI ((x0 :: k :: p0 :: r0).map V.str) 0 = some (.str x0) := CF.atI_zero
    have i1 : atI ((x0 :: k :: p0 :: r0).map V.str) 1 = some (.str k) := atI_nat (j := 1) rfl
    have okr : PartsOk (p0 :: r0) := parts_drop hok 2
    have oka := hok.1 x0 (List.mem_cons_self ..)
    have kcase : (k ≠ "from" ∧ k ≠ "of") ∨ (k = "from" ∨ k = "of") := by
      by_cases h1 : k = "from"
      · exact .inr (.inl h1)
      · by_cases h2 : k = "of"
        · exact .inr (.inr h2)
        · exact .inl ⟨h1, h2⟩
    rcases kcase with ⟨hk1, hk2⟩ | hk
    · have ed : KTD.datumAt k ([("from", V.ref a.k_KEYS_0), ("of", V.ref a.k_KEYS_1)] : List (Str × V)) = none := by simp [KTD.datumAt, hk1, hk2]
      refine ⟨_, rfl, p, _, _, _, rfl, rfl, hp, i1, a.k_KEYS, _, k, rfl, rfl, T.l_KEYS, _, rfl, ?_⟩
      rw [ed]
      refine iteT (qn H (Same.refl _) ?_)
      show (match CT.keysOf k with | none => none | some ks => _) = none
      unfold CT.keysOf
      rw [if_neg hk1, if_neg hk2]
    obtain ⟨ak, ks, ed, eks, hks, hkk, lks⟩ : ∃ ak ks, KTD.datumAt k ([("from", V.ref a.k_KEYS_0), ("of", V.ref a.k_KEYS_1)] : List (Str × V)) = some (.ref ak) ∧ CT.keysOf k = some ks ∧ (∀ H, SqT K H ak (ks.map V.str)) ∧ (∀ x ∈ ks, x ∈ (["level", "mark", "worth"] : List Str)) ∧ (k = "from" ∧ ks.length = 3 ∨ k = "of" ∧ ks.length = 2) := by
      rcases hk with rfl | rfl
      · exact ⟨a.k_KEYS_0, ["level", "mark", "worth"], by simp [KTD.datumAt], by unfold CT.keysOf; rw [if_pos rfl], T.l_KEYS_0, fun x h => h, .inl ⟨rfl, rfl⟩⟩
      · exact ⟨a.k_KEYS_1, ["mark", "worth"], by simp [KTD.datumAt, from_of.symm], by unfold CT.keysOf; rw [if_neg from_of.symm, if_pos rfl], T.l_KEYS_1, fun x h => List.mem_cons_of_mem _ h, .inr ⟨rfl, rfl⟩⟩
    refine ⟨_, rfl, p, _, _, _, rfl, rfl, hp, i1, a.k_KEYS, _, k, rfl, rfl, T.l_KEYS, _, rfl, ?_⟩
    rw [ed]
    refine iteF ⟨_, rfl, p, _, _, _, rfl, rfl, hp, i1, ?_⟩
    refine ⟨_, rfl, p, _, _, _, rfl, rfl, hp, i0, _, _, _, rfl, Nat.le_trans oka.2 (by decide), fun H1 s1 => ?_⟩
    refine ⟨_, rfl, _, rfl, p, _, rfl, s1.seq hp, fun p2 hp2 => ?_⟩
    rw [show cutV ((x0 :: k :: p0 :: r0).map V.str) (some 2) none = (p0 :: r0).map V.str from cut_from 2 (by simp)]
    have s2 := s1.trans (Same.upd0 (o := .lst ((p0 :: r0).map V.str)) hp2)
    refine ⟨p2, p0 :: r0, rfl, SqL.of upd_same, okr.2, fun H3 pw s3 nw ew => ?_⟩
    have s3' := s2.trans s3
    have nw' : H pw = none := s2.free nw
    obtain ⟨ws, hws⟩ : ∃ ws, ws = CT.wordsAhead (p0 :: r0) := ⟨_, rfl⟩
    have okw : PartsOk ws := by rw [hws]; exact words_ok okr
    have lws : 1 ≤ ws.length := by rw [hws]; exact Nat.succ_le_succ (Nat.zero_le _)
    rw [← hws] at ew
    refine ⟨_, rfl, _, rfl, .ref pw, ws.length, rfl, .inl ⟨_, SqL.of ew, by rw [List.length_map]⟩, _, _, rfl, rfl, .inl ⟨by decide, by decide⟩, _, _, rfl, rfl, _, rfl, p, _, rfl, s3'.seq hp, fun p4 hp4 => ?_⟩
    have hdr : (x0 :: k :: p0 :: r0).drop (1 + 2 * ws.length) = (p0 :: r0).drop (2 * ws.length - 1) := by
      rw [show 1 + 2 * ws.length = (2 * ws.length - 1) + 2 by omega]
      rfl
    have lle : 1 + 2 * ws.length ≤ ((x0 :: k :: p0 :: r0).map V.str).length := by
      have := CT.ahead_len r0
      have e : ws.length = (CT.ahead r0).length + 1 := by rw [hws]; rfl
      simp only [List.length_map, List.length_cons]
      omega
    rw [show cutV ((x0 :: k :: p0 :: r0).map V.str) (some (1 + 2 * ((ws.length : Nat) : Int))) none = ((p0 :: r0).drop (2 * ws.length - 1)).map V.str by
      rw [show (1 + 2 * ((ws.length : Nat) : Int)) = ((1 + 2 * ws.length : Nat) : Int) by omega, cut_from _ lle, ← List.map_drop, hdr]]
    have s4 := s3'.trans (Same.upd0 (o := .lst (((p0 :: r0).drop (2 * ws.length - 1)).map V.str)) hp4)
    refine ⟨_, rfl, a.k_KEYS, _, k, _, rfl, rfl, T.l_KEYS, ed, p4, ak, _, ks, rfl, SqL.of upd_same, hks, hkk, by omega, parts_drop okr _, fun rv H5 s5 hv => ?_⟩
    have ew5 := s5 _ _ ((Same.upd0 (o := .lst (((p0 :: r0).drop (2 * ws.length - 1)).map V.str)) hp4) _ _ ew)
    have s5' := s4.trans s5
    have eL : CT.readLeaf (x0 :: k :: p0 :: r0) = (match CT.readNum x0 0 60, CT.readValues ks ((p0 :: r0).drop (2 * ws.length - 1)) with | some n, some vs => if CT.areWords (CT.anyOf k ws) = true then CT.leafOf k n (CT.anyOf k ws) vs else none | _, _ => none) := by
      rw [hws]
      show (match CT.keysOf k with | none => none | some ks => _) = _
      first | (rw [eks]; done) | (rw [eks]; rfl)
    refine ⟨fun σ' H' => ∃ pz, H pz = none ∧ Same H5 H' ∧ H' pz = some (.lst ((CT.anyOf k ws).map V.str)) ∧ σ' = [some (.ref p), some (.str k), some (CT.oV (CT.readNum x0 0 60)), some (.ref pz), some rv], ?_, ?_⟩
    · have keep : ¬ (k = "from" ∧ ws = (["any"] : List Str)) → CT.anyOf k ws = ws := fun z => by unfold CT.anyOf; rw [if_neg z]
      refine ⟨_, rfl, rfl, _, rfl, ite2 (fun h2 => ?_) (fun h2 => iteF ?_)⟩
      · have hk' : k = "from" := V.str.inj (of_decide_eq_true h2)
        refine ⟨_, rfl, by first | decide | (simp only [List.length_cons, List.length_nil, List.length_append, List.length_map]; decide), fun p6 hp6 => ?_⟩
        have s6 := Same.upd0 (o := .lst [.str "any"]) hp6
        refine ⟨.list (ws.map .str), .list ((["any"] : List Str).map .str), DataAt.mkL (DataAll.strs ws) (s6 _ _ ew5) (Same.refl _), DataAt.mkL (D := upd H5 p6 (.lst [.str "any"])) (DataAll.strs ["any"]) upd_same (Same.refl _), lay_parts okw, CF.lay_strs (fun t ht => by rw [List.mem_singleton.mp ht]; exact tx_any), ?_, _, rfl, ?_⟩
        · show min _ (PyData.depthAll ((["any"] : List Str).map .str) + 1) ≤ 60
          rw [CF.depth_strs]
          omega
        rw [CT.eqv_strs]
        refine ite2 (fun h3 => ?_) (fun h3 => ?_)
        · have h3' := of_decide_eq_true h3
          refine ⟨by first | decide | (simp only [List.length_cons, List.length_nil, List.length_append, List.length_map]; decide), fun p7 hp7 => ⟨p7, (s5'.trans s6).free hp7, s6.trans (Same.upd0 hp7), ?_, rfl⟩⟩
          unfold CT.anyOf
          rw [if_pos ⟨hk', h3'⟩, upd_same]
          rfl
        · have h3' : ¬ ws = (["any"] : List Str) := fun z => h3 (decide_eq_true z)
          exact ⟨pw, nw', s6, by rw [keep fun z => h3' z.2]; exact s6 _ _ ew5, rfl⟩
      · have hk' : k ≠ "from" := fun z => h2 (decide_eq_true (by rw [z]))
        exact ⟨pw, nw', Same.refl _, by rw [keep fun z => hk' z.1]; exact ew5, rfl⟩
    rintro σ' H6 ⟨pz, npz, s6, epz, rfl⟩
    have s6' := s5'.trans s6
    have okz : PartsOk (CT.anyOf k ws) := any_ok okw
    refine ⟨_, rfl, rfl, _, rfl, ?_⟩
    cases hw : CT.readNum x0 0 60 with
    | none =>
      rw [hw] at eL
      rw [decide_eq_true (show CT.oV none = V.non from rfl)]
      exact iteT (iteT (qn H6 s6' eL))
    | some n =>
      rw [hw] at eL
      rw [decide_eq_false (show CT.oV (some n) ≠ V.non from fun z => nomatch z)]
      refine iteF ⟨_, rfl, rfl, _, rfl, ?_⟩
      cases hvv : CT.readValues ks ((p0 :: r0).drop (2 * ws.length - 1)) with
      | none =>
        rw [hvv] at eL hv
        have hv' : rv = .non := hv
        subst hv'
        rw [decide_eq_true (show V.non = V.non from rfl)]
        exact iteT (iteT (qn H6 s6' eL))
      | some vs =>
        rw [hvv] at eL hv
        obtain ⟨pv, rfl, npv, epv⟩ := hv
        have epv6 := s6 _ _ epv
        rw [decide_eq_false (show V.ref pv ≠ V.non from fun z => nomatch z)]
        refine iteF ⟨_, rfl, pz, _, rfl, SqL.of epz, okz, fun H7 s7 => ⟨_, rfl, ?_⟩⟩
        have s7' := s6'.trans s7
        cases ha : CT.areWords (CT.anyOf k ws) with
        | false =>
          rw [ha] at eL
          exact iteT (qn H7 s7' (eL.trans (if_neg (by decide))))
        | true =>
          have eL' : CT.readLeaf (x0 :: k :: p0 :: r0) = CT.leafOf k n (CT.anyOf k ws) vs := by
            rw [eL]
            show (if CT.areWords (CT.anyOf k ws) = true then _ else none) = _
            rw [ha, if_pos rfl]
          have lvs : vs.length = ks.length := by
            unfold CT.readValues at hvv
            split at hvv
            · rw [← Option.some.inj hvv, List.length_map]
              exact vals_len ks _
            · cases hvv
          refine iteF ⟨_, rfl, _, rfl, _, rfl, by first | decide | (simp only [List.length_cons, List.length_nil, List.length_append, List.length_map]; decide), fun p8 hp8 => ?_⟩
          have s8 := Same.upd0 (o := .tup [.str k, CT.oV (some n), .ref pz]) hp8
          have e8 : upd H7 p8 (.tup [.str k, CT.oV (some n), .ref pz]) p8 = some (.tup [.str k, .int n, .ref pz]) := upd_same
          have epv8 := s8 _ _ (s7 _ _ epv6)
          have epz8 := s8 _ _ (s7 _ _ epz)
          generalize upd H7 p8 (.tup [.str k, CT.oV (some n), .ref pz]) = H8 at s8 e8 epv8 epz8 ⊢
          refine ⟨_, rfl, pv, _, rfl, .inl ⟨SqL.of epv8, fun p9 hp9 => ?_⟩⟩
          have s9 := Same.upd0 (o := .tup (vs.map V.int)) hp9
          refine ⟨p8, p9, _, _, rfl, rfl, SqT.of (s9 _ _ e8), SqT.of upd_same, (fun z => nomatch z), by rw [List.length_map]; show 3 + vs.length ≤ sizeLine; omega, (fun z => ?_), fun _ p10 hp10 => ?_⟩
          · have := congrArg List.length z
            rw [List.length_map, List.length_nil] at this
            omega
          have s10 := (s7'.trans s8).trans s9
          have epz10 := s9 _ _ epz8
          have G10 : Gr D H D _ := Gr.heap sD s10
          have G11 := G10.fix npz (free_of sD npz) epz10
          have G12 := G11.trans (Gr.lay (o := .tup ([.str k, .int n, .ref pz] ++ vs.map V.int)) G11.dh hp10)
          refine q (.ref p10) _ _ G12 ?_
          rw [eL']
          have np10 := free_of G11.dh hp10
          have mk : ∀ l : CF.Leaf, l.words = CT.anyOf k ws → [.str k, .int n, .ref pz] ++ vs.map V.int = l.items (.ref pz) → DataAt K (upd (upd D pz (.lst ((CT.anyOf k ws).map V.str))) p10 (.tup ([.str k, .int n, .ref pz] ++ vs.map V.int))) (.ref p10) l.data := fun l e1 e2 => by
            rw [e2]
            exact CF.Leaf.at_ upd_same (.inl (by rw [e1]; exact (Same.upd0 np10) _ _ upd_same))
          rcases lks with ⟨rfl, l3⟩ | ⟨rfl, l2⟩
          · obtain ⟨x, y, z, rfl⟩ := CT.len3 (lvs.trans l3)
            show LAt K _ _ (if ("from" : Str) = "from" then some (CF.Leaf.frm n _ x y z) else none)
            rw [if_pos rfl]
            exact mk (.frm n (CT.anyOf "from" ws) x y z) rfl rfl
          · obtain ⟨y, z, rfl⟩ := CT.len2 (lvs.trans l2)
            show LAt K _ _ (if ("of" : Str) = "from" then none else some (CF.Leaf.off n _ y z))
            rw [if_neg from_of.symm]
            exact mk (.off n (CT.anyOf "of" ws) y z) rfl rfl
abbrev ghV := CT.ghV
def GAt (H H' : Hp) (r : V) : Option CT.GHead → Prop
  | none => r = .non
  | some g => ∃ t q, r = .ref t ∧ t ≠ q ∧ H t = none ∧ H q = none ∧ H' t = some (.tup (ghV g ++ [.ref q])) ∧ H' q = some (.lst [])
theorem tx_all : CF.Tx 24 "all" := ⟨by decide +kernel, by decide +kernel⟩
def sp_q27 (K : PySem.W.Frag) : Sp := fun vs H Q _ => ∃ (p : Addr) (ps : List Str), vs = [.ref p] ∧ SqL K H p (ps.map V.str) ∧ Rd H p (.lst (ps.map V.str)) ∧ PartsOk ps ∧ ∀ r H', Same H H' → GAt H H' r (CT.readGroup ps) → Q r H'
theorem ok_q27 {f : Addr} {fd fd_q29 : FuncData} (F : Fun K "read_group" "read_group" s_q27 f fd) (T : Txt K mg a)
    (G_q29 : FnOk P w K mg base CX0 3 a.read_number fd_q29 ["text", "least", "most"] (sp_q29 K)) (F_q29 : Fun K "read_number" "read_number" s_q29 a.read_number fd_q29) (b_q29 : Binds K fd_q29 ["text", "least", "most"] []) : FnOk P w K mg base CX0 4 f fd ["parts"] (sp_q27 K) := by
  obtain ⟨_, k_MOST_RULES⟩ := T.k_MOST_RULES
  refine F.ok sc_q27 (fun vs H Q E h => ?_) (fun cdv A outer s H vs Q E hr h => ?_)
  · obtain ⟨p, ps, rfl, _⟩ := h
    rfl
  · obtain ⟨p, ps, rfl, hp, hpr, hok, q⟩ := h
    refine ⟨_, (pss_cons (ps_if (pt_cmpR (op_eqD (n := 60) (hu60 hr)) (pvA 0 (defScope s_q27) N_q27 rfl rfl) (pe_lst (pa_cons pe_str pa_nil)) (nomark _)) (pss_one (ps_ret (pe_tup (pa_cons pe_str (pa_cons (pe_lst pa_nil) pa_nil))))) pss_nil)
      (pss_cons (ps_if (PW.pt (pw_or (pt_cmpR op_ne (pe_callBN (sc := defScope s_q27) call_len rfl (by decide +kernel) T.z_len bt_len (pa_cons (pvA 0 (defScope s_q27) N_q27 rfl rfl) pa_nil)) pe_int (nomark _)) (pw_or (pt_cmpR op_ne (pe_ix ix_list (pvA 0 (defScope s_q27) N_q27 rfl rfl) pe_int (fun _ _ => rfl)) pe_str (nomark _)) (pw_or1 (pt_cmpR op_ne (pe_ix ix_list (pvA 0 (defScope s_q27) N_q27 rfl rfl) pe_int (fun _ _ => rfl)) pe_str (nomark _)))))) (pss_one (ps_ret pe_non)) pss_nil)
      (pss_cons (psN (i := 1) (sc := defScope s_q27) (M := N_q27) rfl rfl (by decide +kernel) (pe_callN (sc := defScope s_q27) G_q29 (hr.mono (by decide)) rfl (by decide +kernel) T.m_q29 F_q29.kp b_q29 .nil pass0 (pa_cons (pe_ix ix_list (pvA 0 (defScope s_q27) N_q27 rfl rfl) pe_int (fun _ _ => rfl)) (pa_cons pe_int (pa_cons (pe_globN (v := V.int 16) (sc := defScope s_q27) rfl (by decide +kernel) k_MOST_RULES ⟨_, rfl⟩) pa_nil)))))
      (pss_cons (ps_if (pt_cmpR op_isN (pvA 1 (defScope s_q27) N_q27 rfl rfl) pe_non (nomark _)) (pss_one (ps_ret pe_non)) pss_nil)
      (pss_one (ps_ret (pe_tup (pa_cons pe_str (pa_cons (pvA 1 (defScope s_q27) N_q27 rfl rfl) (pa_cons (pe_lst pa_nil) pa_nil)))))))))), ?_⟩
    have hs : sizeLine = 16777216 := sizeLine_eq
    refine ⟨_, rfl, by first | decide | (simp only [List.length_cons, List.length_nil, List.length_append, List.length_map]; decide), fun p1 hp1 => ?_⟩
    have s1 := Same.upd0 (o := .lst [.str "all"]) hp1
    refine ⟨.list (ps.map .str), .list ((["all"] : List Str).map .str), ?_, DataAt.mkL (D := upd H p1 (.lst [.str "all"])) (DataAll.strs ["all"]) upd_same (Same.refl _), lay_parts hok, CF.lay_strs (fun t ht => by rw [List.mem_singleton.mp ht]; exact tx_all), ?_, _, rfl, ?_⟩
    · unfold DataAt
      exact ⟨p, _, rfl, Rd.same s1 hpr, DataAll.strs ps⟩
    · show min _ (PyData.depthAll ((["all"] : List Str).map .str) + 1) ≤ 60
      rw [CF.depth_strs]
      omega
    rw [CT.eqv_strs]
    refine ite2 (fun h1 => ?_) (fun h1 => ?_)
    · rw [of_decide_eq_true h1, CT.readGroup_all] at q
      refine ⟨by first | decide | (simp only [List.length_cons, List.length_nil, List.length_append, List.length_map]; decide), fun pq hpq => ⟨by first | decide | (simp only [List.length_cons, List.length_nil, List.length_append, List.length_map]; decide), fun t ht => ?_⟩⟩
      have s2 := s1.trans (Same.upd0 (o := .lst []) hpq)
      have ntq : t ≠ pq := fun z => by rw [z, upd_same] at ht; cases ht
      refine q (.ref t) _ (s2.trans (Same.upd0 ht)) ⟨t, pq, rfl, ntq, s2.free ht, s1.free hpq, upd_same, by rw [upd_ne ntq.symm]; exact upd_same⟩
    have hna : ps ≠ (["all"] : List Str) := fun z => h1 (decide_eq_true z)
    have hp1' := s1.seq hp
    refine and_rest (B := (∀ x y z, ps = [x, y, z] → ¬ (x = "some" ∧ z = "of")) → _) ?none fun hB => ⟨_, rfl, .ref p, ps.length, rfl, .inl ⟨_, hp1', by rw [List.length_map]⟩, rfl, _, rfl, ite2 (fun h2 => iteT (hB fun x y z e => ?_)) (fun h2 => ?_)⟩
    case none =>
      intro hn
      refine q .non _ s1 ?_
      rw [CT.readGroup_none hna hn]
      rfl
    · rw [e, decide_eq_true (show V.int ((([x, y, z] : List Str).length : Nat) : Int) = V.int 3 from rfl)] at h2
      cases h2
    have h2' : ps.length = 3 := by
      have := fun z => h2 (by rw [decide_eq_false z]; rfl)
      have := V.int.inj (Classical.byContradiction this)
      omega
    obtain ⟨x, y, z, rfl⟩ := CT.len3 h2'
    have i0 : atI ([x, y, z].map V.str) 0 = some (.str x) := CF.atI_zero
    have i1 : atI ([x, y, z].map V.str) 1 = some (.str y) := rfl
    have i2 : atI ([x, y, z].map V.str) 2 = some (.str z) := rfl
    refine ⟨_, rfl, p, _, _, _, rfl, rfl, hp1', i0, rfl, _, rfl, ite2 (fun h3 => iteT (hB fun _ _ _ e z' => ?_)) (fun h3 => ?_)⟩
    · cases e
      rw [z'.1] at h3
      exact absurd h3 (by rw [decide_eq_true rfl]; decide)
    have hx : x = "some" := by
      have := fun z => h3 (by rw [decide_eq_false z]; rfl)
      exact V.str.inj (Classical.byContradiction this)
    refine ⟨_, rfl, p, _, _, _, rfl, rfl, hp1', i2, rfl, _, rfl, ite2 (fun h4 => hB fun _ _ _ e z' => ?_) (fun h4 => ?_)⟩
    · cases e
      rw [z'.2] at h4
      exact absurd h4 (by rw [decide_eq_true rfl]; decide)
    have hz : z = "of" := by
      have := fun z => h4 (by rw [decide_eq_false z]; rfl)
      exact V.str.inj (Classical.byContradiction this)
    have q' : ∀ r H', Same H H' → GAt H H' r ((CT.readNum y 1 16).map CT.GHead.some) → Q r H' := fun r H' s' g => q r H' s' (by rw [CT.readGroup_some hx hz]; exact g)
    have oky := hok.1 y (List.mem_cons_of_mem _ (List.mem_cons_self ..))
    refine ⟨_, rfl, p, _, _, _, rfl, rfl, hp1', i1, _, _, _, rfl, Nat.le_trans oky.2 (by decide), fun H2 s2 => ?_⟩
    have s12 := s1.trans s2
    refine ⟨_, rfl, rfl, _, rfl, ?_⟩
    cases hn : CT.readNum y 1 16 with
    | none =>
      rw [hn] at q'
      rw [decide_eq_true (show CT.oV none = V.non from rfl)]
      exact iteT (q' .non H2 s12 rfl)
    | some n =>
      rw [hn] at q'
      rw [decide_eq_false (show CT.oV (some n) ≠ V.non from fun z => nomatch z)]
      refine iteF ⟨_, rfl, by first | decide | (simp only [List.length_cons, List.length_nil, List.length_append, List.length_map]; decide), fun pq hpq => ⟨by first | decide | (simp only [List.length_cons, List.length_nil, List.length_append, List.length_map]; decide), fun t ht => ?_⟩⟩
      have s3 := s12.trans (Same.upd0 (o := .lst []) hpq)
      have ntq : t ≠ pq := fun z => by rw [z, upd_same] at ht; cases ht
      exact q' (.ref t) _ (s3.trans (Same.upd0 ht)) ⟨t, pq, rfl, ntq, s3.free ht, s12.free hpq, upd_same, by rw [upd_ne ntq.symm]; exact upd_same⟩
def sp_q24 (K : PySem.W.Frag) : Sp := fun vs H Q _ => ∃ (t : Addr) (g : CT.GHead) (v : V), vs = [.ref t] ∧ SqT K H t (ghV g ++ [v]) ∧ Q (.int g.least) H
theorem ok_q24 {f : Addr} {fd : FuncData} (F : Fun K "least_rules" "least_rules" s_q24 f fd) (T : Txt K mg a) : FnOk P w K mg base CX0 1 f fd ["group"] (sp_q24 K) := by
  refine F.ok sc_q24 (fun vs H Q E h => ?_) (fun cdv A outer s H vs Q E hr h => ?_)
  · obtain ⟨t, g, v, rfl, _⟩ := h
    rfl
  · obtain ⟨t, g, v, rfl, ht, q⟩ := h
    refine ⟨_, (pss_one (ps_ret (pe_ifExp (pt_cmpR op_eq (pe_ix ix_tup (pvA 0 (defScope s_q24) N_q24 rfl rfl) pe_int (fun _ _ => rfl)) pe_str (nomark _)) (pe_ix ix_tup (pvA 0 (defScope s_q24) N_q24 rfl rfl) pe_int (fun _ _ => rfl)) pe_int))), ?_⟩
    cases g with
    | all => exact ⟨_, rfl, t, _, _, _, rfl, rfl, ht, CF.atI_zero, rfl, _, rfl, ite2 (fun z => absurd (V.str.inj (of_decide_eq_true z)).symm CF.kinds_ne.2.2.2.2.2) (fun _ => q)⟩
    | some n => exact ⟨_, rfl, t, _, _, _, rfl, rfl, ht, CF.atI_zero, rfl, _, rfl, ite2 (fun _ => ⟨_, rfl, t, _, _, _, rfl, rfl, ht, rfl, q⟩) (fun z => absurd (decide_eq_true rfl) z)⟩
def sp_q32 (K : PySem.W.Frag) : Sp := fun vs H Q _ => ∃ (t : Addr) (hd : List V) (v : V), vs = [.ref t] ∧ SqT K H t (hd ++ [v]) ∧ Q v H
theorem ok_q32 {f : Addr} {fd : FuncData} (F : Fun K "rules_of" "rules_of" s_q32 f fd) (T : Txt K mg a) : FnOk P w K mg base CX0 1 f fd ["group"] (sp_q32 K) := by
  refine F.ok sc_q32 (fun vs H Q E h => ?_) (fun cdv A outer s H vs Q E hr h => ?_)
  · obtain ⟨t, hd, v, rfl, _⟩ := h
    rfl
  · obtain ⟨t, hd, v, rfl, et, q⟩ := h
    refine ⟨_, (pss_one (ps_ret (pe_ix ix_tup (pvA 0 (defScope s_q32) N_q32 rfl rfl) (pe_un un_neg pe_int) (fun _ _ => rfl)))), ?_⟩
    exact ⟨_, rfl, _, rfl, t, _, _, _, rfl, rfl, et, atI_last hd v, q⟩
theorem oft_at {D : Hp} {xs : List V} {os : List (Str × Int)} (h : DataAll K D xs (os.map CF.oftD)) {i : Nat} {y : V} (hy : xs[i]? = some y) : ∃ p t, os[i]? = some p ∧ y = .ref t ∧ D t = some (.tup [.str p.1, .int p.2]) := by
  obtain ⟨d, hd, hdy⟩ := DataAll.back h hy
  rw [List.getElem?_map] at hd
  obtain ⟨p, hp, rfl⟩ := Option.map_eq_some_iff.mp hd
  obtain ⟨t, zs, rfl, e, hA⟩ := DataAt.tup hdy
  obtain ⟨y1, r1, rfl, h1, hA⟩ := DataAll.uncons hA
  obtain ⟨y2, r2, rfl, h2, hA⟩ := DataAll.uncons hA
  rw [DataAt.str h1, DataAt.int h2, DataAll.none hA] at e
  exact ⟨p, t, hp, rfl, e⟩
def sp_q1 (K : PySem.W.Frag) (C : Addr) : Sp := fun vs H Q _ => ∃ x dx po pg xo v gs s N D, vs = [.ref x] ∧ CT.RdrAt K C N D H x dx po pg xo v gs s ∧ Q (.bl s.room) H
theorem ok_q1 {f : Addr} {fd fd_q32 : FuncData} (F : Fun K "has_room" "CourseReader.has_room" s_q1 f fd) (T : Txt K mg a)
    (G_q32 : FnOk P w K mg base CX0 1 a.rules_of fd_q32 ["group"] (sp_q32 K)) (F_q32 : Fun K "rules_of" "rules_of" s_q32 a.rules_of fd_q32) (b_q32 : Binds K fd_q32 ["group"] []) : FnOk P w K mg base CX0 2 f fd ["self"] (sp_q1 K a.C_CourseReader) := by
  obtain ⟨_, k_MOST_RULES⟩ := T.k_MOST_RULES
  refine F.ok sc_q1 (fun vs H Q E h => ?_) (fun cdv A outer s H vs Q E hr h => ?_)
  · obtain ⟨x, dx, po, pg, xo, v, gs, s, N, D, rfl, _⟩ := h
    rfl
  · obtain ⟨x, dx, po, pg, xo, v, gs, s, N, D, rfl, r, q⟩ := h
    refine ⟨_, (pss_one (ps_ret (pe_or (pe_cmpR op_eq (pe_callBN (sc := defScope s_q1) call_len rfl (by decide +kernel) T.z_len bt_len (pa_cons (pe_fld (pvA 0 (defScope s_q1) N_q1 rfl rfl) rfl) pa_nil)) pe_int (nomark _)) (pe_one (pe_cmpR op_lt (pe_callBN (sc := defScope s_q1) call_len rfl (by decide +kernel) T.z_len bt_len (pa_cons (pe_callN (sc := defScope s_q1) G_q32 (hr.mono (by decide)) rfl (by decide +kernel) T.m_q32 F_q32.kp b_q32 .nil pass0 (pa_cons (pe_ix ix_list (pe_fld (pvA 0 (defScope s_q1) N_q1 rfl rfl) rfl) (pe_un un_neg pe_int) (fun _ _ => rfl)) pa_nil)) pa_nil)) (pe_globN (v := V.int 16) (sc := defScope s_q1) rfl (by decide +kernel) k_MOST_RULES ⟨_, rfl⟩) (nomark _)))))), ?_⟩
    have eg := r.grp
    have el : ((gs.map fun f => V.ref f.t).reverse).length = gs.length := by rw [List.length_reverse, List.length_map]
    refine ⟨_, rfl, x, _, dx, _, _, rfl, r.ins, T.cls_CourseReader, T.no_CourseReader_groups, CT.rf_g, .ref pg, gs.length, rfl, .inl ⟨_, SqL.of eg, el.symm⟩, rfl, _, rfl, ?_⟩
    cases gs with
    | nil =>
      rw [CT.room_nil r.stk.symm] at q
      exact ite2 (fun _ => q) (fun z => absurd (decide_eq_true rfl) z)
    | cons f gr =>
      have hf := r.each f (List.mem_cons_self ..)
      have lf : f.xs.length = f.g.rules.length := by
        have := DataAll.length hf.data
        rw [CF.Rule.datas_map, List.length_map] at this
        exact this
      refine ite2 (fun z => ?_) (fun _ => ?_)
      · have := V.int.inj (of_decide_eq_true z)
        rw [List.length_cons] at this
        omega
      · rw [List.map_cons, List.reverse_cons] at eg
        refine ⟨_, rfl, x, _, dx, _, _, rfl, r.ins, T.cls_CourseReader, T.no_CourseReader_groups, CT.rf_g, _, rfl, pg, _, _, _, rfl, rfl, SqL.of eg, atI_last _ _, f.t, _, _, rfl, SqT.of hf.tup, .ref f.p, f.xs.length, rfl, .inl ⟨_, SqL.of hf.at_, rfl⟩, _, _, rfl, rfl, ?_⟩
        have e : decide (((f.xs.length : Nat) : Int) < 16) = decide (f.g.rules.length < 16) := by
          rw [lf]
          exact decide_eq_decide.mpr ⟨fun z => by omega, fun z => by omega⟩
        rw [CT.room_cons r.stk.symm, ← e] at q
        exact q
def PutPost (K : PySem.W.Frag) (C : Addr) (N : Addr → Prop) (D H : Hp) (x dx po pg : Addr) (gs : List CT.GFr) (s' : CT.RS) (R : Hp → Hp → Prop) : Prop :=
  ∀ D' H' xo' v' gs', Same D' H' → CT.RdrAt K C N D' H' x dx po pg xo' v' gs' s' → CF.Ext D H D' H' (CT.radr x po pg gs) → (∀ b ∈ CT.radr x po pg gs', b ∈ CT.radr x po pg gs ∨ H b = none) → R D' H'
def sp_q2 (K : PySem.W.Frag) (C : Addr) : Sp := fun vs H Q _ => ∃ x dx po pg xo v gs s N D y ru, vs = [.ref x, y] ∧ Same D H ∧ CT.RdrAt K C N D H x dx po pg xo v gs s ∧ CT.RuleAt K D N y (some ru) ∧ (∀ f ∈ gs, f.g.rules.length ≤ 1000) ∧ PutPost K C N D H x dx po pg gs (s.put ru) fun _ H' => Q .non H'
theorem ok_q2 {f : Addr} {fd fd_q32 : FuncData} (F : Fun K "put_rule" "CourseReader.put_rule" s_q2 f fd) (T : Txt K mg a)
    (G_q32 : FnOk P w K mg base CX0 1 a.rules_of fd_q32 ["group"] (sp_q32 K)) (F_q32 : Fun K "rules_of" "rules_of" s_q32 a.rules_of fd_q32) (b_q32 : Binds K fd_q32 ["group"] []) : FnOk P w K mg base CX0 2 f fd ["self", "rule"] (sp_q2 K a.C_CourseReader) := by
  refine F.ok sc_q2 (fun vs H Q E h => ?_) (fun cdv A outer s H vs Q E hr h => ?_)
  · obtain ⟨x, dx, po, pg, xo, v, gs, s, N, D, y, ru, rfl, _⟩ := h
    rfl
  · obtain ⟨x, dx, po, pg, xo, v, gs, s, N, D, y, ru, rfl, sD, r, hy, hl, q⟩ := h
    refine ⟨_, (pss_one (ps_if (pt_cmpR op_eq (pe_callBN (sc := defScope s_q2) call_len rfl (by decide +kernel) T.z_len bt_len (pa_cons (pe_fld (pvA 0 (defScope s_q2) N_q2 rfl rfl) rfl) pa_nil)) pe_int (nomark _)) (pss_one (ps_fld (pvA 0 (defScope s_q2) N_q2 rfl rfl) (pvA 1 (defScope s_q2) N_q2 rfl rfl) rfl)) (pss_one (ps_expr (pe_bm PySem.F.plainAttrs_list PySem.F.slot_list_append PySem.F.type_list_append mt_append (pe_callN (sc := defScope s_q2) G_q32 (hr.mono (by decide)) rfl (by decide +kernel) T.m_q32 F_q32.kp b_q32 .nil pass0 (pa_cons (pe_ix ix_list (pe_fld (pvA 0 (defScope s_q2) N_q2 rfl rfl) rfl) (pe_un un_neg pe_int) (fun _ _ => rfl)) pa_nil)) (pa_cons (pvA 1 (defScope s_q2) N_q2 rfl rfl) pa_nil)))))), ?_⟩
    have hs : sizeLine = 16777216 := sizeLine_eq
    have eg := r.grp
    have el : ((gs.map fun f => V.ref f.t).reverse).length = gs.length := by rw [List.length_reverse, List.length_map]
    refine ⟨_, rfl, x, _, dx, _, _, rfl, r.ins, T.cls_CourseReader, T.no_CourseReader_groups, CT.rf_g, .ref pg, gs.length, rfl, .inl ⟨_, SqL.of eg, el.symm⟩, rfl, _, rfl, ?_⟩
    cases gs with
    | nil =>
      rw [CT.put_nil r.stk.symm] at q
      refine ite2 (fun _ => ?_) (fun z => absurd (decide_eq_true rfl) z)
      refine ⟨_, rfl, _, rfl, x, _, dx, _, rfl, r.ins, T.cls_CourseReader, T.no_CourseReader_rule, by show 4 < 1000; decide, ?_⟩
      rw [CT.putF_r]
      exact q D _ xo y [] (same_set sD r.ox) (r.field s.leaves y (some ru) hy) (CT.Ext.set CT.mem_radr.1) (fun b hb => .inl hb)
    | cons f gr =>
      have hf := r.each f (List.mem_cons_self ..)
      have lf : f.xs.length = f.g.rules.length := by
        have := DataAll.length hf.data
        rw [CF.Rule.datas_map, List.length_map] at this
        exact this
      have hlf := hl f (List.mem_cons_self ..)
      refine ite2 (fun z => ?_) (fun _ => ?_)
      · have := V.int.inj (of_decide_eq_true z)
        rw [List.length_cons] at this
        omega
      · rw [List.map_cons, List.reverse_cons] at eg
        refine ⟨_, rfl, x, _, dx, _, _, rfl, r.ins, T.cls_CourseReader, T.no_CourseReader_groups, CT.rf_g, _, rfl, pg, _, _, _, rfl, rfl, SqL.of eg, atI_last _ _, f.t, _, _, rfl, SqT.of hf.tup, .inl ⟨rfl, _, SqL.of hf.at_⟩, _, rfl, f.p, _, _, rfl, rfl, hf.at_, by omega, ?_⟩
        rw [CT.put_cons r.stk.symm] at q
        exact q D _ xo v _ (same_set sD hf.out) (r.add hy.1) (CT.Ext.set (CT.mem_radr.2.2.2 f (List.mem_cons_self ..)).1) (fun b hb => .inl hb)
def TkPost (K : PySem.W.Frag) (C : Addr) (N : Addr → Prop) (D H : Hp) (x dx po pg : Addr) (gs : List CT.GFr) (o : Option CT.RS) (Q : VK) : Prop := match o with
  | none => ∀ D' H', Same D' H' → CF.Ext D H D' H' (CT.radr x po pg gs) → Q (.bl false) H'
  | some s' => PutPost K C N D H x dx po pg gs s' fun _ H' => Q (.bl true) H'
theorem TkPost.no {C : Addr} {N : Addr → Prop} {D H : Hp} {x dx po pg : Addr} {gs : List CT.GFr} {Q : VK} (h : TkPost K C N D H x dx po pg gs none Q) {D' H' : Hp} (s' : Same D' H') (e : CF.Ext D H D' H' (CT.radr x po pg gs)) : Q (.bl false) H' := h D' H' s' e
def sp_q6 (K : PySem.W.Frag) (C : Addr) : Sp := fun vs H Q _ => ∃ x dx po pg xo v gs s N D y ol, vs = [.ref x, y] ∧ Same D H ∧ CT.RdrAt K C N D H x dx po pg xo v gs s ∧ LAt K D y ol ∧ (∀ f ∈ gs, f.g.rules.length ≤ 1000) ∧ TkPost K C N D H x dx po pg gs (s.leaf ol) Q
theorem ok_q6 {f : Addr} {fd fd_q1 fd_q2 : FuncData} (F : Fun K "take_leaf" "CourseReader.take_leaf" s_q6 f fd) (T : Txt K mg a)
    (G_q1 : FnOk P w K mg base CX0 2 a.CourseReader_has_room fd_q1 ["self"] (sp_q1 K a.C_CourseReader)) (F_q1 : Fun K "has_room" "CourseReader.has_room" s_q1 a.CourseReader_has_room fd_q1) (b_q1 : Binds K fd_q1 ["self"] [])
    (G_q2 : FnOk P w K mg base CX0 2 a.CourseReader_put_rule fd_q2 ["self", "rule"] (sp_q2 K a.C_CourseReader)) (F_q2 : Fun K "put_rule" "CourseReader.put_rule" s_q2 a.CourseReader_put_rule fd_q2) (b_q2 : Binds K fd_q2 ["self", "rule"] []) : FnOk P w K mg base CX0 4 f fd ["self", "leaf"] (sp_q6 K a.C_CourseReader) := by
  obtain ⟨_, k_MOST_LEAVES⟩ := T.k_MOST_LEAVES
  refine F.ok sc_q6 (fun vs H Q E h => ?_) (fun cdv A outer s H vs Q E hr h => ?_)
  · obtain ⟨x, dx, po, pg, xo, v, gs, s, N, D, y, ol, rfl, _⟩ := h
    rfl
  · obtain ⟨x, dx, po, pg, xo, v, gs, s, N, D, y, ol, rfl, sD, r, hy, hl, q⟩ := h
    refine ⟨_, (pss_cons (ps_if (PW.pt (pw_or (pt_cmpR op_isN (pvA 1 (defScope s_q6) N_q6 rfl rfl) pe_non (nomark _)) (pw_or (pt_cmpR op_eq (pe_fld (pvA 0 (defScope s_q6) N_q6 rfl rfl) rfl) (pe_globN (v := V.int 16) (sc := defScope s_q6) rfl (by decide +kernel) k_MOST_LEAVES ⟨_, rfl⟩) (nomark _)) (pw_or1 (pt_not (pt_val (pe_meth0 (pvA 0 (defScope s_q6) N_q6 rfl rfl) T.cls_CourseReader T.meth_CourseReader_has_room G_q1 (hr.mono (by decide)) b_q1 .nil pass0))))))) (pss_one (ps_ret pe_bl)) pss_nil)
      (pss_cons (ps_fld (pvA 0 (defScope s_q6) N_q6 rfl rfl) (pe_op op_add (pe_fld (pvA 0 (defScope s_q6) N_q6 rfl rfl) rfl) pe_int) rfl)
      (pss_cons (ps_expr (pe_meth (pvA 0 (defScope s_q6) N_q6 rfl rfl) T.cls_CourseReader T.meth_CourseReader_put_rule G_q2 (hr.mono (by decide)) b_q2 .nil pass0 (pa_cons (pvA 1 (defScope s_q6) N_q6 rfl rfl) pa_nil)))
      (pss_one (ps_ret pe_bl))))), ?_⟩
    have er : CF.Ext D H D H (CT.radr x po pg gs) := CT.Ext.refl' (Gr.refl sD)
    refine ⟨_, rfl, rfl, _, rfl, ?_⟩
    cases ol with
    | none =>
      have hy' : y = .non := hy
      subst hy'
      rw [decide_eq_true (show V.non = V.non from rfl)]
      exact iteT (iteT (q D H sD er))
    | some l =>
      have hyl : DataAt K D y l.data := hy
      have hne : y ≠ .non := by
        obtain ⟨t, p, rfl, _⟩ := CF.Leaf.tup hyl
        exact fun z => nomatch z
      rw [decide_eq_false hne]
      have q' : TkPost K a.C_CourseReader N D H x dx po pg gs (if s.leaves = 16 ∨ s.room = false then none else some (CT.RS.put { s with leaves := s.leaves + 1 } (.leaf l))) Q := q
      refine iteF ⟨_, rfl, x, _, dx, _, _, rfl, r.ins, T.cls_CourseReader, T.no_CourseReader_leaves, CT.rf_l, rfl, _, rfl, ite2 (fun h1 => ?_) (fun h1 => ?_)⟩
      · have h1' := V.int.inj (of_decide_eq_true h1)
        rw [if_pos (.inl (by omega))] at q'
        exact iteT (q' D H sD er)
      have h16 : s.leaves ≠ 16 := fun z => h1 (decide_eq_true (by rw [z]; rfl))
      refine ⟨_, rfl, x, dx, _, rfl, r.ins, CT.rf_m (by decide +kernel), x, dx, po, pg, xo, v, gs, s, N, D, rfl, r, _, rfl, ?_⟩
      cases hroom : s.room with
      | false =>
        rw [if_pos (.inr hroom)] at q'
        exact iteT (q' D H sD er)
      | true =>
        rw [if_neg (fun z => z.elim h16 (fun z => by rw [hroom] at z; cases z))] at q'
        refine iteF ⟨_, rfl, x, _, dx, _, _, rfl, r.ins, T.cls_CourseReader, T.no_CourseReader_leaves, CT.rf_l, _, _, rfl, rfl, _, rfl, x, _, dx, _, rfl, r.ins, T.cls_CourseReader, T.no_CourseReader_leaves, by show 4 < 1000; decide, ?_⟩
        rw [show putF "leaves" ((fun i j : Int => V.int (i + j)) ((s.leaves : Nat) : Int) 1) (CT.rf po pg s.leaves v) = CT.rf po pg (s.leaves + 1) v from CT.putF_l (m := s.leaves + 1)]
        have r1 := r.field (s.leaves + 1) v s.rule r.rule
        have s1 := same_set (o := .ins a.C_CourseReader dx (CT.rf po pg (s.leaves + 1) v)) sD r.ox
        have e1 : CF.Ext D H D (upd H x (.ins a.C_CourseReader dx (CT.rf po pg (s.leaves + 1) v))) (CT.radr x po pg gs) := CT.Ext.set CT.mem_radr.1
        refine ⟨_, rfl, x, dx, _, rfl, upd_same, CT.rf_m (by decide +kernel), _, rfl, x, dx, po, pg, xo, v, gs, _, N, D, y, .leaf l, rfl, s1, r1, ⟨by unfold CF.Rule.data; exact hyl, fun z => nomatch z⟩, hl, fun D' H' xo' v' gs' s' r' e' hn' => ?_⟩
        refine q' D' H' xo' v' gs' s' r' (CT.Ext.then e1 e' (fun b hb => .inl hb)) (fun b hb => ?_)
        rcases hn' b hb with z | z
        · exact .inl z
        · by_cases hbx : b = x
          · exact .inl (by rw [hbx]; exact CT.mem_radr.1)
          · rw [upd_ne hbx] at z
            exact .inr z
def sp_q5 (K : PySem.W.Frag) (C : Addr) : Sp := fun vs H Q _ => ∃ x dx po pg xo v gs s N D y og, vs = [.ref x, y] ∧ Same D H ∧ CT.RdrAt K C N D H x dx po pg xo v gs s ∧ gs.length ≤ 1000 ∧
  (og = none → y = .non) ∧ (∀ g, og = some g → ∃ t p, y = .ref t ∧ H t = some (.tup (ghV g ++ [.ref p])) ∧ H p = some (.lst []) ∧ D t = none ∧ D p = none ∧ N t ∧ N p ∧ (∀ b ∈ CT.radr x po pg gs, p ≠ b)) ∧
  (CT.RS.group s og = none → Q (.bl false) H) ∧
  (∀ s' t p g, CT.RS.group s og = some s' → og = some g → y = .ref t → H t = some (.tup (ghV g ++ [.ref p])) → ∀ H', Same D H' → CT.RdrAt K C N D H' x dx po pg xo v (⟨t, p, [], ⟨g, []⟩⟩ :: gs) s' → CF.Ext D H D H' (CT.radr x po pg gs) → Q (.bl true) H')
theorem ok_q5 {f : Addr} {fd fd_q1 : FuncData} (F : Fun K "take_group" "CourseReader.take_group" s_q5 f fd) (T : Txt K mg a)
    (G_q1 : FnOk P w K mg base CX0 2 a.CourseReader_has_room fd_q1 ["self"] (sp_q1 K a.C_CourseReader)) (F_q1 : Fun K "has_room" "CourseReader.has_room" s_q1 a.CourseReader_has_room fd_q1) (b_q1 : Binds K fd_q1 ["self"] []) : FnOk P w K mg base CX0 4 f fd ["self", "group"] (sp_q5 K a.C_CourseReader) := by
  obtain ⟨_, k_MOST_GROUPS⟩ := T.k_MOST_GROUPS
  refine F.ok sc_q5 (fun vs H Q E h => ?_) (fun cdv A outer s H vs Q E hr h => ?_)
  · obtain ⟨x, dx, po, pg, xo, v, gs, s, N, D, y, og, rfl, _⟩ := h
    rfl
  · obtain ⟨x, dx, po, pg, xo, v, gs, s, N, D, y, og, rfl, sD, r, hl, hy0, hy1, q0, q1⟩ := h
    refine ⟨_, (pss_cons (ps_if (PW.pt (pw_or (pt_cmpR op_isN (pvA 1 (defScope s_q5) N_q5 rfl rfl) pe_non (nomark _)) (pw_or (pt_cmpR op_eq (pe_callBN (sc := defScope s_q5) call_len rfl (by decide +kernel) T.z_len bt_len (pa_cons (pe_fld (pvA 0 (defScope s_q5) N_q5 rfl rfl) rfl) pa_nil)) (pe_globN (v := V.int 6) (sc := defScope s_q5) rfl (by decide +kernel) k_MOST_GROUPS ⟨_, rfl⟩) (nomark _)) (pw_or1 (pt_not (pt_val (pe_meth0 (pvA 0 (defScope s_q5) N_q5 rfl rfl) T.cls_CourseReader T.meth_CourseReader_has_room G_q1 (hr.mono (by decide)) b_q1 .nil pass0))))))) (pss_one (ps_ret pe_bl)) pss_nil)
      (pss_cons (ps_expr (pe_bm PySem.F.plainAttrs_list PySem.F.slot_list_append PySem.F.type_list_append mt_append (pe_fld (pvA 0 (defScope s_q5) N_q5 rfl rfl) rfl) (pa_cons (pvA 1 (defScope s_q5) N_q5 rfl rfl) pa_nil)))
      (pss_one (ps_ret pe_bl)))), ?_⟩
    have hs : sizeLine = 16777216 := sizeLine_eq
    have eg := r.grp
    have el : ((gs.map fun f => V.ref f.t).reverse).length = gs.length := by rw [List.length_reverse, List.length_map]
    have ls : s.stack.length = gs.length := by rw [← r.stk, List.length_map]
    refine ⟨_, rfl, rfl, _, rfl, ?_⟩
    cases og with
    | none =>
      have hy' := hy0 rfl
      subst hy'
      rw [decide_eq_true (show V.non = V.non from rfl)]
      exact iteT (iteT (q0 rfl))
    | some g =>
      obtain ⟨t, p, rfl, ht, hp, ot, op, nt, np, fp⟩ := hy1 g rfl
      rw [decide_eq_false (show V.ref t ≠ V.non from fun z => nomatch z)]
      have eG : CT.RS.group s (some g) = if s.stack.length = 6 ∨ s.room = false then none else some { s with stack := ⟨g, []⟩ :: s.stack } := rfl
      refine iteF ⟨_, rfl, x, _, dx, _, _, rfl, r.ins, T.cls_CourseReader, T.no_CourseReader_groups, CT.rf_g, .ref pg, gs.length, rfl, .inl ⟨_, SqL.of eg, el.symm⟩, rfl, _, rfl, ite2 (fun h1 => ?_) (fun h1 => ?_)⟩
      · have h1' := V.int.inj (of_decide_eq_true h1)
        exact iteT (q0 (by rw [eG, if_pos (.inl (by omega))]))
      have h6 : s.stack.length ≠ 6 := fun z => h1 (decide_eq_true (by rw [← ls, z]; rfl))
      refine ⟨_, rfl, x, dx, _, rfl, r.ins, CT.rf_m (by decide +kernel), x, dx, po, pg, xo, v, gs, s, N, D, rfl, r, _, rfl, ?_⟩
      cases hroom : s.room with
      | false => exact iteT (q0 (by rw [eG, if_pos (.inr hroom)]))
      | true =>
        refine iteF ⟨_, rfl, x, _, dx, _, _, rfl, r.ins, T.cls_CourseReader, T.no_CourseReader_groups, CT.rf_g, .inl ⟨rfl, _, SqL.of eg⟩, _, rfl, pg, _, _, rfl, rfl, eg, by omega, ?_⟩
        exact q1 _ t p g (by rw [eG, if_neg (fun z => z.elim h6 (fun z => by rw [hroom] at z; cases z))]) rfl rfl ht _ (same_set sD r.og) (r.push ht hp ot op nt np fp) (CT.Ext.set CT.mem_radr.2.2.1)
def sp_q4 (K : PySem.W.Frag) (C : Addr) : Sp := fun vs H Q _ => ∃ x dx po pg xo v gs s N D, vs = [.ref x] ∧ Same D H ∧ CT.RdrAt K C N D H x dx po pg xo v gs s ∧ (∀ f ∈ gs, f.g.rules.length ≤ 1000) ∧ TkPost K C N D H x dx po pg gs s.fin Q
theorem ok_q4 {f : Addr} {fd fd_q2 fd_q24 fd_q32 : FuncData} (F : Fun K "take_end" "CourseReader.take_end" s_q4 f fd) (T : Txt K mg a)
    (G_q2 : FnOk P w K mg base CX0 2 a.CourseReader_put_rule fd_q2 ["self", "rule"] (sp_q2 K a.C_CourseReader)) (F_q2 : Fun K "put_rule" "CourseReader.put_rule" s_q2 a.CourseReader_put_rule fd_q2) (b_q2 : Binds K fd_q2 ["self", "rule"] [])
    (G_q24 : FnOk P w K mg base CX0 1 a.least_rules fd_q24 ["group"] (sp_q24 K)) (F_q24 : Fun K "least_rules" "least_rules" s_q24 a.least_rules fd_q24) (b_q24 : Binds K fd_q24 ["group"] [])
    (G_q32 : FnOk P w K mg base CX0 1 a.rules_of fd_q32 ["group"] (sp_q32 K)) (F_q32 : Fun K "rules_of" "rules_of" s_q32 a.rules_of fd_q32) (b_q32 : Binds K fd_q32 ["group"] []) : FnOk P w K mg base CX0 4 f fd ["self"] (sp_q4 K a.C_CourseReader) := by
  refine F.ok sc_q4 (fun vs H Q E h => ?_) (fun cdv A outer s H vs Q E hr h => ?_)
  · obtain ⟨x, dx, po, pg, xo, v, gs, s, N, D, rfl, _⟩ := h
    rfl
  · obtain ⟨x, dx, po, pg, xo, v, gs, s, N, D, rfl, sD, r, hl, q⟩ := h
    refine ⟨_, (pss_cons (ps_if (pt_cmpR op_eq (pe_callBN (sc := defScope s_q4) call_len rfl (by decide +kernel) T.z_len bt_len (pa_cons (pe_fld (pvA 0 (defScope s_q4) N_q4 rfl rfl) rfl) pa_nil)) pe_int (nomark _)) (pss_one (ps_ret pe_bl)) pss_nil)
      (pss_cons (psN (i := 1) (sc := defScope s_q4) (M := N_q4) rfl rfl (by decide +kernel) (pe_bm0 PySem.F.plainAttrs_list PySem.F.slot_list_pop PySem.F.type_list_pop mt_pop (pe_fld (pvA 0 (defScope s_q4) N_q4 rfl rfl) rfl)))
      (pss_cons (ps_if (pt_cmpR op_lt (pe_callBN (sc := defScope s_q4) call_len rfl (by decide +kernel) T.z_len bt_len (pa_cons (pe_callN (sc := defScope s_q4) G_q32 (hr.mono (by decide)) rfl (by decide +kernel) T.m_q32 F_q32.kp b_q32 .nil pass0 (pa_cons (pvA 1 (defScope s_q4) N_q4 rfl rfl) pa_nil)) pa_nil)) (pe_callN (sc := defScope s_q4) G_q24 (hr.mono (by decide)) rfl (by decide +kernel) T.m_q24 F_q24.kp b_q24 .nil pass0 (pa_cons (pvA 1 (defScope s_q4) N_q4 rfl rfl) pa_nil)) (nomark _)) (pss_one (ps_ret pe_bl)) pss_nil)
      (pss_cons (ps_expr (pe_meth (pvA 0 (defScope s_q4) N_q4 rfl rfl) T.cls_CourseReader T.meth_CourseReader_put_rule G_q2 (hr.mono (by decide)) b_q2 .nil pass0 (pa_cons (pvA 1 (defScope s_q4) N_q4 rfl rfl) pa_nil)))
      (pss_one (ps_ret pe_bl)))))), ?_⟩
    have eg := r.grp
    have el : ((gs.map fun f => V.ref f.t).reverse).length = gs.length := by rw [List.length_reverse, List.length_map]
    have er : CF.Ext D H D H (CT.radr x po pg gs) := CT.Ext.refl' (Gr.refl sD)
    refine ⟨_, rfl, x, _, dx, _, _, rfl, r.ins, T.cls_CourseReader, T.no_CourseReader_groups, CT.rf_g, .ref pg, gs.length, rfl, .inl ⟨_, SqL.of eg, el.symm⟩, rfl, _, rfl, ?_⟩
    cases gs with
    | nil =>
      rw [CT.fin_nil r.stk.symm] at q
      exact ite2 (fun _ => q D H sD er) (fun z => absurd (decide_eq_true rfl) z)
    | cons f gr =>
      have hm : f ∈ f :: gr := List.mem_cons_self ..
      have hf := r.each f hm
      have lf : f.xs.length = f.g.rules.length := by
        have := DataAll.length hf.data
        rw [CF.Rule.datas_map, List.length_map] at this
        exact this
      rw [CT.fin_cons r.stk.symm] at q
      refine ite2 (fun z => ?_) (fun _ => ?_)
      · have := V.int.inj (of_decide_eq_true z)
        rw [List.length_cons] at this
        omega
      rw [List.map_cons, List.reverse_cons] at eg
      refine ⟨_, rfl, x, _, dx, _, _, rfl, r.ins, T.cls_CourseReader, T.no_CourseReader_groups, CT.rf_g, .inl ⟨rfl, _, SqL.of eg⟩, pg, _, .ref f.t, rfl, rfl, eg, ?_, ?_⟩
      · rw [List.length_append, List.length_singleton, Nat.add_sub_cancel]
        exact CF.snoc_at _ _
      rw [List.dropLast_concat]
      have r1 := r.pop
      have s1 := same_set (o := .lst ((gr.map fun f => V.ref f.t).reverse)) sD r.og
      have e1 : CF.Ext D H D (upd H pg (.lst ((gr.map fun f => V.ref f.t).reverse))) (CT.radr x po pg (f :: gr)) := CT.Ext.set CT.mem_radr.2.2.1
      have ht1 : upd H pg (.lst ((gr.map fun f => V.ref f.t).reverse)) f.t = some (.tup (ghV f.g.head ++ [.ref f.p])) := by rw [upd_ne (r.t_pg hm)]; exact hf.tup
      have hp1 : upd H pg (.lst ((gr.map fun f => V.ref f.t).reverse)) f.p = some (.lst f.xs) := by rw [upd_ne (r.p_pg hm)]; exact hf.at_
      have hfr : ∀ b, upd H pg (.lst ((gr.map fun f => V.ref f.t).reverse)) b = none → H b = none := fun b hb => by
        by_cases h : b = pg
        · rw [h, upd_same] at hb; cases hb
        · rw [upd_ne h] at hb; exact hb
      obtain ⟨D1, dd, sd1, eD1, ra, out⟩ := r.close sD
      have sd1' : Same D1 (upd H pg (.lst ((gr.map fun f => V.ref f.t).reverse))) := same_set sd1 (out pg r.og (r.p_pg hm).symm (r.t_pg hm).symm)
      generalize upd H pg (.lst ((gr.map fun f => V.ref f.t).reverse)) = H1 at r1 s1 e1 ht1 hp1 hfr sd1' ⊢
      refine ⟨_, rfl, f.t, _, _, rfl, SqT.of ht1, .ref f.p, f.xs.length, rfl, .inl ⟨_, SqL.of hp1, rfl⟩, _, rfl, f.t, f.g.head, _, rfl, SqT.of ht1, _, _, rfl, rfl, _, rfl, ite2 (fun h2 => ?_) (fun h2 => ?_)⟩
      · have h2' := of_decide_eq_true h2
        rw [if_pos (by rw [← lf]; exact h2')] at q
        exact q D H1 s1 e1
      rw [if_neg (fun z => h2 (decide_eq_true (by rw [lf]; exact z)))] at q
      have r2 : CT.RdrAt K a.C_CourseReader N D1 H1 x dx po pg xo v gr { s with stack := gr.map fun f => f.g } := r1.more dd fun b hb => by
        unfold CT.radr at hb
        rcases List.mem_cons.mp hb with rfl | hb
        · exact out b r.ox (r.x_p hm) (r.x_t hm)
        rcases List.mem_cons.mp hb with rfl | hb
        · exact out b r.oo (r.p_po hm).symm (r.t_po hm).symm
        rcases List.mem_cons.mp hb with rfl | hb
        · exact out b r.og (r.p_pg hm).symm (r.t_pg hm).symm
        rcases List.mem_append.mp hb with hb | hb
        · obtain ⟨g, hg, rfl⟩ := List.mem_map.mp hb
          have hgm := List.mem_cons_of_mem f hg
          refine out g.p (r.each g hgm).out (fun z => ?_) (fun z => r.t_p hm hgm z.symm)
          have h4 : (f.p :: gr.map fun f => f.p).Nodup := (List.nodup_cons.mp (List.nodup_cons.mp r.nd).2).2
          exact (List.nodup_cons.mp h4).1 (by rw [← z]; exact List.mem_map.mpr ⟨g, hg, rfl⟩)
        · obtain ⟨g, hg, rfl⟩ := List.mem_map.mp hb
          have hgm := List.mem_cons_of_mem f hg
          exact out g.t (r.each g hgm).outT (r.t_p hgm hm) (r.t_t hg)
      have e2 : CF.Ext D H D1 H1 (CT.radr x po pg (f :: gr)) := ⟨dd, fun b o hn e => ⟨(e1.keep b o hn e).1, fun z => out b z (fun w => hn (by rw [w]; exact (CT.mem_radr.2.2.2 f hm).1)) (fun w => hn (by rw [w]; exact (CT.mem_radr.2.2.2 f hm).2))⟩⟩
      have sub : ∀ b ∈ CT.radr x po pg gr, b ∈ CT.radr x po pg (f :: gr) := fun b hb => by
        unfold CT.radr at hb ⊢
        simp only [List.mem_cons, List.mem_append, List.map_cons] at hb ⊢
        rcases hb with h | h | h | h | h
        · exact .inl h
        · exact .inr (.inl h)
        · exact .inr (.inr (.inl h))
        · exact .inr (.inr (.inr (.inl (.inr h))))
        · exact .inr (.inr (.inr (.inr (.inr h))))
      refine ⟨_, rfl, x, dx, _, rfl, r1.ins, CT.rf_m (by decide +kernel), _, rfl, x, dx, po, pg, xo, v, gr, _, N, D1, .ref f.t, f.g.head.rule f.g.rules, rfl, sd1', r2, ra, (fun g hg => hl g (List.mem_cons_of_mem _ hg)), fun D' H' xo' v' gs' s' r' e' hn' => ?_⟩
      have e'' : CF.Ext D H D' H' (CT.radr x po pg (f :: gr)) := CT.Ext.then e2 e' (fun b hb => .inl (sub b hb))
      have st : ({ s with stack := gr.map fun f => f.g } : CT.RS) = { s with stack := gr.map (fun f => f.g) } := rfl
      refine q D' H' xo' v' gs' s' r' e'' (fun b hb => ?_)
      rcases hn' b hb with z | z
      · exact .inl (sub b z)
      · exact .inr (hfr b z)
theorem radr_some {C : Addr} {N : Addr → Prop} {D H : Hp} {x dx po pg : Addr} {xo : List V} {v : V} {gs : List CT.GFr} {s : CT.RS} (r : CT.RdrAt K C N D H x dx po pg xo v gs s) {b : Addr} (hb : b ∈ CT.radr x po pg gs) : ∃ o, H b = some o := by
  unfold CT.radr at hb
  rcases List.mem_cons.mp hb with rfl | hb
  · exact ⟨_, r.ins⟩
  rcases List.mem_cons.mp hb with rfl | hb
  · exact ⟨_, r.oft⟩
  rcases List.mem_cons.mp hb with rfl | hb
  · exact ⟨_, r.grp⟩
  rcases List.mem_append.mp hb with hb | hb
  · obtain ⟨g, hg, rfl⟩ := List.mem_map.mp hb
    exact ⟨_, (r.each g hg).at_⟩
  · obtain ⟨g, hg, rfl⟩ := List.mem_map.mp hb
    exact ⟨_, (r.each g hg).tup⟩
theorem PutPost.shift {C : Addr} {N : Addr → Prop} {D H D1 H1 : Hp} {x dx po pg : Addr} {gs : List CT.GFr} {s' : CT.RS} {R : Hp → Hp → Prop} (h : PutPost K C N D H x dx po pg gs s' R) (g : Gr D H D1 H1) : PutPost K C N D1 H1 x dx po pg gs s' R :=
  fun D' H' xo' v' gs' s2 r' e' hn' => h D' H' xo' v' gs' s2 r' (CT.Ext.then (CT.Ext.refl' g) e' fun b hb => .inl hb) fun b hb => (hn' b hb).imp id fun z => g.hh.free z
theorem TkPost.shift {C : Addr} {N : Addr → Prop} {D H D1 H1 : Hp} {x dx po pg : Addr} {gs : List CT.GFr} {o : Option CT.RS} {Q : VK} (h : TkPost K C N D H x dx po pg gs o Q) (g : Gr D H D1 H1) : TkPost K C N D1 H1 x dx po pg gs o Q := by
  cases o with
  | none => exact fun D' H' s' e' => h D' H' s' (CT.Ext.then (CT.Ext.refl' g) e' fun b hb => .inl hb)
  | some s' => exact PutPost.shift h g
def sp_q7 (K : PySem.W.Frag) (C : Addr) : Sp := fun vs H Q _ => ∃ x dx po pg xo v gs s N D p ps, vs = [.ref x, .ref p] ∧ Same D H ∧ CT.RdrAt K C N D H x dx po pg xo v gs s ∧ SqL K H p (ps.map V.str) ∧ PartsOk ps ∧ CT.Fit s ∧ TkPost K C N D H x dx po pg gs (s.often ps) Q
theorem ok_q7 {f : Addr} {fd fd_q11 fd_q29 : FuncData} (F : Fun K "take_often" "CourseReader.take_often" s_q7 f fd) (T : Txt K mg a)
    (G_q11 : FnOk P w K mg base CX0 2 a.is_word fd_q11 ["thing"] (sp_q11 K)) (F_q11 : Fun K "is_word" "is_word" s_q11 a.is_word fd_q11) (b_q11 : Binds K fd_q11 ["thing"] [])
    (G_q29 : FnOk P w K mg base CX0 3 a.read_number fd_q29 ["text", "least", "most"] (sp_q29 K)) (F_q29 : Fun K "read_number" "read_number" s_q29 a.read_number fd_q29) (b_q29 : Binds K fd_q29 ["text", "least", "most"] []) : FnOk P w K mg base CX0 4 f fd ["self", "parts"] (sp_q7 K a.C_CourseReader) := by
  obtain ⟨_, k_MOST_OFTEN⟩ := T.k_MOST_OFTEN
  obtain ⟨_, k_MOST_OFTENS⟩ := T.k_MOST_OFTENS
  refine F.ok sc_q7 (fun vs H Q E h => ?_) (fun cdv A outer s H vs Q E hr h => ?_)
  · obtain ⟨x, dx, po, pg, xo, v, gs, st, N, D, p, ps, rfl, _⟩ := h
    rfl
  · obtain ⟨x, dx, po, pg, xo, v, gs, st, N, D, p, ps, rfl, sD, r, hp, hok, hfit, q⟩ := h
    refine ⟨_, (pss_cons (ps_if (PW.pt (pw_or (pt_cmpR op_gt (pe_callBN (sc := defScope s_q7) call_len rfl (by decide +kernel) T.z_len bt_len (pa_cons (pe_fld (pvA 0 (defScope s_q7) N_q7 rfl rfl) rfl) pa_nil)) pe_int (nomark _)) (pw_or1 (pt_cmpR op_eq (pe_callBN (sc := defScope s_q7) call_len rfl (by decide +kernel) T.z_len bt_len (pa_cons (pe_fld (pvA 0 (defScope s_q7) N_q7 rfl rfl) rfl) pa_nil)) (pe_globN (v := V.int 16) (sc := defScope s_q7) rfl (by decide +kernel) k_MOST_OFTENS ⟨_, rfl⟩) (nomark _))))) (pss_one (ps_ret pe_bl)) pss_nil)
      (pss_cons (ps_if (PW.pt (pw_or (pt_cmpR op_ne (pe_callBN (sc := defScope s_q7) call_len rfl (by decide +kernel) T.z_len bt_len (pa_cons (pvA 1 (defScope s_q7) N_q7 rfl rfl) pa_nil)) pe_int (nomark _)) (pw_or1 (pt_not (pt_val (pe_callN (sc := defScope s_q7) G_q11 (hr.mono (by decide)) rfl (by decide +kernel) T.m_q11 F_q11.kp b_q11 .nil pass0 (pa_cons (pe_ix ix_list (pvA 1 (defScope s_q7) N_q7 rfl rfl) pe_int (fun _ _ => rfl)) pa_nil))))))) (pss_one (ps_ret pe_bl)) pss_nil)
      (pss_cons (psN (i := 2) (sc := defScope s_q7) (M := N_q7) rfl rfl (by decide +kernel) (pe_callN (sc := defScope s_q7) G_q29 (hr.mono (by decide)) rfl (by decide +kernel) T.m_q29 F_q29.kp b_q29 .nil pass0 (pa_cons (pe_ix ix_list (pvA 1 (defScope s_q7) N_q7 rfl rfl) pe_int (fun _ _ => rfl)) (pa_cons pe_int (pa_cons (pe_globN (v := V.int 9) (sc := defScope s_q7) rfl (by decide +kernel) k_MOST_OFTEN ⟨_, rfl⟩) pa_nil)))))
      (pss_cons (ps_if (PW.pt (pw_or (pt_cmpR op_isN (pvA 2 (defScope s_q7) N_q7 rfl rfl) pe_non (nomark _)) (pw_or1 (pt_cmpR op_in_seq (pe_ix ix_list (pvA 1 (defScope s_q7) N_q7 rfl rfl) pe_int (fun _ _ => rfl)) (pe_comp rfl (N := ["field", "number"]) (own := 2) (js := []) (X := (cxOf CX0 P w K mg base N_q7 "CourseReader.take_often" (defScope s_q7) f cdv A outer s H E).nox) (compOk (defScope s_q7) N_q7 rfl rfl (by decide +kernel)) (pi_list (pe_fld (pvA 0 (defScope s_q7) N_q7 rfl rfl) rfl)) (fun fp0 sx0 Hx0 => (kgTup (K := K) rfl (pg_tup (n := 2) (by rfl) (pgs_cons (pgN (i := 0) (sc := relabelS _ (defScope s_q7)) (M := ["field", "number"]) rfl rfl (by decide +kernel)) (pgs_cons (pgN (i := 1) (sc := relabelS _ (defScope s_q7)) (M := ["field", "number"]) rfl rfl (by decide +kernel)) pgs_nil))))) (fun fp0 sx0 Hx0 => pifs_nil) (fun fp0 sx0 Hx0 => (pvN (i := 0) (sc := relabelS _ (defScope s_q7)) (M := ["field", "number"]) rfl rfl (by decide +kernel)))) (by with_unfolding_all rfl))))) (pss_one (ps_ret pe_bl)) pss_nil)
      (pss_cons (ps_expr (pe_bm PySem.F.plainAttrs_list PySem.F.slot_list_append PySem.F.type_list_append mt_append (pe_fld (pvA 0 (defScope s_q7) N_q7 rfl rfl) rfl) (pa_cons (pe_tup (pa_cons (pe_ix ix_list (pvA 1 (defScope s_q7) N_q7 rfl rfl) pe_int (fun _ _ => rfl)) (pa_cons (pvA 2 (defScope s_q7) N_q7 rfl rfl) pa_nil))) pa_nil)))
      (pss_one (ps_ret pe_bl))))))), ?_⟩
    have hs : sizeLine = 16777216 := sizeLine_eq
    have eg := r.grp
    have el : ((gs.map fun f => V.ref f.t).reverse).length = gs.length := by rw [List.length_reverse, List.length_map]
    have lxo : xo.length = st.oftens.length := by
      have := DataAll.length r.oftD
      rw [List.length_map] at this
      exact this
    have hof := hfit.oft
    have ls : st.stack.length = gs.length := by rw [← r.stk, List.length_map]
    have er : CF.Ext D H D H (CT.radr x po pg gs) := CT.Ext.refl' (Gr.refl sD)
    refine ⟨_, rfl, x, _, dx, _, _, rfl, r.ins, T.cls_CourseReader, T.no_CourseReader_groups, CT.rf_g, .ref pg, gs.length, rfl, .inl ⟨_, SqL.of eg, el.symm⟩, _, _, rfl, rfl, _, rfl, ite2 (fun h1 => ?_) (fun h1 => ?_)⟩
    · have h1' := of_decide_eq_true h1
      rw [CT.often_full (.inl (fun z => by rw [z] at ls; simp at ls; omega))] at q
      exact iteT (q D H sD er)
    have hst : st.stack = [] := List.eq_nil_of_length_eq_zero (by
      have hh : ¬ (0 : Int) < (gs.length : Nat) := fun z => h1 (decide_eq_true z)
      omega)
    refine ⟨_, rfl, x, _, dx, _, _, rfl, r.ins, T.cls_CourseReader, T.no_CourseReader_oftens, CT.rf_o, .ref po, xo.length, rfl, .inl ⟨_, SqL.of r.oft, rfl⟩, rfl, _, rfl, ite2 (fun h2 => ?_) (fun h2 => ?_)⟩
    · have h2' := V.int.inj (of_decide_eq_true h2)
      rw [CT.often_full (.inr (by omega))] at q
      exact q D H sD er
    have h16 : st.oftens.length ≠ 16 := fun z => h2 (decide_eq_true (by rw [lxo, z]; rfl))
    refine and_rest (B := (∀ a b c, ps = [a, b, c] → CW.isWord c = false) → ∀ H', Same H H' → _) ?none fun hB => ⟨_, rfl, .ref p, ps.length, rfl, .inl ⟨_, hp, by rw [List.length_map]⟩, rfl, _, rfl, ite2 (fun h3 => iteT (hB (fun a b c e => ?_) H (Same.refl _))) (fun h3 => ?_)⟩
    case none =>
      intro hz H' s'
      rw [CT.often_bad hz] at q
      exact q D H' (sD.trans s') (CT.Ext.refl' (Gr.heap sD s'))
    · rw [e, decide_eq_true (show V.int ((([a, b, c] : List Str).length : Nat) : Int) = V.int 3 from rfl)] at h3
      cases h3
    have h3' : ps.length = 3 := by
      have := fun z => h3 (by rw [decide_eq_false z]; rfl)
      have := V.int.inj (Classical.byContradiction this)
      omega
    obtain ⟨w0, w1, w2, rfl⟩ := CT.len3 h3'
    have i1 : atI ([w0, w1, w2].map V.str) 1 = some (.str w1) := rfl
    have i2 : atI ([w0, w1, w2].map V.str) 2 = some (.str w2) := rfl
    have ok1 := hok.1 w1 (List.mem_cons_of_mem _ (List.mem_cons_self ..))
    have ok2 := hok.1 w2 (List.mem_cons_of_mem _ (List.mem_cons_of_mem _ (List.mem_cons_self ..)))
    refine ⟨_, rfl, p, _, _, _, rfl, rfl, hp, i2, .inl ⟨w2, rfl, Nat.le_trans ok2.2 (by decide), fun H1 s1 => ⟨_, rfl, ?_⟩⟩⟩
    cases hw : CW.isWord w2 with
    | false => exact iteT (hB (fun _ _ _ e => by cases e; exact hw) H1 s1)
    | true =>
      refine iteF ⟨_, rfl, p, _, _, _, rfl, rfl, s1.seq hp, i1, _, _, _, rfl, Nat.le_trans ok1.2 (by decide), fun H2 s2 => ?_⟩
      have s12 := s1.trans s2
      refine ⟨_, rfl, rfl, _, rfl, ?_⟩
      cases hn : CT.readNum w1 1 9 with
      | none =>
        rw [CT.often_num hn] at q
        rw [decide_eq_true (show CT.oV none = V.non from rfl)]
        exact iteT (iteT (q D H2 (sD.trans s12) (CT.Ext.refl' (Gr.heap sD s12))))
      | some k =>
        rw [CT.often_some hst h16 hw hn] at q
        have q3 : TkPost K a.C_CourseReader N D H x dx po pg gs (if w2 ∈ st.oftens.map (fun p => p.1) then none else some { st with oftens := st.oftens ++ [(w2, k)] }) Q := q
        rw [decide_eq_false (show CT.oV (some k) ≠ V.non from fun z => nomatch z)]
        have r2 := r.gr (Gr.heap sD s12)
        refine iteF ⟨_, rfl, p, _, _, _, rfl, rfl, s12.seq hp, i2, _, rfl, x, _, dx, _, _, rfl, r2.ins, T.cls_CourseReader, T.no_CourseReader_oftens, CT.rf_o, po, rfl, ⟨_, SqL.of r2.oft⟩, fun c hc => ?_⟩
        refine comp_gr (K := K) (D := D) (sD.trans s12) hc yields_list (fun σ => ∃ v1 v2, σ = [v1, v2]) (st.oftens.map fun p => some (PyData.str p.1)) (by rw [List.length_map, lxo]) ⟨_, _, rfl⟩ (fun H' s' => SqL.of (s' _ _ r2.oft)) (by omega) ?_ ?_
        · rintro i y rr σ D3 H3 R1 R0 hy hrr ⟨v1, v2, rfl⟩ G k1 k0
          obtain ⟨pp, tp, hpp, rfl, ep⟩ := oft_at r.oftD hy
          rw [List.getElem?_map, hpp] at hrr
          obtain rfl := Option.some.inj hrr
          exact ⟨tp, _, rfl, SqT.of (G.dh _ _ (G.dd _ _ ep)), rfl, _, _, rfl, _, _, rfl, rfl, _, rfl, k1 _ _ _ D3 H3 rfl ⟨_, _, rfl⟩ (Gr.refl G.dh) DataAt.ofStr⟩
        · intro D3 H3 ys G e n hy
          have hy' : DataAll K D3 ys ((st.oftens.map fun p => p.1).map PyData.str) := by
            have : (st.oftens.map fun p => some (PyData.str p.1)).filterMap id = (st.oftens.map fun p => p.1).map PyData.str := by
              rw [List.map_map]
              generalize st.oftens = ls
              induction ls with
              | nil => rfl
              | cons a b ih => exact congrArg (_ :: ·) ih
            rw [← this]
            exact hy
          rw [DataAll.strs_eq hy'] at e
          have G3 : Gr D H D3 H3 := (Gr.heap sD s12).trans G
          have r3 := r.gr G3
          refine ⟨c, _, rfl, .inl (SqL.of e), rfl, CF.flat_strs _, _, rfl, ?_⟩
          rw [if_neg (show ¬ (false = true) by decide), inV_strs]
          refine ite2 (fun h5 => ?_) (fun h5 => ?_)
          · rw [if_pos (List.contains_iff_mem.mp h5)] at q3
            exact q3 D3 H3 G3.dh (CT.Ext.refl' G3)
          rw [if_neg (fun z => h5 (List.contains_iff_mem.mpr z))] at q3
          refine ⟨_, rfl, x, _, dx, _, _, rfl, r3.ins, T.cls_CourseReader, T.no_CourseReader_oftens, CT.rf_o, .inl ⟨rfl, _, SqL.of r3.oft⟩, _, rfl, p, _, _, _, rfl, rfl, G3.hh.seq hp, i2, _, rfl, by first | decide | (simp only [List.length_cons, List.length_nil, List.length_append, List.length_map]; decide), fun pt hpt => ?_⟩
          have G4 := Gr.lay (o := .tup [.str w2, CT.oV (some k)]) G3.dh hpt
          have r4 := r3.gr G4
          refine ⟨po, _, _, rfl, rfl, r4.oft, by omega, ?_⟩
          have dt : DataAt K (upd D3 pt (.tup [.str w2, CT.oV (some k)])) (.ref pt) (CF.oftD (w2, k)) := DataAt.mkT (DataAll.cons DataAt.ofStr (DataAll.cons DataAt.ofInt DataAll.nil)) upd_same (Same.refl _)
          have eG := CT.Ext.refl' (S := CT.radr x po pg gs) (G3.trans G4)
          exact q3 _ _ _ v gs (same_set G4.dh r4.oo) (r4.often dt) (CT.Ext.then eG (CT.Ext.set CT.mem_radr.2.1) (fun b hb => .inl hb)) (fun b hb => .inl hb)
theorem tx_end : CF.Tx 24 "end" := ⟨by decide +kernel, by decide +kernel⟩
def sp_q3 (K : PySem.W.Frag) (C : Addr) : Sp := fun vs H Q _ => ∃ x dx po pg xo v gs st N D row ps, vs = [.ref x, .str row] ∧ Same D H ∧ CT.RdrAt K C N D H x dx po pg xo v gs st ∧ (∀ b, H b = none → N b) ∧ row.length ≤ 1048576 ∧ PySem.Txt.split row " " = ps ∧ ps ≠ [] ∧ PartsOk ps ∧ CT.Fit st ∧ TkPost K C N D H x dx po pg gs (CT.RS.parts st ps) Q
theorem ok_q3 {f : Addr} {fd fd_q4 fd_q5 fd_q6 fd_q7 fd_q27 fd_q28 : FuncData} (F : Fun K "take" "CourseReader.take" s_q3 f fd) (T : Txt K mg a)
    (G_q4 : FnOk P w K mg base CX0 4 a.CourseReader_take_end fd_q4 ["self"] (sp_q4 K a.C_CourseReader)) (F_q4 : Fun K "take_end" "CourseReader.take_end" s_q4 a.CourseReader_take_end fd_q4) (b_q4 : Binds K fd_q4 ["self"] [])
    (G_q5 : FnOk P w K mg base CX0 4 a.CourseReader_take_group fd_q5 ["self", "group"] (sp_q5 K a.C_CourseReader)) (F_q5 : Fun K "take_group" "CourseReader.take_group" s_q5 a.CourseReader_take_group fd_q5) (b_q5 : Binds K fd_q5 ["self", "group"] [])
    (G_q6 : FnOk P w K mg base CX0 4 a.CourseReader_take_leaf fd_q6 ["self", "leaf"] (sp_q6 K a.C_CourseReader)) (F_q6 : Fun K "take_leaf" "CourseReader.take_leaf" s_q6 a.CourseReader_take_leaf fd_q6) (b_q6 : Binds K fd_q6 ["self", "leaf"] [])
    (G_q7 : FnOk P w K mg base CX0 4 a.CourseReader_take_often fd_q7 ["self", "parts"] (sp_q7 K a.C_CourseReader)) (F_q7 : Fun K "take_often" "CourseReader.take_often" s_q7 a.CourseReader_take_often fd_q7) (b_q7 : Binds K fd_q7 ["self", "parts"] [])
    (G_q27 : FnOk P w K mg base CX0 4 a.read_group fd_q27 ["parts"] (sp_q27 K)) (F_q27 : Fun K "read_group" "read_group" s_q27 a.read_group fd_q27) (b_q27 : Binds K fd_q27 ["parts"] [])
    (G_q28 : FnOk P w K mg base CX0 5 a.read_leaf fd_q28 ["parts"] (sp_q28 K)) (F_q28 : Fun K "read_leaf" "read_leaf" s_q28 a.read_leaf fd_q28) (b_q28 : Binds K fd_q28 ["parts"] []) : FnOk P w K mg base CX0 6 f fd ["self", "row"] (sp_q3 K a.C_CourseReader) := by
  refine F.ok sc_q3 (fun vs H Q E h => ?_) (fun cdv A outer s H vs Q E hr h => ?_)
  · obtain ⟨x, dx, po, pg, xo, v, gs, st, N, D, row, ps, rfl, _⟩ := h
    rfl
  · obtain ⟨x, dx, po, pg, xo, v, gs, st, N, D, row, ps, rfl, sD, r, hN, hrow, hsp, hne, hok, hfit, q⟩ := h
    refine ⟨_, (pss_cons (ps_if (pt_cmpR op_notN (pe_fld (pvA 0 (defScope s_q3) N_q3 rfl rfl) rfl) pe_non (nomark _)) (pss_one (ps_ret pe_bl)) pss_nil)
      (pss_cons (psN (i := 2) (sc := defScope s_q3) (M := N_q3) rfl rfl (by decide +kernel) (pe_bm PySem.F.plainAttrs_str PySem.F.slot_str_split PySem.F.type_str_split mt_split (pvA 1 (defScope s_q3) N_q3 rfl rfl) (pa_cons pe_str pa_nil)))
      (pss_cons (ps_if (pt_cmpR op_eq (pe_ix ix_list (pvA 2 (defScope s_q3) N_q3 rfl rfl) pe_int (fun _ _ => rfl)) pe_str (nomark _)) (pss_one (ps_ret (pe_meth (pvA 0 (defScope s_q3) N_q3 rfl rfl) T.cls_CourseReader T.meth_CourseReader_take_often G_q7 (hr.mono (by decide)) b_q7 .nil pass0 (pa_cons (pvA 2 (defScope s_q3) N_q3 rfl rfl) pa_nil)))) pss_nil)
      (pss_cons (ps_if (pt_cmpR op_in_seq (pe_ix ix_list (pvA 2 (defScope s_q3) N_q3 rfl rfl) pe_int (fun _ _ => rfl)) (pe_tup (pa_cons pe_str (pa_cons pe_str pa_nil))) (by with_unfolding_all rfl)) (pss_one (ps_ret (pe_meth (pvA 0 (defScope s_q3) N_q3 rfl rfl) T.cls_CourseReader T.meth_CourseReader_take_group G_q5 (hr.mono (by decide)) b_q5 .nil pass0 (pa_cons (pe_callN (sc := defScope s_q3) G_q27 (hr.mono (by decide)) rfl (by decide +kernel) T.m_q27 F_q27.kp b_q27 .nil pass0 (pa_cons (pvA 2 (defScope s_q3) N_q3 rfl rfl) pa_nil)) pa_nil)))) pss_nil)
      (pss_cons (ps_if (pt_cmpR (op_eqD (n := 60) (hu60 hr)) (pvA 2 (defScope s_q3) N_q3 rfl rfl) (pe_lst (pa_cons pe_str pa_nil)) (nomark _)) (pss_one (ps_ret (pe_meth0 (pvA 0 (defScope s_q3) N_q3 rfl rfl) T.cls_CourseReader T.meth_CourseReader_take_end G_q4 (hr.mono (by decide)) b_q4 .nil pass0))) pss_nil)
      (pss_one (ps_ret (pe_meth (pvA 0 (defScope s_q3) N_q3 rfl rfl) T.cls_CourseReader T.meth_CourseReader_take_leaf G_q6 (hr.mono (by decide)) b_q6 .nil pass0 (pa_cons (pe_callN (sc := defScope s_q3) G_q28 (hr.mono (by decide)) rfl (by decide +kernel) T.m_q28 F_q28.kp b_q28 .nil pass0 (pa_cons (pvA 2 (defScope s_q3) N_q3 rfl rfl) pa_nil)) pa_nil))))))))), ?_⟩
    have hs : sizeLine = 16777216 := sizeLine_eq
    have er : CF.Ext D H D H (CT.radr x po pg gs) := CT.Ext.refl' (Gr.refl sD)
    have hru := r.rule
    have hl : ∀ f ∈ gs, f.g.rules.length ≤ 1000 := fun f hf => Nat.le_trans (hfit.rules f.g (by rw [← r.stk]; exact List.mem_map.mpr ⟨f, hf, rfl⟩)) (by decide)
    have lgs : gs.length ≤ 6 := by
      have := hfit.stk
      rw [← r.stk, List.length_map] at this
      exact this
    refine ⟨_, rfl, x, _, dx, _, _, rfl, r.ins, T.cls_CourseReader, T.no_CourseReader_rule, CT.rf_r, rfl, _, rfl, ?_⟩
    cases hrule : st.rule with
    | some ru =>
      rw [hrule] at hru
      rw [CT.parts_done (by rw [hrule]; rfl)] at q
      obtain ⟨t, ys, rfl, _⟩ := CF.Rule.tup hru.1
      rw [decide_eq_false (show V.ref t ≠ V.non from fun z => nomatch z)]
      exact iteT (q D H sD er)
    | none =>
      rw [hrule] at hru
      have hv : v = .non := hru
      rw [decide_eq_true hv]
      refine iteF ⟨_, rfl, rfl, row, " ", rfl, rfl, by decide +kernel, hrow, fun pp hpp => ?_⟩
      rw [hsp]
      have G1 : Gr D H D (upd H pp (.lst (ps.map V.str))) := Gr.layH sD hpp
      have e1 : upd H pp (.lst (ps.map V.str)) pp = some (.lst (ps.map V.str)) := upd_same
      have hN1 : ∀ b, upd H pp (.lst (ps.map V.str)) b = none → N b := fun b hb => hN b (G1.hh.free hb)
      generalize upd H pp (.lst (ps.map V.str)) = H1 at G1 e1 hN1 ⊢
      have r1 := r.gr G1
      have q1 := q.shift G1
      obtain ⟨p0, pr, rfl⟩ : ∃ p0 pr, ps = p0 :: pr := by
        cases ps with
        | nil => exact absurd rfl hne
        | cons a b => exact ⟨a, b, rfl⟩
      have i0 : atI ((p0 :: pr).map V.str) 0 = some (.str p0) := CF.atI_zero
      refine ⟨_, rfl, pp, _, _, _, rfl, rfl, SqL.of e1, i0, rfl, _, rfl, ite2 (fun h1 => ?_) (fun h1 => ?_)⟩
      · have h1' : p0 = "often" := V.str.inj (of_decide_eq_true h1)
        rw [CT.parts_often hrule (by rw [h1']; rfl)] at q1
        exact ⟨_, rfl, x, dx, _, rfl, r1.ins, CT.rf_m (by decide +kernel), _, rfl, x, dx, po, pg, xo, v, gs, st, N, D, pp, _, rfl, G1.dh, r1, SqL.of e1, hok, hfit, q1⟩
      have no : (p0 :: pr).head? ≠ some ("often" : Str) := fun z => h1 (decide_eq_true (by rw [Option.some.inj z]))
      refine ⟨_, rfl, pp, _, _, _, rfl, rfl, SqL.of e1, i0, by first | decide | (simp only [List.length_cons, List.length_nil, List.length_append, List.length_map]; decide), fun p2 hp2 => ?_⟩
      have G2 := G1.trans (Gr.layH (o := .tup [.str "all", .str "some"]) G1.dh hp2)
      have e2 : upd H1 p2 (.tup [.str "all", .str "some"]) pp = some (.lst ((p0 :: pr).map V.str)) := (Same.upd0 hp2) _ _ e1
      have f2 : upd H1 p2 (.tup [.str "all", .str "some"]) p2 = some (.tup [.str "all", .str "some"]) := upd_same
      generalize upd H1 p2 (.tup [.str "all", .str "some"]) = H2 at G2 e2 f2 ⊢
      have r2 := r.gr G2
      have q2 := q.shift G2
      refine ⟨p2, _, rfl, .inr (SqT.of f2), rfl, rfl, _, rfl, ?_⟩
      rw [if_neg (show ¬ (false = true) by decide), show inV (V.str p0) [V.str "all", V.str "some"] = (["all", "some"] : List Str).contains p0 from inV_strs p0 ["all", "some"]]
      refine ite2 (fun h2 => ?_) (fun h2 => ?_)
      · have h2' := List.contains_iff_mem.mp h2
        have hg : (p0 :: pr).head? = some ("all" : Str) ∨ (p0 :: pr).head? = some ("some" : Str) := by
          simp only [List.mem_cons, List.not_mem_nil, or_false] at h2'
          rcases h2' with rfl | rfl
          · exact .inl rfl
          · exact .inr rfl
        rw [CT.parts_group hrule no hg] at q2
        refine ⟨_, rfl, x, dx, _, rfl, r2.ins, CT.rf_m (by decide +kernel), _, rfl, pp, _, rfl, SqL.of e2, .inl e2, hok, fun y H3 s3 hy => ?_⟩
        have G3 := G2.then s3
        have r3 := r.gr G3
        have q3 := q2.shift (Gr.heap G2.dh s3)
        refine ⟨x, dx, po, pg, xo, v, gs, st, N, D, y, CT.readGroup (p0 :: pr), rfl, G3.dh, r3, by omega, fun z => ?_, fun g z => ?_, fun z => ?_, fun s' t p g z1 z2 z3 z4 H' sH' r' e' => ?_⟩
        · rw [z] at hy
          exact hy
        · rw [z] at hy
          obtain ⟨t, p, rfl, ntp, nt, np, et, ep⟩ := hy
          refine ⟨t, p, rfl, et, ep, free_of G2.dh nt, free_of G2.dh np, hN t (G2.hh.free nt), hN p (G2.hh.free np), fun b hb w => ?_⟩
          obtain ⟨o, eb⟩ := radr_some r2 hb
          rw [← w, np] at eb
          cases eb
        · rw [z] at q3
          exact q3 D H3 G3.dh (CT.Ext.refl' (Gr.refl G3.dh))
        · rw [z1] at q2
          rw [z2] at hy
          obtain ⟨t', p', e1', ntp, nt, np, et, ep⟩ := hy
          rw [z3] at e1'
          cases e1'
          have epp : p = p' := by
            have e3 := z4.symm.trans et
            have e4 := congrArg List.getLast? (HO.tup.inj (Option.some.inj e3))
            rw [List.getLast?_concat, List.getLast?_concat] at e4
            exact V.ref.inj (Option.some.inj e4)
          refine q2 D H' xo v _ sH' r' (CT.Ext.then (CT.Ext.refl' (Gr.heap G2.dh s3)) e' (fun b hb => .inl hb)) (fun b hb => ?_)
          unfold CT.radr at hb ⊢
          simp only [List.mem_cons, List.mem_append, List.map_cons] at hb ⊢
          rcases hb with h | h | h | (h | h) | (h | h)
          · exact .inl (.inl h)
          · exact .inl (.inr (.inl h))
          · exact .inl (.inr (.inr (.inl h)))
          · exact .inr (by rw [h, epp]; exact np)
          · exact .inl (.inr (.inr (.inr (.inl h))))
          · exact .inr (by rw [h]; exact nt)
          · exact .inl (.inr (.inr (.inr (.inr h))))
      have ng : ¬ ((p0 :: pr).head? = some ("all" : Str) ∨ (p0 :: pr).head? = some ("some" : Str)) := fun z => h2 (List.contains_iff_mem.mpr (by
        simp only [List.mem_cons, List.not_mem_nil, or_false]
        exact z.imp Option.some.inj Option.some.inj))
      refine ⟨_, rfl, by first | decide | (simp only [List.length_cons, List.length_nil, List.length_append, List.length_map]; decide), fun p3 hp3 => ?_⟩
      have G3 := G2.trans (Gr.layH (o := .lst [.str "end"]) G2.dh hp3)
      have e3 : upd H2 p3 (.lst [.str "end"]) pp = some (.lst ((p0 :: pr).map V.str)) := (Same.upd0 hp3) _ _ e2
      have f3 : upd H2 p3 (.lst [.str "end"]) p3 = some (.lst ((["end"] : List Str).map V.str)) := upd_same
      generalize upd H2 p3 (.lst [.str "end"]) = H3 at G3 e3 f3 ⊢
      have r3 := r.gr G3
      have q3 := q.shift G3
      refine ⟨.list ((p0 :: pr).map .str), .list ((["end"] : List Str).map .str), DataAt.mkL (DataAll.strs _) e3 (Same.refl _), DataAt.mkL (DataAll.strs _) f3 (Same.refl _), lay_parts hok, CF.lay_strs (fun t ht => by rw [List.mem_singleton.mp ht]; exact tx_end), ?_, _, rfl, ?_⟩
      · show min _ (PyData.depthAll ((["end"] : List Str).map .str) + 1) ≤ 60
        rw [CF.depth_strs]
        omega
      rw [CT.eqv_strs]
      refine ite2 (fun h4 => ?_) (fun h4 => ?_)
      · rw [CT.parts_end hrule (of_decide_eq_true h4)] at q3
        exact ⟨_, rfl, x, dx, _, rfl, r3.ins, CT.rf_m (by decide +kernel), x, dx, po, pg, xo, v, gs, st, N, D, rfl, G3.dh, r3, hl, q3⟩
      · rw [CT.parts_leaf hrule no ng (fun z => h4 (decide_eq_true z))] at q3
        refine ⟨_, rfl, x, dx, _, rfl, r3.ins, CT.rf_m (by decide +kernel), _, rfl, pp, _, D, rfl, G3.dh, SqL.of e3, hok, fun y D4 H4 G4 hy => ?_⟩
        have r4 := r3.gr G4
        exact ⟨x, dx, po, pg, xo, v, gs, st, N, D4, y, _, rfl, G4.dh, r4, hy, hl, q3.shift G4⟩
def sp_q0 (K : PySem.W.Frag) (C : Addr) : Sp := fun vs H Q _ => ∃ x dx D, ∃ N : Addr → Prop, vs = [.ref x] ∧ Same D H ∧ H x = some (.ins C dx []) ∧ D x = none ∧ (∀ b, H b = none → N b) ∧ N x ∧ ∀ H' po pg, (∀ b o, b ≠ x → H b = some o → H' b = some o) → Same D H' → H po = none → H pg = none → CT.RdrAt K C N D H' x dx po pg [] .non [] CT.RS.new → Q .non H'
theorem ok_q0 {f : Addr} {fd : FuncData} (F : Fun K "__init__" "CourseReader.__init__" s_q0 f fd) (T : Txt K mg a) : FnOk P w K mg base CX0 1 f fd ["self"] (sp_q0 K a.C_CourseReader) := by
  refine F.ok sc_q0 (fun vs H Q E h => ?_) (fun cdv A outer s H vs Q E hr h => ?_)
  · obtain ⟨x, dx, D, N, rfl, _⟩ := h
    rfl
  · obtain ⟨x, dx, D, N, rfl, sD, hx, nx, hN, nNx, q⟩ := h
    refine ⟨_, (pss_cons (ps_fld (pvA 0 (defScope s_q0) N_q0 rfl rfl) (pe_lst pa_nil) rfl)
      (pss_cons (ps_fld (pvA 0 (defScope s_q0) N_q0 rfl rfl) (pe_lst pa_nil) rfl)
      (pss_cons (ps_fld (pvA 0 (defScope s_q0) N_q0 rfl rfl) pe_int rfl)
      (pss_one (ps_fld (pvA 0 (defScope s_q0) N_q0 rfl rfl) pe_non rfl))))), ?_⟩
    have hs : sizeLine = 16777216 := sizeLine_eq
    refine ⟨by first | decide | (simp only [List.length_cons, List.length_nil, List.length_append, List.length_map]; decide), fun po hpo => ⟨_, rfl, x, _, dx, _, rfl, (Same.upd0 hpo) _ _ hx, T.cls_CourseReader, T.no_CourseReader_oftens, by show 0 < 1000; decide, ?_⟩⟩
    have nxo : x ≠ po := ne_of_none hx hpo
    refine ⟨by first | decide | (simp only [List.length_cons, List.length_nil, List.length_append, List.length_map]; decide), fun pg hpg => ⟨_, rfl, x, _, dx, _, rfl, (Same.upd0 hpg) _ _ upd_same, T.cls_CourseReader, T.no_CourseReader_groups, by show 1 < 1000; decide, ?_⟩⟩
    have npgx : pg ≠ x := fun z => by rw [z, upd_same] at hpg; cases hpg
    have hpg1 : H pg = none := by
      rw [upd_ne npgx] at hpg
      exact (Same.upd0 hpo).free hpg
    have npgo : pg ≠ po := fun z => by
      rw [z, upd_ne nxo.symm, upd_same] at hpg
      cases hpg
    refine ⟨_, rfl, x, _, dx, _, rfl, upd_same, T.cls_CourseReader, T.no_CourseReader_leaves, by show 2 < 1000; decide, ?_⟩
    refine ⟨_, rfl, x, _, dx, _, rfl, upd_same, T.cls_CourseReader, T.no_CourseReader_rule, by show 3 < 1000; decide, ?_⟩
    have ef : putF "rule" .non (putF "leaves" (.int 0) (putF "groups" (.ref pg) (putF "oftens" (.ref po) []))) = CT.rf po pg 0 .non := by
      rw [show putF ("oftens" : Str) (V.ref po) [] = ([("oftens", V.ref po)] : List (Str × V)) from rfl]
      rw [CT.putF_miss CT.nm1.1, show putF ("groups" : Str) (V.ref pg) [] = ([("groups", V.ref pg)] : List (Str × V)) from rfl]
      rw [CT.putF_miss CT.nm1.2.1, CT.putF_miss CT.nm1.2.2.1, show putF ("leaves" : Str) (V.int 0) [] = ([("leaves", V.int 0)] : List (Str × V)) from rfl]
      rw [CT.putF_miss CT.nm1.2.2.2.1, CT.putF_miss CT.nm1.2.2.2.2.1, CT.putF_miss CT.nm1.2.2.2.2.2, show putF ("rule" : Str) V.non [] = ([("rule", V.non)] : List (Str × V)) from rfl]
      rfl
    rw [ef]
    generalize hH' : upd (upd (upd (upd (upd (upd H po (.lst [])) x _) pg (.lst [])) x _) x _) x (HO.ins a.C_CourseReader dx (CT.rf po pg 0 .non)) = H'
    have ex : H' x = some (.ins a.C_CourseReader dx (CT.rf po pg 0 .non)) := by rw [← hH']; exact upd_same
    have eo : H' po = some (.lst []) := by rw [← hH', upd_ne nxo.symm, upd_ne nxo.symm, upd_ne nxo.symm, upd_ne npgo.symm, upd_ne nxo.symm]; exact upd_same
    have eg : H' pg = some (.lst []) := by rw [← hH', upd_ne npgx, upd_ne npgx, upd_ne npgx]; exact upd_same
    have keep : ∀ b o, b ≠ x → H b = some o → H' b = some o := fun b o hb e => by
      have hbo : b ≠ po := ne_of_none e hpo
      have hbg : b ≠ pg := ne_of_none e hpg1
      rw [← hH', upd_ne hb, upd_ne hb, upd_ne hb, upd_ne hbg, upd_ne hb, upd_ne hbo]
      exact e
    have sD' : Same D H' := fun b o e => keep b o (fun z => by rw [z, nx] at e; cases e) (sD _ _ e)
    refine q H' po pg keep sD' hpo hpg1 ⟨ex, eo, DataAll.nil, eg, (fun f hf => nomatch hf), rfl, ?_, rfl, nx, free_of sD hpo, free_of sD hpg1, nNx, hN _ hpo, hN _ hpg1⟩
    exact List.nodup_cons.mpr ⟨fun z => npgo (List.mem_singleton.mp z).symm, List.nodup_cons.mpr ⟨(fun z => nomatch z), List.nodup_nil⟩⟩
def RowsOk (rows : List Str) : Prop := rows.length ≤ 100000 ∧ ∀ row ∈ rows, row.length ≤ 1048576 ∧ PySem.Txt.split row " " ≠ [] ∧ PartsOk (PySem.Txt.split row " ")
theorem radr_new {C : Addr} {N : Addr → Prop} {D H : Hp} {x dx po pg : Addr} {xo : List V} {v : V} {gs : List CT.GFr} {s : CT.RS} (r : CT.RdrAt K C N D H x dx po pg xo v gs s) {b : Addr} (hb : b ∈ CT.radr x po pg gs) : N b := by
  unfold CT.radr at hb
  rcases List.mem_cons.mp hb with rfl | hb
  · exact r.nx
  rcases List.mem_cons.mp hb with rfl | hb
  · exact r.no
  rcases List.mem_cons.mp hb with rfl | hb
  · exact r.ng
  rcases List.mem_append.mp hb with hb | hb
  · obtain ⟨g, hg, rfl⟩ := List.mem_map.mp hb
    exact (r.each g hg).np
  · obtain ⟨g, hg, rfl⟩ := List.mem_map.mp hb
    exact (r.each g hg).nt
def sp_q26 (K : PySem.W.Frag) : Sp := fun vs H Q _ => ∃ t rows D sf ru, vs = [.str t] ∧ Same D H ∧ t.length ≤ 1048576 ∧ PySem.Txt.split t "\n" = rows ∧ RowsOk rows ∧ CT.run CT.RS.new rows = some sf ∧ sf.rule = some ru ∧
  ∀ D' H' tt po xo y, Gr D H D' H' → D' tt = some (.tup [.ref po, y]) → D' po = some (.lst xo) → H po = none → DataAll K D' xo (sf.oftens.map CF.oftD) → DataAt K D' y ru.data → (ru.isLeaf = false → ∃ ty p xs, y = .ref ty ∧ D' ty = some (.tup (ru.head ++ [.ref p])) ∧ D' p = some (.lst xs) ∧ H p = none) → Q (.ref tt) H'
theorem ok_q26 {f : Addr} {fd fd_q0 fd_q3 : FuncData} (F : Fun K "read_course" "read_course" s_q26 f fd) (T : Txt K mg a)
    (G_q0 : FnOk P w K mg base CX0 1 a.CourseReader___init__ fd_q0 ["self"] (sp_q0 K a.C_CourseReader)) (F_q0 : Fun K "__init__" "CourseReader.__init__" s_q0 a.CourseReader___init__ fd_q0) (b_q0 : Binds K fd_q0 ["self"] [])
    (G_q3 : FnOk P w K mg base CX0 6 a.CourseReader_take fd_q3 ["self", "row"] (sp_q3 K a.C_CourseReader)) (F_q3 : Fun K "take" "CourseReader.take" s_q3 a.CourseReader_take fd_q3) (b_q3 : Binds K fd_q3 ["self", "row"] []) : FnOk P w K mg base CX0 8 f fd ["text"] (sp_q26 K) := by
  refine F.ok sc_q26 (fun vs H Q E h => ?_) (fun cdv A outer s H vs Q E hr h => ?_)
  · obtain ⟨t, rows, D, sf, ru, rfl, _⟩ := h
    rfl
  · obtain ⟨t, rows, D, sf, ru, rfl, sD, ht, hsp, hrows, hrun, hru, q⟩ := h
    refine ⟨_, (pss_cons (psN (i := 1) (sc := defScope s_q26) (M := N_q26) rfl rfl (by decide +kernel) (pe_make0 T.mk_CourseReader G_q0 (hr.mono (by decide)) (glR (sc := defScope s_q26) rfl (by decide +kernel)) T.m_CourseReader b_q0 .nil pass0))
      (pss_cons (psN (i := 2) (sc := defScope s_q26) (M := N_q26) rfl rfl (by decide +kernel) (pe_bm PySem.F.plainAttrs_str PySem.F.slot_str_split PySem.F.type_str_split mt_split (pvA 0 (defScope s_q26) N_q26 rfl rfl) (pa_cons pe_str pa_nil)))
      (pss_cons (ps_for PassesOwn.never rfl (pi_enumS (glR (sc := defScope s_q26) rfl (by decide +kernel)) T.z_enumerate (pa_cons (pvA 2 (defScope s_q26) N_q26 rfl rfl) pa_nil) (pk_cons pe_int pk_nil)) (pg_tup (n := 2) (by rfl) (pgs_cons (pgN (i := 3) (sc := defScope s_q26) (M := N_q26) rfl rfl (by decide +kernel)) (pgs_cons (pgN (i := 4) (sc := defScope s_q26) (M := N_q26) rfl rfl (by decide +kernel)) pgs_nil))) (pss_one (ps_if (pt_not (pt_val (pe_meth (pvA 1 (defScope s_q26) N_q26 rfl rfl) T.cls_CourseReader T.meth_CourseReader_take G_q3 (hr.mono (by decide)) b_q3 .nil pass0 (pa_cons (pvA 4 (defScope s_q26) N_q26 rfl rfl) pa_nil)))) (pss_one ps_never) pss_nil)))
      (pss_cons (ps_if (pt_cmpR op_isN (pe_fld (pvA 1 (defScope s_q26) N_q26 rfl rfl) rfl) pe_non (nomark _)) (pss_one ps_never) pss_nil)
      (pss_one (ps_ret (pe_tup (pa_cons (pe_fld (pvA 1 (defScope s_q26) N_q26 rfl rfl) rfl) (pa_cons (pe_fld (pvA 1 (defScope s_q26) N_q26 rfl rfl) rfl) pa_nil))))))))), ?_⟩
    have hs : sizeLine = 16777216 := sizeLine_eq
    intro x dx hx hdx hne
    have nN : ∀ b, upd (upd H dx (.own x)) x (.ins a.C_CourseReader dx []) b = none → H b = none := fun b hb => by
      have h1 : b ≠ x := fun z => by rw [z, upd_same] at hb; cases hb
      have h2 : b ≠ dx := fun z => by rw [upd_ne h1, z, upd_same] at hb; cases hb
      rw [upd_ne h1, upd_ne h2] at hb
      exact hb
    have s0 : Same H (upd (upd H dx (.own x)) x (.ins a.C_CourseReader dx [])) := (Same.upd0 hdx).trans (Same.upd0 (by rw [upd_ne hne.symm]; exact hx))
    refine ⟨x, dx, D, (fun b => H b = none), rfl, sD.trans s0, upd_same, free_of sD hx, nN, hx, fun H1 po pg keep s1 hpo hpg r1 => ⟨rfl, ?_⟩⟩
    have G1 : Gr D H D H1 := ⟨Same.refl _, fun b o e => keep b o (fun z => by rw [z, hx] at e; cases e) (s0 b o e), s1, fun _ _ _ n => n⟩
    clear s0 keep s1
    refine ⟨_, rfl, rfl, t, "\n", rfl, rfl, by decide +kernel, ht, fun pr hpr => ?_⟩
    rw [hsp]
    have G2 := G1.trans (Gr.layH (o := .lst (rows.map V.str)) G1.dh hpr)
    have e2 : upd H1 pr (.lst (rows.map V.str)) pr = some (.lst (rows.map V.str)) := upd_same
    have r2 := r1.gr (Gr.layH (o := .lst (rows.map V.str)) G1.dh hpr)
    have nr : pr ∉ CT.radr x po pg [] := fun z => by
      obtain ⟨o, e⟩ := radr_some r1 z
      rw [hpr] at e
      cases e
    have npr : H pr = none := G1.hh.free hpr
    generalize upd H1 pr (.lst (rows.map V.str)) = H2 at G2 e2 r2 ⊢
    refine ⟨_, rfl, pr, 1, rfl, rfl, by decide, ⟨_, SqL.of e2⟩, ?_⟩
    refine L5.for_enum (xs := rows.map V.str) (fun i σ H' => ∃ D' xo v gs st v3 v4, σ = [some (.str t), some (.ref x), some (.ref pr), v3, v4] ∧ CT.RdrAt K a.C_CourseReader (fun b => H b = none) D' H' x dx po pg xo v gs st ∧ CT.run st (rows.drop i) = some sf ∧ Gr D H D' H' ∧ H' pr = some (.lst (rows.map V.str)) ∧ D' pr = none ∧ CT.Fit st ∧ pr ∉ CT.radr x po pg gs) ⟨D, [], .non, [], CT.RS.new, _, _, rfl, r2, hrun, G2, e2, free_of sD npr, CT.fit_new, nr⟩ ?_ ?_ ?_
    · rintro i σ H' _ ⟨D', xo, v, gs, st, v3, v4, _, _, _, _, e, _⟩
      exact SqL.of e
    · rintro i y σ H3 Tt hy ⟨D3, xo, v, gs, st, v3, v4, rfl, r3, hr3, G3, e3, n3, fit3, nr3⟩ hTt
      rw [List.getElem?_map] at hy
      obtain ⟨row, hrow, rfl⟩ := Option.map_eq_some_iff.mp hy
      have hi := List.getElem?_eq_some_iff.mp hrow
      have ed : rows.drop i = row :: rows.drop (i + 1) := by rw [List.drop_eq_getElem_cons hi.1, hi.2]
      rw [ed] at hr3
      obtain ⟨ok1, ok2, ok3⟩ := hrows.2 row (List.mem_of_getElem? hrow)
      have G4 := Gr.layH (o := .tup [.int (1 + (i : Nat)), .str row]) G3.dh hTt
      have r4 := r3.gr G4
      have e4 := G4.hh _ _ e3
      have G34 := G3.trans G4
      have hN4 : ∀ b, upd H3 Tt (.tup [.int (1 + (i : Nat)), .str row]) b = none → H b = none := fun b hb => G34.hh.free hb
      have tupT : upd H3 Tt (.tup [.int (1 + (i : Nat)), .str row]) Tt = some (.tup [.int (1 + (i : Nat)), .str row]) := upd_same
      generalize upd H3 Tt (.tup [.int (1 + (i : Nat)), .str row]) = H4 at G4 r4 e4 G34 hN4 tupT ⊢
      obtain ⟨s', hs', hrun'⟩ : ∃ s', CT.RS.parts st (PySem.Txt.split row " ") = some s' ∧ CT.run s' (rows.drop (i + 1)) = some sf := by
        have hr3' : (match CT.RS.take st row with | none => none | some s' => CT.run s' (rows.drop (i + 1))) = some sf := hr3
        cases hz : CT.RS.take st row with
        | none => rw [hz] at hr3'; cases hr3'
        | some s' => rw [hz] at hr3'; exact ⟨s', hz, hr3'⟩
      refine ⟨Tt, _, rfl, SqT.of tupT, rfl, _, _, rfl, _, _, rfl, rfl, ?_⟩
      refine ⟨_, rfl, x, dx, _, rfl, r4.ins, CT.rf_m (by decide +kernel), _, rfl, x, dx, po, pg, xo, v, gs, st, (fun b => H b = none), D3, row, _, rfl, G4.dh, r4, hN4, ok1, rfl, ok2, ok3, fit3, ?_⟩
      rw [hs']
      intro D5 H5 xo5 v5 gs5 s5 r5 e5 hn5
      have keep5 := e5.keep pr _ nr3 e4
      refine ⟨_, rfl, iteF ⟨D5, xo5, v5, gs5, s', _, _, rfl, r5, hrun', CF.Ext.gr G34 e5 s5 (fun b hb => radr_new r4 hb), keep5.1, keep5.2 n3, CT.fit_parts fit3 hs', fun z => ?_⟩⟩
      rcases hn5 pr z with w | w
      · exact nr3 w
      · rw [e4] at w
        cases w
    · rintro σ H3 ⟨D3, xo, v, gs, st, v3, v4, rfl, r3, hr3, G3, e3, n3, fit3, nr3⟩
      rw [List.length_map, List.drop_length] at hr3
      have est : st = sf := Option.some.inj hr3
      subst est
      have hrl := r3.rule
      rw [hru] at hrl
      obtain ⟨dv, fv⟩ := hrl
      obtain ⟨tv, yv, rfl, _⟩ := CF.Rule.tup dv
      refine ⟨_, rfl, x, _, dx, _, _, rfl, r3.ins, T.cls_CourseReader, T.no_CourseReader_rule, CT.rf_r, rfl, _, rfl, ?_⟩
      rw [decide_eq_false (show V.ref tv ≠ V.non from fun z => nomatch z)]
      refine iteF ⟨_, rfl, x, _, dx, _, _, rfl, r3.ins, T.cls_CourseReader, T.no_CourseReader_oftens, CT.rf_o, _, rfl, x, _, dx, _, _, rfl, r3.ins, T.cls_CourseReader, T.no_CourseReader_rule, CT.rf_r, by first | decide | (simp only [List.length_cons, List.length_nil, List.length_append, List.length_map]; decide), fun tt htt => ?_⟩
      have G4 := G3.fix r3.no r3.oo r3.oft
      have G5 := G4.trans (Gr.lay (o := .tup [.ref po, .ref tv]) G4.dh htt)
      have so : Same D3 (upd D3 po (.lst xo)) := Same.upd0 r3.oo
      have nt4 := free_of G4.dh htt
      have st4 : Same (upd D3 po (.lst xo)) (upd (upd D3 po (.lst xo)) tt (.tup [.ref po, .ref tv])) := Same.upd0 nt4
      refine q _ _ tt po xo (.ref tv) G5 upd_same (st4 _ _ upd_same) r3.no (DataAll.up r3.oftD (so.trans st4)) (DataAt.up dv (so.trans st4)) (fun z => ?_)
      obtain ⟨ty, p, xs, ey, et, ep, np⟩ := fv z
      exact ⟨ty, p, xs, ey, (so.trans st4) _ _ et, (so.trans st4) _ _ ep, np⟩
theorem course_tup {D : Hp} {x : V} {c : CF.Course} (h : DataAt K D x c.data) : ∃ t po y, x = .ref t ∧ D t = some (.tup [.ref po, y]) ∧ (∃ xs, Rd D po (.lst xs) ∧ DataAll K D xs (c.oftens.map CF.oftD)) ∧ True ∧ DataAt K D y c.rule.data := by
  obtain ⟨t, xs, rfl, e, hA⟩ := DataAt.tup h
  obtain ⟨y1, r1, rfl, h1, hA⟩ := DataAll.uncons hA
  obtain ⟨y2, r2, rfl, h2, hA⟩ := DataAll.uncons hA
  rw [DataAll.none hA] at e
  obtain ⟨p, zs, rfl, hp, hz⟩ := DataAt.lst h1
  exact ⟨t, p, y2, rfl, e, ⟨zs, hp, hz⟩, trivial, h2⟩
theorem join_ok {sep : Str} {l : List Str} (h : ∀ r ∈ l, r.length ≤ 2000) (hl : l.length ≤ 1000) (hsep : sep.length ≤ 4) : JoinOk sep l = true := by
  unfold JoinOk
  rw [StrLaws.joinFits (B := 2000)]
  · rfl
  · exact h
  · have : l.length * (2000 + sep.length) ≤ 1000 * 2004 := Nat.mul_le_mul hl (by omega)
    first | omega | (rw [Nat.mul_add] at this; omega)
theorem num_log {n : Int} (h0 : 0 ≤ n) (h1 : n < 10 ^ 60) : n.natAbs.log2 < 1920 := log_small h0 h1
theorem keys_at {l : CF.Leaf} (T : Txt K mg a) : ∃ ak, KTD.datumAt (CT.Leaf.kind' l) ([("from", V.ref a.k_KEYS_0), ("of", V.ref a.k_KEYS_1)] : List (Str × V)) = some (.ref ak) ∧ ∀ H, SqT K H ak ((CT.keyNums l).map fun p => V.str p.1) := by
  cases l with
  | frm n ws a' b c => exact ⟨a.k_KEYS_0, by simp [KTD.datumAt, CT.Leaf.kind'], T.l_KEYS_0⟩
  | off n ws b c => exact ⟨a.k_KEYS_1, by simp [KTD.datumAt, CT.Leaf.kind', CT.from_ne], T.l_KEYS_1⟩
def sp_q35 (K : PySem.W.Frag) : Sp := fun vs H Q _ => ∃ (x : V) (l : CF.Leaf), vs = [x] ∧ DataAt K H x l.data ∧ l.Good ∧ ∀ H', Same H H' → Q (.str (CT.leafRow l)) H'
theorem ok_q35 {f : Addr} {fd : FuncData} (F : Fun K "show_leaf" "show_leaf" s_q35 f fd) (T : Txt K mg a) : FnOk P w K mg base CX0 1 f fd ["leaf"] (sp_q35 K) := by
  have k_KEYS := T.k_KEYS
  have k_LEFT_OUT := T.k_LEFT_OUT
  refine F.ok sc_q35 (fun vs H Q E h => ?_) (fun cdv A outer s H vs Q E hr h => ?_)
  · obtain ⟨x, l, rfl, _⟩ := h
    rfl
  · obtain ⟨x, l, rfl, hx, hg, q⟩ := h
    refine ⟨_, (pss_cons (psN (i := 1) (sc := defScope s_q35) (M := N_q35) rfl rfl (by decide +kernel) (pe_lst (pa_cons (pe_callTyN (sc := defScope s_q35) call_str_int rfl (by decide +kernel) T.z_str bt_str (pa_cons (pe_ix ix_tup (pvA 0 (defScope s_q35) N_q35 rfl rfl) pe_int (fun _ _ => rfl)) pa_nil)) (pa_cons (pe_ix ix_tup (pvA 0 (defScope s_q35) N_q35 rfl rfl) pe_int (fun _ _ => rfl)) (pa_cons (pe_ifExp (pt_cmpR op_gt (pe_callBN (sc := defScope s_q35) call_len rfl (by decide +kernel) T.z_len bt_len (pa_cons (pe_ix ix_tup (pvA 0 (defScope s_q35) N_q35 rfl rfl) pe_int (fun _ _ => rfl)) pa_nil)) pe_int (nomark _)) (pe_bm PySem.F.plainAttrs_str PySem.F.slot_str_join PySem.F.type_str_join mt_join pe_str (pa_cons (pe_ix ix_tup (pvA 0 (defScope s_q35) N_q35 rfl rfl) pe_int (fun _ _ => rfl)) pa_nil)) pe_str) pa_nil)))))
      (pss_cons (ps_for PassesOwn.never rfl (L5.pi_zip (glR (sc := defScope s_q35) rfl (by decide +kernel)) T.z_zip (pa_cons (L9.pe_kget (pe_globN (v := V.ref a.k_KEYS) (sc := defScope s_q35) rfl (by decide +kernel) k_KEYS rfl) (pe_ix ix_tup (pvA 0 (defScope s_q35) N_q35 rfl rfl) pe_int (fun _ _ => rfl)) (fun _ _ => rfl)) (pa_cons (pe_slice sl_tup (pvA 0 (defScope s_q35) N_q35 rfl rfl) (po_some pe_int) po_none) pa_nil))) (pg_tup (n := 2) (by rfl) (pgs_cons (pgN (i := 2) (sc := defScope s_q35) (M := N_q35) rfl rfl (by decide +kernel)) (pgs_cons (pgN (i := 3) (sc := defScope s_q35) (M := N_q35) rfl rfl (by decide +kernel)) pgs_nil))) (pss_one (ps_if (pt_cmpR op_ne (pvA 3 (defScope s_q35) N_q35 rfl rfl) (L9.pe_kget (pe_globN (v := V.ref a.k_LEFT_OUT) (sc := defScope s_q35) rfl (by decide +kernel) k_LEFT_OUT rfl) (pvA 2 (defScope s_q35) N_q35 rfl rfl) (fun _ _ => rfl)) (nomark _)) (pss_one (ps_expr (pe_bm PySem.F.plainAttrs_list PySem.F.slot_list_extend PySem.F.type_list_extend mt_extend (pvA 1 (defScope s_q35) N_q35 rfl rfl) (pa_cons (pe_lst (pa_cons (pvA 2 (defScope s_q35) N_q35 rfl rfl) (pa_cons (pe_callTyN (sc := defScope s_q35) call_str_int rfl (by decide +kernel) T.z_str bt_str (pa_cons (pvA 3 (defScope s_q35) N_q35 rfl rfl) pa_nil)) pa_nil))) pa_nil)))) pss_nil)))
      (pss_one (ps_ret (pe_bm PySem.F.plainAttrs_str PySem.F.slot_str_join PySem.F.type_str_join mt_join pe_str (pa_cons (pvA 1 (defScope s_q35) N_q35 rfl rfl) pa_nil)))))), ?_⟩
    have hs : sizeLine = 16777216 := sizeLine_eq
    obtain ⟨t, p, rfl, et, ep⟩ := CF.Leaf.tup hx
    have hw := CT.want_ok hg
    have hwd := CT.words_good hg
    have et' := et
    rw [CT.hd_is] at et'
    have i0 : atI (V.str (CT.Leaf.kind' l) :: .int (CT.Leaf.want l) :: V.ref p :: l.tl) 0 = some (.str (CT.Leaf.kind' l)) := CF.atI_zero
    have i1 : atI (V.str (CT.Leaf.kind' l) :: .int (CT.Leaf.want l) :: V.ref p :: l.tl) 1 = some (.int (CT.Leaf.want l)) := atI_nat (j := 1) rfl
    have i2 : atI (V.str (CT.Leaf.kind' l) :: .int (CT.Leaf.want l) :: V.ref p :: l.tl) 2 = some (.ref p) := atI_nat (j := 2) rfl
    have hS : SqL K H p (l.words.map V.str) := .inl ep
    have lw : l.words.length ≤ 8 := hwd.2.2
    have lw1 : l.words.length ≤ 1000 := by omega
    have wl : ∀ r ∈ l.words, r.length ≤ 2000 := fun r hr => by have := (CW.isWord_iff.mp (hwd.1 r hr)).2.1; omega
    obtain ⟨ak, ek, hk⟩ := keys_at (K := K) (mg := mg) (l := l) T
    have kn := CT.keyNums_ok hg
    have kl := CT.keyNums_len l
    refine ⟨_, rfl, t, _, _, _, rfl, rfl, SqT.of et', i1, _, rfl, num_log hw.1 (CT.lt_big hw.2), _, rfl, t, _, _, _, rfl, rfl, SqT.of et', i0, _, rfl, t, _, _, _, rfl, rfl, SqT.of et', i2, .ref p, l.words.length, rfl, .inl ⟨_, hS, by rw [List.length_map]⟩, _, _, rfl, rfl, _, rfl, ?_⟩
    refine and_rest (B := ?B) ?main fun hM => ite2 (fun z => ?t) (fun z => ?e)
    case t =>
      have hne : l.words ≠ [] := fun w => by rw [w] at z; exact absurd z (by decide)
      have e : PySem.Txt.join " or " l.words = CT.orText l.words := by
        unfold CT.orText
        rw [if_neg hne, txt_join]
      refine ⟨rfl, _, rfl, t, _, _, _, rfl, rfl, SqT.of et', i2, " or ", p, l.words, rfl, rfl, hS, join_ok wl lw1 (by decide +kernel), ?_⟩
      rw [e]
      exact hM
    case e =>
      have hnil : l.words = [] := List.eq_nil_of_length_eq_zero (by
        have hh : ¬ (0 : Int) < (l.words.length : Nat) := fun w => z (decide_eq_true w)
        omega)
      have e : ("any" : Str) = CT.orText l.words := by
        unfold CT.orText
        rw [if_pos hnil]
      rw [e]
      exact hM
    case main =>
      refine ⟨by first | decide | (simp only [List.length_cons, List.length_nil, List.length_append, List.length_map]; decide), fun ps hps => ?_⟩
      have e0 : upd H ps (.lst [V.str (toString (CT.Leaf.want l) : String), V.str (CT.Leaf.kind' l), V.str (CT.orText l.words)]) ps = some (.lst (([CT.num (CT.Leaf.want l), CT.Leaf.kind' l, CT.orText l.words] : List Str).map V.str)) := upd_same
      have s0 := Same.upd0 (o := .lst [V.str (toString (CT.Leaf.want l) : String), V.str (CT.Leaf.kind' l), V.str (CT.orText l.words)]) hps
      generalize upd H ps (.lst [V.str (toString (CT.Leaf.want l) : String), V.str (CT.Leaf.kind' l), V.str (CT.orText l.words)]) = H1 at e0 s0 ⊢
      refine ⟨_, rfl, t, _, _, _, rfl, rfl, SqT.of (s0 _ _ et'), i0, a.k_KEYS, _, _, _, rfl, rfl, T.l_KEYS, ek, _, rfl, _, rfl, t, _, rfl, SqT.of (s0 _ _ et), CF.Leaf.nw3 l _, fun p3 hp3 => ?_⟩
      rw [CF.Leaf.cut3]
      have s1 := s0.trans (Same.upd0 (o := .tup l.tl) hp3)
      have e1 : upd H1 p3 (.tup l.tl) p3 = some (.tup l.tl) := upd_same
      have f1 : upd H1 p3 (.tup l.tl) ps = _ := (Same.upd0 hp3) _ _ e0
      generalize upd H1 p3 (.tup l.tl) = H2 at s1 e1 f1 ⊢
      refine ⟨ak, p3, rfl, ⟨_, hk _⟩, ⟨_, SqT.of e1⟩, ?_⟩
      have np3 : p3 ≠ ps := ne_of e1 f1 (fun z => nomatch z)
      refine L5.for_zip (xs := (CT.keyNums l).map fun p => V.str p.1) (ys := l.tl) (fun i σ H' => ∃ v2 v3, σ = [some (.ref t), some (.ref ps), v2, v3] ∧ Same H H' ∧ H' p3 = some (.tup l.tl) ∧ H' ps = some (.lst (([CT.num (CT.Leaf.want l), CT.Leaf.kind' l, CT.orText l.words] ++ ((CT.keyNums l).take i).flatMap fun p => CT.keyParts p.1 p.2).map V.str)) ∧ i ≤ 3) ⟨_, _, rfl, s1, e1, f1, Nat.zero_le _⟩ ?_ ?_ ?_ ?_
      · rintro i σ H' ⟨v2, v3, _, _, e, _⟩
        exact ⟨hk _, SqT.of e⟩
      · rw [List.length_map]; exact kl.2
      · rintro i x y σ H3 Tt hx3 hy3 ⟨v2, v3, rfl, s3, e3, f3, hi3⟩ hTt
        rw [List.getElem?_map] at hx3
        obtain ⟨pp, hpp, rfl⟩ := Option.map_eq_some_iff.mp hx3
        rw [CT.tl_nums, List.getElem?_map, hpp] at hy3
        obtain rfl := Option.some.inj hy3
        have hlt := (List.getElem?_eq_some_iff.mp hpp).1
        obtain ⟨km, k0, k1⟩ := kn pp (List.mem_of_getElem? hpp)
        have s4 := Same.upd0 (o := .tup [V.str pp.1, V.int pp.2]) hTt
        have tt : upd H3 Tt (.tup [V.str pp.1, V.int pp.2]) Tt = some (.tup [V.str pp.1, V.int pp.2]) := upd_same
        have e4 := s4 _ _ e3
        have f4 := s4 _ _ f3
        have eT : ((CT.keyNums l).take (i + 1)).flatMap (fun p => CT.keyParts p.1 p.2) = ((CT.keyNums l).take i).flatMap (fun p => CT.keyParts p.1 p.2) ++ CT.keyParts pp.1 pp.2 := by
          rw [take_snoc hpp, List.flatMap_append]
          show _ ++ (CT.keyParts pp.1 pp.2 ++ []) = _
          rw [List.append_nil]
        generalize upd H3 Tt (.tup [V.str pp.1, V.int pp.2]) = H4 at s4 tt e4 f4 ⊢
        refine ⟨Tt, _, rfl, SqT.of tt, rfl, _, _, rfl, _, _, rfl, rfl, ?_⟩
        refine ⟨_, rfl, _, rfl, a.k_LEFT_OUT, _, _, _, rfl, rfl, T.l_LEFT_OUT, CT.left_at km, rfl, _, rfl, ?_⟩
        by_cases hleft : pp.2 = CT.leftOut pp.1
        · rw [decide_eq_true (show V.int pp.2 = V.int (CT.leftOut pp.1) by rw [hleft])]
          refine iteF ⟨_, _, rfl, s3.trans s4, e4, ?_, by omega⟩
          rw [f4, eT, show CT.keyParts pp.1 pp.2 = [] by unfold CT.keyParts; rw [if_pos hleft], List.append_nil]
        · rw [decide_eq_false (show V.int pp.2 ≠ V.int (CT.leftOut pp.1) from fun z => hleft (V.int.inj z))]
          refine iteT ⟨_, rfl, .inl ⟨rfl, _, SqL.of f4⟩, _, rfl, _, rfl, _, rfl, num_log k0 k1, by first | decide | (simp only [List.length_cons, List.length_nil, List.length_append, List.length_map]; decide), fun pe hpe => ?_⟩
          have s5 := Same.upd0 (o := .lst [V.str pp.1, V.str (toString pp.2 : String)]) hpe
          have f5 := s5 _ _ f4
          have lfl : (([CT.num (CT.Leaf.want l), CT.Leaf.kind' l, CT.orText l.words] ++ ((CT.keyNums l).take i).flatMap fun p => CT.keyParts p.1 p.2).map V.str).length ≤ 100 := by
            have : ∀ (ls : List (Str × Int)), (ls.flatMap fun p => CT.keyParts p.1 p.2).length ≤ 2 * ls.length := by
              intro ls
              induction ls with
              | nil => exact Nat.zero_le _
              | cons a b ih =>
                have := CT.keyParts_len a.1 a.2
                rw [List.flatMap_cons, List.length_append, List.length_cons]
                omega
            have h1 := this ((CT.keyNums l).take i)
            rw [List.length_take] at h1
            rw [List.length_map, List.length_append]
            simp only [List.length_cons, List.length_nil]
            omega
          refine ⟨ps, pe, _, _, rfl, rfl, f5, upd_same, ?_, _, _, rfl, ?_, ?_, ?_, by omega⟩
          · simp only [List.length_cons, List.length_nil]
            omega
          · exact Same.upd ((s3.trans s4).trans s5) hps
          · rw [upd_ne np3]
            exact s5 _ _ e4
          · rw [upd_same, eT, show CT.keyParts pp.1 pp.2 = [pp.1, CT.num pp.2] by unfold CT.keyParts; rw [if_neg hleft], ← List.append_assoc, List.map_append (l₂ := [pp.1, CT.num pp.2])]
            rfl
      · rintro σ H3 ⟨v2, v3, rfl, s3, e3, f3, hi3⟩
        rw [List.length_map, List.take_length, ← CT.tail_flat] at f3
        have lr := CT.leafRow_shown l
        have hb := CT.bare_leaf hg
        refine ⟨rfl, _, rfl, " ", ps, _, rfl, rfl, SqL.of f3, ?_, ?_⟩
        · refine join_ok (fun r hr => ?_) ?_ (by decide +kernel)
          · rcases List.mem_append.mp hr with hr | hr
            · simp only [List.mem_cons, List.not_mem_nil, or_false] at hr
              rcases hr with rfl | rfl | rfl
              · exact Nat.le_trans (hb.1 _ (List.mem_cons_self ..)).2.2.2 (by decide)
              · exact Nat.le_trans (hb.1 _ (List.mem_cons_of_mem _ (List.mem_cons_self ..))).2.2.2 (by decide)
              · rw [CT.orText_join]
                have h1 := CT.join_len " " 60 (CT.orList l.words) fun x hx => (CT.bare_or hwd.1 x hx).2.2.2
                have h2 := CT.orList_len l.words
                have e : (" " : Str).length = 1 := by decide +kernel
                rw [e] at h1
                have : (CT.orList l.words).length * 61 ≤ 17 * 61 := Nat.mul_le_mul_right _ (by omega)
                omega
            · exact Nat.le_trans (hb.1 r (List.mem_cons_of_mem _ (List.mem_cons_of_mem _ (List.mem_append_right _ hr)))).2.2.2 (by decide)
          · have h1 := hb.2
            unfold CT.leafParts at h1
            rw [List.length_append]
            simp only [List.length_cons, List.length_append, List.length_nil] at h1 ⊢
            omega
        · rw [txt_join, ← lr]
          exact q H3 s3
def sp_q9 (K : PySem.W.Frag) : Sp := fun vs H Q _ => ∃ (x : V) (r : CF.Rule), vs = [x] ∧ DataAt K H x r.data ∧ ∀ H', Same H H' → Q (.bl r.isLeaf) H'
theorem ok_q9 {f : Addr} {fd : FuncData} (F : Fun K "is_leaf" "is_leaf" s_q9 f fd) (T : Txt K mg a) : FnOk P w K mg base CX0 1 f fd ["rule"] (sp_q9 K) := by
  refine F.ok sc_q9 (fun vs H Q E h => ?_) (fun cdv A outer s H vs Q E hr h => ?_)
  · obtain ⟨x, r, rfl, _⟩ := h
    rfl
  · obtain ⟨x, r, rfl, hx, q⟩ := h
    refine ⟨_, (pss_one (ps_ret (pe_cmpR op_in_seq (pe_ix ix_tup (pvA 0 (defScope s_q9) N_q9 rfl rfl) pe_int (fun _ _ => rfl)) (pe_tup (pa_cons pe_str (pa_cons pe_str pa_nil))) (by with_unfolding_all rfl)))), ?_⟩
    obtain ⟨t, ys, rfl, et⟩ := CF.Rule.tup hx
    refine ⟨_, rfl, t, _, _, _, rfl, rfl, SqT.of et, CF.atI_zero, by first | decide | (simp only [List.length_cons, List.length_nil, List.length_append, List.length_map]; decide), fun p hp => ⟨p, _, rfl, .inr (SqT.of upd_same), rfl, rfl, ?_⟩⟩
    rw [if_neg (show ¬ (false = true) by decide)]
    show Q (.bl (inV (.str r.kind) ((["from", "of"] : List Str).map V.str))) _
    rw [inV_strs]
    have e : (["from", "of"] : List Str).contains r.kind = r.isLeaf := by
      rw [← CF.Rule.isLeaf_kind r, Bool.eq_iff_iff, List.contains_iff_mem]
      simp only [List.mem_cons, List.not_mem_nil, or_false, Bool.or_eq_true, decide_eq_true_eq]
    rw [e]
    exact q _ (Same.upd0 hp)
theorem grp_of {r : CF.Rule} (h : r.isLeaf = false) (hg : r.Good) : ∃ g rs, r = CT.GHead.rule g rs ∧ CF.Rule.Goods rs ∧ rs.length ≤ 16 ∧ (∀ n, g = .some n → 1 ≤ n ∧ n ≤ 16) ∧ CT.ruleRows r = CT.headRow g :: (CT.rulesRows rs ++ (["end"] : List Str)) ∧ r.depth = CF.Rule.depths rs + 1 := by
  cases r with
  | leaf l => cases h
  | allr rs =>
    unfold CF.Rule.Good at hg
    exact ⟨.all, rs, rfl, hg.2.2, hg.2.1, (fun n z => nomatch z), by unfold CT.ruleRows; rfl, by unfold CF.Rule.depth; rfl⟩
  | somr m rs =>
    unfold CF.Rule.Good at hg
    exact ⟨.some m, rs, rfl, hg.2.2, hg.2.1, (fun n z => by have := CT.GHead.some.inj z; have := hg.1; have := hg.2.1; omega), by unfold CT.ruleRows; rfl, by unfold CF.Rule.depth; rfl⟩
def sp_q34 (K : PySem.W.Frag) : Sp := fun vs H Q _ => ∃ (t : Addr) (g : CT.GHead) (v : V), vs = [.ref t] ∧ SqT K H t (CT.ghV g ++ [v]) ∧ (∀ n, g = .some n → 1 ≤ n ∧ n ≤ 16) ∧ Q (.str (CT.headRow g)) H
theorem ok_q34 {f : Addr} {fd : FuncData} (F : Fun K "show_head" "show_head" s_q34 f fd) (T : Txt K mg a) : FnOk P w K mg base CX0 1 f fd ["group"] (sp_q34 K) := by
  refine F.ok sc_q34 (fun vs H Q E h => ?_) (fun cdv A outer s H vs Q E hr h => ?_)
  · obtain ⟨t, g, v, rfl, _⟩ := h
    rfl
  · obtain ⟨t, g, v, rfl, et, hg, q⟩ := h
    refine ⟨_, (pss_cons (ps_if (pt_cmpR op_eq (pe_ix ix_tup (pvA 0 (defScope s_q34) N_q34 rfl rfl) pe_int (fun _ _ => rfl)) pe_str (nomark _)) (pss_one (ps_ret pe_str)) pss_nil)
      (pss_cons (psN (i := 1) (sc := defScope s_q34) (M := N_q34) rfl rfl (by decide +kernel) (pe_ix ix_tup (pvA 0 (defScope s_q34) N_q34 rfl rfl) pe_int (fun _ _ => rfl)))
      (pss_one (ps_ret (pe_fstr (pf_cons pe_str (pf_cons (pe_fmt (pvA 1 (defScope s_q34) N_q34 rfl rfl)) (pf_cons pe_str pf_nil)))))))), ?_⟩
    have hs : sizeLine = 16777216 := sizeLine_eq
    cases g with
    | all => exact ⟨_, rfl, t, _, _, _, rfl, rfl, et, CF.atI_zero, rfl, _, rfl, iteT q⟩
    | some n =>
      have hn := hg n rfl
      have l3 := (num_text (n := n) (by omega) (CT.lt_big (by omega))).most
      refine ⟨_, rfl, t, _, _, _, rfl, rfl, et, CF.atI_zero, rfl, _, rfl, iteF ⟨_, rfl, t, _, _, _, rfl, rfl, et, atI_nat (j := 1) rfl, ?_⟩⟩
      have lo : ("some " : Str).length = 5 := by decide +kernel
      have lf : (" of" : Str).length = 3 := by decide +kernel
      have le : Str.empty.length = 0 := rfl
      refine ⟨_, rfl, by simp only [Str.length_append]; omega, _, rfl, num_log (by omega) (CT.lt_big (by omega)), _, rfl, by simp only [Str.length_append]; omega, _, rfl, by simp only [Str.length_append]; omega, by simp only [Str.length_append]; omega, ?_⟩
      rw [Str.empty_append]
      exact q
def sp_q31 (K : PySem.W.Frag) (n : Nat) : Sp := fun vs H Q _ => ∃ (x : V) (r : CF.Rule), vs = [x] ∧ DataAt K H x r.data ∧ r.depth < n ∧ r.Good ∧ (CT.ruleRows r).length ≤ 1000 ∧ ∀ H' p, Same H H' → H p = none → H' p = some (.lst ((CT.ruleRows r).map V.str)) → Q (.ref p) H'
theorem none_q31 {vs : List V} {H : Hp} {Q : VK} {E : XK} (h : sp_q31 K 0 vs H Q E) : False := by
  obtain ⟨x, r, _, _, h, _⟩ := h
  omega
theorem step_q31 {n : Nat} {fd_q31 fd_q9 fd_q32 fd_q34 fd_q35 : FuncData} (T : Txt K mg a)
    (G_q9 : FnOk P w K mg base CX0 1 a.is_leaf fd_q9 ["rule"] (sp_q9 K)) (F_q9 : Fun K "is_leaf" "is_leaf" s_q9 a.is_leaf fd_q9) (b_q9 : Binds K fd_q9 ["rule"] [])
    (G_q32 : FnOk P w K mg base CX0 1 a.rules_of fd_q32 ["group"] (sp_q32 K)) (F_q32 : Fun K "rules_of" "rules_of" s_q32 a.rules_of fd_q32) (b_q32 : Binds K fd_q32 ["group"] [])
    (G_q34 : FnOk P w K mg base CX0 1 a.show_head fd_q34 ["group"] (sp_q34 K)) (F_q34 : Fun K "show_head" "show_head" s_q34 a.show_head fd_q34) (b_q34 : Binds K fd_q34 ["group"] [])
    (G_q35 : FnOk P w K mg base CX0 1 a.show_leaf fd_q35 ["leaf"] (sp_q35 K)) (F_q35 : Fun K "show_leaf" "show_leaf" s_q35 a.show_leaf fd_q35) (b_q35 : Binds K fd_q35 ["leaf"] [])
    (G_q31 : FnOk P w K mg base CX0 (2 + n) a.rows_of_rule fd_q31 ["rule"] (sp_q31 K n)) (F_q31 : Fun K "rows_of_rule" "rows_of_rule" s_q31 a.rows_of_rule fd_q31) (b_q31 : Binds K fd_q31 ["rule"] []) : FnOk P w K mg base CX0 (2 + n + 1) a.rows_of_rule fd_q31 ["rule"] (sp_q31 K (n + 1)) := by
  have F := F_q31
  refine F.ok sc_q31 (fun vs H Q E h => ?_) (fun cdv A outer s H vs Q E hr h => ?_)
  · obtain ⟨x, r, rfl, _⟩ := h
    rfl
  · obtain ⟨x, r, rfl, hx, hd, hg, hm, q⟩ := h
    refine ⟨_, (pss_cons (ps_if (pt_val (pe_callN (sc := defScope s_q31) G_q9 (hr.mono (by omega)) rfl (by decide +kernel) T.m_q9 F_q9.kp b_q9 .nil pass0 (pa_cons (pvA 0 (defScope s_q31) N_q31 rfl rfl) pa_nil))) (pss_one (ps_ret (pe_lst (pa_cons (pe_callN (sc := defScope s_q31) G_q35 (hr.mono (by omega)) rfl (by decide +kernel) T.m_q35 F_q35.kp b_q35 .nil pass0 (pa_cons (pvA 0 (defScope s_q31) N_q31 rfl rfl) pa_nil)) pa_nil)))) pss_nil)
      (pss_cons (psN (i := 1) (sc := defScope s_q31) (M := N_q31) rfl rfl (by decide +kernel) (pe_lst (pa_cons (pe_callN (sc := defScope s_q31) G_q34 (hr.mono (by omega)) rfl (by decide +kernel) T.m_q34 F_q34.kp b_q34 .nil pass0 (pa_cons (pvA 0 (defScope s_q31) N_q31 rfl rfl) pa_nil)) pa_nil)))
      (pss_cons (ps_for PassesOwn.never rfl (pi_list (pe_callN (sc := defScope s_q31) G_q32 (hr.mono (by omega)) rfl (by decide +kernel) T.m_q32 F_q32.kp b_q32 .nil pass0 (pa_cons (pvA 0 (defScope s_q31) N_q31 rfl rfl) pa_nil))) (pgN (i := 2) (sc := defScope s_q31) (M := N_q31) rfl rfl (by decide +kernel)) (pss_one (ps_expr (pe_bm PySem.F.plainAttrs_list PySem.F.slot_list_extend PySem.F.type_list_extend mt_extend (pvA 1 (defScope s_q31) N_q31 rfl rfl) (pa_cons (pe_callN (sc := defScope s_q31) G_q31 (hr.mono (by omega)) rfl (by decide +kernel) T.m_q31 F_q31.kp b_q31 .nil pass0 (pa_cons (pvA 2 (defScope s_q31) N_q31 rfl rfl) pa_nil)) pa_nil)))))
      (pss_cons (ps_expr (pe_bm PySem.F.plainAttrs_list PySem.F.slot_list_append PySem.F.type_list_append mt_append (pvA 1 (defScope s_q31) N_q31 rfl rfl) (pa_cons pe_str pa_nil)))
      (pss_one (ps_ret (pvA 1 (defScope s_q31) N_q31 rfl rfl))))))), ?_⟩
    have hs : sizeLine = 16777216 := sizeLine_eq
    refine ⟨_, rfl, _, r, rfl, hx, fun H1 s1 => ⟨_, rfl, ?_⟩⟩
    cases hl : r.isLeaf with
    | true =>
      cases r with
      | allr rs => cases hl
      | somr m rs => cases hl
      | leaf l =>
        rw [show CT.ruleRows (.leaf l) = [CT.leafRow l] by unfold CT.ruleRows; rfl] at q
        unfold CF.Rule.data at hx
        unfold CF.Rule.Good at hg
        refine iteT ⟨_, rfl, _, l, rfl, DataAt.up hx s1, hg, fun H2 s2 => ⟨by first | decide | (simp only [List.length_cons, List.length_nil, List.length_append, List.length_map]; decide), fun pl hpl => ?_⟩⟩
        have s3 := s1.trans s2
        exact q _ pl (s3.trans (Same.upd0 hpl)) (s3.free hpl) upd_same
    | false =>
      obtain ⟨g, rs, er, hgs, hl16, hgn, erows, edep⟩ := grp_of hl hg
      obtain ⟨t, p, xs, rfl, et, ep, hA⟩ := CF.Rule.grp hx hl
      have eh : r.head = CT.ghV g := by rw [er]; exact CT.gh_head g rs
      have eru : r.rules = rs := by rw [er]; exact CT.gh_rules g rs
      rw [eh] at et
      rw [eru] at hA
      rw [erows] at q hm
      refine iteF ⟨_, rfl, t, g, .ref p, rfl, SqT.of (s1 _ _ et), hgn, by first | decide | (simp only [List.length_cons, List.length_nil, List.length_append, List.length_map]; decide), fun pl hpl => ?_⟩
      have npl : H pl = none := s1.free hpl
      have s2 := s1.trans (Same.upd0 (o := .lst [V.str (CT.headRow g)]) hpl)
      have e2 : upd H1 pl (.lst [V.str (CT.headRow g)]) pl = some (.lst ((CT.headRow g :: CT.rulesRows (rs.take 0)).map V.str)) := by
        rw [List.take_zero, CT.rulesRows_nil]
        exact upd_same
      generalize upd H1 pl (.lst [V.str (CT.headRow g)]) = H2 at s2 e2 ⊢
      refine ⟨_, rfl, t, CT.ghV g, .ref p, rfl, SqT.of (s2 _ _ et), p, rfl, ⟨_, .inl (Rd.same s2 ep)⟩, ?_⟩
      have lx := DataAll.length hA
      rw [CF.Rule.datas_map, List.length_map] at lx
      refine for_list (xs := xs) (fun i σ H' => ∃ v, σ = [some (.ref t), some (.ref pl), v] ∧ Same H H' ∧ H' pl = some (.lst ((CT.headRow g :: CT.rulesRows (rs.take i)).map V.str))) ⟨_, rfl, s2, e2⟩ ?_ ?_ ?_
      · rintro i σ H' _ ⟨v, _, s, _⟩
        exact .inl (Rd.same s ep)
      · rintro i y σ H' hy ⟨v, rfl, s3, e3⟩
        obtain ⟨d, ed, hyd⟩ := DataAll.back hA hy
        rw [CF.Rule.datas_map, List.getElem?_map] at ed
        obtain ⟨r1, er1, rfl⟩ := Option.map_eq_some_iff.mp ed
        have hmem := List.mem_of_getElem? er1
        have hd1 := CF.Rule.depths_mem hmem
        have eT : CT.rulesRows (rs.take (i + 1)) = CT.rulesRows (rs.take i) ++ CT.ruleRows r1 := by
          rw [take_snoc er1, CT.rulesRows_app, CT.rulesRows_one]
        have hsum : (CT.rulesRows (rs.take i)).length + (CT.ruleRows r1).length ≤ (CT.rulesRows rs).length := by
          rw [← List.length_append, ← eT]
          conv => rhs; rw [← List.take_append_drop (i + 1) rs, CT.rulesRows_app, List.length_append]
          exact Nat.le_add_right _ _
        rw [List.length_cons, List.length_append, List.length_singleton] at hm
        refine ⟨_, rfl, .inl ⟨rfl, _, SqL.of e3⟩, _, rfl, y, r1, rfl, DataAt.up hyd s3, by omega, CF.Rule.goods_iff.mp hgs r1 hmem, by omega, fun H4 p4 s4 np4 e4 => ?_⟩
        have e5 := s4 _ _ e3
        refine ⟨pl, p4, _, _, rfl, rfl, e5, e4, ?_, _, rfl, Same.upd (s3.trans s4) npl, ?_⟩
        · rw [List.length_map, List.length_map, List.length_cons]
          omega
        · rw [upd_same, eT, ← List.map_append, List.cons_append]
      · rintro σ H' ⟨v, rfl, s3, e3⟩
        rw [lx, List.take_length] at e3
        refine ⟨_, rfl, .inl ⟨rfl, _, SqL.of e3⟩, pl, _, _, rfl, rfl, e3, ?_, _, rfl, q _ pl (Same.upd s3 npl) npl ?_⟩
        · rw [List.length_cons, List.length_append, List.length_singleton] at hm
          rw [List.length_map, List.length_cons]
          omega
        · rw [upd_same, ← List.cons_append, List.map_append]
          rfl
theorem ok_q31 {fd_q31 fd_q9 fd_q32 fd_q34 fd_q35 : FuncData} (T : Txt K mg a)
    (G_q9 : FnOk P w K mg base CX0 1 a.is_leaf fd_q9 ["rule"] (sp_q9 K)) (F_q9 : Fun K "is_leaf" "is_leaf" s_q9 a.is_leaf fd_q9) (b_q9 : Binds K fd_q9 ["rule"] [])
    (G_q32 : FnOk P w K mg base CX0 1 a.rules_of fd_q32 ["group"] (sp_q32 K)) (F_q32 : Fun K "rules_of" "rules_of" s_q32 a.rules_of fd_q32) (b_q32 : Binds K fd_q32 ["group"] [])
    (G_q34 : FnOk P w K mg base CX0 1 a.show_head fd_q34 ["group"] (sp_q34 K)) (F_q34 : Fun K "show_head" "show_head" s_q34 a.show_head fd_q34) (b_q34 : Binds K fd_q34 ["group"] [])
    (G_q35 : FnOk P w K mg base CX0 1 a.show_leaf fd_q35 ["leaf"] (sp_q35 K)) (F_q35 : Fun K "show_leaf" "show_leaf" s_q35 a.show_leaf fd_q35) (b_q35 : Binds K fd_q35 ["leaf"] [])
    (F_q31 : Fun K "rows_of_rule" "rows_of_rule" s_q31 a.rows_of_rule fd_q31) (b_q31 : Binds K fd_q31 ["rule"] []) : FnOk P w K mg base CX0 10 a.rows_of_rule fd_q31 ["rule"] (sp_q31 K 8) := by
  have h : ∀ n, FnOk P w K mg base CX0 (2 + n) a.rows_of_rule fd_q31 ["rule"] (sp_q31 K n) := fun n => by
    induction n with
    | zero => exact ⟨fun vs H Q E h => (none_q31 h).elim, fun A outer s H args us vs Q E _ _ _ _ h => (none_q31 h).elim⟩
    | succ n ih => exact step_q31 T G_q9 F_q9 b_q9 G_q32 F_q32 b_q32 G_q34 F_q34 b_q34 G_q35 F_q35 b_q35 ih F_q31 b_q31
  exact h 8
def sp_q33 (K : PySem.W.Frag) : Sp := fun vs H Q _ => ∃ (x : V) (c : CF.Course) (D : Hp), vs = [x] ∧ Same D H ∧ DataAt K D x c.data ∧ c.Good ∧ ∀ H', Same H H' → Q (.str (Str.join "\n" (CT.courseRows c))) H'
theorem ok_q33 {f : Addr} {fd fd_q31 : FuncData} (F : Fun K "show_course" "show_course" s_q33 f fd) (T : Txt K mg a)
    (G_q31 : FnOk P w K mg base CX0 10 a.rows_of_rule fd_q31 ["rule"] (sp_q31 K 8)) (F_q31 : Fun K "rows_of_rule" "rows_of_rule" s_q31 a.rows_of_rule fd_q31) (b_q31 : Binds K fd_q31 ["rule"] []) : FnOk P w K mg base CX0 11 f fd ["course"] (sp_q33 K) := by
  refine F.ok sc_q33 (fun vs H Q E h => ?_) (fun cdv A outer s H vs Q E hr h => ?_)
  · obtain ⟨x, c, D, rfl, _⟩ := h
    rfl
  · obtain ⟨x, c, D, rfl, sD, hx, hc, q⟩ := h
    refine ⟨_, (pss_cons (psN_comp (i := 1) (sc := defScope s_q33) (M := N_q33) rfl rfl rfl (by decide +kernel) (N := ["field", "often"]) (own := 2) (js := []) (X := (cxOf CX0 P w K mg base N_q33 "show_course" (defScope s_q33) f cdv A outer s H E).nox) (compOk (defScope s_q33) N_q33 rfl rfl (by decide +kernel)) (pi_list (pe_ix ix_tup (pvA 0 (defScope s_q33) N_q33 rfl rfl) pe_int (fun _ _ => rfl))) (fun fp0 sx0 Hx0 => (kgTup (K := K) rfl (pg_tup (n := 2) (by rfl) (pgs_cons (pgN (i := 0) (sc := relabelS _ (defScope s_q33)) (M := ["field", "often"]) rfl rfl (by decide +kernel)) (pgs_cons (pgN (i := 1) (sc := relabelS _ (defScope s_q33)) (M := ["field", "often"]) rfl rfl (by decide +kernel)) pgs_nil))))) (fun fp0 sx0 Hx0 => pifs_nil) (fun fp0 sx0 Hx0 => (pe_fstr (pf_cons pe_str (pf_cons (pe_fmt (pvN (i := 1) (sc := relabelS _ (defScope s_q33)) (M := ["field", "often"]) rfl rfl (by decide +kernel))) (pf_cons pe_str (pf_cons (pe_fmt (pvN (i := 0) (sc := relabelS _ (defScope s_q33)) (M := ["field", "often"]) rfl rfl (by decide +kernel))) pf_nil)))))) rfl)
      (pss_one (ps_ret (pe_bm PySem.F.plainAttrs_str PySem.F.slot_str_join PySem.F.type_str_join mt_join pe_str (pa_cons (pe_op op_cat (pvA 1 (defScope s_q33) N_q33 rfl rfl) (pe_callN (sc := defScope s_q33) G_q31 (hr.mono (by decide)) rfl (by decide +kernel) T.m_q31 F_q31.kp b_q31 .nil pass0 (pa_cons (pe_ix ix_tup (pvA 0 (defScope s_q33) N_q33 rfl rfl) pe_int (fun _ _ => rfl)) pa_nil))) pa_nil))))), ?_⟩
    have hs : sizeLine = 16777216 := sizeLine_eq
    obtain ⟨t, po, y, rfl, et, ⟨xs, hpo, hA⟩, _, dy⟩ := course_tup hx
    have hxl := DataAll.length hA
    rw [List.length_map] at hxl
    have hfew := hc.few
    refine ⟨_, rfl, t, _, _, _, rfl, rfl, SqT.of (sD _ _ et), rfl, po, rfl, ⟨xs, .inl (Rd.same sD hpo)⟩, fun c0 hc0 => ?_⟩
    refine comp_gr (K := K) (D := D) sD hc0 yields_list (fun σ => ∃ a b, σ = [a, b]) (c.oftens.map fun p => some (PyData.str (CT.oftRow p))) (by rw [List.length_map, hxl]) ⟨_, _, rfl⟩ (fun H' s' => .inl (Rd.same s' (Rd.same sD hpo))) (by omega) ?_ ?_
    · rintro i x r σ D1 H1 R1 R0 hx1 hr ⟨a1, a2, rfl⟩ G k1 k0
      obtain ⟨p, tt, hp, rfl, ett⟩ := oft_at (DataAll.up hA G.dd) hx1
      rw [List.getElem?_map, hp] at hr
      obtain rfl := Option.some.inj hr
      have hm := List.mem_of_getElem? hp
      have hw := CW.isWord_iff.mp (hc.words p hm)
      have hn := hc.nums p hm
      have l1 := hw.2.1
      have l3 := (num_text (n := p.2) (by omega) (CT.lt_big (by omega))).most
      have lb : (" " : Str).length = 1 := by decide +kernel
      have lo : ("often " : Str).length = 6 := by decide +kernel
      have le : Str.empty.length = 0 := rfl
      refine ⟨tt, _, rfl, SqT.of (G.dh _ _ ett), rfl, _, _, rfl, _, _, rfl, rfl, ?_⟩
      refine ⟨_, rfl, by simp only [Str.length_append]; omega, _, rfl, num_log (by omega) (CT.lt_big (by omega)), _, rfl, by simp only [Str.length_append]; omega, _, rfl, by simp only [Str.length_append]; omega, _, rfl, by omega, _, rfl, by simp only [Str.length_append]; omega, by simp only [Str.length_append]; omega, ?_⟩
      refine k1 _ _ _ _ _ rfl ⟨_, _, rfl⟩ (Gr.refl G.dh) ?_
      rw [Str.empty_append]
      exact DataAt.ofStr
    · intro D' H' ys G e n hA'
      rw [show (c.oftens.map fun p => some (PyData.str (CT.oftRow p))) = ((c.oftens.map CT.oftRow).map PyData.str).map some by simp, filterMap_some] at hA'
      rw [DataAll.strs_eq hA'] at e
      have hrw := CT.rows_len hc.rule
      have hrl : (CT.ruleRows c.rule).length ≤ 16 * 13 := Nat.le_trans hrw (Nat.mul_le_mul hc.leaves (by have := hc.deep; omega))
      obtain ⟨hro, hr3, _⟩ := CT.course_rows hc
      have et' := G.dh _ _ (G.dd _ _ et)
      refine ⟨rfl, _, rfl, _, rfl, t, _, _, _, rfl, rfl, SqT.of et', rfl, y, c.rule, rfl, DataAt.up (DataAt.gr dy G) G.dh, Nat.lt_succ_of_le (Nat.le_trans hc.deep (by decide)), hc.rule, by omega, fun H2 p2 s2 np2 e2 => ?_⟩
      have e2' := s2 _ _ e
      refine ⟨c0, p2, _, _, rfl, rfl, e2', e2, ?_, fun p3 hp3 => ?_⟩
      · rw [List.length_map, List.length_map, List.length_map]
        omega
      have e3 : upd H2 p3 (.lst (List.map V.str (List.map CT.oftRow c.oftens) ++ List.map V.str (CT.ruleRows c.rule))) p3 = some (.lst ((CT.courseRows c).map V.str)) := by
        rw [upd_same]
        unfold CT.courseRows
        rw [List.map_append]
      refine ⟨_, p3, _, rfl, rfl, SqL.of e3, join_ok (fun r hr => ?_) (by omega) (by decide +kernel), ?_⟩
      · obtain ⟨ps, h⟩ := hro r hr
        exact h.len
      · rw [txt_join]
        exact q _ ((G.hh.trans s2).trans (Same.upd0 hp3))
theorem kit_non_list : PySem.W.kitOne K (.type "NoneType") (.type "list") = some false := by kernel_rfl
theorem kit_bl_list : PySem.W.kitOne K (.type "bool") (.type "list") = some false := by kernel_rfl
theorem kit_int_list : PySem.W.kitOne K (.type "int") (.type "list") = some false := by kernel_rfl
theorem kit_str_list : PySem.W.kitOne K (.type "str") (.type "list") = some false := by kernel_rfl
theorem kit_tuple_list : PySem.W.kitOne K (.type "tuple") (.type "list") = some false := by kernel_rfl
theorem kit_non_tuple : PySem.W.kitOne K (.type "NoneType") (.type "tuple") = some false := by kernel_rfl
theorem kit_bl_tuple : PySem.W.kitOne K (.type "bool") (.type "tuple") = some false := by kernel_rfl
theorem kit_int_tuple : PySem.W.kitOne K (.type "int") (.type "tuple") = some false := by kernel_rfl
theorem kit_str_tuple : PySem.W.kitOne K (.type "str") (.type "tuple") = some false := by kernel_rfl
theorem kit_list_tuple : PySem.W.kitOne K (.type "list") (.type "tuple") = some false := by kernel_rfl
theorem rd_ty {H : Hp} {p : Addr} {xs : List V} (h : Rd H p (.lst xs)) : tyName K H (.ref p) "list" := by
  rcases h with h | ⟨o, h⟩
  · exact .inl ⟨rfl, .inl ⟨_, h⟩⟩
  · exact .inl ⟨rfl, .inr ⟨_, _, h⟩⟩
def sp_q16 (K : PySem.W.Frag) (n : Nat) : Sp := fun vs H Q _ => ∃ (x : V) (d : PyData) (D : Hp), vs = [x] ∧ Same D H ∧ DataAt K D x d ∧ d.depth < n ∧ CF.small d ∧ ∀ r D' H', Gr D H D' H' → DataAt K D' r d → Q r H'
theorem none_q16 {vs : List V} {H : Hp} {Q : VK} {E : XK} (h : sp_q16 K 0 vs H Q E) : False := by
  obtain ⟨x, r, D, _, _, _, h, _⟩ := h
  omega
theorem step_q16 {n : Nat} {fd_q16 : FuncData} (T : Txt K mg a)
    (G_q16 : FnOk P w K mg base CX0 (1 + n) a.law_copy fd_q16 ["_law_thing"] (sp_q16 K n)) (F_q16 : Fun K "_law_copy" "_law_copy" s_q16 a.law_copy fd_q16) (b_q16 : Binds K fd_q16 ["_law_thing"] []) : FnOk P w K mg base CX0 (1 + n + 1) a.law_copy fd_q16 ["_law_thing"] (sp_q16 K (n + 1)) := by
  have F := F_q16
  refine F.ok sc_q16 (fun vs H Q E h => ?_) (fun cdv A outer s H vs Q E hr h => ?_)
  · obtain ⟨x, d, D, rfl, _⟩ := h
    rfl
  · obtain ⟨x, d, D, rfl, sD, hx, hd, hsm, q⟩ := h
    refine ⟨_, (pss_cons (ps_if (pt_val (pe_callBN (sc := defScope s_q16) call_isi rfl (by decide +kernel) T.z_isinstance bt_isinstance (pa_cons (pvA 0 (defScope s_q16) N_q16 rfl rfl) (pa_cons (pe_bltN (v := V.ty "list") (sc := defScope s_q16) rfl (by decide +kernel) T.z_list bt_list rfl) pa_nil)))) (pss_one (ps_ret (pe_comp rfl (N := ["_law_one"]) (own := 1) (js := []) (X := (cxOf CX0 P w K mg base N_q16 "_law_copy" (defScope s_q16) a.law_copy cdv A outer s H E).nox) (compOk (defScope s_q16) N_q16 rfl rfl (by decide +kernel)) (pi_list (pvA 0 (defScope s_q16) N_q16 rfl rfl)) (fun fp0 sx0 Hx0 => (pgN (i := 0) (sc := relabelS _ (defScope s_q16)) (M := ["_law_one"]) rfl rfl (by decide +kernel))) (fun fp0 sx0 Hx0 => pifs_nil) (fun fp0 sx0 Hx0 => (pe_callN (sc := relabelS _ (defScope s_q16)) G_q16 (hr.mono (by omega)) rfl (by decide +kernel) T.m_q16 F_q16.kp b_q16 .nil pass0 (pa_cons (pvN (i := 0) (sc := relabelS _ (defScope s_q16)) (M := ["_law_one"]) rfl rfl (by decide +kernel)) pa_nil)))))) pss_nil)
      (pss_cons (ps_if (pt_val (pe_callBN (sc := defScope s_q16) call_isi rfl (by decide +kernel) T.z_isinstance bt_isinstance (pa_cons (pvA 0 (defScope s_q16) N_q16 rfl rfl) (pa_cons (pe_bltN (v := V.ty "tuple") (sc := defScope s_q16) rfl (by decide +kernel) T.z_tuple bt_tuple rfl) pa_nil)))) (pss_one (ps_ret (pe_callTyN (sc := defScope s_q16) call_tuple_of rfl (by decide +kernel) T.z_tuple bt_tuple (pa_cons (pe_comp rfl (N := ["_law_one"]) (own := 1) (js := []) (X := (cxOf CX0 P w K mg base N_q16 "_law_copy" (defScope s_q16) a.law_copy cdv A outer s H E).nox) (compOk (defScope s_q16) N_q16 rfl rfl (by decide +kernel)) (pi_tup (pvA 0 (defScope s_q16) N_q16 rfl rfl)) (fun fp0 sx0 Hx0 => (pgN (i := 0) (sc := relabelS _ (defScope s_q16)) (M := ["_law_one"]) rfl rfl (by decide +kernel))) (fun fp0 sx0 Hx0 => pifs_nil) (fun fp0 sx0 Hx0 => (pe_callN (sc := relabelS _ (defScope s_q16)) G_q16 (hr.mono (by omega)) rfl (by decide +kernel) T.m_q16 F_q16.kp b_q16 .nil pass0 (pa_cons (pvN (i := 0) (sc := relabelS _ (defScope s_q16)) (M := ["_law_one"]) rfl rfl (by decide +kernel)) pa_nil)))) pa_nil)))) pss_nil)
      (pss_one (ps_ret (pvA 0 (defScope s_q16) N_q16 rfl rfl))))), ?_⟩
    have hs : sizeLine = 16777216 := sizeLine_eq
    have step : ∀ (ds : List PyData) (xs : List V) (q0 : Addr) (H0 : Hp), Same D H0 → True := fun _ _ _ _ _ => trivial
    cases d with
    | dict kvs => unfold DataAt at hx; exact hx.elim
    | none =>
      have e : x = .non := by unfold DataAt at hx; exact hx
      subst e
      exact ⟨_, rfl, _, "NoneType", "list", false, rfl, rfl, kit_non_list, _, rfl, iteF ⟨_, rfl, _, "NoneType", "tuple", false, rfl, rfl, kit_non_tuple, _, rfl, iteF ⟨_, rfl, q _ D H (Gr.refl sD) hx⟩⟩⟩
    | bool b =>
      obtain rfl := DataAt.bl hx
      exact ⟨_, rfl, _, "bool", "list", false, rfl, rfl, kit_bl_list, _, rfl, iteF ⟨_, rfl, _, "bool", "tuple", false, rfl, rfl, kit_bl_tuple, _, rfl, iteF ⟨_, rfl, q _ D H (Gr.refl sD) hx⟩⟩⟩
    | int b =>
      obtain rfl := DataAt.int hx
      exact ⟨_, rfl, _, "int", "list", false, rfl, rfl, kit_int_list, _, rfl, iteF ⟨_, rfl, _, "int", "tuple", false, rfl, rfl, kit_int_tuple, _, rfl, iteF ⟨_, rfl, q _ D H (Gr.refl sD) hx⟩⟩⟩
    | str b =>
      obtain rfl := DataAt.str hx
      exact ⟨_, rfl, _, "str", "list", false, rfl, rfl, kit_str_list, _, rfl, iteF ⟨_, rfl, _, "str", "tuple", false, rfl, rfl, kit_str_tuple, _, rfl, iteF ⟨_, rfl, q _ D H (Gr.refl sD) hx⟩⟩⟩
    | list ds =>
      obtain ⟨p, xs, rfl, hp, hA⟩ := DataAt.lst hx
      have hp' := Rd.same sD hp
      have lx := DataAll.length hA
      have hsm' := CF.small_list hsm
      refine ⟨_, rfl, _, "list", "list", true, rfl, rd_ty hp', kit_list_list _, _, rfl, iteT ⟨_, rfl, p, rfl, ⟨_, .inl hp'⟩, fun c hc => ?_⟩⟩
      refine comp_gr (K := K) (D := D) sD hc yields_list (fun σ => ∃ v, σ = [v]) (ds.map some) (by rw [List.length_map, lx]) ⟨_, rfl⟩ (fun H' s' => .inl (Rd.same s' hp')) (by omega) ?_ ?_
      · rintro i y r σ D3 H3 R1 R0 hy hr ⟨v, rfl⟩ G k1 k0
        obtain ⟨d1, hd1, hdy⟩ := DataAll.back hA hy
        rw [List.getElem?_map, hd1] at hr
        obtain rfl := Option.some.inj hr
        have hm := List.mem_of_getElem? hd1
        exact ⟨_, rfl, y, d1, D3, rfl, G.dh, hdy.gr G, CF.depth_mem hm (by exact hd), hsm'.2 d1 hm, fun r D4 H4 g4 hr4 => k1 d1 _ r D4 H4 rfl ⟨_, rfl⟩ g4 hr4⟩
      · intro D3 H3 ys G e n hy
        rw [filterMap_some] at hy
        exact q _ _ H3 (G.fix hc n e) (DataAt.mkL (D := D3) hy upd_same (Same.upd0 n))
    | tuple ds =>
      obtain ⟨p, xs, rfl, hp, hA⟩ := DataAt.tup hx
      have hp' := sD _ _ hp
      have lx := DataAll.length hA
      have hsm' := CF.small_tuple hsm
      refine ⟨_, rfl, _, "tuple", "list", false, rfl, .inr (.inl ⟨rfl, _, hp'⟩), kit_tuple_list, _, rfl, iteF ⟨_, rfl, _, "tuple", "tuple", true, rfl, .inr (.inl ⟨rfl, _, hp'⟩), kit_tuple_tuple _, _, rfl, iteT ⟨_, rfl, p, rfl, ⟨_, SqT.of hp'⟩, fun c hc => ?_⟩⟩⟩
      refine comp_gr (K := K) (D := D) sD hc yields_tup (fun σ => ∃ v, σ = [v]) (ds.map some) (by rw [List.length_map, lx]) ⟨_, rfl⟩ (fun H' s' => SqT.of (s' _ _ hp')) (by omega) ?_ ?_
      · rintro i y r σ D3 H3 R1 R0 hy hr ⟨v, rfl⟩ G k1 k0
        obtain ⟨d1, hd1, hdy⟩ := DataAll.back hA hy
        rw [List.getElem?_map, hd1] at hr
        obtain rfl := Option.some.inj hr
        have hm := List.mem_of_getElem? hd1
        exact ⟨_, rfl, y, d1, D3, rfl, G.dh, hdy.gr G, CF.depth_mem hm (by exact hd), hsm'.2 d1 hm, fun r D4 H4 g4 hr4 => k1 d1 _ r D4 H4 rfl ⟨_, rfl⟩ g4 hr4⟩
      · intro D3 H3 ys G e n hy
        rw [filterMap_some] at hy
        refine ⟨c, ys, rfl, .inl ⟨SqL.of e, fun t ht => ?_⟩⟩
        exact q _ _ _ (G.trans (Gr.lay G.dh ht)) (DataAt.mkT (D := D3) hy upd_same (Same.upd0 (free_of G.dh ht)))
theorem ok_q16 {fd_q16 : FuncData} (T : Txt K mg a)
    (F_q16 : Fun K "_law_copy" "_law_copy" s_q16 a.law_copy fd_q16) (b_q16 : Binds K fd_q16 ["_law_thing"] []) : FnOk P w K mg base CX0 21 a.law_copy fd_q16 ["_law_thing"] (sp_q16 K 20) := by
  have h : ∀ n, FnOk P w K mg base CX0 (1 + n) a.law_copy fd_q16 ["_law_thing"] (sp_q16 K n) := fun n => by
    induction n with
    | zero => exact ⟨fun vs H Q E h => (none_q16 h).elim, fun A outer s H args us vs Q E _ _ _ _ h => (none_q16 h).elim⟩
    | succ n ih => exact step_q16 T  ih F_q16 b_q16
  exact h 20
def keyTxt (k : Str) (n : Int) : Str := if n = CT.leftOut k then Str.empty else " " ++ k ++ " " ++ CT.num n
theorem join_key (k : Str) (n : Int) (A : List Str) (hA : A ≠ []) : Str.join " " (A ++ CT.keyParts k n) = Str.join " " A ++ keyTxt k n := by
  unfold CT.keyParts keyTxt
  split
  · rw [List.append_nil, Str.append_empty]
  · rw [CT.join_app _ A _ hA (by intro z; cases z), CT.join_two, CT.join_one]
    simp only [Str.append_assoc]
def levTxt : CF.Leaf → Str
  | .frm _ _ a _ _ => keyTxt "level" a
  | .off .. => Str.empty
def markOf : CF.Leaf → Int
  | .frm _ _ _ b _ => b
  | .off _ _ b _ => b
def worthOf : CF.Leaf → Int
  | .frm _ _ _ _ c => c
  | .off _ _ _ c => c
def baseTxt (l : CF.Leaf) : Str := CT.num (CT.Leaf.want l) ++ " " ++ CT.Leaf.kind' l ++ " " ++ CT.orText l.words
theorem leaf_txt (l : CF.Leaf) : CT.leafRow l = baseTxt l ++ levTxt l ++ keyTxt "mark" (markOf l) ++ keyTxt "worth" (worthOf l) := by
  have hb : Str.join " " [CT.num (CT.Leaf.want l), CT.Leaf.kind' l, CT.orText l.words] = baseTxt l := by
    unfold baseTxt
    rw [CT.join_two, CT.join_two, CT.join_one]
    simp only [Str.append_assoc]
  rw [CT.leafRow_shown]
  cases l with
  | frm n ws a b c =>
    unfold CT.tailParts
    rw [← List.append_assoc, ← List.append_assoc, join_key _ _ _ (by simp), join_key _ _ _ (by simp), join_key _ _ _ (by simp), hb]
    rfl
  | off n ws b c =>
    unfold CT.tailParts
    rw [← List.append_assoc, join_key _ _ _ (by simp), join_key _ _ _ (by simp), hb]
    show _ = baseTxt _ ++ Str.empty ++ _ ++ _
    rw [Str.append_empty]
    rfl
theorem left_worth : CT.leftOut "worth" = 1 := by decide +kernel
theorem kind_len (l : CF.Leaf) : (CT.Leaf.kind' l).length ≤ 4 := by
  cases l with
  | frm n ws a b c => show ("from" : Str).length ≤ 4; decide +kernel
  | off n ws b c => show ("of" : Str).length ≤ 4; decide +kernel
theorem key_txt {k kk : Str} {n : Int} (hk : kk = " " ++ k ++ " ") (h : n ≠ CT.leftOut k) : kk ++ CT.num n = keyTxt k n := by
  unfold keyTxt
  rw [if_neg h, hk]
theorem key_len {k : Str} {n : Int} (hk : k.length ≤ 5) (h0 : 0 ≤ n) (h1 : n < 10 ^ 60) : (keyTxt k n).length ≤ 67 := by
  unfold keyTxt
  have ln : (CT.num n).length ≤ 60 := (num_text h0 h1).most
  have lb : (" " : Str).length = 1 := by decide +kernel
  have le : Str.empty.length = 0 := rfl
  split
  · omega
  · simp only [Str.length_append]
    omega
def sp_q19 (K : PySem.W.Frag) : Sp := fun vs H Q _ => ∃ (x : V) (l : CF.Leaf), vs = [x] ∧ DataAt K H x l.data ∧ l.Good ∧ Q (.str (CT.leafRow l)) H
theorem ok_q19 {f : Addr} {fd : FuncData} (F : Fun K "_law_leaf_line" "_law_leaf_line" s_q19 f fd) (T : Txt K mg a) : FnOk P w K mg base CX0 1 f fd ["_law_leaf_here"] (sp_q19 K) := by
  refine F.ok sc_q19 (fun vs H Q E h => ?_) (fun cdv A outer s H vs Q E hr h => ?_)
  · obtain ⟨x, l, rfl, _⟩ := h
    rfl
  · obtain ⟨x, l, rfl, hx, hg, q⟩ := h
    refine ⟨_, (pss_cons (psN (i := 1) (sc := defScope s_q19) (M := N_q19) rfl rfl (by decide +kernel) (pe_op op_add_str (pe_op op_add_str (pe_op op_add_str (pe_op op_add_str (pe_callTyN (sc := defScope s_q19) call_str_int rfl (by decide +kernel) T.z_str bt_str (pa_cons (pe_ix ix_tup (pvA 0 (defScope s_q19) N_q19 rfl rfl) pe_int (fun _ _ => rfl)) pa_nil)) pe_str) (pe_ix ix_tup (pvA 0 (defScope s_q19) N_q19 rfl rfl) pe_int (fun _ _ => rfl))) pe_str) (pe_bm PySem.F.plainAttrs_str PySem.F.slot_str_join PySem.F.type_str_join mt_join pe_str (pa_cons (pe_ix ix_tup (pvA 0 (defScope s_q19) N_q19 rfl rfl) pe_int (fun _ _ => rfl)) pa_nil))))
      (pss_cut (ps_if (pt_cmpR op_eq (pe_callBN (sc := defScope s_q19) call_len rfl (by decide +kernel) T.z_len bt_len (pa_cons (pe_ix ix_tup (pvA 0 (defScope s_q19) N_q19 rfl rfl) pe_int (fun _ _ => rfl)) pa_nil)) pe_int (nomark _)) (pss_one (psN (i := 1) (sc := defScope s_q19) (M := N_q19) rfl rfl (by decide +kernel) (pe_op op_add_str (pvA 1 (defScope s_q19) N_q19 rfl rfl) pe_str))) pss_nil)
      (pss_cut (ps_if (PW.pt (pw_and (pt_cmpR op_eq (pe_ix ix_tup (pvA 0 (defScope s_q19) N_q19 rfl rfl) pe_int (fun _ _ => rfl)) pe_str (nomark _)) (pw_and1 (pt_cmpR op_ne (pe_ix ix_tup (pvA 0 (defScope s_q19) N_q19 rfl rfl) pe_int (fun _ _ => rfl)) pe_int (nomark _))))) (pss_one (psN (i := 1) (sc := defScope s_q19) (M := N_q19) rfl rfl (by decide +kernel) (pe_op op_add_str (pe_op op_add_str (pvA 1 (defScope s_q19) N_q19 rfl rfl) pe_str) (pe_callTyN (sc := defScope s_q19) call_str_int rfl (by decide +kernel) T.z_str bt_str (pa_cons (pe_ix ix_tup (pvA 0 (defScope s_q19) N_q19 rfl rfl) pe_int (fun _ _ => rfl)) pa_nil))))) pss_nil)
      (pss_cut (ps_if (pt_cmpR op_ne (pe_ix ix_tup (pvA 0 (defScope s_q19) N_q19 rfl rfl) (pe_un un_neg pe_int) (fun _ _ => rfl)) pe_int (nomark _)) (pss_one (psN (i := 1) (sc := defScope s_q19) (M := N_q19) rfl rfl (by decide +kernel) (pe_op op_add_str (pe_op op_add_str (pvA 1 (defScope s_q19) N_q19 rfl rfl) pe_str) (pe_callTyN (sc := defScope s_q19) call_str_int rfl (by decide +kernel) T.z_str bt_str (pa_cons (pe_ix ix_tup (pvA 0 (defScope s_q19) N_q19 rfl rfl) (pe_un un_neg pe_int) (fun _ _ => rfl)) pa_nil))))) pss_nil)
      (pss_cut (ps_if (pt_cmpR op_ne (pe_ix ix_tup (pvA 0 (defScope s_q19) N_q19 rfl rfl) (pe_un un_neg pe_int) (fun _ _ => rfl)) pe_int (nomark _)) (pss_one (psN (i := 1) (sc := defScope s_q19) (M := N_q19) rfl rfl (by decide +kernel) (pe_op op_add_str (pe_op op_add_str (pvA 1 (defScope s_q19) N_q19 rfl rfl) pe_str) (pe_callTyN (sc := defScope s_q19) call_str_int rfl (by decide +kernel) T.z_str bt_str (pa_cons (pe_ix ix_tup (pvA 0 (defScope s_q19) N_q19 rfl rfl) (pe_un un_neg pe_int) (fun _ _ => rfl)) pa_nil))))) pss_nil)
      (pss_one (ps_ret (pvA 1 (defScope s_q19) N_q19 rfl rfl)))))))), ?_⟩
    have hs : sizeLine = 16777216 := sizeLine_eq
    obtain ⟨t, p, rfl, et, ep⟩ := CF.Leaf.tup hx
    rw [CT.hd_is] at et
    have hw := CT.want_ok hg
    have hwd := CT.words_good hg
    have lw : l.words.length ≤ 8 := hwd.2.2
    have wl : ∀ r ∈ l.words, r.length ≤ 60 := fun r hr => by have := (CW.isWord_iff.mp (hwd.1 r hr)).2.1; omega
    have lj := CT.join_len " or " 60 l.words wl
    have lor : (" or " : Str).length = 4 := by decide +kernel
    rw [lor] at lj
    have lj' : l.words.length * (60 + 4) ≤ 8 * 64 := Nat.mul_le_mul_right _ lw
    have ln := (num_text hw.1 (CT.lt_big hw.2)).most
    have lk : (CT.Leaf.kind' l).length ≤ 4 := kind_len l
    have lb : (" " : Str).length = 1 := by decide +kernel
    have i0 : atI (V.str (CT.Leaf.kind' l) :: .int (CT.Leaf.want l) :: V.ref p :: l.tl) 0 = some (.str (CT.Leaf.kind' l)) := CF.atI_zero
    have i1 : atI (V.str (CT.Leaf.kind' l) :: .int (CT.Leaf.want l) :: V.ref p :: l.tl) 1 = some (.int (CT.Leaf.want l)) := atI_nat (j := 1) rfl
    have i2 : atI (V.str (CT.Leaf.kind' l) :: .int (CT.Leaf.want l) :: V.ref p :: l.tl) 2 = some (.ref p) := atI_nat (j := 2) rfl
    have im : atI (V.str (CT.Leaf.kind' l) :: .int (CT.Leaf.want l) :: V.ref p :: l.tl) (-2) = some (.int (markOf l)) := by cases l <;> rfl
    have iw : atI (V.str (CT.Leaf.kind' l) :: .int (CT.Leaf.want l) :: V.ref p :: l.tl) (-1) = some (.int (worthOf l)) := by cases l <;> rfl
    have hmk : 0 ≤ markOf l ∧ markOf l < 10 ^ 60 := by
      cases l with
      | frm n ws a b c => exact hg.2.2.2.1
      | off n ws b c => exact hg.2.2.2.1
    have hwo : 0 ≤ worthOf l ∧ worthOf l < 10 ^ 60 := by
      cases l with
      | frm n ws a b c => have h := hg.2.2.2.2; exact ⟨by show 0 ≤ c; omega, CT.lt_big (by show c ≤ 60; omega)⟩
      | off n ws b c => have h := hg.2.2.2.2; exact ⟨by show 0 ≤ c; omega, CT.lt_big (by show c ≤ 60; omega)⟩
    have hS : SqL K H p (l.words.map V.str) := .inl ep
    rw [leaf_txt] at q
    refine ⟨_, rfl, t, _, _, _, rfl, rfl, SqT.of et, i1, _, rfl, num_log hw.1 (CT.lt_big hw.2), _, _, rfl, rfl, ?_, _, rfl, t, _, _, _, rfl, rfl, SqT.of et, i0, _, _, rfl, rfl, ?_, _, _, rfl, rfl, ?_, rfl, _, rfl, t, _, _, _, rfl, rfl, SqT.of et, i2, _, p, _, rfl, rfl, hS, ?_, _, _, rfl, rfl, ?_, ?_⟩
    · rw [lb]; omega
    · rw [Str.length_append, lb]; omega
    · rw [Str.length_append, Str.length_append, lb]; omega
    · exact join_ok (fun r hr => Nat.le_trans (wl r hr) (by decide)) (by omega) (by decide +kernel)
    · rw [txt_join]
      simp only [Str.length_append]
      omega
    have lbs : (baseTxt l).length ≤ 700 := by
      unfold baseTxt CT.orText
      have : ("any" : Str).length = 3 := by decide +kernel
      have ln' : (CT.num (CT.Leaf.want l)).length ≤ 60 := ln
      split
      · simp only [Str.length_append]
        omega
      · simp only [Str.length_append]
        omega
    rw [txt_join]
    refine ⟨fun σ' H' => σ' = [some (.ref t), some (.str (baseTxt l))] ∧ H' = H, ?_, ?_⟩
    · refine ⟨_, rfl, t, _, _, _, rfl, rfl, SqT.of et, i2, .ref p, l.words.length, rfl, .inl ⟨_, hS, by rw [List.length_map]⟩, rfl, _, rfl, ite2 (fun z => ?_) (fun z => ?_)⟩
      · have hnil : l.words = [] := List.eq_nil_of_length_eq_zero (by have := V.int.inj (of_decide_eq_true z); omega)
        refine ⟨_, rfl, _, _, rfl, rfl, ?_, ?_, rfl⟩
        · have : ("any" : Str).length = 3 := by decide +kernel
          simp only [Str.length_append]
          omega
        · unfold baseTxt CT.orText
          rw [if_pos hnil, hnil]
          show _ = [some (V.ref t), some (V.str _)]
          rw [show Str.join " or " [] = Str.empty from rfl, Str.append_empty]
          rfl
      · have hne : l.words ≠ [] := fun w => z (by rw [w]; decide)
        refine ⟨?_, rfl⟩
        unfold baseTxt CT.orText
        rw [if_neg hne]
        rfl
    rintro σ' H' ⟨rfl, rfl⟩
    refine ⟨fun σ' H'' => σ' = [some (.ref t), some (.str (baseTxt l ++ levTxt l))] ∧ H'' = H', ?_, ?_⟩
    · cases l with
      | off n ws b c =>
        refine ⟨_, rfl, t, _, _, _, rfl, rfl, SqT.of et, i0, rfl, _, rfl, iteF ⟨?_, rfl⟩⟩
        show _ = [some (V.ref t), some (V.str (baseTxt _ ++ Str.empty))]
        rw [Str.append_empty]
      | frm n ws a b c =>
        have ha : 0 ≤ a ∧ a < 10 ^ 60 := hg.2.2.1
        have la := (num_text ha.1 ha.2).most
        have lt : (" level " : Str).length = 7 := by decide +kernel
        refine ⟨_, rfl, t, _, _, _, rfl, rfl, SqT.of et, i0, rfl, _, rfl, iteT ⟨_, rfl, t, _, _, _, rfl, rfl, SqT.of et, atI_nat (j := 3) rfl, rfl, _, rfl, ?_⟩⟩
        by_cases h0 : a = 0
        · rw [decide_eq_true (show V.int a = V.int 0 by rw [h0])]
          refine iteF ⟨?_, rfl⟩
          show _ = [some (V.ref t), some (V.str (baseTxt _ ++ keyTxt "level" a))]
          unfold keyTxt
          rw [if_pos (by rw [CT.left_lm.1]; exact h0), Str.append_empty]
        · rw [decide_eq_false (show V.int a ≠ V.int 0 from fun z => h0 (V.int.inj z))]
          refine iteT ⟨_, rfl, _, _, rfl, rfl, by omega, _, rfl, t, _, _, _, rfl, rfl, SqT.of et, atI_nat (j := 3) rfl, _, rfl, num_log ha.1 ha.2, _, _, rfl, rfl, by rw [Str.length_append]; omega, ?_, rfl⟩
          show [some (V.ref t), some (V.str (baseTxt _ ++ " level " ++ CT.num a))] = [some (V.ref t), some (V.str (baseTxt _ ++ keyTxt "level" a))]
          rw [Str.append_assoc, key_txt (k := "level") (by decide +kernel) (by rw [CT.left_lm.1]; exact h0)]
    rintro σ' H'' ⟨rfl, rfl⟩
    have llev : (levTxt l).length ≤ 67 := by
      cases l with
      | frm n ws a b c => exact key_len (by decide +kernel) hg.2.2.1.1 hg.2.2.1.2
      | off n ws b c => exact Nat.zero_le _
    refine ⟨fun σ' H' => σ' = [some (.ref t), some (.str (baseTxt l ++ levTxt l ++ keyTxt "mark" (markOf l)))] ∧ H' = H'', ?_, ?_⟩
    · have la := (num_text hmk.1 hmk.2).most
      have lt : (" mark " : Str).length = 6 := by decide +kernel
      refine ⟨_, rfl, _, rfl, t, _, _, _, rfl, rfl, SqT.of et, im, rfl, _, rfl, ?_⟩
      by_cases h0 : markOf l = 0
      · rw [decide_eq_true (show V.int (markOf l) = V.int 0 by rw [h0])]
        refine iteF ⟨?_, rfl⟩
        unfold keyTxt
        rw [if_pos (by rw [CT.left_lm.2]; exact h0), Str.append_empty]
      · rw [decide_eq_false (show V.int (markOf l) ≠ V.int 0 from fun z => h0 (V.int.inj z))]
        refine iteT ⟨_, rfl, _, _, rfl, rfl, by rw [Str.length_append]; omega, _, rfl, _, rfl, t, _, _, _, rfl, rfl, SqT.of et, im, _, rfl, num_log hmk.1 hmk.2, _, _, rfl, rfl, by simp only [Str.length_append]; omega, ?_, rfl⟩
        show [some (V.ref t), some (V.str (baseTxt l ++ levTxt l ++ " mark " ++ CT.num (markOf l)))] = _
        rw [Str.append_assoc (baseTxt l ++ levTxt l), key_txt (k := "mark") (by decide +kernel) (by rw [CT.left_lm.2]; exact h0)]
    rintro σ' H' ⟨rfl, rfl⟩
    have lmark := key_len (k := "mark") (by decide +kernel) hmk.1 hmk.2
    refine ⟨fun σ' H'' => σ' = [some (.ref t), some (.str (baseTxt l ++ levTxt l ++ keyTxt "mark" (markOf l) ++ keyTxt "worth" (worthOf l)))] ∧ H'' = H', ?_, ?_⟩
    · have la := (num_text hwo.1 hwo.2).most
      have lt : (" worth " : Str).length = 7 := by decide +kernel
      refine ⟨_, rfl, _, rfl, t, _, _, _, rfl, rfl, SqT.of et, iw, rfl, _, rfl, ?_⟩
      by_cases h0 : worthOf l = 1
      · rw [decide_eq_true (show V.int (worthOf l) = V.int 1 by rw [h0])]
        refine iteF ⟨?_, rfl⟩
        unfold keyTxt
        rw [if_pos (show worthOf l = CT.leftOut "worth" by rw [left_worth]; exact h0), Str.append_empty]
      · rw [decide_eq_false (show V.int (worthOf l) ≠ V.int 1 from fun z => h0 (V.int.inj z))]
        refine iteT ⟨_, rfl, _, _, rfl, rfl, by simp only [Str.length_append]; omega, _, rfl, _, rfl, t, _, _, _, rfl, rfl, SqT.of et, iw, _, rfl, num_log hwo.1 hwo.2, _, _, rfl, rfl, by simp only [Str.length_append]; omega, ?_, rfl⟩
        show [some (V.ref t), some (V.str (baseTxt l ++ levTxt l ++ keyTxt "mark" (markOf l) ++ " worth " ++ CT.num (worthOf l)))] = _
        rw [Str.append_assoc (baseTxt l ++ levTxt l ++ keyTxt "mark" (markOf l)), key_txt (k := "worth") (by decide +kernel) (by rw [left_worth]; exact h0)]
    rintro σ' H'' ⟨rfl, rfl⟩
    exact ⟨_, rfl, q⟩
def sp_q20 (K : PySem.W.Frag) (n : Nat) : Sp := fun vs H Q _ => ∃ (x : V) (r : CF.Rule), vs = [x] ∧ DataAt K H x r.data ∧ r.depth < n ∧ r.Good ∧ (CT.ruleRows r).length ≤ 1000 ∧ ∀ H' p, Same H H' → H p = none → H' p = some (.lst ((CT.ruleRows r).map V.str)) → Q (.ref p) H'
theorem none_q20 {vs : List V} {H : Hp} {Q : VK} {E : XK} (h : sp_q20 K 0 vs H Q E) : False := by
  obtain ⟨x, r, _, _, h, _⟩ := h
  omega
theorem step_q20 {n : Nat} {fd_q20 fd_q19 : FuncData} (T : Txt K mg a)
    (G_q19 : FnOk P w K mg base CX0 1 a.law_leaf_line fd_q19 ["_law_leaf_here"] (sp_q19 K)) (F_q19 : Fun K "_law_leaf_line" "_law_leaf_line" s_q19 a.law_leaf_line fd_q19) (b_q19 : Binds K fd_q19 ["_law_leaf_here"] [])
    (G_q20 : FnOk P w K mg base CX0 (2 + n) a.law_lines fd_q20 ["_law_rule_here"] (sp_q20 K n)) (F_q20 : Fun K "_law_lines" "_law_lines" s_q20 a.law_lines fd_q20) (b_q20 : Binds K fd_q20 ["_law_rule_here"] []) : FnOk P w K mg base CX0 (2 + n + 1) a.law_lines fd_q20 ["_law_rule_here"] (sp_q20 K (n + 1)) := by
  have F := F_q20
  refine F.ok sc_q20 (fun vs H Q E h => ?_) (fun cdv A outer s H vs Q E hr h => ?_)
  · obtain ⟨x, r, rfl, _⟩ := h
    rfl
  · obtain ⟨x, r, rfl, hx, hd, hg, hm, q⟩ := h
    refine ⟨_, (pss_cons (ps_if (PW.pt (pw_or (pt_cmpR op_eq (pe_ix ix_tup (pvA 0 (defScope s_q20) N_q20 rfl rfl) pe_int (fun _ _ => rfl)) pe_str (nomark _)) (pw_or1 (pt_cmpR op_eq (pe_ix ix_tup (pvA 0 (defScope s_q20) N_q20 rfl rfl) pe_int (fun _ _ => rfl)) pe_str (nomark _))))) (pss_one (ps_ret (pe_lst (pa_cons (pe_callN (sc := defScope s_q20) G_q19 (hr.mono (by omega)) rfl (by decide +kernel) T.m_q19 F_q19.kp b_q19 .nil pass0 (pa_cons (pvA 0 (defScope s_q20) N_q20 rfl rfl) pa_nil)) pa_nil)))) pss_nil)
      (pss_cons (psN (i := 1) (sc := defScope s_q20) (M := N_q20) rfl rfl (by decide +kernel) (pe_lst (pa_cons pe_str pa_nil)))
      (pss_cut (ps_if (pt_cmpR op_eq (pe_ix ix_tup (pvA 0 (defScope s_q20) N_q20 rfl rfl) pe_int (fun _ _ => rfl)) pe_str (nomark _)) (pss_one (psN (i := 1) (sc := defScope s_q20) (M := N_q20) rfl rfl (by decide +kernel) (pe_lst (pa_cons (pe_op op_add_str (pe_op op_add_str pe_str (pe_callTyN (sc := defScope s_q20) call_str_int rfl (by decide +kernel) T.z_str bt_str (pa_cons (pe_ix ix_tup (pvA 0 (defScope s_q20) N_q20 rfl rfl) pe_int (fun _ _ => rfl)) pa_nil))) pe_str) pa_nil)))) pss_nil)
      (pss_cons (ps_for PassesOwn.never rfl (pi_list (pe_ix ix_tup (pvA 0 (defScope s_q20) N_q20 rfl rfl) (pe_un un_neg pe_int) (fun _ _ => rfl))) (pgN (i := 2) (sc := defScope s_q20) (M := N_q20) rfl rfl (by decide +kernel)) (pss_one (psN (i := 1) (sc := defScope s_q20) (M := N_q20) rfl rfl (by decide +kernel) (pe_op op_cat (pvA 1 (defScope s_q20) N_q20 rfl rfl) (pe_callN (sc := defScope s_q20) G_q20 (hr.mono (by omega)) rfl (by decide +kernel) T.m_q20 F_q20.kp b_q20 .nil pass0 (pa_cons (pvA 2 (defScope s_q20) N_q20 rfl rfl) pa_nil))))))
      (pss_one (ps_ret (pe_op op_cat (pvA 1 (defScope s_q20) N_q20 rfl rfl) (pe_lst (pa_cons pe_str pa_nil))))))))), ?_⟩
    have hs : sizeLine = 16777216 := sizeLine_eq
    obtain ⟨t, ys, rfl, et⟩ := CF.Rule.tup hx
    have hk := CF.Rule.isLeaf_kind r
    refine and_rest (B := r.isLeaf = true → _) ?lf fun hL => and_rest (B := r.isLeaf = false → _) ?gr fun hG => ⟨_, rfl, t, _, _, _, rfl, rfl, SqT.of et, CF.atI_zero, rfl, _, rfl, ite2 (fun h1 => iteT (hL (by rw [← hk, decide_eq_true (V.str.inj (of_decide_eq_true h1)), Bool.true_or]))) (fun h1 => ⟨_, rfl, t, _, _, _, rfl, rfl, SqT.of et, CF.atI_zero, rfl, _, rfl, ite2 (fun h2 => hL (by rw [← hk, decide_eq_true (V.str.inj (of_decide_eq_true h2)), Bool.or_true])) (fun h2 => hG (by rw [← hk, decide_eq_false (fun z => h1 (decide_eq_true (by rw [z]))), decide_eq_false (fun z => h2 (decide_eq_true (by rw [z])))]; rfl))⟩)⟩
    case lf =>
      intro hl
      cases r with
      | allr rs => cases hl
      | somr m rs => cases hl
      | leaf l =>
        rw [show CT.ruleRows (.leaf l) = [CT.leafRow l] by unfold CT.ruleRows; rfl] at q
        unfold CF.Rule.data at hx
        unfold CF.Rule.Good at hg
        exact ⟨_, rfl, _, l, rfl, hx, hg, by first | decide | (simp only [List.length_cons, List.length_nil, List.length_append, List.length_map]; decide), fun p hp => q _ p (Same.upd0 hp) hp upd_same⟩
    case gr =>
      intro hl
      obtain ⟨g, rs, er, hgs, hl16, hgn, erows, edep⟩ := grp_of hl hg
      obtain ⟨t', p, xs, e', et2, ep, hA⟩ := CF.Rule.grp hx hl
      cases e'
      have eh : r.head = CT.ghV g := by rw [er]; exact CT.gh_head g rs
      have eru : r.rules = rs := by rw [er]; exact CT.gh_rules g rs
      rw [eh] at et2
      rw [eru] at hA
      rw [erows] at q hm
      rw [List.length_cons, List.length_append, List.length_singleton] at hm
      refine ⟨by first | decide | (simp only [List.length_cons, List.length_nil, List.length_append, List.length_map]; decide), fun p0 hp0 => ?_⟩
      have s0 := Same.upd0 (o := .lst [V.str "all"]) hp0
      have e0 : upd H p0 (.lst [V.str "all"]) p0 = some (.lst [V.str "all"]) := upd_same
      generalize upd H p0 (.lst [V.str "all"]) = H0 at s0 e0 ⊢
      refine ⟨fun σ' H' => ∃ pl, σ' = [some (.ref t), some (.ref pl), none] ∧ Same H H' ∧ H pl = none ∧ H' pl = some (.lst [V.str (CT.headRow g)]), ?_, ?_⟩
      · cases g with
        | all => exact ⟨_, rfl, t, _, _, _, rfl, rfl, SqT.of (s0 _ _ et2), CF.atI_zero, rfl, _, rfl, iteF ⟨p0, rfl, s0, hp0, e0⟩⟩
        | some m =>
          have hn := hgn m rfl
          have l3 := (num_text (n := m) (by omega) (CT.lt_big (by omega))).most
          have lo : ("some " : Str).length = 5 := by decide +kernel
          have lf : (" of" : Str).length = 3 := by decide +kernel
          refine ⟨_, rfl, t, _, _, _, rfl, rfl, SqT.of (s0 _ _ et2), CF.atI_zero, rfl, _, rfl, iteT ⟨_, rfl, t, _, _, _, rfl, rfl, SqT.of (s0 _ _ et2), atI_nat (j := 1) rfl, _, rfl, num_log (by omega) (CT.lt_big (by omega)), _, _, rfl, rfl, by omega, _, _, rfl, rfl, by rw [Str.length_append]; omega, by first | decide | (simp only [List.length_cons, List.length_nil, List.length_append, List.length_map]; decide), fun p1 hp1 => ⟨p1, rfl, s0.trans (Same.upd0 hp1), s0.free hp1, upd_same⟩⟩⟩
      rintro σ' H1 ⟨pl, rfl, s1, npl, e1⟩
      refine ⟨_, rfl, _, rfl, t, _, _, _, rfl, rfl, SqT.of (s1 _ _ et2), atI_last _ _, p, rfl, ⟨_, .inl (Rd.same s1 ep)⟩, ?_⟩
      have lx := DataAll.length hA
      rw [CF.Rule.datas_map, List.length_map] at lx
      refine for_list (xs := xs) (fun i σ H' => ∃ pf v, σ = [some (.ref t), some (.ref pf), v] ∧ Same H H' ∧ H pf = none ∧ H' pf = some (.lst ((CT.headRow g :: CT.rulesRows (rs.take i)).map V.str))) ⟨pl, _, rfl, s1, npl, by rw [List.take_zero, CT.rulesRows_nil]; exact e1⟩ ?_ ?_ ?_
      · rintro i σ H' _ ⟨pf, v, _, s', _⟩
        exact .inl (Rd.same s' ep)
      · rintro i y σ H' hy ⟨pf, v, rfl, s3, npf, e3⟩
        obtain ⟨d, ed, hyd⟩ := DataAll.back hA hy
        rw [CF.Rule.datas_map, List.getElem?_map] at ed
        obtain ⟨r1, er1, rfl⟩ := Option.map_eq_some_iff.mp ed
        have hmem := List.mem_of_getElem? er1
        have hd1 := CF.Rule.depths_mem hmem
        have eT : CT.rulesRows (rs.take (i + 1)) = CT.rulesRows (rs.take i) ++ CT.ruleRows r1 := by
          rw [take_snoc er1, CT.rulesRows_app, CT.rulesRows_one]
        have hsum : (CT.rulesRows (rs.take i)).length + (CT.ruleRows r1).length ≤ (CT.rulesRows rs).length := by
          rw [← List.length_append, ← eT]
          conv => rhs; rw [← List.take_append_drop (i + 1) rs, CT.rulesRows_app, List.length_append]
          exact Nat.le_add_right _ _
        refine ⟨_, rfl, _, rfl, y, r1, rfl, DataAt.up hyd s3, by omega, CF.Rule.goods_iff.mp hgs r1 hmem, by omega, fun H4 p4 s4 np4 e4 => ?_⟩
        refine ⟨pf, p4, _, _, rfl, rfl, s4 _ _ e3, e4, ?_, fun p5 hp5 => ⟨p5, _, rfl, (s3.trans s4).trans (Same.upd0 hp5), (s3.trans s4).free hp5, ?_⟩⟩
        · rw [List.length_map, List.length_map, List.length_cons]
          omega
        · rw [upd_same, eT, ← List.map_append, List.cons_append]
      · rintro σ H' ⟨pf, v, rfl, s3, npf, e3⟩
        rw [lx, List.take_length] at e3
        refine ⟨_, rfl, by first | decide | (simp only [List.length_cons, List.length_nil, List.length_append, List.length_map]; decide), fun pe hpe => ?_⟩
        have s4 := s3.trans (Same.upd0 (o := .lst [V.str "end"]) hpe)
        refine ⟨pf, pe, _, _, rfl, rfl, (Same.upd0 hpe) _ _ e3, upd_same, ?_, fun p5 hp5 => q _ p5 (s4.trans (Same.upd0 hp5)) (s4.free hp5) ?_⟩
        · rw [List.length_map, List.length_cons, List.length_singleton]
          omega
        · rw [upd_same, ← List.cons_append, List.map_append]
          rfl
theorem ok_q20 {fd_q20 fd_q19 : FuncData} (T : Txt K mg a)
    (G_q19 : FnOk P w K mg base CX0 1 a.law_leaf_line fd_q19 ["_law_leaf_here"] (sp_q19 K)) (F_q19 : Fun K "_law_leaf_line" "_law_leaf_line" s_q19 a.law_leaf_line fd_q19) (b_q19 : Binds K fd_q19 ["_law_leaf_here"] [])
    (F_q20 : Fun K "_law_lines" "_law_lines" s_q20 a.law_lines fd_q20) (b_q20 : Binds K fd_q20 ["_law_rule_here"] []) : FnOk P w K mg base CX0 10 a.law_lines fd_q20 ["_law_rule_here"] (sp_q20 K 8) := by
  have h : ∀ n, FnOk P w K mg base CX0 (2 + n) a.law_lines fd_q20 ["_law_rule_here"] (sp_q20 K n) := fun n => by
    induction n with
    | zero => exact ⟨fun vs H Q E h => (none_q20 h).elim, fun A outer s H args us vs Q E _ _ _ _ h => (none_q20 h).elim⟩
    | succ n ih => exact step_q20 T G_q19 F_q19 b_q19 ih F_q20 b_q20
  exact h 8
inductive Pl : PyData → Prop
  | str (t : Str) : Pl (.str t)
  | int (n : Int) : Pl (.int n)
  | list (ds : List PyData) (h : ∀ d ∈ ds, Pl d) : Pl (.list ds)
  | tuple (ds : List PyData) (h : ∀ d ∈ ds, Pl d) : Pl (.tuple ds)
theorem fm_const (l : List V) : l.filterMap (fun _ => some (V.bl true)) = (List.replicate l.length true).map V.bl := by
  induction l with
  | nil => rfl
  | cons a l ih =>
    rw [List.filterMap_cons, ih]
    rfl
theorem rep_all (k : Nat) : (List.replicate k true).all id = true := by
  induction k with
  | zero => rfl
  | succ k ih => exact ih
theorem kita_str : PySem.W.kitAny K (.type "str") (["list", "tuple"].map Value.type) = some false := by kernel_rfl
theorem kita_int : PySem.W.kitAny K (.type "int") (["list", "tuple"].map Value.type) = some false := by kernel_rfl
theorem kita_list : PySem.W.kitAny K (.type "list") (["list", "tuple"].map Value.type) = some true := by kernel_rfl
theorem kita_tuple : PySem.W.kitAny K (.type "tuple") (["list", "tuple"].map Value.type) = some true := by kernel_rfl
theorem kit_int_str : PySem.W.kitOne K (.type "int") (.type "str") = some false := by kernel_rfl
theorem kit_int_bool : PySem.W.kitOne K (.type "int") (.type "bool") = some false := by kernel_rfl
def sp_q13 (K : PySem.W.Frag) (n : Nat) : Sp := fun vs H Q _ => ∃ (x y : V) (d : PyData) (D : Hp), vs = [x, y] ∧ Same D H ∧ DataAt K D x d ∧ DataAt K D y d ∧ d.depth < n ∧ CF.small d ∧ Pl d ∧ ∀ H', Same H H' → Q (.bl true) H'
theorem none_q13 {vs : List V} {H : Hp} {Q : VK} {E : XK} (h : sp_q13 K 0 vs H Q E) : False := by
  obtain ⟨x, y, d, D, _, _, _, _, h, _⟩ := h
  omega
theorem step_q13 {n : Nat} {fd_q13 : FuncData} (T : Txt K mg a)
    (G_q13 : FnOk P w K mg base CX0 (1 + n) a.law_alike fd_q13 ["_law_found", "_law_due"] (sp_q13 K n)) (F_q13 : Fun K "_law_alike" "_law_alike" s_q13 a.law_alike fd_q13) (b_q13 : Binds K fd_q13 ["_law_found", "_law_due"] []) : FnOk P w K mg base CX0 (1 + n + 1) a.law_alike fd_q13 ["_law_found", "_law_due"] (sp_q13 K (n + 1)) := by
  have F := F_q13
  refine F.ok sc_q13 (fun vs H Q E h => ?_) (fun cdv A outer s H vs Q E hr h => ?_)
  · obtain ⟨x, y, d, D, rfl, _⟩ := h
    rfl
  · obtain ⟨x, y, d, D, rfl, sD, hx, hy, hd, hsm, hpl, q⟩ := h
    refine ⟨_, (pss_cons (ps_if (pt_val (pe_callBN (sc := defScope s_q13) L9.call_isiT rfl (by decide +kernel) T.z_isinstance bt_isinstance (pa_cons (pvA 1 (defScope s_q13) N_q13 rfl rfl) (pa_cons (pe_tup (pa_cons (pe_bltN (v := V.ty "list") (sc := defScope s_q13) rfl (by decide +kernel) T.z_list bt_list rfl) (pa_cons (pe_bltN (v := V.ty "tuple") (sc := defScope s_q13) rfl (by decide +kernel) T.z_tuple bt_tuple rfl) pa_nil))) pa_nil)))) (pss_cons (ps_if (PW.pt (pw_or (pt_cmpR op_ne (pe_callBN (sc := defScope s_q13) call_isi rfl (by decide +kernel) T.z_isinstance bt_isinstance (pa_cons (pvA 0 (defScope s_q13) N_q13 rfl rfl) (pa_cons (pe_bltN (v := V.ty "list") (sc := defScope s_q13) rfl (by decide +kernel) T.z_list bt_list rfl) pa_nil))) (pe_callBN (sc := defScope s_q13) call_isi rfl (by decide +kernel) T.z_isinstance bt_isinstance (pa_cons (pvA 1 (defScope s_q13) N_q13 rfl rfl) (pa_cons (pe_bltN (v := V.ty "list") (sc := defScope s_q13) rfl (by decide +kernel) T.z_list bt_list rfl) pa_nil))) (nomark _)) (pw_or1 (pt_cmpR op_ne (pe_callBN (sc := defScope s_q13) call_isi rfl (by decide +kernel) T.z_isinstance bt_isinstance (pa_cons (pvA 0 (defScope s_q13) N_q13 rfl rfl) (pa_cons (pe_bltN (v := V.ty "tuple") (sc := defScope s_q13) rfl (by decide +kernel) T.z_tuple bt_tuple rfl) pa_nil))) (pe_callBN (sc := defScope s_q13) call_isi rfl (by decide +kernel) T.z_isinstance bt_isinstance (pa_cons (pvA 1 (defScope s_q13) N_q13 rfl rfl) (pa_cons (pe_bltN (v := V.ty "tuple") (sc := defScope s_q13) rfl (by decide +kernel) T.z_tuple bt_tuple rfl) pa_nil))) (nomark _))))) (pss_one (ps_ret pe_bl)) pss_nil)
      (pss_cons (ps_if (pt_cmpR op_ne (pe_callBN (sc := defScope s_q13) call_len rfl (by decide +kernel) T.z_len bt_len (pa_cons (pvA 0 (defScope s_q13) N_q13 rfl rfl) pa_nil)) (pe_callBN (sc := defScope s_q13) call_len rfl (by decide +kernel) T.z_len bt_len (pa_cons (pvA 1 (defScope s_q13) N_q13 rfl rfl) pa_nil)) (nomark _)) (pss_one (ps_ret pe_bl)) pss_nil)
      (pss_one (ps_ret (pe_callBN (sc := defScope s_q13) (call_allL rfl) rfl (by decide +kernel) T.z_all bt_all (pa_cons (pe_comp rfl (N := ["_law_k", "_law_found", "_law_due"]) (own := 1) (js := [0, 1]) (X := (cxOf CX0 P w K mg base N_q13 "_law_alike" (defScope s_q13) a.law_alike cdv A outer s H E).nox) (compOk (defScope s_q13) N_q13 rfl rfl (by decide +kernel)) (pi_range1 (glR (sc := defScope s_q13) rfl (by decide +kernel)) T.z_range (pa_cons (pe_callBN (sc := defScope s_q13) call_len rfl (by decide +kernel) T.z_len bt_len (pa_cons (pvA 1 (defScope s_q13) N_q13 rfl rfl) pa_nil)) pa_nil)) (fun fp0 sx0 Hx0 => (pgN (i := 0) (sc := relabelS _ (defScope s_q13)) (M := ["_law_k", "_law_found", "_law_due"]) rfl rfl (by decide +kernel))) (fun fp0 sx0 Hx0 => pifs_nil) (fun fp0 sx0 Hx0 => (pe_callN (sc := relabelS _ (defScope s_q13)) G_q13 (hr.mono (by omega)) rfl (by decide +kernel) T.m_q13 F_q13.kp b_q13 .nil pass0 (pa_cons (pe_ix (kIx (r := rIx) (K := K) rfl ix_seq) (pvN (i := 1) (sc := relabelS _ (defScope s_q13)) (M := ["_law_k", "_law_found", "_law_due"]) rfl rfl (by decide +kernel)) (pvN (i := 0) (sc := relabelS _ (defScope s_q13)) (M := ["_law_k", "_law_found", "_law_due"]) rfl rfl (by decide +kernel)) (fun _ _ => rfl)) (pa_cons (pe_ix (kIx (r := rIx) (K := K) rfl ix_seq) (pvN (i := 2) (sc := relabelS _ (defScope s_q13)) (M := ["_law_k", "_law_found", "_law_due"]) rfl rfl (by decide +kernel)) (pvN (i := 0) (sc := relabelS _ (defScope s_q13)) (M := ["_law_k", "_law_found", "_law_due"]) rfl rfl (by decide +kernel)) (fun _ _ => rfl)) pa_nil))))) pa_nil)))))) pss_nil)
      (pss_cons (ps_if (pt_val (pe_callBN (sc := defScope s_q13) call_isi rfl (by decide +kernel) T.z_isinstance bt_isinstance (pa_cons (pvA 1 (defScope s_q13) N_q13 rfl rfl) (pa_cons (pe_bltN (v := V.ty "str") (sc := defScope s_q13) rfl (by decide +kernel) T.z_str bt_str rfl) pa_nil)))) (pss_one (ps_ret (pe_and (pe_callBN (sc := defScope s_q13) call_isi rfl (by decide +kernel) T.z_isinstance bt_isinstance (pa_cons (pvA 0 (defScope s_q13) N_q13 rfl rfl) (pa_cons (pe_bltN (v := V.ty "str") (sc := defScope s_q13) rfl (by decide +kernel) T.z_str bt_str rfl) pa_nil))) (pe_one (pe_cmpR op_eq (pvA 0 (defScope s_q13) N_q13 rfl rfl) (pvA 1 (defScope s_q13) N_q13 rfl rfl) (nomark _)))))) pss_nil)
      (pss_one (ps_ret (pe_and (pe_callBN (sc := defScope s_q13) call_isi rfl (by decide +kernel) T.z_isinstance bt_isinstance (pa_cons (pvA 0 (defScope s_q13) N_q13 rfl rfl) (pa_cons (pe_bltN (v := V.ty "int") (sc := defScope s_q13) rfl (by decide +kernel) T.z_int bt_int rfl) pa_nil))) (pe_and (pe_not (pe_callBN (sc := defScope s_q13) call_isi rfl (by decide +kernel) T.z_isinstance bt_isinstance (pa_cons (pvA 0 (defScope s_q13) N_q13 rfl rfl) (pa_cons (pe_bltN (v := V.ty "bool") (sc := defScope s_q13) rfl (by decide +kernel) T.z_bool bt_bool rfl) pa_nil)))) (pe_one (pe_cmpR op_eq (pvA 0 (defScope s_q13) N_q13 rfl rfl) (pvA 1 (defScope s_q13) N_q13 rfl rfl) (nomark _))))))))), ?_⟩
    have hs : sizeLine = 16777216 := sizeLine_eq
    cases hpl with
    | str z =>
      obtain rfl := DataAt.str hx
      obtain rfl := DataAt.str hy
      refine ⟨_, rfl, by first | decide | (simp only [List.length_cons, List.length_nil, List.length_append, List.length_map]; decide), fun tp htp => ?_⟩
      have s1 := Same.upd0 (o := .tup [V.ty "list", V.ty "tuple"]) htp
      refine ⟨_, "str", tp, ["list", "tuple"], false, rfl, rfl, upd_same, kita_str, _, rfl, iteF ?_⟩
      refine ⟨_, rfl, _, "str", "str", true, rfl, rfl, kit_str_str _, _, rfl, iteT ?_⟩
      refine ⟨_, rfl, _, "str", "str", true, rfl, rfl, kit_str_str _, _, rfl, iteT ⟨_, rfl, _, rfl, rfl, ?_⟩⟩
      rw [decide_eq_true rfl]
      exact q _ s1
    | int z =>
      obtain rfl := DataAt.int hx
      obtain rfl := DataAt.int hy
      refine ⟨_, rfl, by first | decide | (simp only [List.length_cons, List.length_nil, List.length_append, List.length_map]; decide), fun tp htp => ?_⟩
      have s1 := Same.upd0 (o := .tup [V.ty "list", V.ty "tuple"]) htp
      refine ⟨_, "int", tp, ["list", "tuple"], false, rfl, rfl, upd_same, kita_int, _, rfl, iteF ?_⟩
      refine ⟨_, rfl, _, "int", "str", false, rfl, rfl, kit_int_str, _, rfl, iteF ?_⟩
      refine ⟨_, rfl, _, "int", "int", true, rfl, rfl, kit_int_int _, _, rfl, iteT ⟨_, rfl, _, "int", "bool", false, rfl, rfl, kit_int_bool, _, rfl, _, rfl, iteT ⟨_, rfl, _, rfl, rfl, ?_⟩⟩⟩
      rw [decide_eq_true rfl]
      exact q _ s1
    | list ds hds =>
      obtain ⟨px, xs, rfl, hpx, hAx⟩ := DataAt.lst hx
      obtain ⟨py, ys, rfl, hpy, hAy⟩ := DataAt.lst hy
      have lx := DataAll.length hAx
      have ly := DataAll.length hAy
      have hsm' := CF.small_list hsm
      have hl1 := hsm'.1
      refine ⟨_, rfl, by first | decide | (simp only [List.length_cons, List.length_nil, List.length_append, List.length_map]; decide), fun tp htp => ?_⟩
      have s1 := Same.upd0 (o := .tup [V.ty "list", V.ty "tuple"]) htp
      have e1 : upd H tp (.tup [V.ty "list", V.ty "tuple"]) tp = some (.tup (["list", "tuple"].map V.ty)) := upd_same
      generalize upd H tp (.tup [V.ty "list", V.ty "tuple"]) = H1 at s1 e1 ⊢
      have sD1 := sD.trans s1
      have ex := (Rd.same sD1 hpx)
      have ey := (Rd.same sD1 hpy)
      refine ⟨_, "list", tp, ["list", "tuple"], true, rfl, (rd_ty ey), e1, kita_list, _, rfl, iteT ?_⟩
      refine ⟨_, rfl, _, "list", "list", true, rfl, (rd_ty ex), (kit_list_list _), _, rfl, _, "list", "list", true, rfl, (rd_ty ey), (kit_list_list _), rfl, _, rfl, iteF ?_⟩
      refine ⟨_, rfl, _, "list", "tuple", false, rfl, (rd_ty ex), kit_list_tuple, _, rfl, _, "list", "tuple", false, rfl, (rd_ty ey), kit_list_tuple, rfl, _, rfl, iteF ?_⟩
      refine ⟨_, rfl, .ref px, ds.length, rfl, .inl ⟨_, (Or.inl ex : SqL K _ _ _), lx.symm⟩, _, rfl, .ref py, ds.length, rfl, .inl ⟨_, (Or.inl ey : SqL K _ _ _), ly.symm⟩, rfl, _, rfl, ?_⟩
      rw [decide_eq_true rfl]
      refine iteF ⟨_, rfl, .ref py, ds.length, rfl, .inl ⟨_, (Or.inl ey : SqL K _ _ _), ly.symm⟩, _, rfl, by omega, by omega, fun c hc => ?_⟩
      refine comp_grow hc (yields_range (P := fun _ => True)) (fun σ => ∃ v, σ = [v, some (.ref px), some (.ref py)]) (fun _ => some (.bl true)) ⟨_, rfl⟩ (fun _ _ => trivial) (by rw [List.length_map, List.length_range]; omega) ?_ ?_
      · rintro xv zs σ H2 R1 R0 hxv ⟨v, rfl⟩ s2 k1 k0
        obtain ⟨i, hi, rfl⟩ := List.mem_map.mp hxv
        rw [List.mem_range, Int.toNat_natCast] at hi
        rw [show (0 : Int) + (i : Nat) = (i : Nat) by omega]
        have hxi : xs[i]? = some (xs[i]'(by omega)) := List.getElem?_eq_getElem (by omega)
        have hyi : ys[i]? = some (ys[i]'(by omega)) := List.getElem?_eq_getElem (by omega)
        obtain ⟨d1, hd1, hdx⟩ := DataAll.back hAx hxi
        obtain ⟨d2, hd2, hdy⟩ := DataAll.back hAy hyi
        rw [hd1] at hd2
        obtain rfl := Option.some.inj hd2
        have hm := List.mem_of_getElem? hd1
        have ex2 := (Rd.same s2 ex)
        have ey2 := (Rd.same s2 ey)
        exact ⟨_, rfl, _, rfl, .inl ⟨px, _, _, _, rfl, rfl, (Or.inl ex2 : SqL K _ _ _), atI_nat (j := i) hxi, _, rfl, _, rfl, .inl ⟨py, _, _, _, rfl, rfl, (Or.inl ey2 : SqL K _ _ _), atI_nat (j := i) hyi, _, _, d1, D, rfl, sD1.trans s2, hdx, hdy, CF.depth_mem hm (by exact hd), hsm'.2 d1 hm, hds d1 hm, fun H3 s3 => k1 _ _ _ ⟨_, rfl⟩ rfl s3⟩⟩⟩
      · intro H2 s2 e2
        rw [fm_const] at e2
        refine ⟨c, _, rfl, SqL.of e2, ?_⟩
        rw [rep_all]
        exact q _ (s1.trans s2)
    | tuple ds hds =>
      obtain ⟨px, xs, rfl, hpx, hAx⟩ := DataAt.tup hx
      obtain ⟨py, ys, rfl, hpy, hAy⟩ := DataAt.tup hy
      have lx := DataAll.length hAx
      have ly := DataAll.length hAy
      have hsm' := CF.small_tuple hsm
      have hl1 := hsm'.1
      refine ⟨_, rfl, by first | decide | (simp only [List.length_cons, List.length_nil, List.length_append, List.length_map]; decide), fun tp htp => ?_⟩
      have s1 := Same.upd0 (o := .tup [V.ty "list", V.ty "tuple"]) htp
      have e1 : upd H tp (.tup [V.ty "list", V.ty "tuple"]) tp = some (.tup (["list", "tuple"].map V.ty)) := upd_same
      generalize upd H tp (.tup [V.ty "list", V.ty "tuple"]) = H1 at s1 e1 ⊢
      have sD1 := sD.trans s1
      have ex := (sD1 _ _ hpx)
      have ey := (sD1 _ _ hpy)
      refine ⟨_, "tuple", tp, ["list", "tuple"], true, rfl, (.inr (.inl ⟨rfl, _, ey⟩)), e1, kita_tuple, _, rfl, iteT ?_⟩
      refine ⟨_, rfl, _, "tuple", "list", false, rfl, (.inr (.inl ⟨rfl, _, ex⟩)), kit_tuple_list, _, rfl, _, "tuple", "list", false, rfl, (.inr (.inl ⟨rfl, _, ey⟩)), kit_tuple_list, rfl, _, rfl, iteF ?_⟩
      refine ⟨_, rfl, _, "tuple", "tuple", true, rfl, (.inr (.inl ⟨rfl, _, ex⟩)), (kit_tuple_tuple _), _, rfl, _, "tuple", "tuple", true, rfl, (.inr (.inl ⟨rfl, _, ey⟩)), (kit_tuple_tuple _), rfl, _, rfl, iteF ?_⟩
      refine ⟨_, rfl, .ref px, ds.length, rfl, .inr ⟨_, (SqT.of ex), lx.symm⟩, _, rfl, .ref py, ds.length, rfl, .inr ⟨_, (SqT.of ey), ly.symm⟩, rfl, _, rfl, ?_⟩
      rw [decide_eq_true rfl]
      refine iteF ⟨_, rfl, .ref py, ds.length, rfl, .inr ⟨_, (SqT.of ey), ly.symm⟩, _, rfl, by omega, by omega, fun c hc => ?_⟩
      refine comp_grow hc (yields_range (P := fun _ => True)) (fun σ => ∃ v, σ = [v, some (.ref px), some (.ref py)]) (fun _ => some (.bl true)) ⟨_, rfl⟩ (fun _ _ => trivial) (by rw [List.length_map, List.length_range]; omega) ?_ ?_
      · rintro xv zs σ H2 R1 R0 hxv ⟨v, rfl⟩ s2 k1 k0
        obtain ⟨i, hi, rfl⟩ := List.mem_map.mp hxv
        rw [List.mem_range, Int.toNat_natCast] at hi
        rw [show (0 : Int) + (i : Nat) = (i : Nat) by omega]
        have hxi : xs[i]? = some (xs[i]'(by omega)) := List.getElem?_eq_getElem (by omega)
        have hyi : ys[i]? = some (ys[i]'(by omega)) := List.getElem?_eq_getElem (by omega)
        obtain ⟨d1, hd1, hdx⟩ := DataAll.back hAx hxi
        obtain ⟨d2, hd2, hdy⟩ := DataAll.back hAy hyi
        rw [hd1] at hd2
        obtain rfl := Option.some.inj hd2
        have hm := List.mem_of_getElem? hd1
        have ex2 := (s2 _ _ ex)
        have ey2 := (s2 _ _ ey)
        exact ⟨_, rfl, _, rfl, .inr (.inl ⟨px, _, _, _, rfl, rfl, (SqT.of ex2), atI_nat (j := i) hxi, _, rfl, _, rfl, .inr (.inl ⟨py, _, _, _, rfl, rfl, (SqT.of ey2), atI_nat (j := i) hyi, _, _, d1, D, rfl, sD1.trans s2, hdx, hdy, CF.depth_mem hm (by exact hd), hsm'.2 d1 hm, hds d1 hm, fun H3 s3 => k1 _ _ _ ⟨_, rfl⟩ rfl s3⟩)⟩)⟩
      · intro H2 s2 e2
        rw [fm_const] at e2
        refine ⟨c, _, rfl, SqL.of e2, ?_⟩
        rw [rep_all]
        exact q _ (s1.trans s2)
theorem ok_q13 {fd_q13 : FuncData} (T : Txt K mg a)
    (F_q13 : Fun K "_law_alike" "_law_alike" s_q13 a.law_alike fd_q13) (b_q13 : Binds K fd_q13 ["_law_found", "_law_due"] []) : FnOk P w K mg base CX0 21 a.law_alike fd_q13 ["_law_found", "_law_due"] (sp_q13 K 20) := by
  have h : ∀ n, FnOk P w K mg base CX0 (1 + n) a.law_alike fd_q13 ["_law_found", "_law_due"] (sp_q13 K n) := fun n => by
    induction n with
    | zero => exact ⟨fun vs H Q E h => (none_q13 h).elim, fun A outer s H args us vs Q E _ _ _ _ h => (none_q13 h).elim⟩
    | succ n ih => exact step_q13 T  ih F_q13 b_q13
  exact h 20
theorem pl_leaf (l : CF.Leaf) : Pl l.data := by
  have hw : ∀ ws : List Str, Pl (.list (ws.map .str)) := fun ws => .list _ fun d hd => by
    obtain ⟨t, _, rfl⟩ := List.mem_map.mp hd
    exact .str t
  cases l with
  | frm n ws a b c =>
    refine .tuple _ fun d hd => ?_
    simp only [List.mem_cons, List.not_mem_nil, or_false] at hd
    rcases hd with rfl | rfl | rfl | rfl | rfl | rfl
    · exact .str _
    · exact .int _
    · exact hw ws
    · exact .int _
    · exact .int _
    · exact .int _
  | off n ws b c =>
    refine .tuple _ fun d hd => ?_
    simp only [List.mem_cons, List.not_mem_nil, or_false] at hd
    rcases hd with rfl | rfl | rfl | rfl | rfl
    · exact .str _
    · exact .int _
    · exact hw ws
    · exact .int _
    · exact .int _
mutual
theorem pl_rule : ∀ r : CF.Rule, Pl r.data
  | .leaf l => by unfold CF.Rule.data; exact pl_leaf l
  | .allr rs => by
    unfold CF.Rule.data
    refine .tuple _ fun d hd => ?_
    simp only [List.mem_cons, List.not_mem_nil, or_false] at hd
    rcases hd with rfl | rfl
    · exact .str _
    · exact .list _ (pl_rules rs)
  | .somr n rs => by
    unfold CF.Rule.data
    refine .tuple _ fun d hd => ?_
    simp only [List.mem_cons, List.not_mem_nil, or_false] at hd
    rcases hd with rfl | rfl | rfl
    · exact .str _
    · exact .int _
    · exact .list _ (pl_rules rs)
theorem pl_rules : ∀ rs : List CF.Rule, ∀ d ∈ CF.Rule.datas rs, Pl d
  | [], d, hd => by unfold CF.Rule.datas at hd; cases hd
  | r :: rs, d, hd => by
    unfold CF.Rule.datas at hd
    rcases List.mem_cons.mp hd with rfl | hd
    · exact pl_rule r
    · exact pl_rules rs d hd
end
theorem pl_course (c : CF.Course) : Pl c.data := by
  refine .tuple _ fun d hd => ?_
  simp only [List.mem_cons, List.not_mem_nil, or_false] at hd
  rcases hd with rfl | rfl
  · refine .list _ fun d hd => ?_
    obtain ⟨p, _, rfl⟩ := List.mem_map.mp hd
    refine .tuple _ fun d hd => ?_
    simp only [List.mem_cons, List.not_mem_nil, or_false] at hd
    rcases hd with rfl | rfl
    · exact .str _
    · exact .int _
  · exact pl_rule _
theorem kind_leaf {r : CF.Rule} (h : r.isLeaf = true) : r.kind ≠ "all" ∧ r.kind ≠ "some" := by
  cases r with
  | allr rs => cases h
  | somr m rs => cases h
  | leaf l => cases l with
    | frm n ws a b c => show ("from" : Str) ≠ "all" ∧ ("from" : Str) ≠ "some"; decide +kernel
    | off n ws b c => show ("of" : Str) ≠ "all" ∧ ("of" : Str) ≠ "some"; decide +kernel
theorem kind_grp {r : CF.Rule} (h : r.isLeaf = false) : r.kind = "all" ∨ r.kind = "some" := by
  cases r with
  | leaf l => cases h
  | allr rs => exact .inl rfl
  | somr m rs => exact .inr rfl
theorem lf_eq : ("\n" : Str) = ⟨#[10]⟩ := by decide +kernel
theorem text_rows {c : CF.Course} (h : c.Good) : (Str.join "\n" (CT.courseRows c)).length ≤ 1048576 ∧ PySem.Txt.split (Str.join "\n" (CT.courseRows c)) "\n" = CT.courseRows c ∧ RowsOk (CT.courseRows c) := by
  obtain ⟨h1, h2, h3⟩ := CT.course_rows h
  refine ⟨?_, ?_, by omega, fun row hrow => ?_⟩
  · have hl := CT.join_len "\n" 2000 (CT.courseRows c) fun x hx => by
      obtain ⟨ps, hp⟩ := h1 x hx
      exact hp.len
    rw [show ("\n" : Str).length = 1 by decide +kernel] at hl
    have : (CT.courseRows c).length * 2001 ≤ 300 * 2001 := Nat.mul_le_mul_right _ h2
    omega
  · rw [lf_eq]
    exact split_of_join h3 (fun x hx => by obtain ⟨ps, hp⟩ := h1 x hx; exact hp.noLf) rfl
  · obtain ⟨ps, hp⟩ := h1 row hrow
    have := hp.len
    have hf := hp.few
    rw [hp.split]
    exact ⟨by omega, hp.ne, fun t ht => ⟨(hp.bare t ht).2.2.1, Nat.le_trans (hp.bare t ht).2.2.2 (by decide)⟩, by omega⟩
def sp_q12 (K : PySem.W.Frag) : Sp := fun vs H Q _ => ∃ (a : Addr) (ns : List Int), vs = [.ref a] ∧ SqL K H a (ns.map V.int) ∧ ns.length ≤ 63 ∧ ∀ H', Q (.bl true) H'
def D0 : Hp := fun _ => none
theorem sD0 (H : Hp) : Same D0 H := fun _ _ e => nomatch e
theorem ok_q12 {f : Addr} {fd fd_q13 fd_q16 fd_q17 fd_q20 fd_q26 fd_q33 : FuncData} (F : Fun K "law" "law" s_q12 f fd) (T : Txt K mg a)
    (G_q13 : FnOk P w K mg base CX0 21 a.law_alike fd_q13 ["_law_found", "_law_due"] (sp_q13 K 20)) (F_q13 : Fun K "_law_alike" "_law_alike" s_q13 a.law_alike fd_q13) (b_q13 : Binds K fd_q13 ["_law_found", "_law_due"] [])
    (G_q16 : FnOk P w K mg base CX0 21 a.law_copy fd_q16 ["_law_thing"] (sp_q16 K 20)) (F_q16 : Fun K "_law_copy" "_law_copy" s_q16 a.law_copy fd_q16) (b_q16 : Binds K fd_q16 ["_law_thing"] [])
    (G_q17 : FnOk P w K mg base CX0 4 a.law_course fd_q17 ["_law_script"] (sp_q17 K)) (F_q17 : Fun K "_law_course" "_law_course" s_q17 a.law_course fd_q17) (b_q17 : Binds K fd_q17 ["_law_script"] [])
    (G_q20 : FnOk P w K mg base CX0 10 a.law_lines fd_q20 ["_law_rule_here"] (sp_q20 K 8)) (F_q20 : Fun K "_law_lines" "_law_lines" s_q20 a.law_lines fd_q20) (b_q20 : Binds K fd_q20 ["_law_rule_here"] [])
    (G_q26 : FnOk P w K mg base CX0 8 a.read_course fd_q26 ["text"] (sp_q26 K)) (F_q26 : Fun K "read_course" "read_course" s_q26 a.read_course fd_q26) (b_q26 : Binds K fd_q26 ["text"] [])
    (G_q33 : FnOk P w K mg base CX0 11 a.show_course fd_q33 ["course"] (sp_q33 K)) (F_q33 : Fun K "show_course" "show_course" s_q33 a.show_course fd_q33) (b_q33 : Binds K fd_q33 ["course"] []) : FnOk P w K mg base CX0 22 f fd ["_law_script"] (sp_q12 K) := by
  refine F.ok sc_q12 (fun vs H Q E h => ?_) (fun cdv A outer s H vs Q E hr h => ?_)
  · obtain ⟨ad, ns, rfl, _⟩ := h
    rfl
  · obtain ⟨ad, ns, rfl, hS, hl, q⟩ := h
    refine ⟨_, (pss_cons (psN (i := 1) (sc := defScope s_q12) (M := N_q12) rfl rfl (by decide +kernel) (pe_callN (sc := defScope s_q12) G_q17 (hr.mono (by decide)) rfl (by decide +kernel) T.m_q17 F_q17.kp b_q17 .nil pass0 (pa_cons (pvA 0 (defScope s_q12) N_q12 rfl rfl) pa_nil)))
      (pss_cons (psN (i := 2) (sc := defScope s_q12) (M := N_q12) rfl rfl (by decide +kernel) (pe_op op_cat (pe_comp rfl (N := ["_law_one"]) (own := 1) (js := []) (X := (cxOf CX0 P w K mg base N_q12 "law" (defScope s_q12) f cdv A outer s H E).nox) (compOk (defScope s_q12) N_q12 rfl rfl (by decide +kernel)) (pi_list (pe_ix ix_tup (pvA 1 (defScope s_q12) N_q12 rfl rfl) pe_int (fun _ _ => rfl))) (fun fp0 sx0 Hx0 => (pgN (i := 0) (sc := relabelS _ (defScope s_q12)) (M := ["_law_one"]) rfl rfl (by decide +kernel))) (fun fp0 sx0 Hx0 => pifs_nil) (fun fp0 sx0 Hx0 => (pe_op op_add_str (pe_op op_add_str (pe_op op_add_str pe_str (pe_callTyN (sc := relabelS _ (defScope s_q12)) call_str_int rfl (by decide +kernel) T.z_str bt_str (pa_cons (pe_ix (kIx (r := rIxT) (K := K) rfl ix_tup) (pvN (i := 0) (sc := relabelS _ (defScope s_q12)) (M := ["_law_one"]) rfl rfl (by decide +kernel)) pe_int (fun _ _ => rfl)) pa_nil))) pe_str) (pe_ix (kIx (r := rIxT) (K := K) rfl ix_tup) (pvN (i := 0) (sc := relabelS _ (defScope s_q12)) (M := ["_law_one"]) rfl rfl (by decide +kernel)) pe_int (fun _ _ => rfl))))) (pe_callN (sc := defScope s_q12) G_q20 (hr.mono (by decide)) rfl (by decide +kernel) T.m_q20 F_q20.kp b_q20 .nil pass0 (pa_cons (pe_ix ix_tup (pvA 1 (defScope s_q12) N_q12 rfl rfl) pe_int (fun _ _ => rfl)) pa_nil))))
      (pss_cons (psN (i := 3) (sc := defScope s_q12) (M := N_q12) rfl rfl (by decide +kernel) (pe_callN (sc := defScope s_q12) G_q16 (hr.mono (by decide)) rfl (by decide +kernel) T.m_q16 F_q16.kp b_q16 .nil pass0 (pa_cons (pvA 1 (defScope s_q12) N_q12 rfl rfl) pa_nil)))
      (pss_cons (psN (i := 4) (sc := defScope s_q12) (M := N_q12) rfl rfl (by decide +kernel) (pe_callN (sc := defScope s_q12) G_q33 (hr.mono (by decide)) rfl (by decide +kernel) T.m_q33 F_q33.kp b_q33 .nil pass0 (pa_cons (pvA 3 (defScope s_q12) N_q12 rfl rfl) pa_nil)))
      (pss_cons (ps_if (PW.pt (pw_or (pt_not (pt_val (pe_callBN (sc := defScope s_q12) call_isi rfl (by decide +kernel) T.z_isinstance bt_isinstance (pa_cons (pvA 4 (defScope s_q12) N_q12 rfl rfl) (pa_cons (pe_bltN (v := V.ty "str") (sc := defScope s_q12) rfl (by decide +kernel) T.z_str bt_str rfl) pa_nil))))) (pw_or (pt_cmpR op_ne (pvA 4 (defScope s_q12) N_q12 rfl rfl) (pe_bm PySem.F.plainAttrs_str PySem.F.slot_str_join PySem.F.type_str_join mt_join pe_str (pa_cons (pvA 2 (defScope s_q12) N_q12 rfl rfl) pa_nil)) (nomark _)) (pw_or1 (pt_not (pt_val (pe_callN (sc := defScope s_q12) G_q13 (hr.mono (by decide)) rfl (by decide +kernel) T.m_q13 F_q13.kp b_q13 .nil pass0 (pa_cons (pvA 3 (defScope s_q12) N_q12 rfl rfl) (pa_cons (pvA 1 (defScope s_q12) N_q12 rfl rfl) pa_nil))))))))) (pss_one (ps_ret pe_bl)) pss_nil)
      (pss_cons (psN (i := 5) (sc := defScope s_q12) (M := N_q12) rfl rfl (by decide +kernel) (pe_callN (sc := defScope s_q12) G_q26 (hr.mono (by decide)) rfl (by decide +kernel) T.m_q26 F_q26.kp b_q26 .nil pass0 (pa_cons (pvA 4 (defScope s_q12) N_q12 rfl rfl) pa_nil)))
      (pss_cons (ps_if (pt_not (pt_val (pe_callN (sc := defScope s_q12) G_q13 (hr.mono (by decide)) rfl (by decide +kernel) T.m_q13 F_q13.kp b_q13 .nil pass0 (pa_cons (pvA 5 (defScope s_q12) N_q12 rfl rfl) (pa_cons (pvA 1 (defScope s_q12) N_q12 rfl rfl) pa_nil))))) (pss_one (ps_ret pe_bl)) pss_nil)
      (pss_cons (ps_expr (pe_bm PySem.F.plainAttrs_list PySem.F.slot_list_append PySem.F.type_list_append mt_append (pe_ix ix_tup (pvA 5 (defScope s_q12) N_q12 rfl rfl) pe_int (fun _ _ => rfl)) (pa_cons (pe_tup (pa_cons pe_str (pa_cons pe_int pa_nil))) pa_nil)))
      (pss_cut (ps_if (PW.pt (pw_or (pt_cmpR op_eq (pe_ix ix_tup (pe_ix ix_tup (pvA 5 (defScope s_q12) N_q12 rfl rfl) pe_int (fun _ _ => rfl)) pe_int (fun _ _ => rfl)) pe_str (nomark _)) (pw_or1 (pt_cmpR op_eq (pe_ix ix_tup (pe_ix ix_tup (pvA 5 (defScope s_q12) N_q12 rfl rfl) pe_int (fun _ _ => rfl)) pe_int (fun _ _ => rfl)) pe_str (nomark _))))) (pss_one (ps_expr (pe_bm0 PySem.F.plainAttrs_list PySem.F.slot_list_clear PySem.F.type_list_clear mt_clear (pe_ix ix_tup (pe_ix ix_tup (pvA 5 (defScope s_q12) N_q12 rfl rfl) pe_int (fun _ _ => rfl)) (pe_un un_neg pe_int) (fun _ _ => rfl))))) pss_nil)
      (pss_one (ps_ret (pe_callN (sc := defScope s_q12) G_q13 (hr.mono (by decide)) rfl (by decide +kernel) T.m_q13 F_q13.kp b_q13 .nil pass0 (pa_cons (pe_callN (sc := defScope s_q12) G_q26 (hr.mono (by decide)) rfl (by decide +kernel) T.m_q26 F_q26.kp b_q26 .nil pass0 (pa_cons (pvA 4 (defScope s_q12) N_q12 rfl rfl) pa_nil)) (pa_cons (pvA 1 (defScope s_q12) N_q12 rfl rfl) pa_nil)))))))))))))), ?_⟩
    have hs : sizeLine = 16777216 := sizeLine_eq
    refine ⟨_, rfl, ad, ns, D0, rfl, hS, hl, sD0 H, fun c D1 H1 v1 G1 d1 hc => ?_⟩
    have hdp := hc.depth
    have hpl := pl_course c
    obtain ⟨txl, txs, txr⟩ := text_rows hc
    have hrun := CT.run_course hc
    have hrw := CT.rows_len hc.rule
    have hrl : (CT.ruleRows c.rule).length ≤ 16 * 13 := Nat.le_trans hrw (Nat.mul_le_mul hc.leaves (by have := hc.deep; omega))
    obtain ⟨hro, hr3, _⟩ := CT.course_rows hc
    have hfew := hc.few
    obtain ⟨t1, po, y1, rfl, et1, ⟨xo, hpo, hAo⟩, _, dy1⟩ := course_tup d1
    have hxl := DataAll.length hAo
    rw [List.length_map] at hxl
    refine ⟨_, rfl, t1, _, _, _, rfl, rfl, SqT.of (G1.dh _ _ et1), rfl, po, rfl, ⟨xo, .inl (Rd.same G1.dh hpo)⟩, fun c0 hc0 => ?_⟩
    refine comp_gr (K := K) (D := D1) G1.dh hc0 yields_list (fun σ => ∃ v, σ = [v]) (c.oftens.map fun p => some (PyData.str (CT.oftRow p))) (by rw [List.length_map, hxl]) ⟨_, rfl⟩ (fun H' s' => .inl (Rd.same s' (Rd.same G1.dh hpo))) (by omega) ?_ ?_
    · rintro i x r σ D2 H2 R1 R0 hx1 hr ⟨v, rfl⟩ G k1 k0
      obtain ⟨p, tt, hp, rfl, ett⟩ := oft_at (DataAll.up hAo G.dd) hx1
      rw [List.getElem?_map, hp] at hr
      obtain rfl := Option.some.inj hr
      have hm := List.mem_of_getElem? hp
      have hw := CW.isWord_iff.mp (hc.words p hm)
      have hn := hc.nums p hm
      have l1 := hw.2.1
      have l3 := (num_text (n := p.2) (by omega) (CT.lt_big (by omega))).most
      have lb : (" " : Str).length = 1 := by decide +kernel
      have lo : ("often " : Str).length = 6 := by decide +kernel
      have ett2 := G.dh _ _ ett
      refine ⟨_, rfl, tt, _, _, _, rfl, rfl, SqT.of ett2, atI_nat (j := 1) rfl, _, rfl, num_log (by omega) (CT.lt_big (by omega)), _, _, rfl, rfl, by omega, _, _, rfl, rfl, by rw [Str.length_append]; omega, _, rfl, tt, _, _, _, rfl, rfl, SqT.of ett2, CF.atI_zero, _, _, rfl, rfl, by simp only [Str.length_append]; omega, ?_⟩
      exact k1 _ _ _ _ _ rfl ⟨_, rfl⟩ (Gr.refl G.dh) DataAt.ofStr
    intro D2 H2 ys2 G2 e2 n2 hA2
    rw [show (c.oftens.map fun p => some (PyData.str (CT.oftRow p))) = ((c.oftens.map CT.oftRow).map PyData.str).map some by simp, filterMap_some] at hA2
    rw [DataAll.strs_eq hA2] at e2
    have sD2 : Same D1 H2 := G1.dh.trans G2.hh
    refine ⟨_, rfl, t1, _, _, _, rfl, rfl, SqT.of (sD2 _ _ et1), rfl, y1, c.rule, rfl, DataAt.up dy1 sD2, Nat.lt_succ_of_le (Nat.le_trans hc.deep (by decide)), hc.rule, by omega, fun H3 p3 s3 np3 e3 => ?_⟩
    refine ⟨c0, p3, _, _, rfl, rfl, s3 _ _ e2, e3, ?_, fun p4 hp4 => ?_⟩
    · rw [List.length_map, List.length_map, List.length_map]
      omega
    have e4 : upd H3 p4 (.lst (List.map V.str (List.map CT.oftRow c.oftens) ++ List.map V.str (CT.ruleRows c.rule))) p4 = some (.lst ((CT.courseRows c).map V.str)) := by
      rw [upd_same]
      unfold CT.courseRows
      rw [List.map_append]
    have sD4 := (sD2.trans s3).trans (Same.upd0 (o := .lst (List.map V.str (List.map CT.oftRow c.oftens) ++ List.map V.str (CT.ruleRows c.rule))) hp4)
    generalize upd H3 p4 (.lst (List.map V.str (List.map CT.oftRow c.oftens) ++ List.map V.str (CT.ruleRows c.rule))) = H4 at e4 sD4 ⊢
    clear e2 e3 s3 hA2 G2 sD2 n2 hAo hpo
    refine ⟨_, rfl, _, _, D1, rfl, sD4, d1, by omega, hc.small, fun v5 D5 H5 g5 d5 => ?_⟩
    have d15 := DataAt.gr d1 g5
    refine ⟨_, rfl, v5, c, D5, rfl, g5.dh, d5, hc, fun H6 s6 => ?_⟩
    have sD6 := g5.dh.trans s6
    have e6 := s6 _ _ (g5.hh _ _ e4)
    refine ⟨_, rfl, _, "str", "str", true, rfl, rfl, kit_str_str _, _, rfl, iteF ⟨_, rfl, rfl, _, rfl, "\n", p4, _, rfl, rfl, SqL.of e6, join_ok (fun r hr => ?_) (by omega) (by decide +kernel), rfl, _, rfl, ?_⟩⟩
    · obtain ⟨ps, h⟩ := hro r hr
      exact h.len
    rw [txt_join, decide_eq_true rfl]
    refine iteF ⟨_, rfl, _, rfl, v5, .ref t1, c.data, D5, rfl, sD6, d5, d15, by omega, hc.small, hpl, fun H7 s7 => ⟨_, rfl, iteF ?_⟩⟩
    have sD7 := sD6.trans s7
    have mk : ∀ {D' : Hp} {tt po : Addr} {xo : List V} {y : V}, D' tt = some (.tup [.ref po, y]) → D' po = some (.lst xo) → DataAll K D' xo (c.oftens.map CF.oftD) → DataAt K D' y c.rule.data → DataAt K D' (.ref tt) c.data := fun {D' tt po xo y} e1 e2 h1 h2 => by
      have hw : DataAt K D' (.ref po) (.list (c.oftens.map CF.oftD)) := by unfold DataAt; exact ⟨po, _, rfl, .inl e2, h1⟩
      exact DataAt.mkT (DataAll.cons hw (DataAll.cons h2 DataAll.nil)) e1 (Same.refl _)
    refine ⟨_, rfl, _, _, D5, _, c.rule, rfl, sD7, txl, txs, txr, hrun, rfl, fun D8 H8 t8 po8 xo8 y8 G8 et8 epo8 npo8 hA8 dy8 hg8 => ?_⟩
    have d8 := mk et8 epo8 hA8 dy8
    have d18 := DataAt.gr d15 G8
    refine ⟨_, rfl, _, rfl, _, .ref t1, c.data, D8, rfl, G8.dh, d8, d18, by omega, hc.small, hpl, fun H9 s9 => ⟨_, rfl, iteF ?_⟩⟩
    have sD9 := G8.dh.trans s9
    have nD5 : D5 po8 = none := free_of sD7 npo8
    have len8 : xo8.length = c.oftens.length := (DataAll.length hA8).trans (by rw [List.length_map])
    refine ⟨_, rfl, t8, _, _, _, rfl, rfl, SqT.of (sD9 _ _ et8), rfl, .inl ⟨rfl, _, SqL.of (sD9 _ _ epo8)⟩, by first | decide | (simp only [List.length_cons, List.length_nil, List.length_append, List.length_map]; decide), fun p10 hp10 => ?_⟩
    have s10 := sD9.trans (Same.upd0 (o := .tup [.str "other", .int 3]) hp10)
    refine ⟨po8, _, _, rfl, rfl, s10 _ _ epo8, by omega, ?_⟩
    have ne8 : t8 ≠ po8 := fun z => by rw [z, epo8] at et8; cases et8
    obtain ⟨ty, ysy, rfl, ety⟩ := CF.Rule.tup dy8
    have ney : ty ≠ po8 := fun z => by rw [z, epo8] at ety; cases ety
    have s11 : Same D5 (upd (upd H9 p10 (.tup [.str "other", .int 3])) po8 (.lst (xo8 ++ [.ref p10]))) := same_set (G8.dd.trans s10) nD5
    have t11 : upd (upd H9 p10 (.tup [.str "other", .int 3])) po8 (.lst (xo8 ++ [.ref p10])) t8 = some (.tup [.ref po8, .ref ty]) := by rw [upd_ne ne8]; exact s10 _ _ et8
    have y11 : upd (upd H9 p10 (.tup [.str "other", .int 3])) po8 (.lst (xo8 ++ [.ref p10])) ty = some (.tup (.str c.rule.kind :: ysy)) := by rw [upd_ne ney]; exact s10 _ _ ety
    have g11 : c.rule.isLeaf = false → ∃ hd p xs, upd (upd H9 p10 (.tup [.str "other", .int 3])) po8 (.lst (xo8 ++ [.ref p10])) ty = some (.tup (hd ++ [.ref p])) ∧ upd (upd H9 p10 (.tup [.str "other", .int 3])) po8 (.lst (xo8 ++ [.ref p10])) p = some (.lst xs) ∧ D5 p = none := fun hl => by
      obtain ⟨ty', p, xs, ey, e1, e2, e3⟩ := hg8 hl
      cases ey
      refine ⟨c.rule.head, p, ?_⟩
      by_cases hpp : p = po8
      · rw [hpp] at e1 ⊢
        exact ⟨_, by rw [upd_ne ney]; exact s10 _ _ e1, upd_same, nD5⟩
      · exact ⟨xs, by rw [upd_ne ney]; exact s10 _ _ e1, by rw [upd_ne hpp]; exact s10 _ _ e2, free_of sD7 e3⟩
    generalize upd (upd H9 p10 (.tup [.str "other", .int 3])) po8 (.lst (xo8 ++ [.ref p10])) = H11 at s11 t11 y11 g11 ⊢
    refine ⟨fun σ' H' => σ' = [some (.ref ad), some (.ref t1), some (.ref p4), some v5, some (.str (Str.join "\n" (CT.courseRows c))), some (.ref t8)] ∧ Same D5 H', ?_, ?_⟩
    · cases hl : c.rule.isLeaf with
      | true =>
        obtain ⟨k1, k2⟩ := kind_leaf hl
        refine ⟨_, rfl, t8, _, _, _, rfl, rfl, SqT.of t11, rfl, ty, _, _, _, rfl, rfl, SqT.of y11, CF.atI_zero, rfl, _, rfl, ?_⟩
        rw [decide_eq_false (fun z => k1 (V.str.inj z))]
        refine iteF ⟨_, rfl, t8, _, _, _, rfl, rfl, SqT.of t11, rfl, ty, _, _, _, rfl, rfl, SqT.of y11, CF.atI_zero, rfl, _, rfl, ?_⟩
        rw [decide_eq_false (fun z => k2 (V.str.inj z))]
        exact iteF ⟨rfl, s11⟩
      | false =>
        obtain ⟨hd, p, xs, ey, ep, np⟩ := g11 hl
        refine and_rest (B := ?B) ?main fun hM => ⟨_, rfl, t8, _, _, _, rfl, rfl, SqT.of t11, rfl, ty, _, _, _, rfl, rfl, SqT.of y11, CF.atI_zero, rfl, _, rfl, ite2 (fun z => iteT ?t) (fun z => ⟨_, rfl, t8, _, _, _, rfl, rfl, SqT.of t11, rfl, ty, _, _, _, rfl, rfl, SqT.of y11, CF.atI_zero, rfl, _, rfl, ?e⟩)⟩
        case t => exact hM
        case e =>
          have k2 : c.rule.kind = "some" := (kind_grp hl).resolve_left fun w => z (decide_eq_true (by rw [w]))
          rw [decide_eq_true (by rw [k2])]
          exact iteT hM
        case main =>
          exact ⟨_, rfl, t8, _, _, _, rfl, rfl, SqT.of t11, rfl, _, rfl, ty, _, _, _, rfl, rfl, SqT.of ey, atI_last _ _, .inl ⟨rfl, _, SqL.of ep⟩, p, _, rfl, rfl, ep, rfl, same_set s11 np⟩
    rintro σ' H12 ⟨rfl, s12⟩
    refine ⟨_, rfl, _, _, D5, _, c.rule, rfl, s12, txl, txs, txr, hrun, rfl, fun D13 H13 t13 po13 xo13 y13 G13 et13 epo13 npo13 hA13 dy13 hg13 => ?_⟩
    exact ⟨_, rfl, _, .ref t1, c.data, D13, rfl, G13.dh, mk et13 epo13 hA13 dy13, DataAt.gr d15 G13, by omega, hc.small, hpl, fun H14 s14 => q _⟩
end
theorem all_mk {l : PySem.W.OpenLaw} {w : World} {K : PySem.W.Frag} {h : Heap} {mg : Str → Option Value} {fa : Addr} (X : K.In h) (G : h.Ns mainGlobals mg) (hfa : mg "law" = some (.ref fa))
    {C_CourseReader : Addr}
    {f_q9 : Addr} {od1 an1 : Option Addr} {sl1 : Array (Option Value)} {oc1 kV1 dc1 pm1 cd1 ct1 : Value}
    {f_q32 : Addr} {od2 an2 : Option Addr} {sl2 : Array (Option Value)} {oc2 kV2 dc2 pm2 cd2 ct2 : Value}
    {f_q25 : Addr} {od3 an3 : Option Addr} {sl3 : Array (Option Value)} {oc3 kV3 dc3 pm3 cd3 ct3 : Value}
    {f_q11 : Addr} {od4 an4 : Option Addr} {sl4 : Array (Option Value)} {oc4 kV4 dc4 pm4 cd4 ct4 : Value}
    {f_q10 : Addr} {od5 an5 : Option Addr} {sl5 : Array (Option Value)} {oc5 kV5 dc5 pm5 cd5 ct5 : Value}
    {f_q29 : Addr} {od6 an6 : Option Addr} {sl6 : Array (Option Value)} {oc6 kV6 dc6 pm6 cd6 ct6 : Value}
    {f_q8 : Addr} {od7 an7 : Option Addr} {sl7 : Array (Option Value)} {oc7 kV7 dc7 pm7 cd7 ct7 : Value}
    {f_q36 : Addr} {od8 an8 : Option Addr} {sl8 : Array (Option Value)} {oc8 kV8 dc8 pm8 cd8 ct8 : Value}
    {f_q30 : Addr} {od9 an9 : Option Addr} {sl9 : Array (Option Value)} {oc9 kV9 dc9 pm9 cd9 ct9 : Value}
    {f_q28 : Addr} {od10 an10 : Option Addr} {sl10 : Array (Option Value)} {oc10 kV10 dc10 pm10 cd10 ct10 : Value}
    {f_q27 : Addr} {od11 an11 : Option Addr} {sl11 : Array (Option Value)} {oc11 kV11 dc11 pm11 cd11 ct11 : Value}
    {f_q24 : Addr} {od12 an12 : Option Addr} {sl12 : Array (Option Value)} {oc12 kV12 dc12 pm12 cd12 ct12 : Value}
    {f_q0 : Addr} {od13 an13 : Option Addr} {sl13 : Array (Option Value)} {oc13 kV13 dc13 pm13 cd13 ct13 : Value}
    {f_q3 : Addr} {od14 an14 : Option Addr} {sl14 : Array (Option Value)} {oc14 kV14 dc14 pm14 cd14 ct14 : Value}
    {f_q7 : Addr} {od15 an15 : Option Addr} {sl15 : Array (Option Value)} {oc15 kV15 dc15 pm15 cd15 ct15 : Value}
    {f_q5 : Addr} {od16 an16 : Option Addr} {sl16 : Array (Option Value)} {oc16 kV16 dc16 pm16 cd16 ct16 : Value}
    {f_q4 : Addr} {od17 an17 : Option Addr} {sl17 : Array (Option Value)} {oc17 kV17 dc17 pm17 cd17 ct17 : Value}
    {f_q6 : Addr} {od18 an18 : Option Addr} {sl18 : Array (Option Value)} {oc18 kV18 dc18 pm18 cd18 ct18 : Value}
    {f_q1 : Addr} {od19 an19 : Option Addr} {sl19 : Array (Option Value)} {oc19 kV19 dc19 pm19 cd19 ct19 : Value}
    {f_q2 : Addr} {od20 an20 : Option Addr} {sl20 : Array (Option Value)} {oc20 kV20 dc20 pm20 cd20 ct20 : Value}
    {f_q26 : Addr} {od21 an21 : Option Addr} {sl21 : Array (Option Value)} {oc21 kV21 dc21 pm21 cd21 ct21 : Value}
    {f_q35 : Addr} {od22 an22 : Option Addr} {sl22 : Array (Option Value)} {oc22 kV22 dc22 pm22 cd22 ct22 : Value}
    {f_q34 : Addr} {od23 an23 : Option Addr} {sl23 : Array (Option Value)} {oc23 kV23 dc23 pm23 cd23 ct23 : Value}
    {f_q31 : Addr} {od24 an24 : Option Addr} {sl24 : Array (Option Value)} {oc24 kV24 dc24 pm24 cd24 ct24 : Value}
    {f_q33 : Addr} {od25 an25 : Option Addr} {sl25 : Array (Option Value)} {oc25 kV25 dc25 pm25 cd25 ct25 : Value}
    {f_q14 : Addr} {od26 an26 : Option Addr} {sl26 : Array (Option Value)} {oc26 kV26 dc26 pm26 cd26 ct26 : Value}
    {f_q23 : Addr} {od27 an27 : Option Addr} {sl27 : Array (Option Value)} {oc27 kV27 dc27 pm27 cd27 ct27 : Value}
    {f_q21 : Addr} {od28 an28 : Option Addr} {sl28 : Array (Option Value)} {oc28 kV28 dc28 pm28 cd28 ct28 : Value}
    {f_q18 : Addr} {od29 an29 : Option Addr} {sl29 : Array (Option Value)} {oc29 kV29 dc29 pm29 cd29 ct29 : Value}
    {f_q15 : Addr} {od30 an30 : Option Addr} {sl30 : Array (Option Value)} {oc30 kV30 dc30 pm30 cd30 ct30 : Value}
    {f_q22 : Addr} {od31 an31 : Option Addr} {sl31 : Array (Option Value)} {oc31 kV31 dc31 pm31 cd31 ct31 : Value}
    {f_q17 : Addr} {od32 an32 : Option Addr} {sl32 : Array (Option Value)} {oc32 kV32 dc32 pm32 cd32 ct32 : Value}
    {f_q19 : Addr} {od33 an33 : Option Addr} {sl33 : Array (Option Value)} {oc33 kV33 dc33 pm33 cd33 ct33 : Value}
    {f_q20 : Addr} {od34 an34 : Option Addr} {sl34 : Array (Option Value)} {oc34 kV34 dc34 pm34 cd34 ct34 : Value}
    {f_q16 : Addr} {od35 an35 : Option Addr} {sl35 : Array (Option Value)} {oc35 kV35 dc35 pm35 cd35 ct35 : Value}
    {f_q13 : Addr} {od36 an36 : Option Addr} {sl36 : Array (Option Value)} {oc36 kV36 dc36 pm36 cd36 ct36 : Value}
    {f_q12 : Addr} {od37 an37 : Option Addr} {sl37 : Array (Option Value)} {oc37 kV37 dc37 pm37 cd37 ct37 : Value}
    {t_FIGURES : Tok}
    {x_KEYS : Addr} {es_KEYS : Array DictEntry} {ep_KEYS : Nat} {x_KEYS_0 : Addr} {od_KEYS_0 : Option Addr} {its_KEYS_0 : Array Value} {n_KEYS_0 : Nat} {sl_KEYS_0 : Array (Option Value)} {x_KEYS_1 : Addr} {od_KEYS_1 : Option Addr} {its_KEYS_1 : Array Value} {n_KEYS_1 : Nat} {sl_KEYS_1 : Array (Option Value)}
    {x_KEY_WORDS : Addr} {od_KEY_WORDS : Option Addr} {its_KEY_WORDS : Array Value} {n_KEY_WORDS : Nat} {sl_KEY_WORDS : Array (Option Value)}
    {x_LEFT_OUT : Addr} {es_LEFT_OUT : Array DictEntry} {ep_LEFT_OUT : Nat}
    {t_LETTERS : Tok}
    {t_MOST_FIGURES : Tok}
    {t_MOST_GROUPS : Tok}
    {t_MOST_LEAVES : Tok}
    {t_MOST_LETTERS : Tok}
    {t_MOST_OFTEN : Tok}
    {t_MOST_OFTENS : Tok}
    {t_MOST_RULES : Tok}
    {t_MOST_WANT : Tok}
    {t_MOST_WORDS : Tok}
    {x_MOST_WRITTEN : Addr} {es_MOST_WRITTEN : Array DictEntry} {ep_MOST_WRITTEN : Nat}
    (m_CourseReader : PySem.W.nsIn K mainGlobals "CourseReader" = some (some (.ref C_CourseReader)))
    (a1 : PySem.W.nsIn K mainGlobals "is_leaf" = some (some (.ref f_q9))) (l1 : K.lookup f_q9 = some ⟨oc1, od1, .func (PySem.W.fnOf "is_leaf" "is_leaf" (defArgs s_q9) (defBody s_q9) (defScope s_q9) .none kV1 dc1 pm1 an1 cd1 ct1), sl1⟩) (c1 : PySem.W.codeIn K cd1 "is_leaf" = true) (k1 : PySem.W.keepIn K (.ref f_q9) = true)
    (a2 : PySem.W.nsIn K mainGlobals "rules_of" = some (some (.ref f_q32))) (l2 : K.lookup f_q32 = some ⟨oc2, od2, .func (PySem.W.fnOf "rules_of" "rules_of" (defArgs s_q32) (defBody s_q32) (defScope s_q32) .none kV2 dc2 pm2 an2 cd2 ct2), sl2⟩) (c2 : PySem.W.codeIn K cd2 "rules_of" = true) (k2 : PySem.W.keepIn K (.ref f_q32) = true)
    (a3 : PySem.W.nsIn K mainGlobals "only_of" = some (some (.ref f_q25))) (l3 : K.lookup f_q25 = some ⟨oc3, od3, .func (PySem.W.fnOf "only_of" "only_of" (defArgs s_q25) (defBody s_q25) (defScope s_q25) .none kV3 dc3 pm3 an3 cd3 ct3), sl3⟩) (c3 : PySem.W.codeIn K cd3 "only_of" = true) (k3 : PySem.W.keepIn K (.ref f_q25) = true)
    (a4 : PySem.W.nsIn K mainGlobals "is_word" = some (some (.ref f_q11))) (l4 : K.lookup f_q11 = some ⟨oc4, od4, .func (PySem.W.fnOf "is_word" "is_word" (defArgs s_q11) (defBody s_q11) (defScope s_q11) .none kV4 dc4 pm4 an4 cd4 ct4), sl4⟩) (c4 : PySem.W.codeIn K cd4 "is_word" = true) (k4 : PySem.W.keepIn K (.ref f_q11) = true)
    (a5 : PySem.W.nsIn K mainGlobals "is_number" = some (some (.ref f_q10))) (l5 : K.lookup f_q10 = some ⟨oc5, od5, .func (PySem.W.fnOf "is_number" "is_number" (defArgs s_q10) (defBody s_q10) (defScope s_q10) .none kV5 dc5 pm5 an5 cd5 ct5), sl5⟩) (c5 : PySem.W.codeIn K cd5 "is_number" = true) (k5 : PySem.W.keepIn K (.ref f_q10) = true)
    (a6 : PySem.W.nsIn K mainGlobals "read_number" = some (some (.ref f_q29))) (l6 : K.lookup f_q29 = some ⟨oc6, od6, .func (PySem.W.fnOf "read_number" "read_number" (defArgs s_q29) (defBody s_q29) (defScope s_q29) .none kV6 dc6 pm6 an6 cd6 ct6), sl6⟩) (c6 : PySem.W.codeIn K cd6 "read_number" = true) (k6 : PySem.W.keepIn K (.ref f_q29) = true)
    (a7 : PySem.W.nsIn K mainGlobals "are_words" = some (some (.ref f_q8))) (l7 : K.lookup f_q8 = some ⟨oc7, od7, .func (PySem.W.fnOf "are_words" "are_words" (defArgs s_q8) (defBody s_q8) (defScope s_q8) .none kV7 dc7 pm7 an7 cd7 ct7), sl7⟩) (c7 : PySem.W.codeIn K cd7 "are_words" = true) (k7 : PySem.W.keepIn K (.ref f_q8) = true)
    (a8 : PySem.W.nsIn K mainGlobals "words_ahead" = some (some (.ref f_q36))) (l8 : K.lookup f_q36 = some ⟨oc8, od8, .func (PySem.W.fnOf "words_ahead" "words_ahead" (defArgs s_q36) (defBody s_q36) (defScope s_q36) .none kV8 dc8 pm8 an8 cd8 ct8), sl8⟩) (c8 : PySem.W.codeIn K cd8 "words_ahead" = true) (k8 : PySem.W.keepIn K (.ref f_q36) = true)
    (a9 : PySem.W.nsIn K mainGlobals "read_values" = some (some (.ref f_q30))) (l9 : K.lookup f_q30 = some ⟨oc9, od9, .func (PySem.W.fnOf "read_values" "read_values" (defArgs s_q30) (defBody s_q30) (defScope s_q30) .none kV9 dc9 pm9 an9 cd9 ct9), sl9⟩) (c9 : PySem.W.codeIn K cd9 "read_values" = true) (k9 : PySem.W.keepIn K (.ref f_q30) = true)
    (a10 : PySem.W.nsIn K mainGlobals "read_leaf" = some (some (.ref f_q28))) (l10 : K.lookup f_q28 = some ⟨oc10, od10, .func (PySem.W.fnOf "read_leaf" "read_leaf" (defArgs s_q28) (defBody s_q28) (defScope s_q28) .none kV10 dc10 pm10 an10 cd10 ct10), sl10⟩) (c10 : PySem.W.codeIn K cd10 "read_leaf" = true) (k10 : PySem.W.keepIn K (.ref f_q28) = true)
    (a11 : PySem.W.nsIn K mainGlobals "read_group" = some (some (.ref f_q27))) (l11 : K.lookup f_q27 = some ⟨oc11, od11, .func (PySem.W.fnOf "read_group" "read_group" (defArgs s_q27) (defBody s_q27) (defScope s_q27) .none kV11 dc11 pm11 an11 cd11 ct11), sl11⟩) (c11 : PySem.W.codeIn K cd11 "read_group" = true) (k11 : PySem.W.keepIn K (.ref f_q27) = true)
    (a12 : PySem.W.nsIn K mainGlobals "least_rules" = some (some (.ref f_q24))) (l12 : K.lookup f_q24 = some ⟨oc12, od12, .func (PySem.W.fnOf "least_rules" "least_rules" (defArgs s_q24) (defBody s_q24) (defScope s_q24) .none kV12 dc12 pm12 an12 cd12 ct12), sl12⟩) (c12 : PySem.W.codeIn K cd12 "least_rules" = true) (k12 : PySem.W.keepIn K (.ref f_q24) = true)
    (a13 : PySem.W.findIn K (.ref C_CourseReader) "__init__" = some (some (.ref f_q0))) (l13 : K.lookup f_q0 = some ⟨oc13, od13, .func (PySem.W.fnOf "__init__" "CourseReader.__init__" (defArgs s_q0) (defBody s_q0) (defScope s_q0) .none kV13 dc13 pm13 an13 cd13 ct13), sl13⟩) (c13 : PySem.W.codeIn K cd13 "CourseReader.__init__" = true) (k13 : PySem.W.keepIn K (.ref f_q0) = true)
    (a14 : PySem.W.findIn K (.ref C_CourseReader) "take" = some (some (.ref f_q3))) (l14 : K.lookup f_q3 = some ⟨oc14, od14, .func (PySem.W.fnOf "take" "CourseReader.take" (defArgs s_q3) (defBody s_q3) (defScope s_q3) .none kV14 dc14 pm14 an14 cd14 ct14), sl14⟩) (c14 : PySem.W.codeIn K cd14 "CourseReader.take" = true) (k14 : PySem.W.keepIn K (.ref f_q3) = true)
    (a15 : PySem.W.findIn K (.ref C_CourseReader) "take_often" = some (some (.ref f_q7))) (l15 : K.lookup f_q7 = some ⟨oc15, od15, .func (PySem.W.fnOf "take_often" "CourseReader.take_often" (defArgs s_q7) (defBody s_q7) (defScope s_q7) .none kV15 dc15 pm15 an15 cd15 ct15), sl15⟩) (c15 : PySem.W.codeIn K cd15 "CourseReader.take_often" = true) (k15 : PySem.W.keepIn K (.ref f_q7) = true)
    (a16 : PySem.W.findIn K (.ref C_CourseReader) "take_group" = some (some (.ref f_q5))) (l16 : K.lookup f_q5 = some ⟨oc16, od16, .func (PySem.W.fnOf "take_group" "CourseReader.take_group" (defArgs s_q5) (defBody s_q5) (defScope s_q5) .none kV16 dc16 pm16 an16 cd16 ct16), sl16⟩) (c16 : PySem.W.codeIn K cd16 "CourseReader.take_group" = true) (k16 : PySem.W.keepIn K (.ref f_q5) = true)
    (a17 : PySem.W.findIn K (.ref C_CourseReader) "take_end" = some (some (.ref f_q4))) (l17 : K.lookup f_q4 = some ⟨oc17, od17, .func (PySem.W.fnOf "take_end" "CourseReader.take_end" (defArgs s_q4) (defBody s_q4) (defScope s_q4) .none kV17 dc17 pm17 an17 cd17 ct17), sl17⟩) (c17 : PySem.W.codeIn K cd17 "CourseReader.take_end" = true) (k17 : PySem.W.keepIn K (.ref f_q4) = true)
    (a18 : PySem.W.findIn K (.ref C_CourseReader) "take_leaf" = some (some (.ref f_q6))) (l18 : K.lookup f_q6 = some ⟨oc18, od18, .func (PySem.W.fnOf "take_leaf" "CourseReader.take_leaf" (defArgs s_q6) (defBody s_q6) (defScope s_q6) .none kV18 dc18 pm18 an18 cd18 ct18), sl18⟩) (c18 : PySem.W.codeIn K cd18 "CourseReader.take_leaf" = true) (k18 : PySem.W.keepIn K (.ref f_q6) = true)
    (a19 : PySem.W.findIn K (.ref C_CourseReader) "has_room" = some (some (.ref f_q1))) (l19 : K.lookup f_q1 = some ⟨oc19, od19, .func (PySem.W.fnOf "has_room" "CourseReader.has_room" (defArgs s_q1) (defBody s_q1) (defScope s_q1) .none kV19 dc19 pm19 an19 cd19 ct19), sl19⟩) (c19 : PySem.W.codeIn K cd19 "CourseReader.has_room" = true) (k19 : PySem.W.keepIn K (.ref f_q1) = true)
    (a20 : PySem.W.findIn K (.ref C_CourseReader) "put_rule" = some (some (.ref f_q2))) (l20 : K.lookup f_q2 = some ⟨oc20, od20, .func (PySem.W.fnOf "put_rule" "CourseReader.put_rule" (defArgs s_q2) (defBody s_q2) (defScope s_q2) .none kV20 dc20 pm20 an20 cd20 ct20), sl20⟩) (c20 : PySem.W.codeIn K cd20 "CourseReader.put_rule" = true) (k20 : PySem.W.keepIn K (.ref f_q2) = true)
    (a21 : PySem.W.nsIn K mainGlobals "read_course" = some (some (.ref f_q26))) (l21 : K.lookup f_q26 = some ⟨oc21, od21, .func (PySem.W.fnOf "read_course" "read_course" (defArgs s_q26) (defBody s_q26) (defScope s_q26) .none kV21 dc21 pm21 an21 cd21 ct21), sl21⟩) (c21 : PySem.W.codeIn K cd21 "read_course" = true) (k21 : PySem.W.keepIn K (.ref f_q26) = true)
    (a22 : PySem.W.nsIn K mainGlobals "show_leaf" = some (some (.ref f_q35))) (l22 : K.lookup f_q35 = some ⟨oc22, od22, .func (PySem.W.fnOf "show_leaf" "show_leaf" (defArgs s_q35) (defBody s_q35) (defScope s_q35) .none kV22 dc22 pm22 an22 cd22 ct22), sl22⟩) (c22 : PySem.W.codeIn K cd22 "show_leaf" = true) (k22 : PySem.W.keepIn K (.ref f_q35) = true)
    (a23 : PySem.W.nsIn K mainGlobals "show_head" = some (some (.ref f_q34))) (l23 : K.lookup f_q34 = some ⟨oc23, od23, .func (PySem.W.fnOf "show_head" "show_head" (defArgs s_q34) (defBody s_q34) (defScope s_q34) .none kV23 dc23 pm23 an23 cd23 ct23), sl23⟩) (c23 : PySem.W.codeIn K cd23 "show_head" = true) (k23 : PySem.W.keepIn K (.ref f_q34) = true)
    (a24 : PySem.W.nsIn K mainGlobals "rows_of_rule" = some (some (.ref f_q31))) (l24 : K.lookup f_q31 = some ⟨oc24, od24, .func (PySem.W.fnOf "rows_of_rule" "rows_of_rule" (defArgs s_q31) (defBody s_q31) (defScope s_q31) .none kV24 dc24 pm24 an24 cd24 ct24), sl24⟩) (c24 : PySem.W.codeIn K cd24 "rows_of_rule" = true) (k24 : PySem.W.keepIn K (.ref f_q31) = true)
    (a25 : PySem.W.nsIn K mainGlobals "show_course" = some (some (.ref f_q33))) (l25 : K.lookup f_q33 = some ⟨oc25, od25, .func (PySem.W.fnOf "show_course" "show_course" (defArgs s_q33) (defBody s_q33) (defScope s_q33) .none kV25 dc25 pm25 an25 cd25 ct25), sl25⟩) (c25 : PySem.W.codeIn K cd25 "show_course" = true) (k25 : PySem.W.keepIn K (.ref f_q33) = true)
    (a26 : PySem.W.nsIn K mainGlobals "_law_cell_at" = some (some (.ref f_q14))) (l26 : K.lookup f_q14 = some ⟨oc26, od26, .func (PySem.W.fnOf "_law_cell_at" "_law_cell_at" (defArgs s_q14) (defBody s_q14) (defScope s_q14) .none kV26 dc26 pm26 an26 cd26 ct26), sl26⟩) (c26 : PySem.W.codeIn K cd26 "_law_cell_at" = true) (k26 : PySem.W.keepIn K (.ref f_q14) = true)
    (a27 : PySem.W.nsIn K mainGlobals "_law_word" = some (some (.ref f_q23))) (l27 : K.lookup f_q23 = some ⟨oc27, od27, .func (PySem.W.fnOf "_law_word" "_law_word" (defArgs s_q23) (defBody s_q23) (defScope s_q23) .none kV27 dc27 pm27 an27 cd27 ct27), sl27⟩) (c27 : PySem.W.codeIn K cd27 "_law_word" = true) (k27 : PySem.W.keepIn K (.ref f_q23) = true)
    (a28 : PySem.W.nsIn K mainGlobals "_law_number" = some (some (.ref f_q21))) (l28 : K.lookup f_q21 = some ⟨oc28, od28, .func (PySem.W.fnOf "_law_number" "_law_number" (defArgs s_q21) (defBody s_q21) (defScope s_q21) .none kV28 dc28 pm28 an28 cd28 ct28), sl28⟩) (c28 : PySem.W.codeIn K cd28 "_law_number" = true) (k28 : PySem.W.keepIn K (.ref f_q21) = true)
    (a29 : PySem.W.nsIn K mainGlobals "_law_leaf" = some (some (.ref f_q18))) (l29 : K.lookup f_q18 = some ⟨oc29, od29, .func (PySem.W.fnOf "_law_leaf" "_law_leaf" (defArgs s_q18) (defBody s_q18) (defScope s_q18) .none kV29 dc29 pm29 an29 cd29 ct29), sl29⟩) (c29 : PySem.W.codeIn K cd29 "_law_leaf" = true) (k29 : PySem.W.keepIn K (.ref f_q18) = true)
    (a30 : PySem.W.nsIn K mainGlobals "_law_closed" = some (some (.ref f_q15))) (l30 : K.lookup f_q15 = some ⟨oc30, od30, .func (PySem.W.fnOf "_law_closed" "_law_closed" (defArgs s_q15) (defBody s_q15) (defScope s_q15) .none kV30 dc30 pm30 an30 cd30 ct30), sl30⟩) (c30 : PySem.W.codeIn K cd30 "_law_closed" = true) (k30 : PySem.W.keepIn K (.ref f_q15) = true)
    (a31 : PySem.W.nsIn K mainGlobals "_law_rule" = some (some (.ref f_q22))) (l31 : K.lookup f_q22 = some ⟨oc31, od31, .func (PySem.W.fnOf "_law_rule" "_law_rule" (defArgs s_q22) (defBody s_q22) (defScope s_q22) .none kV31 dc31 pm31 an31 cd31 ct31), sl31⟩) (c31 : PySem.W.codeIn K cd31 "_law_rule" = true) (k31 : PySem.W.keepIn K (.ref f_q22) = true)
    (a32 : PySem.W.nsIn K mainGlobals "_law_course" = some (some (.ref f_q17))) (l32 : K.lookup f_q17 = some ⟨oc32, od32, .func (PySem.W.fnOf "_law_course" "_law_course" (defArgs s_q17) (defBody s_q17) (defScope s_q17) .none kV32 dc32 pm32 an32 cd32 ct32), sl32⟩) (c32 : PySem.W.codeIn K cd32 "_law_course" = true) (k32 : PySem.W.keepIn K (.ref f_q17) = true)
    (a33 : PySem.W.nsIn K mainGlobals "_law_leaf_line" = some (some (.ref f_q19))) (l33 : K.lookup f_q19 = some ⟨oc33, od33, .func (PySem.W.fnOf "_law_leaf_line" "_law_leaf_line" (defArgs s_q19) (defBody s_q19) (defScope s_q19) .none kV33 dc33 pm33 an33 cd33 ct33), sl33⟩) (c33 : PySem.W.codeIn K cd33 "_law_leaf_line" = true) (k33 : PySem.W.keepIn K (.ref f_q19) = true)
    (a34 : PySem.W.nsIn K mainGlobals "_law_lines" = some (some (.ref f_q20))) (l34 : K.lookup f_q20 = some ⟨oc34, od34, .func (PySem.W.fnOf "_law_lines" "_law_lines" (defArgs s_q20) (defBody s_q20) (defScope s_q20) .none kV34 dc34 pm34 an34 cd34 ct34), sl34⟩) (c34 : PySem.W.codeIn K cd34 "_law_lines" = true) (k34 : PySem.W.keepIn K (.ref f_q20) = true)
    (a35 : PySem.W.nsIn K mainGlobals "_law_copy" = some (some (.ref f_q16))) (l35 : K.lookup f_q16 = some ⟨oc35, od35, .func (PySem.W.fnOf "_law_copy" "_law_copy" (defArgs s_q16) (defBody s_q16) (defScope s_q16) .none kV35 dc35 pm35 an35 cd35 ct35), sl35⟩) (c35 : PySem.W.codeIn K cd35 "_law_copy" = true) (k35 : PySem.W.keepIn K (.ref f_q16) = true)
    (a36 : PySem.W.nsIn K mainGlobals "_law_alike" = some (some (.ref f_q13))) (l36 : K.lookup f_q13 = some ⟨oc36, od36, .func (PySem.W.fnOf "_law_alike" "_law_alike" (defArgs s_q13) (defBody s_q13) (defScope s_q13) .none kV36 dc36 pm36 an36 cd36 ct36), sl36⟩) (c36 : PySem.W.codeIn K cd36 "_law_alike" = true) (k36 : PySem.W.keepIn K (.ref f_q13) = true)
    (a37 : PySem.W.nsIn K mainGlobals "law" = some (some (.ref f_q12))) (l37 : K.lookup f_q12 = some ⟨oc37, od37, .func (PySem.W.fnOf "law" "law" (defArgs s_q12) (defBody s_q12) (defScope s_q12) .none kV37 dc37 pm37 an37 cd37 ct37), sl37⟩) (c37 : PySem.W.codeIn K cd37 "law" = true) (k37 : PySem.W.keepIn K (.ref f_q12) = true)
    (pg_CourseReader : PySem.W.plainGet K C_CourseReader Str.empty = true) (hd_CourseReader : PySem.W.hasDictIn K C_CourseReader = true) (po_CourseReader : PySem.W.plainOver K C_CourseReader = true) (sa_CourseReader : PySem.W.findIn K (.ref C_CourseReader) "__setattr__" = some (some (.builtin "object.__setattr__")))
    (mks_CourseReader : PySem.W.makesIn K C_CourseReader = true) (fn_q0 : PySem.W.isFn K (.ref f_q0) = true) (kp_CourseReader : PySem.W.keepIn K (.ref C_CourseReader) = true)
    (fn_q3 : PySem.W.isFn K (.ref f_q3) = true)
    (fn_q7 : PySem.W.isFn K (.ref f_q7) = true)
    (fn_q5 : PySem.W.isFn K (.ref f_q5) = true)
    (fn_q4 : PySem.W.isFn K (.ref f_q4) = true)
    (fn_q6 : PySem.W.isFn K (.ref f_q6) = true)
    (fn_q1 : PySem.W.isFn K (.ref f_q1) = true)
    (fn_q2 : PySem.W.isFn K (.ref f_q2) = true)
    (no_CourseReader_oftens : PySem.W.findIn K (.ref C_CourseReader) "oftens" = some none)
    (no_CourseReader_groups : PySem.W.findIn K (.ref C_CourseReader) "groups" = some none)
    (no_CourseReader_leaves : PySem.W.findIn K (.ref C_CourseReader) "leaves" = some none)
    (no_CourseReader_rule : PySem.W.findIn K (.ref C_CourseReader) "rule" = some none)
    (z_all : PySem.W.nsIn K mainGlobals "all" = some none)
    (z_bool : PySem.W.nsIn K mainGlobals "bool" = some none)
    (z_enumerate : PySem.W.nsIn K mainGlobals "enumerate" = some none)
    (z_int : PySem.W.nsIn K mainGlobals "int" = some none)
    (z_isinstance : PySem.W.nsIn K mainGlobals "isinstance" = some none)
    (z_len : PySem.W.nsIn K mainGlobals "len" = some none)
    (z_list : PySem.W.nsIn K mainGlobals "list" = some none)
    (z_range : PySem.W.nsIn K mainGlobals "range" = some none)
    (z_set : PySem.W.nsIn K mainGlobals "set" = some none)
    (z_str : PySem.W.nsIn K mainGlobals "str" = some none)
    (z_tuple : PySem.W.nsIn K mainGlobals "tuple" = some none)
    (z_zip : PySem.W.nsIn K mainGlobals "zip" = some none)
    (kk_FIGURES : PySem.W.nsIn K mainGlobals "FIGURES" = some (some (.str "0123456789" t_FIGURES)))
    (kk_KEYS : PySem.W.nsIn K mainGlobals "KEYS" = some (some (.ref x_KEYS))) (ll_KEYS : K.lookup x_KEYS = some ⟨.type "dict", none, .dict es_KEYS ep_KEYS, #[]⟩) (ns_KEYS : (x_KEYS == sysModules) = false) (rr_KEYS : es_KEYS.toList.map L9.entryV = ([("from", V.ref x_KEYS_0), ("of", V.ref x_KEYS_1)] : List (Str × V)).map some)
    (ll_KEYS_0 : K.lookup x_KEYS_0 = some ⟨.type "tuple", od_KEYS_0, .seq its_KEYS_0 n_KEYS_0, sl_KEYS_0⟩) (v_KEYS_0 : its_KEYS_0.toList.map absV = [V.str "level", V.str "mark", V.str "worth"].map some)
    (ll_KEYS_1 : K.lookup x_KEYS_1 = some ⟨.type "tuple", od_KEYS_1, .seq its_KEYS_1 n_KEYS_1, sl_KEYS_1⟩) (v_KEYS_1 : its_KEYS_1.toList.map absV = [V.str "mark", V.str "worth"].map some)
    (kk_KEY_WORDS : PySem.W.nsIn K mainGlobals "KEY_WORDS" = some (some (.ref x_KEY_WORDS))) (ll_KEY_WORDS : K.lookup x_KEY_WORDS = some ⟨.type "tuple", od_KEY_WORDS, .seq its_KEY_WORDS n_KEY_WORDS, sl_KEY_WORDS⟩) (v_KEY_WORDS : its_KEY_WORDS.toList.map absV = [V.str "often", V.str "all", V.str "some", V.str "of", V.str "from", V.str "any", V.str "or", V.str "level", V.str "mark", V.str "worth", V.str "end"].map some)
    (kk_LEFT_OUT : PySem.W.nsIn K mainGlobals "LEFT_OUT" = some (some (.ref x_LEFT_OUT))) (ll_LEFT_OUT : K.lookup x_LEFT_OUT = some ⟨.type "dict", none, .dict es_LEFT_OUT ep_LEFT_OUT, #[]⟩) (ns_LEFT_OUT : (x_LEFT_OUT == sysModules) = false) (rr_LEFT_OUT : es_LEFT_OUT.toList.map L9.entryV = ([("level", V.int 0), ("mark", V.int 0), ("worth", V.int 1)] : List (Str × V)).map some)
    (kk_LETTERS : PySem.W.nsIn K mainGlobals "LETTERS" = some (some (.str "abcdefghijklmnopqrstuvwxyz" t_LETTERS)))
    (kk_MOST_FIGURES : PySem.W.nsIn K mainGlobals "MOST_FIGURES" = some (some (.int 60 t_MOST_FIGURES)))
    (kk_MOST_GROUPS : PySem.W.nsIn K mainGlobals "MOST_GROUPS" = some (some (.int 6 t_MOST_GROUPS)))
    (kk_MOST_LEAVES : PySem.W.nsIn K mainGlobals "MOST_LEAVES" = some (some (.int 16 t_MOST_LEAVES)))
    (kk_MOST_LETTERS : PySem.W.nsIn K mainGlobals "MOST_LETTERS" = some (some (.int 12 t_MOST_LETTERS)))
    (kk_MOST_OFTEN : PySem.W.nsIn K mainGlobals "MOST_OFTEN" = some (some (.int 9 t_MOST_OFTEN)))
    (kk_MOST_OFTENS : PySem.W.nsIn K mainGlobals "MOST_OFTENS" = some (some (.int 16 t_MOST_OFTENS)))
    (kk_MOST_RULES : PySem.W.nsIn K mainGlobals "MOST_RULES" = some (some (.int 16 t_MOST_RULES)))
    (kk_MOST_WANT : PySem.W.nsIn K mainGlobals "MOST_WANT" = some (some (.int 60 t_MOST_WANT)))
    (kk_MOST_WORDS : PySem.W.nsIn K mainGlobals "MOST_WORDS" = some (some (.int 8 t_MOST_WORDS)))
    (kk_MOST_WRITTEN : PySem.W.nsIn K mainGlobals "MOST_WRITTEN" = some (some (.ref x_MOST_WRITTEN))) (ll_MOST_WRITTEN : K.lookup x_MOST_WRITTEN = some ⟨.type "dict", none, .dict es_MOST_WRITTEN ep_MOST_WRITTEN, #[]⟩) (ns_MOST_WRITTEN : (x_MOST_WRITTEN == sysModules) = false) (rr_MOST_WRITTEN : es_MOST_WRITTEN.toList.map L9.entryV = ([("level", V.int 999999999999999999999999999999999999999999999999999999999999), ("mark", V.int 999999999999999999999999999999999999999999999999999999999999), ("worth", V.int 9)] : List (Str × V)).map some) :
    ∃ fd : FuncData, (∀ (s : Shared) (v : Value), BindsTo s fd ⟨[v], []⟩ [("_law_script", v)]) ∧ ∀ base : Heap, K.In base → base.Ns mainGlobals mg → FnOk l.prog w K mg base CX0 22 fa fd ["_law_script"] (sp_q12 K) := by
  have e := hfa.symm.trans (PySem.W.mg_of X G a37)
  cases e
  have T : Txt K mg ⟨f_q9, f_q32, f_q25, f_q11, f_q10, f_q29, f_q8, f_q36, f_q30, f_q28, f_q27, f_q24, f_q0, f_q3, f_q7, f_q5, f_q4, f_q6, f_q1, f_q2, f_q26, f_q35, f_q34, f_q31, f_q33, f_q14, f_q23, f_q21, f_q18, f_q15, f_q22, f_q17, f_q19, f_q20, f_q16, f_q13, C_CourseReader, x_KEYS, x_KEY_WORDS, x_LEFT_OUT, x_MOST_WRITTEN, x_KEYS_0, x_KEYS_1⟩ := ⟨PySem.W.mg_of X G a1, PySem.W.mg_of X G a2, PySem.W.mg_of X G a3, PySem.W.mg_of X G a4, PySem.W.mg_of X G a5, PySem.W.mg_of X G a6, PySem.W.mg_of X G a7, PySem.W.mg_of X G a8, PySem.W.mg_of X G a9, PySem.W.mg_of X G a10, PySem.W.mg_of X G a11, PySem.W.mg_of X G a12, PySem.W.mg_of X G a21, PySem.W.mg_of X G a22, PySem.W.mg_of X G a23, PySem.W.mg_of X G a24, PySem.W.mg_of X G a25, PySem.W.mg_of X G a26, PySem.W.mg_of X G a27, PySem.W.mg_of X G a28, PySem.W.mg_of X G a29, PySem.W.mg_of X G a30, PySem.W.mg_of X G a31, PySem.W.mg_of X G a32, PySem.W.mg_of X G a33, PySem.W.mg_of X G a34, PySem.W.mg_of X G a35, PySem.W.mg_of X G a36, PySem.W.mg_of X G m_CourseReader, ⟨pg_CourseReader, hd_CourseReader, po_CourseReader, sa_CourseReader⟩, ⟨mks_CourseReader, a13, fn_q0, kp_CourseReader⟩, ⟨a14, fn_q3, k14⟩, ⟨a15, fn_q7, k15⟩, ⟨a16, fn_q5, k16⟩, ⟨a17, fn_q4, k17⟩, ⟨a18, fn_q6, k18⟩, ⟨a19, fn_q1, k19⟩, ⟨a20, fn_q2, k20⟩, no_CourseReader_oftens, no_CourseReader_groups, no_CourseReader_leaves, no_CourseReader_rule, PySem.W.mg_none_of X G z_all, PySem.W.mg_none_of X G z_bool, PySem.W.mg_none_of X G z_enumerate, PySem.W.mg_none_of X G z_int, PySem.W.mg_none_of X G z_isinstance, PySem.W.mg_none_of X G z_len, PySem.W.mg_none_of X G z_list, PySem.W.mg_none_of X G z_range, PySem.W.mg_none_of X G z_set, PySem.W.mg_none_of X G z_str, PySem.W.mg_none_of X G z_tuple, PySem.W.mg_none_of X G z_zip, ⟨_, PySem.W.mg_of X G kk_FIGURES⟩, PySem.W.mg_of X G kk_KEYS, ⟨ns_KEYS, _, es_KEYS, ep_KEYS, ll_KEYS, ⟨rfl, rfl, rfl⟩, rfl, L9.rows_of_map rr_KEYS⟩, fun H => .inr ⟨_, its_KEYS_0, n_KEYS_0, ll_KEYS_0, rfl, rfl, (by have e := congrArg List.length v_KEYS_0; simp at e; rw [sizeLine_eq]; omega), vals_of v_KEYS_0⟩, fun H => .inr ⟨_, its_KEYS_1, n_KEYS_1, ll_KEYS_1, rfl, rfl, (by have e := congrArg List.length v_KEYS_1; simp at e; rw [sizeLine_eq]; omega), vals_of v_KEYS_1⟩, PySem.W.mg_of X G kk_KEY_WORDS, fun H => .inr ⟨_, its_KEY_WORDS, n_KEY_WORDS, ll_KEY_WORDS, rfl, rfl, (by have e := congrArg List.length v_KEY_WORDS; simp at e; rw [sizeLine_eq]; omega), vals_of v_KEY_WORDS⟩, PySem.W.mg_of X G kk_LEFT_OUT, ⟨ns_LEFT_OUT, _, es_LEFT_OUT, ep_LEFT_OUT, ll_LEFT_OUT, ⟨rfl, rfl, rfl⟩, rfl, L9.rows_of_map rr_LEFT_OUT⟩, ⟨_, PySem.W.mg_of X G kk_LETTERS⟩, ⟨_, PySem.W.mg_of X G kk_MOST_FIGURES⟩, ⟨_, PySem.W.mg_of X G kk_MOST_GROUPS⟩, ⟨_, PySem.W.mg_of X G kk_MOST_LEAVES⟩, ⟨_, PySem.W.mg_of X G kk_MOST_LETTERS⟩, ⟨_, PySem.W.mg_of X G kk_MOST_OFTEN⟩, ⟨_, PySem.W.mg_of X G kk_MOST_OFTENS⟩, ⟨_, PySem.W.mg_of X G kk_MOST_RULES⟩, ⟨_, PySem.W.mg_of X G kk_MOST_WANT⟩, ⟨_, PySem.W.mg_of X G kk_MOST_WORDS⟩, PySem.W.mg_of X G kk_MOST_WRITTEN, ⟨ns_MOST_WRITTEN, _, es_MOST_WRITTEN, ep_MOST_WRITTEN, ll_MOST_WRITTEN, ⟨rfl, rfl, rfl⟩, rfl, L9.rows_of_map rr_MOST_WRITTEN⟩⟩
  have F_q9 := fun_mk (st := s_q9) l1 c1 k1
  have b_q9 := F_q9.binds (ps := ["rule"]) fun _ _ _ _ _ _ us hl => match us, hl with | [_], _ => rfl
  have F_q32 := fun_mk (st := s_q32) l2 c2 k2
  have b_q32 := F_q32.binds (ps := ["group"]) fun _ _ _ _ _ _ us hl => match us, hl with | [_], _ => rfl
  have F_q25 := fun_mk (st := s_q25) l3 c3 k3
  have b_q25 := F_q25.binds (ps := ["text", "signs"]) fun _ _ _ _ _ _ us hl => match us, hl with | [_, _], _ => rfl
  have F_q11 := fun_mk (st := s_q11) l4 c4 k4
  have b_q11 := F_q11.binds (ps := ["thing"]) fun _ _ _ _ _ _ us hl => match us, hl with | [_], _ => rfl
  have F_q10 := fun_mk (st := s_q10) l5 c5 k5
  have b_q10 := F_q10.binds (ps := ["text"]) fun _ _ _ _ _ _ us hl => match us, hl with | [_], _ => rfl
  have F_q29 := fun_mk (st := s_q29) l6 c6 k6
  have b_q29 := F_q29.binds (ps := ["text", "least", "most"]) fun _ _ _ _ _ _ us hl => match us, hl with | [_, _, _], _ => rfl
  have F_q8 := fun_mk (st := s_q8) l7 c7 k7
  have b_q8 := F_q8.binds (ps := ["words"]) fun _ _ _ _ _ _ us hl => match us, hl with | [_], _ => rfl
  have F_q36 := fun_mk (st := s_q36) l8 c8 k8
  have b_q36 := F_q36.binds (ps := ["parts"]) fun _ _ _ _ _ _ us hl => match us, hl with | [_], _ => rfl
  have F_q30 := fun_mk (st := s_q30) l9 c9 k9
  have b_q30 := F_q30.binds (ps := ["parts", "keys"]) fun _ _ _ _ _ _ us hl => match us, hl with | [_, _], _ => rfl
  have F_q28 := fun_mk (st := s_q28) l10 c10 k10
  have b_q28 := F_q28.binds (ps := ["parts"]) fun _ _ _ _ _ _ us hl => match us, hl with | [_], _ => rfl
  have F_q27 := fun_mk (st := s_q27) l11 c11 k11
  have b_q27 := F_q27.binds (ps := ["parts"]) fun _ _ _ _ _ _ us hl => match us, hl with | [_], _ => rfl
  have F_q24 := fun_mk (st := s_q24) l12 c12 k12
  have b_q24 := F_q24.binds (ps := ["group"]) fun _ _ _ _ _ _ us hl => match us, hl with | [_], _ => rfl
  have F_q0 := fun_mk (st := s_q0) l13 c13 k13
  have b_q0 := F_q0.binds (ps := ["self"]) fun _ _ _ _ _ _ us hl => match us, hl with | [_], _ => rfl
  have F_q3 := fun_mk (st := s_q3) l14 c14 k14
  have b_q3 := F_q3.binds (ps := ["self", "row"]) fun _ _ _ _ _ _ us hl => match us, hl with | [_, _], _ => rfl
  have F_q7 := fun_mk (st := s_q7) l15 c15 k15
  have b_q7 := F_q7.binds (ps := ["self", "parts"]) fun _ _ _ _ _ _ us hl => match us, hl with | [_, _], _ => rfl
  have F_q5 := fun_mk (st := s_q5) l16 c16 k16
  have b_q5 := F_q5.binds (ps := ["self", "group"]) fun _ _ _ _ _ _ us hl => match us, hl with | [_, _], _ => rfl
  have F_q4 := fun_mk (st := s_q4) l17 c17 k17
  have b_q4 := F_q4.binds (ps := ["self"]) fun _ _ _ _ _ _ us hl => match us, hl with | [_], _ => rfl
  have F_q6 := fun_mk (st := s_q6) l18 c18 k18
  have b_q6 := F_q6.binds (ps := ["self", "leaf"]) fun _ _ _ _ _ _ us hl => match us, hl with | [_, _], _ => rfl
  have F_q1 := fun_mk (st := s_q1) l19 c19 k19
  have b_q1 := F_q1.binds (ps := ["self"]) fun _ _ _ _ _ _ us hl => match us, hl with | [_], _ => rfl
  have F_q2 := fun_mk (st := s_q2) l20 c20 k20
  have b_q2 := F_q2.binds (ps := ["self", "rule"]) fun _ _ _ _ _ _ us hl => match us, hl with | [_, _], _ => rfl
  have F_q26 := fun_mk (st := s_q26) l21 c21 k21
  have b_q26 := F_q26.binds (ps := ["text"]) fun _ _ _ _ _ _ us hl => match us, hl with | [_], _ => rfl
  have F_q35 := fun_mk (st := s_q35) l22 c22 k22
  have b_q35 := F_q35.binds (ps := ["leaf"]) fun _ _ _ _ _ _ us hl => match us, hl with | [_], _ => rfl
  have F_q34 := fun_mk (st := s_q34) l23 c23 k23
  have b_q34 := F_q34.binds (ps := ["group"]) fun _ _ _ _ _ _ us hl => match us, hl with | [_], _ => rfl
  have F_q31 := fun_mk (st := s_q31) l24 c24 k24
  have b_q31 := F_q31.binds (ps := ["rule"]) fun _ _ _ _ _ _ us hl => match us, hl with | [_], _ => rfl
  have F_q33 := fun_mk (st := s_q33) l25 c25 k25
  have b_q33 := F_q33.binds (ps := ["course"]) fun _ _ _ _ _ _ us hl => match us, hl with | [_], _ => rfl
  have F_q14 := fun_mk (st := s_q14) l26 c26 k26
  have b_q14 := F_q14.binds (ps := ["_law_script", "_law_k"]) fun _ _ _ _ _ _ us hl => match us, hl with | [_, _], _ => rfl
  have F_q23 := fun_mk (st := s_q23) l27 c27 k27
  have b_q23 := F_q23.binds (ps := ["_law_cell", "_law_k"]) fun _ _ _ _ _ _ us hl => match us, hl with | [_, _], _ => rfl
  have F_q21 := fun_mk (st := s_q21) l28 c28 k28
  have b_q21 := F_q21.binds (ps := ["_law_cell"]) fun _ _ _ _ _ _ us hl => match us, hl with | [_], _ => rfl
  have F_q18 := fun_mk (st := s_q18) l29 c29 k29
  have b_q18 := F_q18.binds (ps := ["_law_head", "_law_cell"]) fun _ _ _ _ _ _ us hl => match us, hl with | [_, _], _ => rfl
  have F_q15 := fun_mk (st := s_q15) l30 c30 k30
  have b_q15 := F_q15.binds (ps := ["_law_frames", "_law_cell"]) fun _ _ _ _ _ _ us hl => match us, hl with | [_, _], _ => rfl
  have F_q22 := fun_mk (st := s_q22) l31 c31 k31
  have b_q22 := F_q22.binds (ps := ["_law_head", "_law_cells"]) fun _ _ _ _ _ _ us hl => match us, hl with | [_, _], _ => rfl
  have F_q17 := fun_mk (st := s_q17) l32 c32 k32
  have b_q17 := F_q17.binds (ps := ["_law_script"]) fun _ _ _ _ _ _ us hl => match us, hl with | [_], _ => rfl
  have F_q19 := fun_mk (st := s_q19) l33 c33 k33
  have b_q19 := F_q19.binds (ps := ["_law_leaf_here"]) fun _ _ _ _ _ _ us hl => match us, hl with | [_], _ => rfl
  have F_q20 := fun_mk (st := s_q20) l34 c34 k34
  have b_q20 := F_q20.binds (ps := ["_law_rule_here"]) fun _ _ _ _ _ _ us hl => match us, hl with | [_], _ => rfl
  have F_q16 := fun_mk (st := s_q16) l35 c35 k35
  have b_q16 := F_q16.binds (ps := ["_law_thing"]) fun _ _ _ _ _ _ us hl => match us, hl with | [_], _ => rfl
  have F_q13 := fun_mk (st := s_q13) l36 c36 k36
  have b_q13 := F_q13.binds (ps := ["_law_found", "_law_due"]) fun _ _ _ _ _ _ us hl => match us, hl with | [_, _], _ => rfl
  have F_q12 := fun_mk (st := s_q12) l37 c37 k37
  refine ⟨PySem.W.fnOf "law" "law" (defArgs s_q12) (defBody s_q12) (defScope s_q12) .none kV37 dc37 pm37 an37 cd37 ct37, fun s v => .of_eq rfl, fun base _ _ => ?_⟩
  have G_q9 := ok_q9 (P := l.prog) (w := w) (base := base) F_q9 T
  have G_q32 := ok_q32 (P := l.prog) (w := w) (base := base) F_q32 T
  have G_q25 := ok_q25 (P := l.prog) (w := w) (base := base) F_q25 T
  have G_q11 := ok_q11 (P := l.prog) (w := w) (base := base) F_q11 T G_q25 F_q25 b_q25
  have G_q10 := ok_q10 (P := l.prog) (w := w) (base := base) F_q10 T G_q25 F_q25 b_q25
  have G_q29 := ok_q29 (P := l.prog) (w := w) (base := base) F_q29 T G_q10 F_q10 b_q10
  have G_q8 := ok_q8 (P := l.prog) (w := w) (base := base) F_q8 T G_q11 F_q11 b_q11
  have G_q36 := ok_q36 (P := l.prog) (w := w) (base := base) F_q36 T
  have G_q30 := ok_q30 (P := l.prog) (w := w) (base := base) F_q30 T G_q29 F_q29 b_q29
  have G_q28 := ok_q28 (P := l.prog) (w := w) (base := base) F_q28 T G_q8 F_q8 b_q8 G_q29 F_q29 b_q29 G_q30 F_q30 b_q30 G_q36 F_q36 b_q36
  have G_q27 := ok_q27 (P := l.prog) (w := w) (base := base) F_q27 T G_q29 F_q29 b_q29
  have G_q24 := ok_q24 (P := l.prog) (w := w) (base := base) F_q24 T
  have G_q0 := ok_q0 (P := l.prog) (w := w) (base := base) F_q0 T
  have G_q2 := ok_q2 (P := l.prog) (w := w) (base := base) F_q2 T G_q32 F_q32 b_q32
  have G_q4 := ok_q4 (P := l.prog) (w := w) (base := base) F_q4 T G_q2 F_q2 b_q2 G_q24 F_q24 b_q24 G_q32 F_q32 b_q32
  have G_q1 := ok_q1 (P := l.prog) (w := w) (base := base) F_q1 T G_q32 F_q32 b_q32
  have G_q5 := ok_q5 (P := l.prog) (w := w) (base := base) F_q5 T G_q1 F_q1 b_q1
  have G_q6 := ok_q6 (P := l.prog) (w := w) (base := base) F_q6 T G_q1 F_q1 b_q1 G_q2 F_q2 b_q2
  have G_q7 := ok_q7 (P := l.prog) (w := w) (base := base) F_q7 T G_q11 F_q11 b_q11 G_q29 F_q29 b_q29
  have G_q3 := ok_q3 (P := l.prog) (w := w) (base := base) F_q3 T G_q4 F_q4 b_q4 G_q5 F_q5 b_q5 G_q6 F_q6 b_q6 G_q7 F_q7 b_q7 G_q27 F_q27 b_q27 G_q28 F_q28 b_q28
  have G_q26 := ok_q26 (P := l.prog) (w := w) (base := base) F_q26 T G_q0 F_q0 b_q0 G_q3 F_q3 b_q3
  have G_q35 := ok_q35 (P := l.prog) (w := w) (base := base) F_q35 T
  have G_q34 := ok_q34 (P := l.prog) (w := w) (base := base) F_q34 T
  have G_q31 := ok_q31 (P := l.prog) (w := w) (base := base) T G_q9 F_q9 b_q9 G_q32 F_q32 b_q32 G_q34 F_q34 b_q34 G_q35 F_q35 b_q35 F_q31 b_q31
  have G_q33 := ok_q33 (P := l.prog) (w := w) (base := base) F_q33 T G_q31 F_q31 b_q31
  have G_q14 := ok_q14 (P := l.prog) (w := w) (base := base) F_q14 T
  have G_q23 := ok_q23 (P := l.prog) (w := w) (base := base) F_q23 T
  have G_q21 := ok_q21 (P := l.prog) (w := w) (base := base) F_q21 T
  have G_q18 := ok_q18 (P := l.prog) (w := w) (base := base) F_q18 T G_q21 F_q21 b_q21 G_q23 F_q23 b_q23
  have G_q15 := ok_q15 (P := l.prog) (w := w) (base := base) F_q15 T
  have G_q22 := ok_q22 (P := l.prog) (w := w) (base := base) F_q22 T G_q15 F_q15 b_q15 G_q18 F_q18 b_q18
  have G_q17 := ok_q17 (P := l.prog) (w := w) (base := base) F_q17 T G_q14 F_q14 b_q14 G_q22 F_q22 b_q22 G_q23 F_q23 b_q23
  have G_q19 := ok_q19 (P := l.prog) (w := w) (base := base) F_q19 T
  have G_q20 := ok_q20 (P := l.prog) (w := w) (base := base) T G_q19 F_q19 b_q19 F_q20 b_q20
  have G_q16 := ok_q16 (P := l.prog) (w := w) (base := base) T  F_q16 b_q16
  have G_q13 := ok_q13 (P := l.prog) (w := w) (base := base) T  F_q13 b_q13
  exact ok_q12 F_q12 T G_q13 F_q13 b_q13 G_q16 F_q16 b_q16 G_q17 F_q17 b_q17 G_q20 F_q20 b_q20 G_q26 F_q26 b_q26 G_q33 F_q33 b_q33
theorem walk {l : PySem.W.OpenLaw} {q : Program} {loose : List Str} {XP : (Str → Option Value) → Heap → Prop} {YP : World → Heap → Prop} {d : DefRec} {K : Params → PySem.W.Frag} (hn : l.most = some 63) (hdf : d.params.defaults = [])
    (hY : ∀ (w : World) (h : Heap), YP w h → (K w.params).In h)
    (F : ∀ (w : World) (mg : Str → Option Value) (fa : Addr) (h : Heap), (K w.params).In h → h.Ns mainGlobals mg → mg d.name = some (.ref fa) →
      ∃ fd : FuncData, (∀ (s : Shared) (u : Value), BindsTo s fd ⟨[u], []⟩ [("_law_script", u)]) ∧ ∀ base : Heap, (K w.params).In base → base.Ns mainGlobals mg → FnOk l.prog w (K w.params) mg base CX0 22 fa fd ["_law_script"] (sp_q12 (K w.params))) :
    PySem.W.WalkO q loose XP YP l.row.toRowW d [] (fun f vs => PySem.call f vs) :=
  L2.walk_of (n := 63) (k := 22) (x := "_law_script") (CX := fun _ => CX0) (sp := fun w => sp_q12 (K w.params)) hn (by decide) hdf ⟨rfl, by decide, by decide⟩ hY F (fun _ _ a ns hl _ hS => ⟨a, ns, rfl, hS, hl, fun _ => rfl⟩) fun _ _ _ _ _ z => z
end K21
open PySem PySem.W PyProof.Rows
set_option maxRecDepth 100000 in
set_option maxHeartbeats 0 in
theorem PySem.Challenge.cw_court_k21_whole_courses_read_back_holds : PySem.Challenge.rw_court_k21_whole_courses_read_back.Holds := by
  w_on; o_law; k_head; (case hw => w_witness2)
  k_fill
  refine K21.walk (l := PySem.Challenge.rw_court_k21_whole_courses_read_back) rfl rfl (fun w h Y => PySem.W.kIn_of Y) ?F
  case F =>
    intro w mg fa h KX G hmg
    refine' K21.all_mk KX G hmg ?m_CourseReader ?a1 ?l1 ?c1 ?k1 ?a2 ?l2 ?c2 ?k2 ?a3 ?l3 ?c3 ?k3 ?a4 ?l4 ?c4 ?k4 ?a5 ?l5 ?c5 ?k5 ?a6 ?l6 ?c6 ?k6 ?a7 ?l7 ?c7 ?k7 ?a8 ?l8 ?c8 ?k8 ?a9 ?l9 ?c9 ?k9 ?a10 ?l10 ?c10 ?k10 ?a11 ?l11 ?c11 ?k11 ?a12 ?l12 ?c12 ?k12 ?a13 ?l13 ?c13 ?k13 ?a14 ?l14 ?c14 ?k14 ?a15 ?l15 ?c15 ?k15 ?a16 ?l16 ?c16 ?k16 ?a17 ?l17 ?c17 ?k17 ?a18 ?l18 ?c18 ?k18 ?a19 ?l19 ?c19 ?k19 ?a20 ?l20 ?c20 ?k20 ?a21 ?l21 ?c21 ?k21 ?a22 ?l22 ?c22 ?k22 ?a23 ?l23 ?c23 ?k23 ?a24 ?l24 ?c24 ?k24 ?a25 ?l25 ?c25 ?k25 ?a26 ?l26 ?c26 ?k26 ?a27 ?l27 ?c27 ?k27 ?a28 ?l28 ?c28 ?k28 ?a29 ?l29 ?c29 ?k29 ?a30 ?l30 ?c30 ?k30 ?a31 ?l31 ?c31 ?k31 ?a32 ?l32 ?c32 ?k32 ?a33 ?l33 ?c33 ?k33 ?a34 ?l34 ?c34 ?k34 ?a35 ?l35 ?c35 ?k35 ?a36 ?l36 ?c36 ?k36 ?a37 ?l37 ?c37 ?k37 ?pg_CourseReader ?hd_CourseReader ?po_CourseReader ?sa_CourseReader ?mks_CourseReader ?fn_q0 ?kp_CourseReader ?fn_q3 ?fn_q7 ?fn_q5 ?fn_q4 ?fn_q6 ?fn_q1 ?fn_q2 ?no_CourseReader_oftens ?no_CourseReader_groups ?no_CourseReader_leaves ?no_CourseReader_rule ?z_all ?z_bool ?z_enumerate ?z_int ?z_isinstance ?z_len ?z_list ?z_range ?z_set ?z_str ?z_tuple ?z_zip ?kk_FIGURES ?kk_KEYS ?ll_KEYS ?ns_KEYS ?rr_KEYS ?ll_KEYS_0 ?v_KEYS_0 ?ll_KEYS_1 ?v_KEYS_1 ?kk_KEY_WORDS ?ll_KEY_WORDS ?v_KEY_WORDS ?kk_LEFT_OUT ?ll_LEFT_OUT ?ns_LEFT_OUT ?rr_LEFT_OUT ?kk_LETTERS ?kk_MOST_FIGURES ?kk_MOST_GROUPS ?kk_MOST_LEAVES ?kk_MOST_LETTERS ?kk_MOST_OFTEN ?kk_MOST_OFTENS ?kk_MOST_RULES ?kk_MOST_WANT ?kk_MOST_WORDS ?kk_MOST_WRITTEN ?ll_MOST_WRITTEN ?ns_MOST_WRITTEN ?rr_MOST_WRITTEN
    (case m_CourseReader => k_is)
    (case a1 => k_is)
    (case l1 => k_is)
    (case c1 => k_is)
    (case k1 => k_is)
    (case a2 => k_is)
    (case l2 => k_is)
    (case c2 => k_is)
    (case k2 => k_is)
    (case a3 => k_is)
    (case l3 => k_is)
    (case c3 => k_is)
    (case k3 => k_is)
    (case a4 => k_is)
    (case l4 => k_is)
    (case c4 => k_is)
    (case k4 => k_is)
    (case a5 => k_is)
    (case l5 => k_is)
    (case c5 => k_is)
    (case k5 => k_is)
    (case a6 => k_is)
    (case l6 => k_is)
    (case c6 => k_is)
    (case k6 => k_is)
    (case a7 => k_is)
    (case l7 => k_is)
    (case c7 => k_is)
    (case k7 => k_is)
    (case a8 => k_is)
    (case l8 => k_is)
    (case c8 => k_is)
    (case k8 => k_is)
    (case a9 => k_is)
    (case l9 => k_is)
    (case c9 => k_is)
    (case k9 => k_is)
    (case a10 => k_is)
    (case l10 => k_is)
    (case c10 => k_is)
    (case k10 => k_is)
    (case a11 => k_is)
    (case l11 => k_is)
    (case c11 => k_is)
    (case k11 => k_is)
    (case a12 => k_is)
    (case l12 => k_is)
    (case c12 => k_is)
    (case k12 => k_is)
    (case a13 => k_is)
    (case l13 => k_is)
    (case c13 => k_is)
    (case k13 => k_is)
    (case a14 => k_is)
    (case l14 => k_is)
    (case c14 => k_is)
    (case k14 => k_is)
    (case a15 => k_is)
    (case l15 => k_is)
    (case c15 => k_is)
    (case k15 => k_is)
    (case a16 => k_is)
    (case l16 => k_is)
    (case c16 => k_is)
    (case k16 => k_is)
    (case a17 => k_is)
    (case l17 => k_is)
    (case c17 => k_is)
    (case k17 => k_is)
    (case a18 => k_is)
    (case l18 => k_is)
    (case c18 => k_is)
    (case k18 => k_is)
    (case a19 => k_is)
    (case l19 => k_is)
    (case c19 => k_is)
    (case k19 => k_is)
    (case a20 => k_is)
    (case l20 => k_is)
    (case c20 => k_is)
    (case k20 => k_is)
    (case a21 => k_is)
    (case l21 => k_is)
    (case c21 => k_is)
    (case k21 => k_is)
    (case a22 => k_is)
    (case l22 => k_is)
    (case c22 => k_is)
    (case k22 => k_is)
    (case a23 => k_is)
    (case l23 => k_is)
    (case c23 => k_is)
    (case k23 => k_is)
    (case a24 => k_is)
    (case l24 => k_is)
    (case c24 => k_is)
    (case k24 => k_is)
    (case a25 => k_is)
    (case l25 => k_is)
    (case c25 => k_is)
    (case k25 => k_is)
    (case a26 => k_is)
    (case l26 => k_is)
    (case c26 => k_is)
    (case k26 => k_is)
    (case a27 => k_is)
    (case l27 => k_is)
    (case c27 => k_is)
    (case k27 => k_is)
    (case a28 => k_is)
    (case l28 => k_is)
    (case c28 => k_is)
    (case k28 => k_is)
    (case a29 => k_is)
    (case l29 => k_is)
    (case c29 => k_is)
    (case k29 => k_is)
    (case a30 => k_is)
    (case l30 => k_is)
    (case c30 => k_is)
    (case k30 => k_is)
    (case a31 => k_is)
    (case l31 => k_is)
    (case c31 => k_is)
    (case k31 => k_is)
    (case a32 => k_is)
    (case l32 => k_is)
    (case c32 => k_is)
    (case k32 => k_is)
    (case a33 => k_is)
    (case l33 => k_is)
    (case c33 => k_is)
    (case k33 => k_is)
    (case a34 => k_is)
    (case l34 => k_is)
    (case c34 => k_is)
    (case k34 => k_is)
    (case a35 => k_is)
    (case l35 => k_is)
    (case c35 => k_is)
    (case k35 => k_is)
    (case a36 => k_is)
    (case l36 => k_is)
    (case c36 => k_is)
    (case k36 => k_is)
    (case a37 => k_is)
    (case l37 => k_is)
    (case c37 => k_is)
    (case k37 => k_is)
    (case z_all => k_is)
    (case z_bool => k_is)
    (case z_enumerate => k_is)
    (case z_int => k_is)
    (case z_isinstance => k_is)
    (case z_len => k_is)
    (case z_list => k_is)
    (case z_range => k_is)
    (case z_set => k_is)
    (case z_str => k_is)
    (case z_tuple => k_is)
    (case z_zip => k_is)
    (case kk_FIGURES => k_is)
    (case kk_KEYS => k_is)
    (case ll_KEYS => k_is)
    (case kk_KEY_WORDS => k_is)
    (case ll_KEY_WORDS => k_is)
    (case kk_LEFT_OUT => k_is)
    (case ll_LEFT_OUT => k_is)
    (case kk_LETTERS => k_is)
    (case kk_MOST_FIGURES => k_is)
    (case kk_MOST_GROUPS => k_is)
    (case kk_MOST_LEAVES => k_is)
    (case kk_MOST_LETTERS => k_is)
    (case kk_MOST_OFTEN => k_is)
    (case kk_MOST_OFTENS => k_is)
    (case kk_MOST_RULES => k_is)
    (case kk_MOST_WANT => k_is)
    (case kk_MOST_WORDS => k_is)
    (case kk_MOST_WRITTEN => k_is)
    (case ll_MOST_WRITTEN => k_is)
    (case pg_CourseReader => first | k_is | kernel_rfl)
    (case hd_CourseReader => first | k_is | kernel_rfl)
    (case po_CourseReader => first | k_is | kernel_rfl)
    (case sa_CourseReader => first | k_is | kernel_rfl)
    (case mks_CourseReader => first | k_is | kernel_rfl)
    (case fn_q0 => first | k_is | kernel_rfl)
    (case kp_CourseReader => first | k_is | kernel_rfl)
    (case fn_q3 => first | k_is | kernel_rfl)
    (case fn_q7 => first | k_is | kernel_rfl)
    (case fn_q5 => first | k_is | kernel_rfl)
    (case fn_q4 => first | k_is | kernel_rfl)
    (case fn_q6 => first | k_is | kernel_rfl)
    (case fn_q1 => first | k_is | kernel_rfl)
    (case fn_q2 => first | k_is | kernel_rfl)
    (case no_CourseReader_oftens => first | k_is | kernel_rfl)
    (case no_CourseReader_groups => first | k_is | kernel_rfl)
    (case no_CourseReader_leaves => first | k_is | kernel_rfl)
    (case no_CourseReader_rule => first | k_is | kernel_rfl)
    (case v_KEY_WORDS => rfl)
    (case ns_KEYS => rfl)
    (case rr_KEYS => rfl)
    (case ll_KEYS_0 => k_is)
    (case v_KEYS_0 => rfl)
    (case ll_KEYS_1 => k_is)
    (case v_KEYS_1 => rfl)
    (case ns_LEFT_OUT => rfl)
    (case rr_LEFT_OUT => rfl)
    (case ns_MOST_WRITTEN => rfl)
    (case rr_MOST_WRITTEN => rfl)
#print axioms PySem.Challenge.cw_court_k21_whole_courses_read_back_holds
