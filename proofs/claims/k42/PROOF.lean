import PyProof.Rows.All
import Wide.All
import OpenK.AllK
import Wide.FinOn
import Lean
import PyProof.EqAt
import PyProof.EqKinds
import PyProof.TupleCall
import PySem.Challenge.RW_court_k42_whole_choices_listed
set_option Elab.async false
set_option linter.all false
set_option maxRecDepth 100000
namespace L2
open PySem PySem.Spec PyProof.Rows
abbrev Key := Sum Int Str
def keyIs : Key → Value → Bool
  | .inl k, v => Value.isInt k v
  | .inr x, v => Value.isStrOf x v
def keyH (w : World) : Key → Int
  | .inl k => hashInt k
  | .inr x => hashStr w x
theorem keyIs_shape : ∀ {k : Key} {v : Value}, keyIs k v = true → (∃ i t, k = Sum.inl i ∧ v = Value.int i t) ∨ (∃ x t, k = Sum.inr x ∧ v = Value.str x t)
  | .inl i, v, h => by
    obtain ⟨t, e⟩ := Value.isInt_shape (k := i) (v := v) h
    exact .inl ⟨i, t, rfl, e⟩
  | .inr x, v, h => by
    obtain ⟨t, e⟩ := Value.isStrOf_shape (x := x) (v := v) h
    exact .inr ⟨x, t, rfl, e⟩
theorem key_ll (a b : Int) : decide ((Sum.inl a : Key) = Sum.inl b) = (a == b) := by
  by_cases e : a = b
  · subst e; simp
  · have h : ¬ (Sum.inl a : Key) = Sum.inl b := fun q => e (Sum.inl.inj q)
    rw [decide_eq_false h]
    exact (beq_eq_false_iff_ne.mpr e).symm
theorem key_rr (a b : Str) : decide ((Sum.inr a : Key) = Sum.inr b) = decide (a = b) := by
  by_cases e : a = b
  · subst e; simp
  · have h : ¬ (Sum.inr a : Key) = Sum.inr b := fun q => e (Sum.inr.inj q)
    rw [decide_eq_false h, decide_eq_false e]
theorem key_lr (a : Int) (b : Str) : decide ((Sum.inl a : Key) = Sum.inr b) = false := decide_eq_false (fun q => nomatch q)
theorem key_rl (a : Str) (b : Int) : decide ((Sum.inr a : Key) = Sum.inl b) = false := decide_eq_false (fun q => nomatch q)
def mixKind (prog : Program) (w : World) : PySem.KeyKind prog w Key where
  is := keyIs
  hash := keyH w
  inj := fun v a b ha hb => by
    rcases keyIs_shape ha with ⟨i, t, rfl, rfl⟩ | ⟨x, t, rfl, rfl⟩
    · rcases keyIs_shape hb with ⟨j, u, rfl, e⟩ | ⟨y, u, rfl, e⟩
      · injection e with e1 _; rw [e1]
      · exact nomatch e
    · rcases keyIs_shape hb with ⟨j, u, rfl, e⟩ | ⟨y, u, rfl, e⟩
      · exact nomatch e
      · injection e with e1 _; rw [e1]
  byValue := fun k v h => by
    rcases keyIs_shape h with ⟨i, t, rfl, rfl⟩ | ⟨x, t, rfl, rfl⟩ <;> rfl
  pyHash := fun hv h => by
    rcases keyIs_shape hv with ⟨i, t, rfl, rfl⟩ | ⟨x, t, rfl, rfl⟩
    · exact wpAny_pyHash_int h
    · exact wpAny_pyHash_str h
  eqBool := fun hu hv h => by
    rcases keyIs_shape hu with ⟨i, t, rfl, rfl⟩ | ⟨x, t, rfl, rfl⟩
    · rcases keyIs_shape hv with ⟨j, u, rfl, rfl⟩ | ⟨y, u, rfl, rfl⟩
      · rw [key_ll] at h; exact wpAny_eqBool_int h
      · rw [key_lr] at h; exact SeqAt.EqAt.int_str i t y u _ _ _ _ h
    · rcases keyIs_shape hv with ⟨j, u, rfl, rfl⟩ | ⟨y, u, rfl, rfl⟩
      · rw [key_rl] at h; exact SeqAt.EqAt.str_int x t j u _ _ _ _ h
      · rw [key_rr] at h; exact wpAny_eqBool_str h
  «strs» := fun k x t v h => by
    rcases keyIs_shape h with ⟨i, u, rfl, e⟩ | ⟨y, u, rfl, e⟩
    · exact nomatch e
    · injection e with e1 _
      subst e1
      cases v <;> rfl
end L2
namespace L2
open PySem PySem.Spec PyProof.Rows
inductive V where
  | non | bl (b : Bool) | int (i : Int) | str (x : Str) | byt (b : Array UInt8) | flt (b : UInt64) | ref (a : Addr) | ty (n : String)
  deriving DecidableEq
def RelV : V → Value → Prop
  | .non, u => u = Value.none
  | .bl b, u => u = Value.bool b
  | .int i, u => ∃ t, u = Value.int i t
  | .str x, u => ∃ t, u = Value.str x t
  | .byt b, u => ∃ t, u = Value.bytes b t
  | .flt b, u => ∃ t, u = Value.float b t
  | .ref a, u => u = Value.ref a
  | .ty n, u => u = Value.type n
abbrev Vals : List V → List Value → Prop := Paired RelV
theorem Vals.length {xs : List V} {us : List Value} (r : Vals xs us) : xs.length = us.length := Paired.length r
theorem Vals.get : ∀ {xs : List V} {us : List Value} {i : Nat} {x : V}, Vals xs us → xs[i]? = some x → ∃ u, us[i]? = some u ∧ RelV x u
  | _, _, _, _, .nil, e => by simp at e
  | _, _, 0, _, .cons r _, e => by simp at e; subst e; exact ⟨_, rfl, r⟩
  | _, _, i + 1, x, .cons _ t, e => by
    obtain ⟨u, h1, h2⟩ := Vals.get (i := i) (x := x) t (by simpa using e)
    exact ⟨u, by simpa using h1, h2⟩
theorem Vals.set {x : V} {u : Value} (r : RelV x u) : ∀ {xs : List V} {us : List Value} (i : Nat), Vals xs us → Vals (xs.set i x) (us.set i u)
  | _, _, _, .nil => .nil
  | _, _, 0, .cons _ t => .cons r t
  | _, _, i + 1, .cons q t => .cons q (Vals.set r i t)
theorem Vals.append : ∀ {xs ys : List V} {us ws : List Value}, Vals xs us → Vals ys ws → Vals (xs ++ ys) (us ++ ws)
  | _, _, _, _, .nil, s => s
  | _, _, _, _, .cons r t, s => .cons r (Vals.append t s)
theorem Vals.take : ∀ {xs : List V} {us : List Value} (n : Nat), Vals xs us → Vals (xs.take n) (us.take n)
  | _, _, 0, _ => .nil
  | _, _, _ + 1, .nil => .nil
  | _, _, n + 1, .cons r t => .cons r (Vals.take n t)
theorem Vals.drop : ∀ {xs : List V} {us : List Value} (n : Nat), Vals xs us → Vals (xs.drop n) (us.drop n)
  | _, _, 0, r => r
  | _, _, _ + 1, .nil => .nil
  | _, _, n + 1, .cons _ t => Vals.drop n t
def RelO : Option V → Option Value → Prop
  | some v, some u => RelV v u
  | none, none => True
  | _, _ => False
def KV {κ : Type} : List (κ × V) → List (κ × Value) → Prop := Paired fun (p : κ × V) (q : κ × Value) => p.1 = q.1 ∧ RelV p.2 q.2
def kV : Key → V
  | .inl i => .int i
  | .inr x => .str x
inductive HO where
    | lst (xs : List V)
    | tup (xs : List V)
    | dK (kvs : List (Key × V)) | dT (kvs : List (List Key × V))
    | set (S : Int → Bool) (n : Nat)
    | ins (C dx : Addr) (fs : List (Str × V))
    | own (x : Addr)
    | xd (fs : List (Str × V))
    | met (f x : Addr)
    | rng (lo hi : Int)
    | frz (o : Obj) (u : HO)
    | tbl (ps : Array Value)
    | ext (φ : Heap → Prop)
abbrev Hp := Addr → Option HO
def upd (H : Hp) (a : Addr) (o : HO) : Hp := fun b => if b = a then some o else H b
theorem upd_same {H : Hp} {a : Addr} {o : HO} : upd H a o a = some o := by unfold upd; rw [if_pos rfl]
theorem upd_ne {H : Hp} {a b : Addr} {o : HO} (h : b ≠ a) : upd H a o b = H b := by unfold upd; rw [if_neg h]
theorem ne_of_none {H : Hp} {a b : Addr} {o : HO} (h : H a = some o) (h' : H b = none) : a ≠ b := by
  intro e; subst e; rw [h] at h'; cases h'
section
variable (P : Program) (w : World)
def ObjOk (H : Hp) (h : Heap) (a : Addr) : HO → Prop
  | .lst xs => xs.length ≤ sizeLine ∧ ∃ (its : List Value) (n : Nat), Vals xs its ∧ h.get? a = some { cls := .type "list", data := .seq its.toArray n }
  | .tup xs => xs.length ≤ sizeLine ∧ ∃ its : List Value, Vals xs its ∧ IsTup h a its.toArray
  | .dK kvs => kvs.length ≤ sizeLine ∧ (a == sysModules) = false ∧ ∃ vs, KV kvs vs ∧ h.DictOf (mixKind P w) a vs
  | .dT kvs => kvs.length ≤ sizeLine ∧ (a == sysModules) = false ∧ ∃ xs : List (List Key × Addr × Value),
      Paired (fun (p : List Key × V) (q : List Key × Addr × Value) => p.1 = q.1 ∧ H q.2.1 = some (.tup (p.1.map kV)) ∧ RelV p.2 q.2.2) kvs xs ∧
      ∃ o es ep, h.get? a = some o ∧ o.ExactDict ∧ o.data = .dict es ep ∧ es.toList = xs.map (entryOfKey (tupleKind (mixKind P w))) ∧ (xs.map (·.1)).Nodup
  | .set S n => h.SetOf (intKind P w) a S n
  | .ins C dx fs => H dx = some (.own a) ∧ fs.length ≤ 1000 ∧ dx ≠ a ∧ h.get? a = some (PySem.W.instObj C dx) ∧
      ∃ mA, h.Ns1 dx mA ∧ (∀ f, RelO (fs.lookup f) (mA f)) ∧ PySem.Within mA (fs.map (·.1))
  | .own _ => ∃ o, h.get? a = some o
  | .xd fs => ∃ mA, h.Ns1 a mA ∧ ∀ f, RelO (fs.lookup f) (mA f)
  | .rng lo hi => ∃ t u v, h.get? a = some { cls := .type "range", data := .fields #[.int lo t, .int hi u, .int 1 v] }
  | .frz o u => h.get? a = some o ∧ ObjOk H h a u
  | .tbl ps => h.get? a = some { cls := .none, data := .fields ps }
  | .met f x => h.get? a = some (PySem.W.methodObj (.ref f) (.ref x))
  | .ext φ => φ h ∧ (∃ o, h.get? a = some o) ∧ ∀ h1 h2 : Heap, φ h1 → (∀ o, h1.get? a = some o → h2.get? a = some o) → φ h2
def HOk (H : Hp) (h : Heap) : Prop := ∀ a o, H a = some o → ObjOk P w H h a o
end
section
variable {P : Program} {w : World} {H H' : Hp} {h h' : Heap} {a : Addr} {o : HO}
theorem ObjOk.lt (x : ObjOk P w H h a o) : a < h.objs.size := by
  cases o with
  | lst xs => obtain ⟨_, _, _, _, e⟩ := x; exact Heap.lt_size e
  | tup xs => obtain ⟨_, _, _, p⟩ := x; exact p.lt
  | dK kvs => obtain ⟨_, _, _, _, o, _, _, e, _⟩ := x; exact Heap.lt_size e
  | dT kvs => obtain ⟨_, _, _, _, o, _, _, e, _⟩ := x; exact Heap.lt_size e
  | set S n => obtain ⟨o, _, _, _, e, _⟩ := x; exact Heap.lt_size e
  | ins C dx fs => obtain ⟨_, _, _, e, _⟩ := x; exact Heap.lt_size e
  | own y => obtain ⟨_, e⟩ := x; exact Heap.lt_size e
  | xd fs => obtain ⟨_, ⟨_, _, _, e, _⟩, _⟩ := x; exact Heap.lt_size e
  | rng lo hi => obtain ⟨_, _, _, e⟩ := x; exact Heap.lt_size e
  | frz ob u => obtain ⟨e, _⟩ := x; exact Heap.lt_size e
  | tbl ps => exact Heap.lt_size (show h.get? a = some _ from x)
  | met f y => exact Heap.lt_size (show h.get? a = some _ from x)
  | ext φ => obtain ⟨_, ⟨_, e⟩, _⟩ := x; exact Heap.lt_size e
theorem Paired.mapP {α β : Type} {F G : α → β → Prop} : ∀ {l₁ : List α} {l₂ : List β}, Paired F l₁ l₂ → (∀ a b, F a b → G a b) → Paired G l₁ l₂
  | _, _, .nil, _ => .nil
  | _, _, .cons r t, f => .cons (f _ _ r) (Paired.mapP t f)
theorem ObjOk.stay (x : ObjOk P w H h a o) (k : ∀ b u, (b = a ∨ H b = some (.own a)) → h.get? b = some u → h'.get? b = some u)
    (ho : ∀ b, H b = some (.own a) → H' b = some (.own a)) (ht : ∀ b xs, H b = some (.tup xs) → H' b = some (.tup xs)) : ObjOk P w H' h' a o := by
  induction o with
  | lst xs => obtain ⟨z, its, n, r, e⟩ := x; exact ⟨z, its, n, r, k _ _ (.inl rfl) e⟩
  | tup xs => obtain ⟨z, its, r, ob, e, c⟩ := x; exact ⟨z, its, r, ob, k _ _ (.inl rfl) e, c⟩
  | dK kvs => obtain ⟨z, y, vs, r, ob, es, ep, e, c⟩ := x; exact ⟨z, y, vs, r, ob, es, ep, k _ _ (.inl rfl) e, c⟩
  | dT kvs =>
    obtain ⟨z, y, xs, r, ob, es, ep, e, c⟩ := x
    exact ⟨z, y, xs, Paired.mapP r fun p q z => ⟨z.1, ht _ _ z.2.1, z.2.2⟩, ob, es, ep, k _ _ (.inl rfl) e, c⟩
  | set S n => obtain ⟨ob, es, ep, t, e, c⟩ := x; exact ⟨ob, es, ep, t, k _ _ (.inl rfl) e, c⟩
  | ins C dx fs =>
    obtain ⟨d, z, ne, e, mA, ⟨od, es, ep, e2, c⟩, r⟩ := x
    exact ⟨ho _ d, z, ne, k _ _ (.inl rfl) e, mA, ⟨od, es, ep, k _ _ (.inr d) e2, c⟩, r⟩
  | own y => obtain ⟨ob, e⟩ := x; exact ⟨ob, k _ _ (.inl rfl) e⟩
  | xd fs => obtain ⟨mA, ⟨od, es, ep, e, c⟩, r⟩ := x; exact ⟨mA, ⟨od, es, ep, k _ _ (.inl rfl) e, c⟩, r⟩
  | rng lo hi => obtain ⟨t, u, v, e⟩ := x; exact ⟨t, u, v, k _ _ (.inl rfl) e⟩
  | frz ob u ih => obtain ⟨e, q⟩ := x; exact ⟨k _ _ (.inl rfl) e, ih q⟩
  | tbl ps =>
    have e : h.get? a = some { cls := .none, data := .fields ps } := x
    show h'.get? a = some { cls := .none, data := .fields ps }
    exact k a _ (.inl rfl) e
  | met f y =>
    have e : h.get? a = some (PySem.W.methodObj (.ref f) (.ref y)) := x
    show h'.get? a = some (PySem.W.methodObj (.ref f) (.ref y))
    exact k a _ (.inl rfl) e
  | ext φ => obtain ⟨p, ⟨o, e⟩, st⟩ := x; exact ⟨st _ _ p fun o q => k _ _ (.inl rfl) q, ⟨o, k _ _ (.inl rfl) e⟩, st⟩
theorem HOk.lt (x : HOk P w H h) (e : H a = some o) : a < h.objs.size := (x a o e).lt
theorem HOk.fresh (x : HOk P w H h) (e : h.objs.size ≤ a) : H a = none := by
  cases q : H a with
  | none => rfl
  | some u => exact absurd (Nat.lt_of_lt_of_le (x.lt q) e) (Nat.lt_irrefl _)
theorem HOk.kept (x : HOk P w H h) (k : ∀ b u, h.get? b = some u → h'.get? b = some u) : HOk P w H h' := fun a o e =>
  (x a o e).stay (fun b u _ q => k b u q) (fun _ q => q) fun _ _ q => q
theorem HOk.laid (x : HOk P w H h) (k : ∀ b u, h.get? b = some u → h'.get? b = some u) (hp : h.objs.size ≤ a) (new : ObjOk P w (upd H a o) h' a o) : HOk P w (upd H a o) h' := fun b u e => by
  have hn := x.fresh hp
  by_cases hb : b = a
  · subst hb; rw [upd_same] at e; cases e; exact new
  · rw [upd_ne hb] at e
    exact (x b u e).stay (fun c v _ q => k c v q) (fun c q => by rw [upd_ne (ne_of_none q hn)]; exact q) fun c xs q => by rw [upd_ne (ne_of_none q hn)]; exact q
end
def Rd (H : Hp) (a : Addr) (u : HO) : Prop := H a = some u ∨ ∃ o, H a = some (.frz o u)
theorem Rd.of {H : Hp} {a : Addr} {u : HO} (h : H a = some u) : Rd H a u := .inl h
theorem Rd.ok {P : Program} {w : World} {H : Hp} {h : Heap} {a : Addr} {u : HO} (r : Rd H a u) (x : HOk P w H h) : ObjOk P w H h a u := by
  rcases r with r | ⟨o, r⟩
  · exact x a u r
  · obtain ⟨_, q⟩ := x a _ r
    exact q
def Mut : Option HO → Prop
  | some (.lst _) => True
  | some (.dK _) => True
  | some (.dT _) => True
  | some (.set _ _) => True
  | some (.ins _ _ _) => True
  | some (.ext _) => True
  | _ => False
section
variable {P : Program} {w : World} {H : Hp} {h h' : Heap} {x e : Addr} {o' : HO}
theorem HOk.write (ok : HOk P w H h) (mu : Mut (H x)) (he : e = x ∨ H e = some (.own x)) (k : ∀ b u, b ≠ e → h.get? b = some u → h'.get? b = some u) (heo : ∃ u, h'.get? e = some u)
    (new : ObjOk P w (upd H x o') h' x o') : HOk P w (upd H x o') h' := fun b u q => by
  have nown : ∀ c y, H c = some (.own y) → c ≠ x := fun c y r z => by subst z; rw [r] at mu; exact mu
  have ntup : ∀ c xs, H c = some (.tup xs) → c ≠ x := fun c xs r z => by subst z; rw [r] at mu; exact mu
  by_cases hb : b = x
  · subst hb; rw [upd_same] at q; cases q; exact new
  · rw [upd_ne hb] at q
    by_cases hbe : b = e
    · have q' : H b = some (.own x) := by
        rcases he with z | z
        · exact absurd (hbe.trans z) hb
        · rw [hbe]; exact z
      rw [q] at q'; cases q'
      obtain ⟨v, hv⟩ := heo
      exact ⟨v, by rw [hbe]; exact hv⟩
    · refine (ok b u q).stay (fun c v hc r => k c v ?_ r) (fun c r => by rw [upd_ne (nown c b r)]; exact r) fun c xs r => by rw [upd_ne (ntup c xs r)]; exact r
      rcases hc with rfl | hc
      · exact hbe
      · rintro rfl
        rcases he with z | z
        · exact nown c b hc z
        · rw [hc] at z; cases z; exact hb rfl
end
structure Un (fs ex : List Addr) (H H' : Hp) (h h' : Heap) : Prop where
  keep : ∀ b o, h.get? b = some o → H b = none → b ∉ fs → b ∉ ex → h'.get? b = some o
  slot : ∀ b o, h.get? b = some o → H b = none → b ∈ fs → b ∉ ex → ∃ sl, h'.get? b = some { o with slots := sl }
  free : ∀ b o, h.get? b = some o → H b = none → b ∉ ex → H' b = none
  there : ∀ b o, h.get? b = some o → b ∉ ex → ∃ o', h'.get? b = some o'
  tups : ∀ b xs, H b = some (.tup xs) → H' b = some (.tup xs)
  frzs : ∀ b o u, H b = some (.frz o u) → H' b = some (.frz o u)
  tbls : ∀ b ps, H b = some (.tbl ps) → ∃ more, H' b = some (.tbl (ps ++ more))
section
variable {fs fs' ex ex' : List Addr} {H H1 H2 : Hp} {h h1 h2 h' : Heap} {a x e : Addr} {o : HO}
theorem Un.any (u : Un fs ex H H1 h h1) {b : Addr} {ob : Obj} (q : h.get? b = some ob) (n : H b = none) (hx : b ∉ ex) : ∃ sl, h1.get? b = some { ob with slots := sl } := by
  by_cases hb : b ∈ fs
  · exact u.slot b ob q n hb hx
  · exact ⟨ob.slots, u.keep b ob q n hb hx⟩
theorem Un.trans (a : Un fs ex H H1 h h1) (b : Un fs ex H1 H2 h1 h2) : Un fs ex H H2 h h2 where
  keep := fun c ob q n hc hx => b.keep c ob (a.keep c ob q n hc hx) (a.free c ob q n hx) hc hx
  slot := fun c ob q n hc hx => by
    obtain ⟨sl, e1⟩ := a.slot c ob q n hc hx
    obtain ⟨sl', e2⟩ := b.slot c _ e1 (a.free c ob q n hx) hc hx
    exact ⟨sl', e2⟩
  free := fun c ob q n hx => by
    obtain ⟨o', e1⟩ := a.there c ob q hx
    exact b.free c o' e1 (a.free c ob q n hx) hx
  there := fun c ob q hx => by
    obtain ⟨o', e1⟩ := a.there c ob q hx
    exact b.there c o' e1 hx
  tups := fun c xs q => b.tups c xs (a.tups c xs q)
  frzs := fun c ob xs q => b.frzs c ob xs (a.frzs c ob xs q)
  tbls := fun c ps q => by
    obtain ⟨m1, e1⟩ := a.tbls c ps q
    obtain ⟨m2, e2⟩ := b.tbls c _ e1
    exact ⟨m1 ++ m2, by rw [e2, Array.append_assoc]⟩
theorem Un.kept (k : ∀ b u, h.get? b = some u → h'.get? b = some u) : Un fs ex H H h h' :=
  ⟨fun b ob q _ _ _ => k b ob q, fun b ob q _ _ _ => ⟨ob.slots, k b ob q⟩, fun _ _ _ n _ => n, fun b ob q _ => ⟨ob, k b ob q⟩, fun _ _ q => q, fun _ _ _ q => q, fun _ ps q => ⟨#[], by rw [q]; simp⟩⟩
theorem Un.refl : Un fs ex H H h h := Un.kept fun _ _ q => q
theorem Un.laid (k : ∀ b u, h.get? b = some u → h'.get? b = some u) (hp : h.objs.size ≤ a) (hn : H a = none) : Un fs ex H (upd H a o) h h' where
  keep := fun b u q _ _ _ => k b u q
  slot := fun b u q _ _ _ => ⟨u.slots, k b u q⟩
  free := fun b u q n _ => by rw [upd_ne (Nat.ne_of_lt (Nat.lt_of_lt_of_le (Heap.lt_size q) hp))]; exact n
  there := fun b u q _ => ⟨u, k b u q⟩
  tups := fun b xs q => by rw [upd_ne (ne_of_none q hn)]; exact q
  frzs := fun b u xs q => by rw [upd_ne (ne_of_none q hn)]; exact q
  tbls := fun b ps q => ⟨#[], by rw [upd_ne (ne_of_none q hn), q]; simp⟩
theorem Un.write (mu : Mut (H x)) (he : e = x ∨ H e = some (.own x)) (k : ∀ b u, b ≠ e → h.get? b = some u → h'.get? b = some u) (heo : ∃ u, h'.get? e = some u) : Un fs ex H (upd H x o) h h' := by
  have hx : ∀ b, H b = none → b ≠ x := fun b n z => by subst z; rw [n] at mu; exact mu
  have hb : ∀ b, H b = none → b ≠ e := fun b n z => by
    subst z
    rcases he with r | r
    · exact hx b n r
    · rw [n] at r; cases r
  have hm : ∀ b u, H b = some u → ¬ Mut (some u) → b ≠ x := fun b u q nm z => by subst z; rw [q] at mu; exact nm mu
  refine ⟨fun b u q n _ _ => k b u (hb b n) q, fun b u q n _ _ => ⟨u.slots, k b u (hb b n) q⟩, fun b u q n _ => by rw [upd_ne (hx b n)]; exact n, fun b u q _ => ?_,
    fun b xs q => by rw [upd_ne (hm b _ q fun z => z)]; exact q, fun b u xs q => by rw [upd_ne (hm b _ q fun z => z)]; exact q, fun b ps q => ⟨#[], by rw [upd_ne (hm b _ q fun z => z), q]; simp⟩⟩
  by_cases hbe : b = e
  · subst hbe; exact heo
  · exact ⟨u, k b u hbe q⟩
theorem Un.mono (u : Un fs ex H H1 h h1) (hs : ∀ b ∈ fs, b ∈ fs') (hx : ∀ b ∈ ex, b ∈ ex') : Un fs' ex' H H1 h h1 :=
  ⟨fun b ob q n hb he => u.keep b ob q n (fun z => hb (hs b z)) fun z => he (hx b z), fun _ _ q n _ he => u.any q n fun z => he (hx _ z), fun b ob q n he => u.free b ob q n fun z => he (hx b z), fun b ob q he => u.there b ob q fun z => he (hx b z), u.tups, u.frzs, u.tbls⟩
end
def trk (h : Heap) (H : Hp) : List Addr := (List.range h.objs.size).filter fun a => (H a).isSome
def hidT (h : Heap) (H : Hp) : Heap := PySem.W.hideAll h (trk h H)
theorem hidT_size (h : Heap) (H : Hp) : (hidT h H).objs.size = h.objs.size := PySem.W.hideAll_size _ _
theorem hidT_get {h : Heap} {H : Hp} {b : Addr} {o : Obj} (e : h.get? b = some o) (n : H b = none) : (hidT h H).get? b = some o :=
  PySem.W.hideAll_get _ e fun hm => by
    have q : (H b).isSome = true := (List.mem_filter.mp hm).2
    rw [n] at q; simp at q
theorem of_hidT {h : Heap} {H : Hp} {b : Addr} {o : Obj} (e : (hidT h H).get? b = some o) : h.get? b = some o ∧ H b = none := by
  have e' : h.get? b = some o := PySem.W.of_hideAll (trk h H) e
  refine ⟨e', ?_⟩
  cases q : H b with
  | none => rfl
  | some x =>
    have hm : b ∈ trk h H := List.mem_filter.mpr ⟨List.mem_range.mpr (Heap.lt_size e'), by simp [q]⟩
    have z : (hidT h H).get? b = none := PySem.W.hideAll_none (trk h H) hm
    rw [z] at e; cases e
def allNews (g h : Heap) (L : Addr) : List (Addr × Obj) := (List.range h.objs.size).filterMap fun a => if a = L ∨ (g.get? a).isSome = true then none else (h.get? a).map fun o => (a, o)
def rest (g h : Heap) (L d : Addr) : List (Addr × Obj) := (allNews g h L).filter fun p => decide (p.1 ≠ d)
end L2
namespace L2
open PySem PySem.Spec PyProof.Rows
structure Mod (K : PySem.W.Frag) (mg : Str → Option Value) (base : Heap) : Prop where
  kin : K.In base
  glob : base.Ns mainGlobals mg
  blt : ∃ mb, base.Ns builtinsNs mb ∧ ∀ x : Str, x ≠ "__name__" → mb x = bootBuiltins x
  nolimit : base.NoLimit
structure Cx where
  prog : Program
  w : World
  K : PySem.W.Frag
  mg : Str → Option Value
  base : Heap
  A : Around
  N : List Str
  s₀ : Shared
  H₀ : Hp
  env : Env
  outer : List Env
  stack : List Env
  ex : List Addr
  fn : Str → Bool
  calm : Bool
  pn : List (Addr × Obj)
  xe : Value → Shared → Prop
def frs (l : List Env) : List Addr := l.filterMap (·.frame)
abbrev Cx.fs (X : Cx) : List Addr := frs X.outer
def Vis (sc : Scope) (x : Str) : Prop := sc.names.lookup x = some .local ∨ sc.names.lookup x = some .cell ∨ sc.names.lookup x = some .free
def Loc (sc : Scope) (x : Str) : Prop := sc.names.lookup x = some .local ∨ sc.names.lookup x = some .cell
def Look (env : Env) (h : Heap) (m : Str → Option Value) (x : Str) (u : Value) : Prop :=
  (env.kindOf x = some .local ∧ m x = some u) ∨ ((env.kindOf x = some .cell ∨ env.kindOf x = some .free) ∧ ∃ c, env.cells.lookup x = some c ∧ h.IsCell c (some u))
structure Cx.Ok (X : Cx) : Prop where
  mod : Mod X.K X.mg X.base
  kind : X.env.scope.kind = .function
  glob : X.env.globals = mainGlobals
  blt : X.env.builtins = builtinsNs
  above : X.s₀.heap.objs.size ≤ X.env.locals
  inj : ∀ x y c, X.env.cells.lookup x = some c → X.env.cells.lookup y = some c → x = y
  has : ∀ x, (X.env.kindOf x = some .cell ∨ X.env.kindOf x = some .free) → ∃ c, X.env.cells.lookup x = some c
  cab : ∀ x c, X.fn x = true → X.env.cells.lookup x = some c → X.s₀.heap.objs.size ≤ c
  hd : X.calm = true → X.A.handled = none
  frames : X.A.frames = some X.stack
  stk : X.stack = X.outer ∨ (X.stack = X.env :: X.outer ∧ X.env.frame = some X.env.locals)
  exf : ∀ b ∈ X.ex, b ≠ X.env.locals ∧ ∀ x c, X.env.cells.lookup x = some c → c ≠ b
  bs : ∀ b o, X.base.get? b = some o → X.s₀.heap.get? b = some o ∧ X.H₀ b = none
  bsz : X.base.objs.size ≤ X.s₀.heap.objs.size
  noex : ∀ b o, X.base.get? b = some o → b ∉ X.ex
  exfs : ∀ b ∈ X.ex, b ∉ X.fs
  funs : X.s₀.heap.FunFrames X.base X.outer
  frf : ∀ b ∈ X.fs, X.H₀ b = none
structure Inv (X : Cx) (pins : List (Addr × Obj)) (σ : List (Option V)) (H : Hp) (s : Shared) : Prop where
  ok : X.Ok
  os : s.os = X.s₀.os
  bare : AllBare s.gens
  base : Un X.fs X.ex X.H₀ H X.s₀.heap s.heap
  loc : ∃ m, s.heap.Ns X.env.locals m ∧ ∀ (i : Nat) (x : Str) (v : V), X.N[i]? = some x → σ[i]? = some (some v) → Vis X.env.scope x → ∃ u, RelV v u ∧ Look X.env s.heap m x u
  cell : ∀ x c, X.env.cells.lookup x = some c → ∃ v, s.heap.IsCell c v
  free : H X.env.locals = none
  freeC : ∀ x c, X.env.cells.lookup x = some c → H c = none
  pin : ∀ p ∈ X.pn ++ pins, s.heap.get? p.1 = some p.2 ∧ H p.1 = none ∧ p.1 ≠ X.env.locals ∧ p.1 ∉ X.fs ∧ ∀ v, p.2.data ≠ .cell v
  hok : HOk X.prog X.w H s.heap
  len : σ.length = X.N.length
section
variable {X : Cx} {pins : List (Addr × Obj)} {σ : List (Option V)} {H H' : Hp} {s : Shared} {h' : Heap}
theorem Cx.Ok.nofr (ok : X.Ok) {b : Addr} {o : Obj} (e : X.base.get? b = some o) : b ∉ X.fs := fun hb => by
  have := (ok.funs.mem hb).1
  rw [e] at this; cases this
theorem Inv.bs (I : Inv X pins σ H s) : ∀ b o, X.base.get? b = some o → s.heap.get? b = some o ∧ H b = none := fun b o e =>
  ⟨I.base.keep b o (I.ok.bs b o e).1 (I.ok.bs b o e).2 (I.ok.nofr e) (I.ok.noex b o e), I.base.free b o (I.ok.bs b o e).1 (I.ok.bs b o e).2 (I.ok.noex b o e)⟩
theorem Inv.bk (I : Inv X pins σ H s) : ∀ b o, X.base.get? b = some o → s.heap.get? b = some o := fun b o e => (I.bs b o e).1
theorem Inv.mod (I : Inv X pins σ H s) : Mod X.K X.mg X.base := I.ok.mod
theorem Inv.kIn (I : Inv X pins σ H s) : X.K.In s.heap := I.ok.mod.kin.keeps I.bk
theorem Inv.nolimit (I : Inv X pins σ H s) : s.heap.NoLimit := I.ok.mod.nolimit.keeps I.bk
theorem Inv.fr (I : Inv X pins σ H s) : ∃ m, Fr X.base X.env.locals s.heap m :=
  let ⟨m, hn, _⟩ := I.loc
  ⟨m, hn, I.bk, Nat.le_trans I.ok.bsz I.ok.above⟩
theorem Inv.lt (I : Inv X pins σ H s) : X.env.locals < s.heap.objs.size := let ⟨_, hn, _⟩ := I.loc; hn.lt
theorem Inv.sz (I : Inv X pins σ H s) : X.s₀.heap.objs.size ≤ s.heap.objs.size := Nat.le_trans I.ok.above (Nat.le_of_lt I.lt)
theorem Inv.nofs (I : Inv X pins σ H s) {a : Addr} (h : s.heap.objs.size ≤ a) : a ∉ X.fs := fun hb => by
  obtain ⟨_, o, ho, _⟩ := I.ok.funs.mem hb
  exact absurd (Nat.lt_of_lt_of_le (Heap.lt_size ho) (Nat.le_trans I.sz h)) (Nat.lt_irrefl _)
theorem Inv.cne (I : Inv X pins σ H s) : ∀ x c, X.env.cells.lookup x = some c → c ≠ X.env.locals := fun x c e z => by
  obtain ⟨v, o, ho, hd⟩ := I.cell x c e
  obtain ⟨m, ⟨o', es, ep, ho', hd', _⟩, _⟩ := I.loc
  rw [z, ho'] at ho; cases ho; rw [hd'] at hd; cases hd
theorem Inv.funs (I : Inv X pins σ H s) : s.heap.FunFrames X.base X.outer := by
  have all : ∀ (l : List Env), (∀ b ∈ frs l, b ∈ X.fs) → X.s₀.heap.FunFrames X.base l → s.heap.FunFrames X.base l := by
    intro l
    induction l with
    | nil => intro _ _; trivial
    | cons env r ih =>
      intro hs hl
      obtain ⟨hk, ⟨L, o, hf, hn, ho, hd⟩, hr⟩ := hl
      have hL : L ∈ X.fs := hs L (by unfold frs; rw [List.filterMap_cons, hf]; exact List.mem_cons_self)
      obtain ⟨sl, e⟩ := I.base.slot L o ho (I.ok.frf L hL) hL fun z => I.ok.exfs L z hL
      exact ⟨hk, ⟨L, _, hf, hn, e, hd⟩, ih (fun b hb => hs b (by unfold frs; rw [List.filterMap_cons, hf]; exact List.mem_cons_of_mem _ hb)) hr⟩
  exact all X.outer (fun _ hb => hb) I.ok.funs
theorem Inv.stack (I : Inv X pins σ H s) : s.heap.FunFrames X.base X.stack := by
  rcases I.ok.stk with e | ⟨e, hf⟩
  · rw [e]; exact I.funs
  · rw [e]
    obtain ⟨m, hn, _⟩ := I.loc
    refine .cons (by rw [I.ok.kind]; decide) hf hn ?_ I.funs
    exact Heap.get?_none_of_le (Nat.le_trans I.ok.bsz I.ok.above)
theorem Inv.stkSub (I : Inv X pins σ H s) : ∀ b ∈ frs X.stack, b ∈ X.env.locals :: X.fs := fun b hb => by
  rcases I.ok.stk with e | ⟨e, hf⟩
  · rw [e] at hb; exact List.mem_cons_of_mem _ hb
  · rw [e] at hb
    unfold frs at hb
    rw [List.filterMap_cons, hf] at hb
    exact hb
theorem Inv.stkFree (I : Inv X pins σ H s) : ∀ b ∈ frs X.stack, H b = none := fun b hb => by
  rcases List.mem_cons.mp (I.stkSub b hb) with e | hb
  · rw [e]; exact I.free
  · obtain ⟨_, o, ho, _⟩ := I.ok.funs.mem hb
    exact I.base.free b o ho (I.ok.frf b hb) fun z => I.ok.exfs b z hb
theorem Inv.step {g' : Array GenState} {t' : Nat} {d' : Drawn} {ch : List Addr} (I : Inv X pins σ H s)
    (hch : ∀ b ∈ ch, (b ∈ X.ex ∨ X.s₀.heap.objs.size ≤ b) ∧ b ≠ X.env.locals ∧ (∀ x c, X.env.cells.lookup x = some c → c ≠ b) ∧ ∀ p ∈ X.pn ++ pins, p.1 ≠ b)
    (keep : ∀ b o, b ≠ X.env.locals → b ∉ X.fs → b ∉ ch → s.heap.get? b = some o → H b = none → h'.get? b = some o)
    (slot : ∀ b o, b ≠ X.env.locals → b ∈ X.fs → b ∉ ch → s.heap.get? b = some o → H b = none → ∃ sl, h'.get? b = some { o with slots := sl }) (free : ∀ b o, b ∉ ch → s.heap.get? b = some o → H b = none → H' b = none)
    (there : ∀ b o, b ∉ ch → s.heap.get? b = some o → ∃ o', h'.get? b = some o')
    (tups : ∀ b xs, H b = some (.tup xs) → H' b = some (.tup xs)) (frzs : ∀ b o u, H b = some (.frz o u) → H' b = some (.frz o u)) (tbls : ∀ b ps, H b = some (.tbl ps) → ∃ more, H' b = some (.tbl (ps ++ more)))
    (ns : ∀ m, s.heap.Ns X.env.locals m → h'.Ns X.env.locals m) (hok : HOk X.prog X.w H' h') (hg : AllBare g') :
    Inv X pins σ H' { s with heap := h', gens := g', drawn := d', toks := t' } := by
  have neL : ∀ b o, X.s₀.heap.get? b = some o → b ≠ X.env.locals := fun b o e => Nat.ne_of_lt (Nat.lt_of_lt_of_le (Heap.lt_size e) I.ok.above)
  have neC : ∀ b o, X.s₀.heap.get? b = some o → b ∉ X.ex → b ∉ ch := fun b o e hx hb => by
    rcases (hch b hb).1 with z | z
    · exact hx z
    · exact absurd (Nat.lt_of_lt_of_le (Heap.lt_size e) z) (Nat.lt_irrefl _)
  have cellK : ∀ x c, X.env.cells.lookup x = some c → ∀ v, s.heap.IsCell c v → h'.IsCell c v := fun x c e v ⟨o, ho, hd⟩ => by
    have nch : c ∉ ch := fun z => (hch c z).2.2.1 x c e rfl
    by_cases hc : c ∈ X.fs
    · obtain ⟨sl, q⟩ := slot c o (I.cne x c e) hc nch ho (I.freeC x c e)
      exact ⟨_, q, hd⟩
    · exact ⟨o, keep c o (I.cne x c e) hc nch ho (I.freeC x c e), hd⟩
  refine ⟨I.ok, I.os, hg, ⟨fun b o e n hb hx => ?_, fun b o e n hb hx => ?_, fun b o e n hx => ?_, fun b o e hx => ?_, fun b xs e => tups b xs (I.base.tups b xs e), fun b o xs e => frzs b o xs (I.base.frzs b o xs e), fun b ps e => ?_⟩, ?_, fun x c e => ?_, ?_, fun x c e => ?_, fun p hp => ?_, hok, I.len⟩
  · exact keep b o (neL b o e) hb (neC b o e hx) (I.base.keep b o e n hb hx) (I.base.free b o e n hx)
  · obtain ⟨sl, e1⟩ := I.base.slot b o e n hb hx
    obtain ⟨sl', e2⟩ := slot b _ (neL b o e) hb (neC b o e hx) e1 (I.base.free b o e n hx)
    exact ⟨sl', e2⟩
  · obtain ⟨o', e1⟩ := I.base.there b o e hx
    exact free b o' (neC b o e hx) e1 (I.base.free b o e n hx)
  · obtain ⟨o', e1⟩ := I.base.there b o e hx
    exact there b o' (neC b o e hx) e1
  · obtain ⟨m1, e1⟩ := I.base.tbls b ps e
    obtain ⟨m2, e2⟩ := tbls b _ e1
    exact ⟨m1 ++ m2, by rw [e2, Array.append_assoc]⟩
  · obtain ⟨m, hn, hl⟩ := I.loc
    refine ⟨m, ns m hn, fun i x v e1 e2 e3 => ?_⟩
    obtain ⟨u, r, l⟩ := hl i x v e1 e2 e3
    refine ⟨u, r, ?_⟩
    rcases l with l | ⟨k, c, e, z⟩
    · exact .inl l
    · exact .inr ⟨k, c, e, cellK x c e _ z⟩
  · obtain ⟨v, z⟩ := I.cell x c e
    exact ⟨v, cellK x c e v z⟩
  · obtain ⟨m, ⟨o, _, _, ho, _⟩, _⟩ := I.loc
    exact free _ o (fun z => (hch _ z).2.1 rfl) ho I.free
  · obtain ⟨v, o, ho, hd⟩ := I.cell x c e
    exact free c o (fun z => (hch c z).2.2.1 x c e rfl) ho (I.freeC x c e)
  · obtain ⟨e, n, ne, nf, d⟩ := I.pin p hp
    have nch : p.1 ∉ ch := fun z => (hch p.1 z).2.2.2 p hp rfl
    exact ⟨keep p.1 p.2 ne nf nch e n, free p.1 p.2 nch e n, ne, nf, d⟩
theorem Inv.un {t' : Nat} (I : Inv X pins σ H s) (u : Un X.fs [] H H' s.heap h') (hok : HOk X.prog X.w H' h') : Inv X pins σ H' { s with heap := h', toks := t' } := by
  obtain ⟨m, ⟨o, es, ep, ho, r⟩, _⟩ := id I.loc
  obtain ⟨sl, hL⟩ := u.any ho I.free (by simp)
  exact I.step (g' := s.gens) (d' := s.drawn) (ch := []) (fun _ z => nomatch z) (fun b o _ hb _ e n => u.keep b o e n hb (by simp)) (fun b o _ hb _ e n => u.slot b o e n hb (by simp)) (fun b o _ e n => u.free b o e n (by simp)) (fun b o _ e => u.there b o e (by simp)) u.tups u.frzs u.tbls (fun m' hm => by
    obtain ⟨o', es', ep', ho', r'⟩ := hm
    rw [ho] at ho'; cases ho'
    exact ⟨_, es', ep', hL, r'⟩) hok I.bare
theorem Inv.call {g' : Array GenState} {t' : Nat} {d' : Drawn} {ch : List Addr} (I : Inv X pins σ H s) (u : Un (frs X.stack) ch H H' s.heap h') (hok : HOk X.prog X.w H' h') (hg : AllBare g')
    (hch : ∀ b ∈ ch, (b ∈ X.ex ∨ X.s₀.heap.objs.size ≤ b) ∧ b ≠ X.env.locals ∧ (∀ x c, X.env.cells.lookup x = some c → c ≠ b) ∧ ∀ p ∈ X.pn ++ pins, p.1 ≠ b) :
    Inv X pins σ H' { s with heap := h', gens := g', drawn := d', toks := t' } := by
  obtain ⟨m, ⟨o, es, ep, ho, r⟩, _⟩ := id I.loc
  obtain ⟨sl, hL⟩ := u.any ho I.free fun z => (hch _ z).2.1 rfl
  exact I.step (ch := ch) hch (fun b o hL hb hc e n => u.keep b o e n (fun z => (List.mem_cons.mp (I.stkSub b z)).elim hL hb) hc) (fun b o _ _ hc e n => u.any e n hc) (fun b o hc e n => u.free b o e n hc) (fun b o hc e => u.there b o e hc) u.tups u.frzs u.tbls (fun m' hm => by
    obtain ⟨o', es', ep', ho', r'⟩ := hm
    rw [ho] at ho'; cases ho'
    exact ⟨_, es', ep', hL, r'⟩) hok hg
theorem Inv.turned {t' : Nat} {it : Addr} (I : Inv X pins σ H s) (k : ∀ b o, b ≠ it → s.heap.get? b = some o → h'.get? b = some o) (hn : H it = none) (hL : it ≠ X.env.locals)
    (h1 : it ∈ X.ex ∨ X.s₀.heap.objs.size ≤ it) (h2 : ∀ x c, X.env.cells.lookup x = some c → c ≠ it) (h3 : ∀ p ∈ X.pn ++ pins, p.1 ≠ it) : Inv X pins σ H { s with heap := h', toks := t' } := by
  have nit : ∀ b u, H b = some u → b ≠ it := fun b u e z => by rw [z, hn] at e; cases e
  refine I.step (g' := s.gens) (d' := s.drawn) (ch := [it]) (fun b hb => ?_) (fun b o _ _ hc e _ => k b o (fun z => hc (by simp [z])) e) (fun b o _ _ hc e _ => ⟨o.slots, k b o (fun z => hc (by simp [z])) e⟩) (fun _ _ _ _ n => n)
    (fun b o hc e => ⟨o, k b o (fun z => hc (by simp [z])) e⟩) (fun _ _ e => e) (fun _ _ _ e => e) (fun b ps e => ⟨#[], by rw [e]; simp⟩) (fun m hm => ?_) (fun b u e => ?_) I.bare
  · have e : b = it := by simpa using hb
    subst e
    exact ⟨h1, hL, h2, h3⟩
  · obtain ⟨o, es, ep, ho, r⟩ := hm
    exact ⟨o, es, ep, k _ o (Ne.symm hL) ho, r⟩
  · refine (I.hok b u e).stay (fun c v hc q => k c v ?_ q) (fun _ q => q) fun _ _ q => q
    rcases hc with z | z
    · rw [z]; exact nit b u e
    · exact nit c _ z
theorem Inv.tok (I : Inv X pins σ H s) (t : Nat) : Inv X pins σ H { s with toks := t } := I.un (h' := s.heap) (t' := t) Un.refl I.hok
theorem Inv.kept {t' : Nat} (I : Inv X pins σ H s) (k : ∀ b u, s.heap.get? b = some u → h'.get? b = some u) : Inv X pins σ H { s with heap := h', toks := t' } := I.un (Un.kept k) (I.hok.kept k)
theorem Inv.laid {a : Addr} {o : HO} {t' : Nat} (I : Inv X pins σ H s) (k : ∀ b u, s.heap.get? b = some u → h'.get? b = some u) (hp : s.heap.objs.size ≤ a) (new : ObjOk X.prog X.w (upd H a o) h' a o) :
    Inv X pins σ (upd H a o) { s with heap := h', toks := t' } := I.un (Un.laid k hp (I.hok.fresh hp)) (I.hok.laid k hp new)
theorem Inv.write {x e : Addr} {o : HO} {t' : Nat} (I : Inv X pins σ H s) (mu : Mut (H x)) (he : e = x ∨ H e = some (.own x)) (k : ∀ b u, b ≠ e → s.heap.get? b = some u → h'.get? b = some u) (heo : ∃ u, h'.get? e = some u)
    (new : ObjOk X.prog X.w (upd H x o) h' x o) : Inv X pins σ (upd H x o) { s with heap := h', toks := t' } := I.un (Un.write mu he k heo) (I.hok.write mu he k heo new)
theorem Inv.pins_of {pins' : List (Addr × Obj)} (I : Inv X pins σ H s) (h : ∀ p ∈ pins', s.heap.get? p.1 = some p.2 ∧ H p.1 = none ∧ p.1 ≠ X.env.locals ∧ p.1 ∉ X.fs ∧ ∀ v, p.2.data ≠ .cell v) : Inv X pins' σ H s :=
  ⟨I.ok, I.os, I.bare, I.base, I.loc, I.cell, I.free, I.freeC, fun p hp => (List.mem_append.mp hp).elim (fun z => I.pin p (List.mem_append_left _ z)) (h p), I.hok, I.len⟩
theorem nodup_ix {N : List Str} (hN : N.Nodup) {i j : Nat} {x : Str} (a : N[i]? = some x) (b : N[j]? = some x) : i = j := by
  obtain ⟨h1, e1⟩ := List.getElem?_eq_some_iff.mp a
  obtain ⟨h2, e2⟩ := List.getElem?_eq_some_iff.mp b
  exact (List.getElem_inj hN).mp (e1.trans e2.symm)
theorem store_ok2 {M : Model} {A : Around} {E : Value → Shared → Prop} {i : Nat} {x : Str} {v : V} {u : Value} {Q : Unit → Shared → Prop} (I : Inv X pins σ H s) (hN : X.N.Nodup) (hi : X.N[i]? = some x) (hx : Loc X.env.scope x) (r : RelV v u)
    (h : ∀ s', Inv X pins (σ.set i (some v)) H s' → (∃ a, Heap.SameBut a s.heap s'.heap ∧ (a = X.env.locals ∨ X.env.cells.lookup x = some a)) → Q () s') (hf : X.fn x = true ∨ X.env.scope.names.lookup x = some .local := by first | exact .inl rfl | exact .inr rfl | assumption) : wpAny M A (storeName X.env x u) Q E s := by
  obtain ⟨m, hn, hl⟩ := id I.loc
  have hcls : (X.env.scope.kind == .class || (X.env.scope.kind == .module && X.env.locals != X.env.globals)) = false := by rw [I.ok.kind]; rfl
  have hiσ : i < σ.length := by rw [I.len]; exact (List.getElem?_eq_some_iff.mp hi).1
  have cne := I.cne
  have tracked : ∀ {a : Addr} {h' : Heap}, (∃ o, s.heap.get? a = some o ∧ H a = none) → Heap.SameBut a s.heap h' → HOk X.prog X.w H h' := fun {a h'} ha hs b ob e => by
    obtain ⟨_, _, hfree⟩ := ha
    refine (I.hok b ob e).stay (fun c w' hc q => (hs.2 c ?_).trans q) (fun _ q => q) fun _ _ q => q
    rintro rfl
    rcases hc with rfl | hc
    · rw [hfree] at e; cases e
    · rw [hfree] at hc; cases hc
  rcases hx with hk | hk
  · refine wpAny_storeName_local hk hn (fun h' hn' hs => ?_) hcls
    obtain ⟨oL, _, _, hoL, _⟩ := id hn
    refine h _ ⟨I.ok, I.os, I.bare, ⟨fun b o e n hb hx => ?_, fun b o e n hb hx => ?_, I.base.free, fun b o e hx => ?_, I.base.tups, I.base.frzs, I.base.tbls⟩, ⟨_, hn', fun j y v' e1 e2 e3 => ?_⟩, fun y c e => ?_, I.free, I.freeC, fun p hp => ?_, tracked ⟨oL, hoL, I.free⟩ hs, by simpa using I.len⟩ ⟨_, hs, .inl rfl⟩
    · exact (hs.2 b (Nat.ne_of_lt (Nat.lt_of_lt_of_le (Heap.lt_size e) I.ok.above))).trans (I.base.keep b o e n hb hx)
    · obtain ⟨sl, e1⟩ := I.base.slot b o e n hb hx
      exact ⟨sl, (hs.2 b (Nat.ne_of_lt (Nat.lt_of_lt_of_le (Heap.lt_size e) I.ok.above))).trans e1⟩
    · obtain ⟨o', e1⟩ := I.base.there b o e hx
      exact ⟨o', (hs.2 b (Nat.ne_of_lt (Nat.lt_of_lt_of_le (Heap.lt_size e) I.ok.above))).trans e1⟩
    · by_cases hj : j = i
      · subst hj
        rw [hi] at e1; cases e1
        rw [List.getElem?_set_self hiσ] at e2
        cases e2
        exact ⟨u, r, .inl ⟨hk, by simp⟩⟩
      · rw [List.getElem?_set_ne (Ne.symm hj)] at e2
        obtain ⟨u', r', q⟩ := hl j y v' e1 e2 e3
        refine ⟨u', r', ?_⟩
        rcases q with ⟨k, e⟩ | ⟨k, c, e, z⟩
        · refine .inl ⟨k, ?_⟩
          have : y ≠ x := fun e => hj (nodup_ix hN e1 (e ▸ hi))
          simp [this, e]
        · exact .inr ⟨k, c, e, z.sameBut hs (cne y c e)⟩
    · obtain ⟨w', z⟩ := I.cell y c e
      exact ⟨w', z.sameBut hs (cne y c e)⟩
    · obtain ⟨e, n, ne, nf, d⟩ := I.pin p hp
      exact ⟨(hs.2 p.1 ne).trans e, n, ne, nf, d⟩
  · have hfn : X.fn x = true := by
      rcases hf with z | z
      · exact z
      · rw [z] at hk; cases hk
    obtain ⟨c, hc⟩ := I.ok.has x (.inl hk)
    obtain ⟨w', z⟩ := I.cell x c hc
    refine wpAny_storeName_cell I.ok.kind hk hc z (fun h' hc' hs => ?_)
    obtain ⟨oc, hoc, hocd⟩ := id z
    refine h { s with heap := h' } ⟨I.ok, I.os, I.bare, ⟨fun b o e n hb hx => ?_, fun b o e n hb hx => ?_, I.base.free, fun b o e hx => ?_, I.base.tups, I.base.frzs, I.base.tbls⟩, ⟨m, hn.sameBut hs (Ne.symm (cne x c hc)), fun j y v' e1 e2 e3 => ?_⟩, fun y c' e => ?_, I.free, I.freeC, fun p hp => ?_, tracked ⟨oc, hoc, I.freeC x c hc⟩ hs, by simpa using I.len⟩ ⟨c, hs, .inr hc⟩
    · exact (hs.2 b (Nat.ne_of_lt (Nat.lt_of_lt_of_le (Heap.lt_size e) (I.ok.cab x c hfn hc)))).trans (I.base.keep b o e n hb hx)
    · obtain ⟨sl, e1⟩ := I.base.slot b o e n hb hx
      exact ⟨sl, (hs.2 b (Nat.ne_of_lt (Nat.lt_of_lt_of_le (Heap.lt_size e) (I.ok.cab x c hfn hc)))).trans e1⟩
    · obtain ⟨o', e1⟩ := I.base.there b o e hx
      exact ⟨o', (hs.2 b (Nat.ne_of_lt (Nat.lt_of_lt_of_le (Heap.lt_size e) (I.ok.cab x c hfn hc)))).trans e1⟩
    · by_cases hj : j = i
      · subst hj
        rw [hi] at e1; cases e1
        rw [List.getElem?_set_self hiσ] at e2
        cases e2
        exact ⟨u, r, .inr ⟨.inl hk, c, hc, hc'⟩⟩
      · rw [List.getElem?_set_ne (Ne.symm hj)] at e2
        obtain ⟨u', r', q⟩ := hl j y v' e1 e2 e3
        refine ⟨u', r', ?_⟩
        rcases q with q | ⟨k, c', e, z'⟩
        · exact .inl q
        · refine .inr ⟨k, c', e, z'.sameBut hs ?_⟩
          rintro rfl
          exact hj (nodup_ix hN e1 (I.ok.inj _ _ _ e hc ▸ hi))
    · by_cases hcc : c' = c
      · subst hcc; exact ⟨_, hc'⟩
      · obtain ⟨w2, z2⟩ := I.cell y c' e
        exact ⟨w2, z2.sameBut hs hcc⟩
    · obtain ⟨e, n, ne, nf, d⟩ := I.pin p hp
      refine ⟨(hs.2 p.1 ?_).trans e, n, ne, nf, d⟩
      intro q
      rw [q, hoc] at e
      have q' : oc = p.2 := Option.some.inj e
      exact d w' (by rw [← q']; exact hocd)
theorem store_ok {M : Model} {A : Around} {E : Value → Shared → Prop} {i : Nat} {x : Str} {v : V} {u : Value} {Q : Unit → Shared → Prop} (I : Inv X pins σ H s) (hN : X.N.Nodup) (hi : X.N[i]? = some x) (hx : Loc X.env.scope x) (r : RelV v u)
    (h : ∀ s', Inv X pins (σ.set i (some v)) H s' → Q () s') (hf : X.fn x = true ∨ X.env.scope.names.lookup x = some .local := by first | exact .inl rfl | exact .inr rfl | assumption) : wpAny M A (storeName X.env x u) Q E s :=
  store_ok2 I hN hi hx r (fun s' I' _ => h s' I') hf
theorem Inv.call' {s' : Shared} {ch : List Addr} (I : Inv X pins σ H s) (ho : s'.os = s.os) (u : Un (frs X.stack) ch H H' s.heap s'.heap) (hok : HOk X.prog X.w H' s'.heap) (hg : AllBare s'.gens)
    (hch : ∀ b ∈ ch, (b ∈ X.ex ∨ X.s₀.heap.objs.size ≤ b) ∧ b ≠ X.env.locals ∧ (∀ x c, X.env.cells.lookup x = some c → c ≠ b) ∧ ∀ p ∈ X.pn ++ pins, p.1 ≠ b) : Inv X pins σ H' s' := by
  obtain ⟨h', g', d', t', o'⟩ := s'
  have e : o' = s.os := ho
  subst e
  exact I.call (g' := g') (t' := t') (d' := d') u hok hg hch
end
abbrev XK := Value → Option Addr → Hp → Prop
abbrev St := List (Option V)
abbrev VK := V → Hp → Prop
abbrev TE := St → Hp → VK → Prop
abbrev TT := St → Hp → (Bool → Hp → Prop) → Prop
abbrev TA := St → Hp → (List V → Hp → Prop) → Prop
structure Ends where
  nx : St → Hp → Prop
  rt : VK
  bk : St → Hp → Prop := fun _ _ => False
  ct : St → Hp → Prop := fun _ _ => False
abbrev TS := Ends → St → Hp → Prop
def EP (X : Cx) (pins : List (Addr × Obj)) (σ : St) (Q : VK) (u : Value) (s' : Shared) : Prop := ∃ v H', Inv X pins σ H' s' ∧ RelV v u ∧ Q v H'
def TP (X : Cx) (pins : List (Addr × Obj)) (σ : St) (Q : Bool → Hp → Prop) (b : Bool) (s' : Shared) : Prop := ∃ H', Inv X pins σ H' s' ∧ Q b H'
def AP (X : Cx) (pins : List (Addr × Obj)) (σ : St) (Q : List V → Hp → Prop) (us : List Value) (s' : Shared) : Prop := ∃ vs H', Inv X pins σ H' s' ∧ Vals vs us ∧ Q vs H'
def SP (X : Cx) (pins : List (Addr × Obj)) (D : Ends) (f : Flow) (s' : Shared) : Prop :=
  match f with
  | .next => ∃ σ' H', Inv X pins σ' H' s' ∧ D.nx σ' H'
  | .brk => ∃ σ' H', Inv X pins σ' H' s' ∧ D.bk σ' H'
  | .cont => ∃ σ' H', Inv X pins σ' H' s' ∧ D.ct σ' H'
  | .ret u => ∃ v σ' H', Inv X pins σ' H' s' ∧ RelV v u ∧ D.rt v H'
def PE (X : Cx) (e : Expr) (t : TE) : Prop :=
  ∀ (pins : List (Addr × Obj)) (s : Shared) (σ : St) (H : Hp) (Q : VK), Inv X pins σ H s → t σ H Q → wpAny (model X.prog X.w) X.A (eval e X.env) (EP X pins σ Q) X.xe s
def PT (X : Cx) (e : Expr) (t : TT) : Prop :=
  ∀ (pins : List (Addr × Obj)) (s : Shared) (σ : St) (H : Hp) (Q : Bool → Hp → Prop), Inv X pins σ H s → t σ H Q → wpAny (model X.prog X.w) X.A (isTrue e X.env (eval e X.env)) (TP X pins σ Q) X.xe s
def PW (X : Cx) (e : Expr) (t : TT) : Prop :=
  ∀ (whole : Sem Value) (pins : List (Addr × Obj)) (s : Shared) (σ : St) (H : Hp) (Q : Bool → Hp → Prop), Inv X pins σ H s → t σ H Q → wpAny (model X.prog X.w) X.A (isTrue e X.env whole) (TP X pins σ Q) X.xe s
theorem PW.pt {X : Cx} {e : Expr} {t : TT} (h : PW X e t) : PT X e t := h _
def PA (X : Cx) (es : List Expr) (t : TA) : Prop :=
  ∀ (pos : Pos) (pins : List (Addr × Obj)) (s : Shared) (σ : St) (H : Hp) (Q : List V → Hp → Prop), Inv X pins σ H s → t σ H Q → wpAny (model X.prog X.w) X.A (spliced (backTo pos (starEach es X.env))) (AP X pins σ Q) X.xe s
def PS (X : Cx) (st : Stmt) (t : TS) : Prop :=
  ∀ (pins : List (Addr × Obj)) (s : Shared) (σ : St) (H : Hp) (D : Ends), Inv X pins σ H s → t D σ H → wpAny (model X.prog X.w) X.A (exec st X.env) (SP X pins D) X.xe s
def PSs (X : Cx) (st : List Stmt) (t : TS) : Prop :=
  ∀ (pins : List (Addr × Obj)) (s : Shared) (σ : St) (H : Hp) (D : Ends), Inv X pins σ H s → t D σ H → wpAny (model X.prog X.w) X.A (execs st X.env) (SP X pins D) X.xe s
theorem thn {α : Type} {t : Sem α} {Q Q' : α → Shared → Prop} {M : Model} {A : Around} {E : Value → Shared → Prop} {s : Shared} (h : wpAny M A t Q E s) (hQ : ∀ a s, Q a s → Q' a s) : wpAny M A t Q' E s := wpAny_mono h hQ fun _ _ x => x
end L2
namespace L2
open PySem PySem.Spec PyProof.Rows
section
variable {X : Cx}
def tVar (i : Nat) : TE := fun σ H Q => ∃ v, σ[i]? = some (some v) ∧ Q v H
def tC (v : V) : TE := fun _ H Q => Q v H
theorem pe_var {i : Nat} {x : Str} {pos : Pos} (hN : X.N[i]? = some x) (hv : Vis X.env.scope x) (hd : (x == ("__debug__" : Str)) = false := by decide) (hcd : (x == ("__classdict__" : Str)) = false := by decide) : PE X (.Name x pos) (tVar i) := by
  intro pins s σ H Q I h
  obtain ⟨v, e, h⟩ := h
  obtain ⟨m, hn, hl⟩ := I.loc
  obtain ⟨u, r, l⟩ := hl i x v hN e hv
  have fin : EP X pins σ Q u s := ⟨v, H, I, r, h⟩
  rcases l with ⟨hk, hm⟩ | ⟨hk, c, hc, hcell⟩
  · exact wpAny_Name (wpAny_loadName_local I.ok.kind hk hn hm fin) hd
  · rcases hk with hk | hk
    · exact wpAny_Name (wpAny_loadName_cell I.ok.kind hk hc hcell fin) hd
    · exact wpAny_Name (wpAny_loadName_free I.ok.kind hk hc hcell fin hcd) hd
theorem pe_int {i j pos} : PE X (.Constant (.int i) j pos) (tC (.int i)) := fun _ _ _ H _ I h => wpAny_Constant_int ⟨.int i, H, I.tok _, ⟨_, rfl⟩, h⟩
theorem pe_bl {b j pos} : PE X (.Constant (.bool b) j pos) (tC (.bl b)) := fun _ _ _ H _ I h => Constant_bool ⟨.bl b, H, I, rfl, h⟩
theorem pe_non {j pos} : PE X (.Constant .none j pos) (tC .non) := fun _ _ _ H _ I h => Constant_none ⟨.non, H, I, rfl, h⟩
theorem pe_str {x j pos} : PE X (.Constant (.str x) j pos) (tC (.str x)) := fun _ _ _ H _ I h => Calls.Constant_str ⟨.str x, H, I.tok _, ⟨_, rfl⟩, h⟩
def Gl (X : Cx) (x : Str) : Prop := X.env.kindOf x = some .globalImplicit
theorem ld_glob {E : Value → Shared → Prop} {pins : List (Addr × Obj)} {s : Shared} {σ : St} {H : Hp} {x : Str} {u : Value} {pos : Pos} {Q : Value → Shared → Prop} (I : Inv X pins σ H s) (hg : Gl X x) (hm : X.mg x = some u) (h : Q u s)
    (hd : (x == ("__debug__" : Str)) = false := by decide) : wpAny (model X.prog X.w) X.A (eval (.Name x pos) X.env) Q E s :=
  Calls.Name_function_global I.ok.kind hg (Calls.loadGlobal_global (by rw [I.ok.glob]; exact I.mod.glob.keeps I.bk) hm h) hd
theorem ld_blt {E : Value → Shared → Prop} {pins : List (Addr × Obj)} {s : Shared} {σ : St} {H : Hp} {x : Str} {u : Value} {pos : Pos} {Q : Value → Shared → Prop} (I : Inv X pins σ H s) (hg : Gl X x) (hm : X.mg x = none) (hv : bootBuiltins x = some u) (h : Q u s)
    (hn : x ≠ "__name__" := by decide) (hd : (x == ("__debug__" : Str)) = false := by decide) : wpAny (model X.prog X.w) X.A (eval (.Name x pos) X.env) Q E s := by
  obtain ⟨mb, h1, h2⟩ := I.mod.blt
  exact Calls.Name_function_global I.ok.kind hg (Calls.loadGlobal_builtin (by rw [I.ok.glob]; exact I.mod.glob.keeps I.bk) hm (by rw [I.ok.blt]; exact h1.keeps I.bk) ((h2 x hn).trans hv) h) hd
theorem pe_glob {x : Str} {v : V} {u : Value} {pos : Pos} (hg : Gl X x) (hm : X.mg x = some u) (r : RelV v u) (hd : (x == ("__debug__" : Str)) = false := by decide) : PE X (.Name x pos) (tC v) :=
  fun _ _ _ H _ I h => ld_glob I hg hm ⟨v, H, I, r, h⟩ hd
theorem pe_bltn {x : Str} {v : V} {u : Value} {pos : Pos} (hg : Gl X x) (hm : X.mg x = none) (hv : bootBuiltins x = some u) (r : RelV v u) (hn : x ≠ "__name__" := by decide) (hd : (x == ("__debug__" : Str)) = false := by decide) : PE X (.Name x pos) (tC v) :=
  fun _ _ _ H _ I h => ld_blt I hg hm hv ⟨v, H, I, r, h⟩ hn hd
variable {a b : Expr} {ta tb : TE} {pos : Pos}
def PC (X : Cx) (op : CmpOp) (a b : Expr) (t : TE) : Prop :=
  ∀ (pins : List (Addr × Obj)) (s : Shared) (σ : St) (H : Hp) (Q : VK), Inv X pins σ H s → t σ H Q →
    wpAny (model X.prog X.w) X.A (eval a X.env) (fun v s₁ => wpAny (model X.prog X.w) X.A (eval b X.env) (fun u s₂ => wpAny (model X.prog X.w) X.A (compareOp op v u) (EP X pins σ Q) X.xe s₂) X.xe s₁) X.xe s
def tB (t : TE) : TT := fun σ H Q => t σ H fun x H1 => ∃ c, x = .bl c ∧ Q c H1
theorem pt_val {e : Expr} {t : TE} (h : PE X e t) (he : ∀ whole, isTrue e X.env whole = (do let v ← whole; standAt e.pos; holding [v] (truthy v)) := by intro _; rfl) : PT X e (tB t) := by
  intro pins s σ H Q I hw
  refine isTrue_plain (thn (h pins s σ H _ I hw) fun v s1 ⟨x, H1, I1, r1, q1⟩ => ?_) (he _)
  obtain ⟨d, rfl, q⟩ := q1
  cases r1
  exact wpAny_truthy_bool ⟨H1, I1, q⟩
variable {tA tB' : TT} {rest : List Expr}
def tAnd (t u : TT) : TT := fun σ H Q => t σ H fun c H1 => if c = true then u σ H1 Q else Q false H1
def tOr (t u : TT) : TT := fun σ H Q => t σ H fun c H1 => if c = true then Q true H1 else u σ H1 Q
def tNot (t : TT) : TT := fun σ H Q => t σ H fun c H1 => Q (!c) H1
theorem pw_and1 (ha : PT X a tA) : PW X (.BoolOp .And [a] pos) tA := by
  intro wh pins s σ H Q I h
  refine isTrue_and (thn (ha pins s σ H Q I h) fun c s1 e => ?_)
  cases c with
  | true => exact isTrue_and_nil e
  | false => exact e
theorem pw_or1 (ha : PT X a tA) : PW X (.BoolOp .Or [a] pos) tA := by
  intro wh pins s σ H Q I h
  refine isTrue_or (thn (ha pins s σ H Q I h) fun c s1 e => ?_)
  cases c with
  | false => exact isTrue_or_nil e
  | true => exact e
theorem pw_and (ha : PT X a tA) (hb : PW X (.BoolOp .And (b :: rest) pos) tB') : PW X (.BoolOp .And (a :: b :: rest) pos) (tAnd tA tB') := by
  intro wh pins s σ H Q I h
  refine isTrue_and (thn (ha pins s σ H _ I h) fun c s1 ⟨H1, I1, q1⟩ => ?_)
  cases c with
  | true => exact hb wh pins s1 σ H1 Q I1 q1
  | false => exact ⟨H1, I1, q1⟩
theorem pw_or (ha : PT X a tA) (hb : PW X (.BoolOp .Or (b :: rest) pos) tB') : PW X (.BoolOp .Or (a :: b :: rest) pos) (tOr tA tB') := by
  intro wh pins s σ H Q I h
  refine isTrue_or (thn (ha pins s σ H _ I h) fun c s1 ⟨H1, I1, q1⟩ => ?_)
  cases c with
  | true => exact ⟨H1, I1, q1⟩
  | false => exact hb wh pins s1 σ H1 Q I1 q1
theorem pt_not (ha : PT X a tA) : PT X (.UnaryOp .Not a pos) (tNot tA) := by
  intro pins s σ H Q I h
  exact isTrue_not (ha pins s σ H (fun c H1 => Q (!c) H1) I h)
def tAndV (ta tb : TE) : TE := fun σ H Q => ta σ H fun x H1 => ∃ c, x = .bl c ∧ if c = true then tb σ H1 Q else Q (.bl false) H1
theorem pe_one {op} {t : TE} (h : PE X a t) : PE X (.BoolOp op [a] pos) t := fun pins s σ H Q I hw => BoolOp_one (h pins s σ H Q I hw)
theorem pe_and (ha : PE X a ta) (hb : PE X (.BoolOp .And (b :: rest) pos) tb) : PE X (.BoolOp .And (a :: b :: rest) pos) (tAndV ta tb) := by
  intro pins s σ H Q I h
  refine BoolOp_and (thn (ha pins s σ H _ I h) fun v s1 ⟨x, H1, I1, r1, q1⟩ => ?_)
  obtain ⟨c, rfl, q1⟩ := q1
  cases r1
  refine wpAny_truthy_bool ?_
  cases c with
  | true => exact hb pins s1 σ H1 Q I1 q1
  | false => exact ⟨.bl false, H1, I1, rfl, q1⟩
def tIf (t : TT) (ta tb : TE) : TE := fun σ H Q => t σ H fun c H1 => if c = true then ta σ H1 Q else tb σ H1 Q
theorem pe_ifExp {c : Expr} (hc : PT X c tA) (ha : PE X a ta) (hb : PE X b tb) : PE X (.IfExp c a b pos) (tIf tA ta tb) := by
  intro pins s σ H Q I h
  refine wpAny_IfExp (thn (hc pins s σ H _ I h) fun d s1 ⟨H1, I1, q1⟩ => ?_)
  cases d with
  | true => exact ha pins s1 σ H1 Q I1 q1
  | false => exact hb pins s1 σ H1 Q I1 q1
end
end L2
namespace L2
open PySem PySem.Spec PyProof.Rows
def SqL (K : PySem.W.Frag) (H : Hp) (a : Addr) (xs : List V) : Prop :=
  Rd H a (.lst xs) ∨
    ∃ (o : Obj) (its : Array Value) (n : Nat), K.lookup a = some o ∧ o.cls = .type "list" ∧ o.dict = none ∧ o.data = .seq its n ∧ its.size ≤ sizeLine ∧ Vals xs its.toList
def SqT (K : PySem.W.Frag) (H : Hp) (a : Addr) (xs : List V) : Prop :=
  Rd H a (.tup xs) ∨
    ∃ (o : Obj) (its : Array Value) (n : Nat), K.lookup a = some o ∧ o.cls = .type "tuple" ∧ o.data = .seq its n ∧ its.size ≤ sizeLine ∧ Vals xs its.toList
def absV : Value → Option V
  | .none => some .non
  | .bool b => some (.bl b)
  | .int i _ => some (.int i)
  | .str x _ => some (.str x)
  | .bytes b _ => some (.byt b)
  | .float b _ => some (.flt b)
  | .ref a => some (.ref a)
  | .type n => some (.ty n)
  | _ => none
theorem RelV.abs {x : V} {u : Value} (r : RelV x u) : absV u = some x := by
  cases x with
  | non => cases r; rfl
  | bl _ => cases r; rfl
  | int _ => obtain ⟨t, rfl⟩ := r; rfl
  | str _ => obtain ⟨t, rfl⟩ := r; rfl
  | byt _ => obtain ⟨t, rfl⟩ := r; rfl
  | flt _ => obtain ⟨t, rfl⟩ := r; rfl
  | ref _ => cases r; rfl
  | ty _ => cases r; rfl
theorem RelV.inj {x y : V} {u : Value} (r : RelV x u) (q : RelV y u) : x = y := Option.some.inj (r.abs.symm.trans q.abs)
theorem Vals.inj : ∀ {xs ys : List V} {us : List Value}, Vals xs us → Vals ys us → xs = ys
  | _, _, _, .nil, .nil => rfl
  | _, _, _, .cons r t, .cons r' t' => by rw [r.inj r', Vals.inj t t']
section
variable {X : Cx} {pins : List (Addr × Obj)} {σ : St} {H : Hp} {s : Shared} {a : Addr} {xs ys : List V}
theorem SqL.of {K : PySem.W.Frag} (h : H a = some (.lst xs)) : SqL K H a xs := .inl (.inl h)
theorem SqT.of {K : PySem.W.Frag} (h : H a = some (.tup xs)) : SqT K H a xs := .inl (.inl h)
theorem Inv.list (I : Inv X pins σ H s) (h : SqL X.K H a xs) : ∃ its : List Value, Vals xs its ∧ PlainL s.heap a its.toArray ∧ xs.length ≤ sizeLine := by
  rcases h with h | ⟨o, its, n, hk, hc, hd, hs, hz, r⟩
  · obtain ⟨z, its, n, r, e⟩ := h.ok I.hok
    exact ⟨its, r, ⟨_, n, e, rfl, rfl, rfl⟩, z⟩
  · refine ⟨its.toList, r, ⟨o, n, I.kIn a o hk, hc, hd, by simpa using hs⟩, ?_⟩
    have e := r.length
    simp only [Array.length_toList] at e
    omega
theorem Inv.tuple (I : Inv X pins σ H s) (h : SqT X.K H a xs) : ∃ its : List Value, Vals xs its ∧ IsTup s.heap a its.toArray ∧ xs.length ≤ sizeLine := by
  rcases h with h | ⟨o, its, n, hk, hc, hs, hz, r⟩
  · obtain ⟨z, its, r, p⟩ := h.ok I.hok
    exact ⟨its, r, p, z⟩
  · refine ⟨its.toList, r, ⟨o, I.kIn a o hk, hc, n, by simpa using hs⟩, ?_⟩
    have e := r.length
    simp only [Array.length_toList] at e
    omega
theorem Inv.list_inj (I : Inv X pins σ H s) (h : SqL X.K H a xs) (h' : SqL X.K H a ys) : xs = ys := by
  obtain ⟨its, r, ⟨o, n, e, _, _, d⟩, _⟩ := I.list h
  obtain ⟨its', r', ⟨o', n', e', _, _, d'⟩, _⟩ := I.list h'
  rw [e] at e'; cases e'
  rw [d] at d'
  injection d' with d1 _
  have : its = its' := by simpa using congrArg Array.toList d1
  subst this
  exact r.inj r'
end
abbrev Cx.wish (X : Cx) (E : Value → Shared → Prop) : Cx := { X with xe := E }
abbrev Cx.nox (X : Cx) : Cx := X.wish fun _ _ => False
theorem Cx.Ok.wish {X : Cx} (ok : X.Ok) (E : Value → Shared → Prop) : (X.wish E).Ok :=
  ⟨ok.mod, ok.kind, ok.glob, ok.blt, ok.above, ok.inj, ok.has, ok.cab, ok.hd, ok.frames, ok.stk, ok.exf, ok.bs, ok.bsz, ok.noex, ok.exfs, ok.funs, ok.frf⟩
theorem Cx.Ok.unwish {X : Cx} {E : Value → Shared → Prop} (ok : (X.wish E).Ok) : X.Ok :=
  ⟨ok.mod, ok.kind, ok.glob, ok.blt, ok.above, ok.inj, ok.has, ok.cab, ok.hd, ok.frames, ok.stk, ok.exf, ok.bs, ok.bsz, ok.noex, ok.exfs, ok.funs, ok.frf⟩
section
variable {X : Cx} {pins : List (Addr × Obj)} {σ : St} {H : Hp} {s : Shared} {E : Value → Shared → Prop}
theorem Inv.wish (I : Inv X pins σ H s) (E : Value → Shared → Prop) : Inv (X.wish E) pins σ H s := ⟨I.ok.wish E, I.os, I.bare, I.base, I.loc, I.cell, I.free, I.freeC, I.pin, I.hok, I.len⟩
theorem Inv.unwish (I : Inv (X.wish E) pins σ H s) : Inv X pins σ H s := ⟨I.ok.unwish, I.os, I.bare, I.base, I.loc, I.cell, I.free, I.freeC, I.pin, I.hok, I.len⟩
theorem SP.unwish {D : Ends} {f : Flow} {s' : Shared} (h : SP (X.wish E) pins D f s') : SP X pins D f s' := by
  cases f with
  | next => obtain ⟨σ', H', I, q⟩ := h; exact ⟨σ', H', I.unwish, q⟩
  | brk => obtain ⟨σ', H', I, q⟩ := h; exact ⟨σ', H', I.unwish, q⟩
  | cont => obtain ⟨σ', H', I, q⟩ := h; exact ⟨σ', H', I.unwish, q⟩
  | ret u => obtain ⟨v, σ', H', I, r, q⟩ := h; exact ⟨v, σ', H', I.unwish, r, q⟩
theorem PE.nox {e : Expr} {t : TE} (h : PE X.nox e t) : PE X e t := fun pins s σ H Q I hw =>
  wpAny_mono (h pins s σ H Q (I.wish _) hw) (fun _ _ ⟨v, H', I', r, q⟩ => ⟨v, H', I'.unwish, r, q⟩) fun _ _ z => False.elim z
theorem PT.nox {e : Expr} {t : TT} (h : PT X.nox e t) : PT X e t := fun pins s σ H Q I hw =>
  wpAny_mono (h pins s σ H Q (I.wish _) hw) (fun _ _ ⟨H', I', q⟩ => ⟨H', I'.unwish, q⟩) fun _ _ z => False.elim z
theorem PSs.nox {st : List Stmt} {t : TS} (h : PSs X.nox st t) : PSs X st t := fun pins s σ H D I hw =>
  wpAny_mono (h pins s σ H D (I.wish _) hw) (fun _ _ q => q.unwish) fun _ _ z => False.elim z
end
section
variable {X : Cx} {st : Stmt} {rest : List Stmt} {t u : TS} {e : Expr} {te : TE} {pos : Pos}
def tNext : TS := fun D σ H => D.nx σ H
def tSeq (t u : TS) : TS := fun D σ H => t { D with nx := u D } σ H
theorem pss_nil : PSs X [] tNext := fun _ _ σ H _ I h => wpAny_execs_nil ⟨σ, H, I, h⟩
theorem pss_cons (h1 : PS X st t) (h2 : PSs X rest u) : PSs X (st :: rest) (tSeq t u) := by
  intro pins s σ H D I h
  refine wpAny_execs_cons (thn (h1 pins s σ H { D with nx := u D } I h) fun f s1 q => ?_)
  cases f with
  | next =>
    obtain ⟨σ', H', I', q⟩ := q
    exact h2 pins s1 σ' H' D I' q
  | ret v => exact q
  | brk => exact q
  | cont => exact q
theorem pss_one (h1 : PS X st t) : PSs X [st] t := by
  intro pins s σ H D I h
  refine wpAny_execs_cons (thn (h1 pins s σ H D I h) fun f s1 q => ?_)
  cases f with
  | next => exact wpAny_execs_nil q
  | ret v => exact q
  | brk => exact q
  | cont => exact q
theorem Inv.quiet {pins : List (Addr × Obj)} {σ : St} {H : Hp} {s : Shared} (I : Inv X pins σ H s) : interactive X.env = false := by simp [interactive, I.ok.kind]
def tDrop (te : TE) : TS := fun D σ H => te σ H fun _ H1 => D.nx σ H1
theorem ps_expr (he : PE X e te) (hs : swapsWith e none pos.line X.env = pure false := by rfl) : PS X (.Expr e pos) (tDrop te) := by
  intro pins s σ H D I h
  exact wpAny_Expr_any (thn (he pins s σ H _ I h) fun v s1 ⟨x, H1, I1, r1, q1⟩ => ⟨σ, H1, I1, q1⟩) I.quiet hs
def tRet (te : TE) : TS := fun D σ H => te σ H D.rt
theorem ps_ret (he : PE X e te) : PS X (.Return (some e) pos) (tRet te) := by
  intro pins s σ H D I h
  exact wpAny_Return_some (thn (he pins s σ H _ I h) fun v s1 ⟨x, H1, I1, r1, q1⟩ => ⟨x, σ, H1, I1, r1, q1⟩)
def tIfS (c : TT) (t u : TS) : TS := fun D σ H => c σ H fun b H1 => if b = true then t D σ H1 else u D σ H1
theorem ps_if {c : Expr} {a b : List Stmt} {tc : TT} (hc : PT X c tc) (ha : PSs X a t) (hb : PSs X b u) : PS X (.If c a b pos) (tIfS tc t u) := by
  intro pins s σ H D I h
  refine wpAny_If (thn (hc pins s σ H _ I h) fun d s1 ⟨H1, I1, q1⟩ => ?_)
  cases d with
  | true => exact ha pins s1 σ H1 D I1 q1
  | false => exact hb pins s1 σ H1 D I1 q1
end
abbrev TG := V → St → Hp → (St → Hp → Prop) → Prop
abbrev TGs := List V → St → Hp → (St → Hp → Prop) → Prop
def PG (X : Cx) (target : Expr) (t : TG) : Prop :=
  ∀ (pins : List (Addr × Obj)) (s : Shared) (σ : St) (H : Hp) (v : V) (u : Value) (Q : St → Hp → Prop), Inv X pins σ H s → RelV v u → t v σ H Q →
    wpAny (model X.prog X.w) X.A (assign target X.env u) (fun _ s' => ∃ σ' H', Inv X pins σ' H' s' ∧ Q σ' H') X.xe s
def PGs (X : Cx) (ts : List Expr) (t : TGs) : Prop :=
  ∀ (pins : List (Addr × Obj)) (s : Shared) (σ : St) (H : Hp) (vs : List V) (us : List Value) (Q : St → Hp → Prop), Inv X pins σ H s → Vals vs us → t vs σ H Q →
    wpAny (model X.prog X.w) X.A (assignInOrder ((assignEach ts X.env).map (·.2)) us) (fun _ s' => ∃ σ' H', Inv X pins σ' H' s' ∧ Q σ' H') X.xe s
section
variable {X : Cx} {pos : Pos}
def gName (i : Nat) : TG := fun v σ H Q => Q (σ.set i (some v)) H
theorem pg_name {i : Nat} {x : Str} (hN : X.N.Nodup) (hi : X.N[i]? = some x) (hx : Loc X.env.scope x) (hf : X.fn x = true ∨ X.env.scope.names.lookup x = some .local := by first | exact .inl rfl | exact .inr rfl | assumption) : PG X (.Name x pos) (gName i) := by
  intro pins s σ H v u Q I r h
  exact wpAny_assign_Name (store_ok I hN hi hx r (fun s' I' => ⟨_, H, I', h⟩) hf)
def tAsg (te : TE) (g : TG) : TS := fun D σ H => te σ H fun x H1 => g x σ H1 D.nx
theorem ps_set {i : Nat} {x : Str} {e : Expr} {te : TE} {pos' : Pos} (hN : X.N.Nodup) (hi : X.N[i]? = some x) (hx : Loc X.env.scope x) (he : PE X e te) (hs : swapsWith e (some (.Name x pos')) pos.line X.env = pure false := by rfl) (hf : X.fn x = true ∨ X.env.scope.names.lookup x = some .local := by first | exact .inl rfl | exact .inr rfl | assumption) :
    PS X (.Assign [.Name x pos'] e pos) (tAsg te (gName i)) := by
  intro pins s σ H D I h
  refine wpAny_Assign_Name (thn (he pins s σ H _ I h) fun v s1 ⟨y, H1, I1, r1, q1⟩ => ?_) hs
  exact store_ok I1 hN hi hx r1 (fun s2 I2 => ⟨_, H1, I2, q1⟩) hf
end
section
variable {X : Cx} {pos : Pos}
end
structure It where
  go : Nat → Hp → Prop
  yld : Nat → Hp → V → Hp → Prop
  stop : Nat → Hp → Prop
def FpOk (X : Cx) (pins : List (Addr × Obj)) (H : Hp) (b : Addr) : Prop :=
  H b = none ∧ b ≠ X.env.locals ∧ b ∉ X.fs ∧ (b ∈ X.ex ∨ X.s₀.heap.objs.size ≤ b) ∧ (∀ x c, X.env.cells.lookup x = some c → c ≠ b) ∧ ∀ p ∈ X.pn ++ pins, p.1 ≠ b
theorem Inv.fpOk {X : Cx} {pins : List (Addr × Obj)} {σ : St} {H H' : Hp} {s : Shared} {b : Addr} (I : Inv X pins σ H s) (hb : s.heap.objs.size ≤ b) (hn : H' b = none) : FpOk X pins H' b := by
  refine ⟨hn, Nat.ne_of_gt (Nat.lt_of_lt_of_le I.lt hb), I.nofs hb, .inr (Nat.le_trans I.sz hb), fun x c e z => ?_, fun p hp z => ?_⟩
  · obtain ⟨v, q⟩ := I.cell x c e
    exact absurd (Nat.lt_of_lt_of_le q.lt (by rw [z]; exact hb)) (Nat.lt_irrefl _)
  · exact absurd (Nat.lt_of_lt_of_le (Heap.lt_size (I.pin p hp).1) (by rw [z]; exact hb)) (Nat.lt_irrefl _)
structure Turn (P : Program) (w : World) (K : PySem.W.Frag) (tg : Expr) (J : It) (fp : List Addr) (it : Addr) (tn : Nat → Heap → Prop) : Prop where
  mem : it ∈ fp
  obj : ∀ i h, tn i h → ∀ b ∈ fp, ∃ o, h.get? b = some o ∧ ∀ v, o.data ≠ .cell v
  keep : ∀ i h h', tn i h → (∀ b ∈ fp, ∀ o, h.get? b = some o → h'.get? b = some o) → tn i h'
  item : ∀ (X : Cx), X.prog = P → X.w = w → X.K = K → X.calm = true → ∀ (i : Nat) (pins : List (Addr × Obj)) (s : Shared) (σ : St) (H : Hp) (E : Value → Shared → Prop), Inv X pins σ H s → (∀ b ∈ fp, FpOk X pins H b) → tn i s.heap → J.go i H →
    wpAny (model P w) X.A (pyNext (.ref it)) (fun r s1 => ∃ u, r = some u ∧
      wpAny (model P w) X.A (letOwnedTupleGo tg (.ref it) u) (fun _ s2 => ∃ x H', Inv X pins σ H' s2 ∧ RelV x u ∧ J.yld i H x H' ∧ tn (i + 1) s2.heap ∧ ∀ b ∈ fp, H' b = none) E s1) E s
  done : ∀ (X : Cx), X.prog = P → X.w = w → X.K = K → X.calm = true → ∀ (i : Nat) (pins : List (Addr × Obj)) (s : Shared) (σ : St) (H : Hp) (E : Value → Shared → Prop), Inv X pins σ H s → (∀ b ∈ fp, FpOk X pins H b) → tn i s.heap → J.stop i H →
    wpAny (model P w) X.A (pyNext (.ref it)) (fun r s1 => r = none ∧ Inv X pins σ H s1) E s
  self : ∀ (A : Around) (i : Nat) (s : Shared) (Q : Value → Shared → Prop) (E : Value → Shared → Prop), tn i s.heap → Q (.ref it) s → wpAny (model P w) A (pyIter (.ref it)) Q E s
abbrev TI := St → Hp → (It → Hp → Prop) → Prop
def PIE (X : Cx) (pins : List (Addr × Obj)) (σ : St) (tg : Expr) (R : It → Hp → Prop) (itv : Value) (s2 : Shared) : Prop :=
  ∃ (it : Addr) (fp : List Addr) (tn : Nat → Heap → Prop) (J : It) (H' : Hp), itv = .ref it ∧ Inv X pins σ H' s2 ∧ Turn X.prog X.w X.K tg J fp it tn ∧ tn 0 s2.heap ∧ (∀ b ∈ fp, FpOk X pins H' b) ∧ R J H'
def PI (X : Cx) (tg iter : Expr) (wi : TI) : Prop :=
  ∀ (pins : List (Addr × Obj)) (s : Shared) (σ : St) (H : Hp) (R : It → Hp → Prop), Inv X pins σ H s → wi σ H R →
    wpAny (model X.prog X.w) X.A (eval iter X.env) (fun v s1 => wpAny (model X.prog X.w) X.A (pyIter v) (PIE X pins σ tg R) X.xe s1) X.xe s
theorem go_of {M : Model} {A : Around} {E : Value → Shared → Prop} {s : Shared} {tg : Expr} {it : Addr} {u : Value} {o : Obj} {n : String} {vs : Array Value} {Q : Unit → Shared → Prop} (ho : s.heap.get? it = some o) (hc : o.cls = .type n) (hd : o.data = .fields vs)
    (hn : ["enumerate", "zip", "dict_itemiterator", "dict_reverseitemiterator", "odict_iterator", "itertools.zip_longest", "itertools.pairwise"].contains n = false) (hQ : Q () s) : wpAny M A (letOwnedTupleGo tg (.ref it) u) Q E s := by
  unfold letOwnedTupleGo
  cases tg <;> first
    | exact wpAny_pure hQ
    | (cases u <;> first
        | exact wpAny_pure hQ
        | (refine wpAny_bind (wpAny_load ho ?_)
           rw [hc, hd]
           show wpAny M A (if (["enumerate", "zip", "dict_itemiterator", "dict_reverseitemiterator", "odict_iterator", "itertools.zip_longest", "itertools.pairwise"].contains n && vs[0]? == some (rawInt _)) = true then _ else _) Q E s
           rw [if_neg (by intro h; rw [hn, Bool.false_and] at h; cases h)]
           exact wpAny_pure hQ))
def Itl (K : PySem.W.Frag) (a : Addr) : It :=
  ⟨fun i H => ∃ xs x, SqL K H a xs ∧ xs[i]? = some x, fun i H x H' => H' = H ∧ ∀ xs, SqL K H a xs → xs[i]? = some x, fun i H => ∃ xs, SqL K H a xs ∧ xs.length ≤ i⟩
def Itr (lo : Int) (n : Nat) : It := ⟨fun i _ => i < n, fun i H x H' => H' = H ∧ x = .int (lo + i), fun i _ => n ≤ i⟩
theorem turn_list {P : Program} {w : World} {K : PySem.W.Frag} {tg : Expr} (a it : Addr) : Turn P w K tg (Itl K a) [it] it (fun i h => h.IsListIter it a i) where
  mem := by simp
  obj := fun i h st b hb => by
    have e : b = it := by simpa using hb
    subst e
    obtain ⟨o, e, c, d⟩ := st
    exact ⟨o, e, fun v z => by rw [d] at z; cases z⟩
  keep := fun i h h' st k => st.at fun o e => k it (by simp) o e
  item := by
    intro X hP hw hK hc i pins s σ H E I hf st hg
    subst hP hw hK
    obtain ⟨xs, x, hq, hx⟩ := hg
    obtain ⟨its, rv, p, hz⟩ := I.list hq
    obtain ⟨u, hu, ru⟩ := rv.get hx
    obtain ⟨f0, f1, f2, f3, f4, f5⟩ := hf it (by simp)
    refine wpAny_pyNext_list_item st p.isList (x := u) (by simpa using hu) fun h' st' sb => ?_
    have I1 : Inv X pins σ H { s with heap := h' } := I.turned (t' := s.toks) (fun b o hb e => (sb.2 b hb).trans e) f0 f1 f3 f4 f5
    obtain ⟨o, e, c, d⟩ := id st'
    exact ⟨u, rfl, go_of (s := { s with heap := h' }) e c d (by decide) ⟨x, H, I1, ru, ⟨rfl, fun ys hy => by rw [I.list_inj hy hq]; exact hx⟩, st', fun b hb => (hf b hb).1⟩⟩
  done := by
    intro X hP hw hK hc i pins s σ H E I hf st hg
    subst hP hw hK
    obtain ⟨xs, hq, hx⟩ := hg
    obtain ⟨its, rv, p, hz⟩ := I.list hq
    obtain ⟨f0, f1, f2, f3, f4, f5⟩ := hf it (by simp)
    have hl := rv.length
    exact wpAny_pyNext_list_end (I.ok.hd hc) st p.isList (by simp; omega) fun h' eb => ⟨rfl, I.turned (t' := s.toks) (fun b o hb e => eb b o hb e) f0 f1 f3 f4 f5⟩
  self := fun _ _ _ _ _ st h => wpAny_pyIter_listiter st h
theorem turn_range {P : Program} {w : World} {K : PySem.W.Frag} {tg : Expr} (it : Addr) (lo : Int) (n : Nat) : Turn P w K tg (Itr lo n) [it] it (fun i h => IsRangeIter h it (lo + (i : Nat) * 1) ((n : Int) - (i : Nat)) 1) where
  mem := by simp
  obj := fun i h st b hb => by
    have e : b = it := by simpa using hb
    subst e
    exact ⟨_, st, fun v z => by
      have z' : Data.fields _ = Data.cell v := z
      cases z'⟩
  keep := fun i h h' st k => k it (by simp) _ st
  item := by
    intro X hP hw hK hc i pins s σ H E I hf st hg
    subst hP hw hK
    obtain ⟨f0, f1, f2, f3, f4, f5⟩ := hf it (by simp)
    have W := Walks.range (prog := X.prog) (w := X.w) (I.ok.hd hc) it lo 1 n
    refine W.item i s _ _ hg st fun v h' tk hv st' kk => ?_
    obtain ⟨t, rfl⟩ := hv
    have I1 : Inv X pins σ H { s with heap := h', toks := tk } := I.turned (fun b o hb e => kk b o (by simpa using hb) e) f0 f1 f3 f4 f5
    refine ⟨_, rfl, go_of (s := { s with heap := h', toks := tk }) (n := "range_iterator") st' rfl rfl (by decide) ⟨.int (lo + i), H, I1, ⟨t, ?_⟩, ⟨rfl, rfl⟩, st', fun b hb => (hf b hb).1⟩⟩
    rw [Int.mul_one]
  done := by
    intro X hP hw hK hc i pins s σ H E I hf st hg
    subst hP hw hK
    obtain ⟨f0, f1, f2, f3, f4, f5⟩ := hf it (by simp)
    exact wpAny_pyNext_range_end (I.ok.hd hc) st (by have : n ≤ i := hg; omega) fun h' eb => ⟨rfl, I.turned (t' := s.toks) (fun b o hb e => eb b o hb e) f0 f1 f3 f4 f5⟩
  self := fun _ _ _ _ _ st h => wpAny_pyIter_rangeiter st h
end L2
namespace L2
open PySem PySem.Spec PyProof.Rows
section
variable {X : Cx} {tg : Expr}
def iList (K : PySem.W.Frag) (tl : TE) : TI := fun σ H R => tl σ H fun x H1 => ∃ a, x = .ref a ∧ (∃ xs, SqL K H1 a xs) ∧ R (Itl K a) H1
theorem pi_list {l : Expr} {tl : TE} (hl : PE X l tl) : PI X tg l (iList X.K tl) := by
  intro pins s σ H R I h
  refine thn (hl pins s σ H _ I h) fun v s1 ⟨x, H1, I1, r1, q1⟩ => ?_
  obtain ⟨a, e, ⟨xs, hq⟩, q⟩ := q1
  subst e
  cases r1
  obtain ⟨its, rv, p, hz⟩ := I1.list hq
  refine wpAny_pyIter_list p.isList ?_
  refine ⟨s1.heap.objs.size, [s1.heap.objs.size], _, _, H1, rfl, I1.kept (t' := s1.toks) fun b o e => Heap.get?_push_of_some _ e, turn_list a _, ⟨_, Heap.get?_push_size _ rfl, rfl, rfl⟩, fun b hb => ?_, q⟩
  have e : b = s1.heap.objs.size := by simpa using hb
  subst e
  exact I1.fpOk (Nat.le_refl _) (I1.hok.fresh (Nat.le_refl _))
theorem range_it {pins : List (Addr × Obj)} {σ : St} {H : Hp} {s : Shared} {R : It → Hp → Prop} {E : Value → Shared → Prop} {lo hi : Int} {t u v : Tok} {tk : Nat} (I : Inv X pins σ H s) (h1 : -(2 ^ 62) ≤ lo) (h2 : lo < 2 ^ 62) (h3 : -(2 ^ 62) ≤ hi) (h4 : hi < 2 ^ 62)
    (q : R (Itr lo (hi - lo).toNat) H) : wpAny (model X.prog X.w) X.A (pyIter (.ref s.heap.objs.size)) (PIE X pins σ tg R) E { s with heap := s.heap.push { cls := .type "range", data := .fields #[.int lo t, .int hi u, .int 1 v] }, toks := tk } := by
  refine wpAny_pyIter_range (IsRange.new ..) (small_one h1 h2 h3 h4) ?_
  have I1 : Inv X pins σ H { s with heap := s.heap.push { cls := .type "range", data := .fields #[.int lo t, .int hi u, .int 1 v] }, toks := tk } := I.kept fun b o e => Heap.get?_push_of_some _ e
  refine ⟨(s.heap.push { cls := .type "range", data := .fields #[.int lo t, .int hi u, .int 1 v] }).objs.size, [(s.heap.push { cls := .type "range", data := .fields #[.int lo t, .int hi u, .int 1 v] }).objs.size], _, _, H, rfl,
    I1.kept (t' := tk) fun b o e => Heap.get?_push_of_some _ e, turn_range _ lo (hi - lo).toNat, ?_, fun b hb => ?_, q⟩
  · have e1 : lo + ((0 : Nat) : Int) * 1 = lo := by simp
    have e2 : (((hi - lo).toNat : Nat) : Int) - ((0 : Nat) : Int) = Builtin.Range.rangeSize lo hi 1 := by rw [rangeSize_one]; split <;> omega
    show IsRangeIter _ _ (lo + ((0 : Nat) : Int) * 1) ((((hi - lo).toNat : Nat) : Int) - ((0 : Nat) : Int)) 1
    rw [e1, e2]
    exact Heap.get?_push_size _ rfl
  · have e : b = (s.heap.push { cls := .type "range", data := .fields #[.int lo t, .int hi u, .int 1 v] }).objs.size := by simpa using hb
    subst e
    exact I1.fpOk (Nat.le_refl _) (I1.hok.fresh (Nat.le_refl _))
def iRng1 (ta : TA) : TI := fun σ H R => ta σ H fun vs H1 => ∃ j : Int, vs = [.int j] ∧ -(2 ^ 62) ≤ j ∧ j < 2 ^ 62 ∧ R (Itr 0 j.toNat) H1
def iRng2 (ta : TA) : TI := fun σ H R => ta σ H fun vs H1 => ∃ i j : Int, vs = [.int i, .int j] ∧ (-(2 ^ 62) ≤ i ∧ i < 2 ^ 62 ∧ -(2 ^ 62) ≤ j ∧ j < 2 ^ 62) ∧ R (Itr i (j - i).toNat) H1
theorem pi_range1 {a : Expr} {ta : TA} {p pos : Pos} (hg : Gl X "range") (hm : X.mg "range" = none) (ha : PA X [a] ta) (hs : starEach [a] X.env = [(false, eval a X.env)] := by rfl) : PI X tg (.Call (.Name "range" p) [a] [] pos) (iRng1 ta) := by
  intro pins s σ H R I h
  refine Call_ (ld_blt I hg hm boot_range (PyProof.Rows.callWith_type1 (thn (ha pos pins s σ H _ I h) fun us s1 ⟨vs, H1, I1, r1, q1⟩ => ?_) hs rfl))
  obtain ⟨j, e, q1, q2, q⟩ := q1
  subst e
  cases r1 with
  | cons r rr =>
    cases rr
    obtain ⟨t, rfl⟩ := r
    exact call_range_1 (range_it I1 (by omega) (by omega) q1 q2 (by simpa using q))
theorem pi_range2 {a b : Expr} {ta : TA} {p pos : Pos} (hg : Gl X "range") (hm : X.mg "range" = none) (ha : PA X [a, b] ta) (hs : starEach [a, b] X.env = [(false, eval a X.env), (false, eval b X.env)] := by rfl) (hs2 : starEach [b] X.env = [(false, eval b X.env)] := by rfl) :
    PI X tg (.Call (.Name "range" p) [a, b] [] pos) (iRng2 ta) := by
  intro pins s σ H R I h
  refine Call_ (ld_blt I hg hm boot_range (PyProof.Rows.callWith_type1 (thn (ha pos pins s σ H _ I h) fun us s1 ⟨vs, H1, I1, r1, q1⟩ => ?_) (by rw [hs, hs2]) (by rw [hs2]; rfl)))
  obtain ⟨i, j, e, ⟨q1, q2, q3, q4⟩, q⟩ := q1
  subst e
  cases r1 with
  | cons r rr =>
    cases rr with
    | cons r' rr =>
      cases rr
      obtain ⟨t, rfl⟩ := r
      obtain ⟨t', rfl⟩ := r'
      exact call_range_2 (range_it I1 q1 q2 q3 q4 q)
def tFor (wi : TI) (g : TG) (tb : TS) : TS := fun D σ H => wi σ H fun J H1 => ∃ W : Nat → Nat → St → Hp → Prop, (∃ m, W 0 m σ H1) ∧ ∀ i m σ H, W i m σ H →
  (J.stop i H ∧ D.nx σ H) ∨ (J.go i H ∧ ∃ N : St → Hp → Prop, (∀ σ' H', N σ' H' → ∃ m', m' < m ∧ W (i + 1) m' σ' H') ∧ ∀ x H', J.yld i H x H' → g x σ H' fun σ2 H2 => tb { D with nx := N, ct := N, bk := D.nx } σ2 H2)
def pinsAt (fp : List Addr) (h : Heap) : List (Addr × Obj) := fp.filterMap fun b => (h.get? b).map fun o => (b, o)
theorem mem_pinsAt {fp : List Addr} {h : Heap} {b : Addr} {o : Obj} (hb : b ∈ fp) (e : h.get? b = some o) : (b, o) ∈ pinsAt fp h := List.mem_filterMap.mpr ⟨b, hb, by rw [e]; rfl⟩
theorem of_pinsAt {fp : List Addr} {h : Heap} {p : Addr × Obj} (hp : p ∈ pinsAt fp h) : p.1 ∈ fp ∧ h.get? p.1 = some p.2 := by
  obtain ⟨b, hb, e⟩ := List.mem_filterMap.mp hp
  cases q : h.get? b with
  | none => rw [q] at e; cases e
  | some o =>
    rw [q] at e
    have e' : (b, o) = p := Option.some.inj e
    subst e'
    exact ⟨hb, q⟩
theorem Inv.pinned {pins : List (Addr × Obj)} {σ : St} {H : Hp} {s : Shared} {fp : List Addr} (I : Inv X pins σ H s) (hf : ∀ b ∈ fp, FpOk X pins H b) (ho : ∀ b ∈ fp, ∃ o, s.heap.get? b = some o ∧ ∀ v, o.data ≠ .cell v) : Inv X (pins ++ pinsAt fp s.heap) σ H s :=
  I.pins_of fun p hp => (List.mem_append.mp hp).elim (fun z => I.pin p (List.mem_append_right _ z)) fun z => by
    obtain ⟨hb, e⟩ := of_pinsAt z
    obtain ⟨f0, f1, f2, _⟩ := hf p.1 hb
    obtain ⟨o, e', d⟩ := ho p.1 hb
    rw [e] at e'; cases e'
    exact ⟨e, f0, f1, f2, d⟩
theorem Inv.unpinned {pins pl : List (Addr × Obj)} {σ : St} {H : Hp} {s : Shared} (I : Inv X (pins ++ pl) σ H s) : Inv X pins σ H s := I.pins_of fun p hp => I.pin p (List.mem_append_right _ (List.mem_append_left _ hp))
theorem ps_for {iter : Expr} {body : List Stmt} {wi : TI} {g : TG} {tb : TS} {pos : Pos} (hp : PassesOwn (model X.prog X.w) X.A X.env X.xe) (hc : X.calm = true) (hi : PI X tg iter wi) (hg : PG X tg g) (hb : PSs X body tb)
    (hs : ∀ x, foldedSetIterable iter X.env x = pure x := by intro _; rfl) : PS X (.For tg iter body [] pos) (tFor wi g tb) := by
  intro pins s σ H D I h
  refine wpAny_For (thn (hi pins s σ H _ I h) fun v s1 h1 => thn h1 fun itv s2 h2 => ?_) hs
  obtain ⟨it, fp, tn, J, H2, e, I2, T, st2, f2, W, ⟨m0, w0⟩, turn⟩ := h2
  subst e
  have stat : ∀ {H' : Hp}, (∀ b ∈ fp, H' b = none) → ∀ b ∈ fp, FpOk X pins H' b := fun hn b hb => ⟨hn b hb, (f2 b hb).2⟩
  refine codeAny_forLoop_any (fun n s' => ∃ i σ' H', Inv X pins σ' H' s' ∧ tn i s'.heap ∧ (∀ b ∈ fp, H' b = none) ∧ W i n σ' H') ?_ m0 ⟨0, σ, H2, I2, st2, fun b hb => (f2 b hb).1, w0⟩
  rintro n s3 ⟨i, σ3, H3, I3, st3, fr3, w3⟩
  rcases turn i n σ3 H3 w3 with ⟨stop, qn⟩ | ⟨go, N, hN, step⟩
  · refine wpAny_passesOwn hp (thn (T.done X rfl rfl rfl hc i pins s3 σ3 H3 X.xe I3 (stat fr3) st3 stop) fun r s4 ⟨hr, I4⟩ => ?_)
    subst hr
    exact wpAny_execs_nil ⟨σ3, H3, I4, qn⟩
  · refine wpAny_passesOwn hp (thn (T.item X rfl rfl rfl hc i pins s3 σ3 H3 X.xe I3 (stat fr3) st3 go) fun r s4 ⟨u, hr, h4⟩ => ?_)
    subst hr
    refine wpAny_passesOwn hp (thn h4 fun _ s5 ⟨x, H5, I5, r5, y5, st5, fr5⟩ => ?_)
    have I5' := I5.pinned (stat fr5) (T.obj _ _ st5)
    refine wpAny_passesOwn hp (thn (hg _ s5 σ3 H5 x u _ I5' r5 (step x H5 y5)) fun _ s6 ⟨σ6, H6, I6, q6⟩ => ?_)
    refine wpAny_passesOwn hp (thn (hb _ s6 σ6 H6 _ I6 q6) fun f s7 q7 => ?_)
    have again : ∀ {σ7 : St} {H7 : Hp}, Inv X (pins ++ pinsAt fp s5.heap) σ7 H7 s7 → N σ7 H7 → ∃ m, m < n ∧ ∃ i σ' H', Inv X pins σ' H' s7 ∧ tn i s7.heap ∧ (∀ b ∈ fp, H' b = none) ∧ W i m σ' H' := fun {σ7 H7} I7 n7 => by
      obtain ⟨m', hm, w7⟩ := hN σ7 H7 n7
      refine ⟨m', hm, i + 1, σ7, H7, I7.unpinned, T.keep _ _ _ st5 fun b hb o e => (I7.pin (b, o) (List.mem_append_right _ (List.mem_append_right _ (mem_pinsAt hb e)))).1, fun b hb => ?_, w7⟩
      obtain ⟨o, e, d⟩ := T.obj _ _ st5 b hb
      exact (I7.pin (b, o) (List.mem_append_right _ (List.mem_append_right _ (mem_pinsAt hb e)))).2.1
    cases f with
    | next => obtain ⟨σ7, H7, I7, n7⟩ := q7; exact again I7 n7
    | cont => obtain ⟨σ7, H7, I7, n7⟩ := q7; exact again I7 n7
    | brk => obtain ⟨σ7, H7, I7, q7⟩ := q7; exact ⟨σ7, H7, I7.unpinned, q7⟩
    | ret v => obtain ⟨x7, σ7, H7, I7, r7, q7⟩ := q7; exact ⟨x7, σ7, H7, I7.unpinned, r7, q7⟩
end
theorem for_list {K : PySem.W.Frag} {a : Addr} {xs : List V} {g : TG} {tb : TS} {D : Ends} {σ : St} {H : Hp} (Pv : Nat → St → Hp → Prop) (h0 : Pv 0 σ H) (hl : ∀ i σ H, i ≤ xs.length → Pv i σ H → SqL K H a xs)
    (hs : ∀ i x σ H, xs[i]? = some x → Pv i σ H → g x σ H fun σ2 H2 => tb { D with nx := Pv (i + 1), ct := Pv (i + 1), bk := D.nx } σ2 H2) (hd : ∀ σ H, Pv xs.length σ H → D.nx σ H) :
    ∃ W : Nat → Nat → St → Hp → Prop, (∃ m, W 0 m σ H) ∧ ∀ i m σ H, W i m σ H →
      ((Itl K a).stop i H ∧ D.nx σ H) ∨ ((Itl K a).go i H ∧ ∃ N : St → Hp → Prop, (∀ σ' H', N σ' H' → ∃ m', m' < m ∧ W (i + 1) m' σ' H') ∧ ∀ x H', (Itl K a).yld i H x H' → g x σ H' fun σ2 H2 => tb { D with nx := N, ct := N, bk := D.nx } σ2 H2) := by
  refine ⟨fun i m σ H => m = xs.length - i ∧ i ≤ xs.length ∧ Pv i σ H, ⟨xs.length, by simp, Nat.zero_le _, h0⟩, ?_⟩
  rintro i m σ H ⟨rfl, hi, p⟩
  have q := hl i σ H hi p
  by_cases hlt : i < xs.length
  · refine .inr ⟨⟨xs, xs[i], q, by simp [hlt]⟩, Pv (i + 1), fun σ' H' p' => ⟨xs.length - (i + 1), by omega, rfl, hlt, p'⟩, fun x H' y => ?_⟩
    obtain ⟨e, y⟩ := y
    subst e
    exact hs i x σ _ (y xs q) p
  · have e : i = xs.length := by omega
    subst e
    exact .inl ⟨⟨xs, q, Nat.le_refl _⟩, hd σ H p⟩
theorem for_range {lo : Int} {n : Nat} {g : TG} {tb : TS} {D : Ends} {σ : St} {H : Hp} (Pv : Nat → St → Hp → Prop) (h0 : Pv 0 σ H)
    (hs : ∀ i σ H, i < n → Pv i σ H → g (.int (lo + i)) σ H fun σ2 H2 => tb { D with nx := Pv (i + 1), ct := Pv (i + 1), bk := D.nx } σ2 H2) (hd : ∀ σ H, Pv n σ H → D.nx σ H) :
    ∃ W : Nat → Nat → St → Hp → Prop, (∃ m, W 0 m σ H) ∧ ∀ i m σ H, W i m σ H →
      ((Itr lo n).stop i H ∧ D.nx σ H) ∨ ((Itr lo n).go i H ∧ ∃ N : St → Hp → Prop, (∀ σ' H', N σ' H' → ∃ m', m' < m ∧ W (i + 1) m' σ' H') ∧ ∀ x H', (Itr lo n).yld i H x H' → g x σ H' fun σ2 H2 => tb { D with nx := N, ct := N, bk := D.nx } σ2 H2) := by
  refine ⟨fun i m σ H => m = n - i ∧ i ≤ n ∧ Pv i σ H, ⟨n, by simp, Nat.zero_le _, h0⟩, ?_⟩
  rintro i m σ H ⟨rfl, hi, p⟩
  by_cases hlt : i < n
  · refine .inr ⟨hlt, Pv (i + 1), fun σ' H' p' => ⟨n - (i + 1), by omega, rfl, hlt, p'⟩, fun x H' y => ?_⟩
    obtain ⟨e, y⟩ := y
    subst e y
    exact hs i σ _ hlt p
  · have e : i = n := by omega
    subst e
    exact .inl ⟨Nat.le_refl _, hd σ H p⟩
end L2
namespace L2
open PySem PySem.Spec PyProof.Rows
abbrev R2 := V → V → Hp → VK → Prop
def OpR (X : Cx) (f : Value → Value → Sem Value) (r : R2) : Prop :=
  ∀ (pins : List (Addr × Obj)) (s : Shared) (σ : St) (H : Hp) (x y : V) (v u : Value) (Q : VK), Inv X pins σ H s → RelV x v → RelV y u → r x y H Q →
    wpAny (model X.prog X.w) X.A (f v u) (EP X pins σ Q) X.xe s
def UnR (X : Cx) (f : Value → Sem Value) (r : V → Hp → VK → Prop) : Prop :=
  ∀ (pins : List (Addr × Obj)) (s : Shared) (σ : St) (H : Hp) (x : V) (v : Value) (Q : VK), Inv X pins σ H s → RelV x v → r x H Q →
    wpAny (model X.prog X.w) X.A (f v) (EP X pins σ Q) X.xe s
def CallR (X : Cx) (f : Value) (r : List V → Hp → VK → Prop) : Prop :=
  ∀ (pins : List (Addr × Obj)) (s : Shared) (σ : St) (H : Hp) (xs : List V) (us : List Value) (Q : VK), Inv X pins σ H s → Vals xs us → r xs H Q →
    wpAny (model X.prog X.w) X.A (call f us) (EP X pins σ Q) X.xe s
def tOp (r : R2) (ta tb : TE) : TE := fun σ H Q => ta σ H fun x H1 => tb σ H1 fun y H2 => r x y H2 Q
def tUn (r : V → Hp → VK → Prop) (ta : TE) : TE := fun σ H Q => ta σ H fun x H1 => r x H1 Q
def rI (C : Int → Int → Prop) (g : Int → Int → V) : R2 := fun x y H Q => ∃ i j, x = .int i ∧ y = .int j ∧ C i j ∧ Q (g i j) H
def rI0 (g : Int → Int → V) : R2 := fun x y H Q => ∃ i j, x = .int i ∧ y = .int j ∧ Q (g i j) H
def rU (g : Int → V) : V → Hp → VK → Prop := fun x H Q => ∃ i, x = .int i ∧ Q (g i) H
section
variable {X : Cx} {a b c : Expr} {ta tb tc : TE} {pos : Pos}
theorem binT (ha : PE X a ta) (hb : PE X b tb) {pins : List (Addr × Obj)} {s : Shared} {σ : St} {H : Hp} {R : V → V → Hp → Prop} (I : Inv X pins σ H s)
    (h : ta σ H fun x H1 => tb σ H1 fun y H2 => R x y H2) {Q : Value → Shared → Prop} {f : Value → Value → Sem Value}
    (hf : ∀ v u s2 x y H2, Inv X pins σ H2 s2 → RelV x v → RelV y u → R x y H2 → wpAny (model X.prog X.w) X.A (f v u) Q X.xe s2) :
    wpAny (model X.prog X.w) X.A (eval a X.env) (fun v s₁ => wpAny (model X.prog X.w) X.A (eval b X.env) (fun u s₂ => wpAny (model X.prog X.w) X.A (f v u) Q X.xe s₂) X.xe s₁) X.xe s := by
  refine thn (ha pins s σ H _ I h) fun v s1 ⟨x, H1, I1, r1, q1⟩ => ?_
  refine thn (hb pins s1 σ H1 _ I1 q1) fun u s2 ⟨y, H2, I2, r2, q2⟩ => ?_
  exact hf v u s2 x y H2 I2 r1 r2 q2
theorem pe_op {op : Operator} {r : R2} (ho : OpR X (binaryOp op) r) (ha : PE X a ta) (hb : PE X b tb) : PE X (.BinOp a op b pos) (tOp r ta tb) := by
  intro pins s σ H Q I h
  exact wpAny_BinOp (binT ha hb I h fun v u s2 x y H2 I2 rx ry q => ho pins s2 σ H2 x y v u Q I2 rx ry q)
theorem pe_un {op : UnaryOp} {r : V → Hp → VK → Prop} (ho : UnR X (unaryOp op) r) (ha : PE X a ta) : PE X (.UnaryOp op a pos) (tUn r ta) := by
  intro pins s σ H Q I h
  exact UnaryOp_ (thn (ha pins s σ H _ I h) fun v s1 ⟨x, H1, I1, r1, q1⟩ => ho pins s1 σ H1 x v Q I1 r1 q1)
theorem opI {f : Value → Value → Sem Value} {C : Int → Int → Prop} {g : Int → Int → Int}
    (rule : ∀ (i j : Int) (t u : Tok) (s : Shared) (Q : Value → Shared → Prop) (E : Value → Shared → Prop), C i j → Q (.int (g i j) s.toks) { s with toks := s.toks + 1 } → wpAny (model X.prog X.w) X.A (f (.int i t) (.int j u)) Q E s) :
    OpR X f (rI C fun i j => .int (g i j)) := by
  intro pins s σ H x y v u Q I rx ry h
  obtain ⟨i, j, rfl, rfl, hc, q⟩ := h
  obtain ⟨t, rfl⟩ := rx
  obtain ⟨t', rfl⟩ := ry
  exact rule i j t t' s _ _ hc ⟨.int (g i j), H, I.tok _, ⟨_, rfl⟩, q⟩
theorem opI0 {f : Value → Value → Sem Value} {g : Int → Int → Int}
    (rule : ∀ (i j : Int) (t u : Tok) (s : Shared) (Q : Value → Shared → Prop) (E : Value → Shared → Prop), Q (.int (g i j) s.toks) { s with toks := s.toks + 1 } → wpAny (model X.prog X.w) X.A (f (.int i t) (.int j u)) Q E s) :
    OpR X f (rI0 fun i j => .int (g i j)) := by
  intro pins s σ H x y v u Q I rx ry h
  obtain ⟨i, j, rfl, rfl, q⟩ := h
  obtain ⟨t, rfl⟩ := rx
  obtain ⟨t', rfl⟩ := ry
  exact rule i j t t' s _ _ ⟨.int (g i j), H, I.tok _, ⟨_, rfl⟩, q⟩
theorem opB0 {f : Value → Value → Sem Value} {g : Int → Int → Bool}
    (rule : ∀ (i j : Int) (t u : Tok) (s : Shared) (Q : Value → Shared → Prop) (E : Value → Shared → Prop), Q (.bool (g i j)) s → wpAny (model X.prog X.w) X.A (f (.int i t) (.int j u)) Q E s) :
    OpR X f (rI0 fun i j => .bl (g i j)) := by
  intro pins s σ H x y v u Q I rx ry h
  obtain ⟨i, j, rfl, rfl, q⟩ := h
  obtain ⟨t, rfl⟩ := rx
  obtain ⟨t', rfl⟩ := ry
  exact rule i j t t' s _ _ ⟨.bl (g i j), H, I, rfl, q⟩
def CDiv (i j : Int) : Prop := 0 < j ∧ j < 1073741824
def CPow (i j : Int) : Prop := 0 ≤ j ∧ j ≤ 1000000 ∧ i.natAbs < 2 ^ 64
def CMul (i j : Int) : Prop := (-(2 ^ 64) < i ∧ i < 2 ^ 64) ∨ (-(2 ^ 64) < j ∧ j < 2 ^ 64)
theorem CMul.ok {i j : Int} (h : CMul i j) : IntMulOk i j := by
  rcases h with ⟨h1, h2⟩ | ⟨h1, h2⟩
  · exact .of_left (intBits_le_64 h1 h2)
  · exact .of_right (intBits_le_64 h1 h2)
theorem op_add : OpR X (binaryOp .Add) (rI0 fun i j => .int (i + j)) := opI0 fun _ _ _ _ _ _ _ q => add_int q
theorem op_sub : OpR X (binaryOp .Sub) (rI0 fun i j => .int (i - j)) := opI0 fun _ _ _ _ _ _ _ q => sub_int q
theorem op_mul : OpR X (binaryOp .Mult) (rI CMul fun i j => .int (i * j)) := opI fun _ _ _ _ _ _ _ hc q => mul_int q hc.ok
theorem op_fdiv : OpR X (binaryOp .FloorDiv) (rI CDiv fun i j => .int (i / j)) := opI fun i j _ _ _ _ _ hc q => by
  have h1 : (0 : Int) < j := hc.1
  have h2 : j < 1073741824 := hc.2
  exact floordiv_int (by omega) (by rw [Int.fdiv_eq_ediv_of_nonneg i (by omega)]; exact q) (.inl (PyProof.noPylong_small (by omega)))
theorem op_mod : OpR X (binaryOp .Mod) (rI (fun _ j => 0 < j) fun i j => .int (i % j)) := opI fun i j _ _ _ _ _ hc q => by
  have h1 : (0 : Int) < j := hc
  exact mod_int' (by omega) (by rw [Int.fmod_eq_emod_of_nonneg i (by omega)]; exact q)
theorem op_pow : OpR X (binaryOp .Pow) (rI CPow fun i j => .int (i ^ j.toNat)) := opI fun _ _ _ _ _ _ _ hc q => pow_int_small hc.1 hc.2.1 hc.2.2 q
theorem unI {f : Value → Sem Value} {g : Int → Int}
    (rule : ∀ (i : Int) (t : Tok) (s : Shared) (Q : Value → Shared → Prop) (E : Value → Shared → Prop), Q (.int (g i) s.toks) { s with toks := s.toks + 1 } → wpAny (model X.prog X.w) X.A (f (.int i t)) Q E s) :
    UnR X f (rU fun i => .int (g i)) := by
  intro pins s σ H x v Q I rx h
  obtain ⟨i, rfl, q⟩ := h
  obtain ⟨t, rfl⟩ := rx
  exact rule i t s _ _ ⟨.int (g i), H, I.tok _, ⟨_, rfl⟩, q⟩
theorem un_neg : UnR X (unaryOp .USub) (rU fun i => .int (-i)) := unI fun _ _ _ _ _ q => neg_int q
end
def scal : V → V → Bool
  | .non, .non => true | .non, .int _ => true | .int _, .non => true | .non, .bl _ => true | .bl _, .non => true | .non, .str _ => true | .str _, .non => true
  | .int _, .int _ => true | .bl _, .bl _ => true | .str _, .str _ => true | .byt _, .byt _ => true
  | .int _, .str _ => true | .str _, .int _ => true | .bl _, .str _ => true | .str _, .bl _ => true
  | _, _ => false
def rEq : R2 := fun x y H Q => scal x y = true ∧ Q (.bl (decide (x = y))) H
def rNe : R2 := fun x y H Q => scal x y = true ∧ Q (.bl (!decide (x = y))) H
theorem dec_int {i j : Int} : decide (V.int i = V.int j) = (i == j) := by
  rw [Bool.eq_iff_iff]
  simp
theorem dec_bl {i j : Bool} : decide (V.bl i = V.bl j) = (i == j) := by
  rw [Bool.eq_iff_iff]
  simp
theorem dec_str {i j : Str} : decide (V.str i = V.str j) = (i == j) := by
  rw [Bool.eq_iff_iff]
  simp
theorem dec_byt {i j : Array UInt8} : decide (V.byt i = V.byt j) = (i.toList == j.toList) := by
  rw [Bool.eq_iff_iff]
  cases i
  cases j
  simp
section
variable {X : Cx} {a b c : Expr} {ta tb tc : TE} {pos : Pos}
theorem fin_bl {pins : List (Addr × Obj)} {σ : St} {H : Hp} {s : Shared} {Q : VK} {k k' : Bool} (I : Inv X pins σ H s) (q : Q (.bl k) H) (e : k = k') : EP X pins σ Q (.bool k') s := by
  subst e
  exact ⟨.bl k, H, I, rfl, q⟩
theorem op_eq : OpR X (compareOp .Eq) rEq := by
  intro pins s σ H x y v u Q I rx ry h
  obtain ⟨hs, q⟩ := h
  cases x with
  | non =>
    cases rx
    cases y with
    | non => cases ry; exact PySem.EqNone.eq_none_none (fin_bl I q (by simp))
    | bl j => cases ry; exact PySem.EqNone.eq_none_bool (fin_bl I q (by simp))
    | int j => obtain ⟨t', rfl⟩ := ry; exact PySem.EqNone.eq_none_int (fin_bl I q (by simp))
    | str j => obtain ⟨t', rfl⟩ := ry; exact PySem.EqNone.eq_none_str (fin_bl I q (by simp))
    | _ => exact absurd (show false = true from hs) Bool.false_ne_true
  | bl i =>
    cases rx
    cases y with
    | non => cases ry; exact PySem.EqNone.eq_bool_none (fin_bl I q (by simp))
    | bl j => cases ry; exact eq_bool (fin_bl I q dec_bl)
    | str j => obtain ⟨t', rfl⟩ := ry; exact PySem.EqMixed.eq_bool_str (fin_bl I q (by simp))
    | _ => exact absurd (show false = true from hs) Bool.false_ne_true
  | int i =>
    obtain ⟨t, rfl⟩ := rx
    cases y with
    | non => cases ry; exact PySem.EqNone.eq_int_none (fin_bl I q (by simp))
    | int j => obtain ⟨t', rfl⟩ := ry; exact eq_int (fin_bl I q dec_int)
    | str j => obtain ⟨t', rfl⟩ := ry; exact PySem.EqMixed.eq_int_str (fin_bl I q (by simp))
    | _ => exact absurd (show false = true from hs) Bool.false_ne_true
  | str i =>
    obtain ⟨t, rfl⟩ := rx
    cases y with
    | non => cases ry; exact PySem.EqNone.eq_str_none (fin_bl I q (by simp))
    | bl j => cases ry; exact PySem.EqMixed.eq_str_bool (fin_bl I q (by simp))
    | int j => obtain ⟨t', rfl⟩ := ry; exact PySem.EqMixed.eq_str_int (fin_bl I q (by simp))
    | str j => obtain ⟨t', rfl⟩ := ry; exact eq_str (fin_bl I q dec_str)
    | _ => exact absurd (show false = true from hs) Bool.false_ne_true
  | byt i =>
    obtain ⟨t, rfl⟩ := rx
    cases y with
    | byt j => obtain ⟨t', rfl⟩ := ry; exact PySem.W.eq_bytes (fin_bl I q dec_byt)
    | _ => exact absurd (show false = true from hs) Bool.false_ne_true
  | _ => cases y <;> exact absurd (show false = true from hs) Bool.false_ne_true
theorem op_ne : OpR X (compareOp .NotEq) rNe := by
  intro pins s σ H x y v u Q I rx ry h
  obtain ⟨hs, q⟩ := h
  cases x with
  | non =>
    cases rx
    cases y with
    | non => cases ry; exact PySem.EqNone.ne_none_none (fin_bl I q (by simp))
    | bl j => cases ry; exact PySem.EqNone.ne_none_bool (fin_bl I q (by simp))
    | int j => obtain ⟨t', rfl⟩ := ry; exact PySem.EqNone.ne_none_int (fin_bl I q (by simp))
    | str j => obtain ⟨t', rfl⟩ := ry; exact PySem.EqNone.ne_none_str (fin_bl I q (by simp))
    | _ => exact absurd (show false = true from hs) Bool.false_ne_true
  | bl i =>
    cases rx
    cases y with
    | non => cases ry; exact PySem.EqNone.ne_bool_none (fin_bl I q (by simp))
    | bl j => cases ry; exact ne_bool (fin_bl I q (congrArg not dec_bl))
    | str j => obtain ⟨t', rfl⟩ := ry; exact PySem.EqMixed.ne_bool_str (fin_bl I q (by simp))
    | _ => exact absurd (show false = true from hs) Bool.false_ne_true
  | int i =>
    obtain ⟨t, rfl⟩ := rx
    cases y with
    | non => cases ry; exact PySem.EqNone.ne_int_none (fin_bl I q (by simp))
    | int j => obtain ⟨t', rfl⟩ := ry; exact ne_int (fin_bl I q (congrArg not dec_int))
    | str j => obtain ⟨t', rfl⟩ := ry; exact PySem.EqMixed.ne_int_str (fin_bl I q (by simp))
    | _ => exact absurd (show false = true from hs) Bool.false_ne_true
  | str i =>
    obtain ⟨t, rfl⟩ := rx
    cases y with
    | non => cases ry; exact PySem.EqNone.ne_str_none (fin_bl I q (by simp))
    | bl j => cases ry; exact PySem.EqMixed.ne_str_bool (fin_bl I q (by simp))
    | int j => obtain ⟨t', rfl⟩ := ry; exact PySem.EqMixed.ne_str_int (fin_bl I q (by simp))
    | str j => obtain ⟨t', rfl⟩ := ry; exact ne_str (fin_bl I q (congrArg not dec_str))
    | _ => exact absurd (show false = true from hs) Bool.false_ne_true
  | byt i =>
    obtain ⟨t, rfl⟩ := rx
    cases y with
    | byt j => obtain ⟨t', rfl⟩ := ry; exact PySem.W.ne_bytes (fin_bl I q (congrArg not dec_byt))
    | _ => exact absurd (show false = true from hs) Bool.false_ne_true
  | _ => cases y <;> exact absurd (show false = true from hs) Bool.false_ne_true
theorem op_lt : OpR X (compareOp .Lt) (rI0 fun i j => .bl (decide (i < j))) := opB0 fun _ _ _ _ _ _ _ q => lt_int q
theorem op_le : OpR X (compareOp .LtE) (rI0 fun i j => .bl (decide (i ≤ j))) := opB0 fun _ _ _ _ _ _ _ q => le_int q
theorem op_gt : OpR X (compareOp .Gt) (rI0 fun i j => .bl (decide (j < i))) := opB0 fun _ _ _ _ _ _ _ q => gt_int q
theorem op_ge : OpR X (compareOp .GtE) (rI0 fun i j => .bl (decide (j ≤ i))) := opB0 fun _ _ _ _ _ _ _ q => ge_int q
theorem op_isN : OpR X (compareOp .Is) (fun x y H Q => y = .non ∧ Q (.bl (decide (x = .non))) H) := by
  intro pins s σ H x y v u Q I rx ry h
  obtain ⟨rfl, q⟩ := h
  cases ry
  refine is_none_gen (fin_bl I q ?_)
  cases x <;> first
    | (cases rx; rfl)
    | (obtain ⟨t, rfl⟩ := rx; rfl)
theorem op_notN : OpR X (compareOp .IsNot) (fun x y H Q => y = .non ∧ Q (.bl (!decide (x = .non))) H) := by
  intro pins s σ H x y v u Q I rx ry h
  obtain ⟨rfl, q⟩ := h
  cases ry
  refine isnot_none_gen (fin_bl I q ?_)
  cases x <;> first
    | (cases rx; rfl)
    | (obtain ⟨t, rfl⟩ := rx; rfl)
theorem OpR.or {f : Value → Value → Sem Value} {r r' : R2} (h : OpR X f r) (h' : OpR X f r') : OpR X f (fun x y H Q => r x y H Q ∨ r' x y H Q) := by
  intro pins s σ H x y v u Q I rx ry q
  rcases q with q | q
  · exact h pins s σ H x y v u Q I rx ry q
  · exact h' pins s σ H x y v u Q I rx ry q
theorem nomark (b : Expr) {op : CmpOp} (h : op ≠ .In := by decide) (h2 : op ≠ .NotIn := by decide) : behindInMarks op b = false := by
  have e1 : (op == CmpOp.In) = false := by cases op <;> first | rfl | exact absurd rfl h
  have e2 : (op == CmpOp.NotIn) = false := by cases op <;> first | rfl | exact absurd rfl h2
  cases b <;> simp [behindInMarks, e1, e2]
theorem pe_cmpR {op : CmpOp} {r : R2} (ho : OpR X (compareOp op) r) (ha : PE X a ta) (hb : PE X b tb) (hm : behindInMarks op b = false) : PE X (.Compare a [op] [b] pos) (tOp r ta tb) := by
  intro pins s σ H Q I h
  exact wpAny_Compare1 (binT ha hb I h fun v u s2 x y H2 I2 rx ry q => ho pins s2 σ H2 x y v u Q I2 rx ry q) hm
def tTest (t : TE) : TT := fun σ H Q => t σ H fun x H' => ∃ k, x = .bl k ∧ Q k H'
theorem pt_cmpR {op : CmpOp} {r : R2} (ho : OpR X (compareOp op) r) (ha : PE X a ta) (hb : PE X b tb) (hm : behindInMarks op b = false) : PT X (.Compare a [op] [b] pos) (tTest (tOp r ta tb)) := by
  intro pins s σ H Q I h
  refine wpAny_isTrue_Compare1 (thn (ha pins s σ H _ I h) fun v s1 ⟨x, H1, I1, r1, q1⟩ => thn (hb pins s1 σ H1 _ I1 q1) fun u s2 ⟨y, H2, I2, r2, q2⟩ =>
    thn (ho pins s2 σ H2 x y v u _ I2 r1 r2 q2) fun c s3 ⟨z, H3, I3, r3, k, e, q3⟩ => ?_) hm
  subst e
  cases r3
  exact wpAny_truthy_bool ⟨H3, I3, q3⟩
def tChain (r r' : R2) (ta tb tc : TE) : TE := fun σ H Q => ta σ H fun x H1 => tb σ H1 fun y H2 => r x y H2 fun z H3 => ∃ k, z = .bl k ∧
  (if k = true then tc σ H3 fun w' H4 => r' y w' H4 Q else Q (.bl false) H3)
theorem pt_chain {op op' : CmpOp} {r r' : R2} (ho : OpR X (compareOp op) r) (ho' : OpR X (compareOp op') r') (ha : PE X a ta) (hb : PE X b tb) (hc : PE X c tc)
    (hm : lastMarks [op, op'] [b, c] = false := by with_unfolding_all rfl) : PT X (.Compare a [op, op'] [b, c] pos) (tTest (tChain r r' ta tb tc)) := by
  intro pins s σ H Q I h
  refine isTrue_chain (thn (ha pins s σ H _ I h) fun v s1 ⟨x, H1, I1, r1, q1⟩ => test_link (thn (hb pins s1 σ H1 _ I1 q1) fun u s2 ⟨y, H2, I2, r2, q2⟩ =>
    thn (ho pins s2 σ H2 x y v u _ I2 r1 r2 q2) fun d s3 ⟨z, H3, I3, r3, k, e, q3⟩ => ?_)) hm
  subst e
  cases r3
  refine wpAny_truthy_bool ?_
  cases k with
  | false =>
    obtain ⟨k', e', q'⟩ := q3
    cases e'
    exact ite_ff ⟨H3, I3, q'⟩
  | true =>
    refine ite_tt (test_last (thn (hc pins s3 σ H3 _ I3 q3) fun w' s4 ⟨z', H4, I4, r4, q4⟩ => thn (ho' pins s4 σ H4 y z' u w' _ I4 r2 r4 q4) fun d' s5 ⟨z2, H5, I5, r5, k2, e2, q5⟩ => ?_))
    subst e2
    cases r5
    exact wpAny_truthy_bool ⟨H5, I5, q5⟩
theorem line63 : (sizeLine : Nat) < 2 ^ 63 := by rw [sizeLine_eq]; decide
theorem op_add_str : OpR X (binaryOp .Add) (fun x y H Q => ∃ i j, x = .str i ∧ y = .str j ∧ i.length + j.length ≤ sizeLine ∧ Q (.str (i ++ j)) H) := by
  intro pins s σ H x y v u Q I rx ry h
  obtain ⟨i, j, rfl, rfl, hz, q⟩ := h
  obtain ⟨t, rfl⟩ := rx
  obtain ⟨t', rfl⟩ := ry
  exact add_str (fun t' tk => ⟨.str (i ++ j), H, I.tok _, ⟨_, rfl⟩, q⟩) hz
theorem vals1 {x : V} {us : List Value} (r : Vals [x] us) : ∃ u, us = [u] ∧ RelV x u := by
  cases r with
  | cons r1 r2 => cases r2; exact ⟨_, rfl, r1⟩
theorem vals2 {x y : V} {us : List Value} (r : Vals [x, y] us) : ∃ u w', us = [u, w'] ∧ RelV x u ∧ RelV y w' := by
  cases r with
  | cons r1 r2 =>
    cases r2 with
    | cons r3 r4 => cases r4; exact ⟨_, _, rfl, r1, r3⟩
def LenV (K : PySem.W.Frag) (x : V) (H : Hp) (n : Nat) : Prop :=
  match x with
  | .str y => y.length ≤ sizeLine ∧ n = y.length
  | .byt y => y.size ≤ sizeLine ∧ n = y.size
  | .ref p => (∃ xs, SqL K H p xs ∧ n = xs.length) ∨ ∃ xs, SqT K H p xs ∧ n = xs.length
  | _ => False
theorem call_len : CallR X (.builtin "len") (fun xs H Q => ∃ x n, xs = [x] ∧ LenV X.K x H n ∧ Q (.int n) H) := by
  intro pins s σ H xs us Q I r h
  obtain ⟨x, n, rfl, e, q⟩ := h
  obtain ⟨u, rfl, rx⟩ := vals1 r
  have hl := line63
  have hs : sizeLine = 16777216 := sizeLine_eq
  cases x with
  | str y =>
    obtain ⟨t, rfl⟩ := rx
    obtain ⟨hy, e'⟩ : y.length ≤ sizeLine ∧ n = y.length := e
    subst e'
    exact len_str (by omega) ⟨.int _, H, I.tok _, ⟨_, rfl⟩, q⟩
  | byt y =>
    obtain ⟨t, rfl⟩ := rx
    obtain ⟨hy, e'⟩ : y.size ≤ sizeLine ∧ n = y.size := e
    subst e'
    exact PySem.W.len_bytes (by omega) ⟨.int _, H, I.tok _, ⟨_, rfl⟩, q⟩
  | ref p =>
    cases rx
    have e' : (∃ xs, SqL X.K H p xs ∧ n = xs.length) ∨ ∃ xs, SqT X.K H p xs ∧ n = xs.length := e
    rcases e' with ⟨xs, hx, e'⟩ | ⟨xs, hx, e'⟩
    · subst e'
      obtain ⟨its, r', pl, hz⟩ := I.list hx
      have hlen := r'.length
      exact Calls.call_len_list pl.isList (by simp only [List.size_toArray]; omega) ⟨.int xs.length, H, I.tok _, ⟨_, by simp only [List.size_toArray]; rw [hlen]⟩, q⟩
    · subst e'
      obtain ⟨its, r', pl, hz⟩ := I.tuple hx
      have hlen := r'.length
      exact len_tuple pl (by simp only [List.size_toArray]; omega) ⟨.int xs.length, H, I.tok _, ⟨_, by simp only [List.size_toArray]; rw [hlen]⟩, q⟩
  | _ => exact (show False from e).elim
end
end L2
namespace L2
open PySem PySem.Spec PyProof.Rows
structure ObjM (h : Heap) (x dx C : Addr) (mA : Str → Option Value) : Prop where
  obj : h.get? x = some (PySem.W.instObj C dx)
  ns : h.Ns1 dx mA
  ne : dx ≠ x
theorem lookIn_ns {h : Heap} {dx : Addr} {mA : Str → Option Value} (n : h.Ns1 dx mA) : ∃ od, h.get? dx = some od ∧ ∀ name, PySem.W.lookIn name od = some (mA name) := by
  obtain ⟨o, es, ep, ho, hd, hk, _, hm⟩ := n
  refine ⟨o, ho, fun name => ?_⟩
  have e := hm name
  unfold nsFind findBy at e
  rw [← Array.find?_toList] at e
  unfold PySem.W.lookIn
  rw [hd]
  dsimp only
  split
  · rename_i y q
    rw [q] at e
    exact congrArg some e
  · rename_i q
    rw [q] at e
    have a : es.toList.any (·.refKey) = false := by
      rw [List.any_eq_false]
      intro y hy
      obtain ⟨z, t, hkey⟩ := hk y (Array.mem_toList_iff.mp hy)
      simp [DictEntry.refKey, hkey]
    have a' : ¬ es.toList.any (·.refKey) = true := by rw [a]; exact Bool.false_ne_true
    rw [if_neg a']
    exact congrArg some e
theorem ObjM.look {h : Heap} {x dx C : Addr} {mA : Str → Option Value} (I : ObjM h x dx C mA) : ∃ od, PySem.W.InstAt h x (PySem.W.instObj C dx) C (some od) ∧ ∀ name, PySem.W.lookIn name od = some (mA name) :=
  let ⟨od, ho, hl⟩ := lookIn_ns I.ns
  ⟨od, ⟨I.obj, rfl, rfl, ho⟩, hl⟩
section
variable {prog : Program} {w : World} {A : Around} {E : Value → Shared → Prop} {s : Shared} {K : PySem.W.Frag} {x dx C f : Addr} {mA : Str → Option Value} {name : Str} {v : Value}
end
section
variable {P : Program} {w : World} {H H' : Hp} {h h' : Heap} {a C dx : Addr} {fs fs' : List (Str × V)}
theorem ins_get (hok : HOk P w H h) (e : H a = some (.ins C dx fs)) : ∃ mA, ObjM h a dx C mA ∧ (∀ f, RelO (fs.lookup f) (mA f)) ∧ PySem.Within mA (fs.map (·.1)) ∧ fs.length ≤ 1000 ∧ H dx = some (.own a) := by
  obtain ⟨d, z, ne, ob, mA, n, r, q⟩ := (show ObjOk P w H h a (.ins C dx fs) from hok a _ e)
  exact ⟨mA, ⟨ob, n, ne⟩, r, q, z, d⟩
end
structure Cls (K : PySem.W.Frag) (C : Addr) : Prop where
  pg : PySem.W.plainGet K C Str.empty = true
  hd : PySem.W.hasDictIn K C = true
  po : PySem.W.plainOver K C = true
  sa : PySem.W.findIn K (.ref C) "__setattr__" = some (some (.builtin "object.__setattr__"))
theorem Cls.get {K : PySem.W.Frag} {C : Addr} (c : Cls K C) (f : Str) : PySem.W.plainGet K C f = true := c.pg
structure Con (K : PySem.W.Frag) (C : Addr) (f : Str) (v : V) (u : Value) : Prop where
  at_ : PySem.W.findIn K (.ref C) f = some (some u)
  rel : RelV v u
  get : PySem.W.specialIn K u "__get__" = some none
  cp : PySem.W.copiedNames.contains f = false
structure Meth (K : PySem.W.Frag) (C : Addr) (m : Str) (f : Addr) : Prop where
  at_ : PySem.W.findIn K (.ref C) m = some (some (.ref f))
  fn : PySem.W.isFn K (.ref f) = true
  kp : PySem.W.keepIn K (.ref f) = true
section
variable {X : Cx} {pins : List (Addr × Obj)} {σ : St} {H : Hp} {s : Shared} {a C dx : Addr} {fs : List (Str × V)} {f : Str} {v : V} {A : Around} {E : Value → Shared → Prop}
theorem Inv.made (I : Inv X pins σ H s) : Inv X pins σ (upd (upd H s.heap.objs.size (.own (s.heap.objs.size + 1))) (s.heap.objs.size + 1) (.ins C s.heap.objs.size []))
    { s with heap := (s.heap.push PySem.W.emptyDict).push (PySem.W.instObj C s.heap.objs.size) } := by
  have e1 : (s.heap.push PySem.W.emptyDict).get? s.heap.objs.size = some PySem.W.emptyDict := Heap.get?_push_size s.heap rfl
  have e2 : ((s.heap.push PySem.W.emptyDict).push (PySem.W.instObj C s.heap.objs.size)).get? (s.heap.objs.size + 1) = some (PySem.W.instObj C s.heap.objs.size) := by
    have := Heap.get?_push_size (s.heap.push PySem.W.emptyDict) (o := PySem.W.instObj C s.heap.objs.size) rfl
    rwa [Heap.size_push] at this
  have e3 : (s.heap.push PySem.W.emptyDict).Ns s.heap.objs.size (fun _ => none) := ⟨PySem.W.emptyDict, #[], _, e1, rfl, (fun e he => absurd he (by simp)), fun _ => rfl⟩
  have I1 := I.laid (a := s.heap.objs.size) (o := .own (s.heap.objs.size + 1)) (h' := s.heap.push PySem.W.emptyDict) (t' := s.toks) (fun b u q => Heap.get?_push_of_some _ q) (Nat.le_refl _) ⟨_, e1⟩
  refine I1.laid (a := s.heap.objs.size + 1) (o := .ins C s.heap.objs.size []) (t' := s.toks) (fun b u q => Heap.get?_push_of_some _ q) (Nat.le_of_eq (Heap.size_push _ _)) ?_
  have ne : s.heap.objs.size ≠ s.heap.objs.size + 1 := Nat.ne_of_lt (Nat.lt_succ_self _)
  refine ⟨by rw [upd_ne ne, upd_same], Nat.zero_le _, ne, e2, fun _ => none, (Heap.Ns1.of_empty e3).at fun o q => Heap.get?_push_of_some _ q, fun _ => True.intro, fun y hy => absurd rfl hy⟩
theorem attr_of {prog : Program} {w : World} {env : Env} {e : Expr} {f : Str} {pos : Pos} {s : Shared} {Q : Value → Shared → Prop} (hb : attributeBase e f env (eval e env) = eval e env)
    (h : wpAny (model prog w) A (eval e env) (fun o s₁ => wpAny (model prog w) A (getAttr o f true) Q E s₁) E s) : wpAny (model prog w) A (eval (.Attribute e f pos) env) Q E s :=
  Attribute_any_ h (by rw [arm_eval_Attribute, hb])
end
section
variable {X : Cx} {o e value : Expr} {f : Str} {pos pos' tpos : Pos} {ta tv : TE}
end
section
variable {X : Cx} {pins : List (Addr × Obj)} {σ : St} {H : Hp} {s : Shared} {A : Around} {E : Value → Shared → Prop} {Q : Value → Shared → Prop} {c : Value} {b : Bool}
inductive TyOf (K : PySem.W.Frag) (H : Hp) : V → Value → Prop where
  | non : TyOf K H .non (.type "NoneType")
  | bl (x : Bool) : TyOf K H (.bl x) (.type "bool")
  | int (i : Int) : TyOf K H (.int i) (.type "int")
  | str (x : Str) : TyOf K H (.str x) (.type "str")
  | flt (x : UInt64) : TyOf K H (.flt x) (.type "float")
  | lst {a : Addr} {xs : List V} (e : H a = some (.lst xs)) : TyOf K H (.ref a) (.type "list")
  | frz {a : Addr} {o : Obj} {xs : List V} (e : H a = some (.frz o (.lst xs))) : TyOf K H (.ref a) (.type "list")
  | tup {a : Addr} {xs : List V} (e : H a = some (.tup xs)) : TyOf K H (.ref a) (.type "tuple")
  | dK {a : Addr} {kvs : List (Key × V)} (e : H a = some (.dK kvs)) : TyOf K H (.ref a) (.type "dict")
  | dT {a : Addr} {kvs : List (List Key × V)} (e : H a = some (.dT kvs)) : TyOf K H (.ref a) (.type "dict")
  | ins {a C dx : Addr} {fs : List (Str × V)} (e : H a = some (.ins C dx fs)) (cl : Cls K C) (ha : PySem.W.findIn K (.ref C) "__class__" = some (some (.builtin "object.__class__")))
      (hn : PySem.W.specialIn K (.builtin "object.__class__") "__get__" = some (some (.builtin "getset_descriptor.__get__"))) (htk : PySem.W.takesIn K (.builtin "object.__class__") = some true)
      (hm : PySem.W.mroIn K C (.type "object") = some true) : TyOf K H (.ref a) (.ref C)
theorem isinst_ok {x : V} {u t : Value} (I : Inv X pins σ H s) (rx : RelV x u) (ty : TyOf X.K H x t) (e : PySem.W.kitOne X.K t c = some b) (h : ∀ tk, Q (.bool b) { s with toks := tk }) :
    wpAny (model X.prog X.w) A (call (.builtin "isinstance") [u, c]) Q E s := by
  cases ty with
  | non => cases (show u = Value.none from rx); exact PySem.W.kia_one PySem.W.kitx_none I.kIn True.intro e (fun z => nomatch z) h
  | bl y => cases (show u = Value.bool y from rx); exact PySem.W.kia_one PySem.W.kitx_bool I.kIn True.intro e (fun z => nomatch z) h
  | int i => obtain ⟨t, q⟩ := (show ∃ t, u = Value.int i t from rx); cases q; exact PySem.W.kia_one PySem.W.kitx_int I.kIn True.intro e (fun z => nomatch z) h
  | str y => obtain ⟨t, q⟩ := (show ∃ t, u = Value.str y t from rx); cases q; exact PySem.W.kia_one PySem.W.kitx_str I.kIn True.intro e (fun z => nomatch z) h
  | flt y => obtain ⟨t, q⟩ := (show ∃ t, u = Value.float y t from rx); cases q; exact PySem.W.kia_one PySem.W.kitx_float I.kIn True.intro e (fun z => nomatch z) h
  | @lst a xs ea =>
    cases (show u = Value.ref a from rx)
    obtain ⟨_, _, n, _, h1⟩ := (show ObjOk X.prog X.w H s.heap a (.lst xs) from I.hok a _ ea)
    exact PySem.W.kia_one PySem.W.kitx_list I.kIn ⟨_, h1, rfl⟩ e (fun z => nomatch z) h
  | @frz a ob xs ea =>
    cases (show u = Value.ref a from rx)
    obtain ⟨_, _, _, n, _, h1⟩ := (show ObjOk X.prog X.w H s.heap a (.frz ob (.lst xs)) from I.hok a _ ea)
    exact PySem.W.kia_one PySem.W.kitx_list I.kIn ⟨_, h1, rfl⟩ e (fun z => nomatch z) h
  | @tup a xs ea =>
    cases (show u = Value.ref a from rx)
    obtain ⟨_, _, _, p⟩ := (show ObjOk X.prog X.w H s.heap a (.tup xs) from I.hok a _ ea)
    obtain ⟨o, h1, h2, _⟩ := p
    exact PySem.W.kia_one PySem.W.kitx_tuple I.kIn ⟨o, h1, h2⟩ e (fun z => nomatch z) h
  | @dK a kvs ea =>
    cases (show u = Value.ref a from rx)
    obtain ⟨_, _, vs, _, p⟩ := (show ObjOk X.prog X.w H s.heap a (.dK kvs) from I.hok a _ ea)
    obtain ⟨o, es, ep, h1, h2, _⟩ := p
    exact PySem.W.kia_one PySem.W.kitx_dict I.kIn ⟨o, h1, h2.1⟩ e (fun z => nomatch z) h
  | @dT a kvs ea =>
    cases (show u = Value.ref a from rx)
    obtain ⟨_, _, xs, _, o, es, ep, h1, h2, _⟩ := (show ObjOk X.prog X.w H s.heap a (.dT kvs) from I.hok a _ ea)
    exact PySem.W.kia_one PySem.W.kitx_dict I.kIn ⟨o, h1, h2.1⟩ e (fun z => nomatch z) h
  | @ins a C dx fs ea cl ha hn htk hm =>
    cases (show u = Value.ref a from rx)
    obtain ⟨mA, O, _⟩ := ins_get I.hok ea
    obtain ⟨od, J, _⟩ := O.look
    exact PySem.W.kia_one (PySem.W.kitx_own (cl.get _) cl.hd ha hn htk hm) I.kIn J e (fun z => nomatch z) h
end
end L2
namespace L2
open PySem PySem.Spec PyProof.Rows
structure Room (k : Nat) (A : Around) : Prop where
  hd : A.handled = none
  dp : A.depth + 3 * k + 5 < recursionLimit
  un : A.units + 16 * k + 200 < cLine
theorem Room.mono {j k : Nat} {A : Around} (r : Room k A) (h : j ≤ k) : Room j A := ⟨r.hd, by have := r.dp; omega, by have := r.un; omega⟩
theorem Room.deeper {k : Nat} {A : Around} (r : Room (k + 1) A) (env : Env) : Room k (A.deeper env) :=
  ⟨r.hd, by have := r.dp; show A.depth + 1 + 3 * k + 5 < _; omega, by have := r.un; show A.units + 3 + 16 * k + 200 < _; omega⟩
theorem Room.in1 {k : Nat} {A : Around} (r : Room (k + 1) A) : Room k A.in1 :=
  ⟨r.hd, by have := r.dp; show A.depth + 3 * k + 5 < _; omega, by have := r.un; show A.units + 1 + 16 * k + 200 < _; omega⟩
theorem make_depth {A : Around} {C : Addr} {us : List Value} {kw : List (Str × Value)} : (A.under (.builtin "type.__call__" ⟨.ref C :: us, kw⟩)).depth = A.depth + 1 := by
  first | rfl | simp [Around.under, Code.weight, Code.isCreation, Code.isGuard, Code.isCaller, Code.frames, Code.isFrame, guardIds]
theorem make_units {A : Around} {C : Addr} {us : List Value} {kw : List (Str × Value)} : (A.under (.builtin "type.__call__" ⟨.ref C :: us, kw⟩)).units = A.units + 1 := by
  first | rfl | simp [Around.under, Code.cUnits, Code.frames, Code.isFrame]
theorem Room.make {k : Nat} {A : Around} (r : Room (k + 1) A) (C : Addr) (us : List Value) (kw : List (Str × Value)) : Room k (A.under (.builtin "type.__call__" ⟨.ref C :: us, kw⟩)) :=
  ⟨r.hd, by have := r.dp; rw [make_depth]; omega, by have := r.un; rw [make_units]; omega⟩
theorem Room.depth {k : Nat} {A : Around} (r : Room k A) : A.depth < recursionLimit := by have := r.dp; omega
theorem Room.units {k : Nat} {A : Around} (r : Room k A) : A.units + 64 < cLine := by have := r.un; omega
def tNil : TA := fun _ H Q => Q [] H
def tCons (ta : TE) (tr : TA) : TA := fun σ H Q => ta σ H fun x H1 => tr σ H1 fun xs H2 => Q (x :: xs) H2
section
variable {X : Cx} {e : Expr} {es : List Expr} {te : TE} {t : TA} {pos : Pos}
theorem pa_nil : PA X [] tNil := fun _ _ _ _ H Q I h => Calls.spliced_nil ⟨[], H, I, .nil, h⟩
theorem pa_cons (ha : PE X e te) (hr : PA X es t) (hs : starEach (e :: es) X.env = (false, eval e X.env) :: starEach es X.env := by rfl) : PA X (e :: es) (tCons te t) := by
  intro pos pins s σ H Q I h
  rw [hs]
  show wpAny _ _ (spliced ((false, eval e X.env) :: backTo pos (starEach es X.env))) _ _ s
  refine Calls.spliced_cons (thn (ha pins s σ H _ I h) fun u s1 ⟨x, H1, I1, r1, q1⟩ => ?_)
  exact thn (hr pos pins s1 σ H1 _ I1 q1) fun us s2 ⟨xs, H2, I2, r2, q2⟩ => ⟨x :: xs, H2, I2, .cons r1 r2, q2⟩
def tTup (t : TA) : TE := fun σ H Q => t σ H fun xs H1 => xs.length ≤ sizeLine ∧ ∀ p, H1 p = none → Q (.ref p) (upd H1 p (.tup xs))
def tLst (t : TA) : TE := fun σ H Q => t σ H fun xs H1 => xs.length ≤ sizeLine ∧ ∀ p, H1 p = none → Q (.ref p) (upd H1 p (.lst xs))
theorem pe_tup {x1} (h : PA X es t) : PE X (.Tuple es x1 pos) (tTup t) := by
  intro pins s σ H Q I hq
  refine wpAny_Tuple_spliced (thn (h pos pins s σ H _ I hq) fun us s1 ⟨xs, H1, I1, r, z, q⟩ => ⟨by rw [← r.length]; exact z, ?_⟩)
  have hf : H1 s1.heap.objs.size = none := I1.hok.fresh (Nat.le_refl _)
  refine ⟨.ref s1.heap.objs.size, upd H1 s1.heap.objs.size (.tup xs), I1.laid (t' := s1.toks) (fun b u e => Heap.get?_push_of_some _ e) (Nat.le_refl _) ?_, rfl, q _ hf⟩
  exact ⟨z, us, r, ⟨_, Heap.get?_push_size _ rfl, rfl, _, rfl⟩⟩
theorem pe_lst (h : PA X es t) : PE X (.List es pos) (tLst t) := by
  intro pins s σ H Q I hq
  refine wpAny_List_spliced (thn (h pos pins s σ H _ I hq) fun us s1 ⟨xs, H1, I1, r, z, q⟩ => ⟨by rw [← r.length]; exact z, ?_⟩)
  have hf : H1 s1.heap.objs.size = none := I1.hok.fresh (Nat.le_refl _)
  refine ⟨.ref s1.heap.objs.size, upd H1 s1.heap.objs.size (.lst xs), I1.laid (t' := s1.toks) (fun b u e => Heap.get?_push_of_some _ e) (Nat.le_refl _) ?_, rfl, q _ hf⟩
  exact ⟨z, us, 0, r, Heap.get?_push_size _ rfl⟩
end
abbrev Sp := List V → Hp → VK → XK → Prop
abbrev CXT := List Env → Hp → Shared → XK → Value → Shared → Prop
structure Env0 (P : Program) (w : World) (K : PySem.W.Frag) (mg : Str → Option Value) (base : Heap) (A : Around) (outer : List Env) (s : Shared) (H : Hp) : Prop where
  frames : A.frames = some outer
  mod : Mod K mg base
  bs : ∀ b o, base.get? b = some o → s.heap.get? b = some o ∧ H b = none
  bsz : base.objs.size ≤ s.heap.objs.size
  funs : s.heap.FunFrames base outer
  frf : ∀ b ∈ frs outer, H b = none
  hok : HOk P w H s.heap
  bare : AllBare s.gens
def CE (outer : List Env) (P : Program) (w : World) (H : Hp) (s : Shared) (Q : VK) (u : Value) (s' : Shared) : Prop :=
  ∃ v H', s'.os = s.os ∧ AllBare s'.gens ∧ Un (frs outer) [] H H' s.heap s'.heap ∧ HOk P w H' s'.heap ∧ RelV v u ∧ Q v H'
def CR (CX : CXT) (outer : List Env) (P : Program) (w : World) (H : Hp) (s : Shared) (Q : VK) (E : XK) (r : Result) (s' : Shared) : Prop :=
  match r with
  | .ok (.ret u) => CE outer P w H s Q u s'
  | .ok _ => False
  | .error e => CX outer H s E e s'
structure FnOk (P : Program) (w : World) (K : PySem.W.Frag) (mg : Str → Option Value) (base : Heap) (CX : CXT) (k : Nat) (f : Addr) (fd : FuncData) (ps : List Str) (sp : Sp) : Prop where
  len : ∀ vs H Q E, sp vs H Q E → vs.length = ps.length
  run : ∀ (A : Around) (outer : List Env) (s : Shared) (H : Hp) (args : Args) (us : List Value) (vs : List V) (Q : VK) (E : XK), Room k A → Env0 P w K mg base A outer s H → BindsTo s fd args (ps.zip us) → Vals vs us → sp vs H Q E →
    codeAny (model P w) A (.call (.ref f) args) (CR CX outer P w H s Q E) s
theorem FnOk.mono {P : Program} {w : World} {K : PySem.W.Frag} {mg : Str → Option Value} {base : Heap} {CX : CXT} {j k : Nat} {f : Addr} {fd : FuncData} {ps : List Str} {sp : Sp} (F : FnOk P w K mg base CX j f fd ps sp) (h : j ≤ k) :
    FnOk P w K mg base CX k f fd ps sp := ⟨F.len, fun A outer s H args us vs Q E hr => F.run A outer s H args us vs Q E (hr.mono h)⟩
theorem FnOk.imp {P : Program} {w : World} {K : PySem.W.Frag} {mg : Str → Option Value} {base : Heap} {CX : CXT} {k : Nat} {f : Addr} {fd : FuncData} {ps : List Str} {sp sp' : Sp} (F : FnOk P w K mg base CX k f fd ps sp)
    (h : ∀ vs H Q E, sp' vs H Q E → sp vs H Q E) : FnOk P w K mg base CX k f fd ps sp' :=
  ⟨fun vs H Q E q => F.len vs H Q E (h _ _ _ _ q), fun A outer s H args us vs Q E hr he hb hv hs => F.run A outer s H args us vs Q E hr he hb hv (h _ _ _ _ hs)⟩
theorem Env0.make {P : Program} {w : World} {K : PySem.W.Frag} {mg : Str → Option Value} {base : Heap} {A : Around} {outer : List Env} {s : Shared} {H : Hp} (e : Env0 P w K mg base A outer s H) (C : Addr) (us : List Value) (kw : List (Str × Value)) :
    Env0 P w K mg base (A.under (.builtin "type.__call__" ⟨.ref C :: us, kw⟩)) outer s H := ⟨by first | exact e.frames | (simpa [Around.under, Code.envs, Code.isFrame, pushEnvs] using e.frames), e.mod, e.bs, e.bsz, e.funs, e.frf, e.hok, e.bare⟩
theorem Env0.in1 {P : Program} {w : World} {K : PySem.W.Frag} {mg : Str → Option Value} {base : Heap} {A : Around} {outer : List Env} {s : Shared} {H : Hp} (e : Env0 P w K mg base A outer s H) :
    Env0 P w K mg base A.in1 outer s H := ⟨e.frames, e.mod, e.bs, e.bsz, e.funs, e.frf, e.hok, e.bare⟩
section
variable {X : Cx} {pins : List (Addr × Obj)} {σ : St} {H : Hp} {s s' : Shared}
theorem Inv.env0 (I : Inv X pins σ H s) : Env0 X.prog X.w X.K X.mg X.base X.A X.stack s H :=
  ⟨I.ok.frames, I.ok.mod, I.bs, Nat.le_trans I.ok.bsz I.sz, I.stack, I.stkFree, I.hok, I.bare⟩
theorem Inv.after {Q : VK} {u : Value} (I : Inv X pins σ H s) (h : CE X.stack X.prog X.w H s Q u s') : EP X pins σ Q u s' := by
  obtain ⟨v, H', os, bare, un, hok, r, q⟩ := h
  obtain ⟨hh, g, d, t, os'⟩ := s'
  obtain rfl : os' = s.os := os
  exact ⟨v, H', I.call (h' := hh) (g' := g) (d' := d) (t' := t) (ch := []) un hok bare (fun b z => absurd z (by simp)), r, q⟩
end
def tCall (sp : Sp) (dvs : List V) (E : XK) (t : TA) : TE := fun σ H Q => t σ H fun vs H1 => sp (vs ++ dvs) H1 Q E
def Binds (K : PySem.W.Frag) (fd : FuncData) (ps : List Str) (ds : List Value) : Prop :=
  ∀ (s : Shared) (us : List Value), K.In s.heap → (us ++ ds).length = ps.length → BindsTo s fd ⟨us, []⟩ (ps.zip (us ++ ds))
theorem Binds.all {K : PySem.W.Frag} {fd : FuncData} {ps : List Str} (h : ∀ us : List Value, us.length = ps.length → bindArgs fd ⟨us, []⟩ = pure (ps.zip us)) : Binds K fd ps [] := fun s us _ hl => by
  rw [List.append_nil] at hl ⊢
  exact .of_eq (h us hl)
def Passes (CX : CXT) (X : Cx) (E : XK) : Prop := ∀ (pins : List (Addr × Obj)) (σ : St) (H : Hp) (s : Shared) (e : Value) (s' : Shared), Inv X pins σ H s → CX X.stack H s E e s' → X.xe e s'
section
variable {X : Cx} {CX : CXT} {k : Nat} {f C : Addr} {fd : FuncData} {ps : List Str} {sp : Sp} {dvs : List V} {ds : List Value} {E : XK} {x m : Str} {p pos apos : Pos} {e o : Expr} {es : List Expr} {ta : TE} {t : TA}
theorem run_fn {pins : List (Addr × Obj)} {σ : St} {H : Hp} {s : Shared} {Q : VK} {us : List Value} {vs : List V} (F : FnOk X.prog X.w X.K X.mg X.base CX k f fd ps sp) (hr : Room k X.A) (hb : Binds X.K fd ps ds) (hd : Vals dvs ds) (hx : Passes CX X E)
    (I : Inv X pins σ H s) (r : Vals vs us) (h : sp (vs ++ dvs) H Q E) : wpAny (model X.prog X.w) X.A (call (.ref f) us) (EP X pins σ Q) X.xe s := by
  have r2 : Vals (vs ++ dvs) (us ++ ds) := r.append hd
  have hl : (us ++ ds).length = ps.length := by rw [← r2.length]; exact F.len _ _ _ _ h
  refine wpAny_call (codeAny_mono (F.run X.A X.stack s H ⟨us, []⟩ (us ++ ds) (vs ++ dvs) Q E hr I.env0 (hb s us I.kIn hl) r2 h) fun r s' hq => ?_)
  cases r with
  | error e => exact hx pins σ H s e s' I hq
  | ok fl =>
    cases fl with
    | ret u => exact I.after hq
    | next => exact False.elim hq
    | brk => exact False.elim hq
    | cont => exact False.elim hq
theorem pe_call (F : FnOk X.prog X.w X.K X.mg X.base CX k f fd ps sp) (hr : Room k X.A) (hg : Gl X x) (hm : X.mg x = some (.ref f)) (hk : PySem.W.keepIn X.K (.ref f) = true) (hb : Binds X.K fd ps ds) (hd : Vals dvs ds) (hx : Passes CX X E)
    (ha : PA X (e :: es) t) (hdb : (x == ("__debug__" : Str)) = false := by decide) (he : starEach (e :: es) X.env = (false, eval e X.env) :: starEach es X.env := by rfl) (hpl : (backTo pos (starEach es X.env)).any (·.1) = false := by rfl) :
    PE X (.Call (.Name x p) (e :: es) [] pos) (tCall sp dvs E t) := by
  intro pins s σ H Q I h
  refine wpAny_Call_Name_kw (ld_glob I hg hm ?_ hdb)
  refine PySem.W.callWith_K (h₀ := X.base) I.ok.mod.kin hk (thn (ha pos pins s σ H _ I h) fun us s1 ⟨vs, H1, I1, r, q⟩ => ⟨I1.kIn, ?_⟩) he hpl
  exact run_fn F hr hb hd hx I1 r q
structure Mk (K : PySem.W.Frag) (C f : Addr) : Prop where
  makes : PySem.W.makesIn K C = true
  init : PySem.W.findIn K (.ref C) "__init__" = some (some (.ref f))
  fn : PySem.W.isFn K (.ref f) = true
  kp : PySem.W.keepIn K (.ref C) = true
end
section
variable {X : Cx} {CX : CXT} {k : Nat} {f C : Addr} {fd : FuncData} {ps ks : List Str} {sp : Sp} {E : XK} {x m : Str} {p pos apos kpos : Pos} {e o : Expr} {es : List Expr} {kws : List Keyword} {te ta : TE} {t tk : TA} {nm : Option Str}
structure KBinds (K : PySem.W.Frag) (fd : FuncData) (ps ks : List Str) (g : List Value → List Value → List Value) (gV : List V → List V → List V) : Prop where
  to : ∀ (s : Shared) (us ws : List Value), K.In s.heap → (g us ws).length = ps.length → BindsTo s fd ⟨us, ks.zip ws⟩ (ps.zip (g us ws))
  rel : ∀ {vs : List V} {us : List Value} {zs : List V} {ws : List Value}, Vals vs us → Vals zs ws → Vals (gV vs zs) (g us ws)
variable {g : List Value → List Value → List Value} {gV : List V → List V → List V}
end
structure FnScope (N P : List Str) (sc : Scope) : Prop where
  kind : sc.kind = .function
  co : sc.isCoroutine = false
  gen : sc.isGenerator = false
  nd : N.Nodup
  pre : N.take P.length = P
  par : ∀ x ∈ P, sc.names.lookup x = some .local ∨ sc.names.lookup x = some .cell
  nofree : ∀ y ∈ sc.names, y.2 ≠ .free
theorem bindL_out {kindOf : Str → Option NameKind} {x : Str} : ∀ {binds : List (Str × Value)} {m : Str → Option Value}, (∀ v, (x, v) ∉ binds) → bindL kindOf binds m x = m x
  | [], _, _ => rfl
  | (n, v) :: r, m, h => by
    unfold bindL
    rw [bindL_out fun w hw => h w (List.mem_cons_of_mem _ hw)]
    split
    · have : x ≠ n := by rintro rfl; exact h v List.mem_cons_self
      simp [this]
    · rfl
theorem bindC_out {kindOf : Str → Option NameKind} {x : Str} : ∀ {binds : List (Str × Value)} {m : Str → Option Value}, (∀ v, (x, v) ∉ binds) → bindC kindOf binds m x = m x
  | [], _, _ => rfl
  | (n, v) :: r, m, h => by
    unfold bindC
    rw [bindC_out fun w hw => h w (List.mem_cons_of_mem _ hw)]
    split
    · rfl
    · have : x ≠ n := by rintro rfl; exact h v List.mem_cons_self
      simp [this]
theorem bindL_get {kindOf : Str → Option NameKind} {x : Str} {v : Value} : ∀ {P : List Str} {vs : List Value} {i : Nat} {m : Str → Option Value}, P.Nodup → P[i]? = some x → vs[i]? = some v → kindOf x = some .local →
    bindL kindOf (P.zip vs) m x = some v
  | [], _, _, _, _, h, _, _ => by simp at h
  | _ :: _, [], _, _, _, _, h, _ => by simp at h
  | p :: P, w :: vs, 0, m, nd, h1, h2, hk => by
    simp at h1 h2; subst h1; subst h2
    show bindL kindOf ((p, w) :: P.zip vs) m p = _
    unfold bindL
    rw [bindL_out fun v hv => (List.nodup_cons.mp nd).1 (List.of_mem_zip hv).1, if_pos hk]
    simp
  | p :: P, w :: vs, i + 1, m, nd, h1, h2, hk => by
    show bindL kindOf ((p, w) :: P.zip vs) m x = _
    unfold bindL
    exact bindL_get (i := i) (List.nodup_cons.mp nd).2 (by simpa using h1) (by simpa using h2) hk
theorem bindC_get {kindOf : Str → Option NameKind} {x : Str} {v : Value} : ∀ {P : List Str} {vs : List Value} {i : Nat} {m : Str → Option Value}, P.Nodup → P[i]? = some x → vs[i]? = some v → kindOf x ≠ some .local →
    bindC kindOf (P.zip vs) m x = some v
  | [], _, _, _, _, h, _, _ => by simp at h
  | _ :: _, [], _, _, _, _, h, _ => by simp at h
  | p :: P, w :: vs, 0, m, nd, h1, h2, hk => by
    simp at h1 h2; subst h1; subst h2
    show bindC kindOf ((p, w) :: P.zip vs) m p = _
    unfold bindC
    rw [bindC_out fun v hv => (List.nodup_cons.mp nd).1 (List.of_mem_zip hv).1, if_neg hk]
    simp
  | p :: P, w :: vs, i + 1, m, nd, h1, h2, hk => by
    show bindC kindOf ((p, w) :: P.zip vs) m x = _
    unfold bindC
    exact bindC_get (i := i) (List.nodup_cons.mp nd).2 (by simpa using h1) (by simpa using h2) hk
def start (N : List Str) (vs : List V) : St := vs.map some ++ List.replicate (N.length - vs.length) none
def cxOf (CX : CXT) (P : Program) (w : World) (K : PySem.W.Frag) (mg : Str → Option Value) (base : Heap) (N : List Str) (qual : Str) (scope : Scope) (f : Addr) (cd : Value) (A : Around) (outer : List Env) (s : Shared) (H : Hp) (E : XK) : Cx where
  prog := P
  w := w
  K := K
  mg := mg
  base := base
  A := A.deeper (envOfC qual scope s.heap.objs.size f cd)
  N := N
  s₀ := s
  H₀ := H
  env := envOfC qual scope s.heap.objs.size f cd
  outer := outer
  stack := envOfC qual scope s.heap.objs.size f cd :: outer
  ex := []
  calm := true
  fn := fun _ => true
  pn := []
  xe := fun e s' => wpAny (model P w) (A.deeper (envOfC qual scope s.heap.objs.size f cd)) (leaving (envOfC qual scope s.heap.objs.size f cd) e) (fun _ s'' => CX outer H s E e s'') (fun e' s'' => CX outer H s E e' s'') s'
theorem cell_has {sc : Scope} {n : Nat} {x : Str} (h : sc.names.lookup x = some .cell) : ∃ c, (cellsFrom n sc.names []).lookup x = some c := by
  have q := PySem.W.cellsFrom_some sc.names n [] (.inl h)
  exact Option.isSome_iff_exists.mp q
theorem inv_start {CX : CXT} {P : Program} {w : World} {K : PySem.W.Frag} {mg : Str → Option Value} {base : Heap} {N ps : List Str} {qual : Str} {scope : Scope} {f : Addr} {cd : Value} {A : Around} {outer : List Env} {s s1 : Shared} {H : Hp} {E : XK} {us : List Value} {vs : List V}
    (S : FnScope N ps scope) (hd : A.handled = none) (e0 : Env0 P w K mg base A outer s H) (hl : vs.length = ps.length) (r : Vals vs us)
    (x : InCallC s s.heap.objs.size (bindL (envOfC qual scope s.heap.objs.size f cd).kindOf (ps.zip us) fun _ => none) (cellsFrom (s.heap.objs.size + 1) scope.names []) (bindC (envOfC qual scope s.heap.objs.size f cd).kindOf (ps.zip us) fun _ => none) s1) :
    Inv (cxOf CX P w K mg base N qual scope f cd A outer s H E) [] (start N vs) H s1 := by
  have hpl : ps.length ≤ N.length := by have := congrArg List.length S.pre; rw [List.length_take] at this; omega
  obtain ⟨h1, tk, rfl, hk⟩ := x.done
  have noA : ∀ b : Addr, b ∉ (cxOf CX P w K mg base N qual scope f cd A outer s H E).ex := fun b z => absurd (show b ∈ ([] : List Addr) from z) (by simp)
  refine ⟨⟨e0.mod, S.kind, rfl, rfl, Nat.le_refl _, fun y z c h1 h2 => ?_, fun y hy => ?_, fun y c _ h => ?_, fun _ => hd, Around.frames_deeper e0.frames, .inr ⟨rfl, rfl⟩, fun b z => absurd z (noA b), e0.bs, e0.bsz, fun b _ _ => noA b, fun b z => absurd z (noA b), e0.funs, e0.frf⟩,
    rfl, e0.bare, Un.kept hk, ⟨_, x.toInCall.ns, fun i y v h1 h2 h3 => ?_⟩, fun y c h => ⟨_, x.cell y c h⟩, e0.hok.fresh (Nat.le_refl _), fun y c h => ?_, fun p hp => absurd (show p ∈ ([] : List (Addr × Obj)) from hp) (by simp), e0.hok.kept hk, ?_⟩
  · exact name_of_addr x.apart (PySem.mem_of_lookup h1) (PySem.mem_of_lookup h2)
  · have hy : scope.names.lookup y = some .cell ∨ scope.names.lookup y = some .free := hy
    rcases hy with hy | hy
    · exact cell_has hy
    · exact absurd rfl (S.nofree _ (PySem.mem_of_lookup hy))
  · exact Nat.le_of_lt (x.above y c (PySem.mem_of_lookup h))
  · have hi : i < vs.length := by
      unfold start at h2
      by_cases hi : i < vs.length
      · exact hi
      · rw [List.getElem?_append_right (by simpa using hi)] at h2
        rw [List.getElem?_replicate] at h2
        split at h2 <;> cases h2
    have ha : vs[i]? = some v := by
      unfold start at h2
      rw [List.getElem?_append_left (by simpa using hi), List.getElem?_map] at h2
      cases e : vs[i]? with
      | none => rw [e] at h2; cases h2
      | some a => rw [e] at h2; cases h2; rfl
    obtain ⟨u, hu, rv⟩ := r.get ha
    have hp : ps[i]? = some y := by
      rw [← S.pre, List.getElem?_take_of_lt (by omega)]; exact h1
    have ndP : ps.Nodup := by rw [← S.pre]; exact S.nd.sublist (List.take_sublist _ _)
    refine ⟨u, rv, ?_⟩
    rcases S.par y (List.mem_of_getElem? hp) with k | k
    · exact .inl ⟨k, bindL_get ndP hp hu k⟩
    · obtain ⟨c, e⟩ := cell_has (n := s.heap.objs.size + 1) k
      refine .inr ⟨.inl k, c, e, ?_⟩
      have q := x.cell y c e
      rw [bindC_get ndP hp hu (by show scope.names.lookup y ≠ _; rw [k]; decide)] at q
      exact q
  · exact e0.hok.fresh (Nat.le_of_lt (x.above y c (PySem.mem_of_lookup h)))
  · unfold start
    show _ = N.length
    rw [List.length_append, List.length_map, List.length_replicate]
    omega
theorem fn_of {CX : CXT} {P : Program} {w : World} {K : PySem.W.Frag} {mg : Str → Option Value} {base : Heap} {k : Nat} {f : Addr} {name qual : Str} {params : Arguments} {body : List Stmt} {scope : Scope} {dV kV doc pm cdv ct oc : Value} {an od : Option Addr}
    {osl : Array (Option Value)} {N ps : List Str} {sp : Sp} (lk : K.lookup f = some ⟨oc, od, .func (PySem.W.fnOf name qual params body scope dV kV doc pm an cdv ct), osl⟩) (hcd : PySem.W.codeIn K cdv qual = true) (S : FnScope N ps scope)
    (len : ∀ vs H Q E, sp vs H Q E → vs.length = ps.length)
    (hbody : ∀ (A : Around) (outer : List Env) (s : Shared) (H : Hp) (vs : List V) (Q : VK) (E : XK), Room k (A.deeper (envOfC qual scope s.heap.objs.size f cdv)) → sp vs H Q E →
      ∃ t, PSs (cxOf CX P w K mg base N qual scope f cdv A outer s H E) body t ∧ t { nx := fun _ H' => Q .non H', rt := Q } (start N vs) H) :
    FnOk P w K mg base CX (k + 1) f (PySem.W.fnOf name qual params body scope dV kV doc pm an cdv ct) ps sp := by
  refine ⟨len, fun A outer s H args us vs Q E hr e0 hb r hsp => ?_⟩
  have hl := len _ _ _ _ hsp
  have KX : K.In s.heap := e0.mod.kin.keeps fun b o e => (e0.bs b o e).1
  have lim : s.heap.NoLimit := e0.mod.nolimit.keeps fun b o e => (e0.bs b o e).1
  have hkind : ∀ y ∈ ps.zip us, scope.names.lookup y.1 = some .local ∨ (scope.names.lookup y.1 = some .cell ∧ ((cellsFrom (s.heap.objs.size + 1) scope.names []).lookup y.1).isSome = true) := fun ⟨n, v⟩ hy => by
    rcases S.par n (List.of_mem_zip hy).1 with q | q
    · exact .inl q
    · exact .inr ⟨q, PySem.W.cellsFrom_some _ _ _ (.inl q)⟩
  refine codeAny_call_function hr.depth (KX _ _ lk) rfl S.co S.gen rfl (PySem.W.codeRec_of KX hcd) (hb _ _ _ _ ?_)
  refine wpAny_newFunctionEnv_cells S.kind hkind fun env he s1 x => ?_
  subst he
  refine ⟨lim.keeps x.toInCall.keep, codeAny_func ?_⟩
  obtain ⟨t, ht, hq⟩ := hbody A outer s H vs Q E (hr.deeper _) hsp
  have I : Inv (cxOf CX P w K mg base N qual scope f cdv A outer s H E) [] (start N vs) H s1 := inv_start S hr.hd e0 hl r x
  refine wpAny_mono (ht [] s1 (start N vs) H _ I hq) (fun fl s' hs => ?_) fun e s' hs => hs
  have fin : ∀ {σ' : St} {H' : Hp} {v : V} {u : Value}, Inv (cxOf CX P w K mg base N qual scope f cdv A outer s H E) [] σ' H' s' → RelV v u → Q v H' → CE outer P w H s Q u s' :=
    fun {σ' H' v u} J rv q => ⟨v, H', J.os, J.bare, J.base, J.hok, rv, q⟩
  cases fl with
  | ret u =>
    obtain ⟨v, σ', H', J, rv, q⟩ := hs
    exact fin J rv q
  | next =>
    obtain ⟨σ', H', J, q⟩ := hs
    exact fin (v := V.non) (u := Value.none) J rfl q
  | brk =>
    obtain ⟨_, _, _, q⟩ := hs
    exact False.elim q
  | cont =>
    obtain ⟨_, _, _, q⟩ := hs
    exact False.elim q
end L2
namespace L2
open PySem PySem.Spec PyProof.Rows
section
variable {X : Cx} {x : Str} {p pos : Pos} {e : Expr} {es : List Expr} {t : TA} {id T : String} {r : List V → Hp → VK → Prop}
def tCB (r : List V → Hp → VK → Prop) (t : TA) : TE := fun σ H Q => t σ H fun vs H1 => r vs H1 Q
theorem pe_callB (hc : CallR X (.builtin id) r) (hg : Gl X x) (hm : X.mg x = none) (hv : bootBuiltins x = some (.builtin id)) (ha : PA X (e :: es) t) (hn : x ≠ "__name__" := by decide) (hdb : (x == ("__debug__" : Str)) = false := by decide)
    (he : starEach (e :: es) X.env = (false, eval e X.env) :: starEach es X.env := by rfl) (hpl : (backTo pos (starEach es X.env)).any (·.1) = false := by rfl) : PE X (.Call (.Name x p) (e :: es) [] pos) (tCB r t) := by
  intro pins s σ H Q I h
  refine wpAny_Call_Name_kw (ld_blt I hg hm hv ?_ hn hdb)
  exact PyProof.Rows.callWith_builtin1 (thn (ha pos pins s σ H _ I h) fun us s1 ⟨vs, H1, I1, r1, q1⟩ => hc pins s1 σ H1 vs us Q I1 r1 q1) he hpl
theorem pe_callTy (hc : CallR X (.type T) r) (hg : Gl X x) (hm : X.mg x = none) (hv : bootBuiltins x = some (.type T)) (ha : PA X (e :: es) t) (hn : x ≠ "__name__" := by decide) (hdb : (x == ("__debug__" : Str)) = false := by decide)
    (he : starEach (e :: es) X.env = (false, eval e X.env) :: starEach es X.env := by rfl) (hpl : (backTo pos (starEach es X.env)).any (·.1) = false := by rfl) : PE X (.Call (.Name x p) (e :: es) [] pos) (tCB r t) := by
  intro pins s σ H Q I h
  refine wpAny_Call_Name_kw (ld_blt I hg hm hv ?_ hn hdb)
  exact PyProof.Rows.callWith_type1 (thn (ha pos pins s σ H _ I h) fun us s1 ⟨vs, H1, I1, r1, q1⟩ => hc pins s1 σ H1 vs us Q I1 r1 q1) he hpl
end
end L2
namespace HT
open PySem PyProof.Rows
section
open PySem.SeqAt
open PySem.AutoSeq1 (wpAny_loadPart')
open PySem.MeetsSeq PySem.MeetsSeq2 PySem.MeetsSeq3
end
section
variable {prog : Program} {w : World} {A : Around} {E : Value → Shared → Prop} {s : Shared}
theorem cat_tup {t b : Addr} {vs ws : List Value} {Q : Value → Shared → Prop} (ht : IsTup s.heap t vs.toArray) (hb : IsTup s.heap b ws.toArray) (hv : vs ≠ [])
    (h1 : ws = [] → Q (.ref t) s) (h2 : ws ≠ [] → Q (.ref s.heap.objs.size) { s with heap := s.heap.push { cls := .type "tuple", data := .seq (vs ++ ws).toArray } })
    (hsz : vs.length + ws.length ≤ sizeLine) : wpAny (model prog w) A (binaryOp .Add (.ref t) (.ref b)) Q E s := by
  obtain ⟨⟨cls, dd, data, sl⟩, ho, hc, n, hd⟩ := id ht
  obtain ⟨⟨cls2, dd2, data2, sl2⟩, ho2, hc2, n2, hd2⟩ := id hb
  simp only at hc hd hc2 hd2
  subst hc hd hc2 hd2
  have e : vs.toArray ++ ws.toArray = (vs ++ ws).toArray := by simp
  by_cases hw : ws = []
  · exact concat_meets ⟨_, ho, rfl⟩ ⟨_, ho2, rfl⟩ noFill_tuple_add seq_tuple_add PySem.F.slot_tuple_add PySem.F.entry_tuple_add (PySem.F.args_tuple_add_2 _ _)
      (tuple_addW1 t b vs.toArray ws.toArray n n2 dd dd2 sl sl2 (by simpa using hv) (by simp [hw])) ⟨ho, ho2, h1 hw⟩
  · refine concat_meets ⟨_, ho, rfl⟩ ⟨_, ho2, rfl⟩ noFill_tuple_add seq_tuple_add PySem.F.slot_tuple_add PySem.F.entry_tuple_add (PySem.F.args_tuple_add_2 _ _)
      (tuple_addW2 t b vs.toArray ws.toArray n n2 dd dd2 sl sl2 (by simpa using hv) (by simpa using hw) (by rw [List.size_toArray, List.size_toArray]; exact hsz)) ⟨ho, ho2, ?_⟩
    rw [e]
    exact h2 hw
def sIx (n d : Nat) : Option Int → Nat
  | none => d
  | some v => if v < 0 then (v + (n : Int)).toNat else min v.toNat n
theorem sIx_none (n d : Nat) : sIx n d none = d := rfl
theorem sIx_nat (n d k : Nat) : sIx n d (some (k : Int)) = min k n := by
  show (if (k : Int) < 0 then ((k : Int) + (n : Int)).toNat else min (k : Int).toNat n) = min k n
  rw [if_neg (by omega), Int.toNat_natCast]
theorem sIx_le (n d : Nat) (hd : d ≤ n) (o : Option Int) : sIx n d o ≤ n := by
  cases o with
  | none => exact hd
  | some v =>
    show (if v < 0 then (v + (n : Int)).toNat else min v.toNat n) ≤ n
    by_cases hv : v < 0
    · rw [if_pos hv]; omega
    · rw [if_neg hv]; exact Nat.min_le_right _ _
theorem clip_eq (v : Int) (n d : Nat) : (if v < 0 then max (v + (n : Int)) 0 else min v (n : Int)) = ((sIx n d (some v) : Nat) : Int) := by
  show (if v < 0 then max (v + (n : Int)) 0 else min v (n : Int)) = (((if v < 0 then (v + (n : Int)).toNat else min v.toNat n) : Nat) : Int)
  by_cases hv : v < 0
  · simp only [if_pos hv]; omega
  · simp only [if_neg hv]; omega
theorem adjust_gen (lo hi : Option Int) (n : Nat) : Builtin.Slice.sliceAdjust lo hi 1 (n : Int) = (((sIx n 0 lo : Nat) : Int), ((sIx n n hi : Nat) : Int)) := by
  have h1 : ¬ ((1 : Int) < 0) := by omega
  unfold Builtin.Slice.sliceAdjust
  simp only [h1, if_false]
  refine Prod.ext ?_ ?_
  · cases lo with
    | none => rfl
    | some v => exact clip_eq v n 0
  · cases hi with
    | none => rfl
    | some v => exact clip_eq v n n
theorem places_gen (i j : Nat) : Builtin.Slice.slicePlaces (i : Int) (j : Int) 1 = j - i := by
  unfold Builtin.Slice.slicePlaces
  have h1 : (1 : Int) > 0 := by omega
  simp only [h1, if_true, Int.ediv_one]
  split <;> omega
theorem slicePart_ {v : Value} {o : Option Int} {Q : Option Int → Shared → Prop} (p : IsPart v o) (h : Q o s) : wpAny (model prog w) A (Builtin.Slice.slicePartIndex v) Q E s := by
  cases p with
  | none => exact slicePart_none h
  | int i t => exact slicePart_int h
theorem sliceApplied_gen {sl : Addr} {vl vu : Value} {lo hi : Option Int} {n : Nat} {Q : Int × Int × Nat → Shared → Prop} (hs : s.heap.IsSliceOf sl vl vu .none) (pl : IsPart vl lo) (pu : IsPart vu hi)
    (h : Q (((sIx n 0 lo : Nat) : Int), 1, sIx n n hi - sIx n 0 lo) s) : wpAny (model prog w) A (Builtin.Slice.sliceApplied (.ref sl) (pure (n : Int))) Q E s := by
  obtain ⟨os, hos, hcs, hds⟩ := id hs
  unfold Builtin.Slice.sliceApplied Builtin.Slice.sliceFields
  refine wpAny_bind (wpAny_bind (wpAny_field hos hds (x := vl) rfl (wpAny_bind (wpAny_field hos hds (x := vu) rfl (wpAny_bind (wpAny_field hos hds (x := .none) rfl (wpAny_pure ?_)))))))
  refine wpAny_bind (slicePart_none ?_)
  show wpAny _ _ (if ((1 : Int) == 0) = true then _ else _) _ _ s
  rw [if_neg (by decide)]
  refine wpAny_bind (slicePart_ pl (wpAny_bind (slicePart_ pu (wpAny_bind (wpAny_pure ?_)))))
  show wpAny _ _ (match Builtin.Slice.sliceAdjust lo hi 1 (n : Int) with | (lo, hi) => pure (lo, (1 : Int), Builtin.Slice.slicePlaces lo hi 1)) _ _ s
  rw [adjust_gen lo hi n]
  show wpAny _ _ (pure (((sIx n 0 lo : Nat) : Int), (1 : Int), Builtin.Slice.slicePlaces ((sIx n 0 lo : Nat) : Int) ((sIx n n hi : Nat) : Int) 1)) _ _ s
  rw [places_gen]
  exact wpAny_pure h
theorem pick_gen (xs : Array Value) (i k : Nat) : ((List.range k).filterMap fun (m : Nat) => xs[((i : Int) + (m : Int) * 1).toNat]?).toArray = ((xs.toList.drop i).take k).toArray := by
  have e : (fun (m : Nat) => xs[((i : Int) + (m : Int) * 1).toNat]?) = fun m => xs[i + m]? := by
    funext m
    have : ((i : Int) + (m : Int) * 1).toNat = i + m := by omega
    rw [this]
  rw [e]
  have := pick_run xs i k
  rw [List.filterMap_map] at this
  have e2 : ((fun x => xs[x]?) ∘ fun x => i + x) = fun m => xs[i + m]? := rfl
  rw [e2] at this
  rw [this]
theorem getItem_tuple_cut {t sl : Addr} {items : Array Value} {vl vu : Value} {lo hi : Option Int} {Q : Value → Shared → Prop} (ht : IsTup s.heap t items) (hs : s.heap.IsSliceOf sl vl vu .none) (pl : IsPart vl lo) (pu : IsPart vu hi)
    (hw : ¬ (sIx items.size 0 lo = 0 ∧ sIx items.size items.size hi = items.size))
    (h : Q (.ref s.heap.objs.size) { s with heap := s.heap.push { cls := .type "tuple", data := .seq ((items.toList.drop (sIx items.size 0 lo)).take (sIx items.size items.size hi - sIx items.size 0 lo)).toArray } })
    (hsz : items.size ≤ sizeLine) : wpAny (model prog w) A (getItem (.ref t) (.ref sl)) Q E s := by
  have htake : sizeOk (.seq ((items.toList.drop (sIx items.size 0 lo)).take (sIx items.size items.size hi - sIx items.size 0 lo)).toArray) := by
    show ((items.toList.drop (sIx items.size 0 lo)).take (sIx items.size items.size hi - sIx items.size 0 lo)).toArray.size ≤ sizeLine
    rw [List.size_toArray, List.length_take, List.length_drop, Array.length_toList]
    omega
  have hj : sIx items.size items.size hi ≤ items.size := sIx_le _ _ (Nat.le_refl _) hi
  obtain ⟨os, hos, hcs, hds⟩ := id hs
  have hTs : s.TypeIs (.ref sl) "slice" := ⟨os, hos, hcs⟩
  unfold getItem
  try with_reducible refine wpAny_holding ?_
  first | refine wpAny_bind (wpAny_pure ?_) | skip
  refine wpAny_bind (wpAny_sequenceKey ht.typeIs (by decide) ?_)
  refine wpAny_bind (wpAny_callSpecial?_slot (name := Str.ofString "__getitem__") ht.typeIs PyProof.Rows.slot_tuple_getitem
    (wpAny_call_entry PyProof.Rows.slot_tuple_getitem ht.typeIs entry_tuple_getitem ?_ (args_tuple_getitem _ _)))
  show wpAny _ _ (Builtin.Tuple.tupleItemsOf (.ref t) >>= _) _ _ s
  refine wpAny_bind (tupleItemsOf_ ht ?_)
  refine wpAny_bind (wpAny_typeOf hTs ?_)
  rw [if_pos (by decide)]
  refine wpAny_bind (sliceApplied_gen hs pl pu ?_)
  have hno : ¬ ((((sIx items.size 0 lo : Nat) : Int) == 0 && (1 : Int) == 1 && (sIx items.size items.size hi - sIx items.size 0 lo) == items.size) = true) := by
    intro q
    rw [Bool.and_eq_true, Bool.and_eq_true] at q
    have q1 : ((sIx items.size 0 lo : Nat) : Int) = 0 := eq_of_beq q.1.1
    have q2 : sIx items.size items.size hi - sIx items.size 0 lo = items.size := eq_of_beq q.2
    exact hw ⟨by omega, by omega⟩
  show wpAny _ _ (if (((sIx items.size 0 lo : Nat) : Int) == 0 && (1 : Int) == 1 && (sIx items.size items.size hi - sIx items.size 0 lo) == items.size) = true then _ else _) _ _ s
  rw [if_neg hno, pick_gen]
  first
    | exact wpAny_bind (m := Builtin.Tuple.tupleExact _) (wpAny_newObj_type (wpAny_pure ⟨_, rfl, wpAny_pure h⟩) htake)
    | exact wpAny_bind (m := Builtin.Tuple.tupleExact _) (wpAny_newObj_type (wpAny_bind (wpAny_pure (wpAny_pure ⟨_, rfl, wpAny_pure h⟩))) htake)
    | exact wpAny_bind (wpAny_bind (m := Builtin.Tuple.tupleExact _) (wpAny_newObj_type (wpAny_pure (wpAny_pure ⟨_, rfl, wpAny_pure h⟩)) htake))
    | exact wpAny_bind (wpAny_bind (m := Builtin.Tuple.tupleExact _) (wpAny_newObj_type (wpAny_pure ⟨_, rfl, wpAny_pure h⟩) htake))
end
end HT
namespace L2
open PySem PySem.Spec PyProof.Rows
abbrev TO := St → Hp → (Option Int → Hp → Prop) → Prop
def PO (X : Cx) (e : Option Expr) (t : TO) : Prop :=
  ∀ (pins : List (Addr × Obj)) (s : Shared) (σ : St) (H : Hp) (Q : Option Int → Hp → Prop), Inv X pins σ H s → t σ H Q →
    wpAny (model X.prog X.w) X.A (evalPart e X.env) (fun u s' => ∃ o H', Inv X pins σ H' s' ∧ IsPart u o ∧ Q o H') X.xe s
def tNoPart : TO := fun _ H Q => Q none H
def tPart (t : TE) : TO := fun σ H Q => t σ H fun x H1 => ∃ i, x = .int i ∧ Q (some i) H1
section
variable {X : Cx} {e : Expr} {te : TE} {lo hi : Option Expr} {tl th : TO} {pos p2 : Pos}
theorem po_none : PO X none tNoPart := by
  intro pins s σ H Q I h
  rw [evalPart_none]
  exact wpAny_pure ⟨none, H, I, .none, h⟩
theorem po_some (h : PE X e te) : PO X (some e) (tPart te) := by
  intro pins s σ H Q I hw
  rw [evalPart_some]
  refine thn (h pins s σ H _ I hw) fun u s1 ⟨x, H1, I1, r1, q1⟩ => ?_
  obtain ⟨i, rfl, q⟩ := q1
  obtain ⟨t, rfl⟩ := r1
  exact ⟨some i, H1, I1, .int i t, q⟩
def SlR (X : Cx) (r : V → Option Int → Option Int → Hp → VK → Prop) : Prop :=
  ∀ (pins : List (Addr × Obj)) (s : Shared) (σ : St) (H : Hp) (x : V) (v vl vu : Value) (lo hi : Option Int) (sl : Addr) (Q : VK), Inv X pins σ H s → RelV x v → s.heap.IsSliceOf sl vl vu .none → IsPart vl lo → IsPart vu hi → r x lo hi H Q →
    ∃ T id, typeLookup (.type T) "__getitem__" = pure (some (.builtin id)) ∧ s.TypeIs v T ∧ wpAny (model X.prog X.w) X.A (getItem v (.ref sl)) (EP X pins σ Q) X.xe s
theorem SlR.or {r r' : V → Option Int → Option Int → Hp → VK → Prop} (h : SlR X r) (h' : SlR X r') : SlR X (fun x lo hi H Q => r x lo hi H Q ∨ r' x lo hi H Q) := by
  intro pins s σ H x v vl vu lo hi sl Q I rx hs pl pu q
  rcases q with q | q
  · exact h pins s σ H x v vl vu lo hi sl Q I rx hs pl pu q
  · exact h' pins s σ H x v vl vu lo hi sl Q I rx hs pl pu q
def tSl (r : V → Option Int → Option Int → Hp → VK → Prop) (te : TE) (tl th : TO) : TE := fun σ H Q => te σ H fun x H1 => tl σ H1 fun l H2 => th σ H2 fun u H3 => r x l u H3 Q
theorem pe_slice {r : V → Option Int → Option Int → Hp → VK → Prop} (hr : SlR X r) (he : PE X e te) (hl : PO X lo tl) (hu : PO X hi th) : PE X (.Subscript e (.Slice lo hi none p2) pos) (tSl r te tl th) := by
  intro pins s σ H Q I h
  refine Subscript_ (thn (he pins s σ H _ I h) fun v s1 ⟨x, H1, I1, r1, q1⟩ => ?_)
  refine wpAny_Slice (thn (hl pins s1 σ H1 _ I1 q1) fun vl s2 ⟨l, H2, I2, pl, q2⟩ => thn (hu pins s2 σ H2 _ I2 q2) fun vu s3 ⟨u, H3, I3, pu, q3⟩ => ?_)
  rw [evalPart_none]
  refine wpAny_pure ?_
  have I4 : Inv X pins σ H3 { s3 with heap := s3.heap.push { cls := .type "slice", data := .fields #[vl, vu, .none] } } := I3.kept (t' := s3.toks) fun b ob q => Heap.get?_push_of_some _ q
  obtain ⟨T, id, hT, ht, hg⟩ := hr pins { s3 with heap := s3.heap.push { cls := .type "slice", data := .fields #[vl, vu, .none] } } σ H3 x v vl vu l u s3.heap.objs.size Q I4 r1 (Heap.IsSliceOf.new ..) pl pu q3
  show wpAny (model X.prog X.w) X.A (subscriptTail e (.Slice lo hi none p2) v (.ref s3.heap.objs.size)) (EP X pins σ Q) X.xe { s3 with heap := s3.heap.push { cls := .type "slice", data := .fields #[vl, vu, .none] } }
  exact tail_any (ops := [.ref s3.heap.objs.size, v]) ht hT hg (by with_unfolding_all rfl)
def cutV (xs : List V) (lo hi : Option Int) : List V := (xs.drop (HT.sIx xs.length 0 lo)).take (HT.sIx xs.length xs.length hi - HT.sIx xs.length 0 lo)
theorem cutV_length (xs : List V) (lo hi : Option Int) : (cutV xs lo hi).length ≤ xs.length := by
  unfold cutV
  rw [List.length_take, List.length_drop]
  omega
def rSlT (K : PySem.W.Frag) : V → Option Int → Option Int → Hp → VK → Prop := fun x lo hi H Q => ∃ a xs, x = .ref a ∧ SqT K H a xs ∧
  ¬ (HT.sIx xs.length 0 lo = 0 ∧ HT.sIx xs.length xs.length hi = xs.length) ∧ ∀ p, H p = none → Q (.ref p) (upd H p (.tup (cutV xs lo hi)))
theorem sl_tup : SlR X (rSlT X.K) := by
  intro pins s σ H x v vl vu lo hi sl Q I rx hs pl pu h
  obtain ⟨a, xs, rfl, hx, hw, q⟩ := h
  cases rx
  obtain ⟨its, r, ht, hz⟩ := I.tuple hx
  have hlen : its.toArray.size = xs.length := by rw [List.size_toArray]; exact r.length.symm
  refine ⟨"tuple", _, PyProof.Rows.slot_tuple_getitem.lookup, ht.typeIs, ?_⟩
  refine HT.getItem_tuple_cut ht hs pl pu (by rw [hlen]; exact hw) ?_ (by rw [hlen]; exact hz)
  rw [hlen]
  refine ⟨.ref s.heap.objs.size, _, I.laid (t' := s.toks) (o := .tup (cutV xs lo hi)) (fun b ob q => Heap.get?_push_of_some _ q) (Nat.le_refl _) ?_, rfl, q _ (I.hok.fresh (Nat.le_refl _))⟩
  exact ⟨Nat.le_trans (cutV_length xs lo hi) hz, _, (r.drop (HT.sIx xs.length 0 lo)).take (HT.sIx xs.length xs.length hi - HT.sIx xs.length 0 lo), IsTup.new _ _⟩
def rCatT (K : PySem.W.Frag) : R2 := fun x y H Q => ∃ a b xs ys, x = .ref a ∧ y = .ref b ∧ SqT K H a xs ∧ SqT K H b ys ∧ xs ≠ [] ∧ xs.length + ys.length ≤ sizeLine ∧
  (ys = [] → Q (.ref a) H) ∧ (ys ≠ [] → ∀ p, H p = none → Q (.ref p) (upd H p (.tup (xs ++ ys))))
theorem Vals.nil_iff {xs : List V} {us : List Value} (r : Vals xs us) : us = [] ↔ xs = [] := by
  cases r with
  | nil => simp
  | cons _ _ => simp
theorem op_catT : OpR X (binaryOp .Add) (rCatT X.K) := by
  intro pins s σ H x y v u Q I rx ry h
  obtain ⟨a, b, xs, ys, rfl, rfl, ha, hb, hx, hz, q1, q2⟩ := h
  cases rx
  cases ry
  obtain ⟨its, r1, p1, _⟩ := I.tuple ha
  obtain ⟨its2, r2, p2, _⟩ := I.tuple hb
  refine HT.cat_tup p1 p2 (fun z => hx (r1.nil_iff.mp z)) (fun z => ⟨.ref a, H, I, rfl, q1 (r2.nil_iff.mp z)⟩) (fun z => ?_) (by rw [← r1.length, ← r2.length]; exact hz)
  refine ⟨.ref s.heap.objs.size, _, I.laid (t' := s.toks) (o := .tup (xs ++ ys)) (fun b ob q => Heap.get?_push_of_some _ q) (Nat.le_refl _) ?_, rfl, q2 (fun w => z (r2.nil_iff.mpr w)) _ (I.hok.fresh (Nat.le_refl _))⟩
  exact ⟨by rw [List.length_append]; exact hz, _, r1.append r2, IsTup.new _ _⟩
end
end L2
namespace L2
open PySem PySem.Spec PyProof.Rows
def ixN (n : Nat) (i : Int) : Option Nat := if 0 ≤ i then (if i < n then some i.toNat else none) else if -(n : Int) ≤ i then some (i + n).toNat else none
def atI {α : Type} (xs : List α) (i : Int) : Option α := (ixN xs.length i).bind fun j => xs[j]?
theorem ixN_seq {n : Nat} {i : Int} {j : Nat} (h : ixN n i = some j) : seqIndex? i n = some j ∧ j < n ∧ -(n : Int) ≤ i ∧ i < n := by
  unfold ixN at h
  by_cases h0 : 0 ≤ i
  · rw [if_pos h0] at h
    by_cases h1 : i < n
    · rw [if_pos h1] at h
      have e : i.toNat = j := Option.some.inj h
      exact ⟨by rw [seqIndex_of h0 h1, e], by omega, by omega, h1⟩
    · rw [if_neg h1] at h; cases h
  · rw [if_neg h0] at h
    by_cases h1 : -(n : Int) ≤ i
    · rw [if_pos h1] at h
      have e : (i + n).toNat = j := Option.some.inj h
      exact ⟨by rw [seqIndex_neg (by omega) h1, e], by omega, h1, by omega⟩
    · rw [if_neg h1] at h; cases h
theorem atI_get {α : Type} {xs : List α} {i : Int} {v : α} (h : atI xs i = some v) : ∃ j, seqIndex? i xs.length = some j ∧ xs[j]? = some v ∧ j < xs.length ∧ -(xs.length : Int) ≤ i ∧ i < xs.length := by
  unfold atI at h
  cases e : ixN xs.length i with
  | none => rw [e] at h; cases h
  | some j =>
    rw [e] at h
    obtain ⟨h1, h2, h3, h4⟩ := ixN_seq e
    exact ⟨j, h1, h, h2, h3, h4⟩
theorem atI_nat {α : Type} {xs : List α} {j : Nat} {v : α} (h : xs[j]? = some v) : atI xs (j : Int) = some v := by
  have hj : j < xs.length := (List.getElem?_eq_some_iff.mp h).1
  have e : ixN xs.length (j : Int) = some j := by
    unfold ixN
    rw [if_pos (by omega), if_pos (by omega)]; simp
  unfold atI; rw [e]; exact h
theorem atI_last {α : Type} (xs : List α) (v : α) : atI (xs ++ [v]) (-1) = some v := by
  have hl : (xs ++ [v]).length = xs.length + 1 := by simp
  have e : ixN (xs ++ [v]).length (-1) = some xs.length := by
    unfold ixN
    rw [hl, if_neg (by decide), if_pos (by omega)]
    congr 1
    omega
  unfold atI
  rw [e]
  show (xs ++ [v])[xs.length]? = some v
  simp
def PlainIx (b : Expr) : Prop := ∀ o i, subscripted b false o i = operate [o, i] (getItem o i)
def IxR (X : Cx) (r : R2) : Prop :=
  ∀ (value slice : Expr) (pins : List (Addr × Obj)) (s : Shared) (σ : St) (H : Hp) (x y : V) (v u : Value) (Q : VK), Inv X pins σ H s → RelV x v → RelV y u → r x y H Q →
    subscripted slice false v u = operate [v, u] (getItem v u) → wpAny (model X.prog X.w) X.A (subscriptTail value slice v u) (EP X pins σ Q) X.xe s
def MtR (X : Cx) (id : String) (r : V → List V → Hp → VK → Prop) : Prop :=
  ∀ (pins : List (Addr × Obj)) (s : Shared) (σ : St) (H : Hp) (x : V) (xs : List V) (v : Value) (us : List Value) (Q : VK), Inv X pins σ H s → RelV x v → Vals xs us → r x xs H Q →
    wpAny (model X.prog X.w) X.A (call (.builtin id) (v :: us)) (EP X pins σ Q) X.xe s
section
variable {X : Cx} {a b : Expr} {ta tb : TE} {pos : Pos}
theorem IxR.or {r r' : R2} (h : IxR X r) (h' : IxR X r') : IxR X (fun x y H Q => r x y H Q ∨ r' x y H Q) := by
  intro value slice pins s σ H x y v u Q I rx ry q hs
  rcases q with q | q
  · exact h value slice pins s σ H x y v u Q I rx ry q hs
  · exact h' value slice pins s σ H x y v u Q I rx ry q hs
theorem MtR.or {id : String} {r r' : V → List V → Hp → VK → Prop} (h : MtR X id r) (h' : MtR X id r') : MtR X id (fun x xs H Q => r x xs H Q ∨ r' x xs H Q) := by
  intro pins s σ H x xs v us Q I rx rs q
  rcases q with q | q
  · exact h pins s σ H x xs v us Q I rx rs q
  · exact h' pins s σ H x xs v us Q I rx rs q
theorem pe_ix {r : R2} (hr : IxR X r) (ha : PE X a ta) (hb : PE X b tb) (hs : PlainIx b) : PE X (.Subscript a b pos) (tOp r ta tb) := by
  intro pins s σ H Q I h
  exact Subscript_ (binT ha hb I h fun v u s2 x y H2 I2 rx ry q => hr a b pins s2 σ H2 x y v u Q I2 rx ry q (hs _ _))
def rIxL (K : PySem.W.Frag) : R2 := fun x y H Q => ∃ p xs i v, x = .ref p ∧ y = .int i ∧ SqL K H p xs ∧ atI xs i = some v ∧ Q v H
def rIxT (K : PySem.W.Frag) : R2 := fun x y H Q => ∃ p xs i v, x = .ref p ∧ y = .int i ∧ SqT K H p xs ∧ atI xs i = some v ∧ Q v H
def rIxS : R2 := fun x y H Q => ∃ z i c, x = .str z ∧ y = .int i ∧ z.length ≤ sizeLine ∧ atI z.cps.toList i = some c ∧ Q (.str ⟨#[c]⟩) H
theorem ix_list : IxR X (rIxL X.K) := by
  intro value slice pins s σ H x y v u Q I rx ry h hs
  obtain ⟨p, xs, i, z, rfl, rfl, hq, he, q⟩ := h
  cases rx
  obtain ⟨t, rfl⟩ := ry
  obtain ⟨its, r, pl, hz⟩ := I.list hq
  obtain ⟨j, h1, h2, h3, h4, h5⟩ := atI_get he
  obtain ⟨w, ew, rw'⟩ := r.get h2
  have hl := r.length
  have hn := line63
  have fin : EP X pins σ Q w s := ⟨z, H, I, rw', q⟩
  by_cases h0 : 0 ≤ i
  · have hj : i.toNat = j := by
      rw [seqIndex_of h0 h5] at h1
      exact Option.some.inj h1
    exact item_listR pl.isList h0 (by omega) (by rw [hj]; simpa using ew) fin hs
  · have hj : (i + (its.toArray.size : Int)).toNat = j := by
      rw [seqIndex_neg (by omega) h4] at h1
      rw [List.size_toArray, ← hl]
      exact Option.some.inj h1
    exact subscriptTail_builtinR (x := w) pl.isList.typeIs slot_list_getitem.lookup
      (wpAny_getItem_list_neg (Q := fun r s' => r = w ∧ EP X pins σ Q r s') pl.isList (by omega) (by rw [List.size_toArray] <;> omega) (by omega) (by rw [hj]; simpa using ew) ⟨rfl, fin⟩) hs
theorem ix_tup : IxR X (rIxT X.K) := by
  intro value slice pins s σ H x y v u Q I rx ry h hs
  obtain ⟨p, xs, i, z, rfl, rfl, hq, he, q⟩ := h
  cases rx
  obtain ⟨t, rfl⟩ := ry
  obtain ⟨its, r, pl, hz⟩ := I.tuple hq
  obtain ⟨j, h1, h2, h3, h4, h5⟩ := atI_get he
  obtain ⟨w, ew, rw'⟩ := r.get h2
  have hl := r.length
  have hn := line63
  have fin : EP X pins σ Q w s := ⟨z, H, I, rw', q⟩
  exact subscriptTail_builtinR (x := w) pl.typeIs slot_tuple_getitem.lookup
    (getItem_tuple (j := j) (Q := fun r s' => r = w ∧ EP X pins σ Q r s') pl (by omega) (by omega) (by rw [List.size_toArray, ← hl]; exact h1) (by simpa using ew) ⟨rfl, fin⟩) hs
theorem ix_str : IxR X rIxS := by
  intro value slice pins s σ H x y v u Q I rx ry h hs
  obtain ⟨z, i, c, rfl, rfl, hz, he, q⟩ := h
  obtain ⟨t, rfl⟩ := rx
  obtain ⟨t', rfl⟩ := ry
  obtain ⟨j, h1, h2, h3, h4, h5⟩ := atI_get he
  have hl : z.cps.toList.length = z.length := by simp [Str.length]
  rw [hl] at h1 h4 h5
  have hn := line63
  exact tail_any (typeIs_str s z t) slot_str_getitem.lookup (getItem_str (c := c) (by
    have e1 : decide (i < -(2 ^ 63 : Int)) = false := decide_eq_false (by omega)
    have e2 : decide (i ≥ 2 ^ 63) = false := decide_eq_false (by omega)
    rw [e1, e2, Bool.or_false]) (by rw [h1]; simpa using h2) ⟨.str ⟨#[c]⟩, H, I.tok _, ⟨_, rfl⟩, q⟩) hs
def rIx (K : PySem.W.Frag) : R2 := fun x y H Q => rIxL K x y H Q ∨ rIxT K x y H Q ∨ rIxS x y H Q
theorem ix_seq : IxR X (rIx X.K) := ix_list.or (ix_tup.or ix_str)
theorem Inv.lst {pins : List (Addr × Obj)} {σ : St} {H : Hp} {s : Shared} {p : Addr} {xs : List V} (I : Inv X pins σ H s) (h : H p = some (.lst xs)) :
    ∃ (its : List Value) (n : Nat), Vals xs its ∧ s.heap.get? p = some { cls := .type "list", data := .seq its.toArray n } ∧ xs.length ≤ sizeLine := by
  obtain ⟨z, its, n, r, e⟩ := I.hok p _ h
  exact ⟨its, n, r, e, z⟩
theorem slice_bounds (lo hi : Option Int) (n : Nat) : (sliceBounds lo hi none n).1 = ((HT.sIx n 0 lo : Nat) : Int) ∧ (sliceBounds lo hi none n).2.1 = ((HT.sIx n n hi : Nat) : Int) ∧ (sliceBounds lo hi none n).2.2 = 1 := by
  refine ⟨?_, ?_, rfl⟩
  · cases lo with
    | none => simp [sliceBounds, HT.sIx]
    | some i =>
      simp only [sliceBounds, HT.sIx, Option.getD_none, show (1 : Int) > 0 by decide, if_true]
      by_cases h : i < 0
      · simp only [h, if_true] <;> omega
      · simp only [h, if_false] <;> omega
  · cases hi with
    | none => simp [sliceBounds, HT.sIx]
    | some i =>
      simp only [sliceBounds, HT.sIx, Option.getD_none, show (1 : Int) > 0 by decide, if_true]
      by_cases h : i < 0
      · simp only [h, if_true] <;> omega
      · simp only [h, if_false] <;> omega
theorem slicePick_cut (its : List Value) (lo hi : Option Int) : slicePick its.toArray lo hi none = ((its.drop (HT.sIx its.length 0 lo)).take (HT.sIx its.length its.length hi - HT.sIx its.length 0 lo)).toArray := by
  obtain ⟨h1, h2, h3⟩ := slice_bounds lo hi its.toArray.size
  unfold slicePick
  rw [h1, h2, h3]
  simp only [sliceRange_one, pick_run, List.size_toArray] <;> rfl
def rSlL (K : PySem.W.Frag) : V → Option Int → Option Int → Hp → VK → Prop := fun x lo hi H Q => ∃ a xs, x = .ref a ∧ SqL K H a xs ∧ ∀ p, H p = none → Q (.ref p) (upd H p (.lst (cutV xs lo hi)))
theorem sl_list : SlR X (rSlL X.K) := by
  intro pins s σ H x v vl vu lo hi sl Q I rx hs pl pu h
  obtain ⟨a, xs, rfl, hx, q⟩ := h
  cases rx
  obtain ⟨its, r, ht, hz⟩ := I.list hx
  have hlen := r.length
  refine ⟨"list", _, slot_list_getitem.lookup, ht.isList.typeIs, ?_⟩
  refine wpAny_getItem_list_slice ht.isList hs pl pu .none (by simp) ?_ (by rw [List.size_toArray] <;> omega)
  rw [slicePick_cut, ← hlen]
  refine ⟨.ref s.heap.objs.size, _, I.laid (t' := s.toks) (o := .lst (cutV xs lo hi)) (fun b ob q => Heap.get?_push_of_some _ q) (Nat.le_refl _) ?_, rfl, q _ (I.hok.fresh (Nat.le_refl _))⟩
  exact ⟨Nat.le_trans (cutV_length xs lo hi) hz, _, 0, (r.drop (HT.sIx xs.length 0 lo)).take (HT.sIx xs.length xs.length hi - HT.sIx xs.length 0 lo), Heap.get?_push_size _ rfl⟩
def flatV : V → Bool
  | .non => true
  | .bl _ => true
  | .int _ => true
  | .str _ => true
  | _ => false
def eqV : V → V → Bool
  | .non, .non => true
  | .bl a, .bl b => a == b
  | .bl a, .int b => (if a then 1 else 0) == b
  | .int a, .bl b => a == (if b then 1 else 0)
  | .int a, .int b => a == b
  | .str a, .str b => a == b
  | _, _ => false
theorem eqAt_V {A : Around} {s : Shared} {y x : V} {u v : Value} (ry : RelV y u) (rx : RelV x v) (fy : flatV y = true) (fx : flatV x = true) : SeqAt.EqAt A s u v (eqV y x) := by
  cases y with
  | non =>
    cases ry
    cases x with
    | non => cases rx; exact SeqAt.EqAt.same _
    | bl b => cases rx; exact SeqAt.EqAt.none_bool b
    | int b => obtain ⟨t, rfl⟩ := rx; exact SeqAt.EqAt.none_int b t
    | str b => obtain ⟨t, rfl⟩ := rx; exact SeqAt.EqAt.none_str b t
    | _ => exact absurd (show false = true from fx) Bool.false_ne_true
  | bl a =>
    cases ry
    cases x with
    | non => cases rx; exact SeqAt.EqAt.bool_none a
    | bl b => cases rx; exact SeqAt.EqAt.bool_bool a b
    | int b => obtain ⟨t, rfl⟩ := rx; exact SeqAt.EqAt.bool_int a b t
    | str b => obtain ⟨t, rfl⟩ := rx; exact SeqAt.EqAt.bool_str a b t
    | _ => exact absurd (show false = true from fx) Bool.false_ne_true
  | int a =>
    obtain ⟨t', rfl⟩ := ry
    cases x with
    | non => cases rx; exact SeqAt.EqAt.int_none a t'
    | bl b => cases rx; exact SeqAt.EqAt.int_bool a t' b
    | int b => obtain ⟨t, rfl⟩ := rx; exact SeqAt.EqAt.int_int a t' b t
    | str b => obtain ⟨t, rfl⟩ := rx; exact SeqAt.EqAt.int_str a t' b t
    | _ => exact absurd (show false = true from fx) Bool.false_ne_true
  | str a =>
    obtain ⟨t', rfl⟩ := ry
    cases x with
    | non => cases rx; exact SeqAt.EqAt.str_none a t'
    | bl b => cases rx; exact SeqAt.EqAt.str_bool a t' b
    | int b => obtain ⟨t, rfl⟩ := rx; exact SeqAt.EqAt.str_int a t' b t
    | str b => obtain ⟨t, rfl⟩ := rx; exact SeqAt.EqAt.str_str a t' b t
    | _ => exact absurd (show false = true from fx) Bool.false_ne_true
  | _ => exact absurd (show false = true from fy) Bool.false_ne_true
def eqU (x : V) (u : Value) : Bool := match u with
  | .none => eqV .non x
  | .bool b => eqV (.bl b) x
  | .int i _ => eqV (.int i) x
  | .str z _ => eqV (.str z) x
  | _ => false
theorem eqU_of {x y : V} {u : Value} (r : RelV y u) (f : flatV y = true) : eqU x u = eqV y x := by
  cases y with
  | non => cases r; rfl
  | bl b => cases r; rfl
  | int i => obtain ⟨t, rfl⟩ := r; rfl
  | str z => obtain ⟨t, rfl⟩ := r; rfl
  | _ => exact absurd (show false = true from f) Bool.false_ne_true
theorem any_eqU {x : V} : ∀ {xs : List V} {us : List Value}, Vals xs us → xs.all flatV = true → us.any (eqU x) = xs.any fun y => eqV y x
  | _, _, .nil, _ => rfl
  | y :: xs, u :: us, .cons r t, f => by
    rw [List.all_cons, Bool.and_eq_true] at f
    rw [List.any_cons, List.any_cons, eqU_of r f.1, any_eqU t f.2]
theorem mem_eqAt {A : Around} {s : Shared} {x : V} {v : Value} (rx : RelV x v) (fx : flatV x = true) : ∀ {xs : List V} {us : List Value}, Vals xs us → xs.all flatV = true → ∀ u ∈ us, SeqAt.EqAt A s u v (eqU x u)
  | _, _, .nil, _ => fun u hu => by cases hu
  | y :: xs, u :: us, .cons r t, f => fun u' hu => by
    rw [List.all_cons, Bool.and_eq_true] at f
    rcases List.mem_cons.mp hu with rfl | hu
    · rw [eqU_of r f.1]; exact eqAt_V r rx f.1 fx
    · exact mem_eqAt rx fx t f.2 u' hu
def inV (x : V) (xs : List V) : Bool := xs.any fun y => eqV y x
def rIn (K : PySem.W.Frag) (neg : Bool) : R2 := fun x y H Q => ∃ p xs, y = .ref p ∧ (SqL K H p xs ∨ SqT K H p xs) ∧ flatV x = true ∧ xs.all flatV = true ∧ Q (.bl (if neg then !inV x xs else inV x xs)) H
theorem op_in_seq : OpR X (compareOp .In) (rIn X.K false) := by
  intro pins s σ H x y v u Q I rx ry h
  obtain ⟨p, xs, rfl, hq, fx, fs, q⟩ := h
  cases ry
  rcases hq with hq | hq
  · obtain ⟨its, r, pl, hz⟩ := I.list hq
    refine SeqAt.in_listAt (eqU x) pl.isList (fun w hw => mem_eqAt rx fx r fs w (by simpa using hw)) ⟨.bl _, H, I, rfl, ?_⟩
    rw [show its.toArray.any (eqU x) = its.any (eqU x) by simp, any_eqU r fs]
    exact q
  · obtain ⟨its, r, pl, hz⟩ := I.tuple hq
    refine SeqAt.in_tupleAt (eqU x) pl (fun w hw => mem_eqAt rx fx r fs w (by simpa using hw)) ⟨.bl _, H, I, rfl, ?_⟩
    rw [show its.toArray.any (eqU x) = its.any (eqU x) by simp, any_eqU r fs]
    exact q
theorem CallR.or {f : Value} {r r' : List V → Hp → VK → Prop} (h : CallR X f r) (h' : CallR X f r') : CallR X f (fun xs H Q => r xs H Q ∨ r' xs H Q) := by
  intro pins s σ H xs us Q I rs q
  rcases q with q | q
  · exact h pins s σ H xs us Q I rs q
  · exact h' pins s σ H xs us Q I rs q
theorem call_list_of : CallR X (.type "list") (fun xs H Q => ∃ p ys, xs = [.ref p] ∧ (SqL X.K H p ys ∨ SqT X.K H p ys) ∧ ∀ l, H l = none → Q (.ref l) (upd H l (.lst ys))) := by
  intro pins s σ H xs us Q I r h
  obtain ⟨p, ys, rfl, hq, q⟩ := h
  obtain ⟨u, rfl, rx⟩ := vals1 r
  cases rx
  have fin : ∀ (its : List Value), Vals ys its → ys.length ≤ sizeLine → ∀ (h' : Heap) (c' : Nat), (∀ b o', s.heap.get? b = some o' → h'.get? b = some o') →
      h'.get? s.heap.objs.size = some { cls := .type "list", dict := none, data := .seq its.toArray c', slots := #[] } → EP X pins σ Q (.ref s.heap.objs.size) { s with heap := h' } := fun its r' hz h' c' kp e =>
    ⟨.ref s.heap.objs.size, _, I.laid (t' := s.toks) kp (Nat.le_refl _) (show ObjOk X.prog X.w _ h' _ (.lst ys) from ⟨hz, its, c', r', e⟩), rfl, q _ (I.hok.fresh (Nat.le_refl _))⟩
  rcases hq with hq | hq
  · obtain ⟨its, r', pl, hz⟩ := I.list hq
    have hlen := r'.length
    obtain ⟨o, ho, hc, n, hd⟩ := pl.isList
    exact call_list_seq p (.inl rfl) ho hc hd (fun h' c' kp e => fin its r' hz h' c' kp e) (by simp only [List.size_toArray] <;> omega)
  · obtain ⟨its, r', pl, hz⟩ := I.tuple hq
    have hlen := r'.length
    obtain ⟨o, ho, hc, n, hd⟩ := pl
    exact call_list_seq p (.inr rfl) ho hc hd (fun h' c' kp e => fin its r' hz h' c' kp e) (by simp only [List.size_toArray] <;> omega)
def tyV (K : PySem.W.Frag) (T : String) (x : V) (H : Hp) : Prop := match x with
  | .str _ => T = "str"
  | .int _ => T = "int"
  | .ref p => (T = "list" ∧ ∃ xs, SqL K H p xs) ∨ (T = "tuple" ∧ ∃ o, K.lookup p = some o ∧ o.cls = .type "tuple" ∧ o.dict = none) ∨
      (T = "dict" ∧ ((∃ kvs, H p = some (.dK kvs)) ∨ ∃ kvs, H p = some (.dT kvs))) ∨ (T = "set" ∧ ∃ S n, H p = some (.set S n))
  | _ => False
theorem tyV_is {pins : List (Addr × Obj)} {σ : St} {H : Hp} {s : Shared} {T : String} {x : V} {v : Value} (I : Inv X pins σ H s) (r : RelV x v) (ty : tyV X.K T x H) :
    s.TypeIs v T ∧ ∀ a, v = .ref a → ∃ ob, s.heap.get? a = some ob ∧ ob.dict = none := by
  cases x with
  | str z =>
    obtain ⟨t, rfl⟩ := r
    cases (show T = "str" from ty)
    exact ⟨typeIs_str s z t, fun _ e => nomatch e⟩
  | int i =>
    obtain ⟨t, rfl⟩ := r
    cases (show T = "int" from ty)
    exact ⟨typeIs_int s i t, fun _ e => nomatch e⟩
  | ref p =>
    cases r
    rcases ty with ⟨rfl, xs, hq⟩ | ⟨rfl, o, hk, hc, hd⟩ | ⟨rfl, hk⟩ | ⟨rfl, S, n, hk⟩
    · obtain ⟨its, _, pl, _⟩ := I.list hq
      refine ⟨pl.isList.typeIs, fun a e => ?_⟩
      cases e
      obtain ⟨o, n, e, c, hd, _⟩ := pl
      exact ⟨o, e, hd⟩
    · refine ⟨⟨o, I.kIn p o hk, hc⟩, fun a e => ?_⟩
      cases e
      exact ⟨o, I.kIn _ o hk, hd⟩
    · have z : ∃ o, s.heap.get? p = some o ∧ o.ExactDict := by
        rcases hk with ⟨kvs, hk⟩ | ⟨kvs, hk⟩
        · obtain ⟨_, _, _, _, o, _, _, e, ex, _⟩ := I.hok p _ hk
          exact ⟨o, e, ex⟩
        · obtain ⟨_, _, _, _, o, _, _, e, ex, _⟩ := I.hok p _ hk
          exact ⟨o, e, ex⟩
      obtain ⟨o, e, ex⟩ := z
      refine ⟨⟨o, e, ex.1⟩, fun a e2 => ?_⟩
      cases e2
      exact ⟨o, e, ex.2.1⟩
    · obtain ⟨o, _, _, _, e, ex, _⟩ := I.hok p _ hk
      refine ⟨⟨o, e, ex.1⟩, fun a e2 => ?_⟩
      cases e2
      exact ⟨o, e, ex.2.1⟩
  | _ => exact False.elim ty
def tBM (K : PySem.W.Frag) (T : String) (r : V → List V → Hp → VK → Prop) (to : TE) (t : TA) : TE := fun σ H Q => to σ H fun x H1 => tyV K T x H1 ∧ t σ H1 fun xs H2 => r x xs H2 Q
variable {o e : Expr} {es : List Expr} {to : TE} {t : TA} {name : Str} {apos cpos : Pos} {T id : String} {r : V → List V → Hp → VK → Prop}
theorem pe_bm (pa : PlainAttrs T) (slot : Slot T name id) (hty : typeOf (.builtin id) = pure (.type "method_descriptor")) (hm : MtR X id r) (ho : PE X o to) (ha : PA X (e :: es) t)
    (hbase : attributeBase o name X.env (eval o X.env) = eval o X.env := by rfl)
    (hfew : ((backTo cpos (starEach (e :: es) X.env)).all (fun x => !x.1) && (backToKw cpos (keywordEach [] X.env)).all (fun x => x.1.isSome)
      && decide ((e :: es).length + ([] : List Keyword).length + (if ([] : List Keyword).isEmpty then 0 else 1) < 30)) = true := by rfl)
    (hline : (apos.endLine == cpos.line) = true := by rfl) (hs : starEach (e :: es) X.env = (false, eval e X.env) :: starEach es X.env := by rfl) (hplain : (backTo cpos (starEach es X.env)).any (·.1) = false := by rfl) :
    PE X (.Call (.Attribute o name apos) (e :: es) [] cpos) (tBM X.K T r to t) := by
  intro pins s σ H Q I h
  refine wpAny_Call_method_late hbase hfew hline rfl (thn (ho pins s σ H _ I h) fun v s1 ⟨x, H1, I1, r1, ty, q1⟩ => ?_)
  obtain ⟨h1, h2⟩ := tyV_is I1 r1 ty
  refine ⟨T, id, pa, slot, hty, h1, h2, ?_⟩
  have hA := ha cpos pins s1 σ H1 _ I1 q1
  rw [hs] at hA ⊢
  refine Calls.callWith_builtin (by show (false || (backTo cpos (starEach es X.env)).any (·.1)) = false; rw [hplain] <;> rfl) (Calls.evalArgs_plain ?_)
  exact thn hA fun us s2 ⟨vs, H2, I2, r2, q2⟩ => hm pins s2 σ H2 x vs v us Q I2 r1 r2 q2
end
end L2
namespace L2
open PySem PySem.Spec PyProof.Rows
def MtM (X : Cx) (id : String) (r : V → List V → Hp → VK → Prop) : Prop :=
  ∀ (pins : List (Addr × Obj)) (s : Shared) (σ : St) (H : Hp) (x : V) (xs : List V) (v : Value) (us : List Value) (Q : VK), Inv X pins σ H s → RelV x v → Vals xs us → r x xs H Q →
    wpAny (model X.prog X.w) X.A (call (.builtin id) (v :: us)) (EP X pins σ Q) X.xe s
theorem Vals.one : ∀ {x : V} {us : List Value}, Vals [x] us → ∃ u, us = [u] ∧ RelV x u
  | _, _, .cons r .nil => ⟨_, rfl, r⟩
theorem Vals.two : ∀ {x y : V} {us : List Value}, Vals [x, y] us → ∃ u v, us = [u, v] ∧ RelV x u ∧ RelV y v
  | _, _, _, .cons r (.cons q .nil) => ⟨_, _, rfl, r, q⟩
theorem Vals.zero : ∀ {us : List Value}, Vals [] us → us = []
  | _, .nil => rfl
theorem Vals.rep {xs : List V} {us : List Value} (h : Vals xs us) : ∀ k : Nat, Vals (List.replicate k xs).flatten (List.replicate k us).flatten
  | 0 => .nil
  | k + 1 => by
    rw [List.replicate_succ, List.replicate_succ, List.flatten_cons, List.flatten_cons]
    exact Vals.append h (Vals.rep h k)
theorem foldl_rep (its : List Value) : ∀ (k : Nat) (acc : List Value),
    List.foldl (fun x1 x2 => x1 ++ x2) acc.toArray (List.replicate k its.toArray) = (acc ++ (List.replicate k its).flatten).toArray
  | 0, acc => by simp
  | k + 1, acc => by
    have e : acc.toArray ++ its.toArray = (acc ++ its).toArray := by simp
    have e2 : (acc ++ its) ++ (List.replicate k its).flatten = acc ++ (List.replicate (k + 1) its).flatten := by
      rw [List.replicate_succ, List.flatten_cons, List.append_assoc]
    rw [← e2, ← foldl_rep its k (acc ++ its), ← e, List.replicate_succ, List.foldl_cons]
section
variable {X : Cx} {pins : List (Addr × Obj)} {σ : St} {H : Hp} {s : Shared} {l b : Addr} {xs ys zs : List V}
theorem Inv.lset {its its' : List Value} {n : Nat} {f : Array Value → Array Value} {t' : Nat} (I : Inv X pins σ H s) (hH : H l = some (.lst xs))
    (e : s.heap.get? l = some { cls := .type "list", data := .seq its.toArray n }) (hf : f its.toArray = its'.toArray) (hv : Vals ys its') (hz : ys.length ≤ sizeLine) :
    Inv X pins σ (upd H l (.lst ys)) { s with heap := s.heap.update l (Obj.mapSeq f), toks := t' } := by
  have q := PySem.IsL.update e f
  rw [hf] at q
  refine I.write (x := l) (e := l) (by rw [hH]; exact trivial) (.inl rfl) (fun b' u hb hu => (Heap.get?_update_other s.heap (Obj.mapSeq f) (Ne.symm hb)).trans hu) ⟨_, q⟩ ?_
  exact ⟨hz, its', _, hv, q⟩
theorem Inv.lnew {its : List Value} {t' : Nat} (I : Inv X pins σ H s) (hv : Vals ys its) (hz : ys.length ≤ sizeLine) :
    Inv X pins σ (upd H s.heap.objs.size (.lst ys)) { s with heap := s.heap.push { cls := .type "list", data := .seq its.toArray }, toks := t' } :=
  I.laid (fun _ _ q => Heap.get?_push_of_some _ q) (Nat.le_refl _) ⟨hz, its, 0, hv, Heap.get?_push_size _ rfl⟩
theorem Inv.fresh (I : Inv X pins σ H s) : H s.heap.objs.size = none := I.hok.fresh (Nat.le_refl _)
theorem Inv.lstM (I : Inv X pins σ H s) (hH : H l = some (.lst xs)) : xs.length ≤ sizeLine ∧ ∃ (its : List Value) (n : Nat), Vals xs its ∧ xs.length = its.length ∧ s.heap.get? l = some { cls := .type "list", data := .seq its.toArray n } := by
  obtain ⟨z, its, n, r, e⟩ := I.hok l _ hH
  exact ⟨z, its, n, r, r.length, e⟩
theorem notLongL {n : Nat} (h : n ≤ sizeLine) : Builtin.List.listTooLong n = false := by
  unfold Builtin.List.listTooLong
  exact decide_eq_false (by omega)
end
section
variable {X : Cx}
def rAppend : V → List V → Hp → VK → Prop := fun x vs H Q => ∃ l xs y, x = .ref l ∧ vs = [y] ∧ H l = some (.lst xs) ∧ xs.length < sizeLine ∧ Q .non (upd H l (.lst (xs ++ [y])))
theorem mt_append : MtM X "list.append" rAppend := by
  intro pins s σ H x vs v us Q I rx rv h
  obtain ⟨l, xs, y, rfl, rfl, hH, hz, q⟩ := h
  cases rx
  obtain ⟨u, rfl, ru⟩ := rv.one
  obtain ⟨z, its, n, r, hl, e⟩ := I.lstM hH
  refine call_meets F.slot_list_append ⟨_, e, rfl⟩ F.entry_list_append (F.args_list_append_2 _ _) (PySem.list_append l its.toArray n u (by rw [List.size_toArray]; omega)) ⟨e, ?_⟩
  refine ⟨.non, _, I.lset (its' := its ++ [u]) hH e (by simp) (r.append (.cons ru .nil)) ?_, rfl, q⟩
  rw [List.length_append, List.length_singleton]
  omega
def rExtend : V → List V → Hp → VK → Prop := fun x vs H Q => ∃ l b xs zs, x = .ref l ∧ vs = [.ref b] ∧ H l = some (.lst xs) ∧ H b = some (.lst zs) ∧ xs.length + zs.length ≤ sizeLine ∧ Q .non (upd H l (.lst (xs ++ zs)))
theorem mt_extend : MtM X "list.extend" rExtend := by
  intro pins s σ H x vs v us Q I rx rv h
  obtain ⟨l, b, xs, zs, rfl, rfl, hH, hB, hz, q⟩ := h
  cases rx
  obtain ⟨u, rfl, ru⟩ := rv.one
  cases ru
  obtain ⟨z, its, n, r, hl, e⟩ := I.lstM hH
  obtain ⟨z2, its2, n2, r2, hl2, e2⟩ := I.lstM hB
  have hsz : its.toArray.size + its2.toArray.size ≤ sizeLine := by rw [List.size_toArray, List.size_toArray]; omega
  have hlong : ¬ (!its.toArray.isEmpty && Builtin.List.listTooLong (its.toArray.size + its2.toArray.size)) = true := by
    rw [notLongL hsz, Bool.and_false]
    exact Bool.false_ne_true
  refine call_meets F.slot_list_extend ⟨_, e, rfl⟩ F.entry_list_extend (F.args_list_extend_2 _ _)
    (AutoSeq1.list_extend_list_list_0 l its.toArray n b its2.toArray n2 hlong (by rw [List.size_toArray]; omega) (by omega)) ⟨e, e2, ?_⟩
  refine ⟨.non, _, I.lset (its' := its ++ its2) hH e (by simp) (r.append r2) ?_, rfl, q⟩
  rw [List.length_append]
  omega
def rCat : R2 := fun x y H Q => ∃ l b xs zs, x = .ref l ∧ y = .ref b ∧ H l = some (.lst xs) ∧ H b = some (.lst zs) ∧ xs.length + zs.length ≤ sizeLine ∧ ∀ p, H p = none → Q (.ref p) (upd H p (.lst (xs ++ zs)))
theorem op_cat : OpR X (binaryOp .Add) rCat := by
  intro pins s σ H x y v u Q I rx ry h
  obtain ⟨l, b, xs, zs, rfl, rfl, hH, hB, hz, q⟩ := h
  cases rx
  cases ry
  obtain ⟨z, its, n, r, hl, e⟩ := I.lstM hH
  obtain ⟨z2, its2, n2, r2, hl2, e2⟩ := I.lstM hB
  refine PySem.P.add_list e e2 ?_ (by rw [List.size_toArray, List.size_toArray]; omega)
  have ea : its.toArray ++ its2.toArray = (its ++ its2).toArray := by simp
  rw [ea]
  exact ⟨.ref _, _, I.lnew (t' := s.toks) (r.append r2) (by rw [List.length_append]; omega), rfl, q _ I.fresh⟩
def rRep : R2 := fun x y H Q => ∃ l k xs, x = .ref l ∧ y = .int k ∧ H l = some (.lst xs) ∧ -(2 ^ 63) ≤ k ∧ k < 2 ^ 63 ∧ xs.length * k.toNat ≤ sizeLine ∧
  ∀ p, H p = none → Q (.ref p) (upd H p (.lst (List.replicate k.toNat xs).flatten))
theorem len_rep {α : Type} (xs : List α) (k : Nat) : (List.replicate k xs).flatten.length = k * xs.length := by
  induction k with
  | zero => simp
  | succ k ih => rw [List.replicate_succ, List.flatten_cons, List.length_append, ih, Nat.succ_mul, Nat.add_comm]
theorem op_rep : OpR X (binaryOp .Mult) rRep := by
  intro pins s σ H x y v u Q I rx ry h
  obtain ⟨l, k, xs, rfl, rfl, hH, h1, h2, hz, q⟩ := h
  cases rx
  obtain ⟨t, rfl⟩ := ry
  obtain ⟨z, its, n, r, hl, e⟩ := I.lstM hH
  have hlen : its.toArray.size * k.toNat ≤ sizeLine := by rw [List.size_toArray, ← hl]; exact hz
  have hcap : ¬ its.toArray.size * k.toNat > (2 ^ 63 - 1) / 8 := by
    have : (sizeLine : Nat) ≤ (2 ^ 63 - 1) / 8 := by decide
    omega
  have hfit : ¬ (!Builtin.List.listFitsIndex k) = true := by
    rw [fitsIndex_both h1 h2]
    exact Bool.false_ne_true
  have hlong : ¬ Builtin.List.listTooLong (its.toArray.size * k.toNat) = true := by
    rw [notLongL hlen]
    exact Bool.false_ne_true
  have hnew : List.foldl (fun x1 x2 => x1 ++ x2) #[] (List.replicate (if its.toArray.isEmpty = true then 0 else k.toNat) its.toArray) = (List.replicate k.toNat its).flatten.toArray := by
    have f0 : ∀ m : Nat, List.foldl (fun x1 x2 => x1 ++ x2) #[] (List.replicate m its.toArray) = (List.replicate m its).flatten.toArray := fun m => by
      have := foldl_rep its m []
      rw [List.nil_append] at this
      exact this
    rw [f0]
    cases its with
    | nil => simp
    | cons a r' => rw [if_neg (by simp)]
  refine wpAny_binaryOp_repeat_ref (T := "list") (U := "int") (by decide) ⟨_, e, rfl⟩ (fun s' => typeIs_int s' k t) noFill_list_mul F.fills_int_mul F.slot_int_rmul repeat_list F.slot_int_index.lookup
    (call_meets F.slot_int_rmul (typeIs_int s k t) F.entry_int_rmul (F.args_int_rmul_2 _ _) (int___rmul___int_list k t l its.toArray n)
      ⟨e, rfl, ⟨_, e, rfl⟩, call_meets F.slot_list_mul ⟨_, e, rfl⟩ F.entry_list_mul (F.args_list_mul_2 _ _) (AutoListH.list___mul___list_int_3 l its.toArray n k t hfit hcap hlong) ⟨e, ?_⟩⟩)
  rw [hnew]
  exact ⟨.ref _, _, I.lnew (t' := s.toks) (r.rep k.toNat) (by rw [len_rep, Nat.mul_comm]; exact hz), rfl, q _ I.fresh⟩
end
section
variable {prog : Program} {w : World} {A : Around} {E : Value → Shared → Prop} {s : Shared}
end
section
variable {X : Cx}
end
end L2
namespace L2
open PySem PySem.Spec PyProof.Rows
section
variable {κ : Type} [DecidableEq κ]
def valV (kvs : List (κ × V)) (k : κ) : Option V := (kvs.find? fun kv => decide (kv.1 = k)).map (·.2)
def putK (kvs : List (κ × V)) (k : κ) (v : V) : List (κ × V) :=
  if (kvs.any fun kv => decide (kv.1 = k)) = true then kvs.map (fun kv => if kv.1 = k then (kv.1, v) else kv) else kvs ++ [(k, v)]
def dropK (kvs : List (κ × V)) (k : κ) : List (κ × V) := kvs.filter fun kv => decide (kv.1 ≠ k)
theorem valV_pos {p : κ × V} {r : List (κ × V)} {k : κ} (e : p.1 = k) : valV (p :: r) k = some p.2 := by simp [valV, List.find?_cons, e]
theorem valV_neg {p : κ × V} {r : List (κ × V)} {k : κ} (e : ¬ p.1 = k) : valV (p :: r) k = valV r k := by simp [valV, List.find?_cons, e]
theorem valV_any (k : κ) : ∀ kvs : List (κ × V), (kvs.any fun kv => decide (kv.1 = k)) = (valV kvs k).isSome
  | [] => rfl
  | p :: r => by
    rw [List.any_cons]
    by_cases e : p.1 = k
    · simp only [valV_pos e, decide_eq_true e, Bool.true_or, Option.isSome_some]
    · rw [valV_neg e, decide_eq_false e, Bool.false_or]; exact valV_any k r
theorem RelO.isSome_eq {o : Option V} {u : Option Value} (r : RelO o u) : o.isSome = u.isSome := by
  cases o with
  | none => cases u with
    | none => rfl
    | some _ => exact (show False from r).elim
  | some _ => cases u with
    | none => exact (show False from r).elim
    | some _ => rfl
theorem RelO.getD {o : Option V} {u : Option Value} {d : V} {d' : Value} (r : RelO o u) (rd : RelV d d') : RelV (o.getD d) (u.getD d') := by
  cases o with
  | none => cases u with
    | none => exact rd
    | some _ => exact (show False from r).elim
  | some _ => cases u with
    | none => exact (show False from r).elim
    | some _ => exact r
theorem KV.val {kvs : List (κ × V)} {vs : List (κ × Value)} (r : KV kvs vs) (k : κ) : RelO (valV kvs k) (valueAt vs k) := by
  unfold KV at r
  induction r with
  | nil => exact True.intro
  | @cons p q ps qs h t ih =>
    obtain ⟨h1, h2⟩ := h
    by_cases e : p.1 = k
    · have e' : q.1 = k := h1.symm.trans e
      have b : valueAt (q :: qs) k = some q.2 := by simp [valueAt, List.find?_cons, e']
      rw [valV_pos e, b]; exact h2
    · have e' : ¬ q.1 = k := fun z => e (h1.trans z)
      have b : valueAt (q :: qs) k = valueAt qs k := by simp [valueAt, List.find?_cons, e']
      rw [valV_neg e, b]; exact ih
theorem KV.any {kvs : List (κ × V)} {vs : List (κ × Value)} (r : KV kvs vs) (k : κ) : (kvs.any fun kv => decide (kv.1 = k)) = vs.any fun kv => decide (kv.1 = k) := by
  unfold KV at r
  induction r with
  | nil => rfl
  | cons h t ih => rw [List.any_cons, List.any_cons, ih, h.1]
theorem KV.repl {kvs : List (κ × V)} {vs : List (κ × Value)} (r : KV kvs vs) (k : κ) {y : V} {u : Value} (ry : RelV y u) :
    KV (kvs.map fun kv => if kv.1 = k then (kv.1, y) else kv) (vs.map fun kv => if kv.1 = k then (kv.1, u) else kv) := by
  unfold KV at r ⊢
  induction r with
  | nil => exact .nil
  | @cons p q ps qs h t ih =>
    rw [List.map_cons, List.map_cons]
    refine .cons ?_ ih
    obtain ⟨h1, h2⟩ := h
    by_cases e : p.1 = k
    · rw [if_pos e, if_pos (h1.symm.trans e)]; exact ⟨h1, ry⟩
    · rw [if_neg e, if_neg (fun z => e (h1.trans z))]; exact ⟨h1, h2⟩
theorem KV.put {kvs : List (κ × V)} {vs : List (κ × Value)} (r : KV kvs vs) (k : κ) {y : V} {u : Value} (ry : RelV y u) : KV (putK kvs k y) (stored vs k u) := by
  unfold putK stored
  rw [r.any k]
  by_cases e : (vs.any fun kv => decide (kv.1 = k)) = true
  · rw [if_pos e, if_pos e]; exact r.repl k ry
  · rw [if_neg e, if_neg e]; exact Paired.snoc r ⟨rfl, ry⟩
theorem KV.drop {kvs : List (κ × V)} {vs : List (κ × Value)} (r : KV kvs vs) (k : κ) : KV (dropK kvs k) (without vs k) := by
  unfold KV at r ⊢
  unfold dropK without
  induction r with
  | nil => exact .nil
  | @cons p q ps qs h t ih =>
    obtain ⟨h1, h2⟩ := h
    rw [List.filter_cons, List.filter_cons]
    by_cases e : p.1 = k
    · have a : ¬ decide (p.1 ≠ k) = true := by simp [e]
      have b : ¬ decide (q.1 ≠ k) = true := by simp [h1.symm.trans e]
      rw [if_neg a, if_neg b]; exact ih
    · have e' : ¬ q.1 = k := fun z => e (h1.trans z)
      have a : decide (p.1 ≠ k) = true := by simp [e]
      have b : decide (q.1 ≠ k) = true := by simp [e']
      rw [if_pos a, if_pos b]; exact .cons ⟨h1, h2⟩ ih
theorem KV.keys {kvs : List (κ × V)} {vs : List (κ × Value)} (r : KV kvs vs) : kvs.map (·.1) = vs.map (·.1) := by
  unfold KV at r
  induction r with
  | nil => rfl
  | cons h t ih => rw [List.map_cons, List.map_cons, ih, h.1]
theorem KV.length {kvs : List (κ × V)} {vs : List (κ × Value)} (r : KV kvs vs) : kvs.length = vs.length := Paired.length r
end
abbrev KT (H : Hp) : List (List Key × V) → List (List Key × Addr × Value) → Prop := Paired fun p q => p.1 = q.1 ∧ H q.2.1 = some (.tup (p.1.map kV)) ∧ RelV p.2 q.2.2
theorem KT.val {H : Hp} {kvs : List (List Key × V)} {xs : List (List Key × Addr × Value)} (r : KT H kvs xs) (k : List Key) : RelO (valV kvs k) ((atKey xs k).map (·.2)) := by
  induction r with
  | nil => exact True.intro
  | @cons p q ps qs h t ih =>
    obtain ⟨h1, _, h2⟩ := h
    by_cases e : p.1 = k
    · have e' : q.1 = k := h1.symm.trans e
      have b : atKey (q :: qs) k = some q.2 := by simp [atKey, List.find?_cons, e']
      rw [valV_pos e, b]; exact h2
    · have e' : ¬ q.1 = k := fun z => e (h1.trans z)
      have b : atKey (q :: qs) k = atKey qs k := by simp [atKey, List.find?_cons, e']
      rw [valV_neg e, b]; exact ih
theorem KT.repl {H : Hp} {kvs : List (List Key × V)} {xs : List (List Key × Addr × Value)} (r : KT H kvs xs) (k : List Key) {y : V} {u : Value} (ry : RelV y u) :
    KT H (kvs.map fun kv => if kv.1 = k then (kv.1, y) else kv) (xs.map (putAt k u)) := by
  induction r with
  | nil => exact .nil
  | @cons p q ps qs h t ih =>
    rw [List.map_cons, List.map_cons]
    refine .cons ?_ ih
    obtain ⟨h1, h2, h3⟩ := h
    unfold putAt
    by_cases e : p.1 = k
    · rw [if_pos e, if_pos (h1.symm.trans e)]; exact ⟨h1, h2, ry⟩
    · rw [if_neg e, if_neg (fun z => e (h1.trans z))]; exact ⟨h1, h2, h3⟩
theorem KT.put {H : Hp} {kvs : List (List Key × V)} {xs : List (List Key × Addr × Value)} (r : KT H kvs xs) (k : List Key) {b : Addr} {y : V} {u : Value} (hb : H b = some (.tup (k.map kV))) (ry : RelV y u) :
    KT H (putK kvs k y) (storedH xs k b u) := by
  have e : (kvs.any fun kv => decide (kv.1 = k)) = (atKey xs k).isSome := by
    rw [valV_any, (r.val k).isSome_eq, Option.isSome_map]
  unfold putK storedH
  rw [e]
  by_cases q : (atKey xs k).isSome = true
  · rw [if_pos q, if_pos q]; exact r.repl k ry
  · rw [if_neg q, if_neg q]; exact Paired.snoc r ⟨rfl, hb, ry⟩
theorem KT.keeps {H H' : Hp} {kvs : List (List Key × V)} {xs : List (List Key × Addr × Value)} (r : KT H kvs xs) (ht : ∀ b ys, H b = some (.tup ys) → H' b = some (.tup ys)) : KT H' kvs xs :=
  Paired.mapP r fun _ _ z => ⟨z.1, ht _ _ z.2.1, z.2.2⟩
section
variable {P : Program} {w : World} {H : Hp} {h : Heap} {a : Addr}
end
def DGet (H : Hp) (a : Addr) (y : V) (r : Option V) : Prop :=
  (∃ kvs k, Rd H a (.dK kvs) ∧ y = kV k ∧ r = valV kvs k) ∨ ∃ kvs k b, Rd H a (.dT kvs) ∧ y = .ref b ∧ H b = some (.tup (k.map kV)) ∧ r = valV kvs k
def DPut (H : Hp) (a : Addr) (y v : V) (H' : Hp) : Prop :=
  (∃ kvs k, H a = some (.dK kvs) ∧ y = kV k ∧ kvs.length < sizeLine ∧ H' = upd H a (.dK (putK kvs k v))) ∨
  ∃ kvs k b, H a = some (.dT kvs) ∧ y = .ref b ∧ H b = some (.tup (k.map kV)) ∧ kvs.length < sizeLine ∧ H' = upd H a (.dT (putK kvs k v))
theorem DGet.k {H : Hp} {a : Addr} {kvs : List (Key × V)} {k : Key} (e : H a = some (.dK kvs)) : DGet H a (kV k) (valV kvs k) := .inl ⟨kvs, k, .inl e, rfl, rfl⟩
theorem DGet.t {H : Hp} {a b : Addr} {kvs : List (List Key × V)} {k : List Key} (e : H a = some (.dT kvs)) (eb : H b = some (.tup (k.map kV))) : DGet H a (.ref b) (valV kvs k) := .inr ⟨kvs, k, b, .inl e, rfl, eb, rfl⟩
theorem DPut.k {H : Hp} {a : Addr} {kvs : List (Key × V)} {k : Key} {v : V} (e : H a = some (.dK kvs)) (hl : kvs.length < sizeLine) : DPut H a (kV k) v (upd H a (.dK (putK kvs k v))) := .inl ⟨kvs, k, e, rfl, hl, rfl⟩
theorem DPut.t {H : Hp} {a b : Addr} {kvs : List (List Key × V)} {k : List Key} {v : V} (e : H a = some (.dT kvs)) (eb : H b = some (.tup (k.map kV))) (hl : kvs.length < sizeLine) :
    DPut H a (.ref b) v (upd H a (.dT (putK kvs k v))) := .inr ⟨kvs, k, b, e, rfl, eb, hl, rfl⟩
section
variable {X : Cx} {pins : List (Addr × Obj)} {σ : St} {H : Hp} {s : Shared} {a : Addr} {y v : V} {u r : Value} {o : Option V} {A : Around} {E : Value → Shared → Prop}
end
section
variable {X : Cx} {pins : List (Addr × Obj)} {σ : St} {H : Hp} {s : Shared} {a : Addr} {kvs : List (Key × V)} {k : Key} {u : Value} {A : Around} {E : Value → Shared → Prop}
end
section
variable {X : Cx} {o i e value : Expr} {pos pos' tpos : Pos} {td ty tv : TE}
end
section
variable {X : Cx} {pos : Pos}
end
structure M1 (X : Cx) (o : Expr) (m : Str) (apos : Pos) (e : Expr) (cpos : Pos) : Prop where
  base : attributeBase o m X.env (eval o X.env) = eval o X.env
  few : ((backTo cpos (starEach [e] X.env)).all (fun x => !x.1) && (backToKw cpos (keywordEach [] X.env)).all (fun x => x.1.isSome)
    && decide (([e] : List Expr).length + ([] : List Keyword).length + (if ([] : List Keyword).isEmpty then 0 else 1) < 30)) = true
  line : (apos.endLine == cpos.line) = true
  trees : backTo cpos (starEach [e] X.env) = [(false, eval e X.env)]
structure M2 (X : Cx) (o : Expr) (m : Str) (apos : Pos) (e f : Expr) (cpos : Pos) : Prop where
  base : attributeBase o m X.env (eval o X.env) = eval o X.env
  few : ((backTo cpos (starEach [e, f] X.env)).all (fun x => !x.1) && (backToKw cpos (keywordEach [] X.env)).all (fun x => x.1.isSome)
    && decide (([e, f] : List Expr).length + ([] : List Keyword).length + (if ([] : List Keyword).isEmpty then 0 else 1) < 30)) = true
  line : (apos.endLine == cpos.line) = true
  trees : backTo cpos (starEach [e, f] X.env) = [(false, eval e X.env), (false, eval f X.env)]
section
variable {X : Cx} {pins : List (Addr × Obj)} {σ : St} {H : Hp} {s : Shared} {a : Addr} {y d : V} {u r : Value} {o : Option V} {A : Around} {E : Value → Shared → Prop}
end
section
variable {X : Cx} {o e f : Expr} {apos cpos : Pos} {td ty tx : TE}
end
section
variable {X : Cx} {pins : List (Addr × Obj)} {σ : St} {H : Hp} {s : Shared} {a : Addr} {kvs : List (Key × V)} {A : Around} {E : Value → Shared → Prop}
end
section
variable {X : Cx} {pins : List (Addr × Obj)} {σ : St} {H : Hp} {s : Shared} {a : Addr} {y : V} {u : Value} {A : Around} {E : Value → Shared → Prop}
end
end L2
namespace Att
open PySem PySem.W PySem.Calls PyProof.Rows
theorem ints_of_wellAll {P : Params} {h : Heap} : ∀ (ns : List Int) (vs : List Value), WellAll P h vs (ns.map WData.int) → IntsAre vs ns := by
  intro ns
  induction ns with
  | nil =>
    intro vs w
    rw [List.map_nil] at w
    cases w
    exact .nil
  | cons n ns ih =>
    intro vs w
    rw [List.map_cons] at w
    cases w with
    | cons a b =>
      cases a
      exact .cons _ _ (ih _ b)
theorem script_of {l : OpenLaw} {n : Nat} (hn : l.most = some n) {P : Params} {h : Heap} {args : List WData} {vals : List Value}
    (hpre : l.row.toRowW.claim.pre args = true) (hwl : WellAll P h vals args) :
    ∃ a vs ns, vals = [Value.ref a] ∧ args = [WData.list (ns.map WData.int)] ∧ h.get? a = some { cls := .type "list", data := .seq vs.toArray } ∧ IntsAre vs ns ∧ ns.length ≤ n := by
  have hsh : WShape.hasAll [] args [.list .int] = true := (pre_splitW hpre).1
  have hc : l.pre.holds [] { args := args } = true := (pre_splitW hpre).2
  obtain ⟨d, r, rfl, h1, h2⟩ := hasAllW_cons hsh
  obtain rfl := hasAllW_nil h2
  obtain ⟨xs, rfl, h3⟩ := hasW_list h1
  obtain ⟨ns, rfl⟩ := items_int h3
  have hlen : ns.length ≤ n := by
    unfold OpenLaw.pre at hc
    have h4 : (WTm.not (.lt (.lit (.int (n : Int))) (.len (.arg 0)))).holds [] { args := [.list (ns.map .int)] } = true := by
      have h4 := (holds_andW hc).1
      rw [hn] at h4
      exact h4
    have h5 := condW_of h4 (w_not (w_lt w_lit (w_len_list (w_arg rfl))))
    rw [List.length_map] at h5
    refine Nat.le_of_not_lt fun q => ?_
    have q' : (n : Int) < ((ns.length : Nat) : Int) := by omega
    first
      | (rw [decide_eq_true q'] at h5; exact absurd h5 (by decide))
      | (simp at h5; omega)
  cases hwl with
  | cons w1 w2 =>
    cases w2
    cases w1 with
    | list ho hall => exact ⟨_, _, ns, rfl, rfl, ho, ints_of_wellAll ns _ hall, hlen⟩
theorem post_true (l : OpenLaw) (args : List WData) : l.row.toRowW.claim.post args (.bool true) args = true :=
  postW_of (r := l.row.toRowW) (X := (true == true))
    (show WShape.has [] (.bool true) .bool = true by first | rfl | decide | simp [WShape.has, WShape.arms, WShape.armsAll])
    (show (WTm.eq .res (.lit (.bool true))).value [] { args := args, res := some (.bool true), after := args } = some (.bool (true == true)) from w_eq_bool (w_res rfl) w_lit) rfl
theorem attach_call {l : OpenLaw} {n : Nat} {q : Program} {loose : List Str} {XP : (Str → Option Value) → Heap → Prop} {YP : World → Heap → Prop} {d : DefRec}
    (hn : l.most = some n) (hdf : d.params.defaults = [])
    (call : ∀ (w : World) (s₀ s₁ : Shared) (mg mb : Str → Option Value) (fa : Addr) (o : Obj) (pm cd doc : Value) (a : Addr) (vs : List Value) (ns : List Int),
      Ground q loose [] XP w s₀ mg mb s₁.heap → YP w s₁.heap →
      s₁.heap.get? fa = some o → o.data = .func (docDef d.name d.params d.body d.scope pm cd doc) → s₁.heap.CodeRec cd d.name → mg d.name = some (.ref fa) →
      s₁.heap.get? a = some { cls := .type "list", data := .seq vs.toArray } → IntsAre vs ns → ns.length ≤ n → s₁.gens = #[] →
      codeAny (model l.prog w) callerA (.call (.ref fa) ⟨[.ref a], []⟩) (fun r s' => r = .ok (.ret (.bool true)) ∧ OldK s₁.heap s'.heap ∧ s'.os = s₁.os ∧ AllBare s'.gens) s₁) :
    WalkO q loose XP YP l.row.toRowW d [] (fun f vs => PySem.call f vs) := by
  intro w s₀ s₁ mg mb G Y fa o pm cd doc dV kV ho hd hcd hD hmg hg args vals as hpre hlay hrd hwl hlo
  obtain rfl : dV = .none := Dflts.none hD hdf
  obtain rfl : kV = .none := Dflts.noKw hD
  obtain ⟨a, vs, ns, rfl, rfl, hobj, hints, hlen⟩ := script_of hn hpre hwl
  refine enter_call (codeAny_mono (call w s₀ s₁ mg mb fa o pm cd doc a vs ns G Y ho (fd_plain hd) hcd hmg hobj hints hlen hg) fun r s' hq => ?_)
  obtain ⟨rfl, h2, h3, h4⟩ := hq
  exact ⟨.inl ⟨.bool true, .bool true, [], rfl, fun _ => rfl, .bool true, post_true l _, fun _ => ⟨List.Pairwise.nil, fun _ hm => (nomatch hm)⟩⟩, h2, h3, h4⟩
section
variable {prog : Program} {w : World} {A : Around} {E : Value → Shared → Prop} {s : Shared} {K : Frag}
def ledger (h : Heap) (L d : Addr) : List (Addr × Obj) := (List.range h.objs.size).filterMap fun a => if a = L ∨ a = d then none else (h.get? a).map fun o => (a, o)
end
end Att
namespace L2
open PySem PySem.Spec PyProof.Rows
theorem vals_ints : ∀ {vs : List Value} {ns : List Int}, IntsAre vs ns → Vals (ns.map V.int) vs
  | _, _, .nil => .nil
  | _, _, .cons n t h => .cons ⟨t, rfl⟩ (vals_ints h)
def Only (H : Hp) : Prop := ∀ b, H b = none ∨ ∃ o xs, H b = some (.frz o (.lst xs))
theorem law_call {P : Program} {w : World} {K : PySem.W.Frag} {mg mb : Str → Option Value} {CX : CXT} {k : Nat} {fa a : Addr} {fd : FuncData} {x : Str} {sp : Sp} {s₁ : Shared} {vs : List Value} {ns : List Int}
    (KX : K.In s₁.heap) (hns : s₁.heap.Ns mainGlobals mg) (hb : s₁.heap.Ns builtinsNs mb) (hbb : ∀ x : Str, x ≠ "__name__" → mb x = bootBuiltins x) (hlim : s₁.heap.NoLimit) (hg : s₁.gens = #[])
    (ha : s₁.heap.get? a = some { cls := .type "list", data := .seq vs.toArray }) (hi : IntsAre vs ns) (hl : ns.length ≤ sizeLine) (hr : Room k callerA)
    (F : ∀ base : Heap, K.In base → base.Ns mainGlobals mg → FnOk P w K mg base CX k fa fd [x] sp) (hbind : ∀ (s : Shared) (u : Value), BindsTo s fd ⟨[u], []⟩ [(x, u)])
    (hsp : ∀ H : Hp, Only H → SqL K H a (ns.map V.int) → sp [.ref a] H (fun v _ => v = .bl true) fun _ _ _ => False)
    (hCX : ∀ H e s', CX [] H s₁ (fun _ _ _ => False) e s' → False) :
    codeAny (model P w) callerA (.call (.ref fa) ⟨[.ref a], []⟩) (fun r s' => r = .ok (.ret (.bool true)) ∧ OldK s₁.heap s'.heap ∧ s'.os = s₁.os ∧ AllBare s'.gens) s₁ := by
  have rv := vals_ints hi
  have lenV := hi.length
  have core : ∀ H : Hp, Only H → SqL K H a (ns.map V.int) → HOk P w H s₁.heap → (∀ b, H b ≠ none → b = a) → (H a ≠ none → K.lookup a = none) →
      codeAny (model P w) callerA (.call (.ref fa) ⟨[.ref a], []⟩) (fun r s' => r = .ok (.ret (.bool true)) ∧ OldK s₁.heap s'.heap ∧ s'.os = s₁.os ∧ AllBare s'.gens) s₁ := by
    intro H hO hS hok hA hK
    have base_of : ∀ {b : Addr} {o : Obj}, s₁.heap.get? b = some o → H b = none → (hidT s₁.heap H).get? b = some o := fun e n => hidT_get e n
    have noA : ∀ {b : Addr} {o : Obj} {es : Array DictEntry} {ep : Nat}, s₁.heap.get? b = some o → o.data = .dict es ep → H b = none := fun {b o es ep} e d => by
      cases q : H b with
      | none => rfl
      | some u =>
        have e' : b = a := hA b (by rw [q]; simp)
        subst e'
        rw [ha] at e; cases e
        have d' : Data.seq vs.toArray _ = Data.dict es ep := d
        cases d'
    have nsK : ∀ {b : Addr} {m : Str → Option Value}, s₁.heap.Ns b m → (hidT s₁.heap H).Ns b m := fun {b m} ⟨o, es, ep, e, d, r⟩ => ⟨o, es, ep, base_of e (noA e d), d, r⟩
    have hKb : K.In (hidT s₁.heap H) := fun b o e => base_of (KX b o e) (by
      cases q : H b with
      | none => rfl
      | some u =>
        have e' : b = a := hA b (by rw [q]; simp)
        subst e'
        rw [hK (by rw [q]; simp)] at e; cases e)
    have hM : Mod K mg (hidT s₁.heap H) := ⟨hKb, nsK hns, ⟨mb, nsK hb, hbb⟩, let ⟨mc, h1, h2⟩ := hlim; ⟨mc, nsK h1, h2⟩⟩
    have e0 : Env0 P w K mg (hidT s₁.heap H) callerA [] s₁ H := ⟨rfl, hM, fun b o e => of_hidT e, Nat.le_of_eq (hidT_size _ _), trivial, fun b hb => absurd (show b ∈ ([] : List Addr) from hb) (by simp), hok, .of_eq hg⟩
    refine codeAny_mono ((F _ hKb (nsK hns)).run callerA [] s₁ H ⟨[.ref a], []⟩ [.ref a] [.ref a] _ _ hr e0 (hbind s₁ (.ref a)) (.cons rfl .nil) (hsp H hO hS)) fun r s' h => ?_
    cases r with
    | error e => exact (hCX H e s' h).elim
    | ok fl =>
      cases fl with
      | next => exact False.elim h
      | brk => exact False.elim h
      | cont => exact False.elim h
      | ret u =>
        obtain ⟨v, H', os, bare, un, hok', r', q⟩ := h
        have q' : v = .bl true := q
        subst q'
        obtain rfl : u = Value.bool true := r'
        refine ⟨rfl, OldK.of_keep fun b o e => ?_, os, bare⟩
        cases q : H b with
        | none => exact un.keep b o e q (by intro z; exact absurd (show b ∈ ([] : List Addr) from z) (by simp)) (by simp)
        | some u =>
          rcases hO b with z | ⟨ob, xs, z⟩
          · rw [q] at z; cases z
          · have z2 := un.frzs b ob _ z
            obtain ⟨e1, _⟩ := hok b _ z
            obtain ⟨e2, _⟩ := hok' b _ z2
            rw [e] at e1; cases e1
            exact e2
  cases hk : K.lookup a with
  | some o =>
    have e := KX a o hk
    rw [ha] at e
    cases e
    refine core (fun _ => none) (fun _ => .inl rfl) (.inr ⟨_, vs.toArray, _, hk, rfl, rfl, rfl, by rw [List.size_toArray, lenV]; exact hl, by simpa using rv⟩) (fun b u z => by have z' : (none : Option HO) = some u := z; cases z') (fun b z => absurd rfl z) fun z => absurd rfl z
  | none =>
    refine core (fun b => if b = a then some (.frz { cls := .type "list", data := .seq vs.toArray } (.lst (ns.map V.int))) else none) (fun b => ?_) (.inl (.inr ⟨{ cls := .type "list", data := .seq vs.toArray }, if_pos rfl⟩)) (fun b u z => ?_) (fun b z => ?_) fun _ => hk
    · by_cases hb : b = a
      · exact .inr ⟨_, _, if_pos hb⟩
      · exact .inl (if_neg hb)
    · by_cases hb : b = a
      · have z' := (if_pos hb).symm.trans z
        cases z'
        subst hb
        exact ⟨ha, by rw [List.length_map]; exact hl, vs, _, rv, ha⟩
      · have z' := (if_neg hb).symm.trans z
        cases z'
    · by_cases hb : b = a
      · exact hb
      · exact absurd (if_neg hb) z
end L2
namespace L2
open PySem PySem.Spec PyProof.Rows
theorem walk_of {l : PySem.W.OpenLaw} {n k : Nat} {q : Program} {loose : List Str} {XP : (Str → Option Value) → Heap → Prop} {YP : World → Heap → Prop} {d : DefRec} {K : Params → PySem.W.Frag} {CX : World → CXT} {sp : World → Sp} {x : Str}
    (hn : l.most = some n) (hn2 : n ≤ sizeLine) (hdf : d.params.defaults = []) (hr : Room k callerA)
    (hY : ∀ (w : World) (h : Heap), YP w h → (K w.params).In h)
    (F : ∀ (w : World) (mg : Str → Option Value) (fa : Addr) (h : Heap), (K w.params).In h → h.Ns mainGlobals mg → mg d.name = some (.ref fa) →
      ∃ fd : FuncData, (∀ (s : Shared) (u : Value), BindsTo s fd ⟨[u], []⟩ [(x, u)]) ∧
        ∀ base : Heap, (K w.params).In base → base.Ns mainGlobals mg → FnOk l.prog w (K w.params) mg base (CX w) k fa fd [x] (sp w))
    (hsp : ∀ (w : World) (H : Hp) (a : Addr) (ns : List Int), ns.length ≤ n → Only H → SqL (K w.params) H a (ns.map V.int) → sp w [.ref a] H (fun v _ => v = .bl true) fun _ _ _ => False)
    (hCX : ∀ (w : World) (H : Hp) (s : Shared) (e : Value) (s' : Shared), CX w [] H s (fun _ _ _ => False) e s' → False) :
    PySem.W.WalkO q loose XP YP l.row.toRowW d [] (fun f vs => PySem.call f vs) := by
  refine Att.attach_call hn hdf fun w s₀ s₁ mg mb fa o pm cd doc a vs ns G Y ho hd hcd hmg hobj hints hlen hg => ?_
  have KX := hY w _ Y
  obtain ⟨fd, hb, hF⟩ := F w mg fa _ KX G.T.g hmg
  exact law_call KX G.T.g G.T.b G.T.builtins G.T.nolimit hg hobj hints (Nat.le_trans hlen hn2) hr hF hb (fun H hO hS => hsp w H a ns hlen hO hS) fun H e s' => hCX w H s₁ e s'
end L2
namespace L2
open PySem PySem.Spec PyProof.Rows
def inClass (s : Stmt) (j : Nat) : Stmt := match s with
  | .ClassDef _ _ _ body _ _ _ _ _ _ _ => body.getD j (.Pass ⟨0, 0, 0, 0⟩)
  | _ => .Pass ⟨0, 0, 0, 0⟩
def defArgs (s : Stmt) : Arguments := match s with
  | .FunctionDef _ a _ _ _ _ _ _ _ _ => a
  | _ => { posonlyargs := [], args := [], vararg := none, kwonlyargs := [], kw_defaults := [], kwarg := none, defaults := [] }
def defBody (s : Stmt) : List Stmt := match s with
  | .FunctionDef _ _ b _ _ _ _ _ _ _ => b
  | _ => []
def defScope (s : Stmt) : Scope := match s with
  | .FunctionDef _ _ _ _ _ _ sc _ _ _ => sc
  | _ => { kind := .function, names := [], isGenerator := false, isCoroutine := false }
abbrev CX0 : CXT := fun _ _ _ _ _ _ => False
abbrev E0 : XK := fun _ _ _ => False
theorem pass0 {X : Cx} : Passes CX0 X E0 := fun _ _ _ _ _ _ _ h => h.elim
structure Fun (K : PySem.W.Frag) (x qual : Str) (st : Stmt) (f : Addr) (fd : FuncData) : Prop where
  ex : ∃ (oc : Value) (od : Option Addr) (kV doc pm : Value) (an : Option Addr) (cdv ct : Value) (osl : Array (Option Value)),
    fd = PySem.W.fnOf x qual (defArgs st) (defBody st) (defScope st) .none kV doc pm an cdv ct ∧ K.lookup f = some ⟨oc, od, .func fd, osl⟩ ∧ PySem.W.codeIn K cdv qual = true
  kp : PySem.W.keepIn K (.ref f) = true
section
variable {P : Program} {w : World} {K : PySem.W.Frag} {mg : Str → Option Value} {base : Heap}
theorem Fun.ok {x qual : Str} {st : Stmt} {f : Addr} {fd : FuncData} {N ps : List Str} {k : Nat} {sp : Sp} (F : Fun K x qual st f fd) (S : FnScope N ps (defScope st)) (len : ∀ vs H Q E, sp vs H Q E → vs.length = ps.length)
    (hbody : ∀ (cdv : Value) (A : Around) (outer : List Env) (s : Shared) (H : Hp) (vs : List V) (Q : VK) (E : XK), Room k (A.deeper (envOfC qual (defScope st) s.heap.objs.size f cdv)) → sp vs H Q E →
      ∃ t, PSs (cxOf CX0 P w K mg base N qual (defScope st) f cdv A outer s H E).nox (defBody st) t ∧ t { nx := fun _ H' => Q .non H', rt := Q } (start N vs) H) : FnOk P w K mg base CX0 (k + 1) f fd ps sp := by
  obtain ⟨oc, od, kV, doc, pm, an, cdv, ct, osl, rfl, lk, hcd⟩ := F.ex
  refine fn_of lk hcd S len fun A outer s H vs Q E hr hsp => ?_
  obtain ⟨t, h, q⟩ := hbody cdv A outer s H vs Q E hr hsp
  exact ⟨t, h.nox, q⟩
theorem Fun.binds {x qual : Str} {st : Stmt} {f : Addr} {fd : FuncData} {ps : List Str} (F : Fun K x qual st f fd)
    (h : ∀ (kV doc pm : Value) (an : Option Addr) (cdv ct : Value) (us : List Value), us.length = ps.length → bindArgs (PySem.W.fnOf x qual (defArgs st) (defBody st) (defScope st) .none kV doc pm an cdv ct) ⟨us, []⟩ = pure (ps.zip us)) : Binds K fd ps [] := by
  obtain ⟨oc, od, kV, doc, pm, an, cdv, ct, osl, rfl, lk, hcd⟩ := F.ex
  exact .all (h kV doc pm an cdv ct)
theorem fun_mk {x qual : Str} {st : Stmt} {f : Addr} {oc : Value} {od an : Option Addr} {osl : Array (Option Value)} {kV doc pm cdv ct : Value} (l : K.lookup f = some ⟨oc, od, .func (PySem.W.fnOf x qual (defArgs st) (defBody st) (defScope st) .none kV doc pm an cdv ct), osl⟩)
    (c : PySem.W.codeIn K cdv qual = true) (k : PySem.W.keepIn K (.ref f) = true) : Fun K x qual st f (PySem.W.fnOf x qual (defArgs st) (defBody st) (defScope st) .none kV doc pm an cdv ct) := ⟨⟨oc, od, kV, doc, pm, an, cdv, ct, osl, rfl, l, c⟩, k⟩
end
section
variable {X : Cx}
end
theorem iteF {A B : Prop} (h : B) : if false = true then A else B := by
  rw [if_neg Bool.false_ne_true]
  exact h
theorem iteT {A B : Prop} (h : A) : if true = true then A else B := by
  rw [if_pos rfl]
  exact h
theorem ite2 {c A B : Prop} [Decidable c] (h1 : c → A) (h2 : ¬ c → B) : if c then A else B := by
  by_cases h : c
  · rw [if_pos h]
    exact h1 h
  · rw [if_neg h]
    exact h2 h
def Same (H H' : Hp) : Prop := ∀ b o, H b = some o → H' b = some o
theorem Same.refl (H : Hp) : Same H H := fun _ _ h => h
theorem Same.trans {H H1 H2 : Hp} (a : Same H H1) (b : Same H1 H2) : Same H H2 := fun c o h => b c o (a c o h)
theorem Same.free {H H' : Hp} (e : Same H H') {l : Addr} (h : H' l = Option.none) : H l = Option.none := by
  cases q : H l with
  | none => rfl
  | some o =>
    rw [e l o q] at h
    cases h
theorem Same.seq {K : PySem.W.Frag} {H H' : Hp} {a : Addr} {xs : List V} (e : Same H H') (h : SqL K H a xs) : SqL K H' a xs := by
  rcases h with (h | ⟨o, h⟩) | h
  · exact .inl (.inl (e _ _ h))
  · exact .inl (.inr ⟨o, e _ _ h⟩)
  · exact .inr h
section
variable {X : Cx}
end
section
variable {κ : Type} [DecidableEq κ]
end
end L2
namespace L3
open PySem PySem.Spec PyProof.Rows L2
def cellsIn (env : Env) : List (Str × NameKind) → List (Str × Addr) → List (Str × Addr)
  | [], cs => cs
  | (n, k) :: r, cs => cellsIn env r (if k == .free then match env.cells.lookup n with | some c => (n, c) :: cs | none => cs else cs)
def closureOf (scope : Scope) (env : Env) : List (Str × Addr) := cellsIn env scope.names []
theorem closureFor_eq {scope : Scope} {env : Env} (h : ∀ p ∈ scope.names, p.2 = .free → ∃ c, env.cells.lookup p.1 = some c) : closureFor scope env = pure (closureOf scope env) := by
  unfold closureFor closureOf
  have go : ∀ (l : List (Str × NameKind)) (cs : List (Str × Addr)), (∀ p ∈ l, p.2 = .free → ∃ c, env.cells.lookup p.1 = some c) →
      (forIn l cs fun (p : Str × NameKind) (r : List (Str × Addr)) => (do
        if p.2 == NameKind.free then
          let c ← cellOf env p.1
          pure (ForInStep.yield ((p.1, c) :: r))
        else pure (ForInStep.yield r) : Sem (ForInStep (List (Str × Addr))))) = (pure (cellsIn env l cs) : Sem (List (Str × Addr))) := by
    intro l
    induction l with
    | nil => intro cs _; rfl
    | cons p l ih =>
      intro cs hl
      obtain ⟨n, k⟩ := p
      rw [List.forIn_cons]
      by_cases hk : k = .free
      · subst hk
        obtain ⟨c, hc⟩ := hl (n, .free) List.mem_cons_self rfl
        have e : cellOf env n = pure c := by
          unfold cellOf
          have hc' : env.cells.lookup n = some c := hc
          rw [hc']
        simp only [beq_self_eq_true, if_true, e, pure_bind]
        rw [ih _ fun p hp => hl p (List.mem_cons_of_mem _ hp)]
        have hc' : env.cells.lookup n = some c := hc
        simp only [cellsIn, beq_self_eq_true, if_true, hc']
      · have hb : (k == NameKind.free) = false := by simpa using hk
        simp only [hb, Bool.false_eq_true, if_false, pure_bind]
        rw [ih _ fun p hp => hl p (List.mem_cons_of_mem _ hp)]
        simp only [cellsIn, hb, Bool.false_eq_true, if_false]
  have := go scope.names [] h
  simp only [bind_pure] at this ⊢
  exact this
theorem mem_cellsIn {env : Env} : ∀ {l : List (Str × NameKind)} {cs : List (Str × Addr)} {n : Str} {c : Addr}, (n, c) ∈ cellsIn env l cs → (n, c) ∈ cs ∨ ((n, NameKind.free) ∈ l ∧ env.cells.lookup n = some c)
  | [], _, _, _, h => .inl h
  | (m, k) :: r, cs, n, c, h => by
    rcases mem_cellsIn (l := r) h with h | ⟨h1, h2⟩
    · by_cases hk : k = .free
      · subst hk
        simp only [beq_self_eq_true, if_true] at h
        cases e : env.cells.lookup m with
        | none => rw [e] at h; exact .inl h
        | some d =>
          rw [e] at h
          rcases List.mem_cons.mp h with q | q
          · cases q
            exact .inr ⟨List.mem_cons_self, e⟩
          · exact .inl q
      · have hb : (k == NameKind.free) = false := by simpa using hk
        simp only [hb, Bool.false_eq_true, if_false] at h
        exact .inl h
    · exact .inr ⟨List.mem_cons_of_mem _ h1, h2⟩
theorem keep_cellsIn {env : Env} : ∀ {l : List (Str × NameKind)} {cs : List (Str × Addr)} {p : Str × Addr}, p ∈ cs → p ∈ cellsIn env l cs
  | [], _, _, h => h
  | (m, k) :: r, cs, p, h => by
    refine keep_cellsIn (l := r) ?_
    by_cases hk : k = .free
    · subst hk
      simp only [beq_self_eq_true, if_true]
      cases e : env.cells.lookup m with
      | none => exact h
      | some d => exact List.mem_cons_of_mem _ h
    · have hb : (k == NameKind.free) = false := by simpa using hk
      simp only [hb, Bool.false_eq_true, if_false]
      exact h
theorem in_cellsIn {env : Env} {n : Str} {c : Addr} (e : env.cells.lookup n = some c) : ∀ {l : List (Str × NameKind)} {cs : List (Str × Addr)}, (n, NameKind.free) ∈ l → (n, c) ∈ cellsIn env l cs
  | (m, k) :: r, cs, h => by
    rcases List.mem_cons.mp h with q | q
    · cases q
      refine keep_cellsIn (l := r) ?_
      simp only [beq_self_eq_true, if_true, e]
      exact List.mem_cons_self
    · exact in_cellsIn e (l := r) q
theorem lookup_of_mem {α : Type} {n : Str} {c : α} : ∀ {l : List (Str × α)}, (n, c) ∈ l → ∃ d, l.lookup n = some d
  | (m, d) :: r, h => by
    by_cases e : n = m
    · subst e
      exact ⟨d, by simp⟩
    · have hb : (n == m) = false := beq_eq_false_iff_ne.mpr e
      rcases List.mem_cons.mp h with q | q
      · cases q; exact absurd rfl e
      · obtain ⟨d', hd⟩ := lookup_of_mem q
        exact ⟨d', by simp only [List.lookup, hb]; exact hd⟩
theorem relabel_kinds {scope : Scope} {env : Env} {x : Str} : ∀ {names : List (Str × NameKind)} {k : NameKind},
    (names.map fun (n, k) => if (k == NameKind.free && env.scope.kind == .function && env.kindOf n == some .cell) then (n, NameKind.cell) else (n, k)).lookup x = some k →
    names.lookup x = some k ∨ (names.lookup x = some .free ∧ k = .cell)
  | [], k, h => by simp at h
  | (n, j) :: r, k, h => by
    have ih := @relabel_kinds scope env x r k
    rw [List.map_cons] at h
    dsimp only at h
    cases hx : x == n with
    | true =>
      simp only [List.lookup_cons, hx]
      by_cases hc : (j == NameKind.free && env.scope.kind == .function && env.kindOf n == some .cell) = true
      · rw [if_pos hc] at h
        simp only [List.lookup_cons, hx] at h
        have hj : j = .free := by
          have := (Bool.and_eq_true_iff.mp (Bool.and_eq_true_iff.mp hc).1).1
          simpa using this
        cases h
        exact .inr ⟨by rw [hj], rfl⟩
      · rw [if_neg hc] at h
        simp only [List.lookup_cons, hx] at h
        exact .inl h
    | false =>
      simp only [List.lookup_cons, hx]
      by_cases hc : (j == NameKind.free && env.scope.kind == .function && env.kindOf n == some .cell) = true
      · rw [if_pos hc] at h; simp only [List.lookup_cons, hx] at h; exact ih h
      · rw [if_neg hc] at h; simp only [List.lookup_cons, hx] at h; exact ih h
theorem relabel_free {env : Env} {x : Str} : ∀ {names : List (Str × NameKind)}, names.lookup x = some .free →
    (names.map fun (n, k) => if (k == NameKind.free && env.scope.kind == .function && env.kindOf n == some .cell) then (n, NameKind.cell) else (n, k)).lookup x = some .cell ∨
    (names.map fun (n, k) => if (k == NameKind.free && env.scope.kind == .function && env.kindOf n == some .cell) then (n, NameKind.cell) else (n, k)).lookup x = some .free
  | [], h => by simp at h
  | (n, j) :: r, h => by
    have ih := @relabel_free env x r
    rw [List.map_cons]
    dsimp only
    cases hx : x == n with
    | true =>
      simp only [List.lookup_cons, hx] at h
      cases h
      by_cases hc : (NameKind.free == NameKind.free && env.scope.kind == .function && env.kindOf n == some .cell) = true
      · rw [if_pos hc]; exact .inl (by simp only [List.lookup_cons, hx])
      · rw [if_neg hc]; exact .inr (by simp only [List.lookup_cons, hx])
    | false =>
      simp only [List.lookup_cons, hx] at h
      by_cases hc : (j == NameKind.free && env.scope.kind == .function && env.kindOf n == some .cell) = true
      · rw [if_pos hc]; simp only [List.lookup_cons, hx]; exact ih h
      · rw [if_neg hc]; simp only [List.lookup_cons, hx]; exact ih h
def compCx (X : Cx) (N : List Str) (scope : Scope) (fp : List Addr) (s : Shared) (H : Hp) : Cx where
  prog := X.prog
  w := X.w
  K := X.K
  mg := X.mg
  base := X.base
  A := X.A
  N := N
  s₀ := s
  H₀ := H
  env := compEnvC scope (closureOf scope X.env) s.heap.objs.size X.env
  outer := X.stack
  stack := X.stack
  ex := fp
  fn := fun _ => false
  calm := X.calm
  pn := []
  xe := fun _ _ => False
structure CompOk (X : Cx) (scope : Scope) (N : List Str) (own : Nat) (js : List Nat) : Prop where
  kind : scope.kind = .function
  cells : ∀ p ∈ scope.names, p.2 ≠ .cell
  locs : ∀ p ∈ scope.names, p.2 = .local → scope.names.lookup p.1 = some .local
  frees : ∀ p ∈ scope.names, p.2 = .free → scope.names.lookup p.1 = some .free ∧ (X.env.scope.names.lookup p.1 = some .cell ∨ X.env.scope.names.lookup p.1 = some .free)
  len : N.length = own + js.length
  at_ : ∀ (k i : Nat) (x : Str), js[k]? = some i → N[own + k]? = some x → X.N[i]? = some x ∧ scope.names.lookup x = some .free
def compOkB (scope sc : Scope) (N M : List Str) (own : Nat) (js : List Nat) : Bool :=
  decide (scope.kind = .function) && scope.names.all (fun p => p.2 != .cell) && scope.names.all (fun p => p.2 != .local || scope.names.lookup p.1 == some .local) &&
  scope.names.all (fun p => p.2 != .free || (scope.names.lookup p.1 == some .free && (sc.names.lookup p.1 == some .cell || sc.names.lookup p.1 == some .free))) &&
  decide (N.length = own + js.length) && (js.zip (N.drop own)).all fun q => M[q.1]? == some q.2 && scope.names.lookup q.2 == some .free
theorem compOk {X : Cx} {scope : Scope} {N : List Str} {own : Nat} {js : List Nat} (sc : Scope) (M : List Str) (h1 : X.env.scope = sc) (h2 : X.N = M) (h : compOkB scope sc N M own js = true) : CompOk X scope N own js := by
  unfold compOkB at h
  simp only [Bool.and_eq_true, decide_eq_true_eq, List.all_eq_true] at h
  obtain ⟨⟨⟨⟨⟨a1, a2⟩, a3⟩, a4⟩, a5⟩, a6⟩ := h
  refine ⟨a1, fun p hp => by simpa using a2 p hp, fun p hp hk => ?_, fun p hp hk => ?_, a5, fun k i x e1 e2 => ?_⟩
  · have := a3 p hp
    rw [hk] at this
    simpa using this
  · have := a4 p hp
    rw [hk] at this
    rw [h1]
    simpa using this
  · have hm : (i, x) ∈ js.zip (N.drop own) := by
      refine List.mem_of_getElem? (i := k) ?_
      rw [List.getElem?_zip_eq_some]
      exact ⟨e1, by rw [List.getElem?_drop]; exact e2⟩
    have := a6 _ hm
    rw [h2]
    simpa using this
def compSt (own : Nat) (js : List Nat) (σ : L2.St) : L2.St := List.replicate own none ++ js.map fun i => (σ[i]?).join
section
variable {X : Cx} {pins : List (Addr × Obj)} {σ : L2.St} {H : Hp} {s : Shared} {scope : Scope} {N : List Str} {own : Nat} {js : List Nat} {fp : List Addr}
theorem closure_look (I : Inv X pins σ H s) {x : Str} {c : Addr} (e : (closureOf scope X.env).lookup x = some c) : X.env.cells.lookup x = some c := by
  rcases mem_cellsIn (PySem.mem_of_lookup e) with h | ⟨_, h⟩
  · cases h
  · exact h
theorem closure_has (C : CompOk X scope N own js) (I : Inv X pins σ H s) {x : Str} (h : scope.names.lookup x = some .free) : ∃ c, (closureOf scope X.env).lookup x = some c ∧ X.env.cells.lookup x = some c := by
  have hm := PySem.mem_of_lookup h
  obtain ⟨c, hc⟩ := I.ok.has x (C.frees _ hm rfl).2
  obtain ⟨d, hd⟩ := lookup_of_mem (in_cellsIn (cs := []) hc hm)
  exact ⟨d, hd, closure_look I hd⟩
theorem closureFor_ok (C : CompOk X scope N own js) (I : Inv X pins σ H s) : closureFor scope X.env = pure (closureOf scope X.env) :=
  closureFor_eq fun p hp hk => I.ok.has p.1 (C.frees p hp hk).2
theorem comp_start (C : CompOk X scope N own js) (I : Inv X pins σ H s) (hf : ∀ b ∈ fp, FpOk X pins H b) (ho : ∀ b ∈ fp, ∃ o, s.heap.get? b = some o ∧ ∀ v, o.data ≠ .cell v) {h₁ : Heap} {t₁ : Nat} {m : Str → Option Value}
    (hn : h₁.Ns s.heap.objs.size m) (hk : ∀ b o, s.heap.get? b = some o → h₁.get? b = some o) : Inv (compCx X N scope fp s H) [] (compSt own js σ) H { s with heap := h₁, toks := t₁ } := by
  have hlt : ∀ b ∈ fp, b < s.heap.objs.size := fun b hb => by
    obtain ⟨o, e, _⟩ := ho b hb
    exact Heap.lt_size e
  refine ⟨⟨I.ok.mod, C.kind, I.ok.glob, I.ok.blt, Nat.le_refl _, fun x y c h1 h2 => ?_, fun x hx => ?_, fun x c hx _ => ?_, I.ok.hd, I.ok.frames, .inl rfl, fun b hb => ⟨Nat.ne_of_lt (hlt b hb), fun x c e => ?_⟩, I.bs, Nat.le_trans I.ok.bsz I.sz, fun b o e hb => ?_, fun b hb z => ?_, I.stack, I.stkFree⟩,
    rfl, I.bare, Un.kept hk, ⟨m, hn, fun i x v h1 h2 h3 => ?_⟩, fun x c e => ?_, I.hok.fresh (Nat.le_refl _), fun x c e => I.freeC x c (closure_look I e), fun p hp => ?_, I.hok.kept hk, ?_⟩
  · exact I.ok.inj x y c (closure_look I h1) (closure_look I h2)
  · have hx' : (relabel scope X.env).names.lookup x = some .cell ∨ (relabel scope X.env).names.lookup x = some .free := hx
    have hfree : scope.names.lookup x = some .free := by
      rcases hx' with hx' | hx'
      · rcases relabel_kinds (scope := scope) hx' with q | ⟨q, _⟩
        · exact absurd rfl (C.cells _ (PySem.mem_of_lookup q))
        · exact q
      · rcases relabel_kinds (scope := scope) hx' with q | ⟨q, _⟩
        · exact q
        · exact q
    obtain ⟨c, hc, _⟩ := closure_has C I hfree
    exact ⟨c, hc⟩
  · exact absurd hx Bool.false_ne_true
  · exact (hf b hb).2.2.2.2.1 x c (closure_look I e)
  · rcases (hf b hb).2.2.2.1 with z | z
    · exact I.ok.noex b o e z
    · exact absurd (Nat.lt_of_lt_of_le (Heap.lt_size e) (Nat.le_trans I.ok.bsz z)) (Nat.lt_irrefl _)
  · rcases List.mem_cons.mp (I.stkSub b z) with q | q
    · exact (hf b hb).2.1 q
    · exact (hf b hb).2.2.1 q
  · -- a name of the block that has a value
    have hN : N[i]? = some x := h1
    have hi : own ≤ i := by
      refine Nat.le_of_not_lt fun hlt' => ?_
      unfold compSt at h2
      rw [List.getElem?_append_left (by simpa using hlt'), List.getElem?_replicate] at h2
      split at h2 <;> cases h2
    obtain ⟨k, rfl⟩ := Nat.exists_eq_add_of_le hi
    unfold compSt at h2
    rw [List.getElem?_append_right (by simp), List.length_replicate, Nat.add_sub_cancel_left, List.getElem?_map] at h2
    cases ej : js[k]? with
    | none => rw [ej] at h2; cases h2
    | some j =>
      rw [ej] at h2
      have h2' : (σ[j]?).join = some v := Option.some.inj h2
      have hσ : σ[j]? = some (some v) := by
        cases eσ : σ[j]? with
        | none => rw [eσ] at h2'; cases h2'
        | some ov =>
          rw [eσ] at h2'
          have : ov = some v := h2'
          rw [this]
      obtain ⟨hXN, hfree⟩ := C.at_ k j x ej hN
      have hkind := (C.frees _ (PySem.mem_of_lookup hfree) rfl).2
      obtain ⟨m0, hn0, hl⟩ := I.loc
      obtain ⟨u, r, l⟩ := hl j x v hXN hσ (by rcases hkind with q | q; exact .inr (.inl q); exact .inr (.inr q))
      refine ⟨u, r, .inr ⟨relabel_free hfree, ?_⟩⟩
      obtain ⟨c, hc, hc'⟩ := closure_has C I hfree
      refine ⟨c, hc, ?_⟩
      rcases l with ⟨l1, _⟩ | ⟨_, c', e', z⟩
      · have l1' : X.env.scope.names.lookup x = some .local := l1
        rcases hkind with q | q
        · rw [q] at l1'; cases l1'
        · rw [q] at l1'; cases l1'
      · rw [hc'] at e'
        cases e'
        obtain ⟨o, ho', hd'⟩ := z
        exact ⟨o, hk _ _ ho', hd'⟩
  · obtain ⟨v, o, ho', hd'⟩ := I.cell x c (closure_look I e)
    exact ⟨v, o, hk _ _ ho', hd'⟩
  · exact absurd (show p ∈ ([] : List (Addr × Obj)) from hp) (by simp)
  · unfold compSt
    show _ = N.length
    rw [List.length_append, List.length_replicate, List.length_map, C.len]
theorem comp_end {σ' : L2.St} {H' : Hp} {s' : Shared} (I : Inv X pins σ H s) (hf : ∀ b ∈ fp, FpOk X pins H b) (J : Inv (compCx X N scope fp s H) [] σ' H' s') : Inv X pins σ H' s' :=
  I.call' (ch := fp) J.os J.base J.hok J.bare fun b hb => ⟨(hf b hb).2.2.2.1, (hf b hb).2.1, (hf b hb).2.2.2.2.1, (hf b hb).2.2.2.2.2⟩
end
def PIfs (X : Cx) (ifs : List Expr) (t : TT) : Prop :=
  ∀ (pins : List (Addr × Obj)) (s : Shared) (σ : L2.St) (H : Hp) (Q : Bool → Hp → Prop), Inv X pins σ H s → t σ H Q →
    wpAny (model X.prog X.w) X.A (forIn ifs true fun c r => if r = true then do let ok ← isTrue c X.env (eval c X.env); pure (ForInStep.yield ok) else pure (ForInStep.yield r)) (TP X pins σ Q) X.xe s
def tNoIf : TT := fun _ H Q => Q true H
theorem pifs_nil {X : Cx} : PIfs X [] tNoIf := fun _ _ _ H _ I h => wpAny_tests_nil ⟨H, I, h⟩
theorem pifs_one {X : Cx} {c : Expr} {t : TT} (hc : PT X c t) : PIfs X [c] t := fun pins s σ H Q I h => wpAny_tests_one (hc pins s σ H Q I h)
def CompW (D : Addr) (J : It) (g : TG) (tc : TT) (te : TE) (Q : Hp → Prop) (W : Nat → Nat → List V → L2.St → Hp → Prop) : Prop :=
  ∀ i m ys σ H, W i m ys σ H → H D = some (.lst ys) ∧ ys.length < sizeLine ∧
    ((J.stop i H ∧ Q H) ∨ (J.go i H ∧ ∃ (N1 : V → L2.St → Hp → Prop) (N0 : L2.St → Hp → Prop),
      (∀ y σ2 H4, N1 y σ2 H4 → H4 D = some (.lst ys) ∧ ∃ m', m' < m ∧ W (i + 1) m' (ys ++ [y]) σ2 (upd H4 D (.lst (ys ++ [y])))) ∧ (∀ σ2 H3, N0 σ2 H3 → ∃ m', m' < m ∧ W (i + 1) m' ys σ2 H3) ∧
      ∀ x H1, J.yld i H x H1 → g x σ H1 fun σ2 H2 => tc σ2 H2 fun b H3 => if b = true then te σ2 H3 fun y H4 => N1 y σ2 H4 else N0 σ2 H3))
def tComp (own : Nat) (js : List Nat) (wi : TI) (g : TG) (tc : TT) (te : TE) : TE := fun σ H Q => wi σ H fun J H1 => ∀ D, H1 D = none →
  ∃ W : Nat → Nat → List V → L2.St → Hp → Prop, (∃ m, W 0 m [] (compSt own js σ) (upd H1 D (.lst []))) ∧ CompW D J g tc te (fun H' => Q (.ref D) H') W
section
variable {X : Cx} {elt tg iter : Expr} {ifs : List Expr} {scope : Scope} {pos : Pos} {N : List Str} {own : Nat} {js : List Nat} {wi : TI} {g : TG} {tc : TT} {te : TE}
theorem comp_block {pins : List (Addr × Obj)} {σ : L2.St} {H : Hp} {s : Shared} {it : Addr} {fp : List Addr} {tn : Nat → Heap → Prop} {J : It} {E : Value → Shared → Prop} {Q : V → Hp → Prop} {R : Value → Addr → Result → Shared → Prop}
    (hc : X.calm = true) (C : CompOk X scope N own js) (hg : ∀ fp s H, PG (compCx X N scope fp s H) tg g) (ht : ∀ fp s H, PIfs (compCx X N scope fp s H) ifs tc) (he : ∀ fp s H, PE (compCx X N scope fp s H) elt te)
    (I : Inv X pins σ H s) (T : Turn X.prog X.w X.K tg J fp it tn) (st : tn 0 s.heap) (hf : ∀ b ∈ fp, FpOk X pins H b)
    (h : ∀ D, H D = none → ∃ W : Nat → Nat → List V → L2.St → Hp → Prop, (∃ m, W 0 m [] (compSt own js σ) (upd H D (.lst []))) ∧ CompW D J g tc te (fun H' => Q (.ref D) H') W)
    (hR : ∀ (D L : Addr) (H' : Hp) (s' : Shared), Inv X pins σ H' s' → (∃ m, s'.heap.Ns L m) → H' L = none → L ≠ X.env.locals → X.s₀.heap.objs.size ≤ L → (∀ x c, X.env.cells.lookup x = some c → c ≠ L) → (∀ p ∈ X.pn ++ pins, p.1 ≠ L) →
      Q (.ref D) H' → R (.ref D) L (.ok .next) s') :
    wpAny (model X.prog X.w) X.A (newList []) (fun acc s₃ => wpAny (model X.prog X.w) X.A (newFunctionEnv scope X.env.globals (closureOf scope X.env) [] X.env.qual none .none (some X.env)) (fun cenv s₄ =>
      codeAny (model X.prog X.w) X.A (.compStart (.ListComp elt [⟨tg, iter, ifs, 0⟩] scope pos) 0 (.ref it) acc { cenv with scope := relabel scope X.env }) (R acc cenv.locals) s₄) E s₃) E s := by
  have hD : H s.heap.objs.size = none := I.hok.fresh (Nat.le_refl _)
  obtain ⟨W, ⟨m0, w0⟩, turn⟩ := h _ hD
  refine wpAny_newObj_type (wpAny_newFunctionEnv C.cells (by intro y hy; simp at hy) (fun h₁ hns₁ hsb₁ => ?_) C.kind)
  have I3 : Inv X pins σ (upd H s.heap.objs.size (.lst [])) { s with heap := s.heap.push { cls := .type "list", data := .seq ([] : List Value).toArray }, toks := s.toks } := I.lnew (its := []) .nil (Nat.zero_le _)
  have hf3 : ∀ b ∈ fp, FpOk X pins (upd H s.heap.objs.size (.lst [])) b := fun b hb => by
    obtain ⟨o, e, _⟩ := T.obj 0 _ st b hb
    exact ⟨by rw [upd_ne (Nat.ne_of_lt (Heap.lt_size e))]; exact (hf b hb).1, (hf b hb).2⟩
  have st3 : tn 0 (s.heap.push { cls := .type "list", data := .seq ([] : List Value).toArray }) := T.keep 0 _ _ st fun b hb o e => Heap.get?_push_of_some _ e
  dsimp only at hns₁ hsb₁ ⊢
  generalize hs3 : ({ s with heap := s.heap.push { cls := .type "list", data := .seq ([] : List Value).toArray }, toks := s.toks } : Shared) = s3 at I3
  have eh : s.heap.push { cls := .type "list", dict := none, data := .seq ([] : List Value).toArray } = s3.heap := by rw [← hs3]
  rw [eh] at hns₁ hsb₁ st3 ⊢
  have old : ∀ b o, s3.heap.get? b = some o → h₁.get? b = some o := fun b o e => hsb₁.extBut b o (Nat.ne_of_lt (Heap.lt_size e)) (Heap.get?_push_of_some _ e)
  generalize hH3 : upd H s.heap.objs.size (.lst []) = H3 at I3 hf3 w0
  have J0 : Inv (compCx X N scope fp s3 H3) [] (compSt own js σ) H3 { s3 with heap := h₁, toks := s3.toks + ([] : List (Str × Value)).length } := comp_start C I3 hf3 (T.obj 0 _ st3) hns₁ old
  have st0 : tn 0 h₁ := T.keep 0 _ _ st3 fun b hb o e => old b o e
  have stat : ∀ {H' : Hp}, (∀ b ∈ fp, H' b = none) → ∀ b ∈ fp, FpOk (compCx X N scope fp s3 H3) [] H' b := fun hn b hb => by
    refine ⟨hn b hb, J0.ok.exf b hb |>.1, J0.ok.exfs b hb, .inl hb, (J0.ok.exf b hb).2, fun p hp => absurd (show p ∈ ([] : List (Addr × Obj)) from hp) (by simp)⟩
  have loop : ∀ s₄ : Shared, s₄ = { s3 with heap := h₁, toks := s3.toks + ([] : List (Str × Value)).length } →
      codeAny (model X.prog X.w) X.A (.compLoop (.ListComp elt [⟨tg, iter, ifs, 0⟩] scope pos) 0 (.ref it) (.ref s.heap.objs.size) (compCx X N scope fp s3 H3).env) (R (.ref s.heap.objs.size) s3.heap.objs.size) s₄ := by
    rintro s₄ rfl
    refine codeAny_loop rfl (fun n s' => ∃ i ys σ' H', Inv (compCx X N scope fp s3 H3) [] σ' H' s' ∧ tn i s'.heap ∧ (∀ b ∈ fp, H' b = none) ∧ W i n ys σ' H') ?_ m0 ⟨0, [], _, _, J0, st0, fun b hb => (hf3 b hb).1, w0⟩
    rintro n s5 ⟨i, ys, σ5, H5, I5, st5, fr5, w5⟩
    show wpAny _ X.A ((compTurn (.ListComp elt [⟨tg, iter, ifs, 0⟩] scope pos) 0 (.ref it) (.ref s.heap.objs.size) (compCx X N scope fp s3 H3).env).onRaise (fun x => do noteFrame x (compCx X N scope fp s3 H3).env; theTreesLotGoes x)) _ _ s5
    refine wpAny_noted ?_
    rw [compTurn_list]
    obtain ⟨hD5, hz5, hw5⟩ := turn i n ys σ5 H5 w5
    refine wpAny_bind (wpAny_standAt (wpAny_bind ?_))
    rcases hw5 with ⟨stop, q⟩ | ⟨go, N1, N0, hN1, hN0, step⟩
    · refine wpAny_mono (T.done (compCx X N scope fp s3 H3) rfl rfl rfl hc i [] s5 σ5 H5 (fun _ _ => False) I5 (stat fr5) st5 stop) (fun r s6 ⟨hr, I6⟩ => ?_) fun _ _ z => z.elim
      subst hr
      obtain ⟨m, hm, _⟩ := id I6.loc
      have IX := comp_end I3 hf3 I6
      exact wpAny_pure (hR _ s3.heap.objs.size H5 s6 IX ⟨m, hm⟩ I6.free (Nat.ne_of_gt I3.lt) I3.sz (fun x c e z => by
        obtain ⟨v, o, ho, _⟩ := I3.cell x c e
        rw [z] at ho
        exact absurd (Heap.lt_size ho) (Nat.lt_irrefl _)) (fun p hp z => by
        have e := (I3.pin p hp).1
        rw [z] at e
        exact absurd (Heap.lt_size e) (Nat.lt_irrefl _)) q)
    · refine wpAny_mono (T.item (compCx X N scope fp s3 H3) rfl rfl rfl hc i [] s5 σ5 H5 (fun _ _ => False) I5 (stat fr5) st5 go) (fun r s6 ⟨u, hr, h6⟩ => ?_) fun _ _ z => z.elim
      subst hr
      refine wpAny_bind (wpAny_mono h6 (fun _ s7 ⟨x, H7, I7, r7, y7, st7, fr7⟩ => ?_) fun _ _ z => z.elim)
      have I7' := I7.pinned (stat fr7) (T.obj _ _ st7)
      refine wpAny_bind (wpAny_mono (hg fp s3 H3 _ s7 σ5 H7 x u _ I7' r7 (step x H7 y7)) (fun _ s8 ⟨σ8, H8, I8, q8⟩ => ?_) fun _ _ z => z.elim)
      refine wpAny_bind (wpAny_mono (ht fp s3 H3 _ s8 σ8 H8 _ I8 q8) (fun ok s9 ⟨H9, I9, q9⟩ => ?_) fun _ _ z => z.elim)
      have again : ∀ {sx : Shared} {Hx : Hp} {ys' : List V}, Inv (compCx X N scope fp s3 H3) ([] ++ pinsAt fp s7.heap) σ8 Hx sx → (∃ m', m' < n ∧ W (i + 1) m' ys' σ8 Hx) →
          ∃ m, m < n ∧ ∃ i ys σ' H', Inv (compCx X N scope fp s3 H3) [] σ' H' sx ∧ tn i sx.heap ∧ (∀ b ∈ fp, H' b = none) ∧ W i m ys σ' H' := fun {sx Hx ys'} Ix ⟨m', hm, wx⟩ => by
        refine ⟨m', hm, i + 1, ys', σ8, Hx, Ix.unpinned, T.keep _ _ _ st7 fun b hb o e => (Ix.pin (b, o) (List.mem_append_right _ (List.mem_append_right _ (mem_pinsAt hb e)))).1, fun b hb => ?_, wx⟩
        obtain ⟨o, e, d⟩ := T.obj _ _ st7 b hb
        exact (Ix.pin (b, o) (List.mem_append_right _ (List.mem_append_right _ (mem_pinsAt hb e)))).2.1
      cases ok with
      | false =>
        rw [if_neg Bool.false_ne_true] at q9
        exact wpAny_pure ⟨rfl, again I9 (hN0 _ _ q9)⟩
      | true =>
        rw [if_pos rfl] at q9
        show wpAny _ X.A ((do let _ ← call (.builtin "list.append") [.ref s.heap.objs.size, ← eval elt (compCx X N scope fp s3 H3).env]) >>= _) _ _ s9
        refine wpAny_bind (wpAny_bind (wpAny_mono (he fp s3 H3 _ s9 σ8 H9 _ I9 q9) (fun v s10 ⟨y, H10, I10, r10, n10⟩ => ?_) fun _ _ z => z.elim))
        obtain ⟨hD10, q10⟩ := hN1 _ _ _ n10
        refine wpAny_bind (wpAny_mono (mt_append (X := compCx X N scope fp s3 H3) _ s10 σ8 H10 (.ref s.heap.objs.size) [y] (.ref s.heap.objs.size) [v] (fun _ H' => H' = upd H10 s.heap.objs.size (.lst (ys ++ [y]))) I10 rfl (.cons r10 .nil)
          ⟨_, ys, y, rfl, rfl, hD10, hz5, rfl⟩) (fun _ s11 ⟨_, H11, I11, _, e11⟩ => ?_) fun _ _ z => z.elim)
        subst e11
        exact wpAny_pure (wpAny_pure ⟨rfl, again I11 q10⟩)
  have es : ({ s with heap := h₁, toks := s.toks + ([] : List (Str × Value)).length } : Shared) = { s3 with heap := h₁, toks := s3.toks + ([] : List (Str × Value)).length } := by rw [← hs3]
  exact codeAny_compStart_list (loop _ es) (T.self _ _ _ _ _ st0 (loop _ es))
theorem pe_comp (hc : X.calm = true) (C : CompOk X scope N own js) (hi : PI X tg iter wi) (hg : ∀ fp s H, PG (compCx X N scope fp s H) tg g) (ht : ∀ fp s H, PIfs (compCx X N scope fp s H) ifs tc) (he : ∀ fp s H, PE (compCx X N scope fp s H) elt te)
    (hs : ∀ x, foldedSetIterable iter X.env x = pure x := by intro _; rfl) : PE X (.ListComp elt [⟨tg, iter, ifs, 0⟩] scope pos) (tComp own js wi g tc te) := by
  intro pins s σ H Q I h
  rw [eval_ListComp]
  refine wpAny_comprehension_free (use := none) rfl hs (closureFor_ok C I) C.kind C.locs (thn (hi pins s σ H _ I h) fun v s1 h1 => thn h1 fun itv s2 h2 => ?_)
  obtain ⟨it, fp, tn, J, H2, e, I2, T, st2, f2, hW⟩ := h2
  subst e
  refine comp_block (R := fun acc L => compPost (model X.prog X.w) X.A X.xe none (EP X pins σ Q) acc L) hc C hg ht he I2 T st2 f2 hW fun D L H' s' I' hm hL1 hL2 hL3 hL4 hL5 q => ?_
  obtain ⟨m, hm⟩ := hm
  refine ⟨m, hm, fun h' sb => ⟨.ref D, H', ?_, rfl, q⟩⟩
  exact I'.turned (t' := s'.toks) (fun b o hb e => (sb.2 b hb).trans e) hL1 hL2 (.inr hL3) hL4 hL5
def sComp (i own : Nat) (js : List Nat) (wi : TI) (g : TG) (tc : TT) (te : TE) : TS := fun D σ H => tComp own js wi g tc te σ H fun v H' => D.nx (σ.set i (some v)) H'
theorem ps_comp {i : Nat} {x : Str} {px : Pos} (hc : X.calm = true) (nd : X.N.Nodup) (hx : X.N[i]? = some x) (hl : X.env.kindOf x = some .local) (C : CompOk X scope N own js) (hi : PI X tg iter wi) (hg : ∀ fp s H, PG (compCx X N scope fp s H) tg g)
    (ht : ∀ fp s H, PIfs (compCx X N scope fp s H) ifs tc) (he : ∀ fp s H, PE (compCx X N scope fp s H) elt te) {spos : Pos}
    (hsw : swapsWith (.ListComp elt [⟨tg, iter, ifs, 0⟩] scope pos) (some (.Name x px)) spos.line X.env = pure true) (hs : ∀ x, foldedSetIterable iter X.env x = pure x := by intro _; rfl) :
    PS X (.Assign [.Name x px] (.ListComp elt [⟨tg, iter, ifs, 0⟩] scope pos) spos) (sComp i own js wi g tc te) := by
  intro pins s σ H D I h
  rw [exec_Assign_Name_used _ _ _ _ hsw]
  refine wpAny_bind (wpAny_standAt (wpAny_bind ?_))
  show wpAny _ X.A (do let _ ← comprehension (.ListComp elt [⟨tg, iter, ifs, 0⟩] scope pos) scope X.env _ (newList []) false (eval iter X.env) (some (assign (.Name x px) X.env))) _ _ s
  refine wpAny_bind (wpAny_mono (wpAny_comprehension_free (use := some (assign (.Name x px) X.env)) (Q := fun _ s' => SP X pins D .next s') rfl hs (closureFor_ok C I) C.kind C.locs
    (thn (hi pins s σ H _ I h) fun v s1 h1 => thn h1 fun itv s2 h2 => ?_)) (fun _ s' hq => wpAny_pure (wpAny_pure hq)) fun _ _ e => e)
  obtain ⟨it, fp, tn, J, H2, e, I2, T, st2, f2, hW⟩ := h2
  subst e
  refine comp_block (Q := fun v H' => D.nx (σ.set i (some v)) H') (R := fun acc L => compPost (model X.prog X.w) X.A X.xe (some (assign (.Name x px) X.env)) (fun _ s' => SP X pins D .next s') acc L) hc C hg ht he I2 T st2 f2 hW fun A L H' s' I' hm hL1 hL2 hL3 hL4 hL5 q => ?_
  obtain ⟨m, hm⟩ := hm
  show wpAny _ X.A (assign (.Name x px) X.env (.ref A)) _ _ _
  refine wpAny_assign_Name (store_ok2 I' nd hx (.inl hl) (v := .ref A) rfl (fun s7 I7 ⟨a, sb, ha⟩ => ?_) (.inr hl))
  have hLa : L ≠ a := by
    rcases ha with rfl | ha
    · exact hL2
    · exact (hL4 _ _ ha).symm
  refine ⟨m, hm.sameBut sb hLa, fun h' sb' => ⟨_, H', ?_, q⟩⟩
  exact I7.turned (t' := s7.toks) (fun b o hb e => (sb'.2 b hb).trans e) hL1 hL2 (.inr hL3) hL4 hL5
end
end L3
namespace L3
open PySem PySem.Spec PyProof.Rows L2
mutual
def DataAt (K : PySem.W.Frag) (H : Hp) : V → PyData → Prop
  | v, .none => v = .non
  | v, .bool b => v = .bl b
  | v, .int i => v = .int i
  | v, .str x => v = .str x
  | v, .list ds => ∃ a xs, v = .ref a ∧ Rd H a (.lst xs) ∧ DataAll K H xs ds
  | v, .tuple ds => ∃ a xs, v = .ref a ∧ H a = some (.tup xs) ∧ DataAll K H xs ds
  | _, .dict _ => False
def DataAll (K : PySem.W.Frag) (H : Hp) : List V → List PyData → Prop
  | xs, [] => xs = []
  | xs, d :: ds => ∃ y ys, xs = y :: ys ∧ DataAt K H y d ∧ DataAll K H ys ds
end
theorem SqT.same {K : PySem.W.Frag} {H H' : Hp} {a : Addr} {xs : List V} (e : Same H H') (h : SqT K H a xs) : SqT K H' a xs := by
  rcases h with (h | ⟨o, h⟩) | h
  · exact .inl (.inl (e _ _ h))
  · exact .inl (.inr ⟨o, e _ _ h⟩)
  · exact .inr h
theorem Rd.same {H H' : Hp} {a : Addr} {u : HO} (e : Same H H') (h : Rd H a u) : Rd H' a u := by
  rcases h with h | ⟨o, h⟩
  · exact .inl (e _ _ h)
  · exact .inr ⟨o, e _ _ h⟩
mutual
theorem DataAt.same {K : PySem.W.Frag} {H H' : Hp} (e : Same H H') : ∀ (d : PyData) {v : V}, DataAt K H v d → DataAt K H' v d
  | .none, _, h => by unfold DataAt at h ⊢; exact h
  | .bool _, _, h => by unfold DataAt at h ⊢; exact h
  | .int _, _, h => by unfold DataAt at h ⊢; exact h
  | .str _, _, h => by unfold DataAt at h ⊢; exact h
  | .list ds, v, h => by
    unfold DataAt at h ⊢
    obtain ⟨a, xs, h1, h2, h3⟩ := h
    exact ⟨a, xs, h1, Rd.same e h2, DataAll.same e ds h3⟩
  | .tuple ds, v, h => by
    unfold DataAt at h ⊢
    obtain ⟨a, xs, h1, h2, h3⟩ := h
    exact ⟨a, xs, h1, e _ _ h2, DataAll.same e ds h3⟩
  | .dict _, _, h => by unfold DataAt at h; exact h.elim
theorem DataAll.same {K : PySem.W.Frag} {H H' : Hp} (e : Same H H') : ∀ (ds : List PyData) {xs : List V}, DataAll K H xs ds → DataAll K H' xs ds
  | [], _, h => by unfold DataAll at h ⊢; exact h
  | d :: ds, _, h => by
    unfold DataAll at h ⊢
    obtain ⟨y, ys, h1, h2, h3⟩ := h
    exact ⟨y, ys, h1, DataAt.same e d h2, DataAll.same e ds h3⟩
end
mutual
theorem DataAt.reads {X : Cx} {pins : List (Addr × Obj)} {σ : L2.St} {H : Hp} {s : Shared} (I : Inv X pins σ H s) : ∀ (d : PyData) {v : V} {u : Value}, DataAt X.K H v d → RelV v u → ∃ as, Reads s.heap u d as
  | .none, _, u, h, r => by
    unfold DataAt at h; subst h
    cases r
    exact ⟨_, .none⟩
  | .bool b, _, u, h, r => by
    unfold DataAt at h; subst h
    cases r
    exact ⟨_, .bool b⟩
  | .int i, _, u, h, r => by
    unfold DataAt at h; subst h
    obtain ⟨t, rfl⟩ := r
    exact ⟨_, .int i t⟩
  | .str x, _, u, h, r => by
    unfold DataAt at h; subst h
    obtain ⟨t, rfl⟩ := r
    exact ⟨_, .str x t⟩
  | .list ds, _, u, h, r => by
    unfold DataAt at h
    obtain ⟨a, xs, rfl, h2, h3⟩ := h
    cases r
    obtain ⟨its, rv, ⟨o, n, e, c, _, hd⟩, _⟩ := I.list (.inl h2)
    obtain ⟨as, q⟩ := DataAll.reads I ds h3 rv
    exact ⟨_, .list e c hd (by simpa using q)⟩
  | .tuple ds, _, u, h, r => by
    unfold DataAt at h
    obtain ⟨a, xs, rfl, h2, h3⟩ := h
    cases r
    obtain ⟨its, rv, ⟨o, e, c, n, hd⟩, _⟩ := I.tuple (SqT.of h2)
    obtain ⟨as, q⟩ := DataAll.reads I ds h3 rv
    exact ⟨_, .tuple e c hd (by simpa using q)⟩
  | .dict _, _, _, h, _ => by unfold DataAt at h; exact h.elim
theorem DataAll.reads {X : Cx} {pins : List (Addr × Obj)} {σ : L2.St} {H : Hp} {s : Shared} (I : Inv X pins σ H s) : ∀ (ds : List PyData) {xs : List V} {us : List Value}, DataAll X.K H xs ds → Vals xs us → ∃ as, ReadsAll s.heap us ds as
  | [], _, us, h, r => by
    unfold DataAll at h; subst h
    cases r
    exact ⟨_, .nil⟩
  | d :: ds, _, us, h, r => by
    unfold DataAll at h
    obtain ⟨y, ys, rfl, h2, h3⟩ := h
    cases r with
    | cons r1 r2 =>
      obtain ⟨as, q⟩ := DataAt.reads I d h2 r1
      obtain ⟨bs, q'⟩ := DataAll.reads I ds h3 r2
      exact ⟨_, .cons q q'⟩
end
theorem DataAll.ints {K : PySem.W.Frag} {H : Hp} : ∀ (ns : List Int), DataAll K H (ns.map V.int) (ns.map PyData.int)
  | [] => by unfold DataAll; rfl
  | n :: ns => by
    show DataAll K H (V.int n :: ns.map V.int) (PyData.int n :: ns.map PyData.int)
    unfold DataAll
    exact ⟨_, _, rfl, by unfold DataAt; rfl, DataAll.ints ns⟩
theorem DataAll.strs {K : PySem.W.Frag} {H : Hp} : ∀ (ns : List Str), DataAll K H (ns.map V.str) (ns.map PyData.str)
  | [] => by unfold DataAll; rfl
  | n :: ns => by
    show DataAll K H (V.str n :: ns.map V.str) (PyData.str n :: ns.map PyData.str)
    unfold DataAll
    exact ⟨_, _, rfl, by unfold DataAt; rfl, DataAll.strs ns⟩
section
variable {X : Cx}
def rEqD (K : PySem.W.Frag) (n : Nat) : R2 := fun x y H Q => ∃ d e, DataAt K H x d ∧ DataAt K H y e ∧ d.canLay0 = true ∧ e.canLay0 = true ∧ min d.depth e.depth ≤ n ∧ Q (.bl (PyData.eqv d e)) H
def rNeD (K : PySem.W.Frag) (n : Nat) : R2 := fun x y H Q => ∃ d e, DataAt K H x d ∧ DataAt K H y e ∧ d.canLay0 = true ∧ e.canLay0 = true ∧ min d.depth e.depth ≤ n ∧ Q (.bl (!PyData.eqv d e)) H
theorem op_eqD {n : Nat} (hu : X.A.units + n < cLine) : OpR X (compareOp .Eq) (rEqD X.K n) := by
  intro pins s σ H x y v u Q I rx ry h
  obtain ⟨d, e, hd, he, l1, l2, hn, q⟩ := h
  obtain ⟨as, r1⟩ := DataAt.reads I d hd rx
  obtain ⟨bs, r2⟩ := DataAt.reads I e he ry
  exact SeqAt.compareEq_reads r1 r2 l1 l2 (by omega) ⟨.bl _, H, I, rfl, q⟩
theorem op_neD {n : Nat} (hu : X.A.units + n < cLine) : OpR X (compareOp .NotEq) (rNeD X.K n) := by
  intro pins s σ H x y v u Q I rx ry h
  obtain ⟨d, e, hd, he, l1, l2, hn, q⟩ := h
  obtain ⟨as, r1⟩ := DataAt.reads I d hd rx
  obtain ⟨bs, r2⟩ := DataAt.reads I e he ry
  exact SeqAt.compareNe_reads r1 r2 l1 l2 (by omega) ⟨.bl _, H, I, rfl, q⟩
def tyName (K : PySem.W.Frag) (H : Hp) (x : V) (T : String) : Prop := match x with
  | .non => T = "NoneType"
  | .bl _ => T = "bool"
  | .int _ => T = "int"
  | .str _ => T = "str"
  | .ref a => (T = "list" ∧ ((∃ xs, H a = some (.lst xs)) ∨ ∃ o xs, H a = some (.frz o (.lst xs)))) ∨ (T = "tuple" ∧ ∃ xs, H a = some (.tup xs)) ∨ (T = "dict" ∧ ∃ kvs, H a = some (.dK kvs))
  | _ => False
theorem tyName.of {K : PySem.W.Frag} {H : Hp} {x : V} {T : String} (h : tyName K H x T) : TyOf K H x (.type T) := by
  cases x with
  | non => cases (show T = "NoneType" from h); exact .non
  | bl b => cases (show T = "bool" from h); exact .bl b
  | int i => cases (show T = "int" from h); exact .int i
  | str z => cases (show T = "str" from h); exact .str z
  | ref a =>
    rcases h with ⟨rfl, ⟨xs, e⟩ | ⟨o, xs, e⟩⟩ | ⟨rfl, xs, e⟩ | ⟨rfl, kvs, e⟩
    · exact .lst e
    · exact .frz e
    · exact .tup e
    · exact .dK e
  | _ => exact (show False from h).elim
theorem call_isi : CallR X (.builtin "isinstance") (fun xs H Q => ∃ x S T b, xs = [x, .ty T] ∧ tyName X.K H x S ∧ PySem.W.kitOne X.K (.type S) (.type T) = some b ∧ Q (.bl b) H) := by
  intro pins s σ H xs us Q I r h
  obtain ⟨x, S, T, b, rfl, ty, e, q⟩ := h
  obtain ⟨u, w', rfl, rx, ry⟩ := vals2 r
  cases ry
  exact isinst_ok I rx ty.of e fun tk => ⟨.bl b, H, I.tok _, rfl, q⟩
end
structure Yields (J : It) (xs : List V) (P : Hp → Prop) : Prop where
  go : ∀ i H, P H → i < xs.length → J.go i H
  stop : ∀ H, P H → J.stop xs.length H
  yld : ∀ i H x H', P H → i < xs.length → J.yld i H x H' → H' = H ∧ xs[i]? = some x
theorem yields_list {K : PySem.W.Frag} {a : Addr} {xs : List V} : Yields (Itl K a) xs (fun H => SqL K H a xs) where
  go := fun i H h hi => ⟨xs, xs[i], h, by simp [hi]⟩
  stop := fun H h => ⟨xs, h, Nat.le_refl _⟩
  yld := fun i H x H' h _ y => ⟨y.1, y.2 xs h⟩
theorem yields_range {lo : Int} {n : Nat} {P : Hp → Prop} : Yields (Itr lo n) ((List.range n).map fun i => V.int (lo + (i : Nat))) P where
  go := fun i H _ hi => (by simpa using hi : i < n)
  stop := fun H _ => by show n ≤ _; simp
  yld := fun i H x H' _ hi y => by
    obtain ⟨e1, e2⟩ := y
    subst e2
    have hi' : i < n := by simpa using hi
    exact ⟨e1, by rw [List.getElem?_map, List.getElem?_range hi']; rfl⟩
theorem comp_inv {J : It} {xs : List V} {P : Hp → Prop} {D : Addr} {g : TG} {tc : TT} {te : TE} {Q : Hp → Prop} {σ : L2.St} {H : Hp} (Y : Yields J xs P) (Pv : Nat → List V → L2.St → Hp → Prop) (h0 : Pv 0 [] σ H)
    (hD : ∀ i ys σ H, Pv i ys σ H → P H ∧ H D = some (.lst ys) ∧ ys.length ≤ i) (hz : xs.length < sizeLine)
    (step : ∀ i x ys σ H, xs[i]? = some x → Pv i ys σ H → g x σ H fun σ2 H2 => tc σ2 H2 fun b H3 => if b = true then te σ2 H3 fun y H4 => H4 D = some (.lst ys) ∧ Pv (i + 1) (ys ++ [y]) σ2 (upd H4 D (.lst (ys ++ [y]))) else Pv (i + 1) ys σ2 H3)
    (hq : ∀ ys σ H, Pv xs.length ys σ H → Q H) : ∃ W : Nat → Nat → List V → L2.St → Hp → Prop, (∃ m, W 0 m [] σ H) ∧ CompW D J g tc te Q W := by
  refine ⟨fun i m ys σ H => m = xs.length - i ∧ i ≤ xs.length ∧ Pv i ys σ H, ⟨xs.length, by simp, Nat.zero_le _, h0⟩, ?_⟩
  rintro i m ys σ H ⟨rfl, hi, p⟩
  obtain ⟨h1, h2, h3⟩ := hD i ys σ H p
  refine ⟨h2, by omega, ?_⟩
  by_cases hlt : i < xs.length
  · refine .inr ⟨Y.go i H h1 hlt, fun y σ2 H4 => H4 D = some (.lst ys) ∧ Pv (i + 1) (ys ++ [y]) σ2 (upd H4 D (.lst (ys ++ [y]))), fun σ2 H3 => Pv (i + 1) ys σ2 H3, fun y σ2 H4 q => ⟨q.1, xs.length - (i + 1), by omega, rfl, hlt, q.2⟩,
      fun σ2 H3 q => ⟨xs.length - (i + 1), by omega, rfl, hlt, q⟩, fun x H1 y => ?_⟩
    obtain ⟨e, y'⟩ := Y.yld i H x H1 h1 hlt y
    subst e
    exact step i x ys σ _ y' p
  · have e : i = xs.length := by omega
    subst e
    exact .inl ⟨Y.stop H h1, hq ys σ H p⟩
end L3
namespace L3
open PySem PySem.Spec PyProof.Rows L2
theorem comp_grow {J : It} {xs : List V} {P : Hp → Prop} {D : Addr} {g : TG} {tc : TT} {te : TE} {Q : Hp → Prop} {σ : L2.St} {H : Hp} (hD : H D = none) (Y : Yields J xs P) (S : L2.St → Prop) (f : V → Option V) (h0 : S σ) (hP : ∀ H', Same H H' → P H') (hz : xs.length < sizeLine)
    (step : ∀ (x : V) (ys : List V) (σ : L2.St) (H' : Hp) (R1 : L2.St → V → Hp → Prop) (R0 : L2.St → Hp → Prop), x ∈ xs → S σ → Same H H' → (∀ σ2 y H4, S σ2 → f x = some y → Same H' H4 → R1 σ2 y H4) → (∀ σ2 H3, S σ2 → f x = none → Same H' H3 → R0 σ2 H3) →
      g x σ H' fun σ2 H2 => tc σ2 H2 fun b H3 => if b = true then te σ2 H3 fun y H4 => R1 σ2 y H4 else R0 σ2 H3)
    (hq : ∀ H', Same H H' → H' D = some (.lst (xs.filterMap f)) → Q H') : ∃ W : Nat → Nat → List V → L2.St → Hp → Prop, (∃ m, W 0 m [] σ (upd H D (.lst []))) ∧ CompW D J g tc te Q W := by
  have up : ∀ {H' : Hp} {o : HO}, Same H H' → Same H (upd H' D o) := fun {H' o} s b ob e => by
    rw [upd_ne (ne_of_none e hD)]
    exact s b ob e
  refine comp_inv Y (fun i ys σ H' => Same H H' ∧ H' D = some (.lst ys) ∧ ys = (xs.take i).filterMap f ∧ S σ) ⟨up (Same.refl H), upd_same, by simp, h0⟩ (fun i ys σ H' ⟨s, e, e2, _⟩ => ⟨hP H' s, e, ?_⟩) hz (fun i x ys σ H' hx ⟨s, e, e2, hS⟩ => ?_) fun ys σ H' ⟨s, e, e2, _⟩ => ?_
  · rw [e2]
    exact Nat.le_trans (List.length_filterMap_le _ _) (by rw [List.length_take]; omega)
  · have hi : i < xs.length := (List.getElem?_eq_some_iff.mp hx).1
    have et : xs.take (i + 1) = xs.take i ++ [x] := by rw [List.take_succ, hx]; rfl
    refine step x ys σ H' _ _ (List.mem_of_getElem? hx) hS s (fun σ2 y H4 h2 hf s4 => ⟨s4 _ _ e, up (s.trans s4), upd_same, ?_, h2⟩) fun σ2 H3 h2 hf s3 => ⟨s.trans s3, s3 _ _ e, ?_, h2⟩
    · rw [et, List.filterMap_append, ← e2]; simp [hf]
    · rw [et, List.filterMap_append, ← e2]; simp [hf]
  · refine hq H' s ?_
    rw [e, e2, List.take_length]
end L3
namespace L3
open PySem PySem.Spec PyProof.Rows L2
section
variable {X : Cx}
end
end L3
namespace L3
open PySem PySem.Spec PyProof.Rows L2
section
variable {X : Cx}
abbrev TF := L2.St → Hp → Str → (Str → Hp → Prop) → Prop
def PF (X : Cx) (es : List Expr) (t : TF) : Prop :=
  ∀ (pins : List (Addr × Obj)) (s : Shared) (σ : L2.St) (H : Hp) (acc : Str) (Q : Str → Hp → Prop), Inv X pins σ H s → t σ H acc Q → wpAny (model X.prog X.w) X.A (joinParts acc (evalEach es X.env)) (EP X pins σ fun v H' => ∃ z, v = .str z ∧ Q z H') X.xe s
end
end L3
namespace L3
open PySem PySem.Spec PyProof.Rows L2
section
variable (K : PySem.W.Frag)
theorem kit_int_int : PySem.W.kitOne K (.type "int") (.type "int") = some true := by kernel_rfl
theorem kit_int_bool : PySem.W.kitOne K (.type "int") (.type "bool") = some false := by kernel_rfl
theorem kit_list_list : PySem.W.kitOne K (.type "list") (.type "list") = some true := by kernel_rfl
end
theorem Same.upd {H H' : Hp} {a : Addr} {o : HO} (s : Same H H') (h : H a = none) : Same H (L2.upd H' a o) := fun b ob e => by
  rw [upd_ne (ne_of_none e h)]
  exact s b ob e
theorem Same.upd0 {H : Hp} {a : Addr} {o : HO} (h : H a = none) : Same H (L2.upd H a o) := Same.upd (Same.refl H) h
end L3
namespace L3
open PySem PySem.Spec PyProof.Rows L2
def varB (sc : Scope) (M : List Str) (i : Nat) (x : Str) : Bool :=
  (M[i]? == some x) && (sc.names.lookup x == some .local || sc.names.lookup x == some .cell || sc.names.lookup x == some .free) && !(x == ("__debug__" : Str)) && !(x == ("__classdict__" : Str))
def setB (sc : Scope) (M : List Str) (i : Nat) (x : Str) : Bool := (M[i]? == some x) && decide M.Nodup && sc.names.lookup x == some .local
def setCB (sc : Scope) (M : List Str) (i : Nat) (x : Str) : Bool := (M[i]? == some x) && decide M.Nodup && sc.names.lookup x == some .cell
def glB (sc : Scope) (x : Str) : Bool := (sc.names.lookup x == some .globalImplicit) && !(x == ("__debug__" : Str)) && !(x == ("__name__" : Str))
def relabelS (scope sc : Scope) : Scope :=
  { scope with names := scope.names.map fun (n, k) => if (k == .free && sc.kind == .function && sc.names.lookup n == some .cell) then (n, .cell) else (n, k) }
section
variable {X : Cx} {i : Nat} {x : Str} {pos : Pos} {sc : Scope} {M : List Str}
theorem pvN (h1 : X.env.scope = sc) (h2 : X.N = M) (hb : varB sc M i x = true) : PE X (.Name x pos) (tVar i) := by
  unfold varB at hb
  simp only [Bool.and_eq_true, Bool.or_eq_true, Bool.not_eq_true', beq_iff_eq] at hb
  obtain ⟨⟨⟨a1, a2⟩, a3⟩, a4⟩ := hb
  refine pe_var (by rw [h2]; exact a1) ?_ a3 a4
  unfold Vis
  rw [h1]
  rcases a2 with (a2 | a2) | a2
  · exact .inl a2
  · exact .inr (.inl a2)
  · exact .inr (.inr a2)
theorem pvA (i : Nat) (sc : Scope) (M : List Str) (h1 : X.env.scope = sc) (h2 : X.N = M) (hb : varB sc M i x = true := by decide +kernel) : PE X (.Name x pos) (tVar i) := pvN h1 h2 hb
theorem pgN (h1 : X.env.scope = sc) (h2 : X.N = M) (hb : setB sc M i x = true) : PG X (.Name x pos) (gName i) := by
  unfold setB at hb
  simp only [Bool.and_eq_true, decide_eq_true_eq, beq_iff_eq] at hb
  obtain ⟨⟨a1, a2⟩, a3⟩ := hb
  have l : X.env.scope.names.lookup x = some .local := by rw [h1]; exact a3
  exact pg_name (by rw [h2]; exact a2) (by rw [h2]; exact a1) (.inl l) (.inr l)
theorem pgC (h1 : X.env.scope = sc) (h2 : X.N = M) (h3 : X.fn x = true) (hb : setCB sc M i x = true) : PG X (.Name x pos) (gName i) := by
  unfold setCB at hb
  simp only [Bool.and_eq_true, decide_eq_true_eq, beq_iff_eq] at hb
  obtain ⟨⟨a1, a2⟩, a3⟩ := hb
  have l : X.env.scope.names.lookup x = some .cell := by rw [h1]; exact a3
  exact pg_name (by rw [h2]; exact a2) (by rw [h2]; exact a1) (.inr l) (.inl h3)
variable {e : Expr} {te : TE} {pos' : Pos}
theorem psN (h1 : X.env.scope = sc) (h2 : X.N = M) (hb : setB sc M i x = true) (he : PE X e te) (hs : swapsWith e (some (.Name x pos')) pos.line X.env = pure false := by rfl) : PS X (.Assign [.Name x pos'] e pos) (tAsg te (gName i)) := by
  unfold setB at hb
  simp only [Bool.and_eq_true, decide_eq_true_eq, beq_iff_eq] at hb
  obtain ⟨⟨a1, a2⟩, a3⟩ := hb
  have l : X.env.scope.names.lookup x = some .local := by rw [h1]; exact a3
  exact ps_set (by rw [h2]; exact a2) (by rw [h2]; exact a1) (.inl l) he hs (.inr l)
theorem psC (h1 : X.env.scope = sc) (h2 : X.N = M) (h3 : X.fn x = true) (hb : setCB sc M i x = true) (he : PE X e te) (hs : swapsWith e (some (.Name x pos')) pos.line X.env = pure false := by rfl) : PS X (.Assign [.Name x pos'] e pos) (tAsg te (gName i)) := by
  unfold setCB at hb
  simp only [Bool.and_eq_true, decide_eq_true_eq, beq_iff_eq] at hb
  obtain ⟨⟨a1, a2⟩, a3⟩ := hb
  have l : X.env.scope.names.lookup x = some .cell := by rw [h1]; exact a3
  exact ps_set (by rw [h2]; exact a2) (by rw [h2]; exact a1) (.inr l) he hs (.inl h3)
theorem glN (h1 : X.env.scope = sc) (hb : glB sc x = true) : Gl X x ∧ (x == ("__debug__" : Str)) = false ∧ x ≠ "__name__" := by
  unfold glB at hb
  simp only [Bool.and_eq_true, Bool.not_eq_true', beq_iff_eq] at hb
  obtain ⟨⟨a1, a2⟩, a3⟩ := hb
  refine ⟨?_, a2, fun z => ?_⟩
  · show X.env.scope.names.lookup x = _
    rw [h1]
    exact a1
  · rw [beq_eq_false_iff_ne] at a3
    exact a3 z
end
section
variable {X : Cx} {CX : CXT} {k : Nat} {f : Addr} {fd : FuncData} {ps : List Str} {sp : Sp} {dvs : List V} {ds : List Value} {E : XK} {x : Str} {p pos : Pos} {e : Expr} {es : List Expr} {t : TA} {sc : Scope} {r : List V → Hp → VK → Prop} {id T : String}
theorem pe_callN (F : FnOk X.prog X.w X.K X.mg X.base CX k f fd ps sp) (hr : Room k X.A) (h1 : X.env.scope = sc) (hg : glB sc x = true) (hm : X.mg x = some (.ref f)) (hk : PySem.W.keepIn X.K (.ref f) = true) (hb : Binds X.K fd ps ds) (hd : Vals dvs ds) (hx : Passes CX X E)
    (ha : PA X (e :: es) t) (he : starEach (e :: es) X.env = (false, eval e X.env) :: starEach es X.env := by rfl) (hpl : (backTo pos (starEach es X.env)).any (·.1) = false := by rfl) : PE X (.Call (.Name x p) (e :: es) [] pos) (tCall sp dvs E t) :=
  pe_call F hr (glN h1 hg).1 hm hk hb hd hx ha (glN h1 hg).2.1 he hpl
theorem pe_callBN (hc : CallR X (.builtin id) r) (h1 : X.env.scope = sc) (hg : glB sc x = true) (hm : X.mg x = none) (hv : bootBuiltins x = some (.builtin id)) (ha : PA X (e :: es) t)
    (he : starEach (e :: es) X.env = (false, eval e X.env) :: starEach es X.env := by rfl) (hpl : (backTo pos (starEach es X.env)).any (·.1) = false := by rfl) : PE X (.Call (.Name x p) (e :: es) [] pos) (tCB r t) :=
  pe_callB hc (glN h1 hg).1 hm hv ha (glN h1 hg).2.2 (glN h1 hg).2.1 he hpl
theorem pe_callTyN (hc : CallR X (.type T) r) (h1 : X.env.scope = sc) (hg : glB sc x = true) (hm : X.mg x = none) (hv : bootBuiltins x = some (.type T)) (ha : PA X (e :: es) t)
    (he : starEach (e :: es) X.env = (false, eval e X.env) :: starEach es X.env := by rfl) (hpl : (backTo pos (starEach es X.env)).any (·.1) = false := by rfl) : PE X (.Call (.Name x p) (e :: es) [] pos) (tCB r t) :=
  pe_callTy hc (glN h1 hg).1 hm hv ha (glN h1 hg).2.2 (glN h1 hg).2.1 he hpl
theorem pe_globN {v : V} {u : Value} (h1 : X.env.scope = sc) (hg : glB sc x = true) (hm : X.mg x = some u) (r : RelV v u) : PE X (.Name x pos) (tC v) := pe_glob (glN h1 hg).1 hm r (glN h1 hg).2.1
theorem pe_bltN {v : V} {u : Value} (h1 : X.env.scope = sc) (hg : glB sc x = true) (hm : X.mg x = none) (hv : bootBuiltins x = some u) (r : RelV v u) : PE X (.Name x pos) (tC v) := pe_bltn (glN h1 hg).1 hm hv r (glN h1 hg).2.2 (glN h1 hg).2.1
theorem glR (h1 : X.env.scope = sc) (hg : glB sc x = true) : Gl X x := (glN h1 hg).1
end
theorem bt_len : bootBuiltins "len" = some (.builtin "len") := by decide +kernel
theorem bt_sum : bootBuiltins "sum" = some (.builtin "sum") := by decide +kernel
theorem bt_isinstance : bootBuiltins "isinstance" = some (.builtin "isinstance") := by decide +kernel
theorem bt_max : bootBuiltins "max" = some (.builtin "max") := by decide +kernel
theorem bt_int : bootBuiltins "int" = some (.type "int") := by decide +kernel
theorem bt_bool : bootBuiltins "bool" = some (.type "bool") := by decide +kernel
theorem bt_list : bootBuiltins "list" = some (.type "list") := by decide +kernel
end L3
namespace L3
open PySem PySem.Spec PyProof.Rows L2
theorem psN_comp {X : Cx} {elt tg iter : Expr} {ifs : List Expr} {scope : Scope} {pos : Pos} {N : List Str} {own : Nat} {js : List Nat} {wi : TI} {g : TG} {tc : TT} {te : TE} {i : Nat} {x : Str} {px : Pos} {sc : Scope} {M : List Str} (hc : X.calm = true) (h1 : X.env.scope = sc) (h2 : X.N = M) (hb : setB sc M i x = true)
    (C : CompOk X scope N own js) (hi : PI X tg iter wi) (hg : ∀ fp s H, PG (compCx X N scope fp s H) tg g) (ht : ∀ fp s H, PIfs (compCx X N scope fp s H) ifs tc) (he : ∀ fp s H, PE (compCx X N scope fp s H) elt te) {spos : Pos}
    (hsw : swapsWith (.ListComp elt [⟨tg, iter, ifs, 0⟩] scope pos) (some (.Name x px)) spos.line X.env = pure true) (hs : ∀ x, foldedSetIterable iter X.env x = pure x := by intro _; rfl) :
    PS X (.Assign [.Name x px] (.ListComp elt [⟨tg, iter, ifs, 0⟩] scope pos) spos) (sComp i own js wi g tc te) := by
  unfold setB at hb
  simp only [Bool.and_eq_true, decide_eq_true_eq, beq_iff_eq] at hb
  obtain ⟨⟨a1, a2⟩, a3⟩ := hb
  exact ps_comp hc (by rw [h2]; exact a2) (by rw [h2]; exact a1) (by show X.env.scope.names.lookup x = _; rw [h1]; exact a3) C hi hg ht he hsw hs
end L3
namespace L4
open PySem PySem.Spec PyProof.Rows L2 L3
structure Gr (D H D' H' : Hp) : Prop where
  dd : Same D D'
  hh : Same H H'
  dh : Same D' H'
  nw : ∀ b o, H b = some o → D b = none → D' b = none
section
variable {D D' D'' H H' H'' : Hp} {p : Addr} {o : HO} {K : PySem.W.Frag}
theorem Gr.refl (s : Same D H) : Gr D H D H := ⟨Same.refl D, Same.refl H, s, fun _ _ _ n => n⟩
theorem Gr.trans (a : Gr D H D' H') (b : Gr D' H' D'' H'') : Gr D H D'' H'' :=
  ⟨a.dd.trans b.dd, a.hh.trans b.hh, b.dh, fun c o e n => b.nw c o (a.hh c o e) (a.nw c o e n)⟩
theorem Gr.heap (s : Same D H) (h : Same H H') : Gr D H D H' := ⟨Same.refl D, h, s.trans h, fun _ _ _ n => n⟩
theorem Gr.then (a : Gr D H D' H') (h : Same H' H'') : Gr D H D' H'' := a.trans (Gr.heap a.dh h)
theorem free_of (s : Same D H) (h : H p = none) : D p = none := s.free h
theorem Gr.lay (s : Same D H) (h : H p = none) : Gr D H (upd D p o) (upd H p o) := by
  refine ⟨Same.upd0 (free_of s h), Same.upd0 h, fun b u e => ?_, fun b u e n => ?_⟩
  · by_cases hb : b = p
    · subst hb; rw [upd_same] at e ⊢; exact e
    · rw [upd_ne hb] at e ⊢; exact s b u e
  · rw [upd_ne (ne_of_none e h)]; exact n
theorem Gr.layH (s : Same D H) (h : H p = none) : Gr D H D (upd H p o) := Gr.heap s (Same.upd0 h)
theorem Gr.fix (a : Gr D H D' H') (h : H p = none) (n : D' p = none) (e : H' p = some o) : Gr D H (upd D' p o) H' := by
  refine ⟨a.dd.trans (Same.upd0 n), a.hh, fun b u q => ?_, fun b u q z => ?_⟩
  · by_cases hb : b = p
    · subst hb; rw [upd_same] at q; rw [e]; exact q
    · rw [upd_ne hb] at q; exact a.dh b u q
  · rw [upd_ne (ne_of_none q h)]; exact a.nw b u q z
theorem Gr.set (a : Gr D H D' H') (h : H p = none) (n : D' p = none) : Gr D H D' (upd H' p o) :=
  ⟨a.dd, fun b u e => by rw [upd_ne (ne_of_none e h)]; exact a.hh b u e, fun b u e => by rw [upd_ne (ne_of_none e n)]; exact a.dh b u e, a.nw⟩
theorem Gr.old (a : Gr D H D' H') (e : H p = some o) (n : D p = none) : H' p = some o ∧ D' p = none := ⟨a.hh p o e, a.nw p o e n⟩
theorem same_set (s : Same D H) (n : D p = none) : Same D (upd H p o) := fun b u e => by
  rw [upd_ne (ne_of_none e n)]; exact s b u e
end
end L4
namespace L3
open PySem PySem.Spec PyProof.Rows L2 L4
section
variable {D D' D'' H H' H'' : Hp} {p : Addr} {o : HO} {K : PySem.W.Frag}
theorem DataAll.length : ∀ {ds : List PyData} {xs : List V}, DataAll K H xs ds → xs.length = ds.length
  | [], xs, h => by unfold DataAll at h; rw [h]; rfl
  | d :: ds, xs, h => by
    unfold DataAll at h
    obtain ⟨y, ys, rfl, _, h3⟩ := h
    rw [List.length_cons, List.length_cons, DataAll.length h3]
theorem DataAll.nil : DataAll K H [] [] := by unfold DataAll; rfl
theorem DataAll.cons {x : V} {xs : List V} {d : PyData} {ds : List PyData} (h1 : DataAt K H x d) (h2 : DataAll K H xs ds) : DataAll K H (x :: xs) (d :: ds) := by unfold DataAll; exact ⟨x, xs, rfl, h1, h2⟩
theorem DataAll.snoc {x : V} {d : PyData} (h1 : DataAt K H x d) : ∀ {ds : List PyData} {xs : List V}, DataAll K H xs ds → DataAll K H (xs ++ [x]) (ds ++ [d])
  | [], xs, h => by unfold DataAll at h; subst h; exact DataAll.cons h1 DataAll.nil
  | d :: ds, xs, h => by
    unfold DataAll at h
    obtain ⟨y, ys, rfl, h2, h3⟩ := h
    exact DataAll.cons h2 (DataAll.snoc h1 h3)
theorem DataAll.at_ : ∀ {ds : List PyData} {xs : List V} {i : Nat} {d : PyData}, DataAll K H xs ds → ds[i]? = some d → ∃ x, xs[i]? = some x ∧ DataAt K H x d
  | [], _, _, _, _, e => by simp at e
  | d :: ds, xs, 0, d', h, e => by
    unfold DataAll at h
    obtain ⟨y, ys, rfl, h2, h3⟩ := h
    simp at e; subst e
    exact ⟨y, rfl, h2⟩
  | d :: ds, xs, i + 1, d', h, e => by
    unfold DataAll at h
    obtain ⟨y, ys, rfl, h2, h3⟩ := h
    obtain ⟨x, e1, e2⟩ := DataAll.at_ (i := i) h3 (by simpa using e)
    exact ⟨x, by simpa using e1, e2⟩
theorem DataAll.back : ∀ {ds : List PyData} {xs : List V} {i : Nat} {x : V}, DataAll K H xs ds → xs[i]? = some x → ∃ d, ds[i]? = some d ∧ DataAt K H x d := fun {ds xs i x} h e => by
  have hl := DataAll.length h
  have hi : i < xs.length := (List.getElem?_eq_some_iff.mp e).1
  obtain ⟨y, e1, e2⟩ := DataAll.at_ h (List.getElem?_eq_getElem (show i < ds.length by omega))
  rw [e] at e1
  cases e1
  exact ⟨_, List.getElem?_eq_getElem (by omega), e2⟩
theorem DataAt.gr {v : V} {d : PyData} (h : DataAt K D v d) (g : Gr D H D' H') : DataAt K D' v d := DataAt.same g.dd d h
theorem DataAt.up {v : V} {d : PyData} (h : DataAt K D v d) (s : Same D H) : DataAt K H v d := DataAt.same s d h
theorem DataAll.up {v : List V} {d : List PyData} (h : DataAll K D v d) (s : Same D H) : DataAll K H v d := DataAll.same s d h
theorem DataAt.mkL {xs : List V} {ds : List PyData} (h : DataAll K D xs ds) (e : H p = some (.lst xs)) (s : Same D H) : DataAt K H (.ref p) (.list ds) := by
  unfold DataAt
  exact ⟨p, xs, rfl, Rd.of e, h.up s⟩
theorem DataAt.mkT {xs : List V} {ds : List PyData} (h : DataAll K D xs ds) (e : H p = some (.tup xs)) (s : Same D H) : DataAt K H (.ref p) (.tuple ds) := by
  unfold DataAt
  exact ⟨p, xs, rfl, e, h.up s⟩
theorem DataAt.lst {v : V} {ds : List PyData} (h : DataAt K H v (.list ds)) : ∃ a xs, v = .ref a ∧ Rd H a (.lst xs) ∧ DataAll K H xs ds := by unfold DataAt at h; exact h
theorem DataAt.tup {v : V} {ds : List PyData} (h : DataAt K H v (.tuple ds)) : ∃ a xs, v = .ref a ∧ H a = some (.tup xs) ∧ DataAll K H xs ds := by unfold DataAt at h; exact h
theorem DataAt.int {v : V} {i : Int} (h : DataAt K H v (.int i)) : v = .int i := by unfold DataAt at h; exact h
theorem DataAt.str {v : V} {i : Str} (h : DataAt K H v (.str i)) : v = .str i := by unfold DataAt at h; exact h
theorem DataAt.bl {v : V} {i : Bool} (h : DataAt K H v (.bool i)) : v = .bl i := by unfold DataAt at h; exact h
theorem DataAt.ofInt {i : Int} : DataAt K H (.int i) (.int i) := by unfold DataAt; rfl
theorem DataAt.ofStr {i : Str} : DataAt K H (.str i) (.str i) := by unfold DataAt; rfl
theorem DataAll.strs_eq : ∀ {ss : List Str} {xs : List V}, DataAll K H xs (ss.map PyData.str) → xs = ss.map V.str
  | [], xs, h => by unfold DataAll at h; exact h
  | z :: ss, xs, h => by
    unfold DataAll at h
    obtain ⟨y, ys, rfl, h2, h3⟩ := h
    rw [DataAt.str h2, DataAll.strs_eq h3]; rfl
theorem DataAll.uncons {d : PyData} {ds : List PyData} {xs : List V} (h : DataAll K H xs (d :: ds)) : ∃ y ys, xs = y :: ys ∧ DataAt K H y d ∧ DataAll K H ys ds := by unfold DataAll at h; exact h
theorem DataAll.none {xs : List V} (h : DataAll K H xs []) : xs = [] := by unfold DataAll at h; exact h
theorem DataAll.take {n : Nat} : ∀ {ds : List PyData} {xs : List V}, DataAll K H xs ds → DataAll K H (xs.take n) (ds.take n) := by
  induction n with
  | zero => intro ds xs h; rw [List.take_zero, List.take_zero]; exact DataAll.nil
  | succ n ih =>
    intro ds xs h
    cases ds with
    | nil => unfold DataAll at h; subst h; simp; exact DataAll.nil
    | cons d ds =>
      unfold DataAll at h
      obtain ⟨y, ys, rfl, h2, h3⟩ := h
      rw [List.take_succ_cons, List.take_succ_cons]
      exact DataAll.cons h2 (ih h3)
theorem DataAll.drop {n : Nat} : ∀ {ds : List PyData} {xs : List V}, DataAll K H xs ds → DataAll K H (xs.drop n) (ds.drop n) := by
  induction n with
  | zero => intro ds xs h; exact h
  | succ n ih =>
    intro ds xs h
    cases ds with
    | nil => unfold DataAll at h; subst h; simp; exact DataAll.nil
    | cons d ds =>
      unfold DataAll at h
      obtain ⟨y, ys, rfl, h2, h3⟩ := h
      rw [List.drop_succ_cons, List.drop_succ_cons]
      exact ih h3
theorem DataAll.append : ∀ {ds es : List PyData} {xs ys : List V}, DataAll K H xs ds → DataAll K H ys es → DataAll K H (xs ++ ys) (ds ++ es)
  | [], es, xs, ys, h, k => by unfold DataAll at h; subst h; exact k
  | d :: ds, es, xs, ys, h, k => by
    unfold DataAll at h
    obtain ⟨y, zs, rfl, h2, h3⟩ := h
    exact DataAll.cons h2 (DataAll.append h3 k)
end
end L3
namespace L4
open PySem PySem.Spec PyProof.Rows L2 L3
theorem take_snoc {α : Type} {l : List α} {i : Nat} {x : α} (h : l[i]? = some x) : l.take (i + 1) = l.take i ++ [x] := by rw [List.take_succ, h]; rfl
theorem filterMap_some {α : Type} (l : List α) : (l.map some).filterMap id = l := by
  induction l with
  | nil => rfl
  | cons a l ih => simp
end L4
namespace L4
open PySem L2
theorem hu60 {A : Around} {k : Nat} (hr : Room k A) : A.units + 60 < cLine := Nat.lt_of_le_of_lt (Nat.add_le_add_left (by decide : 60 ≤ 64) _) hr.units
end L4
namespace L4
open PySem PySem.Spec PyProof.Rows L2 L3
def cs (x : Str) : List Nat := x.cps.toList
theorem cs_app (x y : Str) : cs (x ++ y) = cs x ++ cs y := by unfold cs; rw [Str.cps_append, Array.toList_append]
theorem cs_one (c : Nat) : cs ⟨#[c]⟩ = [c] := rfl
theorem cs_len (x : Str) : (cs x).length = x.length := by simp [cs, Str.length]
structure Figs (n : Int) (t : Str) : Prop where
  pos : 1 ≤ t.length
  most : t.length ≤ 60
  digs : ∀ c ∈ cs t, 48 ≤ c ∧ c ≤ 57
  reads : PySem.intText? t = some n
  lead : t = "0" ∨ (cs t).head? ≠ some 48
theorem int_reads {t : Str} (h1 : 1 ≤ t.length) (h2 : t.length ≤ 60) (hd : ∀ c ∈ cs t, 48 ≤ c ∧ c ≤ 57) : PySem.intText? t = some ((PySem.NumText.digitsVal (cs t) : Nat) : Int) := by
  have hl := cs_len t
  refine PySem.intText_digits hd (fun z => ?_) (by omega)
  have z' : cs t = [] := z
  rw [z'] at hl
  simp at hl
  omega
end L4
namespace L4
open PySem L2
theorem inV_strs (t : Str) (ks : List Str) : inV (V.str t) (ks.map V.str) = ks.contains t := by
  unfold inV
  rw [List.any_map, Bool.eq_iff_iff, List.any_eq_true, List.contains_iff_mem]
  constructor
  · rintro ⟨y, hy, e3⟩
    have e4 : (y == t) = true := e3
    rw [← eq_of_beq e4]
    exact hy
  · intro hm
    exact ⟨t, hm, beq_self_eq_true t⟩
end L4
namespace L4
open PySem PySem.Spec PyProof.Rows L2 L3
section
variable {X : Cx} {K : PySem.W.Frag}
theorem kIx {r : PySem.W.Frag → R2} (h : X.K = K) (o : IxR X (r X.K)) : IxR X (r K) := h ▸ o
end
end L4
namespace L4
open PySem PySem.Spec PyProof.Rows L2 L3
def tCut (t u : TS) : TS := fun D σ H => ∃ P : L2.St → Hp → Prop, t { D with nx := P } σ H ∧ ∀ σ' H', P σ' H' → u D σ' H'
theorem pss_cut {X : Cx} {st : Stmt} {rest : List Stmt} {t u : TS} (h1 : PS X st t) (h2 : PSs X rest u) : PSs X (st :: rest) (tCut t u) := by
  intro pins s σ H D I ⟨P, h, k⟩
  refine wpAny_execs_cons (thn (h1 pins s σ H { D with nx := P } I h) fun f s1 q => ?_)
  cases f with
  | next => obtain ⟨σ', H', I', q⟩ := q; exact h2 pins s1 σ' H' D I' (k σ' H' q)
  | ret v => exact q
  | brk => exact q
  | cont => exact q
end L4
namespace L5
open PySem PySem.Spec PyProof.Rows L2 L3 L4
open Sem (wp)
section
variable {prog : Program} {w : World} {A : Around} {E : Value → Shared → Prop} {s : Shared}
end
end L5
namespace L5
open PySem PySem.Spec PyProof.Rows L2 L3 L4
open Sem (wp)
section
variable {prog : Program} {w : World} {A : Around} {E : Value → Shared → Prop} {s : Shared}
end
section
variable {X : Cx} {a : Expr} {ta : TE} {p pos kp ip : Pos} {elts : List Expr} {kt : Nat} {pt : Pos} {j : Option Str}
end
end L5
namespace L5
open PySem PySem.Spec PyProof.Rows L2 L3 L4
end L5
namespace L4
open PySem PySem.Spec PyProof.Rows L2 L3
theorem cut_from {xs : List V} (k : Nat) (h : k ≤ xs.length) : cutV xs (some (k : Int)) none = xs.drop k := by
  unfold cutV
  rw [HT.sIx_nat, HT.sIx_none, Nat.min_eq_left h]
  exact List.take_of_length_le (by rw [List.length_drop]; omega)
theorem cut_to {xs : List V} (k : Nat) : cutV xs none (some (k : Int)) = xs.take k := by
  unfold cutV
  rw [HT.sIx_nat, HT.sIx_none, List.drop_zero, Nat.sub_zero]
  by_cases h : k ≤ xs.length
  · rw [Nat.min_eq_left h]
  · rw [Nat.min_eq_right (by omega), List.take_length, List.take_of_length_le (by omega)]
theorem strOk_small {t : Str} (h : ∀ c ∈ cs t, c < 1114112) : PyData.strOk t = true := by
  unfold PyData.strOk
  rw [← Array.all_toList, List.all_eq_true]
  intro c hc
  exact decide_eq_true (h c hc)
end L4
namespace CW
open PySem L4
def keys : List Str := ["often", "all", "some", "of", "from", "any", "or", "level", "mark", "worth", "end"]
def letters : Str := "abcdefghijklmnopqrstuvwxyz"
def figures : Str := "0123456789"
def onlyOf (t g : Str) : Bool := t.cps.toList.all fun c => g.cps.toList.contains c
def isWord (t : Str) : Bool := decide (1 ≤ t.length) && decide (t.length ≤ 12) && !keys.contains t && onlyOf t letters
def valOf (t : Str) : Int := ((PySem.NumText.digitsVal (cs t) : Nat) : Int)
structure Work where
  name : Str
  field : Str
  level : Int
  mark : Int
def Work.data (w : Work) : PyData := .tuple [.str w.name, .str w.field, .int w.level, .int w.mark]
theorem letters_codes : letters.cps.toList = List.range' 97 26 := by decide +kernel
theorem onlyOf_iff {t g : Str} : onlyOf t g = true ↔ ∀ c ∈ cs t, c ∈ g.cps.toList := by
  unfold onlyOf cs
  rw [List.all_eq_true]
  exact ⟨fun h c hc => List.contains_iff_mem.mp (h c hc), fun h c hc => List.contains_iff_mem.mpr (h c hc)⟩
theorem only_letters {t : Str} : onlyOf t letters = true ↔ ∀ c ∈ cs t, 97 ≤ c ∧ c ≤ 122 := by
  rw [onlyOf_iff, letters_codes]
  constructor
  · intro h c hc
    have := List.mem_range'_1.mp (h c hc)
    omega
  · intro h c hc
    have := h c hc
    exact List.mem_range'_1.mpr (by omega)
theorem isWord_iff {t : Str} : isWord t = true ↔ 1 ≤ t.length ∧ t.length ≤ 12 ∧ t ∉ keys ∧ ∀ c ∈ cs t, 97 ≤ c ∧ c ≤ 122 := by
  unfold isWord
  rw [Bool.and_eq_true, Bool.and_eq_true, Bool.and_eq_true, only_letters]
  simp only [decide_eq_true_eq, Bool.not_eq_true', List.contains_eq_mem, decide_eq_false_iff_not]
  exact ⟨fun ⟨⟨⟨a, b⟩, c⟩, d⟩ => ⟨a, b, c, d⟩, fun ⟨a, b, c, d⟩ => ⟨⟨⟨a, b⟩, c⟩, d⟩⟩
theorem Figs.val {n : Int} {t : Str} (h : Figs n t) : valOf t = n := by
  have e := h.reads
  rw [int_reads h.pos h.most h.digs] at e
  exact Option.some.inj e
structure Work.Ok (w : Work) : Prop where
  name : isWord w.name = true
  field : isWord w.field = true
  l0 : 0 ≤ w.level
  l1 : w.level < 10 ^ 60
  m0 : 0 ≤ w.mark
  m1 : w.mark < 10 ^ 60
end CW
namespace CW
open PySem L4
end CW
namespace L6
open PySem PySem.Spec PyProof.Rows L2 L3 L4
def Rising (xs : Array Nat) : Prop := ∀ i k, i < k → k < xs.size → xs.getD i 0 < xs.getD k 0
structure Good (t : SetTable) (n : Nat) (led : Bool) : Prop where
  fits : t.fits n = true
  led : t.led = led
  rise : t.plain = true → Rising t.place
end L6
namespace L6
open PySem PySem.Spec PyProof.Rows L2 L3 L4
open Sem (wp)
def ledOf (w : World) : Bool := !w.params.followText "set-order"
def SetG (P : Program) (w : World) (h : Heap) (a : Addr) (ks : List Int) : Prop :=
  ∃ o es ep t, h.get? a = some o ∧ o.ExactSet ∧ o.data = .set es ep t ∧ ElemsOf (intKind P w) es.toList ∧ (∃ ms, IntsAre (es.toList.map (·.2)) ms ∧ ms.Perm ks) ∧ ks.Nodup ∧ es.size < scanBound ∧ Good t es.size (ledOf w)
theorem SetG.at {P : Program} {w : World} {h h' : Heap} {a : Addr} {ks : List Int} (x : SetG P w h a ks) (k : ∀ o, h.get? a = some o → h'.get? a = some o) : SetG P w h' a ks :=
  let ⟨o, es, ep, t, e, r⟩ := x; ⟨o, es, ep, t, k _ e, r⟩
theorem IntsAre.snoc {n : Int} {t : Tok} : ∀ {vs : List Value} {ns : List Int}, IntsAre vs ns → IntsAre (vs ++ [.int n t]) (ns ++ [n])
  | _, _, .nil => .cons n t .nil
  | _, _, .cons m u h => .cons m u (IntsAre.snoc h)
section
variable {prog : Program} {w : World} {A : Around} {E : Value → Shared → Prop} {s : Shared}
end
end L6
namespace L6
open PySem PySem.Spec PyProof.Rows L2 L3 L4
open Sem (wp)
theorem take_all_snoc {ns : List Int} {i : Nat} (h : i < ns.length) : ns.take (i + 1) = ns.take i ++ [ns.getD i 0] := by
  rw [List.take_succ, List.getD_eq_getElem?_getD, List.getElem?_eq_getElem h]; rfl
section
variable {prog : Program} {w : World} {A : Around} {E : Value → Shared → Prop} {s : Shared}
end
end L6
namespace L6
open PySem PySem.Spec PyProof.Rows L2 L3 L4
open Sem (wp)
section
variable {M : Model} {A : Around} {E : Value → Shared → Prop} {s : Shared}
end
section
variable {prog : Program} {w : World} {A : Around} {E : Value → Shared → Prop} {s : Shared} {I a : Addr} {i ep : Nat} {o : Obj} {es : Array (Int × Value)} {t : SetTable}
end
end L6
namespace L6
open PySem PySem.Spec PyProof.Rows L2 L3 L4
open Sem (wp)
section
variable {prog : Program} {w : World} {A : Around} {E : Value → Shared → Prop} {s : Shared} {I a : Addr} {i ep : Nat} {o : Obj} {es : Array (Int × Value)} {t : SetTable}
end
section
variable {prog : Program} {w : World} {A : Around} {E : Value → Shared → Prop} {s : Shared} {a : Addr}
end
end L6
namespace L6
open PySem PySem.Spec PyProof.Rows L2 L3 L4
open Sem (wp)
theorem vals_ints : ∀ {ns : List Int} {us : List Value}, Vals (ns.map V.int) us → IntsAre us ns
  | [], _, .nil => .nil
  | _ :: _, _, .cons r t => by
    obtain ⟨k, rfl⟩ := r
    exact .cons _ k (vals_ints t)
section
variable {X : Cx}
end
end L6
namespace CB
open PySem PyProof.Rows
end CB
namespace L6
open PySem PySem.Spec PyProof.Rows L2 L3 L4
section
variable {X : Cx}
end
end L6
namespace L6
open PySem PySem.Spec PyProof.Rows L2 L3 L4
def nV (ns : List Nat) : List V := ns.map fun n : Nat => V.int n
def nD (ns : List Nat) : List PyData := ns.map fun n : Nat => PyData.int n
theorem nat_all {K : PySem.W.Frag} {D : Hp} : ∀ ns : List Nat, DataAll K D (nV ns) (nD ns)
  | [] => DataAll.nil
  | _ :: r => DataAll.cons DataAt.ofInt (nat_all r)
theorem nat_lay : ∀ ns : List Nat, PyData.canLayAll0 (nD ns) = true ∧ PyData.depthAll (nD ns) = 0
  | [] => ⟨rfl, rfl⟩
  | n :: r => by
    obtain ⟨h1, h2⟩ := nat_lay r
    exact ⟨show (true && PyData.canLayAll0 (nD r)) = true by rw [h1]; rfl, show max 0 (PyData.depthAll (nD r)) = 0 by rw [h2]; rfl⟩
theorem nat_list {K : PySem.W.Frag} {H : Hp} {p : Addr} {ns : List Nat} (e : H p = some (.lst (nV ns))) : DataAt K H (.ref p) (.list (nD ns)) := DataAt.mkL (D := fun _ => none) (nat_all ns) e fun _ _ z => nomatch z
theorem nat_lay' (ns : List Nat) : (PyData.list (nD ns)).canLay0 = true := (nat_lay ns).1
theorem nat_depth (ns : List Nat) (d : PyData) : min (PyData.list (nD ns)).depth d.depth ≤ 60 := by
  have : (PyData.list (nD ns)).depth = PyData.depthAll (nD ns) + 1 := rfl
  rw [this, (nat_lay ns).2]
  omega
end L6
namespace L6
open PySem PySem.Spec PyProof.Rows L2 L3 L4
theorem cut1 (xs : List V) : cutV xs (some 1) none = xs.drop 1 := by
  cases xs with
  | nil => decide
  | cons x r =>
    rw [show (1 : Int) = ((1 : Nat) : Int) from rfl, cut_from]
    show 1 ≤ r.length + 1
    omega
end L6
namespace L6
end L6
namespace L7
open PySem PySem.Spec PyProof.Rows L2 L3 L4
section
variable {X : Cx} {tg : Expr}
theorem call_sumL (hc : X.calm = true) : CallR X (.builtin "sum") (fun xs H Q => ∃ (p : Addr) (ns : List Int), xs = [.ref p] ∧ SqL X.K H p (ns.map V.int) ∧ Q (.int (preSum (fun i => ns.getD i 0) ns.length)) H) := by
  intro pins s σ H xs us Q I r h
  obtain ⟨p, ns, rfl, hq, q⟩ := h
  obtain ⟨u, rfl, rx⟩ := vals1 r
  cases rx
  obtain ⟨its, rv, pl, hz⟩ := I.list hq
  have hl := rv.length
  rw [List.length_map] at hl
  refine call_sum_walkAnyS (wpAny_pyIter_list pl.isList ?_)
  have hp : p < s.heap.objs.size := by obtain ⟨o, n, e, _⟩ := pl; exact Heap.lt_size e
  refine ⟨s.heap.objs.size, _, _, _, its.toArray.size, _, _, fun i => ns.getD i 0, rfl, (Walks.list (by show X.A.handled = none; exact I.ok.hd hc) s.heap.objs.size p (Nat.ne_of_lt hp) its.toArray).toS,
    ⟨⟨_, Heap.get?_push_size _ rfl, rfl, rfl⟩, pl.isList.push _⟩, fun b hb => ?_, fun i v hv => ?_, fun s' t' hm => ?_⟩
  · show b < (s.heap.push _).objs.size
    rw [Heap.size_push]
    rcases List.mem_cons.mp hb with e | hb
    · rw [e]; exact Nat.lt_succ_self _
    · rw [List.mem_singleton.mp hb]; exact Nat.lt_succ_of_lt hp
  · have hv' : its[i]? = some v := by simpa using hv
    have hi : i < its.length := (List.getElem?_eq_some_iff.mp hv').1
    obtain ⟨u', e1, t, e2⟩ := rv.get (x := V.int (ns[i]'(by omega))) (i := i) (by rw [List.getElem?_map, List.getElem?_eq_getElem (by omega)]; rfl)
    rw [hv'] at e1
    cases e1
    refine ⟨t, ?_⟩
    rw [e2]
    show _ = Value.int (ns.getD i 0) t
    rw [List.getD_eq_getElem?_getD, List.getElem?_eq_getElem (by omega)]; rfl
  · have hk : ∀ b o, s.heap.get? b = some o → s'.heap.get? b = some o := fun b o e =>
      hm.heap b o (fun z => absurd (Heap.lt_size e) (by rw [List.mem_singleton.mp z]; exact Nat.lt_irrefl _)) (Heap.get?_push_of_some _ e)
    rw [Moved.eq_with hm]
    refine ⟨.int (preSum (fun i => ns.getD i 0) ns.length), H, I.kept (t' := s'.toks) hk, ⟨t', ?_⟩, q⟩
    rw [List.size_toArray, ← hl]
theorem preSum_take (ns : List Int) : ∀ k, k ≤ ns.length → preSum (fun i => ns.getD i 0) k = (ns.take k).foldl (· + ·) 0
  | 0, _ => by simp [preSum]
  | k + 1, h => by
    show preSum (fun i => ns.getD i 0) k + ns.getD k 0 = _
    rw [preSum_take ns k (by omega), L6.take_all_snoc (by omega), List.foldl_append]
    rfl
theorem preSum_all (ns : List Int) : preSum (fun i => ns.getD i 0) ns.length = ns.foldl (· + ·) 0 := by rw [preSum_take ns _ (Nat.le_refl _), List.take_length]
end
end L7
namespace L7
open PySem PySem.Spec PyProof.Rows L2 L3 L4 L6
theorem walked {H H2 : Hp} {d : Addr} {o : Obj} {kvs : List (Key × V)} (h : H d = some (.dK kvs) ∧ H2 = upd H d (.frz o (.dK kvs)) ∨ H d = some (.frz o (.dK kvs)) ∧ H2 = H) :
    H2 d = some (.frz o (.dK kvs)) ∧ (∀ b u, Rd H b u → Rd H2 b u) ∧ ∀ b, H b = none → H2 b = none := by
  rcases h with ⟨e, rfl⟩ | ⟨e, rfl⟩
  · refine ⟨upd_same, fun b u r => ?_, fun b hb => ?_⟩
    · by_cases hb : b = d
      · subst hb
        rcases r with r | ⟨o', r⟩
        · rw [e] at r
          rw [← Option.some.inj r]
          exact .inr ⟨o, upd_same⟩
        · rw [e] at r
          cases r
      · rcases r with r | ⟨o', r⟩
        · exact .inl (by rw [upd_ne hb]; exact r)
        · exact .inr ⟨o', by rw [upd_ne hb]; exact r⟩
    · rw [upd_ne (fun z => by rw [z, e] at hb; cases hb)]; exact hb
  · exact ⟨e, fun _ _ r => r, fun _ h => h⟩
end L7
namespace L8
open PySem PySem.Spec PyProof.Rows PySem.W
open Sem (wp)
open Builtin Builtin.ObjectAttr
def mroV : List Value := [.type "ValueError", .type "Exception", .type "BaseException", .type "object"]
inductive Back (ns : List Str) (h : Heap) : List Value → Prop
  | base : Back ns h mroV
  | own {a : Addr} {c0 : Value} {dd : Option Addr} {cd : ClassData} {sl : Array (Option Value)} {mA : Str → Option Value} {tl : List Value} : h.get? a = some { cls := c0, dict := dd, data := .cls cd, slots := sl } → h.Ns cd.ns mA → mA "__init__" = none → (∀ n ∈ ns, mA n = none) → Back ns h tl → Back ns h (.ref a :: tl)
theorem Back.keep {ns : List Str} {h h' : Heap} {tl : List Value} (b : Back ns h tl) (k : ∀ b o, h.get? b = some o → h'.get? b = some o) : Back ns h' tl := by
  induction b with
  | base => exact .base
  | own e1 e2 e3 e4 _ ih => exact .own (k _ _ e1) (e2.keeps k) e3 e4 ih
theorem Back.tail {ns : List Str} {h : Heap} {tl : List Value} (b : Back ns h tl) : OwnTail h mroV tl := by
  induction b with
  | base => exact .base
  | own e1 e2 e3 _ _ ih => exact .own e1 e2 e3 ih
def ExCls (ns : List Str) (init : Option Value) (h : Heap) (C : Addr) : Prop :=
  ∃ (nm q : Str) (N : Addr) (bs bm : List Value) (sn : List Str) (sub : List Value) (ab : Bool) (col : Option Bool) (dd : Option Addr) (k0 k1 k2 k3 k5 : Option Value) (mN : Str → Option Value),
    h.get? C = some (excClassObj nm q C N bs bm true sn sub ab col dd k0 k1 k2 k3 k5 "ValueError.__new__") ∧ h.Ns N mN ∧ mN "__init__" = init ∧ (∀ n ∈ ns, mN n = none) ∧ Back ns h bm
theorem ExCls.keep {ns : List Str} {init : Option Value} {h h' : Heap} {C : Addr} (x : ExCls ns init h C) (k : ∀ b o, h.get? b = some o → h'.get? b = some o) : ExCls ns init h' C := by
  obtain ⟨nm, q, N, bs, bm, sn, sub, ab, col, dd, k0, k1, k2, k3, k5, mN, e1, e2, e3, e4, e5⟩ := x
  exact ⟨nm, q, N, bs, bm, sn, sub, ab, col, dd, k0, k1, k2, k3, k5, mN, k _ _ e1, e2.keeps k, e3, e4, e5.keep k⟩
def backIn (K : Frag) (ns : List Str) : List Value → Bool
  | [] => false
  | v :: r => (v :: r) == mroV || match v with
    | .ref a => (match K.lookup a with
      | some ⟨_, _, .cls cd, _⟩ => nsOkIn K cd.ns && (nsIn K cd.ns "__init__" == some none) && (ns.all fun n => nsIn K cd.ns n == some none) && backIn K ns r
      | _ => false)
    | _ => false
theorem back_of {K : Frag} {ns : List Str} {h : Heap} (X : K.In h) : ∀ {l : List Value}, backIn K ns l = true → Back ns h l
  | [], e => by cases e
  | v :: r, e => by
    unfold backIn at e
    rcases Bool.or_eq_true_iff.mp e with q | q
    · rw [beq_iff_eq.mp q]
      exact .base
    · split at q
      · split at q
        · rename_i cd sl ho
          simp only [Bool.and_eq_true, beq_iff_eq] at q
          obtain ⟨⟨⟨q1, q2⟩, q3⟩, q4⟩ := q
          refine .own (X _ _ ho) (.of_isNs (isNs_of_in X q1)) (nsMap_none_of_in X q1 q2) (fun n hn => ?_) (back_of X q4)
          exact nsMap_none_of_in X q1 (beq_iff_eq.mp (List.all_eq_true.mp q3 n hn))
        · cases q
      · cases q
def exIn (K : Frag) (ns : List Str) (init : Option Value) (C : Addr) : Bool := match K.lookup C with
  | some ⟨.type "type", _, .cls cd, sl⟩ => (match cd.mro, sl.toList with
    | .ref C' :: bm, [_, _, _, _, some (.builtin n), _] => (C' == C) && (n == "ValueError.__new__") && !cd.hasDel && cd.hasDict && backIn K ns bm && nsOkIn K cd.ns && (nsIn K cd.ns "__init__" == some init) && ns.all fun x => nsIn K cd.ns x == some none
    | _, _ => false)
  | _ => false
theorem ns_at {K : Frag} {h : Heap} {N : Addr} {x : Str} {v : Option Value} (X : K.In h) (e : nsOkIn K N = true) (q : nsIn K N x = some v) : h.nsMap N x = v := by
  cases v with
  | none => exact nsMap_none_of_in X e q
  | some v =>
    obtain ⟨o, es, ep, ho, hd, _, hf⟩ := Heap.Ns.of_isNs (isNs_of_in X e)
    unfold nsIn at q
    split at q
    · rename_i hl
      have z := X _ _ hl
      rw [ho] at z
      cases z
      cases hd
      split at q
      · rename_i en he
        cases q
        rw [← hf, nsFind, findBy, ← Array.find?_toList, he]
        rfl
      · split at q <;> cases q
    · cases q
theorem ex_of {K : Frag} {ns : List Str} {init : Option Value} {C : Addr} {h : Heap} (X : K.In h) (e : exIn K ns init C = true) : ExCls ns init h C := by
  unfold exIn at e
  split at e
  · rename_i dd cd sl ho
    split at e
    · rename_i C' bm k0 k1 k2 k3 n k5 hm hs
      simp only [Bool.and_eq_true, beq_iff_eq, Bool.not_eq_true'] at e
      obtain ⟨⟨⟨⟨⟨⟨⟨rfl, rfl⟩, hdel⟩, hdict⟩, hb⟩, hok⟩, hi⟩, hn⟩ := e
      obtain ⟨nm, bs, mro, nsp, qn, hd, sn, sub, ab, col, del⟩ := cd
      dsimp only at hm hdel hdict hok hi hn
      subst hm hdel hdict
      have hsl : sl = #[k0, k1, k2, k3, some (.builtin "ValueError.__new__"), k5] := by
        obtain ⟨l⟩ := sl
        simp only at hs
        rw [hs]
      subst hsl
      exact ⟨nm, qn, nsp, bs, bm, sn, sub, ab, col, dd, k0, k1, k2, k3, k5, _, X _ _ ho, .of_isNs (isNs_of_in X hok), ns_at X hok hi, fun x hx => ns_at X hok (beq_iff_eq.mp (List.all_eq_true.mp hn x hx)), back_of X hb⟩
    · cases e
  · cases e
section
variable {M : Model} {A : Around} {E : Value → Shared → Prop} {h : Heap} {g : Array GenState} {d : Drawn} {t : Nat} {os : OsState} {nm q : Str} {C N : Addr} {bs bm : List Value} {hdct : Bool} {sn : List Str} {sub : List Value} {ab : Bool} {col : Option Bool} {dd : Option Addr} {k0 k1 k2 k3 k5 : Option Value} {newId : String} {ns : List Str}
theorem along_back {tl : List Value} {name : Str} {y : Option Value} {Q : Option Value → Shared → Prop} (hm : name ∈ ns) (b : Back ns h tl) (hv : typeLookup (.type "ValueError") name = pure y) (hQ : Q y ⟨h, g, d, t, os⟩) : wpAny M A (lookupAlong tl name) Q E ⟨h, g, d, t, os⟩ := by
  induction b with
  | base =>
    have e : lookupAlong mroV name = pure y := by
      rw [typeLookup_eq, PySem.F.excBase_ValueError.mroIs] at hv
      exact hv
    rw [e]
    exact wpAny_pure hQ
  | own e1 e2 _ e4 _ ih =>
    rw [lookupAlong_cons]
    refine wpAny_bind (wpAny_classOwn_cls e1 e2 ?_)
    rw [e4 name hm]
    exact ih
theorem look_back {name : Str} {mN : Str → Option Value} {y : Option Value} {Q : Option Value → Shared → Prop} (cC : h.get? C = some (excClassObj nm q C N bs bm hdct sn sub ab col dd k0 k1 k2 k3 k5 newId)) (cN : h.Ns N mN) (hm : name ∈ ns) (hn : ∀ n ∈ ns, mN n = none) (b : Back ns h bm)
    (hv : typeLookup (.type "ValueError") name = pure y) (hQ : Q y ⟨h, g, d, t, os⟩) : wpAny M A (typeLookup (.ref C) name) Q E ⟨h, g, d, t, os⟩ := by
  rw [typeLookup_eq]
  refine wpAny_bind (wpAny_mroOf_exc cC ?_)
  rw [lookupAlong_cons]
  refine wpAny_bind (wpAny_classOwn_exc cC cN ?_)
  rw [hn name hm]
  exact along_back hm b hv hQ
end
end L8
namespace L8
open PySem PySem.Spec PyProof.Rows PySem.W
open Sem (wp)
open Builtin Builtin.ObjectAttr
section
variable {prog : Program} {w : World} {A : Around} {E : Value → Shared → Prop} {h : Heap} {g : Array GenState} {d : Drawn} {t : Nat} {os : OsState} {C : Addr} {ns : List Str}
theorem type_call {fI : Addr} {oI : Obj} {rest : List Value} {Q : Fin → Shared → Prop} (x : ExCls ns (some (.ref fI)) h C) (eI : h.get? fI = some oI) (cI : oI.cls = .type "function") (hl : rest.length ≤ sizeLine)
    (hQ : ∀ h', Heap.MadeExcOf h h' (h.objs.size + 1) (.ref C) rest → wpAny (model prog w) A (call (.ref fI) (.ref (h.objs.size + 1) :: rest)) (fun r s' => r = .none ∧ Q (.done (.ret (.ref (h.objs.size + 1)))) s') E ⟨h', g, d, t, os⟩) : wpAny (model prog w) A (Builtin.«type.__call__» ⟨.ref C :: rest, []⟩) Q E ⟨h, g, d, t, os⟩ := by
  obtain ⟨nm, q, N, bs, bm, sn, sub, ab, col, dd, k0, k1, k2, k3, k5, mN, cC, cN, ci, cn, cb⟩ := x
  have T := cb.tail
  have V := PySem.F.excBase_ValueError
  repeat (first | with_reducible refine wpAny_loadPart_at cC ?_ | with_reducible refine wpAny_madeBy_exc cC ?_ | wp_step)
  refine codeAny_call_builtin_code (Code.quiet_builtin _ V.quiet) (wpAny_check_new_subT V T cC (codeAny_exc_new_subT V T cC ?_ hl))
  show wpAny _ _ _ _ _ _
  have up : ∀ b o, h.get? b = some o → ((h.push { cls := .type "tuple", data := .seq rest.toArray }).push { cls := .ref C, data := .fields #[.ref h.objs.size, .none, .none, .none, .bool false, .none] }).get? b = some o :=
    fun b o e => Heap.get?_push_of_some _ (Heap.get?_push_of_some _ e)
  have made : ((h.push { cls := .type "tuple", data := .seq rest.toArray }).push { cls := .ref C, data := .fields #[.ref h.objs.size, .none, .none, .none, .bool false, .none] }).get? (h.objs.size + 1) = some { cls := .ref C, data := .fields #[.ref h.objs.size, .none, .none, .none, .bool false, .none] } := by heap_get
  have args : ((h.push { cls := .type "tuple", data := .seq rest.toArray }).push { cls := .ref C, data := .fields #[.ref h.objs.size, .none, .none, .none, .bool false, .none] }).get? h.objs.size = some { cls := .type "tuple", data := .seq rest.toArray } := Heap.get?_push_of_some _ (Heap.get?_push_at rfl rfl)
  have upC := up _ _ cC
  have self : (Value.ref C :: bm).contains (.ref C) = true := by simp
  unfold isInstance
  repeat (first | with_reducible refine wpAny_loadPart_at made ?_ | (with_reducible refine wpAny_isSubtype_exc upC ?_; rw [self]) | wp_step)
  show wpAny _ _ (typeLookup (.ref C) _) _ _ _
  refine wpAny_typeLookup_tail upC (cN.keeps up) (T.keeps up) V.mroIs V.init.lookup ?_
  rw [ci]
  refine wpAny_holding (wpAny_bind ?_)
  unfold bindSpecial
  refine wpAny_bind (wpAny_typeOf (T := "function") ⟨_, up _ _ eI, cI⟩ ?_)
  rw [if_pos (by decide)]
  refine wpAny_pure (wpAny_bind (wpAny_mono (hQ _ ⟨up, Heap.get?_none_of_le (Nat.le_succ _), h.objs.size, made, Heap.get?_none_of_le (Nat.le_refl _), args⟩) (fun r s' hr => ?_) fun _ _ z => z))
  obtain ⟨rfl, hR⟩ := hr
  wp_walk
  exact hR
theorem make_exc {fI : Addr} {oI : Obj} {rest : List Value} {Q : Value → Shared → Prop} (x : ExCls ns (some (.ref fI)) h C) (eI : h.get? fI = some oI) (cI : oI.cls = .type "function") (hl : rest.length ≤ sizeLine)
    (hQ : ∀ h', Heap.MadeExcOf h h' (h.objs.size + 1) (.ref C) rest → wpAny (model prog w) (A.under (.builtin "type.__call__" ⟨.ref C :: rest, []⟩)) (call (.ref fI) (.ref (h.objs.size + 1) :: rest)) (fun r s' => r = .none ∧ Q (.ref (h.objs.size + 1)) s') E ⟨h', g, d, t, os⟩) : wpAny (model prog w) A (call (.ref C) rest) Q E ⟨h, g, d, t, os⟩ := by
  have x0 := x
  obtain ⟨nm, q, N, bs, bm, sn, sub, ab, col, dd, k0, k1, k2, k3, k5, mN, cC, cN, ci, cn, cb⟩ := x
  have p1 := tc_lookup
  have p2 := tc_bind (.ref C)
  have p3 : (⟨h, g, d, t, os⟩ : Shared).TypeIs (.ref C) "type" := ⟨_, cC, rfl⟩
  refine wpAny_call (codeAny_of_tree ?_)
  show wpAny _ _ (callAny (.ref C) _) _ _ _
  repeat (any_goals (first | assumption | with_reducible refine wpAny_loadPart_at cC ?_ | wp_step))
  exact ⟨rfl, codeAny_call_builtin_at (Code.quiet_builtin _ (by decide +kernel)) entry_typeCall (wpAny_check_type_call_sub cC (type_call x0 eI cI hl fun h' z => hQ h' z))⟩
def ExAt (h : Heap) (X C : Addr) (dx : Option Addr) (vs : Array Value) : Prop := ∃ o, h.get? X = some o ∧ o.cls = .ref C ∧ o.dict = dx ∧ o.data = .fields vs
theorem ExAt.keep {h h' : Heap} {X C : Addr} {dx : Option Addr} {vs : Array Value} (x : ExAt h X C dx vs) (k : ∀ o, h.get? X = some o → h'.get? X = some o) : ExAt h' X C dx vs := let ⟨o, e, r⟩ := x; ⟨o, k _ e, r⟩
theorem is_a {M : Model} {X : Addr} {dx : Option Addr} {vs : Array Value} {init : Option Value} {T : String} (x : ExCls ns init h C) (I : ExAt h X C dx vs) (hT : mroV.contains (.type T) = true) : Looks M h (isInstance (.ref X) (.type T)) true := by
  obtain ⟨nm, q, N, bs, bm, sn, sub, ab, col, dd, k0, k1, k2, k3, k5, mN, cC, cN, ci, cn, cb⟩ := x
  obtain ⟨o, hx, hc, _⟩ := I
  intro A Q E s k hQ
  obtain ⟨hp, g, d, t, os⟩ := s
  have hob : (Value.ref C :: bm).contains (.type T) = true := by rw [List.contains_cons, cb.tail.hasType hT, Bool.or_true]
  have hx' := k _ _ hx
  have cC' := k _ _ cC
  unfold isInstance
  repeat (first | (with_reducible refine wpAny_loadPart_at hx' ?_; rw [hc]) | (with_reducible refine wpAny_isSubtype_exc cC' ?_; rw [hob]) | wp_step)
  exact hQ
theorem refuse_back {tl : List Value} {X : Addr} (b : Back ns h tl) : refuseLoop (.ref X) "__setattr__" tl = pure () := by
  induction b with
  | base => exact PySem.F.store_ValueError.passes (.ref X)
  | own _ _ _ _ _ ih => rw [refuseLoop_ref]; exact ih
theorem ty_ex {M : Model} {X : Addr} {dx : Option Addr} {vs : Array Value} (I : ExAt h X C dx vs) : Looks M h (typeOf (.ref X)) (.ref C) := by
  obtain ⟨o, hx, hc, _⟩ := I
  intro A Q E s k hQ
  obtain ⟨hp, g, d, t, os⟩ := s
  have hx' := k _ _ hx
  repeat (first | (with_reducible refine wpAny_loadPart_at hx' ?_; rw [hc]) | wp_step)
  exact hQ
theorem look_ex {M : Model} {init : Option Value} {name : Str} {y : Option Value} (x : ExCls ns init h C) (hm : name ∈ ns) (hv : typeLookup (.type "ValueError") name = pure y) : Looks M h (typeLookup (.ref C) name) y := by
  intro A Q E s k hQ
  obtain ⟨hp, g, d, t, os⟩ := s
  obtain ⟨nm, q, N, bs, bm, sn, sub, ab, col, dd, k0, k1, k2, k3, k5, mN, cC, cN, ci, cn, cb⟩ := x.keep k
  exact look_back cC cN hm cn cb hv hQ
theorem store_own {X : Addr} {name : Str} {v : Value} {vs : Array Value} {tk : Tok} {b : Bool} {init : Option Value} {Q : Fin → Shared → Prop} (x : ExCls ns init h C) (I : ExAt h X C none vs)
    (hQ : ∀ h' tk', ExAt h' X C (some h.objs.size) vs → h'.Ns1 h.objs.size (fun y => if y = name then some v else none) → (∀ b o, b ≠ X → h.get? b = some o → h'.get? b = some o) → Q (.done (.ret .none)) ⟨h', g, d, tk', os⟩) :
    wpAny (model prog w) A (storeInOwnDict (.ref X) (.ref C) (.str name tk) name v b) Q E ⟨h, g, d, t, os⟩ := by
  obtain ⟨nm, q, N, bs, bm, sn, sub, ab, col, dd, k0, k1, k2, k3, k5, mN, cC, cN, ci, cn, cb⟩ := x
  obtain ⟨o, hx, hc, hd, hf⟩ := I
  obtain ⟨oc, od, odt, osl⟩ := o
  dsimp only at hc hd hf
  subst hc hd hf
  unfold storeInOwnDict ownStreamTells
  refine wpAny_bind (wpAny_pure ?_)
  show wpAny _ _ (instanceDict X true >>= _) _ _ _
  unfold instanceDict
  refine wpAny_bind (wpAny_bind (wpAny_loadPart_at hx ?_))
  show wpAny _ _ (classData C >>= _) _ _ _
  unfold classData
  refine wpAny_bind (wpAny_bind (wpAny_load cC (wpAny_pure ?_)))
  show wpAny _ _ (alloc { cls := .type "dict", data := .dict #[] } >>= _) _ _ _
  have hX : X ≠ h.objs.size := Nat.ne_of_lt (Heap.lt_size hx)
  have hx1 := Heap.get?_push_of_some { cls := .type "dict", data := .dict #[] } hx
  refine wpAny_bind (wpAny_alloc' (wpAny_bind (wpAny_update' hx1 (wpAny_pure ?_))))
  have e0 : ((h.push { cls := .type "dict", data := .dict #[] }).update X fun o => { cls := o.cls, dict := some h.objs.size, data := o.data, slots := o.slots }).get? h.objs.size = some { cls := .type "dict", data := .dict #[] } := (Heap.get?_update_ne _ _ _ _ hX.symm).trans (Heap.get?_push_at rfl rfl)
  have n0 : ((h.push { cls := .type "dict", data := .dict #[] }).update X fun o => { cls := o.cls, dict := some h.objs.size, data := o.data, slots := o.slots }).Ns h.objs.size (fun _ => none) := ⟨_, #[], _, e0, rfl, fun e he => absurd he (by simp), fun _ => rfl⟩
  have eX : ((h.push { cls := .type "dict", data := .dict #[] }).update X fun o => { cls := o.cls, dict := some h.objs.size, data := o.data, slots := o.slots }).get? X = some { cls := .ref C, dict := some h.objs.size, data := .fields vs, slots := osl } := Heap.get?_update_self _ hx1 rfl
  have ko : ∀ b o, b ≠ X → h.get? b = some o → ((h.push { cls := .type "dict", data := .dict #[] }).update X fun o => { cls := o.cls, dict := some h.objs.size, data := o.data, slots := o.slots }).get? b = some o := fun b o hb e => (Heap.get?_update_ne _ _ _ _ hb).trans (Heap.get?_push_of_some _ e)
  show wpAny _ _ (storeInDict h.objs.size (.str name tk) name v) _ _ _
  generalize ((h.push { cls := .type "dict", data := .dict #[] }).update X fun o => { cls := o.cls, dict := some h.objs.size, data := o.data, slots := o.slots }) = h1 at e0 n0 eX ko ⊢
  unfold storeInDict newKeyGuard
  refine wpAny_bind (wpAny_pure (wpAny_bind (wpAny_nsSet1 (Heap.Ns1.of_empty n0) fun h' hn' hs => ?_)))
  obtain ⟨oD, esD, epD, hoD, hdD, hcD⟩ := hn'.count (Within.cons name v Within.nil)
  refine wpAny_bind (wpAny_lookBehind hoD (by rw [hdD]; exact pastItsLine_dict (Nat.le_trans hcD (by rw [List.length_cons, List.length_nil, sizeLine_eq]; omega))) ?_)
  refine wpAny_pure (hQ h' _ ⟨_, (hs.2 X hX).trans eX, rfl, rfl, rfl⟩ hn' fun b o hb e => (hs.2 b (Nat.ne_of_lt (Heap.lt_size e))).trans (ko b o hb e))
theorem ex_store_call {X : Addr} {name : Str} {v : Value} {init : Option Value} {vs : Array Value} {tk : Tok} {R : Result → Shared → Prop} (x : ExCls ns init h C) (h2 : name ∈ ns) (hv : typeLookup (.type "ValueError") name = pure none) (I : ExAt h X C none vs)
    (hQ : ∀ h' tk', ExAt h' X C (some h.objs.size) vs → h'.Ns1 h.objs.size (fun y => if y = name then some v else none) → (∀ b o, b ≠ X → h.get? b = some o → h'.get? b = some o) → R (.ok (.ret .none)) ⟨h', g, d, tk', os⟩) :
    codeAny (model prog w) A (.call (.builtin "object.__setattr__") ⟨[.ref X, .str name tk, v], []⟩) R ⟨h, g, d, t, os⟩ := by
  have own := is_a (M := model prog w) (T := "object") x I (by decide)
  have SF := PySem.F.store_ValueError
  have ty := ty_ex (M := model prog w) I
  have lk := look_ex (M := model prog w) x h2 hv
  obtain ⟨nm, q, N, bs, bm, sn, sub, ab, col, dd, k0, k1, k2, k3, k5, mN, cC, cN, ci, cn, cb⟩ := x
  obtain ⟨o, hx, hc, hd, hf⟩ := I
  have pass : refuseLoop (.ref X) "__setattr__" (.ref C :: bm) = pure () := by
    rw [refuseLoop_ref]
    exact refuse_back cb
  refine codeAny_call_builtin SF.slot.plain SF.entry (@check_slot (model prog w) _ _ ⟨h, g, d, t, os⟩ "object.__setattr__" "object" "__setattr__" (.ref X) [.str name tk, v] [] _ SF.kind SF.split own (SF.args (.ref X) (.str name tk) v) ?_)
  rw [osa_eq, refuse_eq]
  refine wpAny_bind (wpAny_bind (ty.here (wpAny_bind (wpAny_mroOf_exc cC ?_))))
  rw [pass]
  have L3 : Looks (model prog w) h (storeTaker? none) none := .now
  refine wpAny_pure (wpAny_bind (ty.here (wpAny_bind (lk.here (wpAny_bind (L3.here ?_))))))
  exact store_own ⟨nm, q, N, bs, bm, sn, sub, ab, col, dd, k0, k1, k2, k3, k5, mN, cC, cN, ci, cn, cb⟩ ⟨o, hx, hc, hd, hf⟩ hQ
theorem store_exc {X : Addr} {name : Str} {v : Value} {init : Option Value} {vs : Array Value} {Q : Unit → Shared → Prop} (x : ExCls ns init h C) (h1 : ("__setattr__" : Str) ∈ ns) (h2 : name ∈ ns) (hv : typeLookup (.type "ValueError") name = pure none) (I : ExAt h X C none vs)
    (hQ : ∀ h' tk', ExAt h' X C (some h.objs.size) vs → h'.Ns1 h.objs.size (fun y => if y = name then some v else none) → (∀ b o, b ≠ X → h.get? b = some o → h'.get? b = some o) → Q () ⟨h', g, d, tk', os⟩) :
    wpAny (model prog w) A (setAttr (.ref X) name v) Q E ⟨h, g, d, t, os⟩ := by
  have SF := PySem.F.store_ValueError
  have ty := ty_ex (M := model prog w) I
  have ls := look_ex (M := model prog w) x h1 SF.slot.lookup
  unfold setAttr
  refine wpAny_bind (wpAny_mkText ?_)
  unfold callSpecial? specialOf
  refine wpAny_bind (wpAny_bind (wpAny_bind (ty.here (ls.here ?_))))
  refine wpAny_holding (wpAny_bind (wpAny_of_eq (SF.slot.bind (.ref X)) (wpAny_bind (wpAny_call (ex_store_call x h2 hv I fun h' tk' z1 z2 z3 => ?_)))))
  exact wpAny_pure (wpAny_pure (hQ h' tk' z1 z2 z3))
theorem ga_entry {X dx : Addr} {name : Str} {v : Value} {mA : Str → Option Value} {vs : Array Value} {tk : Tok} {init : Option Value} {Q : Fin → Shared → Prop} (x : ExCls ns init h C) (h2 : name ∈ ns) (hv : typeLookup (.type "ValueError") name = pure none) (I : ExAt h X C (some dx) vs) (hn : h.Ns dx mA) (hm : mA name = some v)
    (hQ : Q (.done (.ret v)) ⟨h, g, d, t, os⟩) : wpAny (model prog w) A (Builtin.«object.__getattribute__» ⟨[.ref X, .str name tk], []⟩) Q E ⟨h, g, d, t, os⟩ := by
  have lk := look_ex (M := model prog w) x h2 hv
  have ty := ty_ex (M := model prog w) I
  obtain ⟨nm, q, N, bs, bm, sn, sub, ab, col, dd, k0, k1, k2, k3, k5, mN, cC, cN, ci, cn, cb⟩ := x
  obtain ⟨o, hx, hc, hd, hf⟩ := I
  unfold Builtin.«object.__getattribute__»
  repeat (first | with_reducible refine ty.here ?_ | with_reducible refine lk.here ?_ | (with_reducible refine wpAny_loadPart_at hx ?_; rw [hc]) | with_reducible refine wpAny_loadPart_at cC ?_ | (with_reducible refine wpAny_nsGet hn ?_; rw [hm]) | wp_step)
  split
  · rename_i c hcd
    rw [hf] at hcd
    cases hcd
  unfold instanceDict
  repeat (first | (with_reducible refine wpAny_loadPart_at hx ?_; rw [hc]) | with_reducible refine wpAny_loadPart_at cC ?_ | wp_step)
  rw [hd]
  repeat (first | (with_reducible refine wpAny_nsGet hn ?_; rw [hm]) | wp_step)
  exact hQ
theorem ga_call {X dx : Addr} {name : Str} {v : Value} {mA : Str → Option Value} {vs : Array Value} {tk : Tok} {init : Option Value} {R : Result → Shared → Prop} (x : ExCls ns init h C) (h2 : name ∈ ns) (hv : typeLookup (.type "ValueError") name = pure none) (I : ExAt h X C (some dx) vs) (hn : h.Ns dx mA) (hm : mA name = some v)
    (hQ : R (.ok (.ret v)) ⟨h, g, d, t, os⟩) : codeAny (model prog w) A (.call (.builtin "BaseException.__getattribute__") ⟨[.ref X, .str name tk], []⟩) R ⟨h, g, d, t, os⟩ :=
  codeAny_call_builtin PySem.F.attr_ValueError.ga.plain PySem.F.entry_bexc_ga (@check_slot (model prog w) _ _ ⟨h, g, d, t, os⟩ "BaseException.__getattribute__" "BaseException" "__getattribute__" (.ref X) [.str name tk] [] _ (by decide +kernel) (by decide +kernel)
    (is_a (M := model prog w) (T := "BaseException") x I (by decide)) (PySem.F.args_bexc_ga (.ref X) (.str name tk)) (ga_entry x h2 hv I hn hm hQ))
theorem load_exc {X dx : Addr} {name : Str} {v : Value} {mA : Str → Option Value} {vs : Array Value} {init : Option Value} {expr : Bool} {Q : Value → Shared → Prop} (x : ExCls ns init h C) (h1 : ("__getattribute__" : Str) ∈ ns) (h3 : ("__getattr__" : Str) ∈ ns) (h2 : name ∈ ns) (hv : typeLookup (.type "ValueError") name = pure none) (I : ExAt h X C (some dx) vs) (hn : h.Ns dx mA) (hm : mA name = some v)
    (hh : handedOut v = pure v) (hQ : Q v ⟨h, g, d, t + 1, os⟩) : wpAny (model prog w) A (getAttr (.ref X) name expr) Q E ⟨h, g, d, t, os⟩ := by
  have ty := ty_ex (M := model prog w) I
  have lg := look_ex (M := model prog w) x h1 PySem.F.attr_ValueError.ga.lookup
  have lh := look_ex (M := model prog w) x h3 (y := none) (by rw [typeLookup_type, builtinLookup_eq_fast]; kernel_rfl)
  have z0 : (expr && onTheHeap (Value.builtin "BaseException.__getattribute__")) = false := by cases expr <;> rfl
  have z2 : (Value.builtin "BaseException.__getattribute__" == Value.builtin "object.__getattribute__") = false := by decide +kernel
  have z1 : (onTheHeap (Value.ref C) && Value.builtin "BaseException.__getattribute__" == Value.builtin "object.__getattribute__") = false := by rw [z2]; rfl
  have bd := PySem.F.attr_ValueError.ga.bind (.ref X)
  unfold getAttr
  refine wpAny_bind (wpAny_mkText ?_)
  repeat (any_goals (first | assumption | with_reducible refine ty.here ?_ | with_reducible refine lg.here ?_ | with_reducible refine lh.here ?_ | wp_step))
  refine ga_call x h2 hv I hn hm ?_
  show wpAny _ _ (handedOut v) Q E _
  rw [hh]
  exact wpAny_pure hQ
end
end L8
namespace L8
open PySem PySem.Spec PyProof.Rows PySem.W
open Sem (wp)
structure Fl (S ex : List Addr) (h0 : Heap) (e : Addr) (oe : Obj) (fl : Option Value) (h : Heap) : Prop where
  size : h0.objs.size ≤ h.objs.size
  keep : ∀ b o, b ≠ e → b ∉ ex → b ∉ S → h0.get? b = some o → h.get? b = some o
  slot : ∀ b o, b ≠ e → b ∉ ex → h0.get? b = some o → ∃ sl, h.get? b = some { o with slots := sl }
  exc : ∃ vs : Array Value, h.get? e = some { oe with data := .fields vs } ∧ 1 < vs.size ∧ (fl = none → vs[1]? = some .none) ∧
    ∀ f, fl = some f → ∃ (T : Addr) (oT : Obj) (ts : Array Value), vs[1]? = some (.ref T) ∧ (h0.objs.size ≤ T ∨ T ∈ ex) ∧ T ≠ e ∧ h.get? T = some oT ∧ oT.data = .fields ts ∧ ts[3]? = some f
theorem Fl.start {S ex : List Addr} {h : Heap} {e : Addr} {oe : Obj} {vs : Array Value} (he : h.get? e = some oe) (hd : oe.data = .fields vs) (hz : 1 < vs.size) (h1 : vs[1]? = some .none) : Fl S ex h e oe none h where
  size := Nat.le_refl _
  keep := fun _ _ _ _ _ e => e
  slot := fun _ o _ _ e => ⟨o.slots, e⟩
  exc := ⟨vs, by rw [he, ← hd], hz, fun _ => h1, fun _ z => nomatch z⟩
section
variable {M : Model} {A : Around} {E : Value → Shared → Prop} {s : Shared} {S ex : List Addr} {h0 base : Heap} {e L : Addr} {oe : Obj} {fl : Option Value} {env : Env} {outer : List Env}
theorem entry_fl {head : Value} {hadNext : Bool} {Q : Unit → Shared → Prop} (x : Fl S ex h0 e oe fl s.heap) (hS : ∀ b ∈ (env :: outer).filterMap (·.frame), b ∈ S) (hfr : A.frames = some (env :: outer)) (hl : s.heap.FunFrames base (env :: outer)) (hf : env.frame = some L)
    (hQ : ∀ h', Fl S ex h0 e oe (some (rawInt L)) h' → h'.FunFrames base (env :: outer) → Q () { s with heap := h' }) :
    wpAny M A (do let a ← frameOf env; let pl ← entryPlaceOf L hadNext; let b ← EntryCells.newEntry head a .none (rawInt L) .none pl; setField (.ref e) 1 b) Q E s := by
  obtain ⟨vs, he, hz, _, _⟩ := id x.exc
  have eout : e ∉ (env :: outer).filterMap (·.frame) := fun z => by
    obtain ⟨_, o, ho, hn⟩ := hl.mem z
    rw [he] at ho
    cases ho
    exact hn vs rfl
  refine wpAny_bind (wpAny_frameOf_fun hfr hl hf fun h1 hs1 => wpAny_bind (wpAny_entryPlaceOf fun pl hpl => ?_))
  unfold EntryCells.newEntry newFields
  refine wpAny_bind (wpAny_newObj_type ?_ (hpl.sizeOk5 _ _ _ _ _))
  have he1 : h1.get? e = some { oe with data := .fields vs } := (hs1.2.1 e eout).trans he
  obtain ⟨note, hnote⟩ : ∃ note : Obj, note = { cls := .type "traceback", dict := none, data := .fields ([head, .ref L, .none, rawInt L, .none] ++ (if pl.isEmpty then List.replicate 6 Value.none else pl)).toArray } := ⟨_, rfl⟩
  have hnd : note.data = .fields ([head, .ref L, .none, rawInt L, .none] ++ (if pl.isEmpty then List.replicate 6 Value.none else pl)).toArray := by rw [hnote]
  have hfree : note.isFreed = false := by rw [hnote]; rfl
  rw [← hnote]
  have he2 := Heap.get?_push_of_some note he1
  refine wpAny_setField he2 rfl hz (hQ _ ?_ ?_)
  · have hTe : h1.objs.size ≠ e := Nat.ne_of_gt (Heap.lt_size he1)
    have other : ∀ b o, b ≠ e → h1.get? b = some o → ((h1.push note).update e (Obj.mapFields (·.setIfInBounds 1 (Value.ref h1.objs.size)))).get? b = some o := fun b o hb q => (Heap.get?_update_other _ _ (Ne.symm hb)).trans (Heap.get?_push_of_some _ q)
    refine ⟨?_, fun b o hb hx hn q => other b o hb ((hs1.2.1 b fun z => hn (hS b z)).trans (x.keep b o hb hx hn q)), fun b o hb hx q => ?_, vs.setIfInBounds 1 (.ref h1.objs.size), ?_, by simpa using hz, (fun z => nomatch z), fun f hf' => ?_⟩
    · rw [Heap.size_update, Heap.size_push, hs1.1]
      exact Nat.le_succ_of_le x.size
    · obtain ⟨sl, q1⟩ := x.slot b o hb hx q
      obtain ⟨sl', q2⟩ := hs1.2.2 b _ q1
      exact ⟨sl', other b _ hb q2⟩
    · exact Heap.get?_update_self _ he2 rfl
    · cases hf'
      refine ⟨h1.objs.size, note, _, by simp [hz], ?_, hTe, (Heap.get?_update_other _ _ (Ne.symm hTe)).trans (Heap.get?_push_size _ hfree), hnd, by simp⟩
      rw [hs1.1]
      exact .inl x.size
  · refine hl.of_keeps fun b o ho hn => ?_
    have hb : b ≠ e := fun z => by
      rw [z, he] at ho
      cases ho
      exact hn vs rfl
    obtain ⟨sl, q⟩ := hs1.2.2 b o ho
    exact ⟨_, (Heap.get?_update_other _ _ (Ne.symm hb)).trans (Heap.get?_push_of_some _ q), rfl⟩
theorem flight_fl {f : Value} {Q : Unit → Shared → Prop} (x : Fl S ex h0 e oe (some f) s.heap) (hl : s.heap.FunFrames base outer) (hQ : ∀ h', Fl S ex h0 e oe (some .none) h' → h'.FunFrames base outer → Q () { s with heap := h' }) : wpAny M A (setFlight (.ref e) none) Q E s := by
  obtain ⟨vs, he, hz, _, hx⟩ := id x.exc
  obtain ⟨T, oT, ts, h1, hn, hTe, hT, hd, h3⟩ := hx f rfl
  have h3' : 3 < ts.size := (Array.getElem?_eq_some_iff.mp h3).1
  unfold setFlight
  refine wpAny_bind (wpAny_field he rfl h1 ?_)
  rw [if_pos (show (Value.ref T != Value.none) = true by simp)]
  have other : ∀ b, b ≠ T → (s.heap.update T (Obj.mapFields (·.setIfInBounds 3 ((none : Option Addr).elim Value.none fun f => rawInt f)))).get? b = s.heap.get? b := fun b hb => Heap.get?_update_other _ _ (Ne.symm hb)
  have old : ∀ b o, b ∉ ex → h0.get? b = some o → b ≠ T := fun b o hx' q z => by
    have := Heap.lt_size q
    rw [z] at this hx'
    rcases hn with hn | hn
    · exact absurd hn (Nat.not_le_of_lt this)
    · exact hx' hn
  refine wpAny_setField hT hd h3' (hQ _ ⟨?_, fun b o hb hx' hs q => (other b (old b o hx' q)).trans (x.keep b o hb hx' hs q), fun b o hb hx' q => ?_, vs, (other e (Ne.symm hTe)).trans he, hz, (fun z => nomatch z), fun f' hf' => ?_⟩ ?_)
  · rw [Heap.size_update]; exact x.size
  · obtain ⟨sl, q1⟩ := x.slot b o hb hx' q
    exact ⟨sl, (other b (old b o hx' q)).trans q1⟩
  · cases hf'
    exact ⟨T, _, _, h1, hn, hTe, Heap.get?_update_self _ hT (Obj.isFreed_of_fields (Obj.data_mapFields hd _)), Obj.data_mapFields hd _, by simp [h3']⟩
  · refine hl.of_keeps fun b o ho hnf => ⟨o, (other b fun z => ?_).trans ho, rfl⟩
    rw [z, hT] at ho
    cases ho
    exact hnf ts hd
theorem note_first {Q : Unit → Shared → Prop} (x : Fl S ex h0 e oe none s.heap) (hS : ∀ b ∈ (env :: outer).filterMap (·.frame), b ∈ S) (hfr : A.frames = some (env :: outer)) (hl : s.heap.FunFrames base (env :: outer)) (hf : env.frame = some L)
    (hQ : ∀ h', Fl S ex h0 e oe (some (rawInt L)) h' → h'.FunFrames base (env :: outer) → Q () { s with heap := h' }) : wpAny M A (noteFrame (.ref e) env) Q E s := by
  obtain ⟨vs, he, hz, h1, _⟩ := id x.exc
  unfold noteFrame
  simp only [hf]
  refine wpAny_bind (wpAny_field he rfl (h1 rfl) ?_)
  rw [if_neg (by decide)]
  exact entry_fl x hS hfr hl hf hQ
theorem note_on {Q : Unit → Shared → Prop} (x : Fl S ex h0 e oe (some .none) s.heap) (hS : ∀ b ∈ (env :: outer).filterMap (·.frame), b ∈ S) (hfr : A.frames = some (env :: outer)) (hl : s.heap.FunFrames base (env :: outer)) (hf : env.frame = some L)
    (hQ : ∀ h', Fl S ex h0 e oe (some (rawInt L)) h' → h'.FunFrames base (env :: outer) → Q () { s with heap := h' }) : wpAny M A (noteFrame (.ref e) env) Q E s := by
  obtain ⟨vs, he, hz, _, hx⟩ := id x.exc
  obtain ⟨T, oT, ts, h1, hn, hTe, hT, hd, h3⟩ := hx .none rfl
  have h3' : 3 < ts.size := (Array.getElem?_eq_some_iff.mp h3).1
  unfold noteFrame
  simp only [hf]
  refine wpAny_bind (wpAny_field he rfl h1 ?_)
  rw [if_pos (show (Value.ref T != Value.none) = true by simp)]
  refine wpAny_bind (wpAny_field hT hd h3 ?_)
  rw [if_neg (show ¬ ((Value.none == rawInt L) = true) by simp [rawInt])]
  have other : ∀ b, b ≠ T → (s.heap.update T (Obj.mapFields (·.setIfInBounds 3 Value.none))).get? b = s.heap.get? b := fun b hb => Heap.get?_update_other _ _ (Ne.symm hb)
  have old : ∀ b o, b ∉ ex → h0.get? b = some o → b ≠ T := fun b o hx' q z => by
    have := Heap.lt_size q
    rw [z] at this hx'
    rcases hn with hn | hn
    · exact absurd hn (Nat.not_le_of_lt this)
    · exact hx' hn
  refine wpAny_bind (wpAny_setField hT hd h3' (entry_fl (s := { s with heap := _ }) (fl := some .none) ⟨?_, fun b o hb hx' hs q => (other b (old b o hx' q)).trans (x.keep b o hb hx' hs q), fun b o hb hx' q => ?_, vs, (other e (Ne.symm hTe)).trans he, hz, (fun z => nomatch z), fun f' hf' => ?_⟩ hS hfr ?_ hf hQ))
  · show h0.objs.size ≤ (Heap.update _ _ _).objs.size
    rw [Heap.size_update]; exact x.size
  · obtain ⟨sl, q1⟩ := x.slot b o hb hx' q
    exact ⟨sl, (other b (old b o hx' q)).trans q1⟩
  · cases hf'
    exact ⟨T, _, _, h1, hn, hTe, Heap.get?_update_self _ hT (Obj.isFreed_of_fields (Obj.data_mapFields hd _)), Obj.data_mapFields hd _, by simp [h3']⟩
  · refine hl.of_keeps fun b o ho hnf => ⟨o, (other b fun z => ?_).trans ho, rfl⟩
    rw [z, hT] at ho
    cases ho
    exact hnf ts hd
theorem leave_first {Q : Unit → Shared → Prop} (x : Fl S ex h0 e oe none s.heap) (hS : ∀ b ∈ (env :: outer).filterMap (·.frame), b ∈ S) (hfr : A.frames = some (env :: outer)) (hl : s.heap.FunFrames base (env :: outer)) (hf : env.frame = some L)
    (hQ : ∀ h', Fl S ex h0 e oe (some .none) h' → h'.FunFrames base (env :: outer) → Q () { s with heap := h' }) : wpAny M A (leaving env (.ref e)) Q E s := by
  unfold leaving
  refine wpAny_bind (note_first x hS hfr hl hf fun h1 x1 l1 => ?_)
  exact flight_fl (s := { s with heap := h1 }) x1 l1 hQ
end
end L8
namespace L8
open PySem PySem.Spec PyProof.Rows PySem.W L2 L3 L4
open Sem (wp)
def exO (x C : Addr) (dx : Option Addr) (new : Bool) : HO := .ext fun h => ∃ vs : Array Value, ExAt h x C dx vs ∧ 1 < vs.size ∧ (new = true → vs[1]? = some .none)
theorem exO_ok {P : Program} {w : World} {H : Hp} {h : Heap} {x C : Addr} {dx : Option Addr} {vs : Array Value} {new : Bool} (I : ExAt h x C dx vs) (hz : 1 < vs.size) (hn : new = true → vs[1]? = some .none) : ObjOk P w H h x (exO x C dx new) :=
  ⟨⟨vs, I, hz, hn⟩, (let ⟨o, e, _⟩ := I; ⟨o, e⟩), fun _ _ ⟨vs, I, r⟩ k => ⟨vs, I.keep k, r⟩⟩
structure XC (K : Frag) (ns : List Str) (init : Option Value) (C : Addr) : Prop where
  ex : exIn K ns init C = true
  kp : keepIn K (.ref C) = true
section
variable {X : Cx} {pins : List (Addr × Obj)} {σ : L2.St} {H : Hp} {s : Shared} {h' : Heap}
end
section
variable {X : Cx} {CX : CXT} {k : Nat} {f C : Addr} {fd : FuncData} {ps ns : List Str} {sp : Sp} {E : XK} {x m : Str} {p pos apos : Pos} {e o : Expr} {es : List Expr} {ta : TE} {t : TA}
def tMakeX (C : Addr) (sp : Sp) (E : XK) (t : TA) : TE := fun σ H Q => t σ H fun vs H1 => ∀ x, H1 x = none → sp (.ref x :: vs) (upd H1 x (exO x C none true)) (fun v H2 => v = .non ∧ Q (.ref x) H2) E
theorem run_makeX {pins : List (Addr × Obj)} {σ : L2.St} {H : Hp} {s : Shared} {Q : VK} {us : List Value} {vs : List V} (M : XC X.K ns (some (.ref f)) C) (fn : isFn X.K (.ref f) = true) (F : FnOk X.prog X.w X.K X.mg X.base CX k f fd ps sp) (hr : Room (k + 1) X.A) (hb : Binds X.K fd ps []) (hx : Passes CX X E)
    (I : Inv X pins σ H s) (r : Vals vs us) (hl : us.length ≤ sizeLine) (h : ∀ x, H x = none → sp (.ref x :: vs) (upd H x (exO x C none true)) (fun v H2 => v = .non ∧ Q (.ref x) H2) E) : wpAny (model X.prog X.w) X.A (call (.ref C) us) (EP X pins σ Q) X.xe s := by
  have cls := ex_of I.kIn M.ex
  obtain ⟨oI, eI, cI⟩ : ∃ oI, s.heap.get? f = some oI ∧ oI.cls = .type "function" := by
    obtain ⟨oI, z1, z2⟩ := Option.map_eq_some_iff.mp (show typeIn X.K (.ref f) = some (.type "function") from beq_iff_eq.mp fn)
    exact ⟨oI, I.kIn _ _ z1, z2⟩
  obtain ⟨hh, gg, dd, tt, oss⟩ := s
  refine make_exc cls eI cI hl fun h' M' => ?_
  obtain ⟨ta, e1, _, _⟩ := M'.there
  have fresh : H (hh.objs.size + 1) = none := I.hok.fresh (Nat.le_succ _)
  have I2 : Inv X pins σ (upd H (hh.objs.size + 1) (exO (hh.objs.size + 1) C none true)) { heap := h', gens := gg, drawn := dd, toks := tt, os := oss } := I.laid (t' := tt) M'.keeps (Nat.le_succ _) (exO_ok ⟨_, e1, rfl, rfl, rfl⟩ (by simp) fun _ => rfl)
  have hq := h _ fresh
  have r2 : Vals (V.ref (hh.objs.size + 1) :: vs) (Value.ref (hh.objs.size + 1) :: us) := .cons rfl r
  have hlen : (Value.ref (hh.objs.size + 1) :: us).length = ps.length := by
    have z := r2.length
    rw [F.len _ _ _ _ hq] at z
    exact z.symm
  have bd := hb _ (Value.ref (hh.objs.size + 1) :: us) I2.kIn (by rw [List.append_nil]; exact hlen)
  rw [List.append_nil] at bd
  refine wpAny_call (codeAny_mono (F.run _ X.stack _ _ ⟨Value.ref (hh.objs.size + 1) :: us, []⟩ (Value.ref (hh.objs.size + 1) :: us) _ _ E (hr.make C us []) (I2.env0.make C us []) bd r2 hq) fun r s' hq' => ?_)
  cases r with
  | error e => exact hx pins σ _ _ e s' I2 hq'
  | ok fl =>
    cases fl with
    | ret u =>
      obtain ⟨v, H', I3, rv, ev, q3⟩ := I2.after hq'
      subst ev
      exact ⟨rv, ⟨V.ref (hh.objs.size + 1), H', I3, rfl, q3⟩⟩
    | next => exact False.elim hq'
    | brk => exact False.elim hq'
    | cont => exact False.elim hq'
def tFew (t : TA) : TA := fun σ H Q => t σ H fun vs H1 => vs.length ≤ 15 ∧ Q vs H1
theorem pe_makeX {sc : Scope} (M : XC X.K ns (some (.ref f)) C) (fn : isFn X.K (.ref f) = true) (F : FnOk X.prog X.w X.K X.mg X.base CX k f fd ps sp) (hr : Room (k + 1) X.A) (h1 : X.env.scope = sc) (hg : glB sc x = true) (hm : X.mg x = some (.ref C)) (hb : Binds X.K fd ps []) (hx : Passes CX X E) (ha : PA X (e :: es) t)
    (he : starEach (e :: es) X.env = (false, eval e X.env) :: starEach es X.env := by rfl) (hpl : (backTo pos (starEach es X.env)).any (·.1) = false := by rfl) : PE X (.Call (.Name x p) (e :: es) [] pos) (tMakeX C sp E (tFew t)) := by
  intro pins s σ H Q I h
  refine wpAny_Call_Name_kw (ld_glob I (glN h1 hg).1 hm ?_ (glN h1 hg).2.1)
  refine PySem.W.callWith_K (h₀ := X.base) I.ok.mod.kin M.kp (thn (ha pos pins s σ H _ I h) fun us s1 ⟨vs, H1, I1, r, hf, q⟩ => ⟨I1.kIn, ?_⟩) he hpl
  have line : 15 ≤ sizeLine := by decide
  exact run_makeX M fn F hr hb hx I1 r (by show us.length ≤ _; rw [← r.length]; omega) q
def freeName (ns : List Str) (f : Str) : Prop := f ∈ ns ∧ typeLookup (.type "ValueError") f = pure none
def sXPut (K : Frag) (ns : List Str) (ta tv : TE) (f : Str) : TS := fun D σ H => tv σ H fun v H1 => ta σ H1 fun x H2 => ∃ a C init new, x = .ref a ∧ H2 a = some (exO a C none new) ∧ exIn K ns init C = true ∧ ∀ d, H2 d = none → d ≠ a → D.nx σ (upd (upd H2 d (.xd [(f, v)])) a (exO a C (some d) new))
theorem ps_xput {value : Expr} {fl : Str} {pos' : Pos} {tv : TE} (hs1 : ("__setattr__" : Str) ∈ ns) (hn : freeName ns fl) (ha : PE X o ta) (hv : PE X value tv) (hs : swapsWith value (some (.Attribute o fl pos')) pos.line X.env = pure false) : PS X (.Assign [.Attribute o fl pos'] value pos) (sXPut X.K ns ta tv fl) := by
  intro pins s σ H D I h
  refine plainObj_wpAny_Assign_Attribute (thn (hv pins s σ H _ I h) fun u s1 ⟨y, H1, I1, ry, q⟩ => thn (ha pins s1 σ H1 _ I1 q) fun ov s2 ⟨x, H2, I2, rx, a, C, init, new, ex, ea, ec, q2⟩ => ?_) hs
  subst ex
  obtain rfl : ov = Value.ref a := rx
  obtain ⟨⟨vs, J, hz, hnew⟩, _, _⟩ := I2.hok a _ ea
  have J0 := J
  obtain ⟨ob, ho, _⟩ := J0
  obtain ⟨hh, gg, dd, tt, oss⟩ := s2
  have hlt : a < hh.objs.size := Heap.lt_size ho
  have hne : hh.objs.size ≠ a := Nat.ne_of_gt hlt
  refine store_exc (ex_of I2.kIn ec) hs1 hn.1 hn.2 J fun h' tk' J' N' kp => ?_
  have fresh : H2 hh.objs.size = none := I2.hok.fresh (Nat.le_refl _)
  have nd : ∀ b ob, hh.get? b = some ob → b ≠ hh.objs.size := fun b ob z => Nat.ne_of_lt (Heap.lt_size z)
  have na : ∀ b u, H2 b = some u → (∀ φ, u ≠ .ext φ) → b ≠ a := fun b u z n w' => by
    rw [w', ea] at z
    exact n _ (Option.some.inj z).symm
  have nz : ∀ b, H2 b = none → b ≠ a := fun b z w' => by
    rw [w', ea] at z
    cases z
  have up2 : ∀ b u, H2 b = some u → b ≠ a → upd (upd H2 hh.objs.size (.xd [(fl, y)])) a (exO a C (some hh.objs.size) new) b = some u := fun b u z n => by
    rw [upd_ne n, upd_ne (ne_of_none z fresh)]
    exact z
  have un : Un X.fs [] H2 (upd (upd H2 hh.objs.size (.xd [(fl, y)])) a (exO a C (some hh.objs.size) new)) hh h' :=
    ⟨fun b ob z m _ _ => kp b ob (nz b m) z, fun b ob z m _ _ => ⟨ob.slots, kp b ob (nz b m) z⟩, fun b ob z m _ => by rw [upd_ne (nz b m), upd_ne (nd b ob z)]; exact m,
      fun b ob z _ => by
        by_cases hb : b = a
        · subst hb
          obtain ⟨o', e', _⟩ := J'
          exact ⟨o', e'⟩
        · exact ⟨ob, kp b ob hb z⟩,
      fun b xs z => up2 b _ z (na b _ z fun φ w' => nomatch w'), fun b ob u' z => up2 b _ z (na b _ z fun φ w' => nomatch w'), fun b ps' z => ⟨#[], by rw [Array.append_empty]; exact up2 b _ z (na b _ z fun φ w' => nomatch w')⟩⟩
  have hok : HOk X.prog X.w (upd (upd H2 hh.objs.size (.xd [(fl, y)])) a (exO a C (some hh.objs.size) new)) h' := fun b ub z => by
    by_cases hb : b = a
    · subst hb
      rw [upd_same] at z
      cases z
      exact exO_ok J' hz hnew
    · rw [upd_ne hb] at z
      by_cases hbd : b = hh.objs.size
      · subst hbd
        rw [upd_same] at z
        cases z
        refine ⟨_, N', fun g' => ?_⟩
        by_cases hg' : g' = fl
        · subst hg'
          rw [if_pos rfl]
          show RelO (List.lookup g' [(g', y)]) (some u)
          rw [List.lookup_cons, beq_self_eq_true]
          exact ry
        · rw [if_neg hg']
          show RelO (List.lookup g' [(fl, y)]) none
          rw [List.lookup_cons, beq_eq_false_iff_ne.mpr hg']
          exact trivial
      · rw [upd_ne hbd] at z
        refine (I2.hok b ub z).stay (fun c v hc q' => kp c v ?_ q') (fun c q' => up2 c _ q' (na c _ q' fun φ w' => nomatch w')) fun c xs q' => up2 c _ q' (na c _ q' fun φ w' => nomatch w')
        rcases hc with rfl | hc
        · exact hb
        · exact na c _ hc fun φ w' => nomatch w'
  exact ⟨σ, _, I2.un (t' := tk') un hok, q2 _ fresh hne⟩
def tXGet (K : Frag) (ns : List Str) (ta : TE) (f : Str) : TE := fun σ H Q => ta σ H fun x H1 => ∃ a C init dx new fs v, x = .ref a ∧ H1 a = some (exO a C (some dx) new) ∧ exIn K ns init C = true ∧ H1 dx = some (.xd fs) ∧ fs.lookup f = some v ∧ Q v H1
theorem pe_xget {fl : Str} (hs1 : ("__getattribute__" : Str) ∈ ns) (hs2 : ("__getattr__" : Str) ∈ ns) (hn : freeName ns fl) (ha : PE X o ta) (hb : attributeBase o fl X.env (eval o X.env) = eval o X.env) : PE X (.Attribute o fl pos) (tXGet X.K ns ta fl) := by
  intro pins s σ H Q I h
  refine attr_of hb (thn (ha pins s σ H _ I h) fun u s1 ⟨x, H1, I1, rx, a, C, init, dx, new, fs, v, ex, ea, ec, ed, ev, q⟩ => ?_)
  subst ex
  obtain rfl : u = Value.ref a := rx
  obtain ⟨⟨vs, J, _, _⟩, _, _⟩ := I1.hok a _ ea
  obtain ⟨mA, N1, rel⟩ := (show ObjOk X.prog X.w H1 s1.heap dx (.xd fs) from I1.hok dx _ ed)
  have rl := rel fl
  rw [ev] at rl
  cases hm : mA fl with
  | none => rw [hm] at rl; exact False.elim rl
  | some u' =>
    rw [hm] at rl
    have rl' : RelV v u' := rl
    have hh : handedOut u' = pure u' := by
      cases v with
      | non => cases rl'; rfl
      | bl b => cases rl'; rfl
      | int i => obtain ⟨t, rfl⟩ := rl'; rfl
      | str i => obtain ⟨t, rfl⟩ := rl'; rfl
      | byt i => obtain ⟨t, rfl⟩ := rl'; rfl
      | flt i => obtain ⟨t, rfl⟩ := rl'; rfl
      | ref i => cases rl'; rfl
      | ty i => cases rl'; rfl
    obtain ⟨hp, gg, dd, tt, oss⟩ := s1
    exact load_exc (ex_of I1.kIn ec) hs1 hs2 hn.1 hn.2 J N1.ns hm hh ⟨v, H1, I1.tok _, rl', q⟩
end
end L8
namespace L8
open PySem PySem.Spec PyProof.Rows PySem.W
open Sem (wp)
section
variable {prog : Program} {w : World} {A : Around} {E : Value → Shared → Prop} {h : Heap} {g : Array GenState} {d : Drawn} {t : Nat} {os : OsState} {C X : Addr} {ns : List Str} {dx : Option Addr} {vs : Array Value} {init : Option Value}
end
open L2 L3 L4
section
variable {X : Cx} {ns : List Str}
end
end L8
namespace L8
open PySem PySem.Spec PyProof.Rows PySem.W L2 L3 L4
open Sem (wp)
section
variable {prog : Program} {w : World} {A : Around} {E : Value → Shared → Prop} {h : Heap} {g : Array GenState} {d : Drawn} {t : Nat} {os : OsState} {C X : Addr} {ns : List Str} {dx : Option Addr} {vs : Array Value} {init : Option Value} {s : Shared} {env : Env}
theorem raise_ex {x : Sem Value} {Q : Flow → Shared → Prop} (hh : A.handled = none) (hx : wpAny (model prog w) A x (fun v s₁ => ∃ X C ns init dx vs, v = .ref X ∧ ExCls ns init s₁.heap C ∧ ExAt s₁.heap X C dx vs ∧ vs[1]? = some .none ∧ E (.ref X) s₁) E s) : wpAny (model prog w) A (raiseStmt env (some x) none) Q E s := by
  unfold raiseStmt
  refine wpAny_bind (wpAny_mono hx (fun v s₁ z => ?_) fun _ _ z => z)
  obtain ⟨X, C, ns, init, dx, vs, rfl, cl, I, hz, hE⟩ := z
  obtain ⟨nm, q, N, bs, bm, sn, sub, ab, col, dd, k0, k1, k2, k3, k5, mN, cC, cN, ci, cn, cb⟩ := cl
  have hb : (Value.ref C :: bm).contains (.type "BaseException") = true := by rw [List.contains_cons, cb.tail.hasType (b := true) (by decide), Bool.or_true]
  obtain ⟨o, ho, hc, hd, hf⟩ := I
  obtain ⟨oc, od, odt, osl⟩ := o
  dsimp only at hc hd hf
  subst hc hd hf
  obtain ⟨hp, g, d, tk, os⟩ := s₁
  repeat (first | with_reducible refine wpAny_loadPart_at ho ?_ | with_reducible refine wpAny_loadPart_at cC ?_ | (with_reducible refine wpAny_isSubtype_exc cC ?_; rw [hb]) | with_reducible refine wpAny_field ho rfl hz ?_ | wp_step)
  exact wpAny_raiseNew_none hh hE
end
def CXE (P : Program) (w : World) : CXT := fun outer H s E e s' => ∃ (x C : Addr) (dx : Option Addr) (H' : Hp) (vs ts : Array Value) (T : Addr) (oe oT : Obj), e = .ref x ∧ s'.os = s.os ∧ AllBare s'.gens ∧ Un (frs outer) [] H H' s.heap s'.heap ∧ HOk P w H' s'.heap ∧
  s.heap.get? x = none ∧ H' x = some (exO x C dx false) ∧ (s'.heap.get? x = some oe ∧ oe.cls = .ref C ∧ oe.dict = dx ∧ oe.data = .fields vs ∧ 1 < vs.size ∧ vs[1]? = some (.ref T)) ∧ (T ≠ x ∧ s.heap.objs.size ≤ T ∧ H' T = none ∧ s'.heap.get? T = some oT ∧ oT.data = .fields ts ∧ ts[3]? = some .none) ∧ E (.ref C) dx H'
def Throws (X : Cx) (E : XK) : Prop := ∀ (pins : List (Addr × Obj)) (σ : L2.St) (H : Hp) (s : Shared) (x C : Addr) (dx : Option Addr), Inv X pins σ H s → H x = some (exO x C dx true) → X.H₀ x = none → E (.ref C) dx (upd H x (exO x C dx false)) → X.xe (.ref x) s
def sRaise (K : Frag) (ns : List Str) (H0 : Hp) (E : XK) (te : TE) : TS := fun _ σ H => te σ H fun v H2 => ∃ x C dx init, v = .ref x ∧ H2 x = some (exO x C dx true) ∧ exIn K ns init C = true ∧ H0 x = none ∧ E (.ref C) dx (upd H2 x (exO x C dx false))
section
variable {X : Cx} {ns : List Str} {E : XK} {pos : Pos} {e : Expr} {te : TE}
theorem ps_raise (he : PE X e te) (hc : X.calm = true) (hx : Throws X E) : PS X (.Raise (some e) none pos) (sRaise X.K ns X.H₀ E te) := by
  intro pins s σ H D I h
  rw [arm_exec_Raise]
  refine wpAny_bind (wpAny_standAt ?_)
  refine raise_ex (I.ok.hd hc) (wpAny_bind (thn (he pins s σ H _ I h) fun v s1 ⟨y, H1, I1, r1, x, C, dx, init, ey, ex, ec, e0, q⟩ => wpAny_bind (wpAny_standAt (wpAny_pure ?_))))
  subst ey
  obtain rfl : v = Value.ref x := r1
  obtain ⟨⟨vs, J, hz, hn⟩, _, _⟩ := I1.hok x _ ex
  exact ⟨x, C, ns, init, dx, vs, rfl, ex_of I1.kIn ec, J, hn rfl, hx pins σ H1 s1 x C dx I1 ex e0 q⟩
end
theorem throws_fn {P : Program} {w : World} {K : PySem.W.Frag} {mg : Str → Option Value} {base : Heap} {N : List Str} {qual : Str} {scope : Scope} {f : Addr} {cd : Value} {A : Around} {outer : List Env} {s : Shared} {H : Hp} {E : XK} :
    Throws (cxOf (CXE P w) P w K mg base N qual scope f cd A outer s H E) E := by
  intro pins σ H1 s1 x C dx I ex e0 q
  obtain ⟨⟨vs, J, hz, hn⟩, _, _⟩ := I.hok x _ ex
  obtain ⟨oe, ho, hc, hd, hf⟩ := J
  have out : s.heap.get? x = none := by
    cases z : s.heap.get? x with
    | none => rfl
    | some o =>
      have := I.base.free x o z e0 (fun m => nomatch m)
      rw [ex] at this
      cases this
  have nx : ∀ b o, s.heap.get? b = some o → b ≠ x := fun b o z w' => by
    rw [w', out] at z
    cases z
  refine leave_first (S := frs (envOfC qual scope s.heap.objs.size f cd :: outer)) (ex := []) (base := base) (oe := oe) (Fl.start ho hf hz (hn rfl)) (fun b z => z) I.ok.frames I.stack rfl fun h' F _ => ?_
  obtain ⟨vs', e1, z1, _, tr⟩ := F.exc
  obtain ⟨T, oT, ts, t1, t2, t3, t4, t5, t6⟩ := tr .none rfl
  have t2' : s1.heap.objs.size ≤ T := t2.elim id fun m => nomatch m
  have lay : ∀ b u, H1 b = some u → b ≠ x → ∀ c v, (c = b ∨ H1 c = some (.own b)) → s1.heap.get? c = some v → h'.get? c = some v := fun b u hb hbx c v hcv z => by
    have tracked : H1 c ≠ none := by
      rcases hcv with rfl | hcv
      · rw [hb]; exact fun w' => nomatch w'
      · rw [hcv]; exact fun w' => nomatch w'
    refine F.keep c v (fun w' => ?_) (fun m => nomatch m) (fun m => tracked (I.stkFree c m)) z
    rcases hcv with rfl | hcv
    · exact hbx w'
    · rw [w', ex] at hcv
      cases hcv
  have nS : ∀ b o, s.heap.get? b = some o → b ∉ frs outer → b ∉ frs (envOfC qual scope s.heap.objs.size f cd :: outer) := fun b o z hb m => by
    rcases List.mem_cons.mp (I.stkSub b m) with w' | w'
    · have := Heap.lt_size z
      rw [w'] at this
      exact absurd I.ok.above (Nat.not_le_of_lt this)
    · exact hb w'
  have un : Un (frs outer) [] H (upd H1 x (exO x C dx false)) s.heap h' := by
    refine ⟨fun b o z n hb m => F.keep b o (nx b o z) m (nS b o z hb) (I.base.keep b o z n hb m), fun b o z n hb m => ?_, fun b o z n m => ?_, fun b o z m => ?_, fun b xs z => ?_, fun b o u z => ?_, fun b ps z => ?_⟩
    · obtain ⟨sl, q1⟩ := I.base.slot b o z n hb m
      obtain ⟨sl', q2⟩ := F.slot b _ (nx b o z) m q1
      exact ⟨sl', q2⟩
    · rw [upd_ne (nx b o z)]
      exact I.base.free b o z n m
    · obtain ⟨o', q1⟩ := I.base.there b o z m
      obtain ⟨sl, q2⟩ := F.slot b _ (nx b o z) m q1
      exact ⟨_, q2⟩
    · have q1 := I.base.tups b xs z
      rw [upd_ne (fun w' => by rw [w', ex] at q1; cases q1)]
      exact q1
    · have q1 := I.base.frzs b o u z
      rw [upd_ne (fun w' => by rw [w', ex] at q1; cases q1)]
      exact q1
    · obtain ⟨more, q1⟩ := I.base.tbls b ps z
      exact ⟨more, by rw [upd_ne (fun w' => by rw [w', ex] at q1; cases q1)]; exact q1⟩
  have ok' : HOk P w (upd H1 x (exO x C dx false)) h' := fun b u z => by
    by_cases hb : b = x
    · subst hb
      rw [upd_same] at z
      cases z
      exact exO_ok ⟨_, e1, hc, hd, rfl⟩ z1 fun w' => nomatch w'
    · rw [upd_ne hb] at z
      refine (I.hok b u z).stay (lay b u z hb) (fun c q1 => ?_) fun c xs q1 => ?_
      · rw [upd_ne (fun w' => by rw [w', ex] at q1; cases q1)]
        exact q1
      · rw [upd_ne (fun w' => by rw [w', ex] at q1; cases q1)]
        exact q1
  have hT : upd H1 x (exO x C dx false) T = none := by
    rw [upd_ne t3]
    exact I.hok.fresh t2'
  exact ⟨x, C, dx, _, vs', ts, T, _, oT, rfl, I.os, I.bare, un, ok', out, upd_same, ⟨e1, hc, hd, rfl, z1, t1⟩, ⟨t3, Nat.le_trans I.sz t2', hT, t4, t5, t6⟩, q⟩
end L8
namespace L8
open PySem PySem.Spec PyProof.Rows PySem.W L2 L3 L4
open Sem (wp)
def cxM (X : Cx) (e : Value) : Cx := { X with A := X.A.mark (some e), calm := false, xe := fun _ _ => False }
section
variable {X : Cx} {pins : List (Addr × Obj)} {σ : L2.St} {H : Hp} {s : Shared} {e : Value}
theorem inv_mark (I : Inv X pins σ H s) (e : Value) : Inv (cxM X e) pins σ H s :=
  ⟨⟨I.ok.mod, I.ok.kind, I.ok.glob, I.ok.blt, I.ok.above, I.ok.inj, I.ok.has, I.ok.cab, (fun z => nomatch z), I.ok.frames, I.ok.stk, I.ok.exf, I.ok.bs, I.ok.bsz, I.ok.noex, I.ok.exfs, I.ok.funs, I.ok.frf⟩, I.os, I.bare, I.base, I.loc, I.cell, I.free, I.freeC, I.pin, I.hok, I.len⟩
theorem inv_unmark (ok : X.Ok) (I : Inv (cxM X e) pins σ H s) : Inv X pins σ H s := ⟨ok, I.os, I.bare, I.base, I.loc, I.cell, I.free, I.freeC, I.pin, I.hok, I.len⟩
theorem inv_fl {x C T : Addr} {dx : Option Addr} {oe : Obj} {f : Value} {h' : Heap} (I : Inv X pins σ H s) (ex : H x = some (exO x C dx false)) (hc : oe.cls = .ref C) (hd : oe.dict = dx) (fT : FpOk X pins H T) (F : Fl (frs X.stack) [T] s.heap x oe (some f) h') : Inv X pins σ H { s with heap := h' } := by
  obtain ⟨vs, e1, z1, _, _⟩ := F.exc
  obtain ⟨f0, f1, f2, f3, f4, f5⟩ := fT
  have nx : ∀ b, H b = none → b ≠ x := fun b z w' => by
    rw [w', ex] at z
    cases z
  refine I.call (g' := s.gens) (d' := s.drawn) (t' := s.toks) (ch := [T]) ⟨fun b o z n hb m => F.keep b o (nx b n) m hb z, fun b o z n hb m => F.slot b o (nx b n) m z, fun _ _ _ n _ => n, fun b o z m => ?_, fun _ _ z => z, fun _ _ _ z => z, fun b ps z => ⟨#[], by rw [Array.append_empty]; exact z⟩⟩ (fun b u z => ?_) I.bare fun b m => ?_
  · by_cases hb : b = x
    · subst hb
      exact ⟨_, e1⟩
    · obtain ⟨sl, q⟩ := F.slot b o hb m z
      exact ⟨_, q⟩
  · by_cases hb : b = x
    · subst hb
      rw [ex] at z
      cases z
      exact exO_ok ⟨_, e1, hc, hd, rfl⟩ z1 fun w' => nomatch w'
    · refine (I.hok b u z).stay (fun c v hcv q => ?_) (fun _ q => q) fun _ _ q => q
      have tracked : H c ≠ none := by
        rcases hcv with rfl | hcv
        · rw [z]; exact fun w' => nomatch w'
        · rw [hcv]; exact fun w' => nomatch w'
      refine F.keep c v (fun w' => ?_) (fun m => ?_) (fun m => tracked (I.stkFree c m)) q
      · rcases hcv with rfl | hcv
        · exact hb w'
        · rw [w', ex] at hcv
          cases hcv
      · rw [List.mem_singleton.mp m] at tracked
        exact tracked f0
  · rw [List.mem_singleton.mp m]
    exact ⟨f3, f1, f4, f5⟩
end
section
variable {X : Cx} {ns : List Str} {pos hpos np : Pos} {c n : Str} {b₀ : Stmt} {suite : List Stmt} {ts : Value → TS} {D : Addr} {j : Nat} {sc : Scope}
theorem name_goes {pins : List (Addr × Obj)} {σ : L2.St} {H : Hp} {s : Shared} {Q : Unit → Shared → Prop} {E : Value → Shared → Prop} (I : Inv X pins σ H s) (hN : X.N.Nodup) (hj : X.N[j]? = some n) (hl : X.env.scope.names.lookup n = some .local)
    (hQ : ∀ s', Inv X pins (σ.set j none) H s' → Q () s') : wpAny (model X.prog X.w) X.A (do bindName X.env n .none; unbindBehindTheSuite X.env n pos) Q E s := by
  obtain ⟨m, hn, look⟩ := id I.loc
  have hcl : (X.env.scope.kind == .class || (X.env.scope.kind == .module && X.env.locals != X.env.globals)) = false := by rw [I.ok.kind]; rfl
  have hj' : j < σ.length := by rw [I.len]; exact (List.getElem?_eq_some_iff.mp hj).1
  refine wpAny_nameGoes_keeps hl hn hcl fun h' v hn' hs => hQ _ ?_
  obtain ⟨oL, _, _, hoL, _⟩ := id hn
  have low : ∀ b o, X.s₀.heap.get? b = some o → b ≠ X.env.locals := fun b o z => Nat.ne_of_lt (Nat.lt_of_lt_of_le (Heap.lt_size z) I.ok.above)
  refine ⟨I.ok, I.os, I.bare, ⟨fun b o z n' hb hx => (hs.2 b (low b o z)).trans (I.base.keep b o z n' hb hx), fun b o z n' hb hx => ?_, I.base.free, fun b o z hx => ?_, I.base.tups, I.base.frzs, I.base.tbls⟩, ⟨_, hn', fun i y v' e1 e2 e3 => ?_⟩, fun y c' z => ?_, I.free, I.freeC, fun p' hp => ?_, fun b u z => ?_, by simpa using I.len⟩
  · obtain ⟨sl, q⟩ := I.base.slot b o z n' hb hx
    exact ⟨sl, (hs.2 b (low b o z)).trans q⟩
  · obtain ⟨o', q⟩ := I.base.there b o z hx
    exact ⟨o', (hs.2 b (low b o z)).trans q⟩
  · have hij : i ≠ j := fun w' => by
      rw [w', List.getElem?_set_self hj'] at e2
      cases e2
    rw [List.getElem?_set_ne (Ne.symm hij)] at e2
    obtain ⟨u', r', q⟩ := look i y v' e1 e2 e3
    refine ⟨u', r', ?_⟩
    rcases q with ⟨k, z⟩ | ⟨k, c', z, w'⟩
    · have : y ≠ n := fun w' => hij (nodup_ix hN e1 (w' ▸ hj))
      exact .inl ⟨k, (if_neg this).trans z⟩
    · exact .inr ⟨k, c', z, w'.sameBut hs (I.cne y c' z)⟩
  · obtain ⟨w', q⟩ := I.cell y c' z
    exact ⟨w', q.sameBut hs (I.cne y c' z)⟩
  · obtain ⟨z, n', ne, nf, d'⟩ := I.pin p' hp
    exact ⟨(hs.2 p'.1 ne).trans z, n', ne, nf, d'⟩
  · refine (I.hok b u z).stay (fun c' v' hc q => (hs.2 c' ?_).trans q) (fun _ q => q) fun _ _ q => q
    intro w'
    rcases hc with rfl | hc
    · rw [w', I.free] at z
      cases z
    · rw [w', I.free] at hc
      cases hc
theorem lands_at {pins : List (Addr × Obj)} {σ : L2.St} {H' : Hp} {s' : Shared} {De : Ends} {x C T : Addr} {dx : Option Addr} {oe : Obj} {h3 : Heap} (ok : X.Ok) (I1 : Inv X pins σ H' s') (ex : H' x = some (exO x C dx false)) (o2 : oe.cls = .ref C) (o3 : oe.dict = dx) (fT : FpOk X pins H' T) (F3 : Fl (frs X.stack) [T] s'.heap x oe (some .none) h3) (L3 : h3.FunFrames X.base (X.env :: X.outer)) (h1 : X.env.scope = sc) (hg : glB sc c = true) (hm : X.mg c = some (.ref D))
    (hN : X.N.Nodup) (hj : X.N[j]? = some n) (hl : X.env.scope.names.lookup n = some .local) (hs : ∀ e, PSs (cxM X e) (b₀ :: suite) (ts e)) (k1 : exmOne X.K (.ref C) (.ref D) = some true) (k2 : ts (.ref x) { nx := fun σ' H'' => De.nx (σ'.set j none) H'', rt := fun _ _ => False } (σ.set j (some (.ref x))) H') :
    wpAny (model X.prog X.w) X.A (handleBy (.ref x) X.env [.ExceptHandler (some (.Name c np)) (some n) (b₀ :: suite) hpos]) (SP X pins De) X.xe { s' with heap := h3 } := by
  have I3 := inv_mark (inv_fl I1 ex o2 o3 fT F3) (.ref x)
  refine wpAny_handleBy_cons (codeAny_handlers_test ?_) (fun z => nomatch z)
  refine ld_glob I3 (glN h1 hg).1 hm ?_ (glN h1 hg).2.1
  obtain ⟨⟨vs3, J3, _, _⟩, _, _⟩ := I3.hok x _ ex
  refine (exm_one I3.kIn (ty_ex J3) k1).here ?_
  refine codeAny_handlers_suite_as ?_
  refine flight_fl (s := { s' with heap := h3 }) F3 L3 fun h4 F4 L4 => ?_
  have I4 := inv_mark (inv_fl I1 ex o2 o3 fT F4) (.ref x)
  refine store_ok (X := cxM X (.ref x)) I4 hN hj (.inl hl) (v := .ref x) rfl (fun s5 I5 => ?_) (.inr hl)
  refine wpAny_mono (hs (.ref x) pins s5 _ H' _ I5 k2) (fun fl s6 z => ?_) fun _ _ z => z.elim
  cases fl with
  | next =>
    obtain ⟨σ', H'', I6, q6⟩ := z
    exact name_goes (inv_unmark ok I6) hN hj hl fun s7 I7 => ⟨_, H'', I7, q6⟩
  | ret v => obtain ⟨_, _, _, _, _, z⟩ := z; exact z.elim
  | brk => obtain ⟨_, _, _, z⟩ := z; exact z.elim
  | cont => obtain ⟨_, _, _, z⟩ := z; exact z.elim
theorem lands {pins : List (Addr × Obj)} {σ : L2.St} {H : Hp} {s s' : Shared} {E : XK} {e : Value} {De : Ends} (I : Inv X pins σ H s) (hx : CXE X.prog X.w X.stack H s E e s') (hst : X.stack = X.env :: X.outer ∧ X.env.frame = some X.env.locals) (h1 : X.env.scope = sc) (hg : glB sc c = true) (hm : X.mg c = some (.ref D))
    (hN : X.N.Nodup) (hj : X.N[j]? = some n) (hl : X.env.scope.names.lookup n = some .local) (hs : ∀ e, PSs (cxM X e) (b₀ :: suite) (ts e))
    (hQ : ∀ x C dx H', E (.ref C) dx H' → H' x = some (exO x C dx false) → exmOne X.K (.ref C) (.ref D) = some true ∧ ts (.ref x) { nx := fun σ' H'' => De.nx (σ'.set j none) H'', rt := fun _ _ => False } (σ.set j (some (.ref x))) H') :
    wpAny (model X.prog X.w) X.A (noteFrame e X.env) (fun _ s₂ => wpAny (model X.prog X.w) X.A (setFlight e none) (fun _ s₃ => wpAny (model X.prog X.w) X.A (handleBy e X.env [.ExceptHandler (some (.Name c np)) (some n) (b₀ :: suite) hpos]) (SP X pins De) X.xe s₃) X.xe s₂) X.xe s' := by
  obtain ⟨x, C, dx, H', vs, ts', T, oe, oT, rfl, os, bare, un, hok, out, ex, ⟨o1, o2, o3, o4, o5, o6⟩, ⟨t1, t2, t3, t4, t5, t6⟩, q⟩ := hx
  obtain ⟨k1, k2⟩ := hQ x C dx H' q ex
  have I1 : Inv X pins σ H' s' := I.call' (ch := []) os un hok bare fun b z => nomatch z
  have fT : FpOk X pins H' T := I.fpOk t2 t3
  have F1 : Fl (frs X.stack) [T] s'.heap x oe (some .none) s'.heap := ⟨Nat.le_refl _, fun _ _ _ _ _ z => z, fun _ o _ _ z => ⟨o.slots, z⟩, vs, by rw [o1, ← o4], o5, (fun z => nomatch z), fun f hf => by
    cases hf
    exact ⟨T, oT, ts', o6, .inr (List.mem_singleton.mpr rfl), t1, t4, t5, t6⟩⟩
  have fr : X.A.frames = some (X.env :: X.outer) := by rw [I.ok.frames, hst.1]
  have S1 : ∀ b ∈ (X.env :: X.outer).filterMap (·.frame), b ∈ frs X.stack := fun b z => by rw [hst.1]; exact z
  have L1 : s'.heap.FunFrames X.base (X.env :: X.outer) := by rw [← hst.1]; exact I1.stack
  refine note_on F1 S1 fr L1 hst.2 fun h2 F2 L2 => ?_
  refine flight_fl (s := { s' with heap := h2 }) F2 L2 fun h3 F3 L3 => ?_
  exact lands_at (s' := s') I.ok I1 ex o2 o3 fT F3 L3 h1 hg hm hN hj hl hs k1 k2
end
end L8
namespace L8
open PySem PySem.Spec PyProof.Rows PySem.W L2 L3 L4
open Sem (wp)
section
variable {X : Cx} {k : Nat} {f : Addr} {fd : FuncData} {ps : List Str} {sp : Sp} {x c n : Str} {p pos cpos apos hpos np vpos : Pos} {e : Expr} {es : List Expr} {t : TA} {b₀ : Stmt} {suite : List Stmt} {ts : Value → TS} {D : Addr} {i j : Nat} {sc : Scope}
theorem run_try {pins : List (Addr × Obj)} {σ : L2.St} {H : Hp} {s : Shared} {Q : VK} {us : List Value} {vs : List V} {E : XK} (F : FnOk X.prog X.w X.K X.mg X.base (CXE X.prog X.w) k f fd ps sp) (hr : Room k X.A) (hb : Binds X.K fd ps []) (I : Inv X pins σ H s) (r : Vals vs us) (h : sp vs H Q E) :
    wpAny (model X.prog X.w) X.A (call (.ref f) us) (EP X pins σ Q) (fun e s' => CXE X.prog X.w X.stack H s E e s') s := by
  have hl : us.length = ps.length := by rw [← r.length]; exact F.len _ _ _ _ h
  have bd := hb s us I.kIn (by rw [List.append_nil]; exact hl)
  rw [List.append_nil] at bd
  refine wpAny_call (codeAny_mono (F.run X.A X.stack s H ⟨us, []⟩ us vs Q E hr I.env0 bd r h) fun r s' hq => ?_)
  cases r with
  | error e => exact hq
  | ok fl =>
    cases fl with
    | ret u => exact I.after hq
    | next => exact False.elim hq
    | brk => exact False.elim hq
    | cont => exact False.elim hq
def Takes (K : Frag) (D : Addr) (j : Nat) (ts : Value → TS) (E : XK) (De : Ends) (σ : L2.St) : Prop := ∀ x C dx H', E (.ref C) dx H' → H' x = some (exO x C dx false) → exmOne K (.ref C) (.ref D) = some true ∧ ts (.ref x) { nx := fun σ' H'' => De.nx (σ'.set j none) H'', rt := fun _ _ => False } (σ.set j (some (.ref x))) H'
def sTryA (K : Frag) (sp : Sp) (D : Addr) (i j : Nat) (t : TA) (ts : Value → TS) : TS := fun De σ H => t σ H fun vs H1 => ∃ E : XK, sp vs H1 (fun v H2 => De.nx (σ.set i (some v)) H2) E ∧ Takes K D j ts E De σ
theorem ps_tryA {tg : Expr} (F : FnOk X.prog X.w X.K X.mg X.base (CXE X.prog X.w) k f fd ps sp) (hr : Room k X.A) (h1 : X.env.scope = sc) (hgf : glB sc x = true) (hmf : X.mg x = some (.ref f)) (hk : keepIn X.K (.ref f) = true) (hb : Binds X.K fd ps []) (ha : ∀ E', PA (X.wish E') (e :: es) t) (ht : ∀ E', PG (X.wish E') tg (gName i))
    (hst : X.stack = X.env :: X.outer ∧ X.env.frame = some X.env.locals) (hg : glB sc c = true) (hm : X.mg c = some (.ref D)) (hN : X.N.Nodup) (hj : X.N[j]? = some n) (hl : X.env.scope.names.lookup n = some .local) (hs : ∀ e, PSs (cxM X e) (b₀ :: suite) (ts e))
    (he : starEach (e :: es) X.env = (false, eval e X.env) :: starEach es X.env := by rfl) (hpl : (backTo cpos (starEach es X.env)).any (·.1) = false := by rfl)
    (hs1 : swapsWithSole [tg] (.Call (.Name x p) (e :: es) [] cpos) apos.line X.env = pure false := by rfl) (hw : swappedStores [tg] (.Call (.Name x p) (e :: es) [] cpos) X.env = pure none := by rfl) (h2 : (assignEach [tg] X.env).map (·.2) = [assign tg X.env] := by rfl) :
    PS X (.Try [.Assign [tg] (.Call (.Name x p) (e :: es) [] cpos) apos] [.ExceptHandler (some (.Name c np)) (some n) (b₀ :: suite) hpos] [] [] pos) (sTryA X.K sp D i j t ts) := by
  intro pins s σ H De I h
  refine wpAny_Try_except (wpAny_execs_cons ?_)
  generalize hE : (fun (e : Value) (s₁ : Shared) => wpAny (model X.prog X.w) X.A (noteFrame e X.env) (fun _ s₂ => wpAny (model X.prog X.w) X.A (setFlight e none) (fun _ s₃ => wpAny (model X.prog X.w) X.A (handleBy e X.env [.ExceptHandler (some (.Name c np)) (some n) (b₀ :: suite) hpos]) (SP X pins De) X.xe s₃) X.xe s₂) X.xe s₁) = E'
  have I' := I.wish E'
  refine wpAny_Assign_stores (wpAny_Call_Name_kw (ld_glob I (glN h1 hgf).1 hmf ?_ (glN h1 hgf).2.1)) hs1 hw
  refine PySem.W.callWith_K (h₀ := X.base) I.ok.mod.kin hk (thn (ha E' cpos pins s σ H _ I' h) fun us s1 ⟨vs, H1, I1, r, E, q1, q2⟩ => ⟨I1.kIn, ?_⟩) he hpl
  refine wpAny_mono (run_try F hr hb I1.unwish r q1) (fun u s2 z => ?_) fun e' s2 z => ?_
  · obtain ⟨v, H2, I2, rv, q⟩ := z
    rw [h2]
    refine thn (ht E' pins s2 σ H2 v u _ (I2.wish E') rv q) fun _ s3 z => ?_
    obtain ⟨σ3, H3, I3, q3⟩ := z
    exact wpAny_execs_nil (wpAny_execs_nil ⟨σ3, H3, I3.unwish, q3⟩)
  · rw [← hE]
    exact lands I1.unwish z hst h1 hg hm hN hj hl hs q2
end
theorem fun_okX {P : Program} {w : World} {K : PySem.W.Frag} {mg : Str → Option Value} {base : Heap} {x qual : Str} {st : Stmt} {f : Addr} {fd : FuncData} {N ps : List Str} {k : Nat} {sp : Sp} (F : Fun K x qual st f fd) (S : FnScope N ps (defScope st)) (len : ∀ vs H Q E, sp vs H Q E → vs.length = ps.length)
    (hbody : ∀ (cdv : Value) (A : Around) (outer : List Env) (s : Shared) (H : Hp) (vs : List V) (Q : VK) (E : XK), Room k (A.deeper (envOfC qual (defScope st) s.heap.objs.size f cdv)) → sp vs H Q E →
      ∃ t, PSs (cxOf (CXE P w) P w K mg base N qual (defScope st) f cdv A outer s H E) (defBody st) t ∧ t { nx := fun _ H' => Q .non H', rt := Q } (start N vs) H) : FnOk P w K mg base (CXE P w) (k + 1) f fd ps sp := by
  obtain ⟨oc, od, kV, doc, pm, an, cdv, ct, osl, rfl, lk, hcd⟩ := F.ex
  exact fn_of lk hcd S len fun A outer s H vs Q E hr hsp => hbody cdv A outer s H vs Q E hr hsp
end L8
namespace L8
open PySem PySem.Spec PySem.W PyProof.Rows L2 L3
theorem Fl.push {S ex : List Addr} {h0 h : Heap} {e : Addr} {oe : Obj} {fl : Option Value} (x : Fl S ex h0 e oe fl h) (o : Obj) : Fl S ex h0 e oe fl (h.push o) where
  size := by rw [Heap.size_push]; exact Nat.le_succ_of_le x.size
  keep := fun b u h1 h2 h3 q => Heap.get?_push_of_some _ (x.keep b u h1 h2 h3 q)
  slot := fun b u h1 h2 q => by
    obtain ⟨sl, z⟩ := x.slot b u h1 h2 q
    exact ⟨sl, Heap.get?_push_of_some _ z⟩
  exc := by
    obtain ⟨vs, z1, z2, z3, z4⟩ := x.exc
    refine ⟨vs, Heap.get?_push_of_some _ z1, z2, z3, fun f hf => ?_⟩
    obtain ⟨T, oT, ts, w1, w2, w3, w4, w5, w6⟩ := z4 f hf
    exact ⟨T, oT, ts, w1, w2, w3, Heap.get?_push_of_some _ w4, w5, w6⟩
section
variable {X : Cx} {sc : Scope} {c n : Str} {D : Addr} {j : Nat} {b₀ : Stmt} {suite : List Stmt} {ts : Value → TS} {np hpos : Pos}
  {c1 c2 c3 c4 : Str} {D1 D2 D3 D4 : Addr} {p1 p2 p3 p4 tpos hpos1 : Pos} {kt : Nat} {b1 : Stmt} {suite1 : List Stmt}
variable {k : Nat} {f : Addr} {fd : FuncData} {ps : List Str} {sp : Sp} {x : Str} {e : Expr} {es : List Expr} {t : TA} {p cpos apos pos : Pos}
theorem passE : Passes (CXE X.prog X.w) X E0 := fun _ _ _ _ _ _ h => by
  intro z
  obtain ⟨x, C, dx, H', vs, ts', T, oe, oT, rfl, os, bare, un, hok, out, ex, o, t, q⟩ := z
  exact q.elim
end
end L8
namespace Att
open PySem PySem.W PySem.Calls PyProof.Rows
end Att
namespace L9
open PySem PySem.Spec PyProof.Rows L2
section
variable {X : Cx}
end
end L9
namespace CF
open PySem L2 L3 L4 CW
inductive Leaf where
  | frm (want : Int) (words : List Str) (level mark worth : Int)
  | off (want : Int) (words : List Str) (mark worth : Int)
def Leaf.words : Leaf → List Str
  | .frm _ ws _ _ _ => ws
  | .off _ ws _ _ => ws
def Leaf.data : Leaf → PyData
  | .frm n ws a b c => .tuple [.str "from", .int n, .list (ws.map .str), .int a, .int b, .int c]
  | .off n ws b c => .tuple [.str "of", .int n, .list (ws.map .str), .int b, .int c]
def Leaf.items : Leaf → V → List V
  | .frm n _ a b c, v => [.str "from", .int n, v, .int a, .int b, .int c]
  | .off n _ b c, v => [.str "of", .int n, v, .int b, .int c]
def Leaf.fits : Leaf → Work → Bool
  | .frm _ ws a b _, w => (decide (ws = []) || ws.contains w.field) && (decide (a ≤ w.level) && decide (b ≤ w.mark))
  | .off _ ws b _, w => ws.contains w.name && decide (b ≤ w.mark)
def Tx (m : Nat) (t : Str) : Prop := (∀ c ∈ cs t, c < 1114112) ∧ t.length ≤ m
theorem Tx.mono {m n : Nat} {t : Str} (h : Tx m t) (hn : m ≤ n) : Tx n t := ⟨h.1, Nat.le_trans h.2 hn⟩
theorem Tx.app {m n : Nat} {s t : Str} (h : Tx m s) (k : Tx n t) : Tx (m + n) (s ++ t) := ⟨fun c hc => by
  rw [cs_app] at hc
  rcases List.mem_append.mp hc with z | z
  · exact h.1 c z
  · exact k.1 c z, by rw [Str.length_append]; exact Nat.add_le_add h.2 k.2⟩
theorem Tx.one {c : Nat} (hc : c < 1114112) : Tx 1 ⟨#[c]⟩ := ⟨fun x hx => by rw [cs_one] at hx; rw [List.mem_singleton.mp hx]; exact hc, Nat.le_refl _⟩
theorem Tx.word {t : Str} (h : isWord t = true) : Tx 12 t := ⟨fun c hc => by have := (isWord_iff.mp h).2.2.2 c hc; omega, (isWord_iff.mp h).2.1⟩
theorem atI_zero {α : Type} {x : α} {xs : List α} : atI (x :: xs) 0 = some x := atI_nat (j := 0) rfl
theorem Leaf.tup {K : PySem.W.Frag} {D : Hp} {x : V} {l : Leaf} (h : DataAt K D x l.data) : ∃ t p, x = .ref t ∧ D t = some (.tup (l.items (.ref p))) ∧ Rd D p (.lst (l.words.map V.str)) := by
  cases l with
  | frm n ws a b c =>
    obtain ⟨t, xs, rfl, e, hA⟩ := DataAt.tup h
    obtain ⟨y1, r1, rfl, h1, hA⟩ := DataAll.uncons hA
    obtain ⟨y2, r2, rfl, h2, hA⟩ := DataAll.uncons hA
    obtain ⟨y3, r3, rfl, h3, hA⟩ := DataAll.uncons hA
    obtain ⟨y4, r4, rfl, h4, hA⟩ := DataAll.uncons hA
    obtain ⟨y5, r5, rfl, h5, hA⟩ := DataAll.uncons hA
    obtain ⟨y6, r6, rfl, h6, hA⟩ := DataAll.uncons hA
    rw [DataAt.str h1, DataAt.int h2, DataAt.int h4, DataAt.int h5, DataAt.int h6, DataAll.none hA] at e
    obtain ⟨p, zs, rfl, hp, hz⟩ := DataAt.lst h3
    rw [DataAll.strs_eq hz] at hp
    exact ⟨t, p, rfl, e, hp⟩
  | off n ws b c =>
    obtain ⟨t, xs, rfl, e, hA⟩ := DataAt.tup h
    obtain ⟨y1, r1, rfl, h1, hA⟩ := DataAll.uncons hA
    obtain ⟨y2, r2, rfl, h2, hA⟩ := DataAll.uncons hA
    obtain ⟨y3, r3, rfl, h3, hA⟩ := DataAll.uncons hA
    obtain ⟨y4, r4, rfl, h4, hA⟩ := DataAll.uncons hA
    obtain ⟨y5, r5, rfl, h5, hA⟩ := DataAll.uncons hA
    rw [DataAt.str h1, DataAt.int h2, DataAt.int h4, DataAt.int h5, DataAll.none hA] at e
    obtain ⟨p, zs, rfl, hp, hz⟩ := DataAt.lst h3
    rw [DataAll.strs_eq hz] at hp
    exact ⟨t, p, rfl, e, hp⟩
theorem Leaf.at_ {K : PySem.W.Frag} {D : Hp} {t p : Addr} {l : Leaf} (e : D t = some (.tup (l.items (.ref p)))) (hp : Rd D p (.lst (l.words.map V.str))) : DataAt K D (.ref t) l.data := by
  have hw : DataAt K D (.ref p) (.list (l.words.map .str)) := by unfold DataAt; exact ⟨p, _, rfl, hp, DataAll.strs _⟩
  cases l with
  | frm n ws a b c => exact DataAt.mkT (DataAll.cons DataAt.ofStr (DataAll.cons DataAt.ofInt (DataAll.cons hw (DataAll.cons DataAt.ofInt (DataAll.cons DataAt.ofInt (DataAll.cons DataAt.ofInt DataAll.nil)))))) e (Same.refl _)
  | off n ws b c => exact DataAt.mkT (DataAll.cons DataAt.ofStr (DataAll.cons DataAt.ofInt (DataAll.cons hw (DataAll.cons DataAt.ofInt (DataAll.cons DataAt.ofInt DataAll.nil))))) e (Same.refl _)
theorem lay_str {m : Nat} {t : Str} (h : Tx m t) : (PyData.str t).canLay0 = true := strOk_small h.1
theorem lay_all : ∀ {ds : List PyData}, (∀ d ∈ ds, d.canLay0 = true) → PyData.canLayAll0 ds = true
  | [], _ => rfl
  | d :: r, h => by
    show (PyData.canLay0 d && PyData.canLayAll0 r) = true
    rw [h d (List.mem_cons_self ..), lay_all fun x hx => h x (List.mem_cons_of_mem _ hx)]
    rfl
theorem lay_strs {ss : List Str} (h : ∀ t ∈ ss, Tx 24 t) : PyData.canLayAll0 (ss.map .str) = true := lay_all fun d hd => by
  obtain ⟨t, ht, rfl⟩ := List.mem_map.mp hd
  exact lay_str (h t ht)
def Leaf.Lay (l : Leaf) : Prop := ∀ t ∈ l.words, Tx 24 t
theorem tx_from : Tx 24 "from" := ⟨by decide +kernel, by decide +kernel⟩
theorem tx_of : Tx 24 "of" := ⟨by decide +kernel, by decide +kernel⟩
theorem Leaf.canLay {l : Leaf} (h : l.Lay) : l.data.canLay0 = true := by
  cases l with
  | frm n ws a b c =>
    refine lay_all (ds := [.str "from", .int n, .list (ws.map .str), .int a, .int b, .int c]) fun d hd => ?_
    simp only [List.mem_cons, List.not_mem_nil, or_false] at hd
    rcases hd with rfl | rfl | rfl | rfl | rfl | rfl
    · exact lay_str tx_from
    · rfl
    · exact lay_strs h
    · rfl
    · rfl
    · rfl
  | off n ws b c =>
    refine lay_all (ds := [.str "of", .int n, .list (ws.map .str), .int b, .int c]) fun d hd => ?_
    simp only [List.mem_cons, List.not_mem_nil, or_false] at hd
    rcases hd with rfl | rfl | rfl | rfl | rfl
    · exact lay_str tx_of
    · rfl
    · exact lay_strs h
    · rfl
    · rfl
theorem depth_strs : ∀ ss : List Str, PyData.depthAll (ss.map .str) = 0
  | [] => rfl
  | _ :: r => by
    show max 0 (PyData.depthAll (r.map .str)) = 0
    rw [depth_strs r]
    rfl
theorem Leaf.depth (l : Leaf) : l.data.depth ≤ 2 := by
  cases l with
  | frm n ws a b c =>
    show max 0 (max 0 (max (PyData.depthAll (ws.map .str) + 1) _)) + 1 ≤ 2
    rw [depth_strs]
    exact Nat.le_refl 2
  | off n ws b c =>
    show max 0 (max 0 (max (PyData.depthAll (ws.map .str) + 1) _)) + 1 ≤ 2
    rw [depth_strs]
    exact Nat.le_refl 2
def Leaf.hd : Leaf → List V
  | .frm n _ _ _ _ => [.str "from", .int n]
  | .off n _ _ _ => [.str "of", .int n]
def Leaf.tl : Leaf → List V
  | .frm _ _ a b c => [.int a, .int b, .int c]
  | .off _ _ b c => [.int b, .int c]
theorem Leaf.cut2 (l : Leaf) (v : V) : cutV (l.items v) none (some 2) = l.hd := by cases l <;> rfl
theorem Leaf.cut3 (l : Leaf) (v : V) : cutV (l.items v) (some 3) none = l.tl := by cases l <;> rfl
theorem Leaf.nw2 (l : Leaf) (v : V) : ¬ (HT.sIx (l.items v).length 0 none = 0 ∧ HT.sIx (l.items v).length (l.items v).length (some 2) = (l.items v).length) := by
  cases l with
  | frm n ws a b c => exact fun z => absurd z.2 (by show ¬ (2 = 6); decide)
  | off n ws b c => exact fun z => absurd z.2 (by show ¬ (2 = 5); decide)
theorem Leaf.nw3 (l : Leaf) (v : V) : ¬ (HT.sIx (l.items v).length 0 (some 3) = 0 ∧ HT.sIx (l.items v).length (l.items v).length none = (l.items v).length) := by cases l <;> exact fun z => absurd z.1 (by show ¬ (3 = 0); decide)
theorem Leaf.glue (l : Leaf) (v : V) : l.hd ++ [v] ++ l.tl = l.items v := by cases l <;> rfl
theorem Leaf.hd_ne (l : Leaf) : l.hd ≠ [] := by cases l <;> exact fun z => nomatch z
theorem Leaf.tl_ne (l : Leaf) : l.tl ≠ [] := by cases l <;> exact fun z => nomatch z
theorem Leaf.hd_len (l : Leaf) : l.hd.length = 2 := by cases l <;> rfl
theorem Leaf.tl_len (l : Leaf) : l.tl.length ≤ 3 := by
  cases l with
  | frm n ws a b c => exact Nat.le_refl 3
  | off n ws b c => exact Nat.le_succ 2
theorem Leaf.at2 (l : Leaf) (v : V) : atI (l.items v) 2 = some v := by cases l <;> rfl
end CF
namespace CF
open PySem L2 L3 L4 CW
inductive Rule where
  | leaf (l : Leaf)
  | allr (rs : List Rule)
  | somr (n : Int) (rs : List Rule)
mutual
def Rule.data : Rule → PyData
  | .leaf l => l.data
  | .allr rs => .tuple [.str "all", .list (Rule.datas rs)]
  | .somr n rs => .tuple [.str "some", .int n, .list (Rule.datas rs)]
def Rule.datas : List Rule → List PyData
  | [] => []
  | r :: rs => r.data :: Rule.datas rs
end
theorem Rule.datas_map : ∀ rs : List Rule, Rule.datas rs = rs.map Rule.data
  | [] => by unfold Rule.datas; rfl
  | r :: rs => by unfold Rule.datas; rw [Rule.datas_map rs]; rfl
mutual
def Rule.depth : Rule → Nat
  | .leaf _ => 0
  | .allr rs => Rule.depths rs + 1
  | .somr _ rs => Rule.depths rs + 1
def Rule.depths : List Rule → Nat
  | [] => 0
  | r :: rs => max r.depth (Rule.depths rs)
end
theorem Rule.depths_mem {r : Rule} : ∀ {rs : List Rule}, r ∈ rs → r.depth ≤ Rule.depths rs
  | x :: rs, h => by
    unfold Rule.depths
    rcases List.mem_cons.mp h with rfl | h
    · exact Nat.le_max_left _ _
    · exact Nat.le_trans (Rule.depths_mem h) (Nat.le_max_right _ _)
theorem Rule.depths_le {n : Nat} : ∀ {rs : List Rule}, (∀ r ∈ rs, r.depth ≤ n) → Rule.depths rs ≤ n
  | [], _ => by unfold Rule.depths; exact Nat.zero_le _
  | r :: rs, h => by
    unfold Rule.depths
    exact Nat.max_le.mpr ⟨h r (List.mem_cons_self ..), Rule.depths_le fun x hx => h x (List.mem_cons_of_mem _ hx)⟩
mutual
def Rule.leaves : Rule → List Leaf
  | .leaf l => [l]
  | .allr rs => Rule.leavess rs
  | .somr _ rs => Rule.leavess rs
def Rule.leavess : List Rule → List Leaf
  | [] => []
  | r :: rs => r.leaves ++ Rule.leavess rs
end
theorem Rule.leavess_nil : Rule.leavess [] = [] := by simp only [Rule.leavess]
theorem Rule.leavess_cons (r : Rule) (rs : List Rule) : Rule.leavess (r :: rs) = r.leaves ++ Rule.leavess rs := by simp only [Rule.leavess]
theorem Rule.leavess_app : ∀ rs ss : List Rule, Rule.leavess (rs ++ ss) = Rule.leavess rs ++ Rule.leavess ss
  | [], ss => by rw [List.nil_append, Rule.leavess_nil, List.nil_append]
  | r :: rs, ss => by rw [List.cons_append, Rule.leavess_cons, Rule.leavess_app rs ss, Rule.leavess_cons, List.append_assoc]
theorem Rule.leavess_one (r : Rule) : Rule.leavess [r] = r.leaves := by rw [Rule.leavess_cons, Rule.leavess_nil, List.append_nil]
def Rule.rules : Rule → List Rule
  | .leaf _ => []
  | .allr rs => rs
  | .somr _ rs => rs
def Rule.head : Rule → List V
  | .leaf _ => []
  | .allr _ => [.str "all"]
  | .somr n _ => [.str "some", .int n]
def Rule.isLeaf : Rule → Bool
  | .leaf _ => true
  | _ => false
def WordsOk (ws : List Str) : Prop := (∀ t ∈ ws, isWord t = true) ∧ ws.Nodup ∧ ws.length ≤ 8
def Leaf.Good : Leaf → Prop
  | .frm n ws a b c => WordsOk ws ∧ (0 ≤ n ∧ n ≤ 60) ∧ (0 ≤ a ∧ a < 10 ^ 60) ∧ (0 ≤ b ∧ b < 10 ^ 60) ∧ 1 ≤ c ∧ c ≤ 9
  | .off n ws b c => WordsOk ws ∧ ws ≠ [] ∧ (0 ≤ n ∧ n ≤ 60) ∧ (0 ≤ b ∧ b < 10 ^ 60) ∧ 1 ≤ c ∧ c ≤ 9
mutual
def Rule.Good : Rule → Prop
  | .leaf l => l.Good
  | .allr rs => rs ≠ [] ∧ rs.length ≤ 16 ∧ Rule.Goods rs
  | .somr n rs => (1 ≤ n ∧ n ≤ rs.length) ∧ rs.length ≤ 16 ∧ Rule.Goods rs
def Rule.Goods : List Rule → Prop
  | [] => True
  | r :: rs => r.Good ∧ Rule.Goods rs
end
theorem Rule.goods_iff : ∀ {rs : List Rule}, Rule.Goods rs ↔ ∀ r ∈ rs, r.Good
  | [] => by unfold Rule.Goods; exact ⟨fun _ r h => (nomatch h), fun _ => trivial⟩
  | r :: rs => by
    unfold Rule.Goods
    rw [Rule.goods_iff (rs := rs)]
    exact ⟨fun h x hx => (List.mem_cons.mp hx).elim (fun e => e ▸ h.1) (h.2 x), fun h => ⟨h r (List.mem_cons_self ..), fun x hx => h x (List.mem_cons_of_mem _ hx)⟩⟩
theorem Leaf.Good.lay {l : Leaf} (h : l.Good) : l.Lay := by
  cases l with
  | frm n ws a b c => exact fun t ht => (Tx.word (h.1.1 t ht)).mono (by decide)
  | off n ws b c => exact fun t ht => (Tx.word (h.1.1 t ht)).mono (by decide)
theorem tx_all : Tx 24 "all" := ⟨by decide +kernel, by decide +kernel⟩
theorem tx_some : Tx 24 "some" := ⟨by decide +kernel, by decide +kernel⟩
mutual
theorem Rule.canLay : ∀ {r : Rule}, r.Good → r.data.canLay0 = true
  | .leaf l, h => by unfold Rule.data; unfold Rule.Good at h; exact Leaf.canLay h.lay
  | .allr rs, h => by
    unfold Rule.data
    unfold Rule.Good at h
    have e := Rule.canLays h.2.2
    refine lay_all (ds := [.str "all", .list (Rule.datas rs)]) fun d hd => ?_
    simp only [List.mem_cons, List.not_mem_nil, or_false] at hd
    rcases hd with rfl | rfl
    · exact lay_str tx_all
    · exact e
  | .somr n rs, h => by
    unfold Rule.data
    unfold Rule.Good at h
    have e := Rule.canLays h.2.2
    refine lay_all (ds := [.str "some", .int n, .list (Rule.datas rs)]) fun d hd => ?_
    simp only [List.mem_cons, List.not_mem_nil, or_false] at hd
    rcases hd with rfl | rfl | rfl
    · exact lay_str tx_some
    · rfl
    · exact e
theorem Rule.canLays : ∀ {rs : List Rule}, Rule.Goods rs → PyData.canLayAll0 (Rule.datas rs) = true
  | [], _ => by unfold Rule.datas; rfl
  | r :: rs, h => by
    unfold Rule.datas
    unfold Rule.Goods at h
    show (PyData.canLay0 r.data && PyData.canLayAll0 (Rule.datas rs)) = true
    rw [Rule.canLay h.1, Rule.canLays h.2]
    rfl
end
mutual
theorem Rule.data_depth : ∀ r : Rule, r.data.depth ≤ 2 * r.depth + 2
  | .leaf l => by unfold Rule.data; have := Leaf.depth l; omega
  | .allr rs => by
    unfold Rule.data Rule.depth
    have := Rule.datas_depth rs
    show max 0 (max (PyData.depthAll (Rule.datas rs) + 1) 0) + 1 ≤ _
    omega
  | .somr n rs => by
    unfold Rule.data Rule.depth
    have := Rule.datas_depth rs
    show max 0 (max 0 (max (PyData.depthAll (Rule.datas rs) + 1) 0)) + 1 ≤ _
    omega
theorem Rule.datas_depth : ∀ rs : List Rule, PyData.depthAll (Rule.datas rs) ≤ 2 * Rule.depths rs + 2
  | [] => by unfold Rule.datas; exact Nat.zero_le _
  | r :: rs => by
    unfold Rule.datas Rule.depths
    have h1 := Rule.data_depth r
    have h2 := Rule.datas_depth rs
    show max r.data.depth (PyData.depthAll (Rule.datas rs)) ≤ _
    omega
end
theorem Rule.grp {K : PySem.W.Frag} {D : Hp} {x : V} {r : Rule} (h : DataAt K D x r.data) (hr : r.isLeaf = false) : ∃ t p xs, x = .ref t ∧ D t = some (.tup (r.head ++ [.ref p])) ∧ Rd D p (.lst xs) ∧ DataAll K D xs (Rule.datas r.rules) := by
  cases r with
  | leaf l => cases hr
  | allr rs =>
    unfold Rule.data at h
    obtain ⟨t, xs, rfl, e, hA⟩ := DataAt.tup h
    obtain ⟨y1, r1, rfl, h1, hA⟩ := DataAll.uncons hA
    obtain ⟨y2, r2, rfl, h2, hA⟩ := DataAll.uncons hA
    rw [DataAt.str h1, DataAll.none hA] at e
    obtain ⟨p, zs, rfl, hp, hz⟩ := DataAt.lst h2
    exact ⟨t, p, zs, rfl, e, hp, hz⟩
  | somr n rs =>
    unfold Rule.data at h
    obtain ⟨t, xs, rfl, e, hA⟩ := DataAt.tup h
    obtain ⟨y1, r1, rfl, h1, hA⟩ := DataAll.uncons hA
    obtain ⟨y2, r2, rfl, h2, hA⟩ := DataAll.uncons hA
    obtain ⟨y3, r3, rfl, h3, hA⟩ := DataAll.uncons hA
    rw [DataAt.str h1, DataAt.int h2, DataAll.none hA] at e
    obtain ⟨p, zs, rfl, hp, hz⟩ := DataAt.lst h3
    exact ⟨t, p, zs, rfl, e, hp, hz⟩
theorem Rule.grpAt {K : PySem.W.Frag} {D : Hp} {t p : Addr} {xs : List V} {r : Rule} (hr : r.isLeaf = false) (e : D t = some (.tup (r.head ++ [.ref p]))) (hp : Rd D p (.lst xs)) (hx : DataAll K D xs (Rule.datas r.rules)) : DataAt K D (.ref t) r.data := by
  have hw : DataAt K D (.ref p) (.list (Rule.datas r.rules)) := by unfold DataAt; exact ⟨p, _, rfl, hp, hx⟩
  cases r with
  | leaf l => cases hr
  | allr rs => unfold Rule.data; exact DataAt.mkT (DataAll.cons DataAt.ofStr (DataAll.cons hw DataAll.nil)) e (Same.refl _)
  | somr n rs => unfold Rule.data; exact DataAt.mkT (DataAll.cons DataAt.ofStr (DataAll.cons DataAt.ofInt (DataAll.cons hw DataAll.nil))) e (Same.refl _)
def Rule.kind : Rule → Str
  | .leaf (.frm ..) => "from"
  | .leaf (.off ..) => "of"
  | .allr _ => "all"
  | .somr .. => "some"
theorem Rule.tup {K : PySem.W.Frag} {D : Hp} {x : V} {r : Rule} (h : DataAt K D x r.data) : ∃ t ys, x = .ref t ∧ D t = some (.tup (.str r.kind :: ys)) := by
  cases r with
  | leaf l =>
    unfold Rule.data at h
    obtain ⟨t, p, rfl, et, _⟩ := Leaf.tup h
    cases l with
    | frm n ws a b c => exact ⟨t, _, rfl, et⟩
    | off n ws b c => exact ⟨t, _, rfl, et⟩
  | allr rs =>
    obtain ⟨t, p, xs, rfl, e, _⟩ := Rule.grp h rfl
    exact ⟨t, _, rfl, e⟩
  | somr n rs =>
    obtain ⟨t, p, xs, rfl, e, _⟩ := Rule.grp h rfl
    exact ⟨t, _, rfl, e⟩
theorem kinds_ne : ("all" : Str) ≠ "from" ∧ ("all" : Str) ≠ "of" ∧ ("some" : Str) ≠ "from" ∧ ("some" : Str) ≠ "of" ∧ ("of" : Str) ≠ "from" ∧ ("some" : Str) ≠ "all" := by decide +kernel
theorem Rule.isLeaf_kind (r : Rule) : (decide (r.kind = "from") || decide (r.kind = "of")) = r.isLeaf := by
  obtain ⟨k1, k2, k3, k4, k5, _⟩ := kinds_ne
  cases r with
  | leaf l => cases l with
    | frm n ws a b c => rfl
    | off n ws b c => show (decide (("of" : Str) = "from") || decide (("of" : Str) = "of")) = true; rw [decide_eq_true rfl, Bool.or_true]
  | allr rs => show (decide (("all" : Str) = "from") || decide (("all" : Str) = "of")) = false; rw [decide_eq_false k1, decide_eq_false k2]; rfl
  | somr n rs => show (decide (("some" : Str) = "from") || decide (("some" : Str) = "of")) = false; rw [decide_eq_false k3, decide_eq_false k4]; rfl
structure Course where
  oftens : List (Str × Int)
  rule : Rule
def oftD (p : Str × Int) : PyData := .tuple [.str p.1, .int p.2]
def Course.data (c : Course) : PyData := .tuple [.list (c.oftens.map oftD), c.rule.data]
structure Course.Good (c : Course) : Prop where
  words : ∀ p ∈ c.oftens, isWord p.1 = true
  nums : ∀ p ∈ c.oftens, 1 ≤ p.2 ∧ p.2 ≤ 9
  nodup : (c.oftens.map (·.1)).Nodup
  few : c.oftens.length ≤ 16
  rule : c.rule.Good
  deep : c.rule.depth ≤ 6
  leaves : c.rule.leaves.length ≤ 16
theorem oft_lay {p : Str × Int} (h : isWord p.1 = true) : (oftD p).canLay0 = true := by
  refine lay_all (ds := [.str p.1, .int p.2]) fun d hd => ?_
  simp only [List.mem_cons, List.not_mem_nil, or_false] at hd
  rcases hd with rfl | rfl
  · exact lay_str (Tx.word h)
  · rfl
theorem Course.Good.lay {c : Course} (h : c.Good) : c.data.canLay0 = true := by
  refine lay_all (ds := [.list (c.oftens.map oftD), c.rule.data]) fun d hd => ?_
  simp only [List.mem_cons, List.not_mem_nil, or_false] at hd
  rcases hd with rfl | rfl
  · exact lay_all fun d hd => by
      obtain ⟨p, hp, rfl⟩ := List.mem_map.mp hd
      exact oft_lay (h.words p hp)
  · exact Rule.canLay h.rule
theorem oft_depth : ∀ l : List (Str × Int), PyData.depthAll (l.map oftD) ≤ 1
  | [] => by decide
  | p :: r => by
    have := oft_depth r
    show max 1 (PyData.depthAll (r.map oftD)) ≤ 1
    omega
theorem Course.Good.depth {c : Course} (h : c.Good) : c.data.depth ≤ 15 := by
  have h1 := oft_depth c.oftens
  have h2 := Rule.data_depth c.rule
  have h3 := h.deep
  show max (PyData.depthAll (c.oftens.map oftD) + 1) (max c.rule.data.depth 0) + 1 ≤ 15
  omega
def LeafVs (D H : Hp) : List V → List Leaf → Prop
  | [], [] => True
  | x :: xs, l :: ls => (∃ t q, x = .ref t ∧ D t = some (.tup (l.items (.ref q))) ∧ D q = some (.lst (l.words.map V.str)) ∧ H t = none ∧ H q = none) ∧ LeafVs D H xs ls
  | _, _ => False
theorem LeafVs.app {D H : Hp} : ∀ {xs ys : List V} {ls ms : List Leaf}, LeafVs D H xs ls → LeafVs D H ys ms → LeafVs D H (xs ++ ys) (ls ++ ms)
  | [], _, [], _, _, h => h
  | [], _, _ :: _, _, h, _ => h.elim
  | _ :: _, _, [], _, h, _ => h.elim
  | x :: xs, ys, l :: ls, ms, h, k => ⟨h.1, LeafVs.app h.2 k⟩
theorem LeafVs.mono {D D' H H' : Hp} (d : Same D D') (hh : Same H' H) : ∀ {xs : List V} {ls : List Leaf}, LeafVs D H xs ls → LeafVs D' H' xs ls
  | [], [], _ => trivial
  | [], _ :: _, h => h.elim
  | _ :: _, [], h => h.elim
  | x :: xs, l :: ls, ⟨⟨t, q, e, e1, e2, n1, n2⟩, k⟩ => ⟨⟨t, q, e, d _ _ e1, d _ _ e2, hh.free n1, hh.free n2⟩, LeafVs.mono d hh k⟩
theorem LeafVs.data {K : PySem.W.Frag} {D H : Hp} : ∀ {xs : List V} {ls : List Leaf}, LeafVs D H xs ls → DataAll K D xs (ls.map Leaf.data)
  | [], [], _ => DataAll.nil
  | [], _ :: _, h => h.elim
  | _ :: _, [], h => h.elim
  | x :: xs, l :: ls, ⟨⟨t, q, e, e1, e2, n1, n2⟩, k⟩ => by subst e; exact DataAll.cons (Leaf.at_ e1 (.inl e2)) (LeafVs.data k)
theorem LeafVs.length {D H : Hp} : ∀ {xs : List V} {ls : List Leaf}, LeafVs D H xs ls → xs.length = ls.length
  | [], [], _ => rfl
  | [], _ :: _, h => h.elim
  | _ :: _, [], h => h.elim
  | x :: xs, l :: ls, h => congrArg (· + 1) (LeafVs.length h.2)
end CF
namespace L3
open PySem PySem.Spec PyProof.Rows L2
section
variable {X : Cx}
end
end L3
namespace CG
theorem take_succ {α : Type} {l : List α} {i : Nat} {x : α} (h : l[i]? = some x) : l.take (i + 1) = l.take i ++ [x] := by
  rw [List.take_succ, h]
  rfl
theorem filterMap_some {α β : Type} {f : α → Option β} {g : α → β} : ∀ {l : List α}, (∀ i ∈ l, f i = some (g i)) → l.filterMap f = l.map g
  | [], _ => rfl
  | a :: r, h => by
    rw [List.filterMap_cons, h a (List.mem_cons_self), List.map_cons]
    exact congrArg (_ :: ·) (filterMap_some fun i hi => h i (List.mem_cons_of_mem _ hi))
structure Good (most : Nat) (ws os ms : List Nat) : Prop where
  len : ws.length = ms.length
  one : 1 ≤ ws.length
  six : ws.length ≤ 6
  many : os.length ≤ most
  wl : ∀ w ∈ ws, w ≤ 60
  wt : ∀ (k w : Nat), ws[k]? = some w → 1 ≤ k → w ≤ 3
  ol : ∀ o ∈ os, 1 ≤ o ∧ o ≤ 9
  ml : ∀ m ∈ ms, m < 2 ^ os.length
end CG
namespace L7
open PySem PySem.Spec PyProof.Rows L2 L3 L4 L6
section
variable {X : Cx}
theorem call_maxL (hc : X.calm = true) : CallR X (.builtin "max") (fun xs H Q => ∃ (p : Addr) (ns : List Int), xs = [.ref p] ∧ SqL X.K H p (ns.map V.int) ∧ ns ≠ [] ∧ ∀ m, m ∈ ns → (∀ x ∈ ns, x ≤ m) → Q (.int m) H) := by
  intro pins s σ H xs us Q I r h
  obtain ⟨p, ns, rfl, hq, hne, q⟩ := h
  obtain ⟨u, rfl, rx⟩ := vals1 r
  cases rx
  obtain ⟨its, rv, pl, hz⟩ := I.list hq
  have hl := rv.length
  rw [List.length_map] at hl
  have hpos : 0 < ns.length := List.length_pos_iff.mpr hne
  refine call_max_walk (wpAny_pyIter_list pl.isList ?_)
  have hp : p < s.heap.objs.size := by obtain ⟨o, n, e, _⟩ := pl; exact Heap.lt_size e
  have hval : ∀ (i : Nat) (v : Value), its.toArray[i]? = some v → ∃ t : Tok, v = Value.int (ns.getD i 0) t := fun i v hv => by
    have hv' : its[i]? = some v := by simpa using hv
    have hi : i < its.length := (List.getElem?_eq_some_iff.mp hv').1
    obtain ⟨u', e1, t, e2⟩ := rv.get (x := V.int (ns[i]'(by omega))) (i := i) (by rw [List.getElem?_map, List.getElem?_eq_getElem (by omega)]; rfl)
    rw [hv'] at e1
    cases e1
    refine ⟨t, ?_⟩
    rw [e2]
    show _ = Value.int (ns.getD i 0) t
    rw [List.getD_eq_getElem?_getD, List.getElem?_eq_getElem (by omega)]; rfl
  refine ⟨s.heap.objs.size, _, _, its.toArray.size, _, _, fun i j => decide (ns.getD i 0 > ns.getD j 0), rfl, Walks.list (by show X.A.handled = none; exact I.ok.hd hc) s.heap.objs.size p (Nat.ne_of_lt hp) its.toArray,
    ⟨⟨_, Heap.get?_push_size _ rfl, rfl, rfl⟩, pl.isList.push _⟩, fun b hb => ?_, by rw [List.size_toArray]; omega, CmpOf.ints_gt (fun i => ns.getD i 0) hval, fun v h' tk hP hk => ?_⟩
  · show b < (s.heap.push _).objs.size
    rw [Heap.size_push]
    rcases List.mem_cons.mp hb with e | hb
    · rw [e]; exact Nat.lt_succ_self _
    · rw [List.mem_singleton.mp hb]; exact Nat.lt_succ_of_lt hp
  · obtain ⟨t, rfl⟩ := hval _ _ hP
    obtain ⟨h1, h2⟩ := argBest_gt (fun i => ns.getD i 0) (its.toArray.size - 1)
    rw [List.size_toArray] at h1 h2
    have hk' : ∀ b o, s.heap.get? b = some o → h'.get? b = some o := fun b o e =>
      hk b o (fun z => absurd (Heap.lt_size e) (by rw [List.mem_singleton.mp z]; exact Nat.lt_irrefl _)) (Heap.get?_push_of_some _ e)
    rw [List.size_toArray] at hP ⊢
    generalize argBest (fun i j => decide (ns.getD i 0 > ns.getD j 0)) (its.length - 1) = b at h1 h2 ⊢
    have hb : b < ns.length := by omega
    have eb : ns.getD b 0 = ns[b] := by rw [List.getD_eq_getElem?_getD, List.getElem?_eq_getElem hb]; rfl
    refine ⟨.int (ns.getD b 0), H, I.kept (t' := tk) hk', ⟨_, rfl⟩, q _ (eb ▸ List.getElem_mem hb) fun x hx => ?_⟩
    obtain ⟨j, hj, rfl⟩ := List.getElem_of_mem hx
    have := h2 j (by omega)
    rw [List.getD_eq_getElem?_getD, List.getElem?_eq_getElem hj] at this
    exact this
end
end L7
namespace L3
open PySem PySem.Spec PyProof.Rows L2 L3
theorem comp_idx {J : It} {xs : List V} {P : Hp → Prop} {D : Addr} {g : TG} {tc : TT} {te : TE} {Q : Hp → Prop} {σ : L2.St} {H : Hp} (hD : H D = none) (Y : Yields J xs P) (S : L2.St → Prop) (zs : List V) (hlz : zs.length = xs.length) (h0 : S σ) (hP : ∀ H', Same H H' → P H') (hz : xs.length < sizeLine)
    (step : ∀ (i : Nat) (x z : V) (σ : L2.St) (H' : Hp) (R1 : L2.St → V → Hp → Prop) (R0 : L2.St → Hp → Prop), xs[i]? = some x → zs[i]? = some z → S σ → Same H H' → (∀ σ2 H4, S σ2 → Same H' H4 → R1 σ2 z H4) →
      g x σ H' fun σ2 H2 => tc σ2 H2 fun b H3 => if b = true then te σ2 H3 fun y H4 => R1 σ2 y H4 else R0 σ2 H3)
    (hq : ∀ H', Same H H' → H' D = some (.lst zs) → Q H') : ∃ W : Nat → Nat → List V → L2.St → Hp → Prop, (∃ m, W 0 m [] σ (upd H D (.lst []))) ∧ CompW D J g tc te Q W := by
  have up : ∀ {H' : Hp} {o : HO}, Same H H' → Same H (upd H' D o) := fun {H' o} s b ob e => by
    rw [upd_ne (ne_of_none e hD)]
    exact s b ob e
  refine comp_inv Y (fun i ys σ H' => Same H H' ∧ H' D = some (.lst ys) ∧ ys = zs.take i ∧ S σ) ⟨up (Same.refl H), upd_same, by simp, h0⟩ (fun i ys σ H' ⟨s, e, e2, _⟩ => ⟨hP H' s, e, ?_⟩) hz (fun i x ys σ H' hx ⟨s, e, e2, hS⟩ => ?_) fun ys σ H' ⟨s, e, e2, _⟩ => ?_
  · rw [e2, List.length_take]
    omega
  · have hi : i < xs.length := (List.getElem?_eq_some_iff.mp hx).1
    have hi' : i < zs.length := by omega
    have ez : zs[i]? = some zs[i] := List.getElem?_eq_getElem hi'
    refine step i x zs[i] σ H' (fun σ2 y H4 => H4 D = some (.lst ys) ∧ Same H (upd H4 D (.lst (ys ++ [y]))) ∧ upd H4 D (.lst (ys ++ [y])) D = some (.lst (ys ++ [y])) ∧ ys ++ [y] = zs.take (i + 1) ∧ S σ2) _ hx ez hS s (fun σ2 H4 h2 s4 => ⟨s4 _ _ e, up (s.trans s4), upd_same, ?_, h2⟩)
    rw [List.take_succ, ez, e2]
    rfl
  · refine hq H' s ?_
    rw [e, e2, ← hlz, List.take_length]
end L3
namespace L3
open PySem PySem.Spec PyProof.Rows L2 L3
end L3
namespace CH
open CF
def stepE (f : Nat → Nat) (x : Nat) : Nat → Nat
  | 0 => 1
  | k + 1 => f (k + 1) + x * f k
def e0 : Nat → Nat
  | 0 => 1
  | _ + 1 => 0
def esym (xs : List Nat) : Nat → Nat := xs.foldl stepE e0
def prodP (xs : List Nat) : Nat := xs.foldl (fun p x => (1 + x) * p) 1
theorem esym_snoc (xs : List Nat) (x k : Nat) : esym (xs ++ [x]) (k + 1) = esym xs (k + 1) + x * esym xs k := by
  unfold esym
  rw [List.foldl_append]
  rfl
theorem esym_zero (xs : List Nat) : esym xs 0 = 1 := by
  have : ∀ (xs : List Nat) (f : Nat → Nat), f 0 = 1 → (xs.foldl stepE f) 0 = 1 := by
    intro xs
    induction xs with
    | nil => exact fun f h => h
    | cons x r ih => exact fun f h => ih _ rfl
  exact this xs e0 rfl
theorem esym_big (xs : List Nat) : ∀ k, xs.length < k → esym xs k = 0 := by
  have : ∀ (xs : List Nat) (f : Nat → Nat) (n : Nat), (∀ k, n < k → f k = 0) → ∀ k, n + xs.length < k → (xs.foldl stepE f) k = 0 := by
    intro xs
    induction xs with
    | nil => exact fun f n h k hk => h k hk
    | cons x r ih =>
      intro f n h k hk
      refine ih (stepE f x) (n + 1) (fun k hk => ?_) k (by rw [List.length_cons] at hk; omega)
      cases k with
      | zero => omega
      | succ k =>
        show f (k + 1) + x * f k = 0
        rw [h (k + 1) (by omega), h k (by omega)]
        rfl
  exact fun k hk => this xs e0 0 (fun k hk => by cases k with | zero => omega | succ k => rfl) k (by omega)
theorem esym_le (xs : List Nat) : ∀ k, esym xs (k + 1) + 1 ≤ prodP xs := by
  have : ∀ (xs : List Nat) (f : Nat → Nat) (P : Nat), f 0 = 1 → 1 ≤ P → (∀ k, f (k + 1) + 1 ≤ P) → ∀ k, (xs.foldl stepE f) (k + 1) + 1 ≤ xs.foldl (fun p x => (1 + x) * p) P := by
    intro xs
    induction xs with
    | nil => exact fun f P _ _ h => h
    | cons x r ih =>
      intro f P h0 h1 h
      refine ih (stepE f x) ((1 + x) * P) rfl ?_ fun k => ?_
      · rw [Nat.add_mul]; omega
      · show f (k + 1) + x * f k + 1 ≤ (1 + x) * P
        have hk : f k ≤ P := by
          cases k with
          | zero => omega
          | succ k => have := h k; omega
        have := h k
        have := Nat.mul_le_mul_left x hk
        rw [Nat.add_mul, Nat.one_mul]
        omega
  exact this xs e0 1 rfl (Nat.le_refl _) fun k => Nat.le_refl _
theorem prodP_cons (x : Nat) (xs : List Nat) : prodP (x :: xs) = (1 + x) * prodP xs := by
  have : ∀ (xs : List Nat) (P : Nat), xs.foldl (fun p x => (1 + x) * p) P = P * prodP xs := by
    intro xs
    unfold prodP
    induction xs with
    | nil => exact fun P => (Nat.mul_one P).symm
    | cons y r ih =>
      intro P
      rw [List.foldl_cons, List.foldl_cons, ih, ih ((1 + y) * 1), Nat.mul_one, Nat.mul_comm (1 + y) P, Nat.mul_assoc]
  show xs.foldl (fun p x => (1 + x) * p) ((1 + x) * 1) = _
  rw [this, Nat.mul_one]
mutual
def Rule.count : Rule → Nat
  | .leaf _ => 1
  | .allr rs => esym (Rule.counts rs) rs.length
  | .somr n rs => esym (Rule.counts rs) n.toNat
def Rule.counts : List Rule → List Nat
  | [] => []
  | r :: rs => Rule.count r :: Rule.counts rs
end
theorem counts_map : ∀ rs : List Rule, Rule.counts rs = rs.map Rule.count
  | [] => by unfold Rule.counts; rfl
  | r :: rs => by unfold Rule.counts; rw [counts_map rs]; rfl
mutual
theorem count_le : ∀ {r : Rule}, r.Good → Rule.count r + 1 ≤ 2 ^ r.leaves.length
  | .leaf l, _ => by unfold Rule.count Rule.leaves; exact Nat.le_refl 2
  | .allr rs, h => by
    unfold Rule.Good at h
    unfold Rule.count Rule.leaves
    have hp := counts_le h.2.2
    have h0 : rs.length ≠ 0 := fun z => h.1 (List.eq_nil_of_length_eq_zero z)
    obtain ⟨k, hk⟩ := Nat.exists_eq_succ_of_ne_zero h0
    rw [hk]
    exact Nat.le_trans (esym_le _ k) hp
  | .somr n rs, h => by
    unfold Rule.Good at h
    unfold Rule.count Rule.leaves
    have hp := counts_le h.2.2
    have h0 : n.toNat ≠ 0 := by have := h.1; omega
    obtain ⟨k, hk⟩ := Nat.exists_eq_succ_of_ne_zero h0
    rw [hk]
    exact Nat.le_trans (esym_le _ k) hp
theorem counts_le : ∀ {rs : List Rule}, Rule.Goods rs → prodP (Rule.counts rs) ≤ 2 ^ (Rule.leavess rs).length
  | [], _ => by unfold Rule.counts Rule.leavess; decide
  | r :: rs, h => by
    unfold Rule.Goods at h
    unfold Rule.counts Rule.leavess
    have h1 := count_le h.1
    have h2 := counts_le h.2
    rw [prodP_cons, List.length_append, Nat.pow_add, Nat.add_comm 1]
    exact Nat.mul_le_mul h1 h2
end
theorem leaves_mem : ∀ {rs : List Rule} {r : Rule}, r ∈ rs → r.leaves.length ≤ (Rule.leavess rs).length
  | x :: rs, r, h => by
    rw [Rule.leavess_cons, List.length_append]
    rcases List.mem_cons.mp h with rfl | h
    · omega
    · have := leaves_mem h; omega
end CH
namespace CJ
open CF
def ways : Nat → Nat → Nat → List (List Nat)
  | 0, _, _ => [[]]
  | m + 1, f, e => (List.range' f (e - m - f)).flatMap fun p => (ways m (p + 1) e).map (p :: ·)
def put (hs ts : List (List Nat)) : List (List Nat) := hs.flatMap fun h => ts.map (h ++ ·)
def along (parts : List (List (List Nat))) (acc : List (List Nat)) (w : List Nat) : List (List Nat) := w.foldl (fun acc p => put acc (parts.getD p [])) acc
def pick (m : Nat) (parts : List (List (List Nat))) : List (List Nat) := (ways m 0 parts.length).flatMap (along parts [[]])
mutual
def chs : Rule → Nat → List (List Nat)
  | .leaf _, f => [[f]]
  | .allr rs, f => pick rs.length (chss rs f)
  | .somr n rs, f => pick n.toNat (chss rs f)
def chss : List Rule → Nat → List (List (List Nat))
  | [], _ => []
  | r :: rs, f => chs r f :: chss rs (f + r.leaves.length)
end
theorem chss_len : ∀ (rs : List Rule) (f : Nat), (chss rs f).length = rs.length
  | [], f => by unfold chss; rfl
  | r :: rs, f => by unfold chss; rw [List.length_cons, List.length_cons, chss_len rs]
theorem chss_snoc : ∀ (rs : List Rule) (r : Rule) (f : Nat), chss (rs ++ [r]) f = chss rs f ++ [chs r (f + (Rule.leavess rs).length)]
  | [], r, f => by
    rw [List.nil_append, Rule.leavess_nil]
    unfold chss
    unfold chss
    rfl
  | x :: rs, r, f => by
    rw [List.cons_append, Rule.leavess_cons, List.length_append]
    unfold chss
    rw [chss_snoc rs r, List.cons_append, Nat.add_assoc]
theorem put_len (hs ts : List (List Nat)) : (put hs ts).length = hs.length * ts.length := by
  unfold put
  induction hs with
  | nil => simp
  | cons h hs ih => rw [List.flatMap_cons, List.length_append, ih, List.length_map, List.length_cons, Nat.add_mul, Nat.one_mul, Nat.add_comm]
def Inc (e : Nat) : Nat → List Nat → Prop
  | _, [] => True
  | f, p :: w => f ≤ p ∧ p < e ∧ Inc e (p + 1) w
theorem Inc.take {e : Nat} : ∀ {w : List Nat} {f : Nat} (j : Nat), Inc e f w → Inc e f (w.take j)
  | [], _, _, _ => by rw [List.take_nil]; trivial
  | _ :: _, _, 0, _ => trivial
  | _ :: _, _, _ + 1, ⟨a, b, c⟩ => ⟨a, b, Inc.take _ c⟩
theorem Inc.lt {e : Nat} : ∀ {w : List Nat} {f : Nat}, Inc e f w → ∀ p ∈ w, p < e
  | _ :: _, _, ⟨_, b, c⟩, q, hq => by
    rcases List.mem_cons.mp hq with rfl | hq
    · exact b
    · exact Inc.lt c q hq
theorem ways_inc : ∀ {m f e : Nat} {w : List Nat}, w ∈ ways m f e → Inc e f w ∧ w.length = m
  | 0, f, e, w, h => by
    unfold ways at h
    rw [List.mem_singleton.mp h]
    exact ⟨trivial, rfl⟩
  | m + 1, f, e, w, h => by
    unfold ways at h
    obtain ⟨p, hp, hw⟩ := List.mem_flatMap.mp h
    obtain ⟨v, hv, rfl⟩ := List.mem_map.mp hw
    obtain ⟨i1, i2⟩ := ways_inc hv
    have := List.mem_range'_1.mp hp
    exact ⟨⟨this.1, by omega, i1⟩, by rw [List.length_cons, i2]⟩
section
variable (c : Nat → Nat)
def P : Nat → Nat → Nat
  | _, 0 => 1
  | f, n + 1 => (1 + c f) * P (f + 1) n
def pr (w : List Nat) : Nat := w.foldl (fun a p => a * c p) 1
def S : Nat → Nat → Nat
  | _, 0 => 0
  | f, n + 1 => c f + S (f + 1) n
variable {c}
theorem P_pos : ∀ (n f : Nat), 1 ≤ P c f n
  | 0, _ => Nat.le_refl _
  | n + 1, f => Nat.le_trans (P_pos n (f + 1)) (Nat.le_mul_of_pos_left _ (by omega))
theorem P_skip : ∀ (k n f : Nat), P c (f + k) n ≤ P c f (k + n)
  | 0, n, f => by rw [Nat.zero_add, Nat.add_zero]; exact Nat.le_refl _
  | k + 1, n, f => by
    have := P_skip k n (f + 1)
    rw [show f + (k + 1) = f + 1 + k by omega, show k + 1 + n = (k + n) + 1 by omega]
    exact Nat.le_trans this (Nat.le_mul_of_pos_left _ (by omega))
theorem S_skip : ∀ (k n f : Nat), S c (f + k) n ≤ S c f (k + n)
  | 0, n, f => by rw [Nat.zero_add, Nat.add_zero]; exact Nat.le_refl _
  | k + 1, n, f => by
    have := S_skip k n (f + 1)
    rw [show f + (k + 1) = f + 1 + k by omega, show k + 1 + n = (k + n) + 1 by omega]
    exact Nat.le_trans this (Nat.le_add_left _ _)
theorem pr_from : ∀ (w : List Nat) (a : Nat), w.foldl (fun a p => a * c p) a = a * pr c w
  | [], a => by unfold pr; simp
  | p :: w, a => by
    unfold pr
    rw [List.foldl_cons, List.foldl_cons, pr_from w, pr_from w (1 * c p), Nat.one_mul, Nat.mul_assoc]
theorem pr_cons (p : Nat) (w : List Nat) : pr c (p :: w) = c p * pr c w := by
  conv => lhs; unfold pr
  rw [List.foldl_cons, pr_from, Nat.one_mul]
theorem pr_le {e : Nat} : ∀ {w : List Nat} {f : Nat}, f ≤ e → Inc e f w → pr c w ≤ P c f (e - f)
  | [], f, _, _ => P_pos _ _
  | p :: w, f, hf, ⟨h1, h2, h3⟩ => by
    rw [pr_cons]
    have i := pr_le (by omega) h3
    have s := P_skip (c := c) (p - f) (e - p) f
    rw [show f + (p - f) = p by omega, show p - f + (e - p) = e - f by omega, show e - p = (e - (p + 1)) + 1 by omega] at s
    refine Nat.le_trans ?_ s
    show _ ≤ (1 + c p) * _
    exact Nat.mul_le_mul (by omega) i
theorem sum_le {e : Nat} : ∀ {w : List Nat} {f : Nat}, f ≤ e → Inc e f w → (w.map c).sum ≤ S c f (e - f)
  | [], f, _, _ => Nat.zero_le _
  | p :: w, f, hf, ⟨h1, h2, h3⟩ => by
    rw [List.map_cons, List.sum_cons]
    have i := sum_le (by omega) h3
    have s := S_skip (c := c) (p - f) (e - p) f
    rw [show f + (p - f) = p by omega, show p - f + (e - p) = e - f by omega, show e - p = (e - (p + 1)) + 1 by omega] at s
    refine Nat.le_trans ?_ s
    show _ ≤ c p + _
    omega
theorem all_pr : ∀ (m f e : Nat), ((ways m f e).map (pr c)).sum + (if m = 0 then 0 else 1) ≤ P c f (e - f)
  | 0, f, e => by
    have := P_pos (c := c) (e - f) f
    unfold ways
    simpa [pr] using this
  | m + 1, f, e => by
    have key : ∀ (n g : Nat), g + n ≤ e → (((List.range' g n).flatMap fun p => (ways m (p + 1) e).map (p :: ·)).map (pr c)).sum + 1 ≤ P c g (e - g) := by
      intro n
      induction n with
      | zero => intro g _; simpa using P_pos (c := c) (e - g) g
      | succ n ih =>
        intro g hg
        rw [List.range'_succ, List.flatMap_cons, List.map_append, List.sum_append, List.map_map]
        have h1 : ((ways m (g + 1) e).map (pr c ∘ fun w => g :: w)).sum = c g * ((ways m (g + 1) e).map (pr c)).sum := by
          generalize ways m (g + 1) e = l
          induction l with
          | nil => simp
          | cons w l ih2 => rw [List.map_cons, List.sum_cons, ih2, List.map_cons, List.sum_cons, Nat.mul_add, Function.comp_apply, pr_cons]
        have h2 := all_pr m (g + 1) e
        have h3 := ih (g + 1) (by omega)
        rw [h1, show e - g = (e - (g + 1)) + 1 by omega]
        show _ ≤ (1 + c g) * _
        have h4 := Nat.mul_le_mul_left (c g) (Nat.le_trans (Nat.le_add_right _ _) h2)
        rw [Nat.add_mul, Nat.one_mul]
        omega
    rw [if_neg (by omega)]
    unfold ways
    by_cases h : f ≤ e - m
    · exact key (e - m - f) f (by omega)
    · rw [show e - m - f = 0 by omega]
      simpa using P_pos (c := c) (e - f) f
end
theorem P_one : ∀ (n f : Nat), P (fun _ => 1) f n = 2 ^ n
  | 0, _ => rfl
  | n + 1, f => by
    show (1 + 1) * _ = _
    rw [P_one n, Nat.pow_succ, Nat.mul_comm]
theorem ways_len (m f e : Nat) : (ways m f e).length ≤ 2 ^ (e - f) := by
  have h := all_pr (c := fun _ => 1) m f e
  rw [P_one] at h
  have e1 : ((ways m f e).map (pr fun _ => 1)).sum = (ways m f e).length := by
    have : ∀ w : List Nat, pr (fun _ => 1) w = 1 := fun w => by
      induction w with
      | nil => rfl
      | cons p w ih => rw [pr_cons, ih]
    generalize ways m f e = l
    induction l with
    | nil => rfl
    | cons w l ih => rw [List.map_cons, List.sum_cons, ih, this, List.length_cons, Nat.add_comm]
  omega
theorem along_len (parts : List (List (List Nat))) : ∀ (w : List Nat) (acc : List (List Nat)), (along parts acc w).length = acc.length * pr (fun p => (parts.getD p []).length) w
  | [], acc => by show acc.length = acc.length * 1; omega
  | p :: w, acc => by
    show (along parts (put acc (parts.getD p [])) w).length = _
    rw [along_len parts w, put_len, pr_cons, Nat.mul_assoc]
theorem flat_len {α β : Type} (f : α → List β) : ∀ l : List α, (l.flatMap f).length = (l.map fun x => (f x).length).sum
  | [] => rfl
  | x :: l => by rw [List.flatMap_cons, List.length_append, flat_len f l, List.map_cons, List.sum_cons]
theorem P_parts : ∀ (parts : List (List (List Nat))) (ls : List Nat), parts.length = ls.length → (∀ i, (parts.getD i []).length + 1 ≤ 2 ^ ls.getD i 0) → P (fun p => (parts.getD p []).length) 0 parts.length ≤ 2 ^ ls.sum := by
  intro parts ls
  have gen : ∀ (n f : Nat) (c : Nat → Nat) (l : List Nat), l.length = n → (∀ i, c (f + i) + 1 ≤ 2 ^ l.getD i 0) → P c f n ≤ 2 ^ l.sum := by
    intro n
    induction n with
    | zero => intro f c l hl _; exact Nat.pow_pos (by decide)
    | succ n ih =>
      intro f c l hl h
      cases l with
      | nil => cases hl
      | cons x l =>
        have h0 := h 0
        have h1 := ih (f + 1) c l (by simpa using hl) fun i => by
          have := h (i + 1)
          rw [show f + 1 + i = f + (i + 1) by omega]
          simpa using this
        rw [List.sum_cons, Nat.pow_add]
        show (1 + c f) * _ ≤ _
        refine Nat.mul_le_mul ?_ h1
        have : c f + 1 ≤ 2 ^ x := by simpa using h0
        omega
  intro hl h
  exact gen _ 0 _ _ hl.symm fun i => by rw [Nat.zero_add]; exact h i
def lens (rs : List Rule) : List Nat := rs.map fun r => r.leaves.length
theorem lens_sum : ∀ rs : List Rule, (lens rs).sum = (Rule.leavess rs).length
  | [] => by rw [Rule.leavess_nil]; rfl
  | r :: rs => by
    rw [Rule.leavess_cons, List.length_append, ← lens_sum rs]
    rfl
theorem along_mem {parts : List (List (List Nat))} {l : Nat → Nat} (h : ∀ p x, x ∈ parts.getD p [] → x.length ≤ l p) : ∀ (w : List Nat) (acc : List (List Nat)) (k : Nat), (∀ x ∈ acc, x.length ≤ k) → ∀ x ∈ along parts acc w, x.length ≤ k + (w.map l).sum
  | [], acc, k, ha, x, hx => by
    have := ha x hx
    simpa using this
  | p :: w, acc, k, ha, x, hx => by
    have i := along_mem h w (put acc (parts.getD p [])) (k + l p) (fun y hy => by
      obtain ⟨a, h1, h2⟩ := List.mem_flatMap.mp hy
      obtain ⟨b, h3, rfl⟩ := List.mem_map.mp h2
      rw [List.length_append]
      have := ha a h1
      have := h p b h3
      omega) x hx
    rw [List.map_cons, List.sum_cons]
    omega
theorem S_lens : ∀ (l : List Nat) (f : Nat) (c : Nat → Nat), (∀ i, c (f + i) = l.getD i 0) → S c f l.length = l.sum
  | [], _, _, _ => rfl
  | x :: l, f, c, h => by
    have i := S_lens l (f + 1) c fun i => by
      have := h (i + 1)
      rw [show f + 1 + i = f + (i + 1) by omega, this]
      rfl
    rw [List.sum_cons, ← i]
    show c f + _ = _
    have := h 0
    rw [Nat.add_zero] at this
    rw [this]
    rfl
structure Parts (parts : List (List (List Nat))) (ls : List Nat) : Prop where
  len : parts.length = ls.length
  few : ∀ i, (parts.getD i []).length + 1 ≤ 2 ^ ls.getD i 0
  short : ∀ p x, x ∈ parts.getD p [] → x.length ≤ ls.getD p 0
namespace Parts
variable {parts : List (List (List Nat))} {ls : List Nat}
theorem upto (h : Parts parts ls) {w : List Nat} (hw : Inc parts.length 0 w) (j : Nat) : (along parts [[]] (w.take j)).length ≤ 2 ^ ls.sum ∧ ∀ x ∈ along parts [[]] (w.take j), x.length ≤ ls.sum := by
  have hw' := hw.take j
  refine ⟨?_, fun x hx => ?_⟩
  · rw [along_len]
    have := pr_le (c := fun p => (parts.getD p []).length) (Nat.zero_le _) hw'
    rw [Nat.sub_zero] at this
    have h2 := P_parts parts ls h.len h.few
    show 1 * _ ≤ _
    omega
  · have h1 := along_mem (l := fun p => ls.getD p 0) h.short (w.take j) [[]] 0 (fun x hx => by rw [List.mem_singleton.mp hx]; exact Nat.le_refl _) x hx
    have h2 := sum_le (c := fun p => ls.getD p 0) (Nat.zero_le _) hw'
    rw [Nat.sub_zero, h.len, S_lens ls 0 (fun p => ls.getD p 0) (fun i => by rw [Nat.zero_add])] at h2
    omega
theorem whole (h : Parts parts ls) {w : List Nat} (hw : Inc parts.length 0 w) : ∀ x ∈ along parts [[]] w, x.length ≤ ls.sum := by
  have := (h.upto hw w.length).2
  rwa [List.take_length] at this
theorem picked (h : Parts parts ls) (m : Nat) : (((ways m 0 parts.length).map fun w => (along parts [[]] w).length).sum) + (if m = 0 then 0 else 1) ≤ 2 ^ ls.sum := by
  have h1 := all_pr (c := fun p => (parts.getD p []).length) m 0 parts.length
  have h2 := P_parts parts ls h.len h.few
  have e : (fun w => (along parts [[]] w).length) = pr (fun p => (parts.getD p []).length) := funext fun w => by
    rw [along_len]
    show 1 * _ = _
    omega
  rw [e]
  rw [Nat.sub_zero] at h1
  omega
theorem pick_len (h : Parts parts ls) (m : Nat) : (pick m parts).length + (if m = 0 then 0 else 1) ≤ 2 ^ ls.sum := by
  unfold pick
  rw [flat_len]
  exact h.picked m
theorem pick_mem (h : Parts parts ls) {m : Nat} {x : List Nat} (hx : x ∈ pick m parts) : x.length ≤ ls.sum := by
  obtain ⟨w, h1, h2⟩ := List.mem_flatMap.mp hx
  exact h.whole (ways_inc h1).1 x h2
end Parts
theorem parts_cons {c : List (List Nat)} {cs : List (List (List Nat))} {n : Nat} {ls : List Nat} (h1 : c.length + 1 ≤ 2 ^ n) (h2 : ∀ x ∈ c, x.length ≤ n) (h : Parts cs ls) : Parts (c :: cs) (n :: ls) :=
  ⟨by rw [List.length_cons, List.length_cons, h.len], fun i => by
    cases i with
    | zero => exact h1
    | succ i => exact h.few i, fun p x hx => by
    cases p with
    | zero => exact h2 x hx
    | succ p => exact h.short p x hx⟩
theorem parts_nil : Parts [] [] := ⟨rfl, fun i => by simp, fun p x hx => by simp at hx⟩
mutual
theorem chs_ok : ∀ {r : Rule} (f : Nat), r.Good → (chs r f).length + 1 ≤ 2 ^ r.leaves.length ∧ ∀ x ∈ chs r f, x.length ≤ r.leaves.length
  | .leaf l, f, _ => by
    unfold chs Rule.leaves
    exact ⟨Nat.le_refl _, fun x hx => by rw [List.mem_singleton.mp hx]; exact Nat.le_refl _⟩
  | .allr rs, f, h => by
    unfold Rule.Good at h
    have p := chss_ok f h.2.2
    have e := lens_sum rs
    have hne : rs.length ≠ 0 := fun z => h.1 (List.eq_nil_of_length_eq_zero z)
    unfold chs Rule.leaves
    have h1 := p.pick_len rs.length
    rw [if_neg hne, e] at h1
    exact ⟨h1, fun x hx => by have := p.pick_mem hx; omega⟩
  | .somr n rs, f, h => by
    unfold Rule.Good at h
    have p := chss_ok f h.2.2
    have e := lens_sum rs
    unfold chs Rule.leaves
    have h1 := p.pick_len n.toNat
    have := h.1
    rw [if_neg (by omega), e] at h1
    exact ⟨h1, fun x hx => by have := p.pick_mem hx; omega⟩
theorem chss_ok : ∀ {rs : List Rule} (f : Nat), Rule.Goods rs → Parts (chss rs f) (lens rs)
  | [], f, _ => by unfold chss; exact parts_nil
  | r :: rs, f, h => by
    unfold Rule.Goods at h
    have h1 := chs_ok f h.1
    have h2 := chss_ok (f + r.leaves.length) h.2
    unfold chss
    exact parts_cons h1.1 h1.2 h2
end
end CJ
namespace L13
open PySem PySem.Spec PyProof.Rows L2 L3 L4 L6
section
variable {α : Type} {Pd : Hp → V → α → Prop} {D D' : Hp}
def Els (Pd : Hp → V → α → Prop) (D : Hp) (vs : List V) (as : List α) : Prop := vs.length = as.length ∧ ∀ (i : Nat) (v : V) (a : α), vs[i]? = some v → as[i]? = some a → Pd D v a
theorem Els.nil : Els Pd D [] [] := ⟨rfl, fun i v a h => by cases h⟩
theorem Els.app {vs us : List V} {as bs : List α} (h : Els Pd D vs as) (k : Els Pd D us bs) : Els Pd D (vs ++ us) (as ++ bs) := by
  refine ⟨by rw [List.length_append, List.length_append, h.1, k.1], fun i v a e1 e2 => ?_⟩
  by_cases hi : i < vs.length
  · rw [List.getElem?_append_left hi] at e1
    rw [List.getElem?_append_left (by rw [← h.1]; exact hi)] at e2
    exact h.2 i v a e1 e2
  · rw [List.getElem?_append_right (by omega)] at e1
    rw [List.getElem?_append_right (by rw [← h.1]; omega), ← h.1] at e2
    exact k.2 _ v a e1 e2
theorem Els.one {v : V} {a : α} (h : Pd D v a) : Els Pd D [v] [a] := ⟨rfl, fun i v' a' e1 e2 => by
  cases i with
  | zero => cases e1; cases e2; exact h
  | succ i => cases e1⟩
theorem Els.snoc {vs : List V} {as : List α} {v : V} {a : α} (h : Els Pd D vs as) (k : Pd D v a) : Els Pd D (vs ++ [v]) (as ++ [a]) := h.app (Els.one k)
theorem Els.up (mono : ∀ v a, Pd D v a → Pd D' v a) {vs : List V} {as : List α} (h : Els Pd D vs as) : Els Pd D' vs as := ⟨h.1, fun i v a e1 e2 => mono v a (h.2 i v a e1 e2)⟩
theorem Els.back {vs : List V} {as : List α} {i : Nat} {v : V} (h : Els Pd D vs as) (e : vs[i]? = some v) : ∃ a, as[i]? = some a ∧ Pd D v a := by
  have hi : i < vs.length := (List.getElem?_eq_some_iff.mp e).1
  have ha : as[i]? = some (as[i]'(by rw [← h.1]; exact hi)) := List.getElem?_eq_getElem (by rw [← h.1]; exact hi)
  exact ⟨_, ha, h.2 i v _ e ha⟩
theorem Els.at_ {vs : List V} {as : List α} {i : Nat} {a : α} (h : Els Pd D vs as) (e : as[i]? = some a) : ∃ v, vs[i]? = some v ∧ Pd D v a := by
  have hi : i < as.length := (List.getElem?_eq_some_iff.mp e).1
  have hv : vs[i]? = some (vs[i]'(by rw [h.1]; exact hi)) := List.getElem?_eq_getElem (by rw [h.1]; exact hi)
  exact ⟨_, hv, h.2 i _ a hv e⟩
end
theorem comp_els {α : Type} {Pd : Hp → V → α → Prop} (mono : ∀ {D D' : Hp} {v : V} {a : α}, Same D D' → Pd D v a → Pd D' v a) {J : It} {xs : List V} {P : Hp → Prop} {q : Addr} {g : TG} {tc : TT} {te : TE} {Q : Hp → Prop} {σ : L2.St} {D H : Hp} (s0 : Same D H) (hq0 : H q = none) (Y : Yields J xs P) (S : L2.St → Prop) (as : List α)
    (hl : as.length = xs.length) (h0 : S σ) (hP : ∀ H', Same H H' → P H') (hz : xs.length < sizeLine)
    (step : ∀ (i : Nat) (x : V) (a : α) (σ : L2.St) (D1 H1 : Hp) (R1 : L2.St → V → Hp → Prop) (R0 : L2.St → Hp → Prop), xs[i]? = some x → as[i]? = some a → S σ → Gr D H D1 H1 →
      (∀ σ2 y D4 H4, S σ2 → Gr D1 H1 D4 H4 → Pd D4 y a → R1 σ2 y H4) →
      g x σ H1 fun σ2 H2 => tc σ2 H2 fun b H3 => if b = true then te σ2 H3 fun y H4 => R1 σ2 y H4 else R0 σ2 H3)
    (hq : ∀ D' H' ys, Gr D H D' H' → H' q = some (.lst ys) → D' q = none → Els Pd D' ys as → Q H') :
    ∃ W : Nat → Nat → List V → L2.St → Hp → Prop, (∃ m, W 0 m [] σ (upd H q (.lst []))) ∧ CompW q J g tc te Q W := by
  refine comp_inv Y (fun i ys σ H' => ∃ D', Gr D H D' H' ∧ H' q = some (.lst ys) ∧ D' q = none ∧ Els Pd D' ys (as.take i) ∧ S σ) ⟨D, Gr.layH s0 hq0, upd_same, s0.free hq0, by rw [List.take_zero]; exact Els.nil, h0⟩
    (fun i ys σ H' ⟨D', G, e, _, hA, _⟩ => ⟨hP H' G.hh, e, ?_⟩) hz (fun i x ys σ H' hx ⟨D', G, e, n, hA, hS⟩ => ?_) fun ys σ H' ⟨D', G, e, n, hA, _⟩ => ?_
  · rw [hA.1, List.length_take]
    omega
  · have hi : i < xs.length := (List.getElem?_eq_some_iff.mp hx).1
    have ha : as[i]? = some (as[i]'(by omega)) := List.getElem?_eq_getElem (by omega)
    refine step i x _ σ D' H' _ _ hx ha hS G fun σ2 y D4 H4 h2 G4 hy => ?_
    obtain ⟨e4, n4⟩ := G4.old e n
    have T := G.trans G4
    refine ⟨e4, D4, ⟨T.dd, fun b o eb => ?_, same_set T.dh n4, T.nw⟩, upd_same, n4, ?_, h2⟩
    · rw [upd_ne (ne_of_none eb hq0)]
      exact T.hh b o eb
    · rw [take_snoc ha]
      exact (hA.up fun v a => mono G4.dd).snoc hy
  · rw [← hl, List.take_length] at hA
    exact hq D' H' ys G e n hA
def NL (D : Hp) (v : V) (x : List Nat) : Prop := ∃ q, v = .ref q ∧ D q = some (.lst (nV x))
theorem NL.up {D D' : Hp} {v : V} {x : List Nat} (s : Same D D') : NL D v x → NL D' v x := fun ⟨q, e, h⟩ => ⟨q, e, s _ _ h⟩
def NLL (D : Hp) (v : V) (xs : List (List Nat)) : Prop := ∃ q zs, v = .ref q ∧ D q = some (.lst zs) ∧ Els NL D zs xs
theorem NLL.up {D D' : Hp} {v : V} {x : List (List Nat)} (s : Same D D') : NLL D v x → NLL D' v x := fun ⟨q, zs, e, h, k⟩ => ⟨q, zs, e, s _ _ h, k.up fun _ _ => NL.up s⟩
end L13
namespace L18
open PySem PySem.Spec PyProof.Rows L2 L3 PySem.SeqAt
mutual
def ltD : PyData → PyData → Bool
  | .int a, .int b => decide (a < b)
  | .list xs, .list ys => ltL xs ys
  | _, _ => false
def ltL : List PyData → List PyData → Bool
  | [], [] => false
  | [], _ :: _ => true
  | _ :: _, [] => false
  | x :: xs, y :: ys => if PyData.eqv x y = true then ltL xs ys else ltD x y
end
mutual
def okD : PyData → PyData → Bool
  | .int _, .int _ => true
  | .list xs, .list ys => okL xs ys
  | _, _ => false
def okL : List PyData → List PyData → Bool
  | x :: xs, y :: ys => if PyData.eqv x y = true then okL xs ys else okD x y
  | _, _ => true
end
def LtAt (A : Around) (s : Shared) (x y : Value) (r : Bool) : Prop := ∀ (prog : Program) (w : World) (E : Value → Shared → Prop) (Q : Value → Shared → Prop), Q (.bool r) s → wpAny (model prog w) A (richCompare .Lt x y) Q E s
def Path (A : Around) (s : Shared) : List Value → List Value → Bool → Prop
  | [], [], r => r = false
  | [], _ :: _, r => r = true
  | _ :: _, [], r => r = false
  | x :: xs, y :: ys, r => (EqAt A s x y true ∧ Path A s xs ys r) ∨ (EqAt A s x y false ∧ LtAt A s x y r)
section
open PySem.AutoSeq1 (wpAny_loadPart')
open PySem.MeetsSeq PySem.MeetsSeq2 PySem.MeetsSeq3
theorem loop_lt (p q : Addr) (vs us : Array Value) (n m : Nat) (d1 d2 : Option Addr) (z1 z2 : Array (Option Value)) (r : Bool) : ∀ (k i : Nat), vs.size - i = k → i ≤ vs.size → i ≤ us.size →
    Meets (Builtin.«list.__eq__.loop» ⟨[.ref p, .ref q, rawInt i, rawInt 0], []⟩) (fun A R s => (s.heap.get? p = some { cls := .type "list", dict := d1, data := .seq vs n, slots := z1 } ∧ s.heap.get? q = some { cls := .type "list", dict := d2, data := .seq us m, slots := z2 }) ∧
      Path A.in1 s (vs.toList.drop i) (us.toList.drop i) r ∧ R (.ok (.ret (.bool r))) s) := by
  intro k
  induction k with
  | zero =>
    intro i hk h1 h2 prog w A R s h
    obtain ⟨hp, g, d, tk, os⟩ := s
    obtain ⟨⟨e1, e2⟩, pa, h⟩ := h
    wp_walk using wpAny_loadPart' e1, wpAny_loadPart' e2
    have o1 : vs[((i : Nat) : Int).toNat]? = none := by simp; omega
    rw [o1]
    wp_walk using wpAny_loadPart' e1, wpAny_loadPart' e2
    show R (.ok (.ret (.bool (decide (vs.size < us.size))))) _
    have d0 : vs.toList.drop i = [] := List.drop_eq_nil_of_le (by rw [Array.length_toList]; omega)
    rw [d0] at pa
    have er : r = decide (vs.size < us.size) := by
      cases e : us.toList.drop i with
      | nil =>
        rw [e] at pa
        have := List.drop_eq_nil_iff.mp e
        rw [Array.length_toList] at this
        rw [show r = false from pa]
        exact (decide_eq_false (by omega)).symm
      | cons y ys =>
        rw [e] at pa
        have : i < us.toList.length := by
          have := congrArg List.length e
          rw [List.length_drop, List.length_cons] at this
          omega
        rw [Array.length_toList] at this
        rw [show r = true from pa]
        exact (decide_eq_true (by omega)).symm
    rw [← er]
    exact h
  | succ k ih =>
    intro i hk h1 h2 prog w A R s h
    obtain ⟨hp, g, d, tk, os⟩ := s
    obtain ⟨⟨e1, e2⟩, pa, h⟩ := h
    wp_walk using wpAny_loadPart' e1, wpAny_loadPart' e2
    have l1 : i < vs.size := by omega
    have o1 : vs[((i : Nat) : Int).toNat]? = some vs[i] := by simp [l1]
    have d1 : vs.toList.drop i = vs[i] :: vs.toList.drop (i + 1) := by
      rw [List.drop_eq_getElem_cons (by rw [Array.length_toList]; exact l1), Array.getElem_toList]
    rw [d1] at pa
    by_cases l2 : i < us.size
    · have o2 : us[((i : Nat) : Int).toNat]? = some us[i] := by simp [l2]
      have d2 : us.toList.drop i = us[i] :: us.toList.drop (i + 1) := by
        rw [List.drop_eq_getElem_cons (by rw [Array.length_toList]; exact l2), Array.getElem_toList]
      rw [d2] at pa
      rw [o1, o2]
      rcases pa with ⟨pe, pa⟩ | ⟨pe, pl⟩
      · refine wpAny_bind (pe prog w _ _ ?_)
        wp_walk
        rw [show ((i : Nat) : Int) + 1 = ((i + 1 : Nat) : Int) from rfl]
        refine ⟨plainId_quiet plain_eq_loop _, codeAny_builtin entry_eq_loop ?_⟩
        rw [Around.under_plainId plain_eq_loop _]
        exact ih (i + 1) (by omega) (by omega) (by omega) prog w A R _ ⟨⟨e1, e2⟩, pa, h⟩
      · refine wpAny_bind (pe prog w _ _ ?_)
        wp_walk using wpAny_loadPart' e1, wpAny_loadPart' e2
        rw [o1, o2]
        refine wpAny_bind (pl prog w _ _ ?_)
        wp_walk
        exact h
    · have o2 : us[((i : Nat) : Int).toNat]? = none := by simp; omega
      have d2 : us.toList.drop i = [] := List.drop_eq_nil_of_le (by rw [Array.length_toList]; omega)
      rw [d2] at pa
      rw [o1, o2]
      wp_walk using wpAny_loadPart' e1, wpAny_loadPart' e2
      show R (.ok (.ret (.bool (decide (vs.size < us.size))))) _
      rw [show r = false from pa] at h
      rw [decide_eq_false (show ¬ vs.size < us.size by omega)]
      exact h
theorem list_lt (p q : Addr) (vs us : Array Value) (n m : Nat) (d1 d2 : Option Addr) (z1 z2 : Array (Option Value)) (r : Bool) :
    Meets (Builtin.«list.__lt__» ⟨[.ref p, .ref q], []⟩) (fun A R s => (s.heap.get? p = some { cls := .type "list", dict := d1, data := .seq vs n, slots := z1 } ∧ s.heap.get? q = some { cls := .type "list", dict := d2, data := .seq us m, slots := z2 }) ∧
      Path A.in1 s vs.toList us.toList r ∧ R (.ok (.ret (.bool r))) s) := by
  intro prog w A R s h
  obtain ⟨hp, g, d, tk, os⟩ := s
  obtain ⟨⟨e1, e2⟩, pa, h⟩ := h
  have sub := AutoSeq1.sub_list_list
  wp_walk using wpAny_loadPart' e1, wpAny_loadPart' e2
  refine ⟨plainId_quiet plain_eq_loop _, codeAny_builtin entry_eq_loop ?_⟩
  rw [Around.under_plainId plain_eq_loop _]
  exact loop_lt p q vs us n m d1 d2 z1 z2 r _ 0 rfl (Nat.zero_le _) (Nat.zero_le _) prog w A R _ ⟨⟨e1, e2⟩, pa, h⟩
theorem lt_int_at (A : Around) (s : Shared) (a b : Int) (t u : Tok) : LtAt A s (.int a t) (.int b u) (decide (a < b)) := fun prog w E Q h => (lt_int h : wpAny (model prog w) A (compareOp .Lt (.int a t) (.int b u)) Q E s)
theorem lt_list_at {A : Around} {s : Shared} {p q : Addr} {o1 o2 : Obj} {vs us : Array Value} {n m : Nat} {r : Bool} (h1 : s.heap.get? p = some o1) (c1 : o1.cls = .type "list") (k1 : o1.data = .seq vs n) (h2 : s.heap.get? q = some o2) (c2 : o2.cls = .type "list") (k2 : o2.data = .seq us m) (hu : A.units < cLine) (pa : Path A.in1 s vs.toList us.toList r) : LtAt A s (.ref p) (.ref q) r := fun prog w E Q h => by
  obtain ⟨cls, dd, data, sl⟩ := o1
  obtain ⟨cls2, dd2, data2, sl2⟩ := o2
  simp only at c1 k1 c2 k2
  subst c1 k1 c2 k2
  refine richCompare_meets_room (op := .Lt) ⟨_, h1, rfl⟩ ⟨_, h2, rfl⟩ PySem.F.slot_list_lt PySem.F.entry_list_lt (PySem.F.args_list_lt_2 _ _) (list_lt p q vs us n m dd dd2 sl sl2 r) ⟨⟨h1, h2⟩, ?_, show Value.bool r ≠ Value.notImplemented ∧ Q (.bool r) s from ⟨(fun x => nomatch x), h⟩⟩ hu
  exact pa
mutual
theorem lt_reads : ∀ (d e : PyData) (A : Around) (s : Shared) (a b : Value) (as bs : List Addr), Reads s.heap a d as → Reads s.heap b e bs → d.canLay0 = true → e.canLay0 = true → okD d e = true → A.units + min d.depth e.depth < cLine → LtAt A s a b (ltD d e)
  | .int x, e, A, s, _, _, _, _, ra, rb, _, _, ok, _ => by
    cases ra with
    | int _ t => cases rb with
      | int y u => exact lt_int_at A s x y t u
      | none => cases ok
      | bool _ => cases ok
      | str _ _ => cases ok
      | list _ _ _ _ => cases ok
      | tuple _ _ _ _ => cases ok
      | dict => cases ok
  | .list xs, e, A, s, _, _, _, _, ra, rb, l1, l2, ok, hu => by
    cases ra with
    | list h1 h2 h3 h4 => cases rb with
      | list k1 k2 k3 k4 => exact lt_list_at h1 h2 h3 k1 k2 k3 (room_here hu) (path_reads xs _ A.in1 s _ _ _ _ h4 k4 l1 l2 ok (room_in hu))
      | none => cases ok
      | bool _ => cases ok
      | int _ _ => cases ok
      | str _ _ => cases ok
      | tuple _ _ _ _ => cases ok
      | dict => cases ok
  | .none, _, _, _, _, _, _, _, _, _, _, _, ok, _ => by cases ok
  | .bool _, _, _, _, _, _, _, _, _, _, _, _, ok, _ => by cases ok
  | .str _, _, _, _, _, _, _, _, _, _, _, _, ok, _ => by cases ok
  | .tuple _, _, _, _, _, _, _, _, _, _, _, _, ok, _ => by cases ok
  | .dict _, _, _, _, _, _, _, _, _, _, _, _, ok, _ => by cases ok
theorem path_reads : ∀ (xs ys : List PyData) (A : Around) (s : Shared) (vs us : List Value) (as bs : List Addr), ReadsAll s.heap vs xs as → ReadsAll s.heap us ys bs → PyData.canLayAll0 xs = true → PyData.canLayAll0 ys = true → okL xs ys = true → A.units + min (PyData.depthAll xs) (PyData.depthAll ys) < cLine → Path A s vs us (ltL xs ys)
  | [], [], _, _, _, _, _, _, ra, rb, _, _, _, _ => by
    cases ra
    cases rb
    exact rfl
  | [], _ :: _, _, _, _, _, _, _, ra, rb, _, _, _, _ => by
    cases ra
    cases rb
    exact rfl
  | _ :: _, [], _, _, _, _, _, _, ra, rb, _, _, _, _ => by
    cases ra
    cases rb
    exact rfl
  | x :: xs, y :: ys, A, s, _, _, _, _, ra, rb, l1, l2, ok, hu => by
    have a1 : x.canLay0 = true ∧ PyData.canLayAll0 xs = true := by simpa [PyData.canLayAll0] using l1
    have a2 : y.canLay0 = true ∧ PyData.canLayAll0 ys = true := by simpa [PyData.canLayAll0] using l2
    cases ra with
    | cons r rs => cases rb with
      | cons q qs =>
        have eq := eqAt_reads x y A s _ _ _ _ r q a1.1 a2.1 (room_head hu)
        unfold okL at ok
        unfold ltL
        cases h : PyData.eqv x y with
        | true =>
          rw [h] at eq ok
          rw [if_pos rfl] at ok ⊢
          exact .inl ⟨eq, path_reads xs ys A s _ _ _ _ rs qs a1.2 a2.2 ok (room_tail hu)⟩
        | false =>
          rw [h] at eq ok
          rw [if_neg (by decide)] at ok ⊢
          exact .inr ⟨eq, lt_reads x y A s _ _ _ _ r q a1.1 a2.1 ok (room_head hu)⟩
end
def rLtD (K : PySem.W.Frag) (n : Nat) : R2 := fun x y H Q => ∃ d e, DataAt K H x d ∧ DataAt K H y e ∧ d.canLay0 = true ∧ e.canLay0 = true ∧ okD d e = true ∧ min d.depth e.depth ≤ n ∧ Q (.bl (ltD d e)) H
theorem op_ltD {X : Cx} {n : Nat} (hu : X.A.units + n < cLine) : OpR X (compareOp .Lt) (rLtD X.K n) := by
  intro pins s σ H x y v u Q I rx ry h
  obtain ⟨d, e, hd, he, l1, l2, ok, hn, q⟩ := h
  obtain ⟨as, r1⟩ := DataAt.reads I d hd rx
  obtain ⟨bs, r2⟩ := DataAt.reads I e he ry
  exact lt_reads d e X.A s v u as bs r1 r2 l1 l2 ok (by omega) X.prog X.w X.xe _ ⟨.bl _, H, I, rfl, q⟩
end
end L18
namespace L18
open PySem L2 L3
theorem list_K {X : Cx} {K : PySem.W.Frag} (hK : X.K = K) : CallR X (.type "list") (fun xs H Q => ∃ p ys, xs = [.ref p] ∧ (SqL K H p ys ∨ SqT K H p ys) ∧ ∀ l, H l = none → Q (.ref l) (upd H l (.lst ys))) := by
  subst hK
  exact call_list_of
end L18
namespace L18
open PySem L2 L3
theorem cut {A B : TS} {D : Ends} {σ : L2.St} {H : Hp} (h : ∀ N : L2.St → Hp → Prop, (∀ σ' H', B D σ' H' → N σ' H') → A { D with nx := N } σ H) : tSeq A B D σ H := h _ fun _ _ x => x
end L18
namespace CZ
open PySem CF CJ L18
abbrev CK := List Nat × PyData
def iD (w : List Nat) : List PyData := w.map fun n : Nat => PyData.int n
def putK (hs : List (List Nat × List PyData)) (ts : List CK) : List (List Nat × List PyData) := hs.flatMap fun h => ts.map fun t => (h.1 ++ t.1, h.2 ++ [t.2])
def alongK (parts : List (List CK)) (acc : List (List Nat × List PyData)) (w : List Nat) : List (List Nat × List PyData) := w.foldl (fun acc p => putK acc (parts.getD p [])) acc
def wrap (w : List Nat) (x : List Nat × List PyData) : CK := (x.1, .list (.list (iD w) :: x.2))
def pickK (m : Nat) (parts : List (List CK)) : List CK := (ways m 0 parts.length).flatMap fun w => (alongK parts [([], [])] w).map (wrap w)
mutual
def ck : Rule → Nat → List CK
  | .leaf _, f => [([f], .list [])]
  | .allr rs, f => pickK rs.length (cks rs f)
  | .somr n rs, f => pickK n.toNat (cks rs f)
def cks : List Rule → Nat → List (List CK)
  | [], _ => []
  | r :: rs, f => ck r f :: cks rs (f + r.leaves.length)
end
theorem cks_len : ∀ (rs : List Rule) (f : Nat), (cks rs f).length = rs.length
  | [], f => by unfold cks; rfl
  | r :: rs, f => by unfold cks; rw [List.length_cons, List.length_cons, cks_len rs]
theorem putK_fst (hs : List (List Nat × List PyData)) (ts : List CK) : (putK hs ts).map Prod.fst = put (hs.map Prod.fst) (ts.map Prod.fst) := by
  unfold putK put
  rw [List.map_flatMap, List.flatMap_map]
  congr 1
  funext h
  rw [List.map_map, List.map_map]
  rfl
theorem getD_map_fst (parts : List (List CK)) (p : Nat) : (parts.getD p []).map Prod.fst = (parts.map (List.map Prod.fst)).getD p [] := by
  rw [List.getD_eq_getElem?_getD, List.getD_eq_getElem?_getD, List.getElem?_map]
  cases parts[p]? <;> rfl
theorem alongK_fst (parts : List (List CK)) : ∀ (w : List Nat) (acc : List (List Nat × List PyData)), (alongK parts acc w).map Prod.fst = along (parts.map (List.map Prod.fst)) (acc.map Prod.fst) w
  | [], acc => rfl
  | p :: w, acc => by
    show (alongK parts (putK acc (parts.getD p [])) w).map Prod.fst = along _ (put (acc.map Prod.fst) ((parts.map (List.map Prod.fst)).getD p [])) w
    rw [alongK_fst parts w, putK_fst, getD_map_fst]
theorem pickK_fst (m : Nat) (parts : List (List CK)) : (pickK m parts).map Prod.fst = pick m (parts.map (List.map Prod.fst)) := by
  unfold pickK pick
  rw [List.map_flatMap, List.length_map]
  congr 1
  funext w
  rw [List.map_map, show (Prod.fst ∘ wrap w) = Prod.fst from rfl, alongK_fst]
  rfl
mutual
theorem ck_fst : ∀ (r : Rule) (f : Nat), (ck r f).map Prod.fst = chs r f
  | .leaf _, f => by unfold ck chs; rfl
  | .allr rs, f => by unfold ck chs; rw [pickK_fst, cks_fst rs f]
  | .somr n rs, f => by unfold ck chs; rw [pickK_fst, cks_fst rs f]
theorem cks_fst : ∀ (rs : List Rule) (f : Nat), (cks rs f).map (List.map Prod.fst) = chss rs f
  | [], f => by unfold cks chss; rfl
  | r :: rs, f => by unfold cks chss; rw [List.map_cons, ck_fst r f, cks_fst rs]
end
def Below (a b : PyData) : Prop := okD a b = true ∧ PyData.eqv a b = false ∧ ltD a b = true
def BelowL (xs ys : List PyData) : Prop := xs.length = ys.length ∧ okL xs ys = true ∧ PyData.eqvAll xs ys = false ∧ ltL xs ys = true
theorem eqvAll_cons (x y : PyData) (xs ys : List PyData) : PyData.eqvAll (x :: xs) (y :: ys) = (PyData.eqv x y && PyData.eqvAll xs ys) := by rw [PyData.eqvAll]
theorem okL_cons (x y : PyData) (xs ys : List PyData) : okL (x :: xs) (y :: ys) = if PyData.eqv x y = true then okL xs ys else okD x y := by rw [okL]
theorem ltL_cons (x y : PyData) (xs ys : List PyData) : ltL (x :: xs) (y :: ys) = if PyData.eqv x y = true then ltL xs ys else ltD x y := by rw [ltL]
theorem BelowL.head {x y : PyData} {xs ys : List PyData} (hl : xs.length = ys.length) (h : Below x y) : BelowL (x :: xs) (y :: ys) := by
  refine ⟨by rw [List.length_cons, List.length_cons, hl], ?_, ?_, ?_⟩
  · rw [okL_cons, h.2.1, if_neg (by decide)]; exact h.1
  · rw [eqvAll_cons, h.2.1, Bool.false_and]
  · rw [ltL_cons, h.2.1, if_neg (by decide)]; exact h.2.2
theorem BelowL.tail {x : PyData} {xs ys : List PyData} (hx : PyData.eqv x x = true) (h : BelowL xs ys) : BelowL (x :: xs) (x :: ys) := by
  refine ⟨by rw [List.length_cons, List.length_cons, h.1], ?_, ?_, ?_⟩
  · rw [okL_cons, hx, if_pos rfl]; exact h.2.1
  · rw [eqvAll_cons, hx, Bool.true_and]; exact h.2.2.1
  · rw [ltL_cons, hx, if_pos rfl]; exact h.2.2.2
theorem BelowL.app : ∀ {xs ys : List PyData} (as bs : List PyData), as.length = bs.length → BelowL xs ys → BelowL (xs ++ as) (ys ++ bs)
  | [], [], _, _, _, h => absurd h.2.2.2 (by rw [ltL]; decide)
  | [], _ :: _, _, _, _, h => absurd h.1 (by simp)
  | _ :: _, [], _, _, _, h => absurd h.1 (by simp)
  | x :: xs, y :: ys, as, bs, hl, ⟨h1, h2, h3, h4⟩ => by
    rw [okL_cons] at h2
    rw [eqvAll_cons] at h3
    rw [ltL_cons] at h4
    have hlen : (xs ++ as).length = (ys ++ bs).length := by
      rw [List.length_cons, List.length_cons] at h1
      rw [List.length_append, List.length_append, hl]
      omega
    cases e : PyData.eqv x y with
    | true =>
      rw [e, if_pos rfl] at h2 h4
      rw [e, Bool.true_and] at h3
      have ih := BelowL.app as bs hl (xs := xs) (ys := ys) ⟨by simpa using h1, h2, h3, h4⟩
      refine ⟨by rw [List.cons_append, List.cons_append, List.length_cons, List.length_cons, hlen], ?_, ?_, ?_⟩
      · rw [List.cons_append, List.cons_append, okL_cons, e, if_pos rfl]; exact ih.2.1
      · rw [List.cons_append, List.cons_append, eqvAll_cons, e, Bool.true_and]; exact ih.2.2.1
      · rw [List.cons_append, List.cons_append, ltL_cons, e, if_pos rfl]; exact ih.2.2.2
    | false =>
      rw [e, if_neg (by decide)] at h2 h4
      exact BelowL.head hlen ⟨h2, e, h4⟩
theorem BelowL.pre {xs ys : List PyData} : ∀ {hs : List PyData}, (∀ x ∈ hs, PyData.eqv x x = true) → BelowL xs ys → BelowL (hs ++ xs) (hs ++ ys)
  | [], _, h => h
  | _ :: _, hr, h => BelowL.tail (hr _ (List.mem_cons_self ..)) (BelowL.pre (fun x hx => hr x (List.mem_cons_of_mem _ hx)) h)
theorem BelowL.list {xs ys : List PyData} (h : BelowL xs ys) : Below (.list xs) (.list ys) := ⟨by rw [okD]; exact h.2.1, by rw [PyData.eqv]; exact h.2.2.1, by rw [ltD]; exact h.2.2.2⟩
theorem int_below {a b : Nat} (h : a < b) : Below (.int (a : Nat)) (.int (b : Nat)) := ⟨by rw [okD], by simp [PyData.eqv]; omega, by rw [ltD]; exact decide_eq_true (by omega)⟩
theorem int_eqv (a : Nat) : PyData.eqv (.int (a : Nat)) (.int (a : Nat)) = true := by simp [PyData.eqv]
theorem ways_below : ∀ (m f e : Nat), (ways m f e).Pairwise fun w v => BelowL (iD w) (iD v)
  | 0, f, e => by unfold ways; exact List.pairwise_singleton ..
  | m + 1, f, e => by
    unfold ways
    refine List.pairwise_flatMap.mpr ⟨fun p _ => List.pairwise_map.mpr ((ways_below m (p + 1) e).imp fun h => BelowL.tail (int_eqv p) h), ?_⟩
    refine List.Pairwise.imp_of_mem (fun {p q} hp hq hpq x hx y hy => ?_) List.pairwise_lt_range'
    obtain ⟨v, hv, rfl⟩ := List.mem_map.mp hx
    obtain ⟨u, hu, rfl⟩ := List.mem_map.mp hy
    refine BelowL.head ?_ (int_below hpq)
    rw [List.length_map, List.length_map, (ways_inc hv).2, (ways_inc hu).2]
def Self (x : CK) : Prop := PyData.eqv x.2 x.2 = true
theorem putK_below {acc : List (List Nat × List PyData)} {ts : List CK} {n : Nat} (ha : acc.Pairwise fun x y => BelowL x.2 y.2) (hs : ∀ x ∈ acc, x.2.length = n ∧ ∀ k ∈ x.2, PyData.eqv k k = true) (ht : ts.Pairwise fun x y => Below x.2 y.2) : (putK acc ts).Pairwise fun x y => BelowL x.2 y.2 := by
  unfold putK
  refine List.pairwise_flatMap.mpr ⟨fun h hh => List.pairwise_map.mpr (ht.imp fun {a b} hab => ?_), ha.imp fun {x y} hxy a hx b hy => ?_⟩
  · exact BelowL.pre (hs h hh).2 (BelowL.head rfl hab)
  · obtain ⟨t, _, rfl⟩ := List.mem_map.mp hx
    obtain ⟨u, _, rfl⟩ := List.mem_map.mp hy
    exact BelowL.app _ _ rfl hxy
theorem alongK_below {parts : List (List CK)} (hp : ∀ ts ∈ parts, ts.Pairwise fun x y => Below x.2 y.2) (hq : ∀ ts ∈ parts, ∀ t ∈ ts, Self t) : ∀ (w : List Nat) (acc : List (List Nat × List PyData)) (n : Nat), acc.Pairwise (fun x y => BelowL x.2 y.2) → (∀ x ∈ acc, x.2.length = n ∧ ∀ k ∈ x.2, PyData.eqv k k = true) → (alongK parts acc w).Pairwise (fun x y => BelowL x.2 y.2) ∧ ∀ x ∈ alongK parts acc w, x.2.length = n + w.length ∧ ∀ k ∈ x.2, PyData.eqv k k = true
  | [], acc, n, ha, hs => ⟨ha, hs⟩
  | p :: w, acc, n, ha, hs => by
    have gp : (parts.getD p []).Pairwise fun x y => Below x.2 y.2 := by
      rw [List.getD_eq_getElem?_getD]
      cases e : parts[p]? with
      | none => exact List.Pairwise.nil
      | some ts => exact hp ts (List.mem_of_getElem? e)
    have gq : ∀ t ∈ parts.getD p [], Self t := by
      rw [List.getD_eq_getElem?_getD]
      cases e : parts[p]? with
      | none => exact fun t ht => nomatch ht
      | some ts => exact hq ts (List.mem_of_getElem? e)
    obtain ⟨a1, a2⟩ := alongK_below hp hq w (putK acc (parts.getD p [])) (n + 1) (putK_below ha hs gp) (fun x hx => by
      unfold putK at hx
      obtain ⟨h, hh, hx⟩ := List.mem_flatMap.mp hx
      obtain ⟨t, ht, rfl⟩ := List.mem_map.mp hx
      refine ⟨by rw [List.length_append, (hs h hh).1]; rfl, fun k hk => ?_⟩
      rcases List.mem_append.mp hk with z | z
      · exact (hs h hh).2 k z
      · rw [List.mem_singleton.mp z]
        exact gq t ht)
    exact ⟨a1, fun x hx => by
      obtain ⟨b1, b2⟩ := a2 x hx
      exact ⟨by rw [b1, List.length_cons]; omega, b2⟩⟩
theorem eqvAll_self : ∀ {xs : List PyData}, (∀ k ∈ xs, PyData.eqv k k = true) → PyData.eqvAll xs xs = true
  | [], _ => by rw [PyData.eqvAll]
  | x :: xs, h => by rw [eqvAll_cons, h x (List.mem_cons_self ..), Bool.true_and]; exact eqvAll_self fun k hk => h k (List.mem_cons_of_mem _ hk)
theorem iD_self (w : List Nat) : PyData.eqv (.list (iD w)) (.list (iD w)) = true := by
  rw [PyData.eqv]
  refine eqvAll_self fun k hk => ?_
  obtain ⟨n, _, rfl⟩ := List.mem_map.mp hk
  exact int_eqv n
theorem pickK_below {parts : List (List CK)} (m : Nat) (hp : ∀ ts ∈ parts, ts.Pairwise fun x y => Below x.2 y.2) (hq : ∀ ts ∈ parts, ∀ t ∈ ts, Self t) : (pickK m parts).Pairwise (fun x y => Below x.2 y.2) ∧ ∀ t ∈ pickK m parts, Self t := by
  have al : ∀ w, (alongK parts [([], [])] w).Pairwise (fun x y => BelowL x.2 y.2) ∧ ∀ x ∈ alongK parts [([], [])] w, x.2.length = 0 + w.length ∧ ∀ k ∈ x.2, PyData.eqv k k = true := fun w =>
    alongK_below hp hq w _ 0 (List.pairwise_singleton ..) (fun x hx => by rw [List.mem_singleton.mp hx]; exact ⟨rfl, fun k hk => nomatch hk⟩)
  unfold pickK
  constructor
  · refine List.pairwise_flatMap.mpr ⟨fun w _ => List.pairwise_map.mpr ((al w).1.imp fun h => BelowL.list (BelowL.tail (iD_self w) h)), ?_⟩
    refine (ways_below m 0 parts.length).imp_of_mem fun {w v} hw hv h x hx y hy => ?_
    obtain ⟨a, ha, rfl⟩ := List.mem_map.mp hx
    obtain ⟨b, hb, rfl⟩ := List.mem_map.mp hy
    refine BelowL.list (BelowL.head ?_ (BelowL.list h))
    rw [((al w).2 a ha).1, ((al v).2 b hb).1, (ways_inc hw).2, (ways_inc hv).2]
  · intro t ht
    obtain ⟨w, _, ht⟩ := List.mem_flatMap.mp ht
    obtain ⟨x, hx, rfl⟩ := List.mem_map.mp ht
    show PyData.eqv (.list (.list (iD w) :: x.2)) (.list (.list (iD w) :: x.2)) = true
    rw [PyData.eqv]
    refine eqvAll_self fun k hk => ?_
    rcases List.mem_cons.mp hk with rfl | hk
    · exact iD_self w
    · exact ((al w).2 x hx).2 k hk
mutual
theorem ck_below : ∀ (r : Rule) (f : Nat), (ck r f).Pairwise (fun x y => Below x.2 y.2) ∧ ∀ t ∈ ck r f, Self t
  | .leaf _, f => by
    unfold ck
    exact ⟨List.pairwise_singleton .., fun t ht => by rw [List.mem_singleton.mp ht]; show PyData.eqv (.list []) (.list []) = true; rw [PyData.eqv, PyData.eqvAll]⟩
  | .allr rs, f => by
    unfold ck
    exact pickK_below _ (fun ts ht => (cks_below rs f ts ht).1) (fun ts ht => (cks_below rs f ts ht).2)
  | .somr n rs, f => by
    unfold ck
    exact pickK_below _ (fun ts ht => (cks_below rs f ts ht).1) (fun ts ht => (cks_below rs f ts ht).2)
theorem cks_below : ∀ (rs : List Rule) (f : Nat), ∀ ts ∈ cks rs f, ts.Pairwise (fun x y => Below x.2 y.2) ∧ ∀ t ∈ ts, Self t
  | [], f => by unfold cks; exact fun ts ht => nomatch ht
  | r :: rs, f => by
    unfold cks
    intro ts ht
    rcases List.mem_cons.mp ht with rfl | ht
    · exact ck_below r f
    · exact cks_below rs _ ts ht
end
end CZ
namespace CZ
open PySem CF CJ L18
def Sel : List Rule → Nat → Nat → List Nat → List CK → Prop
  | [], _, _, w, ps => w = [] ∧ ps = []
  | r :: rs, i, o, w, ps => (∃ w' t ps', w = i :: w' ∧ ps = t :: ps' ∧ t ∈ ck r o ∧ Sel rs (i + 1) (o + r.leaves.length) w' ps') ∨ Sel rs (i + 1) (o + r.leaves.length) w ps
theorem alongK_mem {parts : List (List CK)} : ∀ (w : List Nat) (acc : List (List Nat × List PyData)) {x : List Nat × List PyData}, x ∈ alongK parts acc w → ∃ a ∈ acc, ∃ ps : List CK, ps.length = w.length ∧ (∀ (j p : Nat) (t : CK), w[j]? = some p → ps[j]? = some t → t ∈ parts.getD p []) ∧ x = (a.1 ++ (ps.map Prod.fst).flatten, a.2 ++ ps.map Prod.snd)
  | [], acc, x, h => ⟨x, h, [], rfl, (fun j p t e => by cases e), by simp⟩
  | p :: w, acc, x, h => by
    obtain ⟨b, hb, ps, hl, hp, rfl⟩ := alongK_mem w (putK acc (parts.getD p [])) (show x ∈ alongK parts (putK acc (parts.getD p [])) w from h)
    unfold putK at hb
    obtain ⟨a, ha, hb⟩ := List.mem_flatMap.mp hb
    obtain ⟨t, ht, rfl⟩ := List.mem_map.mp hb
    refine ⟨a, ha, t :: ps, by rw [List.length_cons, List.length_cons, hl], fun j q u e1 e2 => ?_, ?_⟩
    · cases j with
      | zero =>
        obtain rfl := Option.some.inj e1
        obtain rfl := Option.some.inj e2
        exact ht
      | succ j => exact hp j q u (by simpa using e1) (by simpa using e2)
    · simp
theorem sel_of : ∀ (rs : List Rule) (i o : Nat) (w : List Nat) (ps : List CK), Inc (i + rs.length) i w → ps.length = w.length → (∀ (j p : Nat) (t : CK), w[j]? = some p → ps[j]? = some t → t ∈ (cks rs o).getD (p - i) []) → Sel rs i o w ps
  | [], i, o, [], ps, _, hl, _ => by
    unfold Sel
    exact ⟨rfl, List.eq_nil_of_length_eq_zero hl⟩
  | [], i, o, p :: w, ps, hi, _, _ => by
    have := hi.1
    have := hi.2.1
    rw [List.length_nil] at this
    omega
  | r :: rs, i, o, w, ps, hi, hl, hp => by
    have skip : ∀ {v : List Nat} {qs : List CK}, Inc (i + (rs.length + 1)) (i + 1) v → qs.length = v.length → (∀ (j p : Nat) (t : CK), v[j]? = some p → qs[j]? = some t → t ∈ (cks (r :: rs) o).getD (p - i) []) → Sel rs (i + 1) (o + r.leaves.length) v qs := fun {v qs} h1 h2 h3 => by
      refine sel_of rs (i + 1) _ v qs (by rw [show i + 1 + rs.length = i + (rs.length + 1) by omega]; exact h1) h2 fun j p t e1 e2 => ?_
      have h4 := h3 j p t e1 e2
      have hge : i + 1 ≤ p := by
        have aux : ∀ {v : List Nat} {f e : Nat}, Inc e f v → ∀ p ∈ v, f ≤ p := by
          intro v
          induction v with
          | nil => intro f e _ p hp; cases hp
          | cons a v ih =>
            intro f e hh p hp
            rcases List.mem_cons.mp hp with rfl | hp
            · exact hh.1
            · have := ih hh.2.2 p hp
              have := hh.1
              omega
        exact aux h1 p (List.mem_of_getElem? e1)
      unfold cks at h4
      rw [show p - i = (p - (i + 1)) + 1 by omega, List.getD_cons_succ] at h4
      exact h4
    unfold Sel
    cases w with
    | nil => exact .inr (skip trivial hl hp)
    | cons p w =>
      rw [List.length_cons] at hi
      by_cases e : p = i
      · subst e
        cases ps with
        | nil => cases hl
        | cons t ps =>
          refine .inl ⟨w, t, ps, rfl, rfl, ?_, skip hi.2.2 (by simpa using hl) fun j q u e1 e2 => hp (j + 1) q u (by simpa using e1) (by simpa using e2)⟩
          have h5 := hp 0 p t rfl rfl
          unfold cks at h5
          rw [Nat.sub_self] at h5
          exact h5
      · exact .inr (skip ⟨by have := hi.1; omega, hi.2.1, hi.2.2⟩ hl hp)
theorem pickK_mem {m : Nat} {rs : List Rule} {f : Nat} {t : CK} (h : t ∈ pickK m (cks rs f)) : ∃ w ps, Sel rs 0 f w ps ∧ w.length = m ∧ ps.length = m ∧ Inc rs.length 0 w ∧ t = ((ps.map Prod.fst).flatten, .list (.list (iD w) :: ps.map Prod.snd)) := by
  unfold pickK at h
  obtain ⟨w, hw, h⟩ := List.mem_flatMap.mp h
  obtain ⟨x, hx, rfl⟩ := List.mem_map.mp h
  rw [cks_len] at hw
  obtain ⟨i1, i2⟩ := ways_inc hw
  obtain ⟨a, ha, ps, hl, hp, rfl⟩ := alongK_mem w _ hx
  rw [List.mem_singleton.mp ha]
  refine ⟨w, ps, sel_of rs 0 f w ps (by rw [Nat.zero_add]; exact i1) hl (fun j p t e1 e2 => by rw [Nat.sub_zero]; exact hp j p t e1 e2), i2, hl.trans i2, i1, ?_⟩
  unfold wrap
  simp
structure Rng (c : List Nat) (f n : Nat) : Prop where
  some : c ≠ []
  up : c.Pairwise (· < ·)
  lo : ∀ x ∈ c, f ≤ x
  hi : ∀ x ∈ c, x < f + n
theorem sel_len : ∀ (rs : List Rule) (i o : Nat) (w : List Nat) (ps : List CK), Sel rs i o w ps → ps.length = w.length
  | [], _, _, _, _, h => by unfold Sel at h; rw [h.1, h.2]; rfl
  | r :: rs, i, o, w, ps, h => by
    unfold Sel at h
    rcases h with ⟨w', t, ps', rfl, rfl, _, h⟩ | h
    · rw [List.length_cons, List.length_cons, sel_len rs _ _ _ _ h]
    · exact sel_len rs _ _ _ _ h
mutual
theorem ck_rng : ∀ (r : Rule) (f : Nat), r.Good → ∀ t ∈ ck r f, Rng t.1 f r.leaves.length
  | .leaf l, f, _, t, ht => by
    unfold ck at ht
    rw [List.mem_singleton.mp ht]
    unfold Rule.leaves
    exact ⟨(fun z => nomatch z), List.pairwise_singleton .., fun x hx => by rw [List.mem_singleton.mp hx]; exact Nat.le_refl _, fun x hx => by rw [List.mem_singleton.mp hx]; show f < f + 1; omega⟩
  | .allr rs, f, g, t, ht => by
    unfold ck at ht
    unfold Rule.Good at g
    obtain ⟨w, ps, hS, hw, hp, _, rfl⟩ := pickK_mem ht
    obtain ⟨a1, a2, a3, a4⟩ := sel_rng rs 0 f w ps g.2.2 hS
    unfold Rule.leaves
    refine ⟨a4 fun z => ?_, a1, a2, a3⟩
    rw [z, List.length_nil] at hp
    exact g.1 (List.eq_nil_of_length_eq_zero hp.symm)
  | .somr n rs, f, g, t, ht => by
    unfold ck at ht
    unfold Rule.Good at g
    obtain ⟨w, ps, hS, hw, hp, _, rfl⟩ := pickK_mem ht
    obtain ⟨a1, a2, a3, a4⟩ := sel_rng rs 0 f w ps g.2.2 hS
    unfold Rule.leaves
    refine ⟨a4 fun z => ?_, a1, a2, a3⟩
    rw [z, List.length_nil] at hp
    have := g.1.1
    omega
theorem sel_rng : ∀ (rs : List Rule) (i o : Nat) (w : List Nat) (ps : List CK), Rule.Goods rs → Sel rs i o w ps → (ps.map Prod.fst).flatten.Pairwise (· < ·) ∧ (∀ x ∈ (ps.map Prod.fst).flatten, o ≤ x) ∧ (∀ x ∈ (ps.map Prod.fst).flatten, x < o + (Rule.leavess rs).length) ∧ (ps ≠ [] → (ps.map Prod.fst).flatten ≠ [])
  | [], i, o, w, ps, _, h => by
    unfold Sel at h
    rw [h.2]
    exact ⟨List.Pairwise.nil, (fun x hx => nomatch hx), (fun x hx => nomatch hx), fun z => absurd rfl z⟩
  | r :: rs, i, o, w, ps, g, h => by
    unfold Sel at h
    unfold Rule.Goods at g
    rw [Rule.leavess_cons, List.length_append]
    rcases h with ⟨w', t, ps', rfl, rfl, ht, h⟩ | h
    · obtain ⟨a1, a2, a3, a4⟩ := sel_rng rs _ _ _ _ g.2 h
      have rt := ck_rng r o g.1 t ht
      rw [List.map_cons, List.flatten_cons]
      refine ⟨List.pairwise_append.mpr ⟨rt.up, a1, fun x hx y hy => ?_⟩, fun x hx => ?_, fun x hx => ?_, fun _ z => rt.some (List.append_eq_nil_iff.mp z).1⟩
      · have := rt.hi x hx
        have := a2 y hy
        omega
      · rcases List.mem_append.mp hx with z | z
        · exact rt.lo x z
        · have := a2 x z
          omega
      · rcases List.mem_append.mp hx with z | z
        · have := rt.hi x z
          omega
        · have := a3 x z
          omega
    · obtain ⟨a1, a2, a3, a4⟩ := sel_rng rs _ _ _ _ g.2 h
      exact ⟨a1, fun x hx => by have := a2 x hx; omega, fun x hx => by have := a3 x hx; omega, a4⟩
end
theorem filter_mid {A t B : List Nat} {o s : Nat} (ha : ∀ x ∈ A, x < o) (ht : ∀ x ∈ t, o ≤ x ∧ x < o + s) (hb : ∀ x ∈ B, o + s ≤ x) : (A ++ (t ++ B)).filter (fun x => decide (o ≤ x ∧ x < o + s)) = t := by
  rw [List.filter_append, List.filter_append, List.filter_eq_nil_iff.mpr (fun x hx => by have := ha x hx; simp; omega), List.filter_eq_self.mpr (fun x hx => decide_eq_true (ht x hx)), List.filter_eq_nil_iff.mpr (fun x hx => by have := hb x hx; simp; omega), List.nil_append, List.append_nil]
end CZ
namespace CZ
open PySem CF CJ L18
theorem lay_cons (d : PyData) (ds : List PyData) : PyData.canLayAll0 (d :: ds) = (d.canLay0 && PyData.canLayAll0 ds) := by rw [PyData.canLayAll0]
theorem dep_cons (d : PyData) (ds : List PyData) : PyData.depthAll (d :: ds) = max d.depth (PyData.depthAll ds) := by rw [PyData.depthAll]
mutual
theorem ck_lay : ∀ (r : Rule) (f : Nat), ∀ t ∈ ck r f, t.2.canLay0 = true ∧ t.2.depth ≤ r.depth + 2
  | .leaf l, f, t, ht => by
    unfold ck at ht
    rw [List.mem_singleton.mp ht]
    exact ⟨rfl, by show 1 ≤ _; omega⟩
  | .allr rs, f, t, ht => by
    unfold ck at ht
    obtain ⟨w, ps, hS, _, _, _, rfl⟩ := pickK_mem ht
    obtain ⟨a1, a2⟩ := sel_lay rs 0 f w ps hS
    have n := L6.nat_lay w
    refine ⟨?_, ?_⟩
    · show PyData.canLayAll0 (.list (L6.nD w) :: ps.map Prod.snd) = true
      rw [lay_cons, a1, Bool.and_true]
      exact n.1
    · show PyData.depthAll (.list (L6.nD w) :: ps.map Prod.snd) + 1 ≤ _
      rw [dep_cons]
      have e : (PyData.list (L6.nD w)).depth = 1 := by show PyData.depthAll (L6.nD w) + 1 = 1; rw [n.2]
      rw [e]
      unfold Rule.depth
      omega
  | .somr k rs, f, t, ht => by
    unfold ck at ht
    obtain ⟨w, ps, hS, _, _, _, rfl⟩ := pickK_mem ht
    obtain ⟨a1, a2⟩ := sel_lay rs 0 f w ps hS
    have n := L6.nat_lay w
    refine ⟨?_, ?_⟩
    · show PyData.canLayAll0 (.list (L6.nD w) :: ps.map Prod.snd) = true
      rw [lay_cons, a1, Bool.and_true]
      exact n.1
    · show PyData.depthAll (.list (L6.nD w) :: ps.map Prod.snd) + 1 ≤ _
      rw [dep_cons]
      have e : (PyData.list (L6.nD w)).depth = 1 := by show PyData.depthAll (L6.nD w) + 1 = 1; rw [n.2]
      rw [e]
      unfold Rule.depth
      omega
theorem sel_lay : ∀ (rs : List Rule) (i o : Nat) (w : List Nat) (ps : List CK), Sel rs i o w ps → PyData.canLayAll0 (ps.map Prod.snd) = true ∧ PyData.depthAll (ps.map Prod.snd) ≤ Rule.depths rs + 2
  | [], i, o, w, ps, h => by
    unfold Sel at h
    rw [h.2]
    exact ⟨rfl, by show 0 ≤ _; omega⟩
  | r :: rs, i, o, w, ps, h => by
    unfold Sel at h
    unfold Rule.depths
    rcases h with ⟨w', t, ps', rfl, rfl, ht, h⟩ | h
    · obtain ⟨a1, a2⟩ := sel_lay rs _ _ _ _ h
      obtain ⟨b1, b2⟩ := ck_lay r o t ht
      rw [List.map_cons, lay_cons, dep_cons, a1, b1]
      exact ⟨rfl, by omega⟩
    · obtain ⟨a1, a2⟩ := sel_lay rs _ _ _ _ h
      exact ⟨a1, by omega⟩
end
end CZ
namespace CZ
open PySem CF CJ L18 L2 L3 L6
theorem els_int {D : Hp} {ys : List V} {ns : List Nat} (h : L13.Els (fun _ v (n : Nat) => v = V.int (n : Nat)) D ys ns) : ys = nV ns := by
  apply List.ext_getElem?
  intro i
  unfold nV
  rw [List.getElem?_map]
  cases e : ns[i]? with
  | none =>
    rw [List.getElem?_eq_none (by rw [h.1]; exact List.getElem?_eq_none_iff.mp e)]
    rfl
  | some n =>
    obtain ⟨v, ev, rfl⟩ := h.at_ e
    rw [ev]
    rfl
theorem sum_cast (l : List Nat) : ∀ z : Int, (l.map fun n : Nat => (n : Int)).foldl (· + ·) z = z + ((l.sum : Nat) : Int) := by
  induction l with
  | nil => intro z; exact (Int.add_zero z).symm
  | cons a r ih =>
    intro z
    rw [List.map_cons, List.foldl_cons, ih, List.sum_cons, Int.natCast_add, Int.add_assoc]
theorem sum_lens (rs : List Rule) : preSum (fun i => ((lens rs).map fun n : Nat => (n : Int)).getD i 0) ((lens rs).map fun n : Nat => (n : Int)).length = (((Rule.leavess rs).length : Nat) : Int) := by
  rw [L7.preSum_all, sum_cast, Int.zero_add, lens_sum]
theorem sel_le : ∀ (rs : List Rule) (i o : Nat) (w : List Nat) (ps : List CK), Sel rs i o w ps → w.length ≤ rs.length
  | [], _, _, _, _, h => by unfold Sel at h; rw [h.1]; exact Nat.le_refl _
  | r :: rs, i, o, w, ps, h => by
    unfold Sel at h
    rw [List.length_cons]
    rcases h with ⟨w', t, ps', rfl, rfl, _, h⟩ | h
    · rw [List.length_cons]
      have := sel_le rs _ _ _ _ h
      omega
    · have := sel_le rs _ _ _ _ h
      omega
theorem ck_grp {r : Rule} {f : Nat} {t : CK} (hl : r.isLeaf = false) (h : t ∈ ck r f) : ∃ w ps, Sel r.rules 0 f w ps ∧ (r.kind = "all" → w.length = r.rules.length) ∧ (∀ n rs, r = .somr n rs → w.length = n.toNat) ∧ Inc r.rules.length 0 w ∧ t = ((ps.map Prod.fst).flatten, .list (.list (iD w) :: ps.map Prod.snd)) := by
  cases r with
  | leaf l => cases hl
  | allr rs =>
    unfold ck at h
    obtain ⟨w, ps, h1, h2, _, h4, h5⟩ := pickK_mem h
    exact ⟨w, ps, h1, fun _ => h2, (fun n rs' z => nomatch z), h4, h5⟩
  | somr n rs =>
    unfold ck at h
    obtain ⟨w, ps, h1, h2, _, h4, h5⟩ := pickK_mem h
    refine ⟨w, ps, h1, fun z => absurd z CF.kinds_ne.2.2.2.2.2, fun n' rs' z => ?_, h4, h5⟩
    cases z
    exact h2
theorem off_succ {rs : List Rule} {r : Rule} {i : Nat} (h : rs[i]? = some r) : (Rule.leavess (rs.take (i + 1))).length = (Rule.leavess (rs.take i)).length + r.leaves.length := by
  rw [L4.take_snoc h, Rule.leavess_app, List.length_append, Rule.leavess_cons, Rule.leavess_nil, List.append_nil]
end CZ
namespace CZ
open PySem CF CJ L18 L2 L3 L6
theorem fm_filter {α β : Type} {g : α → Option β} {p : α → Bool} {h : α → β} : ∀ {L : List α}, (∀ j ∈ L, g j = if p j = true then some (h j) else none) → L.filterMap g = (L.filter p).map h
  | [], _ => rfl
  | a :: L, hg => by
    have ih := fm_filter (g := g) (p := p) (h := h) (L := L) fun j hj => hg j (List.mem_cons_of_mem _ hj)
    have ha := hg a (List.mem_cons_self ..)
    cases e : p a with
    | true =>
      rw [e, if_pos rfl] at ha
      rw [List.filterMap_cons_some ha, List.filter_cons_of_pos e, List.map_cons, ih]
    | false =>
      rw [e, if_neg (by decide)] at ha
      rw [List.filterMap_cons_none ha, List.filter_cons_of_neg (by rw [e]; decide), ih]
def inF (o s : Nat) : V → Option V := fun x => match x with | .int z => if (o : Int) ≤ z ∧ z < (o : Int) + (s : Nat) then some (.int z) else none | _ => none
theorem mine_eq (o s : Nat) (c : List Nat) : (nV c).filterMap (inF o s) = nV (c.filter fun x => decide (o ≤ x ∧ x < o + s)) := by
  unfold nV
  rw [List.filterMap_map]
  refine fm_filter fun n _ => ?_
  show (if (o : Int) ≤ (n : Nat) ∧ ((n : Nat) : Int) < (o : Int) + (s : Nat) then some (V.int (n : Nat)) else none) = _
  by_cases h : o ≤ n ∧ n < o + s
  · rw [if_pos (by omega), if_pos (decide_eq_true h)]
  · rw [if_neg (by omega), if_neg (by rw [decide_eq_false h]; decide)]
theorem goods_drop {rs : List Rule} (h : Rule.Goods rs) (i : Nat) : Rule.Goods (rs.drop i) := Rule.goods_iff.mpr fun r hr => Rule.goods_iff.mp h r (List.mem_of_mem_drop hr)
end CZ
namespace CZ
open PySem CF CJ CH
theorem step_comm {f : Nat → Nat} (hf : f 0 = 1) (x y : Nat) : stepE (stepE f x) y = stepE (stepE f y) x := by
  funext k
  match k with
  | 0 => rfl
  | 1 =>
    show (f 1 + x * f 0) + y * 1 = (f 1 + y * f 0) + x * 1
    rw [hf]
    omega
  | k + 2 =>
    show (f (k + 2) + x * f (k + 1)) + y * (f (k + 1) + x * f k) = (f (k + 2) + y * f (k + 1)) + x * (f (k + 1) + y * f k)
    rw [Nat.mul_add, Nat.mul_add, Nat.mul_left_comm y x]
    omega
theorem fold_step (x : Nat) : ∀ (xs : List Nat) (f : Nat → Nat), f 0 = 1 → xs.foldl stepE (stepE f x) = stepE (xs.foldl stepE f) x
  | [], f, _ => rfl
  | y :: xs, f, hf => by
    rw [List.foldl_cons, List.foldl_cons, step_comm hf, fold_step x xs _ rfl]
theorem esym_cons (x : Nat) (xs : List Nat) (k : Nat) : esym (x :: xs) (k + 1) = esym xs (k + 1) + x * esym xs k := by
  have : esym (x :: xs) = stepE (esym xs) x := fold_step x xs e0 rfl
  rw [this]
  rfl
theorem ways_cons {m f e : Nat} (h : f + m < e) : ways (m + 1) f e = (ways m (f + 1) e).map (f :: ·) ++ ways (m + 1) (f + 1) e := by
  rw [ways]
  rw [show e - m - f = (e - m - (f + 1)) + 1 by omega, List.range'_succ, List.flatMap_cons, ways]
theorem ways_none {m f e : Nat} (h : ¬ f + m < e) : ways (m + 1) f e = [] := by
  rw [ways, show e - m - f = 0 by omega]
  rfl
theorem ways_sum (c : Nat → Nat) : ∀ (n f m : Nat), ((ways m f (f + n)).map (pr c)).sum = esym ((List.range' f n).map c) m
  | n, f, 0 => by
    rw [ways, esym_zero]
    rfl
  | 0, f, m + 1 => by
    rw [ways_none (by omega)]
    exact (esym_big _ _ (by simp)).symm
  | n + 1, f, m + 1 => by
    rw [List.range'_succ, List.map_cons, esym_cons]
    by_cases h : m < n + 1
    · rw [ways_cons (by omega), List.map_append, List.sum_append, List.map_map]
      have e1 : ((ways m (f + 1) (f + (n + 1))).map (pr c ∘ (f :: ·))).sum = c f * ((ways m (f + 1) (f + 1 + n)).map (pr c)).sum := by
        rw [show f + (n + 1) = f + 1 + n by omega]
        generalize ways m (f + 1) (f + 1 + n) = L
        induction L with
        | nil => rfl
        | cons w L ih =>
          rw [List.map_cons, List.sum_cons, List.map_cons, List.sum_cons, ih, Nat.mul_add]
          congr 1
          exact pr_cons f w
      rw [e1, ways_sum c n (f + 1) m, show f + (n + 1) = f + 1 + n by omega, ways_sum c n (f + 1) (m + 1)]
      omega
    · rw [ways_none (by omega), esym_big _ (m + 1) (by rw [List.length_map, List.length_range']; omega), esym_big _ m (by rw [List.length_map, List.length_range']; omega)]
      rfl
theorem pick_count (m : Nat) (parts : List (List (List Nat))) : (pick m parts).length = esym (parts.map List.length) m := by
  unfold pick
  rw [flat_len]
  have e : (ways m 0 parts.length).map (fun w => (along parts [[]] w).length) = (ways m 0 (0 + parts.length)).map (pr fun p => (parts.getD p []).length) := by
    rw [Nat.zero_add]
    exact List.map_congr_left fun w _ => by rw [along_len]; show 1 * _ = _; rw [Nat.one_mul]
  rw [e, ways_sum]
  congr 1
  apply List.ext_getElem?
  intro i
  rw [List.getElem?_map, List.getElem?_map]
  by_cases hi : i < parts.length
  · rw [List.getElem?_range' hi, List.getElem?_eq_getElem hi]
    show some ((parts.getD (0 + 1 * i) []).length) = some parts[i].length
    rw [Nat.zero_add, Nat.one_mul, List.getD_eq_getElem?_getD, List.getElem?_eq_getElem hi]
    rfl
  · rw [List.getElem?_eq_none (by rw [List.length_range']; omega), List.getElem?_eq_none (by omega)]
    rfl
mutual
theorem chs_count : ∀ (r : Rule) (f : Nat), (chs r f).length = Rule.count r
  | .leaf _, f => by unfold chs Rule.count; rfl
  | .allr rs, f => by unfold chs Rule.count; rw [pick_count, chss_count rs f]
  | .somr n rs, f => by unfold chs Rule.count; rw [pick_count, chss_count rs f]
theorem chss_count : ∀ (rs : List Rule) (f : Nat), (chss rs f).map List.length = Rule.counts rs
  | [], f => by unfold chss Rule.counts; rfl
  | r :: rs, f => by unfold chss Rule.counts; rw [List.map_cons, chs_count r f, chss_count rs]
end
end CZ
namespace CZ
open PySem CF CJ CH L2 L3 L4 L6
theorem esym_pos : ∀ (xs : List Nat) (k : Nat), (∀ x ∈ xs, 1 ≤ x) → k ≤ xs.length → 1 ≤ esym xs k
  | xs, 0, _, _ => by rw [esym_zero]; exact Nat.le_refl _
  | [], k + 1, _, h => absurd h (by simp)
  | x :: xs, k + 1, hx, h => by
    rw [esym_cons]
    have h1 := hx x (List.mem_cons_self ..)
    have h2 := esym_pos xs k (fun y hy => hx y (List.mem_cons_of_mem _ hy)) (by simpa using h)
    have h3 : 1 * 1 ≤ x * esym xs k := Nat.mul_le_mul h1 h2
    omega
mutual
theorem count_pos : ∀ (r : Rule), r.Good → 1 ≤ Rule.count r
  | .leaf _, _ => by unfold Rule.count; exact Nat.le_refl _
  | .allr rs, g => by
    unfold Rule.Good at g
    unfold Rule.count
    exact esym_pos _ _ (counts_pos rs g.2.2) (by rw [counts_map, List.length_map]; exact Nat.le_refl _)
  | .somr n rs, g => by
    unfold Rule.Good at g
    unfold Rule.count
    exact esym_pos _ _ (counts_pos rs g.2.2) (by rw [counts_map, List.length_map]; have := g.1.2; omega)
theorem counts_pos : ∀ (rs : List Rule), Rule.Goods rs → ∀ x ∈ Rule.counts rs, 1 ≤ x
  | [], _, x, hx => by unfold Rule.counts at hx; cases hx
  | r :: rs, g, x, hx => by
    unfold Rule.Goods at g
    unfold Rule.counts at hx
    rcases List.mem_cons.mp hx with rfl | hx
    · exact count_pos r g.1
    · exact counts_pos rs g.2 x hx
end
def noI : V → Bool
  | .int _ => false
  | _ => true
def flt (D : Hp) : Hp := fun b => match D b with
  | some (.lst xs) => if xs.all noI = true then some (.lst xs) else none
  | o => o
theorem flt_same (D : Hp) : Same (flt D) D := fun b o e => by
  unfold flt at e
  split at e
  · rename_i xs h
    split at e
    · rw [h]; exact e
    · cases e
  · exact e
theorem flt_ints {D : Hp} {b : Addr} {c : List Nat} (h : flt D b = some (.lst (nV c))) : c = [] := by
  unfold flt at h
  split at h
  · rename_i xs e
    split at h
    · rename_i hx
      have : xs = nV c := HO.lst.inj (Option.some.inj h)
      subst this
      cases c with
      | nil => rfl
      | cons x r => cases hx
    · cases h
  · rename_i hn
    exact absurd h (hn _)
def ni : PyData → Bool
  | .int _ => false
  | _ => true
mutual
def nl : PyData → Bool
  | .list ds => ds.all ni && nls ds
  | .tuple ds => nls ds
  | _ => true
def nls : List PyData → Bool
  | [] => true
  | d :: ds => nl d && nls ds
end
theorem noI_of {K : PySem.W.Frag} {D : Hp} {v : V} : ∀ {d : PyData}, ni d = true → DataAt K D v d → noI v = true
  | .none, _, h => by unfold DataAt at h; rw [h]; rfl
  | .bool _, _, h => by unfold DataAt at h; rw [h]; rfl
  | .int _, hn, _ => by cases hn
  | .str _, _, h => by unfold DataAt at h; rw [h]; rfl
  | .list _, _, h => by unfold DataAt at h; obtain ⟨a, xs, rfl, _⟩ := h; rfl
  | .tuple _, _, h => by unfold DataAt at h; obtain ⟨a, xs, rfl, _⟩ := h; rfl
  | .dict _, _, h => by unfold DataAt at h; exact h.elim
theorem noI_all {K : PySem.W.Frag} {D : Hp} : ∀ {ds : List PyData} {xs : List V}, ds.all ni = true → DataAll K D xs ds → xs.all noI = true
  | [], xs, _, h => by unfold DataAll at h; rw [h]; rfl
  | d :: ds, xs, hn, h => by
    unfold DataAll at h
    obtain ⟨y, ys, rfl, h1, h2⟩ := h
    rw [List.all_cons, Bool.and_eq_true] at hn ⊢
    exact ⟨noI_of hn.1 h1, noI_all hn.2 h2⟩
mutual
theorem flt_data {K : PySem.W.Frag} {D : Hp} : ∀ (d : PyData) {v : V}, nl d = true → DataAt K D v d → DataAt K (flt D) v d
  | .none, v, _, h => by unfold DataAt at h ⊢; exact h
  | .bool _, v, _, h => by unfold DataAt at h ⊢; exact h
  | .int _, v, _, h => by unfold DataAt at h ⊢; exact h
  | .str _, v, _, h => by unfold DataAt at h ⊢; exact h
  | .list ds, v, hn, h => by
    unfold nl at hn
    rw [Bool.and_eq_true] at hn
    unfold DataAt at h ⊢
    obtain ⟨a, xs, rfl, hr, hA⟩ := h
    refine ⟨a, xs, rfl, ?_, flt_all ds hn.2 hA⟩
    rcases hr with hr | ⟨o, hr⟩
    · refine .inl ?_
      unfold flt
      rw [hr]
      show (if xs.all noI = true then some (HO.lst xs) else none) = _
      rw [if_pos (noI_all hn.1 hA)]
    · refine .inr ⟨o, ?_⟩
      unfold flt
      rw [hr]
  | .tuple ds, v, hn, h => by
    unfold nl at hn
    unfold DataAt at h ⊢
    obtain ⟨a, xs, rfl, hr, hA⟩ := h
    refine ⟨a, xs, rfl, ?_, flt_all ds hn hA⟩
    unfold flt
    rw [hr]
  | .dict _, v, _, h => by unfold DataAt at h; exact h.elim
theorem flt_all {K : PySem.W.Frag} {D : Hp} : ∀ (ds : List PyData) {xs : List V}, nls ds = true → DataAll K D xs ds → DataAll K (flt D) xs ds
  | [], xs, _, h => by unfold DataAll at h ⊢; exact h
  | d :: ds, xs, hn, h => by
    unfold nls at hn
    rw [Bool.and_eq_true] at hn
    unfold DataAll at h ⊢
    obtain ⟨y, ys, e, h1, h2⟩ := h
    exact ⟨y, ys, e, flt_data d hn.1 h1, flt_all ds hn.2 h2⟩
end
theorem nls_strs : ∀ (ws : List Str), (ws.map PyData.str).all ni = true ∧ nls (ws.map PyData.str) = true
  | [] => ⟨rfl, by unfold nls; rfl⟩
  | w :: ws => by
    obtain ⟨a, b⟩ := nls_strs ws
    exact ⟨by rw [List.map_cons, List.all_cons, a]; rfl, by rw [List.map_cons]; unfold nls nl; rw [b]; rfl⟩
theorem nl_leaf (l : Leaf) : nl l.data = true := by
  cases l with
  | frm w ws a b o =>
    obtain ⟨h1, h2⟩ := nls_strs ws
    simp [Leaf.data, nl, nls, h1, h2]
  | off w ws a o =>
    obtain ⟨h1, h2⟩ := nls_strs ws
    simp [Leaf.data, nl, nls, h1, h2]
mutual
theorem nl_rule : ∀ r : Rule, nl r.data = true
  | .leaf l => by unfold Rule.data; exact nl_leaf l
  | .allr rs => by
    obtain ⟨h1, h2⟩ := nl_rules rs
    unfold Rule.data
    simp [nl, nls, h1, h2]
  | .somr n rs => by
    obtain ⟨h1, h2⟩ := nl_rules rs
    unfold Rule.data
    simp [nl, nls, h1, h2]
theorem nl_rules : ∀ rs : List Rule, (Rule.datas rs).all ni = true ∧ nls (Rule.datas rs) = true
  | [] => by unfold Rule.datas; exact ⟨rfl, by unfold nls; rfl⟩
  | r :: rs => by
    obtain ⟨h1, h2⟩ := nl_rules rs
    have h3 := nl_rule r
    have h4 : ni r.data = true := by
      cases r with
      | leaf l => cases l <;> rfl
      | allr rs => unfold Rule.data; rfl
      | somr n rs => unfold Rule.data; rfl
    unfold Rule.datas
    exact ⟨by rw [List.all_cons, h4, h1]; rfl, by unfold nls; rw [h3, h2]; rfl⟩
end
theorem els_lists {K : PySem.W.Frag} {D : Hp} : ∀ {css : List (List Nat)} {zs : List V}, L13.Els L13.NL D zs css → DataAll K D zs (css.map fun c => .list (nD c))
  | [], zs, h => by
    rw [List.eq_nil_of_length_eq_zero (l := zs) h.1]
    exact DataAll.nil
  | c :: css, [], h => absurd h.1 (by simp)
  | c :: css, z :: zs, h => by
    obtain ⟨q, rfl, e⟩ := h.2 0 z c rfl rfl
    exact DataAll.cons (nat_list e) (els_lists ⟨by have := h.1; simpa using this, fun i v a e1 e2 => h.2 (i + 1) v a (by simpa using e1) (by simpa using e2)⟩)
theorem lists_lay : ∀ css : List (List Nat), PyData.canLayAll0 (css.map fun c => .list (nD c)) = true ∧ PyData.depthAll (css.map fun c => .list (nD c)) ≤ 1
  | [] => ⟨rfl, by show 0 ≤ 1; decide⟩
  | c :: css => by
    obtain ⟨h1, h2⟩ := lists_lay css
    have n := nat_lay c
    rw [List.map_cons, lay_cons, dep_cons, h1]
    refine ⟨by rw [show (PyData.list (nD c)).canLay0 = true from n.1]; rfl, ?_⟩
    have e : (PyData.list (nD c)).depth = 1 := by show PyData.depthAll (nD c) + 1 = 1; rw [n.2]
    rw [e]
    omega
end CZ
set_option maxHeartbeats 4000000
namespace K42
open PySem PySem.Spec PyProof.Rows L2 L3 L4 L5 L6 L7 L8
seal L2.PE L2.PT L2.PW L2.PA L2.PS L2.PSs L2.PG L2.PGs L2.PI L2.PC L2.PO L3.PF L3.PIfs L2.OpR L2.CallR L2.IxR L2.SlR
def NS : List Str := ["__setattr__", "__getattribute__", "__getattr__", "__class__", "row", "most", "name"]
theorem fr_most : freeName NS "most" := ⟨by decide, by rw [typeLookup_type, builtinLookup_eq_fast]; kernel_rfl⟩
def top (i : Nat) : Stmt := PySem.Challenge.pw_court_k42_whole_choices_listed.main.body.getD i (.Pass ⟨0, 0, 0, 0⟩)
abbrev s_q7 : Stmt := (top 1)
def N_q7 : List Str := ["rule"]
theorem sc_q7 : FnScope N_q7 ["rule"] (defScope s_q7) := ⟨rfl, rfl, rfl, by decide +kernel, rfl, by decide +kernel, by decide +kernel⟩
abbrev s_q22 : Stmt := (top 2)
def N_q22 : List Str := ["group"]
theorem sc_q22 : FnScope N_q22 ["group"] (defScope s_q22) := ⟨rfl, rfl, rfl, by decide +kernel, rfl, by decide +kernel, by decide +kernel⟩
abbrev s_q4 : Stmt := (top 3)
def N_q4 : List Str := ["leaf"]
theorem sc_q4 : FnScope N_q4 ["leaf"] (defScope s_q4) := ⟨rfl, rfl, rfl, by decide +kernel, rfl, by decide +kernel, by decide +kernel⟩
abbrev s_q19 : Stmt := (top 4)
def N_q19 : List Str := ["rule", "leaves", "inner"]
theorem sc_q19 : FnScope N_q19 ["rule"] (defScope s_q19) := ⟨rfl, rfl, rfl, by decide +kernel, rfl, by decide +kernel, by decide +kernel⟩
abbrev s_q0 : Stmt := (inClass (top 7) 0)
def N_q0 : List Str := ["self", "most"]
theorem sc_q0 : FnScope N_q0 ["self", "most"] (defScope s_q0) := ⟨rfl, rfl, rfl, by decide +kernel, rfl, by decide +kernel, by decide +kernel⟩
abbrev s_q20 : Stmt := (top 10)
def N_q20 : List Str := ["group"]
theorem sc_q20 : FnScope N_q20 ["group"] (defScope s_q20) := ⟨rfl, rfl, rfl, by decide +kernel, rfl, by decide +kernel, by decide +kernel⟩
abbrev s_q23 : Stmt := (top 11)
def N_q23 : List Str := ["numbers", "many", "sums", "number"]
theorem sc_q23 : FnScope N_q23 ["numbers", "many"] (defScope s_q23) := ⟨rfl, rfl, rfl, by decide +kernel, rfl, by decide +kernel, by decide +kernel⟩
abbrev s_q6 : Stmt := (top 12)
def N_q6 : List Str := ["rule"]
theorem sc_q6 : FnScope N_q6 ["rule"] (defScope s_q6) := ⟨rfl, rfl, rfl, by decide +kernel, rfl, by decide +kernel, by decide +kernel⟩
abbrev s_q5 : Stmt := (top 13)
def N_q5 : List Str := ["course"]
theorem sc_q5 : FnScope N_q5 ["course"] (defScope s_q5) := ⟨rfl, rfl, rfl, by decide +kernel, rfl, by decide +kernel, by decide +kernel⟩
abbrev s_q24 : Stmt := (top 14)
def N_q24 : List Str := ["many", "first", "end", "ways", "place"]
theorem sc_q24 : FnScope N_q24 ["many", "first", "end"] (defScope s_q24) := ⟨rfl, rfl, rfl, by decide +kernel, rfl, by decide +kernel, by decide +kernel⟩
abbrev s_q21 : Stmt := (top 15)
def N_q21 : List Str := ["heads", "tails", "found", "head"]
theorem sc_q21 : FnScope N_q21 ["heads", "tails"] (defScope s_q21) := ⟨rfl, rfl, rfl, by decide +kernel, rfl, by decide +kernel, by decide +kernel⟩
abbrev s_q3 : Stmt := (top 16)
def N_q3 : List Str := ["rules", "first", "found", "rule"]
theorem sc_q3 : FnScope N_q3 ["rules", "first"] (defScope s_q3) := ⟨rfl, rfl, rfl, by decide +kernel, rfl, by decide +kernel, by decide +kernel⟩
abbrev s_q2 : Stmt := (top 17)
def N_q2 : List Str := ["rule", "first", "parts", "found", "way", "together", "place"]
theorem sc_q2 : FnScope N_q2 ["rule", "first"] (defScope s_q2) := ⟨rfl, rfl, rfl, by decide +kernel, rfl, by decide +kernel, by decide +kernel⟩
abbrev s_q1 : Stmt := (top 18)
def N_q1 : List Str := ["course"]
theorem sc_q1 : FnScope N_q1 ["course"] (defScope s_q1) := ⟨rfl, rfl, rfl, by decide +kernel, rfl, by decide +kernel, by decide +kernel⟩
abbrev s_q10 : Stmt := (top 20)
def N_q10 : List Str := ["_law_script", "_law_k"]
theorem sc_q10 : FnScope N_q10 ["_law_script", "_law_k"] (defScope s_q10) := ⟨rfl, rfl, rfl, by decide +kernel, rfl, by decide +kernel, by decide +kernel⟩
abbrev s_q15 : Stmt := (top 21)
def N_q15 : List Str := ["_law_cell", "_law_k", "_law_some"]
theorem sc_q15 : FnScope N_q15 ["_law_cell", "_law_k"] (defScope s_q15) := ⟨rfl, rfl, rfl, by decide +kernel, rfl, by decide +kernel, by decide +kernel⟩
abbrev s_q14 : Stmt := (top 22)
def N_q14 : List Str := ["_law_cell", "_law_want", "_law_word", "_law_words"]
theorem sc_q14 : FnScope N_q14 ["_law_cell"] (defScope s_q14) := ⟨rfl, rfl, rfl, by decide +kernel, rfl, by decide +kernel, by decide +kernel⟩
abbrev s_q12 : Stmt := (top 23)
def N_q12 : List Str := ["_law_cell", "_law_rules"]
theorem sc_q12 : FnScope N_q12 ["_law_cell", "_law_rules"] (defScope s_q12) := ⟨rfl, rfl, rfl, by decide +kernel, rfl, by decide +kernel, by decide +kernel⟩
abbrev s_q18 : Stmt := (top 24)
def N_q18 : List Str := ["_law_cells", "_law_last", "_law_stack", "_law_leaves", "_law_cell", "_law_many", "_law_deep", "_law_rules"]
theorem sc_q18 : FnScope N_q18 ["_law_cells", "_law_last"] (defScope s_q18) := ⟨rfl, rfl, rfl, by decide +kernel, rfl, by decide +kernel, by decide +kernel⟩
abbrev s_q11 : Stmt := (top 25)
def N_q11 : List Str := ["_law_rule", "_law_sums", "_law_one", "_law_here"]
theorem sc_q11 : FnScope N_q11 ["_law_rule"] (defScope s_q11) := ⟨rfl, rfl, rfl, by decide +kernel, rfl, by decide +kernel, by decide +kernel⟩
abbrev s_q17 : Stmt := (top 26)
def N_q17 : List Str := ["_law_rule"]
theorem sc_q17 : FnScope N_q17 ["_law_rule"] (defScope s_q17) := ⟨rfl, rfl, rfl, by decide +kernel, rfl, by decide +kernel, by decide +kernel⟩
abbrev s_q13 : Stmt := (top 27)
def N_q13 : List Str := ["_law_rule", "_law_first", "_law_chosen", "_law_key_here", "_law_places", "_law_number", "_law_k", "_law_one", "_law_size_here", "_law_mine", "_law_inner"]
theorem sc_q13 : FnScope N_q13 ["_law_rule", "_law_first", "_law_chosen"] (defScope s_q13) := ⟨rfl, rfl, rfl, by decide +kernel, rfl, by decide +kernel, by decide +kernel⟩
abbrev s_q16 : Stmt := (top 28)
def N_q16 : List Str := ["_law_choice", "_law_size_here", "_law_k"]
theorem sc_q16 : FnScope N_q16 ["_law_choice", "_law_size_here"] (defScope s_q16) := ⟨rfl, rfl, rfl, by decide +kernel, rfl, by decide +kernel, by decide +kernel⟩
abbrev s_q9 : Stmt := (top 29)
def N_q9 : List Str := ["_law_course", "_law_found", "e"]
theorem sc_q9 : FnScope N_q9 ["_law_course"] (defScope s_q9) := ⟨rfl, rfl, rfl, by decide +kernel, rfl, by decide +kernel, by decide +kernel⟩
abbrev s_q8 : Stmt := (top 30)
def N_q8 : List Str := ["_law_script", "_law_rule", "_law_found", "_law_many", "_law_before", "_law_choice", "_law_key_here", "_law_kept", "_law_again"]
theorem sc_q8 : FnScope N_q8 ["_law_script"] (defScope s_q8) := ⟨rfl, rfl, rfl, by decide +kernel, rfl, by decide +kernel, by decide +kernel⟩
structure Adr where
  is_leaf : Addr
  rules_of : Addr
  copy_of_leaf : Addr
  leaves_of_rule : Addr
  TooMany___init__ : Addr
  many_of : Addr
  sum_of_products : Addr
  count_of_rule : Addr
  count_choices : Addr
  ways_of_taking : Addr
  put_together : Addr
  choices_of_rules : Addr
  choices_of_rule : Addr
  choices : Addr
  law_cell_at : Addr
  law_mixed : Addr
  law_leaf : Addr
  law_group : Addr
  law_tree : Addr
  law_count : Addr
  law_size : Addr
  law_key : Addr
  law_rising : Addr
  law_asked : Addr
  C_CourtError : Addr
  C_TooMany : Addr
structure Txt (K : PySem.W.Frag) (mg : Str → Option Value) (a : Adr) : Prop where
  m_q7 : mg "is_leaf" = some (.ref a.is_leaf)
  m_q22 : mg "rules_of" = some (.ref a.rules_of)
  m_q4 : mg "copy_of_leaf" = some (.ref a.copy_of_leaf)
  m_q19 : mg "leaves_of_rule" = some (.ref a.leaves_of_rule)
  m_q20 : mg "many_of" = some (.ref a.many_of)
  m_q23 : mg "sum_of_products" = some (.ref a.sum_of_products)
  m_q6 : mg "count_of_rule" = some (.ref a.count_of_rule)
  m_q5 : mg "count_choices" = some (.ref a.count_choices)
  m_q24 : mg "ways_of_taking" = some (.ref a.ways_of_taking)
  m_q21 : mg "put_together" = some (.ref a.put_together)
  m_q3 : mg "choices_of_rules" = some (.ref a.choices_of_rules)
  m_q2 : mg "choices_of_rule" = some (.ref a.choices_of_rule)
  m_q1 : mg "choices" = some (.ref a.choices)
  m_q10 : mg "_law_cell_at" = some (.ref a.law_cell_at)
  m_q15 : mg "_law_mixed" = some (.ref a.law_mixed)
  m_q14 : mg "_law_leaf" = some (.ref a.law_leaf)
  m_q12 : mg "_law_group" = some (.ref a.law_group)
  m_q18 : mg "_law_tree" = some (.ref a.law_tree)
  m_q11 : mg "_law_count" = some (.ref a.law_count)
  m_q17 : mg "_law_size" = some (.ref a.law_size)
  m_q13 : mg "_law_key" = some (.ref a.law_key)
  m_q16 : mg "_law_rising" = some (.ref a.law_rising)
  m_q9 : mg "_law_asked" = some (.ref a.law_asked)
  m_CourtError : mg "CourtError" = some (.ref a.C_CourtError)
  n_CourtError : PySem.W.nsIn K mainGlobals "CourtError" = some (some (.ref a.C_CourtError))
  x_CourtError : XC K NS none a.C_CourtError
  kit_CourtError_CourtError : PySem.W.kitOne K (.ref a.C_CourtError) (.ref a.C_CourtError) = some true
  exm_CourtError_CourtError : PySem.W.exmOne K (.ref a.C_CourtError) (.ref a.C_CourtError) = some true
  kit_CourtError_TooMany : PySem.W.kitOne K (.ref a.C_CourtError) (.ref a.C_TooMany) = some false
  kit_CourtError_ValueError : PySem.W.kitOne K (.ref a.C_CourtError) (.type "ValueError") = some true
  m_TooMany : mg "TooMany" = some (.ref a.C_TooMany)
  n_TooMany : PySem.W.nsIn K mainGlobals "TooMany" = some (some (.ref a.C_TooMany))
  x_TooMany : XC K NS (some (.ref a.TooMany___init__)) a.C_TooMany
  fn_TooMany : PySem.W.isFn K (.ref a.TooMany___init__) = true
  kit_TooMany_CourtError : PySem.W.kitOne K (.ref a.C_TooMany) (.ref a.C_CourtError) = some true
  exm_TooMany_CourtError : PySem.W.exmOne K (.ref a.C_TooMany) (.ref a.C_CourtError) = some true
  kit_TooMany_TooMany : PySem.W.kitOne K (.ref a.C_TooMany) (.ref a.C_TooMany) = some true
  exm_TooMany_TooMany : PySem.W.exmOne K (.ref a.C_TooMany) (.ref a.C_TooMany) = some true
  kit_TooMany_ValueError : PySem.W.kitOne K (.ref a.C_TooMany) (.type "ValueError") = some true
  z_bool : mg "bool" = none
  z_int : mg "int" = none
  z_isinstance : mg "isinstance" = none
  z_len : mg "len" = none
  z_list : mg "list" = none
  z_max : mg "max" = none
  z_range : mg "range" = none
  z_sum : mg "sum" = none
  k_MOST_CHOICES : ∃ t, mg "MOST_CHOICES" = some (.int 32 t)
section
variable {P : Program} {w : World} {K : PySem.W.Frag} {mg : Str → Option Value} {base : Heap} {a : Adr}
def cellZ (ns : List Int) (k : Int) : Int := ns.getD k.toNat 0
def sp_q10 (K : PySem.W.Frag) : Sp := fun vs H Q _ => ∃ (a : Addr) (ns : List Int) (k : Int), vs = [.ref a, .int k] ∧ SqL K H a (ns.map V.int) ∧ ns.length ≤ 63 ∧ 0 ≤ k ∧ Q (.int (cellZ ns k)) H
theorem ok_q10 {f : Addr} {fd : FuncData} (F : Fun K "_law_cell_at" "_law_cell_at" s_q10 f fd) (T : Txt K mg a) : FnOk P w K mg base CX0 1 f fd ["_law_script", "_law_k"] (sp_q10 K) := by
  refine F.ok sc_q10 (fun vs H Q E h => ?_) (fun cdv A outer s H vs Q E hr h => ?_)
  · obtain ⟨a, ns, k, rfl, _⟩ := h
    rfl
  · obtain ⟨a, ns, k, rfl, hS, hl, h0, q⟩ := h
    refine ⟨_, (pss_cons (ps_if (pt_cmpR op_lt (pvA 1 (defScope s_q10) N_q10 rfl rfl) (pe_callBN (sc := defScope s_q10) call_len rfl (by decide +kernel) T.z_len bt_len (pa_cons (pvA 0 (defScope s_q10) N_q10 rfl rfl) pa_nil)) (nomark _)) (pss_one (ps_ret (pe_ix ix_seq (pvA 0 (defScope s_q10) N_q10 rfl rfl) (pvA 1 (defScope s_q10) N_q10 rfl rfl) (fun _ _ => rfl)))) pss_nil)
      (pss_one (ps_ret pe_int))), ?_⟩
    refine ⟨_, rfl, _, rfl, .ref a, ns.length, rfl, .inl ⟨_, hS, by simp⟩, _, _, rfl, rfl, _, rfl, ite2 (fun hlt => ?_) (fun hge => ?_)⟩
    · have hk : k < (ns.length : Int) := of_decide_eq_true hlt
      refine ⟨_, rfl, _, rfl, .inl ⟨a, _, k, .int (cellZ ns k), rfl, rfl, hS, ?_, q⟩⟩
      have hk' : k.toNat < ns.length := by omega
      have e : (k.toNat : Int) = k := Int.toNat_of_nonneg h0
      rw [← e]
      refine atI_nat ?_
      rw [List.getElem?_map, List.getElem?_eq_getElem hk']
      unfold cellZ
      rw [Int.toNat_natCast, List.getD_eq_getElem?_getD, List.getElem?_eq_getElem hk']
      rfl
    · have hk : ¬ k < (ns.length : Int) := fun z => hge (decide_eq_true z)
      have e : cellZ ns k = 0 := by
        unfold cellZ
        rw [List.getD_eq_getElem?_getD, List.getElem?_eq_none (by omega)]
        rfl
      rw [e] at q
      exact q
theorem rep_zero (n : Nat) : (List.replicate n [V.int 0]).flatten = nV (List.replicate n 0) := by
  induction n with
  | zero => rfl
  | succ n ih => rw [List.replicate_succ, List.flatten_cons, ih]; rfl
theorem getD_at {l : List Nat} {p : Nat} (h : p < l.length) : l[p]? = some (l.getD p 0) := by
  rw [List.getD_eq_getElem?_getD, List.getElem?_eq_getElem h]
  rfl
theorem nV_at {l : List Nat} {p : Nat} (h : p < l.length) : atI (nV l) ((p : Nat) : Int) = some (.int (l.getD p 0 : Nat)) :=
  atI_nat (by unfold nV; rw [List.getElem?_map, getD_at h]; rfl)
theorem nV_len (l : List Nat) : (nV l).length = l.length := by unfold nV; rw [List.length_map]
theorem nV_snoc (l : List Nat) (x : Nat) : nV l ++ [V.int (x : Nat)] = nV (l ++ [x]) := by unfold nV; rw [List.map_append]; rfl
theorem course_tup {D : Hp} {x : V} {c : CF.Course} (h : DataAt K D x c.data) : ∃ t po y, x = .ref t ∧ D t = some (.tup [.ref po, y]) ∧ (∃ xs, Rd D po (.lst xs) ∧ DataAll K D xs (c.oftens.map CF.oftD)) ∧ True ∧ DataAt K D y c.rule.data := by
  obtain ⟨t, xs, rfl, e, hA⟩ := DataAt.tup h
  obtain ⟨y1, r1, rfl, h1, hA⟩ := DataAll.uncons hA
  obtain ⟨y2, r2, rfl, h2, hA⟩ := DataAll.uncons hA
  rw [DataAll.none hA] at e
  obtain ⟨p, zs, rfl, hp, hz⟩ := DataAt.lst h1
  exact ⟨t, p, y2, rfl, e, ⟨zs, hp, hz⟩, trivial, h2⟩
def sp_q7 (K : PySem.W.Frag) : Sp := fun vs H Q _ => ∃ (x : V) (r : CF.Rule), vs = [x] ∧ DataAt K H x r.data ∧ ∀ H', Same H H' → Q (.bl r.isLeaf) H'
theorem ok_q7 {f : Addr} {fd : FuncData} (F : Fun K "is_leaf" "is_leaf" s_q7 f fd) (T : Txt K mg a) : FnOk P w K mg base CX0 1 f fd ["rule"] (sp_q7 K) := by
  refine F.ok sc_q7 (fun vs H Q E h => ?_) (fun cdv A outer s H vs Q E hr h => ?_)
  · obtain ⟨x, r, rfl, _⟩ := h
    rfl
  · obtain ⟨x, r, rfl, hx, q⟩ := h
    refine ⟨_, (pss_one (ps_ret (pe_cmpR op_in_seq (pe_ix ix_tup (pvA 0 (defScope s_q7) N_q7 rfl rfl) pe_int (fun _ _ => rfl)) (pe_tup (pa_cons pe_str (pa_cons pe_str pa_nil))) (by with_unfolding_all rfl)))), ?_⟩
    obtain ⟨t, ys, rfl, et⟩ := CF.Rule.tup hx
    refine ⟨_, rfl, t, _, _, _, rfl, rfl, SqT.of et, CF.atI_zero, by first | decide | (simp only [List.length_cons, List.length_nil, List.length_append, List.length_map]; decide), fun p hp => ⟨p, _, rfl, .inr (SqT.of upd_same), rfl, rfl, ?_⟩⟩
    rw [if_neg (show ¬ (false = true) by decide)]
    show Q (.bl (inV (.str r.kind) ((["from", "of"] : List Str).map V.str))) _
    rw [inV_strs]
    have e : (["from", "of"] : List Str).contains r.kind = r.isLeaf := by
      rw [← CF.Rule.isLeaf_kind r, Bool.eq_iff_iff, List.contains_iff_mem]
      simp only [List.mem_cons, List.not_mem_nil, or_false, Bool.or_eq_true, decide_eq_true_eq]
    rw [e]
    exact q _ (Same.upd0 hp)
def sp_q22 (K : PySem.W.Frag) : Sp := fun vs H Q _ => ∃ (t : Addr) (hd : List V) (v : V), vs = [.ref t] ∧ SqT K H t (hd ++ [v]) ∧ Q v H
theorem ok_q22 {f : Addr} {fd : FuncData} (F : Fun K "rules_of" "rules_of" s_q22 f fd) (T : Txt K mg a) : FnOk P w K mg base CX0 1 f fd ["group"] (sp_q22 K) := by
  refine F.ok sc_q22 (fun vs H Q E h => ?_) (fun cdv A outer s H vs Q E hr h => ?_)
  · obtain ⟨t, hd, v, rfl, _⟩ := h
    rfl
  · obtain ⟨t, hd, v, rfl, et, q⟩ := h
    refine ⟨_, (pss_one (ps_ret (pe_ix ix_tup (pvA 0 (defScope s_q22) N_q22 rfl rfl) (pe_un un_neg pe_int) (fun _ _ => rfl)))), ?_⟩
    exact ⟨_, rfl, _, rfl, t, _, _, _, rfl, rfl, et, atI_last hd v, q⟩
def sp_q4 (K : PySem.W.Frag) : Sp := fun vs H Q _ => ∃ (x : V) (l : CF.Leaf) (D : Hp), vs = [x] ∧ Same D H ∧ DataAt K D x l.data ∧ ∀ D' H' t q, Gr D H D' H' → D' t = some (.tup (l.items (.ref q))) → D' q = some (.lst (l.words.map V.str)) → H t = none → H q = none → Q (.ref t) H'
theorem ok_q4 {f : Addr} {fd : FuncData} (F : Fun K "copy_of_leaf" "copy_of_leaf" s_q4 f fd) (T : Txt K mg a) : FnOk P w K mg base CX0 1 f fd ["leaf"] (sp_q4 K) := by
  refine F.ok sc_q4 (fun vs H Q E h => ?_) (fun cdv A outer s H vs Q E hr h => ?_)
  · obtain ⟨x, l, D, rfl, _⟩ := h
    rfl
  · obtain ⟨x, l, D, rfl, sD, hx, q⟩ := h
    refine ⟨_, (pss_one (ps_ret (pe_op op_catT (pe_op op_catT (pe_slice sl_tup (pvA 0 (defScope s_q4) N_q4 rfl rfl) po_none (po_some pe_int)) (pe_tup (pa_cons (pe_callTyN (sc := defScope s_q4) call_list_of rfl (by decide +kernel) T.z_list bt_list (pa_cons (pe_ix ix_tup (pvA 0 (defScope s_q4) N_q4 rfl rfl) pe_int (fun _ _ => rfl)) pa_nil)) pa_nil))) (pe_slice sl_tup (pvA 0 (defScope s_q4) N_q4 rfl rfl) (po_some pe_int) po_none)))), ?_⟩
    have hs : sizeLine = 16777216 := sizeLine_eq
    obtain ⟨t, p, rfl, et, ep⟩ := CF.Leaf.tup hx
    have l2 := CF.Leaf.hd_len l
    have l3 := CF.Leaf.tl_len l
    refine ⟨_, rfl, _, rfl, t, _, rfl, SqT.of (sD _ _ et), CF.Leaf.nw2 l _, fun q1 hq1 => ?_⟩
    rw [CF.Leaf.cut2]
    have G1 : Gr D H D (upd H q1 (.tup l.hd)) := Gr.layH sD hq1
    have f1 : upd H q1 (.tup l.hd) q1 = some (.tup l.hd) := upd_same
    generalize upd H q1 (.tup l.hd) = H1 at G1 f1 ⊢
    refine ⟨_, rfl, t, _, _, _, rfl, rfl, SqT.of (G1.dh _ _ et), CF.Leaf.at2 l _, p, _, rfl, .inl (.inl (Rd.same G1.dh ep)), fun q2 hq2 => ?_⟩
    have n2 : H q2 = none := G1.hh.free hq2
    have G2 := G1.trans (Gr.lay (o := .lst (l.words.map V.str)) G1.dh hq2)
    have f2 : upd H1 q2 (.lst (l.words.map V.str)) q1 = some (.tup l.hd) := (Same.upd0 hq2) _ _ f1
    have d2 : upd D q2 (.lst (l.words.map V.str)) q2 = some (.lst (l.words.map V.str)) := upd_same
    generalize upd H1 q2 (.lst (l.words.map V.str)) = H2 at G2 f2 ⊢
    generalize upd D q2 (.lst (l.words.map V.str)) = D2 at G2 d2 ⊢
    refine ⟨by first | decide | (simp only [List.length_cons, List.length_nil, List.length_append, List.length_map]; decide), fun q3 hq3 => ?_⟩
    have G3 := G2.trans (Gr.layH (o := .tup [.ref q2]) G2.dh hq3)
    have f3 : upd H2 q3 (.tup [.ref q2]) q3 = some (.tup [.ref q2]) := upd_same
    have g3 : upd H2 q3 (.tup [.ref q2]) q1 = some (.tup l.hd) := (Same.upd0 hq3) _ _ f2
    generalize upd H2 q3 (.tup [.ref q2]) = H3 at G3 f3 g3 ⊢
    refine ⟨q1, q3, _, _, rfl, rfl, SqT.of g3, SqT.of f3, CF.Leaf.hd_ne l, by rw [l2]; first | decide | (simp only [List.length_cons, List.length_nil, List.length_append, List.length_map]; decide), (fun z => nomatch z), fun _ q4 hq4 => ?_⟩
    have G4 := G3.trans (Gr.layH (o := .tup (l.hd ++ [.ref q2])) G3.dh hq4)
    have f4 : upd H3 q4 (.tup (l.hd ++ [.ref q2])) q4 = some (.tup (l.hd ++ [.ref q2])) := upd_same
    generalize upd H3 q4 (.tup (l.hd ++ [.ref q2])) = H4 at G4 f4 ⊢
    refine ⟨_, rfl, _, rfl, t, _, rfl, SqT.of (G4.dh _ _ (G4.dd _ _ et)), CF.Leaf.nw3 l _, fun q5 hq5 => ?_⟩
    rw [CF.Leaf.cut3]
    have G5 := G4.trans (Gr.layH (o := .tup l.tl) G4.dh hq5)
    have f5 : upd H4 q5 (.tup l.tl) q5 = some (.tup l.tl) := upd_same
    have g5 : upd H4 q5 (.tup l.tl) q4 = some (.tup (l.hd ++ [.ref q2])) := (Same.upd0 hq5) _ _ f4
    generalize upd H4 q5 (.tup l.tl) = H5 at G5 f5 g5 ⊢
    refine ⟨q4, q5, _, _, rfl, rfl, SqT.of g5, SqT.of f5, (fun z => CF.Leaf.hd_ne l (List.append_eq_nil_iff.mp z).1), by rw [List.length_append, l2]; show 2 + 1 + l.tl.length ≤ sizeLine; omega, (fun z => absurd z (CF.Leaf.tl_ne l)), fun _ q6 hq6 => ?_⟩
    rw [CF.Leaf.glue]
    have G6 := G5.trans (Gr.lay (o := .tup (l.items (.ref q2))) G5.dh hq6)
    exact q _ _ q6 q2 G6 upd_same ((Same.upd0 (free_of G5.dh hq6)) _ _ d2) (G5.hh.free hq6) n2
def sp_q19 (K : PySem.W.Frag) (n : Nat) : Sp := fun vs H Q _ => ∃ (x : V) (r : CF.Rule) (D : Hp), vs = [x] ∧ Same D H ∧ DataAt K D x r.data ∧ r.depth < n ∧ r.leaves.length ≤ 1000 ∧ ∀ D' H' p xs, Gr D H D' H' → H p = none → H' p = some (.lst xs) → D' p = none → CF.LeafVs D' H xs r.leaves → Q (.ref p) H'
theorem none_q19 {vs : List V} {H : Hp} {Q : VK} {E : XK} (h : sp_q19 K 0 vs H Q E) : False := by
  obtain ⟨x, r, D, _, _, _, h, _⟩ := h
  omega
theorem step_q19 {n : Nat} {fd_q19 fd_q4 fd_q7 fd_q22 : FuncData} (T : Txt K mg a)
    (G_q4 : FnOk P w K mg base CX0 1 a.copy_of_leaf fd_q4 ["leaf"] (sp_q4 K)) (F_q4 : Fun K "copy_of_leaf" "copy_of_leaf" s_q4 a.copy_of_leaf fd_q4) (b_q4 : Binds K fd_q4 ["leaf"] [])
    (G_q7 : FnOk P w K mg base CX0 1 a.is_leaf fd_q7 ["rule"] (sp_q7 K)) (F_q7 : Fun K "is_leaf" "is_leaf" s_q7 a.is_leaf fd_q7) (b_q7 : Binds K fd_q7 ["rule"] [])
    (G_q22 : FnOk P w K mg base CX0 1 a.rules_of fd_q22 ["group"] (sp_q22 K)) (F_q22 : Fun K "rules_of" "rules_of" s_q22 a.rules_of fd_q22) (b_q22 : Binds K fd_q22 ["group"] [])
    (G_q19 : FnOk P w K mg base CX0 (2 + n) a.leaves_of_rule fd_q19 ["rule"] (sp_q19 K n)) (F_q19 : Fun K "leaves_of_rule" "leaves_of_rule" s_q19 a.leaves_of_rule fd_q19) (b_q19 : Binds K fd_q19 ["rule"] []) : FnOk P w K mg base CX0 (2 + n + 1) a.leaves_of_rule fd_q19 ["rule"] (sp_q19 K (n + 1)) := by
  have F := F_q19
  refine F.ok sc_q19 (fun vs H Q E h => ?_) (fun cdv A outer s H vs Q E hr h => ?_)
  · obtain ⟨x, r, D, rfl, _⟩ := h
    rfl
  · obtain ⟨x, r, D, rfl, sD, hx, hd, hm, q⟩ := h
    refine ⟨_, (pss_cons (ps_if (pt_val (pe_callN (sc := defScope s_q19) G_q7 (hr.mono (by omega)) rfl (by decide +kernel) T.m_q7 F_q7.kp b_q7 .nil pass0 (pa_cons (pvA 0 (defScope s_q19) N_q19 rfl rfl) pa_nil))) (pss_one (ps_ret (pe_lst (pa_cons (pe_callN (sc := defScope s_q19) G_q4 (hr.mono (by omega)) rfl (by decide +kernel) T.m_q4 F_q4.kp b_q4 .nil pass0 (pa_cons (pvA 0 (defScope s_q19) N_q19 rfl rfl) pa_nil)) pa_nil)))) pss_nil)
      (pss_cons (psN (i := 1) (sc := defScope s_q19) (M := N_q19) rfl rfl (by decide +kernel) (pe_lst pa_nil))
      (pss_cons (ps_for PassesOwn.never rfl (pi_list (pe_callN (sc := defScope s_q19) G_q22 (hr.mono (by omega)) rfl (by decide +kernel) T.m_q22 F_q22.kp b_q22 .nil pass0 (pa_cons (pvA 0 (defScope s_q19) N_q19 rfl rfl) pa_nil))) (pgN (i := 2) (sc := defScope s_q19) (M := N_q19) rfl rfl (by decide +kernel)) (pss_one (ps_expr (pe_bm PySem.F.plainAttrs_list PySem.F.slot_list_extend PySem.F.type_list_extend mt_extend (pvA 1 (defScope s_q19) N_q19 rfl rfl) (pa_cons (pe_callN (sc := defScope s_q19) G_q19 (hr.mono (by omega)) rfl (by decide +kernel) T.m_q19 F_q19.kp b_q19 .nil pass0 (pa_cons (pvA 2 (defScope s_q19) N_q19 rfl rfl) pa_nil)) pa_nil)))))
      (pss_one (ps_ret (pvA 1 (defScope s_q19) N_q19 rfl rfl)))))), ?_⟩
    have hs : sizeLine = 16777216 := sizeLine_eq
    refine ⟨_, rfl, _, r, rfl, DataAt.up hx sD, fun H1 s1 => ⟨_, rfl, ?_⟩⟩
    have G1 : Gr D H D H1 := Gr.heap sD s1
    cases hl : r.isLeaf with
    | true =>
      cases r with
      | allr rs => cases hl
      | somr m rs => cases hl
      | leaf l =>
        have q' := q
        rw [show (CF.Rule.leaf l).leaves = [l] by unfold CF.Rule.leaves; rfl] at q'
        unfold CF.Rule.data at hx
        refine iteT ⟨_, rfl, _, l, D, rfl, G1.dh, hx, fun D2 H2 t p G2 et ep nt np => ⟨by first | decide | (simp only [List.length_cons, List.length_nil, List.length_append, List.length_map]; decide), fun pl hpl => ?_⟩⟩
        have G3 := (G1.trans G2)
        refine q' _ _ pl _ (G3.trans (Gr.layH G3.dh hpl)) (G3.hh.free hpl) upd_same (free_of G3.dh hpl) ⟨⟨t, p, rfl, et, ep, s1.free nt, s1.free np⟩, trivial⟩
    | false =>
      obtain ⟨t, p, xs, rfl, et, ep, hA⟩ := CF.Rule.grp hx hl
      have eL : r.leaves = CF.Rule.leavess r.rules := by
        cases r with
        | leaf l => cases hl
        | allr rs => unfold CF.Rule.leaves; rfl
        | somr m rs => unfold CF.Rule.leaves; rfl
      have eD : r.depth = CF.Rule.depths r.rules + 1 := by
        cases r with
        | leaf l => cases hl
        | allr rs => unfold CF.Rule.depth; rfl
        | somr m rs => unfold CF.Rule.depth; rfl
      refine iteF ⟨by first | decide | (simp only [List.length_cons, List.length_nil, List.length_append, List.length_map]; decide), fun pl hpl => ?_⟩
      have npl : H pl = none := s1.free hpl
      have G2 := G1.trans (Gr.layH (o := .lst []) G1.dh hpl)
      have e2 : upd H1 pl (.lst []) pl = some (.lst []) := upd_same
      have n2 : D pl = none := free_of sD npl
      generalize upd H1 pl (.lst []) = H2 at G2 e2 ⊢
      refine ⟨_, rfl, t, r.head, .ref p, rfl, SqT.of (G2.dh _ _ et), p, rfl, ⟨_, .inl (Rd.same G2.dh ep)⟩, ?_⟩
      have lx := DataAll.length hA
      rw [CF.Rule.datas_map, List.length_map] at lx
      refine for_list (xs := xs) (fun i σ H' => ∃ D1 zs v, σ = [some (.ref t), some (.ref pl), v] ∧ Gr D H D1 H' ∧ H' pl = some (.lst zs) ∧ D1 pl = none ∧ CF.LeafVs D1 H zs (CF.Rule.leavess (r.rules.take i))) ⟨D, [], _, rfl, G2, e2, n2, by rw [List.take_zero]; unfold CF.Rule.leavess; trivial⟩ ?_ ?_ ?_
      · rintro i σ H' _ ⟨D1, zs, v, _, G, _⟩
        exact .inl (Rd.same G.dh (Rd.same G.dd ep))
      · rintro i y σ H' hy ⟨D1, zs, v, rfl, G, e, nd, hv⟩
        obtain ⟨d, ed, hyd⟩ := DataAll.back hA hy
        rw [CF.Rule.datas_map, List.getElem?_map] at ed
        obtain ⟨r1, er1, rfl⟩ := Option.map_eq_some_iff.mp ed
        have hmem := List.mem_of_getElem? er1
        have hd1 := CF.Rule.depths_mem hmem
        have eT : CF.Rule.leavess (r.rules.take (i + 1)) = CF.Rule.leavess (r.rules.take i) ++ r1.leaves := by
          rw [take_snoc er1, CF.Rule.leavess_app, CF.Rule.leavess_one]
        have hsum : (CF.Rule.leavess (r.rules.take i)).length + r1.leaves.length ≤ 1000 := by
          rw [← List.length_append, ← eT]
          refine Nat.le_trans ?_ hm
          rw [eL]
          conv => rhs; rw [← List.take_append_drop (i + 1) r.rules, CF.Rule.leavess_app, List.length_append]
          exact Nat.le_add_right _ _
        refine ⟨_, rfl, .inl ⟨rfl, _, SqL.of e⟩, _, rfl, y, r1, D1, rfl, G.dh, DataAt.gr hyd G, by omega, by omega, fun D2 H2 p2 zs2 g2 np2 ep2 nd2 lv2 => ?_⟩
        obtain ⟨e3, n3⟩ := g2.old e nd
        have len1 := CF.LeafVs.length hv
        have len2 := CF.LeafVs.length lv2
        refine ⟨pl, p2, _, _, rfl, rfl, e3, ep2, by omega, D2, _, _, rfl, Gr.set (G.trans g2) npl n3, upd_same, n3, ?_⟩
        rw [eT]
        exact CF.LeafVs.app (CF.LeafVs.mono g2.dd (Same.refl _) hv) (CF.LeafVs.mono (Same.refl _) G.hh lv2)
      · rintro σ H' ⟨D1, zs, v, rfl, G, e, nd, hv⟩
        rw [lx, List.take_length] at hv
        exact ⟨_, rfl, q D1 H' pl zs G npl e nd (by rw [eL]; exact hv)⟩
theorem ok_q19 {fd_q19 fd_q4 fd_q7 fd_q22 : FuncData} (T : Txt K mg a)
    (G_q4 : FnOk P w K mg base CX0 1 a.copy_of_leaf fd_q4 ["leaf"] (sp_q4 K)) (F_q4 : Fun K "copy_of_leaf" "copy_of_leaf" s_q4 a.copy_of_leaf fd_q4) (b_q4 : Binds K fd_q4 ["leaf"] [])
    (G_q7 : FnOk P w K mg base CX0 1 a.is_leaf fd_q7 ["rule"] (sp_q7 K)) (F_q7 : Fun K "is_leaf" "is_leaf" s_q7 a.is_leaf fd_q7) (b_q7 : Binds K fd_q7 ["rule"] [])
    (G_q22 : FnOk P w K mg base CX0 1 a.rules_of fd_q22 ["group"] (sp_q22 K)) (F_q22 : Fun K "rules_of" "rules_of" s_q22 a.rules_of fd_q22) (b_q22 : Binds K fd_q22 ["group"] [])
    (F_q19 : Fun K "leaves_of_rule" "leaves_of_rule" s_q19 a.leaves_of_rule fd_q19) (b_q19 : Binds K fd_q19 ["rule"] []) : FnOk P w K mg base CX0 10 a.leaves_of_rule fd_q19 ["rule"] (sp_q19 K 8) := by
  have h : ∀ n, FnOk P w K mg base CX0 (2 + n) a.leaves_of_rule fd_q19 ["rule"] (sp_q19 K n) := fun n => by
    induction n with
    | zero => exact ⟨fun vs H Q E h => (none_q19 h).elim, fun A outer s H args us vs Q E _ _ _ _ h => (none_q19 h).elim⟩
    | succ n ih => exact step_q19 T G_q4 F_q4 b_q4 G_q7 F_q7 b_q7 G_q22 F_q22 b_q22 ih F_q19 b_q19
  exact h 8
theorem vec_e0 (m : Nat) : [V.int 1] ++ nV (List.replicate m 0) = nV ((List.range (m + 1)).map CH.e0) := by
  rw [List.range_succ_eq_map, List.map_cons, List.map_map]
  show V.int 1 :: nV (List.replicate m 0) = V.int 1 :: nV ((List.range m).map (CH.e0 ∘ Nat.succ))
  congr 2
  refine (List.eq_replicate_iff.mpr ⟨by rw [List.length_map, List.length_range], fun b hb => ?_⟩).symm
  obtain ⟨i, _, rfl⟩ := List.mem_map.mp hb
  rfl
theorem vec_step (f : Nat → Nat) (x m : Nat) : [V.int 1] ++ nV ((List.range m).map fun i => CH.stepE f x (i + 1)) = nV ((List.range (m + 1)).map (CH.stepE f x)) := by
  rw [List.range_succ_eq_map, List.map_cons, List.map_map]
  rfl
theorem vec_at (f : Nat → Nat) {m k : Nat} (h : k ≤ m) : atI (nV ((List.range (m + 1)).map f)) ((k : Nat) : Int) = some (.int (f k : Nat)) := by
  refine atI_nat ?_
  unfold nV
  rw [List.getElem?_map, List.getElem?_map, List.getElem?_range (by omega)]
  rfl
def many (r : CF.Rule) : Int := match r with
  | .leaf _ => 0
  | .allr rs => (rs.length : Nat)
  | .somr n _ => n
def sp_q20 (K : PySem.W.Frag) : Sp := fun vs H Q _ => ∃ (x : V) (r : CF.Rule), vs = [x] ∧ DataAt K H x r.data ∧ r.isLeaf = false ∧ Q (.int (many r)) H
theorem ok_q20 {f : Addr} {fd fd_q22 : FuncData} (F : Fun K "many_of" "many_of" s_q20 f fd) (T : Txt K mg a)
    (G_q22 : FnOk P w K mg base CX0 1 a.rules_of fd_q22 ["group"] (sp_q22 K)) (F_q22 : Fun K "rules_of" "rules_of" s_q22 a.rules_of fd_q22) (b_q22 : Binds K fd_q22 ["group"] []) : FnOk P w K mg base CX0 2 f fd ["group"] (sp_q20 K) := by
  refine F.ok sc_q20 (fun vs H Q E h => ?_) (fun cdv A outer s H vs Q E hr h => ?_)
  · obtain ⟨x, r, rfl, _⟩ := h
    rfl
  · obtain ⟨x, r, rfl, hx, hl, q⟩ := h
    refine ⟨_, (pss_one (ps_ret (pe_ifExp (pt_cmpR op_eq (pe_ix ix_tup (pvA 0 (defScope s_q20) N_q20 rfl rfl) pe_int (fun _ _ => rfl)) pe_str (nomark _)) (pe_ix ix_tup (pvA 0 (defScope s_q20) N_q20 rfl rfl) pe_int (fun _ _ => rfl)) (pe_callBN (sc := defScope s_q20) call_len rfl (by decide +kernel) T.z_len bt_len (pa_cons (pe_callN (sc := defScope s_q20) G_q22 (hr.mono (by decide)) rfl (by decide +kernel) T.m_q22 F_q22.kp b_q22 .nil pass0 (pa_cons (pvA 0 (defScope s_q20) N_q20 rfl rfl) pa_nil)) pa_nil))))), ?_⟩
    obtain ⟨t, p, xs, rfl, et, ep, hA⟩ := CF.Rule.grp hx hl
    have lx := DataAll.length hA
    rw [CF.Rule.datas_map, List.length_map] at lx
    cases r with
    | leaf l => cases hl
    | allr rs =>
      refine ⟨_, rfl, t, _, _, _, rfl, rfl, SqT.of et, rfl, rfl, _, rfl, ite2 (fun h1 => absurd (V.str.inj (of_decide_eq_true h1)).symm CF.kinds_ne.2.2.2.2.2) (fun h1 => ?_)⟩
      exact ⟨_, rfl, t, [.str "all"], .ref p, rfl, SqT.of et, .ref p, rs.length, rfl, .inl ⟨xs, .inl ep, lx.symm⟩, q⟩
    | somr n rs =>
      refine ⟨_, rfl, t, _, _, _, rfl, rfl, SqT.of et, rfl, rfl, _, rfl, ite2 (fun h1 => ?_) (fun h1 => absurd (decide_eq_true rfl) h1)⟩
      exact ⟨_, rfl, t, _, _, _, rfl, rfl, SqT.of et, rfl, q⟩
def sp_q23 (K : PySem.W.Frag) : Sp := fun vs H Q _ => ∃ (p : Addr) (xs : List Nat) (m : Nat), vs = [.ref p, .int m] ∧ SqL K H p (nV xs) ∧ m ≤ 1000 ∧ (∀ x ∈ xs, x < 2 ^ 60) ∧ ∀ H', Same H H' → Q (.int (CH.esym xs m : Nat)) H'
theorem ok_q23 {f : Addr} {fd : FuncData} (F : Fun K "sum_of_products" "sum_of_products" s_q23 f fd) (T : Txt K mg a) : FnOk P w K mg base CX0 1 f fd ["numbers", "many"] (sp_q23 K) := by
  refine F.ok sc_q23 (fun vs H Q E h => ?_) (fun cdv A outer s H vs Q E hr h => ?_)
  · obtain ⟨p, xs, m, rfl, _⟩ := h
    rfl
  · obtain ⟨p, xs, m, rfl, hp, hm, hb, q⟩ := h
    refine ⟨_, (pss_cons (psC (i := 2) (sc := defScope s_q23) (M := N_q23) rfl rfl rfl (by decide +kernel) (pe_op op_cat (pe_lst (pa_cons pe_int pa_nil)) (pe_op op_rep (pe_lst (pa_cons pe_int pa_nil)) (pvA 1 (defScope s_q23) N_q23 rfl rfl))))
      (pss_cons (ps_for PassesOwn.never rfl (pi_list (pvA 0 (defScope s_q23) N_q23 rfl rfl)) (pgC (i := 3) (sc := defScope s_q23) (M := N_q23) rfl rfl rfl (by decide +kernel)) (pss_one (psC (i := 2) (sc := defScope s_q23) (M := N_q23) rfl rfl rfl (by decide +kernel) (pe_op op_cat (pe_lst (pa_cons pe_int pa_nil)) (pe_comp rfl (N := ["k", "sums", "number"]) (own := 1) (js := [2, 3]) (X := (cxOf CX0 P w K mg base N_q23 "sum_of_products" (defScope s_q23) f cdv A outer s H E).nox) (compOk (defScope s_q23) N_q23 rfl rfl (by decide +kernel)) (pi_range2 (glR (sc := defScope s_q23) rfl (by decide +kernel)) T.z_range (pa_cons pe_int (pa_cons (pe_op op_add (pvA 1 (defScope s_q23) N_q23 rfl rfl) pe_int) pa_nil))) (fun fp0 sx0 Hx0 => (pgN (i := 0) (sc := relabelS _ (defScope s_q23)) (M := ["k", "sums", "number"]) rfl rfl (by decide +kernel))) (fun fp0 sx0 Hx0 => pifs_nil) (fun fp0 sx0 Hx0 => (pe_op op_add (pe_ix (kIx (r := rIxL) (K := K) rfl ix_list) (pvN (i := 1) (sc := relabelS _ (defScope s_q23)) (M := ["k", "sums", "number"]) rfl rfl (by decide +kernel)) (pvN (i := 0) (sc := relabelS _ (defScope s_q23)) (M := ["k", "sums", "number"]) rfl rfl (by decide +kernel)) (fun _ _ => rfl)) (pe_op op_mul (pvN (i := 2) (sc := relabelS _ (defScope s_q23)) (M := ["k", "sums", "number"]) rfl rfl (by decide +kernel)) (pe_ix (kIx (r := rIxL) (K := K) rfl ix_list) (pvN (i := 1) (sc := relabelS _ (defScope s_q23)) (M := ["k", "sums", "number"]) rfl rfl (by decide +kernel)) (pe_op op_sub (pvN (i := 0) (sc := relabelS _ (defScope s_q23)) (M := ["k", "sums", "number"]) rfl rfl (by decide +kernel)) pe_int) (fun _ _ => rfl))))))))))
      (pss_one (ps_ret (pe_ix ix_list (pvA 2 (defScope s_q23) N_q23 rfl rfl) (pvA 1 (defScope s_q23) N_q23 rfl rfl) (fun _ _ => rfl)))))), ?_⟩
    have hs : sizeLine = 16777216 := sizeLine_eq
    refine ⟨by first | decide | (simp only [List.length_cons, List.length_nil, List.length_append, List.length_map]; decide), fun p1 hp1 => ⟨by first | decide | (simp only [List.length_cons, List.length_nil, List.length_append, List.length_map]; decide), fun p2 hp2 => ⟨_, rfl, p2, _, _, rfl, rfl, upd_same, by omega, by omega, ?_, fun p3 hp3 => ?_⟩⟩⟩
    · rw [Int.toNat_natCast]
      show 1 * m ≤ sizeLine
      omega
    rw [Int.toNat_natCast, rep_zero]
    have e1 : upd (upd (upd H p1 (.lst [.int 1])) p2 (.lst [.int 0])) p3 (.lst (nV (List.replicate m 0))) p1 = some (.lst [.int 1]) := Same.upd0 hp3 _ _ (Same.upd0 hp2 _ _ upd_same)
    refine ⟨p1, p3, _, _, rfl, rfl, e1, upd_same, by rw [nV_len, List.length_replicate]; show 1 + m ≤ sizeLine; omega, fun p4 hp4 => ?_⟩
    rw [vec_e0]
    have s4 : Same H (upd (upd (upd (upd H p1 (.lst [.int 1])) p2 (.lst [.int 0])) p3 (.lst (nV (List.replicate m 0)))) p4 (.lst (nV ((List.range (m + 1)).map CH.e0)))) := (Same.upd0 hp1).trans ((Same.upd0 hp2).trans ((Same.upd0 hp3).trans (Same.upd0 hp4)))
    have e4 : upd (upd (upd (upd H p1 (.lst [.int 1])) p2 (.lst [.int 0])) p3 (.lst (nV (List.replicate m 0)))) p4 (.lst (nV ((List.range (m + 1)).map CH.e0))) p4 = some (.lst (nV ((List.range (m + 1)).map CH.e0))) := upd_same
    generalize upd (upd (upd (upd H p1 (.lst [.int 1])) p2 (.lst [.int 0])) p3 (.lst (nV (List.replicate m 0)))) p4 (.lst (nV ((List.range (m + 1)).map CH.e0))) = H4 at s4 e4 ⊢
    clear e1 hp1 hp2 hp3 hp4
    refine ⟨_, rfl, p, rfl, ⟨_, s4.seq hp⟩, for_list (xs := nV xs) (fun i σ H' => (∃ pl v, σ = [some (.ref p), some (.int (m : Nat)), some (.ref pl), v] ∧ H' pl = some (.lst (nV ((List.range (m + 1)).map (CH.esym (xs.take i)))))) ∧ Same H H') ⟨⟨_, _, rfl, e4⟩, s4⟩ ?_ ?_ ?_⟩
    · rintro i σ H' _ ⟨_, s⟩
      exact s.seq hp
    · rintro i x σ H5 hx ⟨⟨pl, v, rfl, e5⟩, s5⟩
      unfold nV at hx
      rw [List.getElem?_map] at hx
      obtain ⟨n, hn, rfl⟩ := Option.map_eq_some_iff.mp hx
      have hbn := hb n (List.mem_of_getElem? hn)
      refine ⟨by first | decide | (simp only [List.length_cons, List.length_nil, List.length_append, List.length_map]; decide), fun p1 hp1 => ?_⟩
      have t1 := Same.upd0 (o := .lst [.int 1]) hp1
      have f1 : upd H5 p1 (.lst [.int 1]) p1 = some (.lst [.int 1]) := upd_same
      generalize upd H5 p1 (.lst [.int 1]) = H6 at t1 f1 ⊢
      refine ⟨_, rfl, _, _, rfl, rfl, _, _, rfl, ⟨by decide, by decide, by omega, by omega⟩, fun c hc => ?_⟩
      refine comp_grow hc (yields_range (P := fun _ => True)) (fun σ => ∃ v, σ = [v, some (.ref pl), some (.int (n : Nat))]) (fun x => match x with | .int z => some (.int (CH.stepE (CH.esym (xs.take i)) n z.toNat : Nat)) | _ => none) ⟨_, rfl⟩ (fun _ _ => trivial) (by rw [List.length_map, List.length_range]; omega) ?_ ?_
      · rintro x ys σ H7 R1 R0 hx ⟨v, rfl⟩ s7 k1 k0
        obtain ⟨j, hj, rfl⟩ := List.mem_map.mp hx
        have hj' : j < m := by have := List.mem_range.mp hj; omega
        have e7 := s7 _ _ (t1 _ _ e5)
        rw [show (1 : Int) + (j : Nat) = ((j + 1 : Nat) : Int) by omega] at k1 k0 ⊢
        refine ⟨_, rfl, _, rfl, pl, _, _, _, rfl, rfl, SqL.of e7, vec_at _ (show j + 1 ≤ m by omega), _, rfl, _, rfl, _, rfl, _, _, rfl, rfl, pl, _, _, _, rfl, rfl, SqL.of e7, (by rw [show ((j + 1 : Nat) : Int) - 1 = (j : Nat) by omega]; exact vec_at _ (show j ≤ m by omega)), _, _, rfl, rfl, .inl ⟨?_, ?_⟩, _, _, rfl, rfl, k1 _ _ _ ⟨_, rfl⟩ ?_ (Same.refl _)⟩
        · show (-(2 ^ 64) : Int) < (n : Nat)
          omega
        · show ((n : Nat) : Int) < 2 ^ 64
          omega
        · show some (V.int (CH.esym (xs.take i) (j + 1) + n * CH.esym (xs.take i) j : Nat)) = some (V.int ((CH.esym (xs.take i) (j + 1) : Nat) + (n : Nat) * (CH.esym (xs.take i) j : Nat)))
          rw [Int.natCast_add, Int.natCast_mul]
      intro H7 s7 e7
      have e7' : ((List.range ((m : Int) + 1 - 1).toNat).map fun j : Nat => V.int (1 + (j : Nat))).filterMap (fun x => match x with | .int z => some (.int (CH.stepE (CH.esym (xs.take i)) n z.toNat : Nat)) | _ => none) = nV ((List.range m).map fun j => CH.stepE (CH.esym (xs.take i)) n (j + 1)) := by
        rw [show ((m : Int) + 1 - 1).toNat = m by omega]
        unfold nV
        rw [List.map_map, List.filterMap_map]
        refine CG.filterMap_some fun j _ => ?_
        show some (V.int (CH.stepE (CH.esym (xs.take i)) n ((1 : Int) + (j : Nat)).toNat : Nat)) = _
        rw [show ((1 : Int) + (j : Nat)).toNat = j + 1 by omega]
        rfl
      rw [e7'] at e7
      refine ⟨p1, c, _, _, rfl, rfl, s7 _ _ f1, e7, by rw [nV_len, List.length_map, List.length_range]; show 1 + m ≤ sizeLine; omega, fun p4 hp4 => ?_⟩
      rw [vec_step]
      refine ⟨⟨p4, _, rfl, ?_⟩, s5.trans (t1.trans (s7.trans (Same.upd0 hp4)))⟩
      rw [upd_same, CG.take_succ hn]
      congr 4
      funext k
      cases k with
      | zero => exact (CH.esym_zero _).symm
      | succ k => exact (CH.esym_snoc _ _ _).symm
    · rintro σ H5 ⟨⟨pl, v, rfl, e5⟩, s5⟩
      rw [nV_len, List.take_length] at e5
      exact ⟨_, rfl, _, rfl, pl, _, _, _, rfl, rfl, SqL.of e5, vec_at _ (Nat.le_refl _), q _ s5⟩
def sp_q6 (K : PySem.W.Frag) (n : Nat) : Sp := fun vs H Q _ => ∃ (x : V) (r : CF.Rule), vs = [x] ∧ DataAt K H x r.data ∧ r.depth < n ∧ r.Good ∧ r.leaves.length ≤ 16 ∧ ∀ H', Same H H' → Q (.int (CH.Rule.count r : Nat)) H'
theorem none_q6 {vs : List V} {H : Hp} {Q : VK} {E : XK} (h : sp_q6 K 0 vs H Q E) : False := by
  obtain ⟨x, r, _, _, h, _⟩ := h
  omega
theorem count_small {r : CF.Rule} (h : r.Good) (hl : r.leaves.length ≤ 16) : CH.Rule.count r < 2 ^ 60 := by
  have h1 := CH.count_le h
  have h2 : 2 ^ r.leaves.length ≤ 2 ^ 16 := Nat.pow_le_pow_right (by decide) hl
  have h3 : (2 : Nat) ^ 16 < 2 ^ 60 := by decide
  omega
theorem grp_facts {r : CF.Rule} (hl : r.isLeaf = false) (hg : r.Good) : ∃ m : Nat, many r = (m : Int) ∧ m ≤ 16 ∧ CH.Rule.count r = CH.esym (r.rules.map CH.Rule.count) m ∧ r.leaves = CF.Rule.leavess r.rules ∧ r.depth = CF.Rule.depths r.rules + 1 ∧ CF.Rule.Goods r.rules ∧ r.rules.length ≤ 16 ∧ m ≤ r.rules.length := by
  cases r with
  | leaf l => cases hl
  | allr rs =>
    unfold CF.Rule.Good at hg
    refine ⟨rs.length, rfl, hg.2.1, ?_, ?_, ?_, hg.2.2, hg.2.1, Nat.le_refl _⟩
    · unfold CH.Rule.count; rw [CH.counts_map]; rfl
    · unfold CF.Rule.leaves; rfl
    · unfold CF.Rule.depth; rfl
  | somr n rs =>
    unfold CF.Rule.Good at hg
    obtain ⟨⟨h1, h2⟩, h3, h4⟩ := hg
    refine ⟨n.toNat, ?_, by omega, ?_, ?_, ?_, h4, h3, ?_⟩
    · show n = _
      omega
    · unfold CH.Rule.count; rw [CH.counts_map]; rfl
    · unfold CF.Rule.leaves; rfl
    · unfold CF.Rule.depth; rfl
    · show n.toNat ≤ rs.length
      omega
theorem step_q6 {n : Nat} {fd_q6 fd_q7 fd_q20 fd_q22 fd_q23 : FuncData} (T : Txt K mg a)
    (G_q7 : FnOk P w K mg base CX0 1 a.is_leaf fd_q7 ["rule"] (sp_q7 K)) (F_q7 : Fun K "is_leaf" "is_leaf" s_q7 a.is_leaf fd_q7) (b_q7 : Binds K fd_q7 ["rule"] [])
    (G_q20 : FnOk P w K mg base CX0 2 a.many_of fd_q20 ["group"] (sp_q20 K)) (F_q20 : Fun K "many_of" "many_of" s_q20 a.many_of fd_q20) (b_q20 : Binds K fd_q20 ["group"] [])
    (G_q22 : FnOk P w K mg base CX0 1 a.rules_of fd_q22 ["group"] (sp_q22 K)) (F_q22 : Fun K "rules_of" "rules_of" s_q22 a.rules_of fd_q22) (b_q22 : Binds K fd_q22 ["group"] [])
    (G_q23 : FnOk P w K mg base CX0 1 a.sum_of_products fd_q23 ["numbers", "many"] (sp_q23 K)) (F_q23 : Fun K "sum_of_products" "sum_of_products" s_q23 a.sum_of_products fd_q23) (b_q23 : Binds K fd_q23 ["numbers", "many"] [])
    (G_q6 : FnOk P w K mg base CX0 (3 + n) a.count_of_rule fd_q6 ["rule"] (sp_q6 K n)) (F_q6 : Fun K "count_of_rule" "count_of_rule" s_q6 a.count_of_rule fd_q6) (b_q6 : Binds K fd_q6 ["rule"] []) : FnOk P w K mg base CX0 (3 + n + 1) a.count_of_rule fd_q6 ["rule"] (sp_q6 K (n + 1)) := by
  have F := F_q6
  refine F.ok sc_q6 (fun vs H Q E h => ?_) (fun cdv A outer s H vs Q E hr h => ?_)
  · obtain ⟨x, r, rfl, _⟩ := h
    rfl
  · obtain ⟨x, r, rfl, hx, hd, hg, hm, q⟩ := h
    refine ⟨_, (pss_cons (ps_if (pt_val (pe_callN (sc := defScope s_q6) G_q7 (hr.mono (by omega)) rfl (by decide +kernel) T.m_q7 F_q7.kp b_q7 .nil pass0 (pa_cons (pvA 0 (defScope s_q6) N_q6 rfl rfl) pa_nil))) (pss_one (ps_ret pe_int)) pss_nil)
      (pss_one (ps_ret (pe_callN (sc := defScope s_q6) G_q23 (hr.mono (by omega)) rfl (by decide +kernel) T.m_q23 F_q23.kp b_q23 .nil pass0 (pa_cons (pe_comp rfl (N := ["inner"]) (own := 1) (js := []) (X := (cxOf CX0 P w K mg base N_q6 "count_of_rule" (defScope s_q6) a.count_of_rule cdv A outer s H E).nox) (compOk (defScope s_q6) N_q6 rfl rfl (by decide +kernel)) (pi_list (pe_callN (sc := defScope s_q6) G_q22 (hr.mono (by omega)) rfl (by decide +kernel) T.m_q22 F_q22.kp b_q22 .nil pass0 (pa_cons (pvA 0 (defScope s_q6) N_q6 rfl rfl) pa_nil))) (fun fp0 sx0 Hx0 => (pgN (i := 0) (sc := relabelS _ (defScope s_q6)) (M := ["inner"]) rfl rfl (by decide +kernel))) (fun fp0 sx0 Hx0 => pifs_nil) (fun fp0 sx0 Hx0 => (pe_callN (sc := relabelS _ (defScope s_q6)) G_q6 (hr.mono (by omega)) rfl (by decide +kernel) T.m_q6 F_q6.kp b_q6 .nil pass0 (pa_cons (pvN (i := 0) (sc := relabelS _ (defScope s_q6)) (M := ["inner"]) rfl rfl (by decide +kernel)) pa_nil)))) (pa_cons (pe_callN (sc := defScope s_q6) G_q20 (hr.mono (by omega)) rfl (by decide +kernel) T.m_q20 F_q20.kp b_q20 .nil pass0 (pa_cons (pvA 0 (defScope s_q6) N_q6 rfl rfl) pa_nil)) pa_nil)))))), ?_⟩
    have hs : sizeLine = 16777216 := sizeLine_eq
    refine ⟨_, rfl, _, r, rfl, hx, fun H1 s1 => ⟨_, rfl, ?_⟩⟩
    cases hl : r.isLeaf with
    | true =>
      cases r with
      | allr rs => cases hl
      | somr m rs => cases hl
      | leaf l =>
        have e : CH.Rule.count (.leaf l) = 1 := by unfold CH.Rule.count; rfl
        rw [e] at q
        exact iteT (q _ s1)
    | false =>
      obtain ⟨m, em, hm16, ec, eL, eD, hgs, h16, hmr⟩ := grp_facts hl hg
      obtain ⟨t, p, xs, rfl, et, ep, hA⟩ := CF.Rule.grp hx hl
      have lx := DataAll.length hA
      rw [CF.Rule.datas_map, List.length_map] at lx
      refine iteF ⟨_, rfl, t, r.head, .ref p, rfl, SqT.of (s1 _ _ et), p, rfl, ⟨_, .inl (Rd.same s1 ep)⟩, fun c hc => ?_⟩
      refine comp_idx hc yields_list (fun σ => ∃ v, σ = [v]) ((r.rules.map CH.Rule.count).map fun n : Nat => V.int n) (by rw [List.length_map, List.length_map, lx]) ⟨_, rfl⟩ (fun H' s' => .inl (Rd.same (s1.trans s') ep)) (by omega) ?_ ?_
      · rintro i y z σ H2 R1 R0 hy hz ⟨v, rfl⟩ s2 k1
        obtain ⟨d, ed, hyd⟩ := DataAll.back hA hy
        rw [CF.Rule.datas_map, List.getElem?_map] at ed
        obtain ⟨r1, er1, rfl⟩ := Option.map_eq_some_iff.mp ed
        rw [List.getElem?_map, List.getElem?_map, er1] at hz
        obtain rfl := Option.some.inj hz
        have hmem := List.mem_of_getElem? er1
        have hd1 := CF.Rule.depths_mem hmem
        have hl1 := CH.leaves_mem hmem
        rw [← eL] at hl1
        exact ⟨_, rfl, y, r1, rfl, DataAt.up hyd (s1.trans s2), by omega, CF.Rule.goods_iff.mp hgs r1 hmem, by omega, fun H3 s3 => k1 _ _ ⟨_, rfl⟩ s3⟩
      · intro H2 s2 e2
        refine ⟨_, rfl, _, r, rfl, DataAt.up hx (s1.trans s2), hl, ?_⟩
        rw [em]
        refine ⟨c, _, m, rfl, SqL.of e2, by omega, fun z hz => ?_, fun H3 s3 => ?_⟩
        · obtain ⟨r1, hr1, rfl⟩ := List.mem_map.mp hz
          have hl1 := CH.leaves_mem hr1
          rw [← eL] at hl1
          exact count_small (CF.Rule.goods_iff.mp hgs r1 hr1) (by omega)
        · rw [← ec]
          exact q _ (s1.trans (s2.trans s3))
theorem ok_q6 {fd_q6 fd_q7 fd_q20 fd_q22 fd_q23 : FuncData} (T : Txt K mg a)
    (G_q7 : FnOk P w K mg base CX0 1 a.is_leaf fd_q7 ["rule"] (sp_q7 K)) (F_q7 : Fun K "is_leaf" "is_leaf" s_q7 a.is_leaf fd_q7) (b_q7 : Binds K fd_q7 ["rule"] [])
    (G_q20 : FnOk P w K mg base CX0 2 a.many_of fd_q20 ["group"] (sp_q20 K)) (F_q20 : Fun K "many_of" "many_of" s_q20 a.many_of fd_q20) (b_q20 : Binds K fd_q20 ["group"] [])
    (G_q22 : FnOk P w K mg base CX0 1 a.rules_of fd_q22 ["group"] (sp_q22 K)) (F_q22 : Fun K "rules_of" "rules_of" s_q22 a.rules_of fd_q22) (b_q22 : Binds K fd_q22 ["group"] [])
    (G_q23 : FnOk P w K mg base CX0 1 a.sum_of_products fd_q23 ["numbers", "many"] (sp_q23 K)) (F_q23 : Fun K "sum_of_products" "sum_of_products" s_q23 a.sum_of_products fd_q23) (b_q23 : Binds K fd_q23 ["numbers", "many"] [])
    (F_q6 : Fun K "count_of_rule" "count_of_rule" s_q6 a.count_of_rule fd_q6) (b_q6 : Binds K fd_q6 ["rule"] []) : FnOk P w K mg base CX0 11 a.count_of_rule fd_q6 ["rule"] (sp_q6 K 8) := by
  have h : ∀ n, FnOk P w K mg base CX0 (3 + n) a.count_of_rule fd_q6 ["rule"] (sp_q6 K n) := fun n => by
    induction n with
    | zero => exact ⟨fun vs H Q E h => (none_q6 h).elim, fun A outer s H args us vs Q E _ _ _ _ h => (none_q6 h).elim⟩
    | succ n ih => exact step_q6 T G_q7 F_q7 b_q7 G_q20 F_q20 b_q20 G_q22 F_q22 b_q22 G_q23 F_q23 b_q23 ih F_q6 b_q6
  exact h 8
def sp_q5 (K : PySem.W.Frag) : Sp := fun vs H Q _ => ∃ (x : V) (c : CF.Course), vs = [x] ∧ DataAt K H x c.data ∧ c.rule.depth ≤ 7 ∧ c.rule.Good ∧ c.rule.leaves.length ≤ 16 ∧ ∀ H', Same H H' → Q (.int (CH.Rule.count c.rule : Nat)) H'
theorem ok_q5 {f : Addr} {fd fd_q6 : FuncData} (F : Fun K "count_choices" "count_choices" s_q5 f fd) (T : Txt K mg a)
    (G_q6 : FnOk P w K mg base CX0 11 a.count_of_rule fd_q6 ["rule"] (sp_q6 K 8)) (F_q6 : Fun K "count_of_rule" "count_of_rule" s_q6 a.count_of_rule fd_q6) (b_q6 : Binds K fd_q6 ["rule"] []) : FnOk P w K mg base CX0 12 f fd ["course"] (sp_q5 K) := by
  refine F.ok sc_q5 (fun vs H Q E h => ?_) (fun cdv A outer s H vs Q E hr h => ?_)
  · obtain ⟨x, c, rfl, _⟩ := h
    rfl
  · obtain ⟨x, c, rfl, hx, hd, hg, hm, q⟩ := h
    refine ⟨_, (pss_one (ps_ret (pe_callN (sc := defScope s_q5) G_q6 (hr.mono (by decide)) rfl (by decide +kernel) T.m_q6 F_q6.kp b_q6 .nil pass0 (pa_cons (pe_ix ix_tup (pvA 0 (defScope s_q5) N_q5 rfl rfl) pe_int (fun _ _ => rfl)) pa_nil)))), ?_⟩
    obtain ⟨t, po, y, rfl, et, _, _, hy⟩ := course_tup hx
    exact ⟨_, rfl, t, _, _, _, rfl, rfl, SqT.of et, rfl, y, c.rule, rfl, hy, by omega, hg, hm, q⟩
def spInit (K : PySem.W.Frag) (fl : Str) : Sp := fun vs H Q _ => ∃ (x C : Addr) (init : Option Value) (new : Bool) (v : V), vs = [.ref x, v] ∧ H x = some (exO x C none new) ∧ exIn K NS init C = true ∧ ∀ d, H d = none → d ≠ x → Q .non (upd (upd H d (.xd [(fl, v)])) x (exO x C (some d) new))
def sp_q0 (K : PySem.W.Frag) : Sp := spInit K "most"
theorem ok_q0 {f : Addr} {fd : FuncData} (F : Fun K "__init__" "TooMany.__init__" s_q0 f fd) (T : Txt K mg a) : FnOk P w K mg base CX0 1 f fd ["self", "most"] (sp_q0 K) := by
  refine F.ok sc_q0 (fun vs H Q E h => ?_) (fun cdv A outer s H vs Q E hr h => ?_)
  · obtain ⟨x, C, init, new, v, rfl, _⟩ := h
    rfl
  · obtain ⟨x, C, init, new, v, rfl, ex, ec, q⟩ := h
    refine ⟨_, (pss_one (ps_xput (ns := NS) (by decide) fr_most (pvA 0 (defScope s_q0) N_q0 rfl rfl) (pvA 1 (defScope s_q0) N_q0 rfl rfl) rfl)), ?_⟩
    exact ⟨_, rfl, _, rfl, x, C, init, new, rfl, ex, ec, fun d h1 h2 => q d h1 h2⟩
def Told (D H : Hp) (css : List (List Nat)) (Q : VK) : Prop := ∀ D' H' p zs, Gr D H D' H' → H p = none → H' p = some (.lst zs) → D' p = none → L13.Els L13.NL D' zs css → Q (.ref p) H'
def sp_q24 (K : PySem.W.Frag) (n : Nat) : Sp := fun vs H Q _ => ∃ (m f e : Nat) (D : Hp), vs = [.int m, .int f, .int e] ∧ m < n ∧ m ≤ 16 ∧ f ≤ 17 ∧ e ≤ 16 ∧ Same D H ∧ Told D H (CJ.ways m f e) Q
theorem none_q24 {vs : List V} {H : Hp} {Q : VK} {E : XK} (h : sp_q24 K 0 vs H Q E) : False := by
  obtain ⟨m, f, e, D, _, h, _⟩ := h
  omega
theorem ways_pre {m f e i : Nat} (hi : i ≤ e - m - f) : ((List.range' f i).flatMap fun p => (CJ.ways m (p + 1) e).map (p :: ·)).length ≤ 2 ^ (e - f) := by
  have h := CJ.ways_len (m + 1) f e
  unfold CJ.ways at h
  have e1 : List.range' f (e - m - f) = List.range' f i ++ List.range' (f + i) (e - m - f - i) := by
    rw [List.range'_append_1]
    congr 1
    omega
  rw [e1, List.flatMap_append, List.length_append] at h
  omega
theorem step_q24 {n : Nat} {fd_q24 : FuncData} (T : Txt K mg a)
    (G_q24 : FnOk P w K mg base CX0 (1 + n) a.ways_of_taking fd_q24 ["many", "first", "end"] (sp_q24 K n)) (F_q24 : Fun K "ways_of_taking" "ways_of_taking" s_q24 a.ways_of_taking fd_q24) (b_q24 : Binds K fd_q24 ["many", "first", "end"] []) : FnOk P w K mg base CX0 (1 + n + 1) a.ways_of_taking fd_q24 ["many", "first", "end"] (sp_q24 K (n + 1)) := by
  have F := F_q24
  refine F.ok sc_q24 (fun vs H Q E h => ?_) (fun cdv A outer s H vs Q E hr h => ?_)
  · obtain ⟨m, f, e, D, rfl, _⟩ := h
    rfl
  · obtain ⟨m, f, e, D, rfl, hm, hm16, hf, he, sD, q⟩ := h
    refine ⟨_, (pss_cons (ps_if (pt_cmpR op_lt (pvA 0 (defScope s_q24) N_q24 rfl rfl) pe_int (nomark _)) (pss_one (ps_ret (pe_lst (pa_cons (pe_lst pa_nil) pa_nil)))) pss_nil)
      (pss_cons (psN (i := 3) (sc := defScope s_q24) (M := N_q24) rfl rfl (by decide +kernel) (pe_lst pa_nil))
      (pss_cons (ps_for PassesOwn.never rfl (pi_range2 (glR (sc := defScope s_q24) rfl (by decide +kernel)) T.z_range (pa_cons (pvA 1 (defScope s_q24) N_q24 rfl rfl) (pa_cons (pe_op op_add (pe_op op_sub (pvA 2 (defScope s_q24) N_q24 rfl rfl) (pvA 0 (defScope s_q24) N_q24 rfl rfl)) pe_int) pa_nil))) (pgC (i := 4) (sc := defScope s_q24) (M := N_q24) rfl rfl rfl (by decide +kernel)) (pss_one (ps_expr (pe_bm PySem.F.plainAttrs_list PySem.F.slot_list_extend PySem.F.type_list_extend mt_extend (pvA 3 (defScope s_q24) N_q24 rfl rfl) (pa_cons (pe_comp rfl (N := ["rest", "place"]) (own := 1) (js := [4]) (X := (cxOf CX0 P w K mg base N_q24 "ways_of_taking" (defScope s_q24) a.ways_of_taking cdv A outer s H E).nox) (compOk (defScope s_q24) N_q24 rfl rfl (by decide +kernel)) (pi_list (pe_callN (sc := defScope s_q24) G_q24 (hr.mono (by omega)) rfl (by decide +kernel) T.m_q24 F_q24.kp b_q24 .nil pass0 (pa_cons (pe_op op_sub (pvA 0 (defScope s_q24) N_q24 rfl rfl) pe_int) (pa_cons (pe_op op_add (pvA 4 (defScope s_q24) N_q24 rfl rfl) pe_int) (pa_cons (pvA 2 (defScope s_q24) N_q24 rfl rfl) pa_nil))))) (fun fp0 sx0 Hx0 => (pgN (i := 0) (sc := relabelS _ (defScope s_q24)) (M := ["rest", "place"]) rfl rfl (by decide +kernel))) (fun fp0 sx0 Hx0 => pifs_nil) (fun fp0 sx0 Hx0 => (pe_op op_cat (pe_lst (pa_cons (pvN (i := 1) (sc := relabelS _ (defScope s_q24)) (M := ["rest", "place"]) rfl rfl (by decide +kernel)) pa_nil)) (pvN (i := 0) (sc := relabelS _ (defScope s_q24)) (M := ["rest", "place"]) rfl rfl (by decide +kernel))))) pa_nil)))))
      (pss_one (ps_ret (pvA 3 (defScope s_q24) N_q24 rfl rfl)))))), ?_⟩
    have hs : sizeLine = 16777216 := sizeLine_eq
    refine ⟨_, rfl, _, _, rfl, rfl, _, rfl, ite2 (fun h1 => ?_) (fun h1 => ?_)⟩
    · obtain rfl : m = 0 := by have := of_decide_eq_true h1; omega
      refine ⟨by first | decide | (simp only [List.length_cons, List.length_nil, List.length_append, List.length_map]; decide), fun p1 hp1 => ⟨by first | decide | (simp only [List.length_cons, List.length_nil, List.length_append, List.length_map]; decide), fun p2 hp2 => ?_⟩⟩
      have G1 := Gr.lay (o := .lst []) sD hp1
      have G2 := G1.trans (Gr.layH (o := .lst [.ref p1]) G1.dh hp2)
      refine q _ _ p2 _ G2 (G1.hh.free hp2) upd_same (free_of G1.dh hp2) ?_
      unfold CJ.ways
      exact L13.Els.one ⟨p1, rfl, upd_same⟩
    · obtain ⟨m, rfl⟩ : ∃ k, m = k + 1 := ⟨m - 1, by have := mt decide_eq_true h1; omega⟩
      refine ⟨by first | decide | (simp only [List.length_cons, List.length_nil, List.length_append, List.length_map]; decide), fun p0 hp0 => ?_⟩
      have G0 := Gr.layH (o := .lst []) sD hp0
      have e0 : upd H p0 (.lst []) p0 = some (.lst []) := upd_same
      have n0 : D p0 = none := free_of sD hp0
      generalize upd H p0 (.lst []) = H0 at G0 e0 ⊢
      refine ⟨_, rfl, _, rfl, _, rfl, _, _, rfl, rfl, _, _, rfl, rfl, _, _, rfl, ⟨by omega, by omega, by omega, by omega⟩, ?_⟩
      rw [show ((e : Nat) : Int) - ((m + 1 : Nat) : Int) + 1 - (f : Nat) = ((e : Nat) : Int) - (m : Nat) - (f : Nat) by omega, show (((e : Nat) : Int) - (m : Nat) - (f : Nat)).toNat = e - m - f by omega]
      refine for_range (fun i σ H' => ∃ D1 zs v, σ = [some (.int ((m + 1 : Nat) : Int)), some (.int (f : Nat)), some (.int (e : Nat)), some (.ref p0), v] ∧ Gr D H D1 H' ∧ H' p0 = some (.lst zs) ∧ D1 p0 = none ∧ L13.Els L13.NL D1 zs ((List.range' f i).flatMap fun p => (CJ.ways m (p + 1) e).map (p :: ·))) ⟨D, [], _, rfl, G0, e0, n0, L13.Els.nil⟩ ?_ ?_
      · rintro i σ H1 hi ⟨D1, zs, v, rfl, G, e1, nd, hA⟩
        refine ⟨_, rfl, .inl ⟨rfl, _, SqL.of e1⟩, _, rfl, _, _, rfl, rfl, _, rfl, _, _, rfl, rfl, _, rfl, m, f + i + 1, e, D1, ?_, by omega, by omega, by omega, he, G.dh, fun D2 H2 p2 zs2 g2 np2 ep2 nd2 hA2 => ⟨p2, rfl, ⟨_, SqL.of ep2⟩, fun c hc => ?_⟩⟩
        · show [V.int (((m + 1 : Nat) : Int) - 1), V.int ((f : Int) + (i : Nat) + 1), V.int (e : Nat)] = _
          rw [show ((m + 1 : Nat) : Int) - 1 = (m : Nat) by omega, show (f : Int) + (i : Nat) + 1 = ((f + i + 1 : Nat) : Int) by omega]
        have lz := hA2.1
        have l16 := CJ.ways_len m (f + i + 1) e
        have p16 : 2 ^ (e - (f + i + 1)) ≤ 2 ^ 16 := Nat.pow_le_pow_right (by decide) (by omega)
        refine L13.comp_els (Pd := L13.NL) L13.NL.up g2.dh hc (yields_list (xs := zs2)) (fun σ => ∃ v, σ = [v, some (.int ((f : Int) + (i : Nat)))]) ((CJ.ways m (f + i + 1) e).map ((f + i) :: ·)) (by rw [List.length_map, lz]) ⟨_, rfl⟩ (fun H' s' => SqL.of (s' _ _ ep2)) (by omega) ?_ ?_
        · rintro j x a σ D3 H3 R1 R0 hx ha ⟨v2, rfl⟩ G3 k1
          obtain ⟨w, hw, q2, rfl, eq2⟩ := hA2.back hx
          rw [List.getElem?_map, hw] at ha
          obtain rfl := Option.some.inj ha
          have wl := (CJ.ways_inc (List.mem_of_getElem? hw)).2
          have en : [V.int ((f : Int) + (i : Nat))] ++ nV w = nV ((f + i) :: w) := by
            rw [show (f : Int) + (i : Nat) = ((f + i : Nat) : Int) by omega]
            rfl
          refine ⟨_, rfl, by first | decide | (simp only [List.length_cons, List.length_nil, List.length_append, List.length_map]; decide), fun p3 hp3 => ⟨_, rfl, p3, q2, _, _, rfl, rfl, upd_same, (Same.upd0 hp3) _ _ (G3.dh _ _ (G3.dd _ _ eq2)), by rw [nV_len]; show 1 + w.length ≤ sizeLine; omega, fun p4 hp4 => ?_⟩⟩
          have G4 := Gr.layH (o := .lst [V.int ((f : Int) + (i : Nat))]) G3.dh hp3
          have G5 := G4.trans (Gr.lay (o := .lst (nV ((f + i) :: w))) G4.dh hp4)
          rw [en]
          exact k1 _ _ _ _ ⟨_, rfl⟩ G5 ⟨p4, rfl, upd_same⟩
        · intro D3 H3 ys G3 e3 n3 hE
          obtain ⟨e1', n1'⟩ := (g2.trans G3).old e1 nd
          have hpre := ways_pre (m := m) (f := f) (e := e) (i := i + 1) (by omega)
          rw [List.range'_1_concat, List.flatMap_append, List.flatMap_cons, List.flatMap_nil, List.append_nil] at hpre
          have hE' := (hA.up fun _ _ => L13.NL.up (g2.trans G3).dd).app hE
          have hlen := hE'.1
          have p17 : 2 ^ (e - f) ≤ 2 ^ 16 := Nat.pow_le_pow_right (by decide) (by omega)
          rw [List.length_append] at hlen
          refine ⟨p0, c, _, _, rfl, rfl, e1', e3, by omega, D3, _, _, rfl, Gr.set (G.trans (g2.trans G3)) hp0 n1', upd_same, n1', ?_⟩
          rw [List.range'_1_concat, List.flatMap_append, List.flatMap_cons, List.flatMap_nil, List.append_nil]
          exact hE'
      · rintro σ H1 ⟨D1, zs, v, rfl, G, e1, nd, hA⟩
        refine ⟨_, rfl, q D1 H1 p0 zs G hp0 e1 nd ?_⟩
        unfold CJ.ways
        exact hA
theorem ok_q24 {fd_q24 : FuncData} (T : Txt K mg a)
    (F_q24 : Fun K "ways_of_taking" "ways_of_taking" s_q24 a.ways_of_taking fd_q24) (b_q24 : Binds K fd_q24 ["many", "first", "end"] []) : FnOk P w K mg base CX0 18 a.ways_of_taking fd_q24 ["many", "first", "end"] (sp_q24 K 17) := by
  have h : ∀ n, FnOk P w K mg base CX0 (1 + n) a.ways_of_taking fd_q24 ["many", "first", "end"] (sp_q24 K n) := fun n => by
    induction n with
    | zero => exact ⟨fun vs H Q E h => (none_q24 h).elim, fun A outer s H args us vs Q E _ _ _ _ h => (none_q24 h).elim⟩
    | succ n ih => exact step_q24 T  ih F_q24 b_q24
  exact h 17
def sp_q21 (K : PySem.W.Frag) : Sp := fun vs H Q _ => ∃ (ph pt : Addr) (zh zt : List V) (hs ts : List (List Nat)) (D : Hp), vs = [.ref ph, .ref pt] ∧ H ph = some (.lst zh) ∧ H pt = some (.lst zt) ∧ Same D H ∧ L13.Els L13.NL D zh hs ∧ L13.Els L13.NL D zt ts ∧ hs.length ≤ 65536 ∧ ts.length ≤ 65536 ∧ hs.length * ts.length ≤ 65536 ∧ (∀ x ∈ hs, x.length ≤ 100) ∧ (∀ x ∈ ts, x.length ≤ 100) ∧ Told D H (CJ.put hs ts) Q
theorem put_take {hs ts : List (List Nat)} {h : List Nat} {i : Nat} (e : hs[i]? = some h) : CJ.put (hs.take (i + 1)) ts = CJ.put (hs.take i) ts ++ ts.map (h ++ ·) := by
  unfold CJ.put
  rw [take_snoc e, List.flatMap_append, List.flatMap_cons, List.flatMap_nil, List.append_nil]
theorem nV_app (x y : List Nat) : nV x ++ nV y = nV (x ++ y) := by unfold nV; rw [List.map_append]
theorem ok_q21 {f : Addr} {fd : FuncData} (F : Fun K "put_together" "put_together" s_q21 f fd) (T : Txt K mg a) : FnOk P w K mg base CX0 1 f fd ["heads", "tails"] (sp_q21 K) := by
  refine F.ok sc_q21 (fun vs H Q E h => ?_) (fun cdv A outer s H vs Q E hr h => ?_)
  · obtain ⟨ph, pt, zh, zt, hs, ts, D, rfl, _⟩ := h
    rfl
  · obtain ⟨ph, pt, zh, zt, hs, ts, D, rfl, eh, et, sD, hA, tA, b1, b2, b3, b4, b5, q⟩ := h
    refine ⟨_, (pss_cons (psN (i := 2) (sc := defScope s_q21) (M := N_q21) rfl rfl (by decide +kernel) (pe_lst pa_nil))
      (pss_cons (ps_for PassesOwn.never rfl (pi_list (pvA 0 (defScope s_q21) N_q21 rfl rfl)) (pgC (i := 3) (sc := defScope s_q21) (M := N_q21) rfl rfl rfl (by decide +kernel)) (pss_one (ps_expr (pe_bm PySem.F.plainAttrs_list PySem.F.slot_list_extend PySem.F.type_list_extend mt_extend (pvA 2 (defScope s_q21) N_q21 rfl rfl) (pa_cons (pe_comp rfl (N := ["tail", "head"]) (own := 1) (js := [3]) (X := (cxOf CX0 P w K mg base N_q21 "put_together" (defScope s_q21) f cdv A outer s H E).nox) (compOk (defScope s_q21) N_q21 rfl rfl (by decide +kernel)) (pi_list (pvA 1 (defScope s_q21) N_q21 rfl rfl)) (fun fp0 sx0 Hx0 => (pgN (i := 0) (sc := relabelS _ (defScope s_q21)) (M := ["tail", "head"]) rfl rfl (by decide +kernel))) (fun fp0 sx0 Hx0 => pifs_nil) (fun fp0 sx0 Hx0 => (pe_op op_cat (pvN (i := 1) (sc := relabelS _ (defScope s_q21)) (M := ["tail", "head"]) rfl rfl (by decide +kernel)) (pvN (i := 0) (sc := relabelS _ (defScope s_q21)) (M := ["tail", "head"]) rfl rfl (by decide +kernel))))) pa_nil)))))
      (pss_one (ps_ret (pvA 2 (defScope s_q21) N_q21 rfl rfl))))), ?_⟩
    have hsz : sizeLine = 16777216 := sizeLine_eq
    refine ⟨by first | decide | (simp only [List.length_cons, List.length_nil, List.length_append, List.length_map]; decide), fun p0 hp0 => ?_⟩
    have G0 := Gr.layH (o := .lst []) sD hp0
    have e0 : upd H p0 (.lst []) p0 = some (.lst []) := upd_same
    have n0 : D p0 = none := free_of sD hp0
    generalize upd H p0 (.lst []) = H0 at G0 e0 ⊢
    have lh := hA.1
    have lt := tA.1
    refine ⟨_, rfl, ph, rfl, ⟨_, SqL.of (G0.hh _ _ eh)⟩, for_list (xs := zh) (fun i σ H' => ∃ D1 zs v, σ = [some (.ref ph), some (.ref pt), some (.ref p0), v] ∧ Gr D H D1 H' ∧ H' p0 = some (.lst zs) ∧ D1 p0 = none ∧ L13.Els L13.NL D1 zs (CJ.put (hs.take i) ts)) ⟨D, [], _, rfl, G0, e0, n0, by rw [List.take_zero]; exact L13.Els.nil⟩ ?_ ?_ ?_⟩
    · rintro i σ H' _ ⟨D1, zs, v, _, G, _⟩
      exact SqL.of (G.hh _ _ eh)
    · rintro i x σ H1 hx ⟨D1, zs, v, rfl, G, e1, nd, cA⟩
      obtain ⟨hd, ehd, qh, rfl, eqh⟩ := hA.back hx
      refine ⟨_, rfl, .inl ⟨rfl, _, SqL.of e1⟩, _, rfl, pt, rfl, ⟨_, SqL.of (G.hh _ _ et)⟩, fun c hc => ?_⟩
      refine L13.comp_els (Pd := L13.NL) L13.NL.up G.dh hc (yields_list (xs := zt)) (fun σ => ∃ v, σ = [v, some (.ref qh)]) (ts.map (hd ++ ·)) (by rw [List.length_map, lt]) ⟨_, rfl⟩ (fun H' s' => SqL.of (s' _ _ (G.hh _ _ et))) (by omega) ?_ ?_
      · rintro j x a σ D3 H3 R1 R0 hx ha ⟨v2, rfl⟩ G3 k1
        obtain ⟨tl, htl, q2, rfl, eq2⟩ := tA.back hx
        rw [List.getElem?_map, htl] at ha
        obtain rfl := Option.some.inj ha
        have l1 := b4 _ (List.mem_of_getElem? ehd)
        have l2 := b5 _ (List.mem_of_getElem? htl)
        have s3 : Same D H3 := (G.dd.trans G3.dd).trans G3.dh
        refine ⟨_, rfl, _, rfl, qh, q2, _, _, rfl, rfl, s3 _ _ eqh, s3 _ _ eq2, by rw [nV_len, nV_len]; omega, fun p4 hp4 => ?_⟩
        rw [nV_app]
        exact k1 _ _ _ _ ⟨_, rfl⟩ (Gr.lay (o := .lst (nV (hd ++ tl))) G3.dh hp4) ⟨p4, rfl, upd_same⟩
      · intro D3 H3 ys G3 e3 n3 hE
        obtain ⟨e1', n1'⟩ := G3.old e1 nd
        have hE' := (cA.up fun _ _ => L13.NL.up G3.dd).app hE
        rw [← put_take ehd] at hE'
        have hlen := hE'.1
        rw [CJ.put_len, List.length_append] at hlen
        have hb : (hs.take (i + 1)).length * ts.length ≤ hs.length * ts.length := Nat.mul_le_mul_right _ (by rw [List.length_take]; omega)
        exact ⟨p0, c, _, _, rfl, rfl, e1', e3, by omega, D3, _, _, rfl, Gr.set (G.trans G3) hp0 n1', upd_same, n1', hE'⟩
    · rintro σ H1 ⟨D1, zs, v, rfl, G, e1, nd, cA⟩
      rw [lh, List.take_length] at cA
      exact ⟨_, rfl, q D1 H1 p0 zs G hp0 e1 nd cA⟩
def sp_q3 (K : PySem.W.Frag) (n : Nat) : Sp := fun vs H Q _ => ∃ (pl : Addr) (xs : List V) (rs : List CF.Rule) (f : Nat) (D : Hp), vs = [.ref pl, .int f] ∧ Rd D pl (.lst xs) ∧ DataAll K D xs (CF.Rule.datas rs) ∧ Same D H ∧ CF.Rule.depths rs < n ∧ CF.Rule.depths rs ≤ 7 ∧ CF.Rule.Goods rs ∧ f + (CF.Rule.leavess rs).length ≤ 1000 ∧ (CF.Rule.leavess rs).length ≤ 16 ∧ rs.length ≤ 16 ∧
  ∀ D' H' p zs, Gr D H D' H' → H p = none → H' p = some (.lst zs) → D' p = none → L13.Els L13.NLL D' zs (CJ.chss rs f) → Q (.ref p) H'
def sp_q2 (K : PySem.W.Frag) (n : Nat) : Sp := fun vs H Q _ => ∃ (x : V) (r : CF.Rule) (f : Nat) (D : Hp), vs = [x, .int f] ∧ Same D H ∧ DataAt K D x r.data ∧ r.depth < n ∧ r.depth ≤ 7 ∧ r.Good ∧ r.leaves.length ≤ 16 ∧ f + r.leaves.length ≤ 1000 ∧ Told D H (CJ.chs r f) Q
theorem none_q2 {vs : List V} {H : Hp} {Q : VK} {E : XK} (h : sp_q2 K 0 vs H Q E) : False := by
  obtain ⟨x, r, f, D, _, _, _, h, _⟩ := h
  omega
theorem leavess_take (rs : List CF.Rule) (i : Nat) : (CF.Rule.leavess (rs.take i)).length ≤ (CF.Rule.leavess rs).length := by
  conv => rhs; rw [← List.take_append_drop i rs, CF.Rule.leavess_app, List.length_append]
  exact Nat.le_add_right _ _
theorem step_q3 {n : Nat} {fd_q3 fd_q2 fd_q19 : FuncData} (T : Txt K mg a)
    (G_q19 : FnOk P w K mg base CX0 10 a.leaves_of_rule fd_q19 ["rule"] (sp_q19 K 8)) (F_q19 : Fun K "leaves_of_rule" "leaves_of_rule" s_q19 a.leaves_of_rule fd_q19) (b_q19 : Binds K fd_q19 ["rule"] [])
    (G_q2 : FnOk P w K mg base CX0 (19 + 2 * n) a.choices_of_rule fd_q2 ["rule", "first"] (sp_q2 K n)) (F_q2 : Fun K "choices_of_rule" "choices_of_rule" s_q2 a.choices_of_rule fd_q2) (b_q2 : Binds K fd_q2 ["rule", "first"] [])
    (F_q3 : Fun K "choices_of_rules" "choices_of_rules" s_q3 a.choices_of_rules fd_q3) (b_q3 : Binds K fd_q3 ["rules", "first"] []) : FnOk P w K mg base CX0 (19 + 2 * n + 1) a.choices_of_rules fd_q3 ["rules", "first"] (sp_q3 K n) := by
  have F := F_q3
  refine F.ok sc_q3 (fun vs H Q E h => ?_) (fun cdv A outer s H vs Q E hr h => ?_)
  · obtain ⟨pl, xs, rs, f, D, rfl, _⟩ := h
    rfl
  · obtain ⟨pl, xs, rs, f, D, rfl, hp, hA, sD, hd, hd7, hg, hf, h16, hn16, q⟩ := h
    refine ⟨_, (pss_cons (psN (i := 2) (sc := defScope s_q3) (M := N_q3) rfl rfl (by decide +kernel) (pe_lst pa_nil))
      (pss_cons (ps_for PassesOwn.never rfl (pi_list (pvA 0 (defScope s_q3) N_q3 rfl rfl)) (pgN (i := 3) (sc := defScope s_q3) (M := N_q3) rfl rfl (by decide +kernel)) (pss_cons (ps_expr (pe_bm PySem.F.plainAttrs_list PySem.F.slot_list_append PySem.F.type_list_append mt_append (pvA 2 (defScope s_q3) N_q3 rfl rfl) (pa_cons (pe_callN (sc := defScope s_q3) G_q2 (hr.mono (by omega)) rfl (by decide +kernel) T.m_q2 F_q2.kp b_q2 .nil pass0 (pa_cons (pvA 3 (defScope s_q3) N_q3 rfl rfl) (pa_cons (pvA 1 (defScope s_q3) N_q3 rfl rfl) pa_nil))) pa_nil)))
      (pss_one (psN (i := 1) (sc := defScope s_q3) (M := N_q3) rfl rfl (by decide +kernel) (pe_op op_add (pvA 1 (defScope s_q3) N_q3 rfl rfl) (pe_callBN (sc := defScope s_q3) call_len rfl (by decide +kernel) T.z_len bt_len (pa_cons (pe_callN (sc := defScope s_q3) G_q19 (hr.mono (by omega)) rfl (by decide +kernel) T.m_q19 F_q19.kp b_q19 .nil pass0 (pa_cons (pvA 3 (defScope s_q3) N_q3 rfl rfl) pa_nil)) pa_nil)))))))
      (pss_one (ps_ret (pvA 2 (defScope s_q3) N_q3 rfl rfl))))), ?_⟩
    have hs : sizeLine = 16777216 := sizeLine_eq
    refine ⟨by first | decide | (simp only [List.length_cons, List.length_nil, List.length_append, List.length_map]; decide), fun p0 hp0 => ?_⟩
    have G0 := Gr.layH (o := .lst []) sD hp0
    have e0 : upd H p0 (.lst []) p0 = some (.lst []) := upd_same
    have n0 : D p0 = none := free_of sD hp0
    generalize upd H p0 (.lst []) = H0 at G0 e0 ⊢
    have lx := DataAll.length hA
    rw [CF.Rule.datas_map, List.length_map] at lx
    refine ⟨_, rfl, pl, rfl, ⟨_, .inl (Rd.same G0.dh hp)⟩, for_list (xs := xs) (fun i σ H' => ∃ D1 zs v, σ = [some (.ref pl), some (.int ((f + (CF.Rule.leavess (rs.take i)).length : Nat) : Int)), some (.ref p0), v] ∧ Gr D H D1 H' ∧ H' p0 = some (.lst zs) ∧ D1 p0 = none ∧ L13.Els L13.NLL D1 zs (CJ.chss (rs.take i) f)) ⟨D, [], none, ?_, G0, e0, n0, ?_⟩ ?_ ?_ ?_⟩
    · rw [List.take_zero, CF.Rule.leavess_nil]
      rfl
    · rw [List.take_zero]
      unfold CJ.chss
      exact L13.Els.nil
    · rintro i σ H' _ ⟨D1, zs, v, _, G, _⟩
      exact .inl (Rd.same G.dh (Rd.same G.dd hp))
    · rintro i y σ H1 hy ⟨D1, zs, v, rfl, G, e1, nd, cA⟩
      obtain ⟨d, ed, hyd⟩ := DataAll.back hA hy
      rw [CF.Rule.datas_map, List.getElem?_map] at ed
      obtain ⟨r1, er1, rfl⟩ := Option.map_eq_some_iff.mp ed
      have hmem := List.mem_of_getElem? er1
      have hd1 := CF.Rule.depths_mem hmem
      have hl1 := CH.leaves_mem hmem
      have hg1 := CF.Rule.goods_iff.mp hg r1 hmem
      have eT : CF.Rule.leavess (rs.take (i + 1)) = CF.Rule.leavess (rs.take i) ++ r1.leaves := by
        rw [take_snoc er1, CF.Rule.leavess_app, CF.Rule.leavess_one]
      have hle := leavess_take rs (i + 1)
      rw [eT, List.length_append] at hle
      have hi : i < rs.length := (List.getElem?_eq_some_iff.mp er1).1
      refine ⟨_, rfl, .inl ⟨rfl, _, SqL.of e1⟩, _, rfl, _, rfl, y, r1, _, D1, rfl, G.dh, DataAt.gr hyd G, by omega, by omega, hg1, by omega, by omega, fun D2 H2 p2 zs2 g2 np2 ep2 nd2 hA2 => ?_⟩
      obtain ⟨e1', n1'⟩ := g2.old e1 nd
      have len := cA.1
      rw [CJ.chss_len, List.length_take] at len
      have hne : p0 ≠ p2 := fun z => by rw [← z, e1] at np2; cases np2
      have np2H : H p2 = none := G.hh.free np2
      have G2 := (G.trans g2).fix np2H nd2 ep2
      have n0' : upd D2 p2 (.lst zs2) p0 = none := by rw [upd_ne hne]; exact n1'
      have G3 := G2.set (o := .lst (zs ++ [.ref p2])) hp0 n0'
      have dd2 : Same D2 (upd D2 p2 (.lst zs2)) := Same.upd0 nd2
      refine ⟨p0, _, _, rfl, rfl, e1', by omega, ?_⟩
      refine ⟨_, rfl, _, rfl, y, r1, _, rfl, G3.dh, DataAt.gr hyd G3, by omega, by omega, fun D4 H4 p4 zs4 g4 np4 ep4 nd4 lv4 => ⟨.ref p4, r1.leaves.length, rfl, .inl ⟨_, SqL.of ep4, (CF.LeafVs.length lv4).symm⟩, _, _, rfl, rfl, ?_⟩⟩
      obtain ⟨e5, n5⟩ := g4.old (show upd H2 p0 (.lst (zs ++ [.ref p2])) p0 = _ from upd_same) n0'
      refine ⟨D4, _, some y, ?_, G3.trans g4, e5, n5, ?_⟩
      · rw [eT, List.length_append]
        show [some (V.ref pl), some (V.int (((f + (CF.Rule.leavess (rs.take i)).length : Nat) : Int) + (r1.leaves.length : Nat))), some (V.ref p0), some y] = _
        rw [show ((f + (CF.Rule.leavess (rs.take i)).length : Nat) : Int) + (r1.leaves.length : Nat) = ((f + ((CF.Rule.leavess (rs.take i)).length + r1.leaves.length) : Nat) : Int) by omega]
      · rw [take_snoc er1, CJ.chss_snoc]
        have c1 := cA.up fun _ _ => L13.NLL.up ((g2.dd.trans dd2).trans g4.dd)
        refine c1.snoc ⟨p2, zs2, rfl, g4.dd _ _ upd_same, hA2.up fun _ _ => L13.NL.up (dd2.trans g4.dd)⟩
    · rintro σ H1 ⟨D1, zs, v, rfl, G, e1, nd, cA⟩
      rw [lx, List.take_length] at cA
      exact ⟨_, rfl, q D1 H1 p0 zs G hp0 e1 nd cA⟩
theorem chs_grp {r : CF.Rule} {m : Nat} (hl : r.isLeaf = false) (hm : many r = (m : Int)) (f : Nat) : CJ.chs r f = CJ.pick m (CJ.chss r.rules f) := by
  cases r with
  | leaf l => cases hl
  | allr rs =>
    have hm' : ((rs.length : Nat) : Int) = (m : Int) := hm
    obtain rfl : rs.length = m := by omega
    unfold CJ.chs
    rfl
  | somr n rs =>
    have hm' : n = (m : Int) := hm
    subst hm'
    unfold CJ.chs
    rfl
theorem along_snoc {parts : List (List (List Nat))} {acc : List (List Nat)} {w : List Nat} {p j : Nat} (e : w[j]? = some p) : CJ.along parts acc (w.take (j + 1)) = CJ.put (CJ.along parts acc (w.take j)) (parts.getD p []) := by
  unfold CJ.along
  rw [take_snoc e, List.foldl_append]
  rfl
theorem flat_take {α β : Type} {l : List α} {f : α → List β} {i : Nat} {x : α} (e : l[i]? = some x) : (l.take (i + 1)).flatMap f = (l.take i).flatMap f ++ f x := by
  rw [take_snoc e, List.flatMap_append, List.flatMap_cons, List.flatMap_nil, List.append_nil]
theorem flat_pre {α β : Type} (l : List α) (f : α → List β) (i : Nat) : ((l.take i).flatMap f).length ≤ (l.flatMap f).length := by
  conv => rhs; rw [← List.take_append_drop i l, List.flatMap_append, List.length_append]
  exact Nat.le_add_right _ _
theorem step_q2 {n : Nat} {fd_q2 fd_q3 fd_q7 fd_q19 fd_q20 fd_q21 fd_q22 fd_q24 : FuncData} (T : Txt K mg a)
    (G_q7 : FnOk P w K mg base CX0 1 a.is_leaf fd_q7 ["rule"] (sp_q7 K)) (F_q7 : Fun K "is_leaf" "is_leaf" s_q7 a.is_leaf fd_q7) (b_q7 : Binds K fd_q7 ["rule"] [])
    (G_q19 : FnOk P w K mg base CX0 10 a.leaves_of_rule fd_q19 ["rule"] (sp_q19 K 8)) (F_q19 : Fun K "leaves_of_rule" "leaves_of_rule" s_q19 a.leaves_of_rule fd_q19) (b_q19 : Binds K fd_q19 ["rule"] [])
    (G_q20 : FnOk P w K mg base CX0 2 a.many_of fd_q20 ["group"] (sp_q20 K)) (F_q20 : Fun K "many_of" "many_of" s_q20 a.many_of fd_q20) (b_q20 : Binds K fd_q20 ["group"] [])
    (G_q21 : FnOk P w K mg base CX0 1 a.put_together fd_q21 ["heads", "tails"] (sp_q21 K)) (F_q21 : Fun K "put_together" "put_together" s_q21 a.put_together fd_q21) (b_q21 : Binds K fd_q21 ["heads", "tails"] [])
    (G_q22 : FnOk P w K mg base CX0 1 a.rules_of fd_q22 ["group"] (sp_q22 K)) (F_q22 : Fun K "rules_of" "rules_of" s_q22 a.rules_of fd_q22) (b_q22 : Binds K fd_q22 ["group"] [])
    (G_q24 : FnOk P w K mg base CX0 18 a.ways_of_taking fd_q24 ["many", "first", "end"] (sp_q24 K 17)) (F_q24 : Fun K "ways_of_taking" "ways_of_taking" s_q24 a.ways_of_taking fd_q24) (b_q24 : Binds K fd_q24 ["many", "first", "end"] [])
    (G_q3 : FnOk P w K mg base CX0 (19 + 2 * n + 1) a.choices_of_rules fd_q3 ["rules", "first"] (sp_q3 K n)) (F_q3 : Fun K "choices_of_rules" "choices_of_rules" s_q3 a.choices_of_rules fd_q3) (b_q3 : Binds K fd_q3 ["rules", "first"] [])
    (F_q2 : Fun K "choices_of_rule" "choices_of_rule" s_q2 a.choices_of_rule fd_q2) (b_q2 : Binds K fd_q2 ["rule", "first"] []) : FnOk P w K mg base CX0 (19 + 2 * n + 2) a.choices_of_rule fd_q2 ["rule", "first"] (sp_q2 K (n + 1)) := by
  have F := F_q2
  refine F.ok sc_q2 (fun vs H Q E h => ?_) (fun cdv A outer s H vs Q E hr h => ?_)
  · obtain ⟨x, r, f, D, rfl, _⟩ := h
    rfl
  · obtain ⟨x, r, f, D, rfl, sD, hx, hd, hd7, hg, hm, hf, q⟩ := h
    refine ⟨_, (pss_cons (ps_if (pt_val (pe_callN (sc := defScope s_q2) G_q7 (hr.mono (by omega)) rfl (by decide +kernel) T.m_q7 F_q7.kp b_q7 .nil pass0 (pa_cons (pvA 0 (defScope s_q2) N_q2 rfl rfl) pa_nil))) (pss_one (ps_ret (pe_lst (pa_cons (pe_lst (pa_cons (pvA 1 (defScope s_q2) N_q2 rfl rfl) pa_nil)) pa_nil)))) pss_nil)
      (pss_cons (psN (i := 2) (sc := defScope s_q2) (M := N_q2) rfl rfl (by decide +kernel) (pe_callN (sc := defScope s_q2) G_q3 (hr.mono (by omega)) rfl (by decide +kernel) T.m_q3 F_q3.kp b_q3 .nil pass0 (pa_cons (pe_callN (sc := defScope s_q2) G_q22 (hr.mono (by omega)) rfl (by decide +kernel) T.m_q22 F_q22.kp b_q22 .nil pass0 (pa_cons (pvA 0 (defScope s_q2) N_q2 rfl rfl) pa_nil)) (pa_cons (pvA 1 (defScope s_q2) N_q2 rfl rfl) pa_nil))))
      (pss_cons (psN (i := 3) (sc := defScope s_q2) (M := N_q2) rfl rfl (by decide +kernel) (pe_lst pa_nil))
      (pss_cons (ps_for PassesOwn.never rfl (pi_list (pe_callN (sc := defScope s_q2) G_q24 (hr.mono (by omega)) rfl (by decide +kernel) T.m_q24 F_q24.kp b_q24 .nil pass0 (pa_cons (pe_callN (sc := defScope s_q2) G_q20 (hr.mono (by omega)) rfl (by decide +kernel) T.m_q20 F_q20.kp b_q20 .nil pass0 (pa_cons (pvA 0 (defScope s_q2) N_q2 rfl rfl) pa_nil)) (pa_cons pe_int (pa_cons (pe_callBN (sc := defScope s_q2) call_len rfl (by decide +kernel) T.z_len bt_len (pa_cons (pvA 2 (defScope s_q2) N_q2 rfl rfl) pa_nil)) pa_nil))))) (pgN (i := 4) (sc := defScope s_q2) (M := N_q2) rfl rfl (by decide +kernel)) (pss_cons (psN (i := 5) (sc := defScope s_q2) (M := N_q2) rfl rfl (by decide +kernel) (pe_lst (pa_cons (pe_lst pa_nil) pa_nil)))
      (pss_cons (ps_for PassesOwn.never rfl (pi_list (pvA 4 (defScope s_q2) N_q2 rfl rfl)) (pgN (i := 6) (sc := defScope s_q2) (M := N_q2) rfl rfl (by decide +kernel)) (pss_one (psN (i := 5) (sc := defScope s_q2) (M := N_q2) rfl rfl (by decide +kernel) (pe_callN (sc := defScope s_q2) G_q21 (hr.mono (by omega)) rfl (by decide +kernel) T.m_q21 F_q21.kp b_q21 .nil pass0 (pa_cons (pvA 5 (defScope s_q2) N_q2 rfl rfl) (pa_cons (pe_ix ix_list (pvA 2 (defScope s_q2) N_q2 rfl rfl) (pvA 6 (defScope s_q2) N_q2 rfl rfl) (fun _ _ => rfl)) pa_nil))))))
      (pss_one (ps_expr (pe_bm PySem.F.plainAttrs_list PySem.F.slot_list_extend PySem.F.type_list_extend mt_extend (pvA 3 (defScope s_q2) N_q2 rfl rfl) (pa_cons (pvA 5 (defScope s_q2) N_q2 rfl rfl) pa_nil)))))))
      (pss_one (ps_ret (pvA 3 (defScope s_q2) N_q2 rfl rfl))))))), ?_⟩
    have hs : sizeLine = 16777216 := sizeLine_eq
    refine ⟨_, rfl, _, r, rfl, DataAt.up hx sD, fun H1 s1 => ⟨_, rfl, ?_⟩⟩
    have G1 : Gr D H D H1 := Gr.heap sD s1
    cases hl : r.isLeaf with
    | true =>
      cases r with
      | allr rs => cases hl
      | somr m rs => cases hl
      | leaf l =>
        refine iteT ⟨_, rfl, by first | decide | (simp only [List.length_cons, List.length_nil, List.length_append, List.length_map]; decide), fun p1 hp1 => ⟨by first | decide | (simp only [List.length_cons, List.length_nil, List.length_append, List.length_map]; decide), fun p2 hp2 => ?_⟩⟩
        have G2 := G1.trans (Gr.lay (o := .lst [.int (f : Nat)]) G1.dh hp1)
        have G3 := G2.trans (Gr.layH (o := .lst [.ref p1]) G2.dh hp2)
        refine q _ _ p2 _ G3 (G2.hh.free hp2) upd_same (free_of G2.dh hp2) ?_
        unfold CJ.chs
        exact L13.Els.one ⟨p1, rfl, upd_same⟩
    | false =>
      obtain ⟨m, em, hm16, ec, eL, eD, hgs, h16, hmr⟩ := grp_facts hl hg
      obtain ⟨t, p, xs, rfl, et, ep, hA⟩ := CF.Rule.grp hx hl
      refine iteF ⟨_, rfl, t, r.head, .ref p, rfl, SqT.of (G1.dh _ _ et), _, rfl, p, xs, r.rules, f, D, rfl, ep, hA, G1.dh, by omega, by omega, hgs, by rw [← eL]; omega, by rw [← eL]; omega, h16, fun D2 H2 pp zp g2 np2 ep2 nd2 hP => ?_⟩
      have PP := CJ.chss_ok f hgs
      have esum := CJ.lens_sum r.rules
      rw [← eL] at esum
      have elen := CJ.chss_len r.rules f
      have p16 : 2 ^ (CJ.lens r.rules).sum ≤ 2 ^ 16 := Nat.pow_le_pow_right (by decide) (by omega)
      have q1 := q
      rw [chs_grp hl em f] at q1
      have all16 := PP.pick_len m
      unfold CJ.pick at q1 all16
      clear q ec
      generalize CJ.chss r.rules f = parts at hP PP elen q1 all16
      have lzp := hP.1
      have G2 := (G1.trans g2).fix (G1.hh.free np2) nd2 ep2
      have hP2 : L13.Els L13.NLL (upd D2 pp (.lst zp)) zp parts := hP.up fun _ _ => L13.NLL.up (Same.upd0 nd2)
      have dpp : upd D2 pp (.lst zp) pp = some (.lst zp) := upd_same
      generalize upd D2 pp (.lst zp) = D3 at G2 hP2 dpp
      clear hP g2 G1
      refine ⟨by first | decide | (simp only [List.length_cons, List.length_nil, List.length_append, List.length_map]; decide), fun p0 hp0 => ?_⟩
      have np0 : H p0 = none := G2.hh.free hp0
      have n3 : D3 p0 = none := free_of G2.dh hp0
      have G3 := G2.trans (Gr.layH (o := .lst []) G2.dh hp0)
      have e3 : upd H2 p0 (.lst []) p0 = some (.lst []) := upd_same
      generalize upd H2 p0 (.lst []) = H3 at G3 e3 ⊢
      refine ⟨_, rfl, _, r, rfl, DataAt.up (DataAt.gr hx G3) G3.dh, hl, _, rfl, .ref pp, parts.length, rfl, .inl ⟨_, SqL.of (G3.dh _ _ dpp), lzp.symm⟩, m, 0, parts.length, D3, (by rw [em]; rfl), by omega, by omega, by omega, by omega, G3.dh, fun D4 H4 pw zw g4 npw epw ndw hW => ?_⟩
      have lzw := hW.1
      have G4 := G3.trans g4
      obtain ⟨e4, n4⟩ := g4.old e3 n3
      have npw0 : pw ≠ p0 := fun z => by rw [z, e3] at npw; cases npw
      refine ⟨pw, rfl, ⟨_, SqL.of epw⟩, for_list (xs := zw) (fun i σ H' => ∃ D5 zs v1 v2 v3, σ = [some (.ref t), some (.int (f : Nat)), some (.ref pp), some (.ref p0), v1, v2, v3] ∧ Gr D H D5 H' ∧ Same D4 D5 ∧ H' pw = some (.lst zw) ∧ H' p0 = some (.lst zs) ∧ D5 p0 = none ∧ L13.Els L13.NL D5 zs (((CJ.ways m 0 parts.length).take i).flatMap (CJ.along parts [[]]))) ⟨D4, [], _, _, _, rfl, G4, Same.refl _, epw, e4, n4, by rw [List.take_zero]; exact L13.Els.nil⟩ ?_ ?_ ?_⟩
      · rintro i σ H' _ ⟨D5, zs, v1, v2, v3, _, _, _, ew, _⟩
        exact SqL.of ew
      · rintro i y σ H5 hy ⟨D5, zs, v1, v2, v3, rfl, G5, d45, ew5, e5, n5, cA⟩
        obtain ⟨w, hw, qw, rfl, eqw⟩ := hW.back hy
        obtain ⟨inc, wlen⟩ := CJ.ways_inc (List.mem_of_getElem? hw)
        refine ⟨by first | decide | (simp only [List.length_cons, List.length_nil, List.length_append, List.length_map]; decide), fun p6 hp6 => ⟨by first | decide | (simp only [List.length_cons, List.length_nil, List.length_append, List.length_map]; decide), fun p7 hp7 => ?_⟩⟩
        have g6 := Gr.lay (o := .lst []) G5.dh hp6
        have t6 : L13.NL (upd D5 p6 (.lst [])) (.ref p6) [] := ⟨p6, rfl, upd_same⟩
        have g7 := g6.trans (Gr.layH (o := .lst [.ref p6]) g6.dh hp7)
        have e7 : upd (upd H5 p6 (.lst [])) p7 (.lst [.ref p6]) p7 = some (.lst [.ref p6]) := upd_same
        generalize upd (upd H5 p6 (.lst [])) p7 (.lst [.ref p6]) = H7 at g7 e7 ⊢
        generalize upd D5 p6 (.lst []) = D6 at g7 t6
        refine ⟨_, rfl, qw, rfl, ⟨_, SqL.of (g7.dh _ _ (g7.dd _ _ (d45 _ _ eqw)))⟩, for_list (xs := nV w) (fun j σ H' => ∃ D8 pt zt v, σ = [some (.ref t), some (.int (f : Nat)), some (.ref pp), some (.ref p0), some (.ref qw), some (.ref pt), v] ∧ Gr D5 H5 D8 H' ∧ H' pt = some (.lst zt) ∧ L13.Els L13.NL D8 zt (CJ.along parts [[]] (w.take j))) ⟨D6, p7, _, _, rfl, g7, e7, by rw [List.take_zero]; exact L13.Els.one t6⟩ ?_ ?_ ?_⟩
        · rintro j σ H' _ ⟨D8, pt, zt, v, _, g8, _⟩
          exact SqL.of (g8.dh _ _ (g8.dd _ _ (d45 _ _ eqw)))
        · rintro j z σ H8 hz ⟨D8, pt, zt, v, rfl, g8, e8, tA⟩
          unfold nV at hz
          rw [List.getElem?_map] at hz
          obtain ⟨pc, hpc, rfl⟩ := Option.map_eq_some_iff.mp hz
          have plt := inc.lt pc (List.mem_of_getElem? hpc)
          have epc : parts[pc]? = some (parts.getD pc []) := by rw [List.getD_eq_getElem?_getD, List.getElem?_eq_getElem plt]; rfl
          obtain ⟨vq, evq, qp, zq, rfl, eqp, qA⟩ := hP2.at_ epc
          have d38 : Same D3 D8 := g4.dd.trans (d45.trans g8.dd)
          obtain ⟨u1, u2⟩ := PP.upto inc j
          obtain ⟨u3, u4⟩ := PP.upto inc (j + 1)
          rw [along_snoc hpc, CJ.put_len] at u3
          have f1 := PP.few pc
          have f2 := PP.short pc
          have f3 : 2 ^ (CJ.lens r.rules).getD pc 0 ≤ 2 ^ 16 := by
            refine Nat.pow_le_pow_right (by decide) ?_
            have hm1 : ∀ (l : List Nat) (k : Nat), l.getD k 0 ≤ l.sum := fun l => by
              induction l with
              | nil => intro k; exact Nat.zero_le _
              | cons a l ih =>
                intro k
                rw [List.sum_cons]
                cases k with
                | zero => exact Nat.le_add_right _ _
                | succ k => exact Nat.le_trans (ih k) (Nat.le_add_left _ _)
            have := hm1 (CJ.lens r.rules) pc
            omega
          have f4 : (CJ.lens r.rules).getD pc 0 ≤ 16 := by
            rcases Nat.lt_or_ge 16 ((CJ.lens r.rules).getD pc 0) with z | z
            · have := Nat.pow_lt_pow_right (a := 2) (by decide) z
              omega
            · exact z
          refine ⟨_, rfl, _, rfl, _, rfl, pp, _, _, _, rfl, rfl, SqL.of (g8.dh _ _ (d38 _ _ dpp)), atI_nat evq, pt, qp, zt, zq, _, _, D8, rfl, e8, g8.dh _ _ (d38 _ _ eqp), g8.dh, tA, qA.up fun _ _ => L13.NL.up d38, by omega, by omega, by omega, (fun x hx => by have := u2 x hx; omega), (fun x hx => by have := f2 x hx; omega), fun D9 H9 p9 z9 g9 np9 ep9 nd9 A9 => ?_⟩
          exact ⟨D9, p9, z9, _, rfl, g8.trans g9, ep9, by rw [along_snoc hpc]; exact A9⟩
        · rintro σ H8 ⟨D8, pt, zt, v, rfl, g8, e8, tA⟩
          rw [nV_len, List.take_length] at tA
          obtain ⟨e9, n9⟩ := g8.old e5 n5
          have c9 := (cA.up fun _ _ => L13.NL.up g8.dd).app tA
          rw [← flat_take hw] at c9
          have l9 := c9.1
          have l10 := flat_pre (CJ.ways m 0 parts.length) (CJ.along parts [[]]) (i + 1)
          rw [List.length_append] at l9
          refine ⟨_, rfl, .inl ⟨rfl, _, SqL.of e9⟩, _, rfl, p0, pt, _, _, rfl, rfl, e9, e8, by omega, D8, _, _, _, _, rfl, Gr.set (G5.trans g8) np0 n9, d45.trans g8.dd, ?_, upd_same, n9, c9⟩
          rw [upd_ne npw0]
          exact g8.hh _ _ ew5
      · rintro σ H5 ⟨D5, zs, v1, v2, v3, rfl, G5, d45, ew5, e5, n5, cA⟩
        rw [lzw, List.take_length] at cA
        exact ⟨_, rfl, q1 D5 H5 p0 zs G5 np0 e5 n5 cA⟩
theorem ok_q2 {fd_q2 fd_q3 fd_q7 fd_q19 fd_q20 fd_q21 fd_q22 fd_q24 : FuncData} (T : Txt K mg a)
    (G_q7 : FnOk P w K mg base CX0 1 a.is_leaf fd_q7 ["rule"] (sp_q7 K)) (F_q7 : Fun K "is_leaf" "is_leaf" s_q7 a.is_leaf fd_q7) (b_q7 : Binds K fd_q7 ["rule"] [])
    (G_q19 : FnOk P w K mg base CX0 10 a.leaves_of_rule fd_q19 ["rule"] (sp_q19 K 8)) (F_q19 : Fun K "leaves_of_rule" "leaves_of_rule" s_q19 a.leaves_of_rule fd_q19) (b_q19 : Binds K fd_q19 ["rule"] [])
    (G_q20 : FnOk P w K mg base CX0 2 a.many_of fd_q20 ["group"] (sp_q20 K)) (F_q20 : Fun K "many_of" "many_of" s_q20 a.many_of fd_q20) (b_q20 : Binds K fd_q20 ["group"] [])
    (G_q21 : FnOk P w K mg base CX0 1 a.put_together fd_q21 ["heads", "tails"] (sp_q21 K)) (F_q21 : Fun K "put_together" "put_together" s_q21 a.put_together fd_q21) (b_q21 : Binds K fd_q21 ["heads", "tails"] [])
    (G_q22 : FnOk P w K mg base CX0 1 a.rules_of fd_q22 ["group"] (sp_q22 K)) (F_q22 : Fun K "rules_of" "rules_of" s_q22 a.rules_of fd_q22) (b_q22 : Binds K fd_q22 ["group"] [])
    (G_q24 : FnOk P w K mg base CX0 18 a.ways_of_taking fd_q24 ["many", "first", "end"] (sp_q24 K 17)) (F_q24 : Fun K "ways_of_taking" "ways_of_taking" s_q24 a.ways_of_taking fd_q24) (b_q24 : Binds K fd_q24 ["many", "first", "end"] [])
    (F_q3 : Fun K "choices_of_rules" "choices_of_rules" s_q3 a.choices_of_rules fd_q3) (b_q3 : Binds K fd_q3 ["rules", "first"] [])
    (F_q2 : Fun K "choices_of_rule" "choices_of_rule" s_q2 a.choices_of_rule fd_q2) (b_q2 : Binds K fd_q2 ["rule", "first"] [])
     : FnOk P w K mg base CX0 35 a.choices_of_rule fd_q2 ["rule", "first"] (sp_q2 K 8) := by
  have h : ∀ n, FnOk P w K mg base CX0 (19 + 2 * n) a.choices_of_rule fd_q2 ["rule", "first"] (sp_q2 K n) := fun n => by
    induction n with
    | zero => exact ⟨fun vs H Q E h => (none_q2 h).elim, fun A outer s H args us vs Q E _ _ _ _ h => (none_q2 h).elim⟩
    | succ n ih => exact step_q2 T G_q7 F_q7 b_q7 G_q19 F_q19 b_q19 G_q20 F_q20 b_q20 G_q21 F_q21 b_q21 G_q22 F_q22 b_q22 G_q24 F_q24 b_q24 (step_q3 T G_q19 F_q19 b_q19 ih F_q2 b_q2 F_q3 b_q3) F_q3 b_q3 F_q2 b_q2
  exact h 8
def IsMany (K : PySem.W.Frag) (C : Addr) : Prop := PySem.W.nsIn K mainGlobals "TooMany" = some (some (.ref C)) ∧ ∃ init, exIn K NS init C = true
def sp_q1 (K : PySem.W.Frag) : Sp := fun vs H Q E => ∃ (x : V) (c : CF.Course) (D : Hp), vs = [x] ∧ Same D H ∧ DataAt K D x c.data ∧ c.rule.depth ≤ 7 ∧ c.rule.Good ∧ c.rule.leaves.length ≤ 16 ∧
  (CH.Rule.count c.rule ≤ 32 → Told D H (CJ.chs c.rule 0) Q) ∧
  (32 < CH.Rule.count c.rule → ∀ C d H', IsMany K C → Same H H' → H' d = some (.xd [("most", .int 32)]) → E (.ref C) (some d) H')
theorem ok_q1 {f : Addr} {fd fd_q0 fd_q2 fd_q5 : FuncData} (F : Fun K "choices" "choices" s_q1 f fd) (T : Txt K mg a)
    (G_q0 : FnOk P w K mg base CX0 1 a.TooMany___init__ fd_q0 ["self", "most"] (sp_q0 K)) (F_q0 : Fun K "__init__" "TooMany.__init__" s_q0 a.TooMany___init__ fd_q0) (b_q0 : Binds K fd_q0 ["self", "most"] [])
    (G_q2 : FnOk P w K mg base CX0 35 a.choices_of_rule fd_q2 ["rule", "first"] (sp_q2 K 8)) (F_q2 : Fun K "choices_of_rule" "choices_of_rule" s_q2 a.choices_of_rule fd_q2) (b_q2 : Binds K fd_q2 ["rule", "first"] [])
    (G_q5 : FnOk P w K mg base CX0 12 a.count_choices fd_q5 ["course"] (sp_q5 K)) (F_q5 : Fun K "count_choices" "count_choices" s_q5 a.count_choices fd_q5) (b_q5 : Binds K fd_q5 ["course"] []) : FnOk P w K mg base (CXE P w) 36 f fd ["course"] (sp_q1 K) := by
  obtain ⟨_, k_MOST_CHOICES⟩ := T.k_MOST_CHOICES
  refine fun_okX F sc_q1 (fun vs H Q E h => ?_) (fun cdv A outer s H vs Q E hr h => ?_)
  · obtain ⟨x, c, D, rfl, _⟩ := h
    rfl
  · obtain ⟨x, c, D, rfl, sD, hx, hd, hg, hl, q, qe⟩ := h
    refine ⟨_, (pss_cons (ps_if (pt_cmpR op_gt (pe_callN (sc := defScope s_q1) G_q5 (hr.mono (by decide)) rfl (by decide +kernel) T.m_q5 F_q5.kp b_q5 .nil pass0 (pa_cons (pvA 0 (defScope s_q1) N_q1 rfl rfl) pa_nil)) (pe_globN (v := V.int 32) (sc := defScope s_q1) rfl (by decide +kernel) k_MOST_CHOICES ⟨_, rfl⟩) (nomark _)) (pss_one (ps_raise (ns := NS) (pe_makeX T.x_TooMany T.fn_TooMany G_q0 (hr.mono (by decide)) (sc := defScope s_q1) rfl (by decide +kernel) T.m_TooMany b_q0 pass0 (pa_cons (pe_globN (v := V.int 32) (sc := defScope s_q1) rfl (by decide +kernel) k_MOST_CHOICES ⟨_, rfl⟩) pa_nil)) rfl throws_fn)) pss_nil)
      (pss_one (ps_ret (pe_callN (sc := defScope s_q1) G_q2 (hr.mono (by decide)) rfl (by decide +kernel) T.m_q2 F_q2.kp b_q2 .nil pass0 (pa_cons (pe_ix ix_tup (pvA 0 (defScope s_q1) N_q1 rfl rfl) pe_int (fun _ _ => rfl)) (pa_cons pe_int pa_nil)))))), ?_⟩
    refine ⟨_, rfl, x, c, rfl, DataAt.up hx sD, hd, hg, hl, fun H1 s1 => ?_⟩
    refine ⟨_, _, rfl, rfl, _, rfl, ite2 (fun h1 => ?_) (fun h1 => ?_)⟩
    · have hc : 32 < CH.Rule.count c.rule := by have := of_decide_eq_true h1; omega
      refine ⟨by show 1 ≤ 15; decide, fun x hx => ⟨x, a.C_TooMany, _, true, _, rfl, upd_same, T.x_TooMany.ex, fun d hd hdx => ⟨rfl, x, a.C_TooMany, some d, _, rfl, upd_same, T.x_TooMany.ex, s1.free hx, ?_⟩⟩⟩
      have hd0 : H1 d = none := (Same.upd0 (o := exO x a.C_TooMany none true) hx).free hd
      refine qe hc a.C_TooMany d _ ⟨T.n_TooMany, _, T.x_TooMany.ex⟩ (s1.trans fun b o e => ?_) ?_
      · rw [upd_ne (ne_of_none e hx), upd_ne (ne_of_none e hx), upd_ne (ne_of_none e hd0), upd_ne (ne_of_none e hx)]
        exact e
      · rw [upd_ne hdx, upd_ne hdx, upd_same]
    · have hc : CH.Rule.count c.rule ≤ 32 := by have := mt decide_eq_true h1; omega
      obtain ⟨t, po, y, rfl, et, _, _, hy⟩ := course_tup hx
      have G1 : Gr D H D H1 := Gr.heap sD s1
      exact ⟨_, rfl, t, _, _, _, rfl, rfl, SqT.of (G1.dh _ _ et), rfl, y, c.rule, 0, D, rfl, G1.dh, hy, by omega, hd, hg, hl, by omega, fun D' H' p zs g np ep nd hA => q hc D' H' p zs (G1.trans g) (s1.free np) ep nd hA⟩
theorem vec_more (f : Nat → Nat) (x m : Nat) (h : f (m + 1) = 0) : [V.int 1] ++ nV ((List.range m).map fun i => CH.stepE f x (i + 1)) ++ [V.int ((f m : Nat) * (x : Nat))] = nV ((List.range (m + 1 + 1)).map (CH.stepE f x)) := by
  rw [vec_step, List.range_succ (n := m + 1), List.map_append]
  unfold nV
  rw [List.map_append]
  congr 1
  show [V.int ((f m : Nat) * (x : Nat))] = [V.int (f (m + 1) + x * f m : Nat)]
  rw [h, Nat.zero_add, Nat.mul_comm, Int.natCast_mul]
theorem vec_last (f : Nat → Nat) (m : Nat) : atI (nV ((List.range (m + 1)).map f)) (-1) = some (.int (f m : Nat)) := by
  rw [List.range_succ, List.map_append]
  unfold nV
  rw [List.map_append]
  exact atI_last _ _
def sp_q11 (K : PySem.W.Frag) (n : Nat) : Sp := fun vs H Q _ => ∃ (x : V) (r : CF.Rule), vs = [x] ∧ DataAt K H x r.data ∧ r.depth < n ∧ r.Good ∧ r.leaves.length ≤ 16 ∧ ∀ H', Same H H' → Q (.int (CH.Rule.count r : Nat)) H'
theorem none_q11 {vs : List V} {H : Hp} {Q : VK} {E : XK} (h : sp_q11 K 0 vs H Q E) : False := by
  obtain ⟨x, r, _, _, h, _⟩ := h
  omega
theorem step_q11 {n : Nat} {fd_q11 : FuncData} (T : Txt K mg a)
    (G_q11 : FnOk P w K mg base CX0 (1 + n) a.law_count fd_q11 ["_law_rule"] (sp_q11 K n)) (F_q11 : Fun K "_law_count" "_law_count" s_q11 a.law_count fd_q11) (b_q11 : Binds K fd_q11 ["_law_rule"] []) : FnOk P w K mg base CX0 (1 + n + 1) a.law_count fd_q11 ["_law_rule"] (sp_q11 K (n + 1)) := by
  have F := F_q11
  refine F.ok sc_q11 (fun vs H Q E h => ?_) (fun cdv A outer s H vs Q E hr h => ?_)
  · obtain ⟨x, r, rfl, _⟩ := h
    rfl
  · obtain ⟨x, r, rfl, hx, hd, hg, hm, q⟩ := h
    refine ⟨_, (pss_cons (ps_if (PW.pt (pw_or (pt_cmpR op_eq (pe_ix ix_tup (pvA 0 (defScope s_q11) N_q11 rfl rfl) pe_int (fun _ _ => rfl)) pe_str (nomark _)) (pw_or1 (pt_cmpR op_eq (pe_ix ix_tup (pvA 0 (defScope s_q11) N_q11 rfl rfl) pe_int (fun _ _ => rfl)) pe_str (nomark _))))) (pss_one (ps_ret pe_int)) pss_nil)
      (pss_cons (psC (i := 1) (sc := defScope s_q11) (M := N_q11) rfl rfl rfl (by decide +kernel) (pe_lst (pa_cons pe_int pa_nil)))
      (pss_cons (ps_for PassesOwn.never rfl (pi_list (pe_ix ix_tup (pvA 0 (defScope s_q11) N_q11 rfl rfl) (pe_un un_neg pe_int) (fun _ _ => rfl))) (pgN (i := 2) (sc := defScope s_q11) (M := N_q11) rfl rfl (by decide +kernel)) (pss_cons (psC (i := 3) (sc := defScope s_q11) (M := N_q11) rfl rfl rfl (by decide +kernel) (pe_callN (sc := defScope s_q11) G_q11 (hr.mono (by omega)) rfl (by decide +kernel) T.m_q11 F_q11.kp b_q11 .nil pass0 (pa_cons (pvA 2 (defScope s_q11) N_q11 rfl rfl) pa_nil)))
      (pss_one (psC (i := 1) (sc := defScope s_q11) (M := N_q11) rfl rfl rfl (by decide +kernel) (pe_op op_cat (pe_op op_cat (pe_lst (pa_cons pe_int pa_nil)) (pe_comp rfl (N := ["_law_k", "_law_sums", "_law_here"]) (own := 1) (js := [1, 3]) (X := (cxOf CX0 P w K mg base N_q11 "_law_count" (defScope s_q11) a.law_count cdv A outer s H E).nox) (compOk (defScope s_q11) N_q11 rfl rfl (by decide +kernel)) (pi_range2 (glR (sc := defScope s_q11) rfl (by decide +kernel)) T.z_range (pa_cons pe_int (pa_cons (pe_callBN (sc := defScope s_q11) call_len rfl (by decide +kernel) T.z_len bt_len (pa_cons (pvA 1 (defScope s_q11) N_q11 rfl rfl) pa_nil)) pa_nil))) (fun fp0 sx0 Hx0 => (pgN (i := 0) (sc := relabelS _ (defScope s_q11)) (M := ["_law_k", "_law_sums", "_law_here"]) rfl rfl (by decide +kernel))) (fun fp0 sx0 Hx0 => pifs_nil) (fun fp0 sx0 Hx0 => (pe_op op_add (pe_ix (kIx (r := rIxL) (K := K) rfl ix_list) (pvN (i := 1) (sc := relabelS _ (defScope s_q11)) (M := ["_law_k", "_law_sums", "_law_here"]) rfl rfl (by decide +kernel)) (pvN (i := 0) (sc := relabelS _ (defScope s_q11)) (M := ["_law_k", "_law_sums", "_law_here"]) rfl rfl (by decide +kernel)) (fun _ _ => rfl)) (pe_op op_mul (pe_ix (kIx (r := rIxL) (K := K) rfl ix_list) (pvN (i := 1) (sc := relabelS _ (defScope s_q11)) (M := ["_law_k", "_law_sums", "_law_here"]) rfl rfl (by decide +kernel)) (pe_op op_sub (pvN (i := 0) (sc := relabelS _ (defScope s_q11)) (M := ["_law_k", "_law_sums", "_law_here"]) rfl rfl (by decide +kernel)) pe_int) (fun _ _ => rfl)) (pvN (i := 2) (sc := relabelS _ (defScope s_q11)) (M := ["_law_k", "_law_sums", "_law_here"]) rfl rfl (by decide +kernel))))))) (pe_lst (pa_cons (pe_op op_mul (pe_ix ix_list (pvA 1 (defScope s_q11) N_q11 rfl rfl) (pe_un un_neg pe_int) (fun _ _ => rfl)) (pvA 3 (defScope s_q11) N_q11 rfl rfl)) pa_nil)))))))
      (pss_cons (ps_if (pt_cmpR op_eq (pe_ix ix_tup (pvA 0 (defScope s_q11) N_q11 rfl rfl) pe_int (fun _ _ => rfl)) pe_str (nomark _)) (pss_one (ps_ret (pe_ix ix_list (pvA 1 (defScope s_q11) N_q11 rfl rfl) (pe_un un_neg pe_int) (fun _ _ => rfl)))) pss_nil)
      (pss_one (ps_ret (pe_ix ix_list (pvA 1 (defScope s_q11) N_q11 rfl rfl) (pe_ix ix_tup (pvA 0 (defScope s_q11) N_q11 rfl rfl) pe_int (fun _ _ => rfl)) (fun _ _ => rfl)))))))), ?_⟩
    have hs : sizeLine = 16777216 := sizeLine_eq
    obtain ⟨t0, ys, ex, et0⟩ := CF.Rule.tup hx
    subst ex
    have hk := CF.Rule.isLeaf_kind r
    cases hl : r.isLeaf with
    | true =>
      rw [hl, Bool.or_eq_true, decide_eq_true_eq, decide_eq_true_eq] at hk
      have e : CH.Rule.count r = 1 := by
        cases r with
        | allr rs => cases hl
        | somr m rs => cases hl
        | leaf l => unfold CH.Rule.count; rfl
      rw [e] at q
      refine ⟨_, rfl, t0, _, _, _, rfl, rfl, SqT.of et0, CF.atI_zero, rfl, _, rfl, ite2 (fun h1 => q _ (Same.refl _)) (fun h1 => ?_)⟩
      refine ⟨_, rfl, t0, _, _, _, rfl, rfl, SqT.of et0, CF.atI_zero, rfl, _, rfl, ite2 (fun h2 => q _ (Same.refl _)) (fun h2 => ?_)⟩
      rcases hk with z | z
      · exact absurd (decide_eq_true (by rw [z])) h1
      · exact absurd (decide_eq_true (by rw [z])) h2
    | false =>
      rw [hl, Bool.or_eq_false_iff, decide_eq_false_iff_not, decide_eq_false_iff_not] at hk
      obtain ⟨m, em, hm16, ec, eL, eD, hgs, h16, hmr⟩ := grp_facts hl hg
      obtain ⟨t, p, xs, ex, et, ep, hA⟩ := CF.Rule.grp hx hl
      cases ex
      have lx := DataAll.length hA
      rw [CF.Rule.datas_map, List.length_map] at lx
      refine ⟨_, rfl, t0, _, _, _, rfl, rfl, SqT.of et0, CF.atI_zero, rfl, _, rfl, ite2 (fun h1 => absurd (V.str.inj (of_decide_eq_true h1)) hk.1) (fun h1 => ?_)⟩
      refine ⟨_, rfl, t0, _, _, _, rfl, rfl, SqT.of et0, CF.atI_zero, rfl, _, rfl, ite2 (fun h2 => absurd (V.str.inj (of_decide_eq_true h2)) hk.2) (fun h2 => ?_)⟩
      refine ⟨by first | decide | (simp only [List.length_cons, List.length_nil, List.length_append, List.length_map]; decide), fun p0 hp0 => ?_⟩
      have s0 := Same.upd0 (o := .lst [.int 1]) hp0
      have e0 : upd H p0 (.lst [.int 1]) p0 = some (.lst [.int 1]) := upd_same
      generalize upd H p0 (.lst [.int 1]) = H0 at s0 e0 ⊢
      obtain ⟨cs, hcs⟩ : ∃ cs, cs = r.rules.map CH.Rule.count := ⟨_, rfl⟩
      have lcs : cs.length = r.rules.length := by rw [hcs, List.length_map]
      refine ⟨_, rfl, _, rfl, t0, _, _, _, rfl, rfl, SqT.of (s0 _ _ et), atI_last r.head _, p, rfl, ⟨_, .inl (Rd.same s0 ep)⟩, ?_⟩
      refine for_list (xs := xs) (fun i σ H' => (∃ pl v1 v2, σ = [some (.ref t0), some (.ref pl), v1, v2] ∧ H' pl = some (.lst (nV ((List.range (i + 1)).map (CH.esym (cs.take i)))))) ∧ Same H H') ⟨⟨p0, _, _, rfl, e0⟩, s0⟩ ?_ ?_ ?_
      · rintro i σ H' _ ⟨_, s⟩
        exact .inl (Rd.same s ep)
      · rintro i y σ H1 hy ⟨⟨pl, v1, v2, rfl, e1⟩, s1⟩
        obtain ⟨d, ed, hyd⟩ := DataAll.back hA hy
        rw [CF.Rule.datas_map, List.getElem?_map] at ed
        obtain ⟨r1, er1, rfl⟩ := Option.map_eq_some_iff.mp ed
        have hi : i < xs.length := (List.getElem?_eq_some_iff.mp hy).1
        have hmem := List.mem_of_getElem? er1
        have hd1 := CF.Rule.depths_mem hmem
        have hl1 := CH.leaves_mem hmem
        rw [← eL] at hl1
        have hg1 := CF.Rule.goods_iff.mp hgs r1 hmem
        have hcn : cs[i]? = some (CH.Rule.count r1) := by rw [hcs, List.getElem?_map, er1]; rfl
        have hbn := count_small hg1 (show r1.leaves.length ≤ 16 by omega)
        refine ⟨_, rfl, y, r1, rfl, DataAt.up hyd s1, by omega, hg1, by omega, fun H2 s2 => ?_⟩
        generalize CH.Rule.count r1 = n at hcn hbn ⊢
        have e2 := s2 _ _ e1
        refine ⟨by first | decide | (simp only [List.length_cons, List.length_nil, List.length_append, List.length_map]; decide), fun p1 hp1 => ?_⟩
        have t1 := Same.upd0 (o := .lst [.int 1]) hp1
        have f1 : upd H2 p1 (.lst [.int 1]) p1 = some (.lst [.int 1]) := upd_same
        generalize upd H2 p1 (.lst [.int 1]) = H3 at t1 f1 ⊢
        have e3 := t1 _ _ e2
        refine ⟨_, rfl, .ref pl, i + 1, rfl, .inl ⟨_, SqL.of e3, by rw [nV_len, List.length_map, List.length_range]⟩, _, _, rfl, ⟨by decide, by decide, by omega, by omega⟩, fun c hc => ?_⟩
        refine comp_grow hc (yields_range (P := fun _ => True)) (fun σ => ∃ v, σ = [v, some (.ref pl), some (.int (n : Nat))]) (fun x => match x with | .int z => some (.int (CH.stepE (CH.esym (cs.take i)) n z.toNat : Nat)) | _ => none) ⟨_, rfl⟩ (fun _ _ => trivial) (by rw [List.length_map, List.length_range]; omega) ?_ ?_
        · rintro x ys σ H7 R1 R0 hx ⟨v, rfl⟩ s7 k1 k0
          obtain ⟨j, hj, rfl⟩ := List.mem_map.mp hx
          have hj' : j < i := by have := List.mem_range.mp hj; omega
          have e7 := s7 _ _ e3
          rw [show (1 : Int) + (j : Nat) = ((j + 1 : Nat) : Int) by omega] at k1 k0 ⊢
          refine ⟨_, rfl, _, rfl, pl, _, _, _, rfl, rfl, SqL.of e7, vec_at _ (show j + 1 ≤ i by omega), _, rfl, _, rfl, _, _, rfl, rfl, pl, _, _, _, rfl, rfl, SqL.of e7, (by rw [show ((j + 1 : Nat) : Int) - 1 = (j : Nat) by omega]; exact vec_at _ (show j ≤ i by omega)), _, rfl, _, _, rfl, rfl, .inr ⟨?_, ?_⟩, _, _, rfl, rfl, k1 _ _ _ ⟨_, rfl⟩ ?_ (Same.refl _)⟩
          · show (-(2 ^ 64) : Int) < (n : Nat)
            omega
          · show ((n : Nat) : Int) < 2 ^ 64
            omega
          · show some (V.int (CH.esym (cs.take i) (j + 1) + n * CH.esym (cs.take i) j : Nat)) = some (V.int ((CH.esym (cs.take i) (j + 1) : Nat) + (CH.esym (cs.take i) j : Nat) * (n : Nat)))
            rw [Int.natCast_add, Int.natCast_mul, Int.mul_comm]
        intro H7 s7 e7
        have e7' : ((List.range (((i + 1 : Nat) : Int) - 1).toNat).map fun j : Nat => V.int (1 + (j : Nat))).filterMap (fun x => match x with | .int z => some (.int (CH.stepE (CH.esym (cs.take i)) n z.toNat : Nat)) | _ => none) = nV ((List.range i).map fun j => CH.stepE (CH.esym (cs.take i)) n (j + 1)) := by
          rw [show (((i + 1 : Nat) : Int) - 1).toNat = i by omega]
          unfold nV
          rw [List.map_map, List.filterMap_map]
          refine CG.filterMap_some fun j _ => ?_
          show some (V.int (CH.stepE (CH.esym (cs.take i)) n ((1 : Int) + (j : Nat)).toNat : Nat)) = _
          rw [show ((1 : Int) + (j : Nat)).toNat = j + 1 by omega]
          rfl
        rw [e7'] at e7
        refine ⟨p1, c, _, _, rfl, rfl, s7 _ _ f1, e7, by rw [nV_len, List.length_map, List.length_range]; show 1 + i ≤ sizeLine; omega, fun p4 hp4 => ?_⟩
        have e8 := Same.upd0 (o := .lst ([.int 1] ++ nV ((List.range i).map fun j => CH.stepE (CH.esym (cs.take i)) n (j + 1)))) hp4 _ _ (s7 _ _ e3)
        refine ⟨_, rfl, _, rfl, pl, _, _, _, rfl, rfl, SqL.of e8, vec_last _ _, _, rfl, _, _, rfl, rfl, .inr ⟨?_, ?_⟩, by first | decide | (simp only [List.length_cons, List.length_nil, List.length_append, List.length_map]; decide), fun p5 hp5 => ⟨p4, p5, _, _, rfl, rfl, Same.upd0 hp5 _ _ upd_same, upd_same, ?_, fun p6 hp6 => ?_⟩⟩
        · show (-(2 ^ 64) : Int) < (n : Nat)
          omega
        · show ((n : Nat) : Int) < 2 ^ 64
          omega
        · rw [List.length_append, nV_len, List.length_map, List.length_range]
          show 1 + i + 1 ≤ sizeLine
          omega
        refine ⟨⟨p6, _, _, rfl, ?_⟩, s1.trans (s2.trans (t1.trans (s7.trans ((Same.upd0 hp4).trans ((Same.upd0 hp5).trans (Same.upd0 hp6))))))⟩
        rw [upd_same, CG.take_succ hcn]
        refine congrArg (fun z => some (HO.lst z)) ((vec_more _ _ _ (CH.esym_big _ _ ?_)).trans ?_)
        · rw [List.length_take]
          omega
        congr 2
        funext k
        cases k with
        | zero => exact (CH.esym_zero _).symm
        | succ k => exact (CH.esym_snoc _ _ _).symm
      rintro σ H1 ⟨⟨pl, v1, v2, rfl, e1⟩, s1⟩
      rw [lx, ← lcs, List.take_length] at e1
      rw [← hcs] at ec
      refine ⟨_, rfl, t0, _, _, _, rfl, rfl, SqT.of (s1 _ _ et0), CF.atI_zero, rfl, _, rfl, ?_⟩
      cases r with
      | leaf l => cases hl
      | allr rs =>
        refine ite2 (fun h3 => ?_) (fun h3 => absurd (decide_eq_true rfl) h3)
        have q' := q _ s1
        rw [ec, show m = cs.length by have : ((rs.length : Nat) : Int) = m := em; rw [lcs]; show m = rs.length; omega] at q'
        exact ⟨_, rfl, _, rfl, pl, _, _, _, rfl, rfl, SqL.of e1, vec_last _ _, q'⟩
      | somr k rs =>
        refine ite2 (fun h3 => absurd (V.str.inj (of_decide_eq_true h3)) CF.kinds_ne.2.2.2.2.2) (fun h3 => ?_)
        have q' := q _ s1
        rw [ec] at q'
        exact ⟨_, rfl, _, rfl, t0, _, _, _, rfl, rfl, SqT.of (s1 _ _ et), rfl, pl, _, _, _, rfl, rfl, SqL.of e1, (by rw [show k = ((m : Nat) : Int) from em]; exact vec_at _ (by omega)), q'⟩
theorem ok_q11 {fd_q11 : FuncData} (T : Txt K mg a)
    (F_q11 : Fun K "_law_count" "_law_count" s_q11 a.law_count fd_q11) (b_q11 : Binds K fd_q11 ["_law_rule"] []) : FnOk P w K mg base CX0 9 a.law_count fd_q11 ["_law_rule"] (sp_q11 K 8) := by
  have h : ∀ n, FnOk P w K mg base CX0 (1 + n) a.law_count fd_q11 ["_law_rule"] (sp_q11 K n) := fun n => by
    induction n with
    | zero => exact ⟨fun vs H Q E h => (none_q11 h).elim, fun A outer s H args us vs Q E _ _ _ _ h => (none_q11 h).elim⟩
    | succ n ih => exact step_q11 T  ih F_q11 b_q11
  exact h 8
def mixZ (c k : Int) : Int := (c % 2147483647 + 31 * k + 1) * 48271 * (c % 2147483647 + 3 * k + 7) % 2147483629
def sp_q15 (_ : PySem.W.Frag) : Sp := fun vs H Q _ => ∃ c k : Int, vs = [.int c, .int k] ∧ 0 ≤ k ∧ k ≤ 1000 ∧ Q (.int (mixZ c k)) H
theorem ok_q15 {f : Addr} {fd : FuncData} (F : Fun K "_law_mixed" "_law_mixed" s_q15 f fd) (T : Txt K mg a) : FnOk P w K mg base CX0 1 f fd ["_law_cell", "_law_k"] (sp_q15 K) := by
  refine F.ok sc_q15 (fun vs H Q E h => ?_) (fun cdv A outer s H vs Q E hr h => ?_)
  · obtain ⟨c, k, rfl, _⟩ := h
    rfl
  · obtain ⟨c, k, rfl, h0, h1, q⟩ := h
    refine ⟨_, (pss_cons (psN (i := 2) (sc := defScope s_q15) (M := N_q15) rfl rfl (by decide +kernel) (pe_op op_mod (pvA 0 (defScope s_q15) N_q15 rfl rfl) pe_int))
      (pss_one (ps_ret (pe_op op_mod (pe_op op_mul (pe_op op_mul (pe_op op_add (pe_op op_add (pvA 2 (defScope s_q15) N_q15 rfl rfl) (pe_op op_mul pe_int (pvA 1 (defScope s_q15) N_q15 rfl rfl))) pe_int) pe_int) (pe_op op_add (pe_op op_add (pvA 2 (defScope s_q15) N_q15 rfl rfl) (pe_op op_mul pe_int (pvA 1 (defScope s_q15) N_q15 rfl rfl))) pe_int)) pe_int)))), ?_⟩
    have a0 : 0 ≤ c % 2147483647 := Int.emod_nonneg _ (by decide)
    have a1 : c % 2147483647 < 2147483647 := Int.emod_lt_of_pos _ (by decide)
    refine ⟨_, rfl, _, _, rfl, rfl, (by show (0 : Int) < 2147483647; decide), ?_⟩
    refine ⟨_, rfl, _, rfl, _, _, rfl, rfl, .inl ⟨by decide, by decide⟩, _, _, rfl, rfl, _, _, rfl, rfl, _, _, rfl, rfl, .inr ⟨by decide, by decide⟩, ?_⟩
    refine ⟨_, rfl, _, rfl, _, _, rfl, rfl, .inl ⟨by decide, by decide⟩, _, _, rfl, rfl, _, _, rfl, rfl, _, _, rfl, rfl, .inr ⟨?_, ?_⟩, ?_⟩
    · show (-(2 ^ 64) : Int) < c % 2147483647 + 3 * k + 7
      omega
    · show c % 2147483647 + 3 * k + 7 < (2 ^ 64 : Int)
      omega
    exact ⟨_, _, rfl, rfl, (by show (0 : Int) < 2147483629; decide), q⟩
def xqz : List Nat := [120, 113, 122]
def a2g : List Nat := [97, 98, 99, 100, 101, 102, 103]
theorem xqz_cps : ("xqz" : Str).cps.toList = xqz := by decide +kernel
theorem a2g_cps : ("abcdefg" : Str).cps.toList = a2g := by decide +kernel
theorem xqz_len : ("xqz" : Str).length = 3 := by decide +kernel
theorem a2g_len : ("abcdefg" : Str).length = 7 := by decide +kernel
def word41 (c : Int) : Str := ⟨#[xqz.getD (c / 7 % 3).toNat 0]⟩ ++ ⟨#[a2g.getD (c / 21 % 7).toNat 0]⟩
theorem sign_at {l : List Nat} {i : Int} (h0 : 0 ≤ i) (h1 : i < l.length) : atI l i = some (l.getD i.toNat 0) := by
  have hk : i.toNat < l.length := by omega
  have q := atI_nat (xs := l) (j := i.toNat) (v := l.getD i.toNat 0) (by rw [List.getD_eq_getElem?_getD, List.getElem?_eq_getElem hk]; rfl)
  rw [Int.toNat_of_nonneg h0] at q
  exact q
theorem word41_all : ∀ i : Fin 3, ∀ j : Fin 7, CW.isWord (⟨#[xqz.getD i.1 0]⟩ ++ ⟨#[a2g.getD j.1 0]⟩) = true ∧ CW.isWord ((⟨#[xqz.getD i.1 0]⟩ ++ ⟨#[a2g.getD j.1 0]⟩) ++ "x") = true := by decide +kernel
theorem word41_ok (c : Int) : CW.isWord (word41 c) = true ∧ CW.isWord (word41 c ++ "x") = true := word41_all ⟨(c / 7 % 3).toNat, by omega⟩ ⟨(c / 21 % 7).toNat, by omega⟩
theorem x_len : ("x" : Str).length = 1 := by decide +kernel
theorem word41_len (c : Int) : (word41 c).length = 2 := by unfold word41; rw [Str.length_append]; rfl
theorem words41 (c : Int) (n : Nat) : CF.WordsOk ([word41 c, word41 c ++ "x"].take n) := by
  refine ⟨fun t ht => ?_, ?_, ?_⟩
  · have := List.mem_of_mem_take ht
    simp only [List.mem_cons, List.not_mem_nil, or_false] at this
    rcases this with rfl | rfl
    · exact (word41_ok c).1
    · exact (word41_ok c).2
  · refine (List.take_sublist _ _).nodup (List.nodup_cons.mpr ⟨fun z => ?_, List.nodup_cons.mpr ⟨(fun z => nomatch z), List.nodup_nil⟩⟩)
    have e := congrArg Str.length (List.mem_singleton.mp z)
    rw [Str.length_append, word41_len, x_len] at e
    omega
  · rw [List.length_take]
    show min n 2 ≤ 8
    omega
def leafZ (c : Int) : CF.Leaf :=
  if mixZ c 2 / 5 % 3 = 0 then .off (mixZ c 1 % 5) ([word41 c, word41 c ++ "x"].take (1 + c / 147 % 2).toNat) (c % 10 ^ 60) (1 + c / 7 % 9)
  else .frm (mixZ c 1 % 5) ([word41 c, word41 c ++ "x"].take (c / 147 % 3).toNat) (c / 7 % 10 ^ 60) (c % 10 ^ 60) (1 + c / 7 % 9)
theorem leafZ_good (c : Int) : (leafZ c).Good := by
  unfold leafZ
  have a0 : 0 ≤ mixZ c 1 % 5 := Int.emod_nonneg _ (by decide)
  have a1 : mixZ c 1 % 5 < 5 := Int.emod_lt_of_pos _ (by decide)
  have b0 : 0 ≤ c % 10 ^ 60 := Int.emod_nonneg _ (by decide)
  have b1 : c % 10 ^ 60 < 10 ^ 60 := Int.emod_lt_of_pos _ (by decide)
  have d0 : 0 ≤ c / 7 % 10 ^ 60 := Int.emod_nonneg _ (by decide)
  have d1 : c / 7 % 10 ^ 60 < 10 ^ 60 := Int.emod_lt_of_pos _ (by decide)
  have e0 : 1 ≤ 1 + c / 7 % 9 := by omega
  have e1 : 1 + c / 7 % 9 ≤ 9 := by omega
  split
  · refine ⟨words41 _ _, fun z => ?_, ⟨a0, by omega⟩, ⟨b0, b1⟩, e0, e1⟩
    have := congrArg List.length z
    rw [List.length_take] at this
    have h : min (1 + c / 147 % 2).toNat 2 = 0 := this
    omega
  · exact ⟨words41 _ _, ⟨a0, by omega⟩, ⟨d0, d1⟩, ⟨b0, b1⟩, e0, e1⟩
def sp_q14 (K : PySem.W.Frag) : Sp := fun vs H Q _ => ∃ (c : Int) (D : Hp), vs = [.int c] ∧ Same D H ∧ ∀ D' H' r, Gr D H D' H' → DataAt K D' r (leafZ c).data → Q r H'
theorem ok_q14 {f : Addr} {fd fd_q15 : FuncData} (F : Fun K "_law_leaf" "_law_leaf" s_q14 f fd) (T : Txt K mg a)
    (G_q15 : FnOk P w K mg base CX0 1 a.law_mixed fd_q15 ["_law_cell", "_law_k"] (sp_q15 K)) (F_q15 : Fun K "_law_mixed" "_law_mixed" s_q15 a.law_mixed fd_q15) (b_q15 : Binds K fd_q15 ["_law_cell", "_law_k"] []) : FnOk P w K mg base CX0 2 f fd ["_law_cell"] (sp_q14 K) := by
  refine F.ok sc_q14 (fun vs H Q E h => ?_) (fun cdv A outer s H vs Q E hr h => ?_)
  · obtain ⟨c, D, rfl, _⟩ := h
    rfl
  · obtain ⟨c, D, rfl, sD, q⟩ := h
    refine ⟨_, (pss_cons (psN (i := 1) (sc := defScope s_q14) (M := N_q14) rfl rfl (by decide +kernel) (pe_op op_mod (pe_callN (sc := defScope s_q14) G_q15 (hr.mono (by decide)) rfl (by decide +kernel) T.m_q15 F_q15.kp b_q15 .nil pass0 (pa_cons (pvA 0 (defScope s_q14) N_q14 rfl rfl) (pa_cons pe_int pa_nil))) pe_int))
      (pss_cons (psN (i := 2) (sc := defScope s_q14) (M := N_q14) rfl rfl (by decide +kernel) (pe_op op_add_str (pe_ix ix_str pe_str (pe_op op_mod (pe_op op_fdiv (pvA 0 (defScope s_q14) N_q14 rfl rfl) pe_int) pe_int) (fun _ _ => rfl)) (pe_ix ix_str pe_str (pe_op op_mod (pe_op op_fdiv (pvA 0 (defScope s_q14) N_q14 rfl rfl) pe_int) pe_int) (fun _ _ => rfl))))
      (pss_cons (ps_if (pt_cmpR op_eq (pe_op op_mod (pe_op op_fdiv (pe_callN (sc := defScope s_q14) G_q15 (hr.mono (by decide)) rfl (by decide +kernel) T.m_q15 F_q15.kp b_q15 .nil pass0 (pa_cons (pvA 0 (defScope s_q14) N_q14 rfl rfl) (pa_cons pe_int pa_nil))) pe_int) pe_int) pe_int (nomark _)) (pss_one (ps_ret (pe_tup (pa_cons pe_str (pa_cons (pvA 1 (defScope s_q14) N_q14 rfl rfl) (pa_cons (pe_slice sl_list (pe_lst (pa_cons (pvA 2 (defScope s_q14) N_q14 rfl rfl) (pa_cons (pe_op op_add_str (pvA 2 (defScope s_q14) N_q14 rfl rfl) pe_str) pa_nil))) po_none (po_some (pe_op op_add pe_int (pe_op op_mod (pe_op op_fdiv (pvA 0 (defScope s_q14) N_q14 rfl rfl) pe_int) pe_int)))) (pa_cons (pe_op op_mod (pvA 0 (defScope s_q14) N_q14 rfl rfl) (pe_op op_pow pe_int pe_int)) (pa_cons (pe_op op_add pe_int (pe_op op_mod (pe_op op_fdiv (pvA 0 (defScope s_q14) N_q14 rfl rfl) pe_int) pe_int)) pa_nil)))))))) pss_nil)
      (pss_cons (psN (i := 3) (sc := defScope s_q14) (M := N_q14) rfl rfl (by decide +kernel) (pe_slice sl_list (pe_lst (pa_cons (pvA 2 (defScope s_q14) N_q14 rfl rfl) (pa_cons (pe_op op_add_str (pvA 2 (defScope s_q14) N_q14 rfl rfl) pe_str) pa_nil))) po_none (po_some (pe_op op_mod (pe_op op_fdiv (pvA 0 (defScope s_q14) N_q14 rfl rfl) pe_int) pe_int))))
      (pss_one (ps_ret (pe_tup (pa_cons pe_str (pa_cons (pvA 1 (defScope s_q14) N_q14 rfl rfl) (pa_cons (pvA 3 (defScope s_q14) N_q14 rfl rfl) (pa_cons (pe_op op_mod (pe_op op_fdiv (pvA 0 (defScope s_q14) N_q14 rfl rfl) pe_int) (pe_op op_pow pe_int pe_int)) (pa_cons (pe_op op_mod (pvA 0 (defScope s_q14) N_q14 rfl rfl) (pe_op op_pow pe_int pe_int)) (pa_cons (pe_op op_add pe_int (pe_op op_mod (pe_op op_fdiv (pvA 0 (defScope s_q14) N_q14 rfl rfl) pe_int) pe_int)) pa_nil))))))))))))), ?_⟩
    have hs : sizeLine = 16777216 := sizeLine_eq
    refine ⟨_, rfl, c, 1, rfl, by decide, by decide, _, _, rfl, rfl, (by show (0 : Int) < 5; decide), ?_⟩
    have i0 : 0 ≤ c / 7 % 3 := Int.emod_nonneg _ (by decide)
    have i1 : c / 7 % 3 < 3 := Int.emod_lt_of_pos _ (by decide)
    have j0 : 0 ≤ c / 21 % 7 := Int.emod_nonneg _ (by decide)
    have j1 : c / 21 % 7 < 7 := Int.emod_lt_of_pos _ (by decide)
    refine ⟨_, rfl, _, _, rfl, rfl, ⟨by decide, by decide⟩, _, _, rfl, rfl, (by show (0 : Int) < 3; decide), _, _, _, rfl, rfl, by rw [xqz_len]; omega, by rw [xqz_cps]; exact sign_at i0 i1, _, rfl, _, _, rfl, rfl, ⟨by decide, by decide⟩, _, _, rfl, rfl, (by show (0 : Int) < 7; decide), _, _, _, rfl, rfl, by rw [a2g_len]; omega, by rw [a2g_cps]; exact sign_at j0 j1, _, _, rfl, rfl, by show 1 + 1 ≤ sizeLine; omega, ?_⟩
    rw [show (⟨#[xqz.getD (c / 7 % 3).toNat 0]⟩ : Str) ++ ⟨#[a2g.getD (c / 21 % 7).toNat 0]⟩ = word41 c from rfl]
    have hw := word41_len c
    refine ⟨_, rfl, c, 2, rfl, by decide, by decide, _, _, rfl, rfl, ⟨by decide, by decide⟩, _, _, rfl, rfl, (by show (0 : Int) < 3; decide), rfl, _, rfl, ite2 (fun h1 => ?_) (fun h1 => ?_)⟩
    · have e : leafZ c = .off (mixZ c 1 % 5) ([word41 c, word41 c ++ "x"].take (1 + c / 147 % 2).toNat) (c % 10 ^ 60) (1 + c / 7 % 9) := by unfold leafZ; rw [if_pos (V.int.inj (of_decide_eq_true h1))]
      refine ⟨_, rfl, _, rfl, _, rfl, _, _, rfl, rfl, by rw [hw, x_len]; omega, by first | decide | (simp only [List.length_cons, List.length_nil, List.length_append, List.length_map]; decide), fun p1 hp1 => ?_⟩
      have s1 := Same.upd0 (o := .lst [.str (word41 c), .str (word41 c ++ "x")]) hp1
      refine ⟨_, rfl, _, _, rfl, rfl, ⟨by decide, by decide⟩, _, _, rfl, rfl, (by show (0 : Int) < 2; decide), _, _, rfl, rfl, _, rfl, p1, _, rfl, SqL.of upd_same, fun p2 hp2 => ?_⟩
      rw [show cutV [.str (word41 c), .str (word41 c ++ "x")] none (some (1 + c / 147 % 2)) = ([word41 c, word41 c ++ "x"].take (1 + c / 147 % 2).toNat).map V.str by
        have := cut_to (xs := [.str (word41 c), .str (word41 c ++ "x")]) (1 + c / 147 % 2).toNat
        rw [Int.toNat_of_nonneg (by omega)] at this
        rw [this, List.map_take]
        rfl]
      have G2 := (Gr.heap sD s1).trans (Gr.lay (o := .lst (([word41 c, word41 c ++ "x"].take (1 + c / 147 % 2).toNat).map V.str)) (sD.trans s1) hp2)
      have d2 : upd D p2 (.lst (([word41 c, word41 c ++ "x"].take (1 + c / 147 % 2).toNat).map V.str)) p2 = some (.lst (([word41 c, word41 c ++ "x"].take (1 + c / 147 % 2).toNat).map V.str)) := upd_same
      generalize upd D p2 (.lst (([word41 c, word41 c ++ "x"].take (1 + c / 147 % 2).toNat).map V.str)) = D2 at G2 d2 ⊢
      generalize upd (upd H p1 (.lst [.str (word41 c), .str (word41 c ++ "x")])) p2 (.lst (([word41 c, word41 c ++ "x"].take (1 + c / 147 % 2).toNat).map V.str)) = H2 at G2 ⊢
      refine ⟨_, rfl, _, _, rfl, rfl, ⟨by decide, by decide, by decide⟩, _, _, rfl, rfl, (by show (0 : Int) < 10 ^ 60; decide), _, rfl, _, _, rfl, rfl, ⟨by decide, by decide⟩, _, _, rfl, rfl, (by show (0 : Int) < 9; decide), _, _, rfl, rfl, by first | decide | (simp only [List.length_cons, List.length_nil, List.length_append, List.length_map]; decide), fun t ht => ?_⟩
      refine q _ _ _ (G2.trans (Gr.lay G2.dh ht)) ?_
      rw [e]
      exact CF.Leaf.at_ upd_same (.inl ((Same.upd0 (free_of G2.dh ht)) _ _ d2))
    · have e : leafZ c = .frm (mixZ c 1 % 5) ([word41 c, word41 c ++ "x"].take (c / 147 % 3).toNat) (c / 7 % 10 ^ 60) (c % 10 ^ 60) (1 + c / 7 % 9) := by unfold leafZ; rw [if_neg (fun z => h1 (decide_eq_true (congrArg V.int z)))]
      refine ⟨_, rfl, _, rfl, _, _, rfl, rfl, by rw [hw, x_len]; omega, by first | decide | (simp only [List.length_cons, List.length_nil, List.length_append, List.length_map]; decide), fun p1 hp1 => ?_⟩
      have s1 := Same.upd0 (o := .lst [.str (word41 c), .str (word41 c ++ "x")]) hp1
      refine ⟨_, rfl, _, _, rfl, rfl, ⟨by decide, by decide⟩, _, _, rfl, rfl, (by show (0 : Int) < 3; decide), _, rfl, p1, _, rfl, SqL.of upd_same, fun p2 hp2 => ?_⟩
      rw [show cutV [.str (word41 c), .str (word41 c ++ "x")] none (some (c / 147 % 3)) = ([word41 c, word41 c ++ "x"].take (c / 147 % 3).toNat).map V.str by
        have := cut_to (xs := [.str (word41 c), .str (word41 c ++ "x")]) (c / 147 % 3).toNat
        rw [Int.toNat_of_nonneg (by omega)] at this
        rw [this, List.map_take]
        rfl]
      have G2 := (Gr.heap sD s1).trans (Gr.lay (o := .lst (([word41 c, word41 c ++ "x"].take (c / 147 % 3).toNat).map V.str)) (sD.trans s1) hp2)
      have d2 : upd D p2 (.lst (([word41 c, word41 c ++ "x"].take (c / 147 % 3).toNat).map V.str)) p2 = some (.lst (([word41 c, word41 c ++ "x"].take (c / 147 % 3).toNat).map V.str)) := upd_same
      generalize upd D p2 (.lst (([word41 c, word41 c ++ "x"].take (c / 147 % 3).toNat).map V.str)) = D2 at G2 d2 ⊢
      generalize upd (upd H p1 (.lst [.str (word41 c), .str (word41 c ++ "x")])) p2 (.lst (([word41 c, word41 c ++ "x"].take (c / 147 % 3).toNat).map V.str)) = H2 at G2 ⊢
      refine ⟨_, rfl, _, rfl, _, rfl, _, _, rfl, rfl, ⟨by decide, by decide⟩, _, _, rfl, rfl, ⟨by decide, by decide, by decide⟩, _, _, rfl, rfl, (by show (0 : Int) < 10 ^ 60; decide), _, rfl, _, _, rfl, rfl, ⟨by decide, by decide, by decide⟩, _, _, rfl, rfl, (by show (0 : Int) < 10 ^ 60; decide), _, rfl, _, _, rfl, rfl, ⟨by decide, by decide⟩, _, _, rfl, rfl, (by show (0 : Int) < 9; decide), _, _, rfl, rfl, by first | decide | (simp only [List.length_cons, List.length_nil, List.length_append, List.length_map]; decide), fun t ht => ?_⟩
      refine q _ _ _ (G2.trans (Gr.lay G2.dh ht)) ?_
      rw [e]
      exact CF.Leaf.at_ upd_same (.inl ((Same.upd0 (free_of G2.dh ht)) _ _ d2))
def groupZ (c : Int) (rs : List CF.Rule) : CF.Rule := if c / 7 % 2 = 0 then .allr rs else .somr (1 + c / 14 % rs.length) rs
def sp_q12 (K : PySem.W.Frag) : Sp := fun vs H Q _ => ∃ (c : Int) (p : Addr) (rs : List CF.Rule) (D : Hp), vs = [.int c, .ref p] ∧ Same D H ∧ DataAt K D (.ref p) (.list (CF.Rule.datas rs)) ∧ rs ≠ [] ∧ ∀ D' H' r, Gr D H D' H' → DataAt K D' r (groupZ c rs).data → Q r H'
theorem ok_q12 {f : Addr} {fd : FuncData} (F : Fun K "_law_group" "_law_group" s_q12 f fd) (T : Txt K mg a) : FnOk P w K mg base CX0 1 f fd ["_law_cell", "_law_rules"] (sp_q12 K) := by
  refine F.ok sc_q12 (fun vs H Q E h => ?_) (fun cdv A outer s H vs Q E hr h => ?_)
  · obtain ⟨c, p, rs, D, rfl, _⟩ := h
    rfl
  · obtain ⟨c, p, rs, D, rfl, sD, hp, hne, q⟩ := h
    refine ⟨_, (pss_cons (ps_if (pt_cmpR op_eq (pe_op op_mod (pe_op op_fdiv (pvA 0 (defScope s_q12) N_q12 rfl rfl) pe_int) pe_int) pe_int (nomark _)) (pss_one (ps_ret (pe_tup (pa_cons pe_str (pa_cons (pvA 1 (defScope s_q12) N_q12 rfl rfl) pa_nil))))) pss_nil)
      (pss_one (ps_ret (pe_tup (pa_cons pe_str (pa_cons (pe_op op_add pe_int (pe_op op_mod (pe_op op_fdiv (pvA 0 (defScope s_q12) N_q12 rfl rfl) pe_int) (pe_callBN (sc := defScope s_q12) call_len rfl (by decide +kernel) T.z_len bt_len (pa_cons (pvA 1 (defScope s_q12) N_q12 rfl rfl) pa_nil)))) (pa_cons (pvA 1 (defScope s_q12) N_q12 rfl rfl) pa_nil))))))), ?_⟩
    obtain ⟨p', xs, e', hpr, hA⟩ := DataAt.lst hp
    cases e'
    have lx := DataAll.length hA
    rw [CF.Rule.datas_map, List.length_map] at lx
    have hpos : 0 < rs.length := List.length_pos_iff.mpr hne
    refine ⟨_, rfl, _, _, rfl, rfl, ⟨by decide, by decide⟩, _, _, rfl, rfl, (by show (0 : Int) < 2; decide), rfl, _, rfl, ite2 (fun h1 => ?_) (fun h1 => ?_)⟩
    · have e : groupZ c rs = .allr rs := by unfold groupZ; rw [if_pos (V.int.inj (of_decide_eq_true h1))]
      refine ⟨_, rfl, by first | decide | (simp only [List.length_cons, List.length_nil, List.length_append, List.length_map]; decide), fun t ht => q _ _ _ (Gr.lay sD ht) ?_⟩
      rw [e]
      have s := Same.upd0 (o := .tup [.str "all", .ref p]) (free_of sD ht)
      exact CF.Rule.grpAt rfl upd_same (Rd.same s hpr) (DataAll.up hA s)
    · have e : groupZ c rs = .somr (1 + c / 14 % rs.length) rs := by unfold groupZ; rw [if_neg (fun z => h1 (decide_eq_true (congrArg V.int z)))]
      refine ⟨_, rfl, _, _, rfl, rfl, ⟨by decide, by decide⟩, _, rfl, .ref p, rs.length, rfl, .inl ⟨xs, .inl (Rd.same sD hpr), lx.symm⟩, _, _, rfl, rfl, (by show (0 : Int) < (rs.length : Nat); omega), _, _, rfl, rfl, _, rfl, by first | decide | (simp only [List.length_cons, List.length_nil, List.length_append, List.length_map]; decide), fun t ht => q _ _ _ (Gr.lay sD ht) ?_⟩
      rw [e]
      have s := Same.upd0 (o := .tup [.str "some", .int (1 + c / 14 % rs.length), .ref p]) (free_of sD ht)
      exact CF.Rule.grpAt rfl upd_same (Rd.same s hpr) (DataAll.up hA s)
theorem groupZ_ok (c : Int) {rs : List CF.Rule} (h0 : rs ≠ []) (h1 : rs.length ≤ 16) (h2 : CF.Rule.Goods rs) : (groupZ c rs).Good ∧ (groupZ c rs).depth = CF.Rule.depths rs + 1 ∧ (groupZ c rs).leaves = CF.Rule.leavess rs := by
  have hpos : 0 < rs.length := List.length_pos_iff.mpr h0
  unfold groupZ
  split
  · refine ⟨by unfold CF.Rule.Good; exact ⟨h0, h1, h2⟩, by unfold CF.Rule.depth; rfl, by unfold CF.Rule.leaves; rfl⟩
  · have m0 : 0 ≤ c / 14 % (rs.length : Int) := Int.emod_nonneg _ (by omega)
    have m1 : c / 14 % (rs.length : Int) < rs.length := Int.emod_lt_of_pos _ (by omega)
    refine ⟨by unfold CF.Rule.Good; exact ⟨⟨by omega, by omega⟩, h1, h2⟩, by unfold CF.Rule.depth; rfl, by unfold CF.Rule.leaves; rfl⟩
def manyT (c : Int) : Nat := (1 + mixZ c 3 / 7 % 4).toNat
def maxD : List (CF.Rule × Nat) → Nat
  | [] => 0
  | x :: l => max x.2 (maxD l)
theorem maxD_ge : ∀ {l : List (CF.Rule × Nat)} {x}, x ∈ l → x.2 ≤ maxD l
  | y :: l, x, h => by
    unfold maxD
    rcases List.mem_cons.mp h with rfl | h
    · omega
    · have := maxD_ge h; omega
theorem maxD_in : ∀ {l : List (CF.Rule × Nat)}, l ≠ [] → ∃ x ∈ l, x.2 = maxD l
  | [y], _ => ⟨y, List.mem_cons_self .., by unfold maxD maxD; omega⟩
  | y :: z :: l, _ => by
    obtain ⟨x, hx, e⟩ := maxD_in (l := z :: l) (fun z => nomatch z)
    unfold maxD
    by_cases h : maxD (z :: l) ≤ y.2
    · exact ⟨y, List.mem_cons_self .., by omega⟩
    · exact ⟨x, List.mem_cons_of_mem _ hx, by omega⟩
abbrev StT := List (CF.Rule × Nat) × Nat
def backT (s : StT) (c : Int) : Nat := s.1.length - manyT c
def goesT (s : StT) (c : Int) : Prop := 4 ≤ c % 7 ∧ manyT c ≤ s.1.length
instance (s : StT) (c : Int) : Decidable (goesT s c) := by unfold goesT; exact inferInstance
def deepT (s : StT) (c : Int) : Nat := if goesT s c then 1 + maxD (s.1.drop (backT s c)) else 6
def stepT (s : StT) (c : Int) : StT :=
  if deepT s c < 6 then (s.1.take (backT s c) ++ [(groupZ c ((s.1.drop (backT s c)).map Prod.fst), deepT s c)], s.2)
  else if s.2 < 16 then (s.1 ++ [(.leaf (leafZ c), 0)], s.2 + 1) else s
structure OkT (s : StT) : Prop where
  good : ∀ x ∈ s.1, x.1.Good ∧ x.1.depth ≤ x.2 ∧ x.2 ≤ 5
  sum : (CF.Rule.leavess (s.1.map Prod.fst)).length ≤ s.2
  few : s.2 ≤ 16
  len : s.1.length ≤ s.2
theorem manyT_le (c : Int) : 1 ≤ manyT c ∧ manyT c ≤ 4 := by
  unfold manyT
  omega
theorem depth_le {l : List (CF.Rule × Nat)} (h : ∀ x ∈ l, x.1.depth ≤ x.2) : CF.Rule.depths (l.map Prod.fst) ≤ maxD l := CF.Rule.depths_le fun r hr => by
  obtain ⟨x, hx, rfl⟩ := List.mem_map.mp hr
  exact Nat.le_trans (h x hx) (maxD_ge hx)
theorem goods_of {l : List (CF.Rule × Nat)} (h : ∀ x ∈ l, x.1.Good) : CF.Rule.Goods (l.map Prod.fst) := CF.Rule.goods_iff.mpr fun r hr => by
  obtain ⟨x, hx, rfl⟩ := List.mem_map.mp hr
  exact h x hx
theorem stepT_ok {s : StT} (h : OkT s) (c : Int) : OkT (stepT s c) := by
  unfold stepT
  have hm := manyT_le c
  split
  · rename_i h6
    have hgo : goesT s c := by
      unfold deepT at h6
      split at h6
      · assumption
      · omega
    have h2 := hgo.2
    have hd : deepT s c = 1 + maxD (s.1.drop (backT s c)) := by unfold deepT; rw [if_pos hgo]
    have hb : backT s c ≤ s.1.length := Nat.sub_le _ _
    have hld : (s.1.drop (backT s c)).length = manyT c := by rw [List.length_drop]; unfold backT; omega
    have hne : (s.1.drop (backT s c)).map Prod.fst ≠ [] := fun z => by
      have := congrArg List.length z
      rw [List.length_map, hld] at this
      simp only [List.length_nil] at this
      omega
    have hmd : ∀ x ∈ s.1.drop (backT s c), x ∈ s.1 := fun x hx => List.mem_of_mem_drop hx
    obtain ⟨g1, g2, g3⟩ := groupZ_ok c hne (by rw [List.length_map, hld]; omega) (goods_of fun x hx => (h.good x (hmd x hx)).1)
    have hdp := depth_le (l := s.1.drop (backT s c)) fun x hx => (h.good x (hmd x hx)).2.1
    refine ⟨fun x hx => ?_, ?_, h.few, ?_⟩
    · rcases List.mem_append.mp hx with hx | hx
      · exact h.good x (List.mem_of_mem_take hx)
      · rw [List.mem_singleton.mp hx]
        exact ⟨g1, by rw [g2, hd]; omega, by show deepT s c ≤ 5; omega⟩
    · have hs := h.sum
      rw [← List.take_append_drop (backT s c) s.1, List.map_append, CF.Rule.leavess_app, List.length_append] at hs
      rw [List.map_append, CF.Rule.leavess_app, List.length_append]
      show _ + (CF.Rule.leavess [groupZ c ((s.1.drop (backT s c)).map Prod.fst)]).length ≤ _
      rw [CF.Rule.leavess_one, g3]
      exact hs
    · have := h.len
      rw [List.length_append, List.length_take]
      show min (backT s c) s.1.length + 1 ≤ s.2
      unfold backT
      omega
  · split
    · rename_i h16
      refine ⟨fun x hx => ?_, ?_, by show s.2 + 1 ≤ 16; omega, ?_⟩
      · rcases List.mem_append.mp hx with hx | hx
        · exact h.good x hx
        · rw [List.mem_singleton.mp hx]
          exact ⟨by unfold CF.Rule.Good; exact leafZ_good c, by unfold CF.Rule.depth; exact Nat.le_refl 0, Nat.zero_le 5⟩
      · rw [List.map_append, CF.Rule.leavess_app, List.length_append]
        show _ + (CF.Rule.leavess [CF.Rule.leaf (leafZ c)]).length ≤ s.2 + 1
        rw [CF.Rule.leavess_one]
        unfold CF.Rule.leaves
        exact Nat.succ_le_succ h.sum
      · rw [List.length_append]
        exact Nat.succ_le_succ h.len
    · exact h
def foldT (zs : List Int) : StT := zs.foldl stepT ([], 0)
theorem foldT_snoc (zs : List Int) (z : Int) : foldT (zs ++ [z]) = stepT (foldT zs) z := by
  unfold foldT
  rw [List.foldl_append]
  rfl
theorem foldT_ok (zs : List Int) : OkT (foldT zs) := by
  have : ∀ (zs : List Int) (s : StT), OkT s → OkT (zs.foldl stepT s) := by
    intro zs
    induction zs with
    | nil => exact fun s h => h
    | cons z r ih => exact fun s h => ih _ (stepT_ok h z)
  exact this zs _ ⟨(fun x hx => nomatch hx), by rw [List.map_nil, CF.Rule.leavess_nil]; exact Nat.le_refl 0, by decide, Nat.le_refl 0⟩
def pickT (st : List (CF.Rule × Nat)) (last : Int) : CF.Rule := match st with
  | [x] => x.1
  | l => groupZ last (l.map Prod.fst)
def treeZ (zs : List Int) (last : Int) : CF.Rule := pickT (match (foldT zs).1 with | [] => [(.leaf (leafZ last), 0)] | x :: l => x :: l) last
theorem pick_ok {st : List (CF.Rule × Nat)} (last : Int) (h : ∀ x ∈ st, x.1.Good ∧ x.1.depth ≤ x.2 ∧ x.2 ≤ 5) (hs : (CF.Rule.leavess (st.map Prod.fst)).length ≤ 16) (hl : st.length ≤ 16) (hne : st ≠ []) : (pickT st last).Good ∧ (pickT st last).depth ≤ 6 ∧ (pickT st last).leaves.length ≤ 16 := by
  match st, h, hs, hl, hne with
  | [], _, _, _, hne => exact absurd rfl hne
  | [x], h, hs, _, _ =>
    have hx := h x (List.mem_cons_self ..)
    refine ⟨hx.1, ?_, ?_⟩
    · show x.1.depth ≤ 6
      omega
    · show x.1.leaves.length ≤ 16
      have e : CF.Rule.leavess ([x].map Prod.fst) = x.1.leaves := CF.Rule.leavess_one _
      rw [e] at hs
      exact hs
  | x :: y :: l, h, hs, hl, _ =>
    obtain ⟨g1, g2, g3⟩ := groupZ_ok last (rs := (x :: y :: l).map Prod.fst) (fun z => nomatch z) (by rw [List.length_map]; exact hl) (goods_of fun x hx => (h x hx).1)
    refine ⟨g1, ?_, ?_⟩
    · show (groupZ last ((x :: y :: l).map Prod.fst)).depth ≤ 6
      have := CF.Rule.depths_le (n := 5) (rs := (x :: y :: l).map Prod.fst) fun r hr => by
        obtain ⟨z, hz, rfl⟩ := List.mem_map.mp hr
        have := h z hz
        omega
      omega
    · show (groupZ last ((x :: y :: l).map Prod.fst)).leaves.length ≤ 16
      rw [g3]
      exact hs
theorem end_ok (zs : List Int) (last : Int) : ∀ st, st = (match (foldT zs).1 with | [] => [(CF.Rule.leaf (leafZ last), 0)] | x :: l => x :: l) → (∀ x ∈ st, x.1.Good ∧ x.1.depth ≤ x.2 ∧ x.2 ≤ 5) ∧ (CF.Rule.leavess (st.map Prod.fst)).length ≤ 16 ∧ st.length ≤ 16 ∧ st ≠ [] := by
  intro st e
  have h := foldT_ok zs
  cases hf : (foldT zs).1 with
  | nil =>
    rw [hf] at e
    subst e
    refine ⟨fun x hx => ?_, ?_, by show 1 ≤ 16; decide, fun z => nomatch z⟩
    · rw [List.mem_singleton.mp hx]
      exact ⟨by unfold CF.Rule.Good; exact leafZ_good _, by unfold CF.Rule.depth; exact Nat.le_refl 0, Nat.zero_le 5⟩
    · show (CF.Rule.leavess [CF.Rule.leaf (leafZ last)]).length ≤ 16
      rw [CF.Rule.leavess_one]
      unfold CF.Rule.leaves
      show 1 ≤ 16
      decide
  | cons x l =>
    rw [hf] at e
    subst e
    have h1 := h.good
    have h2 := h.sum
    have h3 := h.len
    have h4 := h.few
    rw [hf] at h1 h2 h3
    exact ⟨h1, Nat.le_trans h2 h4, Nat.le_trans h3 h4, fun z => nomatch z⟩
theorem treeZ_ok (zs : List Int) (last : Int) : (treeZ zs last).Good ∧ (treeZ zs last).depth ≤ 6 ∧ (treeZ zs last).leaves.length ≤ 16 := by
  obtain ⟨h1, h2, h3, h4⟩ := end_ok zs last _ rfl
  exact pick_ok last h1 h2 h3 h4
def itemD (x : CF.Rule × Nat) : PyData := .tuple [x.1.data, .int (x.2 : Nat)]
theorem items_split {D : Hp} : ∀ {xs : List V} {st : List (CF.Rule × Nat)}, DataAll K D xs (st.map itemD) → ∃ ys : List V, DataAll K D ys (CF.Rule.datas (st.map Prod.fst)) ∧ ys.length = xs.length ∧ ∀ (i : Nat) (x : V), xs[i]? = some x → ∃ (t : Addr) (y : V) (d : Nat), x = V.ref t ∧ ys[i]? = some y ∧ (st.map Prod.snd)[i]? = some d ∧ D t = some (.tup [y, .int (d : Nat)])
  | xs, [], h => by
    rw [DataAll.none h]
    exact ⟨[], by show DataAll K D [] (CF.Rule.datas []); unfold CF.Rule.datas; exact DataAll.nil, rfl, fun i x h => by cases h⟩
  | xs, a :: st, h => by
    obtain ⟨x, xr, rfl, h1, h2⟩ := DataAll.uncons h
    obtain ⟨ys, hy, hl, hi⟩ := items_split h2
    obtain ⟨t, zs, rfl, e, hA⟩ := DataAt.tup h1
    obtain ⟨y1, r1, rfl, k1, hA⟩ := DataAll.uncons hA
    obtain ⟨y2, r2, rfl, k2, hA⟩ := DataAll.uncons hA
    rw [DataAt.int k2, DataAll.none hA] at e
    refine ⟨y1 :: ys, by show DataAll K D (y1 :: ys) (CF.Rule.datas (a.1 :: st.map Prod.fst)); unfold CF.Rule.datas; exact DataAll.cons k1 hy, congrArg (· + 1) hl, fun i x hx => ?_⟩
    cases i with
    | zero =>
      obtain rfl := Option.some.inj hx
      exact ⟨t, y1, a.2, rfl, rfl, rfl, e⟩
    | succ i => exact hi i x hx
theorem drop_data {D : Hp} {xs : List V} {st : List (CF.Rule × Nat)} (h : DataAll K D xs (st.map itemD)) (k : Nat) : DataAll K D (xs.drop k) ((st.drop k).map itemD) := by
  rw [List.map_drop]
  exact DataAll.drop h
theorem take_data {D : Hp} {xs : List V} {st : List (CF.Rule × Nat)} (h : DataAll K D xs (st.map itemD)) (k : Nat) : DataAll K D (xs.take k) ((st.take k).map itemD) := by
  rw [List.map_take]
  exact DataAll.take h
def sp_q18 (K : PySem.W.Frag) : Sp := fun vs H Q _ => ∃ (pc : Addr) (zs : List Int) (last : Int) (D : Hp), vs = [.ref pc, .int last] ∧ SqL K H pc (zs.map V.int) ∧ zs.length ≤ 63 ∧ Same D H ∧ ∀ D' H' r, Gr D H D' H' → DataAt K D' r (treeZ zs last).data → Q r H'
theorem ok_q18 {f : Addr} {fd fd_q12 fd_q14 fd_q15 : FuncData} (F : Fun K "_law_tree" "_law_tree" s_q18 f fd) (T : Txt K mg a)
    (G_q12 : FnOk P w K mg base CX0 1 a.law_group fd_q12 ["_law_cell", "_law_rules"] (sp_q12 K)) (F_q12 : Fun K "_law_group" "_law_group" s_q12 a.law_group fd_q12) (b_q12 : Binds K fd_q12 ["_law_cell", "_law_rules"] [])
    (G_q14 : FnOk P w K mg base CX0 2 a.law_leaf fd_q14 ["_law_cell"] (sp_q14 K)) (F_q14 : Fun K "_law_leaf" "_law_leaf" s_q14 a.law_leaf fd_q14) (b_q14 : Binds K fd_q14 ["_law_cell"] [])
    (G_q15 : FnOk P w K mg base CX0 1 a.law_mixed fd_q15 ["_law_cell", "_law_k"] (sp_q15 K)) (F_q15 : Fun K "_law_mixed" "_law_mixed" s_q15 a.law_mixed fd_q15) (b_q15 : Binds K fd_q15 ["_law_cell", "_law_k"] []) : FnOk P w K mg base CX0 3 f fd ["_law_cells", "_law_last"] (sp_q18 K) := by
  refine F.ok sc_q18 (fun vs H Q E h => ?_) (fun cdv A outer s H vs Q E hr h => ?_)
  · obtain ⟨pc, zs, last, D, rfl, _⟩ := h
    rfl
  · obtain ⟨pc, zs, last, D, rfl, hc, hl, sD, q⟩ := h
    refine ⟨_, (pss_cons (psN (i := 2) (sc := defScope s_q18) (M := N_q18) rfl rfl (by decide +kernel) (pe_lst pa_nil))
      (pss_cons (psN (i := 3) (sc := defScope s_q18) (M := N_q18) rfl rfl (by decide +kernel) pe_int)
      (pss_cons (ps_for PassesOwn.never rfl (pi_list (pvA 0 (defScope s_q18) N_q18 rfl rfl)) (pgN (i := 4) (sc := defScope s_q18) (M := N_q18) rfl rfl (by decide +kernel)) (pss_cons (psN (i := 5) (sc := defScope s_q18) (M := N_q18) rfl rfl (by decide +kernel) (pe_op op_add pe_int (pe_op op_mod (pe_op op_fdiv (pe_callN (sc := defScope s_q18) G_q15 (hr.mono (by decide)) rfl (by decide +kernel) T.m_q15 F_q15.kp b_q15 .nil pass0 (pa_cons (pvA 4 (defScope s_q18) N_q18 rfl rfl) (pa_cons pe_int pa_nil))) pe_int) pe_int)))
      (pss_cons (psN (i := 6) (sc := defScope s_q18) (M := N_q18) rfl rfl (by decide +kernel) pe_int)
      (pss_cut (ps_if (PW.pt (pw_and (pt_cmpR op_ge (pe_op op_mod (pvA 4 (defScope s_q18) N_q18 rfl rfl) pe_int) pe_int (nomark _)) (pw_and1 (pt_cmpR op_le (pvA 5 (defScope s_q18) N_q18 rfl rfl) (pe_callBN (sc := defScope s_q18) call_len rfl (by decide +kernel) T.z_len bt_len (pa_cons (pvA 2 (defScope s_q18) N_q18 rfl rfl) pa_nil)) (nomark _))))) (pss_one (psN (i := 6) (sc := defScope s_q18) (M := N_q18) rfl rfl (by decide +kernel) (pe_op op_add pe_int (pe_callBN (sc := defScope s_q18) (call_maxL rfl) rfl (by decide +kernel) T.z_max bt_max (pa_cons (pe_comp rfl (N := ["_law_one"]) (own := 1) (js := []) (X := (cxOf CX0 P w K mg base N_q18 "_law_tree" (defScope s_q18) f cdv A outer s H E).nox) (compOk (defScope s_q18) N_q18 rfl rfl (by decide +kernel)) (pi_list (pe_slice sl_list (pvA 2 (defScope s_q18) N_q18 rfl rfl) (po_some (pe_op op_sub (pe_callBN (sc := defScope s_q18) call_len rfl (by decide +kernel) T.z_len bt_len (pa_cons (pvA 2 (defScope s_q18) N_q18 rfl rfl) pa_nil)) (pvA 5 (defScope s_q18) N_q18 rfl rfl))) po_none)) (fun fp0 sx0 Hx0 => (pgN (i := 0) (sc := relabelS _ (defScope s_q18)) (M := ["_law_one"]) rfl rfl (by decide +kernel))) (fun fp0 sx0 Hx0 => pifs_nil) (fun fp0 sx0 Hx0 => (pe_ix (kIx (r := rIxT) (K := K) rfl ix_tup) (pvN (i := 0) (sc := relabelS _ (defScope s_q18)) (M := ["_law_one"]) rfl rfl (by decide +kernel)) pe_int (fun _ _ => rfl)))) pa_nil))))) pss_nil)
      (pss_one (ps_if (pt_cmpR op_lt (pvA 6 (defScope s_q18) N_q18 rfl rfl) pe_int (nomark _)) (pss_cons (psN_comp (i := 7) (sc := defScope s_q18) (M := N_q18) rfl rfl rfl (by decide +kernel) (N := ["_law_one"]) (own := 1) (js := []) (X := (cxOf CX0 P w K mg base N_q18 "_law_tree" (defScope s_q18) f cdv A outer s H E).nox) (compOk (defScope s_q18) N_q18 rfl rfl (by decide +kernel)) (pi_list (pe_slice sl_list (pvA 2 (defScope s_q18) N_q18 rfl rfl) (po_some (pe_op op_sub (pe_callBN (sc := defScope s_q18) call_len rfl (by decide +kernel) T.z_len bt_len (pa_cons (pvA 2 (defScope s_q18) N_q18 rfl rfl) pa_nil)) (pvA 5 (defScope s_q18) N_q18 rfl rfl))) po_none)) (fun fp0 sx0 Hx0 => (pgN (i := 0) (sc := relabelS _ (defScope s_q18)) (M := ["_law_one"]) rfl rfl (by decide +kernel))) (fun fp0 sx0 Hx0 => pifs_nil) (fun fp0 sx0 Hx0 => (pe_ix (kIx (r := rIxT) (K := K) rfl ix_tup) (pvN (i := 0) (sc := relabelS _ (defScope s_q18)) (M := ["_law_one"]) rfl rfl (by decide +kernel)) pe_int (fun _ _ => rfl))) rfl)
      (pss_one (psN (i := 2) (sc := defScope s_q18) (M := N_q18) rfl rfl (by decide +kernel) (pe_op op_cat (pe_slice sl_list (pvA 2 (defScope s_q18) N_q18 rfl rfl) po_none (po_some (pe_op op_sub (pe_callBN (sc := defScope s_q18) call_len rfl (by decide +kernel) T.z_len bt_len (pa_cons (pvA 2 (defScope s_q18) N_q18 rfl rfl) pa_nil)) (pvA 5 (defScope s_q18) N_q18 rfl rfl)))) (pe_lst (pa_cons (pe_tup (pa_cons (pe_callN (sc := defScope s_q18) G_q12 (hr.mono (by decide)) rfl (by decide +kernel) T.m_q12 F_q12.kp b_q12 .nil pass0 (pa_cons (pvA 4 (defScope s_q18) N_q18 rfl rfl) (pa_cons (pvA 7 (defScope s_q18) N_q18 rfl rfl) pa_nil))) (pa_cons (pvA 6 (defScope s_q18) N_q18 rfl rfl) pa_nil))) pa_nil)))))) (pss_one (ps_if (pt_cmpR op_lt (pvA 3 (defScope s_q18) N_q18 rfl rfl) pe_int (nomark _)) (pss_cons (psN (i := 3) (sc := defScope s_q18) (M := N_q18) rfl rfl (by decide +kernel) (pe_op op_add (pvA 3 (defScope s_q18) N_q18 rfl rfl) pe_int))
      (pss_one (ps_expr (pe_bm PySem.F.plainAttrs_list PySem.F.slot_list_append PySem.F.type_list_append mt_append (pvA 2 (defScope s_q18) N_q18 rfl rfl) (pa_cons (pe_tup (pa_cons (pe_callN (sc := defScope s_q18) G_q14 (hr.mono (by decide)) rfl (by decide +kernel) T.m_q14 F_q14.kp b_q14 .nil pass0 (pa_cons (pvA 4 (defScope s_q18) N_q18 rfl rfl) pa_nil)) (pa_cons pe_int pa_nil))) pa_nil))))) pss_nil))))))))
      (pss_cut (ps_if (pt_cmpR (op_eqD (n := 60) (hu60 hr)) (pvA 2 (defScope s_q18) N_q18 rfl rfl) (pe_lst pa_nil) (nomark _)) (pss_one (ps_expr (pe_bm PySem.F.plainAttrs_list PySem.F.slot_list_append PySem.F.type_list_append mt_append (pvA 2 (defScope s_q18) N_q18 rfl rfl) (pa_cons (pe_tup (pa_cons (pe_callN (sc := defScope s_q18) G_q14 (hr.mono (by decide)) rfl (by decide +kernel) T.m_q14 F_q14.kp b_q14 .nil pass0 (pa_cons (pvA 1 (defScope s_q18) N_q18 rfl rfl) pa_nil)) (pa_cons pe_int pa_nil))) pa_nil)))) pss_nil)
      (pss_cons (ps_if (pt_cmpR op_eq (pe_callBN (sc := defScope s_q18) call_len rfl (by decide +kernel) T.z_len bt_len (pa_cons (pvA 2 (defScope s_q18) N_q18 rfl rfl) pa_nil)) pe_int (nomark _)) (pss_one (ps_ret (pe_ix ix_tup (pe_ix ix_list (pvA 2 (defScope s_q18) N_q18 rfl rfl) pe_int (fun _ _ => rfl)) pe_int (fun _ _ => rfl)))) pss_nil)
      (pss_one (ps_ret (pe_callN (sc := defScope s_q18) G_q12 (hr.mono (by decide)) rfl (by decide +kernel) T.m_q12 F_q12.kp b_q12 .nil pass0 (pa_cons (pvA 1 (defScope s_q18) N_q18 rfl rfl) (pa_cons (pe_comp rfl (N := ["_law_one"]) (own := 1) (js := []) (X := (cxOf CX0 P w K mg base N_q18 "_law_tree" (defScope s_q18) f cdv A outer s H E).nox) (compOk (defScope s_q18) N_q18 rfl rfl (by decide +kernel)) (pi_list (pvA 2 (defScope s_q18) N_q18 rfl rfl)) (fun fp0 sx0 Hx0 => (pgN (i := 0) (sc := relabelS _ (defScope s_q18)) (M := ["_law_one"]) rfl rfl (by decide +kernel))) (fun fp0 sx0 Hx0 => pifs_nil) (fun fp0 sx0 Hx0 => (pe_ix (kIx (r := rIxT) (K := K) rfl ix_tup) (pvN (i := 0) (sc := relabelS _ (defScope s_q18)) (M := ["_law_one"]) rfl rfl (by decide +kernel)) pe_int (fun _ _ => rfl)))) pa_nil)))))))))), ?_⟩
    have hs : sizeLine = 16777216 := sizeLine_eq
    refine ⟨by first | decide | (simp only [List.length_cons, List.length_nil, List.length_append, List.length_map]; decide), fun p0 hp0 => ?_⟩
    have G0 := Gr.heap sD (Same.upd0 (o := .lst []) hp0)
    have e0 : upd H p0 (.lst []) p0 = some (.lst []) := upd_same
    have n0 : D p0 = none := free_of sD hp0
    generalize upd H p0 (.lst []) = H0 at G0 e0 ⊢
    refine ⟨_, rfl, pc, rfl, ⟨_, G0.hh.seq hc⟩, ?_⟩
    refine for_list (xs := zs.map V.int) (fun i σ H' => ∃ D1 ps xs v1 v2 v3 v4 v5, σ = [some (.ref pc), some (.int last), some (.ref ps), some (.int ((foldT (zs.take i)).2 : Nat)), v1, v2, v3, v4] ∧ v5 = v4 ∧ Gr D H D1 H' ∧ H ps = none ∧ H' ps = some (.lst xs) ∧ D1 ps = none ∧ DataAll K D1 xs ((foldT (zs.take i)).1.map itemD)) ⟨D, p0, [], _, _, _, _, _, rfl, rfl, G0, hp0, e0, n0, DataAll.nil⟩ ?_ ?_ ?_
    · rintro i σ H' _ ⟨D1, ps, xs, v1, v2, v3, v4, v5, _, _, G, _⟩
      exact G.hh.seq hc
    · rintro i x σ H1 hx ⟨D1, ps, xs, v1, v2, v3, v4, v5, rfl, _, G, nps, e1, n1, hA⟩
      rw [List.getElem?_map] at hx
      obtain ⟨z, hz, rfl⟩ := Option.map_eq_some_iff.mp hx
      have eF : foldT (zs.take (i + 1)) = stepT (foldT (zs.take i)) z := by rw [CG.take_succ hz, foldT_snoc]
      have hok := foldT_ok (zs.take i)
      rw [eF]
      generalize foldT (zs.take i) = st at hA hok ⊢
      have lx := DataAll.length hA
      rw [List.length_map] at lx
      have hfew := hok.few
      have hlen := hok.len
      have hmt := manyT_le z
      have em : (1 : Int) + mixZ z 3 / 7 % 4 = ((manyT z : Nat) : Int) := by unfold manyT; omega
      refine ⟨_, rfl, z, 3, rfl, by decide, by decide, _, _, rfl, rfl, ⟨by decide, by decide⟩, _, _, rfl, rfl, (by show (0 : Int) < 4; decide), _, _, rfl, rfl, ?_⟩
      rw [show (fun i j : Int => V.int (i + j)) 1 (mixZ z 3 / 7 % 4) = V.int (manyT z : Nat) from congrArg V.int em]
      have lback : backT st z ≤ st.1.length := Nat.sub_le _ _
      have no : ¬ goesT st z → ∃ w, ([some (.ref pc), some (.int last), some (.ref ps), some (.int (st.2 : Nat)), some (.int z), some (.int (manyT z : Nat)), some (.int 6), v4] : L2.St) = [some (.ref pc), some (.int last), some (.ref ps), some (.int (st.2 : Nat)), some (.int z), some (.int (manyT z : Nat)), some (.int (deepT st z : Nat)), w] ∧ Same H1 H1 := fun h => ⟨v4, by unfold deepT; rw [if_neg h]; rfl, Same.refl _⟩
      refine ⟨fun σ' H' => ∃ w, σ' = [some (.ref pc), some (.int last), some (.ref ps), some (.int (st.2 : Nat)), some (.int z), some (.int (manyT z : Nat)), some (.int (deepT st z : Nat)), w] ∧ Same H1 H', ?_, ?_⟩
      · refine ⟨_, rfl, _, _, rfl, rfl, (by show (0 : Int) < 7; decide), _, _, rfl, rfl, _, rfl, ite2 (fun h1 => ?_) (fun h1 => no fun g => h1 (decide_eq_true g.1))⟩
        refine ⟨_, rfl, _, rfl, .ref ps, st.1.length, rfl, .inl ⟨_, SqL.of e1, lx.symm⟩, _, _, rfl, rfl, _, rfl, ite2 (fun h2 => ?_) (fun h2 => no fun g => h2 (decide_eq_true (by have := g.2; show ((manyT z : Nat) : Int) ≤ (st.1.length : Nat); omega)))⟩
        have hgo : goesT st z := ⟨of_decide_eq_true h1, by have : ((manyT z : Nat) : Int) ≤ (st.1.length : Nat) := of_decide_eq_true h2; omega⟩
        have hb2 := hgo.2
        have hld : (st.1.drop (backT st z)).length = manyT z := by rw [List.length_drop]; unfold backT; omega
        refine ⟨_, rfl, _, rfl, .ref ps, st.1.length, rfl, .inl ⟨_, SqL.of e1, lx.symm⟩, _, rfl, _, _, rfl, rfl, _, rfl, ps, _, rfl, SqL.of e1, fun p2 hp2 => ?_⟩
        rw [show ((st.1.length : Nat) : Int) - (manyT z : Nat) = ((backT st z : Nat) : Int) by unfold backT; omega, cut_from _ (by omega)]
        have s2 := Same.upd0 (o := .lst (xs.drop (backT st z))) hp2
        have e2 : upd H1 p2 (.lst (xs.drop (backT st z))) p2 = some (.lst (xs.drop (backT st z))) := upd_same
        generalize upd H1 p2 (.lst (xs.drop (backT st z))) = H2 at s2 e2 ⊢
        refine ⟨p2, rfl, ⟨_, SqL.of e2⟩, fun c hc' => ?_⟩
        obtain ⟨ys, hy, ly, hi⟩ := items_split (drop_data hA (backT st z))
        have dh2 : Same D1 H2 := G.dh.trans s2
        refine comp_idx hc' yields_list (fun σ => ∃ v, σ = [v]) (((st.1.drop (backT st z)).map fun x => ((x.2 : Nat) : Int)).map V.int) (by rw [List.length_map, List.length_map, hld, List.length_drop]; unfold backT; omega) ⟨_, rfl⟩ (fun H' s' => SqL.of (s' _ _ e2)) (by rw [List.length_drop]; omega) ?_ ?_
        · rintro j x y σ H3 R1 R0 hx hy' ⟨v, rfl⟩ s3 k1
          obtain ⟨t, y', d, rfl, _, ed, et⟩ := hi j x hx
          rw [List.getElem?_map] at ed
          obtain ⟨x', hx', rfl⟩ := Option.map_eq_some_iff.mp ed
          rw [List.getElem?_map, List.getElem?_map, hx'] at hy'
          obtain rfl := Option.some.inj hy'
          exact ⟨_, rfl, t, _, _, _, rfl, rfl, SqT.of ((dh2.trans s3) _ _ et), rfl, k1 _ _ ⟨_, rfl⟩ (Same.refl _)⟩
        intro H3 s3 e3
        refine ⟨c, _, rfl, SqL.of e3, fun h0 => ?_, fun m hm hx => ?_⟩
        · have := congrArg List.length h0
          rw [List.length_map, hld] at this
          simp only [List.length_nil] at this
          omega
        have emax : m = ((maxD (st.1.drop (backT st z)) : Nat) : Int) := by
          obtain ⟨x1, hx1, rfl⟩ := List.mem_map.mp hm
          have g1 := maxD_ge hx1
          obtain ⟨x2, hx2, e⟩ := maxD_in (l := st.1.drop (backT st z)) (fun h0 => by rw [h0] at hld; simp only [List.length_nil] at hld; omega)
          have g2 := hx _ (List.mem_map.mpr ⟨x2, hx2, rfl⟩)
          omega
        refine ⟨_, _, rfl, rfl, v4, ?_, s2.trans s3⟩
        rw [emax, show ((deepT st z : Nat) : Int) = 1 + ((maxD (st.1.drop (backT st z)) : Nat) : Int) by unfold deepT; rw [if_pos hgo]; omega]
        rfl
      rintro σ' H2 ⟨w, rfl, s2⟩
      have G2 := G.then s2
      have e2 := s2 _ _ e1
      refine ⟨_, rfl, _, _, rfl, rfl, _, rfl, ite2 (fun h6 => ?_) (fun h6 => ?_)⟩
      · have h6' : deepT st z < 6 := by have : ((deepT st z : Nat) : Int) < 6 := of_decide_eq_true h6; omega
        have hgo : goesT st z := by
          unfold deepT at h6'
          split at h6'
          · assumption
          · omega
        have hb2 := hgo.2
        have hld : (st.1.drop (backT st z)).length = manyT z := by rw [List.length_drop]; unfold backT; omega
        have eS : stepT st z = (st.1.take (backT st z) ++ [(groupZ z ((st.1.drop (backT st z)).map Prod.fst), deepT st z)], st.2) := by unfold stepT; rw [if_pos h6']
        rw [eS]
        refine ⟨_, rfl, _, rfl, .ref ps, st.1.length, rfl, .inl ⟨_, SqL.of e2, lx.symm⟩, _, rfl, _, _, rfl, rfl, _, rfl, ps, _, rfl, SqL.of e2, fun p3 hp3 => ?_⟩
        rw [show ((st.1.length : Nat) : Int) - (manyT z : Nat) = ((backT st z : Nat) : Int) by unfold backT; omega, cut_from _ (by omega)]
        have s3 := Same.upd0 (o := .lst (xs.drop (backT st z))) hp3
        have e3 : upd H2 p3 (.lst (xs.drop (backT st z))) p3 = some (.lst (xs.drop (backT st z))) := upd_same
        have f3 := s3 _ _ e2
        have G3 := G2.then s3
        generalize upd H2 p3 (.lst (xs.drop (backT st z))) = H3 at s3 e3 f3 G3 ⊢
        refine ⟨p3, rfl, ⟨_, SqL.of e3⟩, fun c hc' => ?_⟩
        obtain ⟨ys, hy, ly, hi⟩ := items_split (drop_data hA (backT st z))
        have nc : H c = none := G3.hh.free hc'
        refine comp_idx hc' yields_list (fun σ => ∃ v, σ = [v]) ys ly ⟨_, rfl⟩ (fun H' s' => SqL.of (s' _ _ e3)) (by rw [List.length_drop]; omega) ?_ ?_
        · rintro j x y σ H4 R1 R0 hx hy' ⟨v, rfl⟩ s4 k1
          obtain ⟨t, y', d, rfl, ey, ed, et⟩ := hi j x hx
          rw [ey] at hy'
          obtain rfl := Option.some.inj hy'
          exact ⟨_, rfl, t, _, _, _, rfl, rfl, SqT.of ((G3.dh.trans s4) _ _ et), rfl, k1 _ _ ⟨_, rfl⟩ (Same.refl _)⟩
        intro H4 s4 e4
        have G4 := G3.then s4
        have nd4 : D1 c = none := free_of G3.dh hc'
        have f4 := s4 _ _ f3
        have ncp : ps ≠ c := ne_of_none f3 hc'
        have G5 := G4.fix nc nd4 e4
        have dr : DataAt K (upd D1 c (.lst ys)) (.ref c) (.list (CF.Rule.datas ((st.1.drop (backT st z)).map Prod.fst))) := DataAt.mkL (D := D1) hy upd_same (Same.upd0 nd4)
        have hA5 := DataAll.up hA (Same.upd0 (o := .lst ys) nd4)
        have n5 : upd D1 c (.lst ys) ps = none := (upd_ne ncp).trans n1
        generalize upd D1 c (.lst ys) = D5 at G5 dr hA5 n5
        refine ⟨_, rfl, _, rfl, .ref ps, st.1.length, rfl, .inl ⟨_, SqL.of f4, lx.symm⟩, _, rfl, _, _, rfl, rfl, _, rfl, ps, _, rfl, SqL.of f4, fun p6 hp6 => ?_⟩
        rw [show ((st.1.length : Nat) : Int) - (manyT z : Nat) = ((backT st z : Nat) : Int) by unfold backT; omega, cut_to]
        have G6 := G5.then (Same.upd0 (o := .lst (xs.take (backT st z))) hp6)
        have e6 : upd H4 p6 (.lst (xs.take (backT st z))) p6 = some (.lst (xs.take (backT st z))) := upd_same
        generalize upd H4 p6 (.lst (xs.take (backT st z))) = H6 at G6 e6 ⊢
        refine ⟨_, rfl, _, rfl, z, c, _, D5, rfl, G6.dh, dr, ?_, fun D7 H7 r7 g7 d7 => ?_⟩
        · intro h0
          have := congrArg List.length h0
          rw [List.length_map, hld] at this
          simp only [List.length_nil] at this
          omega
        have G7 := G6.trans g7
        have hA7 := DataAll.up (take_data hA5 (backT st z)) g7.dd
        have e7 := g7.hh _ _ e6
        refine ⟨_, rfl, by first | decide | (simp only [List.length_cons, List.length_nil, List.length_append, List.length_map]; decide), fun t ht => ?_⟩
        have g8 : Gr D7 H7 _ _ := Gr.lay (o := .tup [r7, .int (deepT st z : Nat)]) G7.dh ht
        have G8 := G7.trans g8
        have d8 : DataAt K (upd D7 t (.tup [r7, .int (deepT st z : Nat)])) (.ref t) (itemD (groupZ z ((st.1.drop (backT st z)).map Prod.fst), deepT st z)) := DataAt.mkT (DataAll.cons (DataAt.gr d7 g8) (DataAll.cons DataAt.ofInt DataAll.nil)) upd_same (Same.refl _)
        have hA8 := DataAll.up hA7 g8.dd
        have e8 := g8.hh _ _ e7
        generalize upd D7 t (.tup [r7, .int (deepT st z : Nat)]) = D8 at G8 d8 hA8 g8
        generalize upd H7 t (.tup [r7, .int (deepT st z : Nat)]) = H8 at G8 e8 g8 ⊢
        refine ⟨by first | decide | (simp only [List.length_cons, List.length_nil, List.length_append, List.length_map]; decide), fun p9 hp9 => ⟨p6, p9, _, _, rfl, rfl, Same.upd0 hp9 _ _ e8, upd_same, ?_, fun p10 hp10 => ?_⟩⟩
        · rw [List.length_take]
          show _ + 1 ≤ sizeLine
          omega
        have t9 : Same H8 (upd H8 p9 (.lst [.ref t])) := Same.upd0 hp9
        have G10 := (G8.then t9).then (Same.upd0 (o := .lst (xs.take (backT st z) ++ [.ref t])) hp10)
        refine ⟨D8, p10, _, _, _, _, _, _, rfl, rfl, G10, (G8.then t9).hh.free hp10, upd_same, free_of (G8.then t9).dh hp10, ?_⟩
        rw [List.map_append]
        exact DataAll.snoc d8 hA8
      · have h6' : ¬ deepT st z < 6 := fun z' => h6 (decide_eq_true (by show ((deepT st z : Nat) : Int) < 6; omega))
        have eS : stepT st z = if st.2 < 16 then (st.1 ++ [(.leaf (leafZ z), 0)], st.2 + 1) else st := by unfold stepT; rw [if_neg h6']
        rw [eS]
        refine ⟨_, rfl, _, _, rfl, rfl, _, rfl, ite2 (fun h7 => ?_) (fun h7 => ?_)⟩
        · have h7' : st.2 < 16 := by have : ((st.2 : Nat) : Int) < 16 := of_decide_eq_true h7; omega
          rw [if_pos h7']
          refine ⟨_, rfl, _, _, rfl, rfl, ?_⟩
          refine ⟨_, rfl, .inl ⟨rfl, _, SqL.of e2⟩, _, rfl, z, D1, rfl, G2.dh, fun D3 H3 r3 g3 d3 => ⟨by first | decide | (simp only [List.length_cons, List.length_nil, List.length_append, List.length_map]; decide), fun t ht => ?_⟩⟩
          obtain ⟨e3, n3⟩ := g3.old e2 n1
          have G3 := G2.trans g3
          have g4 : Gr D3 H3 _ _ := Gr.lay (o := .tup [r3, .int 0]) G3.dh ht
          obtain ⟨e4, n4⟩ := g4.old e3 n3
          have d4 : DataAt K (upd D3 t (.tup [r3, .int 0])) (.ref t) (itemD (.leaf (leafZ z), 0)) := by
            refine DataAt.mkT (DataAll.cons ?_ (DataAll.cons DataAt.ofInt DataAll.nil)) upd_same (Same.refl _)
            show DataAt K _ r3 (CF.Rule.leaf (leafZ z)).data
            unfold CF.Rule.data
            exact DataAt.gr d3 g4
          have G4 := G3.trans g4
          have hA4 := DataAll.up (DataAll.up hA g3.dd) g4.dd
          refine ⟨ps, _, _, rfl, rfl, e4, by omega, _, ps, _, _, _, _, _, _, rfl, rfl, Gr.set G4 nps n4, nps, upd_same, n4, ?_⟩
          rw [List.map_append]
          exact DataAll.snoc d4 hA4
        · rw [if_neg (fun z' => h7 (decide_eq_true (by show ((st.2 : Nat) : Int) < 16; omega)))]
          exact ⟨D1, ps, xs, _, _, _, _, _, rfl, rfl, G2, nps, e2, n1, hA⟩
    rintro σ H1 ⟨D1, ps, xs, v1, v2, v3, v4, v5, rfl, _, G, nps, e1, n1, hA⟩
    rw [List.length_map, List.take_length] at hA ⊢
    have hok := foldT_ok zs
    have htree : treeZ zs last = pickT (match (foldT zs).1 with | [] => [(.leaf (leafZ last), 0)] | x :: l => x :: l) last := rfl
    have hend := end_ok zs last
    rw [htree] at q
    generalize (foldT zs).2 = nl at *
    refine ⟨fun σ' H' => ∃ D2 xs' u1, σ' = [some (.ref pc), some (.int last), some (.ref ps), some (.int (nl : Nat)), v1, v2, v3, u1] ∧ Gr D H D2 H' ∧ H' ps = some (.lst xs') ∧ D2 ps = none ∧ DataAll K D2 xs' ((match (foldT zs).1 with | [] => [(CF.Rule.leaf (leafZ last), 0)] | x :: l => x :: l).map itemD), ?_, ?_⟩
    · refine ⟨_, rfl, by first | decide | (simp only [List.length_cons, List.length_nil, List.length_append, List.length_map]; decide), fun p9 hp9 => ?_⟩
      have s9 := Same.upd0 (o := .lst []) hp9
      have e9 := s9 _ _ e1
      have hlay : PyData.canLayAll0 ((foldT zs).1.map itemD) = true := CF.lay_all fun d hd => by
        obtain ⟨x, hx, rfl⟩ := List.mem_map.mp hd
        refine CF.lay_all (ds := [x.1.data, .int (x.2 : Nat)]) fun d hd => ?_
        simp only [List.mem_cons, List.not_mem_nil, or_false] at hd
        rcases hd with rfl | rfl
        · exact CF.Rule.canLay (hok.good x hx).1
        · rfl
      refine ⟨.list ((foldT zs).1.map itemD), .list [], DataAt.mkL (D := D1) hA e9 (G.dh.trans s9), DataAt.mkL (D := upd H1 p9 (.lst [])) DataAll.nil upd_same (Same.refl _), hlay, rfl, ?_, _, rfl, ?_⟩
      · show min _ 1 ≤ 60
        omega
      have G9 := G.then s9
      generalize upd H1 p9 (.lst []) = H9 at e9 G9 ⊢
      cases hf : (foldT zs).1 with
      | cons x l =>
        rw [hf] at hA
        exact iteF ⟨D1, xs, _, rfl, G9, e9, n1, hA⟩
      | nil =>
        rw [hf] at hA
        obtain rfl : xs = [] := DataAll.none hA
        refine iteT ⟨_, rfl, .inl ⟨rfl, _, SqL.of e9⟩, _, rfl, last, D1, rfl, G9.dh, fun D3 H3 r3 g3 d3 => ⟨by first | decide | (simp only [List.length_cons, List.length_nil, List.length_append, List.length_map]; decide), fun t ht => ?_⟩⟩
        obtain ⟨e3, n3⟩ := g3.old e9 n1
        have G3 := G9.trans g3
        have g4 : Gr D3 H3 _ _ := Gr.lay (o := .tup [r3, .int 0]) G3.dh ht
        obtain ⟨e4, n4⟩ := g4.old e3 n3
        have d4 : DataAt K (upd D3 t (.tup [r3, .int 0])) (.ref t) (itemD (.leaf (leafZ last), 0)) := by
          refine DataAt.mkT (DataAll.cons ?_ (DataAll.cons DataAt.ofInt DataAll.nil)) upd_same (Same.refl _)
          show DataAt K _ r3 (CF.Rule.leaf (leafZ last)).data
          unfold CF.Rule.data
          exact DataAt.gr d3 g4
        exact ⟨ps, _, _, rfl, rfl, e4, by show 0 + 1 ≤ sizeLine; omega, _, _, _, rfl, Gr.set (G3.trans g4) nps n4, upd_same, n4, DataAll.cons d4 DataAll.nil⟩
    rintro σ' H2 ⟨D2, xs', u1, rfl, G2, e2, n2, hA2⟩
    obtain ⟨h1, h2, h3, h4⟩ := hend _ rfl
    generalize (match (foldT zs).1 with | [] => [(CF.Rule.leaf (leafZ last), 0)] | x :: l => x :: l) = st at hA2 h1 h2 h3 h4 q
    have lx := DataAll.length hA2
    rw [List.length_map] at lx
    obtain ⟨ys, hy, ly, hi⟩ := items_split hA2
    refine ⟨_, rfl, .ref ps, st.length, rfl, .inl ⟨_, SqL.of e2, lx.symm⟩, rfl, _, rfl, ite2 (fun h5 => ?_) (fun h5 => ?_)⟩
    · have h5' : ((st.length : Nat) : Int) = 1 := V.int.inj (of_decide_eq_true h5)
      match st, h4, h5', hA2, lx, hy, q, hi with
      | [x], _, _, hA2, lx, hy, q, hi =>
        obtain ⟨y, xr, rfl, k1, k2⟩ := DataAll.uncons hA2
        obtain ⟨t, y', d, rfl, ey, ed, et⟩ := hi 0 y rfl
        have hy' : DataAll K D2 ys [x.1.data] := by
          have e : CF.Rule.datas ([x].map Prod.fst) = [x.1.data] := by rw [CF.Rule.datas_map]; rfl
          rw [← e]
          exact hy
        obtain ⟨y2, yr, rfl, k3, k4⟩ := DataAll.uncons hy'
        obtain rfl := Option.some.inj ey
        exact ⟨_, rfl, ps, _, _, _, rfl, rfl, SqL.of e2, CF.atI_zero, t, _, _, _, rfl, rfl, SqT.of (G2.dh _ _ et), CF.atI_zero, q D2 H2 _ G2 k3⟩
      | x :: y :: l, _, h5', _, _, _, _, _ =>
        rw [List.length_cons, List.length_cons] at h5'
        omega
    · have h5' : st.length ≠ 1 := fun z => h5 (decide_eq_true (by rw [z]; rfl))
      have ep : pickT st last = groupZ last (st.map Prod.fst) := by
        match st, h4, h5' with
        | [x], _, h5' => exact absurd rfl h5'
        | x :: y :: l, _, _ => rfl
      rw [ep] at q
      refine ⟨_, rfl, _, rfl, ps, rfl, ⟨_, SqL.of e2⟩, fun c hc' => ?_⟩
      have nc : H c = none := G2.hh.free hc'
      refine comp_idx hc' yields_list (fun σ => ∃ v, σ = [v]) ys ly ⟨_, rfl⟩ (fun H' s' => SqL.of (s' _ _ e2)) (by omega) ?_ ?_
      · rintro j x y σ H4 R1 R0 hx hy' ⟨v, rfl⟩ s4 k1
        obtain ⟨t, y', d, rfl, ey, ed, et⟩ := hi j x hx
        rw [ey] at hy'
        obtain rfl := Option.some.inj hy'
        exact ⟨_, rfl, t, _, _, _, rfl, rfl, SqT.of ((G2.dh.trans s4) _ _ et), CF.atI_zero, k1 _ _ ⟨_, rfl⟩ (Same.refl _)⟩
      intro H4 s4 e4
      have nd4 : D2 c = none := free_of G2.dh hc'
      have G5 := (G2.then s4).fix nc nd4 e4
      have dr : DataAt K (upd D2 c (.lst ys)) (.ref c) (.list (CF.Rule.datas (st.map Prod.fst))) := DataAt.mkL (D := D2) hy upd_same (Same.upd0 nd4)
      refine ⟨last, c, _, _, rfl, G5.dh, dr, (fun z => h4 (List.map_eq_nil_iff.mp z)), fun D7 H7 r7 g7 d7 => q _ _ _ (G5.trans g7) d7⟩
def sp_q17 (K : PySem.W.Frag) (n : Nat) : Sp := fun vs H Q _ => ∃ (x : V) (r : CF.Rule), vs = [x] ∧ DataAt K H x r.data ∧ r.depth < n ∧ r.Good ∧ r.leaves.length ≤ 16 ∧ ∀ H', Same H H' → Q (.int (r.leaves.length : Nat)) H'
theorem none_q17 {vs : List V} {H : Hp} {Q : VK} {E : XK} (h : sp_q17 K 0 vs H Q E) : False := by
  obtain ⟨x, r, _, _, h, _⟩ := h
  omega
theorem step_q17 {n : Nat} {fd_q17 : FuncData} (T : Txt K mg a)
    (G_q17 : FnOk P w K mg base CX0 (1 + n) a.law_size fd_q17 ["_law_rule"] (sp_q17 K n)) (F_q17 : Fun K "_law_size" "_law_size" s_q17 a.law_size fd_q17) (b_q17 : Binds K fd_q17 ["_law_rule"] []) : FnOk P w K mg base CX0 (1 + n + 1) a.law_size fd_q17 ["_law_rule"] (sp_q17 K (n + 1)) := by
  have F := F_q17
  refine F.ok sc_q17 (fun vs H Q E h => ?_) (fun cdv A outer s H vs Q E hr h => ?_)
  · obtain ⟨x, r, rfl, _⟩ := h
    rfl
  · obtain ⟨x, r, rfl, hx, hd, hg, hm, q⟩ := h
    refine ⟨_, (pss_cons (ps_if (PW.pt (pw_or (pt_cmpR op_eq (pe_ix ix_tup (pvA 0 (defScope s_q17) N_q17 rfl rfl) pe_int (fun _ _ => rfl)) pe_str (nomark _)) (pw_or1 (pt_cmpR op_eq (pe_ix ix_tup (pvA 0 (defScope s_q17) N_q17 rfl rfl) pe_int (fun _ _ => rfl)) pe_str (nomark _))))) (pss_one (ps_ret pe_int)) pss_nil)
      (pss_one (ps_ret (pe_callBN (sc := defScope s_q17) (call_sumL rfl) rfl (by decide +kernel) T.z_sum bt_sum (pa_cons (pe_comp rfl (N := ["_law_one"]) (own := 1) (js := []) (X := (cxOf CX0 P w K mg base N_q17 "_law_size" (defScope s_q17) a.law_size cdv A outer s H E).nox) (compOk (defScope s_q17) N_q17 rfl rfl (by decide +kernel)) (pi_list (pe_ix ix_tup (pvA 0 (defScope s_q17) N_q17 rfl rfl) (pe_un un_neg pe_int) (fun _ _ => rfl))) (fun fp0 sx0 Hx0 => (pgN (i := 0) (sc := relabelS _ (defScope s_q17)) (M := ["_law_one"]) rfl rfl (by decide +kernel))) (fun fp0 sx0 Hx0 => pifs_nil) (fun fp0 sx0 Hx0 => (pe_callN (sc := relabelS _ (defScope s_q17)) G_q17 (hr.mono (by omega)) rfl (by decide +kernel) T.m_q17 F_q17.kp b_q17 .nil pass0 (pa_cons (pvN (i := 0) (sc := relabelS _ (defScope s_q17)) (M := ["_law_one"]) rfl rfl (by decide +kernel)) pa_nil)))) pa_nil))))), ?_⟩
    have hs : sizeLine = 16777216 := sizeLine_eq
    obtain ⟨t0, ys, ex, et0⟩ := CF.Rule.tup hx
    subst ex
    have hk := CF.Rule.isLeaf_kind r
    cases hl : r.isLeaf with
    | true =>
      rw [hl, Bool.or_eq_true, decide_eq_true_eq, decide_eq_true_eq] at hk
      have e : r.leaves.length = 1 := by
        cases r with
        | allr rs => cases hl
        | somr m rs => cases hl
        | leaf l => unfold CF.Rule.leaves; rfl
      rw [e] at q
      refine ⟨_, rfl, t0, _, _, _, rfl, rfl, SqT.of et0, CF.atI_zero, rfl, _, rfl, ite2 (fun h1 => q _ (Same.refl _)) (fun h1 => ?_)⟩
      refine ⟨_, rfl, t0, _, _, _, rfl, rfl, SqT.of et0, CF.atI_zero, rfl, _, rfl, ite2 (fun h2 => q _ (Same.refl _)) (fun h2 => ?_)⟩
      rcases hk with z | z
      · exact absurd (decide_eq_true (by rw [z])) h1
      · exact absurd (decide_eq_true (by rw [z])) h2
    | false =>
      rw [hl, Bool.or_eq_false_iff, decide_eq_false_iff_not, decide_eq_false_iff_not] at hk
      obtain ⟨m, em, hm16, ec, eL, eD, hgs, h16, hmr⟩ := grp_facts hl hg
      obtain ⟨t, p, xs, ex, et, ep, hA⟩ := CF.Rule.grp hx hl
      cases ex
      have lx := DataAll.length hA
      rw [CF.Rule.datas_map, List.length_map] at lx
      refine ⟨_, rfl, t0, _, _, _, rfl, rfl, SqT.of et0, CF.atI_zero, rfl, _, rfl, ite2 (fun h1 => absurd (V.str.inj (of_decide_eq_true h1)) hk.1) (fun h1 => ?_)⟩
      refine ⟨_, rfl, t0, _, _, _, rfl, rfl, SqT.of et0, CF.atI_zero, rfl, _, rfl, ite2 (fun h2 => absurd (V.str.inj (of_decide_eq_true h2)) hk.2) (fun h2 => ?_)⟩
      refine ⟨_, rfl, _, rfl, t0, _, _, _, rfl, rfl, SqT.of et, atI_last r.head _, p, rfl, ⟨_, .inl ep⟩, fun c hc => ?_⟩
      refine L13.comp_els (Pd := fun _ v (n : Nat) => v = V.int (n : Nat)) (fun _ h => h) (D := fun _ => none) (fun _ _ e => nomatch e) hc (yields_list (xs := xs)) (fun σ => ∃ v, σ = [v]) (CJ.lens r.rules) (by unfold CJ.lens; rw [List.length_map, lx]) ⟨_, rfl⟩ (fun H' s' => .inl (Rd.same s' ep)) (by omega) ?_ ?_
      · rintro i y z σ D1 H1 R1 R0 hy hz ⟨v, rfl⟩ G k1
        obtain ⟨d, ed, hyd⟩ := DataAll.back hA hy
        rw [CF.Rule.datas_map, List.getElem?_map] at ed
        obtain ⟨r1, er1, rfl⟩ := Option.map_eq_some_iff.mp ed
        have hmem := List.mem_of_getElem? er1
        have hd1 := CF.Rule.depths_mem hmem
        have hl1 := CH.leaves_mem hmem
        rw [← eL] at hl1
        unfold CJ.lens at hz
        rw [List.getElem?_map, er1] at hz
        obtain rfl := Option.some.inj hz
        exact ⟨_, rfl, y, r1, rfl, DataAt.up hyd G.hh, by omega, CF.Rule.goods_iff.mp hgs r1 hmem, by omega, fun H2 s2 => k1 _ _ _ _ ⟨_, rfl⟩ (Gr.heap G.dh s2) rfl⟩
      intro D' H' zs G e _ els
      rw [CZ.els_int els] at e
      refine ⟨c, (CJ.lens r.rules).map (fun n : Nat => (n : Int)), rfl, SqL.of (by rw [List.map_map]; exact e), ?_⟩
      rw [CZ.sum_lens, ← eL]
      exact q H' G.hh
theorem ok_q17 {fd_q17 : FuncData} (T : Txt K mg a)
    (F_q17 : Fun K "_law_size" "_law_size" s_q17 a.law_size fd_q17) (b_q17 : Binds K fd_q17 ["_law_rule"] []) : FnOk P w K mg base CX0 9 a.law_size fd_q17 ["_law_rule"] (sp_q17 K 8) := by
  have h : ∀ n, FnOk P w K mg base CX0 (1 + n) a.law_size fd_q17 ["_law_rule"] (sp_q17 K n) := fun n => by
    induction n with
    | zero => exact ⟨fun vs H Q E h => (none_q17 h).elim, fun A outer s H args us vs Q E _ _ _ _ h => (none_q17 h).elim⟩
    | succ n ih => exact step_q17 T  ih F_q17 b_q17
  exact h 8
def sp_q13 (K : PySem.W.Frag) (n : Nat) : Sp := fun vs H Q _ => ∃ (x : V) (r : CF.Rule) (f : Nat) (p : Addr) (t : CZ.CK) (D : Hp), vs = [x, .int (f : Nat), .ref p] ∧ Same D H ∧ DataAt K D x r.data ∧ r.depth < n ∧ r.depth ≤ 7 ∧ r.Good ∧ r.leaves.length ≤ 16 ∧ f + r.leaves.length ≤ 1000 ∧ SqL K H p (nV t.1) ∧ t ∈ CZ.ck r f ∧ ∀ D' H' q, Gr D H D' H' → DataAt K D' (.ref q) t.2 → Q (.ref q) H'
theorem none_q13 {vs : List V} {H : Hp} {Q : VK} {E : XK} (h : sp_q13 K 0 vs H Q E) : False := by
  obtain ⟨x, r, f, p, t, D, _, _, _, h, _⟩ := h
  omega
theorem step_q13 {n : Nat} {fd_q13 fd_q17 : FuncData} (T : Txt K mg a)
    (G_q17 : FnOk P w K mg base CX0 9 a.law_size fd_q17 ["_law_rule"] (sp_q17 K 8)) (F_q17 : Fun K "_law_size" "_law_size" s_q17 a.law_size fd_q17) (b_q17 : Binds K fd_q17 ["_law_rule"] [])
    (G_q13 : FnOk P w K mg base CX0 (10 + n) a.law_key fd_q13 ["_law_rule", "_law_first", "_law_chosen"] (sp_q13 K n)) (F_q13 : Fun K "_law_key" "_law_key" s_q13 a.law_key fd_q13) (b_q13 : Binds K fd_q13 ["_law_rule", "_law_first", "_law_chosen"] []) : FnOk P w K mg base CX0 (10 + n + 1) a.law_key fd_q13 ["_law_rule", "_law_first", "_law_chosen"] (sp_q13 K (n + 1)) := by
  have F := F_q13
  refine F.ok sc_q13 (fun vs H Q E h => ?_) (fun cdv A outer s H vs Q E hr h => ?_)
  · obtain ⟨x, r, f, p, t, D, rfl, _⟩ := h
    rfl
  · obtain ⟨x, r, f, p, t, D, rfl, sD, hx, hd, hd7, hg, hm, hf, hp, ht, q⟩ := h
    refine ⟨_, (pss_cons (ps_if (PW.pt (pw_or (pt_cmpR op_eq (pe_ix ix_tup (pvA 0 (defScope s_q13) N_q13 rfl rfl) pe_int (fun _ _ => rfl)) pe_str (nomark _)) (pw_or1 (pt_cmpR op_eq (pe_ix ix_tup (pvA 0 (defScope s_q13) N_q13 rfl rfl) pe_int (fun _ _ => rfl)) pe_str (nomark _))))) (pss_one (ps_ret (pe_lst pa_nil))) pss_nil)
      (pss_cons (psN (i := 3) (sc := defScope s_q13) (M := N_q13) rfl rfl (by decide +kernel) (pe_lst pa_nil))
      (pss_cons (psN (i := 4) (sc := defScope s_q13) (M := N_q13) rfl rfl (by decide +kernel) (pe_lst pa_nil))
      (pss_cons (psC (i := 5) (sc := defScope s_q13) (M := N_q13) rfl rfl rfl (by decide +kernel) (pvA 1 (defScope s_q13) N_q13 rfl rfl))
      (pss_cons (ps_for PassesOwn.never rfl (pi_range1 (glR (sc := defScope s_q13) rfl (by decide +kernel)) T.z_range (pa_cons (pe_callBN (sc := defScope s_q13) call_len rfl (by decide +kernel) T.z_len bt_len (pa_cons (pe_ix ix_tup (pvA 0 (defScope s_q13) N_q13 rfl rfl) (pe_un un_neg pe_int) (fun _ _ => rfl)) pa_nil)) pa_nil)) (pgN (i := 6) (sc := defScope s_q13) (M := N_q13) rfl rfl (by decide +kernel)) (pss_cons (psN (i := 7) (sc := defScope s_q13) (M := N_q13) rfl rfl (by decide +kernel) (pe_ix ix_list (pe_ix ix_tup (pvA 0 (defScope s_q13) N_q13 rfl rfl) (pe_un un_neg pe_int) (fun _ _ => rfl)) (pvA 6 (defScope s_q13) N_q13 rfl rfl) (fun _ _ => rfl)))
      (pss_cons (psC (i := 8) (sc := defScope s_q13) (M := N_q13) rfl rfl rfl (by decide +kernel) (pe_callN (sc := defScope s_q13) G_q17 (hr.mono (by omega)) rfl (by decide +kernel) T.m_q17 F_q17.kp b_q17 .nil pass0 (pa_cons (pvA 7 (defScope s_q13) N_q13 rfl rfl) pa_nil)))
      (pss_cons (psN_comp (i := 9) (sc := defScope s_q13) (M := N_q13) rfl rfl rfl (by decide +kernel) (N := ["_law_leaf_here", "_law_number", "_law_size_here"]) (own := 1) (js := [5, 8]) (X := (cxOf CX0 P w K mg base N_q13 "_law_key" (defScope s_q13) a.law_key cdv A outer s H E).nox) (compOk (defScope s_q13) N_q13 rfl rfl (by decide +kernel)) (pi_list (pvA 2 (defScope s_q13) N_q13 rfl rfl)) (fun fp0 sx0 Hx0 => (pgN (i := 0) (sc := relabelS _ (defScope s_q13)) (M := ["_law_leaf_here", "_law_number", "_law_size_here"]) rfl rfl (by decide +kernel))) (fun fp0 sx0 Hx0 => (pifs_one (pt_chain op_le op_lt (pvN (i := 1) (sc := relabelS _ (defScope s_q13)) (M := ["_law_leaf_here", "_law_number", "_law_size_here"]) rfl rfl (by decide +kernel)) (pvN (i := 0) (sc := relabelS _ (defScope s_q13)) (M := ["_law_leaf_here", "_law_number", "_law_size_here"]) rfl rfl (by decide +kernel)) (pe_op op_add (pvN (i := 1) (sc := relabelS _ (defScope s_q13)) (M := ["_law_leaf_here", "_law_number", "_law_size_here"]) rfl rfl (by decide +kernel)) (pvN (i := 2) (sc := relabelS _ (defScope s_q13)) (M := ["_law_leaf_here", "_law_number", "_law_size_here"]) rfl rfl (by decide +kernel)))))) (fun fp0 sx0 Hx0 => (pvN (i := 0) (sc := relabelS _ (defScope s_q13)) (M := ["_law_leaf_here", "_law_number", "_law_size_here"]) rfl rfl (by decide +kernel))) rfl)
      (pss_cons (ps_if (PW.pt (pw_and (pt_cmpR op_eq (pe_ix ix_tup (pvA 0 (defScope s_q13) N_q13 rfl rfl) pe_int (fun _ _ => rfl)) pe_str (nomark _)) (pw_and1 (pt_cmpR (op_eqD (n := 60) (hu60 hr)) (pvA 9 (defScope s_q13) N_q13 rfl rfl) (pe_lst pa_nil) (nomark _))))) (pss_one (ps_ret pe_non)) pss_nil)
      (pss_cut (ps_if (pt_cmpR (op_neD (n := 60) (hu60 hr)) (pvA 9 (defScope s_q13) N_q13 rfl rfl) (pe_lst pa_nil) (nomark _)) (pss_cons (psN (i := 10) (sc := defScope s_q13) (M := N_q13) rfl rfl (by decide +kernel) (pe_callN (sc := defScope s_q13) G_q13 (hr.mono (by omega)) rfl (by decide +kernel) T.m_q13 F_q13.kp b_q13 .nil pass0 (pa_cons (pvA 7 (defScope s_q13) N_q13 rfl rfl) (pa_cons (pvA 5 (defScope s_q13) N_q13 rfl rfl) (pa_cons (pvA 9 (defScope s_q13) N_q13 rfl rfl) pa_nil)))))
      (pss_cons (ps_if (pt_cmpR op_isN (pvA 10 (defScope s_q13) N_q13 rfl rfl) pe_non (nomark _)) (pss_one (ps_ret pe_non)) pss_nil)
      (pss_cons (ps_expr (pe_bm PySem.F.plainAttrs_list PySem.F.slot_list_append PySem.F.type_list_append mt_append (pvA 4 (defScope s_q13) N_q13 rfl rfl) (pa_cons (pvA 6 (defScope s_q13) N_q13 rfl rfl) pa_nil)))
      (pss_one (ps_expr (pe_bm PySem.F.plainAttrs_list PySem.F.slot_list_append PySem.F.type_list_append mt_append (pvA 3 (defScope s_q13) N_q13 rfl rfl) (pa_cons (pvA 10 (defScope s_q13) N_q13 rfl rfl) pa_nil))))))) pss_nil)
      (pss_one (psC (i := 5) (sc := defScope s_q13) (M := N_q13) rfl rfl rfl (by decide +kernel) (pe_op op_add (pvA 5 (defScope s_q13) N_q13 rfl rfl) (pvA 8 (defScope s_q13) N_q13 rfl rfl))))))))))
      (pss_cons (ps_if (PW.pt (pw_and (pt_cmpR op_eq (pe_ix ix_tup (pvA 0 (defScope s_q13) N_q13 rfl rfl) pe_int (fun _ _ => rfl)) pe_str (nomark _)) (pw_and1 (pt_cmpR op_ne (pe_callBN (sc := defScope s_q13) call_len rfl (by decide +kernel) T.z_len bt_len (pa_cons (pvA 4 (defScope s_q13) N_q13 rfl rfl) pa_nil)) (pe_ix ix_tup (pvA 0 (defScope s_q13) N_q13 rfl rfl) pe_int (fun _ _ => rfl)) (nomark _))))) (pss_one (ps_ret pe_non)) pss_nil)
      (pss_one (ps_ret (pe_op op_cat (pe_lst (pa_cons (pvA 4 (defScope s_q13) N_q13 rfl rfl) pa_nil)) (pvA 3 (defScope s_q13) N_q13 rfl rfl)))))))))), ?_⟩
    have hs : sizeLine = 16777216 := sizeLine_eq
    obtain ⟨t0, ys, ex, et0⟩ := CF.Rule.tup hx
    subst ex
    have hk := CF.Rule.isLeaf_kind r
    cases hl : r.isLeaf with
    | true =>
      rw [hl, Bool.or_eq_true, decide_eq_true_eq, decide_eq_true_eq] at hk
      have e : t = ([f], .list []) := by
        cases r with
        | allr rs => cases hl
        | somr m rs => cases hl
        | leaf l => unfold CZ.ck at ht; exact List.mem_singleton.mp ht
      have fin : ∀ q0, H q0 = none → Q (.ref q0) (upd H q0 (.lst [])) := fun q0 hq0 => q _ _ q0 (Gr.lay sD hq0) (by rw [e]; exact DataAt.mkL (D := D) DataAll.nil upd_same (Same.upd0 (sD.free hq0)))
      refine ⟨_, rfl, t0, _, _, _, rfl, rfl, SqT.of (sD _ _ et0), CF.atI_zero, rfl, _, rfl, ite2 (fun h1 => ⟨by first | decide | (simp only [List.length_cons, List.length_nil, List.length_append, List.length_map]; decide), fin⟩) (fun h1 => ?_)⟩
      refine ⟨_, rfl, t0, _, _, _, rfl, rfl, SqT.of (sD _ _ et0), CF.atI_zero, rfl, _, rfl, ite2 (fun h2 => ⟨by first | decide | (simp only [List.length_cons, List.length_nil, List.length_append, List.length_map]; decide), fin⟩) (fun h2 => ?_)⟩
      rcases hk with z | z
      · exact absurd (decide_eq_true (by rw [z])) h1
      · exact absurd (decide_eq_true (by rw [z])) h2
    | false =>
      rw [hl, Bool.or_eq_false_iff, decide_eq_false_iff_not, decide_eq_false_iff_not] at hk
      obtain ⟨m, em, hm16, ec, eL, eD, hgs, h16, hmr⟩ := grp_facts hl hg
      obtain ⟨t1, px, xs, ex, et, ep, hA⟩ := CF.Rule.grp hx hl
      cases ex
      have lx := DataAll.length hA
      rw [CF.Rule.datas_map, List.length_map] at lx
      have hlen : t.1.length ≤ r.leaves.length := (CJ.chs_ok f hg).2 t.1 (by rw [← CZ.ck_fst]; exact List.mem_map.mpr ⟨t, ht, rfl⟩)
      obtain ⟨w, ps, hS, hall, hsome, hInc, et2⟩ := CZ.ck_grp hl ht
      have lpsw := CZ.sel_len _ _ _ _ _ hS
      have lw16 := CZ.sel_le _ _ _ _ _ hS
      have hrng := CZ.sel_rng r.rules 0 f w ps hgs hS
      rw [et2] at hp q hlen
      clear ht et2
      refine ⟨_, rfl, t0, _, _, _, rfl, rfl, SqT.of (sD _ _ et0), CF.atI_zero, rfl, _, rfl, ite2 (fun h1 => absurd (V.str.inj (of_decide_eq_true h1)) hk.1) (fun h1 => ?_)⟩
      refine ⟨_, rfl, t0, _, _, _, rfl, rfl, SqT.of (sD _ _ et0), CF.atI_zero, rfl, _, rfl, ite2 (fun h2 => absurd (V.str.inj (of_decide_eq_true h2)) hk.2) (fun h2 => ?_)⟩
      refine ⟨by first | decide | (simp only [List.length_cons, List.length_nil, List.length_append, List.length_map]; decide), fun pk hpk => ?_⟩
      have G1 : Gr D H D (upd H pk (.lst [])) := Gr.layH sD hpk
      have e1 : upd H pk (.lst []) pk = some (.lst []) := upd_same
      generalize upd H pk (.lst []) = H1 at G1 e1 ⊢
      refine ⟨by first | decide | (simp only [List.length_cons, List.length_nil, List.length_append, List.length_map]; decide), fun pp hpp => ?_⟩
      have G2 := G1.trans (Gr.layH (o := .lst []) G1.dh hpp)
      have e2 : upd H1 pp (.lst []) pp = some (.lst (nV [])) := upd_same
      have e12 := Same.upd0 (o := .lst []) hpp _ _ e1
      have npk : pk ≠ pp := ne_of_none e1 hpp
      have hpp0 : H pp = none := G1.hh.free hpp
      generalize upd H1 pp (.lst []) = H2 at G2 e2 e12 ⊢
      refine ⟨_, rfl, ?_⟩
      have etH : ∀ {H' : Hp}, Same D H' → H' t0 = some (.tup (r.head ++ [.ref px])) := fun s => s _ _ et
      refine ⟨_, rfl, _, rfl, t0, _, _, _, rfl, rfl, SqT.of (etH G2.dh), atI_last r.head _, .ref px, r.rules.length, rfl, .inl ⟨xs, .inl (Rd.same G2.dh ep), lx.symm⟩, _, rfl, by omega, by omega, ?_⟩
      rw [Int.toNat_natCast]
      refine for_range (fun i σ H' => ∃ D' w1 w2 ps1 ps2 kvs v6 v7 v8 v9 v10, σ = [some (.ref t0), some (.int (f : Nat)), some (.ref p), some (.ref pk), some (.ref pp), some (.int (f + (CF.Rule.leavess (r.rules.take i)).length : Nat)), v6, v7, v8, v9, v10] ∧ w = w1 ++ w2 ∧ ps = ps1 ++ ps2 ∧ CZ.Sel (r.rules.drop i) i (f + (CF.Rule.leavess (r.rules.take i)).length) w2 ps2 ∧ (r.kind = "all" → w2.length = r.rules.length - i) ∧ (∀ x ∈ (ps1.map Prod.fst).flatten, x < f + (CF.Rule.leavess (r.rules.take i)).length) ∧ Gr D H D' H' ∧ H' pp = some (.lst (nV w1)) ∧ H' pk = some (.lst kvs) ∧ D' pp = none ∧ D' pk = none ∧ DataAll K D' kvs (ps1.map Prod.snd) ∧ w1.length ≤ i) ⟨D, [], w, [], ps, [], _, _, _, _, _, rfl, rfl, rfl, hS, fun z => by rw [Nat.sub_zero]; exact hall z, (fun x hx => nomatch hx), G2, e2, e12, sD.free hpp0, sD.free hpk, DataAll.nil, Nat.le_refl _⟩ ?_ ?_
      · rintro i σ H3 hi ⟨D3, w1, w2, ps1, ps2, kvs, v6, v7, v8, v9, v10, rfl, ew, eps, hS3, hall3, hlow, G3, ep3, ek3, n3p, n3k, hK3, hw1⟩
        rw [show (0 : Int) + (i : Nat) = (i : Nat) by omega]
        have hir : i < r.rules.length := hi
        obtain ⟨r1, er1⟩ : ∃ r1, r.rules[i]? = some r1 := ⟨_, List.getElem?_eq_getElem hir⟩
        obtain ⟨y, hy, hyd⟩ := DataAll.at_ hA (show (CF.Rule.datas r.rules)[i]? = some r1.data by rw [CF.Rule.datas_map, List.getElem?_map, er1]; rfl)
        have hmem := List.mem_of_getElem? er1
        have hd1 := CF.Rule.depths_mem hmem
        have hl1 := CH.leaves_mem hmem
        rw [← eL] at hl1
        have hg1 := CF.Rule.goods_iff.mp hgs r1 hmem
        have hoff := CZ.off_succ er1
        have hdrop : r.rules.drop i = r1 :: r.rules.drop (i + 1) := by
          rw [List.drop_eq_getElem_cons hir]
          rw [List.getElem?_eq_getElem hir] at er1
          rw [Option.some.inj er1]
        have hofl : (CF.Rule.leavess (r.rules.take (i + 1))).length ≤ r.leaves.length := by
          have h5 : (CF.Rule.leavess r.rules).length = (CF.Rule.leavess (r.rules.take (i + 1))).length + (CF.Rule.leavess (r.rules.drop (i + 1))).length := by
            rw [← List.length_append, ← CF.Rule.leavess_app, List.take_append_drop]
          rw [← eL] at h5
          omega
        generalize hoo : f + (CF.Rule.leavess (r.rules.take i)).length = o at hS3 hlow ⊢
        refine ⟨_, rfl, _, rfl, t0, _, _, _, rfl, rfl, SqT.of (etH (G3.dd.trans G3.dh)), atI_last r.head _, _, rfl, px, _, _, _, rfl, rfl, .inl (Rd.same (G3.dd.trans G3.dh) ep), atI_nat hy, ?_⟩
        refine ⟨_, rfl, y, r1, rfl, DataAt.up hyd (G3.dd.trans G3.dh), by omega, hg1, by omega, fun H4 s4 => ?_⟩
        have G4 := G3.then s4
        generalize hss : r1.leaves.length = s at *
        have hpH : SqL K H4 p (nV (ps.map Prod.fst).flatten) := (G3.hh.trans s4).seq hp
        have lch : (ps.map Prod.fst).flatten.length ≤ r.leaves.length := hlen
        refine ⟨_, rfl, p, rfl, ⟨_, hpH⟩, fun pm hpm => ?_⟩
        refine comp_grow hpm (yields_list (xs := nV (ps.map Prod.fst).flatten)) (fun σ => ∃ v, σ = [v, some (.int (o : Nat)), some (.int (s : Nat))]) (CZ.inF o s) ⟨_, rfl⟩ (fun H' s' => s'.seq hpH) (by rw [nV_len]; omega) ?_ ?_
        · rintro x zs σ H5 R1 R0 hx5 ⟨v, rfl⟩ s5 k1 k0
          obtain ⟨nn, hnn, rfl⟩ := List.mem_map.mp hx5
          have ex5 : CZ.inF o s (V.int (nn : Nat)) = if (o : Int) ≤ (nn : Nat) ∧ ((nn : Nat) : Int) < (o : Int) + (s : Nat) then some (.int (nn : Nat)) else none := rfl
          refine ⟨_, rfl, _, rfl, _, _, rfl, rfl, _, rfl, ?_⟩
          by_cases c1 : ((o : Nat) : Int) ≤ (nn : Nat)
          · rw [decide_eq_true c1]
            refine iteT ⟨_, rfl, _, rfl, _, _, rfl, rfl, _, _, rfl, rfl, _, rfl, ?_⟩
            by_cases c2 : ((nn : Nat) : Int) < (o : Nat) + (s : Nat)
            · rw [show decide (((nn : Nat) : Int) < (o : Nat) + (s : Nat)) = true from decide_eq_true c2]
              exact iteT ⟨_, rfl, k1 _ _ _ ⟨_, rfl⟩ (ex5.trans (if_pos ⟨c1, c2⟩)) (Same.refl _)⟩
            · rw [show decide (((nn : Nat) : Int) < (o : Nat) + (s : Nat)) = false from decide_eq_false c2]
              exact iteF (k0 _ _ ⟨_, rfl⟩ (ex5.trans (if_neg fun z => c2 z.2)) (Same.refl _))
          · rw [decide_eq_false c1]
            exact iteF ⟨_, rfl, iteF (k0 _ _ ⟨_, rfl⟩ (ex5.trans (if_neg fun z => c1 z.1)) (Same.refl _))⟩
        intro H5 s5 e5
        rw [CZ.mine_eq] at e5
        have G5 := G4.then s5
        have hcase : ((ps.map Prod.fst).flatten.filter (fun x => decide (o ≤ x ∧ x < o + s)) = [] ∧ r.kind ≠ "all" ∧ CZ.Sel (r.rules.drop (i + 1)) (i + 1) (o + s) w2 ps2) ∨ (∃ w' t' ps', w2 = i :: w' ∧ ps2 = t' :: ps' ∧ t' ∈ CZ.ck r1 o ∧ (ps.map Prod.fst).flatten.filter (fun x => decide (o ≤ x ∧ x < o + s)) = t'.1 ∧ CZ.Sel (r.rules.drop (i + 1)) (i + 1) (o + s) w' ps') := by
          rw [hdrop] at hS3
          unfold CZ.Sel at hS3
          rw [hss] at hS3
          rw [eps, List.map_append, List.flatten_append]
          rcases hS3 with ⟨w', t', ps', ew2, eps2, ht', hS'⟩ | hS'
          · refine .inr ⟨w', t', ps', ew2, eps2, ht', ?_, hS'⟩
            have rt := CZ.ck_rng r1 o hg1 t' ht'
            rw [hss] at rt
            have hB := (CZ.sel_rng _ _ _ _ _ (CZ.goods_drop hgs (i + 1)) hS').2.1
            rw [eps2, List.map_cons, List.flatten_cons]
            exact CZ.filter_mid hlow (fun x hx => ⟨rt.lo x hx, rt.hi x hx⟩) hB
          · have hB := (CZ.sel_rng _ _ _ _ _ (CZ.goods_drop hgs (i + 1)) hS').2.1
            refine .inl ⟨?_, fun z => ?_, hS'⟩
            · have := CZ.filter_mid (t := []) hlow (fun x hx => nomatch hx) hB
              rwa [List.nil_append] at this
            · have h8 := hall3 z
              have h9 := CZ.sel_le _ _ _ _ _ hS'
              rw [List.length_drop] at h9
              omega
        generalize (ps.map Prod.fst).flatten.filter (fun x => decide (o ≤ x ∧ x < o + s)) = mine at e5 hcase
        have mne : ∀ t' : CZ.CK, t' ∈ CZ.ck r1 o → t'.1 ≠ [] := fun t' ht' => (CZ.ck_rng r1 o hg1 t' ht').some
        dsimp only
        refine L18.cut fun N hN => ?_
        have next : ∀ H6, Same H5 H6 → N [some (.ref t0), some (.int (f : Nat)), some (.ref p), some (.ref pk), some (.ref pp), some (.int (o : Nat)), some (.int (i : Nat)), some y, some (.int (s : Nat)), some (.ref pm), v10] H6 := fun H6 s6 => hN _ _ (by
          have G6 := G5.then s6
          have e6 := s6 _ _ e5
          have ep6 := (s4.trans (s5.trans s6)) _ _ ep3
          have ek6 := (s4.trans (s5.trans s6)) _ _ ek3
          refine ⟨fun σ' H' => ∃ D' w1 w2 ps1 ps2 kvs v10, σ' = [some (.ref t0), some (.int (f : Nat)), some (.ref p), some (.ref pk), some (.ref pp), some (.int (o : Nat)), some (.int (i : Nat)), some y, some (.int (s : Nat)), some (.ref pm), v10] ∧ w = w1 ++ w2 ∧ ps = ps1 ++ ps2 ∧ CZ.Sel (r.rules.drop (i + 1)) (i + 1) (o + s) w2 ps2 ∧ (r.kind = "all" → w2.length = r.rules.length - (i + 1)) ∧ (∀ x ∈ (ps1.map Prod.fst).flatten, x < o + s) ∧ Gr D H D' H' ∧ H' pp = some (.lst (nV w1)) ∧ H' pk = some (.lst kvs) ∧ D' pp = none ∧ D' pk = none ∧ DataAll K D' kvs (ps1.map Prod.snd) ∧ w1.length ≤ i + 1, ?_, ?_⟩
          · refine ⟨_, rfl, by first | decide | (simp only [List.length_cons, List.length_nil, List.length_append, List.length_map]; decide), fun q0 hq0 => ?_⟩
            have s7 := Same.upd0 (o := .lst []) hq0
            have f7 : upd H6 q0 (.lst []) q0 = some (.lst (nV [])) := upd_same
            generalize upd H6 q0 (.lst []) = H7 at s7 f7 ⊢
            refine ⟨.list (nD mine), .list (nD []), nat_list (s7 _ _ e6), nat_list f7, nat_lay' _, nat_lay' _, nat_depth _ _, _, rfl, ?_⟩
            rcases hcase with ⟨rfl, hka, hS'⟩ | ⟨w', t', ps', rfl, rfl, ht', rfl, hS'⟩
            · rw [show (!PyData.eqv (.list (nD [])) (.list (nD []))) = false from rfl]
              exact iteF ⟨D3, w1, w2, ps1, ps2, kvs, _, rfl, ew, eps, hS', fun z => absurd z hka, fun x hx => by have := hlow x hx; omega, G6.then s7, s7 _ _ ep6, s7 _ _ ek6, n3p, n3k, hK3, by omega⟩
            · have hb : (!PyData.eqv (.list (nD t'.1)) (.list (nD []))) = true := by
                cases hc : t'.1 with
                | nil => exact absurd hc (mne t' ht')
                | cons x r => rfl
              rw [hb]
              have G7 := G6.then s7
              refine iteT ⟨_, rfl, _, rfl, _, rfl, y, r1, o, pm, t', D3, rfl, G7.dh, DataAt.up hyd G3.dd, by omega, by omega, hg1, by omega, by omega, SqL.of (s7 _ _ e6), ht', fun D8 H8 q8 G8 d8 => ?_⟩
              have G08 := G7.trans G8
              have ep8 := G8.hh _ _ (s7 _ _ ep6)
              have ek8 := G8.hh _ _ (s7 _ _ ek6)
              have n8p : D8 pp = none := G8.nw _ _ (s7 _ _ ep6) n3p
              have n8k : D8 pk = none := G8.nw _ _ (s7 _ _ ek6) n3k
              refine ⟨_, rfl, rfl, _, rfl, iteF ?_⟩
              have lkv := DataAll.length hK3
              rw [List.length_map] at lkv
              have lps := CZ.sel_len _ _ _ _ _ hS'
              refine ⟨_, rfl, .inl ⟨rfl, _, SqL.of ep8⟩, _, rfl, pp, _, _, rfl, rfl, ep8, by rw [nV_len]; omega, ?_⟩
              rw [nV_snoc]
              have G9 := Gr.set (o := .lst (nV (w1 ++ [i]))) G08 hpp0 n8p
              have ek9 : upd H8 pp (.lst (nV (w1 ++ [i]))) pk = some (.lst kvs) := by rw [upd_ne npk]; exact ek8
              have ep9 : upd H8 pp (.lst (nV (w1 ++ [i]))) pp = some (.lst (nV (w1 ++ [i]))) := upd_same
              generalize upd H8 pp (.lst (nV (w1 ++ [i]))) = H9 at G9 ek9 ep9 ⊢
              refine ⟨_, rfl, .inl ⟨rfl, _, SqL.of ek9⟩, _, rfl, pk, _, _, rfl, rfl, ek9, ?_, ?_⟩
              · have h6 := congrArg List.length eps
                rw [List.length_append] at h6
                omega
              refine ⟨D8, w1 ++ [i], w', ps1 ++ [t'], ps', kvs ++ [.ref q8], _, rfl, by rw [ew, List.append_assoc]; rfl, by rw [eps, List.append_assoc]; rfl, hS', fun z => ?_, fun x hx => ?_, Gr.set G9 hpk n8k, by rw [upd_ne npk.symm]; exact ep9, upd_same, n8p, n8k, by rw [List.map_append]; exact DataAll.snoc d8 (DataAll.up hK3 G8.dd), by rw [List.length_append]; show w1.length + 1 ≤ i + 1; omega⟩
              · have := hall3 z
                rw [List.length_cons] at this
                omega
              · rw [List.map_append, List.flatten_append] at hx
                rcases List.mem_append.mp hx with z | z
                · have := hlow x z
                  omega
                · have h7 := (CZ.ck_rng r1 o hg1 t' ht').hi x (by simpa using z)
                  rw [hss] at h7
                  exact h7
          · rintro σ' H7 ⟨D7, w1', w2', ps1', ps2', kvs', v10', rfl, ew', eps', hS7, hall7, hlow7, G7, ep7, ek7, n7p, n7k, hK7, hw7⟩
            have eo : o + s = f + (CF.Rule.leavess (r.rules.take (i + 1))).length := by rw [hoff, ← hoo, ← hss]; omega
            refine ⟨_, rfl, _, rfl, _, _, rfl, rfl, D7, w1', w2', ps1', ps2', kvs', some (.int (i : Nat)), some y, some (.int (s : Nat)), some (.ref pm), v10', ?_, ew', eps', by rw [← eo]; exact hS7, hall7, by rw [← eo]; exact hlow7, G7, ep7, ek7, n7p, n7k, hK7, hw7⟩
            rw [← eo]
            rfl)
        refine ⟨_, rfl, t0, _, _, _, rfl, rfl, SqT.of ((G5.dd.trans G5.dh) _ _ et0), CF.atI_zero, rfl, _, rfl, ite2 (fun hA1 => ?_) (fun _ => iteF (next H5 (Same.refl _)))⟩
        refine ⟨_, rfl, by first | decide | (simp only [List.length_cons, List.length_nil, List.length_append, List.length_map]; decide), fun q0 hq0 => ?_⟩
        have s7 := Same.upd0 (o := .lst []) hq0
        have f7 : upd H5 q0 (.lst []) q0 = some (.lst (nV [])) := upd_same
        generalize upd H5 q0 (.lst []) = H7 at s7 f7 ⊢
        refine ⟨.list (nD mine), .list (nD []), nat_list (s7 _ _ e5), nat_list f7, nat_lay' _, nat_lay' _, nat_depth _ _, _, rfl, ?_⟩
        have hb : PyData.eqv (.list (nD mine)) (.list (nD [])) = false := by
          rcases hcase with ⟨_, hka, _⟩ | ⟨w', t', ps', _, _, ht', em', _⟩
          · exact absurd (V.str.inj (of_decide_eq_true hA1)) hka
          · cases hc : mine with
            | nil => exact absurd (em'.symm.trans hc) (mne t' ht')
            | cons x r => rfl
        rw [hb]
        exact iteF (next H7 s7)
      rintro σ H3 ⟨D3, w1, w2, ps1, ps2, kvs, v6, v7, v8, v9, v10, rfl, ew, eps, hS3, hall3, hlow, G3, ep3, ek3, n3p, n3k, hK3, hw1⟩
      rw [List.drop_length] at hS3
      unfold CZ.Sel at hS3
      obtain ⟨rfl, rfl⟩ := hS3
      rw [List.append_nil] at ew eps
      subst ew eps
      dsimp only
      refine L18.cut fun N hN => ?_
      have next : N [some (.ref t0), some (.int (f : Nat)), some (.ref p), some (.ref pk), some (.ref pp), some (.int (f + (CF.Rule.leavess (r.rules.take r.rules.length)).length : Nat)), v6, v7, v8, v9, v10] H3 := hN _ _ (by
        have lkv := DataAll.length hK3
        rw [List.length_map] at lkv
        refine ⟨_, rfl, by first | decide | (simp only [List.length_cons, List.length_nil, List.length_append, List.length_map]; decide), fun q1 hq1 => ⟨_, rfl, q1, pk, _, _, rfl, rfl, upd_same, (Same.upd0 hq1) _ _ ek3, by show 1 + kvs.length ≤ sizeLine; omega, fun q2 hq2 => ?_⟩⟩
        have G4 := (G3.fix hpp0 n3p ep3).then (Same.upd0 (o := .lst [.ref pp]) hq1)
        have d4 : DataAt K (upd D3 pp (.lst (nV w))) (.ref pp) (.list (nD w)) := nat_list upd_same
        have k4 := DataAll.up hK3 (Same.upd0 (o := .lst (nV w)) n3p)
        generalize upd D3 pp (.lst (nV w)) = D4 at G4 d4 k4
        generalize upd H3 q1 (.lst [.ref pp]) = H4 at G4 hq2 ⊢
        exact q _ _ q2 (G4.trans (Gr.lay G4.dh hq2)) (DataAt.mkL (DataAll.cons d4 k4) upd_same (Same.upd0 (free_of G4.dh hq2))))
      refine ⟨_, rfl, t0, _, _, _, rfl, rfl, SqT.of ((G3.dd.trans G3.dh) _ _ et0), CF.atI_zero, rfl, _, rfl, ite2 (fun hA1 => ?_) (fun _ => iteF next)⟩
      have hks := V.str.inj (of_decide_eq_true hA1)
      cases r with
      | leaf l => cases hl
      | allr rs => exact absurd hks.symm CF.kinds_ne.2.2.2.2.2
      | somr k rs =>
        have hw := hsome k rs rfl
        have hk1 : 1 ≤ k := hg.1.1
        refine ⟨_, rfl, .ref pp, w.length, rfl, .inl ⟨_, SqL.of ep3, by rw [nV_len]⟩, _, rfl, t0, _, _, _, rfl, rfl, SqT.of (etH (G3.dd.trans G3.dh)), rfl, rfl, _, rfl, ?_⟩
        rw [show (!decide (V.int ((w.length : Nat) : Int) = V.int k)) = false by rw [decide_eq_true (by congr 1; omega)]; rfl]
        exact iteF next
theorem ok_q13 {fd_q13 fd_q17 : FuncData} (T : Txt K mg a)
    (G_q17 : FnOk P w K mg base CX0 9 a.law_size fd_q17 ["_law_rule"] (sp_q17 K 8)) (F_q17 : Fun K "_law_size" "_law_size" s_q17 a.law_size fd_q17) (b_q17 : Binds K fd_q17 ["_law_rule"] [])
    (F_q13 : Fun K "_law_key" "_law_key" s_q13 a.law_key fd_q13) (b_q13 : Binds K fd_q13 ["_law_rule", "_law_first", "_law_chosen"] []) : FnOk P w K mg base CX0 18 a.law_key fd_q13 ["_law_rule", "_law_first", "_law_chosen"] (sp_q13 K 8) := by
  have h : ∀ n, FnOk P w K mg base CX0 (10 + n) a.law_key fd_q13 ["_law_rule", "_law_first", "_law_chosen"] (sp_q13 K n) := fun n => by
    induction n with
    | zero => exact ⟨fun vs H Q E h => (none_q13 h).elim, fun A outer s H args us vs Q E _ _ _ _ h => (none_q13 h).elim⟩
    | succ n ih => exact step_q13 T G_q17 F_q17 b_q17 ih F_q13 b_q13
  exact h 8
def sp_q16 (K : PySem.W.Frag) : Sp := fun vs H Q _ => ∃ (p : Addr) (c : List Nat) (n : Nat), vs = [.ref p, .int (n : Nat)] ∧ H p = some (.lst (nV c)) ∧ c.length ≤ 1000 ∧ CZ.Rng c 0 n ∧ ∀ H', Same H H' → Q (.bl true) H'
theorem ok_q16 {f : Addr} {fd : FuncData} (F : Fun K "_law_rising" "_law_rising" s_q16 f fd) (T : Txt K mg a) : FnOk P w K mg base CX0 1 f fd ["_law_choice", "_law_size_here"] (sp_q16 K) := by
  refine F.ok sc_q16 (fun vs H Q E h => ?_) (fun cdv A outer s H vs Q E hr h => ?_)
  · obtain ⟨p, c, n, rfl, _⟩ := h
    rfl
  · obtain ⟨p, c, n, rfl, hp, hl, hR, q⟩ := h
    refine ⟨_, (pss_cons (ps_if (pt_not (pt_val (pe_callBN (sc := defScope s_q16) call_isi rfl (by decide +kernel) T.z_isinstance bt_isinstance (pa_cons (pvA 0 (defScope s_q16) N_q16 rfl rfl) (pa_cons (pe_bltN (v := V.ty "list") (sc := defScope s_q16) rfl (by decide +kernel) T.z_list bt_list rfl) pa_nil))))) (pss_one (ps_ret pe_bl)) pss_nil)
      (pss_cons (ps_for PassesOwn.never rfl (pi_range1 (glR (sc := defScope s_q16) rfl (by decide +kernel)) T.z_range (pa_cons (pe_callBN (sc := defScope s_q16) call_len rfl (by decide +kernel) T.z_len bt_len (pa_cons (pvA 0 (defScope s_q16) N_q16 rfl rfl) pa_nil)) pa_nil)) (pgN (i := 2) (sc := defScope s_q16) (M := N_q16) rfl rfl (by decide +kernel)) (pss_cons (ps_if (PW.pt (pw_or (pt_not (pt_val (pe_callBN (sc := defScope s_q16) call_isi rfl (by decide +kernel) T.z_isinstance bt_isinstance (pa_cons (pe_ix ix_list (pvA 0 (defScope s_q16) N_q16 rfl rfl) (pvA 2 (defScope s_q16) N_q16 rfl rfl) (fun _ _ => rfl)) (pa_cons (pe_bltN (v := V.ty "int") (sc := defScope s_q16) rfl (by decide +kernel) T.z_int bt_int rfl) pa_nil))))) (pw_or (pt_val (pe_callBN (sc := defScope s_q16) call_isi rfl (by decide +kernel) T.z_isinstance bt_isinstance (pa_cons (pe_ix ix_list (pvA 0 (defScope s_q16) N_q16 rfl rfl) (pvA 2 (defScope s_q16) N_q16 rfl rfl) (fun _ _ => rfl)) (pa_cons (pe_bltN (v := V.ty "bool") (sc := defScope s_q16) rfl (by decide +kernel) T.z_bool bt_bool rfl) pa_nil)))) (pw_or1 (pt_not (pt_chain op_le op_lt pe_int (pe_ix ix_list (pvA 0 (defScope s_q16) N_q16 rfl rfl) (pvA 2 (defScope s_q16) N_q16 rfl rfl) (fun _ _ => rfl)) (pvA 1 (defScope s_q16) N_q16 rfl rfl))))))) (pss_one (ps_ret pe_bl)) pss_nil)
      (pss_one (ps_if (PW.pt (pw_and (pt_cmpR op_gt (pvA 2 (defScope s_q16) N_q16 rfl rfl) pe_int (nomark _)) (pw_and1 (pt_cmpR op_ge (pe_ix ix_list (pvA 0 (defScope s_q16) N_q16 rfl rfl) (pe_op op_sub (pvA 2 (defScope s_q16) N_q16 rfl rfl) pe_int) (fun _ _ => rfl)) (pe_ix ix_list (pvA 0 (defScope s_q16) N_q16 rfl rfl) (pvA 2 (defScope s_q16) N_q16 rfl rfl) (fun _ _ => rfl)) (nomark _))))) (pss_one (ps_ret pe_bl)) pss_nil))))
      (pss_one (ps_ret (pe_cmpR (op_neD (n := 60) (hu60 hr)) (pvA 0 (defScope s_q16) N_q16 rfl rfl) (pe_lst pa_nil) (nomark _)))))), ?_⟩
    have hs : sizeLine = 16777216 := sizeLine_eq
    refine ⟨_, rfl, _, "list", "list", true, rfl, .inl ⟨rfl, .inl ⟨_, hp⟩⟩, kit_list_list _, _, rfl, iteF ?_⟩
    refine ⟨_, rfl, .ref p, c.length, rfl, .inl ⟨_, SqL.of hp, by rw [nV_len]⟩, _, rfl, by omega, by omega, ?_⟩
    rw [Int.toNat_natCast]
    refine for_range (fun i σ H' => (∃ v, σ = [some (.ref p), some (.int (n : Nat)), v]) ∧ H' = H) ⟨⟨_, rfl⟩, rfl⟩ ?_ ?_
    · rintro i σ H' hi ⟨⟨v, rfl⟩, rfl⟩
      rw [show (0 : Int) + (i : Nat) = (i : Nat) by omega]
      have hin := hR.hi _ (List.mem_of_getElem? (getD_at hi))
      refine ⟨_, rfl, _, rfl, p, _, _, _, rfl, rfl, SqL.of hp, nV_at hi, _, "int", "int", true, rfl, rfl, kit_int_int _, _, rfl, iteF ?_⟩
      refine ⟨_, rfl, _, rfl, p, _, _, _, rfl, rfl, SqL.of hp, nV_at hi, _, "int", "bool", false, rfl, rfl, kit_int_bool _, _, rfl, iteF ?_⟩
      refine ⟨_, rfl, _, rfl, p, _, _, _, rfl, rfl, SqL.of hp, nV_at hi, _, _, rfl, rfl, _, rfl, ?_⟩
      rw [show decide ((0 : Int) ≤ (c.getD i 0 : Nat)) = true from decide_eq_true (by omega)]
      refine iteT ⟨_, rfl, _, _, rfl, rfl, _, rfl, ?_⟩
      rw [show decide (((c.getD i 0 : Nat) : Int) < (n : Nat)) = true from decide_eq_true (by omega)]
      refine iteF ?_
      refine ⟨_, rfl, _, _, rfl, rfl, _, rfl, ite2 (fun h1 => ?_) (fun h1 => iteF ⟨⟨_, rfl⟩, rfl⟩)⟩
      have h1' : 0 < i := by have : (0 : Int) < (i : Nat) := of_decide_eq_true h1; omega
      refine ⟨_, rfl, _, rfl, _, _, rfl, rfl, p, _, _, _, rfl, rfl, SqL.of hp, (by rw [show ((i : Nat) : Int) - 1 = ((i - 1 : Nat) : Int) by omega]; exact nV_at (show i - 1 < c.length by omega)), _, rfl, _, rfl, p, _, _, _, rfl, rfl, SqL.of hp, nV_at hi, _, _, rfl, rfl, _, rfl, ?_⟩
      have hlt : c.getD (i - 1) 0 < c.getD i 0 := by
        have e1 := getD_at (show i - 1 < c.length by omega)
        have e2 := getD_at hi
        rw [List.getElem?_eq_getElem (by omega)] at e1 e2
        rw [← Option.some.inj e1, ← Option.some.inj e2]
        exact List.pairwise_iff_getElem.mp hR.up (i - 1) i (by omega) hi (by omega)
      rw [show decide (((c.getD i 0 : Nat) : Int) ≤ (c.getD (i - 1) 0 : Nat)) = false from decide_eq_false (by omega)]
      exact iteF ⟨⟨_, rfl⟩, rfl⟩
    rintro σ H' ⟨⟨v, rfl⟩, rfl⟩
    refine ⟨_, rfl, by first | decide | (simp only [List.length_cons, List.length_nil, List.length_append, List.length_map]; decide), fun q0 hq0 => ?_⟩
    have s0 := Same.upd0 (o := .lst []) hq0
    have f0 : upd H' q0 (.lst []) q0 = some (.lst (nV [])) := upd_same
    generalize upd H' q0 (.lst []) = H0 at s0 f0 ⊢
    refine ⟨.list (nD c), .list (nD []), nat_list (s0 _ _ hp), nat_list f0, nat_lay' _, nat_lay' _, nat_depth _ _, ?_⟩
    cases hc : c with
    | nil => exact absurd hc hR.some
    | cons x r => exact q H0 s0
def sp_q9 (K : PySem.W.Frag) : Sp := fun vs H Q _ => ∃ (x : V) (c : CF.Course) (D : Hp), vs = [x] ∧ Same D H ∧ DataAt K D x c.data ∧ c.rule.depth ≤ 7 ∧ c.rule.Good ∧ c.rule.leaves.length ≤ 16 ∧
  (CH.Rule.count c.rule ≤ 32 → Told D H (CJ.chs c.rule 0) Q) ∧ (32 < CH.Rule.count c.rule → ∀ H', Same H H' → Q (.int 32) H')
theorem ok_q9 {f : Addr} {fd fd_q1 : FuncData} (F : Fun K "_law_asked" "_law_asked" s_q9 f fd) (T : Txt K mg a)
    (G_q1 : FnOk P w K mg base (CXE P w) 36 a.choices fd_q1 ["course"] (sp_q1 K)) (F_q1 : Fun K "choices" "choices" s_q1 a.choices fd_q1) (b_q1 : Binds K fd_q1 ["course"] []) : FnOk P w K mg base CX0 37 f fd ["_law_course"] (sp_q9 K) := by
  refine F.ok sc_q9 (fun vs H Q E h => ?_) (fun cdv A outer s H vs Q E hr h => ?_)
  · obtain ⟨x, c, D, rfl, _⟩ := h
    rfl
  · obtain ⟨x, c, D, rfl, sD, hx, hd, hg, hl, q, qe⟩ := h
    refine ⟨_, (pss_cons (psN (i := 1) (sc := defScope s_q9) (M := N_q9) rfl rfl (by decide +kernel) pe_non)
      (pss_cons (ps_tryA (i := 1) (j := 2) G_q1 (hr.mono (by decide)) (sc := defScope s_q9) rfl (by decide +kernel) T.m_q1 F_q1.kp b_q1 (fun E' => (pa_cons (pvA 0 (defScope s_q9) N_q9 rfl rfl) pa_nil)) (fun E' => (pgN (i := 1) (sc := defScope s_q9) (M := N_q9) rfl rfl (by decide +kernel))) ⟨rfl, rfl⟩ (by decide +kernel) T.m_TooMany sc_q9.nd rfl rfl (fun e => (pss_one (psN (i := 1) (sc := defScope s_q9) (M := N_q9) rfl rfl (by decide +kernel) (pe_xget (ns := NS) (by decide) (by decide) fr_most (pvA 2 (defScope s_q9) N_q9 rfl rfl) rfl)))))
      (pss_one (ps_ret (pvA 1 (defScope s_q9) N_q9 rfl rfl))))), ?_⟩
    have hs : sizeLine = 16777216 := sizeLine_eq
    refine ⟨_, rfl, fun cv dx H' => ∃ C d, cv = .ref C ∧ dx = some d ∧ IsMany K C ∧ Same H H' ∧ 32 < CH.Rule.count c.rule ∧ H' d = some (.xd [("most", .int 32)]), ⟨x, c, D, rfl, sD, hx, hd, hg, hl, (fun hz D' H' p zs G hp ep np hA => ⟨_, rfl, q hz D' H' p zs G hp ep np hA⟩), fun hz C d H' h1 h2 h3 => ⟨C, d, rfl, rfl, h1, h2, hz, h3⟩⟩, fun e1 C1 dx1 H1 ⟨C', d1, z1, z2, z3, s1, z4, z5⟩ ex1 => ?_⟩
    cases z1
    subst z2
    have eC : C1 = a.C_TooMany := by
      have z := T.n_TooMany
      rw [z3.1] at z
      exact Value.ref.inj (Option.some.inj (Option.some.inj z))
    subst eC
    refine ⟨T.exm_TooMany_TooMany, _, rfl, e1, a.C_TooMany, _, d1, false, _, .int 32, rfl, ex1, T.x_TooMany.ex, z5, rfl, ?_⟩
    exact ⟨_, rfl, qe z4 _ s1⟩
def sp_q8 (K : PySem.W.Frag) : Sp := fun vs H Q _ => ∃ (a : Addr) (ns : List Int), vs = [.ref a] ∧ SqL K H a (ns.map V.int) ∧ ns.length ≤ 63 ∧ ∀ H', Q (.bl true) H'
theorem ok_q8 {f : Addr} {fd fd_q9 fd_q10 fd_q11 fd_q13 fd_q16 fd_q17 fd_q18 fd_q1 : FuncData} (F : Fun K "law" "law" s_q8 f fd) (T : Txt K mg a)
    (G_q9 : FnOk P w K mg base CX0 37 a.law_asked fd_q9 ["_law_course"] (sp_q9 K)) (F_q9 : Fun K "_law_asked" "_law_asked" s_q9 a.law_asked fd_q9) (b_q9 : Binds K fd_q9 ["_law_course"] [])
    (G_q10 : FnOk P w K mg base CX0 1 a.law_cell_at fd_q10 ["_law_script", "_law_k"] (sp_q10 K)) (F_q10 : Fun K "_law_cell_at" "_law_cell_at" s_q10 a.law_cell_at fd_q10) (b_q10 : Binds K fd_q10 ["_law_script", "_law_k"] [])
    (G_q11 : FnOk P w K mg base CX0 9 a.law_count fd_q11 ["_law_rule"] (sp_q11 K 8)) (F_q11 : Fun K "_law_count" "_law_count" s_q11 a.law_count fd_q11) (b_q11 : Binds K fd_q11 ["_law_rule"] [])
    (G_q13 : FnOk P w K mg base CX0 18 a.law_key fd_q13 ["_law_rule", "_law_first", "_law_chosen"] (sp_q13 K 8)) (F_q13 : Fun K "_law_key" "_law_key" s_q13 a.law_key fd_q13) (b_q13 : Binds K fd_q13 ["_law_rule", "_law_first", "_law_chosen"] [])
    (G_q16 : FnOk P w K mg base CX0 1 a.law_rising fd_q16 ["_law_choice", "_law_size_here"] (sp_q16 K)) (F_q16 : Fun K "_law_rising" "_law_rising" s_q16 a.law_rising fd_q16) (b_q16 : Binds K fd_q16 ["_law_choice", "_law_size_here"] [])
    (G_q17 : FnOk P w K mg base CX0 9 a.law_size fd_q17 ["_law_rule"] (sp_q17 K 8)) (F_q17 : Fun K "_law_size" "_law_size" s_q17 a.law_size fd_q17) (b_q17 : Binds K fd_q17 ["_law_rule"] [])
    (G_q18 : FnOk P w K mg base CX0 3 a.law_tree fd_q18 ["_law_cells", "_law_last"] (sp_q18 K)) (F_q18 : Fun K "_law_tree" "_law_tree" s_q18 a.law_tree fd_q18) (b_q18 : Binds K fd_q18 ["_law_cells", "_law_last"] [])
    (G_q1 : FnOk P w K mg base (CXE P w) 36 a.choices fd_q1 ["course"] (sp_q1 K)) (F_q1 : Fun K "choices" "choices" s_q1 a.choices fd_q1) (b_q1 : Binds K fd_q1 ["course"] []) : FnOk P w K mg base CX0 38 f fd ["_law_script"] (sp_q8 K) := by
  refine F.ok sc_q8 (fun vs H Q E h => ?_) (fun cdv A outer s H vs Q E hr h => ?_)
  · obtain ⟨ad, ns, rfl, _⟩ := h
    rfl
  · obtain ⟨ad, ns, rfl, hS, hl, q⟩ := h
    refine ⟨_, (pss_cons (psN (i := 1) (sc := defScope s_q8) (M := N_q8) rfl rfl (by decide +kernel) (pe_callN (sc := defScope s_q8) G_q18 (hr.mono (by decide)) rfl (by decide +kernel) T.m_q18 F_q18.kp b_q18 .nil pass0 (pa_cons (pe_slice sl_list (pvA 0 (defScope s_q8) N_q8 rfl rfl) (po_some pe_int) po_none) (pa_cons (pe_callN (sc := defScope s_q8) G_q10 (hr.mono (by decide)) rfl (by decide +kernel) T.m_q10 F_q10.kp b_q10 .nil pass0 (pa_cons (pvA 0 (defScope s_q8) N_q8 rfl rfl) (pa_cons pe_int pa_nil))) pa_nil))))
      (pss_cons (psN (i := 2) (sc := defScope s_q8) (M := N_q8) rfl rfl (by decide +kernel) (pe_callN (sc := defScope s_q8) G_q9 (hr.mono (by decide)) rfl (by decide +kernel) T.m_q9 F_q9.kp b_q9 .nil pass0 (pa_cons (pe_tup (pa_cons (pe_lst pa_nil) (pa_cons (pvA 1 (defScope s_q8) N_q8 rfl rfl) pa_nil))) pa_nil)))
      (pss_cons (psN (i := 3) (sc := defScope s_q8) (M := N_q8) rfl rfl (by decide +kernel) (pe_callN (sc := defScope s_q8) G_q11 (hr.mono (by decide)) rfl (by decide +kernel) T.m_q11 F_q11.kp b_q11 .nil pass0 (pa_cons (pvA 1 (defScope s_q8) N_q8 rfl rfl) pa_nil)))
      (pss_cons (ps_if (pt_cmpR op_gt (pvA 3 (defScope s_q8) N_q8 rfl rfl) pe_int (nomark _)) (pss_one (ps_ret (pe_and (pe_callBN (sc := defScope s_q8) call_isi rfl (by decide +kernel) T.z_isinstance bt_isinstance (pa_cons (pvA 2 (defScope s_q8) N_q8 rfl rfl) (pa_cons (pe_bltN (v := V.ty "int") (sc := defScope s_q8) rfl (by decide +kernel) T.z_int bt_int rfl) pa_nil))) (pe_one (pe_cmpR (op_eqD (n := 60) (hu60 hr)) (pvA 2 (defScope s_q8) N_q8 rfl rfl) pe_int (nomark _)))))) pss_nil)
      (pss_cons (ps_if (PW.pt (pw_or (pt_not (pt_val (pe_callBN (sc := defScope s_q8) call_isi rfl (by decide +kernel) T.z_isinstance bt_isinstance (pa_cons (pvA 2 (defScope s_q8) N_q8 rfl rfl) (pa_cons (pe_bltN (v := V.ty "list") (sc := defScope s_q8) rfl (by decide +kernel) T.z_list bt_list rfl) pa_nil))))) (pw_or1 (pt_cmpR op_ne (pe_callBN (sc := defScope s_q8) call_len rfl (by decide +kernel) T.z_len bt_len (pa_cons (pvA 2 (defScope s_q8) N_q8 rfl rfl) pa_nil)) (pvA 3 (defScope s_q8) N_q8 rfl rfl) (nomark _))))) (pss_one (ps_ret pe_bl)) pss_nil)
      (pss_cons (psN (i := 4) (sc := defScope s_q8) (M := N_q8) rfl rfl (by decide +kernel) pe_non)
      (pss_cons (ps_for PassesOwn.never rfl (pi_list (pvA 2 (defScope s_q8) N_q8 rfl rfl)) (pgN (i := 5) (sc := defScope s_q8) (M := N_q8) rfl rfl (by decide +kernel)) (pss_cons (ps_if (pt_not (pt_val (pe_callN (sc := defScope s_q8) G_q16 (hr.mono (by decide)) rfl (by decide +kernel) T.m_q16 F_q16.kp b_q16 .nil pass0 (pa_cons (pvA 5 (defScope s_q8) N_q8 rfl rfl) (pa_cons (pe_callN (sc := defScope s_q8) G_q17 (hr.mono (by decide)) rfl (by decide +kernel) T.m_q17 F_q17.kp b_q17 .nil pass0 (pa_cons (pvA 1 (defScope s_q8) N_q8 rfl rfl) pa_nil)) pa_nil))))) (pss_one (ps_ret pe_bl)) pss_nil)
      (pss_cons (psN (i := 6) (sc := defScope s_q8) (M := N_q8) rfl rfl (by decide +kernel) (pe_callN (sc := defScope s_q8) G_q13 (hr.mono (by decide)) rfl (by decide +kernel) T.m_q13 F_q13.kp b_q13 .nil pass0 (pa_cons (pvA 1 (defScope s_q8) N_q8 rfl rfl) (pa_cons pe_int (pa_cons (pvA 5 (defScope s_q8) N_q8 rfl rfl) pa_nil)))))
      (pss_cons (ps_if (PW.pt (pw_or (pt_cmpR op_isN (pvA 6 (defScope s_q8) N_q8 rfl rfl) pe_non (nomark _)) (pw_or1 (PW.pt (pw_and (pt_cmpR op_notN (pvA 4 (defScope s_q8) N_q8 rfl rfl) pe_non (nomark _)) (pw_and1 (pt_not (pt_cmpR (L18.op_ltD (n := 60) (hu60 hr)) (pvA 4 (defScope s_q8) N_q8 rfl rfl) (pvA 6 (defScope s_q8) N_q8 rfl rfl) (nomark _))))))))) (pss_one (ps_ret pe_bl)) pss_nil)
      (pss_one (psN (i := 4) (sc := defScope s_q8) (M := N_q8) rfl rfl (by decide +kernel) (pvA 6 (defScope s_q8) N_q8 rfl rfl)))))))
      (pss_cons (psN_comp (i := 7) (sc := defScope s_q8) (M := N_q8) rfl rfl rfl (by decide +kernel) (N := ["_law_choice"]) (own := 1) (js := []) (X := (cxOf CX0 P w K mg base N_q8 "law" (defScope s_q8) f cdv A outer s H E).nox) (compOk (defScope s_q8) N_q8 rfl rfl (by decide +kernel)) (pi_list (pvA 2 (defScope s_q8) N_q8 rfl rfl)) (fun fp0 sx0 Hx0 => (pgN (i := 0) (sc := relabelS _ (defScope s_q8)) (M := ["_law_choice"]) rfl rfl (by decide +kernel))) (fun fp0 sx0 Hx0 => pifs_nil) (fun fp0 sx0 Hx0 => (pe_callTyN (sc := relabelS _ (defScope s_q8)) (L18.list_K (K := K) rfl) rfl (by decide +kernel) T.z_list bt_list (pa_cons (pvN (i := 0) (sc := relabelS _ (defScope s_q8)) (M := ["_law_choice"]) rfl rfl (by decide +kernel)) pa_nil))) rfl)
      (pss_cons (psN (i := 8) (sc := defScope s_q8) (M := N_q8) rfl rfl (by decide +kernel) (pe_callN (sc := defScope s_q8) G_q1 (hr.mono (by decide)) rfl (by decide +kernel) T.m_q1 F_q1.kp b_q1 .nil passE (pa_cons (pe_tup (pa_cons (pe_lst pa_nil) (pa_cons (pvA 1 (defScope s_q8) N_q8 rfl rfl) pa_nil))) pa_nil)))
      (pss_cons (ps_expr (pe_bm PySem.F.plainAttrs_list PySem.F.slot_list_append PySem.F.type_list_append mt_append (pe_ix ix_list (pvA 8 (defScope s_q8) N_q8 rfl rfl) pe_int (fun _ _ => rfl)) (pa_cons pe_int pa_nil)))
      (pss_one (ps_ret (pe_and (pe_cmpR (op_eqD (n := 60) (hu60 hr)) (pvA 2 (defScope s_q8) N_q8 rfl rfl) (pvA 7 (defScope s_q8) N_q8 rfl rfl) (nomark _)) (pe_one (pe_cmpR (op_eqD (n := 60) (hu60 hr)) (pvA 1 (defScope s_q8) N_q8 rfl rfl) (pe_callN (sc := defScope s_q8) G_q18 (hr.mono (by decide)) rfl (by decide +kernel) T.m_q18 F_q18.kp b_q18 .nil pass0 (pa_cons (pe_slice sl_list (pvA 0 (defScope s_q8) N_q8 rfl rfl) (po_some pe_int) po_none) (pa_cons (pe_callN (sc := defScope s_q8) G_q10 (hr.mono (by decide)) rfl (by decide +kernel) T.m_q10 F_q10.kp b_q10 .nil pass0 (pa_cons (pvA 0 (defScope s_q8) N_q8 rfl rfl) (pa_cons pe_int pa_nil))) pa_nil))) (nomark _)))))))))))))))), ?_⟩
    have hs : sizeLine = 16777216 := sizeLine_eq
    have lz : (ns.drop 1).length ≤ 63 := by rw [List.length_drop]; omega
    refine ⟨_, rfl, _, rfl, ad, _, rfl, hS, fun p1 hp1 => ?_⟩
    rw [cut1, ← List.map_drop]
    have s1 := Same.upd0 (o := .lst ((ns.drop 1).map V.int)) hp1
    have e1 : upd H p1 (.lst ((ns.drop 1).map V.int)) p1 = some (.lst ((ns.drop 1).map V.int)) := upd_same
    generalize upd H p1 (.lst ((ns.drop 1).map V.int)) = H1 at s1 e1 ⊢
    refine ⟨_, rfl, ad, ns, 0, rfl, s1.seq hS, hl, by decide, ?_⟩
    obtain ⟨g1, g2, g3⟩ := treeZ_ok (ns.drop 1) (cellZ ns 0)
    generalize hlast : cellZ ns 0 = last at *
    generalize hzs : ns.drop 1 = zs at *
    refine ⟨p1, zs, last, fun _ => none, rfl, SqL.of e1, lz, (fun _ _ e => nomatch e), fun D2 H2 rv G2 d2 => ?_⟩
    have sH2 : Same H H2 := s1.trans G2.hh
    have course : ∀ {D3 H3 : Hp} {p3 : Addr}, Same D3 H3 → DataAt K D3 rv (treeZ zs last).data → H3 p3 = none → ∀ t, upd H3 p3 (.lst []) t = none → ∃ D5, Gr D3 H3 D5 (upd (upd H3 p3 (.lst [])) t (.tup [.ref p3, rv])) ∧ DataAt K D5 (.ref t) (CF.Course.data ⟨[], treeZ zs last⟩) := fun {D3 H3 p3} sD d3 hp3 t ht => by
      have g4 : Gr D3 H3 _ _ := Gr.lay (o := .lst []) sD hp3
      have o4 : DataAt K (upd D3 p3 (.lst [])) (.ref p3) (.list (([] : List (Str × Int)).map CF.oftD)) := DataAt.mkL (D := D3) DataAll.nil upd_same (Same.upd0 (free_of sD hp3))
      have g5 : Gr _ _ _ _ := Gr.lay (o := .tup [.ref p3, rv]) g4.dh ht
      exact ⟨_, g4.trans g5, DataAt.mkT (DataAll.cons (DataAt.gr o4 g5) (DataAll.cons (DataAt.gr (DataAt.gr d3 g4) g5) DataAll.nil)) upd_same (Same.refl _)⟩
    refine ⟨by first | decide | (simp only [List.length_cons, List.length_nil, List.length_append, List.length_map]; decide), fun p3 hp3 => ⟨_, rfl, by first | decide | (simp only [List.length_cons, List.length_nil, List.length_append, List.length_map]; decide), fun t3 ht3 => ?_⟩⟩
    obtain ⟨D3, G3, dc3⟩ := course G2.dh d2 hp3 t3 ht3
    generalize upd (upd H2 p3 (.lst [])) t3 (.tup [.ref p3, rv]) = H3 at G3 ⊢
    refine ⟨_, ⟨[], treeZ zs last⟩, D3, rfl, G3.dh, dc3, Nat.le_trans g2 (by decide), g1, g3, fun hc D4 H4 pf zf G4 npf ef nf hE => ?_, fun hc H4 s4 => ?_⟩
    · have G24 := G3.trans G4
      have d4 := DataAt.gr d2 G24
      refine ⟨_, rfl, rv, treeZ zs last, rfl, DataAt.up d4 G24.dh, by omega, g1, g3, fun H5 s5 => ?_⟩
      have hc2 : CH.Rule.count (treeZ zs last) ≤ 32 := hc
      have hlen : (CJ.chs (treeZ zs last) 0).length = CH.Rule.count (treeZ zs last) := CZ.chs_count _ _
      have hE2 : L13.Els L13.NL D4 zf (CJ.chs (treeZ zs last) 0) := hE
      have G5 := G24.then s5
      have ef5 := s5 _ _ ef
      refine ⟨_, rfl, _, _, rfl, rfl, _, rfl, ?_⟩
      rw [show decide ((32 : Int) < (CH.Rule.count (treeZ zs last) : Nat)) = false from decide_eq_false (by omega)]
      refine iteF ?_
      refine ⟨_, rfl, _, "list", "list", true, rfl, .inl ⟨rfl, .inl ⟨_, ef5⟩⟩, kit_list_list _, _, rfl, iteF ?_⟩
      refine ⟨_, rfl, .ref pf, zf.length, rfl, .inl ⟨_, SqL.of ef5, rfl⟩, _, rfl, rfl, _, rfl, ?_⟩
      rw [show (!decide (V.int ((zf.length : Nat) : Int) = V.int (CH.Rule.count (treeZ zs last) : Nat))) = false by rw [hE2.1, hlen, decide_eq_true rfl]; rfl]
      refine iteF ?_
      have lleaf : (treeZ zs last).leaves.length ≤ 16 := g3
      refine ⟨_, rfl, pf, rfl, ⟨_, SqL.of ef5⟩, for_list (xs := zf) (fun i σ H' => ∃ D' bv v5 v6, σ = [some (.ref ad), some rv, some (.ref pf), some (.int (CH.Rule.count (treeZ zs last) : Nat)), some bv, v5, v6, none, none] ∧ Gr D4 H5 D' H' ∧ (i = 0 → bv = .non) ∧ (∀ j, i = j + 1 → ∃ t q0, (CZ.ck (treeZ zs last) 0)[j]? = some t ∧ bv = .ref q0 ∧ DataAt K D' (.ref q0) t.2)) ⟨D4, .non, _, _, rfl, Gr.refl G5.dh, fun _ => rfl, fun j hj => nomatch hj⟩ ?_ ?_ ?_⟩
      · rintro i σ H' _ ⟨D', bv, v5, v6, _, G', _⟩
        exact SqL.of (G'.hh _ _ ef5)
      · rintro i y σ H6 hy ⟨D6, bv, v5, v6, rfl, G6, b0, b1⟩
        obtain ⟨c, hc, pc, rfl, ec⟩ := hE2.back hy
        have hcm : ((CZ.ck (treeZ zs last) 0).map Prod.fst)[i]? = some c := by rw [CZ.ck_fst]; exact hc
        rw [List.getElem?_map] at hcm
        obtain ⟨t, ht, rfl⟩ := Option.map_eq_some_iff.mp hcm
        have htm := List.mem_of_getElem? ht
        have rng := CZ.ck_rng _ 0 g1 t htm
        have lc : t.1.length ≤ (treeZ zs last).leaves.length := (CJ.chs_ok 0 g1).2 t.1 (by rw [← CZ.ck_fst]; exact List.mem_map.mpr ⟨t, htm, rfl⟩)
        have d6 := DataAt.gr d4 G6
        refine ⟨_, rfl, _, rfl, rv, treeZ zs last, rfl, DataAt.up d6 G6.dh, by omega, g1, g3, fun H7 s7 => ⟨pc, t.1, (treeZ zs last).leaves.length, rfl, s7 _ _ (G6.dh _ _ (G6.dd _ _ ec)), by omega, rng, fun H8 s8 => ⟨_, rfl, iteF ?_⟩⟩⟩
        have G8 := G6.then (s7.trans s8)
        refine ⟨_, rfl, _, rfl, rv, treeZ zs last, 0, pc, t, D6, rfl, G8.dh, d6, by omega, by omega, g1, g3, by omega, SqL.of (G8.dh _ _ (G8.dd _ _ ec)), htm, fun D9 H9 q9 G9 d9 => ?_⟩
        have G89 := G8.trans G9
        refine ⟨_, rfl, rfl, _, rfl, iteF ?_⟩
        cases i with
        | zero =>
          obtain rfl := b0 rfl
          refine ⟨_, rfl, rfl, _, rfl, iteF (iteF ?_)⟩
          exact ⟨_, rfl, D9, .ref q9, _, _, rfl, G89, (fun z => nomatch z), fun j hj => by cases hj; exact ⟨t, q9, ht, rfl, d9⟩⟩
        | succ j =>
          obtain ⟨t', q0, ht', rfl, d0⟩ := b1 j rfl
          have hj1 : j + 1 < (CZ.ck (treeZ zs last) 0).length := (List.getElem?_eq_some_iff.mp ht).1
          have bl : CZ.Below t'.2 t.2 := by
            have h1 := List.pairwise_iff_getElem.mp (CZ.ck_below (treeZ zs last) 0).1 j (j + 1) (by omega) hj1 (by omega)
            rw [List.getElem?_eq_getElem (by omega)] at ht ht'
            rw [Option.some.inj ht, Option.some.inj ht'] at h1
            exact h1
          obtain ⟨y1, y2⟩ := CZ.ck_lay _ _ t' (List.mem_of_getElem? ht')
          obtain ⟨y3, y4⟩ := CZ.ck_lay _ _ t htm
          refine ⟨_, rfl, rfl, _, rfl, iteT ⟨_, rfl, _, rfl, t'.2, t.2, DataAt.up d0 (G9.dd.trans G9.dh), DataAt.up d9 G9.dh, y1, y3, bl.1, by omega, _, rfl, ?_⟩⟩
          rw [bl.2.2]
          refine iteF ?_
          exact ⟨_, rfl, D9, .ref q9, _, _, rfl, G89, (fun z => nomatch z), fun k hk => by cases hk; exact ⟨t, q9, ht, rfl, d9⟩⟩
      rintro σ H6 ⟨D6, bv, v5, v6, rfl, G6, _, _⟩
      have lzf : zf.length ≤ 32 := by rw [hE2.1, hlen]; exact hc2
      refine ⟨_, rfl, pf, rfl, ⟨_, SqL.of (G6.hh _ _ ef5)⟩, fun pk hpk => ?_⟩
      refine L13.comp_els (Pd := L13.NL) L13.NL.up G6.dh hpk (yields_list (xs := zf)) (fun σ => ∃ v, σ = [v]) (CJ.chs (treeZ zs last) 0) (by rw [hE2.1]) ⟨_, rfl⟩ (fun H' s' => SqL.of (s' _ _ (G6.hh _ _ ef5))) (by omega) ?_ ?_
      · rintro j y c σ D7 H7 R1 R0 hy hc' ⟨v, rfl⟩ G7 k1
        obtain ⟨c2, hc3, pc, rfl, ec⟩ := hE2.back hy
        rw [hc'] at hc3
        obtain rfl := Option.some.inj hc3
        exact ⟨_, rfl, pc, _, rfl, .inl (SqL.of (G7.dh _ _ (G7.dd _ _ (G6.dd _ _ ec)))), fun l hl => k1 _ _ _ _ ⟨_, rfl⟩ (Gr.lay G7.dh hl) ⟨l, rfl, upd_same⟩⟩
      intro D7 H7 ys G7 e7 n7 hK
      have G67 := G6.trans G7
      have d7 := DataAt.gr d4 G67
      have df : DataAt K H7 (.ref pf) (.list ((CJ.chs (treeZ zs last) 0).map fun c => .list (nD c))) := DataAt.mkL (D := H7) (CZ.els_lists (hE2.up fun _ _ => L13.NL.up (G67.dd.trans G67.dh))) (G67.hh _ _ ef5) (Same.refl _)
      have dk : DataAt K H7 (.ref pk) (.list ((CJ.chs (treeZ zs last) 0).map fun c => .list (nD c))) := DataAt.mkL (D := H7) (CZ.els_lists (hK.up fun _ _ => L13.NL.up G7.dh)) e7 (Same.refl _)
      refine ⟨by first | decide | (simp only [List.length_cons, List.length_nil, List.length_append, List.length_map]; decide), fun p8 hp8 => ⟨_, rfl, by first | decide | (simp only [List.length_cons, List.length_nil, List.length_append, List.length_map]; decide), fun t8 ht8 => ?_⟩⟩
      obtain ⟨D8, G8, dc8⟩ := course G7.dh d7 hp8 t8 ht8
      generalize upd (upd H7 p8 (.lst [])) t8 (.tup [.ref p8, rv]) = H8 at G8 ⊢
      have nlc : CZ.nl (CF.Course.data ⟨[], treeZ zs last⟩) = true := by simp [CF.Course.data, CZ.nl, CZ.nls, CZ.nl_rule]
      refine ⟨_, ⟨[], treeZ zs last⟩, CZ.flt D8, rfl, (CZ.flt_same D8).trans G8.dh, CZ.flt_data _ nlc dc8, Nat.le_trans g2 (by decide), g1, g3, (fun _ D9 H9 pa za G9 npa ea na hEa => ?_), fun z => absurd z (by show ¬ 32 < CH.Rule.count (treeZ zs last); omega)⟩
      have hEa2 : L13.Els L13.NL D9 za (CJ.chs (treeZ zs last) 0) := hEa
      have hpos := CZ.count_pos _ g1
      have hlt0 : 0 < (CJ.chs (treeZ zs last) 0).length := by omega
      obtain ⟨c0, hc0⟩ : ∃ c0, (CJ.chs (treeZ zs last) 0)[0]? = some c0 := ⟨_, List.getElem?_eq_getElem hlt0⟩
      obtain ⟨v0, hv0, a0, rfl, ea0⟩ := hEa2.at_ hc0
      have hm0 := List.mem_of_getElem? hc0
      have lc0 := (CJ.chs_ok 0 g1).2 c0 hm0
      have nc0 : c0 ≠ [] := by
        rw [← CZ.ck_fst] at hm0
        obtain ⟨t, ht, rfl⟩ := List.mem_map.mp hm0
        exact (CZ.ck_rng _ 0 g1 t ht).some
      have fresh : H8 a0 = none := by
        cases e : H8 a0 with
        | none => rfl
        | some o =>
          cases e2 : CZ.flt D8 a0 with
          | none =>
            have := G9.nw a0 o e e2
            rw [this] at ea0
            cases ea0
          | some o2 =>
            have := G9.dd a0 o2 e2
            rw [this] at ea0
            rw [Option.some.inj ea0] at e2
            exact absurd (CZ.flt_ints e2) nc0
      refine ⟨_, rfl, pa, _, _, _, rfl, rfl, SqL.of ea, atI_nat (j := 0) hv0, .inl ⟨rfl, _, SqL.of (G9.dh _ _ ea0)⟩, a0, _, _, rfl, rfl, G9.dh _ _ ea0, by rw [nV_len]; omega, ?_⟩
      have s10 : Same H8 (upd H9 a0 (.lst (nV c0 ++ [V.int 99]))) := same_set G9.hh fresh
      generalize upd H9 a0 (.lst (nV c0 ++ [V.int 99])) = H10 at s10 ⊢
      have s710 := G8.hh.trans s10
      obtain ⟨y1, y2⟩ := CZ.lists_lay (CJ.chs (treeZ zs last) 0)
      have yl : (PyData.list ((CJ.chs (treeZ zs last) 0).map fun c => .list (nD c))).canLay0 = true := y1
      have yd : (PyData.list ((CJ.chs (treeZ zs last) 0).map fun c => .list (nD c))).depth ≤ 2 := by show PyData.depthAll _ + 1 ≤ 2; omega
      refine ⟨_, rfl, _, rfl, _, _, DataAt.up df s710, DataAt.up dk s710, yl, yl, by omega, ?_⟩
      rw [SeqAt.eqv_refl _ yl]
      refine ⟨_, rfl, iteT ?_⟩
      have sH10 : Same H H10 := sH2.trans (G5.hh.trans (G67.hh.trans s710))
      refine ⟨_, rfl, _, rfl, _, rfl, ad, _, rfl, sH10.seq hS, fun p11 hp11 => ?_⟩
      rw [cut1, ← List.map_drop, hzs]
      have s11 := Same.upd0 (o := .lst (zs.map V.int)) hp11
      have e11 : upd H10 p11 (.lst (zs.map V.int)) p11 = some (.lst (zs.map V.int)) := upd_same
      generalize upd H10 p11 (.lst (zs.map V.int)) = H11 at s11 e11 ⊢
      refine ⟨_, rfl, ad, ns, 0, rfl, (sH10.trans s11).seq hS, hl, by decide, ?_⟩
      rw [hlast]
      refine ⟨p11, zs, last, fun _ => none, rfl, SqL.of e11, lz, (fun _ _ e => nomatch e), fun D12 H12 r12 G12 d12 => ?_⟩
      have dl := CF.Rule.canLay g1
      have dd := CF.Rule.data_depth (treeZ zs last)
      refine ⟨_, _, DataAt.up d7 (G7.dh.trans (s710.trans (s11.trans G12.hh))), DataAt.up d12 G12.dh, dl, dl, by omega, ?_⟩
      rw [SeqAt.eqv_refl _ dl]
      exact q _
    · refine ⟨_, rfl, rv, treeZ zs last, rfl, DataAt.up d2 (G2.dh.trans (G3.hh.trans s4)), by omega, g1, g3, fun H5 s5 => ?_⟩
      have hc2 : 32 < CH.Rule.count (treeZ zs last) := hc
      refine ⟨_, rfl, _, _, rfl, rfl, _, rfl, ?_⟩
      rw [show decide ((32 : Int) < (CH.Rule.count (treeZ zs last) : Nat)) = true from decide_eq_true (by omega)]
      refine iteT ?_
      refine ⟨_, rfl, _, "int", "int", true, rfl, rfl, kit_int_int _, _, rfl, iteT ?_⟩
      exact ⟨_, rfl, .int 32, .int 32, DataAt.ofInt, DataAt.ofInt, rfl, rfl, by decide, q _⟩
end
theorem all_mk {l : PySem.W.OpenLaw} {w : World} {K : PySem.W.Frag} {h : Heap} {mg : Str → Option Value} {fa : Addr} (X : K.In h) (G : h.Ns mainGlobals mg) (hfa : mg "law" = some (.ref fa))
    {C_TooMany : Addr}
    {C_CourtError : Addr}
    {f_q7 : Addr} {od1 an1 : Option Addr} {sl1 : Array (Option Value)} {oc1 kV1 dc1 pm1 cd1 ct1 : Value}
    {f_q22 : Addr} {od2 an2 : Option Addr} {sl2 : Array (Option Value)} {oc2 kV2 dc2 pm2 cd2 ct2 : Value}
    {f_q4 : Addr} {od3 an3 : Option Addr} {sl3 : Array (Option Value)} {oc3 kV3 dc3 pm3 cd3 ct3 : Value}
    {f_q19 : Addr} {od4 an4 : Option Addr} {sl4 : Array (Option Value)} {oc4 kV4 dc4 pm4 cd4 ct4 : Value}
    {f_q0 : Addr} {od5 an5 : Option Addr} {sl5 : Array (Option Value)} {oc5 kV5 dc5 pm5 cd5 ct5 : Value}
    {f_q20 : Addr} {od6 an6 : Option Addr} {sl6 : Array (Option Value)} {oc6 kV6 dc6 pm6 cd6 ct6 : Value}
    {f_q23 : Addr} {od7 an7 : Option Addr} {sl7 : Array (Option Value)} {oc7 kV7 dc7 pm7 cd7 ct7 : Value}
    {f_q6 : Addr} {od8 an8 : Option Addr} {sl8 : Array (Option Value)} {oc8 kV8 dc8 pm8 cd8 ct8 : Value}
    {f_q5 : Addr} {od9 an9 : Option Addr} {sl9 : Array (Option Value)} {oc9 kV9 dc9 pm9 cd9 ct9 : Value}
    {f_q24 : Addr} {od10 an10 : Option Addr} {sl10 : Array (Option Value)} {oc10 kV10 dc10 pm10 cd10 ct10 : Value}
    {f_q21 : Addr} {od11 an11 : Option Addr} {sl11 : Array (Option Value)} {oc11 kV11 dc11 pm11 cd11 ct11 : Value}
    {f_q3 : Addr} {od12 an12 : Option Addr} {sl12 : Array (Option Value)} {oc12 kV12 dc12 pm12 cd12 ct12 : Value}
    {f_q2 : Addr} {od13 an13 : Option Addr} {sl13 : Array (Option Value)} {oc13 kV13 dc13 pm13 cd13 ct13 : Value}
    {f_q1 : Addr} {od14 an14 : Option Addr} {sl14 : Array (Option Value)} {oc14 kV14 dc14 pm14 cd14 ct14 : Value}
    {f_q10 : Addr} {od15 an15 : Option Addr} {sl15 : Array (Option Value)} {oc15 kV15 dc15 pm15 cd15 ct15 : Value}
    {f_q15 : Addr} {od16 an16 : Option Addr} {sl16 : Array (Option Value)} {oc16 kV16 dc16 pm16 cd16 ct16 : Value}
    {f_q14 : Addr} {od17 an17 : Option Addr} {sl17 : Array (Option Value)} {oc17 kV17 dc17 pm17 cd17 ct17 : Value}
    {f_q12 : Addr} {od18 an18 : Option Addr} {sl18 : Array (Option Value)} {oc18 kV18 dc18 pm18 cd18 ct18 : Value}
    {f_q18 : Addr} {od19 an19 : Option Addr} {sl19 : Array (Option Value)} {oc19 kV19 dc19 pm19 cd19 ct19 : Value}
    {f_q11 : Addr} {od20 an20 : Option Addr} {sl20 : Array (Option Value)} {oc20 kV20 dc20 pm20 cd20 ct20 : Value}
    {f_q17 : Addr} {od21 an21 : Option Addr} {sl21 : Array (Option Value)} {oc21 kV21 dc21 pm21 cd21 ct21 : Value}
    {f_q13 : Addr} {od22 an22 : Option Addr} {sl22 : Array (Option Value)} {oc22 kV22 dc22 pm22 cd22 ct22 : Value}
    {f_q16 : Addr} {od23 an23 : Option Addr} {sl23 : Array (Option Value)} {oc23 kV23 dc23 pm23 cd23 ct23 : Value}
    {f_q9 : Addr} {od24 an24 : Option Addr} {sl24 : Array (Option Value)} {oc24 kV24 dc24 pm24 cd24 ct24 : Value}
    {f_q8 : Addr} {od25 an25 : Option Addr} {sl25 : Array (Option Value)} {oc25 kV25 dc25 pm25 cd25 ct25 : Value}
    {t_MOST_CHOICES : Tok}
    (m_CourtError : PySem.W.nsIn K mainGlobals "CourtError" = some (some (.ref C_CourtError)))
    (m_TooMany : PySem.W.nsIn K mainGlobals "TooMany" = some (some (.ref C_TooMany)))
    (a1 : PySem.W.nsIn K mainGlobals "is_leaf" = some (some (.ref f_q7))) (l1 : K.lookup f_q7 = some ⟨oc1, od1, .func (PySem.W.fnOf "is_leaf" "is_leaf" (defArgs s_q7) (defBody s_q7) (defScope s_q7) .none kV1 dc1 pm1 an1 cd1 ct1), sl1⟩) (c1 : PySem.W.codeIn K cd1 "is_leaf" = true) (k1 : PySem.W.keepIn K (.ref f_q7) = true)
    (a2 : PySem.W.nsIn K mainGlobals "rules_of" = some (some (.ref f_q22))) (l2 : K.lookup f_q22 = some ⟨oc2, od2, .func (PySem.W.fnOf "rules_of" "rules_of" (defArgs s_q22) (defBody s_q22) (defScope s_q22) .none kV2 dc2 pm2 an2 cd2 ct2), sl2⟩) (c2 : PySem.W.codeIn K cd2 "rules_of" = true) (k2 : PySem.W.keepIn K (.ref f_q22) = true)
    (a3 : PySem.W.nsIn K mainGlobals "copy_of_leaf" = some (some (.ref f_q4))) (l3 : K.lookup f_q4 = some ⟨oc3, od3, .func (PySem.W.fnOf "copy_of_leaf" "copy_of_leaf" (defArgs s_q4) (defBody s_q4) (defScope s_q4) .none kV3 dc3 pm3 an3 cd3 ct3), sl3⟩) (c3 : PySem.W.codeIn K cd3 "copy_of_leaf" = true) (k3 : PySem.W.keepIn K (.ref f_q4) = true)
    (a4 : PySem.W.nsIn K mainGlobals "leaves_of_rule" = some (some (.ref f_q19))) (l4 : K.lookup f_q19 = some ⟨oc4, od4, .func (PySem.W.fnOf "leaves_of_rule" "leaves_of_rule" (defArgs s_q19) (defBody s_q19) (defScope s_q19) .none kV4 dc4 pm4 an4 cd4 ct4), sl4⟩) (c4 : PySem.W.codeIn K cd4 "leaves_of_rule" = true) (k4 : PySem.W.keepIn K (.ref f_q19) = true)
    (a5 : PySem.W.findIn K (.ref C_TooMany) "__init__" = some (some (.ref f_q0))) (l5 : K.lookup f_q0 = some ⟨oc5, od5, .func (PySem.W.fnOf "__init__" "TooMany.__init__" (defArgs s_q0) (defBody s_q0) (defScope s_q0) .none kV5 dc5 pm5 an5 cd5 ct5), sl5⟩) (c5 : PySem.W.codeIn K cd5 "TooMany.__init__" = true) (k5 : PySem.W.keepIn K (.ref f_q0) = true)
    (a6 : PySem.W.nsIn K mainGlobals "many_of" = some (some (.ref f_q20))) (l6 : K.lookup f_q20 = some ⟨oc6, od6, .func (PySem.W.fnOf "many_of" "many_of" (defArgs s_q20) (defBody s_q20) (defScope s_q20) .none kV6 dc6 pm6 an6 cd6 ct6), sl6⟩) (c6 : PySem.W.codeIn K cd6 "many_of" = true) (k6 : PySem.W.keepIn K (.ref f_q20) = true)
    (a7 : PySem.W.nsIn K mainGlobals "sum_of_products" = some (some (.ref f_q23))) (l7 : K.lookup f_q23 = some ⟨oc7, od7, .func (PySem.W.fnOf "sum_of_products" "sum_of_products" (defArgs s_q23) (defBody s_q23) (defScope s_q23) .none kV7 dc7 pm7 an7 cd7 ct7), sl7⟩) (c7 : PySem.W.codeIn K cd7 "sum_of_products" = true) (k7 : PySem.W.keepIn K (.ref f_q23) = true)
    (a8 : PySem.W.nsIn K mainGlobals "count_of_rule" = some (some (.ref f_q6))) (l8 : K.lookup f_q6 = some ⟨oc8, od8, .func (PySem.W.fnOf "count_of_rule" "count_of_rule" (defArgs s_q6) (defBody s_q6) (defScope s_q6) .none kV8 dc8 pm8 an8 cd8 ct8), sl8⟩) (c8 : PySem.W.codeIn K cd8 "count_of_rule" = true) (k8 : PySem.W.keepIn K (.ref f_q6) = true)
    (a9 : PySem.W.nsIn K mainGlobals "count_choices" = some (some (.ref f_q5))) (l9 : K.lookup f_q5 = some ⟨oc9, od9, .func (PySem.W.fnOf "count_choices" "count_choices" (defArgs s_q5) (defBody s_q5) (defScope s_q5) .none kV9 dc9 pm9 an9 cd9 ct9), sl9⟩) (c9 : PySem.W.codeIn K cd9 "count_choices" = true) (k9 : PySem.W.keepIn K (.ref f_q5) = true)
    (a10 : PySem.W.nsIn K mainGlobals "ways_of_taking" = some (some (.ref f_q24))) (l10 : K.lookup f_q24 = some ⟨oc10, od10, .func (PySem.W.fnOf "ways_of_taking" "ways_of_taking" (defArgs s_q24) (defBody s_q24) (defScope s_q24) .none kV10 dc10 pm10 an10 cd10 ct10), sl10⟩) (c10 : PySem.W.codeIn K cd10 "ways_of_taking" = true) (k10 : PySem.W.keepIn K (.ref f_q24) = true)
    (a11 : PySem.W.nsIn K mainGlobals "put_together" = some (some (.ref f_q21))) (l11 : K.lookup f_q21 = some ⟨oc11, od11, .func (PySem.W.fnOf "put_together" "put_together" (defArgs s_q21) (defBody s_q21) (defScope s_q21) .none kV11 dc11 pm11 an11 cd11 ct11), sl11⟩) (c11 : PySem.W.codeIn K cd11 "put_together" = true) (k11 : PySem.W.keepIn K (.ref f_q21) = true)
    (a12 : PySem.W.nsIn K mainGlobals "choices_of_rules" = some (some (.ref f_q3))) (l12 : K.lookup f_q3 = some ⟨oc12, od12, .func (PySem.W.fnOf "choices_of_rules" "choices_of_rules" (defArgs s_q3) (defBody s_q3) (defScope s_q3) .none kV12 dc12 pm12 an12 cd12 ct12), sl12⟩) (c12 : PySem.W.codeIn K cd12 "choices_of_rules" = true) (k12 : PySem.W.keepIn K (.ref f_q3) = true)
    (a13 : PySem.W.nsIn K mainGlobals "choices_of_rule" = some (some (.ref f_q2))) (l13 : K.lookup f_q2 = some ⟨oc13, od13, .func (PySem.W.fnOf "choices_of_rule" "choices_of_rule" (defArgs s_q2) (defBody s_q2) (defScope s_q2) .none kV13 dc13 pm13 an13 cd13 ct13), sl13⟩) (c13 : PySem.W.codeIn K cd13 "choices_of_rule" = true) (k13 : PySem.W.keepIn K (.ref f_q2) = true)
    (a14 : PySem.W.nsIn K mainGlobals "choices" = some (some (.ref f_q1))) (l14 : K.lookup f_q1 = some ⟨oc14, od14, .func (PySem.W.fnOf "choices" "choices" (defArgs s_q1) (defBody s_q1) (defScope s_q1) .none kV14 dc14 pm14 an14 cd14 ct14), sl14⟩) (c14 : PySem.W.codeIn K cd14 "choices" = true) (k14 : PySem.W.keepIn K (.ref f_q1) = true)
    (a15 : PySem.W.nsIn K mainGlobals "_law_cell_at" = some (some (.ref f_q10))) (l15 : K.lookup f_q10 = some ⟨oc15, od15, .func (PySem.W.fnOf "_law_cell_at" "_law_cell_at" (defArgs s_q10) (defBody s_q10) (defScope s_q10) .none kV15 dc15 pm15 an15 cd15 ct15), sl15⟩) (c15 : PySem.W.codeIn K cd15 "_law_cell_at" = true) (k15 : PySem.W.keepIn K (.ref f_q10) = true)
    (a16 : PySem.W.nsIn K mainGlobals "_law_mixed" = some (some (.ref f_q15))) (l16 : K.lookup f_q15 = some ⟨oc16, od16, .func (PySem.W.fnOf "_law_mixed" "_law_mixed" (defArgs s_q15) (defBody s_q15) (defScope s_q15) .none kV16 dc16 pm16 an16 cd16 ct16), sl16⟩) (c16 : PySem.W.codeIn K cd16 "_law_mixed" = true) (k16 : PySem.W.keepIn K (.ref f_q15) = true)
    (a17 : PySem.W.nsIn K mainGlobals "_law_leaf" = some (some (.ref f_q14))) (l17 : K.lookup f_q14 = some ⟨oc17, od17, .func (PySem.W.fnOf "_law_leaf" "_law_leaf" (defArgs s_q14) (defBody s_q14) (defScope s_q14) .none kV17 dc17 pm17 an17 cd17 ct17), sl17⟩) (c17 : PySem.W.codeIn K cd17 "_law_leaf" = true) (k17 : PySem.W.keepIn K (.ref f_q14) = true)
    (a18 : PySem.W.nsIn K mainGlobals "_law_group" = some (some (.ref f_q12))) (l18 : K.lookup f_q12 = some ⟨oc18, od18, .func (PySem.W.fnOf "_law_group" "_law_group" (defArgs s_q12) (defBody s_q12) (defScope s_q12) .none kV18 dc18 pm18 an18 cd18 ct18), sl18⟩) (c18 : PySem.W.codeIn K cd18 "_law_group" = true) (k18 : PySem.W.keepIn K (.ref f_q12) = true)
    (a19 : PySem.W.nsIn K mainGlobals "_law_tree" = some (some (.ref f_q18))) (l19 : K.lookup f_q18 = some ⟨oc19, od19, .func (PySem.W.fnOf "_law_tree" "_law_tree" (defArgs s_q18) (defBody s_q18) (defScope s_q18) .none kV19 dc19 pm19 an19 cd19 ct19), sl19⟩) (c19 : PySem.W.codeIn K cd19 "_law_tree" = true) (k19 : PySem.W.keepIn K (.ref f_q18) = true)
    (a20 : PySem.W.nsIn K mainGlobals "_law_count" = some (some (.ref f_q11))) (l20 : K.lookup f_q11 = some ⟨oc20, od20, .func (PySem.W.fnOf "_law_count" "_law_count" (defArgs s_q11) (defBody s_q11) (defScope s_q11) .none kV20 dc20 pm20 an20 cd20 ct20), sl20⟩) (c20 : PySem.W.codeIn K cd20 "_law_count" = true) (k20 : PySem.W.keepIn K (.ref f_q11) = true)
    (a21 : PySem.W.nsIn K mainGlobals "_law_size" = some (some (.ref f_q17))) (l21 : K.lookup f_q17 = some ⟨oc21, od21, .func (PySem.W.fnOf "_law_size" "_law_size" (defArgs s_q17) (defBody s_q17) (defScope s_q17) .none kV21 dc21 pm21 an21 cd21 ct21), sl21⟩) (c21 : PySem.W.codeIn K cd21 "_law_size" = true) (k21 : PySem.W.keepIn K (.ref f_q17) = true)
    (a22 : PySem.W.nsIn K mainGlobals "_law_key" = some (some (.ref f_q13))) (l22 : K.lookup f_q13 = some ⟨oc22, od22, .func (PySem.W.fnOf "_law_key" "_law_key" (defArgs s_q13) (defBody s_q13) (defScope s_q13) .none kV22 dc22 pm22 an22 cd22 ct22), sl22⟩) (c22 : PySem.W.codeIn K cd22 "_law_key" = true) (k22 : PySem.W.keepIn K (.ref f_q13) = true)
    (a23 : PySem.W.nsIn K mainGlobals "_law_rising" = some (some (.ref f_q16))) (l23 : K.lookup f_q16 = some ⟨oc23, od23, .func (PySem.W.fnOf "_law_rising" "_law_rising" (defArgs s_q16) (defBody s_q16) (defScope s_q16) .none kV23 dc23 pm23 an23 cd23 ct23), sl23⟩) (c23 : PySem.W.codeIn K cd23 "_law_rising" = true) (k23 : PySem.W.keepIn K (.ref f_q16) = true)
    (a24 : PySem.W.nsIn K mainGlobals "_law_asked" = some (some (.ref f_q9))) (l24 : K.lookup f_q9 = some ⟨oc24, od24, .func (PySem.W.fnOf "_law_asked" "_law_asked" (defArgs s_q9) (defBody s_q9) (defScope s_q9) .none kV24 dc24 pm24 an24 cd24 ct24), sl24⟩) (c24 : PySem.W.codeIn K cd24 "_law_asked" = true) (k24 : PySem.W.keepIn K (.ref f_q9) = true)
    (a25 : PySem.W.nsIn K mainGlobals "law" = some (some (.ref f_q8))) (l25 : K.lookup f_q8 = some ⟨oc25, od25, .func (PySem.W.fnOf "law" "law" (defArgs s_q8) (defBody s_q8) (defScope s_q8) .none kV25 dc25 pm25 an25 cd25 ct25), sl25⟩) (c25 : PySem.W.codeIn K cd25 "law" = true) (k25 : PySem.W.keepIn K (.ref f_q8) = true)
    (x_CourtError : exIn K NS none C_CourtError = true) (y_CourtError : PySem.W.keepIn K (.ref C_CourtError) = true)
    (kit_CourtError_CourtError : PySem.W.kitOne K (.ref C_CourtError) (.ref C_CourtError) = some true)
    (exm_CourtError_CourtError : PySem.W.exmOne K (.ref C_CourtError) (.ref C_CourtError) = some true)
    (kit_CourtError_TooMany : PySem.W.kitOne K (.ref C_CourtError) (.ref C_TooMany) = some false)
    (kit_CourtError_ValueError : PySem.W.kitOne K (.ref C_CourtError) (.type "ValueError") = some true)
    (x_TooMany : exIn K NS (some (.ref f_q0)) C_TooMany = true) (y_TooMany : PySem.W.keepIn K (.ref C_TooMany) = true)
    (fn_TooMany : PySem.W.isFn K (.ref f_q0) = true)
    (kit_TooMany_CourtError : PySem.W.kitOne K (.ref C_TooMany) (.ref C_CourtError) = some true)
    (exm_TooMany_CourtError : PySem.W.exmOne K (.ref C_TooMany) (.ref C_CourtError) = some true)
    (kit_TooMany_TooMany : PySem.W.kitOne K (.ref C_TooMany) (.ref C_TooMany) = some true)
    (exm_TooMany_TooMany : PySem.W.exmOne K (.ref C_TooMany) (.ref C_TooMany) = some true)
    (kit_TooMany_ValueError : PySem.W.kitOne K (.ref C_TooMany) (.type "ValueError") = some true)
    (z_bool : PySem.W.nsIn K mainGlobals "bool" = some none)
    (z_int : PySem.W.nsIn K mainGlobals "int" = some none)
    (z_isinstance : PySem.W.nsIn K mainGlobals "isinstance" = some none)
    (z_len : PySem.W.nsIn K mainGlobals "len" = some none)
    (z_list : PySem.W.nsIn K mainGlobals "list" = some none)
    (z_max : PySem.W.nsIn K mainGlobals "max" = some none)
    (z_range : PySem.W.nsIn K mainGlobals "range" = some none)
    (z_sum : PySem.W.nsIn K mainGlobals "sum" = some none)
    (kk_MOST_CHOICES : PySem.W.nsIn K mainGlobals "MOST_CHOICES" = some (some (.int 32 t_MOST_CHOICES))) :
    ∃ fd : FuncData, (∀ (s : Shared) (v : Value), BindsTo s fd ⟨[v], []⟩ [("_law_script", v)]) ∧ ∀ base : Heap, K.In base → base.Ns mainGlobals mg → FnOk l.prog w K mg base CX0 38 fa fd ["_law_script"] (sp_q8 K) := by
  have e := hfa.symm.trans (PySem.W.mg_of X G a25)
  cases e
  have T : Txt K mg ⟨f_q7, f_q22, f_q4, f_q19, f_q0, f_q20, f_q23, f_q6, f_q5, f_q24, f_q21, f_q3, f_q2, f_q1, f_q10, f_q15, f_q14, f_q12, f_q18, f_q11, f_q17, f_q13, f_q16, f_q9, C_CourtError, C_TooMany⟩ := ⟨PySem.W.mg_of X G a1, PySem.W.mg_of X G a2, PySem.W.mg_of X G a3, PySem.W.mg_of X G a4, PySem.W.mg_of X G a6, PySem.W.mg_of X G a7, PySem.W.mg_of X G a8, PySem.W.mg_of X G a9, PySem.W.mg_of X G a10, PySem.W.mg_of X G a11, PySem.W.mg_of X G a12, PySem.W.mg_of X G a13, PySem.W.mg_of X G a14, PySem.W.mg_of X G a15, PySem.W.mg_of X G a16, PySem.W.mg_of X G a17, PySem.W.mg_of X G a18, PySem.W.mg_of X G a19, PySem.W.mg_of X G a20, PySem.W.mg_of X G a21, PySem.W.mg_of X G a22, PySem.W.mg_of X G a23, PySem.W.mg_of X G a24, PySem.W.mg_of X G m_CourtError, m_CourtError, ⟨x_CourtError, y_CourtError⟩, kit_CourtError_CourtError, exm_CourtError_CourtError, kit_CourtError_TooMany, kit_CourtError_ValueError, PySem.W.mg_of X G m_TooMany, m_TooMany, ⟨x_TooMany, y_TooMany⟩, fn_TooMany, kit_TooMany_CourtError, exm_TooMany_CourtError, kit_TooMany_TooMany, exm_TooMany_TooMany, kit_TooMany_ValueError, PySem.W.mg_none_of X G z_bool, PySem.W.mg_none_of X G z_int, PySem.W.mg_none_of X G z_isinstance, PySem.W.mg_none_of X G z_len, PySem.W.mg_none_of X G z_list, PySem.W.mg_none_of X G z_max, PySem.W.mg_none_of X G z_range, PySem.W.mg_none_of X G z_sum, ⟨_, PySem.W.mg_of X G kk_MOST_CHOICES⟩⟩
  have F_q7 := fun_mk (st := s_q7) l1 c1 k1
  have b_q7 := F_q7.binds (ps := ["rule"]) fun _ _ _ _ _ _ us hl => match us, hl with | [_], _ => rfl
  have F_q22 := fun_mk (st := s_q22) l2 c2 k2
  have b_q22 := F_q22.binds (ps := ["group"]) fun _ _ _ _ _ _ us hl => match us, hl with | [_], _ => rfl
  have F_q4 := fun_mk (st := s_q4) l3 c3 k3
  have b_q4 := F_q4.binds (ps := ["leaf"]) fun _ _ _ _ _ _ us hl => match us, hl with | [_], _ => rfl
  have F_q19 := fun_mk (st := s_q19) l4 c4 k4
  have b_q19 := F_q19.binds (ps := ["rule"]) fun _ _ _ _ _ _ us hl => match us, hl with | [_], _ => rfl
  have F_q0 := fun_mk (st := s_q0) l5 c5 k5
  have b_q0 := F_q0.binds (ps := ["self", "most"]) fun _ _ _ _ _ _ us hl => match us, hl with | [_, _], _ => rfl
  have F_q20 := fun_mk (st := s_q20) l6 c6 k6
  have b_q20 := F_q20.binds (ps := ["group"]) fun _ _ _ _ _ _ us hl => match us, hl with | [_], _ => rfl
  have F_q23 := fun_mk (st := s_q23) l7 c7 k7
  have b_q23 := F_q23.binds (ps := ["numbers", "many"]) fun _ _ _ _ _ _ us hl => match us, hl with | [_, _], _ => rfl
  have F_q6 := fun_mk (st := s_q6) l8 c8 k8
  have b_q6 := F_q6.binds (ps := ["rule"]) fun _ _ _ _ _ _ us hl => match us, hl with | [_], _ => rfl
  have F_q5 := fun_mk (st := s_q5) l9 c9 k9
  have b_q5 := F_q5.binds (ps := ["course"]) fun _ _ _ _ _ _ us hl => match us, hl with | [_], _ => rfl
  have F_q24 := fun_mk (st := s_q24) l10 c10 k10
  have b_q24 := F_q24.binds (ps := ["many", "first", "end"]) fun _ _ _ _ _ _ us hl => match us, hl with | [_, _, _], _ => rfl
  have F_q21 := fun_mk (st := s_q21) l11 c11 k11
  have b_q21 := F_q21.binds (ps := ["heads", "tails"]) fun _ _ _ _ _ _ us hl => match us, hl with | [_, _], _ => rfl
  have F_q3 := fun_mk (st := s_q3) l12 c12 k12
  have b_q3 := F_q3.binds (ps := ["rules", "first"]) fun _ _ _ _ _ _ us hl => match us, hl with | [_, _], _ => rfl
  have F_q2 := fun_mk (st := s_q2) l13 c13 k13
  have b_q2 := F_q2.binds (ps := ["rule", "first"]) fun _ _ _ _ _ _ us hl => match us, hl with | [_, _], _ => rfl
  have F_q1 := fun_mk (st := s_q1) l14 c14 k14
  have b_q1 := F_q1.binds (ps := ["course"]) fun _ _ _ _ _ _ us hl => match us, hl with | [_], _ => rfl
  have F_q10 := fun_mk (st := s_q10) l15 c15 k15
  have b_q10 := F_q10.binds (ps := ["_law_script", "_law_k"]) fun _ _ _ _ _ _ us hl => match us, hl with | [_, _], _ => rfl
  have F_q15 := fun_mk (st := s_q15) l16 c16 k16
  have b_q15 := F_q15.binds (ps := ["_law_cell", "_law_k"]) fun _ _ _ _ _ _ us hl => match us, hl with | [_, _], _ => rfl
  have F_q14 := fun_mk (st := s_q14) l17 c17 k17
  have b_q14 := F_q14.binds (ps := ["_law_cell"]) fun _ _ _ _ _ _ us hl => match us, hl with | [_], _ => rfl
  have F_q12 := fun_mk (st := s_q12) l18 c18 k18
  have b_q12 := F_q12.binds (ps := ["_law_cell", "_law_rules"]) fun _ _ _ _ _ _ us hl => match us, hl with | [_, _], _ => rfl
  have F_q18 := fun_mk (st := s_q18) l19 c19 k19
  have b_q18 := F_q18.binds (ps := ["_law_cells", "_law_last"]) fun _ _ _ _ _ _ us hl => match us, hl with | [_, _], _ => rfl
  have F_q11 := fun_mk (st := s_q11) l20 c20 k20
  have b_q11 := F_q11.binds (ps := ["_law_rule"]) fun _ _ _ _ _ _ us hl => match us, hl with | [_], _ => rfl
  have F_q17 := fun_mk (st := s_q17) l21 c21 k21
  have b_q17 := F_q17.binds (ps := ["_law_rule"]) fun _ _ _ _ _ _ us hl => match us, hl with | [_], _ => rfl
  have F_q13 := fun_mk (st := s_q13) l22 c22 k22
  have b_q13 := F_q13.binds (ps := ["_law_rule", "_law_first", "_law_chosen"]) fun _ _ _ _ _ _ us hl => match us, hl with | [_, _, _], _ => rfl
  have F_q16 := fun_mk (st := s_q16) l23 c23 k23
  have b_q16 := F_q16.binds (ps := ["_law_choice", "_law_size_here"]) fun _ _ _ _ _ _ us hl => match us, hl with | [_, _], _ => rfl
  have F_q9 := fun_mk (st := s_q9) l24 c24 k24
  have b_q9 := F_q9.binds (ps := ["_law_course"]) fun _ _ _ _ _ _ us hl => match us, hl with | [_], _ => rfl
  have F_q8 := fun_mk (st := s_q8) l25 c25 k25
  refine ⟨PySem.W.fnOf "law" "law" (defArgs s_q8) (defBody s_q8) (defScope s_q8) .none kV25 dc25 pm25 an25 cd25 ct25, fun s v => .of_eq rfl, fun base _ _ => ?_⟩
  have G_q7 := ok_q7 (P := l.prog) (w := w) (base := base) F_q7 T
  have G_q22 := ok_q22 (P := l.prog) (w := w) (base := base) F_q22 T
  have G_q4 := ok_q4 (P := l.prog) (w := w) (base := base) F_q4 T
  have G_q19 := ok_q19 (P := l.prog) (w := w) (base := base) T G_q4 F_q4 b_q4 G_q7 F_q7 b_q7 G_q22 F_q22 b_q22 F_q19 b_q19
  have G_q0 := ok_q0 (P := l.prog) (w := w) (base := base) F_q0 T
  have G_q20 := ok_q20 (P := l.prog) (w := w) (base := base) F_q20 T G_q22 F_q22 b_q22
  have G_q23 := ok_q23 (P := l.prog) (w := w) (base := base) F_q23 T
  have G_q6 := ok_q6 (P := l.prog) (w := w) (base := base) T G_q7 F_q7 b_q7 G_q20 F_q20 b_q20 G_q22 F_q22 b_q22 G_q23 F_q23 b_q23 F_q6 b_q6
  have G_q5 := ok_q5 (P := l.prog) (w := w) (base := base) F_q5 T G_q6 F_q6 b_q6
  have G_q24 := ok_q24 (P := l.prog) (w := w) (base := base) T  F_q24 b_q24
  have G_q21 := ok_q21 (P := l.prog) (w := w) (base := base) F_q21 T
  have G_q2 := ok_q2 (P := l.prog) (w := w) (base := base) T G_q7 F_q7 b_q7 G_q19 F_q19 b_q19 G_q20 F_q20 b_q20 G_q21 F_q21 b_q21 G_q22 F_q22 b_q22 G_q24 F_q24 b_q24 F_q3 b_q3 F_q2 b_q2
  have G_q1 := ok_q1 (P := l.prog) (w := w) (base := base) F_q1 T G_q0 F_q0 b_q0 G_q2 F_q2 b_q2 G_q5 F_q5 b_q5
  have G_q10 := ok_q10 (P := l.prog) (w := w) (base := base) F_q10 T
  have G_q15 := ok_q15 (P := l.prog) (w := w) (base := base) F_q15 T
  have G_q14 := ok_q14 (P := l.prog) (w := w) (base := base) F_q14 T G_q15 F_q15 b_q15
  have G_q12 := ok_q12 (P := l.prog) (w := w) (base := base) F_q12 T
  have G_q18 := ok_q18 (P := l.prog) (w := w) (base := base) F_q18 T G_q12 F_q12 b_q12 G_q14 F_q14 b_q14 G_q15 F_q15 b_q15
  have G_q11 := ok_q11 (P := l.prog) (w := w) (base := base) T  F_q11 b_q11
  have G_q17 := ok_q17 (P := l.prog) (w := w) (base := base) T  F_q17 b_q17
  have G_q13 := ok_q13 (P := l.prog) (w := w) (base := base) T G_q17 F_q17 b_q17 F_q13 b_q13
  have G_q16 := ok_q16 (P := l.prog) (w := w) (base := base) F_q16 T
  have G_q9 := ok_q9 (P := l.prog) (w := w) (base := base) F_q9 T G_q1 F_q1 b_q1
  exact ok_q8 F_q8 T G_q9 F_q9 b_q9 G_q10 F_q10 b_q10 G_q11 F_q11 b_q11 G_q13 F_q13 b_q13 G_q16 F_q16 b_q16 G_q17 F_q17 b_q17 G_q18 F_q18 b_q18 G_q1 F_q1 b_q1
theorem walk {l : PySem.W.OpenLaw} {q : Program} {loose : List Str} {XP : (Str → Option Value) → Heap → Prop} {YP : World → Heap → Prop} {d : DefRec} {K : Params → PySem.W.Frag} (hn : l.most = some 63) (hdf : d.params.defaults = [])
    (hY : ∀ (w : World) (h : Heap), YP w h → (K w.params).In h)
    (F : ∀ (w : World) (mg : Str → Option Value) (fa : Addr) (h : Heap), (K w.params).In h → h.Ns mainGlobals mg → mg d.name = some (.ref fa) →
      ∃ fd : FuncData, (∀ (s : Shared) (u : Value), BindsTo s fd ⟨[u], []⟩ [("_law_script", u)]) ∧ ∀ base : Heap, (K w.params).In base → base.Ns mainGlobals mg → FnOk l.prog w (K w.params) mg base CX0 38 fa fd ["_law_script"] (sp_q8 (K w.params))) :
    PySem.W.WalkO q loose XP YP l.row.toRowW d [] (fun f vs => PySem.call f vs) :=
  L2.walk_of (n := 63) (k := 38) (x := "_law_script") (CX := fun _ => CX0) (sp := fun w => sp_q8 (K w.params)) hn (by decide) hdf ⟨rfl, by decide, by decide⟩ hY F (fun _ _ a ns hl _ hS => ⟨a, ns, rfl, hS, hl, fun _ => rfl⟩) fun _ _ _ _ _ z => z
end K42
open PySem PySem.W PyProof.Rows
set_option maxRecDepth 100000 in
set_option maxHeartbeats 0 in
theorem PySem.Challenge.cw_court_k42_whole_choices_listed_holds : PySem.Challenge.rw_court_k42_whole_choices_listed.Holds := by
  w_on; o_law; k_head; (case hw => w_witness2)
  k_fill
  refine K42.walk (l := PySem.Challenge.rw_court_k42_whole_choices_listed) rfl rfl (fun w h Y => PySem.W.kIn_of Y) ?F
  case F =>
    intro w mg fa h KX G hmg
    refine' K42.all_mk KX G hmg ?m_CourtError ?m_TooMany ?a1 ?l1 ?c1 ?k1 ?a2 ?l2 ?c2 ?k2 ?a3 ?l3 ?c3 ?k3 ?a4 ?l4 ?c4 ?k4 ?a5 ?l5 ?c5 ?k5 ?a6 ?l6 ?c6 ?k6 ?a7 ?l7 ?c7 ?k7 ?a8 ?l8 ?c8 ?k8 ?a9 ?l9 ?c9 ?k9 ?a10 ?l10 ?c10 ?k10 ?a11 ?l11 ?c11 ?k11 ?a12 ?l12 ?c12 ?k12 ?a13 ?l13 ?c13 ?k13 ?a14 ?l14 ?c14 ?k14 ?a15 ?l15 ?c15 ?k15 ?a16 ?l16 ?c16 ?k16 ?a17 ?l17 ?c17 ?k17 ?a18 ?l18 ?c18 ?k18 ?a19 ?l19 ?c19 ?k19 ?a20 ?l20 ?c20 ?k20 ?a21 ?l21 ?c21 ?k21 ?a22 ?l22 ?c22 ?k22 ?a23 ?l23 ?c23 ?k23 ?a24 ?l24 ?c24 ?k24 ?a25 ?l25 ?c25 ?k25 ?x_CourtError ?y_CourtError ?kit_CourtError_CourtError ?exm_CourtError_CourtError ?kit_CourtError_TooMany ?kit_CourtError_ValueError ?x_TooMany ?y_TooMany ?fn_TooMany ?kit_TooMany_CourtError ?exm_TooMany_CourtError ?kit_TooMany_TooMany ?exm_TooMany_TooMany ?kit_TooMany_ValueError ?z_bool ?z_int ?z_isinstance ?z_len ?z_list ?z_max ?z_range ?z_sum ?kk_MOST_CHOICES
    (case m_CourtError => k_is)
    (case m_TooMany => k_is)
    (case a1 => k_is)
    (case l1 => k_is)
    (case c1 => k_is)
    (case k1 => k_is)
    (case a2 => k_is)
    (case l2 => k_is)
    (case c2 => k_is)
    (case k2 => k_is)
    (case a3 => k_is)
    (case l3 => k_is)
    (case c3 => k_is)
    (case k3 => k_is)
    (case a4 => k_is)
    (case l4 => k_is)
    (case c4 => k_is)
    (case k4 => k_is)
    (case a5 => k_is)
    (case l5 => k_is)
    (case c5 => k_is)
    (case k5 => k_is)
    (case a6 => k_is)
    (case l6 => k_is)
    (case c6 => k_is)
    (case k6 => k_is)
    (case a7 => k_is)
    (case l7 => k_is)
    (case c7 => k_is)
    (case k7 => k_is)
    (case a8 => k_is)
    (case l8 => k_is)
    (case c8 => k_is)
    (case k8 => k_is)
    (case a9 => k_is)
    (case l9 => k_is)
    (case c9 => k_is)
    (case k9 => k_is)
    (case a10 => k_is)
    (case l10 => k_is)
    (case c10 => k_is)
    (case k10 => k_is)
    (case a11 => k_is)
    (case l11 => k_is)
    (case c11 => k_is)
    (case k11 => k_is)
    (case a12 => k_is)
    (case l12 => k_is)
    (case c12 => k_is)
    (case k12 => k_is)
    (case a13 => k_is)
    (case l13 => k_is)
    (case c13 => k_is)
    (case k13 => k_is)
    (case a14 => k_is)
    (case l14 => k_is)
    (case c14 => k_is)
    (case k14 => k_is)
    (case a15 => k_is)
    (case l15 => k_is)
    (case c15 => k_is)
    (case k15 => k_is)
    (case a16 => k_is)
    (case l16 => k_is)
    (case c16 => k_is)
    (case k16 => k_is)
    (case a17 => k_is)
    (case l17 => k_is)
    (case c17 => k_is)
    (case k17 => k_is)
    (case a18 => k_is)
    (case l18 => k_is)
    (case c18 => k_is)
    (case k18 => k_is)
    (case a19 => k_is)
    (case l19 => k_is)
    (case c19 => k_is)
    (case k19 => k_is)
    (case a20 => k_is)
    (case l20 => k_is)
    (case c20 => k_is)
    (case k20 => k_is)
    (case a21 => k_is)
    (case l21 => k_is)
    (case c21 => k_is)
    (case k21 => k_is)
    (case a22 => k_is)
    (case l22 => k_is)
    (case c22 => k_is)
    (case k22 => k_is)
    (case a23 => k_is)
    (case l23 => k_is)
    (case c23 => k_is)
    (case k23 => k_is)
    (case a24 => k_is)
    (case l24 => k_is)
    (case c24 => k_is)
    (case k24 => k_is)
    (case a25 => k_is)
    (case l25 => k_is)
    (case c25 => k_is)
    (case k25 => k_is)
    (case z_bool => k_is)
    (case z_int => k_is)
    (case z_isinstance => k_is)
    (case z_len => k_is)
    (case z_list => k_is)
    (case z_max => k_is)
    (case z_range => k_is)
    (case z_sum => k_is)
    (case kk_MOST_CHOICES => k_is)
    (case x_CourtError => first | k_is | kernel_rfl)
    (case y_CourtError => first | k_is | kernel_rfl)
    (case kit_CourtError_CourtError => first | k_is | kernel_rfl)
    (case exm_CourtError_CourtError => first | k_is | kernel_rfl)
    (case kit_CourtError_TooMany => first | k_is | kernel_rfl)
    (case kit_CourtError_ValueError => first | k_is | kernel_rfl)
    (case x_TooMany => first | k_is | kernel_rfl)
    (case y_TooMany => first | k_is | kernel_rfl)
    (case fn_TooMany => first | k_is | kernel_rfl)
    (case kit_TooMany_CourtError => first | k_is | kernel_rfl)
    (case exm_TooMany_CourtError => first | k_is | kernel_rfl)
    (case kit_TooMany_TooMany => first | k_is | kernel_rfl)
    (case exm_TooMany_TooMany => first | k_is | kernel_rfl)
    (case kit_TooMany_ValueError => first | k_is | kernel_rfl)
#print axioms PySem.Challenge.cw_court_k42_whole_choices_listed_holds
