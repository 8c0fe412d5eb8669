import PyProof.Rows.All
import Wide.All
import OpenK.AllK
import Wide.FinOn
import Lean
import PyProof.EqAt
import PyProof.EqKinds
import PyProof.TupleCall
import KE.KSortTup
import KE.KRevIter
import KE.KDictSum
import PySem.Challenge.RW_court_k54_whole_no_other_dealing
set_option Elab.async false
set_option linter.all false
set_option maxRecDepth 100000
namespace L2
open PySem PySem.Spec PyProof.Rows
abbrev Key := Sum Int Str
def keyIs : Key → Value → Bool
  | .inl k, v => Value.isInt k v
  | .inr x, v => Value.isStrOf x v
def keyH (w : World) : Key → Int
  | .inl k => hashInt k
  | .inr x => hashStr w x
theorem keyIs_shape : ∀ {k : Key} {v : Value}, keyIs k v = true → (∃ i t, k = Sum.inl i ∧ v = Value.int i t) ∨ (∃ x t, k = Sum.inr x ∧ v = Value.str x t)
  | .inl i, v, h => by
    obtain ⟨t, e⟩ := Value.isInt_shape (k := i) (v := v) h
    exact .inl ⟨i, t, rfl, e⟩
  | .inr x, v, h => by
    obtain ⟨t, e⟩ := Value.isStrOf_shape (x := x) (v := v) h
    exact .inr ⟨x, t, rfl, e⟩
theorem keyIs_int (i : Int) (t : Tok) : keyIs (.inl i) (.int i t) = true := by simp [keyIs, Value.isInt]
theorem keyIs_str (x : Str) (t : Tok) : keyIs (.inr x) (.str x t) = true := by simp [keyIs, Value.isStrOf]
theorem key_ll (a b : Int) : decide ((Sum.inl a : Key) = Sum.inl b) = (a == b) := by
  by_cases e : a = b
  · subst e; simp
  · have h : ¬ (Sum.inl a : Key) = Sum.inl b := fun q => e (Sum.inl.inj q)
    rw [decide_eq_false h]
    exact (beq_eq_false_iff_ne.mpr e).symm
theorem key_rr (a b : Str) : decide ((Sum.inr a : Key) = Sum.inr b) = decide (a = b) := by
  by_cases e : a = b
  · subst e; simp
  · have h : ¬ (Sum.inr a : Key) = Sum.inr b := fun q => e (Sum.inr.inj q)
    rw [decide_eq_false h, decide_eq_false e]
theorem key_lr (a : Int) (b : Str) : decide ((Sum.inl a : Key) = Sum.inr b) = false := decide_eq_false (fun q => nomatch q)
theorem key_rl (a : Str) (b : Int) : decide ((Sum.inr a : Key) = Sum.inl b) = false := decide_eq_false (fun q => nomatch q)
def mixKind (prog : Program) (w : World) : PySem.KeyKind prog w Key where
  is := keyIs
  hash := keyH w
  inj := fun v a b ha hb => by
    rcases keyIs_shape ha with ⟨i, t, rfl, rfl⟩ | ⟨x, t, rfl, rfl⟩
    · rcases keyIs_shape hb with ⟨j, u, rfl, e⟩ | ⟨y, u, rfl, e⟩
      · injection e with e1 _; rw [e1]
      · exact nomatch e
    · rcases keyIs_shape hb with ⟨j, u, rfl, e⟩ | ⟨y, u, rfl, e⟩
      · exact nomatch e
      · injection e with e1 _; rw [e1]
  byValue := fun k v h => by
    rcases keyIs_shape h with ⟨i, t, rfl, rfl⟩ | ⟨x, t, rfl, rfl⟩ <;> rfl
  pyHash := fun hv h => by
    rcases keyIs_shape hv with ⟨i, t, rfl, rfl⟩ | ⟨x, t, rfl, rfl⟩
    · exact wpAny_pyHash_int h
    · exact wpAny_pyHash_str h
  eqBool := fun hu hv h => by
    rcases keyIs_shape hu with ⟨i, t, rfl, rfl⟩ | ⟨x, t, rfl, rfl⟩
    · rcases keyIs_shape hv with ⟨j, u, rfl, rfl⟩ | ⟨y, u, rfl, rfl⟩
      · rw [key_ll] at h; exact wpAny_eqBool_int h
      · rw [key_lr] at h; exact SeqAt.EqAt.int_str i t y u _ _ _ _ h
    · rcases keyIs_shape hv with ⟨j, u, rfl, rfl⟩ | ⟨y, u, rfl, rfl⟩
      · rw [key_rl] at h; exact SeqAt.EqAt.str_int x t j u _ _ _ _ h
      · rw [key_rr] at h; exact wpAny_eqBool_str h
  «strs» := fun k x t v h => by
    rcases keyIs_shape h with ⟨i, u, rfl, e⟩ | ⟨y, u, rfl, e⟩
    · exact nomatch e
    · injection e with e1 _
      subst e1
      cases v <;> rfl
theorem mixKind_int (prog : Program) (w : World) (i : Int) (t : Tok) : (mixKind prog w).is (.inl i) (.int i t) = true := keyIs_int i t
theorem mixKind_str (prog : Program) (w : World) (x : Str) (t : Tok) : (mixKind prog w).is (.inr x) (.str x t) = true := keyIs_str x t
end L2
namespace L2
open PySem PySem.Spec PyProof.Rows
inductive V where
  | non | bl (b : Bool) | int (i : Int) | str (x : Str) | byt (b : Array UInt8) | flt (b : UInt64) | ref (a : Addr) | ty (n : String)
  deriving DecidableEq
def RelV : V → Value → Prop
  | .non, u => u = Value.none
  | .bl b, u => u = Value.bool b
  | .int i, u => ∃ t, u = Value.int i t
  | .str x, u => ∃ t, u = Value.str x t
  | .byt b, u => ∃ t, u = Value.bytes b t
  | .flt b, u => ∃ t, u = Value.float b t
  | .ref a, u => u = Value.ref a
  | .ty n, u => u = Value.type n
abbrev Vals : List V → List Value → Prop := Paired RelV
theorem Vals.length {xs : List V} {us : List Value} (r : Vals xs us) : xs.length = us.length := Paired.length r
theorem Vals.get : ∀ {xs : List V} {us : List Value} {i : Nat} {x : V}, Vals xs us → xs[i]? = some x → ∃ u, us[i]? = some u ∧ RelV x u
  | _, _, _, _, .nil, e => by simp at e
  | _, _, 0, _, .cons r _, e => by simp at e; subst e; exact ⟨_, rfl, r⟩
  | _, _, i + 1, x, .cons _ t, e => by
    obtain ⟨u, h1, h2⟩ := Vals.get (i := i) (x := x) t (by simpa using e)
    exact ⟨u, by simpa using h1, h2⟩
theorem Vals.set {x : V} {u : Value} (r : RelV x u) : ∀ {xs : List V} {us : List Value} (i : Nat), Vals xs us → Vals (xs.set i x) (us.set i u)
  | _, _, _, .nil => .nil
  | _, _, 0, .cons _ t => .cons r t
  | _, _, i + 1, .cons q t => .cons q (Vals.set r i t)
theorem Vals.append : ∀ {xs ys : List V} {us ws : List Value}, Vals xs us → Vals ys ws → Vals (xs ++ ys) (us ++ ws)
  | _, _, _, _, .nil, s => s
  | _, _, _, _, .cons r t, s => .cons r (Vals.append t s)
theorem Vals.take : ∀ {xs : List V} {us : List Value} (n : Nat), Vals xs us → Vals (xs.take n) (us.take n)
  | _, _, 0, _ => .nil
  | _, _, _ + 1, .nil => .nil
  | _, _, n + 1, .cons r t => .cons r (Vals.take n t)
theorem Vals.drop : ∀ {xs : List V} {us : List Value} (n : Nat), Vals xs us → Vals (xs.drop n) (us.drop n)
  | _, _, 0, r => r
  | _, _, _ + 1, .nil => .nil
  | _, _, n + 1, .cons _ t => Vals.drop n t
theorem Vals.none_of : ∀ {xs : List V} {us : List Value} {i : Nat}, Vals xs us → xs[i]? = none → us[i]? = none := fun {xs us i} r e => by
  have h1 := r.length
  have h2 : xs.length ≤ i := List.getElem?_eq_none_iff.mp e
  exact List.getElem?_eq_none_iff.mpr (by omega)
def RelO : Option V → Option Value → Prop
  | some v, some u => RelV v u
  | none, none => True
  | _, _ => False
def KV {κ : Type} : List (κ × V) → List (κ × Value) → Prop := Paired fun (p : κ × V) (q : κ × Value) => p.1 = q.1 ∧ RelV p.2 q.2
def kV : Key → V
  | .inl i => .int i
  | .inr x => .str x
inductive HO where
    | lst (xs : List V)
    | tup (xs : List V)
    | dK (kvs : List (Key × V)) | dT (kvs : List (List Key × V))
    | set (S : Int → Bool) (n : Nat)
    | ins (C dx : Addr) (fs : List (Str × V))
    | own (x : Addr)
    | xd (fs : List (Str × V))
    | met (f x : Addr)
    | rng (lo hi : Int)
    | frz (o : Obj) (u : HO)
    | tbl (ps : Array Value)
    | ext (φ : Heap → Prop)
abbrev Hp := Addr → Option HO
def upd (H : Hp) (a : Addr) (o : HO) : Hp := fun b => if b = a then some o else H b
theorem upd_same {H : Hp} {a : Addr} {o : HO} : upd H a o a = some o := by unfold upd; rw [if_pos rfl]
theorem upd_ne {H : Hp} {a b : Addr} {o : HO} (h : b ≠ a) : upd H a o b = H b := by unfold upd; rw [if_neg h]
theorem ne_of {H : Hp} {a b : Addr} {o u : HO} (h : H a = some o) (h' : H b = some u) (d : o ≠ u) : a ≠ b := by
  intro e; subst e; rw [h] at h'; exact d (Option.some.inj h')
theorem ne_of_none {H : Hp} {a b : Addr} {o : HO} (h : H a = some o) (h' : H b = none) : a ≠ b := by
  intro e; subst e; rw [h] at h'; cases h'
section
variable (P : Program) (w : World)
def ObjOk (H : Hp) (h : Heap) (a : Addr) : HO → Prop
  | .lst xs => xs.length ≤ sizeLine ∧ ∃ (its : List Value) (n : Nat), Vals xs its ∧ h.get? a = some { cls := .type "list", data := .seq its.toArray n }
  | .tup xs => xs.length ≤ sizeLine ∧ ∃ its : List Value, Vals xs its ∧ IsTup h a its.toArray
  | .dK kvs => kvs.length ≤ sizeLine ∧ (a == sysModules) = false ∧ ∃ vs, KV kvs vs ∧ h.DictOf (mixKind P w) a vs
  | .dT kvs => kvs.length ≤ sizeLine ∧ (a == sysModules) = false ∧ ∃ xs : List (List Key × Addr × Value),
      Paired (fun (p : List Key × V) (q : List Key × Addr × Value) => p.1 = q.1 ∧ H q.2.1 = some (.tup (p.1.map kV)) ∧ RelV p.2 q.2.2) kvs xs ∧
      ∃ o es ep, h.get? a = some o ∧ o.ExactDict ∧ o.data = .dict es ep ∧ es.toList = xs.map (entryOfKey (tupleKind (mixKind P w))) ∧ (xs.map (·.1)).Nodup
  | .set S n => h.SetOf (intKind P w) a S n
  | .ins C dx fs => H dx = some (.own a) ∧ fs.length ≤ 1000 ∧ dx ≠ a ∧ h.get? a = some (PySem.W.instObj C dx) ∧
      ∃ mA, h.Ns1 dx mA ∧ (∀ f, RelO (fs.lookup f) (mA f)) ∧ PySem.Within mA (fs.map (·.1))
  | .own _ => ∃ o, h.get? a = some o
  | .xd fs => ∃ mA, h.Ns1 a mA ∧ ∀ f, RelO (fs.lookup f) (mA f)
  | .rng lo hi => ∃ t u v, h.get? a = some { cls := .type "range", data := .fields #[.int lo t, .int hi u, .int 1 v] }
  | .frz o u => h.get? a = some o ∧ ObjOk H h a u
  | .tbl ps => h.get? a = some { cls := .none, data := .fields ps }
  | .met f x => h.get? a = some (PySem.W.methodObj (.ref f) (.ref x))
  | .ext φ => φ h ∧ (∃ o, h.get? a = some o) ∧ ∀ h1 h2 : Heap, φ h1 → (∀ o, h1.get? a = some o → h2.get? a = some o) → φ h2
def HOk (H : Hp) (h : Heap) : Prop := ∀ a o, H a = some o → ObjOk P w H h a o
end
section
variable {P : Program} {w : World} {H H' : Hp} {h h' : Heap} {a : Addr} {o : HO}
theorem ObjOk.lt (x : ObjOk P w H h a o) : a < h.objs.size := by
  cases o with
  | lst xs => obtain ⟨_, _, _, _, e⟩ := x; exact Heap.lt_size e
  | tup xs => obtain ⟨_, _, _, p⟩ := x; exact p.lt
  | dK kvs => obtain ⟨_, _, _, _, o, _, _, e, _⟩ := x; exact Heap.lt_size e
  | dT kvs => obtain ⟨_, _, _, _, o, _, _, e, _⟩ := x; exact Heap.lt_size e
  | set S n => obtain ⟨o, _, _, _, e, _⟩ := x; exact Heap.lt_size e
  | ins C dx fs => obtain ⟨_, _, _, e, _⟩ := x; exact Heap.lt_size e
  | own y => obtain ⟨_, e⟩ := x; exact Heap.lt_size e
  | xd fs => obtain ⟨_, ⟨_, _, _, e, _⟩, _⟩ := x; exact Heap.lt_size e
  | rng lo hi => obtain ⟨_, _, _, e⟩ := x; exact Heap.lt_size e
  | frz ob u => obtain ⟨e, _⟩ := x; exact Heap.lt_size e
  | tbl ps => exact Heap.lt_size (show h.get? a = some _ from x)
  | met f y => exact Heap.lt_size (show h.get? a = some _ from x)
  | ext φ => obtain ⟨_, ⟨_, e⟩, _⟩ := x; exact Heap.lt_size e
theorem Paired.mapP {α β : Type} {F G : α → β → Prop} : ∀ {l₁ : List α} {l₂ : List β}, Paired F l₁ l₂ → (∀ a b, F a b → G a b) → Paired G l₁ l₂
  | _, _, .nil, _ => .nil
  | _, _, .cons r t, f => .cons (f _ _ r) (Paired.mapP t f)
theorem ObjOk.stay (x : ObjOk P w H h a o) (k : ∀ b u, (b = a ∨ H b = some (.own a)) → h.get? b = some u → h'.get? b = some u)
    (ho : ∀ b, H b = some (.own a) → H' b = some (.own a)) (ht : ∀ b xs, H b = some (.tup xs) → H' b = some (.tup xs)) : ObjOk P w H' h' a o := by
  induction o with
  | lst xs => obtain ⟨z, its, n, r, e⟩ := x; exact ⟨z, its, n, r, k _ _ (.inl rfl) e⟩
  | tup xs => obtain ⟨z, its, r, ob, e, c⟩ := x; exact ⟨z, its, r, ob, k _ _ (.inl rfl) e, c⟩
  | dK kvs => obtain ⟨z, y, vs, r, ob, es, ep, e, c⟩ := x; exact ⟨z, y, vs, r, ob, es, ep, k _ _ (.inl rfl) e, c⟩
  | dT kvs =>
    obtain ⟨z, y, xs, r, ob, es, ep, e, c⟩ := x
    exact ⟨z, y, xs, Paired.mapP r fun p q z => ⟨z.1, ht _ _ z.2.1, z.2.2⟩, ob, es, ep, k _ _ (.inl rfl) e, c⟩
  | set S n => obtain ⟨ob, es, ep, t, e, c⟩ := x; exact ⟨ob, es, ep, t, k _ _ (.inl rfl) e, c⟩
  | ins C dx fs =>
    obtain ⟨d, z, ne, e, mA, ⟨od, es, ep, e2, c⟩, r⟩ := x
    exact ⟨ho _ d, z, ne, k _ _ (.inl rfl) e, mA, ⟨od, es, ep, k _ _ (.inr d) e2, c⟩, r⟩
  | own y => obtain ⟨ob, e⟩ := x; exact ⟨ob, k _ _ (.inl rfl) e⟩
  | xd fs => obtain ⟨mA, ⟨od, es, ep, e, c⟩, r⟩ := x; exact ⟨mA, ⟨od, es, ep, k _ _ (.inl rfl) e, c⟩, r⟩
  | rng lo hi => obtain ⟨t, u, v, e⟩ := x; exact ⟨t, u, v, k _ _ (.inl rfl) e⟩
  | frz ob u ih => obtain ⟨e, q⟩ := x; exact ⟨k _ _ (.inl rfl) e, ih q⟩
  | tbl ps =>
    have e : h.get? a = some { cls := .none, data := .fields ps } := x
    show h'.get? a = some { cls := .none, data := .fields ps }
    exact k a _ (.inl rfl) e
  | met f y =>
    have e : h.get? a = some (PySem.W.methodObj (.ref f) (.ref y)) := x
    show h'.get? a = some (PySem.W.methodObj (.ref f) (.ref y))
    exact k a _ (.inl rfl) e
  | ext φ => obtain ⟨p, ⟨o, e⟩, st⟩ := x; exact ⟨st _ _ p fun o q => k _ _ (.inl rfl) q, ⟨o, k _ _ (.inl rfl) e⟩, st⟩
theorem HOk.lt (x : HOk P w H h) (e : H a = some o) : a < h.objs.size := (x a o e).lt
theorem HOk.fresh (x : HOk P w H h) (e : h.objs.size ≤ a) : H a = none := by
  cases q : H a with
  | none => rfl
  | some u => exact absurd (Nat.lt_of_lt_of_le (x.lt q) e) (Nat.lt_irrefl _)
theorem HOk.kept (x : HOk P w H h) (k : ∀ b u, h.get? b = some u → h'.get? b = some u) : HOk P w H h' := fun a o e =>
  (x a o e).stay (fun b u _ q => k b u q) (fun _ q => q) fun _ _ q => q
theorem HOk.laid (x : HOk P w H h) (k : ∀ b u, h.get? b = some u → h'.get? b = some u) (hp : h.objs.size ≤ a) (new : ObjOk P w (upd H a o) h' a o) : HOk P w (upd H a o) h' := fun b u e => by
  have hn := x.fresh hp
  by_cases hb : b = a
  · subst hb; rw [upd_same] at e; cases e; exact new
  · rw [upd_ne hb] at e
    exact (x b u e).stay (fun c v _ q => k c v q) (fun c q => by rw [upd_ne (ne_of_none q hn)]; exact q) fun c xs q => by rw [upd_ne (ne_of_none q hn)]; exact q
end
def Rd (H : Hp) (a : Addr) (u : HO) : Prop := H a = some u ∨ ∃ o, H a = some (.frz o u)
theorem Rd.of {H : Hp} {a : Addr} {u : HO} (h : H a = some u) : Rd H a u := .inl h
theorem Rd.ok {P : Program} {w : World} {H : Hp} {h : Heap} {a : Addr} {u : HO} (r : Rd H a u) (x : HOk P w H h) : ObjOk P w H h a u := by
  rcases r with r | ⟨o, r⟩
  · exact x a u r
  · obtain ⟨_, q⟩ := x a _ r
    exact q
def Mut : Option HO → Prop
  | some (.lst _) => True
  | some (.dK _) => True
  | some (.dT _) => True
  | some (.set _ _) => True
  | some (.ins _ _ _) => True
  | some (.ext _) => True
  | _ => False
section
variable {P : Program} {w : World} {H : Hp} {h h' : Heap} {x e : Addr} {o' : HO}
theorem HOk.write (ok : HOk P w H h) (mu : Mut (H x)) (he : e = x ∨ H e = some (.own x)) (k : ∀ b u, b ≠ e → h.get? b = some u → h'.get? b = some u) (heo : ∃ u, h'.get? e = some u)
    (new : ObjOk P w (upd H x o') h' x o') : HOk P w (upd H x o') h' := fun b u q => by
  have nown : ∀ c y, H c = some (.own y) → c ≠ x := fun c y r z => by subst z; rw [r] at mu; exact mu
  have ntup : ∀ c xs, H c = some (.tup xs) → c ≠ x := fun c xs r z => by subst z; rw [r] at mu; exact mu
  by_cases hb : b = x
  · subst hb; rw [upd_same] at q; cases q; exact new
  · rw [upd_ne hb] at q
    by_cases hbe : b = e
    · have q' : H b = some (.own x) := by
        rcases he with z | z
        · exact absurd (hbe.trans z) hb
        · rw [hbe]; exact z
      rw [q] at q'; cases q'
      obtain ⟨v, hv⟩ := heo
      exact ⟨v, by rw [hbe]; exact hv⟩
    · refine (ok b u q).stay (fun c v hc r => k c v ?_ r) (fun c r => by rw [upd_ne (nown c b r)]; exact r) fun c xs r => by rw [upd_ne (ntup c xs r)]; exact r
      rcases hc with rfl | hc
      · exact hbe
      · rintro rfl
        rcases he with z | z
        · exact nown c b hc z
        · rw [hc] at z; cases z; exact hb rfl
end
structure Un (fs ex : List Addr) (H H' : Hp) (h h' : Heap) : Prop where
  keep : ∀ b o, h.get? b = some o → H b = none → b ∉ fs → b ∉ ex → h'.get? b = some o
  slot : ∀ b o, h.get? b = some o → H b = none → b ∈ fs → b ∉ ex → ∃ sl, h'.get? b = some { o with slots := sl }
  free : ∀ b o, h.get? b = some o → H b = none → b ∉ ex → H' b = none
  there : ∀ b o, h.get? b = some o → b ∉ ex → ∃ o', h'.get? b = some o'
  tups : ∀ b xs, H b = some (.tup xs) → H' b = some (.tup xs)
  frzs : ∀ b o u, H b = some (.frz o u) → H' b = some (.frz o u)
  tbls : ∀ b ps, H b = some (.tbl ps) → ∃ more, H' b = some (.tbl (ps ++ more))
section
variable {fs fs' ex ex' : List Addr} {H H1 H2 : Hp} {h h1 h2 h' : Heap} {a x e : Addr} {o : HO}
theorem Un.any (u : Un fs ex H H1 h h1) {b : Addr} {ob : Obj} (q : h.get? b = some ob) (n : H b = none) (hx : b ∉ ex) : ∃ sl, h1.get? b = some { ob with slots := sl } := by
  by_cases hb : b ∈ fs
  · exact u.slot b ob q n hb hx
  · exact ⟨ob.slots, u.keep b ob q n hb hx⟩
theorem Un.trans (a : Un fs ex H H1 h h1) (b : Un fs ex H1 H2 h1 h2) : Un fs ex H H2 h h2 where
  keep := fun c ob q n hc hx => b.keep c ob (a.keep c ob q n hc hx) (a.free c ob q n hx) hc hx
  slot := fun c ob q n hc hx => by
    obtain ⟨sl, e1⟩ := a.slot c ob q n hc hx
    obtain ⟨sl', e2⟩ := b.slot c _ e1 (a.free c ob q n hx) hc hx
    exact ⟨sl', e2⟩
  free := fun c ob q n hx => by
    obtain ⟨o', e1⟩ := a.there c ob q hx
    exact b.free c o' e1 (a.free c ob q n hx) hx
  there := fun c ob q hx => by
    obtain ⟨o', e1⟩ := a.there c ob q hx
    exact b.there c o' e1 hx
  tups := fun c xs q => b.tups c xs (a.tups c xs q)
  frzs := fun c ob xs q => b.frzs c ob xs (a.frzs c ob xs q)
  tbls := fun c ps q => by
    obtain ⟨m1, e1⟩ := a.tbls c ps q
    obtain ⟨m2, e2⟩ := b.tbls c _ e1
    exact ⟨m1 ++ m2, by rw [e2, Array.append_assoc]⟩
theorem Un.kept (k : ∀ b u, h.get? b = some u → h'.get? b = some u) : Un fs ex H H h h' :=
  ⟨fun b ob q _ _ _ => k b ob q, fun b ob q _ _ _ => ⟨ob.slots, k b ob q⟩, fun _ _ _ n _ => n, fun b ob q _ => ⟨ob, k b ob q⟩, fun _ _ q => q, fun _ _ _ q => q, fun _ ps q => ⟨#[], by rw [q]; simp⟩⟩
theorem Un.refl : Un fs ex H H h h := Un.kept fun _ _ q => q
theorem Un.laid (k : ∀ b u, h.get? b = some u → h'.get? b = some u) (hp : h.objs.size ≤ a) (hn : H a = none) : Un fs ex H (upd H a o) h h' where
  keep := fun b u q _ _ _ => k b u q
  slot := fun b u q _ _ _ => ⟨u.slots, k b u q⟩
  free := fun b u q n _ => by rw [upd_ne (Nat.ne_of_lt (Nat.lt_of_lt_of_le (Heap.lt_size q) hp))]; exact n
  there := fun b u q _ => ⟨u, k b u q⟩
  tups := fun b xs q => by rw [upd_ne (ne_of_none q hn)]; exact q
  frzs := fun b u xs q => by rw [upd_ne (ne_of_none q hn)]; exact q
  tbls := fun b ps q => ⟨#[], by rw [upd_ne (ne_of_none q hn), q]; simp⟩
theorem Un.write (mu : Mut (H x)) (he : e = x ∨ H e = some (.own x)) (k : ∀ b u, b ≠ e → h.get? b = some u → h'.get? b = some u) (heo : ∃ u, h'.get? e = some u) : Un fs ex H (upd H x o) h h' := by
  have hx : ∀ b, H b = none → b ≠ x := fun b n z => by subst z; rw [n] at mu; exact mu
  have hb : ∀ b, H b = none → b ≠ e := fun b n z => by
    subst z
    rcases he with r | r
    · exact hx b n r
    · rw [n] at r; cases r
  have hm : ∀ b u, H b = some u → ¬ Mut (some u) → b ≠ x := fun b u q nm z => by subst z; rw [q] at mu; exact nm mu
  refine ⟨fun b u q n _ _ => k b u (hb b n) q, fun b u q n _ _ => ⟨u.slots, k b u (hb b n) q⟩, fun b u q n _ => by rw [upd_ne (hx b n)]; exact n, fun b u q _ => ?_,
    fun b xs q => by rw [upd_ne (hm b _ q fun z => z)]; exact q, fun b u xs q => by rw [upd_ne (hm b _ q fun z => z)]; exact q, fun b ps q => ⟨#[], by rw [upd_ne (hm b _ q fun z => z), q]; simp⟩⟩
  by_cases hbe : b = e
  · subst hbe; exact heo
  · exact ⟨u, k b u hbe q⟩
theorem Un.mono (u : Un fs ex H H1 h h1) (hs : ∀ b ∈ fs, b ∈ fs') (hx : ∀ b ∈ ex, b ∈ ex') : Un fs' ex' H H1 h h1 :=
  ⟨fun b ob q n hb he => u.keep b ob q n (fun z => hb (hs b z)) fun z => he (hx b z), fun _ _ q n _ he => u.any q n fun z => he (hx _ z), fun b ob q n he => u.free b ob q n fun z => he (hx b z), fun b ob q he => u.there b ob q fun z => he (hx b z), u.tups, u.frzs, u.tbls⟩
end
def trk (h : Heap) (H : Hp) : List Addr := (List.range h.objs.size).filter fun a => (H a).isSome
def hidT (h : Heap) (H : Hp) : Heap := PySem.W.hideAll h (trk h H)
theorem hidT_size (h : Heap) (H : Hp) : (hidT h H).objs.size = h.objs.size := PySem.W.hideAll_size _ _
theorem hidT_get {h : Heap} {H : Hp} {b : Addr} {o : Obj} (e : h.get? b = some o) (n : H b = none) : (hidT h H).get? b = some o :=
  PySem.W.hideAll_get _ e fun hm => by
    have q : (H b).isSome = true := (List.mem_filter.mp hm).2
    rw [n] at q; simp at q
theorem of_hidT {h : Heap} {H : Hp} {b : Addr} {o : Obj} (e : (hidT h H).get? b = some o) : h.get? b = some o ∧ H b = none := by
  have e' : h.get? b = some o := PySem.W.of_hideAll (trk h H) e
  refine ⟨e', ?_⟩
  cases q : H b with
  | none => rfl
  | some x =>
    have hm : b ∈ trk h H := List.mem_filter.mpr ⟨List.mem_range.mpr (Heap.lt_size e'), by simp [q]⟩
    have z : (hidT h H).get? b = none := PySem.W.hideAll_none (trk h H) hm
    rw [z] at e; cases e
def allNews (g h : Heap) (L : Addr) : List (Addr × Obj) := (List.range h.objs.size).filterMap fun a => if a = L ∨ (g.get? a).isSome = true then none else (h.get? a).map fun o => (a, o)
theorem of_mem_allNews {g h : Heap} {L : Addr} {p : Addr × Obj} (hp : p ∈ allNews g h L) : p.1 ≠ L ∧ g.get? p.1 = none ∧ h.get? p.1 = some p.2 := by
  obtain ⟨b, _, e⟩ := List.mem_filterMap.mp hp
  split at e
  · cases e
  · rename_i hn
    cases q : h.get? b with
    | none => rw [q] at e; simp at e
    | some u =>
      rw [q] at e
      simp only [Option.map_some, Option.some.injEq] at e
      subst e
      refine ⟨fun z => hn (.inl z), ?_, q⟩
      show g.get? b = none
      cases r : g.get? b with
      | none => rfl
      | some v => exact (hn (.inr (by simp [r]))).elim
def rest (g h : Heap) (L d : Addr) : List (Addr × Obj) := (allNews g h L).filter fun p => decide (p.1 ≠ d)
theorem news_all {g h : Heap} {L : Addr} : News g L h (allNews g h L) := fun p hp => let ⟨a, b, c⟩ := of_mem_allNews hp; ⟨c, a, b⟩
end L2
namespace L2
open PySem PySem.Spec PyProof.Rows
structure Mod (K : PySem.W.Frag) (mg : Str → Option Value) (base : Heap) : Prop where
  kin : K.In base
  glob : base.Ns mainGlobals mg
  blt : ∃ mb, base.Ns builtinsNs mb ∧ ∀ x : Str, x ≠ "__name__" → mb x = bootBuiltins x
  nolimit : base.NoLimit
structure Cx where
  prog : Program
  w : World
  K : PySem.W.Frag
  mg : Str → Option Value
  base : Heap
  A : Around
  N : List Str
  s₀ : Shared
  H₀ : Hp
  env : Env
  outer : List Env
  stack : List Env
  ex : List Addr
  fn : Str → Bool
  calm : Bool
  pn : List (Addr × Obj)
  xe : Value → Shared → Prop
def frs (l : List Env) : List Addr := l.filterMap (·.frame)
abbrev Cx.fs (X : Cx) : List Addr := frs X.outer
def Vis (sc : Scope) (x : Str) : Prop := sc.names.lookup x = some .local ∨ sc.names.lookup x = some .cell ∨ sc.names.lookup x = some .free
def Loc (sc : Scope) (x : Str) : Prop := sc.names.lookup x = some .local ∨ sc.names.lookup x = some .cell
def Look (env : Env) (h : Heap) (m : Str → Option Value) (x : Str) (u : Value) : Prop :=
  (env.kindOf x = some .local ∧ m x = some u) ∨ ((env.kindOf x = some .cell ∨ env.kindOf x = some .free) ∧ ∃ c, env.cells.lookup x = some c ∧ h.IsCell c (some u))
structure Cx.Ok (X : Cx) : Prop where
  mod : Mod X.K X.mg X.base
  kind : X.env.scope.kind = .function
  glob : X.env.globals = mainGlobals
  blt : X.env.builtins = builtinsNs
  above : X.s₀.heap.objs.size ≤ X.env.locals
  inj : ∀ x y c, X.env.cells.lookup x = some c → X.env.cells.lookup y = some c → x = y
  has : ∀ x, (X.env.kindOf x = some .cell ∨ X.env.kindOf x = some .free) → ∃ c, X.env.cells.lookup x = some c
  cab : ∀ x c, X.fn x = true → X.env.cells.lookup x = some c → X.s₀.heap.objs.size ≤ c
  hd : X.calm = true → X.A.handled = none
  frames : X.A.frames = some X.stack
  stk : X.stack = X.outer ∨ (X.stack = X.env :: X.outer ∧ X.env.frame = some X.env.locals)
  exf : ∀ b ∈ X.ex, b ≠ X.env.locals ∧ ∀ x c, X.env.cells.lookup x = some c → c ≠ b
  bs : ∀ b o, X.base.get? b = some o → X.s₀.heap.get? b = some o ∧ X.H₀ b = none
  bsz : X.base.objs.size ≤ X.s₀.heap.objs.size
  noex : ∀ b o, X.base.get? b = some o → b ∉ X.ex
  exfs : ∀ b ∈ X.ex, b ∉ X.fs
  funs : X.s₀.heap.FunFrames X.base X.outer
  frf : ∀ b ∈ X.fs, X.H₀ b = none
structure Inv (X : Cx) (pins : List (Addr × Obj)) (σ : List (Option V)) (H : Hp) (s : Shared) : Prop where
  ok : X.Ok
  os : s.os = X.s₀.os
  bare : AllBare s.gens
  base : Un X.fs X.ex X.H₀ H X.s₀.heap s.heap
  loc : ∃ m, s.heap.Ns X.env.locals m ∧ ∀ (i : Nat) (x : Str) (v : V), X.N[i]? = some x → σ[i]? = some (some v) → Vis X.env.scope x → ∃ u, RelV v u ∧ Look X.env s.heap m x u
  cell : ∀ x c, X.env.cells.lookup x = some c → ∃ v, s.heap.IsCell c v
  free : H X.env.locals = none
  freeC : ∀ x c, X.env.cells.lookup x = some c → H c = none
  pin : ∀ p ∈ X.pn ++ pins, s.heap.get? p.1 = some p.2 ∧ H p.1 = none ∧ p.1 ≠ X.env.locals ∧ p.1 ∉ X.fs ∧ ∀ v, p.2.data ≠ .cell v
  hok : HOk X.prog X.w H s.heap
  len : σ.length = X.N.length
section
variable {X : Cx} {pins : List (Addr × Obj)} {σ : List (Option V)} {H H' : Hp} {s : Shared} {h' : Heap}
theorem Cx.Ok.nofr (ok : X.Ok) {b : Addr} {o : Obj} (e : X.base.get? b = some o) : b ∉ X.fs := fun hb => by
  have := (ok.funs.mem hb).1
  rw [e] at this; cases this
theorem Inv.bs (I : Inv X pins σ H s) : ∀ b o, X.base.get? b = some o → s.heap.get? b = some o ∧ H b = none := fun b o e =>
  ⟨I.base.keep b o (I.ok.bs b o e).1 (I.ok.bs b o e).2 (I.ok.nofr e) (I.ok.noex b o e), I.base.free b o (I.ok.bs b o e).1 (I.ok.bs b o e).2 (I.ok.noex b o e)⟩
theorem Inv.bk (I : Inv X pins σ H s) : ∀ b o, X.base.get? b = some o → s.heap.get? b = some o := fun b o e => (I.bs b o e).1
theorem Inv.mod (I : Inv X pins σ H s) : Mod X.K X.mg X.base := I.ok.mod
theorem Inv.kIn (I : Inv X pins σ H s) : X.K.In s.heap := I.ok.mod.kin.keeps I.bk
theorem Inv.nolimit (I : Inv X pins σ H s) : s.heap.NoLimit := I.ok.mod.nolimit.keeps I.bk
theorem Inv.lt (I : Inv X pins σ H s) : X.env.locals < s.heap.objs.size := let ⟨_, hn, _⟩ := I.loc; hn.lt
theorem Inv.sz (I : Inv X pins σ H s) : X.s₀.heap.objs.size ≤ s.heap.objs.size := Nat.le_trans I.ok.above (Nat.le_of_lt I.lt)
theorem Inv.nofs (I : Inv X pins σ H s) {a : Addr} (h : s.heap.objs.size ≤ a) : a ∉ X.fs := fun hb => by
  obtain ⟨_, o, ho, _⟩ := I.ok.funs.mem hb
  exact absurd (Nat.lt_of_lt_of_le (Heap.lt_size ho) (Nat.le_trans I.sz h)) (Nat.lt_irrefl _)
theorem Inv.cne (I : Inv X pins σ H s) : ∀ x c, X.env.cells.lookup x = some c → c ≠ X.env.locals := fun x c e z => by
  obtain ⟨v, o, ho, hd⟩ := I.cell x c e
  obtain ⟨m, ⟨o', es, ep, ho', hd', _⟩, _⟩ := I.loc
  rw [z, ho'] at ho; cases ho; rw [hd'] at hd; cases hd
theorem Inv.funs (I : Inv X pins σ H s) : s.heap.FunFrames X.base X.outer := by
  have all : ∀ (l : List Env), (∀ b ∈ frs l, b ∈ X.fs) → X.s₀.heap.FunFrames X.base l → s.heap.FunFrames X.base l := by
    intro l
    induction l with
    | nil => intro _ _; trivial
    | cons env r ih =>
      intro hs hl
      obtain ⟨hk, ⟨L, o, hf, hn, ho, hd⟩, hr⟩ := hl
      have hL : L ∈ X.fs := hs L (by unfold frs; rw [List.filterMap_cons, hf]; exact List.mem_cons_self)
      obtain ⟨sl, e⟩ := I.base.slot L o ho (I.ok.frf L hL) hL fun z => I.ok.exfs L z hL
      exact ⟨hk, ⟨L, _, hf, hn, e, hd⟩, ih (fun b hb => hs b (by unfold frs; rw [List.filterMap_cons, hf]; exact List.mem_cons_of_mem _ hb)) hr⟩
  exact all X.outer (fun _ hb => hb) I.ok.funs
theorem Inv.stack (I : Inv X pins σ H s) : s.heap.FunFrames X.base X.stack := by
  rcases I.ok.stk with e | ⟨e, hf⟩
  · rw [e]; exact I.funs
  · rw [e]
    obtain ⟨m, hn, _⟩ := I.loc
    refine .cons (by rw [I.ok.kind]; decide) hf hn ?_ I.funs
    exact Heap.get?_none_of_le (Nat.le_trans I.ok.bsz I.ok.above)
theorem Inv.stkSub (I : Inv X pins σ H s) : ∀ b ∈ frs X.stack, b ∈ X.env.locals :: X.fs := fun b hb => by
  rcases I.ok.stk with e | ⟨e, hf⟩
  · rw [e] at hb; exact List.mem_cons_of_mem _ hb
  · rw [e] at hb
    unfold frs at hb
    rw [List.filterMap_cons, hf] at hb
    exact hb
theorem Inv.stkFree (I : Inv X pins σ H s) : ∀ b ∈ frs X.stack, H b = none := fun b hb => by
  rcases List.mem_cons.mp (I.stkSub b hb) with e | hb
  · rw [e]; exact I.free
  · obtain ⟨_, o, ho, _⟩ := I.ok.funs.mem hb
    exact I.base.free b o ho (I.ok.frf b hb) fun z => I.ok.exfs b z hb
theorem Inv.step {g' : Array GenState} {t' : Nat} {d' : Drawn} {ch : List Addr} (I : Inv X pins σ H s)
    (hch : ∀ b ∈ ch, (b ∈ X.ex ∨ X.s₀.heap.objs.size ≤ b) ∧ b ≠ X.env.locals ∧ (∀ x c, X.env.cells.lookup x = some c → c ≠ b) ∧ ∀ p ∈ X.pn ++ pins, p.1 ≠ b)
    (keep : ∀ b o, b ≠ X.env.locals → b ∉ X.fs → b ∉ ch → s.heap.get? b = some o → H b = none → h'.get? b = some o)
    (slot : ∀ b o, b ≠ X.env.locals → b ∈ X.fs → b ∉ ch → s.heap.get? b = some o → H b = none → ∃ sl, h'.get? b = some { o with slots := sl }) (free : ∀ b o, b ∉ ch → s.heap.get? b = some o → H b = none → H' b = none)
    (there : ∀ b o, b ∉ ch → s.heap.get? b = some o → ∃ o', h'.get? b = some o')
    (tups : ∀ b xs, H b = some (.tup xs) → H' b = some (.tup xs)) (frzs : ∀ b o u, H b = some (.frz o u) → H' b = some (.frz o u)) (tbls : ∀ b ps, H b = some (.tbl ps) → ∃ more, H' b = some (.tbl (ps ++ more)))
    (ns : ∀ m, s.heap.Ns X.env.locals m → h'.Ns X.env.locals m) (hok : HOk X.prog X.w H' h') (hg : AllBare g') :
    Inv X pins σ H' { s with heap := h', gens := g', drawn := d', toks := t' } := by
  have neL : ∀ b o, X.s₀.heap.get? b = some o → b ≠ X.env.locals := fun b o e => Nat.ne_of_lt (Nat.lt_of_lt_of_le (Heap.lt_size e) I.ok.above)
  have neC : ∀ b o, X.s₀.heap.get? b = some o → b ∉ X.ex → b ∉ ch := fun b o e hx hb => by
    rcases (hch b hb).1 with z | z
    · exact hx z
    · exact absurd (Nat.lt_of_lt_of_le (Heap.lt_size e) z) (Nat.lt_irrefl _)
  have cellK : ∀ x c, X.env.cells.lookup x = some c → ∀ v, s.heap.IsCell c v → h'.IsCell c v := fun x c e v ⟨o, ho, hd⟩ => by
    have nch : c ∉ ch := fun z => (hch c z).2.2.1 x c e rfl
    by_cases hc : c ∈ X.fs
    · obtain ⟨sl, q⟩ := slot c o (I.cne x c e) hc nch ho (I.freeC x c e)
      exact ⟨_, q, hd⟩
    · exact ⟨o, keep c o (I.cne x c e) hc nch ho (I.freeC x c e), hd⟩
  refine ⟨I.ok, I.os, hg, ⟨fun b o e n hb hx => ?_, fun b o e n hb hx => ?_, fun b o e n hx => ?_, fun b o e hx => ?_, fun b xs e => tups b xs (I.base.tups b xs e), fun b o xs e => frzs b o xs (I.base.frzs b o xs e), fun b ps e => ?_⟩, ?_, fun x c e => ?_, ?_, fun x c e => ?_, fun p hp => ?_, hok, I.len⟩
  · exact keep b o (neL b o e) hb (neC b o e hx) (I.base.keep b o e n hb hx) (I.base.free b o e n hx)
  · obtain ⟨sl, e1⟩ := I.base.slot b o e n hb hx
    obtain ⟨sl', e2⟩ := slot b _ (neL b o e) hb (neC b o e hx) e1 (I.base.free b o e n hx)
    exact ⟨sl', e2⟩
  · obtain ⟨o', e1⟩ := I.base.there b o e hx
    exact free b o' (neC b o e hx) e1 (I.base.free b o e n hx)
  · obtain ⟨o', e1⟩ := I.base.there b o e hx
    exact there b o' (neC b o e hx) e1
  · obtain ⟨m1, e1⟩ := I.base.tbls b ps e
    obtain ⟨m2, e2⟩ := tbls b _ e1
    exact ⟨m1 ++ m2, by rw [e2, Array.append_assoc]⟩
  · obtain ⟨m, hn, hl⟩ := I.loc
    refine ⟨m, ns m hn, fun i x v e1 e2 e3 => ?_⟩
    obtain ⟨u, r, l⟩ := hl i x v e1 e2 e3
    refine ⟨u, r, ?_⟩
    rcases l with l | ⟨k, c, e, z⟩
    · exact .inl l
    · exact .inr ⟨k, c, e, cellK x c e _ z⟩
  · obtain ⟨v, z⟩ := I.cell x c e
    exact ⟨v, cellK x c e v z⟩
  · obtain ⟨m, ⟨o, _, _, ho, _⟩, _⟩ := I.loc
    exact free _ o (fun z => (hch _ z).2.1 rfl) ho I.free
  · obtain ⟨v, o, ho, hd⟩ := I.cell x c e
    exact free c o (fun z => (hch c z).2.2.1 x c e rfl) ho (I.freeC x c e)
  · obtain ⟨e, n, ne, nf, d⟩ := I.pin p hp
    have nch : p.1 ∉ ch := fun z => (hch p.1 z).2.2.2 p hp rfl
    exact ⟨keep p.1 p.2 ne nf nch e n, free p.1 p.2 nch e n, ne, nf, d⟩
theorem Inv.un {t' : Nat} (I : Inv X pins σ H s) (u : Un X.fs [] H H' s.heap h') (hok : HOk X.prog X.w H' h') : Inv X pins σ H' { s with heap := h', toks := t' } := by
  obtain ⟨m, ⟨o, es, ep, ho, r⟩, _⟩ := id I.loc
  obtain ⟨sl, hL⟩ := u.any ho I.free (by simp)
  exact I.step (g' := s.gens) (d' := s.drawn) (ch := []) (fun _ z => nomatch z) (fun b o _ hb _ e n => u.keep b o e n hb (by simp)) (fun b o _ hb _ e n => u.slot b o e n hb (by simp)) (fun b o _ e n => u.free b o e n (by simp)) (fun b o _ e => u.there b o e (by simp)) u.tups u.frzs u.tbls (fun m' hm => by
    obtain ⟨o', es', ep', ho', r'⟩ := hm
    rw [ho] at ho'; cases ho'
    exact ⟨_, es', ep', hL, r'⟩) hok I.bare
theorem Inv.call {g' : Array GenState} {t' : Nat} {d' : Drawn} {ch : List Addr} (I : Inv X pins σ H s) (u : Un (frs X.stack) ch H H' s.heap h') (hok : HOk X.prog X.w H' h') (hg : AllBare g')
    (hch : ∀ b ∈ ch, (b ∈ X.ex ∨ X.s₀.heap.objs.size ≤ b) ∧ b ≠ X.env.locals ∧ (∀ x c, X.env.cells.lookup x = some c → c ≠ b) ∧ ∀ p ∈ X.pn ++ pins, p.1 ≠ b) :
    Inv X pins σ H' { s with heap := h', gens := g', drawn := d', toks := t' } := by
  obtain ⟨m, ⟨o, es, ep, ho, r⟩, _⟩ := id I.loc
  obtain ⟨sl, hL⟩ := u.any ho I.free fun z => (hch _ z).2.1 rfl
  exact I.step (ch := ch) hch (fun b o hL hb hc e n => u.keep b o e n (fun z => (List.mem_cons.mp (I.stkSub b z)).elim hL hb) hc) (fun b o _ _ hc e n => u.any e n hc) (fun b o hc e n => u.free b o e n hc) (fun b o hc e => u.there b o e hc) u.tups u.frzs u.tbls (fun m' hm => by
    obtain ⟨o', es', ep', ho', r'⟩ := hm
    rw [ho] at ho'; cases ho'
    exact ⟨_, es', ep', hL, r'⟩) hok hg
theorem Inv.turned {t' : Nat} {it : Addr} (I : Inv X pins σ H s) (k : ∀ b o, b ≠ it → s.heap.get? b = some o → h'.get? b = some o) (hn : H it = none) (hL : it ≠ X.env.locals)
    (h1 : it ∈ X.ex ∨ X.s₀.heap.objs.size ≤ it) (h2 : ∀ x c, X.env.cells.lookup x = some c → c ≠ it) (h3 : ∀ p ∈ X.pn ++ pins, p.1 ≠ it) : Inv X pins σ H { s with heap := h', toks := t' } := by
  have nit : ∀ b u, H b = some u → b ≠ it := fun b u e z => by rw [z, hn] at e; cases e
  refine I.step (g' := s.gens) (d' := s.drawn) (ch := [it]) (fun b hb => ?_) (fun b o _ _ hc e _ => k b o (fun z => hc (by simp [z])) e) (fun b o _ _ hc e _ => ⟨o.slots, k b o (fun z => hc (by simp [z])) e⟩) (fun _ _ _ _ n => n)
    (fun b o hc e => ⟨o, k b o (fun z => hc (by simp [z])) e⟩) (fun _ _ e => e) (fun _ _ _ e => e) (fun b ps e => ⟨#[], by rw [e]; simp⟩) (fun m hm => ?_) (fun b u e => ?_) I.bare
  · have e : b = it := by simpa using hb
    subst e
    exact ⟨h1, hL, h2, h3⟩
  · obtain ⟨o, es, ep, ho, r⟩ := hm
    exact ⟨o, es, ep, k _ o (Ne.symm hL) ho, r⟩
  · refine (I.hok b u e).stay (fun c v hc q => k c v ?_ q) (fun _ q => q) fun _ _ q => q
    rcases hc with z | z
    · rw [z]; exact nit b u e
    · exact nit c _ z
theorem Inv.tok (I : Inv X pins σ H s) (t : Nat) : Inv X pins σ H { s with toks := t } := I.un (h' := s.heap) (t' := t) Un.refl I.hok
theorem Inv.kept {t' : Nat} (I : Inv X pins σ H s) (k : ∀ b u, s.heap.get? b = some u → h'.get? b = some u) : Inv X pins σ H { s with heap := h', toks := t' } := I.un (Un.kept k) (I.hok.kept k)
theorem Inv.laid {a : Addr} {o : HO} {t' : Nat} (I : Inv X pins σ H s) (k : ∀ b u, s.heap.get? b = some u → h'.get? b = some u) (hp : s.heap.objs.size ≤ a) (new : ObjOk X.prog X.w (upd H a o) h' a o) :
    Inv X pins σ (upd H a o) { s with heap := h', toks := t' } := I.un (Un.laid k hp (I.hok.fresh hp)) (I.hok.laid k hp new)
theorem Inv.write {x e : Addr} {o : HO} {t' : Nat} (I : Inv X pins σ H s) (mu : Mut (H x)) (he : e = x ∨ H e = some (.own x)) (k : ∀ b u, b ≠ e → s.heap.get? b = some u → h'.get? b = some u) (heo : ∃ u, h'.get? e = some u)
    (new : ObjOk X.prog X.w (upd H x o) h' x o) : Inv X pins σ (upd H x o) { s with heap := h', toks := t' } := I.un (Un.write mu he k heo) (I.hok.write mu he k heo new)
theorem Inv.weak {σ' : List (Option V)} (I : Inv X pins σ H s) (hl : σ'.length = σ.length) (w : ∀ (i : Nat) v, σ'[i]? = some (some v) → σ[i]? = some (some v)) : Inv X pins σ' H s :=
  ⟨I.ok, I.os, I.bare, I.base, let ⟨m, hn, hl'⟩ := I.loc; ⟨m, hn, fun i x v e1 e2 e3 => hl' i x v e1 (w i v e2) e3⟩, I.cell, I.free, I.freeC, I.pin, I.hok, hl.trans I.len⟩
theorem Inv.pins_of {pins' : List (Addr × Obj)} (I : Inv X pins σ H s) (h : ∀ p ∈ pins', s.heap.get? p.1 = some p.2 ∧ H p.1 = none ∧ p.1 ≠ X.env.locals ∧ p.1 ∉ X.fs ∧ ∀ v, p.2.data ≠ .cell v) : Inv X pins' σ H s :=
  ⟨I.ok, I.os, I.bare, I.base, I.loc, I.cell, I.free, I.freeC, fun p hp => (List.mem_append.mp hp).elim (fun z => I.pin p (List.mem_append_left _ z)) (h p), I.hok, I.len⟩
theorem nodup_ix {N : List Str} (hN : N.Nodup) {i j : Nat} {x : Str} (a : N[i]? = some x) (b : N[j]? = some x) : i = j := by
  obtain ⟨h1, e1⟩ := List.getElem?_eq_some_iff.mp a
  obtain ⟨h2, e2⟩ := List.getElem?_eq_some_iff.mp b
  exact (List.getElem_inj hN).mp (e1.trans e2.symm)
theorem store_ok2 {M : Model} {A : Around} {E : Value → Shared → Prop} {i : Nat} {x : Str} {v : V} {u : Value} {Q : Unit → Shared → Prop} (I : Inv X pins σ H s) (hN : X.N.Nodup) (hi : X.N[i]? = some x) (hx : Loc X.env.scope x) (r : RelV v u)
    (h : ∀ s', Inv X pins (σ.set i (some v)) H s' → (∃ a, Heap.SameBut a s.heap s'.heap ∧ (a = X.env.locals ∨ X.env.cells.lookup x = some a)) → Q () s') (hf : X.fn x = true ∨ X.env.scope.names.lookup x = some .local := by first | exact .inl rfl | exact .inr rfl | assumption) : wpAny M A (storeName X.env x u) Q E s := by
  obtain ⟨m, hn, hl⟩ := id I.loc
  have hcls : (X.env.scope.kind == .class || (X.env.scope.kind == .module && X.env.locals != X.env.globals)) = false := by rw [I.ok.kind]; rfl
  have hiσ : i < σ.length := by rw [I.len]; exact (List.getElem?_eq_some_iff.mp hi).1
  have cne := I.cne
  have tracked : ∀ {a : Addr} {h' : Heap}, (∃ o, s.heap.get? a = some o ∧ H a = none) → Heap.SameBut a s.heap h' → HOk X.prog X.w H h' := fun {a h'} ha hs b ob e => by
    obtain ⟨_, _, hfree⟩ := ha
    refine (I.hok b ob e).stay (fun c w' hc q => (hs.2 c ?_).trans q) (fun _ q => q) fun _ _ q => q
    rintro rfl
    rcases hc with rfl | hc
    · rw [hfree] at e; cases e
    · rw [hfree] at hc; cases hc
  rcases hx with hk | hk
  · refine wpAny_storeName_local hk hn (fun h' hn' hs => ?_) hcls
    obtain ⟨oL, _, _, hoL, _⟩ := id hn
    refine h _ ⟨I.ok, I.os, I.bare, ⟨fun b o e n hb hx => ?_, fun b o e n hb hx => ?_, I.base.free, fun b o e hx => ?_, I.base.tups, I.base.frzs, I.base.tbls⟩, ⟨_, hn', fun j y v' e1 e2 e3 => ?_⟩, fun y c e => ?_, I.free, I.freeC, fun p hp => ?_, tracked ⟨oL, hoL, I.free⟩ hs, by simpa using I.len⟩ ⟨_, hs, .inl rfl⟩
    · exact (hs.2 b (Nat.ne_of_lt (Nat.lt_of_lt_of_le (Heap.lt_size e) I.ok.above))).trans (I.base.keep b o e n hb hx)
    · obtain ⟨sl, e1⟩ := I.base.slot b o e n hb hx
      exact ⟨sl, (hs.2 b (Nat.ne_of_lt (Nat.lt_of_lt_of_le (Heap.lt_size e) I.ok.above))).trans e1⟩
    · obtain ⟨o', e1⟩ := I.base.there b o e hx
      exact ⟨o', (hs.2 b (Nat.ne_of_lt (Nat.lt_of_lt_of_le (Heap.lt_size e) I.ok.above))).trans e1⟩
    · by_cases hj : j = i
      · subst hj
        rw [hi] at e1; cases e1
        rw [List.getElem?_set_self hiσ] at e2
        cases e2
        exact ⟨u, r, .inl ⟨hk, by simp⟩⟩
      · rw [List.getElem?_set_ne (Ne.symm hj)] at e2
        obtain ⟨u', r', q⟩ := hl j y v' e1 e2 e3
        refine ⟨u', r', ?_⟩
        rcases q with ⟨k, e⟩ | ⟨k, c, e, z⟩
        · refine .inl ⟨k, ?_⟩
          have : y ≠ x := fun e => hj (nodup_ix hN e1 (e ▸ hi))
          simp [this, e]
        · exact .inr ⟨k, c, e, z.sameBut hs (cne y c e)⟩
    · obtain ⟨w', z⟩ := I.cell y c e
      exact ⟨w', z.sameBut hs (cne y c e)⟩
    · obtain ⟨e, n, ne, nf, d⟩ := I.pin p hp
      exact ⟨(hs.2 p.1 ne).trans e, n, ne, nf, d⟩
  · have hfn : X.fn x = true := by
      rcases hf with z | z
      · exact z
      · rw [z] at hk; cases hk
    obtain ⟨c, hc⟩ := I.ok.has x (.inl hk)
    obtain ⟨w', z⟩ := I.cell x c hc
    refine wpAny_storeName_cell I.ok.kind hk hc z (fun h' hc' hs => ?_)
    obtain ⟨oc, hoc, hocd⟩ := id z
    refine h { s with heap := h' } ⟨I.ok, I.os, I.bare, ⟨fun b o e n hb hx => ?_, fun b o e n hb hx => ?_, I.base.free, fun b o e hx => ?_, I.base.tups, I.base.frzs, I.base.tbls⟩, ⟨m, hn.sameBut hs (Ne.symm (cne x c hc)), fun j y v' e1 e2 e3 => ?_⟩, fun y c' e => ?_, I.free, I.freeC, fun p hp => ?_, tracked ⟨oc, hoc, I.freeC x c hc⟩ hs, by simpa using I.len⟩ ⟨c, hs, .inr hc⟩
    · exact (hs.2 b (Nat.ne_of_lt (Nat.lt_of_lt_of_le (Heap.lt_size e) (I.ok.cab x c hfn hc)))).trans (I.base.keep b o e n hb hx)
    · obtain ⟨sl, e1⟩ := I.base.slot b o e n hb hx
      exact ⟨sl, (hs.2 b (Nat.ne_of_lt (Nat.lt_of_lt_of_le (Heap.lt_size e) (I.ok.cab x c hfn hc)))).trans e1⟩
    · obtain ⟨o', e1⟩ := I.base.there b o e hx
      exact ⟨o', (hs.2 b (Nat.ne_of_lt (Nat.lt_of_lt_of_le (Heap.lt_size e) (I.ok.cab x c hfn hc)))).trans e1⟩
    · by_cases hj : j = i
      · subst hj
        rw [hi] at e1; cases e1
        rw [List.getElem?_set_self hiσ] at e2
        cases e2
        exact ⟨u, r, .inr ⟨.inl hk, c, hc, hc'⟩⟩
      · rw [List.getElem?_set_ne (Ne.symm hj)] at e2
        obtain ⟨u', r', q⟩ := hl j y v' e1 e2 e3
        refine ⟨u', r', ?_⟩
        rcases q with q | ⟨k, c', e, z'⟩
        · exact .inl q
        · refine .inr ⟨k, c', e, z'.sameBut hs ?_⟩
          rintro rfl
          exact hj (nodup_ix hN e1 (I.ok.inj _ _ _ e hc ▸ hi))
    · by_cases hcc : c' = c
      · subst hcc; exact ⟨_, hc'⟩
      · obtain ⟨w2, z2⟩ := I.cell y c' e
        exact ⟨w2, z2.sameBut hs hcc⟩
    · obtain ⟨e, n, ne, nf, d⟩ := I.pin p hp
      refine ⟨(hs.2 p.1 ?_).trans e, n, ne, nf, d⟩
      intro q
      rw [q, hoc] at e
      have q' : oc = p.2 := Option.some.inj e
      exact d w' (by rw [← q']; exact hocd)
theorem store_ok {M : Model} {A : Around} {E : Value → Shared → Prop} {i : Nat} {x : Str} {v : V} {u : Value} {Q : Unit → Shared → Prop} (I : Inv X pins σ H s) (hN : X.N.Nodup) (hi : X.N[i]? = some x) (hx : Loc X.env.scope x) (r : RelV v u)
    (h : ∀ s', Inv X pins (σ.set i (some v)) H s' → Q () s') (hf : X.fn x = true ∨ X.env.scope.names.lookup x = some .local := by first | exact .inl rfl | exact .inr rfl | assumption) : wpAny M A (storeName X.env x u) Q E s :=
  store_ok2 I hN hi hx r (fun s' I' _ => h s' I') hf
theorem Inv.call' {s' : Shared} {ch : List Addr} (I : Inv X pins σ H s) (ho : s'.os = s.os) (u : Un (frs X.stack) ch H H' s.heap s'.heap) (hok : HOk X.prog X.w H' s'.heap) (hg : AllBare s'.gens)
    (hch : ∀ b ∈ ch, (b ∈ X.ex ∨ X.s₀.heap.objs.size ≤ b) ∧ b ≠ X.env.locals ∧ (∀ x c, X.env.cells.lookup x = some c → c ≠ b) ∧ ∀ p ∈ X.pn ++ pins, p.1 ≠ b) : Inv X pins σ H' s' := by
  obtain ⟨h', g', d', t', o'⟩ := s'
  have e : o' = s.os := ho
  subst e
  exact I.call (g' := g') (t' := t') (d' := d') u hok hg hch
end
abbrev XK := Value → Option Addr → Hp → Prop
abbrev St := List (Option V)
abbrev VK := V → Hp → Prop
abbrev TE := St → Hp → VK → Prop
abbrev TT := St → Hp → (Bool → Hp → Prop) → Prop
abbrev TA := St → Hp → (List V → Hp → Prop) → Prop
structure Ends where
  nx : St → Hp → Prop
  rt : VK
  bk : St → Hp → Prop := fun _ _ => False
  ct : St → Hp → Prop := fun _ _ => False
abbrev TS := Ends → St → Hp → Prop
def EP (X : Cx) (pins : List (Addr × Obj)) (σ : St) (Q : VK) (u : Value) (s' : Shared) : Prop := ∃ v H', Inv X pins σ H' s' ∧ RelV v u ∧ Q v H'
def TP (X : Cx) (pins : List (Addr × Obj)) (σ : St) (Q : Bool → Hp → Prop) (b : Bool) (s' : Shared) : Prop := ∃ H', Inv X pins σ H' s' ∧ Q b H'
def AP (X : Cx) (pins : List (Addr × Obj)) (σ : St) (Q : List V → Hp → Prop) (us : List Value) (s' : Shared) : Prop := ∃ vs H', Inv X pins σ H' s' ∧ Vals vs us ∧ Q vs H'
def SP (X : Cx) (pins : List (Addr × Obj)) (D : Ends) (f : Flow) (s' : Shared) : Prop :=
  match f with
  | .next => ∃ σ' H', Inv X pins σ' H' s' ∧ D.nx σ' H'
  | .brk => ∃ σ' H', Inv X pins σ' H' s' ∧ D.bk σ' H'
  | .cont => ∃ σ' H', Inv X pins σ' H' s' ∧ D.ct σ' H'
  | .ret u => ∃ v σ' H', Inv X pins σ' H' s' ∧ RelV v u ∧ D.rt v H'
def PE (X : Cx) (e : Expr) (t : TE) : Prop :=
  ∀ (pins : List (Addr × Obj)) (s : Shared) (σ : St) (H : Hp) (Q : VK), Inv X pins σ H s → t σ H Q → wpAny (model X.prog X.w) X.A (eval e X.env) (EP X pins σ Q) X.xe s
def PT (X : Cx) (e : Expr) (t : TT) : Prop :=
  ∀ (pins : List (Addr × Obj)) (s : Shared) (σ : St) (H : Hp) (Q : Bool → Hp → Prop), Inv X pins σ H s → t σ H Q → wpAny (model X.prog X.w) X.A (isTrue e X.env (eval e X.env)) (TP X pins σ Q) X.xe s
def PW (X : Cx) (e : Expr) (t : TT) : Prop :=
  ∀ (whole : Sem Value) (pins : List (Addr × Obj)) (s : Shared) (σ : St) (H : Hp) (Q : Bool → Hp → Prop), Inv X pins σ H s → t σ H Q → wpAny (model X.prog X.w) X.A (isTrue e X.env whole) (TP X pins σ Q) X.xe s
theorem PW.pt {X : Cx} {e : Expr} {t : TT} (h : PW X e t) : PT X e t := h _
def PA (X : Cx) (es : List Expr) (t : TA) : Prop :=
  ∀ (pos : Pos) (pins : List (Addr × Obj)) (s : Shared) (σ : St) (H : Hp) (Q : List V → Hp → Prop), Inv X pins σ H s → t σ H Q → wpAny (model X.prog X.w) X.A (spliced (backTo pos (starEach es X.env))) (AP X pins σ Q) X.xe s
def PS (X : Cx) (st : Stmt) (t : TS) : Prop :=
  ∀ (pins : List (Addr × Obj)) (s : Shared) (σ : St) (H : Hp) (D : Ends), Inv X pins σ H s → t D σ H → wpAny (model X.prog X.w) X.A (exec st X.env) (SP X pins D) X.xe s
def PSs (X : Cx) (st : List Stmt) (t : TS) : Prop :=
  ∀ (pins : List (Addr × Obj)) (s : Shared) (σ : St) (H : Hp) (D : Ends), Inv X pins σ H s → t D σ H → wpAny (model X.prog X.w) X.A (execs st X.env) (SP X pins D) X.xe s
theorem thn {α : Type} {t : Sem α} {Q Q' : α → Shared → Prop} {M : Model} {A : Around} {E : Value → Shared → Prop} {s : Shared} (h : wpAny M A t Q E s) (hQ : ∀ a s, Q a s → Q' a s) : wpAny M A t Q' E s := wpAny_mono h hQ fun _ _ x => x
end L2
namespace L2
open PySem PySem.Spec PyProof.Rows
section
variable {X : Cx}
def tVar (i : Nat) : TE := fun σ H Q => ∃ v, σ[i]? = some (some v) ∧ Q v H
def tC (v : V) : TE := fun _ H Q => Q v H
theorem pe_var {i : Nat} {x : Str} {pos : Pos} (hN : X.N[i]? = some x) (hv : Vis X.env.scope x) (hd : (x == ("__debug__" : Str)) = false := by decide) (hcd : (x == ("__classdict__" : Str)) = false := by decide) : PE X (.Name x pos) (tVar i) := by
  intro pins s σ H Q I h
  obtain ⟨v, e, h⟩ := h
  obtain ⟨m, hn, hl⟩ := I.loc
  obtain ⟨u, r, l⟩ := hl i x v hN e hv
  have fin : EP X pins σ Q u s := ⟨v, H, I, r, h⟩
  rcases l with ⟨hk, hm⟩ | ⟨hk, c, hc, hcell⟩
  · exact wpAny_Name (wpAny_loadName_local I.ok.kind hk hn hm fin) hd
  · rcases hk with hk | hk
    · exact wpAny_Name (wpAny_loadName_cell I.ok.kind hk hc hcell fin) hd
    · exact wpAny_Name (wpAny_loadName_free I.ok.kind hk hc hcell fin hcd) hd
theorem pe_int {i j pos} : PE X (.Constant (.int i) j pos) (tC (.int i)) := fun _ _ _ H _ I h => wpAny_Constant_int ⟨.int i, H, I.tok _, ⟨_, rfl⟩, h⟩
theorem pe_bl {b j pos} : PE X (.Constant (.bool b) j pos) (tC (.bl b)) := fun _ _ _ H _ I h => Constant_bool ⟨.bl b, H, I, rfl, h⟩
theorem pe_non {j pos} : PE X (.Constant .none j pos) (tC .non) := fun _ _ _ H _ I h => Constant_none ⟨.non, H, I, rfl, h⟩
def Gl (X : Cx) (x : Str) : Prop := X.env.kindOf x = some .globalImplicit
theorem ld_glob {E : Value → Shared → Prop} {pins : List (Addr × Obj)} {s : Shared} {σ : St} {H : Hp} {x : Str} {u : Value} {pos : Pos} {Q : Value → Shared → Prop} (I : Inv X pins σ H s) (hg : Gl X x) (hm : X.mg x = some u) (h : Q u s)
    (hd : (x == ("__debug__" : Str)) = false := by decide) : wpAny (model X.prog X.w) X.A (eval (.Name x pos) X.env) Q E s :=
  Calls.Name_function_global I.ok.kind hg (Calls.loadGlobal_global (by rw [I.ok.glob]; exact I.mod.glob.keeps I.bk) hm h) hd
theorem ld_blt {E : Value → Shared → Prop} {pins : List (Addr × Obj)} {s : Shared} {σ : St} {H : Hp} {x : Str} {u : Value} {pos : Pos} {Q : Value → Shared → Prop} (I : Inv X pins σ H s) (hg : Gl X x) (hm : X.mg x = none) (hv : bootBuiltins x = some u) (h : Q u s)
    (hn : x ≠ "__name__" := by decide) (hd : (x == ("__debug__" : Str)) = false := by decide) : wpAny (model X.prog X.w) X.A (eval (.Name x pos) X.env) Q E s := by
  obtain ⟨mb, h1, h2⟩ := I.mod.blt
  exact Calls.Name_function_global I.ok.kind hg (Calls.loadGlobal_builtin (by rw [I.ok.glob]; exact I.mod.glob.keeps I.bk) hm (by rw [I.ok.blt]; exact h1.keeps I.bk) ((h2 x hn).trans hv) h) hd
variable {a b : Expr} {ta tb : TE} {pos : Pos}
def PC (X : Cx) (op : CmpOp) (a b : Expr) (t : TE) : Prop :=
  ∀ (pins : List (Addr × Obj)) (s : Shared) (σ : St) (H : Hp) (Q : VK), Inv X pins σ H s → t σ H Q →
    wpAny (model X.prog X.w) X.A (eval a X.env) (fun v s₁ => wpAny (model X.prog X.w) X.A (eval b X.env) (fun u s₂ => wpAny (model X.prog X.w) X.A (compareOp op v u) (EP X pins σ Q) X.xe s₂) X.xe s₁) X.xe s
theorem nobehind (b : Expr) {op : CmpOp} (h : op ≠ .In) (h2 : op ≠ .NotIn) : behindInMarks op b = false := by
  have e1 : (op == CmpOp.In) = false := by cases op <;> first | rfl | exact absurd rfl h
  have e2 : (op == CmpOp.NotIn) = false := by cases op <;> first | rfl | exact absurd rfl h2
  cases b <;> simp [behindInMarks, e1, e2]
def tB (t : TE) : TT := fun σ H Q => t σ H fun x H1 => ∃ c, x = .bl c ∧ Q c H1
theorem pt_cmp {op : CmpOp} {t : TE} (h : PC X op a b t) (h1 : behindInMarks op b = false := by first | exact nobehind _ (by decide) (by decide) | rfl) : PT X (.Compare a [op] [b] pos) (tB t) := by
  intro pins s σ H Q I hw
  refine wpAny_isTrue_Compare1 (thn (h pins s σ H _ I hw) fun v s1 h1 => thn h1 fun u s2 h2 => thn h2 fun c s3 ⟨x, H1, I1, r1, q1⟩ => ?_) h1
  obtain ⟨d, rfl, q⟩ := q1
  cases r1
  exact wpAny_truthy_bool ⟨H1, I1, q⟩
theorem pt_val {e : Expr} {t : TE} (h : PE X e t) (he : ∀ whole, isTrue e X.env whole = (do let v ← whole; standAt e.pos; holding [v] (truthy v)) := by intro _; rfl) : PT X e (tB t) := by
  intro pins s σ H Q I hw
  refine isTrue_plain (thn (h pins s σ H _ I hw) fun v s1 ⟨x, H1, I1, r1, q1⟩ => ?_) (he _)
  obtain ⟨d, rfl, q⟩ := q1
  cases r1
  exact wpAny_truthy_bool ⟨H1, I1, q⟩
variable {tA tB' : TT} {rest : List Expr}
def tAnd (t u : TT) : TT := fun σ H Q => t σ H fun c H1 => if c = true then u σ H1 Q else Q false H1
def tOr (t u : TT) : TT := fun σ H Q => t σ H fun c H1 => if c = true then Q true H1 else u σ H1 Q
def tNot (t : TT) : TT := fun σ H Q => t σ H fun c H1 => Q (!c) H1
theorem pw_and1 (ha : PT X a tA) : PW X (.BoolOp .And [a] pos) tA := by
  intro wh pins s σ H Q I h
  refine isTrue_and (thn (ha pins s σ H Q I h) fun c s1 e => ?_)
  cases c with
  | true => exact isTrue_and_nil e
  | false => exact e
theorem pw_or1 (ha : PT X a tA) : PW X (.BoolOp .Or [a] pos) tA := by
  intro wh pins s σ H Q I h
  refine isTrue_or (thn (ha pins s σ H Q I h) fun c s1 e => ?_)
  cases c with
  | false => exact isTrue_or_nil e
  | true => exact e
theorem pw_and (ha : PT X a tA) (hb : PW X (.BoolOp .And (b :: rest) pos) tB') : PW X (.BoolOp .And (a :: b :: rest) pos) (tAnd tA tB') := by
  intro wh pins s σ H Q I h
  refine isTrue_and (thn (ha pins s σ H _ I h) fun c s1 ⟨H1, I1, q1⟩ => ?_)
  cases c with
  | true => exact hb wh pins s1 σ H1 Q I1 q1
  | false => exact ⟨H1, I1, q1⟩
theorem pw_or (ha : PT X a tA) (hb : PW X (.BoolOp .Or (b :: rest) pos) tB') : PW X (.BoolOp .Or (a :: b :: rest) pos) (tOr tA tB') := by
  intro wh pins s σ H Q I h
  refine isTrue_or (thn (ha pins s σ H _ I h) fun c s1 ⟨H1, I1, q1⟩ => ?_)
  cases c with
  | true => exact ⟨H1, I1, q1⟩
  | false => exact hb wh pins s1 σ H1 Q I1 q1
theorem pt_not (ha : PT X a tA) : PT X (.UnaryOp .Not a pos) (tNot tA) := by
  intro pins s σ H Q I h
  exact isTrue_not (ha pins s σ H (fun c H1 => Q (!c) H1) I h)
def tAndV (ta tb : TE) : TE := fun σ H Q => ta σ H fun x H1 => ∃ c, x = .bl c ∧ if c = true then tb σ H1 Q else Q (.bl false) H1
theorem pe_one {op} {t : TE} (h : PE X a t) : PE X (.BoolOp op [a] pos) t := fun pins s σ H Q I hw => BoolOp_one (h pins s σ H Q I hw)
theorem pe_and (ha : PE X a ta) (hb : PE X (.BoolOp .And (b :: rest) pos) tb) : PE X (.BoolOp .And (a :: b :: rest) pos) (tAndV ta tb) := by
  intro pins s σ H Q I h
  refine BoolOp_and (thn (ha pins s σ H _ I h) fun v s1 ⟨x, H1, I1, r1, q1⟩ => ?_)
  obtain ⟨c, rfl, q1⟩ := q1
  cases r1
  refine wpAny_truthy_bool ?_
  cases c with
  | true => exact hb pins s1 σ H1 Q I1 q1
  | false => exact ⟨.bl false, H1, I1, rfl, q1⟩
end
end L2
namespace L2
open PySem PySem.Spec PyProof.Rows
def SqL (K : PySem.W.Frag) (H : Hp) (a : Addr) (xs : List V) : Prop :=
  Rd H a (.lst xs) ∨
    ∃ (o : Obj) (its : Array Value) (n : Nat), K.lookup a = some o ∧ o.cls = .type "list" ∧ o.dict = none ∧ o.data = .seq its n ∧ its.size ≤ sizeLine ∧ Vals xs its.toList
def SqT (K : PySem.W.Frag) (H : Hp) (a : Addr) (xs : List V) : Prop :=
  Rd H a (.tup xs) ∨
    ∃ (o : Obj) (its : Array Value) (n : Nat), K.lookup a = some o ∧ o.cls = .type "tuple" ∧ o.data = .seq its n ∧ its.size ≤ sizeLine ∧ Vals xs its.toList
def absV : Value → Option V
  | .none => some .non
  | .bool b => some (.bl b)
  | .int i _ => some (.int i)
  | .str x _ => some (.str x)
  | .bytes b _ => some (.byt b)
  | .float b _ => some (.flt b)
  | .ref a => some (.ref a)
  | .type n => some (.ty n)
  | _ => none
theorem RelV.abs {x : V} {u : Value} (r : RelV x u) : absV u = some x := by
  cases x with
  | non => cases r; rfl
  | bl _ => cases r; rfl
  | int _ => obtain ⟨t, rfl⟩ := r; rfl
  | str _ => obtain ⟨t, rfl⟩ := r; rfl
  | byt _ => obtain ⟨t, rfl⟩ := r; rfl
  | flt _ => obtain ⟨t, rfl⟩ := r; rfl
  | ref _ => cases r; rfl
  | ty _ => cases r; rfl
theorem RelV.inj {x y : V} {u : Value} (r : RelV x u) (q : RelV y u) : x = y := Option.some.inj (r.abs.symm.trans q.abs)
theorem Vals.inj : ∀ {xs ys : List V} {us : List Value}, Vals xs us → Vals ys us → xs = ys
  | _, _, _, .nil, .nil => rfl
  | _, _, _, .cons r t, .cons r' t' => by rw [r.inj r', Vals.inj t t']
section
variable {X : Cx} {pins : List (Addr × Obj)} {σ : St} {H : Hp} {s : Shared} {a : Addr} {xs ys : List V}
theorem SqL.of {K : PySem.W.Frag} (h : H a = some (.lst xs)) : SqL K H a xs := .inl (.inl h)
theorem SqT.of {K : PySem.W.Frag} (h : H a = some (.tup xs)) : SqT K H a xs := .inl (.inl h)
theorem Inv.list (I : Inv X pins σ H s) (h : SqL X.K H a xs) : ∃ its : List Value, Vals xs its ∧ PlainL s.heap a its.toArray ∧ xs.length ≤ sizeLine := by
  rcases h with h | ⟨o, its, n, hk, hc, hd, hs, hz, r⟩
  · obtain ⟨z, its, n, r, e⟩ := h.ok I.hok
    exact ⟨its, r, ⟨_, n, e, rfl, rfl, rfl⟩, z⟩
  · refine ⟨its.toList, r, ⟨o, n, I.kIn a o hk, hc, hd, by simpa using hs⟩, ?_⟩
    have e := r.length
    simp only [Array.length_toList] at e
    omega
theorem Inv.tuple (I : Inv X pins σ H s) (h : SqT X.K H a xs) : ∃ its : List Value, Vals xs its ∧ IsTup s.heap a its.toArray ∧ xs.length ≤ sizeLine := by
  rcases h with h | ⟨o, its, n, hk, hc, hs, hz, r⟩
  · obtain ⟨z, its, r, p⟩ := h.ok I.hok
    exact ⟨its, r, p, z⟩
  · refine ⟨its.toList, r, ⟨o, I.kIn a o hk, hc, n, by simpa using hs⟩, ?_⟩
    have e := r.length
    simp only [Array.length_toList] at e
    omega
theorem Inv.list_inj (I : Inv X pins σ H s) (h : SqL X.K H a xs) (h' : SqL X.K H a ys) : xs = ys := by
  obtain ⟨its, r, ⟨o, n, e, _, _, d⟩, _⟩ := I.list h
  obtain ⟨its', r', ⟨o', n', e', _, _, d'⟩, _⟩ := I.list h'
  rw [e] at e'; cases e'
  rw [d] at d'
  injection d' with d1 _
  have : its = its' := by simpa using congrArg Array.toList d1
  subst this
  exact r.inj r'
end
abbrev Cx.wish (X : Cx) (E : Value → Shared → Prop) : Cx := { X with xe := E }
abbrev Cx.nox (X : Cx) : Cx := X.wish fun _ _ => False
theorem Cx.Ok.wish {X : Cx} (ok : X.Ok) (E : Value → Shared → Prop) : (X.wish E).Ok :=
  ⟨ok.mod, ok.kind, ok.glob, ok.blt, ok.above, ok.inj, ok.has, ok.cab, ok.hd, ok.frames, ok.stk, ok.exf, ok.bs, ok.bsz, ok.noex, ok.exfs, ok.funs, ok.frf⟩
theorem Cx.Ok.unwish {X : Cx} {E : Value → Shared → Prop} (ok : (X.wish E).Ok) : X.Ok :=
  ⟨ok.mod, ok.kind, ok.glob, ok.blt, ok.above, ok.inj, ok.has, ok.cab, ok.hd, ok.frames, ok.stk, ok.exf, ok.bs, ok.bsz, ok.noex, ok.exfs, ok.funs, ok.frf⟩
section
variable {X : Cx} {pins : List (Addr × Obj)} {σ : St} {H : Hp} {s : Shared} {E : Value → Shared → Prop}
theorem Inv.wish (I : Inv X pins σ H s) (E : Value → Shared → Prop) : Inv (X.wish E) pins σ H s := ⟨I.ok.wish E, I.os, I.bare, I.base, I.loc, I.cell, I.free, I.freeC, I.pin, I.hok, I.len⟩
theorem Inv.unwish (I : Inv (X.wish E) pins σ H s) : Inv X pins σ H s := ⟨I.ok.unwish, I.os, I.bare, I.base, I.loc, I.cell, I.free, I.freeC, I.pin, I.hok, I.len⟩
theorem SP.unwish {D : Ends} {f : Flow} {s' : Shared} (h : SP (X.wish E) pins D f s') : SP X pins D f s' := by
  cases f with
  | next => obtain ⟨σ', H', I, q⟩ := h; exact ⟨σ', H', I.unwish, q⟩
  | brk => obtain ⟨σ', H', I, q⟩ := h; exact ⟨σ', H', I.unwish, q⟩
  | cont => obtain ⟨σ', H', I, q⟩ := h; exact ⟨σ', H', I.unwish, q⟩
  | ret u => obtain ⟨v, σ', H', I, r, q⟩ := h; exact ⟨v, σ', H', I.unwish, r, q⟩
theorem PE.nox {e : Expr} {t : TE} (h : PE X.nox e t) : PE X e t := fun pins s σ H Q I hw =>
  wpAny_mono (h pins s σ H Q (I.wish _) hw) (fun _ _ ⟨v, H', I', r, q⟩ => ⟨v, H', I'.unwish, r, q⟩) fun _ _ z => False.elim z
theorem PT.nox {e : Expr} {t : TT} (h : PT X.nox e t) : PT X e t := fun pins s σ H Q I hw =>
  wpAny_mono (h pins s σ H Q (I.wish _) hw) (fun _ _ ⟨H', I', q⟩ => ⟨H', I'.unwish, q⟩) fun _ _ z => False.elim z
theorem PSs.nox {st : List Stmt} {t : TS} (h : PSs X.nox st t) : PSs X st t := fun pins s σ H D I hw =>
  wpAny_mono (h pins s σ H D (I.wish _) hw) (fun _ _ q => q.unwish) fun _ _ z => False.elim z
end
section
variable {X : Cx} {st : Stmt} {rest : List Stmt} {t u : TS} {e : Expr} {te : TE} {pos : Pos}
def tNext : TS := fun D σ H => D.nx σ H
def tSeq (t u : TS) : TS := fun D σ H => t { D with nx := u D } σ H
theorem pss_nil : PSs X [] tNext := fun _ _ σ H _ I h => wpAny_execs_nil ⟨σ, H, I, h⟩
theorem pss_cons (h1 : PS X st t) (h2 : PSs X rest u) : PSs X (st :: rest) (tSeq t u) := by
  intro pins s σ H D I h
  refine wpAny_execs_cons (thn (h1 pins s σ H { D with nx := u D } I h) fun f s1 q => ?_)
  cases f with
  | next =>
    obtain ⟨σ', H', I', q⟩ := q
    exact h2 pins s1 σ' H' D I' q
  | ret v => exact q
  | brk => exact q
  | cont => exact q
theorem pss_one (h1 : PS X st t) : PSs X [st] t := by
  intro pins s σ H D I h
  refine wpAny_execs_cons (thn (h1 pins s σ H D I h) fun f s1 q => ?_)
  cases f with
  | next => exact wpAny_execs_nil q
  | ret v => exact q
  | brk => exact q
  | cont => exact q
theorem Inv.quiet {pins : List (Addr × Obj)} {σ : St} {H : Hp} {s : Shared} (I : Inv X pins σ H s) : interactive X.env = false := by simp [interactive, I.ok.kind]
def tDrop (te : TE) : TS := fun D σ H => te σ H fun _ H1 => D.nx σ H1
theorem ps_expr (he : PE X e te) (hs : swapsWith e none pos.line X.env = pure false := by rfl) : PS X (.Expr e pos) (tDrop te) := by
  intro pins s σ H D I h
  exact wpAny_Expr_any (thn (he pins s σ H _ I h) fun v s1 ⟨x, H1, I1, r1, q1⟩ => ⟨σ, H1, I1, q1⟩) I.quiet hs
def tRet (te : TE) : TS := fun D σ H => te σ H D.rt
theorem ps_ret (he : PE X e te) : PS X (.Return (some e) pos) (tRet te) := by
  intro pins s σ H D I h
  exact wpAny_Return_some (thn (he pins s σ H _ I h) fun v s1 ⟨x, H1, I1, r1, q1⟩ => ⟨x, σ, H1, I1, r1, q1⟩)
def tIfS (c : TT) (t u : TS) : TS := fun D σ H => c σ H fun b H1 => if b = true then t D σ H1 else u D σ H1
theorem ps_if {c : Expr} {a b : List Stmt} {tc : TT} (hc : PT X c tc) (ha : PSs X a t) (hb : PSs X b u) : PS X (.If c a b pos) (tIfS tc t u) := by
  intro pins s σ H D I h
  refine wpAny_If (thn (hc pins s σ H _ I h) fun d s1 ⟨H1, I1, q1⟩ => ?_)
  cases d with
  | true => exact ha pins s1 σ H1 D I1 q1
  | false => exact hb pins s1 σ H1 D I1 q1
end
abbrev TG := V → St → Hp → (St → Hp → Prop) → Prop
abbrev TGs := List V → St → Hp → (St → Hp → Prop) → Prop
def PG (X : Cx) (target : Expr) (t : TG) : Prop :=
  ∀ (pins : List (Addr × Obj)) (s : Shared) (σ : St) (H : Hp) (v : V) (u : Value) (Q : St → Hp → Prop), Inv X pins σ H s → RelV v u → t v σ H Q →
    wpAny (model X.prog X.w) X.A (assign target X.env u) (fun _ s' => ∃ σ' H', Inv X pins σ' H' s' ∧ Q σ' H') X.xe s
def PGs (X : Cx) (ts : List Expr) (t : TGs) : Prop :=
  ∀ (pins : List (Addr × Obj)) (s : Shared) (σ : St) (H : Hp) (vs : List V) (us : List Value) (Q : St → Hp → Prop), Inv X pins σ H s → Vals vs us → t vs σ H Q →
    wpAny (model X.prog X.w) X.A (assignInOrder ((assignEach ts X.env).map (·.2)) us) (fun _ s' => ∃ σ' H', Inv X pins σ' H' s' ∧ Q σ' H') X.xe s
abbrev TSet := V → V → V → Hp → (Hp → Prop) → Prop
def PSet (X : Cx) (t : TSet) : Prop :=
  ∀ (pins : List (Addr × Obj)) (s : Shared) (σ : St) (H : Hp) (o i v : V) (ov iv u : Value) (Q : Hp → Prop), Inv X pins σ H s → RelV o ov → RelV i iv → RelV v u → t o i v H Q →
    wpAny (model X.prog X.w) X.A (setItem ov iv u) (fun _ s' => ∃ H', Inv X pins σ H' s' ∧ Q H') X.xe s
section
variable {X : Cx} {pos : Pos}
def gName (i : Nat) : TG := fun v σ H Q => Q (σ.set i (some v)) H
theorem pg_name {i : Nat} {x : Str} (hN : X.N.Nodup) (hi : X.N[i]? = some x) (hx : Loc X.env.scope x) (hf : X.fn x = true ∨ X.env.scope.names.lookup x = some .local := by first | exact .inl rfl | exact .inr rfl | assumption) : PG X (.Name x pos) (gName i) := by
  intro pins s σ H v u Q I r h
  exact wpAny_assign_Name (store_ok I hN hi hx r (fun s' I' => ⟨_, H, I', h⟩) hf)
def gNil : TGs := fun vs σ H Q => vs = [] ∧ Q σ H
def gCons (t : TG) (u : TGs) : TGs := fun vs σ H Q => ∃ v r, vs = v :: r ∧ t v σ H fun σ' H' => u r σ' H' Q
theorem pgs_nil : PGs X [] gNil := by
  intro pins s σ H vs us Q I r h
  obtain ⟨e, h⟩ := h
  subst e
  cases r
  exact assignInOrder_nil ⟨σ, H, I, h⟩
theorem pgs_cons {e : Expr} {es : List Expr} {t : TG} {u : TGs} (h1 : PG X e t) (h2 : PGs X es u)
    (hs : (assignEach (e :: es) X.env).map (·.2) = assign e X.env :: (assignEach es X.env).map (·.2) := by rfl) : PGs X (e :: es) (gCons t u) := by
  intro pins s σ H vs us Q I r h
  obtain ⟨v, vr, e1, h⟩ := h
  subst e1
  cases r with
  | cons r rr =>
    rw [hs]
    refine assignInOrder_cons (thn (h1 pins s σ H _ _ _ I r h) fun _ s1 ⟨σ1, H1, I1, q1⟩ => ?_)
    exact h2 pins s1 σ1 H1 _ _ Q I1 rr q1
def gTup (K : PySem.W.Frag) (n : Nat) (t : TGs) : TG := fun v σ H Q => ∃ a xs, v = .ref a ∧ SqT K H a xs ∧ xs.length = n ∧ t xs σ H Q
theorem pg_tup {es : List Expr} {k : Nat} {t : TGs} {n : Nat} (hc : X.calm = true) (h : PGs X es t)
    (hn : (assignEach es X.env).length = n := by rfl) (hst : (assignEach es X.env).findIdx? (·.1) = none := by rfl) : PG X (.Tuple es k pos) (gTup X.K n t) := by
  intro pins s σ H v u Q I r hw
  obtain ⟨a, xs, e1, hq, hl, hw⟩ := hw
  subst e1
  cases r
  obtain ⟨its, rv, ht, hz⟩ := I.tuple hq
  refine assign_Tuple_tuple (I.ok.hd hc) ht (by simp [hn, ← hl, rv.length]) hst fun h' hx => ?_
  have I1 : Inv X pins σ H { s with heap := h' } := I.kept (t' := s.toks) fun b o e => hx b o (Nat.ne_of_lt (Heap.lt_size e)) e
  exact h pins _ σ H xs _ Q I1 (by simpa using rv) hw
def gSub (to ti : TE) (t : TSet) : TG := fun v σ H Q => to σ H fun o H1 => ti σ H1 fun i H2 => t o i v H2 fun H3 => Q σ H3
theorem pg_sub {o i : Expr} {to ti : TE} {t : TSet} (ho : PE X o to) (hi : PE X i ti) (hs : PSet X t)
    (ha : ∀ v, assign (.Subscript o i pos) X.env v = (do
      let ov ← holding [v] (eval o X.env)
      let iv ← holding [v, ov] (eval i X.env)
      standAt pos
      holding [v, ov, iv] (setItem ov iv v)
      release [v, ov, iv] []) := by intro _; rfl) : PG X (.Subscript o i pos) (gSub to ti t) := by
  intro pins s σ H v u Q I r h
  rw [ha]
  refine wpAny_bind (wpAny_holding (thn (ho pins s σ H _ I h) fun ov s1 ⟨x, H1, I1, r1, q1⟩ => ?_))
  refine wpAny_bind (wpAny_holding (thn (hi pins s1 σ H1 _ I1 q1) fun iv s2 ⟨y, H2, I2, r2, q2⟩ => ?_))
  refine wpAny_bind (wpAny_standAt (wpAny_bind (wpAny_holding (thn (hs pins s2 σ H2 x y v ov iv u _ I2 r1 r2 r q2) fun _ s3 ⟨H3, I3, q3⟩ => ?_))))
  exact wpAny_release ⟨σ, H3, I3, q3⟩
def tAsg (te : TE) (g : TG) : TS := fun D σ H => te σ H fun x H1 => g x σ H1 D.nx
theorem ps_asg {tg e : Expr} {te : TE} {g : TG} (he : PE X e te) (hg : PG X tg g) (hs : swapsWithSole [tg] e pos.line X.env = pure false := by rfl) (hw : swappedStores [tg] e X.env = pure none := by rfl)
    (h1 : (assignEach [tg] X.env).map (·.2) = [assign tg X.env] := by rfl) : PS X (.Assign [tg] e pos) (tAsg te g) := by
  intro pins s σ H D I h
  refine wpAny_Assign_stores (thn (he pins s σ H _ I h) fun v s1 ⟨x, H1, I1, r1, q1⟩ => ?_) hs hw
  rw [h1]
  exact thn (hg pins s1 σ H1 x v _ I1 r1 q1) fun _ s2 q => q
theorem ps_set {i : Nat} {x : Str} {e : Expr} {te : TE} {pos' : Pos} (hN : X.N.Nodup) (hi : X.N[i]? = some x) (hx : Loc X.env.scope x) (he : PE X e te) (hs : swapsWith e (some (.Name x pos')) pos.line X.env = pure false := by rfl) (hf : X.fn x = true ∨ X.env.scope.names.lookup x = some .local := by first | exact .inl rfl | exact .inr rfl | assumption) :
    PS X (.Assign [.Name x pos'] e pos) (tAsg te (gName i)) := by
  intro pins s σ H D I h
  refine wpAny_Assign_Name (thn (he pins s σ H _ I h) fun v s1 ⟨y, H1, I1, r1, q1⟩ => ?_) hs
  exact store_ok I1 hN hi hx r1 (fun s2 I2 => ⟨_, H1, I2, q1⟩) hf
end
section
variable {X : Cx} {pos : Pos}
def tWhile (c : TT) (tb : TS) : TS := fun D σ H => ∃ W : Nat → St → Hp → Prop, (∃ m, W m σ H) ∧ ∀ m σ H, W m σ H →
  c σ H fun b H1 => if b = true then ∃ N : St → Hp → Prop, (∀ σ' H', N σ' H' → ∃ m', m' < m ∧ W m' σ' H') ∧ tb { D with nx := N, ct := N, bk := D.nx } σ H1 else D.nx σ H1
theorem ps_while {c : Expr} {body : List Stmt} {tc : TT} {tb : TS} (hp : PassesOwn (model X.prog X.w) X.A X.env X.xe) (hc : PT X c tc) (hb : PSs X body tb) : PS X (.While c body [] pos) (tWhile tc tb) := by
  intro pins s σ H D I h
  obtain ⟨W, ⟨m0, w0⟩, turn⟩ := h
  refine wpAny_While (codeAny_whileLoop (fun n s' => ∃ σ' H', Inv X pins σ' H' s' ∧ W n σ' H') ?_ m0 ⟨σ, H, I, w0⟩)
  rintro n s1 ⟨σ1, H1, I1, w1⟩
  refine wpAny_passesOwn hp (thn (hc pins s1 σ1 H1 _ I1 (turn n σ1 H1 w1)) fun b s2 ⟨H2, I2, q2⟩ => ?_)
  cases b with
  | true =>
    obtain ⟨N, hN, q2⟩ := q2
    rw [if_pos rfl]
    refine wpAny_passesOwn hp (thn (hb pins s2 σ1 H2 _ I2 q2) fun f s3 q3 => ?_)
    cases f with
    | next =>
      obtain ⟨σ3, H3, I3, n3⟩ := q3
      obtain ⟨m', hm, w3⟩ := hN σ3 H3 n3
      exact ⟨m', hm, σ3, H3, I3, w3⟩
    | cont =>
      obtain ⟨σ3, H3, I3, n3⟩ := q3
      obtain ⟨m', hm, w3⟩ := hN σ3 H3 n3
      exact ⟨m', hm, σ3, H3, I3, w3⟩
    | brk => exact q3
    | ret v => exact q3
  | false =>
    rw [if_neg Bool.false_ne_true]
    exact wpAny_execs_nil ⟨σ1, H2, I2, q2⟩
end
structure It where
  go : Nat → Hp → Prop
  yld : Nat → Hp → V → Hp → Prop
  stop : Nat → Hp → Prop
def FpOk (X : Cx) (pins : List (Addr × Obj)) (H : Hp) (b : Addr) : Prop :=
  H b = none ∧ b ≠ X.env.locals ∧ b ∉ X.fs ∧ (b ∈ X.ex ∨ X.s₀.heap.objs.size ≤ b) ∧ (∀ x c, X.env.cells.lookup x = some c → c ≠ b) ∧ ∀ p ∈ X.pn ++ pins, p.1 ≠ b
theorem Inv.fpOk {X : Cx} {pins : List (Addr × Obj)} {σ : St} {H H' : Hp} {s : Shared} {b : Addr} (I : Inv X pins σ H s) (hb : s.heap.objs.size ≤ b) (hn : H' b = none) : FpOk X pins H' b := by
  refine ⟨hn, Nat.ne_of_gt (Nat.lt_of_lt_of_le I.lt hb), I.nofs hb, .inr (Nat.le_trans I.sz hb), fun x c e z => ?_, fun p hp z => ?_⟩
  · obtain ⟨v, q⟩ := I.cell x c e
    exact absurd (Nat.lt_of_lt_of_le q.lt (by rw [z]; exact hb)) (Nat.lt_irrefl _)
  · exact absurd (Nat.lt_of_lt_of_le (Heap.lt_size (I.pin p hp).1) (by rw [z]; exact hb)) (Nat.lt_irrefl _)
structure Turn (P : Program) (w : World) (K : PySem.W.Frag) (tg : Expr) (J : It) (fp : List Addr) (it : Addr) (tn : Nat → Heap → Prop) : Prop where
  mem : it ∈ fp
  obj : ∀ i h, tn i h → ∀ b ∈ fp, ∃ o, h.get? b = some o ∧ ∀ v, o.data ≠ .cell v
  keep : ∀ i h h', tn i h → (∀ b ∈ fp, ∀ o, h.get? b = some o → h'.get? b = some o) → tn i h'
  item : ∀ (X : Cx), X.prog = P → X.w = w → X.K = K → X.calm = true → ∀ (i : Nat) (pins : List (Addr × Obj)) (s : Shared) (σ : St) (H : Hp) (E : Value → Shared → Prop), Inv X pins σ H s → (∀ b ∈ fp, FpOk X pins H b) → tn i s.heap → J.go i H →
    wpAny (model P w) X.A (pyNext (.ref it)) (fun r s1 => ∃ u, r = some u ∧
      wpAny (model P w) X.A (letOwnedTupleGo tg (.ref it) u) (fun _ s2 => ∃ x H', Inv X pins σ H' s2 ∧ RelV x u ∧ J.yld i H x H' ∧ tn (i + 1) s2.heap ∧ ∀ b ∈ fp, H' b = none) E s1) E s
  done : ∀ (X : Cx), X.prog = P → X.w = w → X.K = K → X.calm = true → ∀ (i : Nat) (pins : List (Addr × Obj)) (s : Shared) (σ : St) (H : Hp) (E : Value → Shared → Prop), Inv X pins σ H s → (∀ b ∈ fp, FpOk X pins H b) → tn i s.heap → J.stop i H →
    wpAny (model P w) X.A (pyNext (.ref it)) (fun r s1 => r = none ∧ Inv X pins σ H s1) E s
  self : ∀ (A : Around) (i : Nat) (s : Shared) (Q : Value → Shared → Prop) (E : Value → Shared → Prop), tn i s.heap → Q (.ref it) s → wpAny (model P w) A (pyIter (.ref it)) Q E s
abbrev TI := St → Hp → (It → Hp → Prop) → Prop
def PIE (X : Cx) (pins : List (Addr × Obj)) (σ : St) (tg : Expr) (R : It → Hp → Prop) (itv : Value) (s2 : Shared) : Prop :=
  ∃ (it : Addr) (fp : List Addr) (tn : Nat → Heap → Prop) (J : It) (H' : Hp), itv = .ref it ∧ Inv X pins σ H' s2 ∧ Turn X.prog X.w X.K tg J fp it tn ∧ tn 0 s2.heap ∧ (∀ b ∈ fp, FpOk X pins H' b) ∧ R J H'
def PI (X : Cx) (tg iter : Expr) (wi : TI) : Prop :=
  ∀ (pins : List (Addr × Obj)) (s : Shared) (σ : St) (H : Hp) (R : It → Hp → Prop), Inv X pins σ H s → wi σ H R →
    wpAny (model X.prog X.w) X.A (eval iter X.env) (fun v s1 => wpAny (model X.prog X.w) X.A (pyIter v) (PIE X pins σ tg R) X.xe s1) X.xe s
theorem go_of {M : Model} {A : Around} {E : Value → Shared → Prop} {s : Shared} {tg : Expr} {it : Addr} {u : Value} {o : Obj} {n : String} {vs : Array Value} {Q : Unit → Shared → Prop} (ho : s.heap.get? it = some o) (hc : o.cls = .type n) (hd : o.data = .fields vs)
    (hn : ["enumerate", "zip", "dict_itemiterator", "dict_reverseitemiterator", "odict_iterator", "itertools.zip_longest", "itertools.pairwise"].contains n = false) (hQ : Q () s) : wpAny M A (letOwnedTupleGo tg (.ref it) u) Q E s := by
  unfold letOwnedTupleGo
  cases tg <;> first
    | exact wpAny_pure hQ
    | (cases u <;> first
        | exact wpAny_pure hQ
        | (refine wpAny_bind (wpAny_load ho ?_)
           rw [hc, hd]
           show wpAny M A (if (["enumerate", "zip", "dict_itemiterator", "dict_reverseitemiterator", "odict_iterator", "itertools.zip_longest", "itertools.pairwise"].contains n && vs[0]? == some (rawInt _)) = true then _ else _) Q E s
           rw [if_neg (by intro h; rw [hn, Bool.false_and] at h; cases h)]
           exact wpAny_pure hQ))
def Itl (K : PySem.W.Frag) (a : Addr) : It :=
  ⟨fun i H => ∃ xs x, SqL K H a xs ∧ xs[i]? = some x, fun i H x H' => H' = H ∧ ∀ xs, SqL K H a xs → xs[i]? = some x, fun i H => ∃ xs, SqL K H a xs ∧ xs.length ≤ i⟩
def Itr (lo : Int) (n : Nat) : It := ⟨fun i _ => i < n, fun i H x H' => H' = H ∧ x = .int (lo + i), fun i _ => n ≤ i⟩
theorem turn_list {P : Program} {w : World} {K : PySem.W.Frag} {tg : Expr} (a it : Addr) : Turn P w K tg (Itl K a) [it] it (fun i h => h.IsListIter it a i) where
  mem := by simp
  obj := fun i h st b hb => by
    have e : b = it := by simpa using hb
    subst e
    obtain ⟨o, e, c, d⟩ := st
    exact ⟨o, e, fun v z => by rw [d] at z; cases z⟩
  keep := fun i h h' st k => st.at fun o e => k it (by simp) o e
  item := by
    intro X hP hw hK hc i pins s σ H E I hf st hg
    subst hP hw hK
    obtain ⟨xs, x, hq, hx⟩ := hg
    obtain ⟨its, rv, p, hz⟩ := I.list hq
    obtain ⟨u, hu, ru⟩ := rv.get hx
    obtain ⟨f0, f1, f2, f3, f4, f5⟩ := hf it (by simp)
    refine wpAny_pyNext_list_item st p.isList (x := u) (by simpa using hu) fun h' st' sb => ?_
    have I1 : Inv X pins σ H { s with heap := h' } := I.turned (t' := s.toks) (fun b o hb e => (sb.2 b hb).trans e) f0 f1 f3 f4 f5
    obtain ⟨o, e, c, d⟩ := id st'
    exact ⟨u, rfl, go_of (s := { s with heap := h' }) e c d (by decide) ⟨x, H, I1, ru, ⟨rfl, fun ys hy => by rw [I.list_inj hy hq]; exact hx⟩, st', fun b hb => (hf b hb).1⟩⟩
  done := by
    intro X hP hw hK hc i pins s σ H E I hf st hg
    subst hP hw hK
    obtain ⟨xs, hq, hx⟩ := hg
    obtain ⟨its, rv, p, hz⟩ := I.list hq
    obtain ⟨f0, f1, f2, f3, f4, f5⟩ := hf it (by simp)
    have hl := rv.length
    exact wpAny_pyNext_list_end (I.ok.hd hc) st p.isList (by simp; omega) fun h' eb => ⟨rfl, I.turned (t' := s.toks) (fun b o hb e => eb b o hb e) f0 f1 f3 f4 f5⟩
  self := fun _ _ _ _ _ st h => wpAny_pyIter_listiter st h
theorem turn_range {P : Program} {w : World} {K : PySem.W.Frag} {tg : Expr} (it : Addr) (lo : Int) (n : Nat) : Turn P w K tg (Itr lo n) [it] it (fun i h => IsRangeIter h it (lo + (i : Nat) * 1) ((n : Int) - (i : Nat)) 1) where
  mem := by simp
  obj := fun i h st b hb => by
    have e : b = it := by simpa using hb
    subst e
    exact ⟨_, st, fun v z => by
      have z' : Data.fields _ = Data.cell v := z
      cases z'⟩
  keep := fun i h h' st k => k it (by simp) _ st
  item := by
    intro X hP hw hK hc i pins s σ H E I hf st hg
    subst hP hw hK
    obtain ⟨f0, f1, f2, f3, f4, f5⟩ := hf it (by simp)
    have W := Walks.range (prog := X.prog) (w := X.w) (I.ok.hd hc) it lo 1 n
    refine W.item i s _ _ hg st fun v h' tk hv st' kk => ?_
    obtain ⟨t, rfl⟩ := hv
    have I1 : Inv X pins σ H { s with heap := h', toks := tk } := I.turned (fun b o hb e => kk b o (by simpa using hb) e) f0 f1 f3 f4 f5
    refine ⟨_, rfl, go_of (s := { s with heap := h', toks := tk }) (n := "range_iterator") st' rfl rfl (by decide) ⟨.int (lo + i), H, I1, ⟨t, ?_⟩, ⟨rfl, rfl⟩, st', fun b hb => (hf b hb).1⟩⟩
    rw [Int.mul_one]
  done := by
    intro X hP hw hK hc i pins s σ H E I hf st hg
    subst hP hw hK
    obtain ⟨f0, f1, f2, f3, f4, f5⟩ := hf it (by simp)
    exact wpAny_pyNext_range_end (I.ok.hd hc) st (by have : n ≤ i := hg; omega) fun h' eb => ⟨rfl, I.turned (t' := s.toks) (fun b o hb e => eb b o hb e) f0 f1 f3 f4 f5⟩
  self := fun _ _ _ _ _ st h => wpAny_pyIter_rangeiter st h
end L2
namespace L2
open PySem PySem.Spec PyProof.Rows
section
variable {X : Cx} {tg : Expr}
def iList (K : PySem.W.Frag) (tl : TE) : TI := fun σ H R => tl σ H fun x H1 => ∃ a, x = .ref a ∧ (∃ xs, SqL K H1 a xs) ∧ R (Itl K a) H1
theorem pi_list {l : Expr} {tl : TE} (hl : PE X l tl) : PI X tg l (iList X.K tl) := by
  intro pins s σ H R I h
  refine thn (hl pins s σ H _ I h) fun v s1 ⟨x, H1, I1, r1, q1⟩ => ?_
  obtain ⟨a, e, ⟨xs, hq⟩, q⟩ := q1
  subst e
  cases r1
  obtain ⟨its, rv, p, hz⟩ := I1.list hq
  refine wpAny_pyIter_list p.isList ?_
  refine ⟨s1.heap.objs.size, [s1.heap.objs.size], _, _, H1, rfl, I1.kept (t' := s1.toks) fun b o e => Heap.get?_push_of_some _ e, turn_list a _, ⟨_, Heap.get?_push_size _ rfl, rfl, rfl⟩, fun b hb => ?_, q⟩
  have e : b = s1.heap.objs.size := by simpa using hb
  subst e
  exact I1.fpOk (Nat.le_refl _) (I1.hok.fresh (Nat.le_refl _))
theorem range_it {pins : List (Addr × Obj)} {σ : St} {H : Hp} {s : Shared} {R : It → Hp → Prop} {E : Value → Shared → Prop} {lo hi : Int} {t u v : Tok} {tk : Nat} (I : Inv X pins σ H s) (h1 : -(2 ^ 62) ≤ lo) (h2 : lo < 2 ^ 62) (h3 : -(2 ^ 62) ≤ hi) (h4 : hi < 2 ^ 62)
    (q : R (Itr lo (hi - lo).toNat) H) : wpAny (model X.prog X.w) X.A (pyIter (.ref s.heap.objs.size)) (PIE X pins σ tg R) E { s with heap := s.heap.push { cls := .type "range", data := .fields #[.int lo t, .int hi u, .int 1 v] }, toks := tk } := by
  refine wpAny_pyIter_range (IsRange.new ..) (small_one h1 h2 h3 h4) ?_
  have I1 : Inv X pins σ H { s with heap := s.heap.push { cls := .type "range", data := .fields #[.int lo t, .int hi u, .int 1 v] }, toks := tk } := I.kept fun b o e => Heap.get?_push_of_some _ e
  refine ⟨(s.heap.push { cls := .type "range", data := .fields #[.int lo t, .int hi u, .int 1 v] }).objs.size, [(s.heap.push { cls := .type "range", data := .fields #[.int lo t, .int hi u, .int 1 v] }).objs.size], _, _, H, rfl,
    I1.kept (t' := tk) fun b o e => Heap.get?_push_of_some _ e, turn_range _ lo (hi - lo).toNat, ?_, fun b hb => ?_, q⟩
  · have e1 : lo + ((0 : Nat) : Int) * 1 = lo := by simp
    have e2 : (((hi - lo).toNat : Nat) : Int) - ((0 : Nat) : Int) = Builtin.Range.rangeSize lo hi 1 := by rw [rangeSize_one]; split <;> omega
    show IsRangeIter _ _ (lo + ((0 : Nat) : Int) * 1) ((((hi - lo).toNat : Nat) : Int) - ((0 : Nat) : Int)) 1
    rw [e1, e2]
    exact Heap.get?_push_size _ rfl
  · have e : b = (s.heap.push { cls := .type "range", data := .fields #[.int lo t, .int hi u, .int 1 v] }).objs.size := by simpa using hb
    subst e
    exact I1.fpOk (Nat.le_refl _) (I1.hok.fresh (Nat.le_refl _))
def iRng1 (ta : TA) : TI := fun σ H R => ta σ H fun vs H1 => ∃ j : Int, vs = [.int j] ∧ -(2 ^ 62) ≤ j ∧ j < 2 ^ 62 ∧ R (Itr 0 j.toNat) H1
theorem pi_range1 {a : Expr} {ta : TA} {p pos : Pos} (hg : Gl X "range") (hm : X.mg "range" = none) (ha : PA X [a] ta) (hs : starEach [a] X.env = [(false, eval a X.env)] := by rfl) : PI X tg (.Call (.Name "range" p) [a] [] pos) (iRng1 ta) := by
  intro pins s σ H R I h
  refine Call_ (ld_blt I hg hm boot_range (PyProof.Rows.callWith_type1 (thn (ha pos pins s σ H _ I h) fun us s1 ⟨vs, H1, I1, r1, q1⟩ => ?_) hs rfl))
  obtain ⟨j, e, q1, q2, q⟩ := q1
  subst e
  cases r1 with
  | cons r rr =>
    cases rr
    obtain ⟨t, rfl⟩ := r
    exact call_range_1 (range_it I1 (by omega) (by omega) q1 q2 (by simpa using q))
def tFor (wi : TI) (g : TG) (tb : TS) : TS := fun D σ H => wi σ H fun J H1 => ∃ W : Nat → Nat → St → Hp → Prop, (∃ m, W 0 m σ H1) ∧ ∀ i m σ H, W i m σ H →
  (J.stop i H ∧ D.nx σ H) ∨ (J.go i H ∧ ∃ N : St → Hp → Prop, (∀ σ' H', N σ' H' → ∃ m', m' < m ∧ W (i + 1) m' σ' H') ∧ ∀ x H', J.yld i H x H' → g x σ H' fun σ2 H2 => tb { D with nx := N, ct := N, bk := D.nx } σ2 H2)
def pinsAt (fp : List Addr) (h : Heap) : List (Addr × Obj) := fp.filterMap fun b => (h.get? b).map fun o => (b, o)
theorem mem_pinsAt {fp : List Addr} {h : Heap} {b : Addr} {o : Obj} (hb : b ∈ fp) (e : h.get? b = some o) : (b, o) ∈ pinsAt fp h := List.mem_filterMap.mpr ⟨b, hb, by rw [e]; rfl⟩
theorem of_pinsAt {fp : List Addr} {h : Heap} {p : Addr × Obj} (hp : p ∈ pinsAt fp h) : p.1 ∈ fp ∧ h.get? p.1 = some p.2 := by
  obtain ⟨b, hb, e⟩ := List.mem_filterMap.mp hp
  cases q : h.get? b with
  | none => rw [q] at e; cases e
  | some o =>
    rw [q] at e
    have e' : (b, o) = p := Option.some.inj e
    subst e'
    exact ⟨hb, q⟩
theorem Inv.pinned {pins : List (Addr × Obj)} {σ : St} {H : Hp} {s : Shared} {fp : List Addr} (I : Inv X pins σ H s) (hf : ∀ b ∈ fp, FpOk X pins H b) (ho : ∀ b ∈ fp, ∃ o, s.heap.get? b = some o ∧ ∀ v, o.data ≠ .cell v) : Inv X (pins ++ pinsAt fp s.heap) σ H s :=
  I.pins_of fun p hp => (List.mem_append.mp hp).elim (fun z => I.pin p (List.mem_append_right _ z)) fun z => by
    obtain ⟨hb, e⟩ := of_pinsAt z
    obtain ⟨f0, f1, f2, _⟩ := hf p.1 hb
    obtain ⟨o, e', d⟩ := ho p.1 hb
    rw [e] at e'; cases e'
    exact ⟨e, f0, f1, f2, d⟩
theorem Inv.unpinned {pins pl : List (Addr × Obj)} {σ : St} {H : Hp} {s : Shared} (I : Inv X (pins ++ pl) σ H s) : Inv X pins σ H s := I.pins_of fun p hp => I.pin p (List.mem_append_right _ (List.mem_append_left _ hp))
theorem ps_for {iter : Expr} {body : List Stmt} {wi : TI} {g : TG} {tb : TS} {pos : Pos} (hp : PassesOwn (model X.prog X.w) X.A X.env X.xe) (hc : X.calm = true) (hi : PI X tg iter wi) (hg : PG X tg g) (hb : PSs X body tb)
    (hs : ∀ x, foldedSetIterable iter X.env x = pure x := by intro _; rfl) : PS X (.For tg iter body [] pos) (tFor wi g tb) := by
  intro pins s σ H D I h
  refine wpAny_For (thn (hi pins s σ H _ I h) fun v s1 h1 => thn h1 fun itv s2 h2 => ?_) hs
  obtain ⟨it, fp, tn, J, H2, e, I2, T, st2, f2, W, ⟨m0, w0⟩, turn⟩ := h2
  subst e
  have stat : ∀ {H' : Hp}, (∀ b ∈ fp, H' b = none) → ∀ b ∈ fp, FpOk X pins H' b := fun hn b hb => ⟨hn b hb, (f2 b hb).2⟩
  refine codeAny_forLoop_any (fun n s' => ∃ i σ' H', Inv X pins σ' H' s' ∧ tn i s'.heap ∧ (∀ b ∈ fp, H' b = none) ∧ W i n σ' H') ?_ m0 ⟨0, σ, H2, I2, st2, fun b hb => (f2 b hb).1, w0⟩
  rintro n s3 ⟨i, σ3, H3, I3, st3, fr3, w3⟩
  rcases turn i n σ3 H3 w3 with ⟨stop, qn⟩ | ⟨go, N, hN, step⟩
  · refine wpAny_passesOwn hp (thn (T.done X rfl rfl rfl hc i pins s3 σ3 H3 X.xe I3 (stat fr3) st3 stop) fun r s4 ⟨hr, I4⟩ => ?_)
    subst hr
    exact wpAny_execs_nil ⟨σ3, H3, I4, qn⟩
  · refine wpAny_passesOwn hp (thn (T.item X rfl rfl rfl hc i pins s3 σ3 H3 X.xe I3 (stat fr3) st3 go) fun r s4 ⟨u, hr, h4⟩ => ?_)
    subst hr
    refine wpAny_passesOwn hp (thn h4 fun _ s5 ⟨x, H5, I5, r5, y5, st5, fr5⟩ => ?_)
    have I5' := I5.pinned (stat fr5) (T.obj _ _ st5)
    refine wpAny_passesOwn hp (thn (hg _ s5 σ3 H5 x u _ I5' r5 (step x H5 y5)) fun _ s6 ⟨σ6, H6, I6, q6⟩ => ?_)
    refine wpAny_passesOwn hp (thn (hb _ s6 σ6 H6 _ I6 q6) fun f s7 q7 => ?_)
    have again : ∀ {σ7 : St} {H7 : Hp}, Inv X (pins ++ pinsAt fp s5.heap) σ7 H7 s7 → N σ7 H7 → ∃ m, m < n ∧ ∃ i σ' H', Inv X pins σ' H' s7 ∧ tn i s7.heap ∧ (∀ b ∈ fp, H' b = none) ∧ W i m σ' H' := fun {σ7 H7} I7 n7 => by
      obtain ⟨m', hm, w7⟩ := hN σ7 H7 n7
      refine ⟨m', hm, i + 1, σ7, H7, I7.unpinned, T.keep _ _ _ st5 fun b hb o e => (I7.pin (b, o) (List.mem_append_right _ (List.mem_append_right _ (mem_pinsAt hb e)))).1, fun b hb => ?_, w7⟩
      obtain ⟨o, e, d⟩ := T.obj _ _ st5 b hb
      exact (I7.pin (b, o) (List.mem_append_right _ (List.mem_append_right _ (mem_pinsAt hb e)))).2.1
    cases f with
    | next => obtain ⟨σ7, H7, I7, n7⟩ := q7; exact again I7 n7
    | cont => obtain ⟨σ7, H7, I7, n7⟩ := q7; exact again I7 n7
    | brk => obtain ⟨σ7, H7, I7, q7⟩ := q7; exact ⟨σ7, H7, I7.unpinned, q7⟩
    | ret v => obtain ⟨x7, σ7, H7, I7, r7, q7⟩ := q7; exact ⟨x7, σ7, H7, I7.unpinned, r7, q7⟩
end
theorem for_list {K : PySem.W.Frag} {a : Addr} {xs : List V} {g : TG} {tb : TS} {D : Ends} {σ : St} {H : Hp} (Pv : Nat → St → Hp → Prop) (h0 : Pv 0 σ H) (hl : ∀ i σ H, i ≤ xs.length → Pv i σ H → SqL K H a xs)
    (hs : ∀ i x σ H, xs[i]? = some x → Pv i σ H → g x σ H fun σ2 H2 => tb { D with nx := Pv (i + 1), ct := Pv (i + 1), bk := D.nx } σ2 H2) (hd : ∀ σ H, Pv xs.length σ H → D.nx σ H) :
    ∃ W : Nat → Nat → St → Hp → Prop, (∃ m, W 0 m σ H) ∧ ∀ i m σ H, W i m σ H →
      ((Itl K a).stop i H ∧ D.nx σ H) ∨ ((Itl K a).go i H ∧ ∃ N : St → Hp → Prop, (∀ σ' H', N σ' H' → ∃ m', m' < m ∧ W (i + 1) m' σ' H') ∧ ∀ x H', (Itl K a).yld i H x H' → g x σ H' fun σ2 H2 => tb { D with nx := N, ct := N, bk := D.nx } σ2 H2) := by
  refine ⟨fun i m σ H => m = xs.length - i ∧ i ≤ xs.length ∧ Pv i σ H, ⟨xs.length, by simp, Nat.zero_le _, h0⟩, ?_⟩
  rintro i m σ H ⟨rfl, hi, p⟩
  have q := hl i σ H hi p
  by_cases hlt : i < xs.length
  · refine .inr ⟨⟨xs, xs[i], q, by simp [hlt]⟩, Pv (i + 1), fun σ' H' p' => ⟨xs.length - (i + 1), by omega, rfl, hlt, p'⟩, fun x H' y => ?_⟩
    obtain ⟨e, y⟩ := y
    subst e
    exact hs i x σ _ (y xs q) p
  · have e : i = xs.length := by omega
    subst e
    exact .inl ⟨⟨xs, q, Nat.le_refl _⟩, hd σ H p⟩
theorem for_range {lo : Int} {n : Nat} {g : TG} {tb : TS} {D : Ends} {σ : St} {H : Hp} (Pv : Nat → St → Hp → Prop) (h0 : Pv 0 σ H)
    (hs : ∀ i σ H, i < n → Pv i σ H → g (.int (lo + i)) σ H fun σ2 H2 => tb { D with nx := Pv (i + 1), ct := Pv (i + 1), bk := D.nx } σ2 H2) (hd : ∀ σ H, Pv n σ H → D.nx σ H) :
    ∃ W : Nat → Nat → St → Hp → Prop, (∃ m, W 0 m σ H) ∧ ∀ i m σ H, W i m σ H →
      ((Itr lo n).stop i H ∧ D.nx σ H) ∨ ((Itr lo n).go i H ∧ ∃ N : St → Hp → Prop, (∀ σ' H', N σ' H' → ∃ m', m' < m ∧ W (i + 1) m' σ' H') ∧ ∀ x H', (Itr lo n).yld i H x H' → g x σ H' fun σ2 H2 => tb { D with nx := N, ct := N, bk := D.nx } σ2 H2) := by
  refine ⟨fun i m σ H => m = n - i ∧ i ≤ n ∧ Pv i σ H, ⟨n, by simp, Nat.zero_le _, h0⟩, ?_⟩
  rintro i m σ H ⟨rfl, hi, p⟩
  by_cases hlt : i < n
  · refine .inr ⟨hlt, Pv (i + 1), fun σ' H' p' => ⟨n - (i + 1), by omega, rfl, hlt, p'⟩, fun x H' y => ?_⟩
    obtain ⟨e, y⟩ := y
    subst e y
    exact hs i σ _ hlt p
  · have e : i = n := by omega
    subst e
    exact .inl ⟨Nat.le_refl _, hd σ H p⟩
end L2
namespace L2
open PySem PySem.Spec PyProof.Rows
abbrev R2 := V → V → Hp → VK → Prop
def OpR (X : Cx) (f : Value → Value → Sem Value) (r : R2) : Prop :=
  ∀ (pins : List (Addr × Obj)) (s : Shared) (σ : St) (H : Hp) (x y : V) (v u : Value) (Q : VK), Inv X pins σ H s → RelV x v → RelV y u → r x y H Q →
    wpAny (model X.prog X.w) X.A (f v u) (EP X pins σ Q) X.xe s
def UnR (X : Cx) (f : Value → Sem Value) (r : V → Hp → VK → Prop) : Prop :=
  ∀ (pins : List (Addr × Obj)) (s : Shared) (σ : St) (H : Hp) (x : V) (v : Value) (Q : VK), Inv X pins σ H s → RelV x v → r x H Q →
    wpAny (model X.prog X.w) X.A (f v) (EP X pins σ Q) X.xe s
def CallR (X : Cx) (f : Value) (r : List V → Hp → VK → Prop) : Prop :=
  ∀ (pins : List (Addr × Obj)) (s : Shared) (σ : St) (H : Hp) (xs : List V) (us : List Value) (Q : VK), Inv X pins σ H s → Vals xs us → r xs H Q →
    wpAny (model X.prog X.w) X.A (call f us) (EP X pins σ Q) X.xe s
def tOp (r : R2) (ta tb : TE) : TE := fun σ H Q => ta σ H fun x H1 => tb σ H1 fun y H2 => r x y H2 Q
def tUn (r : V → Hp → VK → Prop) (ta : TE) : TE := fun σ H Q => ta σ H fun x H1 => r x H1 Q
def rI (C : Int → Int → Prop) (g : Int → Int → V) : R2 := fun x y H Q => ∃ i j, x = .int i ∧ y = .int j ∧ C i j ∧ Q (g i j) H
def rI0 (g : Int → Int → V) : R2 := fun x y H Q => ∃ i j, x = .int i ∧ y = .int j ∧ Q (g i j) H
def rU (g : Int → V) : V → Hp → VK → Prop := fun x H Q => ∃ i, x = .int i ∧ Q (g i) H
section
variable {X : Cx} {a b c : Expr} {ta tb tc : TE} {pos : Pos}
theorem binT (ha : PE X a ta) (hb : PE X b tb) {pins : List (Addr × Obj)} {s : Shared} {σ : St} {H : Hp} {R : V → V → Hp → Prop} (I : Inv X pins σ H s)
    (h : ta σ H fun x H1 => tb σ H1 fun y H2 => R x y H2) {Q : Value → Shared → Prop} {f : Value → Value → Sem Value}
    (hf : ∀ v u s2 x y H2, Inv X pins σ H2 s2 → RelV x v → RelV y u → R x y H2 → wpAny (model X.prog X.w) X.A (f v u) Q X.xe s2) :
    wpAny (model X.prog X.w) X.A (eval a X.env) (fun v s₁ => wpAny (model X.prog X.w) X.A (eval b X.env) (fun u s₂ => wpAny (model X.prog X.w) X.A (f v u) Q X.xe s₂) X.xe s₁) X.xe s := by
  refine thn (ha pins s σ H _ I h) fun v s1 ⟨x, H1, I1, r1, q1⟩ => ?_
  refine thn (hb pins s1 σ H1 _ I1 q1) fun u s2 ⟨y, H2, I2, r2, q2⟩ => ?_
  exact hf v u s2 x y H2 I2 r1 r2 q2
theorem pe_op {op : Operator} {r : R2} (ho : OpR X (binaryOp op) r) (ha : PE X a ta) (hb : PE X b tb) : PE X (.BinOp a op b pos) (tOp r ta tb) := by
  intro pins s σ H Q I h
  exact wpAny_BinOp (binT ha hb I h fun v u s2 x y H2 I2 rx ry q => ho pins s2 σ H2 x y v u Q I2 rx ry q)
theorem pe_un {op : UnaryOp} {r : V → Hp → VK → Prop} (ho : UnR X (unaryOp op) r) (ha : PE X a ta) : PE X (.UnaryOp op a pos) (tUn r ta) := by
  intro pins s σ H Q I h
  exact UnaryOp_ (thn (ha pins s σ H _ I h) fun v s1 ⟨x, H1, I1, r1, q1⟩ => ho pins s1 σ H1 x v Q I1 r1 q1)
theorem opI {f : Value → Value → Sem Value} {C : Int → Int → Prop} {g : Int → Int → Int}
    (rule : ∀ (i j : Int) (t u : Tok) (s : Shared) (Q : Value → Shared → Prop) (E : Value → Shared → Prop), C i j → Q (.int (g i j) s.toks) { s with toks := s.toks + 1 } → wpAny (model X.prog X.w) X.A (f (.int i t) (.int j u)) Q E s) :
    OpR X f (rI C fun i j => .int (g i j)) := by
  intro pins s σ H x y v u Q I rx ry h
  obtain ⟨i, j, rfl, rfl, hc, q⟩ := h
  obtain ⟨t, rfl⟩ := rx
  obtain ⟨t', rfl⟩ := ry
  exact rule i j t t' s _ _ hc ⟨.int (g i j), H, I.tok _, ⟨_, rfl⟩, q⟩
theorem opI0 {f : Value → Value → Sem Value} {g : Int → Int → Int}
    (rule : ∀ (i j : Int) (t u : Tok) (s : Shared) (Q : Value → Shared → Prop) (E : Value → Shared → Prop), Q (.int (g i j) s.toks) { s with toks := s.toks + 1 } → wpAny (model X.prog X.w) X.A (f (.int i t) (.int j u)) Q E s) :
    OpR X f (rI0 fun i j => .int (g i j)) := by
  intro pins s σ H x y v u Q I rx ry h
  obtain ⟨i, j, rfl, rfl, q⟩ := h
  obtain ⟨t, rfl⟩ := rx
  obtain ⟨t', rfl⟩ := ry
  exact rule i j t t' s _ _ ⟨.int (g i j), H, I.tok _, ⟨_, rfl⟩, q⟩
theorem opB0 {f : Value → Value → Sem Value} {g : Int → Int → Bool}
    (rule : ∀ (i j : Int) (t u : Tok) (s : Shared) (Q : Value → Shared → Prop) (E : Value → Shared → Prop), Q (.bool (g i j)) s → wpAny (model X.prog X.w) X.A (f (.int i t) (.int j u)) Q E s) :
    OpR X f (rI0 fun i j => .bl (g i j)) := by
  intro pins s σ H x y v u Q I rx ry h
  obtain ⟨i, j, rfl, rfl, q⟩ := h
  obtain ⟨t, rfl⟩ := rx
  obtain ⟨t', rfl⟩ := ry
  exact rule i j t t' s _ _ ⟨.bl (g i j), H, I, rfl, q⟩
def CDiv (i j : Int) : Prop := 0 < j ∧ j < 1073741824
def CPow (i j : Int) : Prop := 0 ≤ j ∧ j ≤ 1000000 ∧ i.natAbs < 2 ^ 64
def CMul (i j : Int) : Prop := (-(2 ^ 64) < i ∧ i < 2 ^ 64) ∨ (-(2 ^ 64) < j ∧ j < 2 ^ 64)
theorem CMul.ok {i j : Int} (h : CMul i j) : IntMulOk i j := by
  rcases h with ⟨h1, h2⟩ | ⟨h1, h2⟩
  · exact .of_left (intBits_le_64 h1 h2)
  · exact .of_right (intBits_le_64 h1 h2)
theorem two_pow_nn (k : Nat) : (0 : Int) ≤ 2 ^ k := by
  rw [two_pow_cast]
  exact Int.natCast_nonneg _
theorem op_add : OpR X (binaryOp .Add) (rI0 fun i j => .int (i + j)) := opI0 fun _ _ _ _ _ _ _ q => add_int q
theorem op_sub : OpR X (binaryOp .Sub) (rI0 fun i j => .int (i - j)) := opI0 fun _ _ _ _ _ _ _ q => sub_int q
theorem op_mul : OpR X (binaryOp .Mult) (rI CMul fun i j => .int (i * j)) := opI fun _ _ _ _ _ _ _ hc q => mul_int q hc.ok
theorem op_fdiv : OpR X (binaryOp .FloorDiv) (rI CDiv fun i j => .int (i / j)) := opI fun i j _ _ _ _ _ hc q => by
  have h1 : (0 : Int) < j := hc.1
  have h2 : j < 1073741824 := hc.2
  exact floordiv_int (by omega) (by rw [Int.fdiv_eq_ediv_of_nonneg i (by omega)]; exact q) (.inl (PyProof.noPylong_small (by omega)))
theorem op_mod : OpR X (binaryOp .Mod) (rI (fun _ j => 0 < j) fun i j => .int (i % j)) := opI fun i j _ _ _ _ _ hc q => by
  have h1 : (0 : Int) < j := hc
  exact mod_int' (by omega) (by rw [Int.fmod_eq_emod_of_nonneg i (by omega)]; exact q)
theorem op_shl : OpR X (binaryOp .LShift) (rI CPow fun i j => .int (i * 2 ^ j.toNat)) := opI fun _ _ _ _ _ _ _ hc q => lshift_int_small hc.1 hc.2.1 hc.2.2 q
theorem op_shr : OpR X (binaryOp .RShift) (rI (fun _ j => 0 ≤ j) fun i j => .int (i / 2 ^ j.toNat)) := opI fun i j _ _ _ _ _ hc q =>
  rshift_int hc (by rw [Int.fdiv_eq_ediv_of_nonneg i (two_pow_nn _)]; exact q)
theorem op_and : OpR X (binaryOp .BitAnd) (rI0 fun i j => .int (Builtin.bitAnd i j)) := opI0 fun _ _ _ _ _ _ _ q => and_int q
theorem op_or : OpR X (binaryOp .BitOr) (rI0 fun i j => .int (Builtin.bitOr i j)) := opI0 fun _ _ _ _ _ _ _ q => or_int q
theorem unI {f : Value → Sem Value} {g : Int → Int}
    (rule : ∀ (i : Int) (t : Tok) (s : Shared) (Q : Value → Shared → Prop) (E : Value → Shared → Prop), Q (.int (g i) s.toks) { s with toks := s.toks + 1 } → wpAny (model X.prog X.w) X.A (f (.int i t)) Q E s) :
    UnR X f (rU fun i => .int (g i)) := by
  intro pins s σ H x v Q I rx h
  obtain ⟨i, rfl, q⟩ := h
  obtain ⟨t, rfl⟩ := rx
  exact rule i t s _ _ ⟨.int (g i), H, I.tok _, ⟨_, rfl⟩, q⟩
theorem un_neg : UnR X (unaryOp .USub) (rU fun i => .int (-i)) := unI fun _ _ _ _ _ q => neg_int q
theorem un_inv : UnR X (unaryOp .Invert) (rU fun i => .int (Builtin.bitNot i)) := unI fun _ _ _ _ _ q => invert_int q
end
def scal : V → V → Bool
  | .non, .non => true | .non, .int _ => true | .int _, .non => true | .non, .bl _ => true | .bl _, .non => true | .non, .str _ => true | .str _, .non => true
  | .int _, .int _ => true | .bl _, .bl _ => true | .str _, .str _ => true | .byt _, .byt _ => true
  | .int _, .str _ => true | .str _, .int _ => true | .bl _, .str _ => true | .str _, .bl _ => true
  | _, _ => false
def rEq : R2 := fun x y H Q => scal x y = true ∧ Q (.bl (decide (x = y))) H
def rNe : R2 := fun x y H Q => scal x y = true ∧ Q (.bl (!decide (x = y))) H
theorem dec_int {i j : Int} : decide (V.int i = V.int j) = (i == j) := by
  rw [Bool.eq_iff_iff]
  simp
theorem dec_bl {i j : Bool} : decide (V.bl i = V.bl j) = (i == j) := by
  rw [Bool.eq_iff_iff]
  simp
theorem dec_str {i j : Str} : decide (V.str i = V.str j) = (i == j) := by
  rw [Bool.eq_iff_iff]
  simp
theorem dec_byt {i j : Array UInt8} : decide (V.byt i = V.byt j) = (i.toList == j.toList) := by
  rw [Bool.eq_iff_iff]
  cases i
  cases j
  simp
section
variable {X : Cx} {a b c : Expr} {ta tb tc : TE} {pos : Pos}
theorem fin_bl {pins : List (Addr × Obj)} {σ : St} {H : Hp} {s : Shared} {Q : VK} {k k' : Bool} (I : Inv X pins σ H s) (q : Q (.bl k) H) (e : k = k') : EP X pins σ Q (.bool k') s := by
  subst e
  exact ⟨.bl k, H, I, rfl, q⟩
theorem op_eq : OpR X (compareOp .Eq) rEq := by
  intro pins s σ H x y v u Q I rx ry h
  obtain ⟨hs, q⟩ := h
  cases x with
  | non =>
    cases rx
    cases y with
    | non => cases ry; exact PySem.EqNone.eq_none_none (fin_bl I q (by simp))
    | bl j => cases ry; exact PySem.EqNone.eq_none_bool (fin_bl I q (by simp))
    | int j => obtain ⟨t', rfl⟩ := ry; exact PySem.EqNone.eq_none_int (fin_bl I q (by simp))
    | str j => obtain ⟨t', rfl⟩ := ry; exact PySem.EqNone.eq_none_str (fin_bl I q (by simp))
    | _ => exact absurd (show false = true from hs) Bool.false_ne_true
  | bl i =>
    cases rx
    cases y with
    | non => cases ry; exact PySem.EqNone.eq_bool_none (fin_bl I q (by simp))
    | bl j => cases ry; exact eq_bool (fin_bl I q dec_bl)
    | str j => obtain ⟨t', rfl⟩ := ry; exact PySem.EqMixed.eq_bool_str (fin_bl I q (by simp))
    | _ => exact absurd (show false = true from hs) Bool.false_ne_true
  | int i =>
    obtain ⟨t, rfl⟩ := rx
    cases y with
    | non => cases ry; exact PySem.EqNone.eq_int_none (fin_bl I q (by simp))
    | int j => obtain ⟨t', rfl⟩ := ry; exact eq_int (fin_bl I q dec_int)
    | str j => obtain ⟨t', rfl⟩ := ry; exact PySem.EqMixed.eq_int_str (fin_bl I q (by simp))
    | _ => exact absurd (show false = true from hs) Bool.false_ne_true
  | str i =>
    obtain ⟨t, rfl⟩ := rx
    cases y with
    | non => cases ry; exact PySem.EqNone.eq_str_none (fin_bl I q (by simp))
    | bl j => cases ry; exact PySem.EqMixed.eq_str_bool (fin_bl I q (by simp))
    | int j => obtain ⟨t', rfl⟩ := ry; exact PySem.EqMixed.eq_str_int (fin_bl I q (by simp))
    | str j => obtain ⟨t', rfl⟩ := ry; exact eq_str (fin_bl I q dec_str)
    | _ => exact absurd (show false = true from hs) Bool.false_ne_true
  | byt i =>
    obtain ⟨t, rfl⟩ := rx
    cases y with
    | byt j => obtain ⟨t', rfl⟩ := ry; exact PySem.W.eq_bytes (fin_bl I q dec_byt)
    | _ => exact absurd (show false = true from hs) Bool.false_ne_true
  | _ => cases y <;> exact absurd (show false = true from hs) Bool.false_ne_true
theorem op_ne : OpR X (compareOp .NotEq) rNe := by
  intro pins s σ H x y v u Q I rx ry h
  obtain ⟨hs, q⟩ := h
  cases x with
  | non =>
    cases rx
    cases y with
    | non => cases ry; exact PySem.EqNone.ne_none_none (fin_bl I q (by simp))
    | bl j => cases ry; exact PySem.EqNone.ne_none_bool (fin_bl I q (by simp))
    | int j => obtain ⟨t', rfl⟩ := ry; exact PySem.EqNone.ne_none_int (fin_bl I q (by simp))
    | str j => obtain ⟨t', rfl⟩ := ry; exact PySem.EqNone.ne_none_str (fin_bl I q (by simp))
    | _ => exact absurd (show false = true from hs) Bool.false_ne_true
  | bl i =>
    cases rx
    cases y with
    | non => cases ry; exact PySem.EqNone.ne_bool_none (fin_bl I q (by simp))
    | bl j => cases ry; exact ne_bool (fin_bl I q (congrArg not dec_bl))
    | str j => obtain ⟨t', rfl⟩ := ry; exact PySem.EqMixed.ne_bool_str (fin_bl I q (by simp))
    | _ => exact absurd (show false = true from hs) Bool.false_ne_true
  | int i =>
    obtain ⟨t, rfl⟩ := rx
    cases y with
    | non => cases ry; exact PySem.EqNone.ne_int_none (fin_bl I q (by simp))
    | int j => obtain ⟨t', rfl⟩ := ry; exact ne_int (fin_bl I q (congrArg not dec_int))
    | str j => obtain ⟨t', rfl⟩ := ry; exact PySem.EqMixed.ne_int_str (fin_bl I q (by simp))
    | _ => exact absurd (show false = true from hs) Bool.false_ne_true
  | str i =>
    obtain ⟨t, rfl⟩ := rx
    cases y with
    | non => cases ry; exact PySem.EqNone.ne_str_none (fin_bl I q (by simp))
    | bl j => cases ry; exact PySem.EqMixed.ne_str_bool (fin_bl I q (by simp))
    | int j => obtain ⟨t', rfl⟩ := ry; exact PySem.EqMixed.ne_str_int (fin_bl I q (by simp))
    | str j => obtain ⟨t', rfl⟩ := ry; exact ne_str (fin_bl I q (congrArg not dec_str))
    | _ => exact absurd (show false = true from hs) Bool.false_ne_true
  | byt i =>
    obtain ⟨t, rfl⟩ := rx
    cases y with
    | byt j => obtain ⟨t', rfl⟩ := ry; exact PySem.W.ne_bytes (fin_bl I q (congrArg not dec_byt))
    | _ => exact absurd (show false = true from hs) Bool.false_ne_true
  | _ => cases y <;> exact absurd (show false = true from hs) Bool.false_ne_true
theorem op_lt : OpR X (compareOp .Lt) (rI0 fun i j => .bl (decide (i < j))) := opB0 fun _ _ _ _ _ _ _ q => lt_int q
theorem op_le : OpR X (compareOp .LtE) (rI0 fun i j => .bl (decide (i ≤ j))) := opB0 fun _ _ _ _ _ _ _ q => le_int q
theorem op_gt : OpR X (compareOp .Gt) (rI0 fun i j => .bl (decide (j < i))) := opB0 fun _ _ _ _ _ _ _ q => gt_int q
theorem op_ge : OpR X (compareOp .GtE) (rI0 fun i j => .bl (decide (j ≤ i))) := opB0 fun _ _ _ _ _ _ _ q => ge_int q
theorem op_notN : OpR X (compareOp .IsNot) (fun x y H Q => y = .non ∧ Q (.bl (!decide (x = .non))) H) := by
  intro pins s σ H x y v u Q I rx ry h
  obtain ⟨rfl, q⟩ := h
  cases ry
  refine isnot_none_gen (fin_bl I q ?_)
  cases x <;> first
    | (cases rx; rfl)
    | (obtain ⟨t, rfl⟩ := rx; rfl)
theorem OpR.or {f : Value → Value → Sem Value} {r r' : R2} (h : OpR X f r) (h' : OpR X f r') : OpR X f (fun x y H Q => r x y H Q ∨ r' x y H Q) := by
  intro pins s σ H x y v u Q I rx ry q
  rcases q with q | q
  · exact h pins s σ H x y v u Q I rx ry q
  · exact h' pins s σ H x y v u Q I rx ry q
theorem nomark (b : Expr) {op : CmpOp} (h : op ≠ .In := by decide) (h2 : op ≠ .NotIn := by decide) : behindInMarks op b = false := by
  have e1 : (op == CmpOp.In) = false := by cases op <;> first | rfl | exact absurd rfl h
  have e2 : (op == CmpOp.NotIn) = false := by cases op <;> first | rfl | exact absurd rfl h2
  cases b <;> simp [behindInMarks, e1, e2]
theorem pe_cmpR {op : CmpOp} {r : R2} (ho : OpR X (compareOp op) r) (ha : PE X a ta) (hb : PE X b tb) (hm : behindInMarks op b = false) : PE X (.Compare a [op] [b] pos) (tOp r ta tb) := by
  intro pins s σ H Q I h
  exact wpAny_Compare1 (binT ha hb I h fun v u s2 x y H2 I2 rx ry q => ho pins s2 σ H2 x y v u Q I2 rx ry q) hm
def tTest (t : TE) : TT := fun σ H Q => t σ H fun x H' => ∃ k, x = .bl k ∧ Q k H'
theorem pt_cmpR {op : CmpOp} {r : R2} (ho : OpR X (compareOp op) r) (ha : PE X a ta) (hb : PE X b tb) (hm : behindInMarks op b = false) : PT X (.Compare a [op] [b] pos) (tTest (tOp r ta tb)) := by
  intro pins s σ H Q I h
  refine wpAny_isTrue_Compare1 (thn (ha pins s σ H _ I h) fun v s1 ⟨x, H1, I1, r1, q1⟩ => thn (hb pins s1 σ H1 _ I1 q1) fun u s2 ⟨y, H2, I2, r2, q2⟩ =>
    thn (ho pins s2 σ H2 x y v u _ I2 r1 r2 q2) fun c s3 ⟨z, H3, I3, r3, k, e, q3⟩ => ?_) hm
  subst e
  cases r3
  exact wpAny_truthy_bool ⟨H3, I3, q3⟩
theorem line63 : (sizeLine : Nat) < 2 ^ 63 := by rw [sizeLine_eq]; decide
theorem vals1 {x : V} {us : List Value} (r : Vals [x] us) : ∃ u, us = [u] ∧ RelV x u := by
  cases r with
  | cons r1 r2 => cases r2; exact ⟨_, rfl, r1⟩
theorem vals2 {x y : V} {us : List Value} (r : Vals [x, y] us) : ∃ u w', us = [u, w'] ∧ RelV x u ∧ RelV y w' := by
  cases r with
  | cons r1 r2 =>
    cases r2 with
    | cons r3 r4 => cases r4; exact ⟨_, _, rfl, r1, r3⟩
theorem call_min2 (hc : X.calm = true) : CallR X (.builtin "min") (fun xs H Q => ∃ i j, xs = [.int i, .int j] ∧ Q (.int (if j < i then j else i)) H) := by
  intro pins s σ H xs us Q I r h
  obtain ⟨i, j, rfl, q⟩ := h
  obtain ⟨u, w', rfl, ⟨t, rfl⟩, ⟨t', rfl⟩⟩ := vals2 r
  refine min_two_ints (I.ok.hd hc) fun h' tk k => ⟨_, H, I.kept k, ?_, q⟩
  by_cases hj : j < i
  · rw [if_pos hj, if_pos hj]; exact ⟨_, rfl⟩
  · rw [if_neg hj, if_neg hj]; exact ⟨_, rfl⟩
def LenV (K : PySem.W.Frag) (x : V) (H : Hp) (n : Nat) : Prop :=
  match x with
  | .str y => y.length ≤ sizeLine ∧ n = y.length
  | .byt y => y.size ≤ sizeLine ∧ n = y.size
  | .ref p => (∃ xs, SqL K H p xs ∧ n = xs.length) ∨ ∃ xs, SqT K H p xs ∧ n = xs.length
  | _ => False
theorem call_len : CallR X (.builtin "len") (fun xs H Q => ∃ x n, xs = [x] ∧ LenV X.K x H n ∧ Q (.int n) H) := by
  intro pins s σ H xs us Q I r h
  obtain ⟨x, n, rfl, e, q⟩ := h
  obtain ⟨u, rfl, rx⟩ := vals1 r
  have hl := line63
  have hs : sizeLine = 16777216 := sizeLine_eq
  cases x with
  | str y =>
    obtain ⟨t, rfl⟩ := rx
    obtain ⟨hy, e'⟩ : y.length ≤ sizeLine ∧ n = y.length := e
    subst e'
    exact len_str (by omega) ⟨.int _, H, I.tok _, ⟨_, rfl⟩, q⟩
  | byt y =>
    obtain ⟨t, rfl⟩ := rx
    obtain ⟨hy, e'⟩ : y.size ≤ sizeLine ∧ n = y.size := e
    subst e'
    exact PySem.W.len_bytes (by omega) ⟨.int _, H, I.tok _, ⟨_, rfl⟩, q⟩
  | ref p =>
    cases rx
    have e' : (∃ xs, SqL X.K H p xs ∧ n = xs.length) ∨ ∃ xs, SqT X.K H p xs ∧ n = xs.length := e
    rcases e' with ⟨xs, hx, e'⟩ | ⟨xs, hx, e'⟩
    · subst e'
      obtain ⟨its, r', pl, hz⟩ := I.list hx
      have hlen := r'.length
      exact Calls.call_len_list pl.isList (by simp only [List.size_toArray]; omega) ⟨.int xs.length, H, I.tok _, ⟨_, by simp only [List.size_toArray]; rw [hlen]⟩, q⟩
    · subst e'
      obtain ⟨its, r', pl, hz⟩ := I.tuple hx
      have hlen := r'.length
      exact len_tuple pl (by simp only [List.size_toArray]; omega) ⟨.int xs.length, H, I.tok _, ⟨_, by simp only [List.size_toArray]; rw [hlen]⟩, q⟩
  | _ => exact (show False from e).elim
end
end L2
namespace L2
open PySem PySem.Spec PyProof.Rows
structure ObjM (h : Heap) (x dx C : Addr) (mA : Str → Option Value) : Prop where
  obj : h.get? x = some (PySem.W.instObj C dx)
  ns : h.Ns1 dx mA
  ne : dx ≠ x
theorem lookIn_ns {h : Heap} {dx : Addr} {mA : Str → Option Value} (n : h.Ns1 dx mA) : ∃ od, h.get? dx = some od ∧ ∀ name, PySem.W.lookIn name od = some (mA name) := by
  obtain ⟨o, es, ep, ho, hd, hk, _, hm⟩ := n
  refine ⟨o, ho, fun name => ?_⟩
  have e := hm name
  unfold nsFind findBy at e
  rw [← Array.find?_toList] at e
  unfold PySem.W.lookIn
  rw [hd]
  dsimp only
  split
  · rename_i y q
    rw [q] at e
    exact congrArg some e
  · rename_i q
    rw [q] at e
    have a : es.toList.any (·.refKey) = false := by
      rw [List.any_eq_false]
      intro y hy
      obtain ⟨z, t, hkey⟩ := hk y (Array.mem_toList_iff.mp hy)
      simp [DictEntry.refKey, hkey]
    have a' : ¬ es.toList.any (·.refKey) = true := by rw [a]; exact Bool.false_ne_true
    rw [if_neg a']
    exact congrArg some e
theorem ObjM.look {h : Heap} {x dx C : Addr} {mA : Str → Option Value} (I : ObjM h x dx C mA) : ∃ od, PySem.W.InstAt h x (PySem.W.instObj C dx) C (some od) ∧ ∀ name, PySem.W.lookIn name od = some (mA name) :=
  let ⟨od, ho, hl⟩ := lookIn_ns I.ns
  ⟨od, ⟨I.obj, rfl, rfl, ho⟩, hl⟩
section
variable {prog : Program} {w : World} {A : Around} {E : Value → Shared → Prop} {s : Shared} {K : PySem.W.Frag} {x dx C f : Addr} {mA : Str → Option Value} {name : Str} {v : Value}
theorem get_map {expr : Bool} {Q : Value → Shared → Prop} (X : K.In s.heap) (I : ObjM s.heap x dx C mA) (hg : PySem.W.plainGet K C name = true) (hh : PySem.W.hasDictIn K C = true)
    (ha : PySem.W.findIn K (.ref C) name = some none) (hv : mA name = some v) (hv' : PySem.W.handedIn v = true) (h : Q v { s with toks := s.toks + 1 }) :
    wpAny (model prog w) A (getAttr (.ref x) name expr) Q E s := by
  obtain ⟨od, J, hl⟩ := I.look
  exact PySem.W.get_value X J (PySem.W.plainGet_of hg).1 (PySem.W.findObj_own hh ha rfl (by rw [hl, hv])) hv' h
theorem get_meth {pl : Sem Bool} {Q : Value × List Value → Shared → Prop} (X : K.In s.heap) (I : ObjM s.heap x dx C mA) (hg : PySem.W.plainGet K C name = true)
    (hf : PySem.W.findIn K (.ref C) name = some (some (.ref f))) (ht : PySem.W.isFn K (.ref f) = true) (hv : mA name = none) (h : Q (.ref f, [.ref x]) s) :
    wpAny (model prog w) A (getMethod (.ref x) name pl) Q E s := by
  obtain ⟨od, J, hl⟩ := I.look
  exact PySem.W.method_fn X J (PySem.W.plainGet_of hg).1 (PySem.W.plainGet_of hg).2 hf (beq_iff_eq.mp ht) (by show (PySem.W.lookIn name od).map (·.isSome) = some false; rw [hl, hv]; rfl) h
theorem set_map {ns : List Str} {Q : Unit → Shared → Prop} (X : K.In s.heap) (I : ObjM s.heap x dx C mA)
    (hs : PySem.W.findIn K (.ref C) "__setattr__" = some (some (.builtin "object.__setattr__"))) (hp : PySem.W.plainOver K C = true) (ht : PySem.W.takerIn K C name = some none) (hh : PySem.W.hasDictIn K C = true)
    (hw : PySem.Within mA ns) (hsz : ns.length ≤ sizeLine)
    (h : ∀ h', ObjM h' x dx C (fun y => if y = name then some v else mA y) → Heap.SameBut dx s.heap h' → Q () { s with heap := h', toks := s.toks + 2 }) :
    wpAny (model prog w) A (setAttr (.ref x) name v) Q E s := by
  obtain ⟨od, J, hl⟩ := I.look
  refine PySem.W.set_plain X J hs (PySem.W.osa_open (s := { s with toks := s.toks + 1 }) (r := none) X J hp ht fun b => ?_)
  obtain ⟨cd, hc, hd'⟩ := PySem.W.any_some hh
  have hx : s.heap.get? x = some ⟨.ref C, some dx, .plain, #[]⟩ := I.obj
  refine wpAny_bind (wpAny_pure (wpAny_bind (wpAny_bind (wpAny_loadPart hx (wpAny_bind (PySem.W.Looks.here (s := { s with toks := s.toks + 1 }) (PySem.W.looks_clsIn X hc) ?_))))))
  rw [hd']
  refine wpAny_pure (a := some dx) (wpAny_bind (wpAny_pure (wpAny_bind ?_)))
  refine wpAny_nsSet1 (s := { s with toks := s.toks + 1 }) I.ns fun h' hn2 hs2 => ?_
  obtain ⟨oD, esD, epD, hoD, hdD, hcD⟩ := hn2.count (PySem.Within.cons name v hw)
  refine wpAny_bind (wpAny_lookBehind hoD (by rw [hdD]; exact pastItsLine_dict (Nat.le_trans hcD (by rw [List.length_cons]; omega))) ?_)
  exact wpAny_pure (h _ ⟨(hs2.2 _ (Ne.symm I.ne)).trans I.obj, hn2, I.ne⟩ hs2)
theorem make_map {R : Result → Shared → Prop} {vs : List Value} {kw : List (Str × Value)} (X : K.In s.heap) (hm : PySem.W.makesIn K C = true)
    (hi : PySem.W.findIn K (.ref C) "__init__" = some (some (.ref f))) (hf : PySem.W.typeIn K (.ref f) = some (.type "function"))
    (h : codeAny (model prog w) (A.under (.builtin "type.__call__" ⟨.ref C :: vs, kw⟩)) (.call (.ref f) ⟨.ref (s.heap.objs.size + 1) :: vs, kw⟩) (PySem.W.InitBack (s.heap.objs.size + 1) R)
      { s with heap := (s.heap.push PySem.W.emptyDict).push (PySem.W.instObj C s.heap.objs.size) }) :
    codeAny (model prog w) A (.call (.ref C) ⟨vs, kw⟩) R s := by
  obtain ⟨hh, g, d, t, os⟩ := s
  exact PySem.W.make_core (PySem.W.makes_of X hm) (PySem.W.looks_findIn X hi) (fun self => PySem.W.bind_fn X self hf) (.inl rfl) h
end
def putF (f : Str) (v : V) : List (Str × V) → List (Str × V)
  | [] => [(f, v)]
  | (g, x) :: r => if g = f then (g, v) :: r else (g, x) :: putF f v r
theorem lookup_putF (f g : Str) (v : V) : ∀ fs : List (Str × V), (putF f v fs).lookup g = if g = f then some v else fs.lookup g
  | [] => by
    show List.lookup g [(f, v)] = _
    by_cases h : g = f
    · have hb : (g == f) = true := beq_iff_eq.mpr h
      simp only [List.lookup, hb, if_pos h]
    · have hb : (g == f) = false := beq_eq_false_iff_ne.mpr h
      simp only [List.lookup, hb, if_neg h]
  | (k, x) :: r => by
    have ih := lookup_putF f g v r
    rw [show putF f v ((k, x) :: r) = (if k = f then (k, v) :: r else (k, x) :: putF f v r) from rfl]
    by_cases hk : k = f
    · rw [if_pos hk]
      by_cases h : g = k
      · have hb : (g == k) = true := beq_iff_eq.mpr h
        simp only [List.lookup, hb, if_pos (h.trans hk)]
      · have hb : (g == k) = false := beq_eq_false_iff_ne.mpr h
        simp only [List.lookup, hb, if_neg (fun e : g = f => h (e.trans hk.symm))]
    · rw [if_neg hk]
      by_cases h : g = k
      · have hb : (g == k) = true := beq_iff_eq.mpr h
        simp only [List.lookup, hb, if_neg (fun e : g = f => hk (h.symm.trans e))]
      · have hb : (g == k) = false := beq_eq_false_iff_ne.mpr h
        simp only [List.lookup, hb]
        exact ih
theorem keys_putF (f : Str) (v : V) : ∀ fs : List (Str × V), f ∈ (putF f v fs).map (·.1) ∧ ∀ g, g ∈ fs.map (·.1) → g ∈ (putF f v fs).map (·.1)
  | [] => ⟨by simp [putF], fun g h => by simp at h⟩
  | (k, x) :: r => by
    obtain ⟨i1, i2⟩ := keys_putF f v r
    rw [show putF f v ((k, x) :: r) = (if k = f then (k, v) :: r else (k, x) :: putF f v r) from rfl]
    by_cases hk : k = f
    · rw [if_pos hk]
      subst hk
      exact ⟨by simp, fun g h => by simpa using h⟩
    · rw [if_neg hk]
      refine ⟨?_, fun g h => ?_⟩
      · rw [List.map_cons]
        exact List.mem_cons_of_mem _ i1
      · rw [List.map_cons] at h ⊢
        rcases List.mem_cons.mp h with e | e
        · exact List.mem_cons.mpr (.inl e)
        · exact List.mem_cons_of_mem _ (i2 g e)
theorem length_putF (f : Str) (v : V) : ∀ fs : List (Str × V), (putF f v fs).length ≤ fs.length + 1
  | [] => by simp [putF]
  | (k, x) :: r => by
    have ih := length_putF f v r
    rw [show putF f v ((k, x) :: r) = (if k = f then (k, v) :: r else (k, x) :: putF f v r) from rfl]
    by_cases hk : k = f
    · rw [if_pos hk, List.length_cons, List.length_cons]; omega
    · rw [if_neg hk, List.length_cons, List.length_cons]; omega
theorem RelO.some_of {v : V} {o : Option Value} (r : RelO (some v) o) : ∃ u, o = some u ∧ RelV v u := by
  cases o with
  | none => exact (show False from r).elim
  | some u => exact ⟨u, rfl, r⟩
theorem RelO.none_of {o : Option Value} (r : RelO none o) : o = none := by
  cases o with
  | none => rfl
  | some u => exact (show False from r).elim
theorem handed_of {v : V} {u : Value} (r : RelV v u) : PySem.W.handedIn u = true := by
  cases v with
  | non => cases (show u = Value.none from r); rfl
  | bl b => cases (show u = Value.bool b from r); rfl
  | int i => obtain ⟨t, e⟩ := (show ∃ t, u = Value.int i t from r); cases e; rfl
  | str x => obtain ⟨t, e⟩ := (show ∃ t, u = Value.str x t from r); cases e; rfl
  | byt b => obtain ⟨t, e⟩ := (show ∃ t, u = Value.bytes b t from r); cases e; rfl
  | flt b => obtain ⟨t, e⟩ := (show ∃ t, u = Value.float b t from r); cases e; rfl
  | ref a => cases (show u = Value.ref a from r); rfl
  | ty n => cases (show u = Value.type n from r); rfl
section
variable {P : Program} {w : World} {H H' : Hp} {h h' : Heap} {a C dx : Addr} {fs fs' : List (Str × V)}
theorem ins_get (hok : HOk P w H h) (e : H a = some (.ins C dx fs)) : ∃ mA, ObjM h a dx C mA ∧ (∀ f, RelO (fs.lookup f) (mA f)) ∧ PySem.Within mA (fs.map (·.1)) ∧ fs.length ≤ 1000 ∧ H dx = some (.own a) := by
  obtain ⟨d, z, ne, ob, mA, n, r, q⟩ := (show ObjOk P w H h a (.ins C dx fs) from hok a _ e)
  exact ⟨mA, ⟨ob, n, ne⟩, r, q, z, d⟩
end
structure Cls (K : PySem.W.Frag) (C : Addr) : Prop where
  pg : PySem.W.plainGet K C Str.empty = true
  hd : PySem.W.hasDictIn K C = true
  po : PySem.W.plainOver K C = true
  sa : PySem.W.findIn K (.ref C) "__setattr__" = some (some (.builtin "object.__setattr__"))
theorem Cls.get {K : PySem.W.Frag} {C : Addr} (c : Cls K C) (f : Str) : PySem.W.plainGet K C f = true := c.pg
def NoAttr (K : PySem.W.Frag) (C : Addr) (f : Str) : Prop := PySem.W.findIn K (.ref C) f = some none
theorem NoAttr.taker {K : PySem.W.Frag} {C : Addr} {f : Str} (n : NoAttr K C f) : PySem.W.takerIn K C f = some none := by
  unfold PySem.W.takerIn
  rw [show PySem.W.findIn K (.ref C) f = some none from n]
  rfl
structure Con (K : PySem.W.Frag) (C : Addr) (f : Str) (v : V) (u : Value) : Prop where
  at_ : PySem.W.findIn K (.ref C) f = some (some u)
  rel : RelV v u
  get : PySem.W.specialIn K u "__get__" = some none
  cp : PySem.W.copiedNames.contains f = false
structure Meth (K : PySem.W.Frag) (C : Addr) (m : Str) (f : Addr) : Prop where
  at_ : PySem.W.findIn K (.ref C) m = some (some (.ref f))
  fn : PySem.W.isFn K (.ref f) = true
  kp : PySem.W.keepIn K (.ref f) = true
section
variable {X : Cx} {pins : List (Addr × Obj)} {σ : St} {H : Hp} {s : Shared} {a C dx : Addr} {fs : List (Str × V)} {f : Str} {v : V} {A : Around} {E : Value → Shared → Prop}
theorem getattr_ok {b : Bool} {Q : Value → Shared → Prop} (I : Inv X pins σ H s) (e : H a = some (.ins C dx fs)) (c : Cls X.K C) (n : NoAttr X.K C f) (l : fs.lookup f = some v)
    (h : ∀ u s', Inv X pins σ H s' → RelV v u → Q u s') : wpAny (model X.prog X.w) A (getAttr (.ref a) f b) Q E s := by
  obtain ⟨mA, O, r, _, _, _⟩ := ins_get I.hok e
  obtain ⟨u, hu, ru⟩ := RelO.some_of (v := v) (o := mA f) (by rw [← l]; exact r f)
  exact get_map I.kIn O (c.get f) c.hd n hu (handed_of ru) (h u _ (I.tok _) ru)
theorem getmeth_ok {m : Str} {g : Addr} {pl : Sem Bool} {Q : Value × List Value → Shared → Prop} (I : Inv X pins σ H s) (e : H a = some (.ins C dx fs)) (c : Cls X.K C) (k : Meth X.K C m g) (l : fs.lookup m = none)
    (h : Q (.ref g, [.ref a]) s) : wpAny (model X.prog X.w) A (getMethod (.ref a) m pl) Q E s := by
  obtain ⟨mA, O, r, _, _, _⟩ := ins_get I.hok e
  have hn : mA m = none := RelO.none_of (by rw [← l]; exact r m)
  exact get_meth I.kIn O (c.get m) k.at_ k.fn hn h
theorem setattr_ok {y : V} {u : Value} {Q : Unit → Shared → Prop} (I : Inv X pins σ H s) (e : H a = some (.ins C dx fs)) (c : Cls X.K C) (n : NoAttr X.K C f) (hl : fs.length < 1000) (ry : RelV y u)
    (h : ∀ s', Inv X pins σ (upd H a (.ins C dx (putF f y fs))) s' → Q () s') : wpAny (model X.prog X.w) A (setAttr (.ref a) f u) Q E s := by
  obtain ⟨mA, O, r, wi, _, ho⟩ := ins_get I.hok e
  have hz : (fs.map (·.1)).length ≤ sizeLine := by rw [List.length_map, sizeLine_eq]; omega
  refine set_map I.kIn O c.sa c.po n.taker c.hd wi hz fun h' O' sb => h _ ?_
  have hd : ∃ o, h'.get? dx = some o := let ⟨o, _, _, e', _⟩ := O'.ns; ⟨o, e'⟩
  refine I.write (x := a) (e := dx) (by rw [e]; exact True.intro) (.inr ho) (fun b q hb z => (sb.2 b hb).trans z) hd ?_
  refine ⟨by rw [upd_ne O.ne]; exact ho, ?_, O.ne, O'.obj, _, O'.ns, fun g => ?_, fun g hg => ?_⟩
  · have := length_putF f y fs; omega
  · show RelO ((putF f y fs).lookup g) (if g = f then some u else mA g)
    rw [lookup_putF]
    by_cases q : g = f
    · rw [if_pos q, if_pos q]; exact ry
    · rw [if_neg q, if_neg q]; exact r g
  · by_cases q : g = f
    · rw [q]; exact (keys_putF f y fs).1
    · refine (keys_putF f y fs).2 g (wi g fun z => hg ?_)
      show (if g = f then some u else mA g) = none
      rw [if_neg q]; exact z
theorem Inv.made (I : Inv X pins σ H s) : Inv X pins σ (upd (upd H s.heap.objs.size (.own (s.heap.objs.size + 1))) (s.heap.objs.size + 1) (.ins C s.heap.objs.size []))
    { s with heap := (s.heap.push PySem.W.emptyDict).push (PySem.W.instObj C s.heap.objs.size) } := by
  have e1 : (s.heap.push PySem.W.emptyDict).get? s.heap.objs.size = some PySem.W.emptyDict := Heap.get?_push_size s.heap rfl
  have e2 : ((s.heap.push PySem.W.emptyDict).push (PySem.W.instObj C s.heap.objs.size)).get? (s.heap.objs.size + 1) = some (PySem.W.instObj C s.heap.objs.size) := by
    have := Heap.get?_push_size (s.heap.push PySem.W.emptyDict) (o := PySem.W.instObj C s.heap.objs.size) rfl
    rwa [Heap.size_push] at this
  have e3 : (s.heap.push PySem.W.emptyDict).Ns s.heap.objs.size (fun _ => none) := ⟨PySem.W.emptyDict, #[], _, e1, rfl, (fun e he => absurd he (by simp)), fun _ => rfl⟩
  have I1 := I.laid (a := s.heap.objs.size) (o := .own (s.heap.objs.size + 1)) (h' := s.heap.push PySem.W.emptyDict) (t' := s.toks) (fun b u q => Heap.get?_push_of_some _ q) (Nat.le_refl _) ⟨_, e1⟩
  refine I1.laid (a := s.heap.objs.size + 1) (o := .ins C s.heap.objs.size []) (t' := s.toks) (fun b u q => Heap.get?_push_of_some _ q) (Nat.le_of_eq (Heap.size_push _ _)) ?_
  have ne : s.heap.objs.size ≠ s.heap.objs.size + 1 := Nat.ne_of_lt (Nat.lt_succ_self _)
  refine ⟨by rw [upd_ne ne, upd_same], Nat.zero_le _, ne, e2, fun _ => none, (Heap.Ns1.of_empty e3).at fun o q => Heap.get?_push_of_some _ q, fun _ => True.intro, fun y hy => absurd rfl hy⟩
theorem attr_of {prog : Program} {w : World} {env : Env} {e : Expr} {f : Str} {pos : Pos} {s : Shared} {Q : Value → Shared → Prop} (hb : attributeBase e f env (eval e env) = eval e env)
    (h : wpAny (model prog w) A (eval e env) (fun o s₁ => wpAny (model prog w) A (getAttr o f true) Q E s₁) E s) : wpAny (model prog w) A (eval (.Attribute e f pos) env) Q E s :=
  Attribute_any_ h (by rw [arm_eval_Attribute, hb])
end
def tFld (K : PySem.W.Frag) (ta : TE) (f : Str) : TE := fun σ H Q => ta σ H fun x H1 => ∃ a C dx fs v, x = .ref a ∧ H1 a = some (.ins C dx fs) ∧ Cls K C ∧ NoAttr K C f ∧ fs.lookup f = some v ∧ Q v H1
def sFld (K : PySem.W.Frag) (ta tv : TE) (f : Str) : TS := fun D σ H => tv σ H fun y H1 => ta σ H1 fun x H2 => ∃ a C dx fs, x = .ref a ∧ H2 a = some (.ins C dx fs) ∧ Cls K C ∧ NoAttr K C f ∧ fs.length < 1000 ∧
  D.nx σ (upd H2 a (.ins C dx (putF f y fs)))
section
variable {X : Cx} {o e value : Expr} {f : Str} {pos pos' tpos : Pos} {ta tv : TE}
theorem pe_fld (he : PE X e ta) (hb : attributeBase e f X.env (eval e X.env) = eval e X.env) : PE X (.Attribute e f pos) (tFld X.K ta f) := by
  intro pins s σ H Q I h
  refine attr_of hb (thn (he pins s σ H _ I h) fun u s1 ⟨x, H1, I1, rx, a, C, dx, fs, v, ex, ea, c, n, l, q⟩ => ?_)
  subst ex
  obtain rfl : u = Value.ref a := rx
  exact getattr_ok I1 ea c n l fun u' s2 I2 ru => ⟨v, H1, I2, ru, q⟩
theorem ps_fld (ha : PE X o ta) (hv : PE X value tv) (hs : swapsWith value (some (.Attribute o f pos')) pos.line X.env = pure false) : PS X (.Assign [.Attribute o f pos'] value pos) (sFld X.K ta tv f) := by
  intro pins s σ H D I h
  refine plainObj_wpAny_Assign_Attribute (thn (hv pins s σ H _ I h) fun u s1 ⟨y, H1, I1, ry, q⟩ => thn (ha pins s1 σ H1 _ I1 q) fun ov s2 ⟨x, H2, I2, rx, a, C, dx, fs, ex, ea, c, n, l, q2⟩ => ?_) hs
  subst ex
  obtain rfl : ov = Value.ref a := rx
  exact setattr_ok I2 ea c n l ry fun s3 I3 => ⟨σ, _, I3, q2⟩
end
section
variable {X : Cx} {pins : List (Addr × Obj)} {σ : St} {H : Hp} {s : Shared} {A : Around} {E : Value → Shared → Prop} {Q : Value → Shared → Prop} {c : Value} {b : Bool}
inductive TyOf (K : PySem.W.Frag) (H : Hp) : V → Value → Prop where
  | non : TyOf K H .non (.type "NoneType")
  | bl (x : Bool) : TyOf K H (.bl x) (.type "bool")
  | int (i : Int) : TyOf K H (.int i) (.type "int")
  | str (x : Str) : TyOf K H (.str x) (.type "str")
  | flt (x : UInt64) : TyOf K H (.flt x) (.type "float")
  | lst {a : Addr} {xs : List V} (e : H a = some (.lst xs)) : TyOf K H (.ref a) (.type "list")
  | frz {a : Addr} {o : Obj} {xs : List V} (e : H a = some (.frz o (.lst xs))) : TyOf K H (.ref a) (.type "list")
  | tup {a : Addr} {xs : List V} (e : H a = some (.tup xs)) : TyOf K H (.ref a) (.type "tuple")
  | dK {a : Addr} {kvs : List (Key × V)} (e : H a = some (.dK kvs)) : TyOf K H (.ref a) (.type "dict")
  | dT {a : Addr} {kvs : List (List Key × V)} (e : H a = some (.dT kvs)) : TyOf K H (.ref a) (.type "dict")
  | ins {a C dx : Addr} {fs : List (Str × V)} (e : H a = some (.ins C dx fs)) (cl : Cls K C) (ha : PySem.W.findIn K (.ref C) "__class__" = some (some (.builtin "object.__class__")))
      (hn : PySem.W.specialIn K (.builtin "object.__class__") "__get__" = some (some (.builtin "getset_descriptor.__get__"))) (htk : PySem.W.takesIn K (.builtin "object.__class__") = some true)
      (hm : PySem.W.mroIn K C (.type "object") = some true) : TyOf K H (.ref a) (.ref C)
end
end L2
namespace L2
open PySem PySem.Spec PyProof.Rows
structure Room (k : Nat) (A : Around) : Prop where
  hd : A.handled = none
  dp : A.depth + 3 * k + 5 < recursionLimit
  un : A.units + 16 * k + 200 < cLine
theorem Room.mono {j k : Nat} {A : Around} (r : Room k A) (h : j ≤ k) : Room j A := ⟨r.hd, by have := r.dp; omega, by have := r.un; omega⟩
theorem Room.deeper {k : Nat} {A : Around} (r : Room (k + 1) A) (env : Env) : Room k (A.deeper env) :=
  ⟨r.hd, by have := r.dp; show A.depth + 1 + 3 * k + 5 < _; omega, by have := r.un; show A.units + 3 + 16 * k + 200 < _; omega⟩
theorem Room.in1 {k : Nat} {A : Around} (r : Room (k + 1) A) : Room k A.in1 :=
  ⟨r.hd, by have := r.dp; show A.depth + 3 * k + 5 < _; omega, by have := r.un; show A.units + 1 + 16 * k + 200 < _; omega⟩
theorem make_depth {A : Around} {C : Addr} {us : List Value} {kw : List (Str × Value)} : (A.under (.builtin "type.__call__" ⟨.ref C :: us, kw⟩)).depth = A.depth + 1 := by
  first | rfl | simp [Around.under, Code.weight, Code.isCreation, Code.isGuard, Code.isCaller, Code.frames, Code.isFrame, guardIds]
theorem make_units {A : Around} {C : Addr} {us : List Value} {kw : List (Str × Value)} : (A.under (.builtin "type.__call__" ⟨.ref C :: us, kw⟩)).units = A.units + 1 := by
  first | rfl | simp [Around.under, Code.cUnits, Code.frames, Code.isFrame]
theorem Room.make {k : Nat} {A : Around} (r : Room (k + 1) A) (C : Addr) (us : List Value) (kw : List (Str × Value)) : Room k (A.under (.builtin "type.__call__" ⟨.ref C :: us, kw⟩)) :=
  ⟨r.hd, by have := r.dp; rw [make_depth]; omega, by have := r.un; rw [make_units]; omega⟩
theorem Room.depth {k : Nat} {A : Around} (r : Room k A) : A.depth < recursionLimit := by have := r.dp; omega
theorem Room.units {k : Nat} {A : Around} (r : Room k A) : A.units + 64 < cLine := by have := r.un; omega
def tNil : TA := fun _ H Q => Q [] H
def tCons (ta : TE) (tr : TA) : TA := fun σ H Q => ta σ H fun x H1 => tr σ H1 fun xs H2 => Q (x :: xs) H2
section
variable {X : Cx} {e : Expr} {es : List Expr} {te : TE} {t : TA} {pos : Pos}
theorem pa_nil : PA X [] tNil := fun _ _ _ _ H Q I h => Calls.spliced_nil ⟨[], H, I, .nil, h⟩
theorem pa_cons (ha : PE X e te) (hr : PA X es t) (hs : starEach (e :: es) X.env = (false, eval e X.env) :: starEach es X.env := by rfl) : PA X (e :: es) (tCons te t) := by
  intro pos pins s σ H Q I h
  rw [hs]
  show wpAny _ _ (spliced ((false, eval e X.env) :: backTo pos (starEach es X.env))) _ _ s
  refine Calls.spliced_cons (thn (ha pins s σ H _ I h) fun u s1 ⟨x, H1, I1, r1, q1⟩ => ?_)
  exact thn (hr pos pins s1 σ H1 _ I1 q1) fun us s2 ⟨xs, H2, I2, r2, q2⟩ => ⟨x :: xs, H2, I2, .cons r1 r2, q2⟩
def tTup (t : TA) : TE := fun σ H Q => t σ H fun xs H1 => xs.length ≤ sizeLine ∧ ∀ p, H1 p = none → Q (.ref p) (upd H1 p (.tup xs))
def tLst (t : TA) : TE := fun σ H Q => t σ H fun xs H1 => xs.length ≤ sizeLine ∧ ∀ p, H1 p = none → Q (.ref p) (upd H1 p (.lst xs))
theorem pe_tup {x1} (h : PA X es t) : PE X (.Tuple es x1 pos) (tTup t) := by
  intro pins s σ H Q I hq
  refine wpAny_Tuple_spliced (thn (h pos pins s σ H _ I hq) fun us s1 ⟨xs, H1, I1, r, z, q⟩ => ⟨by rw [← r.length]; exact z, ?_⟩)
  have hf : H1 s1.heap.objs.size = none := I1.hok.fresh (Nat.le_refl _)
  refine ⟨.ref s1.heap.objs.size, upd H1 s1.heap.objs.size (.tup xs), I1.laid (t' := s1.toks) (fun b u e => Heap.get?_push_of_some _ e) (Nat.le_refl _) ?_, rfl, q _ hf⟩
  exact ⟨z, us, r, ⟨_, Heap.get?_push_size _ rfl, rfl, _, rfl⟩⟩
theorem pe_lst (h : PA X es t) : PE X (.List es pos) (tLst t) := by
  intro pins s σ H Q I hq
  refine wpAny_List_spliced (thn (h pos pins s σ H _ I hq) fun us s1 ⟨xs, H1, I1, r, z, q⟩ => ⟨by rw [← r.length]; exact z, ?_⟩)
  have hf : H1 s1.heap.objs.size = none := I1.hok.fresh (Nat.le_refl _)
  refine ⟨.ref s1.heap.objs.size, upd H1 s1.heap.objs.size (.lst xs), I1.laid (t' := s1.toks) (fun b u e => Heap.get?_push_of_some _ e) (Nat.le_refl _) ?_, rfl, q _ hf⟩
  exact ⟨z, us, 0, r, Heap.get?_push_size _ rfl⟩
end
abbrev Sp := List V → Hp → VK → XK → Prop
abbrev CXT := List Env → Hp → Shared → XK → Value → Shared → Prop
structure Env0 (P : Program) (w : World) (K : PySem.W.Frag) (mg : Str → Option Value) (base : Heap) (A : Around) (outer : List Env) (s : Shared) (H : Hp) : Prop where
  frames : A.frames = some outer
  mod : Mod K mg base
  bs : ∀ b o, base.get? b = some o → s.heap.get? b = some o ∧ H b = none
  bsz : base.objs.size ≤ s.heap.objs.size
  funs : s.heap.FunFrames base outer
  frf : ∀ b ∈ frs outer, H b = none
  hok : HOk P w H s.heap
  bare : AllBare s.gens
def CE (outer : List Env) (P : Program) (w : World) (H : Hp) (s : Shared) (Q : VK) (u : Value) (s' : Shared) : Prop :=
  ∃ v H', s'.os = s.os ∧ AllBare s'.gens ∧ Un (frs outer) [] H H' s.heap s'.heap ∧ HOk P w H' s'.heap ∧ RelV v u ∧ Q v H'
def CR (CX : CXT) (outer : List Env) (P : Program) (w : World) (H : Hp) (s : Shared) (Q : VK) (E : XK) (r : Result) (s' : Shared) : Prop :=
  match r with
  | .ok (.ret u) => CE outer P w H s Q u s'
  | .ok _ => False
  | .error e => CX outer H s E e s'
structure FnOk (P : Program) (w : World) (K : PySem.W.Frag) (mg : Str → Option Value) (base : Heap) (CX : CXT) (k : Nat) (f : Addr) (fd : FuncData) (ps : List Str) (sp : Sp) : Prop where
  len : ∀ vs H Q E, sp vs H Q E → vs.length = ps.length
  run : ∀ (A : Around) (outer : List Env) (s : Shared) (H : Hp) (args : Args) (us : List Value) (vs : List V) (Q : VK) (E : XK), Room k A → Env0 P w K mg base A outer s H → BindsTo s fd args (ps.zip us) → Vals vs us → sp vs H Q E →
    codeAny (model P w) A (.call (.ref f) args) (CR CX outer P w H s Q E) s
theorem FnOk.mono {P : Program} {w : World} {K : PySem.W.Frag} {mg : Str → Option Value} {base : Heap} {CX : CXT} {j k : Nat} {f : Addr} {fd : FuncData} {ps : List Str} {sp : Sp} (F : FnOk P w K mg base CX j f fd ps sp) (h : j ≤ k) :
    FnOk P w K mg base CX k f fd ps sp := ⟨F.len, fun A outer s H args us vs Q E hr => F.run A outer s H args us vs Q E (hr.mono h)⟩
theorem FnOk.imp {P : Program} {w : World} {K : PySem.W.Frag} {mg : Str → Option Value} {base : Heap} {CX : CXT} {k : Nat} {f : Addr} {fd : FuncData} {ps : List Str} {sp sp' : Sp} (F : FnOk P w K mg base CX k f fd ps sp)
    (h : ∀ vs H Q E, sp' vs H Q E → sp vs H Q E) : FnOk P w K mg base CX k f fd ps sp' :=
  ⟨fun vs H Q E q => F.len vs H Q E (h _ _ _ _ q), fun A outer s H args us vs Q E hr he hb hv hs => F.run A outer s H args us vs Q E hr he hb hv (h _ _ _ _ hs)⟩
theorem Env0.make {P : Program} {w : World} {K : PySem.W.Frag} {mg : Str → Option Value} {base : Heap} {A : Around} {outer : List Env} {s : Shared} {H : Hp} (e : Env0 P w K mg base A outer s H) (C : Addr) (us : List Value) (kw : List (Str × Value)) :
    Env0 P w K mg base (A.under (.builtin "type.__call__" ⟨.ref C :: us, kw⟩)) outer s H := ⟨by first | exact e.frames | (simpa [Around.under, Code.envs, Code.isFrame, pushEnvs] using e.frames), e.mod, e.bs, e.bsz, e.funs, e.frf, e.hok, e.bare⟩
theorem Env0.in1 {P : Program} {w : World} {K : PySem.W.Frag} {mg : Str → Option Value} {base : Heap} {A : Around} {outer : List Env} {s : Shared} {H : Hp} (e : Env0 P w K mg base A outer s H) :
    Env0 P w K mg base A.in1 outer s H := ⟨e.frames, e.mod, e.bs, e.bsz, e.funs, e.frf, e.hok, e.bare⟩
section
variable {X : Cx} {pins : List (Addr × Obj)} {σ : St} {H : Hp} {s s' : Shared}
theorem Inv.env0 (I : Inv X pins σ H s) : Env0 X.prog X.w X.K X.mg X.base X.A X.stack s H :=
  ⟨I.ok.frames, I.ok.mod, I.bs, Nat.le_trans I.ok.bsz I.sz, I.stack, I.stkFree, I.hok, I.bare⟩
theorem Inv.after {Q : VK} {u : Value} (I : Inv X pins σ H s) (h : CE X.stack X.prog X.w H s Q u s') : EP X pins σ Q u s' := by
  obtain ⟨v, H', os, bare, un, hok, r, q⟩ := h
  obtain ⟨hh, g, d, t, os'⟩ := s'
  obtain rfl : os' = s.os := os
  exact ⟨v, H', I.call (h' := hh) (g' := g) (d' := d) (t' := t) (ch := []) un hok bare (fun b z => absurd z (by simp)), r, q⟩
end
def tCall (sp : Sp) (dvs : List V) (E : XK) (t : TA) : TE := fun σ H Q => t σ H fun vs H1 => sp (vs ++ dvs) H1 Q E
def tMeth (C : Addr) (m : Str) (sp : Sp) (dvs : List V) (E : XK) (ta : TE) (t : TA) : TE := fun σ H Q => ta σ H fun x H1 => ∃ a dx fs, x = .ref a ∧ H1 a = some (.ins C dx fs) ∧ fs.lookup m = none ∧
  t σ H1 fun vs H2 => sp (x :: (vs ++ dvs)) H2 Q E
def tMake (C : Addr) (sp : Sp) (dvs : List V) (E : XK) (t : TA) : TE := fun σ H Q => t σ H fun vs H1 => ∀ x dx, H1 x = none → H1 dx = none → dx ≠ x →
  sp (.ref x :: (vs ++ dvs)) (upd (upd H1 dx (.own x)) x (.ins C dx [])) (fun v H2 => v = .non ∧ Q (.ref x) H2) E
def Binds (K : PySem.W.Frag) (fd : FuncData) (ps : List Str) (ds : List Value) : Prop :=
  ∀ (s : Shared) (us : List Value), K.In s.heap → (us ++ ds).length = ps.length → BindsTo s fd ⟨us, []⟩ (ps.zip (us ++ ds))
theorem Binds.all {K : PySem.W.Frag} {fd : FuncData} {ps : List Str} (h : ∀ us : List Value, us.length = ps.length → bindArgs fd ⟨us, []⟩ = pure (ps.zip us)) : Binds K fd ps [] := fun s us _ hl => by
  rw [List.append_nil] at hl ⊢
  exact .of_eq (h us hl)
def Passes (CX : CXT) (X : Cx) (E : XK) : Prop := ∀ (pins : List (Addr × Obj)) (σ : St) (H : Hp) (s : Shared) (e : Value) (s' : Shared), Inv X pins σ H s → CX X.stack H s E e s' → X.xe e s'
section
variable {X : Cx} {CX : CXT} {k : Nat} {f C : Addr} {fd : FuncData} {ps : List Str} {sp : Sp} {dvs : List V} {ds : List Value} {E : XK} {x m : Str} {p pos apos : Pos} {e o : Expr} {es : List Expr} {ta : TE} {t : TA}
theorem run_fn {pins : List (Addr × Obj)} {σ : St} {H : Hp} {s : Shared} {Q : VK} {us : List Value} {vs : List V} (F : FnOk X.prog X.w X.K X.mg X.base CX k f fd ps sp) (hr : Room k X.A) (hb : Binds X.K fd ps ds) (hd : Vals dvs ds) (hx : Passes CX X E)
    (I : Inv X pins σ H s) (r : Vals vs us) (h : sp (vs ++ dvs) H Q E) : wpAny (model X.prog X.w) X.A (call (.ref f) us) (EP X pins σ Q) X.xe s := by
  have r2 : Vals (vs ++ dvs) (us ++ ds) := r.append hd
  have hl : (us ++ ds).length = ps.length := by rw [← r2.length]; exact F.len _ _ _ _ h
  refine wpAny_call (codeAny_mono (F.run X.A X.stack s H ⟨us, []⟩ (us ++ ds) (vs ++ dvs) Q E hr I.env0 (hb s us I.kIn hl) r2 h) fun r s' hq => ?_)
  cases r with
  | error e => exact hx pins σ H s e s' I hq
  | ok fl =>
    cases fl with
    | ret u => exact I.after hq
    | next => exact False.elim hq
    | brk => exact False.elim hq
    | cont => exact False.elim hq
theorem pe_call (F : FnOk X.prog X.w X.K X.mg X.base CX k f fd ps sp) (hr : Room k X.A) (hg : Gl X x) (hm : X.mg x = some (.ref f)) (hk : PySem.W.keepIn X.K (.ref f) = true) (hb : Binds X.K fd ps ds) (hd : Vals dvs ds) (hx : Passes CX X E)
    (ha : PA X (e :: es) t) (hdb : (x == ("__debug__" : Str)) = false := by decide) (he : starEach (e :: es) X.env = (false, eval e X.env) :: starEach es X.env := by rfl) (hpl : (backTo pos (starEach es X.env)).any (·.1) = false := by rfl) :
    PE X (.Call (.Name x p) (e :: es) [] pos) (tCall sp dvs E t) := by
  intro pins s σ H Q I h
  refine wpAny_Call_Name_kw (ld_glob I hg hm ?_ hdb)
  refine PySem.W.callWith_K (h₀ := X.base) I.ok.mod.kin hk (thn (ha pos pins s σ H _ I h) fun us s1 ⟨vs, H1, I1, r, q⟩ => ⟨I1.kIn, ?_⟩) he hpl
  exact run_fn F hr hb hd hx I1 r q
theorem pe_meth {pl : Sem Bool} (he : PE X o ta) (c : Cls X.K C) (hm : Meth X.K C m f) (F : FnOk X.prog X.w X.K X.mg X.base CX k f fd ps sp) (hr : Room k X.A) (hb : Binds X.K fd ps ds) (hd : Vals dvs ds) (hx : Passes CX X E) (ha : PA X (e :: es) t)
    (hst : starEach (e :: es) X.env = (false, eval e X.env) :: starEach es X.env := by rfl) (hpl : (backTo pos (starEach es X.env)).any (·.1) = false := by rfl)
    (ht : eval (.Call (.Attribute o m apos) (e :: es) [] pos) X.env = (do
      let ov ← eval o X.env
      standAt apos.atName
      let (f, first) ← holding [ov] (getMethod ov m pl)
      callWith pos f first (backTo pos (starEach (e :: es) X.env)) (backToKw pos (keywordEach [] X.env))) := by rfl) :
    PE X (.Call (.Attribute o m apos) (e :: es) [] pos) (tMeth C m sp dvs E ta t) := by
  intro pins s σ H Q I h
  refine PySem.W.methodCall_KW (pl := pl) (thn (he pins s σ H _ I h) fun u s1 ⟨x, H1, I1, rx, a, dx, fs, ex, ea, l, q⟩ => ?_) ht
  subst ex
  obtain rfl : u = Value.ref a := rx
  refine getmeth_ok I1 ea c hm l ?_
  refine PySem.W.callWith_K (first := [.ref a]) (h₀ := X.base) I.ok.mod.kin hm.kp (thn (ha pos pins s1 σ H1 _ I1 q) fun us s2 ⟨vs, H2, I2, r, q2⟩ => ⟨I2.kIn, ?_⟩) hst hpl
  exact run_fn (us := .ref a :: us) (vs := .ref a :: vs) F hr hb hd hx I2 (.cons rfl r) q2
theorem pe_meth0 {pl : Sem Bool} (he : PE X o ta) (c : Cls X.K C) (hm : Meth X.K C m f) (F : FnOk X.prog X.w X.K X.mg X.base CX k f fd ps sp) (hr : Room k X.A) (hb : Binds X.K fd ps ds) (hd : Vals dvs ds) (hx : Passes CX X E)
    (ht : eval (.Call (.Attribute o m apos) [] [] pos) X.env = (do
      let ov ← eval o X.env
      standAt apos.atName
      let (f, first) ← holding [ov] (getMethod ov m pl)
      callWith pos f first (backTo pos (starEach [] X.env)) (backToKw pos (keywordEach [] X.env))) := by rfl) :
    PE X (.Call (.Attribute o m apos) [] [] pos) (tMeth C m sp dvs E ta tNil) := by
  intro pins s σ H Q I h
  refine PySem.W.methodCall_KW (pl := pl) (thn (he pins s σ H _ I h) fun u s1 ⟨x, H1, I1, rx, a, dx, fs, ex, ea, l, q⟩ => ?_) ht
  subst ex
  obtain rfl : u = Value.ref a := rx
  refine getmeth_ok I1 ea c hm l ?_
  exact PySem.W.callWith_K0 (first := [.ref a]) I1.kIn hm.kp (run_fn (us := [.ref a]) (vs := [.ref a]) F hr hb hd hx I1 (.cons rfl .nil) q)
structure Mk (K : PySem.W.Frag) (C f : Addr) : Prop where
  makes : PySem.W.makesIn K C = true
  init : PySem.W.findIn K (.ref C) "__init__" = some (some (.ref f))
  fn : PySem.W.isFn K (.ref f) = true
  kp : PySem.W.keepIn K (.ref C) = true
theorem run_make {pins : List (Addr × Obj)} {σ : St} {H : Hp} {s : Shared} {Q : VK} {us : List Value} {vs : List V} (M : Mk X.K C f) (F : FnOk X.prog X.w X.K X.mg X.base CX k f fd ps sp) (hr : Room (k + 1) X.A) (hb : Binds X.K fd ps ds) (hd : Vals dvs ds)
    (hx : Passes CX X E) (I : Inv X pins σ H s) (r : Vals vs us)
    (h : ∀ x dx, H x = none → H dx = none → dx ≠ x → sp (.ref x :: (vs ++ dvs)) (upd (upd H dx (.own x)) x (.ins C dx [])) (fun v H2 => v = .non ∧ Q (.ref x) H2) E) :
    wpAny (model X.prog X.w) X.A (call (.ref C) us) (EP X pins σ Q) X.xe s := by
  have hq := h (s.heap.objs.size + 1) s.heap.objs.size (I.hok.fresh (Nat.le_succ _)) (I.hok.fresh (Nat.le_refl _)) (Nat.ne_of_lt (Nat.lt_succ_self _))
  have I2 := Inv.made (C := C) I
  have r2 : Vals (V.ref (s.heap.objs.size + 1) :: (vs ++ dvs)) (Value.ref (s.heap.objs.size + 1) :: (us ++ ds)) := .cons rfl (r.append hd)
  have hl : (Value.ref (s.heap.objs.size + 1) :: us ++ ds).length = ps.length := by
    have e := r2.length
    rw [F.len _ _ _ _ hq] at e
    exact e.symm
  refine wpAny_call (make_map (f := f) I.kIn M.makes M.init (beq_iff_eq.mp M.fn) (codeAny_mono (F.run _ X.stack _ _ ⟨Value.ref (s.heap.objs.size + 1) :: us, []⟩ (Value.ref (s.heap.objs.size + 1) :: (us ++ ds)) _ _ E (hr.make C us [])
    (I2.env0.make C us []) (hb _ (Value.ref (s.heap.objs.size + 1) :: us) I2.kIn hl) r2 hq) fun r s' hq' => ?_))
  cases r with
  | error e => exact hx pins σ _ _ e s' I2 hq'
  | ok fl =>
    cases fl with
    | ret u =>
      obtain ⟨v, H', I3, rv, ev, q3⟩ := I2.after hq'
      subst ev
      exact ⟨rv, ⟨V.ref (s.heap.objs.size + 1), H', I3, rfl, q3⟩⟩
    | next => exact False.elim hq'
    | brk => exact False.elim hq'
    | cont => exact False.elim hq'
theorem pe_make (M : Mk X.K C f) (F : FnOk X.prog X.w X.K X.mg X.base CX k f fd ps sp) (hr : Room (k + 1) X.A) (hg : Gl X x) (hm : X.mg x = some (.ref C)) (hb : Binds X.K fd ps ds) (hd : Vals dvs ds) (hx : Passes CX X E)
    (ha : PA X (e :: es) t) (hdb : (x == ("__debug__" : Str)) = false := by decide) (he : starEach (e :: es) X.env = (false, eval e X.env) :: starEach es X.env := by rfl) (hpl : (backTo pos (starEach es X.env)).any (·.1) = false := by rfl) :
    PE X (.Call (.Name x p) (e :: es) [] pos) (tMake C sp dvs E t) := by
  intro pins s σ H Q I h
  refine wpAny_Call_Name_kw (ld_glob I hg hm ?_ hdb)
  refine PySem.W.callWith_K (h₀ := X.base) I.ok.mod.kin M.kp (thn (ha pos pins s σ H _ I h) fun us s1 ⟨vs, H1, I1, r, q⟩ => ⟨I1.kIn, ?_⟩) he hpl
  exact run_make M F hr hb hd hx I1 r q
end
section
variable {X : Cx} {CX : CXT} {k : Nat} {f C : Addr} {fd : FuncData} {ps ks : List Str} {sp : Sp} {E : XK} {x m : Str} {p pos apos kpos : Pos} {e o : Expr} {es : List Expr} {kws : List Keyword} {te ta : TE} {t tk : TA} {nm : Option Str}
structure KBinds (K : PySem.W.Frag) (fd : FuncData) (ps ks : List Str) (g : List Value → List Value → List Value) (gV : List V → List V → List V) : Prop where
  to : ∀ (s : Shared) (us ws : List Value), K.In s.heap → (g us ws).length = ps.length → BindsTo s fd ⟨us, ks.zip ws⟩ (ps.zip (g us ws))
  rel : ∀ {vs : List V} {us : List Value} {zs : List V} {ws : List Value}, Vals vs us → Vals zs ws → Vals (gV vs zs) (g us ws)
variable {g : List Value → List Value → List Value} {gV : List V → List V → List V}
end
structure FnScope (N P : List Str) (sc : Scope) : Prop where
  kind : sc.kind = .function
  co : sc.isCoroutine = false
  gen : sc.isGenerator = false
  nd : N.Nodup
  pre : N.take P.length = P
  par : ∀ x ∈ P, sc.names.lookup x = some .local ∨ sc.names.lookup x = some .cell
  nofree : ∀ y ∈ sc.names, y.2 ≠ .free
theorem bindL_out {kindOf : Str → Option NameKind} {x : Str} : ∀ {binds : List (Str × Value)} {m : Str → Option Value}, (∀ v, (x, v) ∉ binds) → bindL kindOf binds m x = m x
  | [], _, _ => rfl
  | (n, v) :: r, m, h => by
    unfold bindL
    rw [bindL_out fun w hw => h w (List.mem_cons_of_mem _ hw)]
    split
    · have : x ≠ n := by rintro rfl; exact h v List.mem_cons_self
      simp [this]
    · rfl
theorem bindC_out {kindOf : Str → Option NameKind} {x : Str} : ∀ {binds : List (Str × Value)} {m : Str → Option Value}, (∀ v, (x, v) ∉ binds) → bindC kindOf binds m x = m x
  | [], _, _ => rfl
  | (n, v) :: r, m, h => by
    unfold bindC
    rw [bindC_out fun w hw => h w (List.mem_cons_of_mem _ hw)]
    split
    · rfl
    · have : x ≠ n := by rintro rfl; exact h v List.mem_cons_self
      simp [this]
theorem bindL_get {kindOf : Str → Option NameKind} {x : Str} {v : Value} : ∀ {P : List Str} {vs : List Value} {i : Nat} {m : Str → Option Value}, P.Nodup → P[i]? = some x → vs[i]? = some v → kindOf x = some .local →
    bindL kindOf (P.zip vs) m x = some v
  | [], _, _, _, _, h, _, _ => by simp at h
  | _ :: _, [], _, _, _, _, h, _ => by simp at h
  | p :: P, w :: vs, 0, m, nd, h1, h2, hk => by
    simp at h1 h2; subst h1; subst h2
    show bindL kindOf ((p, w) :: P.zip vs) m p = _
    unfold bindL
    rw [bindL_out fun v hv => (List.nodup_cons.mp nd).1 (List.of_mem_zip hv).1, if_pos hk]
    simp
  | p :: P, w :: vs, i + 1, m, nd, h1, h2, hk => by
    show bindL kindOf ((p, w) :: P.zip vs) m x = _
    unfold bindL
    exact bindL_get (i := i) (List.nodup_cons.mp nd).2 (by simpa using h1) (by simpa using h2) hk
theorem bindC_get {kindOf : Str → Option NameKind} {x : Str} {v : Value} : ∀ {P : List Str} {vs : List Value} {i : Nat} {m : Str → Option Value}, P.Nodup → P[i]? = some x → vs[i]? = some v → kindOf x ≠ some .local →
    bindC kindOf (P.zip vs) m x = some v
  | [], _, _, _, _, h, _, _ => by simp at h
  | _ :: _, [], _, _, _, _, h, _ => by simp at h
  | p :: P, w :: vs, 0, m, nd, h1, h2, hk => by
    simp at h1 h2; subst h1; subst h2
    show bindC kindOf ((p, w) :: P.zip vs) m p = _
    unfold bindC
    rw [bindC_out fun v hv => (List.nodup_cons.mp nd).1 (List.of_mem_zip hv).1, if_neg hk]
    simp
  | p :: P, w :: vs, i + 1, m, nd, h1, h2, hk => by
    show bindC kindOf ((p, w) :: P.zip vs) m x = _
    unfold bindC
    exact bindC_get (i := i) (List.nodup_cons.mp nd).2 (by simpa using h1) (by simpa using h2) hk
def start (N : List Str) (vs : List V) : St := vs.map some ++ List.replicate (N.length - vs.length) none
def cxOf (CX : CXT) (P : Program) (w : World) (K : PySem.W.Frag) (mg : Str → Option Value) (base : Heap) (N : List Str) (qual : Str) (scope : Scope) (f : Addr) (cd : Value) (A : Around) (outer : List Env) (s : Shared) (H : Hp) (E : XK) : Cx where
  prog := P
  w := w
  K := K
  mg := mg
  base := base
  A := A.deeper (envOfC qual scope s.heap.objs.size f cd)
  N := N
  s₀ := s
  H₀ := H
  env := envOfC qual scope s.heap.objs.size f cd
  outer := outer
  stack := envOfC qual scope s.heap.objs.size f cd :: outer
  ex := []
  calm := true
  fn := fun _ => true
  pn := []
  xe := fun e s' => wpAny (model P w) (A.deeper (envOfC qual scope s.heap.objs.size f cd)) (leaving (envOfC qual scope s.heap.objs.size f cd) e) (fun _ s'' => CX outer H s E e s'') (fun e' s'' => CX outer H s E e' s'') s'
theorem cell_has {sc : Scope} {n : Nat} {x : Str} (h : sc.names.lookup x = some .cell) : ∃ c, (cellsFrom n sc.names []).lookup x = some c := by
  have q := PySem.W.cellsFrom_some sc.names n [] (.inl h)
  exact Option.isSome_iff_exists.mp q
theorem inv_start {CX : CXT} {P : Program} {w : World} {K : PySem.W.Frag} {mg : Str → Option Value} {base : Heap} {N ps : List Str} {qual : Str} {scope : Scope} {f : Addr} {cd : Value} {A : Around} {outer : List Env} {s s1 : Shared} {H : Hp} {E : XK} {us : List Value} {vs : List V}
    (S : FnScope N ps scope) (hd : A.handled = none) (e0 : Env0 P w K mg base A outer s H) (hl : vs.length = ps.length) (r : Vals vs us)
    (x : InCallC s s.heap.objs.size (bindL (envOfC qual scope s.heap.objs.size f cd).kindOf (ps.zip us) fun _ => none) (cellsFrom (s.heap.objs.size + 1) scope.names []) (bindC (envOfC qual scope s.heap.objs.size f cd).kindOf (ps.zip us) fun _ => none) s1) :
    Inv (cxOf CX P w K mg base N qual scope f cd A outer s H E) [] (start N vs) H s1 := by
  have hpl : ps.length ≤ N.length := by have := congrArg List.length S.pre; rw [List.length_take] at this; omega
  obtain ⟨h1, tk, rfl, hk⟩ := x.done
  have noA : ∀ b : Addr, b ∉ (cxOf CX P w K mg base N qual scope f cd A outer s H E).ex := fun b z => absurd (show b ∈ ([] : List Addr) from z) (by simp)
  refine ⟨⟨e0.mod, S.kind, rfl, rfl, Nat.le_refl _, fun y z c h1 h2 => ?_, fun y hy => ?_, fun y c _ h => ?_, fun _ => hd, Around.frames_deeper e0.frames, .inr ⟨rfl, rfl⟩, fun b z => absurd z (noA b), e0.bs, e0.bsz, fun b _ _ => noA b, fun b z => absurd z (noA b), e0.funs, e0.frf⟩,
    rfl, e0.bare, Un.kept hk, ⟨_, x.toInCall.ns, fun i y v h1 h2 h3 => ?_⟩, fun y c h => ⟨_, x.cell y c h⟩, e0.hok.fresh (Nat.le_refl _), fun y c h => ?_, fun p hp => absurd (show p ∈ ([] : List (Addr × Obj)) from hp) (by simp), e0.hok.kept hk, ?_⟩
  · exact name_of_addr x.apart (PySem.mem_of_lookup h1) (PySem.mem_of_lookup h2)
  · have hy : scope.names.lookup y = some .cell ∨ scope.names.lookup y = some .free := hy
    rcases hy with hy | hy
    · exact cell_has hy
    · exact absurd rfl (S.nofree _ (PySem.mem_of_lookup hy))
  · exact Nat.le_of_lt (x.above y c (PySem.mem_of_lookup h))
  · have hi : i < vs.length := by
      unfold start at h2
      by_cases hi : i < vs.length
      · exact hi
      · rw [List.getElem?_append_right (by simpa using hi)] at h2
        rw [List.getElem?_replicate] at h2
        split at h2 <;> cases h2
    have ha : vs[i]? = some v := by
      unfold start at h2
      rw [List.getElem?_append_left (by simpa using hi), List.getElem?_map] at h2
      cases e : vs[i]? with
      | none => rw [e] at h2; cases h2
      | some a => rw [e] at h2; cases h2; rfl
    obtain ⟨u, hu, rv⟩ := r.get ha
    have hp : ps[i]? = some y := by
      rw [← S.pre, List.getElem?_take_of_lt (by omega)]; exact h1
    have ndP : ps.Nodup := by rw [← S.pre]; exact S.nd.sublist (List.take_sublist _ _)
    refine ⟨u, rv, ?_⟩
    rcases S.par y (List.mem_of_getElem? hp) with k | k
    · exact .inl ⟨k, bindL_get ndP hp hu k⟩
    · obtain ⟨c, e⟩ := cell_has (n := s.heap.objs.size + 1) k
      refine .inr ⟨.inl k, c, e, ?_⟩
      have q := x.cell y c e
      rw [bindC_get ndP hp hu (by show scope.names.lookup y ≠ _; rw [k]; decide)] at q
      exact q
  · exact e0.hok.fresh (Nat.le_of_lt (x.above y c (PySem.mem_of_lookup h)))
  · unfold start
    show _ = N.length
    rw [List.length_append, List.length_map, List.length_replicate]
    omega
theorem fn_of {CX : CXT} {P : Program} {w : World} {K : PySem.W.Frag} {mg : Str → Option Value} {base : Heap} {k : Nat} {f : Addr} {name qual : Str} {params : Arguments} {body : List Stmt} {scope : Scope} {dV kV doc pm cdv ct oc : Value} {an od : Option Addr}
    {osl : Array (Option Value)} {N ps : List Str} {sp : Sp} (lk : K.lookup f = some ⟨oc, od, .func (PySem.W.fnOf name qual params body scope dV kV doc pm an cdv ct), osl⟩) (hcd : PySem.W.codeIn K cdv qual = true) (S : FnScope N ps scope)
    (len : ∀ vs H Q E, sp vs H Q E → vs.length = ps.length)
    (hbody : ∀ (A : Around) (outer : List Env) (s : Shared) (H : Hp) (vs : List V) (Q : VK) (E : XK), Room k (A.deeper (envOfC qual scope s.heap.objs.size f cdv)) → sp vs H Q E →
      ∃ t, PSs (cxOf CX P w K mg base N qual scope f cdv A outer s H E) body t ∧ t { nx := fun _ H' => Q .non H', rt := Q } (start N vs) H) :
    FnOk P w K mg base CX (k + 1) f (PySem.W.fnOf name qual params body scope dV kV doc pm an cdv ct) ps sp := by
  refine ⟨len, fun A outer s H args us vs Q E hr e0 hb r hsp => ?_⟩
  have hl := len _ _ _ _ hsp
  have KX : K.In s.heap := e0.mod.kin.keeps fun b o e => (e0.bs b o e).1
  have lim : s.heap.NoLimit := e0.mod.nolimit.keeps fun b o e => (e0.bs b o e).1
  have hkind : ∀ y ∈ ps.zip us, scope.names.lookup y.1 = some .local ∨ (scope.names.lookup y.1 = some .cell ∧ ((cellsFrom (s.heap.objs.size + 1) scope.names []).lookup y.1).isSome = true) := fun ⟨n, v⟩ hy => by
    rcases S.par n (List.of_mem_zip hy).1 with q | q
    · exact .inl q
    · exact .inr ⟨q, PySem.W.cellsFrom_some _ _ _ (.inl q)⟩
  refine codeAny_call_function hr.depth (KX _ _ lk) rfl S.co S.gen rfl (PySem.W.codeRec_of KX hcd) (hb _ _ _ _ ?_)
  refine wpAny_newFunctionEnv_cells S.kind hkind fun env he s1 x => ?_
  subst he
  refine ⟨lim.keeps x.toInCall.keep, codeAny_func ?_⟩
  obtain ⟨t, ht, hq⟩ := hbody A outer s H vs Q E (hr.deeper _) hsp
  have I : Inv (cxOf CX P w K mg base N qual scope f cdv A outer s H E) [] (start N vs) H s1 := inv_start S hr.hd e0 hl r x
  refine wpAny_mono (ht [] s1 (start N vs) H _ I hq) (fun fl s' hs => ?_) fun e s' hs => hs
  have fin : ∀ {σ' : St} {H' : Hp} {v : V} {u : Value}, Inv (cxOf CX P w K mg base N qual scope f cdv A outer s H E) [] σ' H' s' → RelV v u → Q v H' → CE outer P w H s Q u s' :=
    fun {σ' H' v u} J rv q => ⟨v, H', J.os, J.bare, J.base, J.hok, rv, q⟩
  cases fl with
  | ret u =>
    obtain ⟨v, σ', H', J, rv, q⟩ := hs
    exact fin J rv q
  | next =>
    obtain ⟨σ', H', J, q⟩ := hs
    exact fin (v := V.non) (u := Value.none) J rfl q
  | brk =>
    obtain ⟨_, _, _, q⟩ := hs
    exact False.elim q
  | cont =>
    obtain ⟨_, _, _, q⟩ := hs
    exact False.elim q
end L2
namespace L2
open PySem PySem.Spec PyProof.Rows
section
variable {X : Cx} {x : Str} {p pos : Pos} {e : Expr} {es : List Expr} {t : TA} {id T : String} {r : List V → Hp → VK → Prop}
def tCB (r : List V → Hp → VK → Prop) (t : TA) : TE := fun σ H Q => t σ H fun vs H1 => r vs H1 Q
theorem pe_callB (hc : CallR X (.builtin id) r) (hg : Gl X x) (hm : X.mg x = none) (hv : bootBuiltins x = some (.builtin id)) (ha : PA X (e :: es) t) (hn : x ≠ "__name__" := by decide) (hdb : (x == ("__debug__" : Str)) = false := by decide)
    (he : starEach (e :: es) X.env = (false, eval e X.env) :: starEach es X.env := by rfl) (hpl : (backTo pos (starEach es X.env)).any (·.1) = false := by rfl) : PE X (.Call (.Name x p) (e :: es) [] pos) (tCB r t) := by
  intro pins s σ H Q I h
  refine wpAny_Call_Name_kw (ld_blt I hg hm hv ?_ hn hdb)
  exact PyProof.Rows.callWith_builtin1 (thn (ha pos pins s σ H _ I h) fun us s1 ⟨vs, H1, I1, r1, q1⟩ => hc pins s1 σ H1 vs us Q I1 r1 q1) he hpl
theorem pe_callTy (hc : CallR X (.type T) r) (hg : Gl X x) (hm : X.mg x = none) (hv : bootBuiltins x = some (.type T)) (ha : PA X (e :: es) t) (hn : x ≠ "__name__" := by decide) (hdb : (x == ("__debug__" : Str)) = false := by decide)
    (he : starEach (e :: es) X.env = (false, eval e X.env) :: starEach es X.env := by rfl) (hpl : (backTo pos (starEach es X.env)).any (·.1) = false := by rfl) : PE X (.Call (.Name x p) (e :: es) [] pos) (tCB r t) := by
  intro pins s σ H Q I h
  refine wpAny_Call_Name_kw (ld_blt I hg hm hv ?_ hn hdb)
  exact PyProof.Rows.callWith_type1 (thn (ha pos pins s σ H _ I h) fun us s1 ⟨vs, H1, I1, r1, q1⟩ => hc pins s1 σ H1 vs us Q I1 r1 q1) he hpl
end
end L2
namespace HT
open PySem PyProof.Rows
def lexLt : List Int → List Int → Bool
  | [], [] => false
  | [], _ :: _ => true
  | _ :: _, [] => false
  | x :: xs, y :: ys => if x = y then lexLt xs ys else decide (x < y)
theorem lexLt_cons (x y : Int) (xs ys : List Int) : lexLt (x :: xs) (y :: ys) = if x = y then lexLt xs ys else decide (x < y) := rfl
theorem lexLt_nil_nil : lexLt [] [] = false := rfl
theorem lexLt_nil_cons (y : Int) (ys : List Int) : lexLt [] (y :: ys) = true := rfl
theorem lexLt_cons_nil (x : Int) (xs : List Int) : lexLt (x :: xs) [] = false := rfl
theorem eqAt_int (A : Around) (s : Shared) (a : Int) (t : Tok) (c : Int) (u : Tok) : ∃ e, SeqAt.EqAt A s (.int a t) (.int c u) e ∧ (e = true ↔ a = c) :=
  ⟨(a == c), SeqAt.EqAt.int_int a t c u, by simp⟩
theorem rcLt_int (A : Around) (s : Shared) (a : Int) (t : Tok) (c : Int) (u : Tok) (prog : Program) (w : World) (E : Value → Shared → Prop) (Q : Value → Shared → Prop) (h : Q (.bool (decide (a < c))) s) :
    wpAny (model prog w) A (richCompare .Lt (.int a t) (.int c u)) Q E s :=
  (PyProof.Rows.lt_int h : wpAny (model prog w) A (compareOp .Lt (.int a t) (.int c u)) Q E s)
section
open PySem.SeqAt
open PySem.AutoSeq1 (wpAny_loadPart')
open PySem.MeetsSeq PySem.MeetsSeq2 PySem.MeetsSeq3
theorem tuple_lt_ints (l b : Addr) (items items2 : Array Value) (n n2 : Nat) (dd dd2 : Option Addr) (sl sl2 : Array (Option Value)) (ns ms : List Int) (hi : IntsAre items.toList ns) (hj : IntsAre items2.toList ms) :
    Meets (Builtin.«tuple.__lt__» ⟨[.ref l, .ref b], []⟩)
      (fun _ R s => s.heap.get? l = some { cls := .type "tuple", dict := dd, data := .seq items n, slots := sl } ∧ s.heap.get? b = some { cls := .type "tuple", dict := dd2, data := .seq items2 n2, slots := sl2 } ∧
        R (.ok (.ret (.bool (lexLt ns ms)))) s) :=
  .of_wp fun prog w A R s h => by
    obtain ⟨hp, g, d, tk, os⟩ := s; obtain ⟨hl, hb, h⟩ := h
    have f2 := AutoSeq1.sub_tuple_tuple
    have z1 : items.size = ns.length := by rw [← hi.length]; simp
    have z2 : items2.size = ms.length := by rw [← hj.length]; simp
    wp_walk using wpAny_loadPart' hl, wpAny_loadPart' hb, wpAny_forIn_list _ (fun rest b s' => b.1 = none ∧ s' = ⟨hp, g, d, tk, os⟩ ∧ ∃ (vs ws : List Value) (ns' ms' : List Int), rest = vs.zip ws ∧
      IntsAre vs ns' ∧ IntsAre ws ms' ∧ ns'.length + items2.size = ms'.length + items.size ∧ R (.ok (.ret (.bool (lexLt ns' ms')))) ⟨hp, g, d, tk, os⟩) _
    case turn =>
      rintro ⟨y, x⟩ rest b s' ⟨hb', rfl, vs, ws, ns', ms', hz, hvi, hwi, hlen, hR⟩
      cases hvi with
      | nil => rw [List.zip_nil_left] at hz; cases hz
      | cons a t hvi' =>
        cases hwi with
        | nil => rw [List.zip_nil_right] at hz; cases hz
        | cons c u hwi' =>
          rw [List.zip_cons_cons] at hz
          injection hz with hyx hrest
          injection hyx with hy hx
          subst hy hx
          rw [lexLt_cons] at hR
          simp only [List.length_cons] at hlen
          obtain ⟨e, he, hiff⟩ := eqAt_int A.in1 ⟨hp, g, d, tk, os⟩ a t c u
          refine wpAny_bind (he prog w _ _ ?_)
          cases e with
          | true =>
            rw [if_pos (hiff.mp rfl)] at hR
            wp_walk
            exact ⟨rfl, rfl, _, _, _, _, hrest, hvi', hwi', by omega, hR⟩
          | false =>
            rw [if_neg (fun q => absurd (hiff.mpr q) Bool.false_ne_true)] at hR
            have hri := rcLt_int A.in1 ⟨hp, g, d, tk, os⟩ a t c u prog w
            wp_walk using hri
            exact ⟨_, rfl, by simpa using hR⟩
    case fin =>
      rintro ⟨b1, b2⟩ s' ⟨hb', rfl, vs, ws, ns', ms', hz, hvi, hwi, hlen, hR⟩
      simp only at hb'
      subst hb'
      have hv : lexLt ns' ms' = decide (items.size < items2.size) := by
        cases hvi with
        | nil =>
          cases hwi with
          | nil =>
            simp only [List.length_nil] at hlen
            rw [lexLt_nil_nil]
            exact (decide_eq_false (by omega)).symm
          | cons c u hw =>
            simp only [List.length_nil, List.length_cons] at hlen
            rw [lexLt_nil_cons]
            exact (decide_eq_true (by omega)).symm
        | cons a t hv =>
          cases hwi with
          | nil =>
            simp only [List.length_nil, List.length_cons] at hlen
            rw [lexLt_cons_nil]
            exact (decide_eq_false (by omega)).symm
          | cons c u hw =>
            rw [List.zip_cons_cons] at hz
            cases hz
      rw [hv] at hR
      wp_walk
      exact ⟨_, rfl, by simpa [Builtin.Tuple.tupleCompareSizes] using hR⟩
    case h =>
      exact ⟨rfl, rfl, items.toList, items2.toList, ns, ms, rfl, hi, hj, by omega, h⟩
end
section
variable {prog : Program} {w : World} {A : Around} {E : Value → Shared → Prop} {s : Shared}
theorem lt_tupInts {l b : Addr} {items items2 : Array Value} {ns ms : List Int} {Q : Value → Shared → Prop} (hl : IsTup s.heap l items) (hb : IsTup s.heap b items2) (hi : IntsAre items.toList ns) (hj : IntsAre items2.toList ms)
    (hu : A.units < cLine) (h : Q (.bool (lexLt ns ms)) s) : wpAny (model prog w) A (compareOp .Lt (.ref l) (.ref b)) Q E s := by
  obtain ⟨⟨cls, dd, data, sl⟩, ho, hc, n, hd⟩ := id hl
  obtain ⟨⟨cls2, dd2, data2, sl2⟩, ho2, hc2, n2, hd2⟩ := id hb
  simp only at hc hd hc2 hd2
  subst hc hd hc2 hd2
  exact richCompare_meets_room (op := .Lt) ⟨_, ho, rfl⟩ ⟨_, ho2, rfl⟩ PySem.F.slot_tuple_lt PySem.F.entry_tuple_lt (PySem.F.args_tuple_lt_2 _ _) (tuple_lt_ints l b items items2 n n2 dd dd2 sl sl2 ns ms hi hj)
    ⟨ho, ho2, show Value.bool (lexLt ns ms) ≠ Value.notImplemented ∧ Q (.bool (lexLt ns ms)) s from ⟨(fun x => nomatch x), h⟩⟩ hu
def sIx (n d : Nat) : Option Int → Nat
  | none => d
  | some v => if v < 0 then (v + (n : Int)).toNat else min v.toNat n
theorem sIx_none (n d : Nat) : sIx n d none = d := rfl
theorem sIx_nat (n d k : Nat) : sIx n d (some (k : Int)) = min k n := by
  show (if (k : Int) < 0 then ((k : Int) + (n : Int)).toNat else min (k : Int).toNat n) = min k n
  rw [if_neg (by omega), Int.toNat_natCast]
end
end HT
namespace L2
open PySem PySem.Spec PyProof.Rows
abbrev TO := St → Hp → (Option Int → Hp → Prop) → Prop
def PO (X : Cx) (e : Option Expr) (t : TO) : Prop :=
  ∀ (pins : List (Addr × Obj)) (s : Shared) (σ : St) (H : Hp) (Q : Option Int → Hp → Prop), Inv X pins σ H s → t σ H Q →
    wpAny (model X.prog X.w) X.A (evalPart e X.env) (fun u s' => ∃ o H', Inv X pins σ H' s' ∧ IsPart u o ∧ Q o H') X.xe s
def tNoPart : TO := fun _ H Q => Q none H
def tPart (t : TE) : TO := fun σ H Q => t σ H fun x H1 => ∃ i, x = .int i ∧ Q (some i) H1
theorem intsAre_of {ns : List Int} : ∀ {us : List Value}, Vals (ns.map V.int) us → IntsAre us ns := by
  induction ns with
  | nil => intro us r; rw [List.map_nil] at r; cases r; exact .nil
  | cons n ns ih =>
    intro us r
    rw [List.map_cons] at r
    cases r with
    | cons r1 r2 =>
      obtain ⟨t, e⟩ := r1
      subst e
      exact .cons n t (ih r2)
section
variable {X : Cx} {e : Expr} {te : TE} {lo hi : Option Expr} {tl th : TO} {pos p2 : Pos}
theorem po_none : PO X none tNoPart := by
  intro pins s σ H Q I h
  rw [evalPart_none]
  exact wpAny_pure ⟨none, H, I, .none, h⟩
theorem po_some (h : PE X e te) : PO X (some e) (tPart te) := by
  intro pins s σ H Q I hw
  rw [evalPart_some]
  refine thn (h pins s σ H _ I hw) fun u s1 ⟨x, H1, I1, r1, q1⟩ => ?_
  obtain ⟨i, rfl, q⟩ := q1
  obtain ⟨t, rfl⟩ := r1
  exact ⟨some i, H1, I1, .int i t, q⟩
def SlR (X : Cx) (r : V → Option Int → Option Int → Hp → VK → Prop) : Prop :=
  ∀ (pins : List (Addr × Obj)) (s : Shared) (σ : St) (H : Hp) (x : V) (v vl vu : Value) (lo hi : Option Int) (sl : Addr) (Q : VK), Inv X pins σ H s → RelV x v → s.heap.IsSliceOf sl vl vu .none → IsPart vl lo → IsPart vu hi → r x lo hi H Q →
    ∃ T id, typeLookup (.type T) "__getitem__" = pure (some (.builtin id)) ∧ s.TypeIs v T ∧ wpAny (model X.prog X.w) X.A (getItem v (.ref sl)) (EP X pins σ Q) X.xe s
theorem SlR.or {r r' : V → Option Int → Option Int → Hp → VK → Prop} (h : SlR X r) (h' : SlR X r') : SlR X (fun x lo hi H Q => r x lo hi H Q ∨ r' x lo hi H Q) := by
  intro pins s σ H x v vl vu lo hi sl Q I rx hs pl pu q
  rcases q with q | q
  · exact h pins s σ H x v vl vu lo hi sl Q I rx hs pl pu q
  · exact h' pins s σ H x v vl vu lo hi sl Q I rx hs pl pu q
def tSl (r : V → Option Int → Option Int → Hp → VK → Prop) (te : TE) (tl th : TO) : TE := fun σ H Q => te σ H fun x H1 => tl σ H1 fun l H2 => th σ H2 fun u H3 => r x l u H3 Q
theorem pe_slice {r : V → Option Int → Option Int → Hp → VK → Prop} (hr : SlR X r) (he : PE X e te) (hl : PO X lo tl) (hu : PO X hi th) : PE X (.Subscript e (.Slice lo hi none p2) pos) (tSl r te tl th) := by
  intro pins s σ H Q I h
  refine Subscript_ (thn (he pins s σ H _ I h) fun v s1 ⟨x, H1, I1, r1, q1⟩ => ?_)
  refine wpAny_Slice (thn (hl pins s1 σ H1 _ I1 q1) fun vl s2 ⟨l, H2, I2, pl, q2⟩ => thn (hu pins s2 σ H2 _ I2 q2) fun vu s3 ⟨u, H3, I3, pu, q3⟩ => ?_)
  rw [evalPart_none]
  refine wpAny_pure ?_
  have I4 : Inv X pins σ H3 { s3 with heap := s3.heap.push { cls := .type "slice", data := .fields #[vl, vu, .none] } } := I3.kept (t' := s3.toks) fun b ob q => Heap.get?_push_of_some _ q
  obtain ⟨T, id, hT, ht, hg⟩ := hr pins { s3 with heap := s3.heap.push { cls := .type "slice", data := .fields #[vl, vu, .none] } } σ H3 x v vl vu l u s3.heap.objs.size Q I4 r1 (Heap.IsSliceOf.new ..) pl pu q3
  show wpAny (model X.prog X.w) X.A (subscriptTail e (.Slice lo hi none p2) v (.ref s3.heap.objs.size)) (EP X pins σ Q) X.xe { s3 with heap := s3.heap.push { cls := .type "slice", data := .fields #[vl, vu, .none] } }
  exact tail_any (ops := [.ref s3.heap.objs.size, v]) ht hT hg (by with_unfolding_all rfl)
def cutV (xs : List V) (lo hi : Option Int) : List V := (xs.drop (HT.sIx xs.length 0 lo)).take (HT.sIx xs.length xs.length hi - HT.sIx xs.length 0 lo)
theorem cutV_length (xs : List V) (lo hi : Option Int) : (cutV xs lo hi).length ≤ xs.length := by
  unfold cutV
  rw [List.length_take, List.length_drop]
  omega
def rLtT (K : PySem.W.Frag) : R2 := fun x y H Q => ∃ a b ns ms, x = .ref a ∧ y = .ref b ∧ SqT K H a (ns.map V.int) ∧ SqT K H b (ms.map V.int) ∧ Q (.bl (HT.lexLt ns ms)) H
theorem op_ltT (hu : X.A.units < cLine) : OpR X (compareOp .Lt) (rLtT X.K) := by
  intro pins s σ H x y v u Q I rx ry h
  obtain ⟨a, b, ns, ms, rfl, rfl, ha, hb, q⟩ := h
  cases rx
  cases ry
  obtain ⟨its, r1, p1, _⟩ := I.tuple ha
  obtain ⟨its2, r2, p2, _⟩ := I.tuple hb
  have i1 : IntsAre its.toArray.toList ns := intsAre_of r1
  have i2 : IntsAre its2.toArray.toList ms := intsAre_of r2
  exact HT.lt_tupInts p1 p2 i1 i2 hu ⟨.bl (HT.lexLt ns ms), H, I, rfl, q⟩
end
end L2
namespace L2
open PySem PySem.Spec PyProof.Rows
def ixN (n : Nat) (i : Int) : Option Nat := if 0 ≤ i then (if i < n then some i.toNat else none) else if -(n : Int) ≤ i then some (i + n).toNat else none
def atI {α : Type} (xs : List α) (i : Int) : Option α := (ixN xs.length i).bind fun j => xs[j]?
theorem ixN_seq {n : Nat} {i : Int} {j : Nat} (h : ixN n i = some j) : seqIndex? i n = some j ∧ j < n ∧ -(n : Int) ≤ i ∧ i < n := by
  unfold ixN at h
  by_cases h0 : 0 ≤ i
  · rw [if_pos h0] at h
    by_cases h1 : i < n
    · rw [if_pos h1] at h
      have e : i.toNat = j := Option.some.inj h
      exact ⟨by rw [seqIndex_of h0 h1, e], by omega, by omega, h1⟩
    · rw [if_neg h1] at h; cases h
  · rw [if_neg h0] at h
    by_cases h1 : -(n : Int) ≤ i
    · rw [if_pos h1] at h
      have e : (i + n).toNat = j := Option.some.inj h
      exact ⟨by rw [seqIndex_neg (by omega) h1, e], by omega, h1, by omega⟩
    · rw [if_neg h1] at h; cases h
theorem atI_get {α : Type} {xs : List α} {i : Int} {v : α} (h : atI xs i = some v) : ∃ j, seqIndex? i xs.length = some j ∧ xs[j]? = some v ∧ j < xs.length ∧ -(xs.length : Int) ≤ i ∧ i < xs.length := by
  unfold atI at h
  cases e : ixN xs.length i with
  | none => rw [e] at h; cases h
  | some j =>
    rw [e] at h
    obtain ⟨h1, h2, h3, h4⟩ := ixN_seq e
    exact ⟨j, h1, h, h2, h3, h4⟩
theorem atI_nat {α : Type} {xs : List α} {j : Nat} {v : α} (h : xs[j]? = some v) : atI xs (j : Int) = some v := by
  have hj : j < xs.length := (List.getElem?_eq_some_iff.mp h).1
  have e : ixN xs.length (j : Int) = some j := by
    unfold ixN
    rw [if_pos (by omega), if_pos (by omega)]; simp
  unfold atI; rw [e]; exact h
def PlainIx (b : Expr) : Prop := ∀ o i, subscripted b false o i = operate [o, i] (getItem o i)
def IxR (X : Cx) (r : R2) : Prop :=
  ∀ (value slice : Expr) (pins : List (Addr × Obj)) (s : Shared) (σ : St) (H : Hp) (x y : V) (v u : Value) (Q : VK), Inv X pins σ H s → RelV x v → RelV y u → r x y H Q →
    subscripted slice false v u = operate [v, u] (getItem v u) → wpAny (model X.prog X.w) X.A (subscriptTail value slice v u) (EP X pins σ Q) X.xe s
def MtR (X : Cx) (id : String) (r : V → List V → Hp → VK → Prop) : Prop :=
  ∀ (pins : List (Addr × Obj)) (s : Shared) (σ : St) (H : Hp) (x : V) (xs : List V) (v : Value) (us : List Value) (Q : VK), Inv X pins σ H s → RelV x v → Vals xs us → r x xs H Q →
    wpAny (model X.prog X.w) X.A (call (.builtin id) (v :: us)) (EP X pins σ Q) X.xe s
section
variable {X : Cx} {a b : Expr} {ta tb : TE} {pos : Pos}
theorem IxR.or {r r' : R2} (h : IxR X r) (h' : IxR X r') : IxR X (fun x y H Q => r x y H Q ∨ r' x y H Q) := by
  intro value slice pins s σ H x y v u Q I rx ry q hs
  rcases q with q | q
  · exact h value slice pins s σ H x y v u Q I rx ry q hs
  · exact h' value slice pins s σ H x y v u Q I rx ry q hs
theorem MtR.or {id : String} {r r' : V → List V → Hp → VK → Prop} (h : MtR X id r) (h' : MtR X id r') : MtR X id (fun x xs H Q => r x xs H Q ∨ r' x xs H Q) := by
  intro pins s σ H x xs v us Q I rx rs q
  rcases q with q | q
  · exact h pins s σ H x xs v us Q I rx rs q
  · exact h' pins s σ H x xs v us Q I rx rs q
theorem pe_ix {r : R2} (hr : IxR X r) (ha : PE X a ta) (hb : PE X b tb) (hs : PlainIx b) : PE X (.Subscript a b pos) (tOp r ta tb) := by
  intro pins s σ H Q I h
  exact Subscript_ (binT ha hb I h fun v u s2 x y H2 I2 rx ry q => hr a b pins s2 σ H2 x y v u Q I2 rx ry q (hs _ _))
def rIxL (K : PySem.W.Frag) : R2 := fun x y H Q => ∃ p xs i v, x = .ref p ∧ y = .int i ∧ SqL K H p xs ∧ atI xs i = some v ∧ Q v H
def rIxT (K : PySem.W.Frag) : R2 := fun x y H Q => ∃ p xs i v, x = .ref p ∧ y = .int i ∧ SqT K H p xs ∧ atI xs i = some v ∧ Q v H
def rIxS : R2 := fun x y H Q => ∃ z i c, x = .str z ∧ y = .int i ∧ z.length ≤ sizeLine ∧ atI z.cps.toList i = some c ∧ Q (.str ⟨#[c]⟩) H
theorem ix_list : IxR X (rIxL X.K) := by
  intro value slice pins s σ H x y v u Q I rx ry h hs
  obtain ⟨p, xs, i, z, rfl, rfl, hq, he, q⟩ := h
  cases rx
  obtain ⟨t, rfl⟩ := ry
  obtain ⟨its, r, pl, hz⟩ := I.list hq
  obtain ⟨j, h1, h2, h3, h4, h5⟩ := atI_get he
  obtain ⟨w, ew, rw'⟩ := r.get h2
  have hl := r.length
  have hn := line63
  have fin : EP X pins σ Q w s := ⟨z, H, I, rw', q⟩
  by_cases h0 : 0 ≤ i
  · have hj : i.toNat = j := by
      rw [seqIndex_of h0 h5] at h1
      exact Option.some.inj h1
    exact item_listR pl.isList h0 (by omega) (by rw [hj]; simpa using ew) fin hs
  · have hj : (i + (its.toArray.size : Int)).toNat = j := by
      rw [seqIndex_neg (by omega) h4] at h1
      rw [List.size_toArray, ← hl]
      exact Option.some.inj h1
    exact subscriptTail_builtinR (x := w) pl.isList.typeIs slot_list_getitem.lookup
      (wpAny_getItem_list_neg (Q := fun r s' => r = w ∧ EP X pins σ Q r s') pl.isList (by omega) (by rw [List.size_toArray] <;> omega) (by omega) (by rw [hj]; simpa using ew) ⟨rfl, fin⟩) hs
theorem ix_tup : IxR X (rIxT X.K) := by
  intro value slice pins s σ H x y v u Q I rx ry h hs
  obtain ⟨p, xs, i, z, rfl, rfl, hq, he, q⟩ := h
  cases rx
  obtain ⟨t, rfl⟩ := ry
  obtain ⟨its, r, pl, hz⟩ := I.tuple hq
  obtain ⟨j, h1, h2, h3, h4, h5⟩ := atI_get he
  obtain ⟨w, ew, rw'⟩ := r.get h2
  have hl := r.length
  have hn := line63
  have fin : EP X pins σ Q w s := ⟨z, H, I, rw', q⟩
  exact subscriptTail_builtinR (x := w) pl.typeIs slot_tuple_getitem.lookup
    (getItem_tuple (j := j) (Q := fun r s' => r = w ∧ EP X pins σ Q r s') pl (by omega) (by omega) (by rw [List.size_toArray, ← hl]; exact h1) (by simpa using ew) ⟨rfl, fin⟩) hs
theorem ix_str : IxR X rIxS := by
  intro value slice pins s σ H x y v u Q I rx ry h hs
  obtain ⟨z, i, c, rfl, rfl, hz, he, q⟩ := h
  obtain ⟨t, rfl⟩ := rx
  obtain ⟨t', rfl⟩ := ry
  obtain ⟨j, h1, h2, h3, h4, h5⟩ := atI_get he
  have hl : z.cps.toList.length = z.length := by simp [Str.length]
  rw [hl] at h1 h4 h5
  have hn := line63
  exact tail_any (typeIs_str s z t) slot_str_getitem.lookup (getItem_str (c := c) (by
    have e1 : decide (i < -(2 ^ 63 : Int)) = false := decide_eq_false (by omega)
    have e2 : decide (i ≥ 2 ^ 63) = false := decide_eq_false (by omega)
    rw [e1, e2, Bool.or_false]) (by rw [h1]; simpa using h2) ⟨.str ⟨#[c]⟩, H, I.tok _, ⟨_, rfl⟩, q⟩) hs
def rIx (K : PySem.W.Frag) : R2 := fun x y H Q => rIxL K x y H Q ∨ rIxT K x y H Q ∨ rIxS x y H Q
theorem ix_seq : IxR X (rIx X.K) := ix_list.or (ix_tup.or ix_str)
theorem mapSeq_set (its : List Value) (n j : Nat) (u : Value) : Obj.mapSeq (·.setIfInBounds j u) { cls := .type "list", data := .seq its.toArray n } = { cls := .type "list", data := .seq (its.set j u).toArray n } := by
  simp [Obj.mapSeq]
theorem Inv.lst {pins : List (Addr × Obj)} {σ : St} {H : Hp} {s : Shared} {p : Addr} {xs : List V} (I : Inv X pins σ H s) (h : H p = some (.lst xs)) :
    ∃ (its : List Value) (n : Nat), Vals xs its ∧ s.heap.get? p = some { cls := .type "list", data := .seq its.toArray n } ∧ xs.length ≤ sizeLine := by
  obtain ⟨z, its, n, r, e⟩ := I.hok p _ h
  exact ⟨its, n, r, e, z⟩
theorem Inv.lstUpd {pins : List (Addr × Obj)} {σ : St} {H : Hp} {s : Shared} {p : Addr} {xs ys : List V} {its its' : List Value} {n n' : Nat} {f : Obj → Obj} (I : Inv X pins σ H s) (h : H p = some (.lst xs))
    (ho : s.heap.get? p = some { cls := .type "list", data := .seq its.toArray n }) (hf : f { cls := .type "list", data := .seq its.toArray n } = { cls := .type "list", data := .seq its'.toArray n' }) (r : Vals ys its') (hz : ys.length ≤ sizeLine) (t : Nat) :
    Inv X pins σ (upd H p (.lst ys)) { s with heap := s.heap.update p f, toks := t } := by
  have e : (s.heap.update p f).get? p = some { cls := .type "list", data := .seq its'.toArray n' } := by
    rw [Heap.get?_update_self f ho (by rw [hf] <;> rfl), hf]
  refine I.write (x := p) (e := p) (by rw [h]; trivial) (.inl rfl) (fun b u hb q => (Heap.get?_update_other _ _ (Ne.symm hb)).trans q) ⟨_, e⟩ ?_
  exact ⟨hz, its', n', r, e⟩
def rSetL : V → V → V → Hp → (Hp → Prop) → Prop := fun o i v H Q => ∃ p xs k j, o = .ref p ∧ i = .int k ∧ H p = some (.lst xs) ∧ ixN xs.length k = some j ∧ Q (upd H p (.lst (xs.set j v)))
theorem set_list : PSet X rSetL := by
  intro pins s σ H o i v ov iv u Q I ro ri rv h
  obtain ⟨p, xs, k, j, rfl, rfl, hp, hj, q⟩ := h
  cases ro
  obtain ⟨t, rfl⟩ := ri
  obtain ⟨its, n, r, ho, hz⟩ := I.lst hp
  obtain ⟨h1, h2, h3, h4⟩ := ixN_seq hj
  have hl := r.length
  have hn := line63
  have I' : Inv X pins σ (upd H p (.lst (xs.set j v))) { s with heap := s.heap.update p (Obj.mapSeq (·.setIfInBounds j u)) } :=
    I.lstUpd hp ho (mapSeq_set its n j u) (r.set rv j) (by rw [List.length_set]; exact hz) s.toks
  by_cases h0 : 0 ≤ k
  · have hk : k.toNat = j := by
      rw [seqIndex_of h0 h4] at h1
      exact Option.some.inj h1
    exact PySem.W.ki_setAt ho h0 (by omega) (by rw [List.size_toArray, ← hl]; exact h4) (by rw [hk]; exact ⟨_, I', q⟩)
  · have hk : (k + (its.toArray.size : Int)).toNat = j := by
      rw [seqIndex_neg (by omega) h3] at h1
      rw [List.size_toArray, ← hl]
      exact Option.some.inj h1
    exact PySem.W.ki_setBack ho (by omega) (by rw [List.size_toArray, ← hl]; exact h3) (by omega) (by rw [hk]; exact ⟨_, I', q⟩)
theorem slice_bounds (lo hi : Option Int) (n : Nat) : (sliceBounds lo hi none n).1 = ((HT.sIx n 0 lo : Nat) : Int) ∧ (sliceBounds lo hi none n).2.1 = ((HT.sIx n n hi : Nat) : Int) ∧ (sliceBounds lo hi none n).2.2 = 1 := by
  refine ⟨?_, ?_, rfl⟩
  · cases lo with
    | none => simp [sliceBounds, HT.sIx]
    | some i =>
      simp only [sliceBounds, HT.sIx, Option.getD_none, show (1 : Int) > 0 by decide, if_true]
      by_cases h : i < 0
      · simp only [h, if_true] <;> omega
      · simp only [h, if_false] <;> omega
  · cases hi with
    | none => simp [sliceBounds, HT.sIx]
    | some i =>
      simp only [sliceBounds, HT.sIx, Option.getD_none, show (1 : Int) > 0 by decide, if_true]
      by_cases h : i < 0
      · simp only [h, if_true] <;> omega
      · simp only [h, if_false] <;> omega
theorem slicePick_cut (its : List Value) (lo hi : Option Int) : slicePick its.toArray lo hi none = ((its.drop (HT.sIx its.length 0 lo)).take (HT.sIx its.length its.length hi - HT.sIx its.length 0 lo)).toArray := by
  obtain ⟨h1, h2, h3⟩ := slice_bounds lo hi its.toArray.size
  unfold slicePick
  rw [h1, h2, h3]
  simp only [sliceRange_one, pick_run, List.size_toArray] <;> rfl
def rSlL (K : PySem.W.Frag) : V → Option Int → Option Int → Hp → VK → Prop := fun x lo hi H Q => ∃ a xs, x = .ref a ∧ SqL K H a xs ∧ ∀ p, H p = none → Q (.ref p) (upd H p (.lst (cutV xs lo hi)))
theorem sl_list : SlR X (rSlL X.K) := by
  intro pins s σ H x v vl vu lo hi sl Q I rx hs pl pu h
  obtain ⟨a, xs, rfl, hx, q⟩ := h
  cases rx
  obtain ⟨its, r, ht, hz⟩ := I.list hx
  have hlen := r.length
  refine ⟨"list", _, slot_list_getitem.lookup, ht.isList.typeIs, ?_⟩
  refine wpAny_getItem_list_slice ht.isList hs pl pu .none (by simp) ?_ (by rw [List.size_toArray] <;> omega)
  rw [slicePick_cut, ← hlen]
  refine ⟨.ref s.heap.objs.size, _, I.laid (t' := s.toks) (o := .lst (cutV xs lo hi)) (fun b ob q => Heap.get?_push_of_some _ q) (Nat.le_refl _) ?_, rfl, q _ (I.hok.fresh (Nat.le_refl _))⟩
  exact ⟨Nat.le_trans (cutV_length xs lo hi) hz, _, 0, (r.drop (HT.sIx xs.length 0 lo)).take (HT.sIx xs.length xs.length hi - HT.sIx xs.length 0 lo), Heap.get?_push_size _ rfl⟩
theorem CallR.or {f : Value} {r r' : List V → Hp → VK → Prop} (h : CallR X f r) (h' : CallR X f r') : CallR X f (fun xs H Q => r xs H Q ∨ r' xs H Q) := by
  intro pins s σ H xs us Q I rs q
  rcases q with q | q
  · exact h pins s σ H xs us Q I rs q
  · exact h' pins s σ H xs us Q I rs q
theorem call_list_of : CallR X (.type "list") (fun xs H Q => ∃ p ys, xs = [.ref p] ∧ (SqL X.K H p ys ∨ SqT X.K H p ys) ∧ ∀ l, H l = none → Q (.ref l) (upd H l (.lst ys))) := by
  intro pins s σ H xs us Q I r h
  obtain ⟨p, ys, rfl, hq, q⟩ := h
  obtain ⟨u, rfl, rx⟩ := vals1 r
  cases rx
  have fin : ∀ (its : List Value), Vals ys its → ys.length ≤ sizeLine → ∀ (h' : Heap) (c' : Nat), (∀ b o', s.heap.get? b = some o' → h'.get? b = some o') →
      h'.get? s.heap.objs.size = some { cls := .type "list", dict := none, data := .seq its.toArray c', slots := #[] } → EP X pins σ Q (.ref s.heap.objs.size) { s with heap := h' } := fun its r' hz h' c' kp e =>
    ⟨.ref s.heap.objs.size, _, I.laid (t' := s.toks) kp (Nat.le_refl _) (show ObjOk X.prog X.w _ h' _ (.lst ys) from ⟨hz, its, c', r', e⟩), rfl, q _ (I.hok.fresh (Nat.le_refl _))⟩
  rcases hq with hq | hq
  · obtain ⟨its, r', pl, hz⟩ := I.list hq
    have hlen := r'.length
    obtain ⟨o, ho, hc, n, hd⟩ := pl.isList
    exact call_list_seq p (.inl rfl) ho hc hd (fun h' c' kp e => fin its r' hz h' c' kp e) (by simp only [List.size_toArray] <;> omega)
  · obtain ⟨its, r', pl, hz⟩ := I.tuple hq
    have hlen := r'.length
    obtain ⟨o, ho, hc, n, hd⟩ := pl
    exact call_list_seq p (.inr rfl) ho hc hd (fun h' c' kp e => fin its r' hz h' c' kp e) (by simp only [List.size_toArray] <;> omega)
def tyV (K : PySem.W.Frag) (T : String) (x : V) (H : Hp) : Prop := match x with
  | .str _ => T = "str"
  | .int _ => T = "int"
  | .ref p => (T = "list" ∧ ∃ xs, SqL K H p xs) ∨ (T = "tuple" ∧ ∃ o, K.lookup p = some o ∧ o.cls = .type "tuple" ∧ o.dict = none) ∨
      (T = "dict" ∧ ((∃ kvs, H p = some (.dK kvs)) ∨ ∃ kvs, H p = some (.dT kvs))) ∨ (T = "set" ∧ ∃ S n, H p = some (.set S n))
  | _ => False
theorem tyV_is {pins : List (Addr × Obj)} {σ : St} {H : Hp} {s : Shared} {T : String} {x : V} {v : Value} (I : Inv X pins σ H s) (r : RelV x v) (ty : tyV X.K T x H) :
    s.TypeIs v T ∧ ∀ a, v = .ref a → ∃ ob, s.heap.get? a = some ob ∧ ob.dict = none := by
  cases x with
  | str z =>
    obtain ⟨t, rfl⟩ := r
    cases (show T = "str" from ty)
    exact ⟨typeIs_str s z t, fun _ e => nomatch e⟩
  | int i =>
    obtain ⟨t, rfl⟩ := r
    cases (show T = "int" from ty)
    exact ⟨typeIs_int s i t, fun _ e => nomatch e⟩
  | ref p =>
    cases r
    rcases ty with ⟨rfl, xs, hq⟩ | ⟨rfl, o, hk, hc, hd⟩ | ⟨rfl, hk⟩ | ⟨rfl, S, n, hk⟩
    · obtain ⟨its, _, pl, _⟩ := I.list hq
      refine ⟨pl.isList.typeIs, fun a e => ?_⟩
      cases e
      obtain ⟨o, n, e, c, hd, _⟩ := pl
      exact ⟨o, e, hd⟩
    · refine ⟨⟨o, I.kIn p o hk, hc⟩, fun a e => ?_⟩
      cases e
      exact ⟨o, I.kIn _ o hk, hd⟩
    · have z : ∃ o, s.heap.get? p = some o ∧ o.ExactDict := by
        rcases hk with ⟨kvs, hk⟩ | ⟨kvs, hk⟩
        · obtain ⟨_, _, _, _, o, _, _, e, ex, _⟩ := I.hok p _ hk
          exact ⟨o, e, ex⟩
        · obtain ⟨_, _, _, _, o, _, _, e, ex, _⟩ := I.hok p _ hk
          exact ⟨o, e, ex⟩
      obtain ⟨o, e, ex⟩ := z
      refine ⟨⟨o, e, ex.1⟩, fun a e2 => ?_⟩
      cases e2
      exact ⟨o, e, ex.2.1⟩
    · obtain ⟨o, _, _, _, e, ex, _⟩ := I.hok p _ hk
      refine ⟨⟨o, e, ex.1⟩, fun a e2 => ?_⟩
      cases e2
      exact ⟨o, e, ex.2.1⟩
  | _ => exact False.elim ty
def tBM0 (K : PySem.W.Frag) (T : String) (r : V → List V → Hp → VK → Prop) (to : TE) : TE := fun σ H Q => to σ H fun x H1 => tyV K T x H1 ∧ r x [] H1 Q
def tBM (K : PySem.W.Frag) (T : String) (r : V → List V → Hp → VK → Prop) (to : TE) (t : TA) : TE := fun σ H Q => to σ H fun x H1 => tyV K T x H1 ∧ t σ H1 fun xs H2 => r x xs H2 Q
variable {o e : Expr} {es : List Expr} {to : TE} {t : TA} {name : Str} {apos cpos : Pos} {T id : String} {r : V → List V → Hp → VK → Prop}
theorem pe_bm0 (pa : PlainAttrs T) (slot : Slot T name id) (hty : typeOf (.builtin id) = pure (.type "method_descriptor")) (hm : MtR X id r) (ho : PE X o to)
    (hbase : attributeBase o name X.env (eval o X.env) = eval o X.env := by rfl) (hline : (apos.endLine == cpos.line) = true := by rfl) : PE X (.Call (.Attribute o name apos) [] [] cpos) (tBM0 X.K T r to) := by
  intro pins s σ H Q I h
  refine wpAny_Call_method0_late hbase hline (thn (ho pins s σ H _ I h) fun v s1 ⟨x, H1, I1, r1, ty, q1⟩ => ?_)
  obtain ⟨h1, h2⟩ := tyV_is I1 r1 ty
  exact ⟨T, id, pa, slot, hty, h1, h2, Calls.callWith_builtin rfl (PySem.evalArgs_none (hm pins s1 σ H1 x [] v [] Q I1 r1 .nil q1))⟩
theorem pe_bm (pa : PlainAttrs T) (slot : Slot T name id) (hty : typeOf (.builtin id) = pure (.type "method_descriptor")) (hm : MtR X id r) (ho : PE X o to) (ha : PA X (e :: es) t)
    (hbase : attributeBase o name X.env (eval o X.env) = eval o X.env := by rfl)
    (hfew : ((backTo cpos (starEach (e :: es) X.env)).all (fun x => !x.1) && (backToKw cpos (keywordEach [] X.env)).all (fun x => x.1.isSome)
      && decide ((e :: es).length + ([] : List Keyword).length + (if ([] : List Keyword).isEmpty then 0 else 1) < 30)) = true := by rfl)
    (hline : (apos.endLine == cpos.line) = true := by rfl) (hs : starEach (e :: es) X.env = (false, eval e X.env) :: starEach es X.env := by rfl) (hplain : (backTo cpos (starEach es X.env)).any (·.1) = false := by rfl) :
    PE X (.Call (.Attribute o name apos) (e :: es) [] cpos) (tBM X.K T r to t) := by
  intro pins s σ H Q I h
  refine wpAny_Call_method_late hbase hfew hline rfl (thn (ho pins s σ H _ I h) fun v s1 ⟨x, H1, I1, r1, ty, q1⟩ => ?_)
  obtain ⟨h1, h2⟩ := tyV_is I1 r1 ty
  refine ⟨T, id, pa, slot, hty, h1, h2, ?_⟩
  have hA := ha cpos pins s1 σ H1 _ I1 q1
  rw [hs] at hA ⊢
  refine Calls.callWith_builtin (by show (false || (backTo cpos (starEach es X.env)).any (·.1)) = false; rw [hplain] <;> rfl) (Calls.evalArgs_plain ?_)
  exact thn hA fun us s2 ⟨vs, H2, I2, r2, q2⟩ => hm pins s2 σ H2 x vs v us Q I2 r1 r2 q2
end
end L2
namespace L2
open PySem PySem.Spec PyProof.Rows
def MtM (X : Cx) (id : String) (r : V → List V → Hp → VK → Prop) : Prop :=
  ∀ (pins : List (Addr × Obj)) (s : Shared) (σ : St) (H : Hp) (x : V) (xs : List V) (v : Value) (us : List Value) (Q : VK), Inv X pins σ H s → RelV x v → Vals xs us → r x xs H Q →
    wpAny (model X.prog X.w) X.A (call (.builtin id) (v :: us)) (EP X pins σ Q) X.xe s
theorem Vals.one : ∀ {x : V} {us : List Value}, Vals [x] us → ∃ u, us = [u] ∧ RelV x u
  | _, _, .cons r .nil => ⟨_, rfl, r⟩
theorem Vals.two : ∀ {x y : V} {us : List Value}, Vals [x, y] us → ∃ u v, us = [u, v] ∧ RelV x u ∧ RelV y v
  | _, _, _, .cons r (.cons q .nil) => ⟨_, _, rfl, r, q⟩
theorem Vals.zero : ∀ {us : List Value}, Vals [] us → us = []
  | _, .nil => rfl
theorem Vals.reverse {xs : List V} {us : List Value} (h : Vals xs us) : Vals xs.reverse us.reverse := by
  induction h with
  | nil => exact .nil
  | cons r t ih => rw [List.reverse_cons, List.reverse_cons]; exact Vals.append ih (.cons r .nil)
theorem Vals.rep {xs : List V} {us : List Value} (h : Vals xs us) : ∀ k : Nat, Vals (List.replicate k xs).flatten (List.replicate k us).flatten
  | 0 => .nil
  | k + 1 => by
    rw [List.replicate_succ, List.replicate_succ, List.flatten_cons, List.flatten_cons]
    exact Vals.append h (Vals.rep h k)
theorem foldl_rep (its : List Value) : ∀ (k : Nat) (acc : List Value),
    List.foldl (fun x1 x2 => x1 ++ x2) acc.toArray (List.replicate k its.toArray) = (acc ++ (List.replicate k its).flatten).toArray
  | 0, acc => by simp
  | k + 1, acc => by
    have e : acc.toArray ++ its.toArray = (acc ++ its).toArray := by simp
    have e2 : (acc ++ its) ++ (List.replicate k its).flatten = acc ++ (List.replicate (k + 1) its).flatten := by
      rw [List.replicate_succ, List.flatten_cons, List.append_assoc]
    rw [← e2, ← foldl_rep its k (acc ++ its), ← e, List.replicate_succ, List.foldl_cons]
section
variable {X : Cx} {pins : List (Addr × Obj)} {σ : St} {H : Hp} {s : Shared} {l b : Addr} {xs ys zs : List V}
theorem Inv.lset {its its' : List Value} {n : Nat} {f : Array Value → Array Value} {t' : Nat} (I : Inv X pins σ H s) (hH : H l = some (.lst xs))
    (e : s.heap.get? l = some { cls := .type "list", data := .seq its.toArray n }) (hf : f its.toArray = its'.toArray) (hv : Vals ys its') (hz : ys.length ≤ sizeLine) :
    Inv X pins σ (upd H l (.lst ys)) { s with heap := s.heap.update l (Obj.mapSeq f), toks := t' } := by
  have q := PySem.IsL.update e f
  rw [hf] at q
  refine I.write (x := l) (e := l) (by rw [hH]; exact trivial) (.inl rfl) (fun b' u hb hu => (Heap.get?_update_other s.heap (Obj.mapSeq f) (Ne.symm hb)).trans hu) ⟨_, q⟩ ?_
  exact ⟨hz, its', _, hv, q⟩
theorem Inv.lnew {its : List Value} {t' : Nat} (I : Inv X pins σ H s) (hv : Vals ys its) (hz : ys.length ≤ sizeLine) :
    Inv X pins σ (upd H s.heap.objs.size (.lst ys)) { s with heap := s.heap.push { cls := .type "list", data := .seq its.toArray }, toks := t' } :=
  I.laid (fun _ _ q => Heap.get?_push_of_some _ q) (Nat.le_refl _) ⟨hz, its, 0, hv, Heap.get?_push_size _ rfl⟩
theorem Inv.fresh (I : Inv X pins σ H s) : H s.heap.objs.size = none := I.hok.fresh (Nat.le_refl _)
theorem Inv.lstM (I : Inv X pins σ H s) (hH : H l = some (.lst xs)) : xs.length ≤ sizeLine ∧ ∃ (its : List Value) (n : Nat), Vals xs its ∧ xs.length = its.length ∧ s.heap.get? l = some { cls := .type "list", data := .seq its.toArray n } := by
  obtain ⟨z, its, n, r, e⟩ := I.hok l _ hH
  exact ⟨z, its, n, r, r.length, e⟩
theorem notLongL {n : Nat} (h : n ≤ sizeLine) : Builtin.List.listTooLong n = false := by
  unfold Builtin.List.listTooLong
  exact decide_eq_false (by omega)
end
section
variable {X : Cx}
def rAppend : V → List V → Hp → VK → Prop := fun x vs H Q => ∃ l xs y, x = .ref l ∧ vs = [y] ∧ H l = some (.lst xs) ∧ xs.length < sizeLine ∧ Q .non (upd H l (.lst (xs ++ [y])))
theorem mt_append : MtM X "list.append" rAppend := by
  intro pins s σ H x vs v us Q I rx rv h
  obtain ⟨l, xs, y, rfl, rfl, hH, hz, q⟩ := h
  cases rx
  obtain ⟨u, rfl, ru⟩ := rv.one
  obtain ⟨z, its, n, r, hl, e⟩ := I.lstM hH
  refine call_meets F.slot_list_append ⟨_, e, rfl⟩ F.entry_list_append (F.args_list_append_2 _ _) (PySem.list_append l its.toArray n u (by rw [List.size_toArray]; omega)) ⟨e, ?_⟩
  refine ⟨.non, _, I.lset (its' := its ++ [u]) hH e (by simp) (r.append (.cons ru .nil)) ?_, rfl, q⟩
  rw [List.length_append, List.length_singleton]
  omega
def rExtend : V → List V → Hp → VK → Prop := fun x vs H Q => ∃ l b xs zs, x = .ref l ∧ vs = [.ref b] ∧ H l = some (.lst xs) ∧ H b = some (.lst zs) ∧ xs.length + zs.length ≤ sizeLine ∧ Q .non (upd H l (.lst (xs ++ zs)))
theorem mt_extend : MtM X "list.extend" rExtend := by
  intro pins s σ H x vs v us Q I rx rv h
  obtain ⟨l, b, xs, zs, rfl, rfl, hH, hB, hz, q⟩ := h
  cases rx
  obtain ⟨u, rfl, ru⟩ := rv.one
  cases ru
  obtain ⟨z, its, n, r, hl, e⟩ := I.lstM hH
  obtain ⟨z2, its2, n2, r2, hl2, e2⟩ := I.lstM hB
  have hsz : its.toArray.size + its2.toArray.size ≤ sizeLine := by rw [List.size_toArray, List.size_toArray]; omega
  have hlong : ¬ (!its.toArray.isEmpty && Builtin.List.listTooLong (its.toArray.size + its2.toArray.size)) = true := by
    rw [notLongL hsz, Bool.and_false]
    exact Bool.false_ne_true
  refine call_meets F.slot_list_extend ⟨_, e, rfl⟩ F.entry_list_extend (F.args_list_extend_2 _ _)
    (AutoSeq1.list_extend_list_list_0 l its.toArray n b its2.toArray n2 hlong (by rw [List.size_toArray]; omega) (by omega)) ⟨e, e2, ?_⟩
  refine ⟨.non, _, I.lset (its' := its ++ its2) hH e (by simp) (r.append r2) ?_, rfl, q⟩
  rw [List.length_append]
  omega
def rRep : R2 := fun x y H Q => ∃ l k xs, x = .ref l ∧ y = .int k ∧ H l = some (.lst xs) ∧ -(2 ^ 63) ≤ k ∧ k < 2 ^ 63 ∧ xs.length * k.toNat ≤ sizeLine ∧
  ∀ p, H p = none → Q (.ref p) (upd H p (.lst (List.replicate k.toNat xs).flatten))
theorem len_rep {α : Type} (xs : List α) (k : Nat) : (List.replicate k xs).flatten.length = k * xs.length := by
  induction k with
  | zero => simp
  | succ k ih => rw [List.replicate_succ, List.flatten_cons, List.length_append, ih, Nat.succ_mul, Nat.add_comm]
theorem op_rep : OpR X (binaryOp .Mult) rRep := by
  intro pins s σ H x y v u Q I rx ry h
  obtain ⟨l, k, xs, rfl, rfl, hH, h1, h2, hz, q⟩ := h
  cases rx
  obtain ⟨t, rfl⟩ := ry
  obtain ⟨z, its, n, r, hl, e⟩ := I.lstM hH
  have hlen : its.toArray.size * k.toNat ≤ sizeLine := by rw [List.size_toArray, ← hl]; exact hz
  have hcap : ¬ its.toArray.size * k.toNat > (2 ^ 63 - 1) / 8 := by
    have : (sizeLine : Nat) ≤ (2 ^ 63 - 1) / 8 := by decide
    omega
  have hfit : ¬ (!Builtin.List.listFitsIndex k) = true := by
    rw [fitsIndex_both h1 h2]
    exact Bool.false_ne_true
  have hlong : ¬ Builtin.List.listTooLong (its.toArray.size * k.toNat) = true := by
    rw [notLongL hlen]
    exact Bool.false_ne_true
  have hnew : List.foldl (fun x1 x2 => x1 ++ x2) #[] (List.replicate (if its.toArray.isEmpty = true then 0 else k.toNat) its.toArray) = (List.replicate k.toNat its).flatten.toArray := by
    have f0 : ∀ m : Nat, List.foldl (fun x1 x2 => x1 ++ x2) #[] (List.replicate m its.toArray) = (List.replicate m its).flatten.toArray := fun m => by
      have := foldl_rep its m []
      rw [List.nil_append] at this
      exact this
    rw [f0]
    cases its with
    | nil => simp
    | cons a r' => rw [if_neg (by simp)]
  refine wpAny_binaryOp_repeat_ref (T := "list") (U := "int") (by decide) ⟨_, e, rfl⟩ (fun s' => typeIs_int s' k t) noFill_list_mul F.fills_int_mul F.slot_int_rmul repeat_list F.slot_int_index.lookup
    (call_meets F.slot_int_rmul (typeIs_int s k t) F.entry_int_rmul (F.args_int_rmul_2 _ _) (int___rmul___int_list k t l its.toArray n)
      ⟨e, rfl, ⟨_, e, rfl⟩, call_meets F.slot_list_mul ⟨_, e, rfl⟩ F.entry_list_mul (F.args_list_mul_2 _ _) (AutoListH.list___mul___list_int_3 l its.toArray n k t hfit hcap hlong) ⟨e, ?_⟩⟩)
  rw [hnew]
  exact ⟨.ref _, _, I.lnew (t' := s.toks) (r.rep k.toNat) (by rw [len_rep, Nat.mul_comm]; exact hz), rfl, q _ I.fresh⟩
end
section
variable {prog : Program} {w : World} {A : Around} {E : Value → Shared → Prop} {s : Shared}
end
section
variable {X : Cx}
end
end L2
namespace L2
open PySem PySem.Spec PyProof.Rows
section
variable {κ : Type} [DecidableEq κ]
def valV (kvs : List (κ × V)) (k : κ) : Option V := (kvs.find? fun kv => decide (kv.1 = k)).map (·.2)
def putK (kvs : List (κ × V)) (k : κ) (v : V) : List (κ × V) :=
  if (kvs.any fun kv => decide (kv.1 = k)) = true then kvs.map (fun kv => if kv.1 = k then (kv.1, v) else kv) else kvs ++ [(k, v)]
def dropK (kvs : List (κ × V)) (k : κ) : List (κ × V) := kvs.filter fun kv => decide (kv.1 ≠ k)
theorem valV_pos {p : κ × V} {r : List (κ × V)} {k : κ} (e : p.1 = k) : valV (p :: r) k = some p.2 := by simp [valV, List.find?_cons, e]
theorem valV_neg {p : κ × V} {r : List (κ × V)} {k : κ} (e : ¬ p.1 = k) : valV (p :: r) k = valV r k := by simp [valV, List.find?_cons, e]
theorem valV_any (k : κ) : ∀ kvs : List (κ × V), (kvs.any fun kv => decide (kv.1 = k)) = (valV kvs k).isSome
  | [] => rfl
  | p :: r => by
    rw [List.any_cons]
    by_cases e : p.1 = k
    · simp only [valV_pos e, decide_eq_true e, Bool.true_or, Option.isSome_some]
    · rw [valV_neg e, decide_eq_false e, Bool.false_or]; exact valV_any k r
theorem length_putK (kvs : List (κ × V)) (k : κ) (v : V) : (putK kvs k v).length ≤ kvs.length + 1 := by
  unfold putK
  split
  · rw [List.length_map]; omega
  · rw [List.length_append, List.length_cons, List.length_nil]; omega
theorem RelO.isSome_eq {o : Option V} {u : Option Value} (r : RelO o u) : o.isSome = u.isSome := by
  cases o with
  | none => cases u with
    | none => rfl
    | some _ => exact (show False from r).elim
  | some _ => cases u with
    | none => exact (show False from r).elim
    | some _ => rfl
theorem RelO.getD {o : Option V} {u : Option Value} {d : V} {d' : Value} (r : RelO o u) (rd : RelV d d') : RelV (o.getD d) (u.getD d') := by
  cases o with
  | none => cases u with
    | none => exact rd
    | some _ => exact (show False from r).elim
  | some _ => cases u with
    | none => exact (show False from r).elim
    | some _ => exact r
theorem KV.val {kvs : List (κ × V)} {vs : List (κ × Value)} (r : KV kvs vs) (k : κ) : RelO (valV kvs k) (valueAt vs k) := by
  unfold KV at r
  induction r with
  | nil => exact True.intro
  | @cons p q ps qs h t ih =>
    obtain ⟨h1, h2⟩ := h
    by_cases e : p.1 = k
    · have e' : q.1 = k := h1.symm.trans e
      have b : valueAt (q :: qs) k = some q.2 := by simp [valueAt, List.find?_cons, e']
      rw [valV_pos e, b]; exact h2
    · have e' : ¬ q.1 = k := fun z => e (h1.trans z)
      have b : valueAt (q :: qs) k = valueAt qs k := by simp [valueAt, List.find?_cons, e']
      rw [valV_neg e, b]; exact ih
theorem KV.any {kvs : List (κ × V)} {vs : List (κ × Value)} (r : KV kvs vs) (k : κ) : (kvs.any fun kv => decide (kv.1 = k)) = vs.any fun kv => decide (kv.1 = k) := by
  unfold KV at r
  induction r with
  | nil => rfl
  | cons h t ih => rw [List.any_cons, List.any_cons, ih, h.1]
theorem KV.repl {kvs : List (κ × V)} {vs : List (κ × Value)} (r : KV kvs vs) (k : κ) {y : V} {u : Value} (ry : RelV y u) :
    KV (kvs.map fun kv => if kv.1 = k then (kv.1, y) else kv) (vs.map fun kv => if kv.1 = k then (kv.1, u) else kv) := by
  unfold KV at r ⊢
  induction r with
  | nil => exact .nil
  | @cons p q ps qs h t ih =>
    rw [List.map_cons, List.map_cons]
    refine .cons ?_ ih
    obtain ⟨h1, h2⟩ := h
    by_cases e : p.1 = k
    · rw [if_pos e, if_pos (h1.symm.trans e)]; exact ⟨h1, ry⟩
    · rw [if_neg e, if_neg (fun z => e (h1.trans z))]; exact ⟨h1, h2⟩
theorem KV.put {kvs : List (κ × V)} {vs : List (κ × Value)} (r : KV kvs vs) (k : κ) {y : V} {u : Value} (ry : RelV y u) : KV (putK kvs k y) (stored vs k u) := by
  unfold putK stored
  rw [r.any k]
  by_cases e : (vs.any fun kv => decide (kv.1 = k)) = true
  · rw [if_pos e, if_pos e]; exact r.repl k ry
  · rw [if_neg e, if_neg e]; exact Paired.snoc r ⟨rfl, ry⟩
theorem KV.drop {kvs : List (κ × V)} {vs : List (κ × Value)} (r : KV kvs vs) (k : κ) : KV (dropK kvs k) (without vs k) := by
  unfold KV at r ⊢
  unfold dropK without
  induction r with
  | nil => exact .nil
  | @cons p q ps qs h t ih =>
    obtain ⟨h1, h2⟩ := h
    rw [List.filter_cons, List.filter_cons]
    by_cases e : p.1 = k
    · have a : ¬ decide (p.1 ≠ k) = true := by simp [e]
      have b : ¬ decide (q.1 ≠ k) = true := by simp [h1.symm.trans e]
      rw [if_neg a, if_neg b]; exact ih
    · have e' : ¬ q.1 = k := fun z => e (h1.trans z)
      have a : decide (p.1 ≠ k) = true := by simp [e]
      have b : decide (q.1 ≠ k) = true := by simp [e']
      rw [if_pos a, if_pos b]; exact .cons ⟨h1, h2⟩ ih
theorem KV.keys {kvs : List (κ × V)} {vs : List (κ × Value)} (r : KV kvs vs) : kvs.map (·.1) = vs.map (·.1) := by
  unfold KV at r
  induction r with
  | nil => rfl
  | cons h t ih => rw [List.map_cons, List.map_cons, ih, h.1]
theorem KV.length {kvs : List (κ × V)} {vs : List (κ × Value)} (r : KV kvs vs) : kvs.length = vs.length := Paired.length r
end
theorem kV_is {P : Program} {w : World} {k : Key} {u : Value} (r : RelV (kV k) u) : (mixKind P w).is k u = true := by
  cases k with
  | inl i => obtain ⟨t, e⟩ := (show ∃ t, u = Value.int i t from r); subst e; exact mixKind_int P w i t
  | inr x => obtain ⟨t, e⟩ := (show ∃ t, u = Value.str x t from r); subst e; exact mixKind_str P w x t
theorem items_are {P : Program} {w : World} : ∀ {ks : List Key} {us : List Value}, Vals (ks.map kV) us → ItemsAre (mixKind P w) ks us
  | [], _, r => by rw [List.map_nil] at r; cases r; exact .nil
  | k :: ks, _, r => by
    rw [List.map_cons] at r
    cases r with
    | cons h t => exact .cons (kV_is h) (items_are t)
abbrev KT (H : Hp) : List (List Key × V) → List (List Key × Addr × Value) → Prop := Paired fun p q => p.1 = q.1 ∧ H q.2.1 = some (.tup (p.1.map kV)) ∧ RelV p.2 q.2.2
theorem KT.val {H : Hp} {kvs : List (List Key × V)} {xs : List (List Key × Addr × Value)} (r : KT H kvs xs) (k : List Key) : RelO (valV kvs k) ((atKey xs k).map (·.2)) := by
  induction r with
  | nil => exact True.intro
  | @cons p q ps qs h t ih =>
    obtain ⟨h1, _, h2⟩ := h
    by_cases e : p.1 = k
    · have e' : q.1 = k := h1.symm.trans e
      have b : atKey (q :: qs) k = some q.2 := by simp [atKey, List.find?_cons, e']
      rw [valV_pos e, b]; exact h2
    · have e' : ¬ q.1 = k := fun z => e (h1.trans z)
      have b : atKey (q :: qs) k = atKey qs k := by simp [atKey, List.find?_cons, e']
      rw [valV_neg e, b]; exact ih
theorem KT.repl {H : Hp} {kvs : List (List Key × V)} {xs : List (List Key × Addr × Value)} (r : KT H kvs xs) (k : List Key) {y : V} {u : Value} (ry : RelV y u) :
    KT H (kvs.map fun kv => if kv.1 = k then (kv.1, y) else kv) (xs.map (putAt k u)) := by
  induction r with
  | nil => exact .nil
  | @cons p q ps qs h t ih =>
    rw [List.map_cons, List.map_cons]
    refine .cons ?_ ih
    obtain ⟨h1, h2, h3⟩ := h
    unfold putAt
    by_cases e : p.1 = k
    · rw [if_pos e, if_pos (h1.symm.trans e)]; exact ⟨h1, h2, ry⟩
    · rw [if_neg e, if_neg (fun z => e (h1.trans z))]; exact ⟨h1, h2, h3⟩
theorem KT.put {H : Hp} {kvs : List (List Key × V)} {xs : List (List Key × Addr × Value)} (r : KT H kvs xs) (k : List Key) {b : Addr} {y : V} {u : Value} (hb : H b = some (.tup (k.map kV))) (ry : RelV y u) :
    KT H (putK kvs k y) (storedH xs k b u) := by
  have e : (kvs.any fun kv => decide (kv.1 = k)) = (atKey xs k).isSome := by
    rw [valV_any, (r.val k).isSome_eq, Option.isSome_map]
  unfold putK storedH
  rw [e]
  by_cases q : (atKey xs k).isSome = true
  · rw [if_pos q, if_pos q]; exact r.repl k ry
  · rw [if_neg q, if_neg q]; exact Paired.snoc r ⟨rfl, hb, ry⟩
theorem KT.keeps {H H' : Hp} {kvs : List (List Key × V)} {xs : List (List Key × Addr × Value)} (r : KT H kvs xs) (ht : ∀ b ys, H b = some (.tup ys) → H' b = some (.tup ys)) : KT H' kvs xs :=
  Paired.mapP r fun _ _ z => ⟨z.1, ht _ _ z.2.1, z.2.2⟩
section
variable {P : Program} {w : World} {H : Hp} {h : Heap} {a : Addr}
theorem rd_of {u : HO} (ok : HOk P w H h) (e : Rd H a u) : ObjOk P w H h a u := e.ok ok
theorem dk_rd {kvs : List (Key × V)} (ok : HOk P w H h) (e : Rd H a (.dK kvs)) : kvs.length ≤ sizeLine ∧ (a == sysModules) = false ∧ ∃ vs, KV kvs vs ∧ h.DictOf (mixKind P w) a vs :=
  show ObjOk P w H h a (.dK kvs) from rd_of ok e
theorem dk_of {kvs : List (Key × V)} (ok : HOk P w H h) (e : H a = some (.dK kvs)) : kvs.length ≤ sizeLine ∧ (a == sysModules) = false ∧ ∃ vs, KV kvs vs ∧ h.DictOf (mixKind P w) a vs := dk_rd ok (.inl e)
theorem key_of {ks : List Key} (ok : HOk P w H h) (e : H a = some (.tup (ks.map kV))) : (tupleKind (mixKind P w)).is h ks a := by
  obtain ⟨_, its, r, o, h1, h2, n, h3⟩ := (show ObjOk P w H h a (.tup (ks.map kV)) from ok a _ e)
  exact ⟨o, its.toArray, n, h1, h2, h3, by simpa using items_are r⟩
theorem dt_rd {kvs : List (List Key × V)} (ok : HOk P w H h) (e : Rd H a (.dT kvs)) : kvs.length ≤ sizeLine ∧ (a == sysModules) = false ∧
    ∃ xs, KT H kvs xs ∧ h.DictOfH (tupleKind (mixKind P w)) a xs := by
  obtain ⟨z, y, xs, r, o, es, ep, h1, h2, h3, h4, h5⟩ := (show ObjOk P w H h a (.dT kvs) from rd_of ok e)
  refine ⟨z, y, xs, r, o, es, ep, h1, h2, h3, h4, fun x hx => ?_, h5⟩
  have all : ∀ {l : List (List Key × V)} {m : List (List Key × Addr × Value)}, KT H l m → ∀ x ∈ m, (tupleKind (mixKind P w)).is h x.1 x.2.1 := by
    intro l m q
    induction q with
    | nil => intro x hx; exact nomatch hx
    | @cons p q ps qs hq t ih =>
      intro x hx
      rcases List.mem_cons.mp hx with e | hx
      · subst e
        exact key_of ok (by rw [← hq.1]; exact hq.2.1)
      · exact ih x hx
  exact all r x hx
theorem dt_of {kvs : List (List Key × V)} (ok : HOk P w H h) (e : H a = some (.dT kvs)) : kvs.length ≤ sizeLine ∧ (a == sysModules) = false ∧
    ∃ xs, KT H kvs xs ∧ h.DictOfH (tupleKind (mixKind P w)) a xs := dt_rd ok (.inl e)
end
def DGet (H : Hp) (a : Addr) (y : V) (r : Option V) : Prop :=
  (∃ kvs k, Rd H a (.dK kvs) ∧ y = kV k ∧ r = valV kvs k) ∨ ∃ kvs k b, Rd H a (.dT kvs) ∧ y = .ref b ∧ H b = some (.tup (k.map kV)) ∧ r = valV kvs k
def DPut (H : Hp) (a : Addr) (y v : V) (H' : Hp) : Prop :=
  (∃ kvs k, H a = some (.dK kvs) ∧ y = kV k ∧ kvs.length < sizeLine ∧ H' = upd H a (.dK (putK kvs k v))) ∨
  ∃ kvs k b, H a = some (.dT kvs) ∧ y = .ref b ∧ H b = some (.tup (k.map kV)) ∧ kvs.length < sizeLine ∧ H' = upd H a (.dT (putK kvs k v))
theorem DGet.k {H : Hp} {a : Addr} {kvs : List (Key × V)} {k : Key} (e : H a = some (.dK kvs)) : DGet H a (kV k) (valV kvs k) := .inl ⟨kvs, k, .inl e, rfl, rfl⟩
theorem DGet.t {H : Hp} {a b : Addr} {kvs : List (List Key × V)} {k : List Key} (e : H a = some (.dT kvs)) (eb : H b = some (.tup (k.map kV))) : DGet H a (.ref b) (valV kvs k) := .inr ⟨kvs, k, b, .inl e, rfl, eb, rfl⟩
theorem DPut.k {H : Hp} {a : Addr} {kvs : List (Key × V)} {k : Key} {v : V} (e : H a = some (.dK kvs)) (hl : kvs.length < sizeLine) : DPut H a (kV k) v (upd H a (.dK (putK kvs k v))) := .inl ⟨kvs, k, e, rfl, hl, rfl⟩
theorem DPut.t {H : Hp} {a b : Addr} {kvs : List (List Key × V)} {k : List Key} {v : V} (e : H a = some (.dT kvs)) (eb : H b = some (.tup (k.map kV))) (hl : kvs.length < sizeLine) :
    DPut H a (.ref b) v (upd H a (.dT (putK kvs k v))) := .inr ⟨kvs, k, b, e, rfl, eb, hl, rfl⟩
section
variable {X : Cx} {pins : List (Addr × Obj)} {σ : St} {H : Hp} {s : Shared} {a : Addr} {y v : V} {u r : Value} {o : Option V} {A : Around} {E : Value → Shared → Prop}
theorem Inv.big (I : Inv X pins σ H s) : sysModules < s.heap.objs.size := by
  have h : mainGlobals < s.heap.objs.size := (I.mod.glob.keeps I.bk).lt
  exact Nat.lt_trans (by decide) h
theorem d_getItem {Q : Value → Shared → Prop} (hu : A.units + 1 < cLine) (I : Inv X pins σ H s) (g : DGet H a y (some v)) (ry : RelV y u) (h : ∀ w' s', Inv X pins σ H s' → RelV v w' → Q w' s') :
    wpAny (model X.prog X.w) A (getItem (.ref a) u) Q E s := by
  rcases g with ⟨kvs, k, e, ey, l⟩ | ⟨kvs, k, b, e, ey, eb, l⟩
  · subst ey
    obtain ⟨z, hd, vs, rel, dd⟩ := dk_rd I.hok e
    obtain ⟨w', hw, rw'⟩ := RelO.some_of (v := v) (o := valueAt vs k) (by rw [l]; exact rel.val k)
    exact wpAny_getItem_of (kV_is ry) dd.mapOf hw (h w' _ (I.tok _) rw')
  · subst ey
    cases (show u = Value.ref b from ry)
    obtain ⟨z, hd, xs, rel, dd⟩ := dt_rd I.hok e
    obtain ⟨w', hw, rw'⟩ := RelO.some_of (v := v) (o := (atKey xs k).map (·.2)) (by rw [l]; exact rel.val k)
    obtain ⟨p, hp, hp2⟩ := Option.map_eq_some_iff.mp hw
    refine wpAny_getItem_heap (tupleKind_room_in1 hu) (key_of I.hok eb) dd hp ?_
    rw [hp2]
    exact h w' _ (I.tok _) rw'
theorem d_notIn {Q : Value → Shared → Prop} (hu : A.units + 1 < cLine) (I : Inv X pins σ H s) (g : DGet H a y o) (ry : RelV y u) (h : ∀ s', Inv X pins σ H s' → Q (.bool (!o.isSome)) s') :
    wpAny (model X.prog X.w) A (compareOp .NotIn u (.ref a)) Q E s := by
  rcases g with ⟨kvs, k, e, ey, l⟩ | ⟨kvs, k, b, e, ey, eb, l⟩
  · subst ey
    obtain ⟨z, hd, vs, rel, dd⟩ := dk_rd I.hok e
    refine wpAny_notIn_of (kV_is ry) hd dd.mapOf ?_
    rw [← (rel.val k).isSome_eq, ← l]
    exact h _ (I.tok _)
  · subst ey
    cases (show u = Value.ref b from ry)
    obtain ⟨z, hd, xs, rel, dd⟩ := dt_rd I.hok e
    refine wpAny_notIn_heap (tupleKind_room_in1 hu) (key_of I.hok eb) hd dd ?_
    have q := (rel.val k).isSome_eq
    rw [Option.isSome_map] at q
    rw [← q, ← l]
    exact h _ (I.tok _)
theorem d_write {h' : Heap} {t' : Nat} {ob : HO} (I : Inv X pins σ H s) (mu : Mut (H a)) (hs : Heap.SameBut a s.heap h') (he : ∃ q, h'.get? a = some q) (new : ObjOk X.prog X.w (upd H a ob) h' a ob) :
    Inv X pins σ (upd H a ob) { s with heap := h', toks := t' } :=
  I.write (x := a) (e := a) mu (.inl rfl) (fun b q hb z => (hs.2 b hb).trans z) he new
theorem dk_new {P : Program} {w : World} {H' : Hp} {h' : Heap} {kvs : List (Key × V)} {vs : List (Key × Value)} (z : kvs.length ≤ sizeLine) (hd : (a == sysModules) = false) (rel : KV kvs vs) (dd : h'.DictOf (mixKind P w) a vs) :
    ObjOk P w H' h' a (.dK kvs) := ⟨z, hd, vs, rel, dd⟩
theorem d_setItem {H' : Hp} {Q : Unit → Shared → Prop} (hu : A.units + 1 < cLine) (I : Inv X pins σ H s) (g : DPut H a y v H') (ry : RelV y u) (rv : RelV v r) (h : ∀ s', Inv X pins σ H' s' → Q () s') :
    wpAny (model X.prog X.w) A (setItem (.ref a) u r) Q E s := by
  rcases g with ⟨kvs, k, e, ey, l, eH⟩ | ⟨kvs, k, b, e, ey, eb, l, eH⟩
  · subst ey eH
    obtain ⟨z, hd, vs, rel, dd⟩ := dk_of I.hok e
    have hz : vs.length ≤ sizeLine := by rw [← rel.length]; exact z
    have hl : (putK kvs k v).length ≤ sizeLine := by have := length_putK kvs k v; omega
    refine wpAny_setItem_pairs (hsz := hz) (kV_is ry) dd fun h' dd' hs => h _ ?_
    have he : ∃ q, h'.get? a = some q := let ⟨q, _, _, hq, _⟩ := dd'; ⟨q, hq⟩
    exact d_write I (by rw [e]; exact True.intro) hs he (dk_new hl hd (rel.put k rv) dd')
  · subst ey eH
    cases (show u = Value.ref b from ry)
    obtain ⟨z, hd, xs, rel, dd⟩ := dt_of I.hok e
    have hz : xs.length ≤ sizeLine := by rw [← Paired.length rel]; exact z
    have hl : (putK kvs k v).length ≤ sizeLine := by have := length_putK kvs k v; omega
    refine wpAny_setItem_heap (hsz := hz) (tupleKind_room_in1 hu) (key_of I.hok eb) dd fun h' dd' hs => h _ ?_
    obtain ⟨q, es, ep, hq, h2, h3, h4, _, h5⟩ := dd'
    refine d_write I (by rw [e]; exact True.intro) hs ⟨q, hq⟩ ⟨hl, hd, _, (rel.put k eb rv).keeps fun c ys ec => ?_, q, es, ep, hq, h2, h3, h4, h5⟩
    rw [upd_ne (ne_of ec e (fun z => nomatch z))]
    exact ec
end
section
variable {X : Cx} {pins : List (Addr × Obj)} {σ : St} {H : Hp} {s : Shared} {a : Addr} {kvs : List (Key × V)} {k : Key} {u : Value} {A : Around} {E : Value → Shared → Prop}
end
def NoSl (i : Expr) : Prop := ∀ ov iv, subscripted i false ov iv = operate [ov, iv] (getItem ov iv)
theorem subD_of {prog : Program} {w : World} {A : Around} {E : Value → Shared → Prop} {s : Shared} {env : Env} {value slice : Expr} {pos : Pos} {T id : String} {Q : Value → Shared → Prop}
    (hl : typeLookup (.type T) "__getitem__" = pure (some (.builtin id))) (hs : NoSl slice)
    (h : wpAny (model prog w) A (eval value env) (fun o s₁ => wpAny (model prog w) A (eval slice env) (fun i s₂ => s₂.TypeIs o T ∧ wpAny (model prog w) A (getItem o i) Q E s₂) E s₁) E s) :
    wpAny (model prog w) A (eval (.Subscript value slice pos) env) Q E s := by
  refine Subscript_ (wpAny_mono h (fun o s₁ h₁ => wpAny_mono h₁ (fun i s₂ h₂ => ?_) fun _ _ x => x) fun _ _ x => x)
  obtain ⟨hT, h₂⟩ := h₂
  unfold subscriptTail
  refine wpAny_bind ?_
  rw [getitemInPython_of_ne hT.not_modules]
  refine wpAny_bind (wpAny_specialOf hT hl ?_)
  have fin : wpAny (model prog w) A (subscripted slice false o i) (fun r s₃ => wpAny (model prog w) A (letTemporaryGo value o r >>= fun _ => pure r) Q E s₃) E s₂ := by
    rw [hs o i]
    exact wpAny_operating (wpAny_mono h₂ (fun r s₃ h₃ => wpAny_bind (wpAny_letTemporaryGo (wpAny_pure h₃))) fun _ _ x => x)
  first
    | exact wpAny_pure (wpAny_bind fin)
    | exact wpAny_bind (wpAny_pure (wpAny_bind fin))
    | exact wpAny_bind fin
theorem dict_typeIs {X : Cx} {pins : List (Addr × Obj)} {σ : St} {H : Hp} {s : Shared} {a : Addr} {y : V} {o : Option V} (I : Inv X pins σ H s) (g : DGet H a y o) : s.TypeIs (.ref a) "dict" := by
  rcases g with ⟨kvs, k, e, _, _⟩ | ⟨kvs, k, b, e, _, _, _⟩
  · obtain ⟨_, _, vs, _, dd⟩ := dk_rd I.hok e
    exact dd.typeIs
  · obtain ⟨_, _, xs, _, dd⟩ := dt_rd I.hok e
    exact dd.typeIs
def tDGet (td ty : TE) : TE := fun σ H Q => td σ H fun x H1 => ty σ H1 fun y H2 => ∃ a v, x = .ref a ∧ DGet H2 a y (some v) ∧ Q v H2
def tDNotIn (ty td : TE) : TE := fun σ H Q => ty σ H fun y H1 => td σ H1 fun x H2 => ∃ a o, x = .ref a ∧ DGet H2 a y o ∧ Q (.bl (!o.isSome)) H2
def sDPut (td ty tv : TE) : TS := fun D σ H => tv σ H fun v H1 => td σ H1 fun x H2 => ty σ H2 fun y H3 => ∃ a H4, x = .ref a ∧ DPut H3 a y v H4 ∧ D.nx σ H4
section
variable {X : Cx} {o i e value : Expr} {pos pos' tpos : Pos} {td ty tv : TE}
theorem pe_dget (hu : X.A.units + 1 < cLine) (ho : PE X o td) (hi : PE X i ty) (hs : NoSl i) : PE X (.Subscript o i pos) (tDGet td ty) := by
  intro pins s σ H Q I h
  refine subD_of PySem.F.slot_dict_getitem.lookup hs (thn (ho pins s σ H _ I h) fun u s1 ⟨x, H1, I1, rx, q1⟩ => thn (hi pins s1 σ H1 _ I1 q1) fun iv s2 ⟨y, H2, I2, ry, a, v, ex, g, q2⟩ => ?_)
  subst ex
  obtain rfl : u = Value.ref a := rx
  exact ⟨dict_typeIs I2 g, d_getItem hu I2 g ry fun w' s3 I3 rw' => ⟨v, H2, I3, rw', q2⟩⟩
theorem pc_dnotin (hu : X.A.units + 1 < cLine) (hi : PE X i ty) (ho : PE X o td) : PC X .NotIn i o (tDNotIn ty td) := by
  intro pins s σ H Q I h
  refine thn (hi pins s σ H _ I h) fun iv s1 ⟨y, H1, I1, ry, q1⟩ => thn (ho pins s1 σ H1 _ I1 q1) fun u s2 ⟨x, H2, I2, rx, a, ov, ex, g, q2⟩ => ?_
  subst ex
  obtain rfl : u = Value.ref a := rx
  exact d_notIn hu I2 g ry fun s3 I3 => ⟨.bl (!ov.isSome), H2, I3, rfl, q2⟩
theorem ps_dput (hu : X.A.units + 1 < cLine) (ho : PE X o td) (hi : PE X i ty) (hv : PE X value tv) (hs : swapsWith value (some (.Subscript o i pos')) pos.line X.env = pure false) :
    PS X (.Assign [.Subscript o i pos'] value pos) (sDPut td ty tv) := by
  intro pins s σ H D I h
  refine wpAny_Assign_Subscript (thn (hv pins s σ H _ I h) fun r s1 ⟨v, H1, I1, rv, q1⟩ => thn (ho pins s1 σ H1 _ I1 q1) fun u s2 ⟨x, H2, I2, rx, q2⟩ => thn (hi pins s2 σ H2 _ I2 q2) fun iv s3 ⟨y, H3, I3, ry, a, H4, ex, g, q3⟩ => ?_) hs
  subst ex
  obtain rfl : u = Value.ref a := rx
  exact d_setItem hu I3 g ry rv fun s4 I4 => ⟨σ, H4, I4, q3⟩
end
theorem dk_empty {P : Program} {w : World} {H : Hp} (h : Heap) (hb : sysModules < h.objs.size) : ObjOk P w H (h.push { cls := .type "dict", data := .dict #[] }) h.objs.size (.dK []) :=
  ⟨Nat.zero_le _, beq_eq_false_iff_ne.mpr (Ne.symm (Nat.ne_of_lt hb)), [], .nil, Heap.DictOf.new h⟩
def tDNewK : TE := fun _ H Q => ∀ p, H p = none → Q (.ref p) (upd H p (.dK []))
section
variable {X : Cx} {pos : Pos}
theorem pe_dnewK : PE X (.Dict [] [] pos) tDNewK := fun pins s σ H Q I h =>
  wpAny_Dict_empty ⟨.ref s.heap.objs.size, _, I.laid (a := s.heap.objs.size) (o := .dK []) (t' := s.toks) (fun _ _ q => Heap.get?_push_of_some _ q) (Nat.le_refl _) (dk_empty s.heap I.big), rfl, h _ (I.hok.fresh (Nat.le_refl _))⟩
end
structure M1 (X : Cx) (o : Expr) (m : Str) (apos : Pos) (e : Expr) (cpos : Pos) : Prop where
  base : attributeBase o m X.env (eval o X.env) = eval o X.env
  few : ((backTo cpos (starEach [e] X.env)).all (fun x => !x.1) && (backToKw cpos (keywordEach [] X.env)).all (fun x => x.1.isSome)
    && decide (([e] : List Expr).length + ([] : List Keyword).length + (if ([] : List Keyword).isEmpty then 0 else 1) < 30)) = true
  line : (apos.endLine == cpos.line) = true
  trees : backTo cpos (starEach [e] X.env) = [(false, eval e X.env)]
structure M2 (X : Cx) (o : Expr) (m : Str) (apos : Pos) (e f : Expr) (cpos : Pos) : Prop where
  base : attributeBase o m X.env (eval o X.env) = eval o X.env
  few : ((backTo cpos (starEach [e, f] X.env)).all (fun x => !x.1) && (backToKw cpos (keywordEach [] X.env)).all (fun x => x.1.isSome)
    && decide (([e, f] : List Expr).length + ([] : List Keyword).length + (if ([] : List Keyword).isEmpty then 0 else 1) < 30)) = true
  line : (apos.endLine == cpos.line) = true
  trees : backTo cpos (starEach [e, f] X.env) = [(false, eval e X.env), (false, eval f X.env)]
section
variable {X : Cx} {pins : List (Addr × Obj)} {σ : St} {H : Hp} {s : Shared} {a : Addr} {y d : V} {u r : Value} {o : Option V} {A : Around} {E : Value → Shared → Prop}
end
section
variable {X : Cx} {o e f : Expr} {apos cpos : Pos} {td ty tx : TE}
end
section
variable {X : Cx} {pins : List (Addr × Obj)} {σ : St} {H : Hp} {s : Shared} {a : Addr} {kvs : List (Key × V)} {A : Around} {E : Value → Shared → Prop}
end
section
variable {X : Cx} {pins : List (Addr × Obj)} {σ : St} {H : Hp} {s : Shared} {a : Addr} {y : V} {u : Value} {A : Around} {E : Value → Shared → Prop}
end
end L2
namespace Att
open PySem PySem.W PySem.Calls PyProof.Rows
theorem ints_of_wellAll {P : Params} {h : Heap} : ∀ (ns : List Int) (vs : List Value), WellAll P h vs (ns.map WData.int) → IntsAre vs ns := by
  intro ns
  induction ns with
  | nil =>
    intro vs w
    rw [List.map_nil] at w
    cases w
    exact .nil
  | cons n ns ih =>
    intro vs w
    rw [List.map_cons] at w
    cases w with
    | cons a b =>
      cases a
      exact .cons _ _ (ih _ b)
theorem script_of {l : OpenLaw} {n : Nat} (hn : l.most = some n) {P : Params} {h : Heap} {args : List WData} {vals : List Value}
    (hpre : l.row.toRowW.claim.pre args = true) (hwl : WellAll P h vals args) :
    ∃ a vs ns, vals = [Value.ref a] ∧ args = [WData.list (ns.map WData.int)] ∧ h.get? a = some { cls := .type "list", data := .seq vs.toArray } ∧ IntsAre vs ns ∧ ns.length ≤ n := by
  have hsh : WShape.hasAll [] args [.list .int] = true := (pre_splitW hpre).1
  have hc : l.pre.holds [] { args := args } = true := (pre_splitW hpre).2
  obtain ⟨d, r, rfl, h1, h2⟩ := hasAllW_cons hsh
  obtain rfl := hasAllW_nil h2
  obtain ⟨xs, rfl, h3⟩ := hasW_list h1
  obtain ⟨ns, rfl⟩ := items_int h3
  have hlen : ns.length ≤ n := by
    unfold OpenLaw.pre at hc
    have h4 : (WTm.not (.lt (.lit (.int (n : Int))) (.len (.arg 0)))).holds [] { args := [.list (ns.map .int)] } = true := by
      have h4 := (holds_andW hc).1
      rw [hn] at h4
      exact h4
    have h5 := condW_of h4 (w_not (w_lt w_lit (w_len_list (w_arg rfl))))
    rw [List.length_map] at h5
    refine Nat.le_of_not_lt fun q => ?_
    have q' : (n : Int) < ((ns.length : Nat) : Int) := by omega
    first
      | (rw [decide_eq_true q'] at h5; exact absurd h5 (by decide))
      | (simp at h5; omega)
  cases hwl with
  | cons w1 w2 =>
    cases w2
    cases w1 with
    | list ho hall => exact ⟨_, _, ns, rfl, rfl, ho, ints_of_wellAll ns _ hall, hlen⟩
theorem post_true (l : OpenLaw) (args : List WData) : l.row.toRowW.claim.post args (.bool true) args = true :=
  postW_of (r := l.row.toRowW) (X := (true == true))
    (show WShape.has [] (.bool true) .bool = true by first | rfl | decide | simp [WShape.has, WShape.arms, WShape.armsAll])
    (show (WTm.eq .res (.lit (.bool true))).value [] { args := args, res := some (.bool true), after := args } = some (.bool (true == true)) from w_eq_bool (w_res rfl) w_lit) rfl
theorem attach_call {l : OpenLaw} {n : Nat} {q : Program} {loose : List Str} {XP : (Str → Option Value) → Heap → Prop} {YP : World → Heap → Prop} {d : DefRec}
    (hn : l.most = some n) (hdf : d.params.defaults = [])
    (call : ∀ (w : World) (s₀ s₁ : Shared) (mg mb : Str → Option Value) (fa : Addr) (o : Obj) (pm cd doc : Value) (a : Addr) (vs : List Value) (ns : List Int),
      Ground q loose [] XP w s₀ mg mb s₁.heap → YP w s₁.heap →
      s₁.heap.get? fa = some o → o.data = .func (docDef d.name d.params d.body d.scope pm cd doc) → s₁.heap.CodeRec cd d.name → mg d.name = some (.ref fa) →
      s₁.heap.get? a = some { cls := .type "list", data := .seq vs.toArray } → IntsAre vs ns → ns.length ≤ n → s₁.gens = #[] →
      codeAny (model l.prog w) callerA (.call (.ref fa) ⟨[.ref a], []⟩) (fun r s' => r = .ok (.ret (.bool true)) ∧ OldK s₁.heap s'.heap ∧ s'.os = s₁.os ∧ AllBare s'.gens) s₁) :
    WalkO q loose XP YP l.row.toRowW d [] (fun f vs => PySem.call f vs) := by
  intro w s₀ s₁ mg mb G Y fa o pm cd doc dV kV ho hd hcd hD hmg hg args vals as hpre hlay hrd hwl hlo
  obtain rfl : dV = .none := Dflts.none hD hdf
  obtain rfl : kV = .none := Dflts.noKw hD
  obtain ⟨a, vs, ns, rfl, rfl, hobj, hints, hlen⟩ := script_of hn hpre hwl
  refine enter_call (codeAny_mono (call w s₀ s₁ mg mb fa o pm cd doc a vs ns G Y ho (fd_plain hd) hcd hmg hobj hints hlen hg) fun r s' hq => ?_)
  obtain ⟨rfl, h2, h3, h4⟩ := hq
  exact ⟨.inl ⟨.bool true, .bool true, [], rfl, fun _ => rfl, .bool true, post_true l _, fun _ => ⟨List.Pairwise.nil, fun _ hm => (nomatch hm)⟩⟩, h2, h3, h4⟩
section
variable {prog : Program} {w : World} {A : Around} {E : Value → Shared → Prop} {s : Shared} {K : Frag}
def noObjs (h : Heap) : Heap := { h with objs := #[] }
theorem noObjs_get (h : Heap) (b : Addr) : (noObjs h).get? b = none := by
  cases e : (noObjs h).get? b with
  | none => rfl
  | some o => exact absurd (Heap.lt_size e) (Nat.not_lt_zero _)
def ledger (h : Heap) (L d : Addr) : List (Addr × Obj) := (List.range h.objs.size).filterMap fun a => if a = L ∨ a = d then none else (h.get? a).map fun o => (a, o)
theorem fr_all {h : Heap} {L : Addr} {m : Str → Option Value} (n : h.Ns L m) : Fr (noObjs h) L h m :=
  ⟨n, fun b o e => (by rw [noObjs_get] at e; cases e), Nat.zero_le _⟩
end
end Att
namespace L2
open PySem PySem.Spec PyProof.Rows
theorem vals_ints : ∀ {vs : List Value} {ns : List Int}, IntsAre vs ns → Vals (ns.map V.int) vs
  | _, _, .nil => .nil
  | _, _, .cons n t h => .cons ⟨t, rfl⟩ (vals_ints h)
def Only (H : Hp) : Prop := ∀ b, H b = none ∨ ∃ o xs, H b = some (.frz o (.lst xs))
theorem law_call {P : Program} {w : World} {K : PySem.W.Frag} {mg mb : Str → Option Value} {CX : CXT} {k : Nat} {fa a : Addr} {fd : FuncData} {x : Str} {sp : Sp} {s₁ : Shared} {vs : List Value} {ns : List Int}
    (KX : K.In s₁.heap) (hns : s₁.heap.Ns mainGlobals mg) (hb : s₁.heap.Ns builtinsNs mb) (hbb : ∀ x : Str, x ≠ "__name__" → mb x = bootBuiltins x) (hlim : s₁.heap.NoLimit) (hg : s₁.gens = #[])
    (ha : s₁.heap.get? a = some { cls := .type "list", data := .seq vs.toArray }) (hi : IntsAre vs ns) (hl : ns.length ≤ sizeLine) (hr : Room k callerA)
    (F : ∀ base : Heap, K.In base → base.Ns mainGlobals mg → FnOk P w K mg base CX k fa fd [x] sp) (hbind : ∀ (s : Shared) (u : Value), BindsTo s fd ⟨[u], []⟩ [(x, u)])
    (hsp : ∀ H : Hp, Only H → SqL K H a (ns.map V.int) → sp [.ref a] H (fun v _ => v = .bl true) fun _ _ _ => False)
    (hCX : ∀ H e s', CX [] H s₁ (fun _ _ _ => False) e s' → False) :
    codeAny (model P w) callerA (.call (.ref fa) ⟨[.ref a], []⟩) (fun r s' => r = .ok (.ret (.bool true)) ∧ OldK s₁.heap s'.heap ∧ s'.os = s₁.os ∧ AllBare s'.gens) s₁ := by
  have rv := vals_ints hi
  have lenV := hi.length
  have core : ∀ H : Hp, Only H → SqL K H a (ns.map V.int) → HOk P w H s₁.heap → (∀ b, H b ≠ none → b = a) → (H a ≠ none → K.lookup a = none) →
      codeAny (model P w) callerA (.call (.ref fa) ⟨[.ref a], []⟩) (fun r s' => r = .ok (.ret (.bool true)) ∧ OldK s₁.heap s'.heap ∧ s'.os = s₁.os ∧ AllBare s'.gens) s₁ := by
    intro H hO hS hok hA hK
    have base_of : ∀ {b : Addr} {o : Obj}, s₁.heap.get? b = some o → H b = none → (hidT s₁.heap H).get? b = some o := fun e n => hidT_get e n
    have noA : ∀ {b : Addr} {o : Obj} {es : Array DictEntry} {ep : Nat}, s₁.heap.get? b = some o → o.data = .dict es ep → H b = none := fun {b o es ep} e d => by
      cases q : H b with
      | none => rfl
      | some u =>
        have e' : b = a := hA b (by rw [q]; simp)
        subst e'
        rw [ha] at e; cases e
        have d' : Data.seq vs.toArray _ = Data.dict es ep := d
        cases d'
    have nsK : ∀ {b : Addr} {m : Str → Option Value}, s₁.heap.Ns b m → (hidT s₁.heap H).Ns b m := fun {b m} ⟨o, es, ep, e, d, r⟩ => ⟨o, es, ep, base_of e (noA e d), d, r⟩
    have hKb : K.In (hidT s₁.heap H) := fun b o e => base_of (KX b o e) (by
      cases q : H b with
      | none => rfl
      | some u =>
        have e' : b = a := hA b (by rw [q]; simp)
        subst e'
        rw [hK (by rw [q]; simp)] at e; cases e)
    have hM : Mod K mg (hidT s₁.heap H) := ⟨hKb, nsK hns, ⟨mb, nsK hb, hbb⟩, let ⟨mc, h1, h2⟩ := hlim; ⟨mc, nsK h1, h2⟩⟩
    have e0 : Env0 P w K mg (hidT s₁.heap H) callerA [] s₁ H := ⟨rfl, hM, fun b o e => of_hidT e, Nat.le_of_eq (hidT_size _ _), trivial, fun b hb => absurd (show b ∈ ([] : List Addr) from hb) (by simp), hok, .of_eq hg⟩
    refine codeAny_mono ((F _ hKb (nsK hns)).run callerA [] s₁ H ⟨[.ref a], []⟩ [.ref a] [.ref a] _ _ hr e0 (hbind s₁ (.ref a)) (.cons rfl .nil) (hsp H hO hS)) fun r s' h => ?_
    cases r with
    | error e => exact (hCX H e s' h).elim
    | ok fl =>
      cases fl with
      | next => exact False.elim h
      | brk => exact False.elim h
      | cont => exact False.elim h
      | ret u =>
        obtain ⟨v, H', os, bare, un, hok', r', q⟩ := h
        have q' : v = .bl true := q
        subst q'
        obtain rfl : u = Value.bool true := r'
        refine ⟨rfl, OldK.of_keep fun b o e => ?_, os, bare⟩
        cases q : H b with
        | none => exact un.keep b o e q (by intro z; exact absurd (show b ∈ ([] : List Addr) from z) (by simp)) (by simp)
        | some u =>
          rcases hO b with z | ⟨ob, xs, z⟩
          · rw [q] at z; cases z
          · have z2 := un.frzs b ob _ z
            obtain ⟨e1, _⟩ := hok b _ z
            obtain ⟨e2, _⟩ := hok' b _ z2
            rw [e] at e1; cases e1
            exact e2
  cases hk : K.lookup a with
  | some o =>
    have e := KX a o hk
    rw [ha] at e
    cases e
    refine core (fun _ => none) (fun _ => .inl rfl) (.inr ⟨_, vs.toArray, _, hk, rfl, rfl, rfl, by rw [List.size_toArray, lenV]; exact hl, by simpa using rv⟩) (fun b u z => by have z' : (none : Option HO) = some u := z; cases z') (fun b z => absurd rfl z) fun z => absurd rfl z
  | none =>
    refine core (fun b => if b = a then some (.frz { cls := .type "list", data := .seq vs.toArray } (.lst (ns.map V.int))) else none) (fun b => ?_) (.inl (.inr ⟨{ cls := .type "list", data := .seq vs.toArray }, if_pos rfl⟩)) (fun b u z => ?_) (fun b z => ?_) fun _ => hk
    · by_cases hb : b = a
      · exact .inr ⟨_, _, if_pos hb⟩
      · exact .inl (if_neg hb)
    · by_cases hb : b = a
      · have z' := (if_pos hb).symm.trans z
        cases z'
        subst hb
        exact ⟨ha, by rw [List.length_map]; exact hl, vs, _, rv, ha⟩
      · have z' := (if_neg hb).symm.trans z
        cases z'
    · by_cases hb : b = a
      · exact hb
      · exact absurd (if_neg hb) z
end L2
namespace L2
open PySem PySem.Spec PyProof.Rows
theorem walk_of {l : PySem.W.OpenLaw} {n k : Nat} {q : Program} {loose : List Str} {XP : (Str → Option Value) → Heap → Prop} {YP : World → Heap → Prop} {d : DefRec} {K : Params → PySem.W.Frag} {CX : World → CXT} {sp : World → Sp} {x : Str}
    (hn : l.most = some n) (hn2 : n ≤ sizeLine) (hdf : d.params.defaults = []) (hr : Room k callerA)
    (hY : ∀ (w : World) (h : Heap), YP w h → (K w.params).In h)
    (F : ∀ (w : World) (mg : Str → Option Value) (fa : Addr) (h : Heap), (K w.params).In h → h.Ns mainGlobals mg → mg d.name = some (.ref fa) →
      ∃ fd : FuncData, (∀ (s : Shared) (u : Value), BindsTo s fd ⟨[u], []⟩ [(x, u)]) ∧
        ∀ base : Heap, (K w.params).In base → base.Ns mainGlobals mg → FnOk l.prog w (K w.params) mg base (CX w) k fa fd [x] (sp w))
    (hsp : ∀ (w : World) (H : Hp) (a : Addr) (ns : List Int), ns.length ≤ n → Only H → SqL (K w.params) H a (ns.map V.int) → sp w [.ref a] H (fun v _ => v = .bl true) fun _ _ _ => False)
    (hCX : ∀ (w : World) (H : Hp) (s : Shared) (e : Value) (s' : Shared), CX w [] H s (fun _ _ _ => False) e s' → False) :
    PySem.W.WalkO q loose XP YP l.row.toRowW d [] (fun f vs => PySem.call f vs) := by
  refine Att.attach_call hn hdf fun w s₀ s₁ mg mb fa o pm cd doc a vs ns G Y ho hd hcd hmg hobj hints hlen hg => ?_
  have KX := hY w _ Y
  obtain ⟨fd, hb, hF⟩ := F w mg fa _ KX G.T.g hmg
  exact law_call KX G.T.g G.T.b G.T.builtins G.T.nolimit hg hobj hints (Nat.le_trans hlen hn2) hr hF hb (fun H hO hS => hsp w H a ns hlen hO hS) fun H e s' => hCX w H s₁ e s'
end L2
namespace L2
open PySem PySem.Spec PyProof.Rows
def inClass (s : Stmt) (j : Nat) : Stmt := match s with
  | .ClassDef _ _ _ body _ _ _ _ _ _ _ => body.getD j (.Pass ⟨0, 0, 0, 0⟩)
  | _ => .Pass ⟨0, 0, 0, 0⟩
def defArgs (s : Stmt) : Arguments := match s with
  | .FunctionDef _ a _ _ _ _ _ _ _ _ => a
  | _ => { posonlyargs := [], args := [], vararg := none, kwonlyargs := [], kw_defaults := [], kwarg := none, defaults := [] }
def defBody (s : Stmt) : List Stmt := match s with
  | .FunctionDef _ _ b _ _ _ _ _ _ _ => b
  | _ => []
def defScope (s : Stmt) : Scope := match s with
  | .FunctionDef _ _ _ _ _ _ sc _ _ _ => sc
  | _ => { kind := .function, names := [], isGenerator := false, isCoroutine := false }
abbrev CX0 : CXT := fun _ _ _ _ _ _ => False
abbrev E0 : XK := fun _ _ _ => False
theorem pass0 {X : Cx} : Passes CX0 X E0 := fun _ _ _ _ _ _ _ h => h.elim
structure Fun (K : PySem.W.Frag) (x qual : Str) (st : Stmt) (f : Addr) (fd : FuncData) : Prop where
  ex : ∃ (oc : Value) (od : Option Addr) (kV doc pm : Value) (an : Option Addr) (cdv ct : Value) (osl : Array (Option Value)),
    fd = PySem.W.fnOf x qual (defArgs st) (defBody st) (defScope st) .none kV doc pm an cdv ct ∧ K.lookup f = some ⟨oc, od, .func fd, osl⟩ ∧ PySem.W.codeIn K cdv qual = true
  kp : PySem.W.keepIn K (.ref f) = true
section
variable {P : Program} {w : World} {K : PySem.W.Frag} {mg : Str → Option Value} {base : Heap}
theorem Fun.ok {x qual : Str} {st : Stmt} {f : Addr} {fd : FuncData} {N ps : List Str} {k : Nat} {sp : Sp} (F : Fun K x qual st f fd) (S : FnScope N ps (defScope st)) (len : ∀ vs H Q E, sp vs H Q E → vs.length = ps.length)
    (hbody : ∀ (cdv : Value) (A : Around) (outer : List Env) (s : Shared) (H : Hp) (vs : List V) (Q : VK) (E : XK), Room k (A.deeper (envOfC qual (defScope st) s.heap.objs.size f cdv)) → sp vs H Q E →
      ∃ t, PSs (cxOf CX0 P w K mg base N qual (defScope st) f cdv A outer s H E).nox (defBody st) t ∧ t { nx := fun _ H' => Q .non H', rt := Q } (start N vs) H) : FnOk P w K mg base CX0 (k + 1) f fd ps sp := by
  obtain ⟨oc, od, kV, doc, pm, an, cdv, ct, osl, rfl, lk, hcd⟩ := F.ex
  refine fn_of lk hcd S len fun A outer s H vs Q E hr hsp => ?_
  obtain ⟨t, h, q⟩ := hbody cdv A outer s H vs Q E hr hsp
  exact ⟨t, h.nox, q⟩
theorem Fun.binds {x qual : Str} {st : Stmt} {f : Addr} {fd : FuncData} {ps : List Str} (F : Fun K x qual st f fd)
    (h : ∀ (kV doc pm : Value) (an : Option Addr) (cdv ct : Value) (us : List Value), us.length = ps.length → bindArgs (PySem.W.fnOf x qual (defArgs st) (defBody st) (defScope st) .none kV doc pm an cdv ct) ⟨us, []⟩ = pure (ps.zip us)) : Binds K fd ps [] := by
  obtain ⟨oc, od, kV, doc, pm, an, cdv, ct, osl, rfl, lk, hcd⟩ := F.ex
  exact .all (h kV doc pm an cdv ct)
theorem fun_mk {x qual : Str} {st : Stmt} {f : Addr} {oc : Value} {od an : Option Addr} {osl : Array (Option Value)} {kV doc pm cdv ct : Value} (l : K.lookup f = some ⟨oc, od, .func (PySem.W.fnOf x qual (defArgs st) (defBody st) (defScope st) .none kV doc pm an cdv ct), osl⟩)
    (c : PySem.W.codeIn K cdv qual = true) (k : PySem.W.keepIn K (.ref f) = true) : Fun K x qual st f (PySem.W.fnOf x qual (defArgs st) (defBody st) (defScope st) .none kV doc pm an cdv ct) := ⟨⟨oc, od, kV, doc, pm, an, cdv, ct, osl, rfl, l, c⟩, k⟩
end
theorem hu_of {A : Around} {k : Nat} (hr : Room k A) : A.units + 1 < cLine := Nat.lt_of_le_of_lt (Nat.add_le_add_left (by decide : 1 ≤ 64) _) hr.units
section
variable {X : Cx}
theorem pv (i : Nat) {x : Str} {pos : Pos} (hN : X.N[i]? = some x := by rfl) (hv : Vis X.env.scope x := by first | exact Or.inl rfl | exact Or.inr (Or.inl rfl) | exact Or.inr (Or.inr rfl)) (hd : (x == ("__debug__" : Str)) = false := by decide)
    (hcd : (x == ("__classdict__" : Str)) = false := by decide) : PE X (.Name x pos) (tVar i) := pe_var hN hv hd hcd
end
theorem iteF {A B : Prop} (h : B) : if false = true then A else B := by
  rw [if_neg Bool.false_ne_true]
  exact h
theorem iteT {A B : Prop} (h : A) : if true = true then A else B := by
  rw [if_pos rfl]
  exact h
theorem ite2 {c A B : Prop} [Decidable c] (h1 : c → A) (h2 : ¬ c → B) : if c then A else B := by
  by_cases h : c
  · rw [if_pos h]
    exact h1 h
  · rw [if_neg h]
    exact h2 h
def Same (H H' : Hp) : Prop := ∀ b o, H b = some o → H' b = some o
theorem Same.refl (H : Hp) : Same H H := fun _ _ h => h
theorem Same.trans {H H1 H2 : Hp} (a : Same H H1) (b : Same H1 H2) : Same H H2 := fun c o h => b c o (a c o h)
theorem Same.free {H H' : Hp} (e : Same H H') {l : Addr} (h : H' l = Option.none) : H l = Option.none := by
  cases q : H l with
  | none => rfl
  | some o =>
    rw [e l o q] at h
    cases h
theorem Same.seq {K : PySem.W.Frag} {H H' : Hp} {a : Addr} {xs : List V} (e : Same H H') (h : SqL K H a xs) : SqL K H' a xs := by
  rcases h with (h | ⟨o, h⟩) | h
  · exact .inl (.inl (e _ _ h))
  · exact .inl (.inr ⟨o, e _ _ h⟩)
  · exact .inr h
section
variable {X : Cx}
end
section
variable {κ : Type} [DecidableEq κ]
end
end L2
namespace L3
open PySem PySem.Spec PyProof.Rows L2
def cellsIn (env : Env) : List (Str × NameKind) → List (Str × Addr) → List (Str × Addr)
  | [], cs => cs
  | (n, k) :: r, cs => cellsIn env r (if k == .free then match env.cells.lookup n with | some c => (n, c) :: cs | none => cs else cs)
def closureOf (scope : Scope) (env : Env) : List (Str × Addr) := cellsIn env scope.names []
theorem closureFor_eq {scope : Scope} {env : Env} (h : ∀ p ∈ scope.names, p.2 = .free → ∃ c, env.cells.lookup p.1 = some c) : closureFor scope env = pure (closureOf scope env) := by
  unfold closureFor closureOf
  have go : ∀ (l : List (Str × NameKind)) (cs : List (Str × Addr)), (∀ p ∈ l, p.2 = .free → ∃ c, env.cells.lookup p.1 = some c) →
      (forIn l cs fun (p : Str × NameKind) (r : List (Str × Addr)) => (do
        if p.2 == NameKind.free then
          let c ← cellOf env p.1
          pure (ForInStep.yield ((p.1, c) :: r))
        else pure (ForInStep.yield r) : Sem (ForInStep (List (Str × Addr))))) = (pure (cellsIn env l cs) : Sem (List (Str × Addr))) := by
    intro l
    induction l with
    | nil => intro cs _; rfl
    | cons p l ih =>
      intro cs hl
      obtain ⟨n, k⟩ := p
      rw [List.forIn_cons]
      by_cases hk : k = .free
      · subst hk
        obtain ⟨c, hc⟩ := hl (n, .free) List.mem_cons_self rfl
        have e : cellOf env n = pure c := by
          unfold cellOf
          have hc' : env.cells.lookup n = some c := hc
          rw [hc']
        simp only [beq_self_eq_true, if_true, e, pure_bind]
        rw [ih _ fun p hp => hl p (List.mem_cons_of_mem _ hp)]
        have hc' : env.cells.lookup n = some c := hc
        simp only [cellsIn, beq_self_eq_true, if_true, hc']
      · have hb : (k == NameKind.free) = false := by simpa using hk
        simp only [hb, Bool.false_eq_true, if_false, pure_bind]
        rw [ih _ fun p hp => hl p (List.mem_cons_of_mem _ hp)]
        simp only [cellsIn, hb, Bool.false_eq_true, if_false]
  have := go scope.names [] h
  simp only [bind_pure] at this ⊢
  exact this
theorem mem_cellsIn {env : Env} : ∀ {l : List (Str × NameKind)} {cs : List (Str × Addr)} {n : Str} {c : Addr}, (n, c) ∈ cellsIn env l cs → (n, c) ∈ cs ∨ ((n, NameKind.free) ∈ l ∧ env.cells.lookup n = some c)
  | [], _, _, _, h => .inl h
  | (m, k) :: r, cs, n, c, h => by
    rcases mem_cellsIn (l := r) h with h | ⟨h1, h2⟩
    · by_cases hk : k = .free
      · subst hk
        simp only [beq_self_eq_true, if_true] at h
        cases e : env.cells.lookup m with
        | none => rw [e] at h; exact .inl h
        | some d =>
          rw [e] at h
          rcases List.mem_cons.mp h with q | q
          · cases q
            exact .inr ⟨List.mem_cons_self, e⟩
          · exact .inl q
      · have hb : (k == NameKind.free) = false := by simpa using hk
        simp only [hb, Bool.false_eq_true, if_false] at h
        exact .inl h
    · exact .inr ⟨List.mem_cons_of_mem _ h1, h2⟩
theorem keep_cellsIn {env : Env} : ∀ {l : List (Str × NameKind)} {cs : List (Str × Addr)} {p : Str × Addr}, p ∈ cs → p ∈ cellsIn env l cs
  | [], _, _, h => h
  | (m, k) :: r, cs, p, h => by
    refine keep_cellsIn (l := r) ?_
    by_cases hk : k = .free
    · subst hk
      simp only [beq_self_eq_true, if_true]
      cases e : env.cells.lookup m with
      | none => exact h
      | some d => exact List.mem_cons_of_mem _ h
    · have hb : (k == NameKind.free) = false := by simpa using hk
      simp only [hb, Bool.false_eq_true, if_false]
      exact h
theorem in_cellsIn {env : Env} {n : Str} {c : Addr} (e : env.cells.lookup n = some c) : ∀ {l : List (Str × NameKind)} {cs : List (Str × Addr)}, (n, NameKind.free) ∈ l → (n, c) ∈ cellsIn env l cs
  | (m, k) :: r, cs, h => by
    rcases List.mem_cons.mp h with q | q
    · cases q
      refine keep_cellsIn (l := r) ?_
      simp only [beq_self_eq_true, if_true, e]
      exact List.mem_cons_self
    · exact in_cellsIn e (l := r) q
theorem lookup_of_mem {α : Type} {n : Str} {c : α} : ∀ {l : List (Str × α)}, (n, c) ∈ l → ∃ d, l.lookup n = some d
  | (m, d) :: r, h => by
    by_cases e : n = m
    · subst e
      exact ⟨d, by simp⟩
    · have hb : (n == m) = false := beq_eq_false_iff_ne.mpr e
      rcases List.mem_cons.mp h with q | q
      · cases q; exact absurd rfl e
      · obtain ⟨d', hd⟩ := lookup_of_mem q
        exact ⟨d', by simp only [List.lookup, hb]; exact hd⟩
theorem relabel_kinds {scope : Scope} {env : Env} {x : Str} : ∀ {names : List (Str × NameKind)} {k : NameKind},
    (names.map fun (n, k) => if (k == NameKind.free && env.scope.kind == .function && env.kindOf n == some .cell) then (n, NameKind.cell) else (n, k)).lookup x = some k →
    names.lookup x = some k ∨ (names.lookup x = some .free ∧ k = .cell)
  | [], k, h => by simp at h
  | (n, j) :: r, k, h => by
    have ih := @relabel_kinds scope env x r k
    rw [List.map_cons] at h
    dsimp only at h
    cases hx : x == n with
    | true =>
      simp only [List.lookup_cons, hx]
      by_cases hc : (j == NameKind.free && env.scope.kind == .function && env.kindOf n == some .cell) = true
      · rw [if_pos hc] at h
        simp only [List.lookup_cons, hx] at h
        have hj : j = .free := by
          have := (Bool.and_eq_true_iff.mp (Bool.and_eq_true_iff.mp hc).1).1
          simpa using this
        cases h
        exact .inr ⟨by rw [hj], rfl⟩
      · rw [if_neg hc] at h
        simp only [List.lookup_cons, hx] at h
        exact .inl h
    | false =>
      simp only [List.lookup_cons, hx]
      by_cases hc : (j == NameKind.free && env.scope.kind == .function && env.kindOf n == some .cell) = true
      · rw [if_pos hc] at h; simp only [List.lookup_cons, hx] at h; exact ih h
      · rw [if_neg hc] at h; simp only [List.lookup_cons, hx] at h; exact ih h
theorem relabel_free {env : Env} {x : Str} : ∀ {names : List (Str × NameKind)}, names.lookup x = some .free →
    (names.map fun (n, k) => if (k == NameKind.free && env.scope.kind == .function && env.kindOf n == some .cell) then (n, NameKind.cell) else (n, k)).lookup x = some .cell ∨
    (names.map fun (n, k) => if (k == NameKind.free && env.scope.kind == .function && env.kindOf n == some .cell) then (n, NameKind.cell) else (n, k)).lookup x = some .free
  | [], h => by simp at h
  | (n, j) :: r, h => by
    have ih := @relabel_free env x r
    rw [List.map_cons]
    dsimp only
    cases hx : x == n with
    | true =>
      simp only [List.lookup_cons, hx] at h
      cases h
      by_cases hc : (NameKind.free == NameKind.free && env.scope.kind == .function && env.kindOf n == some .cell) = true
      · rw [if_pos hc]; exact .inl (by simp only [List.lookup_cons, hx])
      · rw [if_neg hc]; exact .inr (by simp only [List.lookup_cons, hx])
    | false =>
      simp only [List.lookup_cons, hx] at h
      by_cases hc : (j == NameKind.free && env.scope.kind == .function && env.kindOf n == some .cell) = true
      · rw [if_pos hc]; simp only [List.lookup_cons, hx]; exact ih h
      · rw [if_neg hc]; simp only [List.lookup_cons, hx]; exact ih h
def compCx (X : Cx) (N : List Str) (scope : Scope) (fp : List Addr) (s : Shared) (H : Hp) : Cx where
  prog := X.prog
  w := X.w
  K := X.K
  mg := X.mg
  base := X.base
  A := X.A
  N := N
  s₀ := s
  H₀ := H
  env := compEnvC scope (closureOf scope X.env) s.heap.objs.size X.env
  outer := X.stack
  stack := X.stack
  ex := fp
  fn := fun _ => false
  calm := X.calm
  pn := []
  xe := fun _ _ => False
structure CompOk (X : Cx) (scope : Scope) (N : List Str) (own : Nat) (js : List Nat) : Prop where
  kind : scope.kind = .function
  cells : ∀ p ∈ scope.names, p.2 ≠ .cell
  locs : ∀ p ∈ scope.names, p.2 = .local → scope.names.lookup p.1 = some .local
  frees : ∀ p ∈ scope.names, p.2 = .free → scope.names.lookup p.1 = some .free ∧ (X.env.scope.names.lookup p.1 = some .cell ∨ X.env.scope.names.lookup p.1 = some .free)
  len : N.length = own + js.length
  at_ : ∀ (k i : Nat) (x : Str), js[k]? = some i → N[own + k]? = some x → X.N[i]? = some x ∧ scope.names.lookup x = some .free
def compOkB (scope sc : Scope) (N M : List Str) (own : Nat) (js : List Nat) : Bool :=
  decide (scope.kind = .function) && scope.names.all (fun p => p.2 != .cell) && scope.names.all (fun p => p.2 != .local || scope.names.lookup p.1 == some .local) &&
  scope.names.all (fun p => p.2 != .free || (scope.names.lookup p.1 == some .free && (sc.names.lookup p.1 == some .cell || sc.names.lookup p.1 == some .free))) &&
  decide (N.length = own + js.length) && (js.zip (N.drop own)).all fun q => M[q.1]? == some q.2 && scope.names.lookup q.2 == some .free
theorem compOk {X : Cx} {scope : Scope} {N : List Str} {own : Nat} {js : List Nat} (sc : Scope) (M : List Str) (h1 : X.env.scope = sc) (h2 : X.N = M) (h : compOkB scope sc N M own js = true) : CompOk X scope N own js := by
  unfold compOkB at h
  simp only [Bool.and_eq_true, decide_eq_true_eq, List.all_eq_true] at h
  obtain ⟨⟨⟨⟨⟨a1, a2⟩, a3⟩, a4⟩, a5⟩, a6⟩ := h
  refine ⟨a1, fun p hp => by simpa using a2 p hp, fun p hp hk => ?_, fun p hp hk => ?_, a5, fun k i x e1 e2 => ?_⟩
  · have := a3 p hp
    rw [hk] at this
    simpa using this
  · have := a4 p hp
    rw [hk] at this
    rw [h1]
    simpa using this
  · have hm : (i, x) ∈ js.zip (N.drop own) := by
      refine List.mem_of_getElem? (i := k) ?_
      rw [List.getElem?_zip_eq_some]
      exact ⟨e1, by rw [List.getElem?_drop]; exact e2⟩
    have := a6 _ hm
    rw [h2]
    simpa using this
def compSt (own : Nat) (js : List Nat) (σ : L2.St) : L2.St := List.replicate own none ++ js.map fun i => (σ[i]?).join
section
variable {X : Cx} {pins : List (Addr × Obj)} {σ : L2.St} {H : Hp} {s : Shared} {scope : Scope} {N : List Str} {own : Nat} {js : List Nat} {fp : List Addr}
theorem closure_look (I : Inv X pins σ H s) {x : Str} {c : Addr} (e : (closureOf scope X.env).lookup x = some c) : X.env.cells.lookup x = some c := by
  rcases mem_cellsIn (PySem.mem_of_lookup e) with h | ⟨_, h⟩
  · cases h
  · exact h
theorem closure_has (C : CompOk X scope N own js) (I : Inv X pins σ H s) {x : Str} (h : scope.names.lookup x = some .free) : ∃ c, (closureOf scope X.env).lookup x = some c ∧ X.env.cells.lookup x = some c := by
  have hm := PySem.mem_of_lookup h
  obtain ⟨c, hc⟩ := I.ok.has x (C.frees _ hm rfl).2
  obtain ⟨d, hd⟩ := lookup_of_mem (in_cellsIn (cs := []) hc hm)
  exact ⟨d, hd, closure_look I hd⟩
theorem closureFor_ok (C : CompOk X scope N own js) (I : Inv X pins σ H s) : closureFor scope X.env = pure (closureOf scope X.env) :=
  closureFor_eq fun p hp hk => I.ok.has p.1 (C.frees p hp hk).2
theorem comp_start (C : CompOk X scope N own js) (I : Inv X pins σ H s) (hf : ∀ b ∈ fp, FpOk X pins H b) (ho : ∀ b ∈ fp, ∃ o, s.heap.get? b = some o ∧ ∀ v, o.data ≠ .cell v) {h₁ : Heap} {t₁ : Nat} {m : Str → Option Value}
    (hn : h₁.Ns s.heap.objs.size m) (hk : ∀ b o, s.heap.get? b = some o → h₁.get? b = some o) : Inv (compCx X N scope fp s H) [] (compSt own js σ) H { s with heap := h₁, toks := t₁ } := by
  have hlt : ∀ b ∈ fp, b < s.heap.objs.size := fun b hb => by
    obtain ⟨o, e, _⟩ := ho b hb
    exact Heap.lt_size e
  refine ⟨⟨I.ok.mod, C.kind, I.ok.glob, I.ok.blt, Nat.le_refl _, fun x y c h1 h2 => ?_, fun x hx => ?_, fun x c hx _ => ?_, I.ok.hd, I.ok.frames, .inl rfl, fun b hb => ⟨Nat.ne_of_lt (hlt b hb), fun x c e => ?_⟩, I.bs, Nat.le_trans I.ok.bsz I.sz, fun b o e hb => ?_, fun b hb z => ?_, I.stack, I.stkFree⟩,
    rfl, I.bare, Un.kept hk, ⟨m, hn, fun i x v h1 h2 h3 => ?_⟩, fun x c e => ?_, I.hok.fresh (Nat.le_refl _), fun x c e => I.freeC x c (closure_look I e), fun p hp => ?_, I.hok.kept hk, ?_⟩
  · exact I.ok.inj x y c (closure_look I h1) (closure_look I h2)
  · have hx' : (relabel scope X.env).names.lookup x = some .cell ∨ (relabel scope X.env).names.lookup x = some .free := hx
    have hfree : scope.names.lookup x = some .free := by
      rcases hx' with hx' | hx'
      · rcases relabel_kinds (scope := scope) hx' with q | ⟨q, _⟩
        · exact absurd rfl (C.cells _ (PySem.mem_of_lookup q))
        · exact q
      · rcases relabel_kinds (scope := scope) hx' with q | ⟨q, _⟩
        · exact q
        · exact q
    obtain ⟨c, hc, _⟩ := closure_has C I hfree
    exact ⟨c, hc⟩
  · exact absurd hx Bool.false_ne_true
  · exact (hf b hb).2.2.2.2.1 x c (closure_look I e)
  · rcases (hf b hb).2.2.2.1 with z | z
    · exact I.ok.noex b o e z
    · exact absurd (Nat.lt_of_lt_of_le (Heap.lt_size e) (Nat.le_trans I.ok.bsz z)) (Nat.lt_irrefl _)
  · rcases List.mem_cons.mp (I.stkSub b z) with q | q
    · exact (hf b hb).2.1 q
    · exact (hf b hb).2.2.1 q
  · -- a name of the block that has a value
    have hN : N[i]? = some x := h1
    have hi : own ≤ i := by
      refine Nat.le_of_not_lt fun hlt' => ?_
      unfold compSt at h2
      rw [List.getElem?_append_left (by simpa using hlt'), List.getElem?_replicate] at h2
      split at h2 <;> cases h2
    obtain ⟨k, rfl⟩ := Nat.exists_eq_add_of_le hi
    unfold compSt at h2
    rw [List.getElem?_append_right (by simp), List.length_replicate, Nat.add_sub_cancel_left, List.getElem?_map] at h2
    cases ej : js[k]? with
    | none => rw [ej] at h2; cases h2
    | some j =>
      rw [ej] at h2
      have h2' : (σ[j]?).join = some v := Option.some.inj h2
      have hσ : σ[j]? = some (some v) := by
        cases eσ : σ[j]? with
        | none => rw [eσ] at h2'; cases h2'
        | some ov =>
          rw [eσ] at h2'
          have : ov = some v := h2'
          rw [this]
      obtain ⟨hXN, hfree⟩ := C.at_ k j x ej hN
      have hkind := (C.frees _ (PySem.mem_of_lookup hfree) rfl).2
      obtain ⟨m0, hn0, hl⟩ := I.loc
      obtain ⟨u, r, l⟩ := hl j x v hXN hσ (by rcases hkind with q | q; exact .inr (.inl q); exact .inr (.inr q))
      refine ⟨u, r, .inr ⟨relabel_free hfree, ?_⟩⟩
      obtain ⟨c, hc, hc'⟩ := closure_has C I hfree
      refine ⟨c, hc, ?_⟩
      rcases l with ⟨l1, _⟩ | ⟨_, c', e', z⟩
      · have l1' : X.env.scope.names.lookup x = some .local := l1
        rcases hkind with q | q
        · rw [q] at l1'; cases l1'
        · rw [q] at l1'; cases l1'
      · rw [hc'] at e'
        cases e'
        obtain ⟨o, ho', hd'⟩ := z
        exact ⟨o, hk _ _ ho', hd'⟩
  · obtain ⟨v, o, ho', hd'⟩ := I.cell x c (closure_look I e)
    exact ⟨v, o, hk _ _ ho', hd'⟩
  · exact absurd (show p ∈ ([] : List (Addr × Obj)) from hp) (by simp)
  · unfold compSt
    show _ = N.length
    rw [List.length_append, List.length_replicate, List.length_map, C.len]
theorem comp_end {σ' : L2.St} {H' : Hp} {s' : Shared} (I : Inv X pins σ H s) (hf : ∀ b ∈ fp, FpOk X pins H b) (J : Inv (compCx X N scope fp s H) [] σ' H' s') : Inv X pins σ H' s' :=
  I.call' (ch := fp) J.os J.base J.hok J.bare fun b hb => ⟨(hf b hb).2.2.2.1, (hf b hb).2.1, (hf b hb).2.2.2.2.1, (hf b hb).2.2.2.2.2⟩
end
def PIfs (X : Cx) (ifs : List Expr) (t : TT) : Prop :=
  ∀ (pins : List (Addr × Obj)) (s : Shared) (σ : L2.St) (H : Hp) (Q : Bool → Hp → Prop), Inv X pins σ H s → t σ H Q →
    wpAny (model X.prog X.w) X.A (forIn ifs true fun c r => if r = true then do let ok ← isTrue c X.env (eval c X.env); pure (ForInStep.yield ok) else pure (ForInStep.yield r)) (TP X pins σ Q) X.xe s
def tNoIf : TT := fun _ H Q => Q true H
theorem pifs_nil {X : Cx} : PIfs X [] tNoIf := fun _ _ _ H _ I h => wpAny_tests_nil ⟨H, I, h⟩
theorem pifs_one {X : Cx} {c : Expr} {t : TT} (hc : PT X c t) : PIfs X [c] t := fun pins s σ H Q I h => wpAny_tests_one (hc pins s σ H Q I h)
def CompW (D : Addr) (J : It) (g : TG) (tc : TT) (te : TE) (Q : Hp → Prop) (W : Nat → Nat → List V → L2.St → Hp → Prop) : Prop :=
  ∀ i m ys σ H, W i m ys σ H → H D = some (.lst ys) ∧ ys.length < sizeLine ∧
    ((J.stop i H ∧ Q H) ∨ (J.go i H ∧ ∃ (N1 : V → L2.St → Hp → Prop) (N0 : L2.St → Hp → Prop),
      (∀ y σ2 H4, N1 y σ2 H4 → H4 D = some (.lst ys) ∧ ∃ m', m' < m ∧ W (i + 1) m' (ys ++ [y]) σ2 (upd H4 D (.lst (ys ++ [y])))) ∧ (∀ σ2 H3, N0 σ2 H3 → ∃ m', m' < m ∧ W (i + 1) m' ys σ2 H3) ∧
      ∀ x H1, J.yld i H x H1 → g x σ H1 fun σ2 H2 => tc σ2 H2 fun b H3 => if b = true then te σ2 H3 fun y H4 => N1 y σ2 H4 else N0 σ2 H3))
def tComp (own : Nat) (js : List Nat) (wi : TI) (g : TG) (tc : TT) (te : TE) : TE := fun σ H Q => wi σ H fun J H1 => ∀ D, H1 D = none →
  ∃ W : Nat → Nat → List V → L2.St → Hp → Prop, (∃ m, W 0 m [] (compSt own js σ) (upd H1 D (.lst []))) ∧ CompW D J g tc te (fun H' => Q (.ref D) H') W
section
variable {X : Cx} {elt tg iter : Expr} {ifs : List Expr} {scope : Scope} {pos : Pos} {N : List Str} {own : Nat} {js : List Nat} {wi : TI} {g : TG} {tc : TT} {te : TE}
theorem comp_block {pins : List (Addr × Obj)} {σ : L2.St} {H : Hp} {s : Shared} {it : Addr} {fp : List Addr} {tn : Nat → Heap → Prop} {J : It} {E : Value → Shared → Prop} {Q : V → Hp → Prop} {R : Value → Addr → Result → Shared → Prop}
    (hc : X.calm = true) (C : CompOk X scope N own js) (hg : ∀ fp s H, PG (compCx X N scope fp s H) tg g) (ht : ∀ fp s H, PIfs (compCx X N scope fp s H) ifs tc) (he : ∀ fp s H, PE (compCx X N scope fp s H) elt te)
    (I : Inv X pins σ H s) (T : Turn X.prog X.w X.K tg J fp it tn) (st : tn 0 s.heap) (hf : ∀ b ∈ fp, FpOk X pins H b)
    (h : ∀ D, H D = none → ∃ W : Nat → Nat → List V → L2.St → Hp → Prop, (∃ m, W 0 m [] (compSt own js σ) (upd H D (.lst []))) ∧ CompW D J g tc te (fun H' => Q (.ref D) H') W)
    (hR : ∀ (D L : Addr) (H' : Hp) (s' : Shared), Inv X pins σ H' s' → (∃ m, s'.heap.Ns L m) → H' L = none → L ≠ X.env.locals → X.s₀.heap.objs.size ≤ L → (∀ x c, X.env.cells.lookup x = some c → c ≠ L) → (∀ p ∈ X.pn ++ pins, p.1 ≠ L) →
      Q (.ref D) H' → R (.ref D) L (.ok .next) s') :
    wpAny (model X.prog X.w) X.A (newList []) (fun acc s₃ => wpAny (model X.prog X.w) X.A (newFunctionEnv scope X.env.globals (closureOf scope X.env) [] X.env.qual none .none (some X.env)) (fun cenv s₄ =>
      codeAny (model X.prog X.w) X.A (.compStart (.ListComp elt [⟨tg, iter, ifs, 0⟩] scope pos) 0 (.ref it) acc { cenv with scope := relabel scope X.env }) (R acc cenv.locals) s₄) E s₃) E s := by
  have hD : H s.heap.objs.size = none := I.hok.fresh (Nat.le_refl _)
  obtain ⟨W, ⟨m0, w0⟩, turn⟩ := h _ hD
  refine wpAny_newObj_type (wpAny_newFunctionEnv C.cells (by intro y hy; simp at hy) (fun h₁ hns₁ hsb₁ => ?_) C.kind)
  have I3 : Inv X pins σ (upd H s.heap.objs.size (.lst [])) { s with heap := s.heap.push { cls := .type "list", data := .seq ([] : List Value).toArray }, toks := s.toks } := I.lnew (its := []) .nil (Nat.zero_le _)
  have hf3 : ∀ b ∈ fp, FpOk X pins (upd H s.heap.objs.size (.lst [])) b := fun b hb => by
    obtain ⟨o, e, _⟩ := T.obj 0 _ st b hb
    exact ⟨by rw [upd_ne (Nat.ne_of_lt (Heap.lt_size e))]; exact (hf b hb).1, (hf b hb).2⟩
  have st3 : tn 0 (s.heap.push { cls := .type "list", data := .seq ([] : List Value).toArray }) := T.keep 0 _ _ st fun b hb o e => Heap.get?_push_of_some _ e
  dsimp only at hns₁ hsb₁ ⊢
  generalize hs3 : ({ s with heap := s.heap.push { cls := .type "list", data := .seq ([] : List Value).toArray }, toks := s.toks } : Shared) = s3 at I3
  have eh : s.heap.push { cls := .type "list", dict := none, data := .seq ([] : List Value).toArray } = s3.heap := by rw [← hs3]
  rw [eh] at hns₁ hsb₁ st3 ⊢
  have old : ∀ b o, s3.heap.get? b = some o → h₁.get? b = some o := fun b o e => hsb₁.extBut b o (Nat.ne_of_lt (Heap.lt_size e)) (Heap.get?_push_of_some _ e)
  generalize hH3 : upd H s.heap.objs.size (.lst []) = H3 at I3 hf3 w0
  have J0 : Inv (compCx X N scope fp s3 H3) [] (compSt own js σ) H3 { s3 with heap := h₁, toks := s3.toks + ([] : List (Str × Value)).length } := comp_start C I3 hf3 (T.obj 0 _ st3) hns₁ old
  have st0 : tn 0 h₁ := T.keep 0 _ _ st3 fun b hb o e => old b o e
  have stat : ∀ {H' : Hp}, (∀ b ∈ fp, H' b = none) → ∀ b ∈ fp, FpOk (compCx X N scope fp s3 H3) [] H' b := fun hn b hb => by
    refine ⟨hn b hb, J0.ok.exf b hb |>.1, J0.ok.exfs b hb, .inl hb, (J0.ok.exf b hb).2, fun p hp => absurd (show p ∈ ([] : List (Addr × Obj)) from hp) (by simp)⟩
  have loop : ∀ s₄ : Shared, s₄ = { s3 with heap := h₁, toks := s3.toks + ([] : List (Str × Value)).length } →
      codeAny (model X.prog X.w) X.A (.compLoop (.ListComp elt [⟨tg, iter, ifs, 0⟩] scope pos) 0 (.ref it) (.ref s.heap.objs.size) (compCx X N scope fp s3 H3).env) (R (.ref s.heap.objs.size) s3.heap.objs.size) s₄ := by
    rintro s₄ rfl
    refine codeAny_loop rfl (fun n s' => ∃ i ys σ' H', Inv (compCx X N scope fp s3 H3) [] σ' H' s' ∧ tn i s'.heap ∧ (∀ b ∈ fp, H' b = none) ∧ W i n ys σ' H') ?_ m0 ⟨0, [], _, _, J0, st0, fun b hb => (hf3 b hb).1, w0⟩
    rintro n s5 ⟨i, ys, σ5, H5, I5, st5, fr5, w5⟩
    show wpAny _ X.A ((compTurn (.ListComp elt [⟨tg, iter, ifs, 0⟩] scope pos) 0 (.ref it) (.ref s.heap.objs.size) (compCx X N scope fp s3 H3).env).onRaise (fun x => do noteFrame x (compCx X N scope fp s3 H3).env; theTreesLotGoes x)) _ _ s5
    refine wpAny_noted ?_
    rw [compTurn_list]
    obtain ⟨hD5, hz5, hw5⟩ := turn i n ys σ5 H5 w5
    refine wpAny_bind (wpAny_standAt (wpAny_bind ?_))
    rcases hw5 with ⟨stop, q⟩ | ⟨go, N1, N0, hN1, hN0, step⟩
    · refine wpAny_mono (T.done (compCx X N scope fp s3 H3) rfl rfl rfl hc i [] s5 σ5 H5 (fun _ _ => False) I5 (stat fr5) st5 stop) (fun r s6 ⟨hr, I6⟩ => ?_) fun _ _ z => z.elim
      subst hr
      obtain ⟨m, hm, _⟩ := id I6.loc
      have IX := comp_end I3 hf3 I6
      exact wpAny_pure (hR _ s3.heap.objs.size H5 s6 IX ⟨m, hm⟩ I6.free (Nat.ne_of_gt I3.lt) I3.sz (fun x c e z => by
        obtain ⟨v, o, ho, _⟩ := I3.cell x c e
        rw [z] at ho
        exact absurd (Heap.lt_size ho) (Nat.lt_irrefl _)) (fun p hp z => by
        have e := (I3.pin p hp).1
        rw [z] at e
        exact absurd (Heap.lt_size e) (Nat.lt_irrefl _)) q)
    · refine wpAny_mono (T.item (compCx X N scope fp s3 H3) rfl rfl rfl hc i [] s5 σ5 H5 (fun _ _ => False) I5 (stat fr5) st5 go) (fun r s6 ⟨u, hr, h6⟩ => ?_) fun _ _ z => z.elim
      subst hr
      refine wpAny_bind (wpAny_mono h6 (fun _ s7 ⟨x, H7, I7, r7, y7, st7, fr7⟩ => ?_) fun _ _ z => z.elim)
      have I7' := I7.pinned (stat fr7) (T.obj _ _ st7)
      refine wpAny_bind (wpAny_mono (hg fp s3 H3 _ s7 σ5 H7 x u _ I7' r7 (step x H7 y7)) (fun _ s8 ⟨σ8, H8, I8, q8⟩ => ?_) fun _ _ z => z.elim)
      refine wpAny_bind (wpAny_mono (ht fp s3 H3 _ s8 σ8 H8 _ I8 q8) (fun ok s9 ⟨H9, I9, q9⟩ => ?_) fun _ _ z => z.elim)
      have again : ∀ {sx : Shared} {Hx : Hp} {ys' : List V}, Inv (compCx X N scope fp s3 H3) ([] ++ pinsAt fp s7.heap) σ8 Hx sx → (∃ m', m' < n ∧ W (i + 1) m' ys' σ8 Hx) →
          ∃ m, m < n ∧ ∃ i ys σ' H', Inv (compCx X N scope fp s3 H3) [] σ' H' sx ∧ tn i sx.heap ∧ (∀ b ∈ fp, H' b = none) ∧ W i m ys σ' H' := fun {sx Hx ys'} Ix ⟨m', hm, wx⟩ => by
        refine ⟨m', hm, i + 1, ys', σ8, Hx, Ix.unpinned, T.keep _ _ _ st7 fun b hb o e => (Ix.pin (b, o) (List.mem_append_right _ (List.mem_append_right _ (mem_pinsAt hb e)))).1, fun b hb => ?_, wx⟩
        obtain ⟨o, e, d⟩ := T.obj _ _ st7 b hb
        exact (Ix.pin (b, o) (List.mem_append_right _ (List.mem_append_right _ (mem_pinsAt hb e)))).2.1
      cases ok with
      | false =>
        rw [if_neg Bool.false_ne_true] at q9
        exact wpAny_pure ⟨rfl, again I9 (hN0 _ _ q9)⟩
      | true =>
        rw [if_pos rfl] at q9
        show wpAny _ X.A ((do let _ ← call (.builtin "list.append") [.ref s.heap.objs.size, ← eval elt (compCx X N scope fp s3 H3).env]) >>= _) _ _ s9
        refine wpAny_bind (wpAny_bind (wpAny_mono (he fp s3 H3 _ s9 σ8 H9 _ I9 q9) (fun v s10 ⟨y, H10, I10, r10, n10⟩ => ?_) fun _ _ z => z.elim))
        obtain ⟨hD10, q10⟩ := hN1 _ _ _ n10
        refine wpAny_bind (wpAny_mono (mt_append (X := compCx X N scope fp s3 H3) _ s10 σ8 H10 (.ref s.heap.objs.size) [y] (.ref s.heap.objs.size) [v] (fun _ H' => H' = upd H10 s.heap.objs.size (.lst (ys ++ [y]))) I10 rfl (.cons r10 .nil)
          ⟨_, ys, y, rfl, rfl, hD10, hz5, rfl⟩) (fun _ s11 ⟨_, H11, I11, _, e11⟩ => ?_) fun _ _ z => z.elim)
        subst e11
        exact wpAny_pure (wpAny_pure ⟨rfl, again I11 q10⟩)
  have es : ({ s with heap := h₁, toks := s.toks + ([] : List (Str × Value)).length } : Shared) = { s3 with heap := h₁, toks := s3.toks + ([] : List (Str × Value)).length } := by rw [← hs3]
  exact codeAny_compStart_list (loop _ es) (T.self _ _ _ _ _ st0 (loop _ es))
theorem pe_comp (hc : X.calm = true) (C : CompOk X scope N own js) (hi : PI X tg iter wi) (hg : ∀ fp s H, PG (compCx X N scope fp s H) tg g) (ht : ∀ fp s H, PIfs (compCx X N scope fp s H) ifs tc) (he : ∀ fp s H, PE (compCx X N scope fp s H) elt te)
    (hs : ∀ x, foldedSetIterable iter X.env x = pure x := by intro _; rfl) : PE X (.ListComp elt [⟨tg, iter, ifs, 0⟩] scope pos) (tComp own js wi g tc te) := by
  intro pins s σ H Q I h
  rw [eval_ListComp]
  refine wpAny_comprehension_free (use := none) rfl hs (closureFor_ok C I) C.kind C.locs (thn (hi pins s σ H _ I h) fun v s1 h1 => thn h1 fun itv s2 h2 => ?_)
  obtain ⟨it, fp, tn, J, H2, e, I2, T, st2, f2, hW⟩ := h2
  subst e
  refine comp_block (R := fun acc L => compPost (model X.prog X.w) X.A X.xe none (EP X pins σ Q) acc L) hc C hg ht he I2 T st2 f2 hW fun D L H' s' I' hm hL1 hL2 hL3 hL4 hL5 q => ?_
  obtain ⟨m, hm⟩ := hm
  refine ⟨m, hm, fun h' sb => ⟨.ref D, H', ?_, rfl, q⟩⟩
  exact I'.turned (t' := s'.toks) (fun b o hb e => (sb.2 b hb).trans e) hL1 hL2 (.inr hL3) hL4 hL5
def sComp (i own : Nat) (js : List Nat) (wi : TI) (g : TG) (tc : TT) (te : TE) : TS := fun D σ H => tComp own js wi g tc te σ H fun v H' => D.nx (σ.set i (some v)) H'
theorem ps_comp {i : Nat} {x : Str} {px : Pos} (hc : X.calm = true) (nd : X.N.Nodup) (hx : X.N[i]? = some x) (hl : X.env.kindOf x = some .local) (C : CompOk X scope N own js) (hi : PI X tg iter wi) (hg : ∀ fp s H, PG (compCx X N scope fp s H) tg g)
    (ht : ∀ fp s H, PIfs (compCx X N scope fp s H) ifs tc) (he : ∀ fp s H, PE (compCx X N scope fp s H) elt te) {spos : Pos}
    (hsw : swapsWith (.ListComp elt [⟨tg, iter, ifs, 0⟩] scope pos) (some (.Name x px)) spos.line X.env = pure true) (hs : ∀ x, foldedSetIterable iter X.env x = pure x := by intro _; rfl) :
    PS X (.Assign [.Name x px] (.ListComp elt [⟨tg, iter, ifs, 0⟩] scope pos) spos) (sComp i own js wi g tc te) := by
  intro pins s σ H D I h
  rw [exec_Assign_Name_used _ _ _ _ hsw]
  refine wpAny_bind (wpAny_standAt (wpAny_bind ?_))
  show wpAny _ X.A (do let _ ← comprehension (.ListComp elt [⟨tg, iter, ifs, 0⟩] scope pos) scope X.env _ (newList []) false (eval iter X.env) (some (assign (.Name x px) X.env))) _ _ s
  refine wpAny_bind (wpAny_mono (wpAny_comprehension_free (use := some (assign (.Name x px) X.env)) (Q := fun _ s' => SP X pins D .next s') rfl hs (closureFor_ok C I) C.kind C.locs
    (thn (hi pins s σ H _ I h) fun v s1 h1 => thn h1 fun itv s2 h2 => ?_)) (fun _ s' hq => wpAny_pure (wpAny_pure hq)) fun _ _ e => e)
  obtain ⟨it, fp, tn, J, H2, e, I2, T, st2, f2, hW⟩ := h2
  subst e
  refine comp_block (Q := fun v H' => D.nx (σ.set i (some v)) H') (R := fun acc L => compPost (model X.prog X.w) X.A X.xe (some (assign (.Name x px) X.env)) (fun _ s' => SP X pins D .next s') acc L) hc C hg ht he I2 T st2 f2 hW fun A L H' s' I' hm hL1 hL2 hL3 hL4 hL5 q => ?_
  obtain ⟨m, hm⟩ := hm
  show wpAny _ X.A (assign (.Name x px) X.env (.ref A)) _ _ _
  refine wpAny_assign_Name (store_ok2 I' nd hx (.inl hl) (v := .ref A) rfl (fun s7 I7 ⟨a, sb, ha⟩ => ?_) (.inr hl))
  have hLa : L ≠ a := by
    rcases ha with rfl | ha
    · exact hL2
    · exact (hL4 _ _ ha).symm
  refine ⟨m, hm.sameBut sb hLa, fun h' sb' => ⟨_, H', ?_, q⟩⟩
  exact I7.turned (t' := s7.toks) (fun b o hb e => (sb'.2 b hb).trans e) hL1 hL2 (.inr hL3) hL4 hL5
end
end L3
namespace L3
open PySem PySem.Spec PyProof.Rows L2
mutual
def DataAt (K : PySem.W.Frag) (H : Hp) : V → PyData → Prop
  | v, .none => v = .non
  | v, .bool b => v = .bl b
  | v, .int i => v = .int i
  | v, .str x => v = .str x
  | v, .list ds => ∃ a xs, v = .ref a ∧ Rd H a (.lst xs) ∧ DataAll K H xs ds
  | v, .tuple ds => ∃ a xs, v = .ref a ∧ H a = some (.tup xs) ∧ DataAll K H xs ds
  | _, .dict _ => False
def DataAll (K : PySem.W.Frag) (H : Hp) : List V → List PyData → Prop
  | xs, [] => xs = []
  | xs, d :: ds => ∃ y ys, xs = y :: ys ∧ DataAt K H y d ∧ DataAll K H ys ds
end
theorem SqT.same {K : PySem.W.Frag} {H H' : Hp} {a : Addr} {xs : List V} (e : Same H H') (h : SqT K H a xs) : SqT K H' a xs := by
  rcases h with (h | ⟨o, h⟩) | h
  · exact .inl (.inl (e _ _ h))
  · exact .inl (.inr ⟨o, e _ _ h⟩)
  · exact .inr h
theorem Rd.same {H H' : Hp} {a : Addr} {u : HO} (e : Same H H') (h : Rd H a u) : Rd H' a u := by
  rcases h with h | ⟨o, h⟩
  · exact .inl (e _ _ h)
  · exact .inr ⟨o, e _ _ h⟩
mutual
theorem DataAt.same {K : PySem.W.Frag} {H H' : Hp} (e : Same H H') : ∀ (d : PyData) {v : V}, DataAt K H v d → DataAt K H' v d
  | .none, _, h => by unfold DataAt at h ⊢; exact h
  | .bool _, _, h => by unfold DataAt at h ⊢; exact h
  | .int _, _, h => by unfold DataAt at h ⊢; exact h
  | .str _, _, h => by unfold DataAt at h ⊢; exact h
  | .list ds, v, h => by
    unfold DataAt at h ⊢
    obtain ⟨a, xs, h1, h2, h3⟩ := h
    exact ⟨a, xs, h1, Rd.same e h2, DataAll.same e ds h3⟩
  | .tuple ds, v, h => by
    unfold DataAt at h ⊢
    obtain ⟨a, xs, h1, h2, h3⟩ := h
    exact ⟨a, xs, h1, e _ _ h2, DataAll.same e ds h3⟩
  | .dict _, _, h => by unfold DataAt at h; exact h.elim
theorem DataAll.same {K : PySem.W.Frag} {H H' : Hp} (e : Same H H') : ∀ (ds : List PyData) {xs : List V}, DataAll K H xs ds → DataAll K H' xs ds
  | [], _, h => by unfold DataAll at h ⊢; exact h
  | d :: ds, _, h => by
    unfold DataAll at h ⊢
    obtain ⟨y, ys, h1, h2, h3⟩ := h
    exact ⟨y, ys, h1, DataAt.same e d h2, DataAll.same e ds h3⟩
end
mutual
theorem DataAt.reads {X : Cx} {pins : List (Addr × Obj)} {σ : L2.St} {H : Hp} {s : Shared} (I : Inv X pins σ H s) : ∀ (d : PyData) {v : V} {u : Value}, DataAt X.K H v d → RelV v u → ∃ as, Reads s.heap u d as
  | .none, _, u, h, r => by
    unfold DataAt at h; subst h
    cases r
    exact ⟨_, .none⟩
  | .bool b, _, u, h, r => by
    unfold DataAt at h; subst h
    cases r
    exact ⟨_, .bool b⟩
  | .int i, _, u, h, r => by
    unfold DataAt at h; subst h
    obtain ⟨t, rfl⟩ := r
    exact ⟨_, .int i t⟩
  | .str x, _, u, h, r => by
    unfold DataAt at h; subst h
    obtain ⟨t, rfl⟩ := r
    exact ⟨_, .str x t⟩
  | .list ds, _, u, h, r => by
    unfold DataAt at h
    obtain ⟨a, xs, rfl, h2, h3⟩ := h
    cases r
    obtain ⟨its, rv, ⟨o, n, e, c, _, hd⟩, _⟩ := I.list (.inl h2)
    obtain ⟨as, q⟩ := DataAll.reads I ds h3 rv
    exact ⟨_, .list e c hd (by simpa using q)⟩
  | .tuple ds, _, u, h, r => by
    unfold DataAt at h
    obtain ⟨a, xs, rfl, h2, h3⟩ := h
    cases r
    obtain ⟨its, rv, ⟨o, e, c, n, hd⟩, _⟩ := I.tuple (SqT.of h2)
    obtain ⟨as, q⟩ := DataAll.reads I ds h3 rv
    exact ⟨_, .tuple e c hd (by simpa using q)⟩
  | .dict _, _, _, h, _ => by unfold DataAt at h; exact h.elim
theorem DataAll.reads {X : Cx} {pins : List (Addr × Obj)} {σ : L2.St} {H : Hp} {s : Shared} (I : Inv X pins σ H s) : ∀ (ds : List PyData) {xs : List V} {us : List Value}, DataAll X.K H xs ds → Vals xs us → ∃ as, ReadsAll s.heap us ds as
  | [], _, us, h, r => by
    unfold DataAll at h; subst h
    cases r
    exact ⟨_, .nil⟩
  | d :: ds, _, us, h, r => by
    unfold DataAll at h
    obtain ⟨y, ys, rfl, h2, h3⟩ := h
    cases r with
    | cons r1 r2 =>
      obtain ⟨as, q⟩ := DataAt.reads I d h2 r1
      obtain ⟨bs, q'⟩ := DataAll.reads I ds h3 r2
      exact ⟨_, .cons q q'⟩
end
theorem DataAll.ints {K : PySem.W.Frag} {H : Hp} : ∀ (ns : List Int), DataAll K H (ns.map V.int) (ns.map PyData.int)
  | [] => by unfold DataAll; rfl
  | n :: ns => by
    show DataAll K H (V.int n :: ns.map V.int) (PyData.int n :: ns.map PyData.int)
    unfold DataAll
    exact ⟨_, _, rfl, by unfold DataAt; rfl, DataAll.ints ns⟩
theorem DataAll.strs {K : PySem.W.Frag} {H : Hp} : ∀ (ns : List Str), DataAll K H (ns.map V.str) (ns.map PyData.str)
  | [] => by unfold DataAll; rfl
  | n :: ns => by
    show DataAll K H (V.str n :: ns.map V.str) (PyData.str n :: ns.map PyData.str)
    unfold DataAll
    exact ⟨_, _, rfl, by unfold DataAt; rfl, DataAll.strs ns⟩
section
variable {X : Cx}
theorem op_isnotB : OpR X (compareOp .IsNot) (fun x y H Q => ∃ c d, x = .bl c ∧ y = .bl d ∧ Q (.bl (c != d)) H) := by
  intro pins s σ H x y v u Q I rx ry h
  obtain ⟨c, d, rfl, rfl, q⟩ := h
  cases rx
  cases ry
  exact isnot_bool ⟨.bl _, H, I, rfl, q⟩
def tyName (K : PySem.W.Frag) (H : Hp) (x : V) (T : String) : Prop := match x with
  | .non => T = "NoneType"
  | .bl _ => T = "bool"
  | .int _ => T = "int"
  | .str _ => T = "str"
  | .ref a => (T = "list" ∧ ((∃ xs, H a = some (.lst xs)) ∨ ∃ o xs, H a = some (.frz o (.lst xs)))) ∨ (T = "tuple" ∧ ∃ xs, H a = some (.tup xs)) ∨ (T = "dict" ∧ ∃ kvs, H a = some (.dK kvs))
  | _ => False
theorem tyName.of {K : PySem.W.Frag} {H : Hp} {x : V} {T : String} (h : tyName K H x T) : TyOf K H x (.type T) := by
  cases x with
  | non => cases (show T = "NoneType" from h); exact .non
  | bl b => cases (show T = "bool" from h); exact .bl b
  | int i => cases (show T = "int" from h); exact .int i
  | str z => cases (show T = "str" from h); exact .str z
  | ref a =>
    rcases h with ⟨rfl, ⟨xs, e⟩ | ⟨o, xs, e⟩⟩ | ⟨rfl, xs, e⟩ | ⟨rfl, kvs, e⟩
    · exact .lst e
    · exact .frz e
    · exact .tup e
    · exact .dK e
  | _ => exact (show False from h).elim
theorem call_allL (hc : X.calm = true) : CallR X (.builtin "all") (fun xs H Q => ∃ (p : Addr) (bs : List Bool), xs = [.ref p] ∧ SqL X.K H p (bs.map V.bl) ∧ Q (.bl (bs.all id)) H) := by
  intro pins s σ H xs us Q I r h
  obtain ⟨p, bs, rfl, hq, q⟩ := h
  obtain ⟨u, rfl, rx⟩ := vals1 r
  cases rx
  obtain ⟨its, rv, pl, hz⟩ := I.list hq
  have hl := rv.length
  rw [List.length_map] at hl
  refine call_all_walk (wpAny_pyIter_list pl.isList ?_)
  have hp : p < s.heap.objs.size := by obtain ⟨o, n, e, _⟩ := pl; exact Heap.lt_size e
  refine ⟨s.heap.objs.size, _, _, its.toArray.size, _, _, fun i => bs.getD i true, rfl, Walks.list (by show X.A.handled = none; exact I.ok.hd hc) s.heap.objs.size p (Nat.ne_of_lt hp) its.toArray,
    ⟨⟨_, Heap.get?_push_size _ rfl, rfl, rfl⟩, pl.isList.push _⟩, fun i v s' Q' E' hv hQ => ?_, fun h' tk hk => ?_⟩
  · have hv' : its[i]? = some v := by simpa using hv
    have hi : i < its.length := (List.getElem?_eq_some_iff.mp hv').1
    obtain ⟨u', e1, r1⟩ := rv.get (x := V.bl (bs[i]'(by omega))) (i := i) (by rw [List.getElem?_map, List.getElem?_eq_getElem (by omega)]; rfl)
    rw [hv'] at e1
    cases e1
    cases r1
    refine wpAny_truthy_bool ?_
    have e2 : bs.getD i true = bs[i]'(by omega) := by rw [List.getD_eq_getElem?_getD, List.getElem?_eq_getElem (by omega)]; rfl
    have hQ' : Q' (bs.getD i true) s' := hQ
    rw [e2] at hQ'
    exact hQ'
  · have e : (List.range its.toArray.size).all (fun i => bs.getD i true) = bs.all id := by
      rw [List.size_toArray, ← hl]
      clear q hq rv hl
      rw [Bool.eq_iff_iff, List.all_eq_true, List.all_eq_true]
      constructor
      · intro h1 b hb
        obtain ⟨i, hi, rfl⟩ := List.mem_iff_getElem.mp hb
        have := h1 i (List.mem_range.mpr hi)
        rw [List.getD_eq_getElem?_getD, List.getElem?_eq_getElem hi] at this
        exact this
      · intro h1 i hi
        have hi' := List.mem_range.mp hi
        rw [List.getD_eq_getElem?_getD, List.getElem?_eq_getElem hi']
        exact h1 _ (List.getElem_mem hi')
    rw [e]
    refine ⟨.bl _, H, I.kept fun b o eb => hk b o ?_ (Heap.get?_push_of_some _ eb), rfl, q⟩
    intro z
    have : b = s.heap.objs.size := by simpa using z
    rw [this] at eb
    exact absurd (Heap.lt_size eb) (Nat.lt_irrefl _)
end
structure Yields (J : It) (xs : List V) (P : Hp → Prop) : Prop where
  go : ∀ i H, P H → i < xs.length → J.go i H
  stop : ∀ H, P H → J.stop xs.length H
  yld : ∀ i H x H', P H → i < xs.length → J.yld i H x H' → H' = H ∧ xs[i]? = some x
theorem yields_list {K : PySem.W.Frag} {a : Addr} {xs : List V} : Yields (Itl K a) xs (fun H => SqL K H a xs) where
  go := fun i H h hi => ⟨xs, xs[i], h, by simp [hi]⟩
  stop := fun H h => ⟨xs, h, Nat.le_refl _⟩
  yld := fun i H x H' h _ y => ⟨y.1, y.2 xs h⟩
theorem yields_range {lo : Int} {n : Nat} {P : Hp → Prop} : Yields (Itr lo n) ((List.range n).map fun i => V.int (lo + (i : Nat))) P where
  go := fun i H _ hi => (by simpa using hi : i < n)
  stop := fun H _ => by show n ≤ _; simp
  yld := fun i H x H' _ hi y => by
    obtain ⟨e1, e2⟩ := y
    subst e2
    have hi' : i < n := by simpa using hi
    exact ⟨e1, by rw [List.getElem?_map, List.getElem?_range hi']; rfl⟩
theorem comp_inv {J : It} {xs : List V} {P : Hp → Prop} {D : Addr} {g : TG} {tc : TT} {te : TE} {Q : Hp → Prop} {σ : L2.St} {H : Hp} (Y : Yields J xs P) (Pv : Nat → List V → L2.St → Hp → Prop) (h0 : Pv 0 [] σ H)
    (hD : ∀ i ys σ H, Pv i ys σ H → P H ∧ H D = some (.lst ys) ∧ ys.length ≤ i) (hz : xs.length < sizeLine)
    (step : ∀ i x ys σ H, xs[i]? = some x → Pv i ys σ H → g x σ H fun σ2 H2 => tc σ2 H2 fun b H3 => if b = true then te σ2 H3 fun y H4 => H4 D = some (.lst ys) ∧ Pv (i + 1) (ys ++ [y]) σ2 (upd H4 D (.lst (ys ++ [y]))) else Pv (i + 1) ys σ2 H3)
    (hq : ∀ ys σ H, Pv xs.length ys σ H → Q H) : ∃ W : Nat → Nat → List V → L2.St → Hp → Prop, (∃ m, W 0 m [] σ H) ∧ CompW D J g tc te Q W := by
  refine ⟨fun i m ys σ H => m = xs.length - i ∧ i ≤ xs.length ∧ Pv i ys σ H, ⟨xs.length, by simp, Nat.zero_le _, h0⟩, ?_⟩
  rintro i m ys σ H ⟨rfl, hi, p⟩
  obtain ⟨h1, h2, h3⟩ := hD i ys σ H p
  refine ⟨h2, by omega, ?_⟩
  by_cases hlt : i < xs.length
  · refine .inr ⟨Y.go i H h1 hlt, fun y σ2 H4 => H4 D = some (.lst ys) ∧ Pv (i + 1) (ys ++ [y]) σ2 (upd H4 D (.lst (ys ++ [y]))), fun σ2 H3 => Pv (i + 1) ys σ2 H3, fun y σ2 H4 q => ⟨q.1, xs.length - (i + 1), by omega, rfl, hlt, q.2⟩,
      fun σ2 H3 q => ⟨xs.length - (i + 1), by omega, rfl, hlt, q⟩, fun x H1 y => ?_⟩
    obtain ⟨e, y'⟩ := Y.yld i H x H1 h1 hlt y
    subst e
    exact step i x ys σ _ y' p
  · have e : i = xs.length := by omega
    subst e
    exact .inl ⟨Y.stop H h1, hq ys σ H p⟩
end L3
namespace L3
open PySem PySem.Spec PyProof.Rows L2
theorem comp_grow {J : It} {xs : List V} {P : Hp → Prop} {D : Addr} {g : TG} {tc : TT} {te : TE} {Q : Hp → Prop} {σ : L2.St} {H : Hp} (hD : H D = none) (Y : Yields J xs P) (S : L2.St → Prop) (f : V → Option V) (h0 : S σ) (hP : ∀ H', Same H H' → P H') (hz : xs.length < sizeLine)
    (step : ∀ (x : V) (ys : List V) (σ : L2.St) (H' : Hp) (R1 : L2.St → V → Hp → Prop) (R0 : L2.St → Hp → Prop), x ∈ xs → S σ → Same H H' → (∀ σ2 y H4, S σ2 → f x = some y → Same H' H4 → R1 σ2 y H4) → (∀ σ2 H3, S σ2 → f x = none → Same H' H3 → R0 σ2 H3) →
      g x σ H' fun σ2 H2 => tc σ2 H2 fun b H3 => if b = true then te σ2 H3 fun y H4 => R1 σ2 y H4 else R0 σ2 H3)
    (hq : ∀ H', Same H H' → H' D = some (.lst (xs.filterMap f)) → Q H') : ∃ W : Nat → Nat → List V → L2.St → Hp → Prop, (∃ m, W 0 m [] σ (upd H D (.lst []))) ∧ CompW D J g tc te Q W := by
  have up : ∀ {H' : Hp} {o : HO}, Same H H' → Same H (upd H' D o) := fun {H' o} s b ob e => by
    rw [upd_ne (ne_of_none e hD)]
    exact s b ob e
  refine comp_inv Y (fun i ys σ H' => Same H H' ∧ H' D = some (.lst ys) ∧ ys = (xs.take i).filterMap f ∧ S σ) ⟨up (Same.refl H), upd_same, by simp, h0⟩ (fun i ys σ H' ⟨s, e, e2, _⟩ => ⟨hP H' s, e, ?_⟩) hz (fun i x ys σ H' hx ⟨s, e, e2, hS⟩ => ?_) fun ys σ H' ⟨s, e, e2, _⟩ => ?_
  · rw [e2]
    exact Nat.le_trans (List.length_filterMap_le _ _) (by rw [List.length_take]; omega)
  · have hi : i < xs.length := (List.getElem?_eq_some_iff.mp hx).1
    have et : xs.take (i + 1) = xs.take i ++ [x] := by rw [List.take_succ, hx]; rfl
    refine step x ys σ H' _ _ (List.mem_of_getElem? hx) hS s (fun σ2 y H4 h2 hf s4 => ⟨s4 _ _ e, up (s.trans s4), upd_same, ?_, h2⟩) fun σ2 H3 h2 hf s3 => ⟨s.trans s3, s3 _ _ e, ?_, h2⟩
    · rw [et, List.filterMap_append, ← e2]; simp [hf]
    · rw [et, List.filterMap_append, ← e2]; simp [hf]
  · refine hq H' s ?_
    rw [e, e2, List.take_length]
end L3
namespace L3
open PySem PySem.Spec PyProof.Rows L2
section
variable {X : Cx}
end
end L3
namespace L3
open PySem PySem.Spec PyProof.Rows L2
section
variable {X : Cx}
abbrev TF := L2.St → Hp → Str → (Str → Hp → Prop) → Prop
def PF (X : Cx) (es : List Expr) (t : TF) : Prop :=
  ∀ (pins : List (Addr × Obj)) (s : Shared) (σ : L2.St) (H : Hp) (acc : Str) (Q : Str → Hp → Prop), Inv X pins σ H s → t σ H acc Q → wpAny (model X.prog X.w) X.A (joinParts acc (evalEach es X.env)) (EP X pins σ fun v H' => ∃ z, v = .str z ∧ Q z H') X.xe s
end
end L3
namespace L3
open PySem PySem.Spec PyProof.Rows L2
section
variable (K : PySem.W.Frag)
end
theorem Same.upd {H H' : Hp} {a : Addr} {o : HO} (s : Same H H') (h : H a = none) : Same H (L2.upd H' a o) := fun b ob e => by
  rw [upd_ne (ne_of_none e h)]
  exact s b ob e
theorem Same.upd0 {H : Hp} {a : Addr} {o : HO} (h : H a = none) : Same H (L2.upd H a o) := Same.upd (Same.refl H) h
end L3
namespace L3
open PySem PySem.Spec PyProof.Rows L2
def varB (sc : Scope) (M : List Str) (i : Nat) (x : Str) : Bool :=
  (M[i]? == some x) && (sc.names.lookup x == some .local || sc.names.lookup x == some .cell || sc.names.lookup x == some .free) && !(x == ("__debug__" : Str)) && !(x == ("__classdict__" : Str))
def setB (sc : Scope) (M : List Str) (i : Nat) (x : Str) : Bool := (M[i]? == some x) && decide M.Nodup && sc.names.lookup x == some .local
def setCB (sc : Scope) (M : List Str) (i : Nat) (x : Str) : Bool := (M[i]? == some x) && decide M.Nodup && sc.names.lookup x == some .cell
def glB (sc : Scope) (x : Str) : Bool := (sc.names.lookup x == some .globalImplicit) && !(x == ("__debug__" : Str)) && !(x == ("__name__" : Str))
def relabelS (scope sc : Scope) : Scope :=
  { scope with names := scope.names.map fun (n, k) => if (k == .free && sc.kind == .function && sc.names.lookup n == some .cell) then (n, .cell) else (n, k) }
section
variable {X : Cx} {i : Nat} {x : Str} {pos : Pos} {sc : Scope} {M : List Str}
theorem pvN (h1 : X.env.scope = sc) (h2 : X.N = M) (hb : varB sc M i x = true) : PE X (.Name x pos) (tVar i) := by
  unfold varB at hb
  simp only [Bool.and_eq_true, Bool.or_eq_true, Bool.not_eq_true', beq_iff_eq] at hb
  obtain ⟨⟨⟨a1, a2⟩, a3⟩, a4⟩ := hb
  refine pe_var (by rw [h2]; exact a1) ?_ a3 a4
  unfold Vis
  rw [h1]
  rcases a2 with (a2 | a2) | a2
  · exact .inl a2
  · exact .inr (.inl a2)
  · exact .inr (.inr a2)
theorem pvA (i : Nat) (sc : Scope) (M : List Str) (h1 : X.env.scope = sc) (h2 : X.N = M) (hb : varB sc M i x = true := by decide +kernel) : PE X (.Name x pos) (tVar i) := pvN h1 h2 hb
theorem pgN (h1 : X.env.scope = sc) (h2 : X.N = M) (hb : setB sc M i x = true) : PG X (.Name x pos) (gName i) := by
  unfold setB at hb
  simp only [Bool.and_eq_true, decide_eq_true_eq, beq_iff_eq] at hb
  obtain ⟨⟨a1, a2⟩, a3⟩ := hb
  have l : X.env.scope.names.lookup x = some .local := by rw [h1]; exact a3
  exact pg_name (by rw [h2]; exact a2) (by rw [h2]; exact a1) (.inl l) (.inr l)
theorem pgC (h1 : X.env.scope = sc) (h2 : X.N = M) (h3 : X.fn x = true) (hb : setCB sc M i x = true) : PG X (.Name x pos) (gName i) := by
  unfold setCB at hb
  simp only [Bool.and_eq_true, decide_eq_true_eq, beq_iff_eq] at hb
  obtain ⟨⟨a1, a2⟩, a3⟩ := hb
  have l : X.env.scope.names.lookup x = some .cell := by rw [h1]; exact a3
  exact pg_name (by rw [h2]; exact a2) (by rw [h2]; exact a1) (.inr l) (.inl h3)
variable {e : Expr} {te : TE} {pos' : Pos}
theorem psN (h1 : X.env.scope = sc) (h2 : X.N = M) (hb : setB sc M i x = true) (he : PE X e te) (hs : swapsWith e (some (.Name x pos')) pos.line X.env = pure false := by rfl) : PS X (.Assign [.Name x pos'] e pos) (tAsg te (gName i)) := by
  unfold setB at hb
  simp only [Bool.and_eq_true, decide_eq_true_eq, beq_iff_eq] at hb
  obtain ⟨⟨a1, a2⟩, a3⟩ := hb
  have l : X.env.scope.names.lookup x = some .local := by rw [h1]; exact a3
  exact ps_set (by rw [h2]; exact a2) (by rw [h2]; exact a1) (.inl l) he hs (.inr l)
theorem psC (h1 : X.env.scope = sc) (h2 : X.N = M) (h3 : X.fn x = true) (hb : setCB sc M i x = true) (he : PE X e te) (hs : swapsWith e (some (.Name x pos')) pos.line X.env = pure false := by rfl) : PS X (.Assign [.Name x pos'] e pos) (tAsg te (gName i)) := by
  unfold setCB at hb
  simp only [Bool.and_eq_true, decide_eq_true_eq, beq_iff_eq] at hb
  obtain ⟨⟨a1, a2⟩, a3⟩ := hb
  have l : X.env.scope.names.lookup x = some .cell := by rw [h1]; exact a3
  exact ps_set (by rw [h2]; exact a2) (by rw [h2]; exact a1) (.inr l) he hs (.inl h3)
theorem glN (h1 : X.env.scope = sc) (hb : glB sc x = true) : Gl X x ∧ (x == ("__debug__" : Str)) = false ∧ x ≠ "__name__" := by
  unfold glB at hb
  simp only [Bool.and_eq_true, Bool.not_eq_true', beq_iff_eq] at hb
  obtain ⟨⟨a1, a2⟩, a3⟩ := hb
  refine ⟨?_, a2, fun z => ?_⟩
  · show X.env.scope.names.lookup x = _
    rw [h1]
    exact a1
  · rw [beq_eq_false_iff_ne] at a3
    exact a3 z
end
section
variable {X : Cx} {CX : CXT} {k : Nat} {f : Addr} {fd : FuncData} {ps : List Str} {sp : Sp} {dvs : List V} {ds : List Value} {E : XK} {x : Str} {p pos : Pos} {e : Expr} {es : List Expr} {t : TA} {sc : Scope} {r : List V → Hp → VK → Prop} {id T : String}
theorem pe_callN (F : FnOk X.prog X.w X.K X.mg X.base CX k f fd ps sp) (hr : Room k X.A) (h1 : X.env.scope = sc) (hg : glB sc x = true) (hm : X.mg x = some (.ref f)) (hk : PySem.W.keepIn X.K (.ref f) = true) (hb : Binds X.K fd ps ds) (hd : Vals dvs ds) (hx : Passes CX X E)
    (ha : PA X (e :: es) t) (he : starEach (e :: es) X.env = (false, eval e X.env) :: starEach es X.env := by rfl) (hpl : (backTo pos (starEach es X.env)).any (·.1) = false := by rfl) : PE X (.Call (.Name x p) (e :: es) [] pos) (tCall sp dvs E t) :=
  pe_call F hr (glN h1 hg).1 hm hk hb hd hx ha (glN h1 hg).2.1 he hpl
theorem pe_callBN (hc : CallR X (.builtin id) r) (h1 : X.env.scope = sc) (hg : glB sc x = true) (hm : X.mg x = none) (hv : bootBuiltins x = some (.builtin id)) (ha : PA X (e :: es) t)
    (he : starEach (e :: es) X.env = (false, eval e X.env) :: starEach es X.env := by rfl) (hpl : (backTo pos (starEach es X.env)).any (·.1) = false := by rfl) : PE X (.Call (.Name x p) (e :: es) [] pos) (tCB r t) :=
  pe_callB hc (glN h1 hg).1 hm hv ha (glN h1 hg).2.2 (glN h1 hg).2.1 he hpl
theorem pe_callTyN (hc : CallR X (.type T) r) (h1 : X.env.scope = sc) (hg : glB sc x = true) (hm : X.mg x = none) (hv : bootBuiltins x = some (.type T)) (ha : PA X (e :: es) t)
    (he : starEach (e :: es) X.env = (false, eval e X.env) :: starEach es X.env := by rfl) (hpl : (backTo pos (starEach es X.env)).any (·.1) = false := by rfl) : PE X (.Call (.Name x p) (e :: es) [] pos) (tCB r t) :=
  pe_callTy hc (glN h1 hg).1 hm hv ha (glN h1 hg).2.2 (glN h1 hg).2.1 he hpl
theorem glR (h1 : X.env.scope = sc) (hg : glB sc x = true) : Gl X x := (glN h1 hg).1
end
theorem bt_len : bootBuiltins "len" = some (.builtin "len") := by decide +kernel
theorem bt_all : bootBuiltins "all" = some (.builtin "all") := by decide +kernel
theorem bt_sum : bootBuiltins "sum" = some (.builtin "sum") := by decide +kernel
theorem bt_sorted : bootBuiltins "sorted" = some (.builtin "sorted") := by decide +kernel
theorem bt_min : bootBuiltins "min" = some (.builtin "min") := by decide +kernel
theorem bt_list : bootBuiltins "list" = some (.type "list") := by decide +kernel
theorem bt_enumerate : bootBuiltins "enumerate" = some (.type "enumerate") := by decide +kernel
end L3
namespace L3
open PySem PySem.Spec PyProof.Rows L2
theorem psN_comp {X : Cx} {elt tg iter : Expr} {ifs : List Expr} {scope : Scope} {pos : Pos} {N : List Str} {own : Nat} {js : List Nat} {wi : TI} {g : TG} {tc : TT} {te : TE} {i : Nat} {x : Str} {px : Pos} {sc : Scope} {M : List Str} (hc : X.calm = true) (h1 : X.env.scope = sc) (h2 : X.N = M) (hb : setB sc M i x = true)
    (C : CompOk X scope N own js) (hi : PI X tg iter wi) (hg : ∀ fp s H, PG (compCx X N scope fp s H) tg g) (ht : ∀ fp s H, PIfs (compCx X N scope fp s H) ifs tc) (he : ∀ fp s H, PE (compCx X N scope fp s H) elt te) {spos : Pos}
    (hsw : swapsWith (.ListComp elt [⟨tg, iter, ifs, 0⟩] scope pos) (some (.Name x px)) spos.line X.env = pure true) (hs : ∀ x, foldedSetIterable iter X.env x = pure x := by intro _; rfl) :
    PS X (.Assign [.Name x px] (.ListComp elt [⟨tg, iter, ifs, 0⟩] scope pos) spos) (sComp i own js wi g tc te) := by
  unfold setB at hb
  simp only [Bool.and_eq_true, decide_eq_true_eq, beq_iff_eq] at hb
  obtain ⟨⟨a1, a2⟩, a3⟩ := hb
  exact ps_comp hc (by rw [h2]; exact a2) (by rw [h2]; exact a1) (by show X.env.scope.names.lookup x = _; rw [h1]; exact a3) C hi hg ht he hsw hs
end L3
namespace L4
open PySem PySem.Spec PyProof.Rows L2 L3
structure Gr (D H D' H' : Hp) : Prop where
  dd : Same D D'
  hh : Same H H'
  dh : Same D' H'
  nw : ∀ b o, H b = some o → D b = none → D' b = none
section
variable {D D' D'' H H' H'' : Hp} {p : Addr} {o : HO} {K : PySem.W.Frag}
theorem Gr.refl (s : Same D H) : Gr D H D H := ⟨Same.refl D, Same.refl H, s, fun _ _ _ n => n⟩
theorem Gr.trans (a : Gr D H D' H') (b : Gr D' H' D'' H'') : Gr D H D'' H'' :=
  ⟨a.dd.trans b.dd, a.hh.trans b.hh, b.dh, fun c o e n => b.nw c o (a.hh c o e) (a.nw c o e n)⟩
theorem Gr.heap (s : Same D H) (h : Same H H') : Gr D H D H' := ⟨Same.refl D, h, s.trans h, fun _ _ _ n => n⟩
theorem Gr.then (a : Gr D H D' H') (h : Same H' H'') : Gr D H D' H'' := a.trans (Gr.heap a.dh h)
theorem free_of (s : Same D H) (h : H p = none) : D p = none := s.free h
theorem Gr.lay (s : Same D H) (h : H p = none) : Gr D H (upd D p o) (upd H p o) := by
  refine ⟨Same.upd0 (free_of s h), Same.upd0 h, fun b u e => ?_, fun b u e n => ?_⟩
  · by_cases hb : b = p
    · subst hb; rw [upd_same] at e ⊢; exact e
    · rw [upd_ne hb] at e ⊢; exact s b u e
  · rw [upd_ne (ne_of_none e h)]; exact n
theorem Gr.layH (s : Same D H) (h : H p = none) : Gr D H D (upd H p o) := Gr.heap s (Same.upd0 h)
theorem Gr.set (a : Gr D H D' H') (h : H p = none) (n : D' p = none) : Gr D H D' (upd H' p o) :=
  ⟨a.dd, fun b u e => by rw [upd_ne (ne_of_none e h)]; exact a.hh b u e, fun b u e => by rw [upd_ne (ne_of_none e n)]; exact a.dh b u e, a.nw⟩
theorem Gr.old (a : Gr D H D' H') (e : H p = some o) (n : D p = none) : H' p = some o ∧ D' p = none := ⟨a.hh p o e, a.nw p o e n⟩
theorem same_set (s : Same D H) (n : D p = none) : Same D (upd H p o) := fun b u e => by
  rw [upd_ne (ne_of_none e n)]; exact s b u e
end
end L4
namespace L3
open PySem PySem.Spec PyProof.Rows L2 L4
section
variable {D D' D'' H H' H'' : Hp} {p : Addr} {o : HO} {K : PySem.W.Frag}
theorem DataAll.length : ∀ {ds : List PyData} {xs : List V}, DataAll K H xs ds → xs.length = ds.length
  | [], xs, h => by unfold DataAll at h; rw [h]; rfl
  | d :: ds, xs, h => by
    unfold DataAll at h
    obtain ⟨y, ys, rfl, _, h3⟩ := h
    rw [List.length_cons, List.length_cons, DataAll.length h3]
theorem DataAll.nil : DataAll K H [] [] := by unfold DataAll; rfl
theorem DataAll.cons {x : V} {xs : List V} {d : PyData} {ds : List PyData} (h1 : DataAt K H x d) (h2 : DataAll K H xs ds) : DataAll K H (x :: xs) (d :: ds) := by unfold DataAll; exact ⟨x, xs, rfl, h1, h2⟩
theorem DataAll.snoc {x : V} {d : PyData} (h1 : DataAt K H x d) : ∀ {ds : List PyData} {xs : List V}, DataAll K H xs ds → DataAll K H (xs ++ [x]) (ds ++ [d])
  | [], xs, h => by unfold DataAll at h; subst h; exact DataAll.cons h1 DataAll.nil
  | d :: ds, xs, h => by
    unfold DataAll at h
    obtain ⟨y, ys, rfl, h2, h3⟩ := h
    exact DataAll.cons h2 (DataAll.snoc h1 h3)
theorem DataAll.at_ : ∀ {ds : List PyData} {xs : List V} {i : Nat} {d : PyData}, DataAll K H xs ds → ds[i]? = some d → ∃ x, xs[i]? = some x ∧ DataAt K H x d
  | [], _, _, _, _, e => by simp at e
  | d :: ds, xs, 0, d', h, e => by
    unfold DataAll at h
    obtain ⟨y, ys, rfl, h2, h3⟩ := h
    simp at e; subst e
    exact ⟨y, rfl, h2⟩
  | d :: ds, xs, i + 1, d', h, e => by
    unfold DataAll at h
    obtain ⟨y, ys, rfl, h2, h3⟩ := h
    obtain ⟨x, e1, e2⟩ := DataAll.at_ (i := i) h3 (by simpa using e)
    exact ⟨x, by simpa using e1, e2⟩
theorem DataAll.back : ∀ {ds : List PyData} {xs : List V} {i : Nat} {x : V}, DataAll K H xs ds → xs[i]? = some x → ∃ d, ds[i]? = some d ∧ DataAt K H x d := fun {ds xs i x} h e => by
  have hl := DataAll.length h
  have hi : i < xs.length := (List.getElem?_eq_some_iff.mp e).1
  obtain ⟨y, e1, e2⟩ := DataAll.at_ h (List.getElem?_eq_getElem (show i < ds.length by omega))
  rw [e] at e1
  cases e1
  exact ⟨_, List.getElem?_eq_getElem (by omega), e2⟩
theorem DataAt.gr {v : V} {d : PyData} (h : DataAt K D v d) (g : Gr D H D' H') : DataAt K D' v d := DataAt.same g.dd d h
theorem DataAt.up {v : V} {d : PyData} (h : DataAt K D v d) (s : Same D H) : DataAt K H v d := DataAt.same s d h
theorem DataAll.up {v : List V} {d : List PyData} (h : DataAll K D v d) (s : Same D H) : DataAll K H v d := DataAll.same s d h
theorem DataAt.mkT {xs : List V} {ds : List PyData} (h : DataAll K D xs ds) (e : H p = some (.tup xs)) (s : Same D H) : DataAt K H (.ref p) (.tuple ds) := by
  unfold DataAt
  exact ⟨p, xs, rfl, e, h.up s⟩
theorem DataAt.lst {v : V} {ds : List PyData} (h : DataAt K H v (.list ds)) : ∃ a xs, v = .ref a ∧ Rd H a (.lst xs) ∧ DataAll K H xs ds := by unfold DataAt at h; exact h
theorem DataAt.tup {v : V} {ds : List PyData} (h : DataAt K H v (.tuple ds)) : ∃ a xs, v = .ref a ∧ H a = some (.tup xs) ∧ DataAll K H xs ds := by unfold DataAt at h; exact h
theorem DataAt.int {v : V} {i : Int} (h : DataAt K H v (.int i)) : v = .int i := by unfold DataAt at h; exact h
theorem DataAt.str {v : V} {i : Str} (h : DataAt K H v (.str i)) : v = .str i := by unfold DataAt at h; exact h
theorem DataAt.bl {v : V} {i : Bool} (h : DataAt K H v (.bool i)) : v = .bl i := by unfold DataAt at h; exact h
theorem DataAt.ofInt {i : Int} : DataAt K H (.int i) (.int i) := by unfold DataAt; rfl
theorem DataAll.uncons {d : PyData} {ds : List PyData} {xs : List V} (h : DataAll K H xs (d :: ds)) : ∃ y ys, xs = y :: ys ∧ DataAt K H y d ∧ DataAll K H ys ds := by unfold DataAll at h; exact h
theorem DataAll.none {xs : List V} (h : DataAll K H xs []) : xs = [] := by unfold DataAll at h; exact h
theorem DataAll.take {n : Nat} : ∀ {ds : List PyData} {xs : List V}, DataAll K H xs ds → DataAll K H (xs.take n) (ds.take n) := by
  induction n with
  | zero => intro ds xs h; rw [List.take_zero, List.take_zero]; exact DataAll.nil
  | succ n ih =>
    intro ds xs h
    cases ds with
    | nil => unfold DataAll at h; subst h; simp; exact DataAll.nil
    | cons d ds =>
      unfold DataAll at h
      obtain ⟨y, ys, rfl, h2, h3⟩ := h
      rw [List.take_succ_cons, List.take_succ_cons]
      exact DataAll.cons h2 (ih h3)
theorem DataAll.drop {n : Nat} : ∀ {ds : List PyData} {xs : List V}, DataAll K H xs ds → DataAll K H (xs.drop n) (ds.drop n) := by
  induction n with
  | zero => intro ds xs h; exact h
  | succ n ih =>
    intro ds xs h
    cases ds with
    | nil => unfold DataAll at h; subst h; simp; exact DataAll.nil
    | cons d ds =>
      unfold DataAll at h
      obtain ⟨y, ys, rfl, h2, h3⟩ := h
      rw [List.drop_succ_cons, List.drop_succ_cons]
      exact ih h3
theorem DataAll.append : ∀ {ds es : List PyData} {xs ys : List V}, DataAll K H xs ds → DataAll K H ys es → DataAll K H (xs ++ ys) (ds ++ es)
  | [], es, xs, ys, h, k => by unfold DataAll at h; subst h; exact k
  | d :: ds, es, xs, ys, h, k => by
    unfold DataAll at h
    obtain ⟨y, zs, rfl, h2, h3⟩ := h
    exact DataAll.cons h2 (DataAll.append h3 k)
end
end L3
namespace L4
open PySem PySem.Spec PyProof.Rows L2 L3
theorem take_snoc {α : Type} {l : List α} {i : Nat} {x : α} (h : l[i]? = some x) : l.take (i + 1) = l.take i ++ [x] := by rw [List.take_succ, h]; rfl
theorem filterMap_some {α : Type} (l : List α) : (l.map some).filterMap id = l := by
  induction l with
  | nil => rfl
  | cons a l ih => simp
end L4
namespace L4
open PySem L2
end L4
namespace L4
open PySem PySem.Spec PyProof.Rows L2 L3
def cs (x : Str) : List Nat := x.cps.toList
structure Figs (n : Int) (t : Str) : Prop where
  pos : 1 ≤ t.length
  most : t.length ≤ 60
  digs : ∀ c ∈ cs t, 48 ≤ c ∧ c ≤ 57
  reads : PySem.intText? t = some n
  lead : t = "0" ∨ (cs t).head? ≠ some 48
end L4
namespace L4
open PySem L2
end L4
namespace L4
open PySem PySem.Spec PyProof.Rows L2 L3
section
variable {X : Cx} {K : PySem.W.Frag}
theorem kIx {r : PySem.W.Frag → R2} (h : X.K = K) (o : IxR X (r X.K)) : IxR X (r K) := h ▸ o
theorem kOp {r : PySem.W.Frag → R2} {f : Value → Value → Sem Value} (h : X.K = K) (o : OpR X f (r X.K)) : OpR X f (r K) := h ▸ o
theorem kMt {r : PySem.W.Frag → V → List V → Hp → VK → Prop} {id : String} (h : X.K = K) (o : MtR X id (r X.K)) : MtR X id (r K) := h ▸ o
theorem kgTup {es : List Expr} {k : Nat} {t : TGs} {n : Nat} {pos : Pos} (h : X.K = K) (o : PG X (.Tuple es k pos) (gTup X.K n t)) : PG X (.Tuple es k pos) (gTup K n t) := h ▸ o
theorem kBM {e : Expr} {T : String} {r : V → List V → Hp → VK → Prop} {to : TE} {t : TA} (h : X.K = K) (o : PE X e (tBM X.K T r to t)) : PE X e (tBM K T r to t) := h ▸ o
def rLen (K : PySem.W.Frag) : List V → Hp → VK → Prop := fun xs H Q => ∃ x n, xs = [x] ∧ LenV K x H n ∧ Q (.int n) H
theorem len_K (h : X.K = K) : CallR X (.builtin "len") (rLen K) := h ▸ call_len
end
end L4
namespace L4
open PySem PySem.Spec PyProof.Rows L2 L3
def tCut (t u : TS) : TS := fun D σ H => ∃ P : L2.St → Hp → Prop, t { D with nx := P } σ H ∧ ∀ σ' H', P σ' H' → u D σ' H'
theorem pss_cut {X : Cx} {st : Stmt} {rest : List Stmt} {t u : TS} (h1 : PS X st t) (h2 : PSs X rest u) : PSs X (st :: rest) (tCut t u) := by
  intro pins s σ H D I ⟨P, h, k⟩
  refine wpAny_execs_cons (thn (h1 pins s σ H { D with nx := P } I h) fun f s1 q => ?_)
  cases f with
  | next => obtain ⟨σ', H', I', q⟩ := q; exact h2 pins s1 σ' H' D I' (k σ' H' q)
  | ret v => exact q
  | brk => exact q
  | cont => exact q
end L4
namespace L5
open PySem PySem.Spec PyProof.Rows L2 L3 L4
open Sem (wp)
section
variable {prog : Program} {w : World} {A : Around} {E : Value → Shared → Prop} {s : Shared}
end
end L5
namespace L5
open PySem PySem.Spec PyProof.Rows L2 L3 L4
open Sem (wp)
section
variable {prog : Program} {w : World} {A : Around} {E : Value → Shared → Prop} {s : Shared}
end
theorem drawsFrom {prog : Program} {w : World} {A : Around} (hh : A.handled = none) (it l : Addr) (hne : l ≠ it) (items : Array Value) (lo : Nat) :
    Draws prog w A it [it, l] (lo + items.size) (fun i v => ∃ j, i = lo + j ∧ items[j]? = some v) (fun i h => ∃ j, i = lo + j ∧ h.IsListIter it l j ∧ h.IsList l items) where
  live := fun _ _ ⟨_, _, st⟩ => (Draws.list (prog := prog) (w := w) hh it l hne items).live _ _ st
  frame := fun _ _ _ ⟨j, e, st⟩ k => ⟨j, e, (Draws.list (prog := prog) (w := w) hh it l hne items).frame _ _ _ st k⟩
  item := fun i s Q E hi ⟨j, e, st⟩ q => (Draws.list (prog := prog) (w := w) hh it l hne items).item j s Q E (by omega) st fun x h' tk p st' sm => q x h' tk ⟨j, e, p⟩ ⟨j + 1, by omega, st'⟩ sm
  done := fun s Q E ⟨j, e, st⟩ q => (Draws.list (prog := prog) (w := w) hh it l hne items).done s Q E (by rw [show items.size = j by omega]; exact st) q
theorem drawsNone {prog : Program} {w : World} {A : Around} (hh : A.handled = none) (it l : Addr) (items : Array Value) :
    Draws prog w A it [it, l] 0 (fun _ _ => True) (fun _ h => ∃ i, items.size ≤ i ∧ h.IsListIter it l i ∧ h.IsList l items) where
  live := fun _ _ ⟨_, _, ⟨o, e, _⟩, _⟩ => ⟨o, e⟩
  frame := fun _ _ _ ⟨i, hi, a, b⟩ k => ⟨i, hi, a.at fun o e => k it (by simp) o e, b.at fun o e => k l (by simp) o e⟩
  item := fun _ _ _ _ hi => absurd hi (Nat.not_lt_zero _)
  done := fun _ _ _ ⟨_, hi, a, b⟩ q => wpAny_nextOf_list_end hh a b (Array.getElem?_eq_none hi) q
theorem _root_.L2.Inv.turnedL {X : Cx} {pins : List (Addr × Obj)} {σ : L2.St} {H : Hp} {s : Shared} {h' : Heap} {t' : Nat} {its : List Addr} (I : Inv X pins σ H s) (k : ∀ b o, b ∉ its → s.heap.get? b = some o → h'.get? b = some o) (hf : ∀ b ∈ its, FpOk X pins H b) :
    Inv X pins σ H { s with heap := h', toks := t' } := by
  have nit : ∀ b u, H b = some u → b ∉ its := fun b u e z => by rw [(hf b z).1] at e; cases e
  have hL : X.env.locals ∉ its := fun z => (hf _ z).2.1 rfl
  refine I.step (g' := s.gens) (d' := s.drawn) (ch := its) (fun b hb => ⟨(hf b hb).2.2.2.1, (hf b hb).2.1, (hf b hb).2.2.2.2.1, (hf b hb).2.2.2.2.2⟩) (fun b o _ _ hc e _ => k b o hc e) (fun b o _ _ hc e _ => ⟨o.slots, k b o hc e⟩) (fun _ _ _ _ n => n)
    (fun b o hc e => ⟨o, k b o hc e⟩) (fun _ _ e => e) (fun _ _ _ e => e) (fun b ps e => ⟨#[], by rw [e]; simp⟩) (fun m ⟨o, es, ep, ho, r⟩ => ⟨o, es, ep, k _ o hL ho, r⟩) (fun b u e => ?_) I.bare
  refine (I.hok b u e).stay (fun c v hc q => k c v ?_ q) (fun _ q => q) fun _ _ q => q
  rcases hc with z | z
  · rw [z]; exact nit b u e
  · exact nit c _ z
def Ite (K : PySem.W.Frag) (a : Addr) (lo : Int) : It :=
  ⟨fun i H => ∃ xs x, SqL K H a xs ∧ xs[i]? = some x, fun i H v H' => ∃ T y, v = .ref T ∧ H T = none ∧ H' = upd H T (.tup [.int (lo + i), y]) ∧ ∀ xs, SqL K H a xs → xs[i]? = some y, fun i H => ∃ xs, SqL K H a xs ∧ xs.length ≤ i⟩
theorem not_enum {h : Heap} {a e it : Addr} {c : Int} {old : Value} {items : Array Value} (he : IsEnum h e it c old) (hl : h.IsList a items) : e ≠ a := fun z => by
  obtain ⟨o, eo, co, _⟩ := hl
  rw [← z, show h.get? e = some _ from he] at eo
  rw [← Option.some.inj eo] at co
  exact absurd (show Value.type "enumerate" = Value.type "list" from co) (by decide)
theorem not_iter {h : Heap} {a it : Addr} {i : Nat} {items : Array Value} (hi : h.IsListIter it a i) (hl : h.IsList a items) : a ≠ it := fun z => by
  obtain ⟨o, eo, co, _⟩ := hl
  obtain ⟨o', eo', co', _⟩ := hi
  rw [z, eo'] at eo
  rw [← Option.some.inj eo, co'] at co
  exact absurd co (by decide)
theorem turn_enum {P : Program} {w : World} {K : PySem.W.Frag} {elts : List Expr} {kt : Nat} {pt : Pos} (a e it : Addr) (lo : Nat) (hne : e ≠ it) :
    Turn P w K (.Tuple elts kt pt) (Ite K a lo) [e, it] e (fun i h => (∃ old, IsEnum h e it ((lo + i : Nat) : Int) old) ∧ h.IsListIter it a i) where
  mem := by simp
  obj := fun i h ⟨⟨old, he⟩, st⟩ b hb => by
    rcases List.mem_cons.mp hb with rfl | hb
    · exact ⟨_, he, fun v z => by cases (show Data.fields _ = Data.cell v from z)⟩
    · obtain ⟨o, e', c, d⟩ := st
      rw [List.mem_singleton.mp hb]
      exact ⟨o, e', fun v z => by rw [d] at z; cases z⟩
  keep := fun i h h' ⟨⟨old, he⟩, st⟩ k => ⟨⟨old, k e (by simp) _ he⟩, st.at fun o e' => k it (by simp) o e'⟩
  item := by
    intro X hP hw hK hc i pins s σ H E I hf st hg
    subst hP hw hK
    obtain ⟨⟨old, he⟩, st⟩ := st
    obtain ⟨xs, x, hq, hx⟩ := hg
    obtain ⟨its, rv, p, hz⟩ := I.list hq
    obtain ⟨u, hu, ru⟩ := rv.get hx
    have hil : i < its.length := (List.getElem?_eq_some_iff.mp hu).1
    have hea := not_enum he p.isList
    have hia := not_iter st p.isList
    have ec : ((lo + i : Nat) : Int) = (lo : Int) + (i : Nat) := by omega
    refine wpAny_pyNext_enum_itemD (drawsFrom (A := X.A.in1) (I.ok.hd hc) it a hia its.toArray lo) he ⟨i, rfl, st, p.isList⟩ (by rw [List.size_toArray]; omega) hne (by simp [hne, hea]) fun u' h' tk ⟨j, ej, eu⟩ eo ⟨j', ej', st', _⟩ tp sz kk => ⟨_, rfl, ?_⟩
    obtain rfl : j = i := by omega
    obtain rfl : j' = j + 1 := by omega
    obtain rfl : u' = u := by
      rw [List.getElem?_toArray, hu] at eu
      exact (Option.some.inj eu).symm
    refine wpAny_letOwnedTupleGo_enum eo fun h2 he2 sm => ?_
    have k2 : ∀ b o, b ≠ e → h'.get? b = some o → h2.get? b = some o := fun b o hb q => Heap.SameBut.extBut sm b o hb q
    have lte : e < s.heap.objs.size := Heap.lt_size he
    have lti : it < s.heap.objs.size := by obtain ⟨o, e', _⟩ := id st; exact Heap.lt_size e'
    have old2 : ∀ b o, b ∉ [e, it] → s.heap.get? b = some o → h2.get? b = some o := fun b o hb q => k2 b o (fun z => hb (by simp [z])) (kk b o (fun z => hb (by simp [z])) (fun z => hb (by simp [z])) q)
    have ff : ∀ b ∈ [e, it], FpOk X pins (upd H s.heap.objs.size (.tup [.int (lo + (j : Nat)), x])) b := fun b hb => by
      obtain ⟨z0, z1⟩ := hf b hb
      have hb' : b ≠ s.heap.objs.size := by
        rcases List.mem_cons.mp hb with rfl | hb
        · exact Nat.ne_of_lt lte
        · rw [List.mem_singleton.mp hb]; exact Nat.ne_of_lt lti
      exact ⟨by rw [upd_ne hb']; exact z0, z1⟩
    have nw : (s.heap.push { cls := .type "tuple", data := .seq #[.int ((lo + j : Nat) : Int) tk, u'] }).get? s.heap.objs.size = some { cls := .type "tuple", data := .seq #[.int ((lo + j : Nat) : Int) tk, u'] } := Heap.get?_push_size _ rfl
    have I3 : Inv X pins σ (upd H s.heap.objs.size (.tup [.int (lo + (j : Nat)), x])) { s with heap := s.heap.push { cls := .type "tuple", data := .seq #[.int ((lo + j : Nat) : Int) tk, u'] }, toks := s.toks } :=
      I.laid (fun b o q => Heap.get?_push_of_some _ q) (Nat.le_refl _) ⟨by show 2 ≤ sizeLine; decide, [.int ((lo + j : Nat) : Int) tk, u'], .cons ⟨tk, by rw [ec]⟩ (.cons ru .nil), ⟨_, nw, rfl, _, rfl⟩⟩
    have I4 := I3.turnedL (t' := tk + 1) (h' := h2) (its := [e, it]) (fun b o hb q => ?_) ff
    refine ⟨.ref s.heap.objs.size, _, I4, rfl, ⟨_, x, rfl, I.fresh, rfl, fun ys hy => by rw [I.list_inj hy hq]; exact hx⟩, ⟨⟨u', ?_⟩, ?_⟩, fun b hb => (ff b hb).1⟩
    rotate_right
    · by_cases hT : b = s.heap.objs.size
      · subst hT
        rw [show o = _ from Option.some.inj ((show _ = some o from q).symm.trans nw)]
        exact k2 _ _ (Nat.ne_of_gt lte) tp
      · exact old2 b o hb (by rw [← Heap.get?_push_ne _ _ _ hT]; exact q)
    · rw [show ((lo + (j + 1) : Nat) : Int) = ((lo + j : Nat) : Int) + 1 by omega]
      exact he2
    · obtain ⟨o, eo', r⟩ := st'
      exact ⟨o, k2 it o hne.symm eo', r⟩
  done := by
    intro X hP hw hK hc i pins s σ H E I hf st hg
    subst hP hw hK
    obtain ⟨⟨old, he⟩, st⟩ := st
    obtain ⟨xs, hq, hx⟩ := hg
    obtain ⟨its, rv, p, hz⟩ := I.list hq
    obtain ⟨g0, g1, g2, g3, g4, g5⟩ := hf it (by simp)
    have hl := rv.length
    exact wpAny_pyNext_enum_endD (drawsNone (A := X.A.in1) (I.ok.hd hc) it a its.toArray) he ⟨i, by rw [List.size_toArray]; omega, st, p.isList⟩ fun h' eb => ⟨rfl, I.turned (t' := s.toks) (fun b o hb e => eb b o hb e) g0 g1 g3 g4 g5⟩
  self := fun A i s Q E ⟨⟨old, he⟩, _⟩ h => wpAny_pyIter_enum he h
section
variable {X : Cx} {a : Expr} {ta : TE} {p pos kp ip : Pos} {elts : List Expr} {kt : Nat} {pt : Pos} {j : Option Str}
def iEnum (K : PySem.W.Frag) (ta : TA) : TI := fun σ H R => ta σ H fun vs H1 => ∃ l, vs = [.ref l] ∧ (∃ xs, SqL K H1 l xs) ∧ R (Ite K l 0) H1
theorem enum_it {pins : List (Addr × Obj)} {σ : L2.St} {H : Hp} {s : Shared} {R : It → Hp → Prop} {l : Addr} {lo : Nat} {h' : Heap} {E : Value → Shared → Prop} (I : Inv X pins σ H s) (he : IsEnum h' (s.heap.objs.size + 1) s.heap.objs.size lo .none) (hi : h'.IsListIter s.heap.objs.size l 0)
    (kk : ∀ b o, s.heap.get? b = some o → h'.get? b = some o) (q : R (Ite X.K l lo) H) (t : Nat) : wpAny (model X.prog X.w) X.A (pyIter (.ref (s.heap.objs.size + 1))) (PIE X pins σ (.Tuple elts kt pt) R) E { s with heap := h', toks := t } := by
  refine wpAny_pyIter_enum he ⟨_, [s.heap.objs.size + 1, s.heap.objs.size], _, _, H, rfl, I.kept (t' := t) kk, turn_enum l _ _ lo (Nat.succ_ne_self _), ⟨⟨.none, ?_⟩, hi⟩, fun b hb => ?_, q⟩
  · rw [Nat.add_zero]; exact he
  · have hb' : s.heap.objs.size ≤ b := by
      rcases List.mem_cons.mp hb with rfl | hb
      · omega
      · rw [List.mem_singleton.mp hb]; exact Nat.le_refl _
    exact I.fpOk hb' (I.hok.fresh hb')
theorem pi_enum {ta : TA} (h1 : Gl X "enumerate") (hm : X.mg "enumerate" = none) (ha : PA X [a] ta) (hs : starEach [a] X.env = (false, eval a X.env) :: starEach [] X.env := by rfl) :
    PI X (.Tuple elts kt pt) (.Call (.Name "enumerate" p) [a] [] pos) (iEnum X.K ta) := by
  intro pins s σ H R I h
  refine wpAny_Call_Name_kw (ld_blt I h1 hm bt_enumerate (PyProof.Rows.callWith_type1 (thn (ha pos pins s σ H _ I h) fun us s1 ⟨vs, H1, I1, r1, l, ex, ⟨xs, hq⟩, q1⟩ => ?_) hs rfl))
  subst ex
  obtain ⟨u, rfl, ru⟩ := vals1 r1
  cases ru
  obtain ⟨its, rv, pl, hz⟩ := I1.list hq
  exact call_enumerate_list pl.isList fun h' he hi _ kk => enum_it (lo := 0) I1 he hi kk q1 _
end
theorem for_enum {K : PySem.W.Frag} {a : Addr} {xs : List V} {lo : Int} {g : TG} {tb : TS} {D : Ends} {σ : L2.St} {H : Hp} (Pv : Nat → L2.St → Hp → Prop) (h0 : Pv 0 σ H) (hl : ∀ i σ H, i ≤ xs.length → Pv i σ H → SqL K H a xs)
    (hs : ∀ i y σ H T, xs[i]? = some y → Pv i σ H → H T = none → g (.ref T) σ (upd H T (.tup [.int (lo + (i : Nat)), y])) fun σ2 H2 => tb { D with nx := Pv (i + 1), ct := Pv (i + 1), bk := D.nx } σ2 H2) (hd : ∀ σ H, Pv xs.length σ H → D.nx σ H) :
    ∃ W : Nat → Nat → L2.St → Hp → Prop, (∃ m, W 0 m σ H) ∧ ∀ i m σ H, W i m σ H →
      ((Ite K a lo).stop i H ∧ D.nx σ H) ∨ ((Ite K a lo).go i H ∧ ∃ N : L2.St → Hp → Prop, (∀ σ' H', N σ' H' → ∃ m', m' < m ∧ W (i + 1) m' σ' H') ∧ ∀ x H', (Ite K a lo).yld i H x H' → g x σ H' fun σ2 H2 => tb { D with nx := N, ct := N, bk := D.nx } σ2 H2) := by
  refine ⟨fun i m σ H => m = xs.length - i ∧ i ≤ xs.length ∧ Pv i σ H, ⟨xs.length, rfl, Nat.zero_le _, h0⟩, ?_⟩
  rintro i m σ H ⟨rfl, hi, p⟩
  have q := hl i σ H hi p
  by_cases hlt : i < xs.length
  · refine .inr ⟨⟨xs, xs[i], q, by simp [hlt]⟩, Pv (i + 1), fun σ' H' p' => ⟨xs.length - (i + 1), by omega, rfl, hlt, p'⟩, fun x H' ⟨T, y, e1, e2, e3, e4⟩ => ?_⟩
    subst e1 e3
    exact hs i y σ H T (e4 xs q) p e2
  · obtain rfl : i = xs.length := by omega
    exact .inl ⟨⟨xs, q, Nat.le_refl _⟩, hd σ H p⟩
end L5
namespace L5
open PySem PySem.Spec PyProof.Rows L2 L3 L4
def enumF (f : Nat → V → Option V) (xs : List V) (n : Nat) : List V := (List.range n).filterMap fun j => (xs[j]?).bind (f j)
theorem enumF_succ {f : Nat → V → Option V} {xs : List V} {i : Nat} {y : V} (h : xs[i]? = some y) : enumF f xs (i + 1) = enumF f xs i ++ (f i y).toList := by
  unfold enumF
  rw [List.range_succ, List.filterMap_append, List.filterMap_cons, h]
  cases e : f i y with
  | none => simp [e]
  | some z => simp [e]
theorem comp_enum {K : PySem.W.Frag} {a : Addr} {xs : List V} {lo : Int} {D : Addr} {g : TG} {tc : TT} {te : TE} {Q : Hp → Prop} {σ : L2.St} {H : Hp} (hD : H D = none) (hl : ∀ H', Same H H' → SqL K H' a xs) (S : L2.St → Prop) (f : Nat → V → Option V) (h0 : S σ) (hz : xs.length < sizeLine)
    (step : ∀ (i : Nat) (y : V) (σ : L2.St) (H' : Hp) (T : Addr) (R1 : L2.St → V → Hp → Prop) (R0 : L2.St → Hp → Prop), xs[i]? = some y → S σ → Same H H' → H' T = none → (∀ σ2 z H4, S σ2 → f i y = some z → Same H' H4 → R1 σ2 z H4) → (∀ σ2 H3, S σ2 → f i y = none → Same H' H3 → R0 σ2 H3) →
      g (.ref T) σ (upd H' T (.tup [.int (lo + (i : Nat)), y])) fun σ2 H2 => tc σ2 H2 fun b H3 => if b = true then te σ2 H3 fun z H4 => R1 σ2 z H4 else R0 σ2 H3)
    (hq : ∀ H', Same H H' → H' D = some (.lst (enumF f xs xs.length)) → Q H') : ∃ W : Nat → Nat → List V → L2.St → Hp → Prop, (∃ m, W 0 m [] σ (upd H D (.lst []))) ∧ CompW D (Ite K a lo) g tc te Q W := by
  have up : ∀ {H' : Hp} {o : HO}, Same H H' → Same H (upd H' D o) := fun {H' o} s b ob e => by
    rw [upd_ne (ne_of_none e hD)]
    exact s b ob e
  refine ⟨fun i m ys σ H' => m = xs.length - i ∧ i ≤ xs.length ∧ Same H H' ∧ H' D = some (.lst ys) ∧ ys = enumF f xs i ∧ S σ, ⟨xs.length, by simp, Nat.zero_le _, up (Same.refl H), upd_same, by unfold enumF; simp, h0⟩, ?_⟩
  rintro i m ys σ H' ⟨rfl, hi, s, e, e2, hS⟩
  have hlen : ys.length ≤ i := by
    rw [e2]
    unfold enumF
    exact Nat.le_trans (List.length_filterMap_le _ _) (by rw [List.length_range]; exact Nat.le_refl _)
  refine ⟨e, by omega, ?_⟩
  by_cases hlt : i < xs.length
  · refine .inr ⟨⟨xs, xs[i], hl H' s, by simp [hlt]⟩, fun y σ2 H4 => H4 D = some (.lst ys) ∧ Same H (upd H4 D (.lst (ys ++ [y]))) ∧ ys ++ [y] = enumF f xs (i + 1) ∧ S σ2, fun σ2 H3 => Same H H3 ∧ H3 D = some (.lst ys) ∧ ys = enumF f xs (i + 1) ∧ S σ2,
      fun y σ2 H4 q => ⟨q.1, xs.length - (i + 1), by omega, rfl, hlt, q.2.1, upd_same, q.2.2.1, q.2.2.2⟩, fun σ2 H3 q => ⟨xs.length - (i + 1), by omega, rfl, hlt, q⟩, fun x H1 ⟨T, y, e1, e3, e4, e5⟩ => ?_⟩
    subst e1 e4
    have hy := e5 xs (hl H' s)
    refine step i y σ H' T (fun σ2 z H4 => _) (fun σ2 H3 => _) hy hS s e3 (fun σ2 z H4 h2 hf s4 => ⟨s4 _ _ e, up (s.trans s4), ?_, h2⟩) fun σ2 H3 h2 hf s3 => ⟨s.trans s3, s3 _ _ e, ?_, h2⟩
    · rw [enumF_succ hy, hf, e2]
      rfl
    · rw [enumF_succ hy, hf, e2]
      exact (List.append_nil _).symm
  · obtain rfl : i = xs.length := by omega
    refine .inl ⟨⟨xs, hl H' s, Nat.le_refl _⟩, hq H' s ?_⟩
    rw [e, e2]
end L5
namespace L4
open PySem PySem.Spec PyProof.Rows L2 L3
theorem cut_from {xs : List V} (k : Nat) (h : k ≤ xs.length) : cutV xs (some (k : Int)) none = xs.drop k := by
  unfold cutV
  rw [HT.sIx_nat, HT.sIx_none, Nat.min_eq_left h]
  exact List.take_of_length_le (by rw [List.length_drop]; omega)
theorem cut_both {xs : List V} (a b : Nat) : cutV xs (some (a : Int)) (some (b : Int)) = (xs.drop a).take (b - a) := by
  unfold cutV
  rw [HT.sIx_nat, HT.sIx_nat]
  by_cases h : a ≤ xs.length
  · rw [Nat.min_eq_left h]
    by_cases h2 : b ≤ xs.length
    · rw [Nat.min_eq_left h2]
    · rw [Nat.min_eq_right (by omega), List.take_of_length_le (by rw [List.length_drop]; omega), List.take_of_length_le (by rw [List.length_drop]; omega)]
  · rw [Nat.min_eq_right (a := a) (by omega), List.drop_length, List.drop_of_length_le (by omega)]
    simp
end L4
namespace L6
open PySem PySem.Spec PyProof.Rows L2 L3 L4
def Rising (xs : Array Nat) : Prop := ∀ i k, i < k → k < xs.size → xs.getD i 0 < xs.getD k 0
structure Good (t : SetTable) (n : Nat) (led : Bool) : Prop where
  fits : t.fits n = true
  led : t.led = led
  rise : t.plain = true → Rising t.place
end L6
namespace L6
open PySem PySem.Spec PyProof.Rows L2 L3 L4
open Sem (wp)
def ledOf (w : World) : Bool := !w.params.followText "set-order"
def SetG (P : Program) (w : World) (h : Heap) (a : Addr) (ks : List Int) : Prop :=
  ∃ o es ep t, h.get? a = some o ∧ o.ExactSet ∧ o.data = .set es ep t ∧ ElemsOf (intKind P w) es.toList ∧ (∃ ms, IntsAre (es.toList.map (·.2)) ms ∧ ms.Perm ks) ∧ ks.Nodup ∧ es.size < scanBound ∧ Good t es.size (ledOf w)
theorem SetG.at {P : Program} {w : World} {h h' : Heap} {a : Addr} {ks : List Int} (x : SetG P w h a ks) (k : ∀ o, h.get? a = some o → h'.get? a = some o) : SetG P w h' a ks :=
  let ⟨o, es, ep, t, e, r⟩ := x; ⟨o, es, ep, t, k _ e, r⟩
theorem IntsAre.snoc {n : Int} {t : Tok} : ∀ {vs : List Value} {ns : List Int}, IntsAre vs ns → IntsAre (vs ++ [.int n t]) (ns ++ [n])
  | _, _, .nil => .cons n t .nil
  | _, _, .cons m u h => .cons m u (IntsAre.snoc h)
section
variable {prog : Program} {w : World} {A : Around} {E : Value → Shared → Prop} {s : Shared}
end
end L6
namespace L6
open PySem PySem.Spec PyProof.Rows L2 L3 L4
open Sem (wp)
theorem take_all_snoc {ns : List Int} {i : Nat} (h : i < ns.length) : ns.take (i + 1) = ns.take i ++ [ns.getD i 0] := by
  rw [List.take_succ, List.getD_eq_getElem?_getD, List.getElem?_eq_getElem h]; rfl
section
variable {prog : Program} {w : World} {A : Around} {E : Value → Shared → Prop} {s : Shared}
end
end L6
namespace L6
open PySem PySem.Spec PyProof.Rows L2 L3 L4
open Sem (wp)
section
variable {M : Model} {A : Around} {E : Value → Shared → Prop} {s : Shared}
end
section
variable {prog : Program} {w : World} {A : Around} {E : Value → Shared → Prop} {s : Shared} {I a : Addr} {i ep : Nat} {o : Obj} {es : Array (Int × Value)} {t : SetTable}
end
end L6
namespace L6
open PySem PySem.Spec PyProof.Rows L2 L3 L4
open Sem (wp)
section
variable {prog : Program} {w : World} {A : Around} {E : Value → Shared → Prop} {s : Shared} {I a : Addr} {i ep : Nat} {o : Obj} {es : Array (Int × Value)} {t : SetTable}
end
section
variable {prog : Program} {w : World} {A : Around} {E : Value → Shared → Prop} {s : Shared} {a : Addr}
end
end L6
namespace L6
open PySem PySem.Spec PyProof.Rows L2 L3 L4
open Sem (wp)
theorem vals_ints : ∀ {ns : List Int} {us : List Value}, Vals (ns.map V.int) us → IntsAre us ns
  | [], _, .nil => .nil
  | _ :: _, _, .cons r t => by
    obtain ⟨k, rfl⟩ := r
    exact .cons _ k (vals_ints t)
theorem ints_vals : ∀ {ns : List Int} {us : List Value}, IntsAre us ns → Vals (ns.map V.int) us
  | _, _, .nil => .nil
  | _, _, .cons n t h => .cons ⟨t, rfl⟩ (ints_vals h)
section
variable {X : Cx}
end
end L6
namespace CB
open PySem PyProof.Rows
def maskOf (ns : List Nat) : Nat := ns.foldl (fun m n => m ||| 2 ^ n) 0
def memb (m : Nat) : List Nat := (List.range (Builtin.Int.intBits (m : Int))).filter fun k => m.testBit k
theorem fold_bit (k : Nat) : ∀ (ns : List Nat) (m : Nat), (ns.foldl (fun m n => m ||| 2 ^ n) m).testBit k = (m.testBit k || ns.contains k)
  | [], m => by simp
  | n :: r, m => by
    rw [List.foldl_cons, fold_bit k r, Nat.testBit_or, Nat.testBit_two_pow, List.contains_cons, Bool.or_assoc]
    congr 2
    by_cases h : n = k
    · subst h; simp
    · rw [decide_eq_false h]
      exact (beq_eq_false_iff_ne.mpr (fun z => h z.symm)).symm
theorem mask_bit (ns : List Nat) (k : Nat) : (maskOf ns).testBit k = ns.contains k := by unfold maskOf; rw [fold_bit]; simp
theorem or_cast (m n : Nat) : Builtin.bitOr (m : Int) (n : Int) = ((m ||| n : Nat) : Int) := by
  have e : ∀ k : Nat, Builtin.bitNot (Builtin.bitNot (k : Int)) = (k : Int) := fun k => by unfold Builtin.bitNot; omega
  have z : ∀ k : Nat, ¬ 0 ≤ Builtin.bitNot (k : Int) := fun k => by unfold Builtin.bitNot; omega
  unfold Builtin.bitOr
  have h : Builtin.bitAnd (Builtin.bitNot (m : Int)) (Builtin.bitNot (n : Int)) = Builtin.bitNot (((m ||| n : Nat)) : Int) := by
    have := bitAnd_nn (z m) (z n)
    rw [this, e, e, Int.toNat_natCast, Int.toNat_natCast]
  rw [h, e]
theorem or_add (m n : Nat) : (m &&& n) + (m ||| n) = m + n := by
  have h := or_cast m n
  rw [bitOr_and, bitAnd_pp (by omega) (by omega), Int.toNat_natCast, Int.toNat_natCast] at h
  omega
theorem and_cast (m n : Nat) : Builtin.bitAnd (m : Int) (n : Int) = ((m &&& n : Nat) : Int) := by rw [bitAnd_pp (by omega) (by omega), Int.toNat_natCast, Int.toNat_natCast]
theorem pow_cast (k : Nat) : (2 : Int) ^ k = ((2 ^ k : Nat) : Int) := (PySem.W.kbt_cast k).symm
theorem bits_lt (m : Nat) : m < 2 ^ Builtin.Int.intBits (m : Int) := by
  have := (intBits_le_iff (m := Builtin.Int.intBits (m : Int)) (x := (m : Int))).mp (Nat.le_refl _)
  simpa using this
theorem mem_memb {m k : Nat} : k ∈ memb m ↔ m.testBit k = true := by
  unfold memb
  rw [List.mem_filter, List.mem_range]
  constructor
  · exact fun h => h.2
  · intro h
    refine ⟨?_, h⟩
    rcases Nat.lt_or_ge k (Builtin.Int.intBits (m : Int)) with z | z
    · exact z
    · have : m < 2 ^ k := Nat.lt_of_lt_of_le (bits_lt m) (Nat.pow_le_pow_right (by decide) z)
      rw [Nat.testBit_lt_two_pow this] at h
      cases h
theorem memb_up (m : Nat) : (memb m).Pairwise (· < ·) := List.Pairwise.filter _ List.pairwise_lt_range
theorem rise_eq : ∀ {xs ys : List Nat}, xs.Pairwise (· < ·) → ys.Pairwise (· < ·) → (∀ k, k ∈ xs ↔ k ∈ ys) → xs = ys := by
  intro xs ys hx hy h
  have nx : xs.Nodup := hx.imp fun h => Nat.ne_of_lt h
  have ny : ys.Nodup := hy.imp fun h => Nat.ne_of_lt h
  exact List.Perm.eq_of_pairwise (le := (· < ·)) (fun a b _ _ h1 h2 => absurd (Nat.lt_trans h1 h2) (Nat.lt_irrefl _)) hx hy ((List.perm_ext_iff_of_nodup nx ny).mpr h)
theorem has_eq (m n : Nat) : decide (Builtin.bitAnd ((m : Int) / 2 ^ n) 1 = 1) = m.testBit n := by
  rw [bitAnd_m1, pow_cast]
  have e : (m : Int) / ((2 ^ n : Nat) : Int) % 2 = ((m / 2 ^ n % 2 : Nat) : Int) := by omega
  rw [e, Nat.testBit_eq_decide_div_mod_eq]
  exact decide_eq_decide.mpr (by omega)
theorem low_split : ∀ (m : Nat), m ≠ 0 → ∃ k a : Nat, m = 2 ^ k * (2 * a + 1) := by
  intro m
  induction m using Nat.strongRecOn with
  | _ m ih =>
    intro h
    by_cases e : m % 2 = 0
    · obtain ⟨k, a, e2⟩ := ih (m / 2) (by omega) (by omega)
      refine ⟨k + 1, a, ?_⟩
      rw [Nat.pow_succ, Nat.mul_comm (2 ^ k) 2, Nat.mul_assoc, ← e2]
      omega
    · exact ⟨0, m / 2, by omega⟩
theorem bits_pow (k : Nat) : Builtin.Int.intBits ((2 : Int) ^ k) = k + 1 := by
  rw [pow_cast]
  have h1 : Builtin.Int.intBits ((2 ^ k : Nat) : Int) ≤ k + 1 := intBits_le_iff.mpr (by rw [Int.natAbs_natCast]; exact Nat.pow_lt_pow_right (by decide) (by omega))
  have h2 : ¬ Builtin.Int.intBits ((2 ^ k : Nat) : Int) ≤ k := fun z => by
    have := intBits_le_iff.mp z
    rw [Int.natAbs_natCast] at this
    omega
  omega
theorem low_eq {m : Nat} (h : m ≠ 0) : ∃ k : Nat, (memb m)[0]? = some k ∧ ((Builtin.Int.intBits (Builtin.bitAnd (m : Int) (-(m : Int))) : Nat) : Int) - 1 = (k : Int) := by
  obtain ⟨k, a, e⟩ := low_split m h
  refine ⟨k, ?_, ?_⟩
  · have hk : m.testBit k = true := by
      rw [Nat.testBit_eq_decide_div_mod_eq, e, Nat.mul_div_cancel_left _ (Nat.two_pow_pos k)]
      exact decide_eq_true (by omega)
    have lo : ∀ j, m.testBit j = true → k ≤ j := fun j hj => by
      rcases Nat.lt_or_ge j k with z | z
      · rw [Nat.testBit_eq_decide_div_mod_eq, e] at hj
        have h1 : 2 ^ k = 2 ^ j * (2 * 2 ^ (k - j - 1)) := by
          rw [← Nat.pow_succ', ← Nat.pow_add]
          congr 1
          omega
        rw [h1, Nat.mul_assoc, Nat.mul_div_cancel_left _ (Nat.two_pow_pos j), Nat.mul_assoc, Nat.mul_mod_right] at hj
        simp at hj
      · exact z
    have hm := mem_memb.mpr hk
    have up := memb_up m
    cases hl : memb m with
    | nil => rw [hl] at hm; cases hm
    | cons b r =>
      rw [hl] at hm up
      have hb : m.testBit b = true := mem_memb.mp (by rw [hl]; exact List.mem_cons_self)
      have := lo b hb
      rcases List.mem_cons.mp hm with z | z
      · rw [z]; rfl
      · have := (List.pairwise_cons.mp up).1 k z
        omega
  · have e' : (m : Int) = 2 ^ k * (2 * (a : Int) + 1) := by rw [e, pow_cast]; simp
    rw [e', PySem.W.kbt_low, bits_pow]
    omega
def less (m n : Nat) : Nat := m - (m &&& n)
theorem less_cast (m n : Nat) : Builtin.bitAnd (m : Int) (Builtin.bitNot (n : Int)) = ((less m n : Nat) : Int) := by
  rw [bitAnd_not, and_cast]
  unfold less
  have h := Nat.and_le_left (n := m) (m := n)
  omega
theorem less_bit (m n k : Nat) : (less m n).testBit k = (m.testBit k && !n.testBit k) := by
  have h2 : (m &&& (m ^^^ n)) = less m n := by
    unfold less
    have e1 := or_add (m &&& n) (m &&& (m ^^^ n))
    have e2 : (m &&& n) &&& (m &&& (m ^^^ n)) = 0 := by
      apply Nat.eq_of_testBit_eq
      intro i
      simp only [Nat.testBit_and, Nat.testBit_xor, Nat.zero_testBit]
      cases m.testBit i <;> cases n.testBit i <;> rfl
    have e3 : (m &&& n) ||| (m &&& (m ^^^ n)) = m := by
      apply Nat.eq_of_testBit_eq
      intro i
      simp only [Nat.testBit_and, Nat.testBit_or, Nat.testBit_xor]
      cases m.testBit i <;> cases n.testBit i <;> rfl
    rw [e2, e3] at e1
    omega
  rw [← h2, Nat.testBit_and, Nat.testBit_xor]
  cases m.testBit k <;> cases n.testBit k <;> rfl
end CB
namespace L6
open PySem PySem.Spec PyProof.Rows L2 L3 L4
section
variable {X : Cx}
theorem mt_bit_length : MtR X "int.bit_length" (fun x xs H Q => xs = [] ∧ ∃ i : Int, x = .int i ∧ Q (.int (Builtin.Int.intBits i : Nat)) H) := by
  intro pins s σ H x xs v us Q I rx rv h
  obtain ⟨rfl, i, rfl, q⟩ := h
  obtain ⟨t, rfl⟩ := rx
  cases rv
  exact call_int_bit_length ⟨.int (Builtin.Int.intBits i : Nat), H, I.tok _, ⟨_, rfl⟩, q⟩
end
end L6
namespace L6
open PySem PySem.Spec PyProof.Rows L2 L3 L4
def nV (ns : List Nat) : List V := ns.map fun n : Nat => V.int n
def nD (ns : List Nat) : List PyData := ns.map fun n : Nat => PyData.int n
end L6
namespace L6
open PySem PySem.Spec PyProof.Rows L2 L3 L4
theorem cut1 (xs : List V) : cutV xs (some 1) none = xs.drop 1 := by
  cases xs with
  | nil => decide
  | cons x r =>
    rw [show (1 : Int) = ((1 : Nat) : Int) from rfl, cut_from]
    show 1 ≤ r.length + 1
    omega
end L6
namespace L6
end L6
namespace L7
open PySem PySem.Spec PyProof.Rows L2 L3 L4
theorem rel_key {P : Program} {w : World} {k : Key} {v : Value} (h : (mixKind P w).is k v = true) : RelV (kV k) v := by
  rcases keyIs_shape (show keyIs k v = true from h) with ⟨i, t, rfl, rfl⟩ | ⟨x, t, rfl, rfl⟩
  · exact ⟨t, rfl⟩
  · exact ⟨t, rfl⟩
theorem kv_get {κ : Type} {kvs : List (κ × V)} {vs : List (κ × Value)} (r : KV kvs vs) : ∀ {i : Nat} {p : κ × V}, kvs[i]? = some p → ∃ v, vs[i]? = some (p.1, v) := by
  induction r with
  | nil => intro i p h; simp at h
  | @cons a b as bs h t ih =>
    intro i p e
    cases i with
    | zero =>
      have : a = p := by simpa using e
      subst this
      exact ⟨b.2, by simp [h.1]⟩
    | succ i =>
      have : as[i]? = some p := by simpa using e
      obtain ⟨v, hv⟩ := ih this
      exact ⟨v, by simpa using hv⟩
section
variable {X : Cx} {tg : Expr}
theorem vals_get : ∀ {xs : List V} {us : List Value}, xs.length = us.length → (∀ (i : Nat) (x : V) (u : Value), xs[i]? = some x → us[i]? = some u → RelV x u) → Vals xs us
  | [], [], _, _ => .nil
  | x :: xs, u :: us, hl, h => .cons (h 0 x u rfl rfl) (vals_get (by simpa using hl) fun i x' u' h1 h2 => h (i + 1) x' u' (by simpa using h1) (by simpa using h2))
  | [], _ :: _, hl, _ => by simp at hl
  | _ :: _, [], hl, _ => by simp at hl
theorem call_sumL (hc : X.calm = true) : CallR X (.builtin "sum") (fun xs H Q => ∃ (p : Addr) (ns : List Int), xs = [.ref p] ∧ SqL X.K H p (ns.map V.int) ∧ Q (.int (preSum (fun i => ns.getD i 0) ns.length)) H) := by
  intro pins s σ H xs us Q I r h
  obtain ⟨p, ns, rfl, hq, q⟩ := h
  obtain ⟨u, rfl, rx⟩ := vals1 r
  cases rx
  obtain ⟨its, rv, pl, hz⟩ := I.list hq
  have hl := rv.length
  rw [List.length_map] at hl
  refine call_sum_walkAnyS (wpAny_pyIter_list pl.isList ?_)
  have hp : p < s.heap.objs.size := by obtain ⟨o, n, e, _⟩ := pl; exact Heap.lt_size e
  refine ⟨s.heap.objs.size, _, _, _, its.toArray.size, _, _, fun i => ns.getD i 0, rfl, (Walks.list (by show X.A.handled = none; exact I.ok.hd hc) s.heap.objs.size p (Nat.ne_of_lt hp) its.toArray).toS,
    ⟨⟨_, Heap.get?_push_size _ rfl, rfl, rfl⟩, pl.isList.push _⟩, fun b hb => ?_, fun i v hv => ?_, fun s' t' hm => ?_⟩
  · show b < (s.heap.push _).objs.size
    rw [Heap.size_push]
    rcases List.mem_cons.mp hb with e | hb
    · rw [e]; exact Nat.lt_succ_self _
    · rw [List.mem_singleton.mp hb]; exact Nat.lt_succ_of_lt hp
  · have hv' : its[i]? = some v := by simpa using hv
    have hi : i < its.length := (List.getElem?_eq_some_iff.mp hv').1
    obtain ⟨u', e1, t, e2⟩ := rv.get (x := V.int (ns[i]'(by omega))) (i := i) (by rw [List.getElem?_map, List.getElem?_eq_getElem (by omega)]; rfl)
    rw [hv'] at e1
    cases e1
    refine ⟨t, ?_⟩
    rw [e2]
    show _ = Value.int (ns.getD i 0) t
    rw [List.getD_eq_getElem?_getD, List.getElem?_eq_getElem (by omega)]; rfl
  · have hk : ∀ b o, s.heap.get? b = some o → s'.heap.get? b = some o := fun b o e =>
      hm.heap b o (fun z => absurd (Heap.lt_size e) (by rw [List.mem_singleton.mp z]; exact Nat.lt_irrefl _)) (Heap.get?_push_of_some _ e)
    rw [Moved.eq_with hm]
    refine ⟨.int (preSum (fun i => ns.getD i 0) ns.length), H, I.kept (t' := s'.toks) hk, ⟨t', ?_⟩, q⟩
    rw [List.size_toArray, ← hl]
theorem preSum_take (ns : List Int) : ∀ k, k ≤ ns.length → preSum (fun i => ns.getD i 0) k = (ns.take k).foldl (· + ·) 0
  | 0, _ => by simp [preSum]
  | k + 1, h => by
    show preSum (fun i => ns.getD i 0) k + ns.getD k 0 = _
    rw [preSum_take ns k (by omega), L6.take_all_snoc (by omega), List.foldl_append]
    rfl
theorem preSum_all (ns : List Int) : preSum (fun i => ns.getD i 0) ns.length = ns.foldl (· + ·) 0 := by rw [preSum_take ns _ (Nat.le_refl _), List.take_length]
end
end L7
namespace L7
open PySem PySem.Spec PyProof.Rows L2 L3 L4 L6
theorem walked {H H2 : Hp} {d : Addr} {o : Obj} {kvs : List (Key × V)} (h : H d = some (.dK kvs) ∧ H2 = upd H d (.frz o (.dK kvs)) ∨ H d = some (.frz o (.dK kvs)) ∧ H2 = H) :
    H2 d = some (.frz o (.dK kvs)) ∧ (∀ b u, Rd H b u → Rd H2 b u) ∧ ∀ b, H b = none → H2 b = none := by
  rcases h with ⟨e, rfl⟩ | ⟨e, rfl⟩
  · refine ⟨upd_same, fun b u r => ?_, fun b hb => ?_⟩
    · by_cases hb : b = d
      · subst hb
        rcases r with r | ⟨o', r⟩
        · rw [e] at r
          rw [← Option.some.inj r]
          exact .inr ⟨o, upd_same⟩
        · rw [e] at r
          cases r
      · rcases r with r | ⟨o', r⟩
        · exact .inl (by rw [upd_ne hb]; exact r)
        · exact .inr ⟨o', by rw [upd_ne hb]; exact r⟩
    · rw [upd_ne (fun z => by rw [z, e] at hb; cases hb)]; exact hb
  · exact ⟨e, fun _ _ r => r, fun _ h => h⟩
end L7
namespace L3
open PySem PySem.Spec PyProof.Rows L2
section
variable {X : Cx}
end
end L3
namespace CG
def sumZ (l : List Int) : Int := l.foldl (· + ·) 0
theorem foldl_add (l : List Int) : ∀ z : Int, l.foldl (· + ·) z = z + sumZ l := by
  unfold sumZ
  induction l with
  | nil => intro z; exact (Int.add_zero z).symm
  | cons a r ih =>
    intro z
    show r.foldl (· + ·) (z + a) = z + r.foldl (· + ·) (0 + a)
    rw [ih (z + a), ih (0 + a)]
    omega
theorem sumZ_cons (a : Int) (l : List Int) : sumZ (a :: l) = a + sumZ l := by
  show l.foldl (· + ·) (0 + a) = _
  rw [foldl_add]
  omega
def fitN (paper ms : List Nat) (w : Nat) : Nat := (paper.filter fun p => (ms.getD p 0).testBit w).length
def wantZ (paper ws : List Nat) : Int := sumZ (paper.map fun p => ((ws.getD p 0 : Nat) : Int))
def giveZ (paper os ms : List Nat) (n : Nat) : Int := sumZ ((List.range n).map fun i => ((min (os.getD i 0) (fitN paper ms i) : Nat) : Int))
def shownZ (paper ws os ms : List Nat) : Int := wantZ paper ws - giveZ paper os ms os.length
theorem take_succ {α : Type} {l : List α} {i : Nat} {x : α} (h : l[i]? = some x) : l.take (i + 1) = l.take i ++ [x] := by
  rw [List.take_succ, h]
  rfl
theorem getD_of {l : List Nat} {i x : Nat} (h : l[i]? = some x) : l.getD i 0 = x := by
  rw [List.getD_eq_getElem?_getD, h]
  rfl
theorem filterMap_some {α β : Type} {f : α → Option β} {g : α → β} : ∀ {l : List α}, (∀ i ∈ l, f i = some (g i)) → l.filterMap f = l.map g
  | [], _ => rfl
  | a :: r, h => by
    rw [List.filterMap_cons, h a (List.mem_cons_self), List.map_cons]
    exact congrArg (_ :: ·) (filterMap_some fun i hi => h i (List.mem_cons_of_mem _ hi))
theorem bit_mod (m w : Nat) : (((m : Int) / 2 ^ w) % 2 = 1) ↔ m.testBit w = true := by
  rw [show ((2 : Int) ^ w) = ((2 ^ w : Nat) : Int) by rw [Int.natCast_pow]; rfl, ← Int.natCast_ediv, show ((m / 2 ^ w : Nat) : Int) % 2 = ((m / 2 ^ w % 2 : Nat) : Int) by rw [Int.natCast_emod]; rfl]
  rw [Nat.testBit_eq_decide_div_mod_eq, decide_eq_true_eq]
  omega
theorem take_set {l : List Nat} {j x m : Nat} (h : l[j]? = some m) : ∀ k y, (l.set j x)[k]? = some y → k = j ∧ y = x ∨ k ≠ j ∧ l[k]? = some y := fun k y e => by
  have hj : j < l.length := (List.getElem?_eq_some_iff.mp h).1
  by_cases hk : k = j
  · subst hk
    rw [List.getElem?_set_self hj] at e
    exact .inl ⟨rfl, (Option.some.inj e).symm⟩
  · rw [List.getElem?_set_ne (fun z => hk z.symm)] at e
    exact .inr ⟨hk, e⟩
theorem lift_bit {m n r : Nat} (h : m < 2 ^ n) (hr : r < 2) : m + 2 ^ n * r < 2 ^ (n + 1) := by
  rw [Nat.pow_succ]
  have : r = 0 ∨ r = 1 := by omega
  rcases this with rfl | rfl <;> omega
structure Good (most : Nat) (ws os ms : List Nat) : Prop where
  len : ws.length = ms.length
  one : 1 ≤ ws.length
  six : ws.length ≤ 6
  many : os.length ≤ most
  wl : ∀ w ∈ ws, w ≤ 60
  wt : ∀ (k w : Nat), ws[k]? = some w → 1 ≤ k → w ≤ 3
  ol : ∀ o ∈ os, 1 ≤ o ∧ o ≤ 9
  ml : ∀ m ∈ ms, m < 2 ^ os.length
end CG
namespace L7
open PySem PySem.Spec PyProof.Rows L2 L3 L4 L6
section
variable {X : Cx}
end
end L7
namespace L3
open PySem PySem.Spec PyProof.Rows L2 L3
theorem comp_idx {J : It} {xs : List V} {P : Hp → Prop} {D : Addr} {g : TG} {tc : TT} {te : TE} {Q : Hp → Prop} {σ : L2.St} {H : Hp} (hD : H D = none) (Y : Yields J xs P) (S : L2.St → Prop) (zs : List V) (hlz : zs.length = xs.length) (h0 : S σ) (hP : ∀ H', Same H H' → P H') (hz : xs.length < sizeLine)
    (step : ∀ (i : Nat) (x z : V) (σ : L2.St) (H' : Hp) (R1 : L2.St → V → Hp → Prop) (R0 : L2.St → Hp → Prop), xs[i]? = some x → zs[i]? = some z → S σ → Same H H' → (∀ σ2 H4, S σ2 → Same H' H4 → R1 σ2 z H4) →
      g x σ H' fun σ2 H2 => tc σ2 H2 fun b H3 => if b = true then te σ2 H3 fun y H4 => R1 σ2 y H4 else R0 σ2 H3)
    (hq : ∀ H', Same H H' → H' D = some (.lst zs) → Q H') : ∃ W : Nat → Nat → List V → L2.St → Hp → Prop, (∃ m, W 0 m [] σ (upd H D (.lst []))) ∧ CompW D J g tc te Q W := by
  have up : ∀ {H' : Hp} {o : HO}, Same H H' → Same H (upd H' D o) := fun {H' o} s b ob e => by
    rw [upd_ne (ne_of_none e hD)]
    exact s b ob e
  refine comp_inv Y (fun i ys σ H' => Same H H' ∧ H' D = some (.lst ys) ∧ ys = zs.take i ∧ S σ) ⟨up (Same.refl H), upd_same, by simp, h0⟩ (fun i ys σ H' ⟨s, e, e2, _⟩ => ⟨hP H' s, e, ?_⟩) hz (fun i x ys σ H' hx ⟨s, e, e2, hS⟩ => ?_) fun ys σ H' ⟨s, e, e2, _⟩ => ?_
  · rw [e2, List.length_take]
    omega
  · have hi : i < xs.length := (List.getElem?_eq_some_iff.mp hx).1
    have hi' : i < zs.length := by omega
    have ez : zs[i]? = some zs[i] := List.getElem?_eq_getElem hi'
    refine step i x zs[i] σ H' (fun σ2 y H4 => H4 D = some (.lst ys) ∧ Same H (upd H4 D (.lst (ys ++ [y]))) ∧ upd H4 D (.lst (ys ++ [y])) D = some (.lst (ys ++ [y])) ∧ ys ++ [y] = zs.take (i + 1) ∧ S σ2) _ hx ez hS s (fun σ2 H4 h2 s4 => ⟨s4 _ _ e, up (s.trans s4), upd_same, ?_, h2⟩)
    rw [List.take_succ, ez, e2]
    rfl
  · refine hq H' s ?_
    rw [e, e2, ← hlz, List.take_length]
end L3
namespace L3
open PySem PySem.Spec PyProof.Rows L2 L3
end L3
namespace L12
open PySem PySem.Spec PySem.W PyProof.Rows L2 L3
def bare : Heap := {}
theorem bare_none (b : Addr) : bare.get? b = none := by
  unfold bare Heap.get?
  simp
def allN (h : Heap) (L : Addr) : List (Addr × Obj) := (List.range h.objs.size).filterMap fun b => if b = L then none else (h.get? b).map fun o => (b, o)
theorem mem_allN {h : Heap} {L b : Addr} {o : Obj} (e : h.get? b = some o) (hb : b ≠ L) : (b, o) ∈ allN h L :=
  List.mem_filterMap.mpr ⟨b, List.mem_range.mpr (Heap.lt_size e), by rw [if_neg hb, e]; rfl⟩
theorem allN_mem {h : Heap} {L : Addr} {p : Addr × Obj} (hp : p ∈ allN h L) : h.get? p.1 = some p.2 ∧ p.1 ≠ L := by
  obtain ⟨b, _, e⟩ := List.mem_filterMap.mp hp
  by_cases hb : b = L
  · rw [if_pos hb] at e
    cases e
  · rw [if_neg hb] at e
    obtain ⟨o, ho, rfl⟩ := Option.map_eq_some_iff.mp e
    exact ⟨ho, hb⟩
theorem news_all (h : Heap) (L : Addr) : News bare L h (allN h L) := fun p hp => ⟨(allN_mem hp).1, (allN_mem hp).2, bare_none _⟩
theorem on_heap {P : Program} {w : World} {H : Hp} {h : Heap} {a : Addr} : ∀ {o : HO}, ObjOk P w H h a o → ∃ u, h.get? a = some u
  | .lst _, ⟨_, _, _, _, e⟩ => ⟨_, e⟩
  | .tup _, ⟨_, _, _, u, e, _⟩ => ⟨u, e⟩
  | .dK _, ⟨_, _, _, _, u, _, _, e, _⟩ => ⟨u, e⟩
  | .dT _, ⟨_, _, _, _, u, _, _, e, _⟩ => ⟨u, e⟩
  | .set _ _, ⟨u, _, _, _, e, _⟩ => ⟨u, e⟩
  | .ins _ _ _, ⟨_, _, _, e, _⟩ => ⟨_, e⟩
  | .own _, x => x
  | .xd _, ⟨_, ⟨u, _, _, e, _⟩, _⟩ => ⟨u, e⟩
  | .rng _ _, ⟨_, _, _, e⟩ => ⟨_, e⟩
  | .frz u _, ⟨e, _⟩ => ⟨u, e⟩
  | .tbl _, e => ⟨_, e⟩
  | .met _ _, e => ⟨_, e⟩
  | .ext _, ⟨_, x, _⟩ => x
section
variable {X : Cx} {pins : List (Addr × Obj)} {σ : L2.St} {H : Hp} {s : Shared}
theorem fr_all (I : Inv X pins σ H s) : ∃ m, Fr bare X.env.locals s.heap m := by
  obtain ⟨m, hn, _⟩ := I.loc
  exact ⟨m, hn, (fun b o e => by rw [bare_none] at e; cases e), Nat.zero_le _⟩
theorem inv_more (I : Inv X pins σ H s) {m : Str → Option Value} (F : Fr bare X.env.locals s.heap m) {h' : Heap} {D : Addr} {its : List Value} {c : Nat} {zs : List V} {t' : Nat} (F' : Fr bare X.env.locals h' m)
    (kept : News bare X.env.locals h' (allN s.heap X.env.locals)) (eD : h'.get? D = some { cls := .type "list", data := .seq its.toArray c }) (hD : ∀ q ∈ allN s.heap X.env.locals, q.1 < D) (hL : D ≠ X.env.locals) (rv : Vals zs its) (hz : zs.length ≤ sizeLine) :
    H D = none ∧ Inv X pins σ (upd H D (.lst zs)) { s with heap := h', toks := t' } := by
  have keep : ∀ b o, b ≠ X.env.locals → s.heap.get? b = some o → h'.get? b = some o := fun b o hb e => (kept _ (mem_allN e hb)).1
  have neD : ∀ b o, s.heap.get? b = some o → b ≠ D := fun b o e z => by
    by_cases hb : b = X.env.locals
    · exact hL (z ▸ hb)
    · exact absurd (hD _ (mem_allN e hb)) (by rw [z]; exact Nat.lt_irrefl _)
  have inH : ∀ b u, H b = some u → ∃ o, s.heap.get? b = some o := fun b u e => on_heap (I.hok b u e)
  have noD : H D = none := by
    cases e : H D with
    | none => rfl
    | some u =>
      obtain ⟨o, ho⟩ := inH D u e
      exact absurd rfl (neD D o ho)
  have neL : ∀ b u, H b = some u → b ≠ X.env.locals := fun b u e z => by rw [z, I.free] at e; cases e
  have old : ∀ b u, H b = some u → upd H D (.lst zs) b = some u := fun b u e => by
    obtain ⟨o, ho⟩ := inH b u e
    rw [upd_ne (neD b o ho)]
    exact e
  refine ⟨noD, I.step (g' := s.gens) (d' := s.drawn) (ch := []) (fun b hb => nomatch hb) (fun b o h1 _ _ e _ => keep b o h1 e) (fun b o h1 _ _ e _ => ⟨o.slots, keep b o h1 e⟩) (fun b o _ e n => ?_) (fun b o _ e => ?_) (fun b xs e => old b _ e) (fun b o u e => old b _ e) (fun b ps e => ⟨#[], by rw [old b _ e]; simp⟩) (fun m' hm' => ?_) (fun b u e => ?_) I.bare⟩
  · rw [upd_ne (neD b o e)]
    exact n
  · by_cases hb : b = X.env.locals
    · obtain ⟨o', _, _, ho', _⟩ := F'.ns
      rw [hb]
      exact ⟨o', ho'⟩
    · exact ⟨o, keep b o hb e⟩
  · have : m' = m := funext fun x => hm'.agree F.ns x
    rw [this]
    exact F'.ns
  · by_cases hb : b = D
    · subst hb
      rw [upd_same] at e
      cases e
      exact ⟨hz, its, c, rv, eD⟩
    · rw [upd_ne hb] at e
      refine (I.hok b u e).stay (fun x o hx q => keep x o ?_ q) (fun x q => old x _ q) fun x xs q => old x _ q
      rcases hx with rfl | hx
      · exact neL _ _ e
      · exact neL _ _ hx
end
end L12
namespace L12
open PySem PySem.Spec PySem.W PyProof.Rows L2
def Fine (n : Nat) {α : Type} (R : α → Prop) : KasT α → Prop
  | .ret a => R a
  | .ask i j k => i < n ∧ j < n ∧ ∀ b, Fine n R (k b)
theorem Fine.bind {n : Nat} {α β : Type} {R : α → Prop} {S : β → Prop} {f : α → KasT β} (hf : ∀ a, R a → Fine n S (f a)) : ∀ {t : KasT α}, Fine n R t → Fine n S (t.bind f)
  | .ret a, h => hf a h
  | .ask _ _ _, h => ⟨h.1, h.2.1, fun b => Fine.bind hf (h.2.2 b)⟩
theorem Fine.wp {n : Nat} {α : Type} {R : α → Prop} {cmp : Nat → Nat → (Bool → Shared → Prop) → Shared → Prop} {Q : α → Shared → Prop} {s : Shared} (hc : ∀ i j C, i < n → j < n → (∀ b, C b s) → cmp i j C s) (hq : ∀ a, R a → Q a s) : ∀ {t : KasT α}, Fine n R t → t.kasWp cmp Q s
  | .ret a, h => hq a h
  | .ask i j _, h => hc i j _ h.1 h.2.1 fun b => Fine.wp hc hq (h.2.2 b)
def PermR (n : Nat) (p : Array Nat) : Prop := p.Perm (List.toArray (List.range n))
theorem PermR.lt {n : Nat} {p : Array Nat} (h : PermR n p) (hn : 0 < n) (i : Nat) : p.getD i 0 < n := by
  by_cases hi : i < p.size
  · have e : p.getD i 0 = p[i] := by simp [Array.getD, hi]
    rw [e]
    have hm : p[i] ∈ p.toList := by simp
    have := (Array.perm_iff_toList_perm.mp h).mem_iff.mp hm
    simpa using this
  · have e : p.getD i 0 = 0 := by simp [Array.getD, hi]
    rw [e]
    exact hn
theorem PermR.rev {n : Nat} {p : Array Nat} (h : PermR n p) (i j : Nat) : PermR n (kas_rev p i j) := (mirror_perm p i j _).trans h
theorem fine_ite {n : Nat} {α : Type} {R : α → Prop} {a b : KasT α} {c : Prop} [Decidable c] (ha : Fine n R a) (hb : Fine n R b) : Fine n R (if c then a else b) := by
  split
  · exact ha
  · exact hb
section
variable {n : Nat} (hn : 0 < n)
include hn
theorem fine_asc {p : Array Nat} (hp : PermR n p) : ∀ f k, Fine n (fun _ => True) (kas_asc p f k)
  | 0, _ => trivial
  | f + 1, k => ⟨hp.lt hn _, hp.lt hn _, fun c => fine_ite trivial (fine_asc hp f (k + 1))⟩
theorem fine_desc : ∀ f {p : Array Nat} k q, PermR n p → Fine n (fun r : Array Nat × Nat × Nat => PermR n r.1) (kas_desc f p k q)
  | 0, _, _, _, hp => hp
  | f + 1, p, k, q, hp => ⟨hp.lt hn _, hp.lt hn _, fun c => fine_ite (fine_ite (fine_desc f _ _ (hp.rev _ _)) (fine_desc f _ _ hp)) ⟨hp.lt hn _, hp.lt hn _, fun d => fine_ite hp (fine_desc f _ _ hp)⟩⟩
theorem fine_tail3 {p : Array Nat} (hp : PermR n p) (a b : Nat) : Fine n (fun r : Nat × Array Nat => PermR n r.2) (kas_tail3 a b p) := by
  unfold kas_tail3
  refine Fine.bind (fun m _ => ?_) (fine_asc hn (hp.rev 0 a) _ _)
  have h0 : Fine n (fun r : Nat × Array Nat => PermR n r.2) (.ret (m, kas_rev p 0 a)) := hp.rev 0 a
  exact h0
theorem fine_descPart {p : Array Nat} (hp : PermR n p) (a b : Nat) : Fine n (fun r : Nat × Array Nat => PermR n r.2) (kas_descPart a b p) := by
  unfold kas_descPart
  exact Fine.bind (fun r hr => fine_ite (fine_tail3 hn (hr.rev _ _) _ _) (fine_tail3 hn hr _ _)) (fine_desc hn _ _ _ hp)
theorem fine_count {p : Array Nat} (hp : PermR n p) (b : Nat) : Fine n (fun r : Nat × Array Nat => PermR n r.2) (kas_count b p) := by
  unfold kas_count
  refine Fine.bind (fun k _ => ?_) (fine_asc hn hp _ _)
  have h0 : Fine n (fun r : Nat × Array Nat => PermR n r.2) (.ret (k, p)) := hp
  refine fine_ite h0 (fine_ite ?_ (fine_descPart hn hp _ _))
  exact ⟨hp.lt hn _, hp.lt hn _, fun c => fine_ite h0 (fine_descPart hn (hp.rev _ _) _ _)⟩
theorem fine_place {p : Array Nat} (hp : PermR n p) (k : Nat) : ∀ f l r, Fine n (fun _ => True) (kas_place p k f l r)
  | 0, _, _ => trivial
  | f + 1, l, r => fine_ite trivial ⟨hp.lt hn _, hp.lt hn _, fun c => fine_ite (fine_place hp k f _ _) (fine_place hp k f _ _)⟩
theorem fine_bin : ∀ f {p : Array Nat} k, PermR n p → Fine n (PermR n) (kas_bin f p k)
  | 0, _, _, hp => hp
  | f + 1, p, k, hp => Fine.bind (fun l _ => fine_bin f (k + 1) ((bubble_perm p k _).trans hp)) (fine_place hn hp k _ _ _)
theorem fine_sort : Fine n (PermR n) (kas_sort n) := by
  unfold kas_sort
  refine Fine.bind (fun r hr => ?_) (fine_count hn (Array.Perm.refl _) n)
  have h0 : Fine n (PermR n) (.ret r.2) := hr
  exact fine_ite (fine_bin hn _ _ hr) h0
end
def IsPair (h : Heap) (v : Value) : Prop := ∃ x o n i j t u, v = .ref x ∧ h.get? x = some o ∧ o.cls = .type "tuple" ∧ o.data = .seq #[.int i t, .int j u] n
section
variable {prog : Program} {w : World} {A : Around} {E : Value → Shared → Prop} {s : Shared}
theorem pairs_kat : ∀ {vs : List Value}, (∀ v ∈ vs, IsPair s.heap v) → ∃ fs, KatTups s.heap vs fs ∧ fs.length = vs.length ∧ ∀ f ∈ fs, ∃ i t, f = Value.int i t
  | [], _ => ⟨[], trivial, rfl, fun _ h => nomatch h⟩
  | v :: vs, h => by
    obtain ⟨fs, k, l, q⟩ := pairs_kat fun v hv => h v (List.mem_cons_of_mem _ hv)
    obtain ⟨x, o, n, i, j, t, t', rfl, ho, hc, hd⟩ := h v (List.mem_cons_self ..)
    refine ⟨.int i t :: fs, KatTups.cons ho hc hd rfl k, congrArg (· + 1) l, fun f hf => ?_⟩
    rcases List.mem_cons.mp hf with rfl | hf
    · exact ⟨i, t, rfl⟩
    · exact q f hf
theorem sort_few {a : Addr} {v : Option Value} {n : Nat} {P : PySem.Fin → Shared → Prop} (hq : s.heap.get? a = some { cls := .type "list", data := .seq v.toArray n })
    (q : ∀ h' c, (∀ b o, b ≠ a → s.heap.get? b = some o → h'.get? b = some o) → h'.get? a = some { cls := .type "list", data := .seq v.toArray c } → P (.done (.ret .none)) { s with heap := h' }) : wpAny (model prog w) A (Builtin.«list.sort» ⟨[.ref a], []⟩) P E s := by
  rw [list_sort_plain]
  have sz : v.toArray.size < 2 := by cases v <;> simp
  have line : 2 ≤ sizeLine := by decide
  wp_walk using wpAny_loadPart' hq
  rw [if_neg (show ¬ v.toArray.toList.toArray.size > sizeLine by rw [Array.toArray_toList]; omega)]
  have e1 : (s.heap.update a (Obj.mapSeq fun _ => (#[] : Array Value))).get? a = some { cls := .type "list", data := .seq #[] (if ((#[] : Array Value).size == v.toArray.size) = true then n else n + 1) } := Heap.get?_update_self _ hq rfl
  wp_walk
  rw [if_pos sz]
  refine wpAny_pure ?_
  have e2 := Heap.get?_push_of_some { cls := .type "list", data := .seq #[] } (Heap.get?_push_of_some { cls := .type "tuple", data := .seq v.toArray.toList.toArray } e1)
  wp_walk using wpAny_loadPart' e2
  have ez : Array.map (fun x => x.snd) (arrOf (SortSt.mk' general' (v.toArray.zip v.toArray) #[] 7 none)) = v.toArray := by
    show Array.map (fun x => x.snd) (v.toArray.zip v.toArray) = v.toArray
    cases v <;> simp
  rw [ez]
  have el : (Obj.mapSeq (fun _ => v.toArray) { cls := .type "list", data := Data.seq #[] (if ((#[] : Array Value).size == v.toArray.size) = true then n else n + 1) }).data.pastItsLine = none := by cases v <;> rfl
  rw [el]
  refine wpAny_pure ?_
  dsimp only
  rw [if_neg (by simp)]
  refine wpAny_pure (q _ _ (fun b o hb e => ?_) (Heap.get?_update_self _ e2 rfl))
  rw [Heap.get?_update_ne _ _ _ _ hb]
  refine Heap.get?_push_of_some _ (Heap.get?_push_of_some _ ?_)
  rw [Heap.get?_update_ne _ _ _ _ hb]
  exact e
theorem sorted_few {l : Addr} {v : Option Value} {Q : Value → Shared → Prop} (hl : s.heap.IsList l v.toArray)
    (q : ∀ h' D c, (∀ b o, s.heap.get? b = some o → h'.get? b = some o) → s.heap.objs.size ≤ D → h'.get? D = some { cls := .type "list", data := .seq v.toArray c } → Q (.ref D) { s with heap := h' }) : wpAny (model prog w) A (call (.builtin "sorted") [.ref l]) Q E s := by
  have hl' : s.heap.IsList l v.toArray.toList.toArray := by rw [Array.toArray_toList]; exact hl
  have few : v.toArray.toList.length ≤ 1 := by cases v <;> simp
  have line : 2 ≤ sizeLine := by decide
  refine Calls.call_function_entry kind_sorted plain_sorted entry_sorted (args_sorted1 _) ?_
  unfold Builtin.«sorted»
  refine wpAny_bind (m := checkCount "sorted" 1 1 _) (wpAny_pure (wpAny_bind (collect_list hl' ?_ (by omega))))
  generalize hg : (s.heap.push (seqObj "list" #[] 0)).update s.heap.objs.size (Obj.mapSeq (· ++ v.toArray.toList.toArray)) = g
  have gs : g.objs.size = s.heap.objs.size + 1 := by rw [← hg, Heap.size_update, size_push']
  have gk : ∀ b o, s.heap.get? b = some o → g.get? b = some o := fun b o e => by
    rw [← hg, Heap.get?_update_ne _ _ _ _ (Nat.ne_of_lt (Heap.lt_size e))]
    exact Heap.get?_push_of_some _ e
  refine wpAny_bind (wpAny_newList ?_ (by omega))
  have eD : (g.push { cls := .type "list", data := .seq v.toArray.toList.toArray }).get? g.objs.size = some { cls := .type "list", data := .seq v.toArray 0 } := by
    rw [Heap.get?_push_size _ rfl, Array.toArray_toList]
  refine wpAny_bind (wpAny_holding (wpAny_call_entry slot_list_sort ⟨_, eD, rfl⟩ entry_list_sort (sort_few (s := { s with heap := g.push { cls := .type "list", data := .seq v.toArray.toList.toArray } }) eD fun h' c k e => ⟨_, rfl, wpAny_pure ⟨_, rfl, ?_⟩⟩) (args_list_sort _)))
  refine q h' g.objs.size c (fun b o eb => ?_) (by omega) e
  have hb : b ≠ g.objs.size := Nat.ne_of_lt (Nat.lt_trans (Heap.lt_size eb) (by omega))
  exact k b o hb (Heap.get?_push_of_some _ (gk b o eb))
end
section
variable {X : Cx}
theorem few_opt : ∀ {its : List Value}, its.length < 2 → ∃ v : Option Value, its.toArray = v.toArray
  | [], _ => ⟨none, rfl⟩
  | [x], _ => ⟨some x, rfl⟩
  | _ :: _ :: l, h => absurd h (by rw [List.length_cons, List.length_cons]; omega)
end
end L12
namespace L12
open PySem PySem.Spec PySem.W PyProof.Rows L2 L3 L6
section
variable {X : Cx}
def rCount (K : PySem.W.Frag) : V → List V → Hp → VK → Prop := fun x vs H Q => ∃ (l : Addr) (ns : List Int) (k : Int), x = .ref l ∧ vs = [.int k] ∧ SqL K H l (ns.map V.int) ∧ Q (.int (ns.count k : Nat)) H
theorem mt_count : MtR X "list.count" (rCount X.K) := by
  intro pins s σ H x vs v us Q I rx rv h
  obtain ⟨l, ns, k, rfl, rfl, hq, q⟩ := h
  cases rx
  obtain ⟨u, rfl, t, rfl⟩ := vals1 rv
  obtain ⟨its, r, pl, hz⟩ := I.list hq
  exact count_list_ints pl.isList (vals_ints r) ⟨.int _, H, I.tok _, ⟨_, rfl⟩, q⟩
open Classical in
open Classical in
end
theorem hu0 {A : Around} {k : Nat} (hr : Room k A) : A.units < cLine := Nat.lt_of_succ_lt (hu_of hr)
theorem bt_sorted : bootBuiltins "sorted" = some (.builtin "sorted") := by decide +kernel
end L12
namespace L12
open PySem PySem.Spec PySem.W PyProof.Rows L2 L3
section
variable {prog : Program} {w : World} {A : Around} {E : Value → Shared → Prop} {s : Shared}
theorem no_len : typeLookup (.type "list_reverseiterator") "__len__" = pure none := by rw [typeLookup_type, builtinLookup_eq_fast]; kernel_rfl
theorem a_hint : typeLookup (.type "list_reverseiterator") "__length_hint__" = pure (some (.builtin "list_reverseiterator.__length_hint__")) := by rw [typeLookup_type, builtinLookup_eq_fast]; kernel_rfl
theorem sub_self : isSubtype (.type "list_reverseiterator") (.type "list_reverseiterator") = pure true := by rw [isSubtype_type]; kernel_rfl
theorem hint_owner : splitId "list_reverseiterator.__length_hint__" = some ("list_reverseiterator", "__length_hint__") := by decide +kernel
theorem hint_no {r : Addr} {Q : Bool → Shared → Prop} (hT : s.TypeIs (.ref r) "list_reverseiterator") (h : Q false s) : wpAny (model prog w) A (Builtin.List.listLengthHint (.ref r)) Q E s := by
  unfold Builtin.List.listLengthHint
  refine wpAny_bind (wpAny_specialOf hT no_len ?_)
  show wpAny _ _ (specialOf (.ref r) "__length_hint__" >>= _) _ _ s
  refine wpAny_bind (wpAny_specialOf hT a_hint ?_)
  simp only [hint_owner]
  refine wpAny_bind (wpAny_isInstance hT sub_self ?_)
  refine wpAny_ite_split (fun x => nomatch x) fun _ => wpAny_ite_split (fun _ => ?_) fun n => absurd (by decide +kernel) n
  exact wpAny_ite_split (fun x => absurd x (by decide)) fun _ => wpAny_pure h
theorem list_of_rev {l it : Addr} {vs : Array Value} {Q : Value → Shared → Prop} (hh : A.handled = none) (hit : s.heap.IsRevIter it l ((vs.size : Int) - 1)) (hl : s.heap.IsList l vs) (hn : vs.size ≤ sizeLine)
    (q : ∀ h' t c, (∀ b o, b ≠ it → s.heap.get? b = some o → h'.get? b = some o) → h'.get? s.heap.objs.size = some { cls := .type "list", data := .seq vs.reverse c } → Q (.ref s.heap.objs.size) { s with heap := h', toks := t }) : wpAny (model prog w) A (call (.type "list") [.ref it]) Q E s := by
  have hT : s.TypeIs (.ref it) "list_reverseiterator" := hit.typeIs
  obtain ⟨oi, ei, ci, di⟩ := id hit
  obtain ⟨ol, el, cl, nl, dl⟩ := id hl
  have hil : l ≠ it := fun z => by
    rw [z, ei] at el
    rw [← Option.some.inj el, ci] at cl
    exact absurd cl (by decide)
  refine callType_codes (Q₁ := fun x s₁ => x = .ref s.heap.objs.size ∧ s₁.heap = s.heap.push { cls := .type "list", data := .seq #[] } ∧ s₁ = { s with heap := s₁.heap }) PySem.F.called_list (PySem.F.typeCall_list_1 _) PySem.F.entry_list_init (code_list_new _ ⟨rfl, rfl, rfl⟩) ?_
  rintro x s₁ ⟨rfl, hp, es⟩
  have e0 : s₁.heap.get? s.heap.objs.size = some { cls := .type "list", data := .seq #[] } := by rw [hp]; exact Heap.get?_push_size _ rfl
  have k0 : ∀ b o, s.heap.get? b = some o → s₁.heap.get? b = some o := fun b o e => by rw [hp]; exact Heap.get?_push_of_some _ e
  have ne : ∀ b o, s.heap.get? b = some o → s.heap.objs.size ≠ b := fun b o e => Nat.ne_of_gt (Heap.lt_size e)
  refine ⟨⟨_, e0, rfl⟩, PySem.F.args_list_init_2 _ _, ?_⟩
  have nm : Builtin.List.listSameRef (.ref s.heap.objs.size) (.ref it) = false := by
    have := ne _ _ ei
    simp [Builtin.List.listSameRef, this]
  unfold Builtin.«list.__init__» Builtin.List.listExtendWith Builtin.List.listItems Builtin.List.listUpdate
  wp_walk using wpAny_seqItems e0 rfl
  have e1 : (s₁.heap.update s.heap.objs.size (Obj.mapSeq fun _ => (#[] : Array Value))).get? s.heap.objs.size = some { cls := .type "list", data := .seq #[] 0 } := Heap.get?_update_self _ e0 rfl
  have k1 : ∀ b o, s.heap.get? b = some o → (s₁.heap.update s.heap.objs.size (Obj.mapSeq fun _ => (#[] : Array Value))).get? b = some o := fun b o e => by
    rw [Heap.get?_update_ne _ _ _ _ (ne b o e).symm]
    exact k0 b o e
  revert e1 k1
  generalize s₁.heap.update s.heap.objs.size (Obj.mapSeq fun _ => (#[] : Array Value)) = g
  intro e1 k1
  refine wpAny_loadPart' (k1 _ _ ei) (wpAny_pure ?_)
  rw [ci, nm, if_neg (by decide)]
  have hi1 : g.IsRevIter it l ((vs.size : Int) - 1 - (0 : Nat)) := ⟨oi, k1 _ _ ei, ci, by rw [di]; simp⟩
  have W := Walks.listRev (prog := prog) (w := w) (A := A.in1.in1) hh it l hil vs
  refine wpAny_bind (wpAny_pyIter_revIter hi1 (wpAny_bind (wpAny_holding (hint_no ⟨oi, k1 _ _ ei, ci⟩ ?_))))
  refine wpAny_ite_split (fun z => absurd z (by decide +kernel)) fun _ => wpAny_pure ⟨plainId_quiet PySem.F.plain_extend_loop _, ?_⟩
  refine codeAny_extend_loopS W.toS hn s.heap.objs.size ?_ .none _ 0 _ #[] 0 rfl (Nat.zero_le _) ⟨Nat.zero_le _, hi1, ⟨ol, k1 _ _ el, cl, nl, dl⟩⟩ e1 (ItemsOf.nil _) fun s' acc c mv eD ia => ⟨rfl, ?_⟩
  · intro z
    rcases List.mem_cons.mp z with z | z
    · exact ne _ _ ei z
    · exact ne _ _ el (List.mem_singleton.mp z)
  · have ea : acc = vs.reverse := by
      apply Array.ext
      · rw [ia.1, Array.size_reverse]
      · intro k h1 h2
        have : vs[vs.size - 1 - k]? = some acc[k] := ia.2 k acc[k] (Array.getElem?_eq_getElem h1)
        rw [Array.getElem?_eq_getElem (by rw [ia.1] at h1; omega)] at this
        rw [Array.getElem_reverse]
        exact (Option.some.inj this).symm
    have es' : s' = { s with heap := s'.heap, toks := s'.toks } := by
      have g1 := mv.gens
      have g2 := mv.drawn
      have g3 := mv.os
      rw [es] at g1 g2 g3
      cases s'
      simp only at g1 g2 g3
      subst g1 g2 g3
      rfl
    rw [es']
    rw [ea] at eD
    refine q _ _ c (fun b o hb e => mv.heap b o (fun z => ?_) (k1 b o e)) eD
    rcases List.mem_cons.mp z with z | z
    · exact ne b o e z.symm
    · exact hb (List.mem_singleton.mp z)
end
theorem vals_rev : ∀ {xs : List V} {us : List Value}, Vals xs us → Vals xs.reverse us.reverse
  | _, _, .nil => .nil
  | _ :: _, _ :: _, .cons r t => by
    rw [List.reverse_cons, List.reverse_cons]
    exact (vals_rev t).append (.cons r .nil)
section
variable {X : Cx}
def tListRev (K : PySem.W.Frag) (te : TE) : TE := fun σ H Q => te σ H fun x H1 => ∃ p ys, x = .ref p ∧ SqL K H1 p ys ∧ ∀ l, H1 l = none → Q (.ref l) (upd H1 l (.lst ys.reverse))
theorem bt_reversed : bootBuiltins "reversed" = some (.type "reversed") := by decide +kernel
theorem pe_listRev {sc : Scope} {e : Expr} {te : TE} {p1 p2 p3 p4 : Pos} (hc : X.calm = true) (h1 : X.env.scope = sc) (hg : glB sc "list" = true) (hg2 : glB sc "reversed" = true) (hm : X.mg "list" = none) (hm2 : X.mg "reversed" = none) (he : PE X e te)
    (hs : starEach [e] X.env = [(false, eval e X.env)] := by rfl)
    (hs2 : starEach [.Call (.Name "reversed" p2) [e] [] p3] X.env = [(false, eval (.Call (.Name "reversed" p2) [e] [] p3) X.env)] := by rfl) :
    PE X (.Call (.Name "list" p1) [.Call (.Name "reversed" p2) [e] [] p3] [] p4) (tListRev X.K te) := by
  intro pins s σ H Q I h
  refine wpAny_Call_Name_kw (ld_blt I (glN h1 hg).1 hm bt_list ?_ (glN h1 hg).2.2 (glN h1 hg).2.1)
  refine PyProof.Rows.callWith_type1 ?_ hs2
  rw [hs2]
  refine Calls.spliced_cons ?_
  refine wpAny_Call_Name_kw (ld_blt I (glN h1 hg2).1 hm2 bt_reversed ?_ (glN h1 hg2).2.2 (glN h1 hg2).2.1)
  refine PyProof.Rows.callWith_type1 ?_ hs
  rw [hs]
  refine Calls.spliced_cons (thn (he pins s σ H _ I h) fun u s1 ⟨x, H1, I1, r1, q1⟩ => Calls.spliced_nil ?_)
  obtain ⟨p, ys, rfl, hq, q⟩ := q1
  cases r1
  obtain ⟨its, r, pl, hz⟩ := I1.list hq
  have hlen := r.length
  refine call_reversed_list pl.isList (Calls.spliced_nil ?_)
  refine list_of_rev (I1.ok.hd hc) (l := p) (vs := its.toArray) ⟨_, Heap.get?_push_size _ rfl, rfl, rfl⟩ (pl.isList.push _) (by rw [List.size_toArray]; omega) fun h' t c k e => ?_
  have up : s1.heap.objs.size ≤ (s1.heap.push (revObj p ((its.toArray.size : Int) - 1))).objs.size := by
    rw [Heap.size_push]
    exact Nat.le_succ _
  revert e
  generalize (s1.heap.push (revObj p ((its.toArray.size : Int) - 1))).objs.size = D at up ⊢
  intro e
  rw [List.reverse_toArray] at e
  exact ⟨.ref D, _, I1.laid (a := D) (t' := t) (o := .lst ys.reverse) (fun b o eb => k b o (Nat.ne_of_lt (Heap.lt_size eb)) (Heap.get?_push_of_some _ eb)) up ⟨by rw [List.length_reverse]; exact hz, its.reverse, c, vals_rev r, e⟩, rfl, q D (I1.hok.fresh up)⟩
end
end L12
namespace L5
open PySem PySem.Spec PyProof.Rows L2 L3 L4
theorem bt_zipL : bootBuiltins "zip" = some (.type "zip") := by decide +kernel
def Ity (K : PySem.W.Frag) (a b : Addr) : It :=
  ⟨fun i H => ∃ xs ys x y, SqL K H a xs ∧ SqL K H b ys ∧ xs[i]? = some x ∧ ys[i]? = some y,
   fun i H v H' => ∃ T x y, v = .ref T ∧ H T = none ∧ H' = upd H T (.tup [x, y]) ∧ (∀ xs, SqL K H a xs → xs[i]? = some x) ∧ ∀ ys, SqL K H b ys → ys[i]? = some y,
   fun i H => ∃ xs ys, SqL K H a xs ∧ SqL K H b ys ∧ (xs.length ≤ i ∨ ys.length ≤ i)⟩
theorem turn_zipL {P : Program} {w : World} {K : PySem.W.Frag} {elts : List Expr} {kt : Nat} {pt : Pos} (a b z TI TO i1 i2 : Addr) (D : ZipApart z TI TO i1 i2 a b) :
    Turn P w K (.Tuple elts kt pt) (Ity K a b) [z, TI, TO, i1, i2] z (fun i h => IsZip h z TI TO .none ∧ IsPair h TI (.ref i1) (.ref i2) ∧ (∃ c d, IsPair h TO c d) ∧ h.IsListIter i1 a i ∧ h.IsListIter i2 b i) where
  mem := by simp
  obj := fun i h ⟨hz, hTI, ⟨c, d, hTO⟩, h1, h2⟩ x hx => by
    obtain ⟨o1, e1, _, d1⟩ := h1
    obtain ⟨o2, e2, _, d2⟩ := h2
    simp only [List.mem_cons, List.not_mem_nil, or_false] at hx
    rcases hx with rfl | rfl | rfl | rfl | rfl
    · exact ⟨_, hz, fun v q => by cases (show Data.fields _ = Data.cell v from q)⟩
    · exact ⟨_, hTI, fun v q => by cases (show Data.seq _ _ = Data.cell v from q)⟩
    · exact ⟨_, hTO, fun v q => by cases (show Data.seq _ _ = Data.cell v from q)⟩
    · exact ⟨o1, e1, fun v q => by rw [d1] at q; cases q⟩
    · exact ⟨o2, e2, fun v q => by rw [d2] at q; cases q⟩
  keep := fun i h h' ⟨hz, hTI, ⟨c, d, hTO⟩, ⟨o1, e1, r1⟩, ⟨o2, e2, r2⟩⟩ k => ⟨k z (by simp) _ hz, k TI (by simp) _ hTI, ⟨c, d, k TO (by simp) _ hTO⟩, ⟨o1, k i1 (by simp) _ e1, r1⟩, ⟨o2, k i2 (by simp) _ e2, r2⟩⟩
  item := by
    intro X hP hw hK hc i pins s σ H E I hf st hg
    subst hP hw hK
    obtain ⟨hz, hTI, ⟨c, d, hTO⟩, h1, h2⟩ := st
    obtain ⟨xs, ys, x, y, hq1, hq2, hx, hy⟩ := hg
    obtain ⟨its1, rv1, p1, _⟩ := I.list hq1
    obtain ⟨its2, rv2, p2, _⟩ := I.list hq2
    obtain ⟨u, hu, ru⟩ := rv1.get hx
    obtain ⟨v, hv, rv⟩ := rv2.get hy
    have lt1 : z < s.heap.objs.size := Heap.lt_size hz
    have lt2 : TI < s.heap.objs.size := Heap.lt_size hTI
    have lt3 : TO < s.heap.objs.size := Heap.lt_size hTO
    have lt4 : i1 < s.heap.objs.size := by obtain ⟨o, e, _⟩ := id h1; exact Heap.lt_size e
    have lt5 : i2 < s.heap.objs.size := by obtain ⟨o, e, _⟩ := id h2; exact Heap.lt_size e
    refine wpAny_pyNext_zip_item D hz hTI hTO h1 h2 p1.isList p2.isList (x := u) (y := v) (by simpa using hu) (by simpa using hv) fun h' a1 a2 a3 a4 a5 _ kk => ⟨_, rfl, ?_⟩
    refine wpAny_letOwnedTupleGo_zip a1 fun g2 z2 b2 => ?_
    replace b2 : Heap.SameBut z h' g2 := b2
    obtain ⟨g1, eg1⟩ : ∃ g1, g1 = s.heap.push { cls := .type "tuple", data := .seq #[u, v] } := ⟨_, rfl⟩
    have e1 : g1.get? s.heap.objs.size = some { cls := .type "tuple", data := .seq #[u, v] } := by rw [eg1]; exact Heap.get?_push_size _ rfl
    have I1 : Inv X pins σ (upd H s.heap.objs.size (.tup [x, y])) { s with heap := g1, toks := s.toks } :=
      I.laid (fun b o q => by rw [eg1]; exact Heap.get?_push_of_some _ q) (Nat.le_refl _) ⟨by show 2 ≤ sizeLine; decide, [u, v], .cons ru (.cons rv .nil), ⟨_, e1, rfl, _, rfl⟩⟩
    have lt : ∀ b ∈ [z, TI, TO, i1, i2], b < s.heap.objs.size := fun b hb => by
      simp only [List.mem_cons, List.not_mem_nil, or_false] at hb
      rcases hb with rfl | rfl | rfl | rfl | rfl <;> assumption
    have ff : ∀ b ∈ [z, TI, TO, i1, i2], FpOk X pins (upd H s.heap.objs.size (.tup [x, y])) b := fun b hb => by
      obtain ⟨q0, q1⟩ := hf b hb
      refine ⟨?_, q1⟩
      rw [upd_ne (Nat.ne_of_lt (lt b hb))]
      exact q0
    have I2 := I1.turnedL (t' := s.toks) (h' := g2) (its := [z, TI, TO, i1, i2]) (fun b o hb q => ?_) ff
    · refine ⟨.ref s.heap.objs.size, _, I2, rfl, ⟨_, x, y, rfl, I.fresh, rfl, (fun zs hzs => by rw [I.list_inj hzs hq1]; exact hx), fun zs hzs => by rw [I.list_inj hzs hq2]; exact hy⟩, ⟨z2, b2.extBut _ _ D.TIz (kk _ _ D.TIz D.TITO D.TIi1 D.TIi2 hTI), ⟨u, v, b2.extBut _ _ D.TOz a2⟩, a3.at fun o e => b2.extBut _ _ D.i1z e, a4.at fun o e => b2.extBut _ _ D.i2z e⟩, fun b hb => (ff b hb).1⟩
    · have n1 : b ≠ z := fun q => hb (by simp [q])
      have n2 : b ≠ TO := fun q => hb (by simp [q])
      have n3 : b ≠ i1 := fun q => hb (by simp [q])
      have n4 : b ≠ i2 := fun q => hb (by simp [q])
      by_cases hT : b = s.heap.objs.size
      · subst hT
        rw [show g1.get? s.heap.objs.size = some o from q] at e1
        rw [Option.some.inj e1]
        exact b2.extBut _ _ n1 a5
      · refine b2.extBut _ _ n1 (kk b o n1 n2 n3 n4 ?_)
        have q' : (s.heap.push { cls := .type "tuple", data := .seq #[u, v] }).get? b = some o := by rw [← eg1]; exact q
        rw [Heap.get?_push_ne _ _ _ hT] at q'
        exact q'
  done := by
    intro X hP hw hK hc i pins s σ H E I hf st hg
    subst hP hw hK
    obtain ⟨hz, hTI, ⟨c, d, hTO⟩, h1, h2⟩ := st
    obtain ⟨xs, ys, hq1, hq2, hlen⟩ := hg
    obtain ⟨its1, rv1, p1, _⟩ := I.list hq1
    obtain ⟨its2, rv2, p2, _⟩ := I.list hq2
    have l1 := rv1.length
    have l2 := rv2.length
    refine wpAny_pyNext_zip_end (I.ok.hd hc) D hz hTI hTO h1 h2 p1.isList p2.isList (hlen.imp (fun h => by simp; omega) fun h => by simp; omega) fun h' kk => ⟨rfl, ?_⟩
    exact I.turnedL (t' := s.toks) (its := [z, TI, TO, i1, i2]) (fun b o hb e => kk b o (fun q => hb (by simp [q])) (fun q => hb (by simp [q])) (fun q => hb (by simp [q])) (fun q => hb (by simp [q])) e) hf
  self := fun A i s Q E ⟨hz, _⟩ h => wpAny_pyIter_zip hz h
theorem zip_apartL {n a b : Nat} (la : a < n) (lb : b < n) : ZipApart (n + 4) (n + 2) (n + 3) n (n + 1) a b :=
  ⟨(show (n + 2) ≠ (n + 4) by omega), (show (n + 3) ≠ (n + 4) by omega), (show n ≠ (n + 4) by omega), (show (n + 1) ≠ (n + 4) by omega), (show (n + 2) ≠ (n + 3) by omega), (show (n + 2) ≠ n by omega), (show (n + 2) ≠ (n + 1) by omega), (show (n + 3) ≠ n by omega), (show (n + 3) ≠ (n + 1) by omega), (show n ≠ (n + 1) by omega), (show a ≠ (n + 4) by omega), (show a ≠ (n + 3) by omega), (show a ≠ n by omega), (show a ≠ (n + 1) by omega), (show b ≠ (n + 4) by omega), (show b ≠ (n + 3) by omega), (show b ≠ n by omega), (show b ≠ (n + 1) by omega)⟩
section
variable {X : Cx} {e1 e2 : Expr} {p pos : Pos} {elts : List Expr} {kt : Nat} {pt : Pos}
def iZipL (K : PySem.W.Frag) (ta : TA) : TI := fun σ H R => ta σ H fun vs H1 => ∃ a b, vs = [.ref a, .ref b] ∧ (∃ xs, SqL K H1 a xs) ∧ (∃ ys, SqL K H1 b ys) ∧ R (Ity K a b) H1
theorem pi_zipL {ta : TA} (h1 : Gl X "zip") (hm : X.mg "zip" = none) (ha : PA X [e1, e2] ta) (hs : starEach [e1, e2] X.env = (false, eval e1 X.env) :: starEach [e2] X.env := by rfl) (hpl : (backTo pos (starEach [e2] X.env)).any (·.1) = false := by rfl) :
    PI X (.Tuple elts kt pt) (.Call (.Name "zip" p) [e1, e2] [] pos) (iZipL X.K ta) := by
  intro pins s σ H R I h
  refine wpAny_Call_Name_kw (ld_blt I h1 hm bt_zipL (PyProof.Rows.callWith_type1 (thn (ha pos pins s σ H _ I h) fun us s1 ⟨vs, H1, I1, r1, a, b, ex, ⟨xs, hq1⟩, ⟨ys, hq2⟩, q1⟩ => ?_) hs hpl))
  subst ex
  obtain ⟨u, u', rfl, ru, ru'⟩ := vals2 r1
  cases ru
  cases ru'
  obtain ⟨its1, rv1, p1, _⟩ := I1.list hq1
  obtain ⟨its2, rv2, p2, _⟩ := I1.list hq2
  have la : a < s1.heap.objs.size := by obtain ⟨o, n, e, _⟩ := p1; exact Heap.lt_size e
  have lb : b < s1.heap.objs.size := by obtain ⟨o, n, e, _⟩ := p2; exact Heap.lt_size e
  refine call_zip_2 p1.isList p2.isList fun h' az aTI aTO j1 j2 _ kk => ?_
  have D := zip_apartL (n := s1.heap.objs.size) la lb
  refine wpAny_pyIter_zip az ⟨_, [s1.heap.objs.size + 4, s1.heap.objs.size + 2, s1.heap.objs.size + 3, s1.heap.objs.size, s1.heap.objs.size + 1], _, _, H1, rfl, I1.kept (t' := s1.toks) kk, turn_zipL a b _ _ _ _ _ D, ⟨az, aTI, ⟨_, _, aTO⟩, j1, j2⟩, fun c hc => ?_, q1⟩
  have hc' : s1.heap.objs.size ≤ c := by
    simp only [List.mem_cons, List.not_mem_nil, or_false] at hc
    rcases hc with rfl | rfl | rfl | rfl | rfl
    · exact Nat.le_add_right _ _
    · exact Nat.le_add_right _ _
    · exact Nat.le_add_right _ _
    · exact Nat.le_refl _
    · exact Nat.le_add_right _ _
  exact I1.fpOk hc' (I1.hok.fresh hc')
end
def zipF (f : Nat → V → V → Option V) (xs ys : List V) (n : Nat) : List V := (List.range n).filterMap fun j => (xs[j]?).bind fun x => (ys[j]?).bind (f j x)
theorem zipF_succ {f : Nat → V → V → Option V} {xs ys : List V} {i : Nat} {x y : V} (h : xs[i]? = some x) (h' : ys[i]? = some y) : zipF f xs ys (i + 1) = zipF f xs ys i ++ (f i x y).toList := by
  unfold zipF
  rw [List.range_succ, List.filterMap_append, List.filterMap_cons, h]
  cases e : f i x y with
  | none => simp [e, h']
  | some z => simp [e, h']
theorem comp_zip {K : PySem.W.Frag} {a b : Addr} {xs ys : List V} {D : Addr} {g : TG} {tc : TT} {te : TE} {Q : Hp → Prop} {σ : L2.St} {H : Hp} (hD : H D = none) (hl : ∀ H', Same H H' → SqL K H' a xs ∧ SqL K H' b ys) (S : L2.St → Prop) (f : Nat → V → V → Option V) (h0 : S σ) (hlen : ys.length ≤ xs.length) (hz : ys.length < sizeLine)
    (step : ∀ (i : Nat) (x y : V) (σ : L2.St) (H' : Hp) (T : Addr) (R1 : L2.St → V → Hp → Prop) (R0 : L2.St → Hp → Prop), xs[i]? = some x → ys[i]? = some y → S σ → Same H H' → H' T = none → (∀ σ2 z H4, S σ2 → f i x y = some z → Same H' H4 → R1 σ2 z H4) → (∀ σ2 H3, S σ2 → f i x y = none → Same H' H3 → R0 σ2 H3) →
      g (.ref T) σ (upd H' T (.tup [x, y])) fun σ2 H2 => tc σ2 H2 fun b H3 => if b = true then te σ2 H3 fun z H4 => R1 σ2 z H4 else R0 σ2 H3)
    (hq : ∀ H', Same H H' → H' D = some (.lst (zipF f xs ys ys.length)) → Q H') : ∃ W : Nat → Nat → List V → L2.St → Hp → Prop, (∃ m, W 0 m [] σ (upd H D (.lst []))) ∧ CompW D (Ity K a b) g tc te Q W := by
  have up : ∀ {H' : Hp} {o : HO}, Same H H' → Same H (upd H' D o) := fun {H' o} s b ob e => by
    rw [upd_ne (ne_of_none e hD)]
    exact s b ob e
  refine ⟨fun i m zs σ H' => m = ys.length - i ∧ i ≤ ys.length ∧ Same H H' ∧ H' D = some (.lst zs) ∧ zs = zipF f xs ys i ∧ S σ, ⟨ys.length, by simp, Nat.zero_le _, up (Same.refl H), upd_same, by unfold zipF; simp, h0⟩, ?_⟩
  rintro i m zs σ H' ⟨rfl, hi, s, e, e2, hS⟩
  have hlen' : zs.length ≤ i := by
    rw [e2]
    unfold zipF
    exact Nat.le_trans (List.length_filterMap_le _ _) (by rw [List.length_range]; exact Nat.le_refl _)
  refine ⟨e, by omega, ?_⟩
  obtain ⟨q1, q2⟩ := hl H' s
  by_cases hlt : i < ys.length
  · refine .inr ⟨⟨xs, ys, xs[i]'(by omega), ys[i], q1, q2, List.getElem?_eq_getElem (by omega), List.getElem?_eq_getElem hlt⟩, fun y σ2 H4 => H4 D = some (.lst zs) ∧ Same H (upd H4 D (.lst (zs ++ [y]))) ∧ zs ++ [y] = zipF f xs ys (i + 1) ∧ S σ2, fun σ2 H3 => Same H H3 ∧ H3 D = some (.lst zs) ∧ zs = zipF f xs ys (i + 1) ∧ S σ2,
      fun y σ2 H4 q => ⟨q.1, ys.length - (i + 1), by omega, rfl, hlt, q.2.1, upd_same, q.2.2.1, q.2.2.2⟩, fun σ2 H3 q => ⟨ys.length - (i + 1), by omega, rfl, hlt, q⟩, fun v H1 ⟨T, x, y, e1, e3, e4, e5, e6⟩ => ?_⟩
    subst e1 e4
    have hx := e5 xs q1
    have hy := e6 ys q2
    refine step i x y σ H' T (fun σ2 z H4 => _) (fun σ2 H3 => _) hx hy hS s e3 (fun σ2 z H4 h2 hf s4 => ⟨s4 _ _ e, up (s.trans s4), ?_, h2⟩) fun σ2 H3 h2 hf s3 => ⟨s.trans s3, s3 _ _ e, ?_, h2⟩
    · rw [zipF_succ hx hy, hf, e2]
      rfl
    · rw [zipF_succ hx hy, hf, e2]
      exact (List.append_nil _).symm
  · obtain rfl : i = ys.length := by omega
    refine .inl ⟨⟨xs, ys, q1, q2, .inr (Nat.le_refl _)⟩, hq H' s ?_⟩
    rw [e, e2]
end L5
namespace CP
open PySem L2 L3 L4
abbrev Pr := Int × Int
def pairD (p : Pr) : PyData := .tuple [.int p.1, .int p.2]
theorem pair_tup {K : PySem.W.Frag} {D : Hp} {x : V} {p : Pr} (h : DataAt K D x (pairD p)) : ∃ t, x = .ref t ∧ D t = some (.tup [.int p.1, .int p.2]) := by
  obtain ⟨t, zs, rfl, e, hA⟩ := DataAt.tup h
  obtain ⟨y1, r1, rfl, h1, hA⟩ := DataAll.uncons hA
  obtain ⟨y2, r2, rfl, h2, hA⟩ := DataAll.uncons hA
  rw [DataAt.int h1, DataAt.int h2, DataAll.none hA] at e
  exact ⟨t, rfl, e⟩
theorem pair_at {K : PySem.W.Frag} {D : Hp} {t : Addr} {p : Pr} (e : D t = some (.tup [.int p.1, .int p.2])) : DataAt K D (.ref t) (pairD p) :=
  DataAt.mkT (DataAll.cons DataAt.ofInt (DataAll.cons DataAt.ofInt DataAll.nil)) e (Same.refl _)
theorem pairs_at {K : PySem.W.Frag} {D : Hp} {xs : List V} {ps : List Pr} (h : DataAll K D xs (ps.map pairD)) {i : Nat} {x : V} (hx : xs[i]? = some x) : ∃ p t, ps[i]? = some p ∧ x = .ref t ∧ D t = some (.tup [.int p.1, .int p.2]) := by
  obtain ⟨d, hd, hdy⟩ := DataAll.back h hx
  rw [List.getElem?_map] at hd
  obtain ⟨p, hp, rfl⟩ := Option.map_eq_some_iff.mp hd
  obtain ⟨t, rfl, e⟩ := pair_tup hdy
  exact ⟨p, t, hp, rfl, e⟩
def lexP (a b : Pr) : Bool := HT.lexLt [a.1, a.2] [b.1, b.2]
def at' (ps : List Pr) (i : Nat) : Pr := ps.getD i (0, 0)
theorem at_of {ps : List Pr} {i : Nat} {p : Pr} (h : ps[i]? = some p) : at' ps i = p := by
  unfold at'
  rw [List.getD_eq_getElem?_getD, h]
  rfl
def risingB (ps : List Pr) : Bool := ((List.range (ps.length - 1)).map fun i => lexP (at' ps i) (at' ps (i + 1))).all id
theorem rising_iff {ps : List Pr} : risingB ps = true ↔ ∀ i, i + 1 < ps.length → lexP (at' ps i) (at' ps (i + 1)) = true := by
  unfold risingB
  rw [List.all_map, List.all_eq_true]
  constructor
  · intro h i hi
    exact h i (List.mem_range.mpr (by omega))
  · intro h i hi
    exact h i (by have := List.mem_range.mp hi; omega)
def pairB (os ms : List Nat) (w p : Int) : Bool := decide (0 ≤ w) && decide (w < os.length) && (decide (0 ≤ p) && decide (p < ms.length)) && (ms.getD p.toNat 0).testBit w.toNat
def aboveB (ns : List Int) (bs : List Nat) : Bool := ((List.range bs.length).map fun i => decide (ns.count ((i : Nat) : Int) ≤ bs.getD i 0)).all id
theorem above_iff {ns : List Int} {bs : List Nat} : aboveB ns bs = true ↔ ∀ i, i < bs.length → ns.count ((i : Nat) : Int) ≤ bs.getD i 0 := by
  unfold aboveB
  rw [List.all_map, List.all_eq_true]
  constructor
  · intro h i hi
    exact of_decide_eq_true (h i (List.mem_range.mpr hi))
  · intro h i hi
    exact decide_eq_true (h i (List.mem_range.mp hi))
def fitsB (ps : List Pr) (os ms : List Nat) : Bool := (ps.map fun q => pairB os ms q.1 q.2).all id
theorem fits_iff {ps : List Pr} {os ms : List Nat} : fitsB ps os ms = true ↔ ∀ q ∈ ps, pairB os ms q.1 q.2 = true := by
  unfold fitsB
  rw [List.all_map, List.all_eq_true]
  exact Iff.rfl
def dealB (ps : List Pr) (ws os ms : List Nat) : Bool := risingB ps && (fitsB ps os ms && (aboveB (ps.map Prod.fst) os && aboveB (ps.map Prod.snd) ws))
theorem nodup_len : ∀ (n : Nat) (l : List Nat), l.Nodup → (∀ x ∈ l, x < n) → l.length ≤ n
  | 0, l, _, h => by
    cases l with
    | nil => exact Nat.le_refl 0
    | cons a r => exact absurd (h a (List.mem_cons_self ..)) (Nat.not_lt_zero _)
  | n + 1, l, hn, h => by
    by_cases hm : n ∈ l
    · have h1 := List.length_erase_of_mem hm
      have h2 := nodup_len n (l.erase n) (hn.erase n) fun x hx => by
        have := (hn.mem_erase_iff).mp hx
        have := h x this.2
        omega
      omega
    · have := nodup_len n l hn fun x hx => by
        have h1 := h x hx
        have : x ≠ n := fun e => hm (e ▸ hx)
        omega
      omega
def cnt (tk : List (Nat × Nat)) (p : Nat) : Nat := tk.countP fun q => q.2 == p
theorem len_cnt (tk : List (Nat × Nat)) (h : ∀ q ∈ tk, q.2 < 6) : tk.length ≤ cnt tk 0 + cnt tk 1 + cnt tk 2 + cnt tk 3 + cnt tk 4 + cnt tk 5 := by
  unfold cnt
  induction tk with
  | nil => exact Nat.zero_le _
  | cons q r ih =>
    have h1 := ih fun q hq => h q (List.mem_cons_of_mem _ hq)
    have h2 := h q (List.mem_cons_self ..)
    rw [List.length_cons]
    simp only [List.countP_cons]
    have hc : q.2 = 0 ∨ q.2 = 1 ∨ q.2 = 2 ∨ q.2 = 3 ∨ q.2 = 4 ∨ q.2 = 5 := by omega
    rcases hc with e | e | e | e | e | e <;> rw [e] <;> simp <;> omega
theorem cnt_zero {tk : List (Nat × Nat)} {n : Nat} (hn : tk.Nodup) (h : ∀ q ∈ tk, q.1 < n) (p : Nat) : cnt tk p ≤ n := by
  unfold cnt
  rw [List.countP_eq_length_filter, ← List.length_map (f := Prod.fst)]
  refine nodup_len n _ ?_ fun x hx => ?_
  · have : ∀ l : List (Nat × Nat), l.Nodup → (∀ q ∈ l, q.2 = p) → (l.map Prod.fst).Nodup := by
      intro l
      induction l with
      | nil => exact fun _ _ => List.nodup_nil
      | cons a r ih =>
        intro hn hp
        have ⟨h1, h2⟩ := List.nodup_cons.mp hn
        refine List.nodup_cons.mpr ⟨fun z => ?_, ih h2 fun q hq => hp q (List.mem_cons_of_mem _ hq)⟩
        obtain ⟨b, hb, e⟩ := List.mem_map.mp z
        have e2 : b = a := Prod.ext e ((hp b (List.mem_cons_of_mem _ hb)).trans (hp a (List.mem_cons_self ..)).symm)
        exact h1 (e2 ▸ hb)
    refine this _ (hn.filter _) fun q hq => ?_
    exact beq_iff_eq.mp (List.mem_filter.mp hq).2
  · obtain ⟨q, hq, rfl⟩ := List.mem_map.mp hx
    exact h q (List.mem_filter.mp hq).1
end CP
namespace CP
open PySem L2 L3 L4
def natP (q : Nat × Nat) : Pr := ((q.1 : Nat), (q.2 : Nat))
theorem natP_inj {a b : Nat × Nat} (h : natP a = natP b) : a = b := by
  have h1 : ((a.1 : Nat) : Int) = b.1 := congrArg Prod.fst h
  have h2 : ((a.2 : Nat) : Int) = b.2 := congrArg Prod.snd h
  exact Prod.ext (by omega) (by omega)
structure Taken (ws os : List Nat) (tk : List (Nat × Nat)) (wc pc : List Nat) : Prop where
  nd : tk.Nodup
  lt : ∀ q ∈ tk, q.1 < os.length ∧ q.2 < ws.length
  lw : wc.length = os.length
  lp : pc.length = ws.length
  cp : ∀ p, p < ws.length → pc.getD p 0 = cnt tk p
  le : ∀ p, p < ws.length → cnt tk p ≤ ws.getD p 0
theorem Taken.zero (ws os : List Nat) : Taken ws os [] (List.replicate os.length 0) (List.replicate ws.length 0) :=
  ⟨List.nodup_nil, (fun _ h => nomatch h), List.length_replicate, List.length_replicate, fun p hp => by rw [List.getD_eq_getElem?_getD, List.getElem?_replicate, if_pos hp]; rfl, fun p hp => Nat.zero_le _⟩
theorem cnt_snoc (tk : List (Nat × Nat)) (q : Nat × Nat) (p : Nat) : cnt (tk ++ [q]) p = cnt tk p + if p = q.2 then 1 else 0 := by
  unfold cnt
  rw [List.countP_append]
  congr 1
  rw [List.countP_cons, List.countP_nil, Nat.zero_add]
  by_cases e : p = q.2
  · rw [if_pos e, if_pos (by rw [e]; exact beq_self_eq_true _)]
  · rw [if_neg e, if_neg (by rw [beq_iff_eq]; exact fun z => e z.symm)]
theorem getD_set (l : List Nat) (j x k : Nat) (hj : j < l.length) : (l.set j x).getD k 0 = if k = j then x else l.getD k 0 := by
  rw [List.getD_eq_getElem?_getD, List.getD_eq_getElem?_getD]
  by_cases h : k = j
  · subst h
    rw [List.getElem?_set_self hj, if_pos rfl]
    rfl
  · rw [List.getElem?_set_ne (fun z => h z.symm), if_neg h]
theorem Taken.step {ws os : List Nat} {tk : List (Nat × Nat)} {wc pc : List Nat} (h : Taken ws os tk wc pc) {w p : Nat} (hw : w < os.length) (hp : p < ws.length) (hn : (w, p) ∉ tk) (hr : pc.getD p 0 < ws.getD p 0) : Taken ws os (tk ++ [(w, p)]) (wc.set w (wc.getD w 0 + 1)) (pc.set p (pc.getD p 0 + 1)) := by
  refine ⟨List.nodup_append.mpr ⟨h.nd, List.nodup_cons.mpr ⟨(fun z => nomatch z), List.nodup_nil⟩, fun x hx y hy e => ?_⟩, fun q hq => ?_, by rw [List.length_set]; exact h.lw, by rw [List.length_set]; exact h.lp, fun k hk => ?_, fun k hk => ?_⟩
  · rw [List.mem_singleton.mp hy] at e
    exact hn (e ▸ hx)
  · rcases List.mem_append.mp hq with z | z
    · exact h.lt q z
    · rw [List.mem_singleton.mp z]; exact ⟨hw, hp⟩
  · rw [getD_set _ _ _ _ (by rw [h.lp]; exact hp), cnt_snoc, ← h.cp k hk]
    by_cases e : k = p
    · subst e; rw [if_pos rfl, if_pos rfl]
    · rw [if_neg e, if_neg e, Nat.add_zero]
  · rw [cnt_snoc]
    have := h.le k hk
    by_cases e : k = p
    · subst e
      rw [if_pos rfl]
      have := h.cp k hk
      omega
    · rw [if_neg e]
      omega
theorem Taken.few {ws os : List Nat} {tk : List (Nat × Nat)} {wc pc : List Nat} (h : Taken ws os tk wc pc) {most : Nat} (ho : os.length ≤ most) (hw6 : ws.length ≤ 6) (hw : ∀ (k w : Nat), ws[k]? = some w → 1 ≤ k → w ≤ 3) : tk.length ≤ most + 15 := by
  have h0 := cnt_zero h.nd (fun q hq => (h.lt q hq).1) 0
  have hk : ∀ k, 1 ≤ k → cnt tk k ≤ 3 := fun k h1 => by
    by_cases hlt : k < ws.length
    · have := h.le k hlt
      have e : ws[k]? = some (ws.getD k 0) := by rw [List.getD_eq_getElem?_getD, List.getElem?_eq_getElem hlt]; rfl
      have := hw k _ e h1
      omega
    · have : cnt tk k = 0 := by
        unfold cnt
        rw [List.countP_eq_zero]
        intro q hq
        have := (h.lt q hq).2
        rw [beq_iff_eq]
        omega
      omega
  have hl := len_cnt tk fun q hq => Nat.lt_of_lt_of_le (h.lt q hq).2 hw6
  have := hk 1 (by decide)
  have := hk 2 (by decide)
  have := hk 3 (by decide)
  have := hk 4 (by decide)
  have := hk 5 (by decide)
  omega
end CP
namespace CP
open PySem L2 L3 L4
end CP
namespace CD
def sumN : List Nat → Nat
  | [] => 0
  | a :: l => a + sumN l
theorem sumN_add {α : Type} (f g : α → Nat) : ∀ l : List α, sumN (l.map fun x => f x + g x) = sumN (l.map f) + sumN (l.map g)
  | [] => rfl
  | a :: l => by
    show f a + g a + sumN (l.map fun x => f x + g x) = f a + sumN (l.map f) + (g a + sumN (l.map g))
    rw [sumN_add f g l]
    omega
theorem sumN_le {α : Type} {f g : α → Nat} : ∀ {l : List α}, (∀ x ∈ l, f x ≤ g x) → sumN (l.map f) ≤ sumN (l.map g)
  | [], _ => Nat.le_refl _
  | a :: l, h => Nat.add_le_add (h a (List.mem_cons_self ..)) (sumN_le fun x hx => h x (List.mem_cons_of_mem _ hx))
theorem sumN_eq {α : Type} {f g : α → Nat} {l : List α} (h : ∀ x ∈ l, f x = g x) : sumN (l.map f) = sumN (l.map g) :=
  Nat.le_antisymm (sumN_le fun x hx => Nat.le_of_eq (h x hx)) (sumN_le fun x hx => Nat.le_of_eq (h x hx).symm)
theorem sumN_zero {α : Type} : ∀ l : List α, sumN (l.map fun _ => 0) = 0
  | [] => rfl
  | _ :: l => by show 0 + sumN (l.map fun _ => 0) = 0; rw [sumN_zero l]
theorem sumN_append : ∀ a b : List Nat, sumN (a ++ b) = sumN a + sumN b
  | [], b => (Nat.zero_add _).symm
  | x :: a, b => by show x + sumN (a ++ b) = x + sumN a + sumN b; rw [sumN_append a b]; omega
def one (b : Bool) : Nat := if b then 1 else 0
theorem countP_one {α : Type} (p : α → Bool) : ∀ l : List α, l.countP p = sumN (l.map fun x => one (p x))
  | [] => rfl
  | a :: l => by
    rw [List.countP_cons, countP_one p l]
    show _ = one (p a) + _
    unfold one
    cases p a <;> simp <;> omega
theorem sum_erase {f : Nat → Nat} {p : Nat} : ∀ {L : List Nat}, p ∈ L → sumN (L.map f) = f p + sumN ((L.erase p).map f)
  | a :: L, h => by
    by_cases e : a = p
    · subst e
      rw [List.erase_cons_head]
      rfl
    · have hm : p ∈ L := by
        rcases List.mem_cons.mp h with z | z
        · exact absurd z.symm e
        · exact z
      rw [List.erase_cons_tail (by rw [beq_iff_eq]; exact e)]
      show f a + sumN (L.map f) = f p + (f a + sumN ((L.erase p).map f))
      rw [sum_erase hm]
      omega
theorem sub_sum {f : Nat → Nat} : ∀ {P L : List Nat}, P.Nodup → (∀ x ∈ P, x ∈ L) → sumN (P.map f) ≤ sumN (L.map f)
  | [], _, _, _ => Nat.zero_le _
  | p :: P, L, hn, h => by
    have ⟨h1, h2⟩ := List.nodup_cons.mp hn
    rw [sum_erase (h p (List.mem_cons_self ..))]
    refine Nat.add_le_add_left (sub_sum h2 fun x hx => ?_) _
    have hxp : x ≠ p := fun e => h1 (e ▸ hx)
    exact (List.mem_erase_of_ne hxp).mpr (h x (List.mem_cons_of_mem _ hx))
theorem sum_pos {f : Nat → Nat} : ∀ L : List Nat, sumN (L.map f) = sumN ((L.filter fun x => decide (0 < f x)).map f)
  | [] => rfl
  | a :: L => by
    rw [List.filter_cons]
    by_cases e : 0 < f a
    · rw [if_pos (decide_eq_true e)]
      show f a + _ = f a + _
      rw [sum_pos L]
    · rw [if_neg (by rw [decide_eq_false e]; decide)]
      show f a + _ = _
      rw [sum_pos L]
      omega
theorem sub_all {f : Nat → Nat} {P L : List Nat} (hL : L.Nodup) (h : ∀ x ∈ L, 0 < f x → x ∈ P) : sumN (L.map f) ≤ sumN (P.map f) := by
  rw [sum_pos L]
  refine sub_sum (hL.filter _) fun x hx => ?_
  obtain ⟨h1, h2⟩ := List.mem_filter.mp hx
  exact h x h1 (of_decide_eq_true h2)
def hb (held : List Nat) (p w : Nat) : Bool := (held.getD p 0).testBit w
def col (held P : List Nat) (w : Nat) : Nat := P.countP fun p => hb held p w
def row (held : List Nat) (m p : Nat) : Nat := (List.range m).countP fun w => hb held p w
theorem col_sum (held P : List Nat) (w : Nat) : col held P w = sumN (P.map fun p => one (hb held p w)) := countP_one _ _
theorem row_sum (held : List Nat) (m p : Nat) : row held m p = sumN ((List.range m).map fun w => one (hb held p w)) := countP_one _ _
theorem exchange (held : List Nat) (m : Nat) : ∀ P : List Nat, sumN (P.map (row held m)) = sumN ((List.range m).map (col held P))
  | [] => by
    have : ∀ w, col held [] w = 0 := fun _ => rfl
    rw [show (List.range m).map (col held []) = (List.range m).map fun _ => 0 from List.map_congr_left fun w _ => this w, sumN_zero]
    rfl
  | p :: P => by
    show row held m p + sumN (P.map (row held m)) = _
    rw [exchange held m P, row_sum, ← sumN_add]
    refine sumN_eq fun w _ => ?_
    rw [col_sum held (p :: P), col_sum held P]
    rfl
theorem fit_col (paper ms : List Nat) (w : Nat) : CG.fitN paper ms w = col ms paper w := by
  unfold CG.fitN col
  rw [List.countP_eq_length_filter]
  rfl
theorem sumZ_nat {α : Type} (f : α → Nat) : ∀ l : List α, CG.sumZ (l.map fun x => ((f x : Nat) : Int)) = ((sumN (l.map f) : Nat) : Int)
  | [] => rfl
  | a :: l => by
    rw [List.map_cons, CG.sumZ_cons, sumZ_nat f l]
    show _ = ((f a + sumN (l.map f) : Nat) : Int)
    rw [Int.natCast_add]
def want (paper ws : List Nat) : Nat := sumN (paper.map fun p => ws.getD p 0)
def give (paper os ms : List Nat) : Nat := sumN ((List.range os.length).map fun w => min (os.getD w 0) (col ms paper w))
theorem shown_eq (paper ws os ms : List Nat) : CG.shownZ paper ws os ms = ((want paper ws : Nat) : Int) - ((give paper os ms : Nat) : Int) := by
  unfold CG.shownZ CG.wantZ CG.giveZ want give
  rw [sumZ_nat, sumZ_nat]
  congr 3
  exact List.map_congr_left fun w _ => by rw [fit_col]
def Paper (n : Nat) (paper : List Nat) : Prop := paper.Nodup ∧ ∀ p ∈ paper, p < n
def Opt (ws os ms : List Nat) (v : Int) : Prop := (∃ paper, Paper ws.length paper ∧ CG.shownZ paper ws os ms = v) ∧ ∀ paper, Paper ws.length paper → CG.shownZ paper ws os ms ≤ v
structure Deal (ws os ms held still left : List Nat) : Prop where
  lh : held.length = ms.length
  lw : ws.length = ms.length
  ls : still.length = ms.length
  ll : left.length = os.length
  sub : ∀ p w, hb held p w = true → hb ms p w = true
  lt : ∀ p w, hb ms p w = true → w < os.length
  cw : ∀ w, w < os.length → left.getD w 0 + col held (List.range ms.length) w = os.getD w 0
  cp : ∀ p, p < ms.length → still.getD p 0 + row held os.length p = ws.getD p 0
theorem mem_range_of {n : Nat} {P : List Nat} (h : Paper n P) : ∀ x ∈ P, x ∈ List.range n := fun x hx => List.mem_range.mpr (h.2 x hx)
theorem range_sum (l : List Nat) : sumN l = sumN ((List.range l.length).map fun p => l.getD p 0) := by
  congr 1
  apply List.ext_getElem?
  intro i
  rw [List.getElem?_map]
  by_cases hi : i < l.length
  · rw [List.getElem?_range hi, List.getElem?_eq_getElem hi]
    show _ = some (l.getD i 0)
    rw [List.getD_eq_getElem?_getD, List.getElem?_eq_getElem hi]
    rfl
  · rw [List.getElem?_eq_none (by omega), List.getElem?_eq_none (by rw [List.length_range]; omega)]
    rfl
theorem col_le (held P : List Nat) {n : Nat} (h : Paper n P) (w : Nat) : col held P w ≤ col held (List.range n) w := by
  rw [col_sum, col_sum]
  exact sub_sum h.1 (mem_range_of h)
theorem want_split {ws os ms held still left : List Nat} (d : Deal ws os ms held still left) {P : List Nat} (h : Paper ws.length P) : want P ws = sumN (P.map fun p => still.getD p 0) + sumN ((List.range os.length).map (col held P)) := by
  unfold want
  rw [← exchange, ← sumN_add]
  exact sumN_eq fun p hp => (d.cp p (by rw [← d.lw]; exact h.2 p hp)).symm
theorem Deal.weak {ws os ms held still left : List Nat} (d : Deal ws os ms held still left) {P : List Nat} (h : Paper ws.length P) : CG.shownZ P ws os ms ≤ ((sumN still : Nat) : Int) := by
  rw [shown_eq, want_split d h]
  have h1 : sumN (P.map fun p => still.getD p 0) ≤ sumN still := by
    rw [range_sum still, d.ls, ← d.lw]
    exact sub_sum h.1 (mem_range_of h)
  have h2 : sumN ((List.range os.length).map (col held P)) ≤ give P os ms := by
    unfold give
    refine sumN_le fun w hw => ?_
    have hw' := List.mem_range.mp hw
    have h3 := d.cw w hw'
    have h4 := col_le held P h w
    rw [d.lw] at h4
    have h5 : col held P w ≤ col ms P w := by
      rw [col_sum, col_sum]
      refine sumN_le fun p _ => ?_
      unfold one
      cases e : hb held p w with
      | true => rw [d.sub p w e]; exact Nat.le_refl _
      | false => exact Nat.zero_le _
    omega
  omega
structure Stuck (ms held still left R : List Nat) (n : Nat) : Prop where
  pap : Paper n R
  want : ∀ p, p < n → 0 < still.getD p 0 → p ∈ R
  none : ∀ p ∈ R, ∀ w, hb ms p w = true → hb held p w = false → left.getD w 0 = 0
  shut : ∀ p ∈ R, ∀ w, hb ms p w = true → hb held p w = false → ∀ q, q < n → hb held q w = true → q ∈ R
theorem Deal.strong {ws os ms held still left R : List Nat} (d : Deal ws os ms held still left) (s : Stuck ms held still left R ws.length) : CG.shownZ R ws os ms = ((sumN still : Nat) : Int) := by
  rw [shown_eq, want_split d s.pap]
  have h1 : sumN (R.map fun p => still.getD p 0) = sumN still := by
    rw [range_sum still, d.ls, ← d.lw]
    exact Nat.le_antisymm (sub_sum s.pap.1 (mem_range_of s.pap)) (sub_all List.nodup_range fun p hp h0 => s.want p (List.mem_range.mp hp) h0)
  have h2 : sumN ((List.range os.length).map (col held R)) = give R os ms := by
    unfold give
    refine sumN_eq fun w hw => ?_
    have hw' := List.mem_range.mp hw
    have h3 := d.cw w hw'
    have h4 := col_le held R s.pap w
    rw [d.lw] at h4
    have h5 : col held R w ≤ col ms R w := by
      rw [col_sum, col_sum]
      refine sumN_le fun p _ => ?_
      unfold one
      cases e : hb held p w with
      | true => rw [d.sub p w e]; exact Nat.le_refl _
      | false => exact Nat.zero_le _
    by_cases hc : ∃ p ∈ R, hb ms p w = true ∧ hb held p w = false
    · obtain ⟨p, hp, e1, e2⟩ := hc
      have h6 := s.none p hp w e1 e2
      have h7 : col held (List.range ms.length) w ≤ col held R w := by
        rw [col_sum, col_sum]
        refine sub_all List.nodup_range fun q hq h0 => ?_
        refine s.shut p hp w e1 e2 q (by rw [d.lw]; exact List.mem_range.mp hq) ?_
        unfold one at h0
        cases e : hb held q w with
        | true => rfl
        | false => rw [e] at h0; exact absurd h0 (Nat.lt_irrefl 0)
      omega
    · have h8 : col ms R w ≤ col held R w := by
        rw [col_sum, col_sum]
        refine sumN_le fun p hp => ?_
        unfold one
        cases e : hb ms p w with
        | false => exact Nat.zero_le _
        | true =>
          cases e2 : hb held p w with
          | true => exact Nat.le_refl _
          | false => exact absurd ⟨p, hp, e, e2⟩ hc
      omega
  rw [h1, h2]
  omega
theorem Deal.opt {ws os ms held still left R : List Nat} (d : Deal ws os ms held still left) (s : Stuck ms held still left R ws.length) : Opt ws os ms ((sumN still : Nat) : Int) :=
  ⟨⟨R, s.pap, d.strong s⟩, fun P hP => d.weak hP⟩
end CD
namespace CD
theorem flip_up {f g : Nat → Bool} {a : Nat} : ∀ {L : List Nat}, L.Nodup → a ∈ L → f a = false → g a = true → (∀ x, x ≠ a → g x = f x) → L.countP g = L.countP f + 1
  | b :: L, hn, hm, hf, hg, h => by
    have ⟨h1, h2⟩ := List.nodup_cons.mp hn
    by_cases e : b = a
    · subst e
      have : L.countP g = L.countP f := List.countP_congr fun x hx => by rw [h x (fun z => h1 (z ▸ hx))]
      rw [List.countP_cons, List.countP_cons, this, hf, hg]
      rfl
    · have hm' : a ∈ L := by
        rcases List.mem_cons.mp hm with z | z
        · exact absurd z.symm e
        · exact z
      rw [List.countP_cons, List.countP_cons, flip_up h2 hm' hf hg h, h b e]
      omega
theorem hb_set {held : List Nat} {p x : Nat} (hp : p < held.length) (q w : Nat) : hb (held.set p x) q w = if q = p then x.testBit w else hb held q w := by
  unfold hb
  rw [CP.getD_set _ _ _ _ hp]
  split <;> rfl
structure Hand (ws os ms held still left : List Nat) (a p : Nat) : Prop where
  lh : held.length = ms.length
  lw : ws.length = ms.length
  ls : still.length = ms.length
  ll : left.length = os.length
  sub : ∀ p w, hb held p w = true → hb ms p w = true
  lt : ∀ p w, hb ms p w = true → w < os.length
  cw : ∀ w, w < os.length → left.getD w 0 + col held (List.range ms.length) w + one (decide (w = a)) = os.getD w 0
  cp : ∀ p, p < ms.length → still.getD p 0 + row held os.length p = ws.getD p 0
  fit : hb ms p a = true
  new : hb held p a = false
  pl : p < ms.length
theorem one_eq (a : Nat) : one (decide (a = a)) = 1 := by unfold one; rw [decide_eq_true rfl]; rfl
theorem one_ne {a b : Nat} (h : a ≠ b) : one (decide (a = b)) = 0 := by unfold one; rw [decide_eq_false h]; rfl
theorem Deal.hand {ws os ms held still left : List Nat} (d : Deal ws os ms held still left) {a p : Nat} (hp : p < ms.length) (hf : hb ms p a = true) (hn : hb held p a = false) (h0 : 0 < left.getD a 0) : Hand ws os ms held still (left.set a (left.getD a 0 - 1)) a p := by
  have ha : a < os.length := d.lt p a hf
  refine ⟨d.lh, d.lw, d.ls, by rw [List.length_set]; exact d.ll, d.sub, d.lt, fun w hw => ?_, d.cp, hf, hn, hp⟩
  have := d.cw w hw
  rw [CP.getD_set _ _ _ _ (by rw [d.ll]; exact ha)]
  by_cases e : w = a
  · subst e
    rw [if_pos rfl, one_eq]
    omega
  · rw [if_neg e, one_ne e]
    omega
theorem Hand.rows {ws os ms held still left : List Nat} {a p : Nat} (h : Hand ws os ms held still left a p) {x : Nat} (hx : ∀ w, x.testBit w = (hb held p w || decide (w = a))) :
    (∀ q w, hb (held.set p x) q w = true → hb ms q w = true) ∧ (∀ w, w < os.length → col (held.set p x) (List.range ms.length) w = col held (List.range ms.length) w + one (decide (w = a))) ∧ (∀ q, q < ms.length → row (held.set p x) os.length q = row held os.length q + one (decide (q = p))) := by
  have hp : p < held.length := by rw [h.lh]; exact h.pl
  have ha : a < os.length := h.lt p a h.fit
  refine ⟨fun q w e => ?_, fun w hw => ?_, fun q hq => ?_⟩
  · rw [hb_set hp] at e
    by_cases z : q = p
    · subst z
      rw [if_pos rfl, hx, Bool.or_eq_true, decide_eq_true_eq] at e
      rcases e with e | rfl
      · exact h.sub q w e
      · exact h.fit
    · rw [if_neg z] at e
      exact h.sub q w e
  · unfold col
    by_cases z : w = a
    · subst z
      rw [one_eq]
      refine flip_up List.nodup_range (List.mem_range.mpr h.pl) h.new ?_ fun q hq => ?_
      · rw [hb_set hp, if_pos rfl, hx, decide_eq_true rfl, Bool.or_true]
      · rw [hb_set hp, if_neg hq]
    · rw [one_ne z, Nat.add_zero]
      refine List.countP_congr fun q _ => ?_
      rw [hb_set hp]
      by_cases e : q = p
      · subst e
        rw [if_pos rfl, hx, decide_eq_false z, Bool.or_false]
      · rw [if_neg e]
  · unfold row
    by_cases z : q = p
    · subst z
      rw [one_eq]
      refine flip_up List.nodup_range (List.mem_range.mpr ha) h.new ?_ fun w hw => ?_
      · rw [hb_set hp, if_pos rfl, hx, decide_eq_true rfl, Bool.or_true]
      · rw [hb_set hp, if_pos rfl, hx, decide_eq_false hw, Bool.or_false]
    · rw [one_ne z, Nat.add_zero]
      refine List.countP_congr fun w _ => ?_
      rw [hb_set hp, if_neg z]
theorem Hand.root {ws os ms held still left : List Nat} {a p : Nat} (h : Hand ws os ms held still left a p) {x : Nat} (hx : ∀ w, x.testBit w = (hb held p w || decide (w = a))) (h0 : 0 < still.getD p 0) : Deal ws os ms (held.set p x) (still.set p (still.getD p 0 - 1)) left := by
  obtain ⟨h1, h2, h3⟩ := h.rows hx
  refine ⟨by rw [List.length_set]; exact h.lh, h.lw, by rw [List.length_set]; exact h.ls, h.ll, h1, h.lt, fun w hw => ?_, fun q hq => ?_⟩
  · have := h.cw w hw
    rw [h2 w hw]
    omega
  · have := h.cp q hq
    rw [h3 q hq, CP.getD_set _ _ _ _ (by rw [h.ls]; exact h.pl)]
    by_cases e : q = p
    · subst e
      rw [if_pos rfl, one_eq]
      omega
    · rw [if_neg e, one_ne e]
      omega
theorem Hand.next {ws os ms held still left : List Nat} {a p : Nat} (h : Hand ws os ms held still left a p) {x y : Nat} (hx : ∀ w, x.testBit w = (hb held p w || decide (w = a))) {b q : Nat} (hy : ∀ w, y.testBit w = (x.testBit w && !decide (w = b))) (hb1 : hb held p b = true) (hq : q < ms.length) (hqp : q ≠ p) (hf : hb ms q b = true) (hn : hb held q b = false) :
    Hand ws os ms ((held.set p x).set p y) still left b q := by
  have hp : p < held.length := by rw [h.lh]; exact h.pl
  have hp' : p < (held.set p x).length := by rw [List.length_set]; exact hp
  obtain ⟨h1, h2, h3⟩ := h.rows hx
  have hb2 : b < os.length := h.lt q b hf
  have hxb : hb (held.set p x) p b = true := by rw [hb_set hp, if_pos rfl, hx, hb1, Bool.true_or]
  have hyb : hb ((held.set p x).set p y) p b = false := by rw [hb_set hp', if_pos rfl, hy, decide_eq_true rfl]; simp
  have ho : ∀ r w, (r ≠ p ∨ w ≠ b) → hb ((held.set p x).set p y) r w = hb (held.set p x) r w := fun r w z => by
    rw [hb_set hp']
    by_cases e : r = p
    · subst e
      have hw : w ≠ b := by
        rcases z with z | z
        · exact absurd rfl z
        · exact z
      rw [if_pos rfl, hy, decide_eq_false hw, Bool.not_false, Bool.and_true, hb_set hp, if_pos rfl]
    · rw [if_neg e]
  refine ⟨by rw [List.length_set, List.length_set]; exact h.lh, h.lw, h.ls, h.ll, fun r w e => ?_, h.lt, fun w hw => ?_, fun r hr => ?_, hf, ?_, hq⟩
  · by_cases z : r = p ∧ w = b
    · rw [z.1, z.2, hyb] at e
      cases e
    · rw [ho r w (by by_cases z1 : r = p
                     · exact .inr fun z2 => z ⟨z1, z2⟩
                     · exact .inl z1)] at e
      exact h1 r w e
  · have hc := h.cw w hw
    have hc2 := h2 w hw
    by_cases z : w = b
    · subst z
      have : col (held.set p x) (List.range ms.length) w = col ((held.set p x).set p y) (List.range ms.length) w + 1 := flip_up List.nodup_range (List.mem_range.mpr h.pl) hyb hxb fun r hr => (ho r w (.inl hr)).symm
      rw [one_eq]
      omega
    · have : col ((held.set p x).set p y) (List.range ms.length) w = col (held.set p x) (List.range ms.length) w := List.countP_congr fun r _ => by rw [ho r w (.inr z)]
      rw [one_ne z, this]
      omega
  · have hc := h.cp r hr
    have hc2 := h3 r hr
    by_cases z : r = p
    · subst z
      have : row (held.set r x) os.length r = row ((held.set r x).set r y) os.length r + 1 := flip_up List.nodup_range (List.mem_range.mpr hb2) hyb hxb fun w hw => (ho r w (.inr hw)).symm
      rw [one_eq] at hc2
      omega
    · have : row ((held.set p x).set p y) os.length r = row (held.set p x) os.length r := List.countP_congr fun w _ => by rw [ho r w (.inl z)]
      rw [one_ne z] at hc2
      rw [this]
      omega
  · rw [ho q b (.inl hqp), hb_set hp, if_neg hqp]
    exact hn
abbrev Came := List (Nat × Option (Nat × Nat))
def Edge (ms held still : List Nat) (c : Came) (i p : Nat) : Option (Nat × Nat) → Prop
  | none => 0 < still.getD p 0
  | some (w, q) => (∃ j o, j < i ∧ c[j]? = some (q, o)) ∧ hb ms q w = true ∧ hb held q w = false ∧ hb held p w = true
structure Tree (ms held still : List Nat) (n : Nat) (c : Came) : Prop where
  nd : (c.map Prod.fst).Nodup
  lt : ∀ x ∈ c, x.1 < n
  edge : ∀ (i p : Nat) (o : Option (Nat × Nat)), c[i]? = some (p, o) → Edge ms held still c i p o
theorem edge_mono {ms held still : List Nat} {c d : Came} {i p : Nat} : ∀ {o : Option (Nat × Nat)}, Edge ms held still c i p o → (∀ (j : Nat) (x : Nat × Option (Nat × Nat)), c[j]? = some x → d[j]? = some x) → Edge ms held still d i p o
  | none, h, _ => h
  | some (w, q), ⟨⟨j, o, hj, e⟩, h1⟩, k => ⟨⟨j, o, hj, k j _ e⟩, h1⟩
theorem Tree.snoc {ms held still : List Nat} {n : Nat} {c : Came} (t : Tree ms held still n c) {p : Nat} {o : Option (Nat × Nat)} (hp : p < n) (hn : p ∉ c.map Prod.fst) (he : Edge ms held still c c.length p o) : Tree ms held still n (c ++ [(p, o)]) := by
  have up : ∀ (j : Nat) (x : Nat × Option (Nat × Nat)), c[j]? = some x → (c ++ [(p, o)])[j]? = some x := fun j x e => by
    rw [List.getElem?_append_left (List.getElem?_eq_some_iff.mp e).1]
    exact e
  refine ⟨?_, fun x hx => ?_, fun i q o' e => ?_⟩
  · rw [List.map_append]
    refine List.nodup_append.mpr ⟨t.nd, List.nodup_cons.mpr ⟨(fun z => nomatch z), List.nodup_nil⟩, fun x hx y hy e => ?_⟩
    rw [List.mem_singleton.mp hy] at e
    have e' : x = p := e
    exact hn (e' ▸ hx)
  · rcases List.mem_append.mp hx with z | z
    · exact t.lt x z
    · rw [List.mem_singleton.mp z]; exact hp
  · by_cases hi : i < c.length
    · rw [List.getElem?_append_left hi] at e
      exact edge_mono (t.edge i q o' e) up
    · rw [List.getElem?_append_right (by omega)] at e
      have hlt := (List.getElem?_eq_some_iff.mp e).1
      rw [List.length_singleton] at hlt
      have hi' : i = c.length := by omega
      rw [show i - c.length = 0 by omega] at e
      obtain ⟨rfl, rfl⟩ := Prod.mk.inj (Option.some.inj e)
      rw [hi']
      exact edge_mono he up
structure Done (ms held left : List Nat) (n : Nat) (c : Came) (k : Nat) : Prop where
  none : ∀ j p o, j < k → c[j]? = some (p, o) → ∀ w, hb ms p w = true → hb held p w = false → left.getD w 0 = 0
  shut : ∀ j p o, j < k → c[j]? = some (p, o) → ∀ w, hb ms p w = true → hb held p w = false → ∀ q, q < n → hb held q w = true → q ∈ c.map Prod.fst
theorem Tree.stuck {ms held still left : List Nat} {n : Nat} {c : Came} (t : Tree ms held still n c) (h : Done ms held left n c c.length) (hw : ∀ p, p < n → 0 < still.getD p 0 → p ∈ c.map Prod.fst) : Stuck ms held still left (c.map Prod.fst) n := by
  have ix : ∀ p ∈ c.map Prod.fst, ∃ j o, j < c.length ∧ c[j]? = some (p, o) := fun p hp => by
    obtain ⟨x, hx, rfl⟩ := List.mem_map.mp hp
    obtain ⟨j, hj, rfl⟩ := List.getElem_of_mem hx
    exact ⟨j, c[j].2, hj, List.getElem?_eq_getElem hj⟩
  refine ⟨⟨t.nd, fun p hp => ?_⟩, hw, fun p hp w => ?_, fun p hp w => ?_⟩
  · obtain ⟨x, hx, rfl⟩ := List.mem_map.mp hp
    exact t.lt x hx
  · obtain ⟨j, o, hj, e⟩ := ix p hp
    exact h.none j p o hj e w
  · obtain ⟨j, o, hj, e⟩ := ix p hp
    exact h.shut j p o hj e w
end CD
namespace L13
open PySem PySem.Spec PyProof.Rows L2 L3 L4 L6
section
variable {α : Type} {Pd : Hp → V → α → Prop} {D D' : Hp}
def Els (Pd : Hp → V → α → Prop) (D : Hp) (vs : List V) (as : List α) : Prop := vs.length = as.length ∧ ∀ (i : Nat) (v : V) (a : α), vs[i]? = some v → as[i]? = some a → Pd D v a
theorem Els.nil : Els Pd D [] [] := ⟨rfl, fun i v a h => by cases h⟩
theorem Els.app {vs us : List V} {as bs : List α} (h : Els Pd D vs as) (k : Els Pd D us bs) : Els Pd D (vs ++ us) (as ++ bs) := by
  refine ⟨by rw [List.length_append, List.length_append, h.1, k.1], fun i v a e1 e2 => ?_⟩
  by_cases hi : i < vs.length
  · rw [List.getElem?_append_left hi] at e1
    rw [List.getElem?_append_left (by rw [← h.1]; exact hi)] at e2
    exact h.2 i v a e1 e2
  · rw [List.getElem?_append_right (by omega)] at e1
    rw [List.getElem?_append_right (by rw [← h.1]; omega), ← h.1] at e2
    exact k.2 _ v a e1 e2
theorem Els.one {v : V} {a : α} (h : Pd D v a) : Els Pd D [v] [a] := ⟨rfl, fun i v' a' e1 e2 => by
  cases i with
  | zero => cases e1; cases e2; exact h
  | succ i => cases e1⟩
theorem Els.snoc {vs : List V} {as : List α} {v : V} {a : α} (h : Els Pd D vs as) (k : Pd D v a) : Els Pd D (vs ++ [v]) (as ++ [a]) := h.app (Els.one k)
theorem Els.up (mono : ∀ v a, Pd D v a → Pd D' v a) {vs : List V} {as : List α} (h : Els Pd D vs as) : Els Pd D' vs as := ⟨h.1, fun i v a e1 e2 => mono v a (h.2 i v a e1 e2)⟩
theorem Els.back {vs : List V} {as : List α} {i : Nat} {v : V} (h : Els Pd D vs as) (e : vs[i]? = some v) : ∃ a, as[i]? = some a ∧ Pd D v a := by
  have hi : i < vs.length := (List.getElem?_eq_some_iff.mp e).1
  have ha : as[i]? = some (as[i]'(by rw [← h.1]; exact hi)) := List.getElem?_eq_getElem (by rw [← h.1]; exact hi)
  exact ⟨_, ha, h.2 i v _ e ha⟩
theorem Els.at_ {vs : List V} {as : List α} {i : Nat} {a : α} (h : Els Pd D vs as) (e : as[i]? = some a) : ∃ v, vs[i]? = some v ∧ Pd D v a := by
  have hi : i < as.length := (List.getElem?_eq_some_iff.mp e).1
  have hv : vs[i]? = some (vs[i]'(by rw [h.1]; exact hi)) := List.getElem?_eq_getElem (by rw [h.1]; exact hi)
  exact ⟨_, hv, h.2 i _ a hv e⟩
end
theorem comp_els {α : Type} {Pd : Hp → V → α → Prop} (mono : ∀ {D D' : Hp} {v : V} {a : α}, Same D D' → Pd D v a → Pd D' v a) {J : It} {xs : List V} {P : Hp → Prop} {q : Addr} {g : TG} {tc : TT} {te : TE} {Q : Hp → Prop} {σ : L2.St} {D H : Hp} (s0 : Same D H) (hq0 : H q = none) (Y : Yields J xs P) (S : L2.St → Prop) (as : List α)
    (hl : as.length = xs.length) (h0 : S σ) (hP : ∀ H', Same H H' → P H') (hz : xs.length < sizeLine)
    (step : ∀ (i : Nat) (x : V) (a : α) (σ : L2.St) (D1 H1 : Hp) (R1 : L2.St → V → Hp → Prop) (R0 : L2.St → Hp → Prop), xs[i]? = some x → as[i]? = some a → S σ → Gr D H D1 H1 →
      (∀ σ2 y D4 H4, S σ2 → Gr D1 H1 D4 H4 → Pd D4 y a → R1 σ2 y H4) →
      g x σ H1 fun σ2 H2 => tc σ2 H2 fun b H3 => if b = true then te σ2 H3 fun y H4 => R1 σ2 y H4 else R0 σ2 H3)
    (hq : ∀ D' H' ys, Gr D H D' H' → H' q = some (.lst ys) → D' q = none → Els Pd D' ys as → Q H') :
    ∃ W : Nat → Nat → List V → L2.St → Hp → Prop, (∃ m, W 0 m [] σ (upd H q (.lst []))) ∧ CompW q J g tc te Q W := by
  refine comp_inv Y (fun i ys σ H' => ∃ D', Gr D H D' H' ∧ H' q = some (.lst ys) ∧ D' q = none ∧ Els Pd D' ys (as.take i) ∧ S σ) ⟨D, Gr.layH s0 hq0, upd_same, s0.free hq0, by rw [List.take_zero]; exact Els.nil, h0⟩
    (fun i ys σ H' ⟨D', G, e, _, hA, _⟩ => ⟨hP H' G.hh, e, ?_⟩) hz (fun i x ys σ H' hx ⟨D', G, e, n, hA, hS⟩ => ?_) fun ys σ H' ⟨D', G, e, n, hA, _⟩ => ?_
  · rw [hA.1, List.length_take]
    omega
  · have hi : i < xs.length := (List.getElem?_eq_some_iff.mp hx).1
    have ha : as[i]? = some (as[i]'(by omega)) := List.getElem?_eq_getElem (by omega)
    refine step i x _ σ D' H' _ _ hx ha hS G fun σ2 y D4 H4 h2 G4 hy => ?_
    obtain ⟨e4, n4⟩ := G4.old e n
    have T := G.trans G4
    refine ⟨e4, D4, ⟨T.dd, fun b o eb => ?_, same_set T.dh n4, T.nw⟩, upd_same, n4, ?_, h2⟩
    · rw [upd_ne (ne_of_none eb hq0)]
      exact T.hh b o eb
    · rw [take_snoc ha]
      exact (hA.up fun v a => mono G4.dd).snoc hy
  · rw [← hl, List.take_length] at hA
    exact hq D' H' ys G e n hA
def NL (D : Hp) (v : V) (x : List Nat) : Prop := ∃ q, v = .ref q ∧ D q = some (.lst (nV x))
theorem NL.up {D D' : Hp} {v : V} {x : List Nat} (s : Same D D') : NL D v x → NL D' v x := fun ⟨q, e, h⟩ => ⟨q, e, s _ _ h⟩
def NLL (D : Hp) (v : V) (xs : List (List Nat)) : Prop := ∃ q zs, v = .ref q ∧ D q = some (.lst zs) ∧ Els NL D zs xs
theorem NLL.up {D D' : Hp} {v : V} {x : List (List Nat)} (s : Same D D') : NLL D v x → NLL D' v x := fun ⟨q, zs, e, h, k⟩ => ⟨q, zs, e, s _ _ h, k.up fun _ _ => NL.up s⟩
end L13
namespace CO
open PySem L2 L3 L4 L6 CD
def fs (pm ph ps pl pc : Addr) : List (Str × V) := [("masks", .ref pm), ("held", .ref ph), ("still", .ref ps), ("left", .ref pl), ("came", .ref pc)]
theorem nms : ("held" : Str) ≠ "masks" ∧ ("still" : Str) ≠ "masks" ∧ ("still" : Str) ≠ "held" ∧ ("left" : Str) ≠ "masks" ∧ ("left" : Str) ≠ "held" ∧ ("left" : Str) ≠ "still" ∧ ("came" : Str) ≠ "masks" ∧ ("came" : Str) ≠ "held" ∧ ("came" : Str) ≠ "still" ∧ ("came" : Str) ≠ "left" := by decide +kernel
theorem lk_hit {k : Str} {v : V} {r : List (Str × V)} : List.lookup k ((k, v) :: r) = some v := by rw [List.lookup_cons, beq_self_eq_true]
theorem lk_miss {k x : Str} {v : V} {r : List (Str × V)} (h : k ≠ x) : List.lookup k ((x, v) :: r) = List.lookup k r := by rw [List.lookup_cons, beq_eq_false_iff_ne.mpr h]
theorem pf_hit {k : Str} {v w : V} {r : List (Str × V)} : putF k w ((k, v) :: r) = (k, w) :: r := by rw [putF, if_pos rfl]
theorem pf_miss {k x : Str} {v w : V} {r : List (Str × V)} (h : k ≠ x) : putF k w ((x, v) :: r) = (x, v) :: putF k w r := by rw [putF, if_neg h.symm]
section
variable {pm ph ps pl pc : Addr}
theorem f_masks : (fs pm ph ps pl pc).lookup ("masks" : Str) = some (.ref pm) := lk_hit
theorem f_held : (fs pm ph ps pl pc).lookup ("held" : Str) = some (.ref ph) := by unfold fs; rw [lk_miss nms.1, lk_hit]
theorem f_still : (fs pm ph ps pl pc).lookup ("still" : Str) = some (.ref ps) := by unfold fs; rw [lk_miss nms.2.1, lk_miss nms.2.2.1, lk_hit]
theorem f_left : (fs pm ph ps pl pc).lookup ("left" : Str) = some (.ref pl) := by unfold fs; rw [lk_miss nms.2.2.2.1, lk_miss nms.2.2.2.2.1, lk_miss nms.2.2.2.2.2.1, lk_hit]
theorem f_came : (fs pm ph ps pl pc).lookup ("came" : Str) = some (.ref pc) := by unfold fs; rw [lk_miss nms.2.2.2.2.2.2.1, lk_miss nms.2.2.2.2.2.2.2.1, lk_miss nms.2.2.2.2.2.2.2.2.1, lk_miss nms.2.2.2.2.2.2.2.2.2, lk_hit]
theorem p_came {v : V} : putF "came" v (fs pm ph ps pl pc) = ([("masks", .ref pm), ("held", .ref ph), ("still", .ref ps), ("left", .ref pl), ("came", v)] : List (Str × V)) := by
  unfold fs
  rw [pf_miss nms.2.2.2.2.2.2.1, pf_miss nms.2.2.2.2.2.2.2.1, pf_miss nms.2.2.2.2.2.2.2.2.1, pf_miss nms.2.2.2.2.2.2.2.2.2, pf_hit]
end
structure Dlr (C : Addr) (D H : Hp) (x dx pm ph ps pl pc : Addr) (ms held still left : List Nat) (kvs : List (Key × V)) : Prop where
  ins : H x = some (.ins C dx (fs pm ph ps pl pc))
  m : H pm = some (.lst (nV ms))
  h : H ph = some (.lst (nV held))
  s : H ps = some (.lst (nV still))
  l : H pl = some (.lst (nV left))
  c : H pc = some (.dK kvs)
  nd : [pm, ph, ps, pl].Nodup
  ox : D x = none
  om : D pm = none
  oh : D ph = none
  os : D ps = none
  ol : D pl = none
  oc : D pc = none
  dh : Same D H
section
variable {C : Addr} {D H : Hp} {x dx pm ph ps pl pc : Addr} {ms held still left : List Nat} {kvs : List (Key × V)}
theorem ne_of {a b : Addr} {o u : HO} (ha : H a = some o) (hb : H b = some u) (h : o ≠ u) : a ≠ b := fun z => h (Option.some.inj (by rw [← ha, ← hb, z]))
theorem Dlr.xm (r : Dlr C D H x dx pm ph ps pl pc ms held still left kvs) : x ≠ pm ∧ x ≠ ph ∧ x ≠ ps ∧ x ≠ pl ∧ x ≠ pc := ⟨ne_of r.ins r.m (fun z => nomatch z), ne_of r.ins r.h (fun z => nomatch z), ne_of r.ins r.s (fun z => nomatch z), ne_of r.ins r.l (fun z => nomatch z), ne_of r.ins r.c (fun z => nomatch z)⟩
theorem Dlr.cm (r : Dlr C D H x dx pm ph ps pl pc ms held still left kvs) : pc ≠ pm ∧ pc ≠ ph ∧ pc ≠ ps ∧ pc ≠ pl := ⟨ne_of r.c r.m (fun z => nomatch z), ne_of r.c r.h (fun z => nomatch z), ne_of r.c r.s (fun z => nomatch z), ne_of r.c r.l (fun z => nomatch z)⟩
theorem Dlr.mm (r : Dlr C D H x dx pm ph ps pl pc ms held still left kvs) : pm ≠ ph ∧ pm ≠ ps ∧ pm ≠ pl ∧ ph ≠ ps ∧ ph ≠ pl ∧ ps ≠ pl := by
  have := r.nd
  simp only [List.nodup_cons, List.mem_cons, List.not_mem_nil, or_false, not_or] at this
  obtain ⟨⟨a, b, c⟩, ⟨d, e⟩, f, _⟩ := this
  exact ⟨a, b, c, d, e, f⟩
theorem Dlr.gr {D' H' : Hp} (r : Dlr C D H x dx pm ph ps pl pc ms held still left kvs) (g : Gr D H D' H') : Dlr C D' H' x dx pm ph ps pl pc ms held still left kvs :=
  ⟨g.hh _ _ r.ins, g.hh _ _ r.m, g.hh _ _ r.h, g.hh _ _ r.s, g.hh _ _ r.l, g.hh _ _ r.c, r.nd, g.nw _ _ r.ins r.ox, g.nw _ _ r.m r.om, g.nw _ _ r.h r.oh, g.nw _ _ r.s r.os, g.nw _ _ r.l r.ol, g.nw _ _ r.c r.oc, g.dh⟩
theorem Dlr.other {b : Addr} {o : HO} (r : Dlr C D H x dx pm ph ps pl pc ms held still left kvs) (hb : b ∉ [x, pm, ph, ps, pl, pc]) (hd : D b = none) : Dlr C D (upd H b o) x dx pm ph ps pl pc ms held still left kvs := by
  simp only [List.mem_cons, List.not_mem_nil, or_false, not_or] at hb
  obtain ⟨b1, b2, b3, b4, b5, b6⟩ := hb
  exact ⟨by rw [upd_ne (Ne.symm b1)]; exact r.ins, by rw [upd_ne (Ne.symm b2)]; exact r.m, by rw [upd_ne (Ne.symm b3)]; exact r.h, by rw [upd_ne (Ne.symm b4)]; exact r.s, by rw [upd_ne (Ne.symm b5)]; exact r.l, by rw [upd_ne (Ne.symm b6)]; exact r.c, r.nd, r.ox, r.om, r.oh, r.os, r.ol, r.oc, same_set r.dh hd⟩
theorem Dlr.setC (r : Dlr C D H x dx pm ph ps pl pc ms held still left kvs) (kvs' : List (Key × V)) : Dlr C D (upd H pc (.dK kvs')) x dx pm ph ps pl pc ms held still left kvs' := by
  obtain ⟨c1, c2, c3, c4⟩ := r.cm
  exact ⟨by rw [upd_ne r.xm.2.2.2.2]; exact r.ins, by rw [upd_ne c1.symm]; exact r.m, by rw [upd_ne c2.symm]; exact r.h, by rw [upd_ne c3.symm]; exact r.s, by rw [upd_ne c4.symm]; exact r.l, upd_same, r.nd, r.ox, r.om, r.oh, r.os, r.ol, r.oc, same_set r.dh r.oc⟩
theorem Dlr.setH (r : Dlr C D H x dx pm ph ps pl pc ms held still left kvs) (held' : List Nat) : Dlr C D (upd H ph (.lst (nV held'))) x dx pm ph ps pl pc ms held' still left kvs := by
  obtain ⟨a, b, c, d, e, f⟩ := r.mm
  exact ⟨by rw [upd_ne r.xm.2.1]; exact r.ins, by rw [upd_ne a]; exact r.m, upd_same, by rw [upd_ne d.symm]; exact r.s, by rw [upd_ne e.symm]; exact r.l, by rw [upd_ne r.cm.2.1]; exact r.c, r.nd, r.ox, r.om, r.oh, r.os, r.ol, r.oc, same_set r.dh r.oh⟩
theorem Dlr.setS (r : Dlr C D H x dx pm ph ps pl pc ms held still left kvs) (still' : List Nat) : Dlr C D (upd H ps (.lst (nV still'))) x dx pm ph ps pl pc ms held still' left kvs := by
  obtain ⟨a, b, c, d, e, f⟩ := r.mm
  exact ⟨by rw [upd_ne r.xm.2.2.1]; exact r.ins, by rw [upd_ne b]; exact r.m, by rw [upd_ne d]; exact r.h, upd_same, by rw [upd_ne f.symm]; exact r.l, by rw [upd_ne r.cm.2.2.1]; exact r.c, r.nd, r.ox, r.om, r.oh, r.os, r.ol, r.oc, same_set r.dh r.os⟩
theorem Dlr.setL (r : Dlr C D H x dx pm ph ps pl pc ms held still left kvs) (left' : List Nat) : Dlr C D (upd H pl (.lst (nV left'))) x dx pm ph ps pl pc ms held still left' kvs := by
  obtain ⟨a, b, c, d, e, f⟩ := r.mm
  exact ⟨by rw [upd_ne r.xm.2.2.2.1]; exact r.ins, by rw [upd_ne c]; exact r.m, by rw [upd_ne e]; exact r.h, by rw [upd_ne f]; exact r.s, upd_same, by rw [upd_ne r.cm.2.2.2]; exact r.c, r.nd, r.ox, r.om, r.oh, r.os, r.ol, r.oc, same_set r.dh r.ol⟩
theorem Dlr.setX (r : Dlr C D H x dx pm ph ps pl pc ms held still left kvs) {pc' : Addr} {kvs' : List (Key × V)} (e : H pc' = some (.dK kvs')) (hd : D pc' = none) : Dlr C D (upd H x (.ins C dx (fs pm ph ps pl pc'))) x dx pm ph ps pl pc' ms held still left kvs' := by
  obtain ⟨x1, x2, x3, x4, x5⟩ := r.xm
  exact ⟨upd_same, by rw [upd_ne x1.symm]; exact r.m, by rw [upd_ne x2.symm]; exact r.h, by rw [upd_ne x3.symm]; exact r.s, by rw [upd_ne x4.symm]; exact r.l, by rw [upd_ne (ne_of e r.ins (fun z => nomatch z))]; exact e, r.nd, r.ox, r.om, r.oh, r.os, r.ol, hd, same_set r.dh r.ox⟩
end
def PV (D : Hp) (v : V) : Option (Nat × Nat) → Prop
  | none => v = .non
  | some (w, q) => ∃ t, v = .ref t ∧ D t = some (.tup [.int (w : Nat), .int (q : Nat)])
theorem PV.up {D D' : Hp} {v : V} (s : Same D D') : ∀ {o : Option (Nat × Nat)}, PV D v o → PV D' v o
  | none, h => h
  | some (_, _), ⟨t, e, h⟩ => ⟨t, e, s _ _ h⟩
def pk (p : Nat) : Key := Sum.inl ((p : Nat) : Int)
theorem pk_inj {p q : Nat} (h : pk p = pk q) : p = q := by
  have := Sum.inl.inj h
  omega
structure CameAt (D : Hp) (kvs : List (Key × V)) (c : Came) : Prop where
  keys : kvs.map Prod.fst = c.map fun e => pk e.1
  vals : L13.Els PV D (kvs.map Prod.snd) (c.map Prod.snd)
theorem CameAt.nil {D : Hp} : CameAt D [] [] := ⟨rfl, L13.Els.nil⟩
theorem CameAt.up {D D' : Hp} {kvs : List (Key × V)} {c : Came} (s : Same D D') (h : CameAt D kvs c) : CameAt D' kvs c := ⟨h.keys, h.vals.up fun _ _ => PV.up s⟩
theorem CameAt.len {D : Hp} {kvs : List (Key × V)} {c : Came} (h : CameAt D kvs c) : kvs.length = c.length := by
  have := congrArg List.length h.keys
  rwa [List.length_map, List.length_map] at this
theorem CameAt.key {D : Hp} {kvs : List (Key × V)} {c : Came} (h : CameAt D kvs c) {kv : Key × V} (hm : kv ∈ kvs) : ∃ e ∈ c, kv.1 = pk e.1 := by
  have : kv.1 ∈ kvs.map Prod.fst := List.mem_map.mpr ⟨kv, hm, rfl⟩
  rw [h.keys] at this
  obtain ⟨e, he, h1⟩ := List.mem_map.mp this
  exact ⟨e, he, h1.symm⟩
theorem CameAt.has {D : Hp} {kvs : List (Key × V)} {c : Came} (h : CameAt D kvs c) (p : Nat) : (valV kvs (pk p)).isSome = decide (p ∈ c.map Prod.fst) := by
  unfold valV
  rw [Option.isSome_map, Bool.eq_iff_iff, List.find?_isSome, decide_eq_true_eq]
  constructor
  · rintro ⟨kv, hm, e⟩
    obtain ⟨x, hx, h1⟩ := h.key hm
    rw [h1] at e
    rw [← pk_inj (of_decide_eq_true e)]
    exact List.mem_map.mpr ⟨x, hx, rfl⟩
  · intro hp
    obtain ⟨x, hx, rfl⟩ := List.mem_map.mp hp
    have : pk x.1 ∈ kvs.map Prod.fst := by rw [h.keys]; exact List.mem_map.mpr ⟨x, hx, rfl⟩
    obtain ⟨kv, hkv, e⟩ := List.mem_map.mp this
    exact ⟨kv, hkv, decide_eq_true e⟩
theorem CameAt.snoc {D : Hp} {kvs : List (Key × V)} {c : Came} (h : CameAt D kvs c) {p : Nat} {v : V} {o : Option (Nat × Nat)} (hn : p ∉ c.map Prod.fst) (hv : PV D v o) : putK kvs (pk p) v = kvs ++ [(pk p, v)] ∧ CameAt D (kvs ++ [(pk p, v)]) (c ++ [(p, o)]) := by
  refine ⟨?_, ?_, ?_⟩
  · unfold putK
    rw [if_neg]
    intro z
    obtain ⟨kv, hm, e⟩ := List.any_eq_true.mp z
    obtain ⟨x, hx, h1⟩ := h.key hm
    rw [h1] at e
    exact hn (by rw [← pk_inj (of_decide_eq_true e)]; exact List.mem_map.mpr ⟨x, hx, rfl⟩)
  · rw [List.map_append, List.map_append, h.keys]
    rfl
  · rw [List.map_append, List.map_append]
    exact h.vals.snoc hv
theorem val_at : ∀ {kvs : List (Key × V)} {i : Nat} {k : Key} {v : V}, (kvs.map Prod.fst).Nodup → kvs[i]? = some (k, v) → valV kvs k = some v
  | [], i, k, v, _, e => by cases e
  | (a, b) :: r, 0, k, v, _, e => by
    cases e
    exact valV_pos rfl
  | (a, b) :: r, i + 1, k, v, hn, e => by
    have ⟨h1, h2⟩ := List.nodup_cons.mp hn
    have hne : ¬ (a = k) := fun z => h1 (by rw [show (a, b).1 = k from z]; exact List.mem_map.mpr ⟨(k, v), List.mem_of_getElem? e, rfl⟩)
    have := val_at h2 e
    unfold valV at this ⊢
    rw [List.find?_cons_of_neg (by simpa using hne)]
    exact this
theorem CameAt.get {D : Hp} {kvs : List (Key × V)} {c : Came} (h : CameAt D kvs c) (hn : (c.map Prod.fst).Nodup) {i p : Nat} {o : Option (Nat × Nat)} (e : c[i]? = some (p, o)) : ∃ v, valV kvs (pk p) = some v ∧ PV D v o := by
  have e2 : (c.map Prod.snd)[i]? = some o := by rw [List.getElem?_map, e]; rfl
  obtain ⟨v, ev, pv⟩ := h.vals.at_ e2
  rw [List.getElem?_map] at ev
  obtain ⟨kv, ekv, rfl⟩ := Option.map_eq_some_iff.mp ev
  have ek : kv.1 = pk p := by
    have h1 : (kvs.map Prod.fst)[i]? = some kv.1 := by rw [List.getElem?_map, ekv]; rfl
    rw [h.keys, List.getElem?_map, e] at h1
    exact (Option.some.inj h1).symm
  refine ⟨kv.2, val_at ?_ (by rw [ekv, ← ek]), pv⟩
  rw [h.keys, show (fun e : Nat × Option (Nat × Nat) => pk e.1) = pk ∘ Prod.fst from rfl, ← List.map_map]
  exact List.Pairwise.map _ (fun a b hab z => hab (pk_inj z)) hn
theorem Dlr.fresh {C : Addr} {D H : Hp} {x dx pm ph ps pl pc : Addr} {ms held still left : List Nat} {kvs : List (Key × V)} (r : Dlr C D H x dx pm ph ps pl pc ms held still left kvs) {b : Addr} (hb : H b = none) : b ∉ [x, pm, ph, ps, pl, pc] := by
  have nn : ∀ {y : Addr} {o : HO}, H y = some o → ¬ b = y := fun e z => by rw [z, e] at hb; cases hb
  simp only [List.mem_cons, List.not_mem_nil, or_false, not_or]
  exact ⟨nn r.ins, nn r.m, nn r.h, nn r.s, nn r.l, nn r.c⟩
theorem paper_len {n : Nat} {P : List Nat} (h : Paper n P) : P.length ≤ n := by
  have h := sub_sum (f := fun _ => one true) h.1 (mem_range_of h)
  rw [← countP_one (fun _ => true), ← countP_one (fun _ => true), List.countP_true, List.length_range] at h
  exact h
theorem tree_len {ms held still : List Nat} {n : Nat} {c : Came} (t : Tree ms held still n c) : c.length ≤ n := by
  have h := paper_len (n := n) (P := c.map Prod.fst) ⟨t.nd, fun p hp => by
    obtain ⟨x, hx, rfl⟩ := List.mem_map.mp hp
    exact t.lt x hx⟩
  rwa [List.length_map] at h
theorem mask1 (b w : Nat) : (CB.maskOf [b]).testBit w = decide (w = b) := by
  rw [CB.mask_bit, Bool.eq_iff_iff]
  simp
theorem fm_filter {α β : Type} {g : α → Option β} {p : α → Bool} {h : α → β} : ∀ {L : List α}, (∀ j ∈ L, g j = if p j = true then some (h j) else none) → L.filterMap g = (L.filter p).map h
  | [], _ => rfl
  | a :: L, hg => by
    have ih := fm_filter (g := g) (p := p) (h := h) (L := L) fun j hj => hg j (List.mem_cons_of_mem _ hj)
    have ha := hg a (List.mem_cons_self ..)
    cases e : p a with
    | true =>
      rw [e, if_pos rfl] at ha
      rw [List.filterMap_cons_some ha, List.filter_cons_of_pos e, List.map_cons, ih]
    | false =>
      rw [e, if_neg (by decide)] at ha
      rw [List.filterMap_cons_none ha, List.filter_cons_of_neg (by rw [e]; decide), ih]
def posn (l : List Nat) : List Nat := (List.range l.length).filter fun w => decide (0 < l.getD w 0)
theorem mem_posn {l : List Nat} {w : Nat} : w ∈ posn l ↔ 0 < l.getD w 0 := by
  unfold posn
  rw [List.mem_filter, List.mem_range, decide_eq_true_eq]
  refine ⟨fun h => h.2, fun h => ⟨?_, h⟩⟩
  by_cases hw : w < l.length
  · exact hw
  · rw [List.getD_eq_getElem?_getD, List.getElem?_eq_none (by omega)] at h
    exact absurd h (Nat.lt_irrefl 0)
theorem posn_lt {l : List Nat} {w : Nat} (h : w ∈ posn l) : w < l.length := List.mem_range.mp (List.mem_filter.mp h).1
theorem posn_nd (l : List Nat) : (posn l).Nodup := List.nodup_range.filter _
theorem posn_len (l : List Nat) : (posn l).length ≤ l.length := Nat.le_trans (List.length_filter_le _ _) (by rw [List.length_range]; exact Nat.le_refl _)
def posF : Nat → V → Option V := fun i y => match y with | .int z => if 0 < z then some (.int (i : Nat)) else none | _ => none
theorem enum_pos (l : List Nat) : L5.enumF posF (nV l) (nV l).length = nV (posn l) := by
  unfold L5.enumF posn
  have ln : (nV l).length = l.length := by unfold nV; rw [List.length_map]
  rw [ln]
  show _ = List.map _ _
  refine fm_filter fun j hj => ?_
  have hj' := List.mem_range.mp hj
  unfold nV
  rw [List.getElem?_map, List.getElem?_eq_getElem hj']
  have e : l.getD j 0 = l[j] := by rw [List.getD_eq_getElem?_getD, List.getElem?_eq_getElem hj']; rfl
  show (if (0 : Int) < ((l[j] : Nat) : Int) then some (V.int (j : Nat)) else none) = _
  rw [e]
  by_cases h : 0 < l[j]
  · rw [if_pos (by omega), if_pos (decide_eq_true h)]
  · rw [if_neg (by omega), if_neg (by rw [decide_eq_false h]; decide)]
def roots (l : List Nat) : Came := l.map fun p => (p, none)
theorem roots_fst (l : List Nat) : (roots l).map Prod.fst = l := by
  unfold roots
  rw [List.map_map]
  exact List.map_id l
theorem tree_roots {ms held still : List Nat} {n : Nat} (h : still.length = n) : Tree ms held still n (roots (posn still)) := by
  refine ⟨by rw [roots_fst]; exact posn_nd still, fun x hx => ?_, fun i p o e => ?_⟩
  · obtain ⟨p, hp, rfl⟩ := List.mem_map.mp hx
    rw [← h]
    exact posn_lt hp
  · unfold roots at e
    rw [List.getElem?_map] at e
    obtain ⟨p', hp, e2⟩ := Option.map_eq_some_iff.mp e
    obtain ⟨rfl, rfl⟩ := Prod.mk.inj e2
    exact mem_posn.mp (List.mem_of_getElem? hp)
theorem Done.nil {ms held left : List Nat} {n : Nat} {c : Came} : Done ms held left n c 0 := ⟨fun j _ _ h => absurd h (Nat.not_lt_zero j), fun j _ _ h => absurd h (Nat.not_lt_zero j)⟩
theorem Done.step {ms held left : List Nat} {n : Nat} {c new : Came} {k p : Nat} {o : Option (Nat × Nat)} (h : Done ms held left n c k) (hk : c[k]? = some (p, o)) (h1 : ∀ w, hb ms p w = true → hb held p w = false → left.getD w 0 = 0) (h2 : ∀ w, hb ms p w = true → hb held p w = false → ∀ q, q < n → hb held q w = true → q ∈ (c ++ new).map Prod.fst) : Done ms held left n (c ++ new) (k + 1) := by
  have hkl : k < c.length := (List.getElem?_eq_some_iff.mp hk).1
  refine ⟨fun j p' o' hj e => ?_, fun j p' o' hj e => ?_⟩ <;> rw [List.getElem?_append_left (by omega)] at e
  · by_cases z : j = k
    · subst z
      rw [hk] at e
      obtain ⟨rfl, rfl⟩ := Prod.mk.inj (Option.some.inj e)
      exact h1
    · exact h.none j p' o' (by omega) e
  · by_cases z : j = k
    · subst z
      rw [hk] at e
      obtain ⟨rfl, rfl⟩ := Prod.mk.inj (Option.some.inj e)
      exact h2
    · intro w e1 e2 q hq e3
      rw [List.map_append]
      exact List.mem_append_left _ (h.shut j p' o' (by omega) e w e1 e2 q hq e3)
def Agree (held hk : List Nat) (c : Came) (j : Nat) : Prop := ∀ (i p : Nat) (o : Option (Nat × Nat)), i ≤ j → c[i]? = some (p, o) → hk.getD p 0 = held.getD p 0
theorem nd_ix {c : Came} (h : (c.map Prod.fst).Nodup) {i j p : Nat} {o u : Option (Nat × Nat)} (hi : c[i]? = some (p, o)) (hj : c[j]? = some (p, u)) : i = j := by
  have li : i < (c.map Prod.fst).length := by rw [List.length_map]; exact (List.getElem?_eq_some_iff.mp hi).1
  have lj : j < (c.map Prod.fst).length := by rw [List.length_map]; exact (List.getElem?_eq_some_iff.mp hj).1
  have e1 : (c.map Prod.fst)[i]? = some p := by rw [List.getElem?_map, hi]; rfl
  have e2 : (c.map Prod.fst)[j]? = some p := by rw [List.getElem?_map, hj]; rfl
  rw [List.getElem?_eq_getElem li] at e1
  rw [List.getElem?_eq_getElem lj] at e2
  have e : (c.map Prod.fst)[i] = (c.map Prod.fst)[j] := by rw [Option.some.inj e1, Option.some.inj e2]
  rcases Nat.lt_trichotomy i j with z | z | z
  · exact absurd e (List.pairwise_iff_getElem.mp h i j li lj z)
  · exact z
  · exact absurd e.symm (List.pairwise_iff_getElem.mp h j i lj li z)
theorem hand_go {ws os ms held hk still left : List Nat} {c : Came} {k p j b q : Nat} (tr : Tree ms held still ms.length c) (h : Hand ws os ms hk still left k p) (ej : c[j]? = some (p, some (b, q))) (ag : Agree held hk c j) {x y : Nat} (hx : ∀ w, x.testBit w = (hb hk p w || decide (w = k))) (hy : ∀ w, y.testBit w = (x.testBit w && !decide (w = b))) :
    ∃ i o, i < j ∧ c[i]? = some (q, o) ∧ Hand ws os ms ((hk.set p x).set p y) still left b q ∧ Agree held ((hk.set p x).set p y) c i := by
  obtain ⟨⟨i, o, hi, ei⟩, h1, h2, h3⟩ := tr.edge j p _ ej
  have hb1 : hb hk p b = true := by
    unfold hb
    rw [ag j p _ (Nat.le_refl _) ej]
    exact h3
  have hb2 : hb hk q b = false := by
    unfold hb
    rw [ag i q _ (by omega) ei]
    exact h2
  have hqp : q ≠ p := fun z => by
    subst z
    have := nd_ix tr.nd ei ej
    omega
  refine ⟨i, o, hi, ei, h.next hx hy hb1 (tr.lt _ (List.mem_of_getElem? ei)) hqp h1 hb2, fun i' p' o' hi' e' => ?_⟩
  have hp' : p' ≠ p := fun z => by
    subst z
    have := nd_ix tr.nd e' ej
    omega
  have hpl : p < hk.length := by rw [h.lh]; exact h.pl
  rw [CP.getD_set _ _ _ _ (by rw [List.length_set]; exact hpl), if_neg hp', CP.getD_set _ _ _ _ hpl, if_neg hp']
  exact ag i' p' o' (by omega) e'
theorem sumN_set : ∀ {l : List Nat} {p : Nat}, 0 < l.getD p 0 → sumN (l.set p (l.getD p 0 - 1)) + 1 = sumN l
  | [], p, h => absurd h (Nat.lt_irrefl 0)
  | a :: l, 0, h => by
    have h' : 0 < a := h
    show a - 1 + sumN l + 1 = a + sumN l
    omega
  | a :: l, p + 1, h => by
    have := sumN_set (l := l) (p := p) h
    show a + sumN (l.set p (l.getD p 0 - 1)) + 1 = a + sumN l
    omega
theorem f_none {pm ph ps pl pc : Addr} {m : Str} (h : m ≠ "masks" ∧ m ≠ "held" ∧ m ≠ "still" ∧ m ≠ "left" ∧ m ≠ "came") : (fs pm ph ps pl pc).lookup m = none := by
  unfold fs
  rw [lk_miss h.1, lk_miss h.2.1, lk_miss h.2.2.1, lk_miss h.2.2.2.1, lk_miss h.2.2.2.2]
  rfl
structure Bld (C : Addr) (H0 H : Hp) (x dx : Addr) (fs : List (Str × V)) (ls : List (Addr × List Nat)) : Prop where
  ins : H x = some (.ins C dx fs)
  keep : ∀ b u, b ≠ x → H0 b = some u → H b = some u
  at_ : ∀ e ∈ ls, H e.1 = some (.lst (nV e.2)) ∧ H0 e.1 = none ∧ e.1 ≠ x
  nd : (ls.map Prod.fst).Nodup
theorem Bld.grow {C : Addr} {H0 H H' : Hp} {x dx : Addr} {fs : List (Str × V)} {ls : List (Addr × List Nat)} (B : Bld C H0 H x dx fs ls) (s : Same H H') : Bld C H0 H' x dx fs ls :=
  ⟨s _ _ B.ins, fun b u hb e => s _ _ (B.keep b u hb e), fun e he => ⟨s _ _ (B.at_ e he).1, (B.at_ e he).2⟩, B.nd⟩
theorem Bld.free {C : Addr} {H0 H : Hp} {x dx : Addr} {fs : List (Str × V)} {ls : List (Addr × List Nat)} (B : Bld C H0 H x dx fs ls) {p : Addr} (hp : H p = none) : H0 p = none ∧ p ≠ x ∧ p ∉ ls.map Prod.fst := by
  have hx : p ≠ x := fun z => by rw [z, B.ins] at hp; cases hp
  refine ⟨?_, hx, fun hm => ?_⟩
  · cases e : H0 p with
    | none => rfl
    | some u => rw [B.keep p u hx e] at hp; cases hp
  · obtain ⟨e, he, rfl⟩ := List.mem_map.mp hm
    rw [(B.at_ e he).1] at hp
    cases hp
theorem Bld.set {C : Addr} {H0 H : Hp} {x dx : Addr} {fs : List (Str × V)} {ls : List (Addr × List Nat)} (B : Bld C H0 H x dx fs ls) (fs' : List (Str × V)) : Bld C H0 (upd H x (.ins C dx fs')) x dx fs' ls :=
  ⟨upd_same, fun b u hb e => by rw [upd_ne hb]; exact B.keep b u hb e, fun e he => ⟨by rw [upd_ne (B.at_ e he).2.2]; exact (B.at_ e he).1, (B.at_ e he).2⟩, B.nd⟩
theorem Bld.put {C : Addr} {H0 H H' : Hp} {x dx : Addr} {fs : List (Str × V)} {ls : List (Addr × List Nat)} (B : Bld C H0 H x dx fs ls) {p : Addr} {l : List Nat} (hp : H p = none) (s : Same H H') (e : H' p = some (.lst (nV l))) : Bld C H0 H' x dx fs (ls ++ [(p, l)]) := by
  obtain ⟨h1, h2, h3⟩ := B.free hp
  have B' := B.grow s
  refine ⟨B'.ins, B'.keep, fun y hy => ?_, ?_⟩
  · rcases List.mem_append.mp hy with z | z
    · exact B'.at_ y z
    · rw [List.mem_singleton.mp z]
      exact ⟨e, h1, h2⟩
  · rw [List.map_append]
    refine List.nodup_append.mpr ⟨B'.nd, List.nodup_cons.mpr ⟨(fun z => nomatch z), List.nodup_nil⟩, fun u hu y hy z => ?_⟩
    rw [List.mem_singleton.mp hy] at z
    have z' : u = p := z
    exact h3 (z' ▸ hu)
theorem Bld.dlr {C : Addr} {D H0 H : Hp} {x dx pm ph ps pl pc : Addr} {ms held still left : List Nat} (B : Bld C H0 H x dx (fs pm ph ps pl pc) [(pm, ms), (ph, held), (ps, still), (pl, left)]) (sD : Same D H0) (hx : D x = none) (e : H pc = some (.dK [])) (hc : H0 pc = none) : Dlr C D H x dx pm ph ps pl pc ms held still left [] := by
  have a1 := B.at_ (pm, ms) (by simp)
  have a2 := B.at_ (ph, held) (by simp)
  have a3 := B.at_ (ps, still) (by simp)
  have a4 := B.at_ (pl, left) (by simp)
  exact ⟨B.ins, a1.1, a2.1, a3.1, a4.1, e, B.nd, hx, sD.free a1.2.1, sD.free a2.2.1, sD.free a3.2.1, sD.free a4.2.1, sD.free hc, fun b u eb => B.keep b u (fun z => by rw [z, hx] at eb; cases eb) (sD b u eb)⟩
theorem p_cameR {pm ph ps pl pc pd : Addr} : putF "came" (.ref pd) (fs pm ph ps pl pc) = fs pm ph ps pl pd := p_came
theorem p1 {v : V} : putF "masks" v [] = ([("masks", v)] : List (Str × V)) := rfl
theorem p2 {v a : V} : putF "held" v ([("masks", a)] : List (Str × V)) = ([("masks", a), ("held", v)] : List (Str × V)) := by rw [pf_miss nms.1]; rfl
theorem p3 {v a b : V} : putF "still" v ([("masks", a), ("held", b)] : List (Str × V)) = ([("masks", a), ("held", b), ("still", v)] : List (Str × V)) := by rw [pf_miss nms.2.1, pf_miss nms.2.2.1]; rfl
theorem p4 {v a b c : V} : putF "left" v ([("masks", a), ("held", b), ("still", c)] : List (Str × V)) = ([("masks", a), ("held", b), ("still", c), ("left", v)] : List (Str × V)) := by rw [pf_miss nms.2.2.2.1, pf_miss nms.2.2.2.2.1, pf_miss nms.2.2.2.2.2.1]; rfl
theorem p5 {v a b c d : V} : putF "came" v ([("masks", a), ("held", b), ("still", c), ("left", d)] : List (Str × V)) = ([("masks", a), ("held", b), ("still", c), ("left", d), ("came", v)] : List (Str × V)) := by rw [pf_miss nms.2.2.2.2.2.2.1, pf_miss nms.2.2.2.2.2.2.2.1, pf_miss nms.2.2.2.2.2.2.2.2.1, pf_miss nms.2.2.2.2.2.2.2.2.2]; rfl
theorem zeros (ms : List Nat) : (nV ms).filterMap (fun _ => some (V.int 0)) = nV (List.replicate ms.length 0) := by
  induction ms with
  | nil => rfl
  | cons a r ih =>
    show V.int 0 :: (nV r).filterMap (fun _ => some (V.int 0)) = nV (0 :: List.replicate r.length 0)
    rw [ih]
    rfl
theorem contains_posn (l : List Nat) (w : Nat) : (posn l).contains w = decide (0 < l.getD w 0) := by
  rw [Bool.eq_iff_iff, List.contains_iff_mem, decide_eq_true_eq]
  exact mem_posn
theorem sum_nat (l : List Nat) : preSum (fun i => (l.map fun n : Nat => (n : Int)).getD i 0) (l.map fun n : Nat => (n : Int)).length = ((sumN l : Nat) : Int) := by
  rw [L7.preSum_all]
  refine (sumZ_nat (fun n => n) l).trans ?_
  rw [List.map_id']
def PrT (p : Nat) (D : Hp) (v : V) (w : Nat) : Prop := ∃ t, v = .ref t ∧ D t = some (.tup [.int (w : Nat), .int (p : Nat)])
theorem PrT.up {p : Nat} {D D' : Hp} {v : V} {w : Nat} (s : Same D D') : PrT p D v w → PrT p D' v w := fun ⟨t, e, h⟩ => ⟨t, e, s _ _ h⟩
end CO
namespace L15
open PySem PySem.Spec PySem.W PyProof.Rows L2 L3 L4 L6 L7
section
variable {X : Cx}
theorem call_sortedD (hc : X.calm = true) : CallR X (.builtin "sorted") (fun xs H Q => ∃ (a : Addr) (kvs : List (Key × V)) (ks : List Int), xs = [V.ref a] ∧ Rd H a (.dK kvs) ∧ kvs.map Prod.fst = ks.map Sum.inl ∧ ks.length < 64 ∧ ∀ l zs, H l = none → List.Perm zs ks → zs.Pairwise (· ≤ ·) → Q (.ref l) (upd H l (.lst (zs.map V.int)))) := by
  intro pins s σ H xs us Q I r h
  obtain ⟨a, kvs, ks, rfl, hr, ek, h64, q⟩ := h
  obtain ⟨u, rfl, rx⟩ := vals1 r
  cases rx
  obtain ⟨z, y, vs, rel, dd⟩ := dk_rd I.hok hr
  obtain ⟨ep, da⟩ := dd.dictAt
  have hl := Paired.length rel
  have hk : kvs.length = ks.length := by
    have := congrArg List.length ek
    rwa [List.length_map, List.length_map] at this
  have line : 64 ≤ sizeLine := by decide
  obtain ⟨m, F⟩ := L12.fr_all I
  refine kdu_sorted (A := X.A) (kdl_dict (knd := mixKind X.prog X.w) (kvs := vs) (ep := ep) y) (I.ok.hd hc) F (L12.news_all s.heap X.env.locals) da (by omega) fun D h' tk us F' N' hD hlu hu => ?_
  have rv : Vals (ks.map V.int) us := by
    refine vals_get (by rw [List.length_map]; omega) fun i x u h1 h2 => ?_
    rw [List.getElem?_map] at h1
    obtain ⟨k0, hk0, rfl⟩ := Option.map_eq_some_iff.mp h1
    obtain ⟨k, x', h3, h4⟩ := hu i u h2
    have e5 : (kvs.map Prod.fst)[i]? = some (Sum.inl k0) := by rw [ek, List.getElem?_map, hk0]; rfl
    rw [List.getElem?_map] at e5
    obtain ⟨p, hp, ep5⟩ := Option.map_eq_some_iff.mp e5
    obtain ⟨v, hv⟩ := kv_get rel hp
    rw [h3] at hv
    have e6 : k = Sum.inl k0 := (Prod.mk.inj (Option.some.inj hv)).1.trans ep5
    subst e6
    exact rel_key h4
  have eD := (N' _ (List.mem_cons_self ..)).1
  have nD : D ≠ X.env.locals := (N' _ (List.mem_cons_self ..)).2.1
  refine wpAny_call_entry slot_list_sort ⟨_, eD, rfl⟩ entry_list_sort (list_sort_tree eD (vals_ints rv) (by omega) fun out ns' a1 a2 a3 => ⟨_, rfl, ?_⟩) (args_list_sort _)
  obtain ⟨n', e'⟩ := sortedHeap_at (out := out) eD
  have old : ∀ b o, b ≠ D → h'.get? b = some o → (sortedHeap h' D us out).get? b = some o := fun b o hb e => (sortedHeap_old hb (Heap.lt_size e)).trans e
  have F'' : Fr L12.bare X.env.locals (sortedHeap h' D us out) m := by
    obtain ⟨o, x1, x2, ho, rest⟩ := F'.ns
    exact ⟨⟨o, x1, x2, old _ _ nD.symm ho, rest⟩, (fun b o e => by rw [L12.bare_none] at e; cases e), Nat.zero_le _⟩
  have N'' : News L12.bare X.env.locals (sortedHeap h' D us out) (L12.allN s.heap X.env.locals) := fun p hp => ⟨old _ _ (Nat.ne_of_lt (hD p hp)) (N' p (List.mem_cons_of_mem _ hp)).1, (N' p (List.mem_cons_of_mem _ hp)).2⟩
  obtain ⟨noD, I'⟩ := L12.inv_more I F (t' := tk) F'' N'' (its := out.toList) (by rw [Array.toArray_toList]; exact e') hD nD (ints_vals a1) (by rw [List.length_map, a2.length_eq]; omega)
  exact ⟨.ref D, _, I', rfl, q D ns' noD a2 a3⟩
end
end L15
namespace CD
end CD
namespace CD
structure Gd (ws os ms : List Nat) : Prop where
  len : ws.length = ms.length
  one : 1 ≤ ws.length
  sev : ws.length ≤ 7
  many : os.length ≤ 25
  wt : ∀ (k w : Nat), ws[k]? = some w → 1 ≤ k → w ≤ 4
  ml : ∀ m ∈ ms, m < 2 ^ os.length
theorem sum_min {B : Nat} (L : Nat) : ∀ r : List Nat, (∀ w ∈ r, w ≤ B) → sumN (r.map fun n => min n L) ≤ B * r.length
  | [], _ => Nat.zero_le _
  | a :: r, h => by
    have h1 := h a (List.mem_cons_self ..)
    have h2 := sum_min L r fun w hw => h w (List.mem_cons_of_mem _ hw)
    show min a L + sumN (r.map fun n => min n L) ≤ B * (r.length + 1)
    rw [Nat.mul_succ]
    omega
theorem Gd.few {ws os ms : List Nat} (g : Gd ws os ms) : sumN (ws.map fun n => min n os.length) < 64 := by
  have h1 := g.sev
  have h2 := g.many
  have h3 := g.wt
  cases ws with
  | nil => exact (by decide : 0 < 64)
  | cons a r =>
    have h4 := sum_min (B := 4) os.length r fun w hw => by
      obtain ⟨k, hk, rfl⟩ := List.getElem_of_mem hw
      exact h3 (k + 1) _ (by rw [List.getElem?_cons_succ]; exact List.getElem?_eq_getElem hk) (by omega)
    show min a os.length + sumN (r.map fun n => min n os.length) < 64
    rw [List.length_cons] at h1
    omega
theorem Gd.of {ws os ms : List Nat} (g : CG.Good 24 ws os ms) : Gd ws os ms := ⟨g.len, g.one, by have := g.six; omega, by have := g.many; omega, fun k w h1 h2 => by have := g.wt k w h1 h2; omega, g.ml⟩
end CD
namespace CD
theorem hb_zero (n p w : Nat) : hb (List.replicate n 0) p w = false := by
  unfold hb
  have e : (List.replicate n 0).getD p 0 = 0 := by
    rw [List.getD_eq_getElem?_getD]
    by_cases h : p < n
    · rw [List.getElem?_replicate, if_pos h]; rfl
    · rw [List.getElem?_replicate, if_neg h]; rfl
  rw [e]
  exact Nat.zero_testBit w
theorem Deal.start {ws os ms : List Nat} (lw : ws.length = ms.length) (hm : ∀ m ∈ ms, m < 2 ^ os.length) : Deal ws os ms (List.replicate ms.length 0) ws os := by
  refine ⟨List.length_replicate, lw, lw, rfl, fun p w e => ?_, fun p w e => ?_, fun w _ => ?_, fun p _ => ?_⟩
  · rw [hb_zero] at e
    cases e
  · unfold hb at e
    by_cases hp : p < ms.length
    · have h1 : ms.getD p 0 ∈ ms := by
        rw [List.getD_eq_getElem?_getD, List.getElem?_eq_getElem hp]
        exact List.getElem_mem hp
      by_cases hw : w < os.length
      · exact hw
      · have h2 : ms.getD p 0 < 2 ^ w := Nat.lt_of_lt_of_le (hm _ h1) (Nat.pow_le_pow_right (by decide) (by omega))
        rw [Nat.testBit_lt_two_pow h2] at e
        cases e
    · rw [List.getD_eq_getElem?_getD, List.getElem?_eq_none (by omega)] at e
      rw [show (none : Option Nat).getD 0 = 0 from rfl, Nat.zero_testBit] at e
      cases e
  · have : col (List.replicate ms.length 0) (List.range ms.length) w = 0 := by
      unfold col
      rw [List.countP_eq_zero]
      intro p _ e
      rw [hb_zero] at e
      cases e
    omega
  · have : row (List.replicate ms.length 0) os.length p = 0 := by
      unfold row
      rw [List.countP_eq_zero]
      intro w _ e
      rw [hb_zero] at e
      cases e
    omega
theorem Deal.small {ws os ms held still left : List Nat} (d : Deal ws os ms held still left) {m : Nat} (h : m ∈ held) : m < 2 ^ os.length := by
  obtain ⟨p, hp, rfl⟩ := List.getElem_of_mem h
  refine Nat.lt_pow_two_of_testBit _ fun w hw => ?_
  cases e : (held[p]).testBit w with
  | false => rfl
  | true =>
    have : hb held p w = true := by
      unfold hb
      rw [List.getD_eq_getElem?_getD, List.getElem?_eq_getElem hp]
      exact e
    have := d.lt p w (d.sub p w this)
    omega
theorem memb_len {m n : Nat} (h : m < 2 ^ n) : (CB.memb m).length = (List.range n).countP fun w => m.testBit w := by
  rw [List.countP_eq_length_filter]
  refine congrArg List.length (CB.rise_eq (CB.memb_up m) (List.Pairwise.filter _ List.pairwise_lt_range) fun k => ?_)
  rw [CB.mem_memb, List.mem_filter, List.mem_range]
  refine ⟨fun e => ⟨?_, e⟩, fun e => e.2⟩
  by_cases hk : k < n
  · exact hk
  · rw [Nat.testBit_lt_two_pow (Nat.lt_of_lt_of_le h (Nat.pow_le_pow_right (by decide) (by omega)))] at e
    cases e
theorem sum_ix (f : Nat → Nat) (l : List Nat) : sumN (l.map f) = sumN ((List.range l.length).map fun p => f (l.getD p 0)) := by
  congr 1
  apply List.ext_getElem?
  intro i
  rw [List.getElem?_map, List.getElem?_map]
  by_cases hi : i < l.length
  · rw [List.getElem?_range hi, List.getElem?_eq_getElem hi]
    show some (f l[i]) = some (f (l.getD i 0))
    rw [List.getD_eq_getElem?_getD, List.getElem?_eq_getElem hi]
    rfl
  · rw [List.getElem?_eq_none (by omega), List.getElem?_eq_none (by rw [List.length_range]; omega)]
    rfl
theorem Deal.few {ws os ms held still left : List Nat} (d : Deal ws os ms held still left) : sumN (held.map fun m => (CB.memb m).length) ≤ sumN (ws.map fun n => min n os.length) := by
  rw [sum_ix _ held, sum_ix _ ws, d.lh, d.lw]
  refine sumN_le fun p hp => ?_
  have hp' := List.mem_range.mp hp
  have hm : held.getD p 0 ∈ held := by
    rw [List.getD_eq_getElem?_getD, List.getElem?_eq_getElem (by rw [d.lh]; exact hp')]
    exact List.getElem_mem _
  have e : (CB.memb (held.getD p 0)).length = row held os.length p := memb_len (d.small hm)
  have h1 := d.cp p hp'
  have h2 : row held os.length p ≤ os.length := Nat.le_trans List.countP_le_length (by rw [List.length_range]; exact Nat.le_refl _)
  show (CB.memb (held.getD p 0)).length ≤ min (ws.getD p 0) os.length
  omega
end CD
namespace CD
end CD
namespace L16
open PySem PySem.W PyProof.Rows
def run (c : Nat → Nat → Bool) {α : Type} : KasT α → α
  | .ret a => a
  | .ask i j k => run c (k (c i j))
theorem run_bind (c : Nat → Nat → Bool) {α β : Type} (f : α → KasT β) : ∀ t : KasT α, run c (t.bind f) = run c (f (run c t))
  | .ret _ => rfl
  | .ask i j k => run_bind c f (k (c i j))
theorem run_ite (c : Nat → Nat → Bool) {α : Type} {b : Prop} [Decidable b] (x y : KasT α) : run c (if b then x else y) = if b then run c x else run c y := by split <;> rfl
theorem run_wp {c : Nat → Nat → Bool} {α : Type} {n : Nat} {cmp : Nat → Nat → (Bool → Shared → Prop) → Shared → Prop} {Q : α → Shared → Prop} {s : Shared} (hc : ∀ i j C, i < n → j < n → C (c i j) s → cmp i j C s) {R : α → Prop} : ∀ {t : KasT α}, L12.Fine n R t → Q (run c t) s → t.kasWp cmp Q s
  | .ret _, _, h => h
  | .ask i j _, f, h => hc i j _ f.1 f.2.1 (run_wp hc (f.2.2 _) h)
theorem run_fine {c : Nat → Nat → Bool} {α : Type} {n : Nat} {R : α → Prop} : ∀ {t : KasT α}, L12.Fine n R t → R (run c t)
  | .ret _, h => h
  | .ask i j k, h => by
    show R (run c (k (c i j)))
    exact run_fine (n := n) (h.2.2 (c i j))
structure Ord (c : Nat → Nat → Bool) (n : Nat) : Prop where
  asym : ∀ i j, c i j = true → c j i = false
  tr : ∀ i j k, c j i = false → c k j = false → c k i = false
  tot : ∀ i j, i < n → j < n → i ≠ j → c i j = true ∨ c j i = true
section
variable {c : Nat → Nat → Bool} {n : Nat}
theorem Ord.lt (o : Ord c n) {i j k : Nat} (h1 : c i j = true) (h2 : c j k = true) : c i k = true := by
  cases e : c i k with
  | true => rfl
  | false =>
    rw [o.tr j k i (o.asym j k h2) e] at h1
    cases h1
theorem Ord.ltle (o : Ord c n) {k m a : Nat} (h1 : c k m = true) (h2 : c a m = false) : c k a = true := by
  cases e : c k a with
  | true => rfl
  | false =>
    rw [o.tr m a k h2 e] at h1
    cases h1
def Up (c : Nat → Nat → Bool) (p : Array Nat) (k : Nat) : Prop := ∀ a b, a < b → b < k → c (p.getD b 0) (p.getD a 0) = false
def Down (c : Nat → Nat → Bool) (p : Array Nat) (k : Nat) : Prop := ∀ a b, a < b → b < k → c (p.getD b 0) (p.getD a 0) = true
theorem Up.succ (o : Ord c n) {p : Array Nat} {k : Nat} (h : Up c p k) (hk : 0 < k) (h1 : c (p.getD k 0) (p.getD (k - 1) 0) = false) : Up c p (k + 1) := fun a b hab hb => by
  by_cases e : b < k
  · exact h a b hab e
  · obtain rfl : b = k := by omega
    by_cases z : a = b - 1
    · rw [z]
      exact h1
    · exact o.tr _ _ _ (h a (b - 1) (by omega) (by omega)) h1
theorem Down.succ (o : Ord c n) {p : Array Nat} {k : Nat} (h : Down c p k) (hk : 0 < k) (h1 : c (p.getD k 0) (p.getD (k - 1) 0) = true) : Down c p (k + 1) := fun a b hab hb => by
  by_cases e : b < k
  · exact h a b hab e
  · obtain rfl : b = k := by omega
    by_cases z : a = b - 1
    · rw [z]
      exact h1
    · exact o.lt h1 (h a (b - 1) (by omega) (by omega))
theorem run_asc (o : Ord c n) {p : Array Nat} : ∀ f k, 0 < k → Up c p k → k ≤ run c (kas_asc p f k) ∧ run c (kas_asc p f k) ≤ k + f ∧ Up c p (run c (kas_asc p f k)) ∧ (run c (kas_asc p f k) < k + f → c (p.getD (run c (kas_asc p f k)) 0) (p.getD (run c (kas_asc p f k) - 1) 0) = true)
  | 0, k, _, h => ⟨Nat.le_refl _, Nat.le_refl _, h, fun z => absurd z (Nat.lt_irrefl _)⟩
  | f + 1, k, hk, h => by
    have e : run c (kas_asc p (f + 1) k) = if c (p.getD k 0) (p.getD (k - 1) 0) = true then k else run c (kas_asc p f (k + 1)) := by
      show run c (if c (p.getD k 0) (p.getD (k - 1) 0) = true then KasT.ret k else kas_asc p f (k + 1)) = _
      rw [run_ite]
      rfl
    cases h1 : c (p.getD k 0) (p.getD (k - 1) 0) with
    | true =>
      rw [e, h1, if_pos rfl]
      exact ⟨Nat.le_refl _, by omega, h, fun _ => h1⟩
    | false =>
      rw [e, h1, if_neg (by decide)]
      obtain ⟨a1, a2, a3, a4⟩ := run_asc o f (k + 1) (by omega) (h.succ o hk h1)
      exact ⟨by omega, by omega, a3, fun z => a4 (by omega)⟩
theorem perm_ne {p : Array Nat} (h : L12.PermR n p) {i j : Nat} (hi : i < n) (hj : j < n) (hij : i ≠ j) : p.getD i 0 ≠ p.getD j 0 := by
  have hp := Array.perm_iff_toList_perm.mp h
  have hl : p.toList.length = n := by rw [hp.length_eq]; simp
  have nd : p.toList.Nodup := hp.nodup_iff.mpr (by simpa using List.nodup_range)
  have e : ∀ k (hk : k < n), p.getD k 0 = p.toList[k]'(by omega) := fun k hk => by
    have hs : k < p.size := by rw [← Array.length_toList, hl]; exact hk
    simp [Array.getD, hs]
  rw [e i hi, e j hj]
  rcases Nat.lt_or_gt_of_ne hij with z | z
  · exact List.pairwise_iff_getElem.mp nd i j _ _ z
  · exact fun w => List.pairwise_iff_getElem.mp nd j i _ _ z w.symm
theorem run_desc (o : Ord c n) (hn : 0 < n) {p : Array Nat} (hp : L12.PermR n p) : ∀ f k, 0 < k → k + f ≤ n → Down c p k → ∃ m, run c (kas_desc f p k 0) = (p, m, 0) ∧ k ≤ m ∧ m ≤ k + f ∧ Down c p m
  | 0, k, _, _, h => ⟨k, rfl, Nat.le_refl _, Nat.le_refl _, h⟩
  | f + 1, k, hk, hkn, h => by
    have e : run c (kas_desc (f + 1) p k 0) = if c (p.getD k 0) (p.getD (k - 1) 0) = true then run c (kas_desc f p (k + 1) 0) else if c (p.getD (k - 1) 0) (p.getD k 0) = true then (p, k, 0) else run c (kas_desc f p (k + 1) 1) := by
      show run c (if c (p.getD k 0) (p.getD (k - 1) 0) = true then (if 0 > 0 then kas_desc f (kas_rev p (k - (0 + 1)) k) (k + 1) 0 else kas_desc f p (k + 1) 0) else .ask (p.getD (k - 1) 0) (p.getD k 0) fun d => if d = true then .ret (p, k, 0) else kas_desc f p (k + 1) (0 + 1)) = _
      rw [run_ite, if_neg (show ¬ ((0 : Nat) > 0) by decide)]
      show (if c (p.getD k 0) (p.getD (k - 1) 0) = true then run c (kas_desc f p (k + 1) 0) else run c (if c (p.getD (k - 1) 0) (p.getD k 0) = true then .ret (p, k, 0) else kas_desc f p (k + 1) (0 + 1))) = _
      rw [run_ite]
      rfl
    rw [e]
    cases h1 : c (p.getD k 0) (p.getD (k - 1) 0) with
    | true =>
      rw [if_pos rfl]
      obtain ⟨m, a1, a2, a3, a4⟩ := run_desc o hn hp f (k + 1) (by omega) (by omega) (h.succ o hk h1)
      exact ⟨m, a1, by omega, by omega, a4⟩
    | false =>
      have h2 : c (p.getD (k - 1) 0) (p.getD k 0) = true := by
        rcases o.tot (p.getD k 0) (p.getD (k - 1) 0) (hp.lt hn _) (hp.lt hn _) (perm_ne hp (by omega) (by omega) (by omega)) with z | z
        · rw [h1] at z
          cases z
        · exact z
      rw [if_neg (by decide), h2, if_pos rfl]
      exact ⟨k, rfl, Nat.le_refl _, by omega, h⟩
theorem rev_up (o : Ord c n) {p : Array Nat} {m : Nat} (hm : m ≤ p.size) (h : Down c p m) : Up c (kas_rev p 0 m) m := fun a b hab hb => by
  have e : ∀ k, k < m → (kas_rev p 0 m).getD k 0 = p.getD (m - 1 - k) 0 := fun k hk => by
    unfold kas_rev
    rw [Array.getD_eq_getD_getElem?, Array.getD_eq_getD_getElem?, getElem?_mirror_all hm, if_pos ⟨Nat.zero_le _, hk⟩, Nat.zero_add]
  rw [e a (by omega), e b hb]
  exact o.asym _ _ (h (m - 1 - b) (m - 1 - a) (by omega) (by omega))
theorem perm_size {p : Array Nat} (h : L12.PermR n p) : p.size = n := by
  have := (Array.perm_iff_toList_perm.mp h).length_eq
  simpa using this
theorem run_count (o : Ord c n) (hn : 0 < n) {p : Array Nat} (hp : L12.PermR n p) : 1 ≤ (run c (kas_count n p)).1 ∧ (run c (kas_count n p)).1 ≤ n ∧ Up c (run c (kas_count n p)).2 (run c (kas_count n p)).1 := by
  unfold kas_count
  rw [run_bind]
  obtain ⟨a1, a2, a3, a4⟩ := run_asc o (p := p) (n - 1) 1 (by decide) (fun a b h1 h2 => by omega)
  generalize run c (kas_asc p (n - 1) 1) = m at a1 a2 a3 a4 ⊢
  rw [run_ite, run_ite]
  by_cases e1 : m = n
  · rw [if_pos (by rw [e1]; exact beq_self_eq_true _)]
    exact ⟨a1, by show m ≤ n; omega, a3⟩
  rw [if_neg (by rw [beq_iff_eq]; exact e1)]
  by_cases e2 : m > 1
  · rw [if_pos e2]
    show 1 ≤ (run c (if c (p.getD 0 0) (p.getD (m - 1) 0) = true then KasT.ret (m, p) else kas_descPart m n (kas_rev p 0 m))).1 ∧ _
    have h2 : c (p.getD 0 0) (p.getD (m - 1) 0) = true := by
      rcases o.tot (p.getD 0 0) (p.getD (m - 1) 0) (hp.lt hn _) (hp.lt hn _) (perm_ne hp (by omega) (by omega) (by omega)) with z | z
      · exact z
      · rw [a3 0 (m - 1) (by omega) (by omega)] at z
        cases z
    show _ ∧ (run c (if c (p.getD 0 0) (p.getD (m - 1) 0) = true then KasT.ret (m, p) else kas_descPart m n (kas_rev p 0 m))).1 ≤ n ∧ Up c (run c (if c (p.getD 0 0) (p.getD (m - 1) 0) = true then KasT.ret (m, p) else kas_descPart m n (kas_rev p 0 m))).2 (run c (if c (p.getD 0 0) (p.getD (m - 1) 0) = true then KasT.ret (m, p) else kas_descPart m n (kas_rev p 0 m))).1
    rw [if_pos h2]
    exact ⟨a1, by show m ≤ n; omega, a3⟩
  rw [if_neg e2]
  obtain rfl : m = 1 := by omega
  have h1 := a4 (by omega)
  unfold kas_descPart
  rw [run_bind]
  obtain ⟨k, b1, b2, b3, b4⟩ := run_desc o hn hp (n - (1 + 1)) (1 + 1) (by decide) (by omega) (fun a b h3 h4 => by
    obtain rfl : a = 0 := by omega
    obtain rfl : b = 1 := by omega
    exact h1)
  rw [b1]
  show _ ≤ (run c (if 0 > 0 then _ else kas_tail3 k n p)).1 ∧ (run c (if 0 > 0 then _ else kas_tail3 k n p)).1 ≤ n ∧ Up c (run c (if 0 > 0 then _ else kas_tail3 k n p)).2 (run c (if 0 > 0 then _ else kas_tail3 k n p)).1
  rw [if_neg (by decide)]
  unfold kas_tail3
  rw [run_bind]
  obtain ⟨c1, c2, c3, _⟩ := run_asc o (p := kas_rev p 0 k) (n - k) k (by omega) (rev_up o (by rw [perm_size hp]; omega) b4)
  exact ⟨by show 1 ≤ run c _; omega, by show run c _ ≤ n; omega, c3⟩
theorem run_place (o : Ord c n) {p : Array Nat} {k : Nat} (h : Up c p k) : ∀ f l r, l ≤ r → r ≤ k → r - l ≤ f → (∀ a, a < l → c (p.getD k 0) (p.getD a 0) = false) → (∀ a, r ≤ a → a < k → c (p.getD k 0) (p.getD a 0) = true) →
    run c (kas_place p k f l r) ≤ k ∧ (∀ a, a < run c (kas_place p k f l r) → c (p.getD k 0) (p.getD a 0) = false) ∧ (∀ a, run c (kas_place p k f l r) ≤ a → a < k → c (p.getD k 0) (p.getD a 0) = true)
  | 0, l, r, h1, h2, h3, h4, h5 => by
    obtain rfl : l = r := by omega
    exact ⟨h2, h4, h5⟩
  | f + 1, l, r, h1, h2, h3, h4, h5 => by
    show run c (if l ≥ r then KasT.ret l else _) ≤ k ∧ _
    by_cases e : l ≥ r
    · obtain rfl : l = r := by omega
      have e0 : run c (kas_place p k (f + 1) l l) = l := by
        show run c (if l ≥ l then KasT.ret l else _) = l
        rw [if_pos (Nat.le_refl _)]
        rfl
      rw [if_pos (Nat.le_refl _)]
      rw [e0]
      exact ⟨h2, h4, h5⟩
    · have e0 : run c (kas_place p k (f + 1) l r) = if c (p.getD k 0) (p.getD ((l + r) / 2) 0) = true then run c (kas_place p k f l ((l + r) / 2)) else run c (kas_place p k f ((l + r) / 2 + 1) r) := by
        show run c (if l ≥ r then KasT.ret l else .ask (p.getD k 0) (p.getD ((l + r) / 2) 0) fun d => if d = true then kas_place p k f l ((l + r) / 2) else kas_place p k f ((l + r) / 2 + 1) r) = _
        rw [if_neg e]
        show run c (if c (p.getD k 0) (p.getD ((l + r) / 2) 0) = true then kas_place p k f l ((l + r) / 2) else kas_place p k f ((l + r) / 2 + 1) r) = _
        rw [run_ite]
      show run c (kas_place p k (f + 1) l r) ≤ k ∧ _
      rw [e0]
      cases h6 : c (p.getD k 0) (p.getD ((l + r) / 2) 0) with
      | true =>
        rw [if_pos rfl]
        refine run_place o h f l ((l + r) / 2) (by omega) (by omega) (by omega) h4 fun a ha hk => ?_
        by_cases z : a = (l + r) / 2
        · rw [z]; exact h6
        · exact o.ltle h6 (h _ _ (by omega) hk)
      | false =>
        rw [if_neg (by decide)]
        refine run_place o h f ((l + r) / 2 + 1) r (by omega) h2 (by omega) (fun a ha => ?_) h5
        by_cases z : a = (l + r) / 2
        · rw [z]; exact h6
        · exact o.tr _ _ _ (h a ((l + r) / 2) (by omega) (by omega)) h6
theorem run_bin (o : Ord c n) : ∀ f {p : Array Nat} k, 0 < k → k + f = n → L12.PermR n p → Up c p k → Up c (run c (kas_bin f p k)) n
  | 0, p, k, _, hk, _, h => by
    rw [Nat.add_zero] at hk
    rw [← hk]
    exact h
  | f + 1, p, k, h0, hk, hp, h => by
    show Up c (run c ((kas_place p k k 0 k).bind fun l => kas_bin f (bubble p k (k - l)) (k + 1))) n
    rw [run_bind]
    obtain ⟨a1, a2, a3⟩ := run_place o h k 0 k (Nat.zero_le _) (Nat.le_refl _) (by omega) (fun a ha => absurd ha (Nat.not_lt_zero _)) (fun a h1 h2 => by omega)
    generalize run c (kas_place p k k 0 k) = l at a1 a2 a3 ⊢
    have hs : k < p.size := by rw [perm_size hp]; omega
    have e : ∀ a, (bubble p k (k - l)).getD a 0 = if a = l then p.getD k 0 else if l < a ∧ a ≤ k then p.getD (a - 1) 0 else p.getD a 0 := fun a => by
      rw [Array.getD_eq_getD_getElem?, getElem?_bubble hs (k - l) (by omega), show k - (k - l) = l by omega, Array.getD_eq_getD_getElem?, Array.getD_eq_getD_getElem?, Array.getD_eq_getD_getElem?]
      repeat' split
      all_goals rfl
    refine run_bin o f (k + 1) (by omega) (by omega) ((bubble_perm p k _).trans hp) fun a b hab hb => ?_
    rw [e a, e b]
    by_cases z1 : b = l
    · rw [if_pos z1, if_neg (by omega), if_neg (by omega)]
      exact a2 a (by omega)
    · rw [if_neg z1]
      by_cases z2 : l < b ∧ b ≤ k
      · rw [if_pos z2]
        by_cases z3 : a = l
        · rw [if_pos z3]
          exact o.asym _ _ (a3 (b - 1) (by omega) (by omega))
        · rw [if_neg z3]
          by_cases z4 : l < a ∧ a ≤ k
          · rw [if_pos z4]
            exact h (a - 1) (b - 1) (by omega) (by omega)
          · rw [if_neg z4]
            exact h a (b - 1) (by omega) (by omega)
      · rw [if_neg z2, if_neg (by omega), if_neg (by omega)]
        exact h a b hab (by omega)
theorem run_sort (o : Ord c n) (hn : 0 < n) : Up c (run c (kas_sort n)) n := by
  unfold kas_sort
  rw [run_bind]
  have hp0 : L12.PermR n (List.toArray (List.range n)) := Array.Perm.refl _
  obtain ⟨a1, a2, a3⟩ := run_count o hn hp0
  have a4 : L12.PermR n (run c (kas_count n (List.toArray (List.range n)))).2 := run_fine (L12.fine_count hn hp0 n)
  generalize run c (kas_count n (List.toArray (List.range n))) = r at a1 a2 a3 a4 ⊢
  rw [run_ite]
  by_cases e : r.1 < n
  · rw [if_pos e]
    exact run_bin o _ _ (by omega) (by omega) a4 (by rw [Nat.max_eq_left a1]; exact a3)
  · rw [if_neg e]
    rw [show n = r.1 by omega]
    exact a3
end
end L16
namespace L16
open PySem PySem.Spec PySem.W PyProof.Rows L2 L3 L4
theorem lex_eq (a b : CP.Pr) : CP.lexP a b = decide (a.1 < b.1 ∨ (a.1 = b.1 ∧ a.2 < b.2)) := by
  unfold CP.lexP
  rw [HT.lexLt_cons, HT.lexLt_cons, HT.lexLt_nil_nil]
  by_cases h1 : a.1 = b.1
  · rw [if_pos h1]
    by_cases h2 : a.2 = b.2
    · rw [if_pos h2]
      exact (decide_eq_false (by omega)).symm
    · rw [if_neg h2]
      exact decide_eq_decide.mpr (by omega)
  · rw [if_neg h1]
    exact decide_eq_decide.mpr (by omega)
theorem ord_lex {ps : List CP.Pr} (hn : ps.Nodup) : Ord (fun i j => CP.lexP (CP.at' ps i) (CP.at' ps j)) ps.length := by
  refine ⟨fun i j h => ?_, fun i j k h1 h2 => ?_, fun i j hi hj hij => ?_⟩
  · simp only [lex_eq, decide_eq_true_eq, decide_eq_false_iff_not] at h ⊢
    omega
  · simp only [lex_eq, decide_eq_false_iff_not] at h1 h2 ⊢
    omega
  · have ne : CP.at' ps i ≠ CP.at' ps j := fun z => by
      have e1 : CP.at' ps i = ps[i] := by unfold CP.at'; rw [List.getD_eq_getElem?_getD, List.getElem?_eq_getElem hi]; rfl
      have e2 : CP.at' ps j = ps[j] := by unfold CP.at'; rw [List.getD_eq_getElem?_getD, List.getElem?_eq_getElem hj]; rfl
      rw [e1, e2] at z
      rcases Nat.lt_or_gt_of_ne hij with w | w
      · exact List.pairwise_iff_getElem.mp hn i j hi hj w z
      · exact List.pairwise_iff_getElem.mp hn j i hj hi w z.symm
    simp only [lex_eq, decide_eq_true_eq]
    have : ¬ ((CP.at' ps i).1 = (CP.at' ps j).1 ∧ (CP.at' ps i).2 = (CP.at' ps j).2) := fun z => ne (Prod.ext z.1 z.2)
    omega
section
variable {prog : Program} {w : World} {A : Around} {E : Value → Shared → Prop} {s : Shared}
theorem pair_ltQ {v u : Value} {a b : CP.Pr} (hv : ∃ x o n t u, v = .ref x ∧ s.heap.get? x = some o ∧ o.cls = .type "tuple" ∧ o.data = .seq #[.int a.1 t, .int a.2 u] n) (hu : ∃ x o n t v, u = .ref x ∧ s.heap.get? x = some o ∧ o.cls = .type "tuple" ∧ o.data = .seq #[.int b.1 t, .int b.2 v] n) {Q : Bool → Shared → Prop} (q : Q (CP.lexP a b) s) : wpAny (model prog w) A (keyLt' (tuples' true) v u) Q E s := by
  obtain ⟨x, o, n, t, t', rfl, ho, _, hd⟩ := hv
  obtain ⟨y, o2, n2, t2, t3, rfl, ho2, _, hd2⟩ := hu
  rw [lex_eq] at q
  refine kat_lt ho hd ho2 hd2 ?_
  show KatLex prog w A true _ Q [(Value.int a.1 t, Value.int b.1 t2), (Value.int a.2 t', Value.int b.2 t3)] 0 s
  refine kat_cons (wpAny_eqBool_int (kat_go (fun e1 => kat_yes (kat_cons (wpAny_eqBool_int (kat_go (fun e2 => kat_yes (kat_nil ?_)) (fun e2 => kat_no ?_))))) (fun e1 => kat_no ?_)))
  · have h1 : a.1 = b.1 := by simpa using e1
    have h2 : a.2 = b.2 := by simpa using e2
    rw [decide_eq_false (by omega)] at q
    exact q
  · have h1 : a.1 = b.1 := by simpa using e1
    refine kat_one _ _ (lt_int ?_)
    rw [show decide (a.1 < b.1 ∨ a.1 = b.1 ∧ a.2 < b.2) = decide (a.2 < b.2) from decide_eq_decide.mpr (by omega)] at q
    exact q
  · have h1 : ¬ a.1 = b.1 := by simpa using e1
    refine oneLt_int ?_
    rw [show decide (a.1 < b.1 ∨ a.1 = b.1 ∧ a.2 < b.2) = decide (a.1 < b.1) from decide_eq_decide.mpr (by omega)] at q
    exact q
end
section
variable {X : Cx}
theorem rising_of {ps : List CP.Pr} (hn : ps.Nodup) {o : Array Nat} (hp : L12.PermR ps.length o) (h0 : 0 < ps.length) (h : Up (fun i j => CP.lexP (CP.at' ps i) (CP.at' ps j)) o ps.length) : CP.risingB (o.toList.map (CP.at' ps)) = true := by
  refine CP.rising_iff.mpr fun i hi => ?_
  have hs := perm_size hp
  rw [List.length_map, Array.length_toList, hs] at hi
  have e : ∀ k, k < ps.length → CP.at' (o.toList.map (CP.at' ps)) k = CP.at' ps (o.getD k 0) := fun k hk => by
    refine CP.at_of ?_
    rw [List.getElem?_map, Array.getElem?_toList, Array.getD_eq_getD_getElem?, Array.getElem?_eq_getElem (by omega)]
    rfl
  rw [e i (by omega), e (i + 1) hi]
  have o1 := ord_lex hn
  rcases o1.tot (o.getD i 0) (o.getD (i + 1) 0) (hp.lt h0 _) (hp.lt h0 _) (perm_ne hp (by omega) hi (by omega)) with z | z
  · exact z
  · have h9 : CP.lexP (CP.at' ps (o.getD (i + 1) 0)) (CP.at' ps (o.getD i 0)) = false := h i (i + 1) (by omega) hi
    have z9 : CP.lexP (CP.at' ps (o.getD (i + 1) 0)) (CP.at' ps (o.getD i 0)) = true := z
    rw [h9] at z9
    cases z9
theorem perm_at {ps : List CP.Pr} {o : Array Nat} (hp : L12.PermR ps.length o) : (o.toList.map (CP.at' ps)).Perm ps := by
  refine ((Array.perm_iff_toList_perm.mp hp).map _).trans (List.Perm.of_eq ?_)
  apply List.ext_getElem?
  intro i
  by_cases hi : i < ps.length
  · simp [hi, CP.at']
  · simp [hi]
theorem data_pick {K : PySem.W.Frag} {H : Hp} {ys : List V} {ps : List CP.Pr} (hA : DataAll K H ys (ps.map CP.pairD)) : ∀ L : List Nat, (∀ i ∈ L, i < ps.length) → DataAll K H (L.map fun i => ys.getD i .non) ((L.map (CP.at' ps)).map CP.pairD)
  | [], _ => DataAll.nil
  | i :: L, h => by
    have hi := h i (List.mem_cons_self ..)
    have e : (ps.map CP.pairD)[i]? = some (CP.pairD (CP.at' ps i)) := by
      rw [List.getElem?_map, List.getElem?_eq_getElem hi, CP.at_of (List.getElem?_eq_getElem hi)]
      rfl
    obtain ⟨x, hx, hd⟩ := DataAll.at_ hA e
    refine DataAll.cons ?_ (data_pick hA L fun j hj => h j (List.mem_cons_of_mem _ hj))
    show DataAt K H (ys.getD i .non) (CP.pairD (CP.at' ps i))
    rw [List.getD_eq_getElem?_getD, hx]
    exact hd
theorem call_sortedQ : CallR X (.builtin "sorted") (fun xs H Q => ∃ (p : Addr) (ys : List V) (ps : List CP.Pr), xs = [.ref p] ∧ SqL X.K H p ys ∧ DataAll X.K H ys (ps.map CP.pairD) ∧ ps.Nodup ∧ ps.length < 64 ∧ ∀ l zs qs, H l = none → DataAll X.K H zs (qs.map CP.pairD) → qs.Perm ps → CP.risingB qs = true → Q (.ref l) (upd H l (.lst zs))) := by
  intro pins s σ H xs us Q I r h
  obtain ⟨p, ys, ps, rfl, hq, hA, hnd, h64, q⟩ := h
  obtain ⟨u, rfl, rx⟩ := vals1 r
  cases rx
  obtain ⟨its, rv, pl, hz⟩ := I.list hq
  have hlen := rv.length
  have hlp : ys.length = ps.length := by have := DataAll.length hA; rwa [List.length_map] at this
  have line : 64 ≤ sizeLine := by decide
  by_cases h2 : its.length < 2
  · obtain ⟨v, hv⟩ := L12.few_opt h2
    refine L12.sorted_few (v := v) (hv ▸ pl.isList) fun h' D c k hD e => ?_
    rw [← hv] at e
    exact ⟨.ref D, _, I.laid (a := D) (t' := s.toks) (o := .lst ys) k hD ⟨hz, its, c, rv, e⟩, rfl, q D ys ps (I.hok.fresh hD) hA (List.Perm.refl _) (CP.rising_iff.mpr fun i hi => by omega)⟩
  · obtain ⟨m, F⟩ := L12.fr_all I
    have pr : ∀ i, i < its.length → ∃ x o n t t', its.getD i Value.none = Value.ref x ∧ s.heap.get? x = some o ∧ x ≠ X.env.locals ∧ o.cls = .type "tuple" ∧ o.data = .seq #[.int (CP.at' ps i).1 t, .int (CP.at' ps i).2 t'] n := fun k hk => by
      obtain ⟨u', e1, rr⟩ := rv.get (x := ys[k]'(by omega)) (i := k) (List.getElem?_eq_getElem (by omega))
      rw [List.getElem?_eq_getElem hk] at e1
      obtain ⟨a, t, ha, ey, ht⟩ := CP.pairs_at hA (List.getElem?_eq_getElem (show k < ys.length by omega))
      rw [ey, ← Option.some.inj e1] at rr
      obtain ⟨its2, rv2, ⟨o, ho, hc, n, hd⟩, _⟩ := I.tuple (SqT.of ht)
      obtain ⟨v1, v2, rfl, ⟨t1, rfl⟩, ⟨t2, rfl⟩⟩ := vals2 rv2
      rw [CP.at_of ha]
      refine ⟨t, o, n, t1, t2, ?_, ho, fun z => ?_, hc, hd⟩
      · rw [List.getD_eq_getElem?_getD, List.getElem?_eq_getElem hk]
        exact rr
      · obtain ⟨o2, _, _, ho2, hd2, _⟩ := F.ns
        rw [← z, ho] at ho2
        rw [← Option.some.inj ho2, hd] at hd2
        cases hd2
    refine kat_sorted F (L12.news_all s.heap X.env.locals) pl.isList (by omega) (by omega) fun D e1 h' F' N' hD => ?_
    have pr' : ∀ i, i < its.length → ∃ x o n t t', its.getD i Value.none = Value.ref x ∧ h'.get? x = some o ∧ o.cls = .type "tuple" ∧ o.data = .seq #[.int (CP.at' ps i).1 t, .int (CP.at' ps i).2 t'] n := fun i hi => by
      obtain ⟨x, o, n, t, t', e, ho, hL, hc, hd⟩ := pr i hi
      exact ⟨x, o, n, t, t', e, (N' _ (List.mem_cons_of_mem _ (L12.mem_allN ho hL))).1, hc, hd⟩
    obtain ⟨fs, kt, lf, hf⟩ := L12.pairs_kat (s := { s with heap := h' }) (vs := its) fun v hv => by
      obtain ⟨k, hk, rfl⟩ := List.getElem_of_mem hv
      obtain ⟨x, o, n, t, t', e, ho, hc, hd⟩ := pr' k hk
      rw [List.getD_eq_getElem?_getD, List.getElem?_eq_getElem hk] at e
      exact ⟨x, o, n, _, _, t, t', e, ho, hc, hd⟩
    refine kat_kind (T := .type "int") kt (by omega) (fun v hv => ?_) (by decide) ?_
    · obtain ⟨i, t, rfl⟩ := hf v hv
      exact .now
    have fin := L12.fine_sort (n := its.length) (by omega)
    refine run_wp (n := its.length) (c := fun i j => CP.lexP (CP.at' ps i) (CP.at' ps j)) (fun i j C hi hj hC => ?_) fin ?_
    · unfold kas_ask
      exact pair_ltQ (s := { s with heap := h' }) (pr' i hi) (pr' j hj) hC
    · have ho : L12.PermR its.length (run (fun i j => CP.lexP (CP.at' ps i) (CP.at' ps j)) (kas_sort its.length)) := run_fine fin
      have hil : its.length = ps.length := by omega
      have up := run_sort (ord_lex hnd) (by omega)
      rw [hil] at ho ⊢
      generalize run (fun i j => CP.lexP (CP.at' ps i) (CP.at' ps j)) (kas_sort ps.length) = o at ho up ⊢
      have hz2 : Vals (o.toList.map fun i => ys.getD i .non) (o.toList.map fun i => its.getD i Value.none) := by
        refine L7.vals_get (by rw [List.length_map, List.length_map]) fun i x u h1 h2 => ?_
        rw [List.getElem?_map] at h1 h2
        obtain ⟨k, hk, rfl⟩ := Option.map_eq_some_iff.mp h1
        rw [hk] at h2
        obtain rfl := Option.some.inj h2
        have hkl : k < ps.length := by
          have := (Array.perm_iff_toList_perm.mp ho).mem_iff.mp (List.mem_of_getElem? hk)
          simpa using this
        obtain ⟨u', e1, rr⟩ := rv.get (x := ys[k]'(by omega)) (i := k) (List.getElem?_eq_getElem (by omega))
        show RelV (ys.getD k .non) (its.getD k Value.none)
        rw [List.getD_eq_getElem?_getD, List.getElem?_eq_getElem (by omega), List.getD_eq_getElem?_getD, e1]
        exact rr
      have hD2 : DataAll X.K H (o.toList.map fun i => ys.getD i .non) ((o.toList.map (CP.at' ps)).map CP.pairD) := data_pick hA _ fun i hi => by
        have := (Array.perm_iff_toList_perm.mp ho).mem_iff.mp hi
        simpa using this
      have nD : D ≠ X.env.locals := (N' _ (List.mem_cons_self ..)).2.1
      refine KasFin.intro F' N' (UpdF.head fun a ha => Nat.ne_of_lt (hD a ha)) fun h'' c F'' N'' => ?_
      obtain ⟨noD, I'⟩ := L12.inv_more I F (t' := s.toks) F'' (fun a ha => N'' a (List.mem_cons_of_mem _ ha)) (N'' _ (List.mem_cons_self ..)).1 hD nD hz2 (by rw [List.length_map, Array.length_toList, perm_size ho]; omega)
      exact ⟨.ref D, _, I', rfl, q D _ _ noD hD2 (perm_at ho) (rising_of hnd ho (by omega) up)⟩
end
end L16
namespace CD
open CB (memb)
def hpT (held : List Nat) : Nat → List (Nat × Nat)
  | 0 => []
  | i + 1 => hpT held i ++ (memb (held.getD i 0)).map fun w => (w, i)
theorem mem_hpT {held : List Nat} {w p : Nat} : ∀ {i : Nat}, (w, p) ∈ hpT held i ↔ p < i ∧ hb held p w = true
  | 0 => ⟨(fun h => nomatch h), fun h => absurd h.1 (Nat.not_lt_zero _)⟩
  | i + 1 => by
    rw [hpT, List.mem_append, mem_hpT, List.mem_map]
    constructor
    · rintro (⟨h1, h2⟩ | ⟨x, hx, e⟩)
      · exact ⟨by omega, h2⟩
      · obtain ⟨rfl, rfl⟩ := Prod.mk.inj e
        exact ⟨by omega, CB.mem_memb.mp hx⟩
    · rintro ⟨h1, h2⟩
      by_cases z : p = i
      · subst z
        exact .inr ⟨w, CB.mem_memb.mpr h2, rfl⟩
      · exact .inl ⟨by omega, h2⟩
theorem memb_nd (m : Nat) : (memb m).Nodup := (CB.memb_up m).imp fun h => Nat.ne_of_lt h
theorem hpT_nd (held : List Nat) : ∀ i, (hpT held i).Nodup
  | 0 => List.nodup_nil
  | i + 1 => by
    rw [hpT]
    refine List.nodup_append.mpr ⟨hpT_nd held i, List.Pairwise.map _ (fun a b hab z => hab (Prod.mk.inj z).1) (memb_nd _), fun x hx y hy e => ?_⟩
    obtain ⟨w, _, rfl⟩ := List.mem_map.mp hy
    subst e
    have := (mem_hpT.mp hx).1
    omega
theorem memb_count (m w : Nat) : (memb m).count w = one (m.testBit w) := by
  unfold one
  cases e : m.testBit w with
  | true => rw [if_pos rfl, (memb_nd m).count, if_pos (CB.mem_memb.mpr e)]
  | false => rw [if_neg (by decide), List.count_eq_zero.mpr (fun z => by rw [CB.mem_memb.mp z] at e; cases e)]
theorem hpT_fst (held : List Nat) (w : Nat) : ∀ i, ((hpT held i).map Prod.fst).count w = col held (List.range i) w
  | 0 => rfl
  | i + 1 => by
    rw [hpT, List.map_append, List.count_append, hpT_fst held w i, List.map_map]
    unfold col
    rw [List.range_succ, List.countP_append]
    congr 1
    rw [show (Prod.fst ∘ fun w => (w, i)) = (id : Nat → Nat) from rfl, List.map_id, memb_count, List.countP_cons, List.countP_nil, Nat.zero_add]
    rfl
theorem hpT_snd (held : List Nat) (p : Nat) : ∀ i, ((hpT held i).map Prod.snd).count p = if p < i then (memb (held.getD p 0)).length else 0
  | 0 => rfl
  | i + 1 => by
    have e : ((memb (held.getD i 0)).map fun w => (w, i)).map Prod.snd = List.replicate (memb (held.getD i 0)).length i := by
      rw [List.map_map]
      exact List.map_const' ..
    rw [hpT, List.map_append, List.count_append, hpT_snd held p i, e, List.count_replicate]
    by_cases z : p = i
    · subst z
      rw [if_neg (Nat.lt_irrefl _), if_pos (beq_self_eq_true _), if_pos (Nat.lt_succ_self _), Nat.zero_add]
    · rw [if_neg (show ¬ ((i == p) = true) by rw [beq_iff_eq]; exact fun h => z h.symm), Nat.add_zero]
      by_cases h : p < i
      · rw [if_pos h, if_pos (by omega)]
      · rw [if_neg h, if_neg (by omega)]
theorem hpT_len (held : List Nat) : ∀ i, (hpT held i).length = sumN ((List.range i).map fun p => (memb (held.getD p 0)).length)
  | 0 => rfl
  | i + 1 => by
    rw [hpT, List.length_append, hpT_len held i, List.range_succ, List.map_append, sumN_append, List.length_map]
    rfl
structure Dl (ws os ms : List Nat) (tk : List (Nat × Nat)) : Prop where
  nd : tk.Nodup
  fit : ∀ q ∈ tk, q.1 < os.length ∧ q.2 < ms.length ∧ hb ms q.2 q.1 = true
  cw : ∀ w, w < os.length → (tk.map Prod.fst).count w ≤ os.getD w 0
  cp : ∀ p, p < ws.length → (tk.map Prod.snd).count p ≤ ws.getD p 0
theorem count_cast (i : Nat) : ∀ l : List Nat, (l.map fun n : Nat => (n : Int)).count ((i : Nat) : Int) = l.count i
  | [] => rfl
  | a :: l => by
    rw [List.map_cons, List.count_cons, List.count_cons, count_cast i l]
    congr 1
    by_cases h : a = i
    · rw [if_pos (by rw [h]; exact beq_self_eq_true _), if_pos (by rw [h]; exact beq_self_eq_true _)]
    · rw [if_neg (by rw [beq_iff_eq]; omega), if_neg (by rw [beq_iff_eq]; exact h)]
theorem Dl.dealB {ws os ms : List Nat} {tk : List (Nat × Nat)} (d : Dl ws os ms tk) {qs : List CP.Pr} (hp : qs.Perm (tk.map CP.natP)) (hr : CP.risingB qs = true) : CP.dealB qs ws os ms = true := by
  unfold CP.dealB
  rw [hr, Bool.true_and, Bool.and_eq_true, Bool.and_eq_true]
  refine ⟨CP.fits_iff.mpr fun q hq => ?_, CP.above_iff.mpr fun i hi => ?_, CP.above_iff.mpr fun i hi => ?_⟩
  · obtain ⟨x, hx, rfl⟩ := List.mem_map.mp (hp.mem_iff.mp hq)
    obtain ⟨h1, h2, h3⟩ := d.fit x hx
    unfold CP.pairB CP.natP
    rw [decide_eq_true (show (0 : Int) ≤ (x.1 : Nat) by omega), decide_eq_true (show ((x.1 : Nat) : Int) < os.length by omega), decide_eq_true (show (0 : Int) ≤ (x.2 : Nat) by omega), decide_eq_true (show ((x.2 : Nat) : Int) < ms.length by omega), Int.toNat_natCast, Int.toNat_natCast]
    exact h3
  · rw [(hp.map Prod.fst).count_eq, List.map_map, show (Prod.fst ∘ CP.natP) = ((fun n : Nat => (n : Int)) ∘ Prod.fst) from rfl, ← List.map_map, count_cast]
    exact d.cw i hi
  · rw [(hp.map Prod.snd).count_eq, List.map_map, show (Prod.snd ∘ CP.natP) = ((fun n : Nat => (n : Int)) ∘ Prod.snd) from rfl, ← List.map_map, count_cast]
    exact d.cp i hi
theorem Deal.rows_len {ws os ms held still left : List Nat} (d : Deal ws os ms held still left) {p : Nat} (hp : p < ms.length) : (memb (held.getD p 0)).length = row held os.length p := by
  refine memb_len (d.small ?_)
  rw [List.getD_eq_getElem?_getD, List.getElem?_eq_getElem (by rw [d.lh]; exact hp)]
  exact List.getElem_mem _
theorem Deal.total {ws os ms held still left : List Nat} (d : Deal ws os ms held still left) : (hpT held ms.length).length + sumN still = sumN ws := by
  rw [hpT_len, range_sum still, range_sum ws, d.ls, d.lw, Nat.add_comm, ← sumN_add]
  refine sumN_eq fun p hp => ?_
  have hp' := List.mem_range.mp hp
  rw [d.rows_len hp']
  exact d.cp p hp'
theorem Deal.dl {ws os ms held still left : List Nat} (d : Deal ws os ms held still left) : Dl ws os ms (hpT held ms.length) := by
  refine ⟨hpT_nd held _, fun q hq => ?_, fun w hw => ?_, fun p hp => ?_⟩
  · obtain ⟨h1, h2⟩ := mem_hpT.mp (show (q.1, q.2) ∈ _ from hq)
    exact ⟨d.lt _ _ (d.sub _ _ h2), h1, d.sub _ _ h2⟩
  · rw [hpT_fst]
    have := d.cw w hw
    omega
  · rw [d.lw] at hp
    rw [hpT_snd, if_pos hp, d.rows_len hp]
    have := d.cp p hp
    omega
def heldOf (tk : List (Nat × Nat)) (n m : Nat) : List Nat := (List.range n).map fun p => CB.maskOf ((List.range m).filter fun w => tk.contains (w, p))
theorem hb_heldOf (tk : List (Nat × Nat)) (n m p w : Nat) : hb (heldOf tk n m) p w = (decide (p < n) && (decide (w < m) && tk.contains (w, p))) := by
  unfold hb heldOf
  by_cases hp : p < n
  · rw [List.getD_eq_getElem?_getD, List.getElem?_map, List.getElem?_range hp]
    show (CB.maskOf ((List.range m).filter fun w => tk.contains (w, p))).testBit w = _
    rw [CB.mask_bit, decide_eq_true hp, Bool.true_and, Bool.eq_iff_iff, List.contains_iff_mem, List.mem_filter, List.mem_range, Bool.and_eq_true, decide_eq_true_eq]
  · rw [List.getD_eq_getElem?_getD, List.getElem?_eq_none (by rw [List.length_map, List.length_range]; omega), decide_eq_false hp, Bool.false_and]
    exact Nat.zero_testBit w
theorem getD_range (f : Nat → Nat) {n p : Nat} (hp : p < n) : ((List.range n).map f).getD p 0 = f p := by
  rw [List.getD_eq_getElem?_getD, List.getElem?_map, List.getElem?_range hp]
  rfl
theorem Dl.deal {ws os ms : List Nat} {tk : List (Nat × Nat)} (d : Dl ws os ms tk) (lw : ws.length = ms.length) (hm : ∀ p w, hb ms p w = true → w < os.length) : ∃ held still left, Deal ws os ms held still left ∧ tk.length + sumN still = sumN ws := by
  have hlen : (heldOf tk ms.length os.length).length = ms.length := by unfold heldOf; rw [List.length_map, List.length_range]
  have hbt : ∀ p w, hb (heldOf tk ms.length os.length) p w = true ↔ (w, p) ∈ tk := fun p w => by
    rw [hb_heldOf, Bool.and_eq_true, Bool.and_eq_true, decide_eq_true_eq, decide_eq_true_eq, List.contains_iff_mem]
    exact ⟨fun h => h.2.2, fun h => ⟨(d.fit _ h).2.1, (d.fit _ h).1, h⟩⟩
  generalize heldOf tk ms.length os.length = held at hlen hbt
  have perm : (hpT held ms.length).Perm tk := (List.perm_ext_iff_of_nodup (hpT_nd held _) d.nd).mpr fun q => by
    rw [show q = (q.1, q.2) from rfl, mem_hpT, hbt]
    exact ⟨fun h => h.2, fun h => ⟨(d.fit _ h).2.1, h⟩⟩
  have hcol : ∀ w, col held (List.range ms.length) w = (tk.map Prod.fst).count w := fun w => by rw [← hpT_fst, (perm.map Prod.fst).count_eq]
  have hsm : ∀ p, p < ms.length → held.getD p 0 < 2 ^ os.length := fun p hp => by
    refine Nat.lt_pow_two_of_testBit _ fun w hw => ?_
    cases e : (held.getD p 0).testBit w with
    | false => rfl
    | true =>
      have := (d.fit _ ((hbt p w).mp e)).1
      have : w < os.length := this
      omega
  have hrow : ∀ p, p < ms.length → row held os.length p = (tk.map Prod.snd).count p := fun p hp => by
    rw [← (perm.map Prod.snd).count_eq, hpT_snd, if_pos hp]
    exact (memb_len (hsm p hp)).symm
  have D : Deal ws os ms held ((List.range ms.length).map fun p => ws.getD p 0 - row held os.length p) ((List.range os.length).map fun w => os.getD w 0 - col held (List.range ms.length) w) := by
    refine ⟨hlen, lw, by rw [List.length_map, List.length_range], by rw [List.length_map, List.length_range], fun p w e => (d.fit _ ((hbt p w).mp e)).2.2, hm, fun w hw => ?_, fun p hp => ?_⟩
    · rw [getD_range _ hw]
      have := d.cw w hw
      have := hcol w
      omega
    · rw [getD_range _ hp]
      have := d.cp p (by omega)
      have := hrow p hp
      omega
  refine ⟨held, _, _, D, ?_⟩
  rw [← perm.length_eq]
  exact D.total
theorem Dl.weak {ws os ms : List Nat} {tk : List (Nat × Nat)} (d : Dl ws os ms tk) (lw : ws.length = ms.length) (hm : ∀ p w, hb ms p w = true → w < os.length) {v : Int} (o : Opt ws os ms v) : v + (tk.length : Nat) ≤ (sumN ws : Nat) := by
  obtain ⟨held, still, left, D, e⟩ := d.deal lw hm
  obtain ⟨⟨P, hP, e2⟩, _⟩ := o
  have := D.weak hP
  omega
theorem opt_le_of {ws os ms ws' os' ms' : List Nat} {v u : Int} (h : Opt ws os ms v) (k : Opt ws' os' ms' u) (hf : ∀ P, Paper ws.length P → ∃ P', Paper ws'.length P' ∧ CG.shownZ P' ws' os' ms' = CG.shownZ P ws os ms) : v ≤ u := by
  obtain ⟨⟨P, hP, e⟩, _⟩ := h
  obtain ⟨P', hP', e'⟩ := hf P hP
  have := k.2 P' hP'
  omega
theorem getD_rev {l : List Nat} {p : Nat} (hp : p < l.length) : l.reverse.getD (l.length - 1 - p) 0 = l.getD p 0 := by
  rw [List.getD_eq_getElem?_getD, List.getD_eq_getElem?_getD, List.getElem?_reverse (by omega), show l.length - 1 - (l.length - 1 - p) = p by omega]
theorem rev_le {ws os ms : List Nat} {v u : Int} (lw : ws.length = ms.length) (h : Opt ws os ms v) (k : Opt ws.reverse os ms.reverse u) : v ≤ u := by
  refine opt_le_of h k fun P hP => ⟨P.map fun p => ws.length - 1 - p, ⟨?_, fun p hp => ?_⟩, ?_⟩
  · refine List.pairwise_map.mpr (List.Pairwise.imp_of_mem (fun {a b} ha hb hab => ?_) hP.1)
    have := hP.2 a ha
    have := hP.2 b hb
    omega
  · obtain ⟨x, hx, rfl⟩ := List.mem_map.mp hp
    have := hP.2 x hx
    rw [List.length_reverse]
    omega
  · have e1 : want (P.map fun p => ws.length - 1 - p) ws.reverse = want P ws := by
      unfold want
      rw [List.map_map]
      exact sumN_eq fun p hp => getD_rev (hP.2 p hp)
    have e2 : give (P.map fun p => ws.length - 1 - p) os ms.reverse = give P os ms := by
      unfold give
      refine sumN_eq fun w _ => ?_
      congr 1
      unfold col
      rw [List.countP_map]
      refine List.countP_congr fun p hp => ?_
      have hp' := hP.2 p hp
      show hb ms.reverse (ws.length - 1 - p) w = true ↔ _
      unfold hb
      rw [lw, getD_rev (by omega)]
    rw [shown_eq, shown_eq, e1, e2]
theorem opt_rev {ws os ms : List Nat} {v u : Int} (lw : ws.length = ms.length) (h : Opt ws os ms v) (k : Opt ws.reverse os ms.reverse u) : u = v := by
  have a1 := rev_le lw h k
  have a2 := rev_le (ws := ws.reverse) (ms := ms.reverse) (by rw [List.length_reverse, List.length_reverse]; exact lw) k (by rw [List.reverse_reverse, List.reverse_reverse]; exact h)
  omega
theorem sumN_perm {a b : List Nat} (h : a.Perm b) : sumN a = sumN b := by
  induction h with
  | nil => rfl
  | cons x _ ih => show x + sumN _ = x + sumN _; rw [ih]
  | swap x y l => show y + (x + sumN l) = x + (y + sumN l); omega
  | trans _ _ i1 i2 => rw [i1, i2]
theorem sum_flip (f : Nat → Nat) (m : Nat) : sumN ((List.range m).map fun w => f (m - 1 - w)) = sumN ((List.range m).map f) := by
  have e : ((List.range m).map fun w => m - 1 - w).Perm (List.range m) := by
    refine (List.perm_ext_iff_of_nodup (List.pairwise_map.mpr (List.Pairwise.imp_of_mem (fun {a b} ha hb hab => ?_) List.nodup_range)) List.nodup_range).mpr fun k => ?_
    · have := List.mem_range.mp ha
      have := List.mem_range.mp hb
      omega
    · rw [List.mem_map, List.mem_range]
      constructor
      · rintro ⟨x, hx, rfl⟩
        have := List.mem_range.mp hx
        omega
      · intro hk
        exact ⟨m - 1 - k, List.mem_range.mpr (by omega), by omega⟩
  have := sumN_perm (e.map f)
  rw [List.map_map] at this
  exact this
theorem opt_turn {ws os ms ms' : List Nat} {v u : Int} (h : Opt ws os ms v) (k : Opt ws os.reverse ms' u) (hb' : ∀ p w, w < os.length → hb ms' p w = hb ms p (os.length - 1 - w)) : u = v := by
  have hs : ∀ P, CG.shownZ P ws os.reverse ms' = CG.shownZ P ws os ms := fun P => by
    have e : give P os.reverse ms' = give P os ms := by
      unfold give
      rw [List.length_reverse, ← sum_flip fun w => min (os.getD w 0) (col ms P w)]
      refine sumN_eq fun w hw => ?_
      have hw' := List.mem_range.mp hw
      have e1 : os.reverse.getD w 0 = os.getD (os.length - 1 - w) 0 := by
        have := getD_rev (l := os) (p := os.length - 1 - w) (by omega)
        rwa [show os.length - 1 - (os.length - 1 - w) = w by omega] at this
      have e2 : col ms' P w = col ms P (os.length - 1 - w) := List.countP_congr fun p _ => by rw [hb' p w hw']
      rw [e1, e2]
    rw [shown_eq, shown_eq, e]
  have a1 := opt_le_of h k fun P hP => ⟨P, hP, hs P⟩
  have a2 := opt_le_of k h fun P hP => ⟨P, hP, (hs P).symm⟩
  omega
theorem hpT_le (held : List Nat) {i j : Nat} (h : i ≤ j) : (hpT held i).length ≤ (hpT held j).length := by
  induction j with
  | zero => rw [Nat.le_zero.mp h]; exact Nat.le_refl _
  | succ j ih =>
    by_cases e : i = j + 1
    · rw [e]; exact Nat.le_refl _
    · rw [hpT, List.length_append]
      have := ih (by omega)
      omega
theorem shown_perm {P P' : List Nat} (h : P'.Perm P) (ws os ms : List Nat) : CG.shownZ P' ws os ms = CG.shownZ P ws os ms := by
  have e1 : want P' ws = want P ws := sumN_perm (h.map _)
  have e2 : give P' os ms = give P os ms := sumN_eq fun w _ => by
    unfold col
    rw [h.countP_eq]
  rw [shown_eq, shown_eq, e1, e2]
theorem Paper.perm {n : Nat} {P P' : List Nat} (h : P'.Perm P) (k : Paper n P) : Paper n P' := ⟨h.nodup_iff.mpr k.1, fun p hp => k.2 p (h.mem_iff.mp hp)⟩
theorem natPs_nd {l : List (Nat × Nat)} (h : l.Nodup) : (l.map CP.natP).Nodup := List.Pairwise.map _ (fun _ _ hab z => hab (CP.natP_inj z)) h
end CD
namespace CO
open PySem L2 L3 L4 L6 CD
theorem els_data {K : PySem.W.Frag} {D : Hp} {p : Nat} : ∀ {ws : List Nat} {zs : List V}, L13.Els (PrT p) D zs ws → DataAll K D zs ((ws.map fun w => (w, p)).map fun q => CP.pairD (CP.natP q))
  | [], zs, h => by
    rw [List.eq_nil_of_length_eq_zero (l := zs) h.1]
    exact DataAll.nil
  | w :: ws, [], h => absurd h.1 (by simp)
  | w :: ws, z :: zs, h => by
    obtain ⟨t, rfl, et⟩ := h.2 0 z w rfl rfl
    exact DataAll.cons (CP.pair_at (p := CP.natP (w, p)) et) (els_data ⟨by have := h.1; simpa using this, fun i v a e1 e2 => h.2 (i + 1) v a (by simpa using e1) (by simpa using e2)⟩)
theorem ints_nat {ks : List Nat} {zs : List Int} (h : zs.Perm (ks.map fun n : Nat => (n : Int))) : zs.map V.int = nV (zs.map Int.toNat) ∧ (zs.map Int.toNat).Perm ks := by
  constructor
  · unfold nV
    rw [List.map_map]
    refine List.map_congr_left fun z hz => ?_
    obtain ⟨k, _, rfl⟩ := List.mem_map.mp (h.mem_iff.mp hz)
    show V.int ((k : Nat) : Int) = V.int (((k : Int).toNat : Nat) : Int)
    rw [Int.toNat_natCast]
  · have := h.map Int.toNat
    rw [List.map_map] at this
    refine this.trans (List.Perm.of_eq ?_)
    exact (List.map_congr_left fun k _ => Int.toNat_natCast k).trans (List.map_id _)
end CO
namespace CD
theorem Dl.few {ws os ms : List Nat} {tk : List (Nat × Nat)} (d : Dl ws os ms tk) (lw : ws.length = ms.length) (hm : ∀ p w, hb ms p w = true → w < os.length) : tk.length ≤ sumN (ws.map fun n => min n os.length) := by
  obtain ⟨held, still, left, D, e⟩ := d.deal lw hm
  have h1 := D.total
  have h2 := D.few
  rw [sum_ix, D.lh, ← hpT_len] at h2
  omega
structure Tkn (ws os ms : List Nat) (tk : List (Nat × Nat)) (wc pc : List Nat) : Prop where
  dl : Dl ws os ms tk
  lw : wc.length = os.length
  lp : pc.length = ws.length
  cw : ∀ w, w < os.length → wc.getD w 0 = (tk.map Prod.fst).count w
  cp : ∀ p, p < ws.length → pc.getD p 0 = (tk.map Prod.snd).count p
theorem getD_rep (n p : Nat) : (List.replicate n 0).getD p 0 = 0 := by
  rw [List.getD_eq_getElem?_getD, List.getElem?_replicate]
  by_cases h : p < n
  · rw [if_pos h]; rfl
  · rw [if_neg h]; rfl
theorem Tkn.zero (ws os ms : List Nat) : Tkn ws os ms [] (List.replicate os.length 0) (List.replicate ws.length 0) :=
  ⟨⟨List.nodup_nil, (fun _ h => nomatch h), fun _ _ => Nat.zero_le _, fun _ _ => Nat.zero_le _⟩, List.length_replicate, List.length_replicate, fun w _ => getD_rep _ _, fun p _ => getD_rep _ _⟩
theorem count_snoc (l : List Nat) (x y : Nat) : (l ++ [x]).count y = l.count y + if y = x then 1 else 0 := by
  rw [List.count_append, List.count_singleton]
  congr 1
  by_cases h : y = x
  · rw [if_pos h, if_pos (by rw [h]; exact beq_self_eq_true _)]
  · rw [if_neg h, if_neg (by rw [beq_iff_eq]; exact fun z => h z.symm)]
theorem Tkn.step {ws os ms : List Nat} {tk : List (Nat × Nat)} {wc pc : List Nat} (h : Tkn ws os ms tk wc pc) {w p : Nat} (hw : w < os.length) (hp : p < ws.length) (lw : ws.length = ms.length) (hn : (w, p) ∉ tk) (hf : hb ms p w = true) (h1 : wc.getD w 0 < os.getD w 0) (h2 : pc.getD p 0 < ws.getD p 0) : Tkn ws os ms (tk ++ [(w, p)]) (wc.set w (wc.getD w 0 + 1)) (pc.set p (pc.getD p 0 + 1)) := by
  have c1 : ∀ x, ((tk ++ [(w, p)]).map Prod.fst).count x = (tk.map Prod.fst).count x + if x = w then 1 else 0 := fun x => by
    rw [List.map_append]
    exact count_snoc _ _ _
  have c2 : ∀ x, ((tk ++ [(w, p)]).map Prod.snd).count x = (tk.map Prod.snd).count x + if x = p then 1 else 0 := fun x => by
    rw [List.map_append]
    exact count_snoc _ _ _
  refine ⟨⟨?_, fun q hq => ?_, fun x hx => ?_, fun x hx => ?_⟩, by rw [List.length_set]; exact h.lw, by rw [List.length_set]; exact h.lp, fun x hx => ?_, fun x hx => ?_⟩
  · refine List.nodup_append.mpr ⟨h.dl.nd, List.nodup_cons.mpr ⟨(fun z => nomatch z), List.nodup_nil⟩, fun x hx y hy e => ?_⟩
    rw [List.mem_singleton.mp hy] at e
    exact hn (e ▸ hx)
  · rcases List.mem_append.mp hq with z | z
    · exact h.dl.fit q z
    · rw [List.mem_singleton.mp z]
      exact ⟨hw, by rw [← lw]; exact hp, hf⟩
  · rw [c1]
    have a1 := h.dl.cw x hx
    have a2 := h.cw x hx
    split
    · rename_i e
      subst e
      omega
    · omega
  · rw [c2]
    have a1 := h.dl.cp x hx
    have a2 := h.cp x hx
    split
    · rename_i e
      subst e
      omega
    · omega
  · rw [c1, CP.getD_set _ _ _ _ (by rw [h.lw]; exact hw), ← h.cw x hx]
    split
    · rename_i e
      subst e
      rfl
    · rfl
  · rw [c2, CP.getD_set _ _ _ _ (by rw [h.lp]; exact hp), ← h.cp x hx]
    split
    · rename_i e
      subst e
      rfl
    · rfl
theorem e_of_dvd {a b : Int} {n : Int} (h : a % n = b % n) : ∃ k, a - b = n * k := by
  have := Int.emod_add_mul_ediv a n
  have := Int.emod_add_mul_ediv b n
  exact ⟨a / n - b / n, by rw [Int.mul_sub]; omega⟩
theorem walk_inj {n m a b : Nat} {c M : Int} (ha : a < n * m) (hb : b < n * m) (h1 : ((a : Nat) + c) % (n : Nat) = ((b : Nat) + c) % (n : Nat)) (h2 : (((a : Nat) : Int) / (n : Nat) + M) % (m : Nat) = (((b : Nat) : Int) / (n : Nat) + M) % (m : Nat)) : a = b := by
  have hn : 0 < n := by
    rcases Nat.eq_zero_or_pos n with z | z
    · rw [z, Nat.zero_mul] at ha; omega
    · exact z
  have ha' : a / n < m := Nat.div_lt_of_lt_mul ha
  have hb' : b / n < m := Nat.div_lt_of_lt_mul hb
  have hd : ∀ {x y : Nat} {N : Nat} {k : Int}, x < N → y < N → ((x : Nat) : Int) - (y : Nat) = (N : Nat) * k → x = y := fun {x y N k} hx hy e => by
    rcases Int.lt_trichotomy k 0 with z | z | z
    · have : ((N : Nat) : Int) * k ≤ (N : Nat) * (-1) := Int.mul_le_mul_of_nonneg_left (by omega) (by omega)
      omega
    · rw [z] at e
      omega
    · have : ((N : Nat) : Int) * 1 ≤ (N : Nat) * k := Int.mul_le_mul_of_nonneg_left (by omega) (by omega)
      omega
  have q : a / n = b / n := by
    obtain ⟨k, e⟩ := e_of_dvd h2
    refine hd (k := k) ha' hb' ?_
    rw [Int.natCast_ediv, Int.natCast_ediv]
    omega
  have r : a % n = b % n := by
    obtain ⟨k, e⟩ := e_of_dvd h1
    have e1 : ((a : Nat) : Int) - (b : Nat) = (n : Nat) * k := by omega
    have a1 := Nat.mod_add_div a n
    have b1 := Nat.mod_add_div b n
    rw [q] at a1
    refine hd (k := k) (Nat.mod_lt a hn) (Nat.mod_lt b hn) ?_
    omega
  rw [← Nat.mod_add_div a n, ← Nat.mod_add_div b n, q, r]
def turn (m : Nat) : Nat → Nat
  | 0 => 0
  | k + 1 => 2 * turn m k + m / 2 ^ k % 2
theorem turn_bit (m : Nat) : ∀ k w, (turn m k).testBit w = (decide (w < k) && m.testBit (k - 1 - w))
  | 0, w => by rw [turn, Nat.zero_testBit, decide_eq_false (Nat.not_lt_zero w), Bool.false_and]
  | k + 1, 0 => by
    rw [turn, decide_eq_true (Nat.succ_pos k), Bool.true_and, show k + 1 - 1 - 0 = k by omega, Nat.testBit_zero, Nat.testBit_eq_decide_div_mod_eq]
    exact decide_eq_decide.mpr (by omega)
  | k + 1, w + 1 => by
    rw [turn, Nat.testBit_succ, show (2 * turn m k + m / 2 ^ k % 2) / 2 = turn m k by omega, turn_bit m k w, show k + 1 - 1 - (w + 1) = k - 1 - w by omega]
    congr 1
    exact decide_eq_decide.mpr (by omega)
theorem sumN_bound {B : Nat} : ∀ {l : List Nat}, (∀ w ∈ l, w ≤ B) → sumN l ≤ B * l.length
  | [], _ => Nat.zero_le _
  | a :: l, h => by
    have h1 := h a (List.mem_cons_self ..)
    have h2 := sumN_bound fun w hw => h w (List.mem_cons_of_mem _ hw)
    show a + sumN l ≤ B * (l.length + 1)
    rw [Nat.mul_succ]
    omega
theorem turn_lt (m n : Nat) : turn m n < 2 ^ n := Nat.lt_pow_two_of_testBit _ fun w hw => by
  rw [turn_bit, decide_eq_false (by omega), Bool.false_and]
theorem turn_of {m n r : Nat} (h : ∀ w, r.testBit w = (decide (w < n) && m.testBit (n - 1 - w))) : r = turn m n := Nat.eq_of_testBit_eq fun w => by rw [h, turn_bit]
theorem hb_turn (ms : List Nat) (n p w : Nat) (hw : w < n) : hb (ms.map fun m => turn m n) p w = hb ms p (n - 1 - w) := by
  unfold hb
  rw [List.getD_eq_getElem?_getD, List.getD_eq_getElem?_getD, List.getElem?_map]
  by_cases hp : p < ms.length
  · rw [List.getElem?_eq_getElem hp]
    show (turn ms[p] n).testBit w = _
    rw [turn_bit, decide_eq_true hw, Bool.true_and]
    rfl
  · rw [List.getElem?_eq_none (by omega)]
    show (0 : Nat).testBit w = (0 : Nat).testBit _
    rw [Nat.zero_testBit, Nat.zero_testBit]
end CD
set_option maxHeartbeats 4000000
namespace K54
open PySem PySem.Spec PyProof.Rows L2 L3 L4 L5 L6 L7
seal L2.PE L2.PT L2.PW L2.PA L2.PS L2.PSs L2.PG L2.PGs L2.PI L2.PC L2.PO L3.PF L3.PIfs L2.OpR L2.CallR L2.IxR L2.SlR
def top (i : Nat) : Stmt := PySem.Challenge.pw_court_k54_whole_no_other_dealing.main.body.getD i (.Pass ⟨0, 0, 0, 0⟩)
abbrev s_q20 : Stmt := (top 1)
def N_q20 : List Str := ["numbers", "mask", "number"]
theorem sc_q20 : FnScope N_q20 ["numbers"] (defScope s_q20) := ⟨rfl, rfl, rfl, by decide +kernel, rfl, by decide +kernel, by decide +kernel⟩
abbrev s_q21 : Stmt := (top 2)
def N_q21 : List Str := ["mask"]
theorem sc_q21 : FnScope N_q21 ["mask"] (defScope s_q21) := ⟨rfl, rfl, rfl, by decide +kernel, rfl, by decide +kernel, by decide +kernel⟩
abbrev s_q9 : Stmt := (top 3)
def N_q9 : List Str := ["mask", "number"]
theorem sc_q9 : FnScope N_q9 ["mask", "number"] (defScope s_q9) := ⟨rfl, rfl, rfl, by decide +kernel, rfl, by decide +kernel, by decide +kernel⟩
abbrev s_q8 : Stmt := (top 4)
def N_q8 : List Str := ["mask"]
theorem sc_q8 : FnScope N_q8 ["mask"] (defScope s_q8) := ⟨rfl, rfl, rfl, by decide +kernel, rfl, by decide +kernel, by decide +kernel⟩
abbrev s_q25 : Stmt := (top 5)
def N_q25 : List Str := ["one", "other"]
theorem sc_q25 : FnScope N_q25 ["one", "other"] (defScope s_q25) := ⟨rfl, rfl, rfl, by decide +kernel, rfl, by decide +kernel, by decide +kernel⟩
abbrev s_q7 : Stmt := (top 6)
def N_q7 : List Str := ["one", "other"]
theorem sc_q7 : FnScope N_q7 ["one", "other"] (defScope s_q7) := ⟨rfl, rfl, rfl, by decide +kernel, rfl, by decide +kernel, by decide +kernel⟩
abbrev s_q19 : Stmt := (top 7)
def N_q19 : List Str := ["one", "other"]
theorem sc_q19 : FnScope N_q19 ["one", "other"] (defScope s_q19) := ⟨rfl, rfl, rfl, by decide +kernel, rfl, by decide +kernel, by decide +kernel⟩
abbrev s_q0 : Stmt := (inClass (top 9) 0)
def N_q0 : List Str := ["self", "wants", "oftens", "masks"]
theorem sc_q0 : FnScope N_q0 ["self", "wants", "oftens", "masks"] (defScope s_q0) := ⟨rfl, rfl, rfl, by decide +kernel, rfl, by decide +kernel, by decide +kernel⟩
abbrev s_q4 : Stmt := (inClass (top 9) 1)
def N_q4 : List Str := ["self", "free", "queue", "place", "number", "works", "last"]
theorem sc_q4 : FnScope N_q4 ["self"] (defScope s_q4) := ⟨rfl, rfl, rfl, by decide +kernel, rfl, by decide +kernel, by decide +kernel⟩
abbrev s_q2 : Stmt := (inClass (top 9) 2)
def N_q2 : List Str := ["self", "place", "works", "found", "other", "held", "work"]
theorem sc_q2 : FnScope N_q2 ["self", "place", "works"] (defScope s_q2) := ⟨rfl, rfl, rfl, by decide +kernel, rfl, by decide +kernel, by decide +kernel⟩
abbrev s_q1 : Stmt := (inClass (top 9) 3)
def N_q1 : List Str := ["self", "pair", "place"]
theorem sc_q1 : FnScope N_q1 ["self", "pair"] (defScope s_q1) := ⟨rfl, rfl, rfl, by decide +kernel, rfl, by decide +kernel, by decide +kernel⟩
abbrev s_q3 : Stmt := (inClass (top 9) 4)
def N_q3 : List Str := ["self", "pair"]
theorem sc_q3 : FnScope N_q3 ["self"] (defScope s_q3) := ⟨rfl, rfl, rfl, by decide +kernel, rfl, by decide +kernel, by decide +kernel⟩
abbrev s_q23 : Stmt := (top 10)
def N_q23 : List Str := ["held", "pairs", "place", "mask"]
theorem sc_q23 : FnScope N_q23 ["held"] (defScope s_q23) := ⟨rfl, rfl, rfl, by decide +kernel, rfl, by decide +kernel, by decide +kernel⟩
abbrev s_q6 : Stmt := (top 11)
def N_q6 : List Str := ["wants", "oftens", "masks", "dealer"]
theorem sc_q6 : FnScope N_q6 ["wants", "oftens", "masks"] (defScope s_q6) := ⟨rfl, rfl, rfl, by decide +kernel, rfl, by decide +kernel, by decide +kernel⟩
abbrev s_q11 : Stmt := (top 13)
def N_q11 : List Str := ["things"]
theorem sc_q11 : FnScope N_q11 ["things"] (defScope s_q11) := ⟨rfl, rfl, rfl, by decide +kernel, rfl, by decide +kernel, by decide +kernel⟩
abbrev s_q5 : Stmt := (top 14)
def N_q5 : List Str := ["work", "place", "oftens", "masks"]
theorem sc_q5 : FnScope N_q5 ["work", "place", "oftens", "masks"] (defScope s_q5) := ⟨rfl, rfl, rfl, by decide +kernel, rfl, by decide +kernel, by decide +kernel⟩
abbrev s_q22 : Stmt := (top 15)
def N_q22 : List Str := ["numbers", "bounds"]
theorem sc_q22 : FnScope N_q22 ["numbers", "bounds"] (defScope s_q22) := ⟨rfl, rfl, rfl, by decide +kernel, rfl, by decide +kernel, by decide +kernel⟩
abbrev s_q10 : Stmt := (top 16)
def N_q10 : List Str := ["pairs", "wants", "oftens", "masks"]
theorem sc_q10 : FnScope N_q10 ["pairs", "wants", "oftens", "masks"] (defScope s_q10) := ⟨rfl, rfl, rfl, by decide +kernel, rfl, by decide +kernel, by decide +kernel⟩
abbrev s_q24 : Stmt := (top 17)
def N_q24 : List Str := ["work", "paper", "masks"]
theorem sc_q24 : FnScope N_q24 ["work", "paper", "masks"] (defScope s_q24) := ⟨rfl, rfl, rfl, by decide +kernel, rfl, by decide +kernel, by decide +kernel⟩
abbrev s_q26 : Stmt := (top 18)
def N_q26 : List Str := ["paper", "wants", "oftens", "masks", "wanted", "most"]
theorem sc_q26 : FnScope N_q26 ["paper", "wants", "oftens", "masks"] (defScope s_q26) := ⟨rfl, rfl, rfl, by decide +kernel, rfl, by decide +kernel, by decide +kernel⟩
abbrev s_q13 : Stmt := (top 20)
def N_q13 : List Str := ["_law_script", "_law_k"]
theorem sc_q13 : FnScope N_q13 ["_law_script", "_law_k"] (defScope s_q13) := ⟨rfl, rfl, rfl, by decide +kernel, rfl, by decide +kernel, by decide +kernel⟩
abbrev s_q16 : Stmt := (top 21)
def N_q16 : List Str := ["_law_cell", "_law_k", "_law_some"]
theorem sc_q16 : FnScope N_q16 ["_law_cell", "_law_k"] (defScope s_q16) := ⟨rfl, rfl, rfl, by decide +kernel, rfl, by decide +kernel, by decide +kernel⟩
abbrev s_q15 : Stmt := (top 22)
def N_q15 : List Str := ["_law_script", "_law_most", "_law_places", "_law_wants", "_law_k", "_law_some", "_law_oftens", "_law_masks", "_law_cell", "_law_bit", "_law_left"]
theorem sc_q15 : FnScope N_q15 ["_law_script", "_law_most"] (defScope s_q15) := ⟨rfl, rfl, rfl, by decide +kernel, rfl, by decide +kernel, by decide +kernel⟩
abbrev s_q14 : Stmt := (top 23)
def N_q14 : List Str := ["_law_masks", "_law_work", "_law_place"]
theorem sc_q14 : FnScope N_q14 ["_law_masks", "_law_work", "_law_place"] (defScope s_q14) := ⟨rfl, rfl, rfl, by decide +kernel, rfl, by decide +kernel, by decide +kernel⟩
abbrev s_q17 : Stmt := (top 24)
def N_q17 : List Str := ["_law_cell", "_law_wants", "_law_oftens", "_law_masks", "_law_works", "_law_places", "_law_taken_here", "_law_k", "_law_work", "_law_place"]
theorem sc_q17 : FnScope N_q17 ["_law_cell", "_law_wants", "_law_oftens", "_law_masks"] (defScope s_q17) := ⟨rfl, rfl, rfl, by decide +kernel, rfl, by decide +kernel, by decide +kernel⟩
abbrev s_q18 : Stmt := (top 25)
def N_q18 : List Str := ["_law_mask", "_law_many", "_law_found", "_law_k"]
theorem sc_q18 : FnScope N_q18 ["_law_mask", "_law_many"] (defScope s_q18) := ⟨rfl, rfl, rfl, by decide +kernel, rfl, by decide +kernel, by decide +kernel⟩
abbrev s_q12 : Stmt := (top 26)
def N_q12 : List Str := ["_law_script", "_law_wants", "_law_oftens", "_law_masks", "_law_pairs", "_law_wanting", "_law_paper", "_law_way", "_law_cell", "_law_taken_here", "_law_some", "_law_turned"]
theorem sc_q12 : FnScope N_q12 ["_law_script"] (defScope s_q12) := ⟨rfl, rfl, rfl, by decide +kernel, rfl, by decide +kernel, by decide +kernel⟩
structure Adr where
  mask_of : Addr
  members : Addr
  has : Addr
  first_of : Addr
  shared : Addr
  either : Addr
  less : Addr
  Dealer___init__ : Addr
  Dealer_search : Addr
  Dealer_go_on_from : Addr
  Dealer_change : Addr
  Dealer_grow : Addr
  pairs_of : Addr
  deal : Addr
  is_rising : Addr
  can_be_paired : Addr
  none_above : Addr
  is_dealing : Addr
  places_fitted : Addr
  shown : Addr
  law_cell_at : Addr
  law_mixed : Addr
  law_ground : Addr
  law_fit : Addr
  law_taken : Addr
  law_turned_bits : Addr
  C_Dealer : Addr
structure Txt (K : PySem.W.Frag) (mg : Str → Option Value) (a : Adr) : Prop where
  m_q20 : mg "mask_of" = some (.ref a.mask_of)
  m_q21 : mg "members" = some (.ref a.members)
  m_q9 : mg "has" = some (.ref a.has)
  m_q8 : mg "first_of" = some (.ref a.first_of)
  m_q25 : mg "shared" = some (.ref a.shared)
  m_q7 : mg "either" = some (.ref a.either)
  m_q19 : mg "less" = some (.ref a.less)
  m_q23 : mg "pairs_of" = some (.ref a.pairs_of)
  m_q6 : mg "deal" = some (.ref a.deal)
  m_q11 : mg "is_rising" = some (.ref a.is_rising)
  m_q5 : mg "can_be_paired" = some (.ref a.can_be_paired)
  m_q22 : mg "none_above" = some (.ref a.none_above)
  m_q10 : mg "is_dealing" = some (.ref a.is_dealing)
  m_q24 : mg "places_fitted" = some (.ref a.places_fitted)
  m_q26 : mg "shown" = some (.ref a.shown)
  m_q13 : mg "_law_cell_at" = some (.ref a.law_cell_at)
  m_q16 : mg "_law_mixed" = some (.ref a.law_mixed)
  m_q15 : mg "_law_ground" = some (.ref a.law_ground)
  m_q14 : mg "_law_fit" = some (.ref a.law_fit)
  m_q17 : mg "_law_taken" = some (.ref a.law_taken)
  m_q18 : mg "_law_turned_bits" = some (.ref a.law_turned_bits)
  m_Dealer : mg "Dealer" = some (.ref a.C_Dealer)
  cls_Dealer : Cls K a.C_Dealer
  mk_Dealer : Mk K a.C_Dealer a.Dealer___init__
  meth_Dealer_search : Meth K a.C_Dealer "search" a.Dealer_search
  meth_Dealer_go_on_from : Meth K a.C_Dealer "go_on_from" a.Dealer_go_on_from
  meth_Dealer_change : Meth K a.C_Dealer "change" a.Dealer_change
  meth_Dealer_grow : Meth K a.C_Dealer "grow" a.Dealer_grow
  no_Dealer_masks : NoAttr K a.C_Dealer "masks"
  no_Dealer_held : NoAttr K a.C_Dealer "held"
  no_Dealer_still : NoAttr K a.C_Dealer "still"
  no_Dealer_left : NoAttr K a.C_Dealer "left"
  no_Dealer_came : NoAttr K a.C_Dealer "came"
  z_all : mg "all" = none
  z_enumerate : mg "enumerate" = none
  z_len : mg "len" = none
  z_list : mg "list" = none
  z_min : mg "min" = none
  z_range : mg "range" = none
  z_reversed : mg "reversed" = none
  z_sorted : mg "sorted" = none
  z_sum : mg "sum" = none
  z_zip : mg "zip" = none
section
variable {P : Program} {w : World} {K : PySem.W.Frag} {mg : Str → Option Value} {base : Heap} {a : Adr}
def cellZ (ns : List Int) (k : Int) : Int := ns.getD k.toNat 0
def sp_q13 (K : PySem.W.Frag) : Sp := fun vs H Q _ => ∃ (a : Addr) (ns : List Int) (k : Int), vs = [.ref a, .int k] ∧ SqL K H a (ns.map V.int) ∧ ns.length ≤ 63 ∧ 0 ≤ k ∧ Q (.int (cellZ ns k)) H
theorem ok_q13 {f : Addr} {fd : FuncData} (F : Fun K "_law_cell_at" "_law_cell_at" s_q13 f fd) (T : Txt K mg a) : FnOk P w K mg base CX0 1 f fd ["_law_script", "_law_k"] (sp_q13 K) := by
  refine F.ok sc_q13 (fun vs H Q E h => ?_) (fun cdv A outer s H vs Q E hr h => ?_)
  · obtain ⟨a, ns, k, rfl, _⟩ := h
    rfl
  · obtain ⟨a, ns, k, rfl, hS, hl, h0, q⟩ := h
    refine ⟨_, (pss_cons (ps_if (pt_cmpR op_lt (pvA 1 (defScope s_q13) N_q13 rfl rfl) (pe_callBN (sc := defScope s_q13) call_len rfl (by decide +kernel) T.z_len bt_len (pa_cons (pvA 0 (defScope s_q13) N_q13 rfl rfl) pa_nil)) (nomark _)) (pss_one (ps_ret (pe_ix ix_seq (pvA 0 (defScope s_q13) N_q13 rfl rfl) (pvA 1 (defScope s_q13) N_q13 rfl rfl) (fun _ _ => rfl)))) pss_nil)
      (pss_one (ps_ret pe_int))), ?_⟩
    refine ⟨_, rfl, _, rfl, .ref a, ns.length, rfl, .inl ⟨_, hS, by simp⟩, _, _, rfl, rfl, _, rfl, ite2 (fun hlt => ?_) (fun hge => ?_)⟩
    · have hk : k < (ns.length : Int) := of_decide_eq_true hlt
      refine ⟨_, rfl, _, rfl, .inl ⟨a, _, k, .int (cellZ ns k), rfl, rfl, hS, ?_, q⟩⟩
      have hk' : k.toNat < ns.length := by omega
      have e : (k.toNat : Int) = k := Int.toNat_of_nonneg h0
      rw [← e]
      refine atI_nat ?_
      rw [List.getElem?_map, List.getElem?_eq_getElem hk']
      unfold cellZ
      rw [Int.toNat_natCast, List.getD_eq_getElem?_getD, List.getElem?_eq_getElem hk']
      rfl
    · have hk : ¬ k < (ns.length : Int) := fun z => hge (decide_eq_true z)
      have e : cellZ ns k = 0 := by
        unfold cellZ
        rw [List.getD_eq_getElem?_getD, List.getElem?_eq_none (by omega)]
        rfl
      rw [e] at q
      exact q
theorem rep_zero (n : Nat) : (List.replicate n [V.int 0]).flatten = nV (List.replicate n 0) := by
  induction n with
  | zero => rfl
  | succ n ih => rw [List.replicate_succ, List.flatten_cons, ih]; rfl
theorem getD_at {l : List Nat} {p : Nat} (h : p < l.length) : l[p]? = some (l.getD p 0) := by
  rw [List.getD_eq_getElem?_getD, List.getElem?_eq_getElem h]
  rfl
theorem nV_at {l : List Nat} {p : Nat} (h : p < l.length) : atI (nV l) ((p : Nat) : Int) = some (.int (l.getD p 0 : Nat)) :=
  atI_nat (by unfold nV; rw [List.getElem?_map, getD_at h]; rfl)
theorem ixN_nat {n i : Nat} (h : i < n) : ixN n ((i : Nat) : Int) = some i := by
  unfold ixN
  rw [if_pos (by omega), if_pos (by omega), Int.toNat_natCast]
theorem ixN_last (n : Nat) : ixN (n + 1) (-1) = some n := by
  unfold ixN
  rw [if_neg (by decide), if_pos (by omega), show (-1 + ((n + 1 : Nat) : Int)).toNat = n by omega]
theorem nV_len (l : List Nat) : (nV l).length = l.length := by unfold nV; rw [List.length_map]
theorem nV_snoc (l : List Nat) (x : Nat) : nV l ++ [V.int (x : Nat)] = nV (l ++ [x]) := by unfold nV; rw [List.map_append]; rfl
theorem nV_set (l : List Nat) (j x : Nat) : (nV l).set j (.int (x : Nat)) = nV (l.set j x) := by
  unfold nV
  rw [List.map_set]
def sp_q9 (_ : PySem.W.Frag) : Sp := fun vs H Q _ => ∃ (m : Nat) (n : Int), vs = [.int m, .int n] ∧ Q (.bl (decide (0 ≤ n) && m.testBit n.toNat)) H
theorem ok_q9 {f : Addr} {fd : FuncData} (F : Fun K "has" "has" s_q9 f fd) (T : Txt K mg a) : FnOk P w K mg base CX0 1 f fd ["mask", "number"] (sp_q9 K) := by
  refine F.ok sc_q9 (fun vs H Q E h => ?_) (fun cdv A outer s H vs Q E hr h => ?_)
  · obtain ⟨m, n, rfl, _⟩ := h
    rfl
  · obtain ⟨m, n, rfl, q⟩ := h
    refine ⟨_, (pss_one (ps_ret (pe_and (pe_cmpR op_ge (pvA 1 (defScope s_q9) N_q9 rfl rfl) pe_int (nomark _)) (pe_one (pe_cmpR op_eq (pe_op op_and (pe_op op_shr (pvA 0 (defScope s_q9) N_q9 rfl rfl) (pvA 1 (defScope s_q9) N_q9 rfl rfl)) pe_int) pe_int (nomark _)))))), ?_⟩
    refine ⟨_, rfl, _, _, rfl, rfl, _, rfl, ite2 (fun h0 => ?_) (fun h0 => ?_)⟩
    · have h0' : 0 ≤ n := of_decide_eq_true h0
      refine ⟨_, rfl, _, rfl, _, _, rfl, rfl, h0', _, _, rfl, rfl, rfl, ?_⟩
      have e : (decide (0 ≤ n) && m.testBit n.toNat) = decide (V.int (Builtin.bitAnd ((m : Int) / 2 ^ n.toNat) 1) = V.int 1) := by
        rw [decide_eq_true h0', Bool.true_and, ← CB.has_eq]
        exact decide_eq_decide.mpr ⟨fun z => by rw [z], fun z => V.int.inj z⟩
      rw [e] at q
      exact q
    · rw [decide_eq_false (fun z => h0 (decide_eq_true z)), Bool.false_and] at q
      exact q
def sp_q20 (K : PySem.W.Frag) : Sp := fun vs H Q _ => ∃ (p : Addr) (ns : List Nat), vs = [.ref p] ∧ SqL K H p (ns.map fun n : Nat => V.int n) ∧ (∀ n ∈ ns, n ≤ 1000) ∧ Q (.int (CB.maskOf ns : Nat)) H
theorem ok_q20 {f : Addr} {fd : FuncData} (F : Fun K "mask_of" "mask_of" s_q20 f fd) (T : Txt K mg a) : FnOk P w K mg base CX0 1 f fd ["numbers"] (sp_q20 K) := by
  refine F.ok sc_q20 (fun vs H Q E h => ?_) (fun cdv A outer s H vs Q E hr h => ?_)
  · obtain ⟨p, ns, rfl, _⟩ := h
    rfl
  · obtain ⟨p, ns, rfl, hp, hb, q⟩ := h
    refine ⟨_, (pss_cons (psN (i := 1) (sc := defScope s_q20) (M := N_q20) rfl rfl (by decide +kernel) pe_int)
      (pss_cons (ps_for PassesOwn.never rfl (pi_list (pvA 0 (defScope s_q20) N_q20 rfl rfl)) (pgN (i := 2) (sc := defScope s_q20) (M := N_q20) rfl rfl (by decide +kernel)) (pss_one (psN (i := 1) (sc := defScope s_q20) (M := N_q20) rfl rfl (by decide +kernel) (pe_op op_or (pvA 1 (defScope s_q20) N_q20 rfl rfl) (pe_op op_shl pe_int (pvA 2 (defScope s_q20) N_q20 rfl rfl))))))
      (pss_one (ps_ret (pvA 1 (defScope s_q20) N_q20 rfl rfl))))), ?_⟩
    refine ⟨_, rfl, p, rfl, ⟨_, hp⟩, for_list (xs := ns.map fun n : Nat => V.int n) (fun i σ H' => (∃ v, σ = [some (.ref p), some (.int (CB.maskOf (ns.take i) : Nat)), v]) ∧ H' = H) ⟨⟨_, rfl⟩, rfl⟩ ?_ ?_ ?_⟩
    · rintro i σ H' _ ⟨_, rfl⟩
      exact hp
    · rintro i x σ H' hx ⟨⟨v, rfl⟩, rfl⟩
      rw [List.getElem?_map] at hx
      obtain ⟨n, hn, rfl⟩ := Option.map_eq_some_iff.mp hx
      have hb' := hb n (List.mem_of_getElem? hn)
      refine ⟨_, rfl, _, rfl, _, _, rfl, rfl, ⟨by omega, by omega, by decide⟩, _, _, rfl, rfl, ⟨some (.int (n : Nat)), ?_⟩, rfl⟩
      have e : Builtin.bitOr ((CB.maskOf (ns.take i) : Nat) : Int) (1 * 2 ^ ((n : Int)).toNat) = ((CB.maskOf (ns.take (i + 1)) : Nat) : Int) := by
        rw [Int.one_mul, Int.toNat_natCast, CB.pow_cast, CB.or_cast, take_snoc hn]
        unfold CB.maskOf
        rw [List.foldl_append]
        rfl
      rw [← e]
      rfl
    · rintro σ H' ⟨⟨v, rfl⟩, rfl⟩
      rw [List.length_map, List.take_length]
      exact ⟨_, rfl, q⟩
def sp_q21 (_ : PySem.W.Frag) : Sp := fun vs H Q _ => ∃ m : Nat, vs = [.int m] ∧ m < 2 ^ 1000 ∧ ∀ H' l, H l = none → Same H H' → H' l = some (.lst ((CB.memb m).map fun n : Nat => V.int n)) → Q (.ref l) H'
theorem ok_q21 {f : Addr} {fd fd_q9 : FuncData} (F : Fun K "members" "members" s_q21 f fd) (T : Txt K mg a)
    (G_q9 : FnOk P w K mg base CX0 1 a.has fd_q9 ["mask", "number"] (sp_q9 K)) (F_q9 : Fun K "has" "has" s_q9 a.has fd_q9) (b_q9 : Binds K fd_q9 ["mask", "number"] []) : FnOk P w K mg base CX0 2 f fd ["mask"] (sp_q21 K) := by
  refine F.ok sc_q21 (fun vs H Q E h => ?_) (fun cdv A outer s H vs Q E hr h => ?_)
  · obtain ⟨m, rfl, _⟩ := h
    rfl
  · obtain ⟨m, rfl, hm, q⟩ := h
    refine ⟨_, (pss_one (ps_ret (pe_comp rfl (N := ["number", "mask"]) (own := 1) (js := [0]) (X := (cxOf CX0 P w K mg base N_q21 "members" (defScope s_q21) f cdv A outer s H E).nox) (compOk (defScope s_q21) N_q21 rfl rfl (by decide +kernel)) (pi_range1 (glR (sc := defScope s_q21) rfl (by decide +kernel)) T.z_range (pa_cons (pe_bm0 PySem.F.plainAttrs_int slot_int_bit_length type_int_bit_length mt_bit_length (pvA 0 (defScope s_q21) N_q21 rfl rfl)) pa_nil)) (fun fp0 sx0 Hx0 => (pgN (i := 0) (sc := relabelS _ (defScope s_q21)) (M := ["number", "mask"]) rfl rfl (by decide +kernel))) (fun fp0 sx0 Hx0 => (pifs_one (pt_val (pe_callN (sc := relabelS _ (defScope s_q21)) G_q9 (hr.mono (by decide)) rfl (by decide +kernel) T.m_q9 F_q9.kp b_q9 .nil pass0 (pa_cons (pvN (i := 1) (sc := relabelS _ (defScope s_q21)) (M := ["number", "mask"]) rfl rfl (by decide +kernel)) (pa_cons (pvN (i := 0) (sc := relabelS _ (defScope s_q21)) (M := ["number", "mask"]) rfl rfl (by decide +kernel)) pa_nil)))))) (fun fp0 sx0 Hx0 => (pvN (i := 0) (sc := relabelS _ (defScope s_q21)) (M := ["number", "mask"]) rfl rfl (by decide +kernel)))))), ?_⟩
    have hb : Builtin.Int.intBits (m : Int) ≤ 1000 := intBits_le_iff.mpr (by rw [Int.natAbs_natCast]; exact hm)
    have hs : sizeLine = 16777216 := sizeLine_eq
    refine ⟨_, rfl, rfl, rfl, _, rfl, _, rfl, by omega, by omega, fun c hc => ?_⟩
    refine comp_grow hc (yields_range (P := fun _ => True)) (fun σ => ∃ v, σ = [v, some (.int m)]) (fun x => match x with | .int z => if m.testBit z.toNat then some (.int z) else none | _ => none) ⟨_, rfl⟩ (fun _ _ => trivial) (by rw [List.length_map, List.length_range]; omega) ?_ ?_
    · rintro x ys σ H' R1 R0 hx ⟨v, rfl⟩ s1 k1 k0
      obtain ⟨i, hi, rfl⟩ := List.mem_map.mp hx
      rw [show (0 : Int) + (i : Nat) = (i : Nat) by omega] at k1 k0 ⊢
      refine ⟨_, rfl, _, rfl, m, _, rfl, _, rfl, ?_⟩
      rw [decide_eq_true (show (0 : Int) ≤ (i : Nat) by omega), Bool.true_and, Int.toNat_natCast]
      have te : (if m.testBit ((i : Nat) : Int).toNat = true then some (V.int (i : Nat)) else none) = (if m.testBit i = true then some (V.int (i : Nat)) else none) := by rw [Int.toNat_natCast]
      refine ite2 (fun h1 => ?_) (fun h1 => ?_)
      · exact ⟨_, rfl, k1 _ _ _ ⟨_, rfl⟩ (te.trans (if_pos h1)) (Same.refl _)⟩
      · exact k0 _ _ ⟨_, rfl⟩ (te.trans (if_neg h1)) (Same.refl _)
    · intro H' s1 e1
      refine q H' c hc s1 (e1.trans ?_)
      congr 2
      rw [Int.toNat_natCast]
      unfold CB.memb
      generalize Builtin.Int.intBits (m : Int) = n
      rw [List.filterMap_map]
      induction List.range n with
      | nil => rfl
      | cons i r ih =>
        rw [List.filterMap_cons, List.filter_cons]
        have ez : (0 : Int) + (i : Nat) = (i : Nat) := by omega
        cases h1 : m.testBit i with
        | true =>
          have : ((fun x => match x with | V.int z => if m.testBit z.toNat = true then some (V.int z) else none | _ => none) ∘ fun i : Nat => V.int (0 + (i : Nat))) i = some (V.int (i : Nat)) := by
            show (if m.testBit ((0 : Int) + (i : Nat)).toNat = true then some (V.int (0 + (i : Nat))) else none) = _
            rw [ez, Int.toNat_natCast, if_pos h1]
          rw [this, if_pos rfl, List.map_cons]
          dsimp only
          rw [ih]
        | false =>
          have : ((fun x => match x with | V.int z => if m.testBit z.toNat = true then some (V.int z) else none | _ => none) ∘ fun i : Nat => V.int (0 + (i : Nat))) i = none := by
            show (if m.testBit ((0 : Int) + (i : Nat)).toNat = true then some (V.int (0 + (i : Nat))) else none) = _
            rw [ez, Int.toNat_natCast, if_neg (by rw [h1]; decide)]
          rw [this, if_neg (by decide)]
          dsimp only
          rw [ih]
def sp_q8 (_ : PySem.W.Frag) : Sp := fun vs H Q _ => ∃ m : Nat, vs = [.int m] ∧ ∀ r, (m = 0 ∧ r = V.non ∨ ∃ k : Nat, (CB.memb m)[0]? = some k ∧ r = .int (k : Nat)) → Q r H
theorem ok_q8 {f : Addr} {fd : FuncData} (F : Fun K "first_of" "first_of" s_q8 f fd) (T : Txt K mg a) : FnOk P w K mg base CX0 1 f fd ["mask"] (sp_q8 K) := by
  refine F.ok sc_q8 (fun vs H Q E h => ?_) (fun cdv A outer s H vs Q E hr h => ?_)
  · obtain ⟨m, rfl, _⟩ := h
    rfl
  · obtain ⟨m, rfl, q1⟩ := h
    refine ⟨_, (pss_cons (ps_if (pt_cmpR op_eq (pvA 0 (defScope s_q8) N_q8 rfl rfl) pe_int (nomark _)) (pss_one (ps_ret pe_non)) pss_nil)
      (pss_one (ps_ret (pe_op op_sub (pe_bm0 PySem.F.plainAttrs_int slot_int_bit_length type_int_bit_length mt_bit_length (pe_op op_and (pvA 0 (defScope s_q8) N_q8 rfl rfl) (pe_un un_neg (pvA 0 (defScope s_q8) N_q8 rfl rfl)))) pe_int)))), ?_⟩
    refine ⟨_, rfl, rfl, _, rfl, ite2 (fun h1 => ?_) (fun h1 => ?_)⟩
    · have h1' := V.int.inj (of_decide_eq_true h1)
      exact q1 _ (.inl ⟨by omega, rfl⟩)
    · have h1' : m ≠ 0 := fun z => h1 (decide_eq_true (by rw [z]; rfl))
      obtain ⟨k, e1, e2⟩ := CB.low_eq h1'
      have q := q1 _ (.inr ⟨k, e1, rfl⟩)
      rw [← e2] at q
      exact ⟨_, rfl, _, rfl, _, rfl, _, _, rfl, rfl, rfl, rfl, _, rfl, _, _, rfl, rfl, q⟩
def sp_q25 (_ : PySem.W.Frag) : Sp := fun vs H Q _ => ∃ m n : Nat, vs = [.int m, .int n] ∧ Q (.int (m &&& n : Nat)) H
theorem ok_q25 {f : Addr} {fd : FuncData} (F : Fun K "shared" "shared" s_q25 f fd) (T : Txt K mg a) : FnOk P w K mg base CX0 1 f fd ["one", "other"] (sp_q25 K) := by
  refine F.ok sc_q25 (fun vs H Q E h => ?_) (fun cdv A outer s H vs Q E hr h => ?_)
  · obtain ⟨m, n, rfl, _⟩ := h
    rfl
  · obtain ⟨m, n, rfl, q⟩ := h
    refine ⟨_, (pss_one (ps_ret (pe_op op_and (pvA 0 (defScope s_q25) N_q25 rfl rfl) (pvA 1 (defScope s_q25) N_q25 rfl rfl)))), ?_⟩
    rw [← CB.and_cast] at q
    exact ⟨_, rfl, _, rfl, _, _, rfl, rfl, q⟩
def sp_q7 (_ : PySem.W.Frag) : Sp := fun vs H Q _ => ∃ m n : Nat, vs = [.int m, .int n] ∧ Q (.int (m ||| n : Nat)) H
theorem ok_q7 {f : Addr} {fd : FuncData} (F : Fun K "either" "either" s_q7 f fd) (T : Txt K mg a) : FnOk P w K mg base CX0 1 f fd ["one", "other"] (sp_q7 K) := by
  refine F.ok sc_q7 (fun vs H Q E h => ?_) (fun cdv A outer s H vs Q E hr h => ?_)
  · obtain ⟨m, n, rfl, _⟩ := h
    rfl
  · obtain ⟨m, n, rfl, q⟩ := h
    refine ⟨_, (pss_one (ps_ret (pe_op op_or (pvA 0 (defScope s_q7) N_q7 rfl rfl) (pvA 1 (defScope s_q7) N_q7 rfl rfl)))), ?_⟩
    rw [← CB.or_cast] at q
    exact ⟨_, rfl, _, rfl, _, _, rfl, rfl, q⟩
def sp_q19 (_ : PySem.W.Frag) : Sp := fun vs H Q _ => ∃ m n : Nat, vs = [.int m, .int n] ∧ Q (.int (CB.less m n : Nat)) H
theorem ok_q19 {f : Addr} {fd : FuncData} (F : Fun K "less" "less" s_q19 f fd) (T : Txt K mg a) : FnOk P w K mg base CX0 1 f fd ["one", "other"] (sp_q19 K) := by
  refine F.ok sc_q19 (fun vs H Q E h => ?_) (fun cdv A outer s H vs Q E hr h => ?_)
  · obtain ⟨m, n, rfl, _⟩ := h
    rfl
  · obtain ⟨m, n, rfl, q⟩ := h
    refine ⟨_, (pss_one (ps_ret (pe_op op_and (pvA 0 (defScope s_q19) N_q19 rfl rfl) (pe_un un_inv (pvA 1 (defScope s_q19) N_q19 rfl rfl))))), ?_⟩
    rw [← CB.less_cast] at q
    exact ⟨_, rfl, _, rfl, _, rfl, _, _, rfl, rfl, q⟩
def open_ (ms held : List Nat) (p : Nat) : Nat := CB.less (ms.getD p 0) (held.getD p 0)
def sp_q2 (K : PySem.W.Frag) (C : Addr) : Sp := fun vs H Q _ => ∃ (x dx pm ph ps pl pc : Addr) (ms held still left : List Nat) (kvs : List (Key × V)) (c : CD.Came) (D : Hp) (p j : Nat) (o : Option (Nat × Nat)), vs = [.ref x, .int (p : Nat), .int (open_ ms held p : Nat)] ∧ CO.Dlr C D H x dx pm ph ps pl pc ms held still left kvs ∧ CO.CameAt D kvs c ∧ CD.Tree ms held still ms.length c ∧ c[j]? = some (p, o) ∧ held.length = ms.length ∧ ms.length ≤ 1000 ∧
  ∀ D' H' kvs' new pf, CO.Dlr C D' H' x dx pm ph ps pl pc ms held still left kvs' → CO.CameAt D' kvs' (c ++ new) → CD.Tree ms held still ms.length (c ++ new) → (∀ w, CD.hb ms p w = true → CD.hb held p w = false → ∀ q, q < ms.length → CD.hb held q w = true → q ∈ (c ++ new).map Prod.fst) → H pf = none → D' pf = none → H' pf = some (.lst (nV (new.map Prod.fst))) → Same D D' → (∀ b u, b ≠ pc → H b = some u → H' b = some u) → (∀ b u, H b = some u → D b = none → D' b = none) → Q (.ref pf) H'
theorem ok_q2 {f : Addr} {fd fd_q8 fd_q25 : FuncData} (F : Fun K "go_on_from" "Dealer.go_on_from" s_q2 f fd) (T : Txt K mg a)
    (G_q8 : FnOk P w K mg base CX0 1 a.first_of fd_q8 ["mask"] (sp_q8 K)) (F_q8 : Fun K "first_of" "first_of" s_q8 a.first_of fd_q8) (b_q8 : Binds K fd_q8 ["mask"] [])
    (G_q25 : FnOk P w K mg base CX0 1 a.shared fd_q25 ["one", "other"] (sp_q25 K)) (F_q25 : Fun K "shared" "shared" s_q25 a.shared fd_q25) (b_q25 : Binds K fd_q25 ["one", "other"] []) : FnOk P w K mg base CX0 2 f fd ["self", "place", "works"] (sp_q2 K a.C_Dealer) := by
  refine F.ok sc_q2 (fun vs H Q E h => ?_) (fun cdv A outer s H vs Q E hr h => ?_)
  · obtain ⟨x, dx, pm, ph, ps, pl, pc, ms, held, still, left, kvs, c, D, p, j, o, rfl, _⟩ := h
    rfl
  · obtain ⟨x, dx, pm, ph, ps, pl, pc, ms, held, still, left, kvs, c, D, p, j, o, rfl, r, ca, tr, ej, lh, hn, q⟩ := h
    refine ⟨_, (pss_cons (psN (i := 3) (sc := defScope s_q2) (M := N_q2) rfl rfl (by decide +kernel) (pe_lst pa_nil))
      (pss_cons (ps_for PassesOwn.never rfl (pi_enum (glR (sc := defScope s_q2) rfl (by decide +kernel)) T.z_enumerate (pa_cons (pe_fld (pvA 0 (defScope s_q2) N_q2 rfl rfl) rfl) pa_nil)) (pg_tup (n := 2) (by rfl) (pgs_cons (pgN (i := 4) (sc := defScope s_q2) (M := N_q2) rfl rfl (by decide +kernel)) (pgs_cons (pgN (i := 5) (sc := defScope s_q2) (M := N_q2) rfl rfl (by decide +kernel)) pgs_nil))) (pss_cons (psN (i := 6) (sc := defScope s_q2) (M := N_q2) rfl rfl (by decide +kernel) (pe_callN (sc := defScope s_q2) G_q8 (hr.mono (by decide)) rfl (by decide +kernel) T.m_q8 F_q8.kp b_q8 .nil pass0 (pa_cons (pe_callN (sc := defScope s_q2) G_q25 (hr.mono (by decide)) rfl (by decide +kernel) T.m_q25 F_q25.kp b_q25 .nil pass0 (pa_cons (pvA 2 (defScope s_q2) N_q2 rfl rfl) (pa_cons (pvA 5 (defScope s_q2) N_q2 rfl rfl) pa_nil))) pa_nil)))
      (pss_one (ps_if (PW.pt (pw_and (pt_cmpR op_notN (pvA 6 (defScope s_q2) N_q2 rfl rfl) pe_non (nomark _)) (pw_and1 (pt_cmp (pc_dnotin (hu_of hr) (pvA 4 (defScope s_q2) N_q2 rfl rfl) (pe_fld (pvA 0 (defScope s_q2) N_q2 rfl rfl) rfl)))))) (pss_cons (ps_dput (hu_of hr) (pe_fld (pvA 0 (defScope s_q2) N_q2 rfl rfl) rfl) (pvA 4 (defScope s_q2) N_q2 rfl rfl) (pe_tup (pa_cons (pvA 6 (defScope s_q2) N_q2 rfl rfl) (pa_cons (pvA 1 (defScope s_q2) N_q2 rfl rfl) pa_nil))) rfl)
      (pss_one (ps_expr (pe_bm PySem.F.plainAttrs_list PySem.F.slot_list_append PySem.F.type_list_append mt_append (pvA 3 (defScope s_q2) N_q2 rfl rfl) (pa_cons (pvA 4 (defScope s_q2) N_q2 rfl rfl) pa_nil))))) pss_nil))))
      (pss_one (ps_ret (pvA 3 (defScope s_q2) N_q2 rfl rfl))))), ?_⟩
    have hs : sizeLine = 16777216 := sizeLine_eq
    have lc : ∀ {c' : CD.Came}, CD.Tree ms held still ms.length c' → c'.length ≤ 1000 := fun t => Nat.le_trans (CO.tree_len t) hn
    refine ⟨by show 0 ≤ sizeLine; omega, fun pf hpf => ?_⟩
    have r1 := r.gr (Gr.layH (o := .lst []) r.dh hpf)
    have e1 : upd H pf (.lst []) pf = some (.lst []) := upd_same
    have s1 : Same H (upd H pf (.lst [])) := Same.upd0 hpf
    have nf : pf ∉ [x, pm, ph, ps, pl, pc] := r.fresh hpf
    generalize upd H pf (.lst []) = H1 at r1 e1 s1 ⊢
    refine ⟨_, rfl, x, _, dx, _, _, rfl, r1.ins, T.cls_Dealer, T.no_Dealer_held, CO.f_held, ph, rfl, ⟨_, SqL.of r1.h⟩, ?_⟩
    refine L5.for_enum (xs := nV held) (fun i σ H' => ∃ D' kvs' new v4 v5 v6, σ = [some (.ref x), some (.int (p : Nat)), some (.int (open_ ms held p : Nat)), some (.ref pf), v4, v5, v6] ∧ CO.Dlr a.C_Dealer D' H' x dx pm ph ps pl pc ms held still left kvs' ∧ CO.CameAt D' kvs' (c ++ new) ∧ CD.Tree ms held still ms.length (c ++ new) ∧ (∀ w, CD.hb ms p w = true → CD.hb held p w = false → ∀ q, q < i → CD.hb held q w = true → q ∈ (c ++ new).map Prod.fst) ∧ D' pf = none ∧ H' pf = some (.lst (nV (new.map Prod.fst))) ∧ Same D D' ∧ (∀ b u, b ≠ pc → H b = some u → H' b = some u) ∧ (∀ b u, H b = some u → D b = none → D' b = none)) ⟨D, kvs, [], _, _, _, rfl, r1, by rw [List.append_nil]; exact ca, by rw [List.append_nil]; exact tr, fun _ _ _ q hq => absurd hq (Nat.not_lt_zero q), r.dh.free hpf, e1, Same.refl _, fun b u _ e => s1 b u e, fun _ _ _ n => n⟩ ?_ ?_ ?_
    · rintro i σ H' _ ⟨D', kvs', new, v4, v5, v6, _, r', _⟩
      exact SqL.of r'.h
    · rintro i y σ H2 Tt hy ⟨D2, kvs2, new, v4, v5, v6, rfl, r2, ca2, tr2, cov, n2, e2, sd, kp, nw⟩ hTt
      unfold nV at hy
      rw [List.getElem?_map] at hy
      obtain ⟨hd, hhd, rfl⟩ := Option.map_eq_some_iff.mp hy
      have hi : i < ms.length := by rw [← lh]; exact (List.getElem?_eq_some_iff.mp hhd).1
      have ehd : held.getD i 0 = hd := CG.getD_of hhd
      rw [show (0 : Int) + (i : Nat) = (i : Nat) by omega]
      have g2 := Gr.layH (o := .tup [.int (i : Nat), .int (hd : Nat)]) r2.dh hTt
      have r3 := r2.gr g2
      have e3 := g2.hh _ _ e2
      have k3 : ∀ b u, b ≠ pc → H b = some u → upd H2 Tt (.tup [.int (i : Nat), .int (hd : Nat)]) b = some u := fun b u hb e => g2.hh _ _ (kp b u hb e)
      have et : upd H2 Tt (.tup [.int (i : Nat), .int (hd : Nat)]) Tt = some (.tup [.int (i : Nat), .int (hd : Nat)]) := upd_same
      generalize upd H2 Tt (.tup [.int (i : Nat), .int (hd : Nat)]) = H3 at r3 e3 k3 et ⊢
      have bit : ∀ w, (open_ ms held p &&& hd).testBit w = (CD.hb ms p w && !CD.hb held p w && CD.hb held i w) := fun w => by
        rw [Nat.testBit_and]
        unfold open_
        rw [CB.less_bit, ← ehd]
        rfl
      refine ⟨Tt, _, rfl, SqT.of et, rfl, _, _, rfl, _, _, rfl, rfl, ?_⟩
      refine ⟨_, rfl, _, rfl, _, _, rfl, _, rfl, fun rv hrv => ?_⟩
      rcases hrv with ⟨h0, rfl⟩ | ⟨wk, hwk, rfl⟩
      · refine ⟨_, rfl, rfl, _, rfl, iteF (iteF ?_)⟩
        refine ⟨D2, kvs2, new, _, _, _, rfl, r3, ca2, tr2, fun w h1 h2 q hq h3 => ?_, n2, e3, sd, k3, nw⟩
        by_cases z : q < i
        · exact cov w h1 h2 q z h3
        · obtain rfl : q = i := by omega
          have := bit w
          rw [h0, Nat.zero_testBit, h1, h2, h3] at this
          cases this
      · have hwb := CB.mem_memb.mp (List.mem_of_getElem? hwk)
        rw [bit wk, Bool.and_eq_true, Bool.and_eq_true, Bool.not_eq_true'] at hwb
        obtain ⟨⟨b1, b2⟩, b3⟩ := hwb
        refine ⟨_, rfl, rfl, _, rfl, iteT ⟨_, rfl, _, rfl, x, _, dx, _, _, rfl, r3.ins, T.cls_Dealer, T.no_Dealer_came, CO.f_came, pc, _, rfl, DGet.k (k := CO.pk i) r3.c, ?_⟩⟩
        rw [ca2.has i]
        by_cases hin : i ∈ (c ++ new).map Prod.fst
        · refine ⟨_, rfl, ?_⟩
          rw [decide_eq_true hin]
          refine iteF ?_
          refine ⟨D2, kvs2, new, _, _, _, rfl, r3, ca2, tr2, fun w h1 h2 q hq h3 => ?_, n2, e3, sd, k3, nw⟩
          by_cases z : q < i
          · exact cov w h1 h2 q z h3
          · obtain rfl : q = i := by omega
            exact hin
        · refine ⟨_, rfl, ?_⟩
          rw [decide_eq_false hin]
          refine iteT ?_
          refine ⟨_, rfl, _, rfl, by first | decide | (simp only [List.length_cons, List.length_nil, List.length_append, List.length_map]; decide), fun t ht => ?_⟩
          have g4 := Gr.lay (o := .tup [.int (wk : Nat), .int (p : Nat)]) r3.dh ht
          have r4 := r3.gr g4
          have e4 := g4.hh _ _ e3
          have ca4 := ca2.up g4.dd
          have k4 : ∀ b u, b ≠ pc → H b = some u → upd H3 t (.tup [.int (wk : Nat), .int (p : Nat)]) b = some u := fun b u hb e => g4.hh _ _ (k3 b u hb e)
          have ntf : pf ≠ t := ne_of_none e3 ht
          have et4 : upd D2 t (.tup [.int (wk : Nat), .int (p : Nat)]) t = some (.tup [.int (wk : Nat), .int (p : Nat)]) := upd_same
          have n4 : upd D2 t (.tup [.int (wk : Nat), .int (p : Nat)]) pf = none := by rw [upd_ne ntf]; exact n2
          have nw4 : ∀ b u, H b = some u → D b = none → upd D2 t (.tup [.int (wk : Nat), .int (p : Nat)]) b = none := fun b u e n => by
            have hbt : b ≠ t := by
              by_cases z : b = pc
              · rw [z]
                exact ne_of_none r3.c ht
              · exact ne_of_none (k3 b u z e) ht
            rw [upd_ne hbt]
            exact nw b u e n
          have sd4 : Same D (upd D2 t (.tup [.int (wk : Nat), .int (p : Nat)])) := sd.trans g4.dd
          generalize upd H3 t (.tup [.int (wk : Nat), .int (p : Nat)]) = H4 at r4 e4 k4 ⊢
          generalize upd D2 t (.tup [.int (wk : Nat), .int (p : Nat)]) = D4 at r4 ca4 et4 n4 sd4 nw4
          have lkv := ca2.len
          have lt2 := lc tr2
          obtain ⟨ep, ca5⟩ := ca4.snoc (p := i) (v := .ref t) (o := some (wk, p)) hin ⟨t, rfl, et4⟩
          have hj : j < c.length := (List.getElem?_eq_some_iff.mp ej).1
          have tr5 := tr2.snoc (p := i) (o := some (wk, p)) hi hin ⟨⟨j, o, by rw [List.length_append]; omega, by rw [List.getElem?_append_left hj]; exact ej⟩, b1, b2, b3⟩
          refine ⟨_, rfl, x, _, dx, _, _, rfl, r4.ins, T.cls_Dealer, T.no_Dealer_came, CO.f_came, _, rfl, pc, _, rfl, .inl ⟨kvs2, CO.pk i, r4.c, rfl, by omega, rfl⟩, ?_⟩
          rw [ep]
          have r5 := r4.setC (kvs2 ++ [(CO.pk i, V.ref t)])
          have npf : pf ≠ pc := fun z => nf (by rw [z]; simp)
          have e5 : upd H4 pc (.dK (kvs2 ++ [(CO.pk i, V.ref t)])) pf = some (.lst (nV (new.map Prod.fst))) := by rw [upd_ne npf]; exact e4
          have k5 : ∀ b u, b ≠ pc → H b = some u → upd H4 pc (.dK (kvs2 ++ [(CO.pk i, V.ref t)])) b = some u := fun b u hb e => by
            rw [upd_ne hb]
            exact k4 b u hb e
          generalize upd H4 pc (.dK (kvs2 ++ [(CO.pk i, V.ref t)])) = H5 at r5 e5 k5 ⊢
          refine ⟨_, rfl, .inl ⟨rfl, _, SqL.of e5⟩, _, rfl, pf, _, _, rfl, rfl, e5, ?_, ?_⟩
          · rw [nV_len, List.length_map]
            have : new.length ≤ (c ++ new).length := by rw [List.length_append]; omega
            omega
          rw [nV_snoc]
          refine ⟨D4, _, new ++ [(i, some (wk, p))], _, _, _, rfl, r5.other nf n4, by rw [← List.append_assoc]; exact ca5, by rw [← List.append_assoc]; exact tr5, fun w h1 h2 q hq h3 => ?_, n4, by rw [List.map_append]; exact upd_same, sd4, fun b u hb e => ?_, nw4⟩
          · rw [← List.append_assoc, List.map_append]
            by_cases z : q < i
            · exact List.mem_append_left _ (cov w h1 h2 q z h3)
            · obtain rfl : q = i := by omega
              exact List.mem_append_right _ (List.mem_singleton.mpr rfl)
          · rw [upd_ne (ne_of_none e hpf)]
            exact k5 b u hb e
    · rintro σ H' ⟨D', kvs', new, v4, v5, v6, rfl, r', ca', tr', cov, n', e', sd, kp, nw⟩
      rw [nV_len, lh] at cov
      exact ⟨_, rfl, q D' H' kvs' new pf r' ca' tr' cov hpf n' e' sd kp nw⟩
def Found (D : Hp) (ms held still left : List Nat) (c : CD.Came) (r : V) : Prop :=
  (r = .non ∧ CD.Stuck ms held still left (c.map Prod.fst) ms.length) ∨ ∃ (t : Addr) (k p j : Nat) (o : Option (Nat × Nat)), r = .ref t ∧ D t = some (.tup [.int (k : Nat), .int (p : Nat)]) ∧ c[j]? = some (p, o) ∧ CD.hb ms p k = true ∧ CD.hb held p k = false ∧ 0 < left.getD k 0
def sp_q4 (K : PySem.W.Frag) (C : Addr) : Sp := fun vs H Q _ => ∃ (x dx pm ph ps pl pc : Addr) (ms held still left : List Nat) (kvs : List (Key × V)) (D : Hp), vs = [.ref x] ∧ CO.Dlr C D H x dx pm ph ps pl pc ms held still left kvs ∧ held.length = ms.length ∧ still.length = ms.length ∧ ms.length ≤ 1000 ∧ left.length ≤ 1000 ∧
  ∀ D' H' pc' kvs' c r, CO.Dlr C D' H' x dx pm ph ps pl pc' ms held still left kvs' → CO.CameAt D' kvs' c → CD.Tree ms held still ms.length c → Found D' ms held still left c r → Same D D' → (∀ b u, b ≠ x → H b = some u → H' b = some u) → Q r H'
theorem ok_q4 {f : Addr} {fd fd_q2 fd_q8 fd_q19 fd_q20 fd_q25 : FuncData} (F : Fun K "search" "Dealer.search" s_q4 f fd) (T : Txt K mg a)
    (G_q2 : FnOk P w K mg base CX0 2 a.Dealer_go_on_from fd_q2 ["self", "place", "works"] (sp_q2 K a.C_Dealer)) (F_q2 : Fun K "go_on_from" "Dealer.go_on_from" s_q2 a.Dealer_go_on_from fd_q2) (b_q2 : Binds K fd_q2 ["self", "place", "works"] [])
    (G_q8 : FnOk P w K mg base CX0 1 a.first_of fd_q8 ["mask"] (sp_q8 K)) (F_q8 : Fun K "first_of" "first_of" s_q8 a.first_of fd_q8) (b_q8 : Binds K fd_q8 ["mask"] [])
    (G_q19 : FnOk P w K mg base CX0 1 a.less fd_q19 ["one", "other"] (sp_q19 K)) (F_q19 : Fun K "less" "less" s_q19 a.less fd_q19) (b_q19 : Binds K fd_q19 ["one", "other"] [])
    (G_q20 : FnOk P w K mg base CX0 1 a.mask_of fd_q20 ["numbers"] (sp_q20 K)) (F_q20 : Fun K "mask_of" "mask_of" s_q20 a.mask_of fd_q20) (b_q20 : Binds K fd_q20 ["numbers"] [])
    (G_q25 : FnOk P w K mg base CX0 1 a.shared fd_q25 ["one", "other"] (sp_q25 K)) (F_q25 : Fun K "shared" "shared" s_q25 a.shared fd_q25) (b_q25 : Binds K fd_q25 ["one", "other"] []) : FnOk P w K mg base CX0 4 f fd ["self"] (sp_q4 K a.C_Dealer) := by
  refine F.ok sc_q4 (fun vs H Q E h => ?_) (fun cdv A outer s H vs Q E hr h => ?_)
  · obtain ⟨x, dx, pm, ph, ps, pl, pc, ms, held, still, left, kvs, D, rfl, _⟩ := h
    rfl
  · obtain ⟨x, dx, pm, ph, ps, pl, pc, ms, held, still, left, kvs, D, rfl, r, lh, ls, hn, hl, q⟩ := h
    refine ⟨_, (pss_cons (psN (i := 1) (sc := defScope s_q4) (M := N_q4) rfl rfl (by decide +kernel) (pe_callN (sc := defScope s_q4) G_q20 (hr.mono (by decide)) rfl (by decide +kernel) T.m_q20 F_q20.kp b_q20 .nil pass0 (pa_cons (pe_comp rfl (N := ["work", "left"]) (own := 2) (js := []) (X := (cxOf CX0 P w K mg base N_q4 "Dealer.search" (defScope s_q4) f cdv A outer s H E).nox) (compOk (defScope s_q4) N_q4 rfl rfl (by decide +kernel)) (pi_enum (glR (sc := defScope s_q4) rfl (by decide +kernel)) T.z_enumerate (pa_cons (pe_fld (pvA 0 (defScope s_q4) N_q4 rfl rfl) rfl) pa_nil)) (fun fp0 sx0 Hx0 => (kgTup (K := K) rfl (pg_tup (n := 2) (by rfl) (pgs_cons (pgN (i := 0) (sc := relabelS _ (defScope s_q4)) (M := ["work", "left"]) rfl rfl (by decide +kernel)) (pgs_cons (pgN (i := 1) (sc := relabelS _ (defScope s_q4)) (M := ["work", "left"]) rfl rfl (by decide +kernel)) pgs_nil))))) (fun fp0 sx0 Hx0 => (pifs_one (pt_cmpR op_gt (pvN (i := 1) (sc := relabelS _ (defScope s_q4)) (M := ["work", "left"]) rfl rfl (by decide +kernel)) pe_int (nomark _)))) (fun fp0 sx0 Hx0 => (pvN (i := 0) (sc := relabelS _ (defScope s_q4)) (M := ["work", "left"]) rfl rfl (by decide +kernel)))) pa_nil)))
      (pss_cons (psN_comp (i := 2) (sc := defScope s_q4) (M := N_q4) rfl rfl rfl (by decide +kernel) (N := ["place", "still"]) (own := 2) (js := []) (X := (cxOf CX0 P w K mg base N_q4 "Dealer.search" (defScope s_q4) f cdv A outer s H E).nox) (compOk (defScope s_q4) N_q4 rfl rfl (by decide +kernel)) (pi_enum (glR (sc := defScope s_q4) rfl (by decide +kernel)) T.z_enumerate (pa_cons (pe_fld (pvA 0 (defScope s_q4) N_q4 rfl rfl) rfl) pa_nil)) (fun fp0 sx0 Hx0 => (kgTup (K := K) rfl (pg_tup (n := 2) (by rfl) (pgs_cons (pgN (i := 0) (sc := relabelS _ (defScope s_q4)) (M := ["place", "still"]) rfl rfl (by decide +kernel)) (pgs_cons (pgN (i := 1) (sc := relabelS _ (defScope s_q4)) (M := ["place", "still"]) rfl rfl (by decide +kernel)) pgs_nil))))) (fun fp0 sx0 Hx0 => (pifs_one (pt_cmpR op_gt (pvN (i := 1) (sc := relabelS _ (defScope s_q4)) (M := ["place", "still"]) rfl rfl (by decide +kernel)) pe_int (nomark _)))) (fun fp0 sx0 Hx0 => (pvN (i := 0) (sc := relabelS _ (defScope s_q4)) (M := ["place", "still"]) rfl rfl (by decide +kernel))) rfl)
      (pss_cons (ps_fld (pvA 0 (defScope s_q4) N_q4 rfl rfl) pe_dnewK rfl)
      (pss_cons (ps_for PassesOwn.never rfl (pi_list (pvA 2 (defScope s_q4) N_q4 rfl rfl)) (pgN (i := 3) (sc := defScope s_q4) (M := N_q4) rfl rfl (by decide +kernel)) (pss_one (ps_dput (hu_of hr) (pe_fld (pvA 0 (defScope s_q4) N_q4 rfl rfl) rfl) (pvA 3 (defScope s_q4) N_q4 rfl rfl) pe_non rfl)))
      (pss_cons (psN (i := 4) (sc := defScope s_q4) (M := N_q4) rfl rfl (by decide +kernel) pe_int)
      (pss_cons (ps_while PassesOwn.never (pt_cmpR op_lt (pvA 4 (defScope s_q4) N_q4 rfl rfl) (pe_callBN (sc := defScope s_q4) call_len rfl (by decide +kernel) T.z_len bt_len (pa_cons (pvA 2 (defScope s_q4) N_q4 rfl rfl) pa_nil)) (nomark _)) (pss_cons (psN (i := 3) (sc := defScope s_q4) (M := N_q4) rfl rfl (by decide +kernel) (pe_ix ix_list (pvA 2 (defScope s_q4) N_q4 rfl rfl) (pvA 4 (defScope s_q4) N_q4 rfl rfl) (fun _ _ => rfl)))
      (pss_cons (psN (i := 5) (sc := defScope s_q4) (M := N_q4) rfl rfl (by decide +kernel) (pe_callN (sc := defScope s_q4) G_q19 (hr.mono (by decide)) rfl (by decide +kernel) T.m_q19 F_q19.kp b_q19 .nil pass0 (pa_cons (pe_ix ix_list (pe_fld (pvA 0 (defScope s_q4) N_q4 rfl rfl) rfl) (pvA 3 (defScope s_q4) N_q4 rfl rfl) (fun _ _ => rfl)) (pa_cons (pe_ix ix_list (pe_fld (pvA 0 (defScope s_q4) N_q4 rfl rfl) rfl) (pvA 3 (defScope s_q4) N_q4 rfl rfl) (fun _ _ => rfl)) pa_nil))))
      (pss_cons (psN (i := 6) (sc := defScope s_q4) (M := N_q4) rfl rfl (by decide +kernel) (pe_callN (sc := defScope s_q4) G_q8 (hr.mono (by decide)) rfl (by decide +kernel) T.m_q8 F_q8.kp b_q8 .nil pass0 (pa_cons (pe_callN (sc := defScope s_q4) G_q25 (hr.mono (by decide)) rfl (by decide +kernel) T.m_q25 F_q25.kp b_q25 .nil pass0 (pa_cons (pvA 5 (defScope s_q4) N_q4 rfl rfl) (pa_cons (pvA 1 (defScope s_q4) N_q4 rfl rfl) pa_nil))) pa_nil)))
      (pss_cons (ps_if (pt_cmpR op_notN (pvA 6 (defScope s_q4) N_q4 rfl rfl) pe_non (nomark _)) (pss_one (ps_ret (pe_tup (pa_cons (pvA 6 (defScope s_q4) N_q4 rfl rfl) (pa_cons (pvA 3 (defScope s_q4) N_q4 rfl rfl) pa_nil))))) pss_nil)
      (pss_cons (ps_expr (pe_bm PySem.F.plainAttrs_list PySem.F.slot_list_extend PySem.F.type_list_extend mt_extend (pvA 2 (defScope s_q4) N_q4 rfl rfl) (pa_cons (pe_meth (pvA 0 (defScope s_q4) N_q4 rfl rfl) T.cls_Dealer T.meth_Dealer_go_on_from G_q2 (hr.mono (by decide)) b_q2 .nil pass0 (pa_cons (pvA 3 (defScope s_q4) N_q4 rfl rfl) (pa_cons (pvA 5 (defScope s_q4) N_q4 rfl rfl) pa_nil))) pa_nil)))
      (pss_one (psN (i := 4) (sc := defScope s_q4) (M := N_q4) rfl rfl (by decide +kernel) (pe_op op_add (pvA 4 (defScope s_q4) N_q4 rfl rfl) pe_int)))))))))
      (pss_one (ps_ret pe_non)))))))), ?_⟩
    have hs : sizeLine = 16777216 := sizeLine_eq
    refine ⟨_, rfl, x, _, dx, _, _, rfl, r.ins, T.cls_Dealer, T.no_Dealer_left, CO.f_left, pl, rfl, ⟨_, SqL.of r.l⟩, fun c1 hc1 => ?_⟩
    refine L5.comp_enum hc1 (fun H' s' => s'.seq (SqL.of r.l)) (fun σ => ∃ v1 v2, σ = [v1, v2]) CO.posF ⟨_, _, rfl⟩ (by rw [nV_len]; omega) ?_ ?_
    · rintro i y σ H1 Tt R1 R0 hy ⟨v1, v2, rfl⟩ s1 hTt k1 k0
      unfold nV at hy
      rw [List.getElem?_map] at hy
      obtain ⟨n, hn', rfl⟩ := Option.map_eq_some_iff.mp hy
      rw [show (0 : Int) + (i : Nat) = (i : Nat) by omega]
      refine ⟨Tt, _, rfl, SqT.of upd_same, rfl, _, _, rfl, _, _, rfl, rfl, ?_⟩
      refine ⟨_, rfl, _, _, rfl, rfl, _, rfl, ?_⟩
      have ex : CO.posF i (V.int (n : Nat)) = if (0 : Int) < (n : Nat) then some (V.int (i : Nat)) else none := rfl
      refine ite2 (fun h1 => ?_) (fun h1 => ?_)
      · exact ⟨_, rfl, k1 _ _ _ ⟨_, _, rfl⟩ (ex.trans (if_pos (of_decide_eq_true h1))) (Same.upd0 hTt)⟩
      · exact k0 _ _ ⟨_, _, rfl⟩ (ex.trans (if_neg fun z => h1 (decide_eq_true z))) (Same.upd0 hTt)
    intro H1 s1 e1
    rw [CO.enum_pos] at e1
    have r1 := r.gr (Gr.heap r.dh s1)
    refine ⟨c1, CO.posn left, rfl, SqL.of e1, fun n hn => by have := CO.posn_lt hn; omega, ?_⟩
    refine ⟨_, rfl, x, _, dx, _, _, rfl, r1.ins, T.cls_Dealer, T.no_Dealer_still, CO.f_still, ps, rfl, ⟨_, SqL.of r1.s⟩, fun pq hpq => ?_⟩
    refine L5.comp_enum hpq (fun H' s' => s'.seq (SqL.of r1.s)) (fun σ => ∃ v1 v2, σ = [v1, v2]) CO.posF ⟨_, _, rfl⟩ (by rw [nV_len]; omega) ?_ ?_
    · rintro i y σ H1 Tt R1 R0 hy ⟨v1, v2, rfl⟩ s1 hTt k1 k0
      unfold nV at hy
      rw [List.getElem?_map] at hy
      obtain ⟨n, hn', rfl⟩ := Option.map_eq_some_iff.mp hy
      rw [show (0 : Int) + (i : Nat) = (i : Nat) by omega]
      refine ⟨Tt, _, rfl, SqT.of upd_same, rfl, _, _, rfl, _, _, rfl, rfl, ?_⟩
      refine ⟨_, rfl, _, _, rfl, rfl, _, rfl, ?_⟩
      have ex : CO.posF i (V.int (n : Nat)) = if (0 : Int) < (n : Nat) then some (V.int (i : Nat)) else none := rfl
      refine ite2 (fun h1 => ?_) (fun h1 => ?_)
      · exact ⟨_, rfl, k1 _ _ _ ⟨_, _, rfl⟩ (ex.trans (if_pos (of_decide_eq_true h1))) (Same.upd0 hTt)⟩
      · exact k0 _ _ ⟨_, _, rfl⟩ (ex.trans (if_neg fun z => h1 (decide_eq_true z))) (Same.upd0 hTt)
    intro H2 s2 e2
    rw [CO.enum_pos] at e2
    have r2 := r1.gr (Gr.heap r1.dh s2)
    have nq1 := r1.fresh hpq
    simp only [List.mem_cons, List.not_mem_nil, or_false, not_or] at nq1
    refine fun pd hpd => ⟨_, rfl, x, _, dx, _, rfl, (Same.upd0 hpd) _ _ r2.ins, T.cls_Dealer, T.no_Dealer_came, by show 5 < 1000; decide, ?_⟩
    rw [CO.p_cameR]
    have dpq : D pq = none := r1.dh.free hpq
    have npd : pq ≠ pd := ne_of_none e2 hpd
    have hpd0 : H pd = none := (s1.trans s2).free hpd
    have hpq0 : H pq = none := s1.free hpq
    have r3 := (r2.gr (Gr.layH (o := .dK []) r2.dh hpd)).setX (pc' := pd) (kvs' := []) upd_same (r2.dh.free hpd)
    have e3 : upd (upd H2 pd (.dK [])) x (.ins a.C_Dealer dx (CO.fs pm ph ps pl pd)) pq = some (.lst (nV (CO.posn still))) := by
      rw [upd_ne nq1.1, upd_ne npd]
      exact e2
    have k3 : ∀ b u, b ≠ x → H b = some u → upd (upd H2 pd (.dK [])) x (.ins a.C_Dealer dx (CO.fs pm ph ps pl pd)) b = some u := fun b u hb e => by
      rw [upd_ne hb]
      exact (Same.upd0 hpd) _ _ (s2 _ _ (s1 _ _ e))
    have nq : pq ∉ [x, pm, ph, ps, pl, pd] := by
      simp only [List.mem_cons, List.not_mem_nil, or_false, not_or]
      exact ⟨nq1.1, nq1.2.1, nq1.2.2.1, nq1.2.2.2.1, nq1.2.2.2.2.1, npd⟩
    clear nq1 r1 r2 s1 s2 e1 e2 hpq hc1
    generalize upd (upd H2 pd (.dK [])) x _ = H3 at r3 e3 k3 ⊢
    have lp : (CO.posn still).length ≤ 1000 := by have := CO.posn_len still; omega
    refine ⟨_, rfl, pq, rfl, ⟨_, SqL.of e3⟩, for_list (xs := nV (CO.posn still)) (fun i σ H' => ∃ kvs' v3, σ = [some (.ref x), some (.int (CB.maskOf (CO.posn left) : Nat)), some (.ref pq), v3, none, none, none] ∧ CO.Dlr a.C_Dealer D H' x dx pm ph ps pl pd ms held still left kvs' ∧ CO.CameAt D kvs' (CO.roots ((CO.posn still).take i)) ∧ H' pq = some (.lst (nV (CO.posn still))) ∧ (∀ b u, b ≠ x → H b = some u → H' b = some u)) ⟨[], _, rfl, r3, CO.CameAt.nil, e3, k3⟩ ?_ ?_ ?_⟩
    · rintro i σ H' _ ⟨kvs', v3, _, _, _, e', _⟩
      exact SqL.of e'
    · rintro i y σ H4 hy ⟨kvs4, v3, rfl, r4, ca4, e4, k4⟩
      unfold nV at hy
      rw [List.getElem?_map] at hy
      obtain ⟨p, hp, rfl⟩ := Option.map_eq_some_iff.mp hy
      have l4 := ca4.len
      have np : p ∉ (CO.roots ((CO.posn still).take i)).map Prod.fst := by
        rw [CO.roots_fst]
        have h1 := CO.posn_nd still
        have h2 : ((CO.posn still).take (i + 1)).Nodup := h1.sublist (List.take_sublist _ _)
        rw [take_snoc hp] at h2
        exact fun z => (List.nodup_append.mp h2).2.2 p z p (List.mem_singleton.mpr rfl) rfl
      obtain ⟨ep, ca5⟩ := ca4.snoc (p := p) (v := .non) (o := none) np rfl
      refine ⟨_, rfl, x, _, dx, _, _, rfl, r4.ins, T.cls_Dealer, T.no_Dealer_came, CO.f_came, _, rfl, pd, _, rfl, .inl ⟨kvs4, CO.pk p, r4.c, rfl, ?_, rfl⟩, ?_⟩
      · rw [l4]
        unfold CO.roots
        rw [List.length_map, List.length_take]
        omega
      rw [ep]
      refine ⟨_, _, rfl, r4.setC _, ?_, ?_, ?_⟩
      · rw [take_snoc hp]
        unfold CO.roots at ca5 ⊢
        rw [List.map_append]
        exact ca5
      · rw [upd_ne npd]
        exact e4
      · intro b u hb e
        rw [upd_ne (ne_of_none e hpd0)]
        exact k4 b u hb e
    · rintro σ H4 ⟨kvs4, v3, rfl, r4, ca4, e4, k4⟩
      rw [nV_len, List.take_length] at ca4
      refine ⟨fun m σ H' => ∃ D' kvs' c k v3 v5 v6, m = ms.length - k ∧ k ≤ c.length ∧ σ = [some (.ref x), some (.int (CB.maskOf (CO.posn left) : Nat)), some (.ref pq), v3, some (.int (k : Nat)), v5, v6] ∧ CO.Dlr a.C_Dealer D' H' x dx pm ph ps pl pd ms held still left kvs' ∧ CO.CameAt D' kvs' c ∧ CD.Tree ms held still ms.length c ∧ CD.Done ms held left ms.length c k ∧ (∀ p, p < ms.length → 0 < still.getD p 0 → p ∈ c.map Prod.fst) ∧ H' pq = some (.lst (nV (c.map Prod.fst))) ∧ D' pq = none ∧ Same D D' ∧ (∀ b u, b ≠ x → H b = some u → H' b = some u), ⟨_, D, kvs4, _, 0, _, _, _, rfl, Nat.zero_le _, rfl, r4, ca4, CO.tree_roots ls, CO.Done.nil, fun p _ h0 => by rw [CO.roots_fst]; exact CO.mem_posn.mpr h0, by rw [CO.roots_fst]; exact e4, dpq, Same.refl _, k4⟩, ?_⟩
      clear ca4 e4 k4 r4 r3 e3 k3
      rintro m σ H5 ⟨D5, kvs5, c, k, v3, v5, v6, rfl, hk, rfl, r5, ca5, tr5, dn5, rt5, e5, n5, s5, k5⟩
      have lc := CO.tree_len tr5
      refine ⟨_, rfl, _, rfl, .ref pq, c.length, rfl, .inl ⟨_, SqL.of e5, by rw [nV_len, List.length_map]⟩, _, _, rfl, rfl, _, rfl, ite2 (fun h1 => ?_) (fun h1 => ?_)⟩
      · have hkl : k < c.length := by have := of_decide_eq_true h1; omega
        obtain ⟨p, o, ek⟩ : ∃ p o, c[k]? = some (p, o) := ⟨c[k].1, c[k].2, List.getElem?_eq_getElem hkl⟩
        have hp : p < ms.length := tr5.lt _ (List.mem_of_getElem? ek)
        refine ⟨_, fun σ' H' h => h, ?_⟩
        refine ⟨_, rfl, _, rfl, pq, _, _, _, rfl, rfl, SqL.of e5, atI_nat (v := .int (p : Nat)) (by unfold nV; rw [List.getElem?_map, List.getElem?_map, ek]; rfl), ?_⟩
        refine ⟨_, rfl, x, _, dx, _, _, rfl, r5.ins, T.cls_Dealer, T.no_Dealer_masks, CO.f_masks, _, rfl, pm, _, _, _, rfl, rfl, SqL.of r5.m, nV_at hp, _, rfl, x, _, dx, _, _, rfl, r5.ins, T.cls_Dealer, T.no_Dealer_held, CO.f_held, _, rfl, ph, _, _, _, rfl, rfl, SqL.of r5.h, nV_at (by rw [lh]; exact hp), _, _, rfl, ?_⟩
        refine ⟨_, rfl, _, rfl, _, _, rfl, _, rfl, fun rv hrv => ?_⟩
        have bit : ∀ w, (open_ ms held p &&& CB.maskOf (CO.posn left)).testBit w = (CD.hb ms p w && !CD.hb held p w && decide (0 < left.getD w 0)) := fun w => by
          rw [Nat.testBit_and]
          unfold open_
          rw [CB.less_bit, CB.mask_bit, CO.contains_posn]
          rfl
        replace hrv : (open_ ms held p &&& CB.maskOf (CO.posn left) = 0 ∧ rv = V.non) ∨ ∃ k : Nat, (CB.memb (open_ ms held p &&& CB.maskOf (CO.posn left)))[0]? = some k ∧ rv = V.int (k : Nat) := hrv
        refine ⟨_, rfl, rfl, _, rfl, ?_⟩
        rcases hrv with ⟨h0, rfl⟩ | ⟨w, hw, rfl⟩
        · have nm4 : ("go_on_from" : Str) ≠ "masks" ∧ ("go_on_from" : Str) ≠ "held" ∧ ("go_on_from" : Str) ≠ "still" ∧ ("go_on_from" : Str) ≠ "left" ∧ ("go_on_from" : Str) ≠ "came" := by decide +kernel
          refine iteF ?_
          refine ⟨_, rfl, .inl ⟨rfl, _, SqL.of e5⟩, _, rfl, x, dx, _, rfl, r5.ins, CO.f_none nm4, _, rfl, _, rfl, x, dx, pm, ph, ps, pl, pd, ms, held, still, left, kvs5, c, D5, p, k, o, rfl, r5, ca5, tr5, ek, lh, hn, fun D6 H6 kvs6 new pf r6 ca6 tr6 cov hpf nf6 ef6 sd6 k6 nw6 => ?_⟩
          have e6 := k6 pq _ npd e5
          have l6 := CO.tree_len tr6
          rw [List.length_append] at l6
          refine ⟨pq, pf, _, _, rfl, rfl, e6, ef6, by rw [nV_len, nV_len, List.length_map, List.length_map]; omega, ?_⟩
          have n6 : D6 pq = none := nw6 pq _ e5 n5
          have eq6 : nV (c.map Prod.fst) ++ nV (new.map Prod.fst) = nV ((c ++ new).map Prod.fst) := by unfold nV; rw [List.map_append, List.map_append]
          rw [eq6]
          have r7 := r6.other (o := .lst (nV ((c ++ new).map Prod.fst))) nq n6
          refine ⟨_, rfl, _, _, rfl, rfl, ms.length - (k + 1), by omega, D6, kvs6, c ++ new, k + 1, _, _, _, rfl, by rw [List.length_append]; omega, rfl, r7, ca6, tr6, CO.Done.step dn5 ek (fun w h1 h2 => ?_) cov, fun p' hp' h0' => ?_, upd_same, n6, s5.trans sd6, fun b u hb e => ?_⟩
          · have := bit w
            rw [h0, Nat.zero_testBit, h1, h2] at this
            have h3 : ¬ 0 < left.getD w 0 := fun z => by
              rw [decide_eq_true z] at this
              cases this
            omega
          · rw [List.map_append]
            exact List.mem_append_left _ (rt5 p' hp' h0')
          · rw [upd_ne (ne_of_none e hpq0)]
            exact k6 b u (ne_of_none e hpd0) (k5 b u hb e)
        · have hwb := CB.mem_memb.mp (List.mem_of_getElem? hw)
          rw [bit w, Bool.and_eq_true, Bool.and_eq_true, Bool.not_eq_true', decide_eq_true_eq] at hwb
          obtain ⟨⟨b1, b2⟩, b3⟩ := hwb
          refine iteT ⟨_, rfl, _, rfl, by first | decide | (simp only [List.length_cons, List.length_nil, List.length_append, List.length_map]; decide), fun t ht => ?_⟩
          have g6 := Gr.lay (o := .tup [.int (w : Nat), .int (p : Nat)]) r5.dh ht
          exact q _ _ pd kvs5 c (.ref t) (r5.gr g6) (ca5.up g6.dd) tr5 (.inr ⟨t, w, p, k, o, rfl, upd_same, ek, b1, b2, b3⟩) (s5.trans g6.dd) fun b u hb e => g6.hh _ _ (k5 b u hb e)
      · have hk2 : k = c.length := by
          have : ¬ ((k : Nat) : Int) < (c.length : Nat) := fun z => h1 (decide_eq_true z)
          omega
        subst hk2
        exact q D5 H5 pd kvs5 c .non r5 ca5 tr5 (.inl ⟨rfl, tr5.stuck dn5 rt5⟩) s5 k5
def sp_q1 (K : PySem.W.Frag) (C : Addr) : Sp := fun vs H Q _ => ∃ (x dx pm ph ps pl pc t : Addr) (ws os ms held still left : List Nat) (kvs : List (Key × V)) (c : CD.Came) (D : Hp) (k p j : Nat) (o : Option (Nat × Nat)), vs = [.ref x, .ref t] ∧ CO.Dlr C D H x dx pm ph ps pl pc ms held still left kvs ∧ CO.CameAt D kvs c ∧ CD.Tree ms held still ms.length c ∧ CD.Deal ws os ms held still left ∧ D t = some (.tup [.int (k : Nat), .int (p : Nat)]) ∧ c[j]? = some (p, o) ∧ CD.hb ms p k = true ∧ CD.hb held p k = false ∧ 0 < left.getD k 0 ∧ ms.length ≤ 1000 ∧ os.length ≤ 1000 ∧
  ∀ H' held' still' left', CO.Dlr C D H' x dx pm ph ps pl pc ms held' still' left' kvs → CD.Deal ws os ms held' still' left' → CD.sumN still' < CD.sumN still → (∀ b u, b ∉ [ph, ps, pl] → H b = some u → H' b = some u) → Q .non H'
theorem ok_q1 {f : Addr} {fd fd_q7 fd_q19 fd_q20 : FuncData} (F : Fun K "change" "Dealer.change" s_q1 f fd) (T : Txt K mg a)
    (G_q7 : FnOk P w K mg base CX0 1 a.either fd_q7 ["one", "other"] (sp_q7 K)) (F_q7 : Fun K "either" "either" s_q7 a.either fd_q7) (b_q7 : Binds K fd_q7 ["one", "other"] [])
    (G_q19 : FnOk P w K mg base CX0 1 a.less fd_q19 ["one", "other"] (sp_q19 K)) (F_q19 : Fun K "less" "less" s_q19 a.less fd_q19) (b_q19 : Binds K fd_q19 ["one", "other"] [])
    (G_q20 : FnOk P w K mg base CX0 1 a.mask_of fd_q20 ["numbers"] (sp_q20 K)) (F_q20 : Fun K "mask_of" "mask_of" s_q20 a.mask_of fd_q20) (b_q20 : Binds K fd_q20 ["numbers"] []) : FnOk P w K mg base CX0 2 f fd ["self", "pair"] (sp_q1 K a.C_Dealer) := by
  refine F.ok sc_q1 (fun vs H Q E h => ?_) (fun cdv A outer s H vs Q E hr h => ?_)
  · obtain ⟨x, dx, pm, ph, ps, pl, pc, t, ws, os, ms, held, still, left, kvs, c, D, k, p, j, o, rfl, _⟩ := h
    rfl
  · obtain ⟨x, dx, pm, ph, ps, pl, pc, t, ws, os, ms, held, still, left, kvs, c, D, k, p, j, o, rfl, r, ca, tr, dl, et, ej, hf, hw, h0, hn, ho, q⟩ := h
    refine ⟨_, (pss_cons (ps_asg (pe_op op_sub (pe_ix ix_list (pe_fld (pvA 0 (defScope s_q1) N_q1 rfl rfl) rfl) (pe_ix ix_tup (pvA 1 (defScope s_q1) N_q1 rfl rfl) pe_int (fun _ _ => rfl)) (fun _ _ => rfl)) pe_int) (pg_sub (pe_fld (pvA 0 (defScope s_q1) N_q1 rfl rfl) rfl) (pe_ix ix_tup (pvA 1 (defScope s_q1) N_q1 rfl rfl) pe_int (fun _ _ => rfl)) set_list))
      (pss_cons (ps_while PassesOwn.never (pt_cmpR op_notN (pvA 1 (defScope s_q1) N_q1 rfl rfl) pe_non (nomark _)) (pss_cons (psN (i := 2) (sc := defScope s_q1) (M := N_q1) rfl rfl (by decide +kernel) (pe_ix ix_tup (pvA 1 (defScope s_q1) N_q1 rfl rfl) pe_int (fun _ _ => rfl)))
      (pss_cons (ps_asg (pe_callN (sc := defScope s_q1) G_q7 (hr.mono (by decide)) rfl (by decide +kernel) T.m_q7 F_q7.kp b_q7 .nil pass0 (pa_cons (pe_ix ix_list (pe_fld (pvA 0 (defScope s_q1) N_q1 rfl rfl) rfl) (pvA 2 (defScope s_q1) N_q1 rfl rfl) (fun _ _ => rfl)) (pa_cons (pe_callN (sc := defScope s_q1) G_q20 (hr.mono (by decide)) rfl (by decide +kernel) T.m_q20 F_q20.kp b_q20 .nil pass0 (pa_cons (pe_lst (pa_cons (pe_ix ix_tup (pvA 1 (defScope s_q1) N_q1 rfl rfl) pe_int (fun _ _ => rfl)) pa_nil)) pa_nil)) pa_nil))) (pg_sub (pe_fld (pvA 0 (defScope s_q1) N_q1 rfl rfl) rfl) (pvA 2 (defScope s_q1) N_q1 rfl rfl) set_list))
      (pss_cons (psN (i := 1) (sc := defScope s_q1) (M := N_q1) rfl rfl (by decide +kernel) (pe_dget (hu_of hr) (pe_fld (pvA 0 (defScope s_q1) N_q1 rfl rfl) rfl) (pvA 2 (defScope s_q1) N_q1 rfl rfl) (fun _ _ => rfl)))
      (pss_one (ps_if (pt_cmpR op_notN (pvA 1 (defScope s_q1) N_q1 rfl rfl) pe_non (nomark _)) (pss_one (ps_asg (pe_callN (sc := defScope s_q1) G_q19 (hr.mono (by decide)) rfl (by decide +kernel) T.m_q19 F_q19.kp b_q19 .nil pass0 (pa_cons (pe_ix ix_list (pe_fld (pvA 0 (defScope s_q1) N_q1 rfl rfl) rfl) (pvA 2 (defScope s_q1) N_q1 rfl rfl) (fun _ _ => rfl)) (pa_cons (pe_callN (sc := defScope s_q1) G_q20 (hr.mono (by decide)) rfl (by decide +kernel) T.m_q20 F_q20.kp b_q20 .nil pass0 (pa_cons (pe_lst (pa_cons (pe_ix ix_tup (pvA 1 (defScope s_q1) N_q1 rfl rfl) pe_int (fun _ _ => rfl)) pa_nil)) pa_nil)) pa_nil))) (pg_sub (pe_fld (pvA 0 (defScope s_q1) N_q1 rfl rfl) rfl) (pvA 2 (defScope s_q1) N_q1 rfl rfl) set_list))) pss_nil))))))
      (pss_one (ps_asg (pe_op op_sub (pe_ix ix_list (pe_fld (pvA 0 (defScope s_q1) N_q1 rfl rfl) rfl) (pvA 2 (defScope s_q1) N_q1 rfl rfl) (fun _ _ => rfl)) pe_int) (pg_sub (pe_fld (pvA 0 (defScope s_q1) N_q1 rfl rfl) rfl) (pvA 2 (defScope s_q1) N_q1 rfl rfl) set_list))))), ?_⟩
    have hs : sizeLine = 16777216 := sizeLine_eq
    have hk : k < os.length := dl.lt p k hf
    have hkl : k < left.length := by rw [dl.ll]; exact hk
    have etH : H t = some (.tup [.int (k : Nat), .int (p : Nat)]) := r.dh _ _ et
    refine ⟨_, rfl, x, _, dx, _, _, rfl, r.ins, T.cls_Dealer, T.no_Dealer_left, CO.f_left, _, rfl, t, _, _, _, rfl, rfl, SqT.of etH, rfl, pl, _, _, _, rfl, rfl, SqL.of r.l, nV_at hkl, _, _, rfl, rfl, _, rfl, x, _, dx, _, _, rfl, r.ins, T.cls_Dealer, T.no_Dealer_left, CO.f_left, _, rfl, t, _, _, _, rfl, rfl, SqT.of etH, rfl, pl, _, _, k, rfl, rfl, r.l, by rw [nV_len]; exact ixN_nat hkl, ?_⟩
    rw [show (fun i j : Int => V.int (i - j)) ((left.getD k 0 : Nat) : Int) 1 = V.int ((left.getD k 0 - 1 : Nat) : Int) from congrArg V.int (by omega), nV_set]
    have r1 := r.setL (left.set k (left.getD k 0 - 1))
    have k1 : ∀ b u, b ∉ [ph, ps, pl] → H b = some u → upd H pl (.lst (nV (left.set k (left.getD k 0 - 1)))) b = some u := fun b u hb e => by
      rw [upd_ne (fun z => hb (by rw [z]; simp))]
      exact e
    have hd := dl.hand (tr.lt _ (List.mem_of_getElem? ej)) hf hw h0
    generalize upd H pl _ = H1 at r1 k1 ⊢
    generalize left.set k _ = left1 at r1 hd ⊢
    refine ⟨fun m σ H' => (∃ hk k p j o t v2, m = j + 1 ∧ σ = [some (.ref x), some (.ref t), v2] ∧ D t = some (.tup [.int (k : Nat), .int (p : Nat)]) ∧ c[j]? = some (p, o) ∧ CO.Dlr a.C_Dealer D H' x dx pm ph ps pl pc ms hk still left1 kvs ∧ CD.Hand ws os ms hk still left1 k p ∧ CO.Agree held hk c j ∧ (∀ b u, b ∉ [ph, ps, pl] → H b = some u → H' b = some u)) ∨ (∃ hk p, m = 0 ∧ σ = [some (.ref x), some .non, some (.int (p : Nat))] ∧ CO.Dlr a.C_Dealer D H' x dx pm ph ps pl pc ms hk still left1 kvs ∧ 0 < still.getD p 0 ∧ p < ms.length ∧ CD.Deal ws os ms hk (still.set p (still.getD p 0 - 1)) left1 ∧ (∀ b u, b ∉ [ph, ps, pl] → H b = some u → H' b = some u)), ⟨j + 1, .inl ⟨held, k, p, j, o, t, _, rfl, rfl, et, ej, r1, hd, fun _ _ _ _ _ => rfl, k1⟩⟩, ?_⟩
    have lst : still.length = ms.length := dl.ls
    have olt : ∀ {p w : Nat}, CD.hb ms p w = true → w ≤ 1000 := fun e => by have := dl.lt _ _ e; omega
    clear r1 k1 hd etH hkl hk et ej hf hw h0 r
    rintro m σ H2 (⟨hk, k, p, j, o, t, v2, rfl, rfl, et, ej, r2, hd, ag, k2⟩ | ⟨hk, p, rfl, rfl, r2, h0, hp, dl2, k2⟩)
    · have hpl : p < hk.length := by rw [hd.lh]; exact hd.pl
      have etH : H2 t = some (.tup [.int (k : Nat), .int (p : Nat)]) := r2.dh _ _ et
      refine ⟨_, rfl, rfl, _, rfl, iteT ⟨_, fun σ' H' h => h, ?_⟩⟩
      refine ⟨_, rfl, t, _, _, _, rfl, rfl, SqT.of etH, rfl, ?_⟩
      refine ⟨_, rfl, x, _, dx, _, _, rfl, r2.ins, T.cls_Dealer, T.no_Dealer_held, CO.f_held, _, rfl, ph, _, _, _, rfl, rfl, SqL.of r2.h, nV_at hpl, _, rfl, t, _, _, _, rfl, rfl, SqT.of etH, rfl, by first | decide | (simp only [List.length_cons, List.length_nil, List.length_append, List.length_map]; decide), fun q1 hq1 => ?_⟩
      have g3 := Gr.layH (o := .lst [V.int (k : Nat)]) r2.dh hq1
      have r3 := r2.gr g3
      have e3 : upd H2 q1 (.lst [V.int (k : Nat)]) q1 = some (.lst ([k].map fun n : Nat => V.int n)) := upd_same
      have k3 : ∀ b u, b ∉ [ph, ps, pl] → H b = some u → upd H2 q1 (.lst [V.int (k : Nat)]) b = some u := fun b u hb e => g3.hh _ _ (k2 b u hb e)
      generalize upd H2 q1 (.lst [V.int (k : Nat)]) = H3 at r3 e3 k3 ⊢
      refine ⟨q1, [k], rfl, SqL.of e3, (fun n hn => by rw [List.mem_singleton.mp hn]; exact olt hd.fit), hk.getD p 0, CB.maskOf [k], rfl, _, rfl, x, _, dx, _, _, rfl, r3.ins, T.cls_Dealer, T.no_Dealer_held, CO.f_held, _, rfl, ph, _, _, p, rfl, rfl, r3.h, by rw [nV_len]; exact ixN_nat hpl, ?_⟩
      rw [nV_set]
      have hx : ∀ w, (hk.getD p 0 ||| CB.maskOf [k]).testBit w = (CD.hb hk p w || decide (w = k)) := fun w => by
        rw [Nat.testBit_or, CO.mask1]
        rfl
      generalize hk.getD p 0 ||| CB.maskOf [k] = xm at hx ⊢
      have r4 := r3.setH (hk.set p xm)
      have k4 : ∀ b u, b ∉ [ph, ps, pl] → H b = some u → upd H3 ph (.lst (nV (hk.set p xm))) b = some u := fun b u hb e => by
        rw [upd_ne (fun z => hb (by rw [z]; simp))]
        exact k3 b u hb e
      generalize upd H3 ph (.lst (nV (hk.set p xm))) = H4 at r4 k4 ⊢
      obtain ⟨v, ev, pv⟩ := ca.get tr.nd ej
      refine ⟨_, rfl, x, _, dx, _, _, rfl, r4.ins, T.cls_Dealer, T.no_Dealer_came, CO.f_came, _, rfl, pc, v, rfl, (ev ▸ DGet.k (k := CO.pk p) r4.c), ?_⟩
      have edge := tr.edge j p o ej
      cases o with
      | none =>
        obtain rfl : v = .non := pv
        refine ⟨_, rfl, rfl, _, rfl, iteF ?_⟩
        exact ⟨0, by omega, .inr ⟨_, p, rfl, rfl, r4, edge, hd.pl, hd.root hx edge, k4⟩⟩
      | some bq =>
        obtain ⟨b, q'⟩ := bq
        obtain ⟨t2, rfl, et2⟩ := pv
        have et2H : H4 t2 = some (.tup [.int (b : Nat), .int (q' : Nat)]) := r4.dh _ _ et2
        have hpl4 : p < (hk.set p xm).length := by rw [List.length_set]; exact hpl
        refine ⟨_, rfl, rfl, _, rfl, iteT ?_⟩
        refine ⟨_, rfl, x, _, dx, _, _, rfl, r4.ins, T.cls_Dealer, T.no_Dealer_held, CO.f_held, _, rfl, ph, _, _, _, rfl, rfl, SqL.of r4.h, nV_at hpl4, _, rfl, t2, _, _, _, rfl, rfl, SqT.of et2H, rfl, by first | decide | (simp only [List.length_cons, List.length_nil, List.length_append, List.length_map]; decide), fun q2 hq2 => ?_⟩
        have g5 := Gr.layH (o := .lst [V.int (b : Nat)]) r4.dh hq2
        have r5 := r4.gr g5
        have e5 : upd H4 q2 (.lst [V.int (b : Nat)]) q2 = some (.lst ([b].map fun n : Nat => V.int n)) := upd_same
        have k5 : ∀ b_ u, b_ ∉ [ph, ps, pl] → H b_ = some u → upd H4 q2 (.lst [V.int (b : Nat)]) b_ = some u := fun b_ u hb e => g5.hh _ _ (k4 b_ u hb e)
        generalize upd H4 q2 (.lst [V.int (b : Nat)]) = H5 at r5 e5 k5 ⊢
        refine ⟨q2, [b], rfl, SqL.of e5, (fun n hn => by rw [List.mem_singleton.mp hn]; exact olt edge.2.1), (hk.set p xm).getD p 0, CB.maskOf [b], rfl, _, rfl, x, _, dx, _, _, rfl, r5.ins, T.cls_Dealer, T.no_Dealer_held, CO.f_held, _, rfl, ph, _, _, p, rfl, rfl, r5.h, by rw [nV_len]; exact ixN_nat hpl4, ?_⟩
        rw [nV_set]
        have hy : ∀ w, (CB.less ((hk.set p xm).getD p 0) (CB.maskOf [b])).testBit w = (xm.testBit w && !decide (w = b)) := fun w => by
          rw [CB.less_bit, CO.mask1, CP.getD_set _ _ _ _ hpl, if_pos rfl]
        generalize CB.less ((hk.set p xm).getD p 0) (CB.maskOf [b]) = ym at hy ⊢
        obtain ⟨i', o', hi', ei, hd', ag'⟩ := CO.hand_go tr hd ej ag hx hy
        refine ⟨i' + 1, by omega, .inl ⟨_, b, q', i', o', t2, _, rfl, rfl, et2, ei, r5.setH _, hd', ag', fun b_ u hb e => ?_⟩⟩
        rw [upd_ne (fun z => hb (by rw [z]; simp))]
        exact k5 b_ u hb e
    · refine ⟨_, rfl, rfl, _, rfl, iteF ?_⟩
      have hps : p < still.length := by rw [lst]; exact hp
      refine ⟨_, rfl, x, _, dx, _, _, rfl, r2.ins, T.cls_Dealer, T.no_Dealer_still, CO.f_still, _, rfl, ps, _, _, _, rfl, rfl, SqL.of r2.s, nV_at hps, _, _, rfl, rfl, _, rfl, x, _, dx, _, _, rfl, r2.ins, T.cls_Dealer, T.no_Dealer_still, CO.f_still, _, rfl, ps, _, _, p, rfl, rfl, r2.s, by rw [nV_len]; exact ixN_nat hps, ?_⟩
      rw [show (fun i j : Int => V.int (i - j)) ((still.getD p 0 : Nat) : Int) 1 = V.int ((still.getD p 0 - 1 : Nat) : Int) from congrArg V.int (by omega), nV_set]
      refine q _ _ _ _ (r2.setS _) dl2 (by have := CO.sumN_set h0; omega) fun b u hb e => ?_
      rw [upd_ne (fun z => hb (by rw [z]; simp))]
      exact k2 b u hb e
def sp_q3 (K : PySem.W.Frag) (C : Addr) : Sp := fun vs H Q _ => ∃ (x dx pm ph ps pl pc : Addr) (ws os ms held still left : List Nat) (kvs : List (Key × V)) (D : Hp), vs = [.ref x] ∧ CO.Dlr C D H x dx pm ph ps pl pc ms held still left kvs ∧ CD.Deal ws os ms held still left ∧ ms.length ≤ 1000 ∧ os.length ≤ 1000 ∧
  ∀ D' H' pc' kvs' c held' still' left', CO.Dlr C D' H' x dx pm ph ps pl pc' ms held' still' left' kvs' → CO.CameAt D' kvs' c → CD.Deal ws os ms held' still' left' → CD.Stuck ms held' still' left' (c.map Prod.fst) ms.length → Same D D' → (∀ b u, b ∉ [x, ph, ps, pl] → H b = some u → H' b = some u) → Q .non H'
theorem ok_q3 {f : Addr} {fd fd_q1 fd_q4 : FuncData} (F : Fun K "grow" "Dealer.grow" s_q3 f fd) (T : Txt K mg a)
    (G_q1 : FnOk P w K mg base CX0 2 a.Dealer_change fd_q1 ["self", "pair"] (sp_q1 K a.C_Dealer)) (F_q1 : Fun K "change" "Dealer.change" s_q1 a.Dealer_change fd_q1) (b_q1 : Binds K fd_q1 ["self", "pair"] [])
    (G_q4 : FnOk P w K mg base CX0 4 a.Dealer_search fd_q4 ["self"] (sp_q4 K a.C_Dealer)) (F_q4 : Fun K "search" "Dealer.search" s_q4 a.Dealer_search fd_q4) (b_q4 : Binds K fd_q4 ["self"] []) : FnOk P w K mg base CX0 6 f fd ["self"] (sp_q3 K a.C_Dealer) := by
  refine F.ok sc_q3 (fun vs H Q E h => ?_) (fun cdv A outer s H vs Q E hr h => ?_)
  · obtain ⟨x, dx, pm, ph, ps, pl, pc, ws, os, ms, held, still, left, kvs, D, rfl, _⟩ := h
    rfl
  · obtain ⟨x, dx, pm, ph, ps, pl, pc, ws, os, ms, held, still, left, kvs, D, rfl, r, dl, hn, ho, q⟩ := h
    refine ⟨_, (pss_cons (psN (i := 1) (sc := defScope s_q3) (M := N_q3) rfl rfl (by decide +kernel) (pe_meth0 (pvA 0 (defScope s_q3) N_q3 rfl rfl) T.cls_Dealer T.meth_Dealer_search G_q4 (hr.mono (by decide)) b_q4 .nil pass0))
      (pss_one (ps_while PassesOwn.never (pt_cmpR op_notN (pvA 1 (defScope s_q3) N_q3 rfl rfl) pe_non (nomark _)) (pss_cons (ps_expr (pe_meth (pvA 0 (defScope s_q3) N_q3 rfl rfl) T.cls_Dealer T.meth_Dealer_change G_q1 (hr.mono (by decide)) b_q1 .nil pass0 (pa_cons (pvA 1 (defScope s_q3) N_q3 rfl rfl) pa_nil)))
      (pss_one (psN (i := 1) (sc := defScope s_q3) (M := N_q3) rfl rfl (by decide +kernel) (pe_meth0 (pvA 0 (defScope s_q3) N_q3 rfl rfl) T.cls_Dealer T.meth_Dealer_search G_q4 (hr.mono (by decide)) b_q4 .nil pass0))))))), ?_⟩
    have hs : sizeLine = 16777216 := sizeLine_eq
    have nm1 : ("search" : Str) ≠ "masks" ∧ ("search" : Str) ≠ "held" ∧ ("search" : Str) ≠ "still" ∧ ("search" : Str) ≠ "left" ∧ ("search" : Str) ≠ "came" := by decide +kernel
    have nm2 : ("change" : Str) ≠ "masks" ∧ ("change" : Str) ≠ "held" ∧ ("change" : Str) ≠ "still" ∧ ("change" : Str) ≠ "left" ∧ ("change" : Str) ≠ "came" := by decide +kernel
    refine ⟨_, rfl, x, dx, _, rfl, r.ins, CO.f_none nm1, x, dx, pm, ph, ps, pl, pc, ms, held, still, left, kvs, D, rfl, r, dl.lh, dl.ls, hn, by rw [dl.ll]; exact ho, fun D1 H1 pc1 kvs1 c1 rv r1 ca1 tr1 fo1 s1 k1 => ?_⟩
    refine ⟨fun m σ H' => ∃ D' pc' kvs' c' held' still' left' rv, m = CD.sumN still' ∧ σ = [some (.ref x), some rv] ∧ CO.Dlr a.C_Dealer D' H' x dx pm ph ps pl pc' ms held' still' left' kvs' ∧ CO.CameAt D' kvs' c' ∧ CD.Tree ms held' still' ms.length c' ∧ CD.Deal ws os ms held' still' left' ∧ Found D' ms held' still' left' c' rv ∧ Same D D' ∧ (∀ b u, b ∉ [x, ph, ps, pl] → H b = some u → H' b = some u), ⟨_, D1, pc1, kvs1, c1, held, still, left, rv, rfl, rfl, r1, ca1, tr1, dl, fo1, s1, fun b u hb e => k1 b u (fun z => hb (z ▸ List.mem_cons_self ..)) e⟩, ?_⟩
    rintro m σ H2 ⟨D2, pc2, kvs2, c2, held2, still2, left2, rv2, rfl, rfl, r2, ca2, tr2, dl2, fo2, s2, k2⟩
    refine ⟨_, rfl, rfl, _, rfl, ?_⟩
    rcases fo2 with ⟨rfl, st⟩ | ⟨t, k, p, j, o, rfl, et, ej, hf, hw, h0⟩
    · exact iteF (q D2 H2 pc2 kvs2 c2 held2 still2 left2 r2 ca2 dl2 st s2 k2)
    · refine iteT ⟨_, fun σ' H' h => h, ?_⟩
      refine ⟨_, rfl, x, dx, _, rfl, r2.ins, CO.f_none nm2, _, rfl, x, dx, pm, ph, ps, pl, pc2, t, ws, os, ms, held2, still2, left2, kvs2, c2, D2, k, p, j, o, rfl, r2, ca2, tr2, dl2, et, ej, hf, hw, h0, hn, ho, fun H3 held3 still3 left3 r3 dl3 lt3 k3 => ?_⟩
      refine ⟨_, rfl, x, dx, _, rfl, r3.ins, CO.f_none nm1, x, dx, pm, ph, ps, pl, pc2, ms, held3, still3, left3, kvs2, D2, rfl, r3, dl3.lh, dl3.ls, hn, by rw [dl3.ll]; exact ho, fun D4 H4 pc4 kvs4 c4 rv4 r4 ca4 tr4 fo4 s4 k4 => ?_⟩
      refine ⟨_, lt3, D4, pc4, kvs4, c4, held3, still3, left3, rv4, rfl, rfl, r4, ca4, tr4, dl3, fo4, s2.trans s4, fun b u hb e => k4 b u (fun z => hb (z ▸ List.mem_cons_self ..)) (k3 b u (fun z => hb (List.mem_cons_of_mem _ z)) (k2 b u hb e))⟩
def sp_q0 (K : PySem.W.Frag) (C : Addr) : Sp := fun vs H Q _ => ∃ (x dx pw po pk : Addr) (ws os ms : List Nat) (D : Hp), vs = [.ref x, .ref pw, .ref po, .ref pk] ∧ Same D H ∧ H x = some (.ins C dx []) ∧ D x = none ∧ H pw = some (.lst (nV ws)) ∧ H po = some (.lst (nV os)) ∧ H pk = some (.lst (nV ms)) ∧ ms.length ≤ 1000 ∧
  ∀ H' pm ph ps pl pc, CO.Dlr C D H' x dx pm ph ps pl pc ms (List.replicate ms.length 0) ws os [] → (∀ b u, b ≠ x → H b = some u → H' b = some u) → Q .non H'
theorem ok_q0 {f : Addr} {fd : FuncData} (F : Fun K "__init__" "Dealer.__init__" s_q0 f fd) (T : Txt K mg a) : FnOk P w K mg base CX0 1 f fd ["self", "wants", "oftens", "masks"] (sp_q0 K a.C_Dealer) := by
  refine F.ok sc_q0 (fun vs H Q E h => ?_) (fun cdv A outer s H vs Q E hr h => ?_)
  · obtain ⟨x, dx, pw, po, pk, ws, os, ms, D, rfl, _⟩ := h
    rfl
  · obtain ⟨x, dx, pw, po, pk, ws, os, ms, D, rfl, sD, hx, nx, hw, ho, hm, lm, q⟩ := h
    refine ⟨_, (pss_cons (ps_fld (pvA 0 (defScope s_q0) N_q0 rfl rfl) (pe_callTyN (sc := defScope s_q0) call_list_of rfl (by decide +kernel) T.z_list bt_list (pa_cons (pvA 3 (defScope s_q0) N_q0 rfl rfl) pa_nil)) rfl)
      (pss_cons (ps_fld (pvA 0 (defScope s_q0) N_q0 rfl rfl) (pe_comp rfl (N := ["mask"]) (own := 1) (js := []) (X := (cxOf CX0 P w K mg base N_q0 "Dealer.__init__" (defScope s_q0) f cdv A outer s H E).nox) (compOk (defScope s_q0) N_q0 rfl rfl (by decide +kernel)) (pi_list (pvA 3 (defScope s_q0) N_q0 rfl rfl)) (fun fp0 sx0 Hx0 => (pgN (i := 0) (sc := relabelS _ (defScope s_q0)) (M := ["mask"]) rfl rfl (by decide +kernel))) (fun fp0 sx0 Hx0 => pifs_nil) (fun fp0 sx0 Hx0 => pe_int)) rfl)
      (pss_cons (ps_fld (pvA 0 (defScope s_q0) N_q0 rfl rfl) (pe_callTyN (sc := defScope s_q0) call_list_of rfl (by decide +kernel) T.z_list bt_list (pa_cons (pvA 1 (defScope s_q0) N_q0 rfl rfl) pa_nil)) rfl)
      (pss_cons (ps_fld (pvA 0 (defScope s_q0) N_q0 rfl rfl) (pe_callTyN (sc := defScope s_q0) call_list_of rfl (by decide +kernel) T.z_list bt_list (pa_cons (pvA 2 (defScope s_q0) N_q0 rfl rfl) pa_nil)) rfl)
      (pss_one (ps_fld (pvA 0 (defScope s_q0) N_q0 rfl rfl) pe_dnewK rfl)))))), ?_⟩
    have hs : sizeLine = 16777216 := sizeLine_eq
    have B0 : CO.Bld a.C_Dealer H H x dx [] [] := ⟨hx, fun b u _ e => e, (fun e he => nomatch he), List.nodup_nil⟩
    refine ⟨_, rfl, pk, _, rfl, .inl (SqL.of hm), fun pm hpm => ⟨_, rfl, x, _, dx, _, rfl, (Same.upd0 hpm) _ _ hx, T.cls_Dealer, T.no_Dealer_masks, by first | decide | (simp only [List.length_cons, List.length_nil, List.length_append, List.length_map]; decide), ?_⟩⟩
    rw [CO.p1]
    have B1 := (B0.put (l := ms) (H' := upd H pm (.lst (nV ms))) hpm (Same.upd0 hpm) upd_same).set [("masks", .ref pm)]
    generalize upd (upd H pm (.lst (nV ms))) x _ = H1 at B1 ⊢
    have kx : ∀ {b : Addr} {l : List V}, H b = some (.lst l) → b ≠ x := fun e => CO.ne_of e hx (fun z => nomatch z)
    have hm1 := B1.keep _ _ (kx hm) hm
    refine ⟨_, rfl, pk, rfl, ⟨_, SqL.of hm1⟩, fun ph hph => ?_⟩
    refine comp_grow hph (yields_list (xs := nV ms)) (fun σ => ∃ v, σ = [v]) (fun _ => some (.int 0)) ⟨_, rfl⟩ (fun H' s' => SqL.of (s' _ _ hm1)) (by rw [nV_len]; omega) ?_ ?_
    · rintro y ys σ H' R1 R0 hy ⟨v, rfl⟩ s' k1 k0
      exact k1 _ _ _ ⟨_, rfl⟩ rfl (Same.refl _)
    intro H2 s2 e2
    rw [CO.zeros] at e2
    have B2 := B1.put hph s2 e2
    refine ⟨_, rfl, x, _, dx, _, rfl, B2.ins, T.cls_Dealer, T.no_Dealer_held, by show 1 < 1000; decide, ?_⟩
    rw [CO.p2]
    have B3 := B2.set [("masks", .ref pm), ("held", .ref ph)]
    generalize upd H2 x _ = H3 at B3 ⊢
    clear B1 B2 s2 e2
    refine ⟨_, rfl, pw, _, rfl, .inl (SqL.of (B3.keep _ _ (kx hw) hw)), fun ps hps => ?_⟩
    have B4 := B3.put (l := ws) (H' := upd H3 ps (.lst (nV ws))) hps (Same.upd0 hps) upd_same
    generalize upd H3 ps (.lst (nV ws)) = H4 at B4 ⊢
    refine ⟨_, rfl, x, _, dx, _, rfl, B4.ins, T.cls_Dealer, T.no_Dealer_still, by show 2 < 1000; decide, ?_⟩
    rw [CO.p3]
    have B5 := B4.set [("masks", .ref pm), ("held", .ref ph), ("still", .ref ps)]
    generalize upd H4 x _ = H5 at B5 ⊢
    refine ⟨_, rfl, po, _, rfl, .inl (SqL.of (B5.keep _ _ (kx ho) ho)), fun pl hpl => ?_⟩
    have B6 := B5.put (l := os) (H' := upd H5 pl (.lst (nV os))) hpl (Same.upd0 hpl) upd_same
    generalize upd H5 pl (.lst (nV os)) = H6 at B6 ⊢
    refine ⟨_, rfl, x, _, dx, _, rfl, B6.ins, T.cls_Dealer, T.no_Dealer_left, by show 3 < 1000; decide, ?_⟩
    rw [CO.p4]
    have B7 := B6.set [("masks", .ref pm), ("held", .ref ph), ("still", .ref ps), ("left", .ref pl)]
    generalize upd H6 x _ = H7 at B7 ⊢
    refine fun pc hpc => ⟨_, rfl, x, _, dx, _, rfl, (Same.upd0 hpc) _ _ B7.ins, T.cls_Dealer, T.no_Dealer_came, by show 4 < 1000; decide, ?_⟩
    rw [CO.p5]
    have B8 := (B7.grow (Same.upd0 (o := .dK []) hpc)).set (CO.fs pm ph ps pl pc)
    obtain ⟨f1, f2, _⟩ := B7.free hpc
    exact q _ pm ph ps pl pc (B8.dlr sD nx (by rw [upd_ne f2]; exact upd_same) f1) B8.keep
def sp_q23 (K : PySem.W.Frag) : Sp := fun vs H Q _ => ∃ (p : Addr) (held : List Nat), vs = [.ref p] ∧ SqL K H p (nV held) ∧ held.length ≤ 1000 ∧ (∀ m ∈ held, m < 2 ^ 1000) ∧ (CD.hpT held held.length).length < 64 ∧ ∀ H' l zs qs, Same H H' → H' l = some (.lst zs) → DataAll K H' zs (List.map CP.pairD qs) → qs.Perm ((CD.hpT held held.length).map CP.natP) → CP.risingB qs = true → Q (.ref l) H'
theorem ok_q23 {f : Addr} {fd fd_q21 : FuncData} (F : Fun K "pairs_of" "pairs_of" s_q23 f fd) (T : Txt K mg a)
    (G_q21 : FnOk P w K mg base CX0 2 a.members fd_q21 ["mask"] (sp_q21 K)) (F_q21 : Fun K "members" "members" s_q21 a.members fd_q21) (b_q21 : Binds K fd_q21 ["mask"] []) : FnOk P w K mg base CX0 3 f fd ["held"] (sp_q23 K) := by
  refine F.ok sc_q23 (fun vs H Q E h => ?_) (fun cdv A outer s H vs Q E hr h => ?_)
  · obtain ⟨p, held, rfl, _⟩ := h
    rfl
  · obtain ⟨p, held, rfl, hp, hl, hm, h64, q⟩ := h
    refine ⟨_, (pss_cons (psN (i := 1) (sc := defScope s_q23) (M := N_q23) rfl rfl (by decide +kernel) (pe_lst pa_nil))
      (pss_cons (ps_for PassesOwn.never rfl (pi_enum (glR (sc := defScope s_q23) rfl (by decide +kernel)) T.z_enumerate (pa_cons (pvA 0 (defScope s_q23) N_q23 rfl rfl) pa_nil)) (pg_tup (n := 2) (by rfl) (pgs_cons (pgC (i := 2) (sc := defScope s_q23) (M := N_q23) rfl rfl rfl (by decide +kernel)) (pgs_cons (pgN (i := 3) (sc := defScope s_q23) (M := N_q23) rfl rfl (by decide +kernel)) pgs_nil))) (pss_one (ps_expr (pe_bm PySem.F.plainAttrs_list PySem.F.slot_list_extend PySem.F.type_list_extend mt_extend (pvA 1 (defScope s_q23) N_q23 rfl rfl) (pa_cons (pe_comp rfl (N := ["work", "place"]) (own := 1) (js := [2]) (X := (cxOf CX0 P w K mg base N_q23 "pairs_of" (defScope s_q23) f cdv A outer s H E).nox) (compOk (defScope s_q23) N_q23 rfl rfl (by decide +kernel)) (pi_list (pe_callN (sc := defScope s_q23) G_q21 (hr.mono (by decide)) rfl (by decide +kernel) T.m_q21 F_q21.kp b_q21 .nil pass0 (pa_cons (pvA 3 (defScope s_q23) N_q23 rfl rfl) pa_nil))) (fun fp0 sx0 Hx0 => (pgN (i := 0) (sc := relabelS _ (defScope s_q23)) (M := ["work", "place"]) rfl rfl (by decide +kernel))) (fun fp0 sx0 Hx0 => pifs_nil) (fun fp0 sx0 Hx0 => (pe_tup (pa_cons (pvN (i := 0) (sc := relabelS _ (defScope s_q23)) (M := ["work", "place"]) rfl rfl (by decide +kernel)) (pa_cons (pvN (i := 1) (sc := relabelS _ (defScope s_q23)) (M := ["work", "place"]) rfl rfl (by decide +kernel)) pa_nil))))) pa_nil)))))
      (pss_one (ps_ret (pe_callBN (sc := defScope s_q23) L16.call_sortedQ rfl (by decide +kernel) T.z_sorted bt_sorted (pa_cons (pvA 1 (defScope s_q23) N_q23 rfl rfl) pa_nil)))))), ?_⟩
    have hs : sizeLine = 16777216 := sizeLine_eq
    refine ⟨by first | decide | (simp only [List.length_cons, List.length_nil, List.length_append, List.length_map]; decide), fun l hl0 => ?_⟩
    have s1 : Same H (upd H l (.lst [])) := Same.upd0 hl0
    have e1 : upd H l (.lst []) l = some (.lst []) := upd_same
    generalize upd H l (.lst []) = H1 at s1 e1 ⊢
    refine ⟨_, rfl, p, rfl, ⟨_, s1.seq hp⟩, ?_⟩
    refine L5.for_enum (xs := nV held) (fun i σ H' => ∃ v2 v3 ys D', σ = [some (.ref p), some (.ref l), v2, v3] ∧ Same H H' ∧ Same D' H' ∧ D' l = none ∧ H' l = some (.lst ys) ∧ DataAll K D' ys ((CD.hpT held i).map fun q => CP.pairD (CP.natP q))) ⟨_, _, [], H, rfl, s1, s1, hl0, e1, DataAll.nil⟩ ?_ ?_ ?_
    · rintro i σ H' _ ⟨v2, v3, ys, D', _, s', _⟩
      exact s'.seq hp
    · rintro i y σ H2 Tt hy ⟨v2, v3, ys, D2, rfl, s2, d2, n2, e2, hA⟩ hTt
      unfold nV at hy
      rw [List.getElem?_map] at hy
      obtain ⟨m, hm', rfl⟩ := Option.map_eq_some_iff.mp hy
      rw [show (0 : Int) + (i : Nat) = (i : Nat) by omega]
      have s3 := s2.trans (Same.upd0 (o := .tup [.int (i : Nat), .int (m : Nat)]) hTt)
      have d3 := d2.trans (Same.upd0 (o := .tup [.int (i : Nat), .int (m : Nat)]) hTt)
      have e3 := (Same.upd0 (o := .tup [.int (i : Nat), .int (m : Nat)]) hTt) _ _ e2
      have et : upd H2 Tt (.tup [.int (i : Nat), .int (m : Nat)]) Tt = some (.tup [.int (i : Nat), .int (m : Nat)]) := upd_same
      generalize upd H2 Tt (.tup [.int (i : Nat), .int (m : Nat)]) = H3 at s3 d3 e3 et ⊢
      have hil : i < held.length := (List.getElem?_eq_some_iff.mp hm').1
      have em : held.getD i 0 = m := CG.getD_of hm'
      have ly := DataAll.length hA
      rw [List.length_map] at ly
      have lt := CD.hpT_le held (show i + 1 ≤ held.length by omega)
      have la : (CD.hpT held (i + 1)).length = (CD.hpT held i).length + (CB.memb m).length := by
        rw [CD.hpT, List.length_append, List.length_map, em]
      refine ⟨Tt, _, rfl, SqT.of et, rfl, _, _, rfl, _, _, rfl, rfl, ?_⟩
      refine ⟨_, rfl, .inl ⟨rfl, _, SqL.of e3⟩, _, rfl, m, rfl, hm m (List.mem_of_getElem? hm'), fun H4 lm hlm s4 e4 => ⟨lm, rfl, ⟨_, SqL.of e4⟩, fun cc hcc => ?_⟩⟩
      refine L13.comp_els (Pd := CO.PrT i) CO.PrT.up (d3.trans s4) hcc (yields_list (xs := (CB.memb m).map fun n : Nat => V.int n)) (fun σ => ∃ v, σ = [v, some (.int (i : Nat))]) (CB.memb m) (by rw [List.length_map]) ⟨_, rfl⟩ (fun H' s' => SqL.of (s' _ _ e4)) (by rw [List.length_map]; omega) ?_ ?_
      · rintro k y w σ D1 H1 R1 R0 hy hw ⟨v, rfl⟩ G k1
        rw [List.getElem?_map, hw] at hy
        obtain rfl := Option.some.inj hy
        refine ⟨_, rfl, _, rfl, by first | decide | (simp only [List.length_cons, List.length_nil, List.length_append, List.length_map]; decide), fun t ht => ?_⟩
        exact k1 _ _ _ _ ⟨_, rfl⟩ (Gr.lay G.dh ht) ⟨t, rfl, upd_same⟩
      intro D5 H5 zs G e5 n5 els
      have s5 := s4.trans G.hh
      have lz := els.1
      have n5l : D5 l = none := G.nw l _ (s4 _ _ e3) n2
      refine ⟨l, cc, _, _, rfl, rfl, s5 _ _ e3, e5, by omega, ?_⟩
      refine ⟨_, _, ys ++ zs, D5, rfl, same_set (s3.trans s5) hl0, same_set G.dh n5l, n5l, upd_same, ?_⟩
      rw [CD.hpT, List.map_append, em]
      exact DataAll.append (DataAll.same G.dd _ hA) (CO.els_data els)
    · rintro σ H2 ⟨v2, v3, ys, D2, rfl, s2, d2, n2, e2, hA⟩
      rw [nV_len] at hA
      refine ⟨_, rfl, l, ys, (CD.hpT held held.length).map CP.natP, rfl, SqL.of e2, by rw [List.map_map]; exact DataAll.same d2 _ hA, CD.natPs_nd (CD.hpT_nd held _), by rw [List.length_map]; exact h64, fun l2 zs qs hl2 hD hp2 hr2 => ?_⟩
      exact q _ l2 zs qs (s2.trans (Same.upd0 hl2)) upd_same (DataAll.same (Same.upd0 hl2) _ hD) hp2 hr2
def sp_q6 (K : PySem.W.Frag) : Sp := fun vs H Q _ => ∃ (pw po pk : Addr) (ws os ms : List Nat), vs = [.ref pw, .ref po, .ref pk] ∧ H pw = some (.lst (nV ws)) ∧ H po = some (.lst (nV os)) ∧ H pk = some (.lst (nV ms)) ∧ ws.length = ms.length ∧ os.length ≤ 1000 ∧ ms.length < 64 ∧ (∀ m ∈ ms, m < 2 ^ os.length) ∧ CD.sumN (ws.map fun n => min n os.length) < 64 ∧
  ∀ H' t l1 l3 zs qs paper z, Same H H' → H' t = some (.tup [.ref l1, .int (z : Nat), .ref l3]) → H' l1 = some (.lst zs) → DataAll K H' zs (List.map CP.pairD qs) → CP.dealB qs ws os ms = true → qs.length + z = CD.sumN ws → H' l3 = some (.lst (nV paper)) → CD.Paper ws.length paper → CG.shownZ paper ws os ms = ((z : Nat) : Int) → CD.Opt ws os ms ((z : Nat) : Int) → Q (.ref t) H'
theorem ok_q6 {f : Addr} {fd fd_q0 fd_q3 fd_q23 : FuncData} (F : Fun K "deal" "deal" s_q6 f fd) (T : Txt K mg a)
    (G_q0 : FnOk P w K mg base CX0 1 a.Dealer___init__ fd_q0 ["self", "wants", "oftens", "masks"] (sp_q0 K a.C_Dealer)) (F_q0 : Fun K "__init__" "Dealer.__init__" s_q0 a.Dealer___init__ fd_q0) (b_q0 : Binds K fd_q0 ["self", "wants", "oftens", "masks"] [])
    (G_q3 : FnOk P w K mg base CX0 6 a.Dealer_grow fd_q3 ["self"] (sp_q3 K a.C_Dealer)) (F_q3 : Fun K "grow" "Dealer.grow" s_q3 a.Dealer_grow fd_q3) (b_q3 : Binds K fd_q3 ["self"] [])
    (G_q23 : FnOk P w K mg base CX0 3 a.pairs_of fd_q23 ["held"] (sp_q23 K)) (F_q23 : Fun K "pairs_of" "pairs_of" s_q23 a.pairs_of fd_q23) (b_q23 : Binds K fd_q23 ["held"] []) : FnOk P w K mg base CX0 8 f fd ["wants", "oftens", "masks"] (sp_q6 K) := by
  refine F.ok sc_q6 (fun vs H Q E h => ?_) (fun cdv A outer s H vs Q E hr h => ?_)
  · obtain ⟨pw, po, pk, ws, os, ms, rfl, _⟩ := h
    rfl
  · obtain ⟨pw, po, pk, ws, os, ms, rfl, hw, ho, hm, lw, lo, lm, hb, h64, q⟩ := h
    refine ⟨_, (pss_cons (psN (i := 3) (sc := defScope s_q6) (M := N_q6) rfl rfl (by decide +kernel) (pe_make T.mk_Dealer G_q0 (hr.mono (by decide)) (glR (sc := defScope s_q6) rfl (by decide +kernel)) T.m_Dealer b_q0 .nil pass0 (pa_cons (pvA 0 (defScope s_q6) N_q6 rfl rfl) (pa_cons (pvA 1 (defScope s_q6) N_q6 rfl rfl) (pa_cons (pvA 2 (defScope s_q6) N_q6 rfl rfl) pa_nil)))))
      (pss_cons (ps_expr (pe_meth0 (pvA 3 (defScope s_q6) N_q6 rfl rfl) T.cls_Dealer T.meth_Dealer_grow G_q3 (hr.mono (by decide)) b_q3 .nil pass0))
      (pss_one (ps_ret (pe_tup (pa_cons (pe_callN (sc := defScope s_q6) G_q23 (hr.mono (by decide)) rfl (by decide +kernel) T.m_q23 F_q23.kp b_q23 .nil pass0 (pa_cons (pe_fld (pvA 3 (defScope s_q6) N_q6 rfl rfl) rfl) pa_nil)) (pa_cons (pe_callBN (sc := defScope s_q6) (call_sumL rfl) rfl (by decide +kernel) T.z_sum bt_sum (pa_cons (pe_fld (pvA 3 (defScope s_q6) N_q6 rfl rfl) rfl) pa_nil)) (pa_cons (pe_callBN (sc := defScope s_q6) (L15.call_sortedD rfl) rfl (by decide +kernel) T.z_sorted bt_sorted (pa_cons (pe_fld (pvA 3 (defScope s_q6) N_q6 rfl rfl) rfl) pa_nil)) pa_nil)))))))), ?_⟩
    have hs : sizeLine = 16777216 := sizeLine_eq
    have nm3 : ("grow" : Str) ≠ "masks" ∧ ("grow" : Str) ≠ "held" ∧ ("grow" : Str) ≠ "still" ∧ ("grow" : Str) ≠ "left" ∧ ("grow" : Str) ≠ "came" := by decide +kernel
    refine ⟨_, rfl, _, rfl, _, rfl, fun x dx hx hdx hne => ?_⟩
    have s0 : Same H (upd (upd H dx (.own x)) x (.ins a.C_Dealer dx [])) := (Same.upd0 hdx).trans (Same.upd0 (by rw [upd_ne hne.symm]; exact hx))
    refine ⟨x, dx, pw, po, pk, ws, os, ms, H, rfl, s0, upd_same, hx, s0 _ _ hw, s0 _ _ ho, s0 _ _ hm, by omega, fun H2 pm ph ps pl pc r2 k2 => ⟨rfl, ?_⟩⟩
    clear s0 k2
    refine ⟨_, rfl, x, dx, _, rfl, r2.ins, CO.f_none nm3, x, dx, pm, ph, ps, pl, pc, ws, os, ms, _, ws, os, [], H, rfl, r2, CD.Deal.start lw hb, by omega, lo, fun D3 H3 pc3 kvs3 c3 held3 still3 left3 r3 ca3 dl3 st3 s3 _ => ?_⟩
    have lc : c3.length ≤ ms.length := by have := CO.paper_len st3.pap; rwa [List.length_map] at this
    have tot := dl3.total
    have few : (CD.hpT held3 held3.length).length < 64 := by
      have := dl3.few
      rw [CD.sum_ix, dl3.lh, ← CD.hpT_len] at this
      rw [dl3.lh]
      omega
    refine ⟨_, rfl, x, _, dx, _, _, rfl, r3.ins, T.cls_Dealer, T.no_Dealer_held, CO.f_held, ph, held3, rfl, SqL.of r3.h, by rw [dl3.lh]; omega, fun m hm => Nat.lt_of_lt_of_le (dl3.small hm) (Nat.pow_le_pow_right (by decide) lo), few, fun H4 l zs qs s4 e4 hA4 hp4 hr4 => ?_⟩
    have r4 := r3.gr (Gr.heap r3.dh s4)
    have sH4 : Same H H4 := (s3.trans r3.dh).trans s4
    rw [dl3.lh] at hp4
    have dB := dl3.dl.dealB hp4 hr4
    have lq := hp4.length_eq
    rw [List.length_map] at lq
    have op := dl3.opt (by rw [lw]; exact st3)
    have st := dl3.strong (by rw [lw]; exact st3)
    refine ⟨_, rfl, x, _, dx, _, _, rfl, r4.ins, T.cls_Dealer, T.no_Dealer_still, CO.f_still, ps, still3.map (fun n : Nat => (n : Int)), rfl, SqL.of (by rw [List.map_map]; exact r4.s), ?_⟩
    rw [CO.sum_nat]
    refine ⟨_, rfl, x, _, dx, _, _, rfl, r4.ins, T.cls_Dealer, T.no_Dealer_came, CO.f_came, pc3, kvs3, (c3.map Prod.fst).map (fun n : Nat => (n : Int)), rfl, .inl r4.c, by rw [ca3.keys, List.map_map, List.map_map]; rfl, by rw [List.length_map, List.length_map]; omega, fun l2 ks hl2 hk2 _ => ?_⟩
    obtain ⟨k1, k2⟩ := CO.ints_nat hk2
    rw [k1]
    refine ⟨by first | decide | (simp only [List.length_cons, List.length_nil, List.length_append, List.length_map]; decide), fun tt htt => ?_⟩
    have s5 := Same.upd0 (o := .lst (nV (ks.map Int.toNat))) hl2
    have e5 : upd H4 l2 (.lst (nV (ks.map Int.toNat))) l2 = some (.lst (nV (ks.map Int.toNat))) := upd_same
    generalize upd H4 l2 (.lst (nV (ks.map Int.toNat))) = H5 at s5 e5 htt ⊢
    have s6 := Same.upd0 (o := .tup [.ref l, .int (CD.sumN still3 : Nat), .ref l2]) htt
    exact q _ tt l l2 zs qs (ks.map Int.toNat) _ ((sH4.trans s5).trans s6) upd_same (s6 _ _ (s5 _ _ e4)) (DataAll.same (s5.trans s6) _ hA4) dB (by omega) (s6 _ _ e5) (CD.Paper.perm k2 (by rw [lw]; exact st3.pap)) (by rw [CD.shown_perm k2]; exact st) op
def sp_q11 (K : PySem.W.Frag) : Sp := fun vs H Q _ => ∃ (p : Addr) (xs : List V) (ps : List CP.Pr), vs = [.ref p] ∧ SqL K H p xs ∧ DataAll K H xs (ps.map CP.pairD) ∧ ps.length ≤ 1000 ∧ ∀ H', Same H H' → Q (.bl (CP.risingB ps)) H'
theorem ok_q11 {f : Addr} {fd : FuncData} (F : Fun K "is_rising" "is_rising" s_q11 f fd) (T : Txt K mg a) : FnOk P w K mg base CX0 1 f fd ["things"] (sp_q11 K) := by
  refine F.ok sc_q11 (fun vs H Q E h => ?_) (fun cdv A outer s H vs Q E hr h => ?_)
  · obtain ⟨p, xs, ps, rfl, _⟩ := h
    rfl
  · obtain ⟨p, xs, ps, rfl, hp, hA, hl, q⟩ := h
    refine ⟨_, (pss_one (ps_ret (pe_callBN (sc := defScope s_q11) (call_allL rfl) rfl (by decide +kernel) T.z_all bt_all (pa_cons (pe_comp rfl (N := ["one", "other"]) (own := 2) (js := []) (X := (cxOf CX0 P w K mg base N_q11 "is_rising" (defScope s_q11) f cdv A outer s H E).nox) (compOk (defScope s_q11) N_q11 rfl rfl (by decide +kernel)) (L5.pi_zipL (glR (sc := defScope s_q11) rfl (by decide +kernel)) T.z_zip (pa_cons (pvA 0 (defScope s_q11) N_q11 rfl rfl) (pa_cons (pe_slice sl_list (pvA 0 (defScope s_q11) N_q11 rfl rfl) (po_some pe_int) po_none) pa_nil))) (fun fp0 sx0 Hx0 => (kgTup (K := K) rfl (pg_tup (n := 2) (by rfl) (pgs_cons (pgN (i := 0) (sc := relabelS _ (defScope s_q11)) (M := ["one", "other"]) rfl rfl (by decide +kernel)) (pgs_cons (pgN (i := 1) (sc := relabelS _ (defScope s_q11)) (M := ["one", "other"]) rfl rfl (by decide +kernel)) pgs_nil))))) (fun fp0 sx0 Hx0 => pifs_nil) (fun fp0 sx0 Hx0 => (pe_cmpR (kOp (r := rLtT) (K := K) rfl (op_ltT (L12.hu0 hr))) (pvN (i := 0) (sc := relabelS _ (defScope s_q11)) (M := ["one", "other"]) rfl rfl (by decide +kernel)) (pvN (i := 1) (sc := relabelS _ (defScope s_q11)) (M := ["one", "other"]) rfl rfl (by decide +kernel)) (nomark _)))) pa_nil)))), ?_⟩
    have hs : sizeLine = 16777216 := sizeLine_eq
    have lx := DataAll.length hA
    rw [List.length_map] at lx
    refine ⟨_, rfl, _, rfl, _, rfl, p, _, rfl, hp, fun p2 hp2 => ?_⟩
    rw [cut1]
    have s1 := Same.upd0 (o := .lst (xs.drop 1)) hp2
    have e1 : upd H p2 (.lst (xs.drop 1)) p2 = some (.lst (xs.drop 1)) := upd_same
    generalize upd H p2 (.lst (xs.drop 1)) = H1 at s1 e1 ⊢
    have ld : (xs.drop 1).length = ps.length - 1 := by rw [List.length_drop, lx]
    refine ⟨p, p2, rfl, ⟨_, s1.seq hp⟩, ⟨_, SqL.of e1⟩, fun c hc => ?_⟩
    refine L5.comp_zip (xs := xs) (ys := xs.drop 1) hc (fun H' s' => ⟨(s1.trans s').seq hp, SqL.of (s' _ _ e1)⟩) (fun σ => ∃ v1 v2, σ = [v1, v2]) (fun i _ _ => some (.bl (CP.lexP (CP.at' ps i) (CP.at' ps (i + 1))))) ⟨_, _, rfl⟩ (by rw [List.length_drop]; omega) (by omega) ?_ ?_
    · rintro i x y σ H2 T R1 R0 hx hy ⟨v1, v2, rfl⟩ s2 hT k1 k0
      rw [List.getElem?_drop, Nat.add_comm 1 i] at hy
      obtain ⟨a, t, ha, rfl, et⟩ := CP.pairs_at hA hx
      obtain ⟨b, u, hb, rfl, eu⟩ := CP.pairs_at hA hy
      have s3 := s1.trans (s2.trans (Same.upd0 (o := .tup [.ref t, .ref u]) hT))
      refine ⟨T, _, rfl, SqT.of upd_same, rfl, _, _, rfl, _, _, rfl, rfl, _, rfl, _, rfl, t, u, [a.1, a.2], [b.1, b.2], rfl, rfl, SqT.of (s3 _ _ et), SqT.of (s3 _ _ eu), k1 _ _ _ ⟨_, _, rfl⟩ ?_ (Same.upd0 hT)⟩
      rw [CP.at_of ha, CP.at_of hb]
      rfl
    · intro H2 s2 e2
      have e2' : L5.zipF (fun i _ _ => some (V.bl (CP.lexP (CP.at' ps i) (CP.at' ps (i + 1))))) xs (xs.drop 1) (xs.drop 1).length = ((List.range (ps.length - 1)).map fun i => CP.lexP (CP.at' ps i) (CP.at' ps (i + 1))).map V.bl := by
        unfold L5.zipF
        rw [ld, List.map_map]
        refine CG.filterMap_some fun i hi => ?_
        have hi' := List.mem_range.mp hi
        rw [List.getElem?_eq_getElem (by omega : i < xs.length), List.getElem?_eq_getElem (by omega : i < (xs.drop 1).length)]
        rfl
      rw [e2'] at e2
      exact ⟨c, _, rfl, SqL.of e2, q H2 (s1.trans s2)⟩
def sp_q5 (K : PySem.W.Frag) : Sp := fun vs H Q _ => ∃ (w p : Int) (po pm : Addr) (os ms : List Nat), vs = [.int w, .int p, .ref po, .ref pm] ∧ SqL K H po (nV os) ∧ SqL K H pm (nV ms) ∧ Q (.bl (CP.pairB os ms w p)) H
theorem ok_q5 {f : Addr} {fd fd_q9 : FuncData} (F : Fun K "can_be_paired" "can_be_paired" s_q5 f fd) (T : Txt K mg a)
    (G_q9 : FnOk P w K mg base CX0 1 a.has fd_q9 ["mask", "number"] (sp_q9 K)) (F_q9 : Fun K "has" "has" s_q9 a.has fd_q9) (b_q9 : Binds K fd_q9 ["mask", "number"] []) : FnOk P w K mg base CX0 2 f fd ["work", "place", "oftens", "masks"] (sp_q5 K) := by
  refine F.ok sc_q5 (fun vs H Q E h => ?_) (fun cdv A outer s H vs Q E hr h => ?_)
  · obtain ⟨w, p, po, pm, os, ms, rfl, _⟩ := h
    rfl
  · obtain ⟨wk, pl, po, pm, os, ms, rfl, ho, hm, q⟩ := h
    refine ⟨_, (pss_cons (ps_if (PW.pt (pw_or (pt_cmpR op_lt (pvA 0 (defScope s_q5) N_q5 rfl rfl) pe_int (nomark _)) (pw_or (pt_cmpR op_ge (pvA 0 (defScope s_q5) N_q5 rfl rfl) (pe_callBN (sc := defScope s_q5) call_len rfl (by decide +kernel) T.z_len bt_len (pa_cons (pvA 2 (defScope s_q5) N_q5 rfl rfl) pa_nil)) (nomark _)) (pw_or (pt_cmpR op_lt (pvA 1 (defScope s_q5) N_q5 rfl rfl) pe_int (nomark _)) (pw_or1 (pt_cmpR op_ge (pvA 1 (defScope s_q5) N_q5 rfl rfl) (pe_callBN (sc := defScope s_q5) call_len rfl (by decide +kernel) T.z_len bt_len (pa_cons (pvA 3 (defScope s_q5) N_q5 rfl rfl) pa_nil)) (nomark _))))))) (pss_one (ps_ret pe_bl)) pss_nil)
      (pss_one (ps_ret (pe_callN (sc := defScope s_q5) G_q9 (hr.mono (by decide)) rfl (by decide +kernel) T.m_q9 F_q9.kp b_q9 .nil pass0 (pa_cons (pe_ix ix_list (pvA 3 (defScope s_q5) N_q5 rfl rfl) (pvA 1 (defScope s_q5) N_q5 rfl rfl) (fun _ _ => rfl)) (pa_cons (pvA 0 (defScope s_q5) N_q5 rfl rfl) pa_nil)))))), ?_⟩
    unfold CP.pairB at q
    refine ⟨_, rfl, _, _, rfl, rfl, _, rfl, ite2 (fun h1 => ?_) (fun h1 => ?_)⟩
    · have h1' : wk < 0 := of_decide_eq_true h1
      rw [decide_eq_false (show ¬ 0 ≤ wk by omega), Bool.false_and, Bool.false_and, Bool.false_and] at q
      exact q
    have h1' : 0 ≤ wk := by have : ¬ wk < 0 := fun z => h1 (decide_eq_true z); omega
    rw [decide_eq_true h1', Bool.true_and] at q
    refine ⟨_, rfl, _, rfl, .ref po, os.length, rfl, .inl ⟨_, ho, by rw [nV_len]⟩, _, _, rfl, rfl, _, rfl, ite2 (fun h2 => ?_) (fun h2 => ?_)⟩
    · have h2' : ((os.length : Nat) : Int) ≤ wk := of_decide_eq_true h2
      rw [decide_eq_false (show ¬ wk < (os.length : Nat) by omega), Bool.false_and, Bool.false_and] at q
      exact q
    have h2' : wk < (os.length : Nat) := by have : ¬ ((os.length : Nat) : Int) ≤ wk := fun z => h2 (decide_eq_true z); omega
    rw [decide_eq_true h2', Bool.true_and] at q
    refine ⟨_, rfl, _, _, rfl, rfl, _, rfl, ite2 (fun h3 => ?_) (fun h3 => ?_)⟩
    · have h3' : pl < 0 := of_decide_eq_true h3
      rw [decide_eq_false (show ¬ 0 ≤ pl by omega), Bool.false_and, Bool.false_and] at q
      exact q
    have h3' : 0 ≤ pl := by have : ¬ pl < 0 := fun z => h3 (decide_eq_true z); omega
    rw [decide_eq_true h3', Bool.true_and] at q
    refine ⟨_, rfl, _, rfl, .ref pm, ms.length, rfl, .inl ⟨_, hm, by rw [nV_len]⟩, _, _, rfl, rfl, _, rfl, ite2 (fun h4 => ?_) (fun h4 => ?_)⟩
    · have h4' : ((ms.length : Nat) : Int) ≤ pl := of_decide_eq_true h4
      rw [decide_eq_false (show ¬ pl < (ms.length : Nat) by omega), Bool.false_and] at q
      exact q
    have h4' : pl < (ms.length : Nat) := by have : ¬ ((ms.length : Nat) : Int) ≤ pl := fun z => h4 (decide_eq_true z); omega
    rw [decide_eq_true h4', Bool.true_and] at q
    refine ⟨_, rfl, _, rfl, pm, _, _, _, rfl, rfl, hm, (by rw [← Int.toNat_of_nonneg h3']; exact nV_at (by omega)), _, rfl, _, wk, rfl, ?_⟩
    rw [decide_eq_true h1', Bool.true_and]
    exact q
def sp_q22 (K : PySem.W.Frag) : Sp := fun vs H Q _ => ∃ (pn pb : Addr) (ns : List Int) (bs : List Nat), vs = [.ref pn, .ref pb] ∧ SqL K H pn (ns.map V.int) ∧ SqL K H pb (nV bs) ∧ bs.length ≤ 1000 ∧ ∀ H', Same H H' → Q (.bl (CP.aboveB ns bs)) H'
theorem ok_q22 {f : Addr} {fd : FuncData} (F : Fun K "none_above" "none_above" s_q22 f fd) (T : Txt K mg a) : FnOk P w K mg base CX0 1 f fd ["numbers", "bounds"] (sp_q22 K) := by
  refine F.ok sc_q22 (fun vs H Q E h => ?_) (fun cdv A outer s H vs Q E hr h => ?_)
  · obtain ⟨pn, pb, ns, bs, rfl, _⟩ := h
    rfl
  · obtain ⟨pn, pb, ns, bs, rfl, hn, hb, hl, q⟩ := h
    refine ⟨_, (pss_one (ps_ret (pe_callBN (sc := defScope s_q22) (call_allL rfl) rfl (by decide +kernel) T.z_all bt_all (pa_cons (pe_comp rfl (N := ["number", "bound", "numbers"]) (own := 2) (js := [0]) (X := (cxOf CX0 P w K mg base N_q22 "none_above" (defScope s_q22) f cdv A outer s H E).nox) (compOk (defScope s_q22) N_q22 rfl rfl (by decide +kernel)) (pi_enum (glR (sc := defScope s_q22) rfl (by decide +kernel)) T.z_enumerate (pa_cons (pvA 1 (defScope s_q22) N_q22 rfl rfl) pa_nil)) (fun fp0 sx0 Hx0 => (kgTup (K := K) rfl (pg_tup (n := 2) (by rfl) (pgs_cons (pgN (i := 0) (sc := relabelS _ (defScope s_q22)) (M := ["number", "bound", "numbers"]) rfl rfl (by decide +kernel)) (pgs_cons (pgN (i := 1) (sc := relabelS _ (defScope s_q22)) (M := ["number", "bound", "numbers"]) rfl rfl (by decide +kernel)) pgs_nil))))) (fun fp0 sx0 Hx0 => pifs_nil) (fun fp0 sx0 Hx0 => (pe_cmpR op_le (kBM (K := K) rfl (pe_bm PySem.F.plainAttrs_list PySem.F.slot_list_count PySem.F.type_list_count (kMt (r := L12.rCount) (K := K) rfl L12.mt_count) (pvN (i := 2) (sc := relabelS _ (defScope s_q22)) (M := ["number", "bound", "numbers"]) rfl rfl (by decide +kernel)) (pa_cons (pvN (i := 0) (sc := relabelS _ (defScope s_q22)) (M := ["number", "bound", "numbers"]) rfl rfl (by decide +kernel)) pa_nil))) (pvN (i := 1) (sc := relabelS _ (defScope s_q22)) (M := ["number", "bound", "numbers"]) rfl rfl (by decide +kernel)) (nomark _)))) pa_nil)))), ?_⟩
    have hs : sizeLine = 16777216 := sizeLine_eq
    refine ⟨_, rfl, pb, rfl, ⟨_, hb⟩, fun c hc => ?_⟩
    refine L5.comp_enum hc (fun H' s' => s'.seq hb) (fun σ => ∃ v1 v2, σ = [v1, v2, some (.ref pn)]) (fun i _ => some (.bl (decide (ns.count ((i : Nat) : Int) ≤ bs.getD i 0)))) ⟨_, _, rfl⟩ (by rw [nV_len]; omega) ?_ ?_
    · rintro i y σ H1 T R1 R0 hy ⟨v1, v2, rfl⟩ s1 hT k1 k0
      unfold nV at hy
      rw [List.getElem?_map] at hy
      obtain ⟨o, ho', rfl⟩ := Option.map_eq_some_iff.mp hy
      have s2 := s1.trans (Same.upd0 (o := .tup [.int (0 + (i : Nat)), .int (o : Nat)]) hT)
      rw [show (0 : Int) + (i : Nat) = (i : Nat) by omega] at s2 ⊢
      refine ⟨T, _, rfl, SqT.of upd_same, rfl, _, _, rfl, _, _, rfl, rfl, _, rfl, .inl ⟨rfl, _, s2.seq hn⟩, _, rfl, pn, ns, (i : Nat), rfl, rfl, s2.seq hn, _, rfl, _, _, rfl, rfl, k1 _ _ _ ⟨_, _, rfl⟩ ?_ (Same.upd0 hT)⟩
      rw [CG.getD_of ho']
      congr 2
      exact decide_eq_decide.mpr (by omega)
    · intro H1 s1 e1
      have e1' : L5.enumF (fun i _ => some (V.bl (decide (ns.count ((i : Nat) : Int) ≤ bs.getD i 0)))) (nV bs) (nV bs).length = ((List.range bs.length).map fun i => decide (ns.count ((i : Nat) : Int) ≤ bs.getD i 0)).map V.bl := by
        unfold L5.enumF
        rw [nV_len, List.map_map]
        refine CG.filterMap_some fun i hi => ?_
        unfold nV
        rw [List.getElem?_map, List.getElem?_eq_getElem (List.mem_range.mp hi)]
        rfl
      rw [e1'] at e1
      exact ⟨c, _, rfl, SqL.of e1, q H1 s1⟩
def sp_q10 (K : PySem.W.Frag) : Sp := fun vs H Q _ => ∃ (pp pw po pm : Addr) (xs : List V) (ps : List CP.Pr) (ws os ms : List Nat), vs = [.ref pp, .ref pw, .ref po, .ref pm] ∧ SqL K H pp xs ∧ DataAll K H xs (ps.map CP.pairD) ∧ SqL K H pw (nV ws) ∧ SqL K H po (nV os) ∧ SqL K H pm (nV ms) ∧ ps.length ≤ 1000 ∧ os.length ≤ 1000 ∧ ws.length ≤ 1000 ∧ ∀ H', Same H H' → Q (.bl (CP.dealB ps ws os ms)) H'
theorem ok_q10 {f : Addr} {fd fd_q5 fd_q11 fd_q22 : FuncData} (F : Fun K "is_dealing" "is_dealing" s_q10 f fd) (T : Txt K mg a)
    (G_q5 : FnOk P w K mg base CX0 2 a.can_be_paired fd_q5 ["work", "place", "oftens", "masks"] (sp_q5 K)) (F_q5 : Fun K "can_be_paired" "can_be_paired" s_q5 a.can_be_paired fd_q5) (b_q5 : Binds K fd_q5 ["work", "place", "oftens", "masks"] [])
    (G_q11 : FnOk P w K mg base CX0 1 a.is_rising fd_q11 ["things"] (sp_q11 K)) (F_q11 : Fun K "is_rising" "is_rising" s_q11 a.is_rising fd_q11) (b_q11 : Binds K fd_q11 ["things"] [])
    (G_q22 : FnOk P w K mg base CX0 1 a.none_above fd_q22 ["numbers", "bounds"] (sp_q22 K)) (F_q22 : Fun K "none_above" "none_above" s_q22 a.none_above fd_q22) (b_q22 : Binds K fd_q22 ["numbers", "bounds"] []) : FnOk P w K mg base CX0 3 f fd ["pairs", "wants", "oftens", "masks"] (sp_q10 K) := by
  refine F.ok sc_q10 (fun vs H Q E h => ?_) (fun cdv A outer s H vs Q E hr h => ?_)
  · obtain ⟨pp, pw, po, pm, xs, ps, ws, os, ms, rfl, _⟩ := h
    rfl
  · obtain ⟨pp, pw, po, pm, xs, ps, ws, os, ms, rfl, hp, hA, hw, ho, hm, l1, l2, l3, q⟩ := h
    refine ⟨_, (pss_cons (ps_if (pt_not (pt_val (pe_callN (sc := defScope s_q10) G_q11 (hr.mono (by decide)) rfl (by decide +kernel) T.m_q11 F_q11.kp b_q11 .nil pass0 (pa_cons (pvA 0 (defScope s_q10) N_q10 rfl rfl) pa_nil)))) (pss_one (ps_ret pe_bl)) pss_nil)
      (pss_cons (ps_if (pt_not (pt_val (pe_callBN (sc := defScope s_q10) (call_allL rfl) rfl (by decide +kernel) T.z_all bt_all (pa_cons (pe_comp rfl (N := ["work", "place", "oftens", "masks"]) (own := 2) (js := [2, 3]) (X := (cxOf CX0 P w K mg base N_q10 "is_dealing" (defScope s_q10) f cdv A outer s H E).nox) (compOk (defScope s_q10) N_q10 rfl rfl (by decide +kernel)) (pi_list (pvA 0 (defScope s_q10) N_q10 rfl rfl)) (fun fp0 sx0 Hx0 => (kgTup (K := K) rfl (pg_tup (n := 2) (by rfl) (pgs_cons (pgN (i := 0) (sc := relabelS _ (defScope s_q10)) (M := ["work", "place", "oftens", "masks"]) rfl rfl (by decide +kernel)) (pgs_cons (pgN (i := 1) (sc := relabelS _ (defScope s_q10)) (M := ["work", "place", "oftens", "masks"]) rfl rfl (by decide +kernel)) pgs_nil))))) (fun fp0 sx0 Hx0 => pifs_nil) (fun fp0 sx0 Hx0 => (pe_callN (sc := relabelS _ (defScope s_q10)) G_q5 (hr.mono (by decide)) rfl (by decide +kernel) T.m_q5 F_q5.kp b_q5 .nil pass0 (pa_cons (pvN (i := 0) (sc := relabelS _ (defScope s_q10)) (M := ["work", "place", "oftens", "masks"]) rfl rfl (by decide +kernel)) (pa_cons (pvN (i := 1) (sc := relabelS _ (defScope s_q10)) (M := ["work", "place", "oftens", "masks"]) rfl rfl (by decide +kernel)) (pa_cons (pvN (i := 2) (sc := relabelS _ (defScope s_q10)) (M := ["work", "place", "oftens", "masks"]) rfl rfl (by decide +kernel)) (pa_cons (pvN (i := 3) (sc := relabelS _ (defScope s_q10)) (M := ["work", "place", "oftens", "masks"]) rfl rfl (by decide +kernel)) pa_nil))))))) pa_nil)))) (pss_one (ps_ret pe_bl)) pss_nil)
      (pss_one (ps_ret (pe_and (pe_callN (sc := defScope s_q10) G_q22 (hr.mono (by decide)) rfl (by decide +kernel) T.m_q22 F_q22.kp b_q22 .nil pass0 (pa_cons (pe_comp rfl (N := ["work", "place"]) (own := 2) (js := []) (X := (cxOf CX0 P w K mg base N_q10 "is_dealing" (defScope s_q10) f cdv A outer s H E).nox) (compOk (defScope s_q10) N_q10 rfl rfl (by decide +kernel)) (pi_list (pvA 0 (defScope s_q10) N_q10 rfl rfl)) (fun fp0 sx0 Hx0 => (kgTup (K := K) rfl (pg_tup (n := 2) (by rfl) (pgs_cons (pgN (i := 0) (sc := relabelS _ (defScope s_q10)) (M := ["work", "place"]) rfl rfl (by decide +kernel)) (pgs_cons (pgN (i := 1) (sc := relabelS _ (defScope s_q10)) (M := ["work", "place"]) rfl rfl (by decide +kernel)) pgs_nil))))) (fun fp0 sx0 Hx0 => pifs_nil) (fun fp0 sx0 Hx0 => (pvN (i := 0) (sc := relabelS _ (defScope s_q10)) (M := ["work", "place"]) rfl rfl (by decide +kernel)))) (pa_cons (pvA 2 (defScope s_q10) N_q10 rfl rfl) pa_nil))) (pe_one (pe_callN (sc := defScope s_q10) G_q22 (hr.mono (by decide)) rfl (by decide +kernel) T.m_q22 F_q22.kp b_q22 .nil pass0 (pa_cons (pe_comp rfl (N := ["work", "place"]) (own := 2) (js := []) (X := (cxOf CX0 P w K mg base N_q10 "is_dealing" (defScope s_q10) f cdv A outer s H E).nox) (compOk (defScope s_q10) N_q10 rfl rfl (by decide +kernel)) (pi_list (pvA 0 (defScope s_q10) N_q10 rfl rfl)) (fun fp0 sx0 Hx0 => (kgTup (K := K) rfl (pg_tup (n := 2) (by rfl) (pgs_cons (pgN (i := 0) (sc := relabelS _ (defScope s_q10)) (M := ["work", "place"]) rfl rfl (by decide +kernel)) (pgs_cons (pgN (i := 1) (sc := relabelS _ (defScope s_q10)) (M := ["work", "place"]) rfl rfl (by decide +kernel)) pgs_nil))))) (fun fp0 sx0 Hx0 => pifs_nil) (fun fp0 sx0 Hx0 => (pvN (i := 1) (sc := relabelS _ (defScope s_q10)) (M := ["work", "place"]) rfl rfl (by decide +kernel)))) (pa_cons (pvA 1 (defScope s_q10) N_q10 rfl rfl) pa_nil))))))))), ?_⟩
    have hs : sizeLine = 16777216 := sizeLine_eq
    have lx := DataAll.length hA
    rw [List.length_map] at lx
    unfold CP.dealB at q
    refine ⟨_, rfl, pp, xs, ps, rfl, hp, hA, l1, fun H1 s1 => ⟨_, rfl, ite2 (fun h1 => ?_) (fun h1 => ?_)⟩⟩
    · rw [show CP.risingB ps = false by cases e : CP.risingB ps with | true => rw [e] at h1; cases h1 | false => rfl, Bool.false_and] at q
      exact q _ s1
    have h1' : CP.risingB ps = true := by cases e : CP.risingB ps with | true => rfl | false => rw [e] at h1; exact absurd rfl h1
    rw [h1', Bool.true_and] at q
    refine ⟨_, rfl, pp, rfl, ⟨_, s1.seq hp⟩, fun c hc => ?_⟩
    refine comp_idx hc yields_list (fun σ => ∃ v1 v2, σ = [v1, v2, some (.ref po), some (.ref pm)]) ((ps.map fun z => CP.pairB os ms z.1 z.2).map V.bl) (by rw [List.length_map, List.length_map, lx]) ⟨_, _, rfl⟩ (fun H' s' => (s1.trans s').seq hp) (by omega) ?_ ?_
    · rintro i x z σ H2 R1 R0 hx hz ⟨v1, v2, rfl⟩ s2 k1
      obtain ⟨a, t, ha, rfl, et⟩ := CP.pairs_at hA hx
      rw [List.getElem?_map, List.getElem?_map, ha] at hz
      obtain rfl := Option.some.inj hz
      have s3 := s1.trans s2
      exact ⟨t, _, rfl, SqT.of (s3 _ _ et), rfl, _, _, rfl, _, _, rfl, rfl, _, rfl, _, rfl, _, rfl, _, rfl, a.1, a.2, po, pm, os, ms, rfl, s3.seq ho, s3.seq hm, k1 _ _ ⟨_, _, rfl⟩ (Same.refl _)⟩
    intro H2 s2 e2
    refine ⟨c, _, rfl, SqL.of e2, _, rfl, ite2 (fun h2 => ?_) (fun h2 => ?_)⟩
    · have h2' : CP.fitsB ps os ms = false := by cases e : CP.fitsB ps os ms with | true => unfold CP.fitsB at e; rw [e] at h2; cases h2 | false => rfl
      rw [h2', Bool.false_and] at q
      exact q _ (s1.trans s2)
    have h2' : CP.fitsB ps os ms = true := by cases e : CP.fitsB ps os ms with | true => rfl | false => unfold CP.fitsB at e; rw [e] at h2; exact absurd rfl h2
    rw [h2', Bool.true_and] at q
    have s12 := s1.trans s2
    refine ⟨_, rfl, pp, rfl, ⟨_, s12.seq hp⟩, fun c3 hc3 => ?_⟩
    refine comp_idx hc3 yields_list (fun σ => ∃ v1 v2, σ = [v1, v2]) ((ps.map Prod.fst).map V.int) (by rw [List.length_map, List.length_map, lx]) ⟨_, _, rfl⟩ (fun H' s' => (s12.trans s').seq hp) (by omega) ?_ ?_
    · rintro i x z σ H3 R1 R0 hx hz ⟨v1, v2, rfl⟩ s3 k1
      obtain ⟨a, t, ha, rfl, et⟩ := CP.pairs_at hA hx
      rw [List.getElem?_map, List.getElem?_map, ha] at hz
      obtain rfl := Option.some.inj hz
      exact ⟨t, _, rfl, SqT.of ((s12.trans s3) _ _ et), rfl, _, _, rfl, _, _, rfl, rfl, _, rfl, k1 _ _ ⟨_, _, rfl⟩ (Same.refl _)⟩
    intro H3 s3 e3
    have s13 := s12.trans s3
    refine ⟨_, rfl, c3, po, _, os, rfl, SqL.of e3, s13.seq ho, l2, fun H4 s4 => ?_⟩
    have s14 := s13.trans s4
    refine ⟨_, rfl, ite2 (fun h3 => ?_) (fun h3 => ?_)⟩
    · rw [h3, Bool.true_and] at q
      refine ⟨_, rfl, pp, rfl, ⟨_, s14.seq hp⟩, fun c5 hc5 => ?_⟩
      refine comp_idx hc5 yields_list (fun σ => ∃ v1 v2, σ = [v1, v2]) ((ps.map Prod.snd).map V.int) (by rw [List.length_map, List.length_map, lx]) ⟨_, _, rfl⟩ (fun H' s' => (s14.trans s').seq hp) (by omega) ?_ ?_
      · rintro i x z σ H5 R1 R0 hx hz ⟨v1, v2, rfl⟩ s5 k1
        obtain ⟨a, t, ha, rfl, et⟩ := CP.pairs_at hA hx
        rw [List.getElem?_map, List.getElem?_map, ha] at hz
        obtain rfl := Option.some.inj hz
        exact ⟨t, _, rfl, SqT.of ((s14.trans s5) _ _ et), rfl, _, _, rfl, _, _, rfl, rfl, _, rfl, k1 _ _ ⟨_, _, rfl⟩ (Same.refl _)⟩
      intro H5 s5 e5
      have s15 := s14.trans s5
      exact ⟨_, rfl, c5, pw, _, ws, rfl, SqL.of e5, s15.seq hw, l3, fun H6 s6 => q _ (s15.trans s6)⟩
    · have h3' : CP.aboveB (ps.map Prod.fst) os = false := Bool.eq_false_iff.mpr h3
      rw [h3', Bool.false_and] at q
      exact q _ s14
def sp_q24 (K : PySem.W.Frag) : Sp := fun vs H Q _ => ∃ (w : Nat) (pp pm : Addr) (paper ms : List Nat), vs = [.int w, .ref pp, .ref pm] ∧ SqL K H pp (nV paper) ∧ SqL K H pm (nV ms) ∧ (∀ p ∈ paper, p < ms.length) ∧ paper.length ≤ 1000 ∧ ∀ H', Same H H' → Q (.int (CG.fitN paper ms w : Nat)) H'
theorem ok_q24 {f : Addr} {fd fd_q9 : FuncData} (F : Fun K "places_fitted" "places_fitted" s_q24 f fd) (T : Txt K mg a)
    (G_q9 : FnOk P w K mg base CX0 1 a.has fd_q9 ["mask", "number"] (sp_q9 K)) (F_q9 : Fun K "has" "has" s_q9 a.has fd_q9) (b_q9 : Binds K fd_q9 ["mask", "number"] []) : FnOk P w K mg base CX0 2 f fd ["work", "paper", "masks"] (sp_q24 K) := by
  refine F.ok sc_q24 (fun vs H Q E h => ?_) (fun cdv A outer s H vs Q E hr h => ?_)
  · obtain ⟨w, pp, pm, paper, ms, rfl, _⟩ := h
    rfl
  · obtain ⟨wk, pp, pm, paper, ms, rfl, hp, hm, hb, hl, q⟩ := h
    refine ⟨_, (pss_one (ps_ret (pe_callBN (sc := defScope s_q24) call_len rfl (by decide +kernel) T.z_len bt_len (pa_cons (pe_comp rfl (N := ["place", "work", "masks"]) (own := 1) (js := [0, 2]) (X := (cxOf CX0 P w K mg base N_q24 "places_fitted" (defScope s_q24) f cdv A outer s H E).nox) (compOk (defScope s_q24) N_q24 rfl rfl (by decide +kernel)) (pi_list (pvA 1 (defScope s_q24) N_q24 rfl rfl)) (fun fp0 sx0 Hx0 => (pgN (i := 0) (sc := relabelS _ (defScope s_q24)) (M := ["place", "work", "masks"]) rfl rfl (by decide +kernel))) (fun fp0 sx0 Hx0 => (pifs_one (pt_val (pe_callN (sc := relabelS _ (defScope s_q24)) G_q9 (hr.mono (by decide)) rfl (by decide +kernel) T.m_q9 F_q9.kp b_q9 .nil pass0 (pa_cons (pe_ix (kIx (r := rIxL) (K := K) rfl ix_list) (pvN (i := 2) (sc := relabelS _ (defScope s_q24)) (M := ["place", "work", "masks"]) rfl rfl (by decide +kernel)) (pvN (i := 0) (sc := relabelS _ (defScope s_q24)) (M := ["place", "work", "masks"]) rfl rfl (by decide +kernel)) (fun _ _ => rfl)) (pa_cons (pvN (i := 1) (sc := relabelS _ (defScope s_q24)) (M := ["place", "work", "masks"]) rfl rfl (by decide +kernel)) pa_nil)))))) (fun fp0 sx0 Hx0 => (pvN (i := 0) (sc := relabelS _ (defScope s_q24)) (M := ["place", "work", "masks"]) rfl rfl (by decide +kernel)))) pa_nil)))), ?_⟩
    have hs : sizeLine = 16777216 := sizeLine_eq
    refine ⟨_, rfl, pp, rfl, ⟨_, hp⟩, fun c hc => ?_⟩
    refine comp_grow hc yields_list (fun σ => ∃ v, σ = [v, some (.int (wk : Nat)), some (.ref pm)]) (fun x => match x with | .int z => if (ms.getD z.toNat 0).testBit wk then some (.int z) else none | _ => none) ⟨_, rfl⟩ (fun H' s' => s'.seq hp) (by unfold nV; rw [List.length_map]; omega) ?_ ?_
    · rintro x ys σ H' R1 R0 hx ⟨v, rfl⟩ s1 k1 k0
      obtain ⟨p, hp', rfl⟩ := List.mem_map.mp hx
      refine ⟨_, rfl, _, rfl, pm, _, _, _, rfl, rfl, s1.seq hm, nV_at (hb p hp'), _, rfl, _, _, rfl, _, rfl, ?_⟩
      rw [decide_eq_true (show (0 : Int) ≤ (wk : Nat) by omega), Bool.true_and, Int.toNat_natCast]
      refine ite2 (fun h1 => ?_) (fun h1 => ?_)
      · exact ⟨_, rfl, k1 _ _ _ ⟨_, rfl⟩ (if_pos h1) (Same.refl _)⟩
      · exact k0 _ _ ⟨_, rfl⟩ (if_neg h1) (Same.refl _)
    · intro H' s1 e1
      refine ⟨.ref c, CG.fitN paper ms wk, rfl, .inl ⟨_, SqL.of e1, ?_⟩, q H' s1⟩
      unfold CG.fitN nV
      rw [List.filterMap_map]
      clear e1 q hp hb hl
      induction paper with
      | nil => rfl
      | cons p r ih =>
        rw [List.filterMap_cons, List.filter_cons]
        cases h1 : (ms.getD p 0).testBit wk with
        | true =>
          have : ((fun x => match x with | V.int z => if (ms.getD z.toNat 0).testBit wk = true then some (V.int z) else none | _ => none) ∘ fun n : Nat => V.int (n : Nat)) p = some (V.int (p : Nat)) := if_pos h1
          rw [this, if_pos rfl]
          exact congrArg (· + 1) ih
        | false =>
          have : ((fun x => match x with | V.int z => if (ms.getD z.toNat 0).testBit wk = true then some (V.int z) else none | _ => none) ∘ fun n : Nat => V.int (n : Nat)) p = none := if_neg (by rw [Int.toNat_natCast, h1]; decide)
          rw [this, if_neg (by decide)]
          exact ih
def sp_q26 (K : PySem.W.Frag) : Sp := fun vs H Q _ => ∃ (pp pw po pm : Addr) (paper ws os ms : List Nat), vs = [.ref pp, .ref pw, .ref po, .ref pm] ∧ SqL K H pp (nV paper) ∧ SqL K H pw (nV ws) ∧ SqL K H po (nV os) ∧ SqL K H pm (nV ms) ∧ (∀ p ∈ paper, p < ws.length) ∧ ws.length = ms.length ∧ paper.length ≤ 1000 ∧ os.length ≤ 1000 ∧ ∀ H', Same H H' → Q (.int (CG.shownZ paper ws os ms)) H'
theorem ok_q26 {f : Addr} {fd fd_q24 : FuncData} (F : Fun K "shown" "shown" s_q26 f fd) (T : Txt K mg a)
    (G_q24 : FnOk P w K mg base CX0 2 a.places_fitted fd_q24 ["work", "paper", "masks"] (sp_q24 K)) (F_q24 : Fun K "places_fitted" "places_fitted" s_q24 a.places_fitted fd_q24) (b_q24 : Binds K fd_q24 ["work", "paper", "masks"] []) : FnOk P w K mg base CX0 3 f fd ["paper", "wants", "oftens", "masks"] (sp_q26 K) := by
  refine F.ok sc_q26 (fun vs H Q E h => ?_) (fun cdv A outer s H vs Q E hr h => ?_)
  · obtain ⟨pp, pw, po, pm, paper, ws, os, ms, rfl, _⟩ := h
    rfl
  · obtain ⟨pp, pw, po, pm, paper, ws, os, ms, rfl, hp, hw, ho, hm, hb, hlen, hl, hlo, q⟩ := h
    refine ⟨_, (pss_cons (psN (i := 4) (sc := defScope s_q26) (M := N_q26) rfl rfl (by decide +kernel) (pe_callBN (sc := defScope s_q26) (call_sumL rfl) rfl (by decide +kernel) T.z_sum bt_sum (pa_cons (pe_comp rfl (N := ["place", "wants"]) (own := 1) (js := [1]) (X := (cxOf CX0 P w K mg base N_q26 "shown" (defScope s_q26) f cdv A outer s H E).nox) (compOk (defScope s_q26) N_q26 rfl rfl (by decide +kernel)) (pi_list (pvA 0 (defScope s_q26) N_q26 rfl rfl)) (fun fp0 sx0 Hx0 => (pgN (i := 0) (sc := relabelS _ (defScope s_q26)) (M := ["place", "wants"]) rfl rfl (by decide +kernel))) (fun fp0 sx0 Hx0 => pifs_nil) (fun fp0 sx0 Hx0 => (pe_ix (kIx (r := rIxL) (K := K) rfl ix_list) (pvN (i := 1) (sc := relabelS _ (defScope s_q26)) (M := ["place", "wants"]) rfl rfl (by decide +kernel)) (pvN (i := 0) (sc := relabelS _ (defScope s_q26)) (M := ["place", "wants"]) rfl rfl (by decide +kernel)) (fun _ _ => rfl)))) pa_nil)))
      (pss_cons (psN (i := 5) (sc := defScope s_q26) (M := N_q26) rfl rfl (by decide +kernel) (pe_callBN (sc := defScope s_q26) (call_sumL rfl) rfl (by decide +kernel) T.z_sum bt_sum (pa_cons (pe_comp rfl (N := ["work", "often", "paper", "masks"]) (own := 2) (js := [0, 3]) (X := (cxOf CX0 P w K mg base N_q26 "shown" (defScope s_q26) f cdv A outer s H E).nox) (compOk (defScope s_q26) N_q26 rfl rfl (by decide +kernel)) (pi_enum (glR (sc := defScope s_q26) rfl (by decide +kernel)) T.z_enumerate (pa_cons (pvA 2 (defScope s_q26) N_q26 rfl rfl) pa_nil)) (fun fp0 sx0 Hx0 => (kgTup (K := K) rfl (pg_tup (n := 2) (by rfl) (pgs_cons (pgN (i := 0) (sc := relabelS _ (defScope s_q26)) (M := ["work", "often", "paper", "masks"]) rfl rfl (by decide +kernel)) (pgs_cons (pgN (i := 1) (sc := relabelS _ (defScope s_q26)) (M := ["work", "often", "paper", "masks"]) rfl rfl (by decide +kernel)) pgs_nil))))) (fun fp0 sx0 Hx0 => pifs_nil) (fun fp0 sx0 Hx0 => (pe_callBN (sc := relabelS _ (defScope s_q26)) (call_min2 rfl) rfl (by decide +kernel) T.z_min bt_min (pa_cons (pvN (i := 1) (sc := relabelS _ (defScope s_q26)) (M := ["work", "often", "paper", "masks"]) rfl rfl (by decide +kernel)) (pa_cons (pe_callN (sc := relabelS _ (defScope s_q26)) G_q24 (hr.mono (by decide)) rfl (by decide +kernel) T.m_q24 F_q24.kp b_q24 .nil pass0 (pa_cons (pvN (i := 0) (sc := relabelS _ (defScope s_q26)) (M := ["work", "often", "paper", "masks"]) rfl rfl (by decide +kernel)) (pa_cons (pvN (i := 2) (sc := relabelS _ (defScope s_q26)) (M := ["work", "often", "paper", "masks"]) rfl rfl (by decide +kernel)) (pa_cons (pvN (i := 3) (sc := relabelS _ (defScope s_q26)) (M := ["work", "often", "paper", "masks"]) rfl rfl (by decide +kernel)) pa_nil)))) pa_nil))))) pa_nil)))
      (pss_one (ps_ret (pe_op op_sub (pvA 4 (defScope s_q26) N_q26 rfl rfl) (pvA 5 (defScope s_q26) N_q26 rfl rfl)))))), ?_⟩
    have hs : sizeLine = 16777216 := sizeLine_eq
    refine ⟨_, rfl, pp, rfl, ⟨_, hp⟩, fun c hc => ?_⟩
    refine comp_grow hc yields_list (fun σ => ∃ v, σ = [v, some (.ref pw)]) (fun x => match x with | .int z => some (.int (ws.getD z.toNat 0 : Nat)) | _ => none) ⟨_, rfl⟩ (fun H' s' => s'.seq hp) (by unfold nV; rw [List.length_map]; omega) ?_ ?_
    · rintro x ys σ H' R1 R0 hx ⟨v, rfl⟩ s1 k1 k0
      obtain ⟨p, hp', rfl⟩ := List.mem_map.mp hx
      exact ⟨_, rfl, _, rfl, pw, _, _, _, rfl, rfl, s1.seq hw, nV_at (hb p hp'), k1 _ _ _ ⟨_, rfl⟩ rfl (Same.refl _)⟩
    intro H1 s1 e1
    have e1' : (nV paper).filterMap (fun x => match x with | V.int z => some (V.int (ws.getD z.toNat 0 : Nat)) | _ => none) = (paper.map fun p => ((ws.getD p 0 : Nat) : Int)).map V.int := by
      clear e1 q hp hb hl
      induction paper with
      | nil => rfl
      | cons p r ih => exact congrArg (V.int (ws.getD p 0 : Nat) :: ·) ih
    rw [e1'] at e1
    refine ⟨c, _, rfl, SqL.of e1, ?_⟩
    rw [L7.preSum_all]
    refine ⟨_, rfl, po, rfl, ⟨_, s1.seq ho⟩, fun c2 hc2 => ?_⟩
    refine L5.comp_enum hc2 (fun H' s' => (s1.trans s').seq ho) (fun σ => ∃ v1 v2, σ = [v1, v2, some (.ref pp), some (.ref pm)]) (fun i _ => some (.int ((min (os.getD i 0) (CG.fitN paper ms i) : Nat) : Int))) ⟨_, _, rfl⟩ (by unfold nV; rw [List.length_map]; omega) ?_ ?_
    · rintro i y σ H2 T R1 R0 hy ⟨v1, v2, rfl⟩ s2 hT k1 k0
      unfold nV at hy
      rw [List.getElem?_map] at hy
      obtain ⟨o, ho', rfl⟩ := Option.map_eq_some_iff.mp hy
      have s3 := s2.trans (Same.upd0 (o := .tup [.int (0 + (i : Nat)), .int (o : Nat)]) hT)
      have s13 := s1.trans s3
      rw [show (0 : Int) + (i : Nat) = (i : Nat) by omega] at s3 s13 ⊢
      refine ⟨T, _, rfl, SqT.of upd_same, rfl, _, _, rfl, _, _, rfl, rfl, _, rfl, _, rfl, _, rfl, _, rfl, i, pp, pm, paper, ms, rfl, s13.seq hp, s13.seq hm, fun p z => hlen ▸ hb p z, hl, fun H4 s4 => ⟨_, _, rfl, k1 _ _ _ ⟨_, _, rfl⟩ ?_ ((Same.upd0 hT).trans s4)⟩⟩
      rw [CG.getD_of ho']
      congr 2
      split <;> omega
    · intro H2 s2 e2
      have e2' : enumF (fun i _ => some (V.int ((min (os.getD i 0) (CG.fitN paper ms i) : Nat) : Int))) (nV os) (nV os).length = ((List.range os.length).map fun i => ((min (os.getD i 0) (CG.fitN paper ms i) : Nat) : Int)).map V.int := by
        unfold enumF nV
        rw [List.length_map, List.map_map]
        refine CG.filterMap_some fun i hi => ?_
        rw [List.getElem?_map, List.getElem?_eq_getElem (List.mem_range.mp hi)]
        rfl
      rw [e2'] at e2
      refine ⟨c2, _, rfl, SqL.of e2, ?_⟩
      rw [L7.preSum_all]
      exact ⟨_, rfl, _, rfl, _, _, rfl, rfl, q H2 (s1.trans s2)⟩
def mixZ (c k : Int) : Int := (c % 2147483647 + 31 * k + 1) * 48271 * (c % 2147483647 + 3 * k + 7) % 2147483629
theorem mix0 (c k : Int) : 0 ≤ mixZ c k := Int.emod_nonneg _ (by decide)
def sp_q16 (_ : PySem.W.Frag) : Sp := fun vs H Q _ => ∃ c k : Int, vs = [.int c, .int k] ∧ 0 ≤ k ∧ k ≤ 1000 ∧ Q (.int (mixZ c k)) H
theorem ok_q16 {f : Addr} {fd : FuncData} (F : Fun K "_law_mixed" "_law_mixed" s_q16 f fd) (T : Txt K mg a) : FnOk P w K mg base CX0 1 f fd ["_law_cell", "_law_k"] (sp_q16 K) := by
  refine F.ok sc_q16 (fun vs H Q E h => ?_) (fun cdv A outer s H vs Q E hr h => ?_)
  · obtain ⟨c, k, rfl, _⟩ := h
    rfl
  · obtain ⟨c, k, rfl, h0, h1, q⟩ := h
    refine ⟨_, (pss_cons (psN (i := 2) (sc := defScope s_q16) (M := N_q16) rfl rfl (by decide +kernel) (pe_op op_mod (pvA 0 (defScope s_q16) N_q16 rfl rfl) pe_int))
      (pss_one (ps_ret (pe_op op_mod (pe_op op_mul (pe_op op_mul (pe_op op_add (pe_op op_add (pvA 2 (defScope s_q16) N_q16 rfl rfl) (pe_op op_mul pe_int (pvA 1 (defScope s_q16) N_q16 rfl rfl))) pe_int) pe_int) (pe_op op_add (pe_op op_add (pvA 2 (defScope s_q16) N_q16 rfl rfl) (pe_op op_mul pe_int (pvA 1 (defScope s_q16) N_q16 rfl rfl))) pe_int)) pe_int)))), ?_⟩
    have a0 : 0 ≤ c % 2147483647 := Int.emod_nonneg _ (by decide)
    have a1 : c % 2147483647 < 2147483647 := Int.emod_lt_of_pos _ (by decide)
    refine ⟨_, rfl, _, _, rfl, rfl, (by show (0 : Int) < 2147483647; decide), ?_⟩
    refine ⟨_, rfl, _, rfl, _, _, rfl, rfl, .inl ⟨by decide, by decide⟩, _, _, rfl, rfl, _, _, rfl, rfl, _, _, rfl, rfl, .inr ⟨by decide, by decide⟩, ?_⟩
    refine ⟨_, rfl, _, rfl, _, _, rfl, rfl, .inl ⟨by decide, by decide⟩, _, _, rfl, rfl, _, _, rfl, rfl, _, _, rfl, rfl, .inr ⟨?_, ?_⟩, ?_⟩
    · show (-(2 ^ 64) : Int) < c % 2147483647 + 3 * k + 7
      omega
    · show c % 2147483647 + 3 * k + 7 < (2 ^ 64 : Int)
      omega
    exact ⟨_, _, rfl, rfl, (by show (0 : Int) < 2147483629; decide), q⟩
def sp_q14 (K : PySem.W.Frag) : Sp := fun vs H Q _ => ∃ (p : Addr) (ms : List Nat) (w k m : Nat), vs = [.ref p, .int w, .int k] ∧ SqL K H p (nV ms) ∧ ms[k]? = some m ∧ Q (.bl (m.testBit w)) H
theorem ok_q14 {f : Addr} {fd : FuncData} (F : Fun K "_law_fit" "_law_fit" s_q14 f fd) (T : Txt K mg a) : FnOk P w K mg base CX0 1 f fd ["_law_masks", "_law_work", "_law_place"] (sp_q14 K) := by
  refine F.ok sc_q14 (fun vs H Q E h => ?_) (fun cdv A outer s H vs Q E hr h => ?_)
  · obtain ⟨p, ms, w, k, m, rfl, _⟩ := h
    rfl
  · obtain ⟨p, ms, w, k, m, rfl, hp, hm, q⟩ := h
    refine ⟨_, (pss_one (ps_ret (pe_cmpR op_eq (pe_op op_mod (pe_op op_shr (pe_ix ix_list (pvA 0 (defScope s_q14) N_q14 rfl rfl) (pvA 2 (defScope s_q14) N_q14 rfl rfl) (fun _ _ => rfl)) (pvA 1 (defScope s_q14) N_q14 rfl rfl)) pe_int) pe_int (nomark _)))), ?_⟩
    refine ⟨_, rfl, _, rfl, p, _, _, _, rfl, rfl, hp, atI_nat (by unfold nV; rw [List.getElem?_map, hm]; rfl), _, rfl, _, _, rfl, rfl, (by show (0 : Int) ≤ (w : Nat); omega), _, _, rfl, rfl, (by show (0 : Int) < 2; decide), rfl, ?_⟩
    have e : m.testBit w = decide (V.int (((m : Nat) : Int) / 2 ^ ((w : Nat) : Int).toNat % 2) = V.int 1) := by
      rw [Int.toNat_natCast, Bool.eq_iff_iff, decide_eq_true_eq, ← CG.bit_mod]
      exact ⟨fun z => by rw [z], fun z => V.int.inj z⟩
    rw [e] at q
    exact q
def sp_q15 (K : PySem.W.Frag) : Sp := fun vs H Q _ => ∃ (a : Addr) (ns : List Int) (most : Nat), vs = [.ref a, .int most] ∧ SqL K H a (ns.map V.int) ∧ ns.length ≤ 63 ∧ most ≤ 63 ∧ ∀ (ws os ms : List Nat) H' t pw po pm, Same H H' → CG.Good most ws os ms → H' t = some (.tup [.ref pw, .ref po, .ref pm]) → H' pw = some (.lst (nV ws)) → H' po = some (.lst (nV os)) → H' pm = some (.lst (nV ms)) → Q (.ref t) H'
theorem ok_q15 {f : Addr} {fd fd_q13 fd_q16 : FuncData} (F : Fun K "_law_ground" "_law_ground" s_q15 f fd) (T : Txt K mg a)
    (G_q13 : FnOk P w K mg base CX0 1 a.law_cell_at fd_q13 ["_law_script", "_law_k"] (sp_q13 K)) (F_q13 : Fun K "_law_cell_at" "_law_cell_at" s_q13 a.law_cell_at fd_q13) (b_q13 : Binds K fd_q13 ["_law_script", "_law_k"] [])
    (G_q16 : FnOk P w K mg base CX0 1 a.law_mixed fd_q16 ["_law_cell", "_law_k"] (sp_q16 K)) (F_q16 : Fun K "_law_mixed" "_law_mixed" s_q16 a.law_mixed fd_q16) (b_q16 : Binds K fd_q16 ["_law_cell", "_law_k"] []) : FnOk P w K mg base CX0 2 f fd ["_law_script", "_law_most"] (sp_q15 K) := by
  refine F.ok sc_q15 (fun vs H Q E h => ?_) (fun cdv A outer s H vs Q E hr h => ?_)
  · obtain ⟨a, ns, most, rfl, _⟩ := h
    rfl
  · obtain ⟨ad, ns, most, rfl, hS, hl, hmost, q⟩ := h
    refine ⟨_, (pss_cons (psN (i := 2) (sc := defScope s_q15) (M := N_q15) rfl rfl (by decide +kernel) (pe_op op_add pe_int (pe_op op_mod (pe_callN (sc := defScope s_q15) G_q13 (hr.mono (by decide)) rfl (by decide +kernel) T.m_q13 F_q13.kp b_q13 .nil pass0 (pa_cons (pvA 0 (defScope s_q15) N_q15 rfl rfl) (pa_cons pe_int pa_nil))) pe_int)))
      (pss_cons (psN (i := 3) (sc := defScope s_q15) (M := N_q15) rfl rfl (by decide +kernel) (pe_lst pa_nil))
      (pss_cons (ps_for PassesOwn.never rfl (pi_range1 (glR (sc := defScope s_q15) rfl (by decide +kernel)) T.z_range (pa_cons (pvA 2 (defScope s_q15) N_q15 rfl rfl) pa_nil)) (pgN (i := 4) (sc := defScope s_q15) (M := N_q15) rfl rfl (by decide +kernel)) (pss_cons (psN (i := 5) (sc := defScope s_q15) (M := N_q15) rfl rfl (by decide +kernel) (pe_op op_fdiv (pe_callN (sc := defScope s_q15) G_q16 (hr.mono (by decide)) rfl (by decide +kernel) T.m_q16 F_q16.kp b_q16 .nil pass0 (pa_cons (pe_callN (sc := defScope s_q15) G_q13 (hr.mono (by decide)) rfl (by decide +kernel) T.m_q13 F_q13.kp b_q13 .nil pass0 (pa_cons (pvA 0 (defScope s_q15) N_q15 rfl rfl) (pa_cons pe_int pa_nil))) (pa_cons (pvA 4 (defScope s_q15) N_q15 rfl rfl) pa_nil))) pe_int))
      (pss_cons (ps_expr (pe_bm PySem.F.plainAttrs_list PySem.F.slot_list_append PySem.F.type_list_append mt_append (pvA 3 (defScope s_q15) N_q15 rfl rfl) (pa_cons (pe_op op_mod (pvA 5 (defScope s_q15) N_q15 rfl rfl) pe_int) pa_nil)))
      (pss_one (ps_if (PW.pt (pw_and (pt_cmpR op_eq (pvA 4 (defScope s_q15) N_q15 rfl rfl) pe_int (nomark _)) (pw_and1 (pt_cmpR op_eq (pe_op op_mod (pe_op op_fdiv (pvA 5 (defScope s_q15) N_q15 rfl rfl) pe_int) pe_int) pe_int (nomark _))))) (pss_one (ps_asg (pe_op op_mod (pe_op op_fdiv (pvA 5 (defScope s_q15) N_q15 rfl rfl) pe_int) pe_int) (pg_sub (pvA 3 (defScope s_q15) N_q15 rfl rfl) (pvA 4 (defScope s_q15) N_q15 rfl rfl) set_list))) pss_nil)))))
      (pss_cons (psN (i := 6) (sc := defScope s_q15) (M := N_q15) rfl rfl (by decide +kernel) (pe_lst pa_nil))
      (pss_cons (psN (i := 7) (sc := defScope s_q15) (M := N_q15) rfl rfl (by decide +kernel) (pe_op op_rep (pe_lst (pa_cons pe_int pa_nil)) (pvA 2 (defScope s_q15) N_q15 rfl rfl)))
      (pss_cons (ps_for PassesOwn.never rfl (pi_list (pe_slice sl_list (pvA 0 (defScope s_q15) N_q15 rfl rfl) (po_some pe_int) (po_some (pe_op op_add pe_int (pvA 1 (defScope s_q15) N_q15 rfl rfl))))) (pgN (i := 8) (sc := defScope s_q15) (M := N_q15) rfl rfl (by decide +kernel)) (pss_cons (psN (i := 9) (sc := defScope s_q15) (M := N_q15) rfl rfl (by decide +kernel) (pe_op op_shl pe_int (pe_callBN (sc := defScope s_q15) call_len rfl (by decide +kernel) T.z_len bt_len (pa_cons (pvA 6 (defScope s_q15) N_q15 rfl rfl) pa_nil))))
      (pss_cons (ps_expr (pe_bm PySem.F.plainAttrs_list PySem.F.slot_list_append PySem.F.type_list_append mt_append (pvA 6 (defScope s_q15) N_q15 rfl rfl) (pa_cons (pe_op op_add pe_int (pe_op op_mod (pe_op op_fdiv (pe_callN (sc := defScope s_q15) G_q16 (hr.mono (by decide)) rfl (by decide +kernel) T.m_q16 F_q16.kp b_q16 .nil pass0 (pa_cons (pvA 8 (defScope s_q15) N_q15 rfl rfl) (pa_cons pe_int pa_nil))) pe_int) pe_int)) pa_nil)))
      (pss_cut (ps_if (pt_cmpR op_eq (pe_op op_mod (pe_op op_fdiv (pe_callN (sc := defScope s_q15) G_q16 (hr.mono (by decide)) rfl (by decide +kernel) T.m_q16 F_q16.kp b_q16 .nil pass0 (pa_cons (pvA 8 (defScope s_q15) N_q15 rfl rfl) (pa_cons pe_int pa_nil))) pe_int) pe_int) pe_int (nomark _)) (pss_one (ps_asg (pe_op op_add pe_int (pe_op op_mod (pe_op op_fdiv (pe_callN (sc := defScope s_q15) G_q16 (hr.mono (by decide)) rfl (by decide +kernel) T.m_q16 F_q16.kp b_q16 .nil pass0 (pa_cons (pvA 8 (defScope s_q15) N_q15 rfl rfl) (pa_cons pe_int pa_nil))) pe_int) pe_int)) (pg_sub (pvA 6 (defScope s_q15) N_q15 rfl rfl) (pe_un un_neg pe_int) set_list))) pss_nil)
      (pss_cons (psN (i := 10) (sc := defScope s_q15) (M := N_q15) rfl rfl (by decide +kernel) (pe_op op_fdiv (pe_callN (sc := defScope s_q15) G_q16 (hr.mono (by decide)) rfl (by decide +kernel) T.m_q16 F_q16.kp b_q16 .nil pass0 (pa_cons (pvA 8 (defScope s_q15) N_q15 rfl rfl) (pa_cons pe_int pa_nil))) pe_int))
      (pss_one (ps_for PassesOwn.never rfl (pi_range1 (glR (sc := defScope s_q15) rfl (by decide +kernel)) T.z_range (pa_cons (pvA 2 (defScope s_q15) N_q15 rfl rfl) pa_nil)) (pgN (i := 4) (sc := defScope s_q15) (M := N_q15) rfl rfl (by decide +kernel)) (pss_cons (ps_asg (pe_op op_add (pe_ix ix_list (pvA 7 (defScope s_q15) N_q15 rfl rfl) (pvA 4 (defScope s_q15) N_q15 rfl rfl) (fun _ _ => rfl)) (pe_op op_mul (pvA 9 (defScope s_q15) N_q15 rfl rfl) (pe_op op_mod (pvA 10 (defScope s_q15) N_q15 rfl rfl) pe_int))) (pg_sub (pvA 7 (defScope s_q15) N_q15 rfl rfl) (pvA 4 (defScope s_q15) N_q15 rfl rfl) set_list))
      (pss_one (psN (i := 10) (sc := defScope s_q15) (M := N_q15) rfl rfl (by decide +kernel) (pe_op op_fdiv (pvA 10 (defScope s_q15) N_q15 rfl rfl) pe_int)))))))))))
      (pss_one (ps_ret (pe_tup (pa_cons (pvA 3 (defScope s_q15) N_q15 rfl rfl) (pa_cons (pvA 6 (defScope s_q15) N_q15 rfl rfl) (pa_cons (pvA 7 (defScope s_q15) N_q15 rfl rfl) pa_nil)))))))))))), ?_⟩
    have hs : sizeLine = 16777216 := sizeLine_eq
    refine ⟨_, rfl, ad, ns, 0, rfl, hS, hl, by decide, _, _, rfl, rfl, (by show (0 : Int) < 6; decide), _, _, rfl, rfl, ?_⟩
    obtain ⟨pl, hpl⟩ : ∃ pl : Nat, 1 + cellZ ns 0 % 6 = (pl : Int) := ⟨(1 + cellZ ns 0 % 6).toNat, by omega⟩
    have hpl1 : 1 ≤ pl := by omega
    have hpl6 : pl ≤ 6 := by omega
    rw [show (fun i j : Int => V.int (i + j)) 1 (cellZ ns 0 % 6) = V.int (pl : Nat) from congrArg V.int hpl]
    refine ⟨by first | decide | (simp only [List.length_cons, List.length_nil, List.length_append, List.length_map]; decide), fun pw hpw => ?_⟩
    have s1 := Same.upd0 (o := .lst []) hpw
    refine ⟨_, rfl, _, rfl, by omega, by omega, ?_⟩
    rw [Int.toNat_natCast]
    refine for_range (fun i σ H' => (∃ v1 v2, σ = [some (.ref ad), some (.int most), some (.int (pl : Nat)), some (.ref pw), v1, v2, none, none, none, none, none]) ∧ Same H H' ∧ ∃ ws : List Nat, ws.length = i ∧ (∀ w ∈ ws, w ≤ 60) ∧ (∀ (k w : Nat), ws[k]? = some w → 1 ≤ k → w ≤ 3) ∧ H' pw = some (.lst (nV ws))) ⟨⟨_, _, rfl⟩, s1, [], rfl, (fun _ h => nomatch h), (fun _ _ h => nomatch h), upd_same⟩ ?_ ?_
    · rintro i σ H' hi ⟨⟨v1, v2, rfl⟩, sx, ws, lw, bw, tw, ew⟩
      rw [show (0 : Int) + (i : Nat) = (i : Nat) by omega]
      refine ⟨_, rfl, ad, ns, 1, rfl, sx.seq hS, hl, by decide, _, rfl, _, _, rfl, by omega, by omega, _, _, rfl, rfl, ⟨by decide, by decide⟩, ?_⟩
      obtain ⟨sm, hsm⟩ : ∃ sm : Nat, mixZ (cellZ ns 1) i / 3 = (sm : Int) := ⟨(mixZ (cellZ ns 1) i / 3).toNat, by have := mix0 (cellZ ns 1) i; omega⟩
      rw [show (fun i j : Int => V.int (i / j)) (mixZ (cellZ ns 1) i) 3 = V.int (sm : Nat) from congrArg V.int hsm]
      obtain ⟨r4, hr4⟩ : ∃ r : Nat, (sm : Int) % 4 = (r : Int) := ⟨((sm : Int) % 4).toNat, by omega⟩
      refine ⟨_, rfl, .inl ⟨rfl, _, SqL.of ew⟩, _, rfl, _, _, rfl, rfl, (by show (0 : Int) < 4; decide), pw, _, _, rfl, rfl, ew, (by unfold nV; rw [List.length_map]; omega), ?_⟩
      rw [show (fun i j : Int => V.int (i % j)) (sm : Nat) 4 = V.int (r4 : Nat) from congrArg V.int hr4, show nV ws ++ [V.int (r4 : Nat)] = nV (ws ++ [r4]) by unfold nV; rw [List.map_append]; rfl]
      have sx2 : Same H (upd H' pw (.lst (nV (ws ++ [r4])))) := same_set sx hpw
      have done : ∃ ws' : List Nat, ws'.length = i + 1 ∧ (∀ w ∈ ws', w ≤ 60) ∧ (∀ (k w : Nat), ws'[k]? = some w → 1 ≤ k → w ≤ 3) ∧ upd H' pw (.lst (nV (ws ++ [r4]))) pw = some (.lst (nV ws')) :=
        ⟨ws ++ [r4], by rw [List.length_append, lw]; rfl, fun x hx => by
          rcases List.mem_append.mp hx with h | h
          · exact bw x h
          · rw [List.mem_singleton.mp h]; omega, fun k x hk h1 => by
          by_cases hkl : k < ws.length
          · rw [List.getElem?_append_left hkl] at hk
            exact tw k x hk h1
          · rw [List.getElem?_append_right (by omega)] at hk
            have hlt := (List.getElem?_eq_some_iff.mp hk).1
            rw [List.length_singleton] at hlt
            rw [show k - ws.length = 0 by omega] at hk
            obtain rfl := Option.some.inj hk
            omega, upd_same⟩
      refine ⟨_, rfl, rfl, _, rfl, ite2 (fun h0 => ?_) (fun h0 => ⟨⟨_, _, rfl⟩, sx2, done⟩)⟩
      refine ⟨_, rfl, _, _, rfl, rfl, ⟨by decide, by decide⟩, _, _, rfl, rfl, (by show (0 : Int) < 9; decide), rfl, _, rfl, ite2 (fun h1 => ?_) (fun h1 => ⟨⟨_, _, rfl⟩, sx2, done⟩)⟩
      have h0' := V.int.inj (of_decide_eq_true h0)
      obtain rfl : i = 0 := by omega
      obtain rfl : ws = [] := List.eq_nil_of_length_eq_zero lw
      obtain ⟨r5, hr5⟩ : ∃ r : Nat, (sm : Int) / 36 % 61 = (r : Int) := ⟨((sm : Int) / 36 % 61).toNat, by omega⟩
      refine ⟨_, rfl, _, _, rfl, rfl, ⟨by decide, by decide⟩, _, _, rfl, rfl, (by show (0 : Int) < 61; decide), _, rfl, _, rfl, pw, _, _, 0, rfl, rfl, upd_same, rfl, ⟨_, _, rfl⟩, same_set sx2 hpw, [r5], rfl, (fun x hx => by rw [List.mem_singleton.mp hx]; omega), (fun k x hk h1 => by cases k with | zero => omega | succ k => cases hk), ?_⟩
      rw [upd_same, show (fun i j : Int => V.int (i % j)) ((sm : Int) / 36) 61 = V.int (r5 : Nat) from congrArg V.int hr5]
      rfl
    rintro σ H1 ⟨⟨v1, v2, rfl⟩, sH1, ws, lw, bw, tw, ew⟩
    refine ⟨by first | decide | (simp only [List.length_cons, List.length_nil, List.length_append, List.length_map]; decide), fun po hpo => ?_⟩
    have s2 := Same.upd0 (o := .lst []) hpo
    have ew2 := s2 _ _ ew
    have eo2 : upd H1 po (.lst []) po = some (.lst []) := upd_same
    have sH2 := sH1.trans s2
    have npo := sH1.free hpo
    generalize upd H1 po (.lst []) = H2 at s2 ew2 eo2 sH2 ⊢
    refine ⟨by first | decide | (simp only [List.length_cons, List.length_nil, List.length_append, List.length_map]; decide), fun pz hpz => ⟨_, rfl, pz, _, _, rfl, rfl, upd_same, by omega, by omega, ?_, fun pm hpm => ?_⟩⟩
    · rw [Int.toNat_natCast]
      show 1 * pl ≤ sizeLine
      omega
    rw [Int.toNat_natCast, rep_zero]
    have s3 := (Same.upd0 (o := .lst [.int 0]) hpz).trans (Same.upd0 (o := .lst (nV (List.replicate pl 0))) hpm)
    have npm2 : H2 pm = none := (Same.upd0 (o := .lst [.int 0]) hpz).free hpm
    have em3 : upd (upd H2 pz (.lst [.int 0])) pm (.lst (nV (List.replicate pl 0))) pm = some (.lst (nV (List.replicate pl 0))) := upd_same
    have ew3 := s3 _ _ ew2
    have eo3 := s3 _ _ eo2
    have sH3 := sH2.trans s3
    have npm := sH2.free npm2
    have nom : po ≠ pm := ne_of_none eo2 npm2
    have nwm : pw ≠ pm := ne_of_none ew2 npm2
    have nwo : pw ≠ po := ne_of_none ew hpo
    generalize upd (upd H2 pz (.lst [.int 0])) pm (.lst (nV (List.replicate pl 0))) = H3 at s3 em3 ew3 eo3 sH3 ⊢
    clear hpz s3 s2 eo2 ew2 sH2 sH1 npm2 s1 hpm
    refine ⟨_, rfl, _, rfl, _, rfl, _, _, rfl, rfl, _, rfl, ad, _, rfl, sH3.seq hS, fun p2 hp2 => ⟨p2, rfl, ⟨_, SqL.of upd_same⟩, ?_⟩⟩
    obtain ⟨zs, hzs⟩ : ∃ zs, zs = (ns.drop 3).take most := ⟨_, rfl⟩
    have lzs : zs.length ≤ most := by rw [hzs, List.length_take]; omega
    have ec : cutV (ns.map V.int) (some 3) (some (3 + (most : Nat))) = zs.map V.int := by
      have := cut_both (xs := ns.map V.int) 3 (3 + most)
      rw [show ((3 + most : Nat) : Int) = 3 + (most : Nat) by omega, show 3 + most - 3 = most by omega] at this
      rw [hzs, List.map_take, List.map_drop]
      exact this
    rw [ec]
    have sH4 := sH3.trans (Same.upd0 (o := .lst (zs.map V.int)) hp2)
    have ew4 := Same.upd0 (o := .lst (zs.map V.int)) hp2 _ _ ew3
    have eo4 := Same.upd0 (o := .lst (zs.map V.int)) hp2 _ _ eo3
    have em4 := Same.upd0 (o := .lst (zs.map V.int)) hp2 _ _ em3
    have e24 : upd H3 p2 (.lst (zs.map V.int)) p2 = some (.lst (zs.map V.int)) := upd_same
    have n2o : p2 ≠ po := (ne_of_none eo3 hp2).symm
    have n2m : p2 ≠ pm := (ne_of_none em3 hp2).symm
    generalize upd H3 p2 (.lst (zs.map V.int)) = H4 at sH4 ew4 eo4 em4 e24 ⊢
    clear sH3 ew3 eo3 em3 hp2 ec
    refine for_list (xs := zs.map V.int) (fun i σ H' => (∃ u1 u2 u3 u4 u5, σ = [some (.ref ad), some (.int most), some (.int (pl : Nat)), some (.ref pw), u1, u2, some (.ref po), some (.ref pm), u3, u4, u5]) ∧ Same H H' ∧ H' pw = some (.lst (nV ws)) ∧ H' p2 = some (.lst (zs.map V.int)) ∧ ∃ os ms : List Nat, os.length = i ∧ ms.length = pl ∧ (∀ o ∈ os, 1 ≤ o ∧ o ≤ 9) ∧ (∀ m ∈ ms, m < 2 ^ os.length) ∧ H' po = some (.lst (nV os)) ∧ H' pm = some (.lst (nV ms))) ⟨⟨_, _, _, _, _, rfl⟩, sH4, ew4, e24, [], List.replicate pl 0, rfl, List.length_replicate, (fun _ h => nomatch h), (fun m hm => by rw [List.eq_of_mem_replicate hm]; decide), eo4, em4⟩ ?_ ?_ ?_
    · rintro i σ H' _ ⟨_, _, _, e, _⟩
      exact SqL.of e
    · rintro i x σ H5 hx ⟨⟨u1, u2, u3, u4, u5, rfl⟩, sH5, ew5, e25, os, ms, lo, lm, bo, bm, eo5, em5⟩
      rw [List.getElem?_map] at hx
      obtain ⟨z, hz, rfl⟩ := Option.map_eq_some_iff.mp hx
      have hi : i < zs.length := (List.getElem?_eq_some_iff.mp hz).1
      refine ⟨_, rfl, .ref po, os.length, rfl, .inl ⟨_, SqL.of eo5, by unfold nV; rw [List.length_map]⟩, _, _, rfl, rfl, ⟨by omega, by omega, by decide⟩, ?_⟩
      rw [show (fun i j : Int => V.int (i * 2 ^ j.toNat)) 1 (os.length : Nat) = V.int ((2 ^ os.length : Nat) : Int) by show V.int (1 * 2 ^ ((os.length : Nat) : Int).toNat) = _; rw [Int.one_mul, Int.toNat_natCast, CB.pow_cast]]
      obtain ⟨o1, ho1⟩ : ∃ o : Nat, 1 + mixZ z 2 / 5 % 3 = (o : Int) := ⟨(1 + mixZ z 2 / 5 % 3).toNat, by omega⟩
      refine ⟨_, rfl, .inl ⟨rfl, _, SqL.of eo5⟩, _, rfl, z, 2, rfl, by decide, by decide, _, _, rfl, rfl, ⟨by decide, by decide⟩, _, _, rfl, rfl, (by show (0 : Int) < 3; decide), _, _, rfl, rfl, po, _, _, rfl, rfl, eo5, (by rw [nV_len]; omega), ?_⟩
      rw [show (fun i j : Int => V.int (i + j)) 1 (mixZ z 2 / 5 % 3) = V.int (o1 : Nat) from congrArg V.int ho1, nV_snoc]
      have bo1 : ∀ o ∈ os ++ [o1], 1 ≤ o ∧ o ≤ 9 := fun x hx => by
        rcases List.mem_append.mp hx with h | h
        · exact bo x h
        · rw [List.mem_singleton.mp h]; omega
      have sH6 : Same H (upd H5 po (.lst (nV (os ++ [o1])))) := same_set sH5 npo
      have ew6 : upd H5 po (.lst (nV (os ++ [o1]))) pw = some (.lst (nV ws)) := (upd_ne nwo).trans ew5
      have e26 : upd H5 po (.lst (nV (os ++ [o1]))) p2 = some (.lst (zs.map V.int)) := (upd_ne n2o).trans e25
      have em6 : upd H5 po (.lst (nV (os ++ [o1]))) pm = some (.lst (nV ms)) := (upd_ne nom.symm).trans em5
      have eo6 : upd H5 po (.lst (nV (os ++ [o1]))) po = some (.lst (nV (os ++ [o1]))) := upd_same
      generalize upd H5 po (.lst (nV (os ++ [o1]))) = H6 at sH6 ew6 e26 em6 eo6 ⊢
      refine ⟨fun σ' H' => (∃ u5, σ' = [some (.ref ad), some (.int most), some (.int (pl : Nat)), some (.ref pw), u1, u2, some (.ref po), some (.ref pm), some (.int z), some (.int ((2 ^ os.length : Nat) : Int)), u5]) ∧ Same H H' ∧ H' pw = some (.lst (nV ws)) ∧ H' p2 = some (.lst (zs.map V.int)) ∧ H' pm = some (.lst (nV ms)) ∧ ∃ os' : List Nat, os'.length = os.length + 1 ∧ (∀ o ∈ os', 1 ≤ o ∧ o ≤ 9) ∧ H' po = some (.lst (nV os')), ?_, ?_⟩
      · refine ⟨_, rfl, z, 3, rfl, by decide, by decide, _, _, rfl, rfl, ⟨by decide, by decide⟩, _, _, rfl, rfl, (by show (0 : Int) < 8; decide), rfl, _, rfl, ite2 (fun h1 => ?_) (fun h1 => ⟨⟨_, rfl⟩, sH6, ew6, e26, em6, os ++ [o1], by rw [List.length_append]; rfl, bo1, eo6⟩)⟩
        obtain ⟨o2, ho2⟩ : ∃ o : Nat, 1 + mixZ z 4 / 5 % 9 = (o : Int) := ⟨(1 + mixZ z 4 / 5 % 9).toNat, by omega⟩
        refine ⟨_, rfl, z, 4, rfl, by decide, by decide, _, _, rfl, rfl, ⟨by decide, by decide⟩, _, _, rfl, rfl, (by show (0 : Int) < 9; decide), _, _, rfl, rfl, _, rfl, _, rfl, po, _, _, os.length, rfl, rfl, eo6, by rw [nV_len, List.length_append]; exact ixN_last _, ?_⟩
        rw [show (fun i j : Int => V.int (i + j)) 1 (mixZ z 4 / 5 % 9) = V.int (o2 : Nat) from congrArg V.int ho2, nV_set]
        refine ⟨⟨_, rfl⟩, same_set sH6 npo, (upd_ne nwo).trans ew6, (upd_ne n2o).trans e26, (upd_ne nom.symm).trans em6, _, by rw [List.length_set, List.length_append]; rfl, fun x hx => ?_, upd_same⟩
        rcases List.mem_or_eq_of_mem_set hx with h | h
        · exact bo1 x h
        · rw [h]; omega
      rintro σ' H7 ⟨⟨u6, rfl⟩, sH7, ew7, e27, em7, os', lo', bo', eo7⟩
      refine ⟨_, rfl, z, 1, rfl, by decide, by decide, _, _, rfl, rfl, ⟨by decide, by decide⟩, ?_⟩
      refine ⟨_, rfl, _, rfl, by omega, by omega, ?_⟩
      rw [Int.toNat_natCast]
      refine for_range (fun j σ H' => (∃ v1 l, σ = [some (.ref ad), some (.int most), some (.int (pl : Nat)), some (.ref pw), v1, u2, some (.ref po), some (.ref pm), some (.int z), some (.int ((2 ^ os.length : Nat) : Int)), some (.int l)]) ∧ Same H H' ∧ H' pw = some (.lst (nV ws)) ∧ H' p2 = some (.lst (zs.map V.int)) ∧ H' po = some (.lst (nV os')) ∧ ∃ ms' : List Nat, ms'.length = pl ∧ (∀ m ∈ ms', m < 2 ^ (os.length + 1)) ∧ (∀ k m, ms'[k]? = some m → j ≤ k → m < 2 ^ os.length) ∧ H' pm = some (.lst (nV ms'))) ⟨⟨_, _, rfl⟩, sH7, ew7, e27, eo7, ms, lm, ?_, ?_, em7⟩ ?_ ?_
      · exact fun m hm => Nat.lt_of_lt_of_le (bm m hm) (Nat.pow_le_pow_right (by decide) (Nat.le_succ _))
      · exact fun k m e _ => bm m (List.mem_of_getElem? e)
      · rintro j σ H8 hj ⟨⟨v1, l, rfl⟩, sH8, ew8, e28, eo8, ms', lm', bm1, bm2, em8⟩
        rw [show (0 : Int) + (j : Nat) = (j : Nat) by omega]
        have hj' : j < ms'.length := by omega
        obtain ⟨r, hr⟩ : ∃ r : Nat, l % 2 = (r : Int) := ⟨(l % 2).toNat, by omega⟩
        have hr2 : r < 2 := by omega
        refine ⟨_, rfl, _, rfl, pm, _, _, _, rfl, rfl, SqL.of em8, nV_at hj', _, rfl, _, rfl, _, _, rfl, rfl, (by show (0 : Int) < 2; decide), _, _, rfl, rfl, .inr ⟨?_, ?_⟩, _, _, rfl, rfl, _, rfl, _, rfl, pm, _, _, j, rfl, rfl, em8, by rw [nV_len]; exact ixN_nat hj', ?_⟩
        · show (-(2 ^ 64) : Int) < l % 2
          omega
        · show l % 2 < (2 ^ 64 : Int)
          omega
        rw [show (fun i j : Int => V.int (i + j)) (ms'.getD j 0 : Nat) (((2 ^ os.length : Nat) : Int) * (l % 2)) = V.int ((ms'.getD j 0 + 2 ^ os.length * r : Nat) : Int) by show V.int ((ms'.getD j 0 : Nat) + ((2 ^ os.length : Nat) : Int) * (l % 2)) = _; rw [hr, Int.natCast_add, Int.natCast_mul], nV_set]
        have hm0 := getD_at hj'
        refine ⟨_, rfl, _, _, rfl, rfl, ⟨by decide, by decide⟩, ⟨_, _, rfl⟩, same_set sH8 npm, (upd_ne nwm).trans ew8, (upd_ne n2m).trans e28, (upd_ne nom).trans eo8, _, by rw [List.length_set]; exact lm', fun m hm => ?_, fun k m e hk => ?_, upd_same⟩
        · rcases List.mem_or_eq_of_mem_set hm with h | h
          · exact bm1 m h
          · rw [h]
            exact CG.lift_bit (bm2 j _ hm0 (Nat.le_refl _)) hr2
        · rcases CG.take_set hm0 k m e with ⟨h, _⟩ | ⟨_, h⟩
          · omega
          · exact bm2 k m h (by omega)
      rintro σ H8 ⟨⟨v1, l, rfl⟩, sH8, ew8, e28, eo8, ms', lm', bm1, bm2, em8⟩
      exact ⟨⟨_, _, _, _, _, rfl⟩, sH8, ew8, e28, os', ms', by omega, lm', bo', by rw [lo']; exact bm1, eo8, em8⟩
    rintro σ H5 ⟨⟨u1, u2, u3, u4, u5, rfl⟩, sH5, ew5, e25, os, ms, lo, lm, bo, bm, eo5, em5⟩
    rw [List.length_map] at lo
    refine ⟨_, rfl, _, rfl, _, rfl, by first | decide | (simp only [List.length_cons, List.length_nil, List.length_append, List.length_map]; decide), fun t ht => ?_⟩
    have s6 := Same.upd0 (o := .tup [.ref pw, .ref po, .ref pm]) ht
    exact q ws os ms _ t pw po pm (sH5.trans s6) ⟨by rw [lw, lm], by omega, by omega, by omega, bw, tw, bo, bm⟩ upd_same (s6 _ _ ew5) (s6 _ _ eo5) (s6 _ _ em5)
def sp_q17 (K : PySem.W.Frag) : Sp := fun vs H Q _ => ∃ (c : Int) (pw po pm : Addr) (ws os ms : List Nat), vs = [.int c, .ref pw, .ref po, .ref pm] ∧ SqL K H pw (nV ws) ∧ SqL K H po (nV os) ∧ SqL K H pm (nV ms) ∧ CG.Good 24 ws os ms ∧ ∀ H' r zs qs (tk : List (Nat × Nat)), Same H H' → H' r = some (.lst zs) → DataAll K H' zs (List.map CP.pairD qs) → CD.Dl ws os ms tk → qs.Perm (tk.map CP.natP) → CP.risingB qs = true → Q (.ref r) H'
theorem ok_q17 {f : Addr} {fd fd_q14 fd_q16 : FuncData} (F : Fun K "_law_taken" "_law_taken" s_q17 f fd) (T : Txt K mg a)
    (G_q14 : FnOk P w K mg base CX0 1 a.law_fit fd_q14 ["_law_masks", "_law_work", "_law_place"] (sp_q14 K)) (F_q14 : Fun K "_law_fit" "_law_fit" s_q14 a.law_fit fd_q14) (b_q14 : Binds K fd_q14 ["_law_masks", "_law_work", "_law_place"] [])
    (G_q16 : FnOk P w K mg base CX0 1 a.law_mixed fd_q16 ["_law_cell", "_law_k"] (sp_q16 K)) (F_q16 : Fun K "_law_mixed" "_law_mixed" s_q16 a.law_mixed fd_q16) (b_q16 : Binds K fd_q16 ["_law_cell", "_law_k"] []) : FnOk P w K mg base CX0 2 f fd ["_law_cell", "_law_wants", "_law_oftens", "_law_masks"] (sp_q17 K) := by
  refine F.ok sc_q17 (fun vs H Q E h => ?_) (fun cdv A outer s H vs Q E hr h => ?_)
  · obtain ⟨c, pw, po, pm, ws, os, ms, rfl, _⟩ := h
    rfl
  · obtain ⟨c, pw, po, pm, ws, os, ms, rfl, hw, ho, hm, g, q⟩ := h
    refine ⟨_, (pss_cons (psN (i := 4) (sc := defScope s_q17) (M := N_q17) rfl rfl (by decide +kernel) (pe_op op_rep (pe_lst (pa_cons pe_int pa_nil)) (pe_callBN (sc := defScope s_q17) call_len rfl (by decide +kernel) T.z_len bt_len (pa_cons (pvA 2 (defScope s_q17) N_q17 rfl rfl) pa_nil))))
      (pss_cons (psN (i := 5) (sc := defScope s_q17) (M := N_q17) rfl rfl (by decide +kernel) (pe_op op_rep (pe_lst (pa_cons pe_int pa_nil)) (pe_callBN (sc := defScope s_q17) call_len rfl (by decide +kernel) T.z_len bt_len (pa_cons (pvA 1 (defScope s_q17) N_q17 rfl rfl) pa_nil))))
      (pss_cons (psN (i := 6) (sc := defScope s_q17) (M := N_q17) rfl rfl (by decide +kernel) (pe_lst pa_nil))
      (pss_cons (ps_for PassesOwn.never rfl (pi_range1 (glR (sc := defScope s_q17) rfl (by decide +kernel)) T.z_range (pa_cons (pe_op op_mul (pe_callBN (sc := defScope s_q17) call_len rfl (by decide +kernel) T.z_len bt_len (pa_cons (pvA 2 (defScope s_q17) N_q17 rfl rfl) pa_nil)) (pe_callBN (sc := defScope s_q17) call_len rfl (by decide +kernel) T.z_len bt_len (pa_cons (pvA 1 (defScope s_q17) N_q17 rfl rfl) pa_nil))) pa_nil)) (pgN (i := 7) (sc := defScope s_q17) (M := N_q17) rfl rfl (by decide +kernel)) (pss_cons (psN (i := 8) (sc := defScope s_q17) (M := N_q17) rfl rfl (by decide +kernel) (pe_op op_mod (pe_op op_add (pvA 7 (defScope s_q17) N_q17 rfl rfl) (pvA 0 (defScope s_q17) N_q17 rfl rfl)) (pe_callBN (sc := defScope s_q17) call_len rfl (by decide +kernel) T.z_len bt_len (pa_cons (pvA 2 (defScope s_q17) N_q17 rfl rfl) pa_nil))))
      (pss_cons (psN (i := 9) (sc := defScope s_q17) (M := N_q17) rfl rfl (by decide +kernel) (pe_op op_mod (pe_op op_add (pe_op op_fdiv (pvA 7 (defScope s_q17) N_q17 rfl rfl) (pe_callBN (sc := defScope s_q17) call_len rfl (by decide +kernel) T.z_len bt_len (pa_cons (pvA 2 (defScope s_q17) N_q17 rfl rfl) pa_nil))) (pe_callN (sc := defScope s_q17) G_q16 (hr.mono (by decide)) rfl (by decide +kernel) T.m_q16 F_q16.kp b_q16 .nil pass0 (pa_cons (pvA 0 (defScope s_q17) N_q17 rfl rfl) (pa_cons (pvA 8 (defScope s_q17) N_q17 rfl rfl) pa_nil)))) (pe_callBN (sc := defScope s_q17) call_len rfl (by decide +kernel) T.z_len bt_len (pa_cons (pvA 1 (defScope s_q17) N_q17 rfl rfl) pa_nil))))
      (pss_one (ps_if (PW.pt (pw_and (pt_cmpR op_lt (pe_ix ix_list (pvA 4 (defScope s_q17) N_q17 rfl rfl) (pvA 8 (defScope s_q17) N_q17 rfl rfl) (fun _ _ => rfl)) (pe_ix ix_list (pvA 2 (defScope s_q17) N_q17 rfl rfl) (pvA 8 (defScope s_q17) N_q17 rfl rfl) (fun _ _ => rfl)) (nomark _)) (pw_and (pt_cmpR op_lt (pe_ix ix_list (pvA 5 (defScope s_q17) N_q17 rfl rfl) (pvA 9 (defScope s_q17) N_q17 rfl rfl) (fun _ _ => rfl)) (pe_ix ix_list (pvA 1 (defScope s_q17) N_q17 rfl rfl) (pvA 9 (defScope s_q17) N_q17 rfl rfl) (fun _ _ => rfl)) (nomark _)) (pw_and1 (pt_val (pe_callN (sc := defScope s_q17) G_q14 (hr.mono (by decide)) rfl (by decide +kernel) T.m_q14 F_q14.kp b_q14 .nil pass0 (pa_cons (pvA 3 (defScope s_q17) N_q17 rfl rfl) (pa_cons (pvA 8 (defScope s_q17) N_q17 rfl rfl) (pa_cons (pvA 9 (defScope s_q17) N_q17 rfl rfl) pa_nil))))))))) (pss_cons (ps_expr (pe_bm PySem.F.plainAttrs_list PySem.F.slot_list_append PySem.F.type_list_append mt_append (pvA 6 (defScope s_q17) N_q17 rfl rfl) (pa_cons (pe_tup (pa_cons (pvA 8 (defScope s_q17) N_q17 rfl rfl) (pa_cons (pvA 9 (defScope s_q17) N_q17 rfl rfl) pa_nil))) pa_nil)))
      (pss_cons (ps_asg (pe_op op_add (pe_ix ix_list (pvA 4 (defScope s_q17) N_q17 rfl rfl) (pvA 8 (defScope s_q17) N_q17 rfl rfl) (fun _ _ => rfl)) pe_int) (pg_sub (pvA 4 (defScope s_q17) N_q17 rfl rfl) (pvA 8 (defScope s_q17) N_q17 rfl rfl) set_list))
      (pss_one (ps_asg (pe_op op_add (pe_ix ix_list (pvA 5 (defScope s_q17) N_q17 rfl rfl) (pvA 9 (defScope s_q17) N_q17 rfl rfl) (fun _ _ => rfl)) pe_int) (pg_sub (pvA 5 (defScope s_q17) N_q17 rfl rfl) (pvA 9 (defScope s_q17) N_q17 rfl rfl) set_list))))) pss_nil)))))
      (pss_one (ps_ret (pe_callBN (sc := defScope s_q17) L16.call_sortedQ rfl (by decide +kernel) T.z_sorted bt_sorted (pa_cons (pvA 6 (defScope s_q17) N_q17 rfl rfl) pa_nil)))))))), ?_⟩
    have hs : sizeLine = 16777216 := sizeLine_eq
    have g1 := g.len
    have g2 := g.one
    have g3 := g.six
    have g4 := g.many
    refine ⟨by first | decide | (simp only [List.length_cons, List.length_nil, List.length_append, List.length_map]; decide), fun p1 hp1 => ⟨_, rfl, .ref po, os.length, rfl, .inl ⟨_, (Same.upd0 hp1).seq ho, by rw [nV_len]⟩, p1, _, _, rfl, rfl, upd_same, by omega, by omega, by rw [Int.toNat_natCast]; show 1 * os.length ≤ sizeLine; omega, fun p2 hp2 => ?_⟩⟩
    rw [Int.toNat_natCast, rep_zero]
    have s2 := (Same.upd0 (o := .lst [.int 0]) hp1).trans (Same.upd0 (o := .lst (nV (List.replicate os.length 0))) hp2)
    have e2 : upd (upd H p1 (.lst [.int 0])) p2 (.lst (nV (List.replicate os.length 0))) p2 = some (.lst (nV (List.replicate os.length 0))) := upd_same
    have n2 : H p2 = none := (Same.upd0 (o := .lst [.int 0]) hp1).free hp2
    generalize upd (upd H p1 (.lst [.int 0])) p2 (.lst (nV (List.replicate os.length 0))) = H2 at s2 e2 ⊢
    refine ⟨by first | decide | (simp only [List.length_cons, List.length_nil, List.length_append, List.length_map]; decide), fun p3 hp3 => ⟨_, rfl, .ref pw, ws.length, rfl, .inl ⟨_, (s2.trans (Same.upd0 hp3)).seq hw, by rw [nV_len]⟩, p3, _, _, rfl, rfl, upd_same, by omega, by omega, by rw [Int.toNat_natCast]; show 1 * ws.length ≤ sizeLine; omega, fun p4 hp4 => ?_⟩⟩
    rw [Int.toNat_natCast, rep_zero]
    have t4 := (Same.upd0 (o := .lst [.int 0]) hp3).trans (Same.upd0 (o := .lst (nV (List.replicate ws.length 0))) hp4)
    have s4 := s2.trans t4
    have e4 : upd (upd H2 p3 (.lst [.int 0])) p4 (.lst (nV (List.replicate ws.length 0))) p4 = some (.lst (nV (List.replicate ws.length 0))) := upd_same
    have e24 := t4 _ _ e2
    have n4' : H2 p4 = none := (Same.upd0 (o := .lst [.int 0]) hp3).free hp4
    have n4 : H p4 = none := s2.free n4'
    have n24 : p2 ≠ p4 := ne_of_none e2 n4'
    generalize upd (upd H2 p3 (.lst [.int 0])) p4 (.lst (nV (List.replicate ws.length 0))) = H4 at t4 s4 e4 e24 ⊢
    clear hp1 hp2 hp3 hp4 t4 s2 e2 n4'
    refine ⟨by first | decide | (simp only [List.length_cons, List.length_nil, List.length_append, List.length_map]; decide), fun pt hpt => ?_⟩
    have s5 := s4.trans (Same.upd0 (o := .lst []) hpt)
    have e5 : upd H4 pt (.lst []) pt = some (.lst []) := upd_same
    have e25 := Same.upd0 (o := .lst []) hpt _ _ e24
    have e45 := Same.upd0 (o := .lst []) hpt _ _ e4
    have nt : H pt = none := s4.free hpt
    have n2t : p2 ≠ pt := ne_of_none e24 hpt
    have n4t : p4 ≠ pt := ne_of_none e4 hpt
    generalize upd H4 pt (.lst []) = H5 at s5 e5 e25 e45 ⊢
    clear s4 e24 e4 hpt
    have hmul : ((os.length : Nat) : Int) * (ws.length : Nat) = ((os.length * ws.length : Nat) : Int) := (Int.natCast_mul _ _).symm
    have hle : os.length * ws.length ≤ 24 * 6 := Nat.mul_le_mul (by omega) g3
    refine ⟨_, rfl, .ref po, os.length, rfl, .inl ⟨_, s5.seq ho, by rw [nV_len]⟩, _, rfl, .ref pw, ws.length, rfl, .inl ⟨_, s5.seq hw, by rw [nV_len]⟩, _, _, rfl, rfl, .inl ⟨by omega, by omega⟩, _, rfl, by rw [hmul]; omega, by rw [hmul]; omega, ?_⟩
    rw [hmul, Int.toNat_natCast]
    have hml : ∀ p w, CD.hb ms p w = true → w < os.length := (CD.Deal.start g1 g.ml).lt
    have few64 := (CD.Gd.of g).few
    refine for_range (fun i σ H' => (∃ v1 v2 v3, σ = [some (.int c), some (.ref pw), some (.ref po), some (.ref pm), some (.ref p2), some (.ref p4), some (.ref pt), v1, v2, v3]) ∧ Same H H' ∧ ∃ (D : Hp) (tk : List (Nat × Nat)) (wc pc : List Nat) (xs : List V), CD.Tkn ws os ms tk wc pc ∧ (∀ q ∈ tk, ∃ k : Nat, k < i ∧ ((k : Nat) + c) % (os.length : Nat) = (q.1 : Nat) ∧ (((k : Nat) : Int) / (os.length : Nat) + mixZ c (q.1 : Nat)) % (ws.length : Nat) = (q.2 : Nat)) ∧ H' p2 = some (.lst (nV wc)) ∧ H' p4 = some (.lst (nV pc)) ∧ H' pt = some (.lst xs) ∧ Same D H' ∧ D p2 = none ∧ D p4 = none ∧ D pt = none ∧ DataAll K D xs ((tk.map CP.natP).map CP.pairD)) ⟨⟨_, _, _, rfl⟩, s5, fun _ => none, [], _, _, [], CD.Tkn.zero ws os ms, (fun _ h => nomatch h), e25, e45, e5, (fun _ _ e => nomatch e), rfl, rfl, rfl, DataAll.nil⟩ ?_ ?_
    · rintro i σ H6 hi ⟨⟨v1, v2, v3, rfl⟩, s6, D, tk, wc, pc, xs, hT, hI, e26, e46, et6, sD, d2, d4, dt, hA⟩
      rw [show (0 : Int) + (i : Nat) = (i : Nat) by omega]
      have hpos : 0 < os.length := by
        rcases Nat.eq_zero_or_pos os.length with z | z
        · rw [z, Nat.zero_mul] at hi; omega
        · exact z
      refine ⟨_, rfl, _, rfl, _, _, rfl, rfl, _, rfl, .ref po, os.length, rfl, .inl ⟨_, s6.seq ho, by rw [nV_len]⟩, _, _, rfl, rfl, (by show (0 : Int) < (os.length : Nat); omega), ?_⟩
      have w0 : 0 ≤ (((i : Nat) : Int) + c) % (os.length : Nat) := Int.emod_nonneg _ (by omega)
      have w1 : (((i : Nat) : Int) + c) % (os.length : Nat) < (os.length : Nat) := Int.emod_lt_of_pos _ (by omega)
      obtain ⟨wk, hwk⟩ : ∃ wk : Nat, (((i : Nat) : Int) + c) % (os.length : Nat) = (wk : Int) := ⟨_, (Int.toNat_of_nonneg w0).symm⟩
      rw [show (fun i j : Int => V.int (i % j)) (((i : Nat) : Int) + c) ((os.length : Nat) : Int) = V.int (wk : Nat) from congrArg V.int hwk]
      have hwk' : wk < os.length := by omega
      refine ⟨_, rfl, _, rfl, .ref po, os.length, rfl, .inl ⟨_, s6.seq ho, by rw [nV_len]⟩, _, _, rfl, rfl, ⟨by omega, by omega⟩, _, rfl, _, rfl, _, _, rfl, by omega, by omega, _, _, rfl, rfl, _, rfl, .ref pw, ws.length, rfl, .inl ⟨_, s6.seq hw, by rw [nV_len]⟩, _, _, rfl, rfl, (by show (0 : Int) < (ws.length : Nat); omega), ?_⟩
      have l0 : 0 ≤ (((i : Nat) : Int) / (os.length : Nat) + mixZ c wk) % (ws.length : Nat) := Int.emod_nonneg _ (by omega)
      have l1 : (((i : Nat) : Int) / (os.length : Nat) + mixZ c wk) % (ws.length : Nat) < (ws.length : Nat) := Int.emod_lt_of_pos _ (by omega)
      obtain ⟨pl, hpl⟩ : ∃ pl : Nat, (((i : Nat) : Int) / (os.length : Nat) + mixZ c wk) % (ws.length : Nat) = (pl : Int) := ⟨_, (Int.toNat_of_nonneg l0).symm⟩
      rw [show (fun i j : Int => V.int (i % j)) (((i : Nat) : Int) / (os.length : Nat) + mixZ c wk) ((ws.length : Nat) : Int) = V.int (pl : Nat) from congrArg V.int hpl]
      have hpl' : pl < ws.length := by omega
      have hwc : wk < wc.length := by rw [hT.lw]; exact hwk'
      have hpc : pl < pc.length := by rw [hT.lp]; exact hpl'
      have hI' : ∀ q ∈ tk, ∃ k : Nat, k < i + 1 ∧ ((k : Nat) + c) % (os.length : Nat) = (q.1 : Nat) ∧ (((k : Nat) : Int) / (os.length : Nat) + mixZ c (q.1 : Nat)) % (ws.length : Nat) = (q.2 : Nat) := fun q hq => by
        obtain ⟨k, k1, k2⟩ := hI q hq
        exact ⟨k, by omega, k2⟩
      have stay : ∀ {u1 u2 u3 : Option V}, (∃ v1 v2 v3, ([some (.int c), some (.ref pw), some (.ref po), some (.ref pm), some (.ref p2), some (.ref p4), some (.ref pt), u1, u2, u3] : L2.St) = [some (.int c), some (.ref pw), some (.ref po), some (.ref pm), some (.ref p2), some (.ref p4), some (.ref pt), v1, v2, v3]) ∧ Same H H6 ∧ ∃ (D : Hp) (tk : List (Nat × Nat)) (wc pc : List Nat) (xs : List V), CD.Tkn ws os ms tk wc pc ∧ (∀ q ∈ tk, ∃ k : Nat, k < i + 1 ∧ ((k : Nat) + c) % (os.length : Nat) = (q.1 : Nat) ∧ (((k : Nat) : Int) / (os.length : Nat) + mixZ c (q.1 : Nat)) % (ws.length : Nat) = (q.2 : Nat)) ∧ H6 p2 = some (.lst (nV wc)) ∧ H6 p4 = some (.lst (nV pc)) ∧ H6 pt = some (.lst xs) ∧ Same D H6 ∧ D p2 = none ∧ D p4 = none ∧ D pt = none ∧ DataAll K D xs ((tk.map CP.natP).map CP.pairD) :=
        ⟨⟨_, _, _, rfl⟩, s6, D, tk, wc, pc, xs, hT, hI', e26, e46, et6, sD, d2, d4, dt, hA⟩
      refine ⟨_, rfl, _, rfl, p2, _, _, _, rfl, rfl, SqL.of e26, nV_at hwc, _, rfl, _, rfl, po, _, _, _, rfl, rfl, s6.seq ho, nV_at hwk', _, _, rfl, rfl, _, rfl, ite2 (fun h2 => ?_) (fun h2 => iteF stay)⟩
      refine ⟨_, rfl, _, rfl, p4, _, _, _, rfl, rfl, SqL.of e46, nV_at hpc, _, rfl, _, rfl, pw, _, _, _, rfl, rfl, s6.seq hw, nV_at hpl', _, _, rfl, rfl, _, rfl, ite2 (fun h3 => ?_) (fun h3 => iteF stay)⟩
      refine ⟨_, rfl, _, rfl, _, rfl, pm, ms, wk, pl, _, rfl, s6.seq hm, getD_at (by omega), _, rfl, ite2 (fun h1 => ?_) (fun h1 => stay)⟩
      have h2' : wc.getD wk 0 < os.getD wk 0 := by have : ((wc.getD wk 0 : Nat) : Int) < (os.getD wk 0 : Nat) := of_decide_eq_true h2; omega
      have h3' : pc.getD pl 0 < ws.getD pl 0 := by have : ((pc.getD pl 0 : Nat) : Int) < (ws.getD pl 0 : Nat) := of_decide_eq_true h3; omega
      have hni : (wk, pl) ∉ tk := fun hin => by
        obtain ⟨k, k1, k2, k3⟩ := hI _ hin
        have := CD.walk_inj (a := k) (b := i) (c := c) (M := mixZ c wk) (by omega) (by omega) (k2.trans hwk.symm) (k3.trans hpl.symm)
        omega
      refine ⟨_, rfl, .inl ⟨rfl, _, SqL.of et6⟩, _, rfl, _, rfl, by first | decide | (simp only [List.length_cons, List.length_nil, List.length_append, List.length_map]; decide), fun t2 ht2 => ?_⟩
      have t8 := Same.upd0 (o := .tup [.int (wk : Nat), .int (pl : Nat)]) ht2
      have nd2 : D t2 = none := free_of sD ht2
      have sD8 : Same (upd D t2 (.tup [.int (wk : Nat), .int (pl : Nat)])) (upd H6 t2 (.tup [.int (wk : Nat), .int (pl : Nat)])) := fun b o e => by
        by_cases hb : b = t2
        · subst hb
          rw [upd_same] at e ⊢
          exact e
        · rw [upd_ne hb] at e ⊢
          exact sD _ _ e
      have dx8 : DataAt K (upd D t2 (.tup [.int (wk : Nat), .int (pl : Nat)])) (.ref t2) (CP.pairD (CP.natP (wk, pl))) := CP.pair_at upd_same
      have hA8 := DataAll.up hA (Same.upd0 (o := .tup [.int (wk : Nat), .int (pl : Nat)]) nd2)
      have d2' : upd D t2 (.tup [.int (wk : Nat), .int (pl : Nat)]) p2 = none := (upd_ne (ne_of_none e26 ht2)).trans d2
      have d4' : upd D t2 (.tup [.int (wk : Nat), .int (pl : Nat)]) p4 = none := (upd_ne (ne_of_none e46 ht2)).trans d4
      have dt' : upd D t2 (.tup [.int (wk : Nat), .int (pl : Nat)]) pt = none := (upd_ne (ne_of_none et6 ht2)).trans dt
      have e28 := t8 _ _ e26
      have e48 := t8 _ _ e46
      have et8 := t8 _ _ et6
      have s8 := s6.trans t8
      generalize upd D t2 (.tup [.int (wk : Nat), .int (pl : Nat)]) = D8 at sD8 dx8 hA8 d2' d4' dt'
      generalize upd H6 t2 (.tup [.int (wk : Nat), .int (pl : Nat)]) = H8 at sD8 e28 e48 et8 s8 t8 ⊢
      have lxs := DataAll.length hA
      rw [List.length_map, List.length_map] at lxs
      have hfew := hT.dl.few g1 hml
      refine ⟨pt, _, _, rfl, rfl, et8, by omega, ?_⟩
      have s9 := same_set (o := .lst (xs ++ [.ref t2])) s8 nt
      have sD9 := same_set (o := .lst (xs ++ [.ref t2])) sD8 dt'
      have e29 : upd H8 pt (.lst (xs ++ [.ref t2])) p2 = some (.lst (nV wc)) := (upd_ne n2t).trans e28
      have e49 : upd H8 pt (.lst (xs ++ [.ref t2])) p4 = some (.lst (nV pc)) := (upd_ne n4t).trans e48
      have et9 : upd H8 pt (.lst (xs ++ [.ref t2])) pt = some (.lst (xs ++ [.ref t2])) := upd_same
      generalize upd H8 pt (.lst (xs ++ [.ref t2])) = H9 at s9 sD9 e29 e49 et9 ⊢
      refine ⟨_, rfl, _, rfl, p2, _, _, _, rfl, rfl, SqL.of e29, nV_at hwc, _, _, rfl, rfl, _, rfl, _, rfl, p2, _, _, wk, rfl, rfl, e29, by rw [nV_len]; exact ixN_nat hwc, ?_⟩
      rw [show (fun i j : Int => V.int (i + j)) ((wc.getD wk 0 : Nat) : Int) 1 = V.int ((wc.getD wk 0 + 1 : Nat) : Int) from rfl, nV_set]
      have s10 := same_set (o := .lst (nV (wc.set wk (wc.getD wk 0 + 1)))) s9 n2
      have sD10 := same_set (o := .lst (nV (wc.set wk (wc.getD wk 0 + 1)))) sD9 d2'
      have e210 : upd H9 p2 (.lst (nV (wc.set wk (wc.getD wk 0 + 1)))) p2 = some (.lst (nV (wc.set wk (wc.getD wk 0 + 1)))) := upd_same
      have e410 : upd H9 p2 (.lst (nV (wc.set wk (wc.getD wk 0 + 1)))) p4 = some (.lst (nV pc)) := (upd_ne n24.symm).trans e49
      have et10 : upd H9 p2 (.lst (nV (wc.set wk (wc.getD wk 0 + 1)))) pt = some (.lst (xs ++ [.ref t2])) := (upd_ne n2t.symm).trans et9
      generalize upd H9 p2 (.lst (nV (wc.set wk (wc.getD wk 0 + 1)))) = H10 at s10 sD10 e210 e410 et10 ⊢
      refine ⟨_, rfl, _, rfl, p4, _, _, _, rfl, rfl, SqL.of e410, nV_at hpc, _, _, rfl, rfl, _, rfl, _, rfl, p4, _, _, pl, rfl, rfl, e410, by rw [nV_len]; exact ixN_nat hpc, ?_⟩
      rw [show (fun i j : Int => V.int (i + j)) ((pc.getD pl 0 : Nat) : Int) 1 = V.int ((pc.getD pl 0 + 1 : Nat) : Int) from rfl, nV_set]
      refine ⟨⟨_, _, _, rfl⟩, same_set s10 n4, D8, tk ++ [(wk, pl)], _, _, _, hT.step hwk' hpl' g1 hni h1 h2' h3', ?_, (upd_ne n24).trans e210, upd_same, (upd_ne n4t.symm).trans et10, same_set sD10 d4', d2', d4', dt', ?_⟩
      · intro q hq
        rcases List.mem_append.mp hq with z | z
        · exact hI' q z
        · rw [List.mem_singleton.mp z]
          exact ⟨i, by omega, hwk, hpl⟩
      rw [List.map_append, List.map_append]
      exact DataAll.snoc dx8 hA8
    rintro σ H6 ⟨⟨v1, v2, v3, rfl⟩, s6, D, tk, wc, pc, xs, hT, hI, e26, e46, et6, sD, d2, d4, dt, hA⟩
    have hfew := hT.dl.few g1 hml
    refine ⟨_, rfl, pt, xs, tk.map CP.natP, rfl, SqL.of et6, DataAll.same sD _ hA, CD.natPs_nd hT.dl.nd, by rw [List.length_map]; omega, fun l zs qs hl' hD hp hr => ?_⟩
    have t7 := Same.upd0 (o := .lst zs) hl'
    exact q _ l zs qs tk (s6.trans t7) upd_same (DataAll.same t7 _ hD) hT.dl hp hr
def sp_q18 (_ : PySem.W.Frag) : Sp := fun vs H Q _ => ∃ m n : Nat, vs = [.int (m : Nat), .int (n : Nat)] ∧ n ≤ 1000 ∧ ∀ r : Nat, (∀ w, r.testBit w = (decide (w < n) && m.testBit (n - 1 - w))) → Q (.int (r : Nat)) H
theorem ok_q18 {f : Addr} {fd : FuncData} (F : Fun K "_law_turned_bits" "_law_turned_bits" s_q18 f fd) (T : Txt K mg a) : FnOk P w K mg base CX0 1 f fd ["_law_mask", "_law_many"] (sp_q18 K) := by
  refine F.ok sc_q18 (fun vs H Q E h => ?_) (fun cdv A outer s H vs Q E hr h => ?_)
  · obtain ⟨m, n, rfl, _⟩ := h
    rfl
  · obtain ⟨m, n, rfl, hn, q⟩ := h
    refine ⟨_, (pss_cons (psN (i := 2) (sc := defScope s_q18) (M := N_q18) rfl rfl (by decide +kernel) pe_int)
      (pss_cons (ps_for PassesOwn.never rfl (pi_range1 (glR (sc := defScope s_q18) rfl (by decide +kernel)) T.z_range (pa_cons (pvA 1 (defScope s_q18) N_q18 rfl rfl) pa_nil)) (pgN (i := 3) (sc := defScope s_q18) (M := N_q18) rfl rfl (by decide +kernel)) (pss_cons (psN (i := 2) (sc := defScope s_q18) (M := N_q18) rfl rfl (by decide +kernel) (pe_op op_add (pe_op op_mul pe_int (pvA 2 (defScope s_q18) N_q18 rfl rfl)) (pe_op op_mod (pvA 0 (defScope s_q18) N_q18 rfl rfl) pe_int)))
      (pss_one (psN (i := 0) (sc := defScope s_q18) (M := N_q18) rfl rfl (by decide +kernel) (pe_op op_fdiv (pvA 0 (defScope s_q18) N_q18 rfl rfl) pe_int)))))
      (pss_one (ps_ret (pvA 2 (defScope s_q18) N_q18 rfl rfl))))), ?_⟩
    have hs : sizeLine = 16777216 := sizeLine_eq
    refine ⟨_, rfl, _, rfl, by omega, by omega, ?_⟩
    rw [Int.toNat_natCast]
    refine for_range (fun i σ H' => (∃ v, σ = [some (.int ((m / 2 ^ i : Nat) : Int)), some (.int (n : Nat)), some (.int (CD.turn m i : Nat)), v]) ∧ H' = H) ⟨⟨_, by rw [Nat.pow_zero, Nat.div_one]; rfl⟩, rfl⟩ ?_ ?_
    · rintro i σ H' hi ⟨⟨v, rfl⟩, rfl⟩
      refine ⟨_, rfl, _, _, rfl, rfl, .inl ⟨by decide, by decide⟩, _, rfl, _, _, rfl, rfl, (by show (0 : Int) < 2; decide), _, _, rfl, rfl, ?_⟩
      have e1 : ((m / 2 ^ i : Nat) : Int) / 2 = ((m / 2 ^ (i + 1) : Nat) : Int) := by
        rw [Nat.pow_succ, ← Nat.div_div_eq_div_mul]
        exact (Int.natCast_ediv _ _).symm
      have e2 : (2 : Int) * (CD.turn m i : Nat) + ((m / 2 ^ i : Nat) : Int) % 2 = ((CD.turn m (i + 1) : Nat) : Int) := by
        rw [CD.turn]
        generalize m / 2 ^ i = y
        omega
      refine ⟨_, rfl, _, _, rfl, rfl, ⟨by decide, by decide⟩, ⟨some (.int ((0 : Int) + (i : Nat))), ?_⟩, rfl⟩
      rw [← e1, ← e2]
      rfl
    rintro σ H' ⟨⟨v, rfl⟩, rfl⟩
    exact ⟨_, rfl, q _ (CD.turn_bit m n)⟩
def sp_q12 (K : PySem.W.Frag) : Sp := fun vs H Q _ => ∃ (a : Addr) (ns : List Int), vs = [.ref a] ∧ SqL K H a (ns.map V.int) ∧ ns.length ≤ 63 ∧ ∀ H', Q (.bl true) H'
theorem ok_q12 {f : Addr} {fd fd_q13 fd_q15 fd_q16 fd_q17 fd_q18 fd_q6 fd_q10 fd_q26 : FuncData} (F : Fun K "law" "law" s_q12 f fd) (T : Txt K mg a)
    (G_q13 : FnOk P w K mg base CX0 1 a.law_cell_at fd_q13 ["_law_script", "_law_k"] (sp_q13 K)) (F_q13 : Fun K "_law_cell_at" "_law_cell_at" s_q13 a.law_cell_at fd_q13) (b_q13 : Binds K fd_q13 ["_law_script", "_law_k"] [])
    (G_q15 : FnOk P w K mg base CX0 2 a.law_ground fd_q15 ["_law_script", "_law_most"] (sp_q15 K)) (F_q15 : Fun K "_law_ground" "_law_ground" s_q15 a.law_ground fd_q15) (b_q15 : Binds K fd_q15 ["_law_script", "_law_most"] [])
    (G_q16 : FnOk P w K mg base CX0 1 a.law_mixed fd_q16 ["_law_cell", "_law_k"] (sp_q16 K)) (F_q16 : Fun K "_law_mixed" "_law_mixed" s_q16 a.law_mixed fd_q16) (b_q16 : Binds K fd_q16 ["_law_cell", "_law_k"] [])
    (G_q17 : FnOk P w K mg base CX0 2 a.law_taken fd_q17 ["_law_cell", "_law_wants", "_law_oftens", "_law_masks"] (sp_q17 K)) (F_q17 : Fun K "_law_taken" "_law_taken" s_q17 a.law_taken fd_q17) (b_q17 : Binds K fd_q17 ["_law_cell", "_law_wants", "_law_oftens", "_law_masks"] [])
    (G_q18 : FnOk P w K mg base CX0 1 a.law_turned_bits fd_q18 ["_law_mask", "_law_many"] (sp_q18 K)) (F_q18 : Fun K "_law_turned_bits" "_law_turned_bits" s_q18 a.law_turned_bits fd_q18) (b_q18 : Binds K fd_q18 ["_law_mask", "_law_many"] [])
    (G_q6 : FnOk P w K mg base CX0 8 a.deal fd_q6 ["wants", "oftens", "masks"] (sp_q6 K)) (F_q6 : Fun K "deal" "deal" s_q6 a.deal fd_q6) (b_q6 : Binds K fd_q6 ["wants", "oftens", "masks"] [])
    (G_q10 : FnOk P w K mg base CX0 3 a.is_dealing fd_q10 ["pairs", "wants", "oftens", "masks"] (sp_q10 K)) (F_q10 : Fun K "is_dealing" "is_dealing" s_q10 a.is_dealing fd_q10) (b_q10 : Binds K fd_q10 ["pairs", "wants", "oftens", "masks"] [])
    (G_q26 : FnOk P w K mg base CX0 3 a.shown fd_q26 ["paper", "wants", "oftens", "masks"] (sp_q26 K)) (F_q26 : Fun K "shown" "shown" s_q26 a.shown fd_q26) (b_q26 : Binds K fd_q26 ["paper", "wants", "oftens", "masks"] []) : FnOk P w K mg base CX0 9 f fd ["_law_script"] (sp_q12 K) := by
  refine F.ok sc_q12 (fun vs H Q E h => ?_) (fun cdv A outer s H vs Q E hr h => ?_)
  · obtain ⟨ad, ns, rfl, _⟩ := h
    rfl
  · obtain ⟨ad, ns, rfl, hS, hl, q⟩ := h
    refine ⟨_, (pss_cons (ps_asg (pe_callN (sc := defScope s_q12) G_q15 (hr.mono (by decide)) rfl (by decide +kernel) T.m_q15 F_q15.kp b_q15 .nil pass0 (pa_cons (pvA 0 (defScope s_q12) N_q12 rfl rfl) (pa_cons pe_int pa_nil))) (pg_tup (n := 3) (by rfl) (pgs_cons (pgN (i := 1) (sc := defScope s_q12) (M := N_q12) rfl rfl (by decide +kernel)) (pgs_cons (pgC (i := 2) (sc := defScope s_q12) (M := N_q12) rfl rfl rfl (by decide +kernel)) (pgs_cons (pgN (i := 3) (sc := defScope s_q12) (M := N_q12) rfl rfl (by decide +kernel)) pgs_nil)))))
      (pss_cons (ps_asg (pe_callN (sc := defScope s_q12) G_q6 (hr.mono (by decide)) rfl (by decide +kernel) T.m_q6 F_q6.kp b_q6 .nil pass0 (pa_cons (pvA 1 (defScope s_q12) N_q12 rfl rfl) (pa_cons (pvA 2 (defScope s_q12) N_q12 rfl rfl) (pa_cons (pvA 3 (defScope s_q12) N_q12 rfl rfl) pa_nil)))) (pg_tup (n := 3) (by rfl) (pgs_cons (pgN (i := 4) (sc := defScope s_q12) (M := N_q12) rfl rfl (by decide +kernel)) (pgs_cons (pgN (i := 5) (sc := defScope s_q12) (M := N_q12) rfl rfl (by decide +kernel)) (pgs_cons (pgN (i := 6) (sc := defScope s_q12) (M := N_q12) rfl rfl (by decide +kernel)) pgs_nil)))))
      (pss_cons (ps_if (PW.pt (pw_or (pt_cmpR op_isnotB (pe_callN (sc := defScope s_q12) G_q10 (hr.mono (by decide)) rfl (by decide +kernel) T.m_q10 F_q10.kp b_q10 .nil pass0 (pa_cons (pvA 4 (defScope s_q12) N_q12 rfl rfl) (pa_cons (pvA 1 (defScope s_q12) N_q12 rfl rfl) (pa_cons (pvA 2 (defScope s_q12) N_q12 rfl rfl) (pa_cons (pvA 3 (defScope s_q12) N_q12 rfl rfl) pa_nil))))) pe_bl (nomark _)) (pw_or1 (pt_cmpR op_ne (pe_callN (sc := defScope s_q12) G_q26 (hr.mono (by decide)) rfl (by decide +kernel) T.m_q26 F_q26.kp b_q26 .nil pass0 (pa_cons (pvA 6 (defScope s_q12) N_q12 rfl rfl) (pa_cons (pvA 1 (defScope s_q12) N_q12 rfl rfl) (pa_cons (pvA 2 (defScope s_q12) N_q12 rfl rfl) (pa_cons (pvA 3 (defScope s_q12) N_q12 rfl rfl) pa_nil))))) (pvA 5 (defScope s_q12) N_q12 rfl rfl) (nomark _))))) (pss_one (ps_ret pe_bl)) pss_nil)
      (pss_cons (ps_for PassesOwn.never rfl (pi_range1 (glR (sc := defScope s_q12) rfl (by decide +kernel)) T.z_range (pa_cons pe_int pa_nil)) (pgN (i := 7) (sc := defScope s_q12) (M := N_q12) rfl rfl (by decide +kernel)) (pss_cons (psC (i := 8) (sc := defScope s_q12) (M := N_q12) rfl rfl rfl (by decide +kernel) (pe_callN (sc := defScope s_q12) G_q16 (hr.mono (by decide)) rfl (by decide +kernel) T.m_q16 F_q16.kp b_q16 .nil pass0 (pa_cons (pe_callN (sc := defScope s_q12) G_q13 (hr.mono (by decide)) rfl (by decide +kernel) T.m_q13 F_q13.kp b_q13 .nil pass0 (pa_cons (pvA 0 (defScope s_q12) N_q12 rfl rfl) (pa_cons pe_int pa_nil))) (pa_cons (pvA 7 (defScope s_q12) N_q12 rfl rfl) pa_nil))))
      (pss_cons (psN (i := 9) (sc := defScope s_q12) (M := N_q12) rfl rfl (by decide +kernel) (pe_callN (sc := defScope s_q12) G_q17 (hr.mono (by decide)) rfl (by decide +kernel) T.m_q17 F_q17.kp b_q17 .nil pass0 (pa_cons (pe_op op_fdiv (pvA 8 (defScope s_q12) N_q12 rfl rfl) pe_int) (pa_cons (pvA 1 (defScope s_q12) N_q12 rfl rfl) (pa_cons (pvA 2 (defScope s_q12) N_q12 rfl rfl) (pa_cons (pvA 3 (defScope s_q12) N_q12 rfl rfl) pa_nil))))))
      (pss_cons (ps_if (PW.pt (pw_or (pt_cmpR op_isnotB (pe_callN (sc := defScope s_q12) G_q10 (hr.mono (by decide)) rfl (by decide +kernel) T.m_q10 F_q10.kp b_q10 .nil pass0 (pa_cons (pvA 9 (defScope s_q12) N_q12 rfl rfl) (pa_cons (pvA 1 (defScope s_q12) N_q12 rfl rfl) (pa_cons (pvA 2 (defScope s_q12) N_q12 rfl rfl) (pa_cons (pvA 3 (defScope s_q12) N_q12 rfl rfl) pa_nil))))) pe_bl (nomark _)) (pw_or1 (pt_cmpR op_lt (pe_op op_sub (pe_callBN (sc := defScope s_q12) (call_sumL rfl) rfl (by decide +kernel) T.z_sum bt_sum (pa_cons (pvA 1 (defScope s_q12) N_q12 rfl rfl) pa_nil)) (pe_callBN (sc := defScope s_q12) call_len rfl (by decide +kernel) T.z_len bt_len (pa_cons (pvA 9 (defScope s_q12) N_q12 rfl rfl) pa_nil))) (pvA 5 (defScope s_q12) N_q12 rfl rfl) (nomark _))))) (pss_one (ps_ret pe_bl)) pss_nil)
      (pss_cons (psN_comp (i := 10) (sc := defScope s_q12) (M := N_q12) rfl rfl rfl (by decide +kernel) (N := ["_law_place", "_law_cell"]) (own := 1) (js := [8]) (X := (cxOf CX0 P w K mg base N_q12 "law" (defScope s_q12) f cdv A outer s H E).nox) (compOk (defScope s_q12) N_q12 rfl rfl (by decide +kernel)) (pi_range1 (glR (sc := defScope s_q12) rfl (by decide +kernel)) T.z_range (pa_cons (pe_callBN (sc := defScope s_q12) call_len rfl (by decide +kernel) T.z_len bt_len (pa_cons (pvA 1 (defScope s_q12) N_q12 rfl rfl) pa_nil)) pa_nil)) (fun fp0 sx0 Hx0 => (pgN (i := 0) (sc := relabelS _ (defScope s_q12)) (M := ["_law_place", "_law_cell"]) rfl rfl (by decide +kernel))) (fun fp0 sx0 Hx0 => (pifs_one (pt_cmpR op_eq (pe_op op_mod (pe_op op_fdiv (pe_callN (sc := relabelS _ (defScope s_q12)) G_q16 (hr.mono (by decide)) rfl (by decide +kernel) T.m_q16 F_q16.kp b_q16 .nil pass0 (pa_cons (pvN (i := 1) (sc := relabelS _ (defScope s_q12)) (M := ["_law_place", "_law_cell"]) rfl rfl (by decide +kernel)) (pa_cons (pvN (i := 0) (sc := relabelS _ (defScope s_q12)) (M := ["_law_place", "_law_cell"]) rfl rfl (by decide +kernel)) pa_nil))) pe_int) pe_int) pe_int (nomark _)))) (fun fp0 sx0 Hx0 => (pvN (i := 0) (sc := relabelS _ (defScope s_q12)) (M := ["_law_place", "_law_cell"]) rfl rfl (by decide +kernel))) rfl)
      (pss_one (ps_if (pt_cmpR op_gt (pe_callN (sc := defScope s_q12) G_q26 (hr.mono (by decide)) rfl (by decide +kernel) T.m_q26 F_q26.kp b_q26 .nil pass0 (pa_cons (pvA 10 (defScope s_q12) N_q12 rfl rfl) (pa_cons (pvA 1 (defScope s_q12) N_q12 rfl rfl) (pa_cons (pvA 2 (defScope s_q12) N_q12 rfl rfl) (pa_cons (pvA 3 (defScope s_q12) N_q12 rfl rfl) pa_nil))))) (pvA 5 (defScope s_q12) N_q12 rfl rfl) (nomark _)) (pss_one (ps_ret pe_bl)) pss_nil)))))))
      (pss_cons (ps_if (pt_cmpR op_ne (pe_ix ix_tup (pe_callN (sc := defScope s_q12) G_q6 (hr.mono (by decide)) rfl (by decide +kernel) T.m_q6 F_q6.kp b_q6 .nil pass0 (pa_cons (L12.pe_listRev (sc := defScope s_q12) rfl rfl (by decide +kernel) (by decide +kernel) T.z_list T.z_reversed (pvA 1 (defScope s_q12) N_q12 rfl rfl)) (pa_cons (pvA 2 (defScope s_q12) N_q12 rfl rfl) (pa_cons (L12.pe_listRev (sc := defScope s_q12) rfl rfl (by decide +kernel) (by decide +kernel) T.z_list T.z_reversed (pvA 3 (defScope s_q12) N_q12 rfl rfl)) pa_nil)))) pe_int (fun _ _ => rfl)) (pvA 5 (defScope s_q12) N_q12 rfl rfl) (nomark _)) (pss_one (ps_ret pe_bl)) pss_nil)
      (pss_cons (psN_comp (i := 11) (sc := defScope s_q12) (M := N_q12) rfl rfl rfl (by decide +kernel) (N := ["_law_mask", "_law_oftens"]) (own := 1) (js := [2]) (X := (cxOf CX0 P w K mg base N_q12 "law" (defScope s_q12) f cdv A outer s H E).nox) (compOk (defScope s_q12) N_q12 rfl rfl (by decide +kernel)) (pi_list (pvA 3 (defScope s_q12) N_q12 rfl rfl)) (fun fp0 sx0 Hx0 => (pgN (i := 0) (sc := relabelS _ (defScope s_q12)) (M := ["_law_mask", "_law_oftens"]) rfl rfl (by decide +kernel))) (fun fp0 sx0 Hx0 => pifs_nil) (fun fp0 sx0 Hx0 => (pe_callN (sc := relabelS _ (defScope s_q12)) G_q18 (hr.mono (by decide)) rfl (by decide +kernel) T.m_q18 F_q18.kp b_q18 .nil pass0 (pa_cons (pvN (i := 0) (sc := relabelS _ (defScope s_q12)) (M := ["_law_mask", "_law_oftens"]) rfl rfl (by decide +kernel)) (pa_cons (pe_callBN (sc := relabelS _ (defScope s_q12)) (len_K (K := K) rfl) rfl (by decide +kernel) T.z_len bt_len (pa_cons (pvN (i := 1) (sc := relabelS _ (defScope s_q12)) (M := ["_law_mask", "_law_oftens"]) rfl rfl (by decide +kernel)) pa_nil)) pa_nil)))) rfl)
      (pss_one (ps_ret (pe_cmpR op_eq (pe_ix ix_tup (pe_callN (sc := defScope s_q12) G_q6 (hr.mono (by decide)) rfl (by decide +kernel) T.m_q6 F_q6.kp b_q6 .nil pass0 (pa_cons (pvA 1 (defScope s_q12) N_q12 rfl rfl) (pa_cons (L12.pe_listRev (sc := defScope s_q12) rfl rfl (by decide +kernel) (by decide +kernel) T.z_list T.z_reversed (pvA 2 (defScope s_q12) N_q12 rfl rfl)) (pa_cons (pvA 11 (defScope s_q12) N_q12 rfl rfl) pa_nil)))) pe_int (fun _ _ => rfl)) (pvA 5 (defScope s_q12) N_q12 rfl rfl) (nomark _)))))))))), ?_⟩
    have hs : sizeLine = 16777216 := sizeLine_eq
    refine ⟨_, rfl, ad, ns, 24, rfl, hS, hl, by decide, fun ws os ms H1 t pw po pm s1 hg et ew eo em => ?_⟩
    have g1 := hg.len
    have g2 := hg.one
    have g3 := hg.six
    have g4 := hg.many
    have gd := CD.Gd.of hg
    refine ⟨t, _, rfl, SqT.of et, rfl, _, _, rfl, _, _, rfl, _, _, rfl, rfl, ?_⟩
    refine ⟨_, rfl, _, rfl, _, rfl, pw, po, pm, ws, os, ms, rfl, ew, eo, em, g1, by omega, by omega, hg.ml, gd.few, fun H2 t2 l1 l3 zs qs paper z s2 et2 el1 hA2 dB tot el3 pap sh op => ?_⟩
    refine ⟨t2, _, rfl, SqT.of et2, rfl, _, _, rfl, _, _, rfl, _, _, rfl, rfl, ?_⟩
    have pl := CO.paper_len pap
    have few := gd.few
    have hml : ∀ p w, CD.hb ms p w = true → w < os.length := (CD.Deal.start g1 hg.ml).lt
    have sb := CD.sumN_bound hg.wl
    have sb6 : 60 * ws.length ≤ 360 := by omega
    have lqs : qs.length ≤ 360 := by omega
    refine ⟨_, rfl, _, rfl, _, rfl, _, rfl, l1, pw, po, pm, zs, qs, ws, os, ms, rfl, SqL.of el1, hA2, SqL.of (s2 _ _ ew), SqL.of (s2 _ _ eo), SqL.of (s2 _ _ em), by omega, by omega, by omega, fun H3 s3 => ?_⟩
    rw [dB]
    refine ⟨_, _, rfl, rfl, _, rfl, iteF ?_⟩
    have s23 := s2.trans s3
    refine ⟨_, rfl, _, rfl, _, rfl, _, rfl, l3, pw, po, pm, paper, ws, os, ms, rfl, SqL.of (s3 _ _ el3), SqL.of (s23 _ _ ew), SqL.of (s23 _ _ eo), SqL.of (s23 _ _ em), pap.2, g1, by omega, by omega, fun H4 s4 => ?_⟩
    rw [sh]
    refine ⟨_, rfl, rfl, _, rfl, ?_⟩
    rw [show (!decide (V.int ((z : Nat) : Int) = V.int ((z : Nat) : Int))) = false by rw [decide_eq_true rfl]; rfl]
    refine iteF ?_
    have s14 := s23.trans s4
    refine ⟨_, rfl, by decide, by decide, ?_⟩
    refine for_range (fun i σ H' => (∃ v7 v8 v9 v10, σ = [some (.ref ad), some (.ref pw), some (.ref po), some (.ref pm), some (.ref l1), some (.int (z : Nat)), some (.ref l3), v7, v8, v9, v10, none]) ∧ Same H1 H') ⟨⟨_, _, _, _, rfl⟩, s14⟩ ?_ ?_
    · rintro i σ H5 hi ⟨⟨v7, v8, v9, v10, rfl⟩, s5⟩
      rw [show (0 : Int) + (i : Nat) = (i : Nat) by omega]
      replace hi : i < 4 := hi
      refine ⟨_, rfl, ad, ns, 2, rfl, (s1.trans s5).seq hS, hl, by decide, _, rfl, _, _, rfl, by omega, by omega, ?_⟩
      generalize mixZ (cellZ ns 2) (i : Nat) = cc
      refine ⟨_, rfl, _, _, rfl, rfl, ⟨by decide, by decide⟩, _, rfl, _, rfl, _, rfl, _, pw, po, pm, ws, os, ms, rfl, SqL.of (s5 _ _ ew), SqL.of (s5 _ _ eo), SqL.of (s5 _ _ em), hg, fun H7 r zs7 qs7 tk s7 e7 hA7 dl7 hp7 hr7 => ?_⟩
      have s17 := s5.trans s7
      have lq7 : qs7.length = tk.length := by have := hp7.length_eq; rwa [List.length_map] at this
      have lz7 : zs7.length = qs7.length := by have := DataAll.length hA7; rwa [List.length_map] at this
      have fw7 := dl7.few g1 hml
      have wk7 := dl7.weak g1 hml op
      refine ⟨_, rfl, _, rfl, _, rfl, _, rfl, r, pw, po, pm, zs7, qs7, ws, os, ms, rfl, SqL.of e7, hA7, SqL.of (s17 _ _ ew), SqL.of (s17 _ _ eo), SqL.of (s17 _ _ em), by omega, by omega, by omega, fun H8 s8 => ?_⟩
      rw [dl7.dealB hp7 hr7]
      refine ⟨_, _, rfl, rfl, _, rfl, iteF ?_⟩
      have s18 := s17.trans s8
      refine ⟨_, rfl, pw, ws.map (fun n : Nat => (n : Int)), rfl, SqL.of (by rw [List.map_map]; exact s18 _ _ ew), ?_⟩
      rw [CO.sum_nat]
      refine ⟨_, rfl, .ref r, zs7.length, rfl, .inl ⟨_, SqL.of (s8 _ _ e7), rfl⟩, _, _, rfl, rfl, _, rfl, _, _, rfl, rfl, _, rfl, ?_⟩
      rw [show decide (((CD.sumN ws : Nat) : Int) - (zs7.length : Nat) < (z : Nat)) = false from decide_eq_false (by omega)]
      refine iteF ?_
      refine ⟨_, rfl, .ref pw, ws.length, rfl, .inl ⟨_, SqL.of (s18 _ _ ew), by rw [nV_len]⟩, _, rfl, by omega, by omega, fun pc hpc => ?_⟩
      refine comp_grow hpc (yields_range (P := fun _ => True)) (fun σ => ∃ v, σ = [v, some (.int cc)]) (fun x => match x with | .int y => if mixZ cc y / 5 % 2 = 1 then some (.int y) else none | _ => none) ⟨_, rfl⟩ (fun _ _ => trivial) (by rw [List.length_map, List.length_range]; omega) ?_ ?_
      · rintro x ys σ H9 R1 R0 hx ⟨v, rfl⟩ s9 k1 k0
        obtain ⟨p, hp, rfl⟩ := List.mem_map.mp hx
        have hp' := List.mem_range.mp hp
        refine ⟨_, rfl, _, rfl, cc, _, rfl, by omega, by omega, _, _, rfl, rfl, ⟨by decide, by decide⟩, _, _, rfl, rfl, (by show (0 : Int) < 2; decide), rfl, _, rfl, ite2 (fun h1 => ?_) (fun h1 => ?_)⟩
        · exact ⟨_, rfl, k1 _ _ _ ⟨_, rfl⟩ (if_pos (V.int.inj (of_decide_eq_true h1))) (Same.refl _)⟩
        · exact k0 _ _ ⟨_, rfl⟩ (if_neg fun y => h1 (decide_eq_true (congrArg V.int y))) (Same.refl _)
      intro H9 s9 e9
      rw [Int.toNat_natCast] at e9
      have ex : ((List.range ws.length).map fun i : Nat => V.int (0 + (i : Nat))).filterMap (fun x => match x with | .int y => if mixZ cc y / 5 % 2 = 1 then some (V.int y) else none | _ => none) = nV ((List.range ws.length).filter fun p => decide (mixZ cc (p : Nat) / 5 % 2 = 1)) := by
        rw [List.filterMap_map]
        refine CO.fm_filter fun p hp => ?_
        show (if mixZ cc (0 + (p : Nat)) / 5 % 2 = 1 then some (V.int (0 + (p : Nat))) else none) = _
        rw [show (0 : Int) + (p : Nat) = (p : Nat) by omega]
        by_cases h : mixZ cc (p : Nat) / 5 % 2 = 1
        · rw [if_pos h, if_pos (decide_eq_true h)]
        · rw [if_neg h, if_neg (by rw [decide_eq_false h]; decide)]
      rw [ex] at e9
      have hpx : CD.Paper ws.length ((List.range ws.length).filter fun p => decide (mixZ cc (p : Nat) / 5 % 2 = 1)) := ⟨List.nodup_range.filter _, fun p hp => List.mem_range.mp (List.mem_filter.mp hp).1⟩
      generalize (List.range ws.length).filter (fun p => decide (mixZ cc (p : Nat) / 5 % 2 = 1)) = px at e9 hpx
      have lpx := CO.paper_len hpx
      have s19 := s18.trans s9
      refine ⟨_, rfl, _, rfl, _, rfl, _, rfl, pc, pw, po, pm, px, ws, os, ms, rfl, SqL.of e9, SqL.of (s19 _ _ ew), SqL.of (s19 _ _ eo), SqL.of (s19 _ _ em), hpx.2, g1, by omega, by omega, fun H10 s10 => ?_⟩
      have le := op.2 px hpx
      refine ⟨_, rfl, _, _, rfl, rfl, _, rfl, ?_⟩
      rw [show decide (((z : Nat) : Int) < CG.shownZ px ws os ms) = false from decide_eq_false (by omega)]
      exact iteF ⟨⟨_, _, _, _, rfl⟩, s19.trans s10⟩
    rintro σ H5 ⟨⟨v7, v8, v9, v10, rfl⟩, s5⟩
    refine ⟨_, rfl, pw, _, rfl, SqL.of (s5 _ _ ew), fun l4 h4 => ?_⟩
    rw [show (nV ws).reverse = nV ws.reverse by unfold nV; rw [List.map_reverse]]
    have s6 := s5.trans (Same.upd0 (o := .lst (nV ws.reverse)) h4)
    have e6 : upd H5 l4 (.lst (nV ws.reverse)) l4 = some (.lst (nV ws.reverse)) := upd_same
    generalize upd H5 l4 (.lst (nV ws.reverse)) = H6 at s6 e6 ⊢
    refine ⟨_, rfl, _, rfl, pm, _, rfl, SqL.of (s6 _ _ em), fun l5 h5 => ?_⟩
    rw [show (nV ms).reverse = nV ms.reverse by unfold nV; rw [List.map_reverse]]
    have s7 := s6.trans (Same.upd0 (o := .lst (nV ms.reverse)) h5)
    have e67 := (Same.upd0 (o := .lst (nV ms.reverse)) h5) _ _ e6
    have e7 : upd H6 l5 (.lst (nV ms.reverse)) l5 = some (.lst (nV ms.reverse)) := upd_same
    generalize upd H6 l5 (.lst (nV ms.reverse)) = H7 at s7 e67 e7 ⊢
    refine ⟨l4, po, l5, ws.reverse, os, ms.reverse, rfl, e67, s7 _ _ eo, e7, by rw [List.length_reverse, List.length_reverse]; exact g1, by omega, by rw [List.length_reverse]; omega, fun m hm => hg.ml m (List.mem_reverse.mp hm), by rw [CD.sumN_perm ((List.reverse_perm ws).map _)]; exact gd.few, fun H8 t8 l18 l38 zs8 qs8 paper8 z8 s8 et8 _ _ _ _ _ _ _ op8 => ?_⟩
    have ez := CD.opt_rev g1 op op8
    refine ⟨t8, _, _, _, rfl, rfl, SqT.of et8, rfl, _, rfl, rfl, _, rfl, ?_⟩
    rw [show (!decide (V.int ((z8 : Nat) : Int) = V.int ((z : Nat) : Int))) = false by rw [ez, decide_eq_true rfl]; rfl]
    refine iteF ?_
    have s18 := s7.trans s8
    refine ⟨_, rfl, pm, rfl, ⟨_, SqL.of (s18 _ _ em)⟩, fun pc hpc => ?_⟩
    refine comp_grow hpc (yields_list (xs := nV ms)) (fun σ => ∃ v, σ = [v, some (.ref po)]) (fun x => match x with | .int y => some (.int (CD.turn y.toNat os.length : Nat)) | _ => none) ⟨_, rfl⟩ (fun H' s' => SqL.of (s' _ _ (s18 _ _ em))) (by rw [nV_len]; omega) ?_ ?_
    · rintro x ys σ H9 R1 R0 hx ⟨v, rfl⟩ s9 k1 k0
      obtain ⟨m, hm, rfl⟩ := List.mem_map.mp hx
      refine ⟨_, rfl, _, rfl, .ref po, os.length, rfl, .inl ⟨_, SqL.of ((s18.trans s9) _ _ eo), by rw [nV_len]⟩, m, os.length, rfl, by omega, fun r hr => ?_⟩
      rw [CD.turn_of hr]
      exact k1 _ _ _ ⟨_, rfl⟩ (by show some (V.int (CD.turn ((m : Nat) : Int).toNat os.length : Nat)) = _; rw [Int.toNat_natCast]) (Same.refl _)
    intro H9 s9 e9
    have ex : (nV ms).filterMap (fun x => match x with | .int y => some (V.int (CD.turn y.toNat os.length : Nat)) | _ => none) = nV (ms.map fun m => CD.turn m os.length) := by
      unfold nV
      rw [List.filterMap_map, List.map_map]
      exact CG.filterMap_some fun m _ => by show some (V.int (CD.turn ((m : Nat) : Int).toNat os.length : Nat)) = _; rw [Int.toNat_natCast]; rfl
    rw [ex] at e9
    have s19 := s18.trans s9
    refine ⟨_, rfl, _, rfl, po, _, rfl, SqL.of (s19 _ _ eo), fun l6 h6 => ?_⟩
    rw [show (nV os).reverse = nV os.reverse by unfold nV; rw [List.map_reverse]]
    have s20 := s19.trans (Same.upd0 (o := .lst (nV os.reverse)) h6)
    have e20 := (Same.upd0 (o := .lst (nV os.reverse)) h6) _ _ e9
    have f20 : upd H9 l6 (.lst (nV os.reverse)) l6 = some (.lst (nV os.reverse)) := upd_same
    generalize upd H9 l6 (.lst (nV os.reverse)) = H20 at s20 e20 f20 ⊢
    refine ⟨_, rfl, pw, l6, pc, ws, os.reverse, ms.map (fun m => CD.turn m os.length), rfl, s20 _ _ ew, f20, e20, by rw [List.length_map]; exact g1, by rw [List.length_reverse]; omega, by rw [List.length_map]; omega, (fun m hm => by
      obtain ⟨x, _, rfl⟩ := List.mem_map.mp hm
      rw [List.length_reverse]
      exact CD.turn_lt x _), by rw [List.length_reverse]; exact gd.few, fun H21 t21 l121 l321 zs21 qs21 paper21 z21 s21 et21 _ _ _ _ _ _ _ op21 => ?_⟩
    have ez2 := CD.opt_turn op op21 fun p w hw => CD.hb_turn ms os.length p w hw
    refine ⟨t21, _, _, _, rfl, rfl, SqT.of et21, rfl, _, rfl, rfl, ?_⟩
    rw [show decide (V.int ((z21 : Nat) : Int) = V.int ((z : Nat) : Int)) = true from decide_eq_true (by rw [ez2])]
    exact q H21
end
theorem all_mk {l : PySem.W.OpenLaw} {w : World} {K : PySem.W.Frag} {h : Heap} {mg : Str → Option Value} {fa : Addr} (X : K.In h) (G : h.Ns mainGlobals mg) (hfa : mg "law" = some (.ref fa))
    {C_Dealer : Addr}
    {f_q20 : Addr} {od1 an1 : Option Addr} {sl1 : Array (Option Value)} {oc1 kV1 dc1 pm1 cd1 ct1 : Value}
    {f_q21 : Addr} {od2 an2 : Option Addr} {sl2 : Array (Option Value)} {oc2 kV2 dc2 pm2 cd2 ct2 : Value}
    {f_q9 : Addr} {od3 an3 : Option Addr} {sl3 : Array (Option Value)} {oc3 kV3 dc3 pm3 cd3 ct3 : Value}
    {f_q8 : Addr} {od4 an4 : Option Addr} {sl4 : Array (Option Value)} {oc4 kV4 dc4 pm4 cd4 ct4 : Value}
    {f_q25 : Addr} {od5 an5 : Option Addr} {sl5 : Array (Option Value)} {oc5 kV5 dc5 pm5 cd5 ct5 : Value}
    {f_q7 : Addr} {od6 an6 : Option Addr} {sl6 : Array (Option Value)} {oc6 kV6 dc6 pm6 cd6 ct6 : Value}
    {f_q19 : Addr} {od7 an7 : Option Addr} {sl7 : Array (Option Value)} {oc7 kV7 dc7 pm7 cd7 ct7 : Value}
    {f_q0 : Addr} {od8 an8 : Option Addr} {sl8 : Array (Option Value)} {oc8 kV8 dc8 pm8 cd8 ct8 : Value}
    {f_q4 : Addr} {od9 an9 : Option Addr} {sl9 : Array (Option Value)} {oc9 kV9 dc9 pm9 cd9 ct9 : Value}
    {f_q2 : Addr} {od10 an10 : Option Addr} {sl10 : Array (Option Value)} {oc10 kV10 dc10 pm10 cd10 ct10 : Value}
    {f_q1 : Addr} {od11 an11 : Option Addr} {sl11 : Array (Option Value)} {oc11 kV11 dc11 pm11 cd11 ct11 : Value}
    {f_q3 : Addr} {od12 an12 : Option Addr} {sl12 : Array (Option Value)} {oc12 kV12 dc12 pm12 cd12 ct12 : Value}
    {f_q23 : Addr} {od13 an13 : Option Addr} {sl13 : Array (Option Value)} {oc13 kV13 dc13 pm13 cd13 ct13 : Value}
    {f_q6 : Addr} {od14 an14 : Option Addr} {sl14 : Array (Option Value)} {oc14 kV14 dc14 pm14 cd14 ct14 : Value}
    {f_q11 : Addr} {od15 an15 : Option Addr} {sl15 : Array (Option Value)} {oc15 kV15 dc15 pm15 cd15 ct15 : Value}
    {f_q5 : Addr} {od16 an16 : Option Addr} {sl16 : Array (Option Value)} {oc16 kV16 dc16 pm16 cd16 ct16 : Value}
    {f_q22 : Addr} {od17 an17 : Option Addr} {sl17 : Array (Option Value)} {oc17 kV17 dc17 pm17 cd17 ct17 : Value}
    {f_q10 : Addr} {od18 an18 : Option Addr} {sl18 : Array (Option Value)} {oc18 kV18 dc18 pm18 cd18 ct18 : Value}
    {f_q24 : Addr} {od19 an19 : Option Addr} {sl19 : Array (Option Value)} {oc19 kV19 dc19 pm19 cd19 ct19 : Value}
    {f_q26 : Addr} {od20 an20 : Option Addr} {sl20 : Array (Option Value)} {oc20 kV20 dc20 pm20 cd20 ct20 : Value}
    {f_q13 : Addr} {od21 an21 : Option Addr} {sl21 : Array (Option Value)} {oc21 kV21 dc21 pm21 cd21 ct21 : Value}
    {f_q16 : Addr} {od22 an22 : Option Addr} {sl22 : Array (Option Value)} {oc22 kV22 dc22 pm22 cd22 ct22 : Value}
    {f_q15 : Addr} {od23 an23 : Option Addr} {sl23 : Array (Option Value)} {oc23 kV23 dc23 pm23 cd23 ct23 : Value}
    {f_q14 : Addr} {od24 an24 : Option Addr} {sl24 : Array (Option Value)} {oc24 kV24 dc24 pm24 cd24 ct24 : Value}
    {f_q17 : Addr} {od25 an25 : Option Addr} {sl25 : Array (Option Value)} {oc25 kV25 dc25 pm25 cd25 ct25 : Value}
    {f_q18 : Addr} {od26 an26 : Option Addr} {sl26 : Array (Option Value)} {oc26 kV26 dc26 pm26 cd26 ct26 : Value}
    {f_q12 : Addr} {od27 an27 : Option Addr} {sl27 : Array (Option Value)} {oc27 kV27 dc27 pm27 cd27 ct27 : Value}
    (m_Dealer : PySem.W.nsIn K mainGlobals "Dealer" = some (some (.ref C_Dealer)))
    (a1 : PySem.W.nsIn K mainGlobals "mask_of" = some (some (.ref f_q20))) (l1 : K.lookup f_q20 = some ⟨oc1, od1, .func (PySem.W.fnOf "mask_of" "mask_of" (defArgs s_q20) (defBody s_q20) (defScope s_q20) .none kV1 dc1 pm1 an1 cd1 ct1), sl1⟩) (c1 : PySem.W.codeIn K cd1 "mask_of" = true) (k1 : PySem.W.keepIn K (.ref f_q20) = true)
    (a2 : PySem.W.nsIn K mainGlobals "members" = some (some (.ref f_q21))) (l2 : K.lookup f_q21 = some ⟨oc2, od2, .func (PySem.W.fnOf "members" "members" (defArgs s_q21) (defBody s_q21) (defScope s_q21) .none kV2 dc2 pm2 an2 cd2 ct2), sl2⟩) (c2 : PySem.W.codeIn K cd2 "members" = true) (k2 : PySem.W.keepIn K (.ref f_q21) = true)
    (a3 : PySem.W.nsIn K mainGlobals "has" = some (some (.ref f_q9))) (l3 : K.lookup f_q9 = some ⟨oc3, od3, .func (PySem.W.fnOf "has" "has" (defArgs s_q9) (defBody s_q9) (defScope s_q9) .none kV3 dc3 pm3 an3 cd3 ct3), sl3⟩) (c3 : PySem.W.codeIn K cd3 "has" = true) (k3 : PySem.W.keepIn K (.ref f_q9) = true)
    (a4 : PySem.W.nsIn K mainGlobals "first_of" = some (some (.ref f_q8))) (l4 : K.lookup f_q8 = some ⟨oc4, od4, .func (PySem.W.fnOf "first_of" "first_of" (defArgs s_q8) (defBody s_q8) (defScope s_q8) .none kV4 dc4 pm4 an4 cd4 ct4), sl4⟩) (c4 : PySem.W.codeIn K cd4 "first_of" = true) (k4 : PySem.W.keepIn K (.ref f_q8) = true)
    (a5 : PySem.W.nsIn K mainGlobals "shared" = some (some (.ref f_q25))) (l5 : K.lookup f_q25 = some ⟨oc5, od5, .func (PySem.W.fnOf "shared" "shared" (defArgs s_q25) (defBody s_q25) (defScope s_q25) .none kV5 dc5 pm5 an5 cd5 ct5), sl5⟩) (c5 : PySem.W.codeIn K cd5 "shared" = true) (k5 : PySem.W.keepIn K (.ref f_q25) = true)
    (a6 : PySem.W.nsIn K mainGlobals "either" = some (some (.ref f_q7))) (l6 : K.lookup f_q7 = some ⟨oc6, od6, .func (PySem.W.fnOf "either" "either" (defArgs s_q7) (defBody s_q7) (defScope s_q7) .none kV6 dc6 pm6 an6 cd6 ct6), sl6⟩) (c6 : PySem.W.codeIn K cd6 "either" = true) (k6 : PySem.W.keepIn K (.ref f_q7) = true)
    (a7 : PySem.W.nsIn K mainGlobals "less" = some (some (.ref f_q19))) (l7 : K.lookup f_q19 = some ⟨oc7, od7, .func (PySem.W.fnOf "less" "less" (defArgs s_q19) (defBody s_q19) (defScope s_q19) .none kV7 dc7 pm7 an7 cd7 ct7), sl7⟩) (c7 : PySem.W.codeIn K cd7 "less" = true) (k7 : PySem.W.keepIn K (.ref f_q19) = true)
    (a8 : PySem.W.findIn K (.ref C_Dealer) "__init__" = some (some (.ref f_q0))) (l8 : K.lookup f_q0 = some ⟨oc8, od8, .func (PySem.W.fnOf "__init__" "Dealer.__init__" (defArgs s_q0) (defBody s_q0) (defScope s_q0) .none kV8 dc8 pm8 an8 cd8 ct8), sl8⟩) (c8 : PySem.W.codeIn K cd8 "Dealer.__init__" = true) (k8 : PySem.W.keepIn K (.ref f_q0) = true)
    (a9 : PySem.W.findIn K (.ref C_Dealer) "search" = some (some (.ref f_q4))) (l9 : K.lookup f_q4 = some ⟨oc9, od9, .func (PySem.W.fnOf "search" "Dealer.search" (defArgs s_q4) (defBody s_q4) (defScope s_q4) .none kV9 dc9 pm9 an9 cd9 ct9), sl9⟩) (c9 : PySem.W.codeIn K cd9 "Dealer.search" = true) (k9 : PySem.W.keepIn K (.ref f_q4) = true)
    (a10 : PySem.W.findIn K (.ref C_Dealer) "go_on_from" = some (some (.ref f_q2))) (l10 : K.lookup f_q2 = some ⟨oc10, od10, .func (PySem.W.fnOf "go_on_from" "Dealer.go_on_from" (defArgs s_q2) (defBody s_q2) (defScope s_q2) .none kV10 dc10 pm10 an10 cd10 ct10), sl10⟩) (c10 : PySem.W.codeIn K cd10 "Dealer.go_on_from" = true) (k10 : PySem.W.keepIn K (.ref f_q2) = true)
    (a11 : PySem.W.findIn K (.ref C_Dealer) "change" = some (some (.ref f_q1))) (l11 : K.lookup f_q1 = some ⟨oc11, od11, .func (PySem.W.fnOf "change" "Dealer.change" (defArgs s_q1) (defBody s_q1) (defScope s_q1) .none kV11 dc11 pm11 an11 cd11 ct11), sl11⟩) (c11 : PySem.W.codeIn K cd11 "Dealer.change" = true) (k11 : PySem.W.keepIn K (.ref f_q1) = true)
    (a12 : PySem.W.findIn K (.ref C_Dealer) "grow" = some (some (.ref f_q3))) (l12 : K.lookup f_q3 = some ⟨oc12, od12, .func (PySem.W.fnOf "grow" "Dealer.grow" (defArgs s_q3) (defBody s_q3) (defScope s_q3) .none kV12 dc12 pm12 an12 cd12 ct12), sl12⟩) (c12 : PySem.W.codeIn K cd12 "Dealer.grow" = true) (k12 : PySem.W.keepIn K (.ref f_q3) = true)
    (a13 : PySem.W.nsIn K mainGlobals "pairs_of" = some (some (.ref f_q23))) (l13 : K.lookup f_q23 = some ⟨oc13, od13, .func (PySem.W.fnOf "pairs_of" "pairs_of" (defArgs s_q23) (defBody s_q23) (defScope s_q23) .none kV13 dc13 pm13 an13 cd13 ct13), sl13⟩) (c13 : PySem.W.codeIn K cd13 "pairs_of" = true) (k13 : PySem.W.keepIn K (.ref f_q23) = true)
    (a14 : PySem.W.nsIn K mainGlobals "deal" = some (some (.ref f_q6))) (l14 : K.lookup f_q6 = some ⟨oc14, od14, .func (PySem.W.fnOf "deal" "deal" (defArgs s_q6) (defBody s_q6) (defScope s_q6) .none kV14 dc14 pm14 an14 cd14 ct14), sl14⟩) (c14 : PySem.W.codeIn K cd14 "deal" = true) (k14 : PySem.W.keepIn K (.ref f_q6) = true)
    (a15 : PySem.W.nsIn K mainGlobals "is_rising" = some (some (.ref f_q11))) (l15 : K.lookup f_q11 = some ⟨oc15, od15, .func (PySem.W.fnOf "is_rising" "is_rising" (defArgs s_q11) (defBody s_q11) (defScope s_q11) .none kV15 dc15 pm15 an15 cd15 ct15), sl15⟩) (c15 : PySem.W.codeIn K cd15 "is_rising" = true) (k15 : PySem.W.keepIn K (.ref f_q11) = true)
    (a16 : PySem.W.nsIn K mainGlobals "can_be_paired" = some (some (.ref f_q5))) (l16 : K.lookup f_q5 = some ⟨oc16, od16, .func (PySem.W.fnOf "can_be_paired" "can_be_paired" (defArgs s_q5) (defBody s_q5) (defScope s_q5) .none kV16 dc16 pm16 an16 cd16 ct16), sl16⟩) (c16 : PySem.W.codeIn K cd16 "can_be_paired" = true) (k16 : PySem.W.keepIn K (.ref f_q5) = true)
    (a17 : PySem.W.nsIn K mainGlobals "none_above" = some (some (.ref f_q22))) (l17 : K.lookup f_q22 = some ⟨oc17, od17, .func (PySem.W.fnOf "none_above" "none_above" (defArgs s_q22) (defBody s_q22) (defScope s_q22) .none kV17 dc17 pm17 an17 cd17 ct17), sl17⟩) (c17 : PySem.W.codeIn K cd17 "none_above" = true) (k17 : PySem.W.keepIn K (.ref f_q22) = true)
    (a18 : PySem.W.nsIn K mainGlobals "is_dealing" = some (some (.ref f_q10))) (l18 : K.lookup f_q10 = some ⟨oc18, od18, .func (PySem.W.fnOf "is_dealing" "is_dealing" (defArgs s_q10) (defBody s_q10) (defScope s_q10) .none kV18 dc18 pm18 an18 cd18 ct18), sl18⟩) (c18 : PySem.W.codeIn K cd18 "is_dealing" = true) (k18 : PySem.W.keepIn K (.ref f_q10) = true)
    (a19 : PySem.W.nsIn K mainGlobals "places_fitted" = some (some (.ref f_q24))) (l19 : K.lookup f_q24 = some ⟨oc19, od19, .func (PySem.W.fnOf "places_fitted" "places_fitted" (defArgs s_q24) (defBody s_q24) (defScope s_q24) .none kV19 dc19 pm19 an19 cd19 ct19), sl19⟩) (c19 : PySem.W.codeIn K cd19 "places_fitted" = true) (k19 : PySem.W.keepIn K (.ref f_q24) = true)
    (a20 : PySem.W.nsIn K mainGlobals "shown" = some (some (.ref f_q26))) (l20 : K.lookup f_q26 = some ⟨oc20, od20, .func (PySem.W.fnOf "shown" "shown" (defArgs s_q26) (defBody s_q26) (defScope s_q26) .none kV20 dc20 pm20 an20 cd20 ct20), sl20⟩) (c20 : PySem.W.codeIn K cd20 "shown" = true) (k20 : PySem.W.keepIn K (.ref f_q26) = true)
    (a21 : PySem.W.nsIn K mainGlobals "_law_cell_at" = some (some (.ref f_q13))) (l21 : K.lookup f_q13 = some ⟨oc21, od21, .func (PySem.W.fnOf "_law_cell_at" "_law_cell_at" (defArgs s_q13) (defBody s_q13) (defScope s_q13) .none kV21 dc21 pm21 an21 cd21 ct21), sl21⟩) (c21 : PySem.W.codeIn K cd21 "_law_cell_at" = true) (k21 : PySem.W.keepIn K (.ref f_q13) = true)
    (a22 : PySem.W.nsIn K mainGlobals "_law_mixed" = some (some (.ref f_q16))) (l22 : K.lookup f_q16 = some ⟨oc22, od22, .func (PySem.W.fnOf "_law_mixed" "_law_mixed" (defArgs s_q16) (defBody s_q16) (defScope s_q16) .none kV22 dc22 pm22 an22 cd22 ct22), sl22⟩) (c22 : PySem.W.codeIn K cd22 "_law_mixed" = true) (k22 : PySem.W.keepIn K (.ref f_q16) = true)
    (a23 : PySem.W.nsIn K mainGlobals "_law_ground" = some (some (.ref f_q15))) (l23 : K.lookup f_q15 = some ⟨oc23, od23, .func (PySem.W.fnOf "_law_ground" "_law_ground" (defArgs s_q15) (defBody s_q15) (defScope s_q15) .none kV23 dc23 pm23 an23 cd23 ct23), sl23⟩) (c23 : PySem.W.codeIn K cd23 "_law_ground" = true) (k23 : PySem.W.keepIn K (.ref f_q15) = true)
    (a24 : PySem.W.nsIn K mainGlobals "_law_fit" = some (some (.ref f_q14))) (l24 : K.lookup f_q14 = some ⟨oc24, od24, .func (PySem.W.fnOf "_law_fit" "_law_fit" (defArgs s_q14) (defBody s_q14) (defScope s_q14) .none kV24 dc24 pm24 an24 cd24 ct24), sl24⟩) (c24 : PySem.W.codeIn K cd24 "_law_fit" = true) (k24 : PySem.W.keepIn K (.ref f_q14) = true)
    (a25 : PySem.W.nsIn K mainGlobals "_law_taken" = some (some (.ref f_q17))) (l25 : K.lookup f_q17 = some ⟨oc25, od25, .func (PySem.W.fnOf "_law_taken" "_law_taken" (defArgs s_q17) (defBody s_q17) (defScope s_q17) .none kV25 dc25 pm25 an25 cd25 ct25), sl25⟩) (c25 : PySem.W.codeIn K cd25 "_law_taken" = true) (k25 : PySem.W.keepIn K (.ref f_q17) = true)
    (a26 : PySem.W.nsIn K mainGlobals "_law_turned_bits" = some (some (.ref f_q18))) (l26 : K.lookup f_q18 = some ⟨oc26, od26, .func (PySem.W.fnOf "_law_turned_bits" "_law_turned_bits" (defArgs s_q18) (defBody s_q18) (defScope s_q18) .none kV26 dc26 pm26 an26 cd26 ct26), sl26⟩) (c26 : PySem.W.codeIn K cd26 "_law_turned_bits" = true) (k26 : PySem.W.keepIn K (.ref f_q18) = true)
    (a27 : PySem.W.nsIn K mainGlobals "law" = some (some (.ref f_q12))) (l27 : K.lookup f_q12 = some ⟨oc27, od27, .func (PySem.W.fnOf "law" "law" (defArgs s_q12) (defBody s_q12) (defScope s_q12) .none kV27 dc27 pm27 an27 cd27 ct27), sl27⟩) (c27 : PySem.W.codeIn K cd27 "law" = true) (k27 : PySem.W.keepIn K (.ref f_q12) = true)
    (pg_Dealer : PySem.W.plainGet K C_Dealer Str.empty = true) (hd_Dealer : PySem.W.hasDictIn K C_Dealer = true) (po_Dealer : PySem.W.plainOver K C_Dealer = true) (sa_Dealer : PySem.W.findIn K (.ref C_Dealer) "__setattr__" = some (some (.builtin "object.__setattr__")))
    (mks_Dealer : PySem.W.makesIn K C_Dealer = true) (fn_q0 : PySem.W.isFn K (.ref f_q0) = true) (kp_Dealer : PySem.W.keepIn K (.ref C_Dealer) = true)
    (fn_q4 : PySem.W.isFn K (.ref f_q4) = true)
    (fn_q2 : PySem.W.isFn K (.ref f_q2) = true)
    (fn_q1 : PySem.W.isFn K (.ref f_q1) = true)
    (fn_q3 : PySem.W.isFn K (.ref f_q3) = true)
    (no_Dealer_masks : PySem.W.findIn K (.ref C_Dealer) "masks" = some none)
    (no_Dealer_held : PySem.W.findIn K (.ref C_Dealer) "held" = some none)
    (no_Dealer_still : PySem.W.findIn K (.ref C_Dealer) "still" = some none)
    (no_Dealer_left : PySem.W.findIn K (.ref C_Dealer) "left" = some none)
    (no_Dealer_came : PySem.W.findIn K (.ref C_Dealer) "came" = some none)
    (z_all : PySem.W.nsIn K mainGlobals "all" = some none)
    (z_enumerate : PySem.W.nsIn K mainGlobals "enumerate" = some none)
    (z_len : PySem.W.nsIn K mainGlobals "len" = some none)
    (z_list : PySem.W.nsIn K mainGlobals "list" = some none)
    (z_min : PySem.W.nsIn K mainGlobals "min" = some none)
    (z_range : PySem.W.nsIn K mainGlobals "range" = some none)
    (z_reversed : PySem.W.nsIn K mainGlobals "reversed" = some none)
    (z_sorted : PySem.W.nsIn K mainGlobals "sorted" = some none)
    (z_sum : PySem.W.nsIn K mainGlobals "sum" = some none)
    (z_zip : PySem.W.nsIn K mainGlobals "zip" = some none) :
    ∃ fd : FuncData, (∀ (s : Shared) (v : Value), BindsTo s fd ⟨[v], []⟩ [("_law_script", v)]) ∧ ∀ base : Heap, K.In base → base.Ns mainGlobals mg → FnOk l.prog w K mg base CX0 9 fa fd ["_law_script"] (sp_q12 K) := by
  have e := hfa.symm.trans (PySem.W.mg_of X G a27)
  cases e
  have T : Txt K mg ⟨f_q20, f_q21, f_q9, f_q8, f_q25, f_q7, f_q19, f_q0, f_q4, f_q2, f_q1, f_q3, f_q23, f_q6, f_q11, f_q5, f_q22, f_q10, f_q24, f_q26, f_q13, f_q16, f_q15, f_q14, f_q17, f_q18, C_Dealer⟩ := ⟨PySem.W.mg_of X G a1, PySem.W.mg_of X G a2, PySem.W.mg_of X G a3, PySem.W.mg_of X G a4, PySem.W.mg_of X G a5, PySem.W.mg_of X G a6, PySem.W.mg_of X G a7, PySem.W.mg_of X G a13, PySem.W.mg_of X G a14, PySem.W.mg_of X G a15, PySem.W.mg_of X G a16, PySem.W.mg_of X G a17, PySem.W.mg_of X G a18, PySem.W.mg_of X G a19, PySem.W.mg_of X G a20, PySem.W.mg_of X G a21, PySem.W.mg_of X G a22, PySem.W.mg_of X G a23, PySem.W.mg_of X G a24, PySem.W.mg_of X G a25, PySem.W.mg_of X G a26, PySem.W.mg_of X G m_Dealer, ⟨pg_Dealer, hd_Dealer, po_Dealer, sa_Dealer⟩, ⟨mks_Dealer, a8, fn_q0, kp_Dealer⟩, ⟨a9, fn_q4, k9⟩, ⟨a10, fn_q2, k10⟩, ⟨a11, fn_q1, k11⟩, ⟨a12, fn_q3, k12⟩, no_Dealer_masks, no_Dealer_held, no_Dealer_still, no_Dealer_left, no_Dealer_came, PySem.W.mg_none_of X G z_all, PySem.W.mg_none_of X G z_enumerate, PySem.W.mg_none_of X G z_len, PySem.W.mg_none_of X G z_list, PySem.W.mg_none_of X G z_min, PySem.W.mg_none_of X G z_range, PySem.W.mg_none_of X G z_reversed, PySem.W.mg_none_of X G z_sorted, PySem.W.mg_none_of X G z_sum, PySem.W.mg_none_of X G z_zip⟩
  have F_q20 := fun_mk (st := s_q20) l1 c1 k1
  have b_q20 := F_q20.binds (ps := ["numbers"]) fun _ _ _ _ _ _ us hl => match us, hl with | [_], _ => rfl
  have F_q21 := fun_mk (st := s_q21) l2 c2 k2
  have b_q21 := F_q21.binds (ps := ["mask"]) fun _ _ _ _ _ _ us hl => match us, hl with | [_], _ => rfl
  have F_q9 := fun_mk (st := s_q9) l3 c3 k3
  have b_q9 := F_q9.binds (ps := ["mask", "number"]) fun _ _ _ _ _ _ us hl => match us, hl with | [_, _], _ => rfl
  have F_q8 := fun_mk (st := s_q8) l4 c4 k4
  have b_q8 := F_q8.binds (ps := ["mask"]) fun _ _ _ _ _ _ us hl => match us, hl with | [_], _ => rfl
  have F_q25 := fun_mk (st := s_q25) l5 c5 k5
  have b_q25 := F_q25.binds (ps := ["one", "other"]) fun _ _ _ _ _ _ us hl => match us, hl with | [_, _], _ => rfl
  have F_q7 := fun_mk (st := s_q7) l6 c6 k6
  have b_q7 := F_q7.binds (ps := ["one", "other"]) fun _ _ _ _ _ _ us hl => match us, hl with | [_, _], _ => rfl
  have F_q19 := fun_mk (st := s_q19) l7 c7 k7
  have b_q19 := F_q19.binds (ps := ["one", "other"]) fun _ _ _ _ _ _ us hl => match us, hl with | [_, _], _ => rfl
  have F_q0 := fun_mk (st := s_q0) l8 c8 k8
  have b_q0 := F_q0.binds (ps := ["self", "wants", "oftens", "masks"]) fun _ _ _ _ _ _ us hl => match us, hl with | [_, _, _, _], _ => rfl
  have F_q4 := fun_mk (st := s_q4) l9 c9 k9
  have b_q4 := F_q4.binds (ps := ["self"]) fun _ _ _ _ _ _ us hl => match us, hl with | [_], _ => rfl
  have F_q2 := fun_mk (st := s_q2) l10 c10 k10
  have b_q2 := F_q2.binds (ps := ["self", "place", "works"]) fun _ _ _ _ _ _ us hl => match us, hl with | [_, _, _], _ => rfl
  have F_q1 := fun_mk (st := s_q1) l11 c11 k11
  have b_q1 := F_q1.binds (ps := ["self", "pair"]) fun _ _ _ _ _ _ us hl => match us, hl with | [_, _], _ => rfl
  have F_q3 := fun_mk (st := s_q3) l12 c12 k12
  have b_q3 := F_q3.binds (ps := ["self"]) fun _ _ _ _ _ _ us hl => match us, hl with | [_], _ => rfl
  have F_q23 := fun_mk (st := s_q23) l13 c13 k13
  have b_q23 := F_q23.binds (ps := ["held"]) fun _ _ _ _ _ _ us hl => match us, hl with | [_], _ => rfl
  have F_q6 := fun_mk (st := s_q6) l14 c14 k14
  have b_q6 := F_q6.binds (ps := ["wants", "oftens", "masks"]) fun _ _ _ _ _ _ us hl => match us, hl with | [_, _, _], _ => rfl
  have F_q11 := fun_mk (st := s_q11) l15 c15 k15
  have b_q11 := F_q11.binds (ps := ["things"]) fun _ _ _ _ _ _ us hl => match us, hl with | [_], _ => rfl
  have F_q5 := fun_mk (st := s_q5) l16 c16 k16
  have b_q5 := F_q5.binds (ps := ["work", "place", "oftens", "masks"]) fun _ _ _ _ _ _ us hl => match us, hl with | [_, _, _, _], _ => rfl
  have F_q22 := fun_mk (st := s_q22) l17 c17 k17
  have b_q22 := F_q22.binds (ps := ["numbers", "bounds"]) fun _ _ _ _ _ _ us hl => match us, hl with | [_, _], _ => rfl
  have F_q10 := fun_mk (st := s_q10) l18 c18 k18
  have b_q10 := F_q10.binds (ps := ["pairs", "wants", "oftens", "masks"]) fun _ _ _ _ _ _ us hl => match us, hl with | [_, _, _, _], _ => rfl
  have F_q24 := fun_mk (st := s_q24) l19 c19 k19
  have b_q24 := F_q24.binds (ps := ["work", "paper", "masks"]) fun _ _ _ _ _ _ us hl => match us, hl with | [_, _, _], _ => rfl
  have F_q26 := fun_mk (st := s_q26) l20 c20 k20
  have b_q26 := F_q26.binds (ps := ["paper", "wants", "oftens", "masks"]) fun _ _ _ _ _ _ us hl => match us, hl with | [_, _, _, _], _ => rfl
  have F_q13 := fun_mk (st := s_q13) l21 c21 k21
  have b_q13 := F_q13.binds (ps := ["_law_script", "_law_k"]) fun _ _ _ _ _ _ us hl => match us, hl with | [_, _], _ => rfl
  have F_q16 := fun_mk (st := s_q16) l22 c22 k22
  have b_q16 := F_q16.binds (ps := ["_law_cell", "_law_k"]) fun _ _ _ _ _ _ us hl => match us, hl with | [_, _], _ => rfl
  have F_q15 := fun_mk (st := s_q15) l23 c23 k23
  have b_q15 := F_q15.binds (ps := ["_law_script", "_law_most"]) fun _ _ _ _ _ _ us hl => match us, hl with | [_, _], _ => rfl
  have F_q14 := fun_mk (st := s_q14) l24 c24 k24
  have b_q14 := F_q14.binds (ps := ["_law_masks", "_law_work", "_law_place"]) fun _ _ _ _ _ _ us hl => match us, hl with | [_, _, _], _ => rfl
  have F_q17 := fun_mk (st := s_q17) l25 c25 k25
  have b_q17 := F_q17.binds (ps := ["_law_cell", "_law_wants", "_law_oftens", "_law_masks"]) fun _ _ _ _ _ _ us hl => match us, hl with | [_, _, _, _], _ => rfl
  have F_q18 := fun_mk (st := s_q18) l26 c26 k26
  have b_q18 := F_q18.binds (ps := ["_law_mask", "_law_many"]) fun _ _ _ _ _ _ us hl => match us, hl with | [_, _], _ => rfl
  have F_q12 := fun_mk (st := s_q12) l27 c27 k27
  refine ⟨PySem.W.fnOf "law" "law" (defArgs s_q12) (defBody s_q12) (defScope s_q12) .none kV27 dc27 pm27 an27 cd27 ct27, fun s v => .of_eq rfl, fun base _ _ => ?_⟩
  have G_q20 := ok_q20 (P := l.prog) (w := w) (base := base) F_q20 T
  have G_q9 := ok_q9 (P := l.prog) (w := w) (base := base) F_q9 T
  have G_q21 := ok_q21 (P := l.prog) (w := w) (base := base) F_q21 T G_q9 F_q9 b_q9
  have G_q8 := ok_q8 (P := l.prog) (w := w) (base := base) F_q8 T
  have G_q25 := ok_q25 (P := l.prog) (w := w) (base := base) F_q25 T
  have G_q7 := ok_q7 (P := l.prog) (w := w) (base := base) F_q7 T
  have G_q19 := ok_q19 (P := l.prog) (w := w) (base := base) F_q19 T
  have G_q0 := ok_q0 (P := l.prog) (w := w) (base := base) F_q0 T
  have G_q2 := ok_q2 (P := l.prog) (w := w) (base := base) F_q2 T G_q8 F_q8 b_q8 G_q25 F_q25 b_q25
  have G_q4 := ok_q4 (P := l.prog) (w := w) (base := base) F_q4 T G_q2 F_q2 b_q2 G_q8 F_q8 b_q8 G_q19 F_q19 b_q19 G_q20 F_q20 b_q20 G_q25 F_q25 b_q25
  have G_q1 := ok_q1 (P := l.prog) (w := w) (base := base) F_q1 T G_q7 F_q7 b_q7 G_q19 F_q19 b_q19 G_q20 F_q20 b_q20
  have G_q3 := ok_q3 (P := l.prog) (w := w) (base := base) F_q3 T G_q1 F_q1 b_q1 G_q4 F_q4 b_q4
  have G_q23 := ok_q23 (P := l.prog) (w := w) (base := base) F_q23 T G_q21 F_q21 b_q21
  have G_q6 := ok_q6 (P := l.prog) (w := w) (base := base) F_q6 T G_q0 F_q0 b_q0 G_q3 F_q3 b_q3 G_q23 F_q23 b_q23
  have G_q11 := ok_q11 (P := l.prog) (w := w) (base := base) F_q11 T
  have G_q5 := ok_q5 (P := l.prog) (w := w) (base := base) F_q5 T G_q9 F_q9 b_q9
  have G_q22 := ok_q22 (P := l.prog) (w := w) (base := base) F_q22 T
  have G_q10 := ok_q10 (P := l.prog) (w := w) (base := base) F_q10 T G_q5 F_q5 b_q5 G_q11 F_q11 b_q11 G_q22 F_q22 b_q22
  have G_q24 := ok_q24 (P := l.prog) (w := w) (base := base) F_q24 T G_q9 F_q9 b_q9
  have G_q26 := ok_q26 (P := l.prog) (w := w) (base := base) F_q26 T G_q24 F_q24 b_q24
  have G_q13 := ok_q13 (P := l.prog) (w := w) (base := base) F_q13 T
  have G_q16 := ok_q16 (P := l.prog) (w := w) (base := base) F_q16 T
  have G_q15 := ok_q15 (P := l.prog) (w := w) (base := base) F_q15 T G_q13 F_q13 b_q13 G_q16 F_q16 b_q16
  have G_q14 := ok_q14 (P := l.prog) (w := w) (base := base) F_q14 T
  have G_q17 := ok_q17 (P := l.prog) (w := w) (base := base) F_q17 T G_q14 F_q14 b_q14 G_q16 F_q16 b_q16
  have G_q18 := ok_q18 (P := l.prog) (w := w) (base := base) F_q18 T
  exact ok_q12 F_q12 T G_q13 F_q13 b_q13 G_q15 F_q15 b_q15 G_q16 F_q16 b_q16 G_q17 F_q17 b_q17 G_q18 F_q18 b_q18 G_q6 F_q6 b_q6 G_q10 F_q10 b_q10 G_q26 F_q26 b_q26
theorem walk {l : PySem.W.OpenLaw} {q : Program} {loose : List Str} {XP : (Str → Option Value) → Heap → Prop} {YP : World → Heap → Prop} {d : DefRec} {K : Params → PySem.W.Frag} (hn : l.most = some 63) (hdf : d.params.defaults = [])
    (hY : ∀ (w : World) (h : Heap), YP w h → (K w.params).In h)
    (F : ∀ (w : World) (mg : Str → Option Value) (fa : Addr) (h : Heap), (K w.params).In h → h.Ns mainGlobals mg → mg d.name = some (.ref fa) →
      ∃ fd : FuncData, (∀ (s : Shared) (u : Value), BindsTo s fd ⟨[u], []⟩ [("_law_script", u)]) ∧ ∀ base : Heap, (K w.params).In base → base.Ns mainGlobals mg → FnOk l.prog w (K w.params) mg base CX0 9 fa fd ["_law_script"] (sp_q12 (K w.params))) :
    PySem.W.WalkO q loose XP YP l.row.toRowW d [] (fun f vs => PySem.call f vs) :=
  L2.walk_of (n := 63) (k := 9) (x := "_law_script") (CX := fun _ => CX0) (sp := fun w => sp_q12 (K w.params)) hn (by decide) hdf ⟨rfl, by decide, by decide⟩ hY F (fun _ _ a ns hl _ hS => ⟨a, ns, rfl, hS, hl, fun _ => rfl⟩) fun _ _ _ _ _ z => z
end K54
open PySem PySem.W PyProof.Rows
set_option maxRecDepth 100000 in
set_option maxHeartbeats 0 in
theorem PySem.Challenge.cw_court_k54_whole_no_other_dealing_holds : PySem.Challenge.rw_court_k54_whole_no_other_dealing.Holds := by
  w_on; o_law; k_head; (case hw => w_witness2)
  k_fill
  refine K54.walk (l := PySem.Challenge.rw_court_k54_whole_no_other_dealing) rfl rfl (fun w h Y => PySem.W.kIn_of Y) ?F
  case F =>
    intro w mg fa h KX G hmg
    refine' K54.all_mk KX G hmg ?m_Dealer ?a1 ?l1 ?c1 ?k1 ?a2 ?l2 ?c2 ?k2 ?a3 ?l3 ?c3 ?k3 ?a4 ?l4 ?c4 ?k4 ?a5 ?l5 ?c5 ?k5 ?a6 ?l6 ?c6 ?k6 ?a7 ?l7 ?c7 ?k7 ?a8 ?l8 ?c8 ?k8 ?a9 ?l9 ?c9 ?k9 ?a10 ?l10 ?c10 ?k10 ?a11 ?l11 ?c11 ?k11 ?a12 ?l12 ?c12 ?k12 ?a13 ?l13 ?c13 ?k13 ?a14 ?l14 ?c14 ?k14 ?a15 ?l15 ?c15 ?k15 ?a16 ?l16 ?c16 ?k16 ?a17 ?l17 ?c17 ?k17 ?a18 ?l18 ?c18 ?k18 ?a19 ?l19 ?c19 ?k19 ?a20 ?l20 ?c20 ?k20 ?a21 ?l21 ?c21 ?k21 ?a22 ?l22 ?c22 ?k22 ?a23 ?l23 ?c23 ?k23 ?a24 ?l24 ?c24 ?k24 ?a25 ?l25 ?c25 ?k25 ?a26 ?l26 ?c26 ?k26 ?a27 ?l27 ?c27 ?k27 ?pg_Dealer ?hd_Dealer ?po_Dealer ?sa_Dealer ?mks_Dealer ?fn_q0 ?kp_Dealer ?fn_q4 ?fn_q2 ?fn_q1 ?fn_q3 ?no_Dealer_masks ?no_Dealer_held ?no_Dealer_still ?no_Dealer_left ?no_Dealer_came ?z_all ?z_enumerate ?z_len ?z_list ?z_min ?z_range ?z_reversed ?z_sorted ?z_sum ?z_zip
    (case m_Dealer => k_is)
    (case a1 => k_is)
    (case l1 => k_is)
    (case c1 => k_is)
    (case k1 => k_is)
    (case a2 => k_is)
    (case l2 => k_is)
    (case c2 => k_is)
    (case k2 => k_is)
    (case a3 => k_is)
    (case l3 => k_is)
    (case c3 => k_is)
    (case k3 => k_is)
    (case a4 => k_is)
    (case l4 => k_is)
    (case c4 => k_is)
    (case k4 => k_is)
    (case a5 => k_is)
    (case l5 => k_is)
    (case c5 => k_is)
    (case k5 => k_is)
    (case a6 => k_is)
    (case l6 => k_is)
    (case c6 => k_is)
    (case k6 => k_is)
    (case a7 => k_is)
    (case l7 => k_is)
    (case c7 => k_is)
    (case k7 => k_is)
    (case a8 => k_is)
    (case l8 => k_is)
    (case c8 => k_is)
    (case k8 => k_is)
    (case a9 => k_is)
    (case l9 => k_is)
    (case c9 => k_is)
    (case k9 => k_is)
    (case a10 => k_is)
    (case l10 => k_is)
    (case c10 => k_is)
    (case k10 => k_is)
    (case a11 => k_is)
    (case l11 => k_is)
    (case c11 => k_is)
    (case k11 => k_is)
    (case a12 => k_is)
    (case l12 => k_is)
    (case c12 => k_is)
    (case k12 => k_is)
    (case a13 => k_is)
    (case l13 => k_is)
    (case c13 => k_is)
    (case k13 => k_is)
    (case a14 => k_is)
    (case l14 => k_is)
    (case c14 => k_is)
    (case k14 => k_is)
    (case a15 => k_is)
    (case l15 => k_is)
    (case c15 => k_is)
    (case k15 => k_is)
    (case a16 => k_is)
    (case l16 => k_is)
    (case c16 => k_is)
    (case k16 => k_is)
    (case a17 => k_is)
    (case l17 => k_is)
    (case c17 => k_is)
    (case k17 => k_is)
    (case a18 => k_is)
    (case l18 => k_is)
    (case c18 => k_is)
    (case k18 => k_is)
    (case a19 => k_is)
    (case l19 => k_is)
    (case c19 => k_is)
    (case k19 => k_is)
    (case a20 => k_is)
    (case l20 => k_is)
    (case c20 => k_is)
    (case k20 => k_is)
    (case a21 => k_is)
    (case l21 => k_is)
    (case c21 => k_is)
    (case k21 => k_is)
    (case a22 => k_is)
    (case l22 => k_is)
    (case c22 => k_is)
    (case k22 => k_is)
    (case a23 => k_is)
    (case l23 => k_is)
    (case c23 => k_is)
    (case k23 => k_is)
    (case a24 => k_is)
    (case l24 => k_is)
    (case c24 => k_is)
    (case k24 => k_is)
    (case a25 => k_is)
    (case l25 => k_is)
    (case c25 => k_is)
    (case k25 => k_is)
    (case a26 => k_is)
    (case l26 => k_is)
    (case c26 => k_is)
    (case k26 => k_is)
    (case a27 => k_is)
    (case l27 => k_is)
    (case c27 => k_is)
    (case k27 => k_is)
    (case z_all => k_is)
    (case z_enumerate => k_is)
    (case z_len => k_is)
    (case z_list => k_is)
    (case z_min => k_is)
    (case z_range => k_is)
    (case z_reversed => k_is)
    (case z_sorted => k_is)
    (case z_sum => k_is)
    (case z_zip => k_is)
    (case pg_Dealer => first | k_is | kernel_rfl)
    (case hd_Dealer => first | k_is | kernel_rfl)
    (case po_Dealer => first | k_is | kernel_rfl)
    (case sa_Dealer => first | k_is | kernel_rfl)
    (case mks_Dealer => first | k_is | kernel_rfl)
    (case fn_q0 => first | k_is | kernel_rfl)
    (case kp_Dealer => first | k_is | kernel_rfl)
    (case fn_q4 => first | k_is | kernel_rfl)
    (case fn_q2 => first | k_is | kernel_rfl)
    (case fn_q1 => first | k_is | kernel_rfl)
    (case fn_q3 => first | k_is | kernel_rfl)
    (case no_Dealer_masks => first | k_is | kernel_rfl)
    (case no_Dealer_held => first | k_is | kernel_rfl)
    (case no_Dealer_still => first | k_is | kernel_rfl)
    (case no_Dealer_left => first | k_is | kernel_rfl)
    (case no_Dealer_came => first | k_is | kernel_rfl)
#print axioms PySem.Challenge.cw_court_k54_whole_no_other_dealing_holds
